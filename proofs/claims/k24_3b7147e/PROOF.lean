import PyProof.Rows.All
import Wide.All
import OpenK.AllK
import Wide.FinOn
import Lean
import PyProof.EqAt
import PyProof.EqKinds
import PyProof.TupleCall
import PySem.Challenge.RW_lath_k24_pinched
set_option Elab.async false
set_option linter.all false
set_option maxRecDepth 100000
/-! THE HAND LAYER, for ints, bools, texts, own classes, LISTS and tuples (index, slices, in, append, pop ..), calls, loops. Paste it whole ahead of your own text; what your proof does not reach may be deleted. -/
namespace L2
open PySem PySem.Spec PyProof.Rows

/-- a key: an int or a str -/
abbrev Key := Sum Int Str
def keyIs : Key → Value → Bool
  | .inl k, v => Value.isInt k v
  | .inr x, v => Value.isStrOf x v
def keyH (w : World) : Key → Int
  | .inl k => hashInt k
  | .inr x => hashStr w x
theorem keyIs_shape : ∀ {k : Key} {v : Value}, keyIs k v = true → (∃ i t, k = Sum.inl i ∧ v = Value.int i t) ∨ (∃ x t, k = Sum.inr x ∧ v = Value.str x t)
  | .inl i, v, h => by
    obtain ⟨t, e⟩ := Value.isInt_shape (k := i) (v := v) h
    exact .inl ⟨i, t, rfl, e⟩
  | .inr x, v, h => by
    obtain ⟨t, e⟩ := Value.isStrOf_shape (x := x) (v := v) h
    exact .inr ⟨x, t, rfl, e⟩
theorem keyIs_int (i : Int) (t : Tok) : keyIs (.inl i) (.int i t) = true := by simp [keyIs, Value.isInt]
theorem keyIs_str (x : Str) (t : Tok) : keyIs (.inr x) (.str x t) = true := by simp [keyIs, Value.isStrOf]
theorem key_ll (a b : Int) : decide ((Sum.inl a : Key) = Sum.inl b) = (a == b) := by
  by_cases e : a = b
  · subst e; simp
  · have h : ¬ (Sum.inl a : Key) = Sum.inl b := fun q => e (Sum.inl.inj q)
    rw [decide_eq_false h]
    exact (beq_eq_false_iff_ne.mpr e).symm
theorem key_rr (a b : Str) : decide ((Sum.inr a : Key) = Sum.inr b) = decide (a = b) := by
  by_cases e : a = b
  · subst e; simp
  · have h : ¬ (Sum.inr a : Key) = Sum.inr b := fun q => e (Sum.inr.inj q)
    rw [decide_eq_false h, decide_eq_false e]
theorem key_lr (a : Int) (b : Str) : decide ((Sum.inl a : Key) = Sum.inr b) = false := decide_eq_false (fun q => nomatch q)
theorem key_rl (a : Str) (b : Int) : decide ((Sum.inr a : Key) = Sum.inl b) = false := decide_eq_false (fun q => nomatch q)

def mixKind (prog : Program) (w : World) : PySem.KeyKind prog w Key where
  is := keyIs
  hash := keyH w
  inj := fun v a b ha hb => by
    rcases keyIs_shape ha with ⟨i, t, rfl, rfl⟩ | ⟨x, t, rfl, rfl⟩
    · rcases keyIs_shape hb with ⟨j, u, rfl, e⟩ | ⟨y, u, rfl, e⟩
      · injection e with e1 _; rw [e1]
      · exact nomatch e
    · rcases keyIs_shape hb with ⟨j, u, rfl, e⟩ | ⟨y, u, rfl, e⟩
      · exact nomatch e
      · injection e with e1 _; rw [e1]
  byValue := fun k v h => by
    rcases keyIs_shape h with ⟨i, t, rfl, rfl⟩ | ⟨x, t, rfl, rfl⟩ <;> rfl
  pyHash := fun hv h => by
    rcases keyIs_shape hv with ⟨i, t, rfl, rfl⟩ | ⟨x, t, rfl, rfl⟩
    · exact wpAny_pyHash_int h
    · exact wpAny_pyHash_str h
  eqBool := fun hu hv h => by
    rcases keyIs_shape hu with ⟨i, t, rfl, rfl⟩ | ⟨x, t, rfl, rfl⟩
    · rcases keyIs_shape hv with ⟨j, u, rfl, rfl⟩ | ⟨y, u, rfl, rfl⟩
      · rw [key_ll] at h; exact wpAny_eqBool_int h
      · rw [key_lr] at h; exact SeqAt.EqAt.int_str i t y u _ _ _ _ h
    · rcases keyIs_shape hv with ⟨j, u, rfl, rfl⟩ | ⟨y, u, rfl, rfl⟩
      · rw [key_rl] at h; exact SeqAt.EqAt.str_int x t j u _ _ _ _ h
      · rw [key_rr] at h; exact wpAny_eqBool_str h
  «strs» := fun k x t v h => by
    rcases keyIs_shape h with ⟨i, u, rfl, e⟩ | ⟨y, u, rfl, e⟩
    · exact nomatch e
    · injection e with e1 _
      subst e1
      cases v <;> rfl

theorem mixKind_is (prog : Program) (w : World) (k : Key) (v : Value) : (mixKind prog w).is k v = keyIs k v := rfl
theorem mixKind_int (prog : Program) (w : World) (i : Int) (t : Tok) : (mixKind prog w).is (.inl i) (.int i t) = true := keyIs_int i t
theorem mixKind_str (prog : Program) (w : World) (x : Str) (t : Tok) : (mixKind prog w).is (.inr x) (.str x t) = true := keyIs_str x t
end L2

namespace L2
open PySem PySem.Spec PyProof.Rows

/-- a value, without the heap -/
inductive V where
  | non | bl (b : Bool) | int (i : Int) | str (x : Str) | byt (b : Array UInt8) | flt (b : UInt64) | ref (a : Addr) | ty (n : String)
  deriving DecidableEq

def RelV : V → Value → Prop
  | .non, u => u = Value.none
  | .bl b, u => u = Value.bool b
  | .int i, u => ∃ t, u = Value.int i t
  | .str x, u => ∃ t, u = Value.str x t
  | .byt b, u => ∃ t, u = Value.bytes b t
  | .flt b, u => ∃ t, u = Value.float b t
  | .ref a, u => u = Value.ref a
  | .ty n, u => u = Value.type n

abbrev Vals : List V → List Value → Prop := Paired RelV
theorem Vals.length {xs : List V} {us : List Value} (r : Vals xs us) : xs.length = us.length := Paired.length r
theorem Vals.get : ∀ {xs : List V} {us : List Value} {i : Nat} {x : V}, Vals xs us → xs[i]? = some x → ∃ u, us[i]? = some u ∧ RelV x u
  | _, _, _, _, .nil, e => by simp at e
  | _, _, 0, _, .cons r _, e => by simp at e; subst e; exact ⟨_, rfl, r⟩
  | _, _, i + 1, x, .cons _ t, e => by
    obtain ⟨u, h1, h2⟩ := Vals.get (i := i) (x := x) t (by simpa using e)
    exact ⟨u, by simpa using h1, h2⟩
theorem Vals.set {x : V} {u : Value} (r : RelV x u) : ∀ {xs : List V} {us : List Value} (i : Nat), Vals xs us → Vals (xs.set i x) (us.set i u)
  | _, _, _, .nil => .nil
  | _, _, 0, .cons _ t => .cons r t
  | _, _, i + 1, .cons q t => .cons q (Vals.set r i t)
theorem Vals.append : ∀ {xs ys : List V} {us ws : List Value}, Vals xs us → Vals ys ws → Vals (xs ++ ys) (us ++ ws)
  | _, _, _, _, .nil, s => s
  | _, _, _, _, .cons r t, s => .cons r (Vals.append t s)
theorem Vals.take : ∀ {xs : List V} {us : List Value} (n : Nat), Vals xs us → Vals (xs.take n) (us.take n)
  | _, _, 0, _ => .nil
  | _, _, _ + 1, .nil => .nil
  | _, _, n + 1, .cons r t => .cons r (Vals.take n t)
theorem Vals.drop : ∀ {xs : List V} {us : List Value} (n : Nat), Vals xs us → Vals (xs.drop n) (us.drop n)
  | _, _, 0, r => r
  | _, _, _ + 1, .nil => .nil
  | _, _, n + 1, .cons _ t => Vals.drop n t
theorem Vals.none_of : ∀ {xs : List V} {us : List Value} {i : Nat}, Vals xs us → xs[i]? = none → us[i]? = none := fun {xs us i} r e => by
  have h1 := r.length
  have h2 : xs.length ≤ i := List.getElem?_eq_none_iff.mp e
  exact List.getElem?_eq_none_iff.mpr (by omega)

def RelO : Option V → Option Value → Prop
  | some v, some u => RelV v u
  | none, none => True
  | _, _ => False
def KV {κ : Type} : List (κ × V) → List (κ × Value) → Prop := Paired fun (p : κ × V) (q : κ × Value) => p.1 = q.1 ∧ RelV p.2 q.2

/-- a key of a dict (00_mix): an int or a text -/
def kV : Key → V
  | .inl i => .int i
  | .inr x => .str x

/-- what stands at a tracked address -/
inductive HO where
  /-- a list -/
  | lst (xs : List V)
  /-- a tuple (never changes) -/
  | tup (xs : List V)
  /-- a dict whose keys are ints and texts; one whose keys are tuples of ints and texts (the empty one is both) -/
  | dK (kvs : List (Key × V)) | dT (kvs : List (List Key × V))
  /-- a set of ints: its members, its size -/
  | set (S : Int → Bool) (n : Nat)
  /-- an instance of the class at C, its dict at dx, its attributes -/
  | ins (C dx : Addr) (fs : List (Str × V))
  /-- the dict of the instance at x -/
  | own (x : Addr)
  /-- the dict of an exception -/
  | xd (fs : List (Str × V))
  /-- a bound method, f of x -/
  | met (f x : Addr)
  /-- a range object lo, lo + 1, .. below hi -/
  | rng (lo hi : Int)
  /-- a thing that is known to the object (the script; a dict while a loop walks it): read, never written while it is so -/
  | frz (o : Obj) (u : HO)
  /-- a code object's table -/
  | tbl (ps : Array Value)
  /-- any other thing, by what is true of its one object (a def of one's own: SetO a S n := HO.ext fun h => ..) -/
  | ext (φ : Heap → Prop)

abbrev Hp := Addr → Option HO
def upd (H : Hp) (a : Addr) (o : HO) : Hp := fun b => if b = a then some o else H b
theorem upd_same {H : Hp} {a : Addr} {o : HO} : upd H a o a = some o := by unfold upd; rw [if_pos rfl]
theorem upd_ne {H : Hp} {a b : Addr} {o : HO} (h : b ≠ a) : upd H a o b = H b := by unfold upd; rw [if_neg h]
theorem upd_upd {H : Hp} {a : Addr} {o u : HO} : upd (upd H a o) a u = upd H a u := by
  funext b; unfold upd; split <;> rfl
/-- two objects of different content stand apart -/
theorem ne_of {H : Hp} {a b : Addr} {o u : HO} (h : H a = some o) (h' : H b = some u) (d : o ≠ u) : a ≠ b := by
  intro e; subst e; rw [h] at h'; exact d (Option.some.inj h')
theorem ne_of_none {H : Hp} {a b : Addr} {o : HO} (h : H a = some o) (h' : H b = none) : a ≠ b := by
  intro e; subst e; rw [h] at h'; cases h'

section
variable (P : Program) (w : World)
def ObjOk (H : Hp) (h : Heap) (a : Addr) : HO → Prop
  | .lst xs => xs.length ≤ sizeLine ∧ ∃ (its : List Value) (n : Nat), Vals xs its ∧ h.get? a = some { cls := .type "list", data := .seq its.toArray n }
  | .tup xs => xs.length ≤ sizeLine ∧ ∃ its : List Value, Vals xs its ∧ IsTup h a its.toArray
  | .dK kvs => kvs.length ≤ sizeLine ∧ (a == sysModules) = false ∧ ∃ vs, KV kvs vs ∧ h.DictOf (mixKind P w) a vs
  | .dT kvs => kvs.length ≤ sizeLine ∧ (a == sysModules) = false ∧ ∃ xs : List (List Key × Addr × Value),
      Paired (fun (p : List Key × V) (q : List Key × Addr × Value) => p.1 = q.1 ∧ H q.2.1 = some (.tup (p.1.map kV)) ∧ RelV p.2 q.2.2) kvs xs ∧
      ∃ o es ep, h.get? a = some o ∧ o.ExactDict ∧ o.data = .dict es ep ∧ es.toList = xs.map (entryOfKey (tupleKind (mixKind P w))) ∧ (xs.map (·.1)).Nodup
  | .set S n => h.SetOf (intKind P w) a S n
  | .ins C dx fs => H dx = some (.own a) ∧ fs.length ≤ 1000 ∧ dx ≠ a ∧ h.get? a = some (PySem.W.instObj C dx) ∧
      ∃ mA, h.Ns1 dx mA ∧ (∀ f, RelO (fs.lookup f) (mA f)) ∧ PySem.Within mA (fs.map (·.1))
  | .own _ => ∃ o, h.get? a = some o
  | .xd fs => ∃ mA, h.Ns1 a mA ∧ ∀ f, RelO (fs.lookup f) (mA f)
  | .rng lo hi => ∃ t u v, h.get? a = some { cls := .type "range", data := .fields #[.int lo t, .int hi u, .int 1 v] }
  | .frz o u => h.get? a = some o ∧ ObjOk H h a u
  | .tbl ps => h.get? a = some { cls := .none, data := .fields ps }
  | .met f x => h.get? a = some (PySem.W.methodObj (.ref f) (.ref x))
  | .ext φ => φ h ∧ (∃ o, h.get? a = some o) ∧ ∀ h1 h2 : Heap, φ h1 → (∀ o, h1.get? a = some o → h2.get? a = some o) → φ h2
/-- the abstract heap is held -/
def HOk (H : Hp) (h : Heap) : Prop := ∀ a o, H a = some o → ObjOk P w H h a o
end

section
variable {P : Program} {w : World} {H H' : Hp} {h h' : Heap} {a : Addr} {o : HO}
theorem ObjOk.lt (x : ObjOk P w H h a o) : a < h.objs.size := by
  cases o with
  | lst xs => obtain ⟨_, _, _, _, e⟩ := x; exact Heap.lt_size e
  | tup xs => obtain ⟨_, _, _, p⟩ := x; exact p.lt
  | dK kvs => obtain ⟨_, _, _, _, o, _, _, e, _⟩ := x; exact Heap.lt_size e
  | dT kvs => obtain ⟨_, _, _, _, o, _, _, e, _⟩ := x; exact Heap.lt_size e
  | set S n => obtain ⟨o, _, _, _, e, _⟩ := x; exact Heap.lt_size e
  | ins C dx fs => obtain ⟨_, _, _, e, _⟩ := x; exact Heap.lt_size e
  | own y => obtain ⟨_, e⟩ := x; exact Heap.lt_size e
  | xd fs => obtain ⟨_, ⟨_, _, _, e, _⟩, _⟩ := x; exact Heap.lt_size e
  | rng lo hi => obtain ⟨_, _, _, e⟩ := x; exact Heap.lt_size e
  | frz ob u => obtain ⟨e, _⟩ := x; exact Heap.lt_size e
  | tbl ps => exact Heap.lt_size (show h.get? a = some _ from x)
  | met f y => exact Heap.lt_size (show h.get? a = some _ from x)
  | ext φ => obtain ⟨_, ⟨_, e⟩, _⟩ := x; exact Heap.lt_size e
theorem Paired.mapP {α β : Type} {F G : α → β → Prop} : ∀ {l₁ : List α} {l₂ : List β}, Paired F l₁ l₂ → (∀ a b, F a b → G a b) → Paired G l₁ l₂
  | _, _, .nil, _ => .nil
  | _, _, .cons r t, f => .cons (f _ _ r) (Paired.mapP t f)
theorem Paired.imp' {α β : Type} {F G : α → β → Prop} (f : ∀ a b, F a b → G a b) {l₁ : List α} {l₂ : List β} (r : Paired F l₁ l₂) : Paired G l₁ l₂ := Paired.mapP r f
/-- what an object's description leans on: its own object, its own dict, the tuples -/
theorem ObjOk.stay (x : ObjOk P w H h a o) (k : ∀ b u, (b = a ∨ H b = some (.own a)) → h.get? b = some u → h'.get? b = some u)
    (ho : ∀ b, H b = some (.own a) → H' b = some (.own a)) (ht : ∀ b xs, H b = some (.tup xs) → H' b = some (.tup xs)) : ObjOk P w H' h' a o := by
  induction o with
  | lst xs => obtain ⟨z, its, n, r, e⟩ := x; exact ⟨z, its, n, r, k _ _ (.inl rfl) e⟩
  | tup xs => obtain ⟨z, its, r, ob, e, c⟩ := x; exact ⟨z, its, r, ob, k _ _ (.inl rfl) e, c⟩
  | dK kvs => obtain ⟨z, y, vs, r, ob, es, ep, e, c⟩ := x; exact ⟨z, y, vs, r, ob, es, ep, k _ _ (.inl rfl) e, c⟩
  | dT kvs =>
    obtain ⟨z, y, xs, r, ob, es, ep, e, c⟩ := x
    exact ⟨z, y, xs, Paired.mapP r fun p q z => ⟨z.1, ht _ _ z.2.1, z.2.2⟩, ob, es, ep, k _ _ (.inl rfl) e, c⟩
  | set S n => obtain ⟨ob, es, ep, t, e, c⟩ := x; exact ⟨ob, es, ep, t, k _ _ (.inl rfl) e, c⟩
  | ins C dx fs =>
    obtain ⟨d, z, ne, e, mA, ⟨od, es, ep, e2, c⟩, r⟩ := x
    exact ⟨ho _ d, z, ne, k _ _ (.inl rfl) e, mA, ⟨od, es, ep, k _ _ (.inr d) e2, c⟩, r⟩
  | own y => obtain ⟨ob, e⟩ := x; exact ⟨ob, k _ _ (.inl rfl) e⟩
  | xd fs => obtain ⟨mA, ⟨od, es, ep, e, c⟩, r⟩ := x; exact ⟨mA, ⟨od, es, ep, k _ _ (.inl rfl) e, c⟩, r⟩
  | rng lo hi => obtain ⟨t, u, v, e⟩ := x; exact ⟨t, u, v, k _ _ (.inl rfl) e⟩
  | frz ob u ih => obtain ⟨e, q⟩ := x; exact ⟨k _ _ (.inl rfl) e, ih q⟩
  | tbl ps =>
    have e : h.get? a = some { cls := .none, data := .fields ps } := x
    show h'.get? a = some { cls := .none, data := .fields ps }
    exact k a _ (.inl rfl) e
  | met f y =>
    have e : h.get? a = some (PySem.W.methodObj (.ref f) (.ref y)) := x
    show h'.get? a = some (PySem.W.methodObj (.ref f) (.ref y))
    exact k a _ (.inl rfl) e
  | ext φ => obtain ⟨p, ⟨o, e⟩, st⟩ := x; exact ⟨st _ _ p fun o q => k _ _ (.inl rfl) q, ⟨o, k _ _ (.inl rfl) e⟩, st⟩
theorem HOk.lt (x : HOk P w H h) (e : H a = some o) : a < h.objs.size := (x a o e).lt
theorem HOk.fresh (x : HOk P w H h) (e : h.objs.size ≤ a) : H a = none := by
  cases q : H a with
  | none => rfl
  | some u => exact absurd (Nat.lt_of_lt_of_le (x.lt q) e) (Nat.lt_irrefl _)
/-- every object of the heap is kept -/
theorem HOk.kept (x : HOk P w H h) (k : ∀ b u, h.get? b = some u → h'.get? b = some u) : HOk P w H h' := fun a o e =>
  (x a o e).stay (fun b u _ q => k b u q) (fun _ q => q) fun _ _ q => q
/-- a new object is laid and tracked -/
theorem HOk.laid (x : HOk P w H h) (k : ∀ b u, h.get? b = some u → h'.get? b = some u) (hp : h.objs.size ≤ a) (new : ObjOk P w (upd H a o) h' a o) : HOk P w (upd H a o) h' := fun b u e => by
  have hn := x.fresh hp
  by_cases hb : b = a
  · subst hb; rw [upd_same] at e; cases e; exact new
  · rw [upd_ne hb] at e
    exact (x b u e).stay (fun c v _ q => k c v q) (fun c q => by rw [upd_ne (ne_of_none q hn)]; exact q) fun c xs q => by rw [upd_ne (ne_of_none q hn)]; exact q
end

/-- what may be read as u: it is u, or a known u -/
def Rd (H : Hp) (a : Addr) (u : HO) : Prop := H a = some u ∨ ∃ o, H a = some (.frz o u)
theorem Rd.of {H : Hp} {a : Addr} {u : HO} (h : H a = some u) : Rd H a u := .inl h
theorem Rd.ok {P : Program} {w : World} {H : Hp} {h : Heap} {a : Addr} {u : HO} (r : Rd H a u) (x : HOk P w H h) : ObjOk P w H h a u := by
  rcases r with r | ⟨o, r⟩
  · exact x a u r
  · obtain ⟨_, q⟩ := x a _ r
    exact q
/-- what may be written -/
def Mut : Option HO → Prop
  | some (.lst _) => True
  | some (.dK _) => True
  | some (.dT _) => True
  | some (.set _ _) => True
  | some (.ins _ _ _) => True
  | some (.ext _) => True
  | _ => False
section
variable {P : Program} {w : World} {H : Hp} {h h' : Heap} {x e : Addr} {o' : HO}
/-- the object at e is changed: x itself, or the dict of the instance x -/
theorem HOk.write (ok : HOk P w H h) (mu : Mut (H x)) (he : e = x ∨ H e = some (.own x)) (k : ∀ b u, b ≠ e → h.get? b = some u → h'.get? b = some u) (heo : ∃ u, h'.get? e = some u)
    (new : ObjOk P w (upd H x o') h' x o') : HOk P w (upd H x o') h' := fun b u q => by
  have nown : ∀ c y, H c = some (.own y) → c ≠ x := fun c y r z => by subst z; rw [r] at mu; exact mu
  have ntup : ∀ c xs, H c = some (.tup xs) → c ≠ x := fun c xs r z => by subst z; rw [r] at mu; exact mu
  by_cases hb : b = x
  · subst hb; rw [upd_same] at q; cases q; exact new
  · rw [upd_ne hb] at q
    by_cases hbe : b = e
    · have q' : H b = some (.own x) := by
        rcases he with z | z
        · exact absurd (hbe.trans z) hb
        · rw [hbe]; exact z
      rw [q] at q'; cases q'
      obtain ⟨v, hv⟩ := heo
      exact ⟨v, by rw [hbe]; exact hv⟩
    · refine (ok b u q).stay (fun c v hc r => k c v ?_ r) (fun c r => by rw [upd_ne (nown c b r)]; exact r) fun c xs r => by rw [upd_ne (ntup c xs r)]; exact r
      rcases hc with rfl | hc
      · exact hbe
      · rintro rfl
        rcases he with z | z
        · exact nown c b hc z
        · rw [hc] at z; cases z; exact hb rfl
end

/-! ### kept unless tracked; of the frames at fs (the callers') the slots may change (an exception that passes writes there); of the records at ex (iterators) nothing is said -/
structure Un (fs ex : List Addr) (H H' : Hp) (h h' : Heap) : Prop where
  keep : ∀ b o, h.get? b = some o → H b = none → b ∉ fs → b ∉ ex → h'.get? b = some o
  slot : ∀ b o, h.get? b = some o → H b = none → b ∈ fs → b ∉ ex → ∃ sl, h'.get? b = some { o with slots := sl }
  free : ∀ b o, h.get? b = some o → H b = none → b ∉ ex → H' b = none
  there : ∀ b o, h.get? b = some o → b ∉ ex → ∃ o', h'.get? b = some o'
  tups : ∀ b xs, H b = some (.tup xs) → H' b = some (.tup xs)
  frzs : ∀ b o u, H b = some (.frz o u) → H' b = some (.frz o u)
  tbls : ∀ b ps, H b = some (.tbl ps) → ∃ more, H' b = some (.tbl (ps ++ more))
section
variable {fs fs' ex ex' : List Addr} {H H1 H2 : Hp} {h h1 h2 h' : Heap} {a x e : Addr} {o : HO}
theorem Un.any (u : Un fs ex H H1 h h1) {b : Addr} {ob : Obj} (q : h.get? b = some ob) (n : H b = none) (hx : b ∉ ex) : ∃ sl, h1.get? b = some { ob with slots := sl } := by
  by_cases hb : b ∈ fs
  · exact u.slot b ob q n hb hx
  · exact ⟨ob.slots, u.keep b ob q n hb hx⟩
theorem Un.trans (a : Un fs ex H H1 h h1) (b : Un fs ex H1 H2 h1 h2) : Un fs ex H H2 h h2 where
  keep := fun c ob q n hc hx => b.keep c ob (a.keep c ob q n hc hx) (a.free c ob q n hx) hc hx
  slot := fun c ob q n hc hx => by
    obtain ⟨sl, e1⟩ := a.slot c ob q n hc hx
    obtain ⟨sl', e2⟩ := b.slot c _ e1 (a.free c ob q n hx) hc hx
    exact ⟨sl', e2⟩
  free := fun c ob q n hx => by
    obtain ⟨o', e1⟩ := a.there c ob q hx
    exact b.free c o' e1 (a.free c ob q n hx) hx
  there := fun c ob q hx => by
    obtain ⟨o', e1⟩ := a.there c ob q hx
    exact b.there c o' e1 hx
  tups := fun c xs q => b.tups c xs (a.tups c xs q)
  frzs := fun c ob xs q => b.frzs c ob xs (a.frzs c ob xs q)
  tbls := fun c ps q => by
    obtain ⟨m1, e1⟩ := a.tbls c ps q
    obtain ⟨m2, e2⟩ := b.tbls c _ e1
    exact ⟨m1 ++ m2, by rw [e2, Array.append_assoc]⟩
theorem Un.kept (k : ∀ b u, h.get? b = some u → h'.get? b = some u) : Un fs ex H H h h' :=
  ⟨fun b ob q _ _ _ => k b ob q, fun b ob q _ _ _ => ⟨ob.slots, k b ob q⟩, fun _ _ _ n _ => n, fun b ob q _ => ⟨ob, k b ob q⟩, fun _ _ q => q, fun _ _ _ q => q, fun _ ps q => ⟨#[], by rw [q]; simp⟩⟩
theorem Un.refl : Un fs ex H H h h := Un.kept fun _ _ q => q
theorem Un.laid (k : ∀ b u, h.get? b = some u → h'.get? b = some u) (hp : h.objs.size ≤ a) (hn : H a = none) : Un fs ex H (upd H a o) h h' where
  keep := fun b u q _ _ _ => k b u q
  slot := fun b u q _ _ _ => ⟨u.slots, k b u q⟩
  free := fun b u q n _ => by rw [upd_ne (Nat.ne_of_lt (Nat.lt_of_lt_of_le (Heap.lt_size q) hp))]; exact n
  there := fun b u q _ => ⟨u, k b u q⟩
  tups := fun b xs q => by rw [upd_ne (ne_of_none q hn)]; exact q
  frzs := fun b u xs q => by rw [upd_ne (ne_of_none q hn)]; exact q
  tbls := fun b ps q => ⟨#[], by rw [upd_ne (ne_of_none q hn), q]; simp⟩
theorem Un.write (mu : Mut (H x)) (he : e = x ∨ H e = some (.own x)) (k : ∀ b u, b ≠ e → h.get? b = some u → h'.get? b = some u) (heo : ∃ u, h'.get? e = some u) : Un fs ex H (upd H x o) h h' := by
  have hx : ∀ b, H b = none → b ≠ x := fun b n z => by subst z; rw [n] at mu; exact mu
  have hb : ∀ b, H b = none → b ≠ e := fun b n z => by
    subst z
    rcases he with r | r
    · exact hx b n r
    · rw [n] at r; cases r
  have hm : ∀ b u, H b = some u → ¬ Mut (some u) → b ≠ x := fun b u q nm z => by subst z; rw [q] at mu; exact nm mu
  refine ⟨fun b u q n _ _ => k b u (hb b n) q, fun b u q n _ _ => ⟨u.slots, k b u (hb b n) q⟩, fun b u q n _ => by rw [upd_ne (hx b n)]; exact n, fun b u q _ => ?_,
    fun b xs q => by rw [upd_ne (hm b _ q fun z => z)]; exact q, fun b u xs q => by rw [upd_ne (hm b _ q fun z => z)]; exact q, fun b ps q => ⟨#[], by rw [upd_ne (hm b _ q fun z => z), q]; simp⟩⟩
  by_cases hbe : b = e
  · subst hbe; exact heo
  · exact ⟨u, k b u hbe q⟩
theorem Un.mono (u : Un fs ex H H1 h h1) (hs : ∀ b ∈ fs, b ∈ fs') (hx : ∀ b ∈ ex, b ∈ ex') : Un fs' ex' H H1 h h1 :=
  ⟨fun b ob q n hb he => u.keep b ob q n (fun z => hb (hs b z)) fun z => he (hx b z), fun _ _ q n _ he => u.any q n fun z => he (hx _ z), fun b ob q n he => u.free b ob q n fun z => he (hx b z), fun b ob q he => u.there b ob q fun z => he (hx b z), u.tups, u.frzs, u.tbls⟩
end

/-! ### the heap without what is tracked -/
def trk (h : Heap) (H : Hp) : List Addr := (List.range h.objs.size).filter fun a => (H a).isSome
def hidT (h : Heap) (H : Hp) : Heap := PySem.W.hideAll h (trk h H)
theorem hidT_size (h : Heap) (H : Hp) : (hidT h H).objs.size = h.objs.size := PySem.W.hideAll_size _ _
theorem hidT_get {h : Heap} {H : Hp} {b : Addr} {o : Obj} (e : h.get? b = some o) (n : H b = none) : (hidT h H).get? b = some o :=
  PySem.W.hideAll_get _ e fun hm => by
    have q : (H b).isSome = true := (List.mem_filter.mp hm).2
    rw [n] at q; simp at q
theorem of_hidT {h : Heap} {H : Hp} {b : Addr} {o : Obj} (e : (hidT h H).get? b = some o) : h.get? b = some o ∧ H b = none := by
  have e' : h.get? b = some o := PySem.W.of_hideAll (trk h H) e
  refine ⟨e', ?_⟩
  cases q : H b with
  | none => rfl
  | some x =>
    have hm : b ∈ trk h H := List.mem_filter.mpr ⟨List.mem_range.mpr (Heap.lt_size e'), by simp [q]⟩
    have z : (hidT h H).get? b = none := PySem.W.hideAll_none (trk h H) hm
    rw [z] at e; cases e

/-! ### OpenK's ledger, filled with every new object but one -/
def allNews (g h : Heap) (L : Addr) : List (Addr × Obj) := (List.range h.objs.size).filterMap fun a => if a = L ∨ (g.get? a).isSome = true then none else (h.get? a).map fun o => (a, o)
theorem mem_allNews {g h : Heap} {L a : Addr} {o : Obj} (h1 : a ≠ L) (h2 : g.get? a = none) (h3 : h.get? a = some o) : (a, o) ∈ allNews g h L :=
  List.mem_filterMap.mpr ⟨a, List.mem_range.mpr (Heap.lt_size h3), by simp [h1, h2, h3]⟩
theorem of_mem_allNews {g h : Heap} {L : Addr} {p : Addr × Obj} (hp : p ∈ allNews g h L) : p.1 ≠ L ∧ g.get? p.1 = none ∧ h.get? p.1 = some p.2 := by
  obtain ⟨b, _, e⟩ := List.mem_filterMap.mp hp
  split at e
  · cases e
  · rename_i hn
    cases q : h.get? b with
    | none => rw [q] at e; simp at e
    | some u =>
      rw [q] at e
      simp only [Option.map_some, Option.some.injEq] at e
      subst e
      refine ⟨fun z => hn (.inl z), ?_, q⟩
      show g.get? b = none
      cases r : g.get? b with
      | none => rfl
      | some v => exact (hn (.inr (by simp [r]))).elim
def rest (g h : Heap) (L d : Addr) : List (Addr × Obj) := (allNews g h L).filter fun p => decide (p.1 ≠ d)
theorem rest_ne {g h : Heap} {L d : Addr} : ∀ p ∈ rest g h L d, p.1 ≠ d := fun p hp => of_decide_eq_true (List.mem_filter.mp hp).2
theorem mem_rest {g h : Heap} {L d a : Addr} {o : Obj} (h1 : a ≠ L) (h2 : g.get? a = none) (h3 : h.get? a = some o) (h4 : a ≠ d) : (a, o) ∈ rest g h L d :=
  List.mem_filter.mpr ⟨mem_allNews h1 h2 h3, decide_eq_true h4⟩
theorem news_all {g h : Heap} {L : Addr} : News g L h (allNews g h L) := fun p hp => let ⟨a, b, c⟩ := of_mem_allNews hp; ⟨c, a, b⟩
theorem news_at {g h : Heap} {L d : Addr} {o : Obj} (h1 : d ≠ L) (h2 : g.get? d = none) (h3 : h.get? d = some o) : News g L h ((d, o) :: rest g h L d) := fun p hp => by
  rcases List.mem_cons.mp hp with rfl | hp
  · exact ⟨h3, h1, h2⟩
  · exact news_all p (List.mem_filter.mp hp).1
/-- behind a rule that changed d alone: all else but the frame is kept -/
theorem kept_of_news {g h h' : Heap} {L d : Addr} {m : Str → Option Value} (k : ∀ b o, g.get? b = some o → h.get? b = some o) (F : Fr g L h' m) (N : News g L h' (rest g h L d)) :
    ∀ b o, b ≠ L → b ≠ d → h.get? b = some o → h'.get? b = some o := fun b o h1 h2 e => by
  cases q : g.get? b with
  | some u =>
    have := k b u q
    rw [e] at this; cases this
    exact F.keep b _ q
  | none => exact (N (b, o) (mem_rest h1 q e h2)).1
end L2

namespace L2
open PySem PySem.Spec PyProof.Rows

/-- the module's facts, over the base: the heap at the law's entry without what is tracked there -/
structure Mod (K : PySem.W.Frag) (mg : Str → Option Value) (base : Heap) : Prop where
  kin : K.In base
  glob : base.Ns mainGlobals mg
  blt : ∃ mb, base.Ns builtinsNs mb ∧ ∀ x : Str, x ≠ "__name__" → mb x = bootBuiltins x
  nolimit : base.NoLimit

/-- the context: a def's body (or a comprehension's block) running. base: fixed through the whole law; s₀, H₀: the entry; outer: the frames whose slots others may change (a def's callers); stack: all frames that run;
   ex: iterators that were made ahead of the entry and are walked here (a comprehension's); fn: the names whose cells were made at the entry (a def: all; a comprehension's block: its own); calm: not within an except suite; pn: pins that every state bears; xe: what is wanted of an exception that leaves the code -/
structure Cx where
  prog : Program
  w : World
  K : PySem.W.Frag
  mg : Str → Option Value
  base : Heap
  A : Around
  N : List Str
  s₀ : Shared
  H₀ : Hp
  env : Env
  outer : List Env
  stack : List Env
  ex : List Addr
  fn : Str → Bool
  calm : Bool
  pn : List (Addr × Obj)
  xe : Value → Shared → Prop
/-- the callers' frames -/
def frs (l : List Env) : List Addr := l.filterMap (·.frame)
abbrev Cx.fs (X : Cx) : List Addr := frs X.outer

def Vis (sc : Scope) (x : Str) : Prop := sc.names.lookup x = some .local ∨ sc.names.lookup x = some .cell ∨ sc.names.lookup x = some .free
def Loc (sc : Scope) (x : Str) : Prop := sc.names.lookup x = some .local ∨ sc.names.lookup x = some .cell
def Look (env : Env) (h : Heap) (m : Str → Option Value) (x : Str) (u : Value) : Prop :=
  (env.kindOf x = some .local ∧ m x = some u) ∨ ((env.kindOf x = some .cell ∨ env.kindOf x = some .free) ∧ ∃ c, env.cells.lookup x = some c ∧ h.IsCell c (some u))

structure Cx.Ok (X : Cx) : Prop where
  mod : Mod X.K X.mg X.base
  kind : X.env.scope.kind = .function
  glob : X.env.globals = mainGlobals
  blt : X.env.builtins = builtinsNs
  above : X.s₀.heap.objs.size ≤ X.env.locals
  inj : ∀ x y c, X.env.cells.lookup x = some c → X.env.cells.lookup y = some c → x = y
  has : ∀ x, (X.env.kindOf x = some .cell ∨ X.env.kindOf x = some .free) → ∃ c, X.env.cells.lookup x = some c
  cab : ∀ x c, X.fn x = true → X.env.cells.lookup x = some c → X.s₀.heap.objs.size ≤ c
  hd : X.calm = true → X.A.handled = none
  frames : X.A.frames = some X.stack
  stk : X.stack = X.outer ∨ (X.stack = X.env :: X.outer ∧ X.env.frame = some X.env.locals)
  exf : ∀ b ∈ X.ex, b ≠ X.env.locals ∧ ∀ x c, X.env.cells.lookup x = some c → c ≠ b
  bs : ∀ b o, X.base.get? b = some o → X.s₀.heap.get? b = some o ∧ X.H₀ b = none
  bsz : X.base.objs.size ≤ X.s₀.heap.objs.size
  noex : ∀ b o, X.base.get? b = some o → b ∉ X.ex
  exfs : ∀ b ∈ X.ex, b ∉ X.fs
  funs : X.s₀.heap.FunFrames X.base X.outer
  frf : ∀ b ∈ X.fs, X.H₀ b = none

structure Inv (X : Cx) (pins : List (Addr × Obj)) (σ : List (Option V)) (H : Hp) (s : Shared) : Prop where
  ok : X.Ok
  os : s.os = X.s₀.os
  bare : AllBare s.gens
  base : Un X.fs X.ex X.H₀ H X.s₀.heap s.heap
  loc : ∃ m, s.heap.Ns X.env.locals m ∧ ∀ (i : Nat) (x : Str) (v : V), X.N[i]? = some x → σ[i]? = some (some v) → Vis X.env.scope x → ∃ u, RelV v u ∧ Look X.env s.heap m x u
  cell : ∀ x c, X.env.cells.lookup x = some c → ∃ v, s.heap.IsCell c v
  free : H X.env.locals = none
  freeC : ∀ x c, X.env.cells.lookup x = some c → H c = none
  pin : ∀ p ∈ X.pn ++ pins, s.heap.get? p.1 = some p.2 ∧ H p.1 = none ∧ p.1 ≠ X.env.locals ∧ p.1 ∉ X.fs ∧ ∀ v, p.2.data ≠ .cell v
  hok : HOk X.prog X.w H s.heap
  len : σ.length = X.N.length

section
variable {X : Cx} {pins : List (Addr × Obj)} {σ : List (Option V)} {H H' : Hp} {s : Shared} {h' : Heap}

theorem Cx.Ok.nofr (ok : X.Ok) {b : Addr} {o : Obj} (e : X.base.get? b = some o) : b ∉ X.fs := fun hb => by
  have := (ok.funs.mem hb).1
  rw [e] at this; cases this
theorem Inv.bs (I : Inv X pins σ H s) : ∀ b o, X.base.get? b = some o → s.heap.get? b = some o ∧ H b = none := fun b o e =>
  ⟨I.base.keep b o (I.ok.bs b o e).1 (I.ok.bs b o e).2 (I.ok.nofr e) (I.ok.noex b o e), I.base.free b o (I.ok.bs b o e).1 (I.ok.bs b o e).2 (I.ok.noex b o e)⟩
theorem Inv.bk (I : Inv X pins σ H s) : ∀ b o, X.base.get? b = some o → s.heap.get? b = some o := fun b o e => (I.bs b o e).1
theorem Inv.mod (I : Inv X pins σ H s) : Mod X.K X.mg X.base := I.ok.mod
theorem Inv.kIn (I : Inv X pins σ H s) : X.K.In s.heap := I.ok.mod.kin.keeps I.bk
theorem Inv.nolimit (I : Inv X pins σ H s) : s.heap.NoLimit := I.ok.mod.nolimit.keeps I.bk
/-- the frame over the base: for OpenK's rules (K.In X.base is I.mod.kin) -/
theorem Inv.fr (I : Inv X pins σ H s) : ∃ m, Fr X.base X.env.locals s.heap m :=
  let ⟨m, hn, _⟩ := I.loc
  ⟨m, hn, I.bk, Nat.le_trans I.ok.bsz I.ok.above⟩
theorem Inv.lt (I : Inv X pins σ H s) : X.env.locals < s.heap.objs.size := let ⟨_, hn, _⟩ := I.loc; hn.lt
theorem Inv.sz (I : Inv X pins σ H s) : X.s₀.heap.objs.size ≤ s.heap.objs.size := Nat.le_trans I.ok.above (Nat.le_of_lt I.lt)
theorem Inv.nofs (I : Inv X pins σ H s) {a : Addr} (h : s.heap.objs.size ≤ a) : a ∉ X.fs := fun hb => by
  obtain ⟨_, o, ho, _⟩ := I.ok.funs.mem hb
  exact absurd (Nat.lt_of_lt_of_le (Heap.lt_size ho) (Nat.le_trans I.sz h)) (Nat.lt_irrefl _)
theorem Inv.cne (I : Inv X pins σ H s) : ∀ x c, X.env.cells.lookup x = some c → c ≠ X.env.locals := fun x c e z => by
  obtain ⟨v, o, ho, hd⟩ := I.cell x c e
  obtain ⟨m, ⟨o', es, ep, ho', hd', _⟩, _⟩ := I.loc
  rw [z, ho'] at ho; cases ho; rw [hd'] at hd; cases hd
theorem Inv.funs (I : Inv X pins σ H s) : s.heap.FunFrames X.base X.outer := by
  have all : ∀ (l : List Env), (∀ b ∈ frs l, b ∈ X.fs) → X.s₀.heap.FunFrames X.base l → s.heap.FunFrames X.base l := by
    intro l
    induction l with
    | nil => intro _ _; trivial
    | cons env r ih =>
      intro hs hl
      obtain ⟨hk, ⟨L, o, hf, hn, ho, hd⟩, hr⟩ := hl
      have hL : L ∈ X.fs := hs L (by unfold frs; rw [List.filterMap_cons, hf]; exact List.mem_cons_self)
      obtain ⟨sl, e⟩ := I.base.slot L o ho (I.ok.frf L hL) hL fun z => I.ok.exfs L z hL
      exact ⟨hk, ⟨L, _, hf, hn, e, hd⟩, ih (fun b hb => hs b (by unfold frs; rw [List.filterMap_cons, hf]; exact List.mem_cons_of_mem _ hb)) hr⟩
  exact all X.outer (fun _ hb => hb) I.ok.funs

/-- the frames that run, for a call -/
theorem Inv.stack (I : Inv X pins σ H s) : s.heap.FunFrames X.base X.stack := by
  rcases I.ok.stk with e | ⟨e, hf⟩
  · rw [e]; exact I.funs
  · rw [e]
    obtain ⟨m, hn, _⟩ := I.loc
    refine .cons (by rw [I.ok.kind]; decide) hf hn ?_ I.funs
    exact Heap.get?_none_of_le (Nat.le_trans I.ok.bsz I.ok.above)
theorem Inv.stkSub (I : Inv X pins σ H s) : ∀ b ∈ frs X.stack, b ∈ X.env.locals :: X.fs := fun b hb => by
  rcases I.ok.stk with e | ⟨e, hf⟩
  · rw [e] at hb; exact List.mem_cons_of_mem _ hb
  · rw [e] at hb
    unfold frs at hb
    rw [List.filterMap_cons, hf] at hb
    exact hb
theorem Inv.stkFree (I : Inv X pins σ H s) : ∀ b ∈ frs X.stack, H b = none := fun b hb => by
  rcases List.mem_cons.mp (I.stkSub b hb) with e | hb
  · rw [e]; exact I.free
  · obtain ⟨_, o, ho, _⟩ := I.ok.funs.mem hb
    exact I.base.free b o ho (I.ok.frf b hb) fun z => I.ok.exfs b z hb

/-- THE STEP: the untracked objects but the frame and the records at ch are kept (the callers' frames up to slots), the frame's map is kept, the new abstract heap is held -/
theorem Inv.step {g' : Array GenState} {t' : Nat} {d' : Drawn} {ch : List Addr} (I : Inv X pins σ H s)
    (hch : ∀ b ∈ ch, (b ∈ X.ex ∨ X.s₀.heap.objs.size ≤ b) ∧ b ≠ X.env.locals ∧ (∀ x c, X.env.cells.lookup x = some c → c ≠ b) ∧ ∀ p ∈ X.pn ++ pins, p.1 ≠ b)
    (keep : ∀ b o, b ≠ X.env.locals → b ∉ X.fs → b ∉ ch → s.heap.get? b = some o → H b = none → h'.get? b = some o)
    (slot : ∀ b o, b ≠ X.env.locals → b ∈ X.fs → b ∉ ch → s.heap.get? b = some o → H b = none → ∃ sl, h'.get? b = some { o with slots := sl }) (free : ∀ b o, b ∉ ch → s.heap.get? b = some o → H b = none → H' b = none)
    (there : ∀ b o, b ∉ ch → s.heap.get? b = some o → ∃ o', h'.get? b = some o')
    (tups : ∀ b xs, H b = some (.tup xs) → H' b = some (.tup xs)) (frzs : ∀ b o u, H b = some (.frz o u) → H' b = some (.frz o u)) (tbls : ∀ b ps, H b = some (.tbl ps) → ∃ more, H' b = some (.tbl (ps ++ more)))
    (ns : ∀ m, s.heap.Ns X.env.locals m → h'.Ns X.env.locals m) (hok : HOk X.prog X.w H' h') (hg : AllBare g') :
    Inv X pins σ H' { s with heap := h', gens := g', drawn := d', toks := t' } := by
  have neL : ∀ b o, X.s₀.heap.get? b = some o → b ≠ X.env.locals := fun b o e => Nat.ne_of_lt (Nat.lt_of_lt_of_le (Heap.lt_size e) I.ok.above)
  have neC : ∀ b o, X.s₀.heap.get? b = some o → b ∉ X.ex → b ∉ ch := fun b o e hx hb => by
    rcases (hch b hb).1 with z | z
    · exact hx z
    · exact absurd (Nat.lt_of_lt_of_le (Heap.lt_size e) z) (Nat.lt_irrefl _)
  have cellK : ∀ x c, X.env.cells.lookup x = some c → ∀ v, s.heap.IsCell c v → h'.IsCell c v := fun x c e v ⟨o, ho, hd⟩ => by
    have nch : c ∉ ch := fun z => (hch c z).2.2.1 x c e rfl
    by_cases hc : c ∈ X.fs
    · obtain ⟨sl, q⟩ := slot c o (I.cne x c e) hc nch ho (I.freeC x c e)
      exact ⟨_, q, hd⟩
    · exact ⟨o, keep c o (I.cne x c e) hc nch ho (I.freeC x c e), hd⟩
  refine ⟨I.ok, I.os, hg, ⟨fun b o e n hb hx => ?_, fun b o e n hb hx => ?_, fun b o e n hx => ?_, fun b o e hx => ?_, fun b xs e => tups b xs (I.base.tups b xs e), fun b o xs e => frzs b o xs (I.base.frzs b o xs e), fun b ps e => ?_⟩, ?_, fun x c e => ?_, ?_, fun x c e => ?_, fun p hp => ?_, hok, I.len⟩
  · exact keep b o (neL b o e) hb (neC b o e hx) (I.base.keep b o e n hb hx) (I.base.free b o e n hx)
  · obtain ⟨sl, e1⟩ := I.base.slot b o e n hb hx
    obtain ⟨sl', e2⟩ := slot b _ (neL b o e) hb (neC b o e hx) e1 (I.base.free b o e n hx)
    exact ⟨sl', e2⟩
  · obtain ⟨o', e1⟩ := I.base.there b o e hx
    exact free b o' (neC b o e hx) e1 (I.base.free b o e n hx)
  · obtain ⟨o', e1⟩ := I.base.there b o e hx
    exact there b o' (neC b o e hx) e1
  · obtain ⟨m1, e1⟩ := I.base.tbls b ps e
    obtain ⟨m2, e2⟩ := tbls b _ e1
    exact ⟨m1 ++ m2, by rw [e2, Array.append_assoc]⟩
  · obtain ⟨m, hn, hl⟩ := I.loc
    refine ⟨m, ns m hn, fun i x v e1 e2 e3 => ?_⟩
    obtain ⟨u, r, l⟩ := hl i x v e1 e2 e3
    refine ⟨u, r, ?_⟩
    rcases l with l | ⟨k, c, e, z⟩
    · exact .inl l
    · exact .inr ⟨k, c, e, cellK x c e _ z⟩
  · obtain ⟨v, z⟩ := I.cell x c e
    exact ⟨v, cellK x c e v z⟩
  · obtain ⟨m, ⟨o, _, _, ho, _⟩, _⟩ := I.loc
    exact free _ o (fun z => (hch _ z).2.1 rfl) ho I.free
  · obtain ⟨v, o, ho, hd⟩ := I.cell x c e
    exact free c o (fun z => (hch c z).2.2.1 x c e rfl) ho (I.freeC x c e)
  · obtain ⟨e, n, ne, nf, d⟩ := I.pin p hp
    have nch : p.1 ∉ ch := fun z => (hch p.1 z).2.2.2 p hp rfl
    exact ⟨keep p.1 p.2 ne nf nch e n, free p.1 p.2 nch e n, ne, nf, d⟩
/-- .. where the frame's own object is kept too -/
theorem Inv.un {t' : Nat} (I : Inv X pins σ H s) (u : Un X.fs [] H H' s.heap h') (hok : HOk X.prog X.w H' h') : Inv X pins σ H' { s with heap := h', toks := t' } := by
  obtain ⟨m, ⟨o, es, ep, ho, r⟩, _⟩ := id I.loc
  obtain ⟨sl, hL⟩ := u.any ho I.free (by simp)
  exact I.step (g' := s.gens) (d' := s.drawn) (ch := []) (fun _ z => nomatch z) (fun b o _ hb _ e n => u.keep b o e n hb (by simp)) (fun b o _ hb _ e n => u.slot b o e n hb (by simp)) (fun b o _ e n => u.free b o e n (by simp)) (fun b o _ e => u.there b o e (by simp)) u.tups u.frzs u.tbls (fun m' hm => by
    obtain ⟨o', es', ep', ho', r'⟩ := hm
    rw [ho] at ho'; cases ho'
    exact ⟨_, es', ep', hL, r'⟩) hok I.bare
/-- behind a call (or a comprehension's block): the slots of this frame may have changed too, the records at ch may have turned -/
theorem Inv.call {g' : Array GenState} {t' : Nat} {d' : Drawn} {ch : List Addr} (I : Inv X pins σ H s) (u : Un (frs X.stack) ch H H' s.heap h') (hok : HOk X.prog X.w H' h') (hg : AllBare g')
    (hch : ∀ b ∈ ch, (b ∈ X.ex ∨ X.s₀.heap.objs.size ≤ b) ∧ b ≠ X.env.locals ∧ (∀ x c, X.env.cells.lookup x = some c → c ≠ b) ∧ ∀ p ∈ X.pn ++ pins, p.1 ≠ b) :
    Inv X pins σ H' { s with heap := h', gens := g', drawn := d', toks := t' } := by
  obtain ⟨m, ⟨o, es, ep, ho, r⟩, _⟩ := id I.loc
  obtain ⟨sl, hL⟩ := u.any ho I.free fun z => (hch _ z).2.1 rfl
  exact I.step (ch := ch) hch (fun b o hL hb hc e n => u.keep b o e n (fun z => (List.mem_cons.mp (I.stkSub b z)).elim hL hb) hc) (fun b o _ _ hc e n => u.any e n hc) (fun b o hc e n => u.free b o e n hc) (fun b o hc e => u.there b o e hc) u.tups u.frzs u.tbls (fun m' hm => by
    obtain ⟨o', es', ep', ho', r'⟩ := hm
    rw [ho] at ho'; cases ho'
    exact ⟨_, es', ep', hL, r'⟩) hok hg
/-- an untracked record of ours (an iterator) has turned -/
theorem Inv.turned {t' : Nat} {it : Addr} (I : Inv X pins σ H s) (k : ∀ b o, b ≠ it → s.heap.get? b = some o → h'.get? b = some o) (hn : H it = none) (hL : it ≠ X.env.locals)
    (h1 : it ∈ X.ex ∨ X.s₀.heap.objs.size ≤ it) (h2 : ∀ x c, X.env.cells.lookup x = some c → c ≠ it) (h3 : ∀ p ∈ X.pn ++ pins, p.1 ≠ it) : Inv X pins σ H { s with heap := h', toks := t' } := by
  have nit : ∀ b u, H b = some u → b ≠ it := fun b u e z => by rw [z, hn] at e; cases e
  refine I.step (g' := s.gens) (d' := s.drawn) (ch := [it]) (fun b hb => ?_) (fun b o _ _ hc e _ => k b o (fun z => hc (by simp [z])) e) (fun b o _ _ hc e _ => ⟨o.slots, k b o (fun z => hc (by simp [z])) e⟩) (fun _ _ _ _ n => n)
    (fun b o hc e => ⟨o, k b o (fun z => hc (by simp [z])) e⟩) (fun _ _ e => e) (fun _ _ _ e => e) (fun b ps e => ⟨#[], by rw [e]; simp⟩) (fun m hm => ?_) (fun b u e => ?_) I.bare
  · have e : b = it := by simpa using hb
    subst e
    exact ⟨h1, hL, h2, h3⟩
  · obtain ⟨o, es, ep, ho, r⟩ := hm
    exact ⟨o, es, ep, k _ o (Ne.symm hL) ho, r⟩
  · refine (I.hok b u e).stay (fun c v hc q => k c v ?_ q) (fun _ q => q) fun _ _ q => q
    rcases hc with z | z
    · rw [z]; exact nit b u e
    · exact nit c _ z
theorem Inv.tok (I : Inv X pins σ H s) (t : Nat) : Inv X pins σ H { s with toks := t } := I.un (h' := s.heap) (t' := t) Un.refl I.hok
/-- all objects kept -/
theorem Inv.kept {t' : Nat} (I : Inv X pins σ H s) (k : ∀ b u, s.heap.get? b = some u → h'.get? b = some u) : Inv X pins σ H { s with heap := h', toks := t' } := I.un (Un.kept k) (I.hok.kept k)
/-- a new object laid and tracked -/
theorem Inv.laid {a : Addr} {o : HO} {t' : Nat} (I : Inv X pins σ H s) (k : ∀ b u, s.heap.get? b = some u → h'.get? b = some u) (hp : s.heap.objs.size ≤ a) (new : ObjOk X.prog X.w (upd H a o) h' a o) :
    Inv X pins σ (upd H a o) { s with heap := h', toks := t' } := I.un (Un.laid k hp (I.hok.fresh hp)) (I.hok.laid k hp new)
/-- an object written -/
theorem Inv.write {x e : Addr} {o : HO} {t' : Nat} (I : Inv X pins σ H s) (mu : Mut (H x)) (he : e = x ∨ H e = some (.own x)) (k : ∀ b u, b ≠ e → s.heap.get? b = some u → h'.get? b = some u) (heo : ∃ u, h'.get? e = some u)
    (new : ObjOk X.prog X.w (upd H x o) h' x o) : Inv X pins σ (upd H x o) { s with heap := h', toks := t' } := I.un (Un.write mu he k heo) (I.hok.write mu he k heo new)
/-- forgetting slots, pins -/
theorem Inv.weak {σ' : List (Option V)} (I : Inv X pins σ H s) (hl : σ'.length = σ.length) (w : ∀ (i : Nat) v, σ'[i]? = some (some v) → σ[i]? = some (some v)) : Inv X pins σ' H s :=
  ⟨I.ok, I.os, I.bare, I.base, let ⟨m, hn, hl'⟩ := I.loc; ⟨m, hn, fun i x v e1 e2 e3 => hl' i x v e1 (w i v e2) e3⟩, I.cell, I.free, I.freeC, I.pin, I.hok, hl.trans I.len⟩
theorem Inv.pins_of {pins' : List (Addr × Obj)} (I : Inv X pins σ H s) (h : ∀ p ∈ pins', s.heap.get? p.1 = some p.2 ∧ H p.1 = none ∧ p.1 ≠ X.env.locals ∧ p.1 ∉ X.fs ∧ ∀ v, p.2.data ≠ .cell v) : Inv X pins' σ H s :=
  ⟨I.ok, I.os, I.bare, I.base, I.loc, I.cell, I.free, I.freeC, fun p hp => (List.mem_append.mp hp).elim (fun z => I.pin p (List.mem_append_left _ z)) (h p), I.hok, I.len⟩

theorem nodup_ix {N : List Str} (hN : N.Nodup) {i j : Nat} {x : Str} (a : N[i]? = some x) (b : N[j]? = some x) : i = j := by
  obtain ⟨h1, e1⟩ := List.getElem?_eq_some_iff.mp a
  obtain ⟨h2, e2⟩ := List.getElem?_eq_some_iff.mp b
  exact (List.getElem_inj hN).mp (e1.trans e2.symm)

/-- a name is stored; what changed -/
theorem store_ok2 {M : Model} {A : Around} {E : Value → Shared → Prop} {i : Nat} {x : Str} {v : V} {u : Value} {Q : Unit → Shared → Prop} (I : Inv X pins σ H s) (hN : X.N.Nodup) (hi : X.N[i]? = some x) (hx : Loc X.env.scope x) (r : RelV v u)
    (h : ∀ s', Inv X pins (σ.set i (some v)) H s' → (∃ a, Heap.SameBut a s.heap s'.heap ∧ (a = X.env.locals ∨ X.env.cells.lookup x = some a)) → Q () s') (hf : X.fn x = true ∨ X.env.scope.names.lookup x = some .local := by first | exact .inl rfl | exact .inr rfl | assumption) : wpAny M A (storeName X.env x u) Q E s := by
  obtain ⟨m, hn, hl⟩ := id I.loc
  have hcls : (X.env.scope.kind == .class || (X.env.scope.kind == .module && X.env.locals != X.env.globals)) = false := by rw [I.ok.kind]; rfl
  have hiσ : i < σ.length := by rw [I.len]; exact (List.getElem?_eq_some_iff.mp hi).1
  have cne := I.cne
  have tracked : ∀ {a : Addr} {h' : Heap}, (∃ o, s.heap.get? a = some o ∧ H a = none) → Heap.SameBut a s.heap h' → HOk X.prog X.w H h' := fun {a h'} ha hs b ob e => by
    obtain ⟨_, _, hfree⟩ := ha
    refine (I.hok b ob e).stay (fun c w' hc q => (hs.2 c ?_).trans q) (fun _ q => q) fun _ _ q => q
    rintro rfl
    rcases hc with rfl | hc
    · rw [hfree] at e; cases e
    · rw [hfree] at hc; cases hc
  rcases hx with hk | hk
  · refine wpAny_storeName_local hk hn (fun h' hn' hs => ?_) hcls
    obtain ⟨oL, _, _, hoL, _⟩ := id hn
    refine h _ ⟨I.ok, I.os, I.bare, ⟨fun b o e n hb hx => ?_, fun b o e n hb hx => ?_, I.base.free, fun b o e hx => ?_, I.base.tups, I.base.frzs, I.base.tbls⟩, ⟨_, hn', fun j y v' e1 e2 e3 => ?_⟩, fun y c e => ?_, I.free, I.freeC, fun p hp => ?_, tracked ⟨oL, hoL, I.free⟩ hs, by simpa using I.len⟩ ⟨_, hs, .inl rfl⟩
    · exact (hs.2 b (Nat.ne_of_lt (Nat.lt_of_lt_of_le (Heap.lt_size e) I.ok.above))).trans (I.base.keep b o e n hb hx)
    · obtain ⟨sl, e1⟩ := I.base.slot b o e n hb hx
      exact ⟨sl, (hs.2 b (Nat.ne_of_lt (Nat.lt_of_lt_of_le (Heap.lt_size e) I.ok.above))).trans e1⟩
    · obtain ⟨o', e1⟩ := I.base.there b o e hx
      exact ⟨o', (hs.2 b (Nat.ne_of_lt (Nat.lt_of_lt_of_le (Heap.lt_size e) I.ok.above))).trans e1⟩
    · by_cases hj : j = i
      · subst hj
        rw [hi] at e1; cases e1
        rw [List.getElem?_set_self hiσ] at e2
        cases e2
        exact ⟨u, r, .inl ⟨hk, by simp⟩⟩
      · rw [List.getElem?_set_ne (Ne.symm hj)] at e2
        obtain ⟨u', r', q⟩ := hl j y v' e1 e2 e3
        refine ⟨u', r', ?_⟩
        rcases q with ⟨k, e⟩ | ⟨k, c, e, z⟩
        · refine .inl ⟨k, ?_⟩
          have : y ≠ x := fun e => hj (nodup_ix hN e1 (e ▸ hi))
          simp [this, e]
        · exact .inr ⟨k, c, e, z.sameBut hs (cne y c e)⟩
    · obtain ⟨w', z⟩ := I.cell y c e
      exact ⟨w', z.sameBut hs (cne y c e)⟩
    · obtain ⟨e, n, ne, nf, d⟩ := I.pin p hp
      exact ⟨(hs.2 p.1 ne).trans e, n, ne, nf, d⟩
  · have hfn : X.fn x = true := by
      rcases hf with z | z
      · exact z
      · rw [z] at hk; cases hk
    obtain ⟨c, hc⟩ := I.ok.has x (.inl hk)
    obtain ⟨w', z⟩ := I.cell x c hc
    refine wpAny_storeName_cell I.ok.kind hk hc z (fun h' hc' hs => ?_)
    obtain ⟨oc, hoc, hocd⟩ := id z
    refine h { s with heap := h' } ⟨I.ok, I.os, I.bare, ⟨fun b o e n hb hx => ?_, fun b o e n hb hx => ?_, I.base.free, fun b o e hx => ?_, I.base.tups, I.base.frzs, I.base.tbls⟩, ⟨m, hn.sameBut hs (Ne.symm (cne x c hc)), fun j y v' e1 e2 e3 => ?_⟩, fun y c' e => ?_, I.free, I.freeC, fun p hp => ?_, tracked ⟨oc, hoc, I.freeC x c hc⟩ hs, by simpa using I.len⟩ ⟨c, hs, .inr hc⟩
    · exact (hs.2 b (Nat.ne_of_lt (Nat.lt_of_lt_of_le (Heap.lt_size e) (I.ok.cab x c hfn hc)))).trans (I.base.keep b o e n hb hx)
    · obtain ⟨sl, e1⟩ := I.base.slot b o e n hb hx
      exact ⟨sl, (hs.2 b (Nat.ne_of_lt (Nat.lt_of_lt_of_le (Heap.lt_size e) (I.ok.cab x c hfn hc)))).trans e1⟩
    · obtain ⟨o', e1⟩ := I.base.there b o e hx
      exact ⟨o', (hs.2 b (Nat.ne_of_lt (Nat.lt_of_lt_of_le (Heap.lt_size e) (I.ok.cab x c hfn hc)))).trans e1⟩
    · by_cases hj : j = i
      · subst hj
        rw [hi] at e1; cases e1
        rw [List.getElem?_set_self hiσ] at e2
        cases e2
        exact ⟨u, r, .inr ⟨.inl hk, c, hc, hc'⟩⟩
      · rw [List.getElem?_set_ne (Ne.symm hj)] at e2
        obtain ⟨u', r', q⟩ := hl j y v' e1 e2 e3
        refine ⟨u', r', ?_⟩
        rcases q with q | ⟨k, c', e, z'⟩
        · exact .inl q
        · refine .inr ⟨k, c', e, z'.sameBut hs ?_⟩
          rintro rfl
          exact hj (nodup_ix hN e1 (I.ok.inj _ _ _ e hc ▸ hi))
    · by_cases hcc : c' = c
      · subst hcc; exact ⟨_, hc'⟩
      · obtain ⟨w2, z2⟩ := I.cell y c' e
        exact ⟨w2, z2.sameBut hs hcc⟩
    · obtain ⟨e, n, ne, nf, d⟩ := I.pin p hp
      refine ⟨(hs.2 p.1 ?_).trans e, n, ne, nf, d⟩
      intro q
      rw [q, hoc] at e
      have q' : oc = p.2 := Option.some.inj e
      exact d w' (by rw [← q']; exact hocd)
theorem store_ok {M : Model} {A : Around} {E : Value → Shared → Prop} {i : Nat} {x : Str} {v : V} {u : Value} {Q : Unit → Shared → Prop} (I : Inv X pins σ H s) (hN : X.N.Nodup) (hi : X.N[i]? = some x) (hx : Loc X.env.scope x) (r : RelV v u)
    (h : ∀ s', Inv X pins (σ.set i (some v)) H s' → Q () s') (hf : X.fn x = true ∨ X.env.scope.names.lookup x = some .local := by first | exact .inl rfl | exact .inr rfl | assumption) : wpAny M A (storeName X.env x u) Q E s :=
  store_ok2 I hN hi hx r (fun s' I' _ => h s' I') hf
/-- behind a call or a block, the state as it is -/
theorem Inv.call' {s' : Shared} {ch : List Addr} (I : Inv X pins σ H s) (ho : s'.os = s.os) (u : Un (frs X.stack) ch H H' s.heap s'.heap) (hok : HOk X.prog X.w H' s'.heap) (hg : AllBare s'.gens)
    (hch : ∀ b ∈ ch, (b ∈ X.ex ∨ X.s₀.heap.objs.size ≤ b) ∧ b ≠ X.env.locals ∧ (∀ x c, X.env.cells.lookup x = some c → c ≠ b) ∧ ∀ p ∈ X.pn ++ pins, p.1 ≠ b) : Inv X pins σ H' s' := by
  obtain ⟨h', g', d', t', o'⟩ := s'
  have e : o' = s.os := ho
  subst e
  exact I.call (g' := g') (t' := t') (d' := d') u hok hg hch
end

/-! ### the judgements -/
/-- an exception: its class, its own dict's address (where it has one), the abstract heap behind it -/
abbrev XK := Value → Option Addr → Hp → Prop
abbrev St := List (Option V)
abbrev VK := V → Hp → Prop
/-- an expression's reading; a test's; an argument list's -/
abbrev TE := St → Hp → VK → Prop
abbrev TT := St → Hp → (Bool → Hp → Prop) → Prop
abbrev TA := St → Hp → (List V → Hp → Prop) → Prop
/-- what is wanted behind a statement -/
structure Ends where
  nx : St → Hp → Prop
  rt : VK
  bk : St → Hp → Prop := fun _ _ => False
  ct : St → Hp → Prop := fun _ _ => False
abbrev TS := Ends → St → Hp → Prop

def EP (X : Cx) (pins : List (Addr × Obj)) (σ : St) (Q : VK) (u : Value) (s' : Shared) : Prop := ∃ v H', Inv X pins σ H' s' ∧ RelV v u ∧ Q v H'
def TP (X : Cx) (pins : List (Addr × Obj)) (σ : St) (Q : Bool → Hp → Prop) (b : Bool) (s' : Shared) : Prop := ∃ H', Inv X pins σ H' s' ∧ Q b H'
def AP (X : Cx) (pins : List (Addr × Obj)) (σ : St) (Q : List V → Hp → Prop) (us : List Value) (s' : Shared) : Prop := ∃ vs H', Inv X pins σ H' s' ∧ Vals vs us ∧ Q vs H'
def SP (X : Cx) (pins : List (Addr × Obj)) (D : Ends) (f : Flow) (s' : Shared) : Prop :=
  match f with
  | .next => ∃ σ' H', Inv X pins σ' H' s' ∧ D.nx σ' H'
  | .brk => ∃ σ' H', Inv X pins σ' H' s' ∧ D.bk σ' H'
  | .cont => ∃ σ' H', Inv X pins σ' H' s' ∧ D.ct σ' H'
  | .ret u => ∃ v σ' H', Inv X pins σ' H' s' ∧ RelV v u ∧ D.rt v H'

def PE (X : Cx) (e : Expr) (t : TE) : Prop :=
  ∀ (pins : List (Addr × Obj)) (s : Shared) (σ : St) (H : Hp) (Q : VK), Inv X pins σ H s → t σ H Q → wpAny (model X.prog X.w) X.A (eval e X.env) (EP X pins σ Q) X.xe s
def PT (X : Cx) (e : Expr) (t : TT) : Prop :=
  ∀ (pins : List (Addr × Obj)) (s : Shared) (σ : St) (H : Hp) (Q : Bool → Hp → Prop), Inv X pins σ H s → t σ H Q → wpAny (model X.prog X.w) X.A (isTrue e X.env (eval e X.env)) (TP X pins σ Q) X.xe s
/-- a test whatever its 'whole' is (and, or) -/
def PW (X : Cx) (e : Expr) (t : TT) : Prop :=
  ∀ (whole : Sem Value) (pins : List (Addr × Obj)) (s : Shared) (σ : St) (H : Hp) (Q : Bool → Hp → Prop), Inv X pins σ H s → t σ H Q → wpAny (model X.prog X.w) X.A (isTrue e X.env whole) (TP X pins σ Q) X.xe s
theorem PW.pt {X : Cx} {e : Expr} {t : TT} (h : PW X e t) : PT X e t := h _
/-- an argument list (no star), from the left -/
def PA (X : Cx) (es : List Expr) (t : TA) : Prop :=
  ∀ (pos : Pos) (pins : List (Addr × Obj)) (s : Shared) (σ : St) (H : Hp) (Q : List V → Hp → Prop), Inv X pins σ H s → t σ H Q → wpAny (model X.prog X.w) X.A (spliced (backTo pos (starEach es X.env))) (AP X pins σ Q) X.xe s
def PS (X : Cx) (st : Stmt) (t : TS) : Prop :=
  ∀ (pins : List (Addr × Obj)) (s : Shared) (σ : St) (H : Hp) (D : Ends), Inv X pins σ H s → t D σ H → wpAny (model X.prog X.w) X.A (exec st X.env) (SP X pins D) X.xe s
def PSs (X : Cx) (st : List Stmt) (t : TS) : Prop :=
  ∀ (pins : List (Addr × Obj)) (s : Shared) (σ : St) (H : Hp) (D : Ends), Inv X pins σ H s → t D σ H → wpAny (model X.prog X.w) X.A (execs st X.env) (SP X pins D) X.xe s
/-- weaken the end -/
theorem thn {α : Type} {t : Sem α} {Q Q' : α → Shared → Prop} {M : Model} {A : Around} {E : Value → Shared → Prop} {s : Shared} (h : wpAny M A t Q E s) (hQ : ∀ a s, Q a s → Q' a s) : wpAny M A t Q' E s := wpAny_mono h hQ fun _ _ x => x
end L2

namespace L2
open PySem PySem.Spec PyProof.Rows
section
variable {X : Cx}

/-- two expressions in a row -/
theorem bin {a b : Expr} {ta tb : TE} (ha : PE X a ta) (hb : PE X b tb) {pins : List (Addr × Obj)} {s : Shared} {σ : St} {H : Hp} {R : V → V → Hp → Prop} (I : Inv X pins σ H s) (h : ta σ H fun x H1 => tb σ H1 fun y H2 => R x y H2)
    {α : Type} {Q : α → Shared → Prop} {f : Value → Value → Sem α}
    (hf : ∀ v u s2 x y H2, Inv X pins σ H2 s2 → RelV x v → RelV y u → R x y H2 → wpAny (model X.prog X.w) X.A (f v u) Q X.xe s2) :
    wpAny (model X.prog X.w) X.A (eval a X.env) (fun v s₁ => wpAny (model X.prog X.w) X.A (eval b X.env) (fun u s₂ => wpAny (model X.prog X.w) X.A (f v u) Q X.xe s₂) X.xe s₁) X.xe s := by
  refine thn (ha pins s σ H _ I h) fun v s1 ⟨x, H1, I1, r1, q1⟩ => ?_
  refine thn (hb pins s1 σ H1 _ I1 q1) fun u s2 ⟨y, H2, I2, r2, q2⟩ => ?_
  exact hf v u s2 x y H2 I2 r1 r2 q2

/-! ### names and constants -/
def tVar (i : Nat) : TE := fun σ H Q => ∃ v, σ[i]? = some (some v) ∧ Q v H
def tC (v : V) : TE := fun _ H Q => Q v H
theorem pe_var {i : Nat} {x : Str} {pos : Pos} (hN : X.N[i]? = some x) (hv : Vis X.env.scope x) (hd : (x == ("__debug__" : Str)) = false := by decide) (hcd : (x == ("__classdict__" : Str)) = false := by decide) : PE X (.Name x pos) (tVar i) := by
  intro pins s σ H Q I h
  obtain ⟨v, e, h⟩ := h
  obtain ⟨m, hn, hl⟩ := I.loc
  obtain ⟨u, r, l⟩ := hl i x v hN e hv
  have fin : EP X pins σ Q u s := ⟨v, H, I, r, h⟩
  rcases l with ⟨hk, hm⟩ | ⟨hk, c, hc, hcell⟩
  · exact wpAny_Name (wpAny_loadName_local I.ok.kind hk hn hm fin) hd
  · rcases hk with hk | hk
    · exact wpAny_Name (wpAny_loadName_cell I.ok.kind hk hc hcell fin) hd
    · exact wpAny_Name (wpAny_loadName_free I.ok.kind hk hc hcell fin hcd) hd
theorem pe_int {i j pos} : PE X (.Constant (.int i) j pos) (tC (.int i)) := fun _ _ _ H _ I h => wpAny_Constant_int ⟨.int i, H, I.tok _, ⟨_, rfl⟩, h⟩
theorem pe_bl {b j pos} : PE X (.Constant (.bool b) j pos) (tC (.bl b)) := fun _ _ _ H _ I h => Constant_bool ⟨.bl b, H, I, rfl, h⟩
theorem pe_non {j pos} : PE X (.Constant .none j pos) (tC .non) := fun _ _ _ H _ I h => Constant_none ⟨.non, H, I, rfl, h⟩
theorem pe_str {x j pos} : PE X (.Constant (.str x) j pos) (tC (.str x)) := fun _ _ _ H _ I h => Calls.Constant_str ⟨.str x, H, I.tok _, ⟨_, rfl⟩, h⟩

/-- a global name of the def -/
def Gl (X : Cx) (x : Str) : Prop := X.env.kindOf x = some .globalImplicit
theorem ld_glob {E : Value → Shared → Prop} {pins : List (Addr × Obj)} {s : Shared} {σ : St} {H : Hp} {x : Str} {u : Value} {pos : Pos} {Q : Value → Shared → Prop} (I : Inv X pins σ H s) (hg : Gl X x) (hm : X.mg x = some u) (h : Q u s)
    (hd : (x == ("__debug__" : Str)) = false := by decide) : wpAny (model X.prog X.w) X.A (eval (.Name x pos) X.env) Q E s :=
  Calls.Name_function_global I.ok.kind hg (Calls.loadGlobal_global (by rw [I.ok.glob]; exact I.mod.glob.keeps I.bk) hm h) hd
theorem ld_blt {E : Value → Shared → Prop} {pins : List (Addr × Obj)} {s : Shared} {σ : St} {H : Hp} {x : Str} {u : Value} {pos : Pos} {Q : Value → Shared → Prop} (I : Inv X pins σ H s) (hg : Gl X x) (hm : X.mg x = none) (hv : bootBuiltins x = some u) (h : Q u s)
    (hn : x ≠ "__name__" := by decide) (hd : (x == ("__debug__" : Str)) = false := by decide) : wpAny (model X.prog X.w) X.A (eval (.Name x pos) X.env) Q E s := by
  obtain ⟨mb, h1, h2⟩ := I.mod.blt
  exact Calls.Name_function_global I.ok.kind hg (Calls.loadGlobal_builtin (by rw [I.ok.glob]; exact I.mod.glob.keeps I.bk) hm (by rw [I.ok.blt]; exact h1.keeps I.bk) ((h2 x hn).trans hv) h) hd
/-- a module's constant, a class, a function, as a value -/
theorem pe_glob {x : Str} {v : V} {u : Value} {pos : Pos} (hg : Gl X x) (hm : X.mg x = some u) (r : RelV v u) (hd : (x == ("__debug__" : Str)) = false := by decide) : PE X (.Name x pos) (tC v) :=
  fun _ _ _ H _ I h => ld_glob I hg hm ⟨v, H, I, r, h⟩ hd
theorem pe_bltn {x : Str} {v : V} {u : Value} {pos : Pos} (hg : Gl X x) (hm : X.mg x = none) (hv : bootBuiltins x = some u) (r : RelV v u) (hn : x ≠ "__name__" := by decide) (hd : (x == ("__debug__" : Str)) = false := by decide) : PE X (.Name x pos) (tC v) :=
  fun _ _ _ H _ I h => ld_blt I hg hm hv ⟨v, H, I, r, h⟩ hn hd

/-! ### arithmetic -/
/-- two ints -/
def t2I (ta tb : TE) (k : Int → Int → Hp → Prop) : St → Hp → Prop := fun σ H => ta σ H fun x H1 => tb σ H1 fun y H2 => ∃ i j, x = .int i ∧ y = .int j ∧ k i j H2
def tAdd (ta tb : TE) : TE := fun σ H Q => t2I ta tb (fun i j H2 => Q (.int (i + j)) H2) σ H
def tSub (ta tb : TE) : TE := fun σ H Q => t2I ta tb (fun i j H2 => Q (.int (i - j)) H2) σ H
/-- the left factor below 2^64 -/
def tMul (ta tb : TE) : TE := fun σ H Q => t2I ta tb (fun i j H2 => (-(2 ^ 64) < i ∧ i < 2 ^ 64) ∧ Q (.int (i * j)) H2) σ H
variable {a b : Expr} {ta tb : TE} {pos : Pos}
theorem pe_add (ha : PE X a ta) (hb : PE X b tb) : PE X (.BinOp a .Add b pos) (tAdd ta tb) := by
  intro pins s σ H Q I h
  refine wpAny_BinOp (bin ha hb I h fun v u s2 x y H2 I2 rx ry q => ?_)
  obtain ⟨i, j, rfl, rfl, q⟩ := q
  obtain ⟨t, rfl⟩ := rx
  obtain ⟨t', rfl⟩ := ry
  exact add_int ⟨.int _, H2, I2.tok _, ⟨_, rfl⟩, q⟩
theorem pe_sub (ha : PE X a ta) (hb : PE X b tb) : PE X (.BinOp a .Sub b pos) (tSub ta tb) := by
  intro pins s σ H Q I h
  refine wpAny_BinOp (bin ha hb I h fun v u s2 x y H2 I2 rx ry q => ?_)
  obtain ⟨i, j, rfl, rfl, q⟩ := q
  obtain ⟨t, rfl⟩ := rx
  obtain ⟨t', rfl⟩ := ry
  exact sub_int ⟨.int _, H2, I2.tok _, ⟨_, rfl⟩, q⟩
theorem pe_mul (ha : PE X a ta) (hb : PE X b tb) : PE X (.BinOp a .Mult b pos) (tMul ta tb) := by
  intro pins s σ H Q I h
  refine wpAny_BinOp (bin ha hb I h fun v u s2 x y H2 I2 rx ry q => ?_)
  obtain ⟨i, j, rfl, rfl, ⟨q1, q2⟩, q⟩ := q
  obtain ⟨t, rfl⟩ := rx
  obtain ⟨t', rfl⟩ := ry
  exact mul_int ⟨.int _, H2, I2.tok _, ⟨_, rfl⟩, q⟩ (.of_left (intBits_le_64 q1 q2))

/-! ### comparisons -/
def PC (X : Cx) (op : CmpOp) (a b : Expr) (t : TE) : Prop :=
  ∀ (pins : List (Addr × Obj)) (s : Shared) (σ : St) (H : Hp) (Q : VK), Inv X pins σ H s → t σ H Q →
    wpAny (model X.prog X.w) X.A (eval a X.env) (fun v s₁ => wpAny (model X.prog X.w) X.A (eval b X.env) (fun u s₂ => wpAny (model X.prog X.w) X.A (compareOp op v u) (EP X pins σ Q) X.xe s₂) X.xe s₁) X.xe s
theorem nobehind (b : Expr) {op : CmpOp} (h : op ≠ .In) (h2 : op ≠ .NotIn) : behindInMarks op b = false := by
  have e1 : (op == CmpOp.In) = false := by cases op <;> first | rfl | exact absurd rfl h
  have e2 : (op == CmpOp.NotIn) = false := by cases op <;> first | rfl | exact absurd rfl h2
  cases b <;> simp [behindInMarks, e1, e2]
def tCmp (p : Int → Int → Bool) (ta tb : TE) : TE := fun σ H Q => t2I ta tb (fun i j H2 => Q (.bl (p i j)) H2) σ H
abbrev tLt : TE → TE → TE := tCmp fun i j => decide (i < j)
abbrev tLe : TE → TE → TE := tCmp fun i j => decide (i ≤ j)
abbrev tGt : TE → TE → TE := tCmp fun i j => decide (j < i)
abbrev tGe : TE → TE → TE := tCmp fun i j => decide (j ≤ i)
abbrev tEqI : TE → TE → TE := tCmp fun i j => decide (i = j)
abbrev tNeI : TE → TE → TE := tCmp fun i j => !decide (i = j)
/-- a comparison of two ints, by its rule -/
theorem pc_int {op : CmpOp} {p : Int → Int → Bool} (ha : PE X a ta) (hb : PE X b tb)
    (rule : ∀ (i j : Int) (t u : Tok) (Q : Value → Shared → Prop) (s : Shared), Q (.bool (p i j)) s → wpAny (model X.prog X.w) X.A (compareOp op (.int i t) (.int j u)) Q X.xe s) : PC X op a b (tCmp p ta tb) := by
  intro pins s σ H Q I h
  refine bin ha hb I h fun v u s2 x y H2 I2 rx ry q => ?_
  obtain ⟨i, j, rfl, rfl, q⟩ := q
  obtain ⟨t, rfl⟩ := rx
  obtain ⟨t', rfl⟩ := ry
  exact rule i j t t' _ s2 ⟨.bl _, H2, I2, rfl, q⟩
theorem pc_lt (ha : PE X a ta) (hb : PE X b tb) : PC X .Lt a b (tLt ta tb) := pc_int ha hb fun _ _ _ _ _ _ h => lt_int h
theorem pc_le (ha : PE X a ta) (hb : PE X b tb) : PC X .LtE a b (tLe ta tb) := pc_int ha hb fun _ _ _ _ _ _ h => le_int h
theorem pc_gt (ha : PE X a ta) (hb : PE X b tb) : PC X .Gt a b (tGt ta tb) := pc_int ha hb fun _ _ _ _ _ _ h => gt_int h
theorem pc_ge (ha : PE X a ta) (hb : PE X b tb) : PC X .GtE a b (tGe ta tb) := pc_int ha hb fun _ _ _ _ _ _ h => ge_int h
theorem pc_eqI (ha : PE X a ta) (hb : PE X b tb) : PC X .Eq a b (tEqI ta tb) := pc_int ha hb fun _ _ _ _ _ _ h => eq_int (by rw [Bool.beq_eq_decide_eq]; exact h)
theorem pc_neI (ha : PE X a ta) (hb : PE X b tb) : PC X .NotEq a b (tNeI ta tb) := pc_int ha hb fun _ _ _ _ _ _ h => ne_int (by rw [bne, Bool.beq_eq_decide_eq]; exact h)
/-- is None -/
def tIsN (ta : TE) : TE := fun σ H Q => ta σ H fun x H1 => Q (.bl (decide (x = .non))) H1
def tNotN (ta : TE) : TE := fun σ H Q => ta σ H fun x H1 => Q (.bl (!decide (x = .non))) H1
theorem RelV.none_iff {x : V} {v : Value} (r : RelV x v) : (v == Value.none) = decide (x = .non) := by
  cases x with
  | non => cases r; rfl
  | bl _ => cases r; rfl
  | int _ => obtain ⟨t, rfl⟩ := r; rfl
  | str _ => obtain ⟨t, rfl⟩ := r; rfl
  | byt _ => obtain ⟨t, rfl⟩ := r; rfl
  | flt _ => obtain ⟨t, rfl⟩ := r; rfl
  | ref _ => cases r; rfl
  | ty _ => cases r; rfl
theorem pc_isN {j pos'} (ha : PE X a ta) : PC X .Is a (.Constant .none j pos') (tIsN ta) := by
  intro pins s σ H Q I h
  refine thn (ha pins s σ H _ I h) fun v s1 ⟨x, H1, I1, r1, q1⟩ => ?_
  exact Constant_none (is_none_gen ⟨.bl _, H1, I1, by rw [r1.none_iff]; rfl, q1⟩)
theorem pc_notN {j pos'} (ha : PE X a ta) : PC X .IsNot a (.Constant .none j pos') (tNotN ta) := by
  intro pins s σ H Q I h
  refine thn (ha pins s σ H _ I h) fun v s1 ⟨x, H1, I1, r1, q1⟩ => ?_
  exact Constant_none (isnot_none_gen ⟨.bl _, H1, I1, by rw [r1.none_iff]; rfl, q1⟩)
/-- a comparison as a value, as a test -/
def tB (t : TE) : TT := fun σ H Q => t σ H fun x H1 => ∃ c, x = .bl c ∧ Q c H1
theorem pe_cmp {op : CmpOp} {t : TE} (h : PC X op a b t) (h1 : behindInMarks op b = false := by first | exact nobehind _ (by decide) (by decide) | rfl) : PE X (.Compare a [op] [b] pos) t := fun pins s σ H Q I hw => wpAny_Compare1 (h pins s σ H Q I hw) h1
theorem pt_cmp {op : CmpOp} {t : TE} (h : PC X op a b t) (h1 : behindInMarks op b = false := by first | exact nobehind _ (by decide) (by decide) | rfl) : PT X (.Compare a [op] [b] pos) (tB t) := by
  intro pins s σ H Q I hw
  refine wpAny_isTrue_Compare1 (thn (h pins s σ H _ I hw) fun v s1 h1 => thn h1 fun u s2 h2 => thn h2 fun c s3 ⟨x, H1, I1, r1, q1⟩ => ?_) h1
  obtain ⟨d, rfl, q⟩ := q1
  cases r1
  exact wpAny_truthy_bool ⟨H1, I1, q⟩
/-- an expression whose value is a bool, as a test -/
theorem pt_val {e : Expr} {t : TE} (h : PE X e t) (he : ∀ whole, isTrue e X.env whole = (do let v ← whole; standAt e.pos; holding [v] (truthy v)) := by intro _; rfl) : PT X e (tB t) := by
  intro pins s σ H Q I hw
  refine isTrue_plain (thn (h pins s σ H _ I hw) fun v s1 ⟨x, H1, I1, r1, q1⟩ => ?_) (he _)
  obtain ⟨d, rfl, q⟩ := q1
  cases r1
  exact wpAny_truthy_bool ⟨H1, I1, q⟩

/-! ### and, or, not -/
variable {tA tB' : TT} {rest : List Expr}
def tAnd (t u : TT) : TT := fun σ H Q => t σ H fun c H1 => if c = true then u σ H1 Q else Q false H1
def tOr (t u : TT) : TT := fun σ H Q => t σ H fun c H1 => if c = true then Q true H1 else u σ H1 Q
def tNot (t : TT) : TT := fun σ H Q => t σ H fun c H1 => Q (!c) H1
theorem pw_and1 (ha : PT X a tA) : PW X (.BoolOp .And [a] pos) tA := by
  intro wh pins s σ H Q I h
  refine isTrue_and (thn (ha pins s σ H Q I h) fun c s1 e => ?_)
  cases c with
  | true => exact isTrue_and_nil e
  | false => exact e
theorem pw_or1 (ha : PT X a tA) : PW X (.BoolOp .Or [a] pos) tA := by
  intro wh pins s σ H Q I h
  refine isTrue_or (thn (ha pins s σ H Q I h) fun c s1 e => ?_)
  cases c with
  | false => exact isTrue_or_nil e
  | true => exact e
theorem pw_and (ha : PT X a tA) (hb : PW X (.BoolOp .And (b :: rest) pos) tB') : PW X (.BoolOp .And (a :: b :: rest) pos) (tAnd tA tB') := by
  intro wh pins s σ H Q I h
  refine isTrue_and (thn (ha pins s σ H _ I h) fun c s1 ⟨H1, I1, q1⟩ => ?_)
  cases c with
  | true => exact hb wh pins s1 σ H1 Q I1 q1
  | false => exact ⟨H1, I1, q1⟩
theorem pw_or (ha : PT X a tA) (hb : PW X (.BoolOp .Or (b :: rest) pos) tB') : PW X (.BoolOp .Or (a :: b :: rest) pos) (tOr tA tB') := by
  intro wh pins s σ H Q I h
  refine isTrue_or (thn (ha pins s σ H _ I h) fun c s1 ⟨H1, I1, q1⟩ => ?_)
  cases c with
  | true => exact ⟨H1, I1, q1⟩
  | false => exact hb wh pins s1 σ H1 Q I1 q1
theorem pt_not (ha : PT X a tA) : PT X (.UnaryOp .Not a pos) (tNot tA) := by
  intro pins s σ H Q I h
  exact isTrue_not (ha pins s σ H (fun c H1 => Q (!c) H1) I h)
/-- .. as values (bools) -/
def tAndV (ta tb : TE) : TE := fun σ H Q => ta σ H fun x H1 => ∃ c, x = .bl c ∧ if c = true then tb σ H1 Q else Q (.bl false) H1
def tOrV (ta tb : TE) : TE := fun σ H Q => ta σ H fun x H1 => ∃ c, x = .bl c ∧ if c = true then Q (.bl true) H1 else tb σ H1 Q
def tNotV (ta : TE) : TE := fun σ H Q => ta σ H fun x H1 => ∃ c, x = .bl c ∧ Q (.bl (!c)) H1
theorem pe_one {op} {t : TE} (h : PE X a t) : PE X (.BoolOp op [a] pos) t := fun pins s σ H Q I hw => BoolOp_one (h pins s σ H Q I hw)
theorem pe_and (ha : PE X a ta) (hb : PE X (.BoolOp .And (b :: rest) pos) tb) : PE X (.BoolOp .And (a :: b :: rest) pos) (tAndV ta tb) := by
  intro pins s σ H Q I h
  refine BoolOp_and (thn (ha pins s σ H _ I h) fun v s1 ⟨x, H1, I1, r1, q1⟩ => ?_)
  obtain ⟨c, rfl, q1⟩ := q1
  cases r1
  refine wpAny_truthy_bool ?_
  cases c with
  | true => exact hb pins s1 σ H1 Q I1 q1
  | false => exact ⟨.bl false, H1, I1, rfl, q1⟩
theorem pe_or (ha : PE X a ta) (hb : PE X (.BoolOp .Or (b :: rest) pos) tb) : PE X (.BoolOp .Or (a :: b :: rest) pos) (tOrV ta tb) := by
  intro pins s σ H Q I h
  refine BoolOp_or (thn (ha pins s σ H _ I h) fun v s1 ⟨x, H1, I1, r1, q1⟩ => ?_)
  obtain ⟨c, rfl, q1⟩ := q1
  cases r1
  refine wpAny_truthy_bool ?_
  cases c with
  | false => exact hb pins s1 σ H1 Q I1 q1
  | true => exact ⟨.bl true, H1, I1, rfl, q1⟩
theorem pe_not (ha : PE X a ta) : PE X (.UnaryOp .Not a pos) (tNotV ta) := by
  intro pins s σ H Q I h
  refine UnaryOp_ (thn (ha pins s σ H _ I h) fun v s1 ⟨x, H1, I1, r1, q1⟩ => ?_)
  obtain ⟨c, rfl, q1⟩ := q1
  cases r1
  exact not_of (wpAny_truthy_bool ⟨.bl (!c), H1, I1, rfl, q1⟩)
/-- a if t else b -/
def tIf (t : TT) (ta tb : TE) : TE := fun σ H Q => t σ H fun c H1 => if c = true then ta σ H1 Q else tb σ H1 Q
theorem pe_ifExp {c : Expr} (hc : PT X c tA) (ha : PE X a ta) (hb : PE X b tb) : PE X (.IfExp c a b pos) (tIf tA ta tb) := by
  intro pins s σ H Q I h
  refine wpAny_IfExp (thn (hc pins s σ H _ I h) fun d s1 ⟨H1, I1, q1⟩ => ?_)
  cases d with
  | true => exact ha pins s1 σ H1 Q I1 q1
  | false => exact hb pins s1 σ H1 Q I1 q1
end
end L2

namespace L2
open PySem PySem.Spec PyProof.Rows

/-! ### a list, a tuple that is read: tracked, frozen, or an object of the module -/
def SqL (K : PySem.W.Frag) (H : Hp) (a : Addr) (xs : List V) : Prop :=
  Rd H a (.lst xs) ∨
    ∃ (o : Obj) (its : Array Value) (n : Nat), K.lookup a = some o ∧ o.cls = .type "list" ∧ o.dict = none ∧ o.data = .seq its n ∧ its.size ≤ sizeLine ∧ Vals xs its.toList
def SqT (K : PySem.W.Frag) (H : Hp) (a : Addr) (xs : List V) : Prop :=
  Rd H a (.tup xs) ∨
    ∃ (o : Obj) (its : Array Value) (n : Nat), K.lookup a = some o ∧ o.cls = .type "tuple" ∧ o.data = .seq its n ∧ its.size ≤ sizeLine ∧ Vals xs its.toList
def absV : Value → Option V
  | .none => some .non
  | .bool b => some (.bl b)
  | .int i _ => some (.int i)
  | .str x _ => some (.str x)
  | .bytes b _ => some (.byt b)
  | .float b _ => some (.flt b)
  | .ref a => some (.ref a)
  | .type n => some (.ty n)
  | _ => none
theorem RelV.abs {x : V} {u : Value} (r : RelV x u) : absV u = some x := by
  cases x with
  | non => cases r; rfl
  | bl _ => cases r; rfl
  | int _ => obtain ⟨t, rfl⟩ := r; rfl
  | str _ => obtain ⟨t, rfl⟩ := r; rfl
  | byt _ => obtain ⟨t, rfl⟩ := r; rfl
  | flt _ => obtain ⟨t, rfl⟩ := r; rfl
  | ref _ => cases r; rfl
  | ty _ => cases r; rfl
theorem RelV.inj {x y : V} {u : Value} (r : RelV x u) (q : RelV y u) : x = y := Option.some.inj (r.abs.symm.trans q.abs)
theorem Vals.inj : ∀ {xs ys : List V} {us : List Value}, Vals xs us → Vals ys us → xs = ys
  | _, _, _, .nil, .nil => rfl
  | _, _, _, .cons r t, .cons r' t' => by rw [r.inj r', Vals.inj t t']
section
variable {X : Cx} {pins : List (Addr × Obj)} {σ : St} {H : Hp} {s : Shared} {a : Addr} {xs ys : List V}
theorem SqL.of {K : PySem.W.Frag} (h : H a = some (.lst xs)) : SqL K H a xs := .inl (.inl h)
theorem SqT.of {K : PySem.W.Frag} (h : H a = some (.tup xs)) : SqT K H a xs := .inl (.inl h)
theorem Inv.list (I : Inv X pins σ H s) (h : SqL X.K H a xs) : ∃ its : List Value, Vals xs its ∧ PlainL s.heap a its.toArray ∧ xs.length ≤ sizeLine := by
  rcases h with h | ⟨o, its, n, hk, hc, hd, hs, hz, r⟩
  · obtain ⟨z, its, n, r, e⟩ := h.ok I.hok
    exact ⟨its, r, ⟨_, n, e, rfl, rfl, rfl⟩, z⟩
  · refine ⟨its.toList, r, ⟨o, n, I.kIn a o hk, hc, hd, by simpa using hs⟩, ?_⟩
    have e := r.length
    simp only [Array.length_toList] at e
    omega
theorem Inv.tuple (I : Inv X pins σ H s) (h : SqT X.K H a xs) : ∃ its : List Value, Vals xs its ∧ IsTup s.heap a its.toArray ∧ xs.length ≤ sizeLine := by
  rcases h with h | ⟨o, its, n, hk, hc, hs, hz, r⟩
  · obtain ⟨z, its, r, p⟩ := h.ok I.hok
    exact ⟨its, r, p, z⟩
  · refine ⟨its.toList, r, ⟨o, I.kIn a o hk, hc, n, by simpa using hs⟩, ?_⟩
    have e := r.length
    simp only [Array.length_toList] at e
    omega
theorem Inv.list_inj (I : Inv X pins σ H s) (h : SqL X.K H a xs) (h' : SqL X.K H a ys) : xs = ys := by
  obtain ⟨its, r, ⟨o, n, e, _, _, d⟩, _⟩ := I.list h
  obtain ⟨its', r', ⟨o', n', e', _, _, d'⟩, _⟩ := I.list h'
  rw [e] at e'; cases e'
  rw [d] at d'
  injection d' with d1 _
  have : its = its' := by simpa using congrArg Array.toList d1
  subst this
  exact r.inj r'
theorem Inv.tuple_inj (I : Inv X pins σ H s) (h : SqT X.K H a xs) (h' : SqT X.K H a ys) : xs = ys := by
  obtain ⟨its, r, ⟨o, e, _, n, d⟩, _⟩ := I.tuple h
  obtain ⟨its', r', ⟨o', e', _, n', d'⟩, _⟩ := I.tuple h'
  rw [e] at e'; cases e'
  rw [d] at d'
  injection d' with d1 _
  have : its = its' := by simpa using congrArg Array.toList d1
  subst this
  exact r.inj r'
end

/-! ### another wish about exceptions -/
abbrev Cx.wish (X : Cx) (E : Value → Shared → Prop) : Cx := { X with xe := E }
/-- no exception leaves -/
abbrev Cx.nox (X : Cx) : Cx := X.wish fun _ _ => False
theorem Cx.Ok.wish {X : Cx} (ok : X.Ok) (E : Value → Shared → Prop) : (X.wish E).Ok :=
  ⟨ok.mod, ok.kind, ok.glob, ok.blt, ok.above, ok.inj, ok.has, ok.cab, ok.hd, ok.frames, ok.stk, ok.exf, ok.bs, ok.bsz, ok.noex, ok.exfs, ok.funs, ok.frf⟩
theorem Cx.Ok.unwish {X : Cx} {E : Value → Shared → Prop} (ok : (X.wish E).Ok) : X.Ok :=
  ⟨ok.mod, ok.kind, ok.glob, ok.blt, ok.above, ok.inj, ok.has, ok.cab, ok.hd, ok.frames, ok.stk, ok.exf, ok.bs, ok.bsz, ok.noex, ok.exfs, ok.funs, ok.frf⟩
section
variable {X : Cx} {pins : List (Addr × Obj)} {σ : St} {H : Hp} {s : Shared} {E : Value → Shared → Prop}
theorem Inv.wish (I : Inv X pins σ H s) (E : Value → Shared → Prop) : Inv (X.wish E) pins σ H s := ⟨I.ok.wish E, I.os, I.bare, I.base, I.loc, I.cell, I.free, I.freeC, I.pin, I.hok, I.len⟩
theorem Inv.unwish (I : Inv (X.wish E) pins σ H s) : Inv X pins σ H s := ⟨I.ok.unwish, I.os, I.bare, I.base, I.loc, I.cell, I.free, I.freeC, I.pin, I.hok, I.len⟩
theorem SP.unwish {D : Ends} {f : Flow} {s' : Shared} (h : SP (X.wish E) pins D f s') : SP X pins D f s' := by
  cases f with
  | next => obtain ⟨σ', H', I, q⟩ := h; exact ⟨σ', H', I.unwish, q⟩
  | brk => obtain ⟨σ', H', I, q⟩ := h; exact ⟨σ', H', I.unwish, q⟩
  | cont => obtain ⟨σ', H', I, q⟩ := h; exact ⟨σ', H', I.unwish, q⟩
  | ret u => obtain ⟨v, σ', H', I, r, q⟩ := h; exact ⟨v, σ', H', I.unwish, r, q⟩
theorem PE.nox {e : Expr} {t : TE} (h : PE X.nox e t) : PE X e t := fun pins s σ H Q I hw =>
  wpAny_mono (h pins s σ H Q (I.wish _) hw) (fun _ _ ⟨v, H', I', r, q⟩ => ⟨v, H', I'.unwish, r, q⟩) fun _ _ z => False.elim z
theorem PT.nox {e : Expr} {t : TT} (h : PT X.nox e t) : PT X e t := fun pins s σ H Q I hw =>
  wpAny_mono (h pins s σ H Q (I.wish _) hw) (fun _ _ ⟨H', I', q⟩ => ⟨H', I'.unwish, q⟩) fun _ _ z => False.elim z
theorem PSs.nox {st : List Stmt} {t : TS} (h : PSs X.nox st t) : PSs X st t := fun pins s σ H D I hw =>
  wpAny_mono (h pins s σ H D (I.wish _) hw) (fun _ _ q => q.unwish) fun _ _ z => False.elim z
end

/-! ### blocks and small statements -/
section
variable {X : Cx} {st : Stmt} {rest : List Stmt} {t u : TS} {e : Expr} {te : TE} {pos : Pos}
def tNext : TS := fun D σ H => D.nx σ H
def tSeq (t u : TS) : TS := fun D σ H => t { D with nx := u D } σ H
theorem pss_nil : PSs X [] tNext := fun _ _ σ H _ I h => wpAny_execs_nil ⟨σ, H, I, h⟩
theorem pss_cons (h1 : PS X st t) (h2 : PSs X rest u) : PSs X (st :: rest) (tSeq t u) := by
  intro pins s σ H D I h
  refine wpAny_execs_cons (thn (h1 pins s σ H { D with nx := u D } I h) fun f s1 q => ?_)
  cases f with
  | next =>
    obtain ⟨σ', H', I', q⟩ := q
    exact h2 pins s1 σ' H' D I' q
  | ret v => exact q
  | brk => exact q
  | cont => exact q
theorem pss_one (h1 : PS X st t) : PSs X [st] t := by
  intro pins s σ H D I h
  refine wpAny_execs_cons (thn (h1 pins s σ H D I h) fun f s1 q => ?_)
  cases f with
  | next => exact wpAny_execs_nil q
  | ret v => exact q
  | brk => exact q
  | cont => exact q
def tBreak : TS := fun D σ H => D.bk σ H
def tCont : TS := fun D σ H => D.ct σ H
theorem ps_pass : PS X (.Pass pos) tNext := fun _ _ σ H _ I h => wpAny_Pass ⟨σ, H, I, h⟩
theorem ps_break : PS X (.Break pos) tBreak := fun _ _ σ H _ I h => wpAny_Break ⟨σ, H, I, h⟩
theorem ps_continue : PS X (.Continue pos) tCont := fun _ _ σ H _ I h => wpAny_Continue ⟨σ, H, I, h⟩
/-- in a def's body nothing is shown -/
theorem Inv.quiet {pins : List (Addr × Obj)} {σ : St} {H : Hp} {s : Shared} (I : Inv X pins σ H s) : interactive X.env = false := by simp [interactive, I.ok.kind]
/-- a docstring -/
theorem ps_doc {x j pos pos'} : PS X (.Expr (.Constant (.str x) j pos) pos') tNext := fun _ s σ H _ I h => wpAny_Expr (Calls.Constant_str (show SP X _ _ .next { s with toks := s.toks + 1 } from ⟨σ, H, I.tok _, h⟩)) I.quiet
/-- an expression whose value is dropped -/
def tDrop (te : TE) : TS := fun D σ H => te σ H fun _ H1 => D.nx σ H1
theorem ps_expr (he : PE X e te) (hs : swapsWith e none pos.line X.env = pure false := by rfl) : PS X (.Expr e pos) (tDrop te) := by
  intro pins s σ H D I h
  exact wpAny_Expr_any (thn (he pins s σ H _ I h) fun v s1 ⟨x, H1, I1, r1, q1⟩ => ⟨σ, H1, I1, q1⟩) I.quiet hs
def tRet (te : TE) : TS := fun D σ H => te σ H D.rt
theorem ps_ret (he : PE X e te) : PS X (.Return (some e) pos) (tRet te) := by
  intro pins s σ H D I h
  exact wpAny_Return_some (thn (he pins s σ H _ I h) fun v s1 ⟨x, H1, I1, r1, q1⟩ => ⟨x, σ, H1, I1, r1, q1⟩)
def tRetN : TS := fun D _ H => D.rt .non H
theorem ps_retN : PS X (.Return none pos) tRetN := fun _ _ σ H _ I h => wpAny_Return_none ⟨.non, σ, H, I, rfl, h⟩
def tIfS (c : TT) (t u : TS) : TS := fun D σ H => c σ H fun b H1 => if b = true then t D σ H1 else u D σ H1
theorem ps_if {c : Expr} {a b : List Stmt} {tc : TT} (hc : PT X c tc) (ha : PSs X a t) (hb : PSs X b u) : PS X (.If c a b pos) (tIfS tc t u) := by
  intro pins s σ H D I h
  refine wpAny_If (thn (hc pins s σ H _ I h) fun d s1 ⟨H1, I1, q1⟩ => ?_)
  cases d with
  | true => exact ha pins s1 σ H1 D I1 q1
  | false => exact hb pins s1 σ H1 D I1 q1
/-- code that the proof never comes to -/
def tNever : TS := fun _ _ _ => False
theorem ps_never : PS X st tNever := fun _ _ _ _ _ _ h => h.elim
theorem pss_never {sts : List Stmt} : PSs X sts tNever := fun _ _ _ _ _ _ h => h.elim
end

/-! ### targets -/
abbrev TG := V → St → Hp → (St → Hp → Prop) → Prop
abbrev TGs := List V → St → Hp → (St → Hp → Prop) → Prop
def PG (X : Cx) (target : Expr) (t : TG) : Prop :=
  ∀ (pins : List (Addr × Obj)) (s : Shared) (σ : St) (H : Hp) (v : V) (u : Value) (Q : St → Hp → Prop), Inv X pins σ H s → RelV v u → t v σ H Q →
    wpAny (model X.prog X.w) X.A (assign target X.env u) (fun _ s' => ∃ σ' H', Inv X pins σ' H' s' ∧ Q σ' H') X.xe s
/-- several targets, one after another -/
def PGs (X : Cx) (ts : List Expr) (t : TGs) : Prop :=
  ∀ (pins : List (Addr × Obj)) (s : Shared) (σ : St) (H : Hp) (vs : List V) (us : List Value) (Q : St → Hp → Prop), Inv X pins σ H s → Vals vs us → t vs σ H Q →
    wpAny (model X.prog X.w) X.A (assignInOrder ((assignEach ts X.env).map (·.2)) us) (fun _ s' => ∃ σ' H', Inv X pins σ' H' s' ∧ Q σ' H') X.xe s
/-- o[i] = v, by values -/
abbrev TSet := V → V → V → Hp → (Hp → Prop) → Prop
def PSet (X : Cx) (t : TSet) : Prop :=
  ∀ (pins : List (Addr × Obj)) (s : Shared) (σ : St) (H : Hp) (o i v : V) (ov iv u : Value) (Q : Hp → Prop), Inv X pins σ H s → RelV o ov → RelV i iv → RelV v u → t o i v H Q →
    wpAny (model X.prog X.w) X.A (setItem ov iv u) (fun _ s' => ∃ H', Inv X pins σ H' s' ∧ Q H') X.xe s
/-- a op= b, by values -/
abbrev TIp := V → V → Hp → VK → Prop
def PIp (X : Cx) (op : Operator) (t : TIp) : Prop :=
  ∀ (pins : List (Addr × Obj)) (s : Shared) (σ : St) (H : Hp) (x y : V) (v u : Value) (Q : VK), Inv X pins σ H s → RelV x v → RelV y u → t x y H Q →
    wpAny (model X.prog X.w) X.A (inplaceOp op v u) (EP X pins σ Q) X.xe s
section
variable {X : Cx} {pos : Pos}
def gName (i : Nat) : TG := fun v σ H Q => Q (σ.set i (some v)) H
theorem pg_name {i : Nat} {x : Str} (hN : X.N.Nodup) (hi : X.N[i]? = some x) (hx : Loc X.env.scope x) (hf : X.fn x = true ∨ X.env.scope.names.lookup x = some .local := by first | exact .inl rfl | exact .inr rfl | assumption) : PG X (.Name x pos) (gName i) := by
  intro pins s σ H v u Q I r h
  exact wpAny_assign_Name (store_ok I hN hi hx r (fun s' I' => ⟨_, H, I', h⟩) hf)
def gNil : TGs := fun vs σ H Q => vs = [] ∧ Q σ H
def gCons (t : TG) (u : TGs) : TGs := fun vs σ H Q => ∃ v r, vs = v :: r ∧ t v σ H fun σ' H' => u r σ' H' Q
theorem pgs_nil : PGs X [] gNil := by
  intro pins s σ H vs us Q I r h
  obtain ⟨e, h⟩ := h
  subst e
  cases r
  exact assignInOrder_nil ⟨σ, H, I, h⟩
theorem pgs_cons {e : Expr} {es : List Expr} {t : TG} {u : TGs} (h1 : PG X e t) (h2 : PGs X es u)
    (hs : (assignEach (e :: es) X.env).map (·.2) = assign e X.env :: (assignEach es X.env).map (·.2) := by rfl) : PGs X (e :: es) (gCons t u) := by
  intro pins s σ H vs us Q I r h
  obtain ⟨v, vr, e1, h⟩ := h
  subst e1
  cases r with
  | cons r rr =>
    rw [hs]
    refine assignInOrder_cons (thn (h1 pins s σ H _ _ _ I r h) fun _ s1 ⟨σ1, H1, I1, q1⟩ => ?_)
    exact h2 pins s1 σ1 H1 _ _ Q I1 rr q1
/-- (a, b, ..) = a tuple of that length -/
def gTup (K : PySem.W.Frag) (n : Nat) (t : TGs) : TG := fun v σ H Q => ∃ a xs, v = .ref a ∧ SqT K H a xs ∧ xs.length = n ∧ t xs σ H Q
theorem pg_tup {es : List Expr} {k : Nat} {t : TGs} {n : Nat} (hc : X.calm = true) (h : PGs X es t)
    (hn : (assignEach es X.env).length = n := by rfl) (hst : (assignEach es X.env).findIdx? (·.1) = none := by rfl) : PG X (.Tuple es k pos) (gTup X.K n t) := by
  intro pins s σ H v u Q I r hw
  obtain ⟨a, xs, e1, hq, hl, hw⟩ := hw
  subst e1
  cases r
  obtain ⟨its, rv, ht, hz⟩ := I.tuple hq
  refine assign_Tuple_tuple (I.ok.hd hc) ht (by simp [hn, ← hl, rv.length]) hst fun h' hx => ?_
  have I1 : Inv X pins σ H { s with heap := h' } := I.kept (t' := s.toks) fun b o e => hx b o (Nat.ne_of_lt (Heap.lt_size e)) e
  exact h pins _ σ H xs _ Q I1 (by simpa using rv) hw
/-- o[i] = .. -/
def gSub (to ti : TE) (t : TSet) : TG := fun v σ H Q => to σ H fun o H1 => ti σ H1 fun i H2 => t o i v H2 fun H3 => Q σ H3
theorem pg_sub {o i : Expr} {to ti : TE} {t : TSet} (ho : PE X o to) (hi : PE X i ti) (hs : PSet X t)
    (ha : ∀ v, assign (.Subscript o i pos) X.env v = (do
      let ov ← holding [v] (eval o X.env)
      let iv ← holding [v, ov] (eval i X.env)
      standAt pos
      holding [v, ov, iv] (setItem ov iv v)
      release [v, ov, iv] []) := by intro _; rfl) : PG X (.Subscript o i pos) (gSub to ti t) := by
  intro pins s σ H v u Q I r h
  rw [ha]
  refine wpAny_bind (wpAny_holding (thn (ho pins s σ H _ I h) fun ov s1 ⟨x, H1, I1, r1, q1⟩ => ?_))
  refine wpAny_bind (wpAny_holding (thn (hi pins s1 σ H1 _ I1 q1) fun iv s2 ⟨y, H2, I2, r2, q2⟩ => ?_))
  refine wpAny_bind (wpAny_standAt (wpAny_bind (wpAny_holding (thn (hs pins s2 σ H2 x y v ov iv u _ I2 r1 r2 r q2) fun _ s3 ⟨H3, I3, q3⟩ => ?_))))
  exact wpAny_release ⟨σ, H3, I3, q3⟩
/-- target = value -/
def tAsg (te : TE) (g : TG) : TS := fun D σ H => te σ H fun x H1 => g x σ H1 D.nx
theorem ps_asg {tg e : Expr} {te : TE} {g : TG} (he : PE X e te) (hg : PG X tg g) (hs : swapsWithSole [tg] e pos.line X.env = pure false := by rfl) (hw : swappedStores [tg] e X.env = pure none := by rfl)
    (h1 : (assignEach [tg] X.env).map (·.2) = [assign tg X.env] := by rfl) : PS X (.Assign [tg] e pos) (tAsg te g) := by
  intro pins s σ H D I h
  refine wpAny_Assign_stores (thn (he pins s σ H _ I h) fun v s1 ⟨x, H1, I1, r1, q1⟩ => ?_) hs hw
  rw [h1]
  exact thn (hg pins s1 σ H1 x v _ I1 r1 q1) fun _ s2 q => q
/-- name = value -/
theorem ps_set {i : Nat} {x : Str} {e : Expr} {te : TE} {pos' : Pos} (hN : X.N.Nodup) (hi : X.N[i]? = some x) (hx : Loc X.env.scope x) (he : PE X e te) (hs : swapsWith e (some (.Name x pos')) pos.line X.env = pure false := by rfl) (hf : X.fn x = true ∨ X.env.scope.names.lookup x = some .local := by first | exact .inl rfl | exact .inr rfl | assumption) :
    PS X (.Assign [.Name x pos'] e pos) (tAsg te (gName i)) := by
  intro pins s σ H D I h
  refine wpAny_Assign_Name (thn (he pins s σ H _ I h) fun v s1 ⟨y, H1, I1, r1, q1⟩ => ?_) hs
  exact store_ok I1 hN hi hx r1 (fun s2 I2 => ⟨_, H1, I2, q1⟩) hf
/-- a, b = x, y with plain local names: stored from the right; the pair itself is not tracked (the opening rows as in PyProof/Rows/TupAssign.lean:23) -/
def tPar (i j : Nat) (ta : TA) : TS := fun D σ H => ta σ H fun vs H1 => ∃ v w, vs = [v, w] ∧ D.nx ((σ.set i (some v)).set j (some w)) H1
theorem ps_par {i j : Nat} {x y : Str} {a b : Expr} {ta : TA} {px py pt : Pos} {kt k2 pt2} (hc : X.calm = true) (hN : X.N.Nodup) (hi : X.N[i]? = some x) (hj : X.N[j]? = some y) (hij : i ≠ j)
    (hx : X.env.scope.names.lookup x = some .local) (hy : X.env.scope.names.lookup y = some .local) (ha : PA X [a, b] ta)
    (hw : swappedStores [.Tuple [.Name x px, .Name y py] kt pt] (.Tuple [a, b] k2 pt2) X.env = pure (some [x, y]))
    (hs : swapsWithSole [.Tuple [.Name x px, .Name y py] kt pt] (.Tuple [a, b] k2 pt2) pos.line X.env = pure false := by rfl) :
    PS X (.Assign [.Tuple [.Name x px, .Name y py] kt pt] (.Tuple [a, b] k2 pt2) pos) (tPar i j ta) := by
  intro pins s σ H D I h
  rw [exec_Assign_arm]
  refine wpAny_bind (wpAny_standAt ?_)
  rw [hs]
  refine wpAny_bind (wpAny_pure ?_)
  rw [if_neg (by decide)]
  refine wpAny_bind (Tuple_ (thn (ha _ pins s σ H _ I h) fun us s1 ⟨vs, H1, I1, r1, q1⟩ => ?_))
  obtain ⟨v, w, e1, q1⟩ := q1
  subst e1
  obtain ⟨u1, u2, rfl, rv, rw'⟩ : ∃ u1 u2, us = [u1, u2] ∧ RelV v u1 ∧ RelV w u2 := by
    cases r1 with
    | cons p q =>
      cases q with
      | cons p' q' =>
        cases q'
        exact ⟨_, _, rfl, p, p'⟩
  refine wpAny_newObj_type ?_ (by show 2 ≤ sizeLine; decide)
  have I2 : Inv X pins σ H1 { s1 with heap := s1.heap.push { cls := .type "tuple", data := .seq [u1, u2].toArray } } := I1.kept (t' := s1.toks) fun b o e => Heap.get?_push_of_some _ e
  rw [hw]
  refine wpAny_bind (wpAny_pure ?_)
  show wpAny (model X.prog X.w) X.A (do rule "assign.swapped-stores"; let items ← unpackItems (.ref s1.heap.objs.size) 2 none; assignInOrder [fun v => bindName X.env y v, fun v => bindName X.env x v] items.reverse; pure Flow.next) _ _ _
  refine wpAny_bind (wpAny_rule (wpAny_bind (unpackItems_tuple (items := #[u1, u2]) (I.ok.hd hc) (IsTup.new s1.heap _) fun h' hx' => ?_)))
  have I3 := I2.kept (h' := h') (t' := s1.toks) fun b o e => hx' b o (Nat.ne_of_lt (Heap.lt_size e)) e
  show wpAny _ _ (assignInOrder [fun v => bindName X.env y v, fun v => bindName X.env x v] [u2, u1] >>= fun _ => pure Flow.next) _ _ _
  refine wpAny_bind (assignInOrder_cons (wpAny_bindName (store_ok I3 hN hj (.inl hy) rw' (fun s2 I4 => ?_) (.inr hy))))
  refine assignInOrder_cons (wpAny_bindName (store_ok I4 hN hi (.inl hx) rv (fun s3 I5 => assignInOrder_nil (wpAny_pure ?_)) (.inr hx)))
  rw [List.set_comm _ _ (Ne.symm hij)] at I5
  exact ⟨_, H1, I5, q1⟩
/-- name op= e -/
def tAug (i : Nat) (te : TE) (ti : TIp) : TS := fun D σ H => ∃ x, σ[i]? = some (some x) ∧ te σ H fun y H1 => ti x y H1 fun z H2 => D.nx (σ.set i (some z)) H2
theorem ps_aug {i : Nat} {x : Str} {e : Expr} {te : TE} {op : Operator} {ti : TIp} {pos' : Pos} (hN : X.N.Nodup) (hi : X.N[i]? = some x) (hx : Loc X.env.scope x) (he : PE X e te) (ho : PIp X op ti) (hf : X.fn x = true ∨ X.env.scope.names.lookup x = some .local := by first | exact .inl rfl | exact .inr rfl | assumption) :
    PS X (.AugAssign (.Name x pos') op e pos) (tAug i te ti) := by
  intro pins s σ H D I h
  obtain ⟨v, e1, h⟩ := h
  obtain ⟨m, hn, hl⟩ := I.loc
  have vis : Vis X.env.scope x := by rcases hx with k | k; exact .inl k; exact .inr (.inl k)
  obtain ⟨u, r, l⟩ := hl i x v hi e1 vis
  refine wpAny_AugAssign_Name ?_
  have go : wpAny (model X.prog X.w) X.A (eval e X.env) (fun w s₂ => wpAny (model X.prog X.w) X.A (inplaceOp op u w) (fun r s₃ => wpAny (model X.prog X.w) X.A (storeName X.env x r) (fun _ => SP X pins D .next) X.xe s₃) X.xe s₂) X.xe s := by
    refine thn (he pins s σ H _ I h) fun w s1 ⟨y, H1, I1, r1, q1⟩ => ?_
    refine thn (ho pins s1 σ H1 v y u w _ I1 r r1 q1) fun z s2 ⟨zv, H2, I2, r2, q2⟩ => ?_
    exact store_ok I2 hN hi hx r2 (fun s3 I3 => ⟨_, H2, I3, q2⟩) hf
  rcases l with ⟨hk, hm⟩ | ⟨hk, c, hc, hcell⟩
  · exact wpAny_loadName_local I.ok.kind hk hn hm go
  · rcases hk with hk | hk
    · exact wpAny_loadName_cell I.ok.kind hk hc hcell go
    · rcases hx with k | k
      · have : X.env.scope.names.lookup x = some .free := hk
        rw [k] at this; cases this
      · have : X.env.scope.names.lookup x = some .free := hk
        rw [k] at this; cases this
/-- o[i] op= e -/
def tAugS (to ti te : TE) (tget : V → V → Hp → VK → Prop) (tip : TIp) (tset : TSet) : TS := fun D σ H => to σ H fun o H1 => ti σ H1 fun i H2 => tget o i H2 fun x H3 => te σ H3 fun y H4 => tip x y H4 fun z H5 => tset o i z H5 fun H6 => D.nx σ H6
/-- o[i], by values -/
def PGet (X : Cx) (t : V → V → Hp → VK → Prop) : Prop :=
  ∀ (pins : List (Addr × Obj)) (s : Shared) (σ : St) (H : Hp) (o i : V) (ov iv : Value) (Q : VK), Inv X pins σ H s → RelV o ov → RelV i iv → t o i H Q →
    wpAny (model X.prog X.w) X.A (getItem ov iv) (EP X pins σ Q) X.xe s
theorem ps_augS {o i e : Expr} {to ti te : TE} {tget : V → V → Hp → VK → Prop} {tip : TIp} {tset : TSet} {op : Operator} {tpos : Pos} (ho : PE X o to) (hi : PE X i ti) (hg : PGet X tget) (he : PE X e te) (hp : PIp X op tip) (hs : PSet X tset)
    (ha : ∀ ov iv new, augStore i ov iv new = (do holding [new, ov, iv] (setItem ov iv new); release [new, ov, iv] []; pure .next) := by intros; rfl) : PS X (.AugAssign (.Subscript o i tpos) op e pos) (tAugS to ti te tget tip tset) := by
  intro pins s σ H D I h
  refine wpAny_AugAssign_SubscriptAny (thn (ho pins s σ H _ I h) fun ov s1 ⟨x1, H1, I1, r1, q1⟩ => ?_) ha
  refine thn (hi pins s1 σ H1 _ I1 q1) fun iv s2 ⟨x2, H2, I2, r2, q2⟩ => ?_
  refine thn (hg pins s2 σ H2 x1 x2 ov iv _ I2 r1 r2 q2) fun old s3 ⟨x3, H3, I3, r3, q3⟩ => ?_
  refine thn (he pins s3 σ H3 _ I3 q3) fun v s4 ⟨x4, H4, I4, r4, q4⟩ => ?_
  refine thn (hp pins s4 σ H4 x3 x4 old v _ I4 r3 r4 q4) fun new s5 ⟨x5, H5, I5, r5, q5⟩ => ?_
  exact thn (hs pins s5 σ H5 x1 x2 x5 ov iv new _ I5 r1 r2 r5 q5) fun _ s6 ⟨H6, I6, q6⟩ => ⟨σ, H6, I6, q6⟩
/-- ints -/
def ipI (f : Int → Int → Int) : TIp := fun x y H Q => ∃ i j, x = .int i ∧ y = .int j ∧ Q (.int (f i j)) H
theorem ip_add : PIp X .Add (ipI fun i j => i + j) := by
  intro pins s σ H x y v u Q I r1 r2 h
  obtain ⟨i, j, e1, e2, q⟩ := h
  subst e1; subst e2
  obtain ⟨t, rfl⟩ := r1
  obtain ⟨t', rfl⟩ := r2
  exact iadd_int ⟨.int _, H, I.tok _, ⟨_, rfl⟩, q⟩
theorem ip_sub : PIp X .Sub (ipI fun i j => i - j) := by
  intro pins s σ H x y v u Q I r1 r2 h
  obtain ⟨i, j, e1, e2, q⟩ := h
  subst e1; subst e2
  obtain ⟨t, rfl⟩ := r1
  obtain ⟨t', rfl⟩ := r2
  exact isub_int ⟨.int _, H, I.tok _, ⟨_, rfl⟩, q⟩
end

/-! ### while -/
section
variable {X : Cx} {pos : Pos}
/-- the invariant W with its measure -/
def tWhile (c : TT) (tb : TS) : TS := fun D σ H => ∃ W : Nat → St → Hp → Prop, (∃ m, W m σ H) ∧ ∀ m σ H, W m σ H →
  c σ H fun b H1 => if b = true then ∃ N : St → Hp → Prop, (∀ σ' H', N σ' H' → ∃ m', m' < m ∧ W m' σ' H') ∧ tb { D with nx := N, ct := N, bk := D.nx } σ H1 else D.nx σ H1
theorem ps_while {c : Expr} {body : List Stmt} {tc : TT} {tb : TS} (hp : PassesOwn (model X.prog X.w) X.A X.env X.xe) (hc : PT X c tc) (hb : PSs X body tb) : PS X (.While c body [] pos) (tWhile tc tb) := by
  intro pins s σ H D I h
  obtain ⟨W, ⟨m0, w0⟩, turn⟩ := h
  refine wpAny_While (codeAny_whileLoop (fun n s' => ∃ σ' H', Inv X pins σ' H' s' ∧ W n σ' H') ?_ m0 ⟨σ, H, I, w0⟩)
  rintro n s1 ⟨σ1, H1, I1, w1⟩
  refine wpAny_passesOwn hp (thn (hc pins s1 σ1 H1 _ I1 (turn n σ1 H1 w1)) fun b s2 ⟨H2, I2, q2⟩ => ?_)
  cases b with
  | true =>
    obtain ⟨N, hN, q2⟩ := q2
    rw [if_pos rfl]
    refine wpAny_passesOwn hp (thn (hb pins s2 σ1 H2 _ I2 q2) fun f s3 q3 => ?_)
    cases f with
    | next =>
      obtain ⟨σ3, H3, I3, n3⟩ := q3
      obtain ⟨m', hm, w3⟩ := hN σ3 H3 n3
      exact ⟨m', hm, σ3, H3, I3, w3⟩
    | cont =>
      obtain ⟨σ3, H3, I3, n3⟩ := q3
      obtain ⟨m', hm, w3⟩ := hN σ3 H3 n3
      exact ⟨m', hm, σ3, H3, I3, w3⟩
    | brk => exact q3
    | ret v => exact q3
  | false =>
    rw [if_neg Bool.false_ne_true]
    exact wpAny_execs_nil ⟨σ1, H2, I2, q2⟩
end

/-! ### what a loop or a comprehension walks -/
/-- at turn i: it yields x (the heap may grow), or it stops -/
structure It where
  go : Nat → Hp → Prop
  yld : Nat → Hp → V → Hp → Prop
  stop : Nat → Hp → Prop
/-- the iterator's own objects may turn: they are not the frame's, not pinned, younger than the entry (or a comprehension's own) -/
def FpOk (X : Cx) (pins : List (Addr × Obj)) (H : Hp) (b : Addr) : Prop :=
  H b = none ∧ b ≠ X.env.locals ∧ b ∉ X.fs ∧ (b ∈ X.ex ∨ X.s₀.heap.objs.size ≤ b) ∧ (∀ x c, X.env.cells.lookup x = some c → c ≠ b) ∧ ∀ p ∈ X.pn ++ pins, p.1 ≠ b
theorem Inv.fpOk {X : Cx} {pins : List (Addr × Obj)} {σ : St} {H H' : Hp} {s : Shared} {b : Addr} (I : Inv X pins σ H s) (hb : s.heap.objs.size ≤ b) (hn : H' b = none) : FpOk X pins H' b := by
  refine ⟨hn, Nat.ne_of_gt (Nat.lt_of_lt_of_le I.lt hb), I.nofs hb, .inr (Nat.le_trans I.sz hb), fun x c e z => ?_, fun p hp z => ?_⟩
  · obtain ⟨v, q⟩ := I.cell x c e
    exact absurd (Nat.lt_of_lt_of_le q.lt (by rw [z]; exact hb)) (Nat.lt_irrefl _)
  · exact absurd (Nat.lt_of_lt_of_le (Heap.lt_size (I.pin p hp).1) (by rw [z]; exact hb)) (Nat.lt_irrefl _)
structure Turn (P : Program) (w : World) (K : PySem.W.Frag) (tg : Expr) (J : It) (fp : List Addr) (it : Addr) (tn : Nat → Heap → Prop) : Prop where
  mem : it ∈ fp
  obj : ∀ i h, tn i h → ∀ b ∈ fp, ∃ o, h.get? b = some o ∧ ∀ v, o.data ≠ .cell v
  keep : ∀ i h h', tn i h → (∀ b ∈ fp, ∀ o, h.get? b = some o → h'.get? b = some o) → tn i h'
  item : ∀ (X : Cx), X.prog = P → X.w = w → X.K = K → X.calm = true → ∀ (i : Nat) (pins : List (Addr × Obj)) (s : Shared) (σ : St) (H : Hp) (E : Value → Shared → Prop), Inv X pins σ H s → (∀ b ∈ fp, FpOk X pins H b) → tn i s.heap → J.go i H →
    wpAny (model P w) X.A (pyNext (.ref it)) (fun r s1 => ∃ u, r = some u ∧
      wpAny (model P w) X.A (letOwnedTupleGo tg (.ref it) u) (fun _ s2 => ∃ x H', Inv X pins σ H' s2 ∧ RelV x u ∧ J.yld i H x H' ∧ tn (i + 1) s2.heap ∧ ∀ b ∈ fp, H' b = none) E s1) E s
  done : ∀ (X : Cx), X.prog = P → X.w = w → X.K = K → X.calm = true → ∀ (i : Nat) (pins : List (Addr × Obj)) (s : Shared) (σ : St) (H : Hp) (E : Value → Shared → Prop), Inv X pins σ H s → (∀ b ∈ fp, FpOk X pins H b) → tn i s.heap → J.stop i H →
    wpAny (model P w) X.A (pyNext (.ref it)) (fun r s1 => r = none ∧ Inv X pins σ H s1) E s
  self : ∀ (A : Around) (i : Nat) (s : Shared) (Q : Value → Shared → Prop) (E : Value → Shared → Prop), tn i s.heap → Q (.ref it) s → wpAny (model P w) A (pyIter (.ref it)) Q E s
abbrev TI := St → Hp → (It → Hp → Prop) → Prop
/-- an iterator has come -/
def PIE (X : Cx) (pins : List (Addr × Obj)) (σ : St) (tg : Expr) (R : It → Hp → Prop) (itv : Value) (s2 : Shared) : Prop :=
  ∃ (it : Addr) (fp : List Addr) (tn : Nat → Heap → Prop) (J : It) (H' : Hp), itv = .ref it ∧ Inv X pins σ H' s2 ∧ Turn X.prog X.w X.K tg J fp it tn ∧ tn 0 s2.heap ∧ (∀ b ∈ fp, FpOk X pins H' b) ∧ R J H'
def PI (X : Cx) (tg iter : Expr) (wi : TI) : Prop :=
  ∀ (pins : List (Addr × Obj)) (s : Shared) (σ : St) (H : Hp) (R : It → Hp → Prop), Inv X pins σ H s → wi σ H R →
    wpAny (model X.prog X.w) X.A (eval iter X.env) (fun v s1 => wpAny (model X.prog X.w) X.A (pyIter v) (PIE X pins σ tg R) X.xe s1) X.xe s

/-- the step ahead of the store is nothing for an iterator that keeps no tuple -/
theorem go_of {M : Model} {A : Around} {E : Value → Shared → Prop} {s : Shared} {tg : Expr} {it : Addr} {u : Value} {o : Obj} {n : String} {vs : Array Value} {Q : Unit → Shared → Prop} (ho : s.heap.get? it = some o) (hc : o.cls = .type n) (hd : o.data = .fields vs)
    (hn : ["enumerate", "zip", "dict_itemiterator", "dict_reverseitemiterator", "odict_iterator", "itertools.zip_longest", "itertools.pairwise"].contains n = false) (hQ : Q () s) : wpAny M A (letOwnedTupleGo tg (.ref it) u) Q E s := by
  unfold letOwnedTupleGo
  cases tg <;> first
    | exact wpAny_pure hQ
    | (cases u <;> first
        | exact wpAny_pure hQ
        | (refine wpAny_bind (wpAny_load ho ?_)
           rw [hc, hd]
           show wpAny M A (if (["enumerate", "zip", "dict_itemiterator", "dict_reverseitemiterator", "odict_iterator", "itertools.zip_longest", "itertools.pairwise"].contains n && vs[0]? == some (rawInt _)) = true then _ else _) Q E s
           rw [if_neg (by intro h; rw [hn, Bool.false_and] at h; cases h)]
           exact wpAny_pure hQ))

/-- the list at a, as it stands at each turn (a loop may append to it) -/
def Itl (K : PySem.W.Frag) (a : Addr) : It :=
  ⟨fun i H => ∃ xs x, SqL K H a xs ∧ xs[i]? = some x, fun i H x H' => H' = H ∧ ∀ xs, SqL K H a xs → xs[i]? = some x, fun i H => ∃ xs, SqL K H a xs ∧ xs.length ≤ i⟩
def Itt (K : PySem.W.Frag) (a : Addr) : It :=
  ⟨fun i H => ∃ xs x, SqT K H a xs ∧ xs[i]? = some x, fun i H x H' => H' = H ∧ ∀ xs, SqT K H a xs → xs[i]? = some x, fun i H => ∃ xs, SqT K H a xs ∧ xs.length ≤ i⟩
/-- lo, lo + 1, .. (n of them) -/
def Itr (lo : Int) (n : Nat) : It := ⟨fun i _ => i < n, fun i H x H' => H' = H ∧ x = .int (lo + i), fun i _ => n ≤ i⟩
theorem turn_list {P : Program} {w : World} {K : PySem.W.Frag} {tg : Expr} (a it : Addr) : Turn P w K tg (Itl K a) [it] it (fun i h => h.IsListIter it a i) where
  mem := by simp
  obj := fun i h st b hb => by
    have e : b = it := by simpa using hb
    subst e
    obtain ⟨o, e, c, d⟩ := st
    exact ⟨o, e, fun v z => by rw [d] at z; cases z⟩
  keep := fun i h h' st k => st.at fun o e => k it (by simp) o e
  item := by
    intro X hP hw hK hc i pins s σ H E I hf st hg
    subst hP hw hK
    obtain ⟨xs, x, hq, hx⟩ := hg
    obtain ⟨its, rv, p, hz⟩ := I.list hq
    obtain ⟨u, hu, ru⟩ := rv.get hx
    obtain ⟨f0, f1, f2, f3, f4, f5⟩ := hf it (by simp)
    refine wpAny_pyNext_list_item st p.isList (x := u) (by simpa using hu) fun h' st' sb => ?_
    have I1 : Inv X pins σ H { s with heap := h' } := I.turned (t' := s.toks) (fun b o hb e => (sb.2 b hb).trans e) f0 f1 f3 f4 f5
    obtain ⟨o, e, c, d⟩ := id st'
    exact ⟨u, rfl, go_of (s := { s with heap := h' }) e c d (by decide) ⟨x, H, I1, ru, ⟨rfl, fun ys hy => by rw [I.list_inj hy hq]; exact hx⟩, st', fun b hb => (hf b hb).1⟩⟩
  done := by
    intro X hP hw hK hc i pins s σ H E I hf st hg
    subst hP hw hK
    obtain ⟨xs, hq, hx⟩ := hg
    obtain ⟨its, rv, p, hz⟩ := I.list hq
    obtain ⟨f0, f1, f2, f3, f4, f5⟩ := hf it (by simp)
    have hl := rv.length
    exact wpAny_pyNext_list_end (I.ok.hd hc) st p.isList (by simp; omega) fun h' eb => ⟨rfl, I.turned (t' := s.toks) (fun b o hb e => eb b o hb e) f0 f1 f3 f4 f5⟩
  self := fun _ _ _ _ _ st h => wpAny_pyIter_listiter st h
theorem turn_tuple {P : Program} {w : World} {K : PySem.W.Frag} {tg : Expr} (a it : Addr) : Turn P w K tg (Itt K a) [it] it (fun i h => h.IsTupleIter it a i) where
  mem := by simp
  obj := fun i h st b hb => by
    have e : b = it := by simpa using hb
    subst e
    obtain ⟨o, e, c, d⟩ := st
    exact ⟨o, e, fun v z => by rw [d] at z; cases z⟩
  keep := fun i h h' st k => st.at fun o e => k it (by simp) o e
  item := by
    intro X hP hw hK hc i pins s σ H E I hf st hg
    subst hP hw hK
    obtain ⟨xs, x, hq, hx⟩ := hg
    obtain ⟨its, rv, p, hz⟩ := I.tuple hq
    obtain ⟨u, hu, ru⟩ := rv.get hx
    obtain ⟨f0, f1, f2, f3, f4, f5⟩ := hf it (by simp)
    refine wpAny_pyNext_tuple_item st (show s.heap.IsTuple a its.toArray from p) (x := u) (by simpa using hu) fun h' st' sb => ?_
    have I1 : Inv X pins σ H { s with heap := h' } := I.turned (t' := s.toks) (fun b o hb e => (sb.2 b hb).trans e) f0 f1 f3 f4 f5
    obtain ⟨o, e, c, d⟩ := id st'
    exact ⟨u, rfl, go_of (s := { s with heap := h' }) e c d (by decide) ⟨x, H, I1, ru, ⟨rfl, fun ys hy => by rw [I.tuple_inj hy hq]; exact hx⟩, st', fun b hb => (hf b hb).1⟩⟩
  done := by
    intro X hP hw hK hc i pins s σ H E I hf st hg
    subst hP hw hK
    obtain ⟨xs, hq, hx⟩ := hg
    obtain ⟨its, rv, p, hz⟩ := I.tuple hq
    obtain ⟨f0, f1, f2, f3, f4, f5⟩ := hf it (by simp)
    have hl := rv.length
    exact wpAny_pyNext_tuple_end (I.ok.hd hc) st (show s.heap.IsTuple a its.toArray from p) (by simp; omega) fun h' eb => ⟨rfl, I.turned (t' := s.toks) (fun b o hb e => eb b o hb e) f0 f1 f3 f4 f5⟩
  self := fun _ _ _ _ _ st h => wpAny_pyIter_tupleiter st h
theorem turn_range {P : Program} {w : World} {K : PySem.W.Frag} {tg : Expr} (it : Addr) (lo : Int) (n : Nat) : Turn P w K tg (Itr lo n) [it] it (fun i h => IsRangeIter h it (lo + (i : Nat) * 1) ((n : Int) - (i : Nat)) 1) where
  mem := by simp
  obj := fun i h st b hb => by
    have e : b = it := by simpa using hb
    subst e
    exact ⟨_, st, fun v z => by
      have z' : Data.fields _ = Data.cell v := z
      cases z'⟩
  keep := fun i h h' st k => k it (by simp) _ st
  item := by
    intro X hP hw hK hc i pins s σ H E I hf st hg
    subst hP hw hK
    obtain ⟨f0, f1, f2, f3, f4, f5⟩ := hf it (by simp)
    have W := Walks.range (prog := X.prog) (w := X.w) (I.ok.hd hc) it lo 1 n
    refine W.item i s _ _ hg st fun v h' tk hv st' kk => ?_
    obtain ⟨t, rfl⟩ := hv
    have I1 : Inv X pins σ H { s with heap := h', toks := tk } := I.turned (fun b o hb e => kk b o (by simpa using hb) e) f0 f1 f3 f4 f5
    refine ⟨_, rfl, go_of (s := { s with heap := h', toks := tk }) (n := "range_iterator") st' rfl rfl (by decide) ⟨.int (lo + i), H, I1, ⟨t, ?_⟩, ⟨rfl, rfl⟩, st', fun b hb => (hf b hb).1⟩⟩
    rw [Int.mul_one]
  done := by
    intro X hP hw hK hc i pins s σ H E I hf st hg
    subst hP hw hK
    obtain ⟨f0, f1, f2, f3, f4, f5⟩ := hf it (by simp)
    exact wpAny_pyNext_range_end (I.ok.hd hc) st (by have : n ≤ i := hg; omega) fun h' eb => ⟨rfl, I.turned (t' := s.toks) (fun b o hb e => eb b o hb e) f0 f1 f3 f4 f5⟩
  self := fun _ _ _ _ _ st h => wpAny_pyIter_rangeiter st h
end L2

namespace L2
open PySem PySem.Spec PyProof.Rows
section
variable {X : Cx} {tg : Expr}
def iList (K : PySem.W.Frag) (tl : TE) : TI := fun σ H R => tl σ H fun x H1 => ∃ a, x = .ref a ∧ (∃ xs, SqL K H1 a xs) ∧ R (Itl K a) H1
def iTup (K : PySem.W.Frag) (tl : TE) : TI := fun σ H R => tl σ H fun x H1 => ∃ a, x = .ref a ∧ (∃ xs, SqT K H1 a xs) ∧ R (Itt K a) H1
theorem pi_list {l : Expr} {tl : TE} (hl : PE X l tl) : PI X tg l (iList X.K tl) := by
  intro pins s σ H R I h
  refine thn (hl pins s σ H _ I h) fun v s1 ⟨x, H1, I1, r1, q1⟩ => ?_
  obtain ⟨a, e, ⟨xs, hq⟩, q⟩ := q1
  subst e
  cases r1
  obtain ⟨its, rv, p, hz⟩ := I1.list hq
  refine wpAny_pyIter_list p.isList ?_
  refine ⟨s1.heap.objs.size, [s1.heap.objs.size], _, _, H1, rfl, I1.kept (t' := s1.toks) fun b o e => Heap.get?_push_of_some _ e, turn_list a _, ⟨_, Heap.get?_push_size _ rfl, rfl, rfl⟩, fun b hb => ?_, q⟩
  have e : b = s1.heap.objs.size := by simpa using hb
  subst e
  exact I1.fpOk (Nat.le_refl _) (I1.hok.fresh (Nat.le_refl _))
theorem pi_tup {l : Expr} {tl : TE} (hl : PE X l tl) : PI X tg l (iTup X.K tl) := by
  intro pins s σ H R I h
  refine thn (hl pins s σ H _ I h) fun v s1 ⟨x, H1, I1, r1, q1⟩ => ?_
  obtain ⟨a, e, ⟨xs, hq⟩, q⟩ := q1
  subst e
  cases r1
  obtain ⟨its, rv, p, hz⟩ := I1.tuple hq
  refine wpAny_pyIter_tuple (show s1.heap.IsTuple a its.toArray from p) ?_
  refine ⟨s1.heap.objs.size, [s1.heap.objs.size], _, _, H1, rfl, I1.kept (t' := s1.toks) fun b o e => Heap.get?_push_of_some _ e, turn_tuple a _, ⟨_, Heap.get?_push_size _ rfl, rfl, rfl⟩, fun b hb => ?_, q⟩
  have e : b = s1.heap.objs.size := by simpa using hb
  subst e
  exact I1.fpOk (Nat.le_refl _) (I1.hok.fresh (Nat.le_refl _))
/-- a range object just made, walked -/
theorem range_it {pins : List (Addr × Obj)} {σ : St} {H : Hp} {s : Shared} {R : It → Hp → Prop} {E : Value → Shared → Prop} {lo hi : Int} {t u v : Tok} {tk : Nat} (I : Inv X pins σ H s) (h1 : -(2 ^ 62) ≤ lo) (h2 : lo < 2 ^ 62) (h3 : -(2 ^ 62) ≤ hi) (h4 : hi < 2 ^ 62)
    (q : R (Itr lo (hi - lo).toNat) H) : wpAny (model X.prog X.w) X.A (pyIter (.ref s.heap.objs.size)) (PIE X pins σ tg R) E { s with heap := s.heap.push { cls := .type "range", data := .fields #[.int lo t, .int hi u, .int 1 v] }, toks := tk } := by
  refine wpAny_pyIter_range (IsRange.new ..) (small_one h1 h2 h3 h4) ?_
  have I1 : Inv X pins σ H { s with heap := s.heap.push { cls := .type "range", data := .fields #[.int lo t, .int hi u, .int 1 v] }, toks := tk } := I.kept fun b o e => Heap.get?_push_of_some _ e
  refine ⟨(s.heap.push { cls := .type "range", data := .fields #[.int lo t, .int hi u, .int 1 v] }).objs.size, [(s.heap.push { cls := .type "range", data := .fields #[.int lo t, .int hi u, .int 1 v] }).objs.size], _, _, H, rfl,
    I1.kept (t' := tk) fun b o e => Heap.get?_push_of_some _ e, turn_range _ lo (hi - lo).toNat, ?_, fun b hb => ?_, q⟩
  · have e1 : lo + ((0 : Nat) : Int) * 1 = lo := by simp
    have e2 : (((hi - lo).toNat : Nat) : Int) - ((0 : Nat) : Int) = Builtin.Range.rangeSize lo hi 1 := by rw [rangeSize_one]; split <;> omega
    show IsRangeIter _ _ (lo + ((0 : Nat) : Int) * 1) ((((hi - lo).toNat : Nat) : Int) - ((0 : Nat) : Int)) 1
    rw [e1, e2]
    exact Heap.get?_push_size _ rfl
  · have e : b = (s.heap.push { cls := .type "range", data := .fields #[.int lo t, .int hi u, .int 1 v] }).objs.size := by simpa using hb
    subst e
    exact I1.fpOk (Nat.le_refl _) (I1.hok.fresh (Nat.le_refl _))
def iRng1 (ta : TA) : TI := fun σ H R => ta σ H fun vs H1 => ∃ j : Int, vs = [.int j] ∧ -(2 ^ 62) ≤ j ∧ j < 2 ^ 62 ∧ R (Itr 0 j.toNat) H1
def iRng2 (ta : TA) : TI := fun σ H R => ta σ H fun vs H1 => ∃ i j : Int, vs = [.int i, .int j] ∧ (-(2 ^ 62) ≤ i ∧ i < 2 ^ 62 ∧ -(2 ^ 62) ≤ j ∧ j < 2 ^ 62) ∧ R (Itr i (j - i).toNat) H1
theorem pi_range1 {a : Expr} {ta : TA} {p pos : Pos} (hg : Gl X "range") (hm : X.mg "range" = none) (ha : PA X [a] ta) (hs : starEach [a] X.env = [(false, eval a X.env)] := by rfl) : PI X tg (.Call (.Name "range" p) [a] [] pos) (iRng1 ta) := by
  intro pins s σ H R I h
  refine Call_ (ld_blt I hg hm boot_range (PyProof.Rows.callWith_type1 (thn (ha pos pins s σ H _ I h) fun us s1 ⟨vs, H1, I1, r1, q1⟩ => ?_) hs rfl))
  obtain ⟨j, e, q1, q2, q⟩ := q1
  subst e
  cases r1 with
  | cons r rr =>
    cases rr
    obtain ⟨t, rfl⟩ := r
    exact call_range_1 (range_it I1 (by omega) (by omega) q1 q2 (by simpa using q))
theorem pi_range2 {a b : Expr} {ta : TA} {p pos : Pos} (hg : Gl X "range") (hm : X.mg "range" = none) (ha : PA X [a, b] ta) (hs : starEach [a, b] X.env = [(false, eval a X.env), (false, eval b X.env)] := by rfl) (hs2 : starEach [b] X.env = [(false, eval b X.env)] := by rfl) :
    PI X tg (.Call (.Name "range" p) [a, b] [] pos) (iRng2 ta) := by
  intro pins s σ H R I h
  refine Call_ (ld_blt I hg hm boot_range (PyProof.Rows.callWith_type1 (thn (ha pos pins s σ H _ I h) fun us s1 ⟨vs, H1, I1, r1, q1⟩ => ?_) (by rw [hs, hs2]) (by rw [hs2]; rfl)))
  obtain ⟨i, j, e, ⟨q1, q2, q3, q4⟩, q⟩ := q1
  subst e
  cases r1 with
  | cons r rr =>
    cases rr with
    | cons r' rr =>
      cases rr
      obtain ⟨t, rfl⟩ := r
      obtain ⟨t', rfl⟩ := r'
      exact call_range_2 (range_it I1 q1 q2 q3 q4 q)

/-! ### for -/
/-- W: the invariant by the turn and a measure; N: what the body is to reach -/
def tFor (wi : TI) (g : TG) (tb : TS) : TS := fun D σ H => wi σ H fun J H1 => ∃ W : Nat → Nat → St → Hp → Prop, (∃ m, W 0 m σ H1) ∧ ∀ i m σ H, W i m σ H →
  (J.stop i H ∧ D.nx σ H) ∨ (J.go i H ∧ ∃ N : St → Hp → Prop, (∀ σ' H', N σ' H' → ∃ m', m' < m ∧ W (i + 1) m' σ' H') ∧ ∀ x H', J.yld i H x H' → g x σ H' fun σ2 H2 => tb { D with nx := N, ct := N, bk := D.nx } σ2 H2)
/-- the records at fp as they stand -/
def pinsAt (fp : List Addr) (h : Heap) : List (Addr × Obj) := fp.filterMap fun b => (h.get? b).map fun o => (b, o)
theorem mem_pinsAt {fp : List Addr} {h : Heap} {b : Addr} {o : Obj} (hb : b ∈ fp) (e : h.get? b = some o) : (b, o) ∈ pinsAt fp h := List.mem_filterMap.mpr ⟨b, hb, by rw [e]; rfl⟩
theorem of_pinsAt {fp : List Addr} {h : Heap} {p : Addr × Obj} (hp : p ∈ pinsAt fp h) : p.1 ∈ fp ∧ h.get? p.1 = some p.2 := by
  obtain ⟨b, hb, e⟩ := List.mem_filterMap.mp hp
  cases q : h.get? b with
  | none => rw [q] at e; cases e
  | some o =>
    rw [q] at e
    have e' : (b, o) = p := Option.some.inj e
    subst e'
    exact ⟨hb, q⟩
theorem Inv.pinned {pins : List (Addr × Obj)} {σ : St} {H : Hp} {s : Shared} {fp : List Addr} (I : Inv X pins σ H s) (hf : ∀ b ∈ fp, FpOk X pins H b) (ho : ∀ b ∈ fp, ∃ o, s.heap.get? b = some o ∧ ∀ v, o.data ≠ .cell v) : Inv X (pins ++ pinsAt fp s.heap) σ H s :=
  I.pins_of fun p hp => (List.mem_append.mp hp).elim (fun z => I.pin p (List.mem_append_right _ z)) fun z => by
    obtain ⟨hb, e⟩ := of_pinsAt z
    obtain ⟨f0, f1, f2, _⟩ := hf p.1 hb
    obtain ⟨o, e', d⟩ := ho p.1 hb
    rw [e] at e'; cases e'
    exact ⟨e, f0, f1, f2, d⟩
theorem Inv.unpinned {pins pl : List (Addr × Obj)} {σ : St} {H : Hp} {s : Shared} (I : Inv X (pins ++ pl) σ H s) : Inv X pins σ H s := I.pins_of fun p hp => I.pin p (List.mem_append_right _ (List.mem_append_left _ hp))
theorem ps_for {iter : Expr} {body : List Stmt} {wi : TI} {g : TG} {tb : TS} {pos : Pos} (hp : PassesOwn (model X.prog X.w) X.A X.env X.xe) (hc : X.calm = true) (hi : PI X tg iter wi) (hg : PG X tg g) (hb : PSs X body tb)
    (hs : ∀ x, foldedSetIterable iter X.env x = pure x := by intro _; rfl) : PS X (.For tg iter body [] pos) (tFor wi g tb) := by
  intro pins s σ H D I h
  refine wpAny_For (thn (hi pins s σ H _ I h) fun v s1 h1 => thn h1 fun itv s2 h2 => ?_) hs
  obtain ⟨it, fp, tn, J, H2, e, I2, T, st2, f2, W, ⟨m0, w0⟩, turn⟩ := h2
  subst e
  -- what stays true of the iterator's objects through the loop
  have stat : ∀ {H' : Hp}, (∀ b ∈ fp, H' b = none) → ∀ b ∈ fp, FpOk X pins H' b := fun hn b hb => ⟨hn b hb, (f2 b hb).2⟩
  refine codeAny_forLoop_any (fun n s' => ∃ i σ' H', Inv X pins σ' H' s' ∧ tn i s'.heap ∧ (∀ b ∈ fp, H' b = none) ∧ W i n σ' H') ?_ m0 ⟨0, σ, H2, I2, st2, fun b hb => (f2 b hb).1, w0⟩
  rintro n s3 ⟨i, σ3, H3, I3, st3, fr3, w3⟩
  rcases turn i n σ3 H3 w3 with ⟨stop, qn⟩ | ⟨go, N, hN, step⟩
  · refine wpAny_passesOwn hp (thn (T.done X rfl rfl rfl hc i pins s3 σ3 H3 X.xe I3 (stat fr3) st3 stop) fun r s4 ⟨hr, I4⟩ => ?_)
    subst hr
    exact wpAny_execs_nil ⟨σ3, H3, I4, qn⟩
  · refine wpAny_passesOwn hp (thn (T.item X rfl rfl rfl hc i pins s3 σ3 H3 X.xe I3 (stat fr3) st3 go) fun r s4 ⟨u, hr, h4⟩ => ?_)
    subst hr
    refine wpAny_passesOwn hp (thn h4 fun _ s5 ⟨x, H5, I5, r5, y5, st5, fr5⟩ => ?_)
    have I5' := I5.pinned (stat fr5) (T.obj _ _ st5)
    refine wpAny_passesOwn hp (thn (hg _ s5 σ3 H5 x u _ I5' r5 (step x H5 y5)) fun _ s6 ⟨σ6, H6, I6, q6⟩ => ?_)
    refine wpAny_passesOwn hp (thn (hb _ s6 σ6 H6 _ I6 q6) fun f s7 q7 => ?_)
    have again : ∀ {σ7 : St} {H7 : Hp}, Inv X (pins ++ pinsAt fp s5.heap) σ7 H7 s7 → N σ7 H7 → ∃ m, m < n ∧ ∃ i σ' H', Inv X pins σ' H' s7 ∧ tn i s7.heap ∧ (∀ b ∈ fp, H' b = none) ∧ W i m σ' H' := fun {σ7 H7} I7 n7 => by
      obtain ⟨m', hm, w7⟩ := hN σ7 H7 n7
      refine ⟨m', hm, i + 1, σ7, H7, I7.unpinned, T.keep _ _ _ st5 fun b hb o e => (I7.pin (b, o) (List.mem_append_right _ (List.mem_append_right _ (mem_pinsAt hb e)))).1, fun b hb => ?_, w7⟩
      obtain ⟨o, e, d⟩ := T.obj _ _ st5 b hb
      exact (I7.pin (b, o) (List.mem_append_right _ (List.mem_append_right _ (mem_pinsAt hb e)))).2.1
    cases f with
    | next => obtain ⟨σ7, H7, I7, n7⟩ := q7; exact again I7 n7
    | cont => obtain ⟨σ7, H7, I7, n7⟩ := q7; exact again I7 n7
    | brk => obtain ⟨σ7, H7, I7, q7⟩ := q7; exact ⟨σ7, H7, I7.unpinned, q7⟩
    | ret v => obtain ⟨x7, σ7, H7, I7, r7, q7⟩ := q7; exact ⟨x7, σ7, H7, I7.unpinned, r7, q7⟩
end

/-! ### the forms one uses -/
/-- over a list that the body leaves as it is -/
theorem for_list {K : PySem.W.Frag} {a : Addr} {xs : List V} {g : TG} {tb : TS} {D : Ends} {σ : St} {H : Hp} (Pv : Nat → St → Hp → Prop) (h0 : Pv 0 σ H) (hl : ∀ i σ H, i ≤ xs.length → Pv i σ H → SqL K H a xs)
    (hs : ∀ i x σ H, xs[i]? = some x → Pv i σ H → g x σ H fun σ2 H2 => tb { D with nx := Pv (i + 1), ct := Pv (i + 1), bk := D.nx } σ2 H2) (hd : ∀ σ H, Pv xs.length σ H → D.nx σ H) :
    ∃ W : Nat → Nat → St → Hp → Prop, (∃ m, W 0 m σ H) ∧ ∀ i m σ H, W i m σ H →
      ((Itl K a).stop i H ∧ D.nx σ H) ∨ ((Itl K a).go i H ∧ ∃ N : St → Hp → Prop, (∀ σ' H', N σ' H' → ∃ m', m' < m ∧ W (i + 1) m' σ' H') ∧ ∀ x H', (Itl K a).yld i H x H' → g x σ H' fun σ2 H2 => tb { D with nx := N, ct := N, bk := D.nx } σ2 H2) := by
  refine ⟨fun i m σ H => m = xs.length - i ∧ i ≤ xs.length ∧ Pv i σ H, ⟨xs.length, by simp, Nat.zero_le _, h0⟩, ?_⟩
  rintro i m σ H ⟨rfl, hi, p⟩
  have q := hl i σ H hi p
  by_cases hlt : i < xs.length
  · refine .inr ⟨⟨xs, xs[i], q, by simp [hlt]⟩, Pv (i + 1), fun σ' H' p' => ⟨xs.length - (i + 1), by omega, rfl, hlt, p'⟩, fun x H' y => ?_⟩
    obtain ⟨e, y⟩ := y
    subst e
    exact hs i x σ _ (y xs q) p
  · have e : i = xs.length := by omega
    subst e
    exact .inl ⟨⟨xs, q, Nat.le_refl _⟩, hd σ H p⟩
theorem for_tup {K : PySem.W.Frag} {a : Addr} {xs : List V} {g : TG} {tb : TS} {D : Ends} {σ : St} {H : Hp} (Pv : Nat → St → Hp → Prop) (h0 : Pv 0 σ H) (hl : ∀ i σ H, i ≤ xs.length → Pv i σ H → SqT K H a xs)
    (hs : ∀ i x σ H, xs[i]? = some x → Pv i σ H → g x σ H fun σ2 H2 => tb { D with nx := Pv (i + 1), ct := Pv (i + 1), bk := D.nx } σ2 H2) (hd : ∀ σ H, Pv xs.length σ H → D.nx σ H) :
    ∃ W : Nat → Nat → St → Hp → Prop, (∃ m, W 0 m σ H) ∧ ∀ i m σ H, W i m σ H →
      ((Itt K a).stop i H ∧ D.nx σ H) ∨ ((Itt K a).go i H ∧ ∃ N : St → Hp → Prop, (∀ σ' H', N σ' H' → ∃ m', m' < m ∧ W (i + 1) m' σ' H') ∧ ∀ x H', (Itt K a).yld i H x H' → g x σ H' fun σ2 H2 => tb { D with nx := N, ct := N, bk := D.nx } σ2 H2) := by
  refine ⟨fun i m σ H => m = xs.length - i ∧ i ≤ xs.length ∧ Pv i σ H, ⟨xs.length, by simp, Nat.zero_le _, h0⟩, ?_⟩
  rintro i m σ H ⟨rfl, hi, p⟩
  have q := hl i σ H hi p
  by_cases hlt : i < xs.length
  · refine .inr ⟨⟨xs, xs[i], q, by simp [hlt]⟩, Pv (i + 1), fun σ' H' p' => ⟨xs.length - (i + 1), by omega, rfl, hlt, p'⟩, fun x H' y => ?_⟩
    obtain ⟨e, y⟩ := y
    subst e
    exact hs i x σ _ (y xs q) p
  · have e : i = xs.length := by omega
    subst e
    exact .inl ⟨⟨xs, q, Nat.le_refl _⟩, hd σ H p⟩
theorem for_range {lo : Int} {n : Nat} {g : TG} {tb : TS} {D : Ends} {σ : St} {H : Hp} (Pv : Nat → St → Hp → Prop) (h0 : Pv 0 σ H)
    (hs : ∀ i σ H, i < n → Pv i σ H → g (.int (lo + i)) σ H fun σ2 H2 => tb { D with nx := Pv (i + 1), ct := Pv (i + 1), bk := D.nx } σ2 H2) (hd : ∀ σ H, Pv n σ H → D.nx σ H) :
    ∃ W : Nat → Nat → St → Hp → Prop, (∃ m, W 0 m σ H) ∧ ∀ i m σ H, W i m σ H →
      ((Itr lo n).stop i H ∧ D.nx σ H) ∨ ((Itr lo n).go i H ∧ ∃ N : St → Hp → Prop, (∀ σ' H', N σ' H' → ∃ m', m' < m ∧ W (i + 1) m' σ' H') ∧ ∀ x H', (Itr lo n).yld i H x H' → g x σ H' fun σ2 H2 => tb { D with nx := N, ct := N, bk := D.nx } σ2 H2) := by
  refine ⟨fun i m σ H => m = n - i ∧ i ≤ n ∧ Pv i σ H, ⟨n, by simp, Nat.zero_le _, h0⟩, ?_⟩
  rintro i m σ H ⟨rfl, hi, p⟩
  by_cases hlt : i < n
  · refine .inr ⟨hlt, Pv (i + 1), fun σ' H' p' => ⟨n - (i + 1), by omega, rfl, hlt, p'⟩, fun x H' y => ?_⟩
    obtain ⟨e, y⟩ := y
    subst e y
    exact hs i σ _ hlt p
  · have e : i = n := by omega
    subst e
    exact .inl ⟨Nat.le_refl _, hd σ H p⟩
/-- while, by a word and a measure of the state -/
theorem while_by {c : TT} {tb : TS} {D : Ends} {σ : St} {H : Hp} (Pv : St → Hp → Prop) (μ : St → Hp → Nat) (h0 : Pv σ H)
    (hs : ∀ σ H, Pv σ H → c σ H fun b H1 => if b = true then tb { D with nx := fun σ' H' => Pv σ' H' ∧ μ σ' H' < μ σ H, ct := fun σ' H' => Pv σ' H' ∧ μ σ' H' < μ σ H, bk := D.nx } σ H1 else D.nx σ H1)
    (mono : ∀ σ H Q Q', (∀ b H1, Q b H1 → Q' b H1) → c σ H Q → c σ H Q') : tWhile c tb D σ H := by
  refine ⟨fun m σ H => m = μ σ H ∧ Pv σ H, ⟨_, rfl, h0⟩, ?_⟩
  rintro m σ H ⟨rfl, p⟩
  refine mono σ H _ _ (fun b H1 q => ?_) (hs σ H p)
  cases b with
  | true => exact ⟨_, fun σ' H' ⟨p', l⟩ => ⟨_, l, rfl, p'⟩, q⟩
  | false => exact q
end L2

namespace L2
open PySem PySem.Spec PyProof.Rows

abbrev R2 := V → V → Hp → VK → Prop
/-- a two-place operation on values: f is binaryOp op, inplaceOp op or compareOp op -/
def OpR (X : Cx) (f : Value → Value → Sem Value) (r : R2) : Prop :=
  ∀ (pins : List (Addr × Obj)) (s : Shared) (σ : St) (H : Hp) (x y : V) (v u : Value) (Q : VK), Inv X pins σ H s → RelV x v → RelV y u → r x y H Q →
    wpAny (model X.prog X.w) X.A (f v u) (EP X pins σ Q) X.xe s
/-- a one-place operation -/
def UnR (X : Cx) (f : Value → Sem Value) (r : V → Hp → VK → Prop) : Prop :=
  ∀ (pins : List (Addr × Obj)) (s : Shared) (σ : St) (H : Hp) (x : V) (v : Value) (Q : VK), Inv X pins σ H s → RelV x v → r x H Q →
    wpAny (model X.prog X.w) X.A (f v) (EP X pins σ Q) X.xe s
/-- a call of a value that is known (a builtin, a type) with values -/
def CallR (X : Cx) (f : Value) (r : List V → Hp → VK → Prop) : Prop :=
  ∀ (pins : List (Addr × Obj)) (s : Shared) (σ : St) (H : Hp) (xs : List V) (us : List Value) (Q : VK), Inv X pins σ H s → Vals xs us → r xs H Q →
    wpAny (model X.prog X.w) X.A (call f us) (EP X pins σ Q) X.xe s
/-- a value's truth -/
def TruR (X : Cx) (r : V → Hp → (Bool → Hp → Prop) → Prop) : Prop :=
  ∀ (pins : List (Addr × Obj)) (s : Shared) (σ : St) (H : Hp) (x : V) (v : Value) (Q : Bool → Hp → Prop), Inv X pins σ H s → RelV x v → r x H Q →
    wpAny (model X.prog X.w) X.A (truthy v) (TP X pins σ Q) X.xe s

def tOp (r : R2) (ta tb : TE) : TE := fun σ H Q => ta σ H fun x H1 => tb σ H1 fun y H2 => r x y H2 Q
def tUn (r : V → Hp → VK → Prop) (ta : TE) : TE := fun σ H Q => ta σ H fun x H1 => r x H1 Q
/-- ints in, under C, and a value out -/
def rI (C : Int → Int → Prop) (g : Int → Int → V) : R2 := fun x y H Q => ∃ i j, x = .int i ∧ y = .int j ∧ C i j ∧ Q (g i j) H
def rI0 (g : Int → Int → V) : R2 := fun x y H Q => ∃ i j, x = .int i ∧ y = .int j ∧ Q (g i j) H
def rU (g : Int → V) : V → Hp → VK → Prop := fun x H Q => ∃ i, x = .int i ∧ Q (g i) H

section
variable {X : Cx} {a b c : Expr} {ta tb tc : TE} {pos : Pos}

theorem binT (ha : PE X a ta) (hb : PE X b tb) {pins : List (Addr × Obj)} {s : Shared} {σ : St} {H : Hp} {R : V → V → Hp → Prop} (I : Inv X pins σ H s)
    (h : ta σ H fun x H1 => tb σ H1 fun y H2 => R x y H2) {Q : Value → Shared → Prop} {f : Value → Value → Sem Value}
    (hf : ∀ v u s2 x y H2, Inv X pins σ H2 s2 → RelV x v → RelV y u → R x y H2 → wpAny (model X.prog X.w) X.A (f v u) Q X.xe s2) :
    wpAny (model X.prog X.w) X.A (eval a X.env) (fun v s₁ => wpAny (model X.prog X.w) X.A (eval b X.env) (fun u s₂ => wpAny (model X.prog X.w) X.A (f v u) Q X.xe s₂) X.xe s₁) X.xe s := by
  refine thn (ha pins s σ H _ I h) fun v s1 ⟨x, H1, I1, r1, q1⟩ => ?_
  refine thn (hb pins s1 σ H1 _ I1 q1) fun u s2 ⟨y, H2, I2, r2, q2⟩ => ?_
  exact hf v u s2 x y H2 I2 r1 r2 q2

theorem pe_op {op : Operator} {r : R2} (ho : OpR X (binaryOp op) r) (ha : PE X a ta) (hb : PE X b tb) : PE X (.BinOp a op b pos) (tOp r ta tb) := by
  intro pins s σ H Q I h
  exact wpAny_BinOp (binT ha hb I h fun v u s2 x y H2 I2 rx ry q => ho pins s2 σ H2 x y v u Q I2 rx ry q)
theorem pe_un {op : UnaryOp} {r : V → Hp → VK → Prop} (ho : UnR X (unaryOp op) r) (ha : PE X a ta) : PE X (.UnaryOp op a pos) (tUn r ta) := by
  intro pins s σ H Q I h
  exact UnaryOp_ (thn (ha pins s σ H _ I h) fun v s1 ⟨x, H1, I1, r1, q1⟩ => ho pins s1 σ H1 x v Q I1 r1 q1)
/-- a op= e at a name: the name's slot i -/
theorem augR {op : Operator} {r : R2} (ho : OpR X (inplaceOp op) r) {pins : List (Addr × Obj)} {s : Shared} {σ : St} {H : Hp} {x y : V} {v u : Value} {Q : VK} (I : Inv X pins σ H s)
    (rx : RelV x v) (ry : RelV y u) (q : r x y H Q) : wpAny (model X.prog X.w) X.A (inplaceOp op v u) (EP X pins σ Q) X.xe s := ho pins s σ H x y v u Q I rx ry q

/-! ### ints -/
theorem opI {f : Value → Value → Sem Value} {C : Int → Int → Prop} {g : Int → Int → Int}
    (rule : ∀ (i j : Int) (t u : Tok) (s : Shared) (Q : Value → Shared → Prop) (E : Value → Shared → Prop), C i j → Q (.int (g i j) s.toks) { s with toks := s.toks + 1 } → wpAny (model X.prog X.w) X.A (f (.int i t) (.int j u)) Q E s) :
    OpR X f (rI C fun i j => .int (g i j)) := by
  intro pins s σ H x y v u Q I rx ry h
  obtain ⟨i, j, rfl, rfl, hc, q⟩ := h
  obtain ⟨t, rfl⟩ := rx
  obtain ⟨t', rfl⟩ := ry
  exact rule i j t t' s _ _ hc ⟨.int (g i j), H, I.tok _, ⟨_, rfl⟩, q⟩
theorem opI0 {f : Value → Value → Sem Value} {g : Int → Int → Int}
    (rule : ∀ (i j : Int) (t u : Tok) (s : Shared) (Q : Value → Shared → Prop) (E : Value → Shared → Prop), Q (.int (g i j) s.toks) { s with toks := s.toks + 1 } → wpAny (model X.prog X.w) X.A (f (.int i t) (.int j u)) Q E s) :
    OpR X f (rI0 fun i j => .int (g i j)) := by
  intro pins s σ H x y v u Q I rx ry h
  obtain ⟨i, j, rfl, rfl, q⟩ := h
  obtain ⟨t, rfl⟩ := rx
  obtain ⟨t', rfl⟩ := ry
  exact rule i j t t' s _ _ ⟨.int (g i j), H, I.tok _, ⟨_, rfl⟩, q⟩
theorem opB0 {f : Value → Value → Sem Value} {g : Int → Int → Bool}
    (rule : ∀ (i j : Int) (t u : Tok) (s : Shared) (Q : Value → Shared → Prop) (E : Value → Shared → Prop), Q (.bool (g i j)) s → wpAny (model X.prog X.w) X.A (f (.int i t) (.int j u)) Q E s) :
    OpR X f (rI0 fun i j => .bl (g i j)) := by
  intro pins s σ H x y v u Q I rx ry h
  obtain ⟨i, j, rfl, rfl, q⟩ := h
  obtain ⟨t, rfl⟩ := rx
  obtain ⟨t', rfl⟩ := ry
  exact rule i j t t' s _ _ ⟨.bl (g i j), H, I, rfl, q⟩

def CDiv (i j : Int) : Prop := 0 < j ∧ j < 1073741824
def CDivN (i j : Int) : Prop := j ≠ 0 ∧ j.natAbs < 1073741824
def CPow (i j : Int) : Prop := 0 ≤ j ∧ j ≤ 1000000 ∧ i.natAbs < 2 ^ 64
def CMul (i j : Int) : Prop := (-(2 ^ 64) < i ∧ i < 2 ^ 64) ∨ (-(2 ^ 64) < j ∧ j < 2 ^ 64)
theorem CMul.ok {i j : Int} (h : CMul i j) : IntMulOk i j := by
  rcases h with ⟨h1, h2⟩ | ⟨h1, h2⟩
  · exact .of_left (intBits_le_64 h1 h2)
  · exact .of_right (intBits_le_64 h1 h2)
theorem two_pow_nn (k : Nat) : (0 : Int) ≤ 2 ^ k := by
  rw [two_pow_cast]
  exact Int.natCast_nonneg _

theorem op_add : OpR X (binaryOp .Add) (rI0 fun i j => .int (i + j)) := opI0 fun _ _ _ _ _ _ _ q => add_int q
theorem op_sub : OpR X (binaryOp .Sub) (rI0 fun i j => .int (i - j)) := opI0 fun _ _ _ _ _ _ _ q => sub_int q
theorem op_mul : OpR X (binaryOp .Mult) (rI CMul fun i j => .int (i * j)) := opI fun _ _ _ _ _ _ _ hc q => mul_int q hc.ok
/-- // by a positive divisor -/
theorem op_fdiv : OpR X (binaryOp .FloorDiv) (rI CDiv fun i j => .int (i / j)) := opI fun i j _ _ _ _ _ hc q => by
  have h1 : (0 : Int) < j := hc.1
  have h2 : j < 1073741824 := hc.2
  exact floordiv_int (by omega) (by rw [Int.fdiv_eq_ediv_of_nonneg i (by omega)]; exact q) (.inl (PyProof.noPylong_small (by omega)))
theorem op_fdivN : OpR X (binaryOp .FloorDiv) (rI CDivN fun i j => .int (i.fdiv j)) := opI fun _ _ _ _ _ _ _ hc q => floordiv_int hc.1 q (.inl (PyProof.noPylong_small hc.2))
/-- % by a positive divisor of any size -/
theorem op_mod : OpR X (binaryOp .Mod) (rI (fun _ j => 0 < j) fun i j => .int (i % j)) := opI fun i j _ _ _ _ _ hc q => by
  have h1 : (0 : Int) < j := hc
  exact mod_int' (by omega) (by rw [Int.fmod_eq_emod_of_nonneg i (by omega)]; exact q)
theorem op_modN : OpR X (binaryOp .Mod) (rI (fun _ j => j ≠ 0) fun i j => .int (i.fmod j)) := opI fun _ _ _ _ _ _ _ hc q => mod_int' hc q
theorem op_pow : OpR X (binaryOp .Pow) (rI CPow fun i j => .int (i ^ j.toNat)) := opI fun _ _ _ _ _ _ _ hc q => pow_int_small hc.1 hc.2.1 hc.2.2 q
theorem op_shl : OpR X (binaryOp .LShift) (rI CPow fun i j => .int (i * 2 ^ j.toNat)) := opI fun _ _ _ _ _ _ _ hc q => lshift_int_small hc.1 hc.2.1 hc.2.2 q
theorem op_shr : OpR X (binaryOp .RShift) (rI (fun _ j => 0 ≤ j) fun i j => .int (i / 2 ^ j.toNat)) := opI fun i j _ _ _ _ _ hc q =>
  rshift_int hc (by rw [Int.fdiv_eq_ediv_of_nonneg i (two_pow_nn _)]; exact q)
theorem op_and : OpR X (binaryOp .BitAnd) (rI0 fun i j => .int (Builtin.bitAnd i j)) := opI0 fun _ _ _ _ _ _ _ q => and_int q
theorem op_or : OpR X (binaryOp .BitOr) (rI0 fun i j => .int (Builtin.bitOr i j)) := opI0 fun _ _ _ _ _ _ _ q => or_int q
theorem op_xor : OpR X (binaryOp .BitXor) (rI0 fun i j => .int (Builtin.bitXor i j)) := opI0 fun _ _ _ _ _ _ _ q => xor_int q

theorem iop_add : OpR X (inplaceOp .Add) (rI0 fun i j => .int (i + j)) := opI0 fun _ _ _ _ _ _ _ q => iadd_int q
theorem iop_sub : OpR X (inplaceOp .Sub) (rI0 fun i j => .int (i - j)) := opI0 fun _ _ _ _ _ _ _ q => isub_int q
theorem iop_mul : OpR X (inplaceOp .Mult) (rI CMul fun i j => .int (i * j)) := opI fun _ _ _ _ _ _ _ hc q => imul_int q hc.ok
theorem iop_fdiv : OpR X (inplaceOp .FloorDiv) (rI CDiv fun i j => .int (i / j)) := opI fun i j _ _ _ _ _ hc q => by
  have h1 : (0 : Int) < j := hc.1
  have h2 : j < 1073741824 := hc.2
  exact ifloordiv_int (by omega) (by rw [Int.fdiv_eq_ediv_of_nonneg i (by omega)]; exact q) (.inl (PyProof.noPylong_small (by omega)))
theorem iop_mod : OpR X (inplaceOp .Mod) (rI (fun _ j => 0 < j) fun i j => .int (i % j)) := opI fun i j _ _ _ _ _ hc q => by
  have h1 : (0 : Int) < j := hc
  exact imod_int (by omega) (by rw [Int.fmod_eq_emod_of_nonneg i (by omega)]; exact q)
theorem iop_shl : OpR X (inplaceOp .LShift) (rI CPow fun i j => .int (i * 2 ^ j.toNat)) := opI fun _ _ _ _ _ _ _ hc q => ilshift_int_small hc.1 hc.2.1 hc.2.2 q
theorem iop_shr : OpR X (inplaceOp .RShift) (rI (fun _ j => 0 ≤ j) fun i j => .int (i / 2 ^ j.toNat)) := opI fun i j _ _ _ _ _ hc q =>
  irshift_int hc (by rw [Int.fdiv_eq_ediv_of_nonneg i (two_pow_nn _)]; exact q)
theorem iop_and : OpR X (inplaceOp .BitAnd) (rI0 fun i j => .int (Builtin.bitAnd i j)) := opI0 fun _ _ _ _ _ _ _ q => iand_int q
theorem iop_or : OpR X (inplaceOp .BitOr) (rI0 fun i j => .int (Builtin.bitOr i j)) := opI0 fun _ _ _ _ _ _ _ q => ior_int q
theorem iop_xor : OpR X (inplaceOp .BitXor) (rI0 fun i j => .int (Builtin.bitXor i j)) := opI0 fun _ _ _ _ _ _ _ q => ixor_int q

theorem unI {f : Value → Sem Value} {g : Int → Int}
    (rule : ∀ (i : Int) (t : Tok) (s : Shared) (Q : Value → Shared → Prop) (E : Value → Shared → Prop), Q (.int (g i) s.toks) { s with toks := s.toks + 1 } → wpAny (model X.prog X.w) X.A (f (.int i t)) Q E s) :
    UnR X f (rU fun i => .int (g i)) := by
  intro pins s σ H x v Q I rx h
  obtain ⟨i, rfl, q⟩ := h
  obtain ⟨t, rfl⟩ := rx
  exact rule i t s _ _ ⟨.int (g i), H, I.tok _, ⟨_, rfl⟩, q⟩
theorem un_neg : UnR X (unaryOp .USub) (rU fun i => .int (-i)) := unI fun _ _ _ _ _ q => neg_int q
theorem un_inv : UnR X (unaryOp .Invert) (rU fun i => .int (Builtin.bitNot i)) := unI fun _ _ _ _ _ q => invert_int q

/-! ### bools among ints: n += (a < b) -/
theorem op_add_ib : OpR X (binaryOp .Add) (fun x y H Q => ∃ i k, x = .int i ∧ y = .bl k ∧ Q (.int (i + b2i k)) H) := by
  intro pins s σ H x y v u Q I rx ry h
  obtain ⟨i, k, rfl, rfl, q⟩ := h
  obtain ⟨t, rfl⟩ := rx
  cases ry
  exact add_int_bool ⟨.int (i + b2i k), H, I.tok _, ⟨_, rfl⟩, q⟩
end

/-! ### comparisons -/
/-- the scalars that == tells apart as data does -/
def scal : V → V → Bool
  | .non, .non => true | .non, .int _ => true | .int _, .non => true | .non, .bl _ => true | .bl _, .non => true | .non, .str _ => true | .str _, .non => true
  | .int _, .int _ => true | .bl _, .bl _ => true | .str _, .str _ => true | .byt _, .byt _ => true
  | .int _, .str _ => true | .str _, .int _ => true | .bl _, .str _ => true | .str _, .bl _ => true
  | _, _ => false
def rEq : R2 := fun x y H Q => scal x y = true ∧ Q (.bl (decide (x = y))) H
def rNe : R2 := fun x y H Q => scal x y = true ∧ Q (.bl (!decide (x = y))) H

theorem dec_int {i j : Int} : decide (V.int i = V.int j) = (i == j) := by
  rw [Bool.eq_iff_iff]
  simp
theorem dec_bl {i j : Bool} : decide (V.bl i = V.bl j) = (i == j) := by
  rw [Bool.eq_iff_iff]
  simp
theorem dec_str {i j : Str} : decide (V.str i = V.str j) = (i == j) := by
  rw [Bool.eq_iff_iff]
  simp
theorem dec_byt {i j : Array UInt8} : decide (V.byt i = V.byt j) = (i.toList == j.toList) := by
  rw [Bool.eq_iff_iff]
  cases i
  cases j
  simp

section
variable {X : Cx} {a b c : Expr} {ta tb tc : TE} {pos : Pos}
theorem fin_bl {pins : List (Addr × Obj)} {σ : St} {H : Hp} {s : Shared} {Q : VK} {k k' : Bool} (I : Inv X pins σ H s) (q : Q (.bl k) H) (e : k = k') : EP X pins σ Q (.bool k') s := by
  subst e
  exact ⟨.bl k, H, I, rfl, q⟩
theorem op_eq : OpR X (compareOp .Eq) rEq := by
  intro pins s σ H x y v u Q I rx ry h
  obtain ⟨hs, q⟩ := h
  cases x with
  | non =>
    cases rx
    cases y with
    | non => cases ry; exact PySem.EqNone.eq_none_none (fin_bl I q (by simp))
    | bl j => cases ry; exact PySem.EqNone.eq_none_bool (fin_bl I q (by simp))
    | int j => obtain ⟨t', rfl⟩ := ry; exact PySem.EqNone.eq_none_int (fin_bl I q (by simp))
    | str j => obtain ⟨t', rfl⟩ := ry; exact PySem.EqNone.eq_none_str (fin_bl I q (by simp))
    | _ => exact absurd (show false = true from hs) Bool.false_ne_true
  | bl i =>
    cases rx
    cases y with
    | non => cases ry; exact PySem.EqNone.eq_bool_none (fin_bl I q (by simp))
    | bl j => cases ry; exact eq_bool (fin_bl I q dec_bl)
    | str j => obtain ⟨t', rfl⟩ := ry; exact PySem.EqMixed.eq_bool_str (fin_bl I q (by simp))
    | _ => exact absurd (show false = true from hs) Bool.false_ne_true
  | int i =>
    obtain ⟨t, rfl⟩ := rx
    cases y with
    | non => cases ry; exact PySem.EqNone.eq_int_none (fin_bl I q (by simp))
    | int j => obtain ⟨t', rfl⟩ := ry; exact eq_int (fin_bl I q dec_int)
    | str j => obtain ⟨t', rfl⟩ := ry; exact PySem.EqMixed.eq_int_str (fin_bl I q (by simp))
    | _ => exact absurd (show false = true from hs) Bool.false_ne_true
  | str i =>
    obtain ⟨t, rfl⟩ := rx
    cases y with
    | non => cases ry; exact PySem.EqNone.eq_str_none (fin_bl I q (by simp))
    | bl j => cases ry; exact PySem.EqMixed.eq_str_bool (fin_bl I q (by simp))
    | int j => obtain ⟨t', rfl⟩ := ry; exact PySem.EqMixed.eq_str_int (fin_bl I q (by simp))
    | str j => obtain ⟨t', rfl⟩ := ry; exact eq_str (fin_bl I q dec_str)
    | _ => exact absurd (show false = true from hs) Bool.false_ne_true
  | byt i =>
    obtain ⟨t, rfl⟩ := rx
    cases y with
    | byt j => obtain ⟨t', rfl⟩ := ry; exact PySem.W.eq_bytes (fin_bl I q dec_byt)
    | _ => exact absurd (show false = true from hs) Bool.false_ne_true
  | _ => cases y <;> exact absurd (show false = true from hs) Bool.false_ne_true
theorem op_ne : OpR X (compareOp .NotEq) rNe := by
  intro pins s σ H x y v u Q I rx ry h
  obtain ⟨hs, q⟩ := h
  cases x with
  | non =>
    cases rx
    cases y with
    | non => cases ry; exact PySem.EqNone.ne_none_none (fin_bl I q (by simp))
    | bl j => cases ry; exact PySem.EqNone.ne_none_bool (fin_bl I q (by simp))
    | int j => obtain ⟨t', rfl⟩ := ry; exact PySem.EqNone.ne_none_int (fin_bl I q (by simp))
    | str j => obtain ⟨t', rfl⟩ := ry; exact PySem.EqNone.ne_none_str (fin_bl I q (by simp))
    | _ => exact absurd (show false = true from hs) Bool.false_ne_true
  | bl i =>
    cases rx
    cases y with
    | non => cases ry; exact PySem.EqNone.ne_bool_none (fin_bl I q (by simp))
    | bl j => cases ry; exact ne_bool (fin_bl I q (congrArg not dec_bl))
    | str j => obtain ⟨t', rfl⟩ := ry; exact PySem.EqMixed.ne_bool_str (fin_bl I q (by simp))
    | _ => exact absurd (show false = true from hs) Bool.false_ne_true
  | int i =>
    obtain ⟨t, rfl⟩ := rx
    cases y with
    | non => cases ry; exact PySem.EqNone.ne_int_none (fin_bl I q (by simp))
    | int j => obtain ⟨t', rfl⟩ := ry; exact ne_int (fin_bl I q (congrArg not dec_int))
    | str j => obtain ⟨t', rfl⟩ := ry; exact PySem.EqMixed.ne_int_str (fin_bl I q (by simp))
    | _ => exact absurd (show false = true from hs) Bool.false_ne_true
  | str i =>
    obtain ⟨t, rfl⟩ := rx
    cases y with
    | non => cases ry; exact PySem.EqNone.ne_str_none (fin_bl I q (by simp))
    | bl j => cases ry; exact PySem.EqMixed.ne_str_bool (fin_bl I q (by simp))
    | int j => obtain ⟨t', rfl⟩ := ry; exact PySem.EqMixed.ne_str_int (fin_bl I q (by simp))
    | str j => obtain ⟨t', rfl⟩ := ry; exact ne_str (fin_bl I q (congrArg not dec_str))
    | _ => exact absurd (show false = true from hs) Bool.false_ne_true
  | byt i =>
    obtain ⟨t, rfl⟩ := rx
    cases y with
    | byt j => obtain ⟨t', rfl⟩ := ry; exact PySem.W.ne_bytes (fin_bl I q (congrArg not dec_byt))
    | _ => exact absurd (show false = true from hs) Bool.false_ne_true
  | _ => cases y <;> exact absurd (show false = true from hs) Bool.false_ne_true

theorem op_lt : OpR X (compareOp .Lt) (rI0 fun i j => .bl (decide (i < j))) := opB0 fun _ _ _ _ _ _ _ q => lt_int q
theorem op_le : OpR X (compareOp .LtE) (rI0 fun i j => .bl (decide (i ≤ j))) := opB0 fun _ _ _ _ _ _ _ q => le_int q
theorem op_gt : OpR X (compareOp .Gt) (rI0 fun i j => .bl (decide (j < i))) := opB0 fun _ _ _ _ _ _ _ q => gt_int q
theorem op_ge : OpR X (compareOp .GtE) (rI0 fun i j => .bl (decide (j ≤ i))) := opB0 fun _ _ _ _ _ _ _ q => ge_int q
theorem op_lt_str : OpR X (compareOp .Lt) (fun x y H Q => ∃ i j, x = .str i ∧ y = .str j ∧ Q (.bl (decide (i.cps.toList < j.cps.toList))) H) := by
  intro pins s σ H x y v u Q I rx ry h
  obtain ⟨i, j, rfl, rfl, q⟩ := h
  obtain ⟨t, rfl⟩ := rx
  obtain ⟨t', rfl⟩ := ry
  exact lt_str (fin_bl I q rfl)
/-- the one string within the other -/
theorem op_in_str : OpR X (compareOp .In) (fun x y H Q => ∃ i j, x = .str i ∧ y = .str j ∧ Q (.bl (!(Builtin.Str.occurrences j i 0 j.length 1).isEmpty)) H) := by
  intro pins s σ H x y v u Q I rx ry h
  obtain ⟨i, j, rfl, rfl, q⟩ := h
  obtain ⟨t, rfl⟩ := rx
  obtain ⟨t', rfl⟩ := ry
  exact in_str (fin_bl I q rfl)

/-- is None, is not None: the right side a value none -/
theorem op_isN : OpR X (compareOp .Is) (fun x y H Q => y = .non ∧ Q (.bl (decide (x = .non))) H) := by
  intro pins s σ H x y v u Q I rx ry h
  obtain ⟨rfl, q⟩ := h
  cases ry
  refine is_none_gen (fin_bl I q ?_)
  cases x <;> first
    | (cases rx; rfl)
    | (obtain ⟨t, rfl⟩ := rx; rfl)
theorem op_notN : OpR X (compareOp .IsNot) (fun x y H Q => y = .non ∧ Q (.bl (!decide (x = .non))) H) := by
  intro pins s σ H x y v u Q I rx ry h
  obtain ⟨rfl, q⟩ := h
  cases ry
  refine isnot_none_gen (fin_bl I q ?_)
  cases x <;> first
    | (cases rx; rfl)
    | (obtain ⟨t, rfl⟩ := rx; rfl)

theorem op_notin_str : OpR X (compareOp .NotIn) (fun x y H Q => ∃ i j, x = .str i ∧ y = .str j ∧ Q (.bl (!(!(Builtin.Str.occurrences j i 0 j.length 1).isEmpty))) H) := by
  intro pins s σ H x y v u Q I rx ry h
  obtain ⟨i, j, rfl, rfl, q⟩ := h
  obtain ⟨t, rfl⟩ := rx
  obtain ⟨t', rfl⟩ := ry
  exact notIn_str (fin_bl I q rfl)
/-- is, is not of two objects that are tracked lists or instances -/
def isObj : HO → Bool
  | .lst _ => true
  | .ins _ _ _ => true
  | _ => false
theorem obj_there {pins : List (Addr × Obj)} {s : Shared} {σ : St} {H : Hp} {a : Addr} {o : HO} (I : Inv X pins σ H s) (h : H a = some o) (p : isObj o = true) : ∃ ob, s.heap.get? a = some ob ∧ ob.cls ≠ .type "tuple" := by
  cases o with
  | lst xs =>
    obtain ⟨_, its, n, _, e⟩ : xs.length ≤ sizeLine ∧ ∃ (its : List Value) (n : Nat), Vals xs its ∧ s.heap.get? a = some { cls := .type "list", data := .seq its.toArray n } := I.hok a _ h
    exact ⟨_, e, (by show Value.type "list" ≠ .type "tuple"; decide +kernel)⟩
  | ins C dx fs =>
    have x := I.hok a _ h
    obtain ⟨_, _, _, e, _⟩ := x
    exact ⟨_, e, (by show Value.ref C ≠ .type "tuple"; exact fun z => by cases z)⟩
  | _ => exact absurd (show false = true from p) Bool.false_ne_true
theorem op_is_ref : OpR X (compareOp .Is) (fun x y H Q => ∃ a b oa ob, x = .ref a ∧ y = .ref b ∧ H a = some oa ∧ isObj oa = true ∧ H b = some ob ∧ isObj ob = true ∧ Q (.bl (decide (a = b))) H) := by
  intro pins s σ H x y v u Q I rx ry h
  obtain ⟨a, b, oa, ob, rfl, rfl, ha, pa, hb, pb, q⟩ := h
  cases rx
  cases ry
  obtain ⟨o1, e1, n1⟩ := obj_there I ha pa
  obtain ⟨o2, e2, _⟩ := obj_there I hb pb
  by_cases z : a = b
  · subst z
    exact wpAny_is_ref_self (fin_bl I q (by simp))
  · exact wpAny_is_ref_other z e1 e2 n1 (fin_bl I q (by simp [z]))
theorem op_isnot_ref : OpR X (compareOp .IsNot) (fun x y H Q => ∃ a b oa ob, x = .ref a ∧ y = .ref b ∧ H a = some oa ∧ isObj oa = true ∧ H b = some ob ∧ isObj ob = true ∧ Q (.bl (!decide (a = b))) H) := by
  intro pins s σ H x y v u Q I rx ry h
  obtain ⟨a, b, oa, ob, rfl, rfl, ha, pa, hb, pb, q⟩ := h
  cases rx
  cases ry
  obtain ⟨o1, e1, n1⟩ := obj_there I ha pa
  obtain ⟨o2, e2, _⟩ := obj_there I hb pb
  by_cases z : a = b
  · subst z
    exact wpAny_isNot_ref_self (fin_bl I q (by simp))
  · exact wpAny_isNot_ref_other z e1 e2 n1 (fin_bl I q (by simp [z]))

/-- two rules for one operation: by cases -/
theorem OpR.or {f : Value → Value → Sem Value} {r r' : R2} (h : OpR X f r) (h' : OpR X f r') : OpR X f (fun x y H Q => r x y H Q ∨ r' x y H Q) := by
  intro pins s σ H x y v u Q I rx ry q
  rcases q with q | q
  · exact h pins s σ H x y v u Q I rx ry q
  · exact h' pins s σ H x y v u Q I rx ry q

theorem nomark (b : Expr) {op : CmpOp} (h : op ≠ .In := by decide) (h2 : op ≠ .NotIn := by decide) : behindInMarks op b = false := by
  have e1 : (op == CmpOp.In) = false := by cases op <;> first | rfl | exact absurd rfl h
  have e2 : (op == CmpOp.NotIn) = false := by cases op <;> first | rfl | exact absurd rfl h2
  cases b <;> simp [behindInMarks, e1, e2]
/-- a comparison as a value; hm: nomark b, or (for in, not in) by with_unfolding_all rfl -/
theorem pe_cmpR {op : CmpOp} {r : R2} (ho : OpR X (compareOp op) r) (ha : PE X a ta) (hb : PE X b tb) (hm : behindInMarks op b = false) : PE X (.Compare a [op] [b] pos) (tOp r ta tb) := by
  intro pins s σ H Q I h
  exact wpAny_Compare1 (binT ha hb I h fun v u s2 x y H2 I2 rx ry q => ho pins s2 σ H2 x y v u Q I2 rx ry q) hm
/-- a reading of a value as a test -/
def tTest (t : TE) : TT := fun σ H Q => t σ H fun x H' => ∃ k, x = .bl k ∧ Q k H'
theorem pt_cmpR {op : CmpOp} {r : R2} (ho : OpR X (compareOp op) r) (ha : PE X a ta) (hb : PE X b tb) (hm : behindInMarks op b = false) : PT X (.Compare a [op] [b] pos) (tTest (tOp r ta tb)) := by
  intro pins s σ H Q I h
  refine wpAny_isTrue_Compare1 (thn (ha pins s σ H _ I h) fun v s1 ⟨x, H1, I1, r1, q1⟩ => thn (hb pins s1 σ H1 _ I1 q1) fun u s2 ⟨y, H2, I2, r2, q2⟩ =>
    thn (ho pins s2 σ H2 x y v u _ I2 r1 r2 q2) fun c s3 ⟨z, H3, I3, r3, k, e, q3⟩ => ?_) hm
  subst e
  cases r3
  exact wpAny_truthy_bool ⟨H3, I3, q3⟩
/-- a op1 b op2 c -/
def tChain (r r' : R2) (ta tb tc : TE) : TE := fun σ H Q => ta σ H fun x H1 => tb σ H1 fun y H2 => r x y H2 fun z H3 => ∃ k, z = .bl k ∧
  (if k = true then tc σ H3 fun w' H4 => r' y w' H4 Q else Q (.bl false) H3)
theorem pe_chain {op op' : CmpOp} {r r' : R2} (ho : OpR X (compareOp op) r) (ho' : OpR X (compareOp op') r') (ha : PE X a ta) (hb : PE X b tb) (hc : PE X c tc)
    (hm : lastMarks [op, op'] [b, c] = false := by with_unfolding_all rfl) : PE X (.Compare a [op, op'] [b, c] pos) (tChain r r' ta tb tc) := by
  intro pins s σ H Q I h
  refine Compare_chain (thn (ha pins s σ H _ I h) fun v s1 ⟨x, H1, I1, r1, q1⟩ => chain_link (thn (hb pins s1 σ H1 _ I1 q1) fun u s2 ⟨y, H2, I2, r2, q2⟩ =>
    thn (ho pins s2 σ H2 x y v u _ I2 r1 r2 q2) fun d s3 ⟨z, H3, I3, r3, k, e, q3⟩ => ?_)) hm
  subst e
  cases r3
  refine wpAny_truthy_bool ?_
  cases k with
  | false => exact ite_ff ⟨.bl false, H3, I3, rfl, q3⟩
  | true => exact ite_tt (chain_last (thn (hc pins s3 σ H3 _ I3 q3) fun w' s4 ⟨z', H4, I4, r4, q4⟩ => ho' pins s4 σ H4 y z' u w' Q I4 r2 r4 q4))
theorem pt_chain {op op' : CmpOp} {r r' : R2} (ho : OpR X (compareOp op) r) (ho' : OpR X (compareOp op') r') (ha : PE X a ta) (hb : PE X b tb) (hc : PE X c tc)
    (hm : lastMarks [op, op'] [b, c] = false := by with_unfolding_all rfl) : PT X (.Compare a [op, op'] [b, c] pos) (tTest (tChain r r' ta tb tc)) := by
  intro pins s σ H Q I h
  refine isTrue_chain (thn (ha pins s σ H _ I h) fun v s1 ⟨x, H1, I1, r1, q1⟩ => test_link (thn (hb pins s1 σ H1 _ I1 q1) fun u s2 ⟨y, H2, I2, r2, q2⟩ =>
    thn (ho pins s2 σ H2 x y v u _ I2 r1 r2 q2) fun d s3 ⟨z, H3, I3, r3, k, e, q3⟩ => ?_)) hm
  subst e
  cases r3
  refine wpAny_truthy_bool ?_
  cases k with
  | false =>
    obtain ⟨k', e', q'⟩ := q3
    cases e'
    exact ite_ff ⟨H3, I3, q'⟩
  | true =>
    refine ite_tt (test_last (thn (hc pins s3 σ H3 _ I3 q3) fun w' s4 ⟨z', H4, I4, r4, q4⟩ => thn (ho' pins s4 σ H4 y z' u w' _ I4 r2 r4 q4) fun d' s5 ⟨z2, H5, I5, r5, k2, e2, q5⟩ => ?_))
    subst e2
    cases r5
    exact wpAny_truthy_bool ⟨H5, I5, q5⟩

/-! ### truth -/
/-- a value's truth by the abstract heap -/
def TruV (K : PySem.W.Frag) (x : V) (H : Hp) (k : Bool) : Prop :=
  match x with
  | .non => k = false
  | .bl b => k = b
  | .int i => k = (i != 0)
  | .str y => y.length ≤ sizeLine ∧ k = ((y.length : Int) != 0)
  | .byt y => y.size ≤ sizeLine ∧ k = ((y.size : Int) != 0)
  | .ref p => (∃ xs, SqL K H p xs ∧ k = !xs.isEmpty) ∨ (∃ xs, SqT K H p xs ∧ k = !xs.isEmpty) ∨ ∃ kvs, H p = some (.dK kvs) ∧ k = !kvs.isEmpty
  | _ => False
theorem isEmpty_kv {κ : Type} {kvs : List (κ × V)} {vs : List (κ × Value)} (r : KV kvs vs) : (!vs.isEmpty) = !kvs.isEmpty := by
  cases r <;> rfl
theorem isEmpty_of {xs : List V} {its : List Value} (r : Vals xs its) : (!its.toArray.isEmpty) = !xs.isEmpty := by
  cases r <;> simp
theorem line63 : (sizeLine : Nat) < 2 ^ 63 := by rw [sizeLine_eq]; decide
theorem tru_ok : TruR X (fun x H Q => ∃ k, TruV X.K x H k ∧ Q k H) := by
  intro pins s σ H x v Q I rx h
  obtain ⟨k, e, q⟩ := h
  have hl := line63
  have hs : sizeLine = 16777216 := sizeLine_eq
  cases x with
  | non =>
    cases rx
    have e' : k = false := e
    subst e'
    exact truthy_none ⟨H, I, q⟩
  | bl b =>
    cases rx
    have e' : k = b := e
    subst e'
    exact wpAny_truthy_bool ⟨H, I, q⟩
  | int i =>
    obtain ⟨t, rfl⟩ := rx
    have e' : k = (i != 0) := e
    subst e'
    exact PySem.P.truthy_int ⟨H, I, q⟩
  | str y =>
    obtain ⟨t, rfl⟩ := rx
    obtain ⟨hy, e'⟩ : y.length ≤ sizeLine ∧ k = ((y.length : Int) != 0) := e
    subst e'
    exact PySem.P.truthy_str (by omega) ⟨H, I.tok _, q⟩
  | byt y =>
    obtain ⟨t, rfl⟩ := rx
    obtain ⟨hy, e'⟩ : y.size ≤ sizeLine ∧ k = ((y.size : Int) != 0) := e
    subst e'
    exact PySem.W.truthy_bytes (by omega) ⟨H, I.tok _, q⟩
  | ref p =>
    cases rx
    have e' : (∃ xs, SqL X.K H p xs ∧ k = !xs.isEmpty) ∨ (∃ xs, SqT X.K H p xs ∧ k = !xs.isEmpty) ∨ ∃ kvs, H p = some (.dK kvs) ∧ k = !kvs.isEmpty := e
    rcases e' with ⟨xs, hx, e'⟩ | ⟨xs, hx, e'⟩ | ⟨kvs, hx, e'⟩
    · subst e'
      obtain ⟨its, r, pl, hz⟩ := I.list hx
      have hlen := r.length
      exact wpAny_truthy_list pl.isList (by simp only [List.size_toArray]; omega) ⟨H, I.tok _, by rw [isEmpty_of r]; exact q⟩
    · subst e'
      obtain ⟨its, r, pl, hz⟩ := I.tuple hx
      have hlen := r.length
      exact truthy_tuple pl (by simp only [List.size_toArray]; omega) ⟨H, I.tok _, by rw [isEmpty_of r]; exact q⟩
    · subst e'
      obtain ⟨hz, hS, vs, r, m⟩ : kvs.length ≤ sizeLine ∧ (p == sysModules) = false ∧ ∃ vs, KV kvs vs ∧ s.heap.DictOf (mixKind X.prog X.w) p vs := I.hok p _ hx
      have hlen : kvs.length = vs.length := Paired.length r
      exact wpAny_truthy_dict hS m (by omega) ⟨H, I.tok _, by rw [isEmpty_kv r]; exact q⟩
  | _ => exact (show False from e).elim
/-- any expression whose test is its value's truth (a name, a call, a subscript, a field ..: he by fun _ => rfl) -/
theorem pt_truth (ha : PE X a ta) (he : ∀ whole, isTrue a X.env whole = (do let v ← whole; standAt a.pos; holding [v] (truthy v))) :
    PT X a (fun σ H Q => ta σ H fun x H' => ∃ k, TruV X.K x H' k ∧ Q k H') := by
  intro pins s σ H Q I h
  exact isTrue_plain (thn (ha pins s σ H _ I h) fun v s1 ⟨x, H1, I1, r1, q1⟩ => tru_ok pins s1 σ H1 x v Q I1 r1 q1) (he _)

/-! ### strs and bytes -/
theorem pe_byt {x : List UInt8} {k : Nat} : PE X (.Constant (.bytes x) k pos) (fun _ H Q => Q (.byt x.toArray) H) := fun _ _ _ H _ I h => PySem.W.Constant_bytes ⟨.byt x.toArray, H, I.tok _, ⟨_, rfl⟩, h⟩
theorem op_add_str : OpR X (binaryOp .Add) (fun x y H Q => ∃ i j, x = .str i ∧ y = .str j ∧ i.length + j.length ≤ sizeLine ∧ Q (.str (i ++ j)) H) := by
  intro pins s σ H x y v u Q I rx ry h
  obtain ⟨i, j, rfl, rfl, hz, q⟩ := h
  obtain ⟨t, rfl⟩ := rx
  obtain ⟨t', rfl⟩ := ry
  exact add_str (fun t' tk => ⟨.str (i ++ j), H, I.tok _, ⟨_, rfl⟩, q⟩) hz
theorem iop_add_str : OpR X (inplaceOp .Add) (fun x y H Q => ∃ i j, x = .str i ∧ y = .str j ∧ i.length + j.length ≤ sizeLine ∧ Q (.str (i ++ j)) H) := by
  intro pins s σ H x y v u Q I rx ry h
  obtain ⟨i, j, rfl, rfl, hz, q⟩ := h
  obtain ⟨t, rfl⟩ := rx
  obtain ⟨t', rfl⟩ := ry
  exact iadd_str (fun t' tk => ⟨.str (i ++ j), H, I.tok _, ⟨_, rfl⟩, q⟩) hz
theorem op_add_byt : OpR X (binaryOp .Add) (fun x y H Q => ∃ i j, x = .byt i ∧ y = .byt j ∧ i.size + j.size ≤ 16777216 ∧ Q (.byt (i ++ j)) H) := by
  intro pins s σ H x y v u Q I rx ry h
  obtain ⟨i, j, rfl, rfl, hz, q⟩ := h
  obtain ⟨t, rfl⟩ := rx
  obtain ⟨t', rfl⟩ := ry
  exact PySem.W.KBy.add_bytes hz (fun t' tk => ⟨.byt (i ++ j), H, I.tok _, ⟨_, rfl⟩, q⟩)

def PlainIxT (b : Expr) : Prop := ∀ o i, subscripted b false o i = operate [o, i] (getItem o i)
/-- s[i], 0 ≤ i < len -/
theorem pe_item_str (ha : PE X a ta) (hb : PE X b tb) (hs : PlainIxT b) :
    PE X (.Subscript a b pos) (tOp (fun x y H Q => ∃ z i c, x = .str z ∧ y = .int i ∧ 0 ≤ i ∧ i < 2 ^ 63 ∧ i < z.length ∧ z.cps[i.toNat]? = some c ∧ Q (.str ⟨#[c]⟩) H) ta tb) := by
  intro pins s σ H Q I h
  refine Subscript_ (binT ha hb I h fun v u s2 x y H2 I2 rx ry q => ?_)
  obtain ⟨z, i, c, rfl, rfl, h0, h63, h1, hc, q⟩ := q
  obtain ⟨t, rfl⟩ := rx
  obtain ⟨t', rfl⟩ := ry
  have e : seqIndex? i z.length = some i.toNat := PySem.StrLaws.seqIndex_nonneg h0 h1
  exact tail_any (typeIs_str s2 z t) slot_str_getitem.lookup (getItem_str (c := c) (by
    have e1 : decide (i < -(2 ^ 63 : Int)) = false := decide_eq_false (by omega)
    have e2 : decide (i ≥ 2 ^ 63) = false := decide_eq_false (by omega)
    rw [e1, e2] <;> rfl) (by rw [e]; exact hc) ⟨.str ⟨#[c]⟩, H2, I2.tok _, ⟨_, rfl⟩, q⟩) (hs _ _)
/-- b[i], 0 ≤ i < len -/
theorem pe_item_byt (ha : PE X a ta) (hb : PE X b tb) (hs : PlainIxT b) :
    PE X (.Subscript a b pos) (tOp (fun x y H Q => ∃ (z : List UInt8) (i : Int), x = .byt z.toArray ∧ y = .int i ∧ z.length ≤ sizeLine ∧ 0 ≤ i ∧ i < z.length ∧ Q (.int ((z.getD i.toNat 0).toNat : Nat)) H) ta tb) := by
  intro pins s σ H Q I h
  refine Subscript_ (binT ha hb I h fun v u s2 x y H2 I2 rx ry q => ?_)
  obtain ⟨z, i, rfl, rfl, hz, h0, h1, q⟩ := q
  obtain ⟨t, rfl⟩ := rx
  obtain ⟨t', rfl⟩ := ry
  have hl : sizeLine = 16777216 := sizeLine_eq
  exact tail_any (PySem.W.typeIs_bytes s2 z.toArray t) PySem.W.FB.slot_bytes_getitem.lookup (PySem.W.getItem_bytes (by omega) h0 h1 ⟨.int ((z.getD i.toNat 0).toNat : Nat), H2, I2.tok _, ⟨_, rfl⟩, q⟩) (hs _ _)

/-! ### scalar builtins, by CallR -/
theorem vals1 {x : V} {us : List Value} (r : Vals [x] us) : ∃ u, us = [u] ∧ RelV x u := by
  cases r with
  | cons r1 r2 => cases r2; exact ⟨_, rfl, r1⟩
theorem vals2 {x y : V} {us : List Value} (r : Vals [x, y] us) : ∃ u w', us = [u, w'] ∧ RelV x u ∧ RelV y w' := by
  cases r with
  | cons r1 r2 =>
    cases r2 with
    | cons r3 r4 => cases r4; exact ⟨_, _, rfl, r1, r3⟩
theorem call_abs : CallR X (.builtin "abs") (fun xs H Q => ∃ i, xs = [.int i] ∧ Q (.int (if i < 0 then -i else i)) H) := by
  intro pins s σ H xs us Q I r h
  obtain ⟨i, rfl, q⟩ := h
  obtain ⟨u, rfl, t, rfl⟩ := vals1 r
  exact call_abs_int fun u tk => ⟨.int (if i < 0 then -i else i), H, I.tok _, ⟨_, rfl⟩, q⟩
theorem call_max2 (hc : X.calm = true) : CallR X (.builtin "max") (fun xs H Q => ∃ i j, xs = [.int i, .int j] ∧ Q (.int (if j > i then j else i)) H) := by
  intro pins s σ H xs us Q I r h
  obtain ⟨i, j, rfl, q⟩ := h
  obtain ⟨u, w', rfl, ⟨t, rfl⟩, ⟨t', rfl⟩⟩ := vals2 r
  refine max_two_ints (I.ok.hd hc) fun h' tk k => ⟨_, H, I.kept k, ?_, q⟩
  by_cases hj : j > i
  · rw [if_pos hj, if_pos hj]; exact ⟨_, rfl⟩
  · rw [if_neg hj, if_neg hj]; exact ⟨_, rfl⟩
theorem call_min2 (hc : X.calm = true) : CallR X (.builtin "min") (fun xs H Q => ∃ i j, xs = [.int i, .int j] ∧ Q (.int (if j < i then j else i)) H) := by
  intro pins s σ H xs us Q I r h
  obtain ⟨i, j, rfl, q⟩ := h
  obtain ⟨u, w', rfl, ⟨t, rfl⟩, ⟨t', rfl⟩⟩ := vals2 r
  refine min_two_ints (I.ok.hd hc) fun h' tk k => ⟨_, H, I.kept k, ?_, q⟩
  by_cases hj : j < i
  · rw [if_pos hj, if_pos hj]; exact ⟨_, rfl⟩
  · rw [if_neg hj, if_neg hj]; exact ⟨_, rfl⟩
theorem call_int1 : CallR X (.type "int") (fun xs H Q => (∃ i, xs = [.int i] ∧ Q (.int i) H) ∨ ∃ k, xs = [.bl k] ∧ Q (.int (if k then 1 else 0)) H) := by
  intro pins s σ H xs us Q I r h
  rcases h with ⟨i, rfl, q⟩ | ⟨k, rfl, q⟩
  · obtain ⟨u, rfl, t, rfl⟩ := vals1 r
    exact call_int_int ⟨.int i, H, I, ⟨_, rfl⟩, q⟩
  · obtain ⟨u, rfl, r1⟩ := vals1 r
    cases r1
    exact call_int_bool ⟨.int (if k then 1 else 0), H, I.tok _, ⟨_, rfl⟩, q⟩
theorem call_bool1 : CallR X (.type "bool") (fun xs H Q => (∃ i, xs = [.int i] ∧ Q (.bl (i != 0)) H) ∨ ∃ k, xs = [.bl k] ∧ Q (.bl k) H) := by
  intro pins s σ H xs us Q I r h
  rcases h with ⟨i, rfl, q⟩ | ⟨k, rfl, q⟩
  · obtain ⟨u, rfl, t, rfl⟩ := vals1 r
    exact call_bool_int ⟨.bl (i != 0), H, I, rfl, q⟩
  · obtain ⟨u, rfl, r1⟩ := vals1 r
    cases r1
    exact call_bool_bool ⟨.bl k, H, I, rfl, q⟩
theorem call_str_int : CallR X (.type "str") (fun xs H Q => ∃ i, xs = [.int i] ∧ i.natAbs.log2 < 1920 ∧ Q (.str (toString i)) H) := by
  intro pins s σ H xs us Q I r h
  obtain ⟨i, rfl, hz, q⟩ := h
  obtain ⟨u, rfl, t, rfl⟩ := vals1 r
  exact PySem.P.str_of_int hz ⟨.str _, H, I.tok _, ⟨_, rfl⟩, q⟩
theorem call_ord : CallR X (.builtin "ord") (fun xs H Q => ∃ x, xs = [.str x] ∧ x.length = 1 ∧ Q (.int (x.cps.getD 0 0 : Nat)) H) := by
  intro pins s σ H xs us Q I r h
  obtain ⟨x, rfl, hz, q⟩ := h
  obtain ⟨u, rfl, t, rfl⟩ := vals1 r
  exact ord_of_one hz ⟨.int _, H, I.tok _, ⟨_, rfl⟩, q⟩
theorem call_chr : CallR X (.builtin "chr") (fun xs H Q => ∃ i, xs = [.int i] ∧ 0 ≤ i ∧ i ≤ 1114111 ∧ Q (.str ⟨#[i.toNat]⟩) H) := by
  intro pins s σ H xs us Q I r h
  obtain ⟨i, rfl, h0, h1, q⟩ := h
  obtain ⟨u, rfl, t, rfl⟩ := vals1 r
  exact chr_of_range h0 h1 ⟨.str _, H, I.tok _, ⟨_, rfl⟩, q⟩
/-- len of a str, a bytes, a list, a tuple -/
def LenV (K : PySem.W.Frag) (x : V) (H : Hp) (n : Nat) : Prop :=
  match x with
  | .str y => y.length ≤ sizeLine ∧ n = y.length
  | .byt y => y.size ≤ sizeLine ∧ n = y.size
  | .ref p => (∃ xs, SqL K H p xs ∧ n = xs.length) ∨ ∃ xs, SqT K H p xs ∧ n = xs.length
  | _ => False
theorem call_len : CallR X (.builtin "len") (fun xs H Q => ∃ x n, xs = [x] ∧ LenV X.K x H n ∧ Q (.int n) H) := by
  intro pins s σ H xs us Q I r h
  obtain ⟨x, n, rfl, e, q⟩ := h
  obtain ⟨u, rfl, rx⟩ := vals1 r
  have hl := line63
  have hs : sizeLine = 16777216 := sizeLine_eq
  cases x with
  | str y =>
    obtain ⟨t, rfl⟩ := rx
    obtain ⟨hy, e'⟩ : y.length ≤ sizeLine ∧ n = y.length := e
    subst e'
    exact len_str (by omega) ⟨.int _, H, I.tok _, ⟨_, rfl⟩, q⟩
  | byt y =>
    obtain ⟨t, rfl⟩ := rx
    obtain ⟨hy, e'⟩ : y.size ≤ sizeLine ∧ n = y.size := e
    subst e'
    exact PySem.W.len_bytes (by omega) ⟨.int _, H, I.tok _, ⟨_, rfl⟩, q⟩
  | ref p =>
    cases rx
    have e' : (∃ xs, SqL X.K H p xs ∧ n = xs.length) ∨ ∃ xs, SqT X.K H p xs ∧ n = xs.length := e
    rcases e' with ⟨xs, hx, e'⟩ | ⟨xs, hx, e'⟩
    · subst e'
      obtain ⟨its, r', pl, hz⟩ := I.list hx
      have hlen := r'.length
      exact Calls.call_len_list pl.isList (by simp only [List.size_toArray]; omega) ⟨.int xs.length, H, I.tok _, ⟨_, by simp only [List.size_toArray]; rw [hlen]⟩, q⟩
    · subst e'
      obtain ⟨its, r', pl, hz⟩ := I.tuple hx
      have hlen := r'.length
      exact len_tuple pl (by simp only [List.size_toArray]; omega) ⟨.int xs.length, H, I.tok _, ⟨_, by simp only [List.size_toArray]; rw [hlen]⟩, q⟩
  | _ => exact (show False from e).elim
/-- divmod: a new tuple -/
theorem call_divmod : CallR X (.builtin "divmod") (fun xs H Q => ∃ i j, xs = [.int i, .int j] ∧ CDiv i j ∧ ∀ p, H p = none → Q (.ref p) (upd H p (.tup [.int (i / j), .int (i % j)]))) := by
  intro pins s σ H xs us Q I r h
  obtain ⟨i, j, rfl, ⟨h1, h2⟩, q⟩ := h
  obtain ⟨u, w', rfl, ⟨t, rfl⟩, ⟨t', rfl⟩⟩ := vals2 r
  refine divmod_int (by omega) ?_ (.inl (PyProof.noPylong_small (by omega)))
  rw [Int.fdiv_eq_ediv_of_nonneg i (by omega), Int.fmod_eq_emod_of_nonneg i (by omega)]
  have hn : H s.heap.objs.size = none := I.hok.fresh (Nat.le_refl _)
  refine ⟨.ref s.heap.objs.size, _, ?_, rfl, q _ hn⟩
  refine I.laid (fun b o e => Heap.get?_push_of_some _ e) (Nat.le_refl _) ⟨by simp only [List.length_cons, List.length_nil]; rw [sizeLine_eq]; decide, [.int (i / j) s.toks, .int (i % j) (s.toks + 1)], .cons ⟨_, rfl⟩ (.cons ⟨_, rfl⟩ .nil), ?_⟩
  exact ⟨_, Heap.get?_push_size s.heap rfl, rfl, 0, rfl⟩
end
end L2

namespace L2
open PySem PySem.Spec PyProof.Rows

/-! ### an instance, its attributes a map -/
structure ObjM (h : Heap) (x dx C : Addr) (mA : Str → Option Value) : Prop where
  obj : h.get? x = some (PySem.W.instObj C dx)
  ns : h.Ns1 dx mA
  ne : dx ≠ x

theorem lookIn_ns {h : Heap} {dx : Addr} {mA : Str → Option Value} (n : h.Ns1 dx mA) : ∃ od, h.get? dx = some od ∧ ∀ name, PySem.W.lookIn name od = some (mA name) := by
  obtain ⟨o, es, ep, ho, hd, hk, _, hm⟩ := n
  refine ⟨o, ho, fun name => ?_⟩
  have e := hm name
  unfold nsFind findBy at e
  rw [← Array.find?_toList] at e
  unfold PySem.W.lookIn
  rw [hd]
  dsimp only
  split
  · rename_i y q
    rw [q] at e
    exact congrArg some e
  · rename_i q
    rw [q] at e
    have a : es.toList.any (·.refKey) = false := by
      rw [List.any_eq_false]
      intro y hy
      obtain ⟨z, t, hkey⟩ := hk y (Array.mem_toList_iff.mp hy)
      simp [DictEntry.refKey, hkey]
    have a' : ¬ es.toList.any (·.refKey) = true := by rw [a]; exact Bool.false_ne_true
    rw [if_neg a']
    exact congrArg some e

theorem ObjM.look {h : Heap} {x dx C : Addr} {mA : Str → Option Value} (I : ObjM h x dx C mA) : ∃ od, PySem.W.InstAt h x (PySem.W.instObj C dx) C (some od) ∧ ∀ name, PySem.W.lookIn name od = some (mA name) :=
  let ⟨od, ho, hl⟩ := lookIn_ns I.ns
  ⟨od, ⟨I.obj, rfl, rfl, ho⟩, hl⟩

section
variable {prog : Program} {w : World} {A : Around} {E : Value → Shared → Prop} {s : Shared} {K : PySem.W.Frag} {x dx C f : Addr} {mA : Str → Option Value} {name : Str} {v : Value}

theorem get_map {expr : Bool} {Q : Value → Shared → Prop} (X : K.In s.heap) (I : ObjM s.heap x dx C mA) (hg : PySem.W.plainGet K C name = true) (hh : PySem.W.hasDictIn K C = true)
    (ha : PySem.W.findIn K (.ref C) name = some none) (hv : mA name = some v) (hv' : PySem.W.handedIn v = true) (h : Q v { s with toks := s.toks + 1 }) :
    wpAny (model prog w) A (getAttr (.ref x) name expr) Q E s := by
  obtain ⟨od, J, hl⟩ := I.look
  exact PySem.W.get_value X J (PySem.W.plainGet_of hg).1 (PySem.W.findObj_own hh ha rfl (by rw [hl, hv])) hv' h

theorem get_const {expr : Bool} {a : Value} {Q : Value → Shared → Prop} (X : K.In s.heap) (I : ObjM s.heap x dx C mA) (hg : PySem.W.plainGet K C name = true) (hh : PySem.W.hasDictIn K C = true)
    (ha : PySem.W.findIn K (.ref C) name = some (some a)) (hn : PySem.W.specialIn K a "__get__" = some none) (hc : PySem.W.copiedNames.contains name = false) (hv : mA name = none) (hv' : PySem.W.handedIn a = true)
    (h : Q a { s with toks := s.toks + 1 }) : wpAny (model prog w) A (getAttr (.ref x) name expr) Q E s := by
  obtain ⟨od, J, hl⟩ := I.look
  exact PySem.W.get_value X J (PySem.W.plainGet_of hg).1 (PySem.W.findObj_cls hh ha hn hv' hc (by rw [hl, hv])) hv' h

theorem get_meth {pl : Sem Bool} {Q : Value × List Value → Shared → Prop} (X : K.In s.heap) (I : ObjM s.heap x dx C mA) (hg : PySem.W.plainGet K C name = true)
    (hf : PySem.W.findIn K (.ref C) name = some (some (.ref f))) (ht : PySem.W.isFn K (.ref f) = true) (hv : mA name = none) (h : Q (.ref f, [.ref x]) s) :
    wpAny (model prog w) A (getMethod (.ref x) name pl) Q E s := by
  obtain ⟨od, J, hl⟩ := I.look
  exact PySem.W.method_fn X J (PySem.W.plainGet_of hg).1 (PySem.W.plainGet_of hg).2 hf (beq_iff_eq.mp ht) (by show (PySem.W.lookIn name od).map (·.isSome) = some false; rw [hl, hv]; rfl) h

theorem set_map {ns : List Str} {Q : Unit → Shared → Prop} (X : K.In s.heap) (I : ObjM s.heap x dx C mA)
    (hs : PySem.W.findIn K (.ref C) "__setattr__" = some (some (.builtin "object.__setattr__"))) (hp : PySem.W.plainOver K C = true) (ht : PySem.W.takerIn K C name = some none) (hh : PySem.W.hasDictIn K C = true)
    (hw : PySem.Within mA ns) (hsz : ns.length ≤ sizeLine)
    (h : ∀ h', ObjM h' x dx C (fun y => if y = name then some v else mA y) → Heap.SameBut dx s.heap h' → Q () { s with heap := h', toks := s.toks + 2 }) :
    wpAny (model prog w) A (setAttr (.ref x) name v) Q E s := by
  obtain ⟨od, J, hl⟩ := I.look
  refine PySem.W.set_plain X J hs (PySem.W.osa_open (s := { s with toks := s.toks + 1 }) (r := none) X J hp ht fun b => ?_)
  obtain ⟨cd, hc, hd'⟩ := PySem.W.any_some hh
  have hx : s.heap.get? x = some ⟨.ref C, some dx, .plain, #[]⟩ := I.obj
  refine wpAny_bind (wpAny_pure (wpAny_bind (wpAny_bind (wpAny_loadPart hx (wpAny_bind (PySem.W.Looks.here (s := { s with toks := s.toks + 1 }) (PySem.W.looks_clsIn X hc) ?_))))))
  rw [hd']
  refine wpAny_pure (a := some dx) (wpAny_bind (wpAny_pure (wpAny_bind ?_)))
  refine wpAny_nsSet1 (s := { s with toks := s.toks + 1 }) I.ns fun h' hn2 hs2 => ?_
  obtain ⟨oD, esD, epD, hoD, hdD, hcD⟩ := hn2.count (PySem.Within.cons name v hw)
  refine wpAny_bind (wpAny_lookBehind hoD (by rw [hdD]; exact pastItsLine_dict (Nat.le_trans hcD (by rw [List.length_cons]; omega))) ?_)
  exact wpAny_pure (h _ ⟨(hs2.2 _ (Ne.symm I.ne)).trans I.obj, hn2, I.ne⟩ hs2)

/-- C(..): the dict at the heap's end, the instance behind it; then its __init__ -/
theorem make_map {R : Result → Shared → Prop} {vs : List Value} {kw : List (Str × Value)} (X : K.In s.heap) (hm : PySem.W.makesIn K C = true)
    (hi : PySem.W.findIn K (.ref C) "__init__" = some (some (.ref f))) (hf : PySem.W.typeIn K (.ref f) = some (.type "function"))
    (h : codeAny (model prog w) (A.under (.builtin "type.__call__" ⟨.ref C :: vs, kw⟩)) (.call (.ref f) ⟨.ref (s.heap.objs.size + 1) :: vs, kw⟩) (PySem.W.InitBack (s.heap.objs.size + 1) R)
      { s with heap := (s.heap.push PySem.W.emptyDict).push (PySem.W.instObj C s.heap.objs.size) }) :
    codeAny (model prog w) A (.call (.ref C) ⟨vs, kw⟩) R s := by
  obtain ⟨hh, g, d, t, os⟩ := s
  exact PySem.W.make_core (PySem.W.makes_of X hm) (PySem.W.looks_findIn X hi) (fun self => PySem.W.bind_fn X self hf) (.inl rfl) h
/-- C() where there is no __init__ but object's -/
theorem make_map0 {R : Result → Shared → Prop} (X : K.In s.heap) (hm : PySem.W.makesIn K C = true)
    (hi : PySem.W.findIn K (.ref C) "__init__" = some (some (.builtin "object.__init__")))
    (hb : ∀ self, PySem.W.Looks (model prog w) s.heap (bindSpecial (.builtin "object.__init__") self) (.builtin "object.__init__", [self]))
    (h : codeAny (model prog w) (A.under (.builtin "type.__call__" ⟨[.ref C], []⟩)) (.call (.builtin "object.__init__") ⟨[.ref (s.heap.objs.size + 1)], []⟩) (PySem.W.InitBack (s.heap.objs.size + 1) R)
      { s with heap := (s.heap.push PySem.W.emptyDict).push (PySem.W.instObj C s.heap.objs.size) }) :
    codeAny (model prog w) A (.call (.ref C) ⟨[], []⟩) R s := by
  obtain ⟨hh, g, d, t, os⟩ := s
  exact PySem.W.make_core (PySem.W.makes_of X hm) (PySem.W.looks_findIn X hi) hb (.inr ⟨rfl, rfl⟩) h
end

/-! ### the attributes as a list of pairs -/
def putF (f : Str) (v : V) : List (Str × V) → List (Str × V)
  | [] => [(f, v)]
  | (g, x) :: r => if g = f then (g, v) :: r else (g, x) :: putF f v r
theorem lookup_putF (f g : Str) (v : V) : ∀ fs : List (Str × V), (putF f v fs).lookup g = if g = f then some v else fs.lookup g
  | [] => by
    show List.lookup g [(f, v)] = _
    by_cases h : g = f
    · have hb : (g == f) = true := beq_iff_eq.mpr h
      simp only [List.lookup, hb, if_pos h]
    · have hb : (g == f) = false := beq_eq_false_iff_ne.mpr h
      simp only [List.lookup, hb, if_neg h]
  | (k, x) :: r => by
    have ih := lookup_putF f g v r
    rw [show putF f v ((k, x) :: r) = (if k = f then (k, v) :: r else (k, x) :: putF f v r) from rfl]
    by_cases hk : k = f
    · rw [if_pos hk]
      by_cases h : g = k
      · have hb : (g == k) = true := beq_iff_eq.mpr h
        simp only [List.lookup, hb, if_pos (h.trans hk)]
      · have hb : (g == k) = false := beq_eq_false_iff_ne.mpr h
        simp only [List.lookup, hb, if_neg (fun e : g = f => h (e.trans hk.symm))]
    · rw [if_neg hk]
      by_cases h : g = k
      · have hb : (g == k) = true := beq_iff_eq.mpr h
        simp only [List.lookup, hb, if_neg (fun e : g = f => hk (h.symm.trans e))]
      · have hb : (g == k) = false := beq_eq_false_iff_ne.mpr h
        simp only [List.lookup, hb]
        exact ih
theorem keys_putF (f : Str) (v : V) : ∀ fs : List (Str × V), f ∈ (putF f v fs).map (·.1) ∧ ∀ g, g ∈ fs.map (·.1) → g ∈ (putF f v fs).map (·.1)
  | [] => ⟨by simp [putF], fun g h => by simp at h⟩
  | (k, x) :: r => by
    obtain ⟨i1, i2⟩ := keys_putF f v r
    rw [show putF f v ((k, x) :: r) = (if k = f then (k, v) :: r else (k, x) :: putF f v r) from rfl]
    by_cases hk : k = f
    · rw [if_pos hk]
      subst hk
      exact ⟨by simp, fun g h => by simpa using h⟩
    · rw [if_neg hk]
      refine ⟨?_, fun g h => ?_⟩
      · rw [List.map_cons]
        exact List.mem_cons_of_mem _ i1
      · rw [List.map_cons] at h ⊢
        rcases List.mem_cons.mp h with e | e
        · exact List.mem_cons.mpr (.inl e)
        · exact List.mem_cons_of_mem _ (i2 g e)
theorem length_putF (f : Str) (v : V) : ∀ fs : List (Str × V), (putF f v fs).length ≤ fs.length + 1
  | [] => by simp [putF]
  | (k, x) :: r => by
    have ih := length_putF f v r
    rw [show putF f v ((k, x) :: r) = (if k = f then (k, v) :: r else (k, x) :: putF f v r) from rfl]
    by_cases hk : k = f
    · rw [if_pos hk, List.length_cons, List.length_cons]; omega
    · rw [if_neg hk, List.length_cons, List.length_cons]; omega

theorem RelO.some_of {v : V} {o : Option Value} (r : RelO (some v) o) : ∃ u, o = some u ∧ RelV v u := by
  cases o with
  | none => exact (show False from r).elim
  | some u => exact ⟨u, rfl, r⟩
theorem RelO.none_of {o : Option Value} (r : RelO none o) : o = none := by
  cases o with
  | none => rfl
  | some u => exact (show False from r).elim
theorem handed_of {v : V} {u : Value} (r : RelV v u) : PySem.W.handedIn u = true := by
  cases v with
  | non => cases (show u = Value.none from r); rfl
  | bl b => cases (show u = Value.bool b from r); rfl
  | int i => obtain ⟨t, e⟩ := (show ∃ t, u = Value.int i t from r); cases e; rfl
  | str x => obtain ⟨t, e⟩ := (show ∃ t, u = Value.str x t from r); cases e; rfl
  | byt b => obtain ⟨t, e⟩ := (show ∃ t, u = Value.bytes b t from r); cases e; rfl
  | flt b => obtain ⟨t, e⟩ := (show ∃ t, u = Value.float b t from r); cases e; rfl
  | ref a => cases (show u = Value.ref a from r); rfl
  | ty n => cases (show u = Value.type n from r); rfl

section
variable {P : Program} {w : World} {H H' : Hp} {h h' : Heap} {a C dx : Addr} {fs fs' : List (Str × V)}
theorem ins_get (hok : HOk P w H h) (e : H a = some (.ins C dx fs)) : ∃ mA, ObjM h a dx C mA ∧ (∀ f, RelO (fs.lookup f) (mA f)) ∧ PySem.Within mA (fs.map (·.1)) ∧ fs.length ≤ 1000 ∧ H dx = some (.own a) := by
  obtain ⟨d, z, ne, ob, mA, n, r, q⟩ := (show ObjOk P w H h a (.ins C dx fs) from hok a _ e)
  exact ⟨mA, ⟨ob, n, ne⟩, r, q, z, d⟩
end

/-! ### what of the text a class must have -/
structure Cls (K : PySem.W.Frag) (C : Addr) : Prop where
  pg : PySem.W.plainGet K C Str.empty = true
  hd : PySem.W.hasDictIn K C = true
  po : PySem.W.plainOver K C = true
  sa : PySem.W.findIn K (.ref C) "__setattr__" = some (some (.builtin "object.__setattr__"))
theorem Cls.get {K : PySem.W.Frag} {C : Addr} (c : Cls K C) (f : Str) : PySem.W.plainGet K C f = true := c.pg
/-- no class of it has the name -/
def NoAttr (K : PySem.W.Frag) (C : Addr) (f : Str) : Prop := PySem.W.findIn K (.ref C) f = some none
theorem NoAttr.taker {K : PySem.W.Frag} {C : Addr} {f : Str} (n : NoAttr K C f) : PySem.W.takerIn K C f = some none := by
  unfold PySem.W.takerIn
  rw [show PySem.W.findIn K (.ref C) f = some none from n]
  rfl
/-- a constant of the class -/
structure Con (K : PySem.W.Frag) (C : Addr) (f : Str) (v : V) (u : Value) : Prop where
  at_ : PySem.W.findIn K (.ref C) f = some (some u)
  rel : RelV v u
  get : PySem.W.specialIn K u "__get__" = some none
  cp : PySem.W.copiedNames.contains f = false
/-- a method: a plain def of the class or of one above it -/
structure Meth (K : PySem.W.Frag) (C : Addr) (m : Str) (f : Addr) : Prop where
  at_ : PySem.W.findIn K (.ref C) m = some (some (.ref f))
  fn : PySem.W.isFn K (.ref f) = true
  kp : PySem.W.keepIn K (.ref f) = true

section
variable {X : Cx} {pins : List (Addr × Obj)} {σ : St} {H : Hp} {s : Shared} {a C dx : Addr} {fs : List (Str × V)} {f : Str} {v : V} {A : Around} {E : Value → Shared → Prop}

theorem getattr_ok {b : Bool} {Q : Value → Shared → Prop} (I : Inv X pins σ H s) (e : H a = some (.ins C dx fs)) (c : Cls X.K C) (n : NoAttr X.K C f) (l : fs.lookup f = some v)
    (h : ∀ u s', Inv X pins σ H s' → RelV v u → Q u s') : wpAny (model X.prog X.w) A (getAttr (.ref a) f b) Q E s := by
  obtain ⟨mA, O, r, _, _, _⟩ := ins_get I.hok e
  obtain ⟨u, hu, ru⟩ := RelO.some_of (v := v) (o := mA f) (by rw [← l]; exact r f)
  exact get_map I.kIn O (c.get f) c.hd n hu (handed_of ru) (h u _ (I.tok _) ru)

theorem getcon_ok {b : Bool} {u : Value} {Q : Value → Shared → Prop} (I : Inv X pins σ H s) (e : H a = some (.ins C dx fs)) (c : Cls X.K C) (k : Con X.K C f v u) (l : fs.lookup f = none)
    (h : ∀ s', Inv X pins σ H s' → Q u s') : wpAny (model X.prog X.w) A (getAttr (.ref a) f b) Q E s := by
  obtain ⟨mA, O, r, _, _, _⟩ := ins_get I.hok e
  have hn : mA f = none := RelO.none_of (by rw [← l]; exact r f)
  exact get_const I.kIn O (c.get f) c.hd k.at_ k.get k.cp hn (handed_of k.rel) (h _ (I.tok _))

theorem getmeth_ok {m : Str} {g : Addr} {pl : Sem Bool} {Q : Value × List Value → Shared → Prop} (I : Inv X pins σ H s) (e : H a = some (.ins C dx fs)) (c : Cls X.K C) (k : Meth X.K C m g) (l : fs.lookup m = none)
    (h : Q (.ref g, [.ref a]) s) : wpAny (model X.prog X.w) A (getMethod (.ref a) m pl) Q E s := by
  obtain ⟨mA, O, r, _, _, _⟩ := ins_get I.hok e
  have hn : mA m = none := RelO.none_of (by rw [← l]; exact r m)
  exact get_meth I.kIn O (c.get m) k.at_ k.fn hn h

theorem setattr_ok {y : V} {u : Value} {Q : Unit → Shared → Prop} (I : Inv X pins σ H s) (e : H a = some (.ins C dx fs)) (c : Cls X.K C) (n : NoAttr X.K C f) (hl : fs.length < 1000) (ry : RelV y u)
    (h : ∀ s', Inv X pins σ (upd H a (.ins C dx (putF f y fs))) s' → Q () s') : wpAny (model X.prog X.w) A (setAttr (.ref a) f u) Q E s := by
  obtain ⟨mA, O, r, wi, _, ho⟩ := ins_get I.hok e
  have hz : (fs.map (·.1)).length ≤ sizeLine := by rw [List.length_map, sizeLine_eq]; omega
  refine set_map I.kIn O c.sa c.po n.taker c.hd wi hz fun h' O' sb => h _ ?_
  have hd : ∃ o, h'.get? dx = some o := let ⟨o, _, _, e', _⟩ := O'.ns; ⟨o, e'⟩
  refine I.write (x := a) (e := dx) (by rw [e]; exact True.intro) (.inr ho) (fun b q hb z => (sb.2 b hb).trans z) hd ?_
  refine ⟨by rw [upd_ne O.ne]; exact ho, ?_, O.ne, O'.obj, _, O'.ns, fun g => ?_, fun g hg => ?_⟩
  · have := length_putF f y fs; omega
  · show RelO ((putF f y fs).lookup g) (if g = f then some u else mA g)
    rw [lookup_putF]
    by_cases q : g = f
    · rw [if_pos q, if_pos q]; exact ry
    · rw [if_neg q, if_neg q]; exact r g
  · by_cases q : g = f
    · rw [q]; exact (keys_putF f y fs).1
    · refine (keys_putF f y fs).2 g (wi g fun z => hg ?_)
      show (if g = f then some u else mA g) = none
      rw [if_neg q]; exact z

/-- a new instance, tracked, without attributes -/
theorem Inv.made (I : Inv X pins σ H s) : Inv X pins σ (upd (upd H s.heap.objs.size (.own (s.heap.objs.size + 1))) (s.heap.objs.size + 1) (.ins C s.heap.objs.size []))
    { s with heap := (s.heap.push PySem.W.emptyDict).push (PySem.W.instObj C s.heap.objs.size) } := by
  have e1 : (s.heap.push PySem.W.emptyDict).get? s.heap.objs.size = some PySem.W.emptyDict := Heap.get?_push_size s.heap rfl
  have e2 : ((s.heap.push PySem.W.emptyDict).push (PySem.W.instObj C s.heap.objs.size)).get? (s.heap.objs.size + 1) = some (PySem.W.instObj C s.heap.objs.size) := by
    have := Heap.get?_push_size (s.heap.push PySem.W.emptyDict) (o := PySem.W.instObj C s.heap.objs.size) rfl
    rwa [Heap.size_push] at this
  have e3 : (s.heap.push PySem.W.emptyDict).Ns s.heap.objs.size (fun _ => none) := ⟨PySem.W.emptyDict, #[], _, e1, rfl, (fun e he => absurd he (by simp)), fun _ => rfl⟩
  have I1 := I.laid (a := s.heap.objs.size) (o := .own (s.heap.objs.size + 1)) (h' := s.heap.push PySem.W.emptyDict) (t' := s.toks) (fun b u q => Heap.get?_push_of_some _ q) (Nat.le_refl _) ⟨_, e1⟩
  refine I1.laid (a := s.heap.objs.size + 1) (o := .ins C s.heap.objs.size []) (t' := s.toks) (fun b u q => Heap.get?_push_of_some _ q) (Nat.le_of_eq (Heap.size_push _ _)) ?_
  have ne : s.heap.objs.size ≠ s.heap.objs.size + 1 := Nat.ne_of_lt (Nat.lt_succ_self _)
  refine ⟨by rw [upd_ne ne, upd_same], Nat.zero_le _, ne, e2, fun _ => none, (Heap.Ns1.of_empty e3).at fun o q => Heap.get?_push_of_some _ q, fun _ => True.intro, fun y hy => absurd rfl hy⟩

/-- e.f where nothing but the object is asked: through attributeBase (super) and the last hold -/
theorem attr_of {prog : Program} {w : World} {env : Env} {e : Expr} {f : Str} {pos : Pos} {s : Shared} {Q : Value → Shared → Prop} (hb : attributeBase e f env (eval e env) = eval e env)
    (h : wpAny (model prog w) A (eval e env) (fun o s₁ => wpAny (model prog w) A (getAttr o f true) Q E s₁) E s) : wpAny (model prog w) A (eval (.Attribute e f pos) env) Q E s :=
  Attribute_any_ h (by rw [arm_eval_Attribute, hb])
end

/-! ### readings and rules -/
/-- e.f, an attribute of the instance -/
def tFld (K : PySem.W.Frag) (ta : TE) (f : Str) : TE := fun σ H Q => ta σ H fun x H1 => ∃ a C dx fs v, x = .ref a ∧ H1 a = some (.ins C dx fs) ∧ Cls K C ∧ NoAttr K C f ∧ fs.lookup f = some v ∧ Q v H1
/-- e.f, a constant of the class -/
def tCon (K : PySem.W.Frag) (ta : TE) (f : Str) : TE := fun σ H Q => ta σ H fun x H1 => ∃ a C dx fs v u, x = .ref a ∧ H1 a = some (.ins C dx fs) ∧ Cls K C ∧ Con K C f v u ∧ fs.lookup f = none ∧ Q v H1
/-- e.f = value -/
def sFld (K : PySem.W.Frag) (ta tv : TE) (f : Str) : TS := fun D σ H => tv σ H fun y H1 => ta σ H1 fun x H2 => ∃ a C dx fs, x = .ref a ∧ H2 a = some (.ins C dx fs) ∧ Cls K C ∧ NoAttr K C f ∧ fs.length < 1000 ∧
  D.nx σ (upd H2 a (.ins C dx (putF f y fs)))
/-- an augmented operator on two values -/
def InOp (X : Cx) (op : Operator) (rd : V → V → Hp → VK → Prop) : Prop :=
  ∀ (pins : List (Addr × Obj)) (s : Shared) (σ : St) (H : Hp) (x y : V) (u v : Value) (Q : VK), Inv X pins σ H s → RelV x u → RelV y v → rd x y H Q → wpAny (model X.prog X.w) X.A (inplaceOp op u v) (EP X pins σ Q) X.xe s
/-- e.f op= value -/
def sFldAug (K : PySem.W.Frag) (ta tv : TE) (rd : V → V → Hp → VK → Prop) (f : Str) : TS := fun D σ H => ta σ H fun x H1 => ∃ a C dx fs v, x = .ref a ∧ H1 a = some (.ins C dx fs) ∧ Cls K C ∧ NoAttr K C f ∧ fs.lookup f = some v ∧
  tv σ H1 fun y H2 => rd v y H2 fun z H3 => ∃ dx' fs', H3 a = some (.ins C dx' fs') ∧ fs'.length < 1000 ∧ D.nx σ (upd H3 a (.ins C dx' (putF f z fs')))

section
variable {X : Cx} {o e value : Expr} {f : Str} {pos pos' tpos : Pos} {ta tv : TE}
theorem pe_fld (he : PE X e ta) (hb : attributeBase e f X.env (eval e X.env) = eval e X.env) : PE X (.Attribute e f pos) (tFld X.K ta f) := by
  intro pins s σ H Q I h
  refine attr_of hb (thn (he pins s σ H _ I h) fun u s1 ⟨x, H1, I1, rx, a, C, dx, fs, v, ex, ea, c, n, l, q⟩ => ?_)
  subst ex
  obtain rfl : u = Value.ref a := rx
  exact getattr_ok I1 ea c n l fun u' s2 I2 ru => ⟨v, H1, I2, ru, q⟩
theorem pe_con (he : PE X e ta) (hb : attributeBase e f X.env (eval e X.env) = eval e X.env) : PE X (.Attribute e f pos) (tCon X.K ta f) := by
  intro pins s σ H Q I h
  refine attr_of hb (thn (he pins s σ H _ I h) fun u s1 ⟨x, H1, I1, rx, a, C, dx, fs, v, u0, ex, ea, c, k, l, q⟩ => ?_)
  subst ex
  obtain rfl : u = Value.ref a := rx
  exact getcon_ok I1 ea c k l fun s2 I2 => ⟨v, H1, I2, k.rel, q⟩
theorem ps_fld (ha : PE X o ta) (hv : PE X value tv) (hs : swapsWith value (some (.Attribute o f pos')) pos.line X.env = pure false) : PS X (.Assign [.Attribute o f pos'] value pos) (sFld X.K ta tv f) := by
  intro pins s σ H D I h
  refine plainObj_wpAny_Assign_Attribute (thn (hv pins s σ H _ I h) fun u s1 ⟨y, H1, I1, ry, q⟩ => thn (ha pins s1 σ H1 _ I1 q) fun ov s2 ⟨x, H2, I2, rx, a, C, dx, fs, ex, ea, c, n, l, q2⟩ => ?_) hs
  subst ex
  obtain rfl : ov = Value.ref a := rx
  exact setattr_ok I2 ea c n l ry fun s3 I3 => ⟨σ, _, I3, q2⟩
theorem ps_fldaug {op : Operator} {rd : V → V → Hp → VK → Prop} (ha : PE X o ta) (hv : PE X value tv) (hop : InOp X op rd) : PS X (.AugAssign (.Attribute o f tpos) op value pos) (sFldAug X.K ta tv rd f) := by
  intro pins s σ H D I h
  refine wpAny_AugAssign_AttributeAny (thn (ha pins s σ H _ I h) fun ov s1 ⟨x, H1, I1, rx, a, C, dx, fs, v, ex, ea, c, n, l, q⟩ => ?_)
  subst ex
  obtain rfl : ov = Value.ref a := rx
  refine getattr_ok I1 ea c n l fun u s2 I2 ru => thn (hv pins s2 σ H1 _ I2 q) fun w3 s3 ⟨y, H2, I3, ry, q3⟩ => thn (hop pins s3 σ H2 v y u w3 _ I3 ru ry q3) fun w4 s4 ⟨z, H3, I4, rz, dx', fs', ea', l', q4⟩ => ?_
  exact setattr_ok I4 ea' c n l' rz fun s5 I5 => ⟨σ, _, I5, q4⟩
def rAdd : V → V → Hp → VK → Prop := fun x y H Q => ∃ i j, x = .int i ∧ y = .int j ∧ Q (.int (i + j)) H
def rSub : V → V → Hp → VK → Prop := fun x y H Q => ∃ i j, x = .int i ∧ y = .int j ∧ Q (.int (i - j)) H
theorem in_add : InOp X .Add rAdd := by
  rintro pins s σ H x y u v Q I rx ry ⟨i, j, rfl, rfl, q⟩
  obtain ⟨t, rfl⟩ := (show ∃ t, u = Value.int i t from rx)
  obtain ⟨t', rfl⟩ := (show ∃ t', v = Value.int j t' from ry)
  exact PyProof.Rows.iadd_int ⟨.int (i + j), H, I.tok _, ⟨_, rfl⟩, q⟩
theorem in_sub : InOp X .Sub rSub := by
  rintro pins s σ H x y u v Q I rx ry ⟨i, j, rfl, rfl, q⟩
  obtain ⟨t, rfl⟩ := (show ∃ t, u = Value.int i t from rx)
  obtain ⟨t', rfl⟩ := (show ∃ t', v = Value.int j t' from ry)
  exact PyProof.Rows.isub_int ⟨.int (i - j), H, I.tok _, ⟨_, rfl⟩, q⟩

/-- what is between an instance and its method: the tree of a method call -/
theorem methcall_of {pl : Sem Bool} {m : Str} {apos : Pos} {args : List Expr} {pins : List (Addr × Obj)} {s : Shared} {σ : St} {H : Hp} {Q : Value → Shared → Prop} {te : TE} (he : PE X e te) (I : Inv X pins σ H s)
    (h : te σ H fun x H1 => ∃ a C dx fs g, x = .ref a ∧ H1 a = some (.ins C dx fs) ∧ Cls X.K C ∧ Meth X.K C m g ∧ fs.lookup m = none ∧
      ∀ s1, Inv X pins σ H1 s1 → wpAny (model X.prog X.w) X.A (callWith pos (.ref g) [.ref a] (backTo pos (starEach args X.env)) (backToKw pos (keywordEach [] X.env))) Q X.xe s1)
    (ht : eval (.Call (.Attribute e m apos) args [] pos) X.env = (do
      let ov ← eval e X.env
      standAt apos.atName
      let (f, first) ← holding [ov] (getMethod ov m pl)
      callWith pos f first (backTo pos (starEach args X.env)) (backToKw pos (keywordEach [] X.env)))) :
    wpAny (model X.prog X.w) X.A (eval (.Call (.Attribute e m apos) args [] pos) X.env) Q X.xe s := by
  refine PySem.W.methodCall_KW (pl := pl) (thn (he pins s σ H _ I h) fun u s1 ⟨x, H1, I1, rx, a, C, dx, fs, g, ex, ea, c, k, l, q⟩ => ?_) ht
  subst ex
  obtain rfl : u = Value.ref a := rx
  exact getmeth_ok I1 ea c k l (q s1 I1)
end

/-! ### isinstance -/
section
variable {X : Cx} {pins : List (Addr × Obj)} {σ : St} {H : Hp} {s : Shared} {A : Around} {E : Value → Shared → Prop} {Q : Value → Shared → Prop} {c : Value} {b : Bool}
/-- the type of a value, as the fragment's deciders take it; for an instance its class -/
inductive TyOf (K : PySem.W.Frag) (H : Hp) : V → Value → Prop where
  | non : TyOf K H .non (.type "NoneType")
  | bl (x : Bool) : TyOf K H (.bl x) (.type "bool")
  | int (i : Int) : TyOf K H (.int i) (.type "int")
  | str (x : Str) : TyOf K H (.str x) (.type "str")
  | flt (x : UInt64) : TyOf K H (.flt x) (.type "float")
  | lst {a : Addr} {xs : List V} (e : H a = some (.lst xs)) : TyOf K H (.ref a) (.type "list")
  | frz {a : Addr} {o : Obj} {xs : List V} (e : H a = some (.frz o (.lst xs))) : TyOf K H (.ref a) (.type "list")
  | tup {a : Addr} {xs : List V} (e : H a = some (.tup xs)) : TyOf K H (.ref a) (.type "tuple")
  | dK {a : Addr} {kvs : List (Key × V)} (e : H a = some (.dK kvs)) : TyOf K H (.ref a) (.type "dict")
  | dT {a : Addr} {kvs : List (List Key × V)} (e : H a = some (.dT kvs)) : TyOf K H (.ref a) (.type "dict")
  | ins {a C dx : Addr} {fs : List (Str × V)} (e : H a = some (.ins C dx fs)) (cl : Cls K C) (ha : PySem.W.findIn K (.ref C) "__class__" = some (some (.builtin "object.__class__")))
      (hn : PySem.W.specialIn K (.builtin "object.__class__") "__get__" = some (some (.builtin "getset_descriptor.__get__"))) (htk : PySem.W.takesIn K (.builtin "object.__class__") = some true)
      (hm : PySem.W.mroIn K C (.type "object") = some true) : TyOf K H (.ref a) (.ref C)
/-- isinstance(x, c) for one class c, a built-in or an own one: kitOne's answer -/
theorem isinst_ok {x : V} {u t : Value} (I : Inv X pins σ H s) (rx : RelV x u) (ty : TyOf X.K H x t) (e : PySem.W.kitOne X.K t c = some b) (h : ∀ tk, Q (.bool b) { s with toks := tk }) :
    wpAny (model X.prog X.w) A (call (.builtin "isinstance") [u, c]) Q E s := by
  cases ty with
  | non => cases (show u = Value.none from rx); exact PySem.W.kia_one PySem.W.kitx_none I.kIn True.intro e (fun z => nomatch z) h
  | bl y => cases (show u = Value.bool y from rx); exact PySem.W.kia_one PySem.W.kitx_bool I.kIn True.intro e (fun z => nomatch z) h
  | int i => obtain ⟨t, q⟩ := (show ∃ t, u = Value.int i t from rx); cases q; exact PySem.W.kia_one PySem.W.kitx_int I.kIn True.intro e (fun z => nomatch z) h
  | str y => obtain ⟨t, q⟩ := (show ∃ t, u = Value.str y t from rx); cases q; exact PySem.W.kia_one PySem.W.kitx_str I.kIn True.intro e (fun z => nomatch z) h
  | flt y => obtain ⟨t, q⟩ := (show ∃ t, u = Value.float y t from rx); cases q; exact PySem.W.kia_one PySem.W.kitx_float I.kIn True.intro e (fun z => nomatch z) h
  | @lst a xs ea =>
    cases (show u = Value.ref a from rx)
    obtain ⟨_, _, n, _, h1⟩ := (show ObjOk X.prog X.w H s.heap a (.lst xs) from I.hok a _ ea)
    exact PySem.W.kia_one PySem.W.kitx_list I.kIn ⟨_, h1, rfl⟩ e (fun z => nomatch z) h
  | @frz a ob xs ea =>
    cases (show u = Value.ref a from rx)
    obtain ⟨_, _, _, n, _, h1⟩ := (show ObjOk X.prog X.w H s.heap a (.frz ob (.lst xs)) from I.hok a _ ea)
    exact PySem.W.kia_one PySem.W.kitx_list I.kIn ⟨_, h1, rfl⟩ e (fun z => nomatch z) h
  | @tup a xs ea =>
    cases (show u = Value.ref a from rx)
    obtain ⟨_, _, _, p⟩ := (show ObjOk X.prog X.w H s.heap a (.tup xs) from I.hok a _ ea)
    obtain ⟨o, h1, h2, _⟩ := p
    exact PySem.W.kia_one PySem.W.kitx_tuple I.kIn ⟨o, h1, h2⟩ e (fun z => nomatch z) h
  | @dK a kvs ea =>
    cases (show u = Value.ref a from rx)
    obtain ⟨_, _, vs, _, p⟩ := (show ObjOk X.prog X.w H s.heap a (.dK kvs) from I.hok a _ ea)
    obtain ⟨o, es, ep, h1, h2, _⟩ := p
    exact PySem.W.kia_one PySem.W.kitx_dict I.kIn ⟨o, h1, h2.1⟩ e (fun z => nomatch z) h
  | @dT a kvs ea =>
    cases (show u = Value.ref a from rx)
    obtain ⟨_, _, xs, _, o, es, ep, h1, h2, _⟩ := (show ObjOk X.prog X.w H s.heap a (.dT kvs) from I.hok a _ ea)
    exact PySem.W.kia_one PySem.W.kitx_dict I.kIn ⟨o, h1, h2.1⟩ e (fun z => nomatch z) h
  | @ins a C dx fs ea cl ha hn htk hm =>
    cases (show u = Value.ref a from rx)
    obtain ⟨mA, O, _⟩ := ins_get I.hok ea
    obtain ⟨od, J, _⟩ := O.look
    exact PySem.W.kia_one (PySem.W.kitx_own (cl.get _) cl.hd ha hn htk hm) I.kIn J e (fun z => nomatch z) h
end
end L2

namespace L2
open PySem PySem.Spec PyProof.Rows

/-! ### room -/
structure Room (k : Nat) (A : Around) : Prop where
  hd : A.handled = none
  dp : A.depth + 3 * k + 5 < recursionLimit
  un : A.units + 16 * k + 200 < cLine
theorem Room.mono {j k : Nat} {A : Around} (r : Room k A) (h : j ≤ k) : Room j A := ⟨r.hd, by have := r.dp; omega, by have := r.un; omega⟩
theorem Room.deeper {k : Nat} {A : Around} (r : Room (k + 1) A) (env : Env) : Room k (A.deeper env) :=
  ⟨r.hd, by have := r.dp; show A.depth + 1 + 3 * k + 5 < _; omega, by have := r.un; show A.units + 3 + 16 * k + 200 < _; omega⟩
theorem Room.in1 {k : Nat} {A : Around} (r : Room (k + 1) A) : Room k A.in1 :=
  ⟨r.hd, by have := r.dp; show A.depth + 3 * k + 5 < _; omega, by have := r.un; show A.units + 1 + 16 * k + 200 < _; omega⟩
theorem make_depth {A : Around} {C : Addr} {us : List Value} {kw : List (Str × Value)} : (A.under (.builtin "type.__call__" ⟨.ref C :: us, kw⟩)).depth = A.depth + 1 := by
  first | rfl | simp [Around.under, Code.weight, Code.isCreation, Code.isGuard, Code.isCaller, Code.frames, Code.isFrame, guardIds]
theorem make_units {A : Around} {C : Addr} {us : List Value} {kw : List (Str × Value)} : (A.under (.builtin "type.__call__" ⟨.ref C :: us, kw⟩)).units = A.units + 1 := by
  first | rfl | simp [Around.under, Code.cUnits, Code.frames, Code.isFrame]
theorem Room.make {k : Nat} {A : Around} (r : Room (k + 1) A) (C : Addr) (us : List Value) (kw : List (Str × Value)) : Room k (A.under (.builtin "type.__call__" ⟨.ref C :: us, kw⟩)) :=
  ⟨r.hd, by have := r.dp; rw [make_depth]; omega, by have := r.un; rw [make_units]; omega⟩
theorem Room.depth {k : Nat} {A : Around} (r : Room k A) : A.depth < recursionLimit := by have := r.dp; omega
theorem Room.units {k : Nat} {A : Around} (r : Room k A) : A.units + 64 < cLine := by have := r.un; omega
theorem Room.units0 {k : Nat} {A : Around} (r : Room k A) : A.units < cLine := by have := r.un; omega

/-! ### argument lists and displays -/
def tNil : TA := fun _ H Q => Q [] H
def tCons (ta : TE) (tr : TA) : TA := fun σ H Q => ta σ H fun x H1 => tr σ H1 fun xs H2 => Q (x :: xs) H2
section
variable {X : Cx} {e : Expr} {es : List Expr} {te : TE} {t : TA} {pos : Pos}
theorem pa_nil : PA X [] tNil := fun _ _ _ _ H Q I h => Calls.spliced_nil ⟨[], H, I, .nil, h⟩
theorem pa_cons (ha : PE X e te) (hr : PA X es t) (hs : starEach (e :: es) X.env = (false, eval e X.env) :: starEach es X.env := by rfl) : PA X (e :: es) (tCons te t) := by
  intro pos pins s σ H Q I h
  rw [hs]
  show wpAny _ _ (spliced ((false, eval e X.env) :: backTo pos (starEach es X.env))) _ _ s
  refine Calls.spliced_cons (thn (ha pins s σ H _ I h) fun u s1 ⟨x, H1, I1, r1, q1⟩ => ?_)
  exact thn (hr pos pins s1 σ H1 _ I1 q1) fun us s2 ⟨xs, H2, I2, r2, q2⟩ => ⟨x :: xs, H2, I2, .cons r1 r2, q2⟩

/-- a tuple, a list of written items -/
def tTup (t : TA) : TE := fun σ H Q => t σ H fun xs H1 => xs.length ≤ sizeLine ∧ ∀ p, H1 p = none → Q (.ref p) (upd H1 p (.tup xs))
def tLst (t : TA) : TE := fun σ H Q => t σ H fun xs H1 => xs.length ≤ sizeLine ∧ ∀ p, H1 p = none → Q (.ref p) (upd H1 p (.lst xs))
theorem pe_tup {x1} (h : PA X es t) : PE X (.Tuple es x1 pos) (tTup t) := by
  intro pins s σ H Q I hq
  refine wpAny_Tuple_spliced (thn (h pos pins s σ H _ I hq) fun us s1 ⟨xs, H1, I1, r, z, q⟩ => ⟨by rw [← r.length]; exact z, ?_⟩)
  have hf : H1 s1.heap.objs.size = none := I1.hok.fresh (Nat.le_refl _)
  refine ⟨.ref s1.heap.objs.size, upd H1 s1.heap.objs.size (.tup xs), I1.laid (t' := s1.toks) (fun b u e => Heap.get?_push_of_some _ e) (Nat.le_refl _) ?_, rfl, q _ hf⟩
  exact ⟨z, us, r, ⟨_, Heap.get?_push_size _ rfl, rfl, _, rfl⟩⟩
theorem pe_lst (h : PA X es t) : PE X (.List es pos) (tLst t) := by
  intro pins s σ H Q I hq
  refine wpAny_List_spliced (thn (h pos pins s σ H _ I hq) fun us s1 ⟨xs, H1, I1, r, z, q⟩ => ⟨by rw [← r.length]; exact z, ?_⟩)
  have hf : H1 s1.heap.objs.size = none := I1.hok.fresh (Nat.le_refl _)
  refine ⟨.ref s1.heap.objs.size, upd H1 s1.heap.objs.size (.lst xs), I1.laid (t' := s1.toks) (fun b u e => Heap.get?_push_of_some _ e) (Nat.le_refl _) ?_, rfl, q _ hf⟩
  exact ⟨z, us, 0, r, Heap.get?_push_size _ rfl⟩
end

/-! ### what a def promises -/
/-- a def's promise: the bound arguments in the parameters' order, the heap, the wanted end, the wanted exception -/
abbrev Sp := List V → Hp → VK → XK → Prop
/-- how an exception lies behind a call (file 08 gives it): the callers' frames, abstract heap and state ahead of the call, the wish, the exception, the state -/
abbrev CXT := List Env → Hp → Shared → XK → Value → Shared → Prop

/-- the state at a call -/
structure Env0 (P : Program) (w : World) (K : PySem.W.Frag) (mg : Str → Option Value) (base : Heap) (A : Around) (outer : List Env) (s : Shared) (H : Hp) : Prop where
  frames : A.frames = some outer
  mod : Mod K mg base
  bs : ∀ b o, base.get? b = some o → s.heap.get? b = some o ∧ H b = none
  bsz : base.objs.size ≤ s.heap.objs.size
  funs : s.heap.FunFrames base outer
  frf : ∀ b ∈ frs outer, H b = none
  hok : HOk P w H s.heap
  bare : AllBare s.gens
/-- a call's end -/
def CE (outer : List Env) (P : Program) (w : World) (H : Hp) (s : Shared) (Q : VK) (u : Value) (s' : Shared) : Prop :=
  ∃ v H', s'.os = s.os ∧ AllBare s'.gens ∧ Un (frs outer) [] H H' s.heap s'.heap ∧ HOk P w H' s'.heap ∧ RelV v u ∧ Q v H'
def CR (CX : CXT) (outer : List Env) (P : Program) (w : World) (H : Hp) (s : Shared) (Q : VK) (E : XK) (r : Result) (s' : Shared) : Prop :=
  match r with
  | .ok (.ret u) => CE outer P w H s Q u s'
  | .ok _ => False
  | .error e => CX outer H s E e s'
structure FnOk (P : Program) (w : World) (K : PySem.W.Frag) (mg : Str → Option Value) (base : Heap) (CX : CXT) (k : Nat) (f : Addr) (fd : FuncData) (ps : List Str) (sp : Sp) : Prop where
  len : ∀ vs H Q E, sp vs H Q E → vs.length = ps.length
  run : ∀ (A : Around) (outer : List Env) (s : Shared) (H : Hp) (args : Args) (us : List Value) (vs : List V) (Q : VK) (E : XK), Room k A → Env0 P w K mg base A outer s H → BindsTo s fd args (ps.zip us) → Vals vs us → sp vs H Q E →
    codeAny (model P w) A (.call (.ref f) args) (CR CX outer P w H s Q E) s
theorem FnOk.mono {P : Program} {w : World} {K : PySem.W.Frag} {mg : Str → Option Value} {base : Heap} {CX : CXT} {j k : Nat} {f : Addr} {fd : FuncData} {ps : List Str} {sp : Sp} (F : FnOk P w K mg base CX j f fd ps sp) (h : j ≤ k) :
    FnOk P w K mg base CX k f fd ps sp := ⟨F.len, fun A outer s H args us vs Q E hr => F.run A outer s H args us vs Q E (hr.mono h)⟩
/-- a weaker promise -/
theorem FnOk.imp {P : Program} {w : World} {K : PySem.W.Frag} {mg : Str → Option Value} {base : Heap} {CX : CXT} {k : Nat} {f : Addr} {fd : FuncData} {ps : List Str} {sp sp' : Sp} (F : FnOk P w K mg base CX k f fd ps sp)
    (h : ∀ vs H Q E, sp' vs H Q E → sp vs H Q E) : FnOk P w K mg base CX k f fd ps sp' :=
  ⟨fun vs H Q E q => F.len vs H Q E (h _ _ _ _ q), fun A outer s H args us vs Q E hr he hb hv hs => F.run A outer s H args us vs Q E hr he hb hv (h _ _ _ _ hs)⟩

theorem Env0.make {P : Program} {w : World} {K : PySem.W.Frag} {mg : Str → Option Value} {base : Heap} {A : Around} {outer : List Env} {s : Shared} {H : Hp} (e : Env0 P w K mg base A outer s H) (C : Addr) (us : List Value) (kw : List (Str × Value)) :
    Env0 P w K mg base (A.under (.builtin "type.__call__" ⟨.ref C :: us, kw⟩)) outer s H := ⟨by first | exact e.frames | (simpa [Around.under, Code.envs, Code.isFrame, pushEnvs] using e.frames), e.mod, e.bs, e.bsz, e.funs, e.frf, e.hok, e.bare⟩
theorem Env0.in1 {P : Program} {w : World} {K : PySem.W.Frag} {mg : Str → Option Value} {base : Heap} {A : Around} {outer : List Env} {s : Shared} {H : Hp} (e : Env0 P w K mg base A outer s H) :
    Env0 P w K mg base A.in1 outer s H := ⟨e.frames, e.mod, e.bs, e.bsz, e.funs, e.frf, e.hok, e.bare⟩

section
variable {X : Cx} {pins : List (Addr × Obj)} {σ : St} {H : Hp} {s s' : Shared}
/-- from a body: what a callee wants -/
theorem Inv.env0 (I : Inv X pins σ H s) : Env0 X.prog X.w X.K X.mg X.base X.A X.stack s H :=
  ⟨I.ok.frames, I.ok.mod, I.bs, Nat.le_trans I.ok.bsz I.sz, I.stack, I.stkFree, I.hok, I.bare⟩
/-- behind a call -/
theorem Inv.after {Q : VK} {u : Value} (I : Inv X pins σ H s) (h : CE X.stack X.prog X.w H s Q u s') : EP X pins σ Q u s' := by
  obtain ⟨v, H', os, bare, un, hok, r, q⟩ := h
  obtain ⟨hh, g, d, t, os'⟩ := s'
  obtain rfl : os' = s.os := os
  exact ⟨v, H', I.call (h' := hh) (g' := g) (d' := d) (t' := t) (ch := []) un hok bare (fun b z => absurd z (by simp)), r, q⟩
end

/-! ### calls -/
/-- f(..): the written arguments, then the defaults dvs; E: what is wanted of an exception -/
def tCall (sp : Sp) (dvs : List V) (E : XK) (t : TA) : TE := fun σ H Q => t σ H fun vs H1 => sp (vs ++ dvs) H1 Q E
/-- o.m(..) of an instance of the class at C -/
def tMeth (C : Addr) (m : Str) (sp : Sp) (dvs : List V) (E : XK) (ta : TE) (t : TA) : TE := fun σ H Q => ta σ H fun x H1 => ∃ a dx fs, x = .ref a ∧ H1 a = some (.ins C dx fs) ∧ fs.lookup m = none ∧
  t σ H1 fun vs H2 => sp (x :: (vs ++ dvs)) H2 Q E
/-- C(..): a new instance and its dict, then __init__ -/
def tMake (C : Addr) (sp : Sp) (dvs : List V) (E : XK) (t : TA) : TE := fun σ H Q => t σ H fun vs H1 => ∀ x dx, H1 x = none → H1 dx = none → dx ≠ x →
  sp (.ref x :: (vs ++ dvs)) (upd (upd H1 dx (.own x)) x (.ins C dx [])) (fun v H2 => v = .non ∧ Q (.ref x) H2) E

/-- how the parameters are bound: us the positional arguments, kw the keywords' values by name, ds the defaults that fill up -/
def Binds (K : PySem.W.Frag) (fd : FuncData) (ps : List Str) (ds : List Value) : Prop :=
  ∀ (s : Shared) (us : List Value), K.In s.heap → (us ++ ds).length = ps.length → BindsTo s fd ⟨us, []⟩ (ps.zip (us ++ ds))
/-- every parameter is given -/
theorem Binds.all {K : PySem.W.Frag} {fd : FuncData} {ps : List Str} (h : ∀ us : List Value, us.length = ps.length → bindArgs fd ⟨us, []⟩ = pure (ps.zip us)) : Binds K fd ps [] := fun s us _ hl => by
  rw [List.append_nil] at hl ⊢
  exact .of_eq (h us hl)

/-- an exception of a callee reaches what this body wants of exceptions -/
def Passes (CX : CXT) (X : Cx) (E : XK) : Prop := ∀ (pins : List (Addr × Obj)) (σ : St) (H : Hp) (s : Shared) (e : Value) (s' : Shared), Inv X pins σ H s → CX X.stack H s E e s' → X.xe e s'

section
variable {X : Cx} {CX : CXT} {k : Nat} {f C : Addr} {fd : FuncData} {ps : List Str} {sp : Sp} {dvs : List V} {ds : List Value} {E : XK} {x m : Str} {p pos apos : Pos} {e o : Expr} {es : List Expr} {ta : TE} {t : TA}

/-- the callee runs -/
theorem run_fn {pins : List (Addr × Obj)} {σ : St} {H : Hp} {s : Shared} {Q : VK} {us : List Value} {vs : List V} (F : FnOk X.prog X.w X.K X.mg X.base CX k f fd ps sp) (hr : Room k X.A) (hb : Binds X.K fd ps ds) (hd : Vals dvs ds) (hx : Passes CX X E)
    (I : Inv X pins σ H s) (r : Vals vs us) (h : sp (vs ++ dvs) H Q E) : wpAny (model X.prog X.w) X.A (call (.ref f) us) (EP X pins σ Q) X.xe s := by
  have r2 : Vals (vs ++ dvs) (us ++ ds) := r.append hd
  have hl : (us ++ ds).length = ps.length := by rw [← r2.length]; exact F.len _ _ _ _ h
  refine wpAny_call (codeAny_mono (F.run X.A X.stack s H ⟨us, []⟩ (us ++ ds) (vs ++ dvs) Q E hr I.env0 (hb s us I.kIn hl) r2 h) fun r s' hq => ?_)
  cases r with
  | error e => exact hx pins σ H s e s' I hq
  | ok fl =>
    cases fl with
    | ret u => exact I.after hq
    | next => exact False.elim hq
    | brk => exact False.elim hq
    | cont => exact False.elim hq

theorem pe_call (F : FnOk X.prog X.w X.K X.mg X.base CX k f fd ps sp) (hr : Room k X.A) (hg : Gl X x) (hm : X.mg x = some (.ref f)) (hk : PySem.W.keepIn X.K (.ref f) = true) (hb : Binds X.K fd ps ds) (hd : Vals dvs ds) (hx : Passes CX X E)
    (ha : PA X (e :: es) t) (hdb : (x == ("__debug__" : Str)) = false := by decide) (he : starEach (e :: es) X.env = (false, eval e X.env) :: starEach es X.env := by rfl) (hpl : (backTo pos (starEach es X.env)).any (·.1) = false := by rfl) :
    PE X (.Call (.Name x p) (e :: es) [] pos) (tCall sp dvs E t) := by
  intro pins s σ H Q I h
  refine wpAny_Call_Name_kw (ld_glob I hg hm ?_ hdb)
  refine PySem.W.callWith_K (h₀ := X.base) I.ok.mod.kin hk (thn (ha pos pins s σ H _ I h) fun us s1 ⟨vs, H1, I1, r, q⟩ => ⟨I1.kIn, ?_⟩) he hpl
  exact run_fn F hr hb hd hx I1 r q
theorem pe_call0 (F : FnOk X.prog X.w X.K X.mg X.base CX k f fd ps sp) (hr : Room k X.A) (hg : Gl X x) (hm : X.mg x = some (.ref f)) (hk : PySem.W.keepIn X.K (.ref f) = true) (hb : Binds X.K fd ps ds) (hd : Vals dvs ds) (hx : Passes CX X E)
    (hdb : (x == ("__debug__" : Str)) = false := by decide) : PE X (.Call (.Name x p) [] [] pos) (tCall sp dvs E tNil) := by
  intro pins s σ H Q I h
  refine wpAny_Call_Name_kw (ld_glob I hg hm ?_ hdb)
  exact PySem.W.callWith_K0 I.kIn hk (run_fn (us := []) F hr hb hd hx I .nil h)

/-- o.m(e, ..) -/
theorem pe_meth {pl : Sem Bool} (he : PE X o ta) (c : Cls X.K C) (hm : Meth X.K C m f) (F : FnOk X.prog X.w X.K X.mg X.base CX k f fd ps sp) (hr : Room k X.A) (hb : Binds X.K fd ps ds) (hd : Vals dvs ds) (hx : Passes CX X E) (ha : PA X (e :: es) t)
    (hst : starEach (e :: es) X.env = (false, eval e X.env) :: starEach es X.env := by rfl) (hpl : (backTo pos (starEach es X.env)).any (·.1) = false := by rfl)
    (ht : eval (.Call (.Attribute o m apos) (e :: es) [] pos) X.env = (do
      let ov ← eval o X.env
      standAt apos.atName
      let (f, first) ← holding [ov] (getMethod ov m pl)
      callWith pos f first (backTo pos (starEach (e :: es) X.env)) (backToKw pos (keywordEach [] X.env))) := by rfl) :
    PE X (.Call (.Attribute o m apos) (e :: es) [] pos) (tMeth C m sp dvs E ta t) := by
  intro pins s σ H Q I h
  refine PySem.W.methodCall_KW (pl := pl) (thn (he pins s σ H _ I h) fun u s1 ⟨x, H1, I1, rx, a, dx, fs, ex, ea, l, q⟩ => ?_) ht
  subst ex
  obtain rfl : u = Value.ref a := rx
  refine getmeth_ok I1 ea c hm l ?_
  refine PySem.W.callWith_K (first := [.ref a]) (h₀ := X.base) I.ok.mod.kin hm.kp (thn (ha pos pins s1 σ H1 _ I1 q) fun us s2 ⟨vs, H2, I2, r, q2⟩ => ⟨I2.kIn, ?_⟩) hst hpl
  exact run_fn (us := .ref a :: us) (vs := .ref a :: vs) F hr hb hd hx I2 (.cons rfl r) q2
/-- o.m() -/
theorem pe_meth0 {pl : Sem Bool} (he : PE X o ta) (c : Cls X.K C) (hm : Meth X.K C m f) (F : FnOk X.prog X.w X.K X.mg X.base CX k f fd ps sp) (hr : Room k X.A) (hb : Binds X.K fd ps ds) (hd : Vals dvs ds) (hx : Passes CX X E)
    (ht : eval (.Call (.Attribute o m apos) [] [] pos) X.env = (do
      let ov ← eval o X.env
      standAt apos.atName
      let (f, first) ← holding [ov] (getMethod ov m pl)
      callWith pos f first (backTo pos (starEach [] X.env)) (backToKw pos (keywordEach [] X.env))) := by rfl) :
    PE X (.Call (.Attribute o m apos) [] [] pos) (tMeth C m sp dvs E ta tNil) := by
  intro pins s σ H Q I h
  refine PySem.W.methodCall_KW (pl := pl) (thn (he pins s σ H _ I h) fun u s1 ⟨x, H1, I1, rx, a, dx, fs, ex, ea, l, q⟩ => ?_) ht
  subst ex
  obtain rfl : u = Value.ref a := rx
  refine getmeth_ok I1 ea c hm l ?_
  exact PySem.W.callWith_K0 (first := [.ref a]) I1.kIn hm.kp (run_fn (us := [.ref a]) (vs := [.ref a]) F hr hb hd hx I1 (.cons rfl .nil) q)

/-- what a class must have to be made -/
structure Mk (K : PySem.W.Frag) (C f : Addr) : Prop where
  makes : PySem.W.makesIn K C = true
  init : PySem.W.findIn K (.ref C) "__init__" = some (some (.ref f))
  fn : PySem.W.isFn K (.ref f) = true
  kp : PySem.W.keepIn K (.ref C) = true

theorem run_make {pins : List (Addr × Obj)} {σ : St} {H : Hp} {s : Shared} {Q : VK} {us : List Value} {vs : List V} (M : Mk X.K C f) (F : FnOk X.prog X.w X.K X.mg X.base CX k f fd ps sp) (hr : Room (k + 1) X.A) (hb : Binds X.K fd ps ds) (hd : Vals dvs ds)
    (hx : Passes CX X E) (I : Inv X pins σ H s) (r : Vals vs us)
    (h : ∀ x dx, H x = none → H dx = none → dx ≠ x → sp (.ref x :: (vs ++ dvs)) (upd (upd H dx (.own x)) x (.ins C dx [])) (fun v H2 => v = .non ∧ Q (.ref x) H2) E) :
    wpAny (model X.prog X.w) X.A (call (.ref C) us) (EP X pins σ Q) X.xe s := by
  have hq := h (s.heap.objs.size + 1) s.heap.objs.size (I.hok.fresh (Nat.le_succ _)) (I.hok.fresh (Nat.le_refl _)) (Nat.ne_of_lt (Nat.lt_succ_self _))
  have I2 := Inv.made (C := C) I
  have r2 : Vals (V.ref (s.heap.objs.size + 1) :: (vs ++ dvs)) (Value.ref (s.heap.objs.size + 1) :: (us ++ ds)) := .cons rfl (r.append hd)
  have hl : (Value.ref (s.heap.objs.size + 1) :: us ++ ds).length = ps.length := by
    have e := r2.length
    rw [F.len _ _ _ _ hq] at e
    exact e.symm
  refine wpAny_call (make_map (f := f) I.kIn M.makes M.init (beq_iff_eq.mp M.fn) (codeAny_mono (F.run _ X.stack _ _ ⟨Value.ref (s.heap.objs.size + 1) :: us, []⟩ (Value.ref (s.heap.objs.size + 1) :: (us ++ ds)) _ _ E (hr.make C us [])
    (I2.env0.make C us []) (hb _ (Value.ref (s.heap.objs.size + 1) :: us) I2.kIn hl) r2 hq) fun r s' hq' => ?_))
  cases r with
  | error e => exact hx pins σ _ _ e s' I2 hq'
  | ok fl =>
    cases fl with
    | ret u =>
      obtain ⟨v, H', I3, rv, ev, q3⟩ := I2.after hq'
      subst ev
      exact ⟨rv, ⟨V.ref (s.heap.objs.size + 1), H', I3, rfl, q3⟩⟩
    | next => exact False.elim hq'
    | brk => exact False.elim hq'
    | cont => exact False.elim hq'
theorem pe_make (M : Mk X.K C f) (F : FnOk X.prog X.w X.K X.mg X.base CX k f fd ps sp) (hr : Room (k + 1) X.A) (hg : Gl X x) (hm : X.mg x = some (.ref C)) (hb : Binds X.K fd ps ds) (hd : Vals dvs ds) (hx : Passes CX X E)
    (ha : PA X (e :: es) t) (hdb : (x == ("__debug__" : Str)) = false := by decide) (he : starEach (e :: es) X.env = (false, eval e X.env) :: starEach es X.env := by rfl) (hpl : (backTo pos (starEach es X.env)).any (·.1) = false := by rfl) :
    PE X (.Call (.Name x p) (e :: es) [] pos) (tMake C sp dvs E t) := by
  intro pins s σ H Q I h
  refine wpAny_Call_Name_kw (ld_glob I hg hm ?_ hdb)
  refine PySem.W.callWith_K (h₀ := X.base) I.ok.mod.kin M.kp (thn (ha pos pins s σ H _ I h) fun us s1 ⟨vs, H1, I1, r, q⟩ => ⟨I1.kIn, ?_⟩) he hpl
  exact run_make M F hr hb hd hx I1 r q
theorem pe_make0 (M : Mk X.K C f) (F : FnOk X.prog X.w X.K X.mg X.base CX k f fd ps sp) (hr : Room (k + 1) X.A) (hg : Gl X x) (hm : X.mg x = some (.ref C)) (hb : Binds X.K fd ps ds) (hd : Vals dvs ds) (hx : Passes CX X E)
    (hdb : (x == ("__debug__" : Str)) = false := by decide) : PE X (.Call (.Name x p) [] [] pos) (tMake C sp dvs E tNil) := by
  intro pins s σ H Q I h
  refine wpAny_Call_Name_kw (ld_glob I hg hm ?_ hdb)
  exact PySem.W.callWith_K0 I.kIn M.kp (run_make (us := []) M F hr hb hd hx I .nil h)
end

/-! ### keywords -/
/-- the values of the keywords, from the left -/
def PK (X : Cx) (kws : List Keyword) (t : TA) : Prop :=
  ∀ (pos : Pos) (pins : List (Addr × Obj)) (s : Shared) (σ : St) (H : Hp) (Q : List V → Hp → Prop), Inv X pins σ H s → t σ H Q → wpAny (model X.prog X.w) X.A (evalAll ((backToKw pos (keywordEach kws X.env)).map (·.2))) (AP X pins σ Q) X.xe s
section
variable {X : Cx} {CX : CXT} {k : Nat} {f C : Addr} {fd : FuncData} {ps ks : List Str} {sp : Sp} {E : XK} {x m : Str} {p pos apos kpos : Pos} {e o : Expr} {es : List Expr} {kws : List Keyword} {te ta : TE} {t tk : TA} {nm : Option Str}
theorem pk_nil : PK X [] tNil := fun _ _ _ _ H Q I h => wpAny_evalAll_nil ⟨[], H, I, .nil, h⟩
theorem pk_cons (ha : PE X e te) (hr : PK X kws t) : PK X (⟨nm, e, kpos⟩ :: kws) (tCons te t) := by
  intro pos pins s σ H Q I h
  show wpAny _ _ (evalAll ((do let v ← eval e X.env; standAt pos; pure v) :: (backToKw pos (keywordEach kws X.env)).map (·.2))) _ _ s
  refine wpAny_evalAll_cons (wpAny_bind (thn (ha pins s σ H _ I h) fun u s1 ⟨x, H1, I1, r1, q1⟩ => wpAny_bind (wpAny_standAt (wpAny_pure ?_))))
  exact thn (hr pos pins s1 σ H1 _ I1 q1) fun us s2 ⟨xs, H2, I2, r2, q2⟩ => ⟨x :: xs, H2, I2, .cons r1 r2, q2⟩

/-- how a call with keywords binds: g puts the positional values us and the keywords' values ws (names ks) in the parameters' order, defaults among them -/
structure KBinds (K : PySem.W.Frag) (fd : FuncData) (ps ks : List Str) (g : List Value → List Value → List Value) (gV : List V → List V → List V) : Prop where
  to : ∀ (s : Shared) (us ws : List Value), K.In s.heap → (g us ws).length = ps.length → BindsTo s fd ⟨us, ks.zip ws⟩ (ps.zip (g us ws))
  rel : ∀ {vs : List V} {us : List Value} {zs : List V} {ws : List Value}, Vals vs us → Vals zs ws → Vals (gV vs zs) (g us ws)
def tCallK (sp : Sp) (gV : List V → List V → List V) (E : XK) (t tk : TA) : TE := fun σ H Q => t σ H fun vs H1 => tk σ H1 fun zs H2 => sp (gV vs zs) H2 Q E
variable {g : List Value → List Value → List Value} {gV : List V → List V → List V}
theorem run_fnk {pins : List (Addr × Obj)} {σ : St} {H : Hp} {s : Shared} {Q : VK} {us ws : List Value} {vs zs : List V} (F : FnOk X.prog X.w X.K X.mg X.base CX k f fd ps sp) (hr : Room k X.A) (hb : KBinds X.K fd ps ks g gV) (hx : Passes CX X E)
    (I : Inv X pins σ H s) (r : Vals vs us) (rz : Vals zs ws) (h : sp (gV vs zs) H Q E) : wpAny (model X.prog X.w) X.A (call (.ref f) us (ks.zip ws)) (EP X pins σ Q) X.xe s := by
  have r2 := hb.rel r rz
  have hl : (g us ws).length = ps.length := by rw [← r2.length]; exact F.len _ _ _ _ h
  refine wpAny_call (codeAny_mono (F.run X.A X.stack s H ⟨us, ks.zip ws⟩ (g us ws) (gV vs zs) Q E hr I.env0 (hb.to s us ws I.kIn hl) r2 h) fun r s' hq => ?_)
  cases r with
  | error e => exact hx pins σ H s e s' I hq
  | ok fl =>
    cases fl with
    | ret u => exact I.after hq
    | next => exact False.elim hq
    | brk => exact False.elim hq
    | cont => exact False.elim hq
/-- f(e, .., k = v, ..) -/
theorem pe_callK (F : FnOk X.prog X.w X.K X.mg X.base CX k f fd ps sp) (hr : Room k X.A) (hg : Gl X x) (hm : X.mg x = some (.ref f)) (hk : PySem.W.keepIn X.K (.ref f) = true) (hb : KBinds X.K fd ps ks g gV) (hx : Passes CX X E)
    (ha : PA X (e :: es) t) (hkw : PK X kws tk) (hall : (backToKw pos (keywordEach kws X.env)).all (·.1.isSome) = true := by rfl) (hks : (backToKw pos (keywordEach kws X.env)).filterMap (·.1) = ks := by rfl)
    (hdb : (x == ("__debug__" : Str)) = false := by decide) (he : starEach (e :: es) X.env = (false, eval e X.env) :: starEach es X.env := by rfl)
    (hpl : ((backTo pos (starEach (e :: es) X.env)).any (·.1) || (backToKw pos (keywordEach kws X.env)).any (·.1.isNone)) = false := by rfl) :
    PE X (.Call (.Name x p) (e :: es) kws pos) (tCallK sp gV E t tk) := by
  intro pins s σ H Q I h
  refine wpAny_Call_Name_kw (ld_glob I hg hm ?_ hdb)
  refine PySem.W.callWith_KW (h₀ := X.base) I.ok.mod.kin hk hall (thn (ha pos pins s σ H _ I h) fun us s1 ⟨vs, H1, I1, r, q⟩ => ?_) hpl he
  refine thn (hkw pos pins s1 σ H1 _ I1 q) fun ws s2 ⟨zs, H2, I2, rz, q2⟩ => ⟨I2.kIn, ?_⟩
  rw [hks]
  exact run_fnk F hr hb hx I2 r rz q2
end

/-! ### a def's body keeps its promise -/
/-- names: the parameters first -/
structure FnScope (N P : List Str) (sc : Scope) : Prop where
  kind : sc.kind = .function
  co : sc.isCoroutine = false
  gen : sc.isGenerator = false
  nd : N.Nodup
  pre : N.take P.length = P
  par : ∀ x ∈ P, sc.names.lookup x = some .local ∨ sc.names.lookup x = some .cell
  nofree : ∀ y ∈ sc.names, y.2 ≠ .free

theorem bindL_out {kindOf : Str → Option NameKind} {x : Str} : ∀ {binds : List (Str × Value)} {m : Str → Option Value}, (∀ v, (x, v) ∉ binds) → bindL kindOf binds m x = m x
  | [], _, _ => rfl
  | (n, v) :: r, m, h => by
    unfold bindL
    rw [bindL_out fun w hw => h w (List.mem_cons_of_mem _ hw)]
    split
    · have : x ≠ n := by rintro rfl; exact h v List.mem_cons_self
      simp [this]
    · rfl
theorem bindC_out {kindOf : Str → Option NameKind} {x : Str} : ∀ {binds : List (Str × Value)} {m : Str → Option Value}, (∀ v, (x, v) ∉ binds) → bindC kindOf binds m x = m x
  | [], _, _ => rfl
  | (n, v) :: r, m, h => by
    unfold bindC
    rw [bindC_out fun w hw => h w (List.mem_cons_of_mem _ hw)]
    split
    · rfl
    · have : x ≠ n := by rintro rfl; exact h v List.mem_cons_self
      simp [this]
theorem bindL_get {kindOf : Str → Option NameKind} {x : Str} {v : Value} : ∀ {P : List Str} {vs : List Value} {i : Nat} {m : Str → Option Value}, P.Nodup → P[i]? = some x → vs[i]? = some v → kindOf x = some .local →
    bindL kindOf (P.zip vs) m x = some v
  | [], _, _, _, _, h, _, _ => by simp at h
  | _ :: _, [], _, _, _, _, h, _ => by simp at h
  | p :: P, w :: vs, 0, m, nd, h1, h2, hk => by
    simp at h1 h2; subst h1; subst h2
    show bindL kindOf ((p, w) :: P.zip vs) m p = _
    unfold bindL
    rw [bindL_out fun v hv => (List.nodup_cons.mp nd).1 (List.of_mem_zip hv).1, if_pos hk]
    simp
  | p :: P, w :: vs, i + 1, m, nd, h1, h2, hk => by
    show bindL kindOf ((p, w) :: P.zip vs) m x = _
    unfold bindL
    exact bindL_get (i := i) (List.nodup_cons.mp nd).2 (by simpa using h1) (by simpa using h2) hk
theorem bindC_get {kindOf : Str → Option NameKind} {x : Str} {v : Value} : ∀ {P : List Str} {vs : List Value} {i : Nat} {m : Str → Option Value}, P.Nodup → P[i]? = some x → vs[i]? = some v → kindOf x ≠ some .local →
    bindC kindOf (P.zip vs) m x = some v
  | [], _, _, _, _, h, _, _ => by simp at h
  | _ :: _, [], _, _, _, _, h, _ => by simp at h
  | p :: P, w :: vs, 0, m, nd, h1, h2, hk => by
    simp at h1 h2; subst h1; subst h2
    show bindC kindOf ((p, w) :: P.zip vs) m p = _
    unfold bindC
    rw [bindC_out fun v hv => (List.nodup_cons.mp nd).1 (List.of_mem_zip hv).1, if_neg hk]
    simp
  | p :: P, w :: vs, i + 1, m, nd, h1, h2, hk => by
    show bindC kindOf ((p, w) :: P.zip vs) m x = _
    unfold bindC
    exact bindC_get (i := i) (List.nodup_cons.mp nd).2 (by simpa using h1) (by simpa using h2) hk

/-- the names' values at the entry -/
def start (N : List Str) (vs : List V) : St := vs.map some ++ List.replicate (N.length - vs.length) none

/-- the context of a def's body, at its entry; an exception leaves the frame, then lies as CX says -/
def cxOf (CX : CXT) (P : Program) (w : World) (K : PySem.W.Frag) (mg : Str → Option Value) (base : Heap) (N : List Str) (qual : Str) (scope : Scope) (f : Addr) (cd : Value) (A : Around) (outer : List Env) (s : Shared) (H : Hp) (E : XK) : Cx where
  prog := P
  w := w
  K := K
  mg := mg
  base := base
  A := A.deeper (envOfC qual scope s.heap.objs.size f cd)
  N := N
  s₀ := s
  H₀ := H
  env := envOfC qual scope s.heap.objs.size f cd
  outer := outer
  stack := envOfC qual scope s.heap.objs.size f cd :: outer
  ex := []
  calm := true
  fn := fun _ => true
  pn := []
  xe := fun e s' => wpAny (model P w) (A.deeper (envOfC qual scope s.heap.objs.size f cd)) (leaving (envOfC qual scope s.heap.objs.size f cd) e) (fun _ s'' => CX outer H s E e s'') (fun e' s'' => CX outer H s E e' s'') s'

theorem cell_has {sc : Scope} {n : Nat} {x : Str} (h : sc.names.lookup x = some .cell) : ∃ c, (cellsFrom n sc.names []).lookup x = some c := by
  have q := PySem.W.cellsFrom_some sc.names n [] (.inl h)
  exact Option.isSome_iff_exists.mp q

theorem inv_start {CX : CXT} {P : Program} {w : World} {K : PySem.W.Frag} {mg : Str → Option Value} {base : Heap} {N ps : List Str} {qual : Str} {scope : Scope} {f : Addr} {cd : Value} {A : Around} {outer : List Env} {s s1 : Shared} {H : Hp} {E : XK} {us : List Value} {vs : List V}
    (S : FnScope N ps scope) (hd : A.handled = none) (e0 : Env0 P w K mg base A outer s H) (hl : vs.length = ps.length) (r : Vals vs us)
    (x : InCallC s s.heap.objs.size (bindL (envOfC qual scope s.heap.objs.size f cd).kindOf (ps.zip us) fun _ => none) (cellsFrom (s.heap.objs.size + 1) scope.names []) (bindC (envOfC qual scope s.heap.objs.size f cd).kindOf (ps.zip us) fun _ => none) s1) :
    Inv (cxOf CX P w K mg base N qual scope f cd A outer s H E) [] (start N vs) H s1 := by
  have hpl : ps.length ≤ N.length := by have := congrArg List.length S.pre; rw [List.length_take] at this; omega
  obtain ⟨h1, tk, rfl, hk⟩ := x.done
  have noA : ∀ b : Addr, b ∉ (cxOf CX P w K mg base N qual scope f cd A outer s H E).ex := fun b z => absurd (show b ∈ ([] : List Addr) from z) (by simp)
  refine ⟨⟨e0.mod, S.kind, rfl, rfl, Nat.le_refl _, fun y z c h1 h2 => ?_, fun y hy => ?_, fun y c _ h => ?_, fun _ => hd, Around.frames_deeper e0.frames, .inr ⟨rfl, rfl⟩, fun b z => absurd z (noA b), e0.bs, e0.bsz, fun b _ _ => noA b, fun b z => absurd z (noA b), e0.funs, e0.frf⟩,
    rfl, e0.bare, Un.kept hk, ⟨_, x.toInCall.ns, fun i y v h1 h2 h3 => ?_⟩, fun y c h => ⟨_, x.cell y c h⟩, e0.hok.fresh (Nat.le_refl _), fun y c h => ?_, fun p hp => absurd (show p ∈ ([] : List (Addr × Obj)) from hp) (by simp), e0.hok.kept hk, ?_⟩
  · exact name_of_addr x.apart (PySem.mem_of_lookup h1) (PySem.mem_of_lookup h2)
  · have hy : scope.names.lookup y = some .cell ∨ scope.names.lookup y = some .free := hy
    rcases hy with hy | hy
    · exact cell_has hy
    · exact absurd rfl (S.nofree _ (PySem.mem_of_lookup hy))
  · exact Nat.le_of_lt (x.above y c (PySem.mem_of_lookup h))
  · have hi : i < vs.length := by
      unfold start at h2
      by_cases hi : i < vs.length
      · exact hi
      · rw [List.getElem?_append_right (by simpa using hi)] at h2
        rw [List.getElem?_replicate] at h2
        split at h2 <;> cases h2
    have ha : vs[i]? = some v := by
      unfold start at h2
      rw [List.getElem?_append_left (by simpa using hi), List.getElem?_map] at h2
      cases e : vs[i]? with
      | none => rw [e] at h2; cases h2
      | some a => rw [e] at h2; cases h2; rfl
    obtain ⟨u, hu, rv⟩ := r.get ha
    have hp : ps[i]? = some y := by
      rw [← S.pre, List.getElem?_take_of_lt (by omega)]; exact h1
    have ndP : ps.Nodup := by rw [← S.pre]; exact S.nd.sublist (List.take_sublist _ _)
    refine ⟨u, rv, ?_⟩
    rcases S.par y (List.mem_of_getElem? hp) with k | k
    · exact .inl ⟨k, bindL_get ndP hp hu k⟩
    · obtain ⟨c, e⟩ := cell_has (n := s.heap.objs.size + 1) k
      refine .inr ⟨.inl k, c, e, ?_⟩
      have q := x.cell y c e
      rw [bindC_get ndP hp hu (by show scope.names.lookup y ≠ _; rw [k]; decide)] at q
      exact q
  · exact e0.hok.fresh (Nat.le_of_lt (x.above y c (PySem.mem_of_lookup h)))
  · unfold start
    show _ = N.length
    rw [List.length_append, List.length_map, List.length_replicate]
    omega

/-- THE RULE: a def (or a method) of the text, by its body. The body's reading t is chosen for each entry; it is run at the parameters' values -/
theorem fn_of {CX : CXT} {P : Program} {w : World} {K : PySem.W.Frag} {mg : Str → Option Value} {base : Heap} {k : Nat} {f : Addr} {name qual : Str} {params : Arguments} {body : List Stmt} {scope : Scope} {dV kV doc pm cdv ct oc : Value} {an od : Option Addr}
    {osl : Array (Option Value)} {N ps : List Str} {sp : Sp} (lk : K.lookup f = some ⟨oc, od, .func (PySem.W.fnOf name qual params body scope dV kV doc pm an cdv ct), osl⟩) (hcd : PySem.W.codeIn K cdv qual = true) (S : FnScope N ps scope)
    (len : ∀ vs H Q E, sp vs H Q E → vs.length = ps.length)
    (hbody : ∀ (A : Around) (outer : List Env) (s : Shared) (H : Hp) (vs : List V) (Q : VK) (E : XK), Room k (A.deeper (envOfC qual scope s.heap.objs.size f cdv)) → sp vs H Q E →
      ∃ t, PSs (cxOf CX P w K mg base N qual scope f cdv A outer s H E) body t ∧ t { nx := fun _ H' => Q .non H', rt := Q } (start N vs) H) :
    FnOk P w K mg base CX (k + 1) f (PySem.W.fnOf name qual params body scope dV kV doc pm an cdv ct) ps sp := by
  refine ⟨len, fun A outer s H args us vs Q E hr e0 hb r hsp => ?_⟩
  have hl := len _ _ _ _ hsp
  have KX : K.In s.heap := e0.mod.kin.keeps fun b o e => (e0.bs b o e).1
  have lim : s.heap.NoLimit := e0.mod.nolimit.keeps fun b o e => (e0.bs b o e).1
  have hkind : ∀ y ∈ ps.zip us, scope.names.lookup y.1 = some .local ∨ (scope.names.lookup y.1 = some .cell ∧ ((cellsFrom (s.heap.objs.size + 1) scope.names []).lookup y.1).isSome = true) := fun ⟨n, v⟩ hy => by
    rcases S.par n (List.of_mem_zip hy).1 with q | q
    · exact .inl q
    · exact .inr ⟨q, PySem.W.cellsFrom_some _ _ _ (.inl q)⟩
  refine codeAny_call_function hr.depth (KX _ _ lk) rfl S.co S.gen rfl (PySem.W.codeRec_of KX hcd) (hb _ _ _ _ ?_)
  refine wpAny_newFunctionEnv_cells S.kind hkind fun env he s1 x => ?_
  subst he
  refine ⟨lim.keeps x.toInCall.keep, codeAny_func ?_⟩
  obtain ⟨t, ht, hq⟩ := hbody A outer s H vs Q E (hr.deeper _) hsp
  have I : Inv (cxOf CX P w K mg base N qual scope f cdv A outer s H E) [] (start N vs) H s1 := inv_start S hr.hd e0 hl r x
  refine wpAny_mono (ht [] s1 (start N vs) H _ I hq) (fun fl s' hs => ?_) fun e s' hs => hs
  have fin : ∀ {σ' : St} {H' : Hp} {v : V} {u : Value}, Inv (cxOf CX P w K mg base N qual scope f cdv A outer s H E) [] σ' H' s' → RelV v u → Q v H' → CE outer P w H s Q u s' :=
    fun {σ' H' v u} J rv q => ⟨v, H', J.os, J.bare, J.base, J.hok, rv, q⟩
  cases fl with
  | ret u =>
    obtain ⟨v, σ', H', J, rv, q⟩ := hs
    exact fin J rv q
  | next =>
    obtain ⟨σ', H', J, q⟩ := hs
    exact fin (v := V.non) (u := Value.none) J rfl q
  | brk =>
    obtain ⟨_, _, _, q⟩ := hs
    exact False.elim q
  | cont =>
    obtain ⟨_, _, _, q⟩ := hs
    exact False.elim q
end L2

namespace L2
open PySem PySem.Spec PyProof.Rows
section
variable {X : Cx} {x : Str} {p pos : Pos} {e : Expr} {es : List Expr} {t : TA} {id T : String} {r : List V → Hp → VK → Prop}

def tCB (r : List V → Hp → VK → Prop) (t : TA) : TE := fun σ H Q => t σ H fun vs H1 => r vs H1 Q
/-- f(e, ..), f a built-in function -/
theorem pe_callB (hc : CallR X (.builtin id) r) (hg : Gl X x) (hm : X.mg x = none) (hv : bootBuiltins x = some (.builtin id)) (ha : PA X (e :: es) t) (hn : x ≠ "__name__" := by decide) (hdb : (x == ("__debug__" : Str)) = false := by decide)
    (he : starEach (e :: es) X.env = (false, eval e X.env) :: starEach es X.env := by rfl) (hpl : (backTo pos (starEach es X.env)).any (·.1) = false := by rfl) : PE X (.Call (.Name x p) (e :: es) [] pos) (tCB r t) := by
  intro pins s σ H Q I h
  refine wpAny_Call_Name_kw (ld_blt I hg hm hv ?_ hn hdb)
  exact PyProof.Rows.callWith_builtin1 (thn (ha pos pins s σ H _ I h) fun us s1 ⟨vs, H1, I1, r1, q1⟩ => hc pins s1 σ H1 vs us Q I1 r1 q1) he hpl
/-- T(e, ..), T a built-in type -/
theorem pe_callTy (hc : CallR X (.type T) r) (hg : Gl X x) (hm : X.mg x = none) (hv : bootBuiltins x = some (.type T)) (ha : PA X (e :: es) t) (hn : x ≠ "__name__" := by decide) (hdb : (x == ("__debug__" : Str)) = false := by decide)
    (he : starEach (e :: es) X.env = (false, eval e X.env) :: starEach es X.env := by rfl) (hpl : (backTo pos (starEach es X.env)).any (·.1) = false := by rfl) : PE X (.Call (.Name x p) (e :: es) [] pos) (tCB r t) := by
  intro pins s σ H Q I h
  refine wpAny_Call_Name_kw (ld_blt I hg hm hv ?_ hn hdb)
  exact PyProof.Rows.callWith_type1 (thn (ha pos pins s σ H _ I h) fun us s1 ⟨vs, H1, I1, r1, q1⟩ => hc pins s1 σ H1 vs us Q I1 r1 q1) he hpl
/-- T() -/
theorem pe_callTy0 (hc : CallR X (.type T) r) (hg : Gl X x) (hm : X.mg x = none) (hv : bootBuiltins x = some (.type T)) (hn : x ≠ "__name__" := by decide) (hdb : (x == ("__debug__" : Str)) = false := by decide) :
    PE X (.Call (.Name x p) [] [] pos) (tCB r tNil) := by
  intro pins s σ H Q I h
  refine wpAny_Call_Name_kw (ld_blt I hg hm hv ?_ hn hdb)
  exact PyProof.Rows.callWith_type0 (hc pins s σ H [] [] Q I .nil h)
end
end L2

namespace HT
open PySem PyProof.Rows

/-- t < u of tuples of ints -/
def lexLt : List Int → List Int → Bool
  | [], [] => false
  | [], _ :: _ => true
  | _ :: _, [] => false
  | x :: xs, y :: ys => if x = y then lexLt xs ys else decide (x < y)
theorem lexLt_cons (x y : Int) (xs ys : List Int) : lexLt (x :: xs) (y :: ys) = if x = y then lexLt xs ys else decide (x < y) := rfl
theorem lexLt_nil_nil : lexLt [] [] = false := rfl
theorem lexLt_nil_cons (y : Int) (ys : List Int) : lexLt [] (y :: ys) = true := rfl
theorem lexLt_cons_nil (x : Int) (xs : List Int) : lexLt (x :: xs) [] = false := rfl

theorem eqAt_int (A : Around) (s : Shared) (a : Int) (t : Tok) (c : Int) (u : Tok) : ∃ e, SeqAt.EqAt A s (.int a t) (.int c u) e ∧ (e = true ↔ a = c) :=
  ⟨(a == c), SeqAt.EqAt.int_int a t c u, by simp⟩
theorem rcLt_int (A : Around) (s : Shared) (a : Int) (t : Tok) (c : Int) (u : Tok) (prog : Program) (w : World) (E : Value → Shared → Prop) (Q : Value → Shared → Prop) (h : Q (.bool (decide (a < c))) s) :
    wpAny (model prog w) A (richCompare .Lt (.int a t) (.int c u)) Q E s :=
  (PyProof.Rows.lt_int h : wpAny (model prog w) A (compareOp .Lt (.int a t) (.int c u)) Q E s)

section
open PySem.SeqAt
open PySem.AutoSeq1 (wpAny_loadPart')
open PySem.MeetsSeq PySem.MeetsSeq2 PySem.MeetsSeq3

theorem tuple_lt_ints (l b : Addr) (items items2 : Array Value) (n n2 : Nat) (dd dd2 : Option Addr) (sl sl2 : Array (Option Value)) (ns ms : List Int) (hi : IntsAre items.toList ns) (hj : IntsAre items2.toList ms) :
    Meets (Builtin.«tuple.__lt__» ⟨[.ref l, .ref b], []⟩)
      (fun _ R s => s.heap.get? l = some { cls := .type "tuple", dict := dd, data := .seq items n, slots := sl } ∧ s.heap.get? b = some { cls := .type "tuple", dict := dd2, data := .seq items2 n2, slots := sl2 } ∧
        R (.ok (.ret (.bool (lexLt ns ms)))) s) :=
  .of_wp fun prog w A R s h => by
    obtain ⟨hp, g, d, tk, os⟩ := s; obtain ⟨hl, hb, h⟩ := h
    have f2 := AutoSeq1.sub_tuple_tuple
    have z1 : items.size = ns.length := by rw [← hi.length]; simp
    have z2 : items2.size = ms.length := by rw [← hj.length]; simp
    wp_walk using wpAny_loadPart' hl, wpAny_loadPart' hb, wpAny_forIn_list _ (fun rest b s' => b.1 = none ∧ s' = ⟨hp, g, d, tk, os⟩ ∧ ∃ (vs ws : List Value) (ns' ms' : List Int), rest = vs.zip ws ∧
      IntsAre vs ns' ∧ IntsAre ws ms' ∧ ns'.length + items2.size = ms'.length + items.size ∧ R (.ok (.ret (.bool (lexLt ns' ms')))) ⟨hp, g, d, tk, os⟩) _
    case turn =>
      rintro ⟨y, x⟩ rest b s' ⟨hb', rfl, vs, ws, ns', ms', hz, hvi, hwi, hlen, hR⟩
      cases hvi with
      | nil => rw [List.zip_nil_left] at hz; cases hz
      | cons a t hvi' =>
        cases hwi with
        | nil => rw [List.zip_nil_right] at hz; cases hz
        | cons c u hwi' =>
          rw [List.zip_cons_cons] at hz
          injection hz with hyx hrest
          injection hyx with hy hx
          subst hy hx
          rw [lexLt_cons] at hR
          simp only [List.length_cons] at hlen
          obtain ⟨e, he, hiff⟩ := eqAt_int A.in1 ⟨hp, g, d, tk, os⟩ a t c u
          refine wpAny_bind (he prog w _ _ ?_)
          cases e with
          | true =>
            rw [if_pos (hiff.mp rfl)] at hR
            wp_walk
            exact ⟨rfl, rfl, _, _, _, _, hrest, hvi', hwi', by omega, hR⟩
          | false =>
            rw [if_neg (fun q => absurd (hiff.mpr q) Bool.false_ne_true)] at hR
            have hri := rcLt_int A.in1 ⟨hp, g, d, tk, os⟩ a t c u prog w
            wp_walk using hri
            exact ⟨_, rfl, by simpa using hR⟩
    case fin =>
      rintro ⟨b1, b2⟩ s' ⟨hb', rfl, vs, ws, ns', ms', hz, hvi, hwi, hlen, hR⟩
      simp only at hb'
      subst hb'
      have hv : lexLt ns' ms' = decide (items.size < items2.size) := by
        cases hvi with
        | nil =>
          cases hwi with
          | nil =>
            simp only [List.length_nil] at hlen
            rw [lexLt_nil_nil]
            exact (decide_eq_false (by omega)).symm
          | cons c u hw =>
            simp only [List.length_nil, List.length_cons] at hlen
            rw [lexLt_nil_cons]
            exact (decide_eq_true (by omega)).symm
        | cons a t hv =>
          cases hwi with
          | nil =>
            simp only [List.length_nil, List.length_cons] at hlen
            rw [lexLt_cons_nil]
            exact (decide_eq_false (by omega)).symm
          | cons c u hw =>
            rw [List.zip_cons_cons] at hz
            cases hz
      rw [hv] at hR
      wp_walk
      exact ⟨_, rfl, by simpa [Builtin.Tuple.tupleCompareSizes] using hR⟩
    case h =>
      exact ⟨rfl, rfl, items.toList, items2.toList, ns, ms, rfl, hi, hj, by omega, h⟩
end

section
variable {prog : Program} {w : World} {A : Around} {E : Value → Shared → Prop} {s : Shared}

theorem lt_tupInts {l b : Addr} {items items2 : Array Value} {ns ms : List Int} {Q : Value → Shared → Prop} (hl : IsTup s.heap l items) (hb : IsTup s.heap b items2) (hi : IntsAre items.toList ns) (hj : IntsAre items2.toList ms)
    (hu : A.units < cLine) (h : Q (.bool (lexLt ns ms)) s) : wpAny (model prog w) A (compareOp .Lt (.ref l) (.ref b)) Q E s := by
  obtain ⟨⟨cls, dd, data, sl⟩, ho, hc, n, hd⟩ := id hl
  obtain ⟨⟨cls2, dd2, data2, sl2⟩, ho2, hc2, n2, hd2⟩ := id hb
  simp only at hc hd hc2 hd2
  subst hc hd hc2 hd2
  exact richCompare_meets_room (op := .Lt) ⟨_, ho, rfl⟩ ⟨_, ho2, rfl⟩ PySem.F.slot_tuple_lt PySem.F.entry_tuple_lt (PySem.F.args_tuple_lt_2 _ _) (tuple_lt_ints l b items items2 n n2 dd dd2 sl sl2 ns ms hi hj)
    ⟨ho, ho2, show Value.bool (lexLt ns ms) ≠ Value.notImplemented ∧ Q (.bool (lexLt ns ms)) s from ⟨(fun x => nomatch x), h⟩⟩ hu

/-- t + u, t not empty -/
theorem cat_tup {t b : Addr} {vs ws : List Value} {Q : Value → Shared → Prop} (ht : IsTup s.heap t vs.toArray) (hb : IsTup s.heap b ws.toArray) (hv : vs ≠ [])
    (h1 : ws = [] → Q (.ref t) s) (h2 : ws ≠ [] → Q (.ref s.heap.objs.size) { s with heap := s.heap.push { cls := .type "tuple", data := .seq (vs ++ ws).toArray } })
    (hsz : vs.length + ws.length ≤ sizeLine) : wpAny (model prog w) A (binaryOp .Add (.ref t) (.ref b)) Q E s := by
  obtain ⟨⟨cls, dd, data, sl⟩, ho, hc, n, hd⟩ := id ht
  obtain ⟨⟨cls2, dd2, data2, sl2⟩, ho2, hc2, n2, hd2⟩ := id hb
  simp only at hc hd hc2 hd2
  subst hc hd hc2 hd2
  have e : vs.toArray ++ ws.toArray = (vs ++ ws).toArray := by simp
  by_cases hw : ws = []
  · exact concat_meets ⟨_, ho, rfl⟩ ⟨_, ho2, rfl⟩ noFill_tuple_add seq_tuple_add PySem.F.slot_tuple_add PySem.F.entry_tuple_add (PySem.F.args_tuple_add_2 _ _)
      (tuple_addW1 t b vs.toArray ws.toArray n n2 dd dd2 sl sl2 (by simpa using hv) (by simp [hw])) ⟨ho, ho2, h1 hw⟩
  · refine concat_meets ⟨_, ho, rfl⟩ ⟨_, ho2, rfl⟩ noFill_tuple_add seq_tuple_add PySem.F.slot_tuple_add PySem.F.entry_tuple_add (PySem.F.args_tuple_add_2 _ _)
      (tuple_addW2 t b vs.toArray ws.toArray n n2 dd dd2 sl sl2 (by simpa using hv) (by simpa using hw) (by rw [List.size_toArray, List.size_toArray]; exact hsz)) ⟨ho, ho2, ?_⟩
    rw [e]
    exact h2 hw

/-! ### t[a:b], not the whole -/
/-- a slice's bound as a place among n (d where it is left out) -/
def sIx (n d : Nat) : Option Int → Nat
  | none => d
  | some v => if v < 0 then (v + (n : Int)).toNat else min v.toNat n
theorem sIx_none (n d : Nat) : sIx n d none = d := rfl
theorem sIx_nat (n d k : Nat) : sIx n d (some (k : Int)) = min k n := by
  show (if (k : Int) < 0 then ((k : Int) + (n : Int)).toNat else min (k : Int).toNat n) = min k n
  rw [if_neg (by omega), Int.toNat_natCast]
theorem sIx_le (n d : Nat) (hd : d ≤ n) (o : Option Int) : sIx n d o ≤ n := by
  cases o with
  | none => exact hd
  | some v =>
    show (if v < 0 then (v + (n : Int)).toNat else min v.toNat n) ≤ n
    by_cases hv : v < 0
    · rw [if_pos hv]; omega
    · rw [if_neg hv]; exact Nat.min_le_right _ _
theorem clip_eq (v : Int) (n d : Nat) : (if v < 0 then max (v + (n : Int)) 0 else min v (n : Int)) = ((sIx n d (some v) : Nat) : Int) := by
  show (if v < 0 then max (v + (n : Int)) 0 else min v (n : Int)) = (((if v < 0 then (v + (n : Int)).toNat else min v.toNat n) : Nat) : Int)
  by_cases hv : v < 0
  · simp only [if_pos hv]; omega
  · simp only [if_neg hv]; omega
theorem adjust_gen (lo hi : Option Int) (n : Nat) : Builtin.Slice.sliceAdjust lo hi 1 (n : Int) = (((sIx n 0 lo : Nat) : Int), ((sIx n n hi : Nat) : Int)) := by
  have h1 : ¬ ((1 : Int) < 0) := by omega
  unfold Builtin.Slice.sliceAdjust
  simp only [h1, if_false]
  refine Prod.ext ?_ ?_
  · cases lo with
    | none => rfl
    | some v => exact clip_eq v n 0
  · cases hi with
    | none => rfl
    | some v => exact clip_eq v n n
theorem places_gen (i j : Nat) : Builtin.Slice.slicePlaces (i : Int) (j : Int) 1 = j - i := by
  unfold Builtin.Slice.slicePlaces
  have h1 : (1 : Int) > 0 := by omega
  simp only [h1, if_true, Int.ediv_one]
  split <;> omega
theorem slicePart_ {v : Value} {o : Option Int} {Q : Option Int → Shared → Prop} (p : IsPart v o) (h : Q o s) : wpAny (model prog w) A (Builtin.Slice.slicePartIndex v) Q E s := by
  cases p with
  | none => exact slicePart_none h
  | int i t => exact slicePart_int h
theorem sliceApplied_gen {sl : Addr} {vl vu : Value} {lo hi : Option Int} {n : Nat} {Q : Int × Int × Nat → Shared → Prop} (hs : s.heap.IsSliceOf sl vl vu .none) (pl : IsPart vl lo) (pu : IsPart vu hi)
    (h : Q (((sIx n 0 lo : Nat) : Int), 1, sIx n n hi - sIx n 0 lo) s) : wpAny (model prog w) A (Builtin.Slice.sliceApplied (.ref sl) (pure (n : Int))) Q E s := by
  obtain ⟨os, hos, hcs, hds⟩ := id hs
  unfold Builtin.Slice.sliceApplied Builtin.Slice.sliceFields
  refine wpAny_bind (wpAny_bind (wpAny_field hos hds (x := vl) rfl (wpAny_bind (wpAny_field hos hds (x := vu) rfl (wpAny_bind (wpAny_field hos hds (x := .none) rfl (wpAny_pure ?_)))))))
  refine wpAny_bind (slicePart_none ?_)
  show wpAny _ _ (if ((1 : Int) == 0) = true then _ else _) _ _ s
  rw [if_neg (by decide)]
  refine wpAny_bind (slicePart_ pl (wpAny_bind (slicePart_ pu (wpAny_bind (wpAny_pure ?_)))))
  show wpAny _ _ (match Builtin.Slice.sliceAdjust lo hi 1 (n : Int) with | (lo, hi) => pure (lo, (1 : Int), Builtin.Slice.slicePlaces lo hi 1)) _ _ s
  rw [adjust_gen lo hi n]
  show wpAny _ _ (pure (((sIx n 0 lo : Nat) : Int), (1 : Int), Builtin.Slice.slicePlaces ((sIx n 0 lo : Nat) : Int) ((sIx n n hi : Nat) : Int) 1)) _ _ s
  rw [places_gen]
  exact wpAny_pure h
theorem pick_gen (xs : Array Value) (i k : Nat) : ((List.range k).filterMap fun (m : Nat) => xs[((i : Int) + (m : Int) * 1).toNat]?).toArray = ((xs.toList.drop i).take k).toArray := by
  have e : (fun (m : Nat) => xs[((i : Int) + (m : Int) * 1).toNat]?) = fun m => xs[i + m]? := by
    funext m
    have : ((i : Int) + (m : Int) * 1).toNat = i + m := by omega
    rw [this]
  rw [e]
  have := pick_run xs i k
  rw [List.filterMap_map] at this
  have e2 : ((fun x => xs[x]?) ∘ fun x => i + x) = fun m => xs[i + m]? := rfl
  rw [e2] at this
  rw [this]

theorem getItem_tuple_cut {t sl : Addr} {items : Array Value} {vl vu : Value} {lo hi : Option Int} {Q : Value → Shared → Prop} (ht : IsTup s.heap t items) (hs : s.heap.IsSliceOf sl vl vu .none) (pl : IsPart vl lo) (pu : IsPart vu hi)
    (hw : ¬ (sIx items.size 0 lo = 0 ∧ sIx items.size items.size hi = items.size))
    (h : Q (.ref s.heap.objs.size) { s with heap := s.heap.push { cls := .type "tuple", data := .seq ((items.toList.drop (sIx items.size 0 lo)).take (sIx items.size items.size hi - sIx items.size 0 lo)).toArray } })
    (hsz : items.size ≤ sizeLine) : wpAny (model prog w) A (getItem (.ref t) (.ref sl)) Q E s := by
  have htake : sizeOk (.seq ((items.toList.drop (sIx items.size 0 lo)).take (sIx items.size items.size hi - sIx items.size 0 lo)).toArray) := by
    show ((items.toList.drop (sIx items.size 0 lo)).take (sIx items.size items.size hi - sIx items.size 0 lo)).toArray.size ≤ sizeLine
    rw [List.size_toArray, List.length_take, List.length_drop, Array.length_toList]
    omega
  have hj : sIx items.size items.size hi ≤ items.size := sIx_le _ _ (Nat.le_refl _) hi
  obtain ⟨os, hos, hcs, hds⟩ := id hs
  have hTs : s.TypeIs (.ref sl) "slice" := ⟨os, hos, hcs⟩
  unfold getItem
  try with_reducible refine wpAny_holding ?_
  first | refine wpAny_bind (wpAny_pure ?_) | skip
  refine wpAny_bind (wpAny_sequenceKey ht.typeIs (by decide) ?_)
  refine wpAny_bind (wpAny_callSpecial?_slot (name := Str.ofString "__getitem__") ht.typeIs PyProof.Rows.slot_tuple_getitem
    (wpAny_call_entry PyProof.Rows.slot_tuple_getitem ht.typeIs entry_tuple_getitem ?_ (args_tuple_getitem _ _)))
  show wpAny _ _ (Builtin.Tuple.tupleItemsOf (.ref t) >>= _) _ _ s
  refine wpAny_bind (tupleItemsOf_ ht ?_)
  refine wpAny_bind (wpAny_typeOf hTs ?_)
  rw [if_pos (by decide)]
  refine wpAny_bind (sliceApplied_gen hs pl pu ?_)
  have hno : ¬ ((((sIx items.size 0 lo : Nat) : Int) == 0 && (1 : Int) == 1 && (sIx items.size items.size hi - sIx items.size 0 lo) == items.size) = true) := by
    intro q
    rw [Bool.and_eq_true, Bool.and_eq_true] at q
    have q1 : ((sIx items.size 0 lo : Nat) : Int) = 0 := eq_of_beq q.1.1
    have q2 : sIx items.size items.size hi - sIx items.size 0 lo = items.size := eq_of_beq q.2
    exact hw ⟨by omega, by omega⟩
  show wpAny _ _ (if (((sIx items.size 0 lo : Nat) : Int) == 0 && (1 : Int) == 1 && (sIx items.size items.size hi - sIx items.size 0 lo) == items.size) = true then _ else _) _ _ s
  rw [if_neg hno, pick_gen]
  first
    | exact wpAny_bind (m := Builtin.Tuple.tupleExact _) (wpAny_newObj_type (wpAny_pure ⟨_, rfl, wpAny_pure h⟩) htake)
    | exact wpAny_bind (m := Builtin.Tuple.tupleExact _) (wpAny_newObj_type (wpAny_bind (wpAny_pure (wpAny_pure ⟨_, rfl, wpAny_pure h⟩))) htake)
    | exact wpAny_bind (wpAny_bind (m := Builtin.Tuple.tupleExact _) (wpAny_newObj_type (wpAny_pure (wpAny_pure ⟨_, rfl, wpAny_pure h⟩)) htake))
    | exact wpAny_bind (wpAny_bind (m := Builtin.Tuple.tupleExact _) (wpAny_newObj_type (wpAny_pure ⟨_, rfl, wpAny_pure h⟩) htake))
end
end HT

namespace L2
open PySem PySem.Spec PyProof.Rows

/-! ### the parts of a slice -/
abbrev TO := St → Hp → (Option Int → Hp → Prop) → Prop
/-- a slice's part (left out, or an int) -/
def PO (X : Cx) (e : Option Expr) (t : TO) : Prop :=
  ∀ (pins : List (Addr × Obj)) (s : Shared) (σ : St) (H : Hp) (Q : Option Int → Hp → Prop), Inv X pins σ H s → t σ H Q →
    wpAny (model X.prog X.w) X.A (evalPart e X.env) (fun u s' => ∃ o H', Inv X pins σ H' s' ∧ IsPart u o ∧ Q o H') X.xe s
def tNoPart : TO := fun _ H Q => Q none H
def tPart (t : TE) : TO := fun σ H Q => t σ H fun x H1 => ∃ i, x = .int i ∧ Q (some i) H1

theorem intsAre_of {ns : List Int} : ∀ {us : List Value}, Vals (ns.map V.int) us → IntsAre us ns := by
  induction ns with
  | nil => intro us r; rw [List.map_nil] at r; cases r; exact .nil
  | cons n ns ih =>
    intro us r
    rw [List.map_cons] at r
    cases r with
    | cons r1 r2 =>
      obtain ⟨t, e⟩ := r1
      subst e
      exact .cons n t (ih r2)

section
variable {X : Cx} {e : Expr} {te : TE} {lo hi : Option Expr} {tl th : TO} {pos p2 : Pos}

theorem po_none : PO X none tNoPart := by
  intro pins s σ H Q I h
  rw [evalPart_none]
  exact wpAny_pure ⟨none, H, I, .none, h⟩
theorem po_some (h : PE X e te) : PO X (some e) (tPart te) := by
  intro pins s σ H Q I hw
  rw [evalPart_some]
  refine thn (h pins s σ H _ I hw) fun u s1 ⟨x, H1, I1, r1, q1⟩ => ?_
  obtain ⟨i, rfl, q⟩ := q1
  obtain ⟨t, rfl⟩ := r1
  exact ⟨some i, H1, I1, .int i t, q⟩

/-- what a slice of a value is, by values: the slice object stands at sl -/
def SlR (X : Cx) (r : V → Option Int → Option Int → Hp → VK → Prop) : Prop :=
  ∀ (pins : List (Addr × Obj)) (s : Shared) (σ : St) (H : Hp) (x : V) (v vl vu : Value) (lo hi : Option Int) (sl : Addr) (Q : VK), Inv X pins σ H s → RelV x v → s.heap.IsSliceOf sl vl vu .none → IsPart vl lo → IsPart vu hi → r x lo hi H Q →
    ∃ T id, typeLookup (.type T) "__getitem__" = pure (some (.builtin id)) ∧ s.TypeIs v T ∧ wpAny (model X.prog X.w) X.A (getItem v (.ref sl)) (EP X pins σ Q) X.xe s
theorem SlR.or {r r' : V → Option Int → Option Int → Hp → VK → Prop} (h : SlR X r) (h' : SlR X r') : SlR X (fun x lo hi H Q => r x lo hi H Q ∨ r' x lo hi H Q) := by
  intro pins s σ H x v vl vu lo hi sl Q I rx hs pl pu q
  rcases q with q | q
  · exact h pins s σ H x v vl vu lo hi sl Q I rx hs pl pu q
  · exact h' pins s σ H x v vl vu lo hi sl Q I rx hs pl pu q
def tSl (r : V → Option Int → Option Int → Hp → VK → Prop) (te : TE) (tl th : TO) : TE := fun σ H Q => te σ H fun x H1 => tl σ H1 fun l H2 => th σ H2 fun u H3 => r x l u H3 Q
/-- a[lo:hi], any a -/
theorem pe_slice {r : V → Option Int → Option Int → Hp → VK → Prop} (hr : SlR X r) (he : PE X e te) (hl : PO X lo tl) (hu : PO X hi th) : PE X (.Subscript e (.Slice lo hi none p2) pos) (tSl r te tl th) := by
  intro pins s σ H Q I h
  refine Subscript_ (thn (he pins s σ H _ I h) fun v s1 ⟨x, H1, I1, r1, q1⟩ => ?_)
  refine wpAny_Slice (thn (hl pins s1 σ H1 _ I1 q1) fun vl s2 ⟨l, H2, I2, pl, q2⟩ => thn (hu pins s2 σ H2 _ I2 q2) fun vu s3 ⟨u, H3, I3, pu, q3⟩ => ?_)
  rw [evalPart_none]
  refine wpAny_pure ?_
  have I4 : Inv X pins σ H3 { s3 with heap := s3.heap.push { cls := .type "slice", data := .fields #[vl, vu, .none] } } := I3.kept (t' := s3.toks) fun b ob q => Heap.get?_push_of_some _ q
  obtain ⟨T, id, hT, ht, hg⟩ := hr pins { s3 with heap := s3.heap.push { cls := .type "slice", data := .fields #[vl, vu, .none] } } σ H3 x v vl vu l u s3.heap.objs.size Q I4 r1 (Heap.IsSliceOf.new ..) pl pu q3
  show wpAny (model X.prog X.w) X.A (subscriptTail e (.Slice lo hi none p2) v (.ref s3.heap.objs.size)) (EP X pins σ Q) X.xe { s3 with heap := s3.heap.push { cls := .type "slice", data := .fields #[vl, vu, .none] } }
  exact tail_any (ops := [.ref s3.heap.objs.size, v]) ht hT hg (by with_unfolding_all rfl)

/-- the items of xs[lo:hi] -/
def cutV (xs : List V) (lo hi : Option Int) : List V := (xs.drop (HT.sIx xs.length 0 lo)).take (HT.sIx xs.length xs.length hi - HT.sIx xs.length 0 lo)
theorem cutV_length (xs : List V) (lo hi : Option Int) : (cutV xs lo hi).length ≤ xs.length := by
  unfold cutV
  rw [List.length_take, List.length_drop]
  omega
/-- t[lo:hi], not the whole of it (the whole would be t itself) -/
def rSlT (K : PySem.W.Frag) : V → Option Int → Option Int → Hp → VK → Prop := fun x lo hi H Q => ∃ a xs, x = .ref a ∧ SqT K H a xs ∧
  ¬ (HT.sIx xs.length 0 lo = 0 ∧ HT.sIx xs.length xs.length hi = xs.length) ∧ ∀ p, H p = none → Q (.ref p) (upd H p (.tup (cutV xs lo hi)))
theorem sl_tup : SlR X (rSlT X.K) := by
  intro pins s σ H x v vl vu lo hi sl Q I rx hs pl pu h
  obtain ⟨a, xs, rfl, hx, hw, q⟩ := h
  cases rx
  obtain ⟨its, r, ht, hz⟩ := I.tuple hx
  have hlen : its.toArray.size = xs.length := by rw [List.size_toArray]; exact r.length.symm
  refine ⟨"tuple", _, PyProof.Rows.slot_tuple_getitem.lookup, ht.typeIs, ?_⟩
  refine HT.getItem_tuple_cut ht hs pl pu (by rw [hlen]; exact hw) ?_ (by rw [hlen]; exact hz)
  rw [hlen]
  refine ⟨.ref s.heap.objs.size, _, I.laid (t' := s.toks) (o := .tup (cutV xs lo hi)) (fun b ob q => Heap.get?_push_of_some _ q) (Nat.le_refl _) ?_, rfl, q _ (I.hok.fresh (Nat.le_refl _))⟩
  exact ⟨Nat.le_trans (cutV_length xs lo hi) hz, _, (r.drop (HT.sIx xs.length 0 lo)).take (HT.sIx xs.length xs.length hi - HT.sIx xs.length 0 lo), IsTup.new _ _⟩

/-! ### t < u, t + u -/
def rLtT (K : PySem.W.Frag) : R2 := fun x y H Q => ∃ a b ns ms, x = .ref a ∧ y = .ref b ∧ SqT K H a (ns.map V.int) ∧ SqT K H b (ms.map V.int) ∧ Q (.bl (HT.lexLt ns ms)) H
theorem op_ltT (hu : X.A.units < cLine) : OpR X (compareOp .Lt) (rLtT X.K) := by
  intro pins s σ H x y v u Q I rx ry h
  obtain ⟨a, b, ns, ms, rfl, rfl, ha, hb, q⟩ := h
  cases rx
  cases ry
  obtain ⟨its, r1, p1, _⟩ := I.tuple ha
  obtain ⟨its2, r2, p2, _⟩ := I.tuple hb
  have i1 : IntsAre its.toArray.toList ns := intsAre_of r1
  have i2 : IntsAre its2.toArray.toList ms := intsAre_of r2
  exact HT.lt_tupInts p1 p2 i1 i2 hu ⟨.bl (HT.lexLt ns ms), H, I, rfl, q⟩
/-- t + u, t not empty: u empty gives t itself -/
def rCatT (K : PySem.W.Frag) : R2 := fun x y H Q => ∃ a b xs ys, x = .ref a ∧ y = .ref b ∧ SqT K H a xs ∧ SqT K H b ys ∧ xs ≠ [] ∧ xs.length + ys.length ≤ sizeLine ∧
  (ys = [] → Q (.ref a) H) ∧ (ys ≠ [] → ∀ p, H p = none → Q (.ref p) (upd H p (.tup (xs ++ ys))))
theorem Vals.nil_iff {xs : List V} {us : List Value} (r : Vals xs us) : us = [] ↔ xs = [] := by
  cases r with
  | nil => simp
  | cons _ _ => simp
theorem op_catT : OpR X (binaryOp .Add) (rCatT X.K) := by
  intro pins s σ H x y v u Q I rx ry h
  obtain ⟨a, b, xs, ys, rfl, rfl, ha, hb, hx, hz, q1, q2⟩ := h
  cases rx
  cases ry
  obtain ⟨its, r1, p1, _⟩ := I.tuple ha
  obtain ⟨its2, r2, p2, _⟩ := I.tuple hb
  refine HT.cat_tup p1 p2 (fun z => hx (r1.nil_iff.mp z)) (fun z => ⟨.ref a, H, I, rfl, q1 (r2.nil_iff.mp z)⟩) (fun z => ?_) (by rw [← r1.length, ← r2.length]; exact hz)
  refine ⟨.ref s.heap.objs.size, _, I.laid (t' := s.toks) (o := .tup (xs ++ ys)) (fun b ob q => Heap.get?_push_of_some _ q) (Nat.le_refl _) ?_, rfl, q2 (fun w => z (r2.nil_iff.mpr w)) _ (I.hok.fresh (Nat.le_refl _))⟩
  exact ⟨by rw [List.length_append]; exact hz, _, r1.append r2, IsTup.new _ _⟩
/-- tuple(t) -/
theorem call_tupleT : CallR X (.type "tuple") (fun xs H Q => ∃ a ys, xs = [.ref a] ∧ SqT X.K H a ys ∧ Q (.ref a) H) := by
  intro pins s σ H xs us Q I r h
  obtain ⟨a, ys, rfl, ha, q⟩ := h
  obtain ⟨u, rfl, ru⟩ := vals1 r
  cases ru
  obtain ⟨its, _, p1, _⟩ := I.tuple ha
  exact call_tuple_same (items := its.toArray) p1 ⟨.ref a, H, I, rfl, q⟩
end
end L2

namespace L2
open PySem PySem.Spec PyProof.Rows

/-! ### places -/
/-- the place that an index of any sign means -/
def ixN (n : Nat) (i : Int) : Option Nat := if 0 ≤ i then (if i < n then some i.toNat else none) else if -(n : Int) ≤ i then some (i + n).toNat else none
def atI {α : Type} (xs : List α) (i : Int) : Option α := (ixN xs.length i).bind fun j => xs[j]?
theorem ixN_seq {n : Nat} {i : Int} {j : Nat} (h : ixN n i = some j) : seqIndex? i n = some j ∧ j < n ∧ -(n : Int) ≤ i ∧ i < n := by
  unfold ixN at h
  by_cases h0 : 0 ≤ i
  · rw [if_pos h0] at h
    by_cases h1 : i < n
    · rw [if_pos h1] at h
      have e : i.toNat = j := Option.some.inj h
      exact ⟨by rw [seqIndex_of h0 h1, e], by omega, by omega, h1⟩
    · rw [if_neg h1] at h; cases h
  · rw [if_neg h0] at h
    by_cases h1 : -(n : Int) ≤ i
    · rw [if_pos h1] at h
      have e : (i + n).toNat = j := Option.some.inj h
      exact ⟨by rw [seqIndex_neg (by omega) h1, e], by omega, h1, by omega⟩
    · rw [if_neg h1] at h; cases h
theorem atI_get {α : Type} {xs : List α} {i : Int} {v : α} (h : atI xs i = some v) : ∃ j, seqIndex? i xs.length = some j ∧ xs[j]? = some v ∧ j < xs.length ∧ -(xs.length : Int) ≤ i ∧ i < xs.length := by
  unfold atI at h
  cases e : ixN xs.length i with
  | none => rw [e] at h; cases h
  | some j =>
    rw [e] at h
    obtain ⟨h1, h2, h3, h4⟩ := ixN_seq e
    exact ⟨j, h1, h, h2, h3, h4⟩
theorem atI_nat {α : Type} {xs : List α} {j : Nat} {v : α} (h : xs[j]? = some v) : atI xs (j : Int) = some v := by
  have hj : j < xs.length := (List.getElem?_eq_some_iff.mp h).1
  have e : ixN xs.length (j : Int) = some j := by
    unfold ixN
    rw [if_pos (by omega), if_pos (by omega)]; simp
  unfold atI; rw [e]; exact h
theorem atI_last {α : Type} (xs : List α) (v : α) : atI (xs ++ [v]) (-1) = some v := by
  have hl : (xs ++ [v]).length = xs.length + 1 := by simp
  have e : ixN (xs ++ [v]).length (-1) = some xs.length := by
    unfold ixN
    rw [hl, if_neg (by decide), if_pos (by omega)]
    congr 1
    omega
  unfold atI
  rw [e]
  show (xs ++ [v])[xs.length]? = some v
  simp

/-! ### what may be subscripted -/
/-- what stands as an index of a plain subscript -/
def PlainIx (b : Expr) : Prop := ∀ o i, subscripted b false o i = operate [o, i] (getItem o i)
/-- a subscript by values -/
def IxR (X : Cx) (r : R2) : Prop :=
  ∀ (value slice : Expr) (pins : List (Addr × Obj)) (s : Shared) (σ : St) (H : Hp) (x y : V) (v u : Value) (Q : VK), Inv X pins σ H s → RelV x v → RelV y u → r x y H Q →
    subscripted slice false v u = operate [v, u] (getItem v u) → wpAny (model X.prog X.w) X.A (subscriptTail value slice v u) (EP X pins σ Q) X.xe s
/-- a call of a builtin's method by values: the receiver, the arguments -/
def MtR (X : Cx) (id : String) (r : V → List V → Hp → VK → Prop) : Prop :=
  ∀ (pins : List (Addr × Obj)) (s : Shared) (σ : St) (H : Hp) (x : V) (xs : List V) (v : Value) (us : List Value) (Q : VK), Inv X pins σ H s → RelV x v → Vals xs us → r x xs H Q →
    wpAny (model X.prog X.w) X.A (call (.builtin id) (v :: us)) (EP X pins σ Q) X.xe s
section
variable {X : Cx} {a b : Expr} {ta tb : TE} {pos : Pos}
theorem IxR.or {r r' : R2} (h : IxR X r) (h' : IxR X r') : IxR X (fun x y H Q => r x y H Q ∨ r' x y H Q) := by
  intro value slice pins s σ H x y v u Q I rx ry q hs
  rcases q with q | q
  · exact h value slice pins s σ H x y v u Q I rx ry q hs
  · exact h' value slice pins s σ H x y v u Q I rx ry q hs
theorem MtR.or {id : String} {r r' : V → List V → Hp → VK → Prop} (h : MtR X id r) (h' : MtR X id r') : MtR X id (fun x xs H Q => r x xs H Q ∨ r' x xs H Q) := by
  intro pins s σ H x xs v us Q I rx rs q
  rcases q with q | q
  · exact h pins s σ H x xs v us Q I rx rs q
  · exact h' pins s σ H x xs v us Q I rx rs q
/-- a[b] -/
theorem pe_ix {r : R2} (hr : IxR X r) (ha : PE X a ta) (hb : PE X b tb) (hs : PlainIx b) : PE X (.Subscript a b pos) (tOp r ta tb) := by
  intro pins s σ H Q I h
  exact Subscript_ (binT ha hb I h fun v u s2 x y H2 I2 rx ry q => hr a b pins s2 σ H2 x y v u Q I2 rx ry q (hs _ _))

def rIxL (K : PySem.W.Frag) : R2 := fun x y H Q => ∃ p xs i v, x = .ref p ∧ y = .int i ∧ SqL K H p xs ∧ atI xs i = some v ∧ Q v H
def rIxT (K : PySem.W.Frag) : R2 := fun x y H Q => ∃ p xs i v, x = .ref p ∧ y = .int i ∧ SqT K H p xs ∧ atI xs i = some v ∧ Q v H
def rIxS : R2 := fun x y H Q => ∃ z i c, x = .str z ∧ y = .int i ∧ z.length ≤ sizeLine ∧ atI z.cps.toList i = some c ∧ Q (.str ⟨#[c]⟩) H
theorem ix_list : IxR X (rIxL X.K) := by
  intro value slice pins s σ H x y v u Q I rx ry h hs
  obtain ⟨p, xs, i, z, rfl, rfl, hq, he, q⟩ := h
  cases rx
  obtain ⟨t, rfl⟩ := ry
  obtain ⟨its, r, pl, hz⟩ := I.list hq
  obtain ⟨j, h1, h2, h3, h4, h5⟩ := atI_get he
  obtain ⟨w, ew, rw'⟩ := r.get h2
  have hl := r.length
  have hn := line63
  have fin : EP X pins σ Q w s := ⟨z, H, I, rw', q⟩
  by_cases h0 : 0 ≤ i
  · have hj : i.toNat = j := by
      rw [seqIndex_of h0 h5] at h1
      exact Option.some.inj h1
    exact item_listR pl.isList h0 (by omega) (by rw [hj]; simpa using ew) fin hs
  · have hj : (i + (its.toArray.size : Int)).toNat = j := by
      rw [seqIndex_neg (by omega) h4] at h1
      rw [List.size_toArray, ← hl]
      exact Option.some.inj h1
    exact subscriptTail_builtinR (x := w) pl.isList.typeIs slot_list_getitem.lookup
      (wpAny_getItem_list_neg (Q := fun r s' => r = w ∧ EP X pins σ Q r s') pl.isList (by omega) (by rw [List.size_toArray] <;> omega) (by omega) (by rw [hj]; simpa using ew) ⟨rfl, fin⟩) hs
theorem ix_tup : IxR X (rIxT X.K) := by
  intro value slice pins s σ H x y v u Q I rx ry h hs
  obtain ⟨p, xs, i, z, rfl, rfl, hq, he, q⟩ := h
  cases rx
  obtain ⟨t, rfl⟩ := ry
  obtain ⟨its, r, pl, hz⟩ := I.tuple hq
  obtain ⟨j, h1, h2, h3, h4, h5⟩ := atI_get he
  obtain ⟨w, ew, rw'⟩ := r.get h2
  have hl := r.length
  have hn := line63
  have fin : EP X pins σ Q w s := ⟨z, H, I, rw', q⟩
  exact subscriptTail_builtinR (x := w) pl.typeIs slot_tuple_getitem.lookup
    (getItem_tuple (j := j) (Q := fun r s' => r = w ∧ EP X pins σ Q r s') pl (by omega) (by omega) (by rw [List.size_toArray, ← hl]; exact h1) (by simpa using ew) ⟨rfl, fin⟩) hs
theorem ix_str : IxR X rIxS := by
  intro value slice pins s σ H x y v u Q I rx ry h hs
  obtain ⟨z, i, c, rfl, rfl, hz, he, q⟩ := h
  obtain ⟨t, rfl⟩ := rx
  obtain ⟨t', rfl⟩ := ry
  obtain ⟨j, h1, h2, h3, h4, h5⟩ := atI_get he
  have hl : z.cps.toList.length = z.length := by simp [Str.length]
  rw [hl] at h1 h4 h5
  have hn := line63
  exact tail_any (typeIs_str s z t) slot_str_getitem.lookup (getItem_str (c := c) (by
    have e1 : decide (i < -(2 ^ 63 : Int)) = false := decide_eq_false (by omega)
    have e2 : decide (i ≥ 2 ^ 63) = false := decide_eq_false (by omega)
    rw [e1, e2, Bool.or_false]) (by rw [h1]; simpa using h2) ⟨.str ⟨#[c]⟩, H, I.tok _, ⟨_, rfl⟩, q⟩) hs
/-- list, tuple or str -/
def rIx (K : PySem.W.Frag) : R2 := fun x y H Q => rIxL K x y H Q ∨ rIxT K x y H Q ∨ rIxS x y H Q
theorem ix_seq : IxR X (rIx X.K) := ix_list.or (ix_tup.or ix_str)

/-! ### xs[i] = v, any sign -/
/-- the list's object behind a store -/
theorem mapSeq_set (its : List Value) (n j : Nat) (u : Value) : Obj.mapSeq (·.setIfInBounds j u) { cls := .type "list", data := .seq its.toArray n } = { cls := .type "list", data := .seq (its.set j u).toArray n } := by
  simp [Obj.mapSeq]
theorem Inv.lst {pins : List (Addr × Obj)} {σ : St} {H : Hp} {s : Shared} {p : Addr} {xs : List V} (I : Inv X pins σ H s) (h : H p = some (.lst xs)) :
    ∃ (its : List Value) (n : Nat), Vals xs its ∧ s.heap.get? p = some { cls := .type "list", data := .seq its.toArray n } ∧ xs.length ≤ sizeLine := by
  obtain ⟨z, its, n, r, e⟩ := I.hok p _ h
  exact ⟨its, n, r, e, z⟩
/-- the list at p is written by an update of its object -/
theorem Inv.lstUpd {pins : List (Addr × Obj)} {σ : St} {H : Hp} {s : Shared} {p : Addr} {xs ys : List V} {its its' : List Value} {n n' : Nat} {f : Obj → Obj} (I : Inv X pins σ H s) (h : H p = some (.lst xs))
    (ho : s.heap.get? p = some { cls := .type "list", data := .seq its.toArray n }) (hf : f { cls := .type "list", data := .seq its.toArray n } = { cls := .type "list", data := .seq its'.toArray n' }) (r : Vals ys its') (hz : ys.length ≤ sizeLine) (t : Nat) :
    Inv X pins σ (upd H p (.lst ys)) { s with heap := s.heap.update p f, toks := t } := by
  have e : (s.heap.update p f).get? p = some { cls := .type "list", data := .seq its'.toArray n' } := by
    rw [Heap.get?_update_self f ho (by rw [hf] <;> rfl), hf]
  refine I.write (x := p) (e := p) (by rw [h]; trivial) (.inl rfl) (fun b u hb q => (Heap.get?_update_other _ _ (Ne.symm hb)).trans q) ⟨_, e⟩ ?_
  exact ⟨hz, its', n', r, e⟩
def rSetL : V → V → V → Hp → (Hp → Prop) → Prop := fun o i v H Q => ∃ p xs k j, o = .ref p ∧ i = .int k ∧ H p = some (.lst xs) ∧ ixN xs.length k = some j ∧ Q (upd H p (.lst (xs.set j v)))
theorem set_list : PSet X rSetL := by
  intro pins s σ H o i v ov iv u Q I ro ri rv h
  obtain ⟨p, xs, k, j, rfl, rfl, hp, hj, q⟩ := h
  cases ro
  obtain ⟨t, rfl⟩ := ri
  obtain ⟨its, n, r, ho, hz⟩ := I.lst hp
  obtain ⟨h1, h2, h3, h4⟩ := ixN_seq hj
  have hl := r.length
  have hn := line63
  have I' : Inv X pins σ (upd H p (.lst (xs.set j v))) { s with heap := s.heap.update p (Obj.mapSeq (·.setIfInBounds j u)) } :=
    I.lstUpd hp ho (mapSeq_set its n j u) (r.set rv j) (by rw [List.length_set]; exact hz) s.toks
  by_cases h0 : 0 ≤ k
  · have hk : k.toNat = j := by
      rw [seqIndex_of h0 h4] at h1
      exact Option.some.inj h1
    exact PySem.W.ki_setAt ho h0 (by omega) (by rw [List.size_toArray, ← hl]; exact h4) (by rw [hk]; exact ⟨_, I', q⟩)
  · have hk : (k + (its.toArray.size : Int)).toNat = j := by
      rw [seqIndex_neg (by omega) h3] at h1
      rw [List.size_toArray, ← hl]
      exact Option.some.inj h1
    exact PySem.W.ki_setBack ho (by omega) (by rw [List.size_toArray, ← hl]; exact h3) (by omega) (by rw [hk]; exact ⟨_, I', q⟩)

/-! ### slices -/
theorem slice_bounds (lo hi : Option Int) (n : Nat) : (sliceBounds lo hi none n).1 = ((HT.sIx n 0 lo : Nat) : Int) ∧ (sliceBounds lo hi none n).2.1 = ((HT.sIx n n hi : Nat) : Int) ∧ (sliceBounds lo hi none n).2.2 = 1 := by
  refine ⟨?_, ?_, rfl⟩
  · cases lo with
    | none => simp [sliceBounds, HT.sIx]
    | some i =>
      simp only [sliceBounds, HT.sIx, Option.getD_none, show (1 : Int) > 0 by decide, if_true]
      by_cases h : i < 0
      · simp only [h, if_true] <;> omega
      · simp only [h, if_false] <;> omega
  · cases hi with
    | none => simp [sliceBounds, HT.sIx]
    | some i =>
      simp only [sliceBounds, HT.sIx, Option.getD_none, show (1 : Int) > 0 by decide, if_true]
      by_cases h : i < 0
      · simp only [h, if_true] <;> omega
      · simp only [h, if_false] <;> omega
theorem slicePick_cut (its : List Value) (lo hi : Option Int) : slicePick its.toArray lo hi none = ((its.drop (HT.sIx its.length 0 lo)).take (HT.sIx its.length its.length hi - HT.sIx its.length 0 lo)).toArray := by
  obtain ⟨h1, h2, h3⟩ := slice_bounds lo hi its.toArray.size
  unfold slicePick
  rw [h1, h2, h3]
  simp only [sliceRange_one, pick_run, List.size_toArray] <;> rfl
/-- xs[lo:hi] of a list: a new list -/
def rSlL (K : PySem.W.Frag) : V → Option Int → Option Int → Hp → VK → Prop := fun x lo hi H Q => ∃ a xs, x = .ref a ∧ SqL K H a xs ∧ ∀ p, H p = none → Q (.ref p) (upd H p (.lst (cutV xs lo hi)))
theorem sl_list : SlR X (rSlL X.K) := by
  intro pins s σ H x v vl vu lo hi sl Q I rx hs pl pu h
  obtain ⟨a, xs, rfl, hx, q⟩ := h
  cases rx
  obtain ⟨its, r, ht, hz⟩ := I.list hx
  have hlen := r.length
  refine ⟨"list", _, slot_list_getitem.lookup, ht.isList.typeIs, ?_⟩
  refine wpAny_getItem_list_slice ht.isList hs pl pu .none (by simp) ?_ (by rw [List.size_toArray] <;> omega)
  rw [slicePick_cut, ← hlen]
  refine ⟨.ref s.heap.objs.size, _, I.laid (t' := s.toks) (o := .lst (cutV xs lo hi)) (fun b ob q => Heap.get?_push_of_some _ q) (Nat.le_refl _) ?_, rfl, q _ (I.hok.fresh (Nat.le_refl _))⟩
  exact ⟨Nat.le_trans (cutV_length xs lo hi) hz, _, 0, (r.drop (HT.sIx xs.length 0 lo)).take (HT.sIx xs.length xs.length hi - HT.sIx xs.length 0 lo), Heap.get?_push_size _ rfl⟩

/-! ### in, not in: flat items -/
def flatV : V → Bool
  | .non => true
  | .bl _ => true
  | .int _ => true
  | .str _ => true
  | _ => false
/-- == of flat values -/
def eqV : V → V → Bool
  | .non, .non => true
  | .bl a, .bl b => a == b
  | .bl a, .int b => (if a then 1 else 0) == b
  | .int a, .bl b => a == (if b then 1 else 0)
  | .int a, .int b => a == b
  | .str a, .str b => a == b
  | _, _ => false
theorem eqAt_V {A : Around} {s : Shared} {y x : V} {u v : Value} (ry : RelV y u) (rx : RelV x v) (fy : flatV y = true) (fx : flatV x = true) : SeqAt.EqAt A s u v (eqV y x) := by
  cases y with
  | non =>
    cases ry
    cases x with
    | non => cases rx; exact SeqAt.EqAt.same _
    | bl b => cases rx; exact SeqAt.EqAt.none_bool b
    | int b => obtain ⟨t, rfl⟩ := rx; exact SeqAt.EqAt.none_int b t
    | str b => obtain ⟨t, rfl⟩ := rx; exact SeqAt.EqAt.none_str b t
    | _ => exact absurd (show false = true from fx) Bool.false_ne_true
  | bl a =>
    cases ry
    cases x with
    | non => cases rx; exact SeqAt.EqAt.bool_none a
    | bl b => cases rx; exact SeqAt.EqAt.bool_bool a b
    | int b => obtain ⟨t, rfl⟩ := rx; exact SeqAt.EqAt.bool_int a b t
    | str b => obtain ⟨t, rfl⟩ := rx; exact SeqAt.EqAt.bool_str a b t
    | _ => exact absurd (show false = true from fx) Bool.false_ne_true
  | int a =>
    obtain ⟨t', rfl⟩ := ry
    cases x with
    | non => cases rx; exact SeqAt.EqAt.int_none a t'
    | bl b => cases rx; exact SeqAt.EqAt.int_bool a t' b
    | int b => obtain ⟨t, rfl⟩ := rx; exact SeqAt.EqAt.int_int a t' b t
    | str b => obtain ⟨t, rfl⟩ := rx; exact SeqAt.EqAt.int_str a t' b t
    | _ => exact absurd (show false = true from fx) Bool.false_ne_true
  | str a =>
    obtain ⟨t', rfl⟩ := ry
    cases x with
    | non => cases rx; exact SeqAt.EqAt.str_none a t'
    | bl b => cases rx; exact SeqAt.EqAt.str_bool a t' b
    | int b => obtain ⟨t, rfl⟩ := rx; exact SeqAt.EqAt.str_int a t' b t
    | str b => obtain ⟨t, rfl⟩ := rx; exact SeqAt.EqAt.str_str a t' b t
    | _ => exact absurd (show false = true from fx) Bool.false_ne_true
  | _ => exact absurd (show false = true from fy) Bool.false_ne_true
/-- the items' answers, read off the values (a value's own answer does not lean on its token) -/
def eqU (x : V) (u : Value) : Bool := match u with
  | .none => eqV .non x
  | .bool b => eqV (.bl b) x
  | .int i _ => eqV (.int i) x
  | .str z _ => eqV (.str z) x
  | _ => false
theorem eqU_of {x y : V} {u : Value} (r : RelV y u) (f : flatV y = true) : eqU x u = eqV y x := by
  cases y with
  | non => cases r; rfl
  | bl b => cases r; rfl
  | int i => obtain ⟨t, rfl⟩ := r; rfl
  | str z => obtain ⟨t, rfl⟩ := r; rfl
  | _ => exact absurd (show false = true from f) Bool.false_ne_true
theorem any_eqU {x : V} : ∀ {xs : List V} {us : List Value}, Vals xs us → xs.all flatV = true → us.any (eqU x) = xs.any fun y => eqV y x
  | _, _, .nil, _ => rfl
  | y :: xs, u :: us, .cons r t, f => by
    rw [List.all_cons, Bool.and_eq_true] at f
    rw [List.any_cons, List.any_cons, eqU_of r f.1, any_eqU t f.2]
theorem mem_eqAt {A : Around} {s : Shared} {x : V} {v : Value} (rx : RelV x v) (fx : flatV x = true) : ∀ {xs : List V} {us : List Value}, Vals xs us → xs.all flatV = true → ∀ u ∈ us, SeqAt.EqAt A s u v (eqU x u)
  | _, _, .nil, _ => fun u hu => by cases hu
  | y :: xs, u :: us, .cons r t, f => fun u' hu => by
    rw [List.all_cons, Bool.and_eq_true] at f
    rcases List.mem_cons.mp hu with rfl | hu
    · rw [eqU_of r f.1]; exact eqAt_V r rx f.1 fx
    · exact mem_eqAt rx fx t f.2 u' hu
def inV (x : V) (xs : List V) : Bool := xs.any fun y => eqV y x
/-- x in a list or tuple of flat items -/
def rIn (K : PySem.W.Frag) (neg : Bool) : R2 := fun x y H Q => ∃ p xs, y = .ref p ∧ (SqL K H p xs ∨ SqT K H p xs) ∧ flatV x = true ∧ xs.all flatV = true ∧ Q (.bl (if neg then !inV x xs else inV x xs)) H
theorem op_in_seq : OpR X (compareOp .In) (rIn X.K false) := by
  intro pins s σ H x y v u Q I rx ry h
  obtain ⟨p, xs, rfl, hq, fx, fs, q⟩ := h
  cases ry
  rcases hq with hq | hq
  · obtain ⟨its, r, pl, hz⟩ := I.list hq
    refine SeqAt.in_listAt (eqU x) pl.isList (fun w hw => mem_eqAt rx fx r fs w (by simpa using hw)) ⟨.bl _, H, I, rfl, ?_⟩
    rw [show its.toArray.any (eqU x) = its.any (eqU x) by simp, any_eqU r fs]
    exact q
  · obtain ⟨its, r, pl, hz⟩ := I.tuple hq
    refine SeqAt.in_tupleAt (eqU x) pl (fun w hw => mem_eqAt rx fx r fs w (by simpa using hw)) ⟨.bl _, H, I, rfl, ?_⟩
    rw [show its.toArray.any (eqU x) = its.any (eqU x) by simp, any_eqU r fs]
    exact q
theorem op_notIn_seq : OpR X (compareOp .NotIn) (rIn X.K true) := by
  intro pins s σ H x y v u Q I rx ry h
  obtain ⟨p, xs, rfl, hq, fx, fs, q⟩ := h
  cases ry
  rcases hq with hq | hq
  · obtain ⟨its, r, pl, hz⟩ := I.list hq
    refine SeqAt.notIn_listAt (eqU x) pl.isList (fun w hw => mem_eqAt rx fx r fs w (by simpa using hw)) ⟨.bl _, H, I, rfl, ?_⟩
    rw [show its.toArray.any (eqU x) = its.any (eqU x) by simp, any_eqU r fs]
    exact q
  · obtain ⟨its, r, pl, hz⟩ := I.tuple hq
    refine SeqAt.notIn_tupleAt (eqU x) pl (fun w hw => mem_eqAt rx fx r fs w (by simpa using hw)) ⟨.bl _, H, I, rfl, ?_⟩
    rw [show its.toArray.any (eqU x) = its.any (eqU x) by simp, any_eqU r fs]
    exact q
theorem op_notIn_str : OpR X (compareOp .NotIn) (fun x y H Q => ∃ i j, x = .str i ∧ y = .str j ∧ Q (.bl (!(!(Builtin.Str.occurrences j i 0 j.length 1).isEmpty))) H) := by
  intro pins s σ H x y v u Q I rx ry h
  obtain ⟨i, j, rfl, rfl, q⟩ := h
  obtain ⟨t, rfl⟩ := rx
  obtain ⟨t', rfl⟩ := ry
  exact notIn_str ⟨.bl _, H, I, rfl, q⟩

/-! ### len, list(x), tuple(x) of any list or tuple that is read -/
theorem call_len_seq : CallR X (.builtin "len") (fun xs H Q => ∃ p ys, xs = [.ref p] ∧ (SqL X.K H p ys ∨ SqT X.K H p ys) ∧ Q (.int ys.length) H) := by
  intro pins s σ H xs us Q I r h
  obtain ⟨p, ys, rfl, hq, q⟩ := h
  obtain ⟨u, rfl, rx⟩ := vals1 r
  cases rx
  have hn := line63
  rcases hq with hq | hq
  · obtain ⟨its, r', pl, hz⟩ := I.list hq
    have hlen := r'.length
    exact Calls.call_len_list pl.isList (by simp only [List.size_toArray] <;> omega) ⟨.int ys.length, H, I.tok _, ⟨s.toks + 1, by rw [List.size_toArray, hlen]⟩, q⟩
  · obtain ⟨its, r', pl, hz⟩ := I.tuple hq
    have hlen := r'.length
    exact len_tuple pl (by simp only [List.size_toArray] <;> omega) ⟨.int ys.length, H, I.tok _, ⟨s.toks + 1, by rw [List.size_toArray, hlen]⟩, q⟩
theorem call_len_str : CallR X (.builtin "len") (fun xs H Q => ∃ z, xs = [.str z] ∧ z.length ≤ sizeLine ∧ Q (.int z.length) H) := by
  intro pins s σ H xs us Q I r h
  obtain ⟨z, rfl, hz, q⟩ := h
  obtain ⟨u, rfl, t, rfl⟩ := vals1 r
  have hn := line63
  exact len_str (by omega) ⟨.int z.length, H, I.tok _, ⟨_, rfl⟩, q⟩
theorem CallR.or {f : Value} {r r' : List V → Hp → VK → Prop} (h : CallR X f r) (h' : CallR X f r') : CallR X f (fun xs H Q => r xs H Q ∨ r' xs H Q) := by
  intro pins s σ H xs us Q I rs q
  rcases q with q | q
  · exact h pins s σ H xs us Q I rs q
  · exact h' pins s σ H xs us Q I rs q
theorem call_list_of : CallR X (.type "list") (fun xs H Q => ∃ p ys, xs = [.ref p] ∧ (SqL X.K H p ys ∨ SqT X.K H p ys) ∧ ∀ l, H l = none → Q (.ref l) (upd H l (.lst ys))) := by
  intro pins s σ H xs us Q I r h
  obtain ⟨p, ys, rfl, hq, q⟩ := h
  obtain ⟨u, rfl, rx⟩ := vals1 r
  cases rx
  have fin : ∀ (its : List Value), Vals ys its → ys.length ≤ sizeLine → ∀ (h' : Heap) (c' : Nat), (∀ b o', s.heap.get? b = some o' → h'.get? b = some o') →
      h'.get? s.heap.objs.size = some { cls := .type "list", dict := none, data := .seq its.toArray c', slots := #[] } → EP X pins σ Q (.ref s.heap.objs.size) { s with heap := h' } := fun its r' hz h' c' kp e =>
    ⟨.ref s.heap.objs.size, _, I.laid (t' := s.toks) kp (Nat.le_refl _) (show ObjOk X.prog X.w _ h' _ (.lst ys) from ⟨hz, its, c', r', e⟩), rfl, q _ (I.hok.fresh (Nat.le_refl _))⟩
  rcases hq with hq | hq
  · obtain ⟨its, r', pl, hz⟩ := I.list hq
    have hlen := r'.length
    obtain ⟨o, ho, hc, n, hd⟩ := pl.isList
    exact call_list_seq p (.inl rfl) ho hc hd (fun h' c' kp e => fin its r' hz h' c' kp e) (by simp only [List.size_toArray] <;> omega)
  · obtain ⟨its, r', pl, hz⟩ := I.tuple hq
    have hlen := r'.length
    obtain ⟨o, ho, hc, n, hd⟩ := pl
    exact call_list_seq p (.inr rfl) ho hc hd (fun h' c' kp e => fin its r' hz h' c' kp e) (by simp only [List.size_toArray] <;> omega)
theorem call_tuple_of : CallR X (.type "tuple") (fun xs H Q => ∃ p ys, xs = [.ref p] ∧ ((SqL X.K H p ys ∧ ∀ l, H l = none → Q (.ref l) (upd H l (.tup ys))) ∨ (SqT X.K H p ys ∧ Q (.ref p) H))) := by
  intro pins s σ H xs us Q I r h
  obtain ⟨p, ys, rfl, h⟩ := h
  obtain ⟨u, rfl, rx⟩ := vals1 r
  cases rx
  rcases h with ⟨hq, q⟩ | ⟨hq, q⟩
  · obtain ⟨its, r', pl, hz⟩ := I.list hq
    have hlen := r'.length
    refine call_tuple_list pl.isList (fun h' kp => ?_) (by simp only [List.size_toArray] <;> omega)
    have I1 : Inv X pins σ H { s with heap := h' } := I.kept (t' := s.toks) kp
    have I2 : Inv X pins σ (upd H h'.objs.size (.tup ys)) { s with heap := h'.push { cls := .type "tuple", data := .seq its.toArray } } :=
      I1.laid (t' := s.toks) (fun b o e => Heap.get?_push_of_some _ e) (Nat.le_refl _) (show ObjOk X.prog X.w _ _ _ (.tup ys) from ⟨hz, its, r', IsTup.new _ _⟩)
    exact ⟨.ref h'.objs.size, _, I2, rfl, q _ (I1.hok.fresh (Nat.le_refl _))⟩
  · obtain ⟨its, r', pl, hz⟩ := I.tuple hq
    exact call_tuple_same pl ⟨.ref p, H, I, rfl, q⟩

/-! ### the call of a builtin's method: o.m(..) -/
/-- the value is of that builtin type -/
def tyV (K : PySem.W.Frag) (T : String) (x : V) (H : Hp) : Prop := match x with
  | .str _ => T = "str"
  | .int _ => T = "int"
  | .ref p => (T = "list" ∧ ∃ xs, SqL K H p xs) ∨ (T = "tuple" ∧ ∃ o, K.lookup p = some o ∧ o.cls = .type "tuple" ∧ o.dict = none) ∨
      (T = "dict" ∧ ((∃ kvs, H p = some (.dK kvs)) ∨ ∃ kvs, H p = some (.dT kvs))) ∨ (T = "set" ∧ ∃ S n, H p = some (.set S n))
  | _ => False
theorem tyV_is {pins : List (Addr × Obj)} {σ : St} {H : Hp} {s : Shared} {T : String} {x : V} {v : Value} (I : Inv X pins σ H s) (r : RelV x v) (ty : tyV X.K T x H) :
    s.TypeIs v T ∧ ∀ a, v = .ref a → ∃ ob, s.heap.get? a = some ob ∧ ob.dict = none := by
  cases x with
  | str z =>
    obtain ⟨t, rfl⟩ := r
    cases (show T = "str" from ty)
    exact ⟨typeIs_str s z t, fun _ e => nomatch e⟩
  | int i =>
    obtain ⟨t, rfl⟩ := r
    cases (show T = "int" from ty)
    exact ⟨typeIs_int s i t, fun _ e => nomatch e⟩
  | ref p =>
    cases r
    rcases ty with ⟨rfl, xs, hq⟩ | ⟨rfl, o, hk, hc, hd⟩ | ⟨rfl, hk⟩ | ⟨rfl, S, n, hk⟩
    · obtain ⟨its, _, pl, _⟩ := I.list hq
      refine ⟨pl.isList.typeIs, fun a e => ?_⟩
      cases e
      obtain ⟨o, n, e, c, hd, _⟩ := pl
      exact ⟨o, e, hd⟩
    · refine ⟨⟨o, I.kIn p o hk, hc⟩, fun a e => ?_⟩
      cases e
      exact ⟨o, I.kIn _ o hk, hd⟩
    · have z : ∃ o, s.heap.get? p = some o ∧ o.ExactDict := by
        rcases hk with ⟨kvs, hk⟩ | ⟨kvs, hk⟩
        · obtain ⟨_, _, _, _, o, _, _, e, ex, _⟩ := I.hok p _ hk
          exact ⟨o, e, ex⟩
        · obtain ⟨_, _, _, _, o, _, _, e, ex, _⟩ := I.hok p _ hk
          exact ⟨o, e, ex⟩
      obtain ⟨o, e, ex⟩ := z
      refine ⟨⟨o, e, ex.1⟩, fun a e2 => ?_⟩
      cases e2
      exact ⟨o, e, ex.2.1⟩
    · obtain ⟨o, _, _, _, e, ex, _⟩ := I.hok p _ hk
      refine ⟨⟨o, e, ex.1⟩, fun a e2 => ?_⟩
      cases e2
      exact ⟨o, e, ex.2.1⟩
  | _ => exact False.elim ty
def tBM0 (K : PySem.W.Frag) (T : String) (r : V → List V → Hp → VK → Prop) (to : TE) : TE := fun σ H Q => to σ H fun x H1 => tyV K T x H1 ∧ r x [] H1 Q
def tBM (K : PySem.W.Frag) (T : String) (r : V → List V → Hp → VK → Prop) (to : TE) (t : TA) : TE := fun σ H Q => to σ H fun x H1 => tyV K T x H1 ∧ t σ H1 fun xs H2 => r x xs H2 Q
variable {o e : Expr} {es : List Expr} {to : TE} {t : TA} {name : Str} {apos cpos : Pos} {T id : String} {r : V → List V → Hp → VK → Prop}
theorem pe_bm0 (pa : PlainAttrs T) (slot : Slot T name id) (hty : typeOf (.builtin id) = pure (.type "method_descriptor")) (hm : MtR X id r) (ho : PE X o to)
    (hbase : attributeBase o name X.env (eval o X.env) = eval o X.env := by rfl) (hline : (apos.endLine == cpos.line) = true := by rfl) : PE X (.Call (.Attribute o name apos) [] [] cpos) (tBM0 X.K T r to) := by
  intro pins s σ H Q I h
  refine wpAny_Call_method0_late hbase hline (thn (ho pins s σ H _ I h) fun v s1 ⟨x, H1, I1, r1, ty, q1⟩ => ?_)
  obtain ⟨h1, h2⟩ := tyV_is I1 r1 ty
  exact ⟨T, id, pa, slot, hty, h1, h2, Calls.callWith_builtin rfl (PySem.evalArgs_none (hm pins s1 σ H1 x [] v [] Q I1 r1 .nil q1))⟩
theorem pe_bm (pa : PlainAttrs T) (slot : Slot T name id) (hty : typeOf (.builtin id) = pure (.type "method_descriptor")) (hm : MtR X id r) (ho : PE X o to) (ha : PA X (e :: es) t)
    (hbase : attributeBase o name X.env (eval o X.env) = eval o X.env := by rfl)
    (hfew : ((backTo cpos (starEach (e :: es) X.env)).all (fun x => !x.1) && (backToKw cpos (keywordEach [] X.env)).all (fun x => x.1.isSome)
      && decide ((e :: es).length + ([] : List Keyword).length + (if ([] : List Keyword).isEmpty then 0 else 1) < 30)) = true := by rfl)
    (hline : (apos.endLine == cpos.line) = true := by rfl) (hs : starEach (e :: es) X.env = (false, eval e X.env) :: starEach es X.env := by rfl) (hplain : (backTo cpos (starEach es X.env)).any (·.1) = false := by rfl) :
    PE X (.Call (.Attribute o name apos) (e :: es) [] cpos) (tBM X.K T r to t) := by
  intro pins s σ H Q I h
  refine wpAny_Call_method_late hbase hfew hline rfl (thn (ho pins s σ H _ I h) fun v s1 ⟨x, H1, I1, r1, ty, q1⟩ => ?_)
  obtain ⟨h1, h2⟩ := tyV_is I1 r1 ty
  refine ⟨T, id, pa, slot, hty, h1, h2, ?_⟩
  have hA := ha cpos pins s1 σ H1 _ I1 q1
  rw [hs] at hA ⊢
  refine Calls.callWith_builtin (by show (false || (backTo cpos (starEach es X.env)).any (·.1)) = false; rw [hplain] <;> rfl) (Calls.evalArgs_plain ?_)
  exact thn hA fun us s2 ⟨vs, H2, I2, r2, q2⟩ => hm pins s2 σ H2 x vs v us Q I2 r1 r2 q2
/- xs.append(e), list.index on a module's tuple .. are MtR facts of 06m -/
end
end L2

namespace L2
open PySem PySem.Spec PyProof.Rows

def MtM (X : Cx) (id : String) (r : V → List V → Hp → VK → Prop) : Prop :=
  ∀ (pins : List (Addr × Obj)) (s : Shared) (σ : St) (H : Hp) (x : V) (xs : List V) (v : Value) (us : List Value) (Q : VK), Inv X pins σ H s → RelV x v → Vals xs us → r x xs H Q →
    wpAny (model X.prog X.w) X.A (call (.builtin id) (v :: us)) (EP X pins σ Q) X.xe s

/-! ### lists of values -/
theorem Vals.one : ∀ {x : V} {us : List Value}, Vals [x] us → ∃ u, us = [u] ∧ RelV x u
  | _, _, .cons r .nil => ⟨_, rfl, r⟩
theorem Vals.two : ∀ {x y : V} {us : List Value}, Vals [x, y] us → ∃ u v, us = [u, v] ∧ RelV x u ∧ RelV y v
  | _, _, _, .cons r (.cons q .nil) => ⟨_, _, rfl, r, q⟩
theorem Vals.zero : ∀ {us : List Value}, Vals [] us → us = []
  | _, .nil => rfl
theorem Vals.dropLast {xs : List V} {us : List Value} (h : Vals xs us) : Vals xs.dropLast us.dropLast := by
  induction h with
  | nil => exact .nil
  | cons r t ih =>
    cases t with
    | nil => exact .nil
    | cons q t' => exact .cons r ih
theorem Vals.eraseIdx : ∀ {xs : List V} {us : List Value} (i : Nat), Vals xs us → Vals (xs.eraseIdx i) (us.eraseIdx i)
  | _, _, _, .nil => .nil
  | _, _, 0, .cons _ t => t
  | _, _, i + 1, .cons r t => .cons r (Vals.eraseIdx i t)
theorem Vals.reverse {xs : List V} {us : List Value} (h : Vals xs us) : Vals xs.reverse us.reverse := by
  induction h with
  | nil => exact .nil
  | cons r t ih => rw [List.reverse_cons, List.reverse_cons]; exact Vals.append ih (.cons r .nil)
theorem Vals.rep {xs : List V} {us : List Value} (h : Vals xs us) : ∀ k : Nat, Vals (List.replicate k xs).flatten (List.replicate k us).flatten
  | 0 => .nil
  | k + 1 => by
    rw [List.replicate_succ, List.replicate_succ, List.flatten_cons, List.flatten_cons]
    exact Vals.append h (Vals.rep h k)
theorem erase_last {α : Type} (l : List α) : l.eraseIdx (l.length - 1) = l.dropLast := by
  induction l with
  | nil => rfl
  | cons a r ih =>
    cases r with
    | nil => rfl
    | cons b r =>
      have e : (a :: b :: r).length - 1 = ((b :: r).length - 1) + 1 := by
        have h1 : (a :: b :: r).length = r.length + 2 := rfl
        have h2 : (b :: r).length = r.length + 1 := rfl
        omega
      rw [e, List.eraseIdx_cons_succ, ih]
      all_goals rfl
theorem len_erase {α : Type} : ∀ (l : List α) (i : Nat), (l.eraseIdx i).length ≤ l.length
  | [], _ => Nat.le_refl _
  | _ :: _, 0 => Nat.le_succ _
  | _ :: r, i + 1 => Nat.succ_le_succ (len_erase r i)
theorem foldl_rep (its : List Value) : ∀ (k : Nat) (acc : List Value),
    List.foldl (fun x1 x2 => x1 ++ x2) acc.toArray (List.replicate k its.toArray) = (acc ++ (List.replicate k its).flatten).toArray
  | 0, acc => by simp
  | k + 1, acc => by
    have e : acc.toArray ++ its.toArray = (acc ++ its).toArray := by simp
    have e2 : (acc ++ its) ++ (List.replicate k its).flatten = acc ++ (List.replicate (k + 1) its).flatten := by
      rw [List.replicate_succ, List.flatten_cons, List.append_assoc]
    rw [← e2, ← foldl_rep its k (acc ++ its), ← e, List.replicate_succ, List.foldl_cons]

section
variable {X : Cx} {pins : List (Addr × Obj)} {σ : St} {H : Hp} {s : Shared} {l b : Addr} {xs ys zs : List V}

/-! ### the two steps: a tracked list is rewritten, a new list is laid -/
theorem Inv.lset {its its' : List Value} {n : Nat} {f : Array Value → Array Value} {t' : Nat} (I : Inv X pins σ H s) (hH : H l = some (.lst xs))
    (e : s.heap.get? l = some { cls := .type "list", data := .seq its.toArray n }) (hf : f its.toArray = its'.toArray) (hv : Vals ys its') (hz : ys.length ≤ sizeLine) :
    Inv X pins σ (upd H l (.lst ys)) { s with heap := s.heap.update l (Obj.mapSeq f), toks := t' } := by
  have q := PySem.IsL.update e f
  rw [hf] at q
  refine I.write (x := l) (e := l) (by rw [hH]; exact trivial) (.inl rfl) (fun b' u hb hu => (Heap.get?_update_other s.heap (Obj.mapSeq f) (Ne.symm hb)).trans hu) ⟨_, q⟩ ?_
  exact ⟨hz, its', _, hv, q⟩
theorem Inv.lnew {its : List Value} {t' : Nat} (I : Inv X pins σ H s) (hv : Vals ys its) (hz : ys.length ≤ sizeLine) :
    Inv X pins σ (upd H s.heap.objs.size (.lst ys)) { s with heap := s.heap.push { cls := .type "list", data := .seq its.toArray }, toks := t' } :=
  I.laid (fun _ _ q => Heap.get?_push_of_some _ q) (Nat.le_refl _) ⟨hz, its, 0, hv, Heap.get?_push_size _ rfl⟩
theorem Inv.fresh (I : Inv X pins σ H s) : H s.heap.objs.size = none := I.hok.fresh (Nat.le_refl _)
theorem Inv.lstM (I : Inv X pins σ H s) (hH : H l = some (.lst xs)) : xs.length ≤ sizeLine ∧ ∃ (its : List Value) (n : Nat), Vals xs its ∧ xs.length = its.length ∧ s.heap.get? l = some { cls := .type "list", data := .seq its.toArray n } := by
  obtain ⟨z, its, n, r, e⟩ := I.hok l _ hH
  exact ⟨z, its, n, r, r.length, e⟩

theorem notLongL {n : Nat} (h : n ≤ sizeLine) : Builtin.List.listTooLong n = false := by
  unfold Builtin.List.listTooLong
  exact decide_eq_false (by omega)
end

section
variable {X : Cx}

/-! ### methods -/
def rAppend : V → List V → Hp → VK → Prop := fun x vs H Q => ∃ l xs y, x = .ref l ∧ vs = [y] ∧ H l = some (.lst xs) ∧ xs.length < sizeLine ∧ Q .non (upd H l (.lst (xs ++ [y])))
theorem mt_append : MtM X "list.append" rAppend := by
  intro pins s σ H x vs v us Q I rx rv h
  obtain ⟨l, xs, y, rfl, rfl, hH, hz, q⟩ := h
  cases rx
  obtain ⟨u, rfl, ru⟩ := rv.one
  obtain ⟨z, its, n, r, hl, e⟩ := I.lstM hH
  refine call_meets F.slot_list_append ⟨_, e, rfl⟩ F.entry_list_append (F.args_list_append_2 _ _) (PySem.list_append l its.toArray n u (by rw [List.size_toArray]; omega)) ⟨e, ?_⟩
  refine ⟨.non, _, I.lset (its' := its ++ [u]) hH e (by simp) (r.append (.cons ru .nil)) ?_, rfl, q⟩
  rw [List.length_append, List.length_singleton]
  omega

def rExtend : V → List V → Hp → VK → Prop := fun x vs H Q => ∃ l b xs zs, x = .ref l ∧ vs = [.ref b] ∧ H l = some (.lst xs) ∧ H b = some (.lst zs) ∧ xs.length + zs.length ≤ sizeLine ∧ Q .non (upd H l (.lst (xs ++ zs)))
theorem mt_extend : MtM X "list.extend" rExtend := by
  intro pins s σ H x vs v us Q I rx rv h
  obtain ⟨l, b, xs, zs, rfl, rfl, hH, hB, hz, q⟩ := h
  cases rx
  obtain ⟨u, rfl, ru⟩ := rv.one
  cases ru
  obtain ⟨z, its, n, r, hl, e⟩ := I.lstM hH
  obtain ⟨z2, its2, n2, r2, hl2, e2⟩ := I.lstM hB
  have hsz : its.toArray.size + its2.toArray.size ≤ sizeLine := by rw [List.size_toArray, List.size_toArray]; omega
  have hlong : ¬ (!its.toArray.isEmpty && Builtin.List.listTooLong (its.toArray.size + its2.toArray.size)) = true := by
    rw [notLongL hsz, Bool.and_false]
    exact Bool.false_ne_true
  refine call_meets F.slot_list_extend ⟨_, e, rfl⟩ F.entry_list_extend (F.args_list_extend_2 _ _)
    (AutoSeq1.list_extend_list_list_0 l its.toArray n b its2.toArray n2 hlong (by rw [List.size_toArray]; omega) (by omega)) ⟨e, e2, ?_⟩
  refine ⟨.non, _, I.lset (its' := its ++ its2) hH e (by simp) (r.append r2) ?_, rfl, q⟩
  rw [List.length_append]
  omega

def rPop : V → List V → Hp → VK → Prop := fun x vs H Q => ∃ l xs y, x = .ref l ∧ vs = [] ∧ H l = some (.lst xs) ∧ xs[xs.length - 1]? = some y ∧ Q y (upd H l (.lst xs.dropLast))
theorem mt_pop : MtM X "list.pop" rPop := by
  intro pins s σ H x vs v us Q I rx rv h
  obtain ⟨l, xs, y, rfl, rfl, hH, hy, q⟩ := h
  cases rx
  have hus := rv.zero
  subst hus
  obtain ⟨z, its, n, r, hl, e⟩ := I.lstM hH
  obtain ⟨u, hu, ru⟩ := r.get hy
  have hy' : its.toArray[its.toArray.size - 1]? = some u := by
    show its.toArray[its.length - 1]? = some u
    rw [← Array.getElem?_toList, ← hl]
    exact hu
  refine call_meets F.slot_list_pop ⟨_, e, rfl⟩ F.entry_list_pop (F.args_list_pop_1 _) (MeetsSeq.list_pop_last l its.toArray n u hy' (by rw [List.size_toArray]; omega)) ⟨e, ?_⟩
  refine ⟨y, _, I.lset (its' := its.dropLast) hH e ?_ r.dropLast ?_, ru, q⟩
  · show its.toArray.eraseIdxIfInBounds (its.toArray.size - 1) = its.dropLast.toArray
    rw [List.size_toArray, List.eraseIdxIfInBounds_toArray, erase_last]
  · rw [List.length_dropLast]
    omega

def rPopAt : V → List V → Hp → VK → Prop := fun x vs H Q => ∃ l xs i k y, x = .ref l ∧ vs = [.int i] ∧ H l = some (.lst xs) ∧ -(2 ^ 63) ≤ i ∧ i < 2 ^ 63 ∧ seqIndex? i xs.length = some k ∧ xs[k]? = some y ∧ Q y (upd H l (.lst (xs.eraseIdx k)))
theorem mt_popAt : MtM X "list.pop" rPopAt := by
  intro pins s σ H x vs v us Q I rx rv h
  obtain ⟨l, xs, i, k, y, rfl, rfl, hH, h1, h2, hk, hy, q⟩ := h
  cases rx
  obtain ⟨u, rfl, ru⟩ := rv.one
  obtain ⟨t, rfl⟩ := ru
  obtain ⟨z, its, n, r, hl, e⟩ := I.lstM hH
  obtain ⟨w, hw, rw'⟩ := r.get hy
  refine call_meets F.slot_list_pop ⟨_, e, rfl⟩ F.entry_list_pop (F.args_list_pop_2 _ _)
    (MeetsSeq.list_pop_at l its.toArray n i t k w (fitsIndex_both h1 h2) (by rw [List.size_toArray, ← hl]; exact hk) (by rw [← Array.getElem?_toList]; exact hw) (by rw [List.size_toArray]; omega)) ⟨e, ?_⟩
  refine ⟨y, _, I.lset (its' := its.eraseIdx k) hH e ?_ (r.eraseIdx k) ?_, rw', q⟩
  · show its.toArray.eraseIdxIfInBounds k = (its.eraseIdx k).toArray
    rw [List.eraseIdxIfInBounds_toArray]
  · have := len_erase xs k
    omega

def rReverse : V → List V → Hp → VK → Prop := fun x vs H Q => ∃ l xs, x = .ref l ∧ vs = [] ∧ H l = some (.lst xs) ∧ Q .non (upd H l (.lst xs.reverse))
theorem mt_reverse : MtM X "list.reverse" rReverse := by
  intro pins s σ H x vs v us Q I rx rv h
  obtain ⟨l, xs, rfl, rfl, hH, q⟩ := h
  cases rx
  have hus := rv.zero
  subst hus
  obtain ⟨z, its, n, r, hl, e⟩ := I.lstM hH
  refine call_meets F.slot_list_reverse ⟨_, e, rfl⟩ F.entry_list_reverse (F.args_list_reverse_1 _) (AutoSeq1.list_reverse_list_0 l its.toArray n (by rw [List.size_toArray]; omega)) ⟨e, ?_⟩
  refine ⟨.non, _, I.lset (its' := its.reverse) hH e (by simp) r.reverse ?_, rfl, q⟩
  rw [List.length_reverse]
  omega

def rClear : V → List V → Hp → VK → Prop := fun x vs H Q => ∃ l xs, x = .ref l ∧ vs = [] ∧ H l = some (.lst xs) ∧ Q .non (upd H l (.lst []))
theorem mt_clear : MtM X "list.clear" rClear := by
  intro pins s σ H x vs v us Q I rx rv h
  obtain ⟨l, xs, rfl, rfl, hH, q⟩ := h
  cases rx
  have hus := rv.zero
  subst hus
  obtain ⟨z, its, n, r, hl, e⟩ := I.lstM hH
  refine call_meets F.slot_list_clear ⟨_, e, rfl⟩ F.entry_list_clear (F.args_list_clear_1 _) (AutoSeq1.list_clear_list_0 l its.toArray n (by rw [List.size_toArray]; omega)) ⟨e, ?_⟩
  exact ⟨.non, _, I.lset (its' := []) (ys := []) hH e rfl .nil (Nat.zero_le _), rfl, q⟩

/-! ### list + list, list += list, list * int -/
def rCat : R2 := fun x y H Q => ∃ l b xs zs, x = .ref l ∧ y = .ref b ∧ H l = some (.lst xs) ∧ H b = some (.lst zs) ∧ xs.length + zs.length ≤ sizeLine ∧ ∀ p, H p = none → Q (.ref p) (upd H p (.lst (xs ++ zs)))
theorem op_cat : OpR X (binaryOp .Add) rCat := by
  intro pins s σ H x y v u Q I rx ry h
  obtain ⟨l, b, xs, zs, rfl, rfl, hH, hB, hz, q⟩ := h
  cases rx
  cases ry
  obtain ⟨z, its, n, r, hl, e⟩ := I.lstM hH
  obtain ⟨z2, its2, n2, r2, hl2, e2⟩ := I.lstM hB
  refine PySem.P.add_list e e2 ?_ (by rw [List.size_toArray, List.size_toArray]; omega)
  have ea : its.toArray ++ its2.toArray = (its ++ its2).toArray := by simp
  rw [ea]
  exact ⟨.ref _, _, I.lnew (t' := s.toks) (r.append r2) (by rw [List.length_append]; omega), rfl, q _ I.fresh⟩
/-- a list times an int (a negative one is nothing) -/
def rRep : R2 := fun x y H Q => ∃ l k xs, x = .ref l ∧ y = .int k ∧ H l = some (.lst xs) ∧ -(2 ^ 63) ≤ k ∧ k < 2 ^ 63 ∧ xs.length * k.toNat ≤ sizeLine ∧
  ∀ p, H p = none → Q (.ref p) (upd H p (.lst (List.replicate k.toNat xs).flatten))
theorem len_rep {α : Type} (xs : List α) (k : Nat) : (List.replicate k xs).flatten.length = k * xs.length := by
  induction k with
  | zero => simp
  | succ k ih => rw [List.replicate_succ, List.flatten_cons, List.length_append, ih, Nat.succ_mul, Nat.add_comm]
theorem op_rep : OpR X (binaryOp .Mult) rRep := by
  intro pins s σ H x y v u Q I rx ry h
  obtain ⟨l, k, xs, rfl, rfl, hH, h1, h2, hz, q⟩ := h
  cases rx
  obtain ⟨t, rfl⟩ := ry
  obtain ⟨z, its, n, r, hl, e⟩ := I.lstM hH
  have hlen : its.toArray.size * k.toNat ≤ sizeLine := by rw [List.size_toArray, ← hl]; exact hz
  have hcap : ¬ its.toArray.size * k.toNat > (2 ^ 63 - 1) / 8 := by
    have : (sizeLine : Nat) ≤ (2 ^ 63 - 1) / 8 := by decide
    omega
  have hfit : ¬ (!Builtin.List.listFitsIndex k) = true := by
    rw [fitsIndex_both h1 h2]
    exact Bool.false_ne_true
  have hlong : ¬ Builtin.List.listTooLong (its.toArray.size * k.toNat) = true := by
    rw [notLongL hlen]
    exact Bool.false_ne_true
  have hnew : List.foldl (fun x1 x2 => x1 ++ x2) #[] (List.replicate (if its.toArray.isEmpty = true then 0 else k.toNat) its.toArray) = (List.replicate k.toNat its).flatten.toArray := by
    have f0 : ∀ m : Nat, List.foldl (fun x1 x2 => x1 ++ x2) #[] (List.replicate m its.toArray) = (List.replicate m its).flatten.toArray := fun m => by
      have := foldl_rep its m []
      rw [List.nil_append] at this
      exact this
    rw [f0]
    cases its with
    | nil => simp
    | cons a r' => rw [if_neg (by simp)]
  refine wpAny_binaryOp_repeat_ref (T := "list") (U := "int") (by decide) ⟨_, e, rfl⟩ (fun s' => typeIs_int s' k t) noFill_list_mul F.fills_int_mul F.slot_int_rmul repeat_list F.slot_int_index.lookup
    (call_meets F.slot_int_rmul (typeIs_int s k t) F.entry_int_rmul (F.args_int_rmul_2 _ _) (int___rmul___int_list k t l its.toArray n)
      ⟨e, rfl, ⟨_, e, rfl⟩, call_meets F.slot_list_mul ⟨_, e, rfl⟩ F.entry_list_mul (F.args_list_mul_2 _ _) (AutoListH.list___mul___list_int_3 l its.toArray n k t hfit hcap hlong) ⟨e, ?_⟩⟩)
  rw [hnew]
  exact ⟨.ref _, _, I.lnew (t' := s.toks) (r.rep k.toNat) (by rw [len_rep, Nat.mul_comm]; exact hz), rfl, q _ I.fresh⟩

/-! ### del xs[i] -/
theorem del_list {pins : List (Addr × Obj)} {s : Shared} {σ : St} {H : Hp} {l : Addr} {xs : List V} {i : Int} {t : Tok} {k : Nat} {Q : Unit → Shared → Prop} (I : Inv X pins σ H s) (hH : H l = some (.lst xs))
    (h1 : -(2 ^ 63) ≤ i) (h2 : i < 2 ^ 63) (hk : seqIndex? i xs.length = some k) (h : ∀ s', Inv X pins σ (upd H l (.lst (xs.eraseIdx k))) s' → Q () s') :
    wpAny (model X.prog X.w) X.A (delItem (.ref l) (.int i t)) Q X.xe s := by
  obtain ⟨z, its, n, r, hl, e⟩ := I.lstM hH
  refine PySem.P.delItem_list (k := k) e (fitsIndex_both h1 h2) (by rw [List.size_toArray, ← hl]; exact hk) (h _ ?_) (by rw [List.size_toArray]; omega)
  refine I.lset (its' := its.eraseIdx k) (t' := s.toks) hH e ?_ (r.eraseIdx k) ?_
  · show its.toArray.eraseIdxIfInBounds k = (its.eraseIdx k).toArray
    rw [List.eraseIdxIfInBounds_toArray]
  · have := len_erase xs k
    omega
end

/-! ### xs[a:b] = ys -/
section
variable {prog : Program} {w : World} {A : Around} {E : Value → Shared → Prop} {s : Shared}
theorem splice_eq (its its2 : List Value) (a c : Nat) : its.toArray.extract 0 a ++ its2.toArray ++ its.toArray.extract c its.toArray.size = (its.take a ++ its2 ++ its.drop c).toArray := by
  apply Array.toList_inj.mp
  first
    | (simp
       exact List.take_of_length_le (by simp))
    | simp [List.take_of_length_le]
    | simp
theorem bounds_run {a c n : Nat} (hac : a ≤ c) (hc : c ≤ n) : sliceBounds (some (a : Int)) (some (c : Int)) none n = ((a : Int), (c : Int), 1) := by
  simp only [sliceBounds, Option.getD_none]
  have h1 : ¬ ((a : Int) < 0) := by omega
  have h2 : ¬ ((c : Int) < 0) := by omega
  simp only [h1, h2, if_false, show (1 : Int) > 0 by decide, if_true]
  congr 1
  · omega
  · congr 1; omega
set_option maxRecDepth 100000 in
/-- list.__setitem__ with a slice of step one and another list -/
theorem setItem_slice {l b sl : Addr} {items new : Array Value} {n n2 : Nat} {vl vu : Value} {a c : Nat} {Q : Unit → Shared → Prop}
    (e : s.heap.get? l = some { cls := .type "list", data := .seq items n }) (e2 : s.heap.get? b = some { cls := .type "list", data := .seq new n2 }) (hne : l ≠ b)
    (hs : s.heap.IsSliceOf sl vl vu .none) (pl : IsPart vl (some (a : Int))) (pu : IsPart vu (some (c : Int))) (hac : a ≤ c) (hc : c ≤ items.size)
    (hsz : items.size + new.size ≤ sizeLine) (h : Q () { s with heap := s.heap.update l (Obj.mapSeq fun xs => xs.extract 0 a ++ new ++ xs.extract c xs.size) }) :
    wpAny (model prog w) A (setItem (.ref l) (.ref sl) (.ref b)) Q E s := by
  have hl : s.heap.IsList l items := PySem.IsL.isList e
  have hb : s.heap.IsList b new := PySem.IsL.isList e2
  obtain ⟨os, hos, hcs, hds⟩ := id hs
  have hTs : s.TypeIs (.ref sl) "slice" := ⟨os, hos, hcs⟩
  have hstep : ¬ ((rawPart none == rawInt 0) = true) := Bool.false_ne_true
  have hsame : Builtin.List.listSameRef (.ref l) (.ref b) = false := by
    unfold Builtin.List.listSameRef
    exact beq_eq_false_iff_ne.mpr hne
  have hmax : (max (a : Int) (c : Int)).toNat = c := by omega
  have hz' : ((fun xs : Array Value => xs.extract 0 a ++ new ++ xs.extract c xs.size) items).size ≤ sizeLine + 1 := by
    simp only [Array.size_append, Array.size_extract]
    omega
  unfold setItem
  try with_reducible refine wpAny_holding ?_
  first | refine wpAny_bind (wpAny_pure ?_) | skip
  refine wpAny_bind (wpAny_sequenceKey hl.typeIs (by decide) ?_)
  refine wpAny_bind (wpAny_callSpecial?_slot (name := Str.ofString "__setitem__") hl.typeIs slot_list_setitem
    (wpAny_call_entry slot_list_setitem hl.typeIs entry_list_setitem ?_ (args_list_setitem _ _ _)))
  show wpAny _ _ (Builtin.List.listSubscript? (.ref sl) >>= _) _ _ s
  refine wpAny_bind ?_
  unfold Builtin.List.listSubscript?
  refine wpAny_bind (wpAny_specialOf hTs slice_no_index ?_)
  simp only [Option.isNone_none, if_true]
  refine wpAny_pure ?_
  show wpAny _ _ (typeOf (.ref sl) >>= _) _ _ s
  refine wpAny_bind (wpAny_typeOf hTs ?_)
  first
    | rw [if_neg (by decide)]
    | refine PySem.W.KFB.if_not (by decide) ?_
  rw [listSliceParts_eq]
  refine wpAny_bind (wpAny_bind (wpAny_field hos hds (x := .none) rfl (wpAny_bind (wpAny_listPart .none ?_))))
  rw [if_neg hstep]
  refine wpAny_bind (wpAny_field hos hds (x := vl) rfl (wpAny_bind (wpAny_listPart pl ?_)))
  refine wpAny_bind (wpAny_field hos hds (x := vu) rfl (wpAny_bind (wpAny_listPart pu (wpAny_pure ?_))))
  first
    | simp only [hsame, Bool.false_eq_true, if_false]
    | refine PySem.W.KFB.if_not hsame ?_
    | (dsimp only
       rw [if_neg (by rw [hsame]; exact Bool.false_ne_true)])
  refine wpAny_bind (m := Builtin.List.listAllItems (.ref b) "must assign iterable to extended slice") ?_
  unfold Builtin.List.listAllItems
  refine wpAny_bind (wpAny_typeOf hb.typeIs ?_)
  first
    | refine PySem.W.KFB.if_so (by decide) ?_
    | rw [if_pos (by decide)]
    | simp only [beq_self_eq_true, Bool.true_or, if_true]
  unfold Builtin.List.listItems
  refine wpAny_bind (wpAny_seqItems e2 rfl (wpAny_pure ?_))
  refine wpAny_bind (wpAny_bind (wpAny_seqItems e rfl (wpAny_pure ?_)))
  refine wpAny_bind (wpAny_of_eq ((sliceIndices_raw (some (a : Int)) (some (c : Int)) none items.size (by simp)).trans (congrArg (pure : Int × Int × Int → Sem (Int × Int × Int)) (bounds_run hac hc))) ?_)
  show wpAny _ _ (if ((1 : Int) == 1) = true then _ else _) _ _ s
  rw [if_pos (by decide)]
  refine wpAny_bind (wpAny_rule ?_)
  first
    | simp only [notLongL hsz, Bool.false_eq_true, if_false]
    | refine PySem.W.KFB.if_not (notLongL hsz) ?_
  first | refine wpAny_bind (wpAny_pure ?_) | skip
  show wpAny _ _ (updateSeq l (fun xs => xs.extract 0 ((a : Int)).toNat ++ new ++ xs.extract (max (a : Int) (c : Int)).toNat xs.size) >>= _) _ _ s
  rw [hmax, Int.toNat_natCast]
  refine wpAny_bind (wpAny_updateSeq (hz := Nat.le_trans (Nat.le_add_right _ _) hsz) (_hz' := hz') e rfl ?_)
  refine wpAny_bind (wpAny_letGo ?_)
  first
    | exact wpAny_bind (wpAny_pure (wpAny_pure ⟨.none, rfl, wpAny_pure h⟩))
    | exact wpAny_pure ⟨.none, rfl, wpAny_pure h⟩
end

section
variable {X : Cx}
/-- xs[a:c] = ys of another list, at the value level: sl is the slice object that was just made -/
theorem set_slice {pins : List (Addr × Obj)} {s : Shared} {σ : St} {H : Hp} {l b sl : Addr} {xs ys : List V} {a c : Int} {vl vu : Value} {Q : Unit → Shared → Prop} (I : Inv X pins σ H s)
    (hH : H l = some (.lst xs)) (hB : H b = some (.lst ys)) (hne : l ≠ b) (hs : s.heap.IsSliceOf sl vl vu .none) (ra : RelV (.int a) vl) (rc : RelV (.int c) vu) (h0 : 0 ≤ a) (hac : a ≤ c) (hc : c ≤ xs.length)
    (hz : xs.length + ys.length ≤ sizeLine) (h : ∀ s', Inv X pins σ (upd H l (.lst (xs.take a.toNat ++ ys ++ xs.drop c.toNat))) s' → Q () s') :
    wpAny (model X.prog X.w) X.A (setItem (.ref l) (.ref sl) (.ref b)) Q X.xe s := by
  obtain ⟨ta, rfl⟩ := ra
  obtain ⟨tc, rfl⟩ := rc
  obtain ⟨z, its, n, r, hl, e⟩ := I.lstM hH
  obtain ⟨z2, its2, n2, r2, hl2, e2⟩ := I.lstM hB
  obtain ⟨a', rfl⟩ := Int.eq_ofNat_of_zero_le h0
  obtain ⟨c', rfl⟩ := Int.eq_ofNat_of_zero_le (Int.le_trans h0 hac)
  simp only [Int.toNat_natCast] at h
  refine setItem_slice (a := a') (c := c') e e2 hne hs (.int _ _) (.int _ _) (by omega) (by rw [List.size_toArray]; omega) (by rw [List.size_toArray, List.size_toArray]; omega) (h _ ?_)
  refine I.lset (its' := its.take a' ++ its2 ++ its.drop c') (t' := s.toks) hH e ?_ (Vals.append (Vals.append (r.take _) r2) (r.drop _)) ?_
  · exact splice_eq its its2 a' c'
  · rw [List.length_append, List.length_append, List.length_take, List.length_drop]
    omega
end
end L2

namespace Att
open PySem PySem.W PySem.Calls PyProof.Rows

/-! ### the script -/
theorem ints_of_wellAll {P : Params} {h : Heap} : ∀ (ns : List Int) (vs : List Value), WellAll P h vs (ns.map WData.int) → IntsAre vs ns := by
  intro ns
  induction ns with
  | nil =>
    intro vs w
    rw [List.map_nil] at w
    cases w
    exact .nil
  | cons n ns ih =>
    intro vs w
    rw [List.map_cons] at w
    cases w with
    | cons a b =>
      cases a
      exact .cons _ _ (ih _ b)

theorem script_of {l : OpenLaw} {n : Nat} (hn : l.most = some n) {P : Params} {h : Heap} {args : List WData} {vals : List Value}
    (hpre : l.row.toRowW.claim.pre args = true) (hwl : WellAll P h vals args) :
    ∃ a vs ns, vals = [Value.ref a] ∧ args = [WData.list (ns.map WData.int)] ∧ h.get? a = some { cls := .type "list", data := .seq vs.toArray } ∧ IntsAre vs ns ∧ ns.length ≤ n := by
  have hsh : WShape.hasAll [] args [.list .int] = true := (pre_splitW hpre).1
  have hc : l.pre.holds [] { args := args } = true := (pre_splitW hpre).2
  obtain ⟨d, r, rfl, h1, h2⟩ := hasAllW_cons hsh
  obtain rfl := hasAllW_nil h2
  obtain ⟨xs, rfl, h3⟩ := hasW_list h1
  obtain ⟨ns, rfl⟩ := items_int h3
  have hlen : ns.length ≤ n := by
    unfold OpenLaw.pre at hc
    have h4 : (WTm.not (.lt (.lit (.int (n : Int))) (.len (.arg 0)))).holds [] { args := [.list (ns.map .int)] } = true := by
      have h4 := (holds_andW hc).1
      rw [hn] at h4
      exact h4
    have h5 := condW_of h4 (w_not (w_lt w_lit (w_len_list (w_arg rfl))))
    rw [List.length_map] at h5
    refine Nat.le_of_not_lt fun q => ?_
    have q' : (n : Int) < ((ns.length : Nat) : Int) := by omega
    first
      | (rw [decide_eq_true q'] at h5; exact absurd h5 (by decide))
      | (simp at h5; omega)
  cases hwl with
  | cons w1 w2 =>
    cases w2
    cases w1 with
    | list ho hall => exact ⟨_, _, ns, rfl, rfl, ho, ints_of_wellAll ns _ hall, hlen⟩

theorem post_true (l : OpenLaw) (args : List WData) : l.row.toRowW.claim.post args (.bool true) args = true :=
  postW_of (r := l.row.toRowW) (X := (true == true))
    (show WShape.has [] (.bool true) .bool = true by first | rfl | decide | simp [WShape.has, WShape.arms, WShape.armsAll])
    (show (WTm.eq .res (.lit (.bool true))).value [] { args := args, res := some (.bool true), after := args } = some (.bool (true == true)) from w_eq_bool (w_res rfl) w_lit) rfl

/-! ### the attachment: holds_open's last premise (the goal 'hc' behind k_head) from a wpAny of the law's body -/
theorem attach {l : OpenLaw} {n : Nat} {q : Program} {loose : List Str} {XP : (Str → Option Value) → Heap → Prop} {YP : World → Heap → Prop} {d : DefRec} {x : Str}
    (hn : l.most = some n) (hdf : d.params.defaults = [])
    (hbind : ∀ pm cd doc v : Value, bindArgs (docDef d.name d.params d.body d.scope pm cd doc) ⟨[v], []⟩ = pure [(x, v)])
    (hx : d.scope.names.lookup x = some .local ∨ d.scope.names.lookup x = some .cell)
    (hk : d.scope.kind = .function) (hco : d.scope.isCoroutine = false) (hgen : d.scope.isGenerator = false)
    (body : ∀ (w : World) (s₀ s₁ s : Shared) (mg mb : Str → Option Value) (fa : Addr) (o : Obj) (pm cd doc : Value) (a : Addr) (vs : List Value) (ns : List Int),
      Ground q loose [] XP w s₀ mg mb s₁.heap → YP w s₁.heap →
      s₁.heap.get? fa = some o → o.data = .func (docDef d.name d.params d.body d.scope pm cd doc) → s₁.heap.CodeRec cd d.name → mg d.name = some (.ref fa) →
      s₁.heap.get? a = some { cls := .type "list", data := .seq vs.toArray } → IntsAre vs ns → ns.length ≤ n →
      s.gens = #[] → s.os = s₁.os →
      Fr s₁.heap s₁.heap.objs.size s.heap (bindL (envOfC d.name d.scope s₁.heap.objs.size fa cd).kindOf [(x, .ref a)] fun _ => none) →
      Cl s₁.heap.objs.size (cellsFrom (s₁.heap.objs.size + 1) d.scope.names []) s.heap (bindC (envOfC d.name d.scope s₁.heap.objs.size fa cd).kindOf [(x, .ref a)] fun _ => none) →
      wpAny (model l.prog w) (callerA.deeper (envOfC d.name d.scope s₁.heap.objs.size fa cd)) (execs d.body (envOfC d.name d.scope s₁.heap.objs.size fa cd))
        (fun f s' => f = .ret (.bool true) ∧ OldK s₁.heap s'.heap ∧ s'.os = s₁.os ∧ AllBare s'.gens) (fun _ _ => False) s) :
    WalkO q loose XP YP l.row.toRowW d [] (fun f vs => PySem.call f vs) := by
  intro w s₀ s₁ mg mb G Y fa o pm cd doc dV kV ho hd hcd hD hmg hg args vals as hpre hlay hrd hwl hlo
  obtain rfl : dV = .none := Dflts.none hD hdf
  obtain rfl : kV = .none := Dflts.noKw hD
  obtain ⟨a, vs, ns, rfl, rfl, hobj, hints, hlen⟩ := script_of hn hpre hwl
  refine enter_call ?_
  refine call_cells_ret (o := o) (by rw [depth_caller]; decide) ho (fd_plain hd) G.T.nolimit hcd (hbind pm cd doc (.ref a)) (fun y hy => ?_) (fun h₁ tk F X => ?_) hco hgen hk
  · obtain rfl : y = (x, Value.ref a) := List.mem_singleton.mp hy
    rcases hx with e | e
    · exact .inl e
    · exact .inr ⟨e, cellsFrom_some _ _ _ (.inl e)⟩
  · refine wpAny_mono (body w s₀ s₁ { s₁ with heap := h₁, toks := tk } mg mb fa o pm cd doc a vs ns G Y ho (fd_plain hd) hcd hmg hobj hints hlen hg rfl F X) (fun f s' hq => ?_) (fun _ _ hq => hq)
    obtain ⟨rfl, h2, h3, h4⟩ := hq
    exact ⟨.inl ⟨.bool true, .bool true, [], rfl, fun _ => rfl, .bool true, post_true l _, fun _ => ⟨List.Pairwise.nil, fun _ hm => (nomatch hm)⟩⟩, h2, h3, h4⟩

/-- the same from a codeAny of the CALL (for a layer whose function contracts speak of calls) -/
theorem attach_call {l : OpenLaw} {n : Nat} {q : Program} {loose : List Str} {XP : (Str → Option Value) → Heap → Prop} {YP : World → Heap → Prop} {d : DefRec}
    (hn : l.most = some n) (hdf : d.params.defaults = [])
    (call : ∀ (w : World) (s₀ s₁ : Shared) (mg mb : Str → Option Value) (fa : Addr) (o : Obj) (pm cd doc : Value) (a : Addr) (vs : List Value) (ns : List Int),
      Ground q loose [] XP w s₀ mg mb s₁.heap → YP w s₁.heap →
      s₁.heap.get? fa = some o → o.data = .func (docDef d.name d.params d.body d.scope pm cd doc) → s₁.heap.CodeRec cd d.name → mg d.name = some (.ref fa) →
      s₁.heap.get? a = some { cls := .type "list", data := .seq vs.toArray } → IntsAre vs ns → ns.length ≤ n → s₁.gens = #[] →
      codeAny (model l.prog w) callerA (.call (.ref fa) ⟨[.ref a], []⟩) (fun r s' => r = .ok (.ret (.bool true)) ∧ OldK s₁.heap s'.heap ∧ s'.os = s₁.os ∧ AllBare s'.gens) s₁) :
    WalkO q loose XP YP l.row.toRowW d [] (fun f vs => PySem.call f vs) := by
  intro w s₀ s₁ mg mb G Y fa o pm cd doc dV kV ho hd hcd hD hmg hg args vals as hpre hlay hrd hwl hlo
  obtain rfl : dV = .none := Dflts.none hD hdf
  obtain rfl : kV = .none := Dflts.noKw hD
  obtain ⟨a, vs, ns, rfl, rfl, hobj, hints, hlen⟩ := script_of hn hpre hwl
  refine enter_call (codeAny_mono (call w s₀ s₁ mg mb fa o pm cd doc a vs ns G Y ho (fd_plain hd) hcd hmg hobj hints hlen hg) fun r s' hq => ?_)
  obtain ⟨rfl, h2, h3, h4⟩ := hq
  exact ⟨.inl ⟨.bool true, .bool true, [], rfl, fun _ => rfl, .bool true, post_true l _, fun _ => ⟨List.Pairwise.nil, fun _ hm => (nomatch hm)⟩⟩, h2, h3, h4⟩

/-- the same where the top left finished generators (o_head chose holds_openN): nothing may have changed at all and no generator may be left -/
theorem attachN {l : OpenLaw} {n : Nat} {q : Program} {loose : List Str} {XP : (Str → Option Value) → Heap → Prop} {YP : World → Heap → Prop} {d : DefRec} {x : Str}
    (hn : l.most = some n) (hdf : d.params.defaults = [])
    (hbind : ∀ pm cd doc v : Value, bindArgs (docDef d.name d.params d.body d.scope pm cd doc) ⟨[v], []⟩ = pure [(x, v)])
    (hx : d.scope.names.lookup x = some .local ∨ d.scope.names.lookup x = some .cell)
    (hk : d.scope.kind = .function) (hco : d.scope.isCoroutine = false) (hgen : d.scope.isGenerator = false)
    (body : ∀ (w : World) (s₀ s₁ s : Shared) (mg mb : Str → Option Value) (fa : Addr) (o : Obj) (pm cd doc : Value) (a : Addr) (vs : List Value) (ns : List Int),
      Ground q loose [] XP w s₀ mg mb s₁.heap → YP w s₁.heap →
      s₁.heap.get? fa = some o → o.data = .func (docDef d.name d.params d.body d.scope pm cd doc) → s₁.heap.CodeRec cd d.name → mg d.name = some (.ref fa) →
      s₁.heap.get? a = some { cls := .type "list", data := .seq vs.toArray } → IntsAre vs ns → ns.length ≤ n →
      s.gens = #[] → s.os = s₁.os →
      Fr s₁.heap s₁.heap.objs.size s.heap (bindL (envOfC d.name d.scope s₁.heap.objs.size fa cd).kindOf [(x, .ref a)] fun _ => none) →
      Cl s₁.heap.objs.size (cellsFrom (s₁.heap.objs.size + 1) d.scope.names []) s.heap (bindC (envOfC d.name d.scope s₁.heap.objs.size fa cd).kindOf [(x, .ref a)] fun _ => none) →
      wpAny (model l.prog w) (callerA.deeper (envOfC d.name d.scope s₁.heap.objs.size fa cd)) (execs d.body (envOfC d.name d.scope s₁.heap.objs.size fa cd))
        (fun f s' => f = .ret (.bool true) ∧ (∀ b o, s₁.heap.get? b = some o → s'.heap.get? b = some o) ∧ s'.os = s₁.os ∧ s'.gens = #[]) (fun _ _ => False) s) :
    WalkN q loose XP YP l.row.toRowW d [] (fun f vs => PySem.call f vs) := by
  intro w s₀ s₁ mg mb G Y fa o pm cd doc dV kV ho hd hcd hD hmg hg args vals as hpre hlay hrd hwl hlo
  obtain rfl : dV = .none := Dflts.none hD hdf
  obtain rfl : kV = .none := Dflts.noKw hD
  obtain ⟨a, vs, ns, rfl, rfl, hobj, hints, hlen⟩ := script_of hn hpre hwl
  refine enter_callW ?_
  refine call_cells_ret (o := o) (by rw [depth_caller]; decide) ho (fd_plain hd) G.T.nolimit hcd (hbind pm cd doc (.ref a)) (fun y hy => ?_) (fun h₁ tk F X => ?_) hco hgen hk
  · obtain rfl : y = (x, Value.ref a) := List.mem_singleton.mp hy
    rcases hx with e | e
    · exact .inl e
    · exact .inr ⟨e, cellsFrom_some _ _ _ (.inl e)⟩
  · refine wpAny_mono (body w s₀ s₁ { s₁ with heap := h₁, toks := tk } mg mb fa o pm cd doc a vs ns G Y ho (fd_plain hd) hcd hmg hobj hints hlen hg rfl F X) (fun f s' hq => ?_) (fun _ _ hq => hq)
    obtain ⟨rfl, h2, h3, h4⟩ := hq
    exact ⟨.inl ⟨.bool true, .bool true, [], rfl, fun _ => rfl, .bool true, post_true l _, fun _ => ⟨List.Pairwise.nil, fun _ hm => (nomatch hm)⟩⟩, h2, h3, h4⟩

/-! ### rules over ANY heap (no ledger) from facts about the written part K: the library's own take a ledger (News) for what they write -/
section
variable {prog : Program} {w : World} {A : Around} {E : Value → Shared → Prop} {s : Shared} {K : Frag}

/-- a def of the module, or a method (qual 'C.m'), entered: the frame is the next address; cells behind it -/
theorem call_fn {R : Result → Shared → Prop} {name qual : Str} {params : Arguments} {body : List Stmt} {scope : Scope} {dV kV doc pm cdv ct oc : Value} {an od : Option Addr} {osl : Array (Option Value)} {f : Addr} {args : Args} {binds : List (Str × Value)}
    (X : K.In s.heap) (hlim : s.heap.NoLimit) (ho : K.lookup f = some ⟨oc, od, .func (fnOf name qual params body scope dV kV doc pm an cdv ct), osl⟩) (hcd : codeIn K cdv qual = true) (hroom : A.depth < recursionLimit)
    (hbind : BindsTo s (fnOf name qual params body scope dV kV doc pm an cdv ct) args binds)
    (hkind : (binds.all fun y => scope.names.lookup y.1 == some .local || scope.names.lookup y.1 == some .cell) = true)
    (h : ∀ s₁, InCallC s s.heap.objs.size (bindL (envOfC qual scope s.heap.objs.size f cdv).kindOf binds fun _ => none) (cellsFrom (s.heap.objs.size + 1) scope.names [])
        (bindC (envOfC qual scope s.heap.objs.size f cdv).kindOf binds fun _ => none) s₁ →
      wpAny (model prog w) (A.deeper (envOfC qual scope s.heap.objs.size f cdv)) (execs body (envOfC qual scope s.heap.objs.size f cdv))
        (fun fl s' => R (.ok (.ret (match fl with | .ret v => v | _ => .none))) s')
        (fun e s' => wpAny (model prog w) (A.deeper (envOfC qual scope s.heap.objs.size f cdv)) (leaving (envOfC qual scope s.heap.objs.size f cdv) e) (fun _ s'' => R (.error e) s'') (fun e' s'' => R (.error e') s'') s') s₁)
    (hco : scope.isCoroutine = false) (hgen : scope.isGenerator = false) (hk : scope.kind = .function) : codeAny (model prog w) A (.call (.ref f) args) R s := by
  refine codeAny_call_function hroom (X _ _ ho) rfl hco hgen rfl (codeRec_of X hcd) (hbind _ _ _ _ ?_)
  refine wpAny_newFunctionEnv_cells hk (kindsX hkind _) fun env he s₁ x => ?_
  subst he
  exact ⟨hlim.keeps x.toInCall.keep, codeAny_func (h s₁ x)⟩

/-- C(..): dict at size, instance at size + 1, then __init__ -/
theorem make_obj {R : Result → Shared → Prop} {C fI : Addr} {rest : List Value} {kw : List (Str × Value)}
    (X : K.In s.heap) (hm : makesIn K C = true) (hi : findIn K (.ref C) "__init__" = some (some (.ref fI))) (hf : isFn K (.ref fI) = true)
    (h : codeAny (model prog w) (A.under (.builtin "type.__call__" ⟨.ref C :: rest, kw⟩)) (.call (.ref fI) ⟨.ref (s.heap.objs.size + 1) :: rest, kw⟩) (InitBack (s.heap.objs.size + 1) R)
      { s with heap := (s.heap.push emptyDict).push (instObj C s.heap.objs.size) }) : codeAny (model prog w) A (.call (.ref C) ⟨rest, kw⟩) R s := by
  obtain ⟨hh, g, d, t, os⟩ := s
  exact make_core (makes_of X hm) (looks_findIn X hi) (fun self => bind_fn X self (beq_iff_eq.mp hf)) (.inl rfl) h

/-- x.name where the instance's dict holds the name and the class does not -/
theorem get_field {x C : Addr} {ox : Obj} {es : List DictEntry} {n : Nat} {name : Str} {expr : Bool} {v : Value} {Q : Value → Shared → Prop}
    (X : K.In s.heap) (I : PySem.W.InstAt s.heap x ox C (some (dictOf es n))) (hg : plainGet K C name = true) (hh : hasDictIn K C = true) (ha : findIn K (.ref C) name = some none)
    (hl : getL name es = some (some v)) (hv : handedIn v = true) (h : Q v { s with toks := s.toks + 1 }) : wpAny (model prog w) A (getAttr (.ref x) name expr) Q E s :=
  get_value X I (plainGet_of hg).1 (findObj_own hh ha rfl hl) hv h

/-- x.m(..): the method found in the class -/
theorem get_method {x C f : Addr} {ox : Obj} {es : List DictEntry} {n : Nat} {name : Str} {pl : Sem Bool} {Q : Value × List Value → Shared → Prop}
    (X : K.In s.heap) (I : PySem.W.InstAt s.heap x ox C (some (dictOf es n))) (hg : plainGet K C name = true) (hf : findIn K (.ref C) name = some (some (.ref f))) (ht : isFn K (.ref f) = true)
    (hl : getL name es = some none) (h : Q (.ref f, [.ref x]) s) : wpAny (model prog w) A (getMethod (.ref x) name pl) Q E s :=
  method_fn X I (plainGet_of hg).1 (plainGet_of hg).2 hf (beq_iff_eq.mp ht) (by show (lookIn name (dictOf es n)).map _ = _; rw [lookIn_dict, hl]; rfl) h

/-! the whole heap as the ledger: makes every rule that writes through a ledger a rule over any heap -/
def noObjs (h : Heap) : Heap := { h with objs := #[] }
theorem noObjs_get (h : Heap) (b : Addr) : (noObjs h).get? b = none := by
  cases e : (noObjs h).get? b with
  | none => rfl
  | some o => exact absurd (Heap.lt_size e) (Nat.not_lt_zero _)
def ledger (h : Heap) (L d : Addr) : List (Addr × Obj) := (List.range h.objs.size).filterMap fun a => if a = L ∨ a = d then none else (h.get? a).map fun o => (a, o)
theorem mem_ledger {h : Heap} {L d a : Addr} {o : Obj} : (a, o) ∈ ledger h L d ↔ a ≠ L ∧ a ≠ d ∧ h.get? a = some o := by
  unfold ledger
  rw [List.mem_filterMap]
  constructor
  · rintro ⟨b, _, e⟩
    split at e
    · cases e
    · rename_i hb
      obtain ⟨o', ho, e'⟩ := Option.map_eq_some_iff.mp e
      cases e'
      exact ⟨fun q => hb (.inl q), fun q => hb (.inr q), ho⟩
  · rintro ⟨n1, n2, ho⟩
    refine ⟨a, List.mem_range.mpr (Heap.lt_size ho), ?_⟩
    rw [if_neg (show ¬ (a = L ∨ a = d) from fun q => q.elim n1 n2), ho] <;> rfl
theorem news_ledger {h : Heap} {L d : Addr} {od : Obj} (hne : d ≠ L) (ho : h.get? d = some od) : News (noObjs h) L h ([] ++ (d, od) :: ledger h L d) := by
  rintro ⟨a, o⟩ hp
  rcases List.mem_cons.mp hp with e | hp
  · cases e
    exact ⟨ho, hne, noObjs_get _ _⟩
  · obtain ⟨n1, n2, e⟩ := mem_ledger.mp hp
    exact ⟨e, n1, noObjs_get _ _⟩
theorem fr_all {h : Heap} {L : Addr} {m : Str → Option Value} (n : h.Ns L m) : Fr (noObjs h) L h m :=
  ⟨n, fun b o e => (by rw [noObjs_get] at e; cases e), Nat.zero_le _⟩
/-- Upd of the head entry (for append_K, setItem_K ..) -/
theorem upd_ledger {h : Heap} {L d : Addr} {o o' : Obj} : Upd d o o' ((d, o) :: ledger h L d) ((d, o') :: ledger h L d) :=
  .head fun ⟨_, _⟩ hp => (mem_ledger.mp hp).2.1

/-- x.name = v over any heap: L is any namespace of the heap (the frame's, say): its map stays, its object is not told; all else but the dict stays -/
theorem set_field {x C dx L : Addr} {ox : Obj} {m : Str → Option Value} {es es' : List DictEntry} {n n' : Nat} {name : Str} {v : Value} {Q : Unit → Shared → Prop}
    (X : K.In s.heap) (I : PySem.W.InstAt s.heap x ox C (some (dictOf es n))) (hd : ox.dict = some dx) (hL : s.heap.Ns L m) (hne : dx ≠ L)
    (hs : findIn K (.ref C) "__setattr__" = some (some (.builtin "object.__setattr__"))) (hp : plainOver K C = true) (ht : takerIn K C name = some none) (hh : hasDictIn K C = true) (hl : (getL name es).isSome = true)
    (e : (putL name (PyData.keyHash w.params name) (.str name (s.toks + 1)) v es, putN name es n) = (es', n')) (hz : es'.length ≤ 1000)
    (h : ∀ h' : Heap, h'.Ns L m → h'.get? dx = some (dictOf es' n') → (∀ b o, b ≠ dx → b ≠ L → s.heap.get? b = some o → h'.get? b = some o) → Q () { s with heap := h', toks := s.toks + 2 }) :
    wpAny (model prog w) A (setAttr (.ref x) name v) Q E s := by
  obtain ⟨e1, e2⟩ := Prod.mk.inj e
  have hdx : s.heap.get? dx = some (dictOf es n) := by
    have := I.dict
    rw [hd] at this
    exact this
  refine set_plain X I hs (osa_dict (s := { s with toks := s.toks + 1 }) (h₀ := noObjs s.heap) (L := L) (m := m) (od := dictOf es n) (od' := dictOf es' n') (es := es') (n := n') (pre := []) (post := ledger s.heap L dx)
    (fr_all hL) (news_ledger hne hdx) X I hd hp ht hh hl (fun _ q => nomatch q) (fun ⟨_, _⟩ q => (mem_ledger.mp q).2.1) (by rw [putName_dict, e1, e2]) rfl hz fun h' F' N' => ?_)
  exact h h' F'.ns (N'.get (List.Mem.head _)) fun b o n1 n2 ho => N'.get (List.Mem.tail _ (mem_ledger.mpr ⟨n2, n1, ho⟩))
end
end Att

namespace L2
open PySem PySem.Spec PyProof.Rows

theorem vals_ints : ∀ {vs : List Value} {ns : List Int}, IntsAre vs ns → Vals (ns.map V.int) vs
  | _, _, .nil => .nil
  | _, _, .cons n t h => .cons ⟨t, rfl⟩ (vals_ints h)

/-- nothing is tracked but the script, known to the object (or it is an object of the module) -/
def Only (H : Hp) : Prop := ∀ b, H b = none ∨ ∃ o xs, H b = some (.frz o (.lst xs))

/-- THE HEAD: the law's promise, at the heap behind the top. F, the promise of the law's def, may use that base is part of the heap (so K.In base, base.Ns mainGlobals mg stand in Mod) -/
theorem law_call {P : Program} {w : World} {K : PySem.W.Frag} {mg mb : Str → Option Value} {CX : CXT} {k : Nat} {fa a : Addr} {fd : FuncData} {x : Str} {sp : Sp} {s₁ : Shared} {vs : List Value} {ns : List Int}
    (KX : K.In s₁.heap) (hns : s₁.heap.Ns mainGlobals mg) (hb : s₁.heap.Ns builtinsNs mb) (hbb : ∀ x : Str, x ≠ "__name__" → mb x = bootBuiltins x) (hlim : s₁.heap.NoLimit) (hg : s₁.gens = #[])
    (ha : s₁.heap.get? a = some { cls := .type "list", data := .seq vs.toArray }) (hi : IntsAre vs ns) (hl : ns.length ≤ sizeLine) (hr : Room k callerA)
    (F : ∀ base : Heap, K.In base → base.Ns mainGlobals mg → FnOk P w K mg base CX k fa fd [x] sp) (hbind : ∀ (s : Shared) (u : Value), BindsTo s fd ⟨[u], []⟩ [(x, u)])
    (hsp : ∀ H : Hp, Only H → SqL K H a (ns.map V.int) → sp [.ref a] H (fun v _ => v = .bl true) fun _ _ _ => False)
    (hCX : ∀ H e s', CX [] H s₁ (fun _ _ _ => False) e s' → False) :
    codeAny (model P w) callerA (.call (.ref fa) ⟨[.ref a], []⟩) (fun r s' => r = .ok (.ret (.bool true)) ∧ OldK s₁.heap s'.heap ∧ s'.os = s₁.os ∧ AllBare s'.gens) s₁ := by
  have rv := vals_ints hi
  have lenV := hi.length
  -- from an abstract heap in which nothing but the script may be tracked
  have core : ∀ H : Hp, Only H → SqL K H a (ns.map V.int) → HOk P w H s₁.heap → (∀ b, H b ≠ none → b = a) → (H a ≠ none → K.lookup a = none) →
      codeAny (model P w) callerA (.call (.ref fa) ⟨[.ref a], []⟩) (fun r s' => r = .ok (.ret (.bool true)) ∧ OldK s₁.heap s'.heap ∧ s'.os = s₁.os ∧ AllBare s'.gens) s₁ := by
    intro H hO hS hok hA hK
    have base_of : ∀ {b : Addr} {o : Obj}, s₁.heap.get? b = some o → H b = none → (hidT s₁.heap H).get? b = some o := fun e n => hidT_get e n
    have noA : ∀ {b : Addr} {o : Obj} {es : Array DictEntry} {ep : Nat}, s₁.heap.get? b = some o → o.data = .dict es ep → H b = none := fun {b o es ep} e d => by
      cases q : H b with
      | none => rfl
      | some u =>
        have e' : b = a := hA b (by rw [q]; simp)
        subst e'
        rw [ha] at e; cases e
        have d' : Data.seq vs.toArray _ = Data.dict es ep := d
        cases d'
    have nsK : ∀ {b : Addr} {m : Str → Option Value}, s₁.heap.Ns b m → (hidT s₁.heap H).Ns b m := fun {b m} ⟨o, es, ep, e, d, r⟩ => ⟨o, es, ep, base_of e (noA e d), d, r⟩
    have hKb : K.In (hidT s₁.heap H) := fun b o e => base_of (KX b o e) (by
      cases q : H b with
      | none => rfl
      | some u =>
        have e' : b = a := hA b (by rw [q]; simp)
        subst e'
        rw [hK (by rw [q]; simp)] at e; cases e)
    have hM : Mod K mg (hidT s₁.heap H) := ⟨hKb, nsK hns, ⟨mb, nsK hb, hbb⟩, let ⟨mc, h1, h2⟩ := hlim; ⟨mc, nsK h1, h2⟩⟩
    have e0 : Env0 P w K mg (hidT s₁.heap H) callerA [] s₁ H := ⟨rfl, hM, fun b o e => of_hidT e, Nat.le_of_eq (hidT_size _ _), trivial, fun b hb => absurd (show b ∈ ([] : List Addr) from hb) (by simp), hok, .of_eq hg⟩
    refine codeAny_mono ((F _ hKb (nsK hns)).run callerA [] s₁ H ⟨[.ref a], []⟩ [.ref a] [.ref a] _ _ hr e0 (hbind s₁ (.ref a)) (.cons rfl .nil) (hsp H hO hS)) fun r s' h => ?_
    cases r with
    | error e => exact (hCX H e s' h).elim
    | ok fl =>
      cases fl with
      | next => exact False.elim h
      | brk => exact False.elim h
      | cont => exact False.elim h
      | ret u =>
        obtain ⟨v, H', os, bare, un, hok', r', q⟩ := h
        have q' : v = .bl true := q
        subst q'
        obtain rfl : u = Value.bool true := r'
        refine ⟨rfl, OldK.of_keep fun b o e => ?_, os, bare⟩
        cases q : H b with
        | none => exact un.keep b o e q (by intro z; exact absurd (show b ∈ ([] : List Addr) from z) (by simp)) (by simp)
        | some u =>
          rcases hO b with z | ⟨ob, xs, z⟩
          · rw [q] at z; cases z
          · have z2 := un.frzs b ob _ z
            obtain ⟨e1, _⟩ := hok b _ z
            obtain ⟨e2, _⟩ := hok' b _ z2
            rw [e] at e1; cases e1
            exact e2
  cases hk : K.lookup a with
  | some o =>
    -- the script is one of the module's own objects
    have e := KX a o hk
    rw [ha] at e
    cases e
    refine core (fun _ => none) (fun _ => .inl rfl) (.inr ⟨_, vs.toArray, _, hk, rfl, rfl, rfl, by rw [List.size_toArray, lenV]; exact hl, by simpa using rv⟩) (fun b u z => by have z' : (none : Option HO) = some u := z; cases z') (fun b z => absurd rfl z) fun z => absurd rfl z
  | none =>
    refine core (fun b => if b = a then some (.frz { cls := .type "list", data := .seq vs.toArray } (.lst (ns.map V.int))) else none) (fun b => ?_) (.inl (.inr ⟨{ cls := .type "list", data := .seq vs.toArray }, if_pos rfl⟩)) (fun b u z => ?_) (fun b z => ?_) fun _ => hk
    · by_cases hb : b = a
      · exact .inr ⟨_, _, if_pos hb⟩
      · exact .inl (if_neg hb)
    · by_cases hb : b = a
      · have z' := (if_pos hb).symm.trans z
        cases z'
        subst hb
        exact ⟨ha, by rw [List.length_map]; exact hl, vs, _, rv, ha⟩
      · have z' := (if_neg hb).symm.trans z
        cases z'
    · by_cases hb : b = a
      · exact hb
      · exact absurd (if_neg hb) z
end L2

namespace L2
open PySem PySem.Spec PyProof.Rows

abbrev KOf {K : PySem.W.Frag} {h : Heap} (_ : K.In h) : PySem.W.Frag := K

/-- the goal that k_head leaves (case hc), from the law's promise. F gives the function object fd (K's own) once, then the promise over every base -/
theorem walk_of {l : PySem.W.OpenLaw} {n k : Nat} {q : Program} {loose : List Str} {XP : (Str → Option Value) → Heap → Prop} {YP : World → Heap → Prop} {d : DefRec} {K : Params → PySem.W.Frag} {CX : World → CXT} {sp : World → Sp} {x : Str}
    (hn : l.most = some n) (hn2 : n ≤ sizeLine) (hdf : d.params.defaults = []) (hr : Room k callerA)
    (hY : ∀ (w : World) (h : Heap), YP w h → (K w.params).In h)
    (F : ∀ (w : World) (mg : Str → Option Value) (fa : Addr) (h : Heap), (K w.params).In h → h.Ns mainGlobals mg → mg d.name = some (.ref fa) →
      ∃ fd : FuncData, (∀ (s : Shared) (u : Value), BindsTo s fd ⟨[u], []⟩ [(x, u)]) ∧
        ∀ base : Heap, (K w.params).In base → base.Ns mainGlobals mg → FnOk l.prog w (K w.params) mg base (CX w) k fa fd [x] (sp w))
    (hsp : ∀ (w : World) (H : Hp) (a : Addr) (ns : List Int), ns.length ≤ n → Only H → SqL (K w.params) H a (ns.map V.int) → sp w [.ref a] H (fun v _ => v = .bl true) fun _ _ _ => False)
    (hCX : ∀ (w : World) (H : Hp) (s : Shared) (e : Value) (s' : Shared), CX w [] H s (fun _ _ _ => False) e s' → False) :
    PySem.W.WalkO q loose XP YP l.row.toRowW d [] (fun f vs => PySem.call f vs) := by
  refine Att.attach_call hn hdf fun w s₀ s₁ mg mb fa o pm cd doc a vs ns G Y ho hd hcd hmg hobj hints hlen hg => ?_
  have KX := hY w _ Y
  obtain ⟨fd, hb, hF⟩ := F w mg fa _ KX G.T.g hmg
  exact law_call KX G.T.g G.T.b G.T.builtins G.T.nolimit hg hobj hints (Nat.le_trans hlen hn2) hr hF hb (fun H hO hS => hsp w H a ns hlen hO hS) fun H e s' => hCX w H s₁ e s'
/-- the same where the promise hangs on the written part alone: (sp := My.sp_law), no hole under a binder -/
theorem walk_ofK {l : PySem.W.OpenLaw} {n k : Nat} {q : Program} {loose : List Str} {XP : (Str → Option Value) → Heap → Prop} {YP : World → Heap → Prop} {d : DefRec} {K : Params → PySem.W.Frag} {CX : CXT} {sp : PySem.W.Frag → Sp} {x : Str}
    (hn : l.most = some n) (hn2 : n ≤ sizeLine) (hdf : d.params.defaults = []) (hr : Room k callerA)
    (hY : ∀ (w : World) (h : Heap), YP w h → (K w.params).In h)
    (F : ∀ (w : World) (mg : Str → Option Value) (fa : Addr) (h : Heap), (K w.params).In h → h.Ns mainGlobals mg → mg d.name = some (.ref fa) →
      ∃ fd : FuncData, (∀ (s : Shared) (u : Value), BindsTo s fd ⟨[u], []⟩ [(x, u)]) ∧
        ∀ base : Heap, (K w.params).In base → base.Ns mainGlobals mg → FnOk l.prog w (K w.params) mg base CX k fa fd [x] (sp (K w.params)))
    (hsp : ∀ (K : PySem.W.Frag) (H : Hp) (a : Addr) (ns : List Int), ns.length ≤ n → Only H → SqL K H a (ns.map V.int) → sp K [.ref a] H (fun v _ => v = .bl true) fun _ _ _ => False)
    (hCX : ∀ (H : Hp) (s : Shared) (e : Value) (s' : Shared), CX [] H s (fun _ _ _ => False) e s' → False) :
    PySem.W.WalkO q loose XP YP l.row.toRowW d [] (fun f vs => PySem.call f vs) :=
  walk_of (K := K) (CX := fun _ => CX) (sp := fun w => sp (K w.params)) hn hn2 hdf hr hY F (fun w H a ns h1 h2 h3 => hsp (K w.params) H a ns h1 h2 h3) fun _ H s e s' => hCX H s e s'
end L2



/-! SHORT WORDS over the layer: a def of the text, its body, what a loop and a test want. -/
namespace L2
open PySem PySem.Spec PyProof.Rows

/-! ### the text by places -/
/-- the j-th statement of a class's body -/
def inClass (s : Stmt) (j : Nat) : Stmt := match s with
  | .ClassDef _ _ _ body _ _ _ _ _ _ _ => body.getD j (.Pass ⟨0, 0, 0, 0⟩)
  | _ => .Pass ⟨0, 0, 0, 0⟩
def defArgs (s : Stmt) : Arguments := match s with
  | .FunctionDef _ a _ _ _ _ _ _ _ _ => a
  | _ => { posonlyargs := [], args := [], vararg := none, kwonlyargs := [], kw_defaults := [], kwarg := none, defaults := [] }
def defBody (s : Stmt) : List Stmt := match s with
  | .FunctionDef _ _ b _ _ _ _ _ _ _ => b
  | _ => []
def defScope (s : Stmt) : Scope := match s with
  | .FunctionDef _ _ _ _ _ _ sc _ _ _ => sc
  | _ => { kind := .function, names := [], isGenerator := false, isCoroutine := false }

/-! ### no exception leaves a def -/
abbrev CX0 : CXT := fun _ _ _ _ _ _ => False
abbrev E0 : XK := fun _ _ _ => False
theorem pass0 {X : Cx} : Passes CX0 X E0 := fun _ _ _ _ _ _ _ h => h.elim

/-! ### a def (or method) of the text as it stands behind the top -/
structure Fun (K : PySem.W.Frag) (x qual : Str) (st : Stmt) (f : Addr) (fd : FuncData) : Prop where
  ex : ∃ (oc : Value) (od : Option Addr) (kV doc pm : Value) (an : Option Addr) (cdv ct : Value) (osl : Array (Option Value)),
    fd = PySem.W.fnOf x qual (defArgs st) (defBody st) (defScope st) .none kV doc pm an cdv ct ∧ K.lookup f = some ⟨oc, od, .func fd, osl⟩ ∧ PySem.W.codeIn K cdv qual = true
  kp : PySem.W.keepIn K (.ref f) = true
section
variable {P : Program} {w : World} {K : PySem.W.Frag} {mg : Str → Option Value} {base : Heap}
/-- THE RULE for a def: its body as a term of rules, and the reading of that term -/
theorem Fun.ok {x qual : Str} {st : Stmt} {f : Addr} {fd : FuncData} {N ps : List Str} {k : Nat} {sp : Sp} (F : Fun K x qual st f fd) (S : FnScope N ps (defScope st)) (len : ∀ vs H Q E, sp vs H Q E → vs.length = ps.length)
    (hbody : ∀ (cdv : Value) (A : Around) (outer : List Env) (s : Shared) (H : Hp) (vs : List V) (Q : VK) (E : XK), Room k (A.deeper (envOfC qual (defScope st) s.heap.objs.size f cdv)) → sp vs H Q E →
      ∃ t, PSs (cxOf CX0 P w K mg base N qual (defScope st) f cdv A outer s H E).nox (defBody st) t ∧ t { nx := fun _ H' => Q .non H', rt := Q } (start N vs) H) : FnOk P w K mg base CX0 (k + 1) f fd ps sp := by
  obtain ⟨oc, od, kV, doc, pm, an, cdv, ct, osl, rfl, lk, hcd⟩ := F.ex
  refine fn_of lk hcd S len fun A outer s H vs Q E hr hsp => ?_
  obtain ⟨t, h, q⟩ := hbody cdv A outer s H vs Q E hr hsp
  exact ⟨t, h.nox, q⟩
/-- how its arguments bind (no defaults): h is «fun _ _ _ _ _ _ us hl => match us, hl with | [_, _], _ => rfl», one _ a parameter -/
theorem Fun.binds {x qual : Str} {st : Stmt} {f : Addr} {fd : FuncData} {ps : List Str} (F : Fun K x qual st f fd)
    (h : ∀ (kV doc pm : Value) (an : Option Addr) (cdv ct : Value) (us : List Value), us.length = ps.length → bindArgs (PySem.W.fnOf x qual (defArgs st) (defBody st) (defScope st) .none kV doc pm an cdv ct) ⟨us, []⟩ = pure (ps.zip us)) : Binds K fd ps [] := by
  obtain ⟨oc, od, kV, doc, pm, an, cdv, ct, osl, rfl, lk, hcd⟩ := F.ex
  exact .all (h kV doc pm an cdv ct)
theorem fun_mk {x qual : Str} {st : Stmt} {f : Addr} {oc : Value} {od an : Option Addr} {osl : Array (Option Value)} {kV doc pm cdv ct : Value} (l : K.lookup f = some ⟨oc, od, .func (PySem.W.fnOf x qual (defArgs st) (defBody st) (defScope st) .none kV doc pm an cdv ct), osl⟩)
    (c : PySem.W.codeIn K cdv qual = true) (k : PySem.W.keepIn K (.ref f) = true) : Fun K x qual st f (PySem.W.fnOf x qual (defArgs st) (defBody st) (defScope st) .none kV doc pm an cdv ct) := ⟨⟨oc, od, kV, doc, pm, an, cdv, ct, osl, rfl, l, c⟩, k⟩
end
theorem hu_of {A : Around} {k : Nat} (hr : Room k A) : A.units + 1 < cLine := Nat.lt_of_le_of_lt (Nat.add_le_add_left (by decide : 1 ≤ 64) _) hr.units
theorem small1000 {n : Nat} (h : n ≤ 1000) : n < sizeLine := Nat.lt_of_le_of_lt h (by decide)

/-! ### expressions in short: the name that stands in the i-th slot -/
section
variable {X : Cx}
theorem pv (i : Nat) {x : Str} {pos : Pos} (hN : X.N[i]? = some x := by rfl) (hv : Vis X.env.scope x := by first | exact Or.inl rfl | exact Or.inr (Or.inl rfl) | exact Or.inr (Or.inr rfl)) (hd : (x == ("__debug__" : Str)) = false := by decide)
    (hcd : (x == ("__classdict__" : Str)) = false := by decide) : PE X (.Name x pos) (tVar i) := pe_var hN hv hd hcd
end

/-! ### tests -/
theorem iteF {A B : Prop} (h : B) : if false = true then A else B := by
  rw [if_neg Bool.false_ne_true]
  exact h
theorem iteT {A B : Prop} (h : A) : if true = true then A else B := by
  rw [if_pos rfl]
  exact h
theorem ite2 {c A B : Prop} [Decidable c] (h1 : c → A) (h2 : ¬ c → B) : if c then A else B := by
  by_cases h : c
  · rw [if_pos h]
    exact h1 h
  · rw [if_neg h]
    exact h2 h
theorem iteNS {c A B : Prop} [Decidable c] (hc : c) (h : B) : if (!decide c) = true then A else B := by
  rw [decide_eq_true hc]
  exact iteF h

/-! ### heaps -/
/-- all that was tracked is as it was -/
def Same (H H' : Hp) : Prop := ∀ b o, H b = some o → H' b = some o
theorem Same.refl (H : Hp) : Same H H := fun _ _ h => h
theorem Same.trans {H H1 H2 : Hp} (a : Same H H1) (b : Same H1 H2) : Same H H2 := fun c o h => b c o (a c o h)
theorem Same.free {H H' : Hp} (e : Same H H') {l : Addr} (h : H' l = Option.none) : H l = Option.none := by
  cases q : H l with
  | none => rfl
  | some o =>
    rw [e l o q] at h
    cases h
theorem Same.seq {K : PySem.W.Frag} {H H' : Hp} {a : Addr} {xs : List V} (e : Same H H') (h : SqL K H a xs) : SqL K H' a xs := by
  rcases h with (h | ⟨o, h⟩) | h
  · exact .inl (.inl (e _ _ h))
  · exact .inl (.inr ⟨o, e _ _ h⟩)
  · exact .inr h

end L2

set_option maxHeartbeats 4000000
namespace Mth

def Sz (n : Nat) (x : Int) : Prop := x.natAbs < 2 ^ n
instance {n : Nat} {x : Int} : Decidable (Sz n x) := inferInstanceAs (Decidable (x.natAbs < 2 ^ n))
theorem Sz.mono {m n : Nat} {x : Int} (h : Sz m x) (hm : m ≤ n) : Sz n x :=
  Nat.lt_of_lt_of_le h (Nat.pow_le_pow_right (by decide) hm)
theorem Sz.mul {m n : Nat} {x y : Int} (hx : Sz m x) (hy : Sz n y) : Sz (m + n) (x * y) := by
  unfold Sz at *
  rw [Int.natAbs_mul, Nat.pow_add]
  exact Nat.mul_lt_mul'' hx hy
theorem Sz.add {m : Nat} {x y : Int} (hx : Sz m x) (hy : Sz m y) : Sz (m + 1) (x + y) := by
  unfold Sz at *
  rw [Nat.pow_succ]
  have := Int.natAbs_add_le x y
  omega
theorem Sz.neg {m : Nat} {x : Int} (hx : Sz m x) : Sz m (-x) := by
  unfold Sz at *
  rw [Int.natAbs_neg]; exact hx
theorem Sz.sub {m : Nat} {x y : Int} (hx : Sz m x) (hy : Sz m y) : Sz (m + 1) (x - y) := by
  rw [Int.sub_eq_add_neg]; exact hx.add hy.neg
theorem Sz.of_le {m : Nat} {x y : Int} (hx : Sz m x) (h : y.natAbs ≤ x.natAbs) : Sz m y := Nat.lt_of_le_of_lt h hx
theorem Sz.log {m : Nat} {x : Int} (hx : Sz m x) (hm : m ≤ 9000) (h0 : 0 < m) : x.natAbs.log2 < 9000 := by
  by_cases h : x.natAbs = 0
  · rw [h]; decide
  · have := (Nat.log2_lt h).mpr hx
    omega
theorem Sz.of_lt {m k : Nat} {x : Int} (h : x.natAbs < k) (hk : k ≤ 2 ^ m) : Sz m x := Nat.lt_of_lt_of_le h hk

/-- (t', b') is t over b in lowest terms -/
structure Low (t b t' b' : Int) : Prop where
  pos : 1 ≤ b'
  co : Int.gcd t' b' = 1
  eq : t' * b = t * b'
  tb : t'.natAbs ≤ t.natAbs
  bb : b'.natAbs ≤ b.natAbs

theorem gcd_step (x y : Nat) : Nat.gcd y (x % y) = Nat.gcd x y := by
  rw [Nat.gcd_comm y, ← Nat.gcd_rec, Nat.gcd_comm]

theorem ediv_gcd {t b : Int} (hb : b ≠ 0) : Int.gcd (t / (Int.gcd t b : Int)) (b / (Int.gcd t b : Int)) = 1 := by
  have hp : 0 < Int.gcd t b := Int.gcd_pos_of_ne_zero_right t hb
  rw [Int.gcd_ediv (Int.gcd_dvd_left ..) (Int.gcd_dvd_right ..)]
  rw [Int.natAbs_natCast]
  exact Nat.div_self hp
theorem le_of_mul {a : Int} {g : Nat} {c : Int} (hg : 0 < g) (e : a * (g : Int) = c) : a.natAbs ≤ c.natAbs := by
  subst e
  rw [Int.natAbs_mul, Int.natAbs_natCast]
  exact Nat.le_mul_of_pos_right _ hg

/-- from any split by the gcd -/
theorem low_mk {t b t' b' : Int} {g : Nat} (hg : 0 < g) (e1 : t' * (g : Int) = t) (e2 : b' * (g : Int) = b) (hb : 0 < b) (hc : Int.gcd t' b' = 1) : Low t b t' b' := by
  refine ⟨?_, hc, ?_, le_of_mul hg e1, le_of_mul hg e2⟩
  · have : 0 < b' := Int.pos_of_mul_pos_left (b := (g : Int)) (by rw [e2]; exact hb) (by omega)
    omega
  · rw [← e1, ← e2, Int.mul_assoc, Int.mul_comm (g : Int) b']

/-- by the gcd itself, the bottom above nought -/
theorem low_pos {t b : Int} (hb : 0 < b) : Low t b (t.fdiv (Int.gcd t b : Int)) (b.fdiv (Int.gcd t b : Int)) := by
  have hp : 0 < Int.gcd t b := Int.gcd_pos_of_ne_zero_right t (by omega)
  have h1 : (Int.gcd t b : Int) ∣ t := Int.gcd_dvd_left ..
  have h2 : (Int.gcd t b : Int) ∣ b := Int.gcd_dvd_right ..
  rw [Int.fdiv_eq_ediv_of_nonneg _ (by omega), Int.fdiv_eq_ediv_of_nonneg _ (by omega)]
  exact low_mk hp (Int.ediv_mul_cancel h1) (Int.ediv_mul_cancel h2) hb (ediv_gcd (by omega))

theorem fdiv_neg_neg (a : Int) (g : Nat) : a.fdiv (-(g : Int)) = (-a).fdiv (g : Int) := by
  have := Int.neg_fdiv_neg a (-(g : Int))
  rw [Int.neg_neg] at this
  exact this.symm

/-- by the gcd with the other sign, the bottom below nought -/
theorem low_neg {t b : Int} (hb : b < 0) : Low (-t) (-b) (t.fdiv (-(Int.gcd t b : Int))) (b.fdiv (-(Int.gcd t b : Int))) := by
  have e : Int.gcd t b = Int.gcd (-t) (-b) := by rw [Int.gcd_neg, Int.neg_gcd]
  rw [fdiv_neg_neg, fdiv_neg_neg, e]
  exact low_pos (by omega)

theorem co_dvd {b a d : Int} (hc : Int.gcd b a = 1) (h : b ∣ a * d) : b ∣ d := by
  have h' : b.natAbs ∣ a.natAbs * d.natAbs := by rw [← Int.natAbs_mul]; exact Int.natAbs_dvd_natAbs.mpr h
  have hc' : Nat.Coprime b.natAbs a.natAbs := hc
  exact Int.natAbs_dvd_natAbs.mp (hc'.dvd_of_dvd_mul_left h')
/-- lowest terms are told in one way only -/
theorem low_unique {a b c d : Int} (hb : 1 ≤ b) (hd : 1 ≤ d) (h1 : Int.gcd a b = 1) (h2 : Int.gcd c d = 1) (e : a * d = c * b) : a = c ∧ b = d := by
  have k1 : b ∣ d := by
    have : b ∣ a * d := ⟨c, by rw [e, Int.mul_comm]⟩
    exact co_dvd (by rw [Int.gcd_comm]; exact h1) this
  have k2 : d ∣ b := by
    have : d ∣ c * b := ⟨a, by rw [← e, Int.mul_comm]⟩
    exact co_dvd (by rw [Int.gcd_comm]; exact h2) this
  have hbd : b = d := Int.dvd_antisymm (by omega) (by omega) k1 k2
  subst hbd
  exact ⟨Int.eq_of_mul_eq_mul_right (by omega) e, rfl⟩

theorem Low.self {t b t' b' : Int} (h : Low t b t' b') (hb : 1 ≤ b) (hc : Int.gcd t b = 1) : t' = t ∧ b' = b :=
  let ⟨a, c⟩ := low_unique hb h.pos hc h.co h.eq.symm
  ⟨a.symm, c.symm⟩
theorem Low.same {t b t1 b1 t2 b2 : Int} (h1 : Low t b t1 b1) (h2 : Low t b t2 b2) (hb : b ≠ 0) : t1 = t2 ∧ b1 = b2 := by
  refine low_unique h1.pos h2.pos h1.co h2.co ?_
  have e1 := h1.eq
  have e2 := h2.eq
  have : t1 * b2 * b = t2 * b1 * b := by
    rw [Int.mul_right_comm, e1, Int.mul_right_comm t2 b1 b, e2, Int.mul_right_comm]
  exact Int.eq_of_mul_eq_mul_right hb this
end Mth

/-! Euclid's way by the heads of two numbers: what the four factors keep. -/
namespace Mth
/-- the factors behind some steps of two heads H, L: the last two numbers are high, low -/
structure Steps (H L high low x0 y0 x1 y1 : Int) : Prop where
  sg : (x0 * y1 - x1 * y0 = 1 ∧ 0 ≤ x0 ∧ y0 ≤ 0 ∧ x1 ≤ 0 ∧ 1 ≤ y1) ∨ (x0 * y1 - x1 * y0 = -1 ∧ x0 ≤ 0 ∧ 0 ≤ y0 ∧ 0 ≤ x1 ∧ y1 ≤ -1)
  eh : x0 * H + y0 * L = high
  el : x1 * H + y1 * L = low
  l0 : 0 ≤ low
  lh : low ≤ high
  st : (x0 = 1 ∧ y0 = 0 ∧ x1 = 0 ∧ y1 = 1) ∨ (y0 ≠ 0 ∧ high ≤ L ∧ 340282366920938463463374607431768211456 ≤ high ∧ x0.natAbs ≤ x1.natAbs ∧ y0.natAbs ≤ y1.natAbs)

theorem Steps.init {H L : Int} (h0 : 0 ≤ L) (h : L ≤ H) : Steps H L H L 1 0 0 1 := ⟨.inl (by omega), by omega, by omega, h0, h, .inl (by omega)⟩

theorem div_le {x y : Int} (hx : 0 ≤ x) (hy : 0 ≤ y) : (x / y).natAbs ≤ x.natAbs := by
  have h1 := Int.ediv_le_self (a := x) y hx
  have h2 := Int.ediv_nonneg hx hy
  omega

theorem mul_ge {q z : Int} (hq : 1 ≤ q) (hz : 0 ≤ z) : z ≤ q * z := by
  have := Int.mul_le_mul_of_nonneg_right hq hz
  omega

theorem Steps.step {H L high low x0 y0 x1 y1 q : Int} (h : Steps H L high low x0 y0 x1 y1) (hl : 340282366920938463463374607431768211456 ≤ low) (hq : q = high / low) :
    Steps H L low (high - q * low) x1 y1 (x0 - q * x1) (y0 - q * y1) := by
  obtain ⟨sg, eh, el, l0, lh, st⟩ := h
  have q1 : 1 ≤ q := by
    rw [hq]; exact (Int.le_ediv_iff_mul_le (by omega)).mpr (by omega)
  have em : high - q * low = high % low := by
    have := Int.mul_ediv_add_emod high low
    rw [hq, Int.mul_comm]; omega
  have m0 : 0 ≤ high % low := Int.emod_nonneg _ (by omega)
  have m1 : high % low < low := Int.emod_lt_of_pos _ (by omega)
  have hlL : low ≤ L := by
    rcases st with ⟨a, b, c, d⟩ | ⟨_, a, _⟩
    · subst a b c d; omega
    · omega
  have det : x1 * (y0 - q * y1) - (x0 - q * x1) * y1 = -(x0 * y1 - x1 * y0) := by grind
  have hel : (x0 - q * x1) * H + (y0 - q * y1) * L = high - q * low := by rw [← eh, ← el]; grind
  refine ⟨?_, el, hel, by omega, by omega, .inr ⟨?_, hlL, hl, ?_, ?_⟩⟩
  · rcases sg with ⟨d, a, b, c, e⟩ | ⟨d, a, b, c, e⟩
    · right
      have k1 := mul_ge q1 (z := -x1) (by omega)
      have k2 := mul_ge q1 (z := y1) (by omega)
      rw [Int.mul_neg] at k1
      exact ⟨by omega, by omega, by omega, by omega, by omega⟩
    · left
      have k1 := mul_ge q1 (z := x1) (by omega)
      have k2 := mul_ge q1 (z := -y1) (by omega)
      rw [Int.mul_neg] at k2
      exact ⟨by omega, by omega, by omega, by omega, by omega⟩
  · rcases sg with ⟨d, a, b, c, e⟩ | ⟨d, a, b, c, e⟩ <;> omega
  · rcases sg with ⟨d, a, b, c, e⟩ | ⟨d, a, b, c, e⟩
    · have k1 := mul_ge q1 (z := -x1) (by omega)
      rw [Int.mul_neg] at k1
      omega
    · have k1 := mul_ge q1 (z := x1) (by omega)
      omega
  · rcases sg with ⟨d, a, b, c, e⟩ | ⟨d, a, b, c, e⟩
    · have k1 := mul_ge q1 (z := y1) (by omega)
      omega
    · have k1 := mul_ge q1 (z := -y1) (by omega)
      rw [Int.mul_neg] at k1
      omega

theorem Steps.high_le {H L high low x0 y0 x1 y1 : Int} (h : Steps H L high low x0 y0 x1 y1) (h1 : L ≤ H) : high ≤ H := by
  obtain ⟨sg, eh, el, l0, lh, st⟩ := h
  rcases st with ⟨a, b, c, d⟩ | ⟨_, a, _⟩
  · subst a b c d; omega
  · omega

/-- the factors' sizes, while the last number is above nought -/
theorem Steps.now_le {H L high low x0 y0 x1 y1 : Int} (h : Steps H L high low x0 y0 x1 y1) (hh : 1 ≤ high) : x1.natAbs ≤ L.natAbs ∧ y1.natAbs ≤ H.natAbs := by
  obtain ⟨sg, eh, el, l0, lh, st⟩ := h
  rcases sg with ⟨d, a, b, c, e⟩ | ⟨d, a, b, c, e⟩
  · have e1 : y1 * high + (-y0) * low = H := by
      have : y1 * high + (-y0) * low = (x0 * y1 - x1 * y0) * H := by rw [← eh, ← el]; grind
      rw [this, d]; omega
    have e2 : (-x1) * high + x0 * low = L := by
      have : (-x1) * high + x0 * low = (x0 * y1 - x1 * y0) * L := by rw [← eh, ← el]; grind
      rw [this, d]; omega
    have n1 : 0 ≤ (-y0) * low := Int.mul_nonneg (by omega) l0
    have n2 : 0 ≤ x0 * low := Int.mul_nonneg (by omega) l0
    have k1 : y1 ≤ y1 * high := by rw [Int.mul_comm]; exact mul_ge hh (by omega)
    have k2 : -x1 ≤ (-x1) * high := by rw [Int.mul_comm]; exact mul_ge hh (by omega)
    omega
  · have e1 : (-y1) * high + y0 * low = H := by
      have : (-y1) * high + y0 * low = -(x0 * y1 - x1 * y0) * H := by rw [← eh, ← el]; grind
      rw [this, d]; omega
    have e2 : x1 * high + (-x0) * low = L := by
      have : x1 * high + (-x0) * low = -(x0 * y1 - x1 * y0) * L := by rw [← eh, ← el]; grind
      rw [this, d]; omega
    have n1 : 0 ≤ y0 * low := Int.mul_nonneg (by omega) l0
    have n2 : 0 ≤ (-x0) * low := Int.mul_nonneg (by omega) l0
    have k1 : -y1 ≤ (-y1) * high := by rw [Int.mul_comm]; exact mul_ge hh (by omega)
    have k2 : x1 ≤ x1 * high := by rw [Int.mul_comm]; exact mul_ge hh (by omega)
    omega

theorem small_of_mul {y h B : Int} (hy : 0 ≤ y) (hh : 340282366920938463463374607431768211456 ≤ h) (hm : y * h ≤ B) (hB : B < 115792089237316195423570985008687907853269984665640564039457584007913129639936) : y ≤ 340282366920938463463374607431768211456 := by
  by_cases c : y ≤ 340282366920938463463374607431768211456
  · exact c
  · have := Int.mul_le_mul (a := 340282366920938463463374607431768211456) (c := y) (b := 340282366920938463463374607431768211456) (d := h) (by omega) hh (by omega) hy
    omega

/-- behind a step or more all factors are of half a head's bits -/
theorem Steps.small {H L high low x0 y0 x1 y1 : Int} (h : Steps H L high low x0 y0 x1 y1) (hy : y0 ≠ 0) (hL : L ≤ H) (hH : H < 115792089237316195423570985008687907853269984665640564039457584007913129639936) :
    x0.natAbs ≤ 340282366920938463463374607431768211456 ∧ y0.natAbs ≤ 340282366920938463463374607431768211456 ∧ x1.natAbs ≤ 340282366920938463463374607431768211456 ∧ y1.natAbs ≤ 340282366920938463463374607431768211456 := by
  obtain ⟨sg, eh, el, l0, lh, st⟩ := h
  rcases st with ⟨_, z, _⟩ | ⟨_, hl, hh, ax, ay⟩
  · exact absurd z hy
  rcases sg with ⟨d, a, b, c, e⟩ | ⟨d, a, b, c, e⟩
  · have e1 : y1 * high + (-y0) * low = H := by
      have : y1 * high + (-y0) * low = (x0 * y1 - x1 * y0) * H := by rw [← eh, ← el]; grind
      rw [this, d]; omega
    have e2 : (-x1) * high + x0 * low = L := by
      have : (-x1) * high + x0 * low = (x0 * y1 - x1 * y0) * L := by rw [← eh, ← el]; grind
      rw [this, d]; omega
    have n1 : 0 ≤ (-y0) * low := Int.mul_nonneg (by omega) l0
    have n2 : 0 ≤ x0 * low := Int.mul_nonneg (by omega) l0
    have k1 := small_of_mul (y := y1) (B := H) (by omega) hh (by omega) hH
    have k2 := small_of_mul (y := -x1) (B := H) (by omega) hh (by omega) hH
    omega
  · have e1 : (-y1) * high + y0 * low = H := by
      have : (-y1) * high + y0 * low = -(x0 * y1 - x1 * y0) * H := by rw [← eh, ← el]; grind
      rw [this, d]; omega
    have e2 : x1 * high + (-x0) * low = L := by
      have : x1 * high + (-x0) * low = -(x0 * y1 - x1 * y0) * L := by rw [← eh, ← el]; grind
      rw [this, d]; omega
    have n1 : 0 ≤ y0 * low := Int.mul_nonneg (by omega) l0
    have n2 : 0 ≤ (-x0) * low := Int.mul_nonneg (by omega) l0
    have k1 := small_of_mul (y := -y1) (B := H) (by omega) hh (by omega) hH
    have k2 := small_of_mul (y := x1) (B := H) (by omega) hh (by omega) hH
    omega

theorem mix_le {x y f r T M : Int} (hx : x.natAbs ≤ M) (hy : y.natAbs ≤ M) (f0 : 0 ≤ f) (f1 : f ≤ T) (r0 : 0 ≤ r) (r1 : r ≤ T) (hs : (0 ≤ x ∧ y ≤ 0) ∨ (x ≤ 0 ∧ 0 ≤ y)) : (x * f + y * r).natAbs ≤ M * T := by
  rcases hs with ⟨a, b⟩ | ⟨a, b⟩
  · have k1 := Int.mul_le_mul (a := x) (c := M) (b := f) (d := T) (by omega) f1 f0 (by omega)
    have k2 := Int.mul_le_mul (a := -y) (c := M) (b := r) (d := T) (by omega) r1 r0 (by omega)
    have k3 := Int.mul_nonneg a f0
    have k4 := Int.mul_nonneg (a := -y) (b := r) (by omega) r0
    rw [Int.neg_mul] at k2 k4
    omega
  · have k1 := Int.mul_le_mul (a := -x) (c := M) (b := f) (d := T) (by omega) f1 f0 (by omega)
    have k2 := Int.mul_le_mul (a := y) (c := M) (b := r) (d := T) (by omega) r1 r0 (by omega)
    have k3 := Int.mul_nonneg (a := -x) (b := f) (by omega) f0
    have k4 := Int.mul_nonneg (a := y) (b := r) (by omega) r0
    rw [Int.neg_mul] at k1 k3
    omega

/-- the numbers themselves become less -/
theorem Steps.less {H L high low x0 y0 x1 y1 T f r : Int} (h : Steps H L high low x0 y0 x1 y1) (hy : y0 ≠ 0) (hL : L ≤ H) (h1 : 57896044618658097711785492504343953926634992332820282019728792003956564819968 ≤ H)
    (hH : H < 115792089237316195423570985008687907853269984665640564039457584007913129639936) (hl : low ≤ 340282366920938463463374607431768211456) (f0 : 0 ≤ f) (f1 : f < T) (r0 : 0 ≤ r) (r1 : r < T) :
    (x0 * (H * T + f) + y0 * (L * T + r)).natAbs + (x1 * (H * T + f) + y1 * (L * T + r)).natAbs < (H * T + f).natAbs + (L * T + r).natAbs := by
  obtain ⟨sx0, sy0, sx1, sy1⟩ := h.small hy hL hH
  obtain ⟨sg, eh, el, l0, lh, st⟩ := h
  rcases st with ⟨_, z, _⟩ | ⟨_, hhL, hh, ax, ay⟩
  · exact absurd z hy
  have A : x0 * (H * T + f) + y0 * (L * T + r) = high * T + (x0 * f + y0 * r) := by rw [← eh]; grind
  have B : x1 * (H * T + f) + y1 * (L * T + r) = low * T + (x1 * f + y1 * r) := by rw [← el]; grind
  have mA := mix_le (x := x0) (y := y0) (f := f) (r := r) (T := T) (M := 340282366920938463463374607431768211456) (by omega) (by omega) f0 (by omega) r0 (by omega) (by rcases sg with ⟨d, a, b, c, e⟩ | ⟨d, a, b, c, e⟩ <;> omega)
  have mB := mix_le (x := x1) (y := y1) (f := f) (r := r) (T := T) (M := 340282366920938463463374607431768211456) (by omega) (by omega) f0 (by omega) r0 (by omega) (by rcases sg with ⟨d, a, b, c, e⟩ | ⟨d, a, b, c, e⟩ <;> omega)
  have t1 : 0 ≤ high * T := Int.mul_nonneg (by omega) (by omega)
  have t2 : 0 ≤ low * T := Int.mul_nonneg l0 (by omega)
  have t3 : high * T ≤ L * T := Int.mul_le_mul_of_nonneg_right hhL (by omega)
  have t4 : low * T ≤ 340282366920938463463374607431768211456 * T := Int.mul_le_mul_of_nonneg_right hl (by omega)
  have t5 : 57896044618658097711785492504343953926634992332820282019728792003956564819968 * T ≤ H * T := Int.mul_le_mul_of_nonneg_right h1 (by omega)
  rw [A, B]
  omega

theorem gcd_mix {a b x0 y0 x1 y1 : Int} (d : x0 * y1 - x1 * y0 = 1 ∨ x0 * y1 - x1 * y0 = -1) : Int.gcd (x0 * a + y0 * b) (x1 * a + y1 * b) = Int.gcd a b := by
  refine Nat.dvd_antisymm ?_ ?_
  · have h1 : (Int.gcd (x0 * a + y0 * b) (x1 * a + y1 * b) : Int) ∣ x0 * a + y0 * b := Int.gcd_dvd_left ..
    have h2 : (Int.gcd (x0 * a + y0 * b) (x1 * a + y1 * b) : Int) ∣ x1 * a + y1 * b := Int.gcd_dvd_right ..
    generalize (Int.gcd (x0 * a + y0 * b) (x1 * a + y1 * b)) = g at h1 h2
    obtain ⟨u, hu⟩ := h1
    obtain ⟨v, hv⟩ := h2
    refine Int.dvd_gcd ?_ ?_
    · rcases d with d | d
      · exact ⟨y1 * u - y0 * v, by
          have : (x0 * y1 - x1 * y0) * a = g * (y1 * u - y0 * v) := by grind
          rw [d] at this; omega⟩
      · exact ⟨-(y1 * u - y0 * v), by
          have : -(x0 * y1 - x1 * y0) * a = g * (-(y1 * u - y0 * v)) := by grind
          rw [d] at this; omega⟩
    · rcases d with d | d
      · exact ⟨x0 * v - x1 * u, by
          have : (x0 * y1 - x1 * y0) * b = g * (x0 * v - x1 * u) := by grind
          rw [d] at this; omega⟩
      · exact ⟨-(x0 * v - x1 * u), by
          have : -(x0 * y1 - x1 * y0) * b = g * (-(x0 * v - x1 * u)) := by grind
          rw [d] at this; omega⟩
  · have h1 : (Int.gcd a b : Int) ∣ a := Int.gcd_dvd_left ..
    have h2 : (Int.gcd a b : Int) ∣ b := Int.gcd_dvd_right ..
    exact Int.dvd_gcd (Int.dvd_add (Int.dvd_mul_of_dvd_right h1) (Int.dvd_mul_of_dvd_right h2)) (Int.dvd_add (Int.dvd_mul_of_dvd_right h1) (Int.dvd_mul_of_dvd_right h2))
theorem Steps.gcd {H L high low x0 y0 x1 y1 a b : Int} (h : Steps H L high low x0 y0 x1 y1) : Int.gcd (x0 * a + y0 * b) (x1 * a + y1 * b) = Int.gcd a b :=
  gcd_mix (h.sg.imp (·.1) (·.1))

/-- the head of a number -/
theorem head_of {x : Int} {t : Nat} (lo : (2 : Int) ^ (255 + t) ≤ x) (hi : x < (2 : Int) ^ (256 + t)) :
    57896044618658097711785492504343953926634992332820282019728792003956564819968 ≤ x / 2 ^ t ∧ x / 2 ^ t < 115792089237316195423570985008687907853269984665640564039457584007913129639936 := by
  have tp : (0 : Int) < 2 ^ t := Int.pow_pos (by decide)
  refine ⟨(Int.le_ediv_iff_mul_le tp).mpr ?_, (Int.ediv_lt_iff_lt_mul tp).mpr ?_⟩
  · rw [Int.pow_add] at lo; exact lo
  · rw [Int.pow_add] at hi; exact hi

/-- one look at the heads: the two numbers become less, what divides both stays -/
theorem heads_less {x y H L high low x0 y0 x1 y1 : Int} {t : Nat} (h : Steps H L high low x0 y0 x1 y1) (hy : y0 ≠ 0) (yx : y ≤ x) (lo : (2 : Int) ^ (255 + t) ≤ x) (hi : x < (2 : Int) ^ (256 + t))
    (eH : H = x / 2 ^ t) (eL : L = y / 2 ^ t) (hl : low ≤ 340282366920938463463374607431768211456) :
    (x0 * x + y0 * y).natAbs + (x1 * x + y1 * y).natAbs < x.natAbs + y.natAbs := by
  have tp : (0 : Int) < 2 ^ t := Int.pow_pos (by decide)
  have hd := head_of lo hi
  have e1 := Int.mul_ediv_add_emod x (2 ^ t)
  have e2 := Int.mul_ediv_add_emod y (2 ^ t)
  have m1 := Int.emod_nonneg x (b := 2 ^ t) (by omega)
  have m2 := Int.emod_nonneg y (b := 2 ^ t) (by omega)
  have l1 := Int.emod_lt_of_pos x tp
  have l2 := Int.emod_lt_of_pos y tp
  have hLH : L ≤ H := by rw [eH, eL]; exact Int.ediv_le_ediv tp yx
  have := h.less hy hLH (by rw [eH]; exact hd.1) (by rw [eH]; exact hd.2) hl m1 l1 m2 l2
  rw [eH, eL, Int.mul_comm (x / 2 ^ t), Int.mul_comm (y / 2 ^ t), e1, e2] at this
  exact this

theorem gcd_maxmin {a b : Int} {p q : Int} (hp : p = if b > a then b else a) (hq : q = if b < a then b else a) : Int.gcd p q = Int.gcd a b := by
  subst hp hq
  by_cases h : b > a
  · rw [if_pos h, if_neg (by omega)]; exact Int.gcd_comm b a
  · by_cases k : b < a
    · rw [if_neg h, if_pos k]
    · have : a = b := by omega
      subst this; simp
end Mth

namespace Mth
/-- t over b is worth q, the bottom from 1 on; the same with any bottom but 0; a fraction in lowest terms -/
structure Qt (t b : Int) (q : Rat) : Prop where
  pos : 1 ≤ b
  eq : (t : Rat) = q * (b : Rat)
structure Fr (t b : Int) (q : Rat) : Prop where
  pos : 1 ≤ b
  co : Int.gcd t b = 1
  eq : (t : Rat) = q * (b : Rat)
theorem Fr.qt {t b : Int} {q : Rat} (h : Fr t b q) : Qt t b q := ⟨h.pos, h.eq⟩
theorem cast_ne {b : Int} (h : b ≠ 0) : (b : Rat) ≠ 0 := by
  intro e
  apply h
  have : ((b : Int) : Rat) = ((0 : Int) : Rat) := by rw [e]; rfl
  exact Rat.intCast_inj.mp this
theorem Fr.of_low {T B t b : Int} {q : Rat} (h : Low T B t b) (hB : B ≠ 0) (e : (T : Rat) = q * (B : Rat)) : Fr t b q := by
  refine ⟨h.pos, h.co, ?_⟩
  have k := congrArg (fun x : Int => (x : Rat)) h.eq
  simp only [Rat.intCast_mul] at k
  have hB' := cast_ne hB
  grind
theorem Fr.unique {t b t' b' : Int} {q : Rat} (h : Fr t b q) (h' : Fr t' b' q) : t = t' ∧ b = b' := by
  refine low_unique h.pos h'.pos h.co h'.co ?_
  have e : ((t * b' : Int) : Rat) = ((t' * b : Int) : Rat) := by
    have e1 := h.eq
    have e2 := h'.eq
    simp only [Rat.intCast_mul]
    grind
  exact Rat.intCast_inj.mp e
theorem Fr.worth {t b t' b' : Int} {q q' : Rat} (h : Fr t b q) (h' : Fr t' b' q') (e : t = t') (e' : b = b') : q = q' := by
  subst e e'
  have hb := cast_ne (b := b) (by have := h.pos; omega)
  have e1 := h.eq
  have e2 := h'.eq
  grind
theorem mul_pos1 {b d : Int} (hb : 1 ≤ b) (hd : 1 ≤ d) : 1 ≤ b * d := by
  have := Int.mul_pos (show 0 < b by omega) (show 0 < d by omega)
  omega
theorem Qt.plus {a b c d : Int} {q r : Rat} (h : Qt a b q) (k : Qt c d r) : Qt (a * d + c * b) (b * d) (q + r) := by
  refine ⟨mul_pos1 h.pos k.pos, ?_⟩
  have e1 := h.eq
  have e2 := k.eq
  simp only [Rat.intCast_mul, Rat.intCast_add]
  grind
theorem Qt.minus {a b c d : Int} {q r : Rat} (h : Qt a b q) (k : Qt c d r) : Qt (a * d - c * b) (b * d) (q - r) := by
  refine ⟨mul_pos1 h.pos k.pos, ?_⟩
  have e1 := h.eq
  have e2 := k.eq
  simp only [Rat.intCast_mul, Rat.intCast_sub]
  grind
theorem Qt.times {a b c d : Int} {q r : Rat} (h : Qt a b q) (k : Qt c d r) : Qt (a * c) (b * d) (q * r) := by
  refine ⟨mul_pos1 h.pos k.pos, ?_⟩
  have e1 := h.eq
  have e2 := k.eq
  simp only [Rat.intCast_mul]
  grind
theorem Qt.neg {a b : Int} {q : Rat} (h : Qt a b q) : Qt (-a) b (-q) := by
  refine ⟨h.pos, ?_⟩
  have e1 := h.eq
  simp only [Rat.intCast_neg]
  grind
theorem Qt.whole (m : Int) : Qt m 1 (m : Rat) := ⟨by omega, by simp⟩
theorem Fr.whole (m : Int) : Fr m 1 (m : Rat) := ⟨by omega, by simp, by simp⟩
theorem Fr.neg {a b : Int} {q : Rat} (h : Fr a b q) : Fr (-a) b (-q) := ⟨h.pos, by rw [Int.neg_gcd]; exact h.co, h.qt.neg.eq⟩
/-- a quotient by a whole number above nought -/
theorem Qt.div {a b s : Int} {q : Rat} (h : Qt a b q) (hs : 0 < s) : Qt a (b * s) (q / (s : Rat)) := by
  refine ⟨mul_pos1 h.pos (by omega), ?_⟩
  have e1 := h.eq
  have hs' := cast_ne (b := s) (by omega)
  simp only [Rat.intCast_mul]
  grind
theorem Qt.divN {a b s : Int} {q : Rat} (h : Qt a b q) (hs : s < 0) : Qt (-a) (b * -s) (q / (s : Rat)) := by
  have k := h.neg.div (s := -s) (by omega)
  have hs' := cast_ne (b := s) (by omega)
  have e : -q / ((-s : Int) : Rat) = q / (s : Rat) := by
    simp only [Rat.intCast_neg]
    grind
  rw [e] at k
  exact k
/-- a quotient over another one that is not nought -/
theorem over_eq {a b c d : Int} {q r : Rat} (h : Qt a b q) (k : Qt c d r) (hc : c ≠ 0) : b * c ≠ 0 ∧ ((a * d : Int) : Rat) = q / r * ((b * c : Int) : Rat) := by
  have hb := h.pos
  have hd := k.pos
  refine ⟨Int.mul_ne_zero (by omega) hc, ?_⟩
  have e1 := h.eq
  have e2 := k.eq
  have hc' := cast_ne hc
  have hd' := cast_ne (b := d) (by omega)
  have hr : r ≠ 0 := by
    intro z
    rw [z] at e2
    apply hc'
    grind
  simp only [Rat.intCast_mul]
  grind
theorem Qt.zero_iff {a b : Int} {q : Rat} (h : Qt a b q) : a = 0 ↔ q = 0 := by
  have e := h.eq
  have hb := cast_ne (b := b) (by have := h.pos; omega)
  constructor
  · intro z
    subst z
    have : (0 : Rat) = q * (b : Rat) := by rw [← e]; rfl
    grind
  · intro z
    subst z
    have : ((a : Int) : Rat) = ((0 : Int) : Rat) := by rw [e]; grind
    exact Rat.intCast_inj.mp this
/-- the order of the worths is that of the cross products -/
theorem Qt.lt_iff {a b c d : Int} {q r : Rat} (h : Qt a b q) (k : Qt c d r) : a * d < c * b ↔ q < r := by
  have e1 := h.eq
  have e2 := k.eq
  have hb : (0 : Rat) < (b : Rat) := by have := h.pos; exact Rat.intCast_pos.mpr (by omega)
  have hd : (0 : Rat) < (d : Rat) := by have := k.pos; exact Rat.intCast_pos.mpr (by omega)
  have hbd : (0 : Rat) < (b : Rat) * (d : Rat) := Rat.mul_pos hb hd
  have l : ((a * d : Int) : Rat) = q * ((b : Rat) * (d : Rat)) := by simp only [Rat.intCast_mul]; grind
  have m : ((c * b : Int) : Rat) = r * ((b : Rat) * (d : Rat)) := by simp only [Rat.intCast_mul]; grind
  rw [← Rat.intCast_lt_intCast, l, m]
  exact Rat.mul_lt_mul_right hbd
end Mth

namespace Mth
/-- the size of a worth -/
def rabs (q : Rat) : Rat := if q < 0 then -q else q
theorem rabs_nn (q : Rat) : 0 ≤ rabs q := by unfold rabs; split <;> grind
theorem rabs_le {q w : Rat} : rabs q ≤ w ↔ -w ≤ q ∧ q ≤ w := by unfold rabs; split <;> grind
theorem rabs_neg (q : Rat) : rabs (-q) = rabs q := by unfold rabs; split <;> split <;> grind
theorem Qt.abs {a b : Int} {q : Rat} (h : Qt a b q) : Qt (a.natAbs : Int) b (rabs q) := by
  have hb : (0 : Rat) < (b : Rat) := by have := h.pos; exact Rat.intCast_pos.mpr (by omega)
  have z : a < 0 ↔ q < 0 := by
    have l := Qt.lt_iff h (Qt.whole 0)
    simp at l
    exact l
  unfold rabs
  by_cases h0 : a < 0
  · rw [if_pos (z.mp h0)]
    have e : (a.natAbs : Int) = -a := by omega
    rw [e]
    exact h.neg
  · rw [if_neg (fun q => h0 (z.mpr q))]
    have e : (a.natAbs : Int) = a := by omega
    rw [e]
    exact h
theorem Fr.abs {a b : Int} {q : Rat} (h : Fr a b q) : Fr (a.natAbs : Int) b (rabs q) :=
  ⟨h.pos, by have := h.co; rw [Int.gcd, Int.natAbs_natCast]; exact this, h.qt.abs.eq⟩
/-- the chord's height at u, of the samples (t, q) and (t', q') -/
def chord (t : Rat) (q : Rat) (u : Rat) (t' : Rat) (q' : Rat) : Rat := (q * (t' - u) + q' * (u - t)) / (t' - t)
theorem chord_along {t q u t' q' : Rat} (h : t ≠ t') : q + (q' - q) / (t' - t) * (u - t) = chord t q u t' q' := by
  unfold chord
  have : t' - t ≠ 0 := by grind
  grind
theorem chord_lift {t q u t' q' p : Rat} (h : t ≠ t') : chord t (q + p) u t' (q' + p) = chord t q u t' q' + p := by
  unfold chord
  have : t' - t ≠ 0 := by grind
  grind
/-- no line does better than half the stand -/
theorem no_better {t u t' q m q' l h W : Rat} (h1 : t < u) (h2 : u < t') (w1 : rabs (q - l) ≤ W) (w2 : rabs (m - chord t l u t' h) ≤ W) (w3 : rabs (q' - h) ≤ W) : rabs (m - chord t q u t' q') ≤ 2 * W := by
  have hd : 0 < t' - t := by grind
  have hd0 : t' - t ≠ 0 := by grind
  obtain ⟨a1, a2⟩ := rabs_le.mp w1
  obtain ⟨b1, b2⟩ := rabs_le.mp w2
  obtain ⟨c1, c2⟩ := rabs_le.mp w3
  -- the chord of the misses
  have e : chord t q u t' q' = chord t l u t' h + ((q - l) * (t' - u) + (q' - h) * (u - t)) / (t' - t) := by
    unfold chord
    grind
  have k1 : ((q - l) * (t' - u) + (q' - h) * (u - t)) / (t' - t) ≤ W := by
    have p1 : (q - l) * (t' - u) ≤ W * (t' - u) := Rat.mul_le_mul_of_nonneg_right a2 (by grind)
    have p2 : (q' - h) * (u - t) ≤ W * (u - t) := Rat.mul_le_mul_of_nonneg_right c2 (by grind)
    have e2 : ((q - l) * (t' - u) + (q' - h) * (u - t)) / (t' - t) * (t' - t) = (q - l) * (t' - u) + (q' - h) * (u - t) := by grind
    refine Rat.le_of_mul_le_mul_right (c := t' - t) ?_ hd
    rw [e2]
    grind
  have k2 : -W ≤ ((q - l) * (t' - u) + (q' - h) * (u - t)) / (t' - t) := by
    have p1 : -W * (t' - u) ≤ (q - l) * (t' - u) := Rat.mul_le_mul_of_nonneg_right a1 (by grind)
    have p2 : -W * (u - t) ≤ (q' - h) * (u - t) := Rat.mul_le_mul_of_nonneg_right c1 (by grind)
    have e2 : ((q - l) * (t' - u) + (q' - h) * (u - t)) / (t' - t) * (t' - t) = (q - l) * (t' - u) + (q' - h) * (u - t) := by grind
    refine Rat.le_of_mul_le_mul_right (c := t' - t) ?_ hd
    rw [e2]
    grind
  rw [e]
  generalize ((q - l) * (t' - u) + (q' - h) * (u - t)) / (t' - t) = z at *
  generalize chord t l u t' h = c at *
  rw [rabs_le]
  constructor <;> grind
end Mth

/-! Fractions by their own top and bottom; a row parted. -/
namespace Mth
theorem Fr.own (q : Rat) : Fr q.num (q.den : Int) q := by
  have hp := q.den_pos
  have hd : ((q.den : Int) : Rat) ≠ 0 := cast_ne (by omega)
  refine ⟨by omega, ?_, ?_⟩
  · have := q.reduced
    exact this
  · have h := Rat.num_divInt_den q
    rw [Rat.divInt_eq_div] at h
    grind
theorem Fr.num_den {t b : Int} {q : Rat} (h : Fr t b q) : t = q.num ∧ b = (q.den : Int) := h.unique (Fr.own q)
def inRun {α : Type} (s : α → Bool) (es : List α) (i : Nat) : Bool := decide (0 < i) && ((es[i - 1]?).map s).getD false
/-- the runs of the first i entries, s telling the samples -/
def parts {α : Type} (s : α → Bool) (es : List α) : Nat → List (List α)
  | 0 => []
  | i + 1 => match es[i]? with
    | none => parts s es i
    | some e => if s e = true then (if inRun s es i = true then (parts s es i).dropLast ++ [((parts s es i).getLast?.getD []) ++ [e]] else parts s es i ++ [[e]]) else parts s es i
section
variable {α : Type} {s : α → Bool} {es : List α} {i : Nat} {e : α}
theorem parts_gap (h : es[i]? = some e) (hs : s e = false) : parts s es (i + 1) = parts s es i := by
  show (match es[i]? with | none => _ | some e => _) = _
  rw [h]
  show (if s e = true then _ else _) = _
  rw [hs]
  rfl
theorem parts_new (h : es[i]? = some e) (hs : s e = true) (hi : inRun s es i = false) : parts s es (i + 1) = parts s es i ++ [[e]] := by
  show (match es[i]? with | none => _ | some e => _) = _
  rw [h]
  show (if s e = true then (if inRun s es i = true then _ else _) else _) = _
  rw [hs, hi]
  rfl
theorem parts_on {t : List (List α)} {r : List α} (h : es[i]? = some e) (hs : s e = true) (hi : inRun s es i = true) (hp : parts s es i = t ++ [r]) : parts s es (i + 1) = t ++ [r ++ [e]] := by
  show (match es[i]? with | none => _ | some e => _) = _
  rw [h]
  show (if s e = true then (if inRun s es i = true then _ else _) else _) = _
  rw [hs, hi, hp]
  simp
theorem inRun_succ (h : es[i]? = some e) : inRun s es (i + 1) = s e := by
  unfold inRun
  rw [Nat.add_sub_cancel, h]
  simp
end
end Mth

/-! Own rules over the hand layer: ints of any size within a bound of bits, equality of nested data, isinstance, calls by a bundled promise, and the reading of a term step by step. -/
namespace My
open PySem PySem.Spec PyProof.Rows L2 Mth

theorem mulOk {m n : Nat} {x y : Int} (hx : Sz m x) (hy : Sz n y) (h : m + n ≤ 134217728 := by decide) : IntMulOk x y :=
  IntMulOk.of_le (intBits_le_iff.mpr hx) (intBits_le_iff.mpr hy) h
theorem mulR {x y : Int} (h1 : -(2 ^ 64) < y) (h2 : y < 2 ^ 64) : IntMulOk x y := CMul.ok (.inr ⟨h1, h2⟩)
theorem mulL {x y : Int} (h1 : -(2 ^ 64) < x) (h2 : x < 2 ^ 64) : IntMulOk x y := CMul.ok (.inl ⟨h1, h2⟩)
def CDivB (_ j : Int) : Prop := j ≠ 0 ∧ j.natAbs.log2 < 9000

section
variable {X : Cx}
theorem op_mulB : OpR X (binaryOp .Mult) (rI IntMulOk fun i j => .int (i * j)) := opI fun _ _ _ _ _ _ _ hc q => mul_int q hc
theorem op_fdivB : OpR X (binaryOp .FloorDiv) (rI CDivB fun i j => .int (i.fdiv j)) := opI fun _ _ _ _ _ _ _ hc q => floordiv_int hc.1 q (.inl (PyProof.noPylong_of_log2 hc.2))
end

/-! ### nested data -/
mutual
inductive Den (H : Hp) : V → PyData → Prop where
  | non : Den H .non .none
  | bl (b : Bool) : Den H (.bl b) (.bool b)
  | int (i : Int) : Den H (.int i) (.int i)
  | str (x : Str) : Den H (.str x) (.str x)
  | tup {a : Addr} {xs : List V} {ds : List PyData} : H a = some (.tup xs) → Dens H xs ds → Den H (.ref a) (.tuple ds)
  | lst {a : Addr} {xs : List V} {ds : List PyData} : H a = some (.lst xs) → Dens H xs ds → Den H (.ref a) (.list ds)
inductive Dens (H : Hp) : List V → List PyData → Prop where
  | nil : Dens H [] []
  | cons {x : V} {xs : List V} {d : PyData} {ds : List PyData} : Den H x d → Dens H xs ds → Dens H (x :: xs) (d :: ds)
end
section
variable {P : Program} {w : World} {H : Hp} {h : Heap}
mutual
theorem Den.reads (ok : HOk P w H h) : ∀ {v : V} {d : PyData}, Den H v d → ∀ {u : Value}, RelV v u → ∃ as, Reads h u d as
  | _, _, .non, u, r => by cases (show u = Value.none from r); exact ⟨_, Reads.none⟩
  | _, _, .bl b, u, r => by cases (show u = Value.bool b from r); exact ⟨_, Reads.bool b⟩
  | _, _, .int i, u, r => by obtain ⟨t, q⟩ := (show ∃ t, u = Value.int i t from r); cases q; exact ⟨_, Reads.int i t⟩
  | _, _, .str x, u, r => by obtain ⟨t, q⟩ := (show ∃ t, u = Value.str x t from r); cases q; exact ⟨_, Reads.str x t⟩
  | _, _, @Den.tup _ a xs ds e dd, u, r => by
    cases (show u = Value.ref a from r)
    obtain ⟨_, its, rv, o, h1, h2, n, h3⟩ := (show ObjOk P w H h a (.tup xs) from ok a _ e)
    obtain ⟨as, q⟩ := Dens.reads ok dd rv
    exact ⟨as, reads_tuple_at h1 h2 h3 (by simpa using q)⟩
  | _, _, @Den.lst _ a xs ds e dd, u, r => by
    cases (show u = Value.ref a from r)
    obtain ⟨_, its, n, rv, h1⟩ := (show ObjOk P w H h a (.lst xs) from ok a _ e)
    obtain ⟨as, q⟩ := Dens.reads ok dd rv
    exact ⟨_, reads_list_at h1 rfl rfl (by simpa using q)⟩
theorem Dens.reads (ok : HOk P w H h) : ∀ {vs : List V} {ds : List PyData}, Dens H vs ds → ∀ {us : List Value}, Vals vs us → ∃ as, ReadsAll h us ds as
  | _, _, .nil, _, .nil => ⟨_, ReadsAll.nil⟩
  | _, _, .cons d dd, _, .cons r rr => by
    obtain ⟨as, q⟩ := Den.reads ok d r
    obtain ⟨bs, p⟩ := Dens.reads ok dd rr
    exact ⟨_, ReadsAll.cons q p⟩
end
end
def rEqD : R2 := fun x y H Q => ∃ d e, Den H x d ∧ Den H y e ∧ SeqAt.shaped d = true ∧ SeqAt.shaped e = true ∧ Q (.bl (PyData.eqv d e)) H
def rNeD : R2 := fun x y H Q => ∃ d e, Den H x d ∧ Den H y e ∧ SeqAt.shaped d = true ∧ SeqAt.shaped e = true ∧ Q (.bl (!PyData.eqv d e)) H
section
variable {X : Cx}
theorem op_eqD (hu : X.A.units + 64 < cLine) : OpR X (compareOp .Eq) rEqD := by
  intro pins s σ H x y v u Q I rx ry h
  obtain ⟨d, e, hd, he, s1, s2, q⟩ := h
  obtain ⟨as, r1⟩ := hd.reads I.hok rx
  obtain ⟨bs, r2⟩ := he.reads I.hok ry
  exact eq_dataH r1 r2 s1 s2 hu ⟨.bl _, H, I, rfl, q⟩
theorem op_neD (hu : X.A.units + 64 < cLine) : OpR X (compareOp .NotEq) rNeD := by
  intro pins s σ H x y v u Q I rx ry h
  obtain ⟨d, e, hd, he, s1, s2, q⟩ := h
  obtain ⟨as, r1⟩ := hd.reads I.hok rx
  obtain ⟨bs, r2⟩ := he.reads I.hok ry
  exact ne_dataH r1 r2 s1 s2 hu ⟨.bl _, H, I, rfl, q⟩
/-! ### isinstance against a built-in type -/
def rIsi (K : PySem.W.Frag) : List V → Hp → VK → Prop := fun xs H Q => ∃ x n t b, xs = [x, .ty n] ∧ TyOf K H x t ∧ PySem.W.kitOne K t (.type n) = some b ∧ Q (.bl b) H
theorem call_isi : CallR X (.builtin "isinstance") (rIsi X.K) := by
  intro pins s σ H xs us Q I r h
  obtain ⟨x, n, t, b, rfl, ty, e, q⟩ := h
  obtain ⟨u, u2, rfl, rx, rn⟩ := vals2 r
  cases (show u2 = Value.type n from rn)
  exact isinst_ok I rx ty e fun tk => ⟨.bl b, H, I.tok tk, rfl, q⟩
end
section
variable {K : PySem.W.Frag}
theorem kit_tt : PySem.W.kitOne K (.type "tuple") (.type "tuple") = some true := by rfl
theorem kit_ii : PySem.W.kitOne K (.type "int") (.type "int") = some true := by rfl
theorem kit_ib : PySem.W.kitOne K (.type "int") (.type "bool") = some false := by rfl
end

/-! ### an argument that is no star, whatever stands behind it -/
section
variable {es : List Expr} {env : Env} {pos : Pos}
theorem any0 : (backTo pos (starEach [] env)).any (·.1) = false := by rfl
theorem anyc {e : Expr} (h : starEach (e :: es) env = (false, eval e env) :: starEach es env) (k : (backTo pos (starEach es env)).any (·.1) = false) : (backTo pos (starEach (e :: es) env)).any (·.1) = false := by
  rw [h]
  exact k
theorem st_C {c : Const} {k : Nat} : starEach (.Constant c k pos :: es) env = (false, eval (.Constant c k pos) env) :: starEach es env := by rfl
theorem st_N {x : Str} : starEach (.Name x pos :: es) env = (false, eval (.Name x pos) env) :: starEach es env := by rfl
theorem st_B {a b : Expr} {op : Operator} : starEach (.BinOp a op b pos :: es) env = (false, eval (.BinOp a op b pos) env) :: starEach es env := by rfl
theorem st_S {a b : Expr} : starEach (.Subscript a b pos :: es) env = (false, eval (.Subscript a b pos) env) :: starEach es env := by rfl
theorem st_K {f : Expr} {as : List Expr} {kw : List Keyword} : starEach (.Call f as kw pos :: es) env = (false, eval (.Call f as kw pos) env) :: starEach es env := by rfl
theorem st_T {as : List Expr} {k : Nat} : starEach (.Tuple as k pos :: es) env = (false, eval (.Tuple as k pos) env) :: starEach es env := by rfl
theorem st_L {as : List Expr} : starEach (.List as pos :: es) env = (false, eval (.List as pos) env) :: starEach es env := by rfl
theorem st_U {a : Expr} {op : UnaryOp} : starEach (.UnaryOp op a pos :: es) env = (false, eval (.UnaryOp op a pos) env) :: starEach es env := by rfl
theorem st_G {e : Expr} {gs : List Comprehension} {sc : Scope} : starEach (.ListComp e gs sc pos :: es) env = (false, eval (.ListComp e gs sc pos) env) :: starEach es env := by rfl
theorem st_Q {a : Expr} {ops : List CmpOp} {bs : List Expr} : starEach (.Compare a ops bs pos :: es) env = (false, eval (.Compare a ops bs pos) env) :: starEach es env := by rfl
end

section
variable {tg : Option Expr} {l : Nat} {env : Env} {pos : Pos}
theorem sw_C {c : Const} {k : Nat} : swapsWith (.Constant c k pos) tg l env = pure false := by rfl
theorem sw_N {x : Str} : swapsWith (.Name x pos) tg l env = pure false := by rfl
theorem sw_B {a b : Expr} {op : Operator} : swapsWith (.BinOp a op b pos) tg l env = pure false := by rfl
theorem sw_S {a b : Expr} : swapsWith (.Subscript a b pos) tg l env = pure false := by rfl
theorem sw_K {f : Expr} {as : List Expr} {kw : List Keyword} : swapsWith (.Call f as kw pos) tg l env = pure false := by rfl
theorem sw_T {as : List Expr} {k : Nat} : swapsWith (.Tuple as k pos) tg l env = pure false := by rfl
theorem sw_L {as : List Expr} : swapsWith (.List as pos) tg l env = pure false := by rfl
theorem sw_U {a : Expr} {op : UnaryOp} : swapsWith (.UnaryOp op a pos) tg l env = pure false := by rfl
theorem sw_Q {a : Expr} {ops : List CmpOp} {bs : List Expr} : swapsWith (.Compare a ops bs pos) tg l env = pure false := by rfl
theorem sw_I {a b c : Expr} : swapsWith (.IfExp a b c pos) tg l env = pure false := by rfl
end
/-! ### a def with its promise -/
structure Dn (P : Program) (w : World) (K : PySem.W.Frag) (mg : Str → Option Value) (base : Heap) (k : Nat) (x : Str) (ps : List Str) (sp : Sp) : Prop where
  ex : ∃ (f : Addr) (fd : FuncData), FnOk P w K mg base CX0 k f fd ps sp ∧ mg x = some (.ref f) ∧ PySem.W.keepIn K (.ref f) = true ∧ Binds K fd ps []
section
variable {X : Cx} {k : Nat} {x : Str} {ps : List Str} {sp : Sp} {p pos : Pos} {e : Expr} {es : List Expr} {t : TA}
theorem pe_dn (D : Dn X.prog X.w X.K X.mg X.base k x ps sp) (hr : Room k X.A) (hg : Gl X x) (ha : PA X (e :: es) t) (hdb : (x == ("__debug__" : Str)) = false := by decide)
    (he : starEach (e :: es) X.env = (false, eval e X.env) :: starEach es X.env := by rfl) (hpl : (backTo pos (starEach es X.env)).any (·.1) = false := by rfl) : PE X (.Call (.Name x p) (e :: es) [] pos) (tCall sp [] E0 t) := by
  obtain ⟨f, fd, ok, hm, hk, hb⟩ := D.ex
  exact pe_call ok hr hg hm hk hb .nil pass0 ha hdb he hpl
end
theorem dn_mk {P : Program} {w : World} {K : PySem.W.Frag} {mg : Str → Option Value} {base : Heap} {k : Nat} {x qual : Str} {ps : List Str} {sp : Sp} {st : Stmt} {f : Addr} {fd : FuncData} (F : Fun K x qual st f fd) (ok : FnOk P w K mg base CX0 k f fd ps sp)
    (hm : mg x = some (.ref f)) (hb : Binds K fd ps []) : Dn P w K mg base k x ps sp := ⟨f, fd, ok, hm, F.kp, hb⟩

/-! ### the reading of a term, step by step -/
section
variable {σ : L2.St} {H : Hp} {Q : VK} {D : Ends} {te ta tb : TE} {t u : TS} {c : TT} {B : Bool → Hp → Prop} {i : Nat} {v : V} {m n : Int} {K : PySem.W.Frag}
theorem r_seq (h : t { D with nx := u D } σ H) : tSeq t u D σ H := h
theorem r_set (h : te σ H fun x H1 => D.nx (σ.set i (some x)) H1) : tAsg te (gName i) D σ H := h
theorem r_ret (h : te σ H D.rt) : tRet te D σ H := h
theorem r_drop (h : te σ H fun _ H1 => D.nx σ H1) : tDrop te D σ H := h
theorem r_if (h : c σ H fun b H1 => if b = true then t D σ H1 else u D σ H1) : tIfS c t u D σ H := h
theorem r_next (h : D.nx σ H) : tNext D σ H := h
theorem r_var (e : σ[i]? = some (some v)) (q : Q v H) : tVar i σ H Q := ⟨v, e, q⟩
theorem r_c (q : Q v H) : tC v σ H Q := q
theorem r_op {r : R2} (h : ta σ H fun x H1 => tb σ H1 fun y H2 => r x y H2 Q) : tOp r ta tb σ H Q := h
theorem r_un {r : V → Hp → VK → Prop} (h : ta σ H fun x H1 => r x H1 Q) : tUn r ta σ H Q := h
theorem r_I0 {g : Int → Int → V} (q : Q (g m n) H) : rI0 g (.int m) (.int n) H Q := ⟨m, n, rfl, rfl, q⟩
theorem r_I {C : Int → Int → Prop} {g : Int → Int → V} (hc : C m n) (q : Q (g m n) H) : rI C g (.int m) (.int n) H Q := ⟨m, n, rfl, rfl, hc, q⟩
theorem r_U {g : Int → V} (q : Q (g m) H) : rU g (.int m) H Q := ⟨m, rfl, q⟩
theorem r_test (h : te σ H fun x H' => ∃ k, x = .bl k ∧ B k H') : tTest te σ H B := h
theorem r_B (h : te σ H fun x H' => ∃ k, x = .bl k ∧ B k H') : tB te σ H B := h
theorem r_bl {b : Bool} {R : Bool → Prop} (h : R b) : ∃ k, V.bl b = .bl k ∧ R k := ⟨b, rfl, h⟩
theorem r_cb {r : List V → Hp → VK → Prop} {ts : TA} (h : ts σ H fun vs H1 => r vs H1 Q) : tCB r ts σ H Q := h
theorem r_cons {ts : TA} {R : List V → Hp → Prop} (h : te σ H fun x H1 => ts σ H1 fun xs H2 => R (x :: xs) H2) : tCons te ts σ H R := h
theorem r_nil {R : List V → Hp → Prop} (h : R [] H) : tNil σ H R := h
def Nw (mk : List V → HO) (xs : List V) (H : Hp) (Q : VK) : Prop := xs.length ≤ sizeLine ∧ ∀ p, H p = none → Q (.ref p) (upd H p (mk xs))
theorem r_tup {ts : TA} (h : ts σ H fun xs H1 => Nw .tup xs H1 Q) : tTup ts σ H Q := h
theorem r_lst {ts : TA} (h : ts σ H fun xs H1 => Nw .lst xs H1 Q) : tLst ts σ H Q := h
theorem r_call {sp : Sp} {ts : TA} (h : ts σ H fun vs H1 => sp (vs ++ []) H1 Q E0) : tCall sp [] E0 ts σ H Q := h
theorem r_par {a b : Nat} {ts : TA} (h : ts σ H fun vs H1 => ∃ v w, vs = [v, w] ∧ D.nx ((σ.set a (some v)).set b (some w)) H1) : tPar a b ts D σ H := h
theorem r_not (h : c σ H fun b H1 => B (!b) H1) : tNot c σ H B := h
theorem r_and {d : TT} (h : c σ H fun b H1 => if b = true then d σ H1 B else B false H1) : tAnd c d σ H B := h
theorem r_or {d : TT} (h : c σ H fun b H1 => if b = true then B true H1 else d σ H1 B) : tOr c d σ H B := h
theorem r_andV (h : ta σ H fun x H1 => ∃ k, x = .bl k ∧ if k = true then tb σ H1 Q else Q (.bl false) H1) : tAndV ta tb σ H Q := h
theorem r_orV (h : ta σ H fun x H1 => ∃ k, x = .bl k ∧ if k = true then Q (.bl true) H1 else tb σ H1 Q) : tOrV ta tb σ H Q := h
theorem r_notV (h : ta σ H fun x H1 => ∃ k, x = .bl k ∧ Q (.bl (!k)) H1) : tNotV ta σ H Q := h
theorem r_ife (h : c σ H fun b H1 => if b = true then ta σ H1 Q else tb σ H1 Q) : tIf c ta tb σ H Q := h
theorem r_eq (hs : scal (.int m) (.int n) = true) (q : Q (.bl (decide (m = n))) H) : rEq (.int m) (.int n) H Q := ⟨hs, by
  have e : decide (V.int m = V.int n) = decide (m = n) := by simp
  rw [e]; exact q⟩
theorem r_ne (hs : scal (.int m) (.int n) = true) (q : Q (.bl (!decide (m = n))) H) : rNe (.int m) (.int n) H Q := ⟨hs, by
  have e : decide (V.int m = V.int n) = decide (m = n) := by simp
  rw [e]; exact q⟩
theorem at0 {x : V} {xs : List V} : atI (x :: xs) 0 = some x := atI_nat (j := 0) rfl
theorem at1 {x y : V} {xs : List V} : atI (x :: y :: xs) 1 = some y := atI_nat (j := 1) rfl
theorem at2 {x y z : V} {xs : List V} : atI (x :: y :: z :: xs) 2 = some z := atI_nat (j := 2) rfl
theorem r_t0 {p : Addr} {x : V} {xs : List V} (h : H p = some (.tup (x :: xs))) (q : Q x H) : rIxT K (.ref p) (.int 0) H Q := ⟨p, _, 0, x, rfl, rfl, SqT.of h, at0, q⟩
theorem r_t1 {p : Addr} {x y : V} {xs : List V} (h : H p = some (.tup (x :: y :: xs))) (q : Q y H) : rIxT K (.ref p) (.int 1) H Q := ⟨p, _, 1, y, rfl, rfl, SqT.of h, at1, q⟩
theorem r_t2 {p : Addr} {x y z : V} {xs : List V} (h : H p = some (.tup (x :: y :: z :: xs))) (q : Q z H) : rIxT K (.ref p) (.int 2) H Q := ⟨p, _, 2, z, rfl, rfl, SqT.of h, at2, q⟩
def rLen (K : PySem.W.Frag) : List V → Hp → VK → Prop := fun xs H Q => ∃ p ys, xs = [.ref p] ∧ (SqL K H p ys ∨ SqT K H p ys) ∧ Q (.int ys.length) H
theorem r_len {p : Addr} {ys : List V} (h : SqL K H p ys ∨ SqT K H p ys) (q : Q (.int ys.length) H) : rLen K [.ref p] H Q := ⟨p, ys, rfl, h, q⟩
def rAbs : List V → Hp → VK → Prop := fun xs H Q => ∃ i, xs = [.int i] ∧ Q (.int (if i < 0 then -i else i)) H
theorem r_absC (q : Q (.int (if m < 0 then -m else m)) H) : rAbs [.int m] H Q := ⟨m, rfl, q⟩
section
variable {X : Cx} (K : PySem.W.Frag)
theorem ixL (h : X.K = K := by rfl) : IxR X (rIxL K) := h ▸ ix_list
theorem ixT (h : X.K = K := by rfl) : IxR X (rIxT K) := h ▸ ix_tup
theorem slL (h : X.K = K := by rfl) : SlR X (rSlL K) := h ▸ sl_list
theorem lenC (h : X.K = K := by rfl) : CallR X (.builtin "len") (rLen K) := h ▸ call_len_seq
theorem isiC (h : X.K = K := by rfl) : CallR X (.builtin "isinstance") (rIsi K) := h ▸ call_isi
theorem pe_ty {X : Cx} {x : Str} {n : String} {pos : Pos} (hg : Gl X x) (hm : X.mg x = none) (hv : bootBuiltins x = some (.type n)) (hn : x ≠ "__name__" := by decide) (hd : (x == ("__debug__" : Str)) = false := by decide) : PE X (.Name x pos) (tC (.ty n)) :=
  pe_bltn hg hm hv (show RelV (.ty n) (.type n) from rfl) hn hd
theorem absC : CallR X (.builtin "abs") rAbs := call_abs
theorem piL {tg l : Expr} {tl : TE} (hl : PE X l tl) (h : X.K = K := by rfl) : PI X tg l (iList K tl) := h ▸ pi_list hl
theorem piT {tg l : Expr} {tl : TE} (hl : PE X l tl) (h : X.K = K := by rfl) : PI X tg l (iTup K tl) := h ▸ pi_tup hl
theorem pgT {es : List Expr} {k : Nat} {t : TGs} {n : Nat} {pos : Pos} (hc : X.calm = true) (g : PGs X es t)
    (hn : (assignEach es X.env).length = n := by rfl) (hst : (assignEach es X.env).findIdx? (·.1) = none := by rfl) (h : X.K = K := by rfl) : PG X (.Tuple es k pos) (gTup K n t) := h ▸ pg_tup hc g hn hst
theorem appC {o e : Expr} {to te : TE} {apos cpos : Pos} (ho : PE X o to) (he : PE X e te) (h : X.K = K := by rfl)
    (hbase : attributeBase o "append" X.env (eval o X.env) = eval o X.env := by rfl)
    (hfew : ((backTo cpos (starEach (e :: []) X.env)).all (fun x => !x.1) && (backToKw cpos (keywordEach [] X.env)).all (fun x => x.1.isSome)
      && decide ((e :: ([] : List Expr)).length + ([] : List Keyword).length + (if ([] : List Keyword).isEmpty then 0 else 1) < 30)) = true := by rfl)
    (hline : (apos.endLine == cpos.line) = true := by rfl) (hs : starEach (e :: []) X.env = (false, eval e X.env) :: starEach [] X.env := by rfl) (hplain : (backTo cpos (starEach [] X.env)).any (·.1) = false := by rfl) :
    PE X (.Call (.Attribute o "append" apos) [e] [] cpos) (tBM K "list" rAppend to (tCons te tNil)) :=
  h ▸ pe_bm PySem.F.plainAttrs_list PySem.F.slot_list_append PySem.F.type_list_append mt_append ho (pa_cons he pa_nil hs) hbase hfew hline hs hplain
end
theorem same_new {p : Addr} (h : H p = none) (o : HO) : Same H (upd H p o) := fun b u q => by rw [upd_ne (ne_of_none q h)]; exact q
/-- a new object: the heap behind it by a letter -/
theorem r_new {xs : List V} {mk : List V → HO} (hl : xs.length ≤ 1000) (h : ∀ p H1, Same H H1 → H p = none → H1 p = some (mk xs) → Q (.ref p) H1) : Nw mk xs H Q :=
  ⟨Nat.le_of_lt (small1000 hl), fun p hp => h p _ (same_new hp _) hp upd_same⟩
theorem r_g {R : L2.St → Hp → Prop} (h : R (σ.set i (some v)) H) : gName i v σ H R := h
theorem r_l {p : Addr} {xs : List V} {j : Int} (h : H p = some (.lst xs)) (e : atI xs j = some v) (q : Q v H) : rIxL K (.ref p) (.int j) H Q := ⟨p, _, j, v, rfl, rfl, SqL.of h, e, q⟩
theorem r_bm {T : String} {r : V → List V → Hp → VK → Prop} {ts : TA} (h : te σ H fun x H1 => tyV K T x H1 ∧ ts σ H1 fun xs H2 => r x xs H2 Q) : tBM K T r te ts σ H Q := h
theorem r_app {p : Addr} {xs : List V} (h : H p = some (.lst xs)) (hl : xs.length < sizeLine) (q : Q .non (upd H p (.lst (xs ++ [v])))) : rAppend (.ref p) [v] H Q := ⟨p, xs, v, rfl, rfl, h, hl, q⟩
theorem same_at {H1 H2 : Hp} {p : Addr} {o : HO} (s : Same H1 H2) (n : H1 p = none) : Same H1 (upd H2 p o) := fun b x e => by rw [upd_ne (ne_of_none e n)]; exact s b x e
theorem at_ints {xs : List Int} {j : Nat} {x k : Int} (h : xs[j]? = some x) (hk : k = (j : Int)) : atI (xs.map V.int) k = some (.int x) := by
  subst hk
  exact atI_nat (by rw [List.getElem?_map, h]; rfl)
theorem r_two {R : V → V → Prop} {x y : V} (h : R x y) : ∃ v w, [x, y] = [v, w] ∧ R v w := ⟨x, y, rfl, h⟩
theorem r_for {wi : TI} {g : TG} {tb : TS} (h : wi σ H fun J H1 => ∃ W : Nat → Nat → L2.St → Hp → Prop, (∃ m, W 0 m σ H1) ∧ ∀ i m σ H, W i m σ H →
  (J.stop i H ∧ D.nx σ H) ∨ (J.go i H ∧ ∃ N : L2.St → Hp → Prop, (∀ σ' H', N σ' H' → ∃ m', m' < m ∧ W (i + 1) m' σ' H') ∧ ∀ x H', J.yld i H x H' → g x σ H' fun σ2 H2 => tb { D with nx := N, ct := N, bk := D.nx } σ2 H2)) : tFor wi g tb D σ H := h
theorem r_iL {R : It → Hp → Prop} (h : te σ H fun x H1 => ∃ a, x = .ref a ∧ (∃ xs, SqL K H1 a xs) ∧ R (Itl K a) H1) : iList K te σ H R := h
/-- the body in two parts, with a word between them -/
theorem cut {X : Cx} {body : List Stmt} (n : Nat) (Pv : L2.St → Hp → Prop) (tail : ∃ t, PSs X (body.drop n) t ∧ ∀ σ H, Pv σ H → t D σ H)
    (main : ∀ u, PSs X (body.drop n) u → (∀ σ H, Pv σ H → u D σ H) → ∃ t, PSs X body t ∧ t D σ H) : ∃ t, PSs X body t ∧ t D σ H :=
  let ⟨u, h1, h2⟩ := tail
  main u h1 h2
theorem r_isi {x : V} {ty : String} {tv : Value} {b : Bool} (h : TyOf K H x tv) (e : PySem.W.kitOne K tv (.type ty) = some b) (q : Q (.bl b) H) : rIsi K [x, .ty ty] H Q := ⟨x, ty, tv, b, rfl, h, e, q⟩
end
end My

/-! More rules: a list unpacked, bools compared, is False. -/
namespace My
open PySem PySem.Spec PyProof.Rows L2 Mth
section
variable {prog : Program} {w : World} {A : Around} {E : Value → Shared → Prop} {s : Shared}
theorem draw_list {it l : Addr} {items : Array Value} (hne : l ≠ it) : ∀ (n i : Nat) (s : Shared) (Q : List Value → Shared → Prop), s.heap.IsListIter it l i → s.heap.IsList l items → i + n ≤ items.size →
    (∀ h', h'.IsListIter it l (i + n) → Heap.SameBut it s.heap h' → Q ((items.toList.drop i).take n) { s with heap := h' }) → wpAny (model prog w) A (draw (.ref it) n) Q E s
  | 0, i, s, Q, hit, _, _, hQ => by
    show wpAny _ _ (pure []) Q E s
    exact wpAny_pure (by simpa using hQ s.heap hit (Heap.SameBut.refl ..))
  | n + 1, i, s, Q, hit, ht, hle, hQ => by
    have hlt : i < items.size := by omega
    show wpAny _ _ (pyNext (.ref it) >>= _) Q E s
    refine wpAny_bind (wpAny_pyNext_list_item hit ht (x := items[i]) (by simp [hlt]) fun h₁ hit₁ hs₁ => ?_)
    refine wpAny_bind (wpAny_holding (draw_list hne n (i + 1) _ _ hit₁ (ht.extBut hs₁.extBut hne) (by omega) fun h₂ hit₂ hs₂ => wpAny_pure ?_))
    have hd : items.toList.drop i = items[i] :: items.toList.drop (i + 1) := by simp [List.drop_eq_getElem_cons, hlt]
    have := hQ h₂ (by rw [show i + (n + 1) = i + 1 + n by omega]; exact hit₂) (hs₁.trans hs₂)
    rw [hd, List.take_succ_cons] at this
    exact this
theorem unpackItems_list {t : Addr} {items : Array Value} {Q : List Value → Shared → Prop} (hh : A.handled = none) (ht : s.heap.IsList t items)
    (hQ : ∀ h', Heap.ExtBut s.heap.objs.size s.heap h' → Q items.toList { s with heap := h' }) : wpAny (model prog w) A (unpackItems (.ref t) items.size none) Q E s := by
  have hlt : t ≠ s.heap.objs.size := by obtain ⟨o, ho, _⟩ := id ht; exact Nat.ne_of_lt (Heap.lt_size ho)
  unfold unpackItems
  refine wpAny_bind ?_
  · unfold notIterableAtAll
    refine wpAny_bind (wpAny_specialOf ht.typeIs PySem.slot_list_iter.lookup ?_)
    refine wpAny_pure ?_
    simp only [Bool.false_eq_true, if_false]
    refine wpAny_bind (wpAny_holding (wpAny_pyIter_list ht ?_))
    have hp : (s.heap.push { cls := .type "list_iterator", data := .fields #[.ref t, .int 0 0] }).IsList t items := ht.extBut (b := s.heap.objs.size) (fun b o _ e => Heap.get?_push_of_some _ e) hlt
    refine wpAny_bind (wpAny_holding (draw_list hlt items.size 0 _ _ ⟨_, Heap.get?_push_size _ rfl, rfl, rfl⟩ hp (by omega) fun h₁ hit₁ hs₁ => ?_))
    have hall : List.take items.size (List.drop 0 items.toList) = items.toList := by
      rw [List.drop_zero]; exact List.take_of_length_le (by simp)
    rw [hall]
    rw [if_neg (by simp)]
    have ht₁ : h₁.IsList t items := hp.extBut hs₁.extBut hlt
    refine wpAny_bind (wpAny_holding (wpAny_pyNext_list_end hh hit₁ ht₁ (by simp) fun h₂ he₂ => ?_))
    simp only [Option.isSome_none, Bool.false_eq_true, if_false]
    refine wpAny_pure (hQ h₂ fun b o hb e => he₂ b o hb (hs₁.extBut b o hb (Heap.get?_push_of_some _ e)))
theorem assign_Tuple_list {env : Env} {elts : List Expr} {x1} {pos : Pos} {t : Addr} {items : Array Value} {Q : Unit → Shared → Prop} (hh : A.handled = none) (ht : s.heap.IsList t items)
    (hn : (assignEach elts env).length = items.size) (hstar : (assignEach elts env).findIdx? (·.1) = none)
    (h : ∀ h', Heap.ExtBut s.heap.objs.size s.heap h' → wpAny (model prog w) A (assignInOrder ((assignEach elts env).map (·.2)) items.toList) Q E { s with heap := h' }) :
    wpAny (model prog w) A (assign (.Tuple elts x1 pos) env (.ref t)) Q E s := by
  rw [assign_Tuple]
  refine wpAny_bind (wpAny_standAt ?_)
  unfold unpack
  rw [hn, hstar]
  exact wpAny_bind (wpAny_holding (unpackItems_list hh ht h))
end
section
variable {X : Cx} {pos : Pos}
/-- (a, b, ..) = a list of that length -/
def gLst (K : PySem.W.Frag) (n : Nat) (t : TGs) : TG := fun v σ H Q => ∃ a xs, v = .ref a ∧ SqL K H a xs ∧ xs.length = n ∧ t xs σ H Q
theorem pg_lst {es : List Expr} {k : Nat} {t : TGs} {n : Nat} (hc : X.calm = true) (h : PGs X es t)
    (hn : (assignEach es X.env).length = n := by rfl) (hst : (assignEach es X.env).findIdx? (·.1) = none := by rfl) : PG X (.Tuple es k pos) (gLst X.K n t) := by
  intro pins s σ H v u Q I r hw
  obtain ⟨a, xs, e1, hq, hl, hw⟩ := hw
  subst e1
  cases r
  obtain ⟨its, rv, ht, hz⟩ := I.list hq
  refine assign_Tuple_list (I.ok.hd hc) ht.isList (by simp [hn, ← hl, rv.length]) hst fun h' hx => ?_
  have I1 : Inv X pins σ H { s with heap := h' } := I.kept (t' := s.toks) fun b o e => hx b o (Nat.ne_of_lt (Heap.lt_size e)) e
  exact h pins _ σ H xs _ Q I1 (by simpa using rv) hw
theorem pgL (K : PySem.W.Frag) {es : List Expr} {k : Nat} {t : TGs} {n : Nat} (hc : X.calm = true) (g : PGs X es t)
    (hn : (assignEach es X.env).length = n := by rfl) (hst : (assignEach es X.env).findIdx? (·.1) = none := by rfl) (h : X.K = K := by rfl) : PG X (.Tuple es k pos) (gLst K n t) := h ▸ pg_lst hc g hn hst
theorem op_isB : OpR X (compareOp .Is) (fun x y H Q => ∃ a b, x = .bl a ∧ y = .bl b ∧ Q (.bl (a == b)) H) := by
  intro pins s σ H x y v u Q I rx ry h
  obtain ⟨a, b, rfl, rfl, q⟩ := h
  cases rx
  cases ry
  exact is_bool ⟨.bl (a == b), H, I, rfl, q⟩
end
section
variable {σ : L2.St} {H : Hp} {Q : VK} {a b : Bool} {K : PySem.W.Frag}
theorem r_eqB (q : Q (.bl (a == b)) H) : rEq (.bl a) (.bl b) H Q := ⟨rfl, by
  have e : decide (V.bl a = V.bl b) = (a == b) := by cases a <;> cases b <;> rfl
  rw [e]; exact q⟩
theorem r_neB (q : Q (.bl (!(a == b))) H) : rNe (.bl a) (.bl b) H Q := ⟨rfl, by
  have e : decide (V.bl a = V.bl b) = (a == b) := by cases a <;> cases b <;> rfl
  rw [e]; exact q⟩
theorem r_unlist3 {p : Addr} {x y z : V} {i j k : Nat} {R : L2.St → Hp → Prop} (h : H p = some (.lst [x, y, z])) (q : R (((σ.set i (some x)).set j (some y)).set k (some z)) H) : gLst K 3 (gCons (gName i) (gCons (gName j) (gCons (gName k) gNil))) (.ref p) σ H R :=
  ⟨p, _, rfl, SqL.of h, rfl, x, _, rfl, y, _, rfl, z, _, rfl, rfl, q⟩
end
end My

/-! A comprehension [elt for x in iter]: its block as a context of its own. -/
namespace My
open PySem PySem.Spec PyProof.Rows L2 Mth
/-- the block of a comprehension: N' its own name, then those of the frame that it reads -/
def cxComp (X : Cx) (N' : List Str) (scope : Scope) (cl : List (Str × Addr)) (C : Addr) (s0 : Shared) (H0 : Hp) (ex' : List Addr) (pn' : List (Addr × Obj)) : Cx :=
  { X with N := N', s₀ := s0, H₀ := H0, env := compEnvC scope cl C X.env, outer := X.stack, ex := ex', fn := fun _ => false, pn := pn', xe := fun _ _ => False }
/-- the values that the block reads -/
def capV (cap : List Nat) (σ : L2.St) : L2.St := cap.map fun j => (σ[j]?).getD none
theorem un_but {fs ex : List Addr} {H H' : Hp} {h h1 h2 : Heap} (u : Un fs ex H H' h h1) (k : ∀ b, b < h.objs.size → h2.get? b = h1.get? b) : Un fs ex H H' h h2 :=
  ⟨fun b o e n hb hx => (k b (Heap.lt_size e)).trans (u.keep b o e n hb hx), fun b o e n hb hx => let ⟨sl, q⟩ := u.slot b o e n hb hx; ⟨sl, (k b (Heap.lt_size e)).trans q⟩, u.free,
    fun b o e hx => let ⟨o', q⟩ := u.there b o e hx; ⟨o', (k b (Heap.lt_size e)).trans q⟩, u.tups, u.frzs, u.tbls⟩
theorem hok_but {P : Program} {w : World} {H : Hp} {h h' : Heap} {C : Addr} (x : HOk P w H h) (n : H C = none) (k : ∀ b o, b ≠ C → h.get? b = some o → h'.get? b = some o) : HOk P w H h' := fun b u e =>
  (x b u e).stay (fun c v hc q => k c v (by
    rcases hc with z | z
    · rw [z]; exact ne_of_none e n
    · exact ne_of_none z n) q) (fun _ q => q) fun _ _ q => q
/-- one turn of a comprehension's loop, whatever its target and its tests are -/
theorem compLoop_gen {prog : Program} {w : World} {A : Around} {R : Result → Shared → Prop} {s : Shared} {elt iter tg : Expr} {ifs : List Expr} {scope : Scope} {pos : Pos} {it acc : Value} {env : Env} (I : Nat → Shared → Prop)
    (turn : ∀ n s, I n s → wpAny (model prog w) A (pyNext it) (fun r s₁ => match r with
      | none => R (.ok .next) s₁
      | some v => wpAny (model prog w) A (letOwnedTupleGo tg it v) (fun _ s₁' => wpAny (model prog w) A (assign tg env v) (fun _ s₂ =>
          wpAny (model prog w) A (forIn ifs true fun c r => if r = true then do let ok ← isTrue c env (eval c env); pure (ForInStep.yield ok) else pure (ForInStep.yield r)) (fun ok s₃ =>
            if ok = true then wpAny (model prog w) A (eval elt env) (fun x s₄ =>
              wpAny (model prog w) A (call (.builtin "list.append") [acc, x]) (fun _ s₅ => ∃ m, m < n ∧ I m s₅) (notedBy (model prog w) A env fun e s' => R (.error e) s') s₄) (notedBy (model prog w) A env fun e s' => R (.error e) s') s₃
            else ∃ m, m < n ∧ I m s₃) (notedBy (model prog w) A env fun e s' => R (.error e) s') s₂) (notedBy (model prog w) A env fun e s' => R (.error e) s') s₁') (notedBy (model prog w) A env fun e s' => R (.error e) s') s₁) (notedBy (model prog w) A env fun e s' => R (.error e) s') s)
    (n : Nat) (h : I n s) : codeAny (model prog w) A (.compLoop (.ListComp elt [⟨tg, iter, ifs, 0⟩] scope pos) 0 it acc env) R s := by
  refine codeAny_loop rfl I (fun n s hI => ?_) n h
  show wpAny _ A ((compTurn (.ListComp elt [⟨tg, iter, ifs, 0⟩] scope pos) 0 it acc env).onRaise (fun x => do noteFrame x env; theTreesLotGoes x)) _ _ s
  refine wpAny_noted ?_
  rw [compTurn_list]
  refine wpAny_bind (wpAny_standAt (wpAny_bind (wpAny_mono (turn n s hI) (fun r s₁ h₁ => ?_) fun _ _ h' => h')))
  cases r with
  | none => exact wpAny_pure h₁
  | some v =>
    refine wpAny_bind (wpAny_mono h₁ (fun _ s₂ h₂ => wpAny_bind (wpAny_mono h₂ (fun _ s₃ h₃ => wpAny_bind (wpAny_mono h₃ (fun ok s₄ h₄ => ?_) fun _ _ h' => h')) fun _ _ h' => h')) fun _ _ h' => h')
    cases ok with
    | false => exact wpAny_pure ⟨rfl, h₄⟩
    | true =>
      exact wpAny_bind (wpAny_bind (wpAny_mono h₄ (fun x s₄ h₄ => wpAny_bind (wpAny_mono h₄ (fun _ s₅ h₅ => wpAny_pure (wpAny_pure ⟨rfl, h₅⟩)) fun _ _ h' => h')) fun _ _ h' => h'))
/-- the tests of a comprehension -/
def PTs (X : Cx) (ifs : List Expr) (t : TT) : Prop :=
  ∀ (pins : List (Addr × Obj)) (s : Shared) (σ : L2.St) (H : Hp) (Q : Bool → Hp → Prop), Inv X pins σ H s → t σ H Q →
    wpAny (model X.prog X.w) X.A (forIn ifs true fun c r => if r = true then do let ok ← isTrue c X.env (eval c X.env); pure (ForInStep.yield ok) else pure (ForInStep.yield r)) (TP X pins σ Q) X.xe s
def tYes : TT := fun _ H B => B true H
theorem pts_nil {X : Cx} : PTs X [] tYes := fun _ _ _ H _ I h => wpAny_tests_nil ⟨H, I, h⟩
theorem pts_one {X : Cx} {c : Expr} {t : TT} (h : PT X c t) : PTs X [c] t := fun pins s σ H Q I q => wpAny_tests_one (h pins s σ H Q I q)
/-- the names that the block reads, one by one -/
def CapOk (X : Cx) (scope : Scope) (cl : List (Str × Addr)) : List Str → List Nat → Prop
  | [], [] => True
  | y :: ys, j :: js => (X.N[j]? = some y ∧ X.env.kindOf y = some .cell ∧ (relabel scope X.env).names.lookup y = some .cell ∧ cl.lookup y = X.env.cells.lookup y) ∧ CapOk X scope cl ys js
  | _, _ => False
theorem CapOk.len {X : Cx} {scope : Scope} {cl : List (Str × Addr)} : ∀ {ys : List Str} {js : List Nat}, CapOk X scope cl ys js → ys.length = js.length
  | [], [], _ => rfl
  | _ :: _, _ :: _, h => congrArg (· + 1) h.2.len
theorem CapOk.at {X : Cx} {scope : Scope} {cl : List (Str × Addr)} : ∀ {ys : List Str} {js : List Nat}, CapOk X scope cl ys js → ∀ (i j : Nat) (y : Str), ys[i]? = some y → js[i]? = some j →
    X.N[j]? = some y ∧ X.env.kindOf y = some .cell ∧ (relabel scope X.env).names.lookup y = some .cell ∧ cl.lookup y = X.env.cells.lookup y
  | [], [], _, i, _, _, e, _ => by simp at e
  | _ :: _, _ :: _, h, 0, j, y, e1, e2 => by
    simp at e1 e2
    subst e1 e2
    exact h.1
  | _ :: _, _ :: _, h, i + 1, j, y, e1, e2 => h.2.at i j y (by simpa using e1) (by simpa using e2)
/-- [te for g in wi if tt]: n names of its own, the frame's names at cap -/
def tComp (wi : TI) (n : Nat) (cap : List Nat) (g : TG) (tt : TT) (te : TE) : TE := fun σ H Q => wi σ H fun J H1 => ∀ D, H1 D = none → ∃ W : Nat → Nat → List V → Hp → Prop, (∃ m, W 0 m [] (upd H1 D (.lst []))) ∧
  ∀ i m xs H2, W i m xs H2 → H2 D = some (.lst xs) ∧ ((J.stop i H2 ∧ Q (.ref D) H2) ∨ (J.go i H2 ∧ xs.length < sizeLine ∧ ∀ x H3 σ0, σ0.length = n → J.yld i H2 x H3 →
    g x (σ0 ++ capV cap σ) H3 fun σ2 H4 => (∃ σ1, σ1.length = n ∧ σ2 = σ1 ++ capV cap σ) ∧ tt σ2 H4 fun b H5 => if b = true then te σ2 H5 fun y H6 => H6 D = some (.lst xs) ∧ ∃ m', m' < m ∧ W (i + 1) m' (xs ++ [y]) (upd H6 D (.lst (xs ++ [y])))
      else ∃ m', m' < m ∧ W (i + 1) m' xs H5))
section
variable {X : Cx} {elt iter tg : Expr} {ifs : List Expr} {pos : Pos} {scope : Scope} {cl : List (Str × Addr)} {wi : TI} {te : TE} {tt : TT} {g : TG} {O N' : List Str} {cap : List Nat} {n : Nat}
theorem inv_but {pins : List (Addr × Obj)} {σ : L2.St} {H : Hp} {s : Shared} {C : Addr} {h' : Heap} (I : L2.Inv X pins σ H s) (hC : FpOk X pins H C) (sb : Heap.SameBut C s.heap h') : L2.Inv X pins σ H { s with heap := h' } := by
  have k : ∀ b o, s.heap.get? b = some o → b ∉ [C] → h'.get? b = some o := fun b o e hb => (sb.2 b (fun z => hb (by rw [z]; exact List.mem_singleton.mpr rfl))).trans e
  refine I.call' (s' := { s with heap := h' }) (ch := [C]) rfl ⟨fun b o e _ _ hb => k b o e hb, fun b o e _ _ hb => ⟨o.slots, k b o e hb⟩, fun b o _ n _ => n, fun b o e hb => ⟨o, k b o e hb⟩, fun _ _ q => q, fun _ _ _ q => q, fun _ ps q => ⟨#[], by simpa using q⟩⟩
    (hok_but I.hok hC.1 fun b o hb e => (sb.2 b hb).trans e) I.bare fun b hb => ?_
  obtain rfl : b = C := List.mem_singleton.mp hb
  exact ⟨hC.2.2.2.1, hC.2.1, hC.2.2.2.2.1, hC.2.2.2.2.2⟩
theorem comp_gen {pins : List (Addr × Obj)} {s : Shared} {σ : L2.St} {H : Hp} {Q : VK} {cpos : Pos} (use : Option (Value → Sem Unit)) (Q' : Value → Shared → Prop) (hc : X.calm = true) (hi : PI X tg iter wi)
    (hg : ∀ (C : Addr) (s0 : Shared) (H0 : Hp) (ex' : List Addr) (pn' : List (Addr × Obj)), PG (cxComp X (O ++ N') scope cl C s0 H0 ex' pn') tg g)
    (htt : ∀ (C : Addr) (s0 : Shared) (H0 : Hp) (ex' : List Addr) (pn' : List (Addr × Obj)), PTs (cxComp X (O ++ N') scope cl C s0 H0 ex' pn') ifs tt)
    (helt : ∀ (C : Addr) (s0 : Shared) (H0 : Hp) (ex' : List Addr) (pn' : List (Addr × Obj)), PE (cxComp X (O ++ N') scope cl C s0 H0 ex' pn') elt te)
    (hO : O.length = n) (hcap : CapOk X scope cl N' cap)
    (hclos : closureFor scope X.env = pure cl) (hcell : ∀ y ∈ scope.names, y.2 ≠ .cell) (hkind : scope.kind = .function) (hnames : ∀ y ∈ scope.names, y.2 = .local → scope.names.lookup y.1 = some .local)
    (hclx : ∀ y c, cl.lookup y = some c → X.env.cells.lookup y = some c) (hhas : ∀ y, ((relabel scope X.env).names.lookup y = some .cell ∨ (relabel scope X.env).names.lookup y = some .free) → ∃ c, cl.lookup y = some c)
    (hs : ∀ z, foldedSetIterable iter X.env z = pure z)
    (I : L2.Inv X pins σ H s) (h : tComp wi n cap g tt te σ H Q)
    (fin : ∀ (D : Addr) (H5 : Hp) (s6 : Shared) (C : Addr), L2.Inv X pins σ H5 s6 → FpOk X pins H5 C → (∃ m, s6.heap.Ns C m) → Q (.ref D) H5 → compPost (model X.prog X.w) X.A X.xe use Q' (.ref D) C (.ok .next) s6) :
    wpAny (model X.prog X.w) X.A (comprehension (.ListComp elt [⟨tg, iter, ifs, 0⟩] scope pos) scope X.env cpos (newList []) false (eval iter X.env) use) Q' X.xe s := by
  refine wpAny_comprehension_free (use := use) rfl hs hclos hkind hnames (thn (hi pins s σ H _ I h) fun v s1 h1 => thn h1 fun itv s2 h2 => ?_)
  obtain ⟨it, fp, tn, J, H2, e, I2, T, st2, f2, q2⟩ := h2
  subst e
  refine wpAny_newObj_type (wpAny_newFunctionEnv hcell (by intro y hy; simp at hy) (fun h₁ hns₁ hsb₁ => ?_) hkind)
  dsimp only at hns₁ hsb₁ ⊢
  -- the list, then the block's own names
  have I3 : Inv X pins σ (upd H2 s2.heap.objs.size (.lst [])) { s2 with heap := s2.heap.push { cls := .type "list", data := .seq ([] : List Value).toArray }, toks := s2.toks } := I2.lnew (its := []) (t' := s2.toks) .nil (Nat.zero_le _)
  generalize hH3 : s2.heap.push { cls := .type "list", dict := none, data := .seq ([] : List Value).toArray } = h3 at hns₁ hsb₁ I3 ⊢
  have q3 := q2 s2.heap.objs.size (I2.hok.fresh (Nat.le_refl _))
  generalize hD : s2.heap.objs.size = D at I3 q3 hns₁ hsb₁ ⊢
  obtain ⟨W, ⟨m0, w0⟩, turn⟩ := q3
  have hC : ∀ b o, h3.get? b = some o → b ≠ h3.objs.size := fun b o e => Nat.ne_of_lt (Heap.lt_size e)
  have old : ∀ b o, h3.get? b = some o → h₁.get? b = some o := fun b o e => hsb₁.extBut b o (hC b o e) (Heap.get?_push_of_some _ e)
  have fpThere : ∀ b ∈ fp, ∃ o, h3.get? b = some o := fun b hb => by
    obtain ⟨o, e, _⟩ := T.obj _ _ st2 b hb
    exact ⟨o, by rw [← hH3]; exact Heap.get?_push_of_some _ e⟩
  have fp3 : ∀ b ∈ fp, upd H2 D (.lst []) b = none := fun b hb => by
    have n := (f2 b hb).1
    obtain ⟨o, e, _⟩ := T.obj _ _ st2 b hb
    rw [upd_ne (by rw [← hD]; exact Nat.ne_of_lt (Heap.lt_size e))]
    exact n
  have stk : ∀ b ∈ fp, b ∉ frs X.stack := fun b hb z => by
    rcases List.mem_cons.mp (I3.stkSub b z) with e | e
    · exact (f2 b hb).2.1 e
    · exact (f2 b hb).2.2.1 e
  have ok : (cxComp X (O ++ N') scope cl h3.objs.size { s2 with heap := h3, toks := s2.toks } (upd H2 D (.lst [])) fp (X.pn ++ pins)).Ok :=
    ⟨I.ok.mod, hkind, I.ok.glob, I.ok.blt, Nat.le_refl _, fun y z c a b => I.ok.inj y z c (hclx y c a) (hclx z c b), hhas, fun _ _ z => absurd z Bool.false_ne_true, I.ok.hd, I.ok.frames, .inl rfl,
      fun b hb => ⟨by obtain ⟨o, e⟩ := fpThere b hb; exact hC b o e, fun y c a => (f2 b hb).2.2.2.2.1 y c (hclx y c a)⟩, I3.bs, Nat.le_trans I3.ok.bsz I3.sz,
      fun b o e hb => by
        rcases (f2 b hb).2.2.2.1 with z | z
        · exact I.ok.noex b o e z
        · exact absurd (Nat.lt_of_lt_of_le (Heap.lt_size (I.ok.bs b o e).1) z) (Nat.lt_irrefl _),
      stk, I3.stack, I3.stkFree⟩
  have I4 : Inv (cxComp X (O ++ N') scope cl h3.objs.size { s2 with heap := h3, toks := s2.toks } (upd H2 D (.lst [])) fp (X.pn ++ pins)) [] (List.replicate n none ++ capV cap σ) (upd H2 D (.lst [])) { s2 with heap := h₁, toks := s2.toks + ([] : List (Str × Value)).length } := by
    refine ⟨ok, rfl, I3.bare, Un.kept old, ⟨_, hns₁, fun i y v e1 e2 e3 => ?_⟩, fun y c a => ?_, I3.hok.fresh (Nat.le_refl _), fun y c a => I3.freeC y c (hclx y c a), fun p hp => ?_, I3.hok.kept old, ?_⟩
    · by_cases hin : i < n
      · rw [List.getElem?_append_left (by rw [List.length_replicate]; exact hin), List.getElem?_replicate, if_pos hin] at e2
        cases e2
      · have e1' : N'[i - n]? = some y := by
          have z : (O ++ N')[i]? = some y := e1
          rw [List.getElem?_append_right (by omega), hO] at z
          exact z
        have hi' : i - n < cap.length := by rw [← hcap.len]; exact (List.getElem?_eq_some_iff.mp e1').1
        obtain ⟨j, ej⟩ : ∃ j, cap[i - n]? = some j := ⟨_, List.getElem?_eq_getElem hi'⟩
        obtain ⟨a1, a2, a3, a4⟩ := hcap.at (i - n) j y e1' ej
        have e2' : σ[j]? = some (some v) := by
          have z : (capV cap σ)[i - n]? = some (some v) := by
            rw [List.getElem?_append_right (by rw [List.length_replicate]; omega), List.length_replicate] at e2
            exact e2
          unfold capV at z
          rw [List.getElem?_map, ej] at z
          have z2 : (σ[j]?).getD none = some v := by simpa using z
          cases q : σ[j]? with
          | none => rw [q] at z2; cases z2
          | some o => rw [q] at z2; exact congrArg some z2
        obtain ⟨m, hn, hl⟩ := I3.loc
        obtain ⟨u, r, l⟩ := hl j y v a1 e2' (.inr (.inl a2))
        refine ⟨u, r, .inr ⟨.inl a3, ?_⟩⟩
        rcases l with ⟨k, _⟩ | ⟨_, c, ec, o, ho, hd⟩
        · rw [a2] at k; cases k
        · exact ⟨c, a4.trans ec, o, old c o ho, hd⟩
    · obtain ⟨v, o, ho, hd⟩ := I3.cell y c (hclx y c a)
      exact ⟨v, o, old c o ho, hd⟩
    · have hp' : p ∈ X.pn ++ pins := by simpa [cxComp] using hp
      obtain ⟨e, n, ne, nf, d⟩ := I3.pin p hp'
      refine ⟨old _ _ e, n, hC _ _ e, fun z => ?_, d⟩
      rcases List.mem_cons.mp (I3.stkSub p.1 z) with e | e
      · exact ne e
      · exact nf e
    · show (List.replicate n none ++ capV cap σ).length = (O ++ N').length
      unfold capV
      rw [List.length_append, List.length_append, List.length_replicate, List.length_map, hcap.len, hO]
  have loop : codeAny (model X.prog X.w) X.A (.compLoop (.ListComp elt [⟨tg, iter, ifs, 0⟩] scope pos) 0 (.ref it) (.ref D) (compEnvC scope cl h3.objs.size X.env))
      (compPost (model X.prog X.w) X.A X.xe use Q' (.ref D) h3.objs.size) { s2 with heap := h₁, toks := s2.toks + ([] : List (Str × Value)).length } := by
    have fpk : ∀ {H' : Hp}, (∀ b ∈ fp, H' b = none) → ∀ b ∈ fp, FpOk (cxComp X (O ++ N') scope cl h3.objs.size { s2 with heap := h3, toks := s2.toks } (upd H2 D (.lst [])) fp (X.pn ++ pins)) [] H' b := fun hn b hb => by
      obtain ⟨o, e⟩ := fpThere b hb
      refine ⟨hn b hb, hC b o e, stk b hb, .inl hb, fun y c a => (f2 b hb).2.2.2.2.1 y c (hclx y c a), fun p hp => ?_⟩
      have hp' : p ∈ X.pn ++ pins := by simpa [cxComp] using hp
      exact (f2 b hb).2.2.2.2.2 p hp'
    refine compLoop_gen (fun mm s' => ∃ (i : Nat) (xs : List V) (H' : Hp) (σ0 : L2.St), σ0.length = n ∧ Inv (cxComp X (O ++ N') scope cl h3.objs.size { s2 with heap := h3, toks := s2.toks } (upd H2 D (.lst [])) fp (X.pn ++ pins)) [] (σ0 ++ capV cap σ) H' s' ∧ tn i s'.heap ∧ (∀ b ∈ fp, H' b = none) ∧ W i mm xs H') ?_ m0
      ⟨0, [], _, List.replicate n none, List.length_replicate, I4, T.keep _ _ _ st2 fun b hb o e => old b o (by rw [← hH3]; exact Heap.get?_push_of_some _ e), fp3, w0⟩
    rintro mm s5 ⟨i, xs, H5, σ0, hσ0, I5, st5, fr5, w5⟩
    obtain ⟨e5, tw⟩ := turn i mm xs H5 w5
    rcases tw with ⟨stop, qn⟩ | ⟨go, hz, step⟩
    · refine thn (T.done (cxComp X (O ++ N') scope cl h3.objs.size { s2 with heap := h3, toks := s2.toks } (upd H2 D (.lst [])) fp (X.pn ++ pins)) rfl rfl rfl hc i [] s5 _ H5 _ I5 (fpk fr5) st5 stop) fun r s6 ⟨hr, I6⟩ => ?_
      subst hr
      obtain ⟨m, hn, _⟩ := id I6.loc
      have J6 : L2.Inv X pins σ H5 s6 := I3.call' (s' := s6) (ch := fp) I6.os I6.base I6.hok I6.bare fun b hb => by
        obtain ⟨_, g1, _, g3, g4, g5⟩ := f2 b hb
        exact ⟨g3, g1, g4, g5⟩
      exact fin D H5 s6 _ J6 (I3.fpOk (Nat.le_refl _) I6.free) ⟨m, hn⟩ qn
    · refine thn (T.item (cxComp X (O ++ N') scope cl h3.objs.size { s2 with heap := h3, toks := s2.toks } (upd H2 D (.lst [])) fp (X.pn ++ pins)) rfl rfl rfl hc i [] s5 _ H5 _ I5 (fpk fr5) st5 go) fun r s6 ⟨u, hr, h6⟩ => ?_
      subst hr
      refine thn h6 fun _ s7 ⟨xv, H7, I7, r7, y7, st7, fr7⟩ => ?_
      have I7' := I7.pinned (fpk fr7) (T.obj _ _ st7)
      refine wpAny_mono (hg _ _ _ _ _ _ s7 _ H7 xv u _ I7' r7 (step xv H7 σ0 hσ0 y7)) (fun _ s8 ⟨σ2, H8, I8, ⟨σ1, hσ1, e2⟩, q8⟩ => ?_) fun _ _ z => z.elim
      refine wpAny_mono (htt _ _ _ _ _ _ s8 σ2 H8 _ I8 q8) (fun ok s9 ⟨H9, I9, q9⟩ => ?_) fun _ _ z => z.elim
      subst e2
      have keep : ∀ {s' : Shared} {σ' : L2.St} {H' : Hp}, Inv (cxComp X (O ++ N') scope cl h3.objs.size { s2 with heap := h3, toks := s2.toks } (upd H2 D (.lst [])) fp (X.pn ++ pins)) ([] ++ pinsAt fp s7.heap) σ' H' s' → tn (i + 1) s'.heap ∧ ∀ b ∈ fp, H' b = none := fun {s' σ' H'} J =>
        ⟨T.keep _ _ _ st7 fun b hb o e => (J.pin (b, o) (List.mem_append_right _ (List.mem_append_right _ (mem_pinsAt hb e)))).1, fun b hb => by
          obtain ⟨o, e, d⟩ := T.obj _ _ st7 b hb
          exact (J.pin (b, o) (List.mem_append_right _ (List.mem_append_right _ (mem_pinsAt hb e)))).2.1⟩
      cases ok with
      | false =>
        rw [if_neg Bool.false_ne_true] at q9 ⊢
        obtain ⟨m', hm, w9⟩ := q9
        exact ⟨m', hm, i + 1, xs, H9, σ1, hσ1, I9.unpinned, (keep I9).1, (keep I9).2, w9⟩
      | true =>
        rw [if_pos rfl] at q9 ⊢
        refine wpAny_mono (helt _ _ _ _ _ _ s9 _ H9 _ I9 q9) (fun yv s10 ⟨y, H10, I10, r10, e10, m', hm, w10⟩ => ?_) fun _ _ z => z.elim
        refine wpAny_mono (mt_append (X := cxComp X (O ++ N') scope cl h3.objs.size { s2 with heap := h3, toks := s2.toks } (upd H2 D (.lst [])) fp (X.pn ++ pins)) _ s10 _ H10 (.ref D) [y] (.ref D) [yv] (fun _ H' => H' = upd H10 D (.lst (xs ++ [y]))) I10 rfl (.cons r10 .nil) ⟨D, xs, y, rfl, rfl, e10, hz, rfl⟩) (fun _ s11 ⟨_, H11, I11, _, e11⟩ => ?_) fun _ _ z => z.elim
        subst e11
        exact ⟨m', hm, i + 1, xs ++ [y], _, σ1, hσ1, I11.unpinned, (keep I11).1, (keep I11).2, w10⟩
  exact codeAny_compStart_list loop (T.self _ 0 _ _ _ (T.keep _ _ _ st2 fun b hb o e => old b o (by rw [← hH3]; exact Heap.get?_push_of_some _ e)) loop)
theorem pe_comp (hc : X.calm = true) (hi : PI X tg iter wi)
    (hg : ∀ (C : Addr) (s0 : Shared) (H0 : Hp) (ex' : List Addr) (pn' : List (Addr × Obj)), PG (cxComp X (O ++ N') scope cl C s0 H0 ex' pn') tg g)
    (htt : ∀ (C : Addr) (s0 : Shared) (H0 : Hp) (ex' : List Addr) (pn' : List (Addr × Obj)), PTs (cxComp X (O ++ N') scope cl C s0 H0 ex' pn') ifs tt)
    (helt : ∀ (C : Addr) (s0 : Shared) (H0 : Hp) (ex' : List Addr) (pn' : List (Addr × Obj)), PE (cxComp X (O ++ N') scope cl C s0 H0 ex' pn') elt te)
    (hO : O.length = n) (hcap : CapOk X scope cl N' cap)
    (hclos : closureFor scope X.env = pure cl) (hcell : ∀ y ∈ scope.names, y.2 ≠ .cell) (hkind : scope.kind = .function) (hnames : ∀ y ∈ scope.names, y.2 = .local → scope.names.lookup y.1 = some .local)
    (hclx : ∀ y c, cl.lookup y = some c → X.env.cells.lookup y = some c) (hhas : ∀ y, ((relabel scope X.env).names.lookup y = some .cell ∨ (relabel scope X.env).names.lookup y = some .free) → ∃ c, cl.lookup y = some c)
    (hs : ∀ z, foldedSetIterable iter X.env z = pure z := by intro _; rfl) :
    PE X (.ListComp elt [⟨tg, iter, ifs, 0⟩] scope pos) (tComp wi n cap g tt te) := by
  intro pins s σ H Q I h
  rw [eval_ListComp]
  exact comp_gen none (EP X pins σ Q) hc hi hg htt helt hO hcap hclos hcell hkind hnames hclx hhas hs I h fun D H5 s6 C J fC ⟨m, hn⟩ q => ⟨m, hn, fun h' sb => ⟨.ref D, H5, inv_but J fC sb, rfl, q⟩⟩
/-- x = [..] on one row: the name is stored ahead of the block's going -/
theorem ps_comp {i : Nat} {x : Str} {pos' spos : Pos} (hN : X.N.Nodup) (hix : X.N[i]? = some x) (hx : Loc X.env.scope x) (hc : X.calm = true) (hi : PI X tg iter wi)
    (hg : ∀ (C : Addr) (s0 : Shared) (H0 : Hp) (ex' : List Addr) (pn' : List (Addr × Obj)), PG (cxComp X (O ++ N') scope cl C s0 H0 ex' pn') tg g)
    (htt : ∀ (C : Addr) (s0 : Shared) (H0 : Hp) (ex' : List Addr) (pn' : List (Addr × Obj)), PTs (cxComp X (O ++ N') scope cl C s0 H0 ex' pn') ifs tt)
    (helt : ∀ (C : Addr) (s0 : Shared) (H0 : Hp) (ex' : List Addr) (pn' : List (Addr × Obj)), PE (cxComp X (O ++ N') scope cl C s0 H0 ex' pn') elt te)
    (hO : O.length = n) (hcap : CapOk X scope cl N' cap)
    (hclos : closureFor scope X.env = pure cl) (hcell : ∀ y ∈ scope.names, y.2 ≠ .cell) (hkind : scope.kind = .function) (hnames : ∀ y ∈ scope.names, y.2 = .local → scope.names.lookup y.1 = some .local)
    (hclx : ∀ y c, cl.lookup y = some c → X.env.cells.lookup y = some c) (hhas : ∀ y, ((relabel scope X.env).names.lookup y = some .cell ∨ (relabel scope X.env).names.lookup y = some .free) → ∃ c, cl.lookup y = some c)
    (hsw : swapsWith (.ListComp elt [⟨tg, iter, ifs, 0⟩] scope pos) (some (.Name x pos')) spos.line X.env = pure true)
    (hs : ∀ z, foldedSetIterable iter X.env z = pure z := by intro _; rfl) (hf : X.fn x = true ∨ X.env.scope.names.lookup x = some .local := by first | exact .inl rfl | exact .inr rfl | assumption) :
    PS X (.Assign [.Name x pos'] (.ListComp elt [⟨tg, iter, ifs, 0⟩] scope pos) spos) (tAsg (tComp wi n cap g tt te) (gName i)) := by
  intro pins s σ H D I h
  rw [exec_Assign_Name_used _ _ _ _ hsw]
  refine wpAny_bind (wpAny_standAt (wpAny_bind ?_))
  show wpAny _ _ (comprehension (.ListComp elt [⟨tg, iter, ifs, 0⟩] scope pos) scope X.env _ (newList []) false (eval iter X.env) (some (assign (.Name x pos') X.env)) >>= fun _ => pure ()) _ _ s
  refine wpAny_bind (comp_gen (some (assign (.Name x pos') X.env)) (fun _ s' => wpAny _ _ (pure ()) _ _ s') hc hi hg htt helt hO hcap hclos hcell hkind hnames hclx hhas hs I h fun Dl H5 s6 C J fC ⟨m, hn⟩ q => ?_)
  refine wpAny_assign_Name (store_ok2 J hN hix hx (show RelV (.ref Dl) (.ref Dl) from rfl) (fun s7 I7 ⟨a, sb, ha⟩ => ⟨m, hn.sameBut sb ?_, fun h' sb' => wpAny_pure (wpAny_pure ⟨_, H5, inv_but I7 fC sb', q⟩)⟩) hf)
  rcases ha with rfl | e
  · exact fC.2.1
  · exact fun z => fC.2.2.2.2.1 x a e z.symm
end
end My

/-! Whole numbers once more: bits, the greater and the lesser of two, a constant of the top, tuples put together. -/
namespace My
open PySem PySem.Spec PyProof.Rows L2 Mth
structure Cn (mg : Str → Option Value) (x : Str) (n : Int) : Prop where
  ex : ∃ t, mg x = some (.int n t)
section
variable {X : Cx} {x : Str} {n : Int} {pos apos cpos : Pos} {o : Expr} {to : TE}
theorem pe_cn (hg : Gl X x) (C : Cn X.mg x n) (hd : (x == ("__debug__" : Str)) = false := by decide) : PE X (.Name x pos) (tC (.int n)) := by
  obtain ⟨t, h⟩ := C.ex
  exact L2.pe_glob hg h ⟨t, rfl⟩ hd
def rBits : V → Hp → VK → Prop := fun x H Q => ∃ i : Int, x = .int i ∧ Q (.int ((Builtin.Int.intBits i : Nat) : Int)) H
theorem mt_bits : MtR X "int.bit_length" (fun x vs H Q => vs = [] ∧ rBits x H Q) := by
  intro pins s σ H x vs v us Q I rx rv h
  obtain ⟨rfl, i, rfl, q⟩ := h
  cases rv
  obtain ⟨t, rfl⟩ := rx
  exact call_int_bit_length ⟨.int ((Builtin.Int.intBits i : Nat) : Int), H, I.tok _, ⟨_, rfl⟩, q⟩
theorem pe_bits (ho : PE X o to) (hbase : attributeBase o "bit_length" X.env (eval o X.env) = eval o X.env := by rfl) (hline : (apos.endLine == cpos.line) = true := by rfl) :
    PE X (.Call (.Attribute o "bit_length" apos) [] [] cpos) (tUn (fun x H Q => tyV X.K "int" x H ∧ ([] : List V) = [] ∧ rBits x H Q) to) :=
  pe_bm0 PySem.F.plainAttrs_int slot_int_bit_length type_int_bit_length mt_bits ho hbase hline
end
section
variable {σ : L2.St} {H : Hp} {Q : VK} {m n : Int} {K : PySem.W.Frag} {X : Cx}
theorem r_bits (q : Q (.int ((Builtin.Int.intBits m : Nat) : Int)) H) : tyV K "int" (.int m) H ∧ ([] : List V) = [] ∧ rBits (.int m) H Q := ⟨rfl, rfl, m, rfl, q⟩
def rMax : List V → Hp → VK → Prop := fun xs H Q => ∃ i j : Int, xs = [.int i, .int j] ∧ Q (.int (if j > i then j else i)) H
def rMin : List V → Hp → VK → Prop := fun xs H Q => ∃ i j : Int, xs = [.int i, .int j] ∧ Q (.int (if j < i then j else i)) H
theorem maxC (hc : X.calm = true) : CallR X (.builtin "max") rMax := call_max2 hc
theorem minC (hc : X.calm = true) : CallR X (.builtin "min") rMin := call_min2 hc
theorem r_max (q : Q (.int (if n > m then n else m)) H) : rMax [.int m, .int n] H Q := ⟨m, n, rfl, q⟩
theorem r_min (q : Q (.int (if n < m then n else m)) H) : rMin [.int m, .int n] H Q := ⟨m, n, rfl, q⟩
theorem catT (K : PySem.W.Frag) (h : X.K = K := by rfl) : OpR X (binaryOp .Add) (rCatT K) := h ▸ op_catT
theorem r_catT {p r : Addr} {x y : V} {xs ys : List V} (hp : H p = some (.tup (x :: xs))) (hr : H r = some (.tup (y :: ys))) (h : Nw .tup (x :: xs ++ y :: ys) H Q) : rCatT K (.ref p) (.ref r) H Q :=
  ⟨p, r, _, _, rfl, rfl, SqT.of hp, SqT.of hr, by simp, by have := h.1; rw [List.length_append] at this; exact this, fun e => by simp at e, fun _ => h.2⟩
theorem r_cat {p r : Addr} {xs ys : List V} (hp : H p = some (.lst xs)) (hr : H r = some (.lst ys)) (h : Nw .lst (xs ++ ys) H Q) : rCat (.ref p) (.ref r) H Q := ⟨p, r, _, _, rfl, rfl, hp, hr, by have := h.1; rw [List.length_append] at this; exact this, h.2⟩
theorem r_rep {p : Addr} {xs : List V} {k : Int} (hp : H p = some (.lst xs)) (h1 : -(2 ^ 63) ≤ k) (h2 : k < 2 ^ 63) (h : Nw .lst (List.replicate k.toNat xs).flatten H Q) : rRep (.ref p) (.int k) H Q :=
  ⟨p, k, xs, rfl, rfl, hp, h1, h2, by have := h.1; rw [len_rep] at this; rw [Nat.mul_comm]; exact this, h.2⟩
theorem at3 {x y z u : V} {xs : List V} : atI (x :: y :: z :: u :: xs) 3 = some u := atI_nat (j := 3) rfl
theorem r_t3 {p : Addr} {x y z u : V} {xs : List V} (h : H p = some (.tup (x :: y :: z :: u :: xs))) (q : Q u H) : rIxT K (.ref p) (.int 3) H Q := ⟨p, _, 3, u, rfl, rfl, SqT.of h, at3, q⟩
end
section
variable {σ : L2.St} {H : Hp} {to ti : TE} {ts : TSet} {R : L2.St → Hp → Prop} {v : V}
theorem r_asg {te : TE} {g : TG} {D : Ends} (h : te σ H fun x H1 => g x σ H1 D.nx) : tAsg te g D σ H := h
theorem r_gsub (h : to σ H fun o H1 => ti σ H1 fun i H2 => ts o i v H2 fun H3 => R σ H3) : gSub to ti ts v σ H R := h
theorem r_setL {p : Addr} {xs : List V} {k : Int} {j : Nat} {Q : Hp → Prop} (h : H p = some (.lst xs)) (e : ixN xs.length k = some j) (q : Q (upd H p (.lst (xs.set j v)))) : rSetL (.ref p) (.int k) v H Q := ⟨p, xs, k, j, rfl, rfl, h, e, q⟩
end
theorem heads_big {low : Int} (c : ((Builtin.Int.intBits low : Nat) : Int) > 128) (h0 : 0 ≤ low) : 340282366920938463463374607431768211456 ≤ low := by
  have h : ¬ Builtin.Int.intBits low ≤ 128 := by omega
  have k : ¬ low.natAbs < 2 ^ 128 := fun q => h (intBits_le_iff.mpr q)
  have e : (2 : Nat) ^ 128 = 340282366920938463463374607431768211456 := by decide
  omega
theorem heads_small {low : Int} (c : ¬ ((Builtin.Int.intBits low : Nat) : Int) > 128) : low ≤ 340282366920938463463374607431768211456 := by
  have h : Builtin.Int.intBits low ≤ 128 := by omega
  have k : low.natAbs < 2 ^ 128 := intBits_le_iff.mp h
  have e : (2 : Nat) ^ 128 = 340282366920938463463374607431768211456 := by decide
  omega
theorem heads_tail {x y : Int} (c : ((Builtin.Int.intBits y : Nat) : Int) > 256) (y0 : 0 ≤ y) (yx : y ≤ x) :
    ∃ t : Nat, ((Builtin.Int.intBits x : Nat) : Int) - 256 = (t : Int) ∧ (2 : Int) ^ (255 + t) ≤ x ∧ x < (2 : Int) ^ (256 + t) := by
  have hb : Builtin.Int.intBits y ≤ Builtin.Int.intBits x := intBits_le_of_natAbs (by omega) (Nat.le_refl _)
  obtain ⟨t, ht⟩ : ∃ t, Builtin.Int.intBits x = 256 + t := ⟨Builtin.Int.intBits x - 256, by omega⟩
  have h1 : x.natAbs < 2 ^ (256 + t) := intBits_le_iff.mp (by omega)
  have h2 : ¬ x.natAbs < 2 ^ (255 + t) := fun q => by have := intBits_le_iff.mpr q; omega
  refine ⟨t, by omega, ?_, ?_⟩
  · have : (((2 : Nat) ^ (255 + t) : Nat) : Int) = (2 : Int) ^ (255 + t) := by simp
    rw [← this]; omega
  · have : (((2 : Nat) ^ (256 + t) : Nat) : Int) = (2 : Int) ^ (256 + t) := by simp
    rw [← this]; omega
end My

/-! The judgements as structures: what is built of them is not looked into while a term is read. -/
namespace Jd
open PySem PySem.Spec PyProof.Rows L2 My
structure QE (X : Cx) (e : Expr) (t : TE) : Prop where
  h : PE X e t
structure QT (X : Cx) (e : Expr) (t : TT) : Prop where
  h : PT X e t
structure QW (X : Cx) (e : Expr) (t : TT) : Prop where
  h : PW X e t
structure QA (X : Cx) (es : List Expr) (t : TA) : Prop where
  h : PA X es t
structure QS (X : Cx) (st : Stmt) (t : TS) : Prop where
  h : PS X st t
structure QSs (X : Cx) (st : List Stmt) (t : TS) : Prop where
  h : PSs X st t
structure QG (X : Cx) (e : Expr) (t : TG) : Prop where
  h : PG X e t
structure QGs (X : Cx) (es : List Expr) (t : TGs) : Prop where
  h : PGs X es t
structure QI (X : Cx) (tg e : Expr) (t : TI) : Prop where
  h : PI X tg e t
structure QO (X : Cx) (e : Option Expr) (t : TO) : Prop where
  h : PO X e t
section
variable {X : Cx} {e a b c o : Expr} {es : List Expr} {te ta tb tc to : TE} {t : TA} {pos p p2 apos cpos : Pos} {x : Str} {tA tB' : TT} {st : Stmt} {sts rest : List Stmt} {s1 s2 : TS} {K : PySem.W.Frag}
theorem go {body : List Stmt} {D : Ends} {σ : L2.St} {H : Hp} (h : ∃ t, QSs X body t ∧ t D σ H) : ∃ t, PSs X body t ∧ t D σ H := let ⟨t, h, k⟩ := h; ⟨t, h.h, k⟩
theorem cut {body : List Stmt} {D : Ends} {σ : L2.St} {H : Hp} (n : Nat) (Pv : L2.St → Hp → Prop) (tail : ∃ t, QSs X (body.drop n) t ∧ ∀ σ H, Pv σ H → t D σ H)
    (main : ∀ u, QSs X (body.drop n) u → (∀ σ H, Pv σ H → u D σ H) → ∃ t, QSs X body t ∧ t D σ H) : ∃ t, QSs X body t ∧ t D σ H :=
  let ⟨u, h1, h2⟩ := tail
  main u h1 h2
theorem pv (i : Nat) (hN : X.N[i]? = some x := by rfl) (hv : Vis X.env.scope x := by first | exact Or.inl rfl | exact Or.inr (Or.inl rfl) | exact Or.inr (Or.inr rfl)) (hd : (x == ("__debug__" : Str)) = false := by decide)
    (hcd : (x == ("__classdict__" : Str)) = false := by decide) : QE X (.Name x pos) (tVar i) := ⟨L2.pv i hN hv hd hcd⟩
theorem pe_int {i j} : QE X (.Constant (.int i) j pos) (tC (.int i)) := ⟨L2.pe_int⟩
theorem pe_bl {i j} : QE X (.Constant (.bool i) j pos) (tC (.bl i)) := ⟨L2.pe_bl⟩
theorem pe_non {j} : QE X (.Constant .none j pos) (tC .non) := ⟨L2.pe_non⟩
theorem pe_str {i j} : QE X (.Constant (.str i) j pos) (tC (.str i)) := ⟨L2.pe_str⟩
theorem pe_glob {v : V} {u : Value} (hg : Gl X x) (hm : X.mg x = some u) (r : RelV v u) (hd : (x == ("__debug__" : Str)) = false := by decide) : QE X (.Name x pos) (tC v) := ⟨L2.pe_glob hg hm r hd⟩
theorem pe_ty {n : String} (hg : Gl X x) (hm : X.mg x = none) (hv : bootBuiltins x = some (.type n)) (hn : x ≠ "__name__" := by decide) (hd : (x == ("__debug__" : Str)) = false := by decide) : QE X (.Name x pos) (tC (.ty n)) := ⟨My.pe_ty hg hm hv hn hd⟩
theorem pe_op {op : Operator} {r : R2} (ho : OpR X (binaryOp op) r) (ha : QE X a ta) (hb : QE X b tb) : QE X (.BinOp a op b pos) (tOp r ta tb) := ⟨L2.pe_op ho ha.h hb.h⟩
theorem pe_un {op : UnaryOp} {r : V → Hp → VK → Prop} (ho : UnR X (unaryOp op) r) (ha : QE X a ta) : QE X (.UnaryOp op a pos) (tUn r ta) := ⟨L2.pe_un ho ha.h⟩
theorem pe_not (ha : QE X a ta) : QE X (.UnaryOp .Not a pos) (tNotV ta) := ⟨L2.pe_not ha.h⟩
theorem pe_cmpR {op : CmpOp} {r : R2} (ho : OpR X (compareOp op) r) (ha : QE X a ta) (hb : QE X b tb) (hm : behindInMarks op b = false) : QE X (.Compare a [op] [b] pos) (tOp r ta tb) := ⟨L2.pe_cmpR ho ha.h hb.h hm⟩
theorem pt_cmpR {op : CmpOp} {r : R2} (ho : OpR X (compareOp op) r) (ha : QE X a ta) (hb : QE X b tb) (hm : behindInMarks op b = false) : QT X (.Compare a [op] [b] pos) (tTest (tOp r ta tb)) := ⟨L2.pt_cmpR ho ha.h hb.h hm⟩
theorem pt_not (ha : QT X a tA) : QT X (.UnaryOp .Not a pos) (tNot tA) := ⟨L2.pt_not ha.h⟩
theorem pt_val (h : QE X e te) (he : ∀ whole, isTrue e X.env whole = (do let v ← whole; standAt e.pos; holding [v] (truthy v)) := by intro _; rfl) : QT X e (tB te) := ⟨L2.pt_val h.h he⟩
theorem PWpt (h : QW X e tA) : QT X e tA := ⟨h.h.pt⟩
theorem pw_and1 (ha : QT X a tA) : QW X (.BoolOp .And [a] pos) tA := ⟨L2.pw_and1 ha.h⟩
theorem pw_or1 (ha : QT X a tA) : QW X (.BoolOp .Or [a] pos) tA := ⟨L2.pw_or1 ha.h⟩
theorem pw_and (ha : QT X a tA) (hb : QW X (.BoolOp .And (b :: es) pos) tB') : QW X (.BoolOp .And (a :: b :: es) pos) (tAnd tA tB') := ⟨L2.pw_and ha.h hb.h⟩
theorem pw_or (ha : QT X a tA) (hb : QW X (.BoolOp .Or (b :: es) pos) tB') : QW X (.BoolOp .Or (a :: b :: es) pos) (tOr tA tB') := ⟨L2.pw_or ha.h hb.h⟩
theorem pe_one {op} (h : QE X a te) : QE X (.BoolOp op [a] pos) te := ⟨L2.pe_one h.h⟩
theorem pe_and (ha : QE X a ta) (hb : QE X (.BoolOp .And (b :: es) pos) tb) : QE X (.BoolOp .And (a :: b :: es) pos) (tAndV ta tb) := ⟨L2.pe_and ha.h hb.h⟩
theorem pe_or (ha : QE X a ta) (hb : QE X (.BoolOp .Or (b :: es) pos) tb) : QE X (.BoolOp .Or (a :: b :: es) pos) (tOrV ta tb) := ⟨L2.pe_or ha.h hb.h⟩
theorem pe_ifExp (hc : QT X c tA) (ha : QE X a ta) (hb : QE X b tb) : QE X (.IfExp c a b pos) (tIf tA ta tb) := ⟨L2.pe_ifExp hc.h ha.h hb.h⟩
theorem pa_nil : QA X [] tNil := ⟨L2.pa_nil⟩
theorem pa_cons (ha : QE X e te) (hr : QA X es t) (hs : starEach (e :: es) X.env = (false, eval e X.env) :: starEach es X.env := by rfl) : QA X (e :: es) (tCons te t) := ⟨L2.pa_cons ha.h hr.h hs⟩
theorem pe_tup {k : Nat} (h : QA X es t) : QE X (.Tuple es k pos) (tTup t) := ⟨L2.pe_tup h.h⟩
theorem pe_lst (h : QA X es t) : QE X (.List es pos) (tLst t) := ⟨L2.pe_lst h.h⟩
theorem po_none : QO X none tNoPart := ⟨L2.po_none⟩
theorem po_some (h : QE X e te) : QO X (some e) (tPart te) := ⟨L2.po_some h.h⟩
theorem pe_slice {r : V → Option Int → Option Int → Hp → VK → Prop} {lo hi : Option Expr} {tl th : TO} (hr : SlR X r) (he : QE X e te) (hl : QO X lo tl) (hu : QO X hi th) : QE X (.Subscript e (.Slice lo hi none p2) pos) (tSl r te tl th) := ⟨L2.pe_slice hr he.h hl.h hu.h⟩
theorem pe_ix {r : R2} (hr : IxR X r) (ha : QE X a ta) (hb : QE X b tb) (hs : PlainIx b) : QE X (.Subscript a b pos) (tOp r ta tb) := ⟨L2.pe_ix hr ha.h hb.h hs⟩
theorem pe_callB {id : String} {r : List V → Hp → VK → Prop} (hc : CallR X (.builtin id) r) (hg : Gl X x) (hm : X.mg x = none) (hv : bootBuiltins x = some (.builtin id)) (ha : QA X (e :: es) t) (hn : x ≠ "__name__" := by decide) (hdb : (x == ("__debug__" : Str)) = false := by decide)
    (he : starEach (e :: es) X.env = (false, eval e X.env) :: starEach es X.env := by rfl) (hpl : (backTo pos (starEach es X.env)).any (·.1) = false := by rfl) : QE X (.Call (.Name x p) (e :: es) [] pos) (tCB r t) := ⟨L2.pe_callB hc hg hm hv ha.h hn hdb he hpl⟩
theorem pe_callTy {T : String} {r : List V → Hp → VK → Prop} (hc : CallR X (.type T) r) (hg : Gl X x) (hm : X.mg x = none) (hv : bootBuiltins x = some (.type T)) (ha : QA X (e :: es) t) (hn : x ≠ "__name__" := by decide) (hdb : (x == ("__debug__" : Str)) = false := by decide)
    (he : starEach (e :: es) X.env = (false, eval e X.env) :: starEach es X.env := by rfl) (hpl : (backTo pos (starEach es X.env)).any (·.1) = false := by rfl) : QE X (.Call (.Name x p) (e :: es) [] pos) (tCB r t) := ⟨L2.pe_callTy hc hg hm hv ha.h hn hdb he hpl⟩
theorem pe_dn {k : Nat} {ps : List Str} {sp : Sp} (D : Dn X.prog X.w X.K X.mg X.base k x ps sp) (hr : Room k X.A) (hg : Gl X x) (ha : QA X (e :: es) t) (hdb : (x == ("__debug__" : Str)) = false := by decide)
    (he : starEach (e :: es) X.env = (false, eval e X.env) :: starEach es X.env := by rfl) (hpl : (backTo pos (starEach es X.env)).any (·.1) = false := by rfl) : QE X (.Call (.Name x p) (e :: es) [] pos) (tCall sp [] E0 t) := ⟨My.pe_dn D hr hg ha.h hdb he hpl⟩
theorem appC (K : PySem.W.Frag) (ho : QE X o to) (he : QE X e te) (h : X.K = K := by rfl)
    (hbase : attributeBase o "append" X.env (eval o X.env) = eval o X.env := by rfl)
    (hfew : ((backTo cpos (starEach (e :: []) X.env)).all (fun x => !x.1) && (backToKw cpos (keywordEach [] X.env)).all (fun x => x.1.isSome)
      && decide ((e :: ([] : List Expr)).length + ([] : List Keyword).length + (if ([] : List Keyword).isEmpty then 0 else 1) < 30)) = true := by rfl)
    (hline : (apos.endLine == cpos.line) = true := by rfl) (hs : starEach (e :: []) X.env = (false, eval e X.env) :: starEach [] X.env := by rfl) (hplain : (backTo cpos (starEach [] X.env)).any (·.1) = false := by rfl) :
    QE X (.Call (.Attribute o "append" apos) [e] [] cpos) (tBM K "list" rAppend to (tCons te tNil)) := ⟨My.appC K ho.h he.h h hbase hfew hline hs hplain⟩
theorem pss_nil : QSs X [] tNext := ⟨L2.pss_nil⟩
theorem pss_cons (h1 : QS X st s1) (h2 : QSs X rest s2) : QSs X (st :: rest) (tSeq s1 s2) := ⟨L2.pss_cons h1.h h2.h⟩
theorem pss_one (h1 : QS X st s1) : QSs X [st] s1 := ⟨L2.pss_one h1.h⟩
theorem ps_never : QS X st tNever := ⟨L2.ps_never⟩
theorem ps_pass : QS X (.Pass pos) tNext := ⟨L2.ps_pass⟩
theorem ps_ret (he : QE X e te) : QS X (.Return (some e) pos) (tRet te) := ⟨L2.ps_ret he.h⟩
theorem ps_retN : QS X (.Return none pos) tRetN := ⟨L2.ps_retN⟩
theorem ps_expr (he : QE X e te) (hs : swapsWith e none pos.line X.env = pure false := by rfl) : QS X (.Expr e pos) (tDrop te) := ⟨L2.ps_expr he.h hs⟩
theorem ps_set {i : Nat} {pos' : Pos} (hN : X.N.Nodup) (hi : X.N[i]? = some x) (hx : Loc X.env.scope x) (he : QE X e te) (hs : swapsWith e (some (.Name x pos')) pos.line X.env = pure false := by rfl) (hf : X.fn x = true ∨ X.env.scope.names.lookup x = some .local := by first | exact .inl rfl | exact .inr rfl | assumption) :
    QS X (.Assign [.Name x pos'] e pos) (tAsg te (gName i)) := ⟨L2.ps_set hN hi hx he.h hs hf⟩
theorem ps_asg {tg : Expr} {g : TG} (he : QE X e te) (hg : QG X tg g) (hs : swapsWithSole [tg] e pos.line X.env = pure false := by rfl) (hw : swappedStores [tg] e X.env = pure none := by rfl)
    (h1 : (assignEach [tg] X.env).map (·.2) = [assign tg X.env] := by rfl) : QS X (.Assign [tg] e pos) (tAsg te g) := ⟨L2.ps_asg he.h hg.h hs hw h1⟩
theorem ps_par {i j : Nat} {y : Str} {ta : TA} {px py pt : Pos} {kt k2 pt2} (hc : X.calm = true) (hN : X.N.Nodup) (hi : X.N[i]? = some x) (hj : X.N[j]? = some y) (hij : i ≠ j)
    (hx : X.env.scope.names.lookup x = some .local) (hy : X.env.scope.names.lookup y = some .local) (ha : QA X [a, b] ta)
    (hw : swappedStores [.Tuple [.Name x px, .Name y py] kt pt] (.Tuple [a, b] k2 pt2) X.env = pure (some [x, y]))
    (hs : swapsWithSole [.Tuple [.Name x px, .Name y py] kt pt] (.Tuple [a, b] k2 pt2) pos.line X.env = pure false := by rfl) :
    QS X (.Assign [.Tuple [.Name x px, .Name y py] kt pt] (.Tuple [a, b] k2 pt2) pos) (tPar i j ta) := ⟨L2.ps_par hc hN hi hj hij hx hy ha.h hw hs⟩
theorem ps_if {ss ss' : List Stmt} {tc : TT} (hc : QT X c tc) (ha : QSs X ss s1) (hb : QSs X ss' s2) : QS X (.If c ss ss' pos) (tIfS tc s1 s2) := ⟨L2.ps_if hc.h ha.h hb.h⟩
theorem ps_while {tc : TT} (hp : PassesOwn (model X.prog X.w) X.A X.env X.xe) (hc : QT X c tc) (hb : QSs X sts s1) : QS X (.While c sts [] pos) (tWhile tc s1) := ⟨L2.ps_while hp hc.h hb.h⟩
theorem ps_for {tg : Expr} {wi : TI} {g : TG} (hp : PassesOwn (model X.prog X.w) X.A X.env X.xe) (hc : X.calm = true) (hi : QI X tg e wi) (hg : QG X tg g) (hb : QSs X sts s1)
    (hs : ∀ x, foldedSetIterable e X.env x = pure x := by intro _; rfl) : QS X (.For tg e sts [] pos) (tFor wi g s1) := ⟨L2.ps_for hp hc hi.h hg.h hb.h hs⟩
theorem pg_name {i : Nat} (hN : X.N.Nodup) (hi : X.N[i]? = some x) (hx : Loc X.env.scope x) (hf : X.fn x = true ∨ X.env.scope.names.lookup x = some .local := by first | exact .inl rfl | exact .inr rfl | assumption) : QG X (.Name x pos) (gName i) := ⟨L2.pg_name hN hi hx hf⟩
theorem pgs_nil : QGs X [] gNil := ⟨L2.pgs_nil⟩
theorem pgs_cons {g : TG} {u : TGs} (h1 : QG X e g) (h2 : QGs X es u) (hs : (assignEach (e :: es) X.env).map (·.2) = assign e X.env :: (assignEach es X.env).map (·.2) := by rfl) : QGs X (e :: es) (gCons g u) := ⟨L2.pgs_cons h1.h h2.h hs⟩
theorem pgT (K : PySem.W.Frag) {k : Nat} {g : TGs} {n : Nat} (hc : X.calm = true) (h2 : QGs X es g) (hn : (assignEach es X.env).length = n := by rfl) (hst : (assignEach es X.env).findIdx? (·.1) = none := by rfl) (h : X.K = K := by rfl) : QG X (.Tuple es k pos) (gTup K n g) := ⟨My.pgT K hc h2.h hn hst h⟩
theorem pgL (K : PySem.W.Frag) {k : Nat} {g : TGs} {n : Nat} (hc : X.calm = true) (h2 : QGs X es g) (hn : (assignEach es X.env).length = n := by rfl) (hst : (assignEach es X.env).findIdx? (·.1) = none := by rfl) (h : X.K = K := by rfl) : QG X (.Tuple es k pos) (gLst K n g) := ⟨My.pgL K hc h2.h hn hst h⟩
theorem piL (K : PySem.W.Frag) {tg : Expr} (hl : QE X e te) (h : X.K = K := by rfl) : QI X tg e (iList K te) := ⟨My.piL K hl.h h⟩
theorem piT (K : PySem.W.Frag) {tg : Expr} (hl : QE X e te) (h : X.K = K := by rfl) : QI X tg e (iTup K te) := ⟨My.piT K hl.h h⟩
theorem pi_range1 {tg : Expr} (hg : Gl X "range") (hm : X.mg "range" = none) (ha : QA X [a] t) (hs : starEach [a] X.env = [(false, eval a X.env)] := by rfl) : QI X tg (.Call (.Name "range" p) [a] [] pos) (iRng1 t) := ⟨L2.pi_range1 hg hm ha.h hs⟩
end
end Jd

namespace Jd
open PySem PySem.Spec PyProof.Rows L2 My
section
variable {X : Cx} {x : Str} {n : Int} {pos apos cpos : Pos} {o : Expr} {to : TE}
theorem pe_cn (hg : Gl X x) (C : Cn X.mg x n) (hd : (x == ("__debug__" : Str)) = false := by decide) : QE X (.Name x pos) (tC (.int n)) := ⟨My.pe_cn hg C hd⟩
theorem pe_bits (ho : QE X o to) (hbase : attributeBase o "bit_length" X.env (eval o X.env) = eval o X.env := by rfl) (hline : (apos.endLine == cpos.line) = true := by rfl) :
    QE X (.Call (.Attribute o "bit_length" apos) [] [] cpos) (tUn (fun x H Q => tyV X.K "int" x H ∧ ([] : List V) = [] ∧ rBits x H Q) to) := ⟨My.pe_bits ho.h hbase hline⟩
theorem pg_sub {i : Expr} {ti : TE} {ts : TSet} (ho : QE X o to) (hi : QE X i ti) (hs : PSet X ts)
    (ha : ∀ v, assign (.Subscript o i pos) X.env v = (holding [v] (eval o X.env) >>= fun ov => holding [v, ov] (eval i X.env) >>= fun iv => standAt pos >>= fun _ => holding [v, ov, iv] (setItem ov iv v) >>= fun _ => release [v, ov, iv] []) := by intro _; rfl) :
    QG X (.Subscript o i pos) (gSub to ti ts) := ⟨L2.pg_sub ho.h hi.h hs ha⟩
end
end Jd

/-! A comprehension's block: which cells it has, and the reading of its loop. -/
namespace My
open PySem PySem.Spec PyProof.Rows L2 Mth
/-- the cells that a block is handed -/
def closL (cells : List (Str × Addr)) : List (Str × NameKind) → List (Str × Addr) → List (Str × Addr)
  | [], cs => cs
  | (y, k) :: r, cs => closL cells r (if k = .free then ((cells.lookup y).map fun c => (y, c)).toList ++ cs else cs)
def freeHas (cells : List (Str × Addr)) (names : List (Str × NameKind)) : Bool := names.all fun p => !(p.2 == NameKind.free) || (cells.lookup p.1).isSome
theorem closure_go {env : Env} : ∀ (names : List (Str × NameKind)) (cs : List (Str × Addr)), freeHas env.cells names = true →
    (forIn (m := Sem) names cs fun x r => match x with | (name, kind) => if (kind == NameKind.free) = true then do let a ← cellOf env name; pure (ForInStep.yield ((name, a) :: r)) else pure (ForInStep.yield r)) = pure (closL env.cells names cs)
  | [], cs, _ => rfl
  | (y, k) :: r, cs, h => by
    have h2 : freeHas env.cells r = true := by
      unfold freeHas at h ⊢
      rw [List.all_cons, Bool.and_eq_true] at h
      exact h.2
    rw [List.forIn_cons]
    by_cases hk : k = .free
    · subst hk
      have h1 : (env.cells.lookup y).isSome = true := by
        unfold freeHas at h
        rw [List.all_cons, Bool.and_eq_true] at h
        simpa using h.1
      obtain ⟨c, hc⟩ := Option.isSome_iff_exists.mp h1
      have ih := closure_go r ((y, c) :: cs) h2
      have e : cellOf env y = pure c := by unfold cellOf; rw [hc]
      show (((if (NameKind.free == NameKind.free) = true then do let a ← cellOf env y; pure (ForInStep.yield ((y, a) :: cs)) else pure (ForInStep.yield cs)) : Sem _) >>= _) = _
      rw [if_pos (by rfl), e, pure_bind, pure_bind]
      show forIn (m := Sem) r ((y, c) :: cs) _ = _
      rw [ih]
      show _ = pure (closL env.cells r (if NameKind.free = .free then ((env.cells.lookup y).map fun c => (y, c)).toList ++ cs else cs))
      rw [if_pos rfl, hc]
      rfl
    · have ih := closure_go r cs h2
      have hk' : (k == NameKind.free) = false := by simpa using hk
      show (((if (k == NameKind.free) = true then do let a ← cellOf env y; pure (ForInStep.yield ((y, a) :: cs)) else pure (ForInStep.yield cs)) : Sem _) >>= _) = _
      rw [hk', if_neg Bool.false_ne_true, pure_bind]
      show forIn (m := Sem) r cs _ = _
      rw [ih]
      show _ = pure (closL env.cells r (if k = .free then _ else cs))
      rw [if_neg hk]
theorem closure_of {scope : Scope} {env : Env} (h : freeHas env.cells scope.names = true) : closureFor scope env = pure (closL env.cells scope.names []) := by
  have e := closure_go (env := env) scope.names [] h
  show (forIn (m := Sem) scope.names [] _ >>= fun cs => pure cs) = _
  exact (congrArg (· >>= fun cs => pure cs) e).trans (pure_bind _ _)
theorem closL_mem {cells : List (Str × Addr)} : ∀ (names : List (Str × NameKind)) (cs : List (Str × Addr)) (p : Str × Addr), p ∈ closL cells names cs → p ∈ cs ∨ cells.lookup p.1 = some p.2
  | [], _, _, h => .inl h
  | (y, k) :: r, cs, p, h => by
    rcases closL_mem r _ p h with q | q
    · by_cases hk : k = .free
      · rw [if_pos hk] at q
        rcases List.mem_append.mp q with z | z
        · cases e : cells.lookup y with
          | none => rw [e] at z; simp at z
          | some c => rw [e] at z; simp at z; subst z; exact .inr e
        · exact .inl z
      · rw [if_neg hk] at q
        exact .inl q
    · exact .inr q
theorem closL_has {cells : List (Str × Addr)} : ∀ (names : List (Str × NameKind)) (cs : List (Str × Addr)) (y : Str) (c : Addr), ((y, NameKind.free) ∈ names ∧ cells.lookup y = some c) ∨ (y, c) ∈ cs → (y, c) ∈ closL cells names cs
  | [], _, _, _, h => h.elim (fun z => by simp at z) id
  | (z, k) :: r, cs, y, c, h => by
    refine closL_has r _ y c ?_
    rcases h with ⟨m, e⟩ | m
    · rcases List.mem_cons.mp m with q | q
      · cases q
        right
        rw [if_pos rfl, e]
        simp
      · exact .inl ⟨q, e⟩
    · right
      by_cases hk : k = .free
      · rw [if_pos hk]; exact List.mem_append_right _ m
      · rw [if_neg hk]; exact m
theorem lookup_in {α : Type} : ∀ {l : List (Str × α)} {x : Str} {v : α}, l.lookup x = some v → (x, v) ∈ l
  | (y, u) :: r, x, v, h => by
    rw [List.lookup_cons] at h
    cases e : x == y with
    | true =>
      rw [e] at h
      cases h
      have : x = y := by simpa using e
      subst this
      exact List.mem_cons_self
    | false =>
      rw [e] at h
      exact List.mem_cons_of_mem _ (lookup_in h)
theorem lookup_ex {α : Type} : ∀ {l : List (Str × α)} {x : Str} {v : α}, (x, v) ∈ l → ∃ u, l.lookup x = some u
  | (y, u) :: r, x, v, h => by
    rw [List.lookup_cons]
    cases e : x == y with
    | true => exact ⟨_, rfl⟩
    | false =>
      rcases List.mem_cons.mp h with q | q
      · cases q; simp at e
      · exact lookup_ex q
theorem closL_look {cells : List (Str × Addr)} {names : List (Str × NameKind)} {y : Str} {c : Addr} (h : (closL cells names []).lookup y = some c) : cells.lookup y = some c :=
  (closL_mem names [] (y, c) (lookup_in h)).elim (fun z => by simp at z) id
theorem closL_some {cells : List (Str × Addr)} {names : List (Str × NameKind)} {y : Str} {c : Addr} (h : (y, NameKind.free) ∈ names) (e : cells.lookup y = some c) : (closL cells names []).lookup y = some c := by
  obtain ⟨u, q⟩ := lookup_ex (closL_has names [] y c (.inl ⟨h, e⟩))
  rw [q]
  rw [closL_look q] at e
  exact e
/-- the names that the block reads, one by one -/
def Caps (X : Cx) (scope : Scope) : List Str → List Nat → Prop
  | [], [] => True
  | y :: ys, j :: js => (X.N[j]? = some y ∧ X.env.kindOf y = some .cell ∧ scope.names.lookup y = some .free ∧ (relabel scope X.env).names.lookup y = some .cell) ∧ Caps X scope ys js
  | _, _ => False
theorem free_cell {cells : List (Str × Addr)} {names : List (Str × NameKind)} {y : Str} (h : freeHas cells names = true) (m : (y, NameKind.free) ∈ names) : ∃ c, cells.lookup y = some c := by
  unfold freeHas at h
  have q := List.all_eq_true.mp h _ m
  exact Option.isSome_iff_exists.mp (by simpa using q)
theorem Caps.ok {X : Cx} {scope : Scope} (h : freeHas X.env.cells scope.names = true) : ∀ {ys : List Str} {js : List Nat}, Caps X scope ys js → CapOk X scope (closL X.env.cells scope.names []) ys js
  | [], [], _ => trivial
  | y :: ys, j :: js, ⟨⟨a, b, c, d⟩, r⟩ => by
    have m := lookup_in c
    obtain ⟨e, he⟩ := free_cell h m
    exact ⟨⟨a, b, d, by rw [closL_some m he, he]⟩, Caps.ok h r⟩
theorem relabel_has {scope : Scope} {env : Env} (h : freeHas env.cells scope.names = true) (hcell : ∀ y ∈ scope.names, y.2 ≠ .cell) (y : Str)
    (q : (relabel scope env).names.lookup y = some .cell ∨ (relabel scope env).names.lookup y = some .free) : ∃ c, (closL env.cells scope.names []).lookup y = some c := by
  have m : (y, NameKind.free) ∈ scope.names := by
    rcases q with q | q
    all_goals
      have m := lookup_in q
      unfold relabel at m
      obtain ⟨⟨n, k⟩, hm, e⟩ := List.mem_map.mp m
      dsimp only at e
      split at e
      · rename_i hc
        rw [Bool.and_eq_true, Bool.and_eq_true] at hc
        have hk : k = .free := by simpa using hc.1.1
        subst hk
        cases e
        first | exact hm | done
      · cases e
        first | exact hm | exact absurd rfl (hcell _ hm)
  obtain ⟨c, hc⟩ := free_cell h m
  exact ⟨c, closL_some m hc⟩
section
variable {X : Cx} {elt iter tg : Expr} {ifs : List Expr} {pos : Pos} {scope : Scope} {wi : TI} {te : TE} {tt : TT} {g : TG} {O N' : List Str} {cap : List Nat} {n : Nat}
theorem pe_compC (hc : X.calm = true) (hi : PI X tg iter wi)
    (hg : ∀ (C : Addr) (s0 : Shared) (H0 : Hp) (ex' : List Addr) (pn' : List (Addr × Obj)), PG (cxComp X (O ++ N') scope (closL X.env.cells scope.names []) C s0 H0 ex' pn') tg g)
    (htt : ∀ (C : Addr) (s0 : Shared) (H0 : Hp) (ex' : List Addr) (pn' : List (Addr × Obj)), PTs (cxComp X (O ++ N') scope (closL X.env.cells scope.names []) C s0 H0 ex' pn') ifs tt)
    (helt : ∀ (C : Addr) (s0 : Shared) (H0 : Hp) (ex' : List Addr) (pn' : List (Addr × Obj)), PE (cxComp X (O ++ N') scope (closL X.env.cells scope.names []) C s0 H0 ex' pn') elt te)
    (hO : O.length = n) (hcap : Caps X scope N' cap) (hf : freeHas X.env.cells scope.names = true) (hcell : ∀ y ∈ scope.names, y.2 ≠ .cell) (hkind : scope.kind = .function) (hnames : ∀ y ∈ scope.names, y.2 = .local → scope.names.lookup y.1 = some .local)
    (hs : ∀ z, foldedSetIterable iter X.env z = pure z := by intro _; rfl) :
    PE X (.ListComp elt [⟨tg, iter, ifs, 0⟩] scope pos) (tComp wi n cap g tt te) :=
  pe_comp hc hi hg htt helt hO (hcap.ok hf) (closure_of hf) hcell hkind hnames (fun _ _ => closL_look) (relabel_has hf hcell) hs
end
section
variable {X : Cx} {elt iter tg : Expr} {ifs : List Expr} {pos : Pos} {scope : Scope} {wi : TI} {te : TE} {tt : TT} {g : TG} {O N' : List Str} {cap : List Nat} {n : Nat}
theorem ps_compC {i : Nat} {x : Str} {pos' spos : Pos} (hN : X.N.Nodup) (hix : X.N[i]? = some x) (hx : Loc X.env.scope x) (hc : X.calm = true) (hi : PI X tg iter wi)
    (hg : ∀ (C : Addr) (s0 : Shared) (H0 : Hp) (ex' : List Addr) (pn' : List (Addr × Obj)), PG (cxComp X (O ++ N') scope (closL X.env.cells scope.names []) C s0 H0 ex' pn') tg g)
    (htt : ∀ (C : Addr) (s0 : Shared) (H0 : Hp) (ex' : List Addr) (pn' : List (Addr × Obj)), PTs (cxComp X (O ++ N') scope (closL X.env.cells scope.names []) C s0 H0 ex' pn') ifs tt)
    (helt : ∀ (C : Addr) (s0 : Shared) (H0 : Hp) (ex' : List Addr) (pn' : List (Addr × Obj)), PE (cxComp X (O ++ N') scope (closL X.env.cells scope.names []) C s0 H0 ex' pn') elt te)
    (hO : O.length = n) (hcap : Caps X scope N' cap) (hf : freeHas X.env.cells scope.names = true) (hcell : ∀ y ∈ scope.names, y.2 ≠ .cell) (hkind : scope.kind = .function) (hnames : ∀ y ∈ scope.names, y.2 = .local → scope.names.lookup y.1 = some .local)
    (hsw : swapsWith (.ListComp elt [⟨tg, iter, ifs, 0⟩] scope pos) (some (.Name x pos')) spos.line X.env = pure true)
    (hs : ∀ z, foldedSetIterable iter X.env z = pure z := by intro _; rfl) (hfn : X.fn x = true ∨ X.env.scope.names.lookup x = some .local := by first | exact .inl rfl | exact .inr rfl | assumption) :
    PS X (.Assign [.Name x pos'] (.ListComp elt [⟨tg, iter, ifs, 0⟩] scope pos) spos) (tAsg (tComp wi n cap g tt te) (gName i)) :=
  ps_comp hN hix hx hc hi hg htt helt hO (hcap.ok hf) (closure_of hf) hcell hkind hnames (fun _ _ => closL_look) (relabel_has hf hcell) hsw hs hfn
end
/-! ### the reading -/
/-- the heap without one object -/
def rm (D : Addr) (H : Hp) : Hp := fun b => if b = D then none else H b
theorem rm_at {D : Addr} {H : Hp} {b : Addr} (h : b ≠ D) : rm D H b = H b := if_neg h
theorem rm_same {D : Addr} {H : Hp} : Same (rm D H) H := fun b o e => by
  unfold rm at e
  by_cases h : b = D
  · rw [if_pos h] at e; cases e
  · rw [if_neg h] at e; exact e
theorem same_rm {D : Addr} {H H' : Hp} (s : Same H H') (n : H D = none) : Same H (rm D H') := fun b o e => by
  rw [rm_at (ne_of_none e n)]; exact s b o e
theorem rm_rm {D : Addr} {H H' : Hp} (s : Same H H') : Same (rm D H) (rm D H') := fun b o e => by
  unfold rm at e ⊢
  by_cases h : b = D
  · rw [if_pos h] at e; cases e
  · rw [if_neg h] at e ⊢; exact s b o e
theorem rm_upd {D : Addr} {H : Hp} {o : HO} : rm D (upd H D o) = rm D H := by
  funext b
  unfold rm
  by_cases h : b = D
  · rw [if_pos h, if_pos h]
  · rw [if_neg h, if_neg h, upd_ne h]
theorem rm_tup {D p : Addr} {H : Hp} {xs ys : List V} (hD : H D = some (.lst ys)) (h : H p = some (.tup xs)) : rm D H p = some (.tup xs) := by
  rw [rm_at (fun e => by rw [e, hD] at h; cases h)]; exact h
theorem rm_up (D : Addr) (H : Hp) (o : HO) : Same (rm D H) (upd H D o) := fun b u e => by
  unfold rm at e
  by_cases h : b = D
  · rw [if_pos h] at e; cases e
  · rw [if_neg h] at e; rw [upd_ne h]; exact e
theorem ix_last {n m : Nat} (h : n = m + 1) : ixN n (-1) = some m := by
  subst h
  unfold ixN
  rw [if_neg (by omega), if_pos (by omega)]
  congr 1
  omega
/-- the iterator tells these values, one by one, in every heap of that kind -/
structure Tells (J : It) (ok : Hp → Prop) (xs : List V) : Prop where
  go : ∀ i H, ok H → i < xs.length → J.go i H ∧ ∀ x H', J.yld i H x H' → H' = H ∧ xs[i]? = some x
  stop : ∀ H, ok H → J.stop xs.length H
theorem tells_list {K : PySem.W.Frag} {a : Addr} {xs : List V} : Tells (Itl K a) (fun H => SqL K H a xs) xs :=
  ⟨fun i H h hi => ⟨⟨xs, xs[i], h, by simp [hi]⟩, fun x H' y => ⟨y.1, y.2 xs h⟩⟩, fun H h => ⟨xs, h, Nat.le_refl _⟩⟩
theorem tells_tup {K : PySem.W.Frag} {a : Addr} {xs : List V} : Tells (Itt K a) (fun H => SqT K H a xs) xs :=
  ⟨fun i H h hi => ⟨⟨xs, xs[i], h, by simp [hi]⟩, fun x H' y => ⟨y.1, y.2 xs h⟩⟩, fun H h => ⟨xs, h, Nat.le_refl _⟩⟩
theorem tells_rng {lo : Int} {n : Nat} : Tells (Itr lo n) (fun _ => True) ((List.range n).map fun (i : Nat) => V.int (lo + (i : Int))) :=
  ⟨fun i H h hi => ⟨show i < n by simpa using hi, fun x H' y => ⟨y.1, by
    have hi' : i < n := by simpa using hi
    rw [List.getElem?_map, List.getElem?_range hi']
    exact congrArg some y.2.symm⟩⟩, fun H h => by show n ≤ _; simp⟩
def CompB (n : Nat) (cap : List Nat) (g : TG) (tt : TT) (te : TE) (σ : L2.St) (Q : VK) (J : It) (H1 : Hp) : Prop := ∀ D, H1 D = none → ∃ W : Nat → Nat → List V → Hp → Prop, (∃ m, W 0 m [] (upd H1 D (.lst []))) ∧
  ∀ i m xs H2, W i m xs H2 → H2 D = some (.lst xs) ∧ ((J.stop i H2 ∧ Q (.ref D) H2) ∨ (J.go i H2 ∧ xs.length < sizeLine ∧ ∀ x H3 σ0, σ0.length = n → J.yld i H2 x H3 →
    g x (σ0 ++ capV cap σ) H3 fun σ2 H4 => (∃ σ1, σ1.length = n ∧ σ2 = σ1 ++ capV cap σ) ∧ tt σ2 H4 fun b H5 => if b = true then te σ2 H5 fun y H6 => H6 D = some (.lst xs) ∧ ∃ m', m' < m ∧ W (i + 1) m' (xs ++ [y]) (upd H6 D (.lst (xs ++ [y])))
      else ∃ m', m' < m ∧ W (i + 1) m' xs H5))
section
variable {wi : TI} {n : Nat} {cap : List Nat} {g : TG} {tt : TT} {te : TE} {σ : L2.St} {H : Hp} {Q : VK} {K : PySem.W.Frag}
theorem r_comp (h : wi σ H fun J H1 => CompB n cap g tt te σ Q J H1) : tComp wi n cap g tt te σ H Q := h
theorem r_rng1 {ta : TA} {R : It → Hp → Prop} (h : ta σ H fun vs H1 => ∃ j : Int, vs = [.int j] ∧ -(2 ^ 62) ≤ j ∧ j < 2 ^ 62 ∧ R (Itr 0 j.toNat) H1) : iRng1 ta σ H R := h
theorem r_yes {B : Bool → Hp → Prop} (h : B true H) : tYes σ H B := h
/-- P i ys G: what holds behind i values, ys made of them, in the heap but the new list -/
theorem compB_of {J : It} {ok : Hp → Prop} {xs : List V} (T : Tells J ok xs) (hok : ∀ H2, Same H H2 → ok H2) (hl : xs.length ≤ 1000) (P : Nat → List V → Hp → Prop) (h0 : P 0 [] H)
    (step : ∀ (D : Addr) (i : Nat) (x : V) (ys : List V) (H2 : Hp) (σ0 : L2.St) (N : VK) (N0 : Hp → Prop), σ0.length = n → H D = none → H2 D = some (.lst ys) → Same H H2 → xs[i]? = some x → ys.length ≤ i → P i ys (rm D H2) →
      (∀ y H6, Same H2 H6 → P (i + 1) (ys ++ [y]) (rm D H6) → N y H6) → (∀ H5, Same H2 H5 → P (i + 1) ys (rm D H5) → N0 H5) →
      g x (σ0 ++ capV cap σ) H2 fun σ2 H4 => (∃ σ1, σ1.length = n ∧ σ2 = σ1 ++ capV cap σ) ∧ tt σ2 H4 fun b H5 => if b = true then te σ2 H5 N else N0 H5)
    (done : ∀ (D : Addr) (ys : List V) (H2 : Hp), H D = none → H2 D = some (.lst ys) → Same H H2 → ys.length ≤ xs.length → P xs.length ys (rm D H2) → Q (.ref D) H2) : CompB n cap g tt te σ Q J H := by
  intro D hD
  refine ⟨fun i m ys H2 => H2 D = some (.lst ys) ∧ Same H H2 ∧ ys.length ≤ i ∧ i ≤ xs.length ∧ m = xs.length - i ∧ P i ys (rm D H2), ⟨xs.length, upd_same, same_at (Same.refl _) hD, Nat.zero_le _, Nat.zero_le _, rfl, ?_⟩, ?_⟩
  · rw [rm_upd]
    have e : rm D H = H := by
      funext b
      by_cases h : b = D
      · rw [h, hD]; exact if_pos rfl
      · exact rm_at h
    rw [e]; exact h0
  · rintro i m ys H2 ⟨e, s, hy, hi, rfl, p⟩
    refine ⟨e, ?_⟩
    by_cases hlt : i < xs.length
    · obtain ⟨go, yld⟩ := T.go i H2 (hok H2 s) hlt
      refine .inr ⟨go, Nat.lt_of_le_of_lt (Nat.le_trans hy hi) (small1000 hl), fun x H3 σ0 h0 y => ?_⟩
      obtain ⟨rfl, hx⟩ := yld x H3 y
      refine step D i x ys _ σ0 _ _ h0 hD e s hx hy p (fun y H6 s6 p6 => ?_) fun H5 s5 p5 => ?_
      · refine ⟨s6 _ _ e, xs.length - (i + 1), by omega, upd_same, same_at (s.trans s6) hD, ?_, by omega, rfl, ?_⟩
        · rw [List.length_append, List.length_singleton]; omega
        · rw [rm_upd]; exact p6
      · exact ⟨xs.length - (i + 1), by omega, s5 _ _ e, s.trans s5, by omega, by omega, rfl, p5⟩
    · have ei : i = xs.length := by omega
      subst ei
      exact .inl ⟨T.stop H2 (hok H2 s), done D ys H2 hD e s hy p⟩
/-- one name as the target -/
theorem r_own1 {x : V} {σ0 : L2.St} {R : L2.St → Hp → Prop} (h0 : σ0.length = 1) (h : R (some x :: capV cap σ) H) : gName 0 x (σ0 ++ capV cap σ) H fun σ2 H4 => (∃ σ1, σ1.length = 1 ∧ σ2 = σ1 ++ capV cap σ) ∧ R σ2 H4 := by
  match σ0, h0 with
  | [v], _ => exact ⟨⟨[some x], rfl, rfl⟩, h⟩
/-- two names as the target, the value a tuple of two -/
theorem r_own2 {p : Addr} {x y : V} {σ0 : L2.St} {R : L2.St → Hp → Prop} (h0 : σ0.length = 2) (hp : H p = some (.tup [x, y])) (h : R (some x :: some y :: capV cap σ) H) :
    gTup K 2 (gCons (gName 0) (gCons (gName 1) gNil)) (.ref p) (σ0 ++ capV cap σ) H fun σ2 H4 => (∃ σ1, σ1.length = 2 ∧ σ2 = σ1 ++ capV cap σ) ∧ R σ2 H4 := by
  match σ0, h0 with
  | [v, u], _ => exact ⟨p, _, rfl, SqT.of hp, rfl, x, _, rfl, y, _, rfl, rfl, ⟨[some x, some y], rfl, rfl⟩, h⟩
end
end My
namespace Jd
open PySem PySem.Spec PyProof.Rows L2 My
structure QTs (X : Cx) (ifs : List Expr) (t : TT) : Prop where
  h : PTs X ifs t
section
variable {X : Cx} {c elt iter tg : Expr} {ifs : List Expr} {pos : Pos} {scope : Scope} {wi : TI} {te : TE} {tt : TT} {g : TG} {O N' : List Str} {cap : List Nat} {n : Nat}
theorem pts_nil : QTs X [] tYes := ⟨My.pts_nil⟩
theorem pts_one (h : QT X c tt) : QTs X [c] tt := ⟨My.pts_one h.h⟩
theorem pe_comp (hc : X.calm = true) (hi : QI X tg iter wi)
    (hg : ∀ (C : Addr) (s0 : Shared) (H0 : Hp) (ex' : List Addr) (pn' : List (Addr × Obj)), QG (cxComp X (O ++ N') scope (closL X.env.cells scope.names []) C s0 H0 ex' pn') tg g)
    (htt : ∀ (C : Addr) (s0 : Shared) (H0 : Hp) (ex' : List Addr) (pn' : List (Addr × Obj)), QTs (cxComp X (O ++ N') scope (closL X.env.cells scope.names []) C s0 H0 ex' pn') ifs tt)
    (helt : ∀ (C : Addr) (s0 : Shared) (H0 : Hp) (ex' : List Addr) (pn' : List (Addr × Obj)), QE (cxComp X (O ++ N') scope (closL X.env.cells scope.names []) C s0 H0 ex' pn') elt te)
    (hO : O.length = n) (hcap : Caps X scope N' cap) (hf : freeHas X.env.cells scope.names = true) (hcell : ∀ y ∈ scope.names, y.2 ≠ .cell) (hkind : scope.kind = .function) (hnames : ∀ y ∈ scope.names, y.2 = .local → scope.names.lookup y.1 = some .local)
    (hs : ∀ z, foldedSetIterable iter X.env z = pure z := by intro _; rfl) :
    QE X (.ListComp elt [⟨tg, iter, ifs, 0⟩] scope pos) (tComp wi n cap g tt te) :=
  ⟨My.pe_compC hc hi.h (fun C s0 H0 ex' pn' => (hg C s0 H0 ex' pn').h) (fun C s0 H0 ex' pn' => (htt C s0 H0 ex' pn').h) (fun C s0 H0 ex' pn' => (helt C s0 H0 ex' pn').h) hO hcap hf hcell hkind hnames hs⟩
theorem ps_comp {i : Nat} {x : Str} {pos' spos : Pos} (hN : X.N.Nodup) (hix : X.N[i]? = some x) (hx : Loc X.env.scope x) (hc : X.calm = true) (hi : QI X tg iter wi)
    (hg : ∀ (C : Addr) (s0 : Shared) (H0 : Hp) (ex' : List Addr) (pn' : List (Addr × Obj)), QG (cxComp X (O ++ N') scope (closL X.env.cells scope.names []) C s0 H0 ex' pn') tg g)
    (htt : ∀ (C : Addr) (s0 : Shared) (H0 : Hp) (ex' : List Addr) (pn' : List (Addr × Obj)), QTs (cxComp X (O ++ N') scope (closL X.env.cells scope.names []) C s0 H0 ex' pn') ifs tt)
    (helt : ∀ (C : Addr) (s0 : Shared) (H0 : Hp) (ex' : List Addr) (pn' : List (Addr × Obj)), QE (cxComp X (O ++ N') scope (closL X.env.cells scope.names []) C s0 H0 ex' pn') elt te)
    (hO : O.length = n) (hcap : Caps X scope N' cap) (hf : freeHas X.env.cells scope.names = true) (hcell : ∀ y ∈ scope.names, y.2 ≠ .cell) (hkind : scope.kind = .function) (hnames : ∀ y ∈ scope.names, y.2 = .local → scope.names.lookup y.1 = some .local)
    (hsw : swapsWith (.ListComp elt [⟨tg, iter, ifs, 0⟩] scope pos) (some (.Name x pos')) spos.line X.env = pure true)
    (hs : ∀ z, foldedSetIterable iter X.env z = pure z := by intro _; rfl) (hfn : X.fn x = true ∨ X.env.scope.names.lookup x = some .local := by first | exact .inl rfl | exact .inr rfl | assumption) :
    QS X (.Assign [.Name x pos'] (.ListComp elt [⟨tg, iter, ifs, 0⟩] scope pos) spos) (tAsg (tComp wi n cap g tt te) (gName i)) :=
  ⟨My.ps_compC hN hix hx hc hi.h (fun C s0 H0 ex' pn' => (hg C s0 H0 ex' pn').h) (fun C s0 H0 ex' pn' => (htt C s0 H0 ex' pn').h) (fun C s0 H0 ex' pn' => (helt C s0 H0 ex' pn').h) hO hcap hf hcell hkind hnames hsw hs hfn⟩
end
end Jd

/-! xs[::-1] -/
namespace My
open PySem PySem.Spec PyProof.Rows L2 Mth
theorem fm_congr {α β : Type} {f g : α → Option β} : ∀ (l : List α), (∀ x ∈ l, f x = g x) → l.filterMap f = l.filterMap g
  | [], _ => rfl
  | x :: l, h => by
    rw [List.filterMap_cons, List.filterMap_cons, h x List.mem_cons_self, fm_congr l fun y hy => h y (List.mem_cons_of_mem _ hy)]
theorem pick_rev (its : List Value) : slicePick its.toArray none none (some (-1)) = its.reverse.toArray := by
  have hb : sliceBounds none none (some (-1)) its.toArray.size = ((its.length : Int) - 1, -1, -1) := by
    simp [sliceBounds]
  unfold slicePick
  rw [hb]
  show (List.filterMap (fun x => its.toArray[x]?) (sliceRange ((its.length : Int) - 1) (-1) (-1))).toArray = _
  congr 1
  have hr : sliceRange ((its.length : Int) - 1) (-1) (-1) = (List.range its.length).map fun k => its.length - 1 - k := by
    unfold sliceRange
    by_cases h0 : its.length = 0
    · rw [h0]; rfl
    · have hc : (if (-1 : Int) > 0 then (if ((its.length : Int) - 1) < -1 then (-1 - ((its.length : Int) - 1) + -1 - 1) / -1 else 0) else (if ((its.length : Int) - 1) > -1 then (((its.length : Int) - 1) - -1 - -1 - 1) / (- -1) else 0)) = (its.length : Int) := by
        rw [if_neg (by decide), if_pos (by omega)]
        have : (((its.length : Int) - 1) - -1 - -1 - 1) = its.length := by omega
        rw [this]
        show (its.length : Int) / 1 = _
        exact Int.ediv_one _
      simp only [hc, Int.toNat_natCast]
      refine List.map_congr_left fun k hk => ?_
      have := List.mem_range.mp hk
      omega
  rw [hr]
  refine List.ext_getElem? fun i => ?_
  rw [List.filterMap_map]
  have hall : List.filterMap ((fun x => its.toArray[x]?) ∘ fun k => its.length - 1 - k) (List.range its.length) = (List.range its.length).map fun k => its.getD (its.length - 1 - k) .none := by
    rw [← List.filterMap_eq_map]
    refine fm_congr _ fun k hk => ?_
    have hk' := List.mem_range.mp hk
    have : its.length - 1 - k < its.length := by omega
    simp [this]
  rw [hall]
  by_cases hi : i < its.length
  · rw [List.getElem?_map, List.getElem?_range hi, List.getElem?_reverse hi]
    have : its.length - 1 - i < its.length := by omega
    simp [this]
  · rw [List.getElem?_eq_none (by simpa using hi), List.getElem?_eq_none (by simpa using hi)]
def tRev (K : PySem.W.Frag) (te ts : TE) : TE := fun σ H Q => te σ H fun x H1 => ts σ H1 fun z H2 => ∃ a xs, x = .ref a ∧ z = .int (-1) ∧ SqL K H2 a xs ∧ Nw .lst xs.reverse H2 Q
section
variable {X : Cx} {e st : Expr} {te ts : TE} {pos p2 : Pos}
theorem pe_rev (K : PySem.W.Frag) (he : PE X e te) (hst : PE X st ts) (hK : X.K = K := by rfl) : PE X (.Subscript e (.Slice none none (some st) p2) pos) (tRev K te ts) := by
  subst hK
  intro pins s σ H Q I h
  refine Subscript_ (thn (he pins s σ H _ I h) fun v s1 ⟨x, H1, I1, r1, q1⟩ => ?_)
  refine wpAny_Slice ?_
  rw [evalPart_none]
  refine wpAny_pure ?_
  refine wpAny_pure ?_
  rw [evalPart_some]
  refine thn (hst pins s1 σ H1 _ I1 q1) fun vs s3 ⟨z, H3, I3, rz, q3⟩ => ?_
  obtain ⟨a, xs, rfl, rfl, hq, hz, hn⟩ := q3
  obtain ⟨t, rfl⟩ := rz
  cases r1
  have I4 : Inv X pins σ H3 { s3 with heap := s3.heap.push { cls := .type "slice", data := .fields #[.none, .none, .int (-1) t] } } := I3.kept (t' := s3.toks) fun b ob q => Heap.get?_push_of_some _ q
  obtain ⟨its, r, ht, hsz⟩ := I4.list hq
  have hlen := r.length
  show wpAny (model X.prog X.w) X.A (subscriptTail e (.Slice none none (some st) p2) (.ref a) (.ref s3.heap.objs.size)) (EP X pins σ Q) X.xe { s3 with heap := s3.heap.push { cls := .type "slice", data := .fields #[.none, .none, .int (-1) t] } }
  refine tail_any (ops := [.ref a, .ref s3.heap.objs.size]) ht.isList.typeIs slot_list_getitem.lookup ?_ (by with_unfolding_all rfl)
  refine wpAny_getItem_list_slice ht.isList (Heap.IsSliceOf.new ..) .none .none (.int (-1) t) (by decide) ?_ (by rw [List.size_toArray] <;> omega)
  rw [pick_rev]
  refine ⟨.ref _, _, I4.laid (t' := s3.toks) (o := .lst xs.reverse) (fun b ob q => Heap.get?_push_of_some _ q) (Nat.le_refl _) ?_, rfl, hn _ (I4.hok.fresh (Nat.le_refl _))⟩
  exact ⟨hz, _, 0, r.reverse, Heap.get?_push_size _ rfl⟩
end
section
variable {σ : L2.St} {H : Hp} {Q : VK} {K : PySem.W.Frag} {te ts : TE} {x z : V}
theorem r_rev (h : te σ H fun x H1 => ts σ H1 fun z H2 => ∃ a xs, x = .ref a ∧ z = .int (-1) ∧ SqL K H2 a xs ∧ Nw .lst xs.reverse H2 Q) : tRev K te ts σ H Q := h
end
end My
namespace Jd
open PySem PySem.Spec PyProof.Rows L2 My
theorem pe_rev {X : Cx} {e st : Expr} {te ts : TE} {pos p2 : Pos} (K : PySem.W.Frag) (he : QE X e te) (hst : QE X st ts) (hK : X.K = K := by rfl) : QE X (.Subscript e (.Slice none none (some st) p2) pos) (tRev K te ts) := ⟨My.pe_rev K he.h hst.h hK⟩
end Jd

local macro_rules | `(tactic| walk_at "vc") => `(tactic| repeat (first
  | with_reducible refine My.r_seq ?_
  | with_reducible refine My.r_set ?_
  | with_reducible refine My.r_ret ?_
  | with_reducible refine My.r_drop ?_
  | with_reducible refine My.r_if ?_
  | with_reducible refine My.r_next ?_
  | ((with_reducible refine' My.r_var ?e1 ?_); (case e1 => rfl))
  | with_reducible refine My.r_c ?_
  | with_reducible refine My.r_op ?_
  | with_reducible refine My.r_un ?_
  | with_reducible refine My.r_I0 ?_
  | with_reducible refine My.r_U ?_
  | with_reducible refine My.r_test ?_
  | with_reducible refine My.r_B ?_
  | with_reducible refine My.r_bl ?_
  | with_reducible refine My.r_cb ?_
  | with_reducible refine My.r_cons ?_
  | with_reducible refine My.r_nil ?_
  | with_reducible refine My.r_tup ?_
  | with_reducible refine My.r_lst ?_
  | with_reducible refine My.r_call ?_
  | with_reducible refine My.r_par ?_
  | with_reducible refine My.r_g ?_
  | with_reducible refine My.r_absC ?_
  | with_reducible refine My.r_bits ?_
  | with_reducible refine My.r_comp ?_
  | with_reducible refine My.r_yes ?_
  | with_reducible refine My.r_gsub ?_
  | with_reducible refine My.r_rev ?_
  | with_reducible refine My.r_max ?_
  | with_reducible refine My.r_min ?_
  | with_reducible refine My.r_two ?_
  | with_reducible refine My.r_bm ?_
  | ((with_reducible refine My.r_I ?e7 ?_); (case e7 => first | decide | assumption | exact ⟨by decide, by decide, by decide⟩ | (show (0 : Int) < _; first | decide | omega) | exact My.mulR (by decide) (by decide) | exact My.mulL (by decide) (by decide)))
  | with_reducible refine My.r_not ?_
  | with_reducible refine My.r_and ?_
  | with_reducible refine My.r_or ?_
  | with_reducible refine My.r_andV ?_
  | with_reducible refine My.r_orV ?_
  | with_reducible refine My.r_notV ?_
  | with_reducible refine My.r_ife ?_
  | ((with_reducible refine My.r_eq ?e2 ?_); (case e2 => rfl))
  | ((with_reducible refine My.r_ne ?e3 ?_); (case e3 => rfl))
  | ((with_reducible refine' My.r_t0 ?e4 ?_); (case e4 => assumption))
  | ((with_reducible refine' My.r_t1 ?e5 ?_); (case e5 => assumption))
  | ((with_reducible refine' My.r_t2 ?e6 ?_); (case e6 => assumption))
  | ((with_reducible refine' My.r_t3 ?e8 ?_); (case e8 => assumption))))
namespace Lw
open PySem L2 Mth My
def top (i : Nat) : Stmt := PySem.Challenge.pw_lath_k24_pinched.main.body.getD i (.Pass ⟨0, 0, 0, 0⟩)
abbrev s_law_cell : Stmt := top 13
abbrev s_law_mix : Stmt := top 14
abbrev s_law_row : Stmt := top 15
abbrev s_law_ratio : Stmt := top 16
abbrev s_loose_plus : Stmt := top 1
abbrev s_loose_minus : Stmt := top 2
abbrev s_loose_times : Stmt := top 3
abbrev s_loose_slope : Stmt := top 7
abbrev s_loose_along : Stmt := top 8
abbrev s_law_plus : Stmt := top 17
abbrev s_law_minus : Stmt := top 18
abbrev s_law_by : Stmt := top 19
abbrev s_order : Stmt := top 4
abbrev s_size : Stmt := top 5
abbrev s_loose_stand : Stmt := top 10
abbrev s_pinched : Stmt := top 11
abbrev s_law_less : Stmt := top 23
abbrev s_law_chord : Stmt := top 20
abbrev s_law_three : Stmt := top 21
abbrev s_law_size : Stmt := top 22
abbrev s_law_ends : Stmt := top 25
abbrev s_law_worst : Stmt := top 24
abbrev s_law : Stmt := top 26
/-! ### what every law draws with: cells, numbers, fractions -/
def spCell (K : PySem.W.Frag) : Sp := fun vs H Q _ => ∃ (a : Addr) (ns : List Int) (i : Int), vs = [.ref a, .int i] ∧ SqL K H a (ns.map V.int) ∧ 0 ≤ i ∧ i < 1000 ∧ ∀ (c : Int) (H' : Hp), Same H H' → Q (.int c) H'
def spMix : Sp := fun vs H Q _ => ∃ (c k : Int), vs = [.int c, .int k] ∧ 0 ≤ k ∧ k < 1000 ∧ ∀ z : Int, Q (.int z) H
def spRow (K : PySem.W.Frag) : Sp := fun vs H Q _ => ∃ (a : Addr) (ns : List Int) (i : Int) (l : Addr) (zs : List Int), vs = [.ref a, .int i, .ref l] ∧ SqL K H a (ns.map V.int) ∧ 0 ≤ i ∧ i < 900 ∧ H l = some (.lst (zs.map V.int)) ∧ zs.length ≤ 900 ∧ (∀ z ∈ zs, 0 < z ∧ z < 2 ^ 60) ∧
  ∀ (p : Addr) (xs : List Int) (H' : Hp), Same H H' → H p = none → H' p = some (.lst (xs.map V.int)) → xs.length = zs.length → (∀ (j : Nat) (x z : Int), xs[j]? = some x → zs[j]? = some z → 0 ≤ x ∧ x < z) → Q (.ref p) H'
def spRatio : Sp := fun vs H Q _ => ∃ (t b : Int), vs = [.int t, .int b] ∧ 0 < b ∧ Sz 8000 b ∧ ∀ (p : Addr) (t' b' : Int) (H' : Hp), Same H H' → H' p = some (.tup [.int t', .int b']) → Low t b t' b' → Q (.ref p) H'
def spIs : Sp := fun vs H Q _ => ∃ (p : Addr) (a b : Int), vs = [.ref p] ∧ H p = some (.tup [.int a, .int b]) ∧ Sz 8000 b ∧ ∀ (r : Bool) (H' : Hp), Same H H' → (r = true ↔ 1 ≤ b ∧ Int.gcd a b = 1) → Q (.bl r) H'
def spNumber (K : PySem.W.Frag) : Sp := fun vs H Q _ => ∃ (a : Addr) (ns : List Int) (i : Int), vs = [.ref a, .int i] ∧ SqL K H a (ns.map V.int) ∧ 0 ≤ i ∧ i < 900 ∧ ∀ (n : Int) (H' : Hp), Same H H' → n.natAbs < 10 ^ 60 → Q (.int n) H'
def spDrawn (K : PySem.W.Frag) : Sp := fun vs H Q _ => ∃ (a : Addr) (ns : List Int) (i : Int), vs = [.ref a, .int i] ∧ SqL K H a (ns.map V.int) ∧ 0 ≤ i ∧ i < 800 ∧
  ∀ (p : Addr) (t b : Int) (H' : Hp), Same H H' → H' p = some (.tup [.int t, .int b]) → 1 ≤ b → Int.gcd t b = 1 → Sz 200 t → Sz 200 b → Q (.ref p) H'
structure Txt (mg : Str → Option Value) : Prop where
  len_ : mg "len" = none
  abs_ : mg "abs" = none
  range : mg "range" = none
  isinstance_ : mg "isinstance" = none
  int_ : mg "int" = none
  bool_ : mg "bool" = none
  tuple_ : mg "tuple" = none
  list_ : mg "list" = none
  max_ : mg "max" = none
  min_ : mg "min" = none
  enumerate_ : mg "enumerate" = none
  zip_ : mg "zip" = none
  all_ : mg "all" = none
  any_ : mg "any" = none
  sum_ : mg "sum" = none
  sorted_ : mg "sorted" = none
  reversed_ : mg "reversed" = none
  str_ : mg "str" = none
theorem small {n : Nat} (h : n ≤ 1000) : n ≤ sizeLine := Nat.le_of_lt (small1000 h)
theorem ints_at {ns : List Int} {i : Int} (h0 : 0 ≤ i) (h : i < (ns.length : Int)) : ∃ v : Int, atI (ns.map V.int) i = some (.int v) := by
  have hk : i.toNat < ns.length := by omega
  exact ⟨ns[i.toNat], at_ints (List.getElem?_eq_getElem hk) (by omega)⟩
theorem cut_int {ns : List Int} {lo hi : Option Int} {i : Nat} {y : V} (h : (cutV (ns.map V.int) lo hi)[i]? = some y) : ∃ m : Int, y = .int m := by
  have hm : y ∈ cutV (ns.map V.int) lo hi := List.mem_of_getElem? h
  unfold cutV at hm
  obtain ⟨m, _, e⟩ := List.mem_map.mp (List.mem_of_mem_drop (List.mem_of_mem_take hm))
  exact ⟨m, e.symm⟩
theorem mcast (x y : Nat) : ((x : Int) % (y : Int)) = ((x % y : Nat) : Int) := (Int.natCast_emod x y).symm
theorem abs_cast (t : Int) : (if t < 0 then -t else t) = (t.natAbs : Int) := by split <;> omega
def cellN (i : Nat) (σ : St) : Nat := match σ[i]? with | some (some (V.int n)) => n.toNat | _ => 0
def third (σ : St) : Nat := match σ[3]? with | some (some (V.int n)) => n.toNat | _ => 0
theorem ten60 {n : Int} (h : n.natAbs < 10 ^ 60) : Sz 200 n := Sz.of_lt h (by decide)
section
variable {P : Program} {w : World} {K : PySem.W.Frag} {mg : Str → Option Value} {base : Heap} {f : Addr} {fd : FuncData}
theorem sc_law_cell : FnScope ["_law_script", "_law_place", "_law_seed", "_law_cell_here"] ["_law_script", "_law_place"] (defScope s_law_cell) := ⟨rfl, rfl, rfl, by decide +kernel, rfl, by decide +kernel, by decide +kernel⟩
theorem ok_law_cell (F : Fun K "_law_cell" "_law_cell" s_law_cell f fd) (T : Txt mg) : FnOk P w K mg base CX0 1 f fd ["_law_script", "_law_place"] (spCell K) := by
  refine F.ok sc_law_cell (fun vs H Q E h => ?_) (fun cdv A outer s H vs Q E hr h => ?_)
  · obtain ⟨a, ns, i, rfl, _⟩ := h
    rfl
  obtain ⟨a, ns, i, rfl, hS, h0, h1, k⟩ := h
  refine Jd.go ⟨_, (Jd.pss_cons (Jd.ps_if (Jd.pt_cmpR op_lt (Jd.pv 1) (Jd.pe_callB (lenC K) rfl T.len_ PySem.boot_len (Jd.pa_cons (Jd.pv 0) Jd.pa_nil st_N) (he := st_N) (hpl := any0)) (nomark _))
      (Jd.pss_one (Jd.ps_ret (Jd.pe_ix (ixL K) (Jd.pv 0) (Jd.pv 1) (fun _ _ => rfl))))
      Jd.pss_nil)
      (Jd.pss_cons (Jd.ps_set (i := 2) sc_law_cell.nd rfl (Or.inl rfl) Jd.pe_int (hs := sw_C))
      (Jd.pss_cons (Jd.ps_for PassesOwn.never rfl (Jd.piL K (Jd.pe_slice (slL K) (Jd.pv 0) Jd.po_none (Jd.po_some Jd.pe_int))) (Jd.pg_name (i := 3) sc_law_cell.nd rfl (Or.inl rfl))
      (Jd.pss_one (Jd.ps_set (i := 2) sc_law_cell.nd rfl (Or.inl rfl) (Jd.pe_op op_mod (Jd.pe_op op_add (Jd.pe_op op_add (Jd.pe_op op_mulB (Jd.pv 2) Jd.pe_int) (Jd.pe_op op_mod (Jd.pv 3) Jd.pe_int)) Jd.pe_int) Jd.pe_int) (hs := sw_B))))
      (Jd.pss_one (Jd.ps_ret (Jd.pe_op op_mod (Jd.pe_op op_add (Jd.pv 2) (Jd.pe_op op_mulB Jd.pe_int (Jd.pv 1))) Jd.pe_int)))))), ?_⟩
  walk_at "vc"
  refine r_len (.inl hS) ?_
  walk_at "vc"
  refine ite2 (fun c => ?_) (fun c => ?_)
  · have c' := of_decide_eq_true c
    rw [List.length_map] at c'
    obtain ⟨v, hv⟩ := ints_at (ns := ns) h0 c'
    walk_at "vc"
    exact ⟨a, _, i, _, rfl, rfl, hS, hv, k v H (Same.refl _)⟩
  · walk_at "vc"
    refine ⟨_, rfl, _, rfl, a, _, rfl, hS, fun p hp => ?_⟩
    have s1 : Same H (upd H p (.lst (cutV (ns.map V.int) none (some 63)))) := same_new hp _
    have e1 : upd H p (.lst (cutV (ns.map V.int) none (some 63))) p = some (.lst (cutV (ns.map V.int) none (some 63))) := upd_same
    refine ⟨p, rfl, ⟨_, SqL.of e1⟩, for_list (K := K) (a := p) (xs := cutV (ns.map V.int) none (some 63)) (fun _ σ H2 => ∃ (z : Int) (v : Option V), σ = [some (.ref a), some (.int i), some (.int z), v] ∧ 0 ≤ z ∧ z < 2147483647 ∧ Same (upd H p (.lst (cutV (ns.map V.int) none (some 63)))) H2)
      ⟨5, none, rfl, by decide, by decide, Same.refl _⟩ (fun _ σ H2 _ ⟨_, _, _, _, _, s2⟩ => SqL.of (s2 _ _ e1)) ?_ ?_⟩
    · rintro j y σ H2 hj ⟨z, v, rfl, z0, z1, s2⟩
      obtain ⟨m, rfl⟩ := cut_int hj
      walk_at "vc"
      exact ⟨_, _, rfl, Int.emod_nonneg _ (by decide), Int.emod_lt_of_pos _ (by decide), s2⟩
    · rintro σ H2 ⟨z, v, rfl, z0, z1, s2⟩
      walk_at "vc"
      exact k _ _ (s1.trans s2)
theorem sc_law_mix : FnScope ["_law_cell_here", "_law_k", "_law_one", "_law_two"] ["_law_cell_here", "_law_k"] (defScope s_law_mix) := ⟨rfl, rfl, rfl, by decide +kernel, rfl, by decide +kernel, by decide +kernel⟩
theorem ok_law_mix (F : Fun K "_law_mix" "_law_mix" s_law_mix f fd) : FnOk P w K mg base CX0 1 f fd ["_law_cell_here", "_law_k"] spMix := by
  refine F.ok sc_law_mix (fun vs H Q E h => ?_) (fun cdv A outer s H vs Q E hr h => ?_)
  · obtain ⟨c, k, rfl, _⟩ := h
    rfl
  obtain ⟨c, j, rfl, h0, h1, k⟩ := h
  refine Jd.go ⟨_, (Jd.pss_cons (Jd.ps_set (i := 2) sc_law_mix.nd rfl (Or.inl rfl) (Jd.pe_op op_mod (Jd.pe_op op_pow (Jd.pe_op op_add (Jd.pe_op op_add (Jd.pe_op op_mod (Jd.pv 0) Jd.pe_int) (Jd.pe_op op_mulB Jd.pe_int (Jd.pv 1))) Jd.pe_int) Jd.pe_int) Jd.pe_int) (hs := sw_B))
      (Jd.pss_cons (Jd.ps_set (i := 3) sc_law_mix.nd rfl (Or.inl rfl) (Jd.pe_op op_mod (Jd.pe_op op_add (Jd.pe_op op_add (Jd.pe_op op_mulB (Jd.pv 2) Jd.pe_int) (Jd.pe_op op_mulB (Jd.pe_op op_mulB Jd.pe_int (Jd.pv 1)) (Jd.pv 1))) Jd.pe_int) Jd.pe_int) (hs := sw_B))
      (Jd.pss_one (Jd.ps_ret (Jd.pe_op op_fdivB (Jd.pv 3) Jd.pe_int))))), ?_⟩
  have b0 : 0 ≤ c % 2147483629 := Int.emod_nonneg _ (by decide)
  have b1 : c % 2147483629 < 2147483629 := Int.emod_lt_of_pos _ (by decide)
  walk_at "vc"
  refine r_I (show CPow _ _ from ⟨by decide, by decide, by omega⟩) ?_
  walk_at "vc"
  refine r_I (mulR (by omega) (by omega)) ?_
  walk_at "vc"
  refine r_I (show CDivB _ _ from ⟨by decide, by decide +kernel⟩) ?_
  exact k _
theorem sc_law_row : FnScope ["_law_script", "_law_place", "_law_sizes", "_law_cell_here", "_law_left", "_law_some", "_law_k", "_law_other"] ["_law_script", "_law_place", "_law_sizes"] (defScope s_law_row) := ⟨rfl, rfl, rfl, by decide +kernel, rfl, by decide +kernel, by decide +kernel⟩
theorem ok_law_row (F : Fun K "_law_row" "_law_row" s_law_row f fd) (T : Txt mg) (D_law_cell : Dn P w K mg base 1 "_law_cell" ["_law_script", "_law_place"] (spCell K)) (D_law_mix : Dn P w K mg base 1 "_law_mix" ["_law_cell_here", "_law_k"] spMix) :
    FnOk P w K mg base CX0 3 f fd ["_law_script", "_law_place", "_law_sizes"] (spRow K) := by
  refine F.ok sc_law_row (fun vs H Q E h => ?_) (fun cdv A outer s H vs Q E hr h => ?_)
  · obtain ⟨a, ns, i, l, zs, rfl, _⟩ := h
    rfl
  obtain ⟨a, ns, i, l, zs, rfl, hS, h0, h1, hl, hz, hzs, k⟩ := h
  refine Jd.go ⟨_, (Jd.pss_cons (Jd.ps_set (i := 3) sc_law_row.nd rfl (Or.inl rfl) (Jd.pe_dn D_law_cell (hr.mono (by decide)) rfl (Jd.pa_cons (Jd.pv 0) (Jd.pa_cons (Jd.pv 1) Jd.pa_nil st_N) st_N) (he := st_N) (hpl := (anyc st_N any0))) (hs := sw_K))
      (Jd.pss_cons (Jd.ps_set (i := 4) sc_law_row.nd rfl (Or.inl rfl) (Jd.pv 3) (hs := sw_N))
      (Jd.pss_cons (Jd.ps_set (i := 5) sc_law_row.nd rfl (Or.inl rfl) (Jd.pe_lst Jd.pa_nil) (hs := sw_L))
      (Jd.pss_cons (Jd.ps_for PassesOwn.never rfl (Jd.pi_range1 rfl T.range (Jd.pa_cons (Jd.pe_callB (lenC K) rfl T.len_ PySem.boot_len (Jd.pa_cons (Jd.pv 2) Jd.pa_nil st_N) (he := st_N) (hpl := any0)) Jd.pa_nil st_K)) (Jd.pg_name (i := 6) sc_law_row.nd rfl (Or.inl rfl))
      (Jd.pss_one (Jd.ps_if (Jd.pt_cmpR op_lt (Jd.pv 3) (Jd.pe_op op_pow Jd.pe_int Jd.pe_int) (nomark _))
      (Jd.pss_one (Jd.ps_expr (Jd.appC K (Jd.pv 5) (Jd.pe_op op_mod (Jd.pe_dn D_law_mix (hr.mono (by decide)) rfl (Jd.pa_cons (Jd.pv 3) (Jd.pa_cons (Jd.pv 6) Jd.pa_nil st_N) st_N) (he := st_N) (hpl := (anyc st_N any0))) (Jd.pe_ix (ixL K) (Jd.pv 2) (Jd.pv 6) (fun _ _ => rfl)))) (hs := sw_K)))
      (Jd.pss_one (Jd.ps_if (Jd.pt_cmpR op_gt (Jd.pv 4) Jd.pe_int (nomark _))
      (Jd.pss_cons (Jd.ps_expr (Jd.appC K (Jd.pv 5) (Jd.pe_op op_mod (Jd.pv 4) (Jd.pe_ix (ixL K) (Jd.pv 2) (Jd.pv 6) (fun _ _ => rfl)))) (hs := sw_K))
      (Jd.pss_one (Jd.ps_set (i := 4) sc_law_row.nd rfl (Or.inl rfl) (Jd.pe_op op_fdivB (Jd.pv 4) (Jd.pe_ix (ixL K) (Jd.pv 2) (Jd.pv 6) (fun _ _ => rfl))) (hs := sw_B))))
      (Jd.pss_cons (Jd.ps_set (i := 7) sc_law_row.nd rfl (Or.inl rfl) (Jd.pe_dn D_law_cell (hr.mono (by decide)) rfl (Jd.pa_cons (Jd.pv 0) (Jd.pa_cons (Jd.pe_op op_mod (Jd.pe_op op_add (Jd.pe_op op_add (Jd.pv 1) Jd.pe_int) (Jd.pv 6)) Jd.pe_int) Jd.pa_nil st_B) st_N) (he := st_N) (hpl := (anyc st_B any0))) (hs := sw_K))
      (Jd.pss_one (Jd.ps_expr (Jd.appC K (Jd.pv 5) (Jd.pe_op op_mod (Jd.pe_dn D_law_mix (hr.mono (by decide)) rfl (Jd.pa_cons (Jd.pv 7) (Jd.pa_cons (Jd.pv 6) Jd.pa_nil st_N) st_N) (he := st_N) (hpl := (anyc st_N any0))) (Jd.pe_ix (ixL K) (Jd.pv 2) (Jd.pv 6) (fun _ _ => rfl)))) (hs := sw_K)))))))))
      (Jd.pss_one (Jd.ps_ret (Jd.pv 5))))))), ?_⟩
  walk_at "vc"
  refine ⟨a, ns, i, rfl, hS, h0, by omega, fun c H1 s1 => ?_⟩
  walk_at "vc"
  refine r_new (mk := .lst) (by simp) fun p H2 s2 n2 e2 => ?_
  walk_at "vc"
  have hl2 : H2 l = some (.lst (zs.map V.int)) := s2 _ _ (s1 _ _ hl)
  refine ⟨_, rfl, l, _, rfl, .inl (SqL.of hl2), _, rfl, by omega, by rw [List.length_map]; omega, for_range (fun j σ H3 => ∃ (left : Int) (xs : List Int) (v6 v7 : Option V),
    σ = [some (.ref a), some (.int i), some (.ref l), some (.int c), some (.int left), some (.ref p), v6, v7] ∧ Same H1 H3 ∧ H3 p = some (.lst (xs.map V.int)) ∧ xs.length = j ∧ (∀ (j : Nat) (x z : Int), xs[j]? = some x → zs[j]? = some z → 0 ≤ x ∧ x < z)) ?_ ?_ ?_⟩
  · exact ⟨c, [], none, none, rfl, s2, e2, rfl, fun j x z e _ => by simp at e⟩
  · rintro j σ H3 hj ⟨left, xs, v6, v7, rfl, s3, e3, hx, hxs⟩
    have hj' : j < zs.length := by simpa using hj
    obtain ⟨z, ez⟩ : ∃ z, zs[j]? = some z := ⟨_, List.getElem?_eq_getElem hj'⟩
    obtain ⟨zp, zq⟩ := hzs z (List.mem_of_getElem? ez)
    have hl3 : H3 l = some (.lst (zs.map V.int)) := s3 _ _ (s1 _ _ hl)
    have ea : atI (zs.map V.int) (0 + (j : Int)) = some (.int z) := at_ints ez (by omega)
    have hS3 : SqL K H3 a (ns.map V.int) := (s1.trans s3).seq hS
    -- one more item
    have fin : ∀ (y left' : Int) (v6 v7 : Option V) (H4 : Hp), Same H3 H4 → H4 p = some (.lst (xs.map V.int)) → ∃ (left : Int) (xs' : List Int) (v6' v7' : Option V),
        [some (.ref a), some (.int i), some (.ref l), some (.int c), some (.int left'), some (.ref p), v6, v7] = [some (.ref a), some (.int i), some (.ref l), some (.int c), some (.int left), some (.ref p), v6', v7'] ∧
        Same H1 (upd H4 p (.lst (xs.map V.int ++ [.int (y % z)]))) ∧ upd H4 p (.lst (xs.map V.int ++ [.int (y % z)])) p = some (.lst (xs'.map V.int)) ∧ xs'.length = j + 1 ∧ (∀ (j : Nat) (x z : Int), xs'[j]? = some x → zs[j]? = some z → 0 ≤ x ∧ x < z) := by
      intro y left' v6 v7 H4 s4 e4
      refine ⟨left', xs ++ [y % z], v6, v7, rfl, same_at (s3.trans s4) n2, ?_, by rw [List.length_append, hx]; rfl, fun m x z' e1 e2 => ?_⟩
      · rw [upd_same, List.map_append]; rfl
      · by_cases hm : m < xs.length
        · rw [List.getElem?_append_left hm] at e1
          exact hxs m x z' e1 e2
        · have hm2 : m = j := by
            have := (List.getElem?_eq_some_iff.mp e1).1
            rw [List.length_append] at this
            simp at this
            omega
          subst hm2
          rw [List.getElem?_append_right (by omega), hx] at e1
          simp at e1
          rw [ez] at e2
          cases e2
          subst e1
          exact ⟨Int.emod_nonneg _ (by omega), Int.emod_lt_of_pos _ zp⟩
    have small3 : (xs.map V.int).length < sizeLine := by rw [List.length_map]; exact small1000 (by omega)
    walk_at "vc"
    refine ite2 (fun _ => ?_) (fun _ => ?_)
    · walk_at "vc"
      refine ⟨.inl ⟨rfl, _, SqL.of e3⟩, ?_⟩
      walk_at "vc"
      refine ⟨_, _, rfl, by omega, by omega, fun y => ?_⟩
      walk_at "vc"
      refine r_l hl3 ea ?_
      refine r_I (show (0 : Int) < z from zp) ?_
      walk_at "vc"
      refine r_app e3 small3 ?_
      exact fin y _ _ _ _ (Same.refl _) e3
    · walk_at "vc"
      refine ite2 (fun _ => ?_) (fun _ => ?_)
      · walk_at "vc"
        refine ⟨.inl ⟨rfl, _, SqL.of e3⟩, ?_⟩
        walk_at "vc"
        refine r_l hl3 ea ?_
        refine r_I (show (0 : Int) < z from zp) ?_
        walk_at "vc"
        refine r_app e3 small3 ?_
        walk_at "vc"
        refine r_l (by rw [upd_ne (ne_of_none (s1 _ _ hl) n2)]; exact hl3) ea ?_
        refine r_I (show CDivB _ _ from ⟨by omega, Sz.log (m := 60) (Sz.of_lt (k := 2 ^ 60) (by omega) (Nat.le_refl _)) (by decide) (by decide)⟩) ?_
        exact fin left _ _ _ _ (Same.refl _) e3
      · walk_at "vc"
        have q0 : 0 ≤ (i + 1 + (0 + (j : Int))) % 63 := Int.emod_nonneg _ (by decide)
        have q1 : (i + 1 + (0 + (j : Int))) % 63 < 63 := Int.emod_lt_of_pos _ (by decide)
        refine ⟨a, ns, _, rfl, hS3, q0, by omega, fun c2 H4 s4 => ?_⟩
        walk_at "vc"
        refine ⟨.inl ⟨rfl, _, SqL.of (s4 _ _ e3)⟩, ?_⟩
        walk_at "vc"
        refine ⟨_, _, rfl, by omega, by omega, fun y => ?_⟩
        walk_at "vc"
        refine r_l (s4 _ _ hl3) ea ?_
        refine r_I (show (0 : Int) < z from zp) ?_
        walk_at "vc"
        refine r_app (s4 _ _ e3) small3 ?_
        exact fin y _ _ _ _ s4 (s4 _ _ e3)
  · rintro σ H3 ⟨left, xs, v6, v7, rfl, s3, e3, hx, hxs⟩
    walk_at "vc"
    exact k p xs H3 (s1.trans s3) (s1.free n2) e3 (by simpa using hx) hxs
theorem sc_law_ratio : FnScope ["_law_top", "_law_bottom", "_law_one", "_law_two"] ["_law_top", "_law_bottom"] (defScope s_law_ratio) := ⟨rfl, rfl, rfl, by decide +kernel, rfl, by decide +kernel, by decide +kernel⟩
theorem ok_law_ratio (F : Fun K "_law_ratio" "_law_ratio" s_law_ratio f fd) (T : Txt mg) : FnOk P w K mg base CX0 1 f fd ["_law_top", "_law_bottom"] spRatio := by
  refine F.ok sc_law_ratio (fun vs H Q E h => ?_) (fun cdv A outer s H vs Q E hr h => ?_)
  · obtain ⟨t, b, rfl, _⟩ := h
    rfl
  obtain ⟨t, b, rfl, hb, hz, k⟩ := h
  refine Jd.go ⟨_, (Jd.pss_cons (Jd.ps_par (i := 2) (j := 3) rfl sc_law_ratio.nd rfl rfl (by decide) rfl rfl (Jd.pa_cons (Jd.pe_callB absC rfl T.abs_ PyProof.Rows.boot_abs (Jd.pa_cons (Jd.pv 0) Jd.pa_nil st_N) (he := st_N) (hpl := any0)) (Jd.pa_cons (Jd.pv 1) Jd.pa_nil st_N) st_K) rfl)
      (Jd.pss_cons (Jd.ps_while PassesOwn.never (Jd.pt_cmpR op_gt (Jd.pv 3) Jd.pe_int (nomark _))
      (Jd.pss_one (Jd.ps_par (i := 2) (j := 3) rfl sc_law_ratio.nd rfl rfl (by decide) rfl rfl (Jd.pa_cons (Jd.pv 3) (Jd.pa_cons (Jd.pe_op op_mod (Jd.pv 2) (Jd.pv 3)) Jd.pa_nil st_B) st_N) rfl)))
      (Jd.pss_one (Jd.ps_ret (Jd.pe_tup (Jd.pa_cons (Jd.pe_op op_fdivB (Jd.pv 0) (Jd.pv 2)) (Jd.pa_cons (Jd.pe_op op_fdivB (Jd.pv 1) (Jd.pv 2)) Jd.pa_nil st_B) st_B)))))), ?_⟩
  walk_at "vc"
  have hgb : Int.gcd t b ≤ b.natAbs := by
    have := Int.gcd_le_right (a := t) (b := b) (by omega)
    omega
  refine while_by (fun σ H' => H' = H ∧ ∃ x y : Nat, σ = [some (.int t), some (.int b), some (.int x), some (.int y)] ∧ Nat.gcd x y = Int.gcd t b) (fun σ _ => third σ) ?_ ?_ ?_
  · refine ⟨rfl, t.natAbs, b.natAbs, ?_, rfl⟩
    rw [abs_cast]
    have e : b = ((b.natAbs : Nat) : Int) := by omega
    rw [← e]
    rfl
  · rintro σ H' ⟨rfl, x, y, rfl, hg⟩
    walk_at "vc"
    refine ite2 (fun c => ?_) (fun c => ?_)
    · have c' : (0 : Int) < (y : Int) := of_decide_eq_true c
      walk_at "vc"
      refine ⟨⟨rfl, y, x % y, ?_, by rw [gcd_step]; exact hg⟩, ?_⟩
      · rw [← mcast]; rfl
      · show ((x : Int) % (y : Int)).toNat < (y : Int).toNat
        rw [mcast]
        have := Nat.mod_lt x (y := y) (by omega)
        omega
    · have c' : ¬ (0 : Int) < (y : Int) := of_decide_eq_false (Bool.eq_false_iff.mpr c)
      have y0 : y = 0 := by omega
      subst y0
      rw [Nat.gcd_zero_right] at hg
      subst hg
      have gp : 0 < Int.gcd t b := Int.gcd_pos_of_ne_zero_right t (by omega)
      have cd : CDivB t ((Int.gcd t b : Nat) : Int) := ⟨by omega, Sz.log (m := 8000) (Sz.of_le hz (by omega)) (by decide) (by decide)⟩
      walk_at "vc"
      refine r_new (mk := .tup) (by simp) fun p H1 s1 n1 e1 => ?_
      exact k p _ _ H1 s1 e1 (low_pos hb)
  · intro σ H Q Q' h q
    obtain ⟨v, e, i, j, e1, e2, b, e3, q⟩ := q
    exact ⟨v, e, i, j, e1, e2, b, e3, h _ _ q⟩
end

/-! ### fractions, samples, lines on the heap -/
def QtAt (H : Hp) (p : Addr) (q : Rat) (n : Nat) : Prop := ∃ t b : Int, H p = some (.tup [.int t, .int b]) ∧ Qt t b q ∧ Sz n t ∧ Sz n b
def FrAt (H : Hp) (p : Addr) (q : Rat) (n : Nat) : Prop := ∃ t b : Int, H p = some (.tup [.int t, .int b]) ∧ Fr t b q ∧ Sz n t ∧ Sz n b
def SaAt (H : Hp) (p : Addr) (m : Int) (q : Rat) (n : Nat) : Prop := ∃ v : Addr, H p = some (.tup [.int m, .ref v]) ∧ FrAt H v q n ∧ Sz n m
def LnAt (H : Hp) (p : Addr) (s h : Rat) (n : Nat) : Prop := ∃ a b : Addr, H p = some (.tup [.ref a, .ref b]) ∧ FrAt H a s n ∧ FrAt H b h n
section
variable {H H' : Hp} {p : Addr} {q h : Rat} {m n : Nat} {t : Int}
theorem FrAt.qt (f : FrAt H p q n) : QtAt H p q n := let ⟨t, b, e, f, z⟩ := f; ⟨t, b, e, f.qt, z⟩
theorem QtAt.mono (f : QtAt H p q m) (h : m ≤ n) : QtAt H p q n := let ⟨t, b, e, f, z1, z2⟩ := f; ⟨t, b, e, f, z1.mono h, z2.mono h⟩
theorem FrAt.mono (f : FrAt H p q m) (h : m ≤ n) : FrAt H p q n := let ⟨t, b, e, f, z1, z2⟩ := f; ⟨t, b, e, f, z1.mono h, z2.mono h⟩
theorem SaAt.mono (f : SaAt H p t q m) (h : m ≤ n) : SaAt H p t q n := let ⟨v, e, f, z⟩ := f; ⟨v, e, f.mono h, z.mono h⟩
theorem LnAt.mono (f : LnAt H p q h m) (k : m ≤ n) : LnAt H p q h n := let ⟨a, b, e, f, g⟩ := f; ⟨a, b, e, f.mono k, g.mono k⟩
theorem QtAt.up (f : QtAt H p q n) (s : Same H H') : QtAt H' p q n := let ⟨t, b, e, f⟩ := f; ⟨t, b, s _ _ e, f⟩
theorem FrAt.up (f : FrAt H p q n) (s : Same H H') : FrAt H' p q n := let ⟨t, b, e, f⟩ := f; ⟨t, b, s _ _ e, f⟩
theorem SaAt.up (f : SaAt H p t q n) (s : Same H H') : SaAt H' p t q n := let ⟨v, e, f, z⟩ := f; ⟨v, s _ _ e, f.up s, z⟩
theorem LnAt.up (f : LnAt H p q h n) (s : Same H H') : LnAt H' p q h n := let ⟨a, b, e, f, g⟩ := f; ⟨a, b, s _ _ e, f.up s, g.up s⟩
theorem FrAt.den (f : FrAt H p q n) : ∃ t b : Int, Den H (.ref p) (.tuple [.int t, .int b]) ∧ Fr t b q := let ⟨t, b, e, f, _⟩ := f; ⟨t, b, .tup e (.cons (.int _) (.cons (.int _) .nil)), f⟩
end
/-! ### promises -/
def spPlain : Sp := fun vs H Q _ => ∃ (m n : Int), vs = [.int m, .int n] ∧ 0 ≤ m ∧ 0 ≤ n ∧ Q (.int (Int.gcd m n : Nat)) H
def spSteps : Sp := fun vs H Q _ => ∃ (m n : Int), vs = [.int m, .int n] ∧ 0 ≤ n ∧ n ≤ m ∧ m < 115792089237316195423570985008687907853269984665640564039457584007913129639936 ∧
  ∀ (p : Addr) (x0 y0 x1 y1 high low : Int) (H' : Hp), Same H H' → H' p = some (.tup [.int x0, .int y0, .int x1, .int y1]) → Steps m n high low x0 y0 x1 y1 → low ≤ 340282366920938463463374607431768211456 → Q (.ref p) H'
def spDivisor : Sp := fun vs H Q _ => ∃ (m n : Int), vs = [.int m, .int n] ∧ Sz 8000 m ∧ Sz 8000 n ∧ ∀ H', Same H H' → Q (.int (Int.gcd m n : Nat)) H'
def spRatioP : Sp := fun vs H Q _ => ∃ (t b : Int), vs = [.int t, .int b] ∧ b ≠ 0 ∧ Sz 8000 t ∧ Sz 8000 b ∧ ∀ (p : Addr) (t' b' : Int) (H' : Hp), Same H H' → H' p = some (.tup [.int t', .int b']) → Low t b t' b' → Q (.ref p) H'
def spReduced : Sp := fun vs H Q _ => ∃ (p : Addr) (q : Rat) (n : Nat), vs = [.ref p] ∧ QtAt H p q n ∧ n ≤ 8000 ∧ ∀ (r : Addr) (H' : Hp), Same H H' → FrAt H' r q n → Q (.ref r) H'
/-- two quotients in, a quotient of a given worth and size out -/
def spTwo (f : Rat → Rat → Rat) (k : Nat) : Sp := fun vs H Q _ => ∃ (p r : Addr) (q q' : Rat) (m n : Nat), vs = [.ref p, .ref r] ∧ QtAt H p q m ∧ QtAt H r q' n ∧ m + n ≤ 100000 ∧ ∀ (s : Addr) (H' : Hp), Same H H' → QtAt H' s (f q q') (m + n + k) → Q (.ref s) H'
def spTwoF (f : Rat → Rat → Rat) (k : Nat) : Sp := fun vs H Q _ => ∃ (p r : Addr) (q q' : Rat) (m n : Nat), vs = [.ref p, .ref r] ∧ QtAt H p q m ∧ QtAt H r q' n ∧ m + n + k ≤ 8000 ∧ ∀ (s : Addr) (H' : Hp), Same H H' → FrAt H' s (f q q') (m + n + k) → Q (.ref s) H'
def spOver : Sp := fun vs H Q _ => ∃ (p r : Addr) (q q' : Rat) (m n : Nat), vs = [.ref p, .ref r] ∧ QtAt H p q m ∧ QtAt H r q' n ∧ m + n ≤ 8000 ∧ q' ≠ 0 ∧ ∀ (s : Addr) (H' : Hp), Same H H' → FrAt H' s (q / q') (m + n) → Q (.ref s) H'
def spLslope : Sp := fun vs H Q _ => ∃ (p r : Addr) (t t' : Int) (q q' : Rat) (n : Nat), vs = [.ref p, .ref r] ∧ SaAt H p t q n ∧ SaAt H r t' q' n ∧ t ≠ t' ∧ n ≤ 2000 ∧ ∀ (s : Addr) (H' : Hp), Same H H' → QtAt H' s ((q' - q) / ((t' - t : Int) : Rat)) (4 * n + 3) → Q (.ref s) H'
def spSlope : Sp := fun vs H Q _ => ∃ (p r : Addr) (t t' : Int) (q q' : Rat) (n : Nat), vs = [.ref p, .ref r] ∧ SaAt H p t q n ∧ SaAt H r t' q' n ∧ t ≠ t' ∧ n ≤ 1000 ∧ ∀ (s : Addr) (H' : Hp), Same H H' → FrAt H' s ((q' - q) / ((t' - t : Int) : Rat)) (4 * n + 3) → Q (.ref s) H'
def spLalong : Sp := fun vs H Q _ => ∃ (p r : Addr) (s q : Rat) (t u : Int) (m n : Nat), vs = [.ref p, .ref r, .int u] ∧ QtAt H p s m ∧ SaAt H r t q n ∧ Sz n u ∧ m ≤ 20000 ∧ n ≤ 20000 ∧ ∀ (x : Addr) (H' : Hp), Same H H' → QtAt H' x (q + s * ((u - t : Int) : Rat)) (m + 2 * n + 2) → Q (.ref x) H'
section
variable {P : Program} {w : World} {K : PySem.W.Frag} {mg : Str → Option Value} {base : Heap} {f : Addr} {fd : FuncData}
theorem sc_loose_plus : FnScope ["one", "other"] ["one", "other"] (defScope s_loose_plus) := ⟨rfl, rfl, rfl, by decide +kernel, rfl, by decide +kernel, by decide +kernel⟩
theorem ok_loose_plus (F : Fun K "loose_plus" "loose_plus" s_loose_plus f fd) : FnOk P w K mg base CX0 1 f fd ["one", "other"] (spTwo (· + ·) 1) := by
  refine F.ok sc_loose_plus (fun vs H Q E h => ?_) (fun cdv A outer s H vs Q E hr h => ?_)
  · obtain ⟨p, r, q, q', m, n, rfl, _⟩ := h
    rfl
  obtain ⟨p, r, q, q', m, n, rfl, ⟨a, b, hp, hq, za, zb⟩, ⟨c, d, hr', hq', zc, zd⟩, hn, k⟩ := h
  refine Jd.go ⟨_, (Jd.pss_one (Jd.ps_ret (Jd.pe_tup (Jd.pa_cons (Jd.pe_op op_add (Jd.pe_op op_mulB (Jd.pe_ix (ixT K) (Jd.pv 0) Jd.pe_int (fun _ _ => rfl)) (Jd.pe_ix (ixT K) (Jd.pv 1) Jd.pe_int (fun _ _ => rfl))) (Jd.pe_op op_mulB (Jd.pe_ix (ixT K) (Jd.pv 1) Jd.pe_int (fun _ _ => rfl)) (Jd.pe_ix (ixT K) (Jd.pv 0) Jd.pe_int (fun _ _ => rfl)))) (Jd.pa_cons (Jd.pe_op op_mulB (Jd.pe_ix (ixT K) (Jd.pv 0) Jd.pe_int (fun _ _ => rfl)) (Jd.pe_ix (ixT K) (Jd.pv 1) Jd.pe_int (fun _ _ => rfl))) Jd.pa_nil st_B) st_B)))), ?_⟩
  walk_at "vc"
  refine r_I (mulOk za zd (by omega)) ?_
  walk_at "vc"
  refine r_I (mulOk zc zb (by omega)) ?_
  walk_at "vc"
  refine r_I (mulOk zb zd (by omega)) ?_
  walk_at "vc"
  refine r_new (mk := .tup) (by simp) fun x H1 s1 n1 e1 => ?_
  exact k x H1 s1 ⟨_, _, e1, hq.plus hq', (za.mul zd).add ((zc.mul zb).mono (by omega)), (zb.mul zd).mono (by omega)⟩
theorem sc_loose_minus : FnScope ["one", "other"] ["one", "other"] (defScope s_loose_minus) := ⟨rfl, rfl, rfl, by decide +kernel, rfl, by decide +kernel, by decide +kernel⟩
theorem ok_loose_minus (F : Fun K "loose_minus" "loose_minus" s_loose_minus f fd) : FnOk P w K mg base CX0 1 f fd ["one", "other"] (spTwo (· - ·) 1) := by
  refine F.ok sc_loose_minus (fun vs H Q E h => ?_) (fun cdv A outer s H vs Q E hr h => ?_)
  · obtain ⟨p, r, q, q', m, n, rfl, _⟩ := h
    rfl
  obtain ⟨p, r, q, q', m, n, rfl, ⟨a, b, hp, hq, za, zb⟩, ⟨c, d, hr', hq', zc, zd⟩, hn, k⟩ := h
  refine Jd.go ⟨_, (Jd.pss_one (Jd.ps_ret (Jd.pe_tup (Jd.pa_cons (Jd.pe_op op_sub (Jd.pe_op op_mulB (Jd.pe_ix (ixT K) (Jd.pv 0) Jd.pe_int (fun _ _ => rfl)) (Jd.pe_ix (ixT K) (Jd.pv 1) Jd.pe_int (fun _ _ => rfl))) (Jd.pe_op op_mulB (Jd.pe_ix (ixT K) (Jd.pv 1) Jd.pe_int (fun _ _ => rfl)) (Jd.pe_ix (ixT K) (Jd.pv 0) Jd.pe_int (fun _ _ => rfl)))) (Jd.pa_cons (Jd.pe_op op_mulB (Jd.pe_ix (ixT K) (Jd.pv 0) Jd.pe_int (fun _ _ => rfl)) (Jd.pe_ix (ixT K) (Jd.pv 1) Jd.pe_int (fun _ _ => rfl))) Jd.pa_nil st_B) st_B)))), ?_⟩
  walk_at "vc"
  refine r_I (mulOk za zd (by omega)) ?_
  walk_at "vc"
  refine r_I (mulOk zc zb (by omega)) ?_
  walk_at "vc"
  refine r_I (mulOk zb zd (by omega)) ?_
  walk_at "vc"
  refine r_new (mk := .tup) (by simp) fun x H1 s1 n1 e1 => ?_
  exact k x H1 s1 ⟨_, _, e1, hq.minus hq', (za.mul zd).sub ((zc.mul zb).mono (by omega)), (zb.mul zd).mono (by omega)⟩
theorem sc_loose_times : FnScope ["one", "other"] ["one", "other"] (defScope s_loose_times) := ⟨rfl, rfl, rfl, by decide +kernel, rfl, by decide +kernel, by decide +kernel⟩
theorem ok_loose_times (F : Fun K "loose_times" "loose_times" s_loose_times f fd) : FnOk P w K mg base CX0 1 f fd ["one", "other"] (spTwo (· * ·) 0) := by
  refine F.ok sc_loose_times (fun vs H Q E h => ?_) (fun cdv A outer s H vs Q E hr h => ?_)
  · obtain ⟨p, r, q, q', m, n, rfl, _⟩ := h
    rfl
  obtain ⟨p, r, q, q', m, n, rfl, ⟨a, b, hp, hq, za, zb⟩, ⟨c, d, hr', hq', zc, zd⟩, hn, k⟩ := h
  refine Jd.go ⟨_, (Jd.pss_one (Jd.ps_ret (Jd.pe_tup (Jd.pa_cons (Jd.pe_op op_mulB (Jd.pe_ix (ixT K) (Jd.pv 0) Jd.pe_int (fun _ _ => rfl)) (Jd.pe_ix (ixT K) (Jd.pv 1) Jd.pe_int (fun _ _ => rfl))) (Jd.pa_cons (Jd.pe_op op_mulB (Jd.pe_ix (ixT K) (Jd.pv 0) Jd.pe_int (fun _ _ => rfl)) (Jd.pe_ix (ixT K) (Jd.pv 1) Jd.pe_int (fun _ _ => rfl))) Jd.pa_nil st_B) st_B)))), ?_⟩
  walk_at "vc"
  refine r_I (mulOk za zc (by omega)) ?_
  walk_at "vc"
  refine r_I (mulOk zb zd (by omega)) ?_
  walk_at "vc"
  refine r_new (mk := .tup) (by simp) fun x H1 s1 n1 e1 => ?_
  exact k x H1 s1 ⟨_, _, e1, hq.times hq', za.mul zc, zb.mul zd⟩
end

/-! ### fractions told in lowest terms, lines -/
def spLheight : Sp := fun vs H Q _ => ∃ (p r : Addr) (s h x : Rat) (m n : Nat), vs = [.ref p, .ref r] ∧ LnAt H p s h n ∧ QtAt H r x m ∧ m ≤ 20000 ∧ n ≤ 20000 ∧ ∀ (z : Addr) (H' : Hp), Same H H' → QtAt H' z (s * x + h) (m + 2 * n + 1) → Q (.ref z) H'
def spHeight : Sp := fun vs H Q _ => ∃ (p r : Addr) (s h x : Rat) (m n : Nat), vs = [.ref p, .ref r] ∧ LnAt H p s h n ∧ QtAt H r x m ∧ m + 2 * n + 1 ≤ 8000 ∧ ∀ (z : Addr) (H' : Hp), Same H H' → FrAt H' z (s * x + h) (m + 2 * n + 1) → Q (.ref z) H'
def spLoff : Sp := fun vs H Q _ => ∃ (p r : Addr) (s h q : Rat) (t : Int) (m n : Nat), vs = [.ref p, .ref r] ∧ LnAt H p s h n ∧ SaAt H r t q m ∧ 1 ≤ m ∧ m ≤ 20000 ∧ n ≤ 20000 ∧ ∀ (z : Addr) (H' : Hp), Same H H' → QtAt H' z (q - (s * (t : Rat) + h)) (2 * m + 2 * n + 2) → Q (.ref z) H'
def spOff : Sp := fun vs H Q _ => ∃ (p r : Addr) (s h q : Rat) (t : Int) (m n : Nat), vs = [.ref p, .ref r] ∧ LnAt H p s h n ∧ SaAt H r t q m ∧ 1 ≤ m ∧ 2 * m + 2 * n + 2 ≤ 8000 ∧ ∀ (z : Addr) (H' : Hp), Same H H' → FrAt H' z (q - (s * (t : Rat) + h)) (2 * m + 2 * n + 2) → Q (.ref z) H'
def spLineBy : Sp := fun vs H Q _ => ∃ (p r : Addr) (s q : Rat) (t : Int) (m n : Nat), vs = [.ref p, .ref r] ∧ FrAt H p s m ∧ SaAt H r t q n ∧ 1 ≤ n ∧ m + 2 * n + 2 ≤ 8000 ∧
  ∀ (z r' : Addr) (H' : Hp), Same H H' → H' z = some (.tup [.ref p, .ref r']) → FrAt H' r' (q - s * (t : Rat)) (m + 2 * n + 2) → Q (.ref z) H'
def spMeet : Sp := fun vs H Q _ => ∃ (p r : Addr) (s h s' h' : Rat) (n : Nat), vs = [.ref p, .ref r] ∧ LnAt H p s h n ∧ LnAt H r s' h' n ∧ 1 ≤ n ∧ n ≤ 500 ∧ (s = s' → ∀ H', Same H H' → Q .non H') ∧
  (s ≠ s' → ∀ (z a b : Addr) (H' : Hp), Same H H' → H' z = some (.tup [.ref a, .ref b]) → FrAt H' a ((h' - h) / (s - s')) (4 * n + 2) → FrAt H' b (s * ((h' - h) / (s - s')) + h) (8 * n + 8) → Q (.ref z) H')
theorem fr_eqv {t b t' b' : Int} {q q' : Rat} (h : Fr t b q) (h' : Fr t' b' q') : PyData.eqv (.tuple [.int t, .int b]) (.tuple [.int t', .int b']) = decide (q = q') := by
  have e : PyData.eqv (.tuple [.int t, .int b]) (.tuple [.int t', .int b']) = (t == t' && (b == b' && true)) := rfl
  rw [e]
  by_cases hq : q = q'
  · subst hq
    obtain ⟨rfl, rfl⟩ := h.unique h'
    simp
  · rw [decide_eq_false hq]
    by_cases e1 : t = t'
    · by_cases e2 : b = b'
      · exact absurd (h.worth h' e1 e2) hq
      · simp [e2]
    · simp [e1]
theorem one_sz {n : Nat} (h : 1 ≤ n) : Sz n 1 := by
  have : (2 : Nat) ^ 1 ≤ 2 ^ n := Nat.pow_le_pow_right (by decide) h
  show Int.natAbs 1 < 2 ^ n
  have e : Int.natAbs 1 = 1 := rfl
  omega
theorem whole_at {H : Hp} {p : Addr} {m : Int} {n : Nat} (h : H p = some (.tup [.int m, .int 1])) (z : Sz n m) (hn : 1 ≤ n) : QtAt H p (m : Rat) n := ⟨m, 1, h, Qt.whole m, z, one_sz hn⟩
section
variable {P : Program} {w : World} {K : PySem.W.Frag} {mg : Str → Option Value} {base : Heap} {f : Addr} {fd : FuncData}
theorem sc_loose_slope : FnScope ["one", "other", "rise", "step"] ["one", "other"] (defScope s_loose_slope) := ⟨rfl, rfl, rfl, by decide +kernel, rfl, by decide +kernel, by decide +kernel⟩
theorem ok_loose_slope (F : Fun K "loose_slope" "loose_slope" s_loose_slope f fd) (D_loose_minus : Dn P w K mg base 1 "loose_minus" ["one", "other"] (spTwo (· - ·) 1)) : FnOk P w K mg base CX0 3 f fd ["one", "other"] spLslope := by
  refine F.ok sc_loose_slope (fun vs H Q E h => ?_) (fun cdv A outer s H vs Q E hr h => ?_)
  · obtain ⟨p, r, t, t', q, q', n, rfl, _⟩ := h
    rfl
  obtain ⟨p, r, t, t', q, q', n, rfl, ⟨v, hp, hv, zt⟩, ⟨v', hr', hv', zt'⟩, ht, hn, k⟩ := h
  refine Jd.go ⟨_, (Jd.pss_cons (Jd.ps_set (i := 2) sc_loose_slope.nd rfl (Or.inl rfl) (Jd.pe_dn D_loose_minus (hr.mono (by decide)) rfl (Jd.pa_cons (Jd.pe_ix (ixT K) (Jd.pv 1) Jd.pe_int (fun _ _ => rfl)) (Jd.pa_cons (Jd.pe_ix (ixT K) (Jd.pv 0) Jd.pe_int (fun _ _ => rfl)) Jd.pa_nil st_S) st_S) (he := st_S) (hpl := (anyc st_S any0))) (hs := sw_K))
      (Jd.pss_cons (Jd.ps_set (i := 3) sc_loose_slope.nd rfl (Or.inl rfl) (Jd.pe_op op_sub (Jd.pe_ix (ixT K) (Jd.pv 1) Jd.pe_int (fun _ _ => rfl)) (Jd.pe_ix (ixT K) (Jd.pv 0) Jd.pe_int (fun _ _ => rfl))) (hs := sw_B))
      (Jd.pss_cons (Jd.ps_if (Jd.pt_cmpR op_lt (Jd.pv 3) Jd.pe_int (nomark _))
      (Jd.pss_one (Jd.ps_ret (Jd.pe_tup (Jd.pa_cons (Jd.pe_un un_neg (Jd.pe_ix (ixT K) (Jd.pv 2) Jd.pe_int (fun _ _ => rfl))) (Jd.pa_cons (Jd.pe_op op_mulB (Jd.pe_ix (ixT K) (Jd.pv 2) Jd.pe_int (fun _ _ => rfl)) (Jd.pe_un un_neg (Jd.pv 3))) Jd.pa_nil st_B) st_U))))
      Jd.pss_nil)
      (Jd.pss_one (Jd.ps_ret (Jd.pe_tup (Jd.pa_cons (Jd.pe_ix (ixT K) (Jd.pv 2) Jd.pe_int (fun _ _ => rfl)) (Jd.pa_cons (Jd.pe_op op_mulB (Jd.pe_ix (ixT K) (Jd.pv 2) Jd.pe_int (fun _ _ => rfl)) (Jd.pv 3)) Jd.pa_nil st_B) st_S))))))), ?_⟩
  walk_at "vc"
  refine ⟨v', v, q', q, n, n, rfl, hv'.qt, hv.qt, by omega, fun x H1 s1 e1 => ?_⟩
  obtain ⟨a, b, hx, hq, za, zb⟩ := e1
  have hp1 := s1 _ _ hp
  have hr1 := s1 _ _ hr'
  have zs : Sz (n + 1) (t' - t) := zt'.sub zt
  walk_at "vc"
  refine ite2 (fun c => ?_) (fun c => ?_)
  · have c' : t' - t < 0 := of_decide_eq_true c
    walk_at "vc"
    refine r_I (mulOk zb zs.neg (by omega)) ?_
    walk_at "vc"
    refine r_new (mk := .tup) (by simp) fun y H2 s2 n2 e2 => ?_
    exact k y H2 (s1.trans s2) ⟨_, _, e2, hq.divN c', za.neg.mono (by omega), (zb.mul zs.neg).mono (by omega)⟩
  · have c' : ¬ t' - t < 0 := of_decide_eq_false (Bool.eq_false_iff.mpr c)
    walk_at "vc"
    refine r_I (mulOk zb zs (by omega)) ?_
    walk_at "vc"
    refine r_new (mk := .tup) (by simp) fun y H2 s2 n2 e2 => ?_
    exact k y H2 (s1.trans s2) ⟨_, _, e2, hq.div (by omega), za.mono (by omega), (zb.mul zs).mono (by omega)⟩
theorem sc_loose_along : FnScope ["steep", "sample", "moment"] ["steep", "sample", "moment"] (defScope s_loose_along) := ⟨rfl, rfl, rfl, by decide +kernel, rfl, by decide +kernel, by decide +kernel⟩
theorem ok_loose_along (F : Fun K "loose_along" "loose_along" s_loose_along f fd) (D_loose_plus : Dn P w K mg base 1 "loose_plus" ["one", "other"] (spTwo (· + ·) 1)) (D_loose_times : Dn P w K mg base 1 "loose_times" ["one", "other"] (spTwo (· * ·) 0)) :
    FnOk P w K mg base CX0 3 f fd ["steep", "sample", "moment"] spLalong := by
  refine F.ok sc_loose_along (fun vs H Q E h => ?_) (fun cdv A outer s H vs Q E hr h => ?_)
  · obtain ⟨p, r, s', q, t, u, m, n, rfl, _⟩ := h
    rfl
  obtain ⟨p, r, s', q, t, u, m, n, rfl, hp, ⟨v, hr', hv, zt⟩, zu, hm, hn, k⟩ := h
  refine Jd.go ⟨_, (Jd.pss_one (Jd.ps_ret (Jd.pe_dn D_loose_plus (hr.mono (by decide)) rfl (Jd.pa_cons (Jd.pe_ix (ixT K) (Jd.pv 1) Jd.pe_int (fun _ _ => rfl)) (Jd.pa_cons (Jd.pe_dn D_loose_times (hr.mono (by decide)) rfl (Jd.pa_cons (Jd.pv 0) (Jd.pa_cons (Jd.pe_tup (Jd.pa_cons (Jd.pe_op op_sub (Jd.pv 2) (Jd.pe_ix (ixT K) (Jd.pv 1) Jd.pe_int (fun _ _ => rfl))) (Jd.pa_cons Jd.pe_int Jd.pa_nil st_C) st_B)) Jd.pa_nil st_T) st_N) (he := st_N) (hpl := (anyc st_T any0))) Jd.pa_nil st_K) st_S) (he := st_S) (hpl := (anyc st_K any0))))), ?_⟩
  walk_at "vc"
  refine r_new (mk := .tup) (by simp) fun y H1 s1 n1 e1 => ?_
  refine ⟨p, y, s', _, m, n + 1, rfl, hp.up s1, whole_at e1 (zu.sub zt) (by omega), by omega, fun x H2 s2 e2 => ?_⟩
  walk_at "vc"
  refine ⟨v, x, q, _, n, _, rfl, (hv.up (s1.trans s2)).qt, e2, by omega, fun z H3 s3 e3 => ?_⟩
  exact k z H3 (s1.trans (s2.trans s3)) (e3.mono (by omega))
end

/-! ### the law's own sums -/
section
variable {P : Program} {w : World} {K : PySem.W.Frag} {mg : Str → Option Value} {base : Heap} {f : Addr} {fd : FuncData}
theorem sc_law_plus : FnScope ["_law_one", "_law_other"] ["_law_one", "_law_other"] (defScope s_law_plus) := ⟨rfl, rfl, rfl, by decide +kernel, rfl, by decide +kernel, by decide +kernel⟩
theorem ok_law_plus (F : Fun K "_law_plus" "_law_plus" s_law_plus f fd) (D_law_ratio : Dn P w K mg base 1 "_law_ratio" ["_law_top", "_law_bottom"] spRatio) : FnOk P w K mg base CX0 3 f fd ["_law_one", "_law_other"] (spTwoF (· + ·) 1) := by
  refine F.ok sc_law_plus (fun vs H Q E h => ?_) (fun cdv A outer s H vs Q E hr h => ?_)
  · obtain ⟨p, r, q, q', m, n, rfl, _⟩ := h
    rfl
  obtain ⟨p, r, q, q', m, n, rfl, ⟨a, b, hp, hq, za, zb⟩, ⟨c, d, hr', hq', zc, zd⟩, hn, k⟩ := h
  refine Jd.go ⟨_, (Jd.pss_one (Jd.ps_ret (Jd.pe_dn D_law_ratio (hr.mono (by decide)) rfl (Jd.pa_cons (Jd.pe_op op_add (Jd.pe_op op_mulB (Jd.pe_ix (ixT K) (Jd.pv 0) Jd.pe_int (fun _ _ => rfl)) (Jd.pe_ix (ixT K) (Jd.pv 1) Jd.pe_int (fun _ _ => rfl))) (Jd.pe_op op_mulB (Jd.pe_ix (ixT K) (Jd.pv 1) Jd.pe_int (fun _ _ => rfl)) (Jd.pe_ix (ixT K) (Jd.pv 0) Jd.pe_int (fun _ _ => rfl)))) (Jd.pa_cons (Jd.pe_op op_mulB (Jd.pe_ix (ixT K) (Jd.pv 0) Jd.pe_int (fun _ _ => rfl)) (Jd.pe_ix (ixT K) (Jd.pv 1) Jd.pe_int (fun _ _ => rfl))) Jd.pa_nil st_B) st_B) (he := st_B) (hpl := (anyc st_B any0))))), ?_⟩
  walk_at "vc"
  refine r_I (mulOk za zd (by omega)) ?_
  walk_at "vc"
  refine r_I (mulOk zc zb (by omega)) ?_
  walk_at "vc"
  refine r_I (mulOk zb zd (by omega)) ?_
  walk_at "vc"
  have hb := mul_pos1 hq.pos hq'.pos
  refine ⟨_, _, rfl, by omega, (zb.mul zd).mono (by omega), fun x t' b' H1 s1 e1 lo => ?_⟩
  exact k x H1 s1 ⟨t', b', e1, Fr.of_low lo (by omega) (hq.plus hq').eq, ((za.mul zd).add ((zc.mul zb).mono (by omega))).of_le lo.tb, ((zb.mul zd).mono (by omega) : Sz (m + n + 1) _).of_le lo.bb⟩
theorem sc_law_minus : FnScope ["_law_one", "_law_other"] ["_law_one", "_law_other"] (defScope s_law_minus) := ⟨rfl, rfl, rfl, by decide +kernel, rfl, by decide +kernel, by decide +kernel⟩
theorem ok_law_minus (F : Fun K "_law_minus" "_law_minus" s_law_minus f fd) (D_law_ratio : Dn P w K mg base 1 "_law_ratio" ["_law_top", "_law_bottom"] spRatio) : FnOk P w K mg base CX0 3 f fd ["_law_one", "_law_other"] (spTwoF (· - ·) 1) := by
  refine F.ok sc_law_minus (fun vs H Q E h => ?_) (fun cdv A outer s H vs Q E hr h => ?_)
  · obtain ⟨p, r, q, q', m, n, rfl, _⟩ := h
    rfl
  obtain ⟨p, r, q, q', m, n, rfl, ⟨a, b, hp, hq, za, zb⟩, ⟨c, d, hr', hq', zc, zd⟩, hn, k⟩ := h
  refine Jd.go ⟨_, (Jd.pss_one (Jd.ps_ret (Jd.pe_dn D_law_ratio (hr.mono (by decide)) rfl (Jd.pa_cons (Jd.pe_op op_sub (Jd.pe_op op_mulB (Jd.pe_ix (ixT K) (Jd.pv 0) Jd.pe_int (fun _ _ => rfl)) (Jd.pe_ix (ixT K) (Jd.pv 1) Jd.pe_int (fun _ _ => rfl))) (Jd.pe_op op_mulB (Jd.pe_ix (ixT K) (Jd.pv 1) Jd.pe_int (fun _ _ => rfl)) (Jd.pe_ix (ixT K) (Jd.pv 0) Jd.pe_int (fun _ _ => rfl)))) (Jd.pa_cons (Jd.pe_op op_mulB (Jd.pe_ix (ixT K) (Jd.pv 0) Jd.pe_int (fun _ _ => rfl)) (Jd.pe_ix (ixT K) (Jd.pv 1) Jd.pe_int (fun _ _ => rfl))) Jd.pa_nil st_B) st_B) (he := st_B) (hpl := (anyc st_B any0))))), ?_⟩
  walk_at "vc"
  refine r_I (mulOk za zd (by omega)) ?_
  walk_at "vc"
  refine r_I (mulOk zc zb (by omega)) ?_
  walk_at "vc"
  refine r_I (mulOk zb zd (by omega)) ?_
  walk_at "vc"
  have hb := mul_pos1 hq.pos hq'.pos
  refine ⟨_, _, rfl, by omega, (zb.mul zd).mono (by omega), fun x t' b' H1 s1 e1 lo => ?_⟩
  exact k x H1 s1 ⟨t', b', e1, Fr.of_low lo (by omega) (hq.minus hq').eq, ((za.mul zd).sub ((zc.mul zb).mono (by omega))).of_le lo.tb, ((zb.mul zd).mono (by omega) : Sz (m + n + 1) _).of_le lo.bb⟩
theorem sc_law_by : FnScope ["_law_one", "_law_other"] ["_law_one", "_law_other"] (defScope s_law_by) := ⟨rfl, rfl, rfl, by decide +kernel, rfl, by decide +kernel, by decide +kernel⟩
theorem ok_law_by (F : Fun K "_law_by" "_law_by" s_law_by f fd) (D_law_ratio : Dn P w K mg base 1 "_law_ratio" ["_law_top", "_law_bottom"] spRatio) : FnOk P w K mg base CX0 3 f fd ["_law_one", "_law_other"] (spTwoF (· * ·) 0) := by
  refine F.ok sc_law_by (fun vs H Q E h => ?_) (fun cdv A outer s H vs Q E hr h => ?_)
  · obtain ⟨p, r, q, q', m, n, rfl, _⟩ := h
    rfl
  obtain ⟨p, r, q, q', m, n, rfl, ⟨a, b, hp, hq, za, zb⟩, ⟨c, d, hr', hq', zc, zd⟩, hn, k⟩ := h
  refine Jd.go ⟨_, (Jd.pss_one (Jd.ps_ret (Jd.pe_dn D_law_ratio (hr.mono (by decide)) rfl (Jd.pa_cons (Jd.pe_op op_mulB (Jd.pe_ix (ixT K) (Jd.pv 0) Jd.pe_int (fun _ _ => rfl)) (Jd.pe_ix (ixT K) (Jd.pv 1) Jd.pe_int (fun _ _ => rfl))) (Jd.pa_cons (Jd.pe_op op_mulB (Jd.pe_ix (ixT K) (Jd.pv 0) Jd.pe_int (fun _ _ => rfl)) (Jd.pe_ix (ixT K) (Jd.pv 1) Jd.pe_int (fun _ _ => rfl))) Jd.pa_nil st_B) st_B) (he := st_B) (hpl := (anyc st_B any0))))), ?_⟩
  walk_at "vc"
  refine r_I (mulOk za zc (by omega)) ?_
  walk_at "vc"
  refine r_I (mulOk zb zd (by omega)) ?_
  walk_at "vc"
  have hb := mul_pos1 hq.pos hq'.pos
  refine ⟨_, _, rfl, by omega, (zb.mul zd).mono (by omega), fun x t' b' H1 s1 e1 lo => ?_⟩
  exact k x H1 s1 ⟨t', b', e1, Fr.of_low lo (by omega) (hq.times hq').eq, (za.mul zc).of_le lo.tb, (zb.mul zd).of_le lo.bb⟩
end

/-! ### order and size by worths; threes -/
def spOrderQ : Sp := fun vs H Q _ => ∃ (p r : Addr) (q q' : Rat) (m n : Nat), vs = [.ref p, .ref r] ∧ QtAt H p q m ∧ QtAt H r q' n ∧ m + n ≤ 100000 ∧ ∀ o : Int, (0 < o ↔ q' < q) → (o < 0 ↔ q < q') → Q (.int o) H
def spSizeQ : Sp := fun vs H Q _ => ∃ (p : Addr) (q : Rat) (n : Nat), vs = [.ref p] ∧ QtAt H p q n ∧ ∀ (r : Addr) (H' : Hp), Same H H' → QtAt H' r (rabs q) n → Q (.ref r) H'
def spLstand : Sp := fun vs H Q _ => ∃ (p1 p2 p3 : Addr) (t1 t2 t3 : Int) (q1 q2 q3 : Rat) (n : Nat), vs = [.ref p1, .ref p2, .ref p3] ∧ SaAt H p1 t1 q1 n ∧ SaAt H p2 t2 q2 n ∧ SaAt H p3 t3 q3 n ∧ t1 < t3 ∧ n ≤ 2000 ∧
  ∀ (z : Addr) (H' : Hp), Same H H' → QtAt H' z (q2 - chord t1 q1 t2 t3 q3) (7 * n + 7) → Q (.ref z) H'
def spPinched : Sp := fun vs H Q _ => ∃ (p1 p2 p3 pb : Addr) (t1 t2 t3 : Int) (q1 q2 q3 β : Rat) (n m : Nat), vs = [.ref p1, .ref p2, .ref p3, .ref pb] ∧ SaAt H p1 t1 q1 n ∧ SaAt H p2 t2 q2 n ∧ SaAt H p3 t3 q3 n ∧ QtAt H pb β m ∧ t1 < t3 ∧ n ≤ 2000 ∧ m ≤ 20000 ∧
  ∀ (r : Bool) (H' : Hp), Same H H' → (r = true ↔ 2 * β < rabs (q2 - chord t1 q1 t2 t3 q3)) → Q (.bl r) H'
section
variable {P : Program} {w : World} {K : PySem.W.Frag} {mg : Str → Option Value} {base : Heap} {f : Addr} {fd : FuncData}
theorem sc_order : FnScope ["one", "other", "left", "right"] ["one", "other"] (defScope s_order) := ⟨rfl, rfl, rfl, by decide +kernel, rfl, by decide +kernel, by decide +kernel⟩
theorem ok_order (F : Fun K "order" "order" s_order f fd) : FnOk P w K mg base CX0 1 f fd ["one", "other"] spOrderQ := by
  refine F.ok sc_order (fun vs H Q E h => ?_) (fun cdv A outer s H vs Q E hr h => ?_)
  · obtain ⟨p, r, q, q', m, n, rfl, _⟩ := h
    rfl
  obtain ⟨p, r, q, q', m, n, rfl, ⟨a, b, hp, hq, za, zb⟩, ⟨c, d, hr', hq', zc, zd⟩, hn, k⟩ := h
  have l1 := hq.lt_iff hq'
  have l2 := hq'.lt_iff hq
  refine Jd.go ⟨_, (Jd.pss_cons (Jd.ps_set (i := 2) sc_order.nd rfl (Or.inl rfl) (Jd.pe_op op_mulB (Jd.pe_ix (ixT K) (Jd.pv 0) Jd.pe_int (fun _ _ => rfl)) (Jd.pe_ix (ixT K) (Jd.pv 1) Jd.pe_int (fun _ _ => rfl))) (hs := sw_B))
      (Jd.pss_cons (Jd.ps_set (i := 3) sc_order.nd rfl (Or.inl rfl) (Jd.pe_op op_mulB (Jd.pe_ix (ixT K) (Jd.pv 1) Jd.pe_int (fun _ _ => rfl)) (Jd.pe_ix (ixT K) (Jd.pv 0) Jd.pe_int (fun _ _ => rfl))) (hs := sw_B))
      (Jd.pss_cons (Jd.ps_if (Jd.pt_cmpR op_lt (Jd.pv 2) (Jd.pv 3) (nomark _))
      (Jd.pss_one (Jd.ps_ret (Jd.pe_un un_neg Jd.pe_int)))
      Jd.pss_nil)
      (Jd.pss_cons (Jd.ps_if (Jd.pt_cmpR op_gt (Jd.pv 2) (Jd.pv 3) (nomark _))
      (Jd.pss_one (Jd.ps_ret Jd.pe_int))
      Jd.pss_nil)
      (Jd.pss_one (Jd.ps_ret Jd.pe_int)))))), ?_⟩
  walk_at "vc"
  refine r_I (mulOk za zd (by omega)) ?_
  walk_at "vc"
  refine r_I (mulOk zc zb (by omega)) ?_
  walk_at "vc"
  refine ite2 (fun c1 => ?_) (fun c1 => ?_)
  · have c' := of_decide_eq_true c1
    walk_at "vc"
    have x1 := l1.mp c'
    exact k _ ⟨fun z => absurd z (by decide), fun z => by grind⟩ ⟨fun _ => x1, fun _ => by decide⟩
  · have c' := of_decide_eq_false (Bool.eq_false_iff.mpr c1)
    walk_at "vc"
    refine ite2 (fun c2 => ?_) (fun c2 => ?_)
    · have c'' := of_decide_eq_true c2
      walk_at "vc"
      have x1 := l2.mp c''
      exact k _ ⟨fun _ => x1, fun _ => by decide⟩ ⟨fun z => absurd z (by decide), fun z => by grind⟩
    · have c'' := of_decide_eq_false (Bool.eq_false_iff.mpr c2)
      walk_at "vc"
      exact k _ ⟨fun z => absurd z (by decide), fun z => absurd (l2.mpr z) c''⟩ ⟨fun z => absurd z (by decide), fun z => absurd (l1.mpr z) c'⟩
theorem sc_size : FnScope ["one"] ["one"] (defScope s_size) := ⟨rfl, rfl, rfl, by decide +kernel, rfl, by decide +kernel, by decide +kernel⟩
theorem ok_size (F : Fun K "size" "size" s_size f fd) (T : Txt mg) : FnOk P w K mg base CX0 1 f fd ["one"] spSizeQ := by
  refine F.ok sc_size (fun vs H Q E h => ?_) (fun cdv A outer s H vs Q E hr h => ?_)
  · obtain ⟨p, q, n, rfl, _⟩ := h
    rfl
  obtain ⟨p, q, n, rfl, ⟨a, b, hp, hq, za, zb⟩, k⟩ := h
  refine Jd.go ⟨_, (Jd.pss_one (Jd.ps_ret (Jd.pe_tup (Jd.pa_cons (Jd.pe_callB absC rfl T.abs_ PyProof.Rows.boot_abs (Jd.pa_cons (Jd.pe_ix (ixT K) (Jd.pv 0) Jd.pe_int (fun _ _ => rfl)) Jd.pa_nil st_S) (he := st_S) (hpl := any0)) (Jd.pa_cons (Jd.pe_ix (ixT K) (Jd.pv 0) Jd.pe_int (fun _ _ => rfl)) Jd.pa_nil st_S) st_K)))), ?_⟩
  walk_at "vc"
  rw [abs_cast]
  refine r_new (mk := .tup) (by simp) fun p1 H1 s1 n1 e1 => ?_
  exact k p1 H1 s1 ⟨_, _, e1, hq.abs, za.of_le (by omega), zb⟩
theorem sc_loose_stand : FnScope ["one", "mid", "last"] ["one", "mid", "last"] (defScope s_loose_stand) := ⟨rfl, rfl, rfl, by decide +kernel, rfl, by decide +kernel, by decide +kernel⟩
theorem ok_loose_stand (F : Fun K "loose_stand" "loose_stand" s_loose_stand f fd) (D_loose_minus : Dn P w K mg base 1 "loose_minus" ["one", "other"] (spTwo (· - ·) 1)) (D_loose_along : Dn P w K mg base 3 "loose_along" ["steep", "sample", "moment"] spLalong) (D_loose_slope : Dn P w K mg base 3 "loose_slope" ["one", "other"] spLslope) :
    FnOk P w K mg base CX0 4 f fd ["one", "mid", "last"] spLstand := by
  refine F.ok sc_loose_stand (fun vs H Q E h => ?_) (fun cdv A outer s H vs Q E hr h => ?_)
  · obtain ⟨p1, p2, p3, t1, t2, t3, q1, q2, q3, n, rfl, _⟩ := h
    rfl
  obtain ⟨p1, p2, p3, t1, t2, t3, q1, q2, q3, n, rfl, h1, h2, h3, ht, hn, k⟩ := h
  obtain ⟨v2, e2, f2, z2⟩ := id h2
  refine Jd.go ⟨_, (Jd.pss_one (Jd.ps_ret (Jd.pe_dn D_loose_minus (hr.mono (by decide)) rfl (Jd.pa_cons (Jd.pe_ix (ixT K) (Jd.pv 1) Jd.pe_int (fun _ _ => rfl)) (Jd.pa_cons (Jd.pe_dn D_loose_along (hr.mono (by decide)) rfl (Jd.pa_cons (Jd.pe_dn D_loose_slope (hr.mono (by decide)) rfl (Jd.pa_cons (Jd.pv 0) (Jd.pa_cons (Jd.pv 2) Jd.pa_nil st_N) st_N) (he := st_N) (hpl := (anyc st_N any0))) (Jd.pa_cons (Jd.pv 0) (Jd.pa_cons (Jd.pe_ix (ixT K) (Jd.pv 1) Jd.pe_int (fun _ _ => rfl)) Jd.pa_nil st_S) st_N) st_K) (he := st_K) (hpl := (anyc st_N (anyc st_S any0)))) Jd.pa_nil st_K) st_S) (he := st_S) (hpl := (anyc st_K any0))))), ?_⟩
  walk_at "vc"
  refine ⟨p1, p3, t1, t3, q1, q3, n, rfl, h1, h3, by omega, hn, fun x H1 s1 e1 => ?_⟩
  have e21 := s1 _ _ e2
  walk_at "vc"
  refine ⟨x, p1, _, q1, t1, t2, _, n, rfl, e1, h1.up s1, z2, by omega, by omega, fun y H2 s2 e22 => ?_⟩
  walk_at "vc"
  refine ⟨v2, y, q2, _, n, _, rfl, (f2.up (s1.trans s2)).qt, e22, by omega, fun z H3 s3 e3 => ?_⟩
  refine k z H3 (s1.trans (s2.trans s3)) ?_
  have hne : (t1 : Rat) ≠ (t3 : Rat) := fun z => by
    have := Rat.intCast_inj.mp z
    omega
  have e : q1 + (q3 - q1) / ((t3 - t1 : Int) : Rat) * ((t2 - t1 : Int) : Rat) = chord t1 q1 t2 t3 q3 := by
    rw [Rat.intCast_sub, Rat.intCast_sub]
    exact chord_along hne
  rw [e] at e3
  exact e3.mono (by omega)
theorem sc_pinched : FnScope ["one", "mid", "last", "bound"] ["one", "mid", "last", "bound"] (defScope s_pinched) := ⟨rfl, rfl, rfl, by decide +kernel, rfl, by decide +kernel, by decide +kernel⟩
theorem ok_pinched (F : Fun K "pinched" "pinched" s_pinched f fd) (D_order : Dn P w K mg base 1 "order" ["one", "other"] spOrderQ) (D_size : Dn P w K mg base 1 "size" ["one"] spSizeQ) (D_loose_stand : Dn P w K mg base 4 "loose_stand" ["one", "mid", "last"] spLstand) (D_loose_times : Dn P w K mg base 1 "loose_times" ["one", "other"] (spTwo (· * ·) 0)) :
    FnOk P w K mg base CX0 5 f fd ["one", "mid", "last", "bound"] spPinched := by
  refine F.ok sc_pinched (fun vs H Q E h => ?_) (fun cdv A outer s H vs Q E hr h => ?_)
  · obtain ⟨p1, p2, p3, pb, t1, t2, t3, q1, q2, q3, β, n, m, rfl, _⟩ := h
    rfl
  obtain ⟨p1, p2, p3, pb, t1, t2, t3, q1, q2, q3, β, n, m, rfl, h1, h2, h3, hb, ht, hn, hm, k⟩ := h
  refine Jd.go ⟨_, (Jd.pss_one (Jd.ps_ret (Jd.pe_cmpR op_gt (Jd.pe_dn D_order (hr.mono (by decide)) rfl (Jd.pa_cons (Jd.pe_dn D_size (hr.mono (by decide)) rfl (Jd.pa_cons (Jd.pe_dn D_loose_stand (hr.mono (by decide)) rfl (Jd.pa_cons (Jd.pv 0) (Jd.pa_cons (Jd.pv 1) (Jd.pa_cons (Jd.pv 2) Jd.pa_nil st_N) st_N) st_N) (he := st_N) (hpl := (anyc st_N (anyc st_N any0)))) Jd.pa_nil st_K) (he := st_K) (hpl := any0)) (Jd.pa_cons (Jd.pe_dn D_loose_times (hr.mono (by decide)) rfl (Jd.pa_cons (Jd.pe_tup (Jd.pa_cons Jd.pe_int (Jd.pa_cons Jd.pe_int Jd.pa_nil st_C) st_C)) (Jd.pa_cons (Jd.pv 3) Jd.pa_nil st_N) st_T) (he := st_T) (hpl := (anyc st_N any0))) Jd.pa_nil st_K) st_K) (he := st_K) (hpl := (anyc st_K any0))) Jd.pe_int (nomark _)))), ?_⟩
  walk_at "vc"
  refine ⟨p1, p2, p3, t1, t2, t3, q1, q2, q3, n, rfl, h1, h2, h3, ht, hn, fun x H1 s1 e1 => ?_⟩
  walk_at "vc"
  refine ⟨x, _, _, rfl, e1, fun y H2 s2 e2 => ?_⟩
  walk_at "vc"
  refine r_new (mk := .tup) (by simp) fun u H3 s3 n3 e3 => ?_
  walk_at "vc"
  refine ⟨u, pb, _, _, 2, m, rfl, whole_at e3 (by decide) (by decide), hb.up (s1.trans (s2.trans s3)), by omega, fun v H4 s4 e4 => ?_⟩
  walk_at "vc"
  refine ⟨y, v, _, _, _, _, rfl, e2.up (s3.trans s4), e4, by omega, fun o o1 o2 => ?_⟩
  walk_at "vc"
  refine k _ H4 (s1.trans (s2.trans (s3.trans s4))) ?_
  rw [decide_eq_true_eq]
  exact o1
end
/-! ### the law's own chord, sizes, order -/
def Sa2 (H : Hp) (p : Addr) (m : Int) (q : Rat) (nt nv : Nat) : Prop := ∃ v : Addr, H p = some (.tup [.int m, .ref v]) ∧ FrAt H v q nv ∧ Sz nt m
theorem Sa2.up {H H' : Hp} {p : Addr} {m : Int} {q : Rat} {nt nv : Nat} (f : Sa2 H p m q nt nv) (s : Same H H') : Sa2 H' p m q nt nv := let ⟨v, e, f, z⟩ := f; ⟨v, s _ _ e, f.up s, z⟩
theorem Sa2.sa {H : Hp} {p : Addr} {m : Int} {q : Rat} {nt nv n : Nat} (f : Sa2 H p m q nt nv) (h1 : nt ≤ n) (h2 : nv ≤ n) : SaAt H p m q n := let ⟨v, e, f, z⟩ := f; ⟨v, e, f.mono h2, z.mono h1⟩
def spChord : Sp := fun vs H Q _ => ∃ (p r : Addr) (u t t' : Int) (q q' : Rat) (nt nv : Nat), vs = [.ref p, .int u, .ref r] ∧ Sa2 H p t q nt nv ∧ Sa2 H r t' q' nt nv ∧ Sz nt u ∧ t < t' ∧ 2 * nv + 3 * nt + 4 ≤ 8000 ∧
  ∀ (z : Addr) (H' : Hp), Same H H' → FrAt H' z (chord t q u t' q') (2 * nv + 3 * nt + 4) → Q (.ref z) H'
def spSizeF : Sp := fun vs H Q _ => ∃ (p : Addr) (q : Rat) (n : Nat), vs = [.ref p] ∧ FrAt H p q n ∧ ∀ (r : Addr) (H' : Hp), Same H H' → FrAt H' r (rabs q) n → Q (.ref r) H'
def spLess : Sp := fun vs H Q _ => ∃ (p r : Addr) (q q' : Rat) (m n : Nat), vs = [.ref p, .ref r] ∧ QtAt H p q m ∧ QtAt H r q' n ∧ m + n ≤ 100000 ∧ ∀ b : Bool, (b = true ↔ q < q') → Q (.bl b) H
section
variable {P : Program} {w : World} {K : PySem.W.Frag} {mg : Str → Option Value} {base : Heap} {f : Addr} {fd : FuncData}
theorem sc_law_less : FnScope ["_law_one", "_law_other"] ["_law_one", "_law_other"] (defScope s_law_less) := ⟨rfl, rfl, rfl, by decide +kernel, rfl, by decide +kernel, by decide +kernel⟩
theorem ok_law_less (F : Fun K "_law_less" "_law_less" s_law_less f fd) : FnOk P w K mg base CX0 1 f fd ["_law_one", "_law_other"] spLess := by
  refine F.ok sc_law_less (fun vs H Q E h => ?_) (fun cdv A outer s H vs Q E hr h => ?_)
  · obtain ⟨p, r, q, q', m, n, rfl, _⟩ := h
    rfl
  obtain ⟨p, r, q, q', m, n, rfl, ⟨a, b, hp, hq, za, zb⟩, ⟨c, d, hr', hq', zc, zd⟩, hn, k⟩ := h
  refine Jd.go ⟨_, (Jd.pss_one (Jd.ps_ret (Jd.pe_cmpR op_lt (Jd.pe_op op_mulB (Jd.pe_ix (ixT K) (Jd.pv 0) Jd.pe_int (fun _ _ => rfl)) (Jd.pe_ix (ixT K) (Jd.pv 1) Jd.pe_int (fun _ _ => rfl))) (Jd.pe_op op_mulB (Jd.pe_ix (ixT K) (Jd.pv 1) Jd.pe_int (fun _ _ => rfl)) (Jd.pe_ix (ixT K) (Jd.pv 0) Jd.pe_int (fun _ _ => rfl))) (nomark _)))), ?_⟩
  walk_at "vc"
  refine r_I (mulOk za zd (by omega)) ?_
  walk_at "vc"
  refine r_I (mulOk zc zb (by omega)) ?_
  walk_at "vc"
  exact k _ (by rw [decide_eq_true_eq]; exact hq.lt_iff hq')
theorem sc_law_chord : FnScope ["_law_one", "_law_when", "_law_last", "_law_left", "_law_right", "_law_both"] ["_law_one", "_law_when", "_law_last"] (defScope s_law_chord) := ⟨rfl, rfl, rfl, by decide +kernel, rfl, by decide +kernel, by decide +kernel⟩
theorem ok_law_chord (F : Fun K "_law_chord" "_law_chord" s_law_chord f fd) (D_law_by : Dn P w K mg base 3 "_law_by" ["_law_one", "_law_other"] (spTwoF (· * ·) 0)) (D_law_plus : Dn P w K mg base 3 "_law_plus" ["_law_one", "_law_other"] (spTwoF (· + ·) 1)) (D_law_ratio : Dn P w K mg base 1 "_law_ratio" ["_law_top", "_law_bottom"] spRatio) :
    FnOk P w K mg base CX0 4 f fd ["_law_one", "_law_when", "_law_last"] spChord := by
  refine F.ok sc_law_chord (fun vs H Q E h => ?_) (fun cdv A outer s H vs Q E hr h => ?_)
  · obtain ⟨p, r, u, t, t', q, q', nt, nv, rfl, _⟩ := h
    rfl
  obtain ⟨p, r, u, t, t', q, q', nt, nv, rfl, ⟨v, ep, fv, zt⟩, ⟨v', er, fv', zt'⟩, zu, ht, hn, k⟩ := h
  refine Jd.go ⟨_, (Jd.pss_cons (Jd.ps_set (i := 3) sc_law_chord.nd rfl (Or.inl rfl) (Jd.pe_dn D_law_by (hr.mono (by decide)) rfl (Jd.pa_cons (Jd.pe_ix (ixT K) (Jd.pv 0) Jd.pe_int (fun _ _ => rfl)) (Jd.pa_cons (Jd.pe_tup (Jd.pa_cons (Jd.pe_op op_sub (Jd.pe_ix (ixT K) (Jd.pv 2) Jd.pe_int (fun _ _ => rfl)) (Jd.pv 1)) (Jd.pa_cons Jd.pe_int Jd.pa_nil st_C) st_B)) Jd.pa_nil st_T) st_S) (he := st_S) (hpl := (anyc st_T any0))) (hs := sw_K))
      (Jd.pss_cons (Jd.ps_set (i := 4) sc_law_chord.nd rfl (Or.inl rfl) (Jd.pe_dn D_law_by (hr.mono (by decide)) rfl (Jd.pa_cons (Jd.pe_ix (ixT K) (Jd.pv 2) Jd.pe_int (fun _ _ => rfl)) (Jd.pa_cons (Jd.pe_tup (Jd.pa_cons (Jd.pe_op op_sub (Jd.pv 1) (Jd.pe_ix (ixT K) (Jd.pv 0) Jd.pe_int (fun _ _ => rfl))) (Jd.pa_cons Jd.pe_int Jd.pa_nil st_C) st_B)) Jd.pa_nil st_T) st_S) (he := st_S) (hpl := (anyc st_T any0))) (hs := sw_K))
      (Jd.pss_cons (Jd.ps_set (i := 5) sc_law_chord.nd rfl (Or.inl rfl) (Jd.pe_dn D_law_plus (hr.mono (by decide)) rfl (Jd.pa_cons (Jd.pv 3) (Jd.pa_cons (Jd.pv 4) Jd.pa_nil st_N) st_N) (he := st_N) (hpl := (anyc st_N any0))) (hs := sw_K))
      (Jd.pss_one (Jd.ps_ret (Jd.pe_dn D_law_ratio (hr.mono (by decide)) rfl (Jd.pa_cons (Jd.pe_ix (ixT K) (Jd.pv 5) Jd.pe_int (fun _ _ => rfl)) (Jd.pa_cons (Jd.pe_op op_mulB (Jd.pe_ix (ixT K) (Jd.pv 5) Jd.pe_int (fun _ _ => rfl)) (Jd.pe_op op_sub (Jd.pe_ix (ixT K) (Jd.pv 2) Jd.pe_int (fun _ _ => rfl)) (Jd.pe_ix (ixT K) (Jd.pv 0) Jd.pe_int (fun _ _ => rfl)))) Jd.pa_nil st_B) st_S) (he := st_S) (hpl := (anyc st_B any0)))))))), ?_⟩
  walk_at "vc"
  refine r_new (mk := .tup) (by simp) fun y1 H1 s1 n1 e1 => ?_
  walk_at "vc"
  refine ⟨v, y1, _, _, nv, nt + 1, rfl, (fv.up s1).qt, whole_at e1 (zt'.sub zu) (by omega), by omega, fun le H2 s2 e2 => ?_⟩
  have s02 := s1.trans s2
  have ep2 := s02 _ _ ep
  have er2 := s02 _ _ er
  walk_at "vc"
  refine r_new (mk := .tup) (by simp) fun y3 H3 s3 n3 e3 => ?_
  walk_at "vc"
  refine ⟨v', y3, _, _, nv, nt + 1, rfl, (fv'.up (s02.trans s3)).qt, whole_at e3 (zu.sub zt) (by omega), by omega, fun ri H4 s4 e4 => ?_⟩
  walk_at "vc"
  refine ⟨le, ri, _, _, _, _, rfl, (e2.up (s3.trans s4)).qt, e4.qt, by omega, fun bo H5 s5 e5 => ?_⟩
  obtain ⟨tb, bb, eb, fb, ztb, zbb⟩ := e5
  have s05 := s02.trans (s3.trans (s4.trans s5))
  have ep5 := s05 _ _ ep
  have er5 := s05 _ _ er
  have zd : Sz (nt + 1) (t' - t) := zt'.sub zt
  walk_at "vc"
  refine r_I (mulOk zbb zd (by omega)) ?_
  walk_at "vc"
  have bp : 0 < bb * (t' - t) := Int.mul_pos (by have := fb.pos; omega) (by omega)
  refine ⟨_, _, rfl, bp, (zbb.mul zd).mono (by omega), fun z tz bz H6 s6 e6 lo => ?_⟩
  refine k z H6 (s05.trans s6) ⟨tz, bz, e6, ?_, (ztb.of_le lo.tb).mono (by omega), ((zbb.mul zd).of_le lo.bb).mono (by omega)⟩
  have fr := Fr.of_low lo (by omega) (fb.qt.div (s := t' - t) (by omega)).eq
  have e : (q * ((t' - u : Int) : Rat) + q' * ((u - t : Int) : Rat)) / ((t' - t : Int) : Rat) = chord t q u t' q' := by
    simp only [Rat.intCast_sub]
    rfl
  rw [e] at fr
  exact fr
end

/-! ### drawing by a row -/
theorem pick {zs : List Int} {i : Int} (n : Nat) (hz : ∀ z ∈ zs, Sz n z) (h0 : 0 ≤ i) (h1 : i < (zs.length : Int)) : ∃ v : Int, atI (zs.map V.int) i = some (.int v) ∧ Sz n v := by
  have hk : i.toNat < zs.length := by omega
  exact ⟨zs[i.toNat], at_ints (List.getElem?_eq_getElem hk) (by omega), hz _ (List.getElem_mem hk)⟩
theorem pickP {zs : List Int} {i : Int} (P : Int → Prop) (hz : ∀ z ∈ zs, P z) (h0 : 0 ≤ i) (h1 : i < (zs.length : Int)) : ∃ v : Int, atI (zs.map V.int) i = some (.int v) ∧ P v := by
  have hk : i.toNat < zs.length := by omega
  exact ⟨zs[i.toNat], at_ints (List.getElem?_eq_getElem hk) (by omega), hz _ (List.getElem_mem hk)⟩
theorem row_get {xs zs : List Int} (hlen : xs.length = zs.length) (hxs : ∀ (j : Nat) (x z : Int), xs[j]? = some x → zs[j]? = some z → 0 ≤ x ∧ x < z) (j : Nat) {z : Int} (ez : zs[j]? = some z) : ∃ x, xs[j]? = some x ∧ 0 ≤ x ∧ x < z := by
  have hj := (List.getElem?_eq_some_iff.mp ez).1
  rw [← hlen] at hj
  exact ⟨xs[j], List.getElem?_eq_getElem hj, hxs j _ z (List.getElem?_eq_getElem hj) ez⟩
theorem of_low' {T B t b : Int} (h : Low T B t b) (hB : B ≠ 0) : Fr t b ((T : Rat) / (B : Rat)) := by
  refine Fr.of_low h hB ?_
  have := cast_ne hB
  grind
theorem sz_lt {n : Nat} {x : Int} (k : Nat) (h : x.natAbs < k) (hk : k ≤ 2 ^ n := by decide) : Sz n x := Sz.of_lt h hk
/-- a fraction of a drawn top times a scale, over a drawn bottom -/
theorem frac_drawn {x y z : Int} {H : Hp} {Q : VK} (h0 : 0 ≤ x) (h1 : x < 1000) (hz : Sz 200 z) (h2 : 0 ≤ y) (h3 : y < 30) (kk : ∀ (p : Addr) (H' : Hp), Same H H' → FrAt H' p (((x - 500) * z : Int) / ((y + 1 : Int) : Rat)) 210 → Q (.ref p) H') : spRatio ([.int ((x - 500) * z), .int (y + 1)] ++ []) H Q E0 := by
  have zm : Sz 210 ((x - 500) * z) := (sz_lt (n := 10) (x := x - 500) 1000 (by omega)).mul hz
  have zy : Sz 210 (y + 1) := sz_lt 1000 (by omega)
  exact ⟨_, _, rfl, by omega, zy.mono (by decide), fun p t b H' s e lo => kk p H' s ⟨t, b, e, of_low' lo (by omega), zm.of_le lo.tb, zy.of_le lo.bb⟩⟩
theorem is_fr {H : Hp} {p : Addr} {q : Rat} {n : Nat} {Q : VK} (f : FrAt H p q n) (hn : n ≤ 8000) (k : ∀ H', Same H H' → Q (.bl true) H') : spIs ([.ref p] ++ []) H Q E0 := by
  obtain ⟨t, b, e, f, zt, zb⟩ := f
  refine ⟨p, t, b, rfl, e, zb.mono hn, fun r H' s hr => ?_⟩
  obtain rfl : r = true := hr.mpr ⟨f.pos, f.co⟩
  exact k H' s
theorem r_unpack2 {σ : St} {H : Hp} {K : PySem.W.Frag} {p : Addr} {x y : V} {i j : Nat} {R : St → Hp → Prop} (h : H p = some (.tup [x, y])) (q : R ((σ.set i (some x)).set j (some y)) H) : gTup K 2 (gCons (gName i) (gCons (gName j) gNil)) (.ref p) σ H R :=
  ⟨p, _, rfl, SqT.of h, rfl, x, _, rfl, y, _, rfl, rfl, q⟩

/-! ### three drawn samples -/
def spThree (K : PySem.W.Frag) : Sp := fun vs H Q _ => ∃ (a : Addr) (ns : List Int) (i : Int), vs = [.ref a, .int i] ∧ SqL K H a (ns.map V.int) ∧ 0 ≤ i ∧ i < 900 ∧ ∀ (l p1 p2 p3 : Addr) (t1 t2 t3 : Int) (q1 q2 q3 : Rat) (H' : Hp), Same H H' →
  H' l = some (.lst [.ref p1, .ref p2, .ref p3]) → Sa2 H' p1 t1 q1 148 210 → Sa2 H' p2 t2 q2 148 900 → Sa2 H' p3 t3 q3 148 210 → t1 < t2 → t2 < t3 → Q (.ref l) H'
theorem Sa2.mono {H : Hp} {p : Addr} {m : Int} {q : Rat} {nt nv nv' : Nat} (f : Sa2 H p m q nt nv) (h : nv ≤ nv') : Sa2 H p m q nt nv' := let ⟨v, e, f, z⟩ := f; ⟨v, e, f.mono h, z⟩
section
variable {P : Program} {w : World} {K : PySem.W.Frag} {mg : Str → Option Value} {base : Heap} {f : Addr} {fd : FuncData}
theorem sc_law_three : FnScope ["_law_script", "_law_place", "_law_some", "_law_wide", "_law_tall", "_law_start", "_law_one", "_law_mid", "_law_last", "_law_hair"] ["_law_script", "_law_place"] (defScope s_law_three) := ⟨rfl, rfl, rfl, by decide +kernel, rfl, by decide +kernel, by decide +kernel⟩
theorem ok_law_three (F : Fun K "_law_three" "_law_three" s_law_three f fd) (T : Txt mg) (D_law_row : Dn P w K mg base 3 "_law_row" ["_law_script", "_law_place", "_law_sizes"] (spRow K)) (D_law_ratio : Dn P w K mg base 1 "_law_ratio" ["_law_top", "_law_bottom"] spRatio)
    (D_law_plus : Dn P w K mg base 3 "_law_plus" ["_law_one", "_law_other"] (spTwoF (· + ·) 1)) (D_law_chord : Dn P w K mg base 4 "_law_chord" ["_law_one", "_law_when", "_law_last"] spChord) : FnOk P w K mg base CX0 5 f fd ["_law_script", "_law_place"] (spThree K) := by
  refine F.ok sc_law_three (fun vs H Q E h => ?_) (fun cdv A outer s H vs Q E hr h => ?_)
  · obtain ⟨a, ns, i, rfl, _⟩ := h
    rfl
  obtain ⟨a, ns, i, rfl, hS, h0, h1, k⟩ := h
  refine Jd.go ⟨_, (Jd.pss_cons (Jd.ps_set (i := 2) sc_law_three.nd rfl (Or.inl rfl) (Jd.pe_dn D_law_row (hr.mono (by decide)) rfl (Jd.pa_cons (Jd.pv 0) (Jd.pa_cons (Jd.pv 1) (Jd.pa_cons (Jd.pe_lst (Jd.pa_cons Jd.pe_int (Jd.pa_cons Jd.pe_int (Jd.pa_cons Jd.pe_int (Jd.pa_cons Jd.pe_int (Jd.pa_cons Jd.pe_int (Jd.pa_cons Jd.pe_int (Jd.pa_cons Jd.pe_int (Jd.pa_cons Jd.pe_int (Jd.pa_cons Jd.pe_int (Jd.pa_cons Jd.pe_int (Jd.pa_cons Jd.pe_int (Jd.pa_cons Jd.pe_int Jd.pa_nil st_C) st_C) st_C) st_C) st_C) st_C) st_C) st_C) st_C) st_C) st_C) st_C)) Jd.pa_nil st_L) st_N) st_N) (he := st_N) (hpl := (anyc st_N (anyc st_L any0)))) (hs := sw_K))
      (Jd.pss_cons (Jd.ps_set (i := 3) sc_law_three.nd rfl (Or.inl rfl) (Jd.pe_ix (ixL K) (Jd.pe_lst (Jd.pa_cons Jd.pe_int (Jd.pa_cons Jd.pe_int (Jd.pa_cons Jd.pe_int (Jd.pa_cons (Jd.pe_op op_add (Jd.pe_op op_pow Jd.pe_int Jd.pe_int) Jd.pe_int) (Jd.pa_cons (Jd.pe_op op_add (Jd.pe_op op_pow Jd.pe_int Jd.pe_int) Jd.pe_int) Jd.pa_nil st_B) st_B) st_C) st_C) st_C)) (Jd.pe_ix (ixL K) (Jd.pv 2) Jd.pe_int (fun _ _ => rfl)) (fun _ _ => rfl)) (hs := sw_S))
      (Jd.pss_cons (Jd.ps_set (i := 4) sc_law_three.nd rfl (Or.inl rfl) (Jd.pe_ix (ixL K) (Jd.pe_lst (Jd.pa_cons Jd.pe_int (Jd.pa_cons Jd.pe_int (Jd.pa_cons Jd.pe_int (Jd.pa_cons (Jd.pe_op op_add (Jd.pe_op op_pow Jd.pe_int Jd.pe_int) Jd.pe_int) (Jd.pa_cons (Jd.pe_op op_add (Jd.pe_op op_pow Jd.pe_int Jd.pe_int) Jd.pe_int) Jd.pa_nil st_B) st_B) st_C) st_C) st_C)) (Jd.pe_ix (ixL K) (Jd.pv 2) Jd.pe_int (fun _ _ => rfl)) (fun _ _ => rfl)) (hs := sw_S))
      (Jd.pss_cons (Jd.ps_set (i := 5) sc_law_three.nd rfl (Or.inl rfl) (Jd.pe_op op_mulB (Jd.pe_op op_sub (Jd.pe_ix (ixL K) (Jd.pv 2) Jd.pe_int (fun _ _ => rfl)) Jd.pe_int) (Jd.pv 3)) (hs := sw_B))
      (Jd.pss_cons (Jd.ps_set (i := 6) sc_law_three.nd rfl (Or.inl rfl) (Jd.pe_tup (Jd.pa_cons (Jd.pv 5) (Jd.pa_cons (Jd.pe_dn D_law_ratio (hr.mono (by decide)) rfl (Jd.pa_cons (Jd.pe_op op_mulB (Jd.pe_op op_sub (Jd.pe_ix (ixL K) (Jd.pv 2) Jd.pe_int (fun _ _ => rfl)) Jd.pe_int) (Jd.pv 4)) (Jd.pa_cons (Jd.pe_op op_add (Jd.pe_ix (ixL K) (Jd.pv 2) Jd.pe_int (fun _ _ => rfl)) Jd.pe_int) Jd.pa_nil st_B) st_B) (he := st_B) (hpl := (anyc st_B any0))) Jd.pa_nil st_K) st_N)) (hs := sw_T))
      (Jd.pss_cons (Jd.ps_set (i := 7) sc_law_three.nd rfl (Or.inl rfl) (Jd.pe_tup (Jd.pa_cons (Jd.pe_op op_add (Jd.pe_op op_add (Jd.pv 5) Jd.pe_int) (Jd.pe_op op_mulB (Jd.pe_ix (ixL K) (Jd.pv 2) Jd.pe_int (fun _ _ => rfl)) (Jd.pv 3))) (Jd.pa_cons (Jd.pe_dn D_law_ratio (hr.mono (by decide)) rfl (Jd.pa_cons (Jd.pe_op op_mulB (Jd.pe_op op_sub (Jd.pe_ix (ixL K) (Jd.pv 2) Jd.pe_int (fun _ _ => rfl)) Jd.pe_int) (Jd.pv 4)) (Jd.pa_cons (Jd.pe_op op_add (Jd.pe_ix (ixL K) (Jd.pv 2) Jd.pe_int (fun _ _ => rfl)) Jd.pe_int) Jd.pa_nil st_B) st_B) (he := st_B) (hpl := (anyc st_B any0))) Jd.pa_nil st_K) st_B)) (hs := sw_T))
      (Jd.pss_cons (Jd.ps_set (i := 8) sc_law_three.nd rfl (Or.inl rfl) (Jd.pe_tup (Jd.pa_cons (Jd.pe_op op_add (Jd.pe_op op_add (Jd.pe_ix (ixT K) (Jd.pv 7) Jd.pe_int (fun _ _ => rfl)) Jd.pe_int) (Jd.pe_op op_mulB (Jd.pe_ix (ixL K) (Jd.pv 2) Jd.pe_int (fun _ _ => rfl)) (Jd.pv 3))) (Jd.pa_cons (Jd.pe_dn D_law_ratio (hr.mono (by decide)) rfl (Jd.pa_cons (Jd.pe_op op_mulB (Jd.pe_op op_sub (Jd.pe_ix (ixL K) (Jd.pv 2) Jd.pe_int (fun _ _ => rfl)) Jd.pe_int) (Jd.pv 4)) (Jd.pa_cons (Jd.pe_op op_add (Jd.pe_ix (ixL K) (Jd.pv 2) Jd.pe_int (fun _ _ => rfl)) Jd.pe_int) Jd.pa_nil st_B) st_B) (he := st_B) (hpl := (anyc st_B any0))) Jd.pa_nil st_K) st_B)) (hs := sw_T))
      (Jd.pss_cons (Jd.ps_set (i := 9) sc_law_three.nd rfl (Or.inl rfl) (Jd.pe_lst (Jd.pa_cons (Jd.pe_tup (Jd.pa_cons Jd.pe_int (Jd.pa_cons Jd.pe_int Jd.pa_nil st_C) st_C)) (Jd.pa_cons (Jd.pe_tup (Jd.pa_cons Jd.pe_int (Jd.pa_cons (Jd.pe_op op_pow Jd.pe_int Jd.pe_int) Jd.pa_nil st_B) st_C)) (Jd.pa_cons (Jd.pe_tup (Jd.pa_cons (Jd.pe_un un_neg Jd.pe_int) (Jd.pa_cons (Jd.pe_op op_pow Jd.pe_int Jd.pe_int) Jd.pa_nil st_B) st_U)) Jd.pa_nil st_T) st_T) st_T)) (hs := sw_L))
      (Jd.pss_cons (Jd.ps_if (Jd.pt_cmpR op_lt (Jd.pe_ix (ixL K) (Jd.pv 2) Jd.pe_int (fun _ _ => rfl)) Jd.pe_int (nomark _))
      (Jd.pss_one (Jd.ps_set (i := 7) sc_law_three.nd rfl (Or.inl rfl) (Jd.pe_tup (Jd.pa_cons (Jd.pe_ix (ixT K) (Jd.pv 7) Jd.pe_int (fun _ _ => rfl)) (Jd.pa_cons (Jd.pe_dn D_law_plus (hr.mono (by decide)) rfl (Jd.pa_cons (Jd.pe_dn D_law_chord (hr.mono (by decide)) rfl (Jd.pa_cons (Jd.pv 6) (Jd.pa_cons (Jd.pe_ix (ixT K) (Jd.pv 7) Jd.pe_int (fun _ _ => rfl)) (Jd.pa_cons (Jd.pv 8) Jd.pa_nil st_N) st_S) st_N) (he := st_N) (hpl := (anyc st_S (anyc st_N any0)))) (Jd.pa_cons (Jd.pe_ix (ixL K) (Jd.pv 9) (Jd.pe_ix (ixL K) (Jd.pv 2) Jd.pe_int (fun _ _ => rfl)) (fun _ _ => rfl)) Jd.pa_nil st_S) st_K) (he := st_K) (hpl := (anyc st_S any0))) Jd.pa_nil st_K) st_S)) (hs := sw_T)))
      Jd.pss_nil)
      (Jd.pss_one (Jd.ps_ret (Jd.pe_lst (Jd.pa_cons (Jd.pv 6) (Jd.pa_cons (Jd.pv 7) (Jd.pa_cons (Jd.pv 8) Jd.pa_nil st_N) st_N) st_N))))))))))))), ?_⟩
  walk_at "vc"
  refine r_new (mk := .lst) (by simp) fun l1 H1 s1 n1 e1 => ?_
  walk_at "vc"
  refine ⟨a, ns, i, l1, [1000, 40, 40, 5, 1000, 1000, 1000, 12, 12, 12, 5, 6], rfl, s1.seq hS, h0, h1, e1, by decide, by decide, fun lw xs H2 s2 n2 e2 hlen hxs => ?_⟩
  obtain ⟨x0, g0, a0, b0⟩ := row_get hlen hxs 0 rfl
  obtain ⟨x1, g1, a1, b1⟩ := row_get hlen hxs 1 rfl
  obtain ⟨x2, g2, a2, b2⟩ := row_get hlen hxs 2 rfl
  obtain ⟨x3, g3, a3, b3⟩ := row_get hlen hxs 3 rfl
  obtain ⟨x4, g4, a4, b4⟩ := row_get hlen hxs 4 rfl
  obtain ⟨x5, g5, a5, b5⟩ := row_get hlen hxs 5 rfl
  obtain ⟨x6, g6, a6, b6⟩ := row_get hlen hxs 6 rfl
  obtain ⟨x7, g7, a7, b7⟩ := row_get hlen hxs 7 rfl
  obtain ⟨x8, g8, a8, b8⟩ := row_get hlen hxs 8 rfl
  obtain ⟨x9, g9, a9, b9⟩ := row_get hlen hxs 9 rfl
  obtain ⟨x10, g10, a10, b10⟩ := row_get hlen hxs 10 rfl
  obtain ⟨x11, g11, a11, b11⟩ := row_get hlen hxs 11 rfl
  have w : ∀ {H : Hp}, Same H2 H → H lw = some (.lst (xs.map V.int)) := fun s => s _ _ e2
  walk_at "vc"
  refine r_new (mk := .lst) (by simp) fun l3 H3 s3 n3 e3 => ?_
  walk_at "vc"
  refine r_l (w s3) (at_ints g3 rfl) ?_
  obtain ⟨wi, ewi, zwi, wi1⟩ := pickP (zs := [1, 1, 7, 10 ^ (9 : Int).toNat + 7, 10 ^ (40 : Int).toNat + 9]) (fun z => Sz 134 z ∧ 1 ≤ z) (by decide +kernel) a3 b3
  refine r_l e3 ewi ?_
  walk_at "vc"
  refine r_new (mk := .lst) (by simp) fun l4 H4 s4 n4 e4 => ?_
  have s24 := s3.trans s4
  walk_at "vc"
  refine r_l (w s24) (at_ints g10 rfl) ?_
  obtain ⟨ta, eta, zta⟩ := pick (zs := [1, 1, 7, 10 ^ (9 : Int).toNat + 7, 10 ^ (60 : Int).toNat + 7]) 200 (by decide +kernel) a10 b10
  refine r_l e4 eta ?_
  have z0 : Sz 144 ((x0 - 500) * wi) := (sz_lt (n := 10) (x := x0 - 500) 1000 (by omega)).mul zwi
  have z1 : Sz 144 (x1 * wi) := (sz_lt (n := 10) (x := x1) 1000 (by omega)).mul zwi
  have z2 : Sz 144 (x2 * wi) := (sz_lt (n := 10) (x := x2) 1000 (by omega)).mul zwi
  have p1' : 0 ≤ x1 * wi := Int.mul_nonneg a1 (by omega)
  have p2' : 0 ≤ x2 * wi := Int.mul_nonneg a2 (by omega)
  walk_at "vc"
  refine r_l (w s24) (at_ints g0 rfl) ?_
  walk_at "vc"
  refine r_I (mulL (by omega) (by omega)) ?_
  walk_at "vc"
  refine r_l (w s24) (at_ints g4 rfl) ?_
  walk_at "vc"
  refine r_I (mulL (by omega) (by omega)) ?_
  walk_at "vc"
  refine r_l (w s24) (at_ints g7 rfl) ?_
  walk_at "vc"
  refine frac_drawn a4 b4 zta a7 (by omega) fun v5 H5 s5 f5 => ?_
  walk_at "vc"
  refine r_new (mk := .tup) (by simp) fun p1 H6 s6 n6 e6 => ?_
  have s26 := s24.trans (s5.trans s6)
  walk_at "vc"
  refine r_l (w s26) (at_ints g1 rfl) ?_
  walk_at "vc"
  refine r_I (mulL (by omega) (by omega)) ?_
  walk_at "vc"
  refine r_l (w s26) (at_ints g5 rfl) ?_
  walk_at "vc"
  refine r_I (mulL (by omega) (by omega)) ?_
  walk_at "vc"
  refine r_l (w s26) (at_ints g8 rfl) ?_
  walk_at "vc"
  refine frac_drawn a5 b5 zta a8 (by omega) fun v7 H7 s7 f7 => ?_
  walk_at "vc"
  refine r_new (mk := .tup) (by simp) fun p2 H8 s8 n8 e8 => ?_
  have s68 := s7.trans s8
  have s28 := s26.trans s68
  walk_at "vc"
  refine r_l (w s28) (at_ints g2 rfl) ?_
  walk_at "vc"
  refine r_I (mulL (by omega) (by omega)) ?_
  walk_at "vc"
  refine r_l (w s28) (at_ints g6 rfl) ?_
  walk_at "vc"
  refine r_I (mulL (by omega) (by omega)) ?_
  walk_at "vc"
  refine r_l (w s28) (at_ints g9 rfl) ?_
  walk_at "vc"
  refine frac_drawn a6 b6 zta a9 (by omega) fun v9 H9 s9 f9 => ?_
  walk_at "vc"
  refine r_new (mk := .tup) (by simp) fun p3 H10 s10 n10 e10 => ?_
  have s810 := s9.trans s10
  walk_at "vc"
  refine r_new (mk := .tup) (by simp) fun ha1 H11 s11 n11 e11 => ?_
  walk_at "vc"
  refine r_new (mk := .tup) (by simp) fun ha2 H12 s12 n12 e12 => ?_
  walk_at "vc"
  refine r_new (mk := .tup) (by simp) fun ha3 H13 s13 n13 e13 => ?_
  walk_at "vc"
  refine r_new (mk := .lst) (by simp) fun lh H14 s14 n14 e14 => ?_
  have s1014 := s11.trans (s12.trans (s13.trans s14))
  have s814 := s810.trans s1014
  have s614 := s68.trans s814
  have z01 : Sz 145 ((x0 - 500) * wi + 1) := z0.add (one_sz (by decide))
  have zt2 : Sz 146 ((x0 - 500) * wi + 1 + x1 * wi) := z01.add (z1.mono (by decide))
  have zt3 : Sz 148 ((x0 - 500) * wi + 1 + x1 * wi + 1 + x2 * wi) := (zt2.add (one_sz (by decide))).add (z2.mono (by decide))
  have hp1 : Sa2 H14 p1 _ _ 148 210 := ⟨v5, s614 _ _ e6, f5.up (s6.trans s614), z0.mono (by decide)⟩
  have e814 := s814 _ _ e8
  have hp2 : Sa2 H14 p2 _ _ 148 900 := ⟨v7, e814, (f7.up (s8.trans s814)).mono (by decide), zt2.mono (by decide)⟩
  have hp3 : Sa2 H14 p3 _ _ 148 210 := ⟨v9, s1014 _ _ e10, f9.up (s10.trans s1014), zt3⟩
  have zu : Sz 148 ((x0 - 500) * wi + 1 + x1 * wi) := zt2.mono (by decide)
  have s2'14 := s28.trans s814
  have sAll : Same H H14 := s1.trans (s2.trans s2'14)
  generalize (x0 - 500) * wi = t1 at *
  generalize x1 * wi = d1 at *
  generalize x2 * wi = d2 at *
  walk_at "vc"
  refine r_l (w s2'14) (at_ints g11 rfl) ?_
  walk_at "vc"
  refine ite2 (fun c => ?_) (fun c => ?_)
  · have c' : x11 < 3 := of_decide_eq_true c
    obtain ⟨hh, qh, eh, fh⟩ : ∃ (hh : Addr) (qh : Rat), atI [V.ref ha1, .ref ha2, .ref ha3] x11 = some (.ref hh) ∧ FrAt H14 hh qh 31 := by
      have big : Sz 31 ((10 : Int) ^ (9 : Int).toNat) := by decide +kernel
      have h11 : FrAt H14 ha1 _ 31 := ⟨0, 1, s14 _ _ (s13 _ _ (s12 _ _ e11)), Fr.whole 0, by decide, by decide⟩
      have co : Int.gcd 1 ((10 : Int) ^ (9 : Int).toNat) = 1 := by decide +kernel
      have co' : Int.gcd (-1) ((10 : Int) ^ (9 : Int).toNat) = 1 := by decide +kernel
      have pp : (1 : Int) ≤ (10 : Int) ^ (9 : Int).toNat := by decide +kernel
      have cn := cast_ne (b := (10 : Int) ^ (9 : Int).toNat) (by decide +kernel)
      have h12 : FrAt H14 ha2 (((1 : Int) : Rat) / (((10 : Int) ^ (9 : Int).toNat : Int) : Rat)) 31 := ⟨1, _, s14 _ _ (s13 _ _ e12), ⟨pp, co, by grind⟩, by decide, big⟩
      have h13 : FrAt H14 ha3 (((-1 : Int) : Rat) / (((10 : Int) ^ (9 : Int).toNat : Int) : Rat)) 31 := ⟨-1, _, s14 _ _ e13, ⟨pp, co', by grind⟩, by decide, big⟩
      rcases (show x11 = 0 ∨ x11 = 1 ∨ x11 = 2 by omega) with rfl | rfl | rfl
      · exact ⟨ha1, _, at0, h11⟩
      · exact ⟨ha2, _, at1, h12⟩
      · exact ⟨ha3, _, at2, h13⟩
    walk_at "vc"
    refine ⟨p1, p3, _, _, _, _, _, 148, 210, rfl, hp1, hp3, zu, by omega, by decide, fun z H15 s15 e15 => ?_⟩
    walk_at "vc"
    refine r_l (w (s2'14.trans s15)) (at_ints g11 rfl) ?_
    refine r_l (s15 _ _ e14) eh ?_
    walk_at "vc"
    refine ⟨z, hh, _, _, _, 31, rfl, e15.qt, (fh.up s15).qt, by decide, fun y H16 s16 e16 => ?_⟩
    walk_at "vc"
    refine r_new (mk := .tup) (by simp) fun p4 H17 s17 n17 e17 => ?_
    walk_at "vc"
    refine r_new (mk := .lst) (by simp) fun lr H18 s18 n18 e18 => ?_
    have s1418 := s15.trans (s16.trans (s17.trans s18))
    exact k lr p1 p4 p3 _ _ _ _ _ _ H18 (sAll.trans s1418) e18 (hp1.up s1418) ⟨y, s18 _ _ e17, (e16.up (s17.trans s18)).mono (by decide), zu⟩ (hp3.up s1418) (by omega) (by omega)
  · walk_at "vc"
    refine r_new (mk := .lst) (by simp) fun lr H18 s18 n18 e18 => ?_
    exact k lr p1 p2 p3 _ _ _ _ _ _ H18 (sAll.trans s18) e18 (hp1.up s18) (hp2.up s18) (hp3.up s18) (by omega) (by omega)
end

def spWorst : Sp := fun vs H Q _ => ∃ (l h : Addr) (pf vf hf : Nat → Addr) (tf : Nat → Int) (qf ef : Nat → Rat) (n m : Nat), vs = [.ref l, .ref h] ∧ H l = some (.lst [.ref (pf 0), .ref (pf 1), .ref (pf 2)]) ∧ H h = some (.lst [.ref (hf 0), .ref (hf 1), .ref (hf 2)]) ∧
  (∀ k, k < 3 → H (pf k) = some (.tup [.int (tf k), .ref (vf k)]) ∧ FrAt H (vf k) (qf k) n ∧ FrAt H (hf k) (ef k) m) ∧ n + m + 1 ≤ 8000 ∧
  ∀ (z : Addr) (W : Rat) (H' : Hp), Same H H' → FrAt H' z W (n + m + 1) → (∀ k, k < 3 → rabs (qf k - ef k) ≤ W) → (W = 0 ∨ ∃ k, k < 3 ∧ W = rabs (qf k - ef k)) → Q (.ref z) H'
def spEnds : Sp := fun vs H Q _ => ∃ (l p1 p2 p3 lo hi : Addr) (t1 t2 t3 : Int) (q1 q2 q3 x y : Rat) (n : Nat), vs = [.ref l, .ref lo, .ref hi] ∧ H l = some (.lst [.ref p1, .ref p2, .ref p3]) ∧ Sa2 H p1 t1 q1 148 900 ∧ Sa2 H p2 t2 q2 148 900 ∧ Sa2 H p3 t3 q3 148 900 ∧ t1 < t3 ∧
  FrAt H lo x n ∧ FrAt H hi y n ∧ 2 * n + 3 * 148 + 4 ≤ 8000 ∧ ∀ (z m : Addr) (H' : Hp), Same H H' → H' z = some (.lst [.ref lo, .ref m, .ref hi]) → FrAt H' m (chord t1 x t2 t3 y) (2 * n + 3 * 148 + 4) → Q (.ref z) H'
def spLaw (K : PySem.W.Frag) : Sp := fun vs H Q _ => ∃ (a : Addr) (ns : List Int), vs = [.ref a] ∧ SqL K H a (ns.map V.int) ∧ ns.length ≤ 63 ∧ ∀ H', Q (.bl true) H'
section
variable {P : Program} {w : World} {K : PySem.W.Frag} {mg : Str → Option Value} {base : Heap} {f : Addr} {fd : FuncData}
theorem sc_law_size : FnScope ["_law_one"] ["_law_one"] (defScope s_law_size) := ⟨rfl, rfl, rfl, by decide +kernel, rfl, by decide +kernel, by decide +kernel⟩
theorem ok_law_size (F : Fun K "_law_size" "_law_size" s_law_size f fd) (T : Txt mg) : FnOk P w K mg base CX0 1 f fd ["_law_one"] spSizeF := by
  refine F.ok sc_law_size (fun vs H Q E h => ?_) (fun cdv A outer s H vs Q E hr h => ?_)
  · obtain ⟨p, q, n, rfl, _⟩ := h
    rfl
  obtain ⟨p, q, n, rfl, ⟨a, b, hp, hq, za, zb⟩, k⟩ := h
  refine Jd.go ⟨_, (Jd.pss_one (Jd.ps_ret (Jd.pe_tup (Jd.pa_cons (Jd.pe_callB absC rfl T.abs_ PyProof.Rows.boot_abs (Jd.pa_cons (Jd.pe_ix (ixT K) (Jd.pv 0) Jd.pe_int (fun _ _ => rfl)) Jd.pa_nil st_S) (he := st_S) (hpl := any0)) (Jd.pa_cons (Jd.pe_ix (ixT K) (Jd.pv 0) Jd.pe_int (fun _ _ => rfl)) Jd.pa_nil st_S) st_K)))), ?_⟩
  walk_at "vc"
  rw [abs_cast]
  refine r_new (mk := .tup) (by simp) fun p1 H1 s1 n1 e1 => ?_
  exact k p1 H1 s1 ⟨_, _, e1, hq.abs, za.of_le (by omega), zb⟩
theorem sc_law_ends : FnScope ["_law_three_here", "_law_low", "_law_high", "_law_one", "_law_mid", "_law_last"] ["_law_three_here", "_law_low", "_law_high"] (defScope s_law_ends) := ⟨rfl, rfl, rfl, by decide +kernel, rfl, by decide +kernel, by decide +kernel⟩
theorem ok_law_ends (F : Fun K "_law_ends" "_law_ends" s_law_ends f fd) (D_law_chord : Dn P w K mg base 4 "_law_chord" ["_law_one", "_law_when", "_law_last"] spChord) : FnOk P w K mg base CX0 5 f fd ["_law_three_here", "_law_low", "_law_high"] spEnds := by
  refine F.ok sc_law_ends (fun vs H Q E h => ?_) (fun cdv A outer s H vs Q E hr h => ?_)
  · obtain ⟨l, p1, p2, p3, lo, hi, t1, t2, t3, q1, q2, q3, x, y, n, rfl, _⟩ := h
    rfl
  obtain ⟨l, p1, p2, p3, lo, hi, t1, t2, t3, q1, q2, q3, x, y, n, rfl, hl, ⟨v1, e1, f1, z1⟩, ⟨v2, e2, f2, z2⟩, ⟨v3, e3, f3, z3⟩, ht, flo, fhi, hn, k⟩ := h
  refine Jd.go ⟨_, (Jd.pss_cons (Jd.ps_asg (Jd.pv 0) (Jd.pgL K (n := 3) rfl (Jd.pgs_cons (Jd.pg_name (i := 3) sc_law_ends.nd rfl (Or.inl rfl)) (Jd.pgs_cons (Jd.pg_name (i := 4) sc_law_ends.nd rfl (Or.inl rfl)) (Jd.pgs_cons (Jd.pg_name (i := 5) sc_law_ends.nd rfl (Or.inl rfl)) Jd.pgs_nil)))))
      (Jd.pss_one (Jd.ps_ret (Jd.pe_lst (Jd.pa_cons (Jd.pv 1) (Jd.pa_cons (Jd.pe_dn D_law_chord (hr.mono (by decide)) rfl (Jd.pa_cons (Jd.pe_tup (Jd.pa_cons (Jd.pe_ix (ixT K) (Jd.pv 3) Jd.pe_int (fun _ _ => rfl)) (Jd.pa_cons (Jd.pv 1) Jd.pa_nil st_N) st_S)) (Jd.pa_cons (Jd.pe_ix (ixT K) (Jd.pv 4) Jd.pe_int (fun _ _ => rfl)) (Jd.pa_cons (Jd.pe_tup (Jd.pa_cons (Jd.pe_ix (ixT K) (Jd.pv 5) Jd.pe_int (fun _ _ => rfl)) (Jd.pa_cons (Jd.pv 2) Jd.pa_nil st_N) st_S)) Jd.pa_nil st_T) st_S) st_T) (he := st_T) (hpl := (anyc st_S (anyc st_T any0)))) (Jd.pa_cons (Jd.pv 2) Jd.pa_nil st_N) st_K) st_N))))), ?_⟩
  walk_at "vc"
  refine ⟨_, rfl, r_unlist3 hl ?_⟩
  walk_at "vc"
  refine r_new (mk := .tup) (by simp) fun y1 H1 s1 m1 g1 => ?_
  have e21 := s1 _ _ e2
  have e31 := s1 _ _ e3
  walk_at "vc"
  refine r_new (mk := .tup) (by simp) fun y2 H2 s2 m2 g2 => ?_
  walk_at "vc"
  refine ⟨y1, y2, t2, t1, t3, x, y, 148, n, rfl, ⟨lo, s2 _ _ g1, flo.up (s1.trans s2), z1⟩, ⟨hi, g2, fhi.up (s1.trans s2), z3⟩, z2, ht, hn, fun z H3 s3 g3 => ?_⟩
  walk_at "vc"
  refine r_new (mk := .lst) (by simp) fun lr H4 s4 m4 g4 => ?_
  exact k lr z H4 (s1.trans (s2.trans (s3.trans s4))) g4 (g3.up s4)
theorem sc_law_worst : FnScope ["_law_three_here", "_law_heights", "_law_worst_here", "_law_k", "_law_far"] ["_law_three_here", "_law_heights"] (defScope s_law_worst) := ⟨rfl, rfl, rfl, by decide +kernel, rfl, by decide +kernel, by decide +kernel⟩
theorem ok_law_worst (F : Fun K "_law_worst" "_law_worst" s_law_worst f fd) (T : Txt mg) (D_law_size : Dn P w K mg base 1 "_law_size" ["_law_one"] spSizeF) (D_law_minus : Dn P w K mg base 3 "_law_minus" ["_law_one", "_law_other"] (spTwoF (· - ·) 1)) (D_law_less : Dn P w K mg base 1 "_law_less" ["_law_one", "_law_other"] spLess) :
    FnOk P w K mg base CX0 4 f fd ["_law_three_here", "_law_heights"] spWorst := by
  refine F.ok sc_law_worst (fun vs H Q E h => ?_) (fun cdv A outer s H vs Q E hr h => ?_)
  · obtain ⟨l, h, pf, vf, hf, tf, qf, ef, n, m, rfl, _⟩ := h
    rfl
  obtain ⟨l, h, pf, vf, hf, tf, qf, ef, n, m, rfl, hl, hh, hk, hn, k⟩ := h
  refine Jd.go ⟨_, (Jd.pss_cons (Jd.ps_set (i := 2) sc_law_worst.nd rfl (Or.inl rfl) (Jd.pe_tup (Jd.pa_cons Jd.pe_int (Jd.pa_cons Jd.pe_int Jd.pa_nil st_C) st_C)) (hs := sw_T))
      (Jd.pss_cons (Jd.ps_for PassesOwn.never rfl (Jd.pi_range1 rfl T.range (Jd.pa_cons Jd.pe_int Jd.pa_nil st_C)) (Jd.pg_name (i := 3) sc_law_worst.nd rfl (Or.inl rfl))
      (Jd.pss_cons (Jd.ps_set (i := 4) sc_law_worst.nd rfl (Or.inl rfl) (Jd.pe_dn D_law_size (hr.mono (by decide)) rfl (Jd.pa_cons (Jd.pe_dn D_law_minus (hr.mono (by decide)) rfl (Jd.pa_cons (Jd.pe_ix (ixT K) (Jd.pe_ix (ixL K) (Jd.pv 0) (Jd.pv 3) (fun _ _ => rfl)) Jd.pe_int (fun _ _ => rfl)) (Jd.pa_cons (Jd.pe_ix (ixL K) (Jd.pv 1) (Jd.pv 3) (fun _ _ => rfl)) Jd.pa_nil st_S) st_S) (he := st_S) (hpl := (anyc st_S any0))) Jd.pa_nil st_K) (he := st_K) (hpl := any0)) (hs := sw_K))
      (Jd.pss_one (Jd.ps_if (Jd.pt_val (Jd.pe_dn D_law_less (hr.mono (by decide)) rfl (Jd.pa_cons (Jd.pv 2) (Jd.pa_cons (Jd.pv 4) Jd.pa_nil st_N) st_N) (he := st_N) (hpl := (anyc st_N any0))))
      (Jd.pss_one (Jd.ps_set (i := 2) sc_law_worst.nd rfl (Or.inl rfl) (Jd.pv 4) (hs := sw_N)))
      Jd.pss_nil))))
      (Jd.pss_one (Jd.ps_ret (Jd.pv 2))))), ?_⟩
  walk_at "vc"
  refine r_new (mk := .tup) (by simp) fun w0 H1 s1 n1 e1 => ?_
  walk_at "vc"
  refine ⟨_, rfl, by decide, by decide, for_range (fun i σ H2 => Same H1 H2 ∧ ∃ (z : Addr) (W : Rat) (v3 v4 : Option V), σ = [some (.ref l), some (.ref h), some (.ref z), v3, v4] ∧ FrAt H2 z W (n + m + 1) ∧ (∀ j, j < i → rabs (qf j - ef j) ≤ W) ∧ (W = 0 ∨ ∃ j, j < i ∧ W = rabs (qf j - ef j)) ∧ 0 ≤ W) ?_ ?_ ?_⟩
  · refine ⟨Same.refl _, w0, 0, none, none, rfl, ⟨0, 1, e1, Fr.whole 0, ?_, ?_⟩, fun j hj => absurd hj (Nat.not_lt_zero _), .inl rfl, by decide⟩
    · exact Nat.two_pow_pos _
    · exact one_sz (by omega)
  · rintro i σ H2 hi ⟨s2, z, W, v3, v4, rfl, fz, hW, hW2, hW0⟩
    have hi' : i < 3 := by simpa using hi
    obtain ⟨ep, fv, fh⟩ := hk i hi'
    have s02 := s1.trans s2
    have ep2 := s02 _ _ ep
    have al : atI [V.ref (pf 0), .ref (pf 1), .ref (pf 2)] (0 + (i : Int)) = some (.ref (pf i)) := by
      rcases (show i = 0 ∨ i = 1 ∨ i = 2 by omega) with rfl | rfl | rfl
      · exact at0
      · exact at1
      · exact at2
    have ah : atI [V.ref (hf 0), .ref (hf 1), .ref (hf 2)] (0 + (i : Int)) = some (.ref (hf i)) := by
      rcases (show i = 0 ∨ i = 1 ∨ i = 2 by omega) with rfl | rfl | rfl
      · exact at0
      · exact at1
      · exact at2
    walk_at "vc"
    refine r_l (s02 _ _ hl) al ?_
    walk_at "vc"
    refine r_l (s02 _ _ hh) ah ?_
    walk_at "vc"
    refine ⟨vf i, hf i, _, _, n, m, rfl, (fv.up s02).qt, (fh.up s02).qt, by omega, fun y H3 s3 e3 => ?_⟩
    walk_at "vc"
    refine ⟨y, _, _, rfl, e3, fun fa H4 s4 e4 => ?_⟩
    have s24 := s3.trans s4
    walk_at "vc"
    refine ⟨z, fa, W, _, _, _, rfl, (fz.up s24).qt, e4.qt, by omega, fun b hb => ?_⟩
    walk_at "vc"
    refine ite2 (fun c => ?_) (fun c => ?_)
    · have c' := hb.mp c
      walk_at "vc"
      refine ⟨s2.trans s24, fa, _, _, _, rfl, e4, fun j hj => ?_, .inr ⟨i, Nat.lt_succ_self _, rfl⟩, rabs_nn _⟩
      by_cases hji : j < i
      · have := hW j hji
        grind
      · have : j = i := by omega
        subst this
        grind
    · have c' : ¬ W < rabs (qf i - ef i) := fun q => c (hb.mpr q)
      refine ⟨s2.trans s24, z, W, _, _, rfl, fz.up s24, fun j hj => ?_, ?_, hW0⟩
      · by_cases hji : j < i
        · exact hW j hji
        · have : j = i := by omega
          subst this
          grind
      · rcases hW2 with q | ⟨j, hj, q⟩
        · exact .inl q
        · exact .inr ⟨j, by omega, q⟩
  · rintro σ H2 ⟨s2, z, W, v3, v4, rfl, fz, hW, hW2, hW0⟩
    walk_at "vc"
    exact k z W H2 (s1.trans s2) fz hW hW2
theorem sc_law : FnScope ["_law_script", "_law_three_here", "_law_one", "_law_mid", "_law_last", "_law_some", "_law_side", "_law_half", "_law_bound", "_law_found", "_law_put", "_law_own", "_law_low", "_law_high"] ["_law_script"] (defScope s_law) := ⟨rfl, rfl, rfl, by decide +kernel, rfl, by decide +kernel, by decide +kernel⟩
theorem half_abs (s : Rat) : rabs (-(s * (1 / 2))) = rabs s * (1 / 2) ∧ rabs (s - s * (1 / 2)) = rabs s * (1 / 2) := by
  unfold rabs
  constructor <;> (split <;> split <;> grind)
theorem qt_of {t b : Int} (hb : 1 ≤ b) : Qt t b ((t : Rat) / (b : Rat)) := ⟨hb, by have := cast_ne (b := b) (by omega); grind⟩
theorem half_qt : Qt 1 2 (1 / 2) := ⟨by decide, by grind⟩
def pick3 {α : Type} (a b c : α) (k : Nat) : α := if k = 0 then a else if k = 1 then b else c
theorem kit_bb : PySem.W.kitOne K (.type "bool") (.type "bool") = some true := by rfl
theorem ok_law (F : Fun K "law" "law" s_law f fd) (T : Txt mg) (D_law_row : Dn P w K mg base 3 "_law_row" ["_law_script", "_law_place", "_law_sizes"] (spRow K)) (D_law_ratio : Dn P w K mg base 1 "_law_ratio" ["_law_top", "_law_bottom"] spRatio)
    (D_law_plus : Dn P w K mg base 3 "_law_plus" ["_law_one", "_law_other"] (spTwoF (· + ·) 1)) (D_law_minus : Dn P w K mg base 3 "_law_minus" ["_law_one", "_law_other"] (spTwoF (· - ·) 1)) (D_law_by : Dn P w K mg base 3 "_law_by" ["_law_one", "_law_other"] (spTwoF (· * ·) 0))
    (D_law_chord : Dn P w K mg base 4 "_law_chord" ["_law_one", "_law_when", "_law_last"] spChord) (D_law_size : Dn P w K mg base 1 "_law_size" ["_law_one"] spSizeF) (D_law_less : Dn P w K mg base 1 "_law_less" ["_law_one", "_law_other"] spLess)
    (D_law_three : Dn P w K mg base 5 "_law_three" ["_law_script", "_law_place"] (spThree K)) (D_law_ends : Dn P w K mg base 5 "_law_ends" ["_law_three_here", "_law_low", "_law_high"] spEnds) (D_law_worst : Dn P w K mg base 4 "_law_worst" ["_law_three_here", "_law_heights"] spWorst) (D_pinched : Dn P w K mg base 5 "pinched" ["one", "mid", "last", "bound"] spPinched) :
    FnOk P w K mg base CX0 6 f fd ["_law_script"] (spLaw K) := by
  refine F.ok sc_law (fun vs H Q E h => ?_) (fun cdv A outer s H vs Q E hr h => ?_)
  · obtain ⟨a, ns, rfl, _⟩ := h
    rfl
  obtain ⟨a, ns, rfl, hS, hn, k⟩ := h
  refine Jd.go (Jd.cut 10 (fun σ H5 => ∃ (l p1 p2 p3 lw si ha bo : Addr) (ys : List Int) (t1 t2 t3 : Int) (q1 q2 q3 β : Rat) (r1 r2 r3 r4 r5 : Option V), σ = [some (.ref a), some (.ref l), some (.ref p1), some (.ref p2), some (.ref p3), some (.ref lw), some (.ref si), some (.ref ha), some (.ref bo), none, none, none, none, none] ∧
    H5 l = some (.lst [.ref p1, .ref p2, .ref p3]) ∧ Sa2 H5 p1 t1 q1 148 210 ∧ Sa2 H5 p2 t2 q2 148 900 ∧ Sa2 H5 p3 t3 q3 148 210 ∧ t1 < t2 ∧ t2 < t3 ∧ H5 lw = some (.lst (ys.map V.int)) ∧ ys.length = 7 ∧
    (∀ (j : Nat) (x z : Int), ys[j]? = some x → ([5, 40, 12, 41, 12, 41, 12] : List Int)[j]? = some z → 0 ≤ x ∧ x < z) ∧ FrAt H5 si (q2 - chord t1 q1 t2 t3 q3) 1769 ∧ FrAt H5 ha (rabs (q2 - chord t1 q1 t2 t3 q3) * (1 / 2)) 1771 ∧ FrAt H5 bo β 1810) ?_ fun u hu hR => ?_)
  · refine ⟨_, (Jd.pss_cons (Jd.ps_set (i := 9) sc_law.nd rfl (Or.inl rfl) (Jd.pe_dn D_pinched (hr.mono (by decide)) rfl (Jd.pa_cons (Jd.pv 2) (Jd.pa_cons (Jd.pv 3) (Jd.pa_cons (Jd.pv 4) (Jd.pa_cons (Jd.pv 8) Jd.pa_nil st_N) st_N) st_N) st_N) (he := st_N) (hpl := (anyc st_N (anyc st_N (anyc st_N any0))))) (hs := sw_K))
      (Jd.pss_cons (Jd.ps_if (Jd.PWpt (Jd.pw_or (Jd.pt_not (Jd.pt_val (Jd.pe_callB (isiC K) rfl T.isinstance_ PyProof.Rows.boot_isinstance (Jd.pa_cons (Jd.pv 9) (Jd.pa_cons (Jd.pe_ty rfl T.bool_ PyProof.Rows.boot_bool) Jd.pa_nil st_N) st_N) (he := st_N) (hpl := (anyc st_N any0))))) (Jd.pw_or1 (Jd.pt_cmpR op_ne (Jd.pv 9) (Jd.pe_dn D_law_less (hr.mono (by decide)) rfl (Jd.pa_cons (Jd.pv 8) (Jd.pa_cons (Jd.pv 7) Jd.pa_nil st_N) st_N) (he := st_N) (hpl := (anyc st_N any0))) (nomark _)))))
      (Jd.pss_one (Jd.ps_ret Jd.pe_bl))
      Jd.pss_nil)
      (Jd.pss_cons (Jd.ps_set (i := 10) sc_law.nd rfl (Or.inl rfl) (Jd.pe_dn D_law_by (hr.mono (by decide)) rfl (Jd.pa_cons (Jd.pv 6) (Jd.pa_cons (Jd.pe_tup (Jd.pa_cons Jd.pe_int (Jd.pa_cons Jd.pe_int Jd.pa_nil st_C) st_C)) Jd.pa_nil st_T) st_N) (he := st_N) (hpl := (anyc st_T any0))) (hs := sw_K))
      (Jd.pss_cons (Jd.ps_set (i := 11) sc_law.nd rfl (Or.inl rfl) (Jd.pe_dn D_law_worst (hr.mono (by decide)) rfl (Jd.pa_cons (Jd.pv 1) (Jd.pa_cons (Jd.pe_dn D_law_ends (hr.mono (by decide)) rfl (Jd.pa_cons (Jd.pv 1) (Jd.pa_cons (Jd.pe_dn D_law_plus (hr.mono (by decide)) rfl (Jd.pa_cons (Jd.pe_ix (ixT K) (Jd.pv 2) Jd.pe_int (fun _ _ => rfl)) (Jd.pa_cons (Jd.pv 10) Jd.pa_nil st_N) st_S) (he := st_S) (hpl := (anyc st_N any0))) (Jd.pa_cons (Jd.pe_dn D_law_plus (hr.mono (by decide)) rfl (Jd.pa_cons (Jd.pe_ix (ixT K) (Jd.pv 4) Jd.pe_int (fun _ _ => rfl)) (Jd.pa_cons (Jd.pv 10) Jd.pa_nil st_N) st_S) (he := st_S) (hpl := (anyc st_N any0))) Jd.pa_nil st_K) st_K) st_N) (he := st_N) (hpl := (anyc st_K (anyc st_K any0)))) Jd.pa_nil st_K) st_N) (he := st_N) (hpl := (anyc st_K any0))) (hs := sw_K))
      (Jd.pss_cons (Jd.ps_if (Jd.pt_cmpR op_eq (Jd.pv 9) (Jd.pe_not (Jd.pe_dn D_law_less (hr.mono (by decide)) rfl (Jd.pa_cons (Jd.pv 8) (Jd.pa_cons (Jd.pv 11) Jd.pa_nil st_N) st_N) (he := st_N) (hpl := (anyc st_N any0)))) (nomark _))
      (Jd.pss_one (Jd.ps_ret Jd.pe_bl))
      Jd.pss_nil)
      (Jd.pss_cons (Jd.ps_set (i := 12) sc_law.nd rfl (Or.inl rfl) (Jd.pe_dn D_law_plus (hr.mono (by decide)) rfl (Jd.pa_cons (Jd.pe_ix (ixT K) (Jd.pv 2) Jd.pe_int (fun _ _ => rfl)) (Jd.pa_cons (Jd.pe_dn D_law_by (hr.mono (by decide)) rfl (Jd.pa_cons (Jd.pe_dn D_law_ratio (hr.mono (by decide)) rfl (Jd.pa_cons (Jd.pe_op op_sub (Jd.pe_ix (ixL K) (Jd.pv 5) Jd.pe_int (fun _ _ => rfl)) Jd.pe_int) (Jd.pa_cons (Jd.pe_op op_add (Jd.pe_ix (ixL K) (Jd.pv 5) Jd.pe_int (fun _ _ => rfl)) Jd.pe_int) Jd.pa_nil st_B) st_B) (he := st_B) (hpl := (anyc st_B any0))) (Jd.pa_cons (Jd.pv 7) Jd.pa_nil st_N) st_K) (he := st_K) (hpl := (anyc st_N any0))) Jd.pa_nil st_K) st_S) (he := st_S) (hpl := (anyc st_K any0))) (hs := sw_K))
      (Jd.pss_cons (Jd.ps_set (i := 13) sc_law.nd rfl (Or.inl rfl) (Jd.pe_dn D_law_plus (hr.mono (by decide)) rfl (Jd.pa_cons (Jd.pe_ix (ixT K) (Jd.pv 4) Jd.pe_int (fun _ _ => rfl)) (Jd.pa_cons (Jd.pe_dn D_law_by (hr.mono (by decide)) rfl (Jd.pa_cons (Jd.pe_dn D_law_ratio (hr.mono (by decide)) rfl (Jd.pa_cons (Jd.pe_op op_sub (Jd.pe_ix (ixL K) (Jd.pv 5) Jd.pe_int (fun _ _ => rfl)) Jd.pe_int) (Jd.pa_cons (Jd.pe_op op_add (Jd.pe_ix (ixL K) (Jd.pv 5) Jd.pe_int (fun _ _ => rfl)) Jd.pe_int) Jd.pa_nil st_B) st_B) (he := st_B) (hpl := (anyc st_B any0))) (Jd.pa_cons (Jd.pv 7) Jd.pa_nil st_N) st_K) (he := st_K) (hpl := (anyc st_N any0))) Jd.pa_nil st_K) st_S) (he := st_S) (hpl := (anyc st_K any0))) (hs := sw_K))
      (Jd.pss_one (Jd.ps_ret (Jd.pe_cmpR op_isB (Jd.pe_dn D_pinched (hr.mono (by decide)) rfl (Jd.pa_cons (Jd.pv 2) (Jd.pa_cons (Jd.pv 3) (Jd.pa_cons (Jd.pv 4) (Jd.pa_cons (Jd.pe_dn D_law_worst (hr.mono (by decide)) rfl (Jd.pa_cons (Jd.pv 1) (Jd.pa_cons (Jd.pe_dn D_law_ends (hr.mono (by decide)) rfl (Jd.pa_cons (Jd.pv 1) (Jd.pa_cons (Jd.pv 12) (Jd.pa_cons (Jd.pv 13) Jd.pa_nil st_N) st_N) st_N) (he := st_N) (hpl := (anyc st_N (anyc st_N any0)))) Jd.pa_nil st_K) st_N) (he := st_N) (hpl := (anyc st_K any0))) Jd.pa_nil st_K) st_N) st_N) st_N) (he := st_N) (hpl := (anyc st_N (anyc st_N (anyc st_K any0))))) Jd.pe_bl (nomark _))))))))))), fun σ H5 h => ?_⟩
    obtain ⟨l, p1, p2, p3, lw, si, ha, bo, ys, t1, t2, t3, q1, q2, q3, β, _, _, _, _, _, rfl, hl, h1, h2, h3, l12, l23, ew, hlen, hys, fsi, fha, fbo⟩ := h
    obtain ⟨v1, e1, f1, z1⟩ := id h1
    obtain ⟨v2, e2, f2, z2⟩ := id h2
    obtain ⟨v3, e3, f3, z3⟩ := id h3
    have m1 : SaAt H5 p1 t1 q1 900 := h1.sa (by decide) (by decide)
    have m2 : SaAt H5 p2 t2 q2 900 := h2.sa (by decide) (by decide)
    have m3 : SaAt H5 p3 t3 q3 900 := h3.sa (by decide) (by decide)
    obtain ⟨x3, g3, a3, b3⟩ := row_get (zs := [5, 40, 12, 41, 12, 41, 12]) hlen hys 3 rfl
    obtain ⟨x4, g4, a4, b4⟩ := row_get (zs := [5, 40, 12, 41, 12, 41, 12]) hlen hys 4 rfl
    obtain ⟨x5, g5, a5, b5⟩ := row_get (zs := [5, 40, 12, 41, 12, 41, 12]) hlen hys 5 rfl
    obtain ⟨x6, g6, a6, b6⟩ := row_get (zs := [5, 40, 12, 41, 12, 41, 12]) hlen hys 6 rfl
    have w : ∀ {H : Hp}, Same H5 H → H lw = some (.lst (ys.map V.int)) := fun s => s _ _ ew
    have ne13 : (t1 : Rat) ≠ (t3 : Rat) := fun z => by
      have := Rat.intCast_inj.mp z
      omega
    have lt12 : (t1 : Rat) < (t2 : Rat) := Rat.intCast_lt_intCast.mpr l12
    have lt23 : (t2 : Rat) < (t3 : Rat) := Rat.intCast_lt_intCast.mpr l23
    -- the worst miss of a line by its ends
    have wk : ∀ {H6 : Hp} {lo mi hi : Addr} {x y c : Rat} {n m : Nat}, Same H5 H6 → FrAt H6 lo x n → FrAt H6 mi c m → FrAt H6 hi y n → n ≤ m → ∀ k, k < 3 → H6 (pick3 p1 p2 p3 k) = some (.tup [.int (pick3 t1 t2 t3 k), .ref (pick3 v1 v2 v3 k)]) ∧ FrAt H6 (pick3 v1 v2 v3 k) (pick3 q1 q2 q3 k) 900 ∧ FrAt H6 (pick3 lo mi hi k) (pick3 x c y k) m := by
      intro H6 lo mi hi x y c n m s6 a b c' hnm k hk
      rcases (show k = 0 ∨ k = 1 ∨ k = 2 by omega) with rfl | rfl | rfl
      · exact ⟨s6 _ _ e1, (f1.up s6).mono (by decide), a.mono hnm⟩
      · exact ⟨s6 _ _ e2, f2.up s6, b⟩
      · exact ⟨s6 _ _ e3, (f3.up s6).mono (by decide), c'.mono hnm⟩
    walk_at "vc"
    refine ⟨p1, p2, p3, bo, t1, t2, t3, q1, q2, q3, β, 900, 1810, rfl, m1, m2, m3, fbo.qt, by omega, by decide, by decide, fun r H6 s6 hr6 => ?_⟩
    generalize hc : chord (t1 : Rat) q1 (t2 : Rat) (t3 : Rat) q3 = c at *
    walk_at "vc"
    refine r_isi (.bl r) kit_bb ?_
    walk_at "vc"
    refine iteF ?_
    walk_at "vc"
    refine ⟨bo, ha, β, _, 1810, 1771, rfl, (fbo.up s6).qt, (fha.up s6).qt, by decide, fun b hb => ?_⟩
    walk_at "vc"
    refine r_neB ?_
    obtain rfl : r = b := Bool.eq_iff_iff.mpr (hr6.trans (Iff.trans (by constructor <;> intro _ <;> grind) hb.symm))
    rw [beq_self_eq_true]
    walk_at "vc"
    refine iteF ?_
    walk_at "vc"
    refine r_new (mk := .tup) (by simp) fun y1 H7 s7 n7 e7 => ?_
    walk_at "vc"
    refine ⟨si, y1, _, _, 1769, 2, rfl, (fsi.up (s6.trans s7)).qt, ⟨1, 2, e7, half_qt, by decide, by decide⟩, by decide, fun pu H8 s8 e8 => ?_⟩
    have s58 := s6.trans (s7.trans s8)
    have e18 := s58 _ _ e1
    have e38 := s58 _ _ e3
    walk_at "vc"
    refine ⟨v1, pu, _, _, 210, 1771, rfl, (f1.up s58).qt, e8.qt, by decide, fun lo H9 s9 e9 => ?_⟩
    have e39 := s9 _ _ e38
    walk_at "vc"
    refine ⟨v3, pu, _, _, 210, 1771, rfl, (f3.up (s58.trans s9)).qt, (e8.up s9).qt, by decide, fun hi H10 s10 e10 => ?_⟩
    have s510 := s58.trans (s9.trans s10)
    walk_at "vc"
    refine ⟨l, p1, p2, p3, lo, hi, t1, t2, t3, q1, q2, q3, _, _, 1982, rfl, s510 _ _ hl, (h1.up s510).mono (by decide), h2.up s510, (h3.up s510).mono (by decide), by omega, e9.up s10, e10, by decide, fun ze mi H11 s11 e11 f11 => ?_⟩
    have s511 := s510.trans s11
    rw [chord_lift ne13, hc] at f11
    walk_at "vc"
    refine ⟨l, ze, pick3 p1 p2 p3, pick3 v1 v2 v3, pick3 lo mi hi, pick3 t1 t2 t3, pick3 q1 q2 q3, pick3 _ _ _, 900, 2 * 1982 + 3 * 148 + 4, rfl, s511 _ _ hl, e11, wk s511 (e9.up (s10.trans s11)) f11 (e10.up s11) (by decide), by decide, fun ow W H12 s12 f12 hW hW2 => ?_⟩
    have s512 := s511.trans s12
    have w0 : rabs (q1 - (q1 + (q2 - c) * (1 / 2))) ≤ W := hW 0 (by decide)
    have d0 : rabs (q1 - (q1 + (q2 - c) * (1 / 2))) = rabs (q2 - c) * (1 / 2) := by
      rw [← (half_abs (q2 - c)).1]
      congr 1
      grind
    have d1 : rabs (q2 - (c + (q2 - c) * (1 / 2))) = rabs (q2 - c) * (1 / 2) := by
      rw [← (half_abs (q2 - c)).2]
      congr 1
      grind
    have d2 : rabs (q3 - (q3 + (q2 - c) * (1 / 2))) = rabs (q2 - c) * (1 / 2) := by
      rw [← (half_abs (q2 - c)).1]
      congr 1
      grind
    have nn := rabs_nn (q2 - c)
    have hWh : W = rabs (q2 - c) * (1 / 2) := by
      rcases hW2 with z | ⟨j, hj, z⟩
      · grind
      · rcases (show j = 0 ∨ j = 1 ∨ j = 2 by omega) with rfl | rfl | rfl
        · exact z.trans d0
        · exact z.trans d1
        · exact z.trans d2
    walk_at "vc"
    refine ⟨bo, ow, β, W, 1810, _, rfl, (fbo.up s512).qt, f12.qt, by decide, fun b2 hb2 => ?_⟩
    walk_at "vc"
    refine r_eqB ?_
    obtain rfl : r = b2 := Bool.eq_iff_iff.mpr (hr6.trans (Iff.trans (by rw [hWh]; constructor <;> intro _ <;> grind) hb2.symm))
    have nb : (r == !r) = false := by cases r <;> rfl
    rw [nb]
    walk_at "vc"
    refine iteF ?_
    have e112 := s512 _ _ e1
    walk_at "vc"
    refine r_l (w s512) (at_ints g3 rfl) ?_
    walk_at "vc"
    refine r_l (w s512) (at_ints g4 rfl) ?_
    walk_at "vc"
    refine ⟨_, _, rfl, by omega, sz_lt 1000 (by omega) (Nat.le_trans (by decide : 1000 ≤ 2 ^ 10) (Nat.pow_le_pow_right (by decide) (by decide))), fun ra tr br H13 s13 e13 lo13 => ?_⟩
    have f13 : FrAt H13 ra _ 10 := ⟨tr, br, e13, of_low' lo13 (by omega), (sz_lt (n := 10) 1000 (by omega)).of_le lo13.tb, (sz_lt (n := 10) 1000 (by omega)).of_le lo13.bb⟩
    walk_at "vc"
    refine ⟨ra, ha, _, _, 10, 1771, rfl, f13.qt, (fha.up (s512.trans s13)).qt, by decide, fun y14 H14 s14 e14 => ?_⟩
    walk_at "vc"
    refine ⟨v1, y14, _, _, 210, _, rfl, (f1.up (s512.trans (s13.trans s14))).qt, e14.qt, by decide, fun lo2 H15 s15 e15 => ?_⟩
    have s515 := s512.trans (s13.trans (s14.trans s15))
    have e315 := s515 _ _ e3
    walk_at "vc"
    refine r_l (w s515) (at_ints g5 rfl) ?_
    walk_at "vc"
    refine r_l (w s515) (at_ints g6 rfl) ?_
    walk_at "vc"
    refine ⟨_, _, rfl, by omega, sz_lt 1000 (by omega) (Nat.le_trans (by decide : 1000 ≤ 2 ^ 10) (Nat.pow_le_pow_right (by decide) (by decide))), fun rb tr' br' H16 s16 e16 lo16 => ?_⟩
    have f16 : FrAt H16 rb _ 10 := ⟨tr', br', e16, of_low' lo16 (by omega), (sz_lt (n := 10) 1000 (by omega)).of_le lo16.tb, (sz_lt (n := 10) 1000 (by omega)).of_le lo16.bb⟩
    walk_at "vc"
    refine ⟨rb, ha, _, _, 10, 1771, rfl, f16.qt, (fha.up (s515.trans s16)).qt, by decide, fun y17 H17 s17 e17 => ?_⟩
    walk_at "vc"
    refine ⟨v3, y17, _, _, 210, _, rfl, (f3.up (s515.trans (s16.trans s17))).qt, e17.qt, by decide, fun hi2 H18 s18 e18' => ?_⟩
    have s1518 := s16.trans (s17.trans s18)
    have s518 := s515.trans s1518
    walk_at "vc"
    refine ⟨l, p1, p2, p3, lo2, hi2, t1, t2, t3, q1, q2, q3, _, _, 1992, rfl, s518 _ _ hl, (h1.up s518).mono (by decide), h2.up s518, (h3.up s518).mono (by decide), by omega, e15.up s1518, e18', by decide, fun ze2 mi2 H19 s19 e19 f19 => ?_⟩
    have s519 := s518.trans s19
    walk_at "vc"
    refine ⟨l, ze2, pick3 p1 p2 p3, pick3 v1 v2 v3, pick3 lo2 mi2 hi2, pick3 t1 t2 t3, pick3 q1 q2 q3, pick3 _ _ _, 900, 2 * 1992 + 3 * 148 + 4, rfl, s519 _ _ hl, e19, wk s519 (e15.up (s1518.trans s19)) f19 (e18'.up s19) (by decide), by decide, fun ow2 W2 H20 s20 f20 hX hX2 => ?_⟩
    have s520 := s519.trans s20
    walk_at "vc"
    refine ⟨p1, p2, p3, ow2, t1, t2, t3, q1, q2, q3, W2, 900, _, rfl, m1.up s520, m2.up s520, m3.up s520, f20.qt, by omega, by decide, by decide, fun r2 H21 s21 hr21 => ?_⟩
    refine ⟨_, _, rfl, rfl, ?_⟩
    have nbt : rabs (q2 - chord t1 q1 t2 t3 q3) ≤ 2 * W2 := no_better lt12 lt23 (hX 0 (by decide)) (hX 1 (by decide)) (hX 2 (by decide))
    rw [hc] at nbt
    obtain rfl : r2 = false := by
      cases r2
      · rfl
      · have := hr21.mp rfl
        first | exact absurd this (Rat.not_lt.mpr nbt) | (rw [hc] at this; exact absurd this (Rat.not_lt.mpr nbt))
    exact k H21
  refine ⟨_, (Jd.pss_cons (Jd.ps_set (i := 1) sc_law.nd rfl (Or.inl rfl) (Jd.pe_dn D_law_three (hr.mono (by decide)) rfl (Jd.pa_cons (Jd.pv 0) (Jd.pa_cons Jd.pe_int Jd.pa_nil st_C) st_N) (he := st_N) (hpl := (anyc st_C any0))) (hs := sw_K))
      (Jd.pss_cons (Jd.ps_asg (Jd.pv 1) (Jd.pgL K (n := 3) rfl (Jd.pgs_cons (Jd.pg_name (i := 2) sc_law.nd rfl (Or.inl rfl)) (Jd.pgs_cons (Jd.pg_name (i := 3) sc_law.nd rfl (Or.inl rfl)) (Jd.pgs_cons (Jd.pg_name (i := 4) sc_law.nd rfl (Or.inl rfl)) Jd.pgs_nil)))))
      (Jd.pss_cons (Jd.ps_set (i := 5) sc_law.nd rfl (Or.inl rfl) (Jd.pe_dn D_law_row (hr.mono (by decide)) rfl (Jd.pa_cons (Jd.pv 0) (Jd.pa_cons Jd.pe_int (Jd.pa_cons (Jd.pe_lst (Jd.pa_cons Jd.pe_int (Jd.pa_cons Jd.pe_int (Jd.pa_cons Jd.pe_int (Jd.pa_cons Jd.pe_int (Jd.pa_cons Jd.pe_int (Jd.pa_cons Jd.pe_int (Jd.pa_cons Jd.pe_int Jd.pa_nil st_C) st_C) st_C) st_C) st_C) st_C) st_C)) Jd.pa_nil st_L) st_C) st_N) (he := st_N) (hpl := (anyc st_C (anyc st_L any0)))) (hs := sw_K))
      (Jd.pss_cons (Jd.ps_set (i := 6) sc_law.nd rfl (Or.inl rfl) (Jd.pe_dn D_law_minus (hr.mono (by decide)) rfl (Jd.pa_cons (Jd.pe_ix (ixT K) (Jd.pv 3) Jd.pe_int (fun _ _ => rfl)) (Jd.pa_cons (Jd.pe_dn D_law_chord (hr.mono (by decide)) rfl (Jd.pa_cons (Jd.pv 2) (Jd.pa_cons (Jd.pe_ix (ixT K) (Jd.pv 3) Jd.pe_int (fun _ _ => rfl)) (Jd.pa_cons (Jd.pv 4) Jd.pa_nil st_N) st_S) st_N) (he := st_N) (hpl := (anyc st_S (anyc st_N any0)))) Jd.pa_nil st_K) st_S) (he := st_S) (hpl := (anyc st_K any0))) (hs := sw_K))
      (Jd.pss_cons (Jd.ps_set (i := 7) sc_law.nd rfl (Or.inl rfl) (Jd.pe_dn D_law_by (hr.mono (by decide)) rfl (Jd.pa_cons (Jd.pe_dn D_law_size (hr.mono (by decide)) rfl (Jd.pa_cons (Jd.pv 6) Jd.pa_nil st_N) (he := st_N) (hpl := any0)) (Jd.pa_cons (Jd.pe_tup (Jd.pa_cons Jd.pe_int (Jd.pa_cons Jd.pe_int Jd.pa_nil st_C) st_C)) Jd.pa_nil st_T) st_K) (he := st_K) (hpl := (anyc st_T any0))) (hs := sw_K))
      (Jd.pss_cons (Jd.ps_set (i := 8) sc_law.nd rfl (Or.inl rfl) (Jd.pv 7) (hs := sw_N))
      (Jd.pss_cons (Jd.ps_if (Jd.pt_cmpR op_eq (Jd.pe_ix (ixL K) (Jd.pv 5) Jd.pe_int (fun _ _ => rfl)) Jd.pe_int (nomark _))
      (Jd.pss_one (Jd.ps_set (i := 8) sc_law.nd rfl (Or.inl rfl) (Jd.pe_dn D_law_by (hr.mono (by decide)) rfl (Jd.pa_cons (Jd.pv 7) (Jd.pa_cons (Jd.pe_tup (Jd.pa_cons (Jd.pe_op op_sub (Jd.pe_op op_pow Jd.pe_int Jd.pe_int) Jd.pe_int) (Jd.pa_cons (Jd.pe_op op_pow Jd.pe_int Jd.pe_int) Jd.pa_nil st_B) st_B)) Jd.pa_nil st_T) st_N) (he := st_N) (hpl := (anyc st_T any0))) (hs := sw_K)))
      Jd.pss_nil)
      (Jd.pss_cons (Jd.ps_if (Jd.pt_cmpR op_eq (Jd.pe_ix (ixL K) (Jd.pv 5) Jd.pe_int (fun _ _ => rfl)) Jd.pe_int (nomark _))
      (Jd.pss_one (Jd.ps_set (i := 8) sc_law.nd rfl (Or.inl rfl) (Jd.pe_dn D_law_plus (hr.mono (by decide)) rfl (Jd.pa_cons (Jd.pv 7) (Jd.pa_cons (Jd.pe_tup (Jd.pa_cons Jd.pe_int (Jd.pa_cons (Jd.pe_op op_pow Jd.pe_int Jd.pe_int) Jd.pa_nil st_B) st_C)) Jd.pa_nil st_T) st_N) (he := st_N) (hpl := (anyc st_T any0))) (hs := sw_K)))
      Jd.pss_nil)
      (Jd.pss_cons (Jd.ps_if (Jd.pt_cmpR op_eq (Jd.pe_ix (ixL K) (Jd.pv 5) Jd.pe_int (fun _ _ => rfl)) Jd.pe_int (nomark _))
      (Jd.pss_one (Jd.ps_set (i := 8) sc_law.nd rfl (Or.inl rfl) (Jd.pe_tup (Jd.pa_cons Jd.pe_int (Jd.pa_cons Jd.pe_int Jd.pa_nil st_C) st_C)) (hs := sw_T)))
      Jd.pss_nil)
      (Jd.pss_cons (Jd.ps_if (Jd.pt_cmpR op_eq (Jd.pe_ix (ixL K) (Jd.pv 5) Jd.pe_int (fun _ _ => rfl)) Jd.pe_int (nomark _))
      (Jd.pss_one (Jd.ps_set (i := 8) sc_law.nd rfl (Or.inl rfl) (Jd.pe_dn D_law_by (hr.mono (by decide)) rfl (Jd.pa_cons (Jd.pe_dn D_law_ratio (hr.mono (by decide)) rfl (Jd.pa_cons (Jd.pe_ix (ixL K) (Jd.pv 5) Jd.pe_int (fun _ _ => rfl)) (Jd.pa_cons (Jd.pe_op op_add (Jd.pe_ix (ixL K) (Jd.pv 5) Jd.pe_int (fun _ _ => rfl)) Jd.pe_int) Jd.pa_nil st_B) st_S) (he := st_S) (hpl := (anyc st_B any0))) (Jd.pa_cons (Jd.pv 7) Jd.pa_nil st_N) st_K) (he := st_K) (hpl := (anyc st_N any0))) (hs := sw_K)))
      Jd.pss_nil)
      hu)))))))))), ?_⟩
  walk_at "vc"
  refine ⟨a, ns, _, rfl, hS, by decide, by decide, fun l p1 p2 p3 t1 t2 t3 q1 q2 q3 H1 s1 hl h1 h2 h3 l12 l23 => ?_⟩
  walk_at "vc"
  refine ⟨_, rfl, r_unlist3 hl ?_⟩
  walk_at "vc"
  refine r_new (mk := .lst) (by simp) fun l2 H2 s2 n2 e2 => ?_
  walk_at "vc"
  refine ⟨a, ns, _, l2, [5, 40, 12, 41, 12, 41, 12], rfl, (s1.trans s2).seq hS, by decide, by decide, e2, by decide, by decide, fun lw ys H3 s3 n3 e3 hlen hys => ?_⟩
  obtain ⟨x0, g0, a0, b0⟩ := row_get hlen hys 0 rfl
  obtain ⟨x1, g1, a1, b1⟩ := row_get hlen hys 1 rfl
  obtain ⟨x2, g2, a2, b2⟩ := row_get hlen hys 2 rfl
  have s13 := s2.trans s3
  have h13 := h1.up s13
  have h23 := h2.up s13
  have h33 := h3.up s13
  obtain ⟨v2, ev2, fv2, zv2⟩ := id h23
  walk_at "vc"
  refine ⟨p1, p3, t2, t1, t3, q1, q3, 148, 210, rfl, h13, h33, zv2, by omega, by decide, fun ch H4 s4 e4 => ?_⟩
  walk_at "vc"
  refine ⟨v2, ch, q2, _, 900, _, rfl, (fv2.up s4).qt, e4.qt, by decide, fun si H5 s5 e5 => ?_⟩
  walk_at "vc"
  refine ⟨si, _, _, rfl, e5, fun ab H6 s6 e6 => ?_⟩
  walk_at "vc"
  refine r_new (mk := .tup) (by simp) fun y7 H7 s7 n7 e7 => ?_
  walk_at "vc"
  refine ⟨ab, y7, _, _, _, 2, rfl, (e6.up s7).qt, ⟨1, 2, e7, half_qt, by decide, by decide⟩, by decide, fun ha H8 s8 e8 => ?_⟩
  have s38 := s4.trans (s5.trans (s6.trans (s7.trans s8)))
  have e58 := e5.up (s6.trans (s7.trans s8))
  have w : ∀ {H : Hp}, Same H8 H → H lw = some (.lst (ys.map V.int)) := fun s => s _ _ (s38 _ _ e3)
  -- the end of either way
  have fin : ∀ {H9 : Hp} {bo : Addr} {β : Rat}, Same H8 H9 → FrAt H9 bo β 1810 → u { nx := fun _ H' => Q .non H', rt := Q } [some (.ref a), some (.ref l), some (.ref p1), some (.ref p2), some (.ref p3), some (.ref lw), some (.ref si), some (.ref ha), some (.ref bo), none, none, none, none, none] H9 := by
    intro H9 bo β s9 fb
    have s39 := s38.trans s9
    exact hR _ _ ⟨l, p1, p2, p3, lw, si, ha, bo, ys, t1, t2, t3, q1, q2, q3, β, none, none, none, none, none, rfl, (s13.trans s39) _ _ hl, h13.up s39, h23.up s39, h33.up s39, l12, l23, w s9, hlen, hys, e58.up s9, e8.up s9, fb⟩
  rcases (show x0 = 0 ∨ x0 = 1 ∨ x0 = 2 ∨ x0 = 3 ∨ x0 = 4 by omega) with rfl | rfl | rfl | rfl | rfl
  · walk_at "vc"
    refine r_l (w (Same.refl _)) (at_ints g0 rfl) ?_
    walk_at "vc"
    refine iteF ?_
    walk_at "vc"
    refine r_l (w (Same.refl _)) (at_ints g0 rfl) ?_
    walk_at "vc"
    refine iteF ?_
    walk_at "vc"
    refine r_l (w (Same.refl _)) (at_ints g0 rfl) ?_
    walk_at "vc"
    refine iteF ?_
    walk_at "vc"
    refine r_l (w (Same.refl _)) (at_ints g0 rfl) ?_
    walk_at "vc"
    refine iteF ?_
    exact fin (Same.refl _) (e8.mono (by decide))
  · walk_at "vc"
    refine r_l (w (Same.refl _)) (at_ints g0 rfl) ?_
    walk_at "vc"
    refine iteT ?_
    walk_at "vc"
    refine r_new (mk := .tup) (by simp) fun y9 H9 s9 n9 e9 => ?_
    walk_at "vc"
    refine ⟨ha, y9, _, _, _, 31, rfl, (e8.up s9).qt, ⟨_, _, e9, qt_of (by decide +kernel), by decide +kernel, by decide +kernel⟩, by decide, fun bo H10 s10 e10 => ?_⟩
    have s810 := s9.trans s10
    walk_at "vc"
    refine r_l (w (s810)) (at_ints g0 rfl) ?_
    walk_at "vc"
    refine iteF ?_
    walk_at "vc"
    refine r_l (w (s810)) (at_ints g0 rfl) ?_
    walk_at "vc"
    refine iteF ?_
    walk_at "vc"
    refine r_l (w (s810)) (at_ints g0 rfl) ?_
    walk_at "vc"
    refine iteF ?_
    exact fin s810 (e10.mono (by decide))
  · walk_at "vc"
    refine r_l (w (Same.refl _)) (at_ints g0 rfl) ?_
    walk_at "vc"
    refine iteF ?_
    walk_at "vc"
    refine r_l (w (Same.refl _)) (at_ints g0 rfl) ?_
    walk_at "vc"
    refine iteT ?_
    walk_at "vc"
    refine r_new (mk := .tup) (by simp) fun y9 H9 s9 n9 e9 => ?_
    walk_at "vc"
    refine ⟨ha, y9, _, _, _, 31, rfl, (e8.up s9).qt, ⟨_, _, e9, qt_of (by decide +kernel), by decide +kernel, by decide +kernel⟩, by decide, fun bo H10 s10 e10 => ?_⟩
    have s810 := s9.trans s10
    walk_at "vc"
    refine r_l (w (s810)) (at_ints g0 rfl) ?_
    walk_at "vc"
    refine iteF ?_
    walk_at "vc"
    refine r_l (w (s810)) (at_ints g0 rfl) ?_
    walk_at "vc"
    refine iteF ?_
    exact fin s810 (e10.mono (by decide))
  · walk_at "vc"
    refine r_l (w (Same.refl _)) (at_ints g0 rfl) ?_
    walk_at "vc"
    refine iteF ?_
    walk_at "vc"
    refine r_l (w (Same.refl _)) (at_ints g0 rfl) ?_
    walk_at "vc"
    refine iteF ?_
    walk_at "vc"
    refine r_l (w (Same.refl _)) (at_ints g0 rfl) ?_
    walk_at "vc"
    refine iteT ?_
    walk_at "vc"
    refine r_new (mk := .tup) (by simp) fun bo H9 s9 n9 e9 => ?_
    walk_at "vc"
    refine r_l (w (s9)) (at_ints g0 rfl) ?_
    walk_at "vc"
    refine iteF ?_
    exact fin s9 ⟨0, 1, e9, Fr.whole 0, by decide +kernel, by decide +kernel⟩
  · walk_at "vc"
    refine r_l (w (Same.refl _)) (at_ints g0 rfl) ?_
    walk_at "vc"
    refine iteF ?_
    walk_at "vc"
    refine r_l (w (Same.refl _)) (at_ints g0 rfl) ?_
    walk_at "vc"
    refine iteF ?_
    walk_at "vc"
    refine r_l (w (Same.refl _)) (at_ints g0 rfl) ?_
    walk_at "vc"
    refine iteF ?_
    walk_at "vc"
    refine r_l (w (Same.refl _)) (at_ints g0 rfl) ?_
    walk_at "vc"
    refine iteT ?_
    walk_at "vc"
    refine r_l (w (Same.refl _)) (at_ints g1 rfl) ?_
    walk_at "vc"
    refine r_l (w (Same.refl _)) (at_ints g2 rfl) ?_
    walk_at "vc"
    refine ⟨_, _, rfl, by omega, sz_lt 1000 (by omega) (Nat.le_trans (by decide : 1000 ≤ 2 ^ 10) (Nat.pow_le_pow_right (by decide) (by decide))), fun ra tr br H9 s9 e9 lo9 => ?_⟩
    have f9 : FrAt H9 ra _ 10 := ⟨tr, br, e9, of_low' lo9 (by omega), (sz_lt (n := 10) 1000 (by omega)).of_le lo9.tb, (sz_lt (n := 10) 1000 (by omega)).of_le lo9.bb⟩
    walk_at "vc"
    refine ⟨ra, ha, _, _, 10, _, rfl, f9.qt, (e8.up s9).qt, by decide, fun bo H10 s10 e10 => ?_⟩
    exact fin (s9.trans s10) (e10.mono (by decide))
end
/-! ### what the top has written, and the law's own head -/
theorem all_mk {l : PySem.W.OpenLaw} {w : World} {K : PySem.W.Frag} {h : Heap} {mg : Str → Option Value} {fa : Addr} (X : K.In h) (G : h.Ns mainGlobals mg) (hfa : mg "law" = some (.ref fa))
    {f_law_cell : Addr} {od_law_cell an_law_cell : Option Addr} {sl_law_cell : Array (Option Value)} {oc_law_cell kV_law_cell dc_law_cell pm_law_cell cd_law_cell ct_law_cell : Value}
    {f_law_mix : Addr} {od_law_mix an_law_mix : Option Addr} {sl_law_mix : Array (Option Value)} {oc_law_mix kV_law_mix dc_law_mix pm_law_mix cd_law_mix ct_law_mix : Value}
    {f_law_row : Addr} {od_law_row an_law_row : Option Addr} {sl_law_row : Array (Option Value)} {oc_law_row kV_law_row dc_law_row pm_law_row cd_law_row ct_law_row : Value}
    {f_law_ratio : Addr} {od_law_ratio an_law_ratio : Option Addr} {sl_law_ratio : Array (Option Value)} {oc_law_ratio kV_law_ratio dc_law_ratio pm_law_ratio cd_law_ratio ct_law_ratio : Value}
    {f_loose_plus : Addr} {od_loose_plus an_loose_plus : Option Addr} {sl_loose_plus : Array (Option Value)} {oc_loose_plus kV_loose_plus dc_loose_plus pm_loose_plus cd_loose_plus ct_loose_plus : Value}
    {f_loose_minus : Addr} {od_loose_minus an_loose_minus : Option Addr} {sl_loose_minus : Array (Option Value)} {oc_loose_minus kV_loose_minus dc_loose_minus pm_loose_minus cd_loose_minus ct_loose_minus : Value}
    {f_loose_times : Addr} {od_loose_times an_loose_times : Option Addr} {sl_loose_times : Array (Option Value)} {oc_loose_times kV_loose_times dc_loose_times pm_loose_times cd_loose_times ct_loose_times : Value}
    {f_loose_slope : Addr} {od_loose_slope an_loose_slope : Option Addr} {sl_loose_slope : Array (Option Value)} {oc_loose_slope kV_loose_slope dc_loose_slope pm_loose_slope cd_loose_slope ct_loose_slope : Value}
    {f_loose_along : Addr} {od_loose_along an_loose_along : Option Addr} {sl_loose_along : Array (Option Value)} {oc_loose_along kV_loose_along dc_loose_along pm_loose_along cd_loose_along ct_loose_along : Value}
    {f_law_plus : Addr} {od_law_plus an_law_plus : Option Addr} {sl_law_plus : Array (Option Value)} {oc_law_plus kV_law_plus dc_law_plus pm_law_plus cd_law_plus ct_law_plus : Value}
    {f_law_minus : Addr} {od_law_minus an_law_minus : Option Addr} {sl_law_minus : Array (Option Value)} {oc_law_minus kV_law_minus dc_law_minus pm_law_minus cd_law_minus ct_law_minus : Value}
    {f_law_by : Addr} {od_law_by an_law_by : Option Addr} {sl_law_by : Array (Option Value)} {oc_law_by kV_law_by dc_law_by pm_law_by cd_law_by ct_law_by : Value}
    {f_order : Addr} {od_order an_order : Option Addr} {sl_order : Array (Option Value)} {oc_order kV_order dc_order pm_order cd_order ct_order : Value}
    {f_size : Addr} {od_size an_size : Option Addr} {sl_size : Array (Option Value)} {oc_size kV_size dc_size pm_size cd_size ct_size : Value}
    {f_loose_stand : Addr} {od_loose_stand an_loose_stand : Option Addr} {sl_loose_stand : Array (Option Value)} {oc_loose_stand kV_loose_stand dc_loose_stand pm_loose_stand cd_loose_stand ct_loose_stand : Value}
    {f_pinched : Addr} {od_pinched an_pinched : Option Addr} {sl_pinched : Array (Option Value)} {oc_pinched kV_pinched dc_pinched pm_pinched cd_pinched ct_pinched : Value}
    {f_law_less : Addr} {od_law_less an_law_less : Option Addr} {sl_law_less : Array (Option Value)} {oc_law_less kV_law_less dc_law_less pm_law_less cd_law_less ct_law_less : Value}
    {f_law_chord : Addr} {od_law_chord an_law_chord : Option Addr} {sl_law_chord : Array (Option Value)} {oc_law_chord kV_law_chord dc_law_chord pm_law_chord cd_law_chord ct_law_chord : Value}
    {f_law_three : Addr} {od_law_three an_law_three : Option Addr} {sl_law_three : Array (Option Value)} {oc_law_three kV_law_three dc_law_three pm_law_three cd_law_three ct_law_three : Value}
    {f_law_size : Addr} {od_law_size an_law_size : Option Addr} {sl_law_size : Array (Option Value)} {oc_law_size kV_law_size dc_law_size pm_law_size cd_law_size ct_law_size : Value}
    {f_law_ends : Addr} {od_law_ends an_law_ends : Option Addr} {sl_law_ends : Array (Option Value)} {oc_law_ends kV_law_ends dc_law_ends pm_law_ends cd_law_ends ct_law_ends : Value}
    {f_law_worst : Addr} {od_law_worst an_law_worst : Option Addr} {sl_law_worst : Array (Option Value)} {oc_law_worst kV_law_worst dc_law_worst pm_law_worst cd_law_worst ct_law_worst : Value}
    {f_law : Addr} {od_law an_law : Option Addr} {sl_law : Array (Option Value)} {oc_law kV_law dc_law pm_law cd_law ct_law : Value}
    (a_law_cell : PySem.W.nsIn K mainGlobals "_law_cell" = some (some (.ref f_law_cell))) (l_law_cell : K.lookup f_law_cell = some ⟨oc_law_cell, od_law_cell, .func (PySem.W.fnOf "_law_cell" "_law_cell" (defArgs s_law_cell) (defBody s_law_cell) (defScope s_law_cell) .none kV_law_cell dc_law_cell pm_law_cell an_law_cell cd_law_cell ct_law_cell), sl_law_cell⟩) (c_law_cell : PySem.W.codeIn K cd_law_cell "_law_cell" = true) (k_law_cell : PySem.W.keepIn K (.ref f_law_cell) = true)
    (a_law_mix : PySem.W.nsIn K mainGlobals "_law_mix" = some (some (.ref f_law_mix))) (l_law_mix : K.lookup f_law_mix = some ⟨oc_law_mix, od_law_mix, .func (PySem.W.fnOf "_law_mix" "_law_mix" (defArgs s_law_mix) (defBody s_law_mix) (defScope s_law_mix) .none kV_law_mix dc_law_mix pm_law_mix an_law_mix cd_law_mix ct_law_mix), sl_law_mix⟩) (c_law_mix : PySem.W.codeIn K cd_law_mix "_law_mix" = true) (k_law_mix : PySem.W.keepIn K (.ref f_law_mix) = true)
    (a_law_row : PySem.W.nsIn K mainGlobals "_law_row" = some (some (.ref f_law_row))) (l_law_row : K.lookup f_law_row = some ⟨oc_law_row, od_law_row, .func (PySem.W.fnOf "_law_row" "_law_row" (defArgs s_law_row) (defBody s_law_row) (defScope s_law_row) .none kV_law_row dc_law_row pm_law_row an_law_row cd_law_row ct_law_row), sl_law_row⟩) (c_law_row : PySem.W.codeIn K cd_law_row "_law_row" = true) (k_law_row : PySem.W.keepIn K (.ref f_law_row) = true)
    (a_law_ratio : PySem.W.nsIn K mainGlobals "_law_ratio" = some (some (.ref f_law_ratio))) (l_law_ratio : K.lookup f_law_ratio = some ⟨oc_law_ratio, od_law_ratio, .func (PySem.W.fnOf "_law_ratio" "_law_ratio" (defArgs s_law_ratio) (defBody s_law_ratio) (defScope s_law_ratio) .none kV_law_ratio dc_law_ratio pm_law_ratio an_law_ratio cd_law_ratio ct_law_ratio), sl_law_ratio⟩) (c_law_ratio : PySem.W.codeIn K cd_law_ratio "_law_ratio" = true) (k_law_ratio : PySem.W.keepIn K (.ref f_law_ratio) = true)
    (a_loose_plus : PySem.W.nsIn K mainGlobals "loose_plus" = some (some (.ref f_loose_plus))) (l_loose_plus : K.lookup f_loose_plus = some ⟨oc_loose_plus, od_loose_plus, .func (PySem.W.fnOf "loose_plus" "loose_plus" (defArgs s_loose_plus) (defBody s_loose_plus) (defScope s_loose_plus) .none kV_loose_plus dc_loose_plus pm_loose_plus an_loose_plus cd_loose_plus ct_loose_plus), sl_loose_plus⟩) (c_loose_plus : PySem.W.codeIn K cd_loose_plus "loose_plus" = true) (k_loose_plus : PySem.W.keepIn K (.ref f_loose_plus) = true)
    (a_loose_minus : PySem.W.nsIn K mainGlobals "loose_minus" = some (some (.ref f_loose_minus))) (l_loose_minus : K.lookup f_loose_minus = some ⟨oc_loose_minus, od_loose_minus, .func (PySem.W.fnOf "loose_minus" "loose_minus" (defArgs s_loose_minus) (defBody s_loose_minus) (defScope s_loose_minus) .none kV_loose_minus dc_loose_minus pm_loose_minus an_loose_minus cd_loose_minus ct_loose_minus), sl_loose_minus⟩) (c_loose_minus : PySem.W.codeIn K cd_loose_minus "loose_minus" = true) (k_loose_minus : PySem.W.keepIn K (.ref f_loose_minus) = true)
    (a_loose_times : PySem.W.nsIn K mainGlobals "loose_times" = some (some (.ref f_loose_times))) (l_loose_times : K.lookup f_loose_times = some ⟨oc_loose_times, od_loose_times, .func (PySem.W.fnOf "loose_times" "loose_times" (defArgs s_loose_times) (defBody s_loose_times) (defScope s_loose_times) .none kV_loose_times dc_loose_times pm_loose_times an_loose_times cd_loose_times ct_loose_times), sl_loose_times⟩) (c_loose_times : PySem.W.codeIn K cd_loose_times "loose_times" = true) (k_loose_times : PySem.W.keepIn K (.ref f_loose_times) = true)
    (a_loose_slope : PySem.W.nsIn K mainGlobals "loose_slope" = some (some (.ref f_loose_slope))) (l_loose_slope : K.lookup f_loose_slope = some ⟨oc_loose_slope, od_loose_slope, .func (PySem.W.fnOf "loose_slope" "loose_slope" (defArgs s_loose_slope) (defBody s_loose_slope) (defScope s_loose_slope) .none kV_loose_slope dc_loose_slope pm_loose_slope an_loose_slope cd_loose_slope ct_loose_slope), sl_loose_slope⟩) (c_loose_slope : PySem.W.codeIn K cd_loose_slope "loose_slope" = true) (k_loose_slope : PySem.W.keepIn K (.ref f_loose_slope) = true)
    (a_loose_along : PySem.W.nsIn K mainGlobals "loose_along" = some (some (.ref f_loose_along))) (l_loose_along : K.lookup f_loose_along = some ⟨oc_loose_along, od_loose_along, .func (PySem.W.fnOf "loose_along" "loose_along" (defArgs s_loose_along) (defBody s_loose_along) (defScope s_loose_along) .none kV_loose_along dc_loose_along pm_loose_along an_loose_along cd_loose_along ct_loose_along), sl_loose_along⟩) (c_loose_along : PySem.W.codeIn K cd_loose_along "loose_along" = true) (k_loose_along : PySem.W.keepIn K (.ref f_loose_along) = true)
    (a_law_plus : PySem.W.nsIn K mainGlobals "_law_plus" = some (some (.ref f_law_plus))) (l_law_plus : K.lookup f_law_plus = some ⟨oc_law_plus, od_law_plus, .func (PySem.W.fnOf "_law_plus" "_law_plus" (defArgs s_law_plus) (defBody s_law_plus) (defScope s_law_plus) .none kV_law_plus dc_law_plus pm_law_plus an_law_plus cd_law_plus ct_law_plus), sl_law_plus⟩) (c_law_plus : PySem.W.codeIn K cd_law_plus "_law_plus" = true) (k_law_plus : PySem.W.keepIn K (.ref f_law_plus) = true)
    (a_law_minus : PySem.W.nsIn K mainGlobals "_law_minus" = some (some (.ref f_law_minus))) (l_law_minus : K.lookup f_law_minus = some ⟨oc_law_minus, od_law_minus, .func (PySem.W.fnOf "_law_minus" "_law_minus" (defArgs s_law_minus) (defBody s_law_minus) (defScope s_law_minus) .none kV_law_minus dc_law_minus pm_law_minus an_law_minus cd_law_minus ct_law_minus), sl_law_minus⟩) (c_law_minus : PySem.W.codeIn K cd_law_minus "_law_minus" = true) (k_law_minus : PySem.W.keepIn K (.ref f_law_minus) = true)
    (a_law_by : PySem.W.nsIn K mainGlobals "_law_by" = some (some (.ref f_law_by))) (l_law_by : K.lookup f_law_by = some ⟨oc_law_by, od_law_by, .func (PySem.W.fnOf "_law_by" "_law_by" (defArgs s_law_by) (defBody s_law_by) (defScope s_law_by) .none kV_law_by dc_law_by pm_law_by an_law_by cd_law_by ct_law_by), sl_law_by⟩) (c_law_by : PySem.W.codeIn K cd_law_by "_law_by" = true) (k_law_by : PySem.W.keepIn K (.ref f_law_by) = true)
    (a_order : PySem.W.nsIn K mainGlobals "order" = some (some (.ref f_order))) (l_order : K.lookup f_order = some ⟨oc_order, od_order, .func (PySem.W.fnOf "order" "order" (defArgs s_order) (defBody s_order) (defScope s_order) .none kV_order dc_order pm_order an_order cd_order ct_order), sl_order⟩) (c_order : PySem.W.codeIn K cd_order "order" = true) (k_order : PySem.W.keepIn K (.ref f_order) = true)
    (a_size : PySem.W.nsIn K mainGlobals "size" = some (some (.ref f_size))) (l_size : K.lookup f_size = some ⟨oc_size, od_size, .func (PySem.W.fnOf "size" "size" (defArgs s_size) (defBody s_size) (defScope s_size) .none kV_size dc_size pm_size an_size cd_size ct_size), sl_size⟩) (c_size : PySem.W.codeIn K cd_size "size" = true) (k_size : PySem.W.keepIn K (.ref f_size) = true)
    (a_loose_stand : PySem.W.nsIn K mainGlobals "loose_stand" = some (some (.ref f_loose_stand))) (l_loose_stand : K.lookup f_loose_stand = some ⟨oc_loose_stand, od_loose_stand, .func (PySem.W.fnOf "loose_stand" "loose_stand" (defArgs s_loose_stand) (defBody s_loose_stand) (defScope s_loose_stand) .none kV_loose_stand dc_loose_stand pm_loose_stand an_loose_stand cd_loose_stand ct_loose_stand), sl_loose_stand⟩) (c_loose_stand : PySem.W.codeIn K cd_loose_stand "loose_stand" = true) (k_loose_stand : PySem.W.keepIn K (.ref f_loose_stand) = true)
    (a_pinched : PySem.W.nsIn K mainGlobals "pinched" = some (some (.ref f_pinched))) (l_pinched : K.lookup f_pinched = some ⟨oc_pinched, od_pinched, .func (PySem.W.fnOf "pinched" "pinched" (defArgs s_pinched) (defBody s_pinched) (defScope s_pinched) .none kV_pinched dc_pinched pm_pinched an_pinched cd_pinched ct_pinched), sl_pinched⟩) (c_pinched : PySem.W.codeIn K cd_pinched "pinched" = true) (k_pinched : PySem.W.keepIn K (.ref f_pinched) = true)
    (a_law_less : PySem.W.nsIn K mainGlobals "_law_less" = some (some (.ref f_law_less))) (l_law_less : K.lookup f_law_less = some ⟨oc_law_less, od_law_less, .func (PySem.W.fnOf "_law_less" "_law_less" (defArgs s_law_less) (defBody s_law_less) (defScope s_law_less) .none kV_law_less dc_law_less pm_law_less an_law_less cd_law_less ct_law_less), sl_law_less⟩) (c_law_less : PySem.W.codeIn K cd_law_less "_law_less" = true) (k_law_less : PySem.W.keepIn K (.ref f_law_less) = true)
    (a_law_chord : PySem.W.nsIn K mainGlobals "_law_chord" = some (some (.ref f_law_chord))) (l_law_chord : K.lookup f_law_chord = some ⟨oc_law_chord, od_law_chord, .func (PySem.W.fnOf "_law_chord" "_law_chord" (defArgs s_law_chord) (defBody s_law_chord) (defScope s_law_chord) .none kV_law_chord dc_law_chord pm_law_chord an_law_chord cd_law_chord ct_law_chord), sl_law_chord⟩) (c_law_chord : PySem.W.codeIn K cd_law_chord "_law_chord" = true) (k_law_chord : PySem.W.keepIn K (.ref f_law_chord) = true)
    (a_law_three : PySem.W.nsIn K mainGlobals "_law_three" = some (some (.ref f_law_three))) (l_law_three : K.lookup f_law_three = some ⟨oc_law_three, od_law_three, .func (PySem.W.fnOf "_law_three" "_law_three" (defArgs s_law_three) (defBody s_law_three) (defScope s_law_three) .none kV_law_three dc_law_three pm_law_three an_law_three cd_law_three ct_law_three), sl_law_three⟩) (c_law_three : PySem.W.codeIn K cd_law_three "_law_three" = true) (k_law_three : PySem.W.keepIn K (.ref f_law_three) = true)
    (a_law_size : PySem.W.nsIn K mainGlobals "_law_size" = some (some (.ref f_law_size))) (l_law_size : K.lookup f_law_size = some ⟨oc_law_size, od_law_size, .func (PySem.W.fnOf "_law_size" "_law_size" (defArgs s_law_size) (defBody s_law_size) (defScope s_law_size) .none kV_law_size dc_law_size pm_law_size an_law_size cd_law_size ct_law_size), sl_law_size⟩) (c_law_size : PySem.W.codeIn K cd_law_size "_law_size" = true) (k_law_size : PySem.W.keepIn K (.ref f_law_size) = true)
    (a_law_ends : PySem.W.nsIn K mainGlobals "_law_ends" = some (some (.ref f_law_ends))) (l_law_ends : K.lookup f_law_ends = some ⟨oc_law_ends, od_law_ends, .func (PySem.W.fnOf "_law_ends" "_law_ends" (defArgs s_law_ends) (defBody s_law_ends) (defScope s_law_ends) .none kV_law_ends dc_law_ends pm_law_ends an_law_ends cd_law_ends ct_law_ends), sl_law_ends⟩) (c_law_ends : PySem.W.codeIn K cd_law_ends "_law_ends" = true) (k_law_ends : PySem.W.keepIn K (.ref f_law_ends) = true)
    (a_law_worst : PySem.W.nsIn K mainGlobals "_law_worst" = some (some (.ref f_law_worst))) (l_law_worst : K.lookup f_law_worst = some ⟨oc_law_worst, od_law_worst, .func (PySem.W.fnOf "_law_worst" "_law_worst" (defArgs s_law_worst) (defBody s_law_worst) (defScope s_law_worst) .none kV_law_worst dc_law_worst pm_law_worst an_law_worst cd_law_worst ct_law_worst), sl_law_worst⟩) (c_law_worst : PySem.W.codeIn K cd_law_worst "_law_worst" = true) (k_law_worst : PySem.W.keepIn K (.ref f_law_worst) = true)
    (a_law : PySem.W.nsIn K mainGlobals "law" = some (some (.ref f_law))) (l_law : K.lookup f_law = some ⟨oc_law, od_law, .func (PySem.W.fnOf "law" "law" (defArgs s_law) (defBody s_law) (defScope s_law) .none kV_law dc_law pm_law an_law cd_law ct_law), sl_law⟩) (c_law : PySem.W.codeIn K cd_law "law" = true) (k_law : PySem.W.keepIn K (.ref f_law) = true)
    (z_len : PySem.W.nsIn K mainGlobals "len" = some none) (z_abs : PySem.W.nsIn K mainGlobals "abs" = some none) (z_range : PySem.W.nsIn K mainGlobals "range" = some none) (z_isinstance : PySem.W.nsIn K mainGlobals "isinstance" = some none) (z_int : PySem.W.nsIn K mainGlobals "int" = some none) (z_bool : PySem.W.nsIn K mainGlobals "bool" = some none) (z_tuple : PySem.W.nsIn K mainGlobals "tuple" = some none) (z_list : PySem.W.nsIn K mainGlobals "list" = some none) (z_max : PySem.W.nsIn K mainGlobals "max" = some none) (z_min : PySem.W.nsIn K mainGlobals "min" = some none) (z_enumerate : PySem.W.nsIn K mainGlobals "enumerate" = some none) (z_zip : PySem.W.nsIn K mainGlobals "zip" = some none) (z_all : PySem.W.nsIn K mainGlobals "all" = some none) (z_any : PySem.W.nsIn K mainGlobals "any" = some none) (z_sum : PySem.W.nsIn K mainGlobals "sum" = some none) (z_sorted : PySem.W.nsIn K mainGlobals "sorted" = some none) (z_reversed : PySem.W.nsIn K mainGlobals "reversed" = some none) (z_str : PySem.W.nsIn K mainGlobals "str" = some none) :
    ∃ fd : FuncData, (∀ (s : Shared) (v : Value), BindsTo s fd ⟨[v], []⟩ [("_law_script", v)]) ∧ ∀ base : Heap, K.In base → base.Ns mainGlobals mg → FnOk l.prog w K mg base CX0 6 fa fd ["_law_script"] (spLaw K) := by
  have e := hfa.symm.trans (PySem.W.mg_of X G a_law)
  cases e
  have T : Txt mg := ⟨PySem.W.mg_none_of X G z_len, PySem.W.mg_none_of X G z_abs, PySem.W.mg_none_of X G z_range, PySem.W.mg_none_of X G z_isinstance, PySem.W.mg_none_of X G z_int, PySem.W.mg_none_of X G z_bool, PySem.W.mg_none_of X G z_tuple, PySem.W.mg_none_of X G z_list, PySem.W.mg_none_of X G z_max, PySem.W.mg_none_of X G z_min, PySem.W.mg_none_of X G z_enumerate, PySem.W.mg_none_of X G z_zip, PySem.W.mg_none_of X G z_all, PySem.W.mg_none_of X G z_any, PySem.W.mg_none_of X G z_sum, PySem.W.mg_none_of X G z_sorted, PySem.W.mg_none_of X G z_reversed, PySem.W.mg_none_of X G z_str⟩
  have F_law_cell := fun_mk (st := s_law_cell) l_law_cell c_law_cell k_law_cell
  have M_law_cell := PySem.W.mg_of X G a_law_cell
  have B_law_cell := F_law_cell.binds (ps := ["_law_script", "_law_place"]) fun _ _ _ _ _ _ us hl => match us, hl with | [_, _], _ => rfl
  have F_law_mix := fun_mk (st := s_law_mix) l_law_mix c_law_mix k_law_mix
  have M_law_mix := PySem.W.mg_of X G a_law_mix
  have B_law_mix := F_law_mix.binds (ps := ["_law_cell_here", "_law_k"]) fun _ _ _ _ _ _ us hl => match us, hl with | [_, _], _ => rfl
  have F_law_row := fun_mk (st := s_law_row) l_law_row c_law_row k_law_row
  have M_law_row := PySem.W.mg_of X G a_law_row
  have B_law_row := F_law_row.binds (ps := ["_law_script", "_law_place", "_law_sizes"]) fun _ _ _ _ _ _ us hl => match us, hl with | [_, _, _], _ => rfl
  have F_law_ratio := fun_mk (st := s_law_ratio) l_law_ratio c_law_ratio k_law_ratio
  have M_law_ratio := PySem.W.mg_of X G a_law_ratio
  have B_law_ratio := F_law_ratio.binds (ps := ["_law_top", "_law_bottom"]) fun _ _ _ _ _ _ us hl => match us, hl with | [_, _], _ => rfl
  have F_loose_plus := fun_mk (st := s_loose_plus) l_loose_plus c_loose_plus k_loose_plus
  have M_loose_plus := PySem.W.mg_of X G a_loose_plus
  have B_loose_plus := F_loose_plus.binds (ps := ["one", "other"]) fun _ _ _ _ _ _ us hl => match us, hl with | [_, _], _ => rfl
  have F_loose_minus := fun_mk (st := s_loose_minus) l_loose_minus c_loose_minus k_loose_minus
  have M_loose_minus := PySem.W.mg_of X G a_loose_minus
  have B_loose_minus := F_loose_minus.binds (ps := ["one", "other"]) fun _ _ _ _ _ _ us hl => match us, hl with | [_, _], _ => rfl
  have F_loose_times := fun_mk (st := s_loose_times) l_loose_times c_loose_times k_loose_times
  have M_loose_times := PySem.W.mg_of X G a_loose_times
  have B_loose_times := F_loose_times.binds (ps := ["one", "other"]) fun _ _ _ _ _ _ us hl => match us, hl with | [_, _], _ => rfl
  have F_loose_slope := fun_mk (st := s_loose_slope) l_loose_slope c_loose_slope k_loose_slope
  have M_loose_slope := PySem.W.mg_of X G a_loose_slope
  have B_loose_slope := F_loose_slope.binds (ps := ["one", "other"]) fun _ _ _ _ _ _ us hl => match us, hl with | [_, _], _ => rfl
  have F_loose_along := fun_mk (st := s_loose_along) l_loose_along c_loose_along k_loose_along
  have M_loose_along := PySem.W.mg_of X G a_loose_along
  have B_loose_along := F_loose_along.binds (ps := ["steep", "sample", "moment"]) fun _ _ _ _ _ _ us hl => match us, hl with | [_, _, _], _ => rfl
  have F_law_plus := fun_mk (st := s_law_plus) l_law_plus c_law_plus k_law_plus
  have M_law_plus := PySem.W.mg_of X G a_law_plus
  have B_law_plus := F_law_plus.binds (ps := ["_law_one", "_law_other"]) fun _ _ _ _ _ _ us hl => match us, hl with | [_, _], _ => rfl
  have F_law_minus := fun_mk (st := s_law_minus) l_law_minus c_law_minus k_law_minus
  have M_law_minus := PySem.W.mg_of X G a_law_minus
  have B_law_minus := F_law_minus.binds (ps := ["_law_one", "_law_other"]) fun _ _ _ _ _ _ us hl => match us, hl with | [_, _], _ => rfl
  have F_law_by := fun_mk (st := s_law_by) l_law_by c_law_by k_law_by
  have M_law_by := PySem.W.mg_of X G a_law_by
  have B_law_by := F_law_by.binds (ps := ["_law_one", "_law_other"]) fun _ _ _ _ _ _ us hl => match us, hl with | [_, _], _ => rfl
  have F_order := fun_mk (st := s_order) l_order c_order k_order
  have M_order := PySem.W.mg_of X G a_order
  have B_order := F_order.binds (ps := ["one", "other"]) fun _ _ _ _ _ _ us hl => match us, hl with | [_, _], _ => rfl
  have F_size := fun_mk (st := s_size) l_size c_size k_size
  have M_size := PySem.W.mg_of X G a_size
  have B_size := F_size.binds (ps := ["one"]) fun _ _ _ _ _ _ us hl => match us, hl with | [_], _ => rfl
  have F_loose_stand := fun_mk (st := s_loose_stand) l_loose_stand c_loose_stand k_loose_stand
  have M_loose_stand := PySem.W.mg_of X G a_loose_stand
  have B_loose_stand := F_loose_stand.binds (ps := ["one", "mid", "last"]) fun _ _ _ _ _ _ us hl => match us, hl with | [_, _, _], _ => rfl
  have F_pinched := fun_mk (st := s_pinched) l_pinched c_pinched k_pinched
  have M_pinched := PySem.W.mg_of X G a_pinched
  have B_pinched := F_pinched.binds (ps := ["one", "mid", "last", "bound"]) fun _ _ _ _ _ _ us hl => match us, hl with | [_, _, _, _], _ => rfl
  have F_law_less := fun_mk (st := s_law_less) l_law_less c_law_less k_law_less
  have M_law_less := PySem.W.mg_of X G a_law_less
  have B_law_less := F_law_less.binds (ps := ["_law_one", "_law_other"]) fun _ _ _ _ _ _ us hl => match us, hl with | [_, _], _ => rfl
  have F_law_chord := fun_mk (st := s_law_chord) l_law_chord c_law_chord k_law_chord
  have M_law_chord := PySem.W.mg_of X G a_law_chord
  have B_law_chord := F_law_chord.binds (ps := ["_law_one", "_law_when", "_law_last"]) fun _ _ _ _ _ _ us hl => match us, hl with | [_, _, _], _ => rfl
  have F_law_three := fun_mk (st := s_law_three) l_law_three c_law_three k_law_three
  have M_law_three := PySem.W.mg_of X G a_law_three
  have B_law_three := F_law_three.binds (ps := ["_law_script", "_law_place"]) fun _ _ _ _ _ _ us hl => match us, hl with | [_, _], _ => rfl
  have F_law_size := fun_mk (st := s_law_size) l_law_size c_law_size k_law_size
  have M_law_size := PySem.W.mg_of X G a_law_size
  have B_law_size := F_law_size.binds (ps := ["_law_one"]) fun _ _ _ _ _ _ us hl => match us, hl with | [_], _ => rfl
  have F_law_ends := fun_mk (st := s_law_ends) l_law_ends c_law_ends k_law_ends
  have M_law_ends := PySem.W.mg_of X G a_law_ends
  have B_law_ends := F_law_ends.binds (ps := ["_law_three_here", "_law_low", "_law_high"]) fun _ _ _ _ _ _ us hl => match us, hl with | [_, _, _], _ => rfl
  have F_law_worst := fun_mk (st := s_law_worst) l_law_worst c_law_worst k_law_worst
  have M_law_worst := PySem.W.mg_of X G a_law_worst
  have B_law_worst := F_law_worst.binds (ps := ["_law_three_here", "_law_heights"]) fun _ _ _ _ _ _ us hl => match us, hl with | [_, _], _ => rfl
  have F_law := fun_mk (st := s_law) l_law c_law k_law
  have M_law := PySem.W.mg_of X G a_law
  have B_law := F_law.binds (ps := ["_law_script"]) fun _ _ _ _ _ _ us hl => match us, hl with | [_], _ => rfl
  refine ⟨PySem.W.fnOf "law" "law" (defArgs s_law) (defBody s_law) (defScope s_law) .none kV_law dc_law pm_law an_law cd_law ct_law, fun s v => .of_eq rfl, fun base _ _ => ?_⟩
  have D_law_cell : Dn l.prog w K mg base 1 "_law_cell" ["_law_script", "_law_place"] (spCell K) := dn_mk F_law_cell (ok_law_cell F_law_cell T) M_law_cell B_law_cell
  have D_law_mix : Dn l.prog w K mg base 1 "_law_mix" ["_law_cell_here", "_law_k"] spMix := dn_mk F_law_mix (ok_law_mix F_law_mix ) M_law_mix B_law_mix
  have D_law_row : Dn l.prog w K mg base 3 "_law_row" ["_law_script", "_law_place", "_law_sizes"] (spRow K) := dn_mk F_law_row (ok_law_row F_law_row T D_law_cell D_law_mix) M_law_row B_law_row
  have D_law_ratio : Dn l.prog w K mg base 1 "_law_ratio" ["_law_top", "_law_bottom"] spRatio := dn_mk F_law_ratio (ok_law_ratio F_law_ratio T) M_law_ratio B_law_ratio
  have D_loose_plus : Dn l.prog w K mg base 1 "loose_plus" ["one", "other"] (spTwo (· + ·) 1) := dn_mk F_loose_plus (ok_loose_plus F_loose_plus ) M_loose_plus B_loose_plus
  have D_loose_minus : Dn l.prog w K mg base 1 "loose_minus" ["one", "other"] (spTwo (· - ·) 1) := dn_mk F_loose_minus (ok_loose_minus F_loose_minus ) M_loose_minus B_loose_minus
  have D_loose_times : Dn l.prog w K mg base 1 "loose_times" ["one", "other"] (spTwo (· * ·) 0) := dn_mk F_loose_times (ok_loose_times F_loose_times ) M_loose_times B_loose_times
  have D_loose_slope : Dn l.prog w K mg base 3 "loose_slope" ["one", "other"] spLslope := dn_mk F_loose_slope (ok_loose_slope F_loose_slope D_loose_minus) M_loose_slope B_loose_slope
  have D_loose_along : Dn l.prog w K mg base 3 "loose_along" ["steep", "sample", "moment"] spLalong := dn_mk F_loose_along (ok_loose_along F_loose_along D_loose_plus D_loose_times) M_loose_along B_loose_along
  have D_law_plus : Dn l.prog w K mg base 3 "_law_plus" ["_law_one", "_law_other"] (spTwoF (· + ·) 1) := dn_mk F_law_plus (ok_law_plus F_law_plus D_law_ratio) M_law_plus B_law_plus
  have D_law_minus : Dn l.prog w K mg base 3 "_law_minus" ["_law_one", "_law_other"] (spTwoF (· - ·) 1) := dn_mk F_law_minus (ok_law_minus F_law_minus D_law_ratio) M_law_minus B_law_minus
  have D_law_by : Dn l.prog w K mg base 3 "_law_by" ["_law_one", "_law_other"] (spTwoF (· * ·) 0) := dn_mk F_law_by (ok_law_by F_law_by D_law_ratio) M_law_by B_law_by
  have D_order : Dn l.prog w K mg base 1 "order" ["one", "other"] spOrderQ := dn_mk F_order (ok_order F_order ) M_order B_order
  have D_size : Dn l.prog w K mg base 1 "size" ["one"] spSizeQ := dn_mk F_size (ok_size F_size T) M_size B_size
  have D_loose_stand : Dn l.prog w K mg base 4 "loose_stand" ["one", "mid", "last"] spLstand := dn_mk F_loose_stand (ok_loose_stand F_loose_stand D_loose_minus D_loose_along D_loose_slope) M_loose_stand B_loose_stand
  have D_pinched : Dn l.prog w K mg base 5 "pinched" ["one", "mid", "last", "bound"] spPinched := dn_mk F_pinched (ok_pinched F_pinched D_order D_size D_loose_stand D_loose_times) M_pinched B_pinched
  have D_law_less : Dn l.prog w K mg base 1 "_law_less" ["_law_one", "_law_other"] spLess := dn_mk F_law_less (ok_law_less F_law_less ) M_law_less B_law_less
  have D_law_chord : Dn l.prog w K mg base 4 "_law_chord" ["_law_one", "_law_when", "_law_last"] spChord := dn_mk F_law_chord (ok_law_chord F_law_chord D_law_by D_law_plus D_law_ratio) M_law_chord B_law_chord
  have D_law_three : Dn l.prog w K mg base 5 "_law_three" ["_law_script", "_law_place"] (spThree K) := dn_mk F_law_three (ok_law_three F_law_three T D_law_row D_law_ratio D_law_plus D_law_chord) M_law_three B_law_three
  have D_law_size : Dn l.prog w K mg base 1 "_law_size" ["_law_one"] spSizeF := dn_mk F_law_size (ok_law_size F_law_size T) M_law_size B_law_size
  have D_law_ends : Dn l.prog w K mg base 5 "_law_ends" ["_law_three_here", "_law_low", "_law_high"] spEnds := dn_mk F_law_ends (ok_law_ends F_law_ends D_law_chord) M_law_ends B_law_ends
  have D_law_worst : Dn l.prog w K mg base 4 "_law_worst" ["_law_three_here", "_law_heights"] spWorst := dn_mk F_law_worst (ok_law_worst F_law_worst T D_law_size D_law_minus D_law_less) M_law_worst B_law_worst
  exact ok_law F_law T D_law_row D_law_ratio D_law_plus D_law_minus D_law_by D_law_chord D_law_size D_law_less D_law_three D_law_ends D_law_worst D_pinched
theorem walk {l : PySem.W.OpenLaw} {q : Program} {loose : List Str} {XP : (Str → Option Value) → Heap → Prop} {YP : World → Heap → Prop} {d : DefRec} {K : Params → PySem.W.Frag} (hn : l.most = some 63) (hdf : d.params.defaults = [])
    (hY : ∀ (w : World) (h : Heap), YP w h → (K w.params).In h)
    (F : ∀ (w : World) (mg : Str → Option Value) (fa : Addr) (h : Heap), (K w.params).In h → h.Ns mainGlobals mg → mg d.name = some (.ref fa) →
      ∃ fd : FuncData, (∀ (s : Shared) (u : Value), BindsTo s fd ⟨[u], []⟩ [("_law_script", u)]) ∧ ∀ base : Heap, (K w.params).In base → base.Ns mainGlobals mg → FnOk l.prog w (K w.params) mg base CX0 6 fa fd ["_law_script"] (spLaw (K w.params))) :
    PySem.W.WalkO q loose XP YP l.row.toRowW d [] (fun f vs => PySem.call f vs) :=
  L2.walk_of (n := 63) (k := 6) (x := "_law_script") (CX := fun _ => CX0) (sp := fun w => spLaw (K w.params)) hn (by decide) hdf ⟨rfl, by decide, by decide⟩ hY F (fun _ _ a ns hl _ hS => ⟨a, ns, rfl, hS, hl, fun _ => rfl⟩) fun _ _ _ _ _ z => z
end Lw
open PySem PySem.W PyProof.Rows
set_option maxRecDepth 100000 in
set_option maxHeartbeats 0 in
theorem PySem.Challenge.cw_lath_k24_pinched_holds : PySem.Challenge.rw_lath_k24_pinched.Holds := by
  w_on; o_law; k_head; (case hw => w_witness2)
  k_fill
  refine Lw.walk (l := PySem.Challenge.rw_lath_k24_pinched) rfl rfl (fun w h Y => PySem.W.kIn_of Y) ?F
  case F =>
    intro w mg fa h KX G hmg
    refine' Lw.all_mk KX G hmg ?a_law_cell ?l_law_cell ?c_law_cell ?k_law_cell ?a_law_mix ?l_law_mix ?c_law_mix ?k_law_mix ?a_law_row ?l_law_row ?c_law_row ?k_law_row ?a_law_ratio ?l_law_ratio ?c_law_ratio ?k_law_ratio ?a_loose_plus ?l_loose_plus ?c_loose_plus ?k_loose_plus ?a_loose_minus ?l_loose_minus ?c_loose_minus ?k_loose_minus ?a_loose_times ?l_loose_times ?c_loose_times ?k_loose_times ?a_loose_slope ?l_loose_slope ?c_loose_slope ?k_loose_slope ?a_loose_along ?l_loose_along ?c_loose_along ?k_loose_along ?a_law_plus ?l_law_plus ?c_law_plus ?k_law_plus ?a_law_minus ?l_law_minus ?c_law_minus ?k_law_minus ?a_law_by ?l_law_by ?c_law_by ?k_law_by ?a_order ?l_order ?c_order ?k_order ?a_size ?l_size ?c_size ?k_size ?a_loose_stand ?l_loose_stand ?c_loose_stand ?k_loose_stand ?a_pinched ?l_pinched ?c_pinched ?k_pinched ?a_law_less ?l_law_less ?c_law_less ?k_law_less ?a_law_chord ?l_law_chord ?c_law_chord ?k_law_chord ?a_law_three ?l_law_three ?c_law_three ?k_law_three ?a_law_size ?l_law_size ?c_law_size ?k_law_size ?a_law_ends ?l_law_ends ?c_law_ends ?k_law_ends ?a_law_worst ?l_law_worst ?c_law_worst ?k_law_worst ?a_law ?l_law ?c_law ?k_law  ?z_len ?z_abs ?z_range ?z_isinstance ?z_int ?z_bool ?z_tuple ?z_list ?z_max ?z_min ?z_enumerate ?z_zip ?z_all ?z_any ?z_sum ?z_sorted ?z_reversed ?z_str
    (case a_law_cell => k_is); (case l_law_cell => k_is); (case c_law_cell => k_is); (case k_law_cell => k_is)
    (case a_law_mix => k_is); (case l_law_mix => k_is); (case c_law_mix => k_is); (case k_law_mix => k_is)
    (case a_law_row => k_is); (case l_law_row => k_is); (case c_law_row => k_is); (case k_law_row => k_is)
    (case a_law_ratio => k_is); (case l_law_ratio => k_is); (case c_law_ratio => k_is); (case k_law_ratio => k_is)
    (case a_loose_plus => k_is); (case l_loose_plus => k_is); (case c_loose_plus => k_is); (case k_loose_plus => k_is)
    (case a_loose_minus => k_is); (case l_loose_minus => k_is); (case c_loose_minus => k_is); (case k_loose_minus => k_is)
    (case a_loose_times => k_is); (case l_loose_times => k_is); (case c_loose_times => k_is); (case k_loose_times => k_is)
    (case a_loose_slope => k_is); (case l_loose_slope => k_is); (case c_loose_slope => k_is); (case k_loose_slope => k_is)
    (case a_loose_along => k_is); (case l_loose_along => k_is); (case c_loose_along => k_is); (case k_loose_along => k_is)
    (case a_law_plus => k_is); (case l_law_plus => k_is); (case c_law_plus => k_is); (case k_law_plus => k_is)
    (case a_law_minus => k_is); (case l_law_minus => k_is); (case c_law_minus => k_is); (case k_law_minus => k_is)
    (case a_law_by => k_is); (case l_law_by => k_is); (case c_law_by => k_is); (case k_law_by => k_is)
    (case a_order => k_is); (case l_order => k_is); (case c_order => k_is); (case k_order => k_is)
    (case a_size => k_is); (case l_size => k_is); (case c_size => k_is); (case k_size => k_is)
    (case a_loose_stand => k_is); (case l_loose_stand => k_is); (case c_loose_stand => k_is); (case k_loose_stand => k_is)
    (case a_pinched => k_is); (case l_pinched => k_is); (case c_pinched => k_is); (case k_pinched => k_is)
    (case a_law_less => k_is); (case l_law_less => k_is); (case c_law_less => k_is); (case k_law_less => k_is)
    (case a_law_chord => k_is); (case l_law_chord => k_is); (case c_law_chord => k_is); (case k_law_chord => k_is)
    (case a_law_three => k_is); (case l_law_three => k_is); (case c_law_three => k_is); (case k_law_three => k_is)
    (case a_law_size => k_is); (case l_law_size => k_is); (case c_law_size => k_is); (case k_law_size => k_is)
    (case a_law_ends => k_is); (case l_law_ends => k_is); (case c_law_ends => k_is); (case k_law_ends => k_is)
    (case a_law_worst => k_is); (case l_law_worst => k_is); (case c_law_worst => k_is); (case k_law_worst => k_is)
    (case a_law => k_is); (case l_law => k_is); (case c_law => k_is); (case k_law => k_is)
    (case z_len => k_is); (case z_abs => k_is); (case z_range => k_is); (case z_isinstance => k_is); (case z_int => k_is); (case z_bool => k_is); (case z_tuple => k_is); (case z_list => k_is); (case z_max => k_is); (case z_min => k_is); (case z_enumerate => k_is); (case z_zip => k_is); (case z_all => k_is); (case z_any => k_is); (case z_sum => k_is); (case z_sorted => k_is); (case z_reversed => k_is); (case z_str => k_is)

