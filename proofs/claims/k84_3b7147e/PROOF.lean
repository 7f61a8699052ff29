import PyProof.Rows.All
import Wide.All
import OpenK.AllK
import Wide.FinOn
import Lean
import PyProof.EqAt
import PyProof.EqKinds
import PyProof.TupleCall
import PySem.Challenge.RW_lath_k84_whole_words
set_option Elab.async false
set_option linter.all false
set_option maxRecDepth 100000
theorem au0_ (h : 1 = 1 := by rfl) : 1 = 1 := h
theorem au1_ (h : 1 = 1 := by decide) : 1 = 1 := h
theorem au2_ (h : 1 = 1 := by intro _; rfl) : 1 = 1 := h

namespace PySem.W.Fast
def tw10709058253658383083 := ()
def tw15401830066916054160 := ()
def tw6701420222880709664 := ()
def tw12388033564555871328 := ()
def tw14788623159228681440 := ()
def tw2345829839448000768 := ()
def tw6036343200861999648 := ()
def tw5432615979018710656 := ()
def tw4974923961913803744 := ()
def tw16992267122753988641 := ()
def tw13607317883435701409 := ()
def tw3065997690540898529 := ()
def tw10375263356983043649 := ()
def tw14304221994055149121 := ()
def tw2030664771619943169 := ()
def tw3610865018325624705 := ()
def tw16355153404063086529 := ()
def tw7700708228774712418 := ()
def tw18051268175707313410 := ()
def tw3604419870321989058 := ()
def tw13710334063916645411 := ()
def tw10052394056661854307 := ()
def tw1726495332111703491 := ()
def tw4337154756014474947 := ()
def tw5616380812693310339 := ()
def tw11104162157323411460 := ()
def tw9612566718052003876 := ()
def tw12592234855291900996 := ()
def tw15857441345193706788 := ()
def tw6652330406501351812 := ()
def tw8519184901818003908 := ()
def tw12908374054100635108 := ()
def tw14822705286115225508 := ()
def tw16867205021155904452 := ()
def tw2980245707351324612 := ()
def tw47817616149637157 := ()
def tw8842062708138057349 := ()
def tw12830023104390303461 := ()
def tw9263612020633881573 := ()
def tw3156690110496089061 := ()
def tw2154149847818667014 := ()
def tw15925760711811163398 := ()
def tw5331390798841914630 := ()
def tw7246893236782093670 := ()
def tw1907753149235154983 := ()
def tw12279093558634903847 := ()
def tw17652212446374114983 := ()
def tw3702687314073370535 := ()
def tw1295118393007616967 := ()
def tw2712198489395783720 := ()
def tw17306097575680305224 := ()
def tw5354769825544589512 := ()
def tw7851757222719413512 := ()
def tw15715965233963135336 := ()
def tw5304172051143751528 := ()
def tw7325481466251210696 := ()
def tw11315792842944039945 := ()
def tw8915458318309312713 := ()
def tw4572064053414380777 := ()
def tw1539733389528272169 := ()
def tw14389611335050069321 := ()
def tw9562634349521960297 := ()
def tw12703365946351806825 := ()
def tw6607377668605091305 := ()
def tw6136379796655426057 := ()
def tw13886294884741325449 := ()
def tw10969094685264492233 := ()
def tw16835951852355297161 := ()
def tw9019371730913705865 := ()
def tw253490879465641929 := ()
def tw1498771665295796266 := ()
def tw13918878030183333130 := ()
def tw14480511460407670090 := ()
def tw6597872868657661290 := ()
def tw4489480916379590026 := ()
def tw13965051036796203498 := ()
def tw3282954115461497418 := ()
def tw11735461709274678890 := ()
def tw9100383186617759498 := ()
def tw16487948698384309098 := ()
def tw6147632635872663466 := ()
def tw13681667577401236458 := ()
def tw6505788058849403882 := ()
def tw17677405977209320523 := ()
def tw17878777508290487371 := ()
def tw14662088464917439627 := ()
def tw2403039437090430155 := ()
def tw10654556728052172043 := ()
def tw6520903232462256427 := ()
def tw8561449647622507819 := ()
def tw9776409238562350571 := ()
def tw2495511148058460011 := ()
def tw8504727815999873995 := ()
def tw2305392742422202347 := ()
def tw3220886382289934348 := ()
def tw429025404833708236 := ()
def tw9167243802003668492 := ()
def tw10853994996028013196 := ()
def tw10383338749721721708 := ()
def tw5416848787906591949 := ()
def tw12406588590043860237 := ()
def tw6597448397768350541 := ()
def tw11131970655396318254 := ()
def tw10080621206849495182 := ()
def tw9184252977884906670 := ()
def tw6143034235985348878 := ()
def tw12542269970937641550 := ()
def tw13915372844450487918 := ()
def tw14084697728294634382 := ()
def tw611075783925560270 := ()
def tw10177075330211343342 := ()
def tw18365573085358583887 := ()
def tw11870969326896887919 := ()
def tw14548266790718968143 := ()
def tw9252977588923466095 := ()
def tw8366521525373067727 := ()
def tw14081444596094771695 := ()
def tw9130214783154146831 := ()
def tw16902757553046201903 := ()
def tw16225864206823439951 := ()
def tw14159877460228987631 := ()
def tw9205190453154089871 := ()
def tw3055841671435853775 := ()
def tw9515915601965542544 := ()
def tw13772799992887267536 := ()
def tw13048391374303995120 := ()
def tw16996363569725860176 := ()
def tw9737055128266832336 := ()
def tw10545200482844356080 := ()
def tw1638480302942757840 := ()
def tw8462090886256599121 := ()
def tw10777963919689371729 := ()
def tw6681938024284259601 := ()
def tw2025470355475491089 := ()
def tw7640942187731373361 := ()
def tw8792007879433373425 := ()
def tw112385174431551441 := ()
def tw8957520405972530161 := ()
def tw15308704004362906962 := ()
def tw7242161875324542418 := ()
def tw18430035837857397362 := ()
def tw14614311940818132754 := ()
def tw10174877994710338450 := ()
def tw526635513918747570 := ()
def tw6607300472317338578 := ()
def tw5857479213340986611 := ()
def tw2807131790033164755 := ()
def tw2702776312243401235 := ()
def tw11619854018183097364 := ()
def tw3557481095265630452 := ()
def tw9180014114387881300 := ()
def tw11640108975821970900 := ()
def tw9979712220223119988 := ()
def tw15225650363720197844 := ()
def tw17481695307013803860 := ()
def tw9729218983125384116 := ()
def tw14004411552782615540 := ()
def tw9541517727768859701 := ()
def tw13994913403078962421 := ()
def tw16719107225170753813 := ()
def tw7887713765921131861 := ()
def tw2091988363137418741 := ()
def tw9689936284503468597 := ()
def tw11044589481444372181 := ()
def tw12430481453811533717 := ()
def tw18441339967161083861 := ()
def tw17193101731845617653 := ()
def tw10856517244544469494 := ()
def tw3923065485340028438 := ()
def tw14939221457302657750 := ()
def tw4960997559362239254 := ()
def tw14777840094942628055 := ()
def tw11054665187875100087 := ()
def tw7332413198773470647 := ()
def tw17946527878714558295 := ()
def tw14824675408014954423 := ()
def tw12021378957550751768 := ()
def tw9691486801592102296 := ()
def tw4574505458289402392 := ()
def tw16876262118249145880 := ()
def tw845416079252652664 := ()
def tw6825143643620451064 := ()
def tw17008701289131087672 := ()
def tw1187586330320288568 := ()
def tw7489182867843041208 := ()
def tw12765220107496046649 := ()
def tw3151760211118201241 := ()
def tw18012222049991809689 := ()
def tw3134126647060060857 := ()
def tw3056307584057055193 := ()
def tw17847092111899923417 := ()
def tw5797653005620247610 := ()
def tw13241799214327490266 := ()
def tw10744256545275707130 := ()
def tw3821819538923568090 := ()
def tw7100392809529871419 := ()
def tw16257914411152805275 := ()
def tw12429276779710834267 := ()
def tw2522592677660278459 := ()
def tw4745787593637507867 := ()
def tw13402888915717263420 := ()
def tw6772819517802084508 := ()
def tw1280223486701161660 := ()
def tw17369041499750560028 := ()
def tw5385412406547976860 := ()
def tw13124575712123695772 := ()
def tw2600708263085006556 := ()
def tw708838226484001532 := ()
def tw9080663607929294909 := ()
def tw17954059528999735037 := ()
def tw14125596944361690045 := ()
def tw292667115506368670 := ()
def tw10384543553281333438 := ()
def tw6020351459262917022 := ()
def tw6725513978129658430 := ()
def tw11559377026121950942 := ()
def tw6117766255332703038 := ()
def tw11513822309482453151 := ()
def tw8777479366900258207 := ()
def tw13242516931698097663 := ()
def tw6201800046160165439 := ()
def tw17547730667375298367 := ()
def tw3748104839763199839 := ()
def tw7915256919784104799 := ()
def tw8570585624848973663 := ()
end PySem.W.Fast

namespace L2
open PySem PySem.Spec PyProof.Rows

noncomputable abbrev Key := Sum Int Str
noncomputable def keyIs : Key → Value → Bool
  | .inl k, v => Value.isInt k v
  | .inr x, v => Value.isStrOf x v
noncomputable def keyH (w : World) : Key → Int
  | .inl k => hashInt k
  | .inr x => hashStr w x
theorem keyIs_shape : ∀ {k : Key} {v : Value}, keyIs k v = true → (∃ i t, k = Sum.inl i ∧ v = Value.int i t) ∨ (∃ x t, k = Sum.inr x ∧ v = Value.str x t)
  | .inl i, v, h => by
    obtain ⟨t, e⟩ := Value.isInt_shape (k := i) (v := v) h
    exact .inl ⟨i, t, rfl, e⟩
  | .inr x, v, h => by
    obtain ⟨t, e⟩ := Value.isStrOf_shape (x := x) (v := v) h
    exact .inr ⟨x, t, rfl, e⟩
theorem key_ll (a b : Int) : decide ((Sum.inl a : Key) = Sum.inl b) = (a == b) := by
  by_cases e : a = b
  · subst e; simp
  · have h : ¬ (Sum.inl a : Key) = Sum.inl b := fun q => e (Sum.inl.inj q)
    rw [decide_eq_false h]
    exact (beq_eq_false_iff_ne.mpr e).symm
theorem key_rr (a b : Str) : decide ((Sum.inr a : Key) = Sum.inr b) = decide (a = b) := by
  by_cases e : a = b
  · subst e; simp
  · have h : ¬ (Sum.inr a : Key) = Sum.inr b := fun q => e (Sum.inr.inj q)
    rw [decide_eq_false h, decide_eq_false e]
theorem key_lr (a : Int) (b : Str) : decide ((Sum.inl a : Key) = Sum.inr b) = false := decide_eq_false (fun q => nomatch q)
theorem key_rl (a : Str) (b : Int) : decide ((Sum.inr a : Key) = Sum.inl b) = false := decide_eq_false (fun q => nomatch q)

noncomputable def mixKind (prog : Program) (w : World) : PySem.KeyKind prog w Key where
  is := keyIs
  hash := keyH w
  inj := fun v a b ha hb => by
    rcases keyIs_shape ha with ⟨i, t, rfl, rfl⟩ | ⟨x, t, rfl, rfl⟩
    · rcases keyIs_shape hb with ⟨j, u, rfl, e⟩ | ⟨y, u, rfl, e⟩
      · injection e with e1 _; rw [e1]
      · exact nomatch e
    · rcases keyIs_shape hb with ⟨j, u, rfl, e⟩ | ⟨y, u, rfl, e⟩
      · exact nomatch e
      · injection e with e1 _; rw [e1]
  byValue := fun k v h => by
    rcases keyIs_shape h with ⟨i, t, rfl, rfl⟩ | ⟨x, t, rfl, rfl⟩ <;> rfl
  pyHash := fun hv h => by
    rcases keyIs_shape hv with ⟨i, t, rfl, rfl⟩ | ⟨x, t, rfl, rfl⟩
    · exact wpAny_pyHash_int h
    · exact wpAny_pyHash_str h
  eqBool := fun hu hv h => by
    rcases keyIs_shape hu with ⟨i, t, rfl, rfl⟩ | ⟨x, t, rfl, rfl⟩
    · rcases keyIs_shape hv with ⟨j, u, rfl, rfl⟩ | ⟨y, u, rfl, rfl⟩
      · rw [key_ll] at h; exact wpAny_eqBool_int h
      · rw [key_lr] at h; exact SeqAt.EqAt.int_str i t y u _ _ _ _ h
    · rcases keyIs_shape hv with ⟨j, u, rfl, rfl⟩ | ⟨y, u, rfl, rfl⟩
      · rw [key_rl] at h; exact SeqAt.EqAt.str_int x t j u _ _ _ _ h
      · rw [key_rr] at h; exact wpAny_eqBool_str h
  «strs» := fun k x t v h => by
    rcases keyIs_shape h with ⟨i, u, rfl, e⟩ | ⟨y, u, rfl, e⟩
    · exact nomatch e
    · injection e with e1 _
      subst e1
      cases v <;> rfl

end L2

namespace L2
open PySem PySem.Spec PyProof.Rows

inductive V where
  | non | bl (b : Bool) | int (i : Int) | str (x : Str) | byt (b : Array UInt8) | flt (b : UInt64) | ref (a : Addr) | ty (n : String)
  deriving DecidableEq

noncomputable def RelV : V → Value → Prop
  | .non, u => u = Value.none
  | .bl b, u => u = Value.bool b
  | .int i, u => ∃ t, u = Value.int i t
  | .str x, u => ∃ t, u = Value.str x t
  | .byt b, u => ∃ t, u = Value.bytes b t
  | .flt b, u => ∃ t, u = Value.float b t
  | .ref a, u => u = Value.ref a
  | .ty n, u => u = Value.type n

noncomputable abbrev Vals : List V → List Value → Prop := Paired RelV
theorem Vals.length {xs : List V} {us : List Value} (r : Vals xs us) : xs.length = us.length := Paired.length r
theorem Vals.get : ∀ {xs : List V} {us : List Value} {i : Nat} {x : V}, Vals xs us → xs[i]? = some x → ∃ u, us[i]? = some u ∧ RelV x u
  | _, _, _, _, .nil, e => by simp at e
  | _, _, 0, _, .cons r _, e => by simp at e; subst e; exact ⟨_, rfl, r⟩
  | _, _, i + 1, x, .cons _ t, e => by
    obtain ⟨u, h1, h2⟩ := Vals.get (i := i) (x := x) t (by simpa using e)
    exact ⟨u, by simpa using h1, h2⟩
theorem Vals.append : ∀ {xs ys : List V} {us ws : List Value}, Vals xs us → Vals ys ws → Vals (xs ++ ys) (us ++ ws)
  | _, _, _, _, .nil, s => s
  | _, _, _, _, .cons r t, s => .cons r (Vals.append t s)
theorem Vals.take : ∀ {xs : List V} {us : List Value} (n : Nat), Vals xs us → Vals (xs.take n) (us.take n)
  | _, _, 0, _ => .nil
  | _, _, _ + 1, .nil => .nil
  | _, _, n + 1, .cons r t => .cons r (Vals.take n t)
theorem Vals.drop : ∀ {xs : List V} {us : List Value} (n : Nat), Vals xs us → Vals (xs.drop n) (us.drop n)
  | _, _, 0, r => r
  | _, _, _ + 1, .nil => .nil
  | _, _, n + 1, .cons _ t => Vals.drop n t
noncomputable def RelO : Option V → Option Value → Prop
  | some v, some u => RelV v u
  | none, none => True
  | _, _ => False
noncomputable def KV {κ : Type} : List (κ × V) → List (κ × Value) → Prop := Paired fun (p : κ × V) (q : κ × Value) => p.1 = q.1 ∧ RelV p.2 q.2

noncomputable def kV : Key → V
  | .inl i => .int i
  | .inr x => .str x

inductive HO where
  /-- a list -/
  | lst (xs : List V)
  /-- a tuple (never changes) -/
  | tup (xs : List V)
  /-- a dict whose keys are ints and texts; one whose keys are tuples of ints and texts (the empty one is both) -/
  | dK (kvs : List (Key × V)) | dT (kvs : List (List Key × V))
  /-- a set of ints: its members, its size -/
  | set (S : Int → Bool) (n : Nat)
  /-- an instance of the class at C, its dict at dx, its attributes -/
  | ins (C dx : Addr) (fs : List (Str × V))
  /-- the dict of the instance at x -/
  | own (x : Addr)
  /-- the dict of an exception -/
  | xd (fs : List (Str × V))
  /-- a bound method, f of x -/
  | met (f x : Addr)
  /-- a range object lo, lo + 1, .. below hi -/
  | rng (lo hi : Int)
  /-- a thing that is known to the object (the script; a dict while a loop walks it): read, never written while it is so -/
  | frz (o : Obj) (u : HO)
  /-- a code object's table -/
  | tbl (ps : Array Value)
  /-- any other thing, by what is true of its one object (a def of one's own: SetO a S n := HO.ext fun h => ..) -/
  | ext (φ : Heap → Prop)

noncomputable abbrev Hp := Addr → Option HO
noncomputable def upd (H : Hp) (a : Addr) (o : HO) : Hp := fun b => if b = a then some o else H b
theorem upd_same {H : Hp} {a : Addr} {o : HO} : upd H a o a = some o := by unfold upd; rw [if_pos rfl]
theorem upd_ne {H : Hp} {a b : Addr} {o : HO} (h : b ≠ a) : upd H a o b = H b := by unfold upd; rw [if_neg h]
theorem ne_of_none {H : Hp} {a b : Addr} {o : HO} (h : H a = some o) (h' : H b = none) : a ≠ b := by
  intro e; subst e; rw [h] at h'; cases h'

section
variable (P : Program) (w : World)
noncomputable def ObjOk (H : Hp) (h : Heap) (a : Addr) : HO → Prop
  | .lst xs => xs.length ≤ sizeLine ∧ ∃ (its : List Value) (n : Nat), Vals xs its ∧ h.get? a = some { cls := .type "list", data := .seq its.toArray n }
  | .tup xs => xs.length ≤ sizeLine ∧ ∃ its : List Value, Vals xs its ∧ IsTup h a its.toArray
  | .dK kvs => kvs.length ≤ sizeLine ∧ (a == sysModules) = false ∧ ∃ vs, KV kvs vs ∧ h.DictOf (mixKind P w) a vs
  | .dT kvs => kvs.length ≤ sizeLine ∧ (a == sysModules) = false ∧ ∃ xs : List (List Key × Addr × Value),
      Paired (fun (p : List Key × V) (q : List Key × Addr × Value) => p.1 = q.1 ∧ H q.2.1 = some (.tup (p.1.map kV)) ∧ RelV p.2 q.2.2) kvs xs ∧
      ∃ o es ep, h.get? a = some o ∧ o.ExactDict ∧ o.data = .dict es ep ∧ es.toList = xs.map (entryOfKey (tupleKind (mixKind P w))) ∧ (xs.map (·.1)).Nodup
  | .set S n => h.SetOf (intKind P w) a S n
  | .ins C dx fs => H dx = some (.own a) ∧ fs.length ≤ 1000 ∧ dx ≠ a ∧ h.get? a = some (PySem.W.instObj C dx) ∧
      ∃ mA, h.Ns1 dx mA ∧ (∀ f, RelO (fs.lookup f) (mA f)) ∧ PySem.Within mA (fs.map (·.1))
  | .own _ => ∃ o, h.get? a = some o
  | .xd fs => ∃ mA, h.Ns1 a mA ∧ ∀ f, RelO (fs.lookup f) (mA f)
  | .rng lo hi => ∃ t u v, h.get? a = some { cls := .type "range", data := .fields #[.int lo t, .int hi u, .int 1 v] }
  | .frz o u => h.get? a = some o ∧ ObjOk H h a u
  | .tbl ps => h.get? a = some { cls := .none, data := .fields ps }
  | .met f x => h.get? a = some (PySem.W.methodObj (.ref f) (.ref x))
  | .ext φ => φ h ∧ (∃ o, h.get? a = some o) ∧ ∀ h1 h2 : Heap, φ h1 → (∀ o, h1.get? a = some o → h2.get? a = some o) → φ h2
noncomputable def HOk (H : Hp) (h : Heap) : Prop := ∀ a o, H a = some o → ObjOk P w H h a o
end

section
variable {P : Program} {w : World} {H H' : Hp} {h h' : Heap} {a : Addr} {o : HO}
theorem ObjOk.lt (x : ObjOk P w H h a o) : a < h.objs.size := by
  cases o with
  | lst xs => obtain ⟨_, _, _, _, e⟩ := x; exact Heap.lt_size e
  | tup xs => obtain ⟨_, _, _, p⟩ := x; exact p.lt
  | dK kvs => obtain ⟨_, _, _, _, o, _, _, e, _⟩ := x; exact Heap.lt_size e
  | dT kvs => obtain ⟨_, _, _, _, o, _, _, e, _⟩ := x; exact Heap.lt_size e
  | set S n => obtain ⟨o, _, _, _, e, _⟩ := x; exact Heap.lt_size e
  | ins C dx fs => obtain ⟨_, _, _, e, _⟩ := x; exact Heap.lt_size e
  | own y => obtain ⟨_, e⟩ := x; exact Heap.lt_size e
  | xd fs => obtain ⟨_, ⟨_, _, _, e, _⟩, _⟩ := x; exact Heap.lt_size e
  | rng lo hi => obtain ⟨_, _, _, e⟩ := x; exact Heap.lt_size e
  | frz ob u => obtain ⟨e, _⟩ := x; exact Heap.lt_size e
  | tbl ps => exact Heap.lt_size (show h.get? a = some _ from x)
  | met f y => exact Heap.lt_size (show h.get? a = some _ from x)
  | ext φ => obtain ⟨_, ⟨_, e⟩, _⟩ := x; exact Heap.lt_size e
theorem Paired.mapP {α β : Type} {F G : α → β → Prop} : ∀ {l₁ : List α} {l₂ : List β}, Paired F l₁ l₂ → (∀ a b, F a b → G a b) → Paired G l₁ l₂
  | _, _, .nil, _ => .nil
  | _, _, .cons r t, f => .cons (f _ _ r) (Paired.mapP t f)
theorem ObjOk.stay (x : ObjOk P w H h a o) (k : ∀ b u, (b = a ∨ H b = some (.own a)) → h.get? b = some u → h'.get? b = some u)
    (ho : ∀ b, H b = some (.own a) → H' b = some (.own a)) (ht : ∀ b xs, H b = some (.tup xs) → H' b = some (.tup xs)) : ObjOk P w H' h' a o := by
  induction o with
  | lst xs => obtain ⟨z, its, n, r, e⟩ := x; exact ⟨z, its, n, r, k _ _ (.inl rfl) e⟩
  | tup xs => obtain ⟨z, its, r, ob, e, c⟩ := x; exact ⟨z, its, r, ob, k _ _ (.inl rfl) e, c⟩
  | dK kvs => obtain ⟨z, y, vs, r, ob, es, ep, e, c⟩ := x; exact ⟨z, y, vs, r, ob, es, ep, k _ _ (.inl rfl) e, c⟩
  | dT kvs =>
    obtain ⟨z, y, xs, r, ob, es, ep, e, c⟩ := x
    exact ⟨z, y, xs, Paired.mapP r fun p q z => ⟨z.1, ht _ _ z.2.1, z.2.2⟩, ob, es, ep, k _ _ (.inl rfl) e, c⟩
  | set S n => obtain ⟨ob, es, ep, t, e, c⟩ := x; exact ⟨ob, es, ep, t, k _ _ (.inl rfl) e, c⟩
  | ins C dx fs =>
    obtain ⟨d, z, ne, e, mA, ⟨od, es, ep, e2, c⟩, r⟩ := x
    exact ⟨ho _ d, z, ne, k _ _ (.inl rfl) e, mA, ⟨od, es, ep, k _ _ (.inr d) e2, c⟩, r⟩
  | own y => obtain ⟨ob, e⟩ := x; exact ⟨ob, k _ _ (.inl rfl) e⟩
  | xd fs => obtain ⟨mA, ⟨od, es, ep, e, c⟩, r⟩ := x; exact ⟨mA, ⟨od, es, ep, k _ _ (.inl rfl) e, c⟩, r⟩
  | rng lo hi => obtain ⟨t, u, v, e⟩ := x; exact ⟨t, u, v, k _ _ (.inl rfl) e⟩
  | frz ob u ih => obtain ⟨e, q⟩ := x; exact ⟨k _ _ (.inl rfl) e, ih q⟩
  | tbl ps =>
    have e : h.get? a = some { cls := .none, data := .fields ps } := x
    show h'.get? a = some { cls := .none, data := .fields ps }
    exact k a _ (.inl rfl) e
  | met f y =>
    have e : h.get? a = some (PySem.W.methodObj (.ref f) (.ref y)) := x
    show h'.get? a = some (PySem.W.methodObj (.ref f) (.ref y))
    exact k a _ (.inl rfl) e
  | ext φ => obtain ⟨p, ⟨o, e⟩, st⟩ := x; exact ⟨st _ _ p fun o q => k _ _ (.inl rfl) q, ⟨o, k _ _ (.inl rfl) e⟩, st⟩
theorem HOk.lt (x : HOk P w H h) (e : H a = some o) : a < h.objs.size := (x a o e).lt
theorem HOk.fresh (x : HOk P w H h) (e : h.objs.size ≤ a) : H a = none := by
  cases q : H a with
  | none => rfl
  | some u => exact absurd (Nat.lt_of_lt_of_le (x.lt q) e) (Nat.lt_irrefl _)
theorem HOk.kept (x : HOk P w H h) (k : ∀ b u, h.get? b = some u → h'.get? b = some u) : HOk P w H h' := fun a o e =>
  (x a o e).stay (fun b u _ q => k b u q) (fun _ q => q) fun _ _ q => q
theorem HOk.laid (x : HOk P w H h) (k : ∀ b u, h.get? b = some u → h'.get? b = some u) (hp : h.objs.size ≤ a) (new : ObjOk P w (upd H a o) h' a o) : HOk P w (upd H a o) h' := fun b u e => by
  have hn := x.fresh hp
  by_cases hb : b = a
  · subst hb; rw [upd_same] at e; cases e; exact new
  · rw [upd_ne hb] at e
    exact (x b u e).stay (fun c v _ q => k c v q) (fun c q => by rw [upd_ne (ne_of_none q hn)]; exact q) fun c xs q => by rw [upd_ne (ne_of_none q hn)]; exact q
end

noncomputable def Rd (H : Hp) (a : Addr) (u : HO) : Prop := H a = some u ∨ ∃ o, H a = some (.frz o u)
theorem Rd.ok {P : Program} {w : World} {H : Hp} {h : Heap} {a : Addr} {u : HO} (r : Rd H a u) (x : HOk P w H h) : ObjOk P w H h a u := by
  rcases r with r | ⟨o, r⟩
  · exact x a u r
  · obtain ⟨_, q⟩ := x a _ r
    exact q
noncomputable def Mut : Option HO → Prop
  | some (.lst _) => True
  | some (.dK _) => True
  | some (.dT _) => True
  | some (.set _ _) => True
  | some (.ins _ _ _) => True
  | some (.ext _) => True
  | _ => False
section
variable {P : Program} {w : World} {H : Hp} {h h' : Heap} {x e : Addr} {o' : HO}
theorem HOk.write (ok : HOk P w H h) (mu : Mut (H x)) (he : e = x ∨ H e = some (.own x)) (k : ∀ b u, b ≠ e → h.get? b = some u → h'.get? b = some u) (heo : ∃ u, h'.get? e = some u)
    (new : ObjOk P w (upd H x o') h' x o') : HOk P w (upd H x o') h' := fun b u q => by
  have nown : ∀ c y, H c = some (.own y) → c ≠ x := fun c y r z => by subst z; rw [r] at mu; exact mu
  have ntup : ∀ c xs, H c = some (.tup xs) → c ≠ x := fun c xs r z => by subst z; rw [r] at mu; exact mu
  by_cases hb : b = x
  · subst hb; rw [upd_same] at q; cases q; exact new
  · rw [upd_ne hb] at q
    by_cases hbe : b = e
    · have q' : H b = some (.own x) := by
        rcases he with z | z
        · exact absurd (hbe.trans z) hb
        · rw [hbe]; exact z
      rw [q] at q'; cases q'
      obtain ⟨v, hv⟩ := heo
      exact ⟨v, by rw [hbe]; exact hv⟩
    · refine (ok b u q).stay (fun c v hc r => k c v ?_ r) (fun c r => by rw [upd_ne (nown c b r)]; exact r) fun c xs r => by rw [upd_ne (ntup c xs r)]; exact r
      rcases hc with rfl | hc
      · exact hbe
      · rintro rfl
        rcases he with z | z
        · exact nown c b hc z
        · rw [hc] at z; cases z; exact hb rfl
end

structure Un (fs ex : List Addr) (H H' : Hp) (h h' : Heap) : Prop where
  keep : ∀ b o, h.get? b = some o → H b = none → b ∉ fs → b ∉ ex → h'.get? b = some o
  slot : ∀ b o, h.get? b = some o → H b = none → b ∈ fs → b ∉ ex → ∃ sl, h'.get? b = some { o with slots := sl }
  free : ∀ b o, h.get? b = some o → H b = none → b ∉ ex → H' b = none
  there : ∀ b o, h.get? b = some o → b ∉ ex → ∃ o', h'.get? b = some o'
  tups : ∀ b xs, H b = some (.tup xs) → H' b = some (.tup xs)
  frzs : ∀ b o u, H b = some (.frz o u) → H' b = some (.frz o u)
  tbls : ∀ b ps, H b = some (.tbl ps) → ∃ more, H' b = some (.tbl (ps ++ more))
section
variable {fs fs' ex ex' : List Addr} {H H1 H2 : Hp} {h h1 h2 h' : Heap} {a x e : Addr} {o : HO}
theorem Un.any (u : Un fs ex H H1 h h1) {b : Addr} {ob : Obj} (q : h.get? b = some ob) (n : H b = none) (hx : b ∉ ex) : ∃ sl, h1.get? b = some { ob with slots := sl } := by
  by_cases hb : b ∈ fs
  · exact u.slot b ob q n hb hx
  · exact ⟨ob.slots, u.keep b ob q n hb hx⟩
theorem Un.kept (k : ∀ b u, h.get? b = some u → h'.get? b = some u) : Un fs ex H H h h' :=
  ⟨fun b ob q _ _ _ => k b ob q, fun b ob q _ _ _ => ⟨ob.slots, k b ob q⟩, fun _ _ _ n _ => n, fun b ob q _ => ⟨ob, k b ob q⟩, fun _ _ q => q, fun _ _ _ q => q, fun _ ps q => ⟨#[], by rw [q]; simp⟩⟩
theorem Un.refl : Un fs ex H H h h := Un.kept fun _ _ q => q
theorem Un.laid (k : ∀ b u, h.get? b = some u → h'.get? b = some u) (hp : h.objs.size ≤ a) (hn : H a = none) : Un fs ex H (upd H a o) h h' where
  keep := fun b u q _ _ _ => k b u q
  slot := fun b u q _ _ _ => ⟨u.slots, k b u q⟩
  free := fun b u q n _ => by rw [upd_ne (Nat.ne_of_lt (Nat.lt_of_lt_of_le (Heap.lt_size q) hp))]; exact n
  there := fun b u q _ => ⟨u, k b u q⟩
  tups := fun b xs q => by rw [upd_ne (ne_of_none q hn)]; exact q
  frzs := fun b u xs q => by rw [upd_ne (ne_of_none q hn)]; exact q
  tbls := fun b ps q => ⟨#[], by rw [upd_ne (ne_of_none q hn), q]; simp⟩
theorem Un.write (mu : Mut (H x)) (he : e = x ∨ H e = some (.own x)) (k : ∀ b u, b ≠ e → h.get? b = some u → h'.get? b = some u) (heo : ∃ u, h'.get? e = some u) : Un fs ex H (upd H x o) h h' := by
  have hx : ∀ b, H b = none → b ≠ x := fun b n z => by subst z; rw [n] at mu; exact mu
  have hb : ∀ b, H b = none → b ≠ e := fun b n z => by
    subst z
    rcases he with r | r
    · exact hx b n r
    · rw [n] at r; cases r
  have hm : ∀ b u, H b = some u → ¬ Mut (some u) → b ≠ x := fun b u q nm z => by subst z; rw [q] at mu; exact nm mu
  refine ⟨fun b u q n _ _ => k b u (hb b n) q, fun b u q n _ _ => ⟨u.slots, k b u (hb b n) q⟩, fun b u q n _ => by rw [upd_ne (hx b n)]; exact n, fun b u q _ => ?_,
    fun b xs q => by rw [upd_ne (hm b _ q fun z => z)]; exact q, fun b u xs q => by rw [upd_ne (hm b _ q fun z => z)]; exact q, fun b ps q => ⟨#[], by rw [upd_ne (hm b _ q fun z => z), q]; simp⟩⟩
  by_cases hbe : b = e
  · subst hbe; exact heo
  · exact ⟨u, k b u hbe q⟩
end

noncomputable def trk (h : Heap) (H : Hp) : List Addr := (List.range h.objs.size).filter fun a => (H a).isSome
noncomputable def hidT (h : Heap) (H : Hp) : Heap := PySem.W.hideAll h (trk h H)
theorem hidT_size (h : Heap) (H : Hp) : (hidT h H).objs.size = h.objs.size := PySem.W.hideAll_size _ _
theorem hidT_get {h : Heap} {H : Hp} {b : Addr} {o : Obj} (e : h.get? b = some o) (n : H b = none) : (hidT h H).get? b = some o :=
  PySem.W.hideAll_get _ e fun hm => by
    have q : (H b).isSome = true := (List.mem_filter.mp hm).2
    rw [n] at q; simp at q
theorem of_hidT {h : Heap} {H : Hp} {b : Addr} {o : Obj} (e : (hidT h H).get? b = some o) : h.get? b = some o ∧ H b = none := by
  have e' : h.get? b = some o := PySem.W.of_hideAll (trk h H) e
  refine ⟨e', ?_⟩
  cases q : H b with
  | none => rfl
  | some x =>
    have hm : b ∈ trk h H := List.mem_filter.mpr ⟨List.mem_range.mpr (Heap.lt_size e'), by simp [q]⟩
    have z : (hidT h H).get? b = none := PySem.W.hideAll_none (trk h H) hm
    rw [z] at e; cases e

end L2

namespace L2
open PySem PySem.Spec PyProof.Rows

structure Mod (K : PySem.W.Frag) (mg : Str → Option Value) (base : Heap) : Prop where
  kin : K.In base
  glob : base.Ns mainGlobals mg
  blt : ∃ mb, base.Ns builtinsNs mb ∧ ∀ x : Str, x ≠ "__name__" → mb x = bootBuiltins x
  nolimit : base.NoLimit

structure Cx where
  prog : Program
  w : World
  K : PySem.W.Frag
  mg : Str → Option Value
  base : Heap
  A : Around
  N : List Str
  s₀ : Shared
  H₀ : Hp
  env : Env
  outer : List Env
  stack : List Env
  ex : List Addr
  fn : Str → Bool
  calm : Bool
  pn : List (Addr × Obj)
  xe : Value → Shared → Prop
noncomputable def frs (l : List Env) : List Addr := l.filterMap (·.frame)
noncomputable abbrev Cx.fs (X : Cx) : List Addr := frs X.outer

noncomputable def Vis (sc : Scope) (x : Str) : Prop := sc.names.lookup x = some .local ∨ sc.names.lookup x = some .cell ∨ sc.names.lookup x = some .free
noncomputable def Loc (sc : Scope) (x : Str) : Prop := sc.names.lookup x = some .local ∨ sc.names.lookup x = some .cell
noncomputable def Look (env : Env) (h : Heap) (m : Str → Option Value) (x : Str) (u : Value) : Prop :=
  (env.kindOf x = some .local ∧ m x = some u) ∨ ((env.kindOf x = some .cell ∨ env.kindOf x = some .free) ∧ ∃ c, env.cells.lookup x = some c ∧ h.IsCell c (some u))

structure Cx.Ok (X : Cx) : Prop where
  mod : Mod X.K X.mg X.base
  kind : X.env.scope.kind = .function
  glob : X.env.globals = mainGlobals
  blt : X.env.builtins = builtinsNs
  above : X.s₀.heap.objs.size ≤ X.env.locals
  inj : ∀ x y c, X.env.cells.lookup x = some c → X.env.cells.lookup y = some c → x = y
  has : ∀ x, (X.env.kindOf x = some .cell ∨ X.env.kindOf x = some .free) → ∃ c, X.env.cells.lookup x = some c
  cab : ∀ x c, X.fn x = true → X.env.cells.lookup x = some c → X.s₀.heap.objs.size ≤ c
  hd : X.calm = true → X.A.handled = none
  frames : X.A.frames = some X.stack
  stk : X.stack = X.outer ∨ (X.stack = X.env :: X.outer ∧ X.env.frame = some X.env.locals)
  exf : ∀ b ∈ X.ex, b ≠ X.env.locals ∧ ∀ x c, X.env.cells.lookup x = some c → c ≠ b
  bs : ∀ b o, X.base.get? b = some o → X.s₀.heap.get? b = some o ∧ X.H₀ b = none
  bsz : X.base.objs.size ≤ X.s₀.heap.objs.size
  noex : ∀ b o, X.base.get? b = some o → b ∉ X.ex
  exfs : ∀ b ∈ X.ex, b ∉ X.fs
  funs : X.s₀.heap.FunFrames X.base X.outer
  frf : ∀ b ∈ X.fs, X.H₀ b = none

structure Inv (X : Cx) (pins : List (Addr × Obj)) (σ : List (Option V)) (H : Hp) (s : Shared) : Prop where
  ok : X.Ok
  os : s.os = X.s₀.os
  bare : AllBare s.gens
  base : Un X.fs X.ex X.H₀ H X.s₀.heap s.heap
  loc : ∃ m, s.heap.Ns X.env.locals m ∧ ∀ (i : Nat) (x : Str) (v : V), X.N[i]? = some x → σ[i]? = some (some v) → Vis X.env.scope x → ∃ u, RelV v u ∧ Look X.env s.heap m x u
  cell : ∀ x c, X.env.cells.lookup x = some c → ∃ v, s.heap.IsCell c v
  free : H X.env.locals = none
  freeC : ∀ x c, X.env.cells.lookup x = some c → H c = none
  pin : ∀ p ∈ X.pn ++ pins, s.heap.get? p.1 = some p.2 ∧ H p.1 = none ∧ p.1 ≠ X.env.locals ∧ p.1 ∉ X.fs ∧ ∀ v, p.2.data ≠ .cell v
  hok : HOk X.prog X.w H s.heap
  len : σ.length = X.N.length

section
variable {X : Cx} {pins : List (Addr × Obj)} {σ : List (Option V)} {H H' : Hp} {s : Shared} {h' : Heap}

theorem Cx.Ok.nofr (ok : X.Ok) {b : Addr} {o : Obj} (e : X.base.get? b = some o) : b ∉ X.fs := fun hb => by
  have := (ok.funs.mem hb).1
  rw [e] at this; cases this
theorem Inv.bs (I : Inv X pins σ H s) : ∀ b o, X.base.get? b = some o → s.heap.get? b = some o ∧ H b = none := fun b o e =>
  ⟨I.base.keep b o (I.ok.bs b o e).1 (I.ok.bs b o e).2 (I.ok.nofr e) (I.ok.noex b o e), I.base.free b o (I.ok.bs b o e).1 (I.ok.bs b o e).2 (I.ok.noex b o e)⟩
theorem Inv.bk (I : Inv X pins σ H s) : ∀ b o, X.base.get? b = some o → s.heap.get? b = some o := fun b o e => (I.bs b o e).1
theorem Inv.mod (I : Inv X pins σ H s) : Mod X.K X.mg X.base := I.ok.mod
theorem Inv.kIn (I : Inv X pins σ H s) : X.K.In s.heap := I.ok.mod.kin.keeps I.bk
theorem Inv.lt (I : Inv X pins σ H s) : X.env.locals < s.heap.objs.size := let ⟨_, hn, _⟩ := I.loc; hn.lt
theorem Inv.sz (I : Inv X pins σ H s) : X.s₀.heap.objs.size ≤ s.heap.objs.size := Nat.le_trans I.ok.above (Nat.le_of_lt I.lt)
theorem Inv.nofs (I : Inv X pins σ H s) {a : Addr} (h : s.heap.objs.size ≤ a) : a ∉ X.fs := fun hb => by
  obtain ⟨_, o, ho, _⟩ := I.ok.funs.mem hb
  exact absurd (Nat.lt_of_lt_of_le (Heap.lt_size ho) (Nat.le_trans I.sz h)) (Nat.lt_irrefl _)
theorem Inv.cne (I : Inv X pins σ H s) : ∀ x c, X.env.cells.lookup x = some c → c ≠ X.env.locals := fun x c e z => by
  obtain ⟨v, o, ho, hd⟩ := I.cell x c e
  obtain ⟨m, ⟨o', es, ep, ho', hd', _⟩, _⟩ := I.loc
  rw [z, ho'] at ho; cases ho; rw [hd'] at hd; cases hd
theorem Inv.funs (I : Inv X pins σ H s) : s.heap.FunFrames X.base X.outer := by
  have all : ∀ (l : List Env), (∀ b ∈ frs l, b ∈ X.fs) → X.s₀.heap.FunFrames X.base l → s.heap.FunFrames X.base l := by
    intro l
    induction l with
    | nil => intro _ _; trivial
    | cons env r ih =>
      intro hs hl
      obtain ⟨hk, ⟨L, o, hf, hn, ho, hd⟩, hr⟩ := hl
      have hL : L ∈ X.fs := hs L (by unfold frs; rw [List.filterMap_cons, hf]; exact List.mem_cons_self)
      obtain ⟨sl, e⟩ := I.base.slot L o ho (I.ok.frf L hL) hL fun z => I.ok.exfs L z hL
      exact ⟨hk, ⟨L, _, hf, hn, e, hd⟩, ih (fun b hb => hs b (by unfold frs; rw [List.filterMap_cons, hf]; exact List.mem_cons_of_mem _ hb)) hr⟩
  exact all X.outer (fun _ hb => hb) I.ok.funs

theorem Inv.stack (I : Inv X pins σ H s) : s.heap.FunFrames X.base X.stack := by
  rcases I.ok.stk with e | ⟨e, hf⟩
  · rw [e]; exact I.funs
  · rw [e]
    obtain ⟨m, hn, _⟩ := I.loc
    refine .cons (by rw [I.ok.kind]; decide) hf hn ?_ I.funs
    exact Heap.get?_none_of_le (Nat.le_trans I.ok.bsz I.ok.above)
theorem Inv.stkSub (I : Inv X pins σ H s) : ∀ b ∈ frs X.stack, b ∈ X.env.locals :: X.fs := fun b hb => by
  rcases I.ok.stk with e | ⟨e, hf⟩
  · rw [e] at hb; exact List.mem_cons_of_mem _ hb
  · rw [e] at hb
    unfold frs at hb
    rw [List.filterMap_cons, hf] at hb
    exact hb
theorem Inv.stkFree (I : Inv X pins σ H s) : ∀ b ∈ frs X.stack, H b = none := fun b hb => by
  rcases List.mem_cons.mp (I.stkSub b hb) with e | hb
  · rw [e]; exact I.free
  · obtain ⟨_, o, ho, _⟩ := I.ok.funs.mem hb
    exact I.base.free b o ho (I.ok.frf b hb) fun z => I.ok.exfs b z hb

theorem Inv.step {g' : Array GenState} {t' : Nat} {d' : Drawn} {ch : List Addr} (I : Inv X pins σ H s)
    (hch : ∀ b ∈ ch, (b ∈ X.ex ∨ X.s₀.heap.objs.size ≤ b) ∧ b ≠ X.env.locals ∧ (∀ x c, X.env.cells.lookup x = some c → c ≠ b) ∧ ∀ p ∈ X.pn ++ pins, p.1 ≠ b)
    (keep : ∀ b o, b ≠ X.env.locals → b ∉ X.fs → b ∉ ch → s.heap.get? b = some o → H b = none → h'.get? b = some o)
    (slot : ∀ b o, b ≠ X.env.locals → b ∈ X.fs → b ∉ ch → s.heap.get? b = some o → H b = none → ∃ sl, h'.get? b = some { o with slots := sl }) (free : ∀ b o, b ∉ ch → s.heap.get? b = some o → H b = none → H' b = none)
    (there : ∀ b o, b ∉ ch → s.heap.get? b = some o → ∃ o', h'.get? b = some o')
    (tups : ∀ b xs, H b = some (.tup xs) → H' b = some (.tup xs)) (frzs : ∀ b o u, H b = some (.frz o u) → H' b = some (.frz o u)) (tbls : ∀ b ps, H b = some (.tbl ps) → ∃ more, H' b = some (.tbl (ps ++ more)))
    (ns : ∀ m, s.heap.Ns X.env.locals m → h'.Ns X.env.locals m) (hok : HOk X.prog X.w H' h') (hg : AllBare g') :
    Inv X pins σ H' { s with heap := h', gens := g', drawn := d', toks := t' } := by
  have neL : ∀ b o, X.s₀.heap.get? b = some o → b ≠ X.env.locals := fun b o e => Nat.ne_of_lt (Nat.lt_of_lt_of_le (Heap.lt_size e) I.ok.above)
  have neC : ∀ b o, X.s₀.heap.get? b = some o → b ∉ X.ex → b ∉ ch := fun b o e hx hb => by
    rcases (hch b hb).1 with z | z
    · exact hx z
    · exact absurd (Nat.lt_of_lt_of_le (Heap.lt_size e) z) (Nat.lt_irrefl _)
  have cellK : ∀ x c, X.env.cells.lookup x = some c → ∀ v, s.heap.IsCell c v → h'.IsCell c v := fun x c e v ⟨o, ho, hd⟩ => by
    have nch : c ∉ ch := fun z => (hch c z).2.2.1 x c e rfl
    by_cases hc : c ∈ X.fs
    · obtain ⟨sl, q⟩ := slot c o (I.cne x c e) hc nch ho (I.freeC x c e)
      exact ⟨_, q, hd⟩
    · exact ⟨o, keep c o (I.cne x c e) hc nch ho (I.freeC x c e), hd⟩
  refine ⟨I.ok, I.os, hg, ⟨fun b o e n hb hx => ?_, fun b o e n hb hx => ?_, fun b o e n hx => ?_, fun b o e hx => ?_, fun b xs e => tups b xs (I.base.tups b xs e), fun b o xs e => frzs b o xs (I.base.frzs b o xs e), fun b ps e => ?_⟩, ?_, fun x c e => ?_, ?_, fun x c e => ?_, fun p hp => ?_, hok, I.len⟩
  · exact keep b o (neL b o e) hb (neC b o e hx) (I.base.keep b o e n hb hx) (I.base.free b o e n hx)
  · obtain ⟨sl, e1⟩ := I.base.slot b o e n hb hx
    obtain ⟨sl', e2⟩ := slot b _ (neL b o e) hb (neC b o e hx) e1 (I.base.free b o e n hx)
    exact ⟨sl', e2⟩
  · obtain ⟨o', e1⟩ := I.base.there b o e hx
    exact free b o' (neC b o e hx) e1 (I.base.free b o e n hx)
  · obtain ⟨o', e1⟩ := I.base.there b o e hx
    exact there b o' (neC b o e hx) e1
  · obtain ⟨m1, e1⟩ := I.base.tbls b ps e
    obtain ⟨m2, e2⟩ := tbls b _ e1
    exact ⟨m1 ++ m2, by rw [e2, Array.append_assoc]⟩
  · obtain ⟨m, hn, hl⟩ := I.loc
    refine ⟨m, ns m hn, fun i x v e1 e2 e3 => ?_⟩
    obtain ⟨u, r, l⟩ := hl i x v e1 e2 e3
    refine ⟨u, r, ?_⟩
    rcases l with l | ⟨k, c, e, z⟩
    · exact .inl l
    · exact .inr ⟨k, c, e, cellK x c e _ z⟩
  · obtain ⟨v, z⟩ := I.cell x c e
    exact ⟨v, cellK x c e v z⟩
  · obtain ⟨m, ⟨o, _, _, ho, _⟩, _⟩ := I.loc
    exact free _ o (fun z => (hch _ z).2.1 rfl) ho I.free
  · obtain ⟨v, o, ho, hd⟩ := I.cell x c e
    exact free c o (fun z => (hch c z).2.2.1 x c e rfl) ho (I.freeC x c e)
  · obtain ⟨e, n, ne, nf, d⟩ := I.pin p hp
    have nch : p.1 ∉ ch := fun z => (hch p.1 z).2.2.2 p hp rfl
    exact ⟨keep p.1 p.2 ne nf nch e n, free p.1 p.2 nch e n, ne, nf, d⟩
theorem Inv.un {t' : Nat} (I : Inv X pins σ H s) (u : Un X.fs [] H H' s.heap h') (hok : HOk X.prog X.w H' h') : Inv X pins σ H' { s with heap := h', toks := t' } := by
  obtain ⟨m, ⟨o, es, ep, ho, r⟩, _⟩ := id I.loc
  obtain ⟨sl, hL⟩ := u.any ho I.free (by simp)
  exact I.step (g' := s.gens) (d' := s.drawn) (ch := []) (fun _ z => nomatch z) (fun b o _ hb _ e n => u.keep b o e n hb (by simp)) (fun b o _ hb _ e n => u.slot b o e n hb (by simp)) (fun b o _ e n => u.free b o e n (by simp)) (fun b o _ e => u.there b o e (by simp)) u.tups u.frzs u.tbls (fun m' hm => by
    obtain ⟨o', es', ep', ho', r'⟩ := hm
    rw [ho] at ho'; cases ho'
    exact ⟨_, es', ep', hL, r'⟩) hok I.bare
theorem Inv.call {g' : Array GenState} {t' : Nat} {d' : Drawn} {ch : List Addr} (I : Inv X pins σ H s) (u : Un (frs X.stack) ch H H' s.heap h') (hok : HOk X.prog X.w H' h') (hg : AllBare g')
    (hch : ∀ b ∈ ch, (b ∈ X.ex ∨ X.s₀.heap.objs.size ≤ b) ∧ b ≠ X.env.locals ∧ (∀ x c, X.env.cells.lookup x = some c → c ≠ b) ∧ ∀ p ∈ X.pn ++ pins, p.1 ≠ b) :
    Inv X pins σ H' { s with heap := h', gens := g', drawn := d', toks := t' } := by
  obtain ⟨m, ⟨o, es, ep, ho, r⟩, _⟩ := id I.loc
  obtain ⟨sl, hL⟩ := u.any ho I.free fun z => (hch _ z).2.1 rfl
  exact I.step (ch := ch) hch (fun b o hL hb hc e n => u.keep b o e n (fun z => (List.mem_cons.mp (I.stkSub b z)).elim hL hb) hc) (fun b o _ _ hc e n => u.any e n hc) (fun b o hc e n => u.free b o e n hc) (fun b o hc e => u.there b o e hc) u.tups u.frzs u.tbls (fun m' hm => by
    obtain ⟨o', es', ep', ho', r'⟩ := hm
    rw [ho] at ho'; cases ho'
    exact ⟨_, es', ep', hL, r'⟩) hok hg
theorem Inv.turned {t' : Nat} {it : Addr} (I : Inv X pins σ H s) (k : ∀ b o, b ≠ it → s.heap.get? b = some o → h'.get? b = some o) (hn : H it = none) (hL : it ≠ X.env.locals)
    (h1 : it ∈ X.ex ∨ X.s₀.heap.objs.size ≤ it) (h2 : ∀ x c, X.env.cells.lookup x = some c → c ≠ it) (h3 : ∀ p ∈ X.pn ++ pins, p.1 ≠ it) : Inv X pins σ H { s with heap := h', toks := t' } := by
  have nit : ∀ b u, H b = some u → b ≠ it := fun b u e z => by rw [z, hn] at e; cases e
  refine I.step (g' := s.gens) (d' := s.drawn) (ch := [it]) (fun b hb => ?_) (fun b o _ _ hc e _ => k b o (fun z => hc (by simp [z])) e) (fun b o _ _ hc e _ => ⟨o.slots, k b o (fun z => hc (by simp [z])) e⟩) (fun _ _ _ _ n => n)
    (fun b o hc e => ⟨o, k b o (fun z => hc (by simp [z])) e⟩) (fun _ _ e => e) (fun _ _ _ e => e) (fun b ps e => ⟨#[], by rw [e]; simp⟩) (fun m hm => ?_) (fun b u e => ?_) I.bare
  · have e : b = it := by simpa using hb
    subst e
    exact ⟨h1, hL, h2, h3⟩
  · obtain ⟨o, es, ep, ho, r⟩ := hm
    exact ⟨o, es, ep, k _ o (Ne.symm hL) ho, r⟩
  · refine (I.hok b u e).stay (fun c v hc q => k c v ?_ q) (fun _ q => q) fun _ _ q => q
    rcases hc with z | z
    · rw [z]; exact nit b u e
    · exact nit c _ z
theorem Inv.tok (I : Inv X pins σ H s) (t : Nat) : Inv X pins σ H { s with toks := t } := I.un (h' := s.heap) (t' := t) Un.refl I.hok
theorem Inv.kept {t' : Nat} (I : Inv X pins σ H s) (k : ∀ b u, s.heap.get? b = some u → h'.get? b = some u) : Inv X pins σ H { s with heap := h', toks := t' } := I.un (Un.kept k) (I.hok.kept k)
theorem Inv.laid {a : Addr} {o : HO} {t' : Nat} (I : Inv X pins σ H s) (k : ∀ b u, s.heap.get? b = some u → h'.get? b = some u) (hp : s.heap.objs.size ≤ a) (new : ObjOk X.prog X.w (upd H a o) h' a o) :
    Inv X pins σ (upd H a o) { s with heap := h', toks := t' } := I.un (Un.laid k hp (I.hok.fresh hp)) (I.hok.laid k hp new)
theorem Inv.write {x e : Addr} {o : HO} {t' : Nat} (I : Inv X pins σ H s) (mu : Mut (H x)) (he : e = x ∨ H e = some (.own x)) (k : ∀ b u, b ≠ e → s.heap.get? b = some u → h'.get? b = some u) (heo : ∃ u, h'.get? e = some u)
    (new : ObjOk X.prog X.w (upd H x o) h' x o) : Inv X pins σ (upd H x o) { s with heap := h', toks := t' } := I.un (Un.write mu he k heo) (I.hok.write mu he k heo new)
theorem Inv.pins_of {pins' : List (Addr × Obj)} (I : Inv X pins σ H s) (h : ∀ p ∈ pins', s.heap.get? p.1 = some p.2 ∧ H p.1 = none ∧ p.1 ≠ X.env.locals ∧ p.1 ∉ X.fs ∧ ∀ v, p.2.data ≠ .cell v) : Inv X pins' σ H s :=
  ⟨I.ok, I.os, I.bare, I.base, I.loc, I.cell, I.free, I.freeC, fun p hp => (List.mem_append.mp hp).elim (fun z => I.pin p (List.mem_append_left _ z)) (h p), I.hok, I.len⟩

theorem nodup_ix {N : List Str} (hN : N.Nodup) {i j : Nat} {x : Str} (a : N[i]? = some x) (b : N[j]? = some x) : i = j := by
  obtain ⟨h1, e1⟩ := List.getElem?_eq_some_iff.mp a
  obtain ⟨h2, e2⟩ := List.getElem?_eq_some_iff.mp b
  exact (List.getElem_inj hN).mp (e1.trans e2.symm)

theorem store_ok2 {M : Model} {A : Around} {E : Value → Shared → Prop} {i : Nat} {x : Str} {v : V} {u : Value} {Q : Unit → Shared → Prop} (I : Inv X pins σ H s) (hN : X.N.Nodup) (hi : X.N[i]? = some x) (hx : Loc X.env.scope x) (r : RelV v u)
    (h : ∀ s', Inv X pins (σ.set i (some v)) H s' → (∃ a, Heap.SameBut a s.heap s'.heap ∧ (a = X.env.locals ∨ X.env.cells.lookup x = some a)) → Q () s') (hf : X.fn x = true ∨ X.env.scope.names.lookup x = some .local := by first | exact .inl rfl | exact .inr rfl | assumption) : wpAny M A (storeName X.env x u) Q E s := by
  obtain ⟨m, hn, hl⟩ := id I.loc
  have hcls : (X.env.scope.kind == .class || (X.env.scope.kind == .module && X.env.locals != X.env.globals)) = false := by rw [I.ok.kind]; rfl
  have hiσ : i < σ.length := by rw [I.len]; exact (List.getElem?_eq_some_iff.mp hi).1
  have cne := I.cne
  have tracked : ∀ {a : Addr} {h' : Heap}, (∃ o, s.heap.get? a = some o ∧ H a = none) → Heap.SameBut a s.heap h' → HOk X.prog X.w H h' := fun {a h'} ha hs b ob e => by
    obtain ⟨_, _, hfree⟩ := ha
    refine (I.hok b ob e).stay (fun c w' hc q => (hs.2 c ?_).trans q) (fun _ q => q) fun _ _ q => q
    rintro rfl
    rcases hc with rfl | hc
    · rw [hfree] at e; cases e
    · rw [hfree] at hc; cases hc
  rcases hx with hk | hk
  · refine wpAny_storeName_local hk hn (fun h' hn' hs => ?_) hcls
    obtain ⟨oL, _, _, hoL, _⟩ := id hn
    refine h _ ⟨I.ok, I.os, I.bare, ⟨fun b o e n hb hx => ?_, fun b o e n hb hx => ?_, I.base.free, fun b o e hx => ?_, I.base.tups, I.base.frzs, I.base.tbls⟩, ⟨_, hn', fun j y v' e1 e2 e3 => ?_⟩, fun y c e => ?_, I.free, I.freeC, fun p hp => ?_, tracked ⟨oL, hoL, I.free⟩ hs, by simpa using I.len⟩ ⟨_, hs, .inl rfl⟩
    · exact (hs.2 b (Nat.ne_of_lt (Nat.lt_of_lt_of_le (Heap.lt_size e) I.ok.above))).trans (I.base.keep b o e n hb hx)
    · obtain ⟨sl, e1⟩ := I.base.slot b o e n hb hx
      exact ⟨sl, (hs.2 b (Nat.ne_of_lt (Nat.lt_of_lt_of_le (Heap.lt_size e) I.ok.above))).trans e1⟩
    · obtain ⟨o', e1⟩ := I.base.there b o e hx
      exact ⟨o', (hs.2 b (Nat.ne_of_lt (Nat.lt_of_lt_of_le (Heap.lt_size e) I.ok.above))).trans e1⟩
    · by_cases hj : j = i
      · subst hj
        rw [hi] at e1; cases e1
        rw [List.getElem?_set_self hiσ] at e2
        cases e2
        exact ⟨u, r, .inl ⟨hk, by simp⟩⟩
      · rw [List.getElem?_set_ne (Ne.symm hj)] at e2
        obtain ⟨u', r', q⟩ := hl j y v' e1 e2 e3
        refine ⟨u', r', ?_⟩
        rcases q with ⟨k, e⟩ | ⟨k, c, e, z⟩
        · refine .inl ⟨k, ?_⟩
          have : y ≠ x := fun e => hj (nodup_ix hN e1 (e ▸ hi))
          simp [this, e]
        · exact .inr ⟨k, c, e, z.sameBut hs (cne y c e)⟩
    · obtain ⟨w', z⟩ := I.cell y c e
      exact ⟨w', z.sameBut hs (cne y c e)⟩
    · obtain ⟨e, n, ne, nf, d⟩ := I.pin p hp
      exact ⟨(hs.2 p.1 ne).trans e, n, ne, nf, d⟩
  · have hfn : X.fn x = true := by
      rcases hf with z | z
      · exact z
      · rw [z] at hk; cases hk
    obtain ⟨c, hc⟩ := I.ok.has x (.inl hk)
    obtain ⟨w', z⟩ := I.cell x c hc
    refine wpAny_storeName_cell I.ok.kind hk hc z (fun h' hc' hs => ?_)
    obtain ⟨oc, hoc, hocd⟩ := id z
    refine h { s with heap := h' } ⟨I.ok, I.os, I.bare, ⟨fun b o e n hb hx => ?_, fun b o e n hb hx => ?_, I.base.free, fun b o e hx => ?_, I.base.tups, I.base.frzs, I.base.tbls⟩, ⟨m, hn.sameBut hs (Ne.symm (cne x c hc)), fun j y v' e1 e2 e3 => ?_⟩, fun y c' e => ?_, I.free, I.freeC, fun p hp => ?_, tracked ⟨oc, hoc, I.freeC x c hc⟩ hs, by simpa using I.len⟩ ⟨c, hs, .inr hc⟩
    · exact (hs.2 b (Nat.ne_of_lt (Nat.lt_of_lt_of_le (Heap.lt_size e) (I.ok.cab x c hfn hc)))).trans (I.base.keep b o e n hb hx)
    · obtain ⟨sl, e1⟩ := I.base.slot b o e n hb hx
      exact ⟨sl, (hs.2 b (Nat.ne_of_lt (Nat.lt_of_lt_of_le (Heap.lt_size e) (I.ok.cab x c hfn hc)))).trans e1⟩
    · obtain ⟨o', e1⟩ := I.base.there b o e hx
      exact ⟨o', (hs.2 b (Nat.ne_of_lt (Nat.lt_of_lt_of_le (Heap.lt_size e) (I.ok.cab x c hfn hc)))).trans e1⟩
    · by_cases hj : j = i
      · subst hj
        rw [hi] at e1; cases e1
        rw [List.getElem?_set_self hiσ] at e2
        cases e2
        exact ⟨u, r, .inr ⟨.inl hk, c, hc, hc'⟩⟩
      · rw [List.getElem?_set_ne (Ne.symm hj)] at e2
        obtain ⟨u', r', q⟩ := hl j y v' e1 e2 e3
        refine ⟨u', r', ?_⟩
        rcases q with q | ⟨k, c', e, z'⟩
        · exact .inl q
        · refine .inr ⟨k, c', e, z'.sameBut hs ?_⟩
          rintro rfl
          exact hj (nodup_ix hN e1 (I.ok.inj _ _ _ e hc ▸ hi))
    · by_cases hcc : c' = c
      · subst hcc; exact ⟨_, hc'⟩
      · obtain ⟨w2, z2⟩ := I.cell y c' e
        exact ⟨w2, z2.sameBut hs hcc⟩
    · obtain ⟨e, n, ne, nf, d⟩ := I.pin p hp
      refine ⟨(hs.2 p.1 ?_).trans e, n, ne, nf, d⟩
      intro q
      rw [q, hoc] at e
      have q' : oc = p.2 := Option.some.inj e
      exact d w' (by rw [← q']; exact hocd)
theorem store_ok {M : Model} {A : Around} {E : Value → Shared → Prop} {i : Nat} {x : Str} {v : V} {u : Value} {Q : Unit → Shared → Prop} (I : Inv X pins σ H s) (hN : X.N.Nodup) (hi : X.N[i]? = some x) (hx : Loc X.env.scope x) (r : RelV v u)
    (h : ∀ s', Inv X pins (σ.set i (some v)) H s' → Q () s') (hf : X.fn x = true ∨ X.env.scope.names.lookup x = some .local := by first | exact .inl rfl | exact .inr rfl | assumption) : wpAny M A (storeName X.env x u) Q E s :=
  store_ok2 I hN hi hx r (fun s' I' _ => h s' I') hf
theorem Inv.call' {s' : Shared} {ch : List Addr} (I : Inv X pins σ H s) (ho : s'.os = s.os) (u : Un (frs X.stack) ch H H' s.heap s'.heap) (hok : HOk X.prog X.w H' s'.heap) (hg : AllBare s'.gens)
    (hch : ∀ b ∈ ch, (b ∈ X.ex ∨ X.s₀.heap.objs.size ≤ b) ∧ b ≠ X.env.locals ∧ (∀ x c, X.env.cells.lookup x = some c → c ≠ b) ∧ ∀ p ∈ X.pn ++ pins, p.1 ≠ b) : Inv X pins σ H' s' := by
  obtain ⟨h', g', d', t', o'⟩ := s'
  have e : o' = s.os := ho
  subst e
  exact I.call (g' := g') (t' := t') (d' := d') u hok hg hch
end

noncomputable abbrev XK := Value → Option Addr → Hp → Prop
noncomputable abbrev St := List (Option V)
noncomputable abbrev VK := V → Hp → Prop
noncomputable abbrev TE := St → Hp → VK → Prop
noncomputable abbrev TT := St → Hp → (Bool → Hp → Prop) → Prop
noncomputable abbrev TA := St → Hp → (List V → Hp → Prop) → Prop
structure Ends where
  nx : St → Hp → Prop
  rt : VK
  bk : St → Hp → Prop := fun _ _ => False
  ct : St → Hp → Prop := fun _ _ => False
noncomputable abbrev TS := Ends → St → Hp → Prop

noncomputable def EP (X : Cx) (pins : List (Addr × Obj)) (σ : St) (Q : VK) (u : Value) (s' : Shared) : Prop := ∃ v H', Inv X pins σ H' s' ∧ RelV v u ∧ Q v H'
noncomputable def TP (X : Cx) (pins : List (Addr × Obj)) (σ : St) (Q : Bool → Hp → Prop) (b : Bool) (s' : Shared) : Prop := ∃ H', Inv X pins σ H' s' ∧ Q b H'
noncomputable def AP (X : Cx) (pins : List (Addr × Obj)) (σ : St) (Q : List V → Hp → Prop) (us : List Value) (s' : Shared) : Prop := ∃ vs H', Inv X pins σ H' s' ∧ Vals vs us ∧ Q vs H'
noncomputable def SP (X : Cx) (pins : List (Addr × Obj)) (D : Ends) (f : Flow) (s' : Shared) : Prop :=
  match f with
  | .next => ∃ σ' H', Inv X pins σ' H' s' ∧ D.nx σ' H'
  | .brk => ∃ σ' H', Inv X pins σ' H' s' ∧ D.bk σ' H'
  | .cont => ∃ σ' H', Inv X pins σ' H' s' ∧ D.ct σ' H'
  | .ret u => ∃ v σ' H', Inv X pins σ' H' s' ∧ RelV v u ∧ D.rt v H'

noncomputable def PE (X : Cx) (e : Expr) (t : TE) : Prop :=
  ∀ (pins : List (Addr × Obj)) (s : Shared) (σ : St) (H : Hp) (Q : VK), Inv X pins σ H s → t σ H Q → wpAny (model X.prog X.w) X.A (eval e X.env) (EP X pins σ Q) X.xe s
noncomputable def PT (X : Cx) (e : Expr) (t : TT) : Prop :=
  ∀ (pins : List (Addr × Obj)) (s : Shared) (σ : St) (H : Hp) (Q : Bool → Hp → Prop), Inv X pins σ H s → t σ H Q → wpAny (model X.prog X.w) X.A (isTrue e X.env (eval e X.env)) (TP X pins σ Q) X.xe s
noncomputable def PW (X : Cx) (e : Expr) (t : TT) : Prop :=
  ∀ (whole : Sem Value) (pins : List (Addr × Obj)) (s : Shared) (σ : St) (H : Hp) (Q : Bool → Hp → Prop), Inv X pins σ H s → t σ H Q → wpAny (model X.prog X.w) X.A (isTrue e X.env whole) (TP X pins σ Q) X.xe s
theorem PW.pt {X : Cx} {e : Expr} {t : TT} (h : PW X e t) : PT X e t := h _
noncomputable def PA (X : Cx) (es : List Expr) (t : TA) : Prop :=
  ∀ (pos : Pos) (pins : List (Addr × Obj)) (s : Shared) (σ : St) (H : Hp) (Q : List V → Hp → Prop), Inv X pins σ H s → t σ H Q → wpAny (model X.prog X.w) X.A (spliced (backTo pos (starEach es X.env))) (AP X pins σ Q) X.xe s
noncomputable def PS (X : Cx) (st : Stmt) (t : TS) : Prop :=
  ∀ (pins : List (Addr × Obj)) (s : Shared) (σ : St) (H : Hp) (D : Ends), Inv X pins σ H s → t D σ H → wpAny (model X.prog X.w) X.A (exec st X.env) (SP X pins D) X.xe s
noncomputable def PSs (X : Cx) (st : List Stmt) (t : TS) : Prop :=
  ∀ (pins : List (Addr × Obj)) (s : Shared) (σ : St) (H : Hp) (D : Ends), Inv X pins σ H s → t D σ H → wpAny (model X.prog X.w) X.A (execs st X.env) (SP X pins D) X.xe s
theorem thn {α : Type} {t : Sem α} {Q Q' : α → Shared → Prop} {M : Model} {A : Around} {E : Value → Shared → Prop} {s : Shared} (h : wpAny M A t Q E s) (hQ : ∀ a s, Q a s → Q' a s) : wpAny M A t Q' E s := wpAny_mono h hQ fun _ _ x => x
end L2

namespace L2
open PySem PySem.Spec PyProof.Rows
section
variable {X : Cx}

noncomputable def tVar (i : Nat) : TE := fun σ H Q => ∃ v, σ[i]? = some (some v) ∧ Q v H
noncomputable def tC (v : V) : TE := fun _ H Q => Q v H
theorem pe_var {i : Nat} {x : Str} {pos : Pos} (hN : X.N[i]? = some x) (hv : Vis X.env.scope x) (hd : autoParam ((x == ("__debug__" : Str)) = false) au1_._auto_1) (hcd : autoParam ((x == ("__classdict__" : Str)) = false) au1_._auto_1) : PE X (.Name x pos) (tVar i) := by
  intro pins s σ H Q I h
  obtain ⟨v, e, h⟩ := h
  obtain ⟨m, hn, hl⟩ := I.loc
  obtain ⟨u, r, l⟩ := hl i x v hN e hv
  have fin : EP X pins σ Q u s := ⟨v, H, I, r, h⟩
  rcases l with ⟨hk, hm⟩ | ⟨hk, c, hc, hcell⟩
  · exact wpAny_Name (wpAny_loadName_local I.ok.kind hk hn hm fin) hd
  · rcases hk with hk | hk
    · exact wpAny_Name (wpAny_loadName_cell I.ok.kind hk hc hcell fin) hd
    · exact wpAny_Name (wpAny_loadName_free I.ok.kind hk hc hcell fin hcd) hd
theorem pe_int {i j pos} : PE X (.Constant (.int i) j pos) (tC (.int i)) := fun _ _ _ H _ I h => wpAny_Constant_int ⟨.int i, H, I.tok _, ⟨_, rfl⟩, h⟩
theorem pe_bl {b j pos} : PE X (.Constant (.bool b) j pos) (tC (.bl b)) := fun _ _ _ H _ I h => Constant_bool ⟨.bl b, H, I, rfl, h⟩
theorem pe_non {j pos} : PE X (.Constant .none j pos) (tC .non) := fun _ _ _ H _ I h => Constant_none ⟨.non, H, I, rfl, h⟩
theorem pe_str {x j pos} : PE X (.Constant (.str x) j pos) (tC (.str x)) := fun _ _ _ H _ I h => Calls.Constant_str ⟨.str x, H, I.tok _, ⟨_, rfl⟩, h⟩

noncomputable def Gl (X : Cx) (x : Str) : Prop := X.env.kindOf x = some .globalImplicit
theorem ld_glob {E : Value → Shared → Prop} {pins : List (Addr × Obj)} {s : Shared} {σ : St} {H : Hp} {x : Str} {u : Value} {pos : Pos} {Q : Value → Shared → Prop} (I : Inv X pins σ H s) (hg : Gl X x) (hm : X.mg x = some u) (h : Q u s)
    (hd : autoParam ((x == ("__debug__" : Str)) = false) au1_._auto_1) : wpAny (model X.prog X.w) X.A (eval (.Name x pos) X.env) Q E s :=
  Calls.Name_function_global I.ok.kind hg (Calls.loadGlobal_global (by rw [I.ok.glob]; exact I.mod.glob.keeps I.bk) hm h) hd
theorem ld_blt {E : Value → Shared → Prop} {pins : List (Addr × Obj)} {s : Shared} {σ : St} {H : Hp} {x : Str} {u : Value} {pos : Pos} {Q : Value → Shared → Prop} (I : Inv X pins σ H s) (hg : Gl X x) (hm : X.mg x = none) (hv : bootBuiltins x = some u) (h : Q u s)
    (hn : autoParam (x ≠ "__name__") au1_._auto_1) (hd : autoParam ((x == ("__debug__" : Str)) = false) au1_._auto_1) : wpAny (model X.prog X.w) X.A (eval (.Name x pos) X.env) Q E s := by
  obtain ⟨mb, h1, h2⟩ := I.mod.blt
  exact Calls.Name_function_global I.ok.kind hg (Calls.loadGlobal_builtin (by rw [I.ok.glob]; exact I.mod.glob.keeps I.bk) hm (by rw [I.ok.blt]; exact h1.keeps I.bk) ((h2 x hn).trans hv) h) hd
theorem pe_glob {x : Str} {v : V} {u : Value} {pos : Pos} (hg : Gl X x) (hm : X.mg x = some u) (r : RelV v u) (hd : autoParam ((x == ("__debug__" : Str)) = false) au1_._auto_1) : PE X (.Name x pos) (tC v) :=
  fun _ _ _ H _ I h => ld_glob I hg hm ⟨v, H, I, r, h⟩ hd
theorem pe_bltn {x : Str} {v : V} {u : Value} {pos : Pos} (hg : Gl X x) (hm : X.mg x = none) (hv : bootBuiltins x = some u) (r : RelV v u) (hn : autoParam (x ≠ "__name__") au1_._auto_1) (hd : autoParam ((x == ("__debug__" : Str)) = false) au1_._auto_1) : PE X (.Name x pos) (tC v) :=
  fun _ _ _ H _ I h => ld_blt I hg hm hv ⟨v, H, I, r, h⟩ hn hd

variable {a b : Expr} {ta tb : TE} {pos : Pos}
noncomputable def tB (t : TE) : TT := fun σ H Q => t σ H fun x H1 => ∃ c, x = .bl c ∧ Q c H1
theorem pt_val {e : Expr} {t : TE} (h : PE X e t) (he : autoParam (∀ whole, isTrue e X.env whole = (do let v ← whole; standAt e.pos; holding [v] (truthy v))) au2_._auto_1) : PT X e (tB t) := by
  intro pins s σ H Q I hw
  refine isTrue_plain (thn (h pins s σ H _ I hw) fun v s1 ⟨x, H1, I1, r1, q1⟩ => ?_) (he _)
  obtain ⟨d, rfl, q⟩ := q1
  cases r1
  exact wpAny_truthy_bool ⟨H1, I1, q⟩

variable {tA tB' : TT} {rest : List Expr}
noncomputable def tAnd (t u : TT) : TT := fun σ H Q => t σ H fun c H1 => if c = true then u σ H1 Q else Q false H1
noncomputable def tOr (t u : TT) : TT := fun σ H Q => t σ H fun c H1 => if c = true then Q true H1 else u σ H1 Q
noncomputable def tNot (t : TT) : TT := fun σ H Q => t σ H fun c H1 => Q (!c) H1
theorem pw_and1 (ha : PT X a tA) : PW X (.BoolOp .And [a] pos) tA := by
  intro wh pins s σ H Q I h
  refine isTrue_and (thn (ha pins s σ H Q I h) fun c s1 e => ?_)
  cases c with
  | true => exact isTrue_and_nil e
  | false => exact e
theorem pw_or1 (ha : PT X a tA) : PW X (.BoolOp .Or [a] pos) tA := by
  intro wh pins s σ H Q I h
  refine isTrue_or (thn (ha pins s σ H Q I h) fun c s1 e => ?_)
  cases c with
  | false => exact isTrue_or_nil e
  | true => exact e
theorem pw_and (ha : PT X a tA) (hb : PW X (.BoolOp .And (b :: rest) pos) tB') : PW X (.BoolOp .And (a :: b :: rest) pos) (tAnd tA tB') := by
  intro wh pins s σ H Q I h
  refine isTrue_and (thn (ha pins s σ H _ I h) fun c s1 ⟨H1, I1, q1⟩ => ?_)
  cases c with
  | true => exact hb wh pins s1 σ H1 Q I1 q1
  | false => exact ⟨H1, I1, q1⟩
theorem pw_or (ha : PT X a tA) (hb : PW X (.BoolOp .Or (b :: rest) pos) tB') : PW X (.BoolOp .Or (a :: b :: rest) pos) (tOr tA tB') := by
  intro wh pins s σ H Q I h
  refine isTrue_or (thn (ha pins s σ H _ I h) fun c s1 ⟨H1, I1, q1⟩ => ?_)
  cases c with
  | true => exact ⟨H1, I1, q1⟩
  | false => exact hb wh pins s1 σ H1 Q I1 q1
theorem pt_not (ha : PT X a tA) : PT X (.UnaryOp .Not a pos) (tNot tA) := by
  intro pins s σ H Q I h
  exact isTrue_not (ha pins s σ H (fun c H1 => Q (!c) H1) I h)
noncomputable def tAndV (ta tb : TE) : TE := fun σ H Q => ta σ H fun x H1 => ∃ c, x = .bl c ∧ if c = true then tb σ H1 Q else Q (.bl false) H1
noncomputable def tOrV (ta tb : TE) : TE := fun σ H Q => ta σ H fun x H1 => ∃ c, x = .bl c ∧ if c = true then Q (.bl true) H1 else tb σ H1 Q
theorem pe_one {op} {t : TE} (h : PE X a t) : PE X (.BoolOp op [a] pos) t := fun pins s σ H Q I hw => BoolOp_one (h pins s σ H Q I hw)
theorem pe_and (ha : PE X a ta) (hb : PE X (.BoolOp .And (b :: rest) pos) tb) : PE X (.BoolOp .And (a :: b :: rest) pos) (tAndV ta tb) := by
  intro pins s σ H Q I h
  refine BoolOp_and (thn (ha pins s σ H _ I h) fun v s1 ⟨x, H1, I1, r1, q1⟩ => ?_)
  obtain ⟨c, rfl, q1⟩ := q1
  cases r1
  refine wpAny_truthy_bool ?_
  cases c with
  | true => exact hb pins s1 σ H1 Q I1 q1
  | false => exact ⟨.bl false, H1, I1, rfl, q1⟩
theorem pe_or (ha : PE X a ta) (hb : PE X (.BoolOp .Or (b :: rest) pos) tb) : PE X (.BoolOp .Or (a :: b :: rest) pos) (tOrV ta tb) := by
  intro pins s σ H Q I h
  refine BoolOp_or (thn (ha pins s σ H _ I h) fun v s1 ⟨x, H1, I1, r1, q1⟩ => ?_)
  obtain ⟨c, rfl, q1⟩ := q1
  cases r1
  refine wpAny_truthy_bool ?_
  cases c with
  | false => exact hb pins s1 σ H1 Q I1 q1
  | true => exact ⟨.bl true, H1, I1, rfl, q1⟩
noncomputable def tIf (t : TT) (ta tb : TE) : TE := fun σ H Q => t σ H fun c H1 => if c = true then ta σ H1 Q else tb σ H1 Q
theorem pe_ifExp {c : Expr} (hc : PT X c tA) (ha : PE X a ta) (hb : PE X b tb) : PE X (.IfExp c a b pos) (tIf tA ta tb) := by
  intro pins s σ H Q I h
  refine wpAny_IfExp (thn (hc pins s σ H _ I h) fun d s1 ⟨H1, I1, q1⟩ => ?_)
  cases d with
  | true => exact ha pins s1 σ H1 Q I1 q1
  | false => exact hb pins s1 σ H1 Q I1 q1
end
end L2

namespace L2
open PySem PySem.Spec PyProof.Rows

noncomputable def SqL (K : PySem.W.Frag) (H : Hp) (a : Addr) (xs : List V) : Prop :=
  Rd H a (.lst xs) ∨
    ∃ (o : Obj) (its : Array Value) (n : Nat), K.lookup a = some o ∧ o.cls = .type "list" ∧ o.dict = none ∧ o.data = .seq its n ∧ its.size ≤ sizeLine ∧ Vals xs its.toList
noncomputable def SqT (K : PySem.W.Frag) (H : Hp) (a : Addr) (xs : List V) : Prop :=
  Rd H a (.tup xs) ∨
    ∃ (o : Obj) (its : Array Value) (n : Nat), K.lookup a = some o ∧ o.cls = .type "tuple" ∧ o.data = .seq its n ∧ its.size ≤ sizeLine ∧ Vals xs its.toList
noncomputable def absV : Value → Option V
  | .none => some .non
  | .bool b => some (.bl b)
  | .int i _ => some (.int i)
  | .str x _ => some (.str x)
  | .bytes b _ => some (.byt b)
  | .float b _ => some (.flt b)
  | .ref a => some (.ref a)
  | .type n => some (.ty n)
  | _ => none
theorem RelV.abs {x : V} {u : Value} (r : RelV x u) : absV u = some x := by
  cases x with
  | non => cases r; rfl
  | bl _ => cases r; rfl
  | int _ => obtain ⟨t, rfl⟩ := r; rfl
  | str _ => obtain ⟨t, rfl⟩ := r; rfl
  | byt _ => obtain ⟨t, rfl⟩ := r; rfl
  | flt _ => obtain ⟨t, rfl⟩ := r; rfl
  | ref _ => cases r; rfl
  | ty _ => cases r; rfl
theorem RelV.inj {x y : V} {u : Value} (r : RelV x u) (q : RelV y u) : x = y := Option.some.inj (r.abs.symm.trans q.abs)
theorem Vals.inj : ∀ {xs ys : List V} {us : List Value}, Vals xs us → Vals ys us → xs = ys
  | _, _, _, .nil, .nil => rfl
  | _, _, _, .cons r t, .cons r' t' => by rw [r.inj r', Vals.inj t t']
section
variable {X : Cx} {pins : List (Addr × Obj)} {σ : St} {H : Hp} {s : Shared} {a : Addr} {xs ys : List V}
theorem SqL.of {K : PySem.W.Frag} (h : H a = some (.lst xs)) : SqL K H a xs := .inl (.inl h)
theorem SqT.of {K : PySem.W.Frag} (h : H a = some (.tup xs)) : SqT K H a xs := .inl (.inl h)
theorem Inv.list (I : Inv X pins σ H s) (h : SqL X.K H a xs) : ∃ its : List Value, Vals xs its ∧ PlainL s.heap a its.toArray ∧ xs.length ≤ sizeLine := by
  rcases h with h | ⟨o, its, n, hk, hc, hd, hs, hz, r⟩
  · obtain ⟨z, its, n, r, e⟩ := h.ok I.hok
    exact ⟨its, r, ⟨_, n, e, rfl, rfl, rfl⟩, z⟩
  · refine ⟨its.toList, r, ⟨o, n, I.kIn a o hk, hc, hd, by simpa using hs⟩, ?_⟩
    have e := r.length
    simp only [Array.length_toList] at e
    omega
theorem Inv.tuple (I : Inv X pins σ H s) (h : SqT X.K H a xs) : ∃ its : List Value, Vals xs its ∧ IsTup s.heap a its.toArray ∧ xs.length ≤ sizeLine := by
  rcases h with h | ⟨o, its, n, hk, hc, hs, hz, r⟩
  · obtain ⟨z, its, r, p⟩ := h.ok I.hok
    exact ⟨its, r, p, z⟩
  · refine ⟨its.toList, r, ⟨o, I.kIn a o hk, hc, n, by simpa using hs⟩, ?_⟩
    have e := r.length
    simp only [Array.length_toList] at e
    omega
theorem Inv.list_inj (I : Inv X pins σ H s) (h : SqL X.K H a xs) (h' : SqL X.K H a ys) : xs = ys := by
  obtain ⟨its, r, ⟨o, n, e, _, _, d⟩, _⟩ := I.list h
  obtain ⟨its', r', ⟨o', n', e', _, _, d'⟩, _⟩ := I.list h'
  rw [e] at e'; cases e'
  rw [d] at d'
  injection d' with d1 _
  have : its = its' := by simpa using congrArg Array.toList d1
  subst this
  exact r.inj r'
theorem Inv.tuple_inj (I : Inv X pins σ H s) (h : SqT X.K H a xs) (h' : SqT X.K H a ys) : xs = ys := by
  obtain ⟨its, r, ⟨o, e, _, n, d⟩, _⟩ := I.tuple h
  obtain ⟨its', r', ⟨o', e', _, n', d'⟩, _⟩ := I.tuple h'
  rw [e] at e'; cases e'
  rw [d] at d'
  injection d' with d1 _
  have : its = its' := by simpa using congrArg Array.toList d1
  subst this
  exact r.inj r'
end

noncomputable abbrev Cx.wish (X : Cx) (E : Value → Shared → Prop) : Cx := { X with xe := E }
noncomputable abbrev Cx.nox (X : Cx) : Cx := X.wish fun _ _ => False
theorem Cx.Ok.wish {X : Cx} (ok : X.Ok) (E : Value → Shared → Prop) : (X.wish E).Ok :=
  ⟨ok.mod, ok.kind, ok.glob, ok.blt, ok.above, ok.inj, ok.has, ok.cab, ok.hd, ok.frames, ok.stk, ok.exf, ok.bs, ok.bsz, ok.noex, ok.exfs, ok.funs, ok.frf⟩
theorem Cx.Ok.unwish {X : Cx} {E : Value → Shared → Prop} (ok : (X.wish E).Ok) : X.Ok :=
  ⟨ok.mod, ok.kind, ok.glob, ok.blt, ok.above, ok.inj, ok.has, ok.cab, ok.hd, ok.frames, ok.stk, ok.exf, ok.bs, ok.bsz, ok.noex, ok.exfs, ok.funs, ok.frf⟩
section
variable {X : Cx} {pins : List (Addr × Obj)} {σ : St} {H : Hp} {s : Shared} {E : Value → Shared → Prop}
theorem Inv.wish (I : Inv X pins σ H s) (E : Value → Shared → Prop) : Inv (X.wish E) pins σ H s := ⟨I.ok.wish E, I.os, I.bare, I.base, I.loc, I.cell, I.free, I.freeC, I.pin, I.hok, I.len⟩
theorem Inv.unwish (I : Inv (X.wish E) pins σ H s) : Inv X pins σ H s := ⟨I.ok.unwish, I.os, I.bare, I.base, I.loc, I.cell, I.free, I.freeC, I.pin, I.hok, I.len⟩
theorem SP.unwish {D : Ends} {f : Flow} {s' : Shared} (h : SP (X.wish E) pins D f s') : SP X pins D f s' := by
  cases f with
  | next => obtain ⟨σ', H', I, q⟩ := h; exact ⟨σ', H', I.unwish, q⟩
  | brk => obtain ⟨σ', H', I, q⟩ := h; exact ⟨σ', H', I.unwish, q⟩
  | cont => obtain ⟨σ', H', I, q⟩ := h; exact ⟨σ', H', I.unwish, q⟩
  | ret u => obtain ⟨v, σ', H', I, r, q⟩ := h; exact ⟨v, σ', H', I.unwish, r, q⟩
theorem PSs.nox {st : List Stmt} {t : TS} (h : PSs X.nox st t) : PSs X st t := fun pins s σ H D I hw =>
  wpAny_mono (h pins s σ H D (I.wish _) hw) (fun _ _ q => q.unwish) fun _ _ z => False.elim z
end

section
variable {X : Cx} {st : Stmt} {rest : List Stmt} {t u : TS} {e : Expr} {te : TE} {pos : Pos}
noncomputable def tNext : TS := fun D σ H => D.nx σ H
noncomputable def tSeq (t u : TS) : TS := fun D σ H => t { D with nx := u D } σ H
theorem pss_nil : PSs X [] tNext := fun _ _ σ H _ I h => wpAny_execs_nil ⟨σ, H, I, h⟩
theorem pss_cons (h1 : PS X st t) (h2 : PSs X rest u) : PSs X (st :: rest) (tSeq t u) := by
  intro pins s σ H D I h
  refine wpAny_execs_cons (thn (h1 pins s σ H { D with nx := u D } I h) fun f s1 q => ?_)
  cases f with
  | next =>
    obtain ⟨σ', H', I', q⟩ := q
    exact h2 pins s1 σ' H' D I' q
  | ret v => exact q
  | brk => exact q
  | cont => exact q
theorem pss_one (h1 : PS X st t) : PSs X [st] t := by
  intro pins s σ H D I h
  refine wpAny_execs_cons (thn (h1 pins s σ H D I h) fun f s1 q => ?_)
  cases f with
  | next => exact wpAny_execs_nil q
  | ret v => exact q
  | brk => exact q
  | cont => exact q
theorem Inv.quiet {pins : List (Addr × Obj)} {σ : St} {H : Hp} {s : Shared} (I : Inv X pins σ H s) : interactive X.env = false := by simp [interactive, I.ok.kind]
noncomputable def tDrop (te : TE) : TS := fun D σ H => te σ H fun _ H1 => D.nx σ H1
theorem ps_expr (he : PE X e te) (hs : autoParam (swapsWith e none pos.line X.env = pure false) au0_._auto_1) : PS X (.Expr e pos) (tDrop te) := by
  intro pins s σ H D I h
  exact wpAny_Expr_any (thn (he pins s σ H _ I h) fun v s1 ⟨x, H1, I1, r1, q1⟩ => ⟨σ, H1, I1, q1⟩) I.quiet hs
noncomputable def tRet (te : TE) : TS := fun D σ H => te σ H D.rt
theorem ps_ret (he : PE X e te) : PS X (.Return (some e) pos) (tRet te) := by
  intro pins s σ H D I h
  exact wpAny_Return_some (thn (he pins s σ H _ I h) fun v s1 ⟨x, H1, I1, r1, q1⟩ => ⟨x, σ, H1, I1, r1, q1⟩)
noncomputable def tIfS (c : TT) (t u : TS) : TS := fun D σ H => c σ H fun b H1 => if b = true then t D σ H1 else u D σ H1
theorem ps_if {c : Expr} {a b : List Stmt} {tc : TT} (hc : PT X c tc) (ha : PSs X a t) (hb : PSs X b u) : PS X (.If c a b pos) (tIfS tc t u) := by
  intro pins s σ H D I h
  refine wpAny_If (thn (hc pins s σ H _ I h) fun d s1 ⟨H1, I1, q1⟩ => ?_)
  cases d with
  | true => exact ha pins s1 σ H1 D I1 q1
  | false => exact hb pins s1 σ H1 D I1 q1
noncomputable def tNever : TS := fun _ _ _ => False
theorem ps_never : PS X st tNever := fun _ _ _ _ _ _ h => h.elim
end

noncomputable abbrev TG := V → St → Hp → (St → Hp → Prop) → Prop
noncomputable abbrev TGs := List V → St → Hp → (St → Hp → Prop) → Prop
noncomputable def PG (X : Cx) (target : Expr) (t : TG) : Prop :=
  ∀ (pins : List (Addr × Obj)) (s : Shared) (σ : St) (H : Hp) (v : V) (u : Value) (Q : St → Hp → Prop), Inv X pins σ H s → RelV v u → t v σ H Q →
    wpAny (model X.prog X.w) X.A (assign target X.env u) (fun _ s' => ∃ σ' H', Inv X pins σ' H' s' ∧ Q σ' H') X.xe s
noncomputable def PGs (X : Cx) (ts : List Expr) (t : TGs) : Prop :=
  ∀ (pins : List (Addr × Obj)) (s : Shared) (σ : St) (H : Hp) (vs : List V) (us : List Value) (Q : St → Hp → Prop), Inv X pins σ H s → Vals vs us → t vs σ H Q →
    wpAny (model X.prog X.w) X.A (assignInOrder ((assignEach ts X.env).map (·.2)) us) (fun _ s' => ∃ σ' H', Inv X pins σ' H' s' ∧ Q σ' H') X.xe s
section
variable {X : Cx} {pos : Pos}
noncomputable def gName (i : Nat) : TG := fun v σ H Q => Q (σ.set i (some v)) H
theorem pg_name {i : Nat} {x : Str} (hN : X.N.Nodup) (hi : X.N[i]? = some x) (hx : Loc X.env.scope x) (hf : X.fn x = true ∨ X.env.scope.names.lookup x = some .local := by first | exact .inl rfl | exact .inr rfl | assumption) : PG X (.Name x pos) (gName i) := by
  intro pins s σ H v u Q I r h
  exact wpAny_assign_Name (store_ok I hN hi hx r (fun s' I' => ⟨_, H, I', h⟩) hf)
noncomputable def gNil : TGs := fun vs σ H Q => vs = [] ∧ Q σ H
noncomputable def gCons (t : TG) (u : TGs) : TGs := fun vs σ H Q => ∃ v r, vs = v :: r ∧ t v σ H fun σ' H' => u r σ' H' Q
theorem pgs_nil : PGs X [] gNil := by
  intro pins s σ H vs us Q I r h
  obtain ⟨e, h⟩ := h
  subst e
  cases r
  exact assignInOrder_nil ⟨σ, H, I, h⟩
theorem pgs_cons {e : Expr} {es : List Expr} {t : TG} {u : TGs} (h1 : PG X e t) (h2 : PGs X es u)
    (hs : autoParam ((assignEach (e :: es) X.env).map (·.2) = assign e X.env :: (assignEach es X.env).map (·.2)) au0_._auto_1) : PGs X (e :: es) (gCons t u) := by
  intro pins s σ H vs us Q I r h
  obtain ⟨v, vr, e1, h⟩ := h
  subst e1
  cases r with
  | cons r rr =>
    rw [hs]
    refine assignInOrder_cons (thn (h1 pins s σ H _ _ _ I r h) fun _ s1 ⟨σ1, H1, I1, q1⟩ => ?_)
    exact h2 pins s1 σ1 H1 _ _ Q I1 rr q1
noncomputable def gTup (K : PySem.W.Frag) (n : Nat) (t : TGs) : TG := fun v σ H Q => ∃ a xs, v = .ref a ∧ SqT K H a xs ∧ xs.length = n ∧ t xs σ H Q
theorem pg_tup {es : List Expr} {k : Nat} {t : TGs} {n : Nat} (hc : X.calm = true) (h : PGs X es t)
    (hn : autoParam ((assignEach es X.env).length = n) au0_._auto_1) (hst : autoParam ((assignEach es X.env).findIdx? (·.1) = none) au0_._auto_1) : PG X (.Tuple es k pos) (gTup X.K n t) := by
  intro pins s σ H v u Q I r hw
  obtain ⟨a, xs, e1, hq, hl, hw⟩ := hw
  subst e1
  cases r
  obtain ⟨its, rv, ht, hz⟩ := I.tuple hq
  refine assign_Tuple_tuple (I.ok.hd hc) ht (by simp [hn, ← hl, rv.length]) hst fun h' hx => ?_
  have I1 : Inv X pins σ H { s with heap := h' } := I.kept (t' := s.toks) fun b o e => hx b o (Nat.ne_of_lt (Heap.lt_size e)) e
  exact h pins _ σ H xs _ Q I1 (by simpa using rv) hw
noncomputable def tAsg (te : TE) (g : TG) : TS := fun D σ H => te σ H fun x H1 => g x σ H1 D.nx
theorem ps_asg {tg e : Expr} {te : TE} {g : TG} (he : PE X e te) (hg : PG X tg g) (hs : autoParam (swapsWithSole [tg] e pos.line X.env = pure false) au0_._auto_1) (hw : autoParam (swappedStores [tg] e X.env = pure none) au0_._auto_1)
    (h1 : autoParam ((assignEach [tg] X.env).map (·.2) = [assign tg X.env]) au0_._auto_1) : PS X (.Assign [tg] e pos) (tAsg te g) := by
  intro pins s σ H D I h
  refine wpAny_Assign_stores (thn (he pins s σ H _ I h) fun v s1 ⟨x, H1, I1, r1, q1⟩ => ?_) hs hw
  rw [h1]
  exact thn (hg pins s1 σ H1 x v _ I1 r1 q1) fun _ s2 q => q
theorem ps_set {i : Nat} {x : Str} {e : Expr} {te : TE} {pos' : Pos} (hN : X.N.Nodup) (hi : X.N[i]? = some x) (hx : Loc X.env.scope x) (he : PE X e te) (hs : autoParam (swapsWith e (some (.Name x pos')) pos.line X.env = pure false) au0_._auto_1) (hf : X.fn x = true ∨ X.env.scope.names.lookup x = some .local := by first | exact .inl rfl | exact .inr rfl | assumption) :
    PS X (.Assign [.Name x pos'] e pos) (tAsg te (gName i)) := by
  intro pins s σ H D I h
  refine wpAny_Assign_Name (thn (he pins s σ H _ I h) fun v s1 ⟨y, H1, I1, r1, q1⟩ => ?_) hs
  exact store_ok I1 hN hi hx r1 (fun s2 I2 => ⟨_, H1, I2, q1⟩) hf
noncomputable def tPar (i j : Nat) (ta : TA) : TS := fun D σ H => ta σ H fun vs H1 => ∃ v w, vs = [v, w] ∧ D.nx ((σ.set i (some v)).set j (some w)) H1
theorem ps_par {i j : Nat} {x y : Str} {a b : Expr} {ta : TA} {px py pt : Pos} {kt k2 pt2} (hc : X.calm = true) (hN : X.N.Nodup) (hi : X.N[i]? = some x) (hj : X.N[j]? = some y) (hij : i ≠ j)
    (hx : X.env.scope.names.lookup x = some .local) (hy : X.env.scope.names.lookup y = some .local) (ha : PA X [a, b] ta)
    (hw : swappedStores [.Tuple [.Name x px, .Name y py] kt pt] (.Tuple [a, b] k2 pt2) X.env = pure (some [x, y]))
    (hs : autoParam (swapsWithSole [.Tuple [.Name x px, .Name y py] kt pt] (.Tuple [a, b] k2 pt2) pos.line X.env = pure false) au0_._auto_1) :
    PS X (.Assign [.Tuple [.Name x px, .Name y py] kt pt] (.Tuple [a, b] k2 pt2) pos) (tPar i j ta) := by
  intro pins s σ H D I h
  rw [exec_Assign_arm]
  refine wpAny_bind (wpAny_standAt ?_)
  rw [hs]
  refine wpAny_bind (wpAny_pure ?_)
  rw [if_neg (by decide)]
  refine wpAny_bind (Tuple_ (thn (ha _ pins s σ H _ I h) fun us s1 ⟨vs, H1, I1, r1, q1⟩ => ?_))
  obtain ⟨v, w, e1, q1⟩ := q1
  subst e1
  obtain ⟨u1, u2, rfl, rv, rw'⟩ : ∃ u1 u2, us = [u1, u2] ∧ RelV v u1 ∧ RelV w u2 := by
    cases r1 with
    | cons p q =>
      cases q with
      | cons p' q' =>
        cases q'
        exact ⟨_, _, rfl, p, p'⟩
  refine wpAny_newObj_type ?_ (by show 2 ≤ sizeLine; decide)
  have I2 : Inv X pins σ H1 { s1 with heap := s1.heap.push { cls := .type "tuple", data := .seq [u1, u2].toArray } } := I1.kept (t' := s1.toks) fun b o e => Heap.get?_push_of_some _ e
  rw [hw]
  refine wpAny_bind (wpAny_pure ?_)
  show wpAny (model X.prog X.w) X.A (do rule "assign.swapped-stores"; let items ← unpackItems (.ref s1.heap.objs.size) 2 none; assignInOrder [fun v => bindName X.env y v, fun v => bindName X.env x v] items.reverse; pure Flow.next) _ _ _
  refine wpAny_bind (wpAny_rule (wpAny_bind (unpackItems_tuple (items := #[u1, u2]) (I.ok.hd hc) (IsTup.new s1.heap _) fun h' hx' => ?_)))
  have I3 := I2.kept (h' := h') (t' := s1.toks) fun b o e => hx' b o (Nat.ne_of_lt (Heap.lt_size e)) e
  show wpAny _ _ (assignInOrder [fun v => bindName X.env y v, fun v => bindName X.env x v] [u2, u1] >>= fun _ => pure Flow.next) _ _ _
  refine wpAny_bind (assignInOrder_cons (wpAny_bindName (store_ok I3 hN hj (.inl hy) rw' (fun s2 I4 => ?_) (.inr hy))))
  refine assignInOrder_cons (wpAny_bindName (store_ok I4 hN hi (.inl hx) rv (fun s3 I5 => assignInOrder_nil (wpAny_pure ?_)) (.inr hx)))
  rw [List.set_comm _ _ (Ne.symm hij)] at I5
  exact ⟨_, H1, I5, q1⟩
end

section
variable {X : Cx} {pos : Pos}
noncomputable def tWhile (c : TT) (tb : TS) : TS := fun D σ H => ∃ W : Nat → St → Hp → Prop, (∃ m, W m σ H) ∧ ∀ m σ H, W m σ H →
  c σ H fun b H1 => if b = true then ∃ N : St → Hp → Prop, (∀ σ' H', N σ' H' → ∃ m', m' < m ∧ W m' σ' H') ∧ tb { D with nx := N, ct := N, bk := D.nx } σ H1 else D.nx σ H1
theorem ps_while {c : Expr} {body : List Stmt} {tc : TT} {tb : TS} (hp : PassesOwn (model X.prog X.w) X.A X.env X.xe) (hc : PT X c tc) (hb : PSs X body tb) : PS X (.While c body [] pos) (tWhile tc tb) := by
  intro pins s σ H D I h
  obtain ⟨W, ⟨m0, w0⟩, turn⟩ := h
  refine wpAny_While (codeAny_whileLoop (fun n s' => ∃ σ' H', Inv X pins σ' H' s' ∧ W n σ' H') ?_ m0 ⟨σ, H, I, w0⟩)
  rintro n s1 ⟨σ1, H1, I1, w1⟩
  refine wpAny_passesOwn hp (thn (hc pins s1 σ1 H1 _ I1 (turn n σ1 H1 w1)) fun b s2 ⟨H2, I2, q2⟩ => ?_)
  cases b with
  | true =>
    obtain ⟨N, hN, q2⟩ := q2
    rw [if_pos rfl]
    refine wpAny_passesOwn hp (thn (hb pins s2 σ1 H2 _ I2 q2) fun f s3 q3 => ?_)
    cases f with
    | next =>
      obtain ⟨σ3, H3, I3, n3⟩ := q3
      obtain ⟨m', hm, w3⟩ := hN σ3 H3 n3
      exact ⟨m', hm, σ3, H3, I3, w3⟩
    | cont =>
      obtain ⟨σ3, H3, I3, n3⟩ := q3
      obtain ⟨m', hm, w3⟩ := hN σ3 H3 n3
      exact ⟨m', hm, σ3, H3, I3, w3⟩
    | brk => exact q3
    | ret v => exact q3
  | false =>
    rw [if_neg Bool.false_ne_true]
    exact wpAny_execs_nil ⟨σ1, H2, I2, q2⟩
end

structure It where
  go : Nat → Hp → Prop
  yld : Nat → Hp → V → Hp → Prop
  stop : Nat → Hp → Prop
noncomputable def FpOk (X : Cx) (pins : List (Addr × Obj)) (H : Hp) (b : Addr) : Prop :=
  H b = none ∧ b ≠ X.env.locals ∧ b ∉ X.fs ∧ (b ∈ X.ex ∨ X.s₀.heap.objs.size ≤ b) ∧ (∀ x c, X.env.cells.lookup x = some c → c ≠ b) ∧ ∀ p ∈ X.pn ++ pins, p.1 ≠ b
theorem Inv.fpOk {X : Cx} {pins : List (Addr × Obj)} {σ : St} {H H' : Hp} {s : Shared} {b : Addr} (I : Inv X pins σ H s) (hb : s.heap.objs.size ≤ b) (hn : H' b = none) : FpOk X pins H' b := by
  refine ⟨hn, Nat.ne_of_gt (Nat.lt_of_lt_of_le I.lt hb), I.nofs hb, .inr (Nat.le_trans I.sz hb), fun x c e z => ?_, fun p hp z => ?_⟩
  · obtain ⟨v, q⟩ := I.cell x c e
    exact absurd (Nat.lt_of_lt_of_le q.lt (by rw [z]; exact hb)) (Nat.lt_irrefl _)
  · exact absurd (Nat.lt_of_lt_of_le (Heap.lt_size (I.pin p hp).1) (by rw [z]; exact hb)) (Nat.lt_irrefl _)
structure Turn (P : Program) (w : World) (K : PySem.W.Frag) (tg : Expr) (J : It) (fp : List Addr) (it : Addr) (tn : Nat → Heap → Prop) : Prop where
  mem : it ∈ fp
  obj : ∀ i h, tn i h → ∀ b ∈ fp, ∃ o, h.get? b = some o ∧ ∀ v, o.data ≠ .cell v
  keep : ∀ i h h', tn i h → (∀ b ∈ fp, ∀ o, h.get? b = some o → h'.get? b = some o) → tn i h'
  item : ∀ (X : Cx), X.prog = P → X.w = w → X.K = K → X.calm = true → ∀ (i : Nat) (pins : List (Addr × Obj)) (s : Shared) (σ : St) (H : Hp) (E : Value → Shared → Prop), Inv X pins σ H s → (∀ b ∈ fp, FpOk X pins H b) → tn i s.heap → J.go i H →
    wpAny (model P w) X.A (pyNext (.ref it)) (fun r s1 => ∃ u, r = some u ∧
      wpAny (model P w) X.A (letOwnedTupleGo tg (.ref it) u) (fun _ s2 => ∃ x H', Inv X pins σ H' s2 ∧ RelV x u ∧ J.yld i H x H' ∧ tn (i + 1) s2.heap ∧ ∀ b ∈ fp, H' b = none) E s1) E s
  done : ∀ (X : Cx), X.prog = P → X.w = w → X.K = K → X.calm = true → ∀ (i : Nat) (pins : List (Addr × Obj)) (s : Shared) (σ : St) (H : Hp) (E : Value → Shared → Prop), Inv X pins σ H s → (∀ b ∈ fp, FpOk X pins H b) → tn i s.heap → J.stop i H →
    wpAny (model P w) X.A (pyNext (.ref it)) (fun r s1 => r = none ∧ Inv X pins σ H s1) E s
  self : ∀ (A : Around) (i : Nat) (s : Shared) (Q : Value → Shared → Prop) (E : Value → Shared → Prop), tn i s.heap → Q (.ref it) s → wpAny (model P w) A (pyIter (.ref it)) Q E s
noncomputable abbrev TI := St → Hp → (It → Hp → Prop) → Prop
noncomputable def PIE (X : Cx) (pins : List (Addr × Obj)) (σ : St) (tg : Expr) (R : It → Hp → Prop) (itv : Value) (s2 : Shared) : Prop :=
  ∃ (it : Addr) (fp : List Addr) (tn : Nat → Heap → Prop) (J : It) (H' : Hp), itv = .ref it ∧ Inv X pins σ H' s2 ∧ Turn X.prog X.w X.K tg J fp it tn ∧ tn 0 s2.heap ∧ (∀ b ∈ fp, FpOk X pins H' b) ∧ R J H'
noncomputable def PI (X : Cx) (tg iter : Expr) (wi : TI) : Prop :=
  ∀ (pins : List (Addr × Obj)) (s : Shared) (σ : St) (H : Hp) (R : It → Hp → Prop), Inv X pins σ H s → wi σ H R →
    wpAny (model X.prog X.w) X.A (eval iter X.env) (fun v s1 => wpAny (model X.prog X.w) X.A (pyIter v) (PIE X pins σ tg R) X.xe s1) X.xe s

theorem go_of {M : Model} {A : Around} {E : Value → Shared → Prop} {s : Shared} {tg : Expr} {it : Addr} {u : Value} {o : Obj} {n : String} {vs : Array Value} {Q : Unit → Shared → Prop} (ho : s.heap.get? it = some o) (hc : o.cls = .type n) (hd : o.data = .fields vs)
    (hn : ["enumerate", "zip", "dict_itemiterator", "dict_reverseitemiterator", "odict_iterator", "itertools.zip_longest", "itertools.pairwise"].contains n = false) (hQ : Q () s) : wpAny M A (letOwnedTupleGo tg (.ref it) u) Q E s := by
  unfold letOwnedTupleGo
  cases tg <;> first
    | exact wpAny_pure hQ
    | (cases u <;> first
        | exact wpAny_pure hQ
        | (refine wpAny_bind (wpAny_load ho ?_)
           rw [hc, hd]
           show wpAny M A (if (["enumerate", "zip", "dict_itemiterator", "dict_reverseitemiterator", "odict_iterator", "itertools.zip_longest", "itertools.pairwise"].contains n && vs[0]? == some (rawInt _)) = true then _ else _) Q E s
           rw [if_neg (by intro h; rw [hn, Bool.false_and] at h; cases h)]
           exact wpAny_pure hQ))

noncomputable def Itl (K : PySem.W.Frag) (a : Addr) : It :=
  ⟨fun i H => ∃ xs x, SqL K H a xs ∧ xs[i]? = some x, fun i H x H' => H' = H ∧ ∀ xs, SqL K H a xs → xs[i]? = some x, fun i H => ∃ xs, SqL K H a xs ∧ xs.length ≤ i⟩
noncomputable def Itt (K : PySem.W.Frag) (a : Addr) : It :=
  ⟨fun i H => ∃ xs x, SqT K H a xs ∧ xs[i]? = some x, fun i H x H' => H' = H ∧ ∀ xs, SqT K H a xs → xs[i]? = some x, fun i H => ∃ xs, SqT K H a xs ∧ xs.length ≤ i⟩
noncomputable def Itr (lo : Int) (n : Nat) : It := ⟨fun i _ => i < n, fun i H x H' => H' = H ∧ x = .int (lo + i), fun i _ => n ≤ i⟩
theorem turn_list {P : Program} {w : World} {K : PySem.W.Frag} {tg : Expr} (a it : Addr) : Turn P w K tg (Itl K a) [it] it (fun i h => h.IsListIter it a i) where
  mem := by simp
  obj := fun i h st b hb => by
    have e : b = it := by simpa using hb
    subst e
    obtain ⟨o, e, c, d⟩ := st
    exact ⟨o, e, fun v z => by rw [d] at z; cases z⟩
  keep := fun i h h' st k => st.at fun o e => k it (by simp) o e
  item := by
    intro X hP hw hK hc i pins s σ H E I hf st hg
    subst hP hw hK
    obtain ⟨xs, x, hq, hx⟩ := hg
    obtain ⟨its, rv, p, hz⟩ := I.list hq
    obtain ⟨u, hu, ru⟩ := rv.get hx
    obtain ⟨f0, f1, f2, f3, f4, f5⟩ := hf it (by simp)
    refine wpAny_pyNext_list_item st p.isList (x := u) (by simpa using hu) fun h' st' sb => ?_
    have I1 : Inv X pins σ H { s with heap := h' } := I.turned (t' := s.toks) (fun b o hb e => (sb.2 b hb).trans e) f0 f1 f3 f4 f5
    obtain ⟨o, e, c, d⟩ := id st'
    exact ⟨u, rfl, go_of (s := { s with heap := h' }) e c d (by decide) ⟨x, H, I1, ru, ⟨rfl, fun ys hy => by rw [I.list_inj hy hq]; exact hx⟩, st', fun b hb => (hf b hb).1⟩⟩
  done := by
    intro X hP hw hK hc i pins s σ H E I hf st hg
    subst hP hw hK
    obtain ⟨xs, hq, hx⟩ := hg
    obtain ⟨its, rv, p, hz⟩ := I.list hq
    obtain ⟨f0, f1, f2, f3, f4, f5⟩ := hf it (by simp)
    have hl := rv.length
    exact wpAny_pyNext_list_end (I.ok.hd hc) st p.isList (by simp; omega) fun h' eb => ⟨rfl, I.turned (t' := s.toks) (fun b o hb e => eb b o hb e) f0 f1 f3 f4 f5⟩
  self := fun _ _ _ _ _ st h => wpAny_pyIter_listiter st h
theorem turn_tuple {P : Program} {w : World} {K : PySem.W.Frag} {tg : Expr} (a it : Addr) : Turn P w K tg (Itt K a) [it] it (fun i h => h.IsTupleIter it a i) where
  mem := by simp
  obj := fun i h st b hb => by
    have e : b = it := by simpa using hb
    subst e
    obtain ⟨o, e, c, d⟩ := st
    exact ⟨o, e, fun v z => by rw [d] at z; cases z⟩
  keep := fun i h h' st k => st.at fun o e => k it (by simp) o e
  item := by
    intro X hP hw hK hc i pins s σ H E I hf st hg
    subst hP hw hK
    obtain ⟨xs, x, hq, hx⟩ := hg
    obtain ⟨its, rv, p, hz⟩ := I.tuple hq
    obtain ⟨u, hu, ru⟩ := rv.get hx
    obtain ⟨f0, f1, f2, f3, f4, f5⟩ := hf it (by simp)
    refine wpAny_pyNext_tuple_item st (show s.heap.IsTuple a its.toArray from p) (x := u) (by simpa using hu) fun h' st' sb => ?_
    have I1 : Inv X pins σ H { s with heap := h' } := I.turned (t' := s.toks) (fun b o hb e => (sb.2 b hb).trans e) f0 f1 f3 f4 f5
    obtain ⟨o, e, c, d⟩ := id st'
    exact ⟨u, rfl, go_of (s := { s with heap := h' }) e c d (by decide) ⟨x, H, I1, ru, ⟨rfl, fun ys hy => by rw [I.tuple_inj hy hq]; exact hx⟩, st', fun b hb => (hf b hb).1⟩⟩
  done := by
    intro X hP hw hK hc i pins s σ H E I hf st hg
    subst hP hw hK
    obtain ⟨xs, hq, hx⟩ := hg
    obtain ⟨its, rv, p, hz⟩ := I.tuple hq
    obtain ⟨f0, f1, f2, f3, f4, f5⟩ := hf it (by simp)
    have hl := rv.length
    exact wpAny_pyNext_tuple_end (I.ok.hd hc) st (show s.heap.IsTuple a its.toArray from p) (by simp; omega) fun h' eb => ⟨rfl, I.turned (t' := s.toks) (fun b o hb e => eb b o hb e) f0 f1 f3 f4 f5⟩
  self := fun _ _ _ _ _ st h => wpAny_pyIter_tupleiter st h
theorem turn_range {P : Program} {w : World} {K : PySem.W.Frag} {tg : Expr} (it : Addr) (lo : Int) (n : Nat) : Turn P w K tg (Itr lo n) [it] it (fun i h => IsRangeIter h it (lo + (i : Nat) * 1) ((n : Int) - (i : Nat)) 1) where
  mem := by simp
  obj := fun i h st b hb => by
    have e : b = it := by simpa using hb
    subst e
    exact ⟨_, st, fun v z => by
      have z' : Data.fields _ = Data.cell v := z
      cases z'⟩
  keep := fun i h h' st k => k it (by simp) _ st
  item := by
    intro X hP hw hK hc i pins s σ H E I hf st hg
    subst hP hw hK
    obtain ⟨f0, f1, f2, f3, f4, f5⟩ := hf it (by simp)
    have W := Walks.range (prog := X.prog) (w := X.w) (I.ok.hd hc) it lo 1 n
    refine W.item i s _ _ hg st fun v h' tk hv st' kk => ?_
    obtain ⟨t, rfl⟩ := hv
    have I1 : Inv X pins σ H { s with heap := h', toks := tk } := I.turned (fun b o hb e => kk b o (by simpa using hb) e) f0 f1 f3 f4 f5
    refine ⟨_, rfl, go_of (s := { s with heap := h', toks := tk }) (n := "range_iterator") st' rfl rfl (by decide) ⟨.int (lo + i), H, I1, ⟨t, ?_⟩, ⟨rfl, rfl⟩, st', fun b hb => (hf b hb).1⟩⟩
    rw [Int.mul_one]
  done := by
    intro X hP hw hK hc i pins s σ H E I hf st hg
    subst hP hw hK
    obtain ⟨f0, f1, f2, f3, f4, f5⟩ := hf it (by simp)
    exact wpAny_pyNext_range_end (I.ok.hd hc) st (by have : n ≤ i := hg; omega) fun h' eb => ⟨rfl, I.turned (t' := s.toks) (fun b o hb e => eb b o hb e) f0 f1 f3 f4 f5⟩
  self := fun _ _ _ _ _ st h => wpAny_pyIter_rangeiter st h
end L2

namespace L2
open PySem PySem.Spec PyProof.Rows
section
variable {X : Cx} {tg : Expr}
noncomputable def iList (K : PySem.W.Frag) (tl : TE) : TI := fun σ H R => tl σ H fun x H1 => ∃ a, x = .ref a ∧ (∃ xs, SqL K H1 a xs) ∧ R (Itl K a) H1
noncomputable def iTup (K : PySem.W.Frag) (tl : TE) : TI := fun σ H R => tl σ H fun x H1 => ∃ a, x = .ref a ∧ (∃ xs, SqT K H1 a xs) ∧ R (Itt K a) H1
theorem pi_list {l : Expr} {tl : TE} (hl : PE X l tl) : PI X tg l (iList X.K tl) := by
  intro pins s σ H R I h
  refine thn (hl pins s σ H _ I h) fun v s1 ⟨x, H1, I1, r1, q1⟩ => ?_
  obtain ⟨a, e, ⟨xs, hq⟩, q⟩ := q1
  subst e
  cases r1
  obtain ⟨its, rv, p, hz⟩ := I1.list hq
  refine wpAny_pyIter_list p.isList ?_
  refine ⟨s1.heap.objs.size, [s1.heap.objs.size], _, _, H1, rfl, I1.kept (t' := s1.toks) fun b o e => Heap.get?_push_of_some _ e, turn_list a _, ⟨_, Heap.get?_push_size _ rfl, rfl, rfl⟩, fun b hb => ?_, q⟩
  have e : b = s1.heap.objs.size := by simpa using hb
  subst e
  exact I1.fpOk (Nat.le_refl _) (I1.hok.fresh (Nat.le_refl _))
theorem pi_tup {l : Expr} {tl : TE} (hl : PE X l tl) : PI X tg l (iTup X.K tl) := by
  intro pins s σ H R I h
  refine thn (hl pins s σ H _ I h) fun v s1 ⟨x, H1, I1, r1, q1⟩ => ?_
  obtain ⟨a, e, ⟨xs, hq⟩, q⟩ := q1
  subst e
  cases r1
  obtain ⟨its, rv, p, hz⟩ := I1.tuple hq
  refine wpAny_pyIter_tuple (show s1.heap.IsTuple a its.toArray from p) ?_
  refine ⟨s1.heap.objs.size, [s1.heap.objs.size], _, _, H1, rfl, I1.kept (t' := s1.toks) fun b o e => Heap.get?_push_of_some _ e, turn_tuple a _, ⟨_, Heap.get?_push_size _ rfl, rfl, rfl⟩, fun b hb => ?_, q⟩
  have e : b = s1.heap.objs.size := by simpa using hb
  subst e
  exact I1.fpOk (Nat.le_refl _) (I1.hok.fresh (Nat.le_refl _))
theorem range_it {pins : List (Addr × Obj)} {σ : St} {H : Hp} {s : Shared} {R : It → Hp → Prop} {E : Value → Shared → Prop} {lo hi : Int} {t u v : Tok} {tk : Nat} (I : Inv X pins σ H s) (h1 : -(2 ^ 62) ≤ lo) (h2 : lo < 2 ^ 62) (h3 : -(2 ^ 62) ≤ hi) (h4 : hi < 2 ^ 62)
    (q : R (Itr lo (hi - lo).toNat) H) : wpAny (model X.prog X.w) X.A (pyIter (.ref s.heap.objs.size)) (PIE X pins σ tg R) E { s with heap := s.heap.push { cls := .type "range", data := .fields #[.int lo t, .int hi u, .int 1 v] }, toks := tk } := by
  refine wpAny_pyIter_range (IsRange.new ..) (small_one h1 h2 h3 h4) ?_
  have I1 : Inv X pins σ H { s with heap := s.heap.push { cls := .type "range", data := .fields #[.int lo t, .int hi u, .int 1 v] }, toks := tk } := I.kept fun b o e => Heap.get?_push_of_some _ e
  refine ⟨(s.heap.push { cls := .type "range", data := .fields #[.int lo t, .int hi u, .int 1 v] }).objs.size, [(s.heap.push { cls := .type "range", data := .fields #[.int lo t, .int hi u, .int 1 v] }).objs.size], _, _, H, rfl,
    I1.kept (t' := tk) fun b o e => Heap.get?_push_of_some _ e, turn_range _ lo (hi - lo).toNat, ?_, fun b hb => ?_, q⟩
  · have e1 : lo + ((0 : Nat) : Int) * 1 = lo := by simp
    have e2 : (((hi - lo).toNat : Nat) : Int) - ((0 : Nat) : Int) = Builtin.Range.rangeSize lo hi 1 := by rw [rangeSize_one]; split <;> omega
    show IsRangeIter _ _ (lo + ((0 : Nat) : Int) * 1) ((((hi - lo).toNat : Nat) : Int) - ((0 : Nat) : Int)) 1
    rw [e1, e2]
    exact Heap.get?_push_size _ rfl
  · have e : b = (s.heap.push { cls := .type "range", data := .fields #[.int lo t, .int hi u, .int 1 v] }).objs.size := by simpa using hb
    subst e
    exact I1.fpOk (Nat.le_refl _) (I1.hok.fresh (Nat.le_refl _))
noncomputable def iRng1 (ta : TA) : TI := fun σ H R => ta σ H fun vs H1 => ∃ j : Int, vs = [.int j] ∧ -(2 ^ 62) ≤ j ∧ j < 2 ^ 62 ∧ R (Itr 0 j.toNat) H1
theorem pi_range1 {a : Expr} {ta : TA} {p pos : Pos} (hg : Gl X "range") (hm : X.mg "range" = none) (ha : PA X [a] ta) (hs : autoParam (starEach [a] X.env = [(false, eval a X.env)]) au0_._auto_1) : PI X tg (.Call (.Name "range" p) [a] [] pos) (iRng1 ta) := by
  intro pins s σ H R I h
  refine Call_ (ld_blt I hg hm boot_range (PyProof.Rows.callWith_type1 (thn (ha pos pins s σ H _ I h) fun us s1 ⟨vs, H1, I1, r1, q1⟩ => ?_) hs rfl))
  obtain ⟨j, e, q1, q2, q⟩ := q1
  subst e
  cases r1 with
  | cons r rr =>
    cases rr
    obtain ⟨t, rfl⟩ := r
    exact call_range_1 (range_it I1 (by omega) (by omega) q1 q2 (by simpa using q))
noncomputable def tFor (wi : TI) (g : TG) (tb : TS) : TS := fun D σ H => wi σ H fun J H1 => ∃ W : Nat → Nat → St → Hp → Prop, (∃ m, W 0 m σ H1) ∧ ∀ i m σ H, W i m σ H →
  (J.stop i H ∧ D.nx σ H) ∨ (J.go i H ∧ ∃ N : St → Hp → Prop, (∀ σ' H', N σ' H' → ∃ m', m' < m ∧ W (i + 1) m' σ' H') ∧ ∀ x H', J.yld i H x H' → g x σ H' fun σ2 H2 => tb { D with nx := N, ct := N, bk := D.nx } σ2 H2)
noncomputable def pinsAt (fp : List Addr) (h : Heap) : List (Addr × Obj) := fp.filterMap fun b => (h.get? b).map fun o => (b, o)
theorem mem_pinsAt {fp : List Addr} {h : Heap} {b : Addr} {o : Obj} (hb : b ∈ fp) (e : h.get? b = some o) : (b, o) ∈ pinsAt fp h := List.mem_filterMap.mpr ⟨b, hb, by rw [e]; rfl⟩
theorem of_pinsAt {fp : List Addr} {h : Heap} {p : Addr × Obj} (hp : p ∈ pinsAt fp h) : p.1 ∈ fp ∧ h.get? p.1 = some p.2 := by
  obtain ⟨b, hb, e⟩ := List.mem_filterMap.mp hp
  cases q : h.get? b with
  | none => rw [q] at e; cases e
  | some o =>
    rw [q] at e
    have e' : (b, o) = p := Option.some.inj e
    subst e'
    exact ⟨hb, q⟩
theorem Inv.pinned {pins : List (Addr × Obj)} {σ : St} {H : Hp} {s : Shared} {fp : List Addr} (I : Inv X pins σ H s) (hf : ∀ b ∈ fp, FpOk X pins H b) (ho : ∀ b ∈ fp, ∃ o, s.heap.get? b = some o ∧ ∀ v, o.data ≠ .cell v) : Inv X (pins ++ pinsAt fp s.heap) σ H s :=
  I.pins_of fun p hp => (List.mem_append.mp hp).elim (fun z => I.pin p (List.mem_append_right _ z)) fun z => by
    obtain ⟨hb, e⟩ := of_pinsAt z
    obtain ⟨f0, f1, f2, _⟩ := hf p.1 hb
    obtain ⟨o, e', d⟩ := ho p.1 hb
    rw [e] at e'; cases e'
    exact ⟨e, f0, f1, f2, d⟩
theorem Inv.unpinned {pins pl : List (Addr × Obj)} {σ : St} {H : Hp} {s : Shared} (I : Inv X (pins ++ pl) σ H s) : Inv X pins σ H s := I.pins_of fun p hp => I.pin p (List.mem_append_right _ (List.mem_append_left _ hp))
theorem ps_for {iter : Expr} {body : List Stmt} {wi : TI} {g : TG} {tb : TS} {pos : Pos} (hp : PassesOwn (model X.prog X.w) X.A X.env X.xe) (hc : X.calm = true) (hi : PI X tg iter wi) (hg : PG X tg g) (hb : PSs X body tb)
    (hs : autoParam (∀ x, foldedSetIterable iter X.env x = pure x) au2_._auto_1) : PS X (.For tg iter body [] pos) (tFor wi g tb) := by
  intro pins s σ H D I h
  refine wpAny_For (thn (hi pins s σ H _ I h) fun v s1 h1 => thn h1 fun itv s2 h2 => ?_) hs
  obtain ⟨it, fp, tn, J, H2, e, I2, T, st2, f2, W, ⟨m0, w0⟩, turn⟩ := h2
  subst e
  -- what stays true of the iterator's objects through the loop
  have stat : ∀ {H' : Hp}, (∀ b ∈ fp, H' b = none) → ∀ b ∈ fp, FpOk X pins H' b := fun hn b hb => ⟨hn b hb, (f2 b hb).2⟩
  refine codeAny_forLoop_any (fun n s' => ∃ i σ' H', Inv X pins σ' H' s' ∧ tn i s'.heap ∧ (∀ b ∈ fp, H' b = none) ∧ W i n σ' H') ?_ m0 ⟨0, σ, H2, I2, st2, fun b hb => (f2 b hb).1, w0⟩
  rintro n s3 ⟨i, σ3, H3, I3, st3, fr3, w3⟩
  rcases turn i n σ3 H3 w3 with ⟨stop, qn⟩ | ⟨go, N, hN, step⟩
  · refine wpAny_passesOwn hp (thn (T.done X rfl rfl rfl hc i pins s3 σ3 H3 X.xe I3 (stat fr3) st3 stop) fun r s4 ⟨hr, I4⟩ => ?_)
    subst hr
    exact wpAny_execs_nil ⟨σ3, H3, I4, qn⟩
  · refine wpAny_passesOwn hp (thn (T.item X rfl rfl rfl hc i pins s3 σ3 H3 X.xe I3 (stat fr3) st3 go) fun r s4 ⟨u, hr, h4⟩ => ?_)
    subst hr
    refine wpAny_passesOwn hp (thn h4 fun _ s5 ⟨x, H5, I5, r5, y5, st5, fr5⟩ => ?_)
    have I5' := I5.pinned (stat fr5) (T.obj _ _ st5)
    refine wpAny_passesOwn hp (thn (hg _ s5 σ3 H5 x u _ I5' r5 (step x H5 y5)) fun _ s6 ⟨σ6, H6, I6, q6⟩ => ?_)
    refine wpAny_passesOwn hp (thn (hb _ s6 σ6 H6 _ I6 q6) fun f s7 q7 => ?_)
    have again : ∀ {σ7 : St} {H7 : Hp}, Inv X (pins ++ pinsAt fp s5.heap) σ7 H7 s7 → N σ7 H7 → ∃ m, m < n ∧ ∃ i σ' H', Inv X pins σ' H' s7 ∧ tn i s7.heap ∧ (∀ b ∈ fp, H' b = none) ∧ W i m σ' H' := fun {σ7 H7} I7 n7 => by
      obtain ⟨m', hm, w7⟩ := hN σ7 H7 n7
      refine ⟨m', hm, i + 1, σ7, H7, I7.unpinned, T.keep _ _ _ st5 fun b hb o e => (I7.pin (b, o) (List.mem_append_right _ (List.mem_append_right _ (mem_pinsAt hb e)))).1, fun b hb => ?_, w7⟩
      obtain ⟨o, e, d⟩ := T.obj _ _ st5 b hb
      exact (I7.pin (b, o) (List.mem_append_right _ (List.mem_append_right _ (mem_pinsAt hb e)))).2.1
    cases f with
    | next => obtain ⟨σ7, H7, I7, n7⟩ := q7; exact again I7 n7
    | cont => obtain ⟨σ7, H7, I7, n7⟩ := q7; exact again I7 n7
    | brk => obtain ⟨σ7, H7, I7, q7⟩ := q7; exact ⟨σ7, H7, I7.unpinned, q7⟩
    | ret v => obtain ⟨x7, σ7, H7, I7, r7, q7⟩ := q7; exact ⟨x7, σ7, H7, I7.unpinned, r7, q7⟩
end

theorem for_list {K : PySem.W.Frag} {a : Addr} {xs : List V} {g : TG} {tb : TS} {D : Ends} {σ : St} {H : Hp} (Pv : Nat → St → Hp → Prop) (h0 : Pv 0 σ H) (hl : ∀ i σ H, i ≤ xs.length → Pv i σ H → SqL K H a xs)
    (hs : ∀ i x σ H, xs[i]? = some x → Pv i σ H → g x σ H fun σ2 H2 => tb { D with nx := Pv (i + 1), ct := Pv (i + 1), bk := D.nx } σ2 H2) (hd : ∀ σ H, Pv xs.length σ H → D.nx σ H) :
    ∃ W : Nat → Nat → St → Hp → Prop, (∃ m, W 0 m σ H) ∧ ∀ i m σ H, W i m σ H →
      ((Itl K a).stop i H ∧ D.nx σ H) ∨ ((Itl K a).go i H ∧ ∃ N : St → Hp → Prop, (∀ σ' H', N σ' H' → ∃ m', m' < m ∧ W (i + 1) m' σ' H') ∧ ∀ x H', (Itl K a).yld i H x H' → g x σ H' fun σ2 H2 => tb { D with nx := N, ct := N, bk := D.nx } σ2 H2) := by
  refine ⟨fun i m σ H => m = xs.length - i ∧ i ≤ xs.length ∧ Pv i σ H, ⟨xs.length, by simp, Nat.zero_le _, h0⟩, ?_⟩
  rintro i m σ H ⟨rfl, hi, p⟩
  have q := hl i σ H hi p
  by_cases hlt : i < xs.length
  · refine .inr ⟨⟨xs, xs[i], q, by simp [hlt]⟩, Pv (i + 1), fun σ' H' p' => ⟨xs.length - (i + 1), by omega, rfl, hlt, p'⟩, fun x H' y => ?_⟩
    obtain ⟨e, y⟩ := y
    subst e
    exact hs i x σ _ (y xs q) p
  · have e : i = xs.length := by omega
    subst e
    exact .inl ⟨⟨xs, q, Nat.le_refl _⟩, hd σ H p⟩
theorem for_tup {K : PySem.W.Frag} {a : Addr} {xs : List V} {g : TG} {tb : TS} {D : Ends} {σ : St} {H : Hp} (Pv : Nat → St → Hp → Prop) (h0 : Pv 0 σ H) (hl : ∀ i σ H, i ≤ xs.length → Pv i σ H → SqT K H a xs)
    (hs : ∀ i x σ H, xs[i]? = some x → Pv i σ H → g x σ H fun σ2 H2 => tb { D with nx := Pv (i + 1), ct := Pv (i + 1), bk := D.nx } σ2 H2) (hd : ∀ σ H, Pv xs.length σ H → D.nx σ H) :
    ∃ W : Nat → Nat → St → Hp → Prop, (∃ m, W 0 m σ H) ∧ ∀ i m σ H, W i m σ H →
      ((Itt K a).stop i H ∧ D.nx σ H) ∨ ((Itt K a).go i H ∧ ∃ N : St → Hp → Prop, (∀ σ' H', N σ' H' → ∃ m', m' < m ∧ W (i + 1) m' σ' H') ∧ ∀ x H', (Itt K a).yld i H x H' → g x σ H' fun σ2 H2 => tb { D with nx := N, ct := N, bk := D.nx } σ2 H2) := by
  refine ⟨fun i m σ H => m = xs.length - i ∧ i ≤ xs.length ∧ Pv i σ H, ⟨xs.length, by simp, Nat.zero_le _, h0⟩, ?_⟩
  rintro i m σ H ⟨rfl, hi, p⟩
  have q := hl i σ H hi p
  by_cases hlt : i < xs.length
  · refine .inr ⟨⟨xs, xs[i], q, by simp [hlt]⟩, Pv (i + 1), fun σ' H' p' => ⟨xs.length - (i + 1), by omega, rfl, hlt, p'⟩, fun x H' y => ?_⟩
    obtain ⟨e, y⟩ := y
    subst e
    exact hs i x σ _ (y xs q) p
  · have e : i = xs.length := by omega
    subst e
    exact .inl ⟨⟨xs, q, Nat.le_refl _⟩, hd σ H p⟩
theorem for_range {lo : Int} {n : Nat} {g : TG} {tb : TS} {D : Ends} {σ : St} {H : Hp} (Pv : Nat → St → Hp → Prop) (h0 : Pv 0 σ H)
    (hs : ∀ i σ H, i < n → Pv i σ H → g (.int (lo + i)) σ H fun σ2 H2 => tb { D with nx := Pv (i + 1), ct := Pv (i + 1), bk := D.nx } σ2 H2) (hd : ∀ σ H, Pv n σ H → D.nx σ H) :
    ∃ W : Nat → Nat → St → Hp → Prop, (∃ m, W 0 m σ H) ∧ ∀ i m σ H, W i m σ H →
      ((Itr lo n).stop i H ∧ D.nx σ H) ∨ ((Itr lo n).go i H ∧ ∃ N : St → Hp → Prop, (∀ σ' H', N σ' H' → ∃ m', m' < m ∧ W (i + 1) m' σ' H') ∧ ∀ x H', (Itr lo n).yld i H x H' → g x σ H' fun σ2 H2 => tb { D with nx := N, ct := N, bk := D.nx } σ2 H2) := by
  refine ⟨fun i m σ H => m = n - i ∧ i ≤ n ∧ Pv i σ H, ⟨n, by simp, Nat.zero_le _, h0⟩, ?_⟩
  rintro i m σ H ⟨rfl, hi, p⟩
  by_cases hlt : i < n
  · refine .inr ⟨hlt, Pv (i + 1), fun σ' H' p' => ⟨n - (i + 1), by omega, rfl, hlt, p'⟩, fun x H' y => ?_⟩
    obtain ⟨e, y⟩ := y
    subst e y
    exact hs i σ _ hlt p
  · have e : i = n := by omega
    subst e
    exact .inl ⟨Nat.le_refl _, hd σ H p⟩
theorem while_by {c : TT} {tb : TS} {D : Ends} {σ : St} {H : Hp} (Pv : St → Hp → Prop) (μ : St → Hp → Nat) (h0 : Pv σ H)
    (hs : ∀ σ H, Pv σ H → c σ H fun b H1 => if b = true then tb { D with nx := fun σ' H' => Pv σ' H' ∧ μ σ' H' < μ σ H, ct := fun σ' H' => Pv σ' H' ∧ μ σ' H' < μ σ H, bk := D.nx } σ H1 else D.nx σ H1)
    (mono : ∀ σ H Q Q', (∀ b H1, Q b H1 → Q' b H1) → c σ H Q → c σ H Q') : tWhile c tb D σ H := by
  refine ⟨fun m σ H => m = μ σ H ∧ Pv σ H, ⟨_, rfl, h0⟩, ?_⟩
  rintro m σ H ⟨rfl, p⟩
  refine mono σ H _ _ (fun b H1 q => ?_) (hs σ H p)
  cases b with
  | true => exact ⟨_, fun σ' H' ⟨p', l⟩ => ⟨_, l, rfl, p'⟩, q⟩
  | false => exact q
end L2

namespace L2
open PySem PySem.Spec PyProof.Rows

noncomputable abbrev R2 := V → V → Hp → VK → Prop
noncomputable def OpR (X : Cx) (f : Value → Value → Sem Value) (r : R2) : Prop :=
  ∀ (pins : List (Addr × Obj)) (s : Shared) (σ : St) (H : Hp) (x y : V) (v u : Value) (Q : VK), Inv X pins σ H s → RelV x v → RelV y u → r x y H Q →
    wpAny (model X.prog X.w) X.A (f v u) (EP X pins σ Q) X.xe s
noncomputable def UnR (X : Cx) (f : Value → Sem Value) (r : V → Hp → VK → Prop) : Prop :=
  ∀ (pins : List (Addr × Obj)) (s : Shared) (σ : St) (H : Hp) (x : V) (v : Value) (Q : VK), Inv X pins σ H s → RelV x v → r x H Q →
    wpAny (model X.prog X.w) X.A (f v) (EP X pins σ Q) X.xe s
noncomputable def CallR (X : Cx) (f : Value) (r : List V → Hp → VK → Prop) : Prop :=
  ∀ (pins : List (Addr × Obj)) (s : Shared) (σ : St) (H : Hp) (xs : List V) (us : List Value) (Q : VK), Inv X pins σ H s → Vals xs us → r xs H Q →
    wpAny (model X.prog X.w) X.A (call f us) (EP X pins σ Q) X.xe s
noncomputable def tOp (r : R2) (ta tb : TE) : TE := fun σ H Q => ta σ H fun x H1 => tb σ H1 fun y H2 => r x y H2 Q
noncomputable def tUn (r : V → Hp → VK → Prop) (ta : TE) : TE := fun σ H Q => ta σ H fun x H1 => r x H1 Q
noncomputable def rI (C : Int → Int → Prop) (g : Int → Int → V) : R2 := fun x y H Q => ∃ i j, x = .int i ∧ y = .int j ∧ C i j ∧ Q (g i j) H
noncomputable def rI0 (g : Int → Int → V) : R2 := fun x y H Q => ∃ i j, x = .int i ∧ y = .int j ∧ Q (g i j) H
noncomputable def rU (g : Int → V) : V → Hp → VK → Prop := fun x H Q => ∃ i, x = .int i ∧ Q (g i) H

section
variable {X : Cx} {a b c : Expr} {ta tb tc : TE} {pos : Pos}

theorem binT (ha : PE X a ta) (hb : PE X b tb) {pins : List (Addr × Obj)} {s : Shared} {σ : St} {H : Hp} {R : V → V → Hp → Prop} (I : Inv X pins σ H s)
    (h : ta σ H fun x H1 => tb σ H1 fun y H2 => R x y H2) {Q : Value → Shared → Prop} {f : Value → Value → Sem Value}
    (hf : ∀ v u s2 x y H2, Inv X pins σ H2 s2 → RelV x v → RelV y u → R x y H2 → wpAny (model X.prog X.w) X.A (f v u) Q X.xe s2) :
    wpAny (model X.prog X.w) X.A (eval a X.env) (fun v s₁ => wpAny (model X.prog X.w) X.A (eval b X.env) (fun u s₂ => wpAny (model X.prog X.w) X.A (f v u) Q X.xe s₂) X.xe s₁) X.xe s := by
  refine thn (ha pins s σ H _ I h) fun v s1 ⟨x, H1, I1, r1, q1⟩ => ?_
  refine thn (hb pins s1 σ H1 _ I1 q1) fun u s2 ⟨y, H2, I2, r2, q2⟩ => ?_
  exact hf v u s2 x y H2 I2 r1 r2 q2

theorem pe_op {op : Operator} {r : R2} (ho : OpR X (binaryOp op) r) (ha : PE X a ta) (hb : PE X b tb) : PE X (.BinOp a op b pos) (tOp r ta tb) := by
  intro pins s σ H Q I h
  exact wpAny_BinOp (binT ha hb I h fun v u s2 x y H2 I2 rx ry q => ho pins s2 σ H2 x y v u Q I2 rx ry q)
theorem pe_un {op : UnaryOp} {r : V → Hp → VK → Prop} (ho : UnR X (unaryOp op) r) (ha : PE X a ta) : PE X (.UnaryOp op a pos) (tUn r ta) := by
  intro pins s σ H Q I h
  exact UnaryOp_ (thn (ha pins s σ H _ I h) fun v s1 ⟨x, H1, I1, r1, q1⟩ => ho pins s1 σ H1 x v Q I1 r1 q1)
theorem opI {f : Value → Value → Sem Value} {C : Int → Int → Prop} {g : Int → Int → Int}
    (rule : ∀ (i j : Int) (t u : Tok) (s : Shared) (Q : Value → Shared → Prop) (E : Value → Shared → Prop), C i j → Q (.int (g i j) s.toks) { s with toks := s.toks + 1 } → wpAny (model X.prog X.w) X.A (f (.int i t) (.int j u)) Q E s) :
    OpR X f (rI C fun i j => .int (g i j)) := by
  intro pins s σ H x y v u Q I rx ry h
  obtain ⟨i, j, rfl, rfl, hc, q⟩ := h
  obtain ⟨t, rfl⟩ := rx
  obtain ⟨t', rfl⟩ := ry
  exact rule i j t t' s _ _ hc ⟨.int (g i j), H, I.tok _, ⟨_, rfl⟩, q⟩
theorem opI0 {f : Value → Value → Sem Value} {g : Int → Int → Int}
    (rule : ∀ (i j : Int) (t u : Tok) (s : Shared) (Q : Value → Shared → Prop) (E : Value → Shared → Prop), Q (.int (g i j) s.toks) { s with toks := s.toks + 1 } → wpAny (model X.prog X.w) X.A (f (.int i t) (.int j u)) Q E s) :
    OpR X f (rI0 fun i j => .int (g i j)) := by
  intro pins s σ H x y v u Q I rx ry h
  obtain ⟨i, j, rfl, rfl, q⟩ := h
  obtain ⟨t, rfl⟩ := rx
  obtain ⟨t', rfl⟩ := ry
  exact rule i j t t' s _ _ ⟨.int (g i j), H, I.tok _, ⟨_, rfl⟩, q⟩
theorem opB0 {f : Value → Value → Sem Value} {g : Int → Int → Bool}
    (rule : ∀ (i j : Int) (t u : Tok) (s : Shared) (Q : Value → Shared → Prop) (E : Value → Shared → Prop), Q (.bool (g i j)) s → wpAny (model X.prog X.w) X.A (f (.int i t) (.int j u)) Q E s) :
    OpR X f (rI0 fun i j => .bl (g i j)) := by
  intro pins s σ H x y v u Q I rx ry h
  obtain ⟨i, j, rfl, rfl, q⟩ := h
  obtain ⟨t, rfl⟩ := rx
  obtain ⟨t', rfl⟩ := ry
  exact rule i j t t' s _ _ ⟨.bl (g i j), H, I, rfl, q⟩

noncomputable def CPow (i j : Int) : Prop := 0 ≤ j ∧ j ≤ 1000000 ∧ i.natAbs < 2 ^ 64
noncomputable def CMul (i j : Int) : Prop := (-(2 ^ 64) < i ∧ i < 2 ^ 64) ∨ (-(2 ^ 64) < j ∧ j < 2 ^ 64)
theorem CMul.ok {i j : Int} (h : CMul i j) : IntMulOk i j := by
  rcases h with ⟨h1, h2⟩ | ⟨h1, h2⟩
  · exact .of_left (intBits_le_64 h1 h2)
  · exact .of_right (intBits_le_64 h1 h2)
theorem two_pow_nn (k : Nat) : (0 : Int) ≤ 2 ^ k := by
  rw [two_pow_cast]
  exact Int.natCast_nonneg _

theorem op_add : OpR X (binaryOp .Add) (rI0 fun i j => .int (i + j)) := opI0 fun _ _ _ _ _ _ _ q => add_int q
theorem op_sub : OpR X (binaryOp .Sub) (rI0 fun i j => .int (i - j)) := opI0 fun _ _ _ _ _ _ _ q => sub_int q
theorem op_mod : OpR X (binaryOp .Mod) (rI (fun _ j => 0 < j) fun i j => .int (i % j)) := opI fun i j _ _ _ _ _ hc q => by
  have h1 : (0 : Int) < j := hc
  exact mod_int' (by omega) (by rw [Int.fmod_eq_emod_of_nonneg i (by omega)]; exact q)
theorem op_pow : OpR X (binaryOp .Pow) (rI CPow fun i j => .int (i ^ j.toNat)) := opI fun _ _ _ _ _ _ _ hc q => pow_int_small hc.1 hc.2.1 hc.2.2 q
theorem op_shr : OpR X (binaryOp .RShift) (rI (fun _ j => 0 ≤ j) fun i j => .int (i / 2 ^ j.toNat)) := opI fun i j _ _ _ _ _ hc q =>
  rshift_int hc (by rw [Int.fdiv_eq_ediv_of_nonneg i (two_pow_nn _)]; exact q)
theorem unI {f : Value → Sem Value} {g : Int → Int}
    (rule : ∀ (i : Int) (t : Tok) (s : Shared) (Q : Value → Shared → Prop) (E : Value → Shared → Prop), Q (.int (g i) s.toks) { s with toks := s.toks + 1 } → wpAny (model X.prog X.w) X.A (f (.int i t)) Q E s) :
    UnR X f (rU fun i => .int (g i)) := by
  intro pins s σ H x v Q I rx h
  obtain ⟨i, rfl, q⟩ := h
  obtain ⟨t, rfl⟩ := rx
  exact rule i t s _ _ ⟨.int (g i), H, I.tok _, ⟨_, rfl⟩, q⟩
theorem un_neg : UnR X (unaryOp .USub) (rU fun i => .int (-i)) := unI fun _ _ _ _ _ q => neg_int q
end

noncomputable def scal : V → V → Bool
  | .non, .non => true | .non, .int _ => true | .int _, .non => true | .non, .bl _ => true | .bl _, .non => true | .non, .str _ => true | .str _, .non => true
  | .int _, .int _ => true | .bl _, .bl _ => true | .str _, .str _ => true | .byt _, .byt _ => true
  | .int _, .str _ => true | .str _, .int _ => true | .bl _, .str _ => true | .str _, .bl _ => true
  | _, _ => false
noncomputable def rEq : R2 := fun x y H Q => scal x y = true ∧ Q (.bl (decide (x = y))) H
noncomputable def rNe : R2 := fun x y H Q => scal x y = true ∧ Q (.bl (!decide (x = y))) H

theorem dec_int {i j : Int} : decide (V.int i = V.int j) = (i == j) := by
  rw [Bool.eq_iff_iff]
  simp
theorem dec_bl {i j : Bool} : decide (V.bl i = V.bl j) = (i == j) := by
  rw [Bool.eq_iff_iff]
  simp
theorem dec_str {i j : Str} : decide (V.str i = V.str j) = (i == j) := by
  rw [Bool.eq_iff_iff]
  simp
theorem dec_byt {i j : Array UInt8} : decide (V.byt i = V.byt j) = (i.toList == j.toList) := by
  rw [Bool.eq_iff_iff]
  cases i
  cases j
  simp

section
variable {X : Cx} {a b c : Expr} {ta tb tc : TE} {pos : Pos}
theorem fin_bl {pins : List (Addr × Obj)} {σ : St} {H : Hp} {s : Shared} {Q : VK} {k k' : Bool} (I : Inv X pins σ H s) (q : Q (.bl k) H) (e : k = k') : EP X pins σ Q (.bool k') s := by
  subst e
  exact ⟨.bl k, H, I, rfl, q⟩
theorem op_eq : OpR X (compareOp .Eq) rEq := by
  intro pins s σ H x y v u Q I rx ry h
  obtain ⟨hs, q⟩ := h
  cases x with
  | non =>
    cases rx
    cases y with
    | non => cases ry; exact PySem.EqNone.eq_none_none (fin_bl I q (by simp))
    | bl j => cases ry; exact PySem.EqNone.eq_none_bool (fin_bl I q (by simp))
    | int j => obtain ⟨t', rfl⟩ := ry; exact PySem.EqNone.eq_none_int (fin_bl I q (by simp))
    | str j => obtain ⟨t', rfl⟩ := ry; exact PySem.EqNone.eq_none_str (fin_bl I q (by simp))
    | _ => exact absurd (show false = true from hs) Bool.false_ne_true
  | bl i =>
    cases rx
    cases y with
    | non => cases ry; exact PySem.EqNone.eq_bool_none (fin_bl I q (by simp))
    | bl j => cases ry; exact eq_bool (fin_bl I q dec_bl)
    | str j => obtain ⟨t', rfl⟩ := ry; exact PySem.EqMixed.eq_bool_str (fin_bl I q (by simp))
    | _ => exact absurd (show false = true from hs) Bool.false_ne_true
  | int i =>
    obtain ⟨t, rfl⟩ := rx
    cases y with
    | non => cases ry; exact PySem.EqNone.eq_int_none (fin_bl I q (by simp))
    | int j => obtain ⟨t', rfl⟩ := ry; exact eq_int (fin_bl I q dec_int)
    | str j => obtain ⟨t', rfl⟩ := ry; exact PySem.EqMixed.eq_int_str (fin_bl I q (by simp))
    | _ => exact absurd (show false = true from hs) Bool.false_ne_true
  | str i =>
    obtain ⟨t, rfl⟩ := rx
    cases y with
    | non => cases ry; exact PySem.EqNone.eq_str_none (fin_bl I q (by simp))
    | bl j => cases ry; exact PySem.EqMixed.eq_str_bool (fin_bl I q (by simp))
    | int j => obtain ⟨t', rfl⟩ := ry; exact PySem.EqMixed.eq_str_int (fin_bl I q (by simp))
    | str j => obtain ⟨t', rfl⟩ := ry; exact eq_str (fin_bl I q dec_str)
    | _ => exact absurd (show false = true from hs) Bool.false_ne_true
  | byt i =>
    obtain ⟨t, rfl⟩ := rx
    cases y with
    | byt j => obtain ⟨t', rfl⟩ := ry; exact PySem.W.eq_bytes (fin_bl I q dec_byt)
    | _ => exact absurd (show false = true from hs) Bool.false_ne_true
  | _ => cases y <;> exact absurd (show false = true from hs) Bool.false_ne_true
theorem op_ne : OpR X (compareOp .NotEq) rNe := by
  intro pins s σ H x y v u Q I rx ry h
  obtain ⟨hs, q⟩ := h
  cases x with
  | non =>
    cases rx
    cases y with
    | non => cases ry; exact PySem.EqNone.ne_none_none (fin_bl I q (by simp))
    | bl j => cases ry; exact PySem.EqNone.ne_none_bool (fin_bl I q (by simp))
    | int j => obtain ⟨t', rfl⟩ := ry; exact PySem.EqNone.ne_none_int (fin_bl I q (by simp))
    | str j => obtain ⟨t', rfl⟩ := ry; exact PySem.EqNone.ne_none_str (fin_bl I q (by simp))
    | _ => exact absurd (show false = true from hs) Bool.false_ne_true
  | bl i =>
    cases rx
    cases y with
    | non => cases ry; exact PySem.EqNone.ne_bool_none (fin_bl I q (by simp))
    | bl j => cases ry; exact ne_bool (fin_bl I q (congrArg not dec_bl))
    | str j => obtain ⟨t', rfl⟩ := ry; exact PySem.EqMixed.ne_bool_str (fin_bl I q (by simp))
    | _ => exact absurd (show false = true from hs) Bool.false_ne_true
  | int i =>
    obtain ⟨t, rfl⟩ := rx
    cases y with
    | non => cases ry; exact PySem.EqNone.ne_int_none (fin_bl I q (by simp))
    | int j => obtain ⟨t', rfl⟩ := ry; exact ne_int (fin_bl I q (congrArg not dec_int))
    | str j => obtain ⟨t', rfl⟩ := ry; exact PySem.EqMixed.ne_int_str (fin_bl I q (by simp))
    | _ => exact absurd (show false = true from hs) Bool.false_ne_true
  | str i =>
    obtain ⟨t, rfl⟩ := rx
    cases y with
    | non => cases ry; exact PySem.EqNone.ne_str_none (fin_bl I q (by simp))
    | bl j => cases ry; exact PySem.EqMixed.ne_str_bool (fin_bl I q (by simp))
    | int j => obtain ⟨t', rfl⟩ := ry; exact PySem.EqMixed.ne_str_int (fin_bl I q (by simp))
    | str j => obtain ⟨t', rfl⟩ := ry; exact ne_str (fin_bl I q (congrArg not dec_str))
    | _ => exact absurd (show false = true from hs) Bool.false_ne_true
  | byt i =>
    obtain ⟨t, rfl⟩ := rx
    cases y with
    | byt j => obtain ⟨t', rfl⟩ := ry; exact PySem.W.ne_bytes (fin_bl I q (congrArg not dec_byt))
    | _ => exact absurd (show false = true from hs) Bool.false_ne_true
  | _ => cases y <;> exact absurd (show false = true from hs) Bool.false_ne_true

theorem op_lt : OpR X (compareOp .Lt) (rI0 fun i j => .bl (decide (i < j))) := opB0 fun _ _ _ _ _ _ _ q => lt_int q
theorem op_gt : OpR X (compareOp .Gt) (rI0 fun i j => .bl (decide (j < i))) := opB0 fun _ _ _ _ _ _ _ q => gt_int q
theorem op_ge : OpR X (compareOp .GtE) (rI0 fun i j => .bl (decide (j ≤ i))) := opB0 fun _ _ _ _ _ _ _ q => ge_int q
theorem op_in_str : OpR X (compareOp .In) (fun x y H Q => ∃ i j, x = .str i ∧ y = .str j ∧ Q (.bl (!(Builtin.Str.occurrences j i 0 j.length 1).isEmpty)) H) := by
  intro pins s σ H x y v u Q I rx ry h
  obtain ⟨i, j, rfl, rfl, q⟩ := h
  obtain ⟨t, rfl⟩ := rx
  obtain ⟨t', rfl⟩ := ry
  exact in_str (fin_bl I q rfl)

theorem op_isN : OpR X (compareOp .Is) (fun x y H Q => y = .non ∧ Q (.bl (decide (x = .non))) H) := by
  intro pins s σ H x y v u Q I rx ry h
  obtain ⟨rfl, q⟩ := h
  cases ry
  refine is_none_gen (fin_bl I q ?_)
  cases x <;> first
    | (cases rx; rfl)
    | (obtain ⟨t, rfl⟩ := rx; rfl)
theorem op_notin_str : OpR X (compareOp .NotIn) (fun x y H Q => ∃ i j, x = .str i ∧ y = .str j ∧ Q (.bl (!(!(Builtin.Str.occurrences j i 0 j.length 1).isEmpty))) H) := by
  intro pins s σ H x y v u Q I rx ry h
  obtain ⟨i, j, rfl, rfl, q⟩ := h
  obtain ⟨t, rfl⟩ := rx
  obtain ⟨t', rfl⟩ := ry
  exact notIn_str (fin_bl I q rfl)
theorem nomark (b : Expr) {op : CmpOp} (h : autoParam (op ≠ .In) au1_._auto_1) (h2 : autoParam (op ≠ .NotIn) au1_._auto_1) : behindInMarks op b = false := by
  have e1 : (op == CmpOp.In) = false := by cases op <;> first | rfl | exact absurd rfl h
  have e2 : (op == CmpOp.NotIn) = false := by cases op <;> first | rfl | exact absurd rfl h2
  cases b <;> simp [behindInMarks, e1, e2]
theorem pe_cmpR {op : CmpOp} {r : R2} (ho : OpR X (compareOp op) r) (ha : PE X a ta) (hb : PE X b tb) (hm : behindInMarks op b = false) : PE X (.Compare a [op] [b] pos) (tOp r ta tb) := by
  intro pins s σ H Q I h
  exact wpAny_Compare1 (binT ha hb I h fun v u s2 x y H2 I2 rx ry q => ho pins s2 σ H2 x y v u Q I2 rx ry q) hm
noncomputable def tTest (t : TE) : TT := fun σ H Q => t σ H fun x H' => ∃ k, x = .bl k ∧ Q k H'
theorem pt_cmpR {op : CmpOp} {r : R2} (ho : OpR X (compareOp op) r) (ha : PE X a ta) (hb : PE X b tb) (hm : behindInMarks op b = false) : PT X (.Compare a [op] [b] pos) (tTest (tOp r ta tb)) := by
  intro pins s σ H Q I h
  refine wpAny_isTrue_Compare1 (thn (ha pins s σ H _ I h) fun v s1 ⟨x, H1, I1, r1, q1⟩ => thn (hb pins s1 σ H1 _ I1 q1) fun u s2 ⟨y, H2, I2, r2, q2⟩ =>
    thn (ho pins s2 σ H2 x y v u _ I2 r1 r2 q2) fun c s3 ⟨z, H3, I3, r3, k, e, q3⟩ => ?_) hm
  subst e
  cases r3
  exact wpAny_truthy_bool ⟨H3, I3, q3⟩
theorem line63 : (sizeLine : Nat) < 2 ^ 63 := by rw [sizeLine_eq]; decide
theorem op_add_str : OpR X (binaryOp .Add) (fun x y H Q => ∃ i j, x = .str i ∧ y = .str j ∧ i.length + j.length ≤ sizeLine ∧ Q (.str (i ++ j)) H) := by
  intro pins s σ H x y v u Q I rx ry h
  obtain ⟨i, j, rfl, rfl, hz, q⟩ := h
  obtain ⟨t, rfl⟩ := rx
  obtain ⟨t', rfl⟩ := ry
  exact add_str (fun t' tk => ⟨.str (i ++ j), H, I.tok _, ⟨_, rfl⟩, q⟩) hz
theorem vals1 {x : V} {us : List Value} (r : Vals [x] us) : ∃ u, us = [u] ∧ RelV x u := by
  cases r with
  | cons r1 r2 => cases r2; exact ⟨_, rfl, r1⟩
theorem vals2 {x y : V} {us : List Value} (r : Vals [x, y] us) : ∃ u w', us = [u, w'] ∧ RelV x u ∧ RelV y w' := by
  cases r with
  | cons r1 r2 =>
    cases r2 with
    | cons r3 r4 => cases r4; exact ⟨_, _, rfl, r1, r3⟩
theorem call_abs : CallR X (.builtin "abs") (fun xs H Q => ∃ i, xs = [.int i] ∧ Q (.int (if i < 0 then -i else i)) H) := by
  intro pins s σ H xs us Q I r h
  obtain ⟨i, rfl, q⟩ := h
  obtain ⟨u, rfl, t, rfl⟩ := vals1 r
  exact call_abs_int fun u tk => ⟨.int (if i < 0 then -i else i), H, I.tok _, ⟨_, rfl⟩, q⟩
theorem call_max2 (hc : X.calm = true) : CallR X (.builtin "max") (fun xs H Q => ∃ i j, xs = [.int i, .int j] ∧ Q (.int (if j > i then j else i)) H) := by
  intro pins s σ H xs us Q I r h
  obtain ⟨i, j, rfl, q⟩ := h
  obtain ⟨u, w', rfl, ⟨t, rfl⟩, ⟨t', rfl⟩⟩ := vals2 r
  refine max_two_ints (I.ok.hd hc) fun h' tk k => ⟨_, H, I.kept k, ?_, q⟩
  by_cases hj : j > i
  · rw [if_pos hj, if_pos hj]; exact ⟨_, rfl⟩
  · rw [if_neg hj, if_neg hj]; exact ⟨_, rfl⟩
theorem call_min2 (hc : X.calm = true) : CallR X (.builtin "min") (fun xs H Q => ∃ i j, xs = [.int i, .int j] ∧ Q (.int (if j < i then j else i)) H) := by
  intro pins s σ H xs us Q I r h
  obtain ⟨i, j, rfl, q⟩ := h
  obtain ⟨u, w', rfl, ⟨t, rfl⟩, ⟨t', rfl⟩⟩ := vals2 r
  refine min_two_ints (I.ok.hd hc) fun h' tk k => ⟨_, H, I.kept k, ?_, q⟩
  by_cases hj : j < i
  · rw [if_pos hj, if_pos hj]; exact ⟨_, rfl⟩
  · rw [if_neg hj, if_neg hj]; exact ⟨_, rfl⟩
theorem call_str_int : CallR X (.type "str") (fun xs H Q => ∃ i, xs = [.int i] ∧ i.natAbs.log2 < 1920 ∧ Q (.str (toString i)) H) := by
  intro pins s σ H xs us Q I r h
  obtain ⟨i, rfl, hz, q⟩ := h
  obtain ⟨u, rfl, t, rfl⟩ := vals1 r
  exact PySem.P.str_of_int hz ⟨.str _, H, I.tok _, ⟨_, rfl⟩, q⟩
end
end L2

namespace L2
open PySem PySem.Spec PyProof.Rows

structure ObjM (h : Heap) (x dx C : Addr) (mA : Str → Option Value) : Prop where
  obj : h.get? x = some (PySem.W.instObj C dx)
  ns : h.Ns1 dx mA
  ne : dx ≠ x

theorem lookIn_ns {h : Heap} {dx : Addr} {mA : Str → Option Value} (n : h.Ns1 dx mA) : ∃ od, h.get? dx = some od ∧ ∀ name, PySem.W.lookIn name od = some (mA name) := by
  obtain ⟨o, es, ep, ho, hd, hk, _, hm⟩ := n
  refine ⟨o, ho, fun name => ?_⟩
  have e := hm name
  unfold nsFind findBy at e
  rw [← Array.find?_toList] at e
  unfold PySem.W.lookIn
  rw [hd]
  dsimp only
  split
  · rename_i y q
    rw [q] at e
    exact congrArg some e
  · rename_i q
    rw [q] at e
    have a : es.toList.any (·.refKey) = false := by
      rw [List.any_eq_false]
      intro y hy
      obtain ⟨z, t, hkey⟩ := hk y (Array.mem_toList_iff.mp hy)
      simp [DictEntry.refKey, hkey]
    have a' : ¬ es.toList.any (·.refKey) = true := by rw [a]; exact Bool.false_ne_true
    rw [if_neg a']
    exact congrArg some e

theorem ObjM.look {h : Heap} {x dx C : Addr} {mA : Str → Option Value} (I : ObjM h x dx C mA) : ∃ od, PySem.W.InstAt h x (PySem.W.instObj C dx) C (some od) ∧ ∀ name, PySem.W.lookIn name od = some (mA name) :=
  let ⟨od, ho, hl⟩ := lookIn_ns I.ns
  ⟨od, ⟨I.obj, rfl, rfl, ho⟩, hl⟩

section
variable {prog : Program} {w : World} {A : Around} {E : Value → Shared → Prop} {s : Shared} {K : PySem.W.Frag} {x dx C f : Addr} {mA : Str → Option Value} {name : Str} {v : Value}

end

section
variable {P : Program} {w : World} {H H' : Hp} {h h' : Heap} {a C dx : Addr} {fs fs' : List (Str × V)}
theorem ins_get (hok : HOk P w H h) (e : H a = some (.ins C dx fs)) : ∃ mA, ObjM h a dx C mA ∧ (∀ f, RelO (fs.lookup f) (mA f)) ∧ PySem.Within mA (fs.map (·.1)) ∧ fs.length ≤ 1000 ∧ H dx = some (.own a) := by
  obtain ⟨d, z, ne, ob, mA, n, r, q⟩ := (show ObjOk P w H h a (.ins C dx fs) from hok a _ e)
  exact ⟨mA, ⟨ob, n, ne⟩, r, q, z, d⟩
end

structure Cls (K : PySem.W.Frag) (C : Addr) : Prop where
  pg : PySem.W.plainGet K C Str.empty = true
  hd : PySem.W.hasDictIn K C = true
  po : PySem.W.plainOver K C = true
  sa : PySem.W.findIn K (.ref C) "__setattr__" = some (some (.builtin "object.__setattr__"))
theorem Cls.get {K : PySem.W.Frag} {C : Addr} (c : Cls K C) (f : Str) : PySem.W.plainGet K C f = true := c.pg
section
variable {X : Cx} {pins : List (Addr × Obj)} {σ : St} {H : Hp} {s : Shared} {a C dx : Addr} {fs : List (Str × V)} {f : Str} {v : V} {A : Around} {E : Value → Shared → Prop}

end

section
variable {X : Cx} {o e value : Expr} {f : Str} {pos pos' tpos : Pos} {ta tv : TE}
end

section
variable {X : Cx} {pins : List (Addr × Obj)} {σ : St} {H : Hp} {s : Shared} {A : Around} {E : Value → Shared → Prop} {Q : Value → Shared → Prop} {c : Value} {b : Bool}
inductive TyOf (K : PySem.W.Frag) (H : Hp) : V → Value → Prop where
  | non : TyOf K H .non (.type "NoneType")
  | bl (x : Bool) : TyOf K H (.bl x) (.type "bool")
  | int (i : Int) : TyOf K H (.int i) (.type "int")
  | str (x : Str) : TyOf K H (.str x) (.type "str")
  | flt (x : UInt64) : TyOf K H (.flt x) (.type "float")
  | lst {a : Addr} {xs : List V} (e : H a = some (.lst xs)) : TyOf K H (.ref a) (.type "list")
  | frz {a : Addr} {o : Obj} {xs : List V} (e : H a = some (.frz o (.lst xs))) : TyOf K H (.ref a) (.type "list")
  | tup {a : Addr} {xs : List V} (e : H a = some (.tup xs)) : TyOf K H (.ref a) (.type "tuple")
  | dK {a : Addr} {kvs : List (Key × V)} (e : H a = some (.dK kvs)) : TyOf K H (.ref a) (.type "dict")
  | dT {a : Addr} {kvs : List (List Key × V)} (e : H a = some (.dT kvs)) : TyOf K H (.ref a) (.type "dict")
  | ins {a C dx : Addr} {fs : List (Str × V)} (e : H a = some (.ins C dx fs)) (cl : Cls K C) (ha : PySem.W.findIn K (.ref C) "__class__" = some (some (.builtin "object.__class__")))
      (hn : PySem.W.specialIn K (.builtin "object.__class__") "__get__" = some (some (.builtin "getset_descriptor.__get__"))) (htk : PySem.W.takesIn K (.builtin "object.__class__") = some true)
      (hm : PySem.W.mroIn K C (.type "object") = some true) : TyOf K H (.ref a) (.ref C)
theorem isinst_ok {x : V} {u t : Value} (I : Inv X pins σ H s) (rx : RelV x u) (ty : TyOf X.K H x t) (e : PySem.W.kitOne X.K t c = some b) (h : ∀ tk, Q (.bool b) { s with toks := tk }) :
    wpAny (model X.prog X.w) A (call (.builtin "isinstance") [u, c]) Q E s := by
  cases ty with
  | non => cases (show u = Value.none from rx); exact PySem.W.kia_one PySem.W.kitx_none I.kIn True.intro e (fun z => nomatch z) h
  | bl y => cases (show u = Value.bool y from rx); exact PySem.W.kia_one PySem.W.kitx_bool I.kIn True.intro e (fun z => nomatch z) h
  | int i => obtain ⟨t, q⟩ := (show ∃ t, u = Value.int i t from rx); cases q; exact PySem.W.kia_one PySem.W.kitx_int I.kIn True.intro e (fun z => nomatch z) h
  | str y => obtain ⟨t, q⟩ := (show ∃ t, u = Value.str y t from rx); cases q; exact PySem.W.kia_one PySem.W.kitx_str I.kIn True.intro e (fun z => nomatch z) h
  | flt y => obtain ⟨t, q⟩ := (show ∃ t, u = Value.float y t from rx); cases q; exact PySem.W.kia_one PySem.W.kitx_float I.kIn True.intro e (fun z => nomatch z) h
  | @lst a xs ea =>
    cases (show u = Value.ref a from rx)
    obtain ⟨_, _, n, _, h1⟩ := (show ObjOk X.prog X.w H s.heap a (.lst xs) from I.hok a _ ea)
    exact PySem.W.kia_one PySem.W.kitx_list I.kIn ⟨_, h1, rfl⟩ e (fun z => nomatch z) h
  | @frz a ob xs ea =>
    cases (show u = Value.ref a from rx)
    obtain ⟨_, _, _, n, _, h1⟩ := (show ObjOk X.prog X.w H s.heap a (.frz ob (.lst xs)) from I.hok a _ ea)
    exact PySem.W.kia_one PySem.W.kitx_list I.kIn ⟨_, h1, rfl⟩ e (fun z => nomatch z) h
  | @tup a xs ea =>
    cases (show u = Value.ref a from rx)
    obtain ⟨_, _, _, p⟩ := (show ObjOk X.prog X.w H s.heap a (.tup xs) from I.hok a _ ea)
    obtain ⟨o, h1, h2, _⟩ := p
    exact PySem.W.kia_one PySem.W.kitx_tuple I.kIn ⟨o, h1, h2⟩ e (fun z => nomatch z) h
  | @dK a kvs ea =>
    cases (show u = Value.ref a from rx)
    obtain ⟨_, _, vs, _, p⟩ := (show ObjOk X.prog X.w H s.heap a (.dK kvs) from I.hok a _ ea)
    obtain ⟨o, es, ep, h1, h2, _⟩ := p
    exact PySem.W.kia_one PySem.W.kitx_dict I.kIn ⟨o, h1, h2.1⟩ e (fun z => nomatch z) h
  | @dT a kvs ea =>
    cases (show u = Value.ref a from rx)
    obtain ⟨_, _, xs, _, o, es, ep, h1, h2, _⟩ := (show ObjOk X.prog X.w H s.heap a (.dT kvs) from I.hok a _ ea)
    exact PySem.W.kia_one PySem.W.kitx_dict I.kIn ⟨o, h1, h2.1⟩ e (fun z => nomatch z) h
  | @ins a C dx fs ea cl ha hn htk hm =>
    cases (show u = Value.ref a from rx)
    obtain ⟨mA, O, _⟩ := ins_get I.hok ea
    obtain ⟨od, J, _⟩ := O.look
    exact PySem.W.kia_one (PySem.W.kitx_own (cl.get _) cl.hd ha hn htk hm) I.kIn J e (fun z => nomatch z) h
end
end L2

namespace L2
open PySem PySem.Spec PyProof.Rows

structure Room (k : Nat) (A : Around) : Prop where
  hd : A.handled = none
  dp : A.depth + 3 * k + 5 < recursionLimit
  un : A.units + 16 * k + 200 < cLine
theorem Room.mono {j k : Nat} {A : Around} (r : Room k A) (h : j ≤ k) : Room j A := ⟨r.hd, by have := r.dp; omega, by have := r.un; omega⟩
theorem Room.deeper {k : Nat} {A : Around} (r : Room (k + 1) A) (env : Env) : Room k (A.deeper env) :=
  ⟨r.hd, by have := r.dp; show A.depth + 1 + 3 * k + 5 < _; omega, by have := r.un; show A.units + 3 + 16 * k + 200 < _; omega⟩
theorem Room.depth {k : Nat} {A : Around} (r : Room k A) : A.depth < recursionLimit := by have := r.dp; omega
theorem Room.units {k : Nat} {A : Around} (r : Room k A) : A.units + 64 < cLine := by have := r.un; omega
noncomputable def tNil : TA := fun _ H Q => Q [] H
noncomputable def tCons (ta : TE) (tr : TA) : TA := fun σ H Q => ta σ H fun x H1 => tr σ H1 fun xs H2 => Q (x :: xs) H2
section
variable {X : Cx} {e : Expr} {es : List Expr} {te : TE} {t : TA} {pos : Pos}
theorem pa_nil : PA X [] tNil := fun _ _ _ _ H Q I h => Calls.spliced_nil ⟨[], H, I, .nil, h⟩
theorem pa_cons (ha : PE X e te) (hr : PA X es t) (hs : autoParam (starEach (e :: es) X.env = (false, eval e X.env) :: starEach es X.env) au0_._auto_1) : PA X (e :: es) (tCons te t) := by
  intro pos pins s σ H Q I h
  rw [hs]
  show wpAny _ _ (spliced ((false, eval e X.env) :: backTo pos (starEach es X.env))) _ _ s
  refine Calls.spliced_cons (thn (ha pins s σ H _ I h) fun u s1 ⟨x, H1, I1, r1, q1⟩ => ?_)
  exact thn (hr pos pins s1 σ H1 _ I1 q1) fun us s2 ⟨xs, H2, I2, r2, q2⟩ => ⟨x :: xs, H2, I2, .cons r1 r2, q2⟩

noncomputable def tTup (t : TA) : TE := fun σ H Q => t σ H fun xs H1 => xs.length ≤ sizeLine ∧ ∀ p, H1 p = none → Q (.ref p) (upd H1 p (.tup xs))
noncomputable def tLst (t : TA) : TE := fun σ H Q => t σ H fun xs H1 => xs.length ≤ sizeLine ∧ ∀ p, H1 p = none → Q (.ref p) (upd H1 p (.lst xs))
theorem pe_tup {x1} (h : PA X es t) : PE X (.Tuple es x1 pos) (tTup t) := by
  intro pins s σ H Q I hq
  refine wpAny_Tuple_spliced (thn (h pos pins s σ H _ I hq) fun us s1 ⟨xs, H1, I1, r, z, q⟩ => ⟨by rw [← r.length]; exact z, ?_⟩)
  have hf : H1 s1.heap.objs.size = none := I1.hok.fresh (Nat.le_refl _)
  refine ⟨.ref s1.heap.objs.size, upd H1 s1.heap.objs.size (.tup xs), I1.laid (t' := s1.toks) (fun b u e => Heap.get?_push_of_some _ e) (Nat.le_refl _) ?_, rfl, q _ hf⟩
  exact ⟨z, us, r, ⟨_, Heap.get?_push_size _ rfl, rfl, _, rfl⟩⟩
theorem pe_lst (h : PA X es t) : PE X (.List es pos) (tLst t) := by
  intro pins s σ H Q I hq
  refine wpAny_List_spliced (thn (h pos pins s σ H _ I hq) fun us s1 ⟨xs, H1, I1, r, z, q⟩ => ⟨by rw [← r.length]; exact z, ?_⟩)
  have hf : H1 s1.heap.objs.size = none := I1.hok.fresh (Nat.le_refl _)
  refine ⟨.ref s1.heap.objs.size, upd H1 s1.heap.objs.size (.lst xs), I1.laid (t' := s1.toks) (fun b u e => Heap.get?_push_of_some _ e) (Nat.le_refl _) ?_, rfl, q _ hf⟩
  exact ⟨z, us, 0, r, Heap.get?_push_size _ rfl⟩
end

noncomputable abbrev Sp := List V → Hp → VK → XK → Prop
noncomputable abbrev CXT := List Env → Hp → Shared → XK → Value → Shared → Prop

structure Env0 (P : Program) (w : World) (K : PySem.W.Frag) (mg : Str → Option Value) (base : Heap) (A : Around) (outer : List Env) (s : Shared) (H : Hp) : Prop where
  frames : A.frames = some outer
  mod : Mod K mg base
  bs : ∀ b o, base.get? b = some o → s.heap.get? b = some o ∧ H b = none
  bsz : base.objs.size ≤ s.heap.objs.size
  funs : s.heap.FunFrames base outer
  frf : ∀ b ∈ frs outer, H b = none
  hok : HOk P w H s.heap
  bare : AllBare s.gens
noncomputable def CE (outer : List Env) (P : Program) (w : World) (H : Hp) (s : Shared) (Q : VK) (u : Value) (s' : Shared) : Prop :=
  ∃ v H', s'.os = s.os ∧ AllBare s'.gens ∧ Un (frs outer) [] H H' s.heap s'.heap ∧ HOk P w H' s'.heap ∧ RelV v u ∧ Q v H'
noncomputable def CR (CX : CXT) (outer : List Env) (P : Program) (w : World) (H : Hp) (s : Shared) (Q : VK) (E : XK) (r : Result) (s' : Shared) : Prop :=
  match r with
  | .ok (.ret u) => CE outer P w H s Q u s'
  | .ok _ => False
  | .error e => CX outer H s E e s'
structure FnOk (P : Program) (w : World) (K : PySem.W.Frag) (mg : Str → Option Value) (base : Heap) (CX : CXT) (k : Nat) (f : Addr) (fd : FuncData) (ps : List Str) (sp : Sp) : Prop where
  len : ∀ vs H Q E, sp vs H Q E → vs.length = ps.length
  run : ∀ (A : Around) (outer : List Env) (s : Shared) (H : Hp) (args : Args) (us : List Value) (vs : List V) (Q : VK) (E : XK), Room k A → Env0 P w K mg base A outer s H → BindsTo s fd args (ps.zip us) → Vals vs us → sp vs H Q E →
    codeAny (model P w) A (.call (.ref f) args) (CR CX outer P w H s Q E) s
section
variable {X : Cx} {pins : List (Addr × Obj)} {σ : St} {H : Hp} {s s' : Shared}
theorem Inv.env0 (I : Inv X pins σ H s) : Env0 X.prog X.w X.K X.mg X.base X.A X.stack s H :=
  ⟨I.ok.frames, I.ok.mod, I.bs, Nat.le_trans I.ok.bsz I.sz, I.stack, I.stkFree, I.hok, I.bare⟩
theorem Inv.after {Q : VK} {u : Value} (I : Inv X pins σ H s) (h : CE X.stack X.prog X.w H s Q u s') : EP X pins σ Q u s' := by
  obtain ⟨v, H', os, bare, un, hok, r, q⟩ := h
  obtain ⟨hh, g, d, t, os'⟩ := s'
  obtain rfl : os' = s.os := os
  exact ⟨v, H', I.call (h' := hh) (g' := g) (d' := d) (t' := t) (ch := []) un hok bare (fun b z => absurd z (by simp)), r, q⟩
end

noncomputable def tCall (sp : Sp) (dvs : List V) (E : XK) (t : TA) : TE := fun σ H Q => t σ H fun vs H1 => sp (vs ++ dvs) H1 Q E
noncomputable def Binds (K : PySem.W.Frag) (fd : FuncData) (ps : List Str) (ds : List Value) : Prop :=
  ∀ (s : Shared) (us : List Value), K.In s.heap → (us ++ ds).length = ps.length → BindsTo s fd ⟨us, []⟩ (ps.zip (us ++ ds))
theorem Binds.all {K : PySem.W.Frag} {fd : FuncData} {ps : List Str} (h : ∀ us : List Value, us.length = ps.length → bindArgs fd ⟨us, []⟩ = pure (ps.zip us)) : Binds K fd ps [] := fun s us _ hl => by
  rw [List.append_nil] at hl ⊢
  exact .of_eq (h us hl)

noncomputable def Passes (CX : CXT) (X : Cx) (E : XK) : Prop := ∀ (pins : List (Addr × Obj)) (σ : St) (H : Hp) (s : Shared) (e : Value) (s' : Shared), Inv X pins σ H s → CX X.stack H s E e s' → X.xe e s'

section
variable {X : Cx} {CX : CXT} {k : Nat} {f C : Addr} {fd : FuncData} {ps : List Str} {sp : Sp} {dvs : List V} {ds : List Value} {E : XK} {x m : Str} {p pos apos : Pos} {e o : Expr} {es : List Expr} {ta : TE} {t : TA}

theorem run_fn {pins : List (Addr × Obj)} {σ : St} {H : Hp} {s : Shared} {Q : VK} {us : List Value} {vs : List V} (F : FnOk X.prog X.w X.K X.mg X.base CX k f fd ps sp) (hr : Room k X.A) (hb : Binds X.K fd ps ds) (hd : Vals dvs ds) (hx : Passes CX X E)
    (I : Inv X pins σ H s) (r : Vals vs us) (h : sp (vs ++ dvs) H Q E) : wpAny (model X.prog X.w) X.A (call (.ref f) us) (EP X pins σ Q) X.xe s := by
  have r2 : Vals (vs ++ dvs) (us ++ ds) := r.append hd
  have hl : (us ++ ds).length = ps.length := by rw [← r2.length]; exact F.len _ _ _ _ h
  refine wpAny_call (codeAny_mono (F.run X.A X.stack s H ⟨us, []⟩ (us ++ ds) (vs ++ dvs) Q E hr I.env0 (hb s us I.kIn hl) r2 h) fun r s' hq => ?_)
  cases r with
  | error e => exact hx pins σ H s e s' I hq
  | ok fl =>
    cases fl with
    | ret u => exact I.after hq
    | next => exact False.elim hq
    | brk => exact False.elim hq
    | cont => exact False.elim hq

theorem pe_call (F : FnOk X.prog X.w X.K X.mg X.base CX k f fd ps sp) (hr : Room k X.A) (hg : Gl X x) (hm : X.mg x = some (.ref f)) (hk : PySem.W.keepIn X.K (.ref f) = true) (hb : Binds X.K fd ps ds) (hd : Vals dvs ds) (hx : Passes CX X E)
    (ha : PA X (e :: es) t) (hdb : autoParam ((x == ("__debug__" : Str)) = false) au1_._auto_1) (he : autoParam (starEach (e :: es) X.env = (false, eval e X.env) :: starEach es X.env) au0_._auto_1) (hpl : autoParam ((backTo pos (starEach es X.env)).any (·.1) = false) au0_._auto_1) :
    PE X (.Call (.Name x p) (e :: es) [] pos) (tCall sp dvs E t) := by
  intro pins s σ H Q I h
  refine wpAny_Call_Name_kw (ld_glob I hg hm ?_ hdb)
  refine PySem.W.callWith_K (h₀ := X.base) I.ok.mod.kin hk (thn (ha pos pins s σ H _ I h) fun us s1 ⟨vs, H1, I1, r, q⟩ => ⟨I1.kIn, ?_⟩) he hpl
  exact run_fn F hr hb hd hx I1 r q
end

section
variable {X : Cx} {CX : CXT} {k : Nat} {f C : Addr} {fd : FuncData} {ps ks : List Str} {sp : Sp} {E : XK} {x m : Str} {p pos apos kpos : Pos} {e o : Expr} {es : List Expr} {kws : List Keyword} {te ta : TE} {t tk : TA} {nm : Option Str}
variable {g : List Value → List Value → List Value} {gV : List V → List V → List V}
end

structure FnScope (N P : List Str) (sc : Scope) : Prop where
  kind : sc.kind = .function
  co : sc.isCoroutine = false
  gen : sc.isGenerator = false
  nd : N.Nodup
  pre : N.take P.length = P
  par : ∀ x ∈ P, sc.names.lookup x = some .local ∨ sc.names.lookup x = some .cell
  nofree : ∀ y ∈ sc.names, y.2 ≠ .free

theorem bindL_out {kindOf : Str → Option NameKind} {x : Str} : ∀ {binds : List (Str × Value)} {m : Str → Option Value}, (∀ v, (x, v) ∉ binds) → bindL kindOf binds m x = m x
  | [], _, _ => rfl
  | (n, v) :: r, m, h => by
    unfold bindL
    rw [bindL_out fun w hw => h w (List.mem_cons_of_mem _ hw)]
    split
    · have : x ≠ n := by rintro rfl; exact h v List.mem_cons_self
      simp [this]
    · rfl
theorem bindC_out {kindOf : Str → Option NameKind} {x : Str} : ∀ {binds : List (Str × Value)} {m : Str → Option Value}, (∀ v, (x, v) ∉ binds) → bindC kindOf binds m x = m x
  | [], _, _ => rfl
  | (n, v) :: r, m, h => by
    unfold bindC
    rw [bindC_out fun w hw => h w (List.mem_cons_of_mem _ hw)]
    split
    · rfl
    · have : x ≠ n := by rintro rfl; exact h v List.mem_cons_self
      simp [this]
theorem bindL_get {kindOf : Str → Option NameKind} {x : Str} {v : Value} : ∀ {P : List Str} {vs : List Value} {i : Nat} {m : Str → Option Value}, P.Nodup → P[i]? = some x → vs[i]? = some v → kindOf x = some .local →
    bindL kindOf (P.zip vs) m x = some v
  | [], _, _, _, _, h, _, _ => by simp at h
  | _ :: _, [], _, _, _, _, h, _ => by simp at h
  | p :: P, w :: vs, 0, m, nd, h1, h2, hk => by
    simp at h1 h2; subst h1; subst h2
    show bindL kindOf ((p, w) :: P.zip vs) m p = _
    unfold bindL
    rw [bindL_out fun v hv => (List.nodup_cons.mp nd).1 (List.of_mem_zip hv).1, if_pos hk]
    simp
  | p :: P, w :: vs, i + 1, m, nd, h1, h2, hk => by
    show bindL kindOf ((p, w) :: P.zip vs) m x = _
    unfold bindL
    exact bindL_get (i := i) (List.nodup_cons.mp nd).2 (by simpa using h1) (by simpa using h2) hk
theorem bindC_get {kindOf : Str → Option NameKind} {x : Str} {v : Value} : ∀ {P : List Str} {vs : List Value} {i : Nat} {m : Str → Option Value}, P.Nodup → P[i]? = some x → vs[i]? = some v → kindOf x ≠ some .local →
    bindC kindOf (P.zip vs) m x = some v
  | [], _, _, _, _, h, _, _ => by simp at h
  | _ :: _, [], _, _, _, _, h, _ => by simp at h
  | p :: P, w :: vs, 0, m, nd, h1, h2, hk => by
    simp at h1 h2; subst h1; subst h2
    show bindC kindOf ((p, w) :: P.zip vs) m p = _
    unfold bindC
    rw [bindC_out fun v hv => (List.nodup_cons.mp nd).1 (List.of_mem_zip hv).1, if_neg hk]
    simp
  | p :: P, w :: vs, i + 1, m, nd, h1, h2, hk => by
    show bindC kindOf ((p, w) :: P.zip vs) m x = _
    unfold bindC
    exact bindC_get (i := i) (List.nodup_cons.mp nd).2 (by simpa using h1) (by simpa using h2) hk

noncomputable def start (N : List Str) (vs : List V) : St := vs.map some ++ List.replicate (N.length - vs.length) none

noncomputable def cxOf (CX : CXT) (P : Program) (w : World) (K : PySem.W.Frag) (mg : Str → Option Value) (base : Heap) (N : List Str) (qual : Str) (scope : Scope) (f : Addr) (cd : Value) (A : Around) (outer : List Env) (s : Shared) (H : Hp) (E : XK) : Cx where
  prog := P
  w := w
  K := K
  mg := mg
  base := base
  A := A.deeper (envOfC qual scope s.heap.objs.size f cd)
  N := N
  s₀ := s
  H₀ := H
  env := envOfC qual scope s.heap.objs.size f cd
  outer := outer
  stack := envOfC qual scope s.heap.objs.size f cd :: outer
  ex := []
  calm := true
  fn := fun _ => true
  pn := []
  xe := fun e s' => wpAny (model P w) (A.deeper (envOfC qual scope s.heap.objs.size f cd)) (leaving (envOfC qual scope s.heap.objs.size f cd) e) (fun _ s'' => CX outer H s E e s'') (fun e' s'' => CX outer H s E e' s'') s'

theorem cell_has {sc : Scope} {n : Nat} {x : Str} (h : sc.names.lookup x = some .cell) : ∃ c, (cellsFrom n sc.names []).lookup x = some c := by
  have q := PySem.W.cellsFrom_some sc.names n [] (.inl h)
  exact Option.isSome_iff_exists.mp q

theorem inv_start {CX : CXT} {P : Program} {w : World} {K : PySem.W.Frag} {mg : Str → Option Value} {base : Heap} {N ps : List Str} {qual : Str} {scope : Scope} {f : Addr} {cd : Value} {A : Around} {outer : List Env} {s s1 : Shared} {H : Hp} {E : XK} {us : List Value} {vs : List V}
    (S : FnScope N ps scope) (hd : A.handled = none) (e0 : Env0 P w K mg base A outer s H) (hl : vs.length = ps.length) (r : Vals vs us)
    (x : InCallC s s.heap.objs.size (bindL (envOfC qual scope s.heap.objs.size f cd).kindOf (ps.zip us) fun _ => none) (cellsFrom (s.heap.objs.size + 1) scope.names []) (bindC (envOfC qual scope s.heap.objs.size f cd).kindOf (ps.zip us) fun _ => none) s1) :
    Inv (cxOf CX P w K mg base N qual scope f cd A outer s H E) [] (start N vs) H s1 := by
  have hpl : ps.length ≤ N.length := by have := congrArg List.length S.pre; rw [List.length_take] at this; omega
  obtain ⟨h1, tk, rfl, hk⟩ := x.done
  have noA : ∀ b : Addr, b ∉ (cxOf CX P w K mg base N qual scope f cd A outer s H E).ex := fun b z => absurd (show b ∈ ([] : List Addr) from z) (by simp)
  refine ⟨⟨e0.mod, S.kind, rfl, rfl, Nat.le_refl _, fun y z c h1 h2 => ?_, fun y hy => ?_, fun y c _ h => ?_, fun _ => hd, Around.frames_deeper e0.frames, .inr ⟨rfl, rfl⟩, fun b z => absurd z (noA b), e0.bs, e0.bsz, fun b _ _ => noA b, fun b z => absurd z (noA b), e0.funs, e0.frf⟩,
    rfl, e0.bare, Un.kept hk, ⟨_, x.toInCall.ns, fun i y v h1 h2 h3 => ?_⟩, fun y c h => ⟨_, x.cell y c h⟩, e0.hok.fresh (Nat.le_refl _), fun y c h => ?_, fun p hp => absurd (show p ∈ ([] : List (Addr × Obj)) from hp) (by simp), e0.hok.kept hk, ?_⟩
  · exact name_of_addr x.apart (PySem.mem_of_lookup h1) (PySem.mem_of_lookup h2)
  · have hy : scope.names.lookup y = some .cell ∨ scope.names.lookup y = some .free := hy
    rcases hy with hy | hy
    · exact cell_has hy
    · exact absurd rfl (S.nofree _ (PySem.mem_of_lookup hy))
  · exact Nat.le_of_lt (x.above y c (PySem.mem_of_lookup h))
  · have hi : i < vs.length := by
      unfold start at h2
      by_cases hi : i < vs.length
      · exact hi
      · rw [List.getElem?_append_right (by simpa using hi)] at h2
        rw [List.getElem?_replicate] at h2
        split at h2 <;> cases h2
    have ha : vs[i]? = some v := by
      unfold start at h2
      rw [List.getElem?_append_left (by simpa using hi), List.getElem?_map] at h2
      cases e : vs[i]? with
      | none => rw [e] at h2; cases h2
      | some a => rw [e] at h2; cases h2; rfl
    obtain ⟨u, hu, rv⟩ := r.get ha
    have hp : ps[i]? = some y := by
      rw [← S.pre, List.getElem?_take_of_lt (by omega)]; exact h1
    have ndP : ps.Nodup := by rw [← S.pre]; exact S.nd.sublist (List.take_sublist _ _)
    refine ⟨u, rv, ?_⟩
    rcases S.par y (List.mem_of_getElem? hp) with k | k
    · exact .inl ⟨k, bindL_get ndP hp hu k⟩
    · obtain ⟨c, e⟩ := cell_has (n := s.heap.objs.size + 1) k
      refine .inr ⟨.inl k, c, e, ?_⟩
      have q := x.cell y c e
      rw [bindC_get ndP hp hu (by show scope.names.lookup y ≠ _; rw [k]; decide)] at q
      exact q
  · exact e0.hok.fresh (Nat.le_of_lt (x.above y c (PySem.mem_of_lookup h)))
  · unfold start
    show _ = N.length
    rw [List.length_append, List.length_map, List.length_replicate]
    omega

theorem fn_of {CX : CXT} {P : Program} {w : World} {K : PySem.W.Frag} {mg : Str → Option Value} {base : Heap} {k : Nat} {f : Addr} {name qual : Str} {params : Arguments} {body : List Stmt} {scope : Scope} {dV kV doc pm cdv ct oc : Value} {an od : Option Addr}
    {osl : Array (Option Value)} {N ps : List Str} {sp : Sp} (lk : K.lookup f = some ⟨oc, od, .func (PySem.W.fnOf name qual params body scope dV kV doc pm an cdv ct), osl⟩) (hcd : PySem.W.codeIn K cdv qual = true) (S : FnScope N ps scope)
    (len : ∀ vs H Q E, sp vs H Q E → vs.length = ps.length)
    (hbody : ∀ (A : Around) (outer : List Env) (s : Shared) (H : Hp) (vs : List V) (Q : VK) (E : XK), Room k (A.deeper (envOfC qual scope s.heap.objs.size f cdv)) → sp vs H Q E →
      ∃ t, PSs (cxOf CX P w K mg base N qual scope f cdv A outer s H E) body t ∧ t { nx := fun _ H' => Q .non H', rt := Q } (start N vs) H) :
    FnOk P w K mg base CX (k + 1) f (PySem.W.fnOf name qual params body scope dV kV doc pm an cdv ct) ps sp := by
  refine ⟨len, fun A outer s H args us vs Q E hr e0 hb r hsp => ?_⟩
  have hl := len _ _ _ _ hsp
  have KX : K.In s.heap := e0.mod.kin.keeps fun b o e => (e0.bs b o e).1
  have lim : s.heap.NoLimit := e0.mod.nolimit.keeps fun b o e => (e0.bs b o e).1
  have hkind : ∀ y ∈ ps.zip us, scope.names.lookup y.1 = some .local ∨ (scope.names.lookup y.1 = some .cell ∧ ((cellsFrom (s.heap.objs.size + 1) scope.names []).lookup y.1).isSome = true) := fun ⟨n, v⟩ hy => by
    rcases S.par n (List.of_mem_zip hy).1 with q | q
    · exact .inl q
    · exact .inr ⟨q, PySem.W.cellsFrom_some _ _ _ (.inl q)⟩
  refine codeAny_call_function hr.depth (KX _ _ lk) rfl S.co S.gen rfl (PySem.W.codeRec_of KX hcd) (hb _ _ _ _ ?_)
  refine wpAny_newFunctionEnv_cells S.kind hkind fun env he s1 x => ?_
  subst he
  refine ⟨lim.keeps x.toInCall.keep, codeAny_func ?_⟩
  obtain ⟨t, ht, hq⟩ := hbody A outer s H vs Q E (hr.deeper _) hsp
  have I : Inv (cxOf CX P w K mg base N qual scope f cdv A outer s H E) [] (start N vs) H s1 := inv_start S hr.hd e0 hl r x
  refine wpAny_mono (ht [] s1 (start N vs) H _ I hq) (fun fl s' hs => ?_) fun e s' hs => hs
  have fin : ∀ {σ' : St} {H' : Hp} {v : V} {u : Value}, Inv (cxOf CX P w K mg base N qual scope f cdv A outer s H E) [] σ' H' s' → RelV v u → Q v H' → CE outer P w H s Q u s' :=
    fun {σ' H' v u} J rv q => ⟨v, H', J.os, J.bare, J.base, J.hok, rv, q⟩
  cases fl with
  | ret u =>
    obtain ⟨v, σ', H', J, rv, q⟩ := hs
    exact fin J rv q
  | next =>
    obtain ⟨σ', H', J, q⟩ := hs
    exact fin (v := V.non) (u := Value.none) J rfl q
  | brk =>
    obtain ⟨_, _, _, q⟩ := hs
    exact False.elim q
  | cont =>
    obtain ⟨_, _, _, q⟩ := hs
    exact False.elim q
end L2

namespace L2
open PySem PySem.Spec PyProof.Rows
section
variable {X : Cx} {x : Str} {p pos : Pos} {e : Expr} {es : List Expr} {t : TA} {id T : String} {r : List V → Hp → VK → Prop}

noncomputable def tCB (r : List V → Hp → VK → Prop) (t : TA) : TE := fun σ H Q => t σ H fun vs H1 => r vs H1 Q
theorem pe_callB (hc : CallR X (.builtin id) r) (hg : Gl X x) (hm : X.mg x = none) (hv : bootBuiltins x = some (.builtin id)) (ha : PA X (e :: es) t) (hn : autoParam (x ≠ "__name__") au1_._auto_1) (hdb : autoParam ((x == ("__debug__" : Str)) = false) au1_._auto_1)
    (he : autoParam (starEach (e :: es) X.env = (false, eval e X.env) :: starEach es X.env) au0_._auto_1) (hpl : autoParam ((backTo pos (starEach es X.env)).any (·.1) = false) au0_._auto_1) : PE X (.Call (.Name x p) (e :: es) [] pos) (tCB r t) := by
  intro pins s σ H Q I h
  refine wpAny_Call_Name_kw (ld_blt I hg hm hv ?_ hn hdb)
  exact PyProof.Rows.callWith_builtin1 (thn (ha pos pins s σ H _ I h) fun us s1 ⟨vs, H1, I1, r1, q1⟩ => hc pins s1 σ H1 vs us Q I1 r1 q1) he hpl
theorem pe_callTy (hc : CallR X (.type T) r) (hg : Gl X x) (hm : X.mg x = none) (hv : bootBuiltins x = some (.type T)) (ha : PA X (e :: es) t) (hn : autoParam (x ≠ "__name__") au1_._auto_1) (hdb : autoParam ((x == ("__debug__" : Str)) = false) au1_._auto_1)
    (he : autoParam (starEach (e :: es) X.env = (false, eval e X.env) :: starEach es X.env) au0_._auto_1) (hpl : autoParam ((backTo pos (starEach es X.env)).any (·.1) = false) au0_._auto_1) : PE X (.Call (.Name x p) (e :: es) [] pos) (tCB r t) := by
  intro pins s σ H Q I h
  refine wpAny_Call_Name_kw (ld_blt I hg hm hv ?_ hn hdb)
  exact PyProof.Rows.callWith_type1 (thn (ha pos pins s σ H _ I h) fun us s1 ⟨vs, H1, I1, r1, q1⟩ => hc pins s1 σ H1 vs us Q I1 r1 q1) he hpl
end
end L2

namespace HT
open PySem PyProof.Rows

section
open PySem.SeqAt
open PySem.AutoSeq1 (wpAny_loadPart')
open PySem.MeetsSeq PySem.MeetsSeq2 PySem.MeetsSeq3

end

section
variable {prog : Program} {w : World} {A : Around} {E : Value → Shared → Prop} {s : Shared}

theorem cat_tup {t b : Addr} {vs ws : List Value} {Q : Value → Shared → Prop} (ht : IsTup s.heap t vs.toArray) (hb : IsTup s.heap b ws.toArray) (hv : vs ≠ [])
    (h1 : ws = [] → Q (.ref t) s) (h2 : ws ≠ [] → Q (.ref s.heap.objs.size) { s with heap := s.heap.push { cls := .type "tuple", data := .seq (vs ++ ws).toArray } })
    (hsz : vs.length + ws.length ≤ sizeLine) : wpAny (model prog w) A (binaryOp .Add (.ref t) (.ref b)) Q E s := by
  obtain ⟨⟨cls, dd, data, sl⟩, ho, hc, n, hd⟩ := id ht
  obtain ⟨⟨cls2, dd2, data2, sl2⟩, ho2, hc2, n2, hd2⟩ := id hb
  simp only at hc hd hc2 hd2
  subst hc hd hc2 hd2
  have e : vs.toArray ++ ws.toArray = (vs ++ ws).toArray := by simp
  by_cases hw : ws = []
  · exact concat_meets ⟨_, ho, rfl⟩ ⟨_, ho2, rfl⟩ noFill_tuple_add seq_tuple_add PySem.F.slot_tuple_add PySem.F.entry_tuple_add (PySem.F.args_tuple_add_2 _ _)
      (tuple_addW1 t b vs.toArray ws.toArray n n2 dd dd2 sl sl2 (by simpa using hv) (by simp [hw])) ⟨ho, ho2, h1 hw⟩
  · refine concat_meets ⟨_, ho, rfl⟩ ⟨_, ho2, rfl⟩ noFill_tuple_add seq_tuple_add PySem.F.slot_tuple_add PySem.F.entry_tuple_add (PySem.F.args_tuple_add_2 _ _)
      (tuple_addW2 t b vs.toArray ws.toArray n n2 dd dd2 sl sl2 (by simpa using hv) (by simpa using hw) (by rw [List.size_toArray, List.size_toArray]; exact hsz)) ⟨ho, ho2, ?_⟩
    rw [e]
    exact h2 hw

noncomputable def sIx (n d : Nat) : Option Int → Nat
  | none => d
  | some v => if v < 0 then (v + (n : Int)).toNat else min v.toNat n
theorem sIx_nat (n d k : Nat) : sIx n d (some (k : Int)) = min k n := by
  show (if (k : Int) < 0 then ((k : Int) + (n : Int)).toNat else min (k : Int).toNat n) = min k n
  rw [if_neg (by omega), Int.toNat_natCast]
end
end HT

namespace L2
open PySem PySem.Spec PyProof.Rows

noncomputable abbrev TO := St → Hp → (Option Int → Hp → Prop) → Prop
noncomputable def PO (X : Cx) (e : Option Expr) (t : TO) : Prop :=
  ∀ (pins : List (Addr × Obj)) (s : Shared) (σ : St) (H : Hp) (Q : Option Int → Hp → Prop), Inv X pins σ H s → t σ H Q →
    wpAny (model X.prog X.w) X.A (evalPart e X.env) (fun u s' => ∃ o H', Inv X pins σ H' s' ∧ IsPart u o ∧ Q o H') X.xe s
noncomputable def tNoPart : TO := fun _ H Q => Q none H
noncomputable def tPart (t : TE) : TO := fun σ H Q => t σ H fun x H1 => ∃ i, x = .int i ∧ Q (some i) H1

section
variable {X : Cx} {e : Expr} {te : TE} {lo hi : Option Expr} {tl th : TO} {pos p2 : Pos}

theorem po_none : PO X none tNoPart := by
  intro pins s σ H Q I h
  rw [evalPart_none]
  exact wpAny_pure ⟨none, H, I, .none, h⟩
theorem po_some (h : PE X e te) : PO X (some e) (tPart te) := by
  intro pins s σ H Q I hw
  rw [evalPart_some]
  refine thn (h pins s σ H _ I hw) fun u s1 ⟨x, H1, I1, r1, q1⟩ => ?_
  obtain ⟨i, rfl, q⟩ := q1
  obtain ⟨t, rfl⟩ := r1
  exact ⟨some i, H1, I1, .int i t, q⟩

noncomputable def SlR (X : Cx) (r : V → Option Int → Option Int → Hp → VK → Prop) : Prop :=
  ∀ (pins : List (Addr × Obj)) (s : Shared) (σ : St) (H : Hp) (x : V) (v vl vu : Value) (lo hi : Option Int) (sl : Addr) (Q : VK), Inv X pins σ H s → RelV x v → s.heap.IsSliceOf sl vl vu .none → IsPart vl lo → IsPart vu hi → r x lo hi H Q →
    ∃ T id, typeLookup (.type T) "__getitem__" = pure (some (.builtin id)) ∧ s.TypeIs v T ∧ wpAny (model X.prog X.w) X.A (getItem v (.ref sl)) (EP X pins σ Q) X.xe s
noncomputable def tSl (r : V → Option Int → Option Int → Hp → VK → Prop) (te : TE) (tl th : TO) : TE := fun σ H Q => te σ H fun x H1 => tl σ H1 fun l H2 => th σ H2 fun u H3 => r x l u H3 Q
theorem pe_slice {r : V → Option Int → Option Int → Hp → VK → Prop} (hr : SlR X r) (he : PE X e te) (hl : PO X lo tl) (hu : PO X hi th) : PE X (.Subscript e (.Slice lo hi none p2) pos) (tSl r te tl th) := by
  intro pins s σ H Q I h
  refine Subscript_ (thn (he pins s σ H _ I h) fun v s1 ⟨x, H1, I1, r1, q1⟩ => ?_)
  refine wpAny_Slice (thn (hl pins s1 σ H1 _ I1 q1) fun vl s2 ⟨l, H2, I2, pl, q2⟩ => thn (hu pins s2 σ H2 _ I2 q2) fun vu s3 ⟨u, H3, I3, pu, q3⟩ => ?_)
  rw [evalPart_none]
  refine wpAny_pure ?_
  have I4 : Inv X pins σ H3 { s3 with heap := s3.heap.push { cls := .type "slice", data := .fields #[vl, vu, .none] } } := I3.kept (t' := s3.toks) fun b ob q => Heap.get?_push_of_some _ q
  obtain ⟨T, id, hT, ht, hg⟩ := hr pins { s3 with heap := s3.heap.push { cls := .type "slice", data := .fields #[vl, vu, .none] } } σ H3 x v vl vu l u s3.heap.objs.size Q I4 r1 (Heap.IsSliceOf.new ..) pl pu q3
  show wpAny (model X.prog X.w) X.A (subscriptTail e (.Slice lo hi none p2) v (.ref s3.heap.objs.size)) (EP X pins σ Q) X.xe { s3 with heap := s3.heap.push { cls := .type "slice", data := .fields #[vl, vu, .none] } }
  exact tail_any (ops := [.ref s3.heap.objs.size, v]) ht hT hg (by with_unfolding_all rfl)

noncomputable def cutV (xs : List V) (lo hi : Option Int) : List V := (xs.drop (HT.sIx xs.length 0 lo)).take (HT.sIx xs.length xs.length hi - HT.sIx xs.length 0 lo)
theorem cutV_length (xs : List V) (lo hi : Option Int) : (cutV xs lo hi).length ≤ xs.length := by
  unfold cutV
  rw [List.length_take, List.length_drop]
  omega
noncomputable def rCatT (K : PySem.W.Frag) : R2 := fun x y H Q => ∃ a b xs ys, x = .ref a ∧ y = .ref b ∧ SqT K H a xs ∧ SqT K H b ys ∧ xs ≠ [] ∧ xs.length + ys.length ≤ sizeLine ∧
  (ys = [] → Q (.ref a) H) ∧ (ys ≠ [] → ∀ p, H p = none → Q (.ref p) (upd H p (.tup (xs ++ ys))))
theorem Vals.nil_iff {xs : List V} {us : List Value} (r : Vals xs us) : us = [] ↔ xs = [] := by
  cases r with
  | nil => simp
  | cons _ _ => simp
theorem op_catT : OpR X (binaryOp .Add) (rCatT X.K) := by
  intro pins s σ H x y v u Q I rx ry h
  obtain ⟨a, b, xs, ys, rfl, rfl, ha, hb, hx, hz, q1, q2⟩ := h
  cases rx
  cases ry
  obtain ⟨its, r1, p1, _⟩ := I.tuple ha
  obtain ⟨its2, r2, p2, _⟩ := I.tuple hb
  refine HT.cat_tup p1 p2 (fun z => hx (r1.nil_iff.mp z)) (fun z => ⟨.ref a, H, I, rfl, q1 (r2.nil_iff.mp z)⟩) (fun z => ?_) (by rw [← r1.length, ← r2.length]; exact hz)
  refine ⟨.ref s.heap.objs.size, _, I.laid (t' := s.toks) (o := .tup (xs ++ ys)) (fun b ob q => Heap.get?_push_of_some _ q) (Nat.le_refl _) ?_, rfl, q2 (fun w => z (r2.nil_iff.mpr w)) _ (I.hok.fresh (Nat.le_refl _))⟩
  exact ⟨by rw [List.length_append]; exact hz, _, r1.append r2, IsTup.new _ _⟩
end
end L2

namespace L2
open PySem PySem.Spec PyProof.Rows

noncomputable def ixN (n : Nat) (i : Int) : Option Nat := if 0 ≤ i then (if i < n then some i.toNat else none) else if -(n : Int) ≤ i then some (i + n).toNat else none
noncomputable def atI {α : Type} (xs : List α) (i : Int) : Option α := (ixN xs.length i).bind fun j => xs[j]?
theorem ixN_seq {n : Nat} {i : Int} {j : Nat} (h : ixN n i = some j) : seqIndex? i n = some j ∧ j < n ∧ -(n : Int) ≤ i ∧ i < n := by
  unfold ixN at h
  by_cases h0 : 0 ≤ i
  · rw [if_pos h0] at h
    by_cases h1 : i < n
    · rw [if_pos h1] at h
      have e : i.toNat = j := Option.some.inj h
      exact ⟨by rw [seqIndex_of h0 h1, e], by omega, by omega, h1⟩
    · rw [if_neg h1] at h; cases h
  · rw [if_neg h0] at h
    by_cases h1 : -(n : Int) ≤ i
    · rw [if_pos h1] at h
      have e : (i + n).toNat = j := Option.some.inj h
      exact ⟨by rw [seqIndex_neg (by omega) h1, e], by omega, h1, by omega⟩
    · rw [if_neg h1] at h; cases h
theorem atI_get {α : Type} {xs : List α} {i : Int} {v : α} (h : atI xs i = some v) : ∃ j, seqIndex? i xs.length = some j ∧ xs[j]? = some v ∧ j < xs.length ∧ -(xs.length : Int) ≤ i ∧ i < xs.length := by
  unfold atI at h
  cases e : ixN xs.length i with
  | none => rw [e] at h; cases h
  | some j =>
    rw [e] at h
    obtain ⟨h1, h2, h3, h4⟩ := ixN_seq e
    exact ⟨j, h1, h, h2, h3, h4⟩
theorem atI_nat {α : Type} {xs : List α} {j : Nat} {v : α} (h : xs[j]? = some v) : atI xs (j : Int) = some v := by
  have hj : j < xs.length := (List.getElem?_eq_some_iff.mp h).1
  have e : ixN xs.length (j : Int) = some j := by
    unfold ixN
    rw [if_pos (by omega), if_pos (by omega)]; simp
  unfold atI; rw [e]; exact h
noncomputable def PlainIx (b : Expr) : Prop := ∀ o i, subscripted b false o i = operate [o, i] (getItem o i)
noncomputable def IxR (X : Cx) (r : R2) : Prop :=
  ∀ (value slice : Expr) (pins : List (Addr × Obj)) (s : Shared) (σ : St) (H : Hp) (x y : V) (v u : Value) (Q : VK), Inv X pins σ H s → RelV x v → RelV y u → r x y H Q →
    subscripted slice false v u = operate [v, u] (getItem v u) → wpAny (model X.prog X.w) X.A (subscriptTail value slice v u) (EP X pins σ Q) X.xe s
noncomputable def MtR (X : Cx) (id : String) (r : V → List V → Hp → VK → Prop) : Prop :=
  ∀ (pins : List (Addr × Obj)) (s : Shared) (σ : St) (H : Hp) (x : V) (xs : List V) (v : Value) (us : List Value) (Q : VK), Inv X pins σ H s → RelV x v → Vals xs us → r x xs H Q →
    wpAny (model X.prog X.w) X.A (call (.builtin id) (v :: us)) (EP X pins σ Q) X.xe s
section
variable {X : Cx} {a b : Expr} {ta tb : TE} {pos : Pos}
theorem pe_ix {r : R2} (hr : IxR X r) (ha : PE X a ta) (hb : PE X b tb) (hs : PlainIx b) : PE X (.Subscript a b pos) (tOp r ta tb) := by
  intro pins s σ H Q I h
  exact Subscript_ (binT ha hb I h fun v u s2 x y H2 I2 rx ry q => hr a b pins s2 σ H2 x y v u Q I2 rx ry q (hs _ _))

noncomputable def rIxL (K : PySem.W.Frag) : R2 := fun x y H Q => ∃ p xs i v, x = .ref p ∧ y = .int i ∧ SqL K H p xs ∧ atI xs i = some v ∧ Q v H
noncomputable def rIxT (K : PySem.W.Frag) : R2 := fun x y H Q => ∃ p xs i v, x = .ref p ∧ y = .int i ∧ SqT K H p xs ∧ atI xs i = some v ∧ Q v H
noncomputable def rIxS : R2 := fun x y H Q => ∃ z i c, x = .str z ∧ y = .int i ∧ z.length ≤ sizeLine ∧ atI z.cps.toList i = some c ∧ Q (.str ⟨#[c]⟩) H
theorem ix_list : IxR X (rIxL X.K) := by
  intro value slice pins s σ H x y v u Q I rx ry h hs
  obtain ⟨p, xs, i, z, rfl, rfl, hq, he, q⟩ := h
  cases rx
  obtain ⟨t, rfl⟩ := ry
  obtain ⟨its, r, pl, hz⟩ := I.list hq
  obtain ⟨j, h1, h2, h3, h4, h5⟩ := atI_get he
  obtain ⟨w, ew, rw'⟩ := r.get h2
  have hl := r.length
  have hn := line63
  have fin : EP X pins σ Q w s := ⟨z, H, I, rw', q⟩
  by_cases h0 : 0 ≤ i
  · have hj : i.toNat = j := by
      rw [seqIndex_of h0 h5] at h1
      exact Option.some.inj h1
    exact item_listR pl.isList h0 (by omega) (by rw [hj]; simpa using ew) fin hs
  · have hj : (i + (its.toArray.size : Int)).toNat = j := by
      rw [seqIndex_neg (by omega) h4] at h1
      rw [List.size_toArray, ← hl]
      exact Option.some.inj h1
    exact subscriptTail_builtinR (x := w) pl.isList.typeIs slot_list_getitem.lookup
      (wpAny_getItem_list_neg (Q := fun r s' => r = w ∧ EP X pins σ Q r s') pl.isList (by omega) (by rw [List.size_toArray] <;> omega) (by omega) (by rw [hj]; simpa using ew) ⟨rfl, fin⟩) hs
theorem ix_tup : IxR X (rIxT X.K) := by
  intro value slice pins s σ H x y v u Q I rx ry h hs
  obtain ⟨p, xs, i, z, rfl, rfl, hq, he, q⟩ := h
  cases rx
  obtain ⟨t, rfl⟩ := ry
  obtain ⟨its, r, pl, hz⟩ := I.tuple hq
  obtain ⟨j, h1, h2, h3, h4, h5⟩ := atI_get he
  obtain ⟨w, ew, rw'⟩ := r.get h2
  have hl := r.length
  have hn := line63
  have fin : EP X pins σ Q w s := ⟨z, H, I, rw', q⟩
  exact subscriptTail_builtinR (x := w) pl.typeIs slot_tuple_getitem.lookup
    (getItem_tuple (j := j) (Q := fun r s' => r = w ∧ EP X pins σ Q r s') pl (by omega) (by omega) (by rw [List.size_toArray, ← hl]; exact h1) (by simpa using ew) ⟨rfl, fin⟩) hs
theorem ix_str : IxR X rIxS := by
  intro value slice pins s σ H x y v u Q I rx ry h hs
  obtain ⟨z, i, c, rfl, rfl, hz, he, q⟩ := h
  obtain ⟨t, rfl⟩ := rx
  obtain ⟨t', rfl⟩ := ry
  obtain ⟨j, h1, h2, h3, h4, h5⟩ := atI_get he
  have hl : z.cps.toList.length = z.length := by simp [Str.length]
  rw [hl] at h1 h4 h5
  have hn := line63
  exact tail_any (typeIs_str s z t) slot_str_getitem.lookup (getItem_str (c := c) (by
    have e1 : decide (i < -(2 ^ 63 : Int)) = false := decide_eq_false (by omega)
    have e2 : decide (i ≥ 2 ^ 63) = false := decide_eq_false (by omega)
    rw [e1, e2, Bool.or_false]) (by rw [h1]; simpa using h2) ⟨.str ⟨#[c]⟩, H, I.tok _, ⟨_, rfl⟩, q⟩) hs
theorem slice_bounds (lo hi : Option Int) (n : Nat) : (sliceBounds lo hi none n).1 = ((HT.sIx n 0 lo : Nat) : Int) ∧ (sliceBounds lo hi none n).2.1 = ((HT.sIx n n hi : Nat) : Int) ∧ (sliceBounds lo hi none n).2.2 = 1 := by
  refine ⟨?_, ?_, rfl⟩
  · cases lo with
    | none => simp [sliceBounds, HT.sIx]
    | some i =>
      simp only [sliceBounds, HT.sIx, Option.getD_none, show (1 : Int) > 0 by decide, if_true]
      by_cases h : i < 0
      · simp only [h, if_true] <;> omega
      · simp only [h, if_false] <;> omega
  · cases hi with
    | none => simp [sliceBounds, HT.sIx]
    | some i =>
      simp only [sliceBounds, HT.sIx, Option.getD_none, show (1 : Int) > 0 by decide, if_true]
      by_cases h : i < 0
      · simp only [h, if_true] <;> omega
      · simp only [h, if_false] <;> omega
theorem slicePick_cut (its : List Value) (lo hi : Option Int) : slicePick its.toArray lo hi none = ((its.drop (HT.sIx its.length 0 lo)).take (HT.sIx its.length its.length hi - HT.sIx its.length 0 lo)).toArray := by
  obtain ⟨h1, h2, h3⟩ := slice_bounds lo hi its.toArray.size
  unfold slicePick
  rw [h1, h2, h3]
  simp only [sliceRange_one, pick_run, List.size_toArray] <;> rfl
noncomputable def rSlL (K : PySem.W.Frag) : V → Option Int → Option Int → Hp → VK → Prop := fun x lo hi H Q => ∃ a xs, x = .ref a ∧ SqL K H a xs ∧ ∀ p, H p = none → Q (.ref p) (upd H p (.lst (cutV xs lo hi)))
theorem sl_list : SlR X (rSlL X.K) := by
  intro pins s σ H x v vl vu lo hi sl Q I rx hs pl pu h
  obtain ⟨a, xs, rfl, hx, q⟩ := h
  cases rx
  obtain ⟨its, r, ht, hz⟩ := I.list hx
  have hlen := r.length
  refine ⟨"list", _, slot_list_getitem.lookup, ht.isList.typeIs, ?_⟩
  refine wpAny_getItem_list_slice ht.isList hs pl pu .none (by simp) ?_ (by rw [List.size_toArray] <;> omega)
  rw [slicePick_cut, ← hlen]
  refine ⟨.ref s.heap.objs.size, _, I.laid (t' := s.toks) (o := .lst (cutV xs lo hi)) (fun b ob q => Heap.get?_push_of_some _ q) (Nat.le_refl _) ?_, rfl, q _ (I.hok.fresh (Nat.le_refl _))⟩
  exact ⟨Nat.le_trans (cutV_length xs lo hi) hz, _, 0, (r.drop (HT.sIx xs.length 0 lo)).take (HT.sIx xs.length xs.length hi - HT.sIx xs.length 0 lo), Heap.get?_push_size _ rfl⟩

theorem call_len_seq : CallR X (.builtin "len") (fun xs H Q => ∃ p ys, xs = [.ref p] ∧ (SqL X.K H p ys ∨ SqT X.K H p ys) ∧ Q (.int ys.length) H) := by
  intro pins s σ H xs us Q I r h
  obtain ⟨p, ys, rfl, hq, q⟩ := h
  obtain ⟨u, rfl, rx⟩ := vals1 r
  cases rx
  have hn := line63
  rcases hq with hq | hq
  · obtain ⟨its, r', pl, hz⟩ := I.list hq
    have hlen := r'.length
    exact Calls.call_len_list pl.isList (by simp only [List.size_toArray] <;> omega) ⟨.int ys.length, H, I.tok _, ⟨s.toks + 1, by rw [List.size_toArray, hlen]⟩, q⟩
  · obtain ⟨its, r', pl, hz⟩ := I.tuple hq
    have hlen := r'.length
    exact len_tuple pl (by simp only [List.size_toArray] <;> omega) ⟨.int ys.length, H, I.tok _, ⟨s.toks + 1, by rw [List.size_toArray, hlen]⟩, q⟩
theorem call_len_str : CallR X (.builtin "len") (fun xs H Q => ∃ z, xs = [.str z] ∧ z.length ≤ sizeLine ∧ Q (.int z.length) H) := by
  intro pins s σ H xs us Q I r h
  obtain ⟨z, rfl, hz, q⟩ := h
  obtain ⟨u, rfl, t, rfl⟩ := vals1 r
  have hn := line63
  exact len_str (by omega) ⟨.int z.length, H, I.tok _, ⟨_, rfl⟩, q⟩
noncomputable def tyV (K : PySem.W.Frag) (T : String) (x : V) (H : Hp) : Prop := match x with
  | .str _ => T = "str"
  | .int _ => T = "int"
  | .ref p => (T = "list" ∧ ∃ xs, SqL K H p xs) ∨ (T = "tuple" ∧ ∃ o, K.lookup p = some o ∧ o.cls = .type "tuple" ∧ o.dict = none) ∨
      (T = "dict" ∧ ((∃ kvs, H p = some (.dK kvs)) ∨ ∃ kvs, H p = some (.dT kvs))) ∨ (T = "set" ∧ ∃ S n, H p = some (.set S n))
  | _ => False
theorem tyV_is {pins : List (Addr × Obj)} {σ : St} {H : Hp} {s : Shared} {T : String} {x : V} {v : Value} (I : Inv X pins σ H s) (r : RelV x v) (ty : tyV X.K T x H) :
    s.TypeIs v T ∧ ∀ a, v = .ref a → ∃ ob, s.heap.get? a = some ob ∧ ob.dict = none := by
  cases x with
  | str z =>
    obtain ⟨t, rfl⟩ := r
    cases (show T = "str" from ty)
    exact ⟨typeIs_str s z t, fun _ e => nomatch e⟩
  | int i =>
    obtain ⟨t, rfl⟩ := r
    cases (show T = "int" from ty)
    exact ⟨typeIs_int s i t, fun _ e => nomatch e⟩
  | ref p =>
    cases r
    rcases ty with ⟨rfl, xs, hq⟩ | ⟨rfl, o, hk, hc, hd⟩ | ⟨rfl, hk⟩ | ⟨rfl, S, n, hk⟩
    · obtain ⟨its, _, pl, _⟩ := I.list hq
      refine ⟨pl.isList.typeIs, fun a e => ?_⟩
      cases e
      obtain ⟨o, n, e, c, hd, _⟩ := pl
      exact ⟨o, e, hd⟩
    · refine ⟨⟨o, I.kIn p o hk, hc⟩, fun a e => ?_⟩
      cases e
      exact ⟨o, I.kIn _ o hk, hd⟩
    · have z : ∃ o, s.heap.get? p = some o ∧ o.ExactDict := by
        rcases hk with ⟨kvs, hk⟩ | ⟨kvs, hk⟩
        · obtain ⟨_, _, _, _, o, _, _, e, ex, _⟩ := I.hok p _ hk
          exact ⟨o, e, ex⟩
        · obtain ⟨_, _, _, _, o, _, _, e, ex, _⟩ := I.hok p _ hk
          exact ⟨o, e, ex⟩
      obtain ⟨o, e, ex⟩ := z
      refine ⟨⟨o, e, ex.1⟩, fun a e2 => ?_⟩
      cases e2
      exact ⟨o, e, ex.2.1⟩
    · obtain ⟨o, _, _, _, e, ex, _⟩ := I.hok p _ hk
      refine ⟨⟨o, e, ex.1⟩, fun a e2 => ?_⟩
      cases e2
      exact ⟨o, e, ex.2.1⟩
  | _ => exact False.elim ty
noncomputable def tBM0 (K : PySem.W.Frag) (T : String) (r : V → List V → Hp → VK → Prop) (to : TE) : TE := fun σ H Q => to σ H fun x H1 => tyV K T x H1 ∧ r x [] H1 Q
noncomputable def tBM (K : PySem.W.Frag) (T : String) (r : V → List V → Hp → VK → Prop) (to : TE) (t : TA) : TE := fun σ H Q => to σ H fun x H1 => tyV K T x H1 ∧ t σ H1 fun xs H2 => r x xs H2 Q
variable {o e : Expr} {es : List Expr} {to : TE} {t : TA} {name : Str} {apos cpos : Pos} {T id : String} {r : V → List V → Hp → VK → Prop}
theorem pe_bm0 (pa : PlainAttrs T) (slot : Slot T name id) (hty : typeOf (.builtin id) = pure (.type "method_descriptor")) (hm : MtR X id r) (ho : PE X o to)
    (hbase : autoParam (attributeBase o name X.env (eval o X.env) = eval o X.env) au0_._auto_1) (hline : autoParam ((apos.endLine == cpos.line) = true) au0_._auto_1) : PE X (.Call (.Attribute o name apos) [] [] cpos) (tBM0 X.K T r to) := by
  intro pins s σ H Q I h
  refine wpAny_Call_method0_late hbase hline (thn (ho pins s σ H _ I h) fun v s1 ⟨x, H1, I1, r1, ty, q1⟩ => ?_)
  obtain ⟨h1, h2⟩ := tyV_is I1 r1 ty
  exact ⟨T, id, pa, slot, hty, h1, h2, Calls.callWith_builtin rfl (PySem.evalArgs_none (hm pins s1 σ H1 x [] v [] Q I1 r1 .nil q1))⟩
theorem pe_bm (pa : PlainAttrs T) (slot : Slot T name id) (hty : typeOf (.builtin id) = pure (.type "method_descriptor")) (hm : MtR X id r) (ho : PE X o to) (ha : PA X (e :: es) t)
    (hbase : autoParam (attributeBase o name X.env (eval o X.env) = eval o X.env) au0_._auto_1)
    (hfew : autoParam (((backTo cpos (starEach (e :: es) X.env)).all (fun x => !x.1) && (backToKw cpos (keywordEach [] X.env)).all (fun x => x.1.isSome)
      && decide ((e :: es).length + ([] : List Keyword).length + (if ([] : List Keyword).isEmpty then 0 else 1) < 30)) = true) au0_._auto_1)
    (hline : autoParam ((apos.endLine == cpos.line) = true) au0_._auto_1) (hs : autoParam (starEach (e :: es) X.env = (false, eval e X.env) :: starEach es X.env) au0_._auto_1) (hplain : autoParam ((backTo cpos (starEach es X.env)).any (·.1) = false) au0_._auto_1) :
    PE X (.Call (.Attribute o name apos) (e :: es) [] cpos) (tBM X.K T r to t) := by
  intro pins s σ H Q I h
  refine wpAny_Call_method_late hbase hfew hline rfl (thn (ho pins s σ H _ I h) fun v s1 ⟨x, H1, I1, r1, ty, q1⟩ => ?_)
  obtain ⟨h1, h2⟩ := tyV_is I1 r1 ty
  refine ⟨T, id, pa, slot, hty, h1, h2, ?_⟩
  have hA := ha cpos pins s1 σ H1 _ I1 q1
  rw [hs] at hA ⊢
  refine Calls.callWith_builtin (by show (false || (backTo cpos (starEach es X.env)).any (·.1)) = false; rw [hplain] <;> rfl) (Calls.evalArgs_plain ?_)
  exact thn hA fun us s2 ⟨vs, H2, I2, r2, q2⟩ => hm pins s2 σ H2 x vs v us Q I2 r1 r2 q2
/- xs.append(e), list.index on a module's tuple .. are MtR facts of 06m -/
end
end L2

namespace L2
open PySem PySem.Spec PyProof.Rows

noncomputable def MtM (X : Cx) (id : String) (r : V → List V → Hp → VK → Prop) : Prop :=
  ∀ (pins : List (Addr × Obj)) (s : Shared) (σ : St) (H : Hp) (x : V) (xs : List V) (v : Value) (us : List Value) (Q : VK), Inv X pins σ H s → RelV x v → Vals xs us → r x xs H Q →
    wpAny (model X.prog X.w) X.A (call (.builtin id) (v :: us)) (EP X pins σ Q) X.xe s

theorem Vals.one : ∀ {x : V} {us : List Value}, Vals [x] us → ∃ u, us = [u] ∧ RelV x u
  | _, _, .cons r .nil => ⟨_, rfl, r⟩
theorem Vals.zero : ∀ {us : List Value}, Vals [] us → us = []
  | _, .nil => rfl
theorem Vals.reverse {xs : List V} {us : List Value} (h : Vals xs us) : Vals xs.reverse us.reverse := by
  induction h with
  | nil => exact .nil
  | cons r t ih => rw [List.reverse_cons, List.reverse_cons]; exact Vals.append ih (.cons r .nil)
theorem Vals.rep {xs : List V} {us : List Value} (h : Vals xs us) : ∀ k : Nat, Vals (List.replicate k xs).flatten (List.replicate k us).flatten
  | 0 => .nil
  | k + 1 => by
    rw [List.replicate_succ, List.replicate_succ, List.flatten_cons, List.flatten_cons]
    exact Vals.append h (Vals.rep h k)
theorem foldl_rep (its : List Value) : ∀ (k : Nat) (acc : List Value),
    List.foldl (fun x1 x2 => x1 ++ x2) acc.toArray (List.replicate k its.toArray) = (acc ++ (List.replicate k its).flatten).toArray
  | 0, acc => by simp
  | k + 1, acc => by
    have e : acc.toArray ++ its.toArray = (acc ++ its).toArray := by simp
    have e2 : (acc ++ its) ++ (List.replicate k its).flatten = acc ++ (List.replicate (k + 1) its).flatten := by
      rw [List.replicate_succ, List.flatten_cons, List.append_assoc]
    rw [← e2, ← foldl_rep its k (acc ++ its), ← e, List.replicate_succ, List.foldl_cons]

section
variable {X : Cx} {pins : List (Addr × Obj)} {σ : St} {H : Hp} {s : Shared} {l b : Addr} {xs ys zs : List V}

theorem Inv.lset {its its' : List Value} {n : Nat} {f : Array Value → Array Value} {t' : Nat} (I : Inv X pins σ H s) (hH : H l = some (.lst xs))
    (e : s.heap.get? l = some { cls := .type "list", data := .seq its.toArray n }) (hf : f its.toArray = its'.toArray) (hv : Vals ys its') (hz : ys.length ≤ sizeLine) :
    Inv X pins σ (upd H l (.lst ys)) { s with heap := s.heap.update l (Obj.mapSeq f), toks := t' } := by
  have q := PySem.IsL.update e f
  rw [hf] at q
  refine I.write (x := l) (e := l) (by rw [hH]; exact trivial) (.inl rfl) (fun b' u hb hu => (Heap.get?_update_other s.heap (Obj.mapSeq f) (Ne.symm hb)).trans hu) ⟨_, q⟩ ?_
  exact ⟨hz, its', _, hv, q⟩
theorem Inv.lnew {its : List Value} {t' : Nat} (I : Inv X pins σ H s) (hv : Vals ys its) (hz : ys.length ≤ sizeLine) :
    Inv X pins σ (upd H s.heap.objs.size (.lst ys)) { s with heap := s.heap.push { cls := .type "list", data := .seq its.toArray }, toks := t' } :=
  I.laid (fun _ _ q => Heap.get?_push_of_some _ q) (Nat.le_refl _) ⟨hz, its, 0, hv, Heap.get?_push_size _ rfl⟩
theorem Inv.fresh (I : Inv X pins σ H s) : H s.heap.objs.size = none := I.hok.fresh (Nat.le_refl _)
theorem Inv.lstM (I : Inv X pins σ H s) (hH : H l = some (.lst xs)) : xs.length ≤ sizeLine ∧ ∃ (its : List Value) (n : Nat), Vals xs its ∧ xs.length = its.length ∧ s.heap.get? l = some { cls := .type "list", data := .seq its.toArray n } := by
  obtain ⟨z, its, n, r, e⟩ := I.hok l _ hH
  exact ⟨z, its, n, r, r.length, e⟩

theorem notLongL {n : Nat} (h : n ≤ sizeLine) : Builtin.List.listTooLong n = false := by
  unfold Builtin.List.listTooLong
  exact decide_eq_false (by omega)
end

section
variable {X : Cx}

noncomputable def rAppend : V → List V → Hp → VK → Prop := fun x vs H Q => ∃ l xs y, x = .ref l ∧ vs = [y] ∧ H l = some (.lst xs) ∧ xs.length < sizeLine ∧ Q .non (upd H l (.lst (xs ++ [y])))
theorem mt_append : MtM X "list.append" rAppend := by
  intro pins s σ H x vs v us Q I rx rv h
  obtain ⟨l, xs, y, rfl, rfl, hH, hz, q⟩ := h
  cases rx
  obtain ⟨u, rfl, ru⟩ := rv.one
  obtain ⟨z, its, n, r, hl, e⟩ := I.lstM hH
  refine call_meets F.slot_list_append ⟨_, e, rfl⟩ F.entry_list_append (F.args_list_append_2 _ _) (PySem.list_append l its.toArray n u (by rw [List.size_toArray]; omega)) ⟨e, ?_⟩
  refine ⟨.non, _, I.lset (its' := its ++ [u]) hH e (by simp) (r.append (.cons ru .nil)) ?_, rfl, q⟩
  rw [List.length_append, List.length_singleton]
  omega

noncomputable def rReverse : V → List V → Hp → VK → Prop := fun x vs H Q => ∃ l xs, x = .ref l ∧ vs = [] ∧ H l = some (.lst xs) ∧ Q .non (upd H l (.lst xs.reverse))
theorem mt_reverse : MtM X "list.reverse" rReverse := by
  intro pins s σ H x vs v us Q I rx rv h
  obtain ⟨l, xs, rfl, rfl, hH, q⟩ := h
  cases rx
  have hus := rv.zero
  subst hus
  obtain ⟨z, its, n, r, hl, e⟩ := I.lstM hH
  refine call_meets F.slot_list_reverse ⟨_, e, rfl⟩ F.entry_list_reverse (F.args_list_reverse_1 _) (AutoSeq1.list_reverse_list_0 l its.toArray n (by rw [List.size_toArray]; omega)) ⟨e, ?_⟩
  refine ⟨.non, _, I.lset (its' := its.reverse) hH e (by simp) r.reverse ?_, rfl, q⟩
  rw [List.length_reverse]
  omega

noncomputable def rRep : R2 := fun x y H Q => ∃ l k xs, x = .ref l ∧ y = .int k ∧ H l = some (.lst xs) ∧ -(2 ^ 63) ≤ k ∧ k < 2 ^ 63 ∧ xs.length * k.toNat ≤ sizeLine ∧
  ∀ p, H p = none → Q (.ref p) (upd H p (.lst (List.replicate k.toNat xs).flatten))
theorem len_rep {α : Type} (xs : List α) (k : Nat) : (List.replicate k xs).flatten.length = k * xs.length := by
  induction k with
  | zero => simp
  | succ k ih => rw [List.replicate_succ, List.flatten_cons, List.length_append, ih, Nat.succ_mul, Nat.add_comm]
theorem op_rep : OpR X (binaryOp .Mult) rRep := by
  intro pins s σ H x y v u Q I rx ry h
  obtain ⟨l, k, xs, rfl, rfl, hH, h1, h2, hz, q⟩ := h
  cases rx
  obtain ⟨t, rfl⟩ := ry
  obtain ⟨z, its, n, r, hl, e⟩ := I.lstM hH
  have hlen : its.toArray.size * k.toNat ≤ sizeLine := by rw [List.size_toArray, ← hl]; exact hz
  have hcap : ¬ its.toArray.size * k.toNat > (2 ^ 63 - 1) / 8 := by
    have : (sizeLine : Nat) ≤ (2 ^ 63 - 1) / 8 := by decide
    omega
  have hfit : ¬ (!Builtin.List.listFitsIndex k) = true := by
    rw [fitsIndex_both h1 h2]
    exact Bool.false_ne_true
  have hlong : ¬ Builtin.List.listTooLong (its.toArray.size * k.toNat) = true := by
    rw [notLongL hlen]
    exact Bool.false_ne_true
  have hnew : List.foldl (fun x1 x2 => x1 ++ x2) #[] (List.replicate (if its.toArray.isEmpty = true then 0 else k.toNat) its.toArray) = (List.replicate k.toNat its).flatten.toArray := by
    have f0 : ∀ m : Nat, List.foldl (fun x1 x2 => x1 ++ x2) #[] (List.replicate m its.toArray) = (List.replicate m its).flatten.toArray := fun m => by
      have := foldl_rep its m []
      rw [List.nil_append] at this
      exact this
    rw [f0]
    cases its with
    | nil => simp
    | cons a r' => rw [if_neg (by simp)]
  refine wpAny_binaryOp_repeat_ref (T := "list") (U := "int") (by decide) ⟨_, e, rfl⟩ (fun s' => typeIs_int s' k t) noFill_list_mul F.fills_int_mul F.slot_int_rmul repeat_list F.slot_int_index.lookup
    (call_meets F.slot_int_rmul (typeIs_int s k t) F.entry_int_rmul (F.args_int_rmul_2 _ _) (int___rmul___int_list k t l its.toArray n)
      ⟨e, rfl, ⟨_, e, rfl⟩, call_meets F.slot_list_mul ⟨_, e, rfl⟩ F.entry_list_mul (F.args_list_mul_2 _ _) (AutoListH.list___mul___list_int_3 l its.toArray n k t hfit hcap hlong) ⟨e, ?_⟩⟩)
  rw [hnew]
  exact ⟨.ref _, _, I.lnew (t' := s.toks) (r.rep k.toNat) (by rw [len_rep, Nat.mul_comm]; exact hz), rfl, q _ I.fresh⟩

end

section
variable {prog : Program} {w : World} {A : Around} {E : Value → Shared → Prop} {s : Shared}
set_option maxRecDepth 100000 in
end

section
variable {X : Cx}
end
end L2

namespace Att
open PySem PySem.W PySem.Calls PyProof.Rows

theorem ints_of_wellAll {P : Params} {h : Heap} : ∀ (ns : List Int) (vs : List Value), WellAll P h vs (ns.map WData.int) → IntsAre vs ns := by
  intro ns
  induction ns with
  | nil =>
    intro vs w
    rw [List.map_nil] at w
    cases w
    exact .nil
  | cons n ns ih =>
    intro vs w
    rw [List.map_cons] at w
    cases w with
    | cons a b =>
      cases a
      exact .cons _ _ (ih _ b)

theorem script_of {l : OpenLaw} {n : Nat} (hn : l.most = some n) {P : Params} {h : Heap} {args : List WData} {vals : List Value}
    (hpre : l.row.toRowW.claim.pre args = true) (hwl : WellAll P h vals args) :
    ∃ a vs ns, vals = [Value.ref a] ∧ args = [WData.list (ns.map WData.int)] ∧ h.get? a = some { cls := .type "list", data := .seq vs.toArray } ∧ IntsAre vs ns ∧ ns.length ≤ n := by
  have hsh : WShape.hasAll [] args [.list .int] = true := (pre_splitW hpre).1
  have hc : l.pre.holds [] { args := args } = true := (pre_splitW hpre).2
  obtain ⟨d, r, rfl, h1, h2⟩ := hasAllW_cons hsh
  obtain rfl := hasAllW_nil h2
  obtain ⟨xs, rfl, h3⟩ := hasW_list h1
  obtain ⟨ns, rfl⟩ := items_int h3
  have hlen : ns.length ≤ n := by
    unfold OpenLaw.pre at hc
    have h4 : (WTm.not (.lt (.lit (.int (n : Int))) (.len (.arg 0)))).holds [] { args := [.list (ns.map .int)] } = true := by
      have h4 := (holds_andW hc).1
      rw [hn] at h4
      exact h4
    have h5 := condW_of h4 (w_not (w_lt w_lit (w_len_list (w_arg rfl))))
    rw [List.length_map] at h5
    refine Nat.le_of_not_lt fun q => ?_
    have q' : (n : Int) < ((ns.length : Nat) : Int) := by omega
    first
      | (rw [decide_eq_true q'] at h5; exact absurd h5 (by decide))
      | (simp at h5; omega)
  cases hwl with
  | cons w1 w2 =>
    cases w2
    cases w1 with
    | list ho hall => exact ⟨_, _, ns, rfl, rfl, ho, ints_of_wellAll ns _ hall, hlen⟩

theorem post_true (l : OpenLaw) (args : List WData) : l.row.toRowW.claim.post args (.bool true) args = true :=
  postW_of (r := l.row.toRowW) (X := (true == true))
    (show WShape.has [] (.bool true) .bool = true by first | rfl | decide | simp [WShape.has, WShape.arms, WShape.armsAll])
    (show (WTm.eq .res (.lit (.bool true))).value [] { args := args, res := some (.bool true), after := args } = some (.bool (true == true)) from w_eq_bool (w_res rfl) w_lit) rfl

theorem attach_call {l : OpenLaw} {n : Nat} {q : Program} {loose : List Str} {XP : (Str → Option Value) → Heap → Prop} {YP : World → Heap → Prop} {d : DefRec}
    (hn : l.most = some n) (hdf : d.params.defaults = [])
    (call : ∀ (w : World) (s₀ s₁ : Shared) (mg mb : Str → Option Value) (fa : Addr) (o : Obj) (pm cd doc : Value) (a : Addr) (vs : List Value) (ns : List Int),
      Ground q loose [] XP w s₀ mg mb s₁.heap → YP w s₁.heap →
      s₁.heap.get? fa = some o → o.data = .func (docDef d.name d.params d.body d.scope pm cd doc) → s₁.heap.CodeRec cd d.name → mg d.name = some (.ref fa) →
      s₁.heap.get? a = some { cls := .type "list", data := .seq vs.toArray } → IntsAre vs ns → ns.length ≤ n → s₁.gens = #[] →
      codeAny (model l.prog w) callerA (.call (.ref fa) ⟨[.ref a], []⟩) (fun r s' => r = .ok (.ret (.bool true)) ∧ OldK s₁.heap s'.heap ∧ s'.os = s₁.os ∧ AllBare s'.gens) s₁) :
    WalkO q loose XP YP l.row.toRowW d [] (fun f vs => PySem.call f vs) := by
  intro w s₀ s₁ mg mb G Y fa o pm cd doc dV kV ho hd hcd hD hmg hg args vals as hpre hlay hrd hwl hlo
  obtain rfl : dV = .none := Dflts.none hD hdf
  obtain rfl : kV = .none := Dflts.noKw hD
  obtain ⟨a, vs, ns, rfl, rfl, hobj, hints, hlen⟩ := script_of hn hpre hwl
  refine enter_call (codeAny_mono (call w s₀ s₁ mg mb fa o pm cd doc a vs ns G Y ho (fd_plain hd) hcd hmg hobj hints hlen hg) fun r s' hq => ?_)
  obtain ⟨rfl, h2, h3, h4⟩ := hq
  exact ⟨.inl ⟨.bool true, .bool true, [], rfl, fun _ => rfl, .bool true, post_true l _, fun _ => ⟨List.Pairwise.nil, fun _ hm => (nomatch hm)⟩⟩, h2, h3, h4⟩

section
variable {prog : Program} {w : World} {A : Around} {E : Value → Shared → Prop} {s : Shared} {K : Frag}

end
end Att

namespace L2
open PySem PySem.Spec PyProof.Rows

theorem vals_ints : ∀ {vs : List Value} {ns : List Int}, IntsAre vs ns → Vals (ns.map V.int) vs
  | _, _, .nil => .nil
  | _, _, .cons n t h => .cons ⟨t, rfl⟩ (vals_ints h)

noncomputable def Only (H : Hp) : Prop := ∀ b, H b = none ∨ ∃ o xs, H b = some (.frz o (.lst xs))

theorem law_call {P : Program} {w : World} {K : PySem.W.Frag} {mg mb : Str → Option Value} {CX : CXT} {k : Nat} {fa a : Addr} {fd : FuncData} {x : Str} {sp : Sp} {s₁ : Shared} {vs : List Value} {ns : List Int}
    (KX : K.In s₁.heap) (hns : s₁.heap.Ns mainGlobals mg) (hb : s₁.heap.Ns builtinsNs mb) (hbb : ∀ x : Str, x ≠ "__name__" → mb x = bootBuiltins x) (hlim : s₁.heap.NoLimit) (hg : s₁.gens = #[])
    (ha : s₁.heap.get? a = some { cls := .type "list", data := .seq vs.toArray }) (hi : IntsAre vs ns) (hl : ns.length ≤ sizeLine) (hr : Room k callerA)
    (F : ∀ base : Heap, K.In base → base.Ns mainGlobals mg → FnOk P w K mg base CX k fa fd [x] sp) (hbind : ∀ (s : Shared) (u : Value), BindsTo s fd ⟨[u], []⟩ [(x, u)])
    (hsp : ∀ H : Hp, Only H → SqL K H a (ns.map V.int) → sp [.ref a] H (fun v _ => v = .bl true) fun _ _ _ => False)
    (hCX : ∀ H e s', CX [] H s₁ (fun _ _ _ => False) e s' → False) :
    codeAny (model P w) callerA (.call (.ref fa) ⟨[.ref a], []⟩) (fun r s' => r = .ok (.ret (.bool true)) ∧ OldK s₁.heap s'.heap ∧ s'.os = s₁.os ∧ AllBare s'.gens) s₁ := by
  have rv := vals_ints hi
  have lenV := hi.length
  -- from an abstract heap in which nothing but the script may be tracked
  have core : ∀ H : Hp, Only H → SqL K H a (ns.map V.int) → HOk P w H s₁.heap → (∀ b, H b ≠ none → b = a) → (H a ≠ none → K.lookup a = none) →
      codeAny (model P w) callerA (.call (.ref fa) ⟨[.ref a], []⟩) (fun r s' => r = .ok (.ret (.bool true)) ∧ OldK s₁.heap s'.heap ∧ s'.os = s₁.os ∧ AllBare s'.gens) s₁ := by
    intro H hO hS hok hA hK
    have base_of : ∀ {b : Addr} {o : Obj}, s₁.heap.get? b = some o → H b = none → (hidT s₁.heap H).get? b = some o := fun e n => hidT_get e n
    have noA : ∀ {b : Addr} {o : Obj} {es : Array DictEntry} {ep : Nat}, s₁.heap.get? b = some o → o.data = .dict es ep → H b = none := fun {b o es ep} e d => by
      cases q : H b with
      | none => rfl
      | some u =>
        have e' : b = a := hA b (by rw [q]; simp)
        subst e'
        rw [ha] at e; cases e
        have d' : Data.seq vs.toArray _ = Data.dict es ep := d
        cases d'
    have nsK : ∀ {b : Addr} {m : Str → Option Value}, s₁.heap.Ns b m → (hidT s₁.heap H).Ns b m := fun {b m} ⟨o, es, ep, e, d, r⟩ => ⟨o, es, ep, base_of e (noA e d), d, r⟩
    have hKb : K.In (hidT s₁.heap H) := fun b o e => base_of (KX b o e) (by
      cases q : H b with
      | none => rfl
      | some u =>
        have e' : b = a := hA b (by rw [q]; simp)
        subst e'
        rw [hK (by rw [q]; simp)] at e; cases e)
    have hM : Mod K mg (hidT s₁.heap H) := ⟨hKb, nsK hns, ⟨mb, nsK hb, hbb⟩, let ⟨mc, h1, h2⟩ := hlim; ⟨mc, nsK h1, h2⟩⟩
    have e0 : Env0 P w K mg (hidT s₁.heap H) callerA [] s₁ H := ⟨rfl, hM, fun b o e => of_hidT e, Nat.le_of_eq (hidT_size _ _), trivial, fun b hb => absurd (show b ∈ ([] : List Addr) from hb) (by simp), hok, .of_eq hg⟩
    refine codeAny_mono ((F _ hKb (nsK hns)).run callerA [] s₁ H ⟨[.ref a], []⟩ [.ref a] [.ref a] _ _ hr e0 (hbind s₁ (.ref a)) (.cons rfl .nil) (hsp H hO hS)) fun r s' h => ?_
    cases r with
    | error e => exact (hCX H e s' h).elim
    | ok fl =>
      cases fl with
      | next => exact False.elim h
      | brk => exact False.elim h
      | cont => exact False.elim h
      | ret u =>
        obtain ⟨v, H', os, bare, un, hok', r', q⟩ := h
        have q' : v = .bl true := q
        subst q'
        obtain rfl : u = Value.bool true := r'
        refine ⟨rfl, OldK.of_keep fun b o e => ?_, os, bare⟩
        cases q : H b with
        | none => exact un.keep b o e q (by intro z; exact absurd (show b ∈ ([] : List Addr) from z) (by simp)) (by simp)
        | some u =>
          rcases hO b with z | ⟨ob, xs, z⟩
          · rw [q] at z; cases z
          · have z2 := un.frzs b ob _ z
            obtain ⟨e1, _⟩ := hok b _ z
            obtain ⟨e2, _⟩ := hok' b _ z2
            rw [e] at e1; cases e1
            exact e2
  cases hk : K.lookup a with
  | some o =>
    -- the script is one of the module's own objects
    have e := KX a o hk
    rw [ha] at e
    cases e
    refine core (fun _ => none) (fun _ => .inl rfl) (.inr ⟨_, vs.toArray, _, hk, rfl, rfl, rfl, by rw [List.size_toArray, lenV]; exact hl, by simpa using rv⟩) (fun b u z => by have z' : (none : Option HO) = some u := z; cases z') (fun b z => absurd rfl z) fun z => absurd rfl z
  | none =>
    refine core (fun b => if b = a then some (.frz { cls := .type "list", data := .seq vs.toArray } (.lst (ns.map V.int))) else none) (fun b => ?_) (.inl (.inr ⟨{ cls := .type "list", data := .seq vs.toArray }, if_pos rfl⟩)) (fun b u z => ?_) (fun b z => ?_) fun _ => hk
    · by_cases hb : b = a
      · exact .inr ⟨_, _, if_pos hb⟩
      · exact .inl (if_neg hb)
    · by_cases hb : b = a
      · have z' := (if_pos hb).symm.trans z
        cases z'
        subst hb
        exact ⟨ha, by rw [List.length_map]; exact hl, vs, _, rv, ha⟩
      · have z' := (if_neg hb).symm.trans z
        cases z'
    · by_cases hb : b = a
      · exact hb
      · exact absurd (if_neg hb) z
end L2

namespace L2
open PySem PySem.Spec PyProof.Rows

theorem walk_of {l : PySem.W.OpenLaw} {n k : Nat} {q : Program} {loose : List Str} {XP : (Str → Option Value) → Heap → Prop} {YP : World → Heap → Prop} {d : DefRec} {K : Params → PySem.W.Frag} {CX : World → CXT} {sp : World → Sp} {x : Str}
    (hn : l.most = some n) (hn2 : n ≤ sizeLine) (hdf : d.params.defaults = []) (hr : Room k callerA)
    (hY : ∀ (w : World) (h : Heap), YP w h → (K w.params).In h)
    (F : ∀ (w : World) (mg : Str → Option Value) (fa : Addr) (h : Heap), (K w.params).In h → h.Ns mainGlobals mg → mg d.name = some (.ref fa) →
      ∃ fd : FuncData, (∀ (s : Shared) (u : Value), BindsTo s fd ⟨[u], []⟩ [(x, u)]) ∧
        ∀ base : Heap, (K w.params).In base → base.Ns mainGlobals mg → FnOk l.prog w (K w.params) mg base (CX w) k fa fd [x] (sp w))
    (hsp : ∀ (w : World) (H : Hp) (a : Addr) (ns : List Int), ns.length ≤ n → Only H → SqL (K w.params) H a (ns.map V.int) → sp w [.ref a] H (fun v _ => v = .bl true) fun _ _ _ => False)
    (hCX : ∀ (w : World) (H : Hp) (s : Shared) (e : Value) (s' : Shared), CX w [] H s (fun _ _ _ => False) e s' → False) :
    PySem.W.WalkO q loose XP YP l.row.toRowW d [] (fun f vs => PySem.call f vs) := by
  refine Att.attach_call hn hdf fun w s₀ s₁ mg mb fa o pm cd doc a vs ns G Y ho hd hcd hmg hobj hints hlen hg => ?_
  have KX := hY w _ Y
  obtain ⟨fd, hb, hF⟩ := F w mg fa _ KX G.T.g hmg
  exact law_call KX G.T.g G.T.b G.T.builtins G.T.nolimit hg hobj hints (Nat.le_trans hlen hn2) hr hF hb (fun H hO hS => hsp w H a ns hlen hO hS) fun H e s' => hCX w H s₁ e s'
end L2



namespace L2
open PySem PySem.Spec PyProof.Rows

noncomputable def defArgs (s : Stmt) : Arguments := match s with
  | .FunctionDef _ a _ _ _ _ _ _ _ _ => a
  | _ => { posonlyargs := [], args := [], vararg := none, kwonlyargs := [], kw_defaults := [], kwarg := none, defaults := [] }
noncomputable def defBody (s : Stmt) : List Stmt := match s with
  | .FunctionDef _ _ b _ _ _ _ _ _ _ => b
  | _ => []
noncomputable def defScope (s : Stmt) : Scope := match s with
  | .FunctionDef _ _ _ _ _ _ sc _ _ _ => sc
  | _ => { kind := .function, names := [], isGenerator := false, isCoroutine := false }

noncomputable abbrev CX0 : CXT := fun _ _ _ _ _ _ => False
noncomputable abbrev E0 : XK := fun _ _ _ => False
theorem pass0 {X : Cx} : Passes CX0 X E0 := fun _ _ _ _ _ _ _ h => h.elim

structure Fun (K : PySem.W.Frag) (x qual : Str) (st : Stmt) (f : Addr) (fd : FuncData) : Prop where
  ex : ∃ (oc : Value) (od : Option Addr) (kV doc pm : Value) (an : Option Addr) (cdv ct : Value) (osl : Array (Option Value)),
    fd = PySem.W.fnOf x qual (defArgs st) (defBody st) (defScope st) .none kV doc pm an cdv ct ∧ K.lookup f = some ⟨oc, od, .func fd, osl⟩ ∧ PySem.W.codeIn K cdv qual = true
  kp : PySem.W.keepIn K (.ref f) = true
section
variable {P : Program} {w : World} {K : PySem.W.Frag} {mg : Str → Option Value} {base : Heap}
theorem Fun.ok {x qual : Str} {st : Stmt} {f : Addr} {fd : FuncData} {N ps : List Str} {k : Nat} {sp : Sp} (F : Fun K x qual st f fd) (S : FnScope N ps (defScope st)) (len : ∀ vs H Q E, sp vs H Q E → vs.length = ps.length)
    (hbody : ∀ (cdv : Value) (A : Around) (outer : List Env) (s : Shared) (H : Hp) (vs : List V) (Q : VK) (E : XK), Room k (A.deeper (envOfC qual (defScope st) s.heap.objs.size f cdv)) → sp vs H Q E →
      ∃ t, PSs (cxOf CX0 P w K mg base N qual (defScope st) f cdv A outer s H E).nox (defBody st) t ∧ t { nx := fun _ H' => Q .non H', rt := Q } (start N vs) H) : FnOk P w K mg base CX0 (k + 1) f fd ps sp := by
  obtain ⟨oc, od, kV, doc, pm, an, cdv, ct, osl, rfl, lk, hcd⟩ := F.ex
  refine fn_of lk hcd S len fun A outer s H vs Q E hr hsp => ?_
  obtain ⟨t, h, q⟩ := hbody cdv A outer s H vs Q E hr hsp
  exact ⟨t, h.nox, q⟩
theorem Fun.binds {x qual : Str} {st : Stmt} {f : Addr} {fd : FuncData} {ps : List Str} (F : Fun K x qual st f fd)
    (h : ∀ (kV doc pm : Value) (an : Option Addr) (cdv ct : Value) (us : List Value), us.length = ps.length → bindArgs (PySem.W.fnOf x qual (defArgs st) (defBody st) (defScope st) .none kV doc pm an cdv ct) ⟨us, []⟩ = pure (ps.zip us)) : Binds K fd ps [] := by
  obtain ⟨oc, od, kV, doc, pm, an, cdv, ct, osl, rfl, lk, hcd⟩ := F.ex
  exact .all (h kV doc pm an cdv ct)
theorem fun_mk {x qual : Str} {st : Stmt} {f : Addr} {oc : Value} {od an : Option Addr} {osl : Array (Option Value)} {kV doc pm cdv ct : Value} (l : K.lookup f = some ⟨oc, od, .func (PySem.W.fnOf x qual (defArgs st) (defBody st) (defScope st) .none kV doc pm an cdv ct), osl⟩)
    (c : PySem.W.codeIn K cdv qual = true) (k : PySem.W.keepIn K (.ref f) = true) : Fun K x qual st f (PySem.W.fnOf x qual (defArgs st) (defBody st) (defScope st) .none kV doc pm an cdv ct) := ⟨⟨oc, od, kV, doc, pm, an, cdv, ct, osl, rfl, l, c⟩, k⟩
end
theorem small1000 {n : Nat} (h : n ≤ 1000) : n < sizeLine := Nat.lt_of_le_of_lt h (by decide)

section
variable {X : Cx}
theorem pv (i : Nat) {x : Str} {pos : Pos} (hN : autoParam (X.N[i]? = some x) au0_._auto_1) (hv : Vis X.env.scope x := by first | exact Or.inl rfl | exact Or.inr (Or.inl rfl) | exact Or.inr (Or.inr rfl)) (hd : autoParam ((x == ("__debug__" : Str)) = false) au1_._auto_1)
    (hcd : autoParam ((x == ("__classdict__" : Str)) = false) au1_._auto_1) : PE X (.Name x pos) (tVar i) := pe_var hN hv hd hcd
end

theorem iteF {A B : Prop} (h : B) : if false = true then A else B := by
  rw [if_neg Bool.false_ne_true]
  exact h
theorem iteT {A B : Prop} (h : A) : if true = true then A else B := by
  rw [if_pos rfl]
  exact h
theorem ite2 {c A B : Prop} [Decidable c] (h1 : c → A) (h2 : ¬ c → B) : if c then A else B := by
  by_cases h : c
  · rw [if_pos h]
    exact h1 h
  · rw [if_neg h]
    exact h2 h
noncomputable def Same (H H' : Hp) : Prop := ∀ b o, H b = some o → H' b = some o
theorem Same.refl (H : Hp) : Same H H := fun _ _ h => h
theorem Same.trans {H H1 H2 : Hp} (a : Same H H1) (b : Same H1 H2) : Same H H2 := fun c o h => b c o (a c o h)
theorem Same.free {H H' : Hp} (e : Same H H') {l : Addr} (h : H' l = Option.none) : H l = Option.none := by
  cases q : H l with
  | none => rfl
  | some o =>
    rw [e l o q] at h
    cases h
theorem Same.seq {K : PySem.W.Frag} {H H' : Hp} {a : Addr} {xs : List V} (e : Same H H') (h : SqL K H a xs) : SqL K H' a xs := by
  rcases h with (h | ⟨o, h⟩) | h
  · exact .inl (.inl (e _ _ h))
  · exact .inl (.inr ⟨o, e _ _ h⟩)
  · exact .inr h

end L2

set_option maxHeartbeats 4000000
namespace Mth

noncomputable def Sz (n : Nat) (x : Int) : Prop := x.natAbs < 2 ^ n
noncomputable instance {n : Nat} {x : Int} : Decidable (Sz n x) := inferInstanceAs (Decidable (x.natAbs < 2 ^ n))
theorem Sz.mono {m n : Nat} {x : Int} (h : Sz m x) (hm : m ≤ n) : Sz n x :=
  Nat.lt_of_lt_of_le h (Nat.pow_le_pow_right (by decide) hm)
theorem Sz.mul {m n : Nat} {x y : Int} (hx : Sz m x) (hy : Sz n y) : Sz (m + n) (x * y) := by
  unfold Sz at *
  rw [Int.natAbs_mul, Nat.pow_add]
  exact Nat.mul_lt_mul'' hx hy
theorem Sz.add {m : Nat} {x y : Int} (hx : Sz m x) (hy : Sz m y) : Sz (m + 1) (x + y) := by
  unfold Sz at *
  rw [Nat.pow_succ]
  have := Int.natAbs_add_le x y
  (first | lia | omega)
theorem Sz.neg {m : Nat} {x : Int} (hx : Sz m x) : Sz m (-x) := by
  unfold Sz at *
  rw [Int.natAbs_neg]; exact hx
theorem Sz.of_le {m : Nat} {x y : Int} (hx : Sz m x) (h : y.natAbs ≤ x.natAbs) : Sz m y := Nat.lt_of_le_of_lt h hx
theorem Sz.log {m : Nat} {x : Int} (hx : Sz m x) (hm : m ≤ 9000) (h0 : 0 < m) : x.natAbs.log2 < 9000 := by
  by_cases h : x.natAbs = 0
  · rw [h]; decide
  · have := (Nat.log2_lt h).mpr hx
    (first | lia | omega)
theorem Sz.of_lt {m k : Nat} {x : Int} (h : x.natAbs < k) (hk : k ≤ 2 ^ m) : Sz m x := Nat.lt_of_lt_of_le h hk

structure Low (t b t' b' : Int) : Prop where
  pos : 1 ≤ b'
  co : Int.gcd t' b' = 1
  eq : t' * b = t * b'
  tb : t'.natAbs ≤ t.natAbs
  bb : b'.natAbs ≤ b.natAbs

theorem gcd_step (x y : Nat) : Nat.gcd y (x % y) = Nat.gcd x y := by
  rw [Nat.gcd_comm y, ← Nat.gcd_rec, Nat.gcd_comm]

theorem ediv_gcd {t b : Int} (hb : b ≠ 0) : Int.gcd (t / (Int.gcd t b : Int)) (b / (Int.gcd t b : Int)) = 1 := by
  have hp : 0 < Int.gcd t b := Int.gcd_pos_of_ne_zero_right t hb
  rw [Int.gcd_ediv (Int.gcd_dvd_left ..) (Int.gcd_dvd_right ..)]
  rw [Int.natAbs_natCast]
  exact Nat.div_self hp
theorem le_of_mul {a : Int} {g : Nat} {c : Int} (hg : 0 < g) (e : a * (g : Int) = c) : a.natAbs ≤ c.natAbs := by
  subst e
  rw [Int.natAbs_mul, Int.natAbs_natCast]
  exact Nat.le_mul_of_pos_right _ hg

theorem low_mk {t b t' b' : Int} {g : Nat} (hg : 0 < g) (e1 : t' * (g : Int) = t) (e2 : b' * (g : Int) = b) (hb : 0 < b) (hc : Int.gcd t' b' = 1) : Low t b t' b' := by
  refine ⟨?_, hc, ?_, le_of_mul hg e1, le_of_mul hg e2⟩
  · have : 0 < b' := Int.pos_of_mul_pos_left (b := (g : Int)) (by rw [e2]; exact hb) (by (first | lia | omega))
    (first | lia | omega)
  · rw [← e1, ← e2, Int.mul_assoc, Int.mul_comm (g : Int) b']

theorem low_pos {t b : Int} (hb : 0 < b) : Low t b (t.fdiv (Int.gcd t b : Int)) (b.fdiv (Int.gcd t b : Int)) := by
  have hp : 0 < Int.gcd t b := Int.gcd_pos_of_ne_zero_right t (by (first | lia | omega))
  have h1 : (Int.gcd t b : Int) ∣ t := Int.gcd_dvd_left ..
  have h2 : (Int.gcd t b : Int) ∣ b := Int.gcd_dvd_right ..
  rw [Int.fdiv_eq_ediv_of_nonneg _ (by (first | lia | omega)), Int.fdiv_eq_ediv_of_nonneg _ (by (first | lia | omega))]
  exact low_mk hp (Int.ediv_mul_cancel h1) (Int.ediv_mul_cancel h2) hb (ediv_gcd (by (first | lia | omega)))

theorem co_dvd {b a d : Int} (hc : Int.gcd b a = 1) (h : b ∣ a * d) : b ∣ d := by
  have h' : b.natAbs ∣ a.natAbs * d.natAbs := by rw [← Int.natAbs_mul]; exact Int.natAbs_dvd_natAbs.mpr h
  have hc' : Nat.Coprime b.natAbs a.natAbs := hc
  exact Int.natAbs_dvd_natAbs.mp (hc'.dvd_of_dvd_mul_left h')
theorem low_unique {a b c d : Int} (hb : 1 ≤ b) (hd : 1 ≤ d) (h1 : Int.gcd a b = 1) (h2 : Int.gcd c d = 1) (e : a * d = c * b) : a = c ∧ b = d := by
  have k1 : b ∣ d := by
    have : b ∣ a * d := ⟨c, by rw [e, Int.mul_comm]⟩
    exact co_dvd (by rw [Int.gcd_comm]; exact h1) this
  have k2 : d ∣ b := by
    have : d ∣ c * b := ⟨a, by rw [← e, Int.mul_comm]⟩
    exact co_dvd (by rw [Int.gcd_comm]; exact h2) this
  have hbd : b = d := Int.dvd_antisymm (by (first | lia | omega)) (by (first | lia | omega)) k1 k2
  subst hbd
  exact ⟨Int.eq_of_mul_eq_mul_right (by (first | lia | omega)) e, rfl⟩

theorem Low.self {t b t' b' : Int} (h : Low t b t' b') (hb : 1 ≤ b) (hc : Int.gcd t b = 1) : t' = t ∧ b' = b :=
  let ⟨a, c⟩ := low_unique hb h.pos hc h.co h.eq.symm
  ⟨a.symm, c.symm⟩
end Mth

namespace Mth
structure Steps (H L high low x0 y0 x1 y1 : Int) : Prop where
  sg : (x0 * y1 - x1 * y0 = 1 ∧ 0 ≤ x0 ∧ y0 ≤ 0 ∧ x1 ≤ 0 ∧ 1 ≤ y1) ∨ (x0 * y1 - x1 * y0 = -1 ∧ x0 ≤ 0 ∧ 0 ≤ y0 ∧ 0 ≤ x1 ∧ y1 ≤ -1)
  eh : x0 * H + y0 * L = high
  el : x1 * H + y1 * L = low
  l0 : 0 ≤ low
  lh : low ≤ high
  st : (x0 = 1 ∧ y0 = 0 ∧ x1 = 0 ∧ y1 = 1) ∨ (y0 ≠ 0 ∧ high ≤ L ∧ 340282366920938463463374607431768211456 ≤ high ∧ x0.natAbs ≤ x1.natAbs ∧ y0.natAbs ≤ y1.natAbs)

theorem Steps.init {H L : Int} (h0 : 0 ≤ L) (h : L ≤ H) : Steps H L H L 1 0 0 1 := ⟨.inl (by (first | lia | omega)), by (first | lia | omega), by (first | lia | omega), h0, h, .inl (by (first | lia | omega))⟩

theorem div_le {x y : Int} (hx : 0 ≤ x) (hy : 0 ≤ y) : (x / y).natAbs ≤ x.natAbs := by
  have h1 := Int.ediv_le_self (a := x) y hx
  have h2 := Int.ediv_nonneg hx hy
  (first | lia | omega)

theorem mul_ge {q z : Int} (hq : 1 ≤ q) (hz : 0 ≤ z) : z ≤ q * z := by
  have := Int.mul_le_mul_of_nonneg_right hq hz
  (first | lia | omega)

theorem Steps.step {H L high low x0 y0 x1 y1 q : Int} (h : Steps H L high low x0 y0 x1 y1) (hl : 340282366920938463463374607431768211456 ≤ low) (hq : q = high / low) :
    Steps H L low (high - q * low) x1 y1 (x0 - q * x1) (y0 - q * y1) := by
  obtain ⟨sg, eh, el, l0, lh, st⟩ := h
  have q1 : 1 ≤ q := by
    rw [hq]; exact (Int.le_ediv_iff_mul_le (by (first | lia | omega))).mpr (by (first | lia | omega))
  have em : high - q * low = high % low := by
    have := Int.mul_ediv_add_emod high low
    rw [hq, Int.mul_comm]; (first | lia | omega)
  have m0 : 0 ≤ high % low := Int.emod_nonneg _ (by (first | lia | omega))
  have m1 : high % low < low := Int.emod_lt_of_pos _ (by (first | lia | omega))
  have hlL : low ≤ L := by
    rcases st with ⟨a, b, c, d⟩ | ⟨_, a, _⟩
    · subst a b c d; (first | lia | omega)
    · (first | lia | omega)
  have det : x1 * (y0 - q * y1) - (x0 - q * x1) * y1 = -(x0 * y1 - x1 * y0) := by grind
  have hel : (x0 - q * x1) * H + (y0 - q * y1) * L = high - q * low := by rw [← eh, ← el]; grind
  refine ⟨?_, el, hel, by (first | lia | omega), by (first | lia | omega), .inr ⟨?_, hlL, hl, ?_, ?_⟩⟩
  · rcases sg with ⟨d, a, b, c, e⟩ | ⟨d, a, b, c, e⟩
    · right
      have k1 := mul_ge q1 (z := -x1) (by (first | lia | omega))
      have k2 := mul_ge q1 (z := y1) (by (first | lia | omega))
      rw [Int.mul_neg] at k1
      exact ⟨by (first | lia | omega), by (first | lia | omega), by (first | lia | omega), by (first | lia | omega), by (first | lia | omega)⟩
    · left
      have k1 := mul_ge q1 (z := x1) (by (first | lia | omega))
      have k2 := mul_ge q1 (z := -y1) (by (first | lia | omega))
      rw [Int.mul_neg] at k2
      exact ⟨by (first | lia | omega), by (first | lia | omega), by (first | lia | omega), by (first | lia | omega), by (first | lia | omega)⟩
  · rcases sg with ⟨d, a, b, c, e⟩ | ⟨d, a, b, c, e⟩ <;> (first | lia | omega)
  · rcases sg with ⟨d, a, b, c, e⟩ | ⟨d, a, b, c, e⟩
    · have k1 := mul_ge q1 (z := -x1) (by (first | lia | omega))
      rw [Int.mul_neg] at k1
      (first | lia | omega)
    · have k1 := mul_ge q1 (z := x1) (by (first | lia | omega))
      (first | lia | omega)
  · rcases sg with ⟨d, a, b, c, e⟩ | ⟨d, a, b, c, e⟩
    · have k1 := mul_ge q1 (z := y1) (by (first | lia | omega))
      (first | lia | omega)
    · have k1 := mul_ge q1 (z := -y1) (by (first | lia | omega))
      rw [Int.mul_neg] at k1
      (first | lia | omega)

theorem Steps.high_le {H L high low x0 y0 x1 y1 : Int} (h : Steps H L high low x0 y0 x1 y1) (h1 : L ≤ H) : high ≤ H := by
  obtain ⟨sg, eh, el, l0, lh, st⟩ := h
  rcases st with ⟨a, b, c, d⟩ | ⟨_, a, _⟩
  · subst a b c d; (first | lia | omega)
  · (first | lia | omega)

theorem Steps.now_le {H L high low x0 y0 x1 y1 : Int} (h : Steps H L high low x0 y0 x1 y1) (hh : 1 ≤ high) : x1.natAbs ≤ L.natAbs ∧ y1.natAbs ≤ H.natAbs := by
  obtain ⟨sg, eh, el, l0, lh, st⟩ := h
  rcases sg with ⟨d, a, b, c, e⟩ | ⟨d, a, b, c, e⟩
  · have e1 : y1 * high + (-y0) * low = H := by
      have : y1 * high + (-y0) * low = (x0 * y1 - x1 * y0) * H := by rw [← eh, ← el]; grind
      rw [this, d]; (first | lia | omega)
    have e2 : (-x1) * high + x0 * low = L := by
      have : (-x1) * high + x0 * low = (x0 * y1 - x1 * y0) * L := by rw [← eh, ← el]; grind
      rw [this, d]; (first | lia | omega)
    have n1 : 0 ≤ (-y0) * low := Int.mul_nonneg (by (first | lia | omega)) l0
    have n2 : 0 ≤ x0 * low := Int.mul_nonneg (by (first | lia | omega)) l0
    have k1 : y1 ≤ y1 * high := by rw [Int.mul_comm]; exact mul_ge hh (by (first | lia | omega))
    have k2 : -x1 ≤ (-x1) * high := by rw [Int.mul_comm]; exact mul_ge hh (by (first | lia | omega))
    (first | lia | omega)
  · have e1 : (-y1) * high + y0 * low = H := by
      have : (-y1) * high + y0 * low = -(x0 * y1 - x1 * y0) * H := by rw [← eh, ← el]; grind
      rw [this, d]; (first | lia | omega)
    have e2 : x1 * high + (-x0) * low = L := by
      have : x1 * high + (-x0) * low = -(x0 * y1 - x1 * y0) * L := by rw [← eh, ← el]; grind
      rw [this, d]; (first | lia | omega)
    have n1 : 0 ≤ y0 * low := Int.mul_nonneg (by (first | lia | omega)) l0
    have n2 : 0 ≤ (-x0) * low := Int.mul_nonneg (by (first | lia | omega)) l0
    have k1 : -y1 ≤ (-y1) * high := by rw [Int.mul_comm]; exact mul_ge hh (by (first | lia | omega))
    have k2 : x1 ≤ x1 * high := by rw [Int.mul_comm]; exact mul_ge hh (by (first | lia | omega))
    (first | lia | omega)

theorem small_of_mul {y h B : Int} (hy : 0 ≤ y) (hh : 340282366920938463463374607431768211456 ≤ h) (hm : y * h ≤ B) (hB : B < 115792089237316195423570985008687907853269984665640564039457584007913129639936) : y ≤ 340282366920938463463374607431768211456 := by
  by_cases c : y ≤ 340282366920938463463374607431768211456
  · exact c
  · have := Int.mul_le_mul (a := 340282366920938463463374607431768211456) (c := y) (b := 340282366920938463463374607431768211456) (d := h) (by (first | lia | omega)) hh (by (first | lia | omega)) hy
    (first | lia | omega)

theorem Steps.small {H L high low x0 y0 x1 y1 : Int} (h : Steps H L high low x0 y0 x1 y1) (hy : y0 ≠ 0) (hL : L ≤ H) (hH : H < 115792089237316195423570985008687907853269984665640564039457584007913129639936) :
    x0.natAbs ≤ 340282366920938463463374607431768211456 ∧ y0.natAbs ≤ 340282366920938463463374607431768211456 ∧ x1.natAbs ≤ 340282366920938463463374607431768211456 ∧ y1.natAbs ≤ 340282366920938463463374607431768211456 := by
  obtain ⟨sg, eh, el, l0, lh, st⟩ := h
  rcases st with ⟨_, z, _⟩ | ⟨_, hl, hh, ax, ay⟩
  · exact absurd z hy
  rcases sg with ⟨d, a, b, c, e⟩ | ⟨d, a, b, c, e⟩
  · have e1 : y1 * high + (-y0) * low = H := by
      have : y1 * high + (-y0) * low = (x0 * y1 - x1 * y0) * H := by rw [← eh, ← el]; grind
      rw [this, d]; (first | lia | omega)
    have e2 : (-x1) * high + x0 * low = L := by
      have : (-x1) * high + x0 * low = (x0 * y1 - x1 * y0) * L := by rw [← eh, ← el]; grind
      rw [this, d]; (first | lia | omega)
    have n1 : 0 ≤ (-y0) * low := Int.mul_nonneg (by (first | lia | omega)) l0
    have n2 : 0 ≤ x0 * low := Int.mul_nonneg (by (first | lia | omega)) l0
    have k1 := small_of_mul (y := y1) (B := H) (by (first | lia | omega)) hh (by (first | lia | omega)) hH
    have k2 := small_of_mul (y := -x1) (B := H) (by (first | lia | omega)) hh (by (first | lia | omega)) hH
    (first | lia | omega)
  · have e1 : (-y1) * high + y0 * low = H := by
      have : (-y1) * high + y0 * low = -(x0 * y1 - x1 * y0) * H := by rw [← eh, ← el]; grind
      rw [this, d]; (first | lia | omega)
    have e2 : x1 * high + (-x0) * low = L := by
      have : x1 * high + (-x0) * low = -(x0 * y1 - x1 * y0) * L := by rw [← eh, ← el]; grind
      rw [this, d]; (first | lia | omega)
    have n1 : 0 ≤ y0 * low := Int.mul_nonneg (by (first | lia | omega)) l0
    have n2 : 0 ≤ (-x0) * low := Int.mul_nonneg (by (first | lia | omega)) l0
    have k1 := small_of_mul (y := -y1) (B := H) (by (first | lia | omega)) hh (by (first | lia | omega)) hH
    have k2 := small_of_mul (y := x1) (B := H) (by (first | lia | omega)) hh (by (first | lia | omega)) hH
    (first | lia | omega)

theorem mix_le {x y f r T M : Int} (hx : x.natAbs ≤ M) (hy : y.natAbs ≤ M) (f0 : 0 ≤ f) (f1 : f ≤ T) (r0 : 0 ≤ r) (r1 : r ≤ T) (hs : (0 ≤ x ∧ y ≤ 0) ∨ (x ≤ 0 ∧ 0 ≤ y)) : (x * f + y * r).natAbs ≤ M * T := by
  rcases hs with ⟨a, b⟩ | ⟨a, b⟩
  · have k1 := Int.mul_le_mul (a := x) (c := M) (b := f) (d := T) (by (first | lia | omega)) f1 f0 (by (first | lia | omega))
    have k2 := Int.mul_le_mul (a := -y) (c := M) (b := r) (d := T) (by (first | lia | omega)) r1 r0 (by (first | lia | omega))
    have k3 := Int.mul_nonneg a f0
    have k4 := Int.mul_nonneg (a := -y) (b := r) (by (first | lia | omega)) r0
    rw [Int.neg_mul] at k2 k4
    (first | lia | omega)
  · have k1 := Int.mul_le_mul (a := -x) (c := M) (b := f) (d := T) (by (first | lia | omega)) f1 f0 (by (first | lia | omega))
    have k2 := Int.mul_le_mul (a := y) (c := M) (b := r) (d := T) (by (first | lia | omega)) r1 r0 (by (first | lia | omega))
    have k3 := Int.mul_nonneg (a := -x) (b := f) (by (first | lia | omega)) f0
    have k4 := Int.mul_nonneg (a := y) (b := r) (by (first | lia | omega)) r0
    rw [Int.neg_mul] at k1 k3
    (first | lia | omega)

theorem Steps.less {H L high low x0 y0 x1 y1 T f r : Int} (h : Steps H L high low x0 y0 x1 y1) (hy : y0 ≠ 0) (hL : L ≤ H) (h1 : 57896044618658097711785492504343953926634992332820282019728792003956564819968 ≤ H)
    (hH : H < 115792089237316195423570985008687907853269984665640564039457584007913129639936) (hl : low ≤ 340282366920938463463374607431768211456) (f0 : 0 ≤ f) (f1 : f < T) (r0 : 0 ≤ r) (r1 : r < T) :
    (x0 * (H * T + f) + y0 * (L * T + r)).natAbs + (x1 * (H * T + f) + y1 * (L * T + r)).natAbs < (H * T + f).natAbs + (L * T + r).natAbs := by
  obtain ⟨sx0, sy0, sx1, sy1⟩ := h.small hy hL hH
  obtain ⟨sg, eh, el, l0, lh, st⟩ := h
  rcases st with ⟨_, z, _⟩ | ⟨_, hhL, hh, ax, ay⟩
  · exact absurd z hy
  have A : x0 * (H * T + f) + y0 * (L * T + r) = high * T + (x0 * f + y0 * r) := by rw [← eh]; grind
  have B : x1 * (H * T + f) + y1 * (L * T + r) = low * T + (x1 * f + y1 * r) := by rw [← el]; grind
  have mA := mix_le (x := x0) (y := y0) (f := f) (r := r) (T := T) (M := 340282366920938463463374607431768211456) (by (first | lia | omega)) (by (first | lia | omega)) f0 (by (first | lia | omega)) r0 (by (first | lia | omega)) (by rcases sg with ⟨d, a, b, c, e⟩ | ⟨d, a, b, c, e⟩ <;> (first | lia | omega))
  have mB := mix_le (x := x1) (y := y1) (f := f) (r := r) (T := T) (M := 340282366920938463463374607431768211456) (by (first | lia | omega)) (by (first | lia | omega)) f0 (by (first | lia | omega)) r0 (by (first | lia | omega)) (by rcases sg with ⟨d, a, b, c, e⟩ | ⟨d, a, b, c, e⟩ <;> (first | lia | omega))
  have t1 : 0 ≤ high * T := Int.mul_nonneg (by (first | lia | omega)) (by (first | lia | omega))
  have t2 : 0 ≤ low * T := Int.mul_nonneg l0 (by (first | lia | omega))
  have t3 : high * T ≤ L * T := Int.mul_le_mul_of_nonneg_right hhL (by (first | lia | omega))
  have t4 : low * T ≤ 340282366920938463463374607431768211456 * T := Int.mul_le_mul_of_nonneg_right hl (by (first | lia | omega))
  have t5 : 57896044618658097711785492504343953926634992332820282019728792003956564819968 * T ≤ H * T := Int.mul_le_mul_of_nonneg_right h1 (by (first | lia | omega))
  rw [A, B]
  (first | lia | omega)

theorem gcd_mix {a b x0 y0 x1 y1 : Int} (d : x0 * y1 - x1 * y0 = 1 ∨ x0 * y1 - x1 * y0 = -1) : Int.gcd (x0 * a + y0 * b) (x1 * a + y1 * b) = Int.gcd a b := by
  refine Nat.dvd_antisymm ?_ ?_
  · have h1 : (Int.gcd (x0 * a + y0 * b) (x1 * a + y1 * b) : Int) ∣ x0 * a + y0 * b := Int.gcd_dvd_left ..
    have h2 : (Int.gcd (x0 * a + y0 * b) (x1 * a + y1 * b) : Int) ∣ x1 * a + y1 * b := Int.gcd_dvd_right ..
    generalize (Int.gcd (x0 * a + y0 * b) (x1 * a + y1 * b)) = g at h1 h2
    obtain ⟨u, hu⟩ := h1
    obtain ⟨v, hv⟩ := h2
    refine Int.dvd_gcd ?_ ?_
    · rcases d with d | d
      · exact ⟨y1 * u - y0 * v, by
          have : (x0 * y1 - x1 * y0) * a = g * (y1 * u - y0 * v) := by grind
          rw [d] at this; (first | lia | omega)⟩
      · exact ⟨-(y1 * u - y0 * v), by
          have : -(x0 * y1 - x1 * y0) * a = g * (-(y1 * u - y0 * v)) := by grind
          rw [d] at this; (first | lia | omega)⟩
    · rcases d with d | d
      · exact ⟨x0 * v - x1 * u, by
          have : (x0 * y1 - x1 * y0) * b = g * (x0 * v - x1 * u) := by grind
          rw [d] at this; (first | lia | omega)⟩
      · exact ⟨-(x0 * v - x1 * u), by
          have : -(x0 * y1 - x1 * y0) * b = g * (-(x0 * v - x1 * u)) := by grind
          rw [d] at this; (first | lia | omega)⟩
  · have h1 : (Int.gcd a b : Int) ∣ a := Int.gcd_dvd_left ..
    have h2 : (Int.gcd a b : Int) ∣ b := Int.gcd_dvd_right ..
    exact Int.dvd_gcd (Int.dvd_add (Int.dvd_mul_of_dvd_right h1) (Int.dvd_mul_of_dvd_right h2)) (Int.dvd_add (Int.dvd_mul_of_dvd_right h1) (Int.dvd_mul_of_dvd_right h2))
theorem Steps.gcd {H L high low x0 y0 x1 y1 a b : Int} (h : Steps H L high low x0 y0 x1 y1) : Int.gcd (x0 * a + y0 * b) (x1 * a + y1 * b) = Int.gcd a b :=
  gcd_mix (h.sg.imp (·.1) (·.1))

theorem head_of {x : Int} {t : Nat} (lo : (2 : Int) ^ (255 + t) ≤ x) (hi : x < (2 : Int) ^ (256 + t)) :
    57896044618658097711785492504343953926634992332820282019728792003956564819968 ≤ x / 2 ^ t ∧ x / 2 ^ t < 115792089237316195423570985008687907853269984665640564039457584007913129639936 := by
  have tp : (0 : Int) < 2 ^ t := Int.pow_pos (by decide)
  refine ⟨(Int.le_ediv_iff_mul_le tp).mpr ?_, (Int.ediv_lt_iff_lt_mul tp).mpr ?_⟩
  · rw [Int.pow_add] at lo; exact lo
  · rw [Int.pow_add] at hi; exact hi

theorem heads_less {x y H L high low x0 y0 x1 y1 : Int} {t : Nat} (h : Steps H L high low x0 y0 x1 y1) (hy : y0 ≠ 0) (yx : y ≤ x) (lo : (2 : Int) ^ (255 + t) ≤ x) (hi : x < (2 : Int) ^ (256 + t))
    (eH : H = x / 2 ^ t) (eL : L = y / 2 ^ t) (hl : low ≤ 340282366920938463463374607431768211456) :
    (x0 * x + y0 * y).natAbs + (x1 * x + y1 * y).natAbs < x.natAbs + y.natAbs := by
  have tp : (0 : Int) < 2 ^ t := Int.pow_pos (by decide)
  have hd := head_of lo hi
  have e1 := Int.mul_ediv_add_emod x (2 ^ t)
  have e2 := Int.mul_ediv_add_emod y (2 ^ t)
  have m1 := Int.emod_nonneg x (b := 2 ^ t) (by (first | lia | omega))
  have m2 := Int.emod_nonneg y (b := 2 ^ t) (by (first | lia | omega))
  have l1 := Int.emod_lt_of_pos x tp
  have l2 := Int.emod_lt_of_pos y tp
  have hLH : L ≤ H := by rw [eH, eL]; exact Int.ediv_le_ediv tp yx
  have := h.less hy hLH (by rw [eH]; exact hd.1) (by rw [eH]; exact hd.2) hl m1 l1 m2 l2
  rw [eH, eL, Int.mul_comm (x / 2 ^ t), Int.mul_comm (y / 2 ^ t), e1, e2] at this
  exact this

theorem gcd_maxmin {a b : Int} {p q : Int} (hp : p = if b > a then b else a) (hq : q = if b < a then b else a) : Int.gcd p q = Int.gcd a b := by
  subst hp hq
  by_cases h : b > a
  · rw [if_pos h, if_neg (by (first | lia | omega))]; exact Int.gcd_comm b a
  · by_cases k : b < a
    · rw [if_neg h, if_pos k]
    · have : a = b := by (first | lia | omega)
      subst this; simp
theorem mm_nn (A B : Nat) : 0 ≤ (if (B : Int) < (A : Int) then (B : Int) else (A : Int)) := by
  split
  · exact Int.natCast_nonneg _
  · exact Int.natCast_nonneg _
theorem mm_two (A B : Nat) : ((if (B : Int) > (A : Int) then (B : Int) else (A : Int)) = (B : Int) ∧ (if (B : Int) < (A : Int) then (B : Int) else (A : Int)) = (A : Int) ∧ (A : Int) ≤ (B : Int)) ∨ ((if (B : Int) > (A : Int) then (B : Int) else (A : Int)) = (A : Int) ∧ (if (B : Int) < (A : Int) then (B : Int) else (A : Int)) = (B : Int) ∧ (B : Int) ≤ (A : Int)) := by
  rcases Int.lt_or_le (A : Int) (B : Int) with h | h
  · exact .inl ⟨if_pos h, if_neg (Int.not_lt.mpr (Int.le_of_lt h)), Int.le_of_lt h⟩
  · refine .inr ⟨if_neg (Int.not_lt.mpr h), ?_, h⟩
    split
    · rfl
    · rename_i h2
      exact Int.le_antisymm (Int.not_lt.mp h2) h
theorem mm_le (A B : Nat) : (if (B : Int) < (A : Int) then (B : Int) else (A : Int)) ≤ (if (B : Int) > (A : Int) then (B : Int) else (A : Int)) := by
  rcases mm_two A B with ⟨e1, e2, h⟩ | ⟨e1, e2, h⟩ <;> rw [e1, e2] <;> exact h
theorem mm_sum {A B : Nat} {z : Int} (h : A + B ≤ z.natAbs) : ((if (B : Int) > (A : Int) then (B : Int) else (A : Int)) + (if (B : Int) < (A : Int) then (B : Int) else (A : Int))).natAbs ≤ z.natAbs := by
  rcases mm_two A B with ⟨e1, e2, _⟩ | ⟨e1, e2, _⟩ <;> rw [e1, e2]
  · exact Nat.le_trans (Int.natAbs_add_le _ _) (by rw [Nat.add_comm]; exact h)
  · exact Nat.le_trans (Int.natAbs_add_le _ _) h
theorem mm_to {A B : Nat} {x y : Int} (ls : A + B < x.natAbs + y.natAbs) (y0 : 0 ≤ y) (yx : y ≤ x) : Int.toNat (if (B : Int) > (A : Int) then (B : Int) else (A : Int)) + Int.toNat (if (B : Int) < (A : Int) then (B : Int) else (A : Int)) < Int.toNat x + Int.toNat y := by
  have ex : x.toNat = x.natAbs := Int.toNat_of_nonneg (Int.le_trans y0 yx) |> fun e => Int.ofNat.inj (e.trans (Int.natAbs_of_nonneg (Int.le_trans y0 yx)).symm)
  have ey : y.toNat = y.natAbs := Int.toNat_of_nonneg y0 |> fun e => Int.ofNat.inj (e.trans (Int.natAbs_of_nonneg y0).symm)
  rw [ex, ey]
  rcases mm_two A B with ⟨e1, e2, _⟩ | ⟨e1, e2, _⟩ <;> rw [e1, e2, Int.toNat_natCast, Int.toNat_natCast]
  · rw [Nat.add_comm]
    exact ls
  · exact ls
theorem mm_xy {A B : Nat} {x y : Int} (ls : A + B < x.natAbs + y.natAbs) (y0 : 0 ≤ y) (yx : y ≤ x) : A + B ≤ (x + y).natAbs := by (first | lia | omega)
theorem fd_mod {x y : Int} (y0 : 0 ≤ y) : 1 * x + -(x.fdiv y) * y = x % y := by
  have em := Int.mul_ediv_add_emod x y
  rw [Int.mul_comm] at em
  rw [Int.fdiv_eq_ediv_of_nonneg _ y0, Int.neg_mul]
  (first | lia | omega)
theorem fd_less {x y : Int} (y1 : 1 ≤ y) (yx : y ≤ x) : (0 * x + 1 * y).natAbs + (1 * x + -(x.fdiv y) * y).natAbs < x.natAbs + y.natAbs := by
  have m0 := Int.emod_nonneg x (b := y) (by (first | lia | omega))
  have m1 := Int.emod_lt_of_pos x (b := y) (by (first | lia | omega))
  rw [fd_mod (by (first | lia | omega))]
  (first | lia | omega)
end Mth

namespace Mth
end Mth

namespace Mth
end Mth

namespace Mth
section
variable {α : Type} {s : α → Bool} {es : List α} {i : Nat} {e : α}
end
end Mth

namespace Mth
section
variable {s s' : Nat → Rat} {i m k k' : Nat} {c : Rat}
end
end Mth

namespace Mth
section
variable {L : Nat → Nat → Prop} {N f : Nat} {t u : Nat → Int}
end
end Mth

namespace Mth
section
variable {t v : Nat → Rat} {B s : Rat} {n i j k l : Nat}
end
end Mth

namespace My
open PySem PySem.Spec PyProof.Rows L2 Mth

theorem mulOk {m n : Nat} {x y : Int} (hx : Sz m x) (hy : Sz n y) (h : autoParam (m + n ≤ 134217728) au1_._auto_1) : IntMulOk x y :=
  IntMulOk.of_le (intBits_le_iff.mpr hx) (intBits_le_iff.mpr hy) h
theorem mulR {x y : Int} (h1 : -(2 ^ 64) < y) (h2 : y < 2 ^ 64) : IntMulOk x y := CMul.ok (.inr ⟨h1, h2⟩)
theorem mulL {x y : Int} (h1 : -(2 ^ 64) < x) (h2 : x < 2 ^ 64) : IntMulOk x y := CMul.ok (.inl ⟨h1, h2⟩)
noncomputable def CDivB (_ j : Int) : Prop := j ≠ 0 ∧ j.natAbs.log2 < 9000

section
variable {X : Cx}
theorem op_mulB : OpR X (binaryOp .Mult) (rI IntMulOk fun i j => .int (i * j)) := opI fun _ _ _ _ _ _ _ hc q => mul_int q hc
theorem op_fdivB : OpR X (binaryOp .FloorDiv) (rI CDivB fun i j => .int (i.fdiv j)) := opI fun _ _ _ _ _ _ _ hc q => floordiv_int hc.1 q (.inl (PyProof.noPylong_of_log2 hc.2))
end

mutual
inductive Den (H : Hp) : V → PyData → Prop where
  | non : Den H .non .none
  | bl (b : Bool) : Den H (.bl b) (.bool b)
  | int (i : Int) : Den H (.int i) (.int i)
  | str (x : Str) : Den H (.str x) (.str x)
  | tup {a : Addr} {xs : List V} {ds : List PyData} : H a = some (.tup xs) → Dens H xs ds → Den H (.ref a) (.tuple ds)
  | lst {a : Addr} {xs : List V} {ds : List PyData} : H a = some (.lst xs) → Dens H xs ds → Den H (.ref a) (.list ds)
inductive Dens (H : Hp) : List V → List PyData → Prop where
  | nil : Dens H [] []
  | cons {x : V} {xs : List V} {d : PyData} {ds : List PyData} : Den H x d → Dens H xs ds → Dens H (x :: xs) (d :: ds)
end
section
variable {P : Program} {w : World} {H : Hp} {h : Heap}
mutual
theorem Den.reads (ok : HOk P w H h) : ∀ {v : V} {d : PyData}, Den H v d → ∀ {u : Value}, RelV v u → ∃ as, Reads h u d as
  | _, _, .non, u, r => by cases (show u = Value.none from r); exact ⟨_, Reads.none⟩
  | _, _, .bl b, u, r => by cases (show u = Value.bool b from r); exact ⟨_, Reads.bool b⟩
  | _, _, .int i, u, r => by obtain ⟨t, q⟩ := (show ∃ t, u = Value.int i t from r); cases q; exact ⟨_, Reads.int i t⟩
  | _, _, .str x, u, r => by obtain ⟨t, q⟩ := (show ∃ t, u = Value.str x t from r); cases q; exact ⟨_, Reads.str x t⟩
  | _, _, @Den.tup _ a xs ds e dd, u, r => by
    cases (show u = Value.ref a from r)
    obtain ⟨_, its, rv, o, h1, h2, n, h3⟩ := (show ObjOk P w H h a (.tup xs) from ok a _ e)
    obtain ⟨as, q⟩ := Dens.reads ok dd rv
    exact ⟨as, reads_tuple_at h1 h2 h3 (by simpa using q)⟩
  | _, _, @Den.lst _ a xs ds e dd, u, r => by
    cases (show u = Value.ref a from r)
    obtain ⟨_, its, n, rv, h1⟩ := (show ObjOk P w H h a (.lst xs) from ok a _ e)
    obtain ⟨as, q⟩ := Dens.reads ok dd rv
    exact ⟨_, reads_list_at h1 rfl rfl (by simpa using q)⟩
theorem Dens.reads (ok : HOk P w H h) : ∀ {vs : List V} {ds : List PyData}, Dens H vs ds → ∀ {us : List Value}, Vals vs us → ∃ as, ReadsAll h us ds as
  | _, _, .nil, _, .nil => ⟨_, ReadsAll.nil⟩
  | _, _, .cons d dd, _, .cons r rr => by
    obtain ⟨as, q⟩ := Den.reads ok d r
    obtain ⟨bs, p⟩ := Dens.reads ok dd rr
    exact ⟨_, ReadsAll.cons q p⟩
end
end
noncomputable def rEqD : R2 := fun x y H Q => ∃ d e, Den H x d ∧ Den H y e ∧ SeqAt.shaped d = true ∧ SeqAt.shaped e = true ∧ Q (.bl (PyData.eqv d e)) H
noncomputable def rNeD : R2 := fun x y H Q => ∃ d e, Den H x d ∧ Den H y e ∧ SeqAt.shaped d = true ∧ SeqAt.shaped e = true ∧ Q (.bl (!PyData.eqv d e)) H
section
variable {X : Cx}
theorem op_eqD (hu : X.A.units + 64 < cLine) : OpR X (compareOp .Eq) rEqD := by
  intro pins s σ H x y v u Q I rx ry h
  obtain ⟨d, e, hd, he, s1, s2, q⟩ := h
  obtain ⟨as, r1⟩ := hd.reads I.hok rx
  obtain ⟨bs, r2⟩ := he.reads I.hok ry
  exact eq_dataH r1 r2 s1 s2 hu ⟨.bl _, H, I, rfl, q⟩
theorem op_neD (hu : X.A.units + 64 < cLine) : OpR X (compareOp .NotEq) rNeD := by
  intro pins s σ H x y v u Q I rx ry h
  obtain ⟨d, e, hd, he, s1, s2, q⟩ := h
  obtain ⟨as, r1⟩ := hd.reads I.hok rx
  obtain ⟨bs, r2⟩ := he.reads I.hok ry
  exact ne_dataH r1 r2 s1 s2 hu ⟨.bl _, H, I, rfl, q⟩
noncomputable def rIsi (K : PySem.W.Frag) : List V → Hp → VK → Prop := fun xs H Q => ∃ x n t b, xs = [x, .ty n] ∧ TyOf K H x t ∧ PySem.W.kitOne K t (.type n) = some b ∧ Q (.bl b) H
theorem call_isi : CallR X (.builtin "isinstance") (rIsi X.K) := by
  intro pins s σ H xs us Q I r h
  obtain ⟨x, n, t, b, rfl, ty, e, q⟩ := h
  obtain ⟨u, u2, rfl, rx, rn⟩ := vals2 r
  cases (show u2 = Value.type n from rn)
  exact isinst_ok I rx ty e fun tk => ⟨.bl b, H, I.tok tk, rfl, q⟩
end
section
variable {K : PySem.W.Frag}
theorem kit_tt : PySem.W.kitOne K (.type "tuple") (.type "tuple") = some true := by rfl
theorem kit_ii : PySem.W.kitOne K (.type "int") (.type "int") = some true := by rfl
theorem kit_ib : PySem.W.kitOne K (.type "int") (.type "bool") = some false := by rfl
end

section
variable {es : List Expr} {env : Env} {pos : Pos}
theorem any0 : (backTo pos (starEach [] env)).any (·.1) = false := by rfl
theorem anyc {e : Expr} (h : starEach (e :: es) env = (false, eval e env) :: starEach es env) (k : (backTo pos (starEach es env)).any (·.1) = false) : (backTo pos (starEach (e :: es) env)).any (·.1) = false := by
  rw [h]
  exact k
theorem st_C {c : Const} {k : Nat} : starEach (.Constant c k pos :: es) env = (false, eval (.Constant c k pos) env) :: starEach es env := by rfl
theorem st_N {x : Str} : starEach (.Name x pos :: es) env = (false, eval (.Name x pos) env) :: starEach es env := by rfl
theorem st_B {a b : Expr} {op : Operator} : starEach (.BinOp a op b pos :: es) env = (false, eval (.BinOp a op b pos) env) :: starEach es env := by rfl
theorem st_S {a b : Expr} : starEach (.Subscript a b pos :: es) env = (false, eval (.Subscript a b pos) env) :: starEach es env := by rfl
theorem st_K {f : Expr} {as : List Expr} {kw : List Keyword} : starEach (.Call f as kw pos :: es) env = (false, eval (.Call f as kw pos) env) :: starEach es env := by rfl
theorem st_T {as : List Expr} {k : Nat} : starEach (.Tuple as k pos :: es) env = (false, eval (.Tuple as k pos) env) :: starEach es env := by rfl
theorem st_L {as : List Expr} : starEach (.List as pos :: es) env = (false, eval (.List as pos) env) :: starEach es env := by rfl
theorem st_U {a : Expr} {op : UnaryOp} : starEach (.UnaryOp op a pos :: es) env = (false, eval (.UnaryOp op a pos) env) :: starEach es env := by rfl
theorem st_G {e : Expr} {gs : List Comprehension} {sc : Scope} : starEach (.ListComp e gs sc pos :: es) env = (false, eval (.ListComp e gs sc pos) env) :: starEach es env := by rfl
end

section
variable {tg : Option Expr} {l : Nat} {env : Env} {pos : Pos}
theorem sw_C {c : Const} {k : Nat} : swapsWith (.Constant c k pos) tg l env = pure false := by rfl
theorem sw_N {x : Str} : swapsWith (.Name x pos) tg l env = pure false := by rfl
theorem sw_B {a b : Expr} {op : Operator} : swapsWith (.BinOp a op b pos) tg l env = pure false := by rfl
theorem sw_S {a b : Expr} : swapsWith (.Subscript a b pos) tg l env = pure false := by rfl
theorem sw_K {f : Expr} {as : List Expr} {kw : List Keyword} : swapsWith (.Call f as kw pos) tg l env = pure false := by rfl
theorem sw_T {as : List Expr} {k : Nat} : swapsWith (.Tuple as k pos) tg l env = pure false := by rfl
theorem sw_L {as : List Expr} : swapsWith (.List as pos) tg l env = pure false := by rfl
theorem sw_I {a b c : Expr} : swapsWith (.IfExp a b c pos) tg l env = pure false := by rfl
end
structure Dn (P : Program) (w : World) (K : PySem.W.Frag) (mg : Str → Option Value) (base : Heap) (k : Nat) (x : Str) (ps : List Str) (sp : Sp) : Prop where
  ex : ∃ (f : Addr) (fd : FuncData), FnOk P w K mg base CX0 k f fd ps sp ∧ mg x = some (.ref f) ∧ PySem.W.keepIn K (.ref f) = true ∧ Binds K fd ps []
section
variable {X : Cx} {k : Nat} {x : Str} {ps : List Str} {sp : Sp} {p pos : Pos} {e : Expr} {es : List Expr} {t : TA}
theorem pe_dn (D : Dn X.prog X.w X.K X.mg X.base k x ps sp) (hr : Room k X.A) (hg : Gl X x) (ha : PA X (e :: es) t) (hdb : autoParam ((x == ("__debug__" : Str)) = false) au1_._auto_1)
    (he : autoParam (starEach (e :: es) X.env = (false, eval e X.env) :: starEach es X.env) au0_._auto_1) (hpl : autoParam ((backTo pos (starEach es X.env)).any (·.1) = false) au0_._auto_1) : PE X (.Call (.Name x p) (e :: es) [] pos) (tCall sp [] E0 t) := by
  obtain ⟨f, fd, ok, hm, hk, hb⟩ := D.ex
  exact pe_call ok hr hg hm hk hb .nil pass0 ha hdb he hpl
end
theorem dn_mk {P : Program} {w : World} {K : PySem.W.Frag} {mg : Str → Option Value} {base : Heap} {k : Nat} {x qual : Str} {ps : List Str} {sp : Sp} {st : Stmt} {f : Addr} {fd : FuncData} (F : Fun K x qual st f fd) (ok : FnOk P w K mg base CX0 k f fd ps sp)
    (hm : mg x = some (.ref f)) (hb : Binds K fd ps []) : Dn P w K mg base k x ps sp := ⟨f, fd, ok, hm, F.kp, hb⟩

section
variable {σ : L2.St} {H : Hp} {Q : VK} {D : Ends} {te ta tb : TE} {t u : TS} {c : TT} {B : Bool → Hp → Prop} {i : Nat} {v : V} {m n : Int} {K : PySem.W.Frag}
theorem r_seq (h : t { D with nx := u D } σ H) : tSeq t u D σ H := h
theorem r_set (h : te σ H fun x H1 => D.nx (σ.set i (some x)) H1) : tAsg te (gName i) D σ H := h
theorem r_ret (h : te σ H D.rt) : tRet te D σ H := h
theorem r_drop (h : te σ H fun _ H1 => D.nx σ H1) : tDrop te D σ H := h
theorem r_if (h : c σ H fun b H1 => if b = true then t D σ H1 else u D σ H1) : tIfS c t u D σ H := h
theorem r_next (h : D.nx σ H) : tNext D σ H := h
theorem r_var (e : σ[i]? = some (some v)) (q : Q v H) : tVar i σ H Q := ⟨v, e, q⟩
theorem r_c (q : Q v H) : tC v σ H Q := q
theorem r_op {r : R2} (h : ta σ H fun x H1 => tb σ H1 fun y H2 => r x y H2 Q) : tOp r ta tb σ H Q := h
theorem r_un {r : V → Hp → VK → Prop} (h : ta σ H fun x H1 => r x H1 Q) : tUn r ta σ H Q := h
theorem r_I0 {g : Int → Int → V} (q : Q (g m n) H) : rI0 g (.int m) (.int n) H Q := ⟨m, n, rfl, rfl, q⟩
theorem r_I {C : Int → Int → Prop} {g : Int → Int → V} (hc : C m n) (q : Q (g m n) H) : rI C g (.int m) (.int n) H Q := ⟨m, n, rfl, rfl, hc, q⟩
theorem r_U {g : Int → V} (q : Q (g m) H) : rU g (.int m) H Q := ⟨m, rfl, q⟩
theorem r_test (h : te σ H fun x H' => ∃ k, x = .bl k ∧ B k H') : tTest te σ H B := h
theorem r_B (h : te σ H fun x H' => ∃ k, x = .bl k ∧ B k H') : tB te σ H B := h
theorem r_bl {b : Bool} {R : Bool → Prop} (h : R b) : ∃ k, V.bl b = .bl k ∧ R k := ⟨b, rfl, h⟩
theorem r_cb {r : List V → Hp → VK → Prop} {ts : TA} (h : ts σ H fun vs H1 => r vs H1 Q) : tCB r ts σ H Q := h
theorem r_cons {ts : TA} {R : List V → Hp → Prop} (h : te σ H fun x H1 => ts σ H1 fun xs H2 => R (x :: xs) H2) : tCons te ts σ H R := h
theorem r_nil {R : List V → Hp → Prop} (h : R [] H) : tNil σ H R := h
noncomputable def Nw (mk : List V → HO) (xs : List V) (H : Hp) (Q : VK) : Prop := xs.length ≤ sizeLine ∧ ∀ p, H p = none → Q (.ref p) (upd H p (mk xs))
theorem r_tup {ts : TA} (h : ts σ H fun xs H1 => Nw .tup xs H1 Q) : tTup ts σ H Q := h
theorem r_lst {ts : TA} (h : ts σ H fun xs H1 => Nw .lst xs H1 Q) : tLst ts σ H Q := h
theorem r_call {sp : Sp} {ts : TA} (h : ts σ H fun vs H1 => sp (vs ++ []) H1 Q E0) : tCall sp [] E0 ts σ H Q := h
theorem r_par {a b : Nat} {ts : TA} (h : ts σ H fun vs H1 => ∃ v w, vs = [v, w] ∧ D.nx ((σ.set a (some v)).set b (some w)) H1) : tPar a b ts D σ H := h
theorem r_not (h : c σ H fun b H1 => B (!b) H1) : tNot c σ H B := h
theorem r_and {d : TT} (h : c σ H fun b H1 => if b = true then d σ H1 B else B false H1) : tAnd c d σ H B := h
theorem r_or {d : TT} (h : c σ H fun b H1 => if b = true then B true H1 else d σ H1 B) : tOr c d σ H B := h
theorem r_andV (h : ta σ H fun x H1 => ∃ k, x = .bl k ∧ if k = true then tb σ H1 Q else Q (.bl false) H1) : tAndV ta tb σ H Q := h
theorem r_orV (h : ta σ H fun x H1 => ∃ k, x = .bl k ∧ if k = true then Q (.bl true) H1 else tb σ H1 Q) : tOrV ta tb σ H Q := h
theorem r_ife (h : c σ H fun b H1 => if b = true then ta σ H1 Q else tb σ H1 Q) : tIf c ta tb σ H Q := h
theorem r_eq (hs : scal (.int m) (.int n) = true) (q : Q (.bl (decide (m = n))) H) : rEq (.int m) (.int n) H Q := ⟨hs, by
  have e : decide (V.int m = V.int n) = decide (m = n) := by simp
  rw [e]; exact q⟩
theorem r_ne (hs : scal (.int m) (.int n) = true) (q : Q (.bl (!decide (m = n))) H) : rNe (.int m) (.int n) H Q := ⟨hs, by
  have e : decide (V.int m = V.int n) = decide (m = n) := by simp
  rw [e]; exact q⟩
theorem at0 {x : V} {xs : List V} : atI (x :: xs) 0 = some x := atI_nat (j := 0) rfl
theorem at1 {x y : V} {xs : List V} : atI (x :: y :: xs) 1 = some y := atI_nat (j := 1) rfl
theorem at2 {x y z : V} {xs : List V} : atI (x :: y :: z :: xs) 2 = some z := atI_nat (j := 2) rfl
theorem r_t0 {p : Addr} {x : V} {xs : List V} (h : H p = some (.tup (x :: xs))) (q : Q x H) : rIxT K (.ref p) (.int 0) H Q := ⟨p, _, 0, x, rfl, rfl, SqT.of h, at0, q⟩
theorem r_t1 {p : Addr} {x y : V} {xs : List V} (h : H p = some (.tup (x :: y :: xs))) (q : Q y H) : rIxT K (.ref p) (.int 1) H Q := ⟨p, _, 1, y, rfl, rfl, SqT.of h, at1, q⟩
theorem r_t2 {p : Addr} {x y z : V} {xs : List V} (h : H p = some (.tup (x :: y :: z :: xs))) (q : Q z H) : rIxT K (.ref p) (.int 2) H Q := ⟨p, _, 2, z, rfl, rfl, SqT.of h, at2, q⟩
noncomputable def rLen (K : PySem.W.Frag) : List V → Hp → VK → Prop := fun xs H Q => ∃ p ys, xs = [.ref p] ∧ (SqL K H p ys ∨ SqT K H p ys) ∧ Q (.int ys.length) H
theorem r_len {p : Addr} {ys : List V} (h : SqL K H p ys ∨ SqT K H p ys) (q : Q (.int ys.length) H) : rLen K [.ref p] H Q := ⟨p, ys, rfl, h, q⟩
noncomputable def rAbs : List V → Hp → VK → Prop := fun xs H Q => ∃ i, xs = [.int i] ∧ Q (.int (if i < 0 then -i else i)) H
theorem r_absC (q : Q (.int (if m < 0 then -m else m)) H) : rAbs [.int m] H Q := ⟨m, rfl, q⟩
section
variable {X : Cx} (K : PySem.W.Frag)
theorem ixL (h : autoParam (X.K = K) au0_._auto_1) : IxR X (rIxL K) := h ▸ ix_list
theorem ixT (h : autoParam (X.K = K) au0_._auto_1) : IxR X (rIxT K) := h ▸ ix_tup
theorem slL (h : autoParam (X.K = K) au0_._auto_1) : SlR X (rSlL K) := h ▸ sl_list
theorem lenC (h : autoParam (X.K = K) au0_._auto_1) : CallR X (.builtin "len") (rLen K) := h ▸ call_len_seq
theorem isiC (h : autoParam (X.K = K) au0_._auto_1) : CallR X (.builtin "isinstance") (rIsi K) := h ▸ call_isi
theorem pe_ty {X : Cx} {x : Str} {n : String} {pos : Pos} (hg : Gl X x) (hm : X.mg x = none) (hv : bootBuiltins x = some (.type n)) (hn : autoParam (x ≠ "__name__") au1_._auto_1) (hd : autoParam ((x == ("__debug__" : Str)) = false) au1_._auto_1) : PE X (.Name x pos) (tC (.ty n)) :=
  pe_bltn hg hm hv (show RelV (.ty n) (.type n) from rfl) hn hd
theorem absC : CallR X (.builtin "abs") rAbs := call_abs
theorem piL {tg l : Expr} {tl : TE} (hl : PE X l tl) (h : autoParam (X.K = K) au0_._auto_1) : PI X tg l (iList K tl) := h ▸ pi_list hl
theorem piT {tg l : Expr} {tl : TE} (hl : PE X l tl) (h : autoParam (X.K = K) au0_._auto_1) : PI X tg l (iTup K tl) := h ▸ pi_tup hl
theorem pgT {es : List Expr} {k : Nat} {t : TGs} {n : Nat} {pos : Pos} (hc : X.calm = true) (g : PGs X es t)
    (hn : autoParam ((assignEach es X.env).length = n) au0_._auto_1) (hst : autoParam ((assignEach es X.env).findIdx? (·.1) = none) au0_._auto_1) (h : autoParam (X.K = K) au0_._auto_1) : PG X (.Tuple es k pos) (gTup K n t) := h ▸ pg_tup hc g hn hst
theorem appC {o e : Expr} {to te : TE} {apos cpos : Pos} (ho : PE X o to) (he : PE X e te) (h : autoParam (X.K = K) au0_._auto_1)
    (hbase : autoParam (attributeBase o "append" X.env (eval o X.env) = eval o X.env) au0_._auto_1)
    (hfew : autoParam (((backTo cpos (starEach (e :: []) X.env)).all (fun x => !x.1) && (backToKw cpos (keywordEach [] X.env)).all (fun x => x.1.isSome)
      && decide ((e :: ([] : List Expr)).length + ([] : List Keyword).length + (if ([] : List Keyword).isEmpty then 0 else 1) < 30)) = true) au0_._auto_1)
    (hline : autoParam ((apos.endLine == cpos.line) = true) au0_._auto_1) (hs : autoParam (starEach (e :: []) X.env = (false, eval e X.env) :: starEach [] X.env) au0_._auto_1) (hplain : autoParam ((backTo cpos (starEach [] X.env)).any (·.1) = false) au0_._auto_1) :
    PE X (.Call (.Attribute o "append" apos) [e] [] cpos) (tBM K "list" rAppend to (tCons te tNil)) :=
  h ▸ pe_bm PySem.F.plainAttrs_list PySem.F.slot_list_append PySem.F.type_list_append mt_append ho (pa_cons he pa_nil hs) hbase hfew hline hs hplain
end
theorem same_new {p : Addr} (h : H p = none) (o : HO) : Same H (upd H p o) := fun b u q => by rw [upd_ne (ne_of_none q h)]; exact q
theorem r_new {xs : List V} {mk : List V → HO} (hl : xs.length ≤ 1000) (h : ∀ p H1, Same H H1 → H p = none → H1 p = some (mk xs) → Q (.ref p) H1) : Nw mk xs H Q :=
  ⟨Nat.le_of_lt (small1000 hl), fun p hp => h p _ (same_new hp _) hp upd_same⟩
theorem r_g {R : L2.St → Hp → Prop} (h : R (σ.set i (some v)) H) : gName i v σ H R := h
theorem r_l {p : Addr} {xs : List V} {j : Int} (h : H p = some (.lst xs)) (e : atI xs j = some v) (q : Q v H) : rIxL K (.ref p) (.int j) H Q := ⟨p, _, j, v, rfl, rfl, SqL.of h, e, q⟩
theorem r_bm {T : String} {r : V → List V → Hp → VK → Prop} {ts : TA} (h : te σ H fun x H1 => tyV K T x H1 ∧ ts σ H1 fun xs H2 => r x xs H2 Q) : tBM K T r te ts σ H Q := h
theorem r_app {p : Addr} {xs : List V} (h : H p = some (.lst xs)) (hl : xs.length < sizeLine) (q : Q .non (upd H p (.lst (xs ++ [v])))) : rAppend (.ref p) [v] H Q := ⟨p, xs, v, rfl, rfl, h, hl, q⟩
theorem same_at {H1 H2 : Hp} {p : Addr} {o : HO} (s : Same H1 H2) (n : H1 p = none) : Same H1 (upd H2 p o) := fun b x e => by rw [upd_ne (ne_of_none e n)]; exact s b x e
theorem at_ints {xs : List Int} {j : Nat} {x k : Int} (h : xs[j]? = some x) (hk : k = (j : Int)) : atI (xs.map V.int) k = some (.int x) := by
  subst hk
  exact atI_nat (by rw [List.getElem?_map, h]; rfl)
theorem r_two {R : V → V → Prop} {x y : V} (h : R x y) : ∃ v w, [x, y] = [v, w] ∧ R v w := ⟨x, y, rfl, h⟩
theorem r_for {wi : TI} {g : TG} {tb : TS} (h : wi σ H fun J H1 => ∃ W : Nat → Nat → L2.St → Hp → Prop, (∃ m, W 0 m σ H1) ∧ ∀ i m σ H, W i m σ H →
  (J.stop i H ∧ D.nx σ H) ∨ (J.go i H ∧ ∃ N : L2.St → Hp → Prop, (∀ σ' H', N σ' H' → ∃ m', m' < m ∧ W (i + 1) m' σ' H') ∧ ∀ x H', J.yld i H x H' → g x σ H' fun σ2 H2 => tb { D with nx := N, ct := N, bk := D.nx } σ2 H2)) : tFor wi g tb D σ H := h
theorem r_iL {R : It → Hp → Prop} (h : te σ H fun x H1 => ∃ a, x = .ref a ∧ (∃ xs, SqL K H1 a xs) ∧ R (Itl K a) H1) : iList K te σ H R := h
theorem r_isi {x : V} {ty : String} {tv : Value} {b : Bool} (h : TyOf K H x tv) (e : PySem.W.kitOne K tv (.type ty) = some b) (q : Q (.bl b) H) : rIsi K [x, .ty ty] H Q := ⟨x, ty, tv, b, rfl, h, e, q⟩
end
end My

namespace My
open PySem PySem.Spec PyProof.Rows L2 Mth
section
variable {prog : Program} {w : World} {A : Around} {E : Value → Shared → Prop} {s : Shared}
end
section
variable {X : Cx} {pos : Pos}
end
section
variable {σ : L2.St} {H : Hp} {Q : VK} {a b : Bool} {K : PySem.W.Frag}
end
end My

namespace My
open PySem PySem.Spec PyProof.Rows L2 Mth
noncomputable def cxComp (X : Cx) (N' : List Str) (scope : Scope) (cl : List (Str × Addr)) (C : Addr) (s0 : Shared) (H0 : Hp) (ex' : List Addr) (pn' : List (Addr × Obj)) : Cx :=
  { X with N := N', s₀ := s0, H₀ := H0, env := compEnvC scope cl C X.env, outer := X.stack, ex := ex', fn := fun _ => false, pn := pn', xe := fun _ _ => False }
noncomputable def capV (cap : List Nat) (σ : L2.St) : L2.St := cap.map fun j => (σ[j]?).getD none
theorem un_but {fs ex : List Addr} {H H' : Hp} {h h1 h2 : Heap} (u : Un fs ex H H' h h1) (k : ∀ b, b < h.objs.size → h2.get? b = h1.get? b) : Un fs ex H H' h h2 :=
  ⟨fun b o e n hb hx => (k b (Heap.lt_size e)).trans (u.keep b o e n hb hx), fun b o e n hb hx => let ⟨sl, q⟩ := u.slot b o e n hb hx; ⟨sl, (k b (Heap.lt_size e)).trans q⟩, u.free,
    fun b o e hx => let ⟨o', q⟩ := u.there b o e hx; ⟨o', (k b (Heap.lt_size e)).trans q⟩, u.tups, u.frzs, u.tbls⟩
theorem hok_but {P : Program} {w : World} {H : Hp} {h h' : Heap} {C : Addr} (x : HOk P w H h) (n : H C = none) (k : ∀ b o, b ≠ C → h.get? b = some o → h'.get? b = some o) : HOk P w H h' := fun b u e =>
  (x b u e).stay (fun c v hc q => k c v (by
    rcases hc with z | z
    · rw [z]; exact ne_of_none e n
    · exact ne_of_none z n) q) (fun _ q => q) fun _ _ q => q
theorem compLoop_gen {prog : Program} {w : World} {A : Around} {R : Result → Shared → Prop} {s : Shared} {elt iter tg : Expr} {ifs : List Expr} {scope : Scope} {pos : Pos} {it acc : Value} {env : Env} (I : Nat → Shared → Prop)
    (turn : ∀ n s, I n s → wpAny (model prog w) A (pyNext it) (fun r s₁ => match r with
      | none => R (.ok .next) s₁
      | some v => wpAny (model prog w) A (letOwnedTupleGo tg it v) (fun _ s₁' => wpAny (model prog w) A (assign tg env v) (fun _ s₂ =>
          wpAny (model prog w) A (forIn ifs true fun c r => if r = true then do let ok ← isTrue c env (eval c env); pure (ForInStep.yield ok) else pure (ForInStep.yield r)) (fun ok s₃ =>
            if ok = true then wpAny (model prog w) A (eval elt env) (fun x s₄ =>
              wpAny (model prog w) A (call (.builtin "list.append") [acc, x]) (fun _ s₅ => ∃ m, m < n ∧ I m s₅) (notedBy (model prog w) A env fun e s' => R (.error e) s') s₄) (notedBy (model prog w) A env fun e s' => R (.error e) s') s₃
            else ∃ m, m < n ∧ I m s₃) (notedBy (model prog w) A env fun e s' => R (.error e) s') s₂) (notedBy (model prog w) A env fun e s' => R (.error e) s') s₁') (notedBy (model prog w) A env fun e s' => R (.error e) s') s₁) (notedBy (model prog w) A env fun e s' => R (.error e) s') s)
    (n : Nat) (h : I n s) : codeAny (model prog w) A (.compLoop (.ListComp elt [⟨tg, iter, ifs, 0⟩] scope pos) 0 it acc env) R s := by
  refine codeAny_loop rfl I (fun n s hI => ?_) n h
  show wpAny _ A ((compTurn (.ListComp elt [⟨tg, iter, ifs, 0⟩] scope pos) 0 it acc env).onRaise (fun x => do noteFrame x env; theTreesLotGoes x)) _ _ s
  refine wpAny_noted ?_
  rw [compTurn_list]
  refine wpAny_bind (wpAny_standAt (wpAny_bind (wpAny_mono (turn n s hI) (fun r s₁ h₁ => ?_) fun _ _ h' => h')))
  cases r with
  | none => exact wpAny_pure h₁
  | some v =>
    refine wpAny_bind (wpAny_mono h₁ (fun _ s₂ h₂ => wpAny_bind (wpAny_mono h₂ (fun _ s₃ h₃ => wpAny_bind (wpAny_mono h₃ (fun ok s₄ h₄ => ?_) fun _ _ h' => h')) fun _ _ h' => h')) fun _ _ h' => h')
    cases ok with
    | false => exact wpAny_pure ⟨rfl, h₄⟩
    | true =>
      exact wpAny_bind (wpAny_bind (wpAny_mono h₄ (fun x s₄ h₄ => wpAny_bind (wpAny_mono h₄ (fun _ s₅ h₅ => wpAny_pure (wpAny_pure ⟨rfl, h₅⟩)) fun _ _ h' => h')) fun _ _ h' => h'))
noncomputable def PTs (X : Cx) (ifs : List Expr) (t : TT) : Prop :=
  ∀ (pins : List (Addr × Obj)) (s : Shared) (σ : L2.St) (H : Hp) (Q : Bool → Hp → Prop), Inv X pins σ H s → t σ H Q →
    wpAny (model X.prog X.w) X.A (forIn ifs true fun c r => if r = true then do let ok ← isTrue c X.env (eval c X.env); pure (ForInStep.yield ok) else pure (ForInStep.yield r)) (TP X pins σ Q) X.xe s
noncomputable def tYes : TT := fun _ H B => B true H
theorem pts_nil {X : Cx} : PTs X [] tYes := fun _ _ _ H _ I h => wpAny_tests_nil ⟨H, I, h⟩
noncomputable def CapOk (X : Cx) (scope : Scope) (cl : List (Str × Addr)) : List Str → List Nat → Prop
  | [], [] => True
  | y :: ys, j :: js => (X.N[j]? = some y ∧ X.env.kindOf y = some .cell ∧ (relabel scope X.env).names.lookup y = some .cell ∧ cl.lookup y = X.env.cells.lookup y) ∧ CapOk X scope cl ys js
  | _, _ => False
theorem CapOk.len {X : Cx} {scope : Scope} {cl : List (Str × Addr)} : ∀ {ys : List Str} {js : List Nat}, CapOk X scope cl ys js → ys.length = js.length
  | [], [], _ => rfl
  | _ :: _, _ :: _, h => congrArg (· + 1) h.2.len
theorem CapOk.at {X : Cx} {scope : Scope} {cl : List (Str × Addr)} : ∀ {ys : List Str} {js : List Nat}, CapOk X scope cl ys js → ∀ (i j : Nat) (y : Str), ys[i]? = some y → js[i]? = some j →
    X.N[j]? = some y ∧ X.env.kindOf y = some .cell ∧ (relabel scope X.env).names.lookup y = some .cell ∧ cl.lookup y = X.env.cells.lookup y
  | [], [], _, i, _, _, e, _ => by simp at e
  | _ :: _, _ :: _, h, 0, j, y, e1, e2 => by
    simp at e1 e2
    subst e1 e2
    exact h.1
  | _ :: _, _ :: _, h, i + 1, j, y, e1, e2 => h.2.at i j y (by simpa using e1) (by simpa using e2)
noncomputable def tComp (wi : TI) (n : Nat) (cap : List Nat) (g : TG) (tt : TT) (te : TE) : TE := fun σ H Q => wi σ H fun J H1 => ∀ D, H1 D = none → ∃ W : Nat → Nat → List V → Hp → Prop, (∃ m, W 0 m [] (upd H1 D (.lst []))) ∧
  ∀ i m xs H2, W i m xs H2 → H2 D = some (.lst xs) ∧ ((J.stop i H2 ∧ Q (.ref D) H2) ∨ (J.go i H2 ∧ xs.length < sizeLine ∧ ∀ x H3 σ0, σ0.length = n → J.yld i H2 x H3 →
    g x (σ0 ++ capV cap σ) H3 fun σ2 H4 => (∃ σ1, σ1.length = n ∧ σ2 = σ1 ++ capV cap σ) ∧ tt σ2 H4 fun b H5 => if b = true then te σ2 H5 fun y H6 => H6 D = some (.lst xs) ∧ ∃ m', m' < m ∧ W (i + 1) m' (xs ++ [y]) (upd H6 D (.lst (xs ++ [y])))
      else ∃ m', m' < m ∧ W (i + 1) m' xs H5))
section
variable {X : Cx} {elt iter tg : Expr} {ifs : List Expr} {pos : Pos} {scope : Scope} {cl : List (Str × Addr)} {wi : TI} {te : TE} {tt : TT} {g : TG} {O N' : List Str} {cap : List Nat} {n : Nat}
theorem inv_but {pins : List (Addr × Obj)} {σ : L2.St} {H : Hp} {s : Shared} {C : Addr} {h' : Heap} (I : L2.Inv X pins σ H s) (hC : FpOk X pins H C) (sb : Heap.SameBut C s.heap h') : L2.Inv X pins σ H { s with heap := h' } := by
  have k : ∀ b o, s.heap.get? b = some o → b ∉ [C] → h'.get? b = some o := fun b o e hb => (sb.2 b (fun z => hb (by rw [z]; exact List.mem_singleton.mpr rfl))).trans e
  refine I.call' (s' := { s with heap := h' }) (ch := [C]) rfl ⟨fun b o e _ _ hb => k b o e hb, fun b o e _ _ hb => ⟨o.slots, k b o e hb⟩, fun b o _ n _ => n, fun b o e hb => ⟨o, k b o e hb⟩, fun _ _ q => q, fun _ _ _ q => q, fun _ ps q => ⟨#[], by simpa using q⟩⟩
    (hok_but I.hok hC.1 fun b o hb e => (sb.2 b hb).trans e) I.bare fun b hb => ?_
  obtain rfl : b = C := List.mem_singleton.mp hb
  exact ⟨hC.2.2.2.1, hC.2.1, hC.2.2.2.2.1, hC.2.2.2.2.2⟩
theorem comp_gen {pins : List (Addr × Obj)} {s : Shared} {σ : L2.St} {H : Hp} {Q : VK} {cpos : Pos} (use : Option (Value → Sem Unit)) (Q' : Value → Shared → Prop) (hc : X.calm = true) (hi : PI X tg iter wi)
    (hg : ∀ (C : Addr) (s0 : Shared) (H0 : Hp) (ex' : List Addr) (pn' : List (Addr × Obj)), PG (cxComp X (O ++ N') scope cl C s0 H0 ex' pn') tg g)
    (htt : ∀ (C : Addr) (s0 : Shared) (H0 : Hp) (ex' : List Addr) (pn' : List (Addr × Obj)), PTs (cxComp X (O ++ N') scope cl C s0 H0 ex' pn') ifs tt)
    (helt : ∀ (C : Addr) (s0 : Shared) (H0 : Hp) (ex' : List Addr) (pn' : List (Addr × Obj)), PE (cxComp X (O ++ N') scope cl C s0 H0 ex' pn') elt te)
    (hO : O.length = n) (hcap : CapOk X scope cl N' cap)
    (hclos : closureFor scope X.env = pure cl) (hcell : ∀ y ∈ scope.names, y.2 ≠ .cell) (hkind : scope.kind = .function) (hnames : ∀ y ∈ scope.names, y.2 = .local → scope.names.lookup y.1 = some .local)
    (hclx : ∀ y c, cl.lookup y = some c → X.env.cells.lookup y = some c) (hhas : ∀ y, ((relabel scope X.env).names.lookup y = some .cell ∨ (relabel scope X.env).names.lookup y = some .free) → ∃ c, cl.lookup y = some c)
    (hs : ∀ z, foldedSetIterable iter X.env z = pure z)
    (I : L2.Inv X pins σ H s) (h : tComp wi n cap g tt te σ H Q)
    (fin : ∀ (D : Addr) (H5 : Hp) (s6 : Shared) (C : Addr), L2.Inv X pins σ H5 s6 → FpOk X pins H5 C → (∃ m, s6.heap.Ns C m) → Q (.ref D) H5 → compPost (model X.prog X.w) X.A X.xe use Q' (.ref D) C (.ok .next) s6) :
    wpAny (model X.prog X.w) X.A (comprehension (.ListComp elt [⟨tg, iter, ifs, 0⟩] scope pos) scope X.env cpos (newList []) false (eval iter X.env) use) Q' X.xe s := by
  refine wpAny_comprehension_free (use := use) rfl hs hclos hkind hnames (thn (hi pins s σ H _ I h) fun v s1 h1 => thn h1 fun itv s2 h2 => ?_)
  obtain ⟨it, fp, tn, J, H2, e, I2, T, st2, f2, q2⟩ := h2
  subst e
  refine wpAny_newObj_type (wpAny_newFunctionEnv hcell (by intro y hy; simp at hy) (fun h₁ hns₁ hsb₁ => ?_) hkind)
  dsimp only at hns₁ hsb₁ ⊢
  -- the list, then the block's own names
  have I3 : Inv X pins σ (upd H2 s2.heap.objs.size (.lst [])) { s2 with heap := s2.heap.push { cls := .type "list", data := .seq ([] : List Value).toArray }, toks := s2.toks } := I2.lnew (its := []) (t' := s2.toks) .nil (Nat.zero_le _)
  generalize hH3 : s2.heap.push { cls := .type "list", dict := none, data := .seq ([] : List Value).toArray } = h3 at hns₁ hsb₁ I3 ⊢
  have q3 := q2 s2.heap.objs.size (I2.hok.fresh (Nat.le_refl _))
  generalize hD : s2.heap.objs.size = D at I3 q3 hns₁ hsb₁ ⊢
  obtain ⟨W, ⟨m0, w0⟩, turn⟩ := q3
  have hC : ∀ b o, h3.get? b = some o → b ≠ h3.objs.size := fun b o e => Nat.ne_of_lt (Heap.lt_size e)
  have old : ∀ b o, h3.get? b = some o → h₁.get? b = some o := fun b o e => hsb₁.extBut b o (hC b o e) (Heap.get?_push_of_some _ e)
  have fpThere : ∀ b ∈ fp, ∃ o, h3.get? b = some o := fun b hb => by
    obtain ⟨o, e, _⟩ := T.obj _ _ st2 b hb
    exact ⟨o, by rw [← hH3]; exact Heap.get?_push_of_some _ e⟩
  have fp3 : ∀ b ∈ fp, upd H2 D (.lst []) b = none := fun b hb => by
    have n := (f2 b hb).1
    obtain ⟨o, e, _⟩ := T.obj _ _ st2 b hb
    rw [upd_ne (by rw [← hD]; exact Nat.ne_of_lt (Heap.lt_size e))]
    exact n
  have stk : ∀ b ∈ fp, b ∉ frs X.stack := fun b hb z => by
    rcases List.mem_cons.mp (I3.stkSub b z) with e | e
    · exact (f2 b hb).2.1 e
    · exact (f2 b hb).2.2.1 e
  have ok : (cxComp X (O ++ N') scope cl h3.objs.size { s2 with heap := h3, toks := s2.toks } (upd H2 D (.lst [])) fp (X.pn ++ pins)).Ok :=
    ⟨I.ok.mod, hkind, I.ok.glob, I.ok.blt, Nat.le_refl _, fun y z c a b => I.ok.inj y z c (hclx y c a) (hclx z c b), hhas, fun _ _ z => absurd z Bool.false_ne_true, I.ok.hd, I.ok.frames, .inl rfl,
      fun b hb => ⟨by obtain ⟨o, e⟩ := fpThere b hb; exact hC b o e, fun y c a => (f2 b hb).2.2.2.2.1 y c (hclx y c a)⟩, I3.bs, Nat.le_trans I3.ok.bsz I3.sz,
      fun b o e hb => by
        rcases (f2 b hb).2.2.2.1 with z | z
        · exact I.ok.noex b o e z
        · exact absurd (Nat.lt_of_lt_of_le (Heap.lt_size (I.ok.bs b o e).1) z) (Nat.lt_irrefl _),
      stk, I3.stack, I3.stkFree⟩
  have I4 : Inv (cxComp X (O ++ N') scope cl h3.objs.size { s2 with heap := h3, toks := s2.toks } (upd H2 D (.lst [])) fp (X.pn ++ pins)) [] (List.replicate n none ++ capV cap σ) (upd H2 D (.lst [])) { s2 with heap := h₁, toks := s2.toks + ([] : List (Str × Value)).length } := by
    refine ⟨ok, rfl, I3.bare, Un.kept old, ⟨_, hns₁, fun i y v e1 e2 e3 => ?_⟩, fun y c a => ?_, I3.hok.fresh (Nat.le_refl _), fun y c a => I3.freeC y c (hclx y c a), fun p hp => ?_, I3.hok.kept old, ?_⟩
    · by_cases hin : i < n
      · rw [List.getElem?_append_left (by rw [List.length_replicate]; exact hin), List.getElem?_replicate, if_pos hin] at e2
        cases e2
      · have e1' : N'[i - n]? = some y := by
          have z : (O ++ N')[i]? = some y := e1
          rw [List.getElem?_append_right (by (first | lia | omega)), hO] at z
          exact z
        have hi' : i - n < cap.length := by rw [← hcap.len]; exact (List.getElem?_eq_some_iff.mp e1').1
        obtain ⟨j, ej⟩ : ∃ j, cap[i - n]? = some j := ⟨_, List.getElem?_eq_getElem hi'⟩
        obtain ⟨a1, a2, a3, a4⟩ := hcap.at (i - n) j y e1' ej
        have e2' : σ[j]? = some (some v) := by
          have z : (capV cap σ)[i - n]? = some (some v) := by
            rw [List.getElem?_append_right (by rw [List.length_replicate]; (first | lia | omega)), List.length_replicate] at e2
            exact e2
          unfold capV at z
          rw [List.getElem?_map, ej] at z
          have z2 : (σ[j]?).getD none = some v := by simpa using z
          cases q : σ[j]? with
          | none => rw [q] at z2; cases z2
          | some o => rw [q] at z2; exact congrArg some z2
        obtain ⟨m, hn, hl⟩ := I3.loc
        obtain ⟨u, r, l⟩ := hl j y v a1 e2' (.inr (.inl a2))
        refine ⟨u, r, .inr ⟨.inl a3, ?_⟩⟩
        rcases l with ⟨k, _⟩ | ⟨_, c, ec, o, ho, hd⟩
        · rw [a2] at k; cases k
        · exact ⟨c, a4.trans ec, o, old c o ho, hd⟩
    · obtain ⟨v, o, ho, hd⟩ := I3.cell y c (hclx y c a)
      exact ⟨v, o, old c o ho, hd⟩
    · have hp' : p ∈ X.pn ++ pins := by simpa [cxComp] using hp
      obtain ⟨e, n, ne, nf, d⟩ := I3.pin p hp'
      refine ⟨old _ _ e, n, hC _ _ e, fun z => ?_, d⟩
      rcases List.mem_cons.mp (I3.stkSub p.1 z) with e | e
      · exact ne e
      · exact nf e
    · show (List.replicate n none ++ capV cap σ).length = (O ++ N').length
      unfold capV
      rw [List.length_append, List.length_append, List.length_replicate, List.length_map, hcap.len, hO]
  have loop : codeAny (model X.prog X.w) X.A (.compLoop (.ListComp elt [⟨tg, iter, ifs, 0⟩] scope pos) 0 (.ref it) (.ref D) (compEnvC scope cl h3.objs.size X.env))
      (compPost (model X.prog X.w) X.A X.xe use Q' (.ref D) h3.objs.size) { s2 with heap := h₁, toks := s2.toks + ([] : List (Str × Value)).length } := by
    have fpk : ∀ {H' : Hp}, (∀ b ∈ fp, H' b = none) → ∀ b ∈ fp, FpOk (cxComp X (O ++ N') scope cl h3.objs.size { s2 with heap := h3, toks := s2.toks } (upd H2 D (.lst [])) fp (X.pn ++ pins)) [] H' b := fun hn b hb => by
      obtain ⟨o, e⟩ := fpThere b hb
      refine ⟨hn b hb, hC b o e, stk b hb, .inl hb, fun y c a => (f2 b hb).2.2.2.2.1 y c (hclx y c a), fun p hp => ?_⟩
      have hp' : p ∈ X.pn ++ pins := by simpa [cxComp] using hp
      exact (f2 b hb).2.2.2.2.2 p hp'
    refine compLoop_gen (fun mm s' => ∃ (i : Nat) (xs : List V) (H' : Hp) (σ0 : L2.St), σ0.length = n ∧ Inv (cxComp X (O ++ N') scope cl h3.objs.size { s2 with heap := h3, toks := s2.toks } (upd H2 D (.lst [])) fp (X.pn ++ pins)) [] (σ0 ++ capV cap σ) H' s' ∧ tn i s'.heap ∧ (∀ b ∈ fp, H' b = none) ∧ W i mm xs H') ?_ m0
      ⟨0, [], _, List.replicate n none, List.length_replicate, I4, T.keep _ _ _ st2 fun b hb o e => old b o (by rw [← hH3]; exact Heap.get?_push_of_some _ e), fp3, w0⟩
    rintro mm s5 ⟨i, xs, H5, σ0, hσ0, I5, st5, fr5, w5⟩
    obtain ⟨e5, tw⟩ := turn i mm xs H5 w5
    rcases tw with ⟨stop, qn⟩ | ⟨go, hz, step⟩
    · refine thn (T.done (cxComp X (O ++ N') scope cl h3.objs.size { s2 with heap := h3, toks := s2.toks } (upd H2 D (.lst [])) fp (X.pn ++ pins)) rfl rfl rfl hc i [] s5 _ H5 _ I5 (fpk fr5) st5 stop) fun r s6 ⟨hr, I6⟩ => ?_
      subst hr
      obtain ⟨m, hn, _⟩ := id I6.loc
      have J6 : L2.Inv X pins σ H5 s6 := I3.call' (s' := s6) (ch := fp) I6.os I6.base I6.hok I6.bare fun b hb => by
        obtain ⟨_, g1, _, g3, g4, g5⟩ := f2 b hb
        exact ⟨g3, g1, g4, g5⟩
      exact fin D H5 s6 _ J6 (I3.fpOk (Nat.le_refl _) I6.free) ⟨m, hn⟩ qn
    · refine thn (T.item (cxComp X (O ++ N') scope cl h3.objs.size { s2 with heap := h3, toks := s2.toks } (upd H2 D (.lst [])) fp (X.pn ++ pins)) rfl rfl rfl hc i [] s5 _ H5 _ I5 (fpk fr5) st5 go) fun r s6 ⟨u, hr, h6⟩ => ?_
      subst hr
      refine thn h6 fun _ s7 ⟨xv, H7, I7, r7, y7, st7, fr7⟩ => ?_
      have I7' := I7.pinned (fpk fr7) (T.obj _ _ st7)
      refine wpAny_mono (hg _ _ _ _ _ _ s7 _ H7 xv u _ I7' r7 (step xv H7 σ0 hσ0 y7)) (fun _ s8 ⟨σ2, H8, I8, ⟨σ1, hσ1, e2⟩, q8⟩ => ?_) fun _ _ z => z.elim
      refine wpAny_mono (htt _ _ _ _ _ _ s8 σ2 H8 _ I8 q8) (fun ok s9 ⟨H9, I9, q9⟩ => ?_) fun _ _ z => z.elim
      subst e2
      have keep : ∀ {s' : Shared} {σ' : L2.St} {H' : Hp}, Inv (cxComp X (O ++ N') scope cl h3.objs.size { s2 with heap := h3, toks := s2.toks } (upd H2 D (.lst [])) fp (X.pn ++ pins)) ([] ++ pinsAt fp s7.heap) σ' H' s' → tn (i + 1) s'.heap ∧ ∀ b ∈ fp, H' b = none := fun {s' σ' H'} J =>
        ⟨T.keep _ _ _ st7 fun b hb o e => (J.pin (b, o) (List.mem_append_right _ (List.mem_append_right _ (mem_pinsAt hb e)))).1, fun b hb => by
          obtain ⟨o, e, d⟩ := T.obj _ _ st7 b hb
          exact (J.pin (b, o) (List.mem_append_right _ (List.mem_append_right _ (mem_pinsAt hb e)))).2.1⟩
      cases ok with
      | false =>
        rw [if_neg Bool.false_ne_true] at q9 ⊢
        obtain ⟨m', hm, w9⟩ := q9
        exact ⟨m', hm, i + 1, xs, H9, σ1, hσ1, I9.unpinned, (keep I9).1, (keep I9).2, w9⟩
      | true =>
        rw [if_pos rfl] at q9 ⊢
        refine wpAny_mono (helt _ _ _ _ _ _ s9 _ H9 _ I9 q9) (fun yv s10 ⟨y, H10, I10, r10, e10, m', hm, w10⟩ => ?_) fun _ _ z => z.elim
        refine wpAny_mono (mt_append (X := cxComp X (O ++ N') scope cl h3.objs.size { s2 with heap := h3, toks := s2.toks } (upd H2 D (.lst [])) fp (X.pn ++ pins)) _ s10 _ H10 (.ref D) [y] (.ref D) [yv] (fun _ H' => H' = upd H10 D (.lst (xs ++ [y]))) I10 rfl (.cons r10 .nil) ⟨D, xs, y, rfl, rfl, e10, hz, rfl⟩) (fun _ s11 ⟨_, H11, I11, _, e11⟩ => ?_) fun _ _ z => z.elim
        subst e11
        exact ⟨m', hm, i + 1, xs ++ [y], _, σ1, hσ1, I11.unpinned, (keep I11).1, (keep I11).2, w10⟩
  exact codeAny_compStart_list loop (T.self _ 0 _ _ _ (T.keep _ _ _ st2 fun b hb o e => old b o (by rw [← hH3]; exact Heap.get?_push_of_some _ e)) loop)
theorem pe_comp (hc : X.calm = true) (hi : PI X tg iter wi)
    (hg : ∀ (C : Addr) (s0 : Shared) (H0 : Hp) (ex' : List Addr) (pn' : List (Addr × Obj)), PG (cxComp X (O ++ N') scope cl C s0 H0 ex' pn') tg g)
    (htt : ∀ (C : Addr) (s0 : Shared) (H0 : Hp) (ex' : List Addr) (pn' : List (Addr × Obj)), PTs (cxComp X (O ++ N') scope cl C s0 H0 ex' pn') ifs tt)
    (helt : ∀ (C : Addr) (s0 : Shared) (H0 : Hp) (ex' : List Addr) (pn' : List (Addr × Obj)), PE (cxComp X (O ++ N') scope cl C s0 H0 ex' pn') elt te)
    (hO : O.length = n) (hcap : CapOk X scope cl N' cap)
    (hclos : closureFor scope X.env = pure cl) (hcell : ∀ y ∈ scope.names, y.2 ≠ .cell) (hkind : scope.kind = .function) (hnames : ∀ y ∈ scope.names, y.2 = .local → scope.names.lookup y.1 = some .local)
    (hclx : ∀ y c, cl.lookup y = some c → X.env.cells.lookup y = some c) (hhas : ∀ y, ((relabel scope X.env).names.lookup y = some .cell ∨ (relabel scope X.env).names.lookup y = some .free) → ∃ c, cl.lookup y = some c)
    (hs : autoParam (∀ z, foldedSetIterable iter X.env z = pure z) au2_._auto_1) :
    PE X (.ListComp elt [⟨tg, iter, ifs, 0⟩] scope pos) (tComp wi n cap g tt te) := by
  intro pins s σ H Q I h
  rw [eval_ListComp]
  exact comp_gen none (EP X pins σ Q) hc hi hg htt helt hO hcap hclos hcell hkind hnames hclx hhas hs I h fun D H5 s6 C J fC ⟨m, hn⟩ q => ⟨m, hn, fun h' sb => ⟨.ref D, H5, inv_but J fC sb, rfl, q⟩⟩
end
end My

namespace My
open PySem PySem.Spec PyProof.Rows L2 Mth
structure Cn (mg : Str → Option Value) (x : Str) (n : Int) : Prop where
  ex : ∃ t, mg x = some (.int n t)
section
variable {X : Cx} {x : Str} {n : Int} {pos apos cpos : Pos} {o : Expr} {to : TE}
theorem pe_cn (hg : Gl X x) (C : Cn X.mg x n) (hd : autoParam ((x == ("__debug__" : Str)) = false) au1_._auto_1) : PE X (.Name x pos) (tC (.int n)) := by
  obtain ⟨t, h⟩ := C.ex
  exact L2.pe_glob hg h ⟨t, rfl⟩ hd
noncomputable def rBits : V → Hp → VK → Prop := fun x H Q => ∃ i : Int, x = .int i ∧ Q (.int ((Builtin.Int.intBits i : Nat) : Int)) H
theorem mt_bits : MtR X "int.bit_length" (fun x vs H Q => vs = [] ∧ rBits x H Q) := by
  intro pins s σ H x vs v us Q I rx rv h
  obtain ⟨rfl, i, rfl, q⟩ := h
  cases rv
  obtain ⟨t, rfl⟩ := rx
  exact call_int_bit_length ⟨.int ((Builtin.Int.intBits i : Nat) : Int), H, I.tok _, ⟨_, rfl⟩, q⟩
theorem pe_bits (ho : PE X o to) (hbase : autoParam (attributeBase o "bit_length" X.env (eval o X.env) = eval o X.env) au0_._auto_1) (hline : autoParam ((apos.endLine == cpos.line) = true) au0_._auto_1) :
    PE X (.Call (.Attribute o "bit_length" apos) [] [] cpos) (tUn (fun x H Q => tyV X.K "int" x H ∧ ([] : List V) = [] ∧ rBits x H Q) to) :=
  pe_bm0 PySem.F.plainAttrs_int slot_int_bit_length type_int_bit_length mt_bits ho hbase hline
end
section
variable {σ : L2.St} {H : Hp} {Q : VK} {m n : Int} {K : PySem.W.Frag} {X : Cx}
theorem r_bits (q : Q (.int ((Builtin.Int.intBits m : Nat) : Int)) H) : tyV K "int" (.int m) H ∧ ([] : List V) = [] ∧ rBits (.int m) H Q := ⟨rfl, rfl, m, rfl, q⟩
noncomputable def rMax : List V → Hp → VK → Prop := fun xs H Q => ∃ i j : Int, xs = [.int i, .int j] ∧ Q (.int (if j > i then j else i)) H
noncomputable def rMin : List V → Hp → VK → Prop := fun xs H Q => ∃ i j : Int, xs = [.int i, .int j] ∧ Q (.int (if j < i then j else i)) H
theorem maxC (hc : X.calm = true) : CallR X (.builtin "max") rMax := call_max2 hc
theorem minC (hc : X.calm = true) : CallR X (.builtin "min") rMin := call_min2 hc
theorem r_max (q : Q (.int (if n > m then n else m)) H) : rMax [.int m, .int n] H Q := ⟨m, n, rfl, q⟩
theorem r_min (q : Q (.int (if n < m then n else m)) H) : rMin [.int m, .int n] H Q := ⟨m, n, rfl, q⟩
theorem catT (K : PySem.W.Frag) (h : autoParam (X.K = K) au0_._auto_1) : OpR X (binaryOp .Add) (rCatT K) := h ▸ op_catT
theorem r_catT {p r : Addr} {x y : V} {xs ys : List V} (hp : H p = some (.tup (x :: xs))) (hr : H r = some (.tup (y :: ys))) (h : Nw .tup (x :: xs ++ y :: ys) H Q) : rCatT K (.ref p) (.ref r) H Q :=
  ⟨p, r, _, _, rfl, rfl, SqT.of hp, SqT.of hr, by simp, by have := h.1; rw [List.length_append] at this; exact this, fun e => by simp at e, fun _ => h.2⟩
theorem r_rep {p : Addr} {xs : List V} {k : Int} (hp : H p = some (.lst xs)) (h1 : -(2 ^ 63) ≤ k) (h2 : k < 2 ^ 63) (h : Nw .lst (List.replicate k.toNat xs).flatten H Q) : rRep (.ref p) (.int k) H Q :=
  ⟨p, k, xs, rfl, rfl, hp, h1, h2, by have := h.1; rw [len_rep] at this; rw [Nat.mul_comm]; exact this, h.2⟩
theorem at3 {x y z u : V} {xs : List V} : atI (x :: y :: z :: u :: xs) 3 = some u := atI_nat (j := 3) rfl
theorem r_t3 {p : Addr} {x y z u : V} {xs : List V} (h : H p = some (.tup (x :: y :: z :: u :: xs))) (q : Q u H) : rIxT K (.ref p) (.int 3) H Q := ⟨p, _, 3, u, rfl, rfl, SqT.of h, at3, q⟩
end
section
variable {σ : L2.St} {H : Hp} {to ti : TE} {ts : TSet} {R : L2.St → Hp → Prop} {v : V}
theorem r_asg {te : TE} {g : TG} {D : Ends} (h : te σ H fun x H1 => g x σ H1 D.nx) : tAsg te g D σ H := h
end
theorem heads_big {low : Int} (c : ((Builtin.Int.intBits low : Nat) : Int) > 128) (h0 : 0 ≤ low) : 340282366920938463463374607431768211456 ≤ low := by
  have h : ¬ Builtin.Int.intBits low ≤ 128 := by (first | lia | omega)
  have k : ¬ low.natAbs < 2 ^ 128 := fun q => h (intBits_le_iff.mpr q)
  have e : (2 : Nat) ^ 128 = 340282366920938463463374607431768211456 := by decide
  (first | lia | omega)
theorem heads_small {low : Int} (c : ¬ ((Builtin.Int.intBits low : Nat) : Int) > 128) : low ≤ 340282366920938463463374607431768211456 := by
  have h : Builtin.Int.intBits low ≤ 128 := by (first | lia | omega)
  have k : low.natAbs < 2 ^ 128 := intBits_le_iff.mp h
  have e : (2 : Nat) ^ 128 = 340282366920938463463374607431768211456 := by decide
  (first | lia | omega)
theorem heads_tail {x y : Int} (c : ((Builtin.Int.intBits y : Nat) : Int) > 256) (y0 : 0 ≤ y) (yx : y ≤ x) :
    ∃ t : Nat, ((Builtin.Int.intBits x : Nat) : Int) - 256 = (t : Int) ∧ (2 : Int) ^ (255 + t) ≤ x ∧ x < (2 : Int) ^ (256 + t) := by
  have hb : Builtin.Int.intBits y ≤ Builtin.Int.intBits x := intBits_le_of_natAbs (by (first | lia | omega)) (Nat.le_refl _)
  obtain ⟨t, ht⟩ : ∃ t, Builtin.Int.intBits x = 256 + t := ⟨Builtin.Int.intBits x - 256, by (first | lia | omega)⟩
  have h1 : x.natAbs < 2 ^ (256 + t) := intBits_le_iff.mp (by (first | lia | omega))
  have h2 : ¬ x.natAbs < 2 ^ (255 + t) := fun q => by have := intBits_le_iff.mpr q; (first | lia | omega)
  refine ⟨t, by (first | lia | omega), ?_, ?_⟩
  · have : (((2 : Nat) ^ (255 + t) : Nat) : Int) = (2 : Int) ^ (255 + t) := by simp
    rw [← this]; (first | lia | omega)
  · have : (((2 : Nat) ^ (256 + t) : Nat) : Int) = (2 : Int) ^ (256 + t) := by simp
    rw [← this]; (first | lia | omega)
end My

namespace Jd
open PySem PySem.Spec PyProof.Rows L2 My
structure QE (X : Cx) (e : Expr) (t : TE) : Prop where
  h : PE X e t
structure QT (X : Cx) (e : Expr) (t : TT) : Prop where
  h : PT X e t
structure QW (X : Cx) (e : Expr) (t : TT) : Prop where
  h : PW X e t
structure QA (X : Cx) (es : List Expr) (t : TA) : Prop where
  h : PA X es t
structure QS (X : Cx) (st : Stmt) (t : TS) : Prop where
  h : PS X st t
structure QSs (X : Cx) (st : List Stmt) (t : TS) : Prop where
  h : PSs X st t
structure QG (X : Cx) (e : Expr) (t : TG) : Prop where
  h : PG X e t
structure QGs (X : Cx) (es : List Expr) (t : TGs) : Prop where
  h : PGs X es t
structure QI (X : Cx) (tg e : Expr) (t : TI) : Prop where
  h : PI X tg e t
structure QO (X : Cx) (e : Option Expr) (t : TO) : Prop where
  h : PO X e t
section
variable {X : Cx} {e a b c o : Expr} {es : List Expr} {te ta tb tc to : TE} {t : TA} {pos p p2 apos cpos : Pos} {x : Str} {tA tB' : TT} {st : Stmt} {sts rest : List Stmt} {s1 s2 : TS} {K : PySem.W.Frag}
theorem go {body : List Stmt} {D : Ends} {σ : L2.St} {H : Hp} (h : ∃ t, QSs X body t ∧ t D σ H) : ∃ t, PSs X body t ∧ t D σ H := let ⟨t, h, k⟩ := h; ⟨t, h.h, k⟩
theorem cut {body : List Stmt} {D : Ends} {σ : L2.St} {H : Hp} (n : Nat) (Pv : L2.St → Hp → Prop) (tail : ∃ t, QSs X (body.drop n) t ∧ ∀ σ H, Pv σ H → t D σ H)
    (main : ∀ u, QSs X (body.drop n) u → (∀ σ H, Pv σ H → u D σ H) → ∃ t, QSs X body t ∧ t D σ H) : ∃ t, QSs X body t ∧ t D σ H :=
  let ⟨u, h1, h2⟩ := tail
  main u h1 h2
theorem pv (i : Nat) (hN : autoParam (X.N[i]? = some x) au0_._auto_1) (hv : Vis X.env.scope x := by first | exact Or.inl rfl | exact Or.inr (Or.inl rfl) | exact Or.inr (Or.inr rfl)) (hd : autoParam ((x == ("__debug__" : Str)) = false) au1_._auto_1)
    (hcd : autoParam ((x == ("__classdict__" : Str)) = false) au1_._auto_1) : QE X (.Name x pos) (tVar i) := ⟨L2.pv i hN hv hd hcd⟩
theorem pe_int {i j} : QE X (.Constant (.int i) j pos) (tC (.int i)) := ⟨L2.pe_int⟩
theorem pe_bl {i j} : QE X (.Constant (.bool i) j pos) (tC (.bl i)) := ⟨L2.pe_bl⟩
theorem pe_non {j} : QE X (.Constant .none j pos) (tC .non) := ⟨L2.pe_non⟩
theorem pe_str {i j} : QE X (.Constant (.str i) j pos) (tC (.str i)) := ⟨L2.pe_str⟩
theorem pe_ty {n : String} (hg : Gl X x) (hm : X.mg x = none) (hv : bootBuiltins x = some (.type n)) (hn : autoParam (x ≠ "__name__") au1_._auto_1) (hd : autoParam ((x == ("__debug__" : Str)) = false) au1_._auto_1) : QE X (.Name x pos) (tC (.ty n)) := ⟨My.pe_ty hg hm hv hn hd⟩
theorem pe_op {op : Operator} {r : R2} (ho : OpR X (binaryOp op) r) (ha : QE X a ta) (hb : QE X b tb) : QE X (.BinOp a op b pos) (tOp r ta tb) := ⟨L2.pe_op ho ha.h hb.h⟩
theorem pe_un {op : UnaryOp} {r : V → Hp → VK → Prop} (ho : UnR X (unaryOp op) r) (ha : QE X a ta) : QE X (.UnaryOp op a pos) (tUn r ta) := ⟨L2.pe_un ho ha.h⟩
theorem pe_cmpR {op : CmpOp} {r : R2} (ho : OpR X (compareOp op) r) (ha : QE X a ta) (hb : QE X b tb) (hm : behindInMarks op b = false) : QE X (.Compare a [op] [b] pos) (tOp r ta tb) := ⟨L2.pe_cmpR ho ha.h hb.h hm⟩
theorem pt_cmpR {op : CmpOp} {r : R2} (ho : OpR X (compareOp op) r) (ha : QE X a ta) (hb : QE X b tb) (hm : behindInMarks op b = false) : QT X (.Compare a [op] [b] pos) (tTest (tOp r ta tb)) := ⟨L2.pt_cmpR ho ha.h hb.h hm⟩
theorem pt_not (ha : QT X a tA) : QT X (.UnaryOp .Not a pos) (tNot tA) := ⟨L2.pt_not ha.h⟩
theorem pt_val (h : QE X e te) (he : autoParam (∀ whole, isTrue e X.env whole = (do let v ← whole; standAt e.pos; holding [v] (truthy v))) au2_._auto_1) : QT X e (tB te) := ⟨L2.pt_val h.h he⟩
theorem PWpt (h : QW X e tA) : QT X e tA := ⟨h.h.pt⟩
theorem pw_and1 (ha : QT X a tA) : QW X (.BoolOp .And [a] pos) tA := ⟨L2.pw_and1 ha.h⟩
theorem pw_or1 (ha : QT X a tA) : QW X (.BoolOp .Or [a] pos) tA := ⟨L2.pw_or1 ha.h⟩
theorem pw_and (ha : QT X a tA) (hb : QW X (.BoolOp .And (b :: es) pos) tB') : QW X (.BoolOp .And (a :: b :: es) pos) (tAnd tA tB') := ⟨L2.pw_and ha.h hb.h⟩
theorem pw_or (ha : QT X a tA) (hb : QW X (.BoolOp .Or (b :: es) pos) tB') : QW X (.BoolOp .Or (a :: b :: es) pos) (tOr tA tB') := ⟨L2.pw_or ha.h hb.h⟩
theorem pe_one {op} (h : QE X a te) : QE X (.BoolOp op [a] pos) te := ⟨L2.pe_one h.h⟩
theorem pe_and (ha : QE X a ta) (hb : QE X (.BoolOp .And (b :: es) pos) tb) : QE X (.BoolOp .And (a :: b :: es) pos) (tAndV ta tb) := ⟨L2.pe_and ha.h hb.h⟩
theorem pe_or (ha : QE X a ta) (hb : QE X (.BoolOp .Or (b :: es) pos) tb) : QE X (.BoolOp .Or (a :: b :: es) pos) (tOrV ta tb) := ⟨L2.pe_or ha.h hb.h⟩
theorem pe_ifExp (hc : QT X c tA) (ha : QE X a ta) (hb : QE X b tb) : QE X (.IfExp c a b pos) (tIf tA ta tb) := ⟨L2.pe_ifExp hc.h ha.h hb.h⟩
theorem pa_nil : QA X [] tNil := ⟨L2.pa_nil⟩
theorem pa_cons (ha : QE X e te) (hr : QA X es t) (hs : autoParam (starEach (e :: es) X.env = (false, eval e X.env) :: starEach es X.env) au0_._auto_1) : QA X (e :: es) (tCons te t) := ⟨L2.pa_cons ha.h hr.h hs⟩
theorem pe_tup {k : Nat} (h : QA X es t) : QE X (.Tuple es k pos) (tTup t) := ⟨L2.pe_tup h.h⟩
theorem pe_lst (h : QA X es t) : QE X (.List es pos) (tLst t) := ⟨L2.pe_lst h.h⟩
theorem po_none : QO X none tNoPart := ⟨L2.po_none⟩
theorem po_some (h : QE X e te) : QO X (some e) (tPart te) := ⟨L2.po_some h.h⟩
theorem pe_slice {r : V → Option Int → Option Int → Hp → VK → Prop} {lo hi : Option Expr} {tl th : TO} (hr : SlR X r) (he : QE X e te) (hl : QO X lo tl) (hu : QO X hi th) : QE X (.Subscript e (.Slice lo hi none p2) pos) (tSl r te tl th) := ⟨L2.pe_slice hr he.h hl.h hu.h⟩
theorem pe_ix {r : R2} (hr : IxR X r) (ha : QE X a ta) (hb : QE X b tb) (hs : PlainIx b) : QE X (.Subscript a b pos) (tOp r ta tb) := ⟨L2.pe_ix hr ha.h hb.h hs⟩
theorem pe_callB {id : String} {r : List V → Hp → VK → Prop} (hc : CallR X (.builtin id) r) (hg : Gl X x) (hm : X.mg x = none) (hv : bootBuiltins x = some (.builtin id)) (ha : QA X (e :: es) t) (hn : autoParam (x ≠ "__name__") au1_._auto_1) (hdb : autoParam ((x == ("__debug__" : Str)) = false) au1_._auto_1)
    (he : autoParam (starEach (e :: es) X.env = (false, eval e X.env) :: starEach es X.env) au0_._auto_1) (hpl : autoParam ((backTo pos (starEach es X.env)).any (·.1) = false) au0_._auto_1) : QE X (.Call (.Name x p) (e :: es) [] pos) (tCB r t) := ⟨L2.pe_callB hc hg hm hv ha.h hn hdb he hpl⟩
theorem pe_callTy {T : String} {r : List V → Hp → VK → Prop} (hc : CallR X (.type T) r) (hg : Gl X x) (hm : X.mg x = none) (hv : bootBuiltins x = some (.type T)) (ha : QA X (e :: es) t) (hn : autoParam (x ≠ "__name__") au1_._auto_1) (hdb : autoParam ((x == ("__debug__" : Str)) = false) au1_._auto_1)
    (he : autoParam (starEach (e :: es) X.env = (false, eval e X.env) :: starEach es X.env) au0_._auto_1) (hpl : autoParam ((backTo pos (starEach es X.env)).any (·.1) = false) au0_._auto_1) : QE X (.Call (.Name x p) (e :: es) [] pos) (tCB r t) := ⟨L2.pe_callTy hc hg hm hv ha.h hn hdb he hpl⟩
theorem pe_dn {k : Nat} {ps : List Str} {sp : Sp} (D : Dn X.prog X.w X.K X.mg X.base k x ps sp) (hr : Room k X.A) (hg : Gl X x) (ha : QA X (e :: es) t) (hdb : autoParam ((x == ("__debug__" : Str)) = false) au1_._auto_1)
    (he : autoParam (starEach (e :: es) X.env = (false, eval e X.env) :: starEach es X.env) au0_._auto_1) (hpl : autoParam ((backTo pos (starEach es X.env)).any (·.1) = false) au0_._auto_1) : QE X (.Call (.Name x p) (e :: es) [] pos) (tCall sp [] E0 t) := ⟨My.pe_dn D hr hg ha.h hdb he hpl⟩
theorem appC (K : PySem.W.Frag) (ho : QE X o to) (he : QE X e te) (h : autoParam (X.K = K) au0_._auto_1)
    (hbase : autoParam (attributeBase o "append" X.env (eval o X.env) = eval o X.env) au0_._auto_1)
    (hfew : autoParam (((backTo cpos (starEach (e :: []) X.env)).all (fun x => !x.1) && (backToKw cpos (keywordEach [] X.env)).all (fun x => x.1.isSome)
      && decide ((e :: ([] : List Expr)).length + ([] : List Keyword).length + (if ([] : List Keyword).isEmpty then 0 else 1) < 30)) = true) au0_._auto_1)
    (hline : autoParam ((apos.endLine == cpos.line) = true) au0_._auto_1) (hs : autoParam (starEach (e :: []) X.env = (false, eval e X.env) :: starEach [] X.env) au0_._auto_1) (hplain : autoParam ((backTo cpos (starEach [] X.env)).any (·.1) = false) au0_._auto_1) :
    QE X (.Call (.Attribute o "append" apos) [e] [] cpos) (tBM K "list" rAppend to (tCons te tNil)) := ⟨My.appC K ho.h he.h h hbase hfew hline hs hplain⟩
theorem pss_nil : QSs X [] tNext := ⟨L2.pss_nil⟩
theorem pss_cons (h1 : QS X st s1) (h2 : QSs X rest s2) : QSs X (st :: rest) (tSeq s1 s2) := ⟨L2.pss_cons h1.h h2.h⟩
theorem pss_one (h1 : QS X st s1) : QSs X [st] s1 := ⟨L2.pss_one h1.h⟩
theorem ps_never : QS X st tNever := ⟨L2.ps_never⟩
theorem ps_ret (he : QE X e te) : QS X (.Return (some e) pos) (tRet te) := ⟨L2.ps_ret he.h⟩
theorem ps_expr (he : QE X e te) (hs : autoParam (swapsWith e none pos.line X.env = pure false) au0_._auto_1) : QS X (.Expr e pos) (tDrop te) := ⟨L2.ps_expr he.h hs⟩
theorem ps_set {i : Nat} {pos' : Pos} (hN : X.N.Nodup) (hi : X.N[i]? = some x) (hx : Loc X.env.scope x) (he : QE X e te) (hs : autoParam (swapsWith e (some (.Name x pos')) pos.line X.env = pure false) au0_._auto_1) (hf : X.fn x = true ∨ X.env.scope.names.lookup x = some .local := by first | exact .inl rfl | exact .inr rfl | assumption) :
    QS X (.Assign [.Name x pos'] e pos) (tAsg te (gName i)) := ⟨L2.ps_set hN hi hx he.h hs hf⟩
theorem ps_asg {tg : Expr} {g : TG} (he : QE X e te) (hg : QG X tg g) (hs : autoParam (swapsWithSole [tg] e pos.line X.env = pure false) au0_._auto_1) (hw : autoParam (swappedStores [tg] e X.env = pure none) au0_._auto_1)
    (h1 : autoParam ((assignEach [tg] X.env).map (·.2) = [assign tg X.env]) au0_._auto_1) : QS X (.Assign [tg] e pos) (tAsg te g) := ⟨L2.ps_asg he.h hg.h hs hw h1⟩
theorem ps_par {i j : Nat} {y : Str} {ta : TA} {px py pt : Pos} {kt k2 pt2} (hc : X.calm = true) (hN : X.N.Nodup) (hi : X.N[i]? = some x) (hj : X.N[j]? = some y) (hij : i ≠ j)
    (hx : X.env.scope.names.lookup x = some .local) (hy : X.env.scope.names.lookup y = some .local) (ha : QA X [a, b] ta)
    (hw : swappedStores [.Tuple [.Name x px, .Name y py] kt pt] (.Tuple [a, b] k2 pt2) X.env = pure (some [x, y]))
    (hs : autoParam (swapsWithSole [.Tuple [.Name x px, .Name y py] kt pt] (.Tuple [a, b] k2 pt2) pos.line X.env = pure false) au0_._auto_1) :
    QS X (.Assign [.Tuple [.Name x px, .Name y py] kt pt] (.Tuple [a, b] k2 pt2) pos) (tPar i j ta) := ⟨L2.ps_par hc hN hi hj hij hx hy ha.h hw hs⟩
theorem ps_if {ss ss' : List Stmt} {tc : TT} (hc : QT X c tc) (ha : QSs X ss s1) (hb : QSs X ss' s2) : QS X (.If c ss ss' pos) (tIfS tc s1 s2) := ⟨L2.ps_if hc.h ha.h hb.h⟩
theorem ps_while {tc : TT} (hp : PassesOwn (model X.prog X.w) X.A X.env X.xe) (hc : QT X c tc) (hb : QSs X sts s1) : QS X (.While c sts [] pos) (tWhile tc s1) := ⟨L2.ps_while hp hc.h hb.h⟩
theorem ps_for {tg : Expr} {wi : TI} {g : TG} (hp : PassesOwn (model X.prog X.w) X.A X.env X.xe) (hc : X.calm = true) (hi : QI X tg e wi) (hg : QG X tg g) (hb : QSs X sts s1)
    (hs : autoParam (∀ x, foldedSetIterable e X.env x = pure x) au2_._auto_1) : QS X (.For tg e sts [] pos) (tFor wi g s1) := ⟨L2.ps_for hp hc hi.h hg.h hb.h hs⟩
theorem pg_name {i : Nat} (hN : X.N.Nodup) (hi : X.N[i]? = some x) (hx : Loc X.env.scope x) (hf : X.fn x = true ∨ X.env.scope.names.lookup x = some .local := by first | exact .inl rfl | exact .inr rfl | assumption) : QG X (.Name x pos) (gName i) := ⟨L2.pg_name hN hi hx hf⟩
theorem pgs_nil : QGs X [] gNil := ⟨L2.pgs_nil⟩
theorem pgs_cons {g : TG} {u : TGs} (h1 : QG X e g) (h2 : QGs X es u) (hs : autoParam ((assignEach (e :: es) X.env).map (·.2) = assign e X.env :: (assignEach es X.env).map (·.2)) au0_._auto_1) : QGs X (e :: es) (gCons g u) := ⟨L2.pgs_cons h1.h h2.h hs⟩
theorem pgT (K : PySem.W.Frag) {k : Nat} {g : TGs} {n : Nat} (hc : X.calm = true) (h2 : QGs X es g) (hn : autoParam ((assignEach es X.env).length = n) au0_._auto_1) (hst : autoParam ((assignEach es X.env).findIdx? (·.1) = none) au0_._auto_1) (h : autoParam (X.K = K) au0_._auto_1) : QG X (.Tuple es k pos) (gTup K n g) := ⟨My.pgT K hc h2.h hn hst h⟩
theorem piL (K : PySem.W.Frag) {tg : Expr} (hl : QE X e te) (h : autoParam (X.K = K) au0_._auto_1) : QI X tg e (iList K te) := ⟨My.piL K hl.h h⟩
theorem piT (K : PySem.W.Frag) {tg : Expr} (hl : QE X e te) (h : autoParam (X.K = K) au0_._auto_1) : QI X tg e (iTup K te) := ⟨My.piT K hl.h h⟩
theorem pi_range1 {tg : Expr} (hg : Gl X "range") (hm : X.mg "range" = none) (ha : QA X [a] t) (hs : autoParam (starEach [a] X.env = [(false, eval a X.env)]) au0_._auto_1) : QI X tg (.Call (.Name "range" p) [a] [] pos) (iRng1 t) := ⟨L2.pi_range1 hg hm ha.h hs⟩
end
end Jd

namespace Jd
open PySem PySem.Spec PyProof.Rows L2 My
section
variable {X : Cx} {x : Str} {n : Int} {pos apos cpos : Pos} {o : Expr} {to : TE}
theorem pe_cn (hg : Gl X x) (C : Cn X.mg x n) (hd : autoParam ((x == ("__debug__" : Str)) = false) au1_._auto_1) : QE X (.Name x pos) (tC (.int n)) := ⟨My.pe_cn hg C hd⟩
theorem pe_bits (ho : QE X o to) (hbase : autoParam (attributeBase o "bit_length" X.env (eval o X.env) = eval o X.env) au0_._auto_1) (hline : autoParam ((apos.endLine == cpos.line) = true) au0_._auto_1) :
    QE X (.Call (.Attribute o "bit_length" apos) [] [] cpos) (tUn (fun x H Q => tyV X.K "int" x H ∧ ([] : List V) = [] ∧ rBits x H Q) to) := ⟨My.pe_bits ho.h hbase hline⟩
end
end Jd

namespace My
open PySem PySem.Spec PyProof.Rows L2 Mth
noncomputable def closL (cells : List (Str × Addr)) : List (Str × NameKind) → List (Str × Addr) → List (Str × Addr)
  | [], cs => cs
  | (y, k) :: r, cs => closL cells r (if k = .free then ((cells.lookup y).map fun c => (y, c)).toList ++ cs else cs)
noncomputable def freeHas (cells : List (Str × Addr)) (names : List (Str × NameKind)) : Bool := names.all fun p => !(p.2 == NameKind.free) || (cells.lookup p.1).isSome
theorem closure_go {env : Env} : ∀ (names : List (Str × NameKind)) (cs : List (Str × Addr)), freeHas env.cells names = true →
    (forIn (m := Sem) names cs fun x r => match x with | (name, kind) => if (kind == NameKind.free) = true then do let a ← cellOf env name; pure (ForInStep.yield ((name, a) :: r)) else pure (ForInStep.yield r)) = pure (closL env.cells names cs)
  | [], cs, _ => rfl
  | (y, k) :: r, cs, h => by
    have h2 : freeHas env.cells r = true := by
      unfold freeHas at h ⊢
      rw [List.all_cons, Bool.and_eq_true] at h
      exact h.2
    rw [List.forIn_cons]
    by_cases hk : k = .free
    · subst hk
      have h1 : (env.cells.lookup y).isSome = true := by
        unfold freeHas at h
        rw [List.all_cons, Bool.and_eq_true] at h
        simpa using h.1
      obtain ⟨c, hc⟩ := Option.isSome_iff_exists.mp h1
      have ih := closure_go r ((y, c) :: cs) h2
      have e : cellOf env y = pure c := by unfold cellOf; rw [hc]
      show (((if (NameKind.free == NameKind.free) = true then do let a ← cellOf env y; pure (ForInStep.yield ((y, a) :: cs)) else pure (ForInStep.yield cs)) : Sem _) >>= _) = _
      rw [if_pos (by rfl), e, pure_bind, pure_bind]
      show forIn (m := Sem) r ((y, c) :: cs) _ = _
      rw [ih]
      show _ = pure (closL env.cells r (if NameKind.free = .free then ((env.cells.lookup y).map fun c => (y, c)).toList ++ cs else cs))
      rw [if_pos rfl, hc]
      rfl
    · have ih := closure_go r cs h2
      have hk' : (k == NameKind.free) = false := by simpa using hk
      show (((if (k == NameKind.free) = true then do let a ← cellOf env y; pure (ForInStep.yield ((y, a) :: cs)) else pure (ForInStep.yield cs)) : Sem _) >>= _) = _
      rw [hk', if_neg Bool.false_ne_true, pure_bind]
      show forIn (m := Sem) r cs _ = _
      rw [ih]
      show _ = pure (closL env.cells r (if k = .free then _ else cs))
      rw [if_neg hk]
theorem closure_of {scope : Scope} {env : Env} (h : freeHas env.cells scope.names = true) : closureFor scope env = pure (closL env.cells scope.names []) := by
  have e := closure_go (env := env) scope.names [] h
  show (forIn (m := Sem) scope.names [] _ >>= fun cs => pure cs) = _
  exact (congrArg (· >>= fun cs => pure cs) e).trans (pure_bind _ _)
theorem closL_mem {cells : List (Str × Addr)} : ∀ (names : List (Str × NameKind)) (cs : List (Str × Addr)) (p : Str × Addr), p ∈ closL cells names cs → p ∈ cs ∨ cells.lookup p.1 = some p.2
  | [], _, _, h => .inl h
  | (y, k) :: r, cs, p, h => by
    rcases closL_mem r _ p h with q | q
    · by_cases hk : k = .free
      · rw [if_pos hk] at q
        rcases List.mem_append.mp q with z | z
        · cases e : cells.lookup y with
          | none => rw [e] at z; simp at z
          | some c => rw [e] at z; simp at z; subst z; exact .inr e
        · exact .inl z
      · rw [if_neg hk] at q
        exact .inl q
    · exact .inr q
theorem closL_has {cells : List (Str × Addr)} : ∀ (names : List (Str × NameKind)) (cs : List (Str × Addr)) (y : Str) (c : Addr), ((y, NameKind.free) ∈ names ∧ cells.lookup y = some c) ∨ (y, c) ∈ cs → (y, c) ∈ closL cells names cs
  | [], _, _, _, h => h.elim (fun z => by simp at z) id
  | (z, k) :: r, cs, y, c, h => by
    refine closL_has r _ y c ?_
    rcases h with ⟨m, e⟩ | m
    · rcases List.mem_cons.mp m with q | q
      · cases q
        right
        rw [if_pos rfl, e]
        simp
      · exact .inl ⟨q, e⟩
    · right
      by_cases hk : k = .free
      · rw [if_pos hk]; exact List.mem_append_right _ m
      · rw [if_neg hk]; exact m
theorem lookup_in {α : Type} : ∀ {l : List (Str × α)} {x : Str} {v : α}, l.lookup x = some v → (x, v) ∈ l
  | (y, u) :: r, x, v, h => by
    rw [List.lookup_cons] at h
    cases e : x == y with
    | true =>
      rw [e] at h
      cases h
      have : x = y := by simpa using e
      subst this
      exact List.mem_cons_self
    | false =>
      rw [e] at h
      exact List.mem_cons_of_mem _ (lookup_in h)
theorem lookup_ex {α : Type} : ∀ {l : List (Str × α)} {x : Str} {v : α}, (x, v) ∈ l → ∃ u, l.lookup x = some u
  | (y, u) :: r, x, v, h => by
    rw [List.lookup_cons]
    cases e : x == y with
    | true => exact ⟨_, rfl⟩
    | false =>
      rcases List.mem_cons.mp h with q | q
      · cases q; simp at e
      · exact lookup_ex q
theorem closL_look {cells : List (Str × Addr)} {names : List (Str × NameKind)} {y : Str} {c : Addr} (h : (closL cells names []).lookup y = some c) : cells.lookup y = some c :=
  (closL_mem names [] (y, c) (lookup_in h)).elim (fun z => by simp at z) id
theorem closL_some {cells : List (Str × Addr)} {names : List (Str × NameKind)} {y : Str} {c : Addr} (h : (y, NameKind.free) ∈ names) (e : cells.lookup y = some c) : (closL cells names []).lookup y = some c := by
  obtain ⟨u, q⟩ := lookup_ex (closL_has names [] y c (.inl ⟨h, e⟩))
  rw [q]
  rw [closL_look q] at e
  exact e
noncomputable def Caps (X : Cx) (scope : Scope) : List Str → List Nat → Prop
  | [], [] => True
  | y :: ys, j :: js => (X.N[j]? = some y ∧ X.env.kindOf y = some .cell ∧ scope.names.lookup y = some .free ∧ (relabel scope X.env).names.lookup y = some .cell) ∧ Caps X scope ys js
  | _, _ => False
theorem free_cell {cells : List (Str × Addr)} {names : List (Str × NameKind)} {y : Str} (h : freeHas cells names = true) (m : (y, NameKind.free) ∈ names) : ∃ c, cells.lookup y = some c := by
  unfold freeHas at h
  have q := List.all_eq_true.mp h _ m
  exact Option.isSome_iff_exists.mp (by simpa using q)
theorem Caps.ok {X : Cx} {scope : Scope} (h : freeHas X.env.cells scope.names = true) : ∀ {ys : List Str} {js : List Nat}, Caps X scope ys js → CapOk X scope (closL X.env.cells scope.names []) ys js
  | [], [], _ => trivial
  | y :: ys, j :: js, ⟨⟨a, b, c, d⟩, r⟩ => by
    have m := lookup_in c
    obtain ⟨e, he⟩ := free_cell h m
    exact ⟨⟨a, b, d, by rw [closL_some m he, he]⟩, Caps.ok h r⟩
theorem relabel_has {scope : Scope} {env : Env} (h : freeHas env.cells scope.names = true) (hcell : ∀ y ∈ scope.names, y.2 ≠ .cell) (y : Str)
    (q : (relabel scope env).names.lookup y = some .cell ∨ (relabel scope env).names.lookup y = some .free) : ∃ c, (closL env.cells scope.names []).lookup y = some c := by
  have m : (y, NameKind.free) ∈ scope.names := by
    rcases q with q | q
    all_goals
      have m := lookup_in q
      unfold relabel at m
      obtain ⟨⟨n, k⟩, hm, e⟩ := List.mem_map.mp m
      dsimp only at e
      split at e
      · rename_i hc
        rw [Bool.and_eq_true, Bool.and_eq_true] at hc
        have hk : k = .free := by simpa using hc.1.1
        subst hk
        cases e
        first | exact hm | done
      · cases e
        first | exact hm | exact absurd rfl (hcell _ hm)
  obtain ⟨c, hc⟩ := free_cell h m
  exact ⟨c, closL_some m hc⟩
section
variable {X : Cx} {elt iter tg : Expr} {ifs : List Expr} {pos : Pos} {scope : Scope} {wi : TI} {te : TE} {tt : TT} {g : TG} {O N' : List Str} {cap : List Nat} {n : Nat}
theorem pe_compC (hc : X.calm = true) (hi : PI X tg iter wi)
    (hg : ∀ (C : Addr) (s0 : Shared) (H0 : Hp) (ex' : List Addr) (pn' : List (Addr × Obj)), PG (cxComp X (O ++ N') scope (closL X.env.cells scope.names []) C s0 H0 ex' pn') tg g)
    (htt : ∀ (C : Addr) (s0 : Shared) (H0 : Hp) (ex' : List Addr) (pn' : List (Addr × Obj)), PTs (cxComp X (O ++ N') scope (closL X.env.cells scope.names []) C s0 H0 ex' pn') ifs tt)
    (helt : ∀ (C : Addr) (s0 : Shared) (H0 : Hp) (ex' : List Addr) (pn' : List (Addr × Obj)), PE (cxComp X (O ++ N') scope (closL X.env.cells scope.names []) C s0 H0 ex' pn') elt te)
    (hO : O.length = n) (hcap : Caps X scope N' cap) (hf : freeHas X.env.cells scope.names = true) (hcell : ∀ y ∈ scope.names, y.2 ≠ .cell) (hkind : scope.kind = .function) (hnames : ∀ y ∈ scope.names, y.2 = .local → scope.names.lookup y.1 = some .local)
    (hs : autoParam (∀ z, foldedSetIterable iter X.env z = pure z) au2_._auto_1) :
    PE X (.ListComp elt [⟨tg, iter, ifs, 0⟩] scope pos) (tComp wi n cap g tt te) :=
  pe_comp hc hi hg htt helt hO (hcap.ok hf) (closure_of hf) hcell hkind hnames (fun _ _ => closL_look) (relabel_has hf hcell) hs
end
section
variable {X : Cx} {elt iter tg : Expr} {ifs : List Expr} {pos : Pos} {scope : Scope} {wi : TI} {te : TE} {tt : TT} {g : TG} {O N' : List Str} {cap : List Nat} {n : Nat}
end
noncomputable def rm (D : Addr) (H : Hp) : Hp := fun b => if b = D then none else H b
theorem rm_at {D : Addr} {H : Hp} {b : Addr} (h : b ≠ D) : rm D H b = H b := if_neg h
theorem rm_upd {D : Addr} {H : Hp} {o : HO} : rm D (upd H D o) = rm D H := by
  funext b
  unfold rm
  by_cases h : b = D
  · rw [if_pos h, if_pos h]
  · rw [if_neg h, if_neg h, upd_ne h]
structure Tells (J : It) (ok : Hp → Prop) (xs : List V) : Prop where
  go : ∀ i H, ok H → i < xs.length → J.go i H ∧ ∀ x H', J.yld i H x H' → H' = H ∧ xs[i]? = some x
  stop : ∀ H, ok H → J.stop xs.length H
theorem tells_list {K : PySem.W.Frag} {a : Addr} {xs : List V} : Tells (Itl K a) (fun H => SqL K H a xs) xs :=
  ⟨fun i H h hi => ⟨⟨xs, xs[i], h, by simp [hi]⟩, fun x H' y => ⟨y.1, y.2 xs h⟩⟩, fun H h => ⟨xs, h, Nat.le_refl _⟩⟩
noncomputable def CompB (n : Nat) (cap : List Nat) (g : TG) (tt : TT) (te : TE) (σ : L2.St) (Q : VK) (J : It) (H1 : Hp) : Prop := ∀ D, H1 D = none → ∃ W : Nat → Nat → List V → Hp → Prop, (∃ m, W 0 m [] (upd H1 D (.lst []))) ∧
  ∀ i m xs H2, W i m xs H2 → H2 D = some (.lst xs) ∧ ((J.stop i H2 ∧ Q (.ref D) H2) ∨ (J.go i H2 ∧ xs.length < sizeLine ∧ ∀ x H3 σ0, σ0.length = n → J.yld i H2 x H3 →
    g x (σ0 ++ capV cap σ) H3 fun σ2 H4 => (∃ σ1, σ1.length = n ∧ σ2 = σ1 ++ capV cap σ) ∧ tt σ2 H4 fun b H5 => if b = true then te σ2 H5 fun y H6 => H6 D = some (.lst xs) ∧ ∃ m', m' < m ∧ W (i + 1) m' (xs ++ [y]) (upd H6 D (.lst (xs ++ [y])))
      else ∃ m', m' < m ∧ W (i + 1) m' xs H5))
section
variable {wi : TI} {n : Nat} {cap : List Nat} {g : TG} {tt : TT} {te : TE} {σ : L2.St} {H : Hp} {Q : VK} {K : PySem.W.Frag}
theorem r_comp (h : wi σ H fun J H1 => CompB n cap g tt te σ Q J H1) : tComp wi n cap g tt te σ H Q := h
theorem r_yes {B : Bool → Hp → Prop} (h : B true H) : tYes σ H B := h
theorem compB_of {J : It} {ok : Hp → Prop} {xs : List V} (T : Tells J ok xs) (hok : ∀ H2, Same H H2 → ok H2) (hl : xs.length ≤ 1000000) (P : Nat → List V → Hp → Prop) (h0 : P 0 [] H)
    (step : ∀ (D : Addr) (i : Nat) (x : V) (ys : List V) (H2 : Hp) (σ0 : L2.St) (N : VK) (N0 : Hp → Prop), σ0.length = n → H D = none → H2 D = some (.lst ys) → Same H H2 → xs[i]? = some x → ys.length ≤ i → P i ys (rm D H2) →
      (∀ y H6, Same H2 H6 → P (i + 1) (ys ++ [y]) (rm D H6) → N y H6) → (∀ H5, Same H2 H5 → P (i + 1) ys (rm D H5) → N0 H5) →
      g x (σ0 ++ capV cap σ) H2 fun σ2 H4 => (∃ σ1, σ1.length = n ∧ σ2 = σ1 ++ capV cap σ) ∧ tt σ2 H4 fun b H5 => if b = true then te σ2 H5 N else N0 H5)
    (done : ∀ (D : Addr) (ys : List V) (H2 : Hp), H D = none → H2 D = some (.lst ys) → Same H H2 → ys.length ≤ xs.length → P xs.length ys (rm D H2) → Q (.ref D) H2) : CompB n cap g tt te σ Q J H := by
  intro D hD
  refine ⟨fun i m ys H2 => H2 D = some (.lst ys) ∧ Same H H2 ∧ ys.length ≤ i ∧ i ≤ xs.length ∧ m = xs.length - i ∧ P i ys (rm D H2), ⟨xs.length, upd_same, same_at (Same.refl _) hD, Nat.zero_le _, Nat.zero_le _, rfl, ?_⟩, ?_⟩
  · rw [rm_upd]
    have e : rm D H = H := by
      funext b
      by_cases h : b = D
      · rw [h, hD]; exact if_pos rfl
      · exact rm_at h
    rw [e]; exact h0
  · rintro i m ys H2 ⟨e, s, hy, hi, rfl, p⟩
    refine ⟨e, ?_⟩
    by_cases hlt : i < xs.length
    · obtain ⟨go, yld⟩ := T.go i H2 (hok H2 s) hlt
      refine .inr ⟨go, Nat.lt_of_le_of_lt (Nat.le_trans (Nat.le_trans hy hi) hl) (by decide), fun x H3 σ0 h0 y => ?_⟩
      obtain ⟨rfl, hx⟩ := yld x H3 y
      refine step D i x ys _ σ0 _ _ h0 hD e s hx hy p (fun y H6 s6 p6 => ?_) fun H5 s5 p5 => ?_
      · refine ⟨s6 _ _ e, xs.length - (i + 1), by (first | lia | omega), upd_same, same_at (s.trans s6) hD, ?_, by (first | lia | omega), rfl, ?_⟩
        · rw [List.length_append, List.length_singleton]; (first | lia | omega)
        · rw [rm_upd]; exact p6
      · exact ⟨xs.length - (i + 1), by (first | lia | omega), s5 _ _ e, s.trans s5, by (first | lia | omega), by (first | lia | omega), rfl, p5⟩
    · have ei : i = xs.length := by (first | lia | omega)
      subst ei
      exact .inl ⟨T.stop H2 (hok H2 s), done D ys H2 hD e s hy p⟩
theorem r_own1 {x : V} {σ0 : L2.St} {R : L2.St → Hp → Prop} (h0 : σ0.length = 1) (h : R (some x :: capV cap σ) H) : gName 0 x (σ0 ++ capV cap σ) H fun σ2 H4 => (∃ σ1, σ1.length = 1 ∧ σ2 = σ1 ++ capV cap σ) ∧ R σ2 H4 := by
  match σ0, h0 with
  | [v], _ => exact ⟨⟨[some x], rfl, rfl⟩, h⟩
end
end My
namespace Jd
open PySem PySem.Spec PyProof.Rows L2 My
structure QTs (X : Cx) (ifs : List Expr) (t : TT) : Prop where
  h : PTs X ifs t
section
variable {X : Cx} {c elt iter tg : Expr} {ifs : List Expr} {pos : Pos} {scope : Scope} {wi : TI} {te : TE} {tt : TT} {g : TG} {O N' : List Str} {cap : List Nat} {n : Nat}
theorem pts_nil : QTs X [] tYes := ⟨My.pts_nil⟩
theorem pe_comp (hc : X.calm = true) (hi : QI X tg iter wi)
    (hg : ∀ (C : Addr) (s0 : Shared) (H0 : Hp) (ex' : List Addr) (pn' : List (Addr × Obj)), QG (cxComp X (O ++ N') scope (closL X.env.cells scope.names []) C s0 H0 ex' pn') tg g)
    (htt : ∀ (C : Addr) (s0 : Shared) (H0 : Hp) (ex' : List Addr) (pn' : List (Addr × Obj)), QTs (cxComp X (O ++ N') scope (closL X.env.cells scope.names []) C s0 H0 ex' pn') ifs tt)
    (helt : ∀ (C : Addr) (s0 : Shared) (H0 : Hp) (ex' : List Addr) (pn' : List (Addr × Obj)), QE (cxComp X (O ++ N') scope (closL X.env.cells scope.names []) C s0 H0 ex' pn') elt te)
    (hO : O.length = n) (hcap : Caps X scope N' cap) (hf : freeHas X.env.cells scope.names = true) (hcell : ∀ y ∈ scope.names, y.2 ≠ .cell) (hkind : scope.kind = .function) (hnames : ∀ y ∈ scope.names, y.2 = .local → scope.names.lookup y.1 = some .local)
    (hs : autoParam (∀ z, foldedSetIterable iter X.env z = pure z) au2_._auto_1) :
    QE X (.ListComp elt [⟨tg, iter, ifs, 0⟩] scope pos) (tComp wi n cap g tt te) :=
  ⟨My.pe_compC hc hi.h (fun C s0 H0 ex' pn' => (hg C s0 H0 ex' pn').h) (fun C s0 H0 ex' pn' => (htt C s0 H0 ex' pn').h) (fun C s0 H0 ex' pn' => (helt C s0 H0 ex' pn').h) hO hcap hf hcell hkind hnames hs⟩
end
end Jd

namespace My
open PySem PySem.Spec PyProof.Rows L2 Mth
section
variable {X : Cx} {e st : Expr} {te ts : TE} {pos p2 : Pos}
end
section
variable {σ : L2.St} {H : Hp} {Q : VK} {K : PySem.W.Frag} {te ts : TE} {x z : V}
end
end My
namespace Jd
open PySem PySem.Spec PyProof.Rows L2 My
end Jd

namespace My
open PySem PySem.Spec PyProof.Rows L2 Mth
section
variable {X : Cx} {tg a : Expr} {ta : TA} {p pos : Pos}
end
end My
namespace Jd
open PySem PySem.Spec PyProof.Rows L2 My
end Jd

namespace My
open PySem PySem.Spec PyProof.Rows L2 Mth
noncomputable def Kp {α : Type} : Sem α → Prop
  | .pure _ => True
  | .raise _ => True
  | .unsupported _ => True
  | .finish _ => True
  | .rule _ k => Kp (k ())
  | .at _ k => Kp (k ())
  | .load _ _ k => ∀ o, Kp (k o)
  | .update _ _ f k => (∀ o : Obj, (f o).dict = o.dict ∧ (o.isFreed = false → (f o).isFreed = false)) ∧ Kp (k ())
  | .loadIfAlive _ k => ∀ o, Kp (k o)
  | .point _ k => Kp (k ())
  | .register _ _ => True
  | .alloc _ k => ∀ a, Kp (k a)
  | .fresh k => ∀ t, Kp (k t)
  | .ask k => ∀ x, Kp (k x)
  | .stack k => ∀ x, Kp (k x)
  | .handled _ k => ∀ x, Kp (k x)
  | .thread k => ∀ x, Kp (k x)
  | _ => False
noncomputable def DK (h h' : Heap) : Prop := ∀ b o, h.get? b = some o → ∃ o', h'.get? b = some o' ∧ o'.dict = o.dict
theorem DK.refl (h : Heap) : DK h h := fun _ o e => ⟨o, e, rfl⟩
theorem DK.trans {h h' h'' : Heap} (a : DK h h') (b : DK h' h'') : DK h h'' := fun c o e => by
  obtain ⟨o1, e1, d1⟩ := a c o e
  obtain ⟨o2, e2, d2⟩ := b c o1 e1
  exact ⟨o2, e2, d2.trans d1⟩
theorem DK.push (h : Heap) (o : Obj) : DK h (h.push o) := fun b v e => ⟨v, Heap.get?_push_of_some _ e, rfl⟩
theorem DK.update {h : Heap} {a : Addr} {f : Obj → Obj} (hf : ∀ o : Obj, (f o).dict = o.dict ∧ (o.isFreed = false → (f o).isFreed = false)) : DK h (h.update a f) := fun b o e => by
  by_cases q : b = a
  · subst q
    refine ⟨f o, Heap.get?_update_self _ e ((hf o).2 ?_), (hf o).1⟩
    exact (Heap.get?_some_iff.mp e).2
  · exact ⟨o, by rw [Heap.get?_update_other _ _ (Ne.symm q)]; exact e, rfl⟩
theorem kp_bind {α β : Type} {m : Sem α} {f : α → Sem β} (hm : Kp m) (hf : ∀ a, Kp (f a)) : Kp (m >>= f) := by
  show Kp (m.bind f)
  induction m with
  | pure a => exact hf a
  | raise | unsupported | finish | register => exact True.intro
  | rule _ k ih | «at» _ k ih | point _ k ih => exact ih _ hm
  | load _ _ k ih | loadIfAlive _ k ih | alloc _ k ih | fresh k ih | ask k ih | stack k ih | handled _ k ih | thread k ih => exact fun o => ih o (hm o)
  | update _ _ _ k ih => exact ⟨hm.1, ih _ hm.2⟩
  | choose | os | call | newGen | genState | resume | yield | fork | await => exact hm.elim
theorem wp_kp {α : Type} {M : Model} {Γ : PySem.Ctx} {t : Sem α} {Q : α → Pos → Shared → Prop} {E : Value → Pos → Shared → Prop} {p : Pos} {s : Shared} (hk : Kp t) (h : Sem.wp M Γ t Q E p s) :
    Sem.wp M Γ t (fun a p' s' => Q a p' s' ∧ DK s.heap s'.heap) (fun e p' s' => E e p' s' ∧ DK s.heap s'.heap) p s := by
  induction t generalizing p s with
  | pure a => exact ⟨h, DK.refl _⟩
  | raise e => exact ⟨h, DK.refl _⟩
  | unsupported | finish | register => exact h.elim
  | rule _ k ih | «at» _ k ih | point _ k ih => exact ih _ hk h
  | load a _ k ih => exact let ⟨o, ho, h⟩ := h; ⟨o, ho, ih _ (hk _) h⟩
  | loadIfAlive _ k ih | ask k ih | stack k ih | handled _ k ih | thread k ih => exact ih _ (hk _) h
  | fresh k ih => exact ih _ (hk _) h
  | alloc o k ih => exact Sem.wp_mono M Γ _ (fun _ _ _ z => ⟨z.1, (DK.push _ _).trans z.2⟩) (fun _ _ _ z => ⟨z.1, (DK.push _ _).trans z.2⟩) _ _ (ih _ (hk _) h)
  | update a _ f k ih => exact ⟨h.1, Sem.wp_mono M Γ _ (fun _ _ _ z => ⟨z.1, (DK.update hk.1).trans z.2⟩) (fun _ _ _ z => ⟨z.1, (DK.update hk.1).trans z.2⟩) _ _ (ih _ hk.2 h.2)⟩
  | choose | os | call | newGen | genState | resume | yield | fork | await => exact hk.elim
theorem wpAny_kp {α : Type} {M : Model} {A : Around} {t : Sem α} {Q : α → Shared → Prop} {E : Value → Shared → Prop} {s : Shared} (hk : Kp t) (h : wpAny M A t Q E s) : wpAny M A t (fun a s' => Q a s' ∧ DK s.heap s'.heap) (fun e s' => E e s' ∧ DK s.heap s'.heap) s :=
  fun Γ p hΓ => wp_kp hk (h Γ p hΓ)
theorem kp_load {a : Addr} : Kp (PySem.load a) := fun _ => True.intro
theorem kp_pure {α : Type} {a : α} : Kp (pure a : Sem α) := True.intro
theorem kp_un {α : Type} {w : String} : Kp (PySem.unsupported w : Sem α) := True.intro
theorem mapF_kept (g : Array Value → Array Value) (o : Obj) : (Obj.mapFields g o).dict = o.dict ∧ (o.isFreed = false → (Obj.mapFields g o).isFreed = false) := by
  unfold Obj.mapFields
  split
  · exact ⟨rfl, fun _ => rfl⟩
  · exact ⟨rfl, id⟩
theorem kp_fieldsOf {v : Value} : Kp (fieldsOf v) := by
  unfold fieldsOf
  split
  · refine kp_bind kp_load fun o => ?_
    split
    · exact kp_pure
    · exact kp_un
  · exact kp_un
theorem kp_field {v : Value} {i : Nat} : Kp (PySem.field v i) := by
  unfold PySem.field
  refine kp_bind kp_fieldsOf fun a => ?_
  split
  · exact kp_pure
  · exact kp_un
theorem kp_update {a : Addr} {f : Obj → Obj} (h : ∀ o : Obj, (f o).dict = o.dict ∧ (o.isFreed = false → (f o).isFreed = false)) : Kp (PySem.update a f) := ⟨h, True.intro⟩
theorem kp_setField {v x : Value} {i : Nat} : Kp (PySem.setField v i x) := by
  unfold PySem.setField
  split
  · unfold updateField
    refine kp_bind kp_load fun o => ?_
    split
    · split
      · exact kp_update fun o => mapF_kept _ o
      · exact kp_un
    · exact kp_un
  · exact kp_un
theorem kp_ite {α : Type} {c : Prop} [Decidable c] {a b : Sem α} (ha : Kp a) (hb : Kp b) : Kp (if c then a else b) := by split <;> assumption
theorem kp_stack : Kp PySem.stack := fun _ => True.intro
theorem kp_setFlight {e : Value} {o : Option Addr} : Kp (setFlight e o) := by
  unfold setFlight
  refine kp_bind kp_field fun tb => ?_
  split
  · exact kp_setField
  · exact kp_pure
theorem kp_newFields {c : String} {vs : List Value} : Kp (newFields c vs) := by
  have fin : Kp (newObjAsIs (.type c) (.fields vs.toArray)) := by
    unfold newObjAsIs
    exact kp_bind (fun _ => True.intro) fun a => kp_pure
  show Kp (if vs.toArray.size > sizeLine + 2 then (PySem.unsupported "record:memory" >>= fun _ => newObjAsIs (.type c) (.fields vs.toArray)) else newObjAsIs (.type c) (.fields vs.toArray))
  exact kp_ite (kp_bind kp_un fun _ => fin) fin
theorem kp_ready : ∀ l : List Env, Kp (readyFrames l)
  | [] => kp_pure
  | env :: outer => by
    unfold readyFrames
    split
    · refine kp_bind kp_load fun o => ?_
      split
      · exact kp_pure
      · refine kp_bind ?_ fun b => kp_bind ?_ fun back => kp_bind (kp_update fun o => ⟨rfl, ?_⟩) fun _ => kp_ready outer
        · unfold behindIsImport
          split
          · exact kp_pure
          · split
            · exact kp_pure
            · exact kp_bind kp_field fun _ => kp_pure
        · cases outer with
          | nil =>
            unfold keptBack
            refine kp_ite kp_pure (kp_bind ?_ fun _ => kp_pure)
            unfold underTheClaimsCaller
            exact kp_bind kp_stack fun _ => kp_pure
          | cons _ _ => exact kp_pure
        · intro h
          obtain ⟨a, b, c, d⟩ := o
          cases c <;> first | rfl | cases h
    · exact kp_un
theorem kp_frameOf {env : Env} : Kp (PySem.frameOf env) := by
  unfold PySem.frameOf
  refine kp_bind (kp_bind kp_stack fun _ => kp_pure) fun l => kp_bind ?_ fun o => ?_
  · unfold frameObject
    split
    · exact kp_pure
    · exact kp_bind (kp_ready _) fun _ => kp_pure
  · split
    · exact kp_pure
    · exact kp_un
theorem kp_entryPlaceOf {f : Addr} {b : Bool} : Kp (entryPlaceOf f b) := by
  unfold entryPlaceOf
  refine kp_bind kp_stack fun _ => ?_
  split <;> exact kp_pure
theorem kp_noteFrame {e : Value} {env : Env} : Kp (noteFrame e env) := by
  have last : ∀ (head : Value) (f : Addr) (b : Bool), Kp (do let a ← PySem.frameOf env; let pl ← entryPlaceOf f b; let n ← EntryCells.newEntry head a .none (rawInt f) .none pl; PySem.setField e 1 n) := fun head f b =>
    kp_bind kp_frameOf fun _ => kp_bind kp_entryPlaceOf fun _ => kp_bind (by unfold EntryCells.newEntry; exact kp_newFields) fun _ => kp_setField
  unfold noteFrame
  split
  · refine kp_bind kp_field fun head => ?_
    split
    · refine kp_bind kp_field fun v => ?_
      split
      · exact kp_pure
      · exact kp_bind kp_setField fun _ => last _ _ _
    · exact last _ _ _
  · exact kp_un
theorem kp_leaving {e : Value} {env : Env} : Kp (leaving env e) := by
  unfold leaving
  exact kp_bind kp_noteFrame fun _ => kp_setFlight
theorem kp_use {t : Sem Unit} {M : Model} {A : Around} {E : Value → Shared → Prop} {s : Shared} {R : Heap → Prop} {Q : Unit → Shared → Prop} (hk : Kp t) (h : ∀ Q0 : Unit → Shared → Prop, (∀ h', R h' → Q0 () { s with heap := h' }) → wpAny M A t Q0 E s) (k : ∀ h', R h' → DK s.heap h' → Q () { s with heap := h' }) : wpAny M A t Q E s :=
  wpAny_mono (wpAny_kp hk (h (fun _ s2 => ∃ h', s2 = { s with heap := h' } ∧ R h') fun h' r => ⟨h', rfl, r⟩)) (fun _ s2 ⟨⟨h', e, r⟩, dk⟩ => by subst e; exact k h' r dk) fun _ _ z => z.1
end My

namespace My
open PySem PySem.Spec PyProof.Rows L2 Mth
noncomputable def DictAt (h : Heap) (e : Addr) (dx : Option Addr) : Prop := ∃ ob, h.get? e = some ob ∧ ob.dict = dx
theorem DictAt.dk {h h' : Heap} {e : Addr} {dx : Option Addr} (x : DictAt h e dx) (k : DK h h') : DictAt h' e dx := by
  obtain ⟨ob, a, b⟩ := x
  obtain ⟨o', a', b'⟩ := k e ob a
  exact ⟨o', a', b'.trans b⟩
noncomputable def CXe (P : Program) (w : World) : CXT := fun outer H s E ev s' => ∃ (e t : Addr) (C : Value) (H' : Hp) (B : Heap), ev = .ref e ∧ s'.os = s.os ∧ AllBare s'.gens ∧ Un (frs outer) [] H H' s.heap s'.heap ∧ HOk P w H' s'.heap ∧
  Heap.FlyingW B outer e C (.ref t) s'.heap ∧ (∀ b o, s'.heap.get? b = some o → (H' b ≠ none ∨ s.heap.get? b ≠ none) → b ∉ frs outer → B.get? b = some o) ∧ ∃ dx, DictAt s'.heap e dx ∧ E C dx H'
theorem hok_tr {P : Program} {w : World} {H : Hp} {h h' : Heap} (x : HOk P w H h) (k : ∀ c v, H c ≠ none → h.get? c = some v → h'.get? c = some v) : HOk P w H h' := fun b u e =>
  (x b u e).stay (fun c v hc q => k c v (by
    rcases hc with z | z
    · rw [z, e]; simp
    · rw [z]; simp) q) (fun _ q => q) fun _ _ q => q
theorem un_fly {fs : List Addr} {H H' : Hp} {h h1 h2 B : Heap} {l : List Env} (hfs : ∀ b ∈ fs, b ∈ frs l) (u : Un fs [] H H' h h1) (fly1 : h1.FunFrames B l) (st : B.StaysIn h2) (up : h1.UpToSlots h2)
    (bk : ∀ b o, h1.get? b = some o → h.get? b ≠ none → b ∉ fs → B.get? b = some o) : Un fs [] H H' h h2 := by
  have fr : ∀ b o, h1.get? b = some o → b ∈ fs → ∃ sl, h2.get? b = some { o with slots := sl } := fun b o e hb => by
    obtain ⟨_, o', ho', hd⟩ := fly1.mem (hfs b hb)
    rw [e] at ho'
    cases ho'
    exact up b o e hd
  have kp : ∀ b o, h1.get? b = some o → h.get? b ≠ none → b ∉ fs → h2.get? b = some o := fun b o e ho hb => st b o (bk b o e ho hb)
  refine ⟨fun b o q n hb hx => ?_, fun b o q n hb hx => ?_, u.free, fun b o q hx => ?_, u.tups, u.frzs, u.tbls⟩
  · exact kp b o (u.keep b o q n hb hx) (by rw [q]; simp) hb
  · obtain ⟨sl, e⟩ := u.slot b o q n hb hx
    obtain ⟨sl', e'⟩ := fr b _ e hb
    exact ⟨sl', e'⟩
  · obtain ⟨o', e⟩ := u.there b o q hx
    by_cases hb : b ∈ fs
    · obtain ⟨sl, e'⟩ := fr b o' e hb
      exact ⟨_, e'⟩
    · exact ⟨o', kp b o' e (by rw [q]; simp) hb⟩
theorem obj_there {P : Program} {w : World} {H : Hp} {h : Heap} {a : Addr} {o : HO} (x : ObjOk P w H h a o) : ∃ u, h.get? a = some u := by
  cases o with
  | lst _ => exact let ⟨_, _, _, _, e⟩ := x; ⟨_, e⟩
  | tup _ => exact let ⟨_, _, _, u, e, _⟩ := x; ⟨u, e⟩
  | dK _ => exact let ⟨_, _, _, _, u, _, _, e, _⟩ := x; ⟨u, e⟩
  | dT _ => exact let ⟨_, _, _, _, u, _, _, e, _⟩ := x; ⟨u, e⟩
  | set _ _ => exact let ⟨u, _, _, _, e, _⟩ := x; ⟨u, e⟩
  | ins _ _ _ => exact let ⟨_, _, _, e, _⟩ := x; ⟨_, e⟩
  | own _ => exact x
  | xd _ => exact let ⟨_, ⟨u, _, _, e, _⟩, _⟩ := x; ⟨u, e⟩
  | rng _ _ => exact let ⟨_, _, _, e⟩ := x; ⟨_, e⟩
  | frz _ _ => exact ⟨_, x.1⟩
  | tbl _ => exact ⟨_, x⟩
  | met _ _ => exact ⟨_, x⟩
  | ext _ => exact x.2.1
section
variable {P : Program} {w : World} {K : PySem.W.Frag} {mg : Str → Option Value} {base : Heap} {N : List Str} {qual : Str} {scope : Scope} {f : Addr} {cd : Value} {A : Around} {outer : List Env} {s0 : Shared} {H0 : Hp} {E : XK}
theorem left_fin {pins : List (Addr × Obj)} {σ : L2.St} {H : Hp} {s : Shared} {B h2 : Heap} {e t : Addr} {C : Value} (I : L2.Inv (cxOf (CXe P w) P w K mg base N qual scope f cd A outer s0 H0 E) pins σ H s)
    (fly1 : s.heap.FunFrames B (envOfC qual scope s0.heap.objs.size f cd :: outer)) (bk : ∀ b o, s.heap.get? b = some o → (H b ≠ none ∨ s0.heap.get? b ≠ none) → b ∉ frs (envOfC qual scope s0.heap.objs.size f cd :: outer) → B.get? b = some o)
    {dx : Option Addr} (fly : Heap.FlyingW B outer e C (.ref t) h2) (up : s.heap.UpToSlots h2) (hd : DictAt h2 e dx) (hE : E C dx H) : CXe P w outer H0 s0 E (.ref e) { s with heap := h2 } := by
  have nL : ∀ b, s0.heap.get? b ≠ none → b ∉ frs outer → b ∉ frs (envOfC qual scope s0.heap.objs.size f cd :: outer) := fun b hb hn z => by
    rcases List.mem_cons.mp (show b ∈ s0.heap.objs.size :: frs outer from z) with q | q
    · cases g : s0.heap.get? b with
      | none => exact hb g
      | some o => exact absurd (Heap.lt_size g) (by rw [q]; exact Nat.lt_irrefl _)
    · exact hn q
  have sub : ∀ b ∈ frs outer, b ∈ frs (envOfC qual scope s0.heap.objs.size f cd :: outer) := fun b hb => List.mem_cons_of_mem _ hb
  have u : Un (frs outer) [] H0 H s0.heap s.heap := I.base
  have tr : ∀ c v, H c ≠ none → s.heap.get? c = some v → B.get? c = some v := fun c v hc q => bk c v q (.inl hc) fun z => hc (I.stkFree c z)
  refine ⟨e, t, C, H, B, rfl, I.os, I.bare, un_fly sub u fly1 fly.1 up fun b o q hb hn => bk b o q (.inr hb) (nL b hb hn), hok_tr I.hok fun c v hc q => fly.1 c v (tr c v hc q), fly, fun b o q hb hn => ?_, dx, hd, hE⟩
  have q : h2.get? b = some o := q
  rcases hb with hb | hb
  · cases g : H b with
    | none => exact absurd g hb
    | some ho =>
      obtain ⟨v, hv⟩ := obj_there (I.hok b ho g)
      have e1 := tr b v hb hv
      have := fly.1 b v e1
      rw [q] at this
      cases this
      exact e1
  · cases g : s0.heap.get? b with
    | none => exact absurd g hb
    | some o0 =>
      obtain ⟨v, hv⟩ := u.there b o0 g (by simp)
      have e1 := bk b v hv (.inr hb) (nL b hb hn)
      have := fly.1 b v e1
      rw [q] at this
      cases this
      exact e1
theorem left_made {pins : List (Addr × Obj)} {σ : L2.St} {H : Hp} {s : Shared} {h' : Heap} {e : Addr} {C : Value} {vs : List Value} (I : L2.Inv (cxOf (CXe P w) P w K mg base N qual scope f cd A outer s0 H0 E) pins σ H s) (hx : Heap.MadeExcOf s.heap h' e C vs) (hE : E C none H) :
    (cxOf (CXe P w) P w K mg base N qual scope f cd A outer s0 H0 E).xe (.ref e) { s with heap := h' } := by
  have I1 : L2.Inv (cxOf (CXe P w) P w K mg base N qual scope f cd A outer s0 H0 E) pins σ H { s with heap := h' } := I.kept (t' := s.toks) hx.keeps
  have hin : ∀ env ∈ (envOfC qual scope s0.heap.objs.size f cd :: outer), ∀ b, env.frame = some b → b ∈ frs (envOfC qual scope s0.heap.objs.size f cd :: outer) := fun env he b hb => List.mem_filterMap.mpr ⟨env, he, hb⟩
  have fr0 : s.heap.FunFrames (PySem.W.hideAll s.heap (frs (envOfC qual scope s0.heap.objs.size f cd :: outer))) (envOfC qual scope s0.heap.objs.size f cd :: outer) := PySem.W.funFrames_hide (base := base) I.stack hin
  obtain ⟨t9, ht9, _⟩ := hx.there
  refine kp_use (R := fun h2 => ∃ t, Heap.FlyingW _ outer e C (.ref t) h2 ∧ h'.UpToSlots h2) kp_leaving (fun Q0 hQ0 => wpAny_leaves_madeW I.ok.frames rfl (fun b o q => PySem.W.of_hideAll _ q) fr0 hx fun h2 t fly tup nt up => hQ0 h2 ⟨t, fly, up⟩) (fun h2 ⟨t, fly, up⟩ dk => ?_)
  refine left_fin I1 (fr0.of_keeps fun b o q _ => ⟨o, hx.keeps b o q, rfl⟩) (fun b o q hb hn => ?_) fly up (DictAt.dk ⟨_, ht9, rfl⟩ dk) hE
  have q : h'.get? b = some o := q
  have there : ∃ v, s.heap.get? b = some v := by
    rcases hb with hb | hb
    · cases g : H b with
      | none => exact absurd g hb
      | some ho => exact obj_there (I.hok b ho g)
    · cases g : s0.heap.get? b with
      | none => exact absurd g hb
      | some o0 => exact I.base.there b o0 g (show b ∉ ([] : List Addr) by simp)
  obtain ⟨v, hv⟩ := there
  have := hx.keeps b v hv
  rw [q] at this
  cases this
  exact PySem.W.hideAll_get _ hv hn
theorem pass_on : Passes (CXe P w) (cxOf (CXe P w) P w K mg base N qual scope f cd A outer s0 H0 E) E := by
  rintro pins σ H s ev s1 I ⟨e, t, C, H1, B, rfl, os, bare, un, hok, fly, bk, dx, hdx, hE⟩
  have J : L2.Inv (cxOf (CXe P w) P w K mg base N qual scope f cd A outer s0 H0 E) pins σ H1 s1 := I.call' (ch := []) os un hok bare fun b z => absurd z (by simp)
  refine kp_use (R := fun h2 => Heap.FlyingW B outer e C (.ref t) h2 ∧ s1.heap.UpToSlots h2) kp_leaving (fun Q0 hQ0 => wpAny_leaves_onW I.ok.frames rfl fly fun h2 fly2 up => hQ0 h2 ⟨fly2, up⟩) (fun h2 ⟨fly2, up⟩ dk => ?_)
  refine left_fin J fly.2.2.1 (fun b o q hb hn => bk b o q ?_ hn) fly2 up (hdx.dk dk) hE
  rcases hb with hb | hb
  · exact .inl hb
  · right
    cases g : s0.heap.get? b with
    | none => exact absurd g hb
    | some o0 =>
      obtain ⟨v, hv⟩ := I.base.there b o0 g (show b ∉ ([] : List Addr) by simp)
      rw [hv]
      simp
end
structure Xc (K : PySem.W.Frag) (mg : Str → Option Value) (x : Str) (C : Addr) : Prop where
  at_ : mg x = some (.ref C)
  is_ : PySem.W.excIn K C [.type "ValueError", .type "Exception", .type "BaseException", .type "object"] "ValueError.__new__" = true
  self_ : PySem.W.exmOne K (.ref C) (.ref C) = some true
theorem Xc.own {K : PySem.W.Frag} {mg : Str → Option Value} {x : Str} {C : Addr} {h : Heap} (X : K.In h) (c : Xc K mg x C) : OwnCls x C [.type "ValueError", .type "Exception", .type "BaseException", .type "object"] "ValueError.__new__" mg h := by
  have q := c.is_
  refine ⟨c.at_, ?_⟩
  unfold PySem.W.excIn at q
  split at q
  · next dd cd sl ho =>
    split at q
    · next C' bm a0 a1 a2 a3 n a5 hm hs =>
      simp only [Bool.and_eq_true, beq_iff_eq, Bool.not_eq_true'] at q
      obtain ⟨⟨⟨⟨⟨e1, e2⟩, e3⟩, e4⟩, e5⟩, e6⟩ := q
      subst e1 e2
      obtain ⟨f1, f2, f3, f4, f5, f6, f7, f8, f9, f10, f11⟩ := cd
      dsimp only at hm e3 e5 e6
      subst hm e3
      obtain ⟨sll⟩ := sl
      have hs' : sll = [a0, a1, a2, a3, some (.builtin _), a5] := hs
      subst hs'
      exact ⟨bm, f4, f1, f5, f2, f6, f7, f8, f9, f10, dd, a0, a1, a2, a3, a5, _, X _ _ ho, .of_isNs (PySem.W.isNs_of_in X e5), PySem.W.nsMap_none_of_in X e5 e6, PySem.W.tail_of_in X e4⟩
    · cases q
  · cases q
noncomputable def tRaise (ta : TA) (E : XK) (C : Addr) : TS := fun _ σ H => ta σ H fun vs H1 => vs.length ≤ sizeLine ∧ E (.ref C) none H1
section
variable {P : Program} {w : World} {K : PySem.W.Frag} {mg : Str → Option Value} {base : Heap} {N : List Str} {qual : Str} {scope : Scope} {f : Addr} {cd : Value} {A : Around} {outer : List Env} {s0 : Shared} {H0 : Hp} {E : XK}
theorem ps_raise {x : Str} {C : Addr} {a : Expr} {es : List Expr} {ta : TA} {np cpos pos : Pos} (c : Xc K mg x C) (hg : Gl (cxOf (CXe P w) P w K mg base N qual scope f cd A outer s0 H0 E) x)
    (ha : PA (cxOf (CXe P w) P w K mg base N qual scope f cd A outer s0 H0 E) (a :: es) ta) (hd : autoParam ((x == ("__debug__" : Str)) = false) au1_._auto_1)
    (he : autoParam (starEach (a :: es) (envOfC qual scope s0.heap.objs.size f cd) = (false, eval a (envOfC qual scope s0.heap.objs.size f cd)) :: starEach es (envOfC qual scope s0.heap.objs.size f cd)) au0_._auto_1)
    (hpl : autoParam ((backTo cpos (starEach es (envOfC qual scope s0.heap.objs.size f cd))).any (·.1) = false) au0_._auto_1) :
    PS (cxOf (CXe P w) P w K mg base N qual scope f cd A outer s0 H0 E) (.Raise (some (.Call (.Name x np) (a :: es) [] cpos)) none pos) (tRaise ta E C) := by
  intro pins s σ H D I h
  have O := c.own (show K.In base from I.ok.mod.kin)
  obtain ⟨tl, nsp, nm, q, bs, hdct, sn, sub, ab, col, dd, k0, k1, k2, k3, k5, mN, hC, hN, hni, T⟩ := O.obj
  refine wpAny_Raise_call_subT (C := C) (nm := nm) (q := q) (N := nsp) (bs := bs) (bm := tl) (hdct := hdct) (sn := sn) (sub := sub) (ab := ab) (col := col) (dd := dd) (k0 := k0) (k1 := k1) (k2 := k2) (k3 := k3) (k5 := k5) (mN := mN)
    PySem.F.excBase_ValueError (T.hasType (by decide)) (I.ok.hd rfl) ?_ hni ?_
  · show (backTo cpos (starEach (a :: es) (envOfC qual scope s0.heap.objs.size f cd))).any (·.1) = false
    rw [he]
    exact hpl
  refine wpAny_mono (L2.pe_glob hg c.at_ (show RelV (.ref C) (.ref C) from rfl) hd pins s σ H (fun v H1 => v = .ref C ∧ H1 = H) I ⟨rfl, rfl⟩) (fun v s1 ⟨y, H1, I1, r1, e1, e2⟩ => ?_) fun _ _ z => z
  subst e1 e2
  cases r1
  refine ⟨rfl, ?_⟩
  have hA := ha cpos pins s1 σ H1 _ I1 h
  have he' : starEach (a :: es) (cxOf (CXe P w) P w K mg base N qual scope f cd A outer s0 H0 E).env = (false, eval a (cxOf (CXe P w) P w K mg base N qual scope f cd A outer s0 H0 E).env) :: starEach es (cxOf (CXe P w) P w K mg base N qual scope f cd A outer s0 H0 E).env := he
  rw [he'] at hA ⊢
  refine Calls.evalArgs_plain (wpAny_mono hA (fun us s2 ⟨vs, H2, I2, r2, hl, hE⟩ => ?_) fun _ _ z => z)
  have kp : ∀ b o, base.get? b = some o → s2.heap.get? b = some o := fun b o e => (I2.bs b o e).1
  exact ⟨rfl, by rw [← r2.length]; exact hl, kp _ _ hC, hN.keeps kp, T.keeps kp, fun h' e hx => left_made I2 hx hE⟩
end
structure DnX (P : Program) (w : World) (K : PySem.W.Frag) (mg : Str → Option Value) (base : Heap) (k : Nat) (x : Str) (ps : List Str) (sp : Sp) : Prop where
  ex : ∃ (f : Addr) (fd : FuncData), FnOk P w K mg base (CXe P w) k f fd ps sp ∧ mg x = some (.ref f) ∧ PySem.W.keepIn K (.ref f) = true ∧ Binds K fd ps []
section
variable {X : Cx} {k : Nat} {x : Str} {ps : List Str} {sp : Sp} {p pos : Pos} {e : Expr} {es : List Expr} {t : TA} {E : XK}
theorem pe_dnX (D : DnX X.prog X.w X.K X.mg X.base k x ps sp) (hp : Passes (CXe X.prog X.w) X E) (hr : Room k X.A) (hg : Gl X x) (ha : PA X (e :: es) t) (hdb : autoParam ((x == ("__debug__" : Str)) = false) au1_._auto_1)
    (he : autoParam (starEach (e :: es) X.env = (false, eval e X.env) :: starEach es X.env) au0_._auto_1) (hpl : autoParam ((backTo pos (starEach es X.env)).any (·.1) = false) au0_._auto_1) : PE X (.Call (.Name x p) (e :: es) [] pos) (tCall sp [] E t) := by
  obtain ⟨f, fd, ok, hm, hk, hb⟩ := D.ex
  exact pe_call ok hr hg hm hk hb .nil hp ha hdb he hpl
end
section
variable {X : Cx} {pins : List (Addr × Obj)} {σ : L2.St} {H : Hp} {s : Shared}
theorem inv_in (I : L2.Inv X pins σ H s) (Ex : Value → Shared → Prop) : L2.Inv { X with pn := X.pn ++ pins, xe := Ex } [] σ H s :=
  ⟨⟨I.ok.mod, I.ok.kind, I.ok.glob, I.ok.blt, I.ok.above, I.ok.inj, I.ok.has, I.ok.cab, I.ok.hd, I.ok.frames, I.ok.stk, I.ok.exf, I.ok.bs, I.ok.bsz, I.ok.noex, I.ok.exfs, I.ok.funs, I.ok.frf⟩, I.os, I.bare, I.base, I.loc, I.cell, I.free, I.freeC,
    fun p hp => I.pin p (by simpa using hp), I.hok, I.len⟩
theorem inv_out {Ex : Value → Shared → Prop} {pins' : List (Addr × Obj)} (ok : X.Ok) (I : L2.Inv { X with pn := X.pn ++ pins, xe := Ex } pins' σ H s) : L2.Inv X pins σ H s :=
  ⟨ok, I.os, I.bare, I.base, I.loc, I.cell, I.free, I.freeC, fun p hp => I.pin p (List.mem_append_left _ hp), I.hok, I.len⟩
theorem inv_mark {Ex Ey : Value → Shared → Prop} {pn' pins' : List (Addr × Obj)} {e : Addr} (I : L2.Inv { X with pn := pn', xe := Ex } pins' σ H s) : L2.Inv { X with A := X.A.mark (some (.ref e)), calm := false, pn := pn', xe := Ey } pins' σ H s :=
  ⟨⟨I.ok.mod, I.ok.kind, I.ok.glob, I.ok.blt, I.ok.above, I.ok.inj, I.ok.has, I.ok.cab, fun z => absurd z Bool.false_ne_true, I.ok.frames, I.ok.stk, I.ok.exf, I.ok.bs, I.ok.bsz, I.ok.noex, I.ok.exfs, I.ok.funs, I.ok.frf⟩, I.os, I.bare, I.base, I.loc, I.cell, I.free, I.freeC, I.pin, I.hok, I.len⟩
theorem sp_by {X Y : Cx} {pins pins' : List (Addr × Obj)} {D : Ends} {fl : Flow} {s : Shared} (k : ∀ σ H, L2.Inv Y pins' σ H s → L2.Inv X pins σ H s) (h : SP Y pins' D fl s) : SP X pins D fl s := by
  cases fl with
  | next => exact let ⟨σ, H, I, q⟩ := h; ⟨σ, H, k σ H I, q⟩
  | brk => exact let ⟨σ, H, I, q⟩ := h; ⟨σ, H, k σ H I, q⟩
  | cont => exact let ⟨σ, H, I, q⟩ := h; ⟨σ, H, k σ H I, q⟩
  | ret u => exact let ⟨v, σ, H, I, r, q⟩ := h; ⟨v, σ, H, k σ H I, r, q⟩
end
theorem looks_ty {M : Model} {h : Heap} {a : Addr} {o : Obj} (e : h.get? a = some o) : PySem.W.Looks M h (typeOf (.ref a)) o.cls := ((PySem.W.Looks.ld e).andThen .now)
section
variable {X : Cx} {body suite : List Stmt} {b0 : Stmt} {tb : XK → TS} {ts : TS} {x : Str} {Cc : Addr} {np hpos pos : Pos}
end
section
variable {σ : L2.St} {H : Hp} {Q : VK} {D : Ends}
theorem r_callX {sp : Sp} {ts : TA} {E : XK} (h : ts σ H fun vs H1 => sp (vs ++ []) H1 Q E) : tCall sp [] E ts σ H Q := h
theorem r_raise {ta : TA} {E : XK} {C : Addr} (h : ta σ H fun vs H1 => vs.length ≤ sizeLine ∧ E (.ref C) none H1) : tRaise ta E C D σ H := h
end
end My
namespace Jd
open PySem PySem.Spec PyProof.Rows L2 My
section
variable {P : Program} {w : World} {K : PySem.W.Frag} {mg : Str → Option Value} {base : Heap} {N : List Str} {qual : Str} {scope : Scope} {f : Addr} {cd : Value} {A : Around} {outer : List Env} {s0 : Shared} {H0 : Hp} {E : XK}
theorem ps_raise {x : Str} {C : Addr} {a : Expr} {es : List Expr} {ta : TA} {np cpos pos : Pos} (c : Xc K mg x C) (hg : Gl (cxOf (CXe P w) P w K mg base N qual scope f cd A outer s0 H0 E) x)
    (ha : QA (cxOf (CXe P w) P w K mg base N qual scope f cd A outer s0 H0 E) (a :: es) ta) (hd : autoParam ((x == ("__debug__" : Str)) = false) au1_._auto_1)
    (he : autoParam (starEach (a :: es) (envOfC qual scope s0.heap.objs.size f cd) = (false, eval a (envOfC qual scope s0.heap.objs.size f cd)) :: starEach es (envOfC qual scope s0.heap.objs.size f cd)) au0_._auto_1)
    (hpl : autoParam ((backTo cpos (starEach es (envOfC qual scope s0.heap.objs.size f cd))).any (·.1) = false) au0_._auto_1) :
    QS (cxOf (CXe P w) P w K mg base N qual scope f cd A outer s0 H0 E) (.Raise (some (.Call (.Name x np) (a :: es) [] cpos)) none pos) (tRaise ta E C) := ⟨My.ps_raise c hg ha.h hd he hpl⟩
end
section
variable {X : Cx} {k : Nat} {x : Str} {ps : List Str} {sp : Sp} {p pos : Pos} {e : Expr} {es : List Expr} {t : TA} {E : XK}
theorem pe_dnX (D : DnX X.prog X.w X.K X.mg X.base k x ps sp) (hp : Passes (CXe X.prog X.w) X E) (hr : Room k X.A) (hg : Gl X x) (ha : QA X (e :: es) t) (hdb : autoParam ((x == ("__debug__" : Str)) = false) au1_._auto_1)
    (he : autoParam (starEach (e :: es) X.env = (false, eval e X.env) :: starEach es X.env) au0_._auto_1) (hpl : autoParam ((backTo pos (starEach es X.env)).any (·.1) = false) au0_._auto_1) : QE X (.Call (.Name x p) (e :: es) [] pos) (tCall sp [] E t) := ⟨My.pe_dnX D hp hr hg ha.h hdb he hpl⟩
end
section
variable {X : Cx} {body suite : List Stmt} {b0 : Stmt} {tb : XK → TS} {ts : TS} {x : Str} {Cc : Addr} {np hpos pos : Pos}
end
end Jd

namespace My
open PySem PySem.Spec PyProof.Rows L2 Mth
theorem inv_forget {X Y : Cx} {pins pins' : List (Addr × Obj)} {σ : L2.St} {H : Hp} {s : Shared} {h' : Heap} {m' : Str → Option Value} {tk : Nat} (ok : X.Ok) (I : L2.Inv Y pins' σ H s) (hn : h'.Ns X.env.locals m') (sb : Heap.SameBut X.env.locals s.heap h')
    (e1 : Y.env = X.env) (e2 : Y.s₀ = X.s₀) (e3 : Y.H₀ = X.H₀) (e4 : Y.fs = X.fs) (e5 : Y.ex = X.ex) (e6 : Y.prog = X.prog) (e7 : Y.w = X.w) (hp : ∀ p ∈ X.pn ++ pins, p ∈ Y.pn ++ pins') : L2.Inv X pins (List.replicate X.N.length none) H { s with heap := h', toks := tk } := by
  have cn := I.cne
  refine ⟨ok, by rw [← e2]; exact I.os, I.bare, ?_, ⟨m', hn, fun i x v _ q _ => ?_⟩, fun x c q => ?_, by rw [← e1]; exact I.free, fun x c q => I.freeC x c (by rw [e1]; exact q), fun p q => ?_, ?_, List.length_replicate⟩
  · have b := I.base
    rw [e2, e3, e4, e5] at b
    exact un_but b fun b hb => sb.2 b (fun z => absurd (Nat.lt_of_lt_of_le hb ok.above) (by rw [z]; exact Nat.lt_irrefl _))
  · rw [List.getElem?_replicate] at q
    split at q <;> cases q
  · obtain ⟨v, o, ho, hd⟩ := I.cell x c (by rw [e1]; exact q)
    exact ⟨v, o, (sb.2 c (by rw [← e1]; exact cn x c (by rw [e1]; exact q))).trans ho, hd⟩
  · obtain ⟨a, b, c, d, f⟩ := I.pin p (hp p q)
    exact ⟨(sb.2 p.1 (by rw [← e1]; exact c)).trans a, b, by rw [← e1]; exact c, by rw [← e4]; exact d, f⟩
  · rw [← e6, ← e7]
    exact hok_but I.hok (by rw [← e1]; exact I.free) fun b o hb q => (sb.2 b hb).trans q
noncomputable def tTryAsD (K : PySem.W.Frag) (n j : Nat) (tb : XK → TS) (Cc : Addr) (ts : Addr → Value → Option Addr → TS) : TS := fun D σ H =>
  tb (fun C dx H2 => PySem.W.exmOne K C (.ref Cc) = some true ∧ ∀ (e : Addr) (σ' : L2.St), σ'.length = n → ts e C dx { nx := fun _ _ => False, rt := D.rt } (σ'.set j (some (.ref e))) H2) D σ H
section
variable {X : Cx} {body suite : List Stmt} {b0 : Stmt} {tb : XK → TS} {ts : Addr → Value → Option Addr → TS} {x nm : Str} {j : Nat} {Cc : Addr} {np hpos pos : Pos}
theorem ps_tryAsD (hN : X.N.Nodup) (hj : X.N[j]? = some nm) (hl : X.env.scope.names.lookup nm = some .local) (hg : Gl X x) (hm : X.mg x = some (.ref Cc)) (hfr : X.env.frame = some X.env.locals) (hstk : X.stack = X.env :: X.outer)
    (hb : ∀ (pn' : List (Addr × Obj)) (xe' : Value → Shared → Prop) (E : XK), Passes (CXe X.prog X.w) { X with pn := pn', xe := xe' } E → PSs { X with pn := pn', xe := xe' } body (tb E))
    (hs : ∀ (e : Addr) (ob : Obj) (c : Value) (dx : Option Addr) (pn' : List (Addr × Obj)), (e, ob) ∈ pn' → ob.cls = c → ob.dict = dx → PySem.W.notCls ob = true → PSs { X with A := X.A.mark (some (.ref e)), calm := false, pn := pn', xe := fun _ _ => False } (b0 :: suite) (ts e c dx)) (hd : autoParam ((x == ("__debug__" : Str)) = false) au1_._auto_1) :
    PS X (.Try body [.ExceptHandler (some (.Name x np)) (some nm) (b0 :: suite) hpos] [] [] pos) (tTryAsD X.K X.N.length j tb Cc ts) := by
  intro pins s σ H D I h
  refine wpAny_Try_except ?_
  generalize hT : (fun (ev : Value) (s1 : Shared) => wpAny (model X.prog X.w) X.A (noteFrame ev X.env) (fun _ s2 => wpAny (model X.prog X.w) X.A (setFlight ev none) (fun _ s3 => wpAny (model X.prog X.w) X.A (handleBy ev X.env [.ExceptHandler (some (.Name x np)) (some nm) (b0 :: suite) hpos]) (SP X pins D) X.xe s3) X.xe s2) X.xe s1) = xeT
  have pas : Passes (CXe X.prog X.w) { X with pn := X.pn ++ pins, xe := xeT } (fun C dx H2 => PySem.W.exmOne X.K C (.ref Cc) = some true ∧ ∀ (e : Addr) (σ' : L2.St), σ'.length = X.N.length → ts e C dx { nx := fun _ _ => False, rt := D.rt } (σ'.set j (some (.ref e))) H2) := by
    rintro pins' σ' H1 s1 ev s2 I1 ⟨e, t, C, H2, B, rfl, os, bare, un, hok, fly, bk, dx, hdx, hx, hE⟩
    have J : L2.Inv { X with pn := X.pn ++ pins, xe := xeT } pins' σ' H2 s2 := I1.call' (ch := []) os un hok bare fun b z => absurd z (by simp)
    have inv : ∀ h5, Heap.FlyingW B X.stack e C (.ref t) h5 → s2.heap.UpToSlots h5 → L2.Inv { X with pn := X.pn ++ pins, xe := xeT } pins' σ' H2 { s2 with heap := h5 } := fun h5 fly5 up5 =>
      I1.call' (s' := { s2 with heap := h5 }) (ch := []) os (un_fly (fun b hb => hb) un fly.2.2.1 fly5.1 up5 fun b o q hb hn => bk b o q (.inr hb) hn)
        (hok_tr hok fun c v hc q => fly5.1 c v (bk c v q (.inl hc) fun z => hc (J.stkFree c z))) bare fun b z => absurd z (by simp)
    have fr : X.A.frames = some (X.env :: X.outer) := by rw [← hstk]; exact I.ok.frames
    have fly' : Heap.FlyingW B (X.env :: X.outer) e C (.ref t) s2.heap := by rw [← hstk]; exact fly
    subst hT
    refine kp_use (R := fun h4 => Heap.HeldW B (X.env :: X.outer) e C (.ref t) X.env.locals h4 ∧ s2.heap.UpToSlots h4) kp_noteFrame (fun Q0 hQ0 => wpAny_looks_onW fr hfr fly' fun h4 held up4 => hQ0 h4 ⟨held, up4⟩) (fun h4 ⟨held, up4⟩ dk4 => ?_)
    refine kp_use (R := fun h5 => Heap.FlyingW B (X.env :: X.outer) e C (.ref t) h5 ∧ h4.UpToSlots h5) kp_setFlight (fun Q0 hQ0 => wpAny_landsW held fun h5 fly5 up5 => hQ0 h5 ⟨fly5, up5⟩) (fun h5 ⟨fly5, up5⟩ dk5 => ?_)
    have fly5' : Heap.FlyingW B X.stack e C (.ref t) h5 := by rw [hstk]; exact fly5
    have J5 := inv h5 fly5' (up4.trans up5)
    obtain ⟨ob, hob, hcls⟩ := fly5.there
    refine wpAny_handleBy_cons ?_ (by intro q; cases q)
    refine codeAny_handlers_test ?_
    have J5m := inv_mark (Ey := fun _ _ => False) (e := e) J5
    refine ld_glob J5m hg hm ?_ hd
    have LT := looks_ty (M := model X.prog X.w) hob
    rw [hcls] at LT
    refine PySem.W.exm_one J5m.kIn LT hx _ _ _ _ (fun _ _ z => z) ?_
    refine codeAny_handlers_suite_as ?_
    refine kp_use (s := { s2 with heap := h5 }) (R := fun h6 => Heap.FlyingW B (X.env :: X.outer) e C (.ref t) h6 ∧ h5.UpToSlots h6) kp_setFlight (fun Q0 hQ0 => lands_againW (s := { s2 with heap := h5 }) fly5 fun h6 fly6 up6 => hQ0 h6 ⟨fly6, up6⟩) (fun h6 ⟨fly6, up6⟩ dk6 => ?_)
    have fly6' : Heap.FlyingW B X.stack e C (.ref t) h6 := by rw [hstk]; exact fly6
    have J6 := inv h6 fly6' ((up4.trans up5).trans up6)
    obtain ⟨ob6, vs6, _, _, _, h6e, ⟨h6c, _⟩, h6d, _⟩ := fly6.2.2.2
    have h6x : ob6.dict = dx := by
      obtain ⟨ob, a, b⟩ := hdx.dk (dk4.trans (dk5.trans dk6))
      have a : h6.get? e = some ob := a
      rw [h6e] at a
      cases a
      exact b
    have nfr : e ∉ frs X.stack := fun z => by
      obtain ⟨_, o, ho, hdd⟩ := fly6'.2.2.1.mem z
      rw [h6e] at ho
      cases ho
      exact hdd vs6 h6d
    have ne : H2 e = none := by
      cases g : H2 e with
      | none => rfl
      | some ho =>
        obtain ⟨o, hh⟩ := obj_there (J.hok e ho g)
        have := bk e o hh (.inl (by rw [g]; simp)) nfr
        rw [fly.2.1] at this
        cases this
    have nloc : e ≠ X.env.locals := fun z => nfr (by
      rw [hstk, z]
      exact List.mem_filterMap.mpr ⟨X.env, List.mem_cons_self, hfr⟩)
    have nfs : e ∉ X.fs := fun z => nfr (by rw [hstk]; exact List.mem_filterMap.mpr (let ⟨env, he, hf⟩ := List.mem_filterMap.mp z; ⟨env, List.mem_cons_of_mem _ he, hf⟩))
    have J6m := inv_mark (Ey := fun _ _ => False) (e := e) J6
    have J6h : L2.Inv { X with A := X.A.mark (some (.ref e)), calm := false, pn := (X.pn ++ pins) ++ [(e, ob6)], xe := fun _ _ => False } pins' σ' H2 { s2 with heap := h6 } :=
      ⟨⟨J6m.ok.mod, J6m.ok.kind, J6m.ok.glob, J6m.ok.blt, J6m.ok.above, J6m.ok.inj, J6m.ok.has, J6m.ok.cab, fun z => absurd z Bool.false_ne_true, J6m.ok.frames, J6m.ok.stk, J6m.ok.exf, J6m.ok.bs, J6m.ok.bsz, J6m.ok.noex, J6m.ok.exfs, J6m.ok.funs, J6m.ok.frf⟩, J6m.os, J6m.bare, J6m.base, J6m.loc, J6m.cell, J6m.free, J6m.freeC,
        fun p hp => by
          rcases List.mem_append.mp hp with z | z
          · rcases List.mem_append.mp z with y | y
            · exact J6m.pin p (List.mem_append_left _ y)
            · obtain rfl : p = (e, ob6) := by simpa using y
              exact ⟨h6e, ne, nloc, nfs, fun v z => by rw [h6d] at z; cases z⟩
          · exact J6m.pin p (List.mem_append_right _ z), J6m.hok, J6m.len⟩
    refine store_ok (X := { X with A := X.A.mark (some (.ref e)), calm := false, pn := (X.pn ++ pins) ++ [(e, ob6)], xe := fun _ _ => False }) J6h hN hj (.inl hl) (show RelV (.ref e) (.ref e) from rfl) (fun s7 I7 => ?_) (.inr hl)
    have rd := hE e σ' J6.len
    refine wpAny_mono (hs e ob6 C dx _ (by simp) h6c h6x (by unfold PySem.W.notCls; rw [h6d]) pins' s7 _ H2 _ I7 rd) (fun fl s8 q => ?_) fun _ _ z => z.elim
    cases fl with
    | next => exact let ⟨_, _, _, z⟩ := q; z.elim
    | brk => exact let ⟨_, _, _, z⟩ := q; z.elim
    | cont => exact let ⟨_, _, _, z⟩ := q; z.elim
    | ret u =>
      obtain ⟨v, σ3, H3, I8, r8, q8⟩ := q
      obtain ⟨m8, hn8, _⟩ := id I8.loc
      refine wpAny_nameGoes (m := m8) hl hn8 (by rw [I.ok.kind]; rfl) fun h9 m9 hn9 sb9 => ?_
      exact ⟨v, _, H3, inv_forget I.ok I8 hn9 sb9 rfl rfl rfl rfl rfl rfl rfl fun p hp => List.mem_append_left _ (List.mem_append_left _ hp), r8, q8⟩
  refine wpAny_mono (hb _ _ _ pas [] s σ H D (inv_in I _) h) (fun fl s1 q => ?_) fun ev s1 z => ?_
  · have q' := sp_by (fun σ H J => inv_out I.ok J) q
    cases fl with
    | next => exact wpAny_pure q'
    | brk => exact q'
    | cont => exact q'
    | ret u => exact q'
  · subst hT
    exact z
end
section
variable {X : Cx} {body suite : List Stmt} {b0 : Stmt} {tb : XK → TS} {ts : Addr → Value → TS} {x nm : Str} {j : Nat} {Cc : Addr} {np hpos pos : Pos}
end
section
variable {σ : L2.St} {H : Hp} {Q : VK} {D : Ends}
end
end My
namespace Jd
open PySem PySem.Spec PyProof.Rows L2 My
section
variable {X : Cx} {body suite : List Stmt} {b0 : Stmt} {tb : XK → TS} {ts : Addr → Value → TS} {x nm : Str} {j : Nat} {Cc : Addr} {np hpos pos : Pos}
theorem pe_xn {C : Addr} (hg : Gl X x) (c : Xc X.K X.mg x C) (hd : autoParam ((x == ("__debug__" : Str)) = false) au1_._auto_1) : QE X (.Name x pos) (tC (.ref C)) := ⟨L2.pe_glob hg c.at_ (show RelV (.ref C) (.ref C) from rfl) hd⟩
end
end Jd

namespace My
open PySem PySem.Spec PyProof.Rows L2 Mth
section
variable {X : Cx}
end
section
variable {prog : Program} {w : World} {A : Around} {E : Value → Shared → Prop} {h : Heap} {g : Array GenState} {d : Drawn} {tk : Nat} {os : OsState}
variable {nm q : Str} {C N e t0 : Addr} {dx : Option Addr} {bs bm bmB : List Value} {hdct : Bool} {sn : List Str} {sub : List Value} {ab : Bool} {col : Option Bool} {dd : Option Addr} {k0 k1 k2 k3 k5 : Option Value} {B newId initId : String}
end
section
variable {prog : Program} {w : World} {A : Around} {E : Value → Shared → Prop} {s : Shared} {env : Env}
variable {nm q : Str} {C N : Addr} {bs bm bmB : List Value} {hdct : Bool} {sn : List Str} {sub : List Value} {ab : Bool} {col : Option Bool} {dd : Option Addr} {k0 k1 k2 k3 k5 : Option Value} {B newId initId : String}
end
end My

namespace My
open PySem PySem.Spec PyProof.Rows L2 Mth
section
variable {prog : Program} {w : World} {A : Around} {E : Value → Shared → Prop} {h : Heap} {g : Array GenState} {d : Drawn} {tk : Nat} {os : OsState} {K : PySem.W.Frag}
variable {nm q : Str} {C N e t0 : Addr} {bs bm bmB : List Value} {sn : List Str} {sub : List Value} {ab : Bool} {col : Option Bool} {dd : Option Addr} {k0 k1 k2 k3 k5 : Option Value} {B newId owner : String} {name : Str} {v : Value}
end
end My

namespace My
open PySem PySem.Spec PyProof.Rows L2 Mth
noncomputable def ownInit (K : PySem.W.Frag) (C fI : Addr) : Bool := match K.lookup C with
  | some ⟨.type "type", _, .cls cd, sl⟩ => (match cd.mro, sl.toList with
    | .ref C' :: bm, [_, _, _, _, some (.builtin n), _] => C' == C && n == "ValueError.__new__" && !cd.hasDel && cd.hasDict && PySem.W.tailIn K [.type "ValueError", .type "Exception", .type "BaseException", .type "object"] bm && PySem.W.nsOkIn K cd.ns && PySem.W.nsIn K cd.ns "__init__" == some (some (.ref fI))
    | _, _ => false)
  | _ => false
section
variable {X : Cx}
end
end My

namespace My
open PySem PySem.Spec PyProof.Rows L2 Mth
section
variable {X : Cx}
end
section
variable {P : Program} {w : World} {K : PySem.W.Frag} {mg : Str → Option Value} {base : Heap} {N : List Str} {qual : Str} {scope : Scope} {f : Addr} {cd : Value} {A : Around} {outer : List Env} {s0 : Shared} {H0 : Hp} {E : XK}
end
end My

namespace My
open PySem PySem.Spec PyProof.Rows PySem.W
section
variable {prog : Program} {w : World} {A : Around} {E : Value → Shared → Prop} {s : Shared} {K : PySem.W.Frag} {x C : Addr} {ox : Obj} {od : Option Obj} {name : Str} {expr : Bool} {Q : Value → Shared → Prop} {v : Value}
end
structure Xg (K : PySem.W.Frag) (C : Addr) : Prop where
  ga : findIn K (.ref C) "__getattribute__" = some (some (.builtin "BaseException.__getattribute__"))
  gk : findIn K (.ref C) "__getattr__" = some none
  gm : mroIn K C (.type "BaseException") = some true
end My
namespace My
open PySem PySem.Spec PyProof.Rows L2 Mth
section
variable {X : Cx}
end
end My
namespace My
open PySem PySem.Spec PyProof.Rows L2 Mth
structure Xq (K : PySem.W.Frag) (C : Addr) : Prop where
  g : Xg K C
  hd : PySem.W.hasDictIn K C = true
  ha : PySem.W.findIn K (.ref C) "__class__" = some (some (.builtin "object.__class__"))
  hn : PySem.W.specialIn K (.builtin "object.__class__") "__get__" = some (some (.builtin "getset_descriptor.__get__"))
  htk : PySem.W.takesIn K (.builtin "object.__class__") = some true
  hm : PySem.W.mroIn K C (.type "object") = some true
section
open PySem.W
variable {prog : Program} {w : World} {A : Around} {E : Value → Shared → Prop} {s : Shared} {K : PySem.W.Frag} {x C : Addr} {ox : Obj} {od : Option Obj}
theorem findObj_dataO {a g : Value} {name : Str} (hc : (clsIn K C).isSome = true) (ha : findIn K (.ref C) name = some (some a)) (hg : specialIn K a "__get__" = some (some g)) (ht : takesIn K a = some true) : findObj K C od name = some (.bind g a) := by
  obtain ⟨cd, hc⟩ := Option.isSome_iff_exists.mp hc
  unfold findObj
  rw [hc, Option.bind_some, ha, Option.bind_some]
  simp [hg, ht]
theorem getxc {Q : Option Value → Shared → Prop} (q : Xq K C) (X : K.In s.heap) (I : PySem.W.InstAt s.heap x ox C od) (h : Q (some (.ref C)) { s with toks := s.toks + 1 }) : wpAny (model prog w) A (getAttr? (.ref x) "__class__") Q E s := by
  obtain ⟨hh', g, d, t, os⟩ := s
  have hf : findObj K C od "__class__" = some (.bind (.builtin "getset_descriptor.__get__") (.builtin "object.__class__")) := findObj_dataO (by obtain ⟨cd, hc, _⟩ := any_some q.hd; rw [hc]; rfl) q.ha q.hn q.htk
  have L0 := I.type (M := model prog w)
  have L1 := looks_findIn (M := model prog w) X q.g.ga
  have L2 := looks_find (M := model prog w) X I hf
  have FX := PySem.F.excAttr_ValueError
  unfold getAttr? getAttrBy? getAttrBy
  refine wpAny_bind (wpAny_mkText (wpAny_bind (wpAny_attempt (wpAny_holding (wpAny_bind (L0.at (wpAny_bind (L1.at ?_))))))))
  show wpAny _ _ (if (onTheHeap (Value.ref C) && (Value.builtin "BaseException.__getattribute__") == Value.builtin "object.__getattribute__") = true then _ else getAttrByItsOwn _ _ _ _ _ _) _ _ _
  rw [if_neg (by show ¬ ((true && _) = true); decide +kernel)]
  unfold getAttrByItsOwn
  refine wpAny_bind ((looks_hook (M := model prog w) (mc := .ref C) X (r := none) (show (if true = true then _ else _) = _ from by rw [if_pos rfl]; exact q.g.gk)).at ?_)
  refine wpAny_bind (wpAny_attempt (wpAny_holding ?_))
  unfold callGetattribute
  have sub : Looks (model prog w) hh' (isInstance (.ref x) (.type "BaseException")) true := L0.andThen (looks_mroIn X q.g.gm)
  rw [if_neg (show ¬ ((false && onTheHeap (Value.builtin "BaseException.__getattribute__")) = true) by decide)]
  unfold boundAndCalled
  have f3 := FX.ga.bind (.ref x)
  rw [f3]
  refine wpAny_bind (wpAny_pure ?_)
  refine wpAny_call (codeAny_call_builtin FX.ga.plain PySem.F.entry_bexc_ga (@check_slot (model prog w) _ _ ⟨hh', g, d, t + 1, os⟩ "BaseException.__getattribute__" "BaseException" "__getattribute__" (.ref x) [.str "__class__" t] [] _ (by decide +kernel) (by decide +kernel) sub (PySem.F.args_bexc_ga _ _) ?_))
  refine wpAny_bind (wpAny_pure (wpAny_bind (wpAny_pure (wpAny_bind (L0.at (wpAny_bind (L2.at ?_)))))))
  show wpAny _ _ (holding [Value.builtin "object.__class__"] (call (.builtin "getset_descriptor.__get__") [.builtin "object.__class__", .ref x, .ref C]) >>= _) _ _ _
  refine wpAny_bind (wpAny_holding (wpAny_call (class_get (s := ⟨hh', g, d, t + 1, os⟩) (ox := ox) (od := od) X I q.hm ?_)))
  refine wpAny_pure ?_
  show wpAny _ _ (handedOut (Value.ref C)) _ _ _
  rw [handedOut_of rfl]
  exact wpAny_pure (wpAny_pure h)
theorem kitx_exc (q : Xq K C) : KitX K (.ref x) (.ref C) (fun h => PySem.W.InstAt h x ox C od) where
  ty := fun _ _ _ I => I.type
  it := fun _ _ X _ => by
    obtain ⟨cdD, hcD, _⟩ := any_some q.hd
    unfold clsIn at hcD
    split at hcD
    · rename_i c' d' cd' sl' ho
      intro A' Q' E' s' k q
      unfold isType loadHead
      exact wpAny_bind (wpAny_loadPart (k _ _ (X _ _ ho)) (wpAny_pure q))
    · cases hcD
  ne := fun h tp dd its n sl X htp => by
    obtain ⟨cdD, hcD, _⟩ := any_some q.hd
    refine Bool.eq_false_iff.mpr fun q => ?_
    have e : C = tp := Value.ref.inj (beq_iff_eq.mp q)
    subst e
    unfold clsIn at hcD
    split at hcD
    · rename_i c' d' cd' sl' ho
      have z := (X _ _ ho).symm.trans htp
      cases z
    · cases hcD
  ca := fun X I k => getxc q X I k
end
inductive ClsV : V → Value → Prop
  | own (C : Addr) : ClsV (.ref C) (.ref C)
  | ty (n : String) : ClsV (.ty n) (.type n)
noncomputable def rIsq (K : PySem.W.Frag) (e : Addr) (c : Value) (dx : Option Addr) : List V → Hp → VK → Prop := fun xs H Q => ∃ (C : Addr) (y : V) (cv : Value) (b : Bool), xs = [.ref e, y] ∧ ClsV y cv ∧ c = .ref C ∧ (∀ d, dx = some d → ∃ fs, H d = some (.xd fs)) ∧ Xq K C ∧ PySem.W.kitOne K (.ref C) cv = some b ∧ Q (.bl b) H
theorem isqC {X : Cx} {e : Addr} {ob : Obj} {c : Value} {dx : Option Addr} (h : (e, ob) ∈ X.pn) (hc : ob.cls = c) (hd : ob.dict = dx) (hno : PySem.W.notCls ob = true) : CallR X (.builtin "isinstance") (rIsq X.K e c dx) := by
  intro pins s σ H xs us Q I r q
  obtain ⟨C, y, cv, b, rfl, hy, ec, hH, x, hk, q⟩ := q
  obtain ⟨u1, u2, rfl, r1, r2⟩ := vals2 r
  cases (show u1 = Value.ref e from r1)
  have hu2 : u2 = cv := by cases hy <;> exact r2
  subst hu2
  have he := (I.pin (e, ob) (List.mem_append_left _ h)).1
  cases dx with
  | none =>
    have J : PySem.W.InstAt s.heap e ob C none := ⟨he, hc.trans ec, hno, by rw [hd]; trivial⟩
    exact PySem.W.kia_one (kitx_exc x) I.kIn J hk (fun z => nomatch z) fun tk => ⟨.bl b, H, I.tok tk, rfl, q⟩
  | some d =>
    obtain ⟨fs, hH⟩ := hH d rfl
    obtain ⟨mA, hns, _⟩ := I.hok d _ hH
    obtain ⟨od, hod, hlk⟩ := lookIn_ns hns
    have J : PySem.W.InstAt s.heap e ob C (some od) := ⟨he, hc.trans ec, hno, by rw [hd]; exact hod⟩
    exact PySem.W.kia_one (kitx_exc x) I.kIn J hk (fun z => nomatch z) fun tk => ⟨.bl b, H, I.tok tk, rfl, q⟩
theorem isqK {X : Cx} (K : PySem.W.Frag) {e : Addr} {ob : Obj} {c : Value} {dx : Option Addr} (h : (e, ob) ∈ X.pn) (hc : ob.cls = c) (hd : ob.dict = dx) (hno : PySem.W.notCls ob = true) (hK : autoParam (X.K = K) au0_._auto_1) : CallR X (.builtin "isinstance") (rIsq K e c dx) := hK ▸ isqC h hc hd hno
end My

namespace Jd
open PySem PySem.Spec PyProof.Rows L2 My
section
variable {X : Cx}
end
section
variable {P : Program} {w : World} {K : PySem.W.Frag} {mg : Str → Option Value} {base : Heap} {N : List Str} {qual : Str} {scope : Scope} {f : Addr} {cd : Value} {A : Around} {outer : List Env} {s0 : Shared} {H0 : Hp} {E : XK}
end
section
variable {X : Cx} {body suite : List Stmt} {b0 : Stmt} {tb : XK → TS} {ts : Addr → Value → Option Addr → TS} {x nm : Str} {j : Nat} {Cc : Addr} {np hpos pos : Pos}
theorem ps_tryAsD (hN : X.N.Nodup) (hj : X.N[j]? = some nm) (hl : X.env.scope.names.lookup nm = some .local) (hg : Gl X x) (hm : X.mg x = some (.ref Cc)) (hfr : X.env.frame = some X.env.locals) (hstk : X.stack = X.env :: X.outer)
    (hb : ∀ (pn' : List (Addr × Obj)) (xe' : Value → Shared → Prop) (E : XK), Passes (CXe X.prog X.w) { X with pn := pn', xe := xe' } E → QSs { X with pn := pn', xe := xe' } body (tb E))
    (hs : ∀ (e : Addr) (ob : Obj) (c : Value) (dx : Option Addr) (pn' : List (Addr × Obj)), (e, ob) ∈ pn' → ob.cls = c → ob.dict = dx → PySem.W.notCls ob = true → QSs { X with A := X.A.mark (some (.ref e)), calm := false, pn := pn', xe := fun _ _ => False } (b0 :: suite) (ts e c dx)) (hd : autoParam ((x == ("__debug__" : Str)) = false) au1_._auto_1) :
    QS X (.Try body [.ExceptHandler (some (.Name x np)) (some nm) (b0 :: suite) hpos] [] [] pos) (tTryAsD X.K X.N.length j tb Cc ts) :=
  ⟨My.ps_tryAsD hN hj hl hg hm hfr hstk (fun pn' xe' E hp => (hb pn' xe' E hp).h) (fun e ob c dx pn' h1 h2 h3 h4 => (hs e ob c dx pn' h1 h2 h3 h4).h) hd⟩
end
end Jd
namespace My
open PySem PySem.Spec PyProof.Rows L2 Mth
section
variable {σ : L2.St} {H : Hp} {Q : VK} {K : PySem.W.Frag} {ta : TA} {te to : TE}
theorem r_tryAsD {n j : Nat} {tb : XK → TS} {Cc : Addr} {ts : Addr → Value → Option Addr → TS} {D : Ends} (h : tb (fun C dx H2 => PySem.W.exmOne K C (.ref Cc) = some true ∧ ∀ (e : Addr) (σ' : L2.St), σ'.length = n → ts e C dx { nx := fun _ _ => False, rt := D.rt } (σ'.set j (some (.ref e))) H2) D σ H) : tTryAsD K n j tb Cc ts D σ H := h
end
end My

namespace My
open PySem PySem.Spec PyProof.Rows L2 Mth
section
variable {X : Cx} {Xe : Value → Shared → Prop} {pins pins' : List (Addr × Obj)} {σ : L2.St} {H : Hp} {B : Heap} {e t Cc : Addr} {C : Value} {dx : Option Addr} {s : Shared} {suite : List Stmt} {b0 : Stmt} {x nm : Str} {j : Nat} {np hpos : Pos} {rest : List ExceptHandler} {D : Ends} {ts : Addr → Value → Option Addr → TS} {nmo : Option Str}
end
section
variable {X : Cx} {k : Nat} {xf : Str} {ps : List Str} {sp : Sp} {p pos epos : Pos} {ae : Expr} {es : List Expr} {ta : TA} {x1 x2 nm : Str} {j : Nat} {C1 C2 : Addr} {b1 b2 : Stmt} {su1 su2 : List Stmt} {np1 hp1 np2 hp2 tpos : Pos} {t1 t2 : Addr → Value → Option Addr → TS}
end
end My
namespace Jd
open PySem PySem.Spec PyProof.Rows L2 My
section
variable {X : Cx} {k : Nat} {xf : Str} {ps : List Str} {sp : Sp} {p pos epos : Pos} {ae : Expr} {es : List Expr} {ta : TA} {x1 x2 nm : Str} {j : Nat} {C1 C2 : Addr} {b1 b2 : Stmt} {su1 su2 : List Stmt} {np1 hp1 np2 hp2 tpos : Pos} {t1 t2 : Addr → Value → Option Addr → TS}
theorem pe_xi {x : Str} {pos : Pos} {C : Addr} (hg : Gl X x) (hm : X.mg x = some (.ref C)) (hd : autoParam ((x == ("__debug__" : Str)) = false) au1_._auto_1) : QE X (.Name x pos) (tC (.ref C)) := ⟨L2.pe_glob hg hm (show RelV (.ref C) (.ref C) from rfl) hd⟩
end
end Jd
namespace My
open PySem PySem.Spec PyProof.Rows L2 Mth
theorem boot_ValueError : bootBuiltins "ValueError" = some (.type "ValueError") := by decide +kernel
noncomputable def xqB (K : PySem.W.Frag) (C : Addr) : Bool :=
  PySem.W.findIn K (.ref C) "__getattribute__" == some (some (.builtin "BaseException.__getattribute__")) && (PySem.W.findIn K (.ref C) "__getattr__" == some none && (PySem.W.mroIn K C (.type "BaseException") == some true && (PySem.W.hasDictIn K C && (PySem.W.findIn K (.ref C) "__class__" == some (some (.builtin "object.__class__")) &&
  (PySem.W.specialIn K (.builtin "object.__class__") "__get__" == some (some (.builtin "getset_descriptor.__get__")) && (PySem.W.takesIn K (.builtin "object.__class__") == some true && PySem.W.mroIn K C (.type "object") == some true))))))
theorem xq_of {K : PySem.W.Frag} {C : Addr} (h : xqB K C = true) : Xq K C := by
  unfold xqB at h
  rw [Bool.and_eq_true, Bool.and_eq_true, Bool.and_eq_true, Bool.and_eq_true, Bool.and_eq_true, Bool.and_eq_true, Bool.and_eq_true] at h
  obtain ⟨a, b, c, d, e, f, g, i⟩ := h
  exact ⟨⟨beq_iff_eq.mp a, beq_iff_eq.mp b, beq_iff_eq.mp c⟩, d, beq_iff_eq.mp e, beq_iff_eq.mp f, beq_iff_eq.mp g, beq_iff_eq.mp i⟩
end My

namespace My
open PySem PySem.Spec PyProof.Rows L2 Mth
section
variable {σ : L2.St} {H : Hp} {R : It → Hp → Prop}
end
end My
namespace Jd
open PySem PySem.Spec PyProof.Rows L2 My
end Jd

namespace My
open PySem PySem.Spec PyProof.Rows L2 Mth
section
variable {X : Cx} {a : Expr} {ta : TA} {p pos : Pos} {elts : List Expr} {kt : Nat} {tpos : Pos}
end
section
variable {σ : L2.St} {H : Hp} {K : PySem.W.Frag}
end
section
variable {σ : L2.St} {H : Hp} {D : Ends}
end
section
variable {X : Cx}
end
end My
namespace Jd
open PySem PySem.Spec PyProof.Rows L2 My
end Jd

namespace My
open PySem PySem.Spec PyProof.Rows L2 Mth
section
variable {σ : L2.St} {H : Hp} {Q : VK} {K : PySem.W.Frag} {f m x : Str} {to tv : TE} {t : TA} {D : Ends} {C a dx : Addr} {fs : List (Str × V)} {fn : List Str} {mg : Str → Option Value} {v y : V} {N : Hp → Prop} {sp : Sp}
end
end My
namespace Jd
open PySem PySem.Spec PyProof.Rows L2 My
section
variable {X : Cx} {k : Nat} {x m f : Str} {ps : List Str} {sp : Sp} {p pos apos : Pos} {o e value : Expr} {es : List Expr} {to tv : TE} {t : TA} {C : Addr}
end
end Jd

namespace My
open PySem PySem.Spec PyProof.Rows L2 Mth
theorem rvsC {X : Cx} (K : PySem.W.Frag) {o : Expr} {to : TE} {apos cpos : Pos} (ho : PE X o to) (h : autoParam (X.K = K) au0_._auto_1) (hbase : autoParam (attributeBase o "reverse" X.env (eval o X.env) = eval o X.env) au0_._auto_1) (hline : autoParam ((apos.endLine == cpos.line) = true) au0_._auto_1) :
    PE X (.Call (.Attribute o "reverse" apos) [] [] cpos) (tUn (fun x H Q => tyV K "list" x H ∧ rReverse x [] H Q) to) :=
  h ▸ pe_bm0 PySem.F.plainAttrs_list PySem.F.slot_list_reverse PySem.F.type_list_reverse mt_reverse ho hbase hline
theorem r_rvs {p : Addr} {xs : List V} {H : Hp} {Q : VK} (h : H p = some (.lst xs)) (q : Q .non (upd H p (.lst xs.reverse))) : rReverse (.ref p) [] H Q := ⟨p, xs, rfl, rfl, h, q⟩
end My
namespace Jd
open PySem PySem.Spec PyProof.Rows L2 Mth
theorem rvsC {X : Cx} (K : PySem.W.Frag) {o : Expr} {to : TE} {apos cpos : Pos} (ho : QE X o to) (h : autoParam (X.K = K) au0_._auto_1) (hbase : autoParam (attributeBase o "reverse" X.env (eval o X.env) = eval o X.env) au0_._auto_1) (hline : autoParam ((apos.endLine == cpos.line) = true) au0_._auto_1) :
    QE X (.Call (.Attribute o "reverse" apos) [] [] cpos) (tUn (fun x H Q => tyV K "list" x H ∧ rReverse x [] H Q) to) := ⟨My.rvsC K ho.h h hbase hline⟩
end Jd
namespace L2
open PySem PySem.Spec PyProof.Rows
theorem lenS {α : Type} {n : Nat} : ∀ {us : List α}, us.length = n + 1 → ∃ (a : α) (as : List α), us = a :: as ∧ as.length = n
  | [], h => nomatch h
  | a :: as, h => ⟨a, as, rfl, Nat.succ.inj h⟩
theorem len0 {α : Type} : ∀ {us : List α}, us.length = 0 → us = []
  | [], _ => rfl
  | _ :: _, h => nomatch h
theorem Fun.binds1 {K : PySem.W.Frag} {x qual : Str} {st : Stmt} {f : Addr} {fd : FuncData} {pa : Str} (F : Fun K x qual st f fd) (h : ∀ (kV doc pm : Value) (an : Option Addr) (cdv ct ua : Value), bindArgs (PySem.W.fnOf x qual (defArgs st) (defBody st) (defScope st) .none kV doc pm an cdv ct) ⟨[ua], []⟩ = pure [(pa, ua)]) : Binds K fd [pa] [] :=
  F.binds fun kV doc pm an cdv ct us hl => by
    obtain ⟨ua, us0, rfl, hl0⟩ := lenS (n := 0) hl
    obtain rfl := len0 hl0
    exact h kV doc pm an cdv ct ua
theorem Fun.binds2 {K : PySem.W.Frag} {x qual : Str} {st : Stmt} {f : Addr} {fd : FuncData} {pa pb : Str} (F : Fun K x qual st f fd) (h : ∀ (kV doc pm : Value) (an : Option Addr) (cdv ct ua ub : Value), bindArgs (PySem.W.fnOf x qual (defArgs st) (defBody st) (defScope st) .none kV doc pm an cdv ct) ⟨[ua, ub], []⟩ = pure [(pa, ua), (pb, ub)]) : Binds K fd [pa, pb] [] :=
  F.binds fun kV doc pm an cdv ct us hl => by
    obtain ⟨ua, us1, rfl, hl1⟩ := lenS (n := 1) hl
    obtain ⟨ub, us0, rfl, hl0⟩ := lenS (n := 0) hl1
    obtain rfl := len0 hl0
    exact h kV doc pm an cdv ct ua ub
theorem Fun.binds3 {K : PySem.W.Frag} {x qual : Str} {st : Stmt} {f : Addr} {fd : FuncData} {pa pb pc : Str} (F : Fun K x qual st f fd) (h : ∀ (kV doc pm : Value) (an : Option Addr) (cdv ct ua ub uc : Value), bindArgs (PySem.W.fnOf x qual (defArgs st) (defBody st) (defScope st) .none kV doc pm an cdv ct) ⟨[ua, ub, uc], []⟩ = pure [(pa, ua), (pb, ub), (pc, uc)]) : Binds K fd [pa, pb, pc] [] :=
  F.binds fun kV doc pm an cdv ct us hl => by
    obtain ⟨ua, us2, rfl, hl2⟩ := lenS (n := 2) hl
    obtain ⟨ub, us1, rfl, hl1⟩ := lenS (n := 1) hl2
    obtain ⟨uc, us0, rfl, hl0⟩ := lenS (n := 0) hl1
    obtain rfl := len0 hl0
    exact h kV doc pm an cdv ct ua ub uc
end L2
namespace My
open PySem PySem.Spec PyProof.Rows L2
theorem seq_cut {t u : TS} {D : Ends} {σ : L2.St} {H : Hp} (Pv : L2.St → Hp → Prop) (rest : ∀ σ' H', Pv σ' H' → u D σ' H') (h : ∀ N : L2.St → Hp → Prop, (∀ σ' H', Pv σ' H' → N σ' H') → t { D with nx := N } σ H) : tSeq t u D σ H := h (u D) rest
end My

namespace My
open PySem PySem.Spec PyProof.Rows L2 Mth
end My
namespace Jd
open PySem PySem.Spec PyProof.Rows L2 Mth
end Jd

namespace My
open PySem PySem.Spec PyProof.Rows L2 Mth
section
variable {X : Cx} {a b : Expr} {ta : TA} {p pos : Pos} {elts : List Expr} {kt : Nat} {tpos : Pos}
end
section
variable {σ : L2.St} {H : Hp} {K : PySem.W.Frag}
end
section
variable {n : Nat} {cap : List Nat} {g : TG} {tt : TT} {te : TE} {σ : L2.St} {H : Hp} {Q : VK} {K : PySem.W.Frag}
end
end My
namespace Jd
open PySem PySem.Spec PyProof.Rows L2 My
end Jd

namespace My
open PySem PySem.Spec PyProof.Rows L2 Mth
noncomputable def Fx (K : PySem.W.Frag) (x : Str) (st : Stmt) : Prop := ∃ (f : Addr) (fd : FuncData), PySem.W.nsIn K mainGlobals x = some (some (.ref f)) ∧ Fun K x x st f fd
noncomputable def Fm (K : PySem.W.Frag) (C : Addr) (m q : Str) (st : Stmt) : Prop := ∃ (f : Addr) (fd : FuncData), PySem.W.findIn K (.ref C) m = some (some (.ref f)) ∧ PySem.W.isFn K (.ref f) = true ∧ Fun K m q st f fd
noncomputable def Fi (K : PySem.W.Frag) (C : Addr) (q : Str) (st : Stmt) : Prop := ∃ (f : Addr) (fd : FuncData), PySem.W.findIn K (.ref C) "__init__" = some (some (.ref f)) ∧ ownInit K C f = true ∧ PySem.W.isFn K (.ref f) = true ∧ Fun K "__init__" q st f fd
section
variable {K : PySem.W.Frag} {x m q : Str} {st : Stmt} {f C : Addr} {oc : Value} {od an : Option Addr} {osl : Array (Option Value)} {kV doc pm cdv ct : Value}
theorem fx_mk (a : PySem.W.nsIn K mainGlobals x = some (some (.ref f))) (l : K.lookup f = some ⟨oc, od, .func (PySem.W.fnOf x x (defArgs st) (defBody st) (defScope st) .none kV doc pm an cdv ct), osl⟩) (c : PySem.W.codeIn K cdv x = true) (k : PySem.W.keepIn K (.ref f) = true) : Fx K x st := ⟨f, _, a, fun_mk l c k⟩
theorem fi_mk (a : PySem.W.findIn K (.ref C) "__init__" = some (some (.ref f))) (o : ownInit K C f = true) (i : PySem.W.isFn K (.ref f) = true) (l : K.lookup f = some ⟨oc, od, .func (PySem.W.fnOf "__init__" q (defArgs st) (defBody st) (defScope st) .none kV doc pm an cdv ct), osl⟩) (c : PySem.W.codeIn K cdv q = true) (k : PySem.W.keepIn K (.ref f) = true) : Fi K C q st := ⟨f, _, a, o, i, fun_mk l c k⟩
theorem fm_mk (a : PySem.W.findIn K (.ref C) m = some (some (.ref f))) (i : PySem.W.isFn K (.ref f) = true) (l : K.lookup f = some ⟨oc, od, .func (PySem.W.fnOf m q (defArgs st) (defBody st) (defScope st) .none kV doc pm an cdv ct), osl⟩) (c : PySem.W.codeIn K cdv q = true) (k : PySem.W.keepIn K (.ref f) = true) : Fm K C m q st := ⟨f, _, a, i, fun_mk l c k⟩
end
section
variable (P : Program) (w : World) (base : Heap) {K : PySem.W.Frag} {mg : Str → Option Value} {h : Heap} {k : Nat} {x m q : Str} {ps : List Str} {sp : Sp} {st : Stmt} {f C : Addr} {fd : FuncData}
theorem dnm (X : K.In h) (G : h.Ns mainGlobals mg) (a : PySem.W.nsIn K mainGlobals x = some (some (.ref f))) (F : Fun K x x st f fd) (ok : FnOk P w K mg base CX0 k f fd ps sp) (b : Binds K fd ps []) : Dn P w K mg base k x ps sp := dn_mk F ok (PySem.W.mg_of X G a) b
end
end My

namespace My
open PySem PySem.Spec PyProof.Rows L2 Mth
noncomputable def bls (bs : List Bool) : List V := bs.map V.bl
noncomputable def rAll (K : PySem.W.Frag) : List V → Hp → VK → Prop := fun xs H Q => ∃ (l : Addr) (bs : List Bool), xs = [.ref l] ∧ SqL K H l (bls bs) ∧ Q (.bl (bs.all id)) H
theorem bools_of : ∀ {bs : List Bool} {its : List Value}, Vals (bls bs) its → PyProof.Rows.LSm.BoolsAre its bs
  | [], _, .nil => .nil
  | b :: _, _, .cons r rr => by
    cases (show _ = Value.bool b from r)
    exact .cons b (bools_of rr)
theorem allC {X : Cx} (K : PySem.W.Frag) (hc : X.calm = true) (hK : autoParam (X.K = K) au0_._auto_1) : CallR X (.builtin "all") (rAll K) := by
  subst hK
  intro pins s σ H xs us Q I r h
  obtain ⟨l, bs, rfl, hq, q⟩ := h
  obtain ⟨u, rfl, rx⟩ := vals1 r
  cases rx
  obtain ⟨its, rv, p, hz⟩ := I.list hq
  have hb := bools_of rv
  have hl := p.isList
  have hlt : l < s.heap.objs.size := by obtain ⟨_, e, _⟩ := hl; exact Heap.lt_size e
  refine call_all_walk (wpAny_pyIter_list hl ⟨s.heap.objs.size, [s.heap.objs.size, l], [s.heap.objs.size], its.toArray.size, _, _, fun i => (bs[i]?).getD true, rfl,
    Walks.list (A := X.A.in1) (I.ok.hd hc) _ l (Nat.ne_of_lt hlt) its.toArray, ⟨⟨_, Heap.get?_push_size _ rfl, rfl, rfl⟩, hl.push _⟩, fun i v s' Q' E' hP hQ => ?_, fun h' tk hk => ?_⟩)
  · obtain ⟨b, e, rfl⟩ := hb.get i v (by simpa using hP)
    simp only [e, Option.getD_some] at hQ
    exact wpAny_truthy_bool hQ
  · have e : ((List.range its.toArray.size).all fun i => (bs[i]?).getD true) = bs.all id := by
      rw [List.size_toArray, hb.length]; exact PyProof.Rows.LSm.range_all bs
    rw [e]
    exact ⟨.bl _, H, I.kept (t' := tk) (PyProof.Rows.LSm.kept_iter hk), rfl, q⟩
end My
namespace Jd
open PySem PySem.Spec PyProof.Rows L2 Mth
end Jd
namespace My
open PySem PySem.Spec PyProof.Rows L2 Mth
section
variable {σ : L2.St} {H : Hp} {Q : VK} {K : PySem.W.Frag}
theorem r_sl {r : V → Option Int → Option Int → Hp → VK → Prop} {te : L2.TE} {tl th : L2.TO} (h : te σ H fun x H1 => tl σ H1 fun l H2 => th σ H2 fun u H3 => r x l u H3 Q) : tSl r te tl th σ H Q := h
theorem r_part {t : L2.TE} {R : Option Int → Hp → Prop} (h : t σ H fun x H1 => ∃ i, x = .int i ∧ R (some i) H1) : tPart t σ H R := h
theorem r_nopart {R : Option Int → Hp → Prop} (h : R none H) : tNoPart σ H R := h
theorem r_pi {i : Int} {R : Int → Prop} (h : R i) : ∃ j, V.int i = V.int j ∧ R j := ⟨i, rfl, h⟩
theorem cut_ab {xs : List V} {n m : Nat} (h1 : n ≤ m) (h2 : m ≤ xs.length) : cutV xs (some (n : Int)) (some (m : Int)) = (xs.drop n).take (m - n) := by
  unfold cutV
  rw [HT.sIx_nat, HT.sIx_nat, Nat.min_eq_left h2, Nat.min_eq_left (Nat.le_trans h1 h2)]
theorem r_slL {a : Addr} {xs : List V} {lo hi : Option Int} (h : H a = some (.lst xs)) (k : ∀ (p : Addr) (H' : Hp), Same H H' → H p = none → H' p = some (.lst (cutV xs lo hi)) → Q (.ref p) H') : rSlL K (.ref a) lo hi H Q :=
  ⟨a, xs, rfl, SqL.of h, fun p hp => k p _ (same_new hp _) hp upd_same⟩
theorem r_all {l : Addr} {bs : List Bool} (h : H l = some (.lst (bls bs))) (q : Q (.bl (bs.all id)) H) : rAll K [.ref l] H Q := ⟨l, bs, rfl, SqL.of h, q⟩
end
mutual
theorem Den.up {H H' : Hp} (s : Same H H') : ∀ {v : V} {d : PyData}, Den H v d → Den H' v d
  | _, _, .non => .non
  | _, _, .bl b => .bl b
  | _, _, .int i => .int i
  | _, _, .str x => .str x
  | _, _, .tup e dd => .tup (s _ _ e) (Dens.up s dd)
  | _, _, .lst e dd => .lst (s _ _ e) (Dens.up s dd)
theorem Dens.up {H H' : Hp} (s : Same H H') : ∀ {vs : List V} {ds : List PyData}, Dens H vs ds → Dens H' vs ds
  | _, _, .nil => .nil
  | _, _, .cons d dd => .cons (Den.up s d) (Dens.up s dd)
end
end My

namespace My
open PySem PySem.Spec PySem.Calls PyProof.Rows L2 Mth
noncomputable def Its (z : Str) : It := ⟨fun i _ => i < z.cps.size, fun i H x H' => H' = H ∧ ∃ c, z.cps[i]? = some c ∧ x = .str ⟨#[c]⟩, fun i _ => z.cps.size ≤ i⟩
theorem turn_strA {P : Program} {w : World} {K : PySem.W.Frag} {tg : Expr} (it : Addr) (z : Str) (t : Tok) : Turn P w K tg (Its z) [it] it (fun i h => h.IsStrIter it "str_ascii_iterator" z t i) where
  mem := by simp
  obj := fun i h st b hb => by
    have e : b = it := by simpa using hb
    subst e
    obtain ⟨o, e, c, d⟩ := st
    exact ⟨o, e, fun v z => by rw [d] at z; cases z⟩
  keep := fun i h h' st k => let ⟨o, ho, r⟩ := st; ⟨o, k it (by simp) o ho, r⟩
  item := by
    intro X hP hw hK hc i pins s σ H E I hf st hg
    subst hP hw hK
    obtain ⟨f0, f1, f2, f3, f4, f5⟩ := hf it (by simp)
    have hg : i < z.cps.size := hg
    have hx : z.cps[i]? = some z.cps[i] := by simp [hg]
    refine wpAny_pyNext_ascii_item st hx fun h' st' sb => ?_
    have I1 : Inv X pins σ H { s with heap := h', toks := s.toks + 1 } := I.turned (t' := s.toks + 1) (fun b o hb e => (sb.2 b hb).trans e) f0 f1 f3 f4 f5
    obtain ⟨o, e, c, d⟩ := id st'
    exact ⟨_, rfl, go_of (s := { s with heap := h', toks := s.toks + 1 }) e c d (by decide) ⟨.str ⟨#[z.cps[i]]⟩, H, I1, ⟨_, rfl⟩, ⟨rfl, _, hx, rfl⟩, st', fun b hb => (hf b hb).1⟩⟩
  done := by
    intro X hP hw hK hc i pins s σ H E I hf st hg
    subst hP hw hK
    obtain ⟨f0, f1, f2, f3, f4, f5⟩ := hf it (by simp)
    have hg : z.cps.size ≤ i := hg
    exact wpAny_pyNext_ascii_end (I.ok.hd hc) st (by simp [hg]) fun h' eb => ⟨rfl, I.turned (t' := s.toks) (fun b o hb e => eb b o hb e) f0 f1 f3 f4 f5⟩
  self := fun _ _ _ _ _ st h => wpAny_pyIter_striter_ascii st h
theorem turn_strW {P : Program} {w : World} {K : PySem.W.Frag} {tg : Expr} (it : Addr) (z : Str) (t : Tok) : Turn P w K tg (Its z) [it] it (fun i h => h.IsStrIter it "str_iterator" z t i) where
  mem := by simp
  obj := fun i h st b hb => by
    have e : b = it := by simpa using hb
    subst e
    obtain ⟨o, e, c, d⟩ := st
    exact ⟨o, e, fun v z => by rw [d] at z; cases z⟩
  keep := fun i h h' st k => let ⟨o, ho, r⟩ := st; ⟨o, k it (by simp) o ho, r⟩
  item := by
    intro X hP hw hK hc i pins s σ H E I hf st hg
    subst hP hw hK
    obtain ⟨f0, f1, f2, f3, f4, f5⟩ := hf it (by simp)
    have hg : i < z.cps.size := hg
    have hx : z.cps[i]? = some z.cps[i] := by simp [hg]
    refine wpAny_pyNext_wide_item st hx fun h' st' sb => ?_
    have I1 : Inv X pins σ H { s with heap := h', toks := s.toks + 1 } := I.turned (t' := s.toks + 1) (fun b o hb e => (sb.2 b hb).trans e) f0 f1 f3 f4 f5
    obtain ⟨o, e, c, d⟩ := id st'
    exact ⟨_, rfl, go_of (s := { s with heap := h', toks := s.toks + 1 }) e c d (by decide) ⟨.str ⟨#[z.cps[i]]⟩, H, I1, ⟨_, rfl⟩, ⟨rfl, _, hx, rfl⟩, st', fun b hb => (hf b hb).1⟩⟩
  done := by
    intro X hP hw hK hc i pins s σ H E I hf st hg
    subst hP hw hK
    obtain ⟨f0, f1, f2, f3, f4, f5⟩ := hf it (by simp)
    have hg : z.cps.size ≤ i := hg
    exact wpAny_pyNext_wide_end (I.ok.hd hc) st (by simp [hg]) fun h' eb => ⟨rfl, I.turned (t' := s.toks) (fun b o hb e => eb b o hb e) f0 f1 f3 f4 f5⟩
  self := fun _ _ _ _ _ st h => wpAny_pyIter_striter_wide st h
noncomputable def iStr (tl : TE) : TI := fun σ H R => tl σ H fun x H1 => ∃ z, x = .str z ∧ R (Its z) H1
theorem pi_str {X : Cx} {tg l : Expr} {tl : TE} (hl : PE X l tl) : PI X tg l (iStr tl) := by
  intro pins s σ H R I h
  refine thn (hl pins s σ H _ I h) fun v s1 ⟨x, H1, I1, r1, q1⟩ => ?_
  obtain ⟨z, e, q⟩ := q1
  subst e
  obtain ⟨t, rfl⟩ := r1
  cases ha : z.cps.all (· < 128) with
  | true =>
    refine wpAny_pyIter_ascii ha ?_
    refine ⟨s1.heap.objs.size, [s1.heap.objs.size], _, _, H1, rfl, I1.kept (t' := s1.toks) fun b o e => Heap.get?_push_of_some _ e, turn_strA _ z t, ⟨_, Heap.get?_push_size _ rfl, rfl, rfl⟩, fun b hb => ?_, q⟩
    have e : b = s1.heap.objs.size := by simpa using hb
    subst e
    exact I1.fpOk (Nat.le_refl _) (I1.hok.fresh (Nat.le_refl _))
  | false =>
    refine wpAny_pyIter_wide ha ?_
    refine ⟨s1.heap.objs.size, [s1.heap.objs.size], _, _, H1, rfl, I1.kept (t' := s1.toks) fun b o e => Heap.get?_push_of_some _ e, turn_strW _ z t, ⟨_, Heap.get?_push_size _ rfl, rfl, rfl⟩, fun b hb => ?_, q⟩
    have e : b = s1.heap.objs.size := by simpa using hb
    subst e
    exact I1.fpOk (Nat.le_refl _) (I1.hok.fresh (Nat.le_refl _))
theorem r_iS {tl : TE} {σ : L2.St} {H : Hp} {R : It → Hp → Prop} (h : tl σ H fun x H1 => ∃ z, x = .str z ∧ R (Its z) H1) : iStr tl σ H R := h
theorem for_str {z : Str} {g : TG} {tb : TS} {D : Ends} {σ : L2.St} {H : Hp} (Pv : Nat → L2.St → Hp → Prop) (h0 : Pv 0 σ H)
    (hs : ∀ i c σ H, z.cps[i]? = some c → Pv i σ H → g (.str ⟨#[c]⟩) σ H fun σ2 H2 => tb { D with nx := Pv (i + 1), ct := Pv (i + 1), bk := D.nx } σ2 H2) (hd : ∀ σ H, Pv z.cps.size σ H → D.nx σ H) :
    ∃ W : Nat → Nat → L2.St → Hp → Prop, (∃ m, W 0 m σ H) ∧ ∀ i m σ H, W i m σ H →
      ((Its z).stop i H ∧ D.nx σ H) ∨ ((Its z).go i H ∧ ∃ N : L2.St → Hp → Prop, (∀ σ' H', N σ' H' → ∃ m', m' < m ∧ W (i + 1) m' σ' H') ∧ ∀ x H', (Its z).yld i H x H' → g x σ H' fun σ2 H2 => tb { D with nx := N, ct := N, bk := D.nx } σ2 H2) := by
  refine ⟨fun i m σ H => m = z.cps.size - i ∧ i ≤ z.cps.size ∧ Pv i σ H, ⟨z.cps.size, by simp, Nat.zero_le _, h0⟩, ?_⟩
  rintro i m σ H ⟨rfl, hi, p⟩
  by_cases hlt : i < z.cps.size
  · refine .inr ⟨hlt, Pv (i + 1), fun σ' H' p' => ⟨z.cps.size - (i + 1), by omega, rfl, hlt, p'⟩, fun x H' y => ?_⟩
    obtain ⟨e, c, hc, y⟩ := y
    subst e y
    exact hs i c σ _ hc p
  · have e : i = z.cps.size := by omega
    subst e
    exact .inl ⟨Nat.le_refl _, hd σ H p⟩
theorem tells_str {z : Str} : Tells (Its z) (fun _ => True) (z.cps.toList.map fun c => V.str ⟨#[c]⟩) :=
  ⟨fun i H h hi => ⟨show i < z.cps.size by simpa using hi, fun x H' y => ⟨y.1, by
    obtain ⟨c, hc, e⟩ := y.2
    rw [List.getElem?_map, Array.getElem?_toList, hc, e]
    rfl⟩⟩, fun H h => by show z.cps.size ≤ _; simp⟩
noncomputable def rSlS : V → Option Int → Option Int → Hp → VK → Prop := fun x lo hi H Q => ∃ z, x = .str z ∧ z.length ≤ sizeLine ∧ Q (.str (Txt.slice z lo hi)) H
theorem part_of {v : Value} {o : Option Int} (h : IsPart v o) : ∃ p : Option (Int × Tok), v = partValue p ∧ o = p.map (·.1) := by
  cases h with
  | none => exact ⟨none, rfl, rfl⟩
  | int i t => exact ⟨some (i, t), rfl, rfl⟩
theorem sl_str {X : Cx} : SlR X rSlS := by
  intro pins s σ H x v vl vu lo hi sl Q I rx hs pl pu h
  obtain ⟨z, rfl, hz, q⟩ := h
  obtain ⟨t, rfl⟩ := rx
  obtain ⟨p1, rfl, rfl⟩ := part_of pl
  obtain ⟨p2, rfl, rfl⟩ := part_of pu
  exact ⟨"str", _, F.slot_str_getitem.lookup, typeIs_str _ _ _, wpAny_getItem_str_slice (l := p1) (u := p2) (st := none) hs rfl
    (post_val_or_str ⟨Nat.le_trans (Txt.slice_le z _ _) hz, fun t' k => ⟨.str _, H, I.tok _, ⟨_, rfl⟩, q⟩⟩)⟩
noncomputable def rMulS : R2 := fun x y H Q => ∃ z n, x = .str z ∧ y = .int n ∧ 0 ≤ n ∧ (z.length : Int) * n ≤ 1000000 ∧ n < 1000000 ∧ Q (.str (Txt.mul z n)) H
theorem mulS_ok {z : Str} {n : Int} (h0 : 0 ≤ n) (h : (z.length : Int) * n ≤ 1000000) (h1 : n < 1000000) : MulOk z n := by
  refine ⟨?_, fun hn hz => ?_, fun hn hz => ?_⟩
  · rw [decide_eq_false (by omega), decide_eq_false (by omega)]; rfl
  · have h2 : (z.length : Int) ≤ (2 ^ 63 - 1) / n := Int.le_ediv_of_mul_le (by omega) (by omega)
    omega
  · have e : z.length * n.toNat ≤ 1000000 := by
      have : ((z.length * n.toNat : Nat) : Int) ≤ 1000000 := by rw [Int.natCast_mul, Int.toNat_of_nonneg h0]; exact h
      omega
    unfold Builtin.Str.tooLong
    refine decide_eq_false ?_
    have : 1000000 ≤ sizeLine := by decide
    omega
theorem op_mulS {X : Cx} : OpR X (binaryOp .Mult) rMulS := by
  intro pins s σ H x y v u Q I rx ry h
  obtain ⟨z, n, rfl, rfl, h0, h1, h2, q⟩ := h
  obtain ⟨t, rfl⟩ := rx
  obtain ⟨t', rfl⟩ := ry
  exact SB.mul (mulS_ok h0 h1 h2) fun t' k => ⟨.str _, H, I.tok _, ⟨_, rfl⟩, q⟩
noncomputable def rStarts : V → List V → Hp → VK → Prop := fun x xs H Q => ∃ z y, x = .str z ∧ xs = [.str y] ∧ Q (.bl (Txt.startswith z y)) H
theorem mt_starts {X : Cx} : MtR X "str.startswith" rStarts := by
  intro pins s σ H x xs v us Q I rx rs h
  obtain ⟨z, y, rfl, rfl, q⟩ := h
  obtain ⟨t, rfl⟩ := rx
  obtain ⟨u, rfl, ru⟩ := rs.one
  obtain ⟨t', rfl⟩ := ru
  exact SC.startswith ⟨.bl _, H, I, rfl, q⟩
noncomputable def rZfill : V → List V → Hp → VK → Prop := fun x xs H Q => ∃ z i, x = .str z ∧ xs = [.int i] ∧ PadOk i = true ∧ Q (.str (Txt.zfill z i)) H
theorem mt_zfill {X : Cx} : MtR X "str.zfill" rZfill := by
  intro pins s σ H x xs v us Q I rx rs h
  obtain ⟨z, i, rfl, rfl, hp, q⟩ := h
  obtain ⟨t, rfl⟩ := rx
  obtain ⟨u, rfl, ru⟩ := rs.one
  obtain ⟨t', rfl⟩ := ru
  exact SC.zfill hp fun t' k => ⟨.str _, H, I.tok _, ⟨_, rfl⟩, q⟩
noncomputable def rParts : V → List V → Hp → VK → Prop := fun x xs H Q => ∃ z y, x = .str z ∧ xs = [.str y] ∧ (y.length == 0) = false ∧ z.length ≤ sizeLine ∧ ∀ p, H p = none → Q (.ref p) (upd H p (.tup [.str (Txt.partition z y).1, .str (Txt.partition z y).2.1, .str (Txt.partition z y).2.2]))
theorem mt_parts {X : Cx} : MtR X "str.partition" rParts := by
  intro pins s σ H x xs v us Q I rx rs h
  obtain ⟨z, y, rfl, rfl, hy, hz, q⟩ := h
  obtain ⟨t, rfl⟩ := rx
  obtain ⟨u, rfl, ru⟩ := rs.one
  obtain ⟨t', rfl⟩ := ru
  refine call_meets F.slot_str_partition (typeIs_str _ _ _) F.entry_str_partition (F.args_str_partition_2 _ _) (meets_str_partition z y t t' hy hz) ?_
  have fin : ∀ (a b c : Str) (ta tb tc : Tok) (tk : Nat), (∀ p, H p = none → Q (.ref p) (upd H p (.tup [.str a, .str b, .str c]))) →
      EP X pins σ Q (.ref s.heap.objs.size) { s with toks := tk, heap := s.heap.push { cls := .type "tuple", data := .seq [.str a ta, .str b tb, .str c tc].toArray } } := fun a b c ta tb tc tk q =>
    ⟨.ref s.heap.objs.size, _, I.laid (t' := tk) (o := .tup [.str a, .str b, .str c]) (fun b ob q => Heap.get?_push_of_some _ q) (Nat.le_refl _) ⟨show 3 ≤ sizeLine by decide, _, .cons ⟨_, rfl⟩ (.cons ⟨_, rfl⟩ (.cons ⟨_, rfl⟩ .nil)), IsTup.new _ _⟩, rfl, q _ (I.hok.fresh (Nat.le_refl _))⟩
  unfold Txt.partition at q
  revert q
  cases Builtin.Str.occurrences z y 0 z.length 1 with
  | nil => intro q; exact fin _ _ _ _ _ _ _ q
  | cons i r => intro q; exact fin _ _ _ _ _ _ _ q
end My
namespace My
open PySem PySem.Spec PySem.Calls PyProof.Rows L2 Mth
noncomputable def glue (sep : Str) (zs : List Str) : Str := match zs with | [z] => z | l => Builtin.Str.glued sep l
noncomputable def rJoin : V → List V → Hp → VK → Prop := fun x xs H Q => ∃ sep b zs, x = .str sep ∧ xs = [.ref b] ∧ H b = some (.lst (zs.map V.str)) ∧ (zs.foldl (fun n z => n + z.length + sep.length) 0) ≤ sizeLine ∧ (glue sep zs).length ≤ sizeLine ∧ Q (.str (glue sep zs)) H
theorem strs_of : ∀ {zs : List Str} {its : List Value}, Vals (zs.map V.str) its → ∃ l : List (Str × Tok), its = strValues l ∧ l.map (·.1) = zs
  | [], _, .nil => ⟨[], rfl, rfl⟩
  | z :: zs, _, .cons r t => by
    obtain ⟨l, e, f⟩ := strs_of (zs := zs) t
    obtain ⟨tk, rfl⟩ := r
    exact ⟨(z, tk) :: l, by rw [e]; rfl, by rw [List.map_cons, f]⟩
theorem fold_len (sep : Str) : ∀ (l : List Str) (n : Nat), l.toArray.foldl (fun a z => a + z.length + sep.length) n = l.foldl (fun a z => a + z.length + sep.length) n := fun l n => by simp
theorem mt_join {X : Cx} : MtR X "str.join" rJoin := by
  intro pins s σ H x xs v us Q I rx rs h
  obtain ⟨sep, b, zs, rfl, rfl, hb, hl, hg, q⟩ := h
  obtain ⟨t, rfl⟩ := rx
  obtain ⟨u, rfl, ru⟩ := rs.one
  cases ru
  obtain ⟨its, rv, p, hz⟩ := I.list (SqL.of hb)
  obtain ⟨l, rfl, e⟩ := strs_of rv
  refine call_meets F.slot_str_join (typeIs_str _ _ _) F.entry_str_join (F.args_str_join_2 _ _) (meets_str_join_list sep t b l ?_) ⟨p.isList, ?_⟩
  · rw [e, fold_len]
    unfold Builtin.Str.tooLong
    exact decide_eq_false (by omega)
  · subst e
    cases l with
    | nil => exact ⟨hg, .str _, H, I.tok _, ⟨_, rfl⟩, q⟩
    | cons a r =>
      cases r with
      | nil => exact ⟨.str _, H, I, ⟨_, rfl⟩, q⟩
      | cons a2 r2 => exact ⟨hg, .str _, H, I.tok _, ⟨_, rfl⟩, q⟩
end My

namespace My
open PySem PySem.Spec PySem.Calls PySem.NumText PyProof.Rows PySem.W
theorem wp_text2 {M : Model} {A : Around} {E : Value → Shared → Prop} {s : Shared} {Q : Value → Shared → Prop} {v : Value} {text : List Nat} {n : Int} (hd : s.heap.NoDigits)
    (hr : (int_private% "readNumeral") (if (text.takeWhile (· != 0)).length ≤ 640 then 0 else 4300) 10 (text.takeWhile (· != 0)) = (int_private% "Numeral.value") n)
    (ha : ((text.takeWhile (· != 0)).length == text.length) = true) (h : Q (.int n s.toks) { s with toks := s.toks + 1 }) :
    wpAny M A ((int_private% "intFromText") v text 10) Q E s := by
  by_cases hs : (text.takeWhile (· != 0)).length ≤ 640
  · rw [if_pos hs] at hr
    exact KIN.wp_text hs hr ha h
  · rw [if_neg hs] at hr
    obtain ⟨mc, hns, hnone⟩ := hd
    k_delta "intFromText"
    dsimp only
    rw [if_neg hs]
    unfold Builtin.intMaxStrDigits
    refine wpAny_bind (wpAny_bind (wpAny_nsGet hns ?_))
    rw [hnone]
    refine wpAny_pure ?_
    rw [hr]
    dsimp only
    rw [if_pos ha]
    obtain ⟨hp, g, d, tk, os⟩ := s
    repeat (any_goals (first | assumption | wp_step))
structure Hid2 (p : Prop) : Prop where
  out : p
set_option maxHeartbeats 4000000 in
theorem meets_text {x : PySem.Str} {u : Tok} {n : Int} (hl : x.length ≤ sizeLine) (hn : PySem.intText? x = some n) : Meets (Builtin.«int.__new__» ⟨[.type "int", .str x u], []⟩) (fun _ R s => s.heap.NoDigits ∧ R (.ok (.ret (.int n s.toks))) { s with toks := s.toks + 1 }) := by
  intro prog w A R s ⟨hd, h⟩
  obtain ⟨hp, g, d, tk, os⟩ := s
  have f1 := F.conv_sub_int
  have f2 := F.madeHere_int
  have f3 := KIN.str_int
  have f4 := KIN.str_idx
  have f5 := KIN.str_trunc
  have f6 : typeOf (.str x u) = pure (.type "str") := rfl
  have hr : (int_private% "readNumeral") (numLimitOf x) 10 (numSeenOf x) = (int_private% "Numeral.value") n ∧ ((numSeenOf x).length == (numTextOf x).length) = true := by
    rcases readAny x hl with ⟨m, h1, h2, h3⟩ | ⟨h1, _⟩
    · rw [hn] at h1
      injection h1 with h1
      subst h1
      exact ⟨h3, h2⟩
    · rw [hn] at h1
      cases h1
  have hk := Hid2.mk hr
  have hd' := Hid2.mk hd
  clear hr hl hn hd
  repeat (any_goals (first
    | assumption
    | ((with_reducible show wpAny _ _ ((int_private% "intFromText") _ _ _) _ _ _); refine wp_text2 hd'.out hk.out.1 hk.out.2 ?_)
    | wp_step))
end My
namespace My
open PySem PySem.Spec PySem.Calls PyProof.Rows L2 Mth
noncomputable def rIntS (K : PySem.W.Frag) : List V → Hp → VK → Prop := fun xs H Q => ∃ z n, xs = [.str z] ∧ PySem.intText? z = some n ∧ z.length ≤ sizeLine ∧ PySem.W.nsOkIn K cStatics = true ∧ PySem.W.nsIn K cStatics "sys.int_max_str_digits" = some none ∧ Q (.int n) H
theorem call_intS {X : Cx} : CallR X (.type "int") (rIntS X.K) := by
  intro pins s σ H xs us Q I r h
  obtain ⟨z, n, rfl, hn, hl, h1, h2, q⟩ := h
  obtain ⟨u, rfl, ru⟩ := r.one
  obtain ⟨t, rfl⟩ := ru
  have hd : s.heap.NoDigits := ⟨_, .of_isNs (PySem.W.isNs_of_in I.kIn h1), PySem.W.nsMap_none_of_in I.kIn h1 h2⟩
  exact call_int_1 (meets_text hl hn) ⟨hd, rfl, .int n, H, I.tok _, ⟨_, rfl⟩, q⟩
end My

namespace My
open PySem PySem.Spec PySem.Calls PyProof.Rows L2 Mth
structure FunD (K : PySem.W.Frag) (x qual : Str) (st : Stmt) (f : Addr) (fd : FuncData) (d : Value) : Prop where
  ex : ∃ (T : Addr) (oc : Value) (od : Option Addr) (kV doc pm : Value) (an : Option Addr) (cdv ct : Value) (osl : Array (Option Value)) (tc : Value) (td : Option Addr) (tn : Nat) (tsl : Array (Option Value)),
    fd = PySem.W.fnOf x qual (defArgs st) (defBody st) (defScope st) (.ref T) kV doc pm an cdv ct ∧ K.lookup f = some ⟨oc, od, .func fd, osl⟩ ∧ PySem.W.codeIn K cdv qual = true ∧ K.lookup T = some ⟨tc, td, .seq #[d] tn, tsl⟩
  kp : PySem.W.keepIn K (.ref f) = true
section
variable {P : Program} {w : World} {K : PySem.W.Frag} {mg : Str → Option Value} {base : Heap} {x qual : Str} {st : Stmt} {f : Addr} {fd : FuncData} {d : Value} {N ps : List Str} {k : Nat} {sp : Sp}
theorem FunD.ok (F : FunD K x qual st f fd d) (S : FnScope N ps (defScope st)) (len : ∀ vs H Q E, sp vs H Q E → vs.length = ps.length)
    (hbody : ∀ (cdv : Value) (A : Around) (outer : List Env) (s : Shared) (H : Hp) (vs : List V) (Q : VK) (E : XK), Room k (A.deeper (envOfC qual (defScope st) s.heap.objs.size f cdv)) → sp vs H Q E →
      ∃ t, PSs (cxOf CX0 P w K mg base N qual (defScope st) f cdv A outer s H E).nox (defBody st) t ∧ t { nx := fun _ H' => Q .non H', rt := Q } (start N vs) H) : FnOk P w K mg base CX0 (k + 1) f fd ps sp := by
  obtain ⟨T, oc, od, kV, doc, pm, an, cdv, ct, osl, tc, td, tn, tsl, rfl, lk, hcd, _⟩ := F.ex
  refine fn_of lk hcd S len fun A outer s H vs Q E hr hsp => ?_
  obtain ⟨t, h, q⟩ := hbody cdv A outer s H vs Q E hr hsp
  exact ⟨t, h.nox, q⟩
theorem FunD.okX (F : FunD K x qual st f fd d) (S : FnScope N ps (defScope st)) (len : ∀ vs H Q E, sp vs H Q E → vs.length = ps.length)
    (hbody : ∀ (cdv : Value) (A : Around) (outer : List Env) (s : Shared) (H : Hp) (vs : List V) (Q : VK) (E : XK), Room k (A.deeper (envOfC qual (defScope st) s.heap.objs.size f cdv)) → sp vs H Q E →
      ∃ t, PSs (cxOf (CXe P w) P w K mg base N qual (defScope st) f cdv A outer s H E) (defBody st) t ∧ t { nx := fun _ H' => Q .non H', rt := Q } (start N vs) H) : FnOk P w K mg base (CXe P w) (k + 1) f fd ps sp := by
  obtain ⟨T, oc, od, kV, doc, pm, an, cdv, ct, osl, tc, td, tn, tsl, rfl, lk, hcd, _⟩ := F.ex
  exact fn_of lk hcd S len (hbody cdv)
theorem FunD.binds (F : FunD K x qual st f fd d) {pa pb : Str}
    (h2 : ∀ (T : Addr) (kV doc pm : Value) (an : Option Addr) (cdv ct ua ub : Value), ∃ k, bindArgs (PySem.W.fnOf x qual (defArgs st) (defBody st) (defScope st) (.ref T) kV doc pm an cdv ct) ⟨[ua, ub], []⟩ = seqItems? (.ref T) >>= k ∧ k (some #[d]) = pure [(pa, ua), (pb, ub)])
    (h1 : ∀ (T : Addr) (kV doc pm : Value) (an : Option Addr) (cdv ct ua : Value), ∃ k, bindArgs (PySem.W.fnOf x qual (defArgs st) (defBody st) (defScope st) (.ref T) kV doc pm an cdv ct) ⟨[ua], []⟩ = seqItems? (.ref T) >>= k ∧ k (some #[d]) = pure [(pa, ua), (pb, d)]) :
    Binds K fd [pa, pb] [] ∧ Binds K fd [pa, pb] [d] := by
  obtain ⟨T, oc, od, kV, doc, pm, an, cdv, ct, osl, tc, td, tn, tsl, rfl, lk, hcd, ht⟩ := F.ex
  constructor
  · intro s us X hl
    have hl : us.length = 2 := by rw [List.append_nil] at hl; exact hl
    obtain ⟨ua, us1, rfl, hl1⟩ := lenS (n := 1) hl
    obtain ⟨ub, us0, rfl, hl0⟩ := lenS (n := 0) hl1
    obtain rfl := len0 hl0
    obtain ⟨k, a, b⟩ := h2 T kV doc pm an cdv ct ua ub
    exact BindsTo.of_defaults rfl (X _ _ ht) rfl a b
  · intro s us X hl
    have hl : us.length = 1 := by
      rw [List.length_append] at hl
      have : us.length + 1 = 2 := hl
      omega
    obtain ⟨ua, us0, rfl, hl0⟩ := lenS (n := 0) hl
    obtain rfl := len0 hl0
    obtain ⟨k, a, b⟩ := h1 T kV doc pm an cdv ct ua
    exact BindsTo.of_defaults rfl (X _ _ ht) rfl a b
end
noncomputable def Fxd (K : PySem.W.Frag) (x : Str) (st : Stmt) (i : Int) : Prop := ∃ (f : Addr) (fd : FuncData) (tk : Tok), PySem.W.nsIn K mainGlobals x = some (some (.ref f)) ∧ FunD K x x st f fd (.int i tk)
theorem fxd_mk {K : PySem.W.Frag} {x : Str} {st : Stmt} {i : Int} {f T : Addr} {oc tc : Value} {od an td : Option Addr} {osl tsl : Array (Option Value)} {kV doc pm cdv ct : Value} {tk : Tok} {tn : Nat} (a : PySem.W.nsIn K mainGlobals x = some (some (.ref f)))
    (l : K.lookup f = some ⟨oc, od, .func (PySem.W.fnOf x x (defArgs st) (defBody st) (defScope st) (.ref T) kV doc pm an cdv ct), osl⟩) (t : K.lookup T = some ⟨tc, td, .seq #[.int i tk] tn, tsl⟩) (c : PySem.W.codeIn K cdv x = true) (k : PySem.W.keepIn K (.ref f) = true) : Fxd K x st i :=
  ⟨f, _, tk, a, ⟨T, oc, od, kV, doc, pm, an, cdv, ct, osl, tc, td, tn, tsl, rfl, l, c, t⟩, k⟩
structure DnD (CX : CXT) (P : Program) (w : World) (K : PySem.W.Frag) (mg : Str → Option Value) (base : Heap) (k : Nat) (x : Str) (ps : List Str) (sp : Sp) (i : Int) : Prop where
  ex : ∃ (f : Addr) (fd : FuncData) (tk : Tok), FnOk P w K mg base CX k f fd ps sp ∧ mg x = some (.ref f) ∧ PySem.W.keepIn K (.ref f) = true ∧ Binds K fd ps [] ∧ Binds K fd ps [.int i tk]
theorem DnD.two {P : Program} {w : World} {K : PySem.W.Frag} {mg : Str → Option Value} {base : Heap} {k : Nat} {x : Str} {ps : List Str} {sp : Sp} {i : Int} (D : DnD CX0 P w K mg base k x ps sp i) : Dn P w K mg base k x ps sp :=
  let ⟨f, fd, _, a, b, c, d, _⟩ := D.ex; ⟨f, fd, a, b, c, d⟩
theorem DnD.twoX {P : Program} {w : World} {K : PySem.W.Frag} {mg : Str → Option Value} {base : Heap} {k : Nat} {x : Str} {ps : List Str} {sp : Sp} {i : Int} (D : DnD (CXe P w) P w K mg base k x ps sp i) : DnX P w K mg base k x ps sp :=
  let ⟨f, fd, _, a, b, c, d, _⟩ := D.ex; ⟨f, fd, a, b, c, d⟩
section
variable {X : Cx} {k : Nat} {x : Str} {ps : List Str} {sp : Sp} {i : Int} {p pos : Pos} {e : Expr} {es : List Expr} {t : TA} {E : XK}
theorem pe_dd (D : DnD CX0 X.prog X.w X.K X.mg X.base k x ps sp i) (hr : Room k X.A) (hg : Gl X x) (ha : PA X (e :: es) t) (hdb : autoParam ((x == ("__debug__" : Str)) = false) au1_._auto_1)
    (he : autoParam (starEach (e :: es) X.env = (false, eval e X.env) :: starEach es X.env) au0_._auto_1) (hpl : autoParam ((backTo pos (starEach es X.env)).any (·.1) = false) au0_._auto_1) : PE X (.Call (.Name x p) (e :: es) [] pos) (tCall sp [.int i] E0 t) := by
  obtain ⟨f, fd, tk, ok, hm, hk, _, hb⟩ := D.ex
  exact pe_call ok hr hg hm hk hb (.cons ⟨tk, rfl⟩ .nil) pass0 ha hdb he hpl
theorem pe_ddX (D : DnD (CXe X.prog X.w) X.prog X.w X.K X.mg X.base k x ps sp i) (hp : Passes (CXe X.prog X.w) X E) (hr : Room k X.A) (hg : Gl X x) (ha : PA X (e :: es) t) (hdb : autoParam ((x == ("__debug__" : Str)) = false) au1_._auto_1)
    (he : autoParam (starEach (e :: es) X.env = (false, eval e X.env) :: starEach es X.env) au0_._auto_1) (hpl : autoParam ((backTo pos (starEach es X.env)).any (·.1) = false) au0_._auto_1) : PE X (.Call (.Name x p) (e :: es) [] pos) (tCall sp [.int i] E t) := by
  obtain ⟨f, fd, tk, ok, hm, hk, _, hb⟩ := D.ex
  exact pe_call ok hr hg hm hk hb (.cons ⟨tk, rfl⟩ .nil) hp ha hdb he hpl
theorem r_callD {σ : L2.St} {H : Hp} {Q : VK} {ts : TA} {v : V} (h : ts σ H fun vs H1 => sp (vs ++ [v]) H1 Q E) : tCall sp [v] E ts σ H Q := h
structure Cs (mg : Str → Option Value) (x : Str) (z : Str) : Prop where
  at_ : ∃ t, mg x = some (.str z t)
theorem pe_cs {z : Str} (hg : Gl X x) (c : Cs X.mg x z) (hd : autoParam ((x == ("__debug__" : Str)) = false) au1_._auto_1) : PE X (.Name x pos) (tC (.str z)) := by
  obtain ⟨t, h⟩ := c.at_
  exact L2.pe_glob hg h (show RelV (.str z) (.str z t) from ⟨t, rfl⟩) hd
end
theorem len_strC {X : Cx} : CallR X (.builtin "len") (fun xs H Q => ∃ z, xs = [.str z] ∧ z.length ≤ sizeLine ∧ Q (.int z.length) H) := call_len_str
theorem strC {X : Cx} : CallR X (.type "str") (fun xs H Q => ∃ i, xs = [.int i] ∧ i.natAbs.log2 < 1920 ∧ Q (.str (toString i)) H) := call_str_int
theorem intC {X : Cx} (K : PySem.W.Frag) (h : autoParam (X.K = K) au0_._auto_1) : CallR X (.type "int") (rIntS K) := h ▸ call_intS
end My
namespace Jd
open PySem PySem.Spec PyProof.Rows L2 My
section
variable {X : Cx} {k : Nat} {x : Str} {ps : List Str} {sp : Sp} {i : Int} {p pos : Pos} {e : Expr} {es : List Expr} {t : TA} {E : XK} {tg l : Expr} {tl : TE}
theorem pe_dd (D : DnD CX0 X.prog X.w X.K X.mg X.base k x ps sp i) (hr : Room k X.A) (hg : Gl X x) (ha : QA X (e :: es) t) (hdb : autoParam ((x == ("__debug__" : Str)) = false) au1_._auto_1)
    (he : autoParam (starEach (e :: es) X.env = (false, eval e X.env) :: starEach es X.env) au0_._auto_1) (hpl : autoParam ((backTo pos (starEach es X.env)).any (·.1) = false) au0_._auto_1) : QE X (.Call (.Name x p) (e :: es) [] pos) (tCall sp [.int i] E0 t) := ⟨My.pe_dd D hr hg ha.h hdb he hpl⟩
theorem pe_ddX (D : DnD (CXe X.prog X.w) X.prog X.w X.K X.mg X.base k x ps sp i) (hp : Passes (CXe X.prog X.w) X E) (hr : Room k X.A) (hg : Gl X x) (ha : QA X (e :: es) t) (hdb : autoParam ((x == ("__debug__" : Str)) = false) au1_._auto_1)
    (he : autoParam (starEach (e :: es) X.env = (false, eval e X.env) :: starEach es X.env) au0_._auto_1) (hpl : autoParam ((backTo pos (starEach es X.env)).any (·.1) = false) au0_._auto_1) : QE X (.Call (.Name x p) (e :: es) [] pos) (tCall sp [.int i] E t) := ⟨My.pe_ddX D hp hr hg ha.h hdb he hpl⟩
theorem pe_cs {z : Str} (hg : Gl X x) (c : Cs X.mg x z) (hd : autoParam ((x == ("__debug__" : Str)) = false) au1_._auto_1) : QE X (.Name x pos) (tC (.str z)) := ⟨My.pe_cs hg c hd⟩
theorem pi_str (hl : QE X l tl) : QI X tg l (iStr tl) := ⟨My.pi_str hl.h⟩
end
section
variable {X : Cx} (K : PySem.W.Frag) {o e : Expr} {to te : TE} {apos cpos : Pos} {name : Str} {id : String} {r : V → List V → Hp → VK → Prop}
theorem strM (slot : Slot "str" name id) (hty : typeOf (.builtin id) = pure (.type "method_descriptor")) (hm : MtR X id r) (ho : QE X o to) (he : QE X e te) (h : autoParam (X.K = K) au0_._auto_1)
    (hbase : autoParam (attributeBase o name X.env (eval o X.env) = eval o X.env) au0_._auto_1)
    (hfew : autoParam (((backTo cpos (starEach (e :: []) X.env)).all (fun x => !x.1) && (backToKw cpos (keywordEach [] X.env)).all (fun x => x.1.isSome)
      && decide ((e :: ([] : List Expr)).length + ([] : List Keyword).length + (if ([] : List Keyword).isEmpty then 0 else 1) < 30)) = true) au0_._auto_1)
    (hline : autoParam ((apos.endLine == cpos.line) = true) au0_._auto_1) (hs : autoParam (starEach (e :: []) X.env = (false, eval e X.env) :: starEach [] X.env) au0_._auto_1) (hplain : autoParam ((backTo cpos (starEach [] X.env)).any (·.1) = false) au0_._auto_1) :
    QE X (.Call (.Attribute o name apos) [e] [] cpos) (tBM K "str" r to (tCons te tNil)) :=
  ⟨h ▸ pe_bm PySem.F.plainAttrs_str slot hty hm ho.h (L2.pa_cons he.h L2.pa_nil hs) hbase hfew hline hs hplain⟩
end
end Jd

namespace My
open PySem PySem.Spec PySem.Calls PyProof.Rows L2 Mth
section
variable {X : Cx} {k : Nat} {xf : Str} {ps : List Str} {sp : Sp} {p pos epos : Pos} {ae : Expr} {es : List Expr} {ta : TA} {x1 nm : Str} {j : Nat} {C1 : Addr} {b1 : Stmt} {su1 : List Stmt} {np1 hp1 tpos : Pos} {t1 : Addr → Value → Option Addr → TS}
end
end My
namespace Jd
open PySem PySem.Spec PyProof.Rows L2 My
section
variable {X : Cx} {k : Nat} {xf : Str} {ps : List Str} {sp : Sp} {p pos epos : Pos} {ae : Expr} {es : List Expr} {ta : TA} {x1 nm : Str} {j : Nat} {C1 : Addr} {b1 : Stmt} {su1 : List Stmt} {np1 hp1 tpos : Pos} {t1 : Addr → Value → Option Addr → TS}
end
end Jd
noncomputable abbrev J.a := @Jd.pv
noncomputable abbrev J.b := @Jd.pa_cons
noncomputable abbrev J.c := @Jd.pe_int
noncomputable abbrev J.d := @Jd.pa_nil
noncomputable abbrev J.e := @Jd.pss_cons
noncomputable abbrev J.f := @Jd.pe_op
noncomputable abbrev J.g := @Jd.pss_one
noncomputable abbrev J.h := @Jd.pe_ix
noncomputable abbrev J.i := @Jd.ps_set
noncomputable abbrev J.j := @Jd.ps_ret
noncomputable abbrev J.k := @Jd.pt_cmpR
noncomputable abbrev J.l := @Jd.pe_dn
noncomputable abbrev J.m := @Jd.ps_if
noncomputable abbrev J.n := @Jd.pss_nil
noncomputable abbrev J.o := @Jd.pe_str
noncomputable abbrev J.p := @Jd.pe_callB
noncomputable abbrev J.q := @Jd.pe_tup
noncomputable abbrev J.r := @Jd.pt_val
noncomputable abbrev J.s := @Jd.pw_or
noncomputable abbrev J.t := @Jd.po_some
noncomputable abbrev J.u := @Jd.pe_slice
noncomputable abbrev J.v := @Jd.pe_lst
noncomputable abbrev J.w := @Jd.po_none
noncomputable abbrev J.x := @Jd.ps_expr
noncomputable abbrev J.y := @Jd.pe_cmpR
noncomputable abbrev J.z := @Jd.pg_name
noncomputable abbrev J.aa := @Jd.pe_callTy

local macro_rules | `(tactic| walk_at "v") => `(tactic| repeat (first
  | with_reducible refine My.r_seq ?_
  | with_reducible refine My.r_set ?_
  | with_reducible refine My.r_ret ?_
  | with_reducible refine My.r_drop ?_
  | with_reducible refine My.r_if ?_
  | with_reducible refine My.r_next ?_
  | with_reducible refine My.r_cont ?_
  | with_reducible refine My.r_break ?_
  | with_reducible refine My.r_chain ?_
  | with_reducible refine My.r_chain4 ?_
  | with_reducible refine My.r_link ?_
  | with_reducible refine My.r_end ?_
  | with_reducible refine My.r_fld ?_
  | with_reducible refine My.r_sfld ?_
  | with_reducible refine My.r_meth ?_
  | with_reducible refine My.r_make ?_
  | ((with_reducible refine' My.r_var ?e1 ?_); (case e1 => rfl))
  | with_reducible refine My.r_c ?_
  | with_reducible refine My.r_op ?_
  | with_reducible refine My.r_un ?_
  | with_reducible refine My.r_I0 ?_
  | with_reducible refine My.r_U ?_
  | with_reducible refine My.r_test ?_
  | with_reducible refine My.r_B ?_
  | with_reducible refine My.r_bl ?_
  | with_reducible refine My.r_cb ?_
  | with_reducible refine My.r_cons ?_
  | with_reducible refine My.r_nil ?_
  | with_reducible refine My.r_tup ?_
  | with_reducible refine My.r_lst ?_
  | with_reducible refine My.r_call ?_
  | with_reducible refine My.r_try ?_
  | with_reducible refine My.r_tryAs ?_
  | with_reducible refine My.r_tryAsD ?_
  | with_reducible refine My.r_try2 ?_
  | with_reducible refine My.r_try1 ?_
  | with_reducible refine My.r_atx ?_
  | with_reducible refine My.r_raiseI ?_
  | with_reducible refine My.r_callX ?_
  | with_reducible refine My.r_callD ?_
  | with_reducible refine My.r_raise ?_
  | with_reducible refine My.r_par ?_
  | with_reducible refine My.r_g ?_
  | with_reducible refine My.r_absC ?_
  | with_reducible refine My.r_bits ?_
  | with_reducible refine My.r_comp ?_
  | with_reducible refine My.r_yes ?_
  | with_reducible refine My.r_gsub ?_
  | with_reducible refine My.r_rev ?_
  | with_reducible refine My.r_max ?_
  | with_reducible refine My.r_min ?_
  | with_reducible refine My.r_two ?_
  | with_reducible refine My.r_bm ?_
  | ((with_reducible refine My.r_I ?e7 ?_); (case e7 => first | decide | assumption | exact ⟨by decide, by decide, by decide⟩ | (show (0 : Int) < _; first | decide | omega) | exact My.mulR (by decide) (by decide) | exact My.mulL (by decide) (by decide)))
  | with_reducible refine My.r_not ?_
  | with_reducible refine My.r_and ?_
  | with_reducible refine My.r_or ?_
  | with_reducible refine My.r_andV ?_
  | with_reducible refine My.r_orV ?_
  | with_reducible refine My.r_notV ?_
  | with_reducible refine My.r_ife ?_
  | ((with_reducible refine My.r_eq ?e2 ?_); (case e2 => rfl))
  | ((with_reducible refine My.r_ne ?e3 ?_); (case e3 => rfl))
  | ((with_reducible refine' My.r_t0 ?e4 ?_); (case e4 => assumption))
  | ((with_reducible refine' My.r_t1 ?e5 ?_); (case e5 => assumption))
  | ((with_reducible refine' My.r_t2 ?e6 ?_); (case e6 => assumption))
  | ((with_reducible refine' My.r_t3 ?e8 ?_); (case e8 => assumption))))
local macro_rules | `(tactic| walk_at "o") => `(tactic| first
  | assumption
  | exact Nat.le_of_lt (by assumption)
  | exact Nat.lt_trans (by assumption) (by assumption)
  | exact Nat.lt_of_lt_of_le (by assumption) (by assumption)
  | exact Nat.le_trans (by assumption) (by assumption)
  | exact Int.le_of_lt (by assumption)
  | exact Int.ne_of_gt (by assumption)
  | exact Int.ne_of_lt (by assumption)
  | exact Int.natCast_nonneg _
  | lia
  | omega)
local macro_rules | `(tactic| walk_at "fx") => `(tactic| (refine' My.fx_mk ?a ?l ?c ?k; (case a => k_is); (case l => k_is); (case c => k_is); (case k => k_is)))
local macro_rules | `(tactic| walk_at "fm") => `(tactic| (refine' My.fm_mk ?a ?i ?l ?c ?k; (case a => k_is); (case i => k_is); (case l => k_is); (case c => k_is); (case k => k_is)))
local macro_rules | `(tactic| walk_at "fi") => `(tactic| (refine' My.fi_mk ?a ?o ?i ?l ?c ?k; (case a => k_is); (case o => kernel_rfl); (case i => k_is); (case l => k_is); (case c => k_is); (case k => k_is)))
local macro_rules | `(tactic| walk_at "fd") => `(tactic| (refine' My.fxd_mk ?a ?l ?t ?c ?k; (case a => k_is); (case l => k_is); (case t => k_is); (case c => k_is); (case k => k_is)))
local macro_rules | `(tactic| walk_at "fz") => `(tactic| first | walk_at "fx" | walk_at "fd" | walk_at "fm" | walk_at "fi" | k_is | k_exc | kts_exm | kit_is)
local macro_rules | `(tactic| walk_at "vs") => `(tactic| first
  | with_reducible refine My.r_sl ?_
  | with_reducible refine My.r_part ?_
  | with_reducible refine My.r_nopart ?_
  | with_reducible refine My.r_pi ?_)
local macro_rules | `(tactic| walk_at "vd") => `(tactic| ((walk_at "v"); (repeat ((walk_at "vs"); (walk_at "v")))))
namespace Lw
open PySem L2 Mth My
noncomputable def top (i : Nat) : Stmt := PySem.Challenge.pw_lath_k84_whole_words.main.body.getD i (.Pass ⟨0, 0, 0, 0⟩)
noncomputable abbrev s_law_cell : Stmt := top 20
noncomputable abbrev s_law_mix : Stmt := top 21
noncomputable abbrev s_law_row : Stmt := top 22
noncomputable abbrev s_law_ratio : Stmt := top 23
noncomputable abbrev s_law_is_ratio : Stmt := top 24
noncomputable abbrev s_plain_divisor : Stmt := top 7
noncomputable abbrev s_steps_of_heads : Stmt := top 8
noncomputable abbrev s_divisor : Stmt := top 9
noncomputable abbrev s_is_fraction : Stmt := top 10
noncomputable abbrev s_figures_of : Stmt := top 13
noncomputable abbrev s_whole_word : Stmt := top 14
noncomputable abbrev s_ratio_word : Stmt := top 15
noncomputable abbrev s_is_whole : Stmt := top 16
noncomputable abbrev s_read_whole : Stmt := top 17
noncomputable abbrev s_read_ratio : Stmt := top 18
noncomputable abbrev s_law_whole_due : Stmt := top 25
noncomputable abbrev s_law_word : Stmt := top 27
noncomputable abbrev s_law_ratio_due : Stmt := top 26
noncomputable abbrev s_law_signs : Stmt := top 28
noncomputable abbrev s_law_spoilt : Stmt := top 29
noncomputable abbrev s_law_refused : Stmt := top 30
noncomputable abbrev s_law_read_whole : Stmt := top 31
noncomputable abbrev s_law_read_ratio : Stmt := top 32
noncomputable abbrev s_law : Stmt := top 33
noncomputable def spCell (K : PySem.W.Frag) : Sp := fun vs H Q _ => ∃ (a : Addr) (ns : List Int) (i : Int), vs = [.ref a, .int i] ∧ SqL K H a (ns.map V.int) ∧ 0 ≤ i ∧ i < 1000 ∧ ∀ (c : Int) (H' : Hp), Same H H' → Q (.int c) H'
noncomputable def spMix : Sp := fun vs H Q _ => ∃ (c k : Int), vs = [.int c, .int k] ∧ 0 ≤ k ∧ k < 1000 ∧ ∀ z : Int, Q (.int z) H
noncomputable def spRow (K : PySem.W.Frag) : Sp := fun vs H Q _ => ∃ (a : Addr) (ns : List Int) (i : Int) (l : Addr) (zs : List Int), vs = [.ref a, .int i, .ref l] ∧ SqL K H a (ns.map V.int) ∧ 0 ≤ i ∧ i < 900 ∧ H l = some (.lst (zs.map V.int)) ∧ zs.length ≤ 900 ∧ (∀ z ∈ zs, 0 < z ∧ z < 2 ^ 60) ∧
  ∀ (p : Addr) (xs : List Int) (H' : Hp), Same H H' → H p = none → H' p = some (.lst (xs.map V.int)) → xs.length = zs.length → (∀ (j : Nat) (x z : Int), xs[j]? = some x → zs[j]? = some z → 0 ≤ x ∧ x < z) → Q (.ref p) H'
noncomputable def spRatio : Sp := fun vs H Q _ => ∃ (t b : Int), vs = [.int t, .int b] ∧ 0 < b ∧ Sz 8000 b ∧ ∀ (p : Addr) (t' b' : Int) (H' : Hp), Same H H' → H' p = some (.tup [.int t', .int b']) → Low t b t' b' → Q (.ref p) H'
noncomputable def spIs : Sp := fun vs H Q _ => ∃ (p : Addr) (a b : Int), vs = [.ref p] ∧ H p = some (.tup [.int a, .int b]) ∧ Sz 8000 b ∧ ∀ (r : Bool) (H' : Hp), Same H H' → (r = true ↔ 1 ≤ b ∧ Int.gcd a b = 1) → Q (.bl r) H'
structure Txt (mg : Str → Option Value) : Prop where
  len_ : mg "len" = none
  abs_ : mg "abs" = none
  range : mg "range" = none
  isinstance_ : mg "isinstance" = none
  int_ : mg "int" = none
  bool_ : mg "bool" = none
  tuple_ : mg "tuple" = none
  list_ : mg "list" = none
  max_ : mg "max" = none
  min_ : mg "min" = none
  enumerate_ : mg "enumerate" = none
  zip_ : mg "zip" = none
  all_ : mg "all" = none
  any_ : mg "any" = none
  sum_ : mg "sum" = none
  sorted_ : mg "sorted" = none
  reversed_ : mg "reversed" = none
  str_ : mg "str" = none
theorem ints_at {ns : List Int} {i : Int} (h0 : 0 ≤ i) (h : i < (ns.length : Int)) : ∃ v : Int, atI (ns.map V.int) i = some (.int v) := by
  have hk : i.toNat < ns.length := by walk_at "o"
  exact ⟨ns[i.toNat], at_ints (List.getElem?_eq_getElem hk) (by walk_at "o")⟩
theorem cut_int {ns : List Int} {lo hi : Option Int} {i : Nat} {y : V} (h : (cutV (ns.map V.int) lo hi)[i]? = some y) : ∃ m : Int, y = .int m := by
  have hm : y ∈ cutV (ns.map V.int) lo hi := List.mem_of_getElem? h
  unfold cutV at hm
  obtain ⟨m, _, e⟩ := List.mem_map.mp (List.mem_of_mem_drop (List.mem_of_mem_take hm))
  exact ⟨m, e.symm⟩
theorem mcast (x y : Nat) : ((x : Int) % (y : Int)) = ((x % y : Nat) : Int) := (Int.natCast_emod x y).symm
theorem abs_cast (t : Int) : (if t < 0 then -t else t) = (t.natAbs : Int) := by split <;> walk_at "o"
noncomputable def cellN (i : Nat) (σ : St) : Nat := match σ[i]? with | some (some (V.int n)) => n.toNat | _ => 0
noncomputable def third (σ : St) : Nat := match σ[3]? with | some (some (V.int n)) => n.toNat | _ => 0
section
variable {P : Program} {w : World} {K : PySem.W.Frag} {mg : Str → Option Value} {base : Heap} {f : Addr} {fd : FuncData}
theorem sc_law_cell : FnScope ["_law_script", "_law_place", "_law_seed", "_law_cell_here"] ["_law_script", "_law_place"] (defScope s_law_cell) := ⟨rfl, rfl, rfl, by decide +kernel, rfl, by decide +kernel, by decide +kernel⟩
theorem ok_law_cell (F : Fun K "_law_cell" "_law_cell" s_law_cell f fd) (T : Txt mg) : FnOk P w K mg base CX0 1 f fd ["_law_script", "_law_place"] (spCell K) := by
  refine F.ok sc_law_cell (fun vs H Q E h => ?_) (fun cdv A outer s H vs Q E hr h => ?_)
  · obtain ⟨a, ns, i, rfl, _⟩ := h
    rfl
  obtain ⟨a, ns, i, rfl, hS, h0, h1, k⟩ := h
  refine Jd.go ⟨_, (J.e (J.m (J.k op_lt (J.a 1) (J.p (lenC K) rfl T.len_ PySem.boot_len (J.b (J.a 0) J.d st_N) (he := st_N) (hpl := any0)) (nomark _))
      (J.g (J.j (J.h (ixL K) (J.a 0) (J.a 1) (fun _ _ => rfl))))
      J.n)
      (J.e (J.i (i := 2) sc_law_cell.nd rfl (Or.inl rfl) J.c (hs := sw_C))
      (J.e (Jd.ps_for PassesOwn.never rfl (Jd.piL K (J.u (slL K) (J.a 0) J.w (J.t J.c))) (J.z (i := 3) sc_law_cell.nd rfl (Or.inl rfl))
      (J.g (J.i (i := 2) sc_law_cell.nd rfl (Or.inl rfl) (J.f op_mod (J.f op_add (J.f op_add (J.f op_mulB (J.a 2) J.c) (J.f op_mod (J.a 3) J.c)) J.c) J.c) (hs := sw_B))))
      (J.g (J.j (J.f op_mod (J.f op_add (J.a 2) (J.f op_mulB J.c (J.a 1))) J.c)))))), ?_⟩
  walk_at "v"
  refine r_len (.inl hS) ?_
  walk_at "v"
  refine ite2 (fun c => ?_) (fun c => ?_)
  · have c' := of_decide_eq_true c
    rw [List.length_map] at c'
    obtain ⟨v, hv⟩ := ints_at (ns := ns) h0 c'
    walk_at "v"
    exact ⟨a, _, i, _, rfl, rfl, hS, hv, k v H (Same.refl _)⟩
  · walk_at "v"
    refine ⟨_, rfl, _, rfl, a, _, rfl, hS, fun p hp => ?_⟩
    have s1 : Same H (upd H p (.lst (cutV (ns.map V.int) none (some 63)))) := same_new hp _
    have e1 : upd H p (.lst (cutV (ns.map V.int) none (some 63))) p = some (.lst (cutV (ns.map V.int) none (some 63))) := upd_same
    refine ⟨p, rfl, ⟨_, SqL.of e1⟩, for_list (K := K) (a := p) (xs := cutV (ns.map V.int) none (some 63)) (fun _ σ H2 => ∃ (z : Int) (v : Option V), σ = [some (.ref a), some (.int i), some (.int z), v] ∧ 0 ≤ z ∧ z < 2147483647 ∧ Same (upd H p (.lst (cutV (ns.map V.int) none (some 63)))) H2)
      ⟨5, none, rfl, by decide, by decide, Same.refl _⟩ (fun _ σ H2 _ ⟨_, _, _, _, _, s2⟩ => SqL.of (s2 _ _ e1)) ?_ ?_⟩
    · rintro j y σ H2 hj ⟨z, v, rfl, z0, z1, s2⟩
      obtain ⟨m, rfl⟩ := cut_int hj
      walk_at "v"
      exact ⟨_, _, rfl, Int.emod_nonneg _ (by decide), Int.emod_lt_of_pos _ (by decide), s2⟩
    · rintro σ H2 ⟨z, v, rfl, z0, z1, s2⟩
      walk_at "v"
      exact k _ _ (s1.trans s2)
theorem sc_law_mix : FnScope ["_law_cell_here", "_law_k", "_law_one", "_law_two"] ["_law_cell_here", "_law_k"] (defScope s_law_mix) := ⟨rfl, rfl, rfl, by decide +kernel, rfl, by decide +kernel, by decide +kernel⟩
theorem ok_law_mix (F : Fun K "_law_mix" "_law_mix" s_law_mix f fd) : FnOk P w K mg base CX0 1 f fd ["_law_cell_here", "_law_k"] spMix := by
  refine F.ok sc_law_mix (fun vs H Q E h => ?_) (fun cdv A outer s H vs Q E hr h => ?_)
  · obtain ⟨c, k, rfl, _⟩ := h
    rfl
  obtain ⟨c, j, rfl, h0, h1, k⟩ := h
  refine Jd.go ⟨_, (J.e (J.i (i := 2) sc_law_mix.nd rfl (Or.inl rfl) (J.f op_mod (J.f op_pow (J.f op_add (J.f op_add (J.f op_mod (J.a 0) J.c) (J.f op_mulB J.c (J.a 1))) J.c) J.c) J.c) (hs := sw_B))
      (J.e (J.i (i := 3) sc_law_mix.nd rfl (Or.inl rfl) (J.f op_mod (J.f op_add (J.f op_add (J.f op_mulB (J.a 2) J.c) (J.f op_mulB (J.f op_mulB J.c (J.a 1)) (J.a 1))) J.c) J.c) (hs := sw_B))
      (J.g (J.j (J.f op_fdivB (J.a 3) J.c))))), ?_⟩
  have b0 : 0 ≤ c % 2147483629 := Int.emod_nonneg _ (by decide)
  have b1 : c % 2147483629 < 2147483629 := Int.emod_lt_of_pos _ (by decide)
  walk_at "v"
  refine r_I (show CPow _ _ from ⟨by decide, by decide, by walk_at "o"⟩) ?_
  walk_at "v"
  refine r_I (mulR (by walk_at "o") (by walk_at "o")) ?_
  walk_at "v"
  refine r_I (show CDivB _ _ from ⟨by decide, by decide +kernel⟩) ?_
  exact k _
theorem sc_law_row : FnScope ["_law_script", "_law_place", "_law_sizes", "_law_cell_here", "_law_left", "_law_some", "_law_k", "_law_other"] ["_law_script", "_law_place", "_law_sizes"] (defScope s_law_row) := ⟨rfl, rfl, rfl, by decide +kernel, rfl, by decide +kernel, by decide +kernel⟩
theorem ok_law_row (F : Fun K "_law_row" "_law_row" s_law_row f fd) (T : Txt mg) (D_law_cell : Dn P w K mg base 1 "_law_cell" ["_law_script", "_law_place"] (spCell K)) (D_law_mix : Dn P w K mg base 1 "_law_mix" ["_law_cell_here", "_law_k"] spMix) :
    FnOk P w K mg base CX0 3 f fd ["_law_script", "_law_place", "_law_sizes"] (spRow K) := by
  refine F.ok sc_law_row (fun vs H Q E h => ?_) (fun cdv A outer s H vs Q E hr h => ?_)
  · obtain ⟨a, ns, i, l, zs, rfl, _⟩ := h
    rfl
  obtain ⟨a, ns, i, l, zs, rfl, hS, h0, h1, hl, hz, hzs, k⟩ := h
  refine Jd.go ⟨_, (J.e (J.i (i := 3) sc_law_row.nd rfl (Or.inl rfl) (J.l D_law_cell (hr.mono (by decide)) rfl (J.b (J.a 0) (J.b (J.a 1) J.d st_N) st_N) (he := st_N) (hpl := (anyc st_N any0))) (hs := sw_K))
      (J.e (J.i (i := 4) sc_law_row.nd rfl (Or.inl rfl) (J.a 3) (hs := sw_N))
      (J.e (J.i (i := 5) sc_law_row.nd rfl (Or.inl rfl) (J.v J.d) (hs := sw_L))
      (J.e (Jd.ps_for PassesOwn.never rfl (Jd.pi_range1 rfl T.range (J.b (J.p (lenC K) rfl T.len_ PySem.boot_len (J.b (J.a 2) J.d st_N) (he := st_N) (hpl := any0)) J.d st_K)) (J.z (i := 6) sc_law_row.nd rfl (Or.inl rfl))
      (J.g (J.m (J.k op_lt (J.a 3) (J.f op_pow J.c J.c) (nomark _))
      (J.g (J.x (Jd.appC K (J.a 5) (J.f op_mod (J.l D_law_mix (hr.mono (by decide)) rfl (J.b (J.a 3) (J.b (J.a 6) J.d st_N) st_N) (he := st_N) (hpl := (anyc st_N any0))) (J.h (ixL K) (J.a 2) (J.a 6) (fun _ _ => rfl)))) (hs := sw_K)))
      (J.g (J.m (J.k op_gt (J.a 4) J.c (nomark _))
      (J.e (J.x (Jd.appC K (J.a 5) (J.f op_mod (J.a 4) (J.h (ixL K) (J.a 2) (J.a 6) (fun _ _ => rfl)))) (hs := sw_K))
      (J.g (J.i (i := 4) sc_law_row.nd rfl (Or.inl rfl) (J.f op_fdivB (J.a 4) (J.h (ixL K) (J.a 2) (J.a 6) (fun _ _ => rfl))) (hs := sw_B))))
      (J.e (J.i (i := 7) sc_law_row.nd rfl (Or.inl rfl) (J.l D_law_cell (hr.mono (by decide)) rfl (J.b (J.a 0) (J.b (J.f op_mod (J.f op_add (J.f op_add (J.a 1) J.c) (J.a 6)) J.c) J.d st_B) st_N) (he := st_N) (hpl := (anyc st_B any0))) (hs := sw_K))
      (J.g (J.x (Jd.appC K (J.a 5) (J.f op_mod (J.l D_law_mix (hr.mono (by decide)) rfl (J.b (J.a 7) (J.b (J.a 6) J.d st_N) st_N) (he := st_N) (hpl := (anyc st_N any0))) (J.h (ixL K) (J.a 2) (J.a 6) (fun _ _ => rfl)))) (hs := sw_K)))))))))
      (J.g (J.j (J.a 5))))))), ?_⟩
  walk_at "v"
  refine ⟨a, ns, i, rfl, hS, h0, by walk_at "o", fun c H1 s1 => ?_⟩
  walk_at "v"
  refine r_new (mk := .lst) (by simp) fun p H2 s2 n2 e2 => ?_
  walk_at "v"
  have hl2 : H2 l = some (.lst (zs.map V.int)) := s2 _ _ (s1 _ _ hl)
  refine ⟨_, rfl, l, _, rfl, .inl (SqL.of hl2), _, rfl, by lia, by rw [List.length_map]; lia, for_range (fun j σ H3 => ∃ (left : Int) (xs : List Int) (v6 v7 : Option V),
    σ = [some (.ref a), some (.int i), some (.ref l), some (.int c), some (.int left), some (.ref p), v6, v7] ∧ Same H1 H3 ∧ H3 p = some (.lst (xs.map V.int)) ∧ xs.length = j ∧ (∀ (j : Nat) (x z : Int), xs[j]? = some x → zs[j]? = some z → 0 ≤ x ∧ x < z)) ?_ ?_ ?_⟩
  · exact ⟨c, [], none, none, rfl, s2, e2, rfl, fun j x z e _ => by simp at e⟩
  · rintro j σ H3 hj ⟨left, xs, v6, v7, rfl, s3, e3, hx, hxs⟩
    have hj' : j < zs.length := by simpa using hj
    obtain ⟨z, ez⟩ : ∃ z, zs[j]? = some z := ⟨_, List.getElem?_eq_getElem hj'⟩
    obtain ⟨zp, zq⟩ := hzs z (List.mem_of_getElem? ez)
    have hl3 : H3 l = some (.lst (zs.map V.int)) := s3 _ _ (s1 _ _ hl)
    have ea : atI (zs.map V.int) (0 + (j : Int)) = some (.int z) := at_ints ez (by walk_at "o")
    have hS3 : SqL K H3 a (ns.map V.int) := (s1.trans s3).seq hS
    -- one more item
    have fin : ∀ (y left' : Int) (v6 v7 : Option V) (H4 : Hp), Same H3 H4 → H4 p = some (.lst (xs.map V.int)) → ∃ (left : Int) (xs' : List Int) (v6' v7' : Option V),
        [some (.ref a), some (.int i), some (.ref l), some (.int c), some (.int left'), some (.ref p), v6, v7] = [some (.ref a), some (.int i), some (.ref l), some (.int c), some (.int left), some (.ref p), v6', v7'] ∧
        Same H1 (upd H4 p (.lst (xs.map V.int ++ [.int (y % z)]))) ∧ upd H4 p (.lst (xs.map V.int ++ [.int (y % z)])) p = some (.lst (xs'.map V.int)) ∧ xs'.length = j + 1 ∧ (∀ (j : Nat) (x z : Int), xs'[j]? = some x → zs[j]? = some z → 0 ≤ x ∧ x < z) := by
      intro y left' v6 v7 H4 s4 e4
      refine ⟨left', xs ++ [y % z], v6, v7, rfl, same_at (s3.trans s4) n2, ?_, by rw [List.length_append, hx]; rfl, fun m x z' e1 e2 => ?_⟩
      · rw [upd_same, List.map_append]; rfl
      · by_cases hm : m < xs.length
        · rw [List.getElem?_append_left hm] at e1
          exact hxs m x z' e1 e2
        · have hm2 : m = j := by
            have := (List.getElem?_eq_some_iff.mp e1).1
            rw [List.length_append] at this
            simp at this
            walk_at "o"
          subst hm2
          rw [List.getElem?_append_right (by walk_at "o"), hx] at e1
          simp at e1
          rw [ez] at e2
          cases e2
          subst e1
          exact ⟨Int.emod_nonneg _ (by walk_at "o"), Int.emod_lt_of_pos _ zp⟩
    have small3 : (xs.map V.int).length < sizeLine := by rw [List.length_map]; exact small1000 (by walk_at "o")
    walk_at "v"
    refine ite2 (fun _ => ?_) (fun _ => ?_)
    · walk_at "v"
      refine ⟨.inl ⟨rfl, _, SqL.of e3⟩, ?_⟩
      walk_at "v"
      refine ⟨_, _, rfl, by walk_at "o", by walk_at "o", fun y => ?_⟩
      walk_at "v"
      refine r_l hl3 ea ?_
      refine r_I (show (0 : Int) < z from zp) ?_
      walk_at "v"
      refine r_app e3 small3 ?_
      exact fin y _ _ _ _ (Same.refl _) e3
    · walk_at "v"
      refine ite2 (fun _ => ?_) (fun _ => ?_)
      · walk_at "v"
        refine ⟨.inl ⟨rfl, _, SqL.of e3⟩, ?_⟩
        walk_at "v"
        refine r_l hl3 ea ?_
        refine r_I (show (0 : Int) < z from zp) ?_
        walk_at "v"
        refine r_app e3 small3 ?_
        walk_at "v"
        refine r_l (by rw [upd_ne (ne_of_none (s1 _ _ hl) n2)]; exact hl3) ea ?_
        refine r_I (show CDivB _ _ from ⟨by walk_at "o", Sz.log (m := 60) (Sz.of_lt (k := 2 ^ 60) (by walk_at "o") (Nat.le_refl _)) (by decide) (by decide)⟩) ?_
        exact fin left _ _ _ _ (Same.refl _) e3
      · walk_at "v"
        have q0 : 0 ≤ (i + 1 + (0 + (j : Int))) % 63 := Int.emod_nonneg _ (by decide)
        have q1 : (i + 1 + (0 + (j : Int))) % 63 < 63 := Int.emod_lt_of_pos _ (by decide)
        refine ⟨a, ns, _, rfl, hS3, q0, by walk_at "o", fun c2 H4 s4 => ?_⟩
        walk_at "v"
        refine ⟨.inl ⟨rfl, _, SqL.of (s4 _ _ e3)⟩, ?_⟩
        walk_at "v"
        refine ⟨_, _, rfl, by walk_at "o", by walk_at "o", fun y => ?_⟩
        walk_at "v"
        refine r_l (s4 _ _ hl3) ea ?_
        refine r_I (show (0 : Int) < z from zp) ?_
        walk_at "v"
        refine r_app (s4 _ _ e3) small3 ?_
        exact fin y _ _ _ _ s4 (s4 _ _ e3)
  · rintro σ H3 ⟨left, xs, v6, v7, rfl, s3, e3, hx, hxs⟩
    walk_at "v"
    exact k p xs H3 (s1.trans s3) (s1.free n2) e3 (by simpa using hx) hxs
theorem sc_law_ratio : FnScope ["_law_top", "_law_bottom", "_law_one", "_law_two"] ["_law_top", "_law_bottom"] (defScope s_law_ratio) := ⟨rfl, rfl, rfl, by decide +kernel, rfl, by decide +kernel, by decide +kernel⟩
theorem ok_law_ratio (F : Fun K "_law_ratio" "_law_ratio" s_law_ratio f fd) (T : Txt mg) : FnOk P w K mg base CX0 1 f fd ["_law_top", "_law_bottom"] spRatio := by
  refine F.ok sc_law_ratio (fun vs H Q E h => ?_) (fun cdv A outer s H vs Q E hr h => ?_)
  · obtain ⟨t, b, rfl, _⟩ := h
    rfl
  obtain ⟨t, b, rfl, hb, hz, k⟩ := h
  refine Jd.go ⟨_, (J.e (Jd.ps_par (i := 2) (j := 3) rfl sc_law_ratio.nd rfl rfl (by decide) rfl rfl (J.b (J.p absC rfl T.abs_ PyProof.Rows.boot_abs (J.b (J.a 0) J.d st_N) (he := st_N) (hpl := any0)) (J.b (J.a 1) J.d st_N) st_K) rfl)
      (J.e (Jd.ps_while PassesOwn.never (J.k op_gt (J.a 3) J.c (nomark _))
      (J.g (Jd.ps_par (i := 2) (j := 3) rfl sc_law_ratio.nd rfl rfl (by decide) rfl rfl (J.b (J.a 3) (J.b (J.f op_mod (J.a 2) (J.a 3)) J.d st_B) st_N) rfl)))
      (J.g (J.j (J.q (J.b (J.f op_fdivB (J.a 0) (J.a 2)) (J.b (J.f op_fdivB (J.a 1) (J.a 2)) J.d st_B) st_B)))))), ?_⟩
  walk_at "v"
  have hgb : Int.gcd t b ≤ b.natAbs := by
    have := Int.gcd_le_right (a := t) (b := b) (by walk_at "o")
    walk_at "o"
  refine while_by (fun σ H' => H' = H ∧ ∃ x y : Nat, σ = [some (.int t), some (.int b), some (.int x), some (.int y)] ∧ Nat.gcd x y = Int.gcd t b) (fun σ _ => third σ) ?_ ?_ ?_
  · refine ⟨rfl, t.natAbs, b.natAbs, ?_, rfl⟩
    rw [abs_cast]
    have e : b = ((b.natAbs : Nat) : Int) := by walk_at "o"
    rw [← e]
    rfl
  · rintro σ H' ⟨rfl, x, y, rfl, hg⟩
    walk_at "v"
    refine ite2 (fun c => ?_) (fun c => ?_)
    · have c' : (0 : Int) < (y : Int) := of_decide_eq_true c
      walk_at "v"
      refine ⟨⟨rfl, y, x % y, ?_, by rw [gcd_step]; exact hg⟩, ?_⟩
      · rw [← mcast]; rfl
      · show ((x : Int) % (y : Int)).toNat < (y : Int).toNat
        rw [mcast]
        have := Nat.mod_lt x (y := y) (by walk_at "o")
        walk_at "o"
    · have c' : ¬ (0 : Int) < (y : Int) := of_decide_eq_false (Bool.eq_false_iff.mpr c)
      have y0 : y = 0 := by walk_at "o"
      subst y0
      rw [Nat.gcd_zero_right] at hg
      subst hg
      have gp : 0 < Int.gcd t b := Int.gcd_pos_of_ne_zero_right t (by walk_at "o")
      have cd : CDivB t ((Int.gcd t b : Nat) : Int) := ⟨by walk_at "o", Sz.log (m := 8000) (Sz.of_le hz (by walk_at "o")) (by decide) (by decide)⟩
      walk_at "v"
      refine r_new (mk := .tup) (by simp) fun p H1 s1 n1 e1 => ?_
      exact k p _ _ H1 s1 e1 (low_pos hb)
  · intro σ H Q Q' h q
    obtain ⟨v, e, i, j, e1, e2, b, e3, q⟩ := q
    exact ⟨v, e, i, j, e1, e2, b, e3, h _ _ q⟩
theorem sc_law_is_ratio : FnScope ["_law_one", "_law_part"] ["_law_one"] (defScope s_law_is_ratio) := ⟨rfl, rfl, rfl, by decide +kernel, rfl, by decide +kernel, by decide +kernel⟩
theorem ok_law_is_ratio (F : Fun K "_law_is_ratio" "_law_is_ratio" s_law_is_ratio f fd) (T : Txt mg) (D_law_ratio : Dn P w K mg base 1 "_law_ratio" ["_law_top", "_law_bottom"] spRatio) : FnOk P w K mg base CX0 3 f fd ["_law_one"] spIs := by
  refine F.ok sc_law_is_ratio (fun vs H Q E h => ?_) (fun cdv A outer s H vs Q E hr h => ?_)
  · obtain ⟨p, a, b, rfl, _⟩ := h
    rfl
  obtain ⟨p, a, b, rfl, hp, hz, k⟩ := h
  have hu64 := hr.units
  refine Jd.go ⟨_, (J.e (J.m (Jd.PWpt (J.s (Jd.pt_not (J.r (J.p (isiC K) rfl T.isinstance_ PyProof.Rows.boot_isinstance (J.b (J.a 0) (J.b (Jd.pe_ty rfl T.tuple_ PyProof.Rows.boot_tuple) J.d st_N) st_N) (he := st_N) (hpl := (anyc st_N any0))))) (Jd.pw_or1 (J.k op_ne (J.p (lenC K) rfl T.len_ PySem.boot_len (J.b (J.a 0) J.d st_N) (he := st_N) (hpl := any0)) J.c (nomark _)))))
      (J.g (J.j Jd.pe_bl))
      J.n)
      (J.e (Jd.ps_for PassesOwn.never rfl (Jd.piT K (J.a 0)) (J.z (i := 1) sc_law_is_ratio.nd rfl (Or.inl rfl))
      (J.g (J.m (Jd.PWpt (J.s (J.r (J.p (isiC K) rfl T.isinstance_ PyProof.Rows.boot_isinstance (J.b (J.a 1) (J.b (Jd.pe_ty rfl T.bool_ PyProof.Rows.boot_bool) J.d st_N) st_N) (he := st_N) (hpl := (anyc st_N any0)))) (Jd.pw_or1 (Jd.pt_not (J.r (J.p (isiC K) rfl T.isinstance_ PyProof.Rows.boot_isinstance (J.b (J.a 1) (J.b (Jd.pe_ty rfl T.int_ PyProof.Rows.boot_int) J.d st_N) st_N) (he := st_N) (hpl := (anyc st_N any0))))))))
      (J.g (J.j Jd.pe_bl))
      J.n)))
      (J.g (J.j (Jd.pe_and (J.y op_ge (J.h (ixT K) (J.a 0) J.c (fun _ _ => rfl)) J.c (nomark _)) (Jd.pe_one (J.y (op_eqD hu64) (J.l D_law_ratio (hr.mono (by decide)) rfl (J.b (J.h (ixT K) (J.a 0) J.c (fun _ _ => rfl)) (J.b (J.h (ixT K) (J.a 0) J.c (fun _ _ => rfl)) J.d st_S) st_S) (he := st_S) (hpl := (anyc st_S any0))) (J.a 0) (nomark _)))))))), ?_⟩
  walk_at "v"
  refine r_isi (.tup hp) kit_tt ?_
  walk_at "v"
  refine iteF ?_
  walk_at "v"
  refine r_len (.inr (SqT.of hp)) ?_
  walk_at "v"
  refine iteF ?_
  walk_at "v"
  refine ⟨_, rfl, p, rfl, ⟨_, SqT.of hp⟩, for_tup (K := K) (a := p) (xs := [.int a, .int b]) (fun _ σ H2 => H2 = H ∧ ∃ v : Option V, σ = [some (.ref p), v]) ⟨rfl, none, rfl⟩ (fun _ σ H2 _ ⟨e, _⟩ => by subst e; exact SqT.of hp) ?_ ?_⟩
  · rintro j y σ H2 hj ⟨rfl, v, rfl⟩
    obtain ⟨m, rfl⟩ : ∃ m : Int, y = .int m := by
      have hm := List.mem_of_getElem? hj
      simp at hm
      rcases hm with h | h
      · exact ⟨_, h⟩
      · exact ⟨_, h⟩
    walk_at "v"
    refine r_isi (.int m) kit_ib ?_
    walk_at "v"
    refine iteF ?_
    walk_at "v"
    refine r_isi (.int m) kit_ii ?_
    walk_at "v"
    refine iteF ?_
    walk_at "v"
    exact ⟨rfl, _, rfl⟩
  · rintro σ H2 ⟨rfl, v, rfl⟩
    walk_at "v"
    refine ite2 (fun c => ?_) (fun c => ?_)
    · have c' : (1 : Int) ≤ b := of_decide_eq_true c
      walk_at "v"
      refine ⟨_, _, rfl, by walk_at "o", hz, fun p' t' b' H3 s3 e3 lo => ?_⟩
      walk_at "v"
      refine ⟨_, _, .tup e3 (.cons (.int _) (.cons (.int _) .nil)), .tup (s3 _ _ hp) (.cons (.int _) (.cons (.int _) .nil)), rfl, rfl, ?_⟩
      refine k _ H3 s3 ?_
      have e : PyData.eqv (.tuple [.int t', .int b']) (.tuple [.int a, .int b]) = (t' == a && (b' == b && true)) := rfl
      rw [e]
      constructor
      · intro q
        simp at q
        obtain ⟨rfl, rfl⟩ := q
        exact ⟨c', lo.co⟩
      · rintro ⟨_, q⟩
        obtain ⟨rfl, rfl⟩ := lo.self c' q
        simp
    · have c' : ¬ (1 : Int) ≤ b := of_decide_eq_false (Bool.eq_false_iff.mpr c)
      exact k false H2 (Same.refl _) ⟨fun q => absurd q (by decide), fun q => absurd q.1 c'⟩
end

section
variable {H H' : Hp} {p : Addr} {q h : Rat} {m n : Nat} {t : Int}
end
noncomputable def spPlain : Sp := fun vs H Q _ => ∃ (m n : Int), vs = [.int m, .int n] ∧ 0 ≤ m ∧ 0 ≤ n ∧ Q (.int (Int.gcd m n : Nat)) H
noncomputable def spSteps : Sp := fun vs H Q _ => ∃ (m n : Int), vs = [.int m, .int n] ∧ 0 ≤ n ∧ n ≤ m ∧ m < 115792089237316195423570985008687907853269984665640564039457584007913129639936 ∧
  ∀ (p : Addr) (x0 y0 x1 y1 high low : Int) (H' : Hp), Same H H' → H' p = some (.tup [.int x0, .int y0, .int x1, .int y1]) → Steps m n high low x0 y0 x1 y1 → low ≤ 340282366920938463463374607431768211456 → Q (.ref p) H'
noncomputable def spDivisor : Sp := fun vs H Q _ => ∃ (m n : Int), vs = [.int m, .int n] ∧ Sz 8000 m ∧ Sz 8000 n ∧ ∀ H', Same H H' → Q (.int (Int.gcd m n : Nat)) H'
section
variable {P : Program} {w : World} {K : PySem.W.Frag} {mg : Str → Option Value} {base : Heap} {f : Addr} {fd : FuncData}
theorem sc_plain_divisor : FnScope ["one", "other", "found", "rest", "left"] ["one", "other"] (defScope s_plain_divisor) := ⟨rfl, rfl, rfl, by decide +kernel, rfl, by decide +kernel, by decide +kernel⟩
theorem ok_plain_divisor (F : Fun K "plain_divisor" "plain_divisor" s_plain_divisor f fd) (T : Txt mg) : FnOk P w K mg base CX0 1 f fd ["one", "other"] spPlain := by
  refine F.ok sc_plain_divisor (fun vs H Q E h => ?_) (fun cdv A outer s H vs Q E hr h => ?_)
  · obtain ⟨m, n, rfl, _⟩ := h
    rfl
  obtain ⟨m, n, rfl, hm, hn, k⟩ := h
  refine Jd.go ⟨_, (J.e (J.i (i := 2) sc_plain_divisor.nd rfl (Or.inl rfl) (J.a 0) (hs := sw_N))
      (J.e (J.i (i := 3) sc_plain_divisor.nd rfl (Or.inl rfl) (J.a 1) (hs := sw_N))
      (J.e (Jd.ps_while PassesOwn.never (J.k op_ne (J.a 3) J.c (nomark _))
      (J.e (J.i (i := 4) sc_plain_divisor.nd rfl (Or.inl rfl) (J.f op_mod (J.a 2) (J.a 3)) (hs := sw_B))
      (J.e (J.i (i := 2) sc_plain_divisor.nd rfl (Or.inl rfl) (J.a 3) (hs := sw_N))
      (J.g (J.i (i := 3) sc_plain_divisor.nd rfl (Or.inl rfl) (J.a 4) (hs := sw_N))))))
      (J.g (J.j (J.a 2)))))), ?_⟩
  walk_at "v"
  refine while_by (fun σ H' => H' = H ∧ ∃ (x y : Nat) (v : Option V), σ = [some (.int m), some (.int n), some (.int x), some (.int y), v] ∧ Nat.gcd x y = Int.gcd m n) (fun σ _ => third σ) ?_ ?_ ?_
  · refine ⟨rfl, m.natAbs, n.natAbs, none, ?_, rfl⟩
    rw [show ((m.natAbs : Nat) : Int) = m by walk_at "o", show ((n.natAbs : Nat) : Int) = n by walk_at "o"]
    rfl
  · rintro σ H' ⟨rfl, x, y, v, rfl, hg⟩
    walk_at "v"
    refine ite2 (fun c => ?_) (fun c => ?_)
    · have c' : ¬ (y : Int) = 0 := by simpa using c
      walk_at "v"
      refine ⟨⟨rfl, y, x % y, some (.int ((x % y : Nat) : Int)), ?_, by rw [gcd_step]; exact hg⟩, ?_⟩
      · rw [mcast]; rfl
      · show ((x : Int) % (y : Int)).toNat < (y : Int).toNat
        rw [mcast]
        have := Nat.mod_lt x (y := y) (by walk_at "o")
        walk_at "o"
    · have c' : (y : Int) = 0 := by simpa using c
      have y0 : y = 0 := by walk_at "o"
      subst y0
      rw [Nat.gcd_zero_right] at hg
      subst hg
      walk_at "v"
      exact k
  · intro σ H Q Q' h q
    obtain ⟨v, e, hs, b, e3, q⟩ := q
    exact ⟨v, e, hs, b, e3, h _ _ q⟩
theorem sc_steps_of_heads : FnScope ["high", "low", "ahead", "now", "many", "left", "behind"] ["high", "low"] (defScope s_steps_of_heads) := ⟨rfl, rfl, rfl, by decide +kernel, rfl, by decide +kernel, by decide +kernel⟩
theorem ok_steps_of_heads (F : Fun K "steps_of_heads" "steps_of_heads" s_steps_of_heads f fd) (C_HEAD : Cn mg "HEAD" 256) : FnOk P w K mg base CX0 1 f fd ["high", "low"] spSteps := by
  refine F.ok sc_steps_of_heads (fun vs H Q E h => ?_) (fun cdv A outer s H vs Q E hr h => ?_)
  · obtain ⟨m, n, rfl, _⟩ := h
    rfl
  obtain ⟨hd, ld, rfl, h0, h1, h2, k⟩ := h
  refine Jd.go ⟨_, (J.e (J.i (i := 2) sc_steps_of_heads.nd rfl (Or.inl rfl) (J.q (J.b J.c (J.b J.c J.d st_C) st_C)) (hs := sw_T))
      (J.e (J.i (i := 3) sc_steps_of_heads.nd rfl (Or.inl rfl) (J.q (J.b J.c (J.b J.c J.d st_C) st_C)) (hs := sw_T))
      (J.e (Jd.ps_while PassesOwn.never (J.k op_gt (Jd.pe_bits (J.a 1)) (J.f op_fdivB (Jd.pe_cn rfl C_HEAD) J.c) (nomark _))
      (J.e (J.i (i := 4) sc_steps_of_heads.nd rfl (Or.inl rfl) (J.f op_fdivB (J.a 0) (J.a 1)) (hs := sw_B))
      (J.e (J.i (i := 5) sc_steps_of_heads.nd rfl (Or.inl rfl) (J.f op_sub (J.a 0) (J.f op_mulB (J.a 4) (J.a 1))) (hs := sw_B))
      (J.e (J.i (i := 0) sc_steps_of_heads.nd rfl (Or.inl rfl) (J.a 1) (hs := sw_N))
      (J.e (J.i (i := 1) sc_steps_of_heads.nd rfl (Or.inl rfl) (J.a 5) (hs := sw_N))
      (J.e (J.i (i := 6) sc_steps_of_heads.nd rfl (Or.inl rfl) (J.q (J.b (J.f op_sub (J.h (ixT K) (J.a 2) J.c (fun _ _ => rfl)) (J.f op_mulB (J.a 4) (J.h (ixT K) (J.a 3) J.c (fun _ _ => rfl)))) (J.b (J.f op_sub (J.h (ixT K) (J.a 2) J.c (fun _ _ => rfl)) (J.f op_mulB (J.a 4) (J.h (ixT K) (J.a 3) J.c (fun _ _ => rfl)))) J.d st_B) st_B)) (hs := sw_T))
      (J.e (J.i (i := 2) sc_steps_of_heads.nd rfl (Or.inl rfl) (J.a 3) (hs := sw_N))
      (J.g (J.i (i := 3) sc_steps_of_heads.nd rfl (Or.inl rfl) (J.a 6) (hs := sw_N))))))))))
      (J.g (J.j (J.f (catT K) (J.a 2) (J.a 3))))))), ?_⟩
  walk_at "v"
  refine r_new (mk := .tup) (by simp) fun pa Ha sa na ea => ?_
  walk_at "v"
  refine r_new (mk := .tup) (by simp) fun pn Hn sn nn en => ?_
  walk_at "v"
  refine while_by (fun σ H' => Same H H' ∧ ∃ (high low x0 y0 x1 y1 : Int) (pa pn : Addr) (v4 v5 v6 : Option V), σ = [some (.int high), some (.int low), some (.ref pa), some (.ref pn), v4, v5, v6] ∧
    H' pa = some (.tup [.int x0, .int y0]) ∧ H' pn = some (.tup [.int x1, .int y1]) ∧ Steps hd ld high low x0 y0 x1 y1) (fun σ _ => cellN 1 σ) ?_ ?_ ?_
  · exact ⟨sa.trans sn, hd, ld, 1, 0, 0, 1, pa, pn, none, none, none, rfl, sn _ _ ea, en, Steps.init h0 h1⟩
  · rintro σ H' ⟨sH, high, low, x0, y0, x1, y1, pa, pn, v4, v5, v6, rfl, ea, en, S⟩
    walk_at "v"
    refine r_I ⟨by decide, by decide⟩ ?_
    walk_at "v"
    refine ite2 (fun c => ?_) (fun c => ?_)
    · have c' := of_decide_eq_true c
      rw [show Int.fdiv 256 2 = 128 by decide] at c'
      have hlow := heads_big c' S.l0
      have hq := S.step hlow rfl
      have hH : hd.natAbs < 2 ^ 256 := by
        have : (2 : Nat) ^ 256 = 115792089237316195423570985008687907853269984665640564039457584007913129639936 := by decide
        walk_at "o"
      have zl : Sz 256 ld := Sz.of_le (m := 256) (x := hd) hH (by walk_at "o")
      have zh : Sz 256 high := Sz.of_le (m := 256) (x := hd) hH (by have := S.high_le h1; have := S.lh; have := S.l0; walk_at "o")
      have nb := S.now_le (by have := S.lh; walk_at "o")
      have zx : Sz 256 x1 := Sz.of_le zl nb.1
      have zy : Sz 256 y1 := Sz.of_le (m := 256) (x := hd) hH nb.2
      have zlo : Sz 256 low := zh.of_le (by have := S.lh; have := S.l0; walk_at "o")
      have eq : high.fdiv low = high / low := Int.fdiv_eq_ediv_of_nonneg _ S.l0
      have zq : Sz 256 (high / low) := zh.of_le (div_le (by have := S.lh; have := S.l0; walk_at "o") S.l0)
      walk_at "v"
      refine r_I ⟨by walk_at "o", zlo.log (by decide) (by decide)⟩ ?_
      rw [eq]
      walk_at "v"
      refine r_I (mulOk zq zlo) ?_
      walk_at "v"
      refine r_I (mulOk zq zx) ?_
      walk_at "v"
      refine r_I (mulOk zq zy) ?_
      walk_at "v"
      refine r_new (mk := .tup) (by simp) fun pb Hb sb nb eb => ?_
      walk_at "v"
      refine ⟨⟨sH.trans sb, low, high - high / low * low, x1, y1, x0 - high / low * x1, y0 - high / low * y1, pn, pb, _, _, _, rfl, sb _ _ en, eb, hq⟩, ?_⟩
      show (high - high / low * low).toNat < low.toNat
      have e := Int.mul_ediv_add_emod high low
      rw [Int.mul_comm] at e
      have := Int.emod_lt_of_pos high (b := low) (by walk_at "o")
      walk_at "o"
    · have c' := of_decide_eq_false (Bool.eq_false_iff.mpr c)
      rw [show Int.fdiv 256 2 = 128 by decide] at c'
      have hlow := heads_small c'
      walk_at "v"
      refine r_catT ea en ?_
      refine r_new (mk := .tup) (by simp) fun pb Hb sb nb eb => ?_
      exact k pb x0 y0 x1 y1 high low Hb (sH.trans sb) eb S (by walk_at "o")
  · intro σ H Q Q' h q
    obtain ⟨v, e, a1, a2, i, a3, m, n, e1, e2, hc, m', n', e3, e4, b, e5, q⟩ := q
    exact ⟨v, e, a1, a2, i, a3, m, n, e1, e2, hc, m', n', e3, e4, b, e5, h _ _ q⟩
theorem sc_divisor : FnScope ["one", "other", "found", "rest", "tail", "steps", "ahead", "now"] ["one", "other"] (defScope s_divisor) := ⟨rfl, rfl, rfl, by decide +kernel, rfl, by decide +kernel, by decide +kernel⟩
theorem ok_divisor (F : Fun K "divisor" "divisor" s_divisor f fd) (T : Txt mg) (C_HEAD : Cn mg "HEAD" 256) (D_plain_divisor : Dn P w K mg base 1 "plain_divisor" ["one", "other"] spPlain) (D_steps_of_heads : Dn P w K mg base 1 "steps_of_heads" ["high", "low"] spSteps) :
    FnOk P w K mg base CX0 2 f fd ["one", "other"] spDivisor := by
  refine F.ok sc_divisor (fun vs H Q E h => ?_) (fun cdv A outer s H vs Q E hr h => ?_)
  · obtain ⟨m, n, rfl, _⟩ := h
    rfl
  obtain ⟨m, n, rfl, zm, zn, k⟩ := h
  refine Jd.go ⟨_, (J.e (J.i (i := 2) sc_divisor.nd rfl (Or.inl rfl) (J.p (maxC rfl) rfl T.max_ PyProof.Rows.boot_max (J.b (J.p absC rfl T.abs_ PyProof.Rows.boot_abs (J.b (J.a 0) J.d st_N) (he := st_N) (hpl := any0)) (J.b (J.p absC rfl T.abs_ PyProof.Rows.boot_abs (J.b (J.a 1) J.d st_N) (he := st_N) (hpl := any0)) J.d st_K) st_K) (he := st_K) (hpl := (anyc st_K any0))) (hs := sw_K))
      (J.e (J.i (i := 3) sc_divisor.nd rfl (Or.inl rfl) (J.p (minC rfl) rfl T.min_ PyProof.Rows.boot_min (J.b (J.p absC rfl T.abs_ PyProof.Rows.boot_abs (J.b (J.a 0) J.d st_N) (he := st_N) (hpl := any0)) (J.b (J.p absC rfl T.abs_ PyProof.Rows.boot_abs (J.b (J.a 1) J.d st_N) (he := st_N) (hpl := any0)) J.d st_K) st_K) (he := st_K) (hpl := (anyc st_K any0))) (hs := sw_K))
      (J.e (Jd.ps_while PassesOwn.never (J.k op_gt (Jd.pe_bits (J.a 3)) (Jd.pe_cn rfl C_HEAD) (nomark _))
      (J.e (J.i (i := 4) sc_divisor.nd rfl (Or.inl rfl) (J.f op_sub (Jd.pe_bits (J.a 2)) (Jd.pe_cn rfl C_HEAD)) (hs := sw_B))
      (J.e (J.i (i := 5) sc_divisor.nd rfl (Or.inl rfl) (J.l D_steps_of_heads (hr.mono (by decide)) rfl (J.b (J.f op_shr (J.a 2) (J.a 4)) (J.b (J.f op_shr (J.a 3) (J.a 4)) J.d st_B) st_B) (he := st_B) (hpl := (anyc st_B any0))) (hs := sw_K))
      (J.e (J.m (J.k op_eq (J.h (ixT K) (J.a 5) J.c (fun _ _ => rfl)) J.c (nomark _))
      (J.g (J.i (i := 5) sc_divisor.nd rfl (Or.inl rfl) (J.q (J.b J.c (J.b J.c (J.b J.c (J.b (Jd.pe_un un_neg (J.f op_fdivB (J.a 2) (J.a 3))) J.d st_U) st_C) st_C) st_C)) (hs := sw_T)))
      J.n)
      (J.e (J.i (i := 6) sc_divisor.nd rfl (Or.inl rfl) (J.p absC rfl T.abs_ PyProof.Rows.boot_abs (J.b (J.f op_add (J.f op_mulB (J.h (ixT K) (J.a 5) J.c (fun _ _ => rfl)) (J.a 2)) (J.f op_mulB (J.h (ixT K) (J.a 5) J.c (fun _ _ => rfl)) (J.a 3))) J.d st_B) (he := st_B) (hpl := any0)) (hs := sw_K))
      (J.e (J.i (i := 7) sc_divisor.nd rfl (Or.inl rfl) (J.p absC rfl T.abs_ PyProof.Rows.boot_abs (J.b (J.f op_add (J.f op_mulB (J.h (ixT K) (J.a 5) J.c (fun _ _ => rfl)) (J.a 2)) (J.f op_mulB (J.h (ixT K) (J.a 5) J.c (fun _ _ => rfl)) (J.a 3))) J.d st_B) (he := st_B) (hpl := any0)) (hs := sw_K))
      (J.e (J.i (i := 2) sc_divisor.nd rfl (Or.inl rfl) (J.p (maxC rfl) rfl T.max_ PyProof.Rows.boot_max (J.b (J.a 6) (J.b (J.a 7) J.d st_N) st_N) (he := st_N) (hpl := (anyc st_N any0))) (hs := sw_K))
      (J.g (J.i (i := 3) sc_divisor.nd rfl (Or.inl rfl) (J.p (minC rfl) rfl T.min_ PyProof.Rows.boot_min (J.b (J.a 6) (J.b (J.a 7) J.d st_N) st_N) (he := st_N) (hpl := (anyc st_N any0))) (hs := sw_K))))))))))
      (J.g (J.j (J.l D_plain_divisor (hr.mono (by decide)) rfl (J.b (J.a 2) (J.b (J.a 3) J.d st_N) st_N) (he := st_N) (hpl := (anyc st_N any0)))))))), ?_⟩
  walk_at "v"
  rw [abs_cast, abs_cast]
  refine while_by (fun σ H' => Same H H' ∧ ∃ (x y : Int) (v4 v5 v6 v7 : Option V), σ = [some (.int m), some (.int n), some (.int x), some (.int y), v4, v5, v6, v7] ∧
    0 ≤ y ∧ y ≤ x ∧ Int.gcd x y = Int.gcd m n ∧ Sz 8001 (x + y)) (fun σ _ => cellN 2 σ + cellN 3 σ) ?_ ?_ ?_
  · refine ⟨Same.refl _, _, _, none, none, none, none, rfl, ?_, ?_, (gcd_maxmin rfl rfl).trans ?_, ?_⟩
    · exact mm_nn _ _
    · exact mm_le _ _
    · rfl
    · have z := (zm.of_le (y := (m.natAbs : Int)) (by simp)).add (zn.of_le (y := (n.natAbs : Int)) (by simp))
      exact z.of_le (mm_sum (by walk_at "o"))
  · rintro σ H' ⟨sH, x, y, v4, v5, v6, v7, rfl, y0, yx, hg, zs⟩
    have zx : Sz 8001 x := zs.of_le (by walk_at "o")
    have zy : Sz 8001 y := zs.of_le (by walk_at "o")
    walk_at "v"
    refine ite2 (fun c => ?_) (fun c => ?_)
    · have c' := of_decide_eq_true c
      obtain ⟨t, ht, lo, hi⟩ := heads_tail c' y0 yx
      have tp : (0 : Int) < 2 ^ t := Int.pow_pos (by decide)
      have hd := head_of lo hi
      have ypos : 1 ≤ y := by
        have : (256 : Int) < (Builtin.Int.intBits y : Nat) := c'
        by_cases e : y = 0
        · subst e; simp [Builtin.Int.intBits] at this
        · walk_at "o"
      walk_at "v"
      refine r_I (show (0 : Int) ≤ _ by walk_at "o") ?_
      walk_at "v"
      refine r_I (show (0 : Int) ≤ _ by walk_at "o") ?_
      walk_at "v"
      rw [show ((Builtin.Int.intBits x : Nat) - 256 : Int).toNat = t by walk_at "o"]
      refine ⟨x / 2 ^ t, y / 2 ^ t, rfl, Int.ediv_nonneg y0 (by walk_at "o"), Int.ediv_le_ediv tp yx, hd.2, fun ps x0 y0' x1 y1 high low H1 s1 e1 S hl => ?_⟩
      walk_at "v"
      refine ite2 (fun c2 => ?_) (fun c2 => ?_)
      · have c3 : y0' = 0 := of_decide_eq_true c2
        have zq : Sz 8001 (x.fdiv y) := by
          rw [Int.fdiv_eq_ediv_of_nonneg _ y0]
          exact zx.of_le (div_le (by walk_at "o") y0)
        walk_at "v"
        refine r_I ⟨by walk_at "o", zy.log (by decide) (by decide)⟩ ?_
        walk_at "v"
        refine r_new (mk := .tup) (by simp) fun p2 H2 s2 n2 e2 => ?_
        have sH2 := (sH.trans s1).trans s2
        have za : Sz 8001 (0 : Int) := by decide
        have zb : Sz 8001 (1 : Int) := by decide
        have zc : Sz 8001 (1 : Int) := zb
        have zd : Sz 8001 (-(x.fdiv y)) := zq.neg
        have gg : Int.gcd (0 * x + 1 * y) (1 * x + -(x.fdiv y) * y) = Int.gcd x y := gcd_mix (.inr (by walk_at "o"))
        have ls := fd_less ypos yx
        walk_at "v"
        refine r_I (mulOk zd zy) ?_
        walk_at "v"
        simp only [abs_cast]
        refine ⟨⟨sH2, _, _, _, _, _, _, rfl, ?_, ?_, (gcd_maxmin rfl rfl).trans (gg.trans hg), ?_⟩, ?_⟩
        · exact mm_nn _ _
        · exact mm_le _ _
        · exact zs.of_le (mm_sum (mm_xy ls y0 yx))
        · exact mm_to ls y0 yx
      · have c3 : y0' ≠ 0 := of_decide_eq_false (Bool.eq_false_iff.mpr c2)
        have sH2 := sH.trans s1
        have sm := S.small c3 (Int.ediv_le_ediv tp yx) hd.2
        have k128 : (340282366920938463463374607431768211456 : Nat) < 2 ^ 8001 := by decide +kernel
        have za : Sz 8001 x0 := Nat.lt_of_le_of_lt sm.1 k128
        have zb : Sz 8001 y0' := Nat.lt_of_le_of_lt sm.2.1 k128
        have zc : Sz 8001 x1 := Nat.lt_of_le_of_lt sm.2.2.1 k128
        have zd : Sz 8001 y1 := Nat.lt_of_le_of_lt sm.2.2.2 k128
        have gg : Int.gcd (x0 * x + y0' * y) (x1 * x + y1 * y) = Int.gcd x y := S.gcd
        have ls := heads_less S c3 yx lo hi rfl rfl hl
        walk_at "v"
        refine r_I (mulOk za zx) ?_
        walk_at "v"
        refine r_I (mulOk zb zy) ?_
        walk_at "v"
        refine r_I (mulOk zc zx) ?_
        walk_at "v"
        refine r_I (mulOk zd zy) ?_
        walk_at "v"
        simp only [abs_cast]
        refine ⟨⟨sH2, _, _, _, _, _, _, rfl, ?_, ?_, (gcd_maxmin rfl rfl).trans (gg.trans hg), ?_⟩, ?_⟩
        · exact mm_nn _ _
        · exact mm_le _ _
        · exact zs.of_le (mm_sum (mm_xy ls y0 yx))
        · exact mm_to ls y0 yx
    · walk_at "v"
      refine ⟨x, y, rfl, by walk_at "o", y0, ?_⟩
      rw [hg]
      exact k H' sH
  · intro σ H Q Q' h q
    obtain ⟨v, e, a1, a2, i, a3, m', n', e3, e4, b, e5, q⟩ := q
    exact ⟨v, e, a1, a2, i, a3, m', n', e3, e4, b, e5, h _ _ q⟩
end

theorem pick {zs : List Int} {i : Int} (n : Nat) (hz : ∀ z ∈ zs, Sz n z) (h0 : 0 ≤ i) (h1 : i < (zs.length : Int)) : ∃ v : Int, atI (zs.map V.int) i = some (.int v) ∧ Sz n v := by
  have hk : i.toNat < zs.length := by walk_at "o"
  exact ⟨zs[i.toNat], at_ints (List.getElem?_eq_getElem hk) (by walk_at "o"), hz _ (List.getElem_mem hk)⟩
theorem pickP {zs : List Int} {i : Int} (P : Int → Prop) (hz : ∀ z ∈ zs, P z) (h0 : 0 ≤ i) (h1 : i < (zs.length : Int)) : ∃ v : Int, atI (zs.map V.int) i = some (.int v) ∧ P v := by
  have hk : i.toNat < zs.length := by walk_at "o"
  exact ⟨zs[i.toNat], at_ints (List.getElem?_eq_getElem hk) (by walk_at "o"), hz _ (List.getElem_mem hk)⟩
theorem row_get {xs zs : List Int} (hlen : xs.length = zs.length) (hxs : ∀ (j : Nat) (x z : Int), xs[j]? = some x → zs[j]? = some z → 0 ≤ x ∧ x < z) (j : Nat) {z : Int} (ez : zs[j]? = some z) : ∃ x, xs[j]? = some x ∧ 0 ≤ x ∧ x < z := by
  have hj := (List.getElem?_eq_some_iff.mp ez).1
  rw [← hlen] at hj
  exact ⟨xs[j], List.getElem?_eq_getElem hj, hxs j _ z (List.getElem?_eq_getElem hj) ez⟩
theorem sz_lt {n : Nat} {x : Int} (k : Nat) (h : x.natAbs < k) (hk : autoParam (k ≤ 2 ^ n) au1_._auto_1) : Sz n x := Sz.of_lt h hk
noncomputable def lgood (q : Int × Int) : Bool := decide (1 ≤ q.2) && decide (Int.gcd q.1 q.2 = 1)
noncomputable def spIsFr : Sp := fun vs H Q _ => ∃ (p : Addr) (a b : Int), vs = [.ref p] ∧ H p = some (.tup [.int a, .int b]) ∧ Sz 8000 a ∧ Sz 8000 b ∧ ∀ H', Same H H' → Q (.bl (lgood (a, b))) H'
section
variable {P : Program} {w : World} {K : PySem.W.Frag} {mg : Str → Option Value} {base : Heap} {f : Addr} {fd : FuncData}
theorem sc_is_fraction : FnScope ["pair"] ["pair"] (defScope s_is_fraction) := ⟨rfl, rfl, rfl, by decide +kernel, rfl, by decide +kernel, by decide +kernel⟩
theorem ok_is_fraction (F : Fun K "is_fraction" "is_fraction" s_is_fraction f fd) (D_divisor : Dn P w K mg base 2 "divisor" ["one", "other"] spDivisor) : FnOk P w K mg base CX0 3 f fd ["pair"] spIsFr := by
  refine F.ok sc_is_fraction (fun vs H Q E h => ?_) (fun cdv A outer s H vs Q E hr h => ?_)
  · obtain ⟨p, a, b, rfl, _⟩ := h
    rfl
  obtain ⟨p, a, b, rfl, hp, za, zb, k⟩ := h
  refine Jd.go ⟨_, (J.g (J.j (Jd.pe_and (J.y op_ge (J.h (ixT K) (J.a 0) J.c (fun _ _ => rfl)) J.c (nomark _)) (Jd.pe_one (J.y op_eq (J.l D_divisor (hr.mono (by decide)) rfl (J.b (J.h (ixT K) (J.a 0) J.c (fun _ _ => rfl)) (J.b (J.h (ixT K) (J.a 0) J.c (fun _ _ => rfl)) J.d st_S) st_S) (he := st_S) (hpl := (anyc st_S any0))) J.c (nomark _)))))), ?_⟩
  walk_at "v"
  unfold lgood at k
  refine ite2 (fun c => ?_) (fun c => ?_)
  · rw [decide_eq_true (of_decide_eq_true c)] at k
    walk_at "v"
    refine ⟨a, b, rfl, za, zb, fun H1 s1 => ?_⟩
    walk_at "v"
    have := k H1 s1
    rw [Bool.true_and] at this
    have e : decide (((Int.gcd a b : Nat) : Int) = 1) = decide (Int.gcd a b = 1) := decide_eq_decide.mpr (by walk_at "o")
    rw [e]
    exact this
  · rw [decide_eq_false (of_decide_eq_false (Bool.eq_false_iff.mpr c))] at k
    exact k H (Same.refl _)
end

open PySem.NumText in
theorem val_app : ∀ (a b : List Nat), digitsVal (a ++ b) = digitsVal a * 10 ^ b.length + digitsVal b := by
  intro a b
  have go : ∀ (b : List Nat) (x : Nat), b.foldl (fun acc c => acc * 10 + (c - 48)) x = x * 10 ^ b.length + b.foldl (fun acc c => acc * 10 + (c - 48)) 0 := by
    intro b
    induction b with
    | nil => intro x; simp
    | cons c b ih =>
      intro x
      rw [List.foldl_cons, List.foldl_cons, ih (x * 10 + (c - 48)), ih (0 * 10 + (c - 48)), List.length_cons, Nat.pow_succ]
      simp only [Nat.zero_mul, Nat.zero_add, Nat.add_mul]
      rw [Nat.mul_assoc, Nat.mul_comm 10, Nat.add_assoc]
  unfold digitsVal
  rw [List.foldl_append, go]
open PySem.NumText in
theorem val_lt : ∀ (ds : List Nat), AllDigits ds → digitsVal ds < 10 ^ ds.length := by
  intro ds
  induction ds with
  | nil => intro _; decide
  | cons c ds ih =>
    intro h
    have h1 := ih fun d hd => h d (List.mem_cons_of_mem _ hd)
    have h2 := h c (by simp)
    have e : digitsVal (c :: ds) = digitsVal [c] * 10 ^ ds.length + digitsVal ds := val_app [c] ds
    have e1 : digitsVal [c] = c - 48 := by show 0 * 10 + (c - 48) = c - 48; omega
    rw [e, e1, List.length_cons, Nat.pow_succ]
    have h3 : (c - 48) * 10 ^ ds.length ≤ 9 * 10 ^ ds.length := Nat.mul_le_mul_right _ (by omega)
    omega
open PySem.NumText in
theorem val_zeros (k : Nat) (ds : List Nat) : digitsVal (List.replicate k 48 ++ ds) = digitsVal ds := by
  induction k with
  | zero => rfl
  | succ k ih => rw [List.replicate_succ, List.cons_append, digitsVal_zero, ih]
noncomputable def tx (l : List Nat) : Str := ⟨l.toArray⟩
theorem tx_cps (l : List Nat) : (tx l).cps.toList = l := rfl
theorem tx_of (z : Str) : z = tx z.cps.toList := by cases z; rfl
theorem tx_inj {a b : List Nat} (h : tx a = tx b) : a = b := by
  have := congrArg (fun z => z.cps.toList) h
  exact this
theorem tx_len (l : List Nat) : (tx l).length = l.length := by simp [tx, Str.length]
theorem tx_app (a b : List Nat) : tx a ++ tx b = tx (a ++ b) := by
  show Str.append (tx a) (tx b) = tx (a ++ b)
  unfold Str.append tx
  simp
theorem tx_str (s : String) : Str.ofString s = tx (s.toList.map Char.toNat) := by rw [Str.ofString_eq_toList]; rfl
noncomputable def dg (m : Nat) : List Nat := (Nat.toDigits 10 m).map Char.toNat
noncomputable def ww (n : Int) : List Nat := if n < 0 then 45 :: dg n.natAbs else dg n.natAbs
open PySem.NumText in
theorem dg_all (m : Nat) : AllDigits (dg m) := by
  intro c hc
  obtain ⟨ch, hch, e⟩ := List.mem_map.mp hc
  rw [← e]
  exact PyProof.Rows.digit_range (Nat.isDigit_of_mem_toDigits (by decide) (by decide) hch)
theorem dg_ne (m : Nat) : dg m ≠ [] := by
  intro e
  have h := PySem.toDigits_len_ge 10 m
  rw [List.map_eq_nil_iff.mp e] at h
  exact absurd h (by decide)
open PySem.NumText in
theorem dg_val (m : Nat) : digitsVal (dg m) = m := PySem.W.KIN.val_back m
open PySem.NumText in
theorem val_dg {cs : List Nat} (h : AllDigits cs) (h1 : cs.length = 1 ∨ ∃ c r, cs = c :: r ∧ 49 ≤ c) : dg (digitsVal cs) = cs := by
  have hne : cs ≠ [] := by
    rcases h1 with h1 | ⟨c, r, e, _⟩
    · intro e; rw [e] at h1; cases h1
    · rw [e]; simp
  obtain ⟨n, hn⟩ : ∃ n, cs.length = n + 1 := ⟨cs.length - 1, by have := List.length_pos_iff.mpr hne; omega⟩
  have e := toDigits_digitsVal n cs hn h (by
    rcases h1 with h1 | h1
    · left; omega
    · exact .inr h1)
  unfold dg
  rw [e, List.map_map]
  have : ∀ c ∈ cs, (Char.toNat ∘ Char.ofNat) c = c := by
    intro c hc
    have := h c hc
    have all : ∀ k, k < 58 → (Char.ofNat k).toNat = k := by decide
    exact all c (by omega)
  rw [List.map_congr_left this, List.map_id']
theorem dg_zero : dg 0 = [48] := by decide
open PySem.NumText in
theorem dg_head {m : Nat} (h : m ≠ 0) : ∃ c r, dg m = c :: r ∧ 49 ≤ c := by
  cases e : dg m with
  | nil => exact absurd e (dg_ne m)
  | cons c r =>
    have hc := dg_all m c (by rw [e]; simp)
    by_cases z : c = 48
    · exfalso
      subst z
      -- a leading nought: the same number without it
      have hv : digitsVal r = m := by rw [← dg_val m, e]; rfl
      have all : AllDigits r := fun d hd => dg_all m d (by rw [e]; exact List.mem_cons_of_mem _ hd)
      have t := toDigits_all (48 :: r) (by rw [← e]; exact dg_all m)
      have e2 : digitsVal (48 :: r) = m := by rw [← e]; exact dg_val m
      rw [e2] at t
      have l1 : (dg m).length = (Nat.toDigits 10 m).length := by unfold dg; rw [List.length_map]
      rw [t] at l1
      rw [e] at l1
      cases f : List.dropWhile (fun x => x == 48) (48 :: r) with
      | nil =>
        rw [f] at t
        have t : Nat.toDigits 10 m = ['0'] := t
        have : dg m = [48] := by unfold dg; rw [t]; rfl
        have : m = 0 := by rw [← dg_val m, this]; rfl
        exact h this
      | cons x y =>
        rw [f] at l1
        have l1 : (48 :: r).length = (List.map Char.ofNat (x :: y)).length := l1
        have le : (List.dropWhile (fun x => x == 48) r).length ≤ r.length := (List.dropWhile_sublist _).length_le
        rw [List.dropWhile_cons] at f
        have f : List.dropWhile (fun x => x == 48) r = x :: y := f
        rw [f] at le
        rw [List.length_map] at l1
        simp only [List.length_cons] at l1 le
        omega
    · exact ⟨c, r, rfl, by omega⟩
open PySem.NumText in
theorem dg_len {m k : Nat} (hk : 0 < k) (h : m < 10 ^ k) : (dg m).length ≤ k := by
  by_cases z : m = 0
  · rw [z, dg_zero]; exact hk
  · obtain ⟨c, r, e, hc⟩ := dg_head z
    have hv := dg_val m
    rw [e] at hv ⊢
    have : digitsVal (c :: r) = digitsVal [c] * 10 ^ r.length + digitsVal r := val_app [c] r
    have h1 : 1 ≤ digitsVal [c] := by show 1 ≤ 0 * 10 + (c - 48); omega
    have h2 : 10 ^ r.length ≤ m := by
      rw [← hv, this]
      exact Nat.le_trans (Nat.le_mul_of_pos_left _ h1) (Nat.le_add_right _ _)
    have h3 := (Nat.pow_lt_pow_iff_right (a := 10) (by decide)).mp (Nat.lt_of_le_of_lt h2 h)
    exact h3
theorem str_int (n : Int) : Str.ofString (toString n) = tx (ww n) := by
  rw [tx_str]
  congr 1
  unfold ww dg
  cases n with
  | ofNat m =>
    rw [if_neg (show ¬ Int.ofNat m < 0 from Int.not_lt.mpr (Int.natCast_nonneg m))]
    show (Nat.repr m).toList.map Char.toNat = _
    rw [Nat.toList_repr]
    rfl
  | negSucc m =>
    rw [if_pos (Int.negSucc_lt_zero m)]
    show ("-" ++ Nat.repr (m + 1)).toList.map Char.toNat = _
    rw [String.toList_append, List.map_append, Nat.toList_repr]
    rfl
noncomputable def isd (c : Nat) : Bool := decide (48 ≤ c) && decide (c ≤ 57)
noncomputable def bare (l : List Nat) : List Nat := if l.head? = some 45 then l.tail else l
noncomputable def okw (l : List Nat) (fig : Nat) : Bool := !(bare l).isEmpty && (decide ((bare l).length ≤ fig) && ((bare l).all isd && (decide (l = [48]) || !decide ((bare l).head? = some 48))))
open PySem.NumText in
noncomputable def wd (l : List Nat) (fig : Nat) : Option Int := if okw l fig = true then some (if l.head? = some 45 then -(digitsVal (bare l) : Int) else (digitsVal (bare l) : Int)) else none
theorem okw_parts {l : List Nat} {fig : Nat} : okw l fig = true ↔ bare l ≠ [] ∧ (bare l).length ≤ fig ∧ PySem.NumText.AllDigits (bare l) ∧ (l = [48] ∨ (bare l).head? ≠ some 48) := by
  unfold okw
  rw [Bool.and_eq_true, Bool.and_eq_true, Bool.and_eq_true, Bool.or_eq_true]
  simp only [Bool.not_eq_true', List.isEmpty_eq_false_iff, decide_eq_true_eq, List.all_eq_true, decide_eq_false_iff_not]
  constructor
  · rintro ⟨a, b, c, d⟩
    exact ⟨a, b, fun x hx => by have := c x hx; unfold isd at this; simpa using this, d⟩
  · rintro ⟨a, b, c, d⟩
    exact ⟨a, b, fun x hx => by have := c x hx; unfold isd; simpa using this, d⟩
theorem bare_ww (n : Int) : bare (ww n) = dg n.natAbs := by
  unfold bare ww
  by_cases h : n < 0
  · rw [if_pos h]; rfl
  · rw [if_neg h, if_neg]
    intro e
    cases f : dg n.natAbs with
    | nil => exact dg_ne _ f
    | cons c r =>
      rw [f] at e
      have := dg_all n.natAbs c (by rw [f]; simp)
      have e : some c = some 45 := e
      cases e
      omega
theorem ww_head (n : Int) : (ww n).head? = some 45 ↔ n < 0 := by
  constructor
  · intro e
    by_cases h : n < 0
    · exact h
    · exfalso
      unfold ww at e
      rw [if_neg h] at e
      cases f : dg n.natAbs with
      | nil => exact dg_ne _ f
      | cons c r =>
        rw [f] at e
        have := dg_all n.natAbs c (by rw [f]; simp)
        have e : some c = some 45 := e
        cases e
        omega
  · intro h
    unfold ww
    rw [if_pos h]
    rfl
theorem wd_ww {n : Int} {fig : Nat} (h : (dg n.natAbs).length ≤ fig) : wd (ww n) fig = some n := by
  have ok : okw (ww n) fig = true := by
    rw [okw_parts, bare_ww]
    refine ⟨dg_ne _, h, dg_all _, ?_⟩
    by_cases z : n.natAbs = 0
    · left
      have : n = 0 := by omega
      subst this
      decide
    · right
      obtain ⟨c, r, e, hc⟩ := dg_head z
      rw [e]
      intro f
      have f : some c = some 48 := f
      cases f
      omega
  unfold wd
  rw [if_pos ok, bare_ww, dg_val]
  congr 1
  by_cases h0 : n < 0
  · rw [if_pos ((ww_head n).mpr h0)]; omega
  · rw [if_neg (fun e => h0 ((ww_head n).mp e))]; omega
theorem bare_digits {l : List Nat} (h : bare l ≠ []) (ha : PySem.NumText.AllDigits (bare l)) (hz : l = [48] ∨ (bare l).head? ≠ some 48) : (bare l).length = 1 ∨ ∃ c r, bare l = c :: r ∧ 49 ≤ c := by
  rcases hz with rfl | hz
  · left; rfl
  · right
    cases e : bare l with
    | nil => exact absurd e h
    | cons c r =>
      have := ha c (by rw [e]; simp)
      rw [e] at hz
      exact ⟨c, r, rfl, by
        have : c ≠ 48 := fun z => hz (by rw [z]; rfl)
        omega⟩
theorem ww_wd {l : List Nat} {fig : Nat} {n : Int} (h : wd l fig = some n) : ww n = l := by
  unfold wd at h
  by_cases ok : okw l fig = true
  · rw [if_pos ok] at h
    obtain ⟨h1, h2, h3, h4⟩ := okw_parts.mp ok
    have hd := val_dg h3 (bare_digits h1 h3 h4)
    have h := Option.some.inj h
    by_cases hm : l.head? = some 45
    · rw [if_pos hm] at h
      have hb : bare l = l.tail := by unfold bare; rw [if_pos hm]
      have pos : 0 < PySem.NumText.digitsVal (bare l) := by
        rcases h4 with rfl | h4
        · cases hm
        · cases e : bare l with
          | nil => exact absurd e h1
          | cons c r =>
            have hc := h3 c (by rw [e]; simp)
            rw [e] at h4
            have : c ≠ 48 := fun z => h4 (by rw [z]; rfl)
            exact PySem.NumText.digitsVal_pos (by omega)
      have hn : n < 0 := by omega
      unfold ww
      rw [if_pos hn, show n.natAbs = PySem.NumText.digitsVal (bare l) by omega, hd, hb]
      cases l with
      | nil => cases hm
      | cons c r => cases hm; rfl
    · rw [if_neg hm] at h
      have hb : bare l = l := by unfold bare; rw [if_neg hm]
      unfold ww
      rw [if_neg (by omega), show n.natAbs = PySem.NumText.digitsVal (bare l) by omega, hd, hb]
  · rw [if_neg ok] at h; cases h
theorem wd_int {l : List Nat} {fig : Nat} {n : Int} (h : wd l fig = some n) (hf : fig ≤ 4000) : PySem.intText? (tx l) = some n := by
  unfold wd at h
  by_cases ok : okw l fig = true
  · rw [if_pos ok] at h
    obtain ⟨h1, h2, h3, h4⟩ := okw_parts.mp ok
    have h := Option.some.inj h
    by_cases hm : l.head? = some 45
    · rw [if_pos hm] at h
      have hb : bare l = l.tail := by unfold bare; rw [if_pos hm]
      have hl : l = 45 :: l.tail := by cases l with
        | nil => cases hm
        | cons c r => cases hm; rfl
      rw [← h, hb]
      refine PySem.intText_neg (x := tx l) hl (hb ▸ h3) (hb ▸ h1) ?_
      rw [tx_len, hl, List.length_cons]
      rw [hb] at h2
      omega
    · rw [if_neg hm] at h
      have hb : bare l = l := by unfold bare; rw [if_neg hm]
      rw [← h, hb]
      rw [hb] at h1 h2 h3
      exact PySem.intText_digits (x := tx l) h3 h1 (by rw [tx_len]; omega)
  · rw [if_neg ok] at h; cases h
theorem wd_lt {l : List Nat} {fig : Nat} {n : Int} (h : wd l fig = some n) : n.natAbs < 10 ^ fig := by
  unfold wd at h
  by_cases ok : okw l fig = true
  · rw [if_pos ok] at h
    obtain ⟨h1, h2, h3, h4⟩ := okw_parts.mp ok
    have h := Option.some.inj h
    have hv := val_lt _ h3
    have hp : 10 ^ (bare l).length ≤ 10 ^ fig := Nat.pow_le_pow_right (by decide) h2
    have : n.natAbs = PySem.NumText.digitsVal (bare l) := by
      split at h <;> omega
    omega
  · rw [if_neg ok] at h; cases h
theorem dg_split {m k : Nat} (hk : 0 < k) (h : 10 ^ k ≤ m) : dg m = dg (m / 10 ^ k) ++ (List.replicate (k - (dg (m % 10 ^ k)).length) 48 ++ dg (m % 10 ^ k)) := by
  have hp : 0 < 10 ^ k := Nat.pow_pos (by decide)
  have hr : m % 10 ^ k < 10 ^ k := Nat.mod_lt _ hp
  have hq : m / 10 ^ k ≠ 0 := by
    have := Nat.div_pos h hp
    omega
  have hl : (dg (m % 10 ^ k)).length ≤ k := dg_len hk hr
  obtain ⟨c, r, e, hc⟩ := dg_head hq
  have hall : PySem.NumText.AllDigits (dg (m / 10 ^ k) ++ (List.replicate (k - (dg (m % 10 ^ k)).length) 48 ++ dg (m % 10 ^ k))) := by
    intro d hd
    rcases List.mem_append.mp hd with z | z
    · exact dg_all _ d z
    · rcases List.mem_append.mp z with z | z
      · obtain rfl := List.eq_of_mem_replicate z; omega
      · exact dg_all _ d z
  have hv : PySem.NumText.digitsVal (dg (m / 10 ^ k) ++ (List.replicate (k - (dg (m % 10 ^ k)).length) 48 ++ dg (m % 10 ^ k))) = m := by
    rw [val_app, val_zeros, dg_val, dg_val, List.length_append, List.length_replicate, Nat.sub_add_cancel hl, Nat.mul_comm]
    exact Nat.div_add_mod m (10 ^ k)
  have := val_dg hall (.inr ⟨c, r ++ (List.replicate (k - (dg (m % 10 ^ k)).length) 48 ++ dg (m % 10 ^ k)), by rw [e]; rfl, hc⟩)
  rw [hv] at this
  exact this
theorem at_get {l : List Nat} {c i : Nat} (h : StrLaws.At (tx l) (tx [c]) (tx l).length i) : l[i]? = some c := by
  obtain ⟨h1, h2⟩ := h
  have e := PyProof.Rows.strSub_of_subAt h2
  have e2 := congrArg (fun z => z.cps.toList) e
  simp only [StrLaws.strSub_toList] at e2
  have e3 : (l.drop i).take (i + 1 - i) = [c] := e2
  rw [show i + 1 - i = 1 by omega] at e3
  cases f : l.drop i with
  | nil => rw [f] at e3; cases e3
  | cons a r =>
    rw [f] at e3
    have : a = c := by simpa using e3
    subst this
    rw [← List.head?_drop, f]
    rfl
theorem get_at {l : List Nat} {c i : Nat} (h : l[i]? = some c) : StrLaws.At (tx l) (tx [c]) (tx l).length i := by
  have hi := (List.getElem?_eq_some_iff.mp h).1
  refine ⟨by rw [tx_len, tx_len]; exact hi, ?_⟩
  show ((tx l).cps.extract i (i + 1) == (tx [c]).cps) = true
  rw [beq_iff_eq]
  apply Array.toList_inj.mp
  rw [Array.toList_extract]
  show (List.extract l i (i + 1)) = [c]
  rw [List.extract_eq_take_drop, show i + 1 - i = 1 by omega, List.drop_eq_getElem_cons hi, (List.getElem?_eq_some_iff.mp h).2]
  rfl
theorem part_tx (l : List Nat) (c : Nat) : Txt.partition (tx l) (tx [c]) = if c ∈ l then (tx (l.takeWhile (· != c)), tx [c], tx (l.dropWhile (· != c)).tail) else (tx l, tx [], tx []) := by
  rcases PyProof.Rows.partition_whole (tx l) (tx [c]) with ⟨e, hn⟩ | ⟨i, e, ha, hf⟩
  · have hm : c ∉ l := fun h => by
      obtain ⟨i, hi⟩ := List.getElem?_of_mem h
      exact hn i (get_at hi)
    rw [e, if_neg hm]
    rfl
  · have hi := at_get ha
    have hlt := (List.getElem?_eq_some_iff.mp hi).1
    have hk : ∀ k, k < i → l[k]? ≠ some c := fun k hk h => hf k hk (get_at h)
    have hd := PyProof.Rows.dropWhile_at hi hk
    have e1 : l.drop i = c :: l.drop (i + 1) := by rw [List.drop_eq_getElem_cons hlt, (List.getElem?_eq_some_iff.mp hi).2]
    have ht : l.takeWhile (· != c) = l.take i := by
      have a := List.takeWhile_append_dropWhile (p := (· != c)) (l := l)
      rw [hd, ← e1] at a
      have b := List.take_append_drop i l
      exact List.append_cancel_right (a.trans b.symm)
    rw [e, if_pos (List.mem_of_getElem? hi), ht, hd]
    have q1 : Builtin.Str.strSub (tx l) 0 i = tx (l.take i) := by rw [PyProof.Rows.strSub_mk]; rfl
    have q2 : Builtin.Str.strSub (tx l) (i + (tx [c]).length) (tx l).length = tx (l.drop (i + 1)) := by
      rw [PyProof.Rows.strSub_mk, tx_len, tx_len]
      show tx ((l.drop (i + 1)).take (l.length - (i + 1))) = _
      rw [List.take_of_length_le (by rw [List.length_drop]; omega)]
    rw [q1, q2]
    rfl
theorem sl_from (l : List Nat) (n : Nat) : Txt.slice (tx l) (some (n : Int)) none = tx (l.drop n) := by
  by_cases h : n ≤ l.length
  · rw [PyProof.Rows.slice_from_eq (b := (l.length : Int)) (by omega) (by rw [tx_len]; omega) (by rw [tx_len])]
    show tx ((l.drop (n : Int).toNat).take ((l.length : Int) - n).toNat) = _
    rw [Int.toNat_natCast, List.take_of_length_le (by rw [List.length_drop]; omega)]
  · rw [PyProof.Rows.slice_beyond (by rw [tx_len]; omega), List.drop_eq_nil_of_le (by omega)]
    rfl
theorem sl_to (l : List Nat) (n : Nat) : Txt.slice (tx l) none (some (n : Int)) = tx (l.take n) := by
  have base : ∀ n : Nat, n ≤ l.length → Txt.slice (tx l) none (some (n : Int)) = tx (l.take n) := fun n h => by
    have e := eq_of_beq (PyProof.Rows.slice_closes_to (x := tx l) (j := (n : Int)) ⟨by omega, by show (n : Int) ≤ (l.length : Int); omega⟩)
    rw [e]
    show tx ((l.drop 0).take ((n : Int) - 0).toNat) = _
    rw [Int.sub_zero, Int.toNat_natCast]
    rfl
  by_cases h : n ≤ l.length
  · exact base n h
  · have e : Txt.slice (tx l) none (some (n : Int)) = Txt.slice (tx l) none (some (l.length : Int)) := by
      unfold Txt.slice
      have : Builtin.Str.strSliceIndices none (some (n : Int)) 1 (tx l).length = Builtin.Str.strSliceIndices none (some (l.length : Int)) 1 (tx l).length := by
        unfold Builtin.Str.strSliceIndices
        dsimp only
        rw [tx_len]
        simp only [show (1 : Int) > 0 by decide, if_true]
        congr 1
        split <;> split <;> omega
      rw [this]
    rw [e, base _ (Nat.le_refl _), List.take_of_length_le (by omega), List.take_of_length_le (by omega)]
theorem starts_tx (l : List Nat) (c : Nat) : Txt.startswith (tx l) (tx [c]) = decide (l.head? = some c) := by
  unfold Txt.startswith
  by_cases h : l.head? = some c
  · have := get_at (l := l) (c := c) (i := 0) (by rw [← h, List.head?_eq_getElem?])
    rw [decide_eq_true h, this.2, decide_eq_true this.1]
    rfl
  · rw [decide_eq_false h]
    by_cases q : 0 + (tx [c]).length ≤ (tx l).length
    · rw [decide_eq_true q, Bool.true_and]
      refine Bool.eq_false_iff.mpr fun z => h ?_
      have := at_get (l := l) (c := c) (i := 0) ⟨q, z⟩
      rw [← this, List.head?_eq_getElem?]
    · rw [decide_eq_false q, Bool.false_and]
theorem zfill_tx {d : List Nat} (h : PySem.NumText.AllDigits d) (k : Nat) : Txt.zfill (tx d) (k : Int) = tx (List.replicate (k - d.length) 48 ++ d) := by
  unfold Txt.zfill
  by_cases q : (k : Int) ≤ ((tx d).length : Int)
  · rw [if_pos q]
    rw [tx_len] at q
    rw [show k - d.length = 0 by omega]
    rfl
  · rw [if_neg q]
    rw [tx_len] at q ⊢
    unfold zfilled
    have p : Builtin.Str.padded (tx d) ((k : Int).toNat - d.length) 0 48 = tx (List.replicate (k - d.length) 48 ++ d) := by
      unfold Builtin.Str.padded
      rw [Int.toNat_natCast]
      simp [tx]
    cases e : (tx d).cps[0]? with
    | none => exact p
    | some c =>
      have hm : c ∈ d := by
        have : d[0]? = some c := by rw [← e]; simp [tx]
        exact List.mem_of_getElem? this
      have := h c hm
      split
      · next q => have q := Option.some.inj q; omega
      · next q => have q := Option.some.inj q; omega
      · exact p
theorem join_tx : ∀ ls : List (List Nat), Str.join (tx []) (ls.map tx) = tx ls.flatten
  | [] => rfl
  | [a] => by simp [Str.join]
  | a :: b :: r => by
    have e := join_tx (b :: r)
    show tx a ++ tx [] ++ Str.join (tx []) ((b :: r).map tx) = _
    rw [e, tx_app, tx_app, List.append_nil]
    rfl
theorem glue_tx (ls : List (List Nat)) : glue (tx []) (ls.map tx) = tx ls.flatten := by
  have e := join_tx ls
  rw [← StrLaws.glued_eq_join] at e
  cases ls with
  | nil => exact e
  | cons a r =>
    cases r with
    | nil => simp [glue]
    | cons b r => exact e
noncomputable def rw_ (t b : Int) : List Nat := if b = 1 then ww t else ww t ++ 47 :: ww b
noncomputable def rd (l : List Nat) (fig : Nat) : Option (Int × Int) := if 47 ∈ l then (match wd (l.takeWhile (· != 47)) fig, wd (l.dropWhile (· != 47)).tail fig with | some a, some b => if 2 ≤ b ∧ Int.gcd a b = 1 then some (a, b) else none | _, _ => none) else (wd l fig).map fun a => (a, 1)
theorem ww_no (n : Int) : 47 ∉ ww n := by
  intro h
  unfold ww at h
  split at h
  · rcases List.mem_cons.mp h with z | z
    · cases z
    · have := dg_all _ _ z; omega
  · have := dg_all _ _ h; omega
theorem take_ww {l : List Nat} {c : Nat} (h : c ∉ l) (r : List Nat) : (l ++ c :: r).takeWhile (· != c) = l ∧ (l ++ c :: r).dropWhile (· != c) = c :: r := by
  induction l with
  | nil => simp
  | cons a l ih =>
    have hn : a ≠ c := fun z => h (by rw [z]; simp)
    obtain ⟨e1, e2⟩ := ih fun z => h (List.mem_cons_of_mem _ z)
    constructor
    · rw [List.cons_append, List.takeWhile_cons, if_pos (by simpa using hn), e1]
    · rw [List.cons_append, List.dropWhile_cons, if_pos (by simpa using hn), e2]
theorem rd_rw {t b : Int} {fig : Nat} (hb : 1 ≤ b) (hg : Int.gcd t b = 1) (h1 : (dg t.natAbs).length ≤ fig) (h2 : (dg b.natAbs).length ≤ fig) : rd (rw_ t b) fig = some (t, b) := by
  unfold rd rw_
  by_cases e : b = 1
  · subst e
    rw [if_pos rfl, if_neg (ww_no t), wd_ww h1]
    rfl
  · rw [if_neg e, if_pos (by simp)]
    obtain ⟨e1, e2⟩ := take_ww (ww_no t) (ww b)
    rw [e1, e2, List.tail_cons, wd_ww h1, wd_ww h2]
    show (if 2 ≤ b ∧ Int.gcd t b = 1 then _ else _) = _
    rw [if_pos ⟨by omega, hg⟩]
theorem drop_ex {c : Nat} : ∀ {l : List Nat}, c ∈ l → ∃ r, l.dropWhile (· != c) = c :: r
  | [], h => absurd h (by simp)
  | a :: l, h => by
    by_cases e : a = c
    · subst e
      exact ⟨l, by rw [List.dropWhile_cons, if_neg (by simp)]⟩
    · obtain ⟨r, hr⟩ := drop_ex (l := l) (by
        rcases List.mem_cons.mp h with z | z
        · exact absurd z.symm e
        · exact z)
      exact ⟨r, by rw [List.dropWhile_cons, if_pos (by simpa using e), hr]⟩
theorem rw_rd {l : List Nat} {fig : Nat} {a b : Int} (h : rd l fig = some (a, b)) : rw_ a b = l ∧ 1 ≤ b ∧ Int.gcd a b = 1 ∧ a.natAbs < 10 ^ fig ∧ (b = 1 ∨ b.natAbs < 10 ^ fig) := by
  unfold rd at h
  by_cases hm : 47 ∈ l
  · rw [if_pos hm] at h
    cases e1 : wd (l.takeWhile (· != 47)) fig with
    | none => rw [e1] at h; cases h
    | some x =>
      cases e2 : wd (l.dropWhile (· != 47)).tail fig with
      | none => rw [e1, e2] at h; cases h
      | some y =>
        rw [e1, e2] at h
        have h : (if 2 ≤ y ∧ Int.gcd x y = 1 then some (x, y) else none) = some (a, b) := h
        split at h
        · next q =>
          cases h
          refine ⟨?_, by omega, q.2, wd_lt e1, .inr (wd_lt e2)⟩
          unfold rw_
          rw [if_neg (by omega), ww_wd e1, ww_wd e2]
          have k := List.takeWhile_append_dropWhile (p := (· != 47)) (l := l)
          have hd := drop_ex hm
          obtain ⟨r, hr⟩ := hd
          rw [hr] at k ⊢
          exact k
        · cases h
  · rw [if_neg hm] at h
    cases e1 : wd l fig with
    | none => rw [e1] at h; cases h
    | some x =>
      rw [e1] at h
      cases h
      refine ⟨?_, by decide, by simp, wd_lt e1, .inl rfl⟩
      unfold rw_
      rw [if_pos rfl, ww_wd e1]

noncomputable def spFigures : Sp := fun vs H Q _ => ∃ n : Int, vs = [.int n] ∧ 0 ≤ n ∧ Sz 8000 n ∧ ∀ H', Same H H' → Q (.str (tx (dg n.natAbs))) H'
noncomputable def spWhole : Sp := fun vs H Q _ => ∃ n : Int, vs = [.int n] ∧ Sz 8000 n ∧ ∀ H', Same H H' → Q (.str (tx (ww n))) H'
noncomputable def spRword : Sp := fun vs H Q _ => ∃ (p : Addr) (a b : Int), vs = [.ref p] ∧ H p = some (.tup [.int a, .int b]) ∧ Sz 8000 a ∧ Sz 8000 b ∧ ∀ H', Same H H' → Q (.str (tx (rw_ a b))) H'
noncomputable def spIsWhole : Sp := fun vs H Q _ => ∃ (l : List Nat) (fig : Nat), vs = [.str (tx l), .int (fig : Int)] ∧ l.length ≤ 100000 ∧ ∀ H', Same H H' → Q (.bl (okw l fig)) H'
noncomputable def spReadX (C : Addr) : Sp := fun vs H Q E => ∃ (l : List Nat) (fig : Nat), vs = [.str (tx l), .int (fig : Int)] ∧ l.length ≤ 100000 ∧ fig ≤ 2000 ∧ (wd l fig = none → ∀ H', Same H H' → E (.ref C) none H') ∧ ∀ n, wd l fig = some n → ∀ H', Same H H' → Q (.int n) H'
noncomputable def spReadG : Sp := fun vs H Q _ => ∃ (l : List Nat) (fig : Nat) (n : Int), vs = [.str (tx l), .int (fig : Int)] ∧ l.length ≤ 100000 ∧ fig ≤ 2000 ∧ wd l fig = some n ∧ ∀ H', Same H H' → Q (.int n) H'
noncomputable def spRatX (C : Addr) : Sp := fun vs H Q E => ∃ (l : List Nat) (fig : Nat), vs = [.str (tx l), .int (fig : Int)] ∧ l.length ≤ 100000 ∧ fig ≤ 2000 ∧ (rd l fig = none → ∀ H', Same H H' → E (.ref C) none H') ∧ ∀ a b, rd l fig = some (a, b) → ∀ (p : Addr) (H' : Hp), Same H H' → H p = none → H' p = some (.tup [.int a, .int b]) → Q (.ref p) H'
noncomputable def spRatG : Sp := fun vs H Q _ => ∃ (l : List Nat) (fig : Nat) (a b : Int), vs = [.str (tx l), .int (fig : Int)] ∧ l.length ≤ 100000 ∧ fig ≤ 2000 ∧ rd l fig = some (a, b) ∧ ∀ (p : Addr) (H' : Hp), Same H H' → H p = none → H' p = some (.tup [.int a, .int b]) → Q (.ref p) H'
theorem sizeBig {n : Nat} (h : n ≤ 1000000) : n ≤ sizeLine := Nat.le_trans h (by decide)
theorem sz_fig {n : Int} {fig : Nat} (h : n.natAbs < 10 ^ fig) (hf : fig ≤ 2000) : Sz 8000 n := by
  have : (10 : Nat) ^ fig ≤ 10 ^ 2000 := Nat.pow_le_pow_right (by decide) hf
  exact Nat.lt_of_lt_of_le h (Nat.le_trans this (by decide +kernel))
theorem ten64 : ((10 : Int) ^ (64 : Int).toNat) = ((10 ^ 64 : Nat) : Int) := by decide +kernel
theorem big_log {i : Int} (h : i.natAbs < 10 ^ 100) : i.natAbs.log2 < 1920 := by
  by_cases z : i.natAbs = 0
  · rw [z]; decide
  · exact (Nat.log2_lt z).mpr (Nat.lt_of_lt_of_le h (by decide +kernel))
theorem dec_tx (a b : List Nat) : decide (V.str (tx a) = V.str (tx b)) = decide (a = b) := decide_eq_decide.mpr ⟨fun z => tx_inj (V.str.inj z), fun z => by rw [z]⟩
theorem r_eqS {a b : List Nat} {H : Hp} {Q : VK} (q : Q (.bl (decide (a = b))) H) : rEq (.str (tx a)) (.str (tx b)) H Q := ⟨rfl, by rw [dec_tx]; exact q⟩
theorem r_neS {a b : List Nat} {H : Hp} {Q : VK} (q : Q (.bl (!decide (a = b))) H) : rNe (.str (tx a)) (.str (tx b)) H Q := ⟨rfl, by rw [dec_tx]; exact q⟩
theorem isd_mem (c : Nat) : decide (c ∈ (Str.ofString "0123456789").cps.toList) = isd c := by
  have e : (Str.ofString "0123456789").cps.toList = [48, 49, 50, 51, 52, 53, 54, 55, 56, 57] := by decide
  rw [e]
  unfold isd
  by_cases h : 48 ≤ c ∧ c ≤ 57
  · rw [decide_eq_true h.1, decide_eq_true h.2]
    refine decide_eq_true ?_
    have : c = 48 ∨ c = 49 ∨ c = 50 ∨ c = 51 ∨ c = 52 ∨ c = 53 ∨ c = 54 ∨ c = 55 ∨ c = 56 ∨ c = 57 := by omega
    simpa using this
  · rw [decide_eq_false (fun z => h (by simp at z; omega))]
    refine (Bool.eq_false_iff.mpr fun z => h ?_).symm
    simpa using z
theorem c_dash : Str.ofString "-" = tx [45] := by decide
theorem c_slash : Str.ofString "/" = tx [47] := by decide
theorem c_zero : Str.ofString "0" = tx [48] := by decide
theorem c_none : Str.ofString "" = tx [] := by decide
theorem dg_len8 {n : Int} (h : Sz 8000 n) : (dg n.natAbs).length ≤ 2409 := dg_len (by decide) (Nat.lt_of_lt_of_le h (by decide +kernel))
theorem ww_len8 {n : Int} (h : Sz 8000 n) : (ww n).length ≤ 2410 := by
  have := dg_len8 h
  unfold ww
  split
  · rw [List.length_cons]; omega
  · omega
noncomputable def sv (zs : List (List Nat)) : List V := zs.map fun z => V.str (tx z)
theorem sv_strs (zs : List (List Nat)) : sv zs = (zs.map tx).map V.str := by unfold sv; rw [List.map_map]; rfl
theorem while_of {c : TT} {tb : TS} {D : Ends} {σ : St} {H : Hp} (Pv : St → Hp → Prop) (μ : St → Hp → Nat) (h0 : Pv σ H)
    (hs : ∀ σ H, Pv σ H → ∀ R : Bool → Hp → Prop, (∀ H1, (∀ M : St → Hp → Prop, (∀ σ' H', Pv σ' H' → μ σ' H' < μ σ H → M σ' H') → tb { D with nx := M, ct := M, bk := D.nx } σ H1) → R true H1) → (∀ H1, D.nx σ H1 → R false H1) → c σ H R) : tWhile c tb D σ H := by
  refine ⟨fun m σ H => m = μ σ H ∧ Pv σ H, ⟨_, rfl, h0⟩, ?_⟩
  rintro m σ H ⟨rfl, p⟩
  refine hs σ H p _ (fun H1 q => ?_) (fun H1 q => ?_)
  · rw [if_pos rfl]
    exact ⟨fun σ' H' => Pv σ' H' ∧ μ σ' H' < μ σ H, fun σ' H' ⟨p', l⟩ => ⟨_, l, rfl, p'⟩, q _ fun _ _ a b => ⟨a, b⟩⟩
  · rw [if_neg Bool.false_ne_true]
    exact q
theorem ww_nat (m : Nat) : ww (m : Int) = dg m := by
  unfold ww
  rw [if_neg (by omega), Int.natAbs_natCast]
theorem join_len {zs : List (List Nat)} (f : List Str) (h : f = zs.map tx) : ∀ a, f.foldl (fun n z => n + z.length + (tx []).length) a = a + zs.flatten.length := by
  subst h
  induction zs with
  | nil => intro a; simp
  | cons z zs ih =>
    intro a
    rw [List.map_cons, List.foldl_cons, ih, List.flatten_cons, List.length_append, tx_len, tx_len]
    simp only [List.length_nil]
    omega
section
variable {P : Program} {w : World} {K : PySem.W.Frag} {mg : Str → Option Value} {base : Heap} {f c_NoWord : Addr} {fd : FuncData} {d18 : Value}
theorem sc_figures_of : FnScope ["number", "share", "shares", "left"] ["number"] (defScope s_figures_of) := ⟨rfl, rfl, rfl, by decide +kernel, rfl, by decide +kernel, by decide +kernel⟩
theorem ok_figures_of (F : Fun K "figures_of" "figures_of" s_figures_of f fd) (T : Txt mg) : FnOk P w K mg base CX0 1 f fd ["number"] spFigures := by
  refine F.ok sc_figures_of (fun vs H Q E h => ?_) (fun cdv A outer s H vs Q E hr h => ?_)
  · obtain ⟨n, rfl, _⟩ := h
    rfl
  obtain ⟨n, rfl, h0, hz, k⟩ := h
  have hd := dg_len8 hz
  refine Jd.go ⟨_, (J.e (J.i (i := 1) sc_figures_of.nd rfl (Or.inl rfl) (J.f op_pow J.c J.c) (hs := sw_B))
      (J.e (J.i (i := 2) sc_figures_of.nd rfl (Or.inl rfl) (J.v J.d) (hs := sw_L))
      (J.e (J.i (i := 3) sc_figures_of.nd rfl (Or.inl rfl) (J.a 0) (hs := sw_N))
      (J.e (Jd.ps_while PassesOwn.never (J.k op_ge (J.a 3) (J.a 1) (nomark _))
      (J.e (J.x (Jd.appC K (J.a 2) (Jd.strM K PySem.F.slot_str_zfill PySem.F.type_str_zfill mt_zfill (J.aa strC rfl T.str_ PyProof.Rows.boot_str (J.b (J.f op_mod (J.a 3) (J.a 1)) J.d st_B)) J.c)) (hs := sw_K))
      (J.g (J.i (i := 3) sc_figures_of.nd rfl (Or.inl rfl) (J.f op_fdivB (J.a 3) (J.a 1)) (hs := sw_B)))))
      (J.e (J.x (Jd.appC K (J.a 2) (J.aa strC rfl T.str_ PyProof.Rows.boot_str (J.b (J.a 3) J.d st_N))) (hs := sw_K))
      (J.e (J.x (Jd.rvsC K (J.a 2)) (hs := sw_K))
      (J.g (J.j (Jd.strM K PySem.F.slot_str_join PySem.F.type_str_join mt_join J.o (J.a 2)))))))))), ?_⟩
  walk_at "v"
  rw [ten64]
  refine r_new (mk := .lst) (by simp) fun S H1 s1 n1 e1 => ?_
  walk_at "v"
  refine while_of (fun σ H2 => ∃ (m : Nat) (zs : List (List Nat)), σ = [some (.int n), some (.int ((10 ^ 64 : Nat) : Int)), some (.ref S), some (.int (m : Int))] ∧ Same H H2 ∧ H2 S = some (.lst (sv zs)) ∧ dg n.natAbs = dg m ++ zs.reverse.flatten ∧ zs.reverse.flatten.length = 64 * zs.length ∧ Sz 8000 (m : Int)) (fun σ _ => third σ)
    ⟨n.natAbs, [], by rw [show ((n.natAbs : Nat) : Int) = n by omega]; rfl, s1, e1, by simp, rfl, by rw [show ((n.natAbs : Nat) : Int) = n by omega]; exact hz⟩ ?_
  rintro σ H2 ⟨m, zs, rfl, s2, e2, hm, hzl, hzm⟩ R hT hF
  have hlz : zs.length ≤ 100 := by
    have := congrArg List.length hm
    rw [List.length_append, hzl] at this
    omega
  walk_at "v"
  by_cases hge : 10 ^ 64 ≤ m
  · rw [decide_eq_true (show ((10 ^ 64 : Nat) : Int) ≤ (m : Int) by exact_mod_cast hge)]
    refine hT _ fun M hM => ?_
    have pos : (0 : Int) < ((10 ^ 64 : Nat) : Int) := by decide
    have hr : m % 10 ^ 64 < 10 ^ 64 := Nat.mod_lt _ (Nat.pow_pos (by decide))
    walk_at "v"
    refine ⟨.inl ⟨rfl, _, SqL.of e2⟩, ?_⟩
    walk_at "v"
    rw [show (m : Int) % ((10 ^ 64 : Nat) : Int) = ((m % 10 ^ 64 : Nat) : Int) from (Int.natCast_emod m (10 ^ 64)).symm]
    refine ⟨_, rfl, big_log (by rw [Int.natAbs_natCast]; exact Nat.lt_of_lt_of_le hr (by decide +kernel)), ?_⟩
    rw [str_int, ww_nat]
    refine ⟨rfl, ?_⟩
    walk_at "v"
    refine ⟨_, 64, rfl, rfl, by decide, ?_⟩
    rw [show (64 : Int) = ((64 : Nat) : Int) from rfl, zfill_tx (dg_all _)]
    walk_at "v"
    refine r_app e2 (by unfold sv; rw [List.length_map]; exact small1000 (by omega)) ?_
    walk_at "v"
    refine r_I (show CDivB _ _ from ⟨by decide, by decide +kernel⟩) ?_
    have hdiv : (m : Int).fdiv ((10 ^ 64 : Nat) : Int) = ((m / 10 ^ 64 : Nat) : Int) := by
      rw [Int.fdiv_eq_ediv_of_nonneg _ (by omega)]
      exact (Int.natCast_ediv m (10 ^ 64)).symm
    rw [hdiv]
    have hl64 : (List.replicate (64 - (dg (m % 10 ^ 64)).length) 48 ++ dg (m % 10 ^ 64)).length = 64 := by
      have := dg_len (k := 64) (by decide) hr
      rw [List.length_append, List.length_replicate]
      omega
    refine hM _ _ ⟨m / 10 ^ 64, zs ++ [List.replicate (64 - (dg (m % 10 ^ 64)).length) 48 ++ dg (m % 10 ^ 64)], rfl, same_at s2 n1, by rw [upd_same]; unfold sv; rw [List.map_append]; rfl, ?_, ?_, ?_⟩ ?_
    · rw [List.reverse_append, List.reverse_singleton, List.singleton_append, List.flatten_cons, ← List.append_assoc, ← dg_split (by decide) hge]
      exact hm
    · rw [List.reverse_append, List.reverse_singleton, List.singleton_append, List.flatten_cons, List.length_append, hl64, hzl, List.length_append, List.length_singleton]
      omega
    · exact Sz.of_le hzm (by rw [Int.natAbs_natCast, Int.natAbs_natCast]; exact Nat.div_le_self _ _)
    · show (((m / 10 ^ 64 : Nat) : Int)).toNat < ((m : Nat) : Int).toNat
      rw [Int.toNat_natCast, Int.toNat_natCast]
      exact Nat.div_lt_self (Nat.lt_of_lt_of_le (Nat.pow_pos (by decide)) hge) (by decide +kernel)
  · rw [decide_eq_false (show ¬ ((10 ^ 64 : Nat) : Int) ≤ (m : Int) by exact_mod_cast hge)]
    refine hF _ ?_
    walk_at "v"
    refine ⟨.inl ⟨rfl, _, SqL.of e2⟩, ?_⟩
    walk_at "v"
    refine ⟨_, rfl, big_log (by rw [Int.natAbs_natCast]; exact Nat.lt_of_lt_of_le (Nat.lt_of_not_le hge) (by decide +kernel)), ?_⟩
    rw [str_int, ww_nat]
    walk_at "v"
    refine r_app e2 (by unfold sv; rw [List.length_map]; exact small1000 (by omega)) ?_
    walk_at "v"
    refine ⟨.inl ⟨rfl, _, SqL.of upd_same⟩, ?_⟩
    refine r_rvs upd_same ?_
    have e5 : upd (upd H2 S (.lst (sv zs ++ [V.str (tx (dg m))]))) S (.lst (sv zs ++ [V.str (tx (dg m))]).reverse) S = some (.lst (((dg m :: zs.reverse).map tx).map V.str)) := by
      rw [upd_same, ← sv_strs]
      unfold sv
      rw [List.reverse_append, List.map_cons, List.map_reverse]
      rfl
    have s5 : Same H (upd (upd H2 S (.lst (sv zs ++ [V.str (tx (dg m))]))) S (.lst (sv zs ++ [V.str (tx (dg m))]).reverse)) := same_at (same_at s2 n1) n1
    generalize upd (upd H2 S (.lst (sv zs ++ [V.str (tx (dg m))]))) S (.lst (sv zs ++ [V.str (tx (dg m))]).reverse) = H5 at e5 s5 ⊢
    have fl : (dg m :: zs.reverse).flatten = dg n.natAbs := hm.symm
    walk_at "v"
    refine ⟨rfl, ?_⟩
    walk_at "v"
    rw [c_none]
    refine ⟨_, S, (dg m :: zs.reverse).map tx, rfl, rfl, e5, by rw [join_len (zs := dg m :: zs.reverse) _ rfl, fl]; exact sizeBig (by omega), by rw [glue_tx, fl, tx_len]; exact sizeBig (by omega), ?_⟩
    rw [glue_tx, fl]
    exact k H5 s5
theorem sc_whole_word : FnScope ["number"] ["number"] (defScope s_whole_word) := ⟨rfl, rfl, rfl, by decide +kernel, rfl, by decide +kernel, by decide +kernel⟩
theorem ok_whole_word (F : Fun K "whole_word" "whole_word" s_whole_word f fd) (D_figures_of : Dn P w K mg base 1 "figures_of" ["number"] spFigures) : FnOk P w K mg base CX0 2 f fd ["number"] spWhole := by
  refine F.ok sc_whole_word (fun vs H Q E h => ?_) (fun cdv A outer s H vs Q E hr h => ?_)
  · obtain ⟨n, rfl, _⟩ := h
    rfl
  obtain ⟨n, rfl, hz, k⟩ := h
  unfold ww at k
  refine Jd.go ⟨_, (J.g (J.j (Jd.pe_ifExp (J.k op_lt (J.a 0) J.c (nomark _)) (J.f op_add_str J.o (J.l D_figures_of (hr.mono (by decide)) rfl (J.b (Jd.pe_un un_neg (J.a 0)) J.d st_U) (he := st_U) (hpl := any0))) (J.l D_figures_of (hr.mono (by decide)) rfl (J.b (J.a 0) J.d st_N) (he := st_N) (hpl := any0))))), ?_⟩
  walk_at "v"
  refine ite2 (fun c => ?_) (fun c => ?_)
  · have c' : n < 0 := of_decide_eq_true c
    rw [if_pos c'] at k
    walk_at "v"
    refine ⟨-n, rfl, by omega, Sz.of_le hz (by omega), fun H1 s1 => ?_⟩
    have hl := dg_len8 (n := -n) (Sz.of_le hz (by omega))
    refine ⟨_, _, rfl, rfl, by rw [c_dash, tx_len, tx_len]; exact sizeBig (by simp only [List.length_cons, List.length_nil]; omega), ?_⟩
    rw [c_dash, tx_app, Int.natAbs_neg]
    exact k H1 s1
  · have c' : ¬ n < 0 := of_decide_eq_false (Bool.eq_false_iff.mpr c)
    rw [if_neg c'] at k
    walk_at "v"
    exact ⟨n, rfl, by omega, hz, k⟩
theorem sc_ratio_word : FnScope ["one"] ["one"] (defScope s_ratio_word) := ⟨rfl, rfl, rfl, by decide +kernel, rfl, by decide +kernel, by decide +kernel⟩
theorem ok_ratio_word (F : Fun K "ratio_word" "ratio_word" s_ratio_word f fd) (D_whole_word : Dn P w K mg base 2 "whole_word" ["number"] spWhole) : FnOk P w K mg base CX0 3 f fd ["one"] spRword := by
  refine F.ok sc_ratio_word (fun vs H Q E h => ?_) (fun cdv A outer s H vs Q E hr h => ?_)
  · obtain ⟨p, a, b, rfl, _⟩ := h
    rfl
  obtain ⟨p, a, b, rfl, hp, za, zb, k⟩ := h
  unfold rw_ at k
  refine Jd.go ⟨_, (J.e (J.m (J.k op_eq (J.h (ixT K) (J.a 0) J.c (fun _ _ => rfl)) J.c (nomark _))
      (J.g (J.j (J.l D_whole_word (hr.mono (by decide)) rfl (J.b (J.h (ixT K) (J.a 0) J.c (fun _ _ => rfl)) J.d st_S) (he := st_S) (hpl := any0))))
      J.n)
      (J.g (J.j (J.f op_add_str (J.f op_add_str (J.l D_whole_word (hr.mono (by decide)) rfl (J.b (J.h (ixT K) (J.a 0) J.c (fun _ _ => rfl)) J.d st_S) (he := st_S) (hpl := any0)) J.o) (J.l D_whole_word (hr.mono (by decide)) rfl (J.b (J.h (ixT K) (J.a 0) J.c (fun _ _ => rfl)) J.d st_S) (he := st_S) (hpl := any0)))))), ?_⟩
  walk_at "v"
  refine ite2 (fun c => ?_) (fun c => ?_)
  · rw [if_pos (of_decide_eq_true c)] at k
    walk_at "v"
    exact ⟨a, rfl, za, k⟩
  · rw [if_neg (of_decide_eq_false (Bool.eq_false_iff.mpr c))] at k
    walk_at "v"
    refine ⟨a, rfl, za, fun H1 s1 => ?_⟩
    have hp1 := s1 _ _ hp
    have la := ww_len8 za
    have lb := ww_len8 zb
    walk_at "v"
    refine ⟨_, _, rfl, rfl, by rw [c_slash, tx_len, tx_len]; exact sizeBig (by simp only [List.length_cons, List.length_nil]; omega), ?_⟩
    rw [c_slash, tx_app]
    walk_at "v"
    refine ⟨b, rfl, zb, fun H2 s2 => ?_⟩
    refine ⟨_, _, rfl, rfl, by rw [tx_len, tx_len]; exact sizeBig (by simp only [List.length_append, List.length_cons, List.length_nil]; omega), ?_⟩
    rw [tx_app, List.append_assoc]
    exact k H2 (s1.trans s2)
theorem sc_is_whole : FnScope ["word", "figures", "written"] ["word", "figures"] (defScope s_is_whole) := ⟨rfl, rfl, rfl, by decide +kernel, rfl, by decide +kernel, by decide +kernel⟩
theorem ok_is_whole (F : Fun K "is_whole" "is_whole" s_is_whole f fd) (T : Txt mg) (C_FIGURES : Cs mg "FIGURES" "0123456789") : FnOk P w K mg base CX0 1 f fd ["word", "figures"] spIsWhole := by
  refine F.ok sc_is_whole (fun vs H Q E h => ?_) (fun cdv A outer s H vs Q E hr h => ?_)
  · obtain ⟨l, fig, rfl, _⟩ := h
    rfl
  obtain ⟨l, fig, rfl, hl, k⟩ := h
  refine Jd.go (Jd.cut 1 (fun σ H' => σ = [some (.str (tx l)), some (.int (fig : Int)), some (.str (tx (bare l)))] ∧ H' = H) ?_ fun u hu hR => ?_)
  · refine ⟨_, (J.e (J.m (Jd.PWpt (J.s (J.k op_eq (J.p len_strC rfl T.len_ PySem.boot_len (J.b (J.a 2) J.d st_N) (he := st_N) (hpl := any0)) J.c (nomark _)) (Jd.pw_or1 (J.k op_gt (J.p len_strC rfl T.len_ PySem.boot_len (J.b (J.a 2) J.d st_N) (he := st_N) (hpl := any0)) (J.a 1) (nomark _)))))
      (J.g (J.j Jd.pe_bl))
      J.n)
      (J.e (J.m (Jd.pt_not (J.r (J.p (allC K rfl) rfl T.all_ PyProof.Rows.boot_all (J.b (Jd.pe_comp (O := ["sign"]) (N' := []) (cap := []) rfl (Jd.pi_str (J.a 2)) (fun _ _ _ _ _ => (J.z (i := 0) (show List.Nodup [("sign" : Str)] by decide +kernel) rfl (Or.inl rfl))) (fun _ _ _ _ _ => Jd.pts_nil) (fun _ _ _ _ _ => (J.y op_in_str (J.a 0) (Jd.pe_cs rfl C_FIGURES) rfl)) rfl trivial rfl (by decide +kernel) rfl (by decide +kernel)) J.d st_G) (he := st_G) (hpl := any0))))
      (J.g (J.j Jd.pe_bl))
      J.n)
      (J.g (J.j (Jd.pe_or (J.y op_eq (J.a 0) J.o (nomark _)) (Jd.pe_one (J.y op_ne (J.h ix_str (J.a 2) J.c (fun _ _ => rfl)) J.o (nomark _)))))))), ?_⟩
    rintro σ H1 ⟨rfl, rfl⟩
    have hbl : (bare l).length ≤ 100000 := by
      unfold bare
      split
      · rw [List.length_tail]; omega
      · exact hl
    unfold okw at k
    walk_at "v"
    refine ⟨_, rfl, by rw [tx_len]; exact sizeBig (by omega), ?_⟩
    rw [tx_len]
    walk_at "v"
    by_cases h0 : bare l = []
    · rw [h0] at k ⊢
      refine iteT ?_
      walk_at "v"
      refine iteT ?_
      walk_at "v"
      exact k H1 (Same.refl _)
    · have hp := List.length_pos_iff.mpr h0
      rw [decide_eq_false (show ¬ ((bare l).length : Int) = 0 by omega)]
      rw [show (!(bare l).isEmpty) = true by cases e : bare l with | nil => exact absurd e h0 | cons _ _ => rfl, Bool.true_and] at k
      refine iteF ?_
      walk_at "v"
      refine ⟨_, rfl, by rw [tx_len]; exact sizeBig (by omega), ?_⟩
      rw [tx_len]
      walk_at "v"
      by_cases h1 : (bare l).length ≤ fig
      · rw [decide_eq_false (show ¬ (fig : Int) < ((bare l).length : Int) by omega)]
        rw [decide_eq_true h1, Bool.true_and] at k
        refine iteF ?_
        walk_at "v"
        refine r_iS ?_
        walk_at "v"
        refine ⟨_, rfl, ?_⟩
        refine compB_of tells_str (fun _ _ => trivial) (by rw [List.length_map, tx_cps]; omega) (fun i ys G => ys = bls ((((bare l).take i)).map isd)) rfl ?_ ?_
        · rintro D i x ys H2 σ0 NN N0 h0' hD eD s2 hx hy rfl kY kN
          rw [List.getElem?_map, tx_cps] at hx
          obtain ⟨c, hc, rfl⟩ := Option.map_eq_some_iff.mp hx
          refine r_own1 h0' ?_
          walk_at "v"
          refine iteT ?_
          walk_at "v"
          refine ⟨_, _, rfl, rfl, ?_⟩
          rw [StrLaws.found_one]
          refine kY _ H2 (Same.refl _) ?_
          have e : decide (c ∈ (Str.ofString "0123456789").cps.toList) = isd c := isd_mem c
          rw [e, List.take_succ, hc, Option.toList_some, List.map_append]
          unfold bls
          rw [List.map_append]
          rfl
        · rintro D ys H2 nD eD s2 hy rfl
          rw [List.length_map, tx_cps, List.take_length] at eD
          walk_at "v"
          refine r_all eD ?_
          walk_at "v"
          rw [show ((bare l).map isd).all id = (bare l).all isd by rw [List.all_map]; rfl]
          by_cases h2 : (bare l).all isd = true
          · rw [h2] at k ⊢
            rw [Bool.true_and] at k
            refine iteF ?_
            walk_at "v"
            rw [c_zero]
            refine r_eqS ?_
            walk_at "v"
            by_cases h3 : l = [48]
            · rw [decide_eq_true h3] at k ⊢
              rw [Bool.true_or] at k
              refine iteT ?_
              exact k H2 s2
            · rw [decide_eq_false h3] at k ⊢
              rw [Bool.false_or] at k
              refine iteF ?_
              walk_at "v"
              obtain ⟨c, r, e⟩ : ∃ c r, bare l = c :: r := by
                cases e : bare l with
                | nil => exact absurd e h0
                | cons c r => exact ⟨c, r, rfl⟩
              refine ⟨_, 0, c, rfl, rfl, by rw [tx_len]; exact sizeBig (by omega), by rw [tx_cps, e]; exact atI_nat (j := 0) rfl, ?_⟩
              walk_at "v"
              refine r_neS (a := [c]) ?_
              have := k H2 s2
              rw [e] at this
              have q : decide ([c] = [48]) = decide ((c :: r).head? = some 48) := decide_eq_decide.mpr ⟨fun z => by cases z; rfl, fun z => by cases z; rfl⟩
              rw [q]
              exact this
          · have h2 := Bool.eq_false_iff.mpr h2
            rw [h2] at k ⊢
            refine iteT ?_
            walk_at "v"
            exact k H2 s2
      · rw [decide_eq_true (show (fig : Int) < ((bare l).length : Int) by omega)]
        rw [decide_eq_false h1] at k
        refine iteT ?_
        walk_at "v"
        exact k H1 (Same.refl _)
  refine ⟨_, (J.e (J.i (i := 2) sc_is_whole.nd rfl (Or.inl rfl) (Jd.pe_ifExp (J.r (Jd.strM K PySem.F.slot_str_startswith PySem.F.type_str_startswith mt_starts (J.a 0) J.o)) (J.u sl_str (J.a 0) (J.t J.c) J.w) (J.a 0)) (hs := sw_I))
      hu), ?_⟩
  walk_at "v"
  refine ⟨rfl, ?_⟩
  walk_at "v"
  rw [c_dash]
  refine ⟨_, _, rfl, rfl, ?_⟩
  rw [starts_tx]
  by_cases hm : l.head? = some 45
  · rw [decide_eq_true hm]
    refine ⟨_, rfl, iteT ?_⟩
    walk_at "vd"
    refine ⟨_, rfl, by rw [tx_len]; exact sizeBig (by omega), ?_⟩
    rw [show (1 : Int) = ((1 : Nat) : Int) from rfl, sl_from]
    refine hR _ _ ⟨?_, rfl⟩
    unfold bare
    rw [if_pos hm, List.drop_one]
    rfl
  · rw [decide_eq_false hm]
    refine ⟨_, rfl, iteF ?_⟩
    walk_at "v"
    refine hR _ _ ⟨?_, rfl⟩
    unfold bare
    rw [if_neg hm]
    rfl
theorem sc_read_whole : FnScope ["word", "figures"] ["word", "figures"] (defScope s_read_whole) := ⟨rfl, rfl, rfl, by decide +kernel, rfl, by decide +kernel, by decide +kernel⟩
theorem okX_read_whole (F : FunD K "read_whole" "read_whole" s_read_whole f fd d18) (T : Txt mg) (X_NoWord : Xc K mg "NoWord" c_NoWord) (hok : PySem.W.nsOkIn K cStatics = true) (hdg : PySem.W.nsIn K cStatics "sys.int_max_str_digits" = some none) (D_is_whole : Dn P w K mg base 1 "is_whole" ["word", "figures"] spIsWhole) :
    FnOk P w K mg base (CXe P w) 2 f fd ["word", "figures"] (spReadX c_NoWord) := by
  refine FunD.okX F sc_read_whole (fun vs H Q E h => ?_) (fun cdv A outer s H vs Q E hr h => ?_)
  · obtain ⟨l, fig, rfl, _⟩ := h
    rfl
  obtain ⟨l, fig, rfl, hl, hf, k0, k⟩ := h
  refine Jd.go ⟨_, (J.e (J.m (Jd.pt_not (J.r (J.l D_is_whole (hr.mono (by decide)) rfl (J.b (J.a 0) (J.b (J.a 1) J.d st_N) st_N) (he := st_N) (hpl := (anyc st_N any0)))))
      (J.g (Jd.ps_raise X_NoWord rfl (J.b J.o J.d st_C)))
      J.n)
      (J.g (J.j (J.aa (intC K) rfl T.int_ PyProof.Rows.boot_int (J.b (J.a 0) J.d st_N))))), ?_⟩
  walk_at "v"
  refine ⟨l, fig, rfl, hl, fun H1 s1 => ?_⟩
  walk_at "v"
  cases ok : okw l fig with
  | false =>
    refine iteT ?_
    walk_at "v"
    exact ⟨show 1 ≤ sizeLine by decide, k0 (by unfold wd; rw [ok]; rfl) H1 s1⟩
  | true =>
    obtain ⟨n, hn⟩ : ∃ n, wd l fig = some n := by unfold wd; rw [ok]; exact ⟨_, rfl⟩
    refine iteF ?_
    walk_at "v"
    refine ⟨_, n, rfl, wd_int hn (by omega), by rw [tx_len]; exact sizeBig (by omega), hok, hdg, ?_⟩
    exact k n hn H1 s1
theorem ok_read_whole (F : FunD K "read_whole" "read_whole" s_read_whole f fd d18) (T : Txt mg) (hok : PySem.W.nsOkIn K cStatics = true) (hdg : PySem.W.nsIn K cStatics "sys.int_max_str_digits" = some none) (D_is_whole : Dn P w K mg base 1 "is_whole" ["word", "figures"] spIsWhole) :
    FnOk P w K mg base CX0 2 f fd ["word", "figures"] spReadG := by
  refine FunD.ok F sc_read_whole (fun vs H Q E h => ?_) (fun cdv A outer s H vs Q E hr h => ?_)
  · obtain ⟨l, fig, n, rfl, _⟩ := h
    rfl
  obtain ⟨l, fig, n, rfl, hl, hf, hn, k⟩ := h
  refine Jd.go ⟨_, (J.e (J.m (Jd.pt_not (J.r (J.l D_is_whole (hr.mono (by decide)) rfl (J.b (J.a 0) (J.b (J.a 1) J.d st_N) st_N) (he := st_N) (hpl := (anyc st_N any0)))))
      (J.g Jd.ps_never)
      J.n)
      (J.g (J.j (J.aa (intC K) rfl T.int_ PyProof.Rows.boot_int (J.b (J.a 0) J.d st_N))))), ?_⟩
  walk_at "v"
  refine ⟨l, fig, rfl, hl, fun H1 s1 => ?_⟩
  have ok : okw l fig = true := by
    cases ok : okw l fig with
    | true => rfl
    | false => unfold wd at hn; rw [ok] at hn; cases hn
  rw [ok]
  walk_at "v"
  refine iteF ?_
  walk_at "v"
  refine ⟨_, n, rfl, wd_int hn (by omega), by rw [tx_len]; exact sizeBig (by omega), hok, hdg, ?_⟩
  exact k H1 s1
theorem sc_read_ratio : FnScope ["word", "figures", "parts", "top", "bottom"] ["word", "figures"] (defScope s_read_ratio) := ⟨rfl, rfl, rfl, by decide +kernel, rfl, by decide +kernel, by decide +kernel⟩
theorem okX_read_ratio (F : FunD K "read_ratio" "read_ratio" s_read_ratio f fd d18) (X_NoWord : Xc K mg "NoWord" c_NoWord) (DX_read_whole : DnX P w K mg base 2 "read_whole" ["word", "figures"] (spReadX c_NoWord)) (D_is_fraction : Dn P w K mg base 3 "is_fraction" ["pair"] spIsFr) :
    FnOk P w K mg base (CXe P w) 4 f fd ["word", "figures"] (spRatX c_NoWord) := by
  refine FunD.okX F sc_read_ratio (fun vs H Q E h => ?_) (fun cdv A outer s H vs Q E hr h => ?_)
  · obtain ⟨l, fig, rfl, _⟩ := h
    rfl
  obtain ⟨l, fig, rfl, hl, hf, k0, k⟩ := h
  unfold rd at k0 k
  refine Jd.go ⟨_, (J.e (J.i (i := 2) sc_read_ratio.nd rfl (Or.inl rfl) (Jd.strM K PySem.F.slot_str_partition PySem.F.type_str_partition mt_parts (J.a 0) J.o) (hs := sw_K))
      (J.e (J.i (i := 3) sc_read_ratio.nd rfl (Or.inl rfl) (Jd.pe_dnX DX_read_whole pass_on (hr.mono (by decide)) rfl (J.b (J.h (ixT K) (J.a 2) J.c (fun _ _ => rfl)) (J.b (J.a 1) J.d st_N) st_S) (he := st_S) (hpl := (anyc st_N any0))) (hs := sw_K))
      (J.e (J.m (J.k op_eq (J.h (ixT K) (J.a 2) J.c (fun _ _ => rfl)) J.o (nomark _))
      (J.g (J.j (J.q (J.b (J.a 3) (J.b J.c J.d st_C) st_N))))
      J.n)
      (J.e (J.i (i := 4) sc_read_ratio.nd rfl (Or.inl rfl) (Jd.pe_dnX DX_read_whole pass_on (hr.mono (by decide)) rfl (J.b (J.h (ixT K) (J.a 2) J.c (fun _ _ => rfl)) (J.b (J.a 1) J.d st_N) st_S) (he := st_S) (hpl := (anyc st_N any0))) (hs := sw_K))
      (J.e (J.m (Jd.PWpt (J.s (J.k op_lt (J.a 4) J.c (nomark _)) (Jd.pw_or1 (Jd.pt_not (J.r (J.l D_is_fraction (hr.mono (by decide)) rfl (J.b (J.q (J.b (J.a 3) (J.b (J.a 4) J.d st_N) st_N)) J.d st_T) (he := st_T) (hpl := any0)))))))
      (J.g (Jd.ps_raise X_NoWord rfl (J.b J.o J.d st_C)))
      J.n)
      (J.g (J.j (J.q (J.b (J.a 3) (J.b (J.a 4) J.d st_N) st_N))))))))), ?_⟩
  walk_at "v"
  refine ⟨rfl, ?_⟩
  walk_at "v"
  rw [c_slash]
  refine ⟨_, _, rfl, rfl, rfl, by rw [tx_len]; exact sizeBig (by omega), fun p np => ?_⟩
  rw [part_tx]
  have lt : (l.takeWhile (· != 47)).length ≤ 100000 := Nat.le_trans (List.takeWhile_sublist _).length_le hl
  have ld : (l.dropWhile (· != 47)).tail.length ≤ 100000 := by
    rw [List.length_tail]
    have := (List.dropWhile_sublist (l := l) (· != 47)).length_le
    omega
  by_cases hm : 47 ∈ l
  · rw [if_pos hm] at k0 k ⊢
    have s1 := same_new np (.tup [V.str (tx (l.takeWhile (· != 47))), .str (tx [47]), .str (tx (l.dropWhile (· != 47)).tail)])
    have e1 : upd H p (.tup [V.str (tx (l.takeWhile (· != 47))), .str (tx [47]), .str (tx (l.dropWhile (· != 47)).tail)]) p = some (.tup [V.str (tx (l.takeWhile (· != 47))), .str (tx [47]), .str (tx (l.dropWhile (· != 47)).tail)]) := upd_same
    dsimp only
    generalize upd H p (.tup [V.str (tx (l.takeWhile (· != 47))), .str (tx [47]), .str (tx (l.dropWhile (· != 47)).tail)]) = H1 at s1 e1 ⊢
    walk_at "v"
    refine ⟨_, fig, rfl, lt, hf, fun hn H2 s2 => k0 (by rw [hn]) H2 (s1.trans s2), fun x hx H2 s2 => ?_⟩
    rw [hx] at k0 k
    have e2 := s2 _ _ e1
    walk_at "v"
    rw [c_none]
    refine r_eqS ?_
    walk_at "v"
    refine iteF ?_
    walk_at "v"
    refine ⟨_, fig, rfl, ld, hf, fun hn H3 s3 => k0 (by rw [hn]) H3 (s1.trans (s2.trans s3)), fun y hy H3 s3 => ?_⟩
    rw [hy] at k0 k
    dsimp only at k0 k
    have s03 := s1.trans (s2.trans s3)
    have bad : ∀ H4, Same H H4 → ¬ (2 ≤ y ∧ Int.gcd x y = 1) → E (.ref c_NoWord) none H4 := fun H4 s4 h => k0 (if_neg h) H4 s4
    walk_at "v"
    refine ite2 (fun c => ?_) (fun c => ?_)
    · have c' : y < 2 := of_decide_eq_true c
      walk_at "v"
      refine iteT ?_
      walk_at "v"
      exact ⟨show 1 ≤ sizeLine by decide, bad H3 s03 (by omega)⟩
    · have c' : ¬ y < 2 := of_decide_eq_false (Bool.eq_false_iff.mpr c)
      walk_at "v"
      refine r_new (mk := .tup) (by simp) fun q H4 s4 n4 e4 => ?_
      walk_at "v"
      refine ⟨q, x, y, rfl, e4, sz_fig (wd_lt hx) hf, sz_fig (wd_lt hy) hf, fun H5 s5 => ?_⟩
      have s05 := s03.trans (s4.trans s5)
      unfold lgood
      rw [decide_eq_true (show 1 ≤ y by omega), Bool.true_and]
      dsimp only
      by_cases hg : Int.gcd x y = 1
      · rw [decide_eq_true hg]
        walk_at "v"
        refine iteF ?_
        walk_at "v"
        refine r_new (mk := .tup) (by simp) fun z H6 s6 n6 e6 => ?_
        exact k x y (if_pos ⟨by omega, hg⟩) z H6 (s05.trans s6) (s05.free n6) e6
      · rw [decide_eq_false hg]
        walk_at "v"
        refine iteT ?_
        walk_at "v"
        exact ⟨show 1 ≤ sizeLine by decide, bad H5 s05 (by omega)⟩
  · rw [if_neg hm] at k0 k ⊢
    have s1 := same_new np (.tup [V.str (tx l), .str (tx []), .str (tx [])])
    have e1 : upd H p (.tup [V.str (tx l), .str (tx []), .str (tx [])]) p = some (.tup [V.str (tx l), .str (tx []), .str (tx [])]) := upd_same
    dsimp only
    generalize upd H p (.tup [V.str (tx l), .str (tx []), .str (tx [])]) = H1 at s1 e1 ⊢
    walk_at "v"
    refine ⟨_, fig, rfl, hl, hf, fun hn H2 s2 => k0 (by rw [hn]; rfl) H2 (s1.trans s2), fun x hx H2 s2 => ?_⟩
    have e2 := s2 _ _ e1
    walk_at "v"
    rw [c_none]
    refine r_eqS ?_
    walk_at "v"
    refine iteT ?_
    walk_at "v"
    refine r_new (mk := .tup) (by simp) fun z H6 s6 n6 e6 => ?_
    exact k x 1 (by rw [hx]; rfl) z H6 ((s1.trans s2).trans s6) ((s1.trans s2).free n6) e6
theorem ok_read_ratio (F : FunD K "read_ratio" "read_ratio" s_read_ratio f fd d18) (D_read_whole : Dn P w K mg base 2 "read_whole" ["word", "figures"] spReadG) (D_is_fraction : Dn P w K mg base 3 "is_fraction" ["pair"] spIsFr) :
    FnOk P w K mg base CX0 4 f fd ["word", "figures"] spRatG := by
  refine FunD.ok F sc_read_ratio (fun vs H Q E h => ?_) (fun cdv A outer s H vs Q E hr h => ?_)
  · obtain ⟨l, fig, a, b, rfl, _⟩ := h
    rfl
  obtain ⟨l, fig, a, b, rfl, hl, hf, hd, k⟩ := h
  unfold rd at hd
  refine Jd.go ⟨_, (J.e (J.i (i := 2) sc_read_ratio.nd rfl (Or.inl rfl) (Jd.strM K PySem.F.slot_str_partition PySem.F.type_str_partition mt_parts (J.a 0) J.o) (hs := sw_K))
      (J.e (J.i (i := 3) sc_read_ratio.nd rfl (Or.inl rfl) (J.l D_read_whole (hr.mono (by decide)) rfl (J.b (J.h (ixT K) (J.a 2) J.c (fun _ _ => rfl)) (J.b (J.a 1) J.d st_N) st_S) (he := st_S) (hpl := (anyc st_N any0))) (hs := sw_K))
      (J.e (J.m (J.k op_eq (J.h (ixT K) (J.a 2) J.c (fun _ _ => rfl)) J.o (nomark _))
      (J.g (J.j (J.q (J.b (J.a 3) (J.b J.c J.d st_C) st_N))))
      J.n)
      (J.e (J.i (i := 4) sc_read_ratio.nd rfl (Or.inl rfl) (J.l D_read_whole (hr.mono (by decide)) rfl (J.b (J.h (ixT K) (J.a 2) J.c (fun _ _ => rfl)) (J.b (J.a 1) J.d st_N) st_S) (he := st_S) (hpl := (anyc st_N any0))) (hs := sw_K))
      (J.e (J.m (Jd.PWpt (J.s (J.k op_lt (J.a 4) J.c (nomark _)) (Jd.pw_or1 (Jd.pt_not (J.r (J.l D_is_fraction (hr.mono (by decide)) rfl (J.b (J.q (J.b (J.a 3) (J.b (J.a 4) J.d st_N) st_N)) J.d st_T) (he := st_T) (hpl := any0)))))))
      (J.g Jd.ps_never)
      J.n)
      (J.g (J.j (J.q (J.b (J.a 3) (J.b (J.a 4) J.d st_N) st_N))))))))), ?_⟩
  walk_at "v"
  refine ⟨rfl, ?_⟩
  walk_at "v"
  rw [c_slash]
  refine ⟨_, _, rfl, rfl, rfl, by rw [tx_len]; exact sizeBig (by omega), fun p np => ?_⟩
  rw [part_tx]
  have lt : (l.takeWhile (· != 47)).length ≤ 100000 := Nat.le_trans (List.takeWhile_sublist _).length_le hl
  have ld : (l.dropWhile (· != 47)).tail.length ≤ 100000 := by
    rw [List.length_tail]
    have := (List.dropWhile_sublist (l := l) (· != 47)).length_le
    omega
  by_cases hm : 47 ∈ l
  · rw [if_pos hm] at hd ⊢
    have s1 := same_new np (.tup [V.str (tx (l.takeWhile (· != 47))), .str (tx [47]), .str (tx (l.dropWhile (· != 47)).tail)])
    have e1 : upd H p (.tup [V.str (tx (l.takeWhile (· != 47))), .str (tx [47]), .str (tx (l.dropWhile (· != 47)).tail)]) p = some (.tup [V.str (tx (l.takeWhile (· != 47))), .str (tx [47]), .str (tx (l.dropWhile (· != 47)).tail)]) := upd_same
    dsimp only
    generalize upd H p (.tup [V.str (tx (l.takeWhile (· != 47))), .str (tx [47]), .str (tx (l.dropWhile (· != 47)).tail)]) = H1 at s1 e1 ⊢
    obtain ⟨x, hx⟩ : ∃ x, wd (l.takeWhile (· != 47)) fig = some x := by
      cases e : wd (l.takeWhile (· != 47)) fig with
      | none => rw [e] at hd; cases hd
      | some x => exact ⟨x, rfl⟩
    obtain ⟨y, hy⟩ : ∃ y, wd (l.dropWhile (· != 47)).tail fig = some y := by
      cases e : wd (l.dropWhile (· != 47)).tail fig with
      | none => rw [hx, e] at hd; cases hd
      | some x => exact ⟨x, rfl⟩
    rw [hx, hy] at hd
    dsimp only at hd
    have q : 2 ≤ y ∧ Int.gcd x y = 1 := by
      by_cases q : 2 ≤ y ∧ Int.gcd x y = 1
      · exact q
      · rw [if_neg q] at hd; cases hd
    rw [if_pos q] at hd
    cases hd
    walk_at "v"
    refine ⟨_, fig, a, rfl, lt, hf, hx, fun H2 s2 => ?_⟩
    have e2 := s2 _ _ e1
    walk_at "v"
    rw [c_none]
    refine r_eqS ?_
    walk_at "v"
    refine iteF ?_
    walk_at "v"
    refine ⟨_, fig, b, rfl, ld, hf, hy, fun H3 s3 => ?_⟩
    have s03 := s1.trans (s2.trans s3)
    walk_at "v"
    rw [decide_eq_false (show ¬ b < 2 by omega)]
    refine iteF ?_
    walk_at "v"
    refine r_new (mk := .tup) (by simp) fun q' H4 s4 n4 e4 => ?_
    walk_at "v"
    refine ⟨q', a, b, rfl, e4, sz_fig (wd_lt hx) hf, sz_fig (wd_lt hy) hf, fun H5 s5 => ?_⟩
    have s05 := s03.trans (s4.trans s5)
    unfold lgood
    rw [decide_eq_true (show 1 ≤ b by omega), Bool.true_and]
    dsimp only
    rw [decide_eq_true q.2]
    walk_at "v"
    refine iteF ?_
    walk_at "v"
    refine r_new (mk := .tup) (by simp) fun z H6 s6 n6 e6 => ?_
    exact k z H6 (s05.trans s6) (s05.free n6) e6
  · rw [if_neg hm] at hd ⊢
    have s1 := same_new np (.tup [V.str (tx l), .str (tx []), .str (tx [])])
    have e1 : upd H p (.tup [V.str (tx l), .str (tx []), .str (tx [])]) p = some (.tup [V.str (tx l), .str (tx []), .str (tx [])]) := upd_same
    dsimp only
    generalize upd H p (.tup [V.str (tx l), .str (tx []), .str (tx [])]) = H1 at s1 e1 ⊢
    obtain ⟨x, hx⟩ : ∃ x, wd l fig = some x := by
      cases e : wd l fig with
      | none => rw [e] at hd; cases hd
      | some x => exact ⟨x, rfl⟩
    rw [hx] at hd
    cases hd
    walk_at "v"
    refine ⟨_, fig, a, rfl, hl, hf, hx, fun H2 s2 => ?_⟩
    have e2 := s2 _ _ e1
    walk_at "v"
    rw [c_none]
    refine r_eqS ?_
    walk_at "v"
    refine iteT ?_
    walk_at "v"
    refine r_new (mk := .tup) (by simp) fun z H6 s6 n6 e6 => ?_
    exact k z H6 ((s1.trans s2).trans s6) ((s1.trans s2).free n6) e6
end

noncomputable def due (o : Option Int) : V := match o with | none => .non | some n => .int n
noncomputable def spDue : Sp := fun vs H Q _ => ∃ (l : List Nat) (fig : Nat), vs = [.str (tx l), .int (fig : Int)] ∧ l.length ≤ 100000 ∧ fig ≤ 2000 ∧ ∀ H', Same H H' → Q (due (wd l fig)) H'
noncomputable def spRdue : Sp := fun vs H Q _ => ∃ (l : List Nat) (fig : Nat), vs = [.str (tx l), .int (fig : Int)] ∧ l.length ≤ 100000 ∧ fig ≤ 2000 ∧ (rd l fig = none → ∀ H', Same H H' → Q .non H') ∧ ∀ a b, rd l fig = some (a, b) → ∀ (p : Addr) (H' : Hp), Same H H' → H' p = some (.tup [.int a, .int b]) → Q (.ref p) H'
noncomputable def spWord : Sp := fun vs H Q _ => ∃ (p : Addr) (a b : Int), vs = [.ref p] ∧ H p = some (.tup [.int a, .int b]) ∧ Sz 1900 a ∧ Sz 1900 b ∧ Q (.str (tx (rw_ a b))) H
theorem take1 (l : List Nat) : decide (l.take 1 = [45]) = decide (l.head? = some 45) := decide_eq_decide.mpr (by cases l <;> simp)
theorem wd_no {l : List Nat} {fig : Nat} (h : okw l fig = false) : wd l fig = none := by unfold wd; rw [h]; rfl
theorem okw_no {l : List Nat} {fig : Nat} (h : ¬ (bare l ≠ [] ∧ (bare l).length ≤ fig ∧ PySem.NumText.AllDigits (bare l) ∧ (l = [48] ∨ (bare l).head? ≠ some 48))) : wd l fig = none := wd_no (Bool.eq_false_iff.mpr fun z => h (okw_parts.mp z))
theorem r_unpack3 {σ : St} {H : Hp} {K : PySem.W.Frag} {p : Addr} {x y z : V} {i j k : Nat} {R : St → Hp → Prop} (h : H p = some (.tup [x, y, z])) (q : R (((σ.set i (some x)).set j (some y)).set k (some z)) H) : gTup K 3 (gCons (gName i) (gCons (gName j) (gCons (gName k) gNil))) (.ref p) σ H R :=
  ⟨p, _, rfl, SqT.of h, rfl, x, _, rfl, y, _, rfl, z, _, rfl, rfl, q⟩
theorem low_eqv {a b t d : Int} (lo : Low a b t d) (h : 1 ≤ b) : PyData.eqv (.tuple [.int t, .int d]) (.tuple [.int a, .int b]) = decide (Int.gcd a b = 1) := by
  have e : PyData.eqv (.tuple [.int t, .int d]) (.tuple [.int a, .int b]) = (t == a && (d == b && true)) := rfl
  rw [e]
  by_cases g : Int.gcd a b = 1
  · obtain ⟨rfl, rfl⟩ := lo.self h g
    rw [decide_eq_true g]
    simp
  · rw [decide_eq_false g]
    by_cases e1 : t = a
    · by_cases e2 : d = b
      · exact absurd (by rw [← e1, ← e2]; exact lo.co) g
      · simp [e2]
    · simp [e1]
theorem log19 {n : Int} (h : Sz 1900 n) : n.natAbs.log2 < 1920 := by
  by_cases z : n.natAbs = 0
  · rw [z]; decide
  · exact Nat.lt_of_lt_of_le ((Nat.log2_lt z).mpr h) (by decide)
section
variable {P : Program} {w : World} {K : PySem.W.Frag} {mg : Str → Option Value} {base : Heap} {f : Addr} {fd : FuncData}
theorem sc_law_whole_due : FnScope ["_law_word_here", "_law_figures", "_law_plain", "_law_sign"] ["_law_word_here", "_law_figures"] (defScope s_law_whole_due) := ⟨rfl, rfl, rfl, by decide +kernel, rfl, by decide +kernel, by decide +kernel⟩
theorem ok_law_whole_due (F : Fun K "_law_whole_due" "_law_whole_due" s_law_whole_due f fd) (T : Txt mg) (hok : PySem.W.nsOkIn K cStatics = true) (hdg : PySem.W.nsIn K cStatics "sys.int_max_str_digits" = some none) : FnOk P w K mg base CX0 1 f fd ["_law_word_here", "_law_figures"] spDue := by
  refine F.ok sc_law_whole_due (fun vs H Q E h => ?_) (fun cdv A outer s H vs Q E hr h => ?_)
  · obtain ⟨l, fig, rfl, _⟩ := h
    rfl
  obtain ⟨l, fig, rfl, hl, hf, k⟩ := h
  refine Jd.go (Jd.cut 2 (fun σ H' => σ = [some (.str (tx l)), some (.int (fig : Int)), some (.str (tx (bare l))), none] ∧ H' = H) ?_ fun u hu hR => ?_)
  · refine ⟨_, (J.e (J.m (Jd.PWpt (J.s (J.k op_eq (J.a 2) J.o (nomark _)) (Jd.pw_or1 (J.k op_gt (J.p len_strC rfl T.len_ PySem.boot_len (J.b (J.a 2) J.d st_N) (he := st_N) (hpl := any0)) (J.a 1) (nomark _)))))
      (J.g (J.j Jd.pe_non))
      J.n)
      (J.e (Jd.ps_for PassesOwn.never rfl (Jd.pi_str (J.a 2)) (J.z (i := 3) sc_law_whole_due.nd rfl (Or.inl rfl))
      (J.g (J.m (J.k op_notin_str (J.a 3) J.o rfl)
      (J.g (J.j Jd.pe_non))
      J.n)))
      (J.e (J.m (Jd.PWpt (Jd.pw_and (J.k op_eq (J.h ix_str (J.a 2) J.c (fun _ _ => rfl)) J.o (nomark _)) (Jd.pw_and1 (J.k op_ne (J.a 0) J.o (nomark _)))))
      (J.g (J.j Jd.pe_non))
      J.n)
      (J.g (J.j (J.aa (intC K) rfl T.int_ PyProof.Rows.boot_int (J.b (J.a 0) J.d st_N))))))), ?_⟩
    rintro σ H1 ⟨rfl, rfl⟩
    have hbl : (bare l).length ≤ 100000 := by
      unfold bare
      split
      · rw [List.length_tail]; omega
      · exact hl
    have no : ¬ (bare l ≠ [] ∧ (bare l).length ≤ fig ∧ PySem.NumText.AllDigits (bare l) ∧ (l = [48] ∨ (bare l).head? ≠ some 48)) → Q .non H1 := fun h => by
      have := k H1 (Same.refl _)
      rw [okw_no h] at this
      exact this
    walk_at "v"
    rw [c_none]
    refine r_eqS ?_
    walk_at "v"
    by_cases h0 : bare l = []
    · rw [decide_eq_true h0]
      refine iteT ?_
      walk_at "v"
      refine iteT ?_
      walk_at "v"
      exact no fun h => h.1 h0
    · have hp := List.length_pos_iff.mpr h0
      rw [decide_eq_false h0]
      refine iteF ?_
      walk_at "v"
      refine ⟨_, rfl, by rw [tx_len]; exact sizeBig (by omega), ?_⟩
      rw [tx_len]
      walk_at "v"
      by_cases h1 : (bare l).length ≤ fig
      · rw [decide_eq_false (show ¬ (fig : Int) < ((bare l).length : Int) by omega)]
        refine iteF ?_
        walk_at "v"
        refine r_for (r_iS ?_)
        walk_at "v"
        refine ⟨_, rfl, for_str (fun i σ H3 => H3 = H1 ∧ (∀ c ∈ (bare l).take i, 48 ≤ c ∧ c ≤ 57) ∧ ∃ v : Option V, σ = [some (.str (tx l)), some (.int (fig : Int)), some (.str (tx (bare l))), v]) ⟨rfl, fun c hc => absurd hc (by simp), none, rfl⟩ ?_ ?_⟩
        · rintro i c σ H3 hc ⟨rfl, hd, v, rfl⟩
          have hc' : (bare l)[i]? = some c := by rw [← Array.getElem?_toList] at hc; exact hc
          walk_at "v"
          refine ⟨_, _, rfl, rfl, ?_⟩
          rw [StrLaws.found_one]
          have e : decide (c ∈ (Str.ofString "0123456789").cps.toList) = isd c := isd_mem c
          rw [e]
          walk_at "v"
          cases hi : isd c with
          | true =>
            refine iteF ?_
            walk_at "v"
            refine ⟨rfl, fun x hx => ?_, _, rfl⟩
            rw [List.take_succ, hc', Option.toList_some] at hx
            rcases List.mem_append.mp hx with z | z
            · exact hd x z
            · obtain rfl : x = c := by simpa using z
              unfold isd at hi
              simpa using hi
          | false =>
            refine iteT ?_
            walk_at "v"
            refine no fun h => ?_
            have := h.2.2.1 c (List.mem_of_getElem? hc')
            unfold isd at hi
            rw [decide_eq_true this.1, decide_eq_true this.2] at hi
            cases hi
        · rintro σ H3 ⟨rfl, hd, v, rfl⟩
          have hall : PySem.NumText.AllDigits (bare l) := fun c hc => hd c (by
            have : (tx (bare l)).cps.size = (bare l).length := tx_len _
            rw [this, List.take_length]
            exact hc)
          obtain ⟨c, r, e⟩ : ∃ c r, bare l = c :: r := by
            cases e : bare l with
            | nil => exact absurd e h0
            | cons c r => exact ⟨c, r, rfl⟩
          have gd : (l = [48] ∨ (bare l).head? ≠ some 48) → Q (due (wd l fig)) H3 ∧ ∃ n, wd l fig = some n := fun h => ⟨k H3 (Same.refl _), by
            unfold wd
            rw [if_pos (okw_parts.mpr ⟨h0, h1, hall, h⟩)]
            exact ⟨_, rfl⟩⟩
          walk_at "v"
          refine ⟨_, 0, c, rfl, rfl, by rw [tx_len]; exact sizeBig (by omega), by rw [tx_cps, e]; exact atI_nat (j := 0) rfl, ?_⟩
          walk_at "v"
          rw [c_zero]
          refine r_eqS (a := [c]) ?_
          walk_at "v"
          by_cases hc : c = 48
          · subst hc
            rw [decide_eq_true rfl]
            refine iteT ?_
            walk_at "v"
            refine r_neS ?_
            walk_at "v"
            by_cases h3 : l = [48]
            · rw [decide_eq_true h3]
              refine iteF ?_
              walk_at "v"
              obtain ⟨q, n, hn⟩ := gd (.inl h3)
              refine ⟨_, n, rfl, wd_int hn (by omega), by rw [tx_len]; exact sizeBig (by omega), hok, hdg, ?_⟩
              rw [hn] at q
              exact q
            · rw [decide_eq_false h3]
              refine iteT ?_
              walk_at "v"
              refine no fun h => ?_
              rcases h.2.2.2 with z | z
              · exact h3 z
              · exact z (by rw [e]; rfl)
          · rw [decide_eq_false (show ¬ [c] = [48] from fun z => hc (by cases z; rfl))]
            refine iteF ?_
            walk_at "v"
            refine iteF ?_
            walk_at "v"
            obtain ⟨q, n, hn⟩ := gd (.inr (by rw [e]; intro z; cases z; exact hc rfl))
            refine ⟨_, n, rfl, wd_int hn (by omega), by rw [tx_len]; exact sizeBig (by omega), hok, hdg, ?_⟩
            rw [hn] at q
            exact q
      · rw [decide_eq_true (show (fig : Int) < ((bare l).length : Int) by omega)]
        refine iteT ?_
        walk_at "v"
        exact no fun h => h1 h.2.1
  refine ⟨_, (J.e (J.i (i := 2) sc_law_whole_due.nd rfl (Or.inl rfl) (J.a 0) (hs := sw_N))
      (J.e (J.m (J.k op_eq (J.u sl_str (J.a 0) J.w (J.t J.c)) J.o (nomark _))
      (J.g (J.i (i := 2) sc_law_whole_due.nd rfl (Or.inl rfl) (J.u sl_str (J.a 0) (J.t J.c) J.w) (hs := sw_S)))
      J.n)
      hu)), ?_⟩
  walk_at "vd"
  refine ⟨_, rfl, by rw [tx_len]; exact sizeBig (by omega), ?_⟩
  rw [show (1 : Int) = ((1 : Nat) : Int) from rfl, sl_to]
  walk_at "v"
  rw [c_dash]
  refine r_eqS ?_
  rw [take1]
  walk_at "v"
  by_cases hm : l.head? = some 45
  · rw [decide_eq_true hm]
    refine iteT ?_
    walk_at "vd"
    refine ⟨_, rfl, by rw [tx_len]; exact sizeBig (by omega), ?_⟩
    rw [sl_from]
    refine hR _ _ ⟨?_, rfl⟩
    unfold bare
    rw [if_pos hm, List.drop_one]
    rfl
  · rw [decide_eq_false hm]
    refine iteF ?_
    walk_at "v"
    refine hR _ _ ⟨?_, rfl⟩
    unfold bare
    rw [if_neg hm]
    rfl
theorem sc_law_word : FnScope ["_law_one"] ["_law_one"] (defScope s_law_word) := ⟨rfl, rfl, rfl, by decide +kernel, rfl, by decide +kernel, by decide +kernel⟩
theorem ok_law_word (F : Fun K "_law_word" "_law_word" s_law_word f fd) (T : Txt mg) : FnOk P w K mg base CX0 1 f fd ["_law_one"] spWord := by
  refine F.ok sc_law_word (fun vs H Q E h => ?_) (fun cdv A outer s H vs Q E hr h => ?_)
  · obtain ⟨p, a, b, rfl, _⟩ := h
    rfl
  obtain ⟨p, a, b, rfl, hp, za, zb, k⟩ := h
  have la := ww_len8 (za.mono (n := 8000) (by decide))
  have lb := ww_len8 (zb.mono (n := 8000) (by decide))
  unfold rw_ at k
  refine Jd.go ⟨_, (J.e (J.m (J.k op_eq (J.h (ixT K) (J.a 0) J.c (fun _ _ => rfl)) J.c (nomark _))
      (J.g (J.j (J.aa strC rfl T.str_ PyProof.Rows.boot_str (J.b (J.h (ixT K) (J.a 0) J.c (fun _ _ => rfl)) J.d st_S))))
      J.n)
      (J.g (J.j (J.f op_add_str (J.f op_add_str (J.aa strC rfl T.str_ PyProof.Rows.boot_str (J.b (J.h (ixT K) (J.a 0) J.c (fun _ _ => rfl)) J.d st_S)) J.o) (J.aa strC rfl T.str_ PyProof.Rows.boot_str (J.b (J.h (ixT K) (J.a 0) J.c (fun _ _ => rfl)) J.d st_S)))))), ?_⟩
  walk_at "v"
  refine ite2 (fun c => ?_) (fun c => ?_)
  · rw [if_pos (of_decide_eq_true c)] at k
    walk_at "v"
    refine ⟨_, rfl, log19 za, ?_⟩
    rw [str_int]
    exact k
  · rw [if_neg (of_decide_eq_false (Bool.eq_false_iff.mpr c))] at k
    walk_at "v"
    refine ⟨_, rfl, log19 za, ?_⟩
    rw [str_int]
    walk_at "v"
    refine ⟨_, _, rfl, rfl, by rw [c_slash, tx_len, tx_len]; exact sizeBig (by simp only [List.length_cons, List.length_nil]; omega), ?_⟩
    rw [c_slash, tx_app]
    walk_at "v"
    refine ⟨_, rfl, log19 zb, ?_⟩
    rw [str_int]
    refine ⟨_, _, rfl, rfl, by rw [tx_len, tx_len]; exact sizeBig (by simp only [List.length_append, List.length_cons, List.length_nil]; omega), ?_⟩
    rw [tx_app, List.append_assoc]
    exact k
theorem sc_law_ratio_due : FnScope ["_law_word_here", "_law_figures", "_law_top", "_law_stroke", "_law_bottom", "_law_one", "_law_up", "_law_down"] ["_law_word_here", "_law_figures"] (defScope s_law_ratio_due) := ⟨rfl, rfl, rfl, by decide +kernel, rfl, by decide +kernel, by decide +kernel⟩
theorem ok_law_ratio_due (F : Fun K "_law_ratio_due" "_law_ratio_due" s_law_ratio_due f fd) (D_law_whole_due : Dn P w K mg base 1 "_law_whole_due" ["_law_word_here", "_law_figures"] spDue) (D_law_ratio : Dn P w K mg base 1 "_law_ratio" ["_law_top", "_law_bottom"] spRatio) : FnOk P w K mg base CX0 2 f fd ["_law_word_here", "_law_figures"] spRdue := by
  refine F.ok sc_law_ratio_due (fun vs H Q E h => ?_) (fun cdv A outer s H vs Q E hr h => ?_)
  · obtain ⟨l, fig, rfl, _⟩ := h
    rfl
  obtain ⟨l, fig, rfl, hl, hf, k0, k⟩ := h
  have hu64 := hr.units
  unfold rd at k0 k
  refine Jd.go ⟨_, (J.e (Jd.ps_asg (Jd.strM K PySem.F.slot_str_partition PySem.F.type_str_partition mt_parts (J.a 0) J.o) (Jd.pgT K (n := 3) rfl (Jd.pgs_cons (J.z (i := 2) sc_law_ratio_due.nd rfl (Or.inl rfl)) (Jd.pgs_cons (J.z (i := 3) sc_law_ratio_due.nd rfl (Or.inl rfl)) (Jd.pgs_cons (J.z (i := 4) sc_law_ratio_due.nd rfl (Or.inl rfl)) Jd.pgs_nil)))))
      (J.e (J.m (J.k op_eq (J.a 3) J.o (nomark _))
      (J.e (J.i (i := 5) sc_law_ratio_due.nd rfl (Or.inl rfl) (J.l D_law_whole_due (hr.mono (by decide)) rfl (J.b (J.a 0) (J.b (J.a 1) J.d st_N) st_N) (he := st_N) (hpl := (anyc st_N any0))) (hs := sw_K))
      (J.e (J.m (J.k op_isN (J.a 5) Jd.pe_non (nomark _))
      (J.g (J.j Jd.pe_non))
      J.n)
      (J.g (J.j (J.q (J.b (J.a 5) (J.b J.c J.d st_C) st_N))))))
      J.n)
      (J.e (J.i (i := 6) sc_law_ratio_due.nd rfl (Or.inl rfl) (J.l D_law_whole_due (hr.mono (by decide)) rfl (J.b (J.a 2) (J.b (J.a 1) J.d st_N) st_N) (he := st_N) (hpl := (anyc st_N any0))) (hs := sw_K))
      (J.e (J.i (i := 7) sc_law_ratio_due.nd rfl (Or.inl rfl) (J.l D_law_whole_due (hr.mono (by decide)) rfl (J.b (J.a 4) (J.b (J.a 1) J.d st_N) st_N) (he := st_N) (hpl := (anyc st_N any0))) (hs := sw_K))
      (J.e (J.m (Jd.PWpt (J.s (J.k op_isN (J.a 6) Jd.pe_non (nomark _)) (J.s (J.k op_isN (J.a 7) Jd.pe_non (nomark _)) (J.s (J.k op_lt (J.a 7) J.c (nomark _)) (Jd.pw_or1 (J.k (op_neD hu64) (J.l D_law_ratio (hr.mono (by decide)) rfl (J.b (J.a 6) (J.b (J.a 7) J.d st_N) st_N) (he := st_N) (hpl := (anyc st_N any0))) (J.q (J.b (J.a 6) (J.b (J.a 7) J.d st_N) st_N)) (nomark _)))))))
      (J.g (J.j Jd.pe_non))
      J.n)
      (J.g (J.j (J.q (J.b (J.a 6) (J.b (J.a 7) J.d st_N) st_N))))))))), ?_⟩
  walk_at "v"
  refine r_asg ?_
  walk_at "v"
  refine ⟨rfl, ?_⟩
  walk_at "v"
  rw [c_slash]
  refine ⟨_, _, rfl, rfl, rfl, by rw [tx_len]; exact sizeBig (by omega), fun p np => ?_⟩
  rw [part_tx]
  have lt : (l.takeWhile (· != 47)).length ≤ 100000 := Nat.le_trans (List.takeWhile_sublist _).length_le hl
  have ld : (l.dropWhile (· != 47)).tail.length ≤ 100000 := by
    rw [List.length_tail]
    have := (List.dropWhile_sublist (l := l) (· != 47)).length_le
    omega
  by_cases hm : 47 ∈ l
  · rw [if_pos hm] at k0 k ⊢
    have s1 := same_new np (.tup [V.str (tx (l.takeWhile (· != 47))), .str (tx [47]), .str (tx (l.dropWhile (· != 47)).tail)])
    have e1 : upd H p (.tup [V.str (tx (l.takeWhile (· != 47))), .str (tx [47]), .str (tx (l.dropWhile (· != 47)).tail)]) p = some (.tup [V.str (tx (l.takeWhile (· != 47))), .str (tx [47]), .str (tx (l.dropWhile (· != 47)).tail)]) := upd_same
    dsimp only
    generalize upd H p (.tup [V.str (tx (l.takeWhile (· != 47))), .str (tx [47]), .str (tx (l.dropWhile (· != 47)).tail)]) = H1 at s1 e1 ⊢
    refine r_unpack3 e1 ?_
    walk_at "v"
    rw [c_none]
    refine r_eqS ?_
    walk_at "v"
    refine iteF ?_
    walk_at "v"
    refine ⟨_, fig, rfl, lt, hf, fun H2 s2 => ?_⟩
    walk_at "v"
    refine ⟨_, fig, rfl, ld, hf, fun H3 s3 => ?_⟩
    have s03 := s1.trans (s2.trans s3)
    walk_at "v"
    cases hx : wd (l.takeWhile (· != 47)) fig with
    | none =>
      rw [hx] at k0
      refine ⟨rfl, ?_⟩
      walk_at "v"
      refine iteT ?_
      walk_at "v"
      refine iteT ?_
      walk_at "v"
      exact k0 rfl H3 s03
    | some x =>
      rw [hx] at k0 k
      refine ⟨rfl, ?_⟩
      walk_at "v"
      refine iteF ?_
      walk_at "v"
      cases hy : wd (l.dropWhile (· != 47)).tail fig with
      | none =>
        rw [hy] at k0
        refine ⟨rfl, ?_⟩
        walk_at "v"
        refine iteT ?_
        walk_at "v"
        refine iteT ?_
        walk_at "v"
        exact k0 rfl H3 s03
      | some y =>
        rw [hy] at k0 k
        dsimp only at k0 k
        dsimp only [due]
        refine ⟨rfl, ?_⟩
        walk_at "v"
        refine iteF ?_
        walk_at "v"
        refine ite2 (fun c => ?_) (fun c => ?_)
        · have c' : y < 2 := of_decide_eq_true c
          walk_at "v"
          refine iteT ?_
          walk_at "v"
          exact k0 (if_neg (by omega)) H3 s03
        · have c' : ¬ y < 2 := of_decide_eq_false (Bool.eq_false_iff.mpr c)
          walk_at "v"
          refine ⟨x, y, rfl, by omega, sz_fig (wd_lt hy) hf, fun p' t' b' H4 s4 e4 lo => ?_⟩
          walk_at "v"
          refine r_new (mk := .tup) (by simp) fun q H5 s5 n5 e5 => ?_
          have s05 := s03.trans (s4.trans s5)
          walk_at "v"
          refine ⟨_, _, .tup (s5 _ _ e4) (.cons (.int _) (.cons (.int _) .nil)), .tup e5 (.cons (.int _) (.cons (.int _) .nil)), rfl, rfl, ?_⟩
          rw [low_eqv lo (by omega)]
          by_cases hg : Int.gcd x y = 1
          · rw [decide_eq_true hg]
            walk_at "v"
            refine iteF ?_
            walk_at "v"
            refine r_new (mk := .tup) (by simp) fun z H6 s6 n6 e6 => ?_
            exact k x y (if_pos ⟨by omega, hg⟩) z H6 (s05.trans s6) e6
          · rw [decide_eq_false hg]
            walk_at "v"
            refine iteT ?_
            walk_at "v"
            exact k0 (if_neg (by omega)) H5 s05
  · rw [if_neg hm] at k0 k ⊢
    have s1 := same_new np (.tup [V.str (tx l), .str (tx []), .str (tx [])])
    have e1 : upd H p (.tup [V.str (tx l), .str (tx []), .str (tx [])]) p = some (.tup [V.str (tx l), .str (tx []), .str (tx [])]) := upd_same
    dsimp only
    generalize upd H p (.tup [V.str (tx l), .str (tx []), .str (tx [])]) = H1 at s1 e1 ⊢
    refine r_unpack3 e1 ?_
    walk_at "v"
    rw [c_none]
    refine r_eqS ?_
    walk_at "v"
    refine iteT ?_
    walk_at "v"
    refine ⟨_, fig, rfl, hl, hf, fun H2 s2 => ?_⟩
    walk_at "v"
    cases hx : wd l fig with
    | none =>
      refine ⟨rfl, ?_⟩
      walk_at "v"
      refine iteT ?_
      walk_at "v"
      exact k0 (by rw [hx]; rfl) H2 (s1.trans s2)
    | some x =>
      refine ⟨rfl, ?_⟩
      walk_at "v"
      refine iteF ?_
      walk_at "v"
      refine r_new (mk := .tup) (by simp) fun z H6 s6 n6 e6 => ?_
      exact k x 1 (by rw [hx]; rfl) z H6 ((s1.trans s2).trans s6) e6
end

noncomputable def spSigns (K : PySem.W.Frag) : Sp := fun vs H Q _ => ∃ (a : Addr) (ns : List Int) (i c : Int), vs = [.ref a, .int i, .int c] ∧ SqL K H a (ns.map V.int) ∧ 0 ≤ i ∧ i < 900 ∧ 0 ≤ c ∧ c < 10 ∧ ∀ (l : List Nat) (H' : Hp), Same H H' → l.length ≤ 10 → Q (.str (tx l)) H'
noncomputable def spSpoilt : Sp := fun vs H Q _ => ∃ (l : List Nat) (p : Addr) (x y z : Int), vs = [.str (tx l), .ref p] ∧ H p = some (.lst [.int x, .int y, .int z]) ∧ 0 ≤ x ∧ x < 21 ∧ 0 ≤ y ∧ l.length ≤ 10000 ∧ ∀ l' : List Nat, l'.length ≤ l.length + 1 → Q (.str (tx l')) H
noncomputable def spRefused : Sp := fun vs H Q _ => ∃ (l : List Nat) (fig : Nat) (b : Bool), vs = [.str (tx l), .int (fig : Int), .bl b] ∧ l.length ≤ 100000 ∧ fig ≤ 2000 ∧ (b = true → wd l fig = none) ∧ (b = false → rd l fig = none) ∧ ∀ H', Q (.bl true) H'
noncomputable def spReads : Sp := fun vs H Q _ => ∃ (l : List Nat) (fig : Nat), vs = [.str (tx l), .int (fig : Int)] ∧ l.length ≤ 100000 ∧ fig ≤ 2000 ∧ ∀ H', Q (.bl true) H'
noncomputable def spLaw (K : PySem.W.Frag) : Sp := fun vs H Q _ => ∃ (a : Addr) (ns : List Int), vs = [.ref a] ∧ SqL K H a (ns.map V.int) ∧ ns.length ≤ 63 ∧ ∀ H', Q (.bl true) H'
noncomputable def sgn : List Nat := [32, 48, 49, 50, 51, 52, 53, 54, 55, 56, 57, 45, 47, 43, 97, 103, 112, 46, 95, 120, 10]
theorem c_sgn : Str.ofString " 0123456789-/+agp._x\n" = tx sgn := by decide
theorem sgn_at {x : Int} (h0 : 0 ≤ x) (h1 : x < 21) : ∃ c, atI sgn x = some c := by
  obtain ⟨k, rfl⟩ : ∃ k : Nat, x = (k : Int) := ⟨x.toNat, by omega⟩
  exact ⟨sgn[k]'(by show k < 21; omega), atI_nat (List.getElem?_eq_getElem (by show k < 21; omega))⟩
theorem c_one (c : Nat) : (⟨#[c]⟩ : Str) = tx [c] := rfl
theorem mod_nat {y : Int} {n : Nat} (h : 0 ≤ y) (hn : 0 < n) : ∃ k : Nat, y % ((n : Nat) : Int) = (k : Int) ∧ k < n := by
  have a := Int.emod_nonneg y (show (n : Int) ≠ 0 by omega)
  have b := Int.emod_lt_of_pos y (show (0 : Int) < (n : Int) by omega)
  exact ⟨(y % (n : Int)).toNat, by omega, by omega⟩
section
variable {P : Program} {w : World} {K : PySem.W.Frag} {mg : Str → Option Value} {base : Heap} {f c_NoWord c_LathError c_NoRatio c_NoLine : Addr} {fd : FuncData}
theorem sc_law_signs : FnScope ["_law_script", "_law_place", "_law_count", "_law_some"] ["_law_script", "_law_place", "_law_count"] (defScope s_law_signs) := ⟨rfl, rfl, rfl, by decide +kernel, rfl, by decide +kernel, by decide +kernel⟩
theorem ok_law_signs (F : Fun K "_law_signs" "_law_signs" s_law_signs f fd) (D_law_row : Dn P w K mg base 3 "_law_row" ["_law_script", "_law_place", "_law_sizes"] (spRow K)) : FnOk P w K mg base CX0 4 f fd ["_law_script", "_law_place", "_law_count"] (spSigns K) := by
  refine F.ok sc_law_signs (fun vs H Q E h => ?_) (fun cdv A outer s H vs Q E hr h => ?_)
  · obtain ⟨a, ns, i, c, rfl, _⟩ := h
    rfl
  obtain ⟨a, ns, i, c, rfl, hS, h0, h1, c0, c1, k⟩ := h
  refine Jd.go ⟨_, (J.e (J.i (i := 3) sc_law_signs.nd rfl (Or.inr rfl) J.o (hs := sw_C))
      (J.g (J.j (Jd.strM K PySem.F.slot_str_join PySem.F.type_str_join mt_join J.o (Jd.pe_comp (O := ["_law_k"]) (N' := ["_law_some"]) (cap := [3]) rfl (Jd.piL K (J.l D_law_row (hr.mono (by decide)) rfl (J.b (J.a 0) (J.b (J.a 1) (J.b (J.f op_rep (J.v (J.b J.c J.d st_C)) (J.a 2)) J.d st_B) st_N) st_N) (he := st_N) (hpl := (anyc st_N (anyc st_B any0))))) (fun _ _ _ _ _ => (J.z (i := 0) (show List.Nodup [("_law_k" : Str), ("_law_some" : Str)] by decide +kernel) rfl (Or.inl rfl))) (fun _ _ _ _ _ => Jd.pts_nil) (fun _ _ _ _ _ => (J.h ix_str (J.a 1) (J.a 0) (fun _ _ => rfl))) rfl ⟨⟨rfl, rfl, rfl, rfl⟩, trivial⟩ rfl (by decide +kernel) rfl (by decide +kernel)))))), ?_⟩
  walk_at "v"
  rw [c_sgn, c_none]
  refine ⟨rfl, ?_⟩
  walk_at "v"
  refine r_iL ?_
  walk_at "v"
  refine r_new (mk := .lst) (by simp) fun l1 H1 s1 n1 e1 => ?_
  walk_at "v"
  refine r_rep e1 (by omega) (by omega) ?_
  refine r_new (mk := .lst) (by simp; omega) fun l2 H2 s2 n2 e2 => ?_
  have er : (List.replicate c.toNat [V.int 21]).flatten = (List.replicate c.toNat (21 : Int)).map V.int := by simp
  rw [er] at e2
  walk_at "v"
  refine ⟨a, ns, i, l2, List.replicate c.toNat 21, rfl, (s1.trans s2).seq hS, h0, h1, e2, by rw [List.length_replicate]; omega, fun z hz => by rw [List.eq_of_mem_replicate hz]; decide, fun p xs H3 s3 n3 e3 hlen hxs => ?_⟩
  rw [List.length_replicate] at hlen
  have hx : ∀ x ∈ xs, 0 ≤ x ∧ x < 21 := fun x hx => by
    obtain ⟨j, hj⟩ := List.getElem?_of_mem hx
    have hj' := (List.getElem?_eq_some_iff.mp hj).1
    exact hxs j x 21 hj (by rw [List.getElem?_replicate, if_pos (by omega)])
  refine ⟨p, rfl, ⟨_, SqL.of e3⟩, ?_⟩
  refine compB_of (xs := xs.map V.int) tells_list (fun H4 s4 => SqL.of (s4 _ _ e3)) (by rw [List.length_map]; omega) (fun j ys G => ∃ zs : List (List Nat), ys = sv zs ∧ zs.length ≤ j ∧ zs.flatten.length ≤ j) ⟨[], rfl, by simp, by simp⟩ ?_ ?_
  · rintro D j x ys H4 σ0 NN N0 g0 hD eD s4 hv hy ⟨zs, rfl, hz1, hz2⟩ kY kN
    rw [List.getElem?_map] at hv
    obtain ⟨m, gm, rfl⟩ := Option.map_eq_some_iff.mp hv
    obtain ⟨m0, m1⟩ := hx m (List.mem_of_getElem? gm)
    obtain ⟨cc, hcc⟩ := sgn_at m0 m1
    refine r_own1 g0 ?_
    walk_at "v"
    refine iteT ?_
    walk_at "v"
    refine ⟨_, m, cc, rfl, rfl, by rw [tx_len]; exact sizeBig (by decide), by rw [tx_cps]; exact hcc, ?_⟩
    refine kY _ H4 (Same.refl _) ⟨zs ++ [[cc]], ?_, ?_, ?_⟩
    · unfold sv; rw [List.map_append]; rfl
    · rw [List.length_append]; simp; omega
    · rw [List.flatten_append, List.length_append]
      show zs.flatten.length + 1 ≤ j + 1
      omega
  · rintro D ys H4 nD eD s4 hy ⟨zs, rfl, hz1, hz2⟩
    rw [List.length_map] at hz1 hz2
    rw [sv_strs] at eD
    walk_at "v"
    refine ⟨_, D, zs.map tx, rfl, rfl, eD, by rw [join_len (zs := zs) _ rfl]; exact sizeBig (by omega), by rw [glue_tx, tx_len]; exact sizeBig (by omega), ?_⟩
    rw [glue_tx]
    exact k _ H4 (s1.trans (s2.trans (s3.trans s4))) (by omega)
theorem sc_law_spoilt : FnScope ["_law_word_here", "_law_some", "_law_sign", "_law_at"] ["_law_word_here", "_law_some"] (defScope s_law_spoilt) := ⟨rfl, rfl, rfl, by decide +kernel, rfl, by decide +kernel, by decide +kernel⟩
theorem ok_law_spoilt (F : Fun K "_law_spoilt" "_law_spoilt" s_law_spoilt f fd) (T : Txt mg) : FnOk P w K mg base CX0 1 f fd ["_law_word_here", "_law_some"] spSpoilt := by
  refine F.ok sc_law_spoilt (fun vs H Q E h => ?_) (fun cdv A outer s H vs Q E hr h => ?_)
  · obtain ⟨l, p, x, y, z, rfl, _⟩ := h
    rfl
  obtain ⟨l, p, x, y, z, rfl, hp, x0, x1, y0, hl, k⟩ := h
  obtain ⟨c, hc⟩ := sgn_at x0 x1
  obtain ⟨m, hm, mlt⟩ := mod_nat (n := l.length + 1) y0 (by omega)
  have sz : ∀ l' : List Nat, l'.length ≤ 20000 → (tx l').length ≤ sizeLine := fun l' h => by rw [tx_len]; exact sizeBig (by omega)
  refine Jd.go ⟨_, (J.e (J.i (i := 2) sc_law_spoilt.nd rfl (Or.inl rfl) (J.h ix_str J.o (J.h (ixL K) (J.a 1) J.c (fun _ _ => rfl)) (fun _ _ => rfl)) (hs := sw_S))
      (J.e (J.i (i := 3) sc_law_spoilt.nd rfl (Or.inl rfl) (J.f op_mod (J.h (ixL K) (J.a 1) J.c (fun _ _ => rfl)) (J.f op_add (J.p len_strC rfl T.len_ PySem.boot_len (J.b (J.a 0) J.d st_N) (he := st_N) (hpl := any0)) J.c)) (hs := sw_B))
      (J.e (J.m (J.k op_eq (J.h (ixL K) (J.a 1) J.c (fun _ _ => rfl)) J.c (nomark _))
      (J.g (J.j (J.f op_add_str (J.f op_add_str (J.u sl_str (J.a 0) J.w (J.t (J.a 3))) (J.a 2)) (J.u sl_str (J.a 0) (J.t (J.a 3)) J.w))))
      J.n)
      (J.e (J.m (J.k op_eq (J.h (ixL K) (J.a 1) J.c (fun _ _ => rfl)) J.c (nomark _))
      (J.g (J.j (J.f op_add_str (J.u sl_str (J.a 0) J.w (J.t (J.a 3))) (J.u sl_str (J.a 0) (J.t (J.f op_add (J.a 3) J.c)) J.w))))
      J.n)
      (J.g (J.j (J.f op_add_str (J.f op_add_str (J.u sl_str (J.a 0) J.w (J.t (J.a 3))) (J.a 2)) (J.u sl_str (J.a 0) (J.t (J.f op_add (J.a 3) J.c)) J.w)))))))), ?_⟩
  walk_at "v"
  refine r_l hp at0 ?_
  rw [c_sgn]
  refine ⟨_, x, c, rfl, rfl, sz _ (by decide), by rw [tx_cps]; exact hc, ?_⟩
  walk_at "v"
  refine r_l hp at1 ?_
  walk_at "v"
  refine ⟨_, rfl, sz _ (by omega), ?_⟩
  rw [tx_len]
  walk_at "v"
  rw [show ((l.length : Int) + 1) = ((l.length + 1 : Nat) : Int) by omega, hm]
  refine r_l hp at2 ?_
  walk_at "v"
  refine ite2 (fun _ => ?_) (fun _ => ?_)
  · walk_at "vd"
    refine ⟨_, rfl, sz _ (by omega), ?_⟩
    rw [sl_to, c_one]
    walk_at "v"
    refine ⟨_, _, rfl, rfl, by rw [tx_len, tx_len]; exact sizeBig (by simp only [List.length_append, List.length_take, List.length_drop, List.length_cons, List.length_nil]; omega), ?_⟩
    rw [tx_app]
    walk_at "vd"
    refine ⟨_, rfl, sz _ (by omega), ?_⟩
    rw [sl_from]
    refine ⟨_, _, rfl, rfl, by rw [tx_len, tx_len]; exact sizeBig (by simp only [List.length_append, List.length_take, List.length_drop, List.length_cons, List.length_nil]; omega), ?_⟩
    rw [tx_app]
    refine k _ ?_
    simp only [List.length_append, List.length_take, List.length_drop, List.length_cons, List.length_nil]
    omega
  walk_at "v"
  refine r_l hp at2 ?_
  walk_at "v"
  refine ite2 (fun _ => ?_) (fun _ => ?_)
  · walk_at "vd"
    refine ⟨_, rfl, sz _ (by omega), ?_⟩
    rw [sl_to]
    walk_at "vd"
    refine ⟨_, rfl, sz _ (by omega), ?_⟩
    rw [show ((m : Int) + 1) = ((m + 1 : Nat) : Int) by omega, sl_from]
    refine ⟨_, _, rfl, rfl, by rw [tx_len, tx_len]; exact sizeBig (by simp only [List.length_append, List.length_take, List.length_drop, List.length_cons, List.length_nil]; omega), ?_⟩
    rw [tx_app]
    refine k _ ?_
    simp only [List.length_append, List.length_take, List.length_drop, List.length_cons, List.length_nil]
    omega
  walk_at "vd"
  refine ⟨_, rfl, sz _ (by omega), ?_⟩
  rw [sl_to, c_one]
  walk_at "v"
  refine ⟨_, _, rfl, rfl, by rw [tx_len, tx_len]; exact sizeBig (by simp only [List.length_append, List.length_take, List.length_drop, List.length_cons, List.length_nil]; omega), ?_⟩
  rw [tx_app]
  walk_at "vd"
  refine ⟨_, rfl, sz _ (by omega), ?_⟩
  rw [show ((m : Int) + 1) = ((m + 1 : Nat) : Int) by omega, sl_from]
  refine ⟨_, _, rfl, rfl, by rw [tx_len, tx_len]; exact sizeBig (by simp only [List.length_append, List.length_take, List.length_drop, List.length_cons, List.length_nil]; omega), ?_⟩
  rw [tx_app]
  refine k _ ?_
  simp only [List.length_append, List.length_take, List.length_drop, List.length_cons, List.length_nil]
  omega
theorem sc_law_refused : FnScope ["_law_word_here", "_law_figures", "_law_whole", "e"] ["_law_word_here", "_law_figures", "_law_whole"] (defScope s_law_refused) := ⟨rfl, rfl, rfl, by decide +kernel, rfl, by decide +kernel, by decide +kernel⟩
theorem ok_law_refused (F : Fun K "_law_refused" "_law_refused" s_law_refused f fd) (T : Txt mg) (Z_ValueError : mg "ValueError" = none) (X_LathError : Xc K mg "LathError" c_LathError) (X_NoRatio : Xc K mg "NoRatio" c_NoRatio) (X_NoWord : Xc K mg "NoWord" c_NoWord) (XN_NoLine : mg "NoLine" = some (.ref c_NoLine)) (xq : Xq K c_NoWord)
    (hexm : PySem.W.exmOne K (.ref c_NoWord) (.ref c_LathError) = some true)
    (hkt : [PySem.W.kitOne K (.ref c_NoWord) (.ref c_NoLine), PySem.W.kitOne K (.ref c_NoWord) (.ref c_NoRatio), PySem.W.kitOne K (.ref c_NoWord) (.ref c_NoWord), PySem.W.kitOne K (.ref c_NoWord) (.type "ValueError")] = [some false, some false, some true, some true])
    (DDX_read_whole : DnD (CXe P w) P w K mg base 2 "read_whole" ["word", "figures"] (spReadX c_NoWord) 18) (DDX_read_ratio : DnD (CXe P w) P w K mg base 4 "read_ratio" ["word", "figures"] (spRatX c_NoWord) 18) (DX_read_whole : DnX P w K mg base 2 "read_whole" ["word", "figures"] (spReadX c_NoWord)) (DX_read_ratio : DnX P w K mg base 4 "read_ratio" ["word", "figures"] (spRatX c_NoWord)) :
    FnOk P w K mg base CX0 5 f fd ["_law_word_here", "_law_figures", "_law_whole"] spRefused := by
  refine F.ok sc_law_refused (fun vs H Q E h => ?_) (fun cdv A outer s H vs Q E hr h => ?_)
  · obtain ⟨l, fig, b, rfl, _⟩ := h
    rfl
  obtain ⟨l, fig, b, rfl, hl, hf, h1, h2, k⟩ := h
  obtain ⟨k1, k2, k3, k4⟩ : PySem.W.kitOne K (.ref c_NoWord) (.ref c_NoLine) = some false ∧ PySem.W.kitOne K (.ref c_NoWord) (.ref c_NoRatio) = some false ∧ PySem.W.kitOne K (.ref c_NoWord) (.ref c_NoWord) = some true ∧ PySem.W.kitOne K (.ref c_NoWord) (.type "ValueError") = some true := by
    injection hkt with a hkt
    injection hkt with b hkt
    injection hkt with c hkt
    injection hkt with d hkt
    exact ⟨a, b, c, d⟩
  refine Jd.go ⟨_, (J.e (Jd.ps_tryAsD (j := 3) sc_law_refused.nd rfl rfl rfl X_LathError.at_ rfl rfl (fun pn' xe' E' hp' => (J.g (J.m (J.r (J.a 2))
      (J.g (J.m (J.k op_eq (J.a 1) J.c (nomark _))
      (J.g (J.x (Jd.pe_ddX DDX_read_whole hp' (hr.mono (by decide)) rfl (J.b (J.a 0) J.d st_N) (he := st_N) (hpl := any0)) (hs := sw_K)))
      (J.g (J.x (Jd.pe_dnX DX_read_whole hp' (hr.mono (by decide)) rfl (J.b (J.a 0) (J.b (J.a 1) J.d st_N) st_N) (he := st_N) (hpl := (anyc st_N any0))) (hs := sw_K)))))
      (J.g (J.m (J.k op_eq (J.a 1) J.c (nomark _))
      (J.g (J.x (Jd.pe_ddX DDX_read_ratio hp' (hr.mono (by decide)) rfl (J.b (J.a 0) J.d st_N) (he := st_N) (hpl := any0)) (hs := sw_K)))
      (J.g (J.x (Jd.pe_dnX DX_read_ratio hp' (hr.mono (by decide)) rfl (J.b (J.a 0) (J.b (J.a 1) J.d st_N) st_N) (he := st_N) (hpl := (anyc st_N any0))) (hs := sw_K))))))))
      (fun e' ob' c' dx' pn' hpin' hcls' hdict' hncl' => (J.e (J.m (Jd.PWpt (J.s (J.r (J.p (isqK K hpin' hcls' hdict' hncl') rfl T.isinstance_ PyProof.Rows.boot_isinstance (J.b (J.a 3) (J.b (Jd.pe_xi rfl XN_NoLine) J.d st_N) st_N) (he := st_N) (hpl := (anyc st_N any0)))) (Jd.pw_or1 (J.r (J.p (isqK K hpin' hcls' hdict' hncl') rfl T.isinstance_ PyProof.Rows.boot_isinstance (J.b (J.a 3) (J.b (Jd.pe_xn rfl X_NoRatio) J.d st_N) st_N) (he := st_N) (hpl := (anyc st_N any0)))))))
      (J.g (J.j Jd.pe_bl))
      J.n)
      (J.g (J.j (Jd.pe_and (J.p (isqK K hpin' hcls' hdict' hncl') rfl T.isinstance_ PyProof.Rows.boot_isinstance (J.b (J.a 3) (J.b (Jd.pe_xn rfl X_NoWord) J.d st_N) st_N) (he := st_N) (hpl := (anyc st_N any0))) (Jd.pe_one (J.p (isqK K hpin' hcls' hdict' hncl') rfl T.isinstance_ PyProof.Rows.boot_isinstance (J.b (J.a 3) (J.b (Jd.pe_ty rfl Z_ValueError boot_ValueError) J.d st_N) st_N) (he := st_N) (hpl := (anyc st_N any0))))))))))
      (J.g (J.j Jd.pe_bl))), ?_⟩
  walk_at "v"
  cases b with
  | true =>
    have hn := h1 rfl
    refine iteT ?_
    walk_at "v"
    refine ite2 (fun c => ?_) (fun c => ?_)
    · have c' : (fig : Int) = 18 := of_decide_eq_true c
      obtain rfl : fig = 18 := by omega
      walk_at "v"
      refine ⟨l, 18, rfl, hl, by omega, fun _ H1 s1 => ⟨hexm, fun e σ' hσ => ?_⟩, fun n hs => by rw [hn] at hs; cases hs⟩
      match σ', hσ with
      | [v0, v1, v2, v3], _ =>
        walk_at "v"
        refine ⟨c_NoWord, _, _, false, rfl, .own _, rfl, (fun d' h => nomatch h), xq, k1, ?_⟩
        walk_at "v"
        refine iteF ?_
        walk_at "v"
        refine ⟨c_NoWord, _, _, false, rfl, .own _, rfl, (fun d' h => nomatch h), xq, k2, ?_⟩
        walk_at "v"
        refine iteF ?_
        walk_at "v"
        refine ⟨c_NoWord, _, _, true, rfl, .own _, rfl, (fun d' h => nomatch h), xq, k3, ?_⟩
        walk_at "v"
        refine iteT ?_
        walk_at "v"
        refine ⟨c_NoWord, _, _, true, rfl, .ty _, rfl, (fun d' h => nomatch h), xq, k4, ?_⟩
        exact k H1
    · walk_at "v"
      refine ⟨l, fig, rfl, hl, by omega, fun _ H1 s1 => ⟨hexm, fun e σ' hσ => ?_⟩, fun n hs => by rw [hn] at hs; cases hs⟩
      match σ', hσ with
      | [v0, v1, v2, v3], _ =>
        walk_at "v"
        refine ⟨c_NoWord, _, _, false, rfl, .own _, rfl, (fun d' h => nomatch h), xq, k1, ?_⟩
        walk_at "v"
        refine iteF ?_
        walk_at "v"
        refine ⟨c_NoWord, _, _, false, rfl, .own _, rfl, (fun d' h => nomatch h), xq, k2, ?_⟩
        walk_at "v"
        refine iteF ?_
        walk_at "v"
        refine ⟨c_NoWord, _, _, true, rfl, .own _, rfl, (fun d' h => nomatch h), xq, k3, ?_⟩
        walk_at "v"
        refine iteT ?_
        walk_at "v"
        refine ⟨c_NoWord, _, _, true, rfl, .ty _, rfl, (fun d' h => nomatch h), xq, k4, ?_⟩
        exact k H1
  | false =>
    have hn := h2 rfl
    refine iteF ?_
    walk_at "v"
    refine ite2 (fun c => ?_) (fun c => ?_)
    · have c' : (fig : Int) = 18 := of_decide_eq_true c
      obtain rfl : fig = 18 := by omega
      walk_at "v"
      refine ⟨l, 18, rfl, hl, by omega, fun _ H1 s1 => ⟨hexm, fun e σ' hσ => ?_⟩, fun x y hs => by rw [hn] at hs; cases hs⟩
      match σ', hσ with
      | [v0, v1, v2, v3], _ =>
        walk_at "v"
        refine ⟨c_NoWord, _, _, false, rfl, .own _, rfl, (fun d' h => nomatch h), xq, k1, ?_⟩
        walk_at "v"
        refine iteF ?_
        walk_at "v"
        refine ⟨c_NoWord, _, _, false, rfl, .own _, rfl, (fun d' h => nomatch h), xq, k2, ?_⟩
        walk_at "v"
        refine iteF ?_
        walk_at "v"
        refine ⟨c_NoWord, _, _, true, rfl, .own _, rfl, (fun d' h => nomatch h), xq, k3, ?_⟩
        walk_at "v"
        refine iteT ?_
        walk_at "v"
        refine ⟨c_NoWord, _, _, true, rfl, .ty _, rfl, (fun d' h => nomatch h), xq, k4, ?_⟩
        exact k H1
    · walk_at "v"
      refine ⟨l, fig, rfl, hl, by omega, fun _ H1 s1 => ⟨hexm, fun e σ' hσ => ?_⟩, fun x y hs => by rw [hn] at hs; cases hs⟩
      match σ', hσ with
      | [v0, v1, v2, v3], _ =>
        walk_at "v"
        refine ⟨c_NoWord, _, _, false, rfl, .own _, rfl, (fun d' h => nomatch h), xq, k1, ?_⟩
        walk_at "v"
        refine iteF ?_
        walk_at "v"
        refine ⟨c_NoWord, _, _, false, rfl, .own _, rfl, (fun d' h => nomatch h), xq, k2, ?_⟩
        walk_at "v"
        refine iteF ?_
        walk_at "v"
        refine ⟨c_NoWord, _, _, true, rfl, .own _, rfl, (fun d' h => nomatch h), xq, k3, ?_⟩
        walk_at "v"
        refine iteT ?_
        walk_at "v"
        refine ⟨c_NoWord, _, _, true, rfl, .ty _, rfl, (fun d' h => nomatch h), xq, k4, ?_⟩
        exact k H1
theorem sc_law_read_whole : FnScope ["_law_word_here", "_law_figures", "_law_due", "_law_found"] ["_law_word_here", "_law_figures"] (defScope s_law_read_whole) := ⟨rfl, rfl, rfl, by decide +kernel, rfl, by decide +kernel, by decide +kernel⟩
theorem ok_law_read_whole (F : Fun K "_law_read_whole" "_law_read_whole" s_law_read_whole f fd) (T : Txt mg) (D_law_whole_due : Dn P w K mg base 1 "_law_whole_due" ["_law_word_here", "_law_figures"] spDue) (D_law_refused : Dn P w K mg base 5 "_law_refused" ["_law_word_here", "_law_figures", "_law_whole"] spRefused)
    (DD_read_whole : DnD CX0 P w K mg base 2 "read_whole" ["word", "figures"] spReadG 18) (D_read_whole : Dn P w K mg base 2 "read_whole" ["word", "figures"] spReadG) (D_whole_word : Dn P w K mg base 2 "whole_word" ["number"] spWhole) : FnOk P w K mg base CX0 6 f fd ["_law_word_here", "_law_figures"] spReads := by
  refine F.ok sc_law_read_whole (fun vs H Q E h => ?_) (fun cdv A outer s H vs Q E hr h => ?_)
  · obtain ⟨l, fig, rfl, _⟩ := h
    rfl
  obtain ⟨l, fig, rfl, hl, hf, k⟩ := h
  refine Jd.go ⟨_, (J.e (J.i (i := 2) sc_law_read_whole.nd rfl (Or.inl rfl) (J.l D_law_whole_due (hr.mono (by decide)) rfl (J.b (J.a 0) (J.b (J.a 1) J.d st_N) st_N) (he := st_N) (hpl := (anyc st_N any0))) (hs := sw_K))
      (J.e (J.m (J.k op_isN (J.a 2) Jd.pe_non (nomark _))
      (J.g (J.j (J.l D_law_refused (hr.mono (by decide)) rfl (J.b (J.a 0) (J.b (J.a 1) (J.b Jd.pe_bl J.d st_C) st_N) st_N) (he := st_N) (hpl := (anyc st_N (anyc st_C any0))))))
      J.n)
      (J.e (J.m (J.k op_eq (J.a 1) J.c (nomark _))
      (J.g (J.i (i := 3) sc_law_read_whole.nd rfl (Or.inl rfl) (Jd.pe_dd DD_read_whole (hr.mono (by decide)) rfl (J.b (J.a 0) J.d st_N) (he := st_N) (hpl := any0)) (hs := sw_K)))
      (J.g (J.i (i := 3) sc_law_read_whole.nd rfl (Or.inl rfl) (J.l D_read_whole (hr.mono (by decide)) rfl (J.b (J.a 0) (J.b (J.a 1) J.d st_N) st_N) (he := st_N) (hpl := (anyc st_N any0))) (hs := sw_K))))
      (J.e (J.m (Jd.PWpt (J.s (J.r (J.p (isiC K) rfl T.isinstance_ PyProof.Rows.boot_isinstance (J.b (J.a 3) (J.b (Jd.pe_ty rfl T.bool_ PyProof.Rows.boot_bool) J.d st_N) st_N) (he := st_N) (hpl := (anyc st_N any0)))) (J.s (Jd.pt_not (J.r (J.p (isiC K) rfl T.isinstance_ PyProof.Rows.boot_isinstance (J.b (J.a 3) (J.b (Jd.pe_ty rfl T.int_ PyProof.Rows.boot_int) J.d st_N) st_N) (he := st_N) (hpl := (anyc st_N any0))))) (Jd.pw_or1 (J.k op_ne (J.a 3) (J.a 2) (nomark _))))))
      (J.g (J.j Jd.pe_bl))
      J.n)
      (J.g (J.j (J.y op_eq (J.l D_whole_word (hr.mono (by decide)) rfl (J.b (J.a 3) J.d st_N) (he := st_N) (hpl := any0)) (J.a 0) (nomark _)))))))), ?_⟩
  walk_at "v"
  refine ⟨l, fig, rfl, hl, hf, fun H1 s1 => ?_⟩
  walk_at "v"
  cases hn : wd l fig with
  | none =>
    refine ⟨rfl, ?_⟩
    walk_at "v"
    refine iteT ?_
    walk_at "v"
    exact ⟨l, fig, true, rfl, hl, hf, fun _ => hn, (fun z => nomatch z), k⟩
  | some n =>
    dsimp only [due]
    refine ⟨rfl, ?_⟩
    walk_at "v"
    refine iteF ?_
    have fin : ∀ H2 : Hp, True := fun _ => trivial
    walk_at "v"
    refine ite2 (fun c => ?_) (fun c => ?_)
    · have c' : (fig : Int) = 18 := of_decide_eq_true c
      obtain rfl : fig = 18 := by omega
      walk_at "v"
      refine ⟨l, 18, n, rfl, hl, by omega, hn, fun H2 s2 => ?_⟩
      walk_at "v"
      refine r_isi (.int _) kit_ib ?_
      walk_at "v"
      refine iteF ?_
      walk_at "v"
      refine r_isi (.int _) kit_ii ?_
      walk_at "v"
      refine iteF ?_
      walk_at "v"
      rw [decide_eq_true rfl]
      refine iteF ?_
      walk_at "v"
      refine ⟨n, rfl, sz_fig (wd_lt hn) (by omega), fun H3 s3 => ?_⟩
      walk_at "v"
      rw [ww_wd hn]
      refine r_eqS ?_
      rw [decide_eq_true rfl]
      exact k H3
    · walk_at "v"
      refine ⟨l, fig, n, rfl, hl, by omega, hn, fun H2 s2 => ?_⟩
      walk_at "v"
      refine r_isi (.int _) kit_ib ?_
      walk_at "v"
      refine iteF ?_
      walk_at "v"
      refine r_isi (.int _) kit_ii ?_
      walk_at "v"
      refine iteF ?_
      walk_at "v"
      rw [decide_eq_true rfl]
      refine iteF ?_
      walk_at "v"
      refine ⟨n, rfl, sz_fig (wd_lt hn) (by omega), fun H3 s3 => ?_⟩
      walk_at "v"
      rw [ww_wd hn]
      refine r_eqS ?_
      rw [decide_eq_true rfl]
      exact k H3
theorem sc_law_read_ratio : FnScope ["_law_word_here", "_law_figures", "_law_due", "_law_found"] ["_law_word_here", "_law_figures"] (defScope s_law_read_ratio) := ⟨rfl, rfl, rfl, by decide +kernel, rfl, by decide +kernel, by decide +kernel⟩
theorem ok_law_read_ratio (F : Fun K "_law_read_ratio" "_law_read_ratio" s_law_read_ratio f fd) (D_law_ratio_due : Dn P w K mg base 2 "_law_ratio_due" ["_law_word_here", "_law_figures"] spRdue) (D_law_refused : Dn P w K mg base 5 "_law_refused" ["_law_word_here", "_law_figures", "_law_whole"] spRefused)
    (DD_read_ratio : DnD CX0 P w K mg base 4 "read_ratio" ["word", "figures"] spRatG 18) (D_read_ratio : Dn P w K mg base 4 "read_ratio" ["word", "figures"] spRatG) (D_law_is_ratio : Dn P w K mg base 3 "_law_is_ratio" ["_law_one"] spIs) (D_ratio_word : Dn P w K mg base 3 "ratio_word" ["one"] spRword) : FnOk P w K mg base CX0 6 f fd ["_law_word_here", "_law_figures"] spReads := by
  refine F.ok sc_law_read_ratio (fun vs H Q E h => ?_) (fun cdv A outer s H vs Q E hr h => ?_)
  · obtain ⟨l, fig, rfl, _⟩ := h
    rfl
  obtain ⟨l, fig, rfl, hl, hf, k⟩ := h
  have hu64 := hr.units
  refine Jd.go ⟨_, (J.e (J.i (i := 2) sc_law_read_ratio.nd rfl (Or.inl rfl) (J.l D_law_ratio_due (hr.mono (by decide)) rfl (J.b (J.a 0) (J.b (J.a 1) J.d st_N) st_N) (he := st_N) (hpl := (anyc st_N any0))) (hs := sw_K))
      (J.e (J.m (J.k op_isN (J.a 2) Jd.pe_non (nomark _))
      (J.g (J.j (J.l D_law_refused (hr.mono (by decide)) rfl (J.b (J.a 0) (J.b (J.a 1) (J.b Jd.pe_bl J.d st_C) st_N) st_N) (he := st_N) (hpl := (anyc st_N (anyc st_C any0))))))
      J.n)
      (J.e (J.m (J.k op_eq (J.a 1) J.c (nomark _))
      (J.g (J.i (i := 3) sc_law_read_ratio.nd rfl (Or.inl rfl) (Jd.pe_dd DD_read_ratio (hr.mono (by decide)) rfl (J.b (J.a 0) J.d st_N) (he := st_N) (hpl := any0)) (hs := sw_K)))
      (J.g (J.i (i := 3) sc_law_read_ratio.nd rfl (Or.inl rfl) (J.l D_read_ratio (hr.mono (by decide)) rfl (J.b (J.a 0) (J.b (J.a 1) J.d st_N) st_N) (he := st_N) (hpl := (anyc st_N any0))) (hs := sw_K))))
      (J.g (J.j (Jd.pe_and (J.l D_law_is_ratio (hr.mono (by decide)) rfl (J.b (J.a 3) J.d st_N) (he := st_N) (hpl := any0)) (Jd.pe_and (J.y (op_eqD hu64) (J.a 3) (J.a 2) (nomark _)) (Jd.pe_one (J.y op_eq (J.l D_ratio_word (hr.mono (by decide)) rfl (J.b (J.a 3) J.d st_N) (he := st_N) (hpl := any0)) (J.a 0) (nomark _)))))))))), ?_⟩
  walk_at "v"
  refine ⟨l, fig, rfl, hl, hf, fun hn H1 s1 => ?_, fun a b hn p H1 s1 e1 => ?_⟩
  · walk_at "v"
    refine ⟨rfl, ?_⟩
    walk_at "v"
    refine iteT ?_
    walk_at "v"
    exact ⟨l, fig, false, rfl, hl, hf, (fun z => nomatch z), fun _ => hn, k⟩
  · obtain ⟨r1, r2, r3, r4, r5⟩ := rw_rd hn
    have za : Sz 8000 a := sz_fig r4 hf
    have zb : Sz 8000 b := by
      rcases r5 with rfl | r5
      · exact sz_fig (fig := 1) (by decide) (by decide)
      · exact sz_fig r5 hf
    walk_at "v"
    refine ⟨rfl, ?_⟩
    walk_at "v"
    refine iteF ?_
    walk_at "v"
    refine ite2 (fun c => ?_) (fun c => ?_)
    · have c' : (fig : Int) = 18 := of_decide_eq_true c
      obtain rfl : fig = 18 := by omega
      walk_at "v"
      refine ⟨l, 18, a, b, rfl, hl, by omega, hn, fun q H2 s2 n2 e2 => ?_⟩
      walk_at "v"
      refine ⟨q, a, b, rfl, e2, zb, fun r H3 s3 hr3 => ?_⟩
      obtain rfl : r = true := hr3.mpr ⟨r2, r3⟩
      walk_at "v"
      refine iteT ?_
      walk_at "v"
      refine ⟨_, _, .tup (s3 _ _ e2) (.cons (.int _) (.cons (.int _) .nil)), .tup ((s2.trans s3) _ _ e1) (.cons (.int _) (.cons (.int _) .nil)), rfl, rfl, ?_⟩
      have eq : PyData.eqv (.tuple [.int a, .int b]) (.tuple [.int a, .int b]) = true := by
        show (a == a && (b == b && true)) = true
        simp
      rw [eq]
      walk_at "v"
      refine iteT ?_
      walk_at "v"
      refine ⟨q, a, b, rfl, s3 _ _ e2, za, zb, fun H4 s4 => ?_⟩
      walk_at "v"
      rw [r1]
      refine r_eqS ?_
      rw [decide_eq_true rfl]
      exact k H4
    · walk_at "v"
      refine ⟨l, fig, a, b, rfl, hl, by omega, hn, fun q H2 s2 n2 e2 => ?_⟩
      walk_at "v"
      refine ⟨q, a, b, rfl, e2, zb, fun r H3 s3 hr3 => ?_⟩
      obtain rfl : r = true := hr3.mpr ⟨r2, r3⟩
      walk_at "v"
      refine iteT ?_
      walk_at "v"
      refine ⟨_, _, .tup (s3 _ _ e2) (.cons (.int _) (.cons (.int _) .nil)), .tup ((s2.trans s3) _ _ e1) (.cons (.int _) (.cons (.int _) .nil)), rfl, rfl, ?_⟩
      have eq : PyData.eqv (.tuple [.int a, .int b]) (.tuple [.int a, .int b]) = true := by
        show (a == a && (b == b && true)) = true
        simp
      rw [eq]
      walk_at "v"
      refine iteT ?_
      walk_at "v"
      refine ⟨q, a, b, rfl, s3 _ _ e2, za, zb, fun H4 s4 => ?_⟩
      walk_at "v"
      rw [r1]
      refine r_eqS ?_
      rw [decide_eq_true rfl]
      exact k H4
theorem sc_law : FnScope ["_law_script", "_law_head", "_law_part", "_law_number", "_law_one", "_law_way", "_law_word_here", "_law_figures"] ["_law_script"] (defScope s_law) := ⟨rfl, rfl, rfl, by decide +kernel, rfl, by decide +kernel, by decide +kernel⟩
noncomputable def Wst (K : PySem.W.Frag) (a : Addr) (ns : List Int) (b : Nat) (σ : St) (H : Hp) : Prop := ∃ (hd on wy : Addr) (pt nm t d : Int) (xs : List Int) (l : List Nat), σ = [some (.ref a), some (.ref hd), some (.int pt), some (.int nm), some (.ref on), some (.ref wy), some (.str (tx l)), none] ∧ SqL K H a (ns.map V.int) ∧
  H on = some (.tup [.int t, .int d]) ∧ 1 ≤ d ∧ Int.gcd t d = 1 ∧ Sz 190 t ∧ Sz 190 d ∧ H wy = some (.lst (xs.map V.int)) ∧ xs.length = ([5, 3, 24, 21, 64, 3, 7, 4] : List Int).length ∧ (∀ (j : Nat) (x z : Int), xs[j]? = some x → ([5, 3, 24, 21, 64, 3, 7, 4] : List Int)[j]? = some z → 0 ≤ x ∧ x < z) ∧ l.length ≤ b
theorem dg60 {n : Int} (h : Sz 190 n) : (dg n.natAbs).length ≤ 60 := dg_len (by decide) (Nat.lt_of_lt_of_le h (by decide +kernel))
theorem rw_len {t d : Int} (zt : Sz 190 t) (zd : Sz 190 d) : (rw_ t d).length ≤ 5000 := by
  have a := ww_len8 (zt.mono (n := 8000) (by decide))
  have b := ww_len8 (zd.mono (n := 8000) (by decide))
  unfold rw_
  split
  · omega
  · rw [List.length_append, List.length_cons]; omega
theorem mul_len (c : Nat) (n : Int) (h0 : 0 ≤ n) : ∃ l', Txt.mul (tx [c]) n = tx l' ∧ l'.length = n.toNat := by
  unfold Txt.mul
  by_cases h : n < 1
  · rw [if_pos h]; exact ⟨[], rfl, by simp; omega⟩
  · rw [if_neg h]
    by_cases h1 : (n == 1 || (tx [c]).length == 0) = true
    · rw [if_pos h1]
      have : n = 1 := by
        rcases Bool.or_eq_true_iff.mp h1 with z | z
        · exact beq_iff_eq.mp z
        · rw [tx_len] at z; cases z
      subst this
      exact ⟨[c], rfl, rfl⟩
    · rw [if_neg h1]
      refine ⟨_, tx_of _, ?_⟩
      have : ∀ (k : Nat) (acc : Array Nat), ((List.replicate k (tx [c]).cps).foldl (· ++ ·) acc).toList.length = acc.size + k := by
        intro k
        induction k with
        | zero => intro acc; simp
        | succ k ih => intro acc; rw [List.replicate_succ, List.foldl_cons, ih]; simp [tx]; omega
      have q := this n.toNat #[]
      simpa using q
theorem ok_law (F : Fun K "law" "law" s_law f fd) (T : Txt mg) (D_law_row : Dn P w K mg base 3 "_law_row" ["_law_script", "_law_place", "_law_sizes"] (spRow K)) (D_law_ratio : Dn P w K mg base 1 "_law_ratio" ["_law_top", "_law_bottom"] spRatio) (D_law_word : Dn P w K mg base 1 "_law_word" ["_law_one"] spWord) (D_law_spoilt : Dn P w K mg base 1 "_law_spoilt" ["_law_word_here", "_law_some"] spSpoilt) (D_law_signs : Dn P w K mg base 4 "_law_signs" ["_law_script", "_law_place", "_law_count"] (spSigns K))
    (D_read_whole : Dn P w K mg base 2 "read_whole" ["word", "figures"] spReadG) (D_whole_word : Dn P w K mg base 2 "whole_word" ["number"] spWhole) (D_read_ratio : Dn P w K mg base 4 "read_ratio" ["word", "figures"] spRatG) (D_ratio_word : Dn P w K mg base 3 "ratio_word" ["one"] spRword) (D_law_read_whole : Dn P w K mg base 6 "_law_read_whole" ["_law_word_here", "_law_figures"] spReads) (D_law_read_ratio : Dn P w K mg base 6 "_law_read_ratio" ["_law_word_here", "_law_figures"] spReads) :
    FnOk P w K mg base CX0 7 f fd ["_law_script"] (spLaw K) := by
  refine F.ok sc_law (fun vs H Q E h => ?_) (fun cdv A outer s H vs Q E hr h => ?_)
  · obtain ⟨a, ns, rfl, _⟩ := h
    rfl
  obtain ⟨a, ns, rfl, hS, hn, k⟩ := h
  have hu64 := hr.units
  refine Jd.go (Jd.cut 7 (Wst K a ns 2000) ?_ fun u hu hR => ?_)
  · refine ⟨_, (J.e (J.m (J.k op_eq (J.h (ixL K) (J.a 5) J.c (fun _ _ => rfl)) J.c (nomark _))
      (J.g (J.i (i := 6) sc_law.nd rfl (Or.inl rfl) (J.aa strC rfl T.str_ PyProof.Rows.boot_str (J.b (J.h (ixT K) (J.a 4) J.c (fun _ _ => rfl)) J.d st_S)) (hs := sw_K)))
      J.n)
      (J.e (J.m (J.k op_eq (J.h (ixL K) (J.a 5) J.c (fun _ _ => rfl)) J.c (nomark _))
      (J.g (J.i (i := 6) sc_law.nd rfl (Or.inl rfl) (J.l D_law_spoilt (hr.mono (by decide)) rfl (J.b (J.a 6) (J.b (J.u (slL K) (J.a 5) (J.t J.c) (J.t J.c)) J.d st_S) st_N) (he := st_N) (hpl := (anyc st_S any0))) (hs := sw_K)))
      J.n)
      (J.e (J.m (J.k op_eq (J.h (ixL K) (J.a 5) J.c (fun _ _ => rfl)) J.c (nomark _))
      (J.g (J.i (i := 6) sc_law.nd rfl (Or.inl rfl) (J.l D_law_signs (hr.mono (by decide)) rfl (J.b (J.a 0) (J.b J.c (J.b (J.h (ixL K) (J.a 5) J.c (fun _ _ => rfl)) J.d st_S) st_C) st_N) (he := st_N) (hpl := (anyc st_C (anyc st_S any0)))) (hs := sw_K)))
      J.n)
      (J.e (J.m (J.k op_eq (J.h (ixL K) (J.a 5) J.c (fun _ _ => rfl)) J.c (nomark _))
      (J.e (J.i (i := 6) sc_law.nd rfl (Or.inl rfl) (J.f op_add_str (J.h (ixL K) (J.v (J.b J.o (J.b J.o (J.b J.o (J.b J.o J.d st_C) st_C) st_C) st_C)) (J.h (ixL K) (J.a 5) J.c (fun _ _ => rfl)) (fun _ _ => rfl)) (J.f op_mulS J.o (J.f op_add J.c (J.f op_mod (J.h (ixL K) (J.a 5) J.c (fun _ _ => rfl)) J.c)))) (hs := sw_B))
      (J.g (J.m (J.k op_eq (J.h (ixL K) (J.a 5) J.c (fun _ _ => rfl)) J.c (nomark _))
      (J.g (J.i (i := 6) sc_law.nd rfl (Or.inl rfl) (J.f op_add_str (J.a 6) (J.f op_mulS J.o (J.f op_sub J.c (J.f op_mod (J.h (ixL K) (J.a 5) J.c (fun _ _ => rfl)) J.c)))) (hs := sw_B)))
      J.n)))
      J.n)
      (J.e (J.i (i := 7) sc_law.nd rfl (Or.inl rfl) (J.h (ixL K) (J.v (J.b J.c (J.b (J.f op_add J.c (J.h (ixL K) (J.a 5) J.c (fun _ _ => rfl))) (J.b J.c J.d st_C) st_B) st_C)) (J.h (ixL K) (J.a 5) J.c (fun _ _ => rfl)) (fun _ _ => rfl)) (hs := sw_S))
      (J.e (J.m (Jd.PWpt (J.s (J.k op_ne (J.l D_read_whole (hr.mono (by decide)) rfl (J.b (J.l D_whole_word (hr.mono (by decide)) rfl (J.b (J.h (ixT K) (J.a 4) J.c (fun _ _ => rfl)) J.d st_S) (he := st_S) (hpl := any0)) (J.b J.c J.d st_C) st_K) (he := st_K) (hpl := (anyc st_C any0))) (J.h (ixT K) (J.a 4) J.c (fun _ _ => rfl)) (nomark _)) (Jd.pw_or1 (J.k (op_neD hu64) (J.l D_read_ratio (hr.mono (by decide)) rfl (J.b (J.l D_ratio_word (hr.mono (by decide)) rfl (J.b (J.a 4) J.d st_N) (he := st_N) (hpl := any0)) (J.b J.c J.d st_C) st_K) (he := st_K) (hpl := (anyc st_C any0))) (J.a 4) (nomark _)))))
      (J.g (J.j Jd.pe_bl))
      J.n)
      (J.g (J.j (Jd.pe_and (J.l D_law_read_whole (hr.mono (by decide)) rfl (J.b (J.a 6) (J.b (J.a 7) J.d st_N) st_N) (he := st_N) (hpl := (anyc st_N any0))) (Jd.pe_one (J.l D_law_read_ratio (hr.mono (by decide)) rfl (J.b (J.a 6) (J.b (J.a 7) J.d st_N) st_N) (he := st_N) (hpl := (anyc st_N any0))))))))))))), ?_⟩
    rintro σ0 H0 W0
    -- the word by turns
    refine seq_cut (Wst K a ns 2000) ?_ fun N hN => ?_
    rotate_left
    · obtain ⟨hd, on, wy, pt, nm, t, d, xs, l, rfl, hS, hon, d1, g1, zt, zd, hwy, hlen, hxs, hl⟩ := W0
      obtain ⟨x0, q0, a0, b0⟩ := row_get hlen hxs 0 rfl
      walk_at "v"
      refine r_l hwy (at_ints q0 rfl) ?_
      walk_at "v"
      refine ite2 (fun c => ?_) (fun c => ?_)
      · walk_at "v"
        refine ⟨_, rfl, log19 (zt.mono (by decide)), ?_⟩
        rw [str_int]
        have := ww_len8 (zt.mono (n := 8000) (by decide))
        exact hN _ _ ⟨hd, on, wy, pt, nm, t, d, xs, ww t, rfl, hS, hon, d1, g1, zt, zd, hwy, hlen, hxs, by
          have h60 := dg60 zt
          unfold ww
          split
          · rw [List.length_cons]; omega
          · omega⟩
      · walk_at "v"
        exact hN _ _ ⟨hd, on, wy, pt, nm, t, d, xs, l, rfl, hS, hon, d1, g1, zt, zd, hwy, hlen, hxs, hl⟩
    clear W0
    rintro σ0 H0 W0
    refine seq_cut (Wst K a ns 2100) ?_ fun N hN => ?_
    rotate_left
    · obtain ⟨hd, on, wy, pt, nm, t, d, xs, l, rfl, hS, hon, d1, g1, zt, zd, hwy, hlen, hxs, hl⟩ := W0
      obtain ⟨x0, q0, a0, b0⟩ := row_get hlen hxs 0 rfl
      obtain ⟨x3, q3, a3, b3⟩ := row_get hlen hxs 3 rfl
      obtain ⟨x4, q4, a4, b4⟩ := row_get hlen hxs 4 rfl
      obtain ⟨x5, q5, a5, b5⟩ := row_get hlen hxs 5 rfl
      walk_at "v"
      refine r_l hwy (at_ints q0 rfl) ?_
      walk_at "v"
      refine ite2 (fun c => ?_) (fun c => ?_)
      · walk_at "vd"
        refine r_slL hwy fun p H1 s1 n1 e1 => ?_
        have e3 : cutV (xs.map V.int) (some 3) (some 6) = [.int x3, .int x4, .int x5] := by
          have h8 : xs.length = 8 := hlen
          have := cut_ab (xs := xs.map V.int) (n := 3) (m := 6) (by decide) (by rw [List.length_map]; omega)
          rw [show ((3 : Nat) : Int) = 3 from rfl, show ((6 : Nat) : Int) = 6 from rfl] at this
          rw [this]
          match xs, h8 with
          | [y0, y1, y2, y3, y4, y5, y6, y7], _ =>
            cases q3; cases q4; cases q5
            rfl
        rw [e3] at e1
        walk_at "v"
        refine ⟨l, p, x3, x4, x5, rfl, e1, a3, b3, a4, by omega, fun l' hl' => ?_⟩
        exact hN _ _ ⟨hd, on, wy, pt, nm, t, d, xs, l', rfl, s1.seq hS, s1 _ _ hon, d1, g1, zt, zd, s1 _ _ hwy, hlen, hxs, by omega⟩
      · walk_at "v"
        exact hN _ _ ⟨hd, on, wy, pt, nm, t, d, xs, l, rfl, hS, hon, d1, g1, zt, zd, hwy, hlen, hxs, by omega⟩
    clear W0
    rintro σ0 H0 W0
    refine seq_cut (Wst K a ns 2100) ?_ fun N hN => ?_
    rotate_left
    · obtain ⟨hd, on, wy, pt, nm, t, d, xs, l, rfl, hS, hon, d1, g1, zt, zd, hwy, hlen, hxs, hl⟩ := W0
      obtain ⟨x0, q0, a0, b0⟩ := row_get hlen hxs 0 rfl
      obtain ⟨x6, q6, a6, b6⟩ := row_get hlen hxs 6 rfl
      walk_at "v"
      refine r_l hwy (at_ints q0 rfl) ?_
      walk_at "v"
      refine ite2 (fun c => ?_) (fun c => ?_)
      · walk_at "v"
        refine r_l hwy (at_ints q6 rfl) ?_
        walk_at "v"
        refine ⟨a, ns, 2, x6, rfl, hS, by decide, by decide, a6, by omega, fun l' H1 s1 hl' => ?_⟩
        exact hN _ _ ⟨hd, on, wy, pt, nm, t, d, xs, l', rfl, s1.seq hS, s1 _ _ hon, d1, g1, zt, zd, s1 _ _ hwy, hlen, hxs, by omega⟩
      · walk_at "v"
        exact hN _ _ ⟨hd, on, wy, pt, nm, t, d, xs, l, rfl, hS, hon, d1, g1, zt, zd, hwy, hlen, hxs, by omega⟩
    clear W0
    rintro σ0 H0 W0
    refine seq_cut (Wst K a ns 5000) ?_ fun N hN => ?_
    rotate_left
    · obtain ⟨hd, on, wy, pt, nm, t, d, xs, l, rfl, hS, hon, d1, g1, zt, zd, hwy, hlen, hxs, hl⟩ := W0
      obtain ⟨x0, q0, a0, b0⟩ := row_get hlen hxs 0 rfl
      obtain ⟨x1, q1, a1, b1⟩ := row_get hlen hxs 1 rfl
      obtain ⟨x2, q2, a2, b2⟩ := row_get hlen hxs 2 rfl
      obtain ⟨x6, q6, a6, b6⟩ := row_get hlen hxs 6 rfl
      obtain ⟨x7, q7, a7, b7⟩ := row_get hlen hxs 7 rfl
      have m2 : 0 ≤ x2 % 4 ∧ x2 % 4 < 4 := ⟨Int.emod_nonneg _ (by decide), Int.emod_lt_of_pos _ (by decide)⟩
      have m6 : 0 ≤ x6 % 2 ∧ x6 % 2 < 2 := ⟨Int.emod_nonneg _ (by decide), Int.emod_lt_of_pos _ (by decide)⟩
      walk_at "v"
      refine r_l hwy (at_ints q0 rfl) ?_
      walk_at "v"
      refine ite2 (fun c => ?_) (fun c => ?_)
      · walk_at "v"
        refine r_new (mk := .lst) (by simp) fun p H1 s1 n1 e1 => ?_
        walk_at "v"
        refine r_l (s1 _ _ hwy) (at_ints q7 rfl) ?_
        obtain ⟨hw, ehw, lhw⟩ : ∃ hw : List Nat, atI [V.str (Str.ofString ""), .str (Str.ofString "-"), .str (Str.ofString "1/"), .str (Str.ofString "-7/")] x7 = some (.str (tx hw)) ∧ hw.length ≤ 3 := by
          rcases (show x7 = 0 ∨ x7 = 1 ∨ x7 = 2 ∨ x7 = 3 by omega) with rfl | rfl | rfl | rfl
          · exact ⟨[], atI_nat (j := 0) (by rw [c_none]; rfl), by decide⟩
          · exact ⟨[45], atI_nat (j := 1) (by rw [c_dash]; rfl), by decide⟩
          · exact ⟨[49, 47], atI_nat (j := 2) (by rw [show Str.ofString "1/" = tx [49, 47] by decide]; rfl), by decide⟩
          · exact ⟨[45, 55, 47], atI_nat (j := 3) (by rw [show Str.ofString "-7/" = tx [45, 55, 47] by decide]; rfl), by decide⟩
        refine r_l e1 ehw ?_
        walk_at "v"
        refine r_l (s1 _ _ hwy) (at_ints q2 rfl) ?_
        walk_at "v"
        rw [show Str.ofString "9" = tx [57] by decide]
        refine ⟨_, 17 + x2 % 4, rfl, rfl, by omega, by rw [tx_len]; simp only [List.length_cons, List.length_nil]; omega, by omega, ?_⟩
        obtain ⟨l9, e9, h9⟩ := mul_len 57 (17 + x2 % 4) (by omega)
        rw [e9]
        refine ⟨_, _, rfl, rfl, by rw [tx_len, tx_len]; exact sizeBig (by omega), ?_⟩
        rw [tx_app]
        walk_at "v"
        refine r_l (s1 _ _ hwy) (at_ints q1 rfl) ?_
        walk_at "v"
        have lb : (hw ++ l9).length ≤ 30 := by rw [List.length_append]; omega
        refine ite2 (fun c => ?_) (fun c => ?_)
        · walk_at "v"
          refine r_l (s1 _ _ hwy) (at_ints q6 rfl) ?_
          walk_at "v"
          refine ⟨_, 1982 - x6 % 2, rfl, rfl, by omega, by rw [tx_len]; simp only [List.length_cons, List.length_nil]; omega, by omega, ?_⟩
          obtain ⟨l8, e8, h8⟩ := mul_len 57 (1982 - x6 % 2) (by omega)
          rw [e8]
          refine ⟨_, _, rfl, rfl, by rw [tx_len, tx_len]; exact sizeBig (by omega), ?_⟩
          rw [tx_app]
          exact hN _ _ ⟨hd, on, wy, pt, nm, t, d, xs, _, rfl, s1.seq hS, s1 _ _ hon, d1, g1, zt, zd, s1 _ _ hwy, hlen, hxs, by rw [List.length_append]; omega⟩
        · walk_at "v"
          exact hN _ _ ⟨hd, on, wy, pt, nm, t, d, xs, _, rfl, s1.seq hS, s1 _ _ hon, d1, g1, zt, zd, s1 _ _ hwy, hlen, hxs, by omega⟩
      · walk_at "v"
        exact hN _ _ ⟨hd, on, wy, pt, nm, t, d, xs, l, rfl, hS, hon, d1, g1, zt, zd, hwy, hlen, hxs, by omega⟩
    clear W0
    rintro σ0 H0 W0
    obtain ⟨hd, on, wy, pt, nm, t, d, xs, l, rfl, hS, hon, d1, g1, zt, zd, hwy, hlen, hxs, hl⟩ := W0
    obtain ⟨x1, q1, a1, b1⟩ := row_get hlen hxs 1 rfl
    obtain ⟨x2, q2, a2, b2⟩ := row_get hlen hxs 2 rfl
    walk_at "v"
    refine r_l hwy (at_ints q2 rfl) ?_
    walk_at "v"
    refine r_new (mk := .lst) (by simp) fun p H1 s1 n1 e1 => ?_
    walk_at "v"
    refine r_l (s1 _ _ hwy) (at_ints q1 rfl) ?_
    obtain ⟨fig, efig, hfig⟩ : ∃ fig : Nat, atI [V.int 18, .int (1 + x2), .int 2000] x1 = some (.int (fig : Int)) ∧ fig ≤ 2000 := by
      rcases (show x1 = 0 ∨ x1 = 1 ∨ x1 = 2 by omega) with rfl | rfl | rfl
      · exact ⟨18, at0, by decide⟩
      · exact ⟨(1 + x2).toNat, by rw [Int.toNat_of_nonneg (by omega)]; exact at1, by omega⟩
      · exact ⟨2000, at2, by decide⟩
    refine r_l e1 efig ?_
    have on1 := s1 _ _ hon
    walk_at "v"
    refine ⟨t, rfl, zt.mono (by decide), fun H2 s2 => ?_⟩
    have on2 := s2 _ _ on1
    have lw := ww_len8 (zt.mono (n := 8000) (by decide))
    walk_at "v"
    refine ⟨ww t, 60, t, rfl, by omega, by decide, wd_ww (dg60 zt), fun H3 s3 => ?_⟩
    have on3 := s3 _ _ on2
    walk_at "v"
    rw [decide_eq_true rfl]
    refine iteF ?_
    walk_at "v"
    refine ⟨on, t, d, rfl, on3, zt.mono (by decide), zd.mono (by decide), fun H4 s4 => ?_⟩
    have on4 := s4 _ _ on3
    have ld := ww_len8 (zd.mono (n := 8000) (by decide))
    walk_at "v"
    refine ⟨rw_ t d, 60, t, d, rfl, by have := rw_len zt zd; omega, by decide, rd_rw d1 g1 (dg60 zt) (dg60 zd), fun q H5 s5 n5 e5 => ?_⟩
    have on5 := s5 _ _ on4
    walk_at "v"
    refine ⟨_, _, .tup e5 (.cons (.int _) (.cons (.int _) .nil)), .tup on5 (.cons (.int _) (.cons (.int _) .nil)), rfl, rfl, ?_⟩
    have eq : PyData.eqv (.tuple [.int t, .int d]) (.tuple [.int t, .int d]) = true := by
      show (t == t && (d == d && true)) = true
      simp
    rw [eq]
    walk_at "v"
    refine iteF ?_
    walk_at "v"
    refine ⟨l, fig, rfl, by omega, hfig, fun H6 => ?_⟩
    walk_at "v"
    refine iteT ?_
    walk_at "v"
    exact ⟨l, fig, rfl, by omega, hfig, k⟩
  refine ⟨_, (J.e (J.i (i := 1) sc_law.nd rfl (Or.inl rfl) (J.l D_law_row (hr.mono (by decide)) rfl (J.b (J.a 0) (J.b J.c (J.b (J.v (J.b J.c (J.b J.c (J.b (J.f op_pow J.c J.c) (J.b (J.f op_pow J.c J.c) (J.b (J.f op_pow J.c J.c) (J.b (J.f op_pow J.c J.c) (J.b J.c (J.b J.c J.d st_C) st_C) st_B) st_B) st_B) st_B) st_C) st_C)) J.d st_L) st_C) st_N) (he := st_N) (hpl := (anyc st_C (anyc st_L any0)))) (hs := sw_K))
      (J.e (J.i (i := 2) sc_law.nd rfl (Or.inl rfl) (J.h (ixL K) (J.v (J.b J.c (J.b (J.f op_add (J.f op_pow J.c J.c) J.c) J.d st_B) st_C)) (J.h (ixL K) (J.a 1) J.c (fun _ _ => rfl)) (fun _ _ => rfl)) (hs := sw_S))
      (J.e (J.i (i := 3) sc_law.nd rfl (Or.inl rfl) (J.f op_add (J.f op_mulB (J.f op_sub (J.h (ixL K) (J.a 1) J.c (fun _ _ => rfl)) (J.f op_mulB J.c (J.f op_pow J.c J.c))) (J.a 2)) (J.f op_mod (J.h (ixL K) (J.a 1) J.c (fun _ _ => rfl)) J.c)) (hs := sw_B))
      (J.e (J.i (i := 3) sc_law.nd rfl (Or.inl rfl) (J.f op_add (J.f op_mulB (J.a 3) (J.h (ixL K) (J.v (J.b J.c (J.b J.c (J.b (J.f op_pow J.c J.c) J.d st_B) st_C) st_C)) (J.h (ixL K) (J.a 1) J.c (fun _ _ => rfl)) (fun _ _ => rfl))) (J.f op_mod (J.h (ixL K) (J.a 1) J.c (fun _ _ => rfl)) (J.h (ixL K) (J.v (J.b J.c (J.b (J.f op_pow J.c J.c) (J.b (J.f op_pow J.c J.c) J.d st_B) st_B) st_C)) (J.h (ixL K) (J.a 1) J.c (fun _ _ => rfl)) (fun _ _ => rfl)))) (hs := sw_B))
      (J.e (J.i (i := 4) sc_law.nd rfl (Or.inl rfl) (J.l D_law_ratio (hr.mono (by decide)) rfl (J.b (J.a 3) (J.b (J.f op_add J.c (J.f op_mod (J.h (ixL K) (J.a 1) J.c (fun _ _ => rfl)) (J.h (ixL K) (J.v (J.b J.c (J.b (J.f op_pow J.c J.c) (J.b (J.f op_pow J.c J.c) (J.b J.c J.d st_C) st_B) st_B) st_C)) (J.h (ixL K) (J.a 1) J.c (fun _ _ => rfl)) (fun _ _ => rfl)))) J.d st_B) st_N) (he := st_N) (hpl := (anyc st_B any0))) (hs := sw_K))
      (J.e (J.i (i := 5) sc_law.nd rfl (Or.inl rfl) (J.l D_law_row (hr.mono (by decide)) rfl (J.b (J.a 0) (J.b J.c (J.b (J.v (J.b J.c (J.b J.c (J.b J.c (J.b J.c (J.b J.c (J.b J.c (J.b J.c (J.b J.c J.d st_C) st_C) st_C) st_C) st_C) st_C) st_C) st_C)) J.d st_L) st_C) st_N) (he := st_N) (hpl := (anyc st_C (anyc st_L any0)))) (hs := sw_K))
      (J.e (J.i (i := 6) sc_law.nd rfl (Or.inl rfl) (J.l D_law_word (hr.mono (by decide)) rfl (J.b (J.a 4) J.d st_N) (he := st_N) (hpl := any0)) (hs := sw_K))
      hu))))))), ?_⟩
  walk_at "v"
  refine r_new (mk := .lst) (by simp) fun l1 H1 s1 n1 e1 => ?_
  walk_at "v"
  refine ⟨a, ns, 0, l1, [2, 2, (10 : Int) ^ (9 : Int).toNat, (10 : Int) ^ (9 : Int).toNat, (10 : Int) ^ (12 : Int).toNat, (10 : Int) ^ (9 : Int).toNat, 4, 3], rfl, s1.seq hS, by decide, by decide, e1, by decide, by decide, fun hd ys H2 s2 n2 e2 hlen hxs => ?_⟩
  obtain ⟨y0, q0, a0, b0⟩ := row_get hlen hxs 0 rfl
  obtain ⟨y2, q2, a2, b2⟩ := row_get hlen hxs 2 rfl
  obtain ⟨y3, q3, a3, b3⟩ := row_get hlen hxs 3 rfl
  obtain ⟨y4, q4, a4, b4⟩ := row_get hlen hxs 4 rfl
  obtain ⟨y5, q5, a5, b5⟩ := row_get hlen hxs 5 rfl
  obtain ⟨y6, q6, a6, b6⟩ := row_get hlen hxs 6 rfl
  obtain ⟨y7, q7, a7, b7⟩ := row_get hlen hxs 7 rfl
  have w : ∀ {H : Hp}, Same H2 H → H hd = some (.lst (ys.map V.int)) := fun s => s _ _ e2
  walk_at "v"
  refine r_new (mk := .lst) (by simp) fun l3 H3 s3 n3 e3 => ?_
  walk_at "v"
  refine r_l (w s3) (at_ints q0 rfl) ?_
  obtain ⟨pt, ept, zpt⟩ := pick (zs := [1, (10 : Int) ^ (9 : Int).toNat + 7]) 40 (by decide +kernel) a0 b0
  refine r_l e3 ept ?_
  walk_at "v"
  refine r_l (w s3) (at_ints q2 rfl) ?_
  have p9 : (10 : Int) ^ (9 : Int).toNat = 1000000000 := by decide
  have p8 : (10 : Int) ^ (8 : Int).toNat = 100000000 := by decide
  have p12 : (10 : Int) ^ (12 : Int).toNat = 1000000000000 := by decide
  rw [p9] at b2 b3 b5
  rw [p12] at b4
  walk_at "v"
  rw [p8]
  have z2 : Sz 40 (y2 - 5 * 100000000) := sz_lt 2000000000 (by omega)
  refine r_I (mulOk z2 zpt) ?_
  have z2p : Sz 80 ((y2 - 5 * 100000000) * pt) := z2.mul zpt
  walk_at "v"
  refine r_l (w s3) (at_ints q3 rfl) ?_
  walk_at "v"
  have m3 : 0 ≤ y3 % 1000 ∧ y3 % 1000 < 1000 := ⟨Int.emod_nonneg _ (by decide), Int.emod_lt_of_pos _ (by decide)⟩
  have z3 : Sz 81 ((y2 - 5 * 100000000) * pt + y3 % 1000) := by
    have h : ((y2 - 5 * 100000000) * pt).natAbs < 2 ^ 80 := z2p
    show ((y2 - 5 * 100000000) * pt + y3 % 1000).natAbs < 2 ^ 81
    generalize (y2 - 5 * 100000000) * pt = q at h ⊢
    omega
  generalize (y2 - 5 * 100000000) * pt + y3 % 1000 = u1 at z3 ⊢
  refine r_new (mk := .lst) (by simp) fun l4 H4 s4 n4 e4 => ?_
  walk_at "v"
  refine r_l (w (s3.trans s4)) (at_ints q7 rfl) ?_
  obtain ⟨sc, esc, zsc⟩ := pick (zs := [1, 1, (10 : Int) ^ (12 : Int).toNat]) 50 (by decide +kernel) a7 b7
  refine r_l e4 esc ?_
  refine r_I (mulOk z3 zsc) ?_
  walk_at "v"
  refine r_l (w (s3.trans s4)) (at_ints q4 rfl) ?_
  walk_at "v"
  refine r_new (mk := .lst) (by simp) fun l5 H5 s5 n5 e5 => ?_
  have s25 := s3.trans (s4.trans s5)
  walk_at "v"
  refine r_l (w s25) (at_ints q7 rfl) ?_
  obtain ⟨md, emd, zmd⟩ := pickP (zs := [10, (10 : Int) ^ (6 : Int).toNat, (10 : Int) ^ (12 : Int).toNat]) (fun z => 0 < z ∧ z ≤ 1000000000000) (by decide +kernel) a7 b7
  refine r_l e5 emd ?_
  refine r_I (show (0 : Int) < md from zmd.1) ?_
  have m4 : 0 ≤ y4 % md ∧ y4 % md < md := ⟨Int.emod_nonneg _ (by omega), Int.emod_lt_of_pos _ zmd.1⟩
  have z4 : Sz 132 (u1 * sc + y4 % md) := by
    have h : (u1 * sc).natAbs < 2 ^ 131 := z3.mul zsc
    show (u1 * sc + y4 % md).natAbs < 2 ^ 132
    generalize u1 * sc = q at h ⊢
    omega
  walk_at "v"
  generalize u1 * sc + y4 % md = u2 at z4 ⊢
  refine r_l (w s25) (at_ints q5 rfl) ?_
  walk_at "v"
  refine r_new (mk := .lst) (by simp) fun l6 H6 s6 n6 e6 => ?_
  have s26 := s25.trans s6
  walk_at "v"
  refine r_l (w s26) (at_ints q6 rfl) ?_
  obtain ⟨me, eme, zme⟩ := pickP (zs := [4, (10 : Int) ^ (9 : Int).toNat, (10 : Int) ^ (9 : Int).toNat, 1]) (fun z => 0 < z ∧ z ≤ 1000000000) (by decide +kernel) a6 b6
  refine r_l e6 eme ?_
  refine r_I (show (0 : Int) < me from zme.1) ?_
  have m5 : 0 ≤ y5 % me ∧ y5 % me < me := ⟨Int.emod_nonneg _ (by omega), Int.emod_lt_of_pos _ zme.1⟩
  have z5 : Sz 132 (1 + y5 % me) := sz_lt 2000000000 (by omega) (by decide +kernel)
  walk_at "v"
  refine ⟨u2, 1 + y5 % me, rfl, by omega, z5.mono (by decide), fun on t d H7 s7 e7 lo => ?_⟩
  have zt : Sz 190 t := (z4.of_le lo.tb).mono (by decide)
  have zd : Sz 190 d := (z5.of_le lo.bb).mono (by decide)
  have s07 := s1.trans (s2.trans (s26.trans s7))
  walk_at "v"
  refine r_new (mk := .lst) (by simp) fun l8 H8 s8 n8 e8 => ?_
  walk_at "v"
  refine ⟨a, ns, 1, l8, [5, 3, 24, 21, 64, 3, 7, 4], rfl, (s07.trans s8).seq hS, by decide, by decide, e8, by decide, by decide, fun wy xs H9 s9 n9 e9 hlen' hxs' => ?_⟩
  have on9 := s9 _ _ (s8 _ _ e7)
  walk_at "v"
  refine ⟨on, t, d, rfl, on9, zt.mono (by decide), zd.mono (by decide), ?_⟩
  refine hR _ _ ⟨hd, on, wy, _, _, t, d, xs, rw_ t d, rfl, (s07.trans (s8.trans s9)).seq hS, on9, lo.pos, lo.co, zt, zd, e9, hlen', hxs', ?_⟩
  have h1 := dg60 zt
  have h2 := dg60 zd
  unfold rw_ ww
  split
  · split
    · rw [List.length_cons]; omega
    · omega
  · rw [List.length_append, List.length_cons]
    split
    · rw [List.length_cons]
      split
      · rw [List.length_cons]; omega
      · omega
    · split
      · rw [List.length_cons]; omega
      · omega
end


theorem all_mk {l : PySem.W.OpenLaw} {w : World} {K : PySem.W.Frag} {h : Heap} {mg : Str → Option Value} {fa : Addr} (X : K.In h) (G : h.Ns mainGlobals mg) (hfa : mg "law" = some (.ref fa)) {tk_HEAD : Tok} {tk_FIGURES : Tok} {c_NoWord : Addr} {c_LathError : Addr} {c_NoRatio : Addr} {c_NoLine : Addr} 
    (h_law_cell : Fx K "_law_cell" s_law_cell)
    (h_law_mix : Fx K "_law_mix" s_law_mix)
    (h_law_row : Fx K "_law_row" s_law_row)
    (h_law_ratio : Fx K "_law_ratio" s_law_ratio)
    (h_law_is_ratio : Fx K "_law_is_ratio" s_law_is_ratio)
    (h_plain_divisor : Fx K "plain_divisor" s_plain_divisor)
    (h_steps_of_heads : Fx K "steps_of_heads" s_steps_of_heads)
    (h_divisor : Fx K "divisor" s_divisor)
    (h_is_fraction : Fx K "is_fraction" s_is_fraction)
    (h_figures_of : Fx K "figures_of" s_figures_of)
    (h_whole_word : Fx K "whole_word" s_whole_word)
    (h_ratio_word : Fx K "ratio_word" s_ratio_word)
    (h_is_whole : Fx K "is_whole" s_is_whole)
    (h_read_whole : Fxd K "read_whole" s_read_whole 18)
    (h_read_ratio : Fxd K "read_ratio" s_read_ratio 18)
    (h_law_whole_due : Fx K "_law_whole_due" s_law_whole_due)
    (h_law_word : Fx K "_law_word" s_law_word)
    (h_law_ratio_due : Fx K "_law_ratio_due" s_law_ratio_due)
    (h_law_signs : Fx K "_law_signs" s_law_signs)
    (h_law_spoilt : Fx K "_law_spoilt" s_law_spoilt)
    (h_law_refused : Fx K "_law_refused" s_law_refused)
    (h_law_read_whole : Fx K "_law_read_whole" s_law_read_whole)
    (h_law_read_ratio : Fx K "_law_read_ratio" s_law_read_ratio)
    (h_law : Fx K "law" s_law)
    (g_HEAD : PySem.W.nsIn K mainGlobals "HEAD" = some (some (.int 256 tk_HEAD)))
    (a_NoWord : PySem.W.nsIn K mainGlobals "NoWord" = some (some (.ref c_NoWord))) (xe_NoWord : PySem.W.excIn K c_NoWord [.type "ValueError", .type "Exception", .type "BaseException", .type "object"] "ValueError.__new__" = true) (xs_NoWord : PySem.W.exmOne K (.ref c_NoWord) (.ref c_NoWord) = some true)
    (a_LathError : PySem.W.nsIn K mainGlobals "LathError" = some (some (.ref c_LathError))) (xe_LathError : PySem.W.excIn K c_LathError [.type "ValueError", .type "Exception", .type "BaseException", .type "object"] "ValueError.__new__" = true) (xs_LathError : PySem.W.exmOne K (.ref c_LathError) (.ref c_LathError) = some true)
    (a_NoRatio : PySem.W.nsIn K mainGlobals "NoRatio" = some (some (.ref c_NoRatio))) (xe_NoRatio : PySem.W.excIn K c_NoRatio [.type "ValueError", .type "Exception", .type "BaseException", .type "object"] "ValueError.__new__" = true) (xs_NoRatio : PySem.W.exmOne K (.ref c_NoRatio) (.ref c_NoRatio) = some true)
    (a_NoLine : PySem.W.nsIn K mainGlobals "NoLine" = some (some (.ref c_NoLine)))
    (gs_FIGURES : PySem.W.nsIn K mainGlobals "FIGURES" = some (some (.str "0123456789" tk_FIGURES)))
    (z_ValueError : PySem.W.nsIn K mainGlobals "ValueError" = some none)
    (z_len : PySem.W.nsIn K mainGlobals "len" = some none)
    (z_abs : PySem.W.nsIn K mainGlobals "abs" = some none)
    (z_range : PySem.W.nsIn K mainGlobals "range" = some none)
    (z_isinstance : PySem.W.nsIn K mainGlobals "isinstance" = some none)
    (z_int : PySem.W.nsIn K mainGlobals "int" = some none)
    (z_bool : PySem.W.nsIn K mainGlobals "bool" = some none)
    (z_tuple : PySem.W.nsIn K mainGlobals "tuple" = some none)
    (z_list : PySem.W.nsIn K mainGlobals "list" = some none)
    (z_max : PySem.W.nsIn K mainGlobals "max" = some none)
    (z_min : PySem.W.nsIn K mainGlobals "min" = some none)
    (z_enumerate : PySem.W.nsIn K mainGlobals "enumerate" = some none)
    (z_zip : PySem.W.nsIn K mainGlobals "zip" = some none)
    (z_all : PySem.W.nsIn K mainGlobals "all" = some none)
    (z_any : PySem.W.nsIn K mainGlobals "any" = some none)
    (z_sum : PySem.W.nsIn K mainGlobals "sum" = some none)
    (z_sorted : PySem.W.nsIn K mainGlobals "sorted" = some none)
    (z_reversed : PySem.W.nsIn K mainGlobals "reversed" = some none)
    (z_str : PySem.W.nsIn K mainGlobals "str" = some none)
    (hok : PySem.W.nsOkIn K cStatics = true)
    (hdg : PySem.W.nsIn K cStatics "sys.int_max_str_digits" = some none)
    (hxq : xqB K c_NoWord = true)
    (hexm : PySem.W.exmOne K (.ref c_NoWord) (.ref c_LathError) = some true)
    (hkt : [PySem.W.kitOne K (.ref c_NoWord) (.ref c_NoLine), PySem.W.kitOne K (.ref c_NoWord) (.ref c_NoRatio), PySem.W.kitOne K (.ref c_NoWord) (.ref c_NoWord), PySem.W.kitOne K (.ref c_NoWord) (.type "ValueError")] = [some false, some false, some true, some true]) :
    ∃ fd : FuncData, (∀ (s : Shared) (v : Value), BindsTo s fd ⟨[v], []⟩ [("_law_script", v)]) ∧ ∀ base : Heap, K.In base → base.Ns mainGlobals mg → FnOk l.prog w K mg base CX0 7 fa fd ["_law_script"] (spLaw K) := by
  obtain ⟨_, fd_law, a_law, F_law⟩ := h_law
  have e := hfa.symm.trans (PySem.W.mg_of X G a_law)
  cases e
  have T : Txt mg := ⟨PySem.W.mg_none_of X G z_len, PySem.W.mg_none_of X G z_abs, PySem.W.mg_none_of X G z_range, PySem.W.mg_none_of X G z_isinstance, PySem.W.mg_none_of X G z_int, PySem.W.mg_none_of X G z_bool, PySem.W.mg_none_of X G z_tuple, PySem.W.mg_none_of X G z_list, PySem.W.mg_none_of X G z_max, PySem.W.mg_none_of X G z_min, PySem.W.mg_none_of X G z_enumerate, PySem.W.mg_none_of X G z_zip, PySem.W.mg_none_of X G z_all, PySem.W.mg_none_of X G z_any, PySem.W.mg_none_of X G z_sum, PySem.W.mg_none_of X G z_sorted, PySem.W.mg_none_of X G z_reversed, PySem.W.mg_none_of X G z_str⟩
  obtain ⟨_, _, a_law_cell, F_law_cell⟩ := h_law_cell
  obtain ⟨_, _, a_law_mix, F_law_mix⟩ := h_law_mix
  obtain ⟨_, _, a_law_row, F_law_row⟩ := h_law_row
  obtain ⟨_, _, a_law_ratio, F_law_ratio⟩ := h_law_ratio
  obtain ⟨_, _, a_law_is_ratio, F_law_is_ratio⟩ := h_law_is_ratio
  obtain ⟨_, _, a_plain_divisor, F_plain_divisor⟩ := h_plain_divisor
  obtain ⟨_, _, a_steps_of_heads, F_steps_of_heads⟩ := h_steps_of_heads
  obtain ⟨_, _, a_divisor, F_divisor⟩ := h_divisor
  obtain ⟨_, _, a_is_fraction, F_is_fraction⟩ := h_is_fraction
  obtain ⟨_, _, a_figures_of, F_figures_of⟩ := h_figures_of
  obtain ⟨_, _, a_whole_word, F_whole_word⟩ := h_whole_word
  obtain ⟨_, _, a_ratio_word, F_ratio_word⟩ := h_ratio_word
  obtain ⟨_, _, a_is_whole, F_is_whole⟩ := h_is_whole
  obtain ⟨_, _, _, a_read_whole, F_read_whole⟩ := h_read_whole
  obtain ⟨_, _, _, a_read_ratio, F_read_ratio⟩ := h_read_ratio
  obtain ⟨_, _, a_law_whole_due, F_law_whole_due⟩ := h_law_whole_due
  obtain ⟨_, _, a_law_word, F_law_word⟩ := h_law_word
  obtain ⟨_, _, a_law_ratio_due, F_law_ratio_due⟩ := h_law_ratio_due
  obtain ⟨_, _, a_law_signs, F_law_signs⟩ := h_law_signs
  obtain ⟨_, _, a_law_spoilt, F_law_spoilt⟩ := h_law_spoilt
  obtain ⟨_, _, a_law_refused, F_law_refused⟩ := h_law_refused
  obtain ⟨_, _, a_law_read_whole, F_law_read_whole⟩ := h_law_read_whole
  obtain ⟨_, _, a_law_read_ratio, F_law_read_ratio⟩ := h_law_read_ratio
  have C_HEAD : Cn mg "HEAD" 256 := ⟨_, PySem.W.mg_of X G g_HEAD⟩
  have X_NoWord : Xc K mg "NoWord" c_NoWord := ⟨PySem.W.mg_of X G a_NoWord, xe_NoWord, xs_NoWord⟩
  have X_LathError : Xc K mg "LathError" c_LathError := ⟨PySem.W.mg_of X G a_LathError, xe_LathError, xs_LathError⟩
  have X_NoRatio : Xc K mg "NoRatio" c_NoRatio := ⟨PySem.W.mg_of X G a_NoRatio, xe_NoRatio, xs_NoRatio⟩
  have XN_NoLine := PySem.W.mg_of X G a_NoLine
  have C_FIGURES : Cs mg "FIGURES" "0123456789" := ⟨_, PySem.W.mg_of X G gs_FIGURES⟩
  have Z_ValueError := PySem.W.mg_none_of X G z_ValueError
  refine ⟨fd_law, fun s v => ?_, fun base _ _ => ?_⟩
  · obtain ⟨_, _, _, _, _, _, _, _, _, rfl, _, _⟩ := F_law.ex
    exact .of_eq rfl
  have D_law_cell := dnm l.prog w base X G a_law_cell F_law_cell (ok_law_cell F_law_cell T) (F_law_cell.binds2 fun _ _ _ _ _ _ _ _ => rfl)
  have D_law_mix := dnm l.prog w base X G a_law_mix F_law_mix (ok_law_mix F_law_mix ) (F_law_mix.binds2 fun _ _ _ _ _ _ _ _ => rfl)
  have D_law_row := dnm l.prog w base X G a_law_row F_law_row (ok_law_row F_law_row T D_law_cell D_law_mix) (F_law_row.binds3 fun _ _ _ _ _ _ _ _ _ => rfl)
  have D_law_ratio := dnm l.prog w base X G a_law_ratio F_law_ratio (ok_law_ratio F_law_ratio T) (F_law_ratio.binds2 fun _ _ _ _ _ _ _ _ => rfl)
  have D_law_is_ratio := dnm l.prog w base X G a_law_is_ratio F_law_is_ratio (ok_law_is_ratio F_law_is_ratio T D_law_ratio) (F_law_is_ratio.binds1 fun _ _ _ _ _ _ _ => rfl)
  have D_plain_divisor := dnm l.prog w base X G a_plain_divisor F_plain_divisor (ok_plain_divisor F_plain_divisor T) (F_plain_divisor.binds2 fun _ _ _ _ _ _ _ _ => rfl)
  have D_steps_of_heads := dnm l.prog w base X G a_steps_of_heads F_steps_of_heads (ok_steps_of_heads F_steps_of_heads C_HEAD) (F_steps_of_heads.binds2 fun _ _ _ _ _ _ _ _ => rfl)
  have D_divisor := dnm l.prog w base X G a_divisor F_divisor (ok_divisor F_divisor T C_HEAD D_plain_divisor D_steps_of_heads) (F_divisor.binds2 fun _ _ _ _ _ _ _ _ => rfl)
  have D_is_fraction := dnm l.prog w base X G a_is_fraction F_is_fraction (ok_is_fraction F_is_fraction D_divisor) (F_is_fraction.binds1 fun _ _ _ _ _ _ _ => rfl)
  have D_figures_of := dnm l.prog w base X G a_figures_of F_figures_of (ok_figures_of F_figures_of T) (F_figures_of.binds1 fun _ _ _ _ _ _ _ => rfl)
  have D_whole_word := dnm l.prog w base X G a_whole_word F_whole_word (ok_whole_word F_whole_word D_figures_of) (F_whole_word.binds1 fun _ _ _ _ _ _ _ => rfl)
  have D_ratio_word := dnm l.prog w base X G a_ratio_word F_ratio_word (ok_ratio_word F_ratio_word D_whole_word) (F_ratio_word.binds1 fun _ _ _ _ _ _ _ => rfl)
  have D_is_whole := dnm l.prog w base X G a_is_whole F_is_whole (ok_is_whole F_is_whole T C_FIGURES) (F_is_whole.binds2 fun _ _ _ _ _ _ _ _ => rfl)
  have BB_read_whole := F_read_whole.binds (fun _ _ _ _ _ _ _ _ _ => ⟨_, rfl, rfl⟩) (fun _ _ _ _ _ _ _ _ => ⟨_, rfl, rfl⟩)
  have DDX_read_whole : DnD (CXe l.prog w) l.prog w K mg base 2 "read_whole" ["word", "figures"] (spReadX c_NoWord) 18 := ⟨_, _, _, okX_read_whole F_read_whole T X_NoWord hok hdg D_is_whole, PySem.W.mg_of X G a_read_whole, F_read_whole.kp, BB_read_whole.1, BB_read_whole.2⟩
  have DX_read_whole := DDX_read_whole.twoX
  have BB_read_whole := F_read_whole.binds (fun _ _ _ _ _ _ _ _ _ => ⟨_, rfl, rfl⟩) (fun _ _ _ _ _ _ _ _ => ⟨_, rfl, rfl⟩)
  have DD_read_whole : DnD CX0 l.prog w K mg base 2 "read_whole" ["word", "figures"] spReadG 18 := ⟨_, _, _, ok_read_whole F_read_whole T hok hdg D_is_whole, PySem.W.mg_of X G a_read_whole, F_read_whole.kp, BB_read_whole.1, BB_read_whole.2⟩
  have D_read_whole := DD_read_whole.two
  have BB_read_ratio := F_read_ratio.binds (fun _ _ _ _ _ _ _ _ _ => ⟨_, rfl, rfl⟩) (fun _ _ _ _ _ _ _ _ => ⟨_, rfl, rfl⟩)
  have DDX_read_ratio : DnD (CXe l.prog w) l.prog w K mg base 4 "read_ratio" ["word", "figures"] (spRatX c_NoWord) 18 := ⟨_, _, _, okX_read_ratio F_read_ratio X_NoWord DDX_read_whole.twoX D_is_fraction, PySem.W.mg_of X G a_read_ratio, F_read_ratio.kp, BB_read_ratio.1, BB_read_ratio.2⟩
  have DX_read_ratio := DDX_read_ratio.twoX
  have BB_read_ratio := F_read_ratio.binds (fun _ _ _ _ _ _ _ _ _ => ⟨_, rfl, rfl⟩) (fun _ _ _ _ _ _ _ _ => ⟨_, rfl, rfl⟩)
  have DD_read_ratio : DnD CX0 l.prog w K mg base 4 "read_ratio" ["word", "figures"] spRatG 18 := ⟨_, _, _, ok_read_ratio F_read_ratio DD_read_whole.two D_is_fraction, PySem.W.mg_of X G a_read_ratio, F_read_ratio.kp, BB_read_ratio.1, BB_read_ratio.2⟩
  have D_read_ratio := DD_read_ratio.two
  have D_law_whole_due := dnm l.prog w base X G a_law_whole_due F_law_whole_due (ok_law_whole_due F_law_whole_due T hok hdg) (F_law_whole_due.binds2 fun _ _ _ _ _ _ _ _ => rfl)
  have D_law_word := dnm l.prog w base X G a_law_word F_law_word (ok_law_word F_law_word T) (F_law_word.binds1 fun _ _ _ _ _ _ _ => rfl)
  have D_law_ratio_due := dnm l.prog w base X G a_law_ratio_due F_law_ratio_due (ok_law_ratio_due F_law_ratio_due D_law_whole_due D_law_ratio) (F_law_ratio_due.binds2 fun _ _ _ _ _ _ _ _ => rfl)
  have D_law_signs := dnm l.prog w base X G a_law_signs F_law_signs (ok_law_signs F_law_signs D_law_row) (F_law_signs.binds3 fun _ _ _ _ _ _ _ _ _ => rfl)
  have D_law_spoilt := dnm l.prog w base X G a_law_spoilt F_law_spoilt (ok_law_spoilt F_law_spoilt T) (F_law_spoilt.binds2 fun _ _ _ _ _ _ _ _ => rfl)
  have D_law_refused := dnm l.prog w base X G a_law_refused F_law_refused (ok_law_refused F_law_refused T Z_ValueError X_LathError X_NoRatio X_NoWord XN_NoLine (xq_of hxq) hexm hkt DDX_read_whole DDX_read_ratio DX_read_whole DX_read_ratio) (F_law_refused.binds3 fun _ _ _ _ _ _ _ _ _ => rfl)
  have D_law_read_whole := dnm l.prog w base X G a_law_read_whole F_law_read_whole (ok_law_read_whole F_law_read_whole T D_law_whole_due D_law_refused DD_read_whole D_read_whole D_whole_word) (F_law_read_whole.binds2 fun _ _ _ _ _ _ _ _ => rfl)
  have D_law_read_ratio := dnm l.prog w base X G a_law_read_ratio F_law_read_ratio (ok_law_read_ratio F_law_read_ratio D_law_ratio_due D_law_refused DD_read_ratio D_read_ratio D_law_is_ratio D_ratio_word) (F_law_read_ratio.binds2 fun _ _ _ _ _ _ _ _ => rfl)
  exact ok_law F_law T D_law_row D_law_ratio D_law_word D_law_spoilt D_law_signs D_read_whole D_whole_word D_read_ratio D_ratio_word D_law_read_whole D_law_read_ratio
theorem walk {l : PySem.W.OpenLaw} {q : Program} {loose : List Str} {XP : (Str → Option Value) → Heap → Prop} {YP : World → Heap → Prop} {d : DefRec} {K : Params → PySem.W.Frag} (hn : l.most = some 63) (hdf : d.params.defaults = [])
    (hY : ∀ (w : World) (h : Heap), YP w h → (K w.params).In h)
    (F : ∀ (w : World) (mg : Str → Option Value) (fa : Addr) (h : Heap), (K w.params).In h → h.Ns mainGlobals mg → mg d.name = some (.ref fa) →
      ∃ fd : FuncData, (∀ (s : Shared) (u : Value), BindsTo s fd ⟨[u], []⟩ [("_law_script", u)]) ∧ ∀ base : Heap, (K w.params).In base → base.Ns mainGlobals mg → FnOk l.prog w (K w.params) mg base CX0 7 fa fd ["_law_script"] (spLaw (K w.params))) :
    PySem.W.WalkO q loose XP YP l.row.toRowW d [] (fun f vs => PySem.call f vs) :=
  L2.walk_of (n := 63) (k := 7) (x := "_law_script") (CX := fun _ => CX0) (sp := fun w => spLaw (K w.params)) hn (by decide) hdf ⟨rfl, by decide, by decide⟩ hY F (fun _ _ a ns hl _ hS => ⟨a, ns, rfl, hS, hl, fun _ => rfl⟩) fun _ _ _ _ _ z => z
end Lw
open PySem PySem.W PyProof.Rows
set_option maxRecDepth 100000 in
set_option maxHeartbeats 0 in
theorem PySem.Challenge.cw_lath_k84_whole_words_holds : PySem.Challenge.rw_lath_k84_whole_words.Holds := by
  w_on; o_law; k_head; (case hw => w_witness2)
  k_fill
  refine Lw.walk (l := PySem.Challenge.rw_lath_k84_whole_words) rfl rfl (fun w h Y => PySem.W.kIn_of Y) ?F
  case F =>
    intro w mg fa h KX G hmg
    refine' Lw.all_mk KX G hmg ?a0 ?a1 ?a2 ?a3 ?a4 ?a5 ?a6 ?a7 ?a8 ?a9 ?a10 ?a11 ?a12 ?a13 ?a14 ?a15 ?a16 ?a17 ?a18 ?a19 ?a20 ?a21 ?a22 ?a23 ?a24 ?a25 ?a26 ?a27 ?a28 ?a29 ?a30 ?a31 ?a32 ?a33 ?a34 ?a35 ?a36 ?a37 ?a38 ?a39 ?a40 ?a41 ?a42 ?a43 ?a44 ?a45 ?a46 ?a47 ?a48 ?a49 ?a50 ?a51 ?a52 ?a53 ?a54 ?a55 ?a56 ?a57 ?a58 ?a59
    (case a0 => walk_at "fz"); (case a1 => walk_at "fz"); (case a2 => walk_at "fz"); (case a3 => walk_at "fz"); (case a4 => walk_at "fz"); (case a5 => walk_at "fz"); (case a6 => walk_at "fz"); (case a7 => walk_at "fz"); (case a8 => walk_at "fz"); (case a9 => walk_at "fz"); (case a10 => walk_at "fz"); (case a11 => walk_at "fz"); (case a12 => walk_at "fz"); (case a13 => walk_at "fz"); (case a14 => walk_at "fz"); (case a15 => walk_at "fz"); (case a16 => walk_at "fz"); (case a17 => walk_at "fz"); (case a18 => walk_at "fz"); (case a19 => walk_at "fz"); (case a20 => walk_at "fz"); (case a21 => walk_at "fz"); (case a22 => walk_at "fz"); (case a23 => walk_at "fz"); (case a24 => walk_at "fz"); (case a25 => walk_at "fz"); (case a26 => walk_at "fz"); (case a27 => walk_at "fz"); (case a28 => walk_at "fz"); (case a29 => walk_at "fz"); (case a30 => walk_at "fz"); (case a31 => walk_at "fz"); (case a32 => walk_at "fz"); (case a33 => walk_at "fz"); (case a34 => walk_at "fz"); (case a35 => walk_at "fz"); (case a36 => walk_at "fz"); (case a37 => walk_at "fz"); (case a38 => walk_at "fz"); (case a39 => walk_at "fz"); (case a40 => walk_at "fz"); (case a41 => walk_at "fz"); (case a42 => walk_at "fz"); (case a43 => walk_at "fz"); (case a44 => walk_at "fz"); (case a45 => walk_at "fz"); (case a46 => walk_at "fz"); (case a47 => walk_at "fz"); (case a48 => walk_at "fz"); (case a49 => walk_at "fz"); (case a50 => walk_at "fz"); (case a51 => walk_at "fz"); (case a52 => walk_at "fz"); (case a53 => walk_at "fz"); (case a54 => walk_at "fz"); (case a55 => kernel_rfl); (case a56 => kernel_rfl); (case a57 => kernel_rfl); (case a58 => kernel_rfl); (case a59 => kernel_rfl)

