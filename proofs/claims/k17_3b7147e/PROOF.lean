import PyProof.Rows.All
import Wide.All
import OpenK.AllK
import Wide.FinOn
import Lean
import PyProof.EqAt
import PyProof.EqKinds
import PyProof.TupleCall
import PySem.Challenge.RW_lath_k17_refusals
set_option Elab.async false
set_option linter.all false
set_option maxRecDepth 100000
theorem au0_ (h : 1 = 1 := by rfl) : 1 = 1 := h
theorem au1_ (h : 1 = 1 := by decide) : 1 = 1 := h
theorem au2_ (h : 1 = 1 := by intro _; rfl) : 1 = 1 := h

namespace PySem.W.Fast
def tw4386733426682538891 := ()
def tw3982328199886246540 := ()
def tw14638050640061002816 := ()
def tw13774450045418534976 := ()
def tw11022679473531313408 := ()
def tw8497142149580670560 := ()
def tw8605659875595699840 := ()
def tw11790468696858036096 := ()
def tw17685263247615265760 := ()
def tw15487313643380457473 := ()
def tw8406072093313148001 := ()
def tw8909052853934360833 := ()
def tw13797776343391517985 := ()
def tw4009699358161673569 := ()
def tw15451499042801797793 := ()
def tw5065647070116004609 := ()
def tw10947861241736922945 := ()
def tw1223746613045800897 := ()
def tw15118201030462764066 := ()
def tw1052300355396078850 := ()
def tw2491047110326693282 := ()
def tw8355101547990781442 := ()
def tw6890213836419595810 := ()
def tw15081517384620125187 := ()
def tw11369552257860675 := ()
def tw17165714713134378243 := ()
def tw8938956716925269347 := ()
def tw6564331861287097731 := ()
def tw3025028422716844515 := ()
def tw17769735681967673891 := ()
def tw3100161632530909763 := ()
def tw1177062959403865859 := ()
def tw6345722625722891107 := ()
def tw14205086672837960579 := ()
def tw7006675662899048387 := ()
def tw717005449017698308 := ()
def tw6055430512597218340 := ()
def tw12083222152170513476 := ()
def tw5034294742364603524 := ()
def tw15567396893884021892 := ()
def tw18176204684058994980 := ()
def tw10206582423746567492 := ()
def tw3863721487371479364 := ()
def tw2305011919774961988 := ()
def tw17884216300195422692 := ()
def tw10330048904080004676 := ()
def tw4833014438366583588 := ()
def tw8710726700297362244 := ()
def tw17264511658562442180 := ()
def tw4686856793152042980 := ()
def tw13671001384462992389 := ()
def tw3289453060090939429 := ()
def tw16006958823702641861 := ()
def tw465570252630095109 := ()
def tw16331104557274895717 := ()
def tw13769729007081928197 := ()
def tw4674868770291333701 := ()
def tw8702536624115089061 := ()
def tw230377475653328581 := ()
def tw9240619706955404069 := ()
def tw13986231257261933381 := ()
def tw5596749419176115206 := ()
def tw10929453147852375142 := ()
def tw4898124089449073766 := ()
def tw12682681579495783558 := ()
def tw15775628509611095558 := ()
def tw14149806275440754278 := ()
def tw11156773760970677894 := ()
def tw1652916418241074886 := ()
def tw10933542316968390374 := ()
def tw12389371440963573734 := ()
def tw14232372936513032359 := ()
def tw15098664056408639911 := ()
def tw15989432832108223911 := ()
def tw10443493662992074215 := ()
def tw6621971223462513127 := ()
def tw817042661276587527 := ()
def tw1542064811220457159 := ()
def tw4216554362892165031 := ()
def tw12008338477310373863 := ()
def tw17769369973151749160 := ()
def tw16487538122635154472 := ()
def tw8029819746888821896 := ()
def tw16198917862204849480 := ()
def tw17948307628216855976 := ()
def tw12609309889592927688 := ()
def tw3485713485499022824 := ()
def tw1102981377171259112 := ()
def tw10664631111839860584 := ()
def tw8739805160262331272 := ()
def tw227815450590067688 := ()
def tw16553716861795569737 := ()
def tw17310625982408593545 := ()
def tw1347966109162831177 := ()
def tw617373294887521705 := ()
def tw6617445647794198249 := ()
def tw17440477251810469673 := ()
def tw316802684941428553 := ()
def tw15222812949361319817 := ()
def tw14244175296234279849 := ()
def tw10392021830851313834 := ()
def tw14373069634266234186 := ()
def tw4356404290414538058 := ()
def tw10538603542275385770 := ()
def tw12847082693024451082 := ()
def tw4718008636329233194 := ()
def tw8440500273130130250 := ()
def tw10456423332351785962 := ()
def tw4725130123931572235 := ()
def tw8151389725773933739 := ()
def tw13612130952286272683 := ()
def tw10968850143430530347 := ()
def tw2070436757630243147 := ()
def tw12584228543810065803 := ()
def tw3185139563316730283 := ()
def tw11211365457410862571 := ()
def tw10994071826730054507 := ()
def tw4927178622517782507 := ()
def tw8188016465609495852 := ()
def tw17610514820381550252 := ()
def tw8687888145151077228 := ()
def tw1132696648441867469 := ()
def tw99110847552099629 := ()
def tw16686704755109038413 := ()
def tw16499111942694006189 := ()
def tw6907314170734930541 := ()
def tw3152725777703323277 := ()
def tw16227247152635531981 := ()
def tw16768810671902421709 := ()
def tw15023940060255928366 := ()
def tw11112882930491094126 := ()
def tw8729950850212519118 := ()
def tw7522452018737925422 := ()
def tw16323824547934341646 := ()
def tw6361094224174819982 := ()
def tw6165950310243627790 := ()
def tw14586466699821222959 := ()
def tw11380009944529199247 := ()
def tw545312498827416879 := ()
def tw12566354558484552111 := ()
def tw1472745606125002191 := ()
def tw2665839267989626415 := ()
def tw6556127140410694319 := ()
def tw3618502589652010703 := ()
def tw13473953921441701936 := ()
def tw14780058798316647504 := ()
def tw394499573997841552 := ()
def tw4503989319233817744 := ()
def tw2785409453742675216 := ()
def tw13012709644132734288 := ()
def tw16255309267371174288 := ()
def tw17983986816235648464 := ()
def tw15313149331663204848 := ()
def tw12237666438959558192 := ()
def tw1164644001311706800 := ()
def tw18052768719649816304 := ()
def tw18137212251192644400 := ()
def tw14409330759225885520 := ()
def tw13724328632399797072 := ()
def tw16856297341404360528 := ()
def tw9469360387410011056 := ()
def tw8302162983096891312 := ()
def tw11010522238537898960 := ()
def tw6366077041502658641 := ()
def tw11452824307934418001 := ()
def tw7464186025866221649 := ()
def tw10126870671640038961 := ()
def tw8276650506745522737 := ()
def tw7799599263370055217 := ()
def tw6772525758449707601 := ()
def tw11381391287136629329 := ()
def tw10323515721996370545 := ()
def tw13428485406289375921 := ()
def tw8165817079850655441 := ()
def tw16686601589184627569 := ()
def tw13152824617333127121 := ()
def tw13617103454514690033 := ()
def tw17069202007266409522 := ()
def tw16886510580994424050 := ()
def tw15934562291407135058 := ()
def tw13941794459446797778 := ()
def tw2547591657715369650 := ()
def tw6517838170703484786 := ()
def tw12282988791948027794 := ()
def tw339728244357714834 := ()
def tw565086631986529234 := ()
def tw10671144793603115123 := ()
def tw16937518272635642003 := ()
def tw17251150705128022323 := ()
def tw383981181615507923 := ()
def tw9245675943117425459 := ()
def tw2907343468138089363 := ()
def tw14061158292077084724 := ()
def tw3593846804359638228 := ()
def tw11586828790092299572 := ()
def tw2440751086876540372 := ()
def tw17891730655107746356 := ()
def tw11935637005659448308 := ()
def tw6310457597258827893 := ()
def tw16796027240721658101 := ()
def tw793819521318273301 := ()
def tw17350487345218327861 := ()
def tw17781123688894048597 := ()
def tw15609769688715777365 := ()
def tw13559265782118209877 := ()
def tw17678676919713267253 := ()
def tw16162589192696269461 := ()
def tw409845778279759669 := ()
def tw7284150851442980821 := ()
def tw8452696130553875478 := ()
def tw8701126347200982134 := ()
def tw17785030633951547542 := ()
def tw2268856075373210870 := ()
def tw5035832095127196950 := ()
def tw1360546787893681494 := ()
def tw473261822111967126 := ()
def tw9144198884979922007 := ()
def tw3905356521519252023 := ()
def tw6790770583036753495 := ()
def tw17854116450480989879 := ()
def tw18306823690814940855 := ()
def tw14140984709129586615 := ()
def tw7061795929823500344 := ()
def tw4141036105127392600 := ()
def tw5180330853965730136 := ()
def tw17549918324676941208 := ()
def tw6931315140761427448 := ()
def tw7245155884265413144 := ()
def tw15146558601891464824 := ()
def tw1200100270345229208 := ()
def tw8226010532601350201 := ()
def tw11208617020672384185 := ()
def tw4105513794850170105 := ()
def tw13798107986056903097 := ()
def tw17315575922698859161 := ()
def tw16234292286978630329 := ()
def tw5949686915806908153 := ()
def tw11243235091754222361 := ()
def tw12717126983165017913 := ()
def tw5582153769942968217 := ()
def tw12012019507485403129 := ()
def tw7982812789166145626 := ()
def tw1815082047642208634 := ()
def tw1583744572540626298 := ()
def tw1311156049108659610 := ()
def tw4184879964198650939 := ()
def tw11930707749762037243 := ()
def tw7311075624473952827 := ()
def tw7947332096903672603 := ()
def tw17344083398633486171 := ()
def tw7836762446165020700 := ()
def tw12373791415047022748 := ()
def tw11202297917904285020 := ()
def tw1589864945586720284 := ()
def tw338599935250612956 := ()
def tw10111604021896313949 := ()
def tw13555534437655817373 := ()
def tw17845872685610860957 := ()
def tw2079624532728357469 := ()
def tw12596236674232969949 := ()
def tw3508581885092347645 := ()
def tw69608404207973406 := ()
def tw9167000605386361918 := ()
def tw1976800985448023134 := ()
def tw15365228676414235742 := ()
def tw2955788051491573886 := ()
def tw6451760893251851454 := ()
def tw17805180998154445086 := ()
def tw4323587201044727134 := ()
def tw13224783154531181982 := ()
def tw15084405945050393054 := ()
def tw15511706469816403454 := ()
def tw3806823955304317470 := ()
def tw8453494373402104350 := ()
def tw161518220861940446 := ()
def tw15839158267780763390 := ()
def tw773101760430479230 := ()
def tw2080335290401220510 := ()
def tw6895824071883946974 := ()
def tw11773239340974607423 := ()
def tw1023533005030984991 := ()
def tw15562578057399904607 := ()
def tw6725577712288983391 := ()
def tw9694310206411062943 := ()
def tw489072733338188607 := ()
def tw12320784443024907135 := ()
def tw5617666625046791135 := ()
def tw12908347936767202303 := ()
end PySem.W.Fast

namespace L2
open PySem PySem.Spec PyProof.Rows

noncomputable abbrev Key := Sum Int Str
noncomputable def keyIs : Key → Value → Bool
  | .inl k, v => Value.isInt k v
  | .inr x, v => Value.isStrOf x v
noncomputable def keyH (w : World) : Key → Int
  | .inl k => hashInt k
  | .inr x => hashStr w x
theorem keyIs_shape : ∀ {k : Key} {v : Value}, keyIs k v = true → (∃ i t, k = Sum.inl i ∧ v = Value.int i t) ∨ (∃ x t, k = Sum.inr x ∧ v = Value.str x t)
  | .inl i, v, h => by
    obtain ⟨t, e⟩ := Value.isInt_shape (k := i) (v := v) h
    exact .inl ⟨i, t, rfl, e⟩
  | .inr x, v, h => by
    obtain ⟨t, e⟩ := Value.isStrOf_shape (x := x) (v := v) h
    exact .inr ⟨x, t, rfl, e⟩
theorem key_ll (a b : Int) : decide ((Sum.inl a : Key) = Sum.inl b) = (a == b) := by
  by_cases e : a = b
  · subst e; simp
  · have h : ¬ (Sum.inl a : Key) = Sum.inl b := fun q => e (Sum.inl.inj q)
    rw [decide_eq_false h]
    exact (beq_eq_false_iff_ne.mpr e).symm
theorem key_rr (a b : Str) : decide ((Sum.inr a : Key) = Sum.inr b) = decide (a = b) := by
  by_cases e : a = b
  · subst e; simp
  · have h : ¬ (Sum.inr a : Key) = Sum.inr b := fun q => e (Sum.inr.inj q)
    rw [decide_eq_false h, decide_eq_false e]
theorem key_lr (a : Int) (b : Str) : decide ((Sum.inl a : Key) = Sum.inr b) = false := decide_eq_false (fun q => nomatch q)
theorem key_rl (a : Str) (b : Int) : decide ((Sum.inr a : Key) = Sum.inl b) = false := decide_eq_false (fun q => nomatch q)

noncomputable def mixKind (prog : Program) (w : World) : PySem.KeyKind prog w Key where
  is := keyIs
  hash := keyH w
  inj := fun v a b ha hb => by
    rcases keyIs_shape ha with ⟨i, t, rfl, rfl⟩ | ⟨x, t, rfl, rfl⟩
    · rcases keyIs_shape hb with ⟨j, u, rfl, e⟩ | ⟨y, u, rfl, e⟩
      · injection e with e1 _; rw [e1]
      · exact nomatch e
    · rcases keyIs_shape hb with ⟨j, u, rfl, e⟩ | ⟨y, u, rfl, e⟩
      · exact nomatch e
      · injection e with e1 _; rw [e1]
  byValue := fun k v h => by
    rcases keyIs_shape h with ⟨i, t, rfl, rfl⟩ | ⟨x, t, rfl, rfl⟩ <;> rfl
  pyHash := fun hv h => by
    rcases keyIs_shape hv with ⟨i, t, rfl, rfl⟩ | ⟨x, t, rfl, rfl⟩
    · exact wpAny_pyHash_int h
    · exact wpAny_pyHash_str h
  eqBool := fun hu hv h => by
    rcases keyIs_shape hu with ⟨i, t, rfl, rfl⟩ | ⟨x, t, rfl, rfl⟩
    · rcases keyIs_shape hv with ⟨j, u, rfl, rfl⟩ | ⟨y, u, rfl, rfl⟩
      · rw [key_ll] at h; exact wpAny_eqBool_int h
      · rw [key_lr] at h; exact SeqAt.EqAt.int_str i t y u _ _ _ _ h
    · rcases keyIs_shape hv with ⟨j, u, rfl, rfl⟩ | ⟨y, u, rfl, rfl⟩
      · rw [key_rl] at h; exact SeqAt.EqAt.str_int x t j u _ _ _ _ h
      · rw [key_rr] at h; exact wpAny_eqBool_str h
  «strs» := fun k x t v h => by
    rcases keyIs_shape h with ⟨i, u, rfl, e⟩ | ⟨y, u, rfl, e⟩
    · exact nomatch e
    · injection e with e1 _
      subst e1
      cases v <;> rfl

end L2

namespace L2
open PySem PySem.Spec PyProof.Rows

inductive V where
  | non | bl (b : Bool) | int (i : Int) | str (x : Str) | byt (b : Array UInt8) | flt (b : UInt64) | ref (a : Addr) | ty (n : String)
  deriving DecidableEq

noncomputable def RelV : V → Value → Prop
  | .non, u => u = Value.none
  | .bl b, u => u = Value.bool b
  | .int i, u => ∃ t, u = Value.int i t
  | .str x, u => ∃ t, u = Value.str x t
  | .byt b, u => ∃ t, u = Value.bytes b t
  | .flt b, u => ∃ t, u = Value.float b t
  | .ref a, u => u = Value.ref a
  | .ty n, u => u = Value.type n

noncomputable abbrev Vals : List V → List Value → Prop := Paired RelV
theorem Vals.length {xs : List V} {us : List Value} (r : Vals xs us) : xs.length = us.length := Paired.length r
theorem Vals.get : ∀ {xs : List V} {us : List Value} {i : Nat} {x : V}, Vals xs us → xs[i]? = some x → ∃ u, us[i]? = some u ∧ RelV x u
  | _, _, _, _, .nil, e => by simp at e
  | _, _, 0, _, .cons r _, e => by simp at e; subst e; exact ⟨_, rfl, r⟩
  | _, _, i + 1, x, .cons _ t, e => by
    obtain ⟨u, h1, h2⟩ := Vals.get (i := i) (x := x) t (by simpa using e)
    exact ⟨u, by simpa using h1, h2⟩
theorem Vals.append : ∀ {xs ys : List V} {us ws : List Value}, Vals xs us → Vals ys ws → Vals (xs ++ ys) (us ++ ws)
  | _, _, _, _, .nil, s => s
  | _, _, _, _, .cons r t, s => .cons r (Vals.append t s)
theorem Vals.take : ∀ {xs : List V} {us : List Value} (n : Nat), Vals xs us → Vals (xs.take n) (us.take n)
  | _, _, 0, _ => .nil
  | _, _, _ + 1, .nil => .nil
  | _, _, n + 1, .cons r t => .cons r (Vals.take n t)
theorem Vals.drop : ∀ {xs : List V} {us : List Value} (n : Nat), Vals xs us → Vals (xs.drop n) (us.drop n)
  | _, _, 0, r => r
  | _, _, _ + 1, .nil => .nil
  | _, _, n + 1, .cons _ t => Vals.drop n t
noncomputable def RelO : Option V → Option Value → Prop
  | some v, some u => RelV v u
  | none, none => True
  | _, _ => False
noncomputable def KV {κ : Type} : List (κ × V) → List (κ × Value) → Prop := Paired fun (p : κ × V) (q : κ × Value) => p.1 = q.1 ∧ RelV p.2 q.2

noncomputable def kV : Key → V
  | .inl i => .int i
  | .inr x => .str x

inductive HO where
  /-- a list -/
  | lst (xs : List V)
  /-- a tuple (never changes) -/
  | tup (xs : List V)
  /-- a dict whose keys are ints and texts; one whose keys are tuples of ints and texts (the empty one is both) -/
  | dK (kvs : List (Key × V)) | dT (kvs : List (List Key × V))
  /-- a set of ints: its members, its size -/
  | set (S : Int → Bool) (n : Nat)
  /-- an instance of the class at C, its dict at dx, its attributes -/
  | ins (C dx : Addr) (fs : List (Str × V))
  /-- the dict of the instance at x -/
  | own (x : Addr)
  /-- the dict of an exception -/
  | xd (fs : List (Str × V))
  /-- a bound method, f of x -/
  | met (f x : Addr)
  /-- a range object lo, lo + 1, .. below hi -/
  | rng (lo hi : Int)
  /-- a thing that is known to the object (the script; a dict while a loop walks it): read, never written while it is so -/
  | frz (o : Obj) (u : HO)
  /-- a code object's table -/
  | tbl (ps : Array Value)
  /-- any other thing, by what is true of its one object (a def of one's own: SetO a S n := HO.ext fun h => ..) -/
  | ext (φ : Heap → Prop)

noncomputable abbrev Hp := Addr → Option HO
noncomputable def upd (H : Hp) (a : Addr) (o : HO) : Hp := fun b => if b = a then some o else H b
theorem upd_same {H : Hp} {a : Addr} {o : HO} : upd H a o a = some o := by unfold upd; rw [if_pos rfl]
theorem upd_ne {H : Hp} {a b : Addr} {o : HO} (h : b ≠ a) : upd H a o b = H b := by unfold upd; rw [if_neg h]
theorem ne_of_none {H : Hp} {a b : Addr} {o : HO} (h : H a = some o) (h' : H b = none) : a ≠ b := by
  intro e; subst e; rw [h] at h'; cases h'

section
variable (P : Program) (w : World)
noncomputable def ObjOk (H : Hp) (h : Heap) (a : Addr) : HO → Prop
  | .lst xs => xs.length ≤ sizeLine ∧ ∃ (its : List Value) (n : Nat), Vals xs its ∧ h.get? a = some { cls := .type "list", data := .seq its.toArray n }
  | .tup xs => xs.length ≤ sizeLine ∧ ∃ its : List Value, Vals xs its ∧ IsTup h a its.toArray
  | .dK kvs => kvs.length ≤ sizeLine ∧ (a == sysModules) = false ∧ ∃ vs, KV kvs vs ∧ h.DictOf (mixKind P w) a vs
  | .dT kvs => kvs.length ≤ sizeLine ∧ (a == sysModules) = false ∧ ∃ xs : List (List Key × Addr × Value),
      Paired (fun (p : List Key × V) (q : List Key × Addr × Value) => p.1 = q.1 ∧ H q.2.1 = some (.tup (p.1.map kV)) ∧ RelV p.2 q.2.2) kvs xs ∧
      ∃ o es ep, h.get? a = some o ∧ o.ExactDict ∧ o.data = .dict es ep ∧ es.toList = xs.map (entryOfKey (tupleKind (mixKind P w))) ∧ (xs.map (·.1)).Nodup
  | .set S n => h.SetOf (intKind P w) a S n
  | .ins C dx fs => H dx = some (.own a) ∧ fs.length ≤ 1000 ∧ dx ≠ a ∧ h.get? a = some (PySem.W.instObj C dx) ∧
      ∃ mA, h.Ns1 dx mA ∧ (∀ f, RelO (fs.lookup f) (mA f)) ∧ PySem.Within mA (fs.map (·.1))
  | .own _ => ∃ o, h.get? a = some o
  | .xd fs => ∃ mA, h.Ns1 a mA ∧ ∀ f, RelO (fs.lookup f) (mA f)
  | .rng lo hi => ∃ t u v, h.get? a = some { cls := .type "range", data := .fields #[.int lo t, .int hi u, .int 1 v] }
  | .frz o u => h.get? a = some o ∧ ObjOk H h a u
  | .tbl ps => h.get? a = some { cls := .none, data := .fields ps }
  | .met f x => h.get? a = some (PySem.W.methodObj (.ref f) (.ref x))
  | .ext φ => φ h ∧ (∃ o, h.get? a = some o) ∧ ∀ h1 h2 : Heap, φ h1 → (∀ o, h1.get? a = some o → h2.get? a = some o) → φ h2
noncomputable def HOk (H : Hp) (h : Heap) : Prop := ∀ a o, H a = some o → ObjOk P w H h a o
end

section
variable {P : Program} {w : World} {H H' : Hp} {h h' : Heap} {a : Addr} {o : HO}
theorem ObjOk.lt (x : ObjOk P w H h a o) : a < h.objs.size := by
  cases o with
  | lst xs => obtain ⟨_, _, _, _, e⟩ := x; exact Heap.lt_size e
  | tup xs => obtain ⟨_, _, _, p⟩ := x; exact p.lt
  | dK kvs => obtain ⟨_, _, _, _, o, _, _, e, _⟩ := x; exact Heap.lt_size e
  | dT kvs => obtain ⟨_, _, _, _, o, _, _, e, _⟩ := x; exact Heap.lt_size e
  | set S n => obtain ⟨o, _, _, _, e, _⟩ := x; exact Heap.lt_size e
  | ins C dx fs => obtain ⟨_, _, _, e, _⟩ := x; exact Heap.lt_size e
  | own y => obtain ⟨_, e⟩ := x; exact Heap.lt_size e
  | xd fs => obtain ⟨_, ⟨_, _, _, e, _⟩, _⟩ := x; exact Heap.lt_size e
  | rng lo hi => obtain ⟨_, _, _, e⟩ := x; exact Heap.lt_size e
  | frz ob u => obtain ⟨e, _⟩ := x; exact Heap.lt_size e
  | tbl ps => exact Heap.lt_size (show h.get? a = some _ from x)
  | met f y => exact Heap.lt_size (show h.get? a = some _ from x)
  | ext φ => obtain ⟨_, ⟨_, e⟩, _⟩ := x; exact Heap.lt_size e
theorem Paired.mapP {α β : Type} {F G : α → β → Prop} : ∀ {l₁ : List α} {l₂ : List β}, Paired F l₁ l₂ → (∀ a b, F a b → G a b) → Paired G l₁ l₂
  | _, _, .nil, _ => .nil
  | _, _, .cons r t, f => .cons (f _ _ r) (Paired.mapP t f)
theorem ObjOk.stay (x : ObjOk P w H h a o) (k : ∀ b u, (b = a ∨ H b = some (.own a)) → h.get? b = some u → h'.get? b = some u)
    (ho : ∀ b, H b = some (.own a) → H' b = some (.own a)) (ht : ∀ b xs, H b = some (.tup xs) → H' b = some (.tup xs)) : ObjOk P w H' h' a o := by
  induction o with
  | lst xs => obtain ⟨z, its, n, r, e⟩ := x; exact ⟨z, its, n, r, k _ _ (.inl rfl) e⟩
  | tup xs => obtain ⟨z, its, r, ob, e, c⟩ := x; exact ⟨z, its, r, ob, k _ _ (.inl rfl) e, c⟩
  | dK kvs => obtain ⟨z, y, vs, r, ob, es, ep, e, c⟩ := x; exact ⟨z, y, vs, r, ob, es, ep, k _ _ (.inl rfl) e, c⟩
  | dT kvs =>
    obtain ⟨z, y, xs, r, ob, es, ep, e, c⟩ := x
    exact ⟨z, y, xs, Paired.mapP r fun p q z => ⟨z.1, ht _ _ z.2.1, z.2.2⟩, ob, es, ep, k _ _ (.inl rfl) e, c⟩
  | set S n => obtain ⟨ob, es, ep, t, e, c⟩ := x; exact ⟨ob, es, ep, t, k _ _ (.inl rfl) e, c⟩
  | ins C dx fs =>
    obtain ⟨d, z, ne, e, mA, ⟨od, es, ep, e2, c⟩, r⟩ := x
    exact ⟨ho _ d, z, ne, k _ _ (.inl rfl) e, mA, ⟨od, es, ep, k _ _ (.inr d) e2, c⟩, r⟩
  | own y => obtain ⟨ob, e⟩ := x; exact ⟨ob, k _ _ (.inl rfl) e⟩
  | xd fs => obtain ⟨mA, ⟨od, es, ep, e, c⟩, r⟩ := x; exact ⟨mA, ⟨od, es, ep, k _ _ (.inl rfl) e, c⟩, r⟩
  | rng lo hi => obtain ⟨t, u, v, e⟩ := x; exact ⟨t, u, v, k _ _ (.inl rfl) e⟩
  | frz ob u ih => obtain ⟨e, q⟩ := x; exact ⟨k _ _ (.inl rfl) e, ih q⟩
  | tbl ps =>
    have e : h.get? a = some { cls := .none, data := .fields ps } := x
    show h'.get? a = some { cls := .none, data := .fields ps }
    exact k a _ (.inl rfl) e
  | met f y =>
    have e : h.get? a = some (PySem.W.methodObj (.ref f) (.ref y)) := x
    show h'.get? a = some (PySem.W.methodObj (.ref f) (.ref y))
    exact k a _ (.inl rfl) e
  | ext φ => obtain ⟨p, ⟨o, e⟩, st⟩ := x; exact ⟨st _ _ p fun o q => k _ _ (.inl rfl) q, ⟨o, k _ _ (.inl rfl) e⟩, st⟩
theorem HOk.lt (x : HOk P w H h) (e : H a = some o) : a < h.objs.size := (x a o e).lt
theorem HOk.fresh (x : HOk P w H h) (e : h.objs.size ≤ a) : H a = none := by
  cases q : H a with
  | none => rfl
  | some u => exact absurd (Nat.lt_of_lt_of_le (x.lt q) e) (Nat.lt_irrefl _)
theorem HOk.kept (x : HOk P w H h) (k : ∀ b u, h.get? b = some u → h'.get? b = some u) : HOk P w H h' := fun a o e =>
  (x a o e).stay (fun b u _ q => k b u q) (fun _ q => q) fun _ _ q => q
theorem HOk.laid (x : HOk P w H h) (k : ∀ b u, h.get? b = some u → h'.get? b = some u) (hp : h.objs.size ≤ a) (new : ObjOk P w (upd H a o) h' a o) : HOk P w (upd H a o) h' := fun b u e => by
  have hn := x.fresh hp
  by_cases hb : b = a
  · subst hb; rw [upd_same] at e; cases e; exact new
  · rw [upd_ne hb] at e
    exact (x b u e).stay (fun c v _ q => k c v q) (fun c q => by rw [upd_ne (ne_of_none q hn)]; exact q) fun c xs q => by rw [upd_ne (ne_of_none q hn)]; exact q
end

noncomputable def Rd (H : Hp) (a : Addr) (u : HO) : Prop := H a = some u ∨ ∃ o, H a = some (.frz o u)
theorem Rd.ok {P : Program} {w : World} {H : Hp} {h : Heap} {a : Addr} {u : HO} (r : Rd H a u) (x : HOk P w H h) : ObjOk P w H h a u := by
  rcases r with r | ⟨o, r⟩
  · exact x a u r
  · obtain ⟨_, q⟩ := x a _ r
    exact q
noncomputable def Mut : Option HO → Prop
  | some (.lst _) => True
  | some (.dK _) => True
  | some (.dT _) => True
  | some (.set _ _) => True
  | some (.ins _ _ _) => True
  | some (.ext _) => True
  | _ => False
section
variable {P : Program} {w : World} {H : Hp} {h h' : Heap} {x e : Addr} {o' : HO}
theorem HOk.write (ok : HOk P w H h) (mu : Mut (H x)) (he : e = x ∨ H e = some (.own x)) (k : ∀ b u, b ≠ e → h.get? b = some u → h'.get? b = some u) (heo : ∃ u, h'.get? e = some u)
    (new : ObjOk P w (upd H x o') h' x o') : HOk P w (upd H x o') h' := fun b u q => by
  have nown : ∀ c y, H c = some (.own y) → c ≠ x := fun c y r z => by subst z; rw [r] at mu; exact mu
  have ntup : ∀ c xs, H c = some (.tup xs) → c ≠ x := fun c xs r z => by subst z; rw [r] at mu; exact mu
  by_cases hb : b = x
  · subst hb; rw [upd_same] at q; cases q; exact new
  · rw [upd_ne hb] at q
    by_cases hbe : b = e
    · have q' : H b = some (.own x) := by
        rcases he with z | z
        · exact absurd (hbe.trans z) hb
        · rw [hbe]; exact z
      rw [q] at q'; cases q'
      obtain ⟨v, hv⟩ := heo
      exact ⟨v, by rw [hbe]; exact hv⟩
    · refine (ok b u q).stay (fun c v hc r => k c v ?_ r) (fun c r => by rw [upd_ne (nown c b r)]; exact r) fun c xs r => by rw [upd_ne (ntup c xs r)]; exact r
      rcases hc with rfl | hc
      · exact hbe
      · rintro rfl
        rcases he with z | z
        · exact nown c b hc z
        · rw [hc] at z; cases z; exact hb rfl
end

structure Un (fs ex : List Addr) (H H' : Hp) (h h' : Heap) : Prop where
  keep : ∀ b o, h.get? b = some o → H b = none → b ∉ fs → b ∉ ex → h'.get? b = some o
  slot : ∀ b o, h.get? b = some o → H b = none → b ∈ fs → b ∉ ex → ∃ sl, h'.get? b = some { o with slots := sl }
  free : ∀ b o, h.get? b = some o → H b = none → b ∉ ex → H' b = none
  there : ∀ b o, h.get? b = some o → b ∉ ex → ∃ o', h'.get? b = some o'
  tups : ∀ b xs, H b = some (.tup xs) → H' b = some (.tup xs)
  frzs : ∀ b o u, H b = some (.frz o u) → H' b = some (.frz o u)
  tbls : ∀ b ps, H b = some (.tbl ps) → ∃ more, H' b = some (.tbl (ps ++ more))
section
variable {fs fs' ex ex' : List Addr} {H H1 H2 : Hp} {h h1 h2 h' : Heap} {a x e : Addr} {o : HO}
theorem Un.any (u : Un fs ex H H1 h h1) {b : Addr} {ob : Obj} (q : h.get? b = some ob) (n : H b = none) (hx : b ∉ ex) : ∃ sl, h1.get? b = some { ob with slots := sl } := by
  by_cases hb : b ∈ fs
  · exact u.slot b ob q n hb hx
  · exact ⟨ob.slots, u.keep b ob q n hb hx⟩
theorem Un.kept (k : ∀ b u, h.get? b = some u → h'.get? b = some u) : Un fs ex H H h h' :=
  ⟨fun b ob q _ _ _ => k b ob q, fun b ob q _ _ _ => ⟨ob.slots, k b ob q⟩, fun _ _ _ n _ => n, fun b ob q _ => ⟨ob, k b ob q⟩, fun _ _ q => q, fun _ _ _ q => q, fun _ ps q => ⟨#[], by rw [q]; simp⟩⟩
theorem Un.refl : Un fs ex H H h h := Un.kept fun _ _ q => q
theorem Un.laid (k : ∀ b u, h.get? b = some u → h'.get? b = some u) (hp : h.objs.size ≤ a) (hn : H a = none) : Un fs ex H (upd H a o) h h' where
  keep := fun b u q _ _ _ => k b u q
  slot := fun b u q _ _ _ => ⟨u.slots, k b u q⟩
  free := fun b u q n _ => by rw [upd_ne (Nat.ne_of_lt (Nat.lt_of_lt_of_le (Heap.lt_size q) hp))]; exact n
  there := fun b u q _ => ⟨u, k b u q⟩
  tups := fun b xs q => by rw [upd_ne (ne_of_none q hn)]; exact q
  frzs := fun b u xs q => by rw [upd_ne (ne_of_none q hn)]; exact q
  tbls := fun b ps q => ⟨#[], by rw [upd_ne (ne_of_none q hn), q]; simp⟩
theorem Un.write (mu : Mut (H x)) (he : e = x ∨ H e = some (.own x)) (k : ∀ b u, b ≠ e → h.get? b = some u → h'.get? b = some u) (heo : ∃ u, h'.get? e = some u) : Un fs ex H (upd H x o) h h' := by
  have hx : ∀ b, H b = none → b ≠ x := fun b n z => by subst z; rw [n] at mu; exact mu
  have hb : ∀ b, H b = none → b ≠ e := fun b n z => by
    subst z
    rcases he with r | r
    · exact hx b n r
    · rw [n] at r; cases r
  have hm : ∀ b u, H b = some u → ¬ Mut (some u) → b ≠ x := fun b u q nm z => by subst z; rw [q] at mu; exact nm mu
  refine ⟨fun b u q n _ _ => k b u (hb b n) q, fun b u q n _ _ => ⟨u.slots, k b u (hb b n) q⟩, fun b u q n _ => by rw [upd_ne (hx b n)]; exact n, fun b u q _ => ?_,
    fun b xs q => by rw [upd_ne (hm b _ q fun z => z)]; exact q, fun b u xs q => by rw [upd_ne (hm b _ q fun z => z)]; exact q, fun b ps q => ⟨#[], by rw [upd_ne (hm b _ q fun z => z), q]; simp⟩⟩
  by_cases hbe : b = e
  · subst hbe; exact heo
  · exact ⟨u, k b u hbe q⟩
end

noncomputable def trk (h : Heap) (H : Hp) : List Addr := (List.range h.objs.size).filter fun a => (H a).isSome
noncomputable def hidT (h : Heap) (H : Hp) : Heap := PySem.W.hideAll h (trk h H)
theorem hidT_size (h : Heap) (H : Hp) : (hidT h H).objs.size = h.objs.size := PySem.W.hideAll_size _ _
theorem hidT_get {h : Heap} {H : Hp} {b : Addr} {o : Obj} (e : h.get? b = some o) (n : H b = none) : (hidT h H).get? b = some o :=
  PySem.W.hideAll_get _ e fun hm => by
    have q : (H b).isSome = true := (List.mem_filter.mp hm).2
    rw [n] at q; simp at q
theorem of_hidT {h : Heap} {H : Hp} {b : Addr} {o : Obj} (e : (hidT h H).get? b = some o) : h.get? b = some o ∧ H b = none := by
  have e' : h.get? b = some o := PySem.W.of_hideAll (trk h H) e
  refine ⟨e', ?_⟩
  cases q : H b with
  | none => rfl
  | some x =>
    have hm : b ∈ trk h H := List.mem_filter.mpr ⟨List.mem_range.mpr (Heap.lt_size e'), by simp [q]⟩
    have z : (hidT h H).get? b = none := PySem.W.hideAll_none (trk h H) hm
    rw [z] at e; cases e

end L2

namespace L2
open PySem PySem.Spec PyProof.Rows

structure Mod (K : PySem.W.Frag) (mg : Str → Option Value) (base : Heap) : Prop where
  kin : K.In base
  glob : base.Ns mainGlobals mg
  blt : ∃ mb, base.Ns builtinsNs mb ∧ ∀ x : Str, x ≠ "__name__" → mb x = bootBuiltins x
  nolimit : base.NoLimit

structure Cx where
  prog : Program
  w : World
  K : PySem.W.Frag
  mg : Str → Option Value
  base : Heap
  A : Around
  N : List Str
  s₀ : Shared
  H₀ : Hp
  env : Env
  outer : List Env
  stack : List Env
  ex : List Addr
  fn : Str → Bool
  calm : Bool
  pn : List (Addr × Obj)
  xe : Value → Shared → Prop
noncomputable def frs (l : List Env) : List Addr := l.filterMap (·.frame)
noncomputable abbrev Cx.fs (X : Cx) : List Addr := frs X.outer

noncomputable def Vis (sc : Scope) (x : Str) : Prop := sc.names.lookup x = some .local ∨ sc.names.lookup x = some .cell ∨ sc.names.lookup x = some .free
noncomputable def Loc (sc : Scope) (x : Str) : Prop := sc.names.lookup x = some .local ∨ sc.names.lookup x = some .cell
noncomputable def Look (env : Env) (h : Heap) (m : Str → Option Value) (x : Str) (u : Value) : Prop :=
  (env.kindOf x = some .local ∧ m x = some u) ∨ ((env.kindOf x = some .cell ∨ env.kindOf x = some .free) ∧ ∃ c, env.cells.lookup x = some c ∧ h.IsCell c (some u))

structure Cx.Ok (X : Cx) : Prop where
  mod : Mod X.K X.mg X.base
  kind : X.env.scope.kind = .function
  glob : X.env.globals = mainGlobals
  blt : X.env.builtins = builtinsNs
  above : X.s₀.heap.objs.size ≤ X.env.locals
  inj : ∀ x y c, X.env.cells.lookup x = some c → X.env.cells.lookup y = some c → x = y
  has : ∀ x, (X.env.kindOf x = some .cell ∨ X.env.kindOf x = some .free) → ∃ c, X.env.cells.lookup x = some c
  cab : ∀ x c, X.fn x = true → X.env.cells.lookup x = some c → X.s₀.heap.objs.size ≤ c
  hd : X.calm = true → X.A.handled = none
  frames : X.A.frames = some X.stack
  stk : X.stack = X.outer ∨ (X.stack = X.env :: X.outer ∧ X.env.frame = some X.env.locals)
  exf : ∀ b ∈ X.ex, b ≠ X.env.locals ∧ ∀ x c, X.env.cells.lookup x = some c → c ≠ b
  bs : ∀ b o, X.base.get? b = some o → X.s₀.heap.get? b = some o ∧ X.H₀ b = none
  bsz : X.base.objs.size ≤ X.s₀.heap.objs.size
  noex : ∀ b o, X.base.get? b = some o → b ∉ X.ex
  exfs : ∀ b ∈ X.ex, b ∉ X.fs
  funs : X.s₀.heap.FunFrames X.base X.outer
  frf : ∀ b ∈ X.fs, X.H₀ b = none

structure Inv (X : Cx) (pins : List (Addr × Obj)) (σ : List (Option V)) (H : Hp) (s : Shared) : Prop where
  ok : X.Ok
  os : s.os = X.s₀.os
  bare : AllBare s.gens
  base : Un X.fs X.ex X.H₀ H X.s₀.heap s.heap
  loc : ∃ m, s.heap.Ns X.env.locals m ∧ ∀ (i : Nat) (x : Str) (v : V), X.N[i]? = some x → σ[i]? = some (some v) → Vis X.env.scope x → ∃ u, RelV v u ∧ Look X.env s.heap m x u
  cell : ∀ x c, X.env.cells.lookup x = some c → ∃ v, s.heap.IsCell c v
  free : H X.env.locals = none
  freeC : ∀ x c, X.env.cells.lookup x = some c → H c = none
  pin : ∀ p ∈ X.pn ++ pins, s.heap.get? p.1 = some p.2 ∧ H p.1 = none ∧ p.1 ≠ X.env.locals ∧ p.1 ∉ X.fs ∧ ∀ v, p.2.data ≠ .cell v
  hok : HOk X.prog X.w H s.heap
  len : σ.length = X.N.length

section
variable {X : Cx} {pins : List (Addr × Obj)} {σ : List (Option V)} {H H' : Hp} {s : Shared} {h' : Heap}

theorem Cx.Ok.nofr (ok : X.Ok) {b : Addr} {o : Obj} (e : X.base.get? b = some o) : b ∉ X.fs := fun hb => by
  have := (ok.funs.mem hb).1
  rw [e] at this; cases this
theorem Inv.bs (I : Inv X pins σ H s) : ∀ b o, X.base.get? b = some o → s.heap.get? b = some o ∧ H b = none := fun b o e =>
  ⟨I.base.keep b o (I.ok.bs b o e).1 (I.ok.bs b o e).2 (I.ok.nofr e) (I.ok.noex b o e), I.base.free b o (I.ok.bs b o e).1 (I.ok.bs b o e).2 (I.ok.noex b o e)⟩
theorem Inv.bk (I : Inv X pins σ H s) : ∀ b o, X.base.get? b = some o → s.heap.get? b = some o := fun b o e => (I.bs b o e).1
theorem Inv.mod (I : Inv X pins σ H s) : Mod X.K X.mg X.base := I.ok.mod
theorem Inv.kIn (I : Inv X pins σ H s) : X.K.In s.heap := I.ok.mod.kin.keeps I.bk
theorem Inv.lt (I : Inv X pins σ H s) : X.env.locals < s.heap.objs.size := let ⟨_, hn, _⟩ := I.loc; hn.lt
theorem Inv.sz (I : Inv X pins σ H s) : X.s₀.heap.objs.size ≤ s.heap.objs.size := Nat.le_trans I.ok.above (Nat.le_of_lt I.lt)
theorem Inv.nofs (I : Inv X pins σ H s) {a : Addr} (h : s.heap.objs.size ≤ a) : a ∉ X.fs := fun hb => by
  obtain ⟨_, o, ho, _⟩ := I.ok.funs.mem hb
  exact absurd (Nat.lt_of_lt_of_le (Heap.lt_size ho) (Nat.le_trans I.sz h)) (Nat.lt_irrefl _)
theorem Inv.cne (I : Inv X pins σ H s) : ∀ x c, X.env.cells.lookup x = some c → c ≠ X.env.locals := fun x c e z => by
  obtain ⟨v, o, ho, hd⟩ := I.cell x c e
  obtain ⟨m, ⟨o', es, ep, ho', hd', _⟩, _⟩ := I.loc
  rw [z, ho'] at ho; cases ho; rw [hd'] at hd; cases hd
theorem Inv.funs (I : Inv X pins σ H s) : s.heap.FunFrames X.base X.outer := by
  have all : ∀ (l : List Env), (∀ b ∈ frs l, b ∈ X.fs) → X.s₀.heap.FunFrames X.base l → s.heap.FunFrames X.base l := by
    intro l
    induction l with
    | nil => intro _ _; trivial
    | cons env r ih =>
      intro hs hl
      obtain ⟨hk, ⟨L, o, hf, hn, ho, hd⟩, hr⟩ := hl
      have hL : L ∈ X.fs := hs L (by unfold frs; rw [List.filterMap_cons, hf]; exact List.mem_cons_self)
      obtain ⟨sl, e⟩ := I.base.slot L o ho (I.ok.frf L hL) hL fun z => I.ok.exfs L z hL
      exact ⟨hk, ⟨L, _, hf, hn, e, hd⟩, ih (fun b hb => hs b (by unfold frs; rw [List.filterMap_cons, hf]; exact List.mem_cons_of_mem _ hb)) hr⟩
  exact all X.outer (fun _ hb => hb) I.ok.funs

theorem Inv.stack (I : Inv X pins σ H s) : s.heap.FunFrames X.base X.stack := by
  rcases I.ok.stk with e | ⟨e, hf⟩
  · rw [e]; exact I.funs
  · rw [e]
    obtain ⟨m, hn, _⟩ := I.loc
    refine .cons (by rw [I.ok.kind]; decide) hf hn ?_ I.funs
    exact Heap.get?_none_of_le (Nat.le_trans I.ok.bsz I.ok.above)
theorem Inv.stkSub (I : Inv X pins σ H s) : ∀ b ∈ frs X.stack, b ∈ X.env.locals :: X.fs := fun b hb => by
  rcases I.ok.stk with e | ⟨e, hf⟩
  · rw [e] at hb; exact List.mem_cons_of_mem _ hb
  · rw [e] at hb
    unfold frs at hb
    rw [List.filterMap_cons, hf] at hb
    exact hb
theorem Inv.stkFree (I : Inv X pins σ H s) : ∀ b ∈ frs X.stack, H b = none := fun b hb => by
  rcases List.mem_cons.mp (I.stkSub b hb) with e | hb
  · rw [e]; exact I.free
  · obtain ⟨_, o, ho, _⟩ := I.ok.funs.mem hb
    exact I.base.free b o ho (I.ok.frf b hb) fun z => I.ok.exfs b z hb

theorem Inv.step {g' : Array GenState} {t' : Nat} {d' : Drawn} {ch : List Addr} (I : Inv X pins σ H s)
    (hch : ∀ b ∈ ch, (b ∈ X.ex ∨ X.s₀.heap.objs.size ≤ b) ∧ b ≠ X.env.locals ∧ (∀ x c, X.env.cells.lookup x = some c → c ≠ b) ∧ ∀ p ∈ X.pn ++ pins, p.1 ≠ b)
    (keep : ∀ b o, b ≠ X.env.locals → b ∉ X.fs → b ∉ ch → s.heap.get? b = some o → H b = none → h'.get? b = some o)
    (slot : ∀ b o, b ≠ X.env.locals → b ∈ X.fs → b ∉ ch → s.heap.get? b = some o → H b = none → ∃ sl, h'.get? b = some { o with slots := sl }) (free : ∀ b o, b ∉ ch → s.heap.get? b = some o → H b = none → H' b = none)
    (there : ∀ b o, b ∉ ch → s.heap.get? b = some o → ∃ o', h'.get? b = some o')
    (tups : ∀ b xs, H b = some (.tup xs) → H' b = some (.tup xs)) (frzs : ∀ b o u, H b = some (.frz o u) → H' b = some (.frz o u)) (tbls : ∀ b ps, H b = some (.tbl ps) → ∃ more, H' b = some (.tbl (ps ++ more)))
    (ns : ∀ m, s.heap.Ns X.env.locals m → h'.Ns X.env.locals m) (hok : HOk X.prog X.w H' h') (hg : AllBare g') :
    Inv X pins σ H' { s with heap := h', gens := g', drawn := d', toks := t' } := by
  have neL : ∀ b o, X.s₀.heap.get? b = some o → b ≠ X.env.locals := fun b o e => Nat.ne_of_lt (Nat.lt_of_lt_of_le (Heap.lt_size e) I.ok.above)
  have neC : ∀ b o, X.s₀.heap.get? b = some o → b ∉ X.ex → b ∉ ch := fun b o e hx hb => by
    rcases (hch b hb).1 with z | z
    · exact hx z
    · exact absurd (Nat.lt_of_lt_of_le (Heap.lt_size e) z) (Nat.lt_irrefl _)
  have cellK : ∀ x c, X.env.cells.lookup x = some c → ∀ v, s.heap.IsCell c v → h'.IsCell c v := fun x c e v ⟨o, ho, hd⟩ => by
    have nch : c ∉ ch := fun z => (hch c z).2.2.1 x c e rfl
    by_cases hc : c ∈ X.fs
    · obtain ⟨sl, q⟩ := slot c o (I.cne x c e) hc nch ho (I.freeC x c e)
      exact ⟨_, q, hd⟩
    · exact ⟨o, keep c o (I.cne x c e) hc nch ho (I.freeC x c e), hd⟩
  refine ⟨I.ok, I.os, hg, ⟨fun b o e n hb hx => ?_, fun b o e n hb hx => ?_, fun b o e n hx => ?_, fun b o e hx => ?_, fun b xs e => tups b xs (I.base.tups b xs e), fun b o xs e => frzs b o xs (I.base.frzs b o xs e), fun b ps e => ?_⟩, ?_, fun x c e => ?_, ?_, fun x c e => ?_, fun p hp => ?_, hok, I.len⟩
  · exact keep b o (neL b o e) hb (neC b o e hx) (I.base.keep b o e n hb hx) (I.base.free b o e n hx)
  · obtain ⟨sl, e1⟩ := I.base.slot b o e n hb hx
    obtain ⟨sl', e2⟩ := slot b _ (neL b o e) hb (neC b o e hx) e1 (I.base.free b o e n hx)
    exact ⟨sl', e2⟩
  · obtain ⟨o', e1⟩ := I.base.there b o e hx
    exact free b o' (neC b o e hx) e1 (I.base.free b o e n hx)
  · obtain ⟨o', e1⟩ := I.base.there b o e hx
    exact there b o' (neC b o e hx) e1
  · obtain ⟨m1, e1⟩ := I.base.tbls b ps e
    obtain ⟨m2, e2⟩ := tbls b _ e1
    exact ⟨m1 ++ m2, by rw [e2, Array.append_assoc]⟩
  · obtain ⟨m, hn, hl⟩ := I.loc
    refine ⟨m, ns m hn, fun i x v e1 e2 e3 => ?_⟩
    obtain ⟨u, r, l⟩ := hl i x v e1 e2 e3
    refine ⟨u, r, ?_⟩
    rcases l with l | ⟨k, c, e, z⟩
    · exact .inl l
    · exact .inr ⟨k, c, e, cellK x c e _ z⟩
  · obtain ⟨v, z⟩ := I.cell x c e
    exact ⟨v, cellK x c e v z⟩
  · obtain ⟨m, ⟨o, _, _, ho, _⟩, _⟩ := I.loc
    exact free _ o (fun z => (hch _ z).2.1 rfl) ho I.free
  · obtain ⟨v, o, ho, hd⟩ := I.cell x c e
    exact free c o (fun z => (hch c z).2.2.1 x c e rfl) ho (I.freeC x c e)
  · obtain ⟨e, n, ne, nf, d⟩ := I.pin p hp
    have nch : p.1 ∉ ch := fun z => (hch p.1 z).2.2.2 p hp rfl
    exact ⟨keep p.1 p.2 ne nf nch e n, free p.1 p.2 nch e n, ne, nf, d⟩
theorem Inv.un {t' : Nat} (I : Inv X pins σ H s) (u : Un X.fs [] H H' s.heap h') (hok : HOk X.prog X.w H' h') : Inv X pins σ H' { s with heap := h', toks := t' } := by
  obtain ⟨m, ⟨o, es, ep, ho, r⟩, _⟩ := id I.loc
  obtain ⟨sl, hL⟩ := u.any ho I.free (by simp)
  exact I.step (g' := s.gens) (d' := s.drawn) (ch := []) (fun _ z => nomatch z) (fun b o _ hb _ e n => u.keep b o e n hb (by simp)) (fun b o _ hb _ e n => u.slot b o e n hb (by simp)) (fun b o _ e n => u.free b o e n (by simp)) (fun b o _ e => u.there b o e (by simp)) u.tups u.frzs u.tbls (fun m' hm => by
    obtain ⟨o', es', ep', ho', r'⟩ := hm
    rw [ho] at ho'; cases ho'
    exact ⟨_, es', ep', hL, r'⟩) hok I.bare
theorem Inv.call {g' : Array GenState} {t' : Nat} {d' : Drawn} {ch : List Addr} (I : Inv X pins σ H s) (u : Un (frs X.stack) ch H H' s.heap h') (hok : HOk X.prog X.w H' h') (hg : AllBare g')
    (hch : ∀ b ∈ ch, (b ∈ X.ex ∨ X.s₀.heap.objs.size ≤ b) ∧ b ≠ X.env.locals ∧ (∀ x c, X.env.cells.lookup x = some c → c ≠ b) ∧ ∀ p ∈ X.pn ++ pins, p.1 ≠ b) :
    Inv X pins σ H' { s with heap := h', gens := g', drawn := d', toks := t' } := by
  obtain ⟨m, ⟨o, es, ep, ho, r⟩, _⟩ := id I.loc
  obtain ⟨sl, hL⟩ := u.any ho I.free fun z => (hch _ z).2.1 rfl
  exact I.step (ch := ch) hch (fun b o hL hb hc e n => u.keep b o e n (fun z => (List.mem_cons.mp (I.stkSub b z)).elim hL hb) hc) (fun b o _ _ hc e n => u.any e n hc) (fun b o hc e n => u.free b o e n hc) (fun b o hc e => u.there b o e hc) u.tups u.frzs u.tbls (fun m' hm => by
    obtain ⟨o', es', ep', ho', r'⟩ := hm
    rw [ho] at ho'; cases ho'
    exact ⟨_, es', ep', hL, r'⟩) hok hg
theorem Inv.turned {t' : Nat} {it : Addr} (I : Inv X pins σ H s) (k : ∀ b o, b ≠ it → s.heap.get? b = some o → h'.get? b = some o) (hn : H it = none) (hL : it ≠ X.env.locals)
    (h1 : it ∈ X.ex ∨ X.s₀.heap.objs.size ≤ it) (h2 : ∀ x c, X.env.cells.lookup x = some c → c ≠ it) (h3 : ∀ p ∈ X.pn ++ pins, p.1 ≠ it) : Inv X pins σ H { s with heap := h', toks := t' } := by
  have nit : ∀ b u, H b = some u → b ≠ it := fun b u e z => by rw [z, hn] at e; cases e
  refine I.step (g' := s.gens) (d' := s.drawn) (ch := [it]) (fun b hb => ?_) (fun b o _ _ hc e _ => k b o (fun z => hc (by simp [z])) e) (fun b o _ _ hc e _ => ⟨o.slots, k b o (fun z => hc (by simp [z])) e⟩) (fun _ _ _ _ n => n)
    (fun b o hc e => ⟨o, k b o (fun z => hc (by simp [z])) e⟩) (fun _ _ e => e) (fun _ _ _ e => e) (fun b ps e => ⟨#[], by rw [e]; simp⟩) (fun m hm => ?_) (fun b u e => ?_) I.bare
  · have e : b = it := by simpa using hb
    subst e
    exact ⟨h1, hL, h2, h3⟩
  · obtain ⟨o, es, ep, ho, r⟩ := hm
    exact ⟨o, es, ep, k _ o (Ne.symm hL) ho, r⟩
  · refine (I.hok b u e).stay (fun c v hc q => k c v ?_ q) (fun _ q => q) fun _ _ q => q
    rcases hc with z | z
    · rw [z]; exact nit b u e
    · exact nit c _ z
theorem Inv.tok (I : Inv X pins σ H s) (t : Nat) : Inv X pins σ H { s with toks := t } := I.un (h' := s.heap) (t' := t) Un.refl I.hok
theorem Inv.kept {t' : Nat} (I : Inv X pins σ H s) (k : ∀ b u, s.heap.get? b = some u → h'.get? b = some u) : Inv X pins σ H { s with heap := h', toks := t' } := I.un (Un.kept k) (I.hok.kept k)
theorem Inv.laid {a : Addr} {o : HO} {t' : Nat} (I : Inv X pins σ H s) (k : ∀ b u, s.heap.get? b = some u → h'.get? b = some u) (hp : s.heap.objs.size ≤ a) (new : ObjOk X.prog X.w (upd H a o) h' a o) :
    Inv X pins σ (upd H a o) { s with heap := h', toks := t' } := I.un (Un.laid k hp (I.hok.fresh hp)) (I.hok.laid k hp new)
theorem Inv.write {x e : Addr} {o : HO} {t' : Nat} (I : Inv X pins σ H s) (mu : Mut (H x)) (he : e = x ∨ H e = some (.own x)) (k : ∀ b u, b ≠ e → s.heap.get? b = some u → h'.get? b = some u) (heo : ∃ u, h'.get? e = some u)
    (new : ObjOk X.prog X.w (upd H x o) h' x o) : Inv X pins σ (upd H x o) { s with heap := h', toks := t' } := I.un (Un.write mu he k heo) (I.hok.write mu he k heo new)
theorem Inv.pins_of {pins' : List (Addr × Obj)} (I : Inv X pins σ H s) (h : ∀ p ∈ pins', s.heap.get? p.1 = some p.2 ∧ H p.1 = none ∧ p.1 ≠ X.env.locals ∧ p.1 ∉ X.fs ∧ ∀ v, p.2.data ≠ .cell v) : Inv X pins' σ H s :=
  ⟨I.ok, I.os, I.bare, I.base, I.loc, I.cell, I.free, I.freeC, fun p hp => (List.mem_append.mp hp).elim (fun z => I.pin p (List.mem_append_left _ z)) (h p), I.hok, I.len⟩

theorem nodup_ix {N : List Str} (hN : N.Nodup) {i j : Nat} {x : Str} (a : N[i]? = some x) (b : N[j]? = some x) : i = j := by
  obtain ⟨h1, e1⟩ := List.getElem?_eq_some_iff.mp a
  obtain ⟨h2, e2⟩ := List.getElem?_eq_some_iff.mp b
  exact (List.getElem_inj hN).mp (e1.trans e2.symm)

theorem store_ok2 {M : Model} {A : Around} {E : Value → Shared → Prop} {i : Nat} {x : Str} {v : V} {u : Value} {Q : Unit → Shared → Prop} (I : Inv X pins σ H s) (hN : X.N.Nodup) (hi : X.N[i]? = some x) (hx : Loc X.env.scope x) (r : RelV v u)
    (h : ∀ s', Inv X pins (σ.set i (some v)) H s' → (∃ a, Heap.SameBut a s.heap s'.heap ∧ (a = X.env.locals ∨ X.env.cells.lookup x = some a)) → Q () s') (hf : X.fn x = true ∨ X.env.scope.names.lookup x = some .local := by first | exact .inl rfl | exact .inr rfl | assumption) : wpAny M A (storeName X.env x u) Q E s := by
  obtain ⟨m, hn, hl⟩ := id I.loc
  have hcls : (X.env.scope.kind == .class || (X.env.scope.kind == .module && X.env.locals != X.env.globals)) = false := by rw [I.ok.kind]; rfl
  have hiσ : i < σ.length := by rw [I.len]; exact (List.getElem?_eq_some_iff.mp hi).1
  have cne := I.cne
  have tracked : ∀ {a : Addr} {h' : Heap}, (∃ o, s.heap.get? a = some o ∧ H a = none) → Heap.SameBut a s.heap h' → HOk X.prog X.w H h' := fun {a h'} ha hs b ob e => by
    obtain ⟨_, _, hfree⟩ := ha
    refine (I.hok b ob e).stay (fun c w' hc q => (hs.2 c ?_).trans q) (fun _ q => q) fun _ _ q => q
    rintro rfl
    rcases hc with rfl | hc
    · rw [hfree] at e; cases e
    · rw [hfree] at hc; cases hc
  rcases hx with hk | hk
  · refine wpAny_storeName_local hk hn (fun h' hn' hs => ?_) hcls
    obtain ⟨oL, _, _, hoL, _⟩ := id hn
    refine h _ ⟨I.ok, I.os, I.bare, ⟨fun b o e n hb hx => ?_, fun b o e n hb hx => ?_, I.base.free, fun b o e hx => ?_, I.base.tups, I.base.frzs, I.base.tbls⟩, ⟨_, hn', fun j y v' e1 e2 e3 => ?_⟩, fun y c e => ?_, I.free, I.freeC, fun p hp => ?_, tracked ⟨oL, hoL, I.free⟩ hs, by simpa using I.len⟩ ⟨_, hs, .inl rfl⟩
    · exact (hs.2 b (Nat.ne_of_lt (Nat.lt_of_lt_of_le (Heap.lt_size e) I.ok.above))).trans (I.base.keep b o e n hb hx)
    · obtain ⟨sl, e1⟩ := I.base.slot b o e n hb hx
      exact ⟨sl, (hs.2 b (Nat.ne_of_lt (Nat.lt_of_lt_of_le (Heap.lt_size e) I.ok.above))).trans e1⟩
    · obtain ⟨o', e1⟩ := I.base.there b o e hx
      exact ⟨o', (hs.2 b (Nat.ne_of_lt (Nat.lt_of_lt_of_le (Heap.lt_size e) I.ok.above))).trans e1⟩
    · by_cases hj : j = i
      · subst hj
        rw [hi] at e1; cases e1
        rw [List.getElem?_set_self hiσ] at e2
        cases e2
        exact ⟨u, r, .inl ⟨hk, by simp⟩⟩
      · rw [List.getElem?_set_ne (Ne.symm hj)] at e2
        obtain ⟨u', r', q⟩ := hl j y v' e1 e2 e3
        refine ⟨u', r', ?_⟩
        rcases q with ⟨k, e⟩ | ⟨k, c, e, z⟩
        · refine .inl ⟨k, ?_⟩
          have : y ≠ x := fun e => hj (nodup_ix hN e1 (e ▸ hi))
          simp [this, e]
        · exact .inr ⟨k, c, e, z.sameBut hs (cne y c e)⟩
    · obtain ⟨w', z⟩ := I.cell y c e
      exact ⟨w', z.sameBut hs (cne y c e)⟩
    · obtain ⟨e, n, ne, nf, d⟩ := I.pin p hp
      exact ⟨(hs.2 p.1 ne).trans e, n, ne, nf, d⟩
  · have hfn : X.fn x = true := by
      rcases hf with z | z
      · exact z
      · rw [z] at hk; cases hk
    obtain ⟨c, hc⟩ := I.ok.has x (.inl hk)
    obtain ⟨w', z⟩ := I.cell x c hc
    refine wpAny_storeName_cell I.ok.kind hk hc z (fun h' hc' hs => ?_)
    obtain ⟨oc, hoc, hocd⟩ := id z
    refine h { s with heap := h' } ⟨I.ok, I.os, I.bare, ⟨fun b o e n hb hx => ?_, fun b o e n hb hx => ?_, I.base.free, fun b o e hx => ?_, I.base.tups, I.base.frzs, I.base.tbls⟩, ⟨m, hn.sameBut hs (Ne.symm (cne x c hc)), fun j y v' e1 e2 e3 => ?_⟩, fun y c' e => ?_, I.free, I.freeC, fun p hp => ?_, tracked ⟨oc, hoc, I.freeC x c hc⟩ hs, by simpa using I.len⟩ ⟨c, hs, .inr hc⟩
    · exact (hs.2 b (Nat.ne_of_lt (Nat.lt_of_lt_of_le (Heap.lt_size e) (I.ok.cab x c hfn hc)))).trans (I.base.keep b o e n hb hx)
    · obtain ⟨sl, e1⟩ := I.base.slot b o e n hb hx
      exact ⟨sl, (hs.2 b (Nat.ne_of_lt (Nat.lt_of_lt_of_le (Heap.lt_size e) (I.ok.cab x c hfn hc)))).trans e1⟩
    · obtain ⟨o', e1⟩ := I.base.there b o e hx
      exact ⟨o', (hs.2 b (Nat.ne_of_lt (Nat.lt_of_lt_of_le (Heap.lt_size e) (I.ok.cab x c hfn hc)))).trans e1⟩
    · by_cases hj : j = i
      · subst hj
        rw [hi] at e1; cases e1
        rw [List.getElem?_set_self hiσ] at e2
        cases e2
        exact ⟨u, r, .inr ⟨.inl hk, c, hc, hc'⟩⟩
      · rw [List.getElem?_set_ne (Ne.symm hj)] at e2
        obtain ⟨u', r', q⟩ := hl j y v' e1 e2 e3
        refine ⟨u', r', ?_⟩
        rcases q with q | ⟨k, c', e, z'⟩
        · exact .inl q
        · refine .inr ⟨k, c', e, z'.sameBut hs ?_⟩
          rintro rfl
          exact hj (nodup_ix hN e1 (I.ok.inj _ _ _ e hc ▸ hi))
    · by_cases hcc : c' = c
      · subst hcc; exact ⟨_, hc'⟩
      · obtain ⟨w2, z2⟩ := I.cell y c' e
        exact ⟨w2, z2.sameBut hs hcc⟩
    · obtain ⟨e, n, ne, nf, d⟩ := I.pin p hp
      refine ⟨(hs.2 p.1 ?_).trans e, n, ne, nf, d⟩
      intro q
      rw [q, hoc] at e
      have q' : oc = p.2 := Option.some.inj e
      exact d w' (by rw [← q']; exact hocd)
theorem store_ok {M : Model} {A : Around} {E : Value → Shared → Prop} {i : Nat} {x : Str} {v : V} {u : Value} {Q : Unit → Shared → Prop} (I : Inv X pins σ H s) (hN : X.N.Nodup) (hi : X.N[i]? = some x) (hx : Loc X.env.scope x) (r : RelV v u)
    (h : ∀ s', Inv X pins (σ.set i (some v)) H s' → Q () s') (hf : X.fn x = true ∨ X.env.scope.names.lookup x = some .local := by first | exact .inl rfl | exact .inr rfl | assumption) : wpAny M A (storeName X.env x u) Q E s :=
  store_ok2 I hN hi hx r (fun s' I' _ => h s' I') hf
theorem Inv.call' {s' : Shared} {ch : List Addr} (I : Inv X pins σ H s) (ho : s'.os = s.os) (u : Un (frs X.stack) ch H H' s.heap s'.heap) (hok : HOk X.prog X.w H' s'.heap) (hg : AllBare s'.gens)
    (hch : ∀ b ∈ ch, (b ∈ X.ex ∨ X.s₀.heap.objs.size ≤ b) ∧ b ≠ X.env.locals ∧ (∀ x c, X.env.cells.lookup x = some c → c ≠ b) ∧ ∀ p ∈ X.pn ++ pins, p.1 ≠ b) : Inv X pins σ H' s' := by
  obtain ⟨h', g', d', t', o'⟩ := s'
  have e : o' = s.os := ho
  subst e
  exact I.call (g' := g') (t' := t') (d' := d') u hok hg hch
end

noncomputable abbrev XK := Value → Option Addr → Hp → Prop
noncomputable abbrev St := List (Option V)
noncomputable abbrev VK := V → Hp → Prop
noncomputable abbrev TE := St → Hp → VK → Prop
noncomputable abbrev TT := St → Hp → (Bool → Hp → Prop) → Prop
noncomputable abbrev TA := St → Hp → (List V → Hp → Prop) → Prop
structure Ends where
  nx : St → Hp → Prop
  rt : VK
  bk : St → Hp → Prop := fun _ _ => False
  ct : St → Hp → Prop := fun _ _ => False
noncomputable abbrev TS := Ends → St → Hp → Prop

noncomputable def EP (X : Cx) (pins : List (Addr × Obj)) (σ : St) (Q : VK) (u : Value) (s' : Shared) : Prop := ∃ v H', Inv X pins σ H' s' ∧ RelV v u ∧ Q v H'
noncomputable def TP (X : Cx) (pins : List (Addr × Obj)) (σ : St) (Q : Bool → Hp → Prop) (b : Bool) (s' : Shared) : Prop := ∃ H', Inv X pins σ H' s' ∧ Q b H'
noncomputable def AP (X : Cx) (pins : List (Addr × Obj)) (σ : St) (Q : List V → Hp → Prop) (us : List Value) (s' : Shared) : Prop := ∃ vs H', Inv X pins σ H' s' ∧ Vals vs us ∧ Q vs H'
noncomputable def SP (X : Cx) (pins : List (Addr × Obj)) (D : Ends) (f : Flow) (s' : Shared) : Prop :=
  match f with
  | .next => ∃ σ' H', Inv X pins σ' H' s' ∧ D.nx σ' H'
  | .brk => ∃ σ' H', Inv X pins σ' H' s' ∧ D.bk σ' H'
  | .cont => ∃ σ' H', Inv X pins σ' H' s' ∧ D.ct σ' H'
  | .ret u => ∃ v σ' H', Inv X pins σ' H' s' ∧ RelV v u ∧ D.rt v H'

noncomputable def PE (X : Cx) (e : Expr) (t : TE) : Prop :=
  ∀ (pins : List (Addr × Obj)) (s : Shared) (σ : St) (H : Hp) (Q : VK), Inv X pins σ H s → t σ H Q → wpAny (model X.prog X.w) X.A (eval e X.env) (EP X pins σ Q) X.xe s
noncomputable def PT (X : Cx) (e : Expr) (t : TT) : Prop :=
  ∀ (pins : List (Addr × Obj)) (s : Shared) (σ : St) (H : Hp) (Q : Bool → Hp → Prop), Inv X pins σ H s → t σ H Q → wpAny (model X.prog X.w) X.A (isTrue e X.env (eval e X.env)) (TP X pins σ Q) X.xe s
noncomputable def PW (X : Cx) (e : Expr) (t : TT) : Prop :=
  ∀ (whole : Sem Value) (pins : List (Addr × Obj)) (s : Shared) (σ : St) (H : Hp) (Q : Bool → Hp → Prop), Inv X pins σ H s → t σ H Q → wpAny (model X.prog X.w) X.A (isTrue e X.env whole) (TP X pins σ Q) X.xe s
theorem PW.pt {X : Cx} {e : Expr} {t : TT} (h : PW X e t) : PT X e t := h _
noncomputable def PA (X : Cx) (es : List Expr) (t : TA) : Prop :=
  ∀ (pos : Pos) (pins : List (Addr × Obj)) (s : Shared) (σ : St) (H : Hp) (Q : List V → Hp → Prop), Inv X pins σ H s → t σ H Q → wpAny (model X.prog X.w) X.A (spliced (backTo pos (starEach es X.env))) (AP X pins σ Q) X.xe s
noncomputable def PS (X : Cx) (st : Stmt) (t : TS) : Prop :=
  ∀ (pins : List (Addr × Obj)) (s : Shared) (σ : St) (H : Hp) (D : Ends), Inv X pins σ H s → t D σ H → wpAny (model X.prog X.w) X.A (exec st X.env) (SP X pins D) X.xe s
noncomputable def PSs (X : Cx) (st : List Stmt) (t : TS) : Prop :=
  ∀ (pins : List (Addr × Obj)) (s : Shared) (σ : St) (H : Hp) (D : Ends), Inv X pins σ H s → t D σ H → wpAny (model X.prog X.w) X.A (execs st X.env) (SP X pins D) X.xe s
theorem thn {α : Type} {t : Sem α} {Q Q' : α → Shared → Prop} {M : Model} {A : Around} {E : Value → Shared → Prop} {s : Shared} (h : wpAny M A t Q E s) (hQ : ∀ a s, Q a s → Q' a s) : wpAny M A t Q' E s := wpAny_mono h hQ fun _ _ x => x
end L2

namespace L2
open PySem PySem.Spec PyProof.Rows
section
variable {X : Cx}

noncomputable def tVar (i : Nat) : TE := fun σ H Q => ∃ v, σ[i]? = some (some v) ∧ Q v H
noncomputable def tC (v : V) : TE := fun _ H Q => Q v H
theorem pe_var {i : Nat} {x : Str} {pos : Pos} (hN : X.N[i]? = some x) (hv : Vis X.env.scope x) (hd : autoParam ((x == ("__debug__" : Str)) = false) au1_._auto_1) (hcd : autoParam ((x == ("__classdict__" : Str)) = false) au1_._auto_1) : PE X (.Name x pos) (tVar i) := by
  intro pins s σ H Q I h
  obtain ⟨v, e, h⟩ := h
  obtain ⟨m, hn, hl⟩ := I.loc
  obtain ⟨u, r, l⟩ := hl i x v hN e hv
  have fin : EP X pins σ Q u s := ⟨v, H, I, r, h⟩
  rcases l with ⟨hk, hm⟩ | ⟨hk, c, hc, hcell⟩
  · exact wpAny_Name (wpAny_loadName_local I.ok.kind hk hn hm fin) hd
  · rcases hk with hk | hk
    · exact wpAny_Name (wpAny_loadName_cell I.ok.kind hk hc hcell fin) hd
    · exact wpAny_Name (wpAny_loadName_free I.ok.kind hk hc hcell fin hcd) hd
theorem pe_int {i j pos} : PE X (.Constant (.int i) j pos) (tC (.int i)) := fun _ _ _ H _ I h => wpAny_Constant_int ⟨.int i, H, I.tok _, ⟨_, rfl⟩, h⟩
theorem pe_bl {b j pos} : PE X (.Constant (.bool b) j pos) (tC (.bl b)) := fun _ _ _ H _ I h => Constant_bool ⟨.bl b, H, I, rfl, h⟩
theorem pe_non {j pos} : PE X (.Constant .none j pos) (tC .non) := fun _ _ _ H _ I h => Constant_none ⟨.non, H, I, rfl, h⟩
theorem pe_str {x j pos} : PE X (.Constant (.str x) j pos) (tC (.str x)) := fun _ _ _ H _ I h => Calls.Constant_str ⟨.str x, H, I.tok _, ⟨_, rfl⟩, h⟩

noncomputable def Gl (X : Cx) (x : Str) : Prop := X.env.kindOf x = some .globalImplicit
theorem ld_glob {E : Value → Shared → Prop} {pins : List (Addr × Obj)} {s : Shared} {σ : St} {H : Hp} {x : Str} {u : Value} {pos : Pos} {Q : Value → Shared → Prop} (I : Inv X pins σ H s) (hg : Gl X x) (hm : X.mg x = some u) (h : Q u s)
    (hd : autoParam ((x == ("__debug__" : Str)) = false) au1_._auto_1) : wpAny (model X.prog X.w) X.A (eval (.Name x pos) X.env) Q E s :=
  Calls.Name_function_global I.ok.kind hg (Calls.loadGlobal_global (by rw [I.ok.glob]; exact I.mod.glob.keeps I.bk) hm h) hd
theorem ld_blt {E : Value → Shared → Prop} {pins : List (Addr × Obj)} {s : Shared} {σ : St} {H : Hp} {x : Str} {u : Value} {pos : Pos} {Q : Value → Shared → Prop} (I : Inv X pins σ H s) (hg : Gl X x) (hm : X.mg x = none) (hv : bootBuiltins x = some u) (h : Q u s)
    (hn : autoParam (x ≠ "__name__") au1_._auto_1) (hd : autoParam ((x == ("__debug__" : Str)) = false) au1_._auto_1) : wpAny (model X.prog X.w) X.A (eval (.Name x pos) X.env) Q E s := by
  obtain ⟨mb, h1, h2⟩ := I.mod.blt
  exact Calls.Name_function_global I.ok.kind hg (Calls.loadGlobal_builtin (by rw [I.ok.glob]; exact I.mod.glob.keeps I.bk) hm (by rw [I.ok.blt]; exact h1.keeps I.bk) ((h2 x hn).trans hv) h) hd
theorem pe_glob {x : Str} {v : V} {u : Value} {pos : Pos} (hg : Gl X x) (hm : X.mg x = some u) (r : RelV v u) (hd : autoParam ((x == ("__debug__" : Str)) = false) au1_._auto_1) : PE X (.Name x pos) (tC v) :=
  fun _ _ _ H _ I h => ld_glob I hg hm ⟨v, H, I, r, h⟩ hd
theorem pe_bltn {x : Str} {v : V} {u : Value} {pos : Pos} (hg : Gl X x) (hm : X.mg x = none) (hv : bootBuiltins x = some u) (r : RelV v u) (hn : autoParam (x ≠ "__name__") au1_._auto_1) (hd : autoParam ((x == ("__debug__" : Str)) = false) au1_._auto_1) : PE X (.Name x pos) (tC v) :=
  fun _ _ _ H _ I h => ld_blt I hg hm hv ⟨v, H, I, r, h⟩ hn hd

variable {a b : Expr} {ta tb : TE} {pos : Pos}
noncomputable def tB (t : TE) : TT := fun σ H Q => t σ H fun x H1 => ∃ c, x = .bl c ∧ Q c H1
theorem pt_val {e : Expr} {t : TE} (h : PE X e t) (he : autoParam (∀ whole, isTrue e X.env whole = (do let v ← whole; standAt e.pos; holding [v] (truthy v))) au2_._auto_1) : PT X e (tB t) := by
  intro pins s σ H Q I hw
  refine isTrue_plain (thn (h pins s σ H _ I hw) fun v s1 ⟨x, H1, I1, r1, q1⟩ => ?_) (he _)
  obtain ⟨d, rfl, q⟩ := q1
  cases r1
  exact wpAny_truthy_bool ⟨H1, I1, q⟩

variable {tA tB' : TT} {rest : List Expr}
noncomputable def tOr (t u : TT) : TT := fun σ H Q => t σ H fun c H1 => if c = true then Q true H1 else u σ H1 Q
noncomputable def tNot (t : TT) : TT := fun σ H Q => t σ H fun c H1 => Q (!c) H1
theorem pw_or1 (ha : PT X a tA) : PW X (.BoolOp .Or [a] pos) tA := by
  intro wh pins s σ H Q I h
  refine isTrue_or (thn (ha pins s σ H Q I h) fun c s1 e => ?_)
  cases c with
  | false => exact isTrue_or_nil e
  | true => exact e
theorem pw_or (ha : PT X a tA) (hb : PW X (.BoolOp .Or (b :: rest) pos) tB') : PW X (.BoolOp .Or (a :: b :: rest) pos) (tOr tA tB') := by
  intro wh pins s σ H Q I h
  refine isTrue_or (thn (ha pins s σ H _ I h) fun c s1 ⟨H1, I1, q1⟩ => ?_)
  cases c with
  | true => exact ⟨H1, I1, q1⟩
  | false => exact hb wh pins s1 σ H1 Q I1 q1
theorem pt_not (ha : PT X a tA) : PT X (.UnaryOp .Not a pos) (tNot tA) := by
  intro pins s σ H Q I h
  exact isTrue_not (ha pins s σ H (fun c H1 => Q (!c) H1) I h)
noncomputable def tAndV (ta tb : TE) : TE := fun σ H Q => ta σ H fun x H1 => ∃ c, x = .bl c ∧ if c = true then tb σ H1 Q else Q (.bl false) H1
noncomputable def tNotV (ta : TE) : TE := fun σ H Q => ta σ H fun x H1 => ∃ c, x = .bl c ∧ Q (.bl (!c)) H1
theorem pe_one {op} {t : TE} (h : PE X a t) : PE X (.BoolOp op [a] pos) t := fun pins s σ H Q I hw => BoolOp_one (h pins s σ H Q I hw)
theorem pe_and (ha : PE X a ta) (hb : PE X (.BoolOp .And (b :: rest) pos) tb) : PE X (.BoolOp .And (a :: b :: rest) pos) (tAndV ta tb) := by
  intro pins s σ H Q I h
  refine BoolOp_and (thn (ha pins s σ H _ I h) fun v s1 ⟨x, H1, I1, r1, q1⟩ => ?_)
  obtain ⟨c, rfl, q1⟩ := q1
  cases r1
  refine wpAny_truthy_bool ?_
  cases c with
  | true => exact hb pins s1 σ H1 Q I1 q1
  | false => exact ⟨.bl false, H1, I1, rfl, q1⟩
theorem pe_not (ha : PE X a ta) : PE X (.UnaryOp .Not a pos) (tNotV ta) := by
  intro pins s σ H Q I h
  refine UnaryOp_ (thn (ha pins s σ H _ I h) fun v s1 ⟨x, H1, I1, r1, q1⟩ => ?_)
  obtain ⟨c, rfl, q1⟩ := q1
  cases r1
  exact not_of (wpAny_truthy_bool ⟨.bl (!c), H1, I1, rfl, q1⟩)
end
end L2

namespace L2
open PySem PySem.Spec PyProof.Rows

noncomputable def SqL (K : PySem.W.Frag) (H : Hp) (a : Addr) (xs : List V) : Prop :=
  Rd H a (.lst xs) ∨
    ∃ (o : Obj) (its : Array Value) (n : Nat), K.lookup a = some o ∧ o.cls = .type "list" ∧ o.dict = none ∧ o.data = .seq its n ∧ its.size ≤ sizeLine ∧ Vals xs its.toList
noncomputable def SqT (K : PySem.W.Frag) (H : Hp) (a : Addr) (xs : List V) : Prop :=
  Rd H a (.tup xs) ∨
    ∃ (o : Obj) (its : Array Value) (n : Nat), K.lookup a = some o ∧ o.cls = .type "tuple" ∧ o.data = .seq its n ∧ its.size ≤ sizeLine ∧ Vals xs its.toList
noncomputable def absV : Value → Option V
  | .none => some .non
  | .bool b => some (.bl b)
  | .int i _ => some (.int i)
  | .str x _ => some (.str x)
  | .bytes b _ => some (.byt b)
  | .float b _ => some (.flt b)
  | .ref a => some (.ref a)
  | .type n => some (.ty n)
  | _ => none
theorem RelV.abs {x : V} {u : Value} (r : RelV x u) : absV u = some x := by
  cases x with
  | non => cases r; rfl
  | bl _ => cases r; rfl
  | int _ => obtain ⟨t, rfl⟩ := r; rfl
  | str _ => obtain ⟨t, rfl⟩ := r; rfl
  | byt _ => obtain ⟨t, rfl⟩ := r; rfl
  | flt _ => obtain ⟨t, rfl⟩ := r; rfl
  | ref _ => cases r; rfl
  | ty _ => cases r; rfl
theorem RelV.inj {x y : V} {u : Value} (r : RelV x u) (q : RelV y u) : x = y := Option.some.inj (r.abs.symm.trans q.abs)
theorem Vals.inj : ∀ {xs ys : List V} {us : List Value}, Vals xs us → Vals ys us → xs = ys
  | _, _, _, .nil, .nil => rfl
  | _, _, _, .cons r t, .cons r' t' => by rw [r.inj r', Vals.inj t t']
section
variable {X : Cx} {pins : List (Addr × Obj)} {σ : St} {H : Hp} {s : Shared} {a : Addr} {xs ys : List V}
theorem SqL.of {K : PySem.W.Frag} (h : H a = some (.lst xs)) : SqL K H a xs := .inl (.inl h)
theorem Inv.list (I : Inv X pins σ H s) (h : SqL X.K H a xs) : ∃ its : List Value, Vals xs its ∧ PlainL s.heap a its.toArray ∧ xs.length ≤ sizeLine := by
  rcases h with h | ⟨o, its, n, hk, hc, hd, hs, hz, r⟩
  · obtain ⟨z, its, n, r, e⟩ := h.ok I.hok
    exact ⟨its, r, ⟨_, n, e, rfl, rfl, rfl⟩, z⟩
  · refine ⟨its.toList, r, ⟨o, n, I.kIn a o hk, hc, hd, by simpa using hs⟩, ?_⟩
    have e := r.length
    simp only [Array.length_toList] at e
    omega
theorem Inv.tuple (I : Inv X pins σ H s) (h : SqT X.K H a xs) : ∃ its : List Value, Vals xs its ∧ IsTup s.heap a its.toArray ∧ xs.length ≤ sizeLine := by
  rcases h with h | ⟨o, its, n, hk, hc, hs, hz, r⟩
  · obtain ⟨z, its, r, p⟩ := h.ok I.hok
    exact ⟨its, r, p, z⟩
  · refine ⟨its.toList, r, ⟨o, I.kIn a o hk, hc, n, by simpa using hs⟩, ?_⟩
    have e := r.length
    simp only [Array.length_toList] at e
    omega
theorem Inv.list_inj (I : Inv X pins σ H s) (h : SqL X.K H a xs) (h' : SqL X.K H a ys) : xs = ys := by
  obtain ⟨its, r, ⟨o, n, e, _, _, d⟩, _⟩ := I.list h
  obtain ⟨its', r', ⟨o', n', e', _, _, d'⟩, _⟩ := I.list h'
  rw [e] at e'; cases e'
  rw [d] at d'
  injection d' with d1 _
  have : its = its' := by simpa using congrArg Array.toList d1
  subst this
  exact r.inj r'
end

noncomputable abbrev Cx.wish (X : Cx) (E : Value → Shared → Prop) : Cx := { X with xe := E }
noncomputable abbrev Cx.nox (X : Cx) : Cx := X.wish fun _ _ => False
theorem Cx.Ok.wish {X : Cx} (ok : X.Ok) (E : Value → Shared → Prop) : (X.wish E).Ok :=
  ⟨ok.mod, ok.kind, ok.glob, ok.blt, ok.above, ok.inj, ok.has, ok.cab, ok.hd, ok.frames, ok.stk, ok.exf, ok.bs, ok.bsz, ok.noex, ok.exfs, ok.funs, ok.frf⟩
theorem Cx.Ok.unwish {X : Cx} {E : Value → Shared → Prop} (ok : (X.wish E).Ok) : X.Ok :=
  ⟨ok.mod, ok.kind, ok.glob, ok.blt, ok.above, ok.inj, ok.has, ok.cab, ok.hd, ok.frames, ok.stk, ok.exf, ok.bs, ok.bsz, ok.noex, ok.exfs, ok.funs, ok.frf⟩
section
variable {X : Cx} {pins : List (Addr × Obj)} {σ : St} {H : Hp} {s : Shared} {E : Value → Shared → Prop}
theorem Inv.wish (I : Inv X pins σ H s) (E : Value → Shared → Prop) : Inv (X.wish E) pins σ H s := ⟨I.ok.wish E, I.os, I.bare, I.base, I.loc, I.cell, I.free, I.freeC, I.pin, I.hok, I.len⟩
theorem Inv.unwish (I : Inv (X.wish E) pins σ H s) : Inv X pins σ H s := ⟨I.ok.unwish, I.os, I.bare, I.base, I.loc, I.cell, I.free, I.freeC, I.pin, I.hok, I.len⟩
theorem SP.unwish {D : Ends} {f : Flow} {s' : Shared} (h : SP (X.wish E) pins D f s') : SP X pins D f s' := by
  cases f with
  | next => obtain ⟨σ', H', I, q⟩ := h; exact ⟨σ', H', I.unwish, q⟩
  | brk => obtain ⟨σ', H', I, q⟩ := h; exact ⟨σ', H', I.unwish, q⟩
  | cont => obtain ⟨σ', H', I, q⟩ := h; exact ⟨σ', H', I.unwish, q⟩
  | ret u => obtain ⟨v, σ', H', I, r, q⟩ := h; exact ⟨v, σ', H', I.unwish, r, q⟩
theorem PSs.nox {st : List Stmt} {t : TS} (h : PSs X.nox st t) : PSs X st t := fun pins s σ H D I hw =>
  wpAny_mono (h pins s σ H D (I.wish _) hw) (fun _ _ q => q.unwish) fun _ _ z => False.elim z
end

section
variable {X : Cx} {st : Stmt} {rest : List Stmt} {t u : TS} {e : Expr} {te : TE} {pos : Pos}
noncomputable def tNext : TS := fun D σ H => D.nx σ H
noncomputable def tSeq (t u : TS) : TS := fun D σ H => t { D with nx := u D } σ H
theorem pss_nil : PSs X [] tNext := fun _ _ σ H _ I h => wpAny_execs_nil ⟨σ, H, I, h⟩
theorem pss_cons (h1 : PS X st t) (h2 : PSs X rest u) : PSs X (st :: rest) (tSeq t u) := by
  intro pins s σ H D I h
  refine wpAny_execs_cons (thn (h1 pins s σ H { D with nx := u D } I h) fun f s1 q => ?_)
  cases f with
  | next =>
    obtain ⟨σ', H', I', q⟩ := q
    exact h2 pins s1 σ' H' D I' q
  | ret v => exact q
  | brk => exact q
  | cont => exact q
theorem pss_one (h1 : PS X st t) : PSs X [st] t := by
  intro pins s σ H D I h
  refine wpAny_execs_cons (thn (h1 pins s σ H D I h) fun f s1 q => ?_)
  cases f with
  | next => exact wpAny_execs_nil q
  | ret v => exact q
  | brk => exact q
  | cont => exact q
theorem Inv.quiet {pins : List (Addr × Obj)} {σ : St} {H : Hp} {s : Shared} (I : Inv X pins σ H s) : interactive X.env = false := by simp [interactive, I.ok.kind]
noncomputable def tDrop (te : TE) : TS := fun D σ H => te σ H fun _ H1 => D.nx σ H1
theorem ps_expr (he : PE X e te) (hs : autoParam (swapsWith e none pos.line X.env = pure false) au0_._auto_1) : PS X (.Expr e pos) (tDrop te) := by
  intro pins s σ H D I h
  exact wpAny_Expr_any (thn (he pins s σ H _ I h) fun v s1 ⟨x, H1, I1, r1, q1⟩ => ⟨σ, H1, I1, q1⟩) I.quiet hs
noncomputable def tRet (te : TE) : TS := fun D σ H => te σ H D.rt
theorem ps_ret (he : PE X e te) : PS X (.Return (some e) pos) (tRet te) := by
  intro pins s σ H D I h
  exact wpAny_Return_some (thn (he pins s σ H _ I h) fun v s1 ⟨x, H1, I1, r1, q1⟩ => ⟨x, σ, H1, I1, r1, q1⟩)
noncomputable def tIfS (c : TT) (t u : TS) : TS := fun D σ H => c σ H fun b H1 => if b = true then t D σ H1 else u D σ H1
theorem ps_if {c : Expr} {a b : List Stmt} {tc : TT} (hc : PT X c tc) (ha : PSs X a t) (hb : PSs X b u) : PS X (.If c a b pos) (tIfS tc t u) := by
  intro pins s σ H D I h
  refine wpAny_If (thn (hc pins s σ H _ I h) fun d s1 ⟨H1, I1, q1⟩ => ?_)
  cases d with
  | true => exact ha pins s1 σ H1 D I1 q1
  | false => exact hb pins s1 σ H1 D I1 q1
end

noncomputable abbrev TG := V → St → Hp → (St → Hp → Prop) → Prop
noncomputable def PG (X : Cx) (target : Expr) (t : TG) : Prop :=
  ∀ (pins : List (Addr × Obj)) (s : Shared) (σ : St) (H : Hp) (v : V) (u : Value) (Q : St → Hp → Prop), Inv X pins σ H s → RelV v u → t v σ H Q →
    wpAny (model X.prog X.w) X.A (assign target X.env u) (fun _ s' => ∃ σ' H', Inv X pins σ' H' s' ∧ Q σ' H') X.xe s
section
variable {X : Cx} {pos : Pos}
noncomputable def gName (i : Nat) : TG := fun v σ H Q => Q (σ.set i (some v)) H
theorem pg_name {i : Nat} {x : Str} (hN : X.N.Nodup) (hi : X.N[i]? = some x) (hx : Loc X.env.scope x) (hf : X.fn x = true ∨ X.env.scope.names.lookup x = some .local := by first | exact .inl rfl | exact .inr rfl | assumption) : PG X (.Name x pos) (gName i) := by
  intro pins s σ H v u Q I r h
  exact wpAny_assign_Name (store_ok I hN hi hx r (fun s' I' => ⟨_, H, I', h⟩) hf)
noncomputable def tAsg (te : TE) (g : TG) : TS := fun D σ H => te σ H fun x H1 => g x σ H1 D.nx
theorem ps_asg {tg e : Expr} {te : TE} {g : TG} (he : PE X e te) (hg : PG X tg g) (hs : autoParam (swapsWithSole [tg] e pos.line X.env = pure false) au0_._auto_1) (hw : autoParam (swappedStores [tg] e X.env = pure none) au0_._auto_1)
    (h1 : autoParam ((assignEach [tg] X.env).map (·.2) = [assign tg X.env]) au0_._auto_1) : PS X (.Assign [tg] e pos) (tAsg te g) := by
  intro pins s σ H D I h
  refine wpAny_Assign_stores (thn (he pins s σ H _ I h) fun v s1 ⟨x, H1, I1, r1, q1⟩ => ?_) hs hw
  rw [h1]
  exact thn (hg pins s1 σ H1 x v _ I1 r1 q1) fun _ s2 q => q
theorem ps_set {i : Nat} {x : Str} {e : Expr} {te : TE} {pos' : Pos} (hN : X.N.Nodup) (hi : X.N[i]? = some x) (hx : Loc X.env.scope x) (he : PE X e te) (hs : autoParam (swapsWith e (some (.Name x pos')) pos.line X.env = pure false) au0_._auto_1) (hf : X.fn x = true ∨ X.env.scope.names.lookup x = some .local := by first | exact .inl rfl | exact .inr rfl | assumption) :
    PS X (.Assign [.Name x pos'] e pos) (tAsg te (gName i)) := by
  intro pins s σ H D I h
  refine wpAny_Assign_Name (thn (he pins s σ H _ I h) fun v s1 ⟨y, H1, I1, r1, q1⟩ => ?_) hs
  exact store_ok I1 hN hi hx r1 (fun s2 I2 => ⟨_, H1, I2, q1⟩) hf
end

section
variable {X : Cx} {pos : Pos}
end

structure It where
  go : Nat → Hp → Prop
  yld : Nat → Hp → V → Hp → Prop
  stop : Nat → Hp → Prop
noncomputable def FpOk (X : Cx) (pins : List (Addr × Obj)) (H : Hp) (b : Addr) : Prop :=
  H b = none ∧ b ≠ X.env.locals ∧ b ∉ X.fs ∧ (b ∈ X.ex ∨ X.s₀.heap.objs.size ≤ b) ∧ (∀ x c, X.env.cells.lookup x = some c → c ≠ b) ∧ ∀ p ∈ X.pn ++ pins, p.1 ≠ b
theorem Inv.fpOk {X : Cx} {pins : List (Addr × Obj)} {σ : St} {H H' : Hp} {s : Shared} {b : Addr} (I : Inv X pins σ H s) (hb : s.heap.objs.size ≤ b) (hn : H' b = none) : FpOk X pins H' b := by
  refine ⟨hn, Nat.ne_of_gt (Nat.lt_of_lt_of_le I.lt hb), I.nofs hb, .inr (Nat.le_trans I.sz hb), fun x c e z => ?_, fun p hp z => ?_⟩
  · obtain ⟨v, q⟩ := I.cell x c e
    exact absurd (Nat.lt_of_lt_of_le q.lt (by rw [z]; exact hb)) (Nat.lt_irrefl _)
  · exact absurd (Nat.lt_of_lt_of_le (Heap.lt_size (I.pin p hp).1) (by rw [z]; exact hb)) (Nat.lt_irrefl _)
structure Turn (P : Program) (w : World) (K : PySem.W.Frag) (tg : Expr) (J : It) (fp : List Addr) (it : Addr) (tn : Nat → Heap → Prop) : Prop where
  mem : it ∈ fp
  obj : ∀ i h, tn i h → ∀ b ∈ fp, ∃ o, h.get? b = some o ∧ ∀ v, o.data ≠ .cell v
  keep : ∀ i h h', tn i h → (∀ b ∈ fp, ∀ o, h.get? b = some o → h'.get? b = some o) → tn i h'
  item : ∀ (X : Cx), X.prog = P → X.w = w → X.K = K → X.calm = true → ∀ (i : Nat) (pins : List (Addr × Obj)) (s : Shared) (σ : St) (H : Hp) (E : Value → Shared → Prop), Inv X pins σ H s → (∀ b ∈ fp, FpOk X pins H b) → tn i s.heap → J.go i H →
    wpAny (model P w) X.A (pyNext (.ref it)) (fun r s1 => ∃ u, r = some u ∧
      wpAny (model P w) X.A (letOwnedTupleGo tg (.ref it) u) (fun _ s2 => ∃ x H', Inv X pins σ H' s2 ∧ RelV x u ∧ J.yld i H x H' ∧ tn (i + 1) s2.heap ∧ ∀ b ∈ fp, H' b = none) E s1) E s
  done : ∀ (X : Cx), X.prog = P → X.w = w → X.K = K → X.calm = true → ∀ (i : Nat) (pins : List (Addr × Obj)) (s : Shared) (σ : St) (H : Hp) (E : Value → Shared → Prop), Inv X pins σ H s → (∀ b ∈ fp, FpOk X pins H b) → tn i s.heap → J.stop i H →
    wpAny (model P w) X.A (pyNext (.ref it)) (fun r s1 => r = none ∧ Inv X pins σ H s1) E s
  self : ∀ (A : Around) (i : Nat) (s : Shared) (Q : Value → Shared → Prop) (E : Value → Shared → Prop), tn i s.heap → Q (.ref it) s → wpAny (model P w) A (pyIter (.ref it)) Q E s
noncomputable abbrev TI := St → Hp → (It → Hp → Prop) → Prop
noncomputable def PIE (X : Cx) (pins : List (Addr × Obj)) (σ : St) (tg : Expr) (R : It → Hp → Prop) (itv : Value) (s2 : Shared) : Prop :=
  ∃ (it : Addr) (fp : List Addr) (tn : Nat → Heap → Prop) (J : It) (H' : Hp), itv = .ref it ∧ Inv X pins σ H' s2 ∧ Turn X.prog X.w X.K tg J fp it tn ∧ tn 0 s2.heap ∧ (∀ b ∈ fp, FpOk X pins H' b) ∧ R J H'
noncomputable def PI (X : Cx) (tg iter : Expr) (wi : TI) : Prop :=
  ∀ (pins : List (Addr × Obj)) (s : Shared) (σ : St) (H : Hp) (R : It → Hp → Prop), Inv X pins σ H s → wi σ H R →
    wpAny (model X.prog X.w) X.A (eval iter X.env) (fun v s1 => wpAny (model X.prog X.w) X.A (pyIter v) (PIE X pins σ tg R) X.xe s1) X.xe s

theorem go_of {M : Model} {A : Around} {E : Value → Shared → Prop} {s : Shared} {tg : Expr} {it : Addr} {u : Value} {o : Obj} {n : String} {vs : Array Value} {Q : Unit → Shared → Prop} (ho : s.heap.get? it = some o) (hc : o.cls = .type n) (hd : o.data = .fields vs)
    (hn : ["enumerate", "zip", "dict_itemiterator", "dict_reverseitemiterator", "odict_iterator", "itertools.zip_longest", "itertools.pairwise"].contains n = false) (hQ : Q () s) : wpAny M A (letOwnedTupleGo tg (.ref it) u) Q E s := by
  unfold letOwnedTupleGo
  cases tg <;> first
    | exact wpAny_pure hQ
    | (cases u <;> first
        | exact wpAny_pure hQ
        | (refine wpAny_bind (wpAny_load ho ?_)
           rw [hc, hd]
           show wpAny M A (if (["enumerate", "zip", "dict_itemiterator", "dict_reverseitemiterator", "odict_iterator", "itertools.zip_longest", "itertools.pairwise"].contains n && vs[0]? == some (rawInt _)) = true then _ else _) Q E s
           rw [if_neg (by intro h; rw [hn, Bool.false_and] at h; cases h)]
           exact wpAny_pure hQ))

noncomputable def Itl (K : PySem.W.Frag) (a : Addr) : It :=
  ⟨fun i H => ∃ xs x, SqL K H a xs ∧ xs[i]? = some x, fun i H x H' => H' = H ∧ ∀ xs, SqL K H a xs → xs[i]? = some x, fun i H => ∃ xs, SqL K H a xs ∧ xs.length ≤ i⟩
noncomputable def Itr (lo : Int) (n : Nat) : It := ⟨fun i _ => i < n, fun i H x H' => H' = H ∧ x = .int (lo + i), fun i _ => n ≤ i⟩
theorem turn_list {P : Program} {w : World} {K : PySem.W.Frag} {tg : Expr} (a it : Addr) : Turn P w K tg (Itl K a) [it] it (fun i h => h.IsListIter it a i) where
  mem := by simp
  obj := fun i h st b hb => by
    have e : b = it := by simpa using hb
    subst e
    obtain ⟨o, e, c, d⟩ := st
    exact ⟨o, e, fun v z => by rw [d] at z; cases z⟩
  keep := fun i h h' st k => st.at fun o e => k it (by simp) o e
  item := by
    intro X hP hw hK hc i pins s σ H E I hf st hg
    subst hP hw hK
    obtain ⟨xs, x, hq, hx⟩ := hg
    obtain ⟨its, rv, p, hz⟩ := I.list hq
    obtain ⟨u, hu, ru⟩ := rv.get hx
    obtain ⟨f0, f1, f2, f3, f4, f5⟩ := hf it (by simp)
    refine wpAny_pyNext_list_item st p.isList (x := u) (by simpa using hu) fun h' st' sb => ?_
    have I1 : Inv X pins σ H { s with heap := h' } := I.turned (t' := s.toks) (fun b o hb e => (sb.2 b hb).trans e) f0 f1 f3 f4 f5
    obtain ⟨o, e, c, d⟩ := id st'
    exact ⟨u, rfl, go_of (s := { s with heap := h' }) e c d (by decide) ⟨x, H, I1, ru, ⟨rfl, fun ys hy => by rw [I.list_inj hy hq]; exact hx⟩, st', fun b hb => (hf b hb).1⟩⟩
  done := by
    intro X hP hw hK hc i pins s σ H E I hf st hg
    subst hP hw hK
    obtain ⟨xs, hq, hx⟩ := hg
    obtain ⟨its, rv, p, hz⟩ := I.list hq
    obtain ⟨f0, f1, f2, f3, f4, f5⟩ := hf it (by simp)
    have hl := rv.length
    exact wpAny_pyNext_list_end (I.ok.hd hc) st p.isList (by simp; omega) fun h' eb => ⟨rfl, I.turned (t' := s.toks) (fun b o hb e => eb b o hb e) f0 f1 f3 f4 f5⟩
  self := fun _ _ _ _ _ st h => wpAny_pyIter_listiter st h
theorem turn_range {P : Program} {w : World} {K : PySem.W.Frag} {tg : Expr} (it : Addr) (lo : Int) (n : Nat) : Turn P w K tg (Itr lo n) [it] it (fun i h => IsRangeIter h it (lo + (i : Nat) * 1) ((n : Int) - (i : Nat)) 1) where
  mem := by simp
  obj := fun i h st b hb => by
    have e : b = it := by simpa using hb
    subst e
    exact ⟨_, st, fun v z => by
      have z' : Data.fields _ = Data.cell v := z
      cases z'⟩
  keep := fun i h h' st k => k it (by simp) _ st
  item := by
    intro X hP hw hK hc i pins s σ H E I hf st hg
    subst hP hw hK
    obtain ⟨f0, f1, f2, f3, f4, f5⟩ := hf it (by simp)
    have W := Walks.range (prog := X.prog) (w := X.w) (I.ok.hd hc) it lo 1 n
    refine W.item i s _ _ hg st fun v h' tk hv st' kk => ?_
    obtain ⟨t, rfl⟩ := hv
    have I1 : Inv X pins σ H { s with heap := h', toks := tk } := I.turned (fun b o hb e => kk b o (by simpa using hb) e) f0 f1 f3 f4 f5
    refine ⟨_, rfl, go_of (s := { s with heap := h', toks := tk }) (n := "range_iterator") st' rfl rfl (by decide) ⟨.int (lo + i), H, I1, ⟨t, ?_⟩, ⟨rfl, rfl⟩, st', fun b hb => (hf b hb).1⟩⟩
    rw [Int.mul_one]
  done := by
    intro X hP hw hK hc i pins s σ H E I hf st hg
    subst hP hw hK
    obtain ⟨f0, f1, f2, f3, f4, f5⟩ := hf it (by simp)
    exact wpAny_pyNext_range_end (I.ok.hd hc) st (by have : n ≤ i := hg; omega) fun h' eb => ⟨rfl, I.turned (t' := s.toks) (fun b o hb e => eb b o hb e) f0 f1 f3 f4 f5⟩
  self := fun _ _ _ _ _ st h => wpAny_pyIter_rangeiter st h
end L2

namespace L2
open PySem PySem.Spec PyProof.Rows
section
variable {X : Cx} {tg : Expr}
noncomputable def iList (K : PySem.W.Frag) (tl : TE) : TI := fun σ H R => tl σ H fun x H1 => ∃ a, x = .ref a ∧ (∃ xs, SqL K H1 a xs) ∧ R (Itl K a) H1
theorem pi_list {l : Expr} {tl : TE} (hl : PE X l tl) : PI X tg l (iList X.K tl) := by
  intro pins s σ H R I h
  refine thn (hl pins s σ H _ I h) fun v s1 ⟨x, H1, I1, r1, q1⟩ => ?_
  obtain ⟨a, e, ⟨xs, hq⟩, q⟩ := q1
  subst e
  cases r1
  obtain ⟨its, rv, p, hz⟩ := I1.list hq
  refine wpAny_pyIter_list p.isList ?_
  refine ⟨s1.heap.objs.size, [s1.heap.objs.size], _, _, H1, rfl, I1.kept (t' := s1.toks) fun b o e => Heap.get?_push_of_some _ e, turn_list a _, ⟨_, Heap.get?_push_size _ rfl, rfl, rfl⟩, fun b hb => ?_, q⟩
  have e : b = s1.heap.objs.size := by simpa using hb
  subst e
  exact I1.fpOk (Nat.le_refl _) (I1.hok.fresh (Nat.le_refl _))
theorem range_it {pins : List (Addr × Obj)} {σ : St} {H : Hp} {s : Shared} {R : It → Hp → Prop} {E : Value → Shared → Prop} {lo hi : Int} {t u v : Tok} {tk : Nat} (I : Inv X pins σ H s) (h1 : -(2 ^ 62) ≤ lo) (h2 : lo < 2 ^ 62) (h3 : -(2 ^ 62) ≤ hi) (h4 : hi < 2 ^ 62)
    (q : R (Itr lo (hi - lo).toNat) H) : wpAny (model X.prog X.w) X.A (pyIter (.ref s.heap.objs.size)) (PIE X pins σ tg R) E { s with heap := s.heap.push { cls := .type "range", data := .fields #[.int lo t, .int hi u, .int 1 v] }, toks := tk } := by
  refine wpAny_pyIter_range (IsRange.new ..) (small_one h1 h2 h3 h4) ?_
  have I1 : Inv X pins σ H { s with heap := s.heap.push { cls := .type "range", data := .fields #[.int lo t, .int hi u, .int 1 v] }, toks := tk } := I.kept fun b o e => Heap.get?_push_of_some _ e
  refine ⟨(s.heap.push { cls := .type "range", data := .fields #[.int lo t, .int hi u, .int 1 v] }).objs.size, [(s.heap.push { cls := .type "range", data := .fields #[.int lo t, .int hi u, .int 1 v] }).objs.size], _, _, H, rfl,
    I1.kept (t' := tk) fun b o e => Heap.get?_push_of_some _ e, turn_range _ lo (hi - lo).toNat, ?_, fun b hb => ?_, q⟩
  · have e1 : lo + ((0 : Nat) : Int) * 1 = lo := by simp
    have e2 : (((hi - lo).toNat : Nat) : Int) - ((0 : Nat) : Int) = Builtin.Range.rangeSize lo hi 1 := by rw [rangeSize_one]; split <;> omega
    show IsRangeIter _ _ (lo + ((0 : Nat) : Int) * 1) ((((hi - lo).toNat : Nat) : Int) - ((0 : Nat) : Int)) 1
    rw [e1, e2]
    exact Heap.get?_push_size _ rfl
  · have e : b = (s.heap.push { cls := .type "range", data := .fields #[.int lo t, .int hi u, .int 1 v] }).objs.size := by simpa using hb
    subst e
    exact I1.fpOk (Nat.le_refl _) (I1.hok.fresh (Nat.le_refl _))
noncomputable def iRng1 (ta : TA) : TI := fun σ H R => ta σ H fun vs H1 => ∃ j : Int, vs = [.int j] ∧ -(2 ^ 62) ≤ j ∧ j < 2 ^ 62 ∧ R (Itr 0 j.toNat) H1
theorem pi_range1 {a : Expr} {ta : TA} {p pos : Pos} (hg : Gl X "range") (hm : X.mg "range" = none) (ha : PA X [a] ta) (hs : autoParam (starEach [a] X.env = [(false, eval a X.env)]) au0_._auto_1) : PI X tg (.Call (.Name "range" p) [a] [] pos) (iRng1 ta) := by
  intro pins s σ H R I h
  refine Call_ (ld_blt I hg hm boot_range (PyProof.Rows.callWith_type1 (thn (ha pos pins s σ H _ I h) fun us s1 ⟨vs, H1, I1, r1, q1⟩ => ?_) hs rfl))
  obtain ⟨j, e, q1, q2, q⟩ := q1
  subst e
  cases r1 with
  | cons r rr =>
    cases rr
    obtain ⟨t, rfl⟩ := r
    exact call_range_1 (range_it I1 (by omega) (by omega) q1 q2 (by simpa using q))
noncomputable def tFor (wi : TI) (g : TG) (tb : TS) : TS := fun D σ H => wi σ H fun J H1 => ∃ W : Nat → Nat → St → Hp → Prop, (∃ m, W 0 m σ H1) ∧ ∀ i m σ H, W i m σ H →
  (J.stop i H ∧ D.nx σ H) ∨ (J.go i H ∧ ∃ N : St → Hp → Prop, (∀ σ' H', N σ' H' → ∃ m', m' < m ∧ W (i + 1) m' σ' H') ∧ ∀ x H', J.yld i H x H' → g x σ H' fun σ2 H2 => tb { D with nx := N, ct := N, bk := D.nx } σ2 H2)
noncomputable def pinsAt (fp : List Addr) (h : Heap) : List (Addr × Obj) := fp.filterMap fun b => (h.get? b).map fun o => (b, o)
theorem mem_pinsAt {fp : List Addr} {h : Heap} {b : Addr} {o : Obj} (hb : b ∈ fp) (e : h.get? b = some o) : (b, o) ∈ pinsAt fp h := List.mem_filterMap.mpr ⟨b, hb, by rw [e]; rfl⟩
theorem of_pinsAt {fp : List Addr} {h : Heap} {p : Addr × Obj} (hp : p ∈ pinsAt fp h) : p.1 ∈ fp ∧ h.get? p.1 = some p.2 := by
  obtain ⟨b, hb, e⟩ := List.mem_filterMap.mp hp
  cases q : h.get? b with
  | none => rw [q] at e; cases e
  | some o =>
    rw [q] at e
    have e' : (b, o) = p := Option.some.inj e
    subst e'
    exact ⟨hb, q⟩
theorem Inv.pinned {pins : List (Addr × Obj)} {σ : St} {H : Hp} {s : Shared} {fp : List Addr} (I : Inv X pins σ H s) (hf : ∀ b ∈ fp, FpOk X pins H b) (ho : ∀ b ∈ fp, ∃ o, s.heap.get? b = some o ∧ ∀ v, o.data ≠ .cell v) : Inv X (pins ++ pinsAt fp s.heap) σ H s :=
  I.pins_of fun p hp => (List.mem_append.mp hp).elim (fun z => I.pin p (List.mem_append_right _ z)) fun z => by
    obtain ⟨hb, e⟩ := of_pinsAt z
    obtain ⟨f0, f1, f2, _⟩ := hf p.1 hb
    obtain ⟨o, e', d⟩ := ho p.1 hb
    rw [e] at e'; cases e'
    exact ⟨e, f0, f1, f2, d⟩
theorem Inv.unpinned {pins pl : List (Addr × Obj)} {σ : St} {H : Hp} {s : Shared} (I : Inv X (pins ++ pl) σ H s) : Inv X pins σ H s := I.pins_of fun p hp => I.pin p (List.mem_append_right _ (List.mem_append_left _ hp))
theorem ps_for {iter : Expr} {body : List Stmt} {wi : TI} {g : TG} {tb : TS} {pos : Pos} (hp : PassesOwn (model X.prog X.w) X.A X.env X.xe) (hc : X.calm = true) (hi : PI X tg iter wi) (hg : PG X tg g) (hb : PSs X body tb)
    (hs : autoParam (∀ x, foldedSetIterable iter X.env x = pure x) au2_._auto_1) : PS X (.For tg iter body [] pos) (tFor wi g tb) := by
  intro pins s σ H D I h
  refine wpAny_For (thn (hi pins s σ H _ I h) fun v s1 h1 => thn h1 fun itv s2 h2 => ?_) hs
  obtain ⟨it, fp, tn, J, H2, e, I2, T, st2, f2, W, ⟨m0, w0⟩, turn⟩ := h2
  subst e
  -- what stays true of the iterator's objects through the loop
  have stat : ∀ {H' : Hp}, (∀ b ∈ fp, H' b = none) → ∀ b ∈ fp, FpOk X pins H' b := fun hn b hb => ⟨hn b hb, (f2 b hb).2⟩
  refine codeAny_forLoop_any (fun n s' => ∃ i σ' H', Inv X pins σ' H' s' ∧ tn i s'.heap ∧ (∀ b ∈ fp, H' b = none) ∧ W i n σ' H') ?_ m0 ⟨0, σ, H2, I2, st2, fun b hb => (f2 b hb).1, w0⟩
  rintro n s3 ⟨i, σ3, H3, I3, st3, fr3, w3⟩
  rcases turn i n σ3 H3 w3 with ⟨stop, qn⟩ | ⟨go, N, hN, step⟩
  · refine wpAny_passesOwn hp (thn (T.done X rfl rfl rfl hc i pins s3 σ3 H3 X.xe I3 (stat fr3) st3 stop) fun r s4 ⟨hr, I4⟩ => ?_)
    subst hr
    exact wpAny_execs_nil ⟨σ3, H3, I4, qn⟩
  · refine wpAny_passesOwn hp (thn (T.item X rfl rfl rfl hc i pins s3 σ3 H3 X.xe I3 (stat fr3) st3 go) fun r s4 ⟨u, hr, h4⟩ => ?_)
    subst hr
    refine wpAny_passesOwn hp (thn h4 fun _ s5 ⟨x, H5, I5, r5, y5, st5, fr5⟩ => ?_)
    have I5' := I5.pinned (stat fr5) (T.obj _ _ st5)
    refine wpAny_passesOwn hp (thn (hg _ s5 σ3 H5 x u _ I5' r5 (step x H5 y5)) fun _ s6 ⟨σ6, H6, I6, q6⟩ => ?_)
    refine wpAny_passesOwn hp (thn (hb _ s6 σ6 H6 _ I6 q6) fun f s7 q7 => ?_)
    have again : ∀ {σ7 : St} {H7 : Hp}, Inv X (pins ++ pinsAt fp s5.heap) σ7 H7 s7 → N σ7 H7 → ∃ m, m < n ∧ ∃ i σ' H', Inv X pins σ' H' s7 ∧ tn i s7.heap ∧ (∀ b ∈ fp, H' b = none) ∧ W i m σ' H' := fun {σ7 H7} I7 n7 => by
      obtain ⟨m', hm, w7⟩ := hN σ7 H7 n7
      refine ⟨m', hm, i + 1, σ7, H7, I7.unpinned, T.keep _ _ _ st5 fun b hb o e => (I7.pin (b, o) (List.mem_append_right _ (List.mem_append_right _ (mem_pinsAt hb e)))).1, fun b hb => ?_, w7⟩
      obtain ⟨o, e, d⟩ := T.obj _ _ st5 b hb
      exact (I7.pin (b, o) (List.mem_append_right _ (List.mem_append_right _ (mem_pinsAt hb e)))).2.1
    cases f with
    | next => obtain ⟨σ7, H7, I7, n7⟩ := q7; exact again I7 n7
    | cont => obtain ⟨σ7, H7, I7, n7⟩ := q7; exact again I7 n7
    | brk => obtain ⟨σ7, H7, I7, q7⟩ := q7; exact ⟨σ7, H7, I7.unpinned, q7⟩
    | ret v => obtain ⟨x7, σ7, H7, I7, r7, q7⟩ := q7; exact ⟨x7, σ7, H7, I7.unpinned, r7, q7⟩
end

theorem for_list {K : PySem.W.Frag} {a : Addr} {xs : List V} {g : TG} {tb : TS} {D : Ends} {σ : St} {H : Hp} (Pv : Nat → St → Hp → Prop) (h0 : Pv 0 σ H) (hl : ∀ i σ H, i ≤ xs.length → Pv i σ H → SqL K H a xs)
    (hs : ∀ i x σ H, xs[i]? = some x → Pv i σ H → g x σ H fun σ2 H2 => tb { D with nx := Pv (i + 1), ct := Pv (i + 1), bk := D.nx } σ2 H2) (hd : ∀ σ H, Pv xs.length σ H → D.nx σ H) :
    ∃ W : Nat → Nat → St → Hp → Prop, (∃ m, W 0 m σ H) ∧ ∀ i m σ H, W i m σ H →
      ((Itl K a).stop i H ∧ D.nx σ H) ∨ ((Itl K a).go i H ∧ ∃ N : St → Hp → Prop, (∀ σ' H', N σ' H' → ∃ m', m' < m ∧ W (i + 1) m' σ' H') ∧ ∀ x H', (Itl K a).yld i H x H' → g x σ H' fun σ2 H2 => tb { D with nx := N, ct := N, bk := D.nx } σ2 H2) := by
  refine ⟨fun i m σ H => m = xs.length - i ∧ i ≤ xs.length ∧ Pv i σ H, ⟨xs.length, by simp, Nat.zero_le _, h0⟩, ?_⟩
  rintro i m σ H ⟨rfl, hi, p⟩
  have q := hl i σ H hi p
  by_cases hlt : i < xs.length
  · refine .inr ⟨⟨xs, xs[i], q, by simp [hlt]⟩, Pv (i + 1), fun σ' H' p' => ⟨xs.length - (i + 1), by omega, rfl, hlt, p'⟩, fun x H' y => ?_⟩
    obtain ⟨e, y⟩ := y
    subst e
    exact hs i x σ _ (y xs q) p
  · have e : i = xs.length := by omega
    subst e
    exact .inl ⟨⟨xs, q, Nat.le_refl _⟩, hd σ H p⟩
theorem for_range {lo : Int} {n : Nat} {g : TG} {tb : TS} {D : Ends} {σ : St} {H : Hp} (Pv : Nat → St → Hp → Prop) (h0 : Pv 0 σ H)
    (hs : ∀ i σ H, i < n → Pv i σ H → g (.int (lo + i)) σ H fun σ2 H2 => tb { D with nx := Pv (i + 1), ct := Pv (i + 1), bk := D.nx } σ2 H2) (hd : ∀ σ H, Pv n σ H → D.nx σ H) :
    ∃ W : Nat → Nat → St → Hp → Prop, (∃ m, W 0 m σ H) ∧ ∀ i m σ H, W i m σ H →
      ((Itr lo n).stop i H ∧ D.nx σ H) ∨ ((Itr lo n).go i H ∧ ∃ N : St → Hp → Prop, (∀ σ' H', N σ' H' → ∃ m', m' < m ∧ W (i + 1) m' σ' H') ∧ ∀ x H', (Itr lo n).yld i H x H' → g x σ H' fun σ2 H2 => tb { D with nx := N, ct := N, bk := D.nx } σ2 H2) := by
  refine ⟨fun i m σ H => m = n - i ∧ i ≤ n ∧ Pv i σ H, ⟨n, by simp, Nat.zero_le _, h0⟩, ?_⟩
  rintro i m σ H ⟨rfl, hi, p⟩
  by_cases hlt : i < n
  · refine .inr ⟨hlt, Pv (i + 1), fun σ' H' p' => ⟨n - (i + 1), by omega, rfl, hlt, p'⟩, fun x H' y => ?_⟩
    obtain ⟨e, y⟩ := y
    subst e y
    exact hs i σ _ hlt p
  · have e : i = n := by omega
    subst e
    exact .inl ⟨Nat.le_refl _, hd σ H p⟩
end L2

namespace L2
open PySem PySem.Spec PyProof.Rows

noncomputable abbrev R2 := V → V → Hp → VK → Prop
noncomputable def OpR (X : Cx) (f : Value → Value → Sem Value) (r : R2) : Prop :=
  ∀ (pins : List (Addr × Obj)) (s : Shared) (σ : St) (H : Hp) (x y : V) (v u : Value) (Q : VK), Inv X pins σ H s → RelV x v → RelV y u → r x y H Q →
    wpAny (model X.prog X.w) X.A (f v u) (EP X pins σ Q) X.xe s
noncomputable def UnR (X : Cx) (f : Value → Sem Value) (r : V → Hp → VK → Prop) : Prop :=
  ∀ (pins : List (Addr × Obj)) (s : Shared) (σ : St) (H : Hp) (x : V) (v : Value) (Q : VK), Inv X pins σ H s → RelV x v → r x H Q →
    wpAny (model X.prog X.w) X.A (f v) (EP X pins σ Q) X.xe s
noncomputable def CallR (X : Cx) (f : Value) (r : List V → Hp → VK → Prop) : Prop :=
  ∀ (pins : List (Addr × Obj)) (s : Shared) (σ : St) (H : Hp) (xs : List V) (us : List Value) (Q : VK), Inv X pins σ H s → Vals xs us → r xs H Q →
    wpAny (model X.prog X.w) X.A (call f us) (EP X pins σ Q) X.xe s
noncomputable def tOp (r : R2) (ta tb : TE) : TE := fun σ H Q => ta σ H fun x H1 => tb σ H1 fun y H2 => r x y H2 Q
noncomputable def tUn (r : V → Hp → VK → Prop) (ta : TE) : TE := fun σ H Q => ta σ H fun x H1 => r x H1 Q
noncomputable def rI (C : Int → Int → Prop) (g : Int → Int → V) : R2 := fun x y H Q => ∃ i j, x = .int i ∧ y = .int j ∧ C i j ∧ Q (g i j) H
noncomputable def rI0 (g : Int → Int → V) : R2 := fun x y H Q => ∃ i j, x = .int i ∧ y = .int j ∧ Q (g i j) H
noncomputable def rU (g : Int → V) : V → Hp → VK → Prop := fun x H Q => ∃ i, x = .int i ∧ Q (g i) H

section
variable {X : Cx} {a b c : Expr} {ta tb tc : TE} {pos : Pos}

theorem binT (ha : PE X a ta) (hb : PE X b tb) {pins : List (Addr × Obj)} {s : Shared} {σ : St} {H : Hp} {R : V → V → Hp → Prop} (I : Inv X pins σ H s)
    (h : ta σ H fun x H1 => tb σ H1 fun y H2 => R x y H2) {Q : Value → Shared → Prop} {f : Value → Value → Sem Value}
    (hf : ∀ v u s2 x y H2, Inv X pins σ H2 s2 → RelV x v → RelV y u → R x y H2 → wpAny (model X.prog X.w) X.A (f v u) Q X.xe s2) :
    wpAny (model X.prog X.w) X.A (eval a X.env) (fun v s₁ => wpAny (model X.prog X.w) X.A (eval b X.env) (fun u s₂ => wpAny (model X.prog X.w) X.A (f v u) Q X.xe s₂) X.xe s₁) X.xe s := by
  refine thn (ha pins s σ H _ I h) fun v s1 ⟨x, H1, I1, r1, q1⟩ => ?_
  refine thn (hb pins s1 σ H1 _ I1 q1) fun u s2 ⟨y, H2, I2, r2, q2⟩ => ?_
  exact hf v u s2 x y H2 I2 r1 r2 q2

theorem pe_op {op : Operator} {r : R2} (ho : OpR X (binaryOp op) r) (ha : PE X a ta) (hb : PE X b tb) : PE X (.BinOp a op b pos) (tOp r ta tb) := by
  intro pins s σ H Q I h
  exact wpAny_BinOp (binT ha hb I h fun v u s2 x y H2 I2 rx ry q => ho pins s2 σ H2 x y v u Q I2 rx ry q)
theorem pe_un {op : UnaryOp} {r : V → Hp → VK → Prop} (ho : UnR X (unaryOp op) r) (ha : PE X a ta) : PE X (.UnaryOp op a pos) (tUn r ta) := by
  intro pins s σ H Q I h
  exact UnaryOp_ (thn (ha pins s σ H _ I h) fun v s1 ⟨x, H1, I1, r1, q1⟩ => ho pins s1 σ H1 x v Q I1 r1 q1)
theorem opI {f : Value → Value → Sem Value} {C : Int → Int → Prop} {g : Int → Int → Int}
    (rule : ∀ (i j : Int) (t u : Tok) (s : Shared) (Q : Value → Shared → Prop) (E : Value → Shared → Prop), C i j → Q (.int (g i j) s.toks) { s with toks := s.toks + 1 } → wpAny (model X.prog X.w) X.A (f (.int i t) (.int j u)) Q E s) :
    OpR X f (rI C fun i j => .int (g i j)) := by
  intro pins s σ H x y v u Q I rx ry h
  obtain ⟨i, j, rfl, rfl, hc, q⟩ := h
  obtain ⟨t, rfl⟩ := rx
  obtain ⟨t', rfl⟩ := ry
  exact rule i j t t' s _ _ hc ⟨.int (g i j), H, I.tok _, ⟨_, rfl⟩, q⟩
theorem opI0 {f : Value → Value → Sem Value} {g : Int → Int → Int}
    (rule : ∀ (i j : Int) (t u : Tok) (s : Shared) (Q : Value → Shared → Prop) (E : Value → Shared → Prop), Q (.int (g i j) s.toks) { s with toks := s.toks + 1 } → wpAny (model X.prog X.w) X.A (f (.int i t) (.int j u)) Q E s) :
    OpR X f (rI0 fun i j => .int (g i j)) := by
  intro pins s σ H x y v u Q I rx ry h
  obtain ⟨i, j, rfl, rfl, q⟩ := h
  obtain ⟨t, rfl⟩ := rx
  obtain ⟨t', rfl⟩ := ry
  exact rule i j t t' s _ _ ⟨.int (g i j), H, I.tok _, ⟨_, rfl⟩, q⟩
theorem opB0 {f : Value → Value → Sem Value} {g : Int → Int → Bool}
    (rule : ∀ (i j : Int) (t u : Tok) (s : Shared) (Q : Value → Shared → Prop) (E : Value → Shared → Prop), Q (.bool (g i j)) s → wpAny (model X.prog X.w) X.A (f (.int i t) (.int j u)) Q E s) :
    OpR X f (rI0 fun i j => .bl (g i j)) := by
  intro pins s σ H x y v u Q I rx ry h
  obtain ⟨i, j, rfl, rfl, q⟩ := h
  obtain ⟨t, rfl⟩ := rx
  obtain ⟨t', rfl⟩ := ry
  exact rule i j t t' s _ _ ⟨.bl (g i j), H, I, rfl, q⟩

noncomputable def CPow (i j : Int) : Prop := 0 ≤ j ∧ j ≤ 1000000 ∧ i.natAbs < 2 ^ 64
noncomputable def CMul (i j : Int) : Prop := (-(2 ^ 64) < i ∧ i < 2 ^ 64) ∨ (-(2 ^ 64) < j ∧ j < 2 ^ 64)
theorem CMul.ok {i j : Int} (h : CMul i j) : IntMulOk i j := by
  rcases h with ⟨h1, h2⟩ | ⟨h1, h2⟩
  · exact .of_left (intBits_le_64 h1 h2)
  · exact .of_right (intBits_le_64 h1 h2)
theorem op_add : OpR X (binaryOp .Add) (rI0 fun i j => .int (i + j)) := opI0 fun _ _ _ _ _ _ _ q => add_int q
theorem op_mod : OpR X (binaryOp .Mod) (rI (fun _ j => 0 < j) fun i j => .int (i % j)) := opI fun i j _ _ _ _ _ hc q => by
  have h1 : (0 : Int) < j := hc
  exact mod_int' (by omega) (by rw [Int.fmod_eq_emod_of_nonneg i (by omega)]; exact q)
theorem op_pow : OpR X (binaryOp .Pow) (rI CPow fun i j => .int (i ^ j.toNat)) := opI fun _ _ _ _ _ _ _ hc q => pow_int_small hc.1 hc.2.1 hc.2.2 q
theorem unI {f : Value → Sem Value} {g : Int → Int}
    (rule : ∀ (i : Int) (t : Tok) (s : Shared) (Q : Value → Shared → Prop) (E : Value → Shared → Prop), Q (.int (g i) s.toks) { s with toks := s.toks + 1 } → wpAny (model X.prog X.w) X.A (f (.int i t)) Q E s) :
    UnR X f (rU fun i => .int (g i)) := by
  intro pins s σ H x v Q I rx h
  obtain ⟨i, rfl, q⟩ := h
  obtain ⟨t, rfl⟩ := rx
  exact rule i t s _ _ ⟨.int (g i), H, I.tok _, ⟨_, rfl⟩, q⟩
theorem un_neg : UnR X (unaryOp .USub) (rU fun i => .int (-i)) := unI fun _ _ _ _ _ q => neg_int q
end

noncomputable def scal : V → V → Bool
  | .non, .non => true | .non, .int _ => true | .int _, .non => true | .non, .bl _ => true | .bl _, .non => true | .non, .str _ => true | .str _, .non => true
  | .int _, .int _ => true | .bl _, .bl _ => true | .str _, .str _ => true | .byt _, .byt _ => true
  | .int _, .str _ => true | .str _, .int _ => true | .bl _, .str _ => true | .str _, .bl _ => true
  | _, _ => false
noncomputable def rEq : R2 := fun x y H Q => scal x y = true ∧ Q (.bl (decide (x = y))) H
theorem dec_int {i j : Int} : decide (V.int i = V.int j) = (i == j) := by
  rw [Bool.eq_iff_iff]
  simp
theorem dec_bl {i j : Bool} : decide (V.bl i = V.bl j) = (i == j) := by
  rw [Bool.eq_iff_iff]
  simp
theorem dec_str {i j : Str} : decide (V.str i = V.str j) = (i == j) := by
  rw [Bool.eq_iff_iff]
  simp
theorem dec_byt {i j : Array UInt8} : decide (V.byt i = V.byt j) = (i.toList == j.toList) := by
  rw [Bool.eq_iff_iff]
  cases i
  cases j
  simp

section
variable {X : Cx} {a b c : Expr} {ta tb tc : TE} {pos : Pos}
theorem fin_bl {pins : List (Addr × Obj)} {σ : St} {H : Hp} {s : Shared} {Q : VK} {k k' : Bool} (I : Inv X pins σ H s) (q : Q (.bl k) H) (e : k = k') : EP X pins σ Q (.bool k') s := by
  subst e
  exact ⟨.bl k, H, I, rfl, q⟩
theorem op_eq : OpR X (compareOp .Eq) rEq := by
  intro pins s σ H x y v u Q I rx ry h
  obtain ⟨hs, q⟩ := h
  cases x with
  | non =>
    cases rx
    cases y with
    | non => cases ry; exact PySem.EqNone.eq_none_none (fin_bl I q (by simp))
    | bl j => cases ry; exact PySem.EqNone.eq_none_bool (fin_bl I q (by simp))
    | int j => obtain ⟨t', rfl⟩ := ry; exact PySem.EqNone.eq_none_int (fin_bl I q (by simp))
    | str j => obtain ⟨t', rfl⟩ := ry; exact PySem.EqNone.eq_none_str (fin_bl I q (by simp))
    | _ => exact absurd (show false = true from hs) Bool.false_ne_true
  | bl i =>
    cases rx
    cases y with
    | non => cases ry; exact PySem.EqNone.eq_bool_none (fin_bl I q (by simp))
    | bl j => cases ry; exact eq_bool (fin_bl I q dec_bl)
    | str j => obtain ⟨t', rfl⟩ := ry; exact PySem.EqMixed.eq_bool_str (fin_bl I q (by simp))
    | _ => exact absurd (show false = true from hs) Bool.false_ne_true
  | int i =>
    obtain ⟨t, rfl⟩ := rx
    cases y with
    | non => cases ry; exact PySem.EqNone.eq_int_none (fin_bl I q (by simp))
    | int j => obtain ⟨t', rfl⟩ := ry; exact eq_int (fin_bl I q dec_int)
    | str j => obtain ⟨t', rfl⟩ := ry; exact PySem.EqMixed.eq_int_str (fin_bl I q (by simp))
    | _ => exact absurd (show false = true from hs) Bool.false_ne_true
  | str i =>
    obtain ⟨t, rfl⟩ := rx
    cases y with
    | non => cases ry; exact PySem.EqNone.eq_str_none (fin_bl I q (by simp))
    | bl j => cases ry; exact PySem.EqMixed.eq_str_bool (fin_bl I q (by simp))
    | int j => obtain ⟨t', rfl⟩ := ry; exact PySem.EqMixed.eq_str_int (fin_bl I q (by simp))
    | str j => obtain ⟨t', rfl⟩ := ry; exact eq_str (fin_bl I q dec_str)
    | _ => exact absurd (show false = true from hs) Bool.false_ne_true
  | byt i =>
    obtain ⟨t, rfl⟩ := rx
    cases y with
    | byt j => obtain ⟨t', rfl⟩ := ry; exact PySem.W.eq_bytes (fin_bl I q dec_byt)
    | _ => exact absurd (show false = true from hs) Bool.false_ne_true
  | _ => cases y <;> exact absurd (show false = true from hs) Bool.false_ne_true
theorem op_lt : OpR X (compareOp .Lt) (rI0 fun i j => .bl (decide (i < j))) := opB0 fun _ _ _ _ _ _ _ q => lt_int q
theorem op_gt : OpR X (compareOp .Gt) (rI0 fun i j => .bl (decide (j < i))) := opB0 fun _ _ _ _ _ _ _ q => gt_int q
theorem nomark (b : Expr) {op : CmpOp} (h : autoParam (op ≠ .In) au1_._auto_1) (h2 : autoParam (op ≠ .NotIn) au1_._auto_1) : behindInMarks op b = false := by
  have e1 : (op == CmpOp.In) = false := by cases op <;> first | rfl | exact absurd rfl h
  have e2 : (op == CmpOp.NotIn) = false := by cases op <;> first | rfl | exact absurd rfl h2
  cases b <;> simp [behindInMarks, e1, e2]
theorem pe_cmpR {op : CmpOp} {r : R2} (ho : OpR X (compareOp op) r) (ha : PE X a ta) (hb : PE X b tb) (hm : behindInMarks op b = false) : PE X (.Compare a [op] [b] pos) (tOp r ta tb) := by
  intro pins s σ H Q I h
  exact wpAny_Compare1 (binT ha hb I h fun v u s2 x y H2 I2 rx ry q => ho pins s2 σ H2 x y v u Q I2 rx ry q) hm
noncomputable def tTest (t : TE) : TT := fun σ H Q => t σ H fun x H' => ∃ k, x = .bl k ∧ Q k H'
theorem pt_cmpR {op : CmpOp} {r : R2} (ho : OpR X (compareOp op) r) (ha : PE X a ta) (hb : PE X b tb) (hm : behindInMarks op b = false) : PT X (.Compare a [op] [b] pos) (tTest (tOp r ta tb)) := by
  intro pins s σ H Q I h
  refine wpAny_isTrue_Compare1 (thn (ha pins s σ H _ I h) fun v s1 ⟨x, H1, I1, r1, q1⟩ => thn (hb pins s1 σ H1 _ I1 q1) fun u s2 ⟨y, H2, I2, r2, q2⟩ =>
    thn (ho pins s2 σ H2 x y v u _ I2 r1 r2 q2) fun c s3 ⟨z, H3, I3, r3, k, e, q3⟩ => ?_) hm
  subst e
  cases r3
  exact wpAny_truthy_bool ⟨H3, I3, q3⟩
theorem line63 : (sizeLine : Nat) < 2 ^ 63 := by rw [sizeLine_eq]; decide
theorem vals1 {x : V} {us : List Value} (r : Vals [x] us) : ∃ u, us = [u] ∧ RelV x u := by
  cases r with
  | cons r1 r2 => cases r2; exact ⟨_, rfl, r1⟩
theorem vals2 {x y : V} {us : List Value} (r : Vals [x, y] us) : ∃ u w', us = [u, w'] ∧ RelV x u ∧ RelV y w' := by
  cases r with
  | cons r1 r2 =>
    cases r2 with
    | cons r3 r4 => cases r4; exact ⟨_, _, rfl, r1, r3⟩
theorem call_abs : CallR X (.builtin "abs") (fun xs H Q => ∃ i, xs = [.int i] ∧ Q (.int (if i < 0 then -i else i)) H) := by
  intro pins s σ H xs us Q I r h
  obtain ⟨i, rfl, q⟩ := h
  obtain ⟨u, rfl, t, rfl⟩ := vals1 r
  exact call_abs_int fun u tk => ⟨.int (if i < 0 then -i else i), H, I.tok _, ⟨_, rfl⟩, q⟩
end
end L2

namespace L2
open PySem PySem.Spec PyProof.Rows

structure ObjM (h : Heap) (x dx C : Addr) (mA : Str → Option Value) : Prop where
  obj : h.get? x = some (PySem.W.instObj C dx)
  ns : h.Ns1 dx mA
  ne : dx ≠ x

theorem lookIn_ns {h : Heap} {dx : Addr} {mA : Str → Option Value} (n : h.Ns1 dx mA) : ∃ od, h.get? dx = some od ∧ ∀ name, PySem.W.lookIn name od = some (mA name) := by
  obtain ⟨o, es, ep, ho, hd, hk, _, hm⟩ := n
  refine ⟨o, ho, fun name => ?_⟩
  have e := hm name
  unfold nsFind findBy at e
  rw [← Array.find?_toList] at e
  unfold PySem.W.lookIn
  rw [hd]
  dsimp only
  split
  · rename_i y q
    rw [q] at e
    exact congrArg some e
  · rename_i q
    rw [q] at e
    have a : es.toList.any (·.refKey) = false := by
      rw [List.any_eq_false]
      intro y hy
      obtain ⟨z, t, hkey⟩ := hk y (Array.mem_toList_iff.mp hy)
      simp [DictEntry.refKey, hkey]
    have a' : ¬ es.toList.any (·.refKey) = true := by rw [a]; exact Bool.false_ne_true
    rw [if_neg a']
    exact congrArg some e

theorem ObjM.look {h : Heap} {x dx C : Addr} {mA : Str → Option Value} (I : ObjM h x dx C mA) : ∃ od, PySem.W.InstAt h x (PySem.W.instObj C dx) C (some od) ∧ ∀ name, PySem.W.lookIn name od = some (mA name) :=
  let ⟨od, ho, hl⟩ := lookIn_ns I.ns
  ⟨od, ⟨I.obj, rfl, rfl, ho⟩, hl⟩

section
variable {prog : Program} {w : World} {A : Around} {E : Value → Shared → Prop} {s : Shared} {K : PySem.W.Frag} {x dx C f : Addr} {mA : Str → Option Value} {name : Str} {v : Value}

end

theorem RelO.some_of {v : V} {o : Option Value} (r : RelO (some v) o) : ∃ u, o = some u ∧ RelV v u := by
  cases o with
  | none => exact (show False from r).elim
  | some u => exact ⟨u, rfl, r⟩
theorem handed_of {v : V} {u : Value} (r : RelV v u) : PySem.W.handedIn u = true := by
  cases v with
  | non => cases (show u = Value.none from r); rfl
  | bl b => cases (show u = Value.bool b from r); rfl
  | int i => obtain ⟨t, e⟩ := (show ∃ t, u = Value.int i t from r); cases e; rfl
  | str x => obtain ⟨t, e⟩ := (show ∃ t, u = Value.str x t from r); cases e; rfl
  | byt b => obtain ⟨t, e⟩ := (show ∃ t, u = Value.bytes b t from r); cases e; rfl
  | flt b => obtain ⟨t, e⟩ := (show ∃ t, u = Value.float b t from r); cases e; rfl
  | ref a => cases (show u = Value.ref a from r); rfl
  | ty n => cases (show u = Value.type n from r); rfl

section
variable {P : Program} {w : World} {H H' : Hp} {h h' : Heap} {a C dx : Addr} {fs fs' : List (Str × V)}
theorem ins_get (hok : HOk P w H h) (e : H a = some (.ins C dx fs)) : ∃ mA, ObjM h a dx C mA ∧ (∀ f, RelO (fs.lookup f) (mA f)) ∧ PySem.Within mA (fs.map (·.1)) ∧ fs.length ≤ 1000 ∧ H dx = some (.own a) := by
  obtain ⟨d, z, ne, ob, mA, n, r, q⟩ := (show ObjOk P w H h a (.ins C dx fs) from hok a _ e)
  exact ⟨mA, ⟨ob, n, ne⟩, r, q, z, d⟩
end

structure Cls (K : PySem.W.Frag) (C : Addr) : Prop where
  pg : PySem.W.plainGet K C Str.empty = true
  hd : PySem.W.hasDictIn K C = true
  po : PySem.W.plainOver K C = true
  sa : PySem.W.findIn K (.ref C) "__setattr__" = some (some (.builtin "object.__setattr__"))
theorem Cls.get {K : PySem.W.Frag} {C : Addr} (c : Cls K C) (f : Str) : PySem.W.plainGet K C f = true := c.pg
section
variable {X : Cx} {pins : List (Addr × Obj)} {σ : St} {H : Hp} {s : Shared} {a C dx : Addr} {fs : List (Str × V)} {f : Str} {v : V} {A : Around} {E : Value → Shared → Prop}

theorem attr_of {prog : Program} {w : World} {env : Env} {e : Expr} {f : Str} {pos : Pos} {s : Shared} {Q : Value → Shared → Prop} (hb : attributeBase e f env (eval e env) = eval e env)
    (h : wpAny (model prog w) A (eval e env) (fun o s₁ => wpAny (model prog w) A (getAttr o f true) Q E s₁) E s) : wpAny (model prog w) A (eval (.Attribute e f pos) env) Q E s :=
  Attribute_any_ h (by rw [arm_eval_Attribute, hb])
end

section
variable {X : Cx} {o e value : Expr} {f : Str} {pos pos' tpos : Pos} {ta tv : TE}
end

section
variable {X : Cx} {pins : List (Addr × Obj)} {σ : St} {H : Hp} {s : Shared} {A : Around} {E : Value → Shared → Prop} {Q : Value → Shared → Prop} {c : Value} {b : Bool}
inductive TyOf (K : PySem.W.Frag) (H : Hp) : V → Value → Prop where
  | non : TyOf K H .non (.type "NoneType")
  | bl (x : Bool) : TyOf K H (.bl x) (.type "bool")
  | int (i : Int) : TyOf K H (.int i) (.type "int")
  | str (x : Str) : TyOf K H (.str x) (.type "str")
  | flt (x : UInt64) : TyOf K H (.flt x) (.type "float")
  | lst {a : Addr} {xs : List V} (e : H a = some (.lst xs)) : TyOf K H (.ref a) (.type "list")
  | frz {a : Addr} {o : Obj} {xs : List V} (e : H a = some (.frz o (.lst xs))) : TyOf K H (.ref a) (.type "list")
  | tup {a : Addr} {xs : List V} (e : H a = some (.tup xs)) : TyOf K H (.ref a) (.type "tuple")
  | dK {a : Addr} {kvs : List (Key × V)} (e : H a = some (.dK kvs)) : TyOf K H (.ref a) (.type "dict")
  | dT {a : Addr} {kvs : List (List Key × V)} (e : H a = some (.dT kvs)) : TyOf K H (.ref a) (.type "dict")
  | ins {a C dx : Addr} {fs : List (Str × V)} (e : H a = some (.ins C dx fs)) (cl : Cls K C) (ha : PySem.W.findIn K (.ref C) "__class__" = some (some (.builtin "object.__class__")))
      (hn : PySem.W.specialIn K (.builtin "object.__class__") "__get__" = some (some (.builtin "getset_descriptor.__get__"))) (htk : PySem.W.takesIn K (.builtin "object.__class__") = some true)
      (hm : PySem.W.mroIn K C (.type "object") = some true) : TyOf K H (.ref a) (.ref C)
theorem isinst_ok {x : V} {u t : Value} (I : Inv X pins σ H s) (rx : RelV x u) (ty : TyOf X.K H x t) (e : PySem.W.kitOne X.K t c = some b) (h : ∀ tk, Q (.bool b) { s with toks := tk }) :
    wpAny (model X.prog X.w) A (call (.builtin "isinstance") [u, c]) Q E s := by
  cases ty with
  | non => cases (show u = Value.none from rx); exact PySem.W.kia_one PySem.W.kitx_none I.kIn True.intro e (fun z => nomatch z) h
  | bl y => cases (show u = Value.bool y from rx); exact PySem.W.kia_one PySem.W.kitx_bool I.kIn True.intro e (fun z => nomatch z) h
  | int i => obtain ⟨t, q⟩ := (show ∃ t, u = Value.int i t from rx); cases q; exact PySem.W.kia_one PySem.W.kitx_int I.kIn True.intro e (fun z => nomatch z) h
  | str y => obtain ⟨t, q⟩ := (show ∃ t, u = Value.str y t from rx); cases q; exact PySem.W.kia_one PySem.W.kitx_str I.kIn True.intro e (fun z => nomatch z) h
  | flt y => obtain ⟨t, q⟩ := (show ∃ t, u = Value.float y t from rx); cases q; exact PySem.W.kia_one PySem.W.kitx_float I.kIn True.intro e (fun z => nomatch z) h
  | @lst a xs ea =>
    cases (show u = Value.ref a from rx)
    obtain ⟨_, _, n, _, h1⟩ := (show ObjOk X.prog X.w H s.heap a (.lst xs) from I.hok a _ ea)
    exact PySem.W.kia_one PySem.W.kitx_list I.kIn ⟨_, h1, rfl⟩ e (fun z => nomatch z) h
  | @frz a ob xs ea =>
    cases (show u = Value.ref a from rx)
    obtain ⟨_, _, _, n, _, h1⟩ := (show ObjOk X.prog X.w H s.heap a (.frz ob (.lst xs)) from I.hok a _ ea)
    exact PySem.W.kia_one PySem.W.kitx_list I.kIn ⟨_, h1, rfl⟩ e (fun z => nomatch z) h
  | @tup a xs ea =>
    cases (show u = Value.ref a from rx)
    obtain ⟨_, _, _, p⟩ := (show ObjOk X.prog X.w H s.heap a (.tup xs) from I.hok a _ ea)
    obtain ⟨o, h1, h2, _⟩ := p
    exact PySem.W.kia_one PySem.W.kitx_tuple I.kIn ⟨o, h1, h2⟩ e (fun z => nomatch z) h
  | @dK a kvs ea =>
    cases (show u = Value.ref a from rx)
    obtain ⟨_, _, vs, _, p⟩ := (show ObjOk X.prog X.w H s.heap a (.dK kvs) from I.hok a _ ea)
    obtain ⟨o, es, ep, h1, h2, _⟩ := p
    exact PySem.W.kia_one PySem.W.kitx_dict I.kIn ⟨o, h1, h2.1⟩ e (fun z => nomatch z) h
  | @dT a kvs ea =>
    cases (show u = Value.ref a from rx)
    obtain ⟨_, _, xs, _, o, es, ep, h1, h2, _⟩ := (show ObjOk X.prog X.w H s.heap a (.dT kvs) from I.hok a _ ea)
    exact PySem.W.kia_one PySem.W.kitx_dict I.kIn ⟨o, h1, h2.1⟩ e (fun z => nomatch z) h
  | @ins a C dx fs ea cl ha hn htk hm =>
    cases (show u = Value.ref a from rx)
    obtain ⟨mA, O, _⟩ := ins_get I.hok ea
    obtain ⟨od, J, _⟩ := O.look
    exact PySem.W.kia_one (PySem.W.kitx_own (cl.get _) cl.hd ha hn htk hm) I.kIn J e (fun z => nomatch z) h
end
end L2

namespace L2
open PySem PySem.Spec PyProof.Rows

structure Room (k : Nat) (A : Around) : Prop where
  hd : A.handled = none
  dp : A.depth + 3 * k + 5 < recursionLimit
  un : A.units + 16 * k + 200 < cLine
theorem Room.mono {j k : Nat} {A : Around} (r : Room k A) (h : j ≤ k) : Room j A := ⟨r.hd, by have := r.dp; omega, by have := r.un; omega⟩
theorem Room.deeper {k : Nat} {A : Around} (r : Room (k + 1) A) (env : Env) : Room k (A.deeper env) :=
  ⟨r.hd, by have := r.dp; show A.depth + 1 + 3 * k + 5 < _; omega, by have := r.un; show A.units + 3 + 16 * k + 200 < _; omega⟩
theorem make_depth {A : Around} {C : Addr} {us : List Value} {kw : List (Str × Value)} : (A.under (.builtin "type.__call__" ⟨.ref C :: us, kw⟩)).depth = A.depth + 1 := by
  first | rfl | simp [Around.under, Code.weight, Code.isCreation, Code.isGuard, Code.isCaller, Code.frames, Code.isFrame, guardIds]
theorem make_units {A : Around} {C : Addr} {us : List Value} {kw : List (Str × Value)} : (A.under (.builtin "type.__call__" ⟨.ref C :: us, kw⟩)).units = A.units + 1 := by
  first | rfl | simp [Around.under, Code.cUnits, Code.frames, Code.isFrame]
theorem Room.make {k : Nat} {A : Around} (r : Room (k + 1) A) (C : Addr) (us : List Value) (kw : List (Str × Value)) : Room k (A.under (.builtin "type.__call__" ⟨.ref C :: us, kw⟩)) :=
  ⟨r.hd, by have := r.dp; rw [make_depth]; omega, by have := r.un; rw [make_units]; omega⟩
theorem Room.depth {k : Nat} {A : Around} (r : Room k A) : A.depth < recursionLimit := by have := r.dp; omega
theorem Room.units {k : Nat} {A : Around} (r : Room k A) : A.units + 64 < cLine := by have := r.un; omega
noncomputable def tNil : TA := fun _ H Q => Q [] H
noncomputable def tCons (ta : TE) (tr : TA) : TA := fun σ H Q => ta σ H fun x H1 => tr σ H1 fun xs H2 => Q (x :: xs) H2
section
variable {X : Cx} {e : Expr} {es : List Expr} {te : TE} {t : TA} {pos : Pos}
theorem pa_nil : PA X [] tNil := fun _ _ _ _ H Q I h => Calls.spliced_nil ⟨[], H, I, .nil, h⟩
theorem pa_cons (ha : PE X e te) (hr : PA X es t) (hs : autoParam (starEach (e :: es) X.env = (false, eval e X.env) :: starEach es X.env) au0_._auto_1) : PA X (e :: es) (tCons te t) := by
  intro pos pins s σ H Q I h
  rw [hs]
  show wpAny _ _ (spliced ((false, eval e X.env) :: backTo pos (starEach es X.env))) _ _ s
  refine Calls.spliced_cons (thn (ha pins s σ H _ I h) fun u s1 ⟨x, H1, I1, r1, q1⟩ => ?_)
  exact thn (hr pos pins s1 σ H1 _ I1 q1) fun us s2 ⟨xs, H2, I2, r2, q2⟩ => ⟨x :: xs, H2, I2, .cons r1 r2, q2⟩

noncomputable def tLst (t : TA) : TE := fun σ H Q => t σ H fun xs H1 => xs.length ≤ sizeLine ∧ ∀ p, H1 p = none → Q (.ref p) (upd H1 p (.lst xs))
theorem pe_lst (h : PA X es t) : PE X (.List es pos) (tLst t) := by
  intro pins s σ H Q I hq
  refine wpAny_List_spliced (thn (h pos pins s σ H _ I hq) fun us s1 ⟨xs, H1, I1, r, z, q⟩ => ⟨by rw [← r.length]; exact z, ?_⟩)
  have hf : H1 s1.heap.objs.size = none := I1.hok.fresh (Nat.le_refl _)
  refine ⟨.ref s1.heap.objs.size, upd H1 s1.heap.objs.size (.lst xs), I1.laid (t' := s1.toks) (fun b u e => Heap.get?_push_of_some _ e) (Nat.le_refl _) ?_, rfl, q _ hf⟩
  exact ⟨z, us, 0, r, Heap.get?_push_size _ rfl⟩
end

noncomputable abbrev Sp := List V → Hp → VK → XK → Prop
noncomputable abbrev CXT := List Env → Hp → Shared → XK → Value → Shared → Prop

structure Env0 (P : Program) (w : World) (K : PySem.W.Frag) (mg : Str → Option Value) (base : Heap) (A : Around) (outer : List Env) (s : Shared) (H : Hp) : Prop where
  frames : A.frames = some outer
  mod : Mod K mg base
  bs : ∀ b o, base.get? b = some o → s.heap.get? b = some o ∧ H b = none
  bsz : base.objs.size ≤ s.heap.objs.size
  funs : s.heap.FunFrames base outer
  frf : ∀ b ∈ frs outer, H b = none
  hok : HOk P w H s.heap
  bare : AllBare s.gens
noncomputable def CE (outer : List Env) (P : Program) (w : World) (H : Hp) (s : Shared) (Q : VK) (u : Value) (s' : Shared) : Prop :=
  ∃ v H', s'.os = s.os ∧ AllBare s'.gens ∧ Un (frs outer) [] H H' s.heap s'.heap ∧ HOk P w H' s'.heap ∧ RelV v u ∧ Q v H'
noncomputable def CR (CX : CXT) (outer : List Env) (P : Program) (w : World) (H : Hp) (s : Shared) (Q : VK) (E : XK) (r : Result) (s' : Shared) : Prop :=
  match r with
  | .ok (.ret u) => CE outer P w H s Q u s'
  | .ok _ => False
  | .error e => CX outer H s E e s'
structure FnOk (P : Program) (w : World) (K : PySem.W.Frag) (mg : Str → Option Value) (base : Heap) (CX : CXT) (k : Nat) (f : Addr) (fd : FuncData) (ps : List Str) (sp : Sp) : Prop where
  len : ∀ vs H Q E, sp vs H Q E → vs.length = ps.length
  run : ∀ (A : Around) (outer : List Env) (s : Shared) (H : Hp) (args : Args) (us : List Value) (vs : List V) (Q : VK) (E : XK), Room k A → Env0 P w K mg base A outer s H → BindsTo s fd args (ps.zip us) → Vals vs us → sp vs H Q E →
    codeAny (model P w) A (.call (.ref f) args) (CR CX outer P w H s Q E) s
theorem Env0.make {P : Program} {w : World} {K : PySem.W.Frag} {mg : Str → Option Value} {base : Heap} {A : Around} {outer : List Env} {s : Shared} {H : Hp} (e : Env0 P w K mg base A outer s H) (C : Addr) (us : List Value) (kw : List (Str × Value)) :
    Env0 P w K mg base (A.under (.builtin "type.__call__" ⟨.ref C :: us, kw⟩)) outer s H := ⟨by first | exact e.frames | (simpa [Around.under, Code.envs, Code.isFrame, pushEnvs] using e.frames), e.mod, e.bs, e.bsz, e.funs, e.frf, e.hok, e.bare⟩
section
variable {X : Cx} {pins : List (Addr × Obj)} {σ : St} {H : Hp} {s s' : Shared}
theorem Inv.env0 (I : Inv X pins σ H s) : Env0 X.prog X.w X.K X.mg X.base X.A X.stack s H :=
  ⟨I.ok.frames, I.ok.mod, I.bs, Nat.le_trans I.ok.bsz I.sz, I.stack, I.stkFree, I.hok, I.bare⟩
theorem Inv.after {Q : VK} {u : Value} (I : Inv X pins σ H s) (h : CE X.stack X.prog X.w H s Q u s') : EP X pins σ Q u s' := by
  obtain ⟨v, H', os, bare, un, hok, r, q⟩ := h
  obtain ⟨hh, g, d, t, os'⟩ := s'
  obtain rfl : os' = s.os := os
  exact ⟨v, H', I.call (h' := hh) (g' := g) (d' := d) (t' := t) (ch := []) un hok bare (fun b z => absurd z (by simp)), r, q⟩
end

noncomputable def tCall (sp : Sp) (dvs : List V) (E : XK) (t : TA) : TE := fun σ H Q => t σ H fun vs H1 => sp (vs ++ dvs) H1 Q E
noncomputable def Binds (K : PySem.W.Frag) (fd : FuncData) (ps : List Str) (ds : List Value) : Prop :=
  ∀ (s : Shared) (us : List Value), K.In s.heap → (us ++ ds).length = ps.length → BindsTo s fd ⟨us, []⟩ (ps.zip (us ++ ds))
theorem Binds.all {K : PySem.W.Frag} {fd : FuncData} {ps : List Str} (h : ∀ us : List Value, us.length = ps.length → bindArgs fd ⟨us, []⟩ = pure (ps.zip us)) : Binds K fd ps [] := fun s us _ hl => by
  rw [List.append_nil] at hl ⊢
  exact .of_eq (h us hl)

noncomputable def Passes (CX : CXT) (X : Cx) (E : XK) : Prop := ∀ (pins : List (Addr × Obj)) (σ : St) (H : Hp) (s : Shared) (e : Value) (s' : Shared), Inv X pins σ H s → CX X.stack H s E e s' → X.xe e s'

section
variable {X : Cx} {CX : CXT} {k : Nat} {f C : Addr} {fd : FuncData} {ps : List Str} {sp : Sp} {dvs : List V} {ds : List Value} {E : XK} {x m : Str} {p pos apos : Pos} {e o : Expr} {es : List Expr} {ta : TE} {t : TA}

theorem run_fn {pins : List (Addr × Obj)} {σ : St} {H : Hp} {s : Shared} {Q : VK} {us : List Value} {vs : List V} (F : FnOk X.prog X.w X.K X.mg X.base CX k f fd ps sp) (hr : Room k X.A) (hb : Binds X.K fd ps ds) (hd : Vals dvs ds) (hx : Passes CX X E)
    (I : Inv X pins σ H s) (r : Vals vs us) (h : sp (vs ++ dvs) H Q E) : wpAny (model X.prog X.w) X.A (call (.ref f) us) (EP X pins σ Q) X.xe s := by
  have r2 : Vals (vs ++ dvs) (us ++ ds) := r.append hd
  have hl : (us ++ ds).length = ps.length := by rw [← r2.length]; exact F.len _ _ _ _ h
  refine wpAny_call (codeAny_mono (F.run X.A X.stack s H ⟨us, []⟩ (us ++ ds) (vs ++ dvs) Q E hr I.env0 (hb s us I.kIn hl) r2 h) fun r s' hq => ?_)
  cases r with
  | error e => exact hx pins σ H s e s' I hq
  | ok fl =>
    cases fl with
    | ret u => exact I.after hq
    | next => exact False.elim hq
    | brk => exact False.elim hq
    | cont => exact False.elim hq

theorem pe_call (F : FnOk X.prog X.w X.K X.mg X.base CX k f fd ps sp) (hr : Room k X.A) (hg : Gl X x) (hm : X.mg x = some (.ref f)) (hk : PySem.W.keepIn X.K (.ref f) = true) (hb : Binds X.K fd ps ds) (hd : Vals dvs ds) (hx : Passes CX X E)
    (ha : PA X (e :: es) t) (hdb : autoParam ((x == ("__debug__" : Str)) = false) au1_._auto_1) (he : autoParam (starEach (e :: es) X.env = (false, eval e X.env) :: starEach es X.env) au0_._auto_1) (hpl : autoParam ((backTo pos (starEach es X.env)).any (·.1) = false) au0_._auto_1) :
    PE X (.Call (.Name x p) (e :: es) [] pos) (tCall sp dvs E t) := by
  intro pins s σ H Q I h
  refine wpAny_Call_Name_kw (ld_glob I hg hm ?_ hdb)
  refine PySem.W.callWith_K (h₀ := X.base) I.ok.mod.kin hk (thn (ha pos pins s σ H _ I h) fun us s1 ⟨vs, H1, I1, r, q⟩ => ⟨I1.kIn, ?_⟩) he hpl
  exact run_fn F hr hb hd hx I1 r q
end

section
variable {X : Cx} {CX : CXT} {k : Nat} {f C : Addr} {fd : FuncData} {ps ks : List Str} {sp : Sp} {E : XK} {x m : Str} {p pos apos kpos : Pos} {e o : Expr} {es : List Expr} {kws : List Keyword} {te ta : TE} {t tk : TA} {nm : Option Str}
variable {g : List Value → List Value → List Value} {gV : List V → List V → List V}
end

structure FnScope (N P : List Str) (sc : Scope) : Prop where
  kind : sc.kind = .function
  co : sc.isCoroutine = false
  gen : sc.isGenerator = false
  nd : N.Nodup
  pre : N.take P.length = P
  par : ∀ x ∈ P, sc.names.lookup x = some .local ∨ sc.names.lookup x = some .cell
  nofree : ∀ y ∈ sc.names, y.2 ≠ .free

theorem bindL_out {kindOf : Str → Option NameKind} {x : Str} : ∀ {binds : List (Str × Value)} {m : Str → Option Value}, (∀ v, (x, v) ∉ binds) → bindL kindOf binds m x = m x
  | [], _, _ => rfl
  | (n, v) :: r, m, h => by
    unfold bindL
    rw [bindL_out fun w hw => h w (List.mem_cons_of_mem _ hw)]
    split
    · have : x ≠ n := by rintro rfl; exact h v List.mem_cons_self
      simp [this]
    · rfl
theorem bindC_out {kindOf : Str → Option NameKind} {x : Str} : ∀ {binds : List (Str × Value)} {m : Str → Option Value}, (∀ v, (x, v) ∉ binds) → bindC kindOf binds m x = m x
  | [], _, _ => rfl
  | (n, v) :: r, m, h => by
    unfold bindC
    rw [bindC_out fun w hw => h w (List.mem_cons_of_mem _ hw)]
    split
    · rfl
    · have : x ≠ n := by rintro rfl; exact h v List.mem_cons_self
      simp [this]
theorem bindL_get {kindOf : Str → Option NameKind} {x : Str} {v : Value} : ∀ {P : List Str} {vs : List Value} {i : Nat} {m : Str → Option Value}, P.Nodup → P[i]? = some x → vs[i]? = some v → kindOf x = some .local →
    bindL kindOf (P.zip vs) m x = some v
  | [], _, _, _, _, h, _, _ => by simp at h
  | _ :: _, [], _, _, _, _, h, _ => by simp at h
  | p :: P, w :: vs, 0, m, nd, h1, h2, hk => by
    simp at h1 h2; subst h1; subst h2
    show bindL kindOf ((p, w) :: P.zip vs) m p = _
    unfold bindL
    rw [bindL_out fun v hv => (List.nodup_cons.mp nd).1 (List.of_mem_zip hv).1, if_pos hk]
    simp
  | p :: P, w :: vs, i + 1, m, nd, h1, h2, hk => by
    show bindL kindOf ((p, w) :: P.zip vs) m x = _
    unfold bindL
    exact bindL_get (i := i) (List.nodup_cons.mp nd).2 (by simpa using h1) (by simpa using h2) hk
theorem bindC_get {kindOf : Str → Option NameKind} {x : Str} {v : Value} : ∀ {P : List Str} {vs : List Value} {i : Nat} {m : Str → Option Value}, P.Nodup → P[i]? = some x → vs[i]? = some v → kindOf x ≠ some .local →
    bindC kindOf (P.zip vs) m x = some v
  | [], _, _, _, _, h, _, _ => by simp at h
  | _ :: _, [], _, _, _, _, h, _ => by simp at h
  | p :: P, w :: vs, 0, m, nd, h1, h2, hk => by
    simp at h1 h2; subst h1; subst h2
    show bindC kindOf ((p, w) :: P.zip vs) m p = _
    unfold bindC
    rw [bindC_out fun v hv => (List.nodup_cons.mp nd).1 (List.of_mem_zip hv).1, if_neg hk]
    simp
  | p :: P, w :: vs, i + 1, m, nd, h1, h2, hk => by
    show bindC kindOf ((p, w) :: P.zip vs) m x = _
    unfold bindC
    exact bindC_get (i := i) (List.nodup_cons.mp nd).2 (by simpa using h1) (by simpa using h2) hk

noncomputable def start (N : List Str) (vs : List V) : St := vs.map some ++ List.replicate (N.length - vs.length) none

noncomputable def cxOf (CX : CXT) (P : Program) (w : World) (K : PySem.W.Frag) (mg : Str → Option Value) (base : Heap) (N : List Str) (qual : Str) (scope : Scope) (f : Addr) (cd : Value) (A : Around) (outer : List Env) (s : Shared) (H : Hp) (E : XK) : Cx where
  prog := P
  w := w
  K := K
  mg := mg
  base := base
  A := A.deeper (envOfC qual scope s.heap.objs.size f cd)
  N := N
  s₀ := s
  H₀ := H
  env := envOfC qual scope s.heap.objs.size f cd
  outer := outer
  stack := envOfC qual scope s.heap.objs.size f cd :: outer
  ex := []
  calm := true
  fn := fun _ => true
  pn := []
  xe := fun e s' => wpAny (model P w) (A.deeper (envOfC qual scope s.heap.objs.size f cd)) (leaving (envOfC qual scope s.heap.objs.size f cd) e) (fun _ s'' => CX outer H s E e s'') (fun e' s'' => CX outer H s E e' s'') s'

theorem cell_has {sc : Scope} {n : Nat} {x : Str} (h : sc.names.lookup x = some .cell) : ∃ c, (cellsFrom n sc.names []).lookup x = some c := by
  have q := PySem.W.cellsFrom_some sc.names n [] (.inl h)
  exact Option.isSome_iff_exists.mp q

theorem inv_start {CX : CXT} {P : Program} {w : World} {K : PySem.W.Frag} {mg : Str → Option Value} {base : Heap} {N ps : List Str} {qual : Str} {scope : Scope} {f : Addr} {cd : Value} {A : Around} {outer : List Env} {s s1 : Shared} {H : Hp} {E : XK} {us : List Value} {vs : List V}
    (S : FnScope N ps scope) (hd : A.handled = none) (e0 : Env0 P w K mg base A outer s H) (hl : vs.length = ps.length) (r : Vals vs us)
    (x : InCallC s s.heap.objs.size (bindL (envOfC qual scope s.heap.objs.size f cd).kindOf (ps.zip us) fun _ => none) (cellsFrom (s.heap.objs.size + 1) scope.names []) (bindC (envOfC qual scope s.heap.objs.size f cd).kindOf (ps.zip us) fun _ => none) s1) :
    Inv (cxOf CX P w K mg base N qual scope f cd A outer s H E) [] (start N vs) H s1 := by
  have hpl : ps.length ≤ N.length := by have := congrArg List.length S.pre; rw [List.length_take] at this; omega
  obtain ⟨h1, tk, rfl, hk⟩ := x.done
  have noA : ∀ b : Addr, b ∉ (cxOf CX P w K mg base N qual scope f cd A outer s H E).ex := fun b z => absurd (show b ∈ ([] : List Addr) from z) (by simp)
  refine ⟨⟨e0.mod, S.kind, rfl, rfl, Nat.le_refl _, fun y z c h1 h2 => ?_, fun y hy => ?_, fun y c _ h => ?_, fun _ => hd, Around.frames_deeper e0.frames, .inr ⟨rfl, rfl⟩, fun b z => absurd z (noA b), e0.bs, e0.bsz, fun b _ _ => noA b, fun b z => absurd z (noA b), e0.funs, e0.frf⟩,
    rfl, e0.bare, Un.kept hk, ⟨_, x.toInCall.ns, fun i y v h1 h2 h3 => ?_⟩, fun y c h => ⟨_, x.cell y c h⟩, e0.hok.fresh (Nat.le_refl _), fun y c h => ?_, fun p hp => absurd (show p ∈ ([] : List (Addr × Obj)) from hp) (by simp), e0.hok.kept hk, ?_⟩
  · exact name_of_addr x.apart (PySem.mem_of_lookup h1) (PySem.mem_of_lookup h2)
  · have hy : scope.names.lookup y = some .cell ∨ scope.names.lookup y = some .free := hy
    rcases hy with hy | hy
    · exact cell_has hy
    · exact absurd rfl (S.nofree _ (PySem.mem_of_lookup hy))
  · exact Nat.le_of_lt (x.above y c (PySem.mem_of_lookup h))
  · have hi : i < vs.length := by
      unfold start at h2
      by_cases hi : i < vs.length
      · exact hi
      · rw [List.getElem?_append_right (by simpa using hi)] at h2
        rw [List.getElem?_replicate] at h2
        split at h2 <;> cases h2
    have ha : vs[i]? = some v := by
      unfold start at h2
      rw [List.getElem?_append_left (by simpa using hi), List.getElem?_map] at h2
      cases e : vs[i]? with
      | none => rw [e] at h2; cases h2
      | some a => rw [e] at h2; cases h2; rfl
    obtain ⟨u, hu, rv⟩ := r.get ha
    have hp : ps[i]? = some y := by
      rw [← S.pre, List.getElem?_take_of_lt (by omega)]; exact h1
    have ndP : ps.Nodup := by rw [← S.pre]; exact S.nd.sublist (List.take_sublist _ _)
    refine ⟨u, rv, ?_⟩
    rcases S.par y (List.mem_of_getElem? hp) with k | k
    · exact .inl ⟨k, bindL_get ndP hp hu k⟩
    · obtain ⟨c, e⟩ := cell_has (n := s.heap.objs.size + 1) k
      refine .inr ⟨.inl k, c, e, ?_⟩
      have q := x.cell y c e
      rw [bindC_get ndP hp hu (by show scope.names.lookup y ≠ _; rw [k]; decide)] at q
      exact q
  · exact e0.hok.fresh (Nat.le_of_lt (x.above y c (PySem.mem_of_lookup h)))
  · unfold start
    show _ = N.length
    rw [List.length_append, List.length_map, List.length_replicate]
    omega

theorem fn_of {CX : CXT} {P : Program} {w : World} {K : PySem.W.Frag} {mg : Str → Option Value} {base : Heap} {k : Nat} {f : Addr} {name qual : Str} {params : Arguments} {body : List Stmt} {scope : Scope} {dV kV doc pm cdv ct oc : Value} {an od : Option Addr}
    {osl : Array (Option Value)} {N ps : List Str} {sp : Sp} (lk : K.lookup f = some ⟨oc, od, .func (PySem.W.fnOf name qual params body scope dV kV doc pm an cdv ct), osl⟩) (hcd : PySem.W.codeIn K cdv qual = true) (S : FnScope N ps scope)
    (len : ∀ vs H Q E, sp vs H Q E → vs.length = ps.length)
    (hbody : ∀ (A : Around) (outer : List Env) (s : Shared) (H : Hp) (vs : List V) (Q : VK) (E : XK), Room k (A.deeper (envOfC qual scope s.heap.objs.size f cdv)) → sp vs H Q E →
      ∃ t, PSs (cxOf CX P w K mg base N qual scope f cdv A outer s H E) body t ∧ t { nx := fun _ H' => Q .non H', rt := Q } (start N vs) H) :
    FnOk P w K mg base CX (k + 1) f (PySem.W.fnOf name qual params body scope dV kV doc pm an cdv ct) ps sp := by
  refine ⟨len, fun A outer s H args us vs Q E hr e0 hb r hsp => ?_⟩
  have hl := len _ _ _ _ hsp
  have KX : K.In s.heap := e0.mod.kin.keeps fun b o e => (e0.bs b o e).1
  have lim : s.heap.NoLimit := e0.mod.nolimit.keeps fun b o e => (e0.bs b o e).1
  have hkind : ∀ y ∈ ps.zip us, scope.names.lookup y.1 = some .local ∨ (scope.names.lookup y.1 = some .cell ∧ ((cellsFrom (s.heap.objs.size + 1) scope.names []).lookup y.1).isSome = true) := fun ⟨n, v⟩ hy => by
    rcases S.par n (List.of_mem_zip hy).1 with q | q
    · exact .inl q
    · exact .inr ⟨q, PySem.W.cellsFrom_some _ _ _ (.inl q)⟩
  refine codeAny_call_function hr.depth (KX _ _ lk) rfl S.co S.gen rfl (PySem.W.codeRec_of KX hcd) (hb _ _ _ _ ?_)
  refine wpAny_newFunctionEnv_cells S.kind hkind fun env he s1 x => ?_
  subst he
  refine ⟨lim.keeps x.toInCall.keep, codeAny_func ?_⟩
  obtain ⟨t, ht, hq⟩ := hbody A outer s H vs Q E (hr.deeper _) hsp
  have I : Inv (cxOf CX P w K mg base N qual scope f cdv A outer s H E) [] (start N vs) H s1 := inv_start S hr.hd e0 hl r x
  refine wpAny_mono (ht [] s1 (start N vs) H _ I hq) (fun fl s' hs => ?_) fun e s' hs => hs
  have fin : ∀ {σ' : St} {H' : Hp} {v : V} {u : Value}, Inv (cxOf CX P w K mg base N qual scope f cdv A outer s H E) [] σ' H' s' → RelV v u → Q v H' → CE outer P w H s Q u s' :=
    fun {σ' H' v u} J rv q => ⟨v, H', J.os, J.bare, J.base, J.hok, rv, q⟩
  cases fl with
  | ret u =>
    obtain ⟨v, σ', H', J, rv, q⟩ := hs
    exact fin J rv q
  | next =>
    obtain ⟨σ', H', J, q⟩ := hs
    exact fin (v := V.non) (u := Value.none) J rfl q
  | brk =>
    obtain ⟨_, _, _, q⟩ := hs
    exact False.elim q
  | cont =>
    obtain ⟨_, _, _, q⟩ := hs
    exact False.elim q
end L2

namespace L2
open PySem PySem.Spec PyProof.Rows
section
variable {X : Cx} {x : Str} {p pos : Pos} {e : Expr} {es : List Expr} {t : TA} {id T : String} {r : List V → Hp → VK → Prop}

noncomputable def tCB (r : List V → Hp → VK → Prop) (t : TA) : TE := fun σ H Q => t σ H fun vs H1 => r vs H1 Q
theorem pe_callB (hc : CallR X (.builtin id) r) (hg : Gl X x) (hm : X.mg x = none) (hv : bootBuiltins x = some (.builtin id)) (ha : PA X (e :: es) t) (hn : autoParam (x ≠ "__name__") au1_._auto_1) (hdb : autoParam ((x == ("__debug__" : Str)) = false) au1_._auto_1)
    (he : autoParam (starEach (e :: es) X.env = (false, eval e X.env) :: starEach es X.env) au0_._auto_1) (hpl : autoParam ((backTo pos (starEach es X.env)).any (·.1) = false) au0_._auto_1) : PE X (.Call (.Name x p) (e :: es) [] pos) (tCB r t) := by
  intro pins s σ H Q I h
  refine wpAny_Call_Name_kw (ld_blt I hg hm hv ?_ hn hdb)
  exact PyProof.Rows.callWith_builtin1 (thn (ha pos pins s σ H _ I h) fun us s1 ⟨vs, H1, I1, r1, q1⟩ => hc pins s1 σ H1 vs us Q I1 r1 q1) he hpl
end
end L2

namespace HT
open PySem PyProof.Rows

section
open PySem.SeqAt
open PySem.AutoSeq1 (wpAny_loadPart')
open PySem.MeetsSeq PySem.MeetsSeq2 PySem.MeetsSeq3

end

section
variable {prog : Program} {w : World} {A : Around} {E : Value → Shared → Prop} {s : Shared}

noncomputable def sIx (n d : Nat) : Option Int → Nat
  | none => d
  | some v => if v < 0 then (v + (n : Int)).toNat else min v.toNat n
end
end HT

namespace L2
open PySem PySem.Spec PyProof.Rows

noncomputable abbrev TO := St → Hp → (Option Int → Hp → Prop) → Prop
noncomputable def PO (X : Cx) (e : Option Expr) (t : TO) : Prop :=
  ∀ (pins : List (Addr × Obj)) (s : Shared) (σ : St) (H : Hp) (Q : Option Int → Hp → Prop), Inv X pins σ H s → t σ H Q →
    wpAny (model X.prog X.w) X.A (evalPart e X.env) (fun u s' => ∃ o H', Inv X pins σ H' s' ∧ IsPart u o ∧ Q o H') X.xe s
noncomputable def tNoPart : TO := fun _ H Q => Q none H
noncomputable def tPart (t : TE) : TO := fun σ H Q => t σ H fun x H1 => ∃ i, x = .int i ∧ Q (some i) H1

section
variable {X : Cx} {e : Expr} {te : TE} {lo hi : Option Expr} {tl th : TO} {pos p2 : Pos}

theorem po_none : PO X none tNoPart := by
  intro pins s σ H Q I h
  rw [evalPart_none]
  exact wpAny_pure ⟨none, H, I, .none, h⟩
theorem po_some (h : PE X e te) : PO X (some e) (tPart te) := by
  intro pins s σ H Q I hw
  rw [evalPart_some]
  refine thn (h pins s σ H _ I hw) fun u s1 ⟨x, H1, I1, r1, q1⟩ => ?_
  obtain ⟨i, rfl, q⟩ := q1
  obtain ⟨t, rfl⟩ := r1
  exact ⟨some i, H1, I1, .int i t, q⟩

noncomputable def SlR (X : Cx) (r : V → Option Int → Option Int → Hp → VK → Prop) : Prop :=
  ∀ (pins : List (Addr × Obj)) (s : Shared) (σ : St) (H : Hp) (x : V) (v vl vu : Value) (lo hi : Option Int) (sl : Addr) (Q : VK), Inv X pins σ H s → RelV x v → s.heap.IsSliceOf sl vl vu .none → IsPart vl lo → IsPart vu hi → r x lo hi H Q →
    ∃ T id, typeLookup (.type T) "__getitem__" = pure (some (.builtin id)) ∧ s.TypeIs v T ∧ wpAny (model X.prog X.w) X.A (getItem v (.ref sl)) (EP X pins σ Q) X.xe s
noncomputable def tSl (r : V → Option Int → Option Int → Hp → VK → Prop) (te : TE) (tl th : TO) : TE := fun σ H Q => te σ H fun x H1 => tl σ H1 fun l H2 => th σ H2 fun u H3 => r x l u H3 Q
theorem pe_slice {r : V → Option Int → Option Int → Hp → VK → Prop} (hr : SlR X r) (he : PE X e te) (hl : PO X lo tl) (hu : PO X hi th) : PE X (.Subscript e (.Slice lo hi none p2) pos) (tSl r te tl th) := by
  intro pins s σ H Q I h
  refine Subscript_ (thn (he pins s σ H _ I h) fun v s1 ⟨x, H1, I1, r1, q1⟩ => ?_)
  refine wpAny_Slice (thn (hl pins s1 σ H1 _ I1 q1) fun vl s2 ⟨l, H2, I2, pl, q2⟩ => thn (hu pins s2 σ H2 _ I2 q2) fun vu s3 ⟨u, H3, I3, pu, q3⟩ => ?_)
  rw [evalPart_none]
  refine wpAny_pure ?_
  have I4 : Inv X pins σ H3 { s3 with heap := s3.heap.push { cls := .type "slice", data := .fields #[vl, vu, .none] } } := I3.kept (t' := s3.toks) fun b ob q => Heap.get?_push_of_some _ q
  obtain ⟨T, id, hT, ht, hg⟩ := hr pins { s3 with heap := s3.heap.push { cls := .type "slice", data := .fields #[vl, vu, .none] } } σ H3 x v vl vu l u s3.heap.objs.size Q I4 r1 (Heap.IsSliceOf.new ..) pl pu q3
  show wpAny (model X.prog X.w) X.A (subscriptTail e (.Slice lo hi none p2) v (.ref s3.heap.objs.size)) (EP X pins σ Q) X.xe { s3 with heap := s3.heap.push { cls := .type "slice", data := .fields #[vl, vu, .none] } }
  exact tail_any (ops := [.ref s3.heap.objs.size, v]) ht hT hg (by with_unfolding_all rfl)

noncomputable def cutV (xs : List V) (lo hi : Option Int) : List V := (xs.drop (HT.sIx xs.length 0 lo)).take (HT.sIx xs.length xs.length hi - HT.sIx xs.length 0 lo)
theorem cutV_length (xs : List V) (lo hi : Option Int) : (cutV xs lo hi).length ≤ xs.length := by
  unfold cutV
  rw [List.length_take, List.length_drop]
  omega
end
end L2

namespace L2
open PySem PySem.Spec PyProof.Rows

noncomputable def ixN (n : Nat) (i : Int) : Option Nat := if 0 ≤ i then (if i < n then some i.toNat else none) else if -(n : Int) ≤ i then some (i + n).toNat else none
noncomputable def atI {α : Type} (xs : List α) (i : Int) : Option α := (ixN xs.length i).bind fun j => xs[j]?
theorem ixN_seq {n : Nat} {i : Int} {j : Nat} (h : ixN n i = some j) : seqIndex? i n = some j ∧ j < n ∧ -(n : Int) ≤ i ∧ i < n := by
  unfold ixN at h
  by_cases h0 : 0 ≤ i
  · rw [if_pos h0] at h
    by_cases h1 : i < n
    · rw [if_pos h1] at h
      have e : i.toNat = j := Option.some.inj h
      exact ⟨by rw [seqIndex_of h0 h1, e], by omega, by omega, h1⟩
    · rw [if_neg h1] at h; cases h
  · rw [if_neg h0] at h
    by_cases h1 : -(n : Int) ≤ i
    · rw [if_pos h1] at h
      have e : (i + n).toNat = j := Option.some.inj h
      exact ⟨by rw [seqIndex_neg (by omega) h1, e], by omega, h1, by omega⟩
    · rw [if_neg h1] at h; cases h
theorem atI_get {α : Type} {xs : List α} {i : Int} {v : α} (h : atI xs i = some v) : ∃ j, seqIndex? i xs.length = some j ∧ xs[j]? = some v ∧ j < xs.length ∧ -(xs.length : Int) ≤ i ∧ i < xs.length := by
  unfold atI at h
  cases e : ixN xs.length i with
  | none => rw [e] at h; cases h
  | some j =>
    rw [e] at h
    obtain ⟨h1, h2, h3, h4⟩ := ixN_seq e
    exact ⟨j, h1, h, h2, h3, h4⟩
theorem atI_nat {α : Type} {xs : List α} {j : Nat} {v : α} (h : xs[j]? = some v) : atI xs (j : Int) = some v := by
  have hj : j < xs.length := (List.getElem?_eq_some_iff.mp h).1
  have e : ixN xs.length (j : Int) = some j := by
    unfold ixN
    rw [if_pos (by omega), if_pos (by omega)]; simp
  unfold atI; rw [e]; exact h
noncomputable def PlainIx (b : Expr) : Prop := ∀ o i, subscripted b false o i = operate [o, i] (getItem o i)
noncomputable def IxR (X : Cx) (r : R2) : Prop :=
  ∀ (value slice : Expr) (pins : List (Addr × Obj)) (s : Shared) (σ : St) (H : Hp) (x y : V) (v u : Value) (Q : VK), Inv X pins σ H s → RelV x v → RelV y u → r x y H Q →
    subscripted slice false v u = operate [v, u] (getItem v u) → wpAny (model X.prog X.w) X.A (subscriptTail value slice v u) (EP X pins σ Q) X.xe s
noncomputable def MtR (X : Cx) (id : String) (r : V → List V → Hp → VK → Prop) : Prop :=
  ∀ (pins : List (Addr × Obj)) (s : Shared) (σ : St) (H : Hp) (x : V) (xs : List V) (v : Value) (us : List Value) (Q : VK), Inv X pins σ H s → RelV x v → Vals xs us → r x xs H Q →
    wpAny (model X.prog X.w) X.A (call (.builtin id) (v :: us)) (EP X pins σ Q) X.xe s
section
variable {X : Cx} {a b : Expr} {ta tb : TE} {pos : Pos}
theorem pe_ix {r : R2} (hr : IxR X r) (ha : PE X a ta) (hb : PE X b tb) (hs : PlainIx b) : PE X (.Subscript a b pos) (tOp r ta tb) := by
  intro pins s σ H Q I h
  exact Subscript_ (binT ha hb I h fun v u s2 x y H2 I2 rx ry q => hr a b pins s2 σ H2 x y v u Q I2 rx ry q (hs _ _))

noncomputable def rIxL (K : PySem.W.Frag) : R2 := fun x y H Q => ∃ p xs i v, x = .ref p ∧ y = .int i ∧ SqL K H p xs ∧ atI xs i = some v ∧ Q v H
theorem ix_list : IxR X (rIxL X.K) := by
  intro value slice pins s σ H x y v u Q I rx ry h hs
  obtain ⟨p, xs, i, z, rfl, rfl, hq, he, q⟩ := h
  cases rx
  obtain ⟨t, rfl⟩ := ry
  obtain ⟨its, r, pl, hz⟩ := I.list hq
  obtain ⟨j, h1, h2, h3, h4, h5⟩ := atI_get he
  obtain ⟨w, ew, rw'⟩ := r.get h2
  have hl := r.length
  have hn := line63
  have fin : EP X pins σ Q w s := ⟨z, H, I, rw', q⟩
  by_cases h0 : 0 ≤ i
  · have hj : i.toNat = j := by
      rw [seqIndex_of h0 h5] at h1
      exact Option.some.inj h1
    exact item_listR pl.isList h0 (by omega) (by rw [hj]; simpa using ew) fin hs
  · have hj : (i + (its.toArray.size : Int)).toNat = j := by
      rw [seqIndex_neg (by omega) h4] at h1
      rw [List.size_toArray, ← hl]
      exact Option.some.inj h1
    exact subscriptTail_builtinR (x := w) pl.isList.typeIs slot_list_getitem.lookup
      (wpAny_getItem_list_neg (Q := fun r s' => r = w ∧ EP X pins σ Q r s') pl.isList (by omega) (by rw [List.size_toArray] <;> omega) (by omega) (by rw [hj]; simpa using ew) ⟨rfl, fin⟩) hs
theorem slice_bounds (lo hi : Option Int) (n : Nat) : (sliceBounds lo hi none n).1 = ((HT.sIx n 0 lo : Nat) : Int) ∧ (sliceBounds lo hi none n).2.1 = ((HT.sIx n n hi : Nat) : Int) ∧ (sliceBounds lo hi none n).2.2 = 1 := by
  refine ⟨?_, ?_, rfl⟩
  · cases lo with
    | none => simp [sliceBounds, HT.sIx]
    | some i =>
      simp only [sliceBounds, HT.sIx, Option.getD_none, show (1 : Int) > 0 by decide, if_true]
      by_cases h : i < 0
      · simp only [h, if_true] <;> omega
      · simp only [h, if_false] <;> omega
  · cases hi with
    | none => simp [sliceBounds, HT.sIx]
    | some i =>
      simp only [sliceBounds, HT.sIx, Option.getD_none, show (1 : Int) > 0 by decide, if_true]
      by_cases h : i < 0
      · simp only [h, if_true] <;> omega
      · simp only [h, if_false] <;> omega
theorem slicePick_cut (its : List Value) (lo hi : Option Int) : slicePick its.toArray lo hi none = ((its.drop (HT.sIx its.length 0 lo)).take (HT.sIx its.length its.length hi - HT.sIx its.length 0 lo)).toArray := by
  obtain ⟨h1, h2, h3⟩ := slice_bounds lo hi its.toArray.size
  unfold slicePick
  rw [h1, h2, h3]
  simp only [sliceRange_one, pick_run, List.size_toArray] <;> rfl
noncomputable def rSlL (K : PySem.W.Frag) : V → Option Int → Option Int → Hp → VK → Prop := fun x lo hi H Q => ∃ a xs, x = .ref a ∧ SqL K H a xs ∧ ∀ p, H p = none → Q (.ref p) (upd H p (.lst (cutV xs lo hi)))
theorem sl_list : SlR X (rSlL X.K) := by
  intro pins s σ H x v vl vu lo hi sl Q I rx hs pl pu h
  obtain ⟨a, xs, rfl, hx, q⟩ := h
  cases rx
  obtain ⟨its, r, ht, hz⟩ := I.list hx
  have hlen := r.length
  refine ⟨"list", _, slot_list_getitem.lookup, ht.isList.typeIs, ?_⟩
  refine wpAny_getItem_list_slice ht.isList hs pl pu .none (by simp) ?_ (by rw [List.size_toArray] <;> omega)
  rw [slicePick_cut, ← hlen]
  refine ⟨.ref s.heap.objs.size, _, I.laid (t' := s.toks) (o := .lst (cutV xs lo hi)) (fun b ob q => Heap.get?_push_of_some _ q) (Nat.le_refl _) ?_, rfl, q _ (I.hok.fresh (Nat.le_refl _))⟩
  exact ⟨Nat.le_trans (cutV_length xs lo hi) hz, _, 0, (r.drop (HT.sIx xs.length 0 lo)).take (HT.sIx xs.length xs.length hi - HT.sIx xs.length 0 lo), Heap.get?_push_size _ rfl⟩

theorem call_len_seq : CallR X (.builtin "len") (fun xs H Q => ∃ p ys, xs = [.ref p] ∧ (SqL X.K H p ys ∨ SqT X.K H p ys) ∧ Q (.int ys.length) H) := by
  intro pins s σ H xs us Q I r h
  obtain ⟨p, ys, rfl, hq, q⟩ := h
  obtain ⟨u, rfl, rx⟩ := vals1 r
  cases rx
  have hn := line63
  rcases hq with hq | hq
  · obtain ⟨its, r', pl, hz⟩ := I.list hq
    have hlen := r'.length
    exact Calls.call_len_list pl.isList (by simp only [List.size_toArray] <;> omega) ⟨.int ys.length, H, I.tok _, ⟨s.toks + 1, by rw [List.size_toArray, hlen]⟩, q⟩
  · obtain ⟨its, r', pl, hz⟩ := I.tuple hq
    have hlen := r'.length
    exact len_tuple pl (by simp only [List.size_toArray] <;> omega) ⟨.int ys.length, H, I.tok _, ⟨s.toks + 1, by rw [List.size_toArray, hlen]⟩, q⟩
noncomputable def tyV (K : PySem.W.Frag) (T : String) (x : V) (H : Hp) : Prop := match x with
  | .str _ => T = "str"
  | .int _ => T = "int"
  | .ref p => (T = "list" ∧ ∃ xs, SqL K H p xs) ∨ (T = "tuple" ∧ ∃ o, K.lookup p = some o ∧ o.cls = .type "tuple" ∧ o.dict = none) ∨
      (T = "dict" ∧ ((∃ kvs, H p = some (.dK kvs)) ∨ ∃ kvs, H p = some (.dT kvs))) ∨ (T = "set" ∧ ∃ S n, H p = some (.set S n))
  | _ => False
theorem tyV_is {pins : List (Addr × Obj)} {σ : St} {H : Hp} {s : Shared} {T : String} {x : V} {v : Value} (I : Inv X pins σ H s) (r : RelV x v) (ty : tyV X.K T x H) :
    s.TypeIs v T ∧ ∀ a, v = .ref a → ∃ ob, s.heap.get? a = some ob ∧ ob.dict = none := by
  cases x with
  | str z =>
    obtain ⟨t, rfl⟩ := r
    cases (show T = "str" from ty)
    exact ⟨typeIs_str s z t, fun _ e => nomatch e⟩
  | int i =>
    obtain ⟨t, rfl⟩ := r
    cases (show T = "int" from ty)
    exact ⟨typeIs_int s i t, fun _ e => nomatch e⟩
  | ref p =>
    cases r
    rcases ty with ⟨rfl, xs, hq⟩ | ⟨rfl, o, hk, hc, hd⟩ | ⟨rfl, hk⟩ | ⟨rfl, S, n, hk⟩
    · obtain ⟨its, _, pl, _⟩ := I.list hq
      refine ⟨pl.isList.typeIs, fun a e => ?_⟩
      cases e
      obtain ⟨o, n, e, c, hd, _⟩ := pl
      exact ⟨o, e, hd⟩
    · refine ⟨⟨o, I.kIn p o hk, hc⟩, fun a e => ?_⟩
      cases e
      exact ⟨o, I.kIn _ o hk, hd⟩
    · have z : ∃ o, s.heap.get? p = some o ∧ o.ExactDict := by
        rcases hk with ⟨kvs, hk⟩ | ⟨kvs, hk⟩
        · obtain ⟨_, _, _, _, o, _, _, e, ex, _⟩ := I.hok p _ hk
          exact ⟨o, e, ex⟩
        · obtain ⟨_, _, _, _, o, _, _, e, ex, _⟩ := I.hok p _ hk
          exact ⟨o, e, ex⟩
      obtain ⟨o, e, ex⟩ := z
      refine ⟨⟨o, e, ex.1⟩, fun a e2 => ?_⟩
      cases e2
      exact ⟨o, e, ex.2.1⟩
    · obtain ⟨o, _, _, _, e, ex, _⟩ := I.hok p _ hk
      refine ⟨⟨o, e, ex.1⟩, fun a e2 => ?_⟩
      cases e2
      exact ⟨o, e, ex.2.1⟩
  | _ => exact False.elim ty
noncomputable def tBM (K : PySem.W.Frag) (T : String) (r : V → List V → Hp → VK → Prop) (to : TE) (t : TA) : TE := fun σ H Q => to σ H fun x H1 => tyV K T x H1 ∧ t σ H1 fun xs H2 => r x xs H2 Q
variable {o e : Expr} {es : List Expr} {to : TE} {t : TA} {name : Str} {apos cpos : Pos} {T id : String} {r : V → List V → Hp → VK → Prop}
theorem pe_bm (pa : PlainAttrs T) (slot : Slot T name id) (hty : typeOf (.builtin id) = pure (.type "method_descriptor")) (hm : MtR X id r) (ho : PE X o to) (ha : PA X (e :: es) t)
    (hbase : autoParam (attributeBase o name X.env (eval o X.env) = eval o X.env) au0_._auto_1)
    (hfew : autoParam (((backTo cpos (starEach (e :: es) X.env)).all (fun x => !x.1) && (backToKw cpos (keywordEach [] X.env)).all (fun x => x.1.isSome)
      && decide ((e :: es).length + ([] : List Keyword).length + (if ([] : List Keyword).isEmpty then 0 else 1) < 30)) = true) au0_._auto_1)
    (hline : autoParam ((apos.endLine == cpos.line) = true) au0_._auto_1) (hs : autoParam (starEach (e :: es) X.env = (false, eval e X.env) :: starEach es X.env) au0_._auto_1) (hplain : autoParam ((backTo cpos (starEach es X.env)).any (·.1) = false) au0_._auto_1) :
    PE X (.Call (.Attribute o name apos) (e :: es) [] cpos) (tBM X.K T r to t) := by
  intro pins s σ H Q I h
  refine wpAny_Call_method_late hbase hfew hline rfl (thn (ho pins s σ H _ I h) fun v s1 ⟨x, H1, I1, r1, ty, q1⟩ => ?_)
  obtain ⟨h1, h2⟩ := tyV_is I1 r1 ty
  refine ⟨T, id, pa, slot, hty, h1, h2, ?_⟩
  have hA := ha cpos pins s1 σ H1 _ I1 q1
  rw [hs] at hA ⊢
  refine Calls.callWith_builtin (by show (false || (backTo cpos (starEach es X.env)).any (·.1)) = false; rw [hplain] <;> rfl) (Calls.evalArgs_plain ?_)
  exact thn hA fun us s2 ⟨vs, H2, I2, r2, q2⟩ => hm pins s2 σ H2 x vs v us Q I2 r1 r2 q2
/- xs.append(e), list.index on a module's tuple .. are MtR facts of 06m -/
end
end L2

namespace L2
open PySem PySem.Spec PyProof.Rows

noncomputable def MtM (X : Cx) (id : String) (r : V → List V → Hp → VK → Prop) : Prop :=
  ∀ (pins : List (Addr × Obj)) (s : Shared) (σ : St) (H : Hp) (x : V) (xs : List V) (v : Value) (us : List Value) (Q : VK), Inv X pins σ H s → RelV x v → Vals xs us → r x xs H Q →
    wpAny (model X.prog X.w) X.A (call (.builtin id) (v :: us)) (EP X pins σ Q) X.xe s

theorem Vals.one : ∀ {x : V} {us : List Value}, Vals [x] us → ∃ u, us = [u] ∧ RelV x u
  | _, _, .cons r .nil => ⟨_, rfl, r⟩
theorem Vals.rep {xs : List V} {us : List Value} (h : Vals xs us) : ∀ k : Nat, Vals (List.replicate k xs).flatten (List.replicate k us).flatten
  | 0 => .nil
  | k + 1 => by
    rw [List.replicate_succ, List.replicate_succ, List.flatten_cons, List.flatten_cons]
    exact Vals.append h (Vals.rep h k)
theorem foldl_rep (its : List Value) : ∀ (k : Nat) (acc : List Value),
    List.foldl (fun x1 x2 => x1 ++ x2) acc.toArray (List.replicate k its.toArray) = (acc ++ (List.replicate k its).flatten).toArray
  | 0, acc => by simp
  | k + 1, acc => by
    have e : acc.toArray ++ its.toArray = (acc ++ its).toArray := by simp
    have e2 : (acc ++ its) ++ (List.replicate k its).flatten = acc ++ (List.replicate (k + 1) its).flatten := by
      rw [List.replicate_succ, List.flatten_cons, List.append_assoc]
    rw [← e2, ← foldl_rep its k (acc ++ its), ← e, List.replicate_succ, List.foldl_cons]

section
variable {X : Cx} {pins : List (Addr × Obj)} {σ : St} {H : Hp} {s : Shared} {l b : Addr} {xs ys zs : List V}

theorem Inv.lset {its its' : List Value} {n : Nat} {f : Array Value → Array Value} {t' : Nat} (I : Inv X pins σ H s) (hH : H l = some (.lst xs))
    (e : s.heap.get? l = some { cls := .type "list", data := .seq its.toArray n }) (hf : f its.toArray = its'.toArray) (hv : Vals ys its') (hz : ys.length ≤ sizeLine) :
    Inv X pins σ (upd H l (.lst ys)) { s with heap := s.heap.update l (Obj.mapSeq f), toks := t' } := by
  have q := PySem.IsL.update e f
  rw [hf] at q
  refine I.write (x := l) (e := l) (by rw [hH]; exact trivial) (.inl rfl) (fun b' u hb hu => (Heap.get?_update_other s.heap (Obj.mapSeq f) (Ne.symm hb)).trans hu) ⟨_, q⟩ ?_
  exact ⟨hz, its', _, hv, q⟩
theorem Inv.lnew {its : List Value} {t' : Nat} (I : Inv X pins σ H s) (hv : Vals ys its) (hz : ys.length ≤ sizeLine) :
    Inv X pins σ (upd H s.heap.objs.size (.lst ys)) { s with heap := s.heap.push { cls := .type "list", data := .seq its.toArray }, toks := t' } :=
  I.laid (fun _ _ q => Heap.get?_push_of_some _ q) (Nat.le_refl _) ⟨hz, its, 0, hv, Heap.get?_push_size _ rfl⟩
theorem Inv.fresh (I : Inv X pins σ H s) : H s.heap.objs.size = none := I.hok.fresh (Nat.le_refl _)
theorem Inv.lstM (I : Inv X pins σ H s) (hH : H l = some (.lst xs)) : xs.length ≤ sizeLine ∧ ∃ (its : List Value) (n : Nat), Vals xs its ∧ xs.length = its.length ∧ s.heap.get? l = some { cls := .type "list", data := .seq its.toArray n } := by
  obtain ⟨z, its, n, r, e⟩ := I.hok l _ hH
  exact ⟨z, its, n, r, r.length, e⟩

theorem notLongL {n : Nat} (h : n ≤ sizeLine) : Builtin.List.listTooLong n = false := by
  unfold Builtin.List.listTooLong
  exact decide_eq_false (by omega)
end

section
variable {X : Cx}

noncomputable def rAppend : V → List V → Hp → VK → Prop := fun x vs H Q => ∃ l xs y, x = .ref l ∧ vs = [y] ∧ H l = some (.lst xs) ∧ xs.length < sizeLine ∧ Q .non (upd H l (.lst (xs ++ [y])))
theorem mt_append : MtM X "list.append" rAppend := by
  intro pins s σ H x vs v us Q I rx rv h
  obtain ⟨l, xs, y, rfl, rfl, hH, hz, q⟩ := h
  cases rx
  obtain ⟨u, rfl, ru⟩ := rv.one
  obtain ⟨z, its, n, r, hl, e⟩ := I.lstM hH
  refine call_meets F.slot_list_append ⟨_, e, rfl⟩ F.entry_list_append (F.args_list_append_2 _ _) (PySem.list_append l its.toArray n u (by rw [List.size_toArray]; omega)) ⟨e, ?_⟩
  refine ⟨.non, _, I.lset (its' := its ++ [u]) hH e (by simp) (r.append (.cons ru .nil)) ?_, rfl, q⟩
  rw [List.length_append, List.length_singleton]
  omega

noncomputable def rExtend : V → List V → Hp → VK → Prop := fun x vs H Q => ∃ l b xs zs, x = .ref l ∧ vs = [.ref b] ∧ H l = some (.lst xs) ∧ H b = some (.lst zs) ∧ xs.length + zs.length ≤ sizeLine ∧ Q .non (upd H l (.lst (xs ++ zs)))
theorem mt_extend : MtM X "list.extend" rExtend := by
  intro pins s σ H x vs v us Q I rx rv h
  obtain ⟨l, b, xs, zs, rfl, rfl, hH, hB, hz, q⟩ := h
  cases rx
  obtain ⟨u, rfl, ru⟩ := rv.one
  cases ru
  obtain ⟨z, its, n, r, hl, e⟩ := I.lstM hH
  obtain ⟨z2, its2, n2, r2, hl2, e2⟩ := I.lstM hB
  have hsz : its.toArray.size + its2.toArray.size ≤ sizeLine := by rw [List.size_toArray, List.size_toArray]; omega
  have hlong : ¬ (!its.toArray.isEmpty && Builtin.List.listTooLong (its.toArray.size + its2.toArray.size)) = true := by
    rw [notLongL hsz, Bool.and_false]
    exact Bool.false_ne_true
  refine call_meets F.slot_list_extend ⟨_, e, rfl⟩ F.entry_list_extend (F.args_list_extend_2 _ _)
    (AutoSeq1.list_extend_list_list_0 l its.toArray n b its2.toArray n2 hlong (by rw [List.size_toArray]; omega) (by omega)) ⟨e, e2, ?_⟩
  refine ⟨.non, _, I.lset (its' := its ++ its2) hH e (by simp) (r.append r2) ?_, rfl, q⟩
  rw [List.length_append]
  omega

noncomputable def rCat : R2 := fun x y H Q => ∃ l b xs zs, x = .ref l ∧ y = .ref b ∧ H l = some (.lst xs) ∧ H b = some (.lst zs) ∧ xs.length + zs.length ≤ sizeLine ∧ ∀ p, H p = none → Q (.ref p) (upd H p (.lst (xs ++ zs)))
theorem op_cat : OpR X (binaryOp .Add) rCat := by
  intro pins s σ H x y v u Q I rx ry h
  obtain ⟨l, b, xs, zs, rfl, rfl, hH, hB, hz, q⟩ := h
  cases rx
  cases ry
  obtain ⟨z, its, n, r, hl, e⟩ := I.lstM hH
  obtain ⟨z2, its2, n2, r2, hl2, e2⟩ := I.lstM hB
  refine PySem.P.add_list e e2 ?_ (by rw [List.size_toArray, List.size_toArray]; omega)
  have ea : its.toArray ++ its2.toArray = (its ++ its2).toArray := by simp
  rw [ea]
  exact ⟨.ref _, _, I.lnew (t' := s.toks) (r.append r2) (by rw [List.length_append]; omega), rfl, q _ I.fresh⟩
noncomputable def rRep : R2 := fun x y H Q => ∃ l k xs, x = .ref l ∧ y = .int k ∧ H l = some (.lst xs) ∧ -(2 ^ 63) ≤ k ∧ k < 2 ^ 63 ∧ xs.length * k.toNat ≤ sizeLine ∧
  ∀ p, H p = none → Q (.ref p) (upd H p (.lst (List.replicate k.toNat xs).flatten))
theorem len_rep {α : Type} (xs : List α) (k : Nat) : (List.replicate k xs).flatten.length = k * xs.length := by
  induction k with
  | zero => simp
  | succ k ih => rw [List.replicate_succ, List.flatten_cons, List.length_append, ih, Nat.succ_mul, Nat.add_comm]
theorem op_rep : OpR X (binaryOp .Mult) rRep := by
  intro pins s σ H x y v u Q I rx ry h
  obtain ⟨l, k, xs, rfl, rfl, hH, h1, h2, hz, q⟩ := h
  cases rx
  obtain ⟨t, rfl⟩ := ry
  obtain ⟨z, its, n, r, hl, e⟩ := I.lstM hH
  have hlen : its.toArray.size * k.toNat ≤ sizeLine := by rw [List.size_toArray, ← hl]; exact hz
  have hcap : ¬ its.toArray.size * k.toNat > (2 ^ 63 - 1) / 8 := by
    have : (sizeLine : Nat) ≤ (2 ^ 63 - 1) / 8 := by decide
    omega
  have hfit : ¬ (!Builtin.List.listFitsIndex k) = true := by
    rw [fitsIndex_both h1 h2]
    exact Bool.false_ne_true
  have hlong : ¬ Builtin.List.listTooLong (its.toArray.size * k.toNat) = true := by
    rw [notLongL hlen]
    exact Bool.false_ne_true
  have hnew : List.foldl (fun x1 x2 => x1 ++ x2) #[] (List.replicate (if its.toArray.isEmpty = true then 0 else k.toNat) its.toArray) = (List.replicate k.toNat its).flatten.toArray := by
    have f0 : ∀ m : Nat, List.foldl (fun x1 x2 => x1 ++ x2) #[] (List.replicate m its.toArray) = (List.replicate m its).flatten.toArray := fun m => by
      have := foldl_rep its m []
      rw [List.nil_append] at this
      exact this
    rw [f0]
    cases its with
    | nil => simp
    | cons a r' => rw [if_neg (by simp)]
  refine wpAny_binaryOp_repeat_ref (T := "list") (U := "int") (by decide) ⟨_, e, rfl⟩ (fun s' => typeIs_int s' k t) noFill_list_mul F.fills_int_mul F.slot_int_rmul repeat_list F.slot_int_index.lookup
    (call_meets F.slot_int_rmul (typeIs_int s k t) F.entry_int_rmul (F.args_int_rmul_2 _ _) (int___rmul___int_list k t l its.toArray n)
      ⟨e, rfl, ⟨_, e, rfl⟩, call_meets F.slot_list_mul ⟨_, e, rfl⟩ F.entry_list_mul (F.args_list_mul_2 _ _) (AutoListH.list___mul___list_int_3 l its.toArray n k t hfit hcap hlong) ⟨e, ?_⟩⟩)
  rw [hnew]
  exact ⟨.ref _, _, I.lnew (t' := s.toks) (r.rep k.toNat) (by rw [len_rep, Nat.mul_comm]; exact hz), rfl, q _ I.fresh⟩

end

section
variable {prog : Program} {w : World} {A : Around} {E : Value → Shared → Prop} {s : Shared}
set_option maxRecDepth 100000 in
end

section
variable {X : Cx}
end
end L2

namespace Att
open PySem PySem.W PySem.Calls PyProof.Rows

theorem ints_of_wellAll {P : Params} {h : Heap} : ∀ (ns : List Int) (vs : List Value), WellAll P h vs (ns.map WData.int) → IntsAre vs ns := by
  intro ns
  induction ns with
  | nil =>
    intro vs w
    rw [List.map_nil] at w
    cases w
    exact .nil
  | cons n ns ih =>
    intro vs w
    rw [List.map_cons] at w
    cases w with
    | cons a b =>
      cases a
      exact .cons _ _ (ih _ b)

theorem script_of {l : OpenLaw} {n : Nat} (hn : l.most = some n) {P : Params} {h : Heap} {args : List WData} {vals : List Value}
    (hpre : l.row.toRowW.claim.pre args = true) (hwl : WellAll P h vals args) :
    ∃ a vs ns, vals = [Value.ref a] ∧ args = [WData.list (ns.map WData.int)] ∧ h.get? a = some { cls := .type "list", data := .seq vs.toArray } ∧ IntsAre vs ns ∧ ns.length ≤ n := by
  have hsh : WShape.hasAll [] args [.list .int] = true := (pre_splitW hpre).1
  have hc : l.pre.holds [] { args := args } = true := (pre_splitW hpre).2
  obtain ⟨d, r, rfl, h1, h2⟩ := hasAllW_cons hsh
  obtain rfl := hasAllW_nil h2
  obtain ⟨xs, rfl, h3⟩ := hasW_list h1
  obtain ⟨ns, rfl⟩ := items_int h3
  have hlen : ns.length ≤ n := by
    unfold OpenLaw.pre at hc
    have h4 : (WTm.not (.lt (.lit (.int (n : Int))) (.len (.arg 0)))).holds [] { args := [.list (ns.map .int)] } = true := by
      have h4 := (holds_andW hc).1
      rw [hn] at h4
      exact h4
    have h5 := condW_of h4 (w_not (w_lt w_lit (w_len_list (w_arg rfl))))
    rw [List.length_map] at h5
    refine Nat.le_of_not_lt fun q => ?_
    have q' : (n : Int) < ((ns.length : Nat) : Int) := by omega
    first
      | (rw [decide_eq_true q'] at h5; exact absurd h5 (by decide))
      | (simp at h5; omega)
  cases hwl with
  | cons w1 w2 =>
    cases w2
    cases w1 with
    | list ho hall => exact ⟨_, _, ns, rfl, rfl, ho, ints_of_wellAll ns _ hall, hlen⟩

theorem post_true (l : OpenLaw) (args : List WData) : l.row.toRowW.claim.post args (.bool true) args = true :=
  postW_of (r := l.row.toRowW) (X := (true == true))
    (show WShape.has [] (.bool true) .bool = true by first | rfl | decide | simp [WShape.has, WShape.arms, WShape.armsAll])
    (show (WTm.eq .res (.lit (.bool true))).value [] { args := args, res := some (.bool true), after := args } = some (.bool (true == true)) from w_eq_bool (w_res rfl) w_lit) rfl

theorem attach_call {l : OpenLaw} {n : Nat} {q : Program} {loose : List Str} {XP : (Str → Option Value) → Heap → Prop} {YP : World → Heap → Prop} {d : DefRec}
    (hn : l.most = some n) (hdf : d.params.defaults = [])
    (call : ∀ (w : World) (s₀ s₁ : Shared) (mg mb : Str → Option Value) (fa : Addr) (o : Obj) (pm cd doc : Value) (a : Addr) (vs : List Value) (ns : List Int),
      Ground q loose [] XP w s₀ mg mb s₁.heap → YP w s₁.heap →
      s₁.heap.get? fa = some o → o.data = .func (docDef d.name d.params d.body d.scope pm cd doc) → s₁.heap.CodeRec cd d.name → mg d.name = some (.ref fa) →
      s₁.heap.get? a = some { cls := .type "list", data := .seq vs.toArray } → IntsAre vs ns → ns.length ≤ n → s₁.gens = #[] →
      codeAny (model l.prog w) callerA (.call (.ref fa) ⟨[.ref a], []⟩) (fun r s' => r = .ok (.ret (.bool true)) ∧ OldK s₁.heap s'.heap ∧ s'.os = s₁.os ∧ AllBare s'.gens) s₁) :
    WalkO q loose XP YP l.row.toRowW d [] (fun f vs => PySem.call f vs) := by
  intro w s₀ s₁ mg mb G Y fa o pm cd doc dV kV ho hd hcd hD hmg hg args vals as hpre hlay hrd hwl hlo
  obtain rfl : dV = .none := Dflts.none hD hdf
  obtain rfl : kV = .none := Dflts.noKw hD
  obtain ⟨a, vs, ns, rfl, rfl, hobj, hints, hlen⟩ := script_of hn hpre hwl
  refine enter_call (codeAny_mono (call w s₀ s₁ mg mb fa o pm cd doc a vs ns G Y ho (fd_plain hd) hcd hmg hobj hints hlen hg) fun r s' hq => ?_)
  obtain ⟨rfl, h2, h3, h4⟩ := hq
  exact ⟨.inl ⟨.bool true, .bool true, [], rfl, fun _ => rfl, .bool true, post_true l _, fun _ => ⟨List.Pairwise.nil, fun _ hm => (nomatch hm)⟩⟩, h2, h3, h4⟩

section
variable {prog : Program} {w : World} {A : Around} {E : Value → Shared → Prop} {s : Shared} {K : Frag}

end
end Att

namespace L2
open PySem PySem.Spec PyProof.Rows

theorem vals_ints : ∀ {vs : List Value} {ns : List Int}, IntsAre vs ns → Vals (ns.map V.int) vs
  | _, _, .nil => .nil
  | _, _, .cons n t h => .cons ⟨t, rfl⟩ (vals_ints h)

noncomputable def Only (H : Hp) : Prop := ∀ b, H b = none ∨ ∃ o xs, H b = some (.frz o (.lst xs))

theorem law_call {P : Program} {w : World} {K : PySem.W.Frag} {mg mb : Str → Option Value} {CX : CXT} {k : Nat} {fa a : Addr} {fd : FuncData} {x : Str} {sp : Sp} {s₁ : Shared} {vs : List Value} {ns : List Int}
    (KX : K.In s₁.heap) (hns : s₁.heap.Ns mainGlobals mg) (hb : s₁.heap.Ns builtinsNs mb) (hbb : ∀ x : Str, x ≠ "__name__" → mb x = bootBuiltins x) (hlim : s₁.heap.NoLimit) (hg : s₁.gens = #[])
    (ha : s₁.heap.get? a = some { cls := .type "list", data := .seq vs.toArray }) (hi : IntsAre vs ns) (hl : ns.length ≤ sizeLine) (hr : Room k callerA)
    (F : ∀ base : Heap, K.In base → base.Ns mainGlobals mg → FnOk P w K mg base CX k fa fd [x] sp) (hbind : ∀ (s : Shared) (u : Value), BindsTo s fd ⟨[u], []⟩ [(x, u)])
    (hsp : ∀ H : Hp, Only H → SqL K H a (ns.map V.int) → sp [.ref a] H (fun v _ => v = .bl true) fun _ _ _ => False)
    (hCX : ∀ H e s', CX [] H s₁ (fun _ _ _ => False) e s' → False) :
    codeAny (model P w) callerA (.call (.ref fa) ⟨[.ref a], []⟩) (fun r s' => r = .ok (.ret (.bool true)) ∧ OldK s₁.heap s'.heap ∧ s'.os = s₁.os ∧ AllBare s'.gens) s₁ := by
  have rv := vals_ints hi
  have lenV := hi.length
  -- from an abstract heap in which nothing but the script may be tracked
  have core : ∀ H : Hp, Only H → SqL K H a (ns.map V.int) → HOk P w H s₁.heap → (∀ b, H b ≠ none → b = a) → (H a ≠ none → K.lookup a = none) →
      codeAny (model P w) callerA (.call (.ref fa) ⟨[.ref a], []⟩) (fun r s' => r = .ok (.ret (.bool true)) ∧ OldK s₁.heap s'.heap ∧ s'.os = s₁.os ∧ AllBare s'.gens) s₁ := by
    intro H hO hS hok hA hK
    have base_of : ∀ {b : Addr} {o : Obj}, s₁.heap.get? b = some o → H b = none → (hidT s₁.heap H).get? b = some o := fun e n => hidT_get e n
    have noA : ∀ {b : Addr} {o : Obj} {es : Array DictEntry} {ep : Nat}, s₁.heap.get? b = some o → o.data = .dict es ep → H b = none := fun {b o es ep} e d => by
      cases q : H b with
      | none => rfl
      | some u =>
        have e' : b = a := hA b (by rw [q]; simp)
        subst e'
        rw [ha] at e; cases e
        have d' : Data.seq vs.toArray _ = Data.dict es ep := d
        cases d'
    have nsK : ∀ {b : Addr} {m : Str → Option Value}, s₁.heap.Ns b m → (hidT s₁.heap H).Ns b m := fun {b m} ⟨o, es, ep, e, d, r⟩ => ⟨o, es, ep, base_of e (noA e d), d, r⟩
    have hKb : K.In (hidT s₁.heap H) := fun b o e => base_of (KX b o e) (by
      cases q : H b with
      | none => rfl
      | some u =>
        have e' : b = a := hA b (by rw [q]; simp)
        subst e'
        rw [hK (by rw [q]; simp)] at e; cases e)
    have hM : Mod K mg (hidT s₁.heap H) := ⟨hKb, nsK hns, ⟨mb, nsK hb, hbb⟩, let ⟨mc, h1, h2⟩ := hlim; ⟨mc, nsK h1, h2⟩⟩
    have e0 : Env0 P w K mg (hidT s₁.heap H) callerA [] s₁ H := ⟨rfl, hM, fun b o e => of_hidT e, Nat.le_of_eq (hidT_size _ _), trivial, fun b hb => absurd (show b ∈ ([] : List Addr) from hb) (by simp), hok, .of_eq hg⟩
    refine codeAny_mono ((F _ hKb (nsK hns)).run callerA [] s₁ H ⟨[.ref a], []⟩ [.ref a] [.ref a] _ _ hr e0 (hbind s₁ (.ref a)) (.cons rfl .nil) (hsp H hO hS)) fun r s' h => ?_
    cases r with
    | error e => exact (hCX H e s' h).elim
    | ok fl =>
      cases fl with
      | next => exact False.elim h
      | brk => exact False.elim h
      | cont => exact False.elim h
      | ret u =>
        obtain ⟨v, H', os, bare, un, hok', r', q⟩ := h
        have q' : v = .bl true := q
        subst q'
        obtain rfl : u = Value.bool true := r'
        refine ⟨rfl, OldK.of_keep fun b o e => ?_, os, bare⟩
        cases q : H b with
        | none => exact un.keep b o e q (by intro z; exact absurd (show b ∈ ([] : List Addr) from z) (by simp)) (by simp)
        | some u =>
          rcases hO b with z | ⟨ob, xs, z⟩
          · rw [q] at z; cases z
          · have z2 := un.frzs b ob _ z
            obtain ⟨e1, _⟩ := hok b _ z
            obtain ⟨e2, _⟩ := hok' b _ z2
            rw [e] at e1; cases e1
            exact e2
  cases hk : K.lookup a with
  | some o =>
    -- the script is one of the module's own objects
    have e := KX a o hk
    rw [ha] at e
    cases e
    refine core (fun _ => none) (fun _ => .inl rfl) (.inr ⟨_, vs.toArray, _, hk, rfl, rfl, rfl, by rw [List.size_toArray, lenV]; exact hl, by simpa using rv⟩) (fun b u z => by have z' : (none : Option HO) = some u := z; cases z') (fun b z => absurd rfl z) fun z => absurd rfl z
  | none =>
    refine core (fun b => if b = a then some (.frz { cls := .type "list", data := .seq vs.toArray } (.lst (ns.map V.int))) else none) (fun b => ?_) (.inl (.inr ⟨{ cls := .type "list", data := .seq vs.toArray }, if_pos rfl⟩)) (fun b u z => ?_) (fun b z => ?_) fun _ => hk
    · by_cases hb : b = a
      · exact .inr ⟨_, _, if_pos hb⟩
      · exact .inl (if_neg hb)
    · by_cases hb : b = a
      · have z' := (if_pos hb).symm.trans z
        cases z'
        subst hb
        exact ⟨ha, by rw [List.length_map]; exact hl, vs, _, rv, ha⟩
      · have z' := (if_neg hb).symm.trans z
        cases z'
    · by_cases hb : b = a
      · exact hb
      · exact absurd (if_neg hb) z
end L2

namespace L2
open PySem PySem.Spec PyProof.Rows

theorem walk_of {l : PySem.W.OpenLaw} {n k : Nat} {q : Program} {loose : List Str} {XP : (Str → Option Value) → Heap → Prop} {YP : World → Heap → Prop} {d : DefRec} {K : Params → PySem.W.Frag} {CX : World → CXT} {sp : World → Sp} {x : Str}
    (hn : l.most = some n) (hn2 : n ≤ sizeLine) (hdf : d.params.defaults = []) (hr : Room k callerA)
    (hY : ∀ (w : World) (h : Heap), YP w h → (K w.params).In h)
    (F : ∀ (w : World) (mg : Str → Option Value) (fa : Addr) (h : Heap), (K w.params).In h → h.Ns mainGlobals mg → mg d.name = some (.ref fa) →
      ∃ fd : FuncData, (∀ (s : Shared) (u : Value), BindsTo s fd ⟨[u], []⟩ [(x, u)]) ∧
        ∀ base : Heap, (K w.params).In base → base.Ns mainGlobals mg → FnOk l.prog w (K w.params) mg base (CX w) k fa fd [x] (sp w))
    (hsp : ∀ (w : World) (H : Hp) (a : Addr) (ns : List Int), ns.length ≤ n → Only H → SqL (K w.params) H a (ns.map V.int) → sp w [.ref a] H (fun v _ => v = .bl true) fun _ _ _ => False)
    (hCX : ∀ (w : World) (H : Hp) (s : Shared) (e : Value) (s' : Shared), CX w [] H s (fun _ _ _ => False) e s' → False) :
    PySem.W.WalkO q loose XP YP l.row.toRowW d [] (fun f vs => PySem.call f vs) := by
  refine Att.attach_call hn hdf fun w s₀ s₁ mg mb fa o pm cd doc a vs ns G Y ho hd hcd hmg hobj hints hlen hg => ?_
  have KX := hY w _ Y
  obtain ⟨fd, hb, hF⟩ := F w mg fa _ KX G.T.g hmg
  exact law_call KX G.T.g G.T.b G.T.builtins G.T.nolimit hg hobj hints (Nat.le_trans hlen hn2) hr hF hb (fun H hO hS => hsp w H a ns hlen hO hS) fun H e s' => hCX w H s₁ e s'
end L2



namespace L2
open PySem PySem.Spec PyProof.Rows

noncomputable def inClass (s : Stmt) (j : Nat) : Stmt := match s with
  | .ClassDef _ _ _ body _ _ _ _ _ _ _ => body.getD j (.Pass ⟨0, 0, 0, 0⟩)
  | _ => .Pass ⟨0, 0, 0, 0⟩
noncomputable def defArgs (s : Stmt) : Arguments := match s with
  | .FunctionDef _ a _ _ _ _ _ _ _ _ => a
  | _ => { posonlyargs := [], args := [], vararg := none, kwonlyargs := [], kw_defaults := [], kwarg := none, defaults := [] }
noncomputable def defBody (s : Stmt) : List Stmt := match s with
  | .FunctionDef _ _ b _ _ _ _ _ _ _ => b
  | _ => []
noncomputable def defScope (s : Stmt) : Scope := match s with
  | .FunctionDef _ _ _ _ _ _ sc _ _ _ => sc
  | _ => { kind := .function, names := [], isGenerator := false, isCoroutine := false }

noncomputable abbrev CX0 : CXT := fun _ _ _ _ _ _ => False
noncomputable abbrev E0 : XK := fun _ _ _ => False
theorem pass0 {X : Cx} : Passes CX0 X E0 := fun _ _ _ _ _ _ _ h => h.elim

structure Fun (K : PySem.W.Frag) (x qual : Str) (st : Stmt) (f : Addr) (fd : FuncData) : Prop where
  ex : ∃ (oc : Value) (od : Option Addr) (kV doc pm : Value) (an : Option Addr) (cdv ct : Value) (osl : Array (Option Value)),
    fd = PySem.W.fnOf x qual (defArgs st) (defBody st) (defScope st) .none kV doc pm an cdv ct ∧ K.lookup f = some ⟨oc, od, .func fd, osl⟩ ∧ PySem.W.codeIn K cdv qual = true
  kp : PySem.W.keepIn K (.ref f) = true
section
variable {P : Program} {w : World} {K : PySem.W.Frag} {mg : Str → Option Value} {base : Heap}
theorem Fun.ok {x qual : Str} {st : Stmt} {f : Addr} {fd : FuncData} {N ps : List Str} {k : Nat} {sp : Sp} (F : Fun K x qual st f fd) (S : FnScope N ps (defScope st)) (len : ∀ vs H Q E, sp vs H Q E → vs.length = ps.length)
    (hbody : ∀ (cdv : Value) (A : Around) (outer : List Env) (s : Shared) (H : Hp) (vs : List V) (Q : VK) (E : XK), Room k (A.deeper (envOfC qual (defScope st) s.heap.objs.size f cdv)) → sp vs H Q E →
      ∃ t, PSs (cxOf CX0 P w K mg base N qual (defScope st) f cdv A outer s H E).nox (defBody st) t ∧ t { nx := fun _ H' => Q .non H', rt := Q } (start N vs) H) : FnOk P w K mg base CX0 (k + 1) f fd ps sp := by
  obtain ⟨oc, od, kV, doc, pm, an, cdv, ct, osl, rfl, lk, hcd⟩ := F.ex
  refine fn_of lk hcd S len fun A outer s H vs Q E hr hsp => ?_
  obtain ⟨t, h, q⟩ := hbody cdv A outer s H vs Q E hr hsp
  exact ⟨t, h.nox, q⟩
theorem Fun.binds {x qual : Str} {st : Stmt} {f : Addr} {fd : FuncData} {ps : List Str} (F : Fun K x qual st f fd)
    (h : ∀ (kV doc pm : Value) (an : Option Addr) (cdv ct : Value) (us : List Value), us.length = ps.length → bindArgs (PySem.W.fnOf x qual (defArgs st) (defBody st) (defScope st) .none kV doc pm an cdv ct) ⟨us, []⟩ = pure (ps.zip us)) : Binds K fd ps [] := by
  obtain ⟨oc, od, kV, doc, pm, an, cdv, ct, osl, rfl, lk, hcd⟩ := F.ex
  exact .all (h kV doc pm an cdv ct)
theorem fun_mk {x qual : Str} {st : Stmt} {f : Addr} {oc : Value} {od an : Option Addr} {osl : Array (Option Value)} {kV doc pm cdv ct : Value} (l : K.lookup f = some ⟨oc, od, .func (PySem.W.fnOf x qual (defArgs st) (defBody st) (defScope st) .none kV doc pm an cdv ct), osl⟩)
    (c : PySem.W.codeIn K cdv qual = true) (k : PySem.W.keepIn K (.ref f) = true) : Fun K x qual st f (PySem.W.fnOf x qual (defArgs st) (defBody st) (defScope st) .none kV doc pm an cdv ct) := ⟨⟨oc, od, kV, doc, pm, an, cdv, ct, osl, rfl, l, c⟩, k⟩
end
theorem small1000 {n : Nat} (h : n ≤ 1000) : n < sizeLine := Nat.lt_of_le_of_lt h (by decide)

section
variable {X : Cx}
theorem pv (i : Nat) {x : Str} {pos : Pos} (hN : autoParam (X.N[i]? = some x) au0_._auto_1) (hv : Vis X.env.scope x := by first | exact Or.inl rfl | exact Or.inr (Or.inl rfl) | exact Or.inr (Or.inr rfl)) (hd : autoParam ((x == ("__debug__" : Str)) = false) au1_._auto_1)
    (hcd : autoParam ((x == ("__classdict__" : Str)) = false) au1_._auto_1) : PE X (.Name x pos) (tVar i) := pe_var hN hv hd hcd
end

theorem iteF {A B : Prop} (h : B) : if false = true then A else B := by
  rw [if_neg Bool.false_ne_true]
  exact h
theorem iteT {A B : Prop} (h : A) : if true = true then A else B := by
  rw [if_pos rfl]
  exact h
theorem ite2 {c A B : Prop} [Decidable c] (h1 : c → A) (h2 : ¬ c → B) : if c then A else B := by
  by_cases h : c
  · rw [if_pos h]
    exact h1 h
  · rw [if_neg h]
    exact h2 h
noncomputable def Same (H H' : Hp) : Prop := ∀ b o, H b = some o → H' b = some o
theorem Same.refl (H : Hp) : Same H H := fun _ _ h => h
theorem Same.trans {H H1 H2 : Hp} (a : Same H H1) (b : Same H1 H2) : Same H H2 := fun c o h => b c o (a c o h)
theorem Same.free {H H' : Hp} (e : Same H H') {l : Addr} (h : H' l = Option.none) : H l = Option.none := by
  cases q : H l with
  | none => rfl
  | some o =>
    rw [e l o q] at h
    cases h
theorem Same.seq {K : PySem.W.Frag} {H H' : Hp} {a : Addr} {xs : List V} (e : Same H H') (h : SqL K H a xs) : SqL K H' a xs := by
  rcases h with (h | ⟨o, h⟩) | h
  · exact .inl (.inl (e _ _ h))
  · exact .inl (.inr ⟨o, e _ _ h⟩)
  · exact .inr h

end L2

set_option maxHeartbeats 4000000
namespace Mth

noncomputable def Sz (n : Nat) (x : Int) : Prop := x.natAbs < 2 ^ n
noncomputable instance {n : Nat} {x : Int} : Decidable (Sz n x) := inferInstanceAs (Decidable (x.natAbs < 2 ^ n))
theorem Sz.log {m : Nat} {x : Int} (hx : Sz m x) (hm : m ≤ 9000) (h0 : 0 < m) : x.natAbs.log2 < 9000 := by
  by_cases h : x.natAbs = 0
  · rw [h]; decide
  · have := (Nat.log2_lt h).mpr hx
    (first | lia | omega)
theorem Sz.of_lt {m k : Nat} {x : Int} (h : x.natAbs < k) (hk : k ≤ 2 ^ m) : Sz m x := Nat.lt_of_lt_of_le h hk

end Mth

namespace Mth
end Mth

namespace Mth
end Mth

namespace Mth
end Mth

namespace Mth
section
variable {α : Type} {s : α → Bool} {es : List α} {i : Nat} {e : α}
end
end Mth

namespace Mth
section
variable {s s' : Nat → Rat} {i m k k' : Nat} {c : Rat}
end
end Mth

namespace Mth
section
variable {L : Nat → Nat → Prop} {N f : Nat} {t u : Nat → Int}
end
end Mth

namespace Mth
section
variable {t v : Nat → Rat} {B s : Rat} {n i j k l : Nat}
end
end Mth

namespace My
open PySem PySem.Spec PyProof.Rows L2 Mth

theorem mulR {x y : Int} (h1 : -(2 ^ 64) < y) (h2 : y < 2 ^ 64) : IntMulOk x y := CMul.ok (.inr ⟨h1, h2⟩)
theorem mulL {x y : Int} (h1 : -(2 ^ 64) < x) (h2 : x < 2 ^ 64) : IntMulOk x y := CMul.ok (.inl ⟨h1, h2⟩)
noncomputable def CDivB (_ j : Int) : Prop := j ≠ 0 ∧ j.natAbs.log2 < 9000

section
variable {X : Cx}
theorem op_mulB : OpR X (binaryOp .Mult) (rI IntMulOk fun i j => .int (i * j)) := opI fun _ _ _ _ _ _ _ hc q => mul_int q hc
theorem op_fdivB : OpR X (binaryOp .FloorDiv) (rI CDivB fun i j => .int (i.fdiv j)) := opI fun _ _ _ _ _ _ _ hc q => floordiv_int hc.1 q (.inl (PyProof.noPylong_of_log2 hc.2))
end

mutual
inductive Den (H : Hp) : V → PyData → Prop where
  | non : Den H .non .none
  | bl (b : Bool) : Den H (.bl b) (.bool b)
  | int (i : Int) : Den H (.int i) (.int i)
  | str (x : Str) : Den H (.str x) (.str x)
  | tup {a : Addr} {xs : List V} {ds : List PyData} : H a = some (.tup xs) → Dens H xs ds → Den H (.ref a) (.tuple ds)
  | lst {a : Addr} {xs : List V} {ds : List PyData} : H a = some (.lst xs) → Dens H xs ds → Den H (.ref a) (.list ds)
inductive Dens (H : Hp) : List V → List PyData → Prop where
  | nil : Dens H [] []
  | cons {x : V} {xs : List V} {d : PyData} {ds : List PyData} : Den H x d → Dens H xs ds → Dens H (x :: xs) (d :: ds)
end
section
variable {P : Program} {w : World} {H : Hp} {h : Heap}
mutual
theorem Den.reads (ok : HOk P w H h) : ∀ {v : V} {d : PyData}, Den H v d → ∀ {u : Value}, RelV v u → ∃ as, Reads h u d as
  | _, _, .non, u, r => by cases (show u = Value.none from r); exact ⟨_, Reads.none⟩
  | _, _, .bl b, u, r => by cases (show u = Value.bool b from r); exact ⟨_, Reads.bool b⟩
  | _, _, .int i, u, r => by obtain ⟨t, q⟩ := (show ∃ t, u = Value.int i t from r); cases q; exact ⟨_, Reads.int i t⟩
  | _, _, .str x, u, r => by obtain ⟨t, q⟩ := (show ∃ t, u = Value.str x t from r); cases q; exact ⟨_, Reads.str x t⟩
  | _, _, @Den.tup _ a xs ds e dd, u, r => by
    cases (show u = Value.ref a from r)
    obtain ⟨_, its, rv, o, h1, h2, n, h3⟩ := (show ObjOk P w H h a (.tup xs) from ok a _ e)
    obtain ⟨as, q⟩ := Dens.reads ok dd rv
    exact ⟨as, reads_tuple_at h1 h2 h3 (by simpa using q)⟩
  | _, _, @Den.lst _ a xs ds e dd, u, r => by
    cases (show u = Value.ref a from r)
    obtain ⟨_, its, n, rv, h1⟩ := (show ObjOk P w H h a (.lst xs) from ok a _ e)
    obtain ⟨as, q⟩ := Dens.reads ok dd rv
    exact ⟨_, reads_list_at h1 rfl rfl (by simpa using q)⟩
theorem Dens.reads (ok : HOk P w H h) : ∀ {vs : List V} {ds : List PyData}, Dens H vs ds → ∀ {us : List Value}, Vals vs us → ∃ as, ReadsAll h us ds as
  | _, _, .nil, _, .nil => ⟨_, ReadsAll.nil⟩
  | _, _, .cons d dd, _, .cons r rr => by
    obtain ⟨as, q⟩ := Den.reads ok d r
    obtain ⟨bs, p⟩ := Dens.reads ok dd rr
    exact ⟨_, ReadsAll.cons q p⟩
end
end
noncomputable def rNeD : R2 := fun x y H Q => ∃ d e, Den H x d ∧ Den H y e ∧ SeqAt.shaped d = true ∧ SeqAt.shaped e = true ∧ Q (.bl (!PyData.eqv d e)) H
section
variable {X : Cx}
theorem op_neD (hu : X.A.units + 64 < cLine) : OpR X (compareOp .NotEq) rNeD := by
  intro pins s σ H x y v u Q I rx ry h
  obtain ⟨d, e, hd, he, s1, s2, q⟩ := h
  obtain ⟨as, r1⟩ := hd.reads I.hok rx
  obtain ⟨bs, r2⟩ := he.reads I.hok ry
  exact ne_dataH r1 r2 s1 s2 hu ⟨.bl _, H, I, rfl, q⟩
noncomputable def rIsi (K : PySem.W.Frag) : List V → Hp → VK → Prop := fun xs H Q => ∃ x n t b, xs = [x, .ty n] ∧ TyOf K H x t ∧ PySem.W.kitOne K t (.type n) = some b ∧ Q (.bl b) H
theorem call_isi : CallR X (.builtin "isinstance") (rIsi X.K) := by
  intro pins s σ H xs us Q I r h
  obtain ⟨x, n, t, b, rfl, ty, e, q⟩ := h
  obtain ⟨u, u2, rfl, rx, rn⟩ := vals2 r
  cases (show u2 = Value.type n from rn)
  exact isinst_ok I rx ty e fun tk => ⟨.bl b, H, I.tok tk, rfl, q⟩
end
section
variable {K : PySem.W.Frag}
theorem kit_ii : PySem.W.kitOne K (.type "int") (.type "int") = some true := by rfl
theorem kit_ib : PySem.W.kitOne K (.type "int") (.type "bool") = some false := by rfl
end

section
variable {es : List Expr} {env : Env} {pos : Pos}
theorem any0 : (backTo pos (starEach [] env)).any (·.1) = false := by rfl
theorem anyc {e : Expr} (h : starEach (e :: es) env = (false, eval e env) :: starEach es env) (k : (backTo pos (starEach es env)).any (·.1) = false) : (backTo pos (starEach (e :: es) env)).any (·.1) = false := by
  rw [h]
  exact k
theorem st_C {c : Const} {k : Nat} : starEach (.Constant c k pos :: es) env = (false, eval (.Constant c k pos) env) :: starEach es env := by rfl
theorem st_N {x : Str} : starEach (.Name x pos :: es) env = (false, eval (.Name x pos) env) :: starEach es env := by rfl
theorem st_B {a b : Expr} {op : Operator} : starEach (.BinOp a op b pos :: es) env = (false, eval (.BinOp a op b pos) env) :: starEach es env := by rfl
theorem st_S {a b : Expr} : starEach (.Subscript a b pos :: es) env = (false, eval (.Subscript a b pos) env) :: starEach es env := by rfl
theorem st_K {f : Expr} {as : List Expr} {kw : List Keyword} : starEach (.Call f as kw pos :: es) env = (false, eval (.Call f as kw pos) env) :: starEach es env := by rfl
end

section
variable {tg : Option Expr} {l : Nat} {env : Env} {pos : Pos}
theorem sw_C {c : Const} {k : Nat} : swapsWith (.Constant c k pos) tg l env = pure false := by rfl
theorem sw_N {x : Str} : swapsWith (.Name x pos) tg l env = pure false := by rfl
theorem sw_B {a b : Expr} {op : Operator} : swapsWith (.BinOp a op b pos) tg l env = pure false := by rfl
theorem sw_K {f : Expr} {as : List Expr} {kw : List Keyword} : swapsWith (.Call f as kw pos) tg l env = pure false := by rfl
theorem sw_L {as : List Expr} : swapsWith (.List as pos) tg l env = pure false := by rfl
end
structure Dn (P : Program) (w : World) (K : PySem.W.Frag) (mg : Str → Option Value) (base : Heap) (k : Nat) (x : Str) (ps : List Str) (sp : Sp) : Prop where
  ex : ∃ (f : Addr) (fd : FuncData), FnOk P w K mg base CX0 k f fd ps sp ∧ mg x = some (.ref f) ∧ PySem.W.keepIn K (.ref f) = true ∧ Binds K fd ps []
section
variable {X : Cx} {k : Nat} {x : Str} {ps : List Str} {sp : Sp} {p pos : Pos} {e : Expr} {es : List Expr} {t : TA}
theorem pe_dn (D : Dn X.prog X.w X.K X.mg X.base k x ps sp) (hr : Room k X.A) (hg : Gl X x) (ha : PA X (e :: es) t) (hdb : autoParam ((x == ("__debug__" : Str)) = false) au1_._auto_1)
    (he : autoParam (starEach (e :: es) X.env = (false, eval e X.env) :: starEach es X.env) au0_._auto_1) (hpl : autoParam ((backTo pos (starEach es X.env)).any (·.1) = false) au0_._auto_1) : PE X (.Call (.Name x p) (e :: es) [] pos) (tCall sp [] E0 t) := by
  obtain ⟨f, fd, ok, hm, hk, hb⟩ := D.ex
  exact pe_call ok hr hg hm hk hb .nil pass0 ha hdb he hpl
end
theorem dn_mk {P : Program} {w : World} {K : PySem.W.Frag} {mg : Str → Option Value} {base : Heap} {k : Nat} {x qual : Str} {ps : List Str} {sp : Sp} {st : Stmt} {f : Addr} {fd : FuncData} (F : Fun K x qual st f fd) (ok : FnOk P w K mg base CX0 k f fd ps sp)
    (hm : mg x = some (.ref f)) (hb : Binds K fd ps []) : Dn P w K mg base k x ps sp := ⟨f, fd, ok, hm, F.kp, hb⟩

section
variable {σ : L2.St} {H : Hp} {Q : VK} {D : Ends} {te ta tb : TE} {t u : TS} {c : TT} {B : Bool → Hp → Prop} {i : Nat} {v : V} {m n : Int} {K : PySem.W.Frag}
theorem r_seq (h : t { D with nx := u D } σ H) : tSeq t u D σ H := h
theorem r_set (h : te σ H fun x H1 => D.nx (σ.set i (some x)) H1) : tAsg te (gName i) D σ H := h
theorem r_ret (h : te σ H D.rt) : tRet te D σ H := h
theorem r_drop (h : te σ H fun _ H1 => D.nx σ H1) : tDrop te D σ H := h
theorem r_if (h : c σ H fun b H1 => if b = true then t D σ H1 else u D σ H1) : tIfS c t u D σ H := h
theorem r_next (h : D.nx σ H) : tNext D σ H := h
theorem r_var (e : σ[i]? = some (some v)) (q : Q v H) : tVar i σ H Q := ⟨v, e, q⟩
theorem r_c (q : Q v H) : tC v σ H Q := q
theorem r_op {r : R2} (h : ta σ H fun x H1 => tb σ H1 fun y H2 => r x y H2 Q) : tOp r ta tb σ H Q := h
theorem r_un {r : V → Hp → VK → Prop} (h : ta σ H fun x H1 => r x H1 Q) : tUn r ta σ H Q := h
theorem r_I0 {g : Int → Int → V} (q : Q (g m n) H) : rI0 g (.int m) (.int n) H Q := ⟨m, n, rfl, rfl, q⟩
theorem r_I {C : Int → Int → Prop} {g : Int → Int → V} (hc : C m n) (q : Q (g m n) H) : rI C g (.int m) (.int n) H Q := ⟨m, n, rfl, rfl, hc, q⟩
theorem r_U {g : Int → V} (q : Q (g m) H) : rU g (.int m) H Q := ⟨m, rfl, q⟩
theorem r_test (h : te σ H fun x H' => ∃ k, x = .bl k ∧ B k H') : tTest te σ H B := h
theorem r_B (h : te σ H fun x H' => ∃ k, x = .bl k ∧ B k H') : tB te σ H B := h
theorem r_bl {b : Bool} {R : Bool → Prop} (h : R b) : ∃ k, V.bl b = .bl k ∧ R k := ⟨b, rfl, h⟩
theorem r_cb {r : List V → Hp → VK → Prop} {ts : TA} (h : ts σ H fun vs H1 => r vs H1 Q) : tCB r ts σ H Q := h
theorem r_cons {ts : TA} {R : List V → Hp → Prop} (h : te σ H fun x H1 => ts σ H1 fun xs H2 => R (x :: xs) H2) : tCons te ts σ H R := h
theorem r_nil {R : List V → Hp → Prop} (h : R [] H) : tNil σ H R := h
noncomputable def Nw (mk : List V → HO) (xs : List V) (H : Hp) (Q : VK) : Prop := xs.length ≤ sizeLine ∧ ∀ p, H p = none → Q (.ref p) (upd H p (mk xs))
theorem r_lst {ts : TA} (h : ts σ H fun xs H1 => Nw .lst xs H1 Q) : tLst ts σ H Q := h
theorem r_call {sp : Sp} {ts : TA} (h : ts σ H fun vs H1 => sp (vs ++ []) H1 Q E0) : tCall sp [] E0 ts σ H Q := h
theorem r_not (h : c σ H fun b H1 => B (!b) H1) : tNot c σ H B := h
theorem r_or {d : TT} (h : c σ H fun b H1 => if b = true then B true H1 else d σ H1 B) : tOr c d σ H B := h
theorem r_andV (h : ta σ H fun x H1 => ∃ k, x = .bl k ∧ if k = true then tb σ H1 Q else Q (.bl false) H1) : tAndV ta tb σ H Q := h
theorem r_notV (h : ta σ H fun x H1 => ∃ k, x = .bl k ∧ Q (.bl (!k)) H1) : tNotV ta σ H Q := h
theorem r_eq (hs : scal (.int m) (.int n) = true) (q : Q (.bl (decide (m = n))) H) : rEq (.int m) (.int n) H Q := ⟨hs, by
  have e : decide (V.int m = V.int n) = decide (m = n) := by simp
  rw [e]; exact q⟩
theorem at0 {x : V} {xs : List V} : atI (x :: xs) 0 = some x := atI_nat (j := 0) rfl
theorem at1 {x y : V} {xs : List V} : atI (x :: y :: xs) 1 = some y := atI_nat (j := 1) rfl
noncomputable def rLen (K : PySem.W.Frag) : List V → Hp → VK → Prop := fun xs H Q => ∃ p ys, xs = [.ref p] ∧ (SqL K H p ys ∨ SqT K H p ys) ∧ Q (.int ys.length) H
theorem r_len {p : Addr} {ys : List V} (h : SqL K H p ys ∨ SqT K H p ys) (q : Q (.int ys.length) H) : rLen K [.ref p] H Q := ⟨p, ys, rfl, h, q⟩
noncomputable def rAbs : List V → Hp → VK → Prop := fun xs H Q => ∃ i, xs = [.int i] ∧ Q (.int (if i < 0 then -i else i)) H
theorem r_absC (q : Q (.int (if m < 0 then -m else m)) H) : rAbs [.int m] H Q := ⟨m, rfl, q⟩
section
variable {X : Cx} (K : PySem.W.Frag)
theorem ixL (h : autoParam (X.K = K) au0_._auto_1) : IxR X (rIxL K) := h ▸ ix_list
theorem slL (h : autoParam (X.K = K) au0_._auto_1) : SlR X (rSlL K) := h ▸ sl_list
theorem lenC (h : autoParam (X.K = K) au0_._auto_1) : CallR X (.builtin "len") (rLen K) := h ▸ call_len_seq
theorem isiC (h : autoParam (X.K = K) au0_._auto_1) : CallR X (.builtin "isinstance") (rIsi K) := h ▸ call_isi
theorem pe_ty {X : Cx} {x : Str} {n : String} {pos : Pos} (hg : Gl X x) (hm : X.mg x = none) (hv : bootBuiltins x = some (.type n)) (hn : autoParam (x ≠ "__name__") au1_._auto_1) (hd : autoParam ((x == ("__debug__" : Str)) = false) au1_._auto_1) : PE X (.Name x pos) (tC (.ty n)) :=
  pe_bltn hg hm hv (show RelV (.ty n) (.type n) from rfl) hn hd
theorem absC : CallR X (.builtin "abs") rAbs := call_abs
theorem piL {tg l : Expr} {tl : TE} (hl : PE X l tl) (h : autoParam (X.K = K) au0_._auto_1) : PI X tg l (iList K tl) := h ▸ pi_list hl
theorem appC {o e : Expr} {to te : TE} {apos cpos : Pos} (ho : PE X o to) (he : PE X e te) (h : autoParam (X.K = K) au0_._auto_1)
    (hbase : autoParam (attributeBase o "append" X.env (eval o X.env) = eval o X.env) au0_._auto_1)
    (hfew : autoParam (((backTo cpos (starEach (e :: []) X.env)).all (fun x => !x.1) && (backToKw cpos (keywordEach [] X.env)).all (fun x => x.1.isSome)
      && decide ((e :: ([] : List Expr)).length + ([] : List Keyword).length + (if ([] : List Keyword).isEmpty then 0 else 1) < 30)) = true) au0_._auto_1)
    (hline : autoParam ((apos.endLine == cpos.line) = true) au0_._auto_1) (hs : autoParam (starEach (e :: []) X.env = (false, eval e X.env) :: starEach [] X.env) au0_._auto_1) (hplain : autoParam ((backTo cpos (starEach [] X.env)).any (·.1) = false) au0_._auto_1) :
    PE X (.Call (.Attribute o "append" apos) [e] [] cpos) (tBM K "list" rAppend to (tCons te tNil)) :=
  h ▸ pe_bm PySem.F.plainAttrs_list PySem.F.slot_list_append PySem.F.type_list_append mt_append ho (pa_cons he pa_nil hs) hbase hfew hline hs hplain
end
theorem same_new {p : Addr} (h : H p = none) (o : HO) : Same H (upd H p o) := fun b u q => by rw [upd_ne (ne_of_none q h)]; exact q
theorem r_new {xs : List V} {mk : List V → HO} (hl : xs.length ≤ 1000) (h : ∀ p H1, Same H H1 → H p = none → H1 p = some (mk xs) → Q (.ref p) H1) : Nw mk xs H Q :=
  ⟨Nat.le_of_lt (small1000 hl), fun p hp => h p _ (same_new hp _) hp upd_same⟩
theorem r_g {R : L2.St → Hp → Prop} (h : R (σ.set i (some v)) H) : gName i v σ H R := h
theorem r_l {p : Addr} {xs : List V} {j : Int} (h : H p = some (.lst xs)) (e : atI xs j = some v) (q : Q v H) : rIxL K (.ref p) (.int j) H Q := ⟨p, _, j, v, rfl, rfl, SqL.of h, e, q⟩
theorem r_bm {T : String} {r : V → List V → Hp → VK → Prop} {ts : TA} (h : te σ H fun x H1 => tyV K T x H1 ∧ ts σ H1 fun xs H2 => r x xs H2 Q) : tBM K T r te ts σ H Q := h
theorem r_app {p : Addr} {xs : List V} (h : H p = some (.lst xs)) (hl : xs.length < sizeLine) (q : Q .non (upd H p (.lst (xs ++ [v])))) : rAppend (.ref p) [v] H Q := ⟨p, xs, v, rfl, rfl, h, hl, q⟩
theorem same_at {H1 H2 : Hp} {p : Addr} {o : HO} (s : Same H1 H2) (n : H1 p = none) : Same H1 (upd H2 p o) := fun b x e => by rw [upd_ne (ne_of_none e n)]; exact s b x e
theorem at_ints {xs : List Int} {j : Nat} {x k : Int} (h : xs[j]? = some x) (hk : k = (j : Int)) : atI (xs.map V.int) k = some (.int x) := by
  subst hk
  exact atI_nat (by rw [List.getElem?_map, h]; rfl)
theorem r_for {wi : TI} {g : TG} {tb : TS} (h : wi σ H fun J H1 => ∃ W : Nat → Nat → L2.St → Hp → Prop, (∃ m, W 0 m σ H1) ∧ ∀ i m σ H, W i m σ H →
  (J.stop i H ∧ D.nx σ H) ∨ (J.go i H ∧ ∃ N : L2.St → Hp → Prop, (∀ σ' H', N σ' H' → ∃ m', m' < m ∧ W (i + 1) m' σ' H') ∧ ∀ x H', J.yld i H x H' → g x σ H' fun σ2 H2 => tb { D with nx := N, ct := N, bk := D.nx } σ2 H2)) : tFor wi g tb D σ H := h
theorem r_isi {x : V} {ty : String} {tv : Value} {b : Bool} (h : TyOf K H x tv) (e : PySem.W.kitOne K tv (.type ty) = some b) (q : Q (.bl b) H) : rIsi K [x, .ty ty] H Q := ⟨x, ty, tv, b, rfl, h, e, q⟩
end
end My

namespace My
open PySem PySem.Spec PyProof.Rows L2 Mth
section
variable {prog : Program} {w : World} {A : Around} {E : Value → Shared → Prop} {s : Shared}
end
section
variable {X : Cx} {pos : Pos}
end
section
variable {σ : L2.St} {H : Hp} {Q : VK} {a b : Bool} {K : PySem.W.Frag}
end
end My

namespace My
open PySem PySem.Spec PyProof.Rows L2 Mth
noncomputable def cxComp (X : Cx) (N' : List Str) (scope : Scope) (cl : List (Str × Addr)) (C : Addr) (s0 : Shared) (H0 : Hp) (ex' : List Addr) (pn' : List (Addr × Obj)) : Cx :=
  { X with N := N', s₀ := s0, H₀ := H0, env := compEnvC scope cl C X.env, outer := X.stack, ex := ex', fn := fun _ => false, pn := pn', xe := fun _ _ => False }
noncomputable def capV (cap : List Nat) (σ : L2.St) : L2.St := cap.map fun j => (σ[j]?).getD none
theorem un_but {fs ex : List Addr} {H H' : Hp} {h h1 h2 : Heap} (u : Un fs ex H H' h h1) (k : ∀ b, b < h.objs.size → h2.get? b = h1.get? b) : Un fs ex H H' h h2 :=
  ⟨fun b o e n hb hx => (k b (Heap.lt_size e)).trans (u.keep b o e n hb hx), fun b o e n hb hx => let ⟨sl, q⟩ := u.slot b o e n hb hx; ⟨sl, (k b (Heap.lt_size e)).trans q⟩, u.free,
    fun b o e hx => let ⟨o', q⟩ := u.there b o e hx; ⟨o', (k b (Heap.lt_size e)).trans q⟩, u.tups, u.frzs, u.tbls⟩
theorem hok_but {P : Program} {w : World} {H : Hp} {h h' : Heap} {C : Addr} (x : HOk P w H h) (n : H C = none) (k : ∀ b o, b ≠ C → h.get? b = some o → h'.get? b = some o) : HOk P w H h' := fun b u e =>
  (x b u e).stay (fun c v hc q => k c v (by
    rcases hc with z | z
    · rw [z]; exact ne_of_none e n
    · exact ne_of_none z n) q) (fun _ q => q) fun _ _ q => q
theorem compLoop_gen {prog : Program} {w : World} {A : Around} {R : Result → Shared → Prop} {s : Shared} {elt iter tg : Expr} {ifs : List Expr} {scope : Scope} {pos : Pos} {it acc : Value} {env : Env} (I : Nat → Shared → Prop)
    (turn : ∀ n s, I n s → wpAny (model prog w) A (pyNext it) (fun r s₁ => match r with
      | none => R (.ok .next) s₁
      | some v => wpAny (model prog w) A (letOwnedTupleGo tg it v) (fun _ s₁' => wpAny (model prog w) A (assign tg env v) (fun _ s₂ =>
          wpAny (model prog w) A (forIn ifs true fun c r => if r = true then do let ok ← isTrue c env (eval c env); pure (ForInStep.yield ok) else pure (ForInStep.yield r)) (fun ok s₃ =>
            if ok = true then wpAny (model prog w) A (eval elt env) (fun x s₄ =>
              wpAny (model prog w) A (call (.builtin "list.append") [acc, x]) (fun _ s₅ => ∃ m, m < n ∧ I m s₅) (notedBy (model prog w) A env fun e s' => R (.error e) s') s₄) (notedBy (model prog w) A env fun e s' => R (.error e) s') s₃
            else ∃ m, m < n ∧ I m s₃) (notedBy (model prog w) A env fun e s' => R (.error e) s') s₂) (notedBy (model prog w) A env fun e s' => R (.error e) s') s₁') (notedBy (model prog w) A env fun e s' => R (.error e) s') s₁) (notedBy (model prog w) A env fun e s' => R (.error e) s') s)
    (n : Nat) (h : I n s) : codeAny (model prog w) A (.compLoop (.ListComp elt [⟨tg, iter, ifs, 0⟩] scope pos) 0 it acc env) R s := by
  refine codeAny_loop rfl I (fun n s hI => ?_) n h
  show wpAny _ A ((compTurn (.ListComp elt [⟨tg, iter, ifs, 0⟩] scope pos) 0 it acc env).onRaise (fun x => do noteFrame x env; theTreesLotGoes x)) _ _ s
  refine wpAny_noted ?_
  rw [compTurn_list]
  refine wpAny_bind (wpAny_standAt (wpAny_bind (wpAny_mono (turn n s hI) (fun r s₁ h₁ => ?_) fun _ _ h' => h')))
  cases r with
  | none => exact wpAny_pure h₁
  | some v =>
    refine wpAny_bind (wpAny_mono h₁ (fun _ s₂ h₂ => wpAny_bind (wpAny_mono h₂ (fun _ s₃ h₃ => wpAny_bind (wpAny_mono h₃ (fun ok s₄ h₄ => ?_) fun _ _ h' => h')) fun _ _ h' => h')) fun _ _ h' => h')
    cases ok with
    | false => exact wpAny_pure ⟨rfl, h₄⟩
    | true =>
      exact wpAny_bind (wpAny_bind (wpAny_mono h₄ (fun x s₄ h₄ => wpAny_bind (wpAny_mono h₄ (fun _ s₅ h₅ => wpAny_pure (wpAny_pure ⟨rfl, h₅⟩)) fun _ _ h' => h')) fun _ _ h' => h'))
noncomputable def PTs (X : Cx) (ifs : List Expr) (t : TT) : Prop :=
  ∀ (pins : List (Addr × Obj)) (s : Shared) (σ : L2.St) (H : Hp) (Q : Bool → Hp → Prop), Inv X pins σ H s → t σ H Q →
    wpAny (model X.prog X.w) X.A (forIn ifs true fun c r => if r = true then do let ok ← isTrue c X.env (eval c X.env); pure (ForInStep.yield ok) else pure (ForInStep.yield r)) (TP X pins σ Q) X.xe s
noncomputable def tYes : TT := fun _ H B => B true H
theorem pts_nil {X : Cx} : PTs X [] tYes := fun _ _ _ H _ I h => wpAny_tests_nil ⟨H, I, h⟩
noncomputable def CapOk (X : Cx) (scope : Scope) (cl : List (Str × Addr)) : List Str → List Nat → Prop
  | [], [] => True
  | y :: ys, j :: js => (X.N[j]? = some y ∧ X.env.kindOf y = some .cell ∧ (relabel scope X.env).names.lookup y = some .cell ∧ cl.lookup y = X.env.cells.lookup y) ∧ CapOk X scope cl ys js
  | _, _ => False
theorem CapOk.len {X : Cx} {scope : Scope} {cl : List (Str × Addr)} : ∀ {ys : List Str} {js : List Nat}, CapOk X scope cl ys js → ys.length = js.length
  | [], [], _ => rfl
  | _ :: _, _ :: _, h => congrArg (· + 1) h.2.len
theorem CapOk.at {X : Cx} {scope : Scope} {cl : List (Str × Addr)} : ∀ {ys : List Str} {js : List Nat}, CapOk X scope cl ys js → ∀ (i j : Nat) (y : Str), ys[i]? = some y → js[i]? = some j →
    X.N[j]? = some y ∧ X.env.kindOf y = some .cell ∧ (relabel scope X.env).names.lookup y = some .cell ∧ cl.lookup y = X.env.cells.lookup y
  | [], [], _, i, _, _, e, _ => by simp at e
  | _ :: _, _ :: _, h, 0, j, y, e1, e2 => by
    simp at e1 e2
    subst e1 e2
    exact h.1
  | _ :: _, _ :: _, h, i + 1, j, y, e1, e2 => h.2.at i j y (by simpa using e1) (by simpa using e2)
noncomputable def tComp (wi : TI) (n : Nat) (cap : List Nat) (g : TG) (tt : TT) (te : TE) : TE := fun σ H Q => wi σ H fun J H1 => ∀ D, H1 D = none → ∃ W : Nat → Nat → List V → Hp → Prop, (∃ m, W 0 m [] (upd H1 D (.lst []))) ∧
  ∀ i m xs H2, W i m xs H2 → H2 D = some (.lst xs) ∧ ((J.stop i H2 ∧ Q (.ref D) H2) ∨ (J.go i H2 ∧ xs.length < sizeLine ∧ ∀ x H3 σ0, σ0.length = n → J.yld i H2 x H3 →
    g x (σ0 ++ capV cap σ) H3 fun σ2 H4 => (∃ σ1, σ1.length = n ∧ σ2 = σ1 ++ capV cap σ) ∧ tt σ2 H4 fun b H5 => if b = true then te σ2 H5 fun y H6 => H6 D = some (.lst xs) ∧ ∃ m', m' < m ∧ W (i + 1) m' (xs ++ [y]) (upd H6 D (.lst (xs ++ [y])))
      else ∃ m', m' < m ∧ W (i + 1) m' xs H5))
section
variable {X : Cx} {elt iter tg : Expr} {ifs : List Expr} {pos : Pos} {scope : Scope} {cl : List (Str × Addr)} {wi : TI} {te : TE} {tt : TT} {g : TG} {O N' : List Str} {cap : List Nat} {n : Nat}
theorem inv_but {pins : List (Addr × Obj)} {σ : L2.St} {H : Hp} {s : Shared} {C : Addr} {h' : Heap} (I : L2.Inv X pins σ H s) (hC : FpOk X pins H C) (sb : Heap.SameBut C s.heap h') : L2.Inv X pins σ H { s with heap := h' } := by
  have k : ∀ b o, s.heap.get? b = some o → b ∉ [C] → h'.get? b = some o := fun b o e hb => (sb.2 b (fun z => hb (by rw [z]; exact List.mem_singleton.mpr rfl))).trans e
  refine I.call' (s' := { s with heap := h' }) (ch := [C]) rfl ⟨fun b o e _ _ hb => k b o e hb, fun b o e _ _ hb => ⟨o.slots, k b o e hb⟩, fun b o _ n _ => n, fun b o e hb => ⟨o, k b o e hb⟩, fun _ _ q => q, fun _ _ _ q => q, fun _ ps q => ⟨#[], by simpa using q⟩⟩
    (hok_but I.hok hC.1 fun b o hb e => (sb.2 b hb).trans e) I.bare fun b hb => ?_
  obtain rfl : b = C := List.mem_singleton.mp hb
  exact ⟨hC.2.2.2.1, hC.2.1, hC.2.2.2.2.1, hC.2.2.2.2.2⟩
theorem comp_gen {pins : List (Addr × Obj)} {s : Shared} {σ : L2.St} {H : Hp} {Q : VK} {cpos : Pos} (use : Option (Value → Sem Unit)) (Q' : Value → Shared → Prop) (hc : X.calm = true) (hi : PI X tg iter wi)
    (hg : ∀ (C : Addr) (s0 : Shared) (H0 : Hp) (ex' : List Addr) (pn' : List (Addr × Obj)), PG (cxComp X (O ++ N') scope cl C s0 H0 ex' pn') tg g)
    (htt : ∀ (C : Addr) (s0 : Shared) (H0 : Hp) (ex' : List Addr) (pn' : List (Addr × Obj)), PTs (cxComp X (O ++ N') scope cl C s0 H0 ex' pn') ifs tt)
    (helt : ∀ (C : Addr) (s0 : Shared) (H0 : Hp) (ex' : List Addr) (pn' : List (Addr × Obj)), PE (cxComp X (O ++ N') scope cl C s0 H0 ex' pn') elt te)
    (hO : O.length = n) (hcap : CapOk X scope cl N' cap)
    (hclos : closureFor scope X.env = pure cl) (hcell : ∀ y ∈ scope.names, y.2 ≠ .cell) (hkind : scope.kind = .function) (hnames : ∀ y ∈ scope.names, y.2 = .local → scope.names.lookup y.1 = some .local)
    (hclx : ∀ y c, cl.lookup y = some c → X.env.cells.lookup y = some c) (hhas : ∀ y, ((relabel scope X.env).names.lookup y = some .cell ∨ (relabel scope X.env).names.lookup y = some .free) → ∃ c, cl.lookup y = some c)
    (hs : ∀ z, foldedSetIterable iter X.env z = pure z)
    (I : L2.Inv X pins σ H s) (h : tComp wi n cap g tt te σ H Q)
    (fin : ∀ (D : Addr) (H5 : Hp) (s6 : Shared) (C : Addr), L2.Inv X pins σ H5 s6 → FpOk X pins H5 C → (∃ m, s6.heap.Ns C m) → Q (.ref D) H5 → compPost (model X.prog X.w) X.A X.xe use Q' (.ref D) C (.ok .next) s6) :
    wpAny (model X.prog X.w) X.A (comprehension (.ListComp elt [⟨tg, iter, ifs, 0⟩] scope pos) scope X.env cpos (newList []) false (eval iter X.env) use) Q' X.xe s := by
  refine wpAny_comprehension_free (use := use) rfl hs hclos hkind hnames (thn (hi pins s σ H _ I h) fun v s1 h1 => thn h1 fun itv s2 h2 => ?_)
  obtain ⟨it, fp, tn, J, H2, e, I2, T, st2, f2, q2⟩ := h2
  subst e
  refine wpAny_newObj_type (wpAny_newFunctionEnv hcell (by intro y hy; simp at hy) (fun h₁ hns₁ hsb₁ => ?_) hkind)
  dsimp only at hns₁ hsb₁ ⊢
  -- the list, then the block's own names
  have I3 : Inv X pins σ (upd H2 s2.heap.objs.size (.lst [])) { s2 with heap := s2.heap.push { cls := .type "list", data := .seq ([] : List Value).toArray }, toks := s2.toks } := I2.lnew (its := []) (t' := s2.toks) .nil (Nat.zero_le _)
  generalize hH3 : s2.heap.push { cls := .type "list", dict := none, data := .seq ([] : List Value).toArray } = h3 at hns₁ hsb₁ I3 ⊢
  have q3 := q2 s2.heap.objs.size (I2.hok.fresh (Nat.le_refl _))
  generalize hD : s2.heap.objs.size = D at I3 q3 hns₁ hsb₁ ⊢
  obtain ⟨W, ⟨m0, w0⟩, turn⟩ := q3
  have hC : ∀ b o, h3.get? b = some o → b ≠ h3.objs.size := fun b o e => Nat.ne_of_lt (Heap.lt_size e)
  have old : ∀ b o, h3.get? b = some o → h₁.get? b = some o := fun b o e => hsb₁.extBut b o (hC b o e) (Heap.get?_push_of_some _ e)
  have fpThere : ∀ b ∈ fp, ∃ o, h3.get? b = some o := fun b hb => by
    obtain ⟨o, e, _⟩ := T.obj _ _ st2 b hb
    exact ⟨o, by rw [← hH3]; exact Heap.get?_push_of_some _ e⟩
  have fp3 : ∀ b ∈ fp, upd H2 D (.lst []) b = none := fun b hb => by
    have n := (f2 b hb).1
    obtain ⟨o, e, _⟩ := T.obj _ _ st2 b hb
    rw [upd_ne (by rw [← hD]; exact Nat.ne_of_lt (Heap.lt_size e))]
    exact n
  have stk : ∀ b ∈ fp, b ∉ frs X.stack := fun b hb z => by
    rcases List.mem_cons.mp (I3.stkSub b z) with e | e
    · exact (f2 b hb).2.1 e
    · exact (f2 b hb).2.2.1 e
  have ok : (cxComp X (O ++ N') scope cl h3.objs.size { s2 with heap := h3, toks := s2.toks } (upd H2 D (.lst [])) fp (X.pn ++ pins)).Ok :=
    ⟨I.ok.mod, hkind, I.ok.glob, I.ok.blt, Nat.le_refl _, fun y z c a b => I.ok.inj y z c (hclx y c a) (hclx z c b), hhas, fun _ _ z => absurd z Bool.false_ne_true, I.ok.hd, I.ok.frames, .inl rfl,
      fun b hb => ⟨by obtain ⟨o, e⟩ := fpThere b hb; exact hC b o e, fun y c a => (f2 b hb).2.2.2.2.1 y c (hclx y c a)⟩, I3.bs, Nat.le_trans I3.ok.bsz I3.sz,
      fun b o e hb => by
        rcases (f2 b hb).2.2.2.1 with z | z
        · exact I.ok.noex b o e z
        · exact absurd (Nat.lt_of_lt_of_le (Heap.lt_size (I.ok.bs b o e).1) z) (Nat.lt_irrefl _),
      stk, I3.stack, I3.stkFree⟩
  have I4 : Inv (cxComp X (O ++ N') scope cl h3.objs.size { s2 with heap := h3, toks := s2.toks } (upd H2 D (.lst [])) fp (X.pn ++ pins)) [] (List.replicate n none ++ capV cap σ) (upd H2 D (.lst [])) { s2 with heap := h₁, toks := s2.toks + ([] : List (Str × Value)).length } := by
    refine ⟨ok, rfl, I3.bare, Un.kept old, ⟨_, hns₁, fun i y v e1 e2 e3 => ?_⟩, fun y c a => ?_, I3.hok.fresh (Nat.le_refl _), fun y c a => I3.freeC y c (hclx y c a), fun p hp => ?_, I3.hok.kept old, ?_⟩
    · by_cases hin : i < n
      · rw [List.getElem?_append_left (by rw [List.length_replicate]; exact hin), List.getElem?_replicate, if_pos hin] at e2
        cases e2
      · have e1' : N'[i - n]? = some y := by
          have z : (O ++ N')[i]? = some y := e1
          rw [List.getElem?_append_right (by (first | lia | omega)), hO] at z
          exact z
        have hi' : i - n < cap.length := by rw [← hcap.len]; exact (List.getElem?_eq_some_iff.mp e1').1
        obtain ⟨j, ej⟩ : ∃ j, cap[i - n]? = some j := ⟨_, List.getElem?_eq_getElem hi'⟩
        obtain ⟨a1, a2, a3, a4⟩ := hcap.at (i - n) j y e1' ej
        have e2' : σ[j]? = some (some v) := by
          have z : (capV cap σ)[i - n]? = some (some v) := by
            rw [List.getElem?_append_right (by rw [List.length_replicate]; (first | lia | omega)), List.length_replicate] at e2
            exact e2
          unfold capV at z
          rw [List.getElem?_map, ej] at z
          have z2 : (σ[j]?).getD none = some v := by simpa using z
          cases q : σ[j]? with
          | none => rw [q] at z2; cases z2
          | some o => rw [q] at z2; exact congrArg some z2
        obtain ⟨m, hn, hl⟩ := I3.loc
        obtain ⟨u, r, l⟩ := hl j y v a1 e2' (.inr (.inl a2))
        refine ⟨u, r, .inr ⟨.inl a3, ?_⟩⟩
        rcases l with ⟨k, _⟩ | ⟨_, c, ec, o, ho, hd⟩
        · rw [a2] at k; cases k
        · exact ⟨c, a4.trans ec, o, old c o ho, hd⟩
    · obtain ⟨v, o, ho, hd⟩ := I3.cell y c (hclx y c a)
      exact ⟨v, o, old c o ho, hd⟩
    · have hp' : p ∈ X.pn ++ pins := by simpa [cxComp] using hp
      obtain ⟨e, n, ne, nf, d⟩ := I3.pin p hp'
      refine ⟨old _ _ e, n, hC _ _ e, fun z => ?_, d⟩
      rcases List.mem_cons.mp (I3.stkSub p.1 z) with e | e
      · exact ne e
      · exact nf e
    · show (List.replicate n none ++ capV cap σ).length = (O ++ N').length
      unfold capV
      rw [List.length_append, List.length_append, List.length_replicate, List.length_map, hcap.len, hO]
  have loop : codeAny (model X.prog X.w) X.A (.compLoop (.ListComp elt [⟨tg, iter, ifs, 0⟩] scope pos) 0 (.ref it) (.ref D) (compEnvC scope cl h3.objs.size X.env))
      (compPost (model X.prog X.w) X.A X.xe use Q' (.ref D) h3.objs.size) { s2 with heap := h₁, toks := s2.toks + ([] : List (Str × Value)).length } := by
    have fpk : ∀ {H' : Hp}, (∀ b ∈ fp, H' b = none) → ∀ b ∈ fp, FpOk (cxComp X (O ++ N') scope cl h3.objs.size { s2 with heap := h3, toks := s2.toks } (upd H2 D (.lst [])) fp (X.pn ++ pins)) [] H' b := fun hn b hb => by
      obtain ⟨o, e⟩ := fpThere b hb
      refine ⟨hn b hb, hC b o e, stk b hb, .inl hb, fun y c a => (f2 b hb).2.2.2.2.1 y c (hclx y c a), fun p hp => ?_⟩
      have hp' : p ∈ X.pn ++ pins := by simpa [cxComp] using hp
      exact (f2 b hb).2.2.2.2.2 p hp'
    refine compLoop_gen (fun mm s' => ∃ (i : Nat) (xs : List V) (H' : Hp) (σ0 : L2.St), σ0.length = n ∧ Inv (cxComp X (O ++ N') scope cl h3.objs.size { s2 with heap := h3, toks := s2.toks } (upd H2 D (.lst [])) fp (X.pn ++ pins)) [] (σ0 ++ capV cap σ) H' s' ∧ tn i s'.heap ∧ (∀ b ∈ fp, H' b = none) ∧ W i mm xs H') ?_ m0
      ⟨0, [], _, List.replicate n none, List.length_replicate, I4, T.keep _ _ _ st2 fun b hb o e => old b o (by rw [← hH3]; exact Heap.get?_push_of_some _ e), fp3, w0⟩
    rintro mm s5 ⟨i, xs, H5, σ0, hσ0, I5, st5, fr5, w5⟩
    obtain ⟨e5, tw⟩ := turn i mm xs H5 w5
    rcases tw with ⟨stop, qn⟩ | ⟨go, hz, step⟩
    · refine thn (T.done (cxComp X (O ++ N') scope cl h3.objs.size { s2 with heap := h3, toks := s2.toks } (upd H2 D (.lst [])) fp (X.pn ++ pins)) rfl rfl rfl hc i [] s5 _ H5 _ I5 (fpk fr5) st5 stop) fun r s6 ⟨hr, I6⟩ => ?_
      subst hr
      obtain ⟨m, hn, _⟩ := id I6.loc
      have J6 : L2.Inv X pins σ H5 s6 := I3.call' (s' := s6) (ch := fp) I6.os I6.base I6.hok I6.bare fun b hb => by
        obtain ⟨_, g1, _, g3, g4, g5⟩ := f2 b hb
        exact ⟨g3, g1, g4, g5⟩
      exact fin D H5 s6 _ J6 (I3.fpOk (Nat.le_refl _) I6.free) ⟨m, hn⟩ qn
    · refine thn (T.item (cxComp X (O ++ N') scope cl h3.objs.size { s2 with heap := h3, toks := s2.toks } (upd H2 D (.lst [])) fp (X.pn ++ pins)) rfl rfl rfl hc i [] s5 _ H5 _ I5 (fpk fr5) st5 go) fun r s6 ⟨u, hr, h6⟩ => ?_
      subst hr
      refine thn h6 fun _ s7 ⟨xv, H7, I7, r7, y7, st7, fr7⟩ => ?_
      have I7' := I7.pinned (fpk fr7) (T.obj _ _ st7)
      refine wpAny_mono (hg _ _ _ _ _ _ s7 _ H7 xv u _ I7' r7 (step xv H7 σ0 hσ0 y7)) (fun _ s8 ⟨σ2, H8, I8, ⟨σ1, hσ1, e2⟩, q8⟩ => ?_) fun _ _ z => z.elim
      refine wpAny_mono (htt _ _ _ _ _ _ s8 σ2 H8 _ I8 q8) (fun ok s9 ⟨H9, I9, q9⟩ => ?_) fun _ _ z => z.elim
      subst e2
      have keep : ∀ {s' : Shared} {σ' : L2.St} {H' : Hp}, Inv (cxComp X (O ++ N') scope cl h3.objs.size { s2 with heap := h3, toks := s2.toks } (upd H2 D (.lst [])) fp (X.pn ++ pins)) ([] ++ pinsAt fp s7.heap) σ' H' s' → tn (i + 1) s'.heap ∧ ∀ b ∈ fp, H' b = none := fun {s' σ' H'} J =>
        ⟨T.keep _ _ _ st7 fun b hb o e => (J.pin (b, o) (List.mem_append_right _ (List.mem_append_right _ (mem_pinsAt hb e)))).1, fun b hb => by
          obtain ⟨o, e, d⟩ := T.obj _ _ st7 b hb
          exact (J.pin (b, o) (List.mem_append_right _ (List.mem_append_right _ (mem_pinsAt hb e)))).2.1⟩
      cases ok with
      | false =>
        rw [if_neg Bool.false_ne_true] at q9 ⊢
        obtain ⟨m', hm, w9⟩ := q9
        exact ⟨m', hm, i + 1, xs, H9, σ1, hσ1, I9.unpinned, (keep I9).1, (keep I9).2, w9⟩
      | true =>
        rw [if_pos rfl] at q9 ⊢
        refine wpAny_mono (helt _ _ _ _ _ _ s9 _ H9 _ I9 q9) (fun yv s10 ⟨y, H10, I10, r10, e10, m', hm, w10⟩ => ?_) fun _ _ z => z.elim
        refine wpAny_mono (mt_append (X := cxComp X (O ++ N') scope cl h3.objs.size { s2 with heap := h3, toks := s2.toks } (upd H2 D (.lst [])) fp (X.pn ++ pins)) _ s10 _ H10 (.ref D) [y] (.ref D) [yv] (fun _ H' => H' = upd H10 D (.lst (xs ++ [y]))) I10 rfl (.cons r10 .nil) ⟨D, xs, y, rfl, rfl, e10, hz, rfl⟩) (fun _ s11 ⟨_, H11, I11, _, e11⟩ => ?_) fun _ _ z => z.elim
        subst e11
        exact ⟨m', hm, i + 1, xs ++ [y], _, σ1, hσ1, I11.unpinned, (keep I11).1, (keep I11).2, w10⟩
  exact codeAny_compStart_list loop (T.self _ 0 _ _ _ (T.keep _ _ _ st2 fun b hb o e => old b o (by rw [← hH3]; exact Heap.get?_push_of_some _ e)) loop)
theorem pe_comp (hc : X.calm = true) (hi : PI X tg iter wi)
    (hg : ∀ (C : Addr) (s0 : Shared) (H0 : Hp) (ex' : List Addr) (pn' : List (Addr × Obj)), PG (cxComp X (O ++ N') scope cl C s0 H0 ex' pn') tg g)
    (htt : ∀ (C : Addr) (s0 : Shared) (H0 : Hp) (ex' : List Addr) (pn' : List (Addr × Obj)), PTs (cxComp X (O ++ N') scope cl C s0 H0 ex' pn') ifs tt)
    (helt : ∀ (C : Addr) (s0 : Shared) (H0 : Hp) (ex' : List Addr) (pn' : List (Addr × Obj)), PE (cxComp X (O ++ N') scope cl C s0 H0 ex' pn') elt te)
    (hO : O.length = n) (hcap : CapOk X scope cl N' cap)
    (hclos : closureFor scope X.env = pure cl) (hcell : ∀ y ∈ scope.names, y.2 ≠ .cell) (hkind : scope.kind = .function) (hnames : ∀ y ∈ scope.names, y.2 = .local → scope.names.lookup y.1 = some .local)
    (hclx : ∀ y c, cl.lookup y = some c → X.env.cells.lookup y = some c) (hhas : ∀ y, ((relabel scope X.env).names.lookup y = some .cell ∨ (relabel scope X.env).names.lookup y = some .free) → ∃ c, cl.lookup y = some c)
    (hs : autoParam (∀ z, foldedSetIterable iter X.env z = pure z) au2_._auto_1) :
    PE X (.ListComp elt [⟨tg, iter, ifs, 0⟩] scope pos) (tComp wi n cap g tt te) := by
  intro pins s σ H Q I h
  rw [eval_ListComp]
  exact comp_gen none (EP X pins σ Q) hc hi hg htt helt hO hcap hclos hcell hkind hnames hclx hhas hs I h fun D H5 s6 C J fC ⟨m, hn⟩ q => ⟨m, hn, fun h' sb => ⟨.ref D, H5, inv_but J fC sb, rfl, q⟩⟩
end
end My

namespace My
open PySem PySem.Spec PyProof.Rows L2 Mth
section
variable {X : Cx} {x : Str} {n : Int} {pos apos cpos : Pos} {o : Expr} {to : TE}
end
section
variable {σ : L2.St} {H : Hp} {Q : VK} {m n : Int} {K : PySem.W.Frag} {X : Cx}
theorem r_rep {p : Addr} {xs : List V} {k : Int} (hp : H p = some (.lst xs)) (h1 : -(2 ^ 63) ≤ k) (h2 : k < 2 ^ 63) (h : Nw .lst (List.replicate k.toNat xs).flatten H Q) : rRep (.ref p) (.int k) H Q :=
  ⟨p, k, xs, rfl, rfl, hp, h1, h2, by have := h.1; rw [len_rep] at this; rw [Nat.mul_comm]; exact this, h.2⟩
end
section
variable {σ : L2.St} {H : Hp} {to ti : TE} {ts : TSet} {R : L2.St → Hp → Prop} {v : V}
theorem r_asg {te : TE} {g : TG} {D : Ends} (h : te σ H fun x H1 => g x σ H1 D.nx) : tAsg te g D σ H := h
end
end My

namespace Jd
open PySem PySem.Spec PyProof.Rows L2 My
structure QE (X : Cx) (e : Expr) (t : TE) : Prop where
  h : PE X e t
structure QT (X : Cx) (e : Expr) (t : TT) : Prop where
  h : PT X e t
structure QW (X : Cx) (e : Expr) (t : TT) : Prop where
  h : PW X e t
structure QA (X : Cx) (es : List Expr) (t : TA) : Prop where
  h : PA X es t
structure QS (X : Cx) (st : Stmt) (t : TS) : Prop where
  h : PS X st t
structure QSs (X : Cx) (st : List Stmt) (t : TS) : Prop where
  h : PSs X st t
structure QG (X : Cx) (e : Expr) (t : TG) : Prop where
  h : PG X e t
structure QI (X : Cx) (tg e : Expr) (t : TI) : Prop where
  h : PI X tg e t
structure QO (X : Cx) (e : Option Expr) (t : TO) : Prop where
  h : PO X e t
section
variable {X : Cx} {e a b c o : Expr} {es : List Expr} {te ta tb tc to : TE} {t : TA} {pos p p2 apos cpos : Pos} {x : Str} {tA tB' : TT} {st : Stmt} {sts rest : List Stmt} {s1 s2 : TS} {K : PySem.W.Frag}
theorem go {body : List Stmt} {D : Ends} {σ : L2.St} {H : Hp} (h : ∃ t, QSs X body t ∧ t D σ H) : ∃ t, PSs X body t ∧ t D σ H := let ⟨t, h, k⟩ := h; ⟨t, h.h, k⟩
theorem pv (i : Nat) (hN : autoParam (X.N[i]? = some x) au0_._auto_1) (hv : Vis X.env.scope x := by first | exact Or.inl rfl | exact Or.inr (Or.inl rfl) | exact Or.inr (Or.inr rfl)) (hd : autoParam ((x == ("__debug__" : Str)) = false) au1_._auto_1)
    (hcd : autoParam ((x == ("__classdict__" : Str)) = false) au1_._auto_1) : QE X (.Name x pos) (tVar i) := ⟨L2.pv i hN hv hd hcd⟩
theorem pe_int {i j} : QE X (.Constant (.int i) j pos) (tC (.int i)) := ⟨L2.pe_int⟩
theorem pe_bl {i j} : QE X (.Constant (.bool i) j pos) (tC (.bl i)) := ⟨L2.pe_bl⟩
theorem pe_non {j} : QE X (.Constant .none j pos) (tC .non) := ⟨L2.pe_non⟩
theorem pe_str {i j} : QE X (.Constant (.str i) j pos) (tC (.str i)) := ⟨L2.pe_str⟩
theorem pe_ty {n : String} (hg : Gl X x) (hm : X.mg x = none) (hv : bootBuiltins x = some (.type n)) (hn : autoParam (x ≠ "__name__") au1_._auto_1) (hd : autoParam ((x == ("__debug__" : Str)) = false) au1_._auto_1) : QE X (.Name x pos) (tC (.ty n)) := ⟨My.pe_ty hg hm hv hn hd⟩
theorem pe_op {op : Operator} {r : R2} (ho : OpR X (binaryOp op) r) (ha : QE X a ta) (hb : QE X b tb) : QE X (.BinOp a op b pos) (tOp r ta tb) := ⟨L2.pe_op ho ha.h hb.h⟩
theorem pe_un {op : UnaryOp} {r : V → Hp → VK → Prop} (ho : UnR X (unaryOp op) r) (ha : QE X a ta) : QE X (.UnaryOp op a pos) (tUn r ta) := ⟨L2.pe_un ho ha.h⟩
theorem pe_not (ha : QE X a ta) : QE X (.UnaryOp .Not a pos) (tNotV ta) := ⟨L2.pe_not ha.h⟩
theorem pe_cmpR {op : CmpOp} {r : R2} (ho : OpR X (compareOp op) r) (ha : QE X a ta) (hb : QE X b tb) (hm : behindInMarks op b = false) : QE X (.Compare a [op] [b] pos) (tOp r ta tb) := ⟨L2.pe_cmpR ho ha.h hb.h hm⟩
theorem pt_cmpR {op : CmpOp} {r : R2} (ho : OpR X (compareOp op) r) (ha : QE X a ta) (hb : QE X b tb) (hm : behindInMarks op b = false) : QT X (.Compare a [op] [b] pos) (tTest (tOp r ta tb)) := ⟨L2.pt_cmpR ho ha.h hb.h hm⟩
theorem pt_not (ha : QT X a tA) : QT X (.UnaryOp .Not a pos) (tNot tA) := ⟨L2.pt_not ha.h⟩
theorem pt_val (h : QE X e te) (he : autoParam (∀ whole, isTrue e X.env whole = (do let v ← whole; standAt e.pos; holding [v] (truthy v))) au2_._auto_1) : QT X e (tB te) := ⟨L2.pt_val h.h he⟩
theorem PWpt (h : QW X e tA) : QT X e tA := ⟨h.h.pt⟩
theorem pw_or1 (ha : QT X a tA) : QW X (.BoolOp .Or [a] pos) tA := ⟨L2.pw_or1 ha.h⟩
theorem pw_or (ha : QT X a tA) (hb : QW X (.BoolOp .Or (b :: es) pos) tB') : QW X (.BoolOp .Or (a :: b :: es) pos) (tOr tA tB') := ⟨L2.pw_or ha.h hb.h⟩
theorem pe_one {op} (h : QE X a te) : QE X (.BoolOp op [a] pos) te := ⟨L2.pe_one h.h⟩
theorem pe_and (ha : QE X a ta) (hb : QE X (.BoolOp .And (b :: es) pos) tb) : QE X (.BoolOp .And (a :: b :: es) pos) (tAndV ta tb) := ⟨L2.pe_and ha.h hb.h⟩
theorem pa_nil : QA X [] tNil := ⟨L2.pa_nil⟩
theorem pa_cons (ha : QE X e te) (hr : QA X es t) (hs : autoParam (starEach (e :: es) X.env = (false, eval e X.env) :: starEach es X.env) au0_._auto_1) : QA X (e :: es) (tCons te t) := ⟨L2.pa_cons ha.h hr.h hs⟩
theorem pe_lst (h : QA X es t) : QE X (.List es pos) (tLst t) := ⟨L2.pe_lst h.h⟩
theorem po_none : QO X none tNoPart := ⟨L2.po_none⟩
theorem po_some (h : QE X e te) : QO X (some e) (tPart te) := ⟨L2.po_some h.h⟩
theorem pe_slice {r : V → Option Int → Option Int → Hp → VK → Prop} {lo hi : Option Expr} {tl th : TO} (hr : SlR X r) (he : QE X e te) (hl : QO X lo tl) (hu : QO X hi th) : QE X (.Subscript e (.Slice lo hi none p2) pos) (tSl r te tl th) := ⟨L2.pe_slice hr he.h hl.h hu.h⟩
theorem pe_ix {r : R2} (hr : IxR X r) (ha : QE X a ta) (hb : QE X b tb) (hs : PlainIx b) : QE X (.Subscript a b pos) (tOp r ta tb) := ⟨L2.pe_ix hr ha.h hb.h hs⟩
theorem pe_callB {id : String} {r : List V → Hp → VK → Prop} (hc : CallR X (.builtin id) r) (hg : Gl X x) (hm : X.mg x = none) (hv : bootBuiltins x = some (.builtin id)) (ha : QA X (e :: es) t) (hn : autoParam (x ≠ "__name__") au1_._auto_1) (hdb : autoParam ((x == ("__debug__" : Str)) = false) au1_._auto_1)
    (he : autoParam (starEach (e :: es) X.env = (false, eval e X.env) :: starEach es X.env) au0_._auto_1) (hpl : autoParam ((backTo pos (starEach es X.env)).any (·.1) = false) au0_._auto_1) : QE X (.Call (.Name x p) (e :: es) [] pos) (tCB r t) := ⟨L2.pe_callB hc hg hm hv ha.h hn hdb he hpl⟩
theorem pe_dn {k : Nat} {ps : List Str} {sp : Sp} (D : Dn X.prog X.w X.K X.mg X.base k x ps sp) (hr : Room k X.A) (hg : Gl X x) (ha : QA X (e :: es) t) (hdb : autoParam ((x == ("__debug__" : Str)) = false) au1_._auto_1)
    (he : autoParam (starEach (e :: es) X.env = (false, eval e X.env) :: starEach es X.env) au0_._auto_1) (hpl : autoParam ((backTo pos (starEach es X.env)).any (·.1) = false) au0_._auto_1) : QE X (.Call (.Name x p) (e :: es) [] pos) (tCall sp [] E0 t) := ⟨My.pe_dn D hr hg ha.h hdb he hpl⟩
theorem appC (K : PySem.W.Frag) (ho : QE X o to) (he : QE X e te) (h : autoParam (X.K = K) au0_._auto_1)
    (hbase : autoParam (attributeBase o "append" X.env (eval o X.env) = eval o X.env) au0_._auto_1)
    (hfew : autoParam (((backTo cpos (starEach (e :: []) X.env)).all (fun x => !x.1) && (backToKw cpos (keywordEach [] X.env)).all (fun x => x.1.isSome)
      && decide ((e :: ([] : List Expr)).length + ([] : List Keyword).length + (if ([] : List Keyword).isEmpty then 0 else 1) < 30)) = true) au0_._auto_1)
    (hline : autoParam ((apos.endLine == cpos.line) = true) au0_._auto_1) (hs : autoParam (starEach (e :: []) X.env = (false, eval e X.env) :: starEach [] X.env) au0_._auto_1) (hplain : autoParam ((backTo cpos (starEach [] X.env)).any (·.1) = false) au0_._auto_1) :
    QE X (.Call (.Attribute o "append" apos) [e] [] cpos) (tBM K "list" rAppend to (tCons te tNil)) := ⟨My.appC K ho.h he.h h hbase hfew hline hs hplain⟩
theorem pss_nil : QSs X [] tNext := ⟨L2.pss_nil⟩
theorem pss_cons (h1 : QS X st s1) (h2 : QSs X rest s2) : QSs X (st :: rest) (tSeq s1 s2) := ⟨L2.pss_cons h1.h h2.h⟩
theorem pss_one (h1 : QS X st s1) : QSs X [st] s1 := ⟨L2.pss_one h1.h⟩
theorem ps_ret (he : QE X e te) : QS X (.Return (some e) pos) (tRet te) := ⟨L2.ps_ret he.h⟩
theorem ps_expr (he : QE X e te) (hs : autoParam (swapsWith e none pos.line X.env = pure false) au0_._auto_1) : QS X (.Expr e pos) (tDrop te) := ⟨L2.ps_expr he.h hs⟩
theorem ps_set {i : Nat} {pos' : Pos} (hN : X.N.Nodup) (hi : X.N[i]? = some x) (hx : Loc X.env.scope x) (he : QE X e te) (hs : autoParam (swapsWith e (some (.Name x pos')) pos.line X.env = pure false) au0_._auto_1) (hf : X.fn x = true ∨ X.env.scope.names.lookup x = some .local := by first | exact .inl rfl | exact .inr rfl | assumption) :
    QS X (.Assign [.Name x pos'] e pos) (tAsg te (gName i)) := ⟨L2.ps_set hN hi hx he.h hs hf⟩
theorem ps_asg {tg : Expr} {g : TG} (he : QE X e te) (hg : QG X tg g) (hs : autoParam (swapsWithSole [tg] e pos.line X.env = pure false) au0_._auto_1) (hw : autoParam (swappedStores [tg] e X.env = pure none) au0_._auto_1)
    (h1 : autoParam ((assignEach [tg] X.env).map (·.2) = [assign tg X.env]) au0_._auto_1) : QS X (.Assign [tg] e pos) (tAsg te g) := ⟨L2.ps_asg he.h hg.h hs hw h1⟩
theorem ps_if {ss ss' : List Stmt} {tc : TT} (hc : QT X c tc) (ha : QSs X ss s1) (hb : QSs X ss' s2) : QS X (.If c ss ss' pos) (tIfS tc s1 s2) := ⟨L2.ps_if hc.h ha.h hb.h⟩
theorem ps_for {tg : Expr} {wi : TI} {g : TG} (hp : PassesOwn (model X.prog X.w) X.A X.env X.xe) (hc : X.calm = true) (hi : QI X tg e wi) (hg : QG X tg g) (hb : QSs X sts s1)
    (hs : autoParam (∀ x, foldedSetIterable e X.env x = pure x) au2_._auto_1) : QS X (.For tg e sts [] pos) (tFor wi g s1) := ⟨L2.ps_for hp hc hi.h hg.h hb.h hs⟩
theorem pg_name {i : Nat} (hN : X.N.Nodup) (hi : X.N[i]? = some x) (hx : Loc X.env.scope x) (hf : X.fn x = true ∨ X.env.scope.names.lookup x = some .local := by first | exact .inl rfl | exact .inr rfl | assumption) : QG X (.Name x pos) (gName i) := ⟨L2.pg_name hN hi hx hf⟩
theorem piL (K : PySem.W.Frag) {tg : Expr} (hl : QE X e te) (h : autoParam (X.K = K) au0_._auto_1) : QI X tg e (iList K te) := ⟨My.piL K hl.h h⟩
theorem pi_range1 {tg : Expr} (hg : Gl X "range") (hm : X.mg "range" = none) (ha : QA X [a] t) (hs : autoParam (starEach [a] X.env = [(false, eval a X.env)]) au0_._auto_1) : QI X tg (.Call (.Name "range" p) [a] [] pos) (iRng1 t) := ⟨L2.pi_range1 hg hm ha.h hs⟩
end
end Jd

namespace Jd
open PySem PySem.Spec PyProof.Rows L2 My
section
variable {X : Cx} {x : Str} {n : Int} {pos apos cpos : Pos} {o : Expr} {to : TE}
end
end Jd

namespace My
open PySem PySem.Spec PyProof.Rows L2 Mth
noncomputable def closL (cells : List (Str × Addr)) : List (Str × NameKind) → List (Str × Addr) → List (Str × Addr)
  | [], cs => cs
  | (y, k) :: r, cs => closL cells r (if k = .free then ((cells.lookup y).map fun c => (y, c)).toList ++ cs else cs)
noncomputable def freeHas (cells : List (Str × Addr)) (names : List (Str × NameKind)) : Bool := names.all fun p => !(p.2 == NameKind.free) || (cells.lookup p.1).isSome
theorem closure_go {env : Env} : ∀ (names : List (Str × NameKind)) (cs : List (Str × Addr)), freeHas env.cells names = true →
    (forIn (m := Sem) names cs fun x r => match x with | (name, kind) => if (kind == NameKind.free) = true then do let a ← cellOf env name; pure (ForInStep.yield ((name, a) :: r)) else pure (ForInStep.yield r)) = pure (closL env.cells names cs)
  | [], cs, _ => rfl
  | (y, k) :: r, cs, h => by
    have h2 : freeHas env.cells r = true := by
      unfold freeHas at h ⊢
      rw [List.all_cons, Bool.and_eq_true] at h
      exact h.2
    rw [List.forIn_cons]
    by_cases hk : k = .free
    · subst hk
      have h1 : (env.cells.lookup y).isSome = true := by
        unfold freeHas at h
        rw [List.all_cons, Bool.and_eq_true] at h
        simpa using h.1
      obtain ⟨c, hc⟩ := Option.isSome_iff_exists.mp h1
      have ih := closure_go r ((y, c) :: cs) h2
      have e : cellOf env y = pure c := by unfold cellOf; rw [hc]
      show (((if (NameKind.free == NameKind.free) = true then do let a ← cellOf env y; pure (ForInStep.yield ((y, a) :: cs)) else pure (ForInStep.yield cs)) : Sem _) >>= _) = _
      rw [if_pos (by rfl), e, pure_bind, pure_bind]
      show forIn (m := Sem) r ((y, c) :: cs) _ = _
      rw [ih]
      show _ = pure (closL env.cells r (if NameKind.free = .free then ((env.cells.lookup y).map fun c => (y, c)).toList ++ cs else cs))
      rw [if_pos rfl, hc]
      rfl
    · have ih := closure_go r cs h2
      have hk' : (k == NameKind.free) = false := by simpa using hk
      show (((if (k == NameKind.free) = true then do let a ← cellOf env y; pure (ForInStep.yield ((y, a) :: cs)) else pure (ForInStep.yield cs)) : Sem _) >>= _) = _
      rw [hk', if_neg Bool.false_ne_true, pure_bind]
      show forIn (m := Sem) r cs _ = _
      rw [ih]
      show _ = pure (closL env.cells r (if k = .free then _ else cs))
      rw [if_neg hk]
theorem closure_of {scope : Scope} {env : Env} (h : freeHas env.cells scope.names = true) : closureFor scope env = pure (closL env.cells scope.names []) := by
  have e := closure_go (env := env) scope.names [] h
  show (forIn (m := Sem) scope.names [] _ >>= fun cs => pure cs) = _
  exact (congrArg (· >>= fun cs => pure cs) e).trans (pure_bind _ _)
theorem closL_mem {cells : List (Str × Addr)} : ∀ (names : List (Str × NameKind)) (cs : List (Str × Addr)) (p : Str × Addr), p ∈ closL cells names cs → p ∈ cs ∨ cells.lookup p.1 = some p.2
  | [], _, _, h => .inl h
  | (y, k) :: r, cs, p, h => by
    rcases closL_mem r _ p h with q | q
    · by_cases hk : k = .free
      · rw [if_pos hk] at q
        rcases List.mem_append.mp q with z | z
        · cases e : cells.lookup y with
          | none => rw [e] at z; simp at z
          | some c => rw [e] at z; simp at z; subst z; exact .inr e
        · exact .inl z
      · rw [if_neg hk] at q
        exact .inl q
    · exact .inr q
theorem closL_has {cells : List (Str × Addr)} : ∀ (names : List (Str × NameKind)) (cs : List (Str × Addr)) (y : Str) (c : Addr), ((y, NameKind.free) ∈ names ∧ cells.lookup y = some c) ∨ (y, c) ∈ cs → (y, c) ∈ closL cells names cs
  | [], _, _, _, h => h.elim (fun z => by simp at z) id
  | (z, k) :: r, cs, y, c, h => by
    refine closL_has r _ y c ?_
    rcases h with ⟨m, e⟩ | m
    · rcases List.mem_cons.mp m with q | q
      · cases q
        right
        rw [if_pos rfl, e]
        simp
      · exact .inl ⟨q, e⟩
    · right
      by_cases hk : k = .free
      · rw [if_pos hk]; exact List.mem_append_right _ m
      · rw [if_neg hk]; exact m
theorem lookup_in {α : Type} : ∀ {l : List (Str × α)} {x : Str} {v : α}, l.lookup x = some v → (x, v) ∈ l
  | (y, u) :: r, x, v, h => by
    rw [List.lookup_cons] at h
    cases e : x == y with
    | true =>
      rw [e] at h
      cases h
      have : x = y := by simpa using e
      subst this
      exact List.mem_cons_self
    | false =>
      rw [e] at h
      exact List.mem_cons_of_mem _ (lookup_in h)
theorem lookup_ex {α : Type} : ∀ {l : List (Str × α)} {x : Str} {v : α}, (x, v) ∈ l → ∃ u, l.lookup x = some u
  | (y, u) :: r, x, v, h => by
    rw [List.lookup_cons]
    cases e : x == y with
    | true => exact ⟨_, rfl⟩
    | false =>
      rcases List.mem_cons.mp h with q | q
      · cases q; simp at e
      · exact lookup_ex q
theorem closL_look {cells : List (Str × Addr)} {names : List (Str × NameKind)} {y : Str} {c : Addr} (h : (closL cells names []).lookup y = some c) : cells.lookup y = some c :=
  (closL_mem names [] (y, c) (lookup_in h)).elim (fun z => by simp at z) id
theorem closL_some {cells : List (Str × Addr)} {names : List (Str × NameKind)} {y : Str} {c : Addr} (h : (y, NameKind.free) ∈ names) (e : cells.lookup y = some c) : (closL cells names []).lookup y = some c := by
  obtain ⟨u, q⟩ := lookup_ex (closL_has names [] y c (.inl ⟨h, e⟩))
  rw [q]
  rw [closL_look q] at e
  exact e
noncomputable def Caps (X : Cx) (scope : Scope) : List Str → List Nat → Prop
  | [], [] => True
  | y :: ys, j :: js => (X.N[j]? = some y ∧ X.env.kindOf y = some .cell ∧ scope.names.lookup y = some .free ∧ (relabel scope X.env).names.lookup y = some .cell) ∧ Caps X scope ys js
  | _, _ => False
theorem free_cell {cells : List (Str × Addr)} {names : List (Str × NameKind)} {y : Str} (h : freeHas cells names = true) (m : (y, NameKind.free) ∈ names) : ∃ c, cells.lookup y = some c := by
  unfold freeHas at h
  have q := List.all_eq_true.mp h _ m
  exact Option.isSome_iff_exists.mp (by simpa using q)
theorem Caps.ok {X : Cx} {scope : Scope} (h : freeHas X.env.cells scope.names = true) : ∀ {ys : List Str} {js : List Nat}, Caps X scope ys js → CapOk X scope (closL X.env.cells scope.names []) ys js
  | [], [], _ => trivial
  | y :: ys, j :: js, ⟨⟨a, b, c, d⟩, r⟩ => by
    have m := lookup_in c
    obtain ⟨e, he⟩ := free_cell h m
    exact ⟨⟨a, b, d, by rw [closL_some m he, he]⟩, Caps.ok h r⟩
theorem relabel_has {scope : Scope} {env : Env} (h : freeHas env.cells scope.names = true) (hcell : ∀ y ∈ scope.names, y.2 ≠ .cell) (y : Str)
    (q : (relabel scope env).names.lookup y = some .cell ∨ (relabel scope env).names.lookup y = some .free) : ∃ c, (closL env.cells scope.names []).lookup y = some c := by
  have m : (y, NameKind.free) ∈ scope.names := by
    rcases q with q | q
    all_goals
      have m := lookup_in q
      unfold relabel at m
      obtain ⟨⟨n, k⟩, hm, e⟩ := List.mem_map.mp m
      dsimp only at e
      split at e
      · rename_i hc
        rw [Bool.and_eq_true, Bool.and_eq_true] at hc
        have hk : k = .free := by simpa using hc.1.1
        subst hk
        cases e
        first | exact hm | done
      · cases e
        first | exact hm | exact absurd rfl (hcell _ hm)
  obtain ⟨c, hc⟩ := free_cell h m
  exact ⟨c, closL_some m hc⟩
section
variable {X : Cx} {elt iter tg : Expr} {ifs : List Expr} {pos : Pos} {scope : Scope} {wi : TI} {te : TE} {tt : TT} {g : TG} {O N' : List Str} {cap : List Nat} {n : Nat}
theorem pe_compC (hc : X.calm = true) (hi : PI X tg iter wi)
    (hg : ∀ (C : Addr) (s0 : Shared) (H0 : Hp) (ex' : List Addr) (pn' : List (Addr × Obj)), PG (cxComp X (O ++ N') scope (closL X.env.cells scope.names []) C s0 H0 ex' pn') tg g)
    (htt : ∀ (C : Addr) (s0 : Shared) (H0 : Hp) (ex' : List Addr) (pn' : List (Addr × Obj)), PTs (cxComp X (O ++ N') scope (closL X.env.cells scope.names []) C s0 H0 ex' pn') ifs tt)
    (helt : ∀ (C : Addr) (s0 : Shared) (H0 : Hp) (ex' : List Addr) (pn' : List (Addr × Obj)), PE (cxComp X (O ++ N') scope (closL X.env.cells scope.names []) C s0 H0 ex' pn') elt te)
    (hO : O.length = n) (hcap : Caps X scope N' cap) (hf : freeHas X.env.cells scope.names = true) (hcell : ∀ y ∈ scope.names, y.2 ≠ .cell) (hkind : scope.kind = .function) (hnames : ∀ y ∈ scope.names, y.2 = .local → scope.names.lookup y.1 = some .local)
    (hs : autoParam (∀ z, foldedSetIterable iter X.env z = pure z) au2_._auto_1) :
    PE X (.ListComp elt [⟨tg, iter, ifs, 0⟩] scope pos) (tComp wi n cap g tt te) :=
  pe_comp hc hi hg htt helt hO (hcap.ok hf) (closure_of hf) hcell hkind hnames (fun _ _ => closL_look) (relabel_has hf hcell) hs
end
section
variable {X : Cx} {elt iter tg : Expr} {ifs : List Expr} {pos : Pos} {scope : Scope} {wi : TI} {te : TE} {tt : TT} {g : TG} {O N' : List Str} {cap : List Nat} {n : Nat}
end
noncomputable def rm (D : Addr) (H : Hp) : Hp := fun b => if b = D then none else H b
theorem rm_at {D : Addr} {H : Hp} {b : Addr} (h : b ≠ D) : rm D H b = H b := if_neg h
theorem rm_upd {D : Addr} {H : Hp} {o : HO} : rm D (upd H D o) = rm D H := by
  funext b
  unfold rm
  by_cases h : b = D
  · rw [if_pos h, if_pos h]
  · rw [if_neg h, if_neg h, upd_ne h]
structure Tells (J : It) (ok : Hp → Prop) (xs : List V) : Prop where
  go : ∀ i H, ok H → i < xs.length → J.go i H ∧ ∀ x H', J.yld i H x H' → H' = H ∧ xs[i]? = some x
  stop : ∀ H, ok H → J.stop xs.length H
theorem tells_rng {lo : Int} {n : Nat} : Tells (Itr lo n) (fun _ => True) ((List.range n).map fun (i : Nat) => V.int (lo + (i : Int))) :=
  ⟨fun i H h hi => ⟨show i < n by simpa using hi, fun x H' y => ⟨y.1, by
    have hi' : i < n := by simpa using hi
    rw [List.getElem?_map, List.getElem?_range hi']
    exact congrArg some y.2.symm⟩⟩, fun H h => by show n ≤ _; simp⟩
noncomputable def CompB (n : Nat) (cap : List Nat) (g : TG) (tt : TT) (te : TE) (σ : L2.St) (Q : VK) (J : It) (H1 : Hp) : Prop := ∀ D, H1 D = none → ∃ W : Nat → Nat → List V → Hp → Prop, (∃ m, W 0 m [] (upd H1 D (.lst []))) ∧
  ∀ i m xs H2, W i m xs H2 → H2 D = some (.lst xs) ∧ ((J.stop i H2 ∧ Q (.ref D) H2) ∨ (J.go i H2 ∧ xs.length < sizeLine ∧ ∀ x H3 σ0, σ0.length = n → J.yld i H2 x H3 →
    g x (σ0 ++ capV cap σ) H3 fun σ2 H4 => (∃ σ1, σ1.length = n ∧ σ2 = σ1 ++ capV cap σ) ∧ tt σ2 H4 fun b H5 => if b = true then te σ2 H5 fun y H6 => H6 D = some (.lst xs) ∧ ∃ m', m' < m ∧ W (i + 1) m' (xs ++ [y]) (upd H6 D (.lst (xs ++ [y])))
      else ∃ m', m' < m ∧ W (i + 1) m' xs H5))
section
variable {wi : TI} {n : Nat} {cap : List Nat} {g : TG} {tt : TT} {te : TE} {σ : L2.St} {H : Hp} {Q : VK} {K : PySem.W.Frag}
theorem r_comp (h : wi σ H fun J H1 => CompB n cap g tt te σ Q J H1) : tComp wi n cap g tt te σ H Q := h
theorem r_rng1 {ta : TA} {R : It → Hp → Prop} (h : ta σ H fun vs H1 => ∃ j : Int, vs = [.int j] ∧ -(2 ^ 62) ≤ j ∧ j < 2 ^ 62 ∧ R (Itr 0 j.toNat) H1) : iRng1 ta σ H R := h
theorem r_yes {B : Bool → Hp → Prop} (h : B true H) : tYes σ H B := h
theorem compB_of {J : It} {ok : Hp → Prop} {xs : List V} (T : Tells J ok xs) (hok : ∀ H2, Same H H2 → ok H2) (hl : xs.length ≤ 1000) (P : Nat → List V → Hp → Prop) (h0 : P 0 [] H)
    (step : ∀ (D : Addr) (i : Nat) (x : V) (ys : List V) (H2 : Hp) (σ0 : L2.St) (N : VK) (N0 : Hp → Prop), σ0.length = n → H D = none → H2 D = some (.lst ys) → Same H H2 → xs[i]? = some x → ys.length ≤ i → P i ys (rm D H2) →
      (∀ y H6, Same H2 H6 → P (i + 1) (ys ++ [y]) (rm D H6) → N y H6) → (∀ H5, Same H2 H5 → P (i + 1) ys (rm D H5) → N0 H5) →
      g x (σ0 ++ capV cap σ) H2 fun σ2 H4 => (∃ σ1, σ1.length = n ∧ σ2 = σ1 ++ capV cap σ) ∧ tt σ2 H4 fun b H5 => if b = true then te σ2 H5 N else N0 H5)
    (done : ∀ (D : Addr) (ys : List V) (H2 : Hp), H D = none → H2 D = some (.lst ys) → Same H H2 → ys.length ≤ xs.length → P xs.length ys (rm D H2) → Q (.ref D) H2) : CompB n cap g tt te σ Q J H := by
  intro D hD
  refine ⟨fun i m ys H2 => H2 D = some (.lst ys) ∧ Same H H2 ∧ ys.length ≤ i ∧ i ≤ xs.length ∧ m = xs.length - i ∧ P i ys (rm D H2), ⟨xs.length, upd_same, same_at (Same.refl _) hD, Nat.zero_le _, Nat.zero_le _, rfl, ?_⟩, ?_⟩
  · rw [rm_upd]
    have e : rm D H = H := by
      funext b
      by_cases h : b = D
      · rw [h, hD]; exact if_pos rfl
      · exact rm_at h
    rw [e]; exact h0
  · rintro i m ys H2 ⟨e, s, hy, hi, rfl, p⟩
    refine ⟨e, ?_⟩
    by_cases hlt : i < xs.length
    · obtain ⟨go, yld⟩ := T.go i H2 (hok H2 s) hlt
      refine .inr ⟨go, Nat.lt_of_le_of_lt (Nat.le_trans hy hi) (small1000 hl), fun x H3 σ0 h0 y => ?_⟩
      obtain ⟨rfl, hx⟩ := yld x H3 y
      refine step D i x ys _ σ0 _ _ h0 hD e s hx hy p (fun y H6 s6 p6 => ?_) fun H5 s5 p5 => ?_
      · refine ⟨s6 _ _ e, xs.length - (i + 1), by (first | lia | omega), upd_same, same_at (s.trans s6) hD, ?_, by (first | lia | omega), rfl, ?_⟩
        · rw [List.length_append, List.length_singleton]; (first | lia | omega)
        · rw [rm_upd]; exact p6
      · exact ⟨xs.length - (i + 1), by (first | lia | omega), s5 _ _ e, s.trans s5, by (first | lia | omega), by (first | lia | omega), rfl, p5⟩
    · have ei : i = xs.length := by (first | lia | omega)
      subst ei
      exact .inl ⟨T.stop H2 (hok H2 s), done D ys H2 hD e s hy p⟩
theorem r_own1 {x : V} {σ0 : L2.St} {R : L2.St → Hp → Prop} (h0 : σ0.length = 1) (h : R (some x :: capV cap σ) H) : gName 0 x (σ0 ++ capV cap σ) H fun σ2 H4 => (∃ σ1, σ1.length = 1 ∧ σ2 = σ1 ++ capV cap σ) ∧ R σ2 H4 := by
  match σ0, h0 with
  | [v], _ => exact ⟨⟨[some x], rfl, rfl⟩, h⟩
end
end My
namespace Jd
open PySem PySem.Spec PyProof.Rows L2 My
structure QTs (X : Cx) (ifs : List Expr) (t : TT) : Prop where
  h : PTs X ifs t
section
variable {X : Cx} {c elt iter tg : Expr} {ifs : List Expr} {pos : Pos} {scope : Scope} {wi : TI} {te : TE} {tt : TT} {g : TG} {O N' : List Str} {cap : List Nat} {n : Nat}
theorem pts_nil : QTs X [] tYes := ⟨My.pts_nil⟩
theorem pe_comp (hc : X.calm = true) (hi : QI X tg iter wi)
    (hg : ∀ (C : Addr) (s0 : Shared) (H0 : Hp) (ex' : List Addr) (pn' : List (Addr × Obj)), QG (cxComp X (O ++ N') scope (closL X.env.cells scope.names []) C s0 H0 ex' pn') tg g)
    (htt : ∀ (C : Addr) (s0 : Shared) (H0 : Hp) (ex' : List Addr) (pn' : List (Addr × Obj)), QTs (cxComp X (O ++ N') scope (closL X.env.cells scope.names []) C s0 H0 ex' pn') ifs tt)
    (helt : ∀ (C : Addr) (s0 : Shared) (H0 : Hp) (ex' : List Addr) (pn' : List (Addr × Obj)), QE (cxComp X (O ++ N') scope (closL X.env.cells scope.names []) C s0 H0 ex' pn') elt te)
    (hO : O.length = n) (hcap : Caps X scope N' cap) (hf : freeHas X.env.cells scope.names = true) (hcell : ∀ y ∈ scope.names, y.2 ≠ .cell) (hkind : scope.kind = .function) (hnames : ∀ y ∈ scope.names, y.2 = .local → scope.names.lookup y.1 = some .local)
    (hs : autoParam (∀ z, foldedSetIterable iter X.env z = pure z) au2_._auto_1) :
    QE X (.ListComp elt [⟨tg, iter, ifs, 0⟩] scope pos) (tComp wi n cap g tt te) :=
  ⟨My.pe_compC hc hi.h (fun C s0 H0 ex' pn' => (hg C s0 H0 ex' pn').h) (fun C s0 H0 ex' pn' => (htt C s0 H0 ex' pn').h) (fun C s0 H0 ex' pn' => (helt C s0 H0 ex' pn').h) hO hcap hf hcell hkind hnames hs⟩
end
end Jd

namespace My
open PySem PySem.Spec PyProof.Rows L2 Mth
section
variable {X : Cx} {e st : Expr} {te ts : TE} {pos p2 : Pos}
end
section
variable {σ : L2.St} {H : Hp} {Q : VK} {K : PySem.W.Frag} {te ts : TE} {x z : V}
end
end My
namespace Jd
open PySem PySem.Spec PyProof.Rows L2 My
end Jd

namespace My
open PySem PySem.Spec PyProof.Rows L2 Mth
section
variable {X : Cx} {tg a : Expr} {ta : TA} {p pos : Pos}
end
end My
namespace Jd
open PySem PySem.Spec PyProof.Rows L2 My
end Jd

namespace My
open PySem PySem.Spec PyProof.Rows L2 Mth
noncomputable def Kp {α : Type} : Sem α → Prop
  | .pure _ => True
  | .raise _ => True
  | .unsupported _ => True
  | .finish _ => True
  | .rule _ k => Kp (k ())
  | .at _ k => Kp (k ())
  | .load _ _ k => ∀ o, Kp (k o)
  | .update _ _ f k => (∀ o : Obj, (f o).dict = o.dict ∧ (o.isFreed = false → (f o).isFreed = false)) ∧ Kp (k ())
  | .loadIfAlive _ k => ∀ o, Kp (k o)
  | .point _ k => Kp (k ())
  | .register _ _ => True
  | .alloc _ k => ∀ a, Kp (k a)
  | .fresh k => ∀ t, Kp (k t)
  | .ask k => ∀ x, Kp (k x)
  | .stack k => ∀ x, Kp (k x)
  | .handled _ k => ∀ x, Kp (k x)
  | .thread k => ∀ x, Kp (k x)
  | _ => False
noncomputable def DK (h h' : Heap) : Prop := ∀ b o, h.get? b = some o → ∃ o', h'.get? b = some o' ∧ o'.dict = o.dict
theorem DK.refl (h : Heap) : DK h h := fun _ o e => ⟨o, e, rfl⟩
theorem DK.trans {h h' h'' : Heap} (a : DK h h') (b : DK h' h'') : DK h h'' := fun c o e => by
  obtain ⟨o1, e1, d1⟩ := a c o e
  obtain ⟨o2, e2, d2⟩ := b c o1 e1
  exact ⟨o2, e2, d2.trans d1⟩
theorem DK.push (h : Heap) (o : Obj) : DK h (h.push o) := fun b v e => ⟨v, Heap.get?_push_of_some _ e, rfl⟩
theorem DK.update {h : Heap} {a : Addr} {f : Obj → Obj} (hf : ∀ o : Obj, (f o).dict = o.dict ∧ (o.isFreed = false → (f o).isFreed = false)) : DK h (h.update a f) := fun b o e => by
  by_cases q : b = a
  · subst q
    refine ⟨f o, Heap.get?_update_self _ e ((hf o).2 ?_), (hf o).1⟩
    exact (Heap.get?_some_iff.mp e).2
  · exact ⟨o, by rw [Heap.get?_update_other _ _ (Ne.symm q)]; exact e, rfl⟩
theorem kp_bind {α β : Type} {m : Sem α} {f : α → Sem β} (hm : Kp m) (hf : ∀ a, Kp (f a)) : Kp (m >>= f) := by
  show Kp (m.bind f)
  induction m with
  | pure a => exact hf a
  | raise | unsupported | finish | register => exact True.intro
  | rule _ k ih | «at» _ k ih | point _ k ih => exact ih _ hm
  | load _ _ k ih | loadIfAlive _ k ih | alloc _ k ih | fresh k ih | ask k ih | stack k ih | handled _ k ih | thread k ih => exact fun o => ih o (hm o)
  | update _ _ _ k ih => exact ⟨hm.1, ih _ hm.2⟩
  | choose | os | call | newGen | genState | resume | yield | fork | await => exact hm.elim
theorem wp_kp {α : Type} {M : Model} {Γ : PySem.Ctx} {t : Sem α} {Q : α → Pos → Shared → Prop} {E : Value → Pos → Shared → Prop} {p : Pos} {s : Shared} (hk : Kp t) (h : Sem.wp M Γ t Q E p s) :
    Sem.wp M Γ t (fun a p' s' => Q a p' s' ∧ DK s.heap s'.heap) (fun e p' s' => E e p' s' ∧ DK s.heap s'.heap) p s := by
  induction t generalizing p s with
  | pure a => exact ⟨h, DK.refl _⟩
  | raise e => exact ⟨h, DK.refl _⟩
  | unsupported | finish | register => exact h.elim
  | rule _ k ih | «at» _ k ih | point _ k ih => exact ih _ hk h
  | load a _ k ih => exact let ⟨o, ho, h⟩ := h; ⟨o, ho, ih _ (hk _) h⟩
  | loadIfAlive _ k ih | ask k ih | stack k ih | handled _ k ih | thread k ih => exact ih _ (hk _) h
  | fresh k ih => exact ih _ (hk _) h
  | alloc o k ih => exact Sem.wp_mono M Γ _ (fun _ _ _ z => ⟨z.1, (DK.push _ _).trans z.2⟩) (fun _ _ _ z => ⟨z.1, (DK.push _ _).trans z.2⟩) _ _ (ih _ (hk _) h)
  | update a _ f k ih => exact ⟨h.1, Sem.wp_mono M Γ _ (fun _ _ _ z => ⟨z.1, (DK.update hk.1).trans z.2⟩) (fun _ _ _ z => ⟨z.1, (DK.update hk.1).trans z.2⟩) _ _ (ih _ hk.2 h.2)⟩
  | choose | os | call | newGen | genState | resume | yield | fork | await => exact hk.elim
theorem wpAny_kp {α : Type} {M : Model} {A : Around} {t : Sem α} {Q : α → Shared → Prop} {E : Value → Shared → Prop} {s : Shared} (hk : Kp t) (h : wpAny M A t Q E s) : wpAny M A t (fun a s' => Q a s' ∧ DK s.heap s'.heap) (fun e s' => E e s' ∧ DK s.heap s'.heap) s :=
  fun Γ p hΓ => wp_kp hk (h Γ p hΓ)
theorem kp_load {a : Addr} : Kp (PySem.load a) := fun _ => True.intro
theorem kp_pure {α : Type} {a : α} : Kp (pure a : Sem α) := True.intro
theorem kp_un {α : Type} {w : String} : Kp (PySem.unsupported w : Sem α) := True.intro
theorem mapF_kept (g : Array Value → Array Value) (o : Obj) : (Obj.mapFields g o).dict = o.dict ∧ (o.isFreed = false → (Obj.mapFields g o).isFreed = false) := by
  unfold Obj.mapFields
  split
  · exact ⟨rfl, fun _ => rfl⟩
  · exact ⟨rfl, id⟩
theorem kp_fieldsOf {v : Value} : Kp (fieldsOf v) := by
  unfold fieldsOf
  split
  · refine kp_bind kp_load fun o => ?_
    split
    · exact kp_pure
    · exact kp_un
  · exact kp_un
theorem kp_field {v : Value} {i : Nat} : Kp (PySem.field v i) := by
  unfold PySem.field
  refine kp_bind kp_fieldsOf fun a => ?_
  split
  · exact kp_pure
  · exact kp_un
theorem kp_update {a : Addr} {f : Obj → Obj} (h : ∀ o : Obj, (f o).dict = o.dict ∧ (o.isFreed = false → (f o).isFreed = false)) : Kp (PySem.update a f) := ⟨h, True.intro⟩
theorem kp_setField {v x : Value} {i : Nat} : Kp (PySem.setField v i x) := by
  unfold PySem.setField
  split
  · unfold updateField
    refine kp_bind kp_load fun o => ?_
    split
    · split
      · exact kp_update fun o => mapF_kept _ o
      · exact kp_un
    · exact kp_un
  · exact kp_un
theorem kp_ite {α : Type} {c : Prop} [Decidable c] {a b : Sem α} (ha : Kp a) (hb : Kp b) : Kp (if c then a else b) := by split <;> assumption
theorem kp_stack : Kp PySem.stack := fun _ => True.intro
theorem kp_setFlight {e : Value} {o : Option Addr} : Kp (setFlight e o) := by
  unfold setFlight
  refine kp_bind kp_field fun tb => ?_
  split
  · exact kp_setField
  · exact kp_pure
theorem kp_newFields {c : String} {vs : List Value} : Kp (newFields c vs) := by
  have fin : Kp (newObjAsIs (.type c) (.fields vs.toArray)) := by
    unfold newObjAsIs
    exact kp_bind (fun _ => True.intro) fun a => kp_pure
  show Kp (if vs.toArray.size > sizeLine + 2 then (PySem.unsupported "record:memory" >>= fun _ => newObjAsIs (.type c) (.fields vs.toArray)) else newObjAsIs (.type c) (.fields vs.toArray))
  exact kp_ite (kp_bind kp_un fun _ => fin) fin
theorem kp_ready : ∀ l : List Env, Kp (readyFrames l)
  | [] => kp_pure
  | env :: outer => by
    unfold readyFrames
    split
    · refine kp_bind kp_load fun o => ?_
      split
      · exact kp_pure
      · refine kp_bind ?_ fun b => kp_bind ?_ fun back => kp_bind (kp_update fun o => ⟨rfl, ?_⟩) fun _ => kp_ready outer
        · unfold behindIsImport
          split
          · exact kp_pure
          · split
            · exact kp_pure
            · exact kp_bind kp_field fun _ => kp_pure
        · cases outer with
          | nil =>
            unfold keptBack
            refine kp_ite kp_pure (kp_bind ?_ fun _ => kp_pure)
            unfold underTheClaimsCaller
            exact kp_bind kp_stack fun _ => kp_pure
          | cons _ _ => exact kp_pure
        · intro h
          obtain ⟨a, b, c, d⟩ := o
          cases c <;> first | rfl | cases h
    · exact kp_un
theorem kp_frameOf {env : Env} : Kp (PySem.frameOf env) := by
  unfold PySem.frameOf
  refine kp_bind (kp_bind kp_stack fun _ => kp_pure) fun l => kp_bind ?_ fun o => ?_
  · unfold frameObject
    split
    · exact kp_pure
    · exact kp_bind (kp_ready _) fun _ => kp_pure
  · split
    · exact kp_pure
    · exact kp_un
theorem kp_entryPlaceOf {f : Addr} {b : Bool} : Kp (entryPlaceOf f b) := by
  unfold entryPlaceOf
  refine kp_bind kp_stack fun _ => ?_
  split <;> exact kp_pure
theorem kp_noteFrame {e : Value} {env : Env} : Kp (noteFrame e env) := by
  have last : ∀ (head : Value) (f : Addr) (b : Bool), Kp (do let a ← PySem.frameOf env; let pl ← entryPlaceOf f b; let n ← EntryCells.newEntry head a .none (rawInt f) .none pl; PySem.setField e 1 n) := fun head f b =>
    kp_bind kp_frameOf fun _ => kp_bind kp_entryPlaceOf fun _ => kp_bind (by unfold EntryCells.newEntry; exact kp_newFields) fun _ => kp_setField
  unfold noteFrame
  split
  · refine kp_bind kp_field fun head => ?_
    split
    · refine kp_bind kp_field fun v => ?_
      split
      · exact kp_pure
      · exact kp_bind kp_setField fun _ => last _ _ _
    · exact last _ _ _
  · exact kp_un
theorem kp_leaving {e : Value} {env : Env} : Kp (leaving env e) := by
  unfold leaving
  exact kp_bind kp_noteFrame fun _ => kp_setFlight
theorem kp_use {t : Sem Unit} {M : Model} {A : Around} {E : Value → Shared → Prop} {s : Shared} {R : Heap → Prop} {Q : Unit → Shared → Prop} (hk : Kp t) (h : ∀ Q0 : Unit → Shared → Prop, (∀ h', R h' → Q0 () { s with heap := h' }) → wpAny M A t Q0 E s) (k : ∀ h', R h' → DK s.heap h' → Q () { s with heap := h' }) : wpAny M A t Q E s :=
  wpAny_mono (wpAny_kp hk (h (fun _ s2 => ∃ h', s2 = { s with heap := h' } ∧ R h') fun h' r => ⟨h', rfl, r⟩)) (fun _ s2 ⟨⟨h', e, r⟩, dk⟩ => by subst e; exact k h' r dk) fun _ _ z => z.1
end My

namespace My
open PySem PySem.Spec PyProof.Rows L2 Mth
noncomputable def DictAt (h : Heap) (e : Addr) (dx : Option Addr) : Prop := ∃ ob, h.get? e = some ob ∧ ob.dict = dx
theorem DictAt.dk {h h' : Heap} {e : Addr} {dx : Option Addr} (x : DictAt h e dx) (k : DK h h') : DictAt h' e dx := by
  obtain ⟨ob, a, b⟩ := x
  obtain ⟨o', a', b'⟩ := k e ob a
  exact ⟨o', a', b'.trans b⟩
noncomputable def CXe (P : Program) (w : World) : CXT := fun outer H s E ev s' => ∃ (e t : Addr) (C : Value) (H' : Hp) (B : Heap), ev = .ref e ∧ s'.os = s.os ∧ AllBare s'.gens ∧ Un (frs outer) [] H H' s.heap s'.heap ∧ HOk P w H' s'.heap ∧
  Heap.FlyingW B outer e C (.ref t) s'.heap ∧ (∀ b o, s'.heap.get? b = some o → (H' b ≠ none ∨ s.heap.get? b ≠ none) → b ∉ frs outer → B.get? b = some o) ∧ ∃ dx, DictAt s'.heap e dx ∧ E C dx H'
theorem hok_tr {P : Program} {w : World} {H : Hp} {h h' : Heap} (x : HOk P w H h) (k : ∀ c v, H c ≠ none → h.get? c = some v → h'.get? c = some v) : HOk P w H h' := fun b u e =>
  (x b u e).stay (fun c v hc q => k c v (by
    rcases hc with z | z
    · rw [z, e]; simp
    · rw [z]; simp) q) (fun _ q => q) fun _ _ q => q
theorem un_fly {fs : List Addr} {H H' : Hp} {h h1 h2 B : Heap} {l : List Env} (hfs : ∀ b ∈ fs, b ∈ frs l) (u : Un fs [] H H' h h1) (fly1 : h1.FunFrames B l) (st : B.StaysIn h2) (up : h1.UpToSlots h2)
    (bk : ∀ b o, h1.get? b = some o → h.get? b ≠ none → b ∉ fs → B.get? b = some o) : Un fs [] H H' h h2 := by
  have fr : ∀ b o, h1.get? b = some o → b ∈ fs → ∃ sl, h2.get? b = some { o with slots := sl } := fun b o e hb => by
    obtain ⟨_, o', ho', hd⟩ := fly1.mem (hfs b hb)
    rw [e] at ho'
    cases ho'
    exact up b o e hd
  have kp : ∀ b o, h1.get? b = some o → h.get? b ≠ none → b ∉ fs → h2.get? b = some o := fun b o e ho hb => st b o (bk b o e ho hb)
  refine ⟨fun b o q n hb hx => ?_, fun b o q n hb hx => ?_, u.free, fun b o q hx => ?_, u.tups, u.frzs, u.tbls⟩
  · exact kp b o (u.keep b o q n hb hx) (by rw [q]; simp) hb
  · obtain ⟨sl, e⟩ := u.slot b o q n hb hx
    obtain ⟨sl', e'⟩ := fr b _ e hb
    exact ⟨sl', e'⟩
  · obtain ⟨o', e⟩ := u.there b o q hx
    by_cases hb : b ∈ fs
    · obtain ⟨sl, e'⟩ := fr b o' e hb
      exact ⟨_, e'⟩
    · exact ⟨o', kp b o' e (by rw [q]; simp) hb⟩
theorem obj_there {P : Program} {w : World} {H : Hp} {h : Heap} {a : Addr} {o : HO} (x : ObjOk P w H h a o) : ∃ u, h.get? a = some u := by
  cases o with
  | lst _ => exact let ⟨_, _, _, _, e⟩ := x; ⟨_, e⟩
  | tup _ => exact let ⟨_, _, _, u, e, _⟩ := x; ⟨u, e⟩
  | dK _ => exact let ⟨_, _, _, _, u, _, _, e, _⟩ := x; ⟨u, e⟩
  | dT _ => exact let ⟨_, _, _, _, u, _, _, e, _⟩ := x; ⟨u, e⟩
  | set _ _ => exact let ⟨u, _, _, _, e, _⟩ := x; ⟨u, e⟩
  | ins _ _ _ => exact let ⟨_, _, _, e, _⟩ := x; ⟨_, e⟩
  | own _ => exact x
  | xd _ => exact let ⟨_, ⟨u, _, _, e, _⟩, _⟩ := x; ⟨u, e⟩
  | rng _ _ => exact let ⟨_, _, _, e⟩ := x; ⟨_, e⟩
  | frz _ _ => exact ⟨_, x.1⟩
  | tbl _ => exact ⟨_, x⟩
  | met _ _ => exact ⟨_, x⟩
  | ext _ => exact x.2.1
section
variable {P : Program} {w : World} {K : PySem.W.Frag} {mg : Str → Option Value} {base : Heap} {N : List Str} {qual : Str} {scope : Scope} {f : Addr} {cd : Value} {A : Around} {outer : List Env} {s0 : Shared} {H0 : Hp} {E : XK}
theorem left_fin {pins : List (Addr × Obj)} {σ : L2.St} {H : Hp} {s : Shared} {B h2 : Heap} {e t : Addr} {C : Value} (I : L2.Inv (cxOf (CXe P w) P w K mg base N qual scope f cd A outer s0 H0 E) pins σ H s)
    (fly1 : s.heap.FunFrames B (envOfC qual scope s0.heap.objs.size f cd :: outer)) (bk : ∀ b o, s.heap.get? b = some o → (H b ≠ none ∨ s0.heap.get? b ≠ none) → b ∉ frs (envOfC qual scope s0.heap.objs.size f cd :: outer) → B.get? b = some o)
    {dx : Option Addr} (fly : Heap.FlyingW B outer e C (.ref t) h2) (up : s.heap.UpToSlots h2) (hd : DictAt h2 e dx) (hE : E C dx H) : CXe P w outer H0 s0 E (.ref e) { s with heap := h2 } := by
  have nL : ∀ b, s0.heap.get? b ≠ none → b ∉ frs outer → b ∉ frs (envOfC qual scope s0.heap.objs.size f cd :: outer) := fun b hb hn z => by
    rcases List.mem_cons.mp (show b ∈ s0.heap.objs.size :: frs outer from z) with q | q
    · cases g : s0.heap.get? b with
      | none => exact hb g
      | some o => exact absurd (Heap.lt_size g) (by rw [q]; exact Nat.lt_irrefl _)
    · exact hn q
  have sub : ∀ b ∈ frs outer, b ∈ frs (envOfC qual scope s0.heap.objs.size f cd :: outer) := fun b hb => List.mem_cons_of_mem _ hb
  have u : Un (frs outer) [] H0 H s0.heap s.heap := I.base
  have tr : ∀ c v, H c ≠ none → s.heap.get? c = some v → B.get? c = some v := fun c v hc q => bk c v q (.inl hc) fun z => hc (I.stkFree c z)
  refine ⟨e, t, C, H, B, rfl, I.os, I.bare, un_fly sub u fly1 fly.1 up fun b o q hb hn => bk b o q (.inr hb) (nL b hb hn), hok_tr I.hok fun c v hc q => fly.1 c v (tr c v hc q), fly, fun b o q hb hn => ?_, dx, hd, hE⟩
  have q : h2.get? b = some o := q
  rcases hb with hb | hb
  · cases g : H b with
    | none => exact absurd g hb
    | some ho =>
      obtain ⟨v, hv⟩ := obj_there (I.hok b ho g)
      have e1 := tr b v hb hv
      have := fly.1 b v e1
      rw [q] at this
      cases this
      exact e1
  · cases g : s0.heap.get? b with
    | none => exact absurd g hb
    | some o0 =>
      obtain ⟨v, hv⟩ := u.there b o0 g (by simp)
      have e1 := bk b v hv (.inr hb) (nL b hb hn)
      have := fly.1 b v e1
      rw [q] at this
      cases this
      exact e1
theorem left_made {pins : List (Addr × Obj)} {σ : L2.St} {H : Hp} {s : Shared} {h' : Heap} {e : Addr} {C : Value} {vs : List Value} (I : L2.Inv (cxOf (CXe P w) P w K mg base N qual scope f cd A outer s0 H0 E) pins σ H s) (hx : Heap.MadeExcOf s.heap h' e C vs) (hE : E C none H) :
    (cxOf (CXe P w) P w K mg base N qual scope f cd A outer s0 H0 E).xe (.ref e) { s with heap := h' } := by
  have I1 : L2.Inv (cxOf (CXe P w) P w K mg base N qual scope f cd A outer s0 H0 E) pins σ H { s with heap := h' } := I.kept (t' := s.toks) hx.keeps
  have hin : ∀ env ∈ (envOfC qual scope s0.heap.objs.size f cd :: outer), ∀ b, env.frame = some b → b ∈ frs (envOfC qual scope s0.heap.objs.size f cd :: outer) := fun env he b hb => List.mem_filterMap.mpr ⟨env, he, hb⟩
  have fr0 : s.heap.FunFrames (PySem.W.hideAll s.heap (frs (envOfC qual scope s0.heap.objs.size f cd :: outer))) (envOfC qual scope s0.heap.objs.size f cd :: outer) := PySem.W.funFrames_hide (base := base) I.stack hin
  obtain ⟨t9, ht9, _⟩ := hx.there
  refine kp_use (R := fun h2 => ∃ t, Heap.FlyingW _ outer e C (.ref t) h2 ∧ h'.UpToSlots h2) kp_leaving (fun Q0 hQ0 => wpAny_leaves_madeW I.ok.frames rfl (fun b o q => PySem.W.of_hideAll _ q) fr0 hx fun h2 t fly tup nt up => hQ0 h2 ⟨t, fly, up⟩) (fun h2 ⟨t, fly, up⟩ dk => ?_)
  refine left_fin I1 (fr0.of_keeps fun b o q _ => ⟨o, hx.keeps b o q, rfl⟩) (fun b o q hb hn => ?_) fly up (DictAt.dk ⟨_, ht9, rfl⟩ dk) hE
  have q : h'.get? b = some o := q
  have there : ∃ v, s.heap.get? b = some v := by
    rcases hb with hb | hb
    · cases g : H b with
      | none => exact absurd g hb
      | some ho => exact obj_there (I.hok b ho g)
    · cases g : s0.heap.get? b with
      | none => exact absurd g hb
      | some o0 => exact I.base.there b o0 g (show b ∉ ([] : List Addr) by simp)
  obtain ⟨v, hv⟩ := there
  have := hx.keeps b v hv
  rw [q] at this
  cases this
  exact PySem.W.hideAll_get _ hv hn
end
structure Xc (K : PySem.W.Frag) (mg : Str → Option Value) (x : Str) (C : Addr) : Prop where
  at_ : mg x = some (.ref C)
  is_ : PySem.W.excIn K C [.type "ValueError", .type "Exception", .type "BaseException", .type "object"] "ValueError.__new__" = true
  self_ : PySem.W.exmOne K (.ref C) (.ref C) = some true
theorem Xc.own {K : PySem.W.Frag} {mg : Str → Option Value} {x : Str} {C : Addr} {h : Heap} (X : K.In h) (c : Xc K mg x C) : OwnCls x C [.type "ValueError", .type "Exception", .type "BaseException", .type "object"] "ValueError.__new__" mg h := by
  have q := c.is_
  refine ⟨c.at_, ?_⟩
  unfold PySem.W.excIn at q
  split at q
  · next dd cd sl ho =>
    split at q
    · next C' bm a0 a1 a2 a3 n a5 hm hs =>
      simp only [Bool.and_eq_true, beq_iff_eq, Bool.not_eq_true'] at q
      obtain ⟨⟨⟨⟨⟨e1, e2⟩, e3⟩, e4⟩, e5⟩, e6⟩ := q
      subst e1 e2
      obtain ⟨f1, f2, f3, f4, f5, f6, f7, f8, f9, f10, f11⟩ := cd
      dsimp only at hm e3 e5 e6
      subst hm e3
      obtain ⟨sll⟩ := sl
      have hs' : sll = [a0, a1, a2, a3, some (.builtin _), a5] := hs
      subst hs'
      exact ⟨bm, f4, f1, f5, f2, f6, f7, f8, f9, f10, dd, a0, a1, a2, a3, a5, _, X _ _ ho, .of_isNs (PySem.W.isNs_of_in X e5), PySem.W.nsMap_none_of_in X e5 e6, PySem.W.tail_of_in X e4⟩
    · cases q
  · cases q
noncomputable def tRaise (ta : TA) (E : XK) (C : Addr) : TS := fun _ σ H => ta σ H fun vs H1 => vs.length ≤ sizeLine ∧ E (.ref C) none H1
section
variable {P : Program} {w : World} {K : PySem.W.Frag} {mg : Str → Option Value} {base : Heap} {N : List Str} {qual : Str} {scope : Scope} {f : Addr} {cd : Value} {A : Around} {outer : List Env} {s0 : Shared} {H0 : Hp} {E : XK}
theorem ps_raise {x : Str} {C : Addr} {a : Expr} {es : List Expr} {ta : TA} {np cpos pos : Pos} (c : Xc K mg x C) (hg : Gl (cxOf (CXe P w) P w K mg base N qual scope f cd A outer s0 H0 E) x)
    (ha : PA (cxOf (CXe P w) P w K mg base N qual scope f cd A outer s0 H0 E) (a :: es) ta) (hd : autoParam ((x == ("__debug__" : Str)) = false) au1_._auto_1)
    (he : autoParam (starEach (a :: es) (envOfC qual scope s0.heap.objs.size f cd) = (false, eval a (envOfC qual scope s0.heap.objs.size f cd)) :: starEach es (envOfC qual scope s0.heap.objs.size f cd)) au0_._auto_1)
    (hpl : autoParam ((backTo cpos (starEach es (envOfC qual scope s0.heap.objs.size f cd))).any (·.1) = false) au0_._auto_1) :
    PS (cxOf (CXe P w) P w K mg base N qual scope f cd A outer s0 H0 E) (.Raise (some (.Call (.Name x np) (a :: es) [] cpos)) none pos) (tRaise ta E C) := by
  intro pins s σ H D I h
  have O := c.own (show K.In base from I.ok.mod.kin)
  obtain ⟨tl, nsp, nm, q, bs, hdct, sn, sub, ab, col, dd, k0, k1, k2, k3, k5, mN, hC, hN, hni, T⟩ := O.obj
  refine wpAny_Raise_call_subT (C := C) (nm := nm) (q := q) (N := nsp) (bs := bs) (bm := tl) (hdct := hdct) (sn := sn) (sub := sub) (ab := ab) (col := col) (dd := dd) (k0 := k0) (k1 := k1) (k2 := k2) (k3 := k3) (k5 := k5) (mN := mN)
    PySem.F.excBase_ValueError (T.hasType (by decide)) (I.ok.hd rfl) ?_ hni ?_
  · show (backTo cpos (starEach (a :: es) (envOfC qual scope s0.heap.objs.size f cd))).any (·.1) = false
    rw [he]
    exact hpl
  refine wpAny_mono (L2.pe_glob hg c.at_ (show RelV (.ref C) (.ref C) from rfl) hd pins s σ H (fun v H1 => v = .ref C ∧ H1 = H) I ⟨rfl, rfl⟩) (fun v s1 ⟨y, H1, I1, r1, e1, e2⟩ => ?_) fun _ _ z => z
  subst e1 e2
  cases r1
  refine ⟨rfl, ?_⟩
  have hA := ha cpos pins s1 σ H1 _ I1 h
  have he' : starEach (a :: es) (cxOf (CXe P w) P w K mg base N qual scope f cd A outer s0 H0 E).env = (false, eval a (cxOf (CXe P w) P w K mg base N qual scope f cd A outer s0 H0 E).env) :: starEach es (cxOf (CXe P w) P w K mg base N qual scope f cd A outer s0 H0 E).env := he
  rw [he'] at hA ⊢
  refine Calls.evalArgs_plain (wpAny_mono hA (fun us s2 ⟨vs, H2, I2, r2, hl, hE⟩ => ?_) fun _ _ z => z)
  have kp : ∀ b o, base.get? b = some o → s2.heap.get? b = some o := fun b o e => (I2.bs b o e).1
  exact ⟨rfl, by rw [← r2.length]; exact hl, kp _ _ hC, hN.keeps kp, T.keeps kp, fun h' e hx => left_made I2 hx hE⟩
end
theorem Fun.okX {P : Program} {w : World} {K : PySem.W.Frag} {mg : Str → Option Value} {base : Heap} {x qual : Str} {st : Stmt} {f : Addr} {fd : FuncData} {N ps : List Str} {k : Nat} {sp : Sp} (F : Fun K x qual st f fd) (S : FnScope N ps (defScope st)) (len : ∀ vs H Q E, sp vs H Q E → vs.length = ps.length)
    (hbody : ∀ (cdv : Value) (A : Around) (outer : List Env) (s : Shared) (H : Hp) (vs : List V) (Q : VK) (E : XK), Room k (A.deeper (envOfC qual (defScope st) s.heap.objs.size f cdv)) → sp vs H Q E →
      ∃ t, PSs (cxOf (CXe P w) P w K mg base N qual (defScope st) f cdv A outer s H E) (defBody st) t ∧ t { nx := fun _ H' => Q .non H', rt := Q } (start N vs) H) : FnOk P w K mg base (CXe P w) (k + 1) f fd ps sp := by
  obtain ⟨oc, od, kV, doc, pm, an, cdv, ct, osl, e, lk, hcd⟩ := F.ex
  subst e
  exact fn_of lk hcd S len (hbody cdv)
structure DnX (P : Program) (w : World) (K : PySem.W.Frag) (mg : Str → Option Value) (base : Heap) (k : Nat) (x : Str) (ps : List Str) (sp : Sp) : Prop where
  ex : ∃ (f : Addr) (fd : FuncData), FnOk P w K mg base (CXe P w) k f fd ps sp ∧ mg x = some (.ref f) ∧ PySem.W.keepIn K (.ref f) = true ∧ Binds K fd ps []
theorem dnx_mk {P : Program} {w : World} {K : PySem.W.Frag} {mg : Str → Option Value} {base : Heap} {k : Nat} {x qual : Str} {ps : List Str} {sp : Sp} {st : Stmt} {f : Addr} {fd : FuncData} (F : Fun K x qual st f fd) (ok : FnOk P w K mg base (CXe P w) k f fd ps sp)
    (hm : mg x = some (.ref f)) (hb : Binds K fd ps []) : DnX P w K mg base k x ps sp := ⟨f, fd, ok, hm, F.kp, hb⟩
section
variable {X : Cx} {k : Nat} {x : Str} {ps : List Str} {sp : Sp} {p pos : Pos} {e : Expr} {es : List Expr} {t : TA} {E : XK}
theorem pe_dnX (D : DnX X.prog X.w X.K X.mg X.base k x ps sp) (hp : Passes (CXe X.prog X.w) X E) (hr : Room k X.A) (hg : Gl X x) (ha : PA X (e :: es) t) (hdb : autoParam ((x == ("__debug__" : Str)) = false) au1_._auto_1)
    (he : autoParam (starEach (e :: es) X.env = (false, eval e X.env) :: starEach es X.env) au0_._auto_1) (hpl : autoParam ((backTo pos (starEach es X.env)).any (·.1) = false) au0_._auto_1) : PE X (.Call (.Name x p) (e :: es) [] pos) (tCall sp [] E t) := by
  obtain ⟨f, fd, ok, hm, hk, hb⟩ := D.ex
  exact pe_call ok hr hg hm hk hb .nil hp ha hdb he hpl
end
section
variable {X : Cx} {pins : List (Addr × Obj)} {σ : L2.St} {H : Hp} {s : Shared}
theorem inv_in (I : L2.Inv X pins σ H s) (Ex : Value → Shared → Prop) : L2.Inv { X with pn := X.pn ++ pins, xe := Ex } [] σ H s :=
  ⟨⟨I.ok.mod, I.ok.kind, I.ok.glob, I.ok.blt, I.ok.above, I.ok.inj, I.ok.has, I.ok.cab, I.ok.hd, I.ok.frames, I.ok.stk, I.ok.exf, I.ok.bs, I.ok.bsz, I.ok.noex, I.ok.exfs, I.ok.funs, I.ok.frf⟩, I.os, I.bare, I.base, I.loc, I.cell, I.free, I.freeC,
    fun p hp => I.pin p (by simpa using hp), I.hok, I.len⟩
theorem inv_out {Ex : Value → Shared → Prop} {pins' : List (Addr × Obj)} (ok : X.Ok) (I : L2.Inv { X with pn := X.pn ++ pins, xe := Ex } pins' σ H s) : L2.Inv X pins σ H s :=
  ⟨ok, I.os, I.bare, I.base, I.loc, I.cell, I.free, I.freeC, fun p hp => I.pin p (List.mem_append_left _ hp), I.hok, I.len⟩
theorem inv_mark {Ex Ey : Value → Shared → Prop} {pn' pins' : List (Addr × Obj)} {e : Addr} (I : L2.Inv { X with pn := pn', xe := Ex } pins' σ H s) : L2.Inv { X with A := X.A.mark (some (.ref e)), calm := false, pn := pn', xe := Ey } pins' σ H s :=
  ⟨⟨I.ok.mod, I.ok.kind, I.ok.glob, I.ok.blt, I.ok.above, I.ok.inj, I.ok.has, I.ok.cab, fun z => absurd z Bool.false_ne_true, I.ok.frames, I.ok.stk, I.ok.exf, I.ok.bs, I.ok.bsz, I.ok.noex, I.ok.exfs, I.ok.funs, I.ok.frf⟩, I.os, I.bare, I.base, I.loc, I.cell, I.free, I.freeC, I.pin, I.hok, I.len⟩
theorem sp_by {X Y : Cx} {pins pins' : List (Addr × Obj)} {D : Ends} {fl : Flow} {s : Shared} (k : ∀ σ H, L2.Inv Y pins' σ H s → L2.Inv X pins σ H s) (h : SP Y pins' D fl s) : SP X pins D fl s := by
  cases fl with
  | next => exact let ⟨σ, H, I, q⟩ := h; ⟨σ, H, k σ H I, q⟩
  | brk => exact let ⟨σ, H, I, q⟩ := h; ⟨σ, H, k σ H I, q⟩
  | cont => exact let ⟨σ, H, I, q⟩ := h; ⟨σ, H, k σ H I, q⟩
  | ret u => exact let ⟨v, σ, H, I, r, q⟩ := h; ⟨v, σ, H, k σ H I, r, q⟩
end
theorem looks_ty {M : Model} {h : Heap} {a : Addr} {o : Obj} (e : h.get? a = some o) : PySem.W.Looks M h (typeOf (.ref a)) o.cls := ((PySem.W.Looks.ld e).andThen .now)
section
variable {X : Cx} {body suite : List Stmt} {b0 : Stmt} {tb : XK → TS} {ts : TS} {x : Str} {Cc : Addr} {np hpos pos : Pos}
end
section
variable {σ : L2.St} {H : Hp} {Q : VK} {D : Ends}
theorem r_callX {sp : Sp} {ts : TA} {E : XK} (h : ts σ H fun vs H1 => sp (vs ++ []) H1 Q E) : tCall sp [] E ts σ H Q := h
theorem r_raise {ta : TA} {E : XK} {C : Addr} (h : ta σ H fun vs H1 => vs.length ≤ sizeLine ∧ E (.ref C) none H1) : tRaise ta E C D σ H := h
end
end My
namespace Jd
open PySem PySem.Spec PyProof.Rows L2 My
section
variable {P : Program} {w : World} {K : PySem.W.Frag} {mg : Str → Option Value} {base : Heap} {N : List Str} {qual : Str} {scope : Scope} {f : Addr} {cd : Value} {A : Around} {outer : List Env} {s0 : Shared} {H0 : Hp} {E : XK}
theorem ps_raise {x : Str} {C : Addr} {a : Expr} {es : List Expr} {ta : TA} {np cpos pos : Pos} (c : Xc K mg x C) (hg : Gl (cxOf (CXe P w) P w K mg base N qual scope f cd A outer s0 H0 E) x)
    (ha : QA (cxOf (CXe P w) P w K mg base N qual scope f cd A outer s0 H0 E) (a :: es) ta) (hd : autoParam ((x == ("__debug__" : Str)) = false) au1_._auto_1)
    (he : autoParam (starEach (a :: es) (envOfC qual scope s0.heap.objs.size f cd) = (false, eval a (envOfC qual scope s0.heap.objs.size f cd)) :: starEach es (envOfC qual scope s0.heap.objs.size f cd)) au0_._auto_1)
    (hpl : autoParam ((backTo cpos (starEach es (envOfC qual scope s0.heap.objs.size f cd))).any (·.1) = false) au0_._auto_1) :
    QS (cxOf (CXe P w) P w K mg base N qual scope f cd A outer s0 H0 E) (.Raise (some (.Call (.Name x np) (a :: es) [] cpos)) none pos) (tRaise ta E C) := ⟨My.ps_raise c hg ha.h hd he hpl⟩
end
section
variable {X : Cx} {k : Nat} {x : Str} {ps : List Str} {sp : Sp} {p pos : Pos} {e : Expr} {es : List Expr} {t : TA} {E : XK}
theorem pe_dnX (D : DnX X.prog X.w X.K X.mg X.base k x ps sp) (hp : Passes (CXe X.prog X.w) X E) (hr : Room k X.A) (hg : Gl X x) (ha : QA X (e :: es) t) (hdb : autoParam ((x == ("__debug__" : Str)) = false) au1_._auto_1)
    (he : autoParam (starEach (e :: es) X.env = (false, eval e X.env) :: starEach es X.env) au0_._auto_1) (hpl : autoParam ((backTo pos (starEach es X.env)).any (·.1) = false) au0_._auto_1) : QE X (.Call (.Name x p) (e :: es) [] pos) (tCall sp [] E t) := ⟨My.pe_dnX D hp hr hg ha.h hdb he hpl⟩
end
section
variable {X : Cx} {body suite : List Stmt} {b0 : Stmt} {tb : XK → TS} {ts : TS} {x : Str} {Cc : Addr} {np hpos pos : Pos}
end
end Jd

namespace My
open PySem PySem.Spec PyProof.Rows L2 Mth
theorem inv_forget {X Y : Cx} {pins pins' : List (Addr × Obj)} {σ : L2.St} {H : Hp} {s : Shared} {h' : Heap} {m' : Str → Option Value} {tk : Nat} (ok : X.Ok) (I : L2.Inv Y pins' σ H s) (hn : h'.Ns X.env.locals m') (sb : Heap.SameBut X.env.locals s.heap h')
    (e1 : Y.env = X.env) (e2 : Y.s₀ = X.s₀) (e3 : Y.H₀ = X.H₀) (e4 : Y.fs = X.fs) (e5 : Y.ex = X.ex) (e6 : Y.prog = X.prog) (e7 : Y.w = X.w) (hp : ∀ p ∈ X.pn ++ pins, p ∈ Y.pn ++ pins') : L2.Inv X pins (List.replicate X.N.length none) H { s with heap := h', toks := tk } := by
  have cn := I.cne
  refine ⟨ok, by rw [← e2]; exact I.os, I.bare, ?_, ⟨m', hn, fun i x v _ q _ => ?_⟩, fun x c q => ?_, by rw [← e1]; exact I.free, fun x c q => I.freeC x c (by rw [e1]; exact q), fun p q => ?_, ?_, List.length_replicate⟩
  · have b := I.base
    rw [e2, e3, e4, e5] at b
    exact un_but b fun b hb => sb.2 b (fun z => absurd (Nat.lt_of_lt_of_le hb ok.above) (by rw [z]; exact Nat.lt_irrefl _))
  · rw [List.getElem?_replicate] at q
    split at q <;> cases q
  · obtain ⟨v, o, ho, hd⟩ := I.cell x c (by rw [e1]; exact q)
    exact ⟨v, o, (sb.2 c (by rw [← e1]; exact cn x c (by rw [e1]; exact q))).trans ho, hd⟩
  · obtain ⟨a, b, c, d, f⟩ := I.pin p (hp p q)
    exact ⟨(sb.2 p.1 (by rw [← e1]; exact c)).trans a, b, by rw [← e1]; exact c, by rw [← e4]; exact d, f⟩
  · rw [← e6, ← e7]
    exact hok_but I.hok (by rw [← e1]; exact I.free) fun b o hb q => (sb.2 b hb).trans q
noncomputable def tTryAsD (K : PySem.W.Frag) (n j : Nat) (tb : XK → TS) (Cc : Addr) (ts : Addr → Value → Option Addr → TS) : TS := fun D σ H =>
  tb (fun C dx H2 => PySem.W.exmOne K C (.ref Cc) = some true ∧ ∀ (e : Addr) (σ' : L2.St), σ'.length = n → ts e C dx { nx := fun _ _ => False, rt := D.rt } (σ'.set j (some (.ref e))) H2) D σ H
section
variable {X : Cx} {body suite : List Stmt} {b0 : Stmt} {tb : XK → TS} {ts : Addr → Value → Option Addr → TS} {x nm : Str} {j : Nat} {Cc : Addr} {np hpos pos : Pos}
theorem ps_tryAsD (hN : X.N.Nodup) (hj : X.N[j]? = some nm) (hl : X.env.scope.names.lookup nm = some .local) (hg : Gl X x) (hm : X.mg x = some (.ref Cc)) (hfr : X.env.frame = some X.env.locals) (hstk : X.stack = X.env :: X.outer)
    (hb : ∀ (pn' : List (Addr × Obj)) (xe' : Value → Shared → Prop) (E : XK), Passes (CXe X.prog X.w) { X with pn := pn', xe := xe' } E → PSs { X with pn := pn', xe := xe' } body (tb E))
    (hs : ∀ (e : Addr) (ob : Obj) (c : Value) (dx : Option Addr) (pn' : List (Addr × Obj)), (e, ob) ∈ pn' → ob.cls = c → ob.dict = dx → PySem.W.notCls ob = true → PSs { X with A := X.A.mark (some (.ref e)), calm := false, pn := pn', xe := fun _ _ => False } (b0 :: suite) (ts e c dx)) (hd : autoParam ((x == ("__debug__" : Str)) = false) au1_._auto_1) :
    PS X (.Try body [.ExceptHandler (some (.Name x np)) (some nm) (b0 :: suite) hpos] [] [] pos) (tTryAsD X.K X.N.length j tb Cc ts) := by
  intro pins s σ H D I h
  refine wpAny_Try_except ?_
  generalize hT : (fun (ev : Value) (s1 : Shared) => wpAny (model X.prog X.w) X.A (noteFrame ev X.env) (fun _ s2 => wpAny (model X.prog X.w) X.A (setFlight ev none) (fun _ s3 => wpAny (model X.prog X.w) X.A (handleBy ev X.env [.ExceptHandler (some (.Name x np)) (some nm) (b0 :: suite) hpos]) (SP X pins D) X.xe s3) X.xe s2) X.xe s1) = xeT
  have pas : Passes (CXe X.prog X.w) { X with pn := X.pn ++ pins, xe := xeT } (fun C dx H2 => PySem.W.exmOne X.K C (.ref Cc) = some true ∧ ∀ (e : Addr) (σ' : L2.St), σ'.length = X.N.length → ts e C dx { nx := fun _ _ => False, rt := D.rt } (σ'.set j (some (.ref e))) H2) := by
    rintro pins' σ' H1 s1 ev s2 I1 ⟨e, t, C, H2, B, rfl, os, bare, un, hok, fly, bk, dx, hdx, hx, hE⟩
    have J : L2.Inv { X with pn := X.pn ++ pins, xe := xeT } pins' σ' H2 s2 := I1.call' (ch := []) os un hok bare fun b z => absurd z (by simp)
    have inv : ∀ h5, Heap.FlyingW B X.stack e C (.ref t) h5 → s2.heap.UpToSlots h5 → L2.Inv { X with pn := X.pn ++ pins, xe := xeT } pins' σ' H2 { s2 with heap := h5 } := fun h5 fly5 up5 =>
      I1.call' (s' := { s2 with heap := h5 }) (ch := []) os (un_fly (fun b hb => hb) un fly.2.2.1 fly5.1 up5 fun b o q hb hn => bk b o q (.inr hb) hn)
        (hok_tr hok fun c v hc q => fly5.1 c v (bk c v q (.inl hc) fun z => hc (J.stkFree c z))) bare fun b z => absurd z (by simp)
    have fr : X.A.frames = some (X.env :: X.outer) := by rw [← hstk]; exact I.ok.frames
    have fly' : Heap.FlyingW B (X.env :: X.outer) e C (.ref t) s2.heap := by rw [← hstk]; exact fly
    subst hT
    refine kp_use (R := fun h4 => Heap.HeldW B (X.env :: X.outer) e C (.ref t) X.env.locals h4 ∧ s2.heap.UpToSlots h4) kp_noteFrame (fun Q0 hQ0 => wpAny_looks_onW fr hfr fly' fun h4 held up4 => hQ0 h4 ⟨held, up4⟩) (fun h4 ⟨held, up4⟩ dk4 => ?_)
    refine kp_use (R := fun h5 => Heap.FlyingW B (X.env :: X.outer) e C (.ref t) h5 ∧ h4.UpToSlots h5) kp_setFlight (fun Q0 hQ0 => wpAny_landsW held fun h5 fly5 up5 => hQ0 h5 ⟨fly5, up5⟩) (fun h5 ⟨fly5, up5⟩ dk5 => ?_)
    have fly5' : Heap.FlyingW B X.stack e C (.ref t) h5 := by rw [hstk]; exact fly5
    have J5 := inv h5 fly5' (up4.trans up5)
    obtain ⟨ob, hob, hcls⟩ := fly5.there
    refine wpAny_handleBy_cons ?_ (by intro q; cases q)
    refine codeAny_handlers_test ?_
    have J5m := inv_mark (Ey := fun _ _ => False) (e := e) J5
    refine ld_glob J5m hg hm ?_ hd
    have LT := looks_ty (M := model X.prog X.w) hob
    rw [hcls] at LT
    refine PySem.W.exm_one J5m.kIn LT hx _ _ _ _ (fun _ _ z => z) ?_
    refine codeAny_handlers_suite_as ?_
    refine kp_use (s := { s2 with heap := h5 }) (R := fun h6 => Heap.FlyingW B (X.env :: X.outer) e C (.ref t) h6 ∧ h5.UpToSlots h6) kp_setFlight (fun Q0 hQ0 => lands_againW (s := { s2 with heap := h5 }) fly5 fun h6 fly6 up6 => hQ0 h6 ⟨fly6, up6⟩) (fun h6 ⟨fly6, up6⟩ dk6 => ?_)
    have fly6' : Heap.FlyingW B X.stack e C (.ref t) h6 := by rw [hstk]; exact fly6
    have J6 := inv h6 fly6' ((up4.trans up5).trans up6)
    obtain ⟨ob6, vs6, _, _, _, h6e, ⟨h6c, _⟩, h6d, _⟩ := fly6.2.2.2
    have h6x : ob6.dict = dx := by
      obtain ⟨ob, a, b⟩ := hdx.dk (dk4.trans (dk5.trans dk6))
      have a : h6.get? e = some ob := a
      rw [h6e] at a
      cases a
      exact b
    have nfr : e ∉ frs X.stack := fun z => by
      obtain ⟨_, o, ho, hdd⟩ := fly6'.2.2.1.mem z
      rw [h6e] at ho
      cases ho
      exact hdd vs6 h6d
    have ne : H2 e = none := by
      cases g : H2 e with
      | none => rfl
      | some ho =>
        obtain ⟨o, hh⟩ := obj_there (J.hok e ho g)
        have := bk e o hh (.inl (by rw [g]; simp)) nfr
        rw [fly.2.1] at this
        cases this
    have nloc : e ≠ X.env.locals := fun z => nfr (by
      rw [hstk, z]
      exact List.mem_filterMap.mpr ⟨X.env, List.mem_cons_self, hfr⟩)
    have nfs : e ∉ X.fs := fun z => nfr (by rw [hstk]; exact List.mem_filterMap.mpr (let ⟨env, he, hf⟩ := List.mem_filterMap.mp z; ⟨env, List.mem_cons_of_mem _ he, hf⟩))
    have J6m := inv_mark (Ey := fun _ _ => False) (e := e) J6
    have J6h : L2.Inv { X with A := X.A.mark (some (.ref e)), calm := false, pn := (X.pn ++ pins) ++ [(e, ob6)], xe := fun _ _ => False } pins' σ' H2 { s2 with heap := h6 } :=
      ⟨⟨J6m.ok.mod, J6m.ok.kind, J6m.ok.glob, J6m.ok.blt, J6m.ok.above, J6m.ok.inj, J6m.ok.has, J6m.ok.cab, fun z => absurd z Bool.false_ne_true, J6m.ok.frames, J6m.ok.stk, J6m.ok.exf, J6m.ok.bs, J6m.ok.bsz, J6m.ok.noex, J6m.ok.exfs, J6m.ok.funs, J6m.ok.frf⟩, J6m.os, J6m.bare, J6m.base, J6m.loc, J6m.cell, J6m.free, J6m.freeC,
        fun p hp => by
          rcases List.mem_append.mp hp with z | z
          · rcases List.mem_append.mp z with y | y
            · exact J6m.pin p (List.mem_append_left _ y)
            · obtain rfl : p = (e, ob6) := by simpa using y
              exact ⟨h6e, ne, nloc, nfs, fun v z => by rw [h6d] at z; cases z⟩
          · exact J6m.pin p (List.mem_append_right _ z), J6m.hok, J6m.len⟩
    refine store_ok (X := { X with A := X.A.mark (some (.ref e)), calm := false, pn := (X.pn ++ pins) ++ [(e, ob6)], xe := fun _ _ => False }) J6h hN hj (.inl hl) (show RelV (.ref e) (.ref e) from rfl) (fun s7 I7 => ?_) (.inr hl)
    have rd := hE e σ' J6.len
    refine wpAny_mono (hs e ob6 C dx _ (by simp) h6c h6x (by unfold PySem.W.notCls; rw [h6d]) pins' s7 _ H2 _ I7 rd) (fun fl s8 q => ?_) fun _ _ z => z.elim
    cases fl with
    | next => exact let ⟨_, _, _, z⟩ := q; z.elim
    | brk => exact let ⟨_, _, _, z⟩ := q; z.elim
    | cont => exact let ⟨_, _, _, z⟩ := q; z.elim
    | ret u =>
      obtain ⟨v, σ3, H3, I8, r8, q8⟩ := q
      obtain ⟨m8, hn8, _⟩ := id I8.loc
      refine wpAny_nameGoes (m := m8) hl hn8 (by rw [I.ok.kind]; rfl) fun h9 m9 hn9 sb9 => ?_
      exact ⟨v, _, H3, inv_forget I.ok I8 hn9 sb9 rfl rfl rfl rfl rfl rfl rfl fun p hp => List.mem_append_left _ (List.mem_append_left _ hp), r8, q8⟩
  refine wpAny_mono (hb _ _ _ pas [] s σ H D (inv_in I _) h) (fun fl s1 q => ?_) fun ev s1 z => ?_
  · have q' := sp_by (fun σ H J => inv_out I.ok J) q
    cases fl with
    | next => exact wpAny_pure q'
    | brk => exact q'
    | cont => exact q'
    | ret u => exact q'
  · subst hT
    exact z
end
section
variable {X : Cx} {body suite : List Stmt} {b0 : Stmt} {tb : XK → TS} {ts : Addr → Value → TS} {x nm : Str} {j : Nat} {Cc : Addr} {np hpos pos : Pos}
end
section
variable {σ : L2.St} {H : Hp} {Q : VK} {D : Ends}
end
end My
namespace Jd
open PySem PySem.Spec PyProof.Rows L2 My
section
variable {X : Cx} {body suite : List Stmt} {b0 : Stmt} {tb : XK → TS} {ts : Addr → Value → TS} {x nm : Str} {j : Nat} {Cc : Addr} {np hpos pos : Pos}
theorem pe_xn {C : Addr} (hg : Gl X x) (c : Xc X.K X.mg x C) (hd : autoParam ((x == ("__debug__" : Str)) = false) au1_._auto_1) : QE X (.Name x pos) (tC (.ref C)) := ⟨L2.pe_glob hg c.at_ (show RelV (.ref C) (.ref C) from rfl) hd⟩
end
end Jd

namespace My
open PySem PySem.Spec PyProof.Rows L2 Mth
noncomputable def tFtext (te : TE) : TE := fun σ H Q => te σ H fun v H1 => ∃ i, v = .int i ∧ i.natAbs.log2 < 1920 ∧ ∀ x, Q (.str x) H1
section
variable {X : Cx}
theorem int_text_1921 {i : Int} (h : i.natAbs.log2 < 1920) : (Str.ofString (toString i)).length ≤ 1921 := by
  have e := int_text_length_le (k := 1920) (by decide) h
  rw [PySem.ofString_length]
  exact e
theorem pe_ftext {a c : Str} {j j' : Nat} {e : Expr} {te : TE} {p1 p2 p3 pos : Pos} (he : PE X e te) (ha : autoParam (a.length ≤ 1000) au1_._auto_1) (hc : autoParam (c.length ≤ 1000) au1_._auto_1) : PE X (.JoinedStr [.Constant (.str a) j p1, .FormattedValue e (-1) none p2, .Constant (.str c) j' p3] pos) (tFtext te) := by
  intro pins s σ H Q I h
  have e0 : (Str.empty : Str).length = 0 := rfl
  refine JoinedStr_many ?_
  refine joinParts_cons (Calls.Constant_str ?_)
  have hE := he pins { s with toks := s.toks + 1 } σ H _ (I.tok _) h
  refine ⟨?_, joinParts_cons (FormattedValue_plain (wpAny_mono hE (fun v s1 ⟨y, H1, I1, r, i, hy, hi, q⟩ => ?_) fun _ _ z => z))⟩
  · rw [strLen_append, e0, sizeLine_eq]
    omega
  subst hy
  obtain ⟨tk, rfl⟩ := r
  refine formatField_int_small hi ?_
  have l1 := int_text_1921 hi
  refine ⟨?_, joinParts_cons (Calls.Constant_str ⟨?_, joinParts_nil ⟨.str _, H1, I1.tok _, ⟨_, rfl⟩, q _⟩ ?_⟩)⟩
  all_goals
    simp only [strLen_append, e0, sizeLine_eq]
    omega
end
noncomputable def exObj (C : Addr) (dx : Option Addr) (t : Addr) : Obj := { cls := .ref C, dict := dx, data := .fields #[.ref t, .none, .none, .none, .bool false, .none] }
noncomputable def ExO (e C : Addr) (dx : Option Addr) (h : Heap) : Prop := ∃ t : Addr, h.get? e = some (exObj C dx t)
section
variable {prog : Program} {w : World} {A : Around} {E : Value → Shared → Prop} {h : Heap} {g : Array GenState} {d : Drawn} {tk : Nat} {os : OsState}
variable {nm q : Str} {C N e t0 : Addr} {dx : Option Addr} {bs bm bmB : List Value} {hdct : Bool} {sn : List Str} {sub : List Value} {ab : Bool} {col : Option Bool} {dd : Option Addr} {k0 k1 k2 k3 k5 : Option Value} {B newId initId : String}
theorem init_run (F : ExcBaseFacts B newId initId bmB) (T : OwnTail h bmB bm) {v : Value} {Q : Value → Shared → Prop} (hC : h.get? C = some (excClassObj nm q C N bs bm hdct sn sub ab col dd k0 k1 k2 k3 k5 newId)) (he : h.get? e = some (exObj C dx t0))
    (hq : ∀ h', (∀ b o, b ≠ e → h.get? b = some o → h'.get? b = some o) → ExO e C dx h' → Q .none ⟨h', g, d, tk, os⟩) : wpAny (model prog w) A (call (.builtin initId) [.ref e, v]) Q E ⟨h, g, d, tk, os⟩ := by
  unfold exObj at he
  refine wpAny_call (codeAny_call_builtin F.init.plain F.initEntry (wpAny_check_init_subT F T hC he rfl ?_))
  wp_walk
  refine hq _ (fun b o hb eb => ?_) ⟨h.objs.size, ?_⟩
  · rw [Heap.get?_update_other _ _ (Ne.symm hb)]
    exact Heap.get?_push_of_some _ eb
  · rw [Heap.get?_update_self _ (Heap.get?_push_of_some _ he) rfl]
    rfl
theorem type_call_own (F : ExcBaseFacts B newId initId bmB) (T : OwnTail h bmB bm) {mN : Str → Option Value} {rest : List Value} {fI : Addr} {oI : Obj} {Q : Fin → Shared → Prop}
    (hC : h.get? C = some (excClassObj nm q C N bs bm hdct sn sub ab col dd k0 k1 k2 k3 k5 newId)) (hn : h.Ns N mN) (hi : mN "__init__" = some (.ref fI)) (hfI : h.get? fI = some oI) (hfc : oI.cls = .type "function")
    (hq : ∀ h' e, Heap.MadeExcOf h h' e (.ref C) rest → h.objs.size ≤ e → wpAny (model prog w) A (call (.ref fI) (.ref e :: rest)) (fun r s' => r = .none ∧ Q (.done (.ret (.ref e))) s') E ⟨h', g, d, tk, os⟩) (hrest : rest.length ≤ sizeLine) :
    wpAny (model prog w) A (Builtin.«type.__call__» ⟨.ref C :: rest, []⟩) Q E ⟨h, g, d, tk, os⟩ := by
  repeat (first | with_reducible refine wpAny_loadPart_at hC ?_ | with_reducible refine wpAny_madeBy_exc hC ?_ | wp_step)
  refine codeAny_call_builtin_code (Code.quiet_builtin _ F.quiet) (wpAny_check_new_subT F T hC ?_)
  refine codeAny_exc_new_subT F T hC ?_ hrest
  show wpAny _ _ _ _ _ _
  generalize hh1 : (h.push { cls := .type "tuple", data := .seq rest.toArray }).push { cls := .ref C, data := .fields #[.ref h.objs.size, .none, .none, .none, .bool false, .none] } = h1
  have kp : ∀ b o, h.get? b = some o → h1.get? b = some o := fun b o eb => by rw [← hh1]; exact Heap.get?_push_of_some _ (Heap.get?_push_of_some _ eb)
  have hget : h1.get? (h.objs.size + 1) = some { cls := .ref C, data := .fields #[.ref h.objs.size, .none, .none, .none, .bool false, .none] } := by rw [← hh1]; heap_get
  have htup : h1.get? h.objs.size = some { cls := .type "tuple", data := .seq rest.toArray } := by rw [← hh1]; exact Heap.get?_push_of_some _ (Heap.get?_push_at rfl rfl)
  have hC₁ := kp _ _ hC
  have hn₁ := hn.keeps kp
  have T₁ := T.keeps kp
  have hcC : (Value.ref C :: bm).contains (.ref C) = true := by simp
  unfold isInstance
  repeat (first | with_reducible refine wpAny_loadPart_at hget ?_ | (with_reducible refine wpAny_isSubtype_exc hC₁ ?_; rw [hcC]) | wp_step)
  show wpAny _ _ (typeLookup (.ref C) _) _ _ _
  refine wpAny_typeLookup_tail hC₁ hn₁ T₁ F.mroIs F.init.lookup ?_
  rw [hi]
  refine wpAny_holding (wpAny_bind ?_)
  unfold bindSpecial
  refine wpAny_bind (wpAny_typeOf (T := "function") ⟨_, kp _ _ hfI, hfc⟩ ?_)
  rw [if_pos (by decide)]
  refine wpAny_pure (wpAny_bind (wpAny_mono (hq h1 (h.objs.size + 1) ⟨kp, Heap.get?_none_of_le (Nat.le_succ _), h.objs.size, hget, Heap.get?_none_of_le (Nat.le_refl _), htup⟩ (Nat.le_succ _)) (fun r s' hr => ?_) fun _ _ z => z))
  obtain ⟨rfl, hQ⟩ := hr
  wp_walk
  exact hQ
theorem call_own (F : ExcBaseFacts B newId initId bmB) (T : OwnTail h bmB bm) {mN : Str → Option Value} {rest : List Value} {fI : Addr} {oI : Obj} {Q : Value → Shared → Prop}
    (hC : h.get? C = some (excClassObj nm q C N bs bm hdct sn sub ab col dd k0 k1 k2 k3 k5 newId)) (hn : h.Ns N mN) (hi : mN "__init__" = some (.ref fI)) (hfI : h.get? fI = some oI) (hfc : oI.cls = .type "function")
    (hq : ∀ h' e, Heap.MadeExcOf h h' e (.ref C) rest → h.objs.size ≤ e → wpAny (model prog w) (A.under (.builtin "type.__call__" ⟨.ref C :: rest, []⟩)) (call (.ref fI) (.ref e :: rest)) (fun r s' => r = .none ∧ Q (.ref e) s') E ⟨h', g, d, tk, os⟩) (hrest : rest.length ≤ sizeLine) :
    wpAny (model prog w) A (call (.ref C) rest) Q E ⟨h, g, d, tk, os⟩ := by
  have f1 := tc_lookup
  have f2 := tc_bind (.ref C)
  have hT : (⟨h, g, d, tk, os⟩ : Shared).TypeIs (.ref C) "type" := ⟨_, hC, rfl⟩
  refine wpAny_call (codeAny_of_tree ?_)
  show wpAny _ _ (callAny (.ref C) _) _ _ _
  repeat (any_goals (first | assumption | with_reducible refine wpAny_loadPart_at hC ?_ | wp_step))
  refine ⟨rfl, ?_⟩
  exact codeAny_call_builtin_at (Code.quiet_builtin _ (by decide +kernel)) entry_typeCall (wpAny_check_type_call_sub hC (type_call_own F T hC hn hi hfI hfc hq hrest))
end
section
variable {prog : Program} {w : World} {A : Around} {E : Value → Shared → Prop} {s : Shared} {env : Env}
variable {nm q : Str} {C N : Addr} {bs bm bmB : List Value} {hdct : Bool} {sn : List Str} {sub : List Value} {ab : Bool} {col : Option Bool} {dd : Option Addr} {k0 k1 k2 k3 k5 : Option Value} {B newId initId : String}
theorem raise_stmt_own {x : Sem Value} {Q : Flow → Shared → Prop} (hbase : bm.contains (.type "BaseException") = true) (hh : A.handled = none)
    (h : wpAny (model prog w) A x (fun v s₁ => ∃ e t dx, v = .ref e ∧ s₁.heap.get? C = some (excClassObj nm q C N bs bm hdct sn sub ab col dd k0 k1 k2 k3 k5 newId) ∧ s₁.heap.get? e = some (exObj C dx t) ∧ E (.ref e) s₁) E s) :
    wpAny (model prog w) A (raiseStmt env (some x) none) Q E s := by
  have hcB : (Value.ref C :: bm).contains (.type "BaseException") = true := by rw [List.contains_cons, hbase, Bool.or_true]
  unfold raiseStmt
  refine wpAny_bind (wpAny_mono h (fun v s₁ h₁ => ?_) fun _ _ x => x)
  obtain ⟨e, t, dx, rfl, hC, he, hE⟩ := h₁
  obtain ⟨hp, g, d, tk, os⟩ := s₁
  unfold exObj at he
  repeat (first | with_reducible refine wpAny_loadPart_at he ?_ | with_reducible refine wpAny_loadPart_at hC ?_ | (with_reducible refine wpAny_isSubtype_exc hC ?_; rw [hcB]) | wp_step)
  exact wpAny_raiseNew_none hh hE
theorem raise_own (F : ExcBaseFacts B newId initId bmB) {mN : Str → Option Value} {x : Str} {np cpos pos : Pos} {args : List Expr} {fI : Addr} {oI : Obj} {Q : Flow → Shared → Prop}
    (hbase : bm.contains (.type "BaseException") = true) (hh : A.handled = none) (hplain : (backTo cpos (starEach args env)).any (·.1) = false) (hi : mN "__init__" = some (.ref fI)) (hfc : oI.cls = .type "function")
    (h : wpAny (model prog w) A (eval (.Name x np) env) (fun f s₁ => f = .ref C ∧ wpAny (model prog w) A (evalArgs (.ref C) true (backTo cpos (starEach args env)) [])
      (fun a s₂ => a.kw = [] ∧ a.pos.length ≤ sizeLine ∧ s₂.heap.get? C = some (excClassObj nm q C N bs bm hdct sn sub ab col dd k0 k1 k2 k3 k5 newId) ∧ s₂.heap.Ns N mN ∧ OwnTail s₂.heap bmB bm ∧ s₂.heap.get? fI = some oI ∧
        ∀ h' e, Heap.MadeExcOf s₂.heap h' e (.ref C) a.pos → s₂.heap.objs.size ≤ e → wpAny (model prog w) (A.under (.builtin "type.__call__" ⟨.ref C :: a.pos, []⟩)) (call (.ref fI) (.ref e :: a.pos))
          (fun r s' => r = .none ∧ ∃ t dx, s'.heap.get? C = some (excClassObj nm q C N bs bm hdct sn sub ab col dd k0 k1 k2 k3 k5 newId) ∧ s'.heap.get? e = some (exObj C dx t) ∧ E (.ref e) s') E { s₂ with heap := h' }) E s₁) E s) :
    wpAny (model prog w) A (exec (.Raise (some (.Call (.Name x np) args [] cpos)) none pos) env) Q E s := by
  rw [arm_exec_Raise]
  refine wpAny_bind (wpAny_standAt (raise_stmt_own (C := C) (nm := nm) (q := q) (N := N) (bs := bs) (bm := bm) (hdct := hdct) (sn := sn) (sub := sub) (ab := ab) (col := col) (dd := dd) (k0 := k0) (k1 := k1) (k2 := k2) (k3 := k3) (k5 := k5) (newId := newId) hbase hh ?_))
  refine wpAny_bind (wpAny_mono (wpAny_Call_ofName (wpAny_mono h (fun f s₁ h₁ => ?_) fun _ _ x => x)) (fun v s₃ h₃ => wpAny_bind (wpAny_standAt (wpAny_pure h₃))) fun _ _ x => x)
  obtain ⟨rfl, h₁⟩ := h₁
  unfold callWith
  refine wpAny_bind (wpAny_holding (wpAny_mono h₁ (fun a s₂ h₂ => wpAny_bind (wpAny_standAt ?_)) fun _ _ x => x))
  obtain ⟨apos, akw⟩ := a
  obtain ⟨hkw, hlen, hC, hn, T, hfI, h₂⟩ := h₂
  obtain rfl : akw = [] := hkw
  obtain ⟨hp, g, d, tk, os⟩ := s₂
  simp only [hplain]
  refine wpAny_bind (wpAny_keeperOf_exc hC ?_)
  refine wpAny_bind (call_own F T hC hn hi hfI hfc (fun h' e hm hle => wpAny_mono (h₂ h' e hm hle) (fun r s' ⟨hr, t, dx, z⟩ => ⟨hr, wpAny_bind (wpAny_holding (wpAny_point (wpAny_pure ⟨e, t, dx, rfl, z⟩)))⟩) fun _ _ z => z) hlen)
end
end My

namespace My
open PySem PySem.Spec PyProof.Rows L2 Mth
theorem refuse_tail {h : Heap} {bmB bm : List Value} {self : Value} {what : Str} (T : OwnTail h bmB bm) (hp : refuseLoop self what bmB = pure ()) : refuseLoop self what bm = pure () := by
  induction T with
  | base => exact hp
  | own _ _ _ _ ih => rw [refuseLoop_ref]; exact ih
section
variable {prog : Program} {w : World} {A : Around} {E : Value → Shared → Prop} {h : Heap} {g : Array GenState} {d : Drawn} {tk : Nat} {os : OsState} {K : PySem.W.Frag}
variable {nm q : Str} {C N e t0 : Addr} {bs bm bmB : List Value} {sn : List Str} {sub : List Value} {ab : Bool} {col : Option Bool} {dd : Option Addr} {k0 k1 k2 k3 k5 : Option Value} {B newId owner : String} {name : Str} {v : Value}
theorem check_store {M : Model} {o : Obj} {nameV : Value} {Q : Unit → Shared → Prop} {sa : String} (SF : StoreFacts B bmB sa owner) (T : OwnTail h bmB bm)
    (hC : h.get? C = some (excClassObj nm q C N bs bm true sn sub ab col dd k0 k1 k2 k3 k5 newId)) (hx : h.get? e = some o) (hc : o.cls = .ref C) (hq : Q () ⟨h, g, d, tk, os⟩) :
    wpAny M A (checkBuiltinCall sa ⟨[.ref e, nameV, v], []⟩) Q E ⟨h, g, d, tk, os⟩ := by
  have hcB : (Value.ref C :: bm).contains (.type owner) = true := by rw [List.contains_cons, T.hasType SF.hasOwner, Bool.or_true]
  have ha := SF.args (.ref e) nameV v
  simp only [checkBuiltinCall, SF.kind, SF.split]
  refine wpAny_bind ?_
  unfold isInstance
  repeat (first | (with_reducible refine wpAny_loadPart_at hx ?_; rw [hc]) | (with_reducible refine wpAny_isSubtype_exc hC ?_; rw [hcB]) | wp_step)
  cases hsig : Manifest.signature? sa with
  | none => exact wpAny_pure hq
  | some sig =>
    simp only [argsOk, hsig] at ha
    have h2 : Bind.checkArgs sa sig ⟨[.ref e, nameV, v], []⟩ = pure () := ha
    show wpAny M A (Bind.checkArgs sa sig ⟨[.ref e, nameV, v], []⟩) Q E _
    rw [h2]
    exact wpAny_pure hq
theorem store_own {Q : Unit → Shared → Prop} (SF : StoreFacts B bmB "object.__setattr__" owner) (T : OwnTail h bmB bm) (X : K.In h) (hC : h.get? C = some (excClassObj nm q C N bs bm true sn sub ab col dd k0 k1 k2 k3 k5 newId))
    (hs : PySem.W.findIn K (.ref C) "__setattr__" = some (some (.builtin "object.__setattr__"))) (hf : PySem.W.findIn K (.ref C) name = some none) (he : h.get? e = some (exObj C none t0))
    (hq : ∀ h' tk', (∀ b o, b ≠ e → h.get? b = some o → h'.get? b = some o) → h'.get? e = some (exObj C (some h.objs.size) t0) → h'.Ns1 h.objs.size (fun y => if y = name then some v else none) → Q () ⟨h', g, d, tk', os⟩) :
    wpAny (model prog w) A (setAttr (.ref e) name v) Q E ⟨h, g, d, tk, os⟩ := by
  have hx := he
  unfold exObj at hx
  refine PySem.W.set_plain (s := ⟨h, g, d, tk, os⟩) X (C := C) (ox := exObj C none t0) (od := none) ⟨he, rfl, rfl, True.intro⟩ hs ?_
  show codeAny _ _ _ _ ⟨h, g, d, tk + 1, os⟩
  refine codeAny_call_builtin SF.slot.plain SF.entry ?_
  have hcls : (exObj C none t0).cls = .ref C := rfl
  have ck : ∀ {Q' : Unit → Shared → Prop} {E' : Value → Shared → Prop} {A' : Around}, Q' () ⟨h, g, d, tk + 1, os⟩ → wpAny (model prog w) A' (checkBuiltinCall "object.__setattr__" ⟨[.ref e, .str name tk, v], []⟩) Q' E' ⟨h, g, d, tk + 1, os⟩ := fun {Q' E' A'} z => @check_store A' E' h g d (tk + 1) os nm q C N e bs bm bmB sn sub ab col dd k0 k1 k2 k3 k5 B newId owner v (model prog w) (exObj C none t0) (.str name tk) Q' "object.__setattr__" SF T hC he hcls z
  generalize hB : Builtin.«object.__setattr__» = BB
  refine ck ?_
  subst hB
  have hpass := refuse_tail T (SF.passes (.ref e))
  have look : ∀ {Q : Option Value → Shared → Prop} {A' : Around} {E' : Value → Shared → Prop} {tk' : Nat}, Q none ⟨h, g, d, tk', os⟩ → wpAny (model prog w) A' (typeLookup (.ref C) name) Q E' ⟨h, g, d, tk', os⟩ := fun {Q A' E' tk'} z => (PySem.W.looks_findIn (M := model prog w) X hf).here z
  clear hx
  have hc : ∃ o : Obj, h.get? e = some o ∧ o.cls = .ref C ∧ o.dict = none ∧ (∀ c, o.data ≠ .cls c) ∧ { cls := o.cls, dict := some h.objs.size, data := o.data, slots := o.slots } = exObj C (some h.objs.size) t0 ∧ o.isFreed = false := ⟨_, he, rfl, rfl, fun c z => (by cases z), rfl, rfl⟩
  obtain ⟨o, hx, hc, hdn, hnc, hsame, hfr⟩ := hc
  unfold Builtin.«object.__setattr__»
  repeat (first | rw [refuse_eq] | (rw [refuseLoop_ref, hpass]) | (with_reducible refine wpAny_loadPart_at hx ?_; rw [hc]) | with_reducible refine wpAny_mroOf_exc hC ?_ | with_reducible refine look ?_ | wp_step)
  rw [hdn, if_neg (by simp [typeHasDict])]
  split
  · rename_i hcd
    cases hcd
  split
  · rename_i c hcd
    exact absurd hcd (hnc c)
  have hx₁ : (h.push { cls := .type "dict", data := .dict #[] }).get? e = some o := Heap.get?_push_of_some _ hx
  have hxs : e ≠ h.objs.size := Nat.ne_of_lt (Heap.lt_size hx)
  refine wpAny_bind (wpAny_alloc' (wpAny_bind (wpAny_update' hx₁ (wpAny_pure ?_))))
  have hgd : ((h.push { cls := .type "dict", data := .dict #[] }).update e fun o => { cls := o.cls, dict := some h.objs.size, data := o.data, slots := o.slots }).get? h.objs.size = some { cls := .type "dict", data := .dict #[] } :=
    (Heap.get?_update_ne _ _ _ _ hxs.symm).trans (Heap.get?_push_at rfl rfl)
  show wpAny _ _ (Builtin.ObjectAttr.storeInDict h.objs.size (.str name tk) name v) _ _ _
  unfold Builtin.ObjectAttr.storeInDict Builtin.ObjectAttr.newKeyGuard
  refine wpAny_bind (wpAny_pure (wpAny_bind (wpAny_nsSet1 (Heap.Ns1.of_empty ⟨_, #[], _, hgd, rfl, fun e he => absurd he (by simp), fun _ => rfl⟩) fun h' hn' hs => ?_)))
  obtain ⟨oD, esD, epD, hoD, hdD, hcD⟩ := hn'.count (Within.cons name v Within.nil)
  refine wpAny_bind (wpAny_lookBehind hoD (by rw [hdD]; exact pastItsLine_dict (Nat.le_trans hcD (by rw [List.length_cons, List.length_nil, sizeLine_eq]; omega))) ?_)
  wp_walk
  refine hq h' _ (fun b ob hbx hb => (hs.2 b (Nat.ne_of_lt (Heap.lt_size hb))).trans ((Heap.get?_update_ne _ _ _ _ hbx).trans (Heap.get?_push_of_some _ hb))) ?_ hn'
  rw [← hsame]
  refine (hs.2 e hxs).trans (Heap.get?_update_self _ hx₁ ?_)
  obtain ⟨oc, od, odt, osl⟩ := o
  cases odt <;> first | rfl | exact hfr
end
end My

namespace My
open PySem PySem.Spec PyProof.Rows L2 Mth
noncomputable def ownInit (K : PySem.W.Frag) (C fI : Addr) : Bool := match K.lookup C with
  | some ⟨.type "type", _, .cls cd, sl⟩ => (match cd.mro, sl.toList with
    | .ref C' :: bm, [_, _, _, _, some (.builtin n), _] => C' == C && n == "ValueError.__new__" && !cd.hasDel && cd.hasDict && PySem.W.tailIn K [.type "ValueError", .type "Exception", .type "BaseException", .type "object"] bm && PySem.W.nsOkIn K cd.ns && PySem.W.nsIn K cd.ns "__init__" == some (some (.ref fI))
    | _, _ => false)
  | _ => false
structure Xi (K : PySem.W.Frag) (mg : Str → Option Value) (x : Str) (C fI : Addr) : Prop where
  at_ : mg x = some (.ref C)
  is_ : ownInit K C fI = true
  set_ : PySem.W.findIn K (.ref C) "__setattr__" = some (some (.builtin "object.__setattr__"))
  att_ : PySem.W.findIn K (.ref C) "at" = some none
  self_ : PySem.W.exmOne K (.ref C) (.ref C) = some true
theorem ns_some {K : PySem.W.Frag} {h : Heap} {N : Addr} {mg : Str → Option Value} {n : Str} {v : Value} (X : K.In h) (G : h.Ns N mg) (e : PySem.W.nsIn K N n = some (some v)) : mg n = some v := by
  obtain ⟨o, es, ep, ho, hd, _, hf⟩ := G
  unfold PySem.W.nsIn at e
  split at e
  · rename_i q
    have := X _ _ q
    rw [ho] at this
    cases this
    cases hd
    split at e
    · rename_i he
      rw [← hf]
      unfold nsFind findBy
      rw [← Array.find?_toList, he]
      cases e
      rfl
    · split at e <;> cases e
  · cases e
theorem Xi.obj {K : PySem.W.Frag} {mg : Str → Option Value} {x : Str} {C fI : Addr} {h : Heap} (X : K.In h) (c : Xi K mg x C fI) : ∃ bm N nm q bs sn sub ab col dd k0 k1 k2 k3 k5 mN, h.get? C = some (excClassObj nm q C N bs bm true sn sub ab col dd k0 k1 k2 k3 k5 "ValueError.__new__") ∧ h.Ns N mN ∧ mN "__init__" = some (.ref fI) ∧ OwnTail h [.type "ValueError", .type "Exception", .type "BaseException", .type "object"] bm := by
  have q := c.is_
  unfold ownInit at q
  split at q
  · next dd cd sl ho =>
    split at q
    · next C' bm a0 a1 a2 a3 n a5 hm hs =>
      simp only [Bool.and_eq_true, beq_iff_eq, Bool.not_eq_true'] at q
      obtain ⟨⟨⟨⟨⟨⟨e1, e2⟩, e3⟩, ed⟩, e4⟩, e5⟩, e6⟩ := q
      subst e1 e2
      obtain ⟨f1, f2, f3, f4, f5, f6, f7, f8, f9, f10, f11⟩ := cd
      dsimp only at hm e3 e5 e6 ed
      subst hm e3 ed
      obtain ⟨sll⟩ := sl
      have hs' : sll = [a0, a1, a2, a3, some (.builtin _), a5] := hs
      subst hs'
      have hN := Heap.Ns.of_isNs (PySem.W.isNs_of_in X e5)
      refine ⟨bm, f4, f1, f5, f2, f7, f8, f9, f10, dd, a0, a1, a2, a3, a5, _, X _ _ ho, hN, ?_, PySem.W.tail_of_in X e4⟩
      exact ns_some X hN e6
    · cases q
  · cases q
section
variable {X : Cx}
theorem upd_id {H : Hp} {a : Addr} {o : HO} (h : H a = some o) : upd H a o = H := funext fun b => by
  unfold upd
  split
  · next z => rw [z, h]
  · rfl
noncomputable def tBI (K : PySem.W.Frag) (ta : TA) : TE := fun σ H Q => ta σ H fun vs H1 => ∃ (e C fI : Addr) (x : Str) (mg : Str → Option Value) (dx : Option Addr) (v : V), vs = [.ref e, v] ∧ H1 e = some (.ext (ExO e C dx)) ∧ Xi K mg x C fI ∧ Q .non H1
theorem pe_baseInit {pl : Sem Bool} {x : Str} {Lc : Addr} {mc : Value} {a1 : Expr} {es : List Expr} {ta : TA} {np apos cpos : Pos} (hg : Gl X x) (hm : X.mg x = some (.ref Lc)) (hsp : PySem.W.specialIn X.K (.ref Lc) "__getattribute__" = some (some (.builtin "type.__getattribute__"))) (hr : PySem.W.readsIn X.K Lc mc = true)
    (hf : PySem.W.findCls X.K (.ref Lc) mc "__init__" = some (.val (.builtin "ValueError.__init__"))) (ha : PA X (a1 :: es) ta) (hd : autoParam ((x == ("__debug__" : Str)) = false) au1_._auto_1)
    (hs : autoParam (starEach (a1 :: es) X.env = (false, eval a1 X.env) :: starEach es X.env) au0_._auto_1) (hplain : autoParam ((backTo cpos (starEach es X.env)).any (·.1) = false) au0_._auto_1)
    (ht : autoParam (eval (.Call (.Attribute (.Name x np) "__init__" apos) (a1 :: es) [] cpos) X.env = (do
      let ov ← eval (.Name x np) X.env
      standAt apos.atName
      let (f, first) ← holding [ov] (getMethod ov "__init__" pl)
      callWith cpos f first (backTo cpos (starEach (a1 :: es) X.env)) (backToKw cpos (keywordEach [] X.env)))) au0_._auto_1) :
    PE X (.Call (.Attribute (.Name x np) "__init__" apos) (a1 :: es) [] cpos) (tBI X.K ta) := by
  intro pins s σ H Q I h
  refine PySem.W.methodCall_KW (pl := pl) (ld_glob I hg hm ?_ hd) ht
  refine PySem.W.method_cls I.kIn hsp (PySem.W.cls_value I.kIn hr hf rfl ?_)
  have hA := ha cpos pins _ σ H _ (I.tok (s.toks + 1)) h
  rw [hs] at hA ⊢
  refine Calls.callWith_builtin (by show (false || (backTo cpos (starEach es X.env)).any (·.1)) = false; rw [hplain]; rfl) (Calls.evalArgs_plain (thn hA fun us s2 ⟨vs, H2, I2, r2, e, C, fI, x', mg', dx, v, hvs, hH, c, q⟩ => ?_))
  subst hvs
  obtain ⟨u1, u2, rfl, r1, r3⟩ := vals2 r2
  cases (show u1 = Value.ref e from r1)
  obtain ⟨bm, N, nm, qq, bs, sn, sub, ab, col, dd, k0, k1, k2, k3, k5, mN, hC, hN, hi, T⟩ := c.obj I2.kIn
  obtain ⟨⟨t0, he⟩, _, hst⟩ := I2.hok e _ hH
  obtain ⟨h2, g2, d2, tk2, os2⟩ := s2
  refine init_run PySem.F.excBase_ValueError T hC he fun h' kp hx => ?_
  obtain ⟨t1, he1⟩ := id hx
  have I3 := I2.write (h' := h') (x := e) (e := e) (o := .ext (ExO e C dx)) (t' := tk2) (by rw [hH]; exact True.intro) (.inl rfl) (fun b u hb eb => kp b u hb eb) ⟨_, he1⟩ ⟨hx, ⟨_, he1⟩, hst⟩
  rw [upd_id hH] at I3
  exact ⟨.non, H2, I3, rfl, q⟩
noncomputable def gAt (K : PySem.W.Frag) (to : TE) : TG := fun v σ H R => to σ H fun x H1 => ∃ (e C fI : Addr) (y : Str) (mg : Str → Option Value), x = .ref e ∧ H1 e = some (.ext (ExO e C none)) ∧ Xi K mg y C fI ∧ ∀ d : Addr, H1 d = none → R σ (upd (upd H1 d (.xd [("at", v)])) e (.ext (ExO e C (some d))))
theorem pg_at {o : Expr} {to : TE} {pos : Pos} (ho : PE X o to)
    (ha : autoParam (∀ v, assign (.Attribute o "at" pos) X.env v = (do
      let ov ← holding [v] (eval o X.env)
      standAt pos.atName
      holding [v, ov] (setAttr ov "at" v)
      release [v, ov] [])) au2_._auto_1) : PG X (.Attribute o "at" pos) (gAt X.K to) := by
  intro pins s σ H v u Q I r h
  rw [ha]
  refine wpAny_bind (wpAny_holding (thn (ho pins s σ H _ I h) fun ov s1 ⟨x, H1, I1, r1, e, C, fI, y, mg, hx, hH, c, q⟩ => ?_))
  subst hx
  cases (show ov = Value.ref e from r1)
  refine wpAny_bind (wpAny_standAt (wpAny_bind (wpAny_holding ?_)))
  obtain ⟨bm, N, nm, qq, bs, sn, sub, ab, col, dd, k0, k1, k2, k3, k5, mN, hC, hN, hi, T⟩ := c.obj I1.kIn
  obtain ⟨⟨t0, he⟩, _, hst⟩ := I1.hok e _ hH
  obtain ⟨h1, g1, d1, tk1, os1⟩ := s1
  refine store_own PySem.F.store_ValueError T I1.kIn hC c.set_ c.att_ he fun h' tk' kp he' hns => ?_
  have hd1 : H1 h1.objs.size = none := I1.hok.fresh (Nat.le_refl _)
  obtain ⟨oD, es, ep, hoD, hrest⟩ := hns
  have fr := (Heap.get?_some_iff.mp hoD).2
  have hm : (h1.push oD).get? h1.objs.size = some oD := Heap.get?_push_size h1 fr
  have hlook : ∀ f : Str, RelO (([("at", v)] : List (Str × V)).lookup f) (if f = "at" then some u else none) := fun f => by
    by_cases z : f = "at"
    · subst z
      rw [if_pos rfl]
      exact r
    · rw [if_neg z]
      have : ([("at", v)] : List (Str × V)).lookup f = none := by
        simp only [List.lookup]
        rw [beq_false_of_ne z]
      rw [this]
      exact True.intro
  have I2 := I1.laid (h' := h1.push oD) (a := h1.objs.size) (o := .xd [("at", v)]) (t' := tk') (fun b w eb => Heap.get?_push_of_some _ eb) (Nat.le_refl _) ⟨_, ⟨oD, es, ep, hm, hrest⟩, hlook⟩
  have hne : e ≠ h1.objs.size := Nat.ne_of_lt (Heap.lt_size he)
  have hH2 : upd H1 h1.objs.size (.xd [("at", v)]) e = some (.ext (ExO e C none)) := by rw [upd_ne hne]; exact hH
  have I3 := I2.write (h' := h') (x := e) (e := e) (o := .ext (ExO e C (some h1.objs.size))) (t' := tk') (by rw [hH2]; exact True.intro) (.inl rfl) (fun b w hb eb => ?_) ⟨_, he'⟩ ⟨⟨t0, he'⟩, ⟨_, he'⟩, fun g1 g2 ⟨t, z⟩ k => ⟨t, k _ z⟩⟩
  · refine wpAny_release ⟨σ, _, I3, q _ hd1⟩
  · have eb : (h1.push oD).get? b = some w := eb
    by_cases z : b = h1.objs.size
    · subst z
      rw [hm] at eb
      cases eb
      exact hoD
    · refine kp b w hb ?_
      obtain ⟨eo, ef⟩ := Heap.get?_some_iff.mp eb
      refine Heap.get?_some_iff.mpr ⟨?_, ef⟩
      obtain ⟨objs, l⟩ := h1
      have eo : (objs.push oD)[b]? = some w := eo
      rw [Array.getElem?_push] at eo
      rw [if_neg z] at eo
      exact eo
end
end My

namespace My
open PySem PySem.Spec PyProof.Rows L2 Mth
noncomputable def spIni (C : Addr) : Sp := fun vs H Q _ => ∃ (e : Addr) (i : Int), vs = [.ref e, .int i] ∧ H e = some (.ext (ExO e C none)) ∧ i.natAbs.log2 < 1920 ∧ ∀ d, H d = none → Q .non (upd (upd H d (.xd [("at", .int i)])) e (.ext (ExO e C (some d))))
structure Di (P : Program) (w : World) (K : PySem.W.Frag) (mg : Str → Option Value) (base : Heap) (k : Nat) (x : Str) (C : Addr) : Prop where
  ex : ∃ (f : Addr) (fd : FuncData), FnOk P w K mg base CX0 k f fd ["self", "at"] (spIni C) ∧ Xi K mg x C f ∧ Binds K fd ["self", "at"] [] ∧ PySem.W.isFn K (.ref f) = true
section
variable {X : Cx}
theorem run_init {pins : List (Addr × Obj)} {σ : L2.St} {H : Hp} {s : Shared} {k : Nat} {f e C : Addr} {fd : FuncData} {i : Int} {u : Value} (F : FnOk X.prog X.w X.K X.mg X.base CX0 k f fd ["self", "at"] (spIni C)) (hr : Room (k + 1) X.A) (hb : Binds X.K fd ["self", "at"] [])
    (I : L2.Inv X pins σ H s) (hH : H e = some (.ext (ExO e C none))) (hi : i.natAbs.log2 < 1920) (r : L2.RelV (.int i) u) {Q : Value → Shared → Prop} {E : Value → Shared → Prop}
    (hq : ∀ (d : Addr) (s' : Shared), H d = none → L2.Inv X pins σ (upd (upd H d (.xd [("at", .int i)])) e (.ext (ExO e C (some d)))) s' → Q .none s') :
    wpAny (model X.prog X.w) (X.A.under (.builtin "type.__call__" ⟨[.ref C, u], []⟩)) (call (.ref f) [.ref e, u]) Q E s := by
  have r2 : Vals [V.ref e, .int i] [Value.ref e, u] := .cons rfl (.cons r .nil)
  refine wpAny_call (codeAny_mono (F.run _ X.stack _ _ ⟨[.ref e, u], []⟩ [.ref e, u] [.ref e, .int i] (fun v H3 => v = .non ∧ ∃ d, H d = none ∧ H3 = upd (upd H d (.xd [("at", .int i)])) e (.ext (ExO e C (some d)))) E0 (hr.make C [u] []) (I.env0.make C [u] []) (hb _ [.ref e, u] I.kIn rfl) r2 ⟨e, i, rfl, hH, hi, fun d hd => ⟨rfl, d, hd, rfl⟩⟩) fun r s' hq' => ?_)
  cases r with
  | error e => exact False.elim hq'
  | ok fl =>
    cases fl with
    | ret u =>
      obtain ⟨v, H', I3, rv, ev, d, hd, e3⟩ := I.after hq'
      subst ev e3
      cases (show u = Value.none from rv)
      exact hq d s' hd I3
    | next => exact False.elim hq'
    | brk => exact False.elim hq'
    | cont => exact False.elim hq'
theorem inv_drop {pins : List (Addr × Obj)} {σ : L2.St} {H H' : Hp} {s : Shared} {e : Addr} {φ : Heap → Prop} (I : L2.Inv X pins σ H s) (hH : H e = some (.ext φ)) (he : H' e = none) (hne : ∀ b, b ≠ e → H' b = H b) : L2.Inv X pins σ H' s := by
  have ne : ∀ {b : Addr} {o : HO}, H b = some o → (∀ ψ, o ≠ .ext ψ) → H' b = some o := fun {b o} hb hn => by
    rw [hne b (fun z => by subst z; rw [hH] at hb; cases hb; exact hn _ rfl)]; exact hb
  have no : ∀ b, H b = none → H' b = none := fun b hb => by
    by_cases z : b = e
    · rw [z]; exact he
    · rw [hne b z]; exact hb
  refine ⟨I.ok, I.os, I.bare, ?_, I.loc, I.cell, no _ I.free, fun x c q => no _ (I.freeC x c q), fun p hp => ?_, ?_, I.len⟩
  · have B := I.base
    refine ⟨B.keep, B.slot, fun b o q n hx => no _ (B.free b o q n hx), B.there, fun b xs q => ne (B.tups b xs q) (fun ψ z => by cases z), fun b o u q => ne (B.frzs b o u q) (fun ψ z => by cases z), fun b ps q => ?_⟩
    obtain ⟨more, z⟩ := B.tbls b ps q
    exact ⟨more, ne z (fun ψ z => by cases z)⟩
  · obtain ⟨a, b, c⟩ := I.pin p hp
    exact ⟨a, no _ b, c⟩
  · intro b o hb
    by_cases z : b = e
    · rw [z, he] at hb; cases hb
    · rw [hne b z] at hb
      exact (I.hok b o hb).stay (fun c v _ q => q) (fun c q => ne q (fun ψ z => by cases z)) fun c xs q => ne q (fun ψ z => by cases z)
end
section
variable {P : Program} {w : World} {K : PySem.W.Frag} {mg : Str → Option Value} {base : Heap} {N : List Str} {qual : Str} {scope : Scope} {f : Addr} {cd : Value} {A : Around} {outer : List Env} {s0 : Shared} {H0 : Hp} {E : XK}
theorem left_own {pins : List (Addr × Obj)} {σ : L2.St} {H : Hp} {s : Shared} {e C t : Addr} {dx : Option Addr} (I : L2.Inv (cxOf (CXe P w) P w K mg base N qual scope f cd A outer s0 H0 E) pins σ H s) (hH : H e = none) (h0 : s0.heap.get? e = none) (he : s.heap.get? e = some (exObj C dx t)) (hE : E (.ref C) dx H) :
    (cxOf (CXe P w) P w K mg base N qual scope f cd A outer s0 H0 E).xe (.ref e) s := by
  have hin : ∀ env ∈ (envOfC qual scope s0.heap.objs.size f cd :: outer), ∀ b, env.frame = some b → b ∈ e :: frs (envOfC qual scope s0.heap.objs.size f cd :: outer) := fun env he b hb => List.mem_cons_of_mem _ (List.mem_filterMap.mpr ⟨env, he, hb⟩)
  have fr0 : s.heap.FunFrames (PySem.W.hideAll s.heap (e :: frs (envOfC qual scope s0.heap.objs.size f cd :: outer))) (envOfC qual scope s0.heap.objs.size f cd :: outer) := PySem.W.funFrames_hide (base := base) I.stack hin
  have hen : (PySem.W.hideAll s.heap (e :: frs (envOfC qual scope s0.heap.objs.size f cd :: outer))).get? e = none := PySem.W.hideAll_none _ (.head _)
  refine kp_use (R := fun h2 => Heap.FlyingW (PySem.W.hideAll s.heap (e :: frs (envOfC qual scope s0.heap.objs.size f cd :: outer))) outer e (.ref C) (.ref t) h2 ∧ s.heap.UpToSlots h2) kp_leaving
    (fun Q0 hQ0 => wpAny_leaving_firstW (a0 := .ref t) I.ok.frames fr0 rfl he (fun b o q => PySem.W.of_hideAll _ q) hen rfl rfl rfl fun h' hL => ?_) (fun h2 ⟨fly, up⟩ dk => ?_)
  · obtain ⟨k1, ⟨_, _, k2⟩, k3, k4⟩ := hL
    exact hQ0 h' ⟨⟨k1, hen, k2, k3⟩, k4⟩
  refine left_fin I fr0 (fun b o q hb hn => ?_) fly up (DictAt.dk ⟨_, he, rfl⟩ dk) hE
  refine PySem.W.hideAll_get _ q fun z => ?_
  rcases List.mem_cons.mp z with z | z
  · subst z
    rcases hb with hb | hb
    · exact hb hH
    · exact hb h0
  · exact hn z
noncomputable def tRaiseI (ta : TA) (E : XK) (C : Addr) : TS := fun _ σ H => ta σ H fun vs H1 => ∃ i : Int, vs = [.int i] ∧ i.natAbs.log2 < 1920 ∧ ∀ d : Addr, H1 d = none → E (.ref C) (some d) (upd H1 d (.xd [("at", .int i)]))
theorem ps_raiseI {x : Str} {C : Addr} {k : Nat} {a : Expr} {ta : TA} {np cpos pos : Pos} (D : Di P w K mg base k x C) (hr : Room (k + 1) (cxOf (CXe P w) P w K mg base N qual scope f cd A outer s0 H0 E).A) (hg : Gl (cxOf (CXe P w) P w K mg base N qual scope f cd A outer s0 H0 E) x)
    (ha : PA (cxOf (CXe P w) P w K mg base N qual scope f cd A outer s0 H0 E) [a] ta) (hd : autoParam ((x == ("__debug__" : Str)) = false) au1_._auto_1)
    (he : autoParam (starEach [a] (envOfC qual scope s0.heap.objs.size f cd) = [(false, eval a (envOfC qual scope s0.heap.objs.size f cd))]) au0_._auto_1) :
    PS (cxOf (CXe P w) P w K mg base N qual scope f cd A outer s0 H0 E) (.Raise (some (.Call (.Name x np) [a] [] cpos)) none pos) (tRaiseI ta E C) := by
  intro pins s σ H DD I h
  obtain ⟨fI, fd, F, c, hb, hfn⟩ := D.ex
  obtain ⟨bm, nsp, nm, q, bs, sn, sub, ab, col, dd, k0, k1, k2, k3, k5, mN, hC, hN, hi, T⟩ := c.obj (show K.In base from I.ok.mod.kin)
  obtain ⟨oI, hoI, hfc⟩ := Option.map_eq_some_iff.mp (show (K.lookup fI).map (·.cls) = some (.type "function") from beq_iff_eq.mp hfn)
  have hbI : base.get? fI = some oI := (show K.In base from I.ok.mod.kin) _ _ hoI
  refine raise_own (C := C) (nm := nm) (q := q) (N := nsp) (bs := bs) (bm := bm) (hdct := true) (sn := sn) (sub := sub) (ab := ab) (col := col) (dd := dd) (k0 := k0) (k1 := k1) (k2 := k2) (k3 := k3) (k5 := k5) (mN := mN) (fI := fI) (oI := oI)
    PySem.F.excBase_ValueError (T.hasType (by decide)) (I.ok.hd rfl) ?_ hi hfc ?_
  · show (backTo cpos (starEach [a] (envOfC qual scope s0.heap.objs.size f cd))).any (·.1) = false
    rw [he]
    rfl
  refine wpAny_mono (L2.pe_glob hg c.at_ (show RelV (.ref C) (.ref C) from rfl) hd pins s σ H (fun v H1 => v = .ref C ∧ H1 = H) I ⟨rfl, rfl⟩) (fun v s1 ⟨y, H1, I1, r1, e1, e2⟩ => ?_) fun _ _ z => z
  subst e1 e2
  cases r1
  refine ⟨rfl, ?_⟩
  have hA := ha cpos pins s1 σ H1 _ I1 h
  have he' : starEach [a] (cxOf (CXe P w) P w K mg base N qual scope f cd A outer s0 H0 E).env = [(false, eval a (cxOf (CXe P w) P w K mg base N qual scope f cd A outer s0 H0 E).env)] := he
  rw [he'] at hA ⊢
  refine Calls.evalArgs_plain (wpAny_mono hA (fun us s2 ⟨vs, H2, I2, r2, i, hvs, hi2, hE⟩ => ?_) fun _ _ z => z)
  subst hvs
  have kp : ∀ b o, base.get? b = some o → s2.heap.get? b = some o := fun b o e => (I2.bs b o e).1
  obtain ⟨u, rfl, ru⟩ := vals1 r2
  refine ⟨rfl, show 1 ≤ sizeLine by decide, kp _ _ hC, hN.keeps kp, T.keeps kp, kp _ _ hbI, fun h' e hx hle => ?_⟩
  obtain ⟨t, ht, _⟩ := hx.there
  have I3 := I2.laid (h' := h') (a := e) (o := .ext (ExO e C none)) (t' := s2.toks) hx.keeps hle ⟨⟨t, ht⟩, ⟨_, ht⟩, fun g1 g2 ⟨t, z⟩ k => ⟨t, k _ z⟩⟩
  have n2 : H2 e = none := I2.hok.fresh hle
  refine run_init F hr hb I3 upd_same hi2 ru fun d s' hd I4 => ⟨rfl, ?_⟩
  have hde : d ≠ e := fun z => by rw [z, upd_same] at hd; cases hd
  rw [upd_ne hde] at hd
  obtain ⟨⟨t4, he4⟩, _⟩ := I4.hok e _ upd_same
  refine ⟨t4, some d, (I4.bs _ _ hC).1, he4, ?_⟩
  have I5 := inv_drop (H' := upd H2 d (.xd [("at", .int i)])) I4 upd_same (by rw [upd_ne (Ne.symm hde)]; exact n2) (fun b hb => by
    rw [upd_ne hb]
    by_cases z : b = d
    · rw [z, upd_same, upd_same]
    · rw [upd_ne z, upd_ne z, upd_ne hb])
  exact left_own I5 (by rw [upd_ne (Ne.symm hde)]; exact n2) (Heap.get?_none_of_le (Nat.le_trans I2.sz hle)) he4 (hE d hd)
end
end My

namespace My
open PySem PySem.Spec PyProof.Rows PySem.W
section
variable {prog : Program} {w : World} {A : Around} {E : Value → Shared → Prop} {s : Shared} {K : PySem.W.Frag} {x C : Addr} {ox : Obj} {od : Option Obj} {name : Str} {expr : Bool} {Q : Value → Shared → Prop} {v : Value}
theorem getx (X : K.In s.heap) (I : PySem.W.InstAt s.heap x ox C od) (hga : findIn K (.ref C) "__getattribute__" = some (some (.builtin "BaseException.__getattribute__"))) (hk : findIn K (.ref C) "__getattr__" = some none) (hm : mroIn K C (.type "BaseException") = some true)
    (hf : findObj K C od name = some (.value v)) (hh : handedIn v = true) (h : Q v { s with toks := s.toks + 1 }) : wpAny (model prog w) A (getAttr (.ref x) name expr) Q E s := by
  obtain ⟨hh', g, d, t, os⟩ := s
  have L0 := I.type (M := model prog w)
  have L1 := looks_findIn (M := model prog w) X hga
  have L2 := looks_find (M := model prog w) X I hf
  have FX := PySem.F.excAttr_ValueError
  unfold getAttr getAttrBy
  refine wpAny_bind (wpAny_mkText (wpAny_holding (wpAny_bind (L0.at (wpAny_bind (L1.at ?_))))))
  show wpAny _ _ (if (onTheHeap (Value.ref C) && (Value.builtin "BaseException.__getattribute__") == Value.builtin "object.__getattribute__") = true then _ else getAttrByItsOwn _ _ _ _ _ _) _ _ _
  rw [if_neg (by show ¬ ((true && _) = true); decide +kernel)]
  unfold getAttrByItsOwn
  refine wpAny_bind ((looks_hook (M := model prog w) (mc := .ref C) X (r := none) (show (if true = true then _ else _) = _ from by rw [if_pos rfl]; exact hk)).at ?_)
  refine wpAny_bind (wpAny_attempt (wpAny_holding ?_))
  unfold callGetattribute
  have sub : Looks (model prog w) hh' (isInstance (.ref x) (.type "BaseException")) true := L0.andThen (looks_mroIn X hm)
  rw [if_neg (show ¬ ((expr && onTheHeap (Value.builtin "BaseException.__getattribute__")) = true) by cases expr <;> decide)]
  unfold boundAndCalled
  have f3 := FX.ga.bind (.ref x)
  rw [f3]
  refine wpAny_bind (wpAny_pure ?_)
  refine wpAny_call (codeAny_call_builtin FX.ga.plain PySem.F.entry_bexc_ga (@check_slot (model prog w) _ _ ⟨hh', g, d, t + 1, os⟩ "BaseException.__getattribute__" "BaseException" "__getattribute__" (.ref x) [.str name t] [] _ (by decide +kernel) (by decide +kernel) sub (PySem.F.args_bexc_ga _ _) ?_))
  refine wpAny_bind (wpAny_pure (wpAny_bind (wpAny_pure (wpAny_bind (L0.at (wpAny_bind (L2.at ?_)))))))
  refine wpAny_pure ?_
  show wpAny _ _ (handedOut v) _ _ _
  rw [handedOut_of hh]
  exact wpAny_pure h
end
structure Xg (K : PySem.W.Frag) (C : Addr) : Prop where
  ga : findIn K (.ref C) "__getattribute__" = some (some (.builtin "BaseException.__getattribute__"))
  gk : findIn K (.ref C) "__getattr__" = some none
  gm : mroIn K C (.type "BaseException") = some true
end My
namespace My
open PySem PySem.Spec PyProof.Rows L2 Mth
section
variable {X : Cx}
noncomputable def tAtx (K : PySem.W.Frag) (e : Addr) (c : Value) (dx : Option Addr) (to : TE) : TE := fun σ H Q => to σ H fun x H1 => ∃ (C d : Addr) (fs : List (Str × V)) (v : V), x = .ref e ∧ c = .ref C ∧ dx = some d ∧ H1 d = some (.xd fs) ∧ fs.lookup (Str.ofString "at") = some v ∧
  Xg K C ∧ PySem.W.hasDictIn K C = true ∧ PySem.W.findIn K (.ref C) "at" = some none ∧ Q v H1
theorem pe_atx {e : Addr} {ob : Obj} {c : Value} {dx : Option Addr} {o : Expr} {to : TE} {pos : Pos} (hp : (e, ob) ∈ X.pn) (hc : ob.cls = c) (hd : ob.dict = dx) (hn : PySem.W.notCls ob = true) (ho : PE X o to) (hb : autoParam (attributeBase o "at" X.env (eval o X.env) = eval o X.env) au0_._auto_1) :
    PE X (.Attribute o "at" pos) (tAtx X.K e c dx to) := by
  intro pins s σ H Q I h
  refine attr_of hb (thn (ho pins s σ H _ I h) fun u s1 ⟨x, H1, I1, rx, C, d, fs, v, ex, ec, ed, hH, hl, hg, hh, hf, q⟩ => ?_)
  subst ex
  obtain rfl : u = Value.ref e := rx
  obtain ⟨mA, hns, hr⟩ := I1.hok d _ hH
  obtain ⟨u, hu, ru⟩ := RelO.some_of (v := v) (o := mA "at") (by rw [← hl]; exact hr "at")
  obtain ⟨od, hod, hlk⟩ := lookIn_ns hns
  have he := (I1.pin (e, ob) (List.mem_append_left _ hp)).1
  have J : PySem.W.InstAt s1.heap e ob C (some od) := ⟨he, hc.trans ec, hn, by rw [hd, ed]; exact hod⟩
  exact getx I1.kIn J hg.ga hg.gk hg.gm (PySem.W.findObj_own hh hf rfl (by rw [hlk, hu])) (handed_of ru) ⟨v, H1, I1.tok _, ru, q⟩
end
end My
namespace My
open PySem PySem.Spec PyProof.Rows L2 Mth
structure Xq (K : PySem.W.Frag) (C : Addr) : Prop where
  g : Xg K C
  hd : PySem.W.hasDictIn K C = true
  ha : PySem.W.findIn K (.ref C) "__class__" = some (some (.builtin "object.__class__"))
  hn : PySem.W.specialIn K (.builtin "object.__class__") "__get__" = some (some (.builtin "getset_descriptor.__get__"))
  htk : PySem.W.takesIn K (.builtin "object.__class__") = some true
  hm : PySem.W.mroIn K C (.type "object") = some true
section
open PySem.W
variable {prog : Program} {w : World} {A : Around} {E : Value → Shared → Prop} {s : Shared} {K : PySem.W.Frag} {x C : Addr} {ox : Obj} {od : Option Obj}
theorem findObj_dataO {a g : Value} {name : Str} (hc : (clsIn K C).isSome = true) (ha : findIn K (.ref C) name = some (some a)) (hg : specialIn K a "__get__" = some (some g)) (ht : takesIn K a = some true) : findObj K C od name = some (.bind g a) := by
  obtain ⟨cd, hc⟩ := Option.isSome_iff_exists.mp hc
  unfold findObj
  rw [hc, Option.bind_some, ha, Option.bind_some]
  simp [hg, ht]
theorem getxc {Q : Option Value → Shared → Prop} (q : Xq K C) (X : K.In s.heap) (I : PySem.W.InstAt s.heap x ox C od) (h : Q (some (.ref C)) { s with toks := s.toks + 1 }) : wpAny (model prog w) A (getAttr? (.ref x) "__class__") Q E s := by
  obtain ⟨hh', g, d, t, os⟩ := s
  have hf : findObj K C od "__class__" = some (.bind (.builtin "getset_descriptor.__get__") (.builtin "object.__class__")) := findObj_dataO (by obtain ⟨cd, hc, _⟩ := any_some q.hd; rw [hc]; rfl) q.ha q.hn q.htk
  have L0 := I.type (M := model prog w)
  have L1 := looks_findIn (M := model prog w) X q.g.ga
  have L2 := looks_find (M := model prog w) X I hf
  have FX := PySem.F.excAttr_ValueError
  unfold getAttr? getAttrBy? getAttrBy
  refine wpAny_bind (wpAny_mkText (wpAny_bind (wpAny_attempt (wpAny_holding (wpAny_bind (L0.at (wpAny_bind (L1.at ?_))))))))
  show wpAny _ _ (if (onTheHeap (Value.ref C) && (Value.builtin "BaseException.__getattribute__") == Value.builtin "object.__getattribute__") = true then _ else getAttrByItsOwn _ _ _ _ _ _) _ _ _
  rw [if_neg (by show ¬ ((true && _) = true); decide +kernel)]
  unfold getAttrByItsOwn
  refine wpAny_bind ((looks_hook (M := model prog w) (mc := .ref C) X (r := none) (show (if true = true then _ else _) = _ from by rw [if_pos rfl]; exact q.g.gk)).at ?_)
  refine wpAny_bind (wpAny_attempt (wpAny_holding ?_))
  unfold callGetattribute
  have sub : Looks (model prog w) hh' (isInstance (.ref x) (.type "BaseException")) true := L0.andThen (looks_mroIn X q.g.gm)
  rw [if_neg (show ¬ ((false && onTheHeap (Value.builtin "BaseException.__getattribute__")) = true) by decide)]
  unfold boundAndCalled
  have f3 := FX.ga.bind (.ref x)
  rw [f3]
  refine wpAny_bind (wpAny_pure ?_)
  refine wpAny_call (codeAny_call_builtin FX.ga.plain PySem.F.entry_bexc_ga (@check_slot (model prog w) _ _ ⟨hh', g, d, t + 1, os⟩ "BaseException.__getattribute__" "BaseException" "__getattribute__" (.ref x) [.str "__class__" t] [] _ (by decide +kernel) (by decide +kernel) sub (PySem.F.args_bexc_ga _ _) ?_))
  refine wpAny_bind (wpAny_pure (wpAny_bind (wpAny_pure (wpAny_bind (L0.at (wpAny_bind (L2.at ?_)))))))
  show wpAny _ _ (holding [Value.builtin "object.__class__"] (call (.builtin "getset_descriptor.__get__") [.builtin "object.__class__", .ref x, .ref C]) >>= _) _ _ _
  refine wpAny_bind (wpAny_holding (wpAny_call (class_get (s := ⟨hh', g, d, t + 1, os⟩) (ox := ox) (od := od) X I q.hm ?_)))
  refine wpAny_pure ?_
  show wpAny _ _ (handedOut (Value.ref C)) _ _ _
  rw [handedOut_of rfl]
  exact wpAny_pure (wpAny_pure h)
theorem kitx_exc (q : Xq K C) : KitX K (.ref x) (.ref C) (fun h => PySem.W.InstAt h x ox C od) where
  ty := fun _ _ _ I => I.type
  it := fun _ _ X _ => by
    obtain ⟨cdD, hcD, _⟩ := any_some q.hd
    unfold clsIn at hcD
    split at hcD
    · rename_i c' d' cd' sl' ho
      intro A' Q' E' s' k q
      unfold isType loadHead
      exact wpAny_bind (wpAny_loadPart (k _ _ (X _ _ ho)) (wpAny_pure q))
    · cases hcD
  ne := fun h tp dd its n sl X htp => by
    obtain ⟨cdD, hcD, _⟩ := any_some q.hd
    refine Bool.eq_false_iff.mpr fun q => ?_
    have e : C = tp := Value.ref.inj (beq_iff_eq.mp q)
    subst e
    unfold clsIn at hcD
    split at hcD
    · rename_i c' d' cd' sl' ho
      have z := (X _ _ ho).symm.trans htp
      cases z
    · cases hcD
  ca := fun X I k => getxc q X I k
end
inductive ClsV : V → Value → Prop
  | own (C : Addr) : ClsV (.ref C) (.ref C)
  | ty (n : String) : ClsV (.ty n) (.type n)
noncomputable def rIsq (K : PySem.W.Frag) (e : Addr) (c : Value) (dx : Option Addr) : List V → Hp → VK → Prop := fun xs H Q => ∃ (C : Addr) (y : V) (cv : Value) (b : Bool), xs = [.ref e, y] ∧ ClsV y cv ∧ c = .ref C ∧ (∀ d, dx = some d → ∃ fs, H d = some (.xd fs)) ∧ Xq K C ∧ PySem.W.kitOne K (.ref C) cv = some b ∧ Q (.bl b) H
theorem isqC {X : Cx} {e : Addr} {ob : Obj} {c : Value} {dx : Option Addr} (h : (e, ob) ∈ X.pn) (hc : ob.cls = c) (hd : ob.dict = dx) (hno : PySem.W.notCls ob = true) : CallR X (.builtin "isinstance") (rIsq X.K e c dx) := by
  intro pins s σ H xs us Q I r q
  obtain ⟨C, y, cv, b, rfl, hy, ec, hH, x, hk, q⟩ := q
  obtain ⟨u1, u2, rfl, r1, r2⟩ := vals2 r
  cases (show u1 = Value.ref e from r1)
  have hu2 : u2 = cv := by cases hy <;> exact r2
  subst hu2
  have he := (I.pin (e, ob) (List.mem_append_left _ h)).1
  cases dx with
  | none =>
    have J : PySem.W.InstAt s.heap e ob C none := ⟨he, hc.trans ec, hno, by rw [hd]; trivial⟩
    exact PySem.W.kia_one (kitx_exc x) I.kIn J hk (fun z => nomatch z) fun tk => ⟨.bl b, H, I.tok tk, rfl, q⟩
  | some d =>
    obtain ⟨fs, hH⟩ := hH d rfl
    obtain ⟨mA, hns, _⟩ := I.hok d _ hH
    obtain ⟨od, hod, hlk⟩ := lookIn_ns hns
    have J : PySem.W.InstAt s.heap e ob C (some od) := ⟨he, hc.trans ec, hno, by rw [hd]; exact hod⟩
    exact PySem.W.kia_one (kitx_exc x) I.kIn J hk (fun z => nomatch z) fun tk => ⟨.bl b, H, I.tok tk, rfl, q⟩
theorem isqK {X : Cx} (K : PySem.W.Frag) {e : Addr} {ob : Obj} {c : Value} {dx : Option Addr} (h : (e, ob) ∈ X.pn) (hc : ob.cls = c) (hd : ob.dict = dx) (hno : PySem.W.notCls ob = true) (hK : autoParam (X.K = K) au0_._auto_1) : CallR X (.builtin "isinstance") (rIsq K e c dx) := hK ▸ isqC h hc hd hno
end My

namespace Jd
open PySem PySem.Spec PyProof.Rows L2 My
section
variable {X : Cx}
theorem pe_ftext {a c : Str} {j j' : Nat} {e : Expr} {te : TE} {p1 p2 p3 pos : Pos} (he : QE X e te) (ha : autoParam (a.length ≤ 1000) au1_._auto_1) (hc : autoParam (c.length ≤ 1000) au1_._auto_1) : QE X (.JoinedStr [.Constant (.str a) j p1, .FormattedValue e (-1) none p2, .Constant (.str c) j' p3] pos) (tFtext te) := ⟨My.pe_ftext he.h ha hc⟩
theorem pe_baseInit {pl : Sem Bool} {x : Str} {Lc : Addr} {mc : Value} {a1 : Expr} {es : List Expr} {ta : TA} {np apos cpos : Pos} (hg : Gl X x) (hm : X.mg x = some (.ref Lc)) (hsp : PySem.W.specialIn X.K (.ref Lc) "__getattribute__" = some (some (.builtin "type.__getattribute__"))) (hr : PySem.W.readsIn X.K Lc mc = true)
    (hf : PySem.W.findCls X.K (.ref Lc) mc "__init__" = some (.val (.builtin "ValueError.__init__"))) (ha : QA X (a1 :: es) ta) (hd : autoParam ((x == ("__debug__" : Str)) = false) au1_._auto_1)
    (hs : autoParam (starEach (a1 :: es) X.env = (false, eval a1 X.env) :: starEach es X.env) au0_._auto_1) (hplain : autoParam ((backTo cpos (starEach es X.env)).any (·.1) = false) au0_._auto_1)
    (ht : autoParam (eval (.Call (.Attribute (.Name x np) "__init__" apos) (a1 :: es) [] cpos) X.env = (do
      let ov ← eval (.Name x np) X.env
      standAt apos.atName
      let (f, first) ← holding [ov] (getMethod ov "__init__" pl)
      callWith cpos f first (backTo cpos (starEach (a1 :: es) X.env)) (backToKw cpos (keywordEach [] X.env)))) au0_._auto_1) :
    QE X (.Call (.Attribute (.Name x np) "__init__" apos) (a1 :: es) [] cpos) (tBI X.K ta) := ⟨My.pe_baseInit (pl := pl) hg hm hsp hr hf ha.h hd hs hplain ht⟩
theorem pg_at {o : Expr} {to : TE} {pos : Pos} (ho : QE X o to) : QG X (.Attribute o "at" pos) (gAt X.K to) := ⟨My.pg_at ho.h⟩
theorem pe_atx (K : PySem.W.Frag) {e : Addr} {ob : Obj} {c : Value} {dx : Option Addr} {o : Expr} {to : TE} {pos : Pos} (ho : QE X o to) (hb : attributeBase o "at" X.env (eval o X.env) = eval o X.env) (hp : (e, ob) ∈ X.pn) (hc : ob.cls = c) (hd : ob.dict = dx) (hn : PySem.W.notCls ob = true) (hK : X.K = K) :
    QE X (.Attribute o "at" pos) (tAtx K e c dx to) := hK ▸ ⟨My.pe_atx hp hc hd hn ho.h hb⟩
end
section
variable {P : Program} {w : World} {K : PySem.W.Frag} {mg : Str → Option Value} {base : Heap} {N : List Str} {qual : Str} {scope : Scope} {f : Addr} {cd : Value} {A : Around} {outer : List Env} {s0 : Shared} {H0 : Hp} {E : XK}
theorem ps_raiseI {x : Str} {C : Addr} {k : Nat} {a : Expr} {ta : TA} {np cpos pos : Pos} (D : Di P w K mg base k x C) (hr : Room (k + 1) (cxOf (CXe P w) P w K mg base N qual scope f cd A outer s0 H0 E).A) (hg : Gl (cxOf (CXe P w) P w K mg base N qual scope f cd A outer s0 H0 E) x)
    (ha : QA (cxOf (CXe P w) P w K mg base N qual scope f cd A outer s0 H0 E) [a] ta) (hd : autoParam ((x == ("__debug__" : Str)) = false) au1_._auto_1)
    (he : autoParam (starEach [a] (envOfC qual scope s0.heap.objs.size f cd) = [(false, eval a (envOfC qual scope s0.heap.objs.size f cd))]) au0_._auto_1) :
    QS (cxOf (CXe P w) P w K mg base N qual scope f cd A outer s0 H0 E) (.Raise (some (.Call (.Name x np) [a] [] cpos)) none pos) (tRaiseI ta E C) := ⟨My.ps_raiseI D hr hg ha.h hd he⟩
end
section
variable {X : Cx} {body suite : List Stmt} {b0 : Stmt} {tb : XK → TS} {ts : Addr → Value → Option Addr → TS} {x nm : Str} {j : Nat} {Cc : Addr} {np hpos pos : Pos}
theorem ps_tryAsD (hN : X.N.Nodup) (hj : X.N[j]? = some nm) (hl : X.env.scope.names.lookup nm = some .local) (hg : Gl X x) (hm : X.mg x = some (.ref Cc)) (hfr : X.env.frame = some X.env.locals) (hstk : X.stack = X.env :: X.outer)
    (hb : ∀ (pn' : List (Addr × Obj)) (xe' : Value → Shared → Prop) (E : XK), Passes (CXe X.prog X.w) { X with pn := pn', xe := xe' } E → QSs { X with pn := pn', xe := xe' } body (tb E))
    (hs : ∀ (e : Addr) (ob : Obj) (c : Value) (dx : Option Addr) (pn' : List (Addr × Obj)), (e, ob) ∈ pn' → ob.cls = c → ob.dict = dx → PySem.W.notCls ob = true → QSs { X with A := X.A.mark (some (.ref e)), calm := false, pn := pn', xe := fun _ _ => False } (b0 :: suite) (ts e c dx)) (hd : autoParam ((x == ("__debug__" : Str)) = false) au1_._auto_1) :
    QS X (.Try body [.ExceptHandler (some (.Name x np)) (some nm) (b0 :: suite) hpos] [] [] pos) (tTryAsD X.K X.N.length j tb Cc ts) :=
  ⟨My.ps_tryAsD hN hj hl hg hm hfr hstk (fun pn' xe' E hp => (hb pn' xe' E hp).h) (fun e ob c dx pn' h1 h2 h3 h4 => (hs e ob c dx pn' h1 h2 h3 h4).h) hd⟩
end
end Jd
namespace My
open PySem PySem.Spec PyProof.Rows L2 Mth
structure Xb (K : PySem.W.Frag) (mg : Str → Option Value) (x : Str) (L : Addr) (mc : Value) : Prop where
  at_ : mg x = some (.ref L)
  sp : PySem.W.specialIn K (.ref L) "__getattribute__" = some (some (.builtin "type.__getattribute__"))
  rd : PySem.W.readsIn K L mc = true
  fd : PySem.W.findCls K (.ref L) mc "__init__" = some (.val (.builtin "ValueError.__init__"))
section
variable {σ : L2.St} {H : Hp} {Q : VK} {K : PySem.W.Frag} {ta : TA} {te to : TE}
theorem r_bi (h : ta σ H fun vs H1 => ∃ (e C fI : Addr) (x : Str) (mg : Str → Option Value) (dx : Option Addr) (v : V), vs = [.ref e, v] ∧ H1 e = some (.ext (ExO e C dx)) ∧ Xi K mg x C fI ∧ Q .non H1) : tBI K ta σ H Q := h
theorem r_ft (h : te σ H fun v H1 => ∃ i, v = .int i ∧ i.natAbs.log2 < 1920 ∧ ∀ x, Q (.str x) H1) : tFtext te σ H Q := h
theorem r_gat {v : V} {R : L2.St → Hp → Prop} (h : to σ H fun x H1 => ∃ (e C fI : Addr) (y : Str) (mg : Str → Option Value), x = .ref e ∧ H1 e = some (.ext (ExO e C none)) ∧ Xi K mg y C fI ∧ ∀ d : Addr, H1 d = none → R σ (upd (upd H1 d (.xd [("at", v)])) e (.ext (ExO e C (some d))))) : gAt K to v σ H R := h
theorem r_raiseI {E : XK} {C : Addr} {D : Ends} (h : ta σ H fun vs H1 => ∃ i : Int, vs = [.int i] ∧ i.natAbs.log2 < 1920 ∧ ∀ d : Addr, H1 d = none → E (.ref C) (some d) (upd H1 d (.xd [("at", .int i)]))) : tRaiseI ta E C D σ H := h
theorem r_tryAsD {n j : Nat} {tb : XK → TS} {Cc : Addr} {ts : Addr → Value → Option Addr → TS} {D : Ends} (h : tb (fun C dx H2 => PySem.W.exmOne K C (.ref Cc) = some true ∧ ∀ (e : Addr) (σ' : L2.St), σ'.length = n → ts e C dx { nx := fun _ _ => False, rt := D.rt } (σ'.set j (some (.ref e))) H2) D σ H) : tTryAsD K n j tb Cc ts D σ H := h
theorem r_atx {e : Addr} {c : Value} {dx : Option Addr} (h : to σ H fun x H1 => ∃ (C d : Addr) (fs : List (Str × V)) (v : V), x = .ref e ∧ c = .ref C ∧ dx = some d ∧ H1 d = some (.xd fs) ∧ fs.lookup (Str.ofString "at") = some v ∧ Xg K C ∧ PySem.W.hasDictIn K C = true ∧ PySem.W.findIn K (.ref C) "at" = some none ∧ Q v H1) : tAtx K e c dx to σ H Q := h
end
end My

namespace My
open PySem PySem.Spec PyProof.Rows L2 Mth
theorem inv_unname {X Y : Cx} {pins pins' : List (Addr × Obj)} {σ : L2.St} {H : Hp} {s : Shared} {h' : Heap} {m : Str → Option Value} {tk : Nat} {nm : Str} {j : Nat} {v : Option Value} (ok : X.Ok) (I : L2.Inv Y pins' σ H s) (hN : X.N.Nodup) (hj : X.N[j]? = some nm)
    (hm : ∀ (i : Nat) (x : Str) (v : V), X.N[i]? = some x → σ[i]? = some (some v) → Vis X.env.scope x → ∃ u, RelV v u ∧ Look X.env s.heap m x u) (hn : h'.Ns X.env.locals (fun x => if x = nm then v else m x)) (sb : Heap.SameBut X.env.locals s.heap h')
    (e1 : Y.env = X.env) (e2 : Y.s₀ = X.s₀) (e3 : Y.H₀ = X.H₀) (e4 : Y.fs = X.fs) (e5 : Y.ex = X.ex) (e6 : Y.prog = X.prog) (e7 : Y.w = X.w) (e8 : Y.N = X.N) (hp : ∀ p ∈ X.pn ++ pins, p ∈ Y.pn ++ pins') : L2.Inv X pins (σ.set j none) H { s with heap := h', toks := tk } := by
  have cn := I.cne
  refine ⟨ok, by rw [← e2]; exact I.os, I.bare, ?_, ⟨_, hn, fun i x u hi q vis => ?_⟩, fun x c q => ?_, by rw [← e1]; exact I.free, fun x c q => I.freeC x c (by rw [e1]; exact q), fun p q => ?_, ?_, by rw [List.length_set, ← e8]; exact I.len⟩
  · have b := I.base
    rw [e2, e3, e4, e5] at b
    exact un_but b fun b hb => sb.2 b (fun z => absurd (Nat.lt_of_lt_of_le hb ok.above) (by rw [z]; exact Nat.lt_irrefl _))
  · by_cases hij : i = j
    · subst hij
      rw [List.getElem?_set] at q
      split at q
      · split at q <;> cases q
      · exact absurd rfl (by assumption)
    · rw [List.getElem?_set_ne (Ne.symm hij)] at q
      obtain ⟨w', r, l⟩ := hm i x u hi q vis
      refine ⟨w', r, ?_⟩
      have xn : x ≠ nm := fun z => hij (by
        subst z
        exact (List.getElem?_inj (List.getElem?_eq_some_iff.mp hi).1 hN).mp (hi.trans hj.symm))
      rcases l with ⟨a, b⟩ | ⟨a, c, b, d⟩
      · exact .inl ⟨a, (if_neg xn).trans b⟩
      · refine .inr ⟨a, c, b, ?_⟩
        obtain ⟨o, ho, hd⟩ := d
        exact ⟨o, (sb.2 c (by rw [← e1]; exact cn x c (by rw [e1]; exact b))).trans ho, hd⟩
  · obtain ⟨v, o, ho, hd⟩ := I.cell x c (by rw [e1]; exact q)
    exact ⟨v, o, (sb.2 c (by rw [← e1]; exact cn x c (by rw [e1]; exact q))).trans ho, hd⟩
  · obtain ⟨a, b, c, d, f⟩ := I.pin p (hp p q)
    exact ⟨(sb.2 p.1 (by rw [← e1]; exact c)).trans a, b, by rw [← e1]; exact c, by rw [← e4]; exact d, f⟩
  · rw [← e6, ← e7]
    exact hok_but I.hok (by rw [← e1]; exact I.free) fun b o hb q => (sb.2 b hb).trans q
structure Landed (X : Cx) (Xe : Value → Shared → Prop) (pins pins' : List (Addr × Obj)) (σ : L2.St) (H : Hp) (B : Heap) (e t : Addr) (C : Value) (dx : Option Addr) (s : Shared) : Prop where
  fly : Heap.FlyingW B (X.env :: X.outer) e C (.ref t) s.heap
  dict : DictAt s.heap e dx
  non : H e = none
  re : ∀ h', Heap.FlyingW B (X.env :: X.outer) e C (.ref t) h' → s.heap.UpToSlots h' → L2.Inv { X with pn := X.pn ++ pins, xe := Xe } pins' σ H { s with heap := h' }
  inv : L2.Inv { X with pn := X.pn ++ pins, xe := Xe } pins' σ H s
section
variable {X : Cx} {Xe : Value → Shared → Prop} {pins pins' : List (Addr × Obj)} {σ : L2.St} {H : Hp} {B : Heap} {e t Cc : Addr} {C : Value} {dx : Option Addr} {s : Shared} {suite : List Stmt} {b0 : Stmt} {x nm : Str} {j : Nat} {np hpos : Pos} {rest : List ExceptHandler} {D : Ends} {ts : Addr → Value → Option Addr → TS} {nmo : Option Str}
theorem hand_skip {Q : Flow → Shared → Prop} (L : Landed X Xe pins pins' σ H B e t C dx s) (hg : Gl X x) (hm : X.mg x = some (.ref Cc)) (hx : PySem.W.exmOne X.K C (.ref Cc) = some false) (h : wpAny (model X.prog X.w) X.A (handleBy (.ref e) X.env rest) Q X.xe s) (hd : autoParam ((x == ("__debug__" : Str)) = false) au1_._auto_1) :
    wpAny (model X.prog X.w) X.A (handleBy (.ref e) X.env (.ExceptHandler (some (.Name x np)) nmo suite hpos :: rest)) Q X.xe s := by
  obtain ⟨ob, hob, hcls⟩ := L.fly.there
  refine wpAny_handleBy_cons ?_ (by intro q; cases q)
  refine codeAny_handlers_test ?_
  have J5m := inv_mark (Ey := fun _ _ => False) (e := e) L.inv
  refine ld_glob J5m hg hm ?_ hd
  have LT := looks_ty (M := model X.prog X.w) hob
  rw [hcls] at LT
  exact PySem.W.exm_one J5m.kIn LT hx _ _ _ _ (fun _ _ z => z) h
theorem hand_suite (L : Landed X Xe pins pins' σ H B e t C dx s) (ok : X.Ok) (hN : X.N.Nodup) (hj : X.N[j]? = some nm) (hl : X.env.scope.names.lookup nm = some .local) (hg : Gl X x) (hm : X.mg x = some (.ref Cc)) (hfr : X.env.frame = some X.env.locals) (hstk : X.stack = X.env :: X.outer) (hx : PySem.W.exmOne X.K C (.ref Cc) = some true)
    (hs : ∀ (e : Addr) (ob : Obj) (c : Value) (dx : Option Addr) (pn' : List (Addr × Obj)), (e, ob) ∈ pn' → ob.cls = c → ob.dict = dx → PySem.W.notCls ob = true → PSs { X with A := X.A.mark (some (.ref e)), calm := false, pn := pn', xe := fun _ _ => False } (b0 :: suite) (ts e c dx))
    (h : ts e C dx { nx := fun σ2 H2 => D.nx (σ2.set j none) H2, rt := D.rt } (σ.set j (some (.ref e))) H) (hd : autoParam ((x == ("__debug__" : Str)) = false) au1_._auto_1) :
    wpAny (model X.prog X.w) X.A (handleBy (.ref e) X.env (.ExceptHandler (some (.Name x np)) (some nm) (b0 :: suite) hpos :: rest)) (SP X pins D) X.xe s := by
  obtain ⟨ob, hob, hcls⟩ := L.fly.there
  refine wpAny_handleBy_cons ?_ (by intro q; cases q)
  refine codeAny_handlers_test ?_
  have J5m := inv_mark (Ey := fun _ _ => False) (e := e) L.inv
  refine ld_glob J5m hg hm ?_ hd
  have LT := looks_ty (M := model X.prog X.w) hob
  rw [hcls] at LT
  refine PySem.W.exm_one J5m.kIn LT hx _ _ _ _ (fun _ _ z => z) ?_
  refine codeAny_handlers_suite_as ?_
  refine kp_use (s := s) (R := fun h6 => Heap.FlyingW B (X.env :: X.outer) e C (.ref t) h6 ∧ s.heap.UpToSlots h6) kp_setFlight (fun Q0 hQ0 => lands_againW (s := s) L.fly fun h6 fly6 up6 => hQ0 h6 ⟨fly6, up6⟩) (fun h6 ⟨fly6, up6⟩ dk6 => ?_)
  have fly6' : Heap.FlyingW B X.stack e C (.ref t) h6 := by rw [hstk]; exact fly6
  have J6 := L.re h6 fly6 up6
  obtain ⟨ob6, vs6, _, _, _, h6e, ⟨h6c, _⟩, h6d, _⟩ := fly6.2.2.2
  have h6x : ob6.dict = dx := by
    obtain ⟨ob, a, b⟩ := L.dict.dk dk6
    have a : h6.get? e = some ob := a
    rw [h6e] at a
    cases a
    exact b
  have nfr : e ∉ frs X.stack := fun z => by
    obtain ⟨_, o, ho, hdd⟩ := fly6'.2.2.1.mem z
    rw [h6e] at ho
    cases ho
    exact hdd vs6 h6d
  have nloc : e ≠ X.env.locals := fun z => nfr (by
    rw [hstk, z]
    exact List.mem_filterMap.mpr ⟨X.env, List.mem_cons_self, hfr⟩)
  have nfs : e ∉ X.fs := fun z => nfr (by rw [hstk]; exact List.mem_filterMap.mpr (let ⟨env, he, hf⟩ := List.mem_filterMap.mp z; ⟨env, List.mem_cons_of_mem _ he, hf⟩))
  have J6m := inv_mark (Ey := fun _ _ => False) (e := e) J6
  have J6h : L2.Inv { X with A := X.A.mark (some (.ref e)), calm := false, pn := (X.pn ++ pins) ++ [(e, ob6)], xe := fun _ _ => False } pins' σ H { s with heap := h6 } :=
    ⟨⟨J6m.ok.mod, J6m.ok.kind, J6m.ok.glob, J6m.ok.blt, J6m.ok.above, J6m.ok.inj, J6m.ok.has, J6m.ok.cab, fun z => absurd z Bool.false_ne_true, J6m.ok.frames, J6m.ok.stk, J6m.ok.exf, J6m.ok.bs, J6m.ok.bsz, J6m.ok.noex, J6m.ok.exfs, J6m.ok.funs, J6m.ok.frf⟩, J6m.os, J6m.bare, J6m.base, J6m.loc, J6m.cell, J6m.free, J6m.freeC,
      fun p hp => by
        rcases List.mem_append.mp hp with z | z
        · rcases List.mem_append.mp z with y | y
          · exact J6m.pin p (List.mem_append_left _ y)
          · obtain rfl : p = (e, ob6) := by simpa using y
            exact ⟨h6e, L.non, nloc, nfs, fun v z => by rw [h6d] at z; cases z⟩
        · exact J6m.pin p (List.mem_append_right _ z), J6m.hok, J6m.len⟩
  refine store_ok (X := { X with A := X.A.mark (some (.ref e)), calm := false, pn := (X.pn ++ pins) ++ [(e, ob6)], xe := fun _ _ => False }) J6h hN hj (.inl hl) (show RelV (.ref e) (.ref e) from rfl) (fun s7 I7 => ?_) (.inr hl)
  refine wpAny_mono (hs e ob6 C dx _ (by simp) h6c h6x (by unfold PySem.W.notCls; rw [h6d]) pins' s7 _ H _ I7 h) (fun fl s8 q => ?_) fun _ _ z => z.elim
  cases fl with
  | next =>
    obtain ⟨σ3, H3, I8, q8⟩ := q
    obtain ⟨m8, hn8, hm8⟩ := id I8.loc
    refine wpAny_nameGoes_keeps (m := m8) hl hn8 (by rw [ok.kind]; rfl) fun h9 v9 hn9 sb9 => ?_
    exact ⟨_, H3, inv_unname ok I8 hN hj hm8 hn9 sb9 rfl rfl rfl rfl rfl rfl rfl rfl fun p hp => List.mem_append_left _ (List.mem_append_left _ hp), q8⟩
  | brk => exact let ⟨_, _, _, z⟩ := q; z.elim
  | cont => exact let ⟨_, _, _, z⟩ := q; z.elim
  | ret u =>
    obtain ⟨v, σ3, H3, I8, r8, q8⟩ := q
    obtain ⟨m8, hn8, hm8⟩ := id I8.loc
    refine wpAny_nameGoes_keeps (m := m8) hl hn8 (by rw [ok.kind]; rfl) fun h9 v9 hn9 sb9 => ?_
    exact ⟨v, _, H3, inv_unname ok I8 hN hj hm8 hn9 sb9 rfl rfl rfl rfl rfl rfl rfl rfl fun p hp => List.mem_append_left _ (List.mem_append_left _ hp), r8, q8⟩
theorem to_land {hs : List ExceptHandler} {ev : Value} {s1 s2 : Shared} {H1 : Hp} {E : XK} (hfr : X.env.frame = some X.env.locals) (hstk : X.stack = X.env :: X.outer) (ok : X.Ok) (I1 : L2.Inv { X with pn := X.pn ++ pins, xe := Xe } pins' σ H1 s1) (cx : CXe X.prog X.w X.stack H1 s1 E ev s2)
    (k : ∀ (e t : Addr) (C : Value) (dx : Option Addr) (H2 : Hp) (B : Heap) (s3 : Shared), ev = .ref e → Landed X Xe pins pins' σ H2 B e t C dx s3 → E C dx H2 → wpAny (model X.prog X.w) X.A (handleBy (.ref e) X.env hs) (SP X pins D) X.xe s3) :
    wpAny (model X.prog X.w) X.A (noteFrame ev X.env) (fun _ s2 => wpAny (model X.prog X.w) X.A (setFlight ev none) (fun _ s3 => wpAny (model X.prog X.w) X.A (handleBy ev X.env hs) (SP X pins D) X.xe s3) X.xe s2) X.xe s2 := by
  obtain ⟨e, t, C, H2, B, rfl, os, bare, un, hok, fly, bk, dx, hdx, hE⟩ := cx
  have J : L2.Inv { X with pn := X.pn ++ pins, xe := Xe } pins' σ H2 s2 := I1.call' (ch := []) os un hok bare fun b z => absurd z (by simp)
  have inv : ∀ h5, Heap.FlyingW B X.stack e C (.ref t) h5 → s2.heap.UpToSlots h5 → L2.Inv { X with pn := X.pn ++ pins, xe := Xe } pins' σ H2 { s2 with heap := h5 } := fun h5 fly5 up5 =>
    I1.call' (s' := { s2 with heap := h5 }) (ch := []) os (un_fly (fun b hb => hb) un fly.2.2.1 fly5.1 up5 fun b o q hb hn => bk b o q (.inr hb) hn)
      (hok_tr hok fun c v hc q => fly5.1 c v (bk c v q (.inl hc) fun z => hc (J.stkFree c z))) bare fun b z => absurd z (by simp)
  have fr : X.A.frames = some (X.env :: X.outer) := by rw [← hstk]; exact ok.frames
  have fly' : Heap.FlyingW B (X.env :: X.outer) e C (.ref t) s2.heap := by rw [← hstk]; exact fly
  refine kp_use (R := fun h4 => Heap.HeldW B (X.env :: X.outer) e C (.ref t) X.env.locals h4 ∧ s2.heap.UpToSlots h4) kp_noteFrame (fun Q0 hQ0 => wpAny_looks_onW fr hfr fly' fun h4 held up4 => hQ0 h4 ⟨held, up4⟩) (fun h4 ⟨held, up4⟩ dk4 => ?_)
  refine kp_use (R := fun h5 => Heap.FlyingW B (X.env :: X.outer) e C (.ref t) h5 ∧ h4.UpToSlots h5) kp_setFlight (fun Q0 hQ0 => wpAny_landsW held fun h5 fly5 up5 => hQ0 h5 ⟨fly5, up5⟩) (fun h5 ⟨fly5, up5⟩ dk5 => ?_)
  have fly5' : Heap.FlyingW B X.stack e C (.ref t) h5 := by rw [hstk]; exact fly5
  have ne : H2 e = none := by
    cases g : H2 e with
    | none => rfl
    | some ho =>
      obtain ⟨o, hh⟩ := obj_there (J.hok e ho g)
      obtain ⟨ob6, vs6, _, _, _, h6e, _, h6d, _⟩ := fly5.2.2.2
      have nfr : e ∉ frs X.stack := fun z => by
        obtain ⟨_, o, ho, hdd⟩ := fly5'.2.2.1.mem z
        rw [h6e] at ho
        cases ho
        exact hdd vs6 h6d
      have := bk e o hh (.inl (by rw [g]; simp)) nfr
      rw [fly.2.1] at this
      cases this
  refine k e t C dx H2 B { s2 with heap := h5 } rfl ⟨fly5, hdx.dk (dk4.trans dk5), ne, fun h' f' u' => inv h' (by rw [hstk]; exact f') ((up4.trans up5).trans u'), inv h5 fly5' (up4.trans up5)⟩ hE
end
theorem run_fnS {X : Cx} {CX : CXT} {k : Nat} {f : Addr} {fd : FuncData} {ps : List Str} {sp : Sp} {dvs : List V} {ds : List Value} {E : XK} {pins : List (Addr × Obj)} {σ : L2.St} {H : Hp} {s : Shared} {Q : VK} {us : List Value} {vs : List V} (F : FnOk X.prog X.w X.K X.mg X.base CX k f fd ps sp) (hr : Room k X.A) (hb : Binds X.K fd ps ds) (hd : Vals dvs ds) (hx : ∀ e s', CX X.stack H s E e s' → X.xe e s')
    (I : L2.Inv X pins σ H s) (r : Vals vs us) (h : sp (vs ++ dvs) H Q E) : wpAny (model X.prog X.w) X.A (call (.ref f) us) (EP X pins σ Q) X.xe s := by
  have r2 : Vals (vs ++ dvs) (us ++ ds) := r.append hd
  have hl : (us ++ ds).length = ps.length := by rw [← r2.length]; exact F.len _ _ _ _ h
  refine wpAny_call (codeAny_mono (F.run X.A X.stack s H ⟨us, []⟩ (us ++ ds) (vs ++ dvs) Q E hr I.env0 (hb s us I.kIn hl) r2 h) fun r s' hq => ?_)
  cases r with
  | error e => exact hx e s' hq
  | ok fl =>
    cases fl with
    | ret u => exact I.after hq
    | next => exact False.elim hq
    | brk => exact False.elim hq
    | cont => exact False.elim hq
noncomputable def tTry2 (K : PySem.W.Frag) (j : Nat) (sp : Sp) (ta : TA) (C1 : Addr) (t1 : Addr → Value → Option Addr → TS) (C2 : Addr) (t2 : Addr → Value → Option Addr → TS) : TS := fun D σ H =>
  ta σ H fun vs H1 => sp (vs ++ []) H1 (fun _ H2 => D.nx σ H2) fun C dx H2 =>
    (PySem.W.exmOne K C (.ref C1) = some true ∧ ∀ e : Addr, t1 e C dx { nx := fun σ2 H3 => D.nx (σ2.set j none) H3, rt := D.rt } (σ.set j (some (.ref e))) H2) ∨
    (PySem.W.exmOne K C (.ref C1) = some false ∧ PySem.W.exmOne K C (.ref C2) = some true ∧ ∀ e : Addr, t2 e C dx { nx := fun σ2 H3 => D.nx (σ2.set j none) H3, rt := D.rt } (σ.set j (some (.ref e))) H2)
section
variable {X : Cx} {k : Nat} {xf : Str} {ps : List Str} {sp : Sp} {p pos epos : Pos} {ae : Expr} {es : List Expr} {ta : TA} {x1 x2 nm : Str} {j : Nat} {C1 C2 : Addr} {b1 b2 : Stmt} {su1 su2 : List Stmt} {np1 hp1 np2 hp2 tpos : Pos} {t1 t2 : Addr → Value → Option Addr → TS}
theorem ps_try2 (F : DnX X.prog X.w X.K X.mg X.base k xf ps sp) (hr : Room k X.A) (hgf : Gl X xf) (ha : ∀ (pn' : List (Addr × Obj)) (xe' : Value → Shared → Prop), PA { X with pn := pn', xe := xe' } (ae :: es) ta)
    (hN : X.N.Nodup) (hj : X.N[j]? = some nm) (hl : X.env.scope.names.lookup nm = some .local) (hfr : X.env.frame = some X.env.locals) (hstk : X.stack = X.env :: X.outer)
    (hg1 : Gl X x1) (hm1 : X.mg x1 = some (.ref C1)) (hg2 : Gl X x2) (hm2 : X.mg x2 = some (.ref C2))
    (hs1 : ∀ (e : Addr) (ob : Obj) (c : Value) (dx : Option Addr) (pn' : List (Addr × Obj)), (e, ob) ∈ pn' → ob.cls = c → ob.dict = dx → PySem.W.notCls ob = true → PSs { X with A := X.A.mark (some (.ref e)), calm := false, pn := pn', xe := fun _ _ => False } (b1 :: su1) (t1 e c dx))
    (hs2 : ∀ (e : Addr) (ob : Obj) (c : Value) (dx : Option Addr) (pn' : List (Addr × Obj)), (e, ob) ∈ pn' → ob.cls = c → ob.dict = dx → PySem.W.notCls ob = true → PSs { X with A := X.A.mark (some (.ref e)), calm := false, pn := pn', xe := fun _ _ => False } (b2 :: su2) (t2 e c dx))
    (he : starEach (ae :: es) X.env = (false, eval ae X.env) :: starEach es X.env) (hpl : (backTo pos (starEach es X.env)).any (·.1) = false) (hsw : swapsWith (.Call (.Name xf p) (ae :: es) [] pos) none epos.line X.env = pure false)
    (hdb : autoParam ((xf == ("__debug__" : Str)) = false) au1_._auto_1) (hd1 : autoParam ((x1 == ("__debug__" : Str)) = false) au1_._auto_1) (hd2 : autoParam ((x2 == ("__debug__" : Str)) = false) au1_._auto_1) :
    PS X (.Try [.Expr (.Call (.Name xf p) (ae :: es) [] pos) epos] [.ExceptHandler (some (.Name x1 np1)) (some nm) (b1 :: su1) hp1, .ExceptHandler (some (.Name x2 np2)) (some nm) (b2 :: su2) hp2] [] [] tpos) (tTry2 X.K j sp ta C1 t1 C2 t2) := by
  intro pins s σ H D I h
  obtain ⟨f, fd, F, hmf, hkf, hbf⟩ := F.ex
  refine wpAny_Try_except ?_
  generalize hT : (fun (ev : Value) (s1 : Shared) => wpAny (model X.prog X.w) X.A (noteFrame ev X.env) (fun _ s2 => wpAny (model X.prog X.w) X.A (setFlight ev none) (fun _ s3 => wpAny (model X.prog X.w) X.A (handleBy ev X.env [.ExceptHandler (some (.Name x1 np1)) (some nm) (b1 :: su1) hp1, .ExceptHandler (some (.Name x2 np2)) (some nm) (b2 :: su2) hp2]) (SP X pins D) X.xe s3) X.xe s2) X.xe s1) = xeT
  have I' := inv_in I xeT
  have body : wpAny (model X.prog X.w) X.A (eval (.Call (.Name xf p) (ae :: es) [] pos) X.env) (EP { X with pn := X.pn ++ pins, xe := xeT } [] σ (fun _ H2 => D.nx σ H2)) xeT s := by
    refine wpAny_Call_Name_kw (ld_glob (X := { X with pn := X.pn ++ pins, xe := xeT }) I' hgf hmf ?_ hdb)
    refine PySem.W.callWith_K (h₀ := X.base) I.ok.mod.kin hkf (thn (ha _ _ pos [] s σ H _ I' h) fun us s1 ⟨vs, H1, I1, r, q⟩ => ⟨I1.kIn, ?_⟩) he hpl
    refine run_fnS (X := { X with pn := X.pn ++ pins, xe := xeT }) F hr hbf .nil (fun ev s2 cx => ?_) I1 r q
    show xeT ev s2
    subst hT
    refine to_land hfr hstk I.ok I1 cx fun e t C dx H2 B s3 hev L hE => ?_
    subst hev
    rcases hE with ⟨hx, hE⟩ | ⟨hx, hx2, hE⟩
    · exact hand_suite L I.ok hN hj hl hg1 hm1 hfr hstk hx hs1 (hE e) hd1
    · exact hand_skip L hg1 hm1 hx (hand_suite L I.ok hN hj hl hg2 hm2 hfr hstk hx2 hs2 (hE e) hd2) hd1
  refine wpAny_mono (wpAny_execs_cons (wpAny_Expr_any (Q := fun f s1 => match f with | .next => wpAny (model X.prog X.w) X.A (execs [] X.env) (SP { X with pn := X.pn ++ pins, xe := xeT } [] D) xeT s1 | f => SP { X with pn := X.pn ++ pins, xe := xeT } [] D f s1) (thn body fun v s1 ⟨y, H1, I1, r1, q1⟩ => wpAny_execs_nil ⟨σ, H1, I1, q1⟩) I.quiet hsw)) (fun fl s1 q => ?_) fun ev s1 z => ?_
  · have q' := sp_by (fun σ H J => inv_out I.ok J) q
    cases fl with
    | next => exact wpAny_execs_nil q'
    | brk => exact q'
    | cont => exact q'
    | ret u => exact q'
  · subst hT
    exact z
end
end My
namespace Jd
open PySem PySem.Spec PyProof.Rows L2 My
section
variable {X : Cx} {k : Nat} {xf : Str} {ps : List Str} {sp : Sp} {p pos epos : Pos} {ae : Expr} {es : List Expr} {ta : TA} {x1 x2 nm : Str} {j : Nat} {C1 C2 : Addr} {b1 b2 : Stmt} {su1 su2 : List Stmt} {np1 hp1 np2 hp2 tpos : Pos} {t1 t2 : Addr → Value → Option Addr → TS}
theorem ps_try2 (F : DnX X.prog X.w X.K X.mg X.base k xf ps sp) (hr : Room k X.A) (hgf : Gl X xf) (ha : ∀ (pn' : List (Addr × Obj)) (xe' : Value → Shared → Prop), QA { X with pn := pn', xe := xe' } (ae :: es) ta)
    (hN : X.N.Nodup) (hj : X.N[j]? = some nm) (hl : X.env.scope.names.lookup nm = some .local) (hfr : X.env.frame = some X.env.locals) (hstk : X.stack = X.env :: X.outer)
    (hg1 : Gl X x1) (hm1 : X.mg x1 = some (.ref C1)) (hg2 : Gl X x2) (hm2 : X.mg x2 = some (.ref C2))
    (hs1 : ∀ (e : Addr) (ob : Obj) (c : Value) (dx : Option Addr) (pn' : List (Addr × Obj)), (e, ob) ∈ pn' → ob.cls = c → ob.dict = dx → PySem.W.notCls ob = true → QSs { X with A := X.A.mark (some (.ref e)), calm := false, pn := pn', xe := fun _ _ => False } (b1 :: su1) (t1 e c dx))
    (hs2 : ∀ (e : Addr) (ob : Obj) (c : Value) (dx : Option Addr) (pn' : List (Addr × Obj)), (e, ob) ∈ pn' → ob.cls = c → ob.dict = dx → PySem.W.notCls ob = true → QSs { X with A := X.A.mark (some (.ref e)), calm := false, pn := pn', xe := fun _ _ => False } (b2 :: su2) (t2 e c dx))
    (he : starEach (ae :: es) X.env = (false, eval ae X.env) :: starEach es X.env) (hpl : (backTo pos (starEach es X.env)).any (·.1) = false) (hsw : swapsWith (.Call (.Name xf p) (ae :: es) [] pos) none epos.line X.env = pure false)
    (hdb : autoParam ((xf == ("__debug__" : Str)) = false) au1_._auto_1) (hd1 : autoParam ((x1 == ("__debug__" : Str)) = false) au1_._auto_1) (hd2 : autoParam ((x2 == ("__debug__" : Str)) = false) au1_._auto_1) :
    QS X (.Try [.Expr (.Call (.Name xf p) (ae :: es) [] pos) epos] [.ExceptHandler (some (.Name x1 np1)) (some nm) (b1 :: su1) hp1, .ExceptHandler (some (.Name x2 np2)) (some nm) (b2 :: su2) hp2] [] [] tpos) (tTry2 X.K j sp ta C1 t1 C2 t2) :=
  ⟨My.ps_try2 F hr hgf (fun pn' xe' => (ha pn' xe').h) hN hj hl hfr hstk hg1 hm1 hg2 hm2 (fun e ob c dx pn' h1 h2 h3 h4 => (hs1 e ob c dx pn' h1 h2 h3 h4).h) (fun e ob c dx pn' h1 h2 h3 h4 => (hs2 e ob c dx pn' h1 h2 h3 h4).h) he hpl hsw hdb hd1 hd2⟩
theorem pe_xi {x : Str} {pos : Pos} {C : Addr} (hg : Gl X x) (hm : X.mg x = some (.ref C)) (hd : autoParam ((x == ("__debug__" : Str)) = false) au1_._auto_1) : QE X (.Name x pos) (tC (.ref C)) := ⟨L2.pe_glob hg hm (show RelV (.ref C) (.ref C) from rfl) hd⟩
end
end Jd
namespace My
open PySem PySem.Spec PyProof.Rows L2 Mth
theorem boot_ValueError : bootBuiltins "ValueError" = some (.type "ValueError") := by decide +kernel
theorem r_try2 {K : PySem.W.Frag} {j : Nat} {sp : Sp} {ta : TA} {C1 C2 : Addr} {t1 t2 : Addr → Value → Option Addr → TS} {D : Ends} {σ : L2.St} {H : Hp} (h : ta σ H fun vs H1 => sp (vs ++ []) H1 (fun _ H2 => D.nx σ H2) fun C dx H2 =>
    (PySem.W.exmOne K C (.ref C1) = some true ∧ ∀ e : Addr, t1 e C dx { nx := fun σ2 H3 => D.nx (σ2.set j none) H3, rt := D.rt } (σ.set j (some (.ref e))) H2) ∨
    (PySem.W.exmOne K C (.ref C1) = some false ∧ PySem.W.exmOne K C (.ref C2) = some true ∧ ∀ e : Addr, t2 e C dx { nx := fun σ2 H3 => D.nx (σ2.set j none) H3, rt := D.rt } (σ.set j (some (.ref e))) H2)) : tTry2 K j sp ta C1 t1 C2 t2 D σ H := h
noncomputable def xqB (K : PySem.W.Frag) (C : Addr) : Bool :=
  PySem.W.findIn K (.ref C) "__getattribute__" == some (some (.builtin "BaseException.__getattribute__")) && (PySem.W.findIn K (.ref C) "__getattr__" == some none && (PySem.W.mroIn K C (.type "BaseException") == some true && (PySem.W.hasDictIn K C && (PySem.W.findIn K (.ref C) "__class__" == some (some (.builtin "object.__class__")) &&
  (PySem.W.specialIn K (.builtin "object.__class__") "__get__" == some (some (.builtin "getset_descriptor.__get__")) && (PySem.W.takesIn K (.builtin "object.__class__") == some true && PySem.W.mroIn K C (.type "object") == some true))))))
theorem xq_of {K : PySem.W.Frag} {C : Addr} (h : xqB K C = true) : Xq K C := by
  unfold xqB at h
  rw [Bool.and_eq_true, Bool.and_eq_true, Bool.and_eq_true, Bool.and_eq_true, Bool.and_eq_true, Bool.and_eq_true, Bool.and_eq_true] at h
  obtain ⟨a, b, c, d, e, f, g, i⟩ := h
  exact ⟨⟨beq_iff_eq.mp a, beq_iff_eq.mp b, beq_iff_eq.mp c⟩, d, beq_iff_eq.mp e, beq_iff_eq.mp f, beq_iff_eq.mp g, beq_iff_eq.mp i⟩
end My

namespace My
open PySem PySem.Spec PyProof.Rows L2 Mth
section
variable {σ : L2.St} {H : Hp} {R : It → Hp → Prop}
end
end My
namespace Jd
open PySem PySem.Spec PyProof.Rows L2 My
end Jd

namespace My
open PySem PySem.Spec PyProof.Rows L2 Mth
section
variable {X : Cx} {a : Expr} {ta : TA} {p pos : Pos} {elts : List Expr} {kt : Nat} {tpos : Pos}
end
section
variable {σ : L2.St} {H : Hp} {K : PySem.W.Frag}
end
section
variable {σ : L2.St} {H : Hp} {D : Ends}
end
section
variable {X : Cx}
end
end My
namespace Jd
open PySem PySem.Spec PyProof.Rows L2 My
end Jd

namespace My
open PySem PySem.Spec PyProof.Rows L2 Mth
section
variable {σ : L2.St} {H : Hp} {Q : VK} {K : PySem.W.Frag} {f m x : Str} {to tv : TE} {t : TA} {D : Ends} {C a dx : Addr} {fs : List (Str × V)} {fn : List Str} {mg : Str → Option Value} {v y : V} {N : Hp → Prop} {sp : Sp}
end
end My
namespace Jd
open PySem PySem.Spec PyProof.Rows L2 My
section
variable {X : Cx} {k : Nat} {x m f : Str} {ps : List Str} {sp : Sp} {p pos apos : Pos} {o e value : Expr} {es : List Expr} {to tv : TE} {t : TA} {C : Addr}
end
end Jd

namespace My
open PySem PySem.Spec PyProof.Rows L2 Mth
theorem extC {X : Cx} (K : PySem.W.Frag) {o e : Expr} {to te : TE} {apos cpos : Pos} (ho : PE X o to) (he : PE X e te) (h : autoParam (X.K = K) au0_._auto_1)
    (hbase : autoParam (attributeBase o "extend" X.env (eval o X.env) = eval o X.env) au0_._auto_1)
    (hfew : autoParam (((backTo cpos (starEach (e :: []) X.env)).all (fun x => !x.1) && (backToKw cpos (keywordEach [] X.env)).all (fun x => x.1.isSome)
      && decide ((e :: ([] : List Expr)).length + ([] : List Keyword).length + (if ([] : List Keyword).isEmpty then 0 else 1) < 30)) = true) au0_._auto_1)
    (hline : autoParam ((apos.endLine == cpos.line) = true) au0_._auto_1) (hs : autoParam (starEach (e :: []) X.env = (false, eval e X.env) :: starEach [] X.env) au0_._auto_1) (hplain : autoParam ((backTo cpos (starEach [] X.env)).any (·.1) = false) au0_._auto_1) :
    PE X (.Call (.Attribute o "extend" apos) [e] [] cpos) (tBM K "list" rExtend to (tCons te tNil)) :=
  h ▸ pe_bm PySem.F.plainAttrs_list PySem.F.slot_list_extend PySem.F.type_list_extend mt_extend ho (pa_cons he pa_nil hs) hbase hfew hline hs hplain
theorem r_ext {p b : Addr} {xs zs : List V} {H : Hp} {Q : VK} (h : H p = some (.lst xs)) (hb : H b = some (.lst zs)) (hl : xs.length + zs.length ≤ sizeLine) (q : Q .non (upd H p (.lst (xs ++ zs)))) : rExtend (.ref p) [.ref b] H Q := ⟨p, b, xs, zs, rfl, rfl, h, hb, hl, q⟩
end My
namespace Jd
open PySem PySem.Spec PyProof.Rows L2 Mth
theorem extC {X : Cx} (K : PySem.W.Frag) {o e : Expr} {to te : TE} {apos cpos : Pos} (ho : QE X o to) (he : QE X e te) (h : autoParam (X.K = K) au0_._auto_1)
    (hbase : autoParam (attributeBase o "extend" X.env (eval o X.env) = eval o X.env) au0_._auto_1)
    (hfew : autoParam (((backTo cpos (starEach (e :: []) X.env)).all (fun x => !x.1) && (backToKw cpos (keywordEach [] X.env)).all (fun x => x.1.isSome)
      && decide ((e :: ([] : List Expr)).length + ([] : List Keyword).length + (if ([] : List Keyword).isEmpty then 0 else 1) < 30)) = true) au0_._auto_1)
    (hline : autoParam ((apos.endLine == cpos.line) = true) au0_._auto_1) (hs : autoParam (starEach (e :: []) X.env = (false, eval e X.env) :: starEach [] X.env) au0_._auto_1) (hplain : autoParam ((backTo cpos (starEach [] X.env)).any (·.1) = false) au0_._auto_1) :
    QE X (.Call (.Attribute o "extend" apos) [e] [] cpos) (tBM K "list" rExtend to (tCons te tNil)) := ⟨My.extC K ho.h he.h h hbase hfew hline hs hplain⟩
end Jd
namespace L2
open PySem PySem.Spec PyProof.Rows
theorem lenS {α : Type} {n : Nat} : ∀ {us : List α}, us.length = n + 1 → ∃ (a : α) (as : List α), us = a :: as ∧ as.length = n
  | [], h => nomatch h
  | a :: as, h => ⟨a, as, rfl, Nat.succ.inj h⟩
theorem len0 {α : Type} : ∀ {us : List α}, us.length = 0 → us = []
  | [], _ => rfl
  | _ :: _, h => nomatch h
theorem Fun.binds2 {K : PySem.W.Frag} {x qual : Str} {st : Stmt} {f : Addr} {fd : FuncData} {pa pb : Str} (F : Fun K x qual st f fd) (h : ∀ (kV doc pm : Value) (an : Option Addr) (cdv ct ua ub : Value), bindArgs (PySem.W.fnOf x qual (defArgs st) (defBody st) (defScope st) .none kV doc pm an cdv ct) ⟨[ua, ub], []⟩ = pure [(pa, ua), (pb, ub)]) : Binds K fd [pa, pb] [] :=
  F.binds fun kV doc pm an cdv ct us hl => by
    obtain ⟨ua, us1, rfl, hl1⟩ := lenS (n := 1) hl
    obtain ⟨ub, us0, rfl, hl0⟩ := lenS (n := 0) hl1
    obtain rfl := len0 hl0
    exact h kV doc pm an cdv ct ua ub
theorem Fun.binds3 {K : PySem.W.Frag} {x qual : Str} {st : Stmt} {f : Addr} {fd : FuncData} {pa pb pc : Str} (F : Fun K x qual st f fd) (h : ∀ (kV doc pm : Value) (an : Option Addr) (cdv ct ua ub uc : Value), bindArgs (PySem.W.fnOf x qual (defArgs st) (defBody st) (defScope st) .none kV doc pm an cdv ct) ⟨[ua, ub, uc], []⟩ = pure [(pa, ua), (pb, ub), (pc, uc)]) : Binds K fd [pa, pb, pc] [] :=
  F.binds fun kV doc pm an cdv ct us hl => by
    obtain ⟨ua, us2, rfl, hl2⟩ := lenS (n := 2) hl
    obtain ⟨ub, us1, rfl, hl1⟩ := lenS (n := 1) hl2
    obtain ⟨uc, us0, rfl, hl0⟩ := lenS (n := 0) hl1
    obtain rfl := len0 hl0
    exact h kV doc pm an cdv ct ua ub uc
end L2
namespace My
open PySem PySem.Spec PyProof.Rows L2
end My

namespace My
open PySem PySem.Spec PyProof.Rows L2 Mth
end My
namespace Jd
open PySem PySem.Spec PyProof.Rows L2 Mth
end Jd

namespace My
open PySem PySem.Spec PyProof.Rows L2 Mth
section
variable {X : Cx} {a b : Expr} {ta : TA} {p pos : Pos} {elts : List Expr} {kt : Nat} {tpos : Pos}
end
section
variable {σ : L2.St} {H : Hp} {K : PySem.W.Frag}
end
section
variable {n : Nat} {cap : List Nat} {g : TG} {tt : TT} {te : TE} {σ : L2.St} {H : Hp} {Q : VK} {K : PySem.W.Frag}
end
end My
namespace Jd
open PySem PySem.Spec PyProof.Rows L2 My
end Jd

namespace My
open PySem PySem.Spec PyProof.Rows L2 Mth
noncomputable def Fx (K : PySem.W.Frag) (x : Str) (st : Stmt) : Prop := ∃ (f : Addr) (fd : FuncData), PySem.W.nsIn K mainGlobals x = some (some (.ref f)) ∧ Fun K x x st f fd
noncomputable def Fm (K : PySem.W.Frag) (C : Addr) (m q : Str) (st : Stmt) : Prop := ∃ (f : Addr) (fd : FuncData), PySem.W.findIn K (.ref C) m = some (some (.ref f)) ∧ PySem.W.isFn K (.ref f) = true ∧ Fun K m q st f fd
noncomputable def Fi (K : PySem.W.Frag) (C : Addr) (q : Str) (st : Stmt) : Prop := ∃ (f : Addr) (fd : FuncData), PySem.W.findIn K (.ref C) "__init__" = some (some (.ref f)) ∧ ownInit K C f = true ∧ PySem.W.isFn K (.ref f) = true ∧ Fun K "__init__" q st f fd
section
variable {K : PySem.W.Frag} {x m q : Str} {st : Stmt} {f C : Addr} {oc : Value} {od an : Option Addr} {osl : Array (Option Value)} {kV doc pm cdv ct : Value}
theorem fx_mk (a : PySem.W.nsIn K mainGlobals x = some (some (.ref f))) (l : K.lookup f = some ⟨oc, od, .func (PySem.W.fnOf x x (defArgs st) (defBody st) (defScope st) .none kV doc pm an cdv ct), osl⟩) (c : PySem.W.codeIn K cdv x = true) (k : PySem.W.keepIn K (.ref f) = true) : Fx K x st := ⟨f, _, a, fun_mk l c k⟩
theorem fi_mk (a : PySem.W.findIn K (.ref C) "__init__" = some (some (.ref f))) (o : ownInit K C f = true) (i : PySem.W.isFn K (.ref f) = true) (l : K.lookup f = some ⟨oc, od, .func (PySem.W.fnOf "__init__" q (defArgs st) (defBody st) (defScope st) .none kV doc pm an cdv ct), osl⟩) (c : PySem.W.codeIn K cdv q = true) (k : PySem.W.keepIn K (.ref f) = true) : Fi K C q st := ⟨f, _, a, o, i, fun_mk l c k⟩
theorem fm_mk (a : PySem.W.findIn K (.ref C) m = some (some (.ref f))) (i : PySem.W.isFn K (.ref f) = true) (l : K.lookup f = some ⟨oc, od, .func (PySem.W.fnOf m q (defArgs st) (defBody st) (defScope st) .none kV doc pm an cdv ct), osl⟩) (c : PySem.W.codeIn K cdv q = true) (k : PySem.W.keepIn K (.ref f) = true) : Fm K C m q st := ⟨f, _, a, i, fun_mk l c k⟩
end
section
variable (P : Program) (w : World) (base : Heap) {K : PySem.W.Frag} {mg : Str → Option Value} {h : Heap} {k : Nat} {x m q : Str} {ps : List Str} {sp : Sp} {st : Stmt} {f C : Addr} {fd : FuncData}
theorem dnm (X : K.In h) (G : h.Ns mainGlobals mg) (a : PySem.W.nsIn K mainGlobals x = some (some (.ref f))) (F : Fun K x x st f fd) (ok : FnOk P w K mg base CX0 k f fd ps sp) (b : Binds K fd ps []) : Dn P w K mg base k x ps sp := dn_mk F ok (PySem.W.mg_of X G a) b
theorem dnmX (X : K.In h) (G : h.Ns mainGlobals mg) (a : PySem.W.nsIn K mainGlobals x = some (some (.ref f))) (F : Fun K x x st f fd) (ok : FnOk P w K mg base (CXe P w) k f fd ps sp) (b : Binds K fd ps []) : DnX P w K mg base k x ps sp := dnx_mk F ok (PySem.W.mg_of X G a) b
end
end My

namespace My
open PySem PySem.Spec PyProof.Rows L2 Mth
end My
namespace Jd
open PySem PySem.Spec PyProof.Rows L2 Mth
end Jd
noncomputable abbrev J.a := @Jd.pv
noncomputable abbrev J.b := @Jd.pa_cons
noncomputable abbrev J.c := @Jd.pa_nil
noncomputable abbrev J.d := @Jd.pe_int
noncomputable abbrev J.e := @Jd.pss_cons
noncomputable abbrev J.f := @Jd.pss_one
noncomputable abbrev J.g := @Jd.pe_op
noncomputable abbrev J.h := @Jd.ps_if
noncomputable abbrev J.i := @Jd.pt_cmpR
noncomputable abbrev J.j := @Jd.pe_callB
noncomputable abbrev J.k := @Jd.pss_nil
noncomputable abbrev J.l := @Jd.ps_set
noncomputable abbrev J.m := @Jd.ps_ret
noncomputable abbrev J.n := @Jd.pe_dn
noncomputable abbrev J.o := @Jd.ps_raise
noncomputable abbrev J.p := @Jd.pe_str
noncomputable abbrev J.q := @Jd.pe_lst
noncomputable abbrev J.r := @Jd.ps_expr
namespace My
open PySem PySem.Spec PyProof.Rows L2 Mth
section
variable {σ : L2.St} {H : Hp} {Q : VK} {K : PySem.W.Frag}
end
mutual
theorem Den.up {H H' : Hp} (s : Same H H') : ∀ {v : V} {d : PyData}, Den H v d → Den H' v d
  | _, _, .non => .non
  | _, _, .bl b => .bl b
  | _, _, .int i => .int i
  | _, _, .str x => .str x
  | _, _, .tup e dd => .tup (s _ _ e) (Dens.up s dd)
  | _, _, .lst e dd => .lst (s _ _ e) (Dens.up s dd)
theorem Dens.up {H H' : Hp} (s : Same H H') : ∀ {vs : List V} {ds : List PyData}, Dens H vs ds → Dens H' vs ds
  | _, _, .nil => .nil
  | _, _, .cons d dd => .cons (Den.up s d) (Dens.up s dd)
end
end My

local macro_rules | `(tactic| walk_at "v") => `(tactic| repeat (first
  | with_reducible refine My.r_seq ?_
  | with_reducible refine My.r_set ?_
  | with_reducible refine My.r_ret ?_
  | with_reducible refine My.r_drop ?_
  | with_reducible refine My.r_if ?_
  | with_reducible refine My.r_next ?_
  | with_reducible refine My.r_cont ?_
  | with_reducible refine My.r_break ?_
  | with_reducible refine My.r_chain ?_
  | with_reducible refine My.r_chain4 ?_
  | with_reducible refine My.r_link ?_
  | with_reducible refine My.r_end ?_
  | with_reducible refine My.r_fld ?_
  | with_reducible refine My.r_sfld ?_
  | with_reducible refine My.r_meth ?_
  | with_reducible refine My.r_make ?_
  | ((with_reducible refine' My.r_var ?e1 ?_); (case e1 => rfl))
  | with_reducible refine My.r_c ?_
  | with_reducible refine My.r_op ?_
  | with_reducible refine My.r_un ?_
  | with_reducible refine My.r_I0 ?_
  | with_reducible refine My.r_U ?_
  | with_reducible refine My.r_test ?_
  | with_reducible refine My.r_B ?_
  | with_reducible refine My.r_bl ?_
  | with_reducible refine My.r_cb ?_
  | with_reducible refine My.r_cons ?_
  | with_reducible refine My.r_nil ?_
  | with_reducible refine My.r_tup ?_
  | with_reducible refine My.r_lst ?_
  | with_reducible refine My.r_call ?_
  | with_reducible refine My.r_try ?_
  | with_reducible refine My.r_tryAs ?_
  | with_reducible refine My.r_tryAsD ?_
  | with_reducible refine My.r_try2 ?_
  | with_reducible refine My.r_atx ?_
  | with_reducible refine My.r_raiseI ?_
  | with_reducible refine My.r_callX ?_
  | with_reducible refine My.r_raise ?_
  | with_reducible refine My.r_par ?_
  | with_reducible refine My.r_g ?_
  | with_reducible refine My.r_absC ?_
  | with_reducible refine My.r_bits ?_
  | with_reducible refine My.r_comp ?_
  | with_reducible refine My.r_yes ?_
  | with_reducible refine My.r_gsub ?_
  | with_reducible refine My.r_rev ?_
  | with_reducible refine My.r_max ?_
  | with_reducible refine My.r_min ?_
  | with_reducible refine My.r_two ?_
  | with_reducible refine My.r_bm ?_
  | ((with_reducible refine My.r_I ?e7 ?_); (case e7 => first | decide | assumption | exact ⟨by decide, by decide, by decide⟩ | (show (0 : Int) < _; first | decide | omega) | exact My.mulR (by decide) (by decide) | exact My.mulL (by decide) (by decide)))
  | with_reducible refine My.r_not ?_
  | with_reducible refine My.r_and ?_
  | with_reducible refine My.r_or ?_
  | with_reducible refine My.r_andV ?_
  | with_reducible refine My.r_orV ?_
  | with_reducible refine My.r_notV ?_
  | with_reducible refine My.r_ife ?_
  | ((with_reducible refine My.r_eq ?e2 ?_); (case e2 => rfl))
  | ((with_reducible refine My.r_ne ?e3 ?_); (case e3 => rfl))
  | ((with_reducible refine' My.r_t0 ?e4 ?_); (case e4 => assumption))
  | ((with_reducible refine' My.r_t1 ?e5 ?_); (case e5 => assumption))
  | ((with_reducible refine' My.r_t2 ?e6 ?_); (case e6 => assumption))
  | ((with_reducible refine' My.r_t3 ?e8 ?_); (case e8 => assumption))))
local macro_rules | `(tactic| walk_at "o") => `(tactic| first
  | assumption
  | exact Nat.le_of_lt (by assumption)
  | exact Nat.lt_trans (by assumption) (by assumption)
  | exact Nat.lt_of_lt_of_le (by assumption) (by assumption)
  | exact Nat.le_trans (by assumption) (by assumption)
  | exact Int.le_of_lt (by assumption)
  | exact Int.ne_of_gt (by assumption)
  | exact Int.ne_of_lt (by assumption)
  | exact Int.natCast_nonneg _
  | lia
  | omega)
local macro_rules | `(tactic| walk_at "fx") => `(tactic| (refine' My.fx_mk ?a ?l ?c ?k; (case a => k_is); (case l => k_is); (case c => k_is); (case k => k_is)))
local macro_rules | `(tactic| walk_at "fm") => `(tactic| (refine' My.fm_mk ?a ?i ?l ?c ?k; (case a => k_is); (case i => k_is); (case l => k_is); (case c => k_is); (case k => k_is)))
local macro_rules | `(tactic| walk_at "fi") => `(tactic| (refine' My.fi_mk ?a ?o ?i ?l ?c ?k; (case a => k_is); (case o => kernel_rfl); (case i => k_is); (case l => k_is); (case c => k_is); (case k => k_is)))
local macro_rules | `(tactic| walk_at "fz") => `(tactic| first | walk_at "fx" | walk_at "fm" | walk_at "fi" | k_is | k_exc | kts_exm | kit_is)
local macro_rules | `(tactic| walk_at "vs") => `(tactic| first
  | with_reducible refine My.r_sl ?_
  | with_reducible refine My.r_part ?_
  | with_reducible refine My.r_nopart ?_
  | with_reducible refine My.r_pi ?_)
local macro_rules | `(tactic| walk_at "vd") => `(tactic| ((walk_at "v"); (repeat ((walk_at "vs"); (walk_at "v")))))
--@skip _law_ratio
namespace Lw
open PySem L2 Mth My
noncomputable def top (i : Nat) : Stmt := PySem.Challenge.pw_lath_k17_refusals.main.body.getD i (.Pass ⟨0, 0, 0, 0⟩)
noncomputable abbrev s_law_cell : Stmt := top 16
noncomputable abbrev s_law_mix : Stmt := top 17
noncomputable abbrev s_law_row : Stmt := top 18
noncomputable abbrev s_law_number : Stmt := top 20
noncomputable abbrev s_NotARow_init : Stmt := inClass (top 3) 0
noncomputable abbrev s_NoLine_init : Stmt := inClass (top 14) 0
noncomputable abbrev s_law_thrown : Stmt := top 21
noncomputable abbrev s_law_kinds : Stmt := top 22
noncomputable abbrev s_law_place : Stmt := top 23
noncomputable abbrev s_law : Stmt := top 24
noncomputable def spCell (K : PySem.W.Frag) : Sp := fun vs H Q _ => ∃ (a : Addr) (ns : List Int) (i : Int), vs = [.ref a, .int i] ∧ SqL K H a (ns.map V.int) ∧ 0 ≤ i ∧ i < 1000 ∧ ∀ (c : Int) (H' : Hp), Same H H' → Q (.int c) H'
noncomputable def spMix : Sp := fun vs H Q _ => ∃ (c k : Int), vs = [.int c, .int k] ∧ 0 ≤ k ∧ k < 1000 ∧ ∀ z : Int, Q (.int z) H
noncomputable def spRow (K : PySem.W.Frag) : Sp := fun vs H Q _ => ∃ (a : Addr) (ns : List Int) (i : Int) (l : Addr) (zs : List Int), vs = [.ref a, .int i, .ref l] ∧ SqL K H a (ns.map V.int) ∧ 0 ≤ i ∧ i < 900 ∧ H l = some (.lst (zs.map V.int)) ∧ zs.length ≤ 900 ∧ (∀ z ∈ zs, 0 < z ∧ z < 2 ^ 60) ∧
  ∀ (p : Addr) (xs : List Int) (H' : Hp), Same H H' → H p = none → H' p = some (.lst (xs.map V.int)) → xs.length = zs.length → (∀ (j : Nat) (x z : Int), xs[j]? = some x → zs[j]? = some z → 0 ≤ x ∧ x < z) → Q (.ref p) H'
noncomputable def spNumber (K : PySem.W.Frag) : Sp := fun vs H Q _ => ∃ (a : Addr) (ns : List Int) (i : Int), vs = [.ref a, .int i] ∧ SqL K H a (ns.map V.int) ∧ 0 ≤ i ∧ i < 900 ∧ ∀ (n : Int) (H' : Hp), Same H H' → n.natAbs < 10 ^ 60 → Q (.int n) H'
structure Txt (mg : Str → Option Value) : Prop where
  len_ : mg "len" = none
  abs_ : mg "abs" = none
  range : mg "range" = none
  isinstance_ : mg "isinstance" = none
  int_ : mg "int" = none
  bool_ : mg "bool" = none
  tuple_ : mg "tuple" = none
  list_ : mg "list" = none
  max_ : mg "max" = none
  min_ : mg "min" = none
  enumerate_ : mg "enumerate" = none
  zip_ : mg "zip" = none
  all_ : mg "all" = none
  any_ : mg "any" = none
  sum_ : mg "sum" = none
  sorted_ : mg "sorted" = none
  reversed_ : mg "reversed" = none
  str_ : mg "str" = none
theorem ints_at {ns : List Int} {i : Int} (h0 : 0 ≤ i) (h : i < (ns.length : Int)) : ∃ v : Int, atI (ns.map V.int) i = some (.int v) := by
  have hk : i.toNat < ns.length := by walk_at "o"
  exact ⟨ns[i.toNat], at_ints (List.getElem?_eq_getElem hk) (by walk_at "o")⟩
theorem cut_int {ns : List Int} {lo hi : Option Int} {i : Nat} {y : V} (h : (cutV (ns.map V.int) lo hi)[i]? = some y) : ∃ m : Int, y = .int m := by
  have hm : y ∈ cutV (ns.map V.int) lo hi := List.mem_of_getElem? h
  unfold cutV at hm
  obtain ⟨m, _, e⟩ := List.mem_map.mp (List.mem_of_mem_drop (List.mem_of_mem_take hm))
  exact ⟨m, e.symm⟩
theorem abs_cast (t : Int) : (if t < 0 then -t else t) = (t.natAbs : Int) := by split <;> walk_at "o"
section
variable {P : Program} {w : World} {K : PySem.W.Frag} {mg : Str → Option Value} {base : Heap} {f : Addr} {fd : FuncData}
theorem sc_law_cell : FnScope ["_law_script", "_law_place_here", "_law_seed", "_law_cell_here"] ["_law_script", "_law_place_here"] (defScope s_law_cell) := ⟨rfl, rfl, rfl, by decide +kernel, rfl, by decide +kernel, by decide +kernel⟩
theorem ok_law_cell (F : Fun K "_law_cell" "_law_cell" s_law_cell f fd) (T : Txt mg) : FnOk P w K mg base CX0 1 f fd ["_law_script", "_law_place_here"] (spCell K) := by
  refine F.ok sc_law_cell (fun vs H Q E h => ?_) (fun cdv A outer s H vs Q E hr h => ?_)
  · obtain ⟨a, ns, i, rfl, _⟩ := h
    rfl
  obtain ⟨a, ns, i, rfl, hS, h0, h1, k⟩ := h
  refine Jd.go ⟨_, (J.e (J.h (J.i op_lt (J.a 1) (J.j (lenC K) rfl T.len_ PySem.boot_len (J.b (J.a 0) J.c st_N) (he := st_N) (hpl := any0)) (nomark _))
      (J.f (J.m (Jd.pe_ix (ixL K) (J.a 0) (J.a 1) (fun _ _ => rfl))))
      J.k)
      (J.e (J.l (i := 2) sc_law_cell.nd rfl (Or.inl rfl) J.d (hs := sw_C))
      (J.e (Jd.ps_for PassesOwn.never rfl (Jd.piL K (Jd.pe_slice (slL K) (J.a 0) Jd.po_none (Jd.po_some J.d))) (Jd.pg_name (i := 3) sc_law_cell.nd rfl (Or.inl rfl))
      (J.f (J.l (i := 2) sc_law_cell.nd rfl (Or.inl rfl) (J.g op_mod (J.g op_add (J.g op_add (J.g op_mulB (J.a 2) J.d) (J.g op_mod (J.a 3) J.d)) J.d) J.d) (hs := sw_B))))
      (J.f (J.m (J.g op_mod (J.g op_add (J.a 2) (J.g op_mulB J.d (J.a 1))) J.d)))))), ?_⟩
  walk_at "v"
  refine r_len (.inl hS) ?_
  walk_at "v"
  refine ite2 (fun c => ?_) (fun c => ?_)
  · have c' := of_decide_eq_true c
    rw [List.length_map] at c'
    obtain ⟨v, hv⟩ := ints_at (ns := ns) h0 c'
    walk_at "v"
    exact ⟨a, _, i, _, rfl, rfl, hS, hv, k v H (Same.refl _)⟩
  · walk_at "v"
    refine ⟨_, rfl, _, rfl, a, _, rfl, hS, fun p hp => ?_⟩
    have s1 : Same H (upd H p (.lst (cutV (ns.map V.int) none (some 63)))) := same_new hp _
    have e1 : upd H p (.lst (cutV (ns.map V.int) none (some 63))) p = some (.lst (cutV (ns.map V.int) none (some 63))) := upd_same
    refine ⟨p, rfl, ⟨_, SqL.of e1⟩, for_list (K := K) (a := p) (xs := cutV (ns.map V.int) none (some 63)) (fun _ σ H2 => ∃ (z : Int) (v : Option V), σ = [some (.ref a), some (.int i), some (.int z), v] ∧ 0 ≤ z ∧ z < 2147483647 ∧ Same (upd H p (.lst (cutV (ns.map V.int) none (some 63)))) H2)
      ⟨5, none, rfl, by decide, by decide, Same.refl _⟩ (fun _ σ H2 _ ⟨_, _, _, _, _, s2⟩ => SqL.of (s2 _ _ e1)) ?_ ?_⟩
    · rintro j y σ H2 hj ⟨z, v, rfl, z0, z1, s2⟩
      obtain ⟨m, rfl⟩ := cut_int hj
      walk_at "v"
      exact ⟨_, _, rfl, Int.emod_nonneg _ (by decide), Int.emod_lt_of_pos _ (by decide), s2⟩
    · rintro σ H2 ⟨z, v, rfl, z0, z1, s2⟩
      walk_at "v"
      exact k _ _ (s1.trans s2)
theorem sc_law_mix : FnScope ["_law_cell_here", "_law_k", "_law_one", "_law_two"] ["_law_cell_here", "_law_k"] (defScope s_law_mix) := ⟨rfl, rfl, rfl, by decide +kernel, rfl, by decide +kernel, by decide +kernel⟩
theorem ok_law_mix (F : Fun K "_law_mix" "_law_mix" s_law_mix f fd) : FnOk P w K mg base CX0 1 f fd ["_law_cell_here", "_law_k"] spMix := by
  refine F.ok sc_law_mix (fun vs H Q E h => ?_) (fun cdv A outer s H vs Q E hr h => ?_)
  · obtain ⟨c, k, rfl, _⟩ := h
    rfl
  obtain ⟨c, j, rfl, h0, h1, k⟩ := h
  refine Jd.go ⟨_, (J.e (J.l (i := 2) sc_law_mix.nd rfl (Or.inl rfl) (J.g op_mod (J.g op_pow (J.g op_add (J.g op_add (J.g op_mod (J.a 0) J.d) (J.g op_mulB J.d (J.a 1))) J.d) J.d) J.d) (hs := sw_B))
      (J.e (J.l (i := 3) sc_law_mix.nd rfl (Or.inl rfl) (J.g op_mod (J.g op_add (J.g op_add (J.g op_mulB (J.a 2) J.d) (J.g op_mulB (J.g op_mulB J.d (J.a 1)) (J.a 1))) J.d) J.d) (hs := sw_B))
      (J.f (J.m (J.g op_fdivB (J.a 3) J.d))))), ?_⟩
  have b0 : 0 ≤ c % 2147483629 := Int.emod_nonneg _ (by decide)
  have b1 : c % 2147483629 < 2147483629 := Int.emod_lt_of_pos _ (by decide)
  walk_at "v"
  refine r_I (show CPow _ _ from ⟨by decide, by decide, by walk_at "o"⟩) ?_
  walk_at "v"
  refine r_I (mulR (by walk_at "o") (by walk_at "o")) ?_
  walk_at "v"
  refine r_I (show CDivB _ _ from ⟨by decide, by decide +kernel⟩) ?_
  exact k _
theorem sc_law_row : FnScope ["_law_script", "_law_place_here", "_law_sizes", "_law_cell_here", "_law_left", "_law_some", "_law_k", "_law_other"] ["_law_script", "_law_place_here", "_law_sizes"] (defScope s_law_row) := ⟨rfl, rfl, rfl, by decide +kernel, rfl, by decide +kernel, by decide +kernel⟩
theorem ok_law_row (F : Fun K "_law_row" "_law_row" s_law_row f fd) (T : Txt mg) (D_law_cell : Dn P w K mg base 1 "_law_cell" ["_law_script", "_law_place_here"] (spCell K)) (D_law_mix : Dn P w K mg base 1 "_law_mix" ["_law_cell_here", "_law_k"] spMix) :
    FnOk P w K mg base CX0 3 f fd ["_law_script", "_law_place_here", "_law_sizes"] (spRow K) := by
  refine F.ok sc_law_row (fun vs H Q E h => ?_) (fun cdv A outer s H vs Q E hr h => ?_)
  · obtain ⟨a, ns, i, l, zs, rfl, _⟩ := h
    rfl
  obtain ⟨a, ns, i, l, zs, rfl, hS, h0, h1, hl, hz, hzs, k⟩ := h
  refine Jd.go ⟨_, (J.e (J.l (i := 3) sc_law_row.nd rfl (Or.inl rfl) (J.n D_law_cell (hr.mono (by decide)) rfl (J.b (J.a 0) (J.b (J.a 1) J.c st_N) st_N) (he := st_N) (hpl := (anyc st_N any0))) (hs := sw_K))
      (J.e (J.l (i := 4) sc_law_row.nd rfl (Or.inl rfl) (J.a 3) (hs := sw_N))
      (J.e (J.l (i := 5) sc_law_row.nd rfl (Or.inl rfl) (J.q J.c) (hs := sw_L))
      (J.e (Jd.ps_for PassesOwn.never rfl (Jd.pi_range1 rfl T.range (J.b (J.j (lenC K) rfl T.len_ PySem.boot_len (J.b (J.a 2) J.c st_N) (he := st_N) (hpl := any0)) J.c st_K)) (Jd.pg_name (i := 6) sc_law_row.nd rfl (Or.inl rfl))
      (J.f (J.h (J.i op_lt (J.a 3) (J.g op_pow J.d J.d) (nomark _))
      (J.f (J.r (Jd.appC K (J.a 5) (J.g op_mod (J.n D_law_mix (hr.mono (by decide)) rfl (J.b (J.a 3) (J.b (J.a 6) J.c st_N) st_N) (he := st_N) (hpl := (anyc st_N any0))) (Jd.pe_ix (ixL K) (J.a 2) (J.a 6) (fun _ _ => rfl)))) (hs := sw_K)))
      (J.f (J.h (J.i op_gt (J.a 4) J.d (nomark _))
      (J.e (J.r (Jd.appC K (J.a 5) (J.g op_mod (J.a 4) (Jd.pe_ix (ixL K) (J.a 2) (J.a 6) (fun _ _ => rfl)))) (hs := sw_K))
      (J.f (J.l (i := 4) sc_law_row.nd rfl (Or.inl rfl) (J.g op_fdivB (J.a 4) (Jd.pe_ix (ixL K) (J.a 2) (J.a 6) (fun _ _ => rfl))) (hs := sw_B))))
      (J.e (J.l (i := 7) sc_law_row.nd rfl (Or.inl rfl) (J.n D_law_cell (hr.mono (by decide)) rfl (J.b (J.a 0) (J.b (J.g op_mod (J.g op_add (J.g op_add (J.a 1) J.d) (J.a 6)) J.d) J.c st_B) st_N) (he := st_N) (hpl := (anyc st_B any0))) (hs := sw_K))
      (J.f (J.r (Jd.appC K (J.a 5) (J.g op_mod (J.n D_law_mix (hr.mono (by decide)) rfl (J.b (J.a 7) (J.b (J.a 6) J.c st_N) st_N) (he := st_N) (hpl := (anyc st_N any0))) (Jd.pe_ix (ixL K) (J.a 2) (J.a 6) (fun _ _ => rfl)))) (hs := sw_K)))))))))
      (J.f (J.m (J.a 5))))))), ?_⟩
  walk_at "v"
  refine ⟨a, ns, i, rfl, hS, h0, by walk_at "o", fun c H1 s1 => ?_⟩
  walk_at "v"
  refine r_new (mk := .lst) (by simp) fun p H2 s2 n2 e2 => ?_
  walk_at "v"
  have hl2 : H2 l = some (.lst (zs.map V.int)) := s2 _ _ (s1 _ _ hl)
  refine ⟨_, rfl, l, _, rfl, .inl (SqL.of hl2), _, rfl, by lia, by rw [List.length_map]; lia, for_range (fun j σ H3 => ∃ (left : Int) (xs : List Int) (v6 v7 : Option V),
    σ = [some (.ref a), some (.int i), some (.ref l), some (.int c), some (.int left), some (.ref p), v6, v7] ∧ Same H1 H3 ∧ H3 p = some (.lst (xs.map V.int)) ∧ xs.length = j ∧ (∀ (j : Nat) (x z : Int), xs[j]? = some x → zs[j]? = some z → 0 ≤ x ∧ x < z)) ?_ ?_ ?_⟩
  · exact ⟨c, [], none, none, rfl, s2, e2, rfl, fun j x z e _ => by simp at e⟩
  · rintro j σ H3 hj ⟨left, xs, v6, v7, rfl, s3, e3, hx, hxs⟩
    have hj' : j < zs.length := by simpa using hj
    obtain ⟨z, ez⟩ : ∃ z, zs[j]? = some z := ⟨_, List.getElem?_eq_getElem hj'⟩
    obtain ⟨zp, zq⟩ := hzs z (List.mem_of_getElem? ez)
    have hl3 : H3 l = some (.lst (zs.map V.int)) := s3 _ _ (s1 _ _ hl)
    have ea : atI (zs.map V.int) (0 + (j : Int)) = some (.int z) := at_ints ez (by walk_at "o")
    have hS3 : SqL K H3 a (ns.map V.int) := (s1.trans s3).seq hS
    -- one more item
    have fin : ∀ (y left' : Int) (v6 v7 : Option V) (H4 : Hp), Same H3 H4 → H4 p = some (.lst (xs.map V.int)) → ∃ (left : Int) (xs' : List Int) (v6' v7' : Option V),
        [some (.ref a), some (.int i), some (.ref l), some (.int c), some (.int left'), some (.ref p), v6, v7] = [some (.ref a), some (.int i), some (.ref l), some (.int c), some (.int left), some (.ref p), v6', v7'] ∧
        Same H1 (upd H4 p (.lst (xs.map V.int ++ [.int (y % z)]))) ∧ upd H4 p (.lst (xs.map V.int ++ [.int (y % z)])) p = some (.lst (xs'.map V.int)) ∧ xs'.length = j + 1 ∧ (∀ (j : Nat) (x z : Int), xs'[j]? = some x → zs[j]? = some z → 0 ≤ x ∧ x < z) := by
      intro y left' v6 v7 H4 s4 e4
      refine ⟨left', xs ++ [y % z], v6, v7, rfl, same_at (s3.trans s4) n2, ?_, by rw [List.length_append, hx]; rfl, fun m x z' e1 e2 => ?_⟩
      · rw [upd_same, List.map_append]; rfl
      · by_cases hm : m < xs.length
        · rw [List.getElem?_append_left hm] at e1
          exact hxs m x z' e1 e2
        · have hm2 : m = j := by
            have := (List.getElem?_eq_some_iff.mp e1).1
            rw [List.length_append] at this
            simp at this
            walk_at "o"
          subst hm2
          rw [List.getElem?_append_right (by walk_at "o"), hx] at e1
          simp at e1
          rw [ez] at e2
          cases e2
          subst e1
          exact ⟨Int.emod_nonneg _ (by walk_at "o"), Int.emod_lt_of_pos _ zp⟩
    have small3 : (xs.map V.int).length < sizeLine := by rw [List.length_map]; exact small1000 (by walk_at "o")
    walk_at "v"
    refine ite2 (fun _ => ?_) (fun _ => ?_)
    · walk_at "v"
      refine ⟨.inl ⟨rfl, _, SqL.of e3⟩, ?_⟩
      walk_at "v"
      refine ⟨_, _, rfl, by walk_at "o", by walk_at "o", fun y => ?_⟩
      walk_at "v"
      refine r_l hl3 ea ?_
      refine r_I (show (0 : Int) < z from zp) ?_
      walk_at "v"
      refine r_app e3 small3 ?_
      exact fin y _ _ _ _ (Same.refl _) e3
    · walk_at "v"
      refine ite2 (fun _ => ?_) (fun _ => ?_)
      · walk_at "v"
        refine ⟨.inl ⟨rfl, _, SqL.of e3⟩, ?_⟩
        walk_at "v"
        refine r_l hl3 ea ?_
        refine r_I (show (0 : Int) < z from zp) ?_
        walk_at "v"
        refine r_app e3 small3 ?_
        walk_at "v"
        refine r_l (by rw [upd_ne (ne_of_none (s1 _ _ hl) n2)]; exact hl3) ea ?_
        refine r_I (show CDivB _ _ from ⟨by walk_at "o", Sz.log (m := 60) (Sz.of_lt (k := 2 ^ 60) (by walk_at "o") (Nat.le_refl _)) (by decide) (by decide)⟩) ?_
        exact fin left _ _ _ _ (Same.refl _) e3
      · walk_at "v"
        have q0 : 0 ≤ (i + 1 + (0 + (j : Int))) % 63 := Int.emod_nonneg _ (by decide)
        have q1 : (i + 1 + (0 + (j : Int))) % 63 < 63 := Int.emod_lt_of_pos _ (by decide)
        refine ⟨a, ns, _, rfl, hS3, q0, by walk_at "o", fun c2 H4 s4 => ?_⟩
        walk_at "v"
        refine ⟨.inl ⟨rfl, _, SqL.of (s4 _ _ e3)⟩, ?_⟩
        walk_at "v"
        refine ⟨_, _, rfl, by walk_at "o", by walk_at "o", fun y => ?_⟩
        walk_at "v"
        refine r_l (s4 _ _ hl3) ea ?_
        refine r_I (show (0 : Int) < z from zp) ?_
        walk_at "v"
        refine r_app (s4 _ _ e3) small3 ?_
        exact fin y _ _ _ _ s4 (s4 _ _ e3)
  · rintro σ H3 ⟨left, xs, v6, v7, rfl, s3, e3, hx, hxs⟩
    walk_at "v"
    exact k p xs H3 (s1.trans s3) (s1.free n2) e3 (by simpa using hx) hxs
theorem sc_law_number : FnScope ["_law_script", "_law_place_here", "_law_some", "_law_number_here", "_law_k"] ["_law_script", "_law_place_here"] (defScope s_law_number) := ⟨rfl, rfl, rfl, by decide +kernel, rfl, by decide +kernel, by decide +kernel⟩
theorem num_step {n x : Int} {j : Nat} (h0 : 0 ≤ n) (h1 : n < 10 ^ (6 * j)) (x0 : 0 ≤ x) (x1 : x < 1000000) : 0 ≤ n * 1000000 + x ∧ n * 1000000 + x < 10 ^ (6 * (j + 1)) := by
  have e : (10 : Int) ^ (6 * (j + 1)) = 10 ^ (6 * j) * 1000000 := by
    rw [Nat.mul_add, Int.pow_add]
    rfl
  rw [e]
  generalize (10 : Int) ^ (6 * j) = B at *
  walk_at "o"
theorem num_end {n : Int} {j : Nat} (h0 : 0 ≤ n) (h1 : n < 10 ^ (6 * j)) (hj : j ≤ 10) : n.natAbs < 10 ^ 60 := by
  have e : (10 : Nat) ^ (6 * j) ≤ 10 ^ 60 := Nat.pow_le_pow_right (by decide) (by walk_at "o")
  have e2 : ((10 ^ (6 * j) : Nat) : Int) = (10 : Int) ^ (6 * j) := by rw [Int.natCast_pow]; rfl
  rw [← e2] at h1
  generalize (10 : Nat) ^ (6 * j) = B at *
  generalize (10 : Nat) ^ 60 = C at *
  walk_at "o"
theorem ok_law_number (F : Fun K "_law_number" "_law_number" s_law_number f fd) (T : Txt mg) (D_law_row : Dn P w K mg base 3 "_law_row" ["_law_script", "_law_place_here", "_law_sizes"] (spRow K)) : FnOk P w K mg base CX0 4 f fd ["_law_script", "_law_place_here"] (spNumber K) := by
  refine F.ok sc_law_number (fun vs H Q E h => ?_) (fun cdv A outer s H vs Q E hr h => ?_)
  · obtain ⟨a, ns, i, rfl, _⟩ := h
    rfl
  obtain ⟨a, ns, i, rfl, hS, h0, h1, k⟩ := h
  refine Jd.go ⟨_, (J.e (J.l (i := 2) sc_law_number.nd rfl (Or.inl rfl) (J.n D_law_row (hr.mono (by decide)) rfl (J.b (J.a 0) (J.b (J.a 1) (J.b (J.g op_cat (J.q (J.b J.d (J.b J.d (J.b J.d J.c st_C) st_C) st_C)) (J.g op_rep (J.q (J.b (J.g op_pow J.d J.d) J.c st_B)) J.d)) J.c st_B) st_N) st_N) (he := st_N) (hpl := (anyc st_N (anyc st_B any0)))) (hs := sw_K))
      (J.e (J.l (i := 3) sc_law_number.nd rfl (Or.inl rfl) J.d (hs := sw_C))
      (J.e (Jd.ps_for PassesOwn.never rfl (Jd.pi_range1 rfl T.range (J.b (Jd.pe_ix (ixL K) (J.a 2) J.d (fun _ _ => rfl)) J.c st_S)) (Jd.pg_name (i := 4) sc_law_number.nd rfl (Or.inl rfl))
      (J.f (J.l (i := 3) sc_law_number.nd rfl (Or.inl rfl) (J.g op_add (J.g op_mulB (J.a 3) (J.g op_pow J.d J.d)) (Jd.pe_ix (ixL K) (J.a 2) (J.g op_add (J.a 4) J.d) (fun _ _ => rfl))) (hs := sw_B))))
      (J.e (J.h (J.i op_lt (Jd.pe_ix (ixL K) (J.a 2) J.d (fun _ _ => rfl)) J.d (nomark _))
      (J.f (J.l (i := 3) sc_law_number.nd rfl (Or.inl rfl) (J.g op_mod (J.a 3) (Jd.pe_ix (ixL K) (J.q (J.b J.d (J.b J.d J.c st_C) st_C)) (Jd.pe_ix (ixL K) (J.a 2) J.d (fun _ _ => rfl)) (fun _ _ => rfl))) (hs := sw_B)))
      J.k)
      (J.e (J.h (J.i op_eq (Jd.pe_ix (ixL K) (J.a 2) J.d (fun _ _ => rfl)) J.d (nomark _))
      (J.f (J.m (Jd.pe_un un_neg (J.a 3))))
      J.k)
      (J.f (J.m (J.a 3)))))))), ?_⟩
  walk_at "v"
  refine r_new (mk := .lst) (by simp) fun p1 H1 s1 n1 e1 => ?_
  walk_at "v"
  refine r_new (mk := .lst) (by simp) fun p2 H2 s2 n2 e2 => ?_
  walk_at "v"
  refine ⟨p2, _, _, rfl, rfl, e2, by decide, by decide, by decide, fun p3 n3 => ?_⟩
  have s3 := same_new n3 (.lst (List.replicate (10 : Int).toNat [V.int ((10 : Int) ^ (6 : Int).toNat)]).flatten)
  have e3 : upd H2 p3 (.lst (List.replicate (10 : Int).toNat [V.int ((10 : Int) ^ (6 : Int).toNat)]).flatten) p3 = some (.lst (List.replicate (10 : Int).toNat [V.int ((10 : Int) ^ (6 : Int).toNat)]).flatten) := upd_same
  refine ⟨p1, p3, _, _, rfl, rfl, s3 _ _ (s2 _ _ e1), e3, by decide, fun p4 n4 => ?_⟩
  have s4 := same_new n4 (.lst ([V.int 2, .int 4, .int 11] ++ (List.replicate (10 : Int).toNat [V.int ((10 : Int) ^ (6 : Int).toNat)]).flatten))
  have s14 := s1.trans (s2.trans (s3.trans s4))
  refine ⟨a, ns, i, p4, [2, 4, 11] ++ List.replicate 10 ((10 : Int) ^ (6 : Int).toNat), rfl, s14.seq hS, h0, h1, upd_same, by decide, ?_, fun p xs H5 s5 n5 e5 hlen hxs => ?_⟩
  · decide
  have get : ∀ (j : Nat) (z : Int), ([2, 4, 11] ++ List.replicate 10 ((10 : Int) ^ (6 : Int).toNat))[j]? = some z → ∃ x, xs[j]? = some x ∧ 0 ≤ x ∧ x < z := fun j z ez => by
    have hj := (List.getElem?_eq_some_iff.mp ez).1
    rw [← hlen] at hj
    exact ⟨xs[j], List.getElem?_eq_getElem hj, hxs j _ z (List.getElem?_eq_getElem hj) ez⟩
  obtain ⟨x0, g0, l0, u0⟩ := get 0 2 rfl
  obtain ⟨x1, g1, l1, u1⟩ := get 1 4 rfl
  obtain ⟨x2, g2, l2, u2⟩ := get 2 11 rfl
  have s05 : Same H H5 := s14.trans s5
  walk_at "v"
  refine ⟨_, rfl, p, _, _, _, rfl, rfl, SqL.of e5, at_ints g2 rfl, _, rfl, by lia, by lia, for_range (fun j σ H6 => H6 = H5 ∧ ∃ (n : Int) (v : Option V), σ = [some (.ref a), some (.int i), some (.ref p), some (.int n), v] ∧ 0 ≤ n ∧ n < 10 ^ (6 * j)) ?_ ?_ ?_⟩
  · exact ⟨rfl, 0, none, rfl, by decide, by decide⟩
  · rintro j σ H6 hj ⟨rfl, n, v, rfl, q0, q1⟩
    have hj' : j < 10 := by walk_at "o"
    obtain ⟨x, g, lx, ux⟩ : ∃ x, xs[j + 3]? = some x ∧ 0 ≤ x ∧ x < 1000000 := by
      obtain ⟨x, g, lx, ux⟩ := get (j + 3) ((10 : Int) ^ (6 : Int).toNat) (by
        have : ∀ m : Nat, m < 10 → ([2, 4, 11] ++ List.replicate 10 ((10 : Int) ^ (6 : Int).toNat))[m + 3]? = some ((10 : Int) ^ (6 : Int).toNat) := by decide
        exact this j hj')
      exact ⟨x, g, lx, ux⟩
    walk_at "v"
    refine r_l e5 (at_ints g (by walk_at "o")) ?_
    walk_at "v"
    exact ⟨rfl, _, _, rfl, num_step q0 q1 lx ux⟩
  · rintro σ H6 ⟨rfl, n, v, rfl, q0, q1⟩
    have nb : n.natAbs < 10 ^ 60 := num_end q0 q1 (by walk_at "o")
    walk_at "v"
    refine r_l e5 (at_ints g1 rfl) ?_
    walk_at "v"
    -- the sign, at the end of either way
    have fin : ∀ (n : Int) (H7 : Hp) (v : Option V) (rest : TS), False → True := fun _ _ _ _ _ => trivial
    refine ite2 (fun c => ?_) (fun c => ?_)
    · have c' : x1 < 2 := of_decide_eq_true c
      walk_at "v"
      refine r_new (mk := .lst) (by simp) fun p7 H7 s7 n7 e7 => ?_
      walk_at "v"
      refine r_l (s7 _ _ e5) (at_ints g1 rfl) ?_
      obtain ⟨d, ed, d0, d1⟩ : ∃ d : Int, atI [V.int 7, .int 1000] x1 = some (.int d) ∧ 0 < d ∧ d ≤ 1000 := by
        rcases (show x1 = 0 ∨ x1 = 1 by walk_at "o") with rfl | rfl
        · exact ⟨7, at0, by decide, by decide⟩
        · exact ⟨1000, at1, by decide, by decide⟩
      refine r_l e7 ed ?_
      refine r_I (show (0 : Int) < d from d0) ?_
      have m0 : 0 ≤ n % d := Int.emod_nonneg _ (by walk_at "o")
      have m1 : n % d < d := Int.emod_lt_of_pos _ d0
      have mb : (n % d).natAbs < 10 ^ 60 := Nat.lt_of_lt_of_le (show (n % d).natAbs < 1001 by walk_at "o") (by decide)
      walk_at "v"
      refine r_l (s7 _ _ e5) (at_ints g0 rfl) ?_
      walk_at "v"
      refine ite2 (fun _ => ?_) (fun _ => ?_)
      · walk_at "v"
        exact k _ _ (s05.trans s7) (by rw [Int.natAbs_neg]; exact mb)
      · walk_at "v"
        exact k _ _ (s05.trans s7) mb
    · walk_at "v"
      refine r_l e5 (at_ints g0 rfl) ?_
      walk_at "v"
      refine ite2 (fun _ => ?_) (fun _ => ?_)
      · walk_at "v"
        exact k _ _ s05 (by rw [Int.natAbs_neg]; exact nb)
      · walk_at "v"
        exact k _ _ s05 nb
end

section
variable {P : Program} {w : World} {K : PySem.W.Frag} {mg : Str → Option Value} {base : Heap} {f C Lc : Addr} {fd : FuncData} {x : Str} {mc : Value}
theorem sc_NotARow_init : FnScope ["self", "at"] ["self", "at"] (defScope s_NotARow_init) := ⟨rfl, rfl, rfl, by decide +kernel, rfl, by decide +kernel, by decide +kernel⟩
theorem ok_NotARow_init (F : Fun K "__init__" "NotARow.__init__" s_NotARow_init f fd) (XI_NotARow : Xi K mg x C f) (XB_LathError : Xb K mg "LathError" Lc mc) : FnOk P w K mg base CX0 1 f fd ["self", "at"] (spIni C) := by
  refine F.ok sc_NotARow_init (fun vs H Q E h => ?_) (fun cdv A outer s H vs Q E hr h => ?_)
  · obtain ⟨e, i, rfl, _⟩ := h
    rfl
  obtain ⟨e, i, rfl, hH, hi, k⟩ := h
  refine Jd.go ⟨_, (J.e (J.r (Jd.pe_baseInit (pl := _) rfl XB_LathError.at_ XB_LathError.sp XB_LathError.rd XB_LathError.fd (J.b (J.a 0) (J.b (Jd.pe_ftext (J.a 1)) J.c) st_N)) (hs := sw_K))
      (J.f (Jd.ps_asg (J.a 1) (Jd.pg_at (J.a 0))))), ?_⟩
  walk_at "v"
  refine r_bi ?_
  walk_at "v"
  refine r_ft ?_
  walk_at "v"
  refine ⟨i, rfl, hi, fun tx => ?_⟩
  walk_at "v"
  refine ⟨e, C, f, x, mg, none, _, rfl, hH, XI_NotARow, ?_⟩
  with_reducible refine r_asg ?_
  walk_at "v"
  refine r_gat ?_
  walk_at "v"
  exact ⟨e, C, f, x, mg, rfl, hH, XI_NotARow, fun d hd => k d hd⟩
end

section
variable {P : Program} {w : World} {K : PySem.W.Frag} {mg : Str → Option Value} {base : Heap} {f C Lc : Addr} {fd : FuncData} {x : Str} {mc : Value}
theorem sc_NoLine_init : FnScope ["self", "at"] ["self", "at"] (defScope s_NoLine_init) := ⟨rfl, rfl, rfl, by decide +kernel, rfl, by decide +kernel, by decide +kernel⟩
theorem ok_NoLine_init (F : Fun K "__init__" "NoLine.__init__" s_NoLine_init f fd) (XI_NoLine : Xi K mg x C f) (XB_LathError : Xb K mg "LathError" Lc mc) : FnOk P w K mg base CX0 1 f fd ["self", "at"] (spIni C) := by
  refine F.ok sc_NoLine_init (fun vs H Q E h => ?_) (fun cdv A outer s H vs Q E hr h => ?_)
  · obtain ⟨e, i, rfl, _⟩ := h
    rfl
  obtain ⟨e, i, rfl, hH, hi, k⟩ := h
  refine Jd.go ⟨_, (J.e (J.r (Jd.pe_baseInit (pl := _) rfl XB_LathError.at_ XB_LathError.sp XB_LathError.rd XB_LathError.fd (J.b (J.a 0) (J.b (Jd.pe_ftext (J.a 1)) J.c) st_N)) (hs := sw_K))
      (J.f (Jd.ps_asg (J.a 1) (Jd.pg_at (J.a 0))))), ?_⟩
  walk_at "v"
  refine r_bi ?_
  walk_at "v"
  refine r_ft ?_
  walk_at "v"
  refine ⟨i, rfl, hi, fun tx => ?_⟩
  walk_at "v"
  refine ⟨e, C, f, x, mg, none, _, rfl, hH, XI_NoLine, ?_⟩
  with_reducible refine r_asg ?_
  walk_at "v"
  refine r_gat ?_
  walk_at "v"
  exact ⟨e, C, f, x, mg, rfl, hH, XI_NoLine, fun d hd => k d hd⟩
end

noncomputable def CsOk (K : PySem.W.Frag) (L : Addr) (cs : List Addr) (ds : List Value) : Prop := ∀ (i : Nat) (C : Addr), cs[i]? = some C → Xq K C ∧ PySem.W.exmOne K (.ref C) (.ref L) = some true ∧ ∀ (k : Nat) (d : Value) (b : Bool), ds[k]? = some d → (if k < 13 then (i == k) else true) = b → PySem.W.kitOne K (.ref C) d = some b
theorem csOk {K : PySem.W.Frag} {L : Addr} {cs : List Addr} {ds : List Value} (hc : cs.length = 14) (hd : ds.length = 14) (h1 : List.all cs (xqB K) = true) (h2 : List.map (fun C => List.map (PySem.W.kitOne K (.ref C)) ds) cs = List.map (fun i => List.map (fun k => some (i == k)) (List.range 13) ++ [some true]) (List.range 14))
    (h3 : List.map (fun C => PySem.W.exmOne K (.ref C) (.ref L)) cs = List.replicate 14 (some true)) : CsOk K L cs ds := by
  intro i C hi
  have hi' := (List.getElem?_eq_some_iff.mp hi).1
  refine ⟨xq_of (List.all_eq_true.mp h1 C (List.mem_of_getElem? hi)), ?_, fun k d b hk hb => ?_⟩
  · have e : (List.map (fun C => PySem.W.exmOne K (.ref C) (.ref L)) cs)[i]? = some (PySem.W.exmOne K (.ref C) (.ref L)) := by rw [List.getElem?_map, hi]; rfl
    rw [h3, List.getElem?_replicate, if_pos (by omega)] at e
    exact (Option.some.inj e).symm
  · have hk' := (List.getElem?_eq_some_iff.mp hk).1
    have e : (List.map (fun C => List.map (PySem.W.kitOne K (.ref C)) ds) cs)[i]? = some (List.map (PySem.W.kitOne K (.ref C)) ds) := by rw [List.getElem?_map, hi]; rfl
    rw [h2, List.getElem?_map, List.getElem?_range (by omega)] at e
    have e2 : (List.map (fun k => some (i == k)) (List.range 13) ++ [some true])[k]? = some (PySem.W.kitOne K (.ref C) d) := by
      have e := Option.some.inj e
      dsimp only at e
      rw [e, List.getElem?_map, hk]
      rfl
    subst hb
    by_cases z : k < 13
    · rw [if_pos z]
      rw [List.getElem?_append_left (by simpa using z), List.getElem?_map, List.getElem?_range z] at e2
      exact (Option.some.inj e2).symm
    · rw [if_neg z]
      have : k = 13 := by omega
      subst this
      exact (Option.some.inj e2).symm
theorem grown {H H' : Hp} {S : Addr} {o : HO} {ys : List V} (s : Same H H') (n : H S = none) (e : H' S = some (.lst ys)) : ∃ G, Same H G ∧ G S = some o ∧ G = upd H' S o := ⟨_, same_at s n, upd_same, rfl⟩
theorem big_log {i : Int} (h : i.natAbs < 10 ^ 60) : i.natAbs.log2 < 1920 := by
  by_cases z : i.natAbs = 0
  · rw [z]; decide
  · exact (Nat.log2_lt z).mpr (Nat.lt_of_lt_of_le h (by decide +kernel))
theorem bdens {H : Hp} : ∀ bs : List Bool, Dens H (bs.map V.bl) (bs.map PyData.bool)
  | [] => .nil
  | b :: bs => .cons (.bl b) (bdens bs)
theorem beqv : ∀ bs : List Bool, PyData.eqvAll (bs.map PyData.bool) (bs.map PyData.bool) = true
  | [] => rfl
  | b :: bs => by
    show (PyData.eqv (.bool b) (.bool b) && PyData.eqvAll (bs.map PyData.bool) (bs.map PyData.bool)) = true
    rw [beqv bs]
    cases b <;> rfl
theorem bshape : ∀ bs : List Bool, PyData.canLayAll0 (bs.map PyData.bool) = true ∧ PyData.depthAll (bs.map PyData.bool) ≤ 3
  | [] => ⟨rfl, by decide⟩
  | b :: bs => by
    obtain ⟨c, d⟩ := bshape bs
    refine ⟨?_, ?_⟩
    · show ((PyData.bool b).canLay0 && PyData.canLayAll0 (bs.map PyData.bool)) = true
      rw [c]; rfl
    · show max (PyData.bool b).depth (PyData.depthAll (bs.map PyData.bool)) ≤ 3
      have : (PyData.bool b).depth ≤ 3 := by cases b <;> decide
      omega
theorem bshaped (bs : List Bool) : SeqAt.shaped (.list (bs.map PyData.bool)) = true := by
  obtain ⟨a, b⟩ := bshape bs
  unfold SeqAt.shaped
  rw [Bool.and_eq_true]
  refine ⟨a, decide_eq_true ?_⟩
  show PyData.depthAll (bs.map PyData.bool) + 1 ≤ 64
  omega
theorem bools_ne {H : Hp} {l l' : Addr} {bs : List Bool} {Q : VK} (hl : H l = some (.lst (bs.map V.bl))) (hl' : H l' = some (.lst (bs.map V.bl))) (q : Q (.bl false) H) : rNeD (.ref l) (.ref l') H Q := by
  refine ⟨_, _, .lst hl (bdens bs), .lst hl' (bdens bs), bshaped _, bshaped _, ?_⟩
  have : PyData.eqv (.list (bs.map PyData.bool)) (.list (bs.map PyData.bool)) = true := beqv _
  rw [this]
  exact q
noncomputable def spThrown (cs : List Addr) : Sp := fun vs H Q E => ∃ (i : Nat) (at_ : Int) (C : Addr), vs = [.int (i : Int), .int at_] ∧ i < 14 ∧ at_.natAbs.log2 < 1920 ∧ cs[i]? = some C ∧ ((i = 1 ∨ i = 12) → ∀ d : Addr, H d = none → E (.ref C) (some d) (upd H d (.xd [("at", .int at_)]))) ∧ (¬ (i = 1 ∨ i = 12) → E (.ref C) none H)
noncomputable def spKinds : Sp := fun vs H Q _ => ∃ (i : Nat) (at_ : Int), vs = [.int (i : Int), .int at_] ∧ i < 14 ∧ at_.natAbs.log2 < 1920 ∧ ∀ (l : Addr) (H' : Hp), Same H H' → H' l = some (.lst ((List.range 13).map fun k => .bl (i == k))) → Q (.ref l) H'
noncomputable def spPlace : Sp := fun vs H Q _ => ∃ (i : Nat) (at_ : Int), vs = [.int (i : Int), .int at_] ∧ (i = 1 ∨ i = 12) ∧ at_.natAbs.log2 < 1920 ∧ ∀ H', Same H H' → Q (.bl true) H'
noncomputable def spLaw (K : PySem.W.Frag) : Sp := fun vs H Q _ => ∃ (a : Addr) (ns : List Int), vs = [.ref a] ∧ SqL K H a (ns.map V.int) ∧ ns.length ≤ 63 ∧ ∀ H', Q (.bl true) H'
section
variable {P : Program} {w : World} {K : PySem.W.Frag} {mg : Str → Option Value} {base : Heap} {f c_NoRatio c_NotARow c_NoWay c_NoBound c_TooFew c_Closed c_Settled c_Taken c_Missing c_Full c_NoPair c_NoWord c_NoLine c_LathError fI fJ : Addr} {fd : FuncData}
theorem sc_law_thrown : FnScope ["_law_which", "_law_at"] ["_law_which", "_law_at"] (defScope s_law_thrown) := ⟨rfl, rfl, rfl, by decide +kernel, rfl, by decide +kernel, by decide +kernel⟩
theorem okX_law_thrown (F : Fun K "_law_thrown" "_law_thrown" s_law_thrown f fd) (X_NoRatio : Xc K mg "NoRatio" c_NoRatio) (X_NoWay : Xc K mg "NoWay" c_NoWay) (X_NoBound : Xc K mg "NoBound" c_NoBound) (X_TooFew : Xc K mg "TooFew" c_TooFew) (X_Closed : Xc K mg "Closed" c_Closed) (X_Settled : Xc K mg "Settled" c_Settled) (X_Taken : Xc K mg "Taken" c_Taken) (X_Missing : Xc K mg "Missing" c_Missing) (X_Full : Xc K mg "Full" c_Full) (X_NoPair : Xc K mg "NoPair" c_NoPair) (X_NoWord : Xc K mg "NoWord" c_NoWord) (X_LathError : Xc K mg "LathError" c_LathError) (D_NotARow : Di P w K mg base 1 "NotARow" c_NotARow) (D_NoLine : Di P w K mg base 1 "NoLine" c_NoLine) : FnOk P w K mg base (CXe P w) 3 f fd ["_law_which", "_law_at"] (spThrown [c_NoRatio, c_NotARow, c_NoWay, c_NoBound, c_TooFew, c_Closed, c_Settled, c_Taken, c_Missing, c_Full, c_NoPair, c_NoWord, c_NoLine, c_LathError]) := by
  refine Fun.okX F sc_law_thrown (fun vs H Q E h => ?_) (fun cdv A outer s H vs Q E hr h => ?_)
  · obtain ⟨i, at_, C, rfl, _⟩ := h
    rfl
  obtain ⟨i, at_, C, rfl, hi, hz, hC, hI, hN⟩ := h
  have kI : ∀ m, i = m → (m = 1 ∨ m = 12) → ∀ C', [c_NoRatio, c_NotARow, c_NoWay, c_NoBound, c_TooFew, c_Closed, c_Settled, c_Taken, c_Missing, c_Full, c_NoPair, c_NoWord, c_NoLine, c_LathError][m]? = some C' → ∀ d : Addr, H d = none → E (.ref C') (some d) (upd H d (.xd [("at", .int at_)])) := fun m e hm C' e' d hd => by
    subst e
    rw [hC] at e'
    cases e'
    exact hI hm d hd
  have kN : ∀ m, i = m → ¬ (m = 1 ∨ m = 12) → ∀ C', [c_NoRatio, c_NotARow, c_NoWay, c_NoBound, c_TooFew, c_Closed, c_Settled, c_Taken, c_Missing, c_Full, c_NoPair, c_NoWord, c_NoLine, c_LathError][m]? = some C' → E (.ref C') none H := fun m e hm C' e' => by
    subst e
    rw [hC] at e'
    cases e'
    exact hN hm
  refine Jd.go ⟨_, (J.e (J.h (J.i op_eq (J.a 0) J.d (nomark _))
      (J.f (J.o X_NoRatio rfl (J.b J.p J.c st_C)))
      J.k)
      (J.e (J.h (J.i op_eq (J.a 0) J.d (nomark _))
      (J.f (Jd.ps_raiseI D_NotARow (hr.mono (by decide)) rfl (J.b (J.a 1) J.c st_N)))
      J.k)
      (J.e (J.h (J.i op_eq (J.a 0) J.d (nomark _))
      (J.f (J.o X_NoWay rfl (J.b J.p J.c st_C)))
      J.k)
      (J.e (J.h (J.i op_eq (J.a 0) J.d (nomark _))
      (J.f (J.o X_NoBound rfl (J.b J.p J.c st_C)))
      J.k)
      (J.e (J.h (J.i op_eq (J.a 0) J.d (nomark _))
      (J.f (J.o X_TooFew rfl (J.b J.p J.c st_C)))
      J.k)
      (J.e (J.h (J.i op_eq (J.a 0) J.d (nomark _))
      (J.f (J.o X_Closed rfl (J.b J.p J.c st_C)))
      J.k)
      (J.e (J.h (J.i op_eq (J.a 0) J.d (nomark _))
      (J.f (J.o X_Settled rfl (J.b J.p J.c st_C)))
      J.k)
      (J.e (J.h (J.i op_eq (J.a 0) J.d (nomark _))
      (J.f (J.o X_Taken rfl (J.b J.p J.c st_C)))
      J.k)
      (J.e (J.h (J.i op_eq (J.a 0) J.d (nomark _))
      (J.f (J.o X_Missing rfl (J.b J.p J.c st_C)))
      J.k)
      (J.e (J.h (J.i op_eq (J.a 0) J.d (nomark _))
      (J.f (J.o X_Full rfl (J.b J.p J.c st_C)))
      J.k)
      (J.e (J.h (J.i op_eq (J.a 0) J.d (nomark _))
      (J.f (J.o X_NoPair rfl (J.b J.p J.c st_C)))
      J.k)
      (J.e (J.h (J.i op_eq (J.a 0) J.d (nomark _))
      (J.f (J.o X_NoWord rfl (J.b J.p J.c st_C)))
      J.k)
      (J.e (J.h (J.i op_eq (J.a 0) J.d (nomark _))
      (J.f (J.o X_LathError rfl (J.b J.p J.c st_C)))
      J.k)
      (J.f (Jd.ps_raiseI D_NoLine (hr.mono (by decide)) rfl (J.b (J.a 1) J.c st_N)))))))))))))))), ?_⟩
  walk_at "v"
  refine ite2 (fun c => ?_) (fun c => ?_)
  · have c' : (i : Int) = 0 := of_decide_eq_true c
    obtain rfl : i = 0 := by omega
    walk_at "v"
    exact ⟨show 1 ≤ sizeLine by decide, kN 0 (by omega) (by decide) c_NoRatio rfl⟩
  have h0 : ¬ (i : Int) = 0 := of_decide_eq_false (Bool.eq_false_iff.mpr c)
  clear c
  walk_at "v"
  refine ite2 (fun c => ?_) (fun c => ?_)
  · have c' : (i : Int) = 1 := of_decide_eq_true c
    obtain rfl : i = 1 := by omega
    walk_at "v"
    exact ⟨at_, rfl, hz, fun d hd => kI 1 (by omega) (by decide) c_NotARow rfl d hd⟩
  have h1 : ¬ (i : Int) = 1 := of_decide_eq_false (Bool.eq_false_iff.mpr c)
  clear c
  walk_at "v"
  refine ite2 (fun c => ?_) (fun c => ?_)
  · have c' : (i : Int) = 2 := of_decide_eq_true c
    obtain rfl : i = 2 := by omega
    walk_at "v"
    exact ⟨show 1 ≤ sizeLine by decide, kN 2 (by omega) (by decide) c_NoWay rfl⟩
  have h2 : ¬ (i : Int) = 2 := of_decide_eq_false (Bool.eq_false_iff.mpr c)
  clear c
  walk_at "v"
  refine ite2 (fun c => ?_) (fun c => ?_)
  · have c' : (i : Int) = 3 := of_decide_eq_true c
    obtain rfl : i = 3 := by omega
    walk_at "v"
    exact ⟨show 1 ≤ sizeLine by decide, kN 3 (by omega) (by decide) c_NoBound rfl⟩
  have h3 : ¬ (i : Int) = 3 := of_decide_eq_false (Bool.eq_false_iff.mpr c)
  clear c
  walk_at "v"
  refine ite2 (fun c => ?_) (fun c => ?_)
  · have c' : (i : Int) = 4 := of_decide_eq_true c
    obtain rfl : i = 4 := by omega
    walk_at "v"
    exact ⟨show 1 ≤ sizeLine by decide, kN 4 (by omega) (by decide) c_TooFew rfl⟩
  have h4 : ¬ (i : Int) = 4 := of_decide_eq_false (Bool.eq_false_iff.mpr c)
  clear c
  walk_at "v"
  refine ite2 (fun c => ?_) (fun c => ?_)
  · have c' : (i : Int) = 5 := of_decide_eq_true c
    obtain rfl : i = 5 := by omega
    walk_at "v"
    exact ⟨show 1 ≤ sizeLine by decide, kN 5 (by omega) (by decide) c_Closed rfl⟩
  have h5 : ¬ (i : Int) = 5 := of_decide_eq_false (Bool.eq_false_iff.mpr c)
  clear c
  walk_at "v"
  refine ite2 (fun c => ?_) (fun c => ?_)
  · have c' : (i : Int) = 6 := of_decide_eq_true c
    obtain rfl : i = 6 := by omega
    walk_at "v"
    exact ⟨show 1 ≤ sizeLine by decide, kN 6 (by omega) (by decide) c_Settled rfl⟩
  have h6 : ¬ (i : Int) = 6 := of_decide_eq_false (Bool.eq_false_iff.mpr c)
  clear c
  walk_at "v"
  refine ite2 (fun c => ?_) (fun c => ?_)
  · have c' : (i : Int) = 7 := of_decide_eq_true c
    obtain rfl : i = 7 := by omega
    walk_at "v"
    exact ⟨show 1 ≤ sizeLine by decide, kN 7 (by omega) (by decide) c_Taken rfl⟩
  have h7 : ¬ (i : Int) = 7 := of_decide_eq_false (Bool.eq_false_iff.mpr c)
  clear c
  walk_at "v"
  refine ite2 (fun c => ?_) (fun c => ?_)
  · have c' : (i : Int) = 8 := of_decide_eq_true c
    obtain rfl : i = 8 := by omega
    walk_at "v"
    exact ⟨show 1 ≤ sizeLine by decide, kN 8 (by omega) (by decide) c_Missing rfl⟩
  have h8 : ¬ (i : Int) = 8 := of_decide_eq_false (Bool.eq_false_iff.mpr c)
  clear c
  walk_at "v"
  refine ite2 (fun c => ?_) (fun c => ?_)
  · have c' : (i : Int) = 9 := of_decide_eq_true c
    obtain rfl : i = 9 := by omega
    walk_at "v"
    exact ⟨show 1 ≤ sizeLine by decide, kN 9 (by omega) (by decide) c_Full rfl⟩
  have h9 : ¬ (i : Int) = 9 := of_decide_eq_false (Bool.eq_false_iff.mpr c)
  clear c
  walk_at "v"
  refine ite2 (fun c => ?_) (fun c => ?_)
  · have c' : (i : Int) = 10 := of_decide_eq_true c
    obtain rfl : i = 10 := by omega
    walk_at "v"
    exact ⟨show 1 ≤ sizeLine by decide, kN 10 (by omega) (by decide) c_NoPair rfl⟩
  have h10 : ¬ (i : Int) = 10 := of_decide_eq_false (Bool.eq_false_iff.mpr c)
  clear c
  walk_at "v"
  refine ite2 (fun c => ?_) (fun c => ?_)
  · have c' : (i : Int) = 11 := of_decide_eq_true c
    obtain rfl : i = 11 := by omega
    walk_at "v"
    exact ⟨show 1 ≤ sizeLine by decide, kN 11 (by omega) (by decide) c_NoWord rfl⟩
  have h11 : ¬ (i : Int) = 11 := of_decide_eq_false (Bool.eq_false_iff.mpr c)
  clear c
  walk_at "v"
  refine ite2 (fun c => ?_) (fun c => ?_)
  · have c' : (i : Int) = 13 := of_decide_eq_true c
    obtain rfl : i = 13 := by omega
    walk_at "v"
    exact ⟨show 1 ≤ sizeLine by decide, kN 13 (by omega) (by decide) c_LathError rfl⟩
  have h13 : ¬ (i : Int) = 13 := of_decide_eq_false (Bool.eq_false_iff.mpr c)
  clear c
  walk_at "v"
  obtain rfl : i = 12 := by omega
  exact ⟨at_, rfl, hz, fun d hd => kI 12 rfl (by decide) c_NoLine rfl d hd⟩
theorem sc_law_kinds : FnScope ["_law_which", "_law_at", "e", "_law_some"] ["_law_which", "_law_at"] (defScope s_law_kinds) := ⟨rfl, rfl, rfl, by decide +kernel, rfl, by decide +kernel, by decide +kernel⟩
theorem ok_law_kinds (F : Fun K "_law_kinds" "_law_kinds" s_law_kinds f fd) (T : Txt mg) (Z_ValueError : mg "ValueError" = none) (XI_NotARow : Xi K mg "NotARow" c_NotARow fI) (XI_NoLine : Xi K mg "NoLine" c_NoLine fJ) (X_NoRatio : Xc K mg "NoRatio" c_NoRatio) (X_NoWay : Xc K mg "NoWay" c_NoWay) (X_NoBound : Xc K mg "NoBound" c_NoBound) (X_TooFew : Xc K mg "TooFew" c_TooFew) (X_Closed : Xc K mg "Closed" c_Closed) (X_Settled : Xc K mg "Settled" c_Settled) (X_Taken : Xc K mg "Taken" c_Taken) (X_Missing : Xc K mg "Missing" c_Missing) (X_Full : Xc K mg "Full" c_Full) (X_NoPair : Xc K mg "NoPair" c_NoPair) (X_NoWord : Xc K mg "NoWord" c_NoWord) (X_LathError : Xc K mg "LathError" c_LathError) (hc : CsOk K c_LathError [c_NoRatio, c_NotARow, c_NoWay, c_NoBound, c_TooFew, c_Closed, c_Settled, c_Taken, c_Missing, c_Full, c_NoPair, c_NoWord, c_NoLine, c_LathError] [.ref c_NoRatio, .ref c_NotARow, .ref c_NoWay, .ref c_NoBound, .ref c_TooFew, .ref c_Closed, .ref c_Settled, .ref c_Taken, .ref c_Missing, .ref c_Full, .ref c_NoPair, .ref c_NoWord, .ref c_NoLine, .type "ValueError"])
    (DX_law_thrown : DnX P w K mg base 3 "_law_thrown" ["_law_which", "_law_at"] (spThrown [c_NoRatio, c_NotARow, c_NoWay, c_NoBound, c_TooFew, c_Closed, c_Settled, c_Taken, c_Missing, c_Full, c_NoPair, c_NoWord, c_NoLine, c_LathError])) : FnOk P w K mg base CX0 4 f fd ["_law_which", "_law_at"] spKinds := by
  refine F.ok sc_law_kinds (fun vs H Q E h => ?_) (fun cdv A outer s H vs Q E hr h => ?_)
  · obtain ⟨i, at_, rfl, _⟩ := h
    rfl
  obtain ⟨i, at_, rfl, hi, hz, k⟩ := h
  obtain ⟨C, hC⟩ : ∃ C, [c_NoRatio, c_NotARow, c_NoWay, c_NoBound, c_TooFew, c_Closed, c_Settled, c_Taken, c_Missing, c_Full, c_NoPair, c_NoWord, c_NoLine, c_LathError][i]? = some C := ⟨_, List.getElem?_eq_getElem (show i < 14 from hi)⟩
  obtain ⟨xq, ex, kt⟩ := hc i C hC
  refine Jd.go ⟨_, (J.e (Jd.ps_tryAsD (j := 2) sc_law_kinds.nd rfl rfl rfl X_LathError.at_ rfl rfl (fun pn' xe' E' hp' => (J.f (J.r (Jd.pe_dnX DX_law_thrown hp' (hr.mono (by decide)) rfl (J.b (J.a 0) (J.b (J.a 1) J.c st_N) st_N) (he := st_N) (hpl := (anyc st_N any0))) (hs := sw_K))))
      (fun e' ob' c' dx' pn' hpin' hcls' hdict' hncl' => (J.e (J.l (i := 3) sc_law_kinds.nd rfl (Or.inl rfl) (J.q (J.b (J.j (isqK K hpin' hcls' hdict' hncl') rfl T.isinstance_ PyProof.Rows.boot_isinstance (J.b (J.a 2) (J.b (Jd.pe_xn rfl X_NoRatio) J.c st_N) st_N) (he := st_N) (hpl := (anyc st_N any0))) (J.b (J.j (isqK K hpin' hcls' hdict' hncl') rfl T.isinstance_ PyProof.Rows.boot_isinstance (J.b (J.a 2) (J.b (Jd.pe_xi rfl XI_NotARow.at_) J.c st_N) st_N) (he := st_N) (hpl := (anyc st_N any0))) (J.b (J.j (isqK K hpin' hcls' hdict' hncl') rfl T.isinstance_ PyProof.Rows.boot_isinstance (J.b (J.a 2) (J.b (Jd.pe_xn rfl X_NoWay) J.c st_N) st_N) (he := st_N) (hpl := (anyc st_N any0))) (J.b (J.j (isqK K hpin' hcls' hdict' hncl') rfl T.isinstance_ PyProof.Rows.boot_isinstance (J.b (J.a 2) (J.b (Jd.pe_xn rfl X_NoBound) J.c st_N) st_N) (he := st_N) (hpl := (anyc st_N any0))) J.c st_K) st_K) st_K) st_K)) (hs := sw_L))
      (J.e (J.r (Jd.extC K (J.a 3) (J.q (J.b (J.j (isqK K hpin' hcls' hdict' hncl') rfl T.isinstance_ PyProof.Rows.boot_isinstance (J.b (J.a 2) (J.b (Jd.pe_xn rfl X_TooFew) J.c st_N) st_N) (he := st_N) (hpl := (anyc st_N any0))) (J.b (J.j (isqK K hpin' hcls' hdict' hncl') rfl T.isinstance_ PyProof.Rows.boot_isinstance (J.b (J.a 2) (J.b (Jd.pe_xn rfl X_Closed) J.c st_N) st_N) (he := st_N) (hpl := (anyc st_N any0))) (J.b (J.j (isqK K hpin' hcls' hdict' hncl') rfl T.isinstance_ PyProof.Rows.boot_isinstance (J.b (J.a 2) (J.b (Jd.pe_xn rfl X_Settled) J.c st_N) st_N) (he := st_N) (hpl := (anyc st_N any0))) J.c st_K) st_K) st_K))) (hs := sw_K))
      (J.e (J.r (Jd.extC K (J.a 3) (J.q (J.b (J.j (isqK K hpin' hcls' hdict' hncl') rfl T.isinstance_ PyProof.Rows.boot_isinstance (J.b (J.a 2) (J.b (Jd.pe_xn rfl X_Taken) J.c st_N) st_N) (he := st_N) (hpl := (anyc st_N any0))) (J.b (J.j (isqK K hpin' hcls' hdict' hncl') rfl T.isinstance_ PyProof.Rows.boot_isinstance (J.b (J.a 2) (J.b (Jd.pe_xn rfl X_Missing) J.c st_N) st_N) (he := st_N) (hpl := (anyc st_N any0))) (J.b (J.j (isqK K hpin' hcls' hdict' hncl') rfl T.isinstance_ PyProof.Rows.boot_isinstance (J.b (J.a 2) (J.b (Jd.pe_xn rfl X_Full) J.c st_N) st_N) (he := st_N) (hpl := (anyc st_N any0))) J.c st_K) st_K) st_K))) (hs := sw_K))
      (J.e (J.r (Jd.extC K (J.a 3) (J.q (J.b (J.j (isqK K hpin' hcls' hdict' hncl') rfl T.isinstance_ PyProof.Rows.boot_isinstance (J.b (J.a 2) (J.b (Jd.pe_xn rfl X_NoPair) J.c st_N) st_N) (he := st_N) (hpl := (anyc st_N any0))) (J.b (J.j (isqK K hpin' hcls' hdict' hncl') rfl T.isinstance_ PyProof.Rows.boot_isinstance (J.b (J.a 2) (J.b (Jd.pe_xn rfl X_NoWord) J.c st_N) st_N) (he := st_N) (hpl := (anyc st_N any0))) (J.b (J.j (isqK K hpin' hcls' hdict' hncl') rfl T.isinstance_ PyProof.Rows.boot_isinstance (J.b (J.a 2) (J.b (Jd.pe_xi rfl XI_NoLine.at_) J.c st_N) st_N) (he := st_N) (hpl := (anyc st_N any0))) J.c st_K) st_K) st_K))) (hs := sw_K))
      (J.e (J.h (Jd.pt_not (Jd.pt_val (J.j (isqK K hpin' hcls' hdict' hncl') rfl T.isinstance_ PyProof.Rows.boot_isinstance (J.b (J.a 2) (J.b (Jd.pe_ty rfl Z_ValueError boot_ValueError) J.c st_N) st_N) (he := st_N) (hpl := (anyc st_N any0)))))
      (J.f (J.m (J.q J.c)))
      J.k)
      (J.f (J.m (J.a 3))))))))))
      (J.f (J.m (J.q J.c)))), ?_⟩
  have suite : ∀ (e : Addr) (σ' : St) (dx : Option Addr) (H1 : Hp) (TT : TS), True := fun _ _ _ _ _ => trivial
  walk_at "v"
  refine ⟨i, at_, C, rfl, hi, hz, hC, fun hi1 d nd => ⟨ex, fun e σ' hσ => ?_⟩, fun hi1 => ⟨ex, fun e σ' hσ => ?_⟩⟩
  · match σ', hσ with
    | [v0, v1, v2, v3], _ =>
      have s0 : Same H (upd H d (.xd [("at", .int at_)])) := same_new nd _
      have ed : upd H d (.xd [("at", V.int at_)]) d = some (.xd [("at", .int at_)]) := upd_same
      generalize upd H d (.xd [("at", V.int at_)]) = H0 at s0 ed ⊢
      have hdx : ∀ {Hx : Hp}, Same H0 Hx → ∀ d', some d = some d' → ∃ fs, Hx d' = some (.xd fs) := fun sx d' h => ⟨_, by cases h; exact sx _ _ ed⟩
      walk_at "v"
      refine ⟨C, _, _, (i == 0), rfl, .own _, rfl, hdx (Same.refl _), xq, kt 0 _ _ rfl rfl, ?_⟩
      walk_at "v"
      refine ⟨C, _, _, (i == 1), rfl, .own _, rfl, hdx (Same.refl _), xq, kt 1 _ _ rfl rfl, ?_⟩
      walk_at "v"
      refine ⟨C, _, _, (i == 2), rfl, .own _, rfl, hdx (Same.refl _), xq, kt 2 _ _ rfl rfl, ?_⟩
      walk_at "v"
      refine ⟨C, _, _, (i == 3), rfl, .own _, rfl, hdx (Same.refl _), xq, kt 3 _ _ rfl rfl, ?_⟩
      walk_at "v"
      refine r_new (mk := .lst) (by simp) fun S H1 s1 nS e1 => ?_
      walk_at "v"
      refine ⟨.inl ⟨rfl, _, SqL.of e1⟩, ?_⟩
      walk_at "v"
      refine ⟨C, _, _, (i == 4), rfl, .own _, rfl, hdx s1, xq, kt 4 _ _ rfl rfl, ?_⟩
      walk_at "v"
      refine ⟨C, _, _, (i == 5), rfl, .own _, rfl, hdx s1, xq, kt 5 _ _ rfl rfl, ?_⟩
      walk_at "v"
      refine ⟨C, _, _, (i == 6), rfl, .own _, rfl, hdx s1, xq, kt 6 _ _ rfl rfl, ?_⟩
      walk_at "v"
      refine r_new (mk := .lst) (by simp) fun g1 G1 z1 y1 x1 => ?_
      walk_at "v"
      refine r_ext (z1 _ _ e1) x1 (show (7 : Nat) ≤ sizeLine by decide) ?_
      obtain ⟨H2, s2, e2, eH2⟩ := grown (s1.trans z1) nS (z1 _ _ e1) (o := .lst _)
      rw [← eH2]
      walk_at "v"
      refine ⟨.inl ⟨rfl, _, SqL.of e2⟩, ?_⟩
      walk_at "v"
      refine ⟨C, _, _, (i == 7), rfl, .own _, rfl, hdx s2, xq, kt 7 _ _ rfl rfl, ?_⟩
      walk_at "v"
      refine ⟨C, _, _, (i == 8), rfl, .own _, rfl, hdx s2, xq, kt 8 _ _ rfl rfl, ?_⟩
      walk_at "v"
      refine ⟨C, _, _, (i == 9), rfl, .own _, rfl, hdx s2, xq, kt 9 _ _ rfl rfl, ?_⟩
      walk_at "v"
      refine r_new (mk := .lst) (by simp) fun g2 G2 z2 y2 x2 => ?_
      walk_at "v"
      refine r_ext (z2 _ _ e2) x2 (show (10 : Nat) ≤ sizeLine by decide) ?_
      obtain ⟨H3, s3, e3, eH3⟩ := grown (s2.trans z2) nS (z2 _ _ e2) (o := .lst _)
      rw [← eH3]
      walk_at "v"
      refine ⟨.inl ⟨rfl, _, SqL.of e3⟩, ?_⟩
      walk_at "v"
      refine ⟨C, _, _, (i == 10), rfl, .own _, rfl, hdx s3, xq, kt 10 _ _ rfl rfl, ?_⟩
      walk_at "v"
      refine ⟨C, _, _, (i == 11), rfl, .own _, rfl, hdx s3, xq, kt 11 _ _ rfl rfl, ?_⟩
      walk_at "v"
      refine ⟨C, _, _, (i == 12), rfl, .own _, rfl, hdx s3, xq, kt 12 _ _ rfl rfl, ?_⟩
      walk_at "v"
      refine r_new (mk := .lst) (by simp) fun g3 G3 z3 y3 x3 => ?_
      walk_at "v"
      refine r_ext (z3 _ _ e3) x3 (show (13 : Nat) ≤ sizeLine by decide) ?_
      obtain ⟨H4, s4, e4, eH4⟩ := grown (s3.trans z3) nS (z3 _ _ e3) (o := .lst _)
      rw [← eH4]
      walk_at "v"
      refine ⟨C, _, _, true, rfl, .ty _, rfl, hdx s4, xq, kt 13 _ _ rfl rfl, ?_⟩
      walk_at "v"
      refine iteF ?_
      walk_at "v"
      exact k S H4 (s0.trans s4) e4
  · match σ', hσ with
    | [v0, v1, v2, v3], _ =>
      have s0 : Same H H := Same.refl _
      have hdx : ∀ {Hx : Hp}, Same H Hx → ∀ d', none = some d' → ∃ fs, Hx d' = some (.xd fs) := fun sx d' h => nomatch h
      walk_at "v"
      refine ⟨C, _, _, (i == 0), rfl, .own _, rfl, hdx (Same.refl _), xq, kt 0 _ _ rfl rfl, ?_⟩
      walk_at "v"
      refine ⟨C, _, _, (i == 1), rfl, .own _, rfl, hdx (Same.refl _), xq, kt 1 _ _ rfl rfl, ?_⟩
      walk_at "v"
      refine ⟨C, _, _, (i == 2), rfl, .own _, rfl, hdx (Same.refl _), xq, kt 2 _ _ rfl rfl, ?_⟩
      walk_at "v"
      refine ⟨C, _, _, (i == 3), rfl, .own _, rfl, hdx (Same.refl _), xq, kt 3 _ _ rfl rfl, ?_⟩
      walk_at "v"
      refine r_new (mk := .lst) (by simp) fun S H1 s1 nS e1 => ?_
      walk_at "v"
      refine ⟨.inl ⟨rfl, _, SqL.of e1⟩, ?_⟩
      walk_at "v"
      refine ⟨C, _, _, (i == 4), rfl, .own _, rfl, hdx s1, xq, kt 4 _ _ rfl rfl, ?_⟩
      walk_at "v"
      refine ⟨C, _, _, (i == 5), rfl, .own _, rfl, hdx s1, xq, kt 5 _ _ rfl rfl, ?_⟩
      walk_at "v"
      refine ⟨C, _, _, (i == 6), rfl, .own _, rfl, hdx s1, xq, kt 6 _ _ rfl rfl, ?_⟩
      walk_at "v"
      refine r_new (mk := .lst) (by simp) fun g1 G1 z1 y1 x1 => ?_
      walk_at "v"
      refine r_ext (z1 _ _ e1) x1 (show (7 : Nat) ≤ sizeLine by decide) ?_
      obtain ⟨H2, s2, e2, eH2⟩ := grown (s1.trans z1) nS (z1 _ _ e1) (o := .lst _)
      rw [← eH2]
      walk_at "v"
      refine ⟨.inl ⟨rfl, _, SqL.of e2⟩, ?_⟩
      walk_at "v"
      refine ⟨C, _, _, (i == 7), rfl, .own _, rfl, hdx s2, xq, kt 7 _ _ rfl rfl, ?_⟩
      walk_at "v"
      refine ⟨C, _, _, (i == 8), rfl, .own _, rfl, hdx s2, xq, kt 8 _ _ rfl rfl, ?_⟩
      walk_at "v"
      refine ⟨C, _, _, (i == 9), rfl, .own _, rfl, hdx s2, xq, kt 9 _ _ rfl rfl, ?_⟩
      walk_at "v"
      refine r_new (mk := .lst) (by simp) fun g2 G2 z2 y2 x2 => ?_
      walk_at "v"
      refine r_ext (z2 _ _ e2) x2 (show (10 : Nat) ≤ sizeLine by decide) ?_
      obtain ⟨H3, s3, e3, eH3⟩ := grown (s2.trans z2) nS (z2 _ _ e2) (o := .lst _)
      rw [← eH3]
      walk_at "v"
      refine ⟨.inl ⟨rfl, _, SqL.of e3⟩, ?_⟩
      walk_at "v"
      refine ⟨C, _, _, (i == 10), rfl, .own _, rfl, hdx s3, xq, kt 10 _ _ rfl rfl, ?_⟩
      walk_at "v"
      refine ⟨C, _, _, (i == 11), rfl, .own _, rfl, hdx s3, xq, kt 11 _ _ rfl rfl, ?_⟩
      walk_at "v"
      refine ⟨C, _, _, (i == 12), rfl, .own _, rfl, hdx s3, xq, kt 12 _ _ rfl rfl, ?_⟩
      walk_at "v"
      refine r_new (mk := .lst) (by simp) fun g3 G3 z3 y3 x3 => ?_
      walk_at "v"
      refine r_ext (z3 _ _ e3) x3 (show (13 : Nat) ≤ sizeLine by decide) ?_
      obtain ⟨H4, s4, e4, eH4⟩ := grown (s3.trans z3) nS (z3 _ _ e3) (o := .lst _)
      rw [← eH4]
      walk_at "v"
      refine ⟨C, _, _, true, rfl, .ty _, rfl, hdx s4, xq, kt 13 _ _ rfl rfl, ?_⟩
      walk_at "v"
      refine iteF ?_
      walk_at "v"
      exact k S H4 (s0.trans s4) e4
theorem sc_law_place : FnScope ["_law_which", "_law_at", "_law_found", "e"] ["_law_which", "_law_at"] (defScope s_law_place) := ⟨rfl, rfl, rfl, by decide +kernel, rfl, by decide +kernel, by decide +kernel⟩
theorem ok_law_place (F : Fun K "_law_place" "_law_place" s_law_place f fd) (T : Txt mg) (XI_NotARow : Xi K mg "NotARow" c_NotARow fI) (XI_NoLine : Xi K mg "NoLine" c_NoLine fJ) (hc : CsOk K c_LathError [c_NoRatio, c_NotARow, c_NoWay, c_NoBound, c_TooFew, c_Closed, c_Settled, c_Taken, c_Missing, c_Full, c_NoPair, c_NoWord, c_NoLine, c_LathError] [.ref c_NoRatio, .ref c_NotARow, .ref c_NoWay, .ref c_NoBound, .ref c_TooFew, .ref c_Closed, .ref c_Settled, .ref c_Taken, .ref c_Missing, .ref c_Full, .ref c_NoPair, .ref c_NoWord, .ref c_NoLine, .type "ValueError"]) (hsk : PySem.W.exmOne K (.ref c_NoLine) (.ref c_NotARow) = some false)
    (DX_law_thrown : DnX P w K mg base 3 "_law_thrown" ["_law_which", "_law_at"] (spThrown [c_NoRatio, c_NotARow, c_NoWay, c_NoBound, c_TooFew, c_Closed, c_Settled, c_Taken, c_Missing, c_Full, c_NoPair, c_NoWord, c_NoLine, c_LathError])) : FnOk P w K mg base CX0 4 f fd ["_law_which", "_law_at"] spPlace := by
  refine F.ok sc_law_place (fun vs H Q E h => ?_) (fun cdv A outer s H vs Q E hr h => ?_)
  · obtain ⟨i, at_, rfl, _⟩ := h
    rfl
  obtain ⟨i, at_, rfl, hi, hz, k⟩ := h
  refine Jd.go ⟨_, (J.e (J.l (i := 2) sc_law_place.nd rfl (Or.inl rfl) Jd.pe_non (hs := sw_C))
      (J.e (Jd.ps_try2 (j := 3) DX_law_thrown (hr.mono (by decide)) rfl (fun pn' xe' => (J.b (J.a 0) (J.b (J.a 1) J.c st_N) st_N)) sc_law_place.nd rfl rfl rfl rfl rfl XI_NotARow.at_ rfl XI_NoLine.at_
      (fun e' ob' c' dx' pn' hpin' hcls' hdict' hncl' => (J.f (J.l (i := 2) sc_law_place.nd rfl (Or.inl rfl) (Jd.pe_atx K (J.a 3) rfl hpin' hcls' hdict' hncl' rfl))))
      (fun e' ob' c' dx' pn' hpin' hcls' hdict' hncl' => (J.f (J.l (i := 2) sc_law_place.nd rfl (Or.inl rfl) (Jd.pe_atx K (J.a 3) rfl hpin' hcls' hdict' hncl' rfl)))) (he := st_N) (hpl := (anyc st_N any0)) (hsw := sw_K))
      (J.f (J.m (Jd.pe_and (J.j (isiC K) rfl T.isinstance_ PyProof.Rows.boot_isinstance (J.b (J.a 2) (J.b (Jd.pe_ty rfl T.int_ PyProof.Rows.boot_int) J.c st_N) st_N) (he := st_N) (hpl := (anyc st_N any0))) (Jd.pe_and (Jd.pe_not (J.j (isiC K) rfl T.isinstance_ PyProof.Rows.boot_isinstance (J.b (J.a 2) (J.b (Jd.pe_ty rfl T.bool_ PyProof.Rows.boot_bool) J.c st_N) st_N) (he := st_N) (hpl := (anyc st_N any0)))) (Jd.pe_one (Jd.pe_cmpR op_eq (J.a 2) (J.a 1) (nomark _))))))))), ?_⟩
  walk_at "v"
  rcases hi with rfl | rfl
  · obtain ⟨xq, _, _⟩ := hc 1 c_NotARow rfl
    refine ⟨1, at_, c_NotARow, rfl, by decide, hz, rfl, fun _ d nd => ?_, fun h => absurd (.inl rfl) h⟩
    have s0 : Same H (upd H d (.xd [("at", .int at_)])) := same_new nd _
    have ed : upd H d (.xd [("at", V.int at_)]) d = some (.xd [("at", .int at_)]) := upd_same
    generalize upd H d (.xd [("at", V.int at_)]) = H0 at s0 ed ⊢
    refine .inl ⟨XI_NotARow.self_, fun e => ?_⟩
    walk_at "v"
    refine ⟨c_NotARow, d, _, .int at_, rfl, rfl, rfl, ed, rfl, xq.g, xq.hd, XI_NotARow.att_, ?_⟩
    walk_at "v"
    refine r_isi (.int _) kit_ii ?_
    walk_at "v"
    refine iteT ?_
    walk_at "v"
    refine r_isi (.int _) kit_ib ?_
    walk_at "v"
    refine iteT ?_
    walk_at "v"
    rw [decide_eq_true rfl]
    exact k _ s0
  · obtain ⟨xq, _, _⟩ := hc 12 c_NoLine rfl
    refine ⟨12, at_, c_NoLine, rfl, by decide, hz, rfl, fun _ d nd => ?_, fun h => absurd (.inr rfl) h⟩
    have s0 : Same H (upd H d (.xd [("at", .int at_)])) := same_new nd _
    have ed : upd H d (.xd [("at", V.int at_)]) d = some (.xd [("at", .int at_)]) := upd_same
    generalize upd H d (.xd [("at", V.int at_)]) = H0 at s0 ed ⊢
    refine .inr ⟨hsk, XI_NoLine.self_, fun e => ?_⟩
    walk_at "v"
    refine ⟨c_NoLine, d, _, .int at_, rfl, rfl, rfl, ed, rfl, xq.g, xq.hd, XI_NoLine.att_, ?_⟩
    walk_at "v"
    refine r_isi (.int _) kit_ii ?_
    walk_at "v"
    refine iteT ?_
    walk_at "v"
    refine r_isi (.int _) kit_ib ?_
    walk_at "v"
    refine iteT ?_
    walk_at "v"
    rw [decide_eq_true rfl]
    exact k _ s0
theorem sc_law : FnScope ["_law_script", "_law_at", "_law_other", "_law_which"] ["_law_script"] (defScope s_law) := ⟨rfl, rfl, rfl, by decide +kernel, rfl, by decide +kernel, by decide +kernel⟩
theorem ok_law (F : Fun K "law" "law" s_law f fd) (T : Txt mg) (D_law_number : Dn P w K mg base 4 "_law_number" ["_law_script", "_law_place_here"] (spNumber K)) (D_law_kinds : Dn P w K mg base 4 "_law_kinds" ["_law_which", "_law_at"] spKinds) (D_law_place : Dn P w K mg base 4 "_law_place" ["_law_which", "_law_at"] spPlace) : FnOk P w K mg base CX0 5 f fd ["_law_script"] (spLaw K) := by
  refine F.ok sc_law (fun vs H Q E h => ?_) (fun cdv A outer s H vs Q E hr h => ?_)
  · obtain ⟨a, ns, rfl, _⟩ := h
    rfl
  obtain ⟨a, ns, rfl, hS, hn, k⟩ := h
  have hu64 := hr.units
  refine Jd.go ⟨_, (J.e (J.l (i := 1) sc_law.nd rfl (Or.inl rfl) (J.j absC rfl T.abs_ PyProof.Rows.boot_abs (J.b (J.n D_law_number (hr.mono (by decide)) rfl (J.b (J.a 0) (J.b J.d J.c st_C) st_N) (he := st_N) (hpl := (anyc st_C any0))) J.c st_K) (he := st_K) (hpl := any0)) (hs := sw_K))
      (J.e (J.l (i := 2) sc_law.nd rfl (Or.inl rfl) (J.j absC rfl T.abs_ PyProof.Rows.boot_abs (J.b (J.n D_law_number (hr.mono (by decide)) rfl (J.b (J.a 0) (J.b J.d J.c st_C) st_N) (he := st_N) (hpl := (anyc st_C any0))) J.c st_K) (he := st_K) (hpl := any0)) (hs := sw_K))
      (J.e (Jd.ps_for PassesOwn.never rfl (Jd.pi_range1 rfl T.range (J.b J.d J.c st_C)) (Jd.pg_name (i := 3) sc_law.nd rfl (Or.inr rfl))
      (J.f (J.h (J.i (op_neD hu64) (J.n D_law_kinds (hr.mono (by decide)) rfl (J.b (J.a 3) (J.b (J.a 1) J.c st_N) st_N) (he := st_N) (hpl := (anyc st_N any0))) (Jd.pe_comp (O := ["_law_k"]) (N' := ["_law_which"]) (cap := [3]) rfl (Jd.pi_range1 rfl T.range (J.b J.d J.c st_C)) (fun _ _ _ _ _ => (Jd.pg_name (i := 0) (show List.Nodup [("_law_k" : Str), ("_law_which" : Str)] by decide +kernel) rfl (Or.inl rfl))) (fun _ _ _ _ _ => Jd.pts_nil) (fun _ _ _ _ _ => (Jd.pe_cmpR op_eq (J.a 1) (J.a 0) (nomark _))) rfl ⟨⟨rfl, rfl, rfl, rfl⟩, trivial⟩ rfl (by decide +kernel) rfl (by decide +kernel)) (nomark _))
      (J.f (J.m Jd.pe_bl))
      J.k)))
      (J.e (J.h (J.i (op_neD hu64) (J.n D_law_kinds (hr.mono (by decide)) rfl (J.b J.d (J.b (J.a 1) J.c st_N) st_C) (he := st_C) (hpl := (anyc st_N any0))) (J.g op_rep (J.q (J.b Jd.pe_bl J.c st_C)) J.d) (nomark _))
      (J.f (J.m Jd.pe_bl))
      J.k)
      (J.e (J.h (Jd.PWpt (Jd.pw_or (Jd.pt_not (Jd.pt_val (J.n D_law_place (hr.mono (by decide)) rfl (J.b J.d (J.b (J.a 1) J.c st_N) st_C) (he := st_C) (hpl := (anyc st_N any0))))) (Jd.pw_or1 (Jd.pt_not (Jd.pt_val (J.n D_law_place (hr.mono (by decide)) rfl (J.b J.d (J.b (J.a 2) J.c st_N) st_C) (he := st_C) (hpl := (anyc st_N any0))))))))
      (J.f (J.m Jd.pe_bl))
      J.k)
      (J.f (J.m (Jd.pe_and (J.n D_law_place (hr.mono (by decide)) rfl (J.b J.d (J.b (J.a 2) J.c st_N) st_C) (he := st_C) (hpl := (anyc st_N any0))) (Jd.pe_and (J.n D_law_place (hr.mono (by decide)) rfl (J.b J.d (J.b (J.a 1) J.c st_N) st_C) (he := st_C) (hpl := (anyc st_N any0))) (Jd.pe_one (J.n D_law_place (hr.mono (by decide)) rfl (J.b J.d (J.b (J.a 1) J.c st_N) st_C) (he := st_C) (hpl := (anyc st_N any0))))))))))))), ?_⟩
  walk_at "v"
  refine ⟨a, ns, 0, rfl, hS, by decide, by decide, fun m2 H1 s1 b2 => ?_⟩
  walk_at "v"
  refine ⟨a, ns, 1, rfl, s1.seq hS, by decide, by decide, fun m3 H2 s2 b3 => ?_⟩
  walk_at "v"
  rw [abs_cast, abs_cast]
  have l2 : ((m2.natAbs : Int)).natAbs.log2 < 1920 := big_log (by rw [Int.natAbs_natCast]; exact b2)
  have l3 : ((m3.natAbs : Int)).natAbs.log2 < 1920 := big_log (by rw [Int.natAbs_natCast]; exact b3)
  generalize ((m2.natAbs : Int)) = x2 at l2 ⊢
  generalize ((m3.natAbs : Int)) = x3 at l3 ⊢
  refine r_for (r_rng1 ?_)
  walk_at "v"
  refine ⟨_, rfl, by omega, by omega, for_range (fun i σ H3 => Same H2 H3 ∧ ∃ v : Option V, σ = [some (.ref a), some (.int x2), some (.int x3), v]) ⟨Same.refl _, none, rfl⟩ ?_ ?_⟩
  · rintro i σ H3 hi ⟨s3, v, rfl⟩
    have hi' : i < 13 := by simpa using hi
    rw [show (0 : Int) + (i : Int) = (i : Int) by omega]
    walk_at "v"
    refine ⟨i, x2, rfl, by omega, l2, fun l H4 s4 e4 => ?_⟩
    walk_at "v"
    refine r_rng1 ?_
    walk_at "v"
    refine ⟨_, rfl, by omega, by omega, ?_⟩
    refine compB_of tells_rng (fun _ _ => trivial) (by rw [List.length_map, List.length_range]; decide) (fun n ys G => ys = (List.range n).map fun k => .bl (i == k)) rfl ?_ ?_
    · rintro D n v ys H5 σ0 NN N0 h0 hD eD s5 hv hy rfl kY kN
      rw [List.getElem?_map] at hv
      obtain ⟨n', gn, rfl⟩ := Option.map_eq_some_iff.mp hv
      have hn := (List.getElem?_eq_some_iff.mp gn).1
      rw [List.length_range] at hn
      obtain rfl : n = n' := by rw [List.getElem?_range hn] at gn; exact Option.some.inj gn
      rw [show (0 : Int) + (n : Int) = (n : Int) by omega]
      refine r_own1 h0 ?_
      walk_at "v"
      refine iteT ?_
      walk_at "v"
      refine kY _ H5 (Same.refl _) ?_
      rw [List.range_succ, List.map_append]
      have e : decide ((i : Int) = (n : Int)) = (i == n) := by
        by_cases z : i = n
        · subst z; simp
        · rw [decide_eq_false (by omega)]; simp [z]
      rw [e]
      rfl
    · rintro D ys H5 nD eD s5 hy rfl
      rw [List.length_map, List.length_range] at eD
      refine bools_ne (bs := (List.range 13).map (i == ·)) (by rw [List.map_map]; exact s5 _ _ e4) (by rw [List.map_map]; exact eD) ?_
      walk_at "v"
      refine iteF ?_
      walk_at "v"
      exact ⟨s3.trans (s4.trans s5), _, rfl⟩
  · rintro σ H3 ⟨s3, v, rfl⟩
    walk_at "v"
    refine ⟨13, x2, rfl, by omega, l2, fun l H4 s4 e4 => ?_⟩
    walk_at "v"
    refine r_new (mk := .lst) (by simp) fun l5 H5 s5 n5 e5 => ?_
    walk_at "v"
    refine r_rep e5 (by decide) (by decide) ?_
    refine r_new (mk := .lst) (by rw [len_rep]; decide) fun l6 H6 s6 n6 e6 => ?_
    refine bools_ne (bs := List.replicate 13 false) ((s5.trans s6) _ _ e4) e6 ?_
    walk_at "v"
    refine iteF ?_
    walk_at "v"
    refine ⟨1, x2, rfl, .inl rfl, l2, fun H7 s7 => ?_⟩
    walk_at "v"
    refine iteF ?_
    walk_at "v"
    refine ⟨12, x3, rfl, .inr rfl, l3, fun H8 s8 => ?_⟩
    walk_at "v"
    refine iteF ?_
    walk_at "v"
    refine ⟨1, x3, rfl, .inl rfl, l3, fun H9 s9 => ?_⟩
    walk_at "v"
    refine iteT ?_
    walk_at "v"
    refine ⟨12, x2, rfl, .inr rfl, l2, fun H10 s10 => ?_⟩
    walk_at "v"
    refine iteT ?_
    walk_at "v"
    exact ⟨1, x2, rfl, .inl rfl, l2, fun H11 s11 => k H11⟩
end


theorem all_mk {l : PySem.W.OpenLaw} {w : World} {K : PySem.W.Frag} {h : Heap} {mg : Str → Option Value} {fa : Addr} (X : K.In h) (G : h.Ns mainGlobals mg) (hfa : mg "law" = some (.ref fa)) {c_LathError : Addr} {c_NoRatio : Addr} {c_NoWay : Addr} {c_NoBound : Addr} {c_TooFew : Addr} {c_Closed : Addr} {c_Settled : Addr} {c_Taken : Addr} {c_Missing : Addr} {c_Full : Addr} {c_NoPair : Addr} {c_NoWord : Addr} {c_NotARow : Addr} {c_NoLine : Addr} 
    (a_NotARow : PySem.W.nsIn K mainGlobals "NotARow" = some (some (.ref c_NotARow))) (st_NotARow : PySem.W.findIn K (.ref c_NotARow) "__setattr__" = some (some (.builtin "object.__setattr__"))) (at_NotARow : PySem.W.findIn K (.ref c_NotARow) "at" = some none) (xs_NotARow : PySem.W.exmOne K (.ref c_NotARow) (.ref c_NotARow) = some true) (q1_NotARow : PySem.W.findIn K (.ref c_NotARow) "__getattribute__" = some (some (.builtin "BaseException.__getattribute__"))) (q7_NotARow : PySem.W.findIn K (.ref c_NotARow) "__getattr__" = some none) (q8_NotARow : PySem.W.mroIn K c_NotARow (.type "BaseException") = some true) (q2_NotARow : PySem.W.hasDictIn K c_NotARow = true) (q3_NotARow : PySem.W.findIn K (.ref c_NotARow) "__class__" = some (some (.builtin "object.__class__"))) (q4_NotARow : PySem.W.specialIn K (.builtin "object.__class__") "__get__" = some (some (.builtin "getset_descriptor.__get__"))) (q5_NotARow : PySem.W.takesIn K (.builtin "object.__class__") = some true) (q6_NotARow : PySem.W.mroIn K c_NotARow (.type "object") = some true)
    (a_NoLine : PySem.W.nsIn K mainGlobals "NoLine" = some (some (.ref c_NoLine))) (st_NoLine : PySem.W.findIn K (.ref c_NoLine) "__setattr__" = some (some (.builtin "object.__setattr__"))) (at_NoLine : PySem.W.findIn K (.ref c_NoLine) "at" = some none) (xs_NoLine : PySem.W.exmOne K (.ref c_NoLine) (.ref c_NoLine) = some true) (q1_NoLine : PySem.W.findIn K (.ref c_NoLine) "__getattribute__" = some (some (.builtin "BaseException.__getattribute__"))) (q7_NoLine : PySem.W.findIn K (.ref c_NoLine) "__getattr__" = some none) (q8_NoLine : PySem.W.mroIn K c_NoLine (.type "BaseException") = some true) (q2_NoLine : PySem.W.hasDictIn K c_NoLine = true) (q3_NoLine : PySem.W.findIn K (.ref c_NoLine) "__class__" = some (some (.builtin "object.__class__"))) (q4_NoLine : PySem.W.specialIn K (.builtin "object.__class__") "__get__" = some (some (.builtin "getset_descriptor.__get__"))) (q5_NoLine : PySem.W.takesIn K (.builtin "object.__class__") = some true) (q6_NoLine : PySem.W.mroIn K c_NoLine (.type "object") = some true)
    (h_law_cell : Fx K "_law_cell" s_law_cell)
    (h_law_mix : Fx K "_law_mix" s_law_mix)
    (h_law_row : Fx K "_law_row" s_law_row)
    (h_law_number : Fx K "_law_number" s_law_number)
    (h_NotARow_init : Fi K c_NotARow "NotARow.__init__" s_NotARow_init)
    (h_NoLine_init : Fi K c_NoLine "NoLine.__init__" s_NoLine_init)
    (h_law_thrown : Fx K "_law_thrown" s_law_thrown)
    (h_law_kinds : Fx K "_law_kinds" s_law_kinds)
    (h_law_place : Fx K "_law_place" s_law_place)
    (h_law : Fx K "law" s_law)
    (a_LathError : PySem.W.nsIn K mainGlobals "LathError" = some (some (.ref c_LathError))) (xe_LathError : PySem.W.excIn K c_LathError [.type "ValueError", .type "Exception", .type "BaseException", .type "object"] "ValueError.__new__" = true) (xs_LathError : PySem.W.exmOne K (.ref c_LathError) (.ref c_LathError) = some true)
    (a_NoRatio : PySem.W.nsIn K mainGlobals "NoRatio" = some (some (.ref c_NoRatio))) (xe_NoRatio : PySem.W.excIn K c_NoRatio [.type "ValueError", .type "Exception", .type "BaseException", .type "object"] "ValueError.__new__" = true) (xs_NoRatio : PySem.W.exmOne K (.ref c_NoRatio) (.ref c_NoRatio) = some true)
    (a_NoWay : PySem.W.nsIn K mainGlobals "NoWay" = some (some (.ref c_NoWay))) (xe_NoWay : PySem.W.excIn K c_NoWay [.type "ValueError", .type "Exception", .type "BaseException", .type "object"] "ValueError.__new__" = true) (xs_NoWay : PySem.W.exmOne K (.ref c_NoWay) (.ref c_NoWay) = some true)
    (a_NoBound : PySem.W.nsIn K mainGlobals "NoBound" = some (some (.ref c_NoBound))) (xe_NoBound : PySem.W.excIn K c_NoBound [.type "ValueError", .type "Exception", .type "BaseException", .type "object"] "ValueError.__new__" = true) (xs_NoBound : PySem.W.exmOne K (.ref c_NoBound) (.ref c_NoBound) = some true)
    (a_TooFew : PySem.W.nsIn K mainGlobals "TooFew" = some (some (.ref c_TooFew))) (xe_TooFew : PySem.W.excIn K c_TooFew [.type "ValueError", .type "Exception", .type "BaseException", .type "object"] "ValueError.__new__" = true) (xs_TooFew : PySem.W.exmOne K (.ref c_TooFew) (.ref c_TooFew) = some true)
    (a_Closed : PySem.W.nsIn K mainGlobals "Closed" = some (some (.ref c_Closed))) (xe_Closed : PySem.W.excIn K c_Closed [.type "ValueError", .type "Exception", .type "BaseException", .type "object"] "ValueError.__new__" = true) (xs_Closed : PySem.W.exmOne K (.ref c_Closed) (.ref c_Closed) = some true)
    (a_Settled : PySem.W.nsIn K mainGlobals "Settled" = some (some (.ref c_Settled))) (xe_Settled : PySem.W.excIn K c_Settled [.type "ValueError", .type "Exception", .type "BaseException", .type "object"] "ValueError.__new__" = true) (xs_Settled : PySem.W.exmOne K (.ref c_Settled) (.ref c_Settled) = some true)
    (a_Taken : PySem.W.nsIn K mainGlobals "Taken" = some (some (.ref c_Taken))) (xe_Taken : PySem.W.excIn K c_Taken [.type "ValueError", .type "Exception", .type "BaseException", .type "object"] "ValueError.__new__" = true) (xs_Taken : PySem.W.exmOne K (.ref c_Taken) (.ref c_Taken) = some true)
    (a_Missing : PySem.W.nsIn K mainGlobals "Missing" = some (some (.ref c_Missing))) (xe_Missing : PySem.W.excIn K c_Missing [.type "ValueError", .type "Exception", .type "BaseException", .type "object"] "ValueError.__new__" = true) (xs_Missing : PySem.W.exmOne K (.ref c_Missing) (.ref c_Missing) = some true)
    (a_Full : PySem.W.nsIn K mainGlobals "Full" = some (some (.ref c_Full))) (xe_Full : PySem.W.excIn K c_Full [.type "ValueError", .type "Exception", .type "BaseException", .type "object"] "ValueError.__new__" = true) (xs_Full : PySem.W.exmOne K (.ref c_Full) (.ref c_Full) = some true)
    (a_NoPair : PySem.W.nsIn K mainGlobals "NoPair" = some (some (.ref c_NoPair))) (xe_NoPair : PySem.W.excIn K c_NoPair [.type "ValueError", .type "Exception", .type "BaseException", .type "object"] "ValueError.__new__" = true) (xs_NoPair : PySem.W.exmOne K (.ref c_NoPair) (.ref c_NoPair) = some true)
    (a_NoWord : PySem.W.nsIn K mainGlobals "NoWord" = some (some (.ref c_NoWord))) (xe_NoWord : PySem.W.excIn K c_NoWord [.type "ValueError", .type "Exception", .type "BaseException", .type "object"] "ValueError.__new__" = true) (xs_NoWord : PySem.W.exmOne K (.ref c_NoWord) (.ref c_NoWord) = some true)
    (z_ValueError : PySem.W.nsIn K mainGlobals "ValueError" = some none)
    (b1_LathError : PySem.W.specialIn K (.ref c_LathError) "__getattribute__" = some (some (.builtin "type.__getattribute__"))) (b2_LathError : PySem.W.readsIn K c_LathError (.type "type") = true) (b3_LathError : PySem.W.findCls K (.ref c_LathError) (.type "type") "__init__" = some (.val (.builtin "ValueError.__init__")))
    (z_len : PySem.W.nsIn K mainGlobals "len" = some none)
    (z_abs : PySem.W.nsIn K mainGlobals "abs" = some none)
    (z_range : PySem.W.nsIn K mainGlobals "range" = some none)
    (z_isinstance : PySem.W.nsIn K mainGlobals "isinstance" = some none)
    (z_int : PySem.W.nsIn K mainGlobals "int" = some none)
    (z_bool : PySem.W.nsIn K mainGlobals "bool" = some none)
    (z_tuple : PySem.W.nsIn K mainGlobals "tuple" = some none)
    (z_list : PySem.W.nsIn K mainGlobals "list" = some none)
    (z_max : PySem.W.nsIn K mainGlobals "max" = some none)
    (z_min : PySem.W.nsIn K mainGlobals "min" = some none)
    (z_enumerate : PySem.W.nsIn K mainGlobals "enumerate" = some none)
    (z_zip : PySem.W.nsIn K mainGlobals "zip" = some none)
    (z_all : PySem.W.nsIn K mainGlobals "all" = some none)
    (z_any : PySem.W.nsIn K mainGlobals "any" = some none)
    (z_sum : PySem.W.nsIn K mainGlobals "sum" = some none)
    (z_sorted : PySem.W.nsIn K mainGlobals "sorted" = some none)
    (z_reversed : PySem.W.nsIn K mainGlobals "reversed" = some none)
    (z_str : PySem.W.nsIn K mainGlobals "str" = some none)
    (hxq : List.all [c_NoRatio, c_NotARow, c_NoWay, c_NoBound, c_TooFew, c_Closed, c_Settled, c_Taken, c_Missing, c_Full, c_NoPair, c_NoWord, c_NoLine, c_LathError] (xqB K) = true)
    (hkit : List.map (fun C => List.map (PySem.W.kitOne K (.ref C)) [.ref c_NoRatio, .ref c_NotARow, .ref c_NoWay, .ref c_NoBound, .ref c_TooFew, .ref c_Closed, .ref c_Settled, .ref c_Taken, .ref c_Missing, .ref c_Full, .ref c_NoPair, .ref c_NoWord, .ref c_NoLine, .type "ValueError"]) [c_NoRatio, c_NotARow, c_NoWay, c_NoBound, c_TooFew, c_Closed, c_Settled, c_Taken, c_Missing, c_Full, c_NoPair, c_NoWord, c_NoLine, c_LathError] = List.map (fun i => List.map (fun k => some (i == k)) (List.range 13) ++ [some true]) (List.range 14))
    (hexm : List.map (fun C => PySem.W.exmOne K (.ref C) (.ref c_LathError)) [c_NoRatio, c_NotARow, c_NoWay, c_NoBound, c_TooFew, c_Closed, c_Settled, c_Taken, c_Missing, c_Full, c_NoPair, c_NoWord, c_NoLine, c_LathError] = List.replicate 14 (some true))
    (hsk : PySem.W.exmOne K (.ref c_NoLine) (.ref c_NotARow) = some false) :
    ∃ fd : FuncData, (∀ (s : Shared) (v : Value), BindsTo s fd ⟨[v], []⟩ [("_law_script", v)]) ∧ ∀ base : Heap, K.In base → base.Ns mainGlobals mg → FnOk l.prog w K mg base CX0 5 fa fd ["_law_script"] (spLaw K) := by
  obtain ⟨_, fd_law, a_law, F_law⟩ := h_law
  have e := hfa.symm.trans (PySem.W.mg_of X G a_law)
  cases e
  have T : Txt mg := ⟨PySem.W.mg_none_of X G z_len, PySem.W.mg_none_of X G z_abs, PySem.W.mg_none_of X G z_range, PySem.W.mg_none_of X G z_isinstance, PySem.W.mg_none_of X G z_int, PySem.W.mg_none_of X G z_bool, PySem.W.mg_none_of X G z_tuple, PySem.W.mg_none_of X G z_list, PySem.W.mg_none_of X G z_max, PySem.W.mg_none_of X G z_min, PySem.W.mg_none_of X G z_enumerate, PySem.W.mg_none_of X G z_zip, PySem.W.mg_none_of X G z_all, PySem.W.mg_none_of X G z_any, PySem.W.mg_none_of X G z_sum, PySem.W.mg_none_of X G z_sorted, PySem.W.mg_none_of X G z_reversed, PySem.W.mg_none_of X G z_str⟩
  obtain ⟨_, _, a_law_cell, F_law_cell⟩ := h_law_cell
  obtain ⟨_, _, a_law_mix, F_law_mix⟩ := h_law_mix
  obtain ⟨_, _, a_law_row, F_law_row⟩ := h_law_row
  obtain ⟨_, _, a_law_number, F_law_number⟩ := h_law_number
  obtain ⟨_, _, a_NotARow_init, o_NotARow_init, i_NotARow_init, F_NotARow_init⟩ := h_NotARow_init
  obtain ⟨_, _, a_NoLine_init, o_NoLine_init, i_NoLine_init, F_NoLine_init⟩ := h_NoLine_init
  obtain ⟨_, _, a_law_thrown, F_law_thrown⟩ := h_law_thrown
  obtain ⟨_, _, a_law_kinds, F_law_kinds⟩ := h_law_kinds
  obtain ⟨_, _, a_law_place, F_law_place⟩ := h_law_place
  have X_LathError : Xc K mg "LathError" c_LathError := ⟨PySem.W.mg_of X G a_LathError, xe_LathError, xs_LathError⟩
  have X_NoRatio : Xc K mg "NoRatio" c_NoRatio := ⟨PySem.W.mg_of X G a_NoRatio, xe_NoRatio, xs_NoRatio⟩
  have X_NoWay : Xc K mg "NoWay" c_NoWay := ⟨PySem.W.mg_of X G a_NoWay, xe_NoWay, xs_NoWay⟩
  have X_NoBound : Xc K mg "NoBound" c_NoBound := ⟨PySem.W.mg_of X G a_NoBound, xe_NoBound, xs_NoBound⟩
  have X_TooFew : Xc K mg "TooFew" c_TooFew := ⟨PySem.W.mg_of X G a_TooFew, xe_TooFew, xs_TooFew⟩
  have X_Closed : Xc K mg "Closed" c_Closed := ⟨PySem.W.mg_of X G a_Closed, xe_Closed, xs_Closed⟩
  have X_Settled : Xc K mg "Settled" c_Settled := ⟨PySem.W.mg_of X G a_Settled, xe_Settled, xs_Settled⟩
  have X_Taken : Xc K mg "Taken" c_Taken := ⟨PySem.W.mg_of X G a_Taken, xe_Taken, xs_Taken⟩
  have X_Missing : Xc K mg "Missing" c_Missing := ⟨PySem.W.mg_of X G a_Missing, xe_Missing, xs_Missing⟩
  have X_Full : Xc K mg "Full" c_Full := ⟨PySem.W.mg_of X G a_Full, xe_Full, xs_Full⟩
  have X_NoPair : Xc K mg "NoPair" c_NoPair := ⟨PySem.W.mg_of X G a_NoPair, xe_NoPair, xs_NoPair⟩
  have X_NoWord : Xc K mg "NoWord" c_NoWord := ⟨PySem.W.mg_of X G a_NoWord, xe_NoWord, xs_NoWord⟩
  have XB_LathError : Xb K mg "LathError" c_LathError (.type "type") := ⟨X_LathError.at_, b1_LathError, b2_LathError, b3_LathError⟩
  have XI_NotARow := Xi.mk (x := "NotARow") (PySem.W.mg_of X G a_NotARow) o_NotARow_init st_NotARow at_NotARow xs_NotARow
  have XG_NotARow : Xg K c_NotARow := ⟨q1_NotARow, q7_NotARow, q8_NotARow⟩
  have XQ_NotARow : Xq K c_NotARow := ⟨XG_NotARow, q2_NotARow, q3_NotARow, q4_NotARow, q5_NotARow, q6_NotARow⟩
  have XI_NoLine := Xi.mk (x := "NoLine") (PySem.W.mg_of X G a_NoLine) o_NoLine_init st_NoLine at_NoLine xs_NoLine
  have XG_NoLine : Xg K c_NoLine := ⟨q1_NoLine, q7_NoLine, q8_NoLine⟩
  have XQ_NoLine : Xq K c_NoLine := ⟨XG_NoLine, q2_NoLine, q3_NoLine, q4_NoLine, q5_NoLine, q6_NoLine⟩
  have Z_ValueError := PySem.W.mg_none_of X G z_ValueError
  refine ⟨fd_law, fun s v => ?_, fun base _ _ => ?_⟩
  · obtain ⟨_, _, _, _, _, _, _, _, _, rfl, _, _⟩ := F_law.ex
    exact .of_eq rfl
  have D_law_cell := dnm l.prog w base X G a_law_cell F_law_cell (ok_law_cell F_law_cell T) (F_law_cell.binds2 fun _ _ _ _ _ _ _ _ => rfl)
  have D_law_mix := dnm l.prog w base X G a_law_mix F_law_mix (ok_law_mix F_law_mix ) (F_law_mix.binds2 fun _ _ _ _ _ _ _ _ => rfl)
  have D_law_row := dnm l.prog w base X G a_law_row F_law_row (ok_law_row F_law_row T D_law_cell D_law_mix) (F_law_row.binds3 fun _ _ _ _ _ _ _ _ _ => rfl)
  have D_law_number := dnm l.prog w base X G a_law_number F_law_number (ok_law_number F_law_number T D_law_row) (F_law_number.binds2 fun _ _ _ _ _ _ _ _ => rfl)
  have D_NotARow : Di l.prog w K mg base 1 "NotARow" c_NotARow := ⟨_, _, ok_NotARow_init F_NotARow_init XI_NotARow XB_LathError, XI_NotARow, (F_NotARow_init.binds2 fun _ _ _ _ _ _ _ _ => rfl), i_NotARow_init⟩
  have D_NoLine : Di l.prog w K mg base 1 "NoLine" c_NoLine := ⟨_, _, ok_NoLine_init F_NoLine_init XI_NoLine XB_LathError, XI_NoLine, (F_NoLine_init.binds2 fun _ _ _ _ _ _ _ _ => rfl), i_NoLine_init⟩
  have DX_law_thrown := dnmX l.prog w base X G a_law_thrown F_law_thrown (okX_law_thrown F_law_thrown X_NoRatio X_NoWay X_NoBound X_TooFew X_Closed X_Settled X_Taken X_Missing X_Full X_NoPair X_NoWord X_LathError D_NotARow D_NoLine) (F_law_thrown.binds2 fun _ _ _ _ _ _ _ _ => rfl)
  have D_law_kinds := dnm l.prog w base X G a_law_kinds F_law_kinds (ok_law_kinds F_law_kinds T Z_ValueError XI_NotARow XI_NoLine X_NoRatio X_NoWay X_NoBound X_TooFew X_Closed X_Settled X_Taken X_Missing X_Full X_NoPair X_NoWord X_LathError (csOk rfl rfl hxq hkit hexm) DX_law_thrown) (F_law_kinds.binds2 fun _ _ _ _ _ _ _ _ => rfl)
  have D_law_place := dnm l.prog w base X G a_law_place F_law_place (ok_law_place F_law_place T XI_NotARow XI_NoLine (csOk rfl rfl hxq hkit hexm) hsk DX_law_thrown) (F_law_place.binds2 fun _ _ _ _ _ _ _ _ => rfl)
  exact ok_law F_law T D_law_number D_law_kinds D_law_place
theorem walk {l : PySem.W.OpenLaw} {q : Program} {loose : List Str} {XP : (Str → Option Value) → Heap → Prop} {YP : World → Heap → Prop} {d : DefRec} {K : Params → PySem.W.Frag} (hn : l.most = some 63) (hdf : d.params.defaults = [])
    (hY : ∀ (w : World) (h : Heap), YP w h → (K w.params).In h)
    (F : ∀ (w : World) (mg : Str → Option Value) (fa : Addr) (h : Heap), (K w.params).In h → h.Ns mainGlobals mg → mg d.name = some (.ref fa) →
      ∃ fd : FuncData, (∀ (s : Shared) (u : Value), BindsTo s fd ⟨[u], []⟩ [("_law_script", u)]) ∧ ∀ base : Heap, (K w.params).In base → base.Ns mainGlobals mg → FnOk l.prog w (K w.params) mg base CX0 5 fa fd ["_law_script"] (spLaw (K w.params))) :
    PySem.W.WalkO q loose XP YP l.row.toRowW d [] (fun f vs => PySem.call f vs) :=
  L2.walk_of (n := 63) (k := 5) (x := "_law_script") (CX := fun _ => CX0) (sp := fun w => spLaw (K w.params)) hn (by decide) hdf ⟨rfl, by decide, by decide⟩ hY F (fun _ _ a ns hl _ hS => ⟨a, ns, rfl, hS, hl, fun _ => rfl⟩) fun _ _ _ _ _ z => z
end Lw
open PySem PySem.W PyProof.Rows
set_option maxRecDepth 100000 in
set_option maxHeartbeats 0 in
theorem PySem.Challenge.cw_lath_k17_refusals_holds : PySem.Challenge.rw_lath_k17_refusals.Holds := by
  w_on; o_law; k_head; (case hw => w_witness2)
  k_fill
  refine Lw.walk (l := PySem.Challenge.rw_lath_k17_refusals) rfl rfl (fun w h Y => PySem.W.kIn_of Y) ?F
  case F =>
    intro w mg fa h KX G hmg
    refine' Lw.all_mk KX G hmg ?a0 ?a1 ?a2 ?a3 ?a4 ?a5 ?a6 ?a7 ?a8 ?a9 ?a10 ?a11 ?a12 ?a13 ?a14 ?a15 ?a16 ?a17 ?a18 ?a19 ?a20 ?a21 ?a22 ?a23 ?a24 ?a25 ?a26 ?a27 ?a28 ?a29 ?a30 ?a31 ?a32 ?a33 ?a34 ?a35 ?a36 ?a37 ?a38 ?a39 ?a40 ?a41 ?a42 ?a43 ?a44 ?a45 ?a46 ?a47 ?a48 ?a49 ?a50 ?a51 ?a52 ?a53 ?a54 ?a55 ?a56 ?a57 ?a58 ?a59 ?a60 ?a61 ?a62 ?a63 ?a64 ?a65 ?a66 ?a67 ?a68 ?a69 ?a70 ?a71 ?a72 ?a73 ?a74 ?a75 ?a76 ?a77 ?a78 ?a79 ?a80 ?a81 ?a82 ?a83 ?a84 ?a85 ?a86 ?a87 ?a88 ?a89 ?a90 ?a91 ?a92 ?a93 ?a94 ?a95
    (case a0 => walk_at "fz"); (case a1 => walk_at "fz"); (case a2 => walk_at "fz"); (case a3 => walk_at "fz"); (case a4 => walk_at "fz"); (case a5 => walk_at "fz"); (case a6 => walk_at "fz"); (case a7 => walk_at "fz"); (case a8 => walk_at "fz"); (case a9 => walk_at "fz"); (case a10 => walk_at "fz"); (case a11 => walk_at "fz"); (case a12 => walk_at "fz"); (case a13 => walk_at "fz"); (case a14 => walk_at "fz"); (case a15 => walk_at "fz"); (case a16 => walk_at "fz"); (case a17 => walk_at "fz"); (case a18 => walk_at "fz"); (case a19 => walk_at "fz"); (case a20 => walk_at "fz"); (case a21 => walk_at "fz"); (case a22 => walk_at "fz"); (case a23 => walk_at "fz"); (case a24 => walk_at "fz"); (case a25 => walk_at "fz"); (case a26 => walk_at "fz"); (case a27 => walk_at "fz"); (case a28 => walk_at "fz"); (case a29 => walk_at "fz"); (case a30 => walk_at "fz"); (case a31 => walk_at "fz"); (case a32 => walk_at "fz"); (case a33 => walk_at "fz"); (case a34 => walk_at "fz"); (case a35 => walk_at "fz"); (case a36 => walk_at "fz"); (case a37 => walk_at "fz"); (case a38 => walk_at "fz"); (case a39 => walk_at "fz"); (case a40 => walk_at "fz"); (case a41 => walk_at "fz"); (case a42 => walk_at "fz"); (case a43 => walk_at "fz"); (case a44 => walk_at "fz"); (case a45 => walk_at "fz"); (case a46 => walk_at "fz"); (case a47 => walk_at "fz"); (case a48 => walk_at "fz"); (case a49 => walk_at "fz"); (case a50 => walk_at "fz"); (case a51 => walk_at "fz"); (case a52 => walk_at "fz"); (case a53 => walk_at "fz"); (case a54 => walk_at "fz"); (case a55 => walk_at "fz"); (case a56 => walk_at "fz"); (case a57 => walk_at "fz"); (case a58 => walk_at "fz"); (case a59 => walk_at "fz"); (case a60 => walk_at "fz"); (case a61 => walk_at "fz"); (case a62 => walk_at "fz"); (case a63 => walk_at "fz"); (case a64 => walk_at "fz"); (case a65 => walk_at "fz"); (case a66 => walk_at "fz"); (case a67 => walk_at "fz"); (case a68 => walk_at "fz"); (case a69 => walk_at "fz"); (case a70 => walk_at "fz"); (case a71 => walk_at "fz"); (case a72 => walk_at "fz"); (case a73 => walk_at "fz"); (case a74 => walk_at "fz"); (case a75 => walk_at "fz"); (case a76 => walk_at "fz"); (case a77 => walk_at "fz"); (case a78 => walk_at "fz"); (case a79 => walk_at "fz"); (case a80 => walk_at "fz"); (case a81 => walk_at "fz"); (case a82 => walk_at "fz"); (case a83 => walk_at "fz"); (case a84 => walk_at "fz"); (case a85 => walk_at "fz"); (case a86 => walk_at "fz"); (case a87 => walk_at "fz"); (case a88 => walk_at "fz"); (case a89 => walk_at "fz"); (case a90 => walk_at "fz"); (case a91 => walk_at "fz"); (case a92 => kernel_rfl); (case a93 => kernel_rfl); (case a94 => kernel_rfl); (case a95 => kernel_rfl)

