import PyProof.Rows.All
import Wide.All
import OpenK.AllK
import Wide.FinOn
import Lean
import PyProof.EqAt
import PyProof.EqKinds
import PyProof.TupleCall
import PySem.Challenge.RW_lath_k48_planted_lines
set_option Elab.async false
set_option linter.all false
set_option maxRecDepth 100000
theorem au0_ (h : 1 = 1 := by rfl) : 1 = 1 := h
theorem au1_ (h : 1 = 1 := by decide) : 1 = 1 := h
theorem au2_ (h : 1 = 1 := by intro _; rfl) : 1 = 1 := h

namespace PySem.W.Fast
def tw6552111075306141616 := ()
def tw275317090768063638 := ()
def tw11977535781952144416 := ()
def tw1985606400887516224 := ()
def tw9714229438436134272 := ()
def tw12306536786962521600 := ()
def tw7199948404164310592 := ()
def tw483873558443860640 := ()
def tw14894838170726920032 := ()
def tw852422163727874049 := ()
def tw11597329549518867649 := ()
def tw2798700202928683201 := ()
def tw8735971084481303841 := ()
def tw15838745580302981537 := ()
def tw1402788765082260449 := ()
def tw3703670663951230018 := ()
def tw9282228588836333698 := ()
def tw11253602912661239970 := ()
def tw5164790129466407138 := ()
def tw16935525475098539266 := ()
def tw3401010945596983586 := ()
def tw9180892156234355074 := ()
def tw15736428899432251810 := ()
def tw14880721609748395426 := ()
def tw14442596386818641410 := ()
def tw12736245992385804866 := ()
def tw9254014735568582274 := ()
def tw17372785944503134914 := ()
def tw6928276743221922594 := ()
def tw17561163022637228866 := ()
def tw2357440329326936227 := ()
def tw16213260796419266819 := ()
def tw17665603938824597795 := ()
def tw7962743551456379171 := ()
def tw13137732169978102243 := ()
def tw9461183427803012611 := ()
def tw3932948585070865059 := ()
def tw10949819495705936579 := ()
def tw6585117115723391811 := ()
def tw7204147477321957219 := ()
def tw18016168593512775619 := ()
def tw2980481588941587652 := ()
def tw15618434032691679460 := ()
def tw5548648181559372036 := ()
def tw9864514994651700484 := ()
def tw2092435637098742148 := ()
def tw14149429719576563076 := ()
def tw10341598564532961764 := ()
def tw10860289006716972676 := ()
def tw10393236109624144516 := ()
def tw10133280612480101124 := ()
def tw10950901635869007748 := ()
def tw16753611789879207908 := ()
def tw3094535929097454597 := ()
def tw44754834630836261 := ()
def tw11096695161913837861 := ()
def tw9065332165570185669 := ()
def tw3433041084153793445 := ()
def tw14372600928048183462 := ()
def tw17797473853532086534 := ()
def tw13675652072705761606 := ()
def tw14789256216659408422 := ()
def tw1767645186790770246 := ()
def tw12147030453635356262 := ()
def tw6291294791486460582 := ()
def tw3422114432103657254 := ()
def tw17030126531009242950 := ()
def tw6377120149746473830 := ()
def tw2039875486648749958 := ()
def tw5950429784105445286 := ()
def tw7383538719780588454 := ()
def tw14404683552023598022 := ()
def tw16173365551912807431 := ()
def tw2864384787143809383 := ()
def tw7709930292414042471 := ()
def tw12994082151864401351 := ()
def tw10954415520424975847 := ()
def tw13997334470195504743 := ()
def tw5949033250259480423 := ()
def tw17220810305160415143 := ()
def tw5122355389403496456 := ()
def tw15718258032983675912 := ()
def tw3858240362159749160 := ()
def tw5892063426851321192 := ()
def tw15622971554220305128 := ()
def tw3964944906050841352 := ()
def tw7545988530440580137 := ()
def tw1470274461010164777 := ()
def tw18105274568333538473 := ()
def tw11615801060647206121 := ()
def tw4452974211824908585 := ()
def tw16650330241222083913 := ()
def tw12097293356167074217 := ()
def tw9318834186539895337 := ()
def tw8374493301748380265 := ()
def tw13181926432397772553 := ()
def tw4035804918275982089 := ()
def tw4709323455761872713 := ()
def tw675016748625047433 := ()
def tw3380846757671631817 := ()
def tw12431378292263062602 := ()
def tw17371381963534025802 := ()
def tw4971883417519818922 := ()
def tw16386787072547431754 := ()
def tw362697768904840554 := ()
def tw7100784631822013866 := ()
def tw2292442905262754250 := ()
def tw6476050975177674218 := ()
def tw4756042551563304522 := ()
def tw9008005628683123274 := ()
def tw15374304790010265226 := ()
def tw2588591159473132234 := ()
def tw6478399185964728106 := ()
def tw15113383549160826891 := ()
def tw12221070315295227915 := ()
def tw14575761443923325995 := ()
def tw5805778009151780011 := ()
def tw10468514560719815915 := ()
def tw3867741172754950379 := ()
def tw14100606434039722219 := ()
def tw1389437720687477003 := ()
def tw7306418603912310027 := ()
def tw4722110854040533259 := ()
def tw7598300082047255915 := ()
def tw16599828778829509003 := ()
def tw9920101741519434123 := ()
def tw15139471338155919851 := ()
def tw8022778189895210507 := ()
def tw4377010664123680299 := ()
def tw17264085386485645035 := ()
def tw2140212726689070923 := ()
def tw12085081056242132875 := ()
def tw3852362248275789739 := ()
def tw9591770830545731531 := ()
def tw10219281210495775691 := ()
def tw755553847385510859 := ()
def tw13742643704535010316 := ()
def tw8177339419790732396 := ()
def tw15336064935160684716 := ()
def tw7113339154406068620 := ()
def tw7826405739348256524 := ()
def tw17490582769223730028 := ()
def tw8669507628253991949 := ()
def tw10477716434163268717 := ()
def tw10848529859817939341 := ()
def tw9025219094274720205 := ()
def tw1657301036860695085 := ()
def tw3303439041284629133 := ()
def tw1309377453029938861 := ()
def tw699957169589629709 := ()
def tw12762348350096952109 := ()
def tw14291104150892209965 := ()
def tw7521641893976432461 := ()
def tw4149068988980039533 := ()
def tw12347675852214490061 := ()
def tw17203454610450698221 := ()
def tw16138633962780530734 := ()
def tw11412080641910985966 := ()
def tw7645400869968521486 := ()
def tw3168055224037548398 := ()
def tw8932908372332134766 := ()
def tw7867109878096987534 := ()
def tw6781663904886151566 := ()
def tw17106078977105948302 := ()
def tw18282738602731731726 := ()
def tw2117595627556593518 := ()
def tw13384265451686522798 := ()
def tw12559887396235637710 := ()
def tw7764077168059709422 := ()
def tw10569350878698413135 := ()
def tw199340994547558671 := ()
def tw3922188634295826735 := ()
def tw16383236652424263119 := ()
def tw11172865457690186351 := ()
def tw16196173312529365647 := ()
def tw12669942519550140175 := ()
def tw16301275183063286575 := ()
def tw111036732871870544 := ()
def tw3813642486140563568 := ()
def tw8166361870236630128 := ()
def tw1129291241764785392 := ()
def tw9095816091934495120 := ()
def tw2736495898956849552 := ()
def tw12864423758202703312 := ()
def tw11653922590799885840 := ()
def tw17781090248269782576 := ()
def tw12181106869987077712 := ()
def tw4748874449742372528 := ()
def tw12646975516378301617 := ()
def tw2895521419313294577 := ()
def tw14589179382951103825 := ()
def tw2454573268597495121 := ()
def tw18065493139994302865 := ()
def tw2958784552297892337 := ()
def tw11438568037427564145 := ()
def tw5067712995200980689 := ()
def tw1075781096364245809 := ()
def tw16942777630971431761 := ()
def tw9840597036895148881 := ()
def tw9183765387297294257 := ()
def tw11048879342225260529 := ()
def tw12420761414759973906 := ()
def tw6577193095133568210 := ()
def tw139136726009956594 := ()
def tw9668076744870400338 := ()
def tw5885156570114336306 := ()
def tw13812857736141336114 := ()
def tw5623440853483382354 := ()
def tw61286520044335698 := ()
def tw1025590129297101426 := ()
def tw13519543775497429746 := ()
def tw193717472795090706 := ()
def tw7670593637548573522 := ()
def tw14678022579536379923 := ()
def tw6874042014523565139 := ()
def tw3140939577968524371 := ()
def tw17191662828357013715 := ()
def tw367562733015596467 := ()
def tw17098313149544693235 := ()
def tw11791922401066113651 := ()
def tw12847311071252080403 := ()
def tw4804368626979435411 := ()
def tw15356105950059185075 := ()
def tw6607022192137440436 := ()
def tw8328976474943473908 := ()
def tw14116432575406096660 := ()
def tw637840469751261652 := ()
def tw5159092702251230708 := ()
def tw15182985927621738996 := ()
def tw8295637254128595572 := ()
def tw8237314505036396180 := ()
def tw1854743941777622708 := ()
def tw1164224147697222548 := ()
def tw14792317222462024692 := ()
def tw1003672523885230101 := ()
def tw3800657730758076469 := ()
def tw11244226890014820533 := ()
def tw2600088923800579285 := ()
def tw4816170139070562677 := ()
def tw986506909407192469 := ()
def tw8126450506349908405 := ()
def tw16922387480402950677 := ()
def tw2550537334156264021 := ()
def tw8441420682064598709 := ()
def tw660059631024613173 := ()
def tw5801097336355479381 := ()
def tw7362835222834852757 := ()
def tw8080471476234527766 := ()
def tw5136616887411425462 := ()
def tw7699767207898050806 := ()
def tw7338003401656927542 := ()
def tw13056511978309486934 := ()
def tw14007773310363321686 := ()
def tw13110324466757457270 := ()
def tw3456778657708654006 := ()
def tw1343727192386819606 := ()
def tw8045225696799602230 := ()
def tw2495549035665869462 := ()
def tw6660546771219525334 := ()
def tw14228433008663714550 := ()
def tw15358760401186115446 := ()
def tw6782114724480248790 := ()
def tw16419444613489757174 := ()
def tw1650037114239170583 := ()
def tw18263247126035854423 := ()
def tw17474443948071726231 := ()
def tw14390959757036784887 := ()
def tw13674363009039910135 := ()
def tw1578731259572604183 := ()
def tw2699426111502188855 := ()
def tw14951960318814777783 := ()
def tw915179000640387511 := ()
def tw15141621294147575287 := ()
def tw9445492786484838935 := ()
def tw15893489646702397015 := ()
def tw9464140442911140439 := ()
def tw14924156524985983735 := ()
def tw11848307617683571447 := ()
def tw804851391953978231 := ()
def tw8131467406935585655 := ()
def tw14466326887139211127 := ()
def tw11868981153623757719 := ()
def tw2435472415741440983 := ()
def tw16063532408985670968 := ()
def tw4540574352865364312 := ()
def tw5281717786059983256 := ()
def tw15216663004875511224 := ()
def tw14065525668897791416 := ()
def tw5431135510500534776 := ()
def tw13170033885908282904 := ()
def tw1315023439703861816 := ()
def tw7867921787441439320 := ()
def tw18044763800483416696 := ()
def tw12227314200113044184 := ()
def tw13569211941778151192 := ()
def tw15821446628539262776 := ()
def tw6381910042732094328 := ()
def tw9980337333484901304 := ()
def tw17187505554645469176 := ()
def tw11200674768430270521 := ()
def tw7232514975029958713 := ()
def tw6890495485699902521 := ()
def tw2149926583793250393 := ()
def tw950562709575168217 := ()
def tw4550829796506423929 := ()
def tw13716783794392768185 := ()
def tw4707920104109868857 := ()
def tw8195701710525693849 := ()
def tw7666042392612487226 := ()
def tw11450343315460054138 := ()
def tw13903645192841111706 := ()
def tw7532625019806711962 := ()
def tw15873097626827468986 := ()
def tw5786870334439630042 := ()
def tw9572544992959675706 := ()
def tw14719574669748317562 := ()
def tw10953457716229443034 := ()
def tw15987545925207252538 := ()
def tw1035873905226469114 := ()
def tw7907320141376474906 := ()
def tw2072161581825854266 := ()
def tw1025674807415938970 := ()
def tw13820110192014541818 := ()
def tw13380017264645464187 := ()
def tw17469991269656981787 := ()
def tw12456572081067676027 := ()
def tw17961678411449123195 := ()
def tw17375614710473184699 := ()
def tw5534069698800517723 := ()
def tw16040064270112801403 := ()
def tw14184955227749519195 := ()
def tw10685643051987735387 := ()
def tw16700944998914317179 := ()
def tw11655437900510495772 := ()
def tw13074137780350644284 := ()
def tw15891170872205278492 := ()
def tw16538879472420424988 := ()
def tw3314901630972070268 := ()
def tw16183069323508082076 := ()
def tw1337169240025434812 := ()
def tw6274228211071711996 := ()
def tw12226349832934701916 := ()
def tw8514327933141128028 := ()
def tw14432464526533368893 := ()
def tw1350715472525948989 := ()
def tw1796372822033492125 := ()
def tw17122384963736710333 := ()
def tw4381902675142162685 := ()
def tw6700641881471932733 := ()
def tw4259095621420016957 := ()
def tw5259935815529301373 := ()
def tw4907390278003372445 := ()
def tw6724027903289808317 := ()
def tw4338769481125576189 := ()
def tw14253043572332775965 := ()
def tw17168947433228010109 := ()
def tw6192152125201535677 := ()
def tw10102610282192532221 := ()
def tw13912218453375955741 := ()
def tw16721202755010035581 := ()
def tw3230853868655611773 := ()
def tw6606267088772917245 := ()
def tw14342426228237280318 := ()
def tw393415335107152126 := ()
def tw16819232057605620126 := ()
def tw10405217339475032478 := ()
def tw15493098724976413182 := ()
def tw962674886633542302 := ()
def tw9711848547499601598 := ()
def tw13182310683031150334 := ()
def tw11183894121998715710 := ()
def tw8239810563925695326 := ()
def tw5374416059675839486 := ()
def tw7338217398149317855 := ()
def tw9036988789359018303 := ()
def tw7555384812520417887 := ()
def tw113132850011870847 := ()
def tw5691914808584945279 := ()
def tw13847816651308659391 := ()
def tw16592196597556463295 := ()
def tw2386389616753809087 := ()
def tw9966433485583641311 := ()
def tw31282084658004735 := ()
end PySem.W.Fast

namespace L2
open PySem PySem.Spec PyProof.Rows

noncomputable abbrev Key := Sum Int Str
noncomputable def keyIs : Key → Value → Bool
  | .inl k, v => Value.isInt k v
  | .inr x, v => Value.isStrOf x v
noncomputable def keyH (w : World) : Key → Int
  | .inl k => hashInt k
  | .inr x => hashStr w x
theorem keyIs_shape : ∀ {k : Key} {v : Value}, keyIs k v = true → (∃ i t, k = Sum.inl i ∧ v = Value.int i t) ∨ (∃ x t, k = Sum.inr x ∧ v = Value.str x t)
  | .inl i, v, h => by
    obtain ⟨t, e⟩ := Value.isInt_shape (k := i) (v := v) h
    exact .inl ⟨i, t, rfl, e⟩
  | .inr x, v, h => by
    obtain ⟨t, e⟩ := Value.isStrOf_shape (x := x) (v := v) h
    exact .inr ⟨x, t, rfl, e⟩
theorem key_ll (a b : Int) : decide ((Sum.inl a : Key) = Sum.inl b) = (a == b) := by
  by_cases e : a = b
  · subst e; simp
  · have h : ¬ (Sum.inl a : Key) = Sum.inl b := fun q => e (Sum.inl.inj q)
    rw [decide_eq_false h]
    exact (beq_eq_false_iff_ne.mpr e).symm
theorem key_rr (a b : Str) : decide ((Sum.inr a : Key) = Sum.inr b) = decide (a = b) := by
  by_cases e : a = b
  · subst e; simp
  · have h : ¬ (Sum.inr a : Key) = Sum.inr b := fun q => e (Sum.inr.inj q)
    rw [decide_eq_false h, decide_eq_false e]
theorem key_lr (a : Int) (b : Str) : decide ((Sum.inl a : Key) = Sum.inr b) = false := decide_eq_false (fun q => nomatch q)
theorem key_rl (a : Str) (b : Int) : decide ((Sum.inr a : Key) = Sum.inl b) = false := decide_eq_false (fun q => nomatch q)

noncomputable def mixKind (prog : Program) (w : World) : PySem.KeyKind prog w Key where
  is := keyIs
  hash := keyH w
  inj := fun v a b ha hb => by
    rcases keyIs_shape ha with ⟨i, t, rfl, rfl⟩ | ⟨x, t, rfl, rfl⟩
    · rcases keyIs_shape hb with ⟨j, u, rfl, e⟩ | ⟨y, u, rfl, e⟩
      · injection e with e1 _; rw [e1]
      · exact nomatch e
    · rcases keyIs_shape hb with ⟨j, u, rfl, e⟩ | ⟨y, u, rfl, e⟩
      · exact nomatch e
      · injection e with e1 _; rw [e1]
  byValue := fun k v h => by
    rcases keyIs_shape h with ⟨i, t, rfl, rfl⟩ | ⟨x, t, rfl, rfl⟩ <;> rfl
  pyHash := fun hv h => by
    rcases keyIs_shape hv with ⟨i, t, rfl, rfl⟩ | ⟨x, t, rfl, rfl⟩
    · exact wpAny_pyHash_int h
    · exact wpAny_pyHash_str h
  eqBool := fun hu hv h => by
    rcases keyIs_shape hu with ⟨i, t, rfl, rfl⟩ | ⟨x, t, rfl, rfl⟩
    · rcases keyIs_shape hv with ⟨j, u, rfl, rfl⟩ | ⟨y, u, rfl, rfl⟩
      · rw [key_ll] at h; exact wpAny_eqBool_int h
      · rw [key_lr] at h; exact SeqAt.EqAt.int_str i t y u _ _ _ _ h
    · rcases keyIs_shape hv with ⟨j, u, rfl, rfl⟩ | ⟨y, u, rfl, rfl⟩
      · rw [key_rl] at h; exact SeqAt.EqAt.str_int x t j u _ _ _ _ h
      · rw [key_rr] at h; exact wpAny_eqBool_str h
  «strs» := fun k x t v h => by
    rcases keyIs_shape h with ⟨i, u, rfl, e⟩ | ⟨y, u, rfl, e⟩
    · exact nomatch e
    · injection e with e1 _
      subst e1
      cases v <;> rfl

end L2

namespace L2
open PySem PySem.Spec PyProof.Rows

inductive V where
  | non | bl (b : Bool) | int (i : Int) | str (x : Str) | byt (b : Array UInt8) | flt (b : UInt64) | ref (a : Addr) | ty (n : String)
  deriving DecidableEq

noncomputable def RelV : V → Value → Prop
  | .non, u => u = Value.none
  | .bl b, u => u = Value.bool b
  | .int i, u => ∃ t, u = Value.int i t
  | .str x, u => ∃ t, u = Value.str x t
  | .byt b, u => ∃ t, u = Value.bytes b t
  | .flt b, u => ∃ t, u = Value.float b t
  | .ref a, u => u = Value.ref a
  | .ty n, u => u = Value.type n

noncomputable abbrev Vals : List V → List Value → Prop := Paired RelV
theorem Vals.length {xs : List V} {us : List Value} (r : Vals xs us) : xs.length = us.length := Paired.length r
theorem Vals.get : ∀ {xs : List V} {us : List Value} {i : Nat} {x : V}, Vals xs us → xs[i]? = some x → ∃ u, us[i]? = some u ∧ RelV x u
  | _, _, _, _, .nil, e => by simp at e
  | _, _, 0, _, .cons r _, e => by simp at e; subst e; exact ⟨_, rfl, r⟩
  | _, _, i + 1, x, .cons _ t, e => by
    obtain ⟨u, h1, h2⟩ := Vals.get (i := i) (x := x) t (by simpa using e)
    exact ⟨u, by simpa using h1, h2⟩
theorem Vals.append : ∀ {xs ys : List V} {us ws : List Value}, Vals xs us → Vals ys ws → Vals (xs ++ ys) (us ++ ws)
  | _, _, _, _, .nil, s => s
  | _, _, _, _, .cons r t, s => .cons r (Vals.append t s)
theorem Vals.take : ∀ {xs : List V} {us : List Value} (n : Nat), Vals xs us → Vals (xs.take n) (us.take n)
  | _, _, 0, _ => .nil
  | _, _, _ + 1, .nil => .nil
  | _, _, n + 1, .cons r t => .cons r (Vals.take n t)
theorem Vals.drop : ∀ {xs : List V} {us : List Value} (n : Nat), Vals xs us → Vals (xs.drop n) (us.drop n)
  | _, _, 0, r => r
  | _, _, _ + 1, .nil => .nil
  | _, _, n + 1, .cons _ t => Vals.drop n t
noncomputable def RelO : Option V → Option Value → Prop
  | some v, some u => RelV v u
  | none, none => True
  | _, _ => False
noncomputable def KV {κ : Type} : List (κ × V) → List (κ × Value) → Prop := Paired fun (p : κ × V) (q : κ × Value) => p.1 = q.1 ∧ RelV p.2 q.2

noncomputable def kV : Key → V
  | .inl i => .int i
  | .inr x => .str x

inductive HO where
  /-- a list -/
  | lst (xs : List V)
  /-- a tuple (never changes) -/
  | tup (xs : List V)
  /-- a dict whose keys are ints and texts; one whose keys are tuples of ints and texts (the empty one is both) -/
  | dK (kvs : List (Key × V)) | dT (kvs : List (List Key × V))
  /-- a set of ints: its members, its size -/
  | set (S : Int → Bool) (n : Nat)
  /-- an instance of the class at C, its dict at dx, its attributes -/
  | ins (C dx : Addr) (fs : List (Str × V))
  /-- the dict of the instance at x -/
  | own (x : Addr)
  /-- the dict of an exception -/
  | xd (fs : List (Str × V))
  /-- a bound method, f of x -/
  | met (f x : Addr)
  /-- a range object lo, lo + 1, .. below hi -/
  | rng (lo hi : Int)
  /-- a thing that is known to the object (the script; a dict while a loop walks it): read, never written while it is so -/
  | frz (o : Obj) (u : HO)
  /-- a code object's table -/
  | tbl (ps : Array Value)
  /-- any other thing, by what is true of its one object (a def of one's own: SetO a S n := HO.ext fun h => ..) -/
  | ext (φ : Heap → Prop)

noncomputable abbrev Hp := Addr → Option HO
noncomputable def upd (H : Hp) (a : Addr) (o : HO) : Hp := fun b => if b = a then some o else H b
theorem upd_same {H : Hp} {a : Addr} {o : HO} : upd H a o a = some o := by unfold upd; rw [if_pos rfl]
theorem upd_ne {H : Hp} {a b : Addr} {o : HO} (h : b ≠ a) : upd H a o b = H b := by unfold upd; rw [if_neg h]
theorem upd_upd {H : Hp} {a : Addr} {o u : HO} : upd (upd H a o) a u = upd H a u := by
  funext b; unfold upd; split <;> rfl
theorem ne_of_none {H : Hp} {a b : Addr} {o : HO} (h : H a = some o) (h' : H b = none) : a ≠ b := by
  intro e; subst e; rw [h] at h'; cases h'

section
variable (P : Program) (w : World)
noncomputable def ObjOk (H : Hp) (h : Heap) (a : Addr) : HO → Prop
  | .lst xs => xs.length ≤ sizeLine ∧ ∃ (its : List Value) (n : Nat), Vals xs its ∧ h.get? a = some { cls := .type "list", data := .seq its.toArray n }
  | .tup xs => xs.length ≤ sizeLine ∧ ∃ its : List Value, Vals xs its ∧ IsTup h a its.toArray
  | .dK kvs => kvs.length ≤ sizeLine ∧ (a == sysModules) = false ∧ ∃ vs, KV kvs vs ∧ h.DictOf (mixKind P w) a vs
  | .dT kvs => kvs.length ≤ sizeLine ∧ (a == sysModules) = false ∧ ∃ xs : List (List Key × Addr × Value),
      Paired (fun (p : List Key × V) (q : List Key × Addr × Value) => p.1 = q.1 ∧ H q.2.1 = some (.tup (p.1.map kV)) ∧ RelV p.2 q.2.2) kvs xs ∧
      ∃ o es ep, h.get? a = some o ∧ o.ExactDict ∧ o.data = .dict es ep ∧ es.toList = xs.map (entryOfKey (tupleKind (mixKind P w))) ∧ (xs.map (·.1)).Nodup
  | .set S n => h.SetOf (intKind P w) a S n
  | .ins C dx fs => H dx = some (.own a) ∧ fs.length ≤ 1000 ∧ dx ≠ a ∧ h.get? a = some (PySem.W.instObj C dx) ∧
      ∃ mA, h.Ns1 dx mA ∧ (∀ f, RelO (fs.lookup f) (mA f)) ∧ PySem.Within mA (fs.map (·.1))
  | .own _ => ∃ o, h.get? a = some o
  | .xd fs => ∃ mA, h.Ns1 a mA ∧ ∀ f, RelO (fs.lookup f) (mA f)
  | .rng lo hi => ∃ t u v, h.get? a = some { cls := .type "range", data := .fields #[.int lo t, .int hi u, .int 1 v] }
  | .frz o u => h.get? a = some o ∧ ObjOk H h a u
  | .tbl ps => h.get? a = some { cls := .none, data := .fields ps }
  | .met f x => h.get? a = some (PySem.W.methodObj (.ref f) (.ref x))
  | .ext φ => φ h ∧ (∃ o, h.get? a = some o) ∧ ∀ h1 h2 : Heap, φ h1 → (∀ o, h1.get? a = some o → h2.get? a = some o) → φ h2
noncomputable def HOk (H : Hp) (h : Heap) : Prop := ∀ a o, H a = some o → ObjOk P w H h a o
end

section
variable {P : Program} {w : World} {H H' : Hp} {h h' : Heap} {a : Addr} {o : HO}
theorem ObjOk.lt (x : ObjOk P w H h a o) : a < h.objs.size := by
  cases o with
  | lst xs => obtain ⟨_, _, _, _, e⟩ := x; exact Heap.lt_size e
  | tup xs => obtain ⟨_, _, _, p⟩ := x; exact p.lt
  | dK kvs => obtain ⟨_, _, _, _, o, _, _, e, _⟩ := x; exact Heap.lt_size e
  | dT kvs => obtain ⟨_, _, _, _, o, _, _, e, _⟩ := x; exact Heap.lt_size e
  | set S n => obtain ⟨o, _, _, _, e, _⟩ := x; exact Heap.lt_size e
  | ins C dx fs => obtain ⟨_, _, _, e, _⟩ := x; exact Heap.lt_size e
  | own y => obtain ⟨_, e⟩ := x; exact Heap.lt_size e
  | xd fs => obtain ⟨_, ⟨_, _, _, e, _⟩, _⟩ := x; exact Heap.lt_size e
  | rng lo hi => obtain ⟨_, _, _, e⟩ := x; exact Heap.lt_size e
  | frz ob u => obtain ⟨e, _⟩ := x; exact Heap.lt_size e
  | tbl ps => exact Heap.lt_size (show h.get? a = some _ from x)
  | met f y => exact Heap.lt_size (show h.get? a = some _ from x)
  | ext φ => obtain ⟨_, ⟨_, e⟩, _⟩ := x; exact Heap.lt_size e
theorem Paired.mapP {α β : Type} {F G : α → β → Prop} : ∀ {l₁ : List α} {l₂ : List β}, Paired F l₁ l₂ → (∀ a b, F a b → G a b) → Paired G l₁ l₂
  | _, _, .nil, _ => .nil
  | _, _, .cons r t, f => .cons (f _ _ r) (Paired.mapP t f)
theorem ObjOk.stay (x : ObjOk P w H h a o) (k : ∀ b u, (b = a ∨ H b = some (.own a)) → h.get? b = some u → h'.get? b = some u)
    (ho : ∀ b, H b = some (.own a) → H' b = some (.own a)) (ht : ∀ b xs, H b = some (.tup xs) → H' b = some (.tup xs)) : ObjOk P w H' h' a o := by
  induction o with
  | lst xs => obtain ⟨z, its, n, r, e⟩ := x; exact ⟨z, its, n, r, k _ _ (.inl rfl) e⟩
  | tup xs => obtain ⟨z, its, r, ob, e, c⟩ := x; exact ⟨z, its, r, ob, k _ _ (.inl rfl) e, c⟩
  | dK kvs => obtain ⟨z, y, vs, r, ob, es, ep, e, c⟩ := x; exact ⟨z, y, vs, r, ob, es, ep, k _ _ (.inl rfl) e, c⟩
  | dT kvs =>
    obtain ⟨z, y, xs, r, ob, es, ep, e, c⟩ := x
    exact ⟨z, y, xs, Paired.mapP r fun p q z => ⟨z.1, ht _ _ z.2.1, z.2.2⟩, ob, es, ep, k _ _ (.inl rfl) e, c⟩
  | set S n => obtain ⟨ob, es, ep, t, e, c⟩ := x; exact ⟨ob, es, ep, t, k _ _ (.inl rfl) e, c⟩
  | ins C dx fs =>
    obtain ⟨d, z, ne, e, mA, ⟨od, es, ep, e2, c⟩, r⟩ := x
    exact ⟨ho _ d, z, ne, k _ _ (.inl rfl) e, mA, ⟨od, es, ep, k _ _ (.inr d) e2, c⟩, r⟩
  | own y => obtain ⟨ob, e⟩ := x; exact ⟨ob, k _ _ (.inl rfl) e⟩
  | xd fs => obtain ⟨mA, ⟨od, es, ep, e, c⟩, r⟩ := x; exact ⟨mA, ⟨od, es, ep, k _ _ (.inl rfl) e, c⟩, r⟩
  | rng lo hi => obtain ⟨t, u, v, e⟩ := x; exact ⟨t, u, v, k _ _ (.inl rfl) e⟩
  | frz ob u ih => obtain ⟨e, q⟩ := x; exact ⟨k _ _ (.inl rfl) e, ih q⟩
  | tbl ps =>
    have e : h.get? a = some { cls := .none, data := .fields ps } := x
    show h'.get? a = some { cls := .none, data := .fields ps }
    exact k a _ (.inl rfl) e
  | met f y =>
    have e : h.get? a = some (PySem.W.methodObj (.ref f) (.ref y)) := x
    show h'.get? a = some (PySem.W.methodObj (.ref f) (.ref y))
    exact k a _ (.inl rfl) e
  | ext φ => obtain ⟨p, ⟨o, e⟩, st⟩ := x; exact ⟨st _ _ p fun o q => k _ _ (.inl rfl) q, ⟨o, k _ _ (.inl rfl) e⟩, st⟩
theorem HOk.lt (x : HOk P w H h) (e : H a = some o) : a < h.objs.size := (x a o e).lt
theorem HOk.fresh (x : HOk P w H h) (e : h.objs.size ≤ a) : H a = none := by
  cases q : H a with
  | none => rfl
  | some u => exact absurd (Nat.lt_of_lt_of_le (x.lt q) e) (Nat.lt_irrefl _)
theorem HOk.kept (x : HOk P w H h) (k : ∀ b u, h.get? b = some u → h'.get? b = some u) : HOk P w H h' := fun a o e =>
  (x a o e).stay (fun b u _ q => k b u q) (fun _ q => q) fun _ _ q => q
theorem HOk.laid (x : HOk P w H h) (k : ∀ b u, h.get? b = some u → h'.get? b = some u) (hp : h.objs.size ≤ a) (new : ObjOk P w (upd H a o) h' a o) : HOk P w (upd H a o) h' := fun b u e => by
  have hn := x.fresh hp
  by_cases hb : b = a
  · subst hb; rw [upd_same] at e; cases e; exact new
  · rw [upd_ne hb] at e
    exact (x b u e).stay (fun c v _ q => k c v q) (fun c q => by rw [upd_ne (ne_of_none q hn)]; exact q) fun c xs q => by rw [upd_ne (ne_of_none q hn)]; exact q
end

noncomputable def Rd (H : Hp) (a : Addr) (u : HO) : Prop := H a = some u ∨ ∃ o, H a = some (.frz o u)
theorem Rd.ok {P : Program} {w : World} {H : Hp} {h : Heap} {a : Addr} {u : HO} (r : Rd H a u) (x : HOk P w H h) : ObjOk P w H h a u := by
  rcases r with r | ⟨o, r⟩
  · exact x a u r
  · obtain ⟨_, q⟩ := x a _ r
    exact q
noncomputable def Mut : Option HO → Prop
  | some (.lst _) => True
  | some (.dK _) => True
  | some (.dT _) => True
  | some (.set _ _) => True
  | some (.ins _ _ _) => True
  | some (.ext _) => True
  | _ => False
section
variable {P : Program} {w : World} {H : Hp} {h h' : Heap} {x e : Addr} {o' : HO}
theorem HOk.write (ok : HOk P w H h) (mu : Mut (H x)) (he : e = x ∨ H e = some (.own x)) (k : ∀ b u, b ≠ e → h.get? b = some u → h'.get? b = some u) (heo : ∃ u, h'.get? e = some u)
    (new : ObjOk P w (upd H x o') h' x o') : HOk P w (upd H x o') h' := fun b u q => by
  have nown : ∀ c y, H c = some (.own y) → c ≠ x := fun c y r z => by subst z; rw [r] at mu; exact mu
  have ntup : ∀ c xs, H c = some (.tup xs) → c ≠ x := fun c xs r z => by subst z; rw [r] at mu; exact mu
  by_cases hb : b = x
  · subst hb; rw [upd_same] at q; cases q; exact new
  · rw [upd_ne hb] at q
    by_cases hbe : b = e
    · have q' : H b = some (.own x) := by
        rcases he with z | z
        · exact absurd (hbe.trans z) hb
        · rw [hbe]; exact z
      rw [q] at q'; cases q'
      obtain ⟨v, hv⟩ := heo
      exact ⟨v, by rw [hbe]; exact hv⟩
    · refine (ok b u q).stay (fun c v hc r => k c v ?_ r) (fun c r => by rw [upd_ne (nown c b r)]; exact r) fun c xs r => by rw [upd_ne (ntup c xs r)]; exact r
      rcases hc with rfl | hc
      · exact hbe
      · rintro rfl
        rcases he with z | z
        · exact nown c b hc z
        · rw [hc] at z; cases z; exact hb rfl
end

structure Un (fs ex : List Addr) (H H' : Hp) (h h' : Heap) : Prop where
  keep : ∀ b o, h.get? b = some o → H b = none → b ∉ fs → b ∉ ex → h'.get? b = some o
  slot : ∀ b o, h.get? b = some o → H b = none → b ∈ fs → b ∉ ex → ∃ sl, h'.get? b = some { o with slots := sl }
  free : ∀ b o, h.get? b = some o → H b = none → b ∉ ex → H' b = none
  there : ∀ b o, h.get? b = some o → b ∉ ex → ∃ o', h'.get? b = some o'
  tups : ∀ b xs, H b = some (.tup xs) → H' b = some (.tup xs)
  frzs : ∀ b o u, H b = some (.frz o u) → H' b = some (.frz o u)
  tbls : ∀ b ps, H b = some (.tbl ps) → ∃ more, H' b = some (.tbl (ps ++ more))
section
variable {fs fs' ex ex' : List Addr} {H H1 H2 : Hp} {h h1 h2 h' : Heap} {a x e : Addr} {o : HO}
theorem Un.any (u : Un fs ex H H1 h h1) {b : Addr} {ob : Obj} (q : h.get? b = some ob) (n : H b = none) (hx : b ∉ ex) : ∃ sl, h1.get? b = some { ob with slots := sl } := by
  by_cases hb : b ∈ fs
  · exact u.slot b ob q n hb hx
  · exact ⟨ob.slots, u.keep b ob q n hb hx⟩
theorem Un.kept (k : ∀ b u, h.get? b = some u → h'.get? b = some u) : Un fs ex H H h h' :=
  ⟨fun b ob q _ _ _ => k b ob q, fun b ob q _ _ _ => ⟨ob.slots, k b ob q⟩, fun _ _ _ n _ => n, fun b ob q _ => ⟨ob, k b ob q⟩, fun _ _ q => q, fun _ _ _ q => q, fun _ ps q => ⟨#[], by rw [q]; simp⟩⟩
theorem Un.refl : Un fs ex H H h h := Un.kept fun _ _ q => q
theorem Un.laid (k : ∀ b u, h.get? b = some u → h'.get? b = some u) (hp : h.objs.size ≤ a) (hn : H a = none) : Un fs ex H (upd H a o) h h' where
  keep := fun b u q _ _ _ => k b u q
  slot := fun b u q _ _ _ => ⟨u.slots, k b u q⟩
  free := fun b u q n _ => by rw [upd_ne (Nat.ne_of_lt (Nat.lt_of_lt_of_le (Heap.lt_size q) hp))]; exact n
  there := fun b u q _ => ⟨u, k b u q⟩
  tups := fun b xs q => by rw [upd_ne (ne_of_none q hn)]; exact q
  frzs := fun b u xs q => by rw [upd_ne (ne_of_none q hn)]; exact q
  tbls := fun b ps q => ⟨#[], by rw [upd_ne (ne_of_none q hn), q]; simp⟩
theorem Un.write (mu : Mut (H x)) (he : e = x ∨ H e = some (.own x)) (k : ∀ b u, b ≠ e → h.get? b = some u → h'.get? b = some u) (heo : ∃ u, h'.get? e = some u) : Un fs ex H (upd H x o) h h' := by
  have hx : ∀ b, H b = none → b ≠ x := fun b n z => by subst z; rw [n] at mu; exact mu
  have hb : ∀ b, H b = none → b ≠ e := fun b n z => by
    subst z
    rcases he with r | r
    · exact hx b n r
    · rw [n] at r; cases r
  have hm : ∀ b u, H b = some u → ¬ Mut (some u) → b ≠ x := fun b u q nm z => by subst z; rw [q] at mu; exact nm mu
  refine ⟨fun b u q n _ _ => k b u (hb b n) q, fun b u q n _ _ => ⟨u.slots, k b u (hb b n) q⟩, fun b u q n _ => by rw [upd_ne (hx b n)]; exact n, fun b u q _ => ?_,
    fun b xs q => by rw [upd_ne (hm b _ q fun z => z)]; exact q, fun b u xs q => by rw [upd_ne (hm b _ q fun z => z)]; exact q, fun b ps q => ⟨#[], by rw [upd_ne (hm b _ q fun z => z), q]; simp⟩⟩
  by_cases hbe : b = e
  · subst hbe; exact heo
  · exact ⟨u, k b u hbe q⟩
end

noncomputable def trk (h : Heap) (H : Hp) : List Addr := (List.range h.objs.size).filter fun a => (H a).isSome
noncomputable def hidT (h : Heap) (H : Hp) : Heap := PySem.W.hideAll h (trk h H)
theorem hidT_size (h : Heap) (H : Hp) : (hidT h H).objs.size = h.objs.size := PySem.W.hideAll_size _ _
theorem hidT_get {h : Heap} {H : Hp} {b : Addr} {o : Obj} (e : h.get? b = some o) (n : H b = none) : (hidT h H).get? b = some o :=
  PySem.W.hideAll_get _ e fun hm => by
    have q : (H b).isSome = true := (List.mem_filter.mp hm).2
    rw [n] at q; simp at q
theorem of_hidT {h : Heap} {H : Hp} {b : Addr} {o : Obj} (e : (hidT h H).get? b = some o) : h.get? b = some o ∧ H b = none := by
  have e' : h.get? b = some o := PySem.W.of_hideAll (trk h H) e
  refine ⟨e', ?_⟩
  cases q : H b with
  | none => rfl
  | some x =>
    have hm : b ∈ trk h H := List.mem_filter.mpr ⟨List.mem_range.mpr (Heap.lt_size e'), by simp [q]⟩
    have z : (hidT h H).get? b = none := PySem.W.hideAll_none (trk h H) hm
    rw [z] at e; cases e

end L2

namespace L2
open PySem PySem.Spec PyProof.Rows

structure Mod (K : PySem.W.Frag) (mg : Str → Option Value) (base : Heap) : Prop where
  kin : K.In base
  glob : base.Ns mainGlobals mg
  blt : ∃ mb, base.Ns builtinsNs mb ∧ ∀ x : Str, x ≠ "__name__" → mb x = bootBuiltins x
  nolimit : base.NoLimit

structure Cx where
  prog : Program
  w : World
  K : PySem.W.Frag
  mg : Str → Option Value
  base : Heap
  A : Around
  N : List Str
  s₀ : Shared
  H₀ : Hp
  env : Env
  outer : List Env
  stack : List Env
  ex : List Addr
  fn : Str → Bool
  calm : Bool
  pn : List (Addr × Obj)
  xe : Value → Shared → Prop
noncomputable def frs (l : List Env) : List Addr := l.filterMap (·.frame)
noncomputable abbrev Cx.fs (X : Cx) : List Addr := frs X.outer

noncomputable def Vis (sc : Scope) (x : Str) : Prop := sc.names.lookup x = some .local ∨ sc.names.lookup x = some .cell ∨ sc.names.lookup x = some .free
noncomputable def Loc (sc : Scope) (x : Str) : Prop := sc.names.lookup x = some .local ∨ sc.names.lookup x = some .cell
noncomputable def Look (env : Env) (h : Heap) (m : Str → Option Value) (x : Str) (u : Value) : Prop :=
  (env.kindOf x = some .local ∧ m x = some u) ∨ ((env.kindOf x = some .cell ∨ env.kindOf x = some .free) ∧ ∃ c, env.cells.lookup x = some c ∧ h.IsCell c (some u))

structure Cx.Ok (X : Cx) : Prop where
  mod : Mod X.K X.mg X.base
  kind : X.env.scope.kind = .function
  glob : X.env.globals = mainGlobals
  blt : X.env.builtins = builtinsNs
  above : X.s₀.heap.objs.size ≤ X.env.locals
  inj : ∀ x y c, X.env.cells.lookup x = some c → X.env.cells.lookup y = some c → x = y
  has : ∀ x, (X.env.kindOf x = some .cell ∨ X.env.kindOf x = some .free) → ∃ c, X.env.cells.lookup x = some c
  cab : ∀ x c, X.fn x = true → X.env.cells.lookup x = some c → X.s₀.heap.objs.size ≤ c
  hd : X.calm = true → X.A.handled = none
  frames : X.A.frames = some X.stack
  stk : X.stack = X.outer ∨ (X.stack = X.env :: X.outer ∧ X.env.frame = some X.env.locals)
  exf : ∀ b ∈ X.ex, b ≠ X.env.locals ∧ ∀ x c, X.env.cells.lookup x = some c → c ≠ b
  bs : ∀ b o, X.base.get? b = some o → X.s₀.heap.get? b = some o ∧ X.H₀ b = none
  bsz : X.base.objs.size ≤ X.s₀.heap.objs.size
  noex : ∀ b o, X.base.get? b = some o → b ∉ X.ex
  exfs : ∀ b ∈ X.ex, b ∉ X.fs
  funs : X.s₀.heap.FunFrames X.base X.outer
  frf : ∀ b ∈ X.fs, X.H₀ b = none

structure Inv (X : Cx) (pins : List (Addr × Obj)) (σ : List (Option V)) (H : Hp) (s : Shared) : Prop where
  ok : X.Ok
  os : s.os = X.s₀.os
  bare : AllBare s.gens
  base : Un X.fs X.ex X.H₀ H X.s₀.heap s.heap
  loc : ∃ m, s.heap.Ns X.env.locals m ∧ ∀ (i : Nat) (x : Str) (v : V), X.N[i]? = some x → σ[i]? = some (some v) → Vis X.env.scope x → ∃ u, RelV v u ∧ Look X.env s.heap m x u
  cell : ∀ x c, X.env.cells.lookup x = some c → ∃ v, s.heap.IsCell c v
  free : H X.env.locals = none
  freeC : ∀ x c, X.env.cells.lookup x = some c → H c = none
  pin : ∀ p ∈ X.pn ++ pins, s.heap.get? p.1 = some p.2 ∧ H p.1 = none ∧ p.1 ≠ X.env.locals ∧ p.1 ∉ X.fs ∧ ∀ v, p.2.data ≠ .cell v
  hok : HOk X.prog X.w H s.heap
  len : σ.length = X.N.length

section
variable {X : Cx} {pins : List (Addr × Obj)} {σ : List (Option V)} {H H' : Hp} {s : Shared} {h' : Heap}

theorem Cx.Ok.nofr (ok : X.Ok) {b : Addr} {o : Obj} (e : X.base.get? b = some o) : b ∉ X.fs := fun hb => by
  have := (ok.funs.mem hb).1
  rw [e] at this; cases this
theorem Inv.bs (I : Inv X pins σ H s) : ∀ b o, X.base.get? b = some o → s.heap.get? b = some o ∧ H b = none := fun b o e =>
  ⟨I.base.keep b o (I.ok.bs b o e).1 (I.ok.bs b o e).2 (I.ok.nofr e) (I.ok.noex b o e), I.base.free b o (I.ok.bs b o e).1 (I.ok.bs b o e).2 (I.ok.noex b o e)⟩
theorem Inv.bk (I : Inv X pins σ H s) : ∀ b o, X.base.get? b = some o → s.heap.get? b = some o := fun b o e => (I.bs b o e).1
theorem Inv.mod (I : Inv X pins σ H s) : Mod X.K X.mg X.base := I.ok.mod
theorem Inv.kIn (I : Inv X pins σ H s) : X.K.In s.heap := I.ok.mod.kin.keeps I.bk
theorem Inv.lt (I : Inv X pins σ H s) : X.env.locals < s.heap.objs.size := let ⟨_, hn, _⟩ := I.loc; hn.lt
theorem Inv.sz (I : Inv X pins σ H s) : X.s₀.heap.objs.size ≤ s.heap.objs.size := Nat.le_trans I.ok.above (Nat.le_of_lt I.lt)
theorem Inv.nofs (I : Inv X pins σ H s) {a : Addr} (h : s.heap.objs.size ≤ a) : a ∉ X.fs := fun hb => by
  obtain ⟨_, o, ho, _⟩ := I.ok.funs.mem hb
  exact absurd (Nat.lt_of_lt_of_le (Heap.lt_size ho) (Nat.le_trans I.sz h)) (Nat.lt_irrefl _)
theorem Inv.cne (I : Inv X pins σ H s) : ∀ x c, X.env.cells.lookup x = some c → c ≠ X.env.locals := fun x c e z => by
  obtain ⟨v, o, ho, hd⟩ := I.cell x c e
  obtain ⟨m, ⟨o', es, ep, ho', hd', _⟩, _⟩ := I.loc
  rw [z, ho'] at ho; cases ho; rw [hd'] at hd; cases hd
theorem Inv.funs (I : Inv X pins σ H s) : s.heap.FunFrames X.base X.outer := by
  have all : ∀ (l : List Env), (∀ b ∈ frs l, b ∈ X.fs) → X.s₀.heap.FunFrames X.base l → s.heap.FunFrames X.base l := by
    intro l
    induction l with
    | nil => intro _ _; trivial
    | cons env r ih =>
      intro hs hl
      obtain ⟨hk, ⟨L, o, hf, hn, ho, hd⟩, hr⟩ := hl
      have hL : L ∈ X.fs := hs L (by unfold frs; rw [List.filterMap_cons, hf]; exact List.mem_cons_self)
      obtain ⟨sl, e⟩ := I.base.slot L o ho (I.ok.frf L hL) hL fun z => I.ok.exfs L z hL
      exact ⟨hk, ⟨L, _, hf, hn, e, hd⟩, ih (fun b hb => hs b (by unfold frs; rw [List.filterMap_cons, hf]; exact List.mem_cons_of_mem _ hb)) hr⟩
  exact all X.outer (fun _ hb => hb) I.ok.funs

theorem Inv.stack (I : Inv X pins σ H s) : s.heap.FunFrames X.base X.stack := by
  rcases I.ok.stk with e | ⟨e, hf⟩
  · rw [e]; exact I.funs
  · rw [e]
    obtain ⟨m, hn, _⟩ := I.loc
    refine .cons (by rw [I.ok.kind]; decide) hf hn ?_ I.funs
    exact Heap.get?_none_of_le (Nat.le_trans I.ok.bsz I.ok.above)
theorem Inv.stkSub (I : Inv X pins σ H s) : ∀ b ∈ frs X.stack, b ∈ X.env.locals :: X.fs := fun b hb => by
  rcases I.ok.stk with e | ⟨e, hf⟩
  · rw [e] at hb; exact List.mem_cons_of_mem _ hb
  · rw [e] at hb
    unfold frs at hb
    rw [List.filterMap_cons, hf] at hb
    exact hb
theorem Inv.stkFree (I : Inv X pins σ H s) : ∀ b ∈ frs X.stack, H b = none := fun b hb => by
  rcases List.mem_cons.mp (I.stkSub b hb) with e | hb
  · rw [e]; exact I.free
  · obtain ⟨_, o, ho, _⟩ := I.ok.funs.mem hb
    exact I.base.free b o ho (I.ok.frf b hb) fun z => I.ok.exfs b z hb

theorem Inv.step {g' : Array GenState} {t' : Nat} {d' : Drawn} {ch : List Addr} (I : Inv X pins σ H s)
    (hch : ∀ b ∈ ch, (b ∈ X.ex ∨ X.s₀.heap.objs.size ≤ b) ∧ b ≠ X.env.locals ∧ (∀ x c, X.env.cells.lookup x = some c → c ≠ b) ∧ ∀ p ∈ X.pn ++ pins, p.1 ≠ b)
    (keep : ∀ b o, b ≠ X.env.locals → b ∉ X.fs → b ∉ ch → s.heap.get? b = some o → H b = none → h'.get? b = some o)
    (slot : ∀ b o, b ≠ X.env.locals → b ∈ X.fs → b ∉ ch → s.heap.get? b = some o → H b = none → ∃ sl, h'.get? b = some { o with slots := sl }) (free : ∀ b o, b ∉ ch → s.heap.get? b = some o → H b = none → H' b = none)
    (there : ∀ b o, b ∉ ch → s.heap.get? b = some o → ∃ o', h'.get? b = some o')
    (tups : ∀ b xs, H b = some (.tup xs) → H' b = some (.tup xs)) (frzs : ∀ b o u, H b = some (.frz o u) → H' b = some (.frz o u)) (tbls : ∀ b ps, H b = some (.tbl ps) → ∃ more, H' b = some (.tbl (ps ++ more)))
    (ns : ∀ m, s.heap.Ns X.env.locals m → h'.Ns X.env.locals m) (hok : HOk X.prog X.w H' h') (hg : AllBare g') :
    Inv X pins σ H' { s with heap := h', gens := g', drawn := d', toks := t' } := by
  have neL : ∀ b o, X.s₀.heap.get? b = some o → b ≠ X.env.locals := fun b o e => Nat.ne_of_lt (Nat.lt_of_lt_of_le (Heap.lt_size e) I.ok.above)
  have neC : ∀ b o, X.s₀.heap.get? b = some o → b ∉ X.ex → b ∉ ch := fun b o e hx hb => by
    rcases (hch b hb).1 with z | z
    · exact hx z
    · exact absurd (Nat.lt_of_lt_of_le (Heap.lt_size e) z) (Nat.lt_irrefl _)
  have cellK : ∀ x c, X.env.cells.lookup x = some c → ∀ v, s.heap.IsCell c v → h'.IsCell c v := fun x c e v ⟨o, ho, hd⟩ => by
    have nch : c ∉ ch := fun z => (hch c z).2.2.1 x c e rfl
    by_cases hc : c ∈ X.fs
    · obtain ⟨sl, q⟩ := slot c o (I.cne x c e) hc nch ho (I.freeC x c e)
      exact ⟨_, q, hd⟩
    · exact ⟨o, keep c o (I.cne x c e) hc nch ho (I.freeC x c e), hd⟩
  refine ⟨I.ok, I.os, hg, ⟨fun b o e n hb hx => ?_, fun b o e n hb hx => ?_, fun b o e n hx => ?_, fun b o e hx => ?_, fun b xs e => tups b xs (I.base.tups b xs e), fun b o xs e => frzs b o xs (I.base.frzs b o xs e), fun b ps e => ?_⟩, ?_, fun x c e => ?_, ?_, fun x c e => ?_, fun p hp => ?_, hok, I.len⟩
  · exact keep b o (neL b o e) hb (neC b o e hx) (I.base.keep b o e n hb hx) (I.base.free b o e n hx)
  · obtain ⟨sl, e1⟩ := I.base.slot b o e n hb hx
    obtain ⟨sl', e2⟩ := slot b _ (neL b o e) hb (neC b o e hx) e1 (I.base.free b o e n hx)
    exact ⟨sl', e2⟩
  · obtain ⟨o', e1⟩ := I.base.there b o e hx
    exact free b o' (neC b o e hx) e1 (I.base.free b o e n hx)
  · obtain ⟨o', e1⟩ := I.base.there b o e hx
    exact there b o' (neC b o e hx) e1
  · obtain ⟨m1, e1⟩ := I.base.tbls b ps e
    obtain ⟨m2, e2⟩ := tbls b _ e1
    exact ⟨m1 ++ m2, by rw [e2, Array.append_assoc]⟩
  · obtain ⟨m, hn, hl⟩ := I.loc
    refine ⟨m, ns m hn, fun i x v e1 e2 e3 => ?_⟩
    obtain ⟨u, r, l⟩ := hl i x v e1 e2 e3
    refine ⟨u, r, ?_⟩
    rcases l with l | ⟨k, c, e, z⟩
    · exact .inl l
    · exact .inr ⟨k, c, e, cellK x c e _ z⟩
  · obtain ⟨v, z⟩ := I.cell x c e
    exact ⟨v, cellK x c e v z⟩
  · obtain ⟨m, ⟨o, _, _, ho, _⟩, _⟩ := I.loc
    exact free _ o (fun z => (hch _ z).2.1 rfl) ho I.free
  · obtain ⟨v, o, ho, hd⟩ := I.cell x c e
    exact free c o (fun z => (hch c z).2.2.1 x c e rfl) ho (I.freeC x c e)
  · obtain ⟨e, n, ne, nf, d⟩ := I.pin p hp
    have nch : p.1 ∉ ch := fun z => (hch p.1 z).2.2.2 p hp rfl
    exact ⟨keep p.1 p.2 ne nf nch e n, free p.1 p.2 nch e n, ne, nf, d⟩
theorem Inv.un {t' : Nat} (I : Inv X pins σ H s) (u : Un X.fs [] H H' s.heap h') (hok : HOk X.prog X.w H' h') : Inv X pins σ H' { s with heap := h', toks := t' } := by
  obtain ⟨m, ⟨o, es, ep, ho, r⟩, _⟩ := id I.loc
  obtain ⟨sl, hL⟩ := u.any ho I.free (by simp)
  exact I.step (g' := s.gens) (d' := s.drawn) (ch := []) (fun _ z => nomatch z) (fun b o _ hb _ e n => u.keep b o e n hb (by simp)) (fun b o _ hb _ e n => u.slot b o e n hb (by simp)) (fun b o _ e n => u.free b o e n (by simp)) (fun b o _ e => u.there b o e (by simp)) u.tups u.frzs u.tbls (fun m' hm => by
    obtain ⟨o', es', ep', ho', r'⟩ := hm
    rw [ho] at ho'; cases ho'
    exact ⟨_, es', ep', hL, r'⟩) hok I.bare
theorem Inv.call {g' : Array GenState} {t' : Nat} {d' : Drawn} {ch : List Addr} (I : Inv X pins σ H s) (u : Un (frs X.stack) ch H H' s.heap h') (hok : HOk X.prog X.w H' h') (hg : AllBare g')
    (hch : ∀ b ∈ ch, (b ∈ X.ex ∨ X.s₀.heap.objs.size ≤ b) ∧ b ≠ X.env.locals ∧ (∀ x c, X.env.cells.lookup x = some c → c ≠ b) ∧ ∀ p ∈ X.pn ++ pins, p.1 ≠ b) :
    Inv X pins σ H' { s with heap := h', gens := g', drawn := d', toks := t' } := by
  obtain ⟨m, ⟨o, es, ep, ho, r⟩, _⟩ := id I.loc
  obtain ⟨sl, hL⟩ := u.any ho I.free fun z => (hch _ z).2.1 rfl
  exact I.step (ch := ch) hch (fun b o hL hb hc e n => u.keep b o e n (fun z => (List.mem_cons.mp (I.stkSub b z)).elim hL hb) hc) (fun b o _ _ hc e n => u.any e n hc) (fun b o hc e n => u.free b o e n hc) (fun b o hc e => u.there b o e hc) u.tups u.frzs u.tbls (fun m' hm => by
    obtain ⟨o', es', ep', ho', r'⟩ := hm
    rw [ho] at ho'; cases ho'
    exact ⟨_, es', ep', hL, r'⟩) hok hg
theorem Inv.turned {t' : Nat} {it : Addr} (I : Inv X pins σ H s) (k : ∀ b o, b ≠ it → s.heap.get? b = some o → h'.get? b = some o) (hn : H it = none) (hL : it ≠ X.env.locals)
    (h1 : it ∈ X.ex ∨ X.s₀.heap.objs.size ≤ it) (h2 : ∀ x c, X.env.cells.lookup x = some c → c ≠ it) (h3 : ∀ p ∈ X.pn ++ pins, p.1 ≠ it) : Inv X pins σ H { s with heap := h', toks := t' } := by
  have nit : ∀ b u, H b = some u → b ≠ it := fun b u e z => by rw [z, hn] at e; cases e
  refine I.step (g' := s.gens) (d' := s.drawn) (ch := [it]) (fun b hb => ?_) (fun b o _ _ hc e _ => k b o (fun z => hc (by simp [z])) e) (fun b o _ _ hc e _ => ⟨o.slots, k b o (fun z => hc (by simp [z])) e⟩) (fun _ _ _ _ n => n)
    (fun b o hc e => ⟨o, k b o (fun z => hc (by simp [z])) e⟩) (fun _ _ e => e) (fun _ _ _ e => e) (fun b ps e => ⟨#[], by rw [e]; simp⟩) (fun m hm => ?_) (fun b u e => ?_) I.bare
  · have e : b = it := by simpa using hb
    subst e
    exact ⟨h1, hL, h2, h3⟩
  · obtain ⟨o, es, ep, ho, r⟩ := hm
    exact ⟨o, es, ep, k _ o (Ne.symm hL) ho, r⟩
  · refine (I.hok b u e).stay (fun c v hc q => k c v ?_ q) (fun _ q => q) fun _ _ q => q
    rcases hc with z | z
    · rw [z]; exact nit b u e
    · exact nit c _ z
theorem Inv.tok (I : Inv X pins σ H s) (t : Nat) : Inv X pins σ H { s with toks := t } := I.un (h' := s.heap) (t' := t) Un.refl I.hok
theorem Inv.kept {t' : Nat} (I : Inv X pins σ H s) (k : ∀ b u, s.heap.get? b = some u → h'.get? b = some u) : Inv X pins σ H { s with heap := h', toks := t' } := I.un (Un.kept k) (I.hok.kept k)
theorem Inv.laid {a : Addr} {o : HO} {t' : Nat} (I : Inv X pins σ H s) (k : ∀ b u, s.heap.get? b = some u → h'.get? b = some u) (hp : s.heap.objs.size ≤ a) (new : ObjOk X.prog X.w (upd H a o) h' a o) :
    Inv X pins σ (upd H a o) { s with heap := h', toks := t' } := I.un (Un.laid k hp (I.hok.fresh hp)) (I.hok.laid k hp new)
theorem Inv.write {x e : Addr} {o : HO} {t' : Nat} (I : Inv X pins σ H s) (mu : Mut (H x)) (he : e = x ∨ H e = some (.own x)) (k : ∀ b u, b ≠ e → s.heap.get? b = some u → h'.get? b = some u) (heo : ∃ u, h'.get? e = some u)
    (new : ObjOk X.prog X.w (upd H x o) h' x o) : Inv X pins σ (upd H x o) { s with heap := h', toks := t' } := I.un (Un.write mu he k heo) (I.hok.write mu he k heo new)
theorem Inv.pins_of {pins' : List (Addr × Obj)} (I : Inv X pins σ H s) (h : ∀ p ∈ pins', s.heap.get? p.1 = some p.2 ∧ H p.1 = none ∧ p.1 ≠ X.env.locals ∧ p.1 ∉ X.fs ∧ ∀ v, p.2.data ≠ .cell v) : Inv X pins' σ H s :=
  ⟨I.ok, I.os, I.bare, I.base, I.loc, I.cell, I.free, I.freeC, fun p hp => (List.mem_append.mp hp).elim (fun z => I.pin p (List.mem_append_left _ z)) (h p), I.hok, I.len⟩

theorem nodup_ix {N : List Str} (hN : N.Nodup) {i j : Nat} {x : Str} (a : N[i]? = some x) (b : N[j]? = some x) : i = j := by
  obtain ⟨h1, e1⟩ := List.getElem?_eq_some_iff.mp a
  obtain ⟨h2, e2⟩ := List.getElem?_eq_some_iff.mp b
  exact (List.getElem_inj hN).mp (e1.trans e2.symm)

theorem store_ok2 {M : Model} {A : Around} {E : Value → Shared → Prop} {i : Nat} {x : Str} {v : V} {u : Value} {Q : Unit → Shared → Prop} (I : Inv X pins σ H s) (hN : X.N.Nodup) (hi : X.N[i]? = some x) (hx : Loc X.env.scope x) (r : RelV v u)
    (h : ∀ s', Inv X pins (σ.set i (some v)) H s' → (∃ a, Heap.SameBut a s.heap s'.heap ∧ (a = X.env.locals ∨ X.env.cells.lookup x = some a)) → Q () s') (hf : X.fn x = true ∨ X.env.scope.names.lookup x = some .local := by first | exact .inl rfl | exact .inr rfl | assumption) : wpAny M A (storeName X.env x u) Q E s := by
  obtain ⟨m, hn, hl⟩ := id I.loc
  have hcls : (X.env.scope.kind == .class || (X.env.scope.kind == .module && X.env.locals != X.env.globals)) = false := by rw [I.ok.kind]; rfl
  have hiσ : i < σ.length := by rw [I.len]; exact (List.getElem?_eq_some_iff.mp hi).1
  have cne := I.cne
  have tracked : ∀ {a : Addr} {h' : Heap}, (∃ o, s.heap.get? a = some o ∧ H a = none) → Heap.SameBut a s.heap h' → HOk X.prog X.w H h' := fun {a h'} ha hs b ob e => by
    obtain ⟨_, _, hfree⟩ := ha
    refine (I.hok b ob e).stay (fun c w' hc q => (hs.2 c ?_).trans q) (fun _ q => q) fun _ _ q => q
    rintro rfl
    rcases hc with rfl | hc
    · rw [hfree] at e; cases e
    · rw [hfree] at hc; cases hc
  rcases hx with hk | hk
  · refine wpAny_storeName_local hk hn (fun h' hn' hs => ?_) hcls
    obtain ⟨oL, _, _, hoL, _⟩ := id hn
    refine h _ ⟨I.ok, I.os, I.bare, ⟨fun b o e n hb hx => ?_, fun b o e n hb hx => ?_, I.base.free, fun b o e hx => ?_, I.base.tups, I.base.frzs, I.base.tbls⟩, ⟨_, hn', fun j y v' e1 e2 e3 => ?_⟩, fun y c e => ?_, I.free, I.freeC, fun p hp => ?_, tracked ⟨oL, hoL, I.free⟩ hs, by simpa using I.len⟩ ⟨_, hs, .inl rfl⟩
    · exact (hs.2 b (Nat.ne_of_lt (Nat.lt_of_lt_of_le (Heap.lt_size e) I.ok.above))).trans (I.base.keep b o e n hb hx)
    · obtain ⟨sl, e1⟩ := I.base.slot b o e n hb hx
      exact ⟨sl, (hs.2 b (Nat.ne_of_lt (Nat.lt_of_lt_of_le (Heap.lt_size e) I.ok.above))).trans e1⟩
    · obtain ⟨o', e1⟩ := I.base.there b o e hx
      exact ⟨o', (hs.2 b (Nat.ne_of_lt (Nat.lt_of_lt_of_le (Heap.lt_size e) I.ok.above))).trans e1⟩
    · by_cases hj : j = i
      · subst hj
        rw [hi] at e1; cases e1
        rw [List.getElem?_set_self hiσ] at e2
        cases e2
        exact ⟨u, r, .inl ⟨hk, by simp⟩⟩
      · rw [List.getElem?_set_ne (Ne.symm hj)] at e2
        obtain ⟨u', r', q⟩ := hl j y v' e1 e2 e3
        refine ⟨u', r', ?_⟩
        rcases q with ⟨k, e⟩ | ⟨k, c, e, z⟩
        · refine .inl ⟨k, ?_⟩
          have : y ≠ x := fun e => hj (nodup_ix hN e1 (e ▸ hi))
          simp [this, e]
        · exact .inr ⟨k, c, e, z.sameBut hs (cne y c e)⟩
    · obtain ⟨w', z⟩ := I.cell y c e
      exact ⟨w', z.sameBut hs (cne y c e)⟩
    · obtain ⟨e, n, ne, nf, d⟩ := I.pin p hp
      exact ⟨(hs.2 p.1 ne).trans e, n, ne, nf, d⟩
  · have hfn : X.fn x = true := by
      rcases hf with z | z
      · exact z
      · rw [z] at hk; cases hk
    obtain ⟨c, hc⟩ := I.ok.has x (.inl hk)
    obtain ⟨w', z⟩ := I.cell x c hc
    refine wpAny_storeName_cell I.ok.kind hk hc z (fun h' hc' hs => ?_)
    obtain ⟨oc, hoc, hocd⟩ := id z
    refine h { s with heap := h' } ⟨I.ok, I.os, I.bare, ⟨fun b o e n hb hx => ?_, fun b o e n hb hx => ?_, I.base.free, fun b o e hx => ?_, I.base.tups, I.base.frzs, I.base.tbls⟩, ⟨m, hn.sameBut hs (Ne.symm (cne x c hc)), fun j y v' e1 e2 e3 => ?_⟩, fun y c' e => ?_, I.free, I.freeC, fun p hp => ?_, tracked ⟨oc, hoc, I.freeC x c hc⟩ hs, by simpa using I.len⟩ ⟨c, hs, .inr hc⟩
    · exact (hs.2 b (Nat.ne_of_lt (Nat.lt_of_lt_of_le (Heap.lt_size e) (I.ok.cab x c hfn hc)))).trans (I.base.keep b o e n hb hx)
    · obtain ⟨sl, e1⟩ := I.base.slot b o e n hb hx
      exact ⟨sl, (hs.2 b (Nat.ne_of_lt (Nat.lt_of_lt_of_le (Heap.lt_size e) (I.ok.cab x c hfn hc)))).trans e1⟩
    · obtain ⟨o', e1⟩ := I.base.there b o e hx
      exact ⟨o', (hs.2 b (Nat.ne_of_lt (Nat.lt_of_lt_of_le (Heap.lt_size e) (I.ok.cab x c hfn hc)))).trans e1⟩
    · by_cases hj : j = i
      · subst hj
        rw [hi] at e1; cases e1
        rw [List.getElem?_set_self hiσ] at e2
        cases e2
        exact ⟨u, r, .inr ⟨.inl hk, c, hc, hc'⟩⟩
      · rw [List.getElem?_set_ne (Ne.symm hj)] at e2
        obtain ⟨u', r', q⟩ := hl j y v' e1 e2 e3
        refine ⟨u', r', ?_⟩
        rcases q with q | ⟨k, c', e, z'⟩
        · exact .inl q
        · refine .inr ⟨k, c', e, z'.sameBut hs ?_⟩
          rintro rfl
          exact hj (nodup_ix hN e1 (I.ok.inj _ _ _ e hc ▸ hi))
    · by_cases hcc : c' = c
      · subst hcc; exact ⟨_, hc'⟩
      · obtain ⟨w2, z2⟩ := I.cell y c' e
        exact ⟨w2, z2.sameBut hs hcc⟩
    · obtain ⟨e, n, ne, nf, d⟩ := I.pin p hp
      refine ⟨(hs.2 p.1 ?_).trans e, n, ne, nf, d⟩
      intro q
      rw [q, hoc] at e
      have q' : oc = p.2 := Option.some.inj e
      exact d w' (by rw [← q']; exact hocd)
theorem store_ok {M : Model} {A : Around} {E : Value → Shared → Prop} {i : Nat} {x : Str} {v : V} {u : Value} {Q : Unit → Shared → Prop} (I : Inv X pins σ H s) (hN : X.N.Nodup) (hi : X.N[i]? = some x) (hx : Loc X.env.scope x) (r : RelV v u)
    (h : ∀ s', Inv X pins (σ.set i (some v)) H s' → Q () s') (hf : X.fn x = true ∨ X.env.scope.names.lookup x = some .local := by first | exact .inl rfl | exact .inr rfl | assumption) : wpAny M A (storeName X.env x u) Q E s :=
  store_ok2 I hN hi hx r (fun s' I' _ => h s' I') hf
theorem Inv.call' {s' : Shared} {ch : List Addr} (I : Inv X pins σ H s) (ho : s'.os = s.os) (u : Un (frs X.stack) ch H H' s.heap s'.heap) (hok : HOk X.prog X.w H' s'.heap) (hg : AllBare s'.gens)
    (hch : ∀ b ∈ ch, (b ∈ X.ex ∨ X.s₀.heap.objs.size ≤ b) ∧ b ≠ X.env.locals ∧ (∀ x c, X.env.cells.lookup x = some c → c ≠ b) ∧ ∀ p ∈ X.pn ++ pins, p.1 ≠ b) : Inv X pins σ H' s' := by
  obtain ⟨h', g', d', t', o'⟩ := s'
  have e : o' = s.os := ho
  subst e
  exact I.call (g' := g') (t' := t') (d' := d') u hok hg hch
end

noncomputable abbrev XK := Value → Option Addr → Hp → Prop
noncomputable abbrev St := List (Option V)
noncomputable abbrev VK := V → Hp → Prop
noncomputable abbrev TE := St → Hp → VK → Prop
noncomputable abbrev TT := St → Hp → (Bool → Hp → Prop) → Prop
noncomputable abbrev TA := St → Hp → (List V → Hp → Prop) → Prop
structure Ends where
  nx : St → Hp → Prop
  rt : VK
  bk : St → Hp → Prop := fun _ _ => False
  ct : St → Hp → Prop := fun _ _ => False
noncomputable abbrev TS := Ends → St → Hp → Prop

noncomputable def EP (X : Cx) (pins : List (Addr × Obj)) (σ : St) (Q : VK) (u : Value) (s' : Shared) : Prop := ∃ v H', Inv X pins σ H' s' ∧ RelV v u ∧ Q v H'
noncomputable def TP (X : Cx) (pins : List (Addr × Obj)) (σ : St) (Q : Bool → Hp → Prop) (b : Bool) (s' : Shared) : Prop := ∃ H', Inv X pins σ H' s' ∧ Q b H'
noncomputable def AP (X : Cx) (pins : List (Addr × Obj)) (σ : St) (Q : List V → Hp → Prop) (us : List Value) (s' : Shared) : Prop := ∃ vs H', Inv X pins σ H' s' ∧ Vals vs us ∧ Q vs H'
noncomputable def SP (X : Cx) (pins : List (Addr × Obj)) (D : Ends) (f : Flow) (s' : Shared) : Prop :=
  match f with
  | .next => ∃ σ' H', Inv X pins σ' H' s' ∧ D.nx σ' H'
  | .brk => ∃ σ' H', Inv X pins σ' H' s' ∧ D.bk σ' H'
  | .cont => ∃ σ' H', Inv X pins σ' H' s' ∧ D.ct σ' H'
  | .ret u => ∃ v σ' H', Inv X pins σ' H' s' ∧ RelV v u ∧ D.rt v H'

noncomputable def PE (X : Cx) (e : Expr) (t : TE) : Prop :=
  ∀ (pins : List (Addr × Obj)) (s : Shared) (σ : St) (H : Hp) (Q : VK), Inv X pins σ H s → t σ H Q → wpAny (model X.prog X.w) X.A (eval e X.env) (EP X pins σ Q) X.xe s
noncomputable def PT (X : Cx) (e : Expr) (t : TT) : Prop :=
  ∀ (pins : List (Addr × Obj)) (s : Shared) (σ : St) (H : Hp) (Q : Bool → Hp → Prop), Inv X pins σ H s → t σ H Q → wpAny (model X.prog X.w) X.A (isTrue e X.env (eval e X.env)) (TP X pins σ Q) X.xe s
noncomputable def PW (X : Cx) (e : Expr) (t : TT) : Prop :=
  ∀ (whole : Sem Value) (pins : List (Addr × Obj)) (s : Shared) (σ : St) (H : Hp) (Q : Bool → Hp → Prop), Inv X pins σ H s → t σ H Q → wpAny (model X.prog X.w) X.A (isTrue e X.env whole) (TP X pins σ Q) X.xe s
theorem PW.pt {X : Cx} {e : Expr} {t : TT} (h : PW X e t) : PT X e t := h _
noncomputable def PA (X : Cx) (es : List Expr) (t : TA) : Prop :=
  ∀ (pos : Pos) (pins : List (Addr × Obj)) (s : Shared) (σ : St) (H : Hp) (Q : List V → Hp → Prop), Inv X pins σ H s → t σ H Q → wpAny (model X.prog X.w) X.A (spliced (backTo pos (starEach es X.env))) (AP X pins σ Q) X.xe s
noncomputable def PS (X : Cx) (st : Stmt) (t : TS) : Prop :=
  ∀ (pins : List (Addr × Obj)) (s : Shared) (σ : St) (H : Hp) (D : Ends), Inv X pins σ H s → t D σ H → wpAny (model X.prog X.w) X.A (exec st X.env) (SP X pins D) X.xe s
noncomputable def PSs (X : Cx) (st : List Stmt) (t : TS) : Prop :=
  ∀ (pins : List (Addr × Obj)) (s : Shared) (σ : St) (H : Hp) (D : Ends), Inv X pins σ H s → t D σ H → wpAny (model X.prog X.w) X.A (execs st X.env) (SP X pins D) X.xe s
theorem thn {α : Type} {t : Sem α} {Q Q' : α → Shared → Prop} {M : Model} {A : Around} {E : Value → Shared → Prop} {s : Shared} (h : wpAny M A t Q E s) (hQ : ∀ a s, Q a s → Q' a s) : wpAny M A t Q' E s := wpAny_mono h hQ fun _ _ x => x
end L2

namespace L2
open PySem PySem.Spec PyProof.Rows
section
variable {X : Cx}

noncomputable def tVar (i : Nat) : TE := fun σ H Q => ∃ v, σ[i]? = some (some v) ∧ Q v H
noncomputable def tC (v : V) : TE := fun _ H Q => Q v H
theorem pe_var {i : Nat} {x : Str} {pos : Pos} (hN : X.N[i]? = some x) (hv : Vis X.env.scope x) (hd : autoParam ((x == ("__debug__" : Str)) = false) au1_._auto_1) (hcd : autoParam ((x == ("__classdict__" : Str)) = false) au1_._auto_1) : PE X (.Name x pos) (tVar i) := by
  intro pins s σ H Q I h
  obtain ⟨v, e, h⟩ := h
  obtain ⟨m, hn, hl⟩ := I.loc
  obtain ⟨u, r, l⟩ := hl i x v hN e hv
  have fin : EP X pins σ Q u s := ⟨v, H, I, r, h⟩
  rcases l with ⟨hk, hm⟩ | ⟨hk, c, hc, hcell⟩
  · exact wpAny_Name (wpAny_loadName_local I.ok.kind hk hn hm fin) hd
  · rcases hk with hk | hk
    · exact wpAny_Name (wpAny_loadName_cell I.ok.kind hk hc hcell fin) hd
    · exact wpAny_Name (wpAny_loadName_free I.ok.kind hk hc hcell fin hcd) hd
theorem pe_int {i j pos} : PE X (.Constant (.int i) j pos) (tC (.int i)) := fun _ _ _ H _ I h => wpAny_Constant_int ⟨.int i, H, I.tok _, ⟨_, rfl⟩, h⟩
theorem pe_bl {b j pos} : PE X (.Constant (.bool b) j pos) (tC (.bl b)) := fun _ _ _ H _ I h => Constant_bool ⟨.bl b, H, I, rfl, h⟩
theorem pe_non {j pos} : PE X (.Constant .none j pos) (tC .non) := fun _ _ _ H _ I h => Constant_none ⟨.non, H, I, rfl, h⟩
noncomputable def Gl (X : Cx) (x : Str) : Prop := X.env.kindOf x = some .globalImplicit
theorem ld_glob {E : Value → Shared → Prop} {pins : List (Addr × Obj)} {s : Shared} {σ : St} {H : Hp} {x : Str} {u : Value} {pos : Pos} {Q : Value → Shared → Prop} (I : Inv X pins σ H s) (hg : Gl X x) (hm : X.mg x = some u) (h : Q u s)
    (hd : autoParam ((x == ("__debug__" : Str)) = false) au1_._auto_1) : wpAny (model X.prog X.w) X.A (eval (.Name x pos) X.env) Q E s :=
  Calls.Name_function_global I.ok.kind hg (Calls.loadGlobal_global (by rw [I.ok.glob]; exact I.mod.glob.keeps I.bk) hm h) hd
theorem ld_blt {E : Value → Shared → Prop} {pins : List (Addr × Obj)} {s : Shared} {σ : St} {H : Hp} {x : Str} {u : Value} {pos : Pos} {Q : Value → Shared → Prop} (I : Inv X pins σ H s) (hg : Gl X x) (hm : X.mg x = none) (hv : bootBuiltins x = some u) (h : Q u s)
    (hn : autoParam (x ≠ "__name__") au1_._auto_1) (hd : autoParam ((x == ("__debug__" : Str)) = false) au1_._auto_1) : wpAny (model X.prog X.w) X.A (eval (.Name x pos) X.env) Q E s := by
  obtain ⟨mb, h1, h2⟩ := I.mod.blt
  exact Calls.Name_function_global I.ok.kind hg (Calls.loadGlobal_builtin (by rw [I.ok.glob]; exact I.mod.glob.keeps I.bk) hm (by rw [I.ok.blt]; exact h1.keeps I.bk) ((h2 x hn).trans hv) h) hd
theorem pe_glob {x : Str} {v : V} {u : Value} {pos : Pos} (hg : Gl X x) (hm : X.mg x = some u) (r : RelV v u) (hd : autoParam ((x == ("__debug__" : Str)) = false) au1_._auto_1) : PE X (.Name x pos) (tC v) :=
  fun _ _ _ H _ I h => ld_glob I hg hm ⟨v, H, I, r, h⟩ hd
theorem pe_bltn {x : Str} {v : V} {u : Value} {pos : Pos} (hg : Gl X x) (hm : X.mg x = none) (hv : bootBuiltins x = some u) (r : RelV v u) (hn : autoParam (x ≠ "__name__") au1_._auto_1) (hd : autoParam ((x == ("__debug__" : Str)) = false) au1_._auto_1) : PE X (.Name x pos) (tC v) :=
  fun _ _ _ H _ I h => ld_blt I hg hm hv ⟨v, H, I, r, h⟩ hn hd

variable {a b : Expr} {ta tb : TE} {pos : Pos}
noncomputable def tB (t : TE) : TT := fun σ H Q => t σ H fun x H1 => ∃ c, x = .bl c ∧ Q c H1
theorem pt_val {e : Expr} {t : TE} (h : PE X e t) (he : autoParam (∀ whole, isTrue e X.env whole = (do let v ← whole; standAt e.pos; holding [v] (truthy v))) au2_._auto_1) : PT X e (tB t) := by
  intro pins s σ H Q I hw
  refine isTrue_plain (thn (h pins s σ H _ I hw) fun v s1 ⟨x, H1, I1, r1, q1⟩ => ?_) (he _)
  obtain ⟨d, rfl, q⟩ := q1
  cases r1
  exact wpAny_truthy_bool ⟨H1, I1, q⟩

variable {tA tB' : TT} {rest : List Expr}
noncomputable def tAnd (t u : TT) : TT := fun σ H Q => t σ H fun c H1 => if c = true then u σ H1 Q else Q false H1
noncomputable def tOr (t u : TT) : TT := fun σ H Q => t σ H fun c H1 => if c = true then Q true H1 else u σ H1 Q
noncomputable def tNot (t : TT) : TT := fun σ H Q => t σ H fun c H1 => Q (!c) H1
theorem pw_and1 (ha : PT X a tA) : PW X (.BoolOp .And [a] pos) tA := by
  intro wh pins s σ H Q I h
  refine isTrue_and (thn (ha pins s σ H Q I h) fun c s1 e => ?_)
  cases c with
  | true => exact isTrue_and_nil e
  | false => exact e
theorem pw_or1 (ha : PT X a tA) : PW X (.BoolOp .Or [a] pos) tA := by
  intro wh pins s σ H Q I h
  refine isTrue_or (thn (ha pins s σ H Q I h) fun c s1 e => ?_)
  cases c with
  | false => exact isTrue_or_nil e
  | true => exact e
theorem pw_and (ha : PT X a tA) (hb : PW X (.BoolOp .And (b :: rest) pos) tB') : PW X (.BoolOp .And (a :: b :: rest) pos) (tAnd tA tB') := by
  intro wh pins s σ H Q I h
  refine isTrue_and (thn (ha pins s σ H _ I h) fun c s1 ⟨H1, I1, q1⟩ => ?_)
  cases c with
  | true => exact hb wh pins s1 σ H1 Q I1 q1
  | false => exact ⟨H1, I1, q1⟩
theorem pw_or (ha : PT X a tA) (hb : PW X (.BoolOp .Or (b :: rest) pos) tB') : PW X (.BoolOp .Or (a :: b :: rest) pos) (tOr tA tB') := by
  intro wh pins s σ H Q I h
  refine isTrue_or (thn (ha pins s σ H _ I h) fun c s1 ⟨H1, I1, q1⟩ => ?_)
  cases c with
  | true => exact ⟨H1, I1, q1⟩
  | false => exact hb wh pins s1 σ H1 Q I1 q1
theorem pt_not (ha : PT X a tA) : PT X (.UnaryOp .Not a pos) (tNot tA) := by
  intro pins s σ H Q I h
  exact isTrue_not (ha pins s σ H (fun c H1 => Q (!c) H1) I h)
noncomputable def tAndV (ta tb : TE) : TE := fun σ H Q => ta σ H fun x H1 => ∃ c, x = .bl c ∧ if c = true then tb σ H1 Q else Q (.bl false) H1
theorem pe_one {op} {t : TE} (h : PE X a t) : PE X (.BoolOp op [a] pos) t := fun pins s σ H Q I hw => BoolOp_one (h pins s σ H Q I hw)
theorem pe_and (ha : PE X a ta) (hb : PE X (.BoolOp .And (b :: rest) pos) tb) : PE X (.BoolOp .And (a :: b :: rest) pos) (tAndV ta tb) := by
  intro pins s σ H Q I h
  refine BoolOp_and (thn (ha pins s σ H _ I h) fun v s1 ⟨x, H1, I1, r1, q1⟩ => ?_)
  obtain ⟨c, rfl, q1⟩ := q1
  cases r1
  refine wpAny_truthy_bool ?_
  cases c with
  | true => exact hb pins s1 σ H1 Q I1 q1
  | false => exact ⟨.bl false, H1, I1, rfl, q1⟩
noncomputable def tIf (t : TT) (ta tb : TE) : TE := fun σ H Q => t σ H fun c H1 => if c = true then ta σ H1 Q else tb σ H1 Q
theorem pe_ifExp {c : Expr} (hc : PT X c tA) (ha : PE X a ta) (hb : PE X b tb) : PE X (.IfExp c a b pos) (tIf tA ta tb) := by
  intro pins s σ H Q I h
  refine wpAny_IfExp (thn (hc pins s σ H _ I h) fun d s1 ⟨H1, I1, q1⟩ => ?_)
  cases d with
  | true => exact ha pins s1 σ H1 Q I1 q1
  | false => exact hb pins s1 σ H1 Q I1 q1
end
end L2

namespace L2
open PySem PySem.Spec PyProof.Rows

noncomputable def SqL (K : PySem.W.Frag) (H : Hp) (a : Addr) (xs : List V) : Prop :=
  Rd H a (.lst xs) ∨
    ∃ (o : Obj) (its : Array Value) (n : Nat), K.lookup a = some o ∧ o.cls = .type "list" ∧ o.dict = none ∧ o.data = .seq its n ∧ its.size ≤ sizeLine ∧ Vals xs its.toList
noncomputable def SqT (K : PySem.W.Frag) (H : Hp) (a : Addr) (xs : List V) : Prop :=
  Rd H a (.tup xs) ∨
    ∃ (o : Obj) (its : Array Value) (n : Nat), K.lookup a = some o ∧ o.cls = .type "tuple" ∧ o.data = .seq its n ∧ its.size ≤ sizeLine ∧ Vals xs its.toList
noncomputable def absV : Value → Option V
  | .none => some .non
  | .bool b => some (.bl b)
  | .int i _ => some (.int i)
  | .str x _ => some (.str x)
  | .bytes b _ => some (.byt b)
  | .float b _ => some (.flt b)
  | .ref a => some (.ref a)
  | .type n => some (.ty n)
  | _ => none
theorem RelV.abs {x : V} {u : Value} (r : RelV x u) : absV u = some x := by
  cases x with
  | non => cases r; rfl
  | bl _ => cases r; rfl
  | int _ => obtain ⟨t, rfl⟩ := r; rfl
  | str _ => obtain ⟨t, rfl⟩ := r; rfl
  | byt _ => obtain ⟨t, rfl⟩ := r; rfl
  | flt _ => obtain ⟨t, rfl⟩ := r; rfl
  | ref _ => cases r; rfl
  | ty _ => cases r; rfl
theorem RelV.inj {x y : V} {u : Value} (r : RelV x u) (q : RelV y u) : x = y := Option.some.inj (r.abs.symm.trans q.abs)
theorem Vals.inj : ∀ {xs ys : List V} {us : List Value}, Vals xs us → Vals ys us → xs = ys
  | _, _, _, .nil, .nil => rfl
  | _, _, _, .cons r t, .cons r' t' => by rw [r.inj r', Vals.inj t t']
section
variable {X : Cx} {pins : List (Addr × Obj)} {σ : St} {H : Hp} {s : Shared} {a : Addr} {xs ys : List V}
theorem SqL.of {K : PySem.W.Frag} (h : H a = some (.lst xs)) : SqL K H a xs := .inl (.inl h)
theorem SqT.of {K : PySem.W.Frag} (h : H a = some (.tup xs)) : SqT K H a xs := .inl (.inl h)
theorem Inv.list (I : Inv X pins σ H s) (h : SqL X.K H a xs) : ∃ its : List Value, Vals xs its ∧ PlainL s.heap a its.toArray ∧ xs.length ≤ sizeLine := by
  rcases h with h | ⟨o, its, n, hk, hc, hd, hs, hz, r⟩
  · obtain ⟨z, its, n, r, e⟩ := h.ok I.hok
    exact ⟨its, r, ⟨_, n, e, rfl, rfl, rfl⟩, z⟩
  · refine ⟨its.toList, r, ⟨o, n, I.kIn a o hk, hc, hd, by simpa using hs⟩, ?_⟩
    have e := r.length
    simp only [Array.length_toList] at e
    omega
theorem Inv.tuple (I : Inv X pins σ H s) (h : SqT X.K H a xs) : ∃ its : List Value, Vals xs its ∧ IsTup s.heap a its.toArray ∧ xs.length ≤ sizeLine := by
  rcases h with h | ⟨o, its, n, hk, hc, hs, hz, r⟩
  · obtain ⟨z, its, r, p⟩ := h.ok I.hok
    exact ⟨its, r, p, z⟩
  · refine ⟨its.toList, r, ⟨o, I.kIn a o hk, hc, n, by simpa using hs⟩, ?_⟩
    have e := r.length
    simp only [Array.length_toList] at e
    omega
theorem Inv.list_inj (I : Inv X pins σ H s) (h : SqL X.K H a xs) (h' : SqL X.K H a ys) : xs = ys := by
  obtain ⟨its, r, ⟨o, n, e, _, _, d⟩, _⟩ := I.list h
  obtain ⟨its', r', ⟨o', n', e', _, _, d'⟩, _⟩ := I.list h'
  rw [e] at e'; cases e'
  rw [d] at d'
  injection d' with d1 _
  have : its = its' := by simpa using congrArg Array.toList d1
  subst this
  exact r.inj r'
theorem Inv.tuple_inj (I : Inv X pins σ H s) (h : SqT X.K H a xs) (h' : SqT X.K H a ys) : xs = ys := by
  obtain ⟨its, r, ⟨o, e, _, n, d⟩, _⟩ := I.tuple h
  obtain ⟨its', r', ⟨o', e', _, n', d'⟩, _⟩ := I.tuple h'
  rw [e] at e'; cases e'
  rw [d] at d'
  injection d' with d1 _
  have : its = its' := by simpa using congrArg Array.toList d1
  subst this
  exact r.inj r'
end

noncomputable abbrev Cx.wish (X : Cx) (E : Value → Shared → Prop) : Cx := { X with xe := E }
noncomputable abbrev Cx.nox (X : Cx) : Cx := X.wish fun _ _ => False
theorem Cx.Ok.wish {X : Cx} (ok : X.Ok) (E : Value → Shared → Prop) : (X.wish E).Ok :=
  ⟨ok.mod, ok.kind, ok.glob, ok.blt, ok.above, ok.inj, ok.has, ok.cab, ok.hd, ok.frames, ok.stk, ok.exf, ok.bs, ok.bsz, ok.noex, ok.exfs, ok.funs, ok.frf⟩
theorem Cx.Ok.unwish {X : Cx} {E : Value → Shared → Prop} (ok : (X.wish E).Ok) : X.Ok :=
  ⟨ok.mod, ok.kind, ok.glob, ok.blt, ok.above, ok.inj, ok.has, ok.cab, ok.hd, ok.frames, ok.stk, ok.exf, ok.bs, ok.bsz, ok.noex, ok.exfs, ok.funs, ok.frf⟩
section
variable {X : Cx} {pins : List (Addr × Obj)} {σ : St} {H : Hp} {s : Shared} {E : Value → Shared → Prop}
theorem Inv.wish (I : Inv X pins σ H s) (E : Value → Shared → Prop) : Inv (X.wish E) pins σ H s := ⟨I.ok.wish E, I.os, I.bare, I.base, I.loc, I.cell, I.free, I.freeC, I.pin, I.hok, I.len⟩
theorem Inv.unwish (I : Inv (X.wish E) pins σ H s) : Inv X pins σ H s := ⟨I.ok.unwish, I.os, I.bare, I.base, I.loc, I.cell, I.free, I.freeC, I.pin, I.hok, I.len⟩
theorem SP.unwish {D : Ends} {f : Flow} {s' : Shared} (h : SP (X.wish E) pins D f s') : SP X pins D f s' := by
  cases f with
  | next => obtain ⟨σ', H', I, q⟩ := h; exact ⟨σ', H', I.unwish, q⟩
  | brk => obtain ⟨σ', H', I, q⟩ := h; exact ⟨σ', H', I.unwish, q⟩
  | cont => obtain ⟨σ', H', I, q⟩ := h; exact ⟨σ', H', I.unwish, q⟩
  | ret u => obtain ⟨v, σ', H', I, r, q⟩ := h; exact ⟨v, σ', H', I.unwish, r, q⟩
theorem PSs.nox {st : List Stmt} {t : TS} (h : PSs X.nox st t) : PSs X st t := fun pins s σ H D I hw =>
  wpAny_mono (h pins s σ H D (I.wish _) hw) (fun _ _ q => q.unwish) fun _ _ z => False.elim z
end

section
variable {X : Cx} {st : Stmt} {rest : List Stmt} {t u : TS} {e : Expr} {te : TE} {pos : Pos}
noncomputable def tNext : TS := fun D σ H => D.nx σ H
noncomputable def tSeq (t u : TS) : TS := fun D σ H => t { D with nx := u D } σ H
theorem pss_nil : PSs X [] tNext := fun _ _ σ H _ I h => wpAny_execs_nil ⟨σ, H, I, h⟩
theorem pss_cons (h1 : PS X st t) (h2 : PSs X rest u) : PSs X (st :: rest) (tSeq t u) := by
  intro pins s σ H D I h
  refine wpAny_execs_cons (thn (h1 pins s σ H { D with nx := u D } I h) fun f s1 q => ?_)
  cases f with
  | next =>
    obtain ⟨σ', H', I', q⟩ := q
    exact h2 pins s1 σ' H' D I' q
  | ret v => exact q
  | brk => exact q
  | cont => exact q
theorem pss_one (h1 : PS X st t) : PSs X [st] t := by
  intro pins s σ H D I h
  refine wpAny_execs_cons (thn (h1 pins s σ H D I h) fun f s1 q => ?_)
  cases f with
  | next => exact wpAny_execs_nil q
  | ret v => exact q
  | brk => exact q
  | cont => exact q
theorem Inv.quiet {pins : List (Addr × Obj)} {σ : St} {H : Hp} {s : Shared} (I : Inv X pins σ H s) : interactive X.env = false := by simp [interactive, I.ok.kind]
noncomputable def tDrop (te : TE) : TS := fun D σ H => te σ H fun _ H1 => D.nx σ H1
theorem ps_expr (he : PE X e te) (hs : autoParam (swapsWith e none pos.line X.env = pure false) au0_._auto_1) : PS X (.Expr e pos) (tDrop te) := by
  intro pins s σ H D I h
  exact wpAny_Expr_any (thn (he pins s σ H _ I h) fun v s1 ⟨x, H1, I1, r1, q1⟩ => ⟨σ, H1, I1, q1⟩) I.quiet hs
noncomputable def tRet (te : TE) : TS := fun D σ H => te σ H D.rt
theorem ps_ret (he : PE X e te) : PS X (.Return (some e) pos) (tRet te) := by
  intro pins s σ H D I h
  exact wpAny_Return_some (thn (he pins s σ H _ I h) fun v s1 ⟨x, H1, I1, r1, q1⟩ => ⟨x, σ, H1, I1, r1, q1⟩)
noncomputable def tIfS (c : TT) (t u : TS) : TS := fun D σ H => c σ H fun b H1 => if b = true then t D σ H1 else u D σ H1
theorem ps_if {c : Expr} {a b : List Stmt} {tc : TT} (hc : PT X c tc) (ha : PSs X a t) (hb : PSs X b u) : PS X (.If c a b pos) (tIfS tc t u) := by
  intro pins s σ H D I h
  refine wpAny_If (thn (hc pins s σ H _ I h) fun d s1 ⟨H1, I1, q1⟩ => ?_)
  cases d with
  | true => exact ha pins s1 σ H1 D I1 q1
  | false => exact hb pins s1 σ H1 D I1 q1
noncomputable def tNever : TS := fun _ _ _ => False
theorem ps_never : PS X st tNever := fun _ _ _ _ _ _ h => h.elim
end

noncomputable abbrev TG := V → St → Hp → (St → Hp → Prop) → Prop
noncomputable abbrev TGs := List V → St → Hp → (St → Hp → Prop) → Prop
noncomputable def PG (X : Cx) (target : Expr) (t : TG) : Prop :=
  ∀ (pins : List (Addr × Obj)) (s : Shared) (σ : St) (H : Hp) (v : V) (u : Value) (Q : St → Hp → Prop), Inv X pins σ H s → RelV v u → t v σ H Q →
    wpAny (model X.prog X.w) X.A (assign target X.env u) (fun _ s' => ∃ σ' H', Inv X pins σ' H' s' ∧ Q σ' H') X.xe s
noncomputable def PGs (X : Cx) (ts : List Expr) (t : TGs) : Prop :=
  ∀ (pins : List (Addr × Obj)) (s : Shared) (σ : St) (H : Hp) (vs : List V) (us : List Value) (Q : St → Hp → Prop), Inv X pins σ H s → Vals vs us → t vs σ H Q →
    wpAny (model X.prog X.w) X.A (assignInOrder ((assignEach ts X.env).map (·.2)) us) (fun _ s' => ∃ σ' H', Inv X pins σ' H' s' ∧ Q σ' H') X.xe s
section
variable {X : Cx} {pos : Pos}
noncomputable def gName (i : Nat) : TG := fun v σ H Q => Q (σ.set i (some v)) H
theorem pg_name {i : Nat} {x : Str} (hN : X.N.Nodup) (hi : X.N[i]? = some x) (hx : Loc X.env.scope x) (hf : X.fn x = true ∨ X.env.scope.names.lookup x = some .local := by first | exact .inl rfl | exact .inr rfl | assumption) : PG X (.Name x pos) (gName i) := by
  intro pins s σ H v u Q I r h
  exact wpAny_assign_Name (store_ok I hN hi hx r (fun s' I' => ⟨_, H, I', h⟩) hf)
noncomputable def gNil : TGs := fun vs σ H Q => vs = [] ∧ Q σ H
noncomputable def gCons (t : TG) (u : TGs) : TGs := fun vs σ H Q => ∃ v r, vs = v :: r ∧ t v σ H fun σ' H' => u r σ' H' Q
theorem pgs_nil : PGs X [] gNil := by
  intro pins s σ H vs us Q I r h
  obtain ⟨e, h⟩ := h
  subst e
  cases r
  exact assignInOrder_nil ⟨σ, H, I, h⟩
theorem pgs_cons {e : Expr} {es : List Expr} {t : TG} {u : TGs} (h1 : PG X e t) (h2 : PGs X es u)
    (hs : autoParam ((assignEach (e :: es) X.env).map (·.2) = assign e X.env :: (assignEach es X.env).map (·.2)) au0_._auto_1) : PGs X (e :: es) (gCons t u) := by
  intro pins s σ H vs us Q I r h
  obtain ⟨v, vr, e1, h⟩ := h
  subst e1
  cases r with
  | cons r rr =>
    rw [hs]
    refine assignInOrder_cons (thn (h1 pins s σ H _ _ _ I r h) fun _ s1 ⟨σ1, H1, I1, q1⟩ => ?_)
    exact h2 pins s1 σ1 H1 _ _ Q I1 rr q1
noncomputable def gTup (K : PySem.W.Frag) (n : Nat) (t : TGs) : TG := fun v σ H Q => ∃ a xs, v = .ref a ∧ SqT K H a xs ∧ xs.length = n ∧ t xs σ H Q
theorem pg_tup {es : List Expr} {k : Nat} {t : TGs} {n : Nat} (hc : X.calm = true) (h : PGs X es t)
    (hn : autoParam ((assignEach es X.env).length = n) au0_._auto_1) (hst : autoParam ((assignEach es X.env).findIdx? (·.1) = none) au0_._auto_1) : PG X (.Tuple es k pos) (gTup X.K n t) := by
  intro pins s σ H v u Q I r hw
  obtain ⟨a, xs, e1, hq, hl, hw⟩ := hw
  subst e1
  cases r
  obtain ⟨its, rv, ht, hz⟩ := I.tuple hq
  refine assign_Tuple_tuple (I.ok.hd hc) ht (by simp [hn, ← hl, rv.length]) hst fun h' hx => ?_
  have I1 : Inv X pins σ H { s with heap := h' } := I.kept (t' := s.toks) fun b o e => hx b o (Nat.ne_of_lt (Heap.lt_size e)) e
  exact h pins _ σ H xs _ Q I1 (by simpa using rv) hw
noncomputable def tAsg (te : TE) (g : TG) : TS := fun D σ H => te σ H fun x H1 => g x σ H1 D.nx
theorem ps_asg {tg e : Expr} {te : TE} {g : TG} (he : PE X e te) (hg : PG X tg g) (hs : autoParam (swapsWithSole [tg] e pos.line X.env = pure false) au0_._auto_1) (hw : autoParam (swappedStores [tg] e X.env = pure none) au0_._auto_1)
    (h1 : autoParam ((assignEach [tg] X.env).map (·.2) = [assign tg X.env]) au0_._auto_1) : PS X (.Assign [tg] e pos) (tAsg te g) := by
  intro pins s σ H D I h
  refine wpAny_Assign_stores (thn (he pins s σ H _ I h) fun v s1 ⟨x, H1, I1, r1, q1⟩ => ?_) hs hw
  rw [h1]
  exact thn (hg pins s1 σ H1 x v _ I1 r1 q1) fun _ s2 q => q
theorem ps_set {i : Nat} {x : Str} {e : Expr} {te : TE} {pos' : Pos} (hN : X.N.Nodup) (hi : X.N[i]? = some x) (hx : Loc X.env.scope x) (he : PE X e te) (hs : autoParam (swapsWith e (some (.Name x pos')) pos.line X.env = pure false) au0_._auto_1) (hf : X.fn x = true ∨ X.env.scope.names.lookup x = some .local := by first | exact .inl rfl | exact .inr rfl | assumption) :
    PS X (.Assign [.Name x pos'] e pos) (tAsg te (gName i)) := by
  intro pins s σ H D I h
  refine wpAny_Assign_Name (thn (he pins s σ H _ I h) fun v s1 ⟨y, H1, I1, r1, q1⟩ => ?_) hs
  exact store_ok I1 hN hi hx r1 (fun s2 I2 => ⟨_, H1, I2, q1⟩) hf
noncomputable def tPar (i j : Nat) (ta : TA) : TS := fun D σ H => ta σ H fun vs H1 => ∃ v w, vs = [v, w] ∧ D.nx ((σ.set i (some v)).set j (some w)) H1
theorem ps_par {i j : Nat} {x y : Str} {a b : Expr} {ta : TA} {px py pt : Pos} {kt k2 pt2} (hc : X.calm = true) (hN : X.N.Nodup) (hi : X.N[i]? = some x) (hj : X.N[j]? = some y) (hij : i ≠ j)
    (hx : X.env.scope.names.lookup x = some .local) (hy : X.env.scope.names.lookup y = some .local) (ha : PA X [a, b] ta)
    (hw : swappedStores [.Tuple [.Name x px, .Name y py] kt pt] (.Tuple [a, b] k2 pt2) X.env = pure (some [x, y]))
    (hs : autoParam (swapsWithSole [.Tuple [.Name x px, .Name y py] kt pt] (.Tuple [a, b] k2 pt2) pos.line X.env = pure false) au0_._auto_1) :
    PS X (.Assign [.Tuple [.Name x px, .Name y py] kt pt] (.Tuple [a, b] k2 pt2) pos) (tPar i j ta) := by
  intro pins s σ H D I h
  rw [exec_Assign_arm]
  refine wpAny_bind (wpAny_standAt ?_)
  rw [hs]
  refine wpAny_bind (wpAny_pure ?_)
  rw [if_neg (by decide)]
  refine wpAny_bind (Tuple_ (thn (ha _ pins s σ H _ I h) fun us s1 ⟨vs, H1, I1, r1, q1⟩ => ?_))
  obtain ⟨v, w, e1, q1⟩ := q1
  subst e1
  obtain ⟨u1, u2, rfl, rv, rw'⟩ : ∃ u1 u2, us = [u1, u2] ∧ RelV v u1 ∧ RelV w u2 := by
    cases r1 with
    | cons p q =>
      cases q with
      | cons p' q' =>
        cases q'
        exact ⟨_, _, rfl, p, p'⟩
  refine wpAny_newObj_type ?_ (by show 2 ≤ sizeLine; decide)
  have I2 : Inv X pins σ H1 { s1 with heap := s1.heap.push { cls := .type "tuple", data := .seq [u1, u2].toArray } } := I1.kept (t' := s1.toks) fun b o e => Heap.get?_push_of_some _ e
  rw [hw]
  refine wpAny_bind (wpAny_pure ?_)
  show wpAny (model X.prog X.w) X.A (do rule "assign.swapped-stores"; let items ← unpackItems (.ref s1.heap.objs.size) 2 none; assignInOrder [fun v => bindName X.env y v, fun v => bindName X.env x v] items.reverse; pure Flow.next) _ _ _
  refine wpAny_bind (wpAny_rule (wpAny_bind (unpackItems_tuple (items := #[u1, u2]) (I.ok.hd hc) (IsTup.new s1.heap _) fun h' hx' => ?_)))
  have I3 := I2.kept (h' := h') (t' := s1.toks) fun b o e => hx' b o (Nat.ne_of_lt (Heap.lt_size e)) e
  show wpAny _ _ (assignInOrder [fun v => bindName X.env y v, fun v => bindName X.env x v] [u2, u1] >>= fun _ => pure Flow.next) _ _ _
  refine wpAny_bind (assignInOrder_cons (wpAny_bindName (store_ok I3 hN hj (.inl hy) rw' (fun s2 I4 => ?_) (.inr hy))))
  refine assignInOrder_cons (wpAny_bindName (store_ok I4 hN hi (.inl hx) rv (fun s3 I5 => assignInOrder_nil (wpAny_pure ?_)) (.inr hx)))
  rw [List.set_comm _ _ (Ne.symm hij)] at I5
  exact ⟨_, H1, I5, q1⟩
end

section
variable {X : Cx} {pos : Pos}
noncomputable def tWhile (c : TT) (tb : TS) : TS := fun D σ H => ∃ W : Nat → St → Hp → Prop, (∃ m, W m σ H) ∧ ∀ m σ H, W m σ H →
  c σ H fun b H1 => if b = true then ∃ N : St → Hp → Prop, (∀ σ' H', N σ' H' → ∃ m', m' < m ∧ W m' σ' H') ∧ tb { D with nx := N, ct := N, bk := D.nx } σ H1 else D.nx σ H1
theorem ps_while {c : Expr} {body : List Stmt} {tc : TT} {tb : TS} (hp : PassesOwn (model X.prog X.w) X.A X.env X.xe) (hc : PT X c tc) (hb : PSs X body tb) : PS X (.While c body [] pos) (tWhile tc tb) := by
  intro pins s σ H D I h
  obtain ⟨W, ⟨m0, w0⟩, turn⟩ := h
  refine wpAny_While (codeAny_whileLoop (fun n s' => ∃ σ' H', Inv X pins σ' H' s' ∧ W n σ' H') ?_ m0 ⟨σ, H, I, w0⟩)
  rintro n s1 ⟨σ1, H1, I1, w1⟩
  refine wpAny_passesOwn hp (thn (hc pins s1 σ1 H1 _ I1 (turn n σ1 H1 w1)) fun b s2 ⟨H2, I2, q2⟩ => ?_)
  cases b with
  | true =>
    obtain ⟨N, hN, q2⟩ := q2
    rw [if_pos rfl]
    refine wpAny_passesOwn hp (thn (hb pins s2 σ1 H2 _ I2 q2) fun f s3 q3 => ?_)
    cases f with
    | next =>
      obtain ⟨σ3, H3, I3, n3⟩ := q3
      obtain ⟨m', hm, w3⟩ := hN σ3 H3 n3
      exact ⟨m', hm, σ3, H3, I3, w3⟩
    | cont =>
      obtain ⟨σ3, H3, I3, n3⟩ := q3
      obtain ⟨m', hm, w3⟩ := hN σ3 H3 n3
      exact ⟨m', hm, σ3, H3, I3, w3⟩
    | brk => exact q3
    | ret v => exact q3
  | false =>
    rw [if_neg Bool.false_ne_true]
    exact wpAny_execs_nil ⟨σ1, H2, I2, q2⟩
end

structure It where
  go : Nat → Hp → Prop
  yld : Nat → Hp → V → Hp → Prop
  stop : Nat → Hp → Prop
noncomputable def FpOk (X : Cx) (pins : List (Addr × Obj)) (H : Hp) (b : Addr) : Prop :=
  H b = none ∧ b ≠ X.env.locals ∧ b ∉ X.fs ∧ (b ∈ X.ex ∨ X.s₀.heap.objs.size ≤ b) ∧ (∀ x c, X.env.cells.lookup x = some c → c ≠ b) ∧ ∀ p ∈ X.pn ++ pins, p.1 ≠ b
theorem Inv.fpOk {X : Cx} {pins : List (Addr × Obj)} {σ : St} {H H' : Hp} {s : Shared} {b : Addr} (I : Inv X pins σ H s) (hb : s.heap.objs.size ≤ b) (hn : H' b = none) : FpOk X pins H' b := by
  refine ⟨hn, Nat.ne_of_gt (Nat.lt_of_lt_of_le I.lt hb), I.nofs hb, .inr (Nat.le_trans I.sz hb), fun x c e z => ?_, fun p hp z => ?_⟩
  · obtain ⟨v, q⟩ := I.cell x c e
    exact absurd (Nat.lt_of_lt_of_le q.lt (by rw [z]; exact hb)) (Nat.lt_irrefl _)
  · exact absurd (Nat.lt_of_lt_of_le (Heap.lt_size (I.pin p hp).1) (by rw [z]; exact hb)) (Nat.lt_irrefl _)
structure Turn (P : Program) (w : World) (K : PySem.W.Frag) (tg : Expr) (J : It) (fp : List Addr) (it : Addr) (tn : Nat → Heap → Prop) : Prop where
  mem : it ∈ fp
  obj : ∀ i h, tn i h → ∀ b ∈ fp, ∃ o, h.get? b = some o ∧ ∀ v, o.data ≠ .cell v
  keep : ∀ i h h', tn i h → (∀ b ∈ fp, ∀ o, h.get? b = some o → h'.get? b = some o) → tn i h'
  item : ∀ (X : Cx), X.prog = P → X.w = w → X.K = K → X.calm = true → ∀ (i : Nat) (pins : List (Addr × Obj)) (s : Shared) (σ : St) (H : Hp) (E : Value → Shared → Prop), Inv X pins σ H s → (∀ b ∈ fp, FpOk X pins H b) → tn i s.heap → J.go i H →
    wpAny (model P w) X.A (pyNext (.ref it)) (fun r s1 => ∃ u, r = some u ∧
      wpAny (model P w) X.A (letOwnedTupleGo tg (.ref it) u) (fun _ s2 => ∃ x H', Inv X pins σ H' s2 ∧ RelV x u ∧ J.yld i H x H' ∧ tn (i + 1) s2.heap ∧ ∀ b ∈ fp, H' b = none) E s1) E s
  done : ∀ (X : Cx), X.prog = P → X.w = w → X.K = K → X.calm = true → ∀ (i : Nat) (pins : List (Addr × Obj)) (s : Shared) (σ : St) (H : Hp) (E : Value → Shared → Prop), Inv X pins σ H s → (∀ b ∈ fp, FpOk X pins H b) → tn i s.heap → J.stop i H →
    wpAny (model P w) X.A (pyNext (.ref it)) (fun r s1 => r = none ∧ Inv X pins σ H s1) E s
  self : ∀ (A : Around) (i : Nat) (s : Shared) (Q : Value → Shared → Prop) (E : Value → Shared → Prop), tn i s.heap → Q (.ref it) s → wpAny (model P w) A (pyIter (.ref it)) Q E s
noncomputable abbrev TI := St → Hp → (It → Hp → Prop) → Prop
noncomputable def PIE (X : Cx) (pins : List (Addr × Obj)) (σ : St) (tg : Expr) (R : It → Hp → Prop) (itv : Value) (s2 : Shared) : Prop :=
  ∃ (it : Addr) (fp : List Addr) (tn : Nat → Heap → Prop) (J : It) (H' : Hp), itv = .ref it ∧ Inv X pins σ H' s2 ∧ Turn X.prog X.w X.K tg J fp it tn ∧ tn 0 s2.heap ∧ (∀ b ∈ fp, FpOk X pins H' b) ∧ R J H'
noncomputable def PI (X : Cx) (tg iter : Expr) (wi : TI) : Prop :=
  ∀ (pins : List (Addr × Obj)) (s : Shared) (σ : St) (H : Hp) (R : It → Hp → Prop), Inv X pins σ H s → wi σ H R →
    wpAny (model X.prog X.w) X.A (eval iter X.env) (fun v s1 => wpAny (model X.prog X.w) X.A (pyIter v) (PIE X pins σ tg R) X.xe s1) X.xe s

theorem go_of {M : Model} {A : Around} {E : Value → Shared → Prop} {s : Shared} {tg : Expr} {it : Addr} {u : Value} {o : Obj} {n : String} {vs : Array Value} {Q : Unit → Shared → Prop} (ho : s.heap.get? it = some o) (hc : o.cls = .type n) (hd : o.data = .fields vs)
    (hn : ["enumerate", "zip", "dict_itemiterator", "dict_reverseitemiterator", "odict_iterator", "itertools.zip_longest", "itertools.pairwise"].contains n = false) (hQ : Q () s) : wpAny M A (letOwnedTupleGo tg (.ref it) u) Q E s := by
  unfold letOwnedTupleGo
  cases tg <;> first
    | exact wpAny_pure hQ
    | (cases u <;> first
        | exact wpAny_pure hQ
        | (refine wpAny_bind (wpAny_load ho ?_)
           rw [hc, hd]
           show wpAny M A (if (["enumerate", "zip", "dict_itemiterator", "dict_reverseitemiterator", "odict_iterator", "itertools.zip_longest", "itertools.pairwise"].contains n && vs[0]? == some (rawInt _)) = true then _ else _) Q E s
           rw [if_neg (by intro h; rw [hn, Bool.false_and] at h; cases h)]
           exact wpAny_pure hQ))

noncomputable def Itl (K : PySem.W.Frag) (a : Addr) : It :=
  ⟨fun i H => ∃ xs x, SqL K H a xs ∧ xs[i]? = some x, fun i H x H' => H' = H ∧ ∀ xs, SqL K H a xs → xs[i]? = some x, fun i H => ∃ xs, SqL K H a xs ∧ xs.length ≤ i⟩
noncomputable def Itt (K : PySem.W.Frag) (a : Addr) : It :=
  ⟨fun i H => ∃ xs x, SqT K H a xs ∧ xs[i]? = some x, fun i H x H' => H' = H ∧ ∀ xs, SqT K H a xs → xs[i]? = some x, fun i H => ∃ xs, SqT K H a xs ∧ xs.length ≤ i⟩
noncomputable def Itr (lo : Int) (n : Nat) : It := ⟨fun i _ => i < n, fun i H x H' => H' = H ∧ x = .int (lo + i), fun i _ => n ≤ i⟩
theorem turn_list {P : Program} {w : World} {K : PySem.W.Frag} {tg : Expr} (a it : Addr) : Turn P w K tg (Itl K a) [it] it (fun i h => h.IsListIter it a i) where
  mem := by simp
  obj := fun i h st b hb => by
    have e : b = it := by simpa using hb
    subst e
    obtain ⟨o, e, c, d⟩ := st
    exact ⟨o, e, fun v z => by rw [d] at z; cases z⟩
  keep := fun i h h' st k => st.at fun o e => k it (by simp) o e
  item := by
    intro X hP hw hK hc i pins s σ H E I hf st hg
    subst hP hw hK
    obtain ⟨xs, x, hq, hx⟩ := hg
    obtain ⟨its, rv, p, hz⟩ := I.list hq
    obtain ⟨u, hu, ru⟩ := rv.get hx
    obtain ⟨f0, f1, f2, f3, f4, f5⟩ := hf it (by simp)
    refine wpAny_pyNext_list_item st p.isList (x := u) (by simpa using hu) fun h' st' sb => ?_
    have I1 : Inv X pins σ H { s with heap := h' } := I.turned (t' := s.toks) (fun b o hb e => (sb.2 b hb).trans e) f0 f1 f3 f4 f5
    obtain ⟨o, e, c, d⟩ := id st'
    exact ⟨u, rfl, go_of (s := { s with heap := h' }) e c d (by decide) ⟨x, H, I1, ru, ⟨rfl, fun ys hy => by rw [I.list_inj hy hq]; exact hx⟩, st', fun b hb => (hf b hb).1⟩⟩
  done := by
    intro X hP hw hK hc i pins s σ H E I hf st hg
    subst hP hw hK
    obtain ⟨xs, hq, hx⟩ := hg
    obtain ⟨its, rv, p, hz⟩ := I.list hq
    obtain ⟨f0, f1, f2, f3, f4, f5⟩ := hf it (by simp)
    have hl := rv.length
    exact wpAny_pyNext_list_end (I.ok.hd hc) st p.isList (by simp; omega) fun h' eb => ⟨rfl, I.turned (t' := s.toks) (fun b o hb e => eb b o hb e) f0 f1 f3 f4 f5⟩
  self := fun _ _ _ _ _ st h => wpAny_pyIter_listiter st h
theorem turn_tuple {P : Program} {w : World} {K : PySem.W.Frag} {tg : Expr} (a it : Addr) : Turn P w K tg (Itt K a) [it] it (fun i h => h.IsTupleIter it a i) where
  mem := by simp
  obj := fun i h st b hb => by
    have e : b = it := by simpa using hb
    subst e
    obtain ⟨o, e, c, d⟩ := st
    exact ⟨o, e, fun v z => by rw [d] at z; cases z⟩
  keep := fun i h h' st k => st.at fun o e => k it (by simp) o e
  item := by
    intro X hP hw hK hc i pins s σ H E I hf st hg
    subst hP hw hK
    obtain ⟨xs, x, hq, hx⟩ := hg
    obtain ⟨its, rv, p, hz⟩ := I.tuple hq
    obtain ⟨u, hu, ru⟩ := rv.get hx
    obtain ⟨f0, f1, f2, f3, f4, f5⟩ := hf it (by simp)
    refine wpAny_pyNext_tuple_item st (show s.heap.IsTuple a its.toArray from p) (x := u) (by simpa using hu) fun h' st' sb => ?_
    have I1 : Inv X pins σ H { s with heap := h' } := I.turned (t' := s.toks) (fun b o hb e => (sb.2 b hb).trans e) f0 f1 f3 f4 f5
    obtain ⟨o, e, c, d⟩ := id st'
    exact ⟨u, rfl, go_of (s := { s with heap := h' }) e c d (by decide) ⟨x, H, I1, ru, ⟨rfl, fun ys hy => by rw [I.tuple_inj hy hq]; exact hx⟩, st', fun b hb => (hf b hb).1⟩⟩
  done := by
    intro X hP hw hK hc i pins s σ H E I hf st hg
    subst hP hw hK
    obtain ⟨xs, hq, hx⟩ := hg
    obtain ⟨its, rv, p, hz⟩ := I.tuple hq
    obtain ⟨f0, f1, f2, f3, f4, f5⟩ := hf it (by simp)
    have hl := rv.length
    exact wpAny_pyNext_tuple_end (I.ok.hd hc) st (show s.heap.IsTuple a its.toArray from p) (by simp; omega) fun h' eb => ⟨rfl, I.turned (t' := s.toks) (fun b o hb e => eb b o hb e) f0 f1 f3 f4 f5⟩
  self := fun _ _ _ _ _ st h => wpAny_pyIter_tupleiter st h
theorem turn_range {P : Program} {w : World} {K : PySem.W.Frag} {tg : Expr} (it : Addr) (lo : Int) (n : Nat) : Turn P w K tg (Itr lo n) [it] it (fun i h => IsRangeIter h it (lo + (i : Nat) * 1) ((n : Int) - (i : Nat)) 1) where
  mem := by simp
  obj := fun i h st b hb => by
    have e : b = it := by simpa using hb
    subst e
    exact ⟨_, st, fun v z => by
      have z' : Data.fields _ = Data.cell v := z
      cases z'⟩
  keep := fun i h h' st k => k it (by simp) _ st
  item := by
    intro X hP hw hK hc i pins s σ H E I hf st hg
    subst hP hw hK
    obtain ⟨f0, f1, f2, f3, f4, f5⟩ := hf it (by simp)
    have W := Walks.range (prog := X.prog) (w := X.w) (I.ok.hd hc) it lo 1 n
    refine W.item i s _ _ hg st fun v h' tk hv st' kk => ?_
    obtain ⟨t, rfl⟩ := hv
    have I1 : Inv X pins σ H { s with heap := h', toks := tk } := I.turned (fun b o hb e => kk b o (by simpa using hb) e) f0 f1 f3 f4 f5
    refine ⟨_, rfl, go_of (s := { s with heap := h', toks := tk }) (n := "range_iterator") st' rfl rfl (by decide) ⟨.int (lo + i), H, I1, ⟨t, ?_⟩, ⟨rfl, rfl⟩, st', fun b hb => (hf b hb).1⟩⟩
    rw [Int.mul_one]
  done := by
    intro X hP hw hK hc i pins s σ H E I hf st hg
    subst hP hw hK
    obtain ⟨f0, f1, f2, f3, f4, f5⟩ := hf it (by simp)
    exact wpAny_pyNext_range_end (I.ok.hd hc) st (by have : n ≤ i := hg; omega) fun h' eb => ⟨rfl, I.turned (t' := s.toks) (fun b o hb e => eb b o hb e) f0 f1 f3 f4 f5⟩
  self := fun _ _ _ _ _ st h => wpAny_pyIter_rangeiter st h
end L2

namespace L2
open PySem PySem.Spec PyProof.Rows
section
variable {X : Cx} {tg : Expr}
noncomputable def iList (K : PySem.W.Frag) (tl : TE) : TI := fun σ H R => tl σ H fun x H1 => ∃ a, x = .ref a ∧ (∃ xs, SqL K H1 a xs) ∧ R (Itl K a) H1
noncomputable def iTup (K : PySem.W.Frag) (tl : TE) : TI := fun σ H R => tl σ H fun x H1 => ∃ a, x = .ref a ∧ (∃ xs, SqT K H1 a xs) ∧ R (Itt K a) H1
theorem pi_list {l : Expr} {tl : TE} (hl : PE X l tl) : PI X tg l (iList X.K tl) := by
  intro pins s σ H R I h
  refine thn (hl pins s σ H _ I h) fun v s1 ⟨x, H1, I1, r1, q1⟩ => ?_
  obtain ⟨a, e, ⟨xs, hq⟩, q⟩ := q1
  subst e
  cases r1
  obtain ⟨its, rv, p, hz⟩ := I1.list hq
  refine wpAny_pyIter_list p.isList ?_
  refine ⟨s1.heap.objs.size, [s1.heap.objs.size], _, _, H1, rfl, I1.kept (t' := s1.toks) fun b o e => Heap.get?_push_of_some _ e, turn_list a _, ⟨_, Heap.get?_push_size _ rfl, rfl, rfl⟩, fun b hb => ?_, q⟩
  have e : b = s1.heap.objs.size := by simpa using hb
  subst e
  exact I1.fpOk (Nat.le_refl _) (I1.hok.fresh (Nat.le_refl _))
theorem pi_tup {l : Expr} {tl : TE} (hl : PE X l tl) : PI X tg l (iTup X.K tl) := by
  intro pins s σ H R I h
  refine thn (hl pins s σ H _ I h) fun v s1 ⟨x, H1, I1, r1, q1⟩ => ?_
  obtain ⟨a, e, ⟨xs, hq⟩, q⟩ := q1
  subst e
  cases r1
  obtain ⟨its, rv, p, hz⟩ := I1.tuple hq
  refine wpAny_pyIter_tuple (show s1.heap.IsTuple a its.toArray from p) ?_
  refine ⟨s1.heap.objs.size, [s1.heap.objs.size], _, _, H1, rfl, I1.kept (t' := s1.toks) fun b o e => Heap.get?_push_of_some _ e, turn_tuple a _, ⟨_, Heap.get?_push_size _ rfl, rfl, rfl⟩, fun b hb => ?_, q⟩
  have e : b = s1.heap.objs.size := by simpa using hb
  subst e
  exact I1.fpOk (Nat.le_refl _) (I1.hok.fresh (Nat.le_refl _))
theorem range_it {pins : List (Addr × Obj)} {σ : St} {H : Hp} {s : Shared} {R : It → Hp → Prop} {E : Value → Shared → Prop} {lo hi : Int} {t u v : Tok} {tk : Nat} (I : Inv X pins σ H s) (h1 : -(2 ^ 62) ≤ lo) (h2 : lo < 2 ^ 62) (h3 : -(2 ^ 62) ≤ hi) (h4 : hi < 2 ^ 62)
    (q : R (Itr lo (hi - lo).toNat) H) : wpAny (model X.prog X.w) X.A (pyIter (.ref s.heap.objs.size)) (PIE X pins σ tg R) E { s with heap := s.heap.push { cls := .type "range", data := .fields #[.int lo t, .int hi u, .int 1 v] }, toks := tk } := by
  refine wpAny_pyIter_range (IsRange.new ..) (small_one h1 h2 h3 h4) ?_
  have I1 : Inv X pins σ H { s with heap := s.heap.push { cls := .type "range", data := .fields #[.int lo t, .int hi u, .int 1 v] }, toks := tk } := I.kept fun b o e => Heap.get?_push_of_some _ e
  refine ⟨(s.heap.push { cls := .type "range", data := .fields #[.int lo t, .int hi u, .int 1 v] }).objs.size, [(s.heap.push { cls := .type "range", data := .fields #[.int lo t, .int hi u, .int 1 v] }).objs.size], _, _, H, rfl,
    I1.kept (t' := tk) fun b o e => Heap.get?_push_of_some _ e, turn_range _ lo (hi - lo).toNat, ?_, fun b hb => ?_, q⟩
  · have e1 : lo + ((0 : Nat) : Int) * 1 = lo := by simp
    have e2 : (((hi - lo).toNat : Nat) : Int) - ((0 : Nat) : Int) = Builtin.Range.rangeSize lo hi 1 := by rw [rangeSize_one]; split <;> omega
    show IsRangeIter _ _ (lo + ((0 : Nat) : Int) * 1) ((((hi - lo).toNat : Nat) : Int) - ((0 : Nat) : Int)) 1
    rw [e1, e2]
    exact Heap.get?_push_size _ rfl
  · have e : b = (s.heap.push { cls := .type "range", data := .fields #[.int lo t, .int hi u, .int 1 v] }).objs.size := by simpa using hb
    subst e
    exact I1.fpOk (Nat.le_refl _) (I1.hok.fresh (Nat.le_refl _))
noncomputable def iRng1 (ta : TA) : TI := fun σ H R => ta σ H fun vs H1 => ∃ j : Int, vs = [.int j] ∧ -(2 ^ 62) ≤ j ∧ j < 2 ^ 62 ∧ R (Itr 0 j.toNat) H1
theorem pi_range1 {a : Expr} {ta : TA} {p pos : Pos} (hg : Gl X "range") (hm : X.mg "range" = none) (ha : PA X [a] ta) (hs : autoParam (starEach [a] X.env = [(false, eval a X.env)]) au0_._auto_1) : PI X tg (.Call (.Name "range" p) [a] [] pos) (iRng1 ta) := by
  intro pins s σ H R I h
  refine Call_ (ld_blt I hg hm boot_range (PyProof.Rows.callWith_type1 (thn (ha pos pins s σ H _ I h) fun us s1 ⟨vs, H1, I1, r1, q1⟩ => ?_) hs rfl))
  obtain ⟨j, e, q1, q2, q⟩ := q1
  subst e
  cases r1 with
  | cons r rr =>
    cases rr
    obtain ⟨t, rfl⟩ := r
    exact call_range_1 (range_it I1 (by omega) (by omega) q1 q2 (by simpa using q))
noncomputable def tFor (wi : TI) (g : TG) (tb : TS) : TS := fun D σ H => wi σ H fun J H1 => ∃ W : Nat → Nat → St → Hp → Prop, (∃ m, W 0 m σ H1) ∧ ∀ i m σ H, W i m σ H →
  (J.stop i H ∧ D.nx σ H) ∨ (J.go i H ∧ ∃ N : St → Hp → Prop, (∀ σ' H', N σ' H' → ∃ m', m' < m ∧ W (i + 1) m' σ' H') ∧ ∀ x H', J.yld i H x H' → g x σ H' fun σ2 H2 => tb { D with nx := N, ct := N, bk := D.nx } σ2 H2)
noncomputable def pinsAt (fp : List Addr) (h : Heap) : List (Addr × Obj) := fp.filterMap fun b => (h.get? b).map fun o => (b, o)
theorem mem_pinsAt {fp : List Addr} {h : Heap} {b : Addr} {o : Obj} (hb : b ∈ fp) (e : h.get? b = some o) : (b, o) ∈ pinsAt fp h := List.mem_filterMap.mpr ⟨b, hb, by rw [e]; rfl⟩
theorem of_pinsAt {fp : List Addr} {h : Heap} {p : Addr × Obj} (hp : p ∈ pinsAt fp h) : p.1 ∈ fp ∧ h.get? p.1 = some p.2 := by
  obtain ⟨b, hb, e⟩ := List.mem_filterMap.mp hp
  cases q : h.get? b with
  | none => rw [q] at e; cases e
  | some o =>
    rw [q] at e
    have e' : (b, o) = p := Option.some.inj e
    subst e'
    exact ⟨hb, q⟩
theorem Inv.pinned {pins : List (Addr × Obj)} {σ : St} {H : Hp} {s : Shared} {fp : List Addr} (I : Inv X pins σ H s) (hf : ∀ b ∈ fp, FpOk X pins H b) (ho : ∀ b ∈ fp, ∃ o, s.heap.get? b = some o ∧ ∀ v, o.data ≠ .cell v) : Inv X (pins ++ pinsAt fp s.heap) σ H s :=
  I.pins_of fun p hp => (List.mem_append.mp hp).elim (fun z => I.pin p (List.mem_append_right _ z)) fun z => by
    obtain ⟨hb, e⟩ := of_pinsAt z
    obtain ⟨f0, f1, f2, _⟩ := hf p.1 hb
    obtain ⟨o, e', d⟩ := ho p.1 hb
    rw [e] at e'; cases e'
    exact ⟨e, f0, f1, f2, d⟩
theorem Inv.unpinned {pins pl : List (Addr × Obj)} {σ : St} {H : Hp} {s : Shared} (I : Inv X (pins ++ pl) σ H s) : Inv X pins σ H s := I.pins_of fun p hp => I.pin p (List.mem_append_right _ (List.mem_append_left _ hp))
theorem ps_for {iter : Expr} {body : List Stmt} {wi : TI} {g : TG} {tb : TS} {pos : Pos} (hp : PassesOwn (model X.prog X.w) X.A X.env X.xe) (hc : X.calm = true) (hi : PI X tg iter wi) (hg : PG X tg g) (hb : PSs X body tb)
    (hs : autoParam (∀ x, foldedSetIterable iter X.env x = pure x) au2_._auto_1) : PS X (.For tg iter body [] pos) (tFor wi g tb) := by
  intro pins s σ H D I h
  refine wpAny_For (thn (hi pins s σ H _ I h) fun v s1 h1 => thn h1 fun itv s2 h2 => ?_) hs
  obtain ⟨it, fp, tn, J, H2, e, I2, T, st2, f2, W, ⟨m0, w0⟩, turn⟩ := h2
  subst e
  -- what stays true of the iterator's objects through the loop
  have stat : ∀ {H' : Hp}, (∀ b ∈ fp, H' b = none) → ∀ b ∈ fp, FpOk X pins H' b := fun hn b hb => ⟨hn b hb, (f2 b hb).2⟩
  refine codeAny_forLoop_any (fun n s' => ∃ i σ' H', Inv X pins σ' H' s' ∧ tn i s'.heap ∧ (∀ b ∈ fp, H' b = none) ∧ W i n σ' H') ?_ m0 ⟨0, σ, H2, I2, st2, fun b hb => (f2 b hb).1, w0⟩
  rintro n s3 ⟨i, σ3, H3, I3, st3, fr3, w3⟩
  rcases turn i n σ3 H3 w3 with ⟨stop, qn⟩ | ⟨go, N, hN, step⟩
  · refine wpAny_passesOwn hp (thn (T.done X rfl rfl rfl hc i pins s3 σ3 H3 X.xe I3 (stat fr3) st3 stop) fun r s4 ⟨hr, I4⟩ => ?_)
    subst hr
    exact wpAny_execs_nil ⟨σ3, H3, I4, qn⟩
  · refine wpAny_passesOwn hp (thn (T.item X rfl rfl rfl hc i pins s3 σ3 H3 X.xe I3 (stat fr3) st3 go) fun r s4 ⟨u, hr, h4⟩ => ?_)
    subst hr
    refine wpAny_passesOwn hp (thn h4 fun _ s5 ⟨x, H5, I5, r5, y5, st5, fr5⟩ => ?_)
    have I5' := I5.pinned (stat fr5) (T.obj _ _ st5)
    refine wpAny_passesOwn hp (thn (hg _ s5 σ3 H5 x u _ I5' r5 (step x H5 y5)) fun _ s6 ⟨σ6, H6, I6, q6⟩ => ?_)
    refine wpAny_passesOwn hp (thn (hb _ s6 σ6 H6 _ I6 q6) fun f s7 q7 => ?_)
    have again : ∀ {σ7 : St} {H7 : Hp}, Inv X (pins ++ pinsAt fp s5.heap) σ7 H7 s7 → N σ7 H7 → ∃ m, m < n ∧ ∃ i σ' H', Inv X pins σ' H' s7 ∧ tn i s7.heap ∧ (∀ b ∈ fp, H' b = none) ∧ W i m σ' H' := fun {σ7 H7} I7 n7 => by
      obtain ⟨m', hm, w7⟩ := hN σ7 H7 n7
      refine ⟨m', hm, i + 1, σ7, H7, I7.unpinned, T.keep _ _ _ st5 fun b hb o e => (I7.pin (b, o) (List.mem_append_right _ (List.mem_append_right _ (mem_pinsAt hb e)))).1, fun b hb => ?_, w7⟩
      obtain ⟨o, e, d⟩ := T.obj _ _ st5 b hb
      exact (I7.pin (b, o) (List.mem_append_right _ (List.mem_append_right _ (mem_pinsAt hb e)))).2.1
    cases f with
    | next => obtain ⟨σ7, H7, I7, n7⟩ := q7; exact again I7 n7
    | cont => obtain ⟨σ7, H7, I7, n7⟩ := q7; exact again I7 n7
    | brk => obtain ⟨σ7, H7, I7, q7⟩ := q7; exact ⟨σ7, H7, I7.unpinned, q7⟩
    | ret v => obtain ⟨x7, σ7, H7, I7, r7, q7⟩ := q7; exact ⟨x7, σ7, H7, I7.unpinned, r7, q7⟩
end

theorem for_list {K : PySem.W.Frag} {a : Addr} {xs : List V} {g : TG} {tb : TS} {D : Ends} {σ : St} {H : Hp} (Pv : Nat → St → Hp → Prop) (h0 : Pv 0 σ H) (hl : ∀ i σ H, i ≤ xs.length → Pv i σ H → SqL K H a xs)
    (hs : ∀ i x σ H, xs[i]? = some x → Pv i σ H → g x σ H fun σ2 H2 => tb { D with nx := Pv (i + 1), ct := Pv (i + 1), bk := D.nx } σ2 H2) (hd : ∀ σ H, Pv xs.length σ H → D.nx σ H) :
    ∃ W : Nat → Nat → St → Hp → Prop, (∃ m, W 0 m σ H) ∧ ∀ i m σ H, W i m σ H →
      ((Itl K a).stop i H ∧ D.nx σ H) ∨ ((Itl K a).go i H ∧ ∃ N : St → Hp → Prop, (∀ σ' H', N σ' H' → ∃ m', m' < m ∧ W (i + 1) m' σ' H') ∧ ∀ x H', (Itl K a).yld i H x H' → g x σ H' fun σ2 H2 => tb { D with nx := N, ct := N, bk := D.nx } σ2 H2) := by
  refine ⟨fun i m σ H => m = xs.length - i ∧ i ≤ xs.length ∧ Pv i σ H, ⟨xs.length, by simp, Nat.zero_le _, h0⟩, ?_⟩
  rintro i m σ H ⟨rfl, hi, p⟩
  have q := hl i σ H hi p
  by_cases hlt : i < xs.length
  · refine .inr ⟨⟨xs, xs[i], q, by simp [hlt]⟩, Pv (i + 1), fun σ' H' p' => ⟨xs.length - (i + 1), by omega, rfl, hlt, p'⟩, fun x H' y => ?_⟩
    obtain ⟨e, y⟩ := y
    subst e
    exact hs i x σ _ (y xs q) p
  · have e : i = xs.length := by omega
    subst e
    exact .inl ⟨⟨xs, q, Nat.le_refl _⟩, hd σ H p⟩
theorem for_tup {K : PySem.W.Frag} {a : Addr} {xs : List V} {g : TG} {tb : TS} {D : Ends} {σ : St} {H : Hp} (Pv : Nat → St → Hp → Prop) (h0 : Pv 0 σ H) (hl : ∀ i σ H, i ≤ xs.length → Pv i σ H → SqT K H a xs)
    (hs : ∀ i x σ H, xs[i]? = some x → Pv i σ H → g x σ H fun σ2 H2 => tb { D with nx := Pv (i + 1), ct := Pv (i + 1), bk := D.nx } σ2 H2) (hd : ∀ σ H, Pv xs.length σ H → D.nx σ H) :
    ∃ W : Nat → Nat → St → Hp → Prop, (∃ m, W 0 m σ H) ∧ ∀ i m σ H, W i m σ H →
      ((Itt K a).stop i H ∧ D.nx σ H) ∨ ((Itt K a).go i H ∧ ∃ N : St → Hp → Prop, (∀ σ' H', N σ' H' → ∃ m', m' < m ∧ W (i + 1) m' σ' H') ∧ ∀ x H', (Itt K a).yld i H x H' → g x σ H' fun σ2 H2 => tb { D with nx := N, ct := N, bk := D.nx } σ2 H2) := by
  refine ⟨fun i m σ H => m = xs.length - i ∧ i ≤ xs.length ∧ Pv i σ H, ⟨xs.length, by simp, Nat.zero_le _, h0⟩, ?_⟩
  rintro i m σ H ⟨rfl, hi, p⟩
  have q := hl i σ H hi p
  by_cases hlt : i < xs.length
  · refine .inr ⟨⟨xs, xs[i], q, by simp [hlt]⟩, Pv (i + 1), fun σ' H' p' => ⟨xs.length - (i + 1), by omega, rfl, hlt, p'⟩, fun x H' y => ?_⟩
    obtain ⟨e, y⟩ := y
    subst e
    exact hs i x σ _ (y xs q) p
  · have e : i = xs.length := by omega
    subst e
    exact .inl ⟨⟨xs, q, Nat.le_refl _⟩, hd σ H p⟩
theorem for_range {lo : Int} {n : Nat} {g : TG} {tb : TS} {D : Ends} {σ : St} {H : Hp} (Pv : Nat → St → Hp → Prop) (h0 : Pv 0 σ H)
    (hs : ∀ i σ H, i < n → Pv i σ H → g (.int (lo + i)) σ H fun σ2 H2 => tb { D with nx := Pv (i + 1), ct := Pv (i + 1), bk := D.nx } σ2 H2) (hd : ∀ σ H, Pv n σ H → D.nx σ H) :
    ∃ W : Nat → Nat → St → Hp → Prop, (∃ m, W 0 m σ H) ∧ ∀ i m σ H, W i m σ H →
      ((Itr lo n).stop i H ∧ D.nx σ H) ∨ ((Itr lo n).go i H ∧ ∃ N : St → Hp → Prop, (∀ σ' H', N σ' H' → ∃ m', m' < m ∧ W (i + 1) m' σ' H') ∧ ∀ x H', (Itr lo n).yld i H x H' → g x σ H' fun σ2 H2 => tb { D with nx := N, ct := N, bk := D.nx } σ2 H2) := by
  refine ⟨fun i m σ H => m = n - i ∧ i ≤ n ∧ Pv i σ H, ⟨n, by simp, Nat.zero_le _, h0⟩, ?_⟩
  rintro i m σ H ⟨rfl, hi, p⟩
  by_cases hlt : i < n
  · refine .inr ⟨hlt, Pv (i + 1), fun σ' H' p' => ⟨n - (i + 1), by omega, rfl, hlt, p'⟩, fun x H' y => ?_⟩
    obtain ⟨e, y⟩ := y
    subst e y
    exact hs i σ _ hlt p
  · have e : i = n := by omega
    subst e
    exact .inl ⟨Nat.le_refl _, hd σ H p⟩
theorem while_by {c : TT} {tb : TS} {D : Ends} {σ : St} {H : Hp} (Pv : St → Hp → Prop) (μ : St → Hp → Nat) (h0 : Pv σ H)
    (hs : ∀ σ H, Pv σ H → c σ H fun b H1 => if b = true then tb { D with nx := fun σ' H' => Pv σ' H' ∧ μ σ' H' < μ σ H, ct := fun σ' H' => Pv σ' H' ∧ μ σ' H' < μ σ H, bk := D.nx } σ H1 else D.nx σ H1)
    (mono : ∀ σ H Q Q', (∀ b H1, Q b H1 → Q' b H1) → c σ H Q → c σ H Q') : tWhile c tb D σ H := by
  refine ⟨fun m σ H => m = μ σ H ∧ Pv σ H, ⟨_, rfl, h0⟩, ?_⟩
  rintro m σ H ⟨rfl, p⟩
  refine mono σ H _ _ (fun b H1 q => ?_) (hs σ H p)
  cases b with
  | true => exact ⟨_, fun σ' H' ⟨p', l⟩ => ⟨_, l, rfl, p'⟩, q⟩
  | false => exact q
end L2

namespace L2
open PySem PySem.Spec PyProof.Rows

noncomputable abbrev R2 := V → V → Hp → VK → Prop
noncomputable def OpR (X : Cx) (f : Value → Value → Sem Value) (r : R2) : Prop :=
  ∀ (pins : List (Addr × Obj)) (s : Shared) (σ : St) (H : Hp) (x y : V) (v u : Value) (Q : VK), Inv X pins σ H s → RelV x v → RelV y u → r x y H Q →
    wpAny (model X.prog X.w) X.A (f v u) (EP X pins σ Q) X.xe s
noncomputable def UnR (X : Cx) (f : Value → Sem Value) (r : V → Hp → VK → Prop) : Prop :=
  ∀ (pins : List (Addr × Obj)) (s : Shared) (σ : St) (H : Hp) (x : V) (v : Value) (Q : VK), Inv X pins σ H s → RelV x v → r x H Q →
    wpAny (model X.prog X.w) X.A (f v) (EP X pins σ Q) X.xe s
noncomputable def CallR (X : Cx) (f : Value) (r : List V → Hp → VK → Prop) : Prop :=
  ∀ (pins : List (Addr × Obj)) (s : Shared) (σ : St) (H : Hp) (xs : List V) (us : List Value) (Q : VK), Inv X pins σ H s → Vals xs us → r xs H Q →
    wpAny (model X.prog X.w) X.A (call f us) (EP X pins σ Q) X.xe s
noncomputable def tOp (r : R2) (ta tb : TE) : TE := fun σ H Q => ta σ H fun x H1 => tb σ H1 fun y H2 => r x y H2 Q
noncomputable def tUn (r : V → Hp → VK → Prop) (ta : TE) : TE := fun σ H Q => ta σ H fun x H1 => r x H1 Q
noncomputable def rI (C : Int → Int → Prop) (g : Int → Int → V) : R2 := fun x y H Q => ∃ i j, x = .int i ∧ y = .int j ∧ C i j ∧ Q (g i j) H
noncomputable def rI0 (g : Int → Int → V) : R2 := fun x y H Q => ∃ i j, x = .int i ∧ y = .int j ∧ Q (g i j) H
noncomputable def rU (g : Int → V) : V → Hp → VK → Prop := fun x H Q => ∃ i, x = .int i ∧ Q (g i) H

section
variable {X : Cx} {a b c : Expr} {ta tb tc : TE} {pos : Pos}

theorem binT (ha : PE X a ta) (hb : PE X b tb) {pins : List (Addr × Obj)} {s : Shared} {σ : St} {H : Hp} {R : V → V → Hp → Prop} (I : Inv X pins σ H s)
    (h : ta σ H fun x H1 => tb σ H1 fun y H2 => R x y H2) {Q : Value → Shared → Prop} {f : Value → Value → Sem Value}
    (hf : ∀ v u s2 x y H2, Inv X pins σ H2 s2 → RelV x v → RelV y u → R x y H2 → wpAny (model X.prog X.w) X.A (f v u) Q X.xe s2) :
    wpAny (model X.prog X.w) X.A (eval a X.env) (fun v s₁ => wpAny (model X.prog X.w) X.A (eval b X.env) (fun u s₂ => wpAny (model X.prog X.w) X.A (f v u) Q X.xe s₂) X.xe s₁) X.xe s := by
  refine thn (ha pins s σ H _ I h) fun v s1 ⟨x, H1, I1, r1, q1⟩ => ?_
  refine thn (hb pins s1 σ H1 _ I1 q1) fun u s2 ⟨y, H2, I2, r2, q2⟩ => ?_
  exact hf v u s2 x y H2 I2 r1 r2 q2

theorem pe_op {op : Operator} {r : R2} (ho : OpR X (binaryOp op) r) (ha : PE X a ta) (hb : PE X b tb) : PE X (.BinOp a op b pos) (tOp r ta tb) := by
  intro pins s σ H Q I h
  exact wpAny_BinOp (binT ha hb I h fun v u s2 x y H2 I2 rx ry q => ho pins s2 σ H2 x y v u Q I2 rx ry q)
theorem pe_un {op : UnaryOp} {r : V → Hp → VK → Prop} (ho : UnR X (unaryOp op) r) (ha : PE X a ta) : PE X (.UnaryOp op a pos) (tUn r ta) := by
  intro pins s σ H Q I h
  exact UnaryOp_ (thn (ha pins s σ H _ I h) fun v s1 ⟨x, H1, I1, r1, q1⟩ => ho pins s1 σ H1 x v Q I1 r1 q1)
theorem opI {f : Value → Value → Sem Value} {C : Int → Int → Prop} {g : Int → Int → Int}
    (rule : ∀ (i j : Int) (t u : Tok) (s : Shared) (Q : Value → Shared → Prop) (E : Value → Shared → Prop), C i j → Q (.int (g i j) s.toks) { s with toks := s.toks + 1 } → wpAny (model X.prog X.w) X.A (f (.int i t) (.int j u)) Q E s) :
    OpR X f (rI C fun i j => .int (g i j)) := by
  intro pins s σ H x y v u Q I rx ry h
  obtain ⟨i, j, rfl, rfl, hc, q⟩ := h
  obtain ⟨t, rfl⟩ := rx
  obtain ⟨t', rfl⟩ := ry
  exact rule i j t t' s _ _ hc ⟨.int (g i j), H, I.tok _, ⟨_, rfl⟩, q⟩
theorem opI0 {f : Value → Value → Sem Value} {g : Int → Int → Int}
    (rule : ∀ (i j : Int) (t u : Tok) (s : Shared) (Q : Value → Shared → Prop) (E : Value → Shared → Prop), Q (.int (g i j) s.toks) { s with toks := s.toks + 1 } → wpAny (model X.prog X.w) X.A (f (.int i t) (.int j u)) Q E s) :
    OpR X f (rI0 fun i j => .int (g i j)) := by
  intro pins s σ H x y v u Q I rx ry h
  obtain ⟨i, j, rfl, rfl, q⟩ := h
  obtain ⟨t, rfl⟩ := rx
  obtain ⟨t', rfl⟩ := ry
  exact rule i j t t' s _ _ ⟨.int (g i j), H, I.tok _, ⟨_, rfl⟩, q⟩
theorem opB0 {f : Value → Value → Sem Value} {g : Int → Int → Bool}
    (rule : ∀ (i j : Int) (t u : Tok) (s : Shared) (Q : Value → Shared → Prop) (E : Value → Shared → Prop), Q (.bool (g i j)) s → wpAny (model X.prog X.w) X.A (f (.int i t) (.int j u)) Q E s) :
    OpR X f (rI0 fun i j => .bl (g i j)) := by
  intro pins s σ H x y v u Q I rx ry h
  obtain ⟨i, j, rfl, rfl, q⟩ := h
  obtain ⟨t, rfl⟩ := rx
  obtain ⟨t', rfl⟩ := ry
  exact rule i j t t' s _ _ ⟨.bl (g i j), H, I, rfl, q⟩

noncomputable def CPow (i j : Int) : Prop := 0 ≤ j ∧ j ≤ 1000000 ∧ i.natAbs < 2 ^ 64
noncomputable def CMul (i j : Int) : Prop := (-(2 ^ 64) < i ∧ i < 2 ^ 64) ∨ (-(2 ^ 64) < j ∧ j < 2 ^ 64)
theorem CMul.ok {i j : Int} (h : CMul i j) : IntMulOk i j := by
  rcases h with ⟨h1, h2⟩ | ⟨h1, h2⟩
  · exact .of_left (intBits_le_64 h1 h2)
  · exact .of_right (intBits_le_64 h1 h2)
theorem two_pow_nn (k : Nat) : (0 : Int) ≤ 2 ^ k := by
  rw [two_pow_cast]
  exact Int.natCast_nonneg _

theorem op_add : OpR X (binaryOp .Add) (rI0 fun i j => .int (i + j)) := opI0 fun _ _ _ _ _ _ _ q => add_int q
theorem op_sub : OpR X (binaryOp .Sub) (rI0 fun i j => .int (i - j)) := opI0 fun _ _ _ _ _ _ _ q => sub_int q
theorem op_mod : OpR X (binaryOp .Mod) (rI (fun _ j => 0 < j) fun i j => .int (i % j)) := opI fun i j _ _ _ _ _ hc q => by
  have h1 : (0 : Int) < j := hc
  exact mod_int' (by omega) (by rw [Int.fmod_eq_emod_of_nonneg i (by omega)]; exact q)
theorem op_pow : OpR X (binaryOp .Pow) (rI CPow fun i j => .int (i ^ j.toNat)) := opI fun _ _ _ _ _ _ _ hc q => pow_int_small hc.1 hc.2.1 hc.2.2 q
theorem op_shr : OpR X (binaryOp .RShift) (rI (fun _ j => 0 ≤ j) fun i j => .int (i / 2 ^ j.toNat)) := opI fun i j _ _ _ _ _ hc q =>
  rshift_int hc (by rw [Int.fdiv_eq_ediv_of_nonneg i (two_pow_nn _)]; exact q)
theorem unI {f : Value → Sem Value} {g : Int → Int}
    (rule : ∀ (i : Int) (t : Tok) (s : Shared) (Q : Value → Shared → Prop) (E : Value → Shared → Prop), Q (.int (g i) s.toks) { s with toks := s.toks + 1 } → wpAny (model X.prog X.w) X.A (f (.int i t)) Q E s) :
    UnR X f (rU fun i => .int (g i)) := by
  intro pins s σ H x v Q I rx h
  obtain ⟨i, rfl, q⟩ := h
  obtain ⟨t, rfl⟩ := rx
  exact rule i t s _ _ ⟨.int (g i), H, I.tok _, ⟨_, rfl⟩, q⟩
theorem un_neg : UnR X (unaryOp .USub) (rU fun i => .int (-i)) := unI fun _ _ _ _ _ q => neg_int q
end

noncomputable def scal : V → V → Bool
  | .non, .non => true | .non, .int _ => true | .int _, .non => true | .non, .bl _ => true | .bl _, .non => true | .non, .str _ => true | .str _, .non => true
  | .int _, .int _ => true | .bl _, .bl _ => true | .str _, .str _ => true | .byt _, .byt _ => true
  | .int _, .str _ => true | .str _, .int _ => true | .bl _, .str _ => true | .str _, .bl _ => true
  | _, _ => false
noncomputable def rEq : R2 := fun x y H Q => scal x y = true ∧ Q (.bl (decide (x = y))) H
noncomputable def rNe : R2 := fun x y H Q => scal x y = true ∧ Q (.bl (!decide (x = y))) H

theorem dec_int {i j : Int} : decide (V.int i = V.int j) = (i == j) := by
  rw [Bool.eq_iff_iff]
  simp
theorem dec_bl {i j : Bool} : decide (V.bl i = V.bl j) = (i == j) := by
  rw [Bool.eq_iff_iff]
  simp
theorem dec_str {i j : Str} : decide (V.str i = V.str j) = (i == j) := by
  rw [Bool.eq_iff_iff]
  simp
theorem dec_byt {i j : Array UInt8} : decide (V.byt i = V.byt j) = (i.toList == j.toList) := by
  rw [Bool.eq_iff_iff]
  cases i
  cases j
  simp

section
variable {X : Cx} {a b c : Expr} {ta tb tc : TE} {pos : Pos}
theorem fin_bl {pins : List (Addr × Obj)} {σ : St} {H : Hp} {s : Shared} {Q : VK} {k k' : Bool} (I : Inv X pins σ H s) (q : Q (.bl k) H) (e : k = k') : EP X pins σ Q (.bool k') s := by
  subst e
  exact ⟨.bl k, H, I, rfl, q⟩
theorem op_eq : OpR X (compareOp .Eq) rEq := by
  intro pins s σ H x y v u Q I rx ry h
  obtain ⟨hs, q⟩ := h
  cases x with
  | non =>
    cases rx
    cases y with
    | non => cases ry; exact PySem.EqNone.eq_none_none (fin_bl I q (by simp))
    | bl j => cases ry; exact PySem.EqNone.eq_none_bool (fin_bl I q (by simp))
    | int j => obtain ⟨t', rfl⟩ := ry; exact PySem.EqNone.eq_none_int (fin_bl I q (by simp))
    | str j => obtain ⟨t', rfl⟩ := ry; exact PySem.EqNone.eq_none_str (fin_bl I q (by simp))
    | _ => exact absurd (show false = true from hs) Bool.false_ne_true
  | bl i =>
    cases rx
    cases y with
    | non => cases ry; exact PySem.EqNone.eq_bool_none (fin_bl I q (by simp))
    | bl j => cases ry; exact eq_bool (fin_bl I q dec_bl)
    | str j => obtain ⟨t', rfl⟩ := ry; exact PySem.EqMixed.eq_bool_str (fin_bl I q (by simp))
    | _ => exact absurd (show false = true from hs) Bool.false_ne_true
  | int i =>
    obtain ⟨t, rfl⟩ := rx
    cases y with
    | non => cases ry; exact PySem.EqNone.eq_int_none (fin_bl I q (by simp))
    | int j => obtain ⟨t', rfl⟩ := ry; exact eq_int (fin_bl I q dec_int)
    | str j => obtain ⟨t', rfl⟩ := ry; exact PySem.EqMixed.eq_int_str (fin_bl I q (by simp))
    | _ => exact absurd (show false = true from hs) Bool.false_ne_true
  | str i =>
    obtain ⟨t, rfl⟩ := rx
    cases y with
    | non => cases ry; exact PySem.EqNone.eq_str_none (fin_bl I q (by simp))
    | bl j => cases ry; exact PySem.EqMixed.eq_str_bool (fin_bl I q (by simp))
    | int j => obtain ⟨t', rfl⟩ := ry; exact PySem.EqMixed.eq_str_int (fin_bl I q (by simp))
    | str j => obtain ⟨t', rfl⟩ := ry; exact eq_str (fin_bl I q dec_str)
    | _ => exact absurd (show false = true from hs) Bool.false_ne_true
  | byt i =>
    obtain ⟨t, rfl⟩ := rx
    cases y with
    | byt j => obtain ⟨t', rfl⟩ := ry; exact PySem.W.eq_bytes (fin_bl I q dec_byt)
    | _ => exact absurd (show false = true from hs) Bool.false_ne_true
  | _ => cases y <;> exact absurd (show false = true from hs) Bool.false_ne_true
theorem op_ne : OpR X (compareOp .NotEq) rNe := by
  intro pins s σ H x y v u Q I rx ry h
  obtain ⟨hs, q⟩ := h
  cases x with
  | non =>
    cases rx
    cases y with
    | non => cases ry; exact PySem.EqNone.ne_none_none (fin_bl I q (by simp))
    | bl j => cases ry; exact PySem.EqNone.ne_none_bool (fin_bl I q (by simp))
    | int j => obtain ⟨t', rfl⟩ := ry; exact PySem.EqNone.ne_none_int (fin_bl I q (by simp))
    | str j => obtain ⟨t', rfl⟩ := ry; exact PySem.EqNone.ne_none_str (fin_bl I q (by simp))
    | _ => exact absurd (show false = true from hs) Bool.false_ne_true
  | bl i =>
    cases rx
    cases y with
    | non => cases ry; exact PySem.EqNone.ne_bool_none (fin_bl I q (by simp))
    | bl j => cases ry; exact ne_bool (fin_bl I q (congrArg not dec_bl))
    | str j => obtain ⟨t', rfl⟩ := ry; exact PySem.EqMixed.ne_bool_str (fin_bl I q (by simp))
    | _ => exact absurd (show false = true from hs) Bool.false_ne_true
  | int i =>
    obtain ⟨t, rfl⟩ := rx
    cases y with
    | non => cases ry; exact PySem.EqNone.ne_int_none (fin_bl I q (by simp))
    | int j => obtain ⟨t', rfl⟩ := ry; exact ne_int (fin_bl I q (congrArg not dec_int))
    | str j => obtain ⟨t', rfl⟩ := ry; exact PySem.EqMixed.ne_int_str (fin_bl I q (by simp))
    | _ => exact absurd (show false = true from hs) Bool.false_ne_true
  | str i =>
    obtain ⟨t, rfl⟩ := rx
    cases y with
    | non => cases ry; exact PySem.EqNone.ne_str_none (fin_bl I q (by simp))
    | bl j => cases ry; exact PySem.EqMixed.ne_str_bool (fin_bl I q (by simp))
    | int j => obtain ⟨t', rfl⟩ := ry; exact PySem.EqMixed.ne_str_int (fin_bl I q (by simp))
    | str j => obtain ⟨t', rfl⟩ := ry; exact ne_str (fin_bl I q (congrArg not dec_str))
    | _ => exact absurd (show false = true from hs) Bool.false_ne_true
  | byt i =>
    obtain ⟨t, rfl⟩ := rx
    cases y with
    | byt j => obtain ⟨t', rfl⟩ := ry; exact PySem.W.ne_bytes (fin_bl I q (congrArg not dec_byt))
    | _ => exact absurd (show false = true from hs) Bool.false_ne_true
  | _ => cases y <;> exact absurd (show false = true from hs) Bool.false_ne_true

theorem op_lt : OpR X (compareOp .Lt) (rI0 fun i j => .bl (decide (i < j))) := opB0 fun _ _ _ _ _ _ _ q => lt_int q
theorem op_le : OpR X (compareOp .LtE) (rI0 fun i j => .bl (decide (i ≤ j))) := opB0 fun _ _ _ _ _ _ _ q => le_int q
theorem op_gt : OpR X (compareOp .Gt) (rI0 fun i j => .bl (decide (j < i))) := opB0 fun _ _ _ _ _ _ _ q => gt_int q
theorem op_ge : OpR X (compareOp .GtE) (rI0 fun i j => .bl (decide (j ≤ i))) := opB0 fun _ _ _ _ _ _ _ q => ge_int q
theorem op_isN : OpR X (compareOp .Is) (fun x y H Q => y = .non ∧ Q (.bl (decide (x = .non))) H) := by
  intro pins s σ H x y v u Q I rx ry h
  obtain ⟨rfl, q⟩ := h
  cases ry
  refine is_none_gen (fin_bl I q ?_)
  cases x <;> first
    | (cases rx; rfl)
    | (obtain ⟨t, rfl⟩ := rx; rfl)
theorem op_notN : OpR X (compareOp .IsNot) (fun x y H Q => y = .non ∧ Q (.bl (!decide (x = .non))) H) := by
  intro pins s σ H x y v u Q I rx ry h
  obtain ⟨rfl, q⟩ := h
  cases ry
  refine isnot_none_gen (fin_bl I q ?_)
  cases x <;> first
    | (cases rx; rfl)
    | (obtain ⟨t, rfl⟩ := rx; rfl)

theorem nomark (b : Expr) {op : CmpOp} (h : autoParam (op ≠ .In) au1_._auto_1) (h2 : autoParam (op ≠ .NotIn) au1_._auto_1) : behindInMarks op b = false := by
  have e1 : (op == CmpOp.In) = false := by cases op <;> first | rfl | exact absurd rfl h
  have e2 : (op == CmpOp.NotIn) = false := by cases op <;> first | rfl | exact absurd rfl h2
  cases b <;> simp [behindInMarks, e1, e2]
theorem pe_cmpR {op : CmpOp} {r : R2} (ho : OpR X (compareOp op) r) (ha : PE X a ta) (hb : PE X b tb) (hm : behindInMarks op b = false) : PE X (.Compare a [op] [b] pos) (tOp r ta tb) := by
  intro pins s σ H Q I h
  exact wpAny_Compare1 (binT ha hb I h fun v u s2 x y H2 I2 rx ry q => ho pins s2 σ H2 x y v u Q I2 rx ry q) hm
noncomputable def tTest (t : TE) : TT := fun σ H Q => t σ H fun x H' => ∃ k, x = .bl k ∧ Q k H'
theorem pt_cmpR {op : CmpOp} {r : R2} (ho : OpR X (compareOp op) r) (ha : PE X a ta) (hb : PE X b tb) (hm : behindInMarks op b = false) : PT X (.Compare a [op] [b] pos) (tTest (tOp r ta tb)) := by
  intro pins s σ H Q I h
  refine wpAny_isTrue_Compare1 (thn (ha pins s σ H _ I h) fun v s1 ⟨x, H1, I1, r1, q1⟩ => thn (hb pins s1 σ H1 _ I1 q1) fun u s2 ⟨y, H2, I2, r2, q2⟩ =>
    thn (ho pins s2 σ H2 x y v u _ I2 r1 r2 q2) fun c s3 ⟨z, H3, I3, r3, k, e, q3⟩ => ?_) hm
  subst e
  cases r3
  exact wpAny_truthy_bool ⟨H3, I3, q3⟩
theorem line63 : (sizeLine : Nat) < 2 ^ 63 := by rw [sizeLine_eq]; decide
theorem vals1 {x : V} {us : List Value} (r : Vals [x] us) : ∃ u, us = [u] ∧ RelV x u := by
  cases r with
  | cons r1 r2 => cases r2; exact ⟨_, rfl, r1⟩
theorem vals2 {x y : V} {us : List Value} (r : Vals [x, y] us) : ∃ u w', us = [u, w'] ∧ RelV x u ∧ RelV y w' := by
  cases r with
  | cons r1 r2 =>
    cases r2 with
    | cons r3 r4 => cases r4; exact ⟨_, _, rfl, r1, r3⟩
theorem call_abs : CallR X (.builtin "abs") (fun xs H Q => ∃ i, xs = [.int i] ∧ Q (.int (if i < 0 then -i else i)) H) := by
  intro pins s σ H xs us Q I r h
  obtain ⟨i, rfl, q⟩ := h
  obtain ⟨u, rfl, t, rfl⟩ := vals1 r
  exact call_abs_int fun u tk => ⟨.int (if i < 0 then -i else i), H, I.tok _, ⟨_, rfl⟩, q⟩
theorem call_max2 (hc : X.calm = true) : CallR X (.builtin "max") (fun xs H Q => ∃ i j, xs = [.int i, .int j] ∧ Q (.int (if j > i then j else i)) H) := by
  intro pins s σ H xs us Q I r h
  obtain ⟨i, j, rfl, q⟩ := h
  obtain ⟨u, w', rfl, ⟨t, rfl⟩, ⟨t', rfl⟩⟩ := vals2 r
  refine max_two_ints (I.ok.hd hc) fun h' tk k => ⟨_, H, I.kept k, ?_, q⟩
  by_cases hj : j > i
  · rw [if_pos hj, if_pos hj]; exact ⟨_, rfl⟩
  · rw [if_neg hj, if_neg hj]; exact ⟨_, rfl⟩
theorem call_min2 (hc : X.calm = true) : CallR X (.builtin "min") (fun xs H Q => ∃ i j, xs = [.int i, .int j] ∧ Q (.int (if j < i then j else i)) H) := by
  intro pins s σ H xs us Q I r h
  obtain ⟨i, j, rfl, q⟩ := h
  obtain ⟨u, w', rfl, ⟨t, rfl⟩, ⟨t', rfl⟩⟩ := vals2 r
  refine min_two_ints (I.ok.hd hc) fun h' tk k => ⟨_, H, I.kept k, ?_, q⟩
  by_cases hj : j < i
  · rw [if_pos hj, if_pos hj]; exact ⟨_, rfl⟩
  · rw [if_neg hj, if_neg hj]; exact ⟨_, rfl⟩
end
end L2

namespace L2
open PySem PySem.Spec PyProof.Rows

structure ObjM (h : Heap) (x dx C : Addr) (mA : Str → Option Value) : Prop where
  obj : h.get? x = some (PySem.W.instObj C dx)
  ns : h.Ns1 dx mA
  ne : dx ≠ x

theorem lookIn_ns {h : Heap} {dx : Addr} {mA : Str → Option Value} (n : h.Ns1 dx mA) : ∃ od, h.get? dx = some od ∧ ∀ name, PySem.W.lookIn name od = some (mA name) := by
  obtain ⟨o, es, ep, ho, hd, hk, _, hm⟩ := n
  refine ⟨o, ho, fun name => ?_⟩
  have e := hm name
  unfold nsFind findBy at e
  rw [← Array.find?_toList] at e
  unfold PySem.W.lookIn
  rw [hd]
  dsimp only
  split
  · rename_i y q
    rw [q] at e
    exact congrArg some e
  · rename_i q
    rw [q] at e
    have a : es.toList.any (·.refKey) = false := by
      rw [List.any_eq_false]
      intro y hy
      obtain ⟨z, t, hkey⟩ := hk y (Array.mem_toList_iff.mp hy)
      simp [DictEntry.refKey, hkey]
    have a' : ¬ es.toList.any (·.refKey) = true := by rw [a]; exact Bool.false_ne_true
    rw [if_neg a']
    exact congrArg some e

theorem ObjM.look {h : Heap} {x dx C : Addr} {mA : Str → Option Value} (I : ObjM h x dx C mA) : ∃ od, PySem.W.InstAt h x (PySem.W.instObj C dx) C (some od) ∧ ∀ name, PySem.W.lookIn name od = some (mA name) :=
  let ⟨od, ho, hl⟩ := lookIn_ns I.ns
  ⟨od, ⟨I.obj, rfl, rfl, ho⟩, hl⟩

section
variable {prog : Program} {w : World} {A : Around} {E : Value → Shared → Prop} {s : Shared} {K : PySem.W.Frag} {x dx C f : Addr} {mA : Str → Option Value} {name : Str} {v : Value}

theorem get_map {expr : Bool} {Q : Value → Shared → Prop} (X : K.In s.heap) (I : ObjM s.heap x dx C mA) (hg : PySem.W.plainGet K C name = true) (hh : PySem.W.hasDictIn K C = true)
    (ha : PySem.W.findIn K (.ref C) name = some none) (hv : mA name = some v) (hv' : PySem.W.handedIn v = true) (h : Q v { s with toks := s.toks + 1 }) :
    wpAny (model prog w) A (getAttr (.ref x) name expr) Q E s := by
  obtain ⟨od, J, hl⟩ := I.look
  exact PySem.W.get_value X J (PySem.W.plainGet_of hg).1 (PySem.W.findObj_own hh ha rfl (by rw [hl, hv])) hv' h

theorem get_meth {pl : Sem Bool} {Q : Value × List Value → Shared → Prop} (X : K.In s.heap) (I : ObjM s.heap x dx C mA) (hg : PySem.W.plainGet K C name = true)
    (hf : PySem.W.findIn K (.ref C) name = some (some (.ref f))) (ht : PySem.W.isFn K (.ref f) = true) (hv : mA name = none) (h : Q (.ref f, [.ref x]) s) :
    wpAny (model prog w) A (getMethod (.ref x) name pl) Q E s := by
  obtain ⟨od, J, hl⟩ := I.look
  exact PySem.W.method_fn X J (PySem.W.plainGet_of hg).1 (PySem.W.plainGet_of hg).2 hf (beq_iff_eq.mp ht) (by show (PySem.W.lookIn name od).map (·.isSome) = some false; rw [hl, hv]; rfl) h

theorem set_map {ns : List Str} {Q : Unit → Shared → Prop} (X : K.In s.heap) (I : ObjM s.heap x dx C mA)
    (hs : PySem.W.findIn K (.ref C) "__setattr__" = some (some (.builtin "object.__setattr__"))) (hp : PySem.W.plainOver K C = true) (ht : PySem.W.takerIn K C name = some none) (hh : PySem.W.hasDictIn K C = true)
    (hw : PySem.Within mA ns) (hsz : ns.length ≤ sizeLine)
    (h : ∀ h', ObjM h' x dx C (fun y => if y = name then some v else mA y) → Heap.SameBut dx s.heap h' → Q () { s with heap := h', toks := s.toks + 2 }) :
    wpAny (model prog w) A (setAttr (.ref x) name v) Q E s := by
  obtain ⟨od, J, hl⟩ := I.look
  refine PySem.W.set_plain X J hs (PySem.W.osa_open (s := { s with toks := s.toks + 1 }) (r := none) X J hp ht fun b => ?_)
  obtain ⟨cd, hc, hd'⟩ := PySem.W.any_some hh
  have hx : s.heap.get? x = some ⟨.ref C, some dx, .plain, #[]⟩ := I.obj
  refine wpAny_bind (wpAny_pure (wpAny_bind (wpAny_bind (wpAny_loadPart hx (wpAny_bind (PySem.W.Looks.here (s := { s with toks := s.toks + 1 }) (PySem.W.looks_clsIn X hc) ?_))))))
  rw [hd']
  refine wpAny_pure (a := some dx) (wpAny_bind (wpAny_pure (wpAny_bind ?_)))
  refine wpAny_nsSet1 (s := { s with toks := s.toks + 1 }) I.ns fun h' hn2 hs2 => ?_
  obtain ⟨oD, esD, epD, hoD, hdD, hcD⟩ := hn2.count (PySem.Within.cons name v hw)
  refine wpAny_bind (wpAny_lookBehind hoD (by rw [hdD]; exact pastItsLine_dict (Nat.le_trans hcD (by rw [List.length_cons]; omega))) ?_)
  exact wpAny_pure (h _ ⟨(hs2.2 _ (Ne.symm I.ne)).trans I.obj, hn2, I.ne⟩ hs2)

theorem make_map {R : Result → Shared → Prop} {vs : List Value} {kw : List (Str × Value)} (X : K.In s.heap) (hm : PySem.W.makesIn K C = true)
    (hi : PySem.W.findIn K (.ref C) "__init__" = some (some (.ref f))) (hf : PySem.W.typeIn K (.ref f) = some (.type "function"))
    (h : codeAny (model prog w) (A.under (.builtin "type.__call__" ⟨.ref C :: vs, kw⟩)) (.call (.ref f) ⟨.ref (s.heap.objs.size + 1) :: vs, kw⟩) (PySem.W.InitBack (s.heap.objs.size + 1) R)
      { s with heap := (s.heap.push PySem.W.emptyDict).push (PySem.W.instObj C s.heap.objs.size) }) :
    codeAny (model prog w) A (.call (.ref C) ⟨vs, kw⟩) R s := by
  obtain ⟨hh, g, d, t, os⟩ := s
  exact PySem.W.make_core (PySem.W.makes_of X hm) (PySem.W.looks_findIn X hi) (fun self => PySem.W.bind_fn X self hf) (.inl rfl) h
end

noncomputable def putF (f : Str) (v : V) : List (Str × V) → List (Str × V)
  | [] => [(f, v)]
  | (g, x) :: r => if g = f then (g, v) :: r else (g, x) :: putF f v r
theorem lookup_putF (f g : Str) (v : V) : ∀ fs : List (Str × V), (putF f v fs).lookup g = if g = f then some v else fs.lookup g
  | [] => by
    show List.lookup g [(f, v)] = _
    by_cases h : g = f
    · have hb : (g == f) = true := beq_iff_eq.mpr h
      simp only [List.lookup, hb, if_pos h]
    · have hb : (g == f) = false := beq_eq_false_iff_ne.mpr h
      simp only [List.lookup, hb, if_neg h]
  | (k, x) :: r => by
    have ih := lookup_putF f g v r
    rw [show putF f v ((k, x) :: r) = (if k = f then (k, v) :: r else (k, x) :: putF f v r) from rfl]
    by_cases hk : k = f
    · rw [if_pos hk]
      by_cases h : g = k
      · have hb : (g == k) = true := beq_iff_eq.mpr h
        simp only [List.lookup, hb, if_pos (h.trans hk)]
      · have hb : (g == k) = false := beq_eq_false_iff_ne.mpr h
        simp only [List.lookup, hb, if_neg (fun e : g = f => h (e.trans hk.symm))]
    · rw [if_neg hk]
      by_cases h : g = k
      · have hb : (g == k) = true := beq_iff_eq.mpr h
        simp only [List.lookup, hb, if_neg (fun e : g = f => hk (h.symm.trans e))]
      · have hb : (g == k) = false := beq_eq_false_iff_ne.mpr h
        simp only [List.lookup, hb]
        exact ih
theorem keys_putF (f : Str) (v : V) : ∀ fs : List (Str × V), f ∈ (putF f v fs).map (·.1) ∧ ∀ g, g ∈ fs.map (·.1) → g ∈ (putF f v fs).map (·.1)
  | [] => ⟨by simp [putF], fun g h => by simp at h⟩
  | (k, x) :: r => by
    obtain ⟨i1, i2⟩ := keys_putF f v r
    rw [show putF f v ((k, x) :: r) = (if k = f then (k, v) :: r else (k, x) :: putF f v r) from rfl]
    by_cases hk : k = f
    · rw [if_pos hk]
      subst hk
      exact ⟨by simp, fun g h => by simpa using h⟩
    · rw [if_neg hk]
      refine ⟨?_, fun g h => ?_⟩
      · rw [List.map_cons]
        exact List.mem_cons_of_mem _ i1
      · rw [List.map_cons] at h ⊢
        rcases List.mem_cons.mp h with e | e
        · exact List.mem_cons.mpr (.inl e)
        · exact List.mem_cons_of_mem _ (i2 g e)
theorem length_putF (f : Str) (v : V) : ∀ fs : List (Str × V), (putF f v fs).length ≤ fs.length + 1
  | [] => by simp [putF]
  | (k, x) :: r => by
    have ih := length_putF f v r
    rw [show putF f v ((k, x) :: r) = (if k = f then (k, v) :: r else (k, x) :: putF f v r) from rfl]
    by_cases hk : k = f
    · rw [if_pos hk, List.length_cons, List.length_cons]; omega
    · rw [if_neg hk, List.length_cons, List.length_cons]; omega

theorem RelO.some_of {v : V} {o : Option Value} (r : RelO (some v) o) : ∃ u, o = some u ∧ RelV v u := by
  cases o with
  | none => exact (show False from r).elim
  | some u => exact ⟨u, rfl, r⟩
theorem RelO.none_of {o : Option Value} (r : RelO none o) : o = none := by
  cases o with
  | none => rfl
  | some u => exact (show False from r).elim
theorem handed_of {v : V} {u : Value} (r : RelV v u) : PySem.W.handedIn u = true := by
  cases v with
  | non => cases (show u = Value.none from r); rfl
  | bl b => cases (show u = Value.bool b from r); rfl
  | int i => obtain ⟨t, e⟩ := (show ∃ t, u = Value.int i t from r); cases e; rfl
  | str x => obtain ⟨t, e⟩ := (show ∃ t, u = Value.str x t from r); cases e; rfl
  | byt b => obtain ⟨t, e⟩ := (show ∃ t, u = Value.bytes b t from r); cases e; rfl
  | flt b => obtain ⟨t, e⟩ := (show ∃ t, u = Value.float b t from r); cases e; rfl
  | ref a => cases (show u = Value.ref a from r); rfl
  | ty n => cases (show u = Value.type n from r); rfl

section
variable {P : Program} {w : World} {H H' : Hp} {h h' : Heap} {a C dx : Addr} {fs fs' : List (Str × V)}
theorem ins_get (hok : HOk P w H h) (e : H a = some (.ins C dx fs)) : ∃ mA, ObjM h a dx C mA ∧ (∀ f, RelO (fs.lookup f) (mA f)) ∧ PySem.Within mA (fs.map (·.1)) ∧ fs.length ≤ 1000 ∧ H dx = some (.own a) := by
  obtain ⟨d, z, ne, ob, mA, n, r, q⟩ := (show ObjOk P w H h a (.ins C dx fs) from hok a _ e)
  exact ⟨mA, ⟨ob, n, ne⟩, r, q, z, d⟩
end

structure Cls (K : PySem.W.Frag) (C : Addr) : Prop where
  pg : PySem.W.plainGet K C Str.empty = true
  hd : PySem.W.hasDictIn K C = true
  po : PySem.W.plainOver K C = true
  sa : PySem.W.findIn K (.ref C) "__setattr__" = some (some (.builtin "object.__setattr__"))
theorem Cls.get {K : PySem.W.Frag} {C : Addr} (c : Cls K C) (f : Str) : PySem.W.plainGet K C f = true := c.pg
noncomputable def NoAttr (K : PySem.W.Frag) (C : Addr) (f : Str) : Prop := PySem.W.findIn K (.ref C) f = some none
theorem NoAttr.taker {K : PySem.W.Frag} {C : Addr} {f : Str} (n : NoAttr K C f) : PySem.W.takerIn K C f = some none := by
  unfold PySem.W.takerIn
  rw [show PySem.W.findIn K (.ref C) f = some none from n]
  rfl
structure Meth (K : PySem.W.Frag) (C : Addr) (m : Str) (f : Addr) : Prop where
  at_ : PySem.W.findIn K (.ref C) m = some (some (.ref f))
  fn : PySem.W.isFn K (.ref f) = true
  kp : PySem.W.keepIn K (.ref f) = true

section
variable {X : Cx} {pins : List (Addr × Obj)} {σ : St} {H : Hp} {s : Shared} {a C dx : Addr} {fs : List (Str × V)} {f : Str} {v : V} {A : Around} {E : Value → Shared → Prop}

theorem getattr_ok {b : Bool} {Q : Value → Shared → Prop} (I : Inv X pins σ H s) (e : H a = some (.ins C dx fs)) (c : Cls X.K C) (n : NoAttr X.K C f) (l : fs.lookup f = some v)
    (h : ∀ u s', Inv X pins σ H s' → RelV v u → Q u s') : wpAny (model X.prog X.w) A (getAttr (.ref a) f b) Q E s := by
  obtain ⟨mA, O, r, _, _, _⟩ := ins_get I.hok e
  obtain ⟨u, hu, ru⟩ := RelO.some_of (v := v) (o := mA f) (by rw [← l]; exact r f)
  exact get_map I.kIn O (c.get f) c.hd n hu (handed_of ru) (h u _ (I.tok _) ru)

theorem getmeth_ok {m : Str} {g : Addr} {pl : Sem Bool} {Q : Value × List Value → Shared → Prop} (I : Inv X pins σ H s) (e : H a = some (.ins C dx fs)) (c : Cls X.K C) (k : Meth X.K C m g) (l : fs.lookup m = none)
    (h : Q (.ref g, [.ref a]) s) : wpAny (model X.prog X.w) A (getMethod (.ref a) m pl) Q E s := by
  obtain ⟨mA, O, r, _, _, _⟩ := ins_get I.hok e
  have hn : mA m = none := RelO.none_of (by rw [← l]; exact r m)
  exact get_meth I.kIn O (c.get m) k.at_ k.fn hn h

theorem setattr_ok {y : V} {u : Value} {Q : Unit → Shared → Prop} (I : Inv X pins σ H s) (e : H a = some (.ins C dx fs)) (c : Cls X.K C) (n : NoAttr X.K C f) (hl : fs.length < 1000) (ry : RelV y u)
    (h : ∀ s', Inv X pins σ (upd H a (.ins C dx (putF f y fs))) s' → Q () s') : wpAny (model X.prog X.w) A (setAttr (.ref a) f u) Q E s := by
  obtain ⟨mA, O, r, wi, _, ho⟩ := ins_get I.hok e
  have hz : (fs.map (·.1)).length ≤ sizeLine := by rw [List.length_map, sizeLine_eq]; omega
  refine set_map I.kIn O c.sa c.po n.taker c.hd wi hz fun h' O' sb => h _ ?_
  have hd : ∃ o, h'.get? dx = some o := let ⟨o, _, _, e', _⟩ := O'.ns; ⟨o, e'⟩
  refine I.write (x := a) (e := dx) (by rw [e]; exact True.intro) (.inr ho) (fun b q hb z => (sb.2 b hb).trans z) hd ?_
  refine ⟨by rw [upd_ne O.ne]; exact ho, ?_, O.ne, O'.obj, _, O'.ns, fun g => ?_, fun g hg => ?_⟩
  · have := length_putF f y fs; omega
  · show RelO ((putF f y fs).lookup g) (if g = f then some u else mA g)
    rw [lookup_putF]
    by_cases q : g = f
    · rw [if_pos q, if_pos q]; exact ry
    · rw [if_neg q, if_neg q]; exact r g
  · by_cases q : g = f
    · rw [q]; exact (keys_putF f y fs).1
    · refine (keys_putF f y fs).2 g (wi g fun z => hg ?_)
      show (if g = f then some u else mA g) = none
      rw [if_neg q]; exact z

theorem Inv.made (I : Inv X pins σ H s) : Inv X pins σ (upd (upd H s.heap.objs.size (.own (s.heap.objs.size + 1))) (s.heap.objs.size + 1) (.ins C s.heap.objs.size []))
    { s with heap := (s.heap.push PySem.W.emptyDict).push (PySem.W.instObj C s.heap.objs.size) } := by
  have e1 : (s.heap.push PySem.W.emptyDict).get? s.heap.objs.size = some PySem.W.emptyDict := Heap.get?_push_size s.heap rfl
  have e2 : ((s.heap.push PySem.W.emptyDict).push (PySem.W.instObj C s.heap.objs.size)).get? (s.heap.objs.size + 1) = some (PySem.W.instObj C s.heap.objs.size) := by
    have := Heap.get?_push_size (s.heap.push PySem.W.emptyDict) (o := PySem.W.instObj C s.heap.objs.size) rfl
    rwa [Heap.size_push] at this
  have e3 : (s.heap.push PySem.W.emptyDict).Ns s.heap.objs.size (fun _ => none) := ⟨PySem.W.emptyDict, #[], _, e1, rfl, (fun e he => absurd he (by simp)), fun _ => rfl⟩
  have I1 := I.laid (a := s.heap.objs.size) (o := .own (s.heap.objs.size + 1)) (h' := s.heap.push PySem.W.emptyDict) (t' := s.toks) (fun b u q => Heap.get?_push_of_some _ q) (Nat.le_refl _) ⟨_, e1⟩
  refine I1.laid (a := s.heap.objs.size + 1) (o := .ins C s.heap.objs.size []) (t' := s.toks) (fun b u q => Heap.get?_push_of_some _ q) (Nat.le_of_eq (Heap.size_push _ _)) ?_
  have ne : s.heap.objs.size ≠ s.heap.objs.size + 1 := Nat.ne_of_lt (Nat.lt_succ_self _)
  refine ⟨by rw [upd_ne ne, upd_same], Nat.zero_le _, ne, e2, fun _ => none, (Heap.Ns1.of_empty e3).at fun o q => Heap.get?_push_of_some _ q, fun _ => True.intro, fun y hy => absurd rfl hy⟩

theorem attr_of {prog : Program} {w : World} {env : Env} {e : Expr} {f : Str} {pos : Pos} {s : Shared} {Q : Value → Shared → Prop} (hb : attributeBase e f env (eval e env) = eval e env)
    (h : wpAny (model prog w) A (eval e env) (fun o s₁ => wpAny (model prog w) A (getAttr o f true) Q E s₁) E s) : wpAny (model prog w) A (eval (.Attribute e f pos) env) Q E s :=
  Attribute_any_ h (by rw [arm_eval_Attribute, hb])
end

noncomputable def tFld (K : PySem.W.Frag) (ta : TE) (f : Str) : TE := fun σ H Q => ta σ H fun x H1 => ∃ a C dx fs v, x = .ref a ∧ H1 a = some (.ins C dx fs) ∧ Cls K C ∧ NoAttr K C f ∧ fs.lookup f = some v ∧ Q v H1
noncomputable def sFld (K : PySem.W.Frag) (ta tv : TE) (f : Str) : TS := fun D σ H => tv σ H fun y H1 => ta σ H1 fun x H2 => ∃ a C dx fs, x = .ref a ∧ H2 a = some (.ins C dx fs) ∧ Cls K C ∧ NoAttr K C f ∧ fs.length < 1000 ∧
  D.nx σ (upd H2 a (.ins C dx (putF f y fs)))
section
variable {X : Cx} {o e value : Expr} {f : Str} {pos pos' tpos : Pos} {ta tv : TE}
theorem pe_fld (he : PE X e ta) (hb : attributeBase e f X.env (eval e X.env) = eval e X.env) : PE X (.Attribute e f pos) (tFld X.K ta f) := by
  intro pins s σ H Q I h
  refine attr_of hb (thn (he pins s σ H _ I h) fun u s1 ⟨x, H1, I1, rx, a, C, dx, fs, v, ex, ea, c, n, l, q⟩ => ?_)
  subst ex
  obtain rfl : u = Value.ref a := rx
  exact getattr_ok I1 ea c n l fun u' s2 I2 ru => ⟨v, H1, I2, ru, q⟩
theorem ps_fld (ha : PE X o ta) (hv : PE X value tv) (hs : swapsWith value (some (.Attribute o f pos')) pos.line X.env = pure false) : PS X (.Assign [.Attribute o f pos'] value pos) (sFld X.K ta tv f) := by
  intro pins s σ H D I h
  refine plainObj_wpAny_Assign_Attribute (thn (hv pins s σ H _ I h) fun u s1 ⟨y, H1, I1, ry, q⟩ => thn (ha pins s1 σ H1 _ I1 q) fun ov s2 ⟨x, H2, I2, rx, a, C, dx, fs, ex, ea, c, n, l, q2⟩ => ?_) hs
  subst ex
  obtain rfl : ov = Value.ref a := rx
  exact setattr_ok I2 ea c n l ry fun s3 I3 => ⟨σ, _, I3, q2⟩
end

section
variable {X : Cx} {pins : List (Addr × Obj)} {σ : St} {H : Hp} {s : Shared} {A : Around} {E : Value → Shared → Prop} {Q : Value → Shared → Prop} {c : Value} {b : Bool}
inductive TyOf (K : PySem.W.Frag) (H : Hp) : V → Value → Prop where
  | non : TyOf K H .non (.type "NoneType")
  | bl (x : Bool) : TyOf K H (.bl x) (.type "bool")
  | int (i : Int) : TyOf K H (.int i) (.type "int")
  | str (x : Str) : TyOf K H (.str x) (.type "str")
  | flt (x : UInt64) : TyOf K H (.flt x) (.type "float")
  | lst {a : Addr} {xs : List V} (e : H a = some (.lst xs)) : TyOf K H (.ref a) (.type "list")
  | frz {a : Addr} {o : Obj} {xs : List V} (e : H a = some (.frz o (.lst xs))) : TyOf K H (.ref a) (.type "list")
  | tup {a : Addr} {xs : List V} (e : H a = some (.tup xs)) : TyOf K H (.ref a) (.type "tuple")
  | dK {a : Addr} {kvs : List (Key × V)} (e : H a = some (.dK kvs)) : TyOf K H (.ref a) (.type "dict")
  | dT {a : Addr} {kvs : List (List Key × V)} (e : H a = some (.dT kvs)) : TyOf K H (.ref a) (.type "dict")
  | ins {a C dx : Addr} {fs : List (Str × V)} (e : H a = some (.ins C dx fs)) (cl : Cls K C) (ha : PySem.W.findIn K (.ref C) "__class__" = some (some (.builtin "object.__class__")))
      (hn : PySem.W.specialIn K (.builtin "object.__class__") "__get__" = some (some (.builtin "getset_descriptor.__get__"))) (htk : PySem.W.takesIn K (.builtin "object.__class__") = some true)
      (hm : PySem.W.mroIn K C (.type "object") = some true) : TyOf K H (.ref a) (.ref C)
theorem isinst_ok {x : V} {u t : Value} (I : Inv X pins σ H s) (rx : RelV x u) (ty : TyOf X.K H x t) (e : PySem.W.kitOne X.K t c = some b) (h : ∀ tk, Q (.bool b) { s with toks := tk }) :
    wpAny (model X.prog X.w) A (call (.builtin "isinstance") [u, c]) Q E s := by
  cases ty with
  | non => cases (show u = Value.none from rx); exact PySem.W.kia_one PySem.W.kitx_none I.kIn True.intro e (fun z => nomatch z) h
  | bl y => cases (show u = Value.bool y from rx); exact PySem.W.kia_one PySem.W.kitx_bool I.kIn True.intro e (fun z => nomatch z) h
  | int i => obtain ⟨t, q⟩ := (show ∃ t, u = Value.int i t from rx); cases q; exact PySem.W.kia_one PySem.W.kitx_int I.kIn True.intro e (fun z => nomatch z) h
  | str y => obtain ⟨t, q⟩ := (show ∃ t, u = Value.str y t from rx); cases q; exact PySem.W.kia_one PySem.W.kitx_str I.kIn True.intro e (fun z => nomatch z) h
  | flt y => obtain ⟨t, q⟩ := (show ∃ t, u = Value.float y t from rx); cases q; exact PySem.W.kia_one PySem.W.kitx_float I.kIn True.intro e (fun z => nomatch z) h
  | @lst a xs ea =>
    cases (show u = Value.ref a from rx)
    obtain ⟨_, _, n, _, h1⟩ := (show ObjOk X.prog X.w H s.heap a (.lst xs) from I.hok a _ ea)
    exact PySem.W.kia_one PySem.W.kitx_list I.kIn ⟨_, h1, rfl⟩ e (fun z => nomatch z) h
  | @frz a ob xs ea =>
    cases (show u = Value.ref a from rx)
    obtain ⟨_, _, _, n, _, h1⟩ := (show ObjOk X.prog X.w H s.heap a (.frz ob (.lst xs)) from I.hok a _ ea)
    exact PySem.W.kia_one PySem.W.kitx_list I.kIn ⟨_, h1, rfl⟩ e (fun z => nomatch z) h
  | @tup a xs ea =>
    cases (show u = Value.ref a from rx)
    obtain ⟨_, _, _, p⟩ := (show ObjOk X.prog X.w H s.heap a (.tup xs) from I.hok a _ ea)
    obtain ⟨o, h1, h2, _⟩ := p
    exact PySem.W.kia_one PySem.W.kitx_tuple I.kIn ⟨o, h1, h2⟩ e (fun z => nomatch z) h
  | @dK a kvs ea =>
    cases (show u = Value.ref a from rx)
    obtain ⟨_, _, vs, _, p⟩ := (show ObjOk X.prog X.w H s.heap a (.dK kvs) from I.hok a _ ea)
    obtain ⟨o, es, ep, h1, h2, _⟩ := p
    exact PySem.W.kia_one PySem.W.kitx_dict I.kIn ⟨o, h1, h2.1⟩ e (fun z => nomatch z) h
  | @dT a kvs ea =>
    cases (show u = Value.ref a from rx)
    obtain ⟨_, _, xs, _, o, es, ep, h1, h2, _⟩ := (show ObjOk X.prog X.w H s.heap a (.dT kvs) from I.hok a _ ea)
    exact PySem.W.kia_one PySem.W.kitx_dict I.kIn ⟨o, h1, h2.1⟩ e (fun z => nomatch z) h
  | @ins a C dx fs ea cl ha hn htk hm =>
    cases (show u = Value.ref a from rx)
    obtain ⟨mA, O, _⟩ := ins_get I.hok ea
    obtain ⟨od, J, _⟩ := O.look
    exact PySem.W.kia_one (PySem.W.kitx_own (cl.get _) cl.hd ha hn htk hm) I.kIn J e (fun z => nomatch z) h
end
end L2

namespace L2
open PySem PySem.Spec PyProof.Rows

structure Room (k : Nat) (A : Around) : Prop where
  hd : A.handled = none
  dp : A.depth + 3 * k + 5 < recursionLimit
  un : A.units + 16 * k + 200 < cLine
theorem Room.mono {j k : Nat} {A : Around} (r : Room k A) (h : j ≤ k) : Room j A := ⟨r.hd, by have := r.dp; omega, by have := r.un; omega⟩
theorem Room.deeper {k : Nat} {A : Around} (r : Room (k + 1) A) (env : Env) : Room k (A.deeper env) :=
  ⟨r.hd, by have := r.dp; show A.depth + 1 + 3 * k + 5 < _; omega, by have := r.un; show A.units + 3 + 16 * k + 200 < _; omega⟩
theorem make_depth {A : Around} {C : Addr} {us : List Value} {kw : List (Str × Value)} : (A.under (.builtin "type.__call__" ⟨.ref C :: us, kw⟩)).depth = A.depth + 1 := by
  first | rfl | simp [Around.under, Code.weight, Code.isCreation, Code.isGuard, Code.isCaller, Code.frames, Code.isFrame, guardIds]
theorem make_units {A : Around} {C : Addr} {us : List Value} {kw : List (Str × Value)} : (A.under (.builtin "type.__call__" ⟨.ref C :: us, kw⟩)).units = A.units + 1 := by
  first | rfl | simp [Around.under, Code.cUnits, Code.frames, Code.isFrame]
theorem Room.make {k : Nat} {A : Around} (r : Room (k + 1) A) (C : Addr) (us : List Value) (kw : List (Str × Value)) : Room k (A.under (.builtin "type.__call__" ⟨.ref C :: us, kw⟩)) :=
  ⟨r.hd, by have := r.dp; rw [make_depth]; omega, by have := r.un; rw [make_units]; omega⟩
theorem Room.depth {k : Nat} {A : Around} (r : Room k A) : A.depth < recursionLimit := by have := r.dp; omega
theorem Room.units {k : Nat} {A : Around} (r : Room k A) : A.units + 64 < cLine := by have := r.un; omega
noncomputable def tNil : TA := fun _ H Q => Q [] H
noncomputable def tCons (ta : TE) (tr : TA) : TA := fun σ H Q => ta σ H fun x H1 => tr σ H1 fun xs H2 => Q (x :: xs) H2
section
variable {X : Cx} {e : Expr} {es : List Expr} {te : TE} {t : TA} {pos : Pos}
theorem pa_nil : PA X [] tNil := fun _ _ _ _ H Q I h => Calls.spliced_nil ⟨[], H, I, .nil, h⟩
theorem pa_cons (ha : PE X e te) (hr : PA X es t) (hs : autoParam (starEach (e :: es) X.env = (false, eval e X.env) :: starEach es X.env) au0_._auto_1) : PA X (e :: es) (tCons te t) := by
  intro pos pins s σ H Q I h
  rw [hs]
  show wpAny _ _ (spliced ((false, eval e X.env) :: backTo pos (starEach es X.env))) _ _ s
  refine Calls.spliced_cons (thn (ha pins s σ H _ I h) fun u s1 ⟨x, H1, I1, r1, q1⟩ => ?_)
  exact thn (hr pos pins s1 σ H1 _ I1 q1) fun us s2 ⟨xs, H2, I2, r2, q2⟩ => ⟨x :: xs, H2, I2, .cons r1 r2, q2⟩

noncomputable def tTup (t : TA) : TE := fun σ H Q => t σ H fun xs H1 => xs.length ≤ sizeLine ∧ ∀ p, H1 p = none → Q (.ref p) (upd H1 p (.tup xs))
noncomputable def tLst (t : TA) : TE := fun σ H Q => t σ H fun xs H1 => xs.length ≤ sizeLine ∧ ∀ p, H1 p = none → Q (.ref p) (upd H1 p (.lst xs))
theorem pe_tup {x1} (h : PA X es t) : PE X (.Tuple es x1 pos) (tTup t) := by
  intro pins s σ H Q I hq
  refine wpAny_Tuple_spliced (thn (h pos pins s σ H _ I hq) fun us s1 ⟨xs, H1, I1, r, z, q⟩ => ⟨by rw [← r.length]; exact z, ?_⟩)
  have hf : H1 s1.heap.objs.size = none := I1.hok.fresh (Nat.le_refl _)
  refine ⟨.ref s1.heap.objs.size, upd H1 s1.heap.objs.size (.tup xs), I1.laid (t' := s1.toks) (fun b u e => Heap.get?_push_of_some _ e) (Nat.le_refl _) ?_, rfl, q _ hf⟩
  exact ⟨z, us, r, ⟨_, Heap.get?_push_size _ rfl, rfl, _, rfl⟩⟩
theorem pe_lst (h : PA X es t) : PE X (.List es pos) (tLst t) := by
  intro pins s σ H Q I hq
  refine wpAny_List_spliced (thn (h pos pins s σ H _ I hq) fun us s1 ⟨xs, H1, I1, r, z, q⟩ => ⟨by rw [← r.length]; exact z, ?_⟩)
  have hf : H1 s1.heap.objs.size = none := I1.hok.fresh (Nat.le_refl _)
  refine ⟨.ref s1.heap.objs.size, upd H1 s1.heap.objs.size (.lst xs), I1.laid (t' := s1.toks) (fun b u e => Heap.get?_push_of_some _ e) (Nat.le_refl _) ?_, rfl, q _ hf⟩
  exact ⟨z, us, 0, r, Heap.get?_push_size _ rfl⟩
end

noncomputable abbrev Sp := List V → Hp → VK → XK → Prop
noncomputable abbrev CXT := List Env → Hp → Shared → XK → Value → Shared → Prop

structure Env0 (P : Program) (w : World) (K : PySem.W.Frag) (mg : Str → Option Value) (base : Heap) (A : Around) (outer : List Env) (s : Shared) (H : Hp) : Prop where
  frames : A.frames = some outer
  mod : Mod K mg base
  bs : ∀ b o, base.get? b = some o → s.heap.get? b = some o ∧ H b = none
  bsz : base.objs.size ≤ s.heap.objs.size
  funs : s.heap.FunFrames base outer
  frf : ∀ b ∈ frs outer, H b = none
  hok : HOk P w H s.heap
  bare : AllBare s.gens
noncomputable def CE (outer : List Env) (P : Program) (w : World) (H : Hp) (s : Shared) (Q : VK) (u : Value) (s' : Shared) : Prop :=
  ∃ v H', s'.os = s.os ∧ AllBare s'.gens ∧ Un (frs outer) [] H H' s.heap s'.heap ∧ HOk P w H' s'.heap ∧ RelV v u ∧ Q v H'
noncomputable def CR (CX : CXT) (outer : List Env) (P : Program) (w : World) (H : Hp) (s : Shared) (Q : VK) (E : XK) (r : Result) (s' : Shared) : Prop :=
  match r with
  | .ok (.ret u) => CE outer P w H s Q u s'
  | .ok _ => False
  | .error e => CX outer H s E e s'
structure FnOk (P : Program) (w : World) (K : PySem.W.Frag) (mg : Str → Option Value) (base : Heap) (CX : CXT) (k : Nat) (f : Addr) (fd : FuncData) (ps : List Str) (sp : Sp) : Prop where
  len : ∀ vs H Q E, sp vs H Q E → vs.length = ps.length
  run : ∀ (A : Around) (outer : List Env) (s : Shared) (H : Hp) (args : Args) (us : List Value) (vs : List V) (Q : VK) (E : XK), Room k A → Env0 P w K mg base A outer s H → BindsTo s fd args (ps.zip us) → Vals vs us → sp vs H Q E →
    codeAny (model P w) A (.call (.ref f) args) (CR CX outer P w H s Q E) s
theorem Env0.make {P : Program} {w : World} {K : PySem.W.Frag} {mg : Str → Option Value} {base : Heap} {A : Around} {outer : List Env} {s : Shared} {H : Hp} (e : Env0 P w K mg base A outer s H) (C : Addr) (us : List Value) (kw : List (Str × Value)) :
    Env0 P w K mg base (A.under (.builtin "type.__call__" ⟨.ref C :: us, kw⟩)) outer s H := ⟨by first | exact e.frames | (simpa [Around.under, Code.envs, Code.isFrame, pushEnvs] using e.frames), e.mod, e.bs, e.bsz, e.funs, e.frf, e.hok, e.bare⟩
section
variable {X : Cx} {pins : List (Addr × Obj)} {σ : St} {H : Hp} {s s' : Shared}
theorem Inv.env0 (I : Inv X pins σ H s) : Env0 X.prog X.w X.K X.mg X.base X.A X.stack s H :=
  ⟨I.ok.frames, I.ok.mod, I.bs, Nat.le_trans I.ok.bsz I.sz, I.stack, I.stkFree, I.hok, I.bare⟩
theorem Inv.after {Q : VK} {u : Value} (I : Inv X pins σ H s) (h : CE X.stack X.prog X.w H s Q u s') : EP X pins σ Q u s' := by
  obtain ⟨v, H', os, bare, un, hok, r, q⟩ := h
  obtain ⟨hh, g, d, t, os'⟩ := s'
  obtain rfl : os' = s.os := os
  exact ⟨v, H', I.call (h' := hh) (g' := g) (d' := d) (t' := t) (ch := []) un hok bare (fun b z => absurd z (by simp)), r, q⟩
end

noncomputable def tCall (sp : Sp) (dvs : List V) (E : XK) (t : TA) : TE := fun σ H Q => t σ H fun vs H1 => sp (vs ++ dvs) H1 Q E
noncomputable def tMeth (C : Addr) (m : Str) (sp : Sp) (dvs : List V) (E : XK) (ta : TE) (t : TA) : TE := fun σ H Q => ta σ H fun x H1 => ∃ a dx fs, x = .ref a ∧ H1 a = some (.ins C dx fs) ∧ fs.lookup m = none ∧
  t σ H1 fun vs H2 => sp (x :: (vs ++ dvs)) H2 Q E
noncomputable def tMake (C : Addr) (sp : Sp) (dvs : List V) (E : XK) (t : TA) : TE := fun σ H Q => t σ H fun vs H1 => ∀ x dx, H1 x = none → H1 dx = none → dx ≠ x →
  sp (.ref x :: (vs ++ dvs)) (upd (upd H1 dx (.own x)) x (.ins C dx [])) (fun v H2 => v = .non ∧ Q (.ref x) H2) E

noncomputable def Binds (K : PySem.W.Frag) (fd : FuncData) (ps : List Str) (ds : List Value) : Prop :=
  ∀ (s : Shared) (us : List Value), K.In s.heap → (us ++ ds).length = ps.length → BindsTo s fd ⟨us, []⟩ (ps.zip (us ++ ds))
theorem Binds.all {K : PySem.W.Frag} {fd : FuncData} {ps : List Str} (h : ∀ us : List Value, us.length = ps.length → bindArgs fd ⟨us, []⟩ = pure (ps.zip us)) : Binds K fd ps [] := fun s us _ hl => by
  rw [List.append_nil] at hl ⊢
  exact .of_eq (h us hl)

noncomputable def Passes (CX : CXT) (X : Cx) (E : XK) : Prop := ∀ (pins : List (Addr × Obj)) (σ : St) (H : Hp) (s : Shared) (e : Value) (s' : Shared), Inv X pins σ H s → CX X.stack H s E e s' → X.xe e s'

section
variable {X : Cx} {CX : CXT} {k : Nat} {f C : Addr} {fd : FuncData} {ps : List Str} {sp : Sp} {dvs : List V} {ds : List Value} {E : XK} {x m : Str} {p pos apos : Pos} {e o : Expr} {es : List Expr} {ta : TE} {t : TA}

theorem run_fn {pins : List (Addr × Obj)} {σ : St} {H : Hp} {s : Shared} {Q : VK} {us : List Value} {vs : List V} (F : FnOk X.prog X.w X.K X.mg X.base CX k f fd ps sp) (hr : Room k X.A) (hb : Binds X.K fd ps ds) (hd : Vals dvs ds) (hx : Passes CX X E)
    (I : Inv X pins σ H s) (r : Vals vs us) (h : sp (vs ++ dvs) H Q E) : wpAny (model X.prog X.w) X.A (call (.ref f) us) (EP X pins σ Q) X.xe s := by
  have r2 : Vals (vs ++ dvs) (us ++ ds) := r.append hd
  have hl : (us ++ ds).length = ps.length := by rw [← r2.length]; exact F.len _ _ _ _ h
  refine wpAny_call (codeAny_mono (F.run X.A X.stack s H ⟨us, []⟩ (us ++ ds) (vs ++ dvs) Q E hr I.env0 (hb s us I.kIn hl) r2 h) fun r s' hq => ?_)
  cases r with
  | error e => exact hx pins σ H s e s' I hq
  | ok fl =>
    cases fl with
    | ret u => exact I.after hq
    | next => exact False.elim hq
    | brk => exact False.elim hq
    | cont => exact False.elim hq

theorem pe_call (F : FnOk X.prog X.w X.K X.mg X.base CX k f fd ps sp) (hr : Room k X.A) (hg : Gl X x) (hm : X.mg x = some (.ref f)) (hk : PySem.W.keepIn X.K (.ref f) = true) (hb : Binds X.K fd ps ds) (hd : Vals dvs ds) (hx : Passes CX X E)
    (ha : PA X (e :: es) t) (hdb : autoParam ((x == ("__debug__" : Str)) = false) au1_._auto_1) (he : autoParam (starEach (e :: es) X.env = (false, eval e X.env) :: starEach es X.env) au0_._auto_1) (hpl : autoParam ((backTo pos (starEach es X.env)).any (·.1) = false) au0_._auto_1) :
    PE X (.Call (.Name x p) (e :: es) [] pos) (tCall sp dvs E t) := by
  intro pins s σ H Q I h
  refine wpAny_Call_Name_kw (ld_glob I hg hm ?_ hdb)
  refine PySem.W.callWith_K (h₀ := X.base) I.ok.mod.kin hk (thn (ha pos pins s σ H _ I h) fun us s1 ⟨vs, H1, I1, r, q⟩ => ⟨I1.kIn, ?_⟩) he hpl
  exact run_fn F hr hb hd hx I1 r q
theorem pe_meth {pl : Sem Bool} (he : PE X o ta) (c : Cls X.K C) (hm : Meth X.K C m f) (F : FnOk X.prog X.w X.K X.mg X.base CX k f fd ps sp) (hr : Room k X.A) (hb : Binds X.K fd ps ds) (hd : Vals dvs ds) (hx : Passes CX X E) (ha : PA X (e :: es) t)
    (hst : autoParam (starEach (e :: es) X.env = (false, eval e X.env) :: starEach es X.env) au0_._auto_1) (hpl : autoParam ((backTo pos (starEach es X.env)).any (·.1) = false) au0_._auto_1)
    (ht : autoParam (eval (.Call (.Attribute o m apos) (e :: es) [] pos) X.env = (do
      let ov ← eval o X.env
      standAt apos.atName
      let (f, first) ← holding [ov] (getMethod ov m pl)
      callWith pos f first (backTo pos (starEach (e :: es) X.env)) (backToKw pos (keywordEach [] X.env)))) au0_._auto_1) :
    PE X (.Call (.Attribute o m apos) (e :: es) [] pos) (tMeth C m sp dvs E ta t) := by
  intro pins s σ H Q I h
  refine PySem.W.methodCall_KW (pl := pl) (thn (he pins s σ H _ I h) fun u s1 ⟨x, H1, I1, rx, a, dx, fs, ex, ea, l, q⟩ => ?_) ht
  subst ex
  obtain rfl : u = Value.ref a := rx
  refine getmeth_ok I1 ea c hm l ?_
  refine PySem.W.callWith_K (first := [.ref a]) (h₀ := X.base) I.ok.mod.kin hm.kp (thn (ha pos pins s1 σ H1 _ I1 q) fun us s2 ⟨vs, H2, I2, r, q2⟩ => ⟨I2.kIn, ?_⟩) hst hpl
  exact run_fn (us := .ref a :: us) (vs := .ref a :: vs) F hr hb hd hx I2 (.cons rfl r) q2
theorem pe_meth0 {pl : Sem Bool} (he : PE X o ta) (c : Cls X.K C) (hm : Meth X.K C m f) (F : FnOk X.prog X.w X.K X.mg X.base CX k f fd ps sp) (hr : Room k X.A) (hb : Binds X.K fd ps ds) (hd : Vals dvs ds) (hx : Passes CX X E)
    (ht : autoParam (eval (.Call (.Attribute o m apos) [] [] pos) X.env = (do
      let ov ← eval o X.env
      standAt apos.atName
      let (f, first) ← holding [ov] (getMethod ov m pl)
      callWith pos f first (backTo pos (starEach [] X.env)) (backToKw pos (keywordEach [] X.env)))) au0_._auto_1) :
    PE X (.Call (.Attribute o m apos) [] [] pos) (tMeth C m sp dvs E ta tNil) := by
  intro pins s σ H Q I h
  refine PySem.W.methodCall_KW (pl := pl) (thn (he pins s σ H _ I h) fun u s1 ⟨x, H1, I1, rx, a, dx, fs, ex, ea, l, q⟩ => ?_) ht
  subst ex
  obtain rfl : u = Value.ref a := rx
  refine getmeth_ok I1 ea c hm l ?_
  exact PySem.W.callWith_K0 (first := [.ref a]) I1.kIn hm.kp (run_fn (us := [.ref a]) (vs := [.ref a]) F hr hb hd hx I1 (.cons rfl .nil) q)

structure Mk (K : PySem.W.Frag) (C f : Addr) : Prop where
  makes : PySem.W.makesIn K C = true
  init : PySem.W.findIn K (.ref C) "__init__" = some (some (.ref f))
  fn : PySem.W.isFn K (.ref f) = true
  kp : PySem.W.keepIn K (.ref C) = true

theorem run_make {pins : List (Addr × Obj)} {σ : St} {H : Hp} {s : Shared} {Q : VK} {us : List Value} {vs : List V} (M : Mk X.K C f) (F : FnOk X.prog X.w X.K X.mg X.base CX k f fd ps sp) (hr : Room (k + 1) X.A) (hb : Binds X.K fd ps ds) (hd : Vals dvs ds)
    (hx : Passes CX X E) (I : Inv X pins σ H s) (r : Vals vs us)
    (h : ∀ x dx, H x = none → H dx = none → dx ≠ x → sp (.ref x :: (vs ++ dvs)) (upd (upd H dx (.own x)) x (.ins C dx [])) (fun v H2 => v = .non ∧ Q (.ref x) H2) E) :
    wpAny (model X.prog X.w) X.A (call (.ref C) us) (EP X pins σ Q) X.xe s := by
  have hq := h (s.heap.objs.size + 1) s.heap.objs.size (I.hok.fresh (Nat.le_succ _)) (I.hok.fresh (Nat.le_refl _)) (Nat.ne_of_lt (Nat.lt_succ_self _))
  have I2 := Inv.made (C := C) I
  have r2 : Vals (V.ref (s.heap.objs.size + 1) :: (vs ++ dvs)) (Value.ref (s.heap.objs.size + 1) :: (us ++ ds)) := .cons rfl (r.append hd)
  have hl : (Value.ref (s.heap.objs.size + 1) :: us ++ ds).length = ps.length := by
    have e := r2.length
    rw [F.len _ _ _ _ hq] at e
    exact e.symm
  refine wpAny_call (make_map (f := f) I.kIn M.makes M.init (beq_iff_eq.mp M.fn) (codeAny_mono (F.run _ X.stack _ _ ⟨Value.ref (s.heap.objs.size + 1) :: us, []⟩ (Value.ref (s.heap.objs.size + 1) :: (us ++ ds)) _ _ E (hr.make C us [])
    (I2.env0.make C us []) (hb _ (Value.ref (s.heap.objs.size + 1) :: us) I2.kIn hl) r2 hq) fun r s' hq' => ?_))
  cases r with
  | error e => exact hx pins σ _ _ e s' I2 hq'
  | ok fl =>
    cases fl with
    | ret u =>
      obtain ⟨v, H', I3, rv, ev, q3⟩ := I2.after hq'
      subst ev
      exact ⟨rv, ⟨V.ref (s.heap.objs.size + 1), H', I3, rfl, q3⟩⟩
    | next => exact False.elim hq'
    | brk => exact False.elim hq'
    | cont => exact False.elim hq'
theorem pe_make (M : Mk X.K C f) (F : FnOk X.prog X.w X.K X.mg X.base CX k f fd ps sp) (hr : Room (k + 1) X.A) (hg : Gl X x) (hm : X.mg x = some (.ref C)) (hb : Binds X.K fd ps ds) (hd : Vals dvs ds) (hx : Passes CX X E)
    (ha : PA X (e :: es) t) (hdb : autoParam ((x == ("__debug__" : Str)) = false) au1_._auto_1) (he : autoParam (starEach (e :: es) X.env = (false, eval e X.env) :: starEach es X.env) au0_._auto_1) (hpl : autoParam ((backTo pos (starEach es X.env)).any (·.1) = false) au0_._auto_1) :
    PE X (.Call (.Name x p) (e :: es) [] pos) (tMake C sp dvs E t) := by
  intro pins s σ H Q I h
  refine wpAny_Call_Name_kw (ld_glob I hg hm ?_ hdb)
  refine PySem.W.callWith_K (h₀ := X.base) I.ok.mod.kin M.kp (thn (ha pos pins s σ H _ I h) fun us s1 ⟨vs, H1, I1, r, q⟩ => ⟨I1.kIn, ?_⟩) he hpl
  exact run_make M F hr hb hd hx I1 r q
end

section
variable {X : Cx} {CX : CXT} {k : Nat} {f C : Addr} {fd : FuncData} {ps ks : List Str} {sp : Sp} {E : XK} {x m : Str} {p pos apos kpos : Pos} {e o : Expr} {es : List Expr} {kws : List Keyword} {te ta : TE} {t tk : TA} {nm : Option Str}
variable {g : List Value → List Value → List Value} {gV : List V → List V → List V}
end

structure FnScope (N P : List Str) (sc : Scope) : Prop where
  kind : sc.kind = .function
  co : sc.isCoroutine = false
  gen : sc.isGenerator = false
  nd : N.Nodup
  pre : N.take P.length = P
  par : ∀ x ∈ P, sc.names.lookup x = some .local ∨ sc.names.lookup x = some .cell
  nofree : ∀ y ∈ sc.names, y.2 ≠ .free

theorem bindL_out {kindOf : Str → Option NameKind} {x : Str} : ∀ {binds : List (Str × Value)} {m : Str → Option Value}, (∀ v, (x, v) ∉ binds) → bindL kindOf binds m x = m x
  | [], _, _ => rfl
  | (n, v) :: r, m, h => by
    unfold bindL
    rw [bindL_out fun w hw => h w (List.mem_cons_of_mem _ hw)]
    split
    · have : x ≠ n := by rintro rfl; exact h v List.mem_cons_self
      simp [this]
    · rfl
theorem bindC_out {kindOf : Str → Option NameKind} {x : Str} : ∀ {binds : List (Str × Value)} {m : Str → Option Value}, (∀ v, (x, v) ∉ binds) → bindC kindOf binds m x = m x
  | [], _, _ => rfl
  | (n, v) :: r, m, h => by
    unfold bindC
    rw [bindC_out fun w hw => h w (List.mem_cons_of_mem _ hw)]
    split
    · rfl
    · have : x ≠ n := by rintro rfl; exact h v List.mem_cons_self
      simp [this]
theorem bindL_get {kindOf : Str → Option NameKind} {x : Str} {v : Value} : ∀ {P : List Str} {vs : List Value} {i : Nat} {m : Str → Option Value}, P.Nodup → P[i]? = some x → vs[i]? = some v → kindOf x = some .local →
    bindL kindOf (P.zip vs) m x = some v
  | [], _, _, _, _, h, _, _ => by simp at h
  | _ :: _, [], _, _, _, _, h, _ => by simp at h
  | p :: P, w :: vs, 0, m, nd, h1, h2, hk => by
    simp at h1 h2; subst h1; subst h2
    show bindL kindOf ((p, w) :: P.zip vs) m p = _
    unfold bindL
    rw [bindL_out fun v hv => (List.nodup_cons.mp nd).1 (List.of_mem_zip hv).1, if_pos hk]
    simp
  | p :: P, w :: vs, i + 1, m, nd, h1, h2, hk => by
    show bindL kindOf ((p, w) :: P.zip vs) m x = _
    unfold bindL
    exact bindL_get (i := i) (List.nodup_cons.mp nd).2 (by simpa using h1) (by simpa using h2) hk
theorem bindC_get {kindOf : Str → Option NameKind} {x : Str} {v : Value} : ∀ {P : List Str} {vs : List Value} {i : Nat} {m : Str → Option Value}, P.Nodup → P[i]? = some x → vs[i]? = some v → kindOf x ≠ some .local →
    bindC kindOf (P.zip vs) m x = some v
  | [], _, _, _, _, h, _, _ => by simp at h
  | _ :: _, [], _, _, _, _, h, _ => by simp at h
  | p :: P, w :: vs, 0, m, nd, h1, h2, hk => by
    simp at h1 h2; subst h1; subst h2
    show bindC kindOf ((p, w) :: P.zip vs) m p = _
    unfold bindC
    rw [bindC_out fun v hv => (List.nodup_cons.mp nd).1 (List.of_mem_zip hv).1, if_neg hk]
    simp
  | p :: P, w :: vs, i + 1, m, nd, h1, h2, hk => by
    show bindC kindOf ((p, w) :: P.zip vs) m x = _
    unfold bindC
    exact bindC_get (i := i) (List.nodup_cons.mp nd).2 (by simpa using h1) (by simpa using h2) hk

noncomputable def start (N : List Str) (vs : List V) : St := vs.map some ++ List.replicate (N.length - vs.length) none

noncomputable def cxOf (CX : CXT) (P : Program) (w : World) (K : PySem.W.Frag) (mg : Str → Option Value) (base : Heap) (N : List Str) (qual : Str) (scope : Scope) (f : Addr) (cd : Value) (A : Around) (outer : List Env) (s : Shared) (H : Hp) (E : XK) : Cx where
  prog := P
  w := w
  K := K
  mg := mg
  base := base
  A := A.deeper (envOfC qual scope s.heap.objs.size f cd)
  N := N
  s₀ := s
  H₀ := H
  env := envOfC qual scope s.heap.objs.size f cd
  outer := outer
  stack := envOfC qual scope s.heap.objs.size f cd :: outer
  ex := []
  calm := true
  fn := fun _ => true
  pn := []
  xe := fun e s' => wpAny (model P w) (A.deeper (envOfC qual scope s.heap.objs.size f cd)) (leaving (envOfC qual scope s.heap.objs.size f cd) e) (fun _ s'' => CX outer H s E e s'') (fun e' s'' => CX outer H s E e' s'') s'

theorem cell_has {sc : Scope} {n : Nat} {x : Str} (h : sc.names.lookup x = some .cell) : ∃ c, (cellsFrom n sc.names []).lookup x = some c := by
  have q := PySem.W.cellsFrom_some sc.names n [] (.inl h)
  exact Option.isSome_iff_exists.mp q

theorem inv_start {CX : CXT} {P : Program} {w : World} {K : PySem.W.Frag} {mg : Str → Option Value} {base : Heap} {N ps : List Str} {qual : Str} {scope : Scope} {f : Addr} {cd : Value} {A : Around} {outer : List Env} {s s1 : Shared} {H : Hp} {E : XK} {us : List Value} {vs : List V}
    (S : FnScope N ps scope) (hd : A.handled = none) (e0 : Env0 P w K mg base A outer s H) (hl : vs.length = ps.length) (r : Vals vs us)
    (x : InCallC s s.heap.objs.size (bindL (envOfC qual scope s.heap.objs.size f cd).kindOf (ps.zip us) fun _ => none) (cellsFrom (s.heap.objs.size + 1) scope.names []) (bindC (envOfC qual scope s.heap.objs.size f cd).kindOf (ps.zip us) fun _ => none) s1) :
    Inv (cxOf CX P w K mg base N qual scope f cd A outer s H E) [] (start N vs) H s1 := by
  have hpl : ps.length ≤ N.length := by have := congrArg List.length S.pre; rw [List.length_take] at this; omega
  obtain ⟨h1, tk, rfl, hk⟩ := x.done
  have noA : ∀ b : Addr, b ∉ (cxOf CX P w K mg base N qual scope f cd A outer s H E).ex := fun b z => absurd (show b ∈ ([] : List Addr) from z) (by simp)
  refine ⟨⟨e0.mod, S.kind, rfl, rfl, Nat.le_refl _, fun y z c h1 h2 => ?_, fun y hy => ?_, fun y c _ h => ?_, fun _ => hd, Around.frames_deeper e0.frames, .inr ⟨rfl, rfl⟩, fun b z => absurd z (noA b), e0.bs, e0.bsz, fun b _ _ => noA b, fun b z => absurd z (noA b), e0.funs, e0.frf⟩,
    rfl, e0.bare, Un.kept hk, ⟨_, x.toInCall.ns, fun i y v h1 h2 h3 => ?_⟩, fun y c h => ⟨_, x.cell y c h⟩, e0.hok.fresh (Nat.le_refl _), fun y c h => ?_, fun p hp => absurd (show p ∈ ([] : List (Addr × Obj)) from hp) (by simp), e0.hok.kept hk, ?_⟩
  · exact name_of_addr x.apart (PySem.mem_of_lookup h1) (PySem.mem_of_lookup h2)
  · have hy : scope.names.lookup y = some .cell ∨ scope.names.lookup y = some .free := hy
    rcases hy with hy | hy
    · exact cell_has hy
    · exact absurd rfl (S.nofree _ (PySem.mem_of_lookup hy))
  · exact Nat.le_of_lt (x.above y c (PySem.mem_of_lookup h))
  · have hi : i < vs.length := by
      unfold start at h2
      by_cases hi : i < vs.length
      · exact hi
      · rw [List.getElem?_append_right (by simpa using hi)] at h2
        rw [List.getElem?_replicate] at h2
        split at h2 <;> cases h2
    have ha : vs[i]? = some v := by
      unfold start at h2
      rw [List.getElem?_append_left (by simpa using hi), List.getElem?_map] at h2
      cases e : vs[i]? with
      | none => rw [e] at h2; cases h2
      | some a => rw [e] at h2; cases h2; rfl
    obtain ⟨u, hu, rv⟩ := r.get ha
    have hp : ps[i]? = some y := by
      rw [← S.pre, List.getElem?_take_of_lt (by omega)]; exact h1
    have ndP : ps.Nodup := by rw [← S.pre]; exact S.nd.sublist (List.take_sublist _ _)
    refine ⟨u, rv, ?_⟩
    rcases S.par y (List.mem_of_getElem? hp) with k | k
    · exact .inl ⟨k, bindL_get ndP hp hu k⟩
    · obtain ⟨c, e⟩ := cell_has (n := s.heap.objs.size + 1) k
      refine .inr ⟨.inl k, c, e, ?_⟩
      have q := x.cell y c e
      rw [bindC_get ndP hp hu (by show scope.names.lookup y ≠ _; rw [k]; decide)] at q
      exact q
  · exact e0.hok.fresh (Nat.le_of_lt (x.above y c (PySem.mem_of_lookup h)))
  · unfold start
    show _ = N.length
    rw [List.length_append, List.length_map, List.length_replicate]
    omega

theorem fn_of {CX : CXT} {P : Program} {w : World} {K : PySem.W.Frag} {mg : Str → Option Value} {base : Heap} {k : Nat} {f : Addr} {name qual : Str} {params : Arguments} {body : List Stmt} {scope : Scope} {dV kV doc pm cdv ct oc : Value} {an od : Option Addr}
    {osl : Array (Option Value)} {N ps : List Str} {sp : Sp} (lk : K.lookup f = some ⟨oc, od, .func (PySem.W.fnOf name qual params body scope dV kV doc pm an cdv ct), osl⟩) (hcd : PySem.W.codeIn K cdv qual = true) (S : FnScope N ps scope)
    (len : ∀ vs H Q E, sp vs H Q E → vs.length = ps.length)
    (hbody : ∀ (A : Around) (outer : List Env) (s : Shared) (H : Hp) (vs : List V) (Q : VK) (E : XK), Room k (A.deeper (envOfC qual scope s.heap.objs.size f cdv)) → sp vs H Q E →
      ∃ t, PSs (cxOf CX P w K mg base N qual scope f cdv A outer s H E) body t ∧ t { nx := fun _ H' => Q .non H', rt := Q } (start N vs) H) :
    FnOk P w K mg base CX (k + 1) f (PySem.W.fnOf name qual params body scope dV kV doc pm an cdv ct) ps sp := by
  refine ⟨len, fun A outer s H args us vs Q E hr e0 hb r hsp => ?_⟩
  have hl := len _ _ _ _ hsp
  have KX : K.In s.heap := e0.mod.kin.keeps fun b o e => (e0.bs b o e).1
  have lim : s.heap.NoLimit := e0.mod.nolimit.keeps fun b o e => (e0.bs b o e).1
  have hkind : ∀ y ∈ ps.zip us, scope.names.lookup y.1 = some .local ∨ (scope.names.lookup y.1 = some .cell ∧ ((cellsFrom (s.heap.objs.size + 1) scope.names []).lookup y.1).isSome = true) := fun ⟨n, v⟩ hy => by
    rcases S.par n (List.of_mem_zip hy).1 with q | q
    · exact .inl q
    · exact .inr ⟨q, PySem.W.cellsFrom_some _ _ _ (.inl q)⟩
  refine codeAny_call_function hr.depth (KX _ _ lk) rfl S.co S.gen rfl (PySem.W.codeRec_of KX hcd) (hb _ _ _ _ ?_)
  refine wpAny_newFunctionEnv_cells S.kind hkind fun env he s1 x => ?_
  subst he
  refine ⟨lim.keeps x.toInCall.keep, codeAny_func ?_⟩
  obtain ⟨t, ht, hq⟩ := hbody A outer s H vs Q E (hr.deeper _) hsp
  have I : Inv (cxOf CX P w K mg base N qual scope f cdv A outer s H E) [] (start N vs) H s1 := inv_start S hr.hd e0 hl r x
  refine wpAny_mono (ht [] s1 (start N vs) H _ I hq) (fun fl s' hs => ?_) fun e s' hs => hs
  have fin : ∀ {σ' : St} {H' : Hp} {v : V} {u : Value}, Inv (cxOf CX P w K mg base N qual scope f cdv A outer s H E) [] σ' H' s' → RelV v u → Q v H' → CE outer P w H s Q u s' :=
    fun {σ' H' v u} J rv q => ⟨v, H', J.os, J.bare, J.base, J.hok, rv, q⟩
  cases fl with
  | ret u =>
    obtain ⟨v, σ', H', J, rv, q⟩ := hs
    exact fin J rv q
  | next =>
    obtain ⟨σ', H', J, q⟩ := hs
    exact fin (v := V.non) (u := Value.none) J rfl q
  | brk =>
    obtain ⟨_, _, _, q⟩ := hs
    exact False.elim q
  | cont =>
    obtain ⟨_, _, _, q⟩ := hs
    exact False.elim q
end L2

namespace L2
open PySem PySem.Spec PyProof.Rows
section
variable {X : Cx} {x : Str} {p pos : Pos} {e : Expr} {es : List Expr} {t : TA} {id T : String} {r : List V → Hp → VK → Prop}

noncomputable def tCB (r : List V → Hp → VK → Prop) (t : TA) : TE := fun σ H Q => t σ H fun vs H1 => r vs H1 Q
theorem pe_callB (hc : CallR X (.builtin id) r) (hg : Gl X x) (hm : X.mg x = none) (hv : bootBuiltins x = some (.builtin id)) (ha : PA X (e :: es) t) (hn : autoParam (x ≠ "__name__") au1_._auto_1) (hdb : autoParam ((x == ("__debug__" : Str)) = false) au1_._auto_1)
    (he : autoParam (starEach (e :: es) X.env = (false, eval e X.env) :: starEach es X.env) au0_._auto_1) (hpl : autoParam ((backTo pos (starEach es X.env)).any (·.1) = false) au0_._auto_1) : PE X (.Call (.Name x p) (e :: es) [] pos) (tCB r t) := by
  intro pins s σ H Q I h
  refine wpAny_Call_Name_kw (ld_blt I hg hm hv ?_ hn hdb)
  exact PyProof.Rows.callWith_builtin1 (thn (ha pos pins s σ H _ I h) fun us s1 ⟨vs, H1, I1, r1, q1⟩ => hc pins s1 σ H1 vs us Q I1 r1 q1) he hpl
end
end L2

namespace HT
open PySem PyProof.Rows

section
open PySem.SeqAt
open PySem.AutoSeq1 (wpAny_loadPart')
open PySem.MeetsSeq PySem.MeetsSeq2 PySem.MeetsSeq3

end

section
variable {prog : Program} {w : World} {A : Around} {E : Value → Shared → Prop} {s : Shared}

theorem cat_tup {t b : Addr} {vs ws : List Value} {Q : Value → Shared → Prop} (ht : IsTup s.heap t vs.toArray) (hb : IsTup s.heap b ws.toArray) (hv : vs ≠ [])
    (h1 : ws = [] → Q (.ref t) s) (h2 : ws ≠ [] → Q (.ref s.heap.objs.size) { s with heap := s.heap.push { cls := .type "tuple", data := .seq (vs ++ ws).toArray } })
    (hsz : vs.length + ws.length ≤ sizeLine) : wpAny (model prog w) A (binaryOp .Add (.ref t) (.ref b)) Q E s := by
  obtain ⟨⟨cls, dd, data, sl⟩, ho, hc, n, hd⟩ := id ht
  obtain ⟨⟨cls2, dd2, data2, sl2⟩, ho2, hc2, n2, hd2⟩ := id hb
  simp only at hc hd hc2 hd2
  subst hc hd hc2 hd2
  have e : vs.toArray ++ ws.toArray = (vs ++ ws).toArray := by simp
  by_cases hw : ws = []
  · exact concat_meets ⟨_, ho, rfl⟩ ⟨_, ho2, rfl⟩ noFill_tuple_add seq_tuple_add PySem.F.slot_tuple_add PySem.F.entry_tuple_add (PySem.F.args_tuple_add_2 _ _)
      (tuple_addW1 t b vs.toArray ws.toArray n n2 dd dd2 sl sl2 (by simpa using hv) (by simp [hw])) ⟨ho, ho2, h1 hw⟩
  · refine concat_meets ⟨_, ho, rfl⟩ ⟨_, ho2, rfl⟩ noFill_tuple_add seq_tuple_add PySem.F.slot_tuple_add PySem.F.entry_tuple_add (PySem.F.args_tuple_add_2 _ _)
      (tuple_addW2 t b vs.toArray ws.toArray n n2 dd dd2 sl sl2 (by simpa using hv) (by simpa using hw) (by rw [List.size_toArray, List.size_toArray]; exact hsz)) ⟨ho, ho2, ?_⟩
    rw [e]
    exact h2 hw

noncomputable def sIx (n d : Nat) : Option Int → Nat
  | none => d
  | some v => if v < 0 then (v + (n : Int)).toNat else min v.toNat n
theorem sIx_nat (n d k : Nat) : sIx n d (some (k : Int)) = min k n := by
  show (if (k : Int) < 0 then ((k : Int) + (n : Int)).toNat else min (k : Int).toNat n) = min k n
  rw [if_neg (by omega), Int.toNat_natCast]
theorem sIx_le (n d : Nat) (hd : d ≤ n) (o : Option Int) : sIx n d o ≤ n := by
  cases o with
  | none => exact hd
  | some v =>
    show (if v < 0 then (v + (n : Int)).toNat else min v.toNat n) ≤ n
    by_cases hv : v < 0
    · rw [if_pos hv]; omega
    · rw [if_neg hv]; exact Nat.min_le_right _ _
theorem clip_eq (v : Int) (n d : Nat) : (if v < 0 then max (v + (n : Int)) 0 else min v (n : Int)) = ((sIx n d (some v) : Nat) : Int) := by
  show (if v < 0 then max (v + (n : Int)) 0 else min v (n : Int)) = (((if v < 0 then (v + (n : Int)).toNat else min v.toNat n) : Nat) : Int)
  by_cases hv : v < 0
  · simp only [if_pos hv]; omega
  · simp only [if_neg hv]; omega
theorem adjust_gen (lo hi : Option Int) (n : Nat) : Builtin.Slice.sliceAdjust lo hi 1 (n : Int) = (((sIx n 0 lo : Nat) : Int), ((sIx n n hi : Nat) : Int)) := by
  have h1 : ¬ ((1 : Int) < 0) := by omega
  unfold Builtin.Slice.sliceAdjust
  simp only [h1, if_false]
  refine Prod.ext ?_ ?_
  · cases lo with
    | none => rfl
    | some v => exact clip_eq v n 0
  · cases hi with
    | none => rfl
    | some v => exact clip_eq v n n
theorem places_gen (i j : Nat) : Builtin.Slice.slicePlaces (i : Int) (j : Int) 1 = j - i := by
  unfold Builtin.Slice.slicePlaces
  have h1 : (1 : Int) > 0 := by omega
  simp only [h1, if_true, Int.ediv_one]
  split <;> omega
theorem slicePart_ {v : Value} {o : Option Int} {Q : Option Int → Shared → Prop} (p : IsPart v o) (h : Q o s) : wpAny (model prog w) A (Builtin.Slice.slicePartIndex v) Q E s := by
  cases p with
  | none => exact slicePart_none h
  | int i t => exact slicePart_int h
theorem sliceApplied_gen {sl : Addr} {vl vu : Value} {lo hi : Option Int} {n : Nat} {Q : Int × Int × Nat → Shared → Prop} (hs : s.heap.IsSliceOf sl vl vu .none) (pl : IsPart vl lo) (pu : IsPart vu hi)
    (h : Q (((sIx n 0 lo : Nat) : Int), 1, sIx n n hi - sIx n 0 lo) s) : wpAny (model prog w) A (Builtin.Slice.sliceApplied (.ref sl) (pure (n : Int))) Q E s := by
  obtain ⟨os, hos, hcs, hds⟩ := id hs
  unfold Builtin.Slice.sliceApplied Builtin.Slice.sliceFields
  refine wpAny_bind (wpAny_bind (wpAny_field hos hds (x := vl) rfl (wpAny_bind (wpAny_field hos hds (x := vu) rfl (wpAny_bind (wpAny_field hos hds (x := .none) rfl (wpAny_pure ?_)))))))
  refine wpAny_bind (slicePart_none ?_)
  show wpAny _ _ (if ((1 : Int) == 0) = true then _ else _) _ _ s
  rw [if_neg (by decide)]
  refine wpAny_bind (slicePart_ pl (wpAny_bind (slicePart_ pu (wpAny_bind (wpAny_pure ?_)))))
  show wpAny _ _ (match Builtin.Slice.sliceAdjust lo hi 1 (n : Int) with | (lo, hi) => pure (lo, (1 : Int), Builtin.Slice.slicePlaces lo hi 1)) _ _ s
  rw [adjust_gen lo hi n]
  show wpAny _ _ (pure (((sIx n 0 lo : Nat) : Int), (1 : Int), Builtin.Slice.slicePlaces ((sIx n 0 lo : Nat) : Int) ((sIx n n hi : Nat) : Int) 1)) _ _ s
  rw [places_gen]
  exact wpAny_pure h
theorem pick_gen (xs : Array Value) (i k : Nat) : ((List.range k).filterMap fun (m : Nat) => xs[((i : Int) + (m : Int) * 1).toNat]?).toArray = ((xs.toList.drop i).take k).toArray := by
  have e : (fun (m : Nat) => xs[((i : Int) + (m : Int) * 1).toNat]?) = fun m => xs[i + m]? := by
    funext m
    have : ((i : Int) + (m : Int) * 1).toNat = i + m := by omega
    rw [this]
  rw [e]
  have := pick_run xs i k
  rw [List.filterMap_map] at this
  have e2 : ((fun x => xs[x]?) ∘ fun x => i + x) = fun m => xs[i + m]? := rfl
  rw [e2] at this
  rw [this]

theorem getItem_tuple_cut {t sl : Addr} {items : Array Value} {vl vu : Value} {lo hi : Option Int} {Q : Value → Shared → Prop} (ht : IsTup s.heap t items) (hs : s.heap.IsSliceOf sl vl vu .none) (pl : IsPart vl lo) (pu : IsPart vu hi)
    (hw : ¬ (sIx items.size 0 lo = 0 ∧ sIx items.size items.size hi = items.size))
    (h : Q (.ref s.heap.objs.size) { s with heap := s.heap.push { cls := .type "tuple", data := .seq ((items.toList.drop (sIx items.size 0 lo)).take (sIx items.size items.size hi - sIx items.size 0 lo)).toArray } })
    (hsz : items.size ≤ sizeLine) : wpAny (model prog w) A (getItem (.ref t) (.ref sl)) Q E s := by
  have htake : sizeOk (.seq ((items.toList.drop (sIx items.size 0 lo)).take (sIx items.size items.size hi - sIx items.size 0 lo)).toArray) := by
    show ((items.toList.drop (sIx items.size 0 lo)).take (sIx items.size items.size hi - sIx items.size 0 lo)).toArray.size ≤ sizeLine
    rw [List.size_toArray, List.length_take, List.length_drop, Array.length_toList]
    omega
  have hj : sIx items.size items.size hi ≤ items.size := sIx_le _ _ (Nat.le_refl _) hi
  obtain ⟨os, hos, hcs, hds⟩ := id hs
  have hTs : s.TypeIs (.ref sl) "slice" := ⟨os, hos, hcs⟩
  unfold getItem
  try with_reducible refine wpAny_holding ?_
  first | refine wpAny_bind (wpAny_pure ?_) | skip
  refine wpAny_bind (wpAny_sequenceKey ht.typeIs (by decide) ?_)
  refine wpAny_bind (wpAny_callSpecial?_slot (name := Str.ofString "__getitem__") ht.typeIs PyProof.Rows.slot_tuple_getitem
    (wpAny_call_entry PyProof.Rows.slot_tuple_getitem ht.typeIs entry_tuple_getitem ?_ (args_tuple_getitem _ _)))
  show wpAny _ _ (Builtin.Tuple.tupleItemsOf (.ref t) >>= _) _ _ s
  refine wpAny_bind (tupleItemsOf_ ht ?_)
  refine wpAny_bind (wpAny_typeOf hTs ?_)
  rw [if_pos (by decide)]
  refine wpAny_bind (sliceApplied_gen hs pl pu ?_)
  have hno : ¬ ((((sIx items.size 0 lo : Nat) : Int) == 0 && (1 : Int) == 1 && (sIx items.size items.size hi - sIx items.size 0 lo) == items.size) = true) := by
    intro q
    rw [Bool.and_eq_true, Bool.and_eq_true] at q
    have q1 : ((sIx items.size 0 lo : Nat) : Int) = 0 := eq_of_beq q.1.1
    have q2 : sIx items.size items.size hi - sIx items.size 0 lo = items.size := eq_of_beq q.2
    exact hw ⟨by omega, by omega⟩
  show wpAny _ _ (if (((sIx items.size 0 lo : Nat) : Int) == 0 && (1 : Int) == 1 && (sIx items.size items.size hi - sIx items.size 0 lo) == items.size) = true then _ else _) _ _ s
  rw [if_neg hno, pick_gen]
  first
    | exact wpAny_bind (m := Builtin.Tuple.tupleExact _) (wpAny_newObj_type (wpAny_pure ⟨_, rfl, wpAny_pure h⟩) htake)
    | exact wpAny_bind (m := Builtin.Tuple.tupleExact _) (wpAny_newObj_type (wpAny_bind (wpAny_pure (wpAny_pure ⟨_, rfl, wpAny_pure h⟩))) htake)
    | exact wpAny_bind (wpAny_bind (m := Builtin.Tuple.tupleExact _) (wpAny_newObj_type (wpAny_pure (wpAny_pure ⟨_, rfl, wpAny_pure h⟩)) htake))
    | exact wpAny_bind (wpAny_bind (m := Builtin.Tuple.tupleExact _) (wpAny_newObj_type (wpAny_pure ⟨_, rfl, wpAny_pure h⟩) htake))
end
end HT

namespace L2
open PySem PySem.Spec PyProof.Rows

noncomputable abbrev TO := St → Hp → (Option Int → Hp → Prop) → Prop
noncomputable def PO (X : Cx) (e : Option Expr) (t : TO) : Prop :=
  ∀ (pins : List (Addr × Obj)) (s : Shared) (σ : St) (H : Hp) (Q : Option Int → Hp → Prop), Inv X pins σ H s → t σ H Q →
    wpAny (model X.prog X.w) X.A (evalPart e X.env) (fun u s' => ∃ o H', Inv X pins σ H' s' ∧ IsPart u o ∧ Q o H') X.xe s
noncomputable def tNoPart : TO := fun _ H Q => Q none H
noncomputable def tPart (t : TE) : TO := fun σ H Q => t σ H fun x H1 => ∃ i, x = .int i ∧ Q (some i) H1

section
variable {X : Cx} {e : Expr} {te : TE} {lo hi : Option Expr} {tl th : TO} {pos p2 : Pos}

theorem po_none : PO X none tNoPart := by
  intro pins s σ H Q I h
  rw [evalPart_none]
  exact wpAny_pure ⟨none, H, I, .none, h⟩
theorem po_some (h : PE X e te) : PO X (some e) (tPart te) := by
  intro pins s σ H Q I hw
  rw [evalPart_some]
  refine thn (h pins s σ H _ I hw) fun u s1 ⟨x, H1, I1, r1, q1⟩ => ?_
  obtain ⟨i, rfl, q⟩ := q1
  obtain ⟨t, rfl⟩ := r1
  exact ⟨some i, H1, I1, .int i t, q⟩

noncomputable def SlR (X : Cx) (r : V → Option Int → Option Int → Hp → VK → Prop) : Prop :=
  ∀ (pins : List (Addr × Obj)) (s : Shared) (σ : St) (H : Hp) (x : V) (v vl vu : Value) (lo hi : Option Int) (sl : Addr) (Q : VK), Inv X pins σ H s → RelV x v → s.heap.IsSliceOf sl vl vu .none → IsPart vl lo → IsPart vu hi → r x lo hi H Q →
    ∃ T id, typeLookup (.type T) "__getitem__" = pure (some (.builtin id)) ∧ s.TypeIs v T ∧ wpAny (model X.prog X.w) X.A (getItem v (.ref sl)) (EP X pins σ Q) X.xe s
noncomputable def tSl (r : V → Option Int → Option Int → Hp → VK → Prop) (te : TE) (tl th : TO) : TE := fun σ H Q => te σ H fun x H1 => tl σ H1 fun l H2 => th σ H2 fun u H3 => r x l u H3 Q
theorem pe_slice {r : V → Option Int → Option Int → Hp → VK → Prop} (hr : SlR X r) (he : PE X e te) (hl : PO X lo tl) (hu : PO X hi th) : PE X (.Subscript e (.Slice lo hi none p2) pos) (tSl r te tl th) := by
  intro pins s σ H Q I h
  refine Subscript_ (thn (he pins s σ H _ I h) fun v s1 ⟨x, H1, I1, r1, q1⟩ => ?_)
  refine wpAny_Slice (thn (hl pins s1 σ H1 _ I1 q1) fun vl s2 ⟨l, H2, I2, pl, q2⟩ => thn (hu pins s2 σ H2 _ I2 q2) fun vu s3 ⟨u, H3, I3, pu, q3⟩ => ?_)
  rw [evalPart_none]
  refine wpAny_pure ?_
  have I4 : Inv X pins σ H3 { s3 with heap := s3.heap.push { cls := .type "slice", data := .fields #[vl, vu, .none] } } := I3.kept (t' := s3.toks) fun b ob q => Heap.get?_push_of_some _ q
  obtain ⟨T, id, hT, ht, hg⟩ := hr pins { s3 with heap := s3.heap.push { cls := .type "slice", data := .fields #[vl, vu, .none] } } σ H3 x v vl vu l u s3.heap.objs.size Q I4 r1 (Heap.IsSliceOf.new ..) pl pu q3
  show wpAny (model X.prog X.w) X.A (subscriptTail e (.Slice lo hi none p2) v (.ref s3.heap.objs.size)) (EP X pins σ Q) X.xe { s3 with heap := s3.heap.push { cls := .type "slice", data := .fields #[vl, vu, .none] } }
  exact tail_any (ops := [.ref s3.heap.objs.size, v]) ht hT hg (by with_unfolding_all rfl)

noncomputable def cutV (xs : List V) (lo hi : Option Int) : List V := (xs.drop (HT.sIx xs.length 0 lo)).take (HT.sIx xs.length xs.length hi - HT.sIx xs.length 0 lo)
theorem cutV_length (xs : List V) (lo hi : Option Int) : (cutV xs lo hi).length ≤ xs.length := by
  unfold cutV
  rw [List.length_take, List.length_drop]
  omega
noncomputable def rSlT (K : PySem.W.Frag) : V → Option Int → Option Int → Hp → VK → Prop := fun x lo hi H Q => ∃ a xs, x = .ref a ∧ SqT K H a xs ∧
  ¬ (HT.sIx xs.length 0 lo = 0 ∧ HT.sIx xs.length xs.length hi = xs.length) ∧ ∀ p, H p = none → Q (.ref p) (upd H p (.tup (cutV xs lo hi)))
theorem sl_tup : SlR X (rSlT X.K) := by
  intro pins s σ H x v vl vu lo hi sl Q I rx hs pl pu h
  obtain ⟨a, xs, rfl, hx, hw, q⟩ := h
  cases rx
  obtain ⟨its, r, ht, hz⟩ := I.tuple hx
  have hlen : its.toArray.size = xs.length := by rw [List.size_toArray]; exact r.length.symm
  refine ⟨"tuple", _, PyProof.Rows.slot_tuple_getitem.lookup, ht.typeIs, ?_⟩
  refine HT.getItem_tuple_cut ht hs pl pu (by rw [hlen]; exact hw) ?_ (by rw [hlen]; exact hz)
  rw [hlen]
  refine ⟨.ref s.heap.objs.size, _, I.laid (t' := s.toks) (o := .tup (cutV xs lo hi)) (fun b ob q => Heap.get?_push_of_some _ q) (Nat.le_refl _) ?_, rfl, q _ (I.hok.fresh (Nat.le_refl _))⟩
  exact ⟨Nat.le_trans (cutV_length xs lo hi) hz, _, (r.drop (HT.sIx xs.length 0 lo)).take (HT.sIx xs.length xs.length hi - HT.sIx xs.length 0 lo), IsTup.new _ _⟩

noncomputable def rCatT (K : PySem.W.Frag) : R2 := fun x y H Q => ∃ a b xs ys, x = .ref a ∧ y = .ref b ∧ SqT K H a xs ∧ SqT K H b ys ∧ xs ≠ [] ∧ xs.length + ys.length ≤ sizeLine ∧
  (ys = [] → Q (.ref a) H) ∧ (ys ≠ [] → ∀ p, H p = none → Q (.ref p) (upd H p (.tup (xs ++ ys))))
theorem Vals.nil_iff {xs : List V} {us : List Value} (r : Vals xs us) : us = [] ↔ xs = [] := by
  cases r with
  | nil => simp
  | cons _ _ => simp
theorem op_catT : OpR X (binaryOp .Add) (rCatT X.K) := by
  intro pins s σ H x y v u Q I rx ry h
  obtain ⟨a, b, xs, ys, rfl, rfl, ha, hb, hx, hz, q1, q2⟩ := h
  cases rx
  cases ry
  obtain ⟨its, r1, p1, _⟩ := I.tuple ha
  obtain ⟨its2, r2, p2, _⟩ := I.tuple hb
  refine HT.cat_tup p1 p2 (fun z => hx (r1.nil_iff.mp z)) (fun z => ⟨.ref a, H, I, rfl, q1 (r2.nil_iff.mp z)⟩) (fun z => ?_) (by rw [← r1.length, ← r2.length]; exact hz)
  refine ⟨.ref s.heap.objs.size, _, I.laid (t' := s.toks) (o := .tup (xs ++ ys)) (fun b ob q => Heap.get?_push_of_some _ q) (Nat.le_refl _) ?_, rfl, q2 (fun w => z (r2.nil_iff.mpr w)) _ (I.hok.fresh (Nat.le_refl _))⟩
  exact ⟨by rw [List.length_append]; exact hz, _, r1.append r2, IsTup.new _ _⟩
end
end L2

namespace L2
open PySem PySem.Spec PyProof.Rows

noncomputable def ixN (n : Nat) (i : Int) : Option Nat := if 0 ≤ i then (if i < n then some i.toNat else none) else if -(n : Int) ≤ i then some (i + n).toNat else none
noncomputable def atI {α : Type} (xs : List α) (i : Int) : Option α := (ixN xs.length i).bind fun j => xs[j]?
theorem ixN_seq {n : Nat} {i : Int} {j : Nat} (h : ixN n i = some j) : seqIndex? i n = some j ∧ j < n ∧ -(n : Int) ≤ i ∧ i < n := by
  unfold ixN at h
  by_cases h0 : 0 ≤ i
  · rw [if_pos h0] at h
    by_cases h1 : i < n
    · rw [if_pos h1] at h
      have e : i.toNat = j := Option.some.inj h
      exact ⟨by rw [seqIndex_of h0 h1, e], by omega, by omega, h1⟩
    · rw [if_neg h1] at h; cases h
  · rw [if_neg h0] at h
    by_cases h1 : -(n : Int) ≤ i
    · rw [if_pos h1] at h
      have e : (i + n).toNat = j := Option.some.inj h
      exact ⟨by rw [seqIndex_neg (by omega) h1, e], by omega, h1, by omega⟩
    · rw [if_neg h1] at h; cases h
theorem atI_get {α : Type} {xs : List α} {i : Int} {v : α} (h : atI xs i = some v) : ∃ j, seqIndex? i xs.length = some j ∧ xs[j]? = some v ∧ j < xs.length ∧ -(xs.length : Int) ≤ i ∧ i < xs.length := by
  unfold atI at h
  cases e : ixN xs.length i with
  | none => rw [e] at h; cases h
  | some j =>
    rw [e] at h
    obtain ⟨h1, h2, h3, h4⟩ := ixN_seq e
    exact ⟨j, h1, h, h2, h3, h4⟩
theorem atI_nat {α : Type} {xs : List α} {j : Nat} {v : α} (h : xs[j]? = some v) : atI xs (j : Int) = some v := by
  have hj : j < xs.length := (List.getElem?_eq_some_iff.mp h).1
  have e : ixN xs.length (j : Int) = some j := by
    unfold ixN
    rw [if_pos (by omega), if_pos (by omega)]; simp
  unfold atI; rw [e]; exact h
noncomputable def PlainIx (b : Expr) : Prop := ∀ o i, subscripted b false o i = operate [o, i] (getItem o i)
noncomputable def IxR (X : Cx) (r : R2) : Prop :=
  ∀ (value slice : Expr) (pins : List (Addr × Obj)) (s : Shared) (σ : St) (H : Hp) (x y : V) (v u : Value) (Q : VK), Inv X pins σ H s → RelV x v → RelV y u → r x y H Q →
    subscripted slice false v u = operate [v, u] (getItem v u) → wpAny (model X.prog X.w) X.A (subscriptTail value slice v u) (EP X pins σ Q) X.xe s
noncomputable def MtR (X : Cx) (id : String) (r : V → List V → Hp → VK → Prop) : Prop :=
  ∀ (pins : List (Addr × Obj)) (s : Shared) (σ : St) (H : Hp) (x : V) (xs : List V) (v : Value) (us : List Value) (Q : VK), Inv X pins σ H s → RelV x v → Vals xs us → r x xs H Q →
    wpAny (model X.prog X.w) X.A (call (.builtin id) (v :: us)) (EP X pins σ Q) X.xe s
section
variable {X : Cx} {a b : Expr} {ta tb : TE} {pos : Pos}
theorem pe_ix {r : R2} (hr : IxR X r) (ha : PE X a ta) (hb : PE X b tb) (hs : PlainIx b) : PE X (.Subscript a b pos) (tOp r ta tb) := by
  intro pins s σ H Q I h
  exact Subscript_ (binT ha hb I h fun v u s2 x y H2 I2 rx ry q => hr a b pins s2 σ H2 x y v u Q I2 rx ry q (hs _ _))

noncomputable def rIxL (K : PySem.W.Frag) : R2 := fun x y H Q => ∃ p xs i v, x = .ref p ∧ y = .int i ∧ SqL K H p xs ∧ atI xs i = some v ∧ Q v H
noncomputable def rIxT (K : PySem.W.Frag) : R2 := fun x y H Q => ∃ p xs i v, x = .ref p ∧ y = .int i ∧ SqT K H p xs ∧ atI xs i = some v ∧ Q v H
theorem ix_list : IxR X (rIxL X.K) := by
  intro value slice pins s σ H x y v u Q I rx ry h hs
  obtain ⟨p, xs, i, z, rfl, rfl, hq, he, q⟩ := h
  cases rx
  obtain ⟨t, rfl⟩ := ry
  obtain ⟨its, r, pl, hz⟩ := I.list hq
  obtain ⟨j, h1, h2, h3, h4, h5⟩ := atI_get he
  obtain ⟨w, ew, rw'⟩ := r.get h2
  have hl := r.length
  have hn := line63
  have fin : EP X pins σ Q w s := ⟨z, H, I, rw', q⟩
  by_cases h0 : 0 ≤ i
  · have hj : i.toNat = j := by
      rw [seqIndex_of h0 h5] at h1
      exact Option.some.inj h1
    exact item_listR pl.isList h0 (by omega) (by rw [hj]; simpa using ew) fin hs
  · have hj : (i + (its.toArray.size : Int)).toNat = j := by
      rw [seqIndex_neg (by omega) h4] at h1
      rw [List.size_toArray, ← hl]
      exact Option.some.inj h1
    exact subscriptTail_builtinR (x := w) pl.isList.typeIs slot_list_getitem.lookup
      (wpAny_getItem_list_neg (Q := fun r s' => r = w ∧ EP X pins σ Q r s') pl.isList (by omega) (by rw [List.size_toArray] <;> omega) (by omega) (by rw [hj]; simpa using ew) ⟨rfl, fin⟩) hs
theorem ix_tup : IxR X (rIxT X.K) := by
  intro value slice pins s σ H x y v u Q I rx ry h hs
  obtain ⟨p, xs, i, z, rfl, rfl, hq, he, q⟩ := h
  cases rx
  obtain ⟨t, rfl⟩ := ry
  obtain ⟨its, r, pl, hz⟩ := I.tuple hq
  obtain ⟨j, h1, h2, h3, h4, h5⟩ := atI_get he
  obtain ⟨w, ew, rw'⟩ := r.get h2
  have hl := r.length
  have hn := line63
  have fin : EP X pins σ Q w s := ⟨z, H, I, rw', q⟩
  exact subscriptTail_builtinR (x := w) pl.typeIs slot_tuple_getitem.lookup
    (getItem_tuple (j := j) (Q := fun r s' => r = w ∧ EP X pins σ Q r s') pl (by omega) (by omega) (by rw [List.size_toArray, ← hl]; exact h1) (by simpa using ew) ⟨rfl, fin⟩) hs
theorem slice_bounds (lo hi : Option Int) (n : Nat) : (sliceBounds lo hi none n).1 = ((HT.sIx n 0 lo : Nat) : Int) ∧ (sliceBounds lo hi none n).2.1 = ((HT.sIx n n hi : Nat) : Int) ∧ (sliceBounds lo hi none n).2.2 = 1 := by
  refine ⟨?_, ?_, rfl⟩
  · cases lo with
    | none => simp [sliceBounds, HT.sIx]
    | some i =>
      simp only [sliceBounds, HT.sIx, Option.getD_none, show (1 : Int) > 0 by decide, if_true]
      by_cases h : i < 0
      · simp only [h, if_true] <;> omega
      · simp only [h, if_false] <;> omega
  · cases hi with
    | none => simp [sliceBounds, HT.sIx]
    | some i =>
      simp only [sliceBounds, HT.sIx, Option.getD_none, show (1 : Int) > 0 by decide, if_true]
      by_cases h : i < 0
      · simp only [h, if_true] <;> omega
      · simp only [h, if_false] <;> omega
theorem slicePick_cut (its : List Value) (lo hi : Option Int) : slicePick its.toArray lo hi none = ((its.drop (HT.sIx its.length 0 lo)).take (HT.sIx its.length its.length hi - HT.sIx its.length 0 lo)).toArray := by
  obtain ⟨h1, h2, h3⟩ := slice_bounds lo hi its.toArray.size
  unfold slicePick
  rw [h1, h2, h3]
  simp only [sliceRange_one, pick_run, List.size_toArray] <;> rfl
noncomputable def rSlL (K : PySem.W.Frag) : V → Option Int → Option Int → Hp → VK → Prop := fun x lo hi H Q => ∃ a xs, x = .ref a ∧ SqL K H a xs ∧ ∀ p, H p = none → Q (.ref p) (upd H p (.lst (cutV xs lo hi)))
theorem sl_list : SlR X (rSlL X.K) := by
  intro pins s σ H x v vl vu lo hi sl Q I rx hs pl pu h
  obtain ⟨a, xs, rfl, hx, q⟩ := h
  cases rx
  obtain ⟨its, r, ht, hz⟩ := I.list hx
  have hlen := r.length
  refine ⟨"list", _, slot_list_getitem.lookup, ht.isList.typeIs, ?_⟩
  refine wpAny_getItem_list_slice ht.isList hs pl pu .none (by simp) ?_ (by rw [List.size_toArray] <;> omega)
  rw [slicePick_cut, ← hlen]
  refine ⟨.ref s.heap.objs.size, _, I.laid (t' := s.toks) (o := .lst (cutV xs lo hi)) (fun b ob q => Heap.get?_push_of_some _ q) (Nat.le_refl _) ?_, rfl, q _ (I.hok.fresh (Nat.le_refl _))⟩
  exact ⟨Nat.le_trans (cutV_length xs lo hi) hz, _, 0, (r.drop (HT.sIx xs.length 0 lo)).take (HT.sIx xs.length xs.length hi - HT.sIx xs.length 0 lo), Heap.get?_push_size _ rfl⟩

theorem call_len_seq : CallR X (.builtin "len") (fun xs H Q => ∃ p ys, xs = [.ref p] ∧ (SqL X.K H p ys ∨ SqT X.K H p ys) ∧ Q (.int ys.length) H) := by
  intro pins s σ H xs us Q I r h
  obtain ⟨p, ys, rfl, hq, q⟩ := h
  obtain ⟨u, rfl, rx⟩ := vals1 r
  cases rx
  have hn := line63
  rcases hq with hq | hq
  · obtain ⟨its, r', pl, hz⟩ := I.list hq
    have hlen := r'.length
    exact Calls.call_len_list pl.isList (by simp only [List.size_toArray] <;> omega) ⟨.int ys.length, H, I.tok _, ⟨s.toks + 1, by rw [List.size_toArray, hlen]⟩, q⟩
  · obtain ⟨its, r', pl, hz⟩ := I.tuple hq
    have hlen := r'.length
    exact len_tuple pl (by simp only [List.size_toArray] <;> omega) ⟨.int ys.length, H, I.tok _, ⟨s.toks + 1, by rw [List.size_toArray, hlen]⟩, q⟩
noncomputable def tyV (K : PySem.W.Frag) (T : String) (x : V) (H : Hp) : Prop := match x with
  | .str _ => T = "str"
  | .int _ => T = "int"
  | .ref p => (T = "list" ∧ ∃ xs, SqL K H p xs) ∨ (T = "tuple" ∧ ∃ o, K.lookup p = some o ∧ o.cls = .type "tuple" ∧ o.dict = none) ∨
      (T = "dict" ∧ ((∃ kvs, H p = some (.dK kvs)) ∨ ∃ kvs, H p = some (.dT kvs))) ∨ (T = "set" ∧ ∃ S n, H p = some (.set S n))
  | _ => False
theorem tyV_is {pins : List (Addr × Obj)} {σ : St} {H : Hp} {s : Shared} {T : String} {x : V} {v : Value} (I : Inv X pins σ H s) (r : RelV x v) (ty : tyV X.K T x H) :
    s.TypeIs v T ∧ ∀ a, v = .ref a → ∃ ob, s.heap.get? a = some ob ∧ ob.dict = none := by
  cases x with
  | str z =>
    obtain ⟨t, rfl⟩ := r
    cases (show T = "str" from ty)
    exact ⟨typeIs_str s z t, fun _ e => nomatch e⟩
  | int i =>
    obtain ⟨t, rfl⟩ := r
    cases (show T = "int" from ty)
    exact ⟨typeIs_int s i t, fun _ e => nomatch e⟩
  | ref p =>
    cases r
    rcases ty with ⟨rfl, xs, hq⟩ | ⟨rfl, o, hk, hc, hd⟩ | ⟨rfl, hk⟩ | ⟨rfl, S, n, hk⟩
    · obtain ⟨its, _, pl, _⟩ := I.list hq
      refine ⟨pl.isList.typeIs, fun a e => ?_⟩
      cases e
      obtain ⟨o, n, e, c, hd, _⟩ := pl
      exact ⟨o, e, hd⟩
    · refine ⟨⟨o, I.kIn p o hk, hc⟩, fun a e => ?_⟩
      cases e
      exact ⟨o, I.kIn _ o hk, hd⟩
    · have z : ∃ o, s.heap.get? p = some o ∧ o.ExactDict := by
        rcases hk with ⟨kvs, hk⟩ | ⟨kvs, hk⟩
        · obtain ⟨_, _, _, _, o, _, _, e, ex, _⟩ := I.hok p _ hk
          exact ⟨o, e, ex⟩
        · obtain ⟨_, _, _, _, o, _, _, e, ex, _⟩ := I.hok p _ hk
          exact ⟨o, e, ex⟩
      obtain ⟨o, e, ex⟩ := z
      refine ⟨⟨o, e, ex.1⟩, fun a e2 => ?_⟩
      cases e2
      exact ⟨o, e, ex.2.1⟩
    · obtain ⟨o, _, _, _, e, ex, _⟩ := I.hok p _ hk
      refine ⟨⟨o, e, ex.1⟩, fun a e2 => ?_⟩
      cases e2
      exact ⟨o, e, ex.2.1⟩
  | _ => exact False.elim ty
noncomputable def tBM0 (K : PySem.W.Frag) (T : String) (r : V → List V → Hp → VK → Prop) (to : TE) : TE := fun σ H Q => to σ H fun x H1 => tyV K T x H1 ∧ r x [] H1 Q
noncomputable def tBM (K : PySem.W.Frag) (T : String) (r : V → List V → Hp → VK → Prop) (to : TE) (t : TA) : TE := fun σ H Q => to σ H fun x H1 => tyV K T x H1 ∧ t σ H1 fun xs H2 => r x xs H2 Q
variable {o e : Expr} {es : List Expr} {to : TE} {t : TA} {name : Str} {apos cpos : Pos} {T id : String} {r : V → List V → Hp → VK → Prop}
theorem pe_bm0 (pa : PlainAttrs T) (slot : Slot T name id) (hty : typeOf (.builtin id) = pure (.type "method_descriptor")) (hm : MtR X id r) (ho : PE X o to)
    (hbase : autoParam (attributeBase o name X.env (eval o X.env) = eval o X.env) au0_._auto_1) (hline : autoParam ((apos.endLine == cpos.line) = true) au0_._auto_1) : PE X (.Call (.Attribute o name apos) [] [] cpos) (tBM0 X.K T r to) := by
  intro pins s σ H Q I h
  refine wpAny_Call_method0_late hbase hline (thn (ho pins s σ H _ I h) fun v s1 ⟨x, H1, I1, r1, ty, q1⟩ => ?_)
  obtain ⟨h1, h2⟩ := tyV_is I1 r1 ty
  exact ⟨T, id, pa, slot, hty, h1, h2, Calls.callWith_builtin rfl (PySem.evalArgs_none (hm pins s1 σ H1 x [] v [] Q I1 r1 .nil q1))⟩
theorem pe_bm (pa : PlainAttrs T) (slot : Slot T name id) (hty : typeOf (.builtin id) = pure (.type "method_descriptor")) (hm : MtR X id r) (ho : PE X o to) (ha : PA X (e :: es) t)
    (hbase : autoParam (attributeBase o name X.env (eval o X.env) = eval o X.env) au0_._auto_1)
    (hfew : autoParam (((backTo cpos (starEach (e :: es) X.env)).all (fun x => !x.1) && (backToKw cpos (keywordEach [] X.env)).all (fun x => x.1.isSome)
      && decide ((e :: es).length + ([] : List Keyword).length + (if ([] : List Keyword).isEmpty then 0 else 1) < 30)) = true) au0_._auto_1)
    (hline : autoParam ((apos.endLine == cpos.line) = true) au0_._auto_1) (hs : autoParam (starEach (e :: es) X.env = (false, eval e X.env) :: starEach es X.env) au0_._auto_1) (hplain : autoParam ((backTo cpos (starEach es X.env)).any (·.1) = false) au0_._auto_1) :
    PE X (.Call (.Attribute o name apos) (e :: es) [] cpos) (tBM X.K T r to t) := by
  intro pins s σ H Q I h
  refine wpAny_Call_method_late hbase hfew hline rfl (thn (ho pins s σ H _ I h) fun v s1 ⟨x, H1, I1, r1, ty, q1⟩ => ?_)
  obtain ⟨h1, h2⟩ := tyV_is I1 r1 ty
  refine ⟨T, id, pa, slot, hty, h1, h2, ?_⟩
  have hA := ha cpos pins s1 σ H1 _ I1 q1
  rw [hs] at hA ⊢
  refine Calls.callWith_builtin (by show (false || (backTo cpos (starEach es X.env)).any (·.1)) = false; rw [hplain] <;> rfl) (Calls.evalArgs_plain ?_)
  exact thn hA fun us s2 ⟨vs, H2, I2, r2, q2⟩ => hm pins s2 σ H2 x vs v us Q I2 r1 r2 q2
/- xs.append(e), list.index on a module's tuple .. are MtR facts of 06m -/
end
end L2

namespace L2
open PySem PySem.Spec PyProof.Rows

noncomputable def MtM (X : Cx) (id : String) (r : V → List V → Hp → VK → Prop) : Prop :=
  ∀ (pins : List (Addr × Obj)) (s : Shared) (σ : St) (H : Hp) (x : V) (xs : List V) (v : Value) (us : List Value) (Q : VK), Inv X pins σ H s → RelV x v → Vals xs us → r x xs H Q →
    wpAny (model X.prog X.w) X.A (call (.builtin id) (v :: us)) (EP X pins σ Q) X.xe s

theorem Vals.one : ∀ {x : V} {us : List Value}, Vals [x] us → ∃ u, us = [u] ∧ RelV x u
  | _, _, .cons r .nil => ⟨_, rfl, r⟩
theorem Vals.rep {xs : List V} {us : List Value} (h : Vals xs us) : ∀ k : Nat, Vals (List.replicate k xs).flatten (List.replicate k us).flatten
  | 0 => .nil
  | k + 1 => by
    rw [List.replicate_succ, List.replicate_succ, List.flatten_cons, List.flatten_cons]
    exact Vals.append h (Vals.rep h k)
theorem foldl_rep (its : List Value) : ∀ (k : Nat) (acc : List Value),
    List.foldl (fun x1 x2 => x1 ++ x2) acc.toArray (List.replicate k its.toArray) = (acc ++ (List.replicate k its).flatten).toArray
  | 0, acc => by simp
  | k + 1, acc => by
    have e : acc.toArray ++ its.toArray = (acc ++ its).toArray := by simp
    have e2 : (acc ++ its) ++ (List.replicate k its).flatten = acc ++ (List.replicate (k + 1) its).flatten := by
      rw [List.replicate_succ, List.flatten_cons, List.append_assoc]
    rw [← e2, ← foldl_rep its k (acc ++ its), ← e, List.replicate_succ, List.foldl_cons]

section
variable {X : Cx} {pins : List (Addr × Obj)} {σ : St} {H : Hp} {s : Shared} {l b : Addr} {xs ys zs : List V}

theorem Inv.lset {its its' : List Value} {n : Nat} {f : Array Value → Array Value} {t' : Nat} (I : Inv X pins σ H s) (hH : H l = some (.lst xs))
    (e : s.heap.get? l = some { cls := .type "list", data := .seq its.toArray n }) (hf : f its.toArray = its'.toArray) (hv : Vals ys its') (hz : ys.length ≤ sizeLine) :
    Inv X pins σ (upd H l (.lst ys)) { s with heap := s.heap.update l (Obj.mapSeq f), toks := t' } := by
  have q := PySem.IsL.update e f
  rw [hf] at q
  refine I.write (x := l) (e := l) (by rw [hH]; exact trivial) (.inl rfl) (fun b' u hb hu => (Heap.get?_update_other s.heap (Obj.mapSeq f) (Ne.symm hb)).trans hu) ⟨_, q⟩ ?_
  exact ⟨hz, its', _, hv, q⟩
theorem Inv.lnew {its : List Value} {t' : Nat} (I : Inv X pins σ H s) (hv : Vals ys its) (hz : ys.length ≤ sizeLine) :
    Inv X pins σ (upd H s.heap.objs.size (.lst ys)) { s with heap := s.heap.push { cls := .type "list", data := .seq its.toArray }, toks := t' } :=
  I.laid (fun _ _ q => Heap.get?_push_of_some _ q) (Nat.le_refl _) ⟨hz, its, 0, hv, Heap.get?_push_size _ rfl⟩
theorem Inv.fresh (I : Inv X pins σ H s) : H s.heap.objs.size = none := I.hok.fresh (Nat.le_refl _)
theorem Inv.lstM (I : Inv X pins σ H s) (hH : H l = some (.lst xs)) : xs.length ≤ sizeLine ∧ ∃ (its : List Value) (n : Nat), Vals xs its ∧ xs.length = its.length ∧ s.heap.get? l = some { cls := .type "list", data := .seq its.toArray n } := by
  obtain ⟨z, its, n, r, e⟩ := I.hok l _ hH
  exact ⟨z, its, n, r, r.length, e⟩

theorem notLongL {n : Nat} (h : n ≤ sizeLine) : Builtin.List.listTooLong n = false := by
  unfold Builtin.List.listTooLong
  exact decide_eq_false (by omega)
end

section
variable {X : Cx}

noncomputable def rAppend : V → List V → Hp → VK → Prop := fun x vs H Q => ∃ l xs y, x = .ref l ∧ vs = [y] ∧ H l = some (.lst xs) ∧ xs.length < sizeLine ∧ Q .non (upd H l (.lst (xs ++ [y])))
theorem mt_append : MtM X "list.append" rAppend := by
  intro pins s σ H x vs v us Q I rx rv h
  obtain ⟨l, xs, y, rfl, rfl, hH, hz, q⟩ := h
  cases rx
  obtain ⟨u, rfl, ru⟩ := rv.one
  obtain ⟨z, its, n, r, hl, e⟩ := I.lstM hH
  refine call_meets F.slot_list_append ⟨_, e, rfl⟩ F.entry_list_append (F.args_list_append_2 _ _) (PySem.list_append l its.toArray n u (by rw [List.size_toArray]; omega)) ⟨e, ?_⟩
  refine ⟨.non, _, I.lset (its' := its ++ [u]) hH e (by simp) (r.append (.cons ru .nil)) ?_, rfl, q⟩
  rw [List.length_append, List.length_singleton]
  omega

noncomputable def rExtend : V → List V → Hp → VK → Prop := fun x vs H Q => ∃ l b xs zs, x = .ref l ∧ vs = [.ref b] ∧ H l = some (.lst xs) ∧ H b = some (.lst zs) ∧ xs.length + zs.length ≤ sizeLine ∧ Q .non (upd H l (.lst (xs ++ zs)))
theorem mt_extend : MtM X "list.extend" rExtend := by
  intro pins s σ H x vs v us Q I rx rv h
  obtain ⟨l, b, xs, zs, rfl, rfl, hH, hB, hz, q⟩ := h
  cases rx
  obtain ⟨u, rfl, ru⟩ := rv.one
  cases ru
  obtain ⟨z, its, n, r, hl, e⟩ := I.lstM hH
  obtain ⟨z2, its2, n2, r2, hl2, e2⟩ := I.lstM hB
  have hsz : its.toArray.size + its2.toArray.size ≤ sizeLine := by rw [List.size_toArray, List.size_toArray]; omega
  have hlong : ¬ (!its.toArray.isEmpty && Builtin.List.listTooLong (its.toArray.size + its2.toArray.size)) = true := by
    rw [notLongL hsz, Bool.and_false]
    exact Bool.false_ne_true
  refine call_meets F.slot_list_extend ⟨_, e, rfl⟩ F.entry_list_extend (F.args_list_extend_2 _ _)
    (AutoSeq1.list_extend_list_list_0 l its.toArray n b its2.toArray n2 hlong (by rw [List.size_toArray]; omega) (by omega)) ⟨e, e2, ?_⟩
  refine ⟨.non, _, I.lset (its' := its ++ its2) hH e (by simp) (r.append r2) ?_, rfl, q⟩
  rw [List.length_append]
  omega

noncomputable def rCat : R2 := fun x y H Q => ∃ l b xs zs, x = .ref l ∧ y = .ref b ∧ H l = some (.lst xs) ∧ H b = some (.lst zs) ∧ xs.length + zs.length ≤ sizeLine ∧ ∀ p, H p = none → Q (.ref p) (upd H p (.lst (xs ++ zs)))
theorem op_cat : OpR X (binaryOp .Add) rCat := by
  intro pins s σ H x y v u Q I rx ry h
  obtain ⟨l, b, xs, zs, rfl, rfl, hH, hB, hz, q⟩ := h
  cases rx
  cases ry
  obtain ⟨z, its, n, r, hl, e⟩ := I.lstM hH
  obtain ⟨z2, its2, n2, r2, hl2, e2⟩ := I.lstM hB
  refine PySem.P.add_list e e2 ?_ (by rw [List.size_toArray, List.size_toArray]; omega)
  have ea : its.toArray ++ its2.toArray = (its ++ its2).toArray := by simp
  rw [ea]
  exact ⟨.ref _, _, I.lnew (t' := s.toks) (r.append r2) (by rw [List.length_append]; omega), rfl, q _ I.fresh⟩
noncomputable def rRep : R2 := fun x y H Q => ∃ l k xs, x = .ref l ∧ y = .int k ∧ H l = some (.lst xs) ∧ -(2 ^ 63) ≤ k ∧ k < 2 ^ 63 ∧ xs.length * k.toNat ≤ sizeLine ∧
  ∀ p, H p = none → Q (.ref p) (upd H p (.lst (List.replicate k.toNat xs).flatten))
theorem len_rep {α : Type} (xs : List α) (k : Nat) : (List.replicate k xs).flatten.length = k * xs.length := by
  induction k with
  | zero => simp
  | succ k ih => rw [List.replicate_succ, List.flatten_cons, List.length_append, ih, Nat.succ_mul, Nat.add_comm]
theorem op_rep : OpR X (binaryOp .Mult) rRep := by
  intro pins s σ H x y v u Q I rx ry h
  obtain ⟨l, k, xs, rfl, rfl, hH, h1, h2, hz, q⟩ := h
  cases rx
  obtain ⟨t, rfl⟩ := ry
  obtain ⟨z, its, n, r, hl, e⟩ := I.lstM hH
  have hlen : its.toArray.size * k.toNat ≤ sizeLine := by rw [List.size_toArray, ← hl]; exact hz
  have hcap : ¬ its.toArray.size * k.toNat > (2 ^ 63 - 1) / 8 := by
    have : (sizeLine : Nat) ≤ (2 ^ 63 - 1) / 8 := by decide
    omega
  have hfit : ¬ (!Builtin.List.listFitsIndex k) = true := by
    rw [fitsIndex_both h1 h2]
    exact Bool.false_ne_true
  have hlong : ¬ Builtin.List.listTooLong (its.toArray.size * k.toNat) = true := by
    rw [notLongL hlen]
    exact Bool.false_ne_true
  have hnew : List.foldl (fun x1 x2 => x1 ++ x2) #[] (List.replicate (if its.toArray.isEmpty = true then 0 else k.toNat) its.toArray) = (List.replicate k.toNat its).flatten.toArray := by
    have f0 : ∀ m : Nat, List.foldl (fun x1 x2 => x1 ++ x2) #[] (List.replicate m its.toArray) = (List.replicate m its).flatten.toArray := fun m => by
      have := foldl_rep its m []
      rw [List.nil_append] at this
      exact this
    rw [f0]
    cases its with
    | nil => simp
    | cons a r' => rw [if_neg (by simp)]
  refine wpAny_binaryOp_repeat_ref (T := "list") (U := "int") (by decide) ⟨_, e, rfl⟩ (fun s' => typeIs_int s' k t) noFill_list_mul F.fills_int_mul F.slot_int_rmul repeat_list F.slot_int_index.lookup
    (call_meets F.slot_int_rmul (typeIs_int s k t) F.entry_int_rmul (F.args_int_rmul_2 _ _) (int___rmul___int_list k t l its.toArray n)
      ⟨e, rfl, ⟨_, e, rfl⟩, call_meets F.slot_list_mul ⟨_, e, rfl⟩ F.entry_list_mul (F.args_list_mul_2 _ _) (AutoListH.list___mul___list_int_3 l its.toArray n k t hfit hcap hlong) ⟨e, ?_⟩⟩)
  rw [hnew]
  exact ⟨.ref _, _, I.lnew (t' := s.toks) (r.rep k.toNat) (by rw [len_rep, Nat.mul_comm]; exact hz), rfl, q _ I.fresh⟩

end

section
variable {prog : Program} {w : World} {A : Around} {E : Value → Shared → Prop} {s : Shared}
set_option maxRecDepth 100000 in
end

section
variable {X : Cx}
end
end L2

namespace Att
open PySem PySem.W PySem.Calls PyProof.Rows

theorem ints_of_wellAll {P : Params} {h : Heap} : ∀ (ns : List Int) (vs : List Value), WellAll P h vs (ns.map WData.int) → IntsAre vs ns := by
  intro ns
  induction ns with
  | nil =>
    intro vs w
    rw [List.map_nil] at w
    cases w
    exact .nil
  | cons n ns ih =>
    intro vs w
    rw [List.map_cons] at w
    cases w with
    | cons a b =>
      cases a
      exact .cons _ _ (ih _ b)

theorem script_of {l : OpenLaw} {n : Nat} (hn : l.most = some n) {P : Params} {h : Heap} {args : List WData} {vals : List Value}
    (hpre : l.row.toRowW.claim.pre args = true) (hwl : WellAll P h vals args) :
    ∃ a vs ns, vals = [Value.ref a] ∧ args = [WData.list (ns.map WData.int)] ∧ h.get? a = some { cls := .type "list", data := .seq vs.toArray } ∧ IntsAre vs ns ∧ ns.length ≤ n := by
  have hsh : WShape.hasAll [] args [.list .int] = true := (pre_splitW hpre).1
  have hc : l.pre.holds [] { args := args } = true := (pre_splitW hpre).2
  obtain ⟨d, r, rfl, h1, h2⟩ := hasAllW_cons hsh
  obtain rfl := hasAllW_nil h2
  obtain ⟨xs, rfl, h3⟩ := hasW_list h1
  obtain ⟨ns, rfl⟩ := items_int h3
  have hlen : ns.length ≤ n := by
    unfold OpenLaw.pre at hc
    have h4 : (WTm.not (.lt (.lit (.int (n : Int))) (.len (.arg 0)))).holds [] { args := [.list (ns.map .int)] } = true := by
      have h4 := (holds_andW hc).1
      rw [hn] at h4
      exact h4
    have h5 := condW_of h4 (w_not (w_lt w_lit (w_len_list (w_arg rfl))))
    rw [List.length_map] at h5
    refine Nat.le_of_not_lt fun q => ?_
    have q' : (n : Int) < ((ns.length : Nat) : Int) := by omega
    first
      | (rw [decide_eq_true q'] at h5; exact absurd h5 (by decide))
      | (simp at h5; omega)
  cases hwl with
  | cons w1 w2 =>
    cases w2
    cases w1 with
    | list ho hall => exact ⟨_, _, ns, rfl, rfl, ho, ints_of_wellAll ns _ hall, hlen⟩

theorem post_true (l : OpenLaw) (args : List WData) : l.row.toRowW.claim.post args (.bool true) args = true :=
  postW_of (r := l.row.toRowW) (X := (true == true))
    (show WShape.has [] (.bool true) .bool = true by first | rfl | decide | simp [WShape.has, WShape.arms, WShape.armsAll])
    (show (WTm.eq .res (.lit (.bool true))).value [] { args := args, res := some (.bool true), after := args } = some (.bool (true == true)) from w_eq_bool (w_res rfl) w_lit) rfl

theorem attach_call {l : OpenLaw} {n : Nat} {q : Program} {loose : List Str} {XP : (Str → Option Value) → Heap → Prop} {YP : World → Heap → Prop} {d : DefRec}
    (hn : l.most = some n) (hdf : d.params.defaults = [])
    (call : ∀ (w : World) (s₀ s₁ : Shared) (mg mb : Str → Option Value) (fa : Addr) (o : Obj) (pm cd doc : Value) (a : Addr) (vs : List Value) (ns : List Int),
      Ground q loose [] XP w s₀ mg mb s₁.heap → YP w s₁.heap →
      s₁.heap.get? fa = some o → o.data = .func (docDef d.name d.params d.body d.scope pm cd doc) → s₁.heap.CodeRec cd d.name → mg d.name = some (.ref fa) →
      s₁.heap.get? a = some { cls := .type "list", data := .seq vs.toArray } → IntsAre vs ns → ns.length ≤ n → s₁.gens = #[] →
      codeAny (model l.prog w) callerA (.call (.ref fa) ⟨[.ref a], []⟩) (fun r s' => r = .ok (.ret (.bool true)) ∧ OldK s₁.heap s'.heap ∧ s'.os = s₁.os ∧ AllBare s'.gens) s₁) :
    WalkO q loose XP YP l.row.toRowW d [] (fun f vs => PySem.call f vs) := by
  intro w s₀ s₁ mg mb G Y fa o pm cd doc dV kV ho hd hcd hD hmg hg args vals as hpre hlay hrd hwl hlo
  obtain rfl : dV = .none := Dflts.none hD hdf
  obtain rfl : kV = .none := Dflts.noKw hD
  obtain ⟨a, vs, ns, rfl, rfl, hobj, hints, hlen⟩ := script_of hn hpre hwl
  refine enter_call (codeAny_mono (call w s₀ s₁ mg mb fa o pm cd doc a vs ns G Y ho (fd_plain hd) hcd hmg hobj hints hlen hg) fun r s' hq => ?_)
  obtain ⟨rfl, h2, h3, h4⟩ := hq
  exact ⟨.inl ⟨.bool true, .bool true, [], rfl, fun _ => rfl, .bool true, post_true l _, fun _ => ⟨List.Pairwise.nil, fun _ hm => (nomatch hm)⟩⟩, h2, h3, h4⟩

section
variable {prog : Program} {w : World} {A : Around} {E : Value → Shared → Prop} {s : Shared} {K : Frag}

end
end Att

namespace L2
open PySem PySem.Spec PyProof.Rows

theorem vals_ints : ∀ {vs : List Value} {ns : List Int}, IntsAre vs ns → Vals (ns.map V.int) vs
  | _, _, .nil => .nil
  | _, _, .cons n t h => .cons ⟨t, rfl⟩ (vals_ints h)

noncomputable def Only (H : Hp) : Prop := ∀ b, H b = none ∨ ∃ o xs, H b = some (.frz o (.lst xs))

theorem law_call {P : Program} {w : World} {K : PySem.W.Frag} {mg mb : Str → Option Value} {CX : CXT} {k : Nat} {fa a : Addr} {fd : FuncData} {x : Str} {sp : Sp} {s₁ : Shared} {vs : List Value} {ns : List Int}
    (KX : K.In s₁.heap) (hns : s₁.heap.Ns mainGlobals mg) (hb : s₁.heap.Ns builtinsNs mb) (hbb : ∀ x : Str, x ≠ "__name__" → mb x = bootBuiltins x) (hlim : s₁.heap.NoLimit) (hg : s₁.gens = #[])
    (ha : s₁.heap.get? a = some { cls := .type "list", data := .seq vs.toArray }) (hi : IntsAre vs ns) (hl : ns.length ≤ sizeLine) (hr : Room k callerA)
    (F : ∀ base : Heap, K.In base → base.Ns mainGlobals mg → FnOk P w K mg base CX k fa fd [x] sp) (hbind : ∀ (s : Shared) (u : Value), BindsTo s fd ⟨[u], []⟩ [(x, u)])
    (hsp : ∀ H : Hp, Only H → SqL K H a (ns.map V.int) → sp [.ref a] H (fun v _ => v = .bl true) fun _ _ _ => False)
    (hCX : ∀ H e s', CX [] H s₁ (fun _ _ _ => False) e s' → False) :
    codeAny (model P w) callerA (.call (.ref fa) ⟨[.ref a], []⟩) (fun r s' => r = .ok (.ret (.bool true)) ∧ OldK s₁.heap s'.heap ∧ s'.os = s₁.os ∧ AllBare s'.gens) s₁ := by
  have rv := vals_ints hi
  have lenV := hi.length
  -- from an abstract heap in which nothing but the script may be tracked
  have core : ∀ H : Hp, Only H → SqL K H a (ns.map V.int) → HOk P w H s₁.heap → (∀ b, H b ≠ none → b = a) → (H a ≠ none → K.lookup a = none) →
      codeAny (model P w) callerA (.call (.ref fa) ⟨[.ref a], []⟩) (fun r s' => r = .ok (.ret (.bool true)) ∧ OldK s₁.heap s'.heap ∧ s'.os = s₁.os ∧ AllBare s'.gens) s₁ := by
    intro H hO hS hok hA hK
    have base_of : ∀ {b : Addr} {o : Obj}, s₁.heap.get? b = some o → H b = none → (hidT s₁.heap H).get? b = some o := fun e n => hidT_get e n
    have noA : ∀ {b : Addr} {o : Obj} {es : Array DictEntry} {ep : Nat}, s₁.heap.get? b = some o → o.data = .dict es ep → H b = none := fun {b o es ep} e d => by
      cases q : H b with
      | none => rfl
      | some u =>
        have e' : b = a := hA b (by rw [q]; simp)
        subst e'
        rw [ha] at e; cases e
        have d' : Data.seq vs.toArray _ = Data.dict es ep := d
        cases d'
    have nsK : ∀ {b : Addr} {m : Str → Option Value}, s₁.heap.Ns b m → (hidT s₁.heap H).Ns b m := fun {b m} ⟨o, es, ep, e, d, r⟩ => ⟨o, es, ep, base_of e (noA e d), d, r⟩
    have hKb : K.In (hidT s₁.heap H) := fun b o e => base_of (KX b o e) (by
      cases q : H b with
      | none => rfl
      | some u =>
        have e' : b = a := hA b (by rw [q]; simp)
        subst e'
        rw [hK (by rw [q]; simp)] at e; cases e)
    have hM : Mod K mg (hidT s₁.heap H) := ⟨hKb, nsK hns, ⟨mb, nsK hb, hbb⟩, let ⟨mc, h1, h2⟩ := hlim; ⟨mc, nsK h1, h2⟩⟩
    have e0 : Env0 P w K mg (hidT s₁.heap H) callerA [] s₁ H := ⟨rfl, hM, fun b o e => of_hidT e, Nat.le_of_eq (hidT_size _ _), trivial, fun b hb => absurd (show b ∈ ([] : List Addr) from hb) (by simp), hok, .of_eq hg⟩
    refine codeAny_mono ((F _ hKb (nsK hns)).run callerA [] s₁ H ⟨[.ref a], []⟩ [.ref a] [.ref a] _ _ hr e0 (hbind s₁ (.ref a)) (.cons rfl .nil) (hsp H hO hS)) fun r s' h => ?_
    cases r with
    | error e => exact (hCX H e s' h).elim
    | ok fl =>
      cases fl with
      | next => exact False.elim h
      | brk => exact False.elim h
      | cont => exact False.elim h
      | ret u =>
        obtain ⟨v, H', os, bare, un, hok', r', q⟩ := h
        have q' : v = .bl true := q
        subst q'
        obtain rfl : u = Value.bool true := r'
        refine ⟨rfl, OldK.of_keep fun b o e => ?_, os, bare⟩
        cases q : H b with
        | none => exact un.keep b o e q (by intro z; exact absurd (show b ∈ ([] : List Addr) from z) (by simp)) (by simp)
        | some u =>
          rcases hO b with z | ⟨ob, xs, z⟩
          · rw [q] at z; cases z
          · have z2 := un.frzs b ob _ z
            obtain ⟨e1, _⟩ := hok b _ z
            obtain ⟨e2, _⟩ := hok' b _ z2
            rw [e] at e1; cases e1
            exact e2
  cases hk : K.lookup a with
  | some o =>
    -- the script is one of the module's own objects
    have e := KX a o hk
    rw [ha] at e
    cases e
    refine core (fun _ => none) (fun _ => .inl rfl) (.inr ⟨_, vs.toArray, _, hk, rfl, rfl, rfl, by rw [List.size_toArray, lenV]; exact hl, by simpa using rv⟩) (fun b u z => by have z' : (none : Option HO) = some u := z; cases z') (fun b z => absurd rfl z) fun z => absurd rfl z
  | none =>
    refine core (fun b => if b = a then some (.frz { cls := .type "list", data := .seq vs.toArray } (.lst (ns.map V.int))) else none) (fun b => ?_) (.inl (.inr ⟨{ cls := .type "list", data := .seq vs.toArray }, if_pos rfl⟩)) (fun b u z => ?_) (fun b z => ?_) fun _ => hk
    · by_cases hb : b = a
      · exact .inr ⟨_, _, if_pos hb⟩
      · exact .inl (if_neg hb)
    · by_cases hb : b = a
      · have z' := (if_pos hb).symm.trans z
        cases z'
        subst hb
        exact ⟨ha, by rw [List.length_map]; exact hl, vs, _, rv, ha⟩
      · have z' := (if_neg hb).symm.trans z
        cases z'
    · by_cases hb : b = a
      · exact hb
      · exact absurd (if_neg hb) z
end L2

namespace L2
open PySem PySem.Spec PyProof.Rows

theorem walk_of {l : PySem.W.OpenLaw} {n k : Nat} {q : Program} {loose : List Str} {XP : (Str → Option Value) → Heap → Prop} {YP : World → Heap → Prop} {d : DefRec} {K : Params → PySem.W.Frag} {CX : World → CXT} {sp : World → Sp} {x : Str}
    (hn : l.most = some n) (hn2 : n ≤ sizeLine) (hdf : d.params.defaults = []) (hr : Room k callerA)
    (hY : ∀ (w : World) (h : Heap), YP w h → (K w.params).In h)
    (F : ∀ (w : World) (mg : Str → Option Value) (fa : Addr) (h : Heap), (K w.params).In h → h.Ns mainGlobals mg → mg d.name = some (.ref fa) →
      ∃ fd : FuncData, (∀ (s : Shared) (u : Value), BindsTo s fd ⟨[u], []⟩ [(x, u)]) ∧
        ∀ base : Heap, (K w.params).In base → base.Ns mainGlobals mg → FnOk l.prog w (K w.params) mg base (CX w) k fa fd [x] (sp w))
    (hsp : ∀ (w : World) (H : Hp) (a : Addr) (ns : List Int), ns.length ≤ n → Only H → SqL (K w.params) H a (ns.map V.int) → sp w [.ref a] H (fun v _ => v = .bl true) fun _ _ _ => False)
    (hCX : ∀ (w : World) (H : Hp) (s : Shared) (e : Value) (s' : Shared), CX w [] H s (fun _ _ _ => False) e s' → False) :
    PySem.W.WalkO q loose XP YP l.row.toRowW d [] (fun f vs => PySem.call f vs) := by
  refine Att.attach_call hn hdf fun w s₀ s₁ mg mb fa o pm cd doc a vs ns G Y ho hd hcd hmg hobj hints hlen hg => ?_
  have KX := hY w _ Y
  obtain ⟨fd, hb, hF⟩ := F w mg fa _ KX G.T.g hmg
  exact law_call KX G.T.g G.T.b G.T.builtins G.T.nolimit hg hobj hints (Nat.le_trans hlen hn2) hr hF hb (fun H hO hS => hsp w H a ns hlen hO hS) fun H e s' => hCX w H s₁ e s'
end L2



namespace L2
open PySem PySem.Spec PyProof.Rows

noncomputable def inClass (s : Stmt) (j : Nat) : Stmt := match s with
  | .ClassDef _ _ _ body _ _ _ _ _ _ _ => body.getD j (.Pass ⟨0, 0, 0, 0⟩)
  | _ => .Pass ⟨0, 0, 0, 0⟩
noncomputable def defArgs (s : Stmt) : Arguments := match s with
  | .FunctionDef _ a _ _ _ _ _ _ _ _ => a
  | _ => { posonlyargs := [], args := [], vararg := none, kwonlyargs := [], kw_defaults := [], kwarg := none, defaults := [] }
noncomputable def defBody (s : Stmt) : List Stmt := match s with
  | .FunctionDef _ _ b _ _ _ _ _ _ _ => b
  | _ => []
noncomputable def defScope (s : Stmt) : Scope := match s with
  | .FunctionDef _ _ _ _ _ _ sc _ _ _ => sc
  | _ => { kind := .function, names := [], isGenerator := false, isCoroutine := false }

noncomputable abbrev CX0 : CXT := fun _ _ _ _ _ _ => False
noncomputable abbrev E0 : XK := fun _ _ _ => False
theorem pass0 {X : Cx} : Passes CX0 X E0 := fun _ _ _ _ _ _ _ h => h.elim

structure Fun (K : PySem.W.Frag) (x qual : Str) (st : Stmt) (f : Addr) (fd : FuncData) : Prop where
  ex : ∃ (oc : Value) (od : Option Addr) (kV doc pm : Value) (an : Option Addr) (cdv ct : Value) (osl : Array (Option Value)),
    fd = PySem.W.fnOf x qual (defArgs st) (defBody st) (defScope st) .none kV doc pm an cdv ct ∧ K.lookup f = some ⟨oc, od, .func fd, osl⟩ ∧ PySem.W.codeIn K cdv qual = true
  kp : PySem.W.keepIn K (.ref f) = true
section
variable {P : Program} {w : World} {K : PySem.W.Frag} {mg : Str → Option Value} {base : Heap}
theorem Fun.ok {x qual : Str} {st : Stmt} {f : Addr} {fd : FuncData} {N ps : List Str} {k : Nat} {sp : Sp} (F : Fun K x qual st f fd) (S : FnScope N ps (defScope st)) (len : ∀ vs H Q E, sp vs H Q E → vs.length = ps.length)
    (hbody : ∀ (cdv : Value) (A : Around) (outer : List Env) (s : Shared) (H : Hp) (vs : List V) (Q : VK) (E : XK), Room k (A.deeper (envOfC qual (defScope st) s.heap.objs.size f cdv)) → sp vs H Q E →
      ∃ t, PSs (cxOf CX0 P w K mg base N qual (defScope st) f cdv A outer s H E).nox (defBody st) t ∧ t { nx := fun _ H' => Q .non H', rt := Q } (start N vs) H) : FnOk P w K mg base CX0 (k + 1) f fd ps sp := by
  obtain ⟨oc, od, kV, doc, pm, an, cdv, ct, osl, rfl, lk, hcd⟩ := F.ex
  refine fn_of lk hcd S len fun A outer s H vs Q E hr hsp => ?_
  obtain ⟨t, h, q⟩ := hbody cdv A outer s H vs Q E hr hsp
  exact ⟨t, h.nox, q⟩
theorem Fun.binds {x qual : Str} {st : Stmt} {f : Addr} {fd : FuncData} {ps : List Str} (F : Fun K x qual st f fd)
    (h : ∀ (kV doc pm : Value) (an : Option Addr) (cdv ct : Value) (us : List Value), us.length = ps.length → bindArgs (PySem.W.fnOf x qual (defArgs st) (defBody st) (defScope st) .none kV doc pm an cdv ct) ⟨us, []⟩ = pure (ps.zip us)) : Binds K fd ps [] := by
  obtain ⟨oc, od, kV, doc, pm, an, cdv, ct, osl, rfl, lk, hcd⟩ := F.ex
  exact .all (h kV doc pm an cdv ct)
theorem fun_mk {x qual : Str} {st : Stmt} {f : Addr} {oc : Value} {od an : Option Addr} {osl : Array (Option Value)} {kV doc pm cdv ct : Value} (l : K.lookup f = some ⟨oc, od, .func (PySem.W.fnOf x qual (defArgs st) (defBody st) (defScope st) .none kV doc pm an cdv ct), osl⟩)
    (c : PySem.W.codeIn K cdv qual = true) (k : PySem.W.keepIn K (.ref f) = true) : Fun K x qual st f (PySem.W.fnOf x qual (defArgs st) (defBody st) (defScope st) .none kV doc pm an cdv ct) := ⟨⟨oc, od, kV, doc, pm, an, cdv, ct, osl, rfl, l, c⟩, k⟩
end
theorem small1000 {n : Nat} (h : n ≤ 1000) : n < sizeLine := Nat.lt_of_le_of_lt h (by decide)

section
variable {X : Cx}
theorem pv (i : Nat) {x : Str} {pos : Pos} (hN : autoParam (X.N[i]? = some x) au0_._auto_1) (hv : Vis X.env.scope x := by first | exact Or.inl rfl | exact Or.inr (Or.inl rfl) | exact Or.inr (Or.inr rfl)) (hd : autoParam ((x == ("__debug__" : Str)) = false) au1_._auto_1)
    (hcd : autoParam ((x == ("__classdict__" : Str)) = false) au1_._auto_1) : PE X (.Name x pos) (tVar i) := pe_var hN hv hd hcd
end

theorem iteF {A B : Prop} (h : B) : if false = true then A else B := by
  rw [if_neg Bool.false_ne_true]
  exact h
theorem iteT {A B : Prop} (h : A) : if true = true then A else B := by
  rw [if_pos rfl]
  exact h
theorem ite2 {c A B : Prop} [Decidable c] (h1 : c → A) (h2 : ¬ c → B) : if c then A else B := by
  by_cases h : c
  · rw [if_pos h]
    exact h1 h
  · rw [if_neg h]
    exact h2 h
noncomputable def Same (H H' : Hp) : Prop := ∀ b o, H b = some o → H' b = some o
theorem Same.refl (H : Hp) : Same H H := fun _ _ h => h
theorem Same.trans {H H1 H2 : Hp} (a : Same H H1) (b : Same H1 H2) : Same H H2 := fun c o h => b c o (a c o h)
theorem Same.free {H H' : Hp} (e : Same H H') {l : Addr} (h : H' l = Option.none) : H l = Option.none := by
  cases q : H l with
  | none => rfl
  | some o =>
    rw [e l o q] at h
    cases h
theorem Same.seq {K : PySem.W.Frag} {H H' : Hp} {a : Addr} {xs : List V} (e : Same H H') (h : SqL K H a xs) : SqL K H' a xs := by
  rcases h with (h | ⟨o, h⟩) | h
  · exact .inl (.inl (e _ _ h))
  · exact .inl (.inr ⟨o, e _ _ h⟩)
  · exact .inr h

end L2

set_option maxHeartbeats 4000000
namespace Mth

noncomputable def Sz (n : Nat) (x : Int) : Prop := x.natAbs < 2 ^ n
noncomputable instance {n : Nat} {x : Int} : Decidable (Sz n x) := inferInstanceAs (Decidable (x.natAbs < 2 ^ n))
theorem Sz.mono {m n : Nat} {x : Int} (h : Sz m x) (hm : m ≤ n) : Sz n x :=
  Nat.lt_of_lt_of_le h (Nat.pow_le_pow_right (by decide) hm)
theorem Sz.mul {m n : Nat} {x y : Int} (hx : Sz m x) (hy : Sz n y) : Sz (m + n) (x * y) := by
  unfold Sz at *
  rw [Int.natAbs_mul, Nat.pow_add]
  exact Nat.mul_lt_mul'' hx hy
theorem Sz.add {m : Nat} {x y : Int} (hx : Sz m x) (hy : Sz m y) : Sz (m + 1) (x + y) := by
  unfold Sz at *
  rw [Nat.pow_succ]
  have := Int.natAbs_add_le x y
  (first | lia | omega)
theorem Sz.neg {m : Nat} {x : Int} (hx : Sz m x) : Sz m (-x) := by
  unfold Sz at *
  rw [Int.natAbs_neg]; exact hx
theorem Sz.sub {m : Nat} {x y : Int} (hx : Sz m x) (hy : Sz m y) : Sz (m + 1) (x - y) := by
  rw [Int.sub_eq_add_neg]; exact hx.add hy.neg
theorem Sz.of_le {m : Nat} {x y : Int} (hx : Sz m x) (h : y.natAbs ≤ x.natAbs) : Sz m y := Nat.lt_of_le_of_lt h hx
theorem Sz.log {m : Nat} {x : Int} (hx : Sz m x) (hm : m ≤ 9000) (h0 : 0 < m) : x.natAbs.log2 < 9000 := by
  by_cases h : x.natAbs = 0
  · rw [h]; decide
  · have := (Nat.log2_lt h).mpr hx
    (first | lia | omega)
theorem Sz.of_lt {m k : Nat} {x : Int} (h : x.natAbs < k) (hk : k ≤ 2 ^ m) : Sz m x := Nat.lt_of_lt_of_le h hk

structure Low (t b t' b' : Int) : Prop where
  pos : 1 ≤ b'
  co : Int.gcd t' b' = 1
  eq : t' * b = t * b'
  tb : t'.natAbs ≤ t.natAbs
  bb : b'.natAbs ≤ b.natAbs

theorem gcd_step (x y : Nat) : Nat.gcd y (x % y) = Nat.gcd x y := by
  rw [Nat.gcd_comm y, ← Nat.gcd_rec, Nat.gcd_comm]

theorem ediv_gcd {t b : Int} (hb : b ≠ 0) : Int.gcd (t / (Int.gcd t b : Int)) (b / (Int.gcd t b : Int)) = 1 := by
  have hp : 0 < Int.gcd t b := Int.gcd_pos_of_ne_zero_right t hb
  rw [Int.gcd_ediv (Int.gcd_dvd_left ..) (Int.gcd_dvd_right ..)]
  rw [Int.natAbs_natCast]
  exact Nat.div_self hp
theorem le_of_mul {a : Int} {g : Nat} {c : Int} (hg : 0 < g) (e : a * (g : Int) = c) : a.natAbs ≤ c.natAbs := by
  subst e
  rw [Int.natAbs_mul, Int.natAbs_natCast]
  exact Nat.le_mul_of_pos_right _ hg

theorem low_mk {t b t' b' : Int} {g : Nat} (hg : 0 < g) (e1 : t' * (g : Int) = t) (e2 : b' * (g : Int) = b) (hb : 0 < b) (hc : Int.gcd t' b' = 1) : Low t b t' b' := by
  refine ⟨?_, hc, ?_, le_of_mul hg e1, le_of_mul hg e2⟩
  · have : 0 < b' := Int.pos_of_mul_pos_left (b := (g : Int)) (by rw [e2]; exact hb) (by (first | lia | omega))
    (first | lia | omega)
  · rw [← e1, ← e2, Int.mul_assoc, Int.mul_comm (g : Int) b']

theorem low_pos {t b : Int} (hb : 0 < b) : Low t b (t.fdiv (Int.gcd t b : Int)) (b.fdiv (Int.gcd t b : Int)) := by
  have hp : 0 < Int.gcd t b := Int.gcd_pos_of_ne_zero_right t (by (first | lia | omega))
  have h1 : (Int.gcd t b : Int) ∣ t := Int.gcd_dvd_left ..
  have h2 : (Int.gcd t b : Int) ∣ b := Int.gcd_dvd_right ..
  rw [Int.fdiv_eq_ediv_of_nonneg _ (by (first | lia | omega)), Int.fdiv_eq_ediv_of_nonneg _ (by (first | lia | omega))]
  exact low_mk hp (Int.ediv_mul_cancel h1) (Int.ediv_mul_cancel h2) hb (ediv_gcd (by (first | lia | omega)))

theorem fdiv_neg_neg (a : Int) (g : Nat) : a.fdiv (-(g : Int)) = (-a).fdiv (g : Int) := by
  have := Int.neg_fdiv_neg a (-(g : Int))
  rw [Int.neg_neg] at this
  exact this.symm

theorem low_neg {t b : Int} (hb : b < 0) : Low (-t) (-b) (t.fdiv (-(Int.gcd t b : Int))) (b.fdiv (-(Int.gcd t b : Int))) := by
  have e : Int.gcd t b = Int.gcd (-t) (-b) := by rw [Int.gcd_neg, Int.neg_gcd]
  rw [fdiv_neg_neg, fdiv_neg_neg, e]
  exact low_pos (by (first | lia | omega))

theorem co_dvd {b a d : Int} (hc : Int.gcd b a = 1) (h : b ∣ a * d) : b ∣ d := by
  have h' : b.natAbs ∣ a.natAbs * d.natAbs := by rw [← Int.natAbs_mul]; exact Int.natAbs_dvd_natAbs.mpr h
  have hc' : Nat.Coprime b.natAbs a.natAbs := hc
  exact Int.natAbs_dvd_natAbs.mp (hc'.dvd_of_dvd_mul_left h')
theorem low_unique {a b c d : Int} (hb : 1 ≤ b) (hd : 1 ≤ d) (h1 : Int.gcd a b = 1) (h2 : Int.gcd c d = 1) (e : a * d = c * b) : a = c ∧ b = d := by
  have k1 : b ∣ d := by
    have : b ∣ a * d := ⟨c, by rw [e, Int.mul_comm]⟩
    exact co_dvd (by rw [Int.gcd_comm]; exact h1) this
  have k2 : d ∣ b := by
    have : d ∣ c * b := ⟨a, by rw [← e, Int.mul_comm]⟩
    exact co_dvd (by rw [Int.gcd_comm]; exact h2) this
  have hbd : b = d := Int.dvd_antisymm (by (first | lia | omega)) (by (first | lia | omega)) k1 k2
  subst hbd
  exact ⟨Int.eq_of_mul_eq_mul_right (by (first | lia | omega)) e, rfl⟩

theorem Low.self {t b t' b' : Int} (h : Low t b t' b') (hb : 1 ≤ b) (hc : Int.gcd t b = 1) : t' = t ∧ b' = b :=
  let ⟨a, c⟩ := low_unique hb h.pos hc h.co h.eq.symm
  ⟨a.symm, c.symm⟩
end Mth

namespace Mth
structure Steps (H L high low x0 y0 x1 y1 : Int) : Prop where
  sg : (x0 * y1 - x1 * y0 = 1 ∧ 0 ≤ x0 ∧ y0 ≤ 0 ∧ x1 ≤ 0 ∧ 1 ≤ y1) ∨ (x0 * y1 - x1 * y0 = -1 ∧ x0 ≤ 0 ∧ 0 ≤ y0 ∧ 0 ≤ x1 ∧ y1 ≤ -1)
  eh : x0 * H + y0 * L = high
  el : x1 * H + y1 * L = low
  l0 : 0 ≤ low
  lh : low ≤ high
  st : (x0 = 1 ∧ y0 = 0 ∧ x1 = 0 ∧ y1 = 1) ∨ (y0 ≠ 0 ∧ high ≤ L ∧ 340282366920938463463374607431768211456 ≤ high ∧ x0.natAbs ≤ x1.natAbs ∧ y0.natAbs ≤ y1.natAbs)

theorem Steps.init {H L : Int} (h0 : 0 ≤ L) (h : L ≤ H) : Steps H L H L 1 0 0 1 := ⟨.inl (by (first | lia | omega)), by (first | lia | omega), by (first | lia | omega), h0, h, .inl (by (first | lia | omega))⟩

theorem div_le {x y : Int} (hx : 0 ≤ x) (hy : 0 ≤ y) : (x / y).natAbs ≤ x.natAbs := by
  have h1 := Int.ediv_le_self (a := x) y hx
  have h2 := Int.ediv_nonneg hx hy
  (first | lia | omega)

theorem mul_ge {q z : Int} (hq : 1 ≤ q) (hz : 0 ≤ z) : z ≤ q * z := by
  have := Int.mul_le_mul_of_nonneg_right hq hz
  (first | lia | omega)

theorem Steps.step {H L high low x0 y0 x1 y1 q : Int} (h : Steps H L high low x0 y0 x1 y1) (hl : 340282366920938463463374607431768211456 ≤ low) (hq : q = high / low) :
    Steps H L low (high - q * low) x1 y1 (x0 - q * x1) (y0 - q * y1) := by
  obtain ⟨sg, eh, el, l0, lh, st⟩ := h
  have q1 : 1 ≤ q := by
    rw [hq]; exact (Int.le_ediv_iff_mul_le (by (first | lia | omega))).mpr (by (first | lia | omega))
  have em : high - q * low = high % low := by
    have := Int.mul_ediv_add_emod high low
    rw [hq, Int.mul_comm]; (first | lia | omega)
  have m0 : 0 ≤ high % low := Int.emod_nonneg _ (by (first | lia | omega))
  have m1 : high % low < low := Int.emod_lt_of_pos _ (by (first | lia | omega))
  have hlL : low ≤ L := by
    rcases st with ⟨a, b, c, d⟩ | ⟨_, a, _⟩
    · subst a b c d; (first | lia | omega)
    · (first | lia | omega)
  have det : x1 * (y0 - q * y1) - (x0 - q * x1) * y1 = -(x0 * y1 - x1 * y0) := by grind
  have hel : (x0 - q * x1) * H + (y0 - q * y1) * L = high - q * low := by rw [← eh, ← el]; grind
  refine ⟨?_, el, hel, by (first | lia | omega), by (first | lia | omega), .inr ⟨?_, hlL, hl, ?_, ?_⟩⟩
  · rcases sg with ⟨d, a, b, c, e⟩ | ⟨d, a, b, c, e⟩
    · right
      have k1 := mul_ge q1 (z := -x1) (by (first | lia | omega))
      have k2 := mul_ge q1 (z := y1) (by (first | lia | omega))
      rw [Int.mul_neg] at k1
      exact ⟨by (first | lia | omega), by (first | lia | omega), by (first | lia | omega), by (first | lia | omega), by (first | lia | omega)⟩
    · left
      have k1 := mul_ge q1 (z := x1) (by (first | lia | omega))
      have k2 := mul_ge q1 (z := -y1) (by (first | lia | omega))
      rw [Int.mul_neg] at k2
      exact ⟨by (first | lia | omega), by (first | lia | omega), by (first | lia | omega), by (first | lia | omega), by (first | lia | omega)⟩
  · rcases sg with ⟨d, a, b, c, e⟩ | ⟨d, a, b, c, e⟩ <;> (first | lia | omega)
  · rcases sg with ⟨d, a, b, c, e⟩ | ⟨d, a, b, c, e⟩
    · have k1 := mul_ge q1 (z := -x1) (by (first | lia | omega))
      rw [Int.mul_neg] at k1
      (first | lia | omega)
    · have k1 := mul_ge q1 (z := x1) (by (first | lia | omega))
      (first | lia | omega)
  · rcases sg with ⟨d, a, b, c, e⟩ | ⟨d, a, b, c, e⟩
    · have k1 := mul_ge q1 (z := y1) (by (first | lia | omega))
      (first | lia | omega)
    · have k1 := mul_ge q1 (z := -y1) (by (first | lia | omega))
      rw [Int.mul_neg] at k1
      (first | lia | omega)

theorem Steps.high_le {H L high low x0 y0 x1 y1 : Int} (h : Steps H L high low x0 y0 x1 y1) (h1 : L ≤ H) : high ≤ H := by
  obtain ⟨sg, eh, el, l0, lh, st⟩ := h
  rcases st with ⟨a, b, c, d⟩ | ⟨_, a, _⟩
  · subst a b c d; (first | lia | omega)
  · (first | lia | omega)

theorem Steps.now_le {H L high low x0 y0 x1 y1 : Int} (h : Steps H L high low x0 y0 x1 y1) (hh : 1 ≤ high) : x1.natAbs ≤ L.natAbs ∧ y1.natAbs ≤ H.natAbs := by
  obtain ⟨sg, eh, el, l0, lh, st⟩ := h
  rcases sg with ⟨d, a, b, c, e⟩ | ⟨d, a, b, c, e⟩
  · have e1 : y1 * high + (-y0) * low = H := by
      have : y1 * high + (-y0) * low = (x0 * y1 - x1 * y0) * H := by rw [← eh, ← el]; grind
      rw [this, d]; (first | lia | omega)
    have e2 : (-x1) * high + x0 * low = L := by
      have : (-x1) * high + x0 * low = (x0 * y1 - x1 * y0) * L := by rw [← eh, ← el]; grind
      rw [this, d]; (first | lia | omega)
    have n1 : 0 ≤ (-y0) * low := Int.mul_nonneg (by (first | lia | omega)) l0
    have n2 : 0 ≤ x0 * low := Int.mul_nonneg (by (first | lia | omega)) l0
    have k1 : y1 ≤ y1 * high := by rw [Int.mul_comm]; exact mul_ge hh (by (first | lia | omega))
    have k2 : -x1 ≤ (-x1) * high := by rw [Int.mul_comm]; exact mul_ge hh (by (first | lia | omega))
    (first | lia | omega)
  · have e1 : (-y1) * high + y0 * low = H := by
      have : (-y1) * high + y0 * low = -(x0 * y1 - x1 * y0) * H := by rw [← eh, ← el]; grind
      rw [this, d]; (first | lia | omega)
    have e2 : x1 * high + (-x0) * low = L := by
      have : x1 * high + (-x0) * low = -(x0 * y1 - x1 * y0) * L := by rw [← eh, ← el]; grind
      rw [this, d]; (first | lia | omega)
    have n1 : 0 ≤ y0 * low := Int.mul_nonneg (by (first | lia | omega)) l0
    have n2 : 0 ≤ (-x0) * low := Int.mul_nonneg (by (first | lia | omega)) l0
    have k1 : -y1 ≤ (-y1) * high := by rw [Int.mul_comm]; exact mul_ge hh (by (first | lia | omega))
    have k2 : x1 ≤ x1 * high := by rw [Int.mul_comm]; exact mul_ge hh (by (first | lia | omega))
    (first | lia | omega)

theorem small_of_mul {y h B : Int} (hy : 0 ≤ y) (hh : 340282366920938463463374607431768211456 ≤ h) (hm : y * h ≤ B) (hB : B < 115792089237316195423570985008687907853269984665640564039457584007913129639936) : y ≤ 340282366920938463463374607431768211456 := by
  by_cases c : y ≤ 340282366920938463463374607431768211456
  · exact c
  · have := Int.mul_le_mul (a := 340282366920938463463374607431768211456) (c := y) (b := 340282366920938463463374607431768211456) (d := h) (by (first | lia | omega)) hh (by (first | lia | omega)) hy
    (first | lia | omega)

theorem Steps.small {H L high low x0 y0 x1 y1 : Int} (h : Steps H L high low x0 y0 x1 y1) (hy : y0 ≠ 0) (hL : L ≤ H) (hH : H < 115792089237316195423570985008687907853269984665640564039457584007913129639936) :
    x0.natAbs ≤ 340282366920938463463374607431768211456 ∧ y0.natAbs ≤ 340282366920938463463374607431768211456 ∧ x1.natAbs ≤ 340282366920938463463374607431768211456 ∧ y1.natAbs ≤ 340282366920938463463374607431768211456 := by
  obtain ⟨sg, eh, el, l0, lh, st⟩ := h
  rcases st with ⟨_, z, _⟩ | ⟨_, hl, hh, ax, ay⟩
  · exact absurd z hy
  rcases sg with ⟨d, a, b, c, e⟩ | ⟨d, a, b, c, e⟩
  · have e1 : y1 * high + (-y0) * low = H := by
      have : y1 * high + (-y0) * low = (x0 * y1 - x1 * y0) * H := by rw [← eh, ← el]; grind
      rw [this, d]; (first | lia | omega)
    have e2 : (-x1) * high + x0 * low = L := by
      have : (-x1) * high + x0 * low = (x0 * y1 - x1 * y0) * L := by rw [← eh, ← el]; grind
      rw [this, d]; (first | lia | omega)
    have n1 : 0 ≤ (-y0) * low := Int.mul_nonneg (by (first | lia | omega)) l0
    have n2 : 0 ≤ x0 * low := Int.mul_nonneg (by (first | lia | omega)) l0
    have k1 := small_of_mul (y := y1) (B := H) (by (first | lia | omega)) hh (by (first | lia | omega)) hH
    have k2 := small_of_mul (y := -x1) (B := H) (by (first | lia | omega)) hh (by (first | lia | omega)) hH
    (first | lia | omega)
  · have e1 : (-y1) * high + y0 * low = H := by
      have : (-y1) * high + y0 * low = -(x0 * y1 - x1 * y0) * H := by rw [← eh, ← el]; grind
      rw [this, d]; (first | lia | omega)
    have e2 : x1 * high + (-x0) * low = L := by
      have : x1 * high + (-x0) * low = -(x0 * y1 - x1 * y0) * L := by rw [← eh, ← el]; grind
      rw [this, d]; (first | lia | omega)
    have n1 : 0 ≤ y0 * low := Int.mul_nonneg (by (first | lia | omega)) l0
    have n2 : 0 ≤ (-x0) * low := Int.mul_nonneg (by (first | lia | omega)) l0
    have k1 := small_of_mul (y := -y1) (B := H) (by (first | lia | omega)) hh (by (first | lia | omega)) hH
    have k2 := small_of_mul (y := x1) (B := H) (by (first | lia | omega)) hh (by (first | lia | omega)) hH
    (first | lia | omega)

theorem mix_le {x y f r T M : Int} (hx : x.natAbs ≤ M) (hy : y.natAbs ≤ M) (f0 : 0 ≤ f) (f1 : f ≤ T) (r0 : 0 ≤ r) (r1 : r ≤ T) (hs : (0 ≤ x ∧ y ≤ 0) ∨ (x ≤ 0 ∧ 0 ≤ y)) : (x * f + y * r).natAbs ≤ M * T := by
  rcases hs with ⟨a, b⟩ | ⟨a, b⟩
  · have k1 := Int.mul_le_mul (a := x) (c := M) (b := f) (d := T) (by (first | lia | omega)) f1 f0 (by (first | lia | omega))
    have k2 := Int.mul_le_mul (a := -y) (c := M) (b := r) (d := T) (by (first | lia | omega)) r1 r0 (by (first | lia | omega))
    have k3 := Int.mul_nonneg a f0
    have k4 := Int.mul_nonneg (a := -y) (b := r) (by (first | lia | omega)) r0
    rw [Int.neg_mul] at k2 k4
    (first | lia | omega)
  · have k1 := Int.mul_le_mul (a := -x) (c := M) (b := f) (d := T) (by (first | lia | omega)) f1 f0 (by (first | lia | omega))
    have k2 := Int.mul_le_mul (a := y) (c := M) (b := r) (d := T) (by (first | lia | omega)) r1 r0 (by (first | lia | omega))
    have k3 := Int.mul_nonneg (a := -x) (b := f) (by (first | lia | omega)) f0
    have k4 := Int.mul_nonneg (a := y) (b := r) (by (first | lia | omega)) r0
    rw [Int.neg_mul] at k1 k3
    (first | lia | omega)

theorem Steps.less {H L high low x0 y0 x1 y1 T f r : Int} (h : Steps H L high low x0 y0 x1 y1) (hy : y0 ≠ 0) (hL : L ≤ H) (h1 : 57896044618658097711785492504343953926634992332820282019728792003956564819968 ≤ H)
    (hH : H < 115792089237316195423570985008687907853269984665640564039457584007913129639936) (hl : low ≤ 340282366920938463463374607431768211456) (f0 : 0 ≤ f) (f1 : f < T) (r0 : 0 ≤ r) (r1 : r < T) :
    (x0 * (H * T + f) + y0 * (L * T + r)).natAbs + (x1 * (H * T + f) + y1 * (L * T + r)).natAbs < (H * T + f).natAbs + (L * T + r).natAbs := by
  obtain ⟨sx0, sy0, sx1, sy1⟩ := h.small hy hL hH
  obtain ⟨sg, eh, el, l0, lh, st⟩ := h
  rcases st with ⟨_, z, _⟩ | ⟨_, hhL, hh, ax, ay⟩
  · exact absurd z hy
  have A : x0 * (H * T + f) + y0 * (L * T + r) = high * T + (x0 * f + y0 * r) := by rw [← eh]; grind
  have B : x1 * (H * T + f) + y1 * (L * T + r) = low * T + (x1 * f + y1 * r) := by rw [← el]; grind
  have mA := mix_le (x := x0) (y := y0) (f := f) (r := r) (T := T) (M := 340282366920938463463374607431768211456) (by (first | lia | omega)) (by (first | lia | omega)) f0 (by (first | lia | omega)) r0 (by (first | lia | omega)) (by rcases sg with ⟨d, a, b, c, e⟩ | ⟨d, a, b, c, e⟩ <;> (first | lia | omega))
  have mB := mix_le (x := x1) (y := y1) (f := f) (r := r) (T := T) (M := 340282366920938463463374607431768211456) (by (first | lia | omega)) (by (first | lia | omega)) f0 (by (first | lia | omega)) r0 (by (first | lia | omega)) (by rcases sg with ⟨d, a, b, c, e⟩ | ⟨d, a, b, c, e⟩ <;> (first | lia | omega))
  have t1 : 0 ≤ high * T := Int.mul_nonneg (by (first | lia | omega)) (by (first | lia | omega))
  have t2 : 0 ≤ low * T := Int.mul_nonneg l0 (by (first | lia | omega))
  have t3 : high * T ≤ L * T := Int.mul_le_mul_of_nonneg_right hhL (by (first | lia | omega))
  have t4 : low * T ≤ 340282366920938463463374607431768211456 * T := Int.mul_le_mul_of_nonneg_right hl (by (first | lia | omega))
  have t5 : 57896044618658097711785492504343953926634992332820282019728792003956564819968 * T ≤ H * T := Int.mul_le_mul_of_nonneg_right h1 (by (first | lia | omega))
  rw [A, B]
  (first | lia | omega)

theorem gcd_mix {a b x0 y0 x1 y1 : Int} (d : x0 * y1 - x1 * y0 = 1 ∨ x0 * y1 - x1 * y0 = -1) : Int.gcd (x0 * a + y0 * b) (x1 * a + y1 * b) = Int.gcd a b := by
  refine Nat.dvd_antisymm ?_ ?_
  · have h1 : (Int.gcd (x0 * a + y0 * b) (x1 * a + y1 * b) : Int) ∣ x0 * a + y0 * b := Int.gcd_dvd_left ..
    have h2 : (Int.gcd (x0 * a + y0 * b) (x1 * a + y1 * b) : Int) ∣ x1 * a + y1 * b := Int.gcd_dvd_right ..
    generalize (Int.gcd (x0 * a + y0 * b) (x1 * a + y1 * b)) = g at h1 h2
    obtain ⟨u, hu⟩ := h1
    obtain ⟨v, hv⟩ := h2
    refine Int.dvd_gcd ?_ ?_
    · rcases d with d | d
      · exact ⟨y1 * u - y0 * v, by
          have : (x0 * y1 - x1 * y0) * a = g * (y1 * u - y0 * v) := by grind
          rw [d] at this; (first | lia | omega)⟩
      · exact ⟨-(y1 * u - y0 * v), by
          have : -(x0 * y1 - x1 * y0) * a = g * (-(y1 * u - y0 * v)) := by grind
          rw [d] at this; (first | lia | omega)⟩
    · rcases d with d | d
      · exact ⟨x0 * v - x1 * u, by
          have : (x0 * y1 - x1 * y0) * b = g * (x0 * v - x1 * u) := by grind
          rw [d] at this; (first | lia | omega)⟩
      · exact ⟨-(x0 * v - x1 * u), by
          have : -(x0 * y1 - x1 * y0) * b = g * (-(x0 * v - x1 * u)) := by grind
          rw [d] at this; (first | lia | omega)⟩
  · have h1 : (Int.gcd a b : Int) ∣ a := Int.gcd_dvd_left ..
    have h2 : (Int.gcd a b : Int) ∣ b := Int.gcd_dvd_right ..
    exact Int.dvd_gcd (Int.dvd_add (Int.dvd_mul_of_dvd_right h1) (Int.dvd_mul_of_dvd_right h2)) (Int.dvd_add (Int.dvd_mul_of_dvd_right h1) (Int.dvd_mul_of_dvd_right h2))
theorem Steps.gcd {H L high low x0 y0 x1 y1 a b : Int} (h : Steps H L high low x0 y0 x1 y1) : Int.gcd (x0 * a + y0 * b) (x1 * a + y1 * b) = Int.gcd a b :=
  gcd_mix (h.sg.imp (·.1) (·.1))

theorem head_of {x : Int} {t : Nat} (lo : (2 : Int) ^ (255 + t) ≤ x) (hi : x < (2 : Int) ^ (256 + t)) :
    57896044618658097711785492504343953926634992332820282019728792003956564819968 ≤ x / 2 ^ t ∧ x / 2 ^ t < 115792089237316195423570985008687907853269984665640564039457584007913129639936 := by
  have tp : (0 : Int) < 2 ^ t := Int.pow_pos (by decide)
  refine ⟨(Int.le_ediv_iff_mul_le tp).mpr ?_, (Int.ediv_lt_iff_lt_mul tp).mpr ?_⟩
  · rw [Int.pow_add] at lo; exact lo
  · rw [Int.pow_add] at hi; exact hi

theorem heads_less {x y H L high low x0 y0 x1 y1 : Int} {t : Nat} (h : Steps H L high low x0 y0 x1 y1) (hy : y0 ≠ 0) (yx : y ≤ x) (lo : (2 : Int) ^ (255 + t) ≤ x) (hi : x < (2 : Int) ^ (256 + t))
    (eH : H = x / 2 ^ t) (eL : L = y / 2 ^ t) (hl : low ≤ 340282366920938463463374607431768211456) :
    (x0 * x + y0 * y).natAbs + (x1 * x + y1 * y).natAbs < x.natAbs + y.natAbs := by
  have tp : (0 : Int) < 2 ^ t := Int.pow_pos (by decide)
  have hd := head_of lo hi
  have e1 := Int.mul_ediv_add_emod x (2 ^ t)
  have e2 := Int.mul_ediv_add_emod y (2 ^ t)
  have m1 := Int.emod_nonneg x (b := 2 ^ t) (by (first | lia | omega))
  have m2 := Int.emod_nonneg y (b := 2 ^ t) (by (first | lia | omega))
  have l1 := Int.emod_lt_of_pos x tp
  have l2 := Int.emod_lt_of_pos y tp
  have hLH : L ≤ H := by rw [eH, eL]; exact Int.ediv_le_ediv tp yx
  have := h.less hy hLH (by rw [eH]; exact hd.1) (by rw [eH]; exact hd.2) hl m1 l1 m2 l2
  rw [eH, eL, Int.mul_comm (x / 2 ^ t), Int.mul_comm (y / 2 ^ t), e1, e2] at this
  exact this

theorem gcd_maxmin {a b : Int} {p q : Int} (hp : p = if b > a then b else a) (hq : q = if b < a then b else a) : Int.gcd p q = Int.gcd a b := by
  subst hp hq
  by_cases h : b > a
  · rw [if_pos h, if_neg (by (first | lia | omega))]; exact Int.gcd_comm b a
  · by_cases k : b < a
    · rw [if_neg h, if_pos k]
    · have : a = b := by (first | lia | omega)
      subst this; simp
theorem mm_nn (A B : Nat) : 0 ≤ (if (B : Int) < (A : Int) then (B : Int) else (A : Int)) := by
  split
  · exact Int.natCast_nonneg _
  · exact Int.natCast_nonneg _
theorem mm_two (A B : Nat) : ((if (B : Int) > (A : Int) then (B : Int) else (A : Int)) = (B : Int) ∧ (if (B : Int) < (A : Int) then (B : Int) else (A : Int)) = (A : Int) ∧ (A : Int) ≤ (B : Int)) ∨ ((if (B : Int) > (A : Int) then (B : Int) else (A : Int)) = (A : Int) ∧ (if (B : Int) < (A : Int) then (B : Int) else (A : Int)) = (B : Int) ∧ (B : Int) ≤ (A : Int)) := by
  rcases Int.lt_or_le (A : Int) (B : Int) with h | h
  · exact .inl ⟨if_pos h, if_neg (Int.not_lt.mpr (Int.le_of_lt h)), Int.le_of_lt h⟩
  · refine .inr ⟨if_neg (Int.not_lt.mpr h), ?_, h⟩
    split
    · rfl
    · rename_i h2
      exact Int.le_antisymm (Int.not_lt.mp h2) h
theorem mm_le (A B : Nat) : (if (B : Int) < (A : Int) then (B : Int) else (A : Int)) ≤ (if (B : Int) > (A : Int) then (B : Int) else (A : Int)) := by
  rcases mm_two A B with ⟨e1, e2, h⟩ | ⟨e1, e2, h⟩ <;> rw [e1, e2] <;> exact h
theorem mm_sum {A B : Nat} {z : Int} (h : A + B ≤ z.natAbs) : ((if (B : Int) > (A : Int) then (B : Int) else (A : Int)) + (if (B : Int) < (A : Int) then (B : Int) else (A : Int))).natAbs ≤ z.natAbs := by
  rcases mm_two A B with ⟨e1, e2, _⟩ | ⟨e1, e2, _⟩ <;> rw [e1, e2]
  · exact Nat.le_trans (Int.natAbs_add_le _ _) (by rw [Nat.add_comm]; exact h)
  · exact Nat.le_trans (Int.natAbs_add_le _ _) h
theorem mm_to {A B : Nat} {x y : Int} (ls : A + B < x.natAbs + y.natAbs) (y0 : 0 ≤ y) (yx : y ≤ x) : Int.toNat (if (B : Int) > (A : Int) then (B : Int) else (A : Int)) + Int.toNat (if (B : Int) < (A : Int) then (B : Int) else (A : Int)) < Int.toNat x + Int.toNat y := by
  have ex : x.toNat = x.natAbs := Int.toNat_of_nonneg (Int.le_trans y0 yx) |> fun e => Int.ofNat.inj (e.trans (Int.natAbs_of_nonneg (Int.le_trans y0 yx)).symm)
  have ey : y.toNat = y.natAbs := Int.toNat_of_nonneg y0 |> fun e => Int.ofNat.inj (e.trans (Int.natAbs_of_nonneg y0).symm)
  rw [ex, ey]
  rcases mm_two A B with ⟨e1, e2, _⟩ | ⟨e1, e2, _⟩ <;> rw [e1, e2, Int.toNat_natCast, Int.toNat_natCast]
  · rw [Nat.add_comm]
    exact ls
  · exact ls
theorem mm_xy {A B : Nat} {x y : Int} (ls : A + B < x.natAbs + y.natAbs) (y0 : 0 ≤ y) (yx : y ≤ x) : A + B ≤ (x + y).natAbs := by (first | lia | omega)
theorem fd_mod {x y : Int} (y0 : 0 ≤ y) : 1 * x + -(x.fdiv y) * y = x % y := by
  have em := Int.mul_ediv_add_emod x y
  rw [Int.mul_comm] at em
  rw [Int.fdiv_eq_ediv_of_nonneg _ y0, Int.neg_mul]
  (first | lia | omega)
theorem fd_less {x y : Int} (y1 : 1 ≤ y) (yx : y ≤ x) : (0 * x + 1 * y).natAbs + (1 * x + -(x.fdiv y) * y).natAbs < x.natAbs + y.natAbs := by
  have m0 := Int.emod_nonneg x (b := y) (by (first | lia | omega))
  have m1 := Int.emod_lt_of_pos x (b := y) (by (first | lia | omega))
  rw [fd_mod (by (first | lia | omega))]
  (first | lia | omega)
end Mth

namespace Mth
structure Qt (t b : Int) (q : Rat) : Prop where
  pos : 1 ≤ b
  eq : (t : Rat) = q * (b : Rat)
structure Fr (t b : Int) (q : Rat) : Prop where
  pos : 1 ≤ b
  co : Int.gcd t b = 1
  eq : (t : Rat) = q * (b : Rat)
theorem Fr.qt {t b : Int} {q : Rat} (h : Fr t b q) : Qt t b q := ⟨h.pos, h.eq⟩
theorem cast_ne {b : Int} (h : b ≠ 0) : (b : Rat) ≠ 0 := by
  intro e
  apply h
  have : ((b : Int) : Rat) = ((0 : Int) : Rat) := by rw [e]; rfl
  exact Rat.intCast_inj.mp this
theorem Fr.of_low {T B t b : Int} {q : Rat} (h : Low T B t b) (hB : B ≠ 0) (e : (T : Rat) = q * (B : Rat)) : Fr t b q := by
  refine ⟨h.pos, h.co, ?_⟩
  have k := congrArg (fun x : Int => (x : Rat)) h.eq
  simp only [Rat.intCast_mul] at k
  have hB' := cast_ne hB
  grind
theorem Fr.unique {t b t' b' : Int} {q : Rat} (h : Fr t b q) (h' : Fr t' b' q) : t = t' ∧ b = b' := by
  refine low_unique h.pos h'.pos h.co h'.co ?_
  have e : ((t * b' : Int) : Rat) = ((t' * b : Int) : Rat) := by
    have e1 := h.eq
    have e2 := h'.eq
    simp only [Rat.intCast_mul]
    grind
  exact Rat.intCast_inj.mp e
theorem Fr.worth {t b t' b' : Int} {q q' : Rat} (h : Fr t b q) (h' : Fr t' b' q') (e : t = t') (e' : b = b') : q = q' := by
  subst e e'
  have hb := cast_ne (b := b) (by have := h.pos; (first | lia | omega))
  have e1 := h.eq
  have e2 := h'.eq
  grind
theorem mul_pos1 {b d : Int} (hb : 1 ≤ b) (hd : 1 ≤ d) : 1 ≤ b * d := by
  have := Int.mul_pos (show 0 < b by (first | lia | omega)) (show 0 < d by (first | lia | omega))
  (first | lia | omega)
theorem Qt.plus {a b c d : Int} {q r : Rat} (h : Qt a b q) (k : Qt c d r) : Qt (a * d + c * b) (b * d) (q + r) := by
  refine ⟨mul_pos1 h.pos k.pos, ?_⟩
  have e1 := h.eq
  have e2 := k.eq
  simp only [Rat.intCast_mul, Rat.intCast_add]
  grind
theorem Qt.minus {a b c d : Int} {q r : Rat} (h : Qt a b q) (k : Qt c d r) : Qt (a * d - c * b) (b * d) (q - r) := by
  refine ⟨mul_pos1 h.pos k.pos, ?_⟩
  have e1 := h.eq
  have e2 := k.eq
  simp only [Rat.intCast_mul, Rat.intCast_sub]
  grind
theorem Qt.times {a b c d : Int} {q r : Rat} (h : Qt a b q) (k : Qt c d r) : Qt (a * c) (b * d) (q * r) := by
  refine ⟨mul_pos1 h.pos k.pos, ?_⟩
  have e1 := h.eq
  have e2 := k.eq
  simp only [Rat.intCast_mul]
  grind
theorem Qt.neg {a b : Int} {q : Rat} (h : Qt a b q) : Qt (-a) b (-q) := by
  refine ⟨h.pos, ?_⟩
  have e1 := h.eq
  simp only [Rat.intCast_neg]
  grind
theorem Qt.whole (m : Int) : Qt m 1 (m : Rat) := ⟨by (first | lia | omega), by simp⟩
theorem Qt.div {a b s : Int} {q : Rat} (h : Qt a b q) (hs : 0 < s) : Qt a (b * s) (q / (s : Rat)) := by
  refine ⟨mul_pos1 h.pos (by (first | lia | omega)), ?_⟩
  have e1 := h.eq
  have hs' := cast_ne (b := s) (by (first | lia | omega))
  simp only [Rat.intCast_mul]
  grind
theorem Qt.divN {a b s : Int} {q : Rat} (h : Qt a b q) (hs : s < 0) : Qt (-a) (b * -s) (q / (s : Rat)) := by
  have k := h.neg.div (s := -s) (by (first | lia | omega))
  have hs' := cast_ne (b := s) (by (first | lia | omega))
  have e : -q / ((-s : Int) : Rat) = q / (s : Rat) := by
    simp only [Rat.intCast_neg]
    grind
  rw [e] at k
  exact k
theorem over_eq {a b c d : Int} {q r : Rat} (h : Qt a b q) (k : Qt c d r) (hc : c ≠ 0) : b * c ≠ 0 ∧ ((a * d : Int) : Rat) = q / r * ((b * c : Int) : Rat) := by
  have hb := h.pos
  have hd := k.pos
  refine ⟨Int.mul_ne_zero (by (first | lia | omega)) hc, ?_⟩
  have e1 := h.eq
  have e2 := k.eq
  have hc' := cast_ne hc
  have hd' := cast_ne (b := d) (by (first | lia | omega))
  have hr : r ≠ 0 := by
    intro z
    rw [z] at e2
    apply hc'
    grind
  simp only [Rat.intCast_mul]
  grind
theorem Qt.zero_iff {a b : Int} {q : Rat} (h : Qt a b q) : a = 0 ↔ q = 0 := by
  have e := h.eq
  have hb := cast_ne (b := b) (by have := h.pos; (first | lia | omega))
  constructor
  · intro z
    subst z
    have : (0 : Rat) = q * (b : Rat) := by rw [← e]; rfl
    grind
  · intro z
    subst z
    have : ((a : Int) : Rat) = ((0 : Int) : Rat) := by rw [e]; grind
    exact Rat.intCast_inj.mp this
theorem Qt.lt_iff {a b c d : Int} {q r : Rat} (h : Qt a b q) (k : Qt c d r) : a * d < c * b ↔ q < r := by
  have e1 := h.eq
  have e2 := k.eq
  have hb : (0 : Rat) < (b : Rat) := by have := h.pos; exact Rat.intCast_pos.mpr (by (first | lia | omega))
  have hd : (0 : Rat) < (d : Rat) := by have := k.pos; exact Rat.intCast_pos.mpr (by (first | lia | omega))
  have hbd : (0 : Rat) < (b : Rat) * (d : Rat) := Rat.mul_pos hb hd
  have l : ((a * d : Int) : Rat) = q * ((b : Rat) * (d : Rat)) := by simp only [Rat.intCast_mul]; grind
  have m : ((c * b : Int) : Rat) = r * ((b : Rat) * (d : Rat)) := by simp only [Rat.intCast_mul]; grind
  rw [← Rat.intCast_lt_intCast, l, m]
  exact Rat.mul_lt_mul_right hbd
end Mth

namespace Mth
noncomputable def rabs (q : Rat) : Rat := if q < 0 then -q else q
theorem rabs_le {q w : Rat} : rabs q ≤ w ↔ -w ≤ q ∧ q ≤ w := by unfold rabs; split <;> grind
theorem rabs_neg (q : Rat) : rabs (-q) = rabs q := by unfold rabs; split <;> split <;> grind
theorem Qt.abs {a b : Int} {q : Rat} (h : Qt a b q) : Qt (a.natAbs : Int) b (rabs q) := by
  have hb : (0 : Rat) < (b : Rat) := by have := h.pos; exact Rat.intCast_pos.mpr (by (first | lia | omega))
  have z : a < 0 ↔ q < 0 := by
    have l := Qt.lt_iff h (Qt.whole 0)
    simp at l
    exact l
  unfold rabs
  by_cases h0 : a < 0
  · rw [if_pos (z.mp h0)]
    have e : (a.natAbs : Int) = -a := by (first | lia | omega)
    rw [e]
    exact h.neg
  · rw [if_neg (fun q => h0 (z.mpr q))]
    have e : (a.natAbs : Int) = a := by (first | lia | omega)
    rw [e]
    exact h
noncomputable def chord (t : Rat) (q : Rat) (u : Rat) (t' : Rat) (q' : Rat) : Rat := (q * (t' - u) + q' * (u - t)) / (t' - t)
end Mth

namespace Mth
theorem Fr.own (q : Rat) : Fr q.num (q.den : Int) q := by
  have hp := q.den_pos
  have hd : ((q.den : Int) : Rat) ≠ 0 := cast_ne (by (first | lia | omega))
  refine ⟨by (first | lia | omega), ?_, ?_⟩
  · have := q.reduced
    exact this
  · have h := Rat.num_divInt_den q
    rw [Rat.divInt_eq_div] at h
    grind
theorem Fr.num_den {t b : Int} {q : Rat} (h : Fr t b q) : t = q.num ∧ b = (q.den : Int) := h.unique (Fr.own q)
noncomputable def inRun {α : Type} (s : α → Bool) (es : List α) (i : Nat) : Bool := decide (0 < i) && ((es[i - 1]?).map s).getD false
noncomputable def parts {α : Type} (s : α → Bool) (es : List α) : Nat → List (List α)
  | 0 => []
  | i + 1 => match es[i]? with
    | none => parts s es i
    | some e => if s e = true then (if inRun s es i = true then (parts s es i).dropLast ++ [((parts s es i).getLast?.getD []) ++ [e]] else parts s es i ++ [[e]]) else parts s es i
section
variable {α : Type} {s : α → Bool} {es : List α} {i : Nat} {e : α}
theorem parts_gap (h : es[i]? = some e) (hs : s e = false) : parts s es (i + 1) = parts s es i := by
  show (match es[i]? with | none => _ | some e => _) = _
  rw [h]
  show (if s e = true then _ else _) = _
  rw [hs]
  rfl
theorem parts_new (h : es[i]? = some e) (hs : s e = true) (hi : inRun s es i = false) : parts s es (i + 1) = parts s es i ++ [[e]] := by
  show (match es[i]? with | none => _ | some e => _) = _
  rw [h]
  show (if s e = true then (if inRun s es i = true then _ else _) else _) = _
  rw [hs, hi]
  rfl
theorem parts_on {t : List (List α)} {r : List α} (h : es[i]? = some e) (hs : s e = true) (hi : inRun s es i = true) (hp : parts s es i = t ++ [r]) : parts s es (i + 1) = t ++ [r ++ [e]] := by
  show (match es[i]? with | none => _ | some e => _) = _
  rw [h]
  show (if s e = true then (if inRun s es i = true then _ else _) else _) = _
  rw [hs, hi, hp]
  simp
theorem parts_len : ∀ i : Nat, (parts s es i).length ≤ i
  | 0 => Nat.le_refl _
  | i + 1 => by
    have ih := parts_len i
    show (match es[i]? with | none => _ | some e => _ : List (List α)).length ≤ i + 1
    cases es[i]? with
    | none => exact Nat.le_succ_of_le ih
    | some e =>
      show (if s e = true then (if inRun s es i = true then _ else _) else _ : List (List α)).length ≤ i + 1
      split
      · split
        · rw [List.length_append, List.length_dropLast]
          simp
          (first | lia | omega)
        · rw [List.length_append]
          simp
          (first | lia | omega)
      · exact Nat.le_succ_of_le ih
theorem parts_ne (h : inRun s es i = true) : ∃ t r, parts s es i = t ++ [r] := by
  unfold inRun at h
  rw [Bool.and_eq_true] at h
  obtain ⟨h0, h1⟩ := h
  have h0 := of_decide_eq_true h0
  obtain ⟨j, rfl⟩ : ∃ j, i = j + 1 := ⟨i - 1, by (first | lia | omega)⟩
  rw [Nat.add_sub_cancel] at h1
  cases e : es[j]? with
  | none => rw [e] at h1; simp at h1
  | some d =>
    rw [e] at h1
    have hd : s d = true := by simpa using h1
    cases hr : inRun s es j with
    | true =>
      refine ⟨(parts s es j).dropLast, ((parts s es j).getLast?.getD []) ++ [d], ?_⟩
      show (match es[j]? with | none => _ | some e => _) = _
      rw [e]
      show (if s d = true then (if inRun s es j = true then _ else _) else _) = _
      rw [hd, hr]
      rfl
    | false => exact ⟨_, _, parts_new e hd hr⟩
theorem inRun_succ (h : es[i]? = some e) : inRun s es (i + 1) = s e := by
  unfold inRun
  rw [Nat.add_sub_cancel, h]
  simp
end
end Mth

namespace Mth
theorem rabs_mul {q s : Rat} (h : 0 < s) : rabs (q * s) = rabs q * s := by
  unfold rabs
  by_cases h0 : q < 0
  · have : q * s < 0 := by
      have := Rat.mul_lt_mul_of_pos_right h0 h
      grind
    rw [if_pos h0, if_pos this]
    grind
  · have : ¬ q * s < 0 := by
      have h1 : 0 ≤ q := by grind
      have := Rat.mul_nonneg h1 (show 0 ≤ s by grind)
      grind
    rw [if_neg h0, if_neg this]
theorem cast_pos {b : Int} (h : 0 < b) : (0 : Rat) < (b : Rat) := Rat.intCast_pos.mpr h
theorem cast_sub_ne {t t' : Int} (h : t < t') : ((t' : Rat) - (t : Rat)) ≠ 0 := by
  have : (t : Rat) < (t' : Rat) := Rat.intCast_lt_intCast.mpr h
  grind
theorem chord_mul {t q u t' q' : Rat} (h : t' - t ≠ 0) : chord t q u t' q' * (t' - t) = q * (t' - u) + q' * (u - t) := by
  unfold chord
  grind
section
variable {s s' : Nat → Rat} {i m k k' : Nat} {c : Rat}
end
end Mth

namespace Mth
section
variable {L : Nat → Nat → Prop} {N f : Nat} {t u : Nat → Int}
end
theorem rdiv_le {a b c : Rat} (h : 0 < c) : a / c ≤ b ↔ a ≤ b * c := by
  have e : a / c * c = a := by grind
  constructor
  · intro z
    have := Rat.mul_le_mul_of_nonneg_right z (show 0 ≤ c by grind)
    rw [e] at this
    exact this
  · intro z
    exact Rat.le_of_mul_le_mul_right (by rw [e]; exact z) h
theorem rle_div {a b c : Rat} (h : 0 < c) : a ≤ b / c ↔ a * c ≤ b := by
  have e : b / c * c = b := by grind
  constructor
  · intro z
    have := Rat.mul_le_mul_of_nonneg_right z (show 0 ≤ c by grind)
    rw [e] at this
    exact this
  · intro z
    exact Rat.le_of_mul_le_mul_right (by rw [e]; exact z) h
end Mth

namespace Mth
section
variable {t v : Nat → Rat} {B s : Rat} {n i j k l : Nat}
end
end Mth

namespace My
open PySem PySem.Spec PyProof.Rows L2 Mth

theorem mulOk {m n : Nat} {x y : Int} (hx : Sz m x) (hy : Sz n y) (h : autoParam (m + n ≤ 134217728) au1_._auto_1) : IntMulOk x y :=
  IntMulOk.of_le (intBits_le_iff.mpr hx) (intBits_le_iff.mpr hy) h
theorem mulR {x y : Int} (h1 : -(2 ^ 64) < y) (h2 : y < 2 ^ 64) : IntMulOk x y := CMul.ok (.inr ⟨h1, h2⟩)
theorem mulL {x y : Int} (h1 : -(2 ^ 64) < x) (h2 : x < 2 ^ 64) : IntMulOk x y := CMul.ok (.inl ⟨h1, h2⟩)
noncomputable def CDivB (_ j : Int) : Prop := j ≠ 0 ∧ j.natAbs.log2 < 9000

section
variable {X : Cx}
theorem op_mulB : OpR X (binaryOp .Mult) (rI IntMulOk fun i j => .int (i * j)) := opI fun _ _ _ _ _ _ _ hc q => mul_int q hc
theorem op_fdivB : OpR X (binaryOp .FloorDiv) (rI CDivB fun i j => .int (i.fdiv j)) := opI fun _ _ _ _ _ _ _ hc q => floordiv_int hc.1 q (.inl (PyProof.noPylong_of_log2 hc.2))
end

mutual
inductive Den (H : Hp) : V → PyData → Prop where
  | non : Den H .non .none
  | bl (b : Bool) : Den H (.bl b) (.bool b)
  | int (i : Int) : Den H (.int i) (.int i)
  | str (x : Str) : Den H (.str x) (.str x)
  | tup {a : Addr} {xs : List V} {ds : List PyData} : H a = some (.tup xs) → Dens H xs ds → Den H (.ref a) (.tuple ds)
  | lst {a : Addr} {xs : List V} {ds : List PyData} : H a = some (.lst xs) → Dens H xs ds → Den H (.ref a) (.list ds)
inductive Dens (H : Hp) : List V → List PyData → Prop where
  | nil : Dens H [] []
  | cons {x : V} {xs : List V} {d : PyData} {ds : List PyData} : Den H x d → Dens H xs ds → Dens H (x :: xs) (d :: ds)
end
section
variable {P : Program} {w : World} {H : Hp} {h : Heap}
mutual
theorem Den.reads (ok : HOk P w H h) : ∀ {v : V} {d : PyData}, Den H v d → ∀ {u : Value}, RelV v u → ∃ as, Reads h u d as
  | _, _, .non, u, r => by cases (show u = Value.none from r); exact ⟨_, Reads.none⟩
  | _, _, .bl b, u, r => by cases (show u = Value.bool b from r); exact ⟨_, Reads.bool b⟩
  | _, _, .int i, u, r => by obtain ⟨t, q⟩ := (show ∃ t, u = Value.int i t from r); cases q; exact ⟨_, Reads.int i t⟩
  | _, _, .str x, u, r => by obtain ⟨t, q⟩ := (show ∃ t, u = Value.str x t from r); cases q; exact ⟨_, Reads.str x t⟩
  | _, _, @Den.tup _ a xs ds e dd, u, r => by
    cases (show u = Value.ref a from r)
    obtain ⟨_, its, rv, o, h1, h2, n, h3⟩ := (show ObjOk P w H h a (.tup xs) from ok a _ e)
    obtain ⟨as, q⟩ := Dens.reads ok dd rv
    exact ⟨as, reads_tuple_at h1 h2 h3 (by simpa using q)⟩
  | _, _, @Den.lst _ a xs ds e dd, u, r => by
    cases (show u = Value.ref a from r)
    obtain ⟨_, its, n, rv, h1⟩ := (show ObjOk P w H h a (.lst xs) from ok a _ e)
    obtain ⟨as, q⟩ := Dens.reads ok dd rv
    exact ⟨_, reads_list_at h1 rfl rfl (by simpa using q)⟩
theorem Dens.reads (ok : HOk P w H h) : ∀ {vs : List V} {ds : List PyData}, Dens H vs ds → ∀ {us : List Value}, Vals vs us → ∃ as, ReadsAll h us ds as
  | _, _, .nil, _, .nil => ⟨_, ReadsAll.nil⟩
  | _, _, .cons d dd, _, .cons r rr => by
    obtain ⟨as, q⟩ := Den.reads ok d r
    obtain ⟨bs, p⟩ := Dens.reads ok dd rr
    exact ⟨_, ReadsAll.cons q p⟩
end
end
noncomputable def rEqD : R2 := fun x y H Q => ∃ d e, Den H x d ∧ Den H y e ∧ SeqAt.shaped d = true ∧ SeqAt.shaped e = true ∧ Q (.bl (PyData.eqv d e)) H
noncomputable def rNeD : R2 := fun x y H Q => ∃ d e, Den H x d ∧ Den H y e ∧ SeqAt.shaped d = true ∧ SeqAt.shaped e = true ∧ Q (.bl (!PyData.eqv d e)) H
section
variable {X : Cx}
theorem op_eqD (hu : X.A.units + 64 < cLine) : OpR X (compareOp .Eq) rEqD := by
  intro pins s σ H x y v u Q I rx ry h
  obtain ⟨d, e, hd, he, s1, s2, q⟩ := h
  obtain ⟨as, r1⟩ := hd.reads I.hok rx
  obtain ⟨bs, r2⟩ := he.reads I.hok ry
  exact eq_dataH r1 r2 s1 s2 hu ⟨.bl _, H, I, rfl, q⟩
theorem op_neD (hu : X.A.units + 64 < cLine) : OpR X (compareOp .NotEq) rNeD := by
  intro pins s σ H x y v u Q I rx ry h
  obtain ⟨d, e, hd, he, s1, s2, q⟩ := h
  obtain ⟨as, r1⟩ := hd.reads I.hok rx
  obtain ⟨bs, r2⟩ := he.reads I.hok ry
  exact ne_dataH r1 r2 s1 s2 hu ⟨.bl _, H, I, rfl, q⟩
noncomputable def rIsi (K : PySem.W.Frag) : List V → Hp → VK → Prop := fun xs H Q => ∃ x n t b, xs = [x, .ty n] ∧ TyOf K H x t ∧ PySem.W.kitOne K t (.type n) = some b ∧ Q (.bl b) H
theorem call_isi : CallR X (.builtin "isinstance") (rIsi X.K) := by
  intro pins s σ H xs us Q I r h
  obtain ⟨x, n, t, b, rfl, ty, e, q⟩ := h
  obtain ⟨u, u2, rfl, rx, rn⟩ := vals2 r
  cases (show u2 = Value.type n from rn)
  exact isinst_ok I rx ty e fun tk => ⟨.bl b, H, I.tok tk, rfl, q⟩
end
section
variable {K : PySem.W.Frag}
theorem kit_tt : PySem.W.kitOne K (.type "tuple") (.type "tuple") = some true := by rfl
theorem kit_ii : PySem.W.kitOne K (.type "int") (.type "int") = some true := by rfl
theorem kit_ib : PySem.W.kitOne K (.type "int") (.type "bool") = some false := by rfl
end

section
variable {es : List Expr} {env : Env} {pos : Pos}
theorem any0 : (backTo pos (starEach [] env)).any (·.1) = false := by rfl
theorem anyc {e : Expr} (h : starEach (e :: es) env = (false, eval e env) :: starEach es env) (k : (backTo pos (starEach es env)).any (·.1) = false) : (backTo pos (starEach (e :: es) env)).any (·.1) = false := by
  rw [h]
  exact k
theorem st_C {c : Const} {k : Nat} : starEach (.Constant c k pos :: es) env = (false, eval (.Constant c k pos) env) :: starEach es env := by rfl
theorem st_N {x : Str} : starEach (.Name x pos :: es) env = (false, eval (.Name x pos) env) :: starEach es env := by rfl
theorem st_B {a b : Expr} {op : Operator} : starEach (.BinOp a op b pos :: es) env = (false, eval (.BinOp a op b pos) env) :: starEach es env := by rfl
theorem st_S {a b : Expr} : starEach (.Subscript a b pos :: es) env = (false, eval (.Subscript a b pos) env) :: starEach es env := by rfl
theorem st_K {f : Expr} {as : List Expr} {kw : List Keyword} : starEach (.Call f as kw pos :: es) env = (false, eval (.Call f as kw pos) env) :: starEach es env := by rfl
theorem st_T {as : List Expr} {k : Nat} : starEach (.Tuple as k pos :: es) env = (false, eval (.Tuple as k pos) env) :: starEach es env := by rfl
theorem st_L {as : List Expr} : starEach (.List as pos :: es) env = (false, eval (.List as pos) env) :: starEach es env := by rfl
theorem st_U {a : Expr} {op : UnaryOp} : starEach (.UnaryOp op a pos :: es) env = (false, eval (.UnaryOp op a pos) env) :: starEach es env := by rfl
end

section
variable {tg : Option Expr} {l : Nat} {env : Env} {pos : Pos}
theorem sw_C {c : Const} {k : Nat} : swapsWith (.Constant c k pos) tg l env = pure false := by rfl
theorem sw_N {x : Str} : swapsWith (.Name x pos) tg l env = pure false := by rfl
theorem sw_B {a b : Expr} {op : Operator} : swapsWith (.BinOp a op b pos) tg l env = pure false := by rfl
theorem sw_S {a b : Expr} : swapsWith (.Subscript a b pos) tg l env = pure false := by rfl
theorem sw_K {f : Expr} {as : List Expr} {kw : List Keyword} : swapsWith (.Call f as kw pos) tg l env = pure false := by rfl
theorem sw_T {as : List Expr} {k : Nat} : swapsWith (.Tuple as k pos) tg l env = pure false := by rfl
theorem sw_L {as : List Expr} : swapsWith (.List as pos) tg l env = pure false := by rfl
theorem sw_U {a : Expr} {op : UnaryOp} : swapsWith (.UnaryOp op a pos) tg l env = pure false := by rfl
end
structure Dn (P : Program) (w : World) (K : PySem.W.Frag) (mg : Str → Option Value) (base : Heap) (k : Nat) (x : Str) (ps : List Str) (sp : Sp) : Prop where
  ex : ∃ (f : Addr) (fd : FuncData), FnOk P w K mg base CX0 k f fd ps sp ∧ mg x = some (.ref f) ∧ PySem.W.keepIn K (.ref f) = true ∧ Binds K fd ps []
section
variable {X : Cx} {k : Nat} {x : Str} {ps : List Str} {sp : Sp} {p pos : Pos} {e : Expr} {es : List Expr} {t : TA}
theorem pe_dn (D : Dn X.prog X.w X.K X.mg X.base k x ps sp) (hr : Room k X.A) (hg : Gl X x) (ha : PA X (e :: es) t) (hdb : autoParam ((x == ("__debug__" : Str)) = false) au1_._auto_1)
    (he : autoParam (starEach (e :: es) X.env = (false, eval e X.env) :: starEach es X.env) au0_._auto_1) (hpl : autoParam ((backTo pos (starEach es X.env)).any (·.1) = false) au0_._auto_1) : PE X (.Call (.Name x p) (e :: es) [] pos) (tCall sp [] E0 t) := by
  obtain ⟨f, fd, ok, hm, hk, hb⟩ := D.ex
  exact pe_call ok hr hg hm hk hb .nil pass0 ha hdb he hpl
end
theorem dn_mk {P : Program} {w : World} {K : PySem.W.Frag} {mg : Str → Option Value} {base : Heap} {k : Nat} {x qual : Str} {ps : List Str} {sp : Sp} {st : Stmt} {f : Addr} {fd : FuncData} (F : Fun K x qual st f fd) (ok : FnOk P w K mg base CX0 k f fd ps sp)
    (hm : mg x = some (.ref f)) (hb : Binds K fd ps []) : Dn P w K mg base k x ps sp := ⟨f, fd, ok, hm, F.kp, hb⟩

section
variable {σ : L2.St} {H : Hp} {Q : VK} {D : Ends} {te ta tb : TE} {t u : TS} {c : TT} {B : Bool → Hp → Prop} {i : Nat} {v : V} {m n : Int} {K : PySem.W.Frag}
theorem r_seq (h : t { D with nx := u D } σ H) : tSeq t u D σ H := h
theorem r_set (h : te σ H fun x H1 => D.nx (σ.set i (some x)) H1) : tAsg te (gName i) D σ H := h
theorem r_ret (h : te σ H D.rt) : tRet te D σ H := h
theorem r_drop (h : te σ H fun _ H1 => D.nx σ H1) : tDrop te D σ H := h
theorem r_if (h : c σ H fun b H1 => if b = true then t D σ H1 else u D σ H1) : tIfS c t u D σ H := h
theorem r_next (h : D.nx σ H) : tNext D σ H := h
theorem r_var (e : σ[i]? = some (some v)) (q : Q v H) : tVar i σ H Q := ⟨v, e, q⟩
theorem r_c (q : Q v H) : tC v σ H Q := q
theorem r_op {r : R2} (h : ta σ H fun x H1 => tb σ H1 fun y H2 => r x y H2 Q) : tOp r ta tb σ H Q := h
theorem r_un {r : V → Hp → VK → Prop} (h : ta σ H fun x H1 => r x H1 Q) : tUn r ta σ H Q := h
theorem r_I0 {g : Int → Int → V} (q : Q (g m n) H) : rI0 g (.int m) (.int n) H Q := ⟨m, n, rfl, rfl, q⟩
theorem r_I {C : Int → Int → Prop} {g : Int → Int → V} (hc : C m n) (q : Q (g m n) H) : rI C g (.int m) (.int n) H Q := ⟨m, n, rfl, rfl, hc, q⟩
theorem r_U {g : Int → V} (q : Q (g m) H) : rU g (.int m) H Q := ⟨m, rfl, q⟩
theorem r_test (h : te σ H fun x H' => ∃ k, x = .bl k ∧ B k H') : tTest te σ H B := h
theorem r_B (h : te σ H fun x H' => ∃ k, x = .bl k ∧ B k H') : tB te σ H B := h
theorem r_bl {b : Bool} {R : Bool → Prop} (h : R b) : ∃ k, V.bl b = .bl k ∧ R k := ⟨b, rfl, h⟩
theorem r_cb {r : List V → Hp → VK → Prop} {ts : TA} (h : ts σ H fun vs H1 => r vs H1 Q) : tCB r ts σ H Q := h
theorem r_cons {ts : TA} {R : List V → Hp → Prop} (h : te σ H fun x H1 => ts σ H1 fun xs H2 => R (x :: xs) H2) : tCons te ts σ H R := h
theorem r_nil {R : List V → Hp → Prop} (h : R [] H) : tNil σ H R := h
noncomputable def Nw (mk : List V → HO) (xs : List V) (H : Hp) (Q : VK) : Prop := xs.length ≤ sizeLine ∧ ∀ p, H p = none → Q (.ref p) (upd H p (mk xs))
theorem r_tup {ts : TA} (h : ts σ H fun xs H1 => Nw .tup xs H1 Q) : tTup ts σ H Q := h
theorem r_lst {ts : TA} (h : ts σ H fun xs H1 => Nw .lst xs H1 Q) : tLst ts σ H Q := h
theorem r_call {sp : Sp} {ts : TA} (h : ts σ H fun vs H1 => sp (vs ++ []) H1 Q E0) : tCall sp [] E0 ts σ H Q := h
theorem r_par {a b : Nat} {ts : TA} (h : ts σ H fun vs H1 => ∃ v w, vs = [v, w] ∧ D.nx ((σ.set a (some v)).set b (some w)) H1) : tPar a b ts D σ H := h
theorem r_not (h : c σ H fun b H1 => B (!b) H1) : tNot c σ H B := h
theorem r_and {d : TT} (h : c σ H fun b H1 => if b = true then d σ H1 B else B false H1) : tAnd c d σ H B := h
theorem r_or {d : TT} (h : c σ H fun b H1 => if b = true then B true H1 else d σ H1 B) : tOr c d σ H B := h
theorem r_andV (h : ta σ H fun x H1 => ∃ k, x = .bl k ∧ if k = true then tb σ H1 Q else Q (.bl false) H1) : tAndV ta tb σ H Q := h
theorem r_ife (h : c σ H fun b H1 => if b = true then ta σ H1 Q else tb σ H1 Q) : tIf c ta tb σ H Q := h
theorem r_eq (hs : scal (.int m) (.int n) = true) (q : Q (.bl (decide (m = n))) H) : rEq (.int m) (.int n) H Q := ⟨hs, by
  have e : decide (V.int m = V.int n) = decide (m = n) := by simp
  rw [e]; exact q⟩
theorem r_ne (hs : scal (.int m) (.int n) = true) (q : Q (.bl (!decide (m = n))) H) : rNe (.int m) (.int n) H Q := ⟨hs, by
  have e : decide (V.int m = V.int n) = decide (m = n) := by simp
  rw [e]; exact q⟩
theorem at0 {x : V} {xs : List V} : atI (x :: xs) 0 = some x := atI_nat (j := 0) rfl
theorem at1 {x y : V} {xs : List V} : atI (x :: y :: xs) 1 = some y := atI_nat (j := 1) rfl
theorem at2 {x y z : V} {xs : List V} : atI (x :: y :: z :: xs) 2 = some z := atI_nat (j := 2) rfl
theorem r_t0 {p : Addr} {x : V} {xs : List V} (h : H p = some (.tup (x :: xs))) (q : Q x H) : rIxT K (.ref p) (.int 0) H Q := ⟨p, _, 0, x, rfl, rfl, SqT.of h, at0, q⟩
theorem r_t1 {p : Addr} {x y : V} {xs : List V} (h : H p = some (.tup (x :: y :: xs))) (q : Q y H) : rIxT K (.ref p) (.int 1) H Q := ⟨p, _, 1, y, rfl, rfl, SqT.of h, at1, q⟩
theorem r_t2 {p : Addr} {x y z : V} {xs : List V} (h : H p = some (.tup (x :: y :: z :: xs))) (q : Q z H) : rIxT K (.ref p) (.int 2) H Q := ⟨p, _, 2, z, rfl, rfl, SqT.of h, at2, q⟩
noncomputable def rLen (K : PySem.W.Frag) : List V → Hp → VK → Prop := fun xs H Q => ∃ p ys, xs = [.ref p] ∧ (SqL K H p ys ∨ SqT K H p ys) ∧ Q (.int ys.length) H
theorem r_len {p : Addr} {ys : List V} (h : SqL K H p ys ∨ SqT K H p ys) (q : Q (.int ys.length) H) : rLen K [.ref p] H Q := ⟨p, ys, rfl, h, q⟩
noncomputable def rAbs : List V → Hp → VK → Prop := fun xs H Q => ∃ i, xs = [.int i] ∧ Q (.int (if i < 0 then -i else i)) H
theorem r_absC (q : Q (.int (if m < 0 then -m else m)) H) : rAbs [.int m] H Q := ⟨m, rfl, q⟩
section
variable {X : Cx} (K : PySem.W.Frag)
theorem ixL (h : autoParam (X.K = K) au0_._auto_1) : IxR X (rIxL K) := h ▸ ix_list
theorem ixT (h : autoParam (X.K = K) au0_._auto_1) : IxR X (rIxT K) := h ▸ ix_tup
theorem slL (h : autoParam (X.K = K) au0_._auto_1) : SlR X (rSlL K) := h ▸ sl_list
theorem lenC (h : autoParam (X.K = K) au0_._auto_1) : CallR X (.builtin "len") (rLen K) := h ▸ call_len_seq
theorem isiC (h : autoParam (X.K = K) au0_._auto_1) : CallR X (.builtin "isinstance") (rIsi K) := h ▸ call_isi
theorem pe_ty {X : Cx} {x : Str} {n : String} {pos : Pos} (hg : Gl X x) (hm : X.mg x = none) (hv : bootBuiltins x = some (.type n)) (hn : autoParam (x ≠ "__name__") au1_._auto_1) (hd : autoParam ((x == ("__debug__" : Str)) = false) au1_._auto_1) : PE X (.Name x pos) (tC (.ty n)) :=
  pe_bltn hg hm hv (show RelV (.ty n) (.type n) from rfl) hn hd
theorem absC : CallR X (.builtin "abs") rAbs := call_abs
theorem piL {tg l : Expr} {tl : TE} (hl : PE X l tl) (h : autoParam (X.K = K) au0_._auto_1) : PI X tg l (iList K tl) := h ▸ pi_list hl
theorem piT {tg l : Expr} {tl : TE} (hl : PE X l tl) (h : autoParam (X.K = K) au0_._auto_1) : PI X tg l (iTup K tl) := h ▸ pi_tup hl
theorem pgT {es : List Expr} {k : Nat} {t : TGs} {n : Nat} {pos : Pos} (hc : X.calm = true) (g : PGs X es t)
    (hn : autoParam ((assignEach es X.env).length = n) au0_._auto_1) (hst : autoParam ((assignEach es X.env).findIdx? (·.1) = none) au0_._auto_1) (h : autoParam (X.K = K) au0_._auto_1) : PG X (.Tuple es k pos) (gTup K n t) := h ▸ pg_tup hc g hn hst
theorem appC {o e : Expr} {to te : TE} {apos cpos : Pos} (ho : PE X o to) (he : PE X e te) (h : autoParam (X.K = K) au0_._auto_1)
    (hbase : autoParam (attributeBase o "append" X.env (eval o X.env) = eval o X.env) au0_._auto_1)
    (hfew : autoParam (((backTo cpos (starEach (e :: []) X.env)).all (fun x => !x.1) && (backToKw cpos (keywordEach [] X.env)).all (fun x => x.1.isSome)
      && decide ((e :: ([] : List Expr)).length + ([] : List Keyword).length + (if ([] : List Keyword).isEmpty then 0 else 1) < 30)) = true) au0_._auto_1)
    (hline : autoParam ((apos.endLine == cpos.line) = true) au0_._auto_1) (hs : autoParam (starEach (e :: []) X.env = (false, eval e X.env) :: starEach [] X.env) au0_._auto_1) (hplain : autoParam ((backTo cpos (starEach [] X.env)).any (·.1) = false) au0_._auto_1) :
    PE X (.Call (.Attribute o "append" apos) [e] [] cpos) (tBM K "list" rAppend to (tCons te tNil)) :=
  h ▸ pe_bm PySem.F.plainAttrs_list PySem.F.slot_list_append PySem.F.type_list_append mt_append ho (pa_cons he pa_nil hs) hbase hfew hline hs hplain
end
theorem same_new {p : Addr} (h : H p = none) (o : HO) : Same H (upd H p o) := fun b u q => by rw [upd_ne (ne_of_none q h)]; exact q
theorem r_new {xs : List V} {mk : List V → HO} (hl : xs.length ≤ 1000) (h : ∀ p H1, Same H H1 → H p = none → H1 p = some (mk xs) → Q (.ref p) H1) : Nw mk xs H Q :=
  ⟨Nat.le_of_lt (small1000 hl), fun p hp => h p _ (same_new hp _) hp upd_same⟩
theorem r_g {R : L2.St → Hp → Prop} (h : R (σ.set i (some v)) H) : gName i v σ H R := h
theorem r_l {p : Addr} {xs : List V} {j : Int} (h : H p = some (.lst xs)) (e : atI xs j = some v) (q : Q v H) : rIxL K (.ref p) (.int j) H Q := ⟨p, _, j, v, rfl, rfl, SqL.of h, e, q⟩
theorem r_bm {T : String} {r : V → List V → Hp → VK → Prop} {ts : TA} (h : te σ H fun x H1 => tyV K T x H1 ∧ ts σ H1 fun xs H2 => r x xs H2 Q) : tBM K T r te ts σ H Q := h
theorem r_app {p : Addr} {xs : List V} (h : H p = some (.lst xs)) (hl : xs.length < sizeLine) (q : Q .non (upd H p (.lst (xs ++ [v])))) : rAppend (.ref p) [v] H Q := ⟨p, xs, v, rfl, rfl, h, hl, q⟩
theorem same_at {H1 H2 : Hp} {p : Addr} {o : HO} (s : Same H1 H2) (n : H1 p = none) : Same H1 (upd H2 p o) := fun b x e => by rw [upd_ne (ne_of_none e n)]; exact s b x e
theorem at_ints {xs : List Int} {j : Nat} {x k : Int} (h : xs[j]? = some x) (hk : k = (j : Int)) : atI (xs.map V.int) k = some (.int x) := by
  subst hk
  exact atI_nat (by rw [List.getElem?_map, h]; rfl)
theorem r_two {R : V → V → Prop} {x y : V} (h : R x y) : ∃ v w, [x, y] = [v, w] ∧ R v w := ⟨x, y, rfl, h⟩
theorem r_for {wi : TI} {g : TG} {tb : TS} (h : wi σ H fun J H1 => ∃ W : Nat → Nat → L2.St → Hp → Prop, (∃ m, W 0 m σ H1) ∧ ∀ i m σ H, W i m σ H →
  (J.stop i H ∧ D.nx σ H) ∨ (J.go i H ∧ ∃ N : L2.St → Hp → Prop, (∀ σ' H', N σ' H' → ∃ m', m' < m ∧ W (i + 1) m' σ' H') ∧ ∀ x H', J.yld i H x H' → g x σ H' fun σ2 H2 => tb { D with nx := N, ct := N, bk := D.nx } σ2 H2)) : tFor wi g tb D σ H := h
theorem r_iL {R : It → Hp → Prop} (h : te σ H fun x H1 => ∃ a, x = .ref a ∧ (∃ xs, SqL K H1 a xs) ∧ R (Itl K a) H1) : iList K te σ H R := h
theorem r_isi {x : V} {ty : String} {tv : Value} {b : Bool} (h : TyOf K H x tv) (e : PySem.W.kitOne K tv (.type ty) = some b) (q : Q (.bl b) H) : rIsi K [x, .ty ty] H Q := ⟨x, ty, tv, b, rfl, h, e, q⟩
end
end My

namespace My
open PySem PySem.Spec PyProof.Rows L2 Mth
section
variable {prog : Program} {w : World} {A : Around} {E : Value → Shared → Prop} {s : Shared}
end
section
variable {X : Cx} {pos : Pos}
end
section
variable {σ : L2.St} {H : Hp} {Q : VK} {a b : Bool} {K : PySem.W.Frag}
end
end My

namespace My
open PySem PySem.Spec PyProof.Rows L2 Mth
noncomputable def cxComp (X : Cx) (N' : List Str) (scope : Scope) (cl : List (Str × Addr)) (C : Addr) (s0 : Shared) (H0 : Hp) (ex' : List Addr) (pn' : List (Addr × Obj)) : Cx :=
  { X with N := N', s₀ := s0, H₀ := H0, env := compEnvC scope cl C X.env, outer := X.stack, ex := ex', fn := fun _ => false, pn := pn', xe := fun _ _ => False }
noncomputable def capV (cap : List Nat) (σ : L2.St) : L2.St := cap.map fun j => (σ[j]?).getD none
theorem hok_but {P : Program} {w : World} {H : Hp} {h h' : Heap} {C : Addr} (x : HOk P w H h) (n : H C = none) (k : ∀ b o, b ≠ C → h.get? b = some o → h'.get? b = some o) : HOk P w H h' := fun b u e =>
  (x b u e).stay (fun c v hc q => k c v (by
    rcases hc with z | z
    · rw [z]; exact ne_of_none e n
    · exact ne_of_none z n) q) (fun _ q => q) fun _ _ q => q
theorem compLoop_gen {prog : Program} {w : World} {A : Around} {R : Result → Shared → Prop} {s : Shared} {elt iter tg : Expr} {ifs : List Expr} {scope : Scope} {pos : Pos} {it acc : Value} {env : Env} (I : Nat → Shared → Prop)
    (turn : ∀ n s, I n s → wpAny (model prog w) A (pyNext it) (fun r s₁ => match r with
      | none => R (.ok .next) s₁
      | some v => wpAny (model prog w) A (letOwnedTupleGo tg it v) (fun _ s₁' => wpAny (model prog w) A (assign tg env v) (fun _ s₂ =>
          wpAny (model prog w) A (forIn ifs true fun c r => if r = true then do let ok ← isTrue c env (eval c env); pure (ForInStep.yield ok) else pure (ForInStep.yield r)) (fun ok s₃ =>
            if ok = true then wpAny (model prog w) A (eval elt env) (fun x s₄ =>
              wpAny (model prog w) A (call (.builtin "list.append") [acc, x]) (fun _ s₅ => ∃ m, m < n ∧ I m s₅) (notedBy (model prog w) A env fun e s' => R (.error e) s') s₄) (notedBy (model prog w) A env fun e s' => R (.error e) s') s₃
            else ∃ m, m < n ∧ I m s₃) (notedBy (model prog w) A env fun e s' => R (.error e) s') s₂) (notedBy (model prog w) A env fun e s' => R (.error e) s') s₁') (notedBy (model prog w) A env fun e s' => R (.error e) s') s₁) (notedBy (model prog w) A env fun e s' => R (.error e) s') s)
    (n : Nat) (h : I n s) : codeAny (model prog w) A (.compLoop (.ListComp elt [⟨tg, iter, ifs, 0⟩] scope pos) 0 it acc env) R s := by
  refine codeAny_loop rfl I (fun n s hI => ?_) n h
  show wpAny _ A ((compTurn (.ListComp elt [⟨tg, iter, ifs, 0⟩] scope pos) 0 it acc env).onRaise (fun x => do noteFrame x env; theTreesLotGoes x)) _ _ s
  refine wpAny_noted ?_
  rw [compTurn_list]
  refine wpAny_bind (wpAny_standAt (wpAny_bind (wpAny_mono (turn n s hI) (fun r s₁ h₁ => ?_) fun _ _ h' => h')))
  cases r with
  | none => exact wpAny_pure h₁
  | some v =>
    refine wpAny_bind (wpAny_mono h₁ (fun _ s₂ h₂ => wpAny_bind (wpAny_mono h₂ (fun _ s₃ h₃ => wpAny_bind (wpAny_mono h₃ (fun ok s₄ h₄ => ?_) fun _ _ h' => h')) fun _ _ h' => h')) fun _ _ h' => h')
    cases ok with
    | false => exact wpAny_pure ⟨rfl, h₄⟩
    | true =>
      exact wpAny_bind (wpAny_bind (wpAny_mono h₄ (fun x s₄ h₄ => wpAny_bind (wpAny_mono h₄ (fun _ s₅ h₅ => wpAny_pure (wpAny_pure ⟨rfl, h₅⟩)) fun _ _ h' => h')) fun _ _ h' => h'))
noncomputable def PTs (X : Cx) (ifs : List Expr) (t : TT) : Prop :=
  ∀ (pins : List (Addr × Obj)) (s : Shared) (σ : L2.St) (H : Hp) (Q : Bool → Hp → Prop), Inv X pins σ H s → t σ H Q →
    wpAny (model X.prog X.w) X.A (forIn ifs true fun c r => if r = true then do let ok ← isTrue c X.env (eval c X.env); pure (ForInStep.yield ok) else pure (ForInStep.yield r)) (TP X pins σ Q) X.xe s
noncomputable def tYes : TT := fun _ H B => B true H
theorem pts_nil {X : Cx} : PTs X [] tYes := fun _ _ _ H _ I h => wpAny_tests_nil ⟨H, I, h⟩
theorem pts_one {X : Cx} {c : Expr} {t : TT} (h : PT X c t) : PTs X [c] t := fun pins s σ H Q I q => wpAny_tests_one (h pins s σ H Q I q)
noncomputable def CapOk (X : Cx) (scope : Scope) (cl : List (Str × Addr)) : List Str → List Nat → Prop
  | [], [] => True
  | y :: ys, j :: js => (X.N[j]? = some y ∧ X.env.kindOf y = some .cell ∧ (relabel scope X.env).names.lookup y = some .cell ∧ cl.lookup y = X.env.cells.lookup y) ∧ CapOk X scope cl ys js
  | _, _ => False
theorem CapOk.len {X : Cx} {scope : Scope} {cl : List (Str × Addr)} : ∀ {ys : List Str} {js : List Nat}, CapOk X scope cl ys js → ys.length = js.length
  | [], [], _ => rfl
  | _ :: _, _ :: _, h => congrArg (· + 1) h.2.len
theorem CapOk.at {X : Cx} {scope : Scope} {cl : List (Str × Addr)} : ∀ {ys : List Str} {js : List Nat}, CapOk X scope cl ys js → ∀ (i j : Nat) (y : Str), ys[i]? = some y → js[i]? = some j →
    X.N[j]? = some y ∧ X.env.kindOf y = some .cell ∧ (relabel scope X.env).names.lookup y = some .cell ∧ cl.lookup y = X.env.cells.lookup y
  | [], [], _, i, _, _, e, _ => by simp at e
  | _ :: _, _ :: _, h, 0, j, y, e1, e2 => by
    simp at e1 e2
    subst e1 e2
    exact h.1
  | _ :: _, _ :: _, h, i + 1, j, y, e1, e2 => h.2.at i j y (by simpa using e1) (by simpa using e2)
noncomputable def tComp (wi : TI) (n : Nat) (cap : List Nat) (g : TG) (tt : TT) (te : TE) : TE := fun σ H Q => wi σ H fun J H1 => ∀ D, H1 D = none → ∃ W : Nat → Nat → List V → Hp → Prop, (∃ m, W 0 m [] (upd H1 D (.lst []))) ∧
  ∀ i m xs H2, W i m xs H2 → H2 D = some (.lst xs) ∧ ((J.stop i H2 ∧ Q (.ref D) H2) ∨ (J.go i H2 ∧ xs.length < sizeLine ∧ ∀ x H3 σ0, σ0.length = n → J.yld i H2 x H3 →
    g x (σ0 ++ capV cap σ) H3 fun σ2 H4 => (∃ σ1, σ1.length = n ∧ σ2 = σ1 ++ capV cap σ) ∧ tt σ2 H4 fun b H5 => if b = true then te σ2 H5 fun y H6 => H6 D = some (.lst xs) ∧ ∃ m', m' < m ∧ W (i + 1) m' (xs ++ [y]) (upd H6 D (.lst (xs ++ [y])))
      else ∃ m', m' < m ∧ W (i + 1) m' xs H5))
section
variable {X : Cx} {elt iter tg : Expr} {ifs : List Expr} {pos : Pos} {scope : Scope} {cl : List (Str × Addr)} {wi : TI} {te : TE} {tt : TT} {g : TG} {O N' : List Str} {cap : List Nat} {n : Nat}
theorem inv_but {pins : List (Addr × Obj)} {σ : L2.St} {H : Hp} {s : Shared} {C : Addr} {h' : Heap} (I : L2.Inv X pins σ H s) (hC : FpOk X pins H C) (sb : Heap.SameBut C s.heap h') : L2.Inv X pins σ H { s with heap := h' } := by
  have k : ∀ b o, s.heap.get? b = some o → b ∉ [C] → h'.get? b = some o := fun b o e hb => (sb.2 b (fun z => hb (by rw [z]; exact List.mem_singleton.mpr rfl))).trans e
  refine I.call' (s' := { s with heap := h' }) (ch := [C]) rfl ⟨fun b o e _ _ hb => k b o e hb, fun b o e _ _ hb => ⟨o.slots, k b o e hb⟩, fun b o _ n _ => n, fun b o e hb => ⟨o, k b o e hb⟩, fun _ _ q => q, fun _ _ _ q => q, fun _ ps q => ⟨#[], by simpa using q⟩⟩
    (hok_but I.hok hC.1 fun b o hb e => (sb.2 b hb).trans e) I.bare fun b hb => ?_
  obtain rfl : b = C := List.mem_singleton.mp hb
  exact ⟨hC.2.2.2.1, hC.2.1, hC.2.2.2.2.1, hC.2.2.2.2.2⟩
theorem comp_gen {pins : List (Addr × Obj)} {s : Shared} {σ : L2.St} {H : Hp} {Q : VK} {cpos : Pos} (use : Option (Value → Sem Unit)) (Q' : Value → Shared → Prop) (hc : X.calm = true) (hi : PI X tg iter wi)
    (hg : ∀ (C : Addr) (s0 : Shared) (H0 : Hp) (ex' : List Addr) (pn' : List (Addr × Obj)), PG (cxComp X (O ++ N') scope cl C s0 H0 ex' pn') tg g)
    (htt : ∀ (C : Addr) (s0 : Shared) (H0 : Hp) (ex' : List Addr) (pn' : List (Addr × Obj)), PTs (cxComp X (O ++ N') scope cl C s0 H0 ex' pn') ifs tt)
    (helt : ∀ (C : Addr) (s0 : Shared) (H0 : Hp) (ex' : List Addr) (pn' : List (Addr × Obj)), PE (cxComp X (O ++ N') scope cl C s0 H0 ex' pn') elt te)
    (hO : O.length = n) (hcap : CapOk X scope cl N' cap)
    (hclos : closureFor scope X.env = pure cl) (hcell : ∀ y ∈ scope.names, y.2 ≠ .cell) (hkind : scope.kind = .function) (hnames : ∀ y ∈ scope.names, y.2 = .local → scope.names.lookup y.1 = some .local)
    (hclx : ∀ y c, cl.lookup y = some c → X.env.cells.lookup y = some c) (hhas : ∀ y, ((relabel scope X.env).names.lookup y = some .cell ∨ (relabel scope X.env).names.lookup y = some .free) → ∃ c, cl.lookup y = some c)
    (hs : ∀ z, foldedSetIterable iter X.env z = pure z)
    (I : L2.Inv X pins σ H s) (h : tComp wi n cap g tt te σ H Q)
    (fin : ∀ (D : Addr) (H5 : Hp) (s6 : Shared) (C : Addr), L2.Inv X pins σ H5 s6 → FpOk X pins H5 C → (∃ m, s6.heap.Ns C m) → Q (.ref D) H5 → compPost (model X.prog X.w) X.A X.xe use Q' (.ref D) C (.ok .next) s6) :
    wpAny (model X.prog X.w) X.A (comprehension (.ListComp elt [⟨tg, iter, ifs, 0⟩] scope pos) scope X.env cpos (newList []) false (eval iter X.env) use) Q' X.xe s := by
  refine wpAny_comprehension_free (use := use) rfl hs hclos hkind hnames (thn (hi pins s σ H _ I h) fun v s1 h1 => thn h1 fun itv s2 h2 => ?_)
  obtain ⟨it, fp, tn, J, H2, e, I2, T, st2, f2, q2⟩ := h2
  subst e
  refine wpAny_newObj_type (wpAny_newFunctionEnv hcell (by intro y hy; simp at hy) (fun h₁ hns₁ hsb₁ => ?_) hkind)
  dsimp only at hns₁ hsb₁ ⊢
  -- the list, then the block's own names
  have I3 : Inv X pins σ (upd H2 s2.heap.objs.size (.lst [])) { s2 with heap := s2.heap.push { cls := .type "list", data := .seq ([] : List Value).toArray }, toks := s2.toks } := I2.lnew (its := []) (t' := s2.toks) .nil (Nat.zero_le _)
  generalize hH3 : s2.heap.push { cls := .type "list", dict := none, data := .seq ([] : List Value).toArray } = h3 at hns₁ hsb₁ I3 ⊢
  have q3 := q2 s2.heap.objs.size (I2.hok.fresh (Nat.le_refl _))
  generalize hD : s2.heap.objs.size = D at I3 q3 hns₁ hsb₁ ⊢
  obtain ⟨W, ⟨m0, w0⟩, turn⟩ := q3
  have hC : ∀ b o, h3.get? b = some o → b ≠ h3.objs.size := fun b o e => Nat.ne_of_lt (Heap.lt_size e)
  have old : ∀ b o, h3.get? b = some o → h₁.get? b = some o := fun b o e => hsb₁.extBut b o (hC b o e) (Heap.get?_push_of_some _ e)
  have fpThere : ∀ b ∈ fp, ∃ o, h3.get? b = some o := fun b hb => by
    obtain ⟨o, e, _⟩ := T.obj _ _ st2 b hb
    exact ⟨o, by rw [← hH3]; exact Heap.get?_push_of_some _ e⟩
  have fp3 : ∀ b ∈ fp, upd H2 D (.lst []) b = none := fun b hb => by
    have n := (f2 b hb).1
    obtain ⟨o, e, _⟩ := T.obj _ _ st2 b hb
    rw [upd_ne (by rw [← hD]; exact Nat.ne_of_lt (Heap.lt_size e))]
    exact n
  have stk : ∀ b ∈ fp, b ∉ frs X.stack := fun b hb z => by
    rcases List.mem_cons.mp (I3.stkSub b z) with e | e
    · exact (f2 b hb).2.1 e
    · exact (f2 b hb).2.2.1 e
  have ok : (cxComp X (O ++ N') scope cl h3.objs.size { s2 with heap := h3, toks := s2.toks } (upd H2 D (.lst [])) fp (X.pn ++ pins)).Ok :=
    ⟨I.ok.mod, hkind, I.ok.glob, I.ok.blt, Nat.le_refl _, fun y z c a b => I.ok.inj y z c (hclx y c a) (hclx z c b), hhas, fun _ _ z => absurd z Bool.false_ne_true, I.ok.hd, I.ok.frames, .inl rfl,
      fun b hb => ⟨by obtain ⟨o, e⟩ := fpThere b hb; exact hC b o e, fun y c a => (f2 b hb).2.2.2.2.1 y c (hclx y c a)⟩, I3.bs, Nat.le_trans I3.ok.bsz I3.sz,
      fun b o e hb => by
        rcases (f2 b hb).2.2.2.1 with z | z
        · exact I.ok.noex b o e z
        · exact absurd (Nat.lt_of_lt_of_le (Heap.lt_size (I.ok.bs b o e).1) z) (Nat.lt_irrefl _),
      stk, I3.stack, I3.stkFree⟩
  have I4 : Inv (cxComp X (O ++ N') scope cl h3.objs.size { s2 with heap := h3, toks := s2.toks } (upd H2 D (.lst [])) fp (X.pn ++ pins)) [] (List.replicate n none ++ capV cap σ) (upd H2 D (.lst [])) { s2 with heap := h₁, toks := s2.toks + ([] : List (Str × Value)).length } := by
    refine ⟨ok, rfl, I3.bare, Un.kept old, ⟨_, hns₁, fun i y v e1 e2 e3 => ?_⟩, fun y c a => ?_, I3.hok.fresh (Nat.le_refl _), fun y c a => I3.freeC y c (hclx y c a), fun p hp => ?_, I3.hok.kept old, ?_⟩
    · by_cases hin : i < n
      · rw [List.getElem?_append_left (by rw [List.length_replicate]; exact hin), List.getElem?_replicate, if_pos hin] at e2
        cases e2
      · have e1' : N'[i - n]? = some y := by
          have z : (O ++ N')[i]? = some y := e1
          rw [List.getElem?_append_right (by (first | lia | omega)), hO] at z
          exact z
        have hi' : i - n < cap.length := by rw [← hcap.len]; exact (List.getElem?_eq_some_iff.mp e1').1
        obtain ⟨j, ej⟩ : ∃ j, cap[i - n]? = some j := ⟨_, List.getElem?_eq_getElem hi'⟩
        obtain ⟨a1, a2, a3, a4⟩ := hcap.at (i - n) j y e1' ej
        have e2' : σ[j]? = some (some v) := by
          have z : (capV cap σ)[i - n]? = some (some v) := by
            rw [List.getElem?_append_right (by rw [List.length_replicate]; (first | lia | omega)), List.length_replicate] at e2
            exact e2
          unfold capV at z
          rw [List.getElem?_map, ej] at z
          have z2 : (σ[j]?).getD none = some v := by simpa using z
          cases q : σ[j]? with
          | none => rw [q] at z2; cases z2
          | some o => rw [q] at z2; exact congrArg some z2
        obtain ⟨m, hn, hl⟩ := I3.loc
        obtain ⟨u, r, l⟩ := hl j y v a1 e2' (.inr (.inl a2))
        refine ⟨u, r, .inr ⟨.inl a3, ?_⟩⟩
        rcases l with ⟨k, _⟩ | ⟨_, c, ec, o, ho, hd⟩
        · rw [a2] at k; cases k
        · exact ⟨c, a4.trans ec, o, old c o ho, hd⟩
    · obtain ⟨v, o, ho, hd⟩ := I3.cell y c (hclx y c a)
      exact ⟨v, o, old c o ho, hd⟩
    · have hp' : p ∈ X.pn ++ pins := by simpa [cxComp] using hp
      obtain ⟨e, n, ne, nf, d⟩ := I3.pin p hp'
      refine ⟨old _ _ e, n, hC _ _ e, fun z => ?_, d⟩
      rcases List.mem_cons.mp (I3.stkSub p.1 z) with e | e
      · exact ne e
      · exact nf e
    · show (List.replicate n none ++ capV cap σ).length = (O ++ N').length
      unfold capV
      rw [List.length_append, List.length_append, List.length_replicate, List.length_map, hcap.len, hO]
  have loop : codeAny (model X.prog X.w) X.A (.compLoop (.ListComp elt [⟨tg, iter, ifs, 0⟩] scope pos) 0 (.ref it) (.ref D) (compEnvC scope cl h3.objs.size X.env))
      (compPost (model X.prog X.w) X.A X.xe use Q' (.ref D) h3.objs.size) { s2 with heap := h₁, toks := s2.toks + ([] : List (Str × Value)).length } := by
    have fpk : ∀ {H' : Hp}, (∀ b ∈ fp, H' b = none) → ∀ b ∈ fp, FpOk (cxComp X (O ++ N') scope cl h3.objs.size { s2 with heap := h3, toks := s2.toks } (upd H2 D (.lst [])) fp (X.pn ++ pins)) [] H' b := fun hn b hb => by
      obtain ⟨o, e⟩ := fpThere b hb
      refine ⟨hn b hb, hC b o e, stk b hb, .inl hb, fun y c a => (f2 b hb).2.2.2.2.1 y c (hclx y c a), fun p hp => ?_⟩
      have hp' : p ∈ X.pn ++ pins := by simpa [cxComp] using hp
      exact (f2 b hb).2.2.2.2.2 p hp'
    refine compLoop_gen (fun mm s' => ∃ (i : Nat) (xs : List V) (H' : Hp) (σ0 : L2.St), σ0.length = n ∧ Inv (cxComp X (O ++ N') scope cl h3.objs.size { s2 with heap := h3, toks := s2.toks } (upd H2 D (.lst [])) fp (X.pn ++ pins)) [] (σ0 ++ capV cap σ) H' s' ∧ tn i s'.heap ∧ (∀ b ∈ fp, H' b = none) ∧ W i mm xs H') ?_ m0
      ⟨0, [], _, List.replicate n none, List.length_replicate, I4, T.keep _ _ _ st2 fun b hb o e => old b o (by rw [← hH3]; exact Heap.get?_push_of_some _ e), fp3, w0⟩
    rintro mm s5 ⟨i, xs, H5, σ0, hσ0, I5, st5, fr5, w5⟩
    obtain ⟨e5, tw⟩ := turn i mm xs H5 w5
    rcases tw with ⟨stop, qn⟩ | ⟨go, hz, step⟩
    · refine thn (T.done (cxComp X (O ++ N') scope cl h3.objs.size { s2 with heap := h3, toks := s2.toks } (upd H2 D (.lst [])) fp (X.pn ++ pins)) rfl rfl rfl hc i [] s5 _ H5 _ I5 (fpk fr5) st5 stop) fun r s6 ⟨hr, I6⟩ => ?_
      subst hr
      obtain ⟨m, hn, _⟩ := id I6.loc
      have J6 : L2.Inv X pins σ H5 s6 := I3.call' (s' := s6) (ch := fp) I6.os I6.base I6.hok I6.bare fun b hb => by
        obtain ⟨_, g1, _, g3, g4, g5⟩ := f2 b hb
        exact ⟨g3, g1, g4, g5⟩
      exact fin D H5 s6 _ J6 (I3.fpOk (Nat.le_refl _) I6.free) ⟨m, hn⟩ qn
    · refine thn (T.item (cxComp X (O ++ N') scope cl h3.objs.size { s2 with heap := h3, toks := s2.toks } (upd H2 D (.lst [])) fp (X.pn ++ pins)) rfl rfl rfl hc i [] s5 _ H5 _ I5 (fpk fr5) st5 go) fun r s6 ⟨u, hr, h6⟩ => ?_
      subst hr
      refine thn h6 fun _ s7 ⟨xv, H7, I7, r7, y7, st7, fr7⟩ => ?_
      have I7' := I7.pinned (fpk fr7) (T.obj _ _ st7)
      refine wpAny_mono (hg _ _ _ _ _ _ s7 _ H7 xv u _ I7' r7 (step xv H7 σ0 hσ0 y7)) (fun _ s8 ⟨σ2, H8, I8, ⟨σ1, hσ1, e2⟩, q8⟩ => ?_) fun _ _ z => z.elim
      refine wpAny_mono (htt _ _ _ _ _ _ s8 σ2 H8 _ I8 q8) (fun ok s9 ⟨H9, I9, q9⟩ => ?_) fun _ _ z => z.elim
      subst e2
      have keep : ∀ {s' : Shared} {σ' : L2.St} {H' : Hp}, Inv (cxComp X (O ++ N') scope cl h3.objs.size { s2 with heap := h3, toks := s2.toks } (upd H2 D (.lst [])) fp (X.pn ++ pins)) ([] ++ pinsAt fp s7.heap) σ' H' s' → tn (i + 1) s'.heap ∧ ∀ b ∈ fp, H' b = none := fun {s' σ' H'} J =>
        ⟨T.keep _ _ _ st7 fun b hb o e => (J.pin (b, o) (List.mem_append_right _ (List.mem_append_right _ (mem_pinsAt hb e)))).1, fun b hb => by
          obtain ⟨o, e, d⟩ := T.obj _ _ st7 b hb
          exact (J.pin (b, o) (List.mem_append_right _ (List.mem_append_right _ (mem_pinsAt hb e)))).2.1⟩
      cases ok with
      | false =>
        rw [if_neg Bool.false_ne_true] at q9 ⊢
        obtain ⟨m', hm, w9⟩ := q9
        exact ⟨m', hm, i + 1, xs, H9, σ1, hσ1, I9.unpinned, (keep I9).1, (keep I9).2, w9⟩
      | true =>
        rw [if_pos rfl] at q9 ⊢
        refine wpAny_mono (helt _ _ _ _ _ _ s9 _ H9 _ I9 q9) (fun yv s10 ⟨y, H10, I10, r10, e10, m', hm, w10⟩ => ?_) fun _ _ z => z.elim
        refine wpAny_mono (mt_append (X := cxComp X (O ++ N') scope cl h3.objs.size { s2 with heap := h3, toks := s2.toks } (upd H2 D (.lst [])) fp (X.pn ++ pins)) _ s10 _ H10 (.ref D) [y] (.ref D) [yv] (fun _ H' => H' = upd H10 D (.lst (xs ++ [y]))) I10 rfl (.cons r10 .nil) ⟨D, xs, y, rfl, rfl, e10, hz, rfl⟩) (fun _ s11 ⟨_, H11, I11, _, e11⟩ => ?_) fun _ _ z => z.elim
        subst e11
        exact ⟨m', hm, i + 1, xs ++ [y], _, σ1, hσ1, I11.unpinned, (keep I11).1, (keep I11).2, w10⟩
  exact codeAny_compStart_list loop (T.self _ 0 _ _ _ (T.keep _ _ _ st2 fun b hb o e => old b o (by rw [← hH3]; exact Heap.get?_push_of_some _ e)) loop)
theorem pe_comp (hc : X.calm = true) (hi : PI X tg iter wi)
    (hg : ∀ (C : Addr) (s0 : Shared) (H0 : Hp) (ex' : List Addr) (pn' : List (Addr × Obj)), PG (cxComp X (O ++ N') scope cl C s0 H0 ex' pn') tg g)
    (htt : ∀ (C : Addr) (s0 : Shared) (H0 : Hp) (ex' : List Addr) (pn' : List (Addr × Obj)), PTs (cxComp X (O ++ N') scope cl C s0 H0 ex' pn') ifs tt)
    (helt : ∀ (C : Addr) (s0 : Shared) (H0 : Hp) (ex' : List Addr) (pn' : List (Addr × Obj)), PE (cxComp X (O ++ N') scope cl C s0 H0 ex' pn') elt te)
    (hO : O.length = n) (hcap : CapOk X scope cl N' cap)
    (hclos : closureFor scope X.env = pure cl) (hcell : ∀ y ∈ scope.names, y.2 ≠ .cell) (hkind : scope.kind = .function) (hnames : ∀ y ∈ scope.names, y.2 = .local → scope.names.lookup y.1 = some .local)
    (hclx : ∀ y c, cl.lookup y = some c → X.env.cells.lookup y = some c) (hhas : ∀ y, ((relabel scope X.env).names.lookup y = some .cell ∨ (relabel scope X.env).names.lookup y = some .free) → ∃ c, cl.lookup y = some c)
    (hs : autoParam (∀ z, foldedSetIterable iter X.env z = pure z) au2_._auto_1) :
    PE X (.ListComp elt [⟨tg, iter, ifs, 0⟩] scope pos) (tComp wi n cap g tt te) := by
  intro pins s σ H Q I h
  rw [eval_ListComp]
  exact comp_gen none (EP X pins σ Q) hc hi hg htt helt hO hcap hclos hcell hkind hnames hclx hhas hs I h fun D H5 s6 C J fC ⟨m, hn⟩ q => ⟨m, hn, fun h' sb => ⟨.ref D, H5, inv_but J fC sb, rfl, q⟩⟩
theorem ps_comp {i : Nat} {x : Str} {pos' spos : Pos} (hN : X.N.Nodup) (hix : X.N[i]? = some x) (hx : Loc X.env.scope x) (hc : X.calm = true) (hi : PI X tg iter wi)
    (hg : ∀ (C : Addr) (s0 : Shared) (H0 : Hp) (ex' : List Addr) (pn' : List (Addr × Obj)), PG (cxComp X (O ++ N') scope cl C s0 H0 ex' pn') tg g)
    (htt : ∀ (C : Addr) (s0 : Shared) (H0 : Hp) (ex' : List Addr) (pn' : List (Addr × Obj)), PTs (cxComp X (O ++ N') scope cl C s0 H0 ex' pn') ifs tt)
    (helt : ∀ (C : Addr) (s0 : Shared) (H0 : Hp) (ex' : List Addr) (pn' : List (Addr × Obj)), PE (cxComp X (O ++ N') scope cl C s0 H0 ex' pn') elt te)
    (hO : O.length = n) (hcap : CapOk X scope cl N' cap)
    (hclos : closureFor scope X.env = pure cl) (hcell : ∀ y ∈ scope.names, y.2 ≠ .cell) (hkind : scope.kind = .function) (hnames : ∀ y ∈ scope.names, y.2 = .local → scope.names.lookup y.1 = some .local)
    (hclx : ∀ y c, cl.lookup y = some c → X.env.cells.lookup y = some c) (hhas : ∀ y, ((relabel scope X.env).names.lookup y = some .cell ∨ (relabel scope X.env).names.lookup y = some .free) → ∃ c, cl.lookup y = some c)
    (hsw : swapsWith (.ListComp elt [⟨tg, iter, ifs, 0⟩] scope pos) (some (.Name x pos')) spos.line X.env = pure true)
    (hs : autoParam (∀ z, foldedSetIterable iter X.env z = pure z) au2_._auto_1) (hf : X.fn x = true ∨ X.env.scope.names.lookup x = some .local := by first | exact .inl rfl | exact .inr rfl | assumption) :
    PS X (.Assign [.Name x pos'] (.ListComp elt [⟨tg, iter, ifs, 0⟩] scope pos) spos) (tAsg (tComp wi n cap g tt te) (gName i)) := by
  intro pins s σ H D I h
  rw [exec_Assign_Name_used _ _ _ _ hsw]
  refine wpAny_bind (wpAny_standAt (wpAny_bind ?_))
  show wpAny _ _ (comprehension (.ListComp elt [⟨tg, iter, ifs, 0⟩] scope pos) scope X.env _ (newList []) false (eval iter X.env) (some (assign (.Name x pos') X.env)) >>= fun _ => pure ()) _ _ s
  refine wpAny_bind (comp_gen (some (assign (.Name x pos') X.env)) (fun _ s' => wpAny _ _ (pure ()) _ _ s') hc hi hg htt helt hO hcap hclos hcell hkind hnames hclx hhas hs I h fun Dl H5 s6 C J fC ⟨m, hn⟩ q => ?_)
  refine wpAny_assign_Name (store_ok2 J hN hix hx (show RelV (.ref Dl) (.ref Dl) from rfl) (fun s7 I7 ⟨a, sb, ha⟩ => ⟨m, hn.sameBut sb ?_, fun h' sb' => wpAny_pure (wpAny_pure ⟨_, H5, inv_but I7 fC sb', q⟩)⟩) hf)
  rcases ha with rfl | e
  · exact fC.2.1
  · exact fun z => fC.2.2.2.2.1 x a e z.symm
end
end My

namespace My
open PySem PySem.Spec PyProof.Rows L2 Mth
structure Cn (mg : Str → Option Value) (x : Str) (n : Int) : Prop where
  ex : ∃ t, mg x = some (.int n t)
section
variable {X : Cx} {x : Str} {n : Int} {pos apos cpos : Pos} {o : Expr} {to : TE}
theorem pe_cn (hg : Gl X x) (C : Cn X.mg x n) (hd : autoParam ((x == ("__debug__" : Str)) = false) au1_._auto_1) : PE X (.Name x pos) (tC (.int n)) := by
  obtain ⟨t, h⟩ := C.ex
  exact L2.pe_glob hg h ⟨t, rfl⟩ hd
noncomputable def rBits : V → Hp → VK → Prop := fun x H Q => ∃ i : Int, x = .int i ∧ Q (.int ((Builtin.Int.intBits i : Nat) : Int)) H
theorem mt_bits : MtR X "int.bit_length" (fun x vs H Q => vs = [] ∧ rBits x H Q) := by
  intro pins s σ H x vs v us Q I rx rv h
  obtain ⟨rfl, i, rfl, q⟩ := h
  cases rv
  obtain ⟨t, rfl⟩ := rx
  exact call_int_bit_length ⟨.int ((Builtin.Int.intBits i : Nat) : Int), H, I.tok _, ⟨_, rfl⟩, q⟩
theorem pe_bits (ho : PE X o to) (hbase : autoParam (attributeBase o "bit_length" X.env (eval o X.env) = eval o X.env) au0_._auto_1) (hline : autoParam ((apos.endLine == cpos.line) = true) au0_._auto_1) :
    PE X (.Call (.Attribute o "bit_length" apos) [] [] cpos) (tUn (fun x H Q => tyV X.K "int" x H ∧ ([] : List V) = [] ∧ rBits x H Q) to) :=
  pe_bm0 PySem.F.plainAttrs_int slot_int_bit_length type_int_bit_length mt_bits ho hbase hline
end
section
variable {σ : L2.St} {H : Hp} {Q : VK} {m n : Int} {K : PySem.W.Frag} {X : Cx}
theorem r_bits (q : Q (.int ((Builtin.Int.intBits m : Nat) : Int)) H) : tyV K "int" (.int m) H ∧ ([] : List V) = [] ∧ rBits (.int m) H Q := ⟨rfl, rfl, m, rfl, q⟩
noncomputable def rMax : List V → Hp → VK → Prop := fun xs H Q => ∃ i j : Int, xs = [.int i, .int j] ∧ Q (.int (if j > i then j else i)) H
noncomputable def rMin : List V → Hp → VK → Prop := fun xs H Q => ∃ i j : Int, xs = [.int i, .int j] ∧ Q (.int (if j < i then j else i)) H
theorem maxC (hc : X.calm = true) : CallR X (.builtin "max") rMax := call_max2 hc
theorem minC (hc : X.calm = true) : CallR X (.builtin "min") rMin := call_min2 hc
theorem r_max (q : Q (.int (if n > m then n else m)) H) : rMax [.int m, .int n] H Q := ⟨m, n, rfl, q⟩
theorem r_min (q : Q (.int (if n < m then n else m)) H) : rMin [.int m, .int n] H Q := ⟨m, n, rfl, q⟩
theorem catT (K : PySem.W.Frag) (h : autoParam (X.K = K) au0_._auto_1) : OpR X (binaryOp .Add) (rCatT K) := h ▸ op_catT
theorem r_catT {p r : Addr} {x y : V} {xs ys : List V} (hp : H p = some (.tup (x :: xs))) (hr : H r = some (.tup (y :: ys))) (h : Nw .tup (x :: xs ++ y :: ys) H Q) : rCatT K (.ref p) (.ref r) H Q :=
  ⟨p, r, _, _, rfl, rfl, SqT.of hp, SqT.of hr, by simp, by have := h.1; rw [List.length_append] at this; exact this, fun e => by simp at e, fun _ => h.2⟩
theorem r_cat {p r : Addr} {xs ys : List V} (hp : H p = some (.lst xs)) (hr : H r = some (.lst ys)) (h : Nw .lst (xs ++ ys) H Q) : rCat (.ref p) (.ref r) H Q := ⟨p, r, _, _, rfl, rfl, hp, hr, by have := h.1; rw [List.length_append] at this; exact this, h.2⟩
theorem r_rep {p : Addr} {xs : List V} {k : Int} (hp : H p = some (.lst xs)) (h1 : -(2 ^ 63) ≤ k) (h2 : k < 2 ^ 63) (h : Nw .lst (List.replicate k.toNat xs).flatten H Q) : rRep (.ref p) (.int k) H Q :=
  ⟨p, k, xs, rfl, rfl, hp, h1, h2, by have := h.1; rw [len_rep] at this; rw [Nat.mul_comm]; exact this, h.2⟩
theorem at3 {x y z u : V} {xs : List V} : atI (x :: y :: z :: u :: xs) 3 = some u := atI_nat (j := 3) rfl
theorem r_t3 {p : Addr} {x y z u : V} {xs : List V} (h : H p = some (.tup (x :: y :: z :: u :: xs))) (q : Q u H) : rIxT K (.ref p) (.int 3) H Q := ⟨p, _, 3, u, rfl, rfl, SqT.of h, at3, q⟩
end
section
variable {σ : L2.St} {H : Hp} {to ti : TE} {ts : TSet} {R : L2.St → Hp → Prop} {v : V}
theorem r_asg {te : TE} {g : TG} {D : Ends} (h : te σ H fun x H1 => g x σ H1 D.nx) : tAsg te g D σ H := h
end
theorem heads_big {low : Int} (c : ((Builtin.Int.intBits low : Nat) : Int) > 128) (h0 : 0 ≤ low) : 340282366920938463463374607431768211456 ≤ low := by
  have h : ¬ Builtin.Int.intBits low ≤ 128 := by (first | lia | omega)
  have k : ¬ low.natAbs < 2 ^ 128 := fun q => h (intBits_le_iff.mpr q)
  have e : (2 : Nat) ^ 128 = 340282366920938463463374607431768211456 := by decide
  (first | lia | omega)
theorem heads_small {low : Int} (c : ¬ ((Builtin.Int.intBits low : Nat) : Int) > 128) : low ≤ 340282366920938463463374607431768211456 := by
  have h : Builtin.Int.intBits low ≤ 128 := by (first | lia | omega)
  have k : low.natAbs < 2 ^ 128 := intBits_le_iff.mp h
  have e : (2 : Nat) ^ 128 = 340282366920938463463374607431768211456 := by decide
  (first | lia | omega)
theorem heads_tail {x y : Int} (c : ((Builtin.Int.intBits y : Nat) : Int) > 256) (y0 : 0 ≤ y) (yx : y ≤ x) :
    ∃ t : Nat, ((Builtin.Int.intBits x : Nat) : Int) - 256 = (t : Int) ∧ (2 : Int) ^ (255 + t) ≤ x ∧ x < (2 : Int) ^ (256 + t) := by
  have hb : Builtin.Int.intBits y ≤ Builtin.Int.intBits x := intBits_le_of_natAbs (by (first | lia | omega)) (Nat.le_refl _)
  obtain ⟨t, ht⟩ : ∃ t, Builtin.Int.intBits x = 256 + t := ⟨Builtin.Int.intBits x - 256, by (first | lia | omega)⟩
  have h1 : x.natAbs < 2 ^ (256 + t) := intBits_le_iff.mp (by (first | lia | omega))
  have h2 : ¬ x.natAbs < 2 ^ (255 + t) := fun q => by have := intBits_le_iff.mpr q; (first | lia | omega)
  refine ⟨t, by (first | lia | omega), ?_, ?_⟩
  · have : (((2 : Nat) ^ (255 + t) : Nat) : Int) = (2 : Int) ^ (255 + t) := by simp
    rw [← this]; (first | lia | omega)
  · have : (((2 : Nat) ^ (256 + t) : Nat) : Int) = (2 : Int) ^ (256 + t) := by simp
    rw [← this]; (first | lia | omega)
end My

namespace Jd
open PySem PySem.Spec PyProof.Rows L2 My
structure QE (X : Cx) (e : Expr) (t : TE) : Prop where
  h : PE X e t
structure QT (X : Cx) (e : Expr) (t : TT) : Prop where
  h : PT X e t
structure QW (X : Cx) (e : Expr) (t : TT) : Prop where
  h : PW X e t
structure QA (X : Cx) (es : List Expr) (t : TA) : Prop where
  h : PA X es t
structure QS (X : Cx) (st : Stmt) (t : TS) : Prop where
  h : PS X st t
structure QSs (X : Cx) (st : List Stmt) (t : TS) : Prop where
  h : PSs X st t
structure QG (X : Cx) (e : Expr) (t : TG) : Prop where
  h : PG X e t
structure QGs (X : Cx) (es : List Expr) (t : TGs) : Prop where
  h : PGs X es t
structure QI (X : Cx) (tg e : Expr) (t : TI) : Prop where
  h : PI X tg e t
structure QO (X : Cx) (e : Option Expr) (t : TO) : Prop where
  h : PO X e t
section
variable {X : Cx} {e a b c o : Expr} {es : List Expr} {te ta tb tc to : TE} {t : TA} {pos p p2 apos cpos : Pos} {x : Str} {tA tB' : TT} {st : Stmt} {sts rest : List Stmt} {s1 s2 : TS} {K : PySem.W.Frag}
theorem go {body : List Stmt} {D : Ends} {σ : L2.St} {H : Hp} (h : ∃ t, QSs X body t ∧ t D σ H) : ∃ t, PSs X body t ∧ t D σ H := let ⟨t, h, k⟩ := h; ⟨t, h.h, k⟩
theorem pv (i : Nat) (hN : autoParam (X.N[i]? = some x) au0_._auto_1) (hv : Vis X.env.scope x := by first | exact Or.inl rfl | exact Or.inr (Or.inl rfl) | exact Or.inr (Or.inr rfl)) (hd : autoParam ((x == ("__debug__" : Str)) = false) au1_._auto_1)
    (hcd : autoParam ((x == ("__classdict__" : Str)) = false) au1_._auto_1) : QE X (.Name x pos) (tVar i) := ⟨L2.pv i hN hv hd hcd⟩
theorem pe_int {i j} : QE X (.Constant (.int i) j pos) (tC (.int i)) := ⟨L2.pe_int⟩
theorem pe_bl {i j} : QE X (.Constant (.bool i) j pos) (tC (.bl i)) := ⟨L2.pe_bl⟩
theorem pe_non {j} : QE X (.Constant .none j pos) (tC .non) := ⟨L2.pe_non⟩
theorem pe_ty {n : String} (hg : Gl X x) (hm : X.mg x = none) (hv : bootBuiltins x = some (.type n)) (hn : autoParam (x ≠ "__name__") au1_._auto_1) (hd : autoParam ((x == ("__debug__" : Str)) = false) au1_._auto_1) : QE X (.Name x pos) (tC (.ty n)) := ⟨My.pe_ty hg hm hv hn hd⟩
theorem pe_op {op : Operator} {r : R2} (ho : OpR X (binaryOp op) r) (ha : QE X a ta) (hb : QE X b tb) : QE X (.BinOp a op b pos) (tOp r ta tb) := ⟨L2.pe_op ho ha.h hb.h⟩
theorem pe_un {op : UnaryOp} {r : V → Hp → VK → Prop} (ho : UnR X (unaryOp op) r) (ha : QE X a ta) : QE X (.UnaryOp op a pos) (tUn r ta) := ⟨L2.pe_un ho ha.h⟩
theorem pe_cmpR {op : CmpOp} {r : R2} (ho : OpR X (compareOp op) r) (ha : QE X a ta) (hb : QE X b tb) (hm : behindInMarks op b = false) : QE X (.Compare a [op] [b] pos) (tOp r ta tb) := ⟨L2.pe_cmpR ho ha.h hb.h hm⟩
theorem pt_cmpR {op : CmpOp} {r : R2} (ho : OpR X (compareOp op) r) (ha : QE X a ta) (hb : QE X b tb) (hm : behindInMarks op b = false) : QT X (.Compare a [op] [b] pos) (tTest (tOp r ta tb)) := ⟨L2.pt_cmpR ho ha.h hb.h hm⟩
theorem pt_not (ha : QT X a tA) : QT X (.UnaryOp .Not a pos) (tNot tA) := ⟨L2.pt_not ha.h⟩
theorem pt_val (h : QE X e te) (he : autoParam (∀ whole, isTrue e X.env whole = (do let v ← whole; standAt e.pos; holding [v] (truthy v))) au2_._auto_1) : QT X e (tB te) := ⟨L2.pt_val h.h he⟩
theorem PWpt (h : QW X e tA) : QT X e tA := ⟨h.h.pt⟩
theorem pw_and1 (ha : QT X a tA) : QW X (.BoolOp .And [a] pos) tA := ⟨L2.pw_and1 ha.h⟩
theorem pw_or1 (ha : QT X a tA) : QW X (.BoolOp .Or [a] pos) tA := ⟨L2.pw_or1 ha.h⟩
theorem pw_and (ha : QT X a tA) (hb : QW X (.BoolOp .And (b :: es) pos) tB') : QW X (.BoolOp .And (a :: b :: es) pos) (tAnd tA tB') := ⟨L2.pw_and ha.h hb.h⟩
theorem pw_or (ha : QT X a tA) (hb : QW X (.BoolOp .Or (b :: es) pos) tB') : QW X (.BoolOp .Or (a :: b :: es) pos) (tOr tA tB') := ⟨L2.pw_or ha.h hb.h⟩
theorem pe_one {op} (h : QE X a te) : QE X (.BoolOp op [a] pos) te := ⟨L2.pe_one h.h⟩
theorem pe_and (ha : QE X a ta) (hb : QE X (.BoolOp .And (b :: es) pos) tb) : QE X (.BoolOp .And (a :: b :: es) pos) (tAndV ta tb) := ⟨L2.pe_and ha.h hb.h⟩
theorem pe_ifExp (hc : QT X c tA) (ha : QE X a ta) (hb : QE X b tb) : QE X (.IfExp c a b pos) (tIf tA ta tb) := ⟨L2.pe_ifExp hc.h ha.h hb.h⟩
theorem pa_nil : QA X [] tNil := ⟨L2.pa_nil⟩
theorem pa_cons (ha : QE X e te) (hr : QA X es t) (hs : autoParam (starEach (e :: es) X.env = (false, eval e X.env) :: starEach es X.env) au0_._auto_1) : QA X (e :: es) (tCons te t) := ⟨L2.pa_cons ha.h hr.h hs⟩
theorem pe_tup {k : Nat} (h : QA X es t) : QE X (.Tuple es k pos) (tTup t) := ⟨L2.pe_tup h.h⟩
theorem pe_lst (h : QA X es t) : QE X (.List es pos) (tLst t) := ⟨L2.pe_lst h.h⟩
theorem po_none : QO X none tNoPart := ⟨L2.po_none⟩
theorem po_some (h : QE X e te) : QO X (some e) (tPart te) := ⟨L2.po_some h.h⟩
theorem pe_slice {r : V → Option Int → Option Int → Hp → VK → Prop} {lo hi : Option Expr} {tl th : TO} (hr : SlR X r) (he : QE X e te) (hl : QO X lo tl) (hu : QO X hi th) : QE X (.Subscript e (.Slice lo hi none p2) pos) (tSl r te tl th) := ⟨L2.pe_slice hr he.h hl.h hu.h⟩
theorem pe_ix {r : R2} (hr : IxR X r) (ha : QE X a ta) (hb : QE X b tb) (hs : PlainIx b) : QE X (.Subscript a b pos) (tOp r ta tb) := ⟨L2.pe_ix hr ha.h hb.h hs⟩
theorem pe_callB {id : String} {r : List V → Hp → VK → Prop} (hc : CallR X (.builtin id) r) (hg : Gl X x) (hm : X.mg x = none) (hv : bootBuiltins x = some (.builtin id)) (ha : QA X (e :: es) t) (hn : autoParam (x ≠ "__name__") au1_._auto_1) (hdb : autoParam ((x == ("__debug__" : Str)) = false) au1_._auto_1)
    (he : autoParam (starEach (e :: es) X.env = (false, eval e X.env) :: starEach es X.env) au0_._auto_1) (hpl : autoParam ((backTo pos (starEach es X.env)).any (·.1) = false) au0_._auto_1) : QE X (.Call (.Name x p) (e :: es) [] pos) (tCB r t) := ⟨L2.pe_callB hc hg hm hv ha.h hn hdb he hpl⟩
theorem pe_dn {k : Nat} {ps : List Str} {sp : Sp} (D : Dn X.prog X.w X.K X.mg X.base k x ps sp) (hr : Room k X.A) (hg : Gl X x) (ha : QA X (e :: es) t) (hdb : autoParam ((x == ("__debug__" : Str)) = false) au1_._auto_1)
    (he : autoParam (starEach (e :: es) X.env = (false, eval e X.env) :: starEach es X.env) au0_._auto_1) (hpl : autoParam ((backTo pos (starEach es X.env)).any (·.1) = false) au0_._auto_1) : QE X (.Call (.Name x p) (e :: es) [] pos) (tCall sp [] E0 t) := ⟨My.pe_dn D hr hg ha.h hdb he hpl⟩
theorem appC (K : PySem.W.Frag) (ho : QE X o to) (he : QE X e te) (h : autoParam (X.K = K) au0_._auto_1)
    (hbase : autoParam (attributeBase o "append" X.env (eval o X.env) = eval o X.env) au0_._auto_1)
    (hfew : autoParam (((backTo cpos (starEach (e :: []) X.env)).all (fun x => !x.1) && (backToKw cpos (keywordEach [] X.env)).all (fun x => x.1.isSome)
      && decide ((e :: ([] : List Expr)).length + ([] : List Keyword).length + (if ([] : List Keyword).isEmpty then 0 else 1) < 30)) = true) au0_._auto_1)
    (hline : autoParam ((apos.endLine == cpos.line) = true) au0_._auto_1) (hs : autoParam (starEach (e :: []) X.env = (false, eval e X.env) :: starEach [] X.env) au0_._auto_1) (hplain : autoParam ((backTo cpos (starEach [] X.env)).any (·.1) = false) au0_._auto_1) :
    QE X (.Call (.Attribute o "append" apos) [e] [] cpos) (tBM K "list" rAppend to (tCons te tNil)) := ⟨My.appC K ho.h he.h h hbase hfew hline hs hplain⟩
theorem pss_nil : QSs X [] tNext := ⟨L2.pss_nil⟩
theorem pss_cons (h1 : QS X st s1) (h2 : QSs X rest s2) : QSs X (st :: rest) (tSeq s1 s2) := ⟨L2.pss_cons h1.h h2.h⟩
theorem pss_one (h1 : QS X st s1) : QSs X [st] s1 := ⟨L2.pss_one h1.h⟩
theorem ps_never : QS X st tNever := ⟨L2.ps_never⟩
theorem ps_ret (he : QE X e te) : QS X (.Return (some e) pos) (tRet te) := ⟨L2.ps_ret he.h⟩
theorem ps_expr (he : QE X e te) (hs : autoParam (swapsWith e none pos.line X.env = pure false) au0_._auto_1) : QS X (.Expr e pos) (tDrop te) := ⟨L2.ps_expr he.h hs⟩
theorem ps_set {i : Nat} {pos' : Pos} (hN : X.N.Nodup) (hi : X.N[i]? = some x) (hx : Loc X.env.scope x) (he : QE X e te) (hs : autoParam (swapsWith e (some (.Name x pos')) pos.line X.env = pure false) au0_._auto_1) (hf : X.fn x = true ∨ X.env.scope.names.lookup x = some .local := by first | exact .inl rfl | exact .inr rfl | assumption) :
    QS X (.Assign [.Name x pos'] e pos) (tAsg te (gName i)) := ⟨L2.ps_set hN hi hx he.h hs hf⟩
theorem ps_asg {tg : Expr} {g : TG} (he : QE X e te) (hg : QG X tg g) (hs : autoParam (swapsWithSole [tg] e pos.line X.env = pure false) au0_._auto_1) (hw : autoParam (swappedStores [tg] e X.env = pure none) au0_._auto_1)
    (h1 : autoParam ((assignEach [tg] X.env).map (·.2) = [assign tg X.env]) au0_._auto_1) : QS X (.Assign [tg] e pos) (tAsg te g) := ⟨L2.ps_asg he.h hg.h hs hw h1⟩
theorem ps_par {i j : Nat} {y : Str} {ta : TA} {px py pt : Pos} {kt k2 pt2} (hc : X.calm = true) (hN : X.N.Nodup) (hi : X.N[i]? = some x) (hj : X.N[j]? = some y) (hij : i ≠ j)
    (hx : X.env.scope.names.lookup x = some .local) (hy : X.env.scope.names.lookup y = some .local) (ha : QA X [a, b] ta)
    (hw : swappedStores [.Tuple [.Name x px, .Name y py] kt pt] (.Tuple [a, b] k2 pt2) X.env = pure (some [x, y]))
    (hs : autoParam (swapsWithSole [.Tuple [.Name x px, .Name y py] kt pt] (.Tuple [a, b] k2 pt2) pos.line X.env = pure false) au0_._auto_1) :
    QS X (.Assign [.Tuple [.Name x px, .Name y py] kt pt] (.Tuple [a, b] k2 pt2) pos) (tPar i j ta) := ⟨L2.ps_par hc hN hi hj hij hx hy ha.h hw hs⟩
theorem ps_if {ss ss' : List Stmt} {tc : TT} (hc : QT X c tc) (ha : QSs X ss s1) (hb : QSs X ss' s2) : QS X (.If c ss ss' pos) (tIfS tc s1 s2) := ⟨L2.ps_if hc.h ha.h hb.h⟩
theorem ps_while {tc : TT} (hp : PassesOwn (model X.prog X.w) X.A X.env X.xe) (hc : QT X c tc) (hb : QSs X sts s1) : QS X (.While c sts [] pos) (tWhile tc s1) := ⟨L2.ps_while hp hc.h hb.h⟩
theorem ps_for {tg : Expr} {wi : TI} {g : TG} (hp : PassesOwn (model X.prog X.w) X.A X.env X.xe) (hc : X.calm = true) (hi : QI X tg e wi) (hg : QG X tg g) (hb : QSs X sts s1)
    (hs : autoParam (∀ x, foldedSetIterable e X.env x = pure x) au2_._auto_1) : QS X (.For tg e sts [] pos) (tFor wi g s1) := ⟨L2.ps_for hp hc hi.h hg.h hb.h hs⟩
theorem pg_name {i : Nat} (hN : X.N.Nodup) (hi : X.N[i]? = some x) (hx : Loc X.env.scope x) (hf : X.fn x = true ∨ X.env.scope.names.lookup x = some .local := by first | exact .inl rfl | exact .inr rfl | assumption) : QG X (.Name x pos) (gName i) := ⟨L2.pg_name hN hi hx hf⟩
theorem pgs_nil : QGs X [] gNil := ⟨L2.pgs_nil⟩
theorem pgs_cons {g : TG} {u : TGs} (h1 : QG X e g) (h2 : QGs X es u) (hs : autoParam ((assignEach (e :: es) X.env).map (·.2) = assign e X.env :: (assignEach es X.env).map (·.2)) au0_._auto_1) : QGs X (e :: es) (gCons g u) := ⟨L2.pgs_cons h1.h h2.h hs⟩
theorem pgT (K : PySem.W.Frag) {k : Nat} {g : TGs} {n : Nat} (hc : X.calm = true) (h2 : QGs X es g) (hn : autoParam ((assignEach es X.env).length = n) au0_._auto_1) (hst : autoParam ((assignEach es X.env).findIdx? (·.1) = none) au0_._auto_1) (h : autoParam (X.K = K) au0_._auto_1) : QG X (.Tuple es k pos) (gTup K n g) := ⟨My.pgT K hc h2.h hn hst h⟩
theorem piL (K : PySem.W.Frag) {tg : Expr} (hl : QE X e te) (h : autoParam (X.K = K) au0_._auto_1) : QI X tg e (iList K te) := ⟨My.piL K hl.h h⟩
theorem piT (K : PySem.W.Frag) {tg : Expr} (hl : QE X e te) (h : autoParam (X.K = K) au0_._auto_1) : QI X tg e (iTup K te) := ⟨My.piT K hl.h h⟩
theorem pi_range1 {tg : Expr} (hg : Gl X "range") (hm : X.mg "range" = none) (ha : QA X [a] t) (hs : autoParam (starEach [a] X.env = [(false, eval a X.env)]) au0_._auto_1) : QI X tg (.Call (.Name "range" p) [a] [] pos) (iRng1 t) := ⟨L2.pi_range1 hg hm ha.h hs⟩
end
end Jd

namespace Jd
open PySem PySem.Spec PyProof.Rows L2 My
section
variable {X : Cx} {x : Str} {n : Int} {pos apos cpos : Pos} {o : Expr} {to : TE}
theorem pe_cn (hg : Gl X x) (C : Cn X.mg x n) (hd : autoParam ((x == ("__debug__" : Str)) = false) au1_._auto_1) : QE X (.Name x pos) (tC (.int n)) := ⟨My.pe_cn hg C hd⟩
theorem pe_bits (ho : QE X o to) (hbase : autoParam (attributeBase o "bit_length" X.env (eval o X.env) = eval o X.env) au0_._auto_1) (hline : autoParam ((apos.endLine == cpos.line) = true) au0_._auto_1) :
    QE X (.Call (.Attribute o "bit_length" apos) [] [] cpos) (tUn (fun x H Q => tyV X.K "int" x H ∧ ([] : List V) = [] ∧ rBits x H Q) to) := ⟨My.pe_bits ho.h hbase hline⟩
end
end Jd

namespace My
open PySem PySem.Spec PyProof.Rows L2 Mth
noncomputable def closL (cells : List (Str × Addr)) : List (Str × NameKind) → List (Str × Addr) → List (Str × Addr)
  | [], cs => cs
  | (y, k) :: r, cs => closL cells r (if k = .free then ((cells.lookup y).map fun c => (y, c)).toList ++ cs else cs)
noncomputable def freeHas (cells : List (Str × Addr)) (names : List (Str × NameKind)) : Bool := names.all fun p => !(p.2 == NameKind.free) || (cells.lookup p.1).isSome
theorem closure_go {env : Env} : ∀ (names : List (Str × NameKind)) (cs : List (Str × Addr)), freeHas env.cells names = true →
    (forIn (m := Sem) names cs fun x r => match x with | (name, kind) => if (kind == NameKind.free) = true then do let a ← cellOf env name; pure (ForInStep.yield ((name, a) :: r)) else pure (ForInStep.yield r)) = pure (closL env.cells names cs)
  | [], cs, _ => rfl
  | (y, k) :: r, cs, h => by
    have h2 : freeHas env.cells r = true := by
      unfold freeHas at h ⊢
      rw [List.all_cons, Bool.and_eq_true] at h
      exact h.2
    rw [List.forIn_cons]
    by_cases hk : k = .free
    · subst hk
      have h1 : (env.cells.lookup y).isSome = true := by
        unfold freeHas at h
        rw [List.all_cons, Bool.and_eq_true] at h
        simpa using h.1
      obtain ⟨c, hc⟩ := Option.isSome_iff_exists.mp h1
      have ih := closure_go r ((y, c) :: cs) h2
      have e : cellOf env y = pure c := by unfold cellOf; rw [hc]
      show (((if (NameKind.free == NameKind.free) = true then do let a ← cellOf env y; pure (ForInStep.yield ((y, a) :: cs)) else pure (ForInStep.yield cs)) : Sem _) >>= _) = _
      rw [if_pos (by rfl), e, pure_bind, pure_bind]
      show forIn (m := Sem) r ((y, c) :: cs) _ = _
      rw [ih]
      show _ = pure (closL env.cells r (if NameKind.free = .free then ((env.cells.lookup y).map fun c => (y, c)).toList ++ cs else cs))
      rw [if_pos rfl, hc]
      rfl
    · have ih := closure_go r cs h2
      have hk' : (k == NameKind.free) = false := by simpa using hk
      show (((if (k == NameKind.free) = true then do let a ← cellOf env y; pure (ForInStep.yield ((y, a) :: cs)) else pure (ForInStep.yield cs)) : Sem _) >>= _) = _
      rw [hk', if_neg Bool.false_ne_true, pure_bind]
      show forIn (m := Sem) r cs _ = _
      rw [ih]
      show _ = pure (closL env.cells r (if k = .free then _ else cs))
      rw [if_neg hk]
theorem closure_of {scope : Scope} {env : Env} (h : freeHas env.cells scope.names = true) : closureFor scope env = pure (closL env.cells scope.names []) := by
  have e := closure_go (env := env) scope.names [] h
  show (forIn (m := Sem) scope.names [] _ >>= fun cs => pure cs) = _
  exact (congrArg (· >>= fun cs => pure cs) e).trans (pure_bind _ _)
theorem closL_mem {cells : List (Str × Addr)} : ∀ (names : List (Str × NameKind)) (cs : List (Str × Addr)) (p : Str × Addr), p ∈ closL cells names cs → p ∈ cs ∨ cells.lookup p.1 = some p.2
  | [], _, _, h => .inl h
  | (y, k) :: r, cs, p, h => by
    rcases closL_mem r _ p h with q | q
    · by_cases hk : k = .free
      · rw [if_pos hk] at q
        rcases List.mem_append.mp q with z | z
        · cases e : cells.lookup y with
          | none => rw [e] at z; simp at z
          | some c => rw [e] at z; simp at z; subst z; exact .inr e
        · exact .inl z
      · rw [if_neg hk] at q
        exact .inl q
    · exact .inr q
theorem closL_has {cells : List (Str × Addr)} : ∀ (names : List (Str × NameKind)) (cs : List (Str × Addr)) (y : Str) (c : Addr), ((y, NameKind.free) ∈ names ∧ cells.lookup y = some c) ∨ (y, c) ∈ cs → (y, c) ∈ closL cells names cs
  | [], _, _, _, h => h.elim (fun z => by simp at z) id
  | (z, k) :: r, cs, y, c, h => by
    refine closL_has r _ y c ?_
    rcases h with ⟨m, e⟩ | m
    · rcases List.mem_cons.mp m with q | q
      · cases q
        right
        rw [if_pos rfl, e]
        simp
      · exact .inl ⟨q, e⟩
    · right
      by_cases hk : k = .free
      · rw [if_pos hk]; exact List.mem_append_right _ m
      · rw [if_neg hk]; exact m
theorem lookup_in {α : Type} : ∀ {l : List (Str × α)} {x : Str} {v : α}, l.lookup x = some v → (x, v) ∈ l
  | (y, u) :: r, x, v, h => by
    rw [List.lookup_cons] at h
    cases e : x == y with
    | true =>
      rw [e] at h
      cases h
      have : x = y := by simpa using e
      subst this
      exact List.mem_cons_self
    | false =>
      rw [e] at h
      exact List.mem_cons_of_mem _ (lookup_in h)
theorem lookup_ex {α : Type} : ∀ {l : List (Str × α)} {x : Str} {v : α}, (x, v) ∈ l → ∃ u, l.lookup x = some u
  | (y, u) :: r, x, v, h => by
    rw [List.lookup_cons]
    cases e : x == y with
    | true => exact ⟨_, rfl⟩
    | false =>
      rcases List.mem_cons.mp h with q | q
      · cases q; simp at e
      · exact lookup_ex q
theorem closL_look {cells : List (Str × Addr)} {names : List (Str × NameKind)} {y : Str} {c : Addr} (h : (closL cells names []).lookup y = some c) : cells.lookup y = some c :=
  (closL_mem names [] (y, c) (lookup_in h)).elim (fun z => by simp at z) id
theorem closL_some {cells : List (Str × Addr)} {names : List (Str × NameKind)} {y : Str} {c : Addr} (h : (y, NameKind.free) ∈ names) (e : cells.lookup y = some c) : (closL cells names []).lookup y = some c := by
  obtain ⟨u, q⟩ := lookup_ex (closL_has names [] y c (.inl ⟨h, e⟩))
  rw [q]
  rw [closL_look q] at e
  exact e
noncomputable def Caps (X : Cx) (scope : Scope) : List Str → List Nat → Prop
  | [], [] => True
  | y :: ys, j :: js => (X.N[j]? = some y ∧ X.env.kindOf y = some .cell ∧ scope.names.lookup y = some .free ∧ (relabel scope X.env).names.lookup y = some .cell) ∧ Caps X scope ys js
  | _, _ => False
theorem free_cell {cells : List (Str × Addr)} {names : List (Str × NameKind)} {y : Str} (h : freeHas cells names = true) (m : (y, NameKind.free) ∈ names) : ∃ c, cells.lookup y = some c := by
  unfold freeHas at h
  have q := List.all_eq_true.mp h _ m
  exact Option.isSome_iff_exists.mp (by simpa using q)
theorem Caps.ok {X : Cx} {scope : Scope} (h : freeHas X.env.cells scope.names = true) : ∀ {ys : List Str} {js : List Nat}, Caps X scope ys js → CapOk X scope (closL X.env.cells scope.names []) ys js
  | [], [], _ => trivial
  | y :: ys, j :: js, ⟨⟨a, b, c, d⟩, r⟩ => by
    have m := lookup_in c
    obtain ⟨e, he⟩ := free_cell h m
    exact ⟨⟨a, b, d, by rw [closL_some m he, he]⟩, Caps.ok h r⟩
theorem relabel_has {scope : Scope} {env : Env} (h : freeHas env.cells scope.names = true) (hcell : ∀ y ∈ scope.names, y.2 ≠ .cell) (y : Str)
    (q : (relabel scope env).names.lookup y = some .cell ∨ (relabel scope env).names.lookup y = some .free) : ∃ c, (closL env.cells scope.names []).lookup y = some c := by
  have m : (y, NameKind.free) ∈ scope.names := by
    rcases q with q | q
    all_goals
      have m := lookup_in q
      unfold relabel at m
      obtain ⟨⟨n, k⟩, hm, e⟩ := List.mem_map.mp m
      dsimp only at e
      split at e
      · rename_i hc
        rw [Bool.and_eq_true, Bool.and_eq_true] at hc
        have hk : k = .free := by simpa using hc.1.1
        subst hk
        cases e
        first | exact hm | done
      · cases e
        first | exact hm | exact absurd rfl (hcell _ hm)
  obtain ⟨c, hc⟩ := free_cell h m
  exact ⟨c, closL_some m hc⟩
section
variable {X : Cx} {elt iter tg : Expr} {ifs : List Expr} {pos : Pos} {scope : Scope} {wi : TI} {te : TE} {tt : TT} {g : TG} {O N' : List Str} {cap : List Nat} {n : Nat}
theorem pe_compC (hc : X.calm = true) (hi : PI X tg iter wi)
    (hg : ∀ (C : Addr) (s0 : Shared) (H0 : Hp) (ex' : List Addr) (pn' : List (Addr × Obj)), PG (cxComp X (O ++ N') scope (closL X.env.cells scope.names []) C s0 H0 ex' pn') tg g)
    (htt : ∀ (C : Addr) (s0 : Shared) (H0 : Hp) (ex' : List Addr) (pn' : List (Addr × Obj)), PTs (cxComp X (O ++ N') scope (closL X.env.cells scope.names []) C s0 H0 ex' pn') ifs tt)
    (helt : ∀ (C : Addr) (s0 : Shared) (H0 : Hp) (ex' : List Addr) (pn' : List (Addr × Obj)), PE (cxComp X (O ++ N') scope (closL X.env.cells scope.names []) C s0 H0 ex' pn') elt te)
    (hO : O.length = n) (hcap : Caps X scope N' cap) (hf : freeHas X.env.cells scope.names = true) (hcell : ∀ y ∈ scope.names, y.2 ≠ .cell) (hkind : scope.kind = .function) (hnames : ∀ y ∈ scope.names, y.2 = .local → scope.names.lookup y.1 = some .local)
    (hs : autoParam (∀ z, foldedSetIterable iter X.env z = pure z) au2_._auto_1) :
    PE X (.ListComp elt [⟨tg, iter, ifs, 0⟩] scope pos) (tComp wi n cap g tt te) :=
  pe_comp hc hi hg htt helt hO (hcap.ok hf) (closure_of hf) hcell hkind hnames (fun _ _ => closL_look) (relabel_has hf hcell) hs
end
section
variable {X : Cx} {elt iter tg : Expr} {ifs : List Expr} {pos : Pos} {scope : Scope} {wi : TI} {te : TE} {tt : TT} {g : TG} {O N' : List Str} {cap : List Nat} {n : Nat}
theorem ps_compC {i : Nat} {x : Str} {pos' spos : Pos} (hN : X.N.Nodup) (hix : X.N[i]? = some x) (hx : Loc X.env.scope x) (hc : X.calm = true) (hi : PI X tg iter wi)
    (hg : ∀ (C : Addr) (s0 : Shared) (H0 : Hp) (ex' : List Addr) (pn' : List (Addr × Obj)), PG (cxComp X (O ++ N') scope (closL X.env.cells scope.names []) C s0 H0 ex' pn') tg g)
    (htt : ∀ (C : Addr) (s0 : Shared) (H0 : Hp) (ex' : List Addr) (pn' : List (Addr × Obj)), PTs (cxComp X (O ++ N') scope (closL X.env.cells scope.names []) C s0 H0 ex' pn') ifs tt)
    (helt : ∀ (C : Addr) (s0 : Shared) (H0 : Hp) (ex' : List Addr) (pn' : List (Addr × Obj)), PE (cxComp X (O ++ N') scope (closL X.env.cells scope.names []) C s0 H0 ex' pn') elt te)
    (hO : O.length = n) (hcap : Caps X scope N' cap) (hf : freeHas X.env.cells scope.names = true) (hcell : ∀ y ∈ scope.names, y.2 ≠ .cell) (hkind : scope.kind = .function) (hnames : ∀ y ∈ scope.names, y.2 = .local → scope.names.lookup y.1 = some .local)
    (hsw : swapsWith (.ListComp elt [⟨tg, iter, ifs, 0⟩] scope pos) (some (.Name x pos')) spos.line X.env = pure true)
    (hs : autoParam (∀ z, foldedSetIterable iter X.env z = pure z) au2_._auto_1) (hfn : X.fn x = true ∨ X.env.scope.names.lookup x = some .local := by first | exact .inl rfl | exact .inr rfl | assumption) :
    PS X (.Assign [.Name x pos'] (.ListComp elt [⟨tg, iter, ifs, 0⟩] scope pos) spos) (tAsg (tComp wi n cap g tt te) (gName i)) :=
  ps_comp hN hix hx hc hi hg htt helt hO (hcap.ok hf) (closure_of hf) hcell hkind hnames (fun _ _ => closL_look) (relabel_has hf hcell) hsw hs hfn
end
noncomputable def rm (D : Addr) (H : Hp) : Hp := fun b => if b = D then none else H b
theorem rm_at {D : Addr} {H : Hp} {b : Addr} (h : b ≠ D) : rm D H b = H b := if_neg h
theorem rm_same {D : Addr} {H : Hp} : Same (rm D H) H := fun b o e => by
  unfold rm at e
  by_cases h : b = D
  · rw [if_pos h] at e; cases e
  · rw [if_neg h] at e; exact e
theorem rm_rm {D : Addr} {H H' : Hp} (s : Same H H') : Same (rm D H) (rm D H') := fun b o e => by
  unfold rm at e ⊢
  by_cases h : b = D
  · rw [if_pos h] at e; cases e
  · rw [if_neg h] at e ⊢; exact s b o e
theorem rm_upd {D : Addr} {H : Hp} {o : HO} : rm D (upd H D o) = rm D H := by
  funext b
  unfold rm
  by_cases h : b = D
  · rw [if_pos h, if_pos h]
  · rw [if_neg h, if_neg h, upd_ne h]
theorem rm_tup {D p : Addr} {H : Hp} {xs ys : List V} (hD : H D = some (.lst ys)) (h : H p = some (.tup xs)) : rm D H p = some (.tup xs) := by
  rw [rm_at (fun e => by rw [e, hD] at h; cases h)]; exact h
theorem rm_up (D : Addr) (H : Hp) (o : HO) : Same (rm D H) (upd H D o) := fun b u e => by
  unfold rm at e
  by_cases h : b = D
  · rw [if_pos h] at e; cases e
  · rw [if_neg h] at e; rw [upd_ne h]; exact e
theorem ix_last {n m : Nat} (h : n = m + 1) : ixN n (-1) = some m := by
  subst h
  unfold ixN
  rw [if_neg (by (first | lia | omega)), if_pos (by (first | lia | omega))]
  congr 1
  (first | lia | omega)
structure Tells (J : It) (ok : Hp → Prop) (xs : List V) : Prop where
  go : ∀ i H, ok H → i < xs.length → J.go i H ∧ ∀ x H', J.yld i H x H' → H' = H ∧ xs[i]? = some x
  stop : ∀ H, ok H → J.stop xs.length H
theorem tells_list {K : PySem.W.Frag} {a : Addr} {xs : List V} : Tells (Itl K a) (fun H => SqL K H a xs) xs :=
  ⟨fun i H h hi => ⟨⟨xs, xs[i], h, by simp [hi]⟩, fun x H' y => ⟨y.1, y.2 xs h⟩⟩, fun H h => ⟨xs, h, Nat.le_refl _⟩⟩
noncomputable def CompB (n : Nat) (cap : List Nat) (g : TG) (tt : TT) (te : TE) (σ : L2.St) (Q : VK) (J : It) (H1 : Hp) : Prop := ∀ D, H1 D = none → ∃ W : Nat → Nat → List V → Hp → Prop, (∃ m, W 0 m [] (upd H1 D (.lst []))) ∧
  ∀ i m xs H2, W i m xs H2 → H2 D = some (.lst xs) ∧ ((J.stop i H2 ∧ Q (.ref D) H2) ∨ (J.go i H2 ∧ xs.length < sizeLine ∧ ∀ x H3 σ0, σ0.length = n → J.yld i H2 x H3 →
    g x (σ0 ++ capV cap σ) H3 fun σ2 H4 => (∃ σ1, σ1.length = n ∧ σ2 = σ1 ++ capV cap σ) ∧ tt σ2 H4 fun b H5 => if b = true then te σ2 H5 fun y H6 => H6 D = some (.lst xs) ∧ ∃ m', m' < m ∧ W (i + 1) m' (xs ++ [y]) (upd H6 D (.lst (xs ++ [y])))
      else ∃ m', m' < m ∧ W (i + 1) m' xs H5))
section
variable {wi : TI} {n : Nat} {cap : List Nat} {g : TG} {tt : TT} {te : TE} {σ : L2.St} {H : Hp} {Q : VK} {K : PySem.W.Frag}
theorem r_comp (h : wi σ H fun J H1 => CompB n cap g tt te σ Q J H1) : tComp wi n cap g tt te σ H Q := h
theorem r_rng1 {ta : TA} {R : It → Hp → Prop} (h : ta σ H fun vs H1 => ∃ j : Int, vs = [.int j] ∧ -(2 ^ 62) ≤ j ∧ j < 2 ^ 62 ∧ R (Itr 0 j.toNat) H1) : iRng1 ta σ H R := h
theorem r_yes {B : Bool → Hp → Prop} (h : B true H) : tYes σ H B := h
theorem compB_of {J : It} {ok : Hp → Prop} {xs : List V} (T : Tells J ok xs) (hok : ∀ H2, Same H H2 → ok H2) (hl : xs.length ≤ 1000) (P : Nat → List V → Hp → Prop) (h0 : P 0 [] H)
    (step : ∀ (D : Addr) (i : Nat) (x : V) (ys : List V) (H2 : Hp) (σ0 : L2.St) (N : VK) (N0 : Hp → Prop), σ0.length = n → H D = none → H2 D = some (.lst ys) → Same H H2 → xs[i]? = some x → ys.length ≤ i → P i ys (rm D H2) →
      (∀ y H6, Same H2 H6 → P (i + 1) (ys ++ [y]) (rm D H6) → N y H6) → (∀ H5, Same H2 H5 → P (i + 1) ys (rm D H5) → N0 H5) →
      g x (σ0 ++ capV cap σ) H2 fun σ2 H4 => (∃ σ1, σ1.length = n ∧ σ2 = σ1 ++ capV cap σ) ∧ tt σ2 H4 fun b H5 => if b = true then te σ2 H5 N else N0 H5)
    (done : ∀ (D : Addr) (ys : List V) (H2 : Hp), H D = none → H2 D = some (.lst ys) → Same H H2 → ys.length ≤ xs.length → P xs.length ys (rm D H2) → Q (.ref D) H2) : CompB n cap g tt te σ Q J H := by
  intro D hD
  refine ⟨fun i m ys H2 => H2 D = some (.lst ys) ∧ Same H H2 ∧ ys.length ≤ i ∧ i ≤ xs.length ∧ m = xs.length - i ∧ P i ys (rm D H2), ⟨xs.length, upd_same, same_at (Same.refl _) hD, Nat.zero_le _, Nat.zero_le _, rfl, ?_⟩, ?_⟩
  · rw [rm_upd]
    have e : rm D H = H := by
      funext b
      by_cases h : b = D
      · rw [h, hD]; exact if_pos rfl
      · exact rm_at h
    rw [e]; exact h0
  · rintro i m ys H2 ⟨e, s, hy, hi, rfl, p⟩
    refine ⟨e, ?_⟩
    by_cases hlt : i < xs.length
    · obtain ⟨go, yld⟩ := T.go i H2 (hok H2 s) hlt
      refine .inr ⟨go, Nat.lt_of_le_of_lt (Nat.le_trans hy hi) (small1000 hl), fun x H3 σ0 h0 y => ?_⟩
      obtain ⟨rfl, hx⟩ := yld x H3 y
      refine step D i x ys _ σ0 _ _ h0 hD e s hx hy p (fun y H6 s6 p6 => ?_) fun H5 s5 p5 => ?_
      · refine ⟨s6 _ _ e, xs.length - (i + 1), by (first | lia | omega), upd_same, same_at (s.trans s6) hD, ?_, by (first | lia | omega), rfl, ?_⟩
        · rw [List.length_append, List.length_singleton]; (first | lia | omega)
        · rw [rm_upd]; exact p6
      · exact ⟨xs.length - (i + 1), by (first | lia | omega), s5 _ _ e, s.trans s5, by (first | lia | omega), by (first | lia | omega), rfl, p5⟩
    · have ei : i = xs.length := by (first | lia | omega)
      subst ei
      exact .inl ⟨T.stop H2 (hok H2 s), done D ys H2 hD e s hy p⟩
theorem r_own1 {x : V} {σ0 : L2.St} {R : L2.St → Hp → Prop} (h0 : σ0.length = 1) (h : R (some x :: capV cap σ) H) : gName 0 x (σ0 ++ capV cap σ) H fun σ2 H4 => (∃ σ1, σ1.length = 1 ∧ σ2 = σ1 ++ capV cap σ) ∧ R σ2 H4 := by
  match σ0, h0 with
  | [v], _ => exact ⟨⟨[some x], rfl, rfl⟩, h⟩
theorem r_own2 {p : Addr} {x y : V} {σ0 : L2.St} {R : L2.St → Hp → Prop} (h0 : σ0.length = 2) (hp : H p = some (.tup [x, y])) (h : R (some x :: some y :: capV cap σ) H) :
    gTup K 2 (gCons (gName 0) (gCons (gName 1) gNil)) (.ref p) (σ0 ++ capV cap σ) H fun σ2 H4 => (∃ σ1, σ1.length = 2 ∧ σ2 = σ1 ++ capV cap σ) ∧ R σ2 H4 := by
  match σ0, h0 with
  | [v, u], _ => exact ⟨p, _, rfl, SqT.of hp, rfl, x, _, rfl, y, _, rfl, rfl, ⟨[some x, some y], rfl, rfl⟩, h⟩
end
end My
namespace Jd
open PySem PySem.Spec PyProof.Rows L2 My
structure QTs (X : Cx) (ifs : List Expr) (t : TT) : Prop where
  h : PTs X ifs t
section
variable {X : Cx} {c elt iter tg : Expr} {ifs : List Expr} {pos : Pos} {scope : Scope} {wi : TI} {te : TE} {tt : TT} {g : TG} {O N' : List Str} {cap : List Nat} {n : Nat}
theorem pts_nil : QTs X [] tYes := ⟨My.pts_nil⟩
theorem pts_one (h : QT X c tt) : QTs X [c] tt := ⟨My.pts_one h.h⟩
theorem pe_comp (hc : X.calm = true) (hi : QI X tg iter wi)
    (hg : ∀ (C : Addr) (s0 : Shared) (H0 : Hp) (ex' : List Addr) (pn' : List (Addr × Obj)), QG (cxComp X (O ++ N') scope (closL X.env.cells scope.names []) C s0 H0 ex' pn') tg g)
    (htt : ∀ (C : Addr) (s0 : Shared) (H0 : Hp) (ex' : List Addr) (pn' : List (Addr × Obj)), QTs (cxComp X (O ++ N') scope (closL X.env.cells scope.names []) C s0 H0 ex' pn') ifs tt)
    (helt : ∀ (C : Addr) (s0 : Shared) (H0 : Hp) (ex' : List Addr) (pn' : List (Addr × Obj)), QE (cxComp X (O ++ N') scope (closL X.env.cells scope.names []) C s0 H0 ex' pn') elt te)
    (hO : O.length = n) (hcap : Caps X scope N' cap) (hf : freeHas X.env.cells scope.names = true) (hcell : ∀ y ∈ scope.names, y.2 ≠ .cell) (hkind : scope.kind = .function) (hnames : ∀ y ∈ scope.names, y.2 = .local → scope.names.lookup y.1 = some .local)
    (hs : autoParam (∀ z, foldedSetIterable iter X.env z = pure z) au2_._auto_1) :
    QE X (.ListComp elt [⟨tg, iter, ifs, 0⟩] scope pos) (tComp wi n cap g tt te) :=
  ⟨My.pe_compC hc hi.h (fun C s0 H0 ex' pn' => (hg C s0 H0 ex' pn').h) (fun C s0 H0 ex' pn' => (htt C s0 H0 ex' pn').h) (fun C s0 H0 ex' pn' => (helt C s0 H0 ex' pn').h) hO hcap hf hcell hkind hnames hs⟩
theorem ps_comp {i : Nat} {x : Str} {pos' spos : Pos} (hN : X.N.Nodup) (hix : X.N[i]? = some x) (hx : Loc X.env.scope x) (hc : X.calm = true) (hi : QI X tg iter wi)
    (hg : ∀ (C : Addr) (s0 : Shared) (H0 : Hp) (ex' : List Addr) (pn' : List (Addr × Obj)), QG (cxComp X (O ++ N') scope (closL X.env.cells scope.names []) C s0 H0 ex' pn') tg g)
    (htt : ∀ (C : Addr) (s0 : Shared) (H0 : Hp) (ex' : List Addr) (pn' : List (Addr × Obj)), QTs (cxComp X (O ++ N') scope (closL X.env.cells scope.names []) C s0 H0 ex' pn') ifs tt)
    (helt : ∀ (C : Addr) (s0 : Shared) (H0 : Hp) (ex' : List Addr) (pn' : List (Addr × Obj)), QE (cxComp X (O ++ N') scope (closL X.env.cells scope.names []) C s0 H0 ex' pn') elt te)
    (hO : O.length = n) (hcap : Caps X scope N' cap) (hf : freeHas X.env.cells scope.names = true) (hcell : ∀ y ∈ scope.names, y.2 ≠ .cell) (hkind : scope.kind = .function) (hnames : ∀ y ∈ scope.names, y.2 = .local → scope.names.lookup y.1 = some .local)
    (hsw : swapsWith (.ListComp elt [⟨tg, iter, ifs, 0⟩] scope pos) (some (.Name x pos')) spos.line X.env = pure true)
    (hs : autoParam (∀ z, foldedSetIterable iter X.env z = pure z) au2_._auto_1) (hfn : X.fn x = true ∨ X.env.scope.names.lookup x = some .local := by first | exact .inl rfl | exact .inr rfl | assumption) :
    QS X (.Assign [.Name x pos'] (.ListComp elt [⟨tg, iter, ifs, 0⟩] scope pos) spos) (tAsg (tComp wi n cap g tt te) (gName i)) :=
  ⟨My.ps_compC hN hix hx hc hi.h (fun C s0 H0 ex' pn' => (hg C s0 H0 ex' pn').h) (fun C s0 H0 ex' pn' => (htt C s0 H0 ex' pn').h) (fun C s0 H0 ex' pn' => (helt C s0 H0 ex' pn').h) hO hcap hf hcell hkind hnames hsw hs hfn⟩
end
end Jd

namespace My
open PySem PySem.Spec PyProof.Rows L2 Mth
section
variable {σ : L2.St} {H : Hp} {R : It → Hp → Prop}
end
end My
namespace Jd
open PySem PySem.Spec PyProof.Rows L2 My
end Jd

namespace My
open PySem PySem.Spec PyProof.Rows L2 Mth
theorem inv_turned_new {X : Cx} {pins : List (Addr × Obj)} {σ : L2.St} {H : Hp} {s : Shared} {h' : Heap} {t' : Nat} {T : Addr} {o : HO} (ch : List Addr) (I : L2.Inv X pins σ H s) (k : ∀ b u, b ∉ ch → s.heap.get? b = some u → h'.get? b = some u)
    (hf : ∀ b ∈ ch, FpOk X pins H b) (hT : s.heap.objs.size ≤ T) (new : ObjOk X.prog X.w (upd H T o) h' T o) : L2.Inv X pins σ (upd H T o) { s with heap := h', toks := t' } := by
  have hn : H T = none := I.hok.fresh hT
  have out : ∀ b u, H b = some u → b ∉ ch := fun b u e z => by rw [(hf b z).1] at e; cases e
  have old : ∀ b u, H b = some u → upd H T o b = some u := fun b u e => by rw [upd_ne (ne_of_none e hn)]; exact e
  refine I.step (g' := s.gens) (d' := s.drawn) (ch := ch) (fun b hb => ?_) (fun b u _ _ hc e _ => k b u hc e) (fun b u _ _ hc e _ => ⟨u.slots, k b u hc e⟩) (fun b u hc e z => ?_) (fun b u hc e => ⟨u, k b u hc e⟩)
    (fun b xs e => old b _ e) (fun b u v e => old b _ e) (fun b ps e => ⟨#[], by rw [old b _ e]; simp⟩) (fun m hm => ?_) (fun b u e => ?_) I.bare
  · obtain ⟨_, f1, _, f3, f4, f5⟩ := hf b hb
    exact ⟨f3, f1, f4, f5⟩
  · have hb : b ≠ T := Nat.ne_of_lt (Nat.lt_of_lt_of_le (Heap.lt_size e) hT)
    rw [upd_ne hb]
    exact z
  · obtain ⟨u, es, ep, hu, r⟩ := hm
    exact ⟨u, es, ep, k _ u (fun z => (hf _ z).2.1 rfl) hu, r⟩
  · by_cases hb : b = T
    · subst hb
      rw [upd_same] at e
      cases e
      exact new
    · rw [upd_ne hb] at e
      exact ObjOk.stay (I.hok b u e) (fun c v hc q => k c v (hc.elim (fun z => z ▸ out b u e) fun z => out c _ z) q) (fun c q => old c _ q) fun c xs q => old c _ q
section
variable {X : Cx} {a : Expr} {ta : TA} {p pos : Pos} {elts : List Expr} {kt : Nat} {tpos : Pos}
end
section
variable {σ : L2.St} {H : Hp} {K : PySem.W.Frag}
end
section
variable {σ : L2.St} {H : Hp} {D : Ends}
end
section
variable {X : Cx}
end
end My
namespace Jd
open PySem PySem.Spec PyProof.Rows L2 My
end Jd

namespace My
open PySem PySem.Spec PyProof.Rows L2 Mth
noncomputable def NoAttrs (K : PySem.W.Frag) (C : Addr) : List Str → Prop
  | [] => True
  | f :: fs => NoAttr K C f ∧ NoAttrs K C fs
theorem NoAttrs.of {K : PySem.W.Frag} {C : Addr} {f : Str} : ∀ {fs : List Str}, NoAttrs K C fs → f ∈ fs → NoAttr K C f
  | g :: fs, h, hm => by
    rcases List.mem_cons.mp hm with z | z
    · rw [z]; exact h.1
    · exact NoAttrs.of h.2 z
structure Cl (K : PySem.W.Frag) (mg : Str → Option Value) (x : Str) (C : Addr) (fs : List Str) : Prop where
  cl : Cls K C
  at_ : mg x = some (.ref C)
  no : NoAttrs K C fs
structure Dm (P : Program) (w : World) (K : PySem.W.Frag) (mg : Str → Option Value) (base : Heap) (k : Nat) (C : Addr) (m : Str) (ps : List Str) (sp : Sp) : Prop where
  ex : ∃ (f : Addr) (fd : FuncData), FnOk P w K mg base CX0 k f fd ps sp ∧ Meth K C m f ∧ Binds K fd ps []
structure Dk (P : Program) (w : World) (K : PySem.W.Frag) (mg : Str → Option Value) (base : Heap) (k : Nat) (x : Str) (C : Addr) (ps : List Str) (sp : Sp) : Prop where
  ex : ∃ (f : Addr) (fd : FuncData), FnOk P w K mg base CX0 k f fd ps sp ∧ Mk K C f ∧ Binds K fd ps [] ∧ mg x = some (.ref C)
noncomputable def rFld (K : PySem.W.Frag) (f : Str) : V → Hp → VK → Prop := fun x H Q => ∃ a C dx fs v, x = .ref a ∧ H a = some (.ins C dx fs) ∧ Cls K C ∧ NoAttr K C f ∧ fs.lookup f = some v ∧ Q v H
noncomputable def rFldS (K : PySem.W.Frag) (f : Str) (y : V) (N : Hp → Prop) : V → Hp → Prop := fun x H => ∃ a C dx fs, x = .ref a ∧ H a = some (.ins C dx fs) ∧ Cls K C ∧ NoAttr K C f ∧ fs.length < 1000 ∧ N (upd H a (.ins C dx (putF f y fs)))
noncomputable def rMeth (C : Addr) (m : Str) (sp : Sp) (σ : L2.St) (t : TA) : V → Hp → VK → Prop := fun x H1 Q => ∃ a dx fs, x = .ref a ∧ H1 a = some (.ins C dx fs) ∧ fs.lookup m = none ∧ t σ H1 fun vs H2 => sp (x :: (vs ++ [])) H2 Q E0
section
variable {σ : L2.St} {H : Hp} {Q : VK} {K : PySem.W.Frag} {f m x : Str} {to tv : TE} {t : TA} {D : Ends} {C a dx : Addr} {fs : List (Str × V)} {fn : List Str} {mg : Str → Option Value} {v y : V} {N : Hp → Prop} {sp : Sp}
theorem r_fld (h : to σ H fun x H1 => rFld K f x H1 Q) : tFld K to f σ H Q := h
theorem r_sfld (h : tv σ H fun y H1 => to σ H1 fun x H2 => rFldS K f y (fun H3 => D.nx σ H3) x H2) : sFld K to tv f D σ H := h
theorem r_meth (h : to σ H fun x H1 => rMeth C m sp σ t x H1 Q) : tMeth C m sp [] E0 to t σ H Q := h
theorem r_make (h : t σ H fun vs H1 => ∀ x dx, H1 x = none → H1 dx = none → dx ≠ x → sp (.ref x :: (vs ++ [])) (upd (upd H1 dx (.own x)) x (.ins C dx [])) (fun v H2 => v = .non ∧ Q (.ref x) H2) E0) : tMake C sp [] E0 t σ H Q := h
theorem r_f (k : Cl K mg x C fn) (ha : H a = some (.ins C dx fs)) (hl : fs.lookup f = some v) (q : Q v H) (hf : autoParam (f ∈ fn) au1_._auto_1) : rFld K f (.ref a) H Q := ⟨a, C, dx, fs, v, rfl, ha, k.cl, k.no.of hf, hl, q⟩
theorem r_s (k : Cl K mg x C fn) (ha : H a = some (.ins C dx fs)) (hn : fs.length < 1000) (q : N (upd H a (.ins C dx (putF f y fs)))) (hf : autoParam (f ∈ fn) au1_._auto_1) : rFldS K f y N (.ref a) H := ⟨a, C, dx, fs, rfl, ha, k.cl, k.no.of hf, hn, q⟩
theorem r_m (ha : H a = some (.ins C dx fs)) (hm : fs.lookup m = none) (q : t σ H fun vs H2 => sp (.ref a :: (vs ++ [])) H2 Q E0) : rMeth C m sp σ t (.ref a) H Q := ⟨a, dx, fs, rfl, ha, hm, q⟩
end
end My
namespace Jd
open PySem PySem.Spec PyProof.Rows L2 My
section
variable {X : Cx} {k : Nat} {x m f : Str} {ps : List Str} {sp : Sp} {p pos apos : Pos} {o e value : Expr} {es : List Expr} {to tv : TE} {t : TA} {C : Addr}
theorem pe_fld (K : PySem.W.Frag) (he : QE X e to) (hb : autoParam (attributeBase e f X.env (eval e X.env) = eval e X.env) au0_._auto_1) (hK : autoParam (X.K = K) au0_._auto_1) : QE X (.Attribute e f pos) (tFld K to f) := ⟨hK ▸ L2.pe_fld he.h hb⟩
theorem ps_fld (K : PySem.W.Frag) {pos' : Pos} (ha : QE X o to) (hv : QE X value tv) (hs : autoParam (swapsWith value (some (.Attribute o f pos')) pos.line X.env = pure false) au0_._auto_1) (hK : autoParam (X.K = K) au0_._auto_1) : QS X (.Assign [.Attribute o f pos'] value pos) (sFld K to tv f) := ⟨hK ▸ L2.ps_fld ha.h hv.h hs⟩
theorem pe_dk (D : Dk X.prog X.w X.K X.mg X.base k x C ps sp) (hr : Room (k + 1) X.A) (hg : Gl X x) (ha : QA X (e :: es) t) (hdb : autoParam ((x == ("__debug__" : Str)) = false) au1_._auto_1)
    (he : autoParam (starEach (e :: es) X.env = (false, eval e X.env) :: starEach es X.env) au0_._auto_1) (hpl : autoParam ((backTo pos (starEach es X.env)).any (·.1) = false) au0_._auto_1) : QE X (.Call (.Name x p) (e :: es) [] pos) (tMake C sp [] E0 t) := by
  obtain ⟨fa, fd, ok, hk, hb, hm⟩ := D.ex
  exact ⟨pe_make hk ok hr hg hm hb .nil pass0 ha.h hdb he hpl⟩
theorem pe_dm (D : Dm X.prog X.w X.K X.mg X.base k C m ps sp) (c : Cls X.K C) (hr : Room k X.A) (ho : QE X o to) (ha : QA X (e :: es) t) {pl : Sem Bool}
    (he : autoParam (starEach (e :: es) X.env = (false, eval e X.env) :: starEach es X.env) au0_._auto_1) (hpl : autoParam ((backTo pos (starEach es X.env)).any (·.1) = false) au0_._auto_1)
    (ht : autoParam (eval (.Call (.Attribute o m apos) (e :: es) [] pos) X.env = (do
      let ov ← eval o X.env
      standAt apos.atName
      let (g, first) ← holding [ov] (getMethod ov m pl)
      callWith pos g first (backTo pos (starEach (e :: es) X.env)) (backToKw pos (keywordEach [] X.env)))) au0_._auto_1) : QE X (.Call (.Attribute o m apos) (e :: es) [] pos) (tMeth C m sp [] E0 to t) := by
  obtain ⟨fa, fd, ok, hm, hb⟩ := D.ex
  exact ⟨pe_meth ho.h c hm ok hr hb .nil pass0 ha.h he hpl ht⟩
theorem pe_dm0 (D : Dm X.prog X.w X.K X.mg X.base k C m ps sp) (c : Cls X.K C) (hr : Room k X.A) (ho : QE X o to) {pl : Sem Bool}
    (ht : autoParam (eval (.Call (.Attribute o m apos) [] [] pos) X.env = (do
      let ov ← eval o X.env
      standAt apos.atName
      let (g, first) ← holding [ov] (getMethod ov m pl)
      callWith pos g first (backTo pos (starEach [] X.env)) (backToKw pos (keywordEach [] X.env)))) au0_._auto_1) : QE X (.Call (.Attribute o m apos) [] [] pos) (tMeth C m sp [] E0 to tNil) := by
  obtain ⟨fa, fd, ok, hm, hb⟩ := D.ex
  exact ⟨pe_meth0 ho.h c hm ok hr hb .nil pass0 ht⟩
end
end Jd

namespace My
open PySem PySem.Spec PyProof.Rows L2 Mth
theorem extC {X : Cx} (K : PySem.W.Frag) {o e : Expr} {to te : TE} {apos cpos : Pos} (ho : PE X o to) (he : PE X e te) (h : autoParam (X.K = K) au0_._auto_1)
    (hbase : autoParam (attributeBase o "extend" X.env (eval o X.env) = eval o X.env) au0_._auto_1)
    (hfew : autoParam (((backTo cpos (starEach (e :: []) X.env)).all (fun x => !x.1) && (backToKw cpos (keywordEach [] X.env)).all (fun x => x.1.isSome)
      && decide ((e :: ([] : List Expr)).length + ([] : List Keyword).length + (if ([] : List Keyword).isEmpty then 0 else 1) < 30)) = true) au0_._auto_1)
    (hline : autoParam ((apos.endLine == cpos.line) = true) au0_._auto_1) (hs : autoParam (starEach (e :: []) X.env = (false, eval e X.env) :: starEach [] X.env) au0_._auto_1) (hplain : autoParam ((backTo cpos (starEach [] X.env)).any (·.1) = false) au0_._auto_1) :
    PE X (.Call (.Attribute o "extend" apos) [e] [] cpos) (tBM K "list" rExtend to (tCons te tNil)) :=
  h ▸ pe_bm PySem.F.plainAttrs_list PySem.F.slot_list_extend PySem.F.type_list_extend mt_extend ho (pa_cons he pa_nil hs) hbase hfew hline hs hplain
theorem r_ext {p b : Addr} {xs zs : List V} {H : Hp} {Q : VK} (h : H p = some (.lst xs)) (hb : H b = some (.lst zs)) (hl : xs.length + zs.length ≤ sizeLine) (q : Q .non (upd H p (.lst (xs ++ zs)))) : rExtend (.ref p) [.ref b] H Q := ⟨p, b, xs, zs, rfl, rfl, h, hb, hl, q⟩
end My
namespace Jd
open PySem PySem.Spec PyProof.Rows L2 Mth
theorem extC {X : Cx} (K : PySem.W.Frag) {o e : Expr} {to te : TE} {apos cpos : Pos} (ho : QE X o to) (he : QE X e te) (h : autoParam (X.K = K) au0_._auto_1)
    (hbase : autoParam (attributeBase o "extend" X.env (eval o X.env) = eval o X.env) au0_._auto_1)
    (hfew : autoParam (((backTo cpos (starEach (e :: []) X.env)).all (fun x => !x.1) && (backToKw cpos (keywordEach [] X.env)).all (fun x => x.1.isSome)
      && decide ((e :: ([] : List Expr)).length + ([] : List Keyword).length + (if ([] : List Keyword).isEmpty then 0 else 1) < 30)) = true) au0_._auto_1)
    (hline : autoParam ((apos.endLine == cpos.line) = true) au0_._auto_1) (hs : autoParam (starEach (e :: []) X.env = (false, eval e X.env) :: starEach [] X.env) au0_._auto_1) (hplain : autoParam ((backTo cpos (starEach [] X.env)).any (·.1) = false) au0_._auto_1) :
    QE X (.Call (.Attribute o "extend" apos) [e] [] cpos) (tBM K "list" rExtend to (tCons te tNil)) := ⟨My.extC K ho.h he.h h hbase hfew hline hs hplain⟩
end Jd
namespace L2
open PySem PySem.Spec PyProof.Rows
theorem lenS {α : Type} {n : Nat} : ∀ {us : List α}, us.length = n + 1 → ∃ (a : α) (as : List α), us = a :: as ∧ as.length = n
  | [], h => nomatch h
  | a :: as, h => ⟨a, as, rfl, Nat.succ.inj h⟩
theorem len0 {α : Type} : ∀ {us : List α}, us.length = 0 → us = []
  | [], _ => rfl
  | _ :: _, h => nomatch h
theorem Fun.binds1 {K : PySem.W.Frag} {x qual : Str} {st : Stmt} {f : Addr} {fd : FuncData} {pa : Str} (F : Fun K x qual st f fd) (h : ∀ (kV doc pm : Value) (an : Option Addr) (cdv ct ua : Value), bindArgs (PySem.W.fnOf x qual (defArgs st) (defBody st) (defScope st) .none kV doc pm an cdv ct) ⟨[ua], []⟩ = pure [(pa, ua)]) : Binds K fd [pa] [] :=
  F.binds fun kV doc pm an cdv ct us hl => by
    obtain ⟨ua, us0, rfl, hl0⟩ := lenS (n := 0) hl
    obtain rfl := len0 hl0
    exact h kV doc pm an cdv ct ua
theorem Fun.binds2 {K : PySem.W.Frag} {x qual : Str} {st : Stmt} {f : Addr} {fd : FuncData} {pa pb : Str} (F : Fun K x qual st f fd) (h : ∀ (kV doc pm : Value) (an : Option Addr) (cdv ct ua ub : Value), bindArgs (PySem.W.fnOf x qual (defArgs st) (defBody st) (defScope st) .none kV doc pm an cdv ct) ⟨[ua, ub], []⟩ = pure [(pa, ua), (pb, ub)]) : Binds K fd [pa, pb] [] :=
  F.binds fun kV doc pm an cdv ct us hl => by
    obtain ⟨ua, us1, rfl, hl1⟩ := lenS (n := 1) hl
    obtain ⟨ub, us0, rfl, hl0⟩ := lenS (n := 0) hl1
    obtain rfl := len0 hl0
    exact h kV doc pm an cdv ct ua ub
theorem Fun.binds3 {K : PySem.W.Frag} {x qual : Str} {st : Stmt} {f : Addr} {fd : FuncData} {pa pb pc : Str} (F : Fun K x qual st f fd) (h : ∀ (kV doc pm : Value) (an : Option Addr) (cdv ct ua ub uc : Value), bindArgs (PySem.W.fnOf x qual (defArgs st) (defBody st) (defScope st) .none kV doc pm an cdv ct) ⟨[ua, ub, uc], []⟩ = pure [(pa, ua), (pb, ub), (pc, uc)]) : Binds K fd [pa, pb, pc] [] :=
  F.binds fun kV doc pm an cdv ct us hl => by
    obtain ⟨ua, us2, rfl, hl2⟩ := lenS (n := 2) hl
    obtain ⟨ub, us1, rfl, hl1⟩ := lenS (n := 1) hl2
    obtain ⟨uc, us0, rfl, hl0⟩ := lenS (n := 0) hl1
    obtain rfl := len0 hl0
    exact h kV doc pm an cdv ct ua ub uc
theorem Fun.binds4 {K : PySem.W.Frag} {x qual : Str} {st : Stmt} {f : Addr} {fd : FuncData} {pa pb pc pd : Str} (F : Fun K x qual st f fd) (h : ∀ (kV doc pm : Value) (an : Option Addr) (cdv ct ua ub uc ud : Value), bindArgs (PySem.W.fnOf x qual (defArgs st) (defBody st) (defScope st) .none kV doc pm an cdv ct) ⟨[ua, ub, uc, ud], []⟩ = pure [(pa, ua), (pb, ub), (pc, uc), (pd, ud)]) : Binds K fd [pa, pb, pc, pd] [] :=
  F.binds fun kV doc pm an cdv ct us hl => by
    obtain ⟨ua, us3, rfl, hl3⟩ := lenS (n := 3) hl
    obtain ⟨ub, us2, rfl, hl2⟩ := lenS (n := 2) hl3
    obtain ⟨uc, us1, rfl, hl1⟩ := lenS (n := 1) hl2
    obtain ⟨ud, us0, rfl, hl0⟩ := lenS (n := 0) hl1
    obtain rfl := len0 hl0
    exact h kV doc pm an cdv ct ua ub uc ud
end L2
namespace My
open PySem PySem.Spec PyProof.Rows L2
theorem seq_cut {t u : TS} {D : Ends} {σ : L2.St} {H : Hp} (Pv : L2.St → Hp → Prop) (rest : ∀ σ' H', Pv σ' H' → u D σ' H') (h : ∀ N : L2.St → Hp → Prop, (∀ σ' H', Pv σ' H' → N σ' H') → t { D with nx := N } σ H) : tSeq t u D σ H := h (u D) rest
theorem nx_of {N : L2.St → Hp → Prop} {rt : VK} {bk ct : L2.St → Hp → Prop} {σ : L2.St} {H : Hp} (h : N σ H) : (Ends.mk N rt bk ct).nx σ H := h
theorem body_cut {g : TG} {tb : TS} {x : V} {σ : L2.St} {H : Hp} {Pv bk : L2.St → Hp → Prop} {rt : VK} (h : ∀ (M B : L2.St → Hp → Prop) (R : VK), (∀ σ H, Pv σ H → M σ H) → (∀ σ H, bk σ H → B σ H) → (∀ v H, rt v H → R v H) → g x σ H fun σ2 H2 => tb (Ends.mk M R B M) σ2 H2) : g x σ H fun σ2 H2 => tb (Ends.mk Pv rt bk Pv) σ2 H2 := h Pv bk rt (fun _ _ z => z) (fun _ _ z => z) (fun _ _ z => z)
end My

namespace My
open PySem PySem.Spec PyProof.Rows L2 Mth
end My
namespace Jd
open PySem PySem.Spec PyProof.Rows L2 Mth
end Jd

namespace My
open PySem PySem.Spec PyProof.Rows L2 Mth
theorem inv_turned {X : Cx} {pins : List (Addr × Obj)} {σ : L2.St} {H : Hp} {s : Shared} {h' : Heap} {t' : Nat} (ch : List Addr) (I : L2.Inv X pins σ H s) (k : ∀ b u, b ∉ ch → s.heap.get? b = some u → h'.get? b = some u)
    (hf : ∀ b ∈ ch, FpOk X pins H b) : L2.Inv X pins σ H { s with heap := h', toks := t' } := by
  have out : ∀ b u, H b = some u → b ∉ ch := fun b u e z => by rw [(hf b z).1] at e; cases e
  refine I.step (g' := s.gens) (d' := s.drawn) (ch := ch) (fun b hb => ?_) (fun b u _ _ hc e _ => k b u hc e) (fun b u _ _ hc e _ => ⟨u.slots, k b u hc e⟩) (fun b u hc e z => z) (fun b u hc e => ⟨u, k b u hc e⟩)
    (fun b xs e => e) (fun b u v e => e) (fun b ps e => ⟨#[], by rw [e]; simp⟩) (fun m hm => ?_) (fun b u e => ?_) I.bare
  · obtain ⟨_, f1, _, f3, f4, f5⟩ := hf b hb
    exact ⟨f3, f1, f4, f5⟩
  · obtain ⟨u, es, ep, hu, r⟩ := hm
    exact ⟨u, es, ep, k _ u (fun z => (hf _ z).2.1 rfl) hu, r⟩
  · exact ObjOk.stay (I.hok b u e) (fun c v hc q => k c v (hc.elim (fun z => z ▸ out b u e) fun z => out c _ z) q) (fun c q => q) fun c xs q => q
noncomputable def Itz (K : PySem.W.Frag) (a b : Addr) : It :=
  ⟨fun i H => ∃ xs ys x y, SqL K H a xs ∧ SqL K H b ys ∧ xs[i]? = some x ∧ ys[i]? = some y,
   fun i H v H' => ∃ (p : Addr) (x y : V), H p = none ∧ v = .ref p ∧ H' = upd H p (.tup [x, y]) ∧ (∀ xs, SqL K H a xs → xs[i]? = some x) ∧ ∀ ys, SqL K H b ys → ys[i]? = some y,
   fun i H => ∃ xs ys, SqL K H a xs ∧ SqL K H b ys ∧ (xs.length ≤ i ∨ ys.length ≤ i)⟩
theorem turn_zip {P : Program} {w : World} {K : PySem.W.Frag} {elts : List Expr} {kt : Nat} {tpos : Pos} (z TI TO i1 i2 a b : Addr) (D : ZipApart z TI TO i1 i2 a b) :
    Turn P w K (.Tuple elts kt tpos) (Itz K a b) [z, TI, TO, i1, i2] z (fun i h => IsZip h z TI TO .none ∧ IsPair h TI (.ref i1) (.ref i2) ∧ (∃ u v, IsPair h TO u v) ∧ h.IsListIter i1 a i ∧ h.IsListIter i2 b i) where
  mem := by simp
  obj := fun i h st c hc => by
    obtain ⟨hz, hTI, ⟨u, v, hTO⟩, ⟨o1, e1, _, d1⟩, ⟨o2, e2, _, d2⟩⟩ := st
    rcases (show c = z ∨ c = TI ∨ c = TO ∨ c = i1 ∨ c = i2 by simpa using hc) with rfl | rfl | rfl | rfl | rfl
    · exact ⟨_, hz, fun v q => by cases q⟩
    · exact ⟨_, hTI, fun v q => by cases q⟩
    · exact ⟨_, hTO, fun v q => by cases q⟩
    · exact ⟨o1, e1, fun v q => by rw [d1] at q; cases q⟩
    · exact ⟨o2, e2, fun v q => by rw [d2] at q; cases q⟩
  keep := fun i h h' st k => by
    obtain ⟨hz, hTI, ⟨u, v, hTO⟩, h1, h2⟩ := st
    exact ⟨k z (by simp) _ hz, k TI (by simp) _ hTI, ⟨u, v, k TO (by simp) _ hTO⟩, h1.at fun o q => k i1 (by simp) o q, h2.at fun o q => k i2 (by simp) o q⟩
  item := by
    intro X hP hw hK hc i pins s σ H E I hf st hg
    subst hP hw hK
    obtain ⟨hz, hTI, ⟨u0, v0, hTO⟩, h1, h2⟩ := st
    obtain ⟨xs, ys, x, y, hq, hq', hx, hy⟩ := hg
    obtain ⟨its, rv, p, _⟩ := I.list hq
    obtain ⟨its', rv', p', _⟩ := I.list hq'
    obtain ⟨u, hu, ru⟩ := rv.get hx
    obtain ⟨v, hv, ru'⟩ := rv'.get hy
    refine wpAny_pyNext_zip_item D hz hTI hTO h1 h2 p.isList p'.isList (x := u) (y := v) (by simpa using hu) (by simpa using hv) fun h' a1 a2 a3 a4 a5 a6 hk => ?_
    refine ⟨_, rfl, wpAny_letOwnedTupleGo_zip (s := { s with heap := h' }) a1 fun h3 hz3 hs3 => ?_⟩
    have hs3' : Heap.SameBut z h' h3 := hs3
    have ke : ∀ c o, c ∉ [z, TI, TO, i1, i2] → s.heap.get? c = some o → h3.get? c = some o := fun c o hc' q => by
      have c1 : c ≠ z := fun e => hc' (by simp [e])
      exact (hs3'.2 c c1).trans (hk c o c1 (fun e => hc' (by simp [e])) (fun e => hc' (by simp [e])) (fun e => hc' (by simp [e])) q)
    have zlt : z < s.heap.objs.size := Heap.lt_size hz
    have TOlt : TO < s.heap.objs.size := Heap.lt_size hTO
    have TIlt : TI < s.heap.objs.size := Heap.lt_size hTI
    have i1lt : i1 < s.heap.objs.size := by obtain ⟨_, e, _⟩ := h1; exact Heap.lt_size e
    have i2lt : i2 < s.heap.objs.size := by obtain ⟨_, e, _⟩ := h2; exact Heap.lt_size e
    have hT3 : h3.get? s.heap.objs.size = some { cls := .type "tuple", data := .seq #[u, v] } := (hs3'.2 _ (Nat.ne_of_gt zlt)).trans a5
    have hn : H s.heap.objs.size = none := I.hok.fresh (Nat.le_refl _)
    have I2 : L2.Inv X pins σ (upd H s.heap.objs.size (.tup [x, y])) { s with heap := h3 } := by
      refine inv_turned_new (t' := s.toks) [z, TI, TO, i1, i2] I ke hf (Nat.le_refl _) ?_
      exact ⟨by show 2 ≤ sizeLine; decide, [u, v], .cons ru (.cons ru' .nil), _, hT3, rfl, _, rfl⟩
    refine ⟨.ref s.heap.objs.size, upd H s.heap.objs.size (.tup [x, y]), I2, rfl, ⟨s.heap.objs.size, x, y, hn, rfl, rfl, fun zs hz' => by rw [I.list_inj hz' hq]; exact hx, fun zs hz' => by rw [I.list_inj hz' hq']; exact hy⟩, ⟨hz3, ?_, ⟨u, v, (hs3'.2 TO D.TOz).trans a2⟩, a3.at fun o q => (hs3'.2 i1 D.i1z).trans q, a4.at fun o q => (hs3'.2 i2 D.i2z).trans q⟩, fun c hc' => ?_⟩
    · exact (hs3'.2 TI D.TIz).trans (hk TI _ D.TIz D.TITO D.TIi1 D.TIi2 hTI)
    · have hc1 := (hf c hc').1
      have hc2 : c ≠ s.heap.objs.size := by
        rcases (show c = z ∨ c = TI ∨ c = TO ∨ c = i1 ∨ c = i2 by simpa using hc') with rfl | rfl | rfl | rfl | rfl
        · exact Nat.ne_of_lt zlt
        · exact Nat.ne_of_lt TIlt
        · exact Nat.ne_of_lt TOlt
        · exact Nat.ne_of_lt i1lt
        · exact Nat.ne_of_lt i2lt
      rw [upd_ne hc2]
      exact hc1
  done := by
    intro X hP hw hK hc i pins s σ H E I hf st hg
    subst hP hw hK
    obtain ⟨hz, hTI, ⟨u0, v0, hTO⟩, h1, h2⟩ := st
    obtain ⟨xs, ys, hq, hq', hx⟩ := hg
    obtain ⟨its, rv, p, _⟩ := I.list hq
    obtain ⟨its', rv', p', _⟩ := I.list hq'
    have hl := rv.length
    have hl' := rv'.length
    refine wpAny_pyNext_zip_end (I.ok.hd hc) D hz hTI hTO h1 h2 p.isList p'.isList ?_ fun h' hk => ⟨rfl, ?_⟩
    · rcases hx with q | q
      · exact .inl (by simp; (first | lia | omega))
      · exact .inr (by simp; (first | lia | omega))
    · exact inv_turned (t' := s.toks) [z, TI, TO, i1, i2] I (fun c o hc' q => hk c o (fun e => hc' (by simp [e])) (fun e => hc' (by simp [e])) (fun e => hc' (by simp [e])) (fun e => hc' (by simp [e])) q) hf
  self := fun _ _ _ _ _ st h => wpAny_pyIter_zip st.1 h
noncomputable def iZip (K : PySem.W.Frag) (ta : TA) : TI := fun σ H R => ta σ H fun vs H1 => ∃ a b xs ys, vs = [.ref a, .ref b] ∧ SqL K H1 a xs ∧ SqL K H1 b ys ∧ R (Itz K a b) H1
section
variable {X : Cx} {a b : Expr} {ta : TA} {p pos : Pos} {elts : List Expr} {kt : Nat} {tpos : Pos}
theorem pi_zip (K : PySem.W.Frag) (hg : Gl X "zip") (hm : X.mg "zip" = none) (ha : PA X [a, b] ta) (hs : autoParam (starEach [a, b] X.env = (false, eval a X.env) :: starEach [b] X.env) au0_._auto_1) (hs2 : autoParam (starEach [b] X.env = [(false, eval b X.env)]) au0_._auto_1) (hK : autoParam (X.K = K) au0_._auto_1) :
    PI X (.Tuple elts kt tpos) (.Call (.Name "zip" p) [a, b] [] pos) (iZip K ta) := by
  subst hK
  intro pins s σ H R I h
  refine Call_ (ld_blt I hg hm boot_zip (PyProof.Rows.callWith_type1 (thn (ha pos pins s σ H _ I h) fun us s1 ⟨vs, H1, I1, r1, q1⟩ => ?_) hs (by rw [hs2]; rfl)))
  obtain ⟨l, l', xs, ys, e, hq, hq', q⟩ := q1
  subst e
  cases r1 with
  | cons r rr =>
    cases rr with
    | cons r' rr' =>
      cases rr'
      cases r
      cases r'
      obtain ⟨its, rv, pl, _⟩ := I1.list hq
      obtain ⟨its', rv', pl', _⟩ := I1.list hq'
      have a1 : l < s1.heap.objs.size := by obtain ⟨_, e, _⟩ := pl.isList; exact Heap.lt_size e
      have a2 : l' < s1.heap.objs.size := by obtain ⟨_, e, _⟩ := pl'.isList; exact Heap.lt_size e
      refine call_zip_2 pl.isList pl'.isList fun h' hz hTI hTO hi1 hi2 hsz hk => ?_
      have I2 : L2.Inv X pins σ H1 { s1 with heap := h' } := I1.kept (t' := s1.toks) hk
      refine wpAny_pyIter_zip (s := { s1 with heap := h' }) hz ?_
      refine ⟨s1.heap.objs.size + 4, [s1.heap.objs.size + 4, s1.heap.objs.size + 2, s1.heap.objs.size + 3, s1.heap.objs.size, s1.heap.objs.size + 1], _, _, H1, rfl, I2, turn_zip _ _ _ _ _ l l' (zipApart_new a1 a2), ⟨hz, hTI, ⟨_, _, hTO⟩, hi1, hi2⟩, fun c hc => ?_, q⟩
      have fp : ∀ k, FpOk X pins H1 (s1.heap.objs.size + k) := fun k => I1.fpOk (Nat.le_add_right _ _) (I1.hok.fresh (Nat.le_add_right _ _))
      rcases (show c = s1.heap.objs.size + 4 ∨ c = s1.heap.objs.size + 2 ∨ c = s1.heap.objs.size + 3 ∨ c = s1.heap.objs.size ∨ c = s1.heap.objs.size + 1 by simpa using hc) with rfl | rfl | rfl | rfl | rfl
      · exact fp 4
      · exact fp 2
      · exact fp 3
      · exact fp 0
      · exact fp 1
end
section
variable {σ : L2.St} {H : Hp} {K : PySem.W.Frag}
theorem r_zip {ta : TA} {R : It → Hp → Prop} (h : ta σ H fun vs H1 => ∃ a b xs ys, vs = [.ref a, .ref b] ∧ SqL K H1 a xs ∧ SqL K H1 b ys ∧ R (Itz K a b) H1) : iZip K ta σ H R := h
end
section
variable {n : Nat} {cap : List Nat} {g : TG} {tt : TT} {te : TE} {σ : L2.St} {H : Hp} {Q : VK} {K : PySem.W.Frag}
theorem compB_zip {a b : Addr} {xs ys : List V} {N0' : Nat} (hn1 : N0' ≤ xs.length) (hn2 : N0' ≤ ys.length) (hn : xs.length ≤ N0' ∨ ys.length ≤ N0') (hok : ∀ H2, Same H H2 → SqL K H2 a xs ∧ SqL K H2 b ys) (hl : N0' ≤ 1000) (P : Nat → List V → Hp → Prop) (h0 : P 0 [] H)
    (step : ∀ (D : Addr) (i : Nat) (x y : V) (us : List V) (H2 H3 : Hp) (p : Addr) (σ0 : L2.St) (N : VK) (N0 : Hp → Prop), σ0.length = n → H D = none → H2 D = some (.lst us) → Same H H2 → Same H2 H3 → H3 p = some (.tup [x, y]) → i < N0' → xs[i]? = some x → ys[i]? = some y → us.length ≤ i → P i us (rm D H2) →
      (∀ v H6, Same H3 H6 → P (i + 1) (us ++ [v]) (rm D H6) → N v H6) → (∀ H5, Same H3 H5 → P (i + 1) us (rm D H5) → N0 H5) →
      g (.ref p) (σ0 ++ capV cap σ) H3 fun σ2 H4 => (∃ σ1, σ1.length = n ∧ σ2 = σ1 ++ capV cap σ) ∧ tt σ2 H4 fun b H5 => if b = true then te σ2 H5 N else N0 H5)
    (done : ∀ (D : Addr) (us : List V) (H2 : Hp), H D = none → H2 D = some (.lst us) → Same H H2 → us.length ≤ N0' → P N0' us (rm D H2) → Q (.ref D) H2) : CompB n cap g tt te σ Q (Itz K a b) H := by
  intro D hD
  refine ⟨fun i m us H2 => H2 D = some (.lst us) ∧ Same H H2 ∧ us.length ≤ i ∧ i ≤ N0' ∧ m = N0' - i ∧ P i us (rm D H2), ⟨N0', upd_same, same_at (Same.refl _) hD, Nat.zero_le _, Nat.zero_le _, rfl, ?_⟩, ?_⟩
  · rw [rm_upd]
    have e : rm D H = H := by
      funext b
      by_cases h : b = D
      · rw [h, hD]; exact if_pos rfl
      · exact rm_at h
    rw [e]; exact h0
  · rintro i m us H2 ⟨e, s, hu, hi, rfl, p⟩
    refine ⟨e, ?_⟩
    obtain ⟨q, q'⟩ := hok H2 s
    by_cases hlt : i < N0'
    · refine .inr ⟨⟨xs, ys, xs[i], ys[i], q, q', List.getElem?_eq_getElem _, List.getElem?_eq_getElem _⟩, Nat.lt_of_le_of_lt (Nat.le_trans hu hi) (small1000 hl), fun v H3 σ0 h0 y => ?_⟩
      obtain ⟨pt, x', y', hnp, rfl, rfl, hx, hy⟩ := y
      have s3 := same_new hnp (.tup [x', y'])
      refine step D i x' y' us H2 _ pt σ0 _ _ h0 hD e s s3 upd_same hlt (hx xs q) (hy ys q') hu p (fun v H6 s6 p6 => ?_) fun H5 s5 p5 => ?_
      · refine ⟨(s3.trans s6) _ _ e, N0' - (i + 1), by (first | lia | omega), upd_same, same_at (s.trans (s3.trans s6)) hD, ?_, by (first | lia | omega), rfl, ?_⟩
        · rw [List.length_append, List.length_singleton]; (first | lia | omega)
        · rw [rm_upd]; exact p6
      · exact ⟨N0' - (i + 1), by (first | lia | omega), (s3.trans s5) _ _ e, s.trans (s3.trans s5), by (first | lia | omega), by (first | lia | omega), rfl, p5⟩
    · have ei : i = N0' := by (first | lia | omega)
      subst ei
      exact .inl ⟨⟨xs, ys, q, q', hn⟩, done D us H2 hD e s hu p⟩
end
end My
namespace Jd
open PySem PySem.Spec PyProof.Rows L2 My
theorem pi_zip {X : Cx} (K : PySem.W.Frag) {a b : Expr} {ta : TA} {p pos : Pos} {elts : List Expr} {kt : Nat} {tpos : Pos} (hg : Gl X "zip") (hm : X.mg "zip" = none) (ha : QA X [a, b] ta) (hs : autoParam (starEach [a, b] X.env = (false, eval a X.env) :: starEach [b] X.env) au0_._auto_1) (hs2 : autoParam (starEach [b] X.env = [(false, eval b X.env)]) au0_._auto_1) (hK : autoParam (X.K = K) au0_._auto_1) :
    QI X (.Tuple elts kt tpos) (.Call (.Name "zip" p) [a, b] [] pos) (iZip K ta) := ⟨My.pi_zip K hg hm ha.h hs hs2 hK⟩
end Jd

namespace My
open PySem PySem.Spec PyProof.Rows L2 Mth
noncomputable def Fx (K : PySem.W.Frag) (x : Str) (st : Stmt) : Prop := ∃ (f : Addr) (fd : FuncData), PySem.W.nsIn K mainGlobals x = some (some (.ref f)) ∧ Fun K x x st f fd
noncomputable def Fm (K : PySem.W.Frag) (C : Addr) (m q : Str) (st : Stmt) : Prop := ∃ (f : Addr) (fd : FuncData), PySem.W.findIn K (.ref C) m = some (some (.ref f)) ∧ PySem.W.isFn K (.ref f) = true ∧ Fun K m q st f fd
section
variable {K : PySem.W.Frag} {x m q : Str} {st : Stmt} {f C : Addr} {oc : Value} {od an : Option Addr} {osl : Array (Option Value)} {kV doc pm cdv ct : Value}
theorem fx_mk (a : PySem.W.nsIn K mainGlobals x = some (some (.ref f))) (l : K.lookup f = some ⟨oc, od, .func (PySem.W.fnOf x x (defArgs st) (defBody st) (defScope st) .none kV doc pm an cdv ct), osl⟩) (c : PySem.W.codeIn K cdv x = true) (k : PySem.W.keepIn K (.ref f) = true) : Fx K x st := ⟨f, _, a, fun_mk l c k⟩
theorem fm_mk (a : PySem.W.findIn K (.ref C) m = some (some (.ref f))) (i : PySem.W.isFn K (.ref f) = true) (l : K.lookup f = some ⟨oc, od, .func (PySem.W.fnOf m q (defArgs st) (defBody st) (defScope st) .none kV doc pm an cdv ct), osl⟩) (c : PySem.W.codeIn K cdv q = true) (k : PySem.W.keepIn K (.ref f) = true) : Fm K C m q st := ⟨f, _, a, i, fun_mk l c k⟩
end
section
variable (P : Program) (w : World) (base : Heap) {K : PySem.W.Frag} {mg : Str → Option Value} {h : Heap} {k : Nat} {x m q : Str} {ps : List Str} {sp : Sp} {st : Stmt} {f C : Addr} {fd : FuncData}
theorem dnm (X : K.In h) (G : h.Ns mainGlobals mg) (a : PySem.W.nsIn K mainGlobals x = some (some (.ref f))) (F : Fun K x x st f fd) (ok : FnOk P w K mg base CX0 k f fd ps sp) (b : Binds K fd ps []) : Dn P w K mg base k x ps sp := dn_mk F ok (PySem.W.mg_of X G a) b
theorem dmm (a : PySem.W.findIn K (.ref C) m = some (some (.ref f))) (i : PySem.W.isFn K (.ref f) = true) (F : Fun K m q st f fd) (ok : FnOk P w K mg base CX0 k f fd ps sp) (b : Binds K fd ps []) : Dm P w K mg base k C m ps sp := ⟨f, fd, ok, ⟨a, i, F.kp⟩, b⟩
end
end My

namespace My
open PySem PySem.Spec PyProof.Rows L2 Mth
theorem slT (K : PySem.W.Frag) {X : Cx} (h : autoParam (X.K = K) au0_._auto_1) : SlR X (rSlT K) := h ▸ sl_tup
end My
namespace Jd
open PySem PySem.Spec PyProof.Rows L2 Mth
end Jd
noncomputable abbrev J.a := @Jd.pv
noncomputable abbrev J.b := @Jd.pa_cons
noncomputable abbrev J.c := @Jd.pe_int
noncomputable abbrev J.d := @Jd.pa_nil
noncomputable abbrev J.e := @Jd.pe_ix
noncomputable abbrev J.f := @Jd.pss_cons
noncomputable abbrev J.g := @Jd.pe_op
noncomputable abbrev J.h := @Jd.pss_one
noncomputable abbrev J.i := @Jd.ps_set
noncomputable abbrev J.j := @Jd.pe_dn
noncomputable abbrev J.k := @Jd.ps_ret
noncomputable abbrev J.l := @Jd.go
noncomputable abbrev J.m := @Jd.pt_cmpR
noncomputable abbrev J.n := @Jd.pe_tup
noncomputable abbrev J.o := @Jd.ps_if
noncomputable abbrev J.p := @Jd.pe_fld
noncomputable abbrev J.q := @Jd.pss_nil
noncomputable abbrev J.r := @Jd.pg_name
noncomputable abbrev J.s := @Jd.pe_callB
noncomputable abbrev J.t := @Jd.pe_lst
noncomputable abbrev J.u := @Jd.ps_expr
noncomputable abbrev J.v := @Jd.pe_non
noncomputable abbrev J.w := @Jd.appC
noncomputable abbrev J.x := @Jd.ps_fld
noncomputable abbrev J.y := @Jd.ps_for
noncomputable abbrev J.z := @Jd.pe_un
noncomputable abbrev J.aa := @Jd.pgs_cons
noncomputable abbrev J.ab := @Jd.pt_val
noncomputable abbrev J.ac := @Jd.pe_cmpR
namespace My
open PySem PySem.Spec PyProof.Rows L2 Mth
section
variable {σ : L2.St} {H : Hp} {Q : VK} {K : PySem.W.Frag}
end
mutual
theorem Den.up {H H' : Hp} (s : Same H H') : ∀ {v : V} {d : PyData}, Den H v d → Den H' v d
  | _, _, .non => .non
  | _, _, .bl b => .bl b
  | _, _, .int i => .int i
  | _, _, .str x => .str x
  | _, _, .tup e dd => .tup (s _ _ e) (Dens.up s dd)
  | _, _, .lst e dd => .lst (s _ _ e) (Dens.up s dd)
theorem Dens.up {H H' : Hp} (s : Same H H') : ∀ {vs : List V} {ds : List PyData}, Dens H vs ds → Dens H' vs ds
  | _, _, .nil => .nil
  | _, _, .cons d dd => .cons (Den.up s d) (Dens.up s dd)
end
end My

local macro_rules | `(tactic| walk_at "v") => `(tactic| repeat (first
  | with_reducible refine My.r_seq ?_
  | with_reducible refine My.r_set ?_
  | with_reducible refine My.r_ret ?_
  | with_reducible refine My.r_drop ?_
  | with_reducible refine My.r_if ?_
  | with_reducible refine My.r_next ?_
  | with_reducible refine My.r_cont ?_
  | with_reducible refine My.r_break ?_
  | with_reducible refine My.r_chain ?_
  | with_reducible refine My.r_chain4 ?_
  | with_reducible refine My.r_link ?_
  | with_reducible refine My.r_end ?_
  | with_reducible refine My.r_fld ?_
  | with_reducible refine My.r_sfld ?_
  | with_reducible refine My.r_meth ?_
  | with_reducible refine My.r_make ?_
  | ((with_reducible refine' My.r_var ?e1 ?_); (case e1 => rfl))
  | with_reducible refine My.r_c ?_
  | with_reducible refine My.r_op ?_
  | with_reducible refine My.r_un ?_
  | with_reducible refine My.r_I0 ?_
  | with_reducible refine My.r_U ?_
  | with_reducible refine My.r_test ?_
  | with_reducible refine My.r_B ?_
  | with_reducible refine My.r_bl ?_
  | with_reducible refine My.r_cb ?_
  | with_reducible refine My.r_cons ?_
  | with_reducible refine My.r_nil ?_
  | with_reducible refine My.r_tup ?_
  | with_reducible refine My.r_lst ?_
  | with_reducible refine My.r_call ?_
  | with_reducible refine My.r_try ?_
  | with_reducible refine My.r_tryAs ?_
  | with_reducible refine My.r_callX ?_
  | with_reducible refine My.r_raise ?_
  | with_reducible refine My.r_par ?_
  | with_reducible refine My.r_g ?_
  | with_reducible refine My.r_absC ?_
  | with_reducible refine My.r_bits ?_
  | with_reducible refine My.r_comp ?_
  | with_reducible refine My.r_yes ?_
  | with_reducible refine My.r_gsub ?_
  | with_reducible refine My.r_rev ?_
  | with_reducible refine My.r_max ?_
  | with_reducible refine My.r_min ?_
  | with_reducible refine My.r_two ?_
  | with_reducible refine My.r_bm ?_
  | ((with_reducible refine My.r_I ?e7 ?_); (case e7 => first | decide | assumption | exact ⟨by decide, by decide, by decide⟩ | (show (0 : Int) < _; first | decide | omega) | exact My.mulR (by decide) (by decide) | exact My.mulL (by decide) (by decide)))
  | with_reducible refine My.r_not ?_
  | with_reducible refine My.r_and ?_
  | with_reducible refine My.r_or ?_
  | with_reducible refine My.r_andV ?_
  | with_reducible refine My.r_orV ?_
  | with_reducible refine My.r_notV ?_
  | with_reducible refine My.r_ife ?_
  | ((with_reducible refine My.r_eq ?e2 ?_); (case e2 => rfl))
  | ((with_reducible refine My.r_ne ?e3 ?_); (case e3 => rfl))
  | ((with_reducible refine' My.r_t0 ?e4 ?_); (case e4 => assumption))
  | ((with_reducible refine' My.r_t1 ?e5 ?_); (case e5 => assumption))
  | ((with_reducible refine' My.r_t2 ?e6 ?_); (case e6 => assumption))
  | ((with_reducible refine' My.r_t3 ?e8 ?_); (case e8 => assumption))))
local macro_rules | `(tactic| walk_at "o") => `(tactic| first
  | assumption
  | exact Nat.le_of_lt (by assumption)
  | exact Nat.lt_trans (by assumption) (by assumption)
  | exact Nat.lt_of_lt_of_le (by assumption) (by assumption)
  | exact Nat.le_trans (by assumption) (by assumption)
  | exact Int.le_of_lt (by assumption)
  | exact Int.ne_of_gt (by assumption)
  | exact Int.ne_of_lt (by assumption)
  | exact Int.natCast_nonneg _
  | lia
  | omega)
local macro_rules | `(tactic| walk_at "fx") => `(tactic| (refine' My.fx_mk ?a ?l ?c ?k; (case a => k_is); (case l => k_is); (case c => k_is); (case k => k_is)))
local macro_rules | `(tactic| walk_at "fm") => `(tactic| (refine' My.fm_mk ?a ?i ?l ?c ?k; (case a => k_is); (case i => k_is); (case l => k_is); (case c => k_is); (case k => k_is)))
local macro_rules | `(tactic| walk_at "fz") => `(tactic| first | walk_at "fx" | walk_at "fm" | k_is | k_exc | kts_exm)
local macro_rules | `(tactic| walk_at "vs") => `(tactic| first
  | with_reducible refine My.r_sl ?_
  | with_reducible refine My.r_part ?_
  | with_reducible refine My.r_nopart ?_
  | with_reducible refine My.r_pi ?_)
local macro_rules | `(tactic| walk_at "vd") => `(tactic| ((walk_at "v"); (repeat ((walk_at "vs"); (walk_at "v")))))
--@skip _law_of_run
--@without 02x_exc.lean 02y_excas.lean 02h_rev.lean 02i_revit.lean
namespace Lw
open PySem L2 Mth My
noncomputable def top (i : Nat) : Stmt := PySem.Challenge.pw_lath_k48_planted_lines.main.body.getD i (.Pass ⟨0, 0, 0, 0⟩)
noncomputable abbrev s_law_cell : Stmt := top 44
noncomputable abbrev s_law_mix : Stmt := top 45
noncomputable abbrev s_law_row : Stmt := top 46
noncomputable abbrev s_law_ratio : Stmt := top 47
noncomputable abbrev s_law_is_ratio : Stmt := top 48
noncomputable abbrev s_plain_divisor : Stmt := top 6
noncomputable abbrev s_steps_of_heads : Stmt := top 7
noncomputable abbrev s_divisor : Stmt := top 8
noncomputable abbrev s_ratio : Stmt := top 9
noncomputable abbrev s_reduced : Stmt := top 10
noncomputable abbrev s_loose_plus : Stmt := top 11
noncomputable abbrev s_loose_minus : Stmt := top 12
noncomputable abbrev s_loose_times : Stmt := top 13
noncomputable abbrev s_minus : Stmt := top 15
noncomputable abbrev s_plus : Stmt := top 14
noncomputable abbrev s_over : Stmt := top 16
noncomputable abbrev s_loose_slope : Stmt := top 22
noncomputable abbrev s_loose_along : Stmt := top 23
noncomputable abbrev s_loose_height : Stmt := top 24
noncomputable abbrev s_loose_off : Stmt := top 25
noncomputable abbrev s_line_by : Stmt := top 26
noncomputable abbrev s_height : Stmt := top 27
noncomputable abbrev s_meet : Stmt := top 28
noncomputable abbrev s_order : Stmt := top 17
noncomputable abbrev s_law_less : Stmt := top 51
noncomputable abbrev s_runs : Stmt := top 37
noncomputable abbrev s_law_handed : Stmt := top 49
noncomputable abbrev s_greatest : Stmt := top 19
noncomputable abbrev s_smallest : Stmt := top 20
noncomputable abbrev s_gentlest_with : Stmt := top 30
noncomputable abbrev s_steepest_with : Stmt := top 31
noncomputable abbrev s_opposite : Stmt := top 18
noncomputable abbrev s_is_steeper : Stmt := top 33
noncomputable abbrev s_touched : Stmt := top 34
noncomputable abbrev s_Bend_init : Stmt := inClass (top 35) 0
noncomputable abbrev s_Bend_line_of : Stmt := inClass (top 35) 4
noncomputable abbrev s_Bend_ended_in_cap : Stmt := inClass (top 35) 2
noncomputable abbrev s_Bend_ended_in_cup : Stmt := inClass (top 35) 3
noncomputable abbrev s_Bend_take : Stmt := inClass (top 35) 1
noncomputable abbrev s_Bend_line_now : Stmt := inClass (top 35) 5
noncomputable abbrev s_links_of : Stmt := top 39
noncomputable abbrev s_point_on : Stmt := top 40
noncomputable abbrev s_pieces_along : Stmt := top 41
noncomputable abbrev s_joined : Stmt := top 42
noncomputable abbrev s_law_is_piece : Stmt := top 50
noncomputable abbrev s_law_height : Stmt := top 52
noncomputable abbrev s_law_near : Stmt := top 53
noncomputable abbrev s_law_broken : Stmt := top 54
noncomputable abbrev s_law_planted : Stmt := top 56
noncomputable abbrev s_law : Stmt := top 57
noncomputable def spCell (K : PySem.W.Frag) : Sp := fun vs H Q _ => ∃ (a : Addr) (ns : List Int) (i : Int), vs = [.ref a, .int i] ∧ SqL K H a (ns.map V.int) ∧ 0 ≤ i ∧ i < 1000 ∧ ∀ (c : Int) (H' : Hp), Same H H' → Q (.int c) H'
noncomputable def spMix : Sp := fun vs H Q _ => ∃ (c k : Int), vs = [.int c, .int k] ∧ 0 ≤ k ∧ k < 1000 ∧ ∀ z : Int, Q (.int z) H
noncomputable def spRow (K : PySem.W.Frag) : Sp := fun vs H Q _ => ∃ (a : Addr) (ns : List Int) (i : Int) (l : Addr) (zs : List Int), vs = [.ref a, .int i, .ref l] ∧ SqL K H a (ns.map V.int) ∧ 0 ≤ i ∧ i < 900 ∧ H l = some (.lst (zs.map V.int)) ∧ zs.length ≤ 900 ∧ (∀ z ∈ zs, 0 < z ∧ z < 2 ^ 60) ∧
  ∀ (p : Addr) (xs : List Int) (H' : Hp), Same H H' → H p = none → H' p = some (.lst (xs.map V.int)) → xs.length = zs.length → (∀ (j : Nat) (x z : Int), xs[j]? = some x → zs[j]? = some z → 0 ≤ x ∧ x < z) → Q (.ref p) H'
noncomputable def spRatio : Sp := fun vs H Q _ => ∃ (t b : Int), vs = [.int t, .int b] ∧ 0 < b ∧ Sz 8000 b ∧ ∀ (p : Addr) (t' b' : Int) (H' : Hp), Same H H' → H' p = some (.tup [.int t', .int b']) → Low t b t' b' → Q (.ref p) H'
noncomputable def spIs : Sp := fun vs H Q _ => ∃ (p : Addr) (a b : Int), vs = [.ref p] ∧ H p = some (.tup [.int a, .int b]) ∧ Sz 8000 b ∧ ∀ (r : Bool) (H' : Hp), Same H H' → (r = true ↔ 1 ≤ b ∧ Int.gcd a b = 1) → Q (.bl r) H'
structure Txt (mg : Str → Option Value) : Prop where
  len_ : mg "len" = none
  abs_ : mg "abs" = none
  range : mg "range" = none
  isinstance_ : mg "isinstance" = none
  int_ : mg "int" = none
  bool_ : mg "bool" = none
  tuple_ : mg "tuple" = none
  list_ : mg "list" = none
  max_ : mg "max" = none
  min_ : mg "min" = none
  enumerate_ : mg "enumerate" = none
  zip_ : mg "zip" = none
  all_ : mg "all" = none
  any_ : mg "any" = none
  sum_ : mg "sum" = none
  sorted_ : mg "sorted" = none
  reversed_ : mg "reversed" = none
  str_ : mg "str" = none
theorem ints_at {ns : List Int} {i : Int} (h0 : 0 ≤ i) (h : i < (ns.length : Int)) : ∃ v : Int, atI (ns.map V.int) i = some (.int v) := by
  have hk : i.toNat < ns.length := by walk_at "o"
  exact ⟨ns[i.toNat], at_ints (List.getElem?_eq_getElem hk) (by walk_at "o")⟩
theorem cut_int {ns : List Int} {lo hi : Option Int} {i : Nat} {y : V} (h : (cutV (ns.map V.int) lo hi)[i]? = some y) : ∃ m : Int, y = .int m := by
  have hm : y ∈ cutV (ns.map V.int) lo hi := List.mem_of_getElem? h
  unfold cutV at hm
  obtain ⟨m, _, e⟩ := List.mem_map.mp (List.mem_of_mem_drop (List.mem_of_mem_take hm))
  exact ⟨m, e.symm⟩
theorem mcast (x y : Nat) : ((x : Int) % (y : Int)) = ((x % y : Nat) : Int) := (Int.natCast_emod x y).symm
theorem abs_cast (t : Int) : (if t < 0 then -t else t) = (t.natAbs : Int) := by split <;> walk_at "o"
noncomputable def cellN (i : Nat) (σ : St) : Nat := match σ[i]? with | some (some (V.int n)) => n.toNat | _ => 0
noncomputable def third (σ : St) : Nat := match σ[3]? with | some (some (V.int n)) => n.toNat | _ => 0
section
variable {P : Program} {w : World} {K : PySem.W.Frag} {mg : Str → Option Value} {base : Heap} {f : Addr} {fd : FuncData}
theorem sc_law_cell : FnScope ["_law_script", "_law_place", "_law_seed", "_law_cell_here"] ["_law_script", "_law_place"] (defScope s_law_cell) := ⟨rfl, rfl, rfl, by decide +kernel, rfl, by decide +kernel, by decide +kernel⟩
theorem ok_law_cell (F : Fun K "_law_cell" "_law_cell" s_law_cell f fd) (T : Txt mg) : FnOk P w K mg base CX0 1 f fd ["_law_script", "_law_place"] (spCell K) := by
  refine F.ok sc_law_cell (fun vs H Q E h => ?_) (fun cdv A outer s H vs Q E hr h => ?_)
  · obtain ⟨a, ns, i, rfl, _⟩ := h
    rfl
  obtain ⟨a, ns, i, rfl, hS, h0, h1, k⟩ := h
  refine J.l ⟨_, (J.f (J.o (J.m op_lt (J.a 1) (J.s (lenC K) rfl T.len_ PySem.boot_len (J.b (J.a 0) J.d st_N) (he := st_N) (hpl := any0)) (nomark _))
      (J.h (J.k (J.e (ixL K) (J.a 0) (J.a 1) (fun _ _ => rfl))))
      J.q)
      (J.f (J.i (i := 2) sc_law_cell.nd rfl (Or.inl rfl) J.c (hs := sw_C))
      (J.f (J.y PassesOwn.never rfl (Jd.piL K (Jd.pe_slice (slL K) (J.a 0) Jd.po_none (Jd.po_some J.c))) (J.r (i := 3) sc_law_cell.nd rfl (Or.inl rfl))
      (J.h (J.i (i := 2) sc_law_cell.nd rfl (Or.inl rfl) (J.g op_mod (J.g op_add (J.g op_add (J.g op_mulB (J.a 2) J.c) (J.g op_mod (J.a 3) J.c)) J.c) J.c) (hs := sw_B))))
      (J.h (J.k (J.g op_mod (J.g op_add (J.a 2) (J.g op_mulB J.c (J.a 1))) J.c)))))), ?_⟩
  walk_at "v"
  refine r_len (.inl hS) ?_
  walk_at "v"
  refine ite2 (fun c => ?_) (fun c => ?_)
  · have c' := of_decide_eq_true c
    rw [List.length_map] at c'
    obtain ⟨v, hv⟩ := ints_at (ns := ns) h0 c'
    walk_at "v"
    exact ⟨a, _, i, _, rfl, rfl, hS, hv, k v H (Same.refl _)⟩
  · walk_at "v"
    refine ⟨_, rfl, _, rfl, a, _, rfl, hS, fun p hp => ?_⟩
    have s1 : Same H (upd H p (.lst (cutV (ns.map V.int) none (some 63)))) := same_new hp _
    have e1 : upd H p (.lst (cutV (ns.map V.int) none (some 63))) p = some (.lst (cutV (ns.map V.int) none (some 63))) := upd_same
    refine ⟨p, rfl, ⟨_, SqL.of e1⟩, for_list (K := K) (a := p) (xs := cutV (ns.map V.int) none (some 63)) (fun _ σ H2 => ∃ (z : Int) (v : Option V), σ = [some (.ref a), some (.int i), some (.int z), v] ∧ 0 ≤ z ∧ z < 2147483647 ∧ Same (upd H p (.lst (cutV (ns.map V.int) none (some 63)))) H2)
      ⟨5, none, rfl, by decide, by decide, Same.refl _⟩ (fun _ σ H2 _ ⟨_, _, _, _, _, s2⟩ => SqL.of (s2 _ _ e1)) ?_ ?_⟩
    · rintro j y σ H2 hj ⟨z, v, rfl, z0, z1, s2⟩
      obtain ⟨m, rfl⟩ := cut_int hj
      walk_at "v"
      exact ⟨_, _, rfl, Int.emod_nonneg _ (by decide), Int.emod_lt_of_pos _ (by decide), s2⟩
    · rintro σ H2 ⟨z, v, rfl, z0, z1, s2⟩
      walk_at "v"
      exact k _ _ (s1.trans s2)
theorem sc_law_mix : FnScope ["_law_cell_here", "_law_k", "_law_one", "_law_two"] ["_law_cell_here", "_law_k"] (defScope s_law_mix) := ⟨rfl, rfl, rfl, by decide +kernel, rfl, by decide +kernel, by decide +kernel⟩
theorem ok_law_mix (F : Fun K "_law_mix" "_law_mix" s_law_mix f fd) : FnOk P w K mg base CX0 1 f fd ["_law_cell_here", "_law_k"] spMix := by
  refine F.ok sc_law_mix (fun vs H Q E h => ?_) (fun cdv A outer s H vs Q E hr h => ?_)
  · obtain ⟨c, k, rfl, _⟩ := h
    rfl
  obtain ⟨c, j, rfl, h0, h1, k⟩ := h
  refine J.l ⟨_, (J.f (J.i (i := 2) sc_law_mix.nd rfl (Or.inl rfl) (J.g op_mod (J.g op_pow (J.g op_add (J.g op_add (J.g op_mod (J.a 0) J.c) (J.g op_mulB J.c (J.a 1))) J.c) J.c) J.c) (hs := sw_B))
      (J.f (J.i (i := 3) sc_law_mix.nd rfl (Or.inl rfl) (J.g op_mod (J.g op_add (J.g op_add (J.g op_mulB (J.a 2) J.c) (J.g op_mulB (J.g op_mulB J.c (J.a 1)) (J.a 1))) J.c) J.c) (hs := sw_B))
      (J.h (J.k (J.g op_fdivB (J.a 3) J.c))))), ?_⟩
  have b0 : 0 ≤ c % 2147483629 := Int.emod_nonneg _ (by decide)
  have b1 : c % 2147483629 < 2147483629 := Int.emod_lt_of_pos _ (by decide)
  walk_at "v"
  refine r_I (show CPow _ _ from ⟨by decide, by decide, by walk_at "o"⟩) ?_
  walk_at "v"
  refine r_I (mulR (by walk_at "o") (by walk_at "o")) ?_
  walk_at "v"
  refine r_I (show CDivB _ _ from ⟨by decide, by decide +kernel⟩) ?_
  exact k _
theorem sc_law_row : FnScope ["_law_script", "_law_place", "_law_sizes", "_law_cell_here", "_law_left", "_law_some", "_law_k", "_law_other"] ["_law_script", "_law_place", "_law_sizes"] (defScope s_law_row) := ⟨rfl, rfl, rfl, by decide +kernel, rfl, by decide +kernel, by decide +kernel⟩
theorem ok_law_row (F : Fun K "_law_row" "_law_row" s_law_row f fd) (T : Txt mg) (D_law_cell : Dn P w K mg base 1 "_law_cell" ["_law_script", "_law_place"] (spCell K)) (D_law_mix : Dn P w K mg base 1 "_law_mix" ["_law_cell_here", "_law_k"] spMix) :
    FnOk P w K mg base CX0 3 f fd ["_law_script", "_law_place", "_law_sizes"] (spRow K) := by
  refine F.ok sc_law_row (fun vs H Q E h => ?_) (fun cdv A outer s H vs Q E hr h => ?_)
  · obtain ⟨a, ns, i, l, zs, rfl, _⟩ := h
    rfl
  obtain ⟨a, ns, i, l, zs, rfl, hS, h0, h1, hl, hz, hzs, k⟩ := h
  refine J.l ⟨_, (J.f (J.i (i := 3) sc_law_row.nd rfl (Or.inl rfl) (J.j D_law_cell (hr.mono (by decide)) rfl (J.b (J.a 0) (J.b (J.a 1) J.d st_N) st_N) (he := st_N) (hpl := (anyc st_N any0))) (hs := sw_K))
      (J.f (J.i (i := 4) sc_law_row.nd rfl (Or.inl rfl) (J.a 3) (hs := sw_N))
      (J.f (J.i (i := 5) sc_law_row.nd rfl (Or.inl rfl) (J.t J.d) (hs := sw_L))
      (J.f (J.y PassesOwn.never rfl (Jd.pi_range1 rfl T.range (J.b (J.s (lenC K) rfl T.len_ PySem.boot_len (J.b (J.a 2) J.d st_N) (he := st_N) (hpl := any0)) J.d st_K)) (J.r (i := 6) sc_law_row.nd rfl (Or.inl rfl))
      (J.h (J.o (J.m op_lt (J.a 3) (J.g op_pow J.c J.c) (nomark _))
      (J.h (J.u (J.w K (J.a 5) (J.g op_mod (J.j D_law_mix (hr.mono (by decide)) rfl (J.b (J.a 3) (J.b (J.a 6) J.d st_N) st_N) (he := st_N) (hpl := (anyc st_N any0))) (J.e (ixL K) (J.a 2) (J.a 6) (fun _ _ => rfl)))) (hs := sw_K)))
      (J.h (J.o (J.m op_gt (J.a 4) J.c (nomark _))
      (J.f (J.u (J.w K (J.a 5) (J.g op_mod (J.a 4) (J.e (ixL K) (J.a 2) (J.a 6) (fun _ _ => rfl)))) (hs := sw_K))
      (J.h (J.i (i := 4) sc_law_row.nd rfl (Or.inl rfl) (J.g op_fdivB (J.a 4) (J.e (ixL K) (J.a 2) (J.a 6) (fun _ _ => rfl))) (hs := sw_B))))
      (J.f (J.i (i := 7) sc_law_row.nd rfl (Or.inl rfl) (J.j D_law_cell (hr.mono (by decide)) rfl (J.b (J.a 0) (J.b (J.g op_mod (J.g op_add (J.g op_add (J.a 1) J.c) (J.a 6)) J.c) J.d st_B) st_N) (he := st_N) (hpl := (anyc st_B any0))) (hs := sw_K))
      (J.h (J.u (J.w K (J.a 5) (J.g op_mod (J.j D_law_mix (hr.mono (by decide)) rfl (J.b (J.a 7) (J.b (J.a 6) J.d st_N) st_N) (he := st_N) (hpl := (anyc st_N any0))) (J.e (ixL K) (J.a 2) (J.a 6) (fun _ _ => rfl)))) (hs := sw_K)))))))))
      (J.h (J.k (J.a 5))))))), ?_⟩
  walk_at "v"
  refine ⟨a, ns, i, rfl, hS, h0, by walk_at "o", fun c H1 s1 => ?_⟩
  walk_at "v"
  refine r_new (mk := .lst) (by simp) fun p H2 s2 n2 e2 => ?_
  walk_at "v"
  have hl2 : H2 l = some (.lst (zs.map V.int)) := s2 _ _ (s1 _ _ hl)
  refine ⟨_, rfl, l, _, rfl, .inl (SqL.of hl2), _, rfl, by lia, by rw [List.length_map]; lia, for_range (fun j σ H3 => ∃ (left : Int) (xs : List Int) (v6 v7 : Option V),
    σ = [some (.ref a), some (.int i), some (.ref l), some (.int c), some (.int left), some (.ref p), v6, v7] ∧ Same H1 H3 ∧ H3 p = some (.lst (xs.map V.int)) ∧ xs.length = j ∧ (∀ (j : Nat) (x z : Int), xs[j]? = some x → zs[j]? = some z → 0 ≤ x ∧ x < z)) ?_ ?_ ?_⟩
  · exact ⟨c, [], none, none, rfl, s2, e2, rfl, fun j x z e _ => by simp at e⟩
  · rintro j σ H3 hj ⟨left, xs, v6, v7, rfl, s3, e3, hx, hxs⟩
    have hj' : j < zs.length := by simpa using hj
    obtain ⟨z, ez⟩ : ∃ z, zs[j]? = some z := ⟨_, List.getElem?_eq_getElem hj'⟩
    obtain ⟨zp, zq⟩ := hzs z (List.mem_of_getElem? ez)
    have hl3 : H3 l = some (.lst (zs.map V.int)) := s3 _ _ (s1 _ _ hl)
    have ea : atI (zs.map V.int) (0 + (j : Int)) = some (.int z) := at_ints ez (by walk_at "o")
    have hS3 : SqL K H3 a (ns.map V.int) := (s1.trans s3).seq hS
    -- one more item
    have fin : ∀ (y left' : Int) (v6 v7 : Option V) (H4 : Hp), Same H3 H4 → H4 p = some (.lst (xs.map V.int)) → ∃ (left : Int) (xs' : List Int) (v6' v7' : Option V),
        [some (.ref a), some (.int i), some (.ref l), some (.int c), some (.int left'), some (.ref p), v6, v7] = [some (.ref a), some (.int i), some (.ref l), some (.int c), some (.int left), some (.ref p), v6', v7'] ∧
        Same H1 (upd H4 p (.lst (xs.map V.int ++ [.int (y % z)]))) ∧ upd H4 p (.lst (xs.map V.int ++ [.int (y % z)])) p = some (.lst (xs'.map V.int)) ∧ xs'.length = j + 1 ∧ (∀ (j : Nat) (x z : Int), xs'[j]? = some x → zs[j]? = some z → 0 ≤ x ∧ x < z) := by
      intro y left' v6 v7 H4 s4 e4
      refine ⟨left', xs ++ [y % z], v6, v7, rfl, same_at (s3.trans s4) n2, ?_, by rw [List.length_append, hx]; rfl, fun m x z' e1 e2 => ?_⟩
      · rw [upd_same, List.map_append]; rfl
      · by_cases hm : m < xs.length
        · rw [List.getElem?_append_left hm] at e1
          exact hxs m x z' e1 e2
        · have hm2 : m = j := by
            have := (List.getElem?_eq_some_iff.mp e1).1
            rw [List.length_append] at this
            simp at this
            walk_at "o"
          subst hm2
          rw [List.getElem?_append_right (by walk_at "o"), hx] at e1
          simp at e1
          rw [ez] at e2
          cases e2
          subst e1
          exact ⟨Int.emod_nonneg _ (by walk_at "o"), Int.emod_lt_of_pos _ zp⟩
    have small3 : (xs.map V.int).length < sizeLine := by rw [List.length_map]; exact small1000 (by walk_at "o")
    walk_at "v"
    refine ite2 (fun _ => ?_) (fun _ => ?_)
    · walk_at "v"
      refine ⟨.inl ⟨rfl, _, SqL.of e3⟩, ?_⟩
      walk_at "v"
      refine ⟨_, _, rfl, by walk_at "o", by walk_at "o", fun y => ?_⟩
      walk_at "v"
      refine r_l hl3 ea ?_
      refine r_I (show (0 : Int) < z from zp) ?_
      walk_at "v"
      refine r_app e3 small3 ?_
      exact fin y _ _ _ _ (Same.refl _) e3
    · walk_at "v"
      refine ite2 (fun _ => ?_) (fun _ => ?_)
      · walk_at "v"
        refine ⟨.inl ⟨rfl, _, SqL.of e3⟩, ?_⟩
        walk_at "v"
        refine r_l hl3 ea ?_
        refine r_I (show (0 : Int) < z from zp) ?_
        walk_at "v"
        refine r_app e3 small3 ?_
        walk_at "v"
        refine r_l (by rw [upd_ne (ne_of_none (s1 _ _ hl) n2)]; exact hl3) ea ?_
        refine r_I (show CDivB _ _ from ⟨by walk_at "o", Sz.log (m := 60) (Sz.of_lt (k := 2 ^ 60) (by walk_at "o") (Nat.le_refl _)) (by decide) (by decide)⟩) ?_
        exact fin left _ _ _ _ (Same.refl _) e3
      · walk_at "v"
        have q0 : 0 ≤ (i + 1 + (0 + (j : Int))) % 63 := Int.emod_nonneg _ (by decide)
        have q1 : (i + 1 + (0 + (j : Int))) % 63 < 63 := Int.emod_lt_of_pos _ (by decide)
        refine ⟨a, ns, _, rfl, hS3, q0, by walk_at "o", fun c2 H4 s4 => ?_⟩
        walk_at "v"
        refine ⟨.inl ⟨rfl, _, SqL.of (s4 _ _ e3)⟩, ?_⟩
        walk_at "v"
        refine ⟨_, _, rfl, by walk_at "o", by walk_at "o", fun y => ?_⟩
        walk_at "v"
        refine r_l (s4 _ _ hl3) ea ?_
        refine r_I (show (0 : Int) < z from zp) ?_
        walk_at "v"
        refine r_app (s4 _ _ e3) small3 ?_
        exact fin y _ _ _ _ s4 (s4 _ _ e3)
  · rintro σ H3 ⟨left, xs, v6, v7, rfl, s3, e3, hx, hxs⟩
    walk_at "v"
    exact k p xs H3 (s1.trans s3) (s1.free n2) e3 (by simpa using hx) hxs
theorem sc_law_ratio : FnScope ["_law_top", "_law_bottom", "_law_one", "_law_two"] ["_law_top", "_law_bottom"] (defScope s_law_ratio) := ⟨rfl, rfl, rfl, by decide +kernel, rfl, by decide +kernel, by decide +kernel⟩
theorem ok_law_ratio (F : Fun K "_law_ratio" "_law_ratio" s_law_ratio f fd) (T : Txt mg) : FnOk P w K mg base CX0 1 f fd ["_law_top", "_law_bottom"] spRatio := by
  refine F.ok sc_law_ratio (fun vs H Q E h => ?_) (fun cdv A outer s H vs Q E hr h => ?_)
  · obtain ⟨t, b, rfl, _⟩ := h
    rfl
  obtain ⟨t, b, rfl, hb, hz, k⟩ := h
  refine J.l ⟨_, (J.f (Jd.ps_par (i := 2) (j := 3) rfl sc_law_ratio.nd rfl rfl (by decide) rfl rfl (J.b (J.s absC rfl T.abs_ PyProof.Rows.boot_abs (J.b (J.a 0) J.d st_N) (he := st_N) (hpl := any0)) (J.b (J.a 1) J.d st_N) st_K) rfl)
      (J.f (Jd.ps_while PassesOwn.never (J.m op_gt (J.a 3) J.c (nomark _))
      (J.h (Jd.ps_par (i := 2) (j := 3) rfl sc_law_ratio.nd rfl rfl (by decide) rfl rfl (J.b (J.a 3) (J.b (J.g op_mod (J.a 2) (J.a 3)) J.d st_B) st_N) rfl)))
      (J.h (J.k (J.n (J.b (J.g op_fdivB (J.a 0) (J.a 2)) (J.b (J.g op_fdivB (J.a 1) (J.a 2)) J.d st_B) st_B)))))), ?_⟩
  walk_at "v"
  have hgb : Int.gcd t b ≤ b.natAbs := by
    have := Int.gcd_le_right (a := t) (b := b) (by walk_at "o")
    walk_at "o"
  refine while_by (fun σ H' => H' = H ∧ ∃ x y : Nat, σ = [some (.int t), some (.int b), some (.int x), some (.int y)] ∧ Nat.gcd x y = Int.gcd t b) (fun σ _ => third σ) ?_ ?_ ?_
  · refine ⟨rfl, t.natAbs, b.natAbs, ?_, rfl⟩
    rw [abs_cast]
    have e : b = ((b.natAbs : Nat) : Int) := by walk_at "o"
    rw [← e]
    rfl
  · rintro σ H' ⟨rfl, x, y, rfl, hg⟩
    walk_at "v"
    refine ite2 (fun c => ?_) (fun c => ?_)
    · have c' : (0 : Int) < (y : Int) := of_decide_eq_true c
      walk_at "v"
      refine ⟨⟨rfl, y, x % y, ?_, by rw [gcd_step]; exact hg⟩, ?_⟩
      · rw [← mcast]; rfl
      · show ((x : Int) % (y : Int)).toNat < (y : Int).toNat
        rw [mcast]
        have := Nat.mod_lt x (y := y) (by walk_at "o")
        walk_at "o"
    · have c' : ¬ (0 : Int) < (y : Int) := of_decide_eq_false (Bool.eq_false_iff.mpr c)
      have y0 : y = 0 := by walk_at "o"
      subst y0
      rw [Nat.gcd_zero_right] at hg
      subst hg
      have gp : 0 < Int.gcd t b := Int.gcd_pos_of_ne_zero_right t (by walk_at "o")
      have cd : CDivB t ((Int.gcd t b : Nat) : Int) := ⟨by walk_at "o", Sz.log (m := 8000) (Sz.of_le hz (by walk_at "o")) (by decide) (by decide)⟩
      walk_at "v"
      refine r_new (mk := .tup) (by simp) fun p H1 s1 n1 e1 => ?_
      exact k p _ _ H1 s1 e1 (low_pos hb)
  · intro σ H Q Q' h q
    obtain ⟨v, e, i, j, e1, e2, b, e3, q⟩ := q
    exact ⟨v, e, i, j, e1, e2, b, e3, h _ _ q⟩
theorem sc_law_is_ratio : FnScope ["_law_one", "_law_part"] ["_law_one"] (defScope s_law_is_ratio) := ⟨rfl, rfl, rfl, by decide +kernel, rfl, by decide +kernel, by decide +kernel⟩
theorem ok_law_is_ratio (F : Fun K "_law_is_ratio" "_law_is_ratio" s_law_is_ratio f fd) (T : Txt mg) (D_law_ratio : Dn P w K mg base 1 "_law_ratio" ["_law_top", "_law_bottom"] spRatio) : FnOk P w K mg base CX0 3 f fd ["_law_one"] spIs := by
  refine F.ok sc_law_is_ratio (fun vs H Q E h => ?_) (fun cdv A outer s H vs Q E hr h => ?_)
  · obtain ⟨p, a, b, rfl, _⟩ := h
    rfl
  obtain ⟨p, a, b, rfl, hp, hz, k⟩ := h
  have hu64 := hr.units
  refine J.l ⟨_, (J.f (J.o (Jd.PWpt (Jd.pw_or (Jd.pt_not (J.ab (J.s (isiC K) rfl T.isinstance_ PyProof.Rows.boot_isinstance (J.b (J.a 0) (J.b (Jd.pe_ty rfl T.tuple_ PyProof.Rows.boot_tuple) J.d st_N) st_N) (he := st_N) (hpl := (anyc st_N any0))))) (Jd.pw_or1 (J.m op_ne (J.s (lenC K) rfl T.len_ PySem.boot_len (J.b (J.a 0) J.d st_N) (he := st_N) (hpl := any0)) J.c (nomark _)))))
      (J.h (J.k Jd.pe_bl))
      J.q)
      (J.f (J.y PassesOwn.never rfl (Jd.piT K (J.a 0)) (J.r (i := 1) sc_law_is_ratio.nd rfl (Or.inl rfl))
      (J.h (J.o (Jd.PWpt (Jd.pw_or (J.ab (J.s (isiC K) rfl T.isinstance_ PyProof.Rows.boot_isinstance (J.b (J.a 1) (J.b (Jd.pe_ty rfl T.bool_ PyProof.Rows.boot_bool) J.d st_N) st_N) (he := st_N) (hpl := (anyc st_N any0)))) (Jd.pw_or1 (Jd.pt_not (J.ab (J.s (isiC K) rfl T.isinstance_ PyProof.Rows.boot_isinstance (J.b (J.a 1) (J.b (Jd.pe_ty rfl T.int_ PyProof.Rows.boot_int) J.d st_N) st_N) (he := st_N) (hpl := (anyc st_N any0))))))))
      (J.h (J.k Jd.pe_bl))
      J.q)))
      (J.h (J.k (Jd.pe_and (J.ac op_ge (J.e (ixT K) (J.a 0) J.c (fun _ _ => rfl)) J.c (nomark _)) (Jd.pe_one (J.ac (op_eqD hu64) (J.j D_law_ratio (hr.mono (by decide)) rfl (J.b (J.e (ixT K) (J.a 0) J.c (fun _ _ => rfl)) (J.b (J.e (ixT K) (J.a 0) J.c (fun _ _ => rfl)) J.d st_S) st_S) (he := st_S) (hpl := (anyc st_S any0))) (J.a 0) (nomark _)))))))), ?_⟩
  walk_at "v"
  refine r_isi (.tup hp) kit_tt ?_
  walk_at "v"
  refine iteF ?_
  walk_at "v"
  refine r_len (.inr (SqT.of hp)) ?_
  walk_at "v"
  refine iteF ?_
  walk_at "v"
  refine ⟨_, rfl, p, rfl, ⟨_, SqT.of hp⟩, for_tup (K := K) (a := p) (xs := [.int a, .int b]) (fun _ σ H2 => H2 = H ∧ ∃ v : Option V, σ = [some (.ref p), v]) ⟨rfl, none, rfl⟩ (fun _ σ H2 _ ⟨e, _⟩ => by subst e; exact SqT.of hp) ?_ ?_⟩
  · rintro j y σ H2 hj ⟨rfl, v, rfl⟩
    obtain ⟨m, rfl⟩ : ∃ m : Int, y = .int m := by
      have hm := List.mem_of_getElem? hj
      simp at hm
      rcases hm with h | h
      · exact ⟨_, h⟩
      · exact ⟨_, h⟩
    walk_at "v"
    refine r_isi (.int m) kit_ib ?_
    walk_at "v"
    refine iteF ?_
    walk_at "v"
    refine r_isi (.int m) kit_ii ?_
    walk_at "v"
    refine iteF ?_
    walk_at "v"
    exact ⟨rfl, _, rfl⟩
  · rintro σ H2 ⟨rfl, v, rfl⟩
    walk_at "v"
    refine ite2 (fun c => ?_) (fun c => ?_)
    · have c' : (1 : Int) ≤ b := of_decide_eq_true c
      walk_at "v"
      refine ⟨_, _, rfl, by walk_at "o", hz, fun p' t' b' H3 s3 e3 lo => ?_⟩
      walk_at "v"
      refine ⟨_, _, .tup e3 (.cons (.int _) (.cons (.int _) .nil)), .tup (s3 _ _ hp) (.cons (.int _) (.cons (.int _) .nil)), rfl, rfl, ?_⟩
      refine k _ H3 s3 ?_
      have e : PyData.eqv (.tuple [.int t', .int b']) (.tuple [.int a, .int b]) = (t' == a && (b' == b && true)) := rfl
      rw [e]
      constructor
      · intro q
        simp at q
        obtain ⟨rfl, rfl⟩ := q
        exact ⟨c', lo.co⟩
      · rintro ⟨_, q⟩
        obtain ⟨rfl, rfl⟩ := lo.self c' q
        simp
    · have c' : ¬ (1 : Int) ≤ b := of_decide_eq_false (Bool.eq_false_iff.mpr c)
      exact k false H2 (Same.refl _) ⟨fun q => absurd q (by decide), fun q => absurd q.1 c'⟩
end

noncomputable def QtAt (H : Hp) (p : Addr) (q : Rat) (n : Nat) : Prop := ∃ t b : Int, H p = some (.tup [.int t, .int b]) ∧ Qt t b q ∧ Sz n t ∧ Sz n b
noncomputable def FrAt (H : Hp) (p : Addr) (q : Rat) (n : Nat) : Prop := ∃ t b : Int, H p = some (.tup [.int t, .int b]) ∧ Fr t b q ∧ Sz n t ∧ Sz n b
noncomputable def SaAt (H : Hp) (p : Addr) (m : Int) (q : Rat) (n : Nat) : Prop := ∃ v : Addr, H p = some (.tup [.int m, .ref v]) ∧ FrAt H v q n ∧ Sz n m
noncomputable def LnAt (H : Hp) (p : Addr) (s h : Rat) (n : Nat) : Prop := ∃ a b : Addr, H p = some (.tup [.ref a, .ref b]) ∧ FrAt H a s n ∧ FrAt H b h n
section
variable {H H' : Hp} {p : Addr} {q h : Rat} {m n : Nat} {t : Int}
theorem FrAt.qt (f : FrAt H p q n) : QtAt H p q n := let ⟨t, b, e, f, z⟩ := f; ⟨t, b, e, f.qt, z⟩
theorem QtAt.mono (f : QtAt H p q m) (h : m ≤ n) : QtAt H p q n := let ⟨t, b, e, f, z1, z2⟩ := f; ⟨t, b, e, f, z1.mono h, z2.mono h⟩
theorem FrAt.mono (f : FrAt H p q m) (h : m ≤ n) : FrAt H p q n := let ⟨t, b, e, f, z1, z2⟩ := f; ⟨t, b, e, f, z1.mono h, z2.mono h⟩
theorem QtAt.up (f : QtAt H p q n) (s : Same H H') : QtAt H' p q n := let ⟨t, b, e, f⟩ := f; ⟨t, b, s _ _ e, f⟩
theorem FrAt.up (f : FrAt H p q n) (s : Same H H') : FrAt H' p q n := let ⟨t, b, e, f⟩ := f; ⟨t, b, s _ _ e, f⟩
theorem SaAt.up (f : SaAt H p t q n) (s : Same H H') : SaAt H' p t q n := let ⟨v, e, f, z⟩ := f; ⟨v, s _ _ e, f.up s, z⟩
theorem LnAt.up (f : LnAt H p q h n) (s : Same H H') : LnAt H' p q h n := let ⟨a, b, e, f, g⟩ := f; ⟨a, b, s _ _ e, f.up s, g.up s⟩
theorem FrAt.den (f : FrAt H p q n) : ∃ t b : Int, Den H (.ref p) (.tuple [.int t, .int b]) ∧ Fr t b q := let ⟨t, b, e, f, _⟩ := f; ⟨t, b, .tup e (.cons (.int _) (.cons (.int _) .nil)), f⟩
end
noncomputable def spPlain : Sp := fun vs H Q _ => ∃ (m n : Int), vs = [.int m, .int n] ∧ 0 ≤ m ∧ 0 ≤ n ∧ Q (.int (Int.gcd m n : Nat)) H
noncomputable def spSteps : Sp := fun vs H Q _ => ∃ (m n : Int), vs = [.int m, .int n] ∧ 0 ≤ n ∧ n ≤ m ∧ m < 115792089237316195423570985008687907853269984665640564039457584007913129639936 ∧
  ∀ (p : Addr) (x0 y0 x1 y1 high low : Int) (H' : Hp), Same H H' → H' p = some (.tup [.int x0, .int y0, .int x1, .int y1]) → Steps m n high low x0 y0 x1 y1 → low ≤ 340282366920938463463374607431768211456 → Q (.ref p) H'
noncomputable def spDivisor : Sp := fun vs H Q _ => ∃ (m n : Int), vs = [.int m, .int n] ∧ Sz 8000 m ∧ Sz 8000 n ∧ ∀ H', Same H H' → Q (.int (Int.gcd m n : Nat)) H'
noncomputable def spRatioP : Sp := fun vs H Q _ => ∃ (t b : Int), vs = [.int t, .int b] ∧ b ≠ 0 ∧ Sz 8000 t ∧ Sz 8000 b ∧ ∀ (p : Addr) (t' b' : Int) (H' : Hp), Same H H' → H' p = some (.tup [.int t', .int b']) → Low t b t' b' → Q (.ref p) H'
noncomputable def spReduced : Sp := fun vs H Q _ => ∃ (p : Addr) (q : Rat) (n : Nat), vs = [.ref p] ∧ QtAt H p q n ∧ n ≤ 8000 ∧ ∀ (r : Addr) (H' : Hp), Same H H' → FrAt H' r q n → Q (.ref r) H'
noncomputable def spTwo (f : Rat → Rat → Rat) (k : Nat) : Sp := fun vs H Q _ => ∃ (p r : Addr) (q q' : Rat) (m n : Nat), vs = [.ref p, .ref r] ∧ QtAt H p q m ∧ QtAt H r q' n ∧ m + n ≤ 100000 ∧ ∀ (s : Addr) (H' : Hp), Same H H' → QtAt H' s (f q q') (m + n + k) → Q (.ref s) H'
noncomputable def spTwoF (f : Rat → Rat → Rat) (k : Nat) : Sp := fun vs H Q _ => ∃ (p r : Addr) (q q' : Rat) (m n : Nat), vs = [.ref p, .ref r] ∧ QtAt H p q m ∧ QtAt H r q' n ∧ m + n + k ≤ 8000 ∧ ∀ (s : Addr) (H' : Hp), Same H H' → FrAt H' s (f q q') (m + n + k) → Q (.ref s) H'
noncomputable def spOver : Sp := fun vs H Q _ => ∃ (p r : Addr) (q q' : Rat) (m n : Nat), vs = [.ref p, .ref r] ∧ QtAt H p q m ∧ QtAt H r q' n ∧ m + n ≤ 8000 ∧ q' ≠ 0 ∧ ∀ (s : Addr) (H' : Hp), Same H H' → FrAt H' s (q / q') (m + n) → Q (.ref s) H'
noncomputable def spLslope : Sp := fun vs H Q _ => ∃ (p r : Addr) (t t' : Int) (q q' : Rat) (n : Nat), vs = [.ref p, .ref r] ∧ SaAt H p t q n ∧ SaAt H r t' q' n ∧ t ≠ t' ∧ n ≤ 2000 ∧ ∀ (s : Addr) (H' : Hp), Same H H' → QtAt H' s ((q' - q) / ((t' - t : Int) : Rat)) (4 * n + 3) → Q (.ref s) H'
noncomputable def spLalong : Sp := fun vs H Q _ => ∃ (p r : Addr) (s q : Rat) (t u : Int) (m n : Nat), vs = [.ref p, .ref r, .int u] ∧ QtAt H p s m ∧ SaAt H r t q n ∧ Sz n u ∧ m ≤ 20000 ∧ n ≤ 20000 ∧ ∀ (x : Addr) (H' : Hp), Same H H' → QtAt H' x (q + s * ((u - t : Int) : Rat)) (m + 2 * n + 2) → Q (.ref x) H'
section
variable {P : Program} {w : World} {K : PySem.W.Frag} {mg : Str → Option Value} {base : Heap} {f : Addr} {fd : FuncData}
theorem sc_plain_divisor : FnScope ["one", "other", "found", "rest", "left"] ["one", "other"] (defScope s_plain_divisor) := ⟨rfl, rfl, rfl, by decide +kernel, rfl, by decide +kernel, by decide +kernel⟩
theorem ok_plain_divisor (F : Fun K "plain_divisor" "plain_divisor" s_plain_divisor f fd) (T : Txt mg) : FnOk P w K mg base CX0 1 f fd ["one", "other"] spPlain := by
  refine F.ok sc_plain_divisor (fun vs H Q E h => ?_) (fun cdv A outer s H vs Q E hr h => ?_)
  · obtain ⟨m, n, rfl, _⟩ := h
    rfl
  obtain ⟨m, n, rfl, hm, hn, k⟩ := h
  refine J.l ⟨_, (J.f (J.i (i := 2) sc_plain_divisor.nd rfl (Or.inl rfl) (J.a 0) (hs := sw_N))
      (J.f (J.i (i := 3) sc_plain_divisor.nd rfl (Or.inl rfl) (J.a 1) (hs := sw_N))
      (J.f (Jd.ps_while PassesOwn.never (J.m op_ne (J.a 3) J.c (nomark _))
      (J.f (J.i (i := 4) sc_plain_divisor.nd rfl (Or.inl rfl) (J.g op_mod (J.a 2) (J.a 3)) (hs := sw_B))
      (J.f (J.i (i := 2) sc_plain_divisor.nd rfl (Or.inl rfl) (J.a 3) (hs := sw_N))
      (J.h (J.i (i := 3) sc_plain_divisor.nd rfl (Or.inl rfl) (J.a 4) (hs := sw_N))))))
      (J.h (J.k (J.a 2)))))), ?_⟩
  walk_at "v"
  refine while_by (fun σ H' => H' = H ∧ ∃ (x y : Nat) (v : Option V), σ = [some (.int m), some (.int n), some (.int x), some (.int y), v] ∧ Nat.gcd x y = Int.gcd m n) (fun σ _ => third σ) ?_ ?_ ?_
  · refine ⟨rfl, m.natAbs, n.natAbs, none, ?_, rfl⟩
    rw [show ((m.natAbs : Nat) : Int) = m by walk_at "o", show ((n.natAbs : Nat) : Int) = n by walk_at "o"]
    rfl
  · rintro σ H' ⟨rfl, x, y, v, rfl, hg⟩
    walk_at "v"
    refine ite2 (fun c => ?_) (fun c => ?_)
    · have c' : ¬ (y : Int) = 0 := by simpa using c
      walk_at "v"
      refine ⟨⟨rfl, y, x % y, some (.int ((x % y : Nat) : Int)), ?_, by rw [gcd_step]; exact hg⟩, ?_⟩
      · rw [mcast]; rfl
      · show ((x : Int) % (y : Int)).toNat < (y : Int).toNat
        rw [mcast]
        have := Nat.mod_lt x (y := y) (by walk_at "o")
        walk_at "o"
    · have c' : (y : Int) = 0 := by simpa using c
      have y0 : y = 0 := by walk_at "o"
      subst y0
      rw [Nat.gcd_zero_right] at hg
      subst hg
      walk_at "v"
      exact k
  · intro σ H Q Q' h q
    obtain ⟨v, e, hs, b, e3, q⟩ := q
    exact ⟨v, e, hs, b, e3, h _ _ q⟩
theorem sc_steps_of_heads : FnScope ["high", "low", "ahead", "now", "many", "left", "behind"] ["high", "low"] (defScope s_steps_of_heads) := ⟨rfl, rfl, rfl, by decide +kernel, rfl, by decide +kernel, by decide +kernel⟩
theorem ok_steps_of_heads (F : Fun K "steps_of_heads" "steps_of_heads" s_steps_of_heads f fd) (C_HEAD : Cn mg "HEAD" 256) : FnOk P w K mg base CX0 1 f fd ["high", "low"] spSteps := by
  refine F.ok sc_steps_of_heads (fun vs H Q E h => ?_) (fun cdv A outer s H vs Q E hr h => ?_)
  · obtain ⟨m, n, rfl, _⟩ := h
    rfl
  obtain ⟨hd, ld, rfl, h0, h1, h2, k⟩ := h
  refine J.l ⟨_, (J.f (J.i (i := 2) sc_steps_of_heads.nd rfl (Or.inl rfl) (J.n (J.b J.c (J.b J.c J.d st_C) st_C)) (hs := sw_T))
      (J.f (J.i (i := 3) sc_steps_of_heads.nd rfl (Or.inl rfl) (J.n (J.b J.c (J.b J.c J.d st_C) st_C)) (hs := sw_T))
      (J.f (Jd.ps_while PassesOwn.never (J.m op_gt (Jd.pe_bits (J.a 1)) (J.g op_fdivB (Jd.pe_cn rfl C_HEAD) J.c) (nomark _))
      (J.f (J.i (i := 4) sc_steps_of_heads.nd rfl (Or.inl rfl) (J.g op_fdivB (J.a 0) (J.a 1)) (hs := sw_B))
      (J.f (J.i (i := 5) sc_steps_of_heads.nd rfl (Or.inl rfl) (J.g op_sub (J.a 0) (J.g op_mulB (J.a 4) (J.a 1))) (hs := sw_B))
      (J.f (J.i (i := 0) sc_steps_of_heads.nd rfl (Or.inl rfl) (J.a 1) (hs := sw_N))
      (J.f (J.i (i := 1) sc_steps_of_heads.nd rfl (Or.inl rfl) (J.a 5) (hs := sw_N))
      (J.f (J.i (i := 6) sc_steps_of_heads.nd rfl (Or.inl rfl) (J.n (J.b (J.g op_sub (J.e (ixT K) (J.a 2) J.c (fun _ _ => rfl)) (J.g op_mulB (J.a 4) (J.e (ixT K) (J.a 3) J.c (fun _ _ => rfl)))) (J.b (J.g op_sub (J.e (ixT K) (J.a 2) J.c (fun _ _ => rfl)) (J.g op_mulB (J.a 4) (J.e (ixT K) (J.a 3) J.c (fun _ _ => rfl)))) J.d st_B) st_B)) (hs := sw_T))
      (J.f (J.i (i := 2) sc_steps_of_heads.nd rfl (Or.inl rfl) (J.a 3) (hs := sw_N))
      (J.h (J.i (i := 3) sc_steps_of_heads.nd rfl (Or.inl rfl) (J.a 6) (hs := sw_N))))))))))
      (J.h (J.k (J.g (catT K) (J.a 2) (J.a 3))))))), ?_⟩
  walk_at "v"
  refine r_new (mk := .tup) (by simp) fun pa Ha sa na ea => ?_
  walk_at "v"
  refine r_new (mk := .tup) (by simp) fun pn Hn sn nn en => ?_
  walk_at "v"
  refine while_by (fun σ H' => Same H H' ∧ ∃ (high low x0 y0 x1 y1 : Int) (pa pn : Addr) (v4 v5 v6 : Option V), σ = [some (.int high), some (.int low), some (.ref pa), some (.ref pn), v4, v5, v6] ∧
    H' pa = some (.tup [.int x0, .int y0]) ∧ H' pn = some (.tup [.int x1, .int y1]) ∧ Steps hd ld high low x0 y0 x1 y1) (fun σ _ => cellN 1 σ) ?_ ?_ ?_
  · exact ⟨sa.trans sn, hd, ld, 1, 0, 0, 1, pa, pn, none, none, none, rfl, sn _ _ ea, en, Steps.init h0 h1⟩
  · rintro σ H' ⟨sH, high, low, x0, y0, x1, y1, pa, pn, v4, v5, v6, rfl, ea, en, S⟩
    walk_at "v"
    refine r_I ⟨by decide, by decide⟩ ?_
    walk_at "v"
    refine ite2 (fun c => ?_) (fun c => ?_)
    · have c' := of_decide_eq_true c
      rw [show Int.fdiv 256 2 = 128 by decide] at c'
      have hlow := heads_big c' S.l0
      have hq := S.step hlow rfl
      have hH : hd.natAbs < 2 ^ 256 := by
        have : (2 : Nat) ^ 256 = 115792089237316195423570985008687907853269984665640564039457584007913129639936 := by decide
        walk_at "o"
      have zl : Sz 256 ld := Sz.of_le (m := 256) (x := hd) hH (by walk_at "o")
      have zh : Sz 256 high := Sz.of_le (m := 256) (x := hd) hH (by have := S.high_le h1; have := S.lh; have := S.l0; walk_at "o")
      have nb := S.now_le (by have := S.lh; walk_at "o")
      have zx : Sz 256 x1 := Sz.of_le zl nb.1
      have zy : Sz 256 y1 := Sz.of_le (m := 256) (x := hd) hH nb.2
      have zlo : Sz 256 low := zh.of_le (by have := S.lh; have := S.l0; walk_at "o")
      have eq : high.fdiv low = high / low := Int.fdiv_eq_ediv_of_nonneg _ S.l0
      have zq : Sz 256 (high / low) := zh.of_le (div_le (by have := S.lh; have := S.l0; walk_at "o") S.l0)
      walk_at "v"
      refine r_I ⟨by walk_at "o", zlo.log (by decide) (by decide)⟩ ?_
      rw [eq]
      walk_at "v"
      refine r_I (mulOk zq zlo) ?_
      walk_at "v"
      refine r_I (mulOk zq zx) ?_
      walk_at "v"
      refine r_I (mulOk zq zy) ?_
      walk_at "v"
      refine r_new (mk := .tup) (by simp) fun pb Hb sb nb eb => ?_
      walk_at "v"
      refine ⟨⟨sH.trans sb, low, high - high / low * low, x1, y1, x0 - high / low * x1, y0 - high / low * y1, pn, pb, _, _, _, rfl, sb _ _ en, eb, hq⟩, ?_⟩
      show (high - high / low * low).toNat < low.toNat
      have e := Int.mul_ediv_add_emod high low
      rw [Int.mul_comm] at e
      have := Int.emod_lt_of_pos high (b := low) (by walk_at "o")
      walk_at "o"
    · have c' := of_decide_eq_false (Bool.eq_false_iff.mpr c)
      rw [show Int.fdiv 256 2 = 128 by decide] at c'
      have hlow := heads_small c'
      walk_at "v"
      refine r_catT ea en ?_
      refine r_new (mk := .tup) (by simp) fun pb Hb sb nb eb => ?_
      exact k pb x0 y0 x1 y1 high low Hb (sH.trans sb) eb S (by walk_at "o")
  · intro σ H Q Q' h q
    obtain ⟨v, e, a1, a2, i, a3, m, n, e1, e2, hc, m', n', e3, e4, b, e5, q⟩ := q
    exact ⟨v, e, a1, a2, i, a3, m, n, e1, e2, hc, m', n', e3, e4, b, e5, h _ _ q⟩
theorem sc_divisor : FnScope ["one", "other", "found", "rest", "tail", "steps", "ahead", "now"] ["one", "other"] (defScope s_divisor) := ⟨rfl, rfl, rfl, by decide +kernel, rfl, by decide +kernel, by decide +kernel⟩
theorem ok_divisor (F : Fun K "divisor" "divisor" s_divisor f fd) (T : Txt mg) (C_HEAD : Cn mg "HEAD" 256) (D_plain_divisor : Dn P w K mg base 1 "plain_divisor" ["one", "other"] spPlain) (D_steps_of_heads : Dn P w K mg base 1 "steps_of_heads" ["high", "low"] spSteps) :
    FnOk P w K mg base CX0 2 f fd ["one", "other"] spDivisor := by
  refine F.ok sc_divisor (fun vs H Q E h => ?_) (fun cdv A outer s H vs Q E hr h => ?_)
  · obtain ⟨m, n, rfl, _⟩ := h
    rfl
  obtain ⟨m, n, rfl, zm, zn, k⟩ := h
  refine J.l ⟨_, (J.f (J.i (i := 2) sc_divisor.nd rfl (Or.inl rfl) (J.s (maxC rfl) rfl T.max_ PyProof.Rows.boot_max (J.b (J.s absC rfl T.abs_ PyProof.Rows.boot_abs (J.b (J.a 0) J.d st_N) (he := st_N) (hpl := any0)) (J.b (J.s absC rfl T.abs_ PyProof.Rows.boot_abs (J.b (J.a 1) J.d st_N) (he := st_N) (hpl := any0)) J.d st_K) st_K) (he := st_K) (hpl := (anyc st_K any0))) (hs := sw_K))
      (J.f (J.i (i := 3) sc_divisor.nd rfl (Or.inl rfl) (J.s (minC rfl) rfl T.min_ PyProof.Rows.boot_min (J.b (J.s absC rfl T.abs_ PyProof.Rows.boot_abs (J.b (J.a 0) J.d st_N) (he := st_N) (hpl := any0)) (J.b (J.s absC rfl T.abs_ PyProof.Rows.boot_abs (J.b (J.a 1) J.d st_N) (he := st_N) (hpl := any0)) J.d st_K) st_K) (he := st_K) (hpl := (anyc st_K any0))) (hs := sw_K))
      (J.f (Jd.ps_while PassesOwn.never (J.m op_gt (Jd.pe_bits (J.a 3)) (Jd.pe_cn rfl C_HEAD) (nomark _))
      (J.f (J.i (i := 4) sc_divisor.nd rfl (Or.inl rfl) (J.g op_sub (Jd.pe_bits (J.a 2)) (Jd.pe_cn rfl C_HEAD)) (hs := sw_B))
      (J.f (J.i (i := 5) sc_divisor.nd rfl (Or.inl rfl) (J.j D_steps_of_heads (hr.mono (by decide)) rfl (J.b (J.g op_shr (J.a 2) (J.a 4)) (J.b (J.g op_shr (J.a 3) (J.a 4)) J.d st_B) st_B) (he := st_B) (hpl := (anyc st_B any0))) (hs := sw_K))
      (J.f (J.o (J.m op_eq (J.e (ixT K) (J.a 5) J.c (fun _ _ => rfl)) J.c (nomark _))
      (J.h (J.i (i := 5) sc_divisor.nd rfl (Or.inl rfl) (J.n (J.b J.c (J.b J.c (J.b J.c (J.b (J.z un_neg (J.g op_fdivB (J.a 2) (J.a 3))) J.d st_U) st_C) st_C) st_C)) (hs := sw_T)))
      J.q)
      (J.f (J.i (i := 6) sc_divisor.nd rfl (Or.inl rfl) (J.s absC rfl T.abs_ PyProof.Rows.boot_abs (J.b (J.g op_add (J.g op_mulB (J.e (ixT K) (J.a 5) J.c (fun _ _ => rfl)) (J.a 2)) (J.g op_mulB (J.e (ixT K) (J.a 5) J.c (fun _ _ => rfl)) (J.a 3))) J.d st_B) (he := st_B) (hpl := any0)) (hs := sw_K))
      (J.f (J.i (i := 7) sc_divisor.nd rfl (Or.inl rfl) (J.s absC rfl T.abs_ PyProof.Rows.boot_abs (J.b (J.g op_add (J.g op_mulB (J.e (ixT K) (J.a 5) J.c (fun _ _ => rfl)) (J.a 2)) (J.g op_mulB (J.e (ixT K) (J.a 5) J.c (fun _ _ => rfl)) (J.a 3))) J.d st_B) (he := st_B) (hpl := any0)) (hs := sw_K))
      (J.f (J.i (i := 2) sc_divisor.nd rfl (Or.inl rfl) (J.s (maxC rfl) rfl T.max_ PyProof.Rows.boot_max (J.b (J.a 6) (J.b (J.a 7) J.d st_N) st_N) (he := st_N) (hpl := (anyc st_N any0))) (hs := sw_K))
      (J.h (J.i (i := 3) sc_divisor.nd rfl (Or.inl rfl) (J.s (minC rfl) rfl T.min_ PyProof.Rows.boot_min (J.b (J.a 6) (J.b (J.a 7) J.d st_N) st_N) (he := st_N) (hpl := (anyc st_N any0))) (hs := sw_K))))))))))
      (J.h (J.k (J.j D_plain_divisor (hr.mono (by decide)) rfl (J.b (J.a 2) (J.b (J.a 3) J.d st_N) st_N) (he := st_N) (hpl := (anyc st_N any0)))))))), ?_⟩
  walk_at "v"
  rw [abs_cast, abs_cast]
  refine while_by (fun σ H' => Same H H' ∧ ∃ (x y : Int) (v4 v5 v6 v7 : Option V), σ = [some (.int m), some (.int n), some (.int x), some (.int y), v4, v5, v6, v7] ∧
    0 ≤ y ∧ y ≤ x ∧ Int.gcd x y = Int.gcd m n ∧ Sz 8001 (x + y)) (fun σ _ => cellN 2 σ + cellN 3 σ) ?_ ?_ ?_
  · refine ⟨Same.refl _, _, _, none, none, none, none, rfl, ?_, ?_, (gcd_maxmin rfl rfl).trans ?_, ?_⟩
    · exact mm_nn _ _
    · exact mm_le _ _
    · rfl
    · have z := (zm.of_le (y := (m.natAbs : Int)) (by simp)).add (zn.of_le (y := (n.natAbs : Int)) (by simp))
      exact z.of_le (mm_sum (by walk_at "o"))
  · rintro σ H' ⟨sH, x, y, v4, v5, v6, v7, rfl, y0, yx, hg, zs⟩
    have zx : Sz 8001 x := zs.of_le (by walk_at "o")
    have zy : Sz 8001 y := zs.of_le (by walk_at "o")
    walk_at "v"
    refine ite2 (fun c => ?_) (fun c => ?_)
    · have c' := of_decide_eq_true c
      obtain ⟨t, ht, lo, hi⟩ := heads_tail c' y0 yx
      have tp : (0 : Int) < 2 ^ t := Int.pow_pos (by decide)
      have hd := head_of lo hi
      have ypos : 1 ≤ y := by
        have : (256 : Int) < (Builtin.Int.intBits y : Nat) := c'
        by_cases e : y = 0
        · subst e; simp [Builtin.Int.intBits] at this
        · walk_at "o"
      walk_at "v"
      refine r_I (show (0 : Int) ≤ _ by walk_at "o") ?_
      walk_at "v"
      refine r_I (show (0 : Int) ≤ _ by walk_at "o") ?_
      walk_at "v"
      rw [show ((Builtin.Int.intBits x : Nat) - 256 : Int).toNat = t by walk_at "o"]
      refine ⟨x / 2 ^ t, y / 2 ^ t, rfl, Int.ediv_nonneg y0 (by walk_at "o"), Int.ediv_le_ediv tp yx, hd.2, fun ps x0 y0' x1 y1 high low H1 s1 e1 S hl => ?_⟩
      walk_at "v"
      refine ite2 (fun c2 => ?_) (fun c2 => ?_)
      · have c3 : y0' = 0 := of_decide_eq_true c2
        have zq : Sz 8001 (x.fdiv y) := by
          rw [Int.fdiv_eq_ediv_of_nonneg _ y0]
          exact zx.of_le (div_le (by walk_at "o") y0)
        walk_at "v"
        refine r_I ⟨by walk_at "o", zy.log (by decide) (by decide)⟩ ?_
        walk_at "v"
        refine r_new (mk := .tup) (by simp) fun p2 H2 s2 n2 e2 => ?_
        have sH2 := (sH.trans s1).trans s2
        have za : Sz 8001 (0 : Int) := by decide
        have zb : Sz 8001 (1 : Int) := by decide
        have zc : Sz 8001 (1 : Int) := zb
        have zd : Sz 8001 (-(x.fdiv y)) := zq.neg
        have gg : Int.gcd (0 * x + 1 * y) (1 * x + -(x.fdiv y) * y) = Int.gcd x y := gcd_mix (.inr (by walk_at "o"))
        have ls := fd_less ypos yx
        walk_at "v"
        refine r_I (mulOk zd zy) ?_
        walk_at "v"
        simp only [abs_cast]
        refine ⟨⟨sH2, _, _, _, _, _, _, rfl, ?_, ?_, (gcd_maxmin rfl rfl).trans (gg.trans hg), ?_⟩, ?_⟩
        · exact mm_nn _ _
        · exact mm_le _ _
        · exact zs.of_le (mm_sum (mm_xy ls y0 yx))
        · exact mm_to ls y0 yx
      · have c3 : y0' ≠ 0 := of_decide_eq_false (Bool.eq_false_iff.mpr c2)
        have sH2 := sH.trans s1
        have sm := S.small c3 (Int.ediv_le_ediv tp yx) hd.2
        have k128 : (340282366920938463463374607431768211456 : Nat) < 2 ^ 8001 := by decide +kernel
        have za : Sz 8001 x0 := Nat.lt_of_le_of_lt sm.1 k128
        have zb : Sz 8001 y0' := Nat.lt_of_le_of_lt sm.2.1 k128
        have zc : Sz 8001 x1 := Nat.lt_of_le_of_lt sm.2.2.1 k128
        have zd : Sz 8001 y1 := Nat.lt_of_le_of_lt sm.2.2.2 k128
        have gg : Int.gcd (x0 * x + y0' * y) (x1 * x + y1 * y) = Int.gcd x y := S.gcd
        have ls := heads_less S c3 yx lo hi rfl rfl hl
        walk_at "v"
        refine r_I (mulOk za zx) ?_
        walk_at "v"
        refine r_I (mulOk zb zy) ?_
        walk_at "v"
        refine r_I (mulOk zc zx) ?_
        walk_at "v"
        refine r_I (mulOk zd zy) ?_
        walk_at "v"
        simp only [abs_cast]
        refine ⟨⟨sH2, _, _, _, _, _, _, rfl, ?_, ?_, (gcd_maxmin rfl rfl).trans (gg.trans hg), ?_⟩, ?_⟩
        · exact mm_nn _ _
        · exact mm_le _ _
        · exact zs.of_le (mm_sum (mm_xy ls y0 yx))
        · exact mm_to ls y0 yx
    · walk_at "v"
      refine ⟨x, y, rfl, by walk_at "o", y0, ?_⟩
      rw [hg]
      exact k H' sH
  · intro σ H Q Q' h q
    obtain ⟨v, e, a1, a2, i, a3, m', n', e3, e4, b, e5, q⟩ := q
    exact ⟨v, e, a1, a2, i, a3, m', n', e3, e4, b, e5, h _ _ q⟩
theorem sc_ratio : FnScope ["top", "bottom", "shared"] ["top", "bottom"] (defScope s_ratio) := ⟨rfl, rfl, rfl, by decide +kernel, rfl, by decide +kernel, by decide +kernel⟩
theorem low_ratio {t b : Int} (hb : b ≠ 0) : Low t b (t.fdiv (if b < 0 then -(Int.gcd t b : Int) else (Int.gcd t b : Int))) (b.fdiv (if b < 0 then -(Int.gcd t b : Int) else (Int.gcd t b : Int))) := by
  by_cases h : b < 0
  · rw [if_pos h]
    have l := low_neg (t := t) h
    exact ⟨l.pos, l.co, by have := l.eq; rw [Int.mul_neg, Int.neg_mul] at this; walk_at "o", by rw [← Int.natAbs_neg t]; exact l.tb, by rw [← Int.natAbs_neg b]; exact l.bb⟩
  · rw [if_neg h]
    exact low_pos (by walk_at "o")
theorem ok_ratio (F : Fun K "ratio" "ratio" s_ratio f fd) (T : Txt mg) (D_divisor : Dn P w K mg base 2 "divisor" ["one", "other"] spDivisor) : FnOk P w K mg base CX0 3 f fd ["top", "bottom"] spRatioP := by
  refine F.ok sc_ratio (fun vs H Q E h => ?_) (fun cdv A outer s H vs Q E hr h => ?_)
  · obtain ⟨t, b, rfl, _⟩ := h
    rfl
  obtain ⟨t, b, rfl, hb, hzt, hz, k⟩ := h
  refine J.l ⟨_, (J.f (J.o (J.m op_eq (J.a 1) J.c (nomark _))
      (J.h Jd.ps_never)
      J.q)
      (J.f (J.i (i := 2) sc_ratio.nd rfl (Or.inl rfl) (J.j D_divisor (hr.mono (by decide)) rfl (J.b (J.a 0) (J.b (J.a 1) J.d st_N) st_N) (he := st_N) (hpl := (anyc st_N any0))) (hs := sw_K))
      (J.f (J.o (J.m op_lt (J.a 1) J.c (nomark _))
      (J.h (J.i (i := 2) sc_ratio.nd rfl (Or.inl rfl) (J.z un_neg (J.a 2)) (hs := sw_U)))
      J.q)
      (J.h (J.k (J.n (J.b (J.g op_fdivB (J.a 0) (J.a 2)) (J.b (J.g op_fdivB (J.a 1) (J.a 2)) J.d st_B) st_B))))))), ?_⟩
  walk_at "v"
  rw [decide_eq_false hb]
  refine iteF ?_
  walk_at "v"
  refine ⟨t, b, rfl, hzt, hz, fun H0 s0 => ?_⟩
  have gp : 0 < Int.gcd t b := Int.gcd_pos_of_ne_zero_right t hb
  have hgb : Int.gcd t b ≤ b.natAbs := Nat.le_of_dvd (by walk_at "o") (Nat.gcd_dvd_right _ _)
  have cd : ∀ x : Int, CDivB x (if b < 0 then -(Int.gcd t b : Int) else (Int.gcd t b : Int)) := fun x => by
    refine ⟨by split <;> walk_at "o", Sz.log (m := 8000) (Sz.of_le hz ?_) (by decide) (by decide)⟩
    split <;> walk_at "o"
  have lo := low_ratio (t := t) hb
  walk_at "v"
  refine ite2 (fun c => ?_) (fun c => ?_)
  · have c' := of_decide_eq_true c
    rw [if_pos c'] at lo
    simp only [if_pos c'] at cd
    walk_at "v"
    refine r_I (cd t) ?_
    walk_at "v"
    refine r_I (cd b) ?_
    walk_at "v"
    refine r_new (mk := .tup) (by simp) fun p H1 s1 n1 e1 => ?_
    exact k p _ _ H1 (s0.trans s1) e1 lo
  · have c' := of_decide_eq_false (Bool.eq_false_iff.mpr c)
    rw [if_neg c'] at lo
    simp only [if_neg c'] at cd
    walk_at "v"
    refine r_I (cd t) ?_
    walk_at "v"
    refine r_I (cd b) ?_
    walk_at "v"
    refine r_new (mk := .tup) (by simp) fun p H1 s1 n1 e1 => ?_
    exact k p _ _ H1 (s0.trans s1) e1 lo
theorem sc_reduced : FnScope ["quotient"] ["quotient"] (defScope s_reduced) := ⟨rfl, rfl, rfl, by decide +kernel, rfl, by decide +kernel, by decide +kernel⟩
theorem ok_reduced (F : Fun K "reduced" "reduced" s_reduced f fd) (D_ratio : Dn P w K mg base 3 "ratio" ["top", "bottom"] spRatioP) : FnOk P w K mg base CX0 4 f fd ["quotient"] spReduced := by
  refine F.ok sc_reduced (fun vs H Q E h => ?_) (fun cdv A outer s H vs Q E hr h => ?_)
  · obtain ⟨p, q, n, rfl, _⟩ := h
    rfl
  obtain ⟨p, q, n, rfl, ⟨t, b, hp, hq, zt, zb⟩, hn, k⟩ := h
  refine J.l ⟨_, (J.h (J.k (J.j D_ratio (hr.mono (by decide)) rfl (J.b (J.e (ixT K) (J.a 0) J.c (fun _ _ => rfl)) (J.b (J.e (ixT K) (J.a 0) J.c (fun _ _ => rfl)) J.d st_S) st_S) (he := st_S) (hpl := (anyc st_S any0))))), ?_⟩
  have hb := hq.pos
  walk_at "v"
  refine ⟨t, b, rfl, by walk_at "o", zt.mono hn, zb.mono hn, fun r t' b' H1 s1 e1 lo => ?_⟩
  exact k r H1 s1 ⟨t', b', e1, Fr.of_low lo (by walk_at "o") hq.eq, zt.of_le lo.tb, zb.of_le lo.bb⟩
theorem sc_loose_plus : FnScope ["one", "other"] ["one", "other"] (defScope s_loose_plus) := ⟨rfl, rfl, rfl, by decide +kernel, rfl, by decide +kernel, by decide +kernel⟩
theorem ok_loose_plus (F : Fun K "loose_plus" "loose_plus" s_loose_plus f fd) : FnOk P w K mg base CX0 1 f fd ["one", "other"] (spTwo (· + ·) 1) := by
  refine F.ok sc_loose_plus (fun vs H Q E h => ?_) (fun cdv A outer s H vs Q E hr h => ?_)
  · obtain ⟨p, r, q, q', m, n, rfl, _⟩ := h
    rfl
  obtain ⟨p, r, q, q', m, n, rfl, ⟨a, b, hp, hq, za, zb⟩, ⟨c, d, hr', hq', zc, zd⟩, hn, k⟩ := h
  refine J.l ⟨_, (J.h (J.k (J.n (J.b (J.g op_add (J.g op_mulB (J.e (ixT K) (J.a 0) J.c (fun _ _ => rfl)) (J.e (ixT K) (J.a 1) J.c (fun _ _ => rfl))) (J.g op_mulB (J.e (ixT K) (J.a 1) J.c (fun _ _ => rfl)) (J.e (ixT K) (J.a 0) J.c (fun _ _ => rfl)))) (J.b (J.g op_mulB (J.e (ixT K) (J.a 0) J.c (fun _ _ => rfl)) (J.e (ixT K) (J.a 1) J.c (fun _ _ => rfl))) J.d st_B) st_B)))), ?_⟩
  walk_at "v"
  refine r_I (mulOk za zd (by walk_at "o")) ?_
  walk_at "v"
  refine r_I (mulOk zc zb (by walk_at "o")) ?_
  walk_at "v"
  refine r_I (mulOk zb zd (by walk_at "o")) ?_
  walk_at "v"
  refine r_new (mk := .tup) (by simp) fun x H1 s1 n1 e1 => ?_
  exact k x H1 s1 ⟨_, _, e1, hq.plus hq', (za.mul zd).add ((zc.mul zb).mono (by walk_at "o")), (zb.mul zd).mono (by walk_at "o")⟩
theorem sc_loose_minus : FnScope ["one", "other"] ["one", "other"] (defScope s_loose_minus) := ⟨rfl, rfl, rfl, by decide +kernel, rfl, by decide +kernel, by decide +kernel⟩
theorem ok_loose_minus (F : Fun K "loose_minus" "loose_minus" s_loose_minus f fd) : FnOk P w K mg base CX0 1 f fd ["one", "other"] (spTwo (· - ·) 1) := by
  refine F.ok sc_loose_minus (fun vs H Q E h => ?_) (fun cdv A outer s H vs Q E hr h => ?_)
  · obtain ⟨p, r, q, q', m, n, rfl, _⟩ := h
    rfl
  obtain ⟨p, r, q, q', m, n, rfl, ⟨a, b, hp, hq, za, zb⟩, ⟨c, d, hr', hq', zc, zd⟩, hn, k⟩ := h
  refine J.l ⟨_, (J.h (J.k (J.n (J.b (J.g op_sub (J.g op_mulB (J.e (ixT K) (J.a 0) J.c (fun _ _ => rfl)) (J.e (ixT K) (J.a 1) J.c (fun _ _ => rfl))) (J.g op_mulB (J.e (ixT K) (J.a 1) J.c (fun _ _ => rfl)) (J.e (ixT K) (J.a 0) J.c (fun _ _ => rfl)))) (J.b (J.g op_mulB (J.e (ixT K) (J.a 0) J.c (fun _ _ => rfl)) (J.e (ixT K) (J.a 1) J.c (fun _ _ => rfl))) J.d st_B) st_B)))), ?_⟩
  walk_at "v"
  refine r_I (mulOk za zd (by walk_at "o")) ?_
  walk_at "v"
  refine r_I (mulOk zc zb (by walk_at "o")) ?_
  walk_at "v"
  refine r_I (mulOk zb zd (by walk_at "o")) ?_
  walk_at "v"
  refine r_new (mk := .tup) (by simp) fun x H1 s1 n1 e1 => ?_
  exact k x H1 s1 ⟨_, _, e1, hq.minus hq', (za.mul zd).sub ((zc.mul zb).mono (by walk_at "o")), (zb.mul zd).mono (by walk_at "o")⟩
theorem sc_loose_times : FnScope ["one", "other"] ["one", "other"] (defScope s_loose_times) := ⟨rfl, rfl, rfl, by decide +kernel, rfl, by decide +kernel, by decide +kernel⟩
theorem ok_loose_times (F : Fun K "loose_times" "loose_times" s_loose_times f fd) : FnOk P w K mg base CX0 1 f fd ["one", "other"] (spTwo (· * ·) 0) := by
  refine F.ok sc_loose_times (fun vs H Q E h => ?_) (fun cdv A outer s H vs Q E hr h => ?_)
  · obtain ⟨p, r, q, q', m, n, rfl, _⟩ := h
    rfl
  obtain ⟨p, r, q, q', m, n, rfl, ⟨a, b, hp, hq, za, zb⟩, ⟨c, d, hr', hq', zc, zd⟩, hn, k⟩ := h
  refine J.l ⟨_, (J.h (J.k (J.n (J.b (J.g op_mulB (J.e (ixT K) (J.a 0) J.c (fun _ _ => rfl)) (J.e (ixT K) (J.a 1) J.c (fun _ _ => rfl))) (J.b (J.g op_mulB (J.e (ixT K) (J.a 0) J.c (fun _ _ => rfl)) (J.e (ixT K) (J.a 1) J.c (fun _ _ => rfl))) J.d st_B) st_B)))), ?_⟩
  walk_at "v"
  refine r_I (mulOk za zc (by walk_at "o")) ?_
  walk_at "v"
  refine r_I (mulOk zb zd (by walk_at "o")) ?_
  walk_at "v"
  refine r_new (mk := .tup) (by simp) fun x H1 s1 n1 e1 => ?_
  exact k x H1 s1 ⟨_, _, e1, hq.times hq', za.mul zc, zb.mul zd⟩
end

noncomputable def spLheight : Sp := fun vs H Q _ => ∃ (p r : Addr) (s h x : Rat) (m n : Nat), vs = [.ref p, .ref r] ∧ LnAt H p s h n ∧ QtAt H r x m ∧ m ≤ 20000 ∧ n ≤ 20000 ∧ ∀ (z : Addr) (H' : Hp), Same H H' → QtAt H' z (s * x + h) (m + 2 * n + 1) → Q (.ref z) H'
noncomputable def spHeight : Sp := fun vs H Q _ => ∃ (p r : Addr) (s h x : Rat) (m n : Nat), vs = [.ref p, .ref r] ∧ LnAt H p s h n ∧ QtAt H r x m ∧ m + 2 * n + 1 ≤ 8000 ∧ ∀ (z : Addr) (H' : Hp), Same H H' → FrAt H' z (s * x + h) (m + 2 * n + 1) → Q (.ref z) H'
noncomputable def spLoff : Sp := fun vs H Q _ => ∃ (p r : Addr) (s h q : Rat) (t : Int) (m n : Nat), vs = [.ref p, .ref r] ∧ LnAt H p s h n ∧ SaAt H r t q m ∧ 1 ≤ m ∧ m ≤ 20000 ∧ n ≤ 20000 ∧ ∀ (z : Addr) (H' : Hp), Same H H' → QtAt H' z (q - (s * (t : Rat) + h)) (2 * m + 2 * n + 2) → Q (.ref z) H'
noncomputable def spLineBy : Sp := fun vs H Q _ => ∃ (p r : Addr) (s q : Rat) (t : Int) (m n : Nat), vs = [.ref p, .ref r] ∧ FrAt H p s m ∧ SaAt H r t q n ∧ 1 ≤ n ∧ m + 2 * n + 2 ≤ 8000 ∧
  ∀ (z r' : Addr) (H' : Hp), Same H H' → H' z = some (.tup [.ref p, .ref r']) → FrAt H' r' (q - s * (t : Rat)) (m + 2 * n + 2) → Q (.ref z) H'
noncomputable def spMeet : Sp := fun vs H Q _ => ∃ (p r : Addr) (s h s' h' : Rat) (n : Nat), vs = [.ref p, .ref r] ∧ LnAt H p s h n ∧ LnAt H r s' h' n ∧ 1 ≤ n ∧ n ≤ 1300 ∧ (s = s' → ∀ H', Same H H' → Q .non H') ∧
  (s ≠ s' → ∀ (z a b : Addr) (H' : Hp), Same H H' → H' z = some (.tup [.ref a, .ref b]) → FrAt H' a ((h' - h) / (s - s')) (4 * n + 2) → FrAt H' b (s * ((h' - h) / (s - s')) + h) (6 * n + 3) → Q (.ref z) H')
theorem fr_eqv {t b t' b' : Int} {q q' : Rat} (h : Fr t b q) (h' : Fr t' b' q') : PyData.eqv (.tuple [.int t, .int b]) (.tuple [.int t', .int b']) = decide (q = q') := by
  have e : PyData.eqv (.tuple [.int t, .int b]) (.tuple [.int t', .int b']) = (t == t' && (b == b' && true)) := rfl
  rw [e]
  by_cases hq : q = q'
  · subst hq
    obtain ⟨rfl, rfl⟩ := h.unique h'
    simp
  · rw [decide_eq_false hq]
    by_cases e1 : t = t'
    · by_cases e2 : b = b'
      · exact absurd (h.worth h' e1 e2) hq
      · simp [e2]
    · simp [e1]
theorem one_sz {n : Nat} (h : 1 ≤ n) : Sz n 1 := by
  have : (2 : Nat) ^ 1 ≤ 2 ^ n := Nat.pow_le_pow_right (by decide) h
  show Int.natAbs 1 < 2 ^ n
  have e : Int.natAbs 1 = 1 := rfl
  walk_at "o"
theorem whole_at {H : Hp} {p : Addr} {m : Int} {n : Nat} (h : H p = some (.tup [.int m, .int 1])) (z : Sz n m) (hn : 1 ≤ n) : QtAt H p (m : Rat) n := ⟨m, 1, h, Qt.whole m, z, one_sz hn⟩
section
variable {P : Program} {w : World} {K : PySem.W.Frag} {mg : Str → Option Value} {base : Heap} {f : Addr} {fd : FuncData}
theorem sc_minus : FnScope ["one", "other"] ["one", "other"] (defScope s_minus) := ⟨rfl, rfl, rfl, by decide +kernel, rfl, by decide +kernel, by decide +kernel⟩
theorem ok_minus (F : Fun K "minus" "minus" s_minus f fd) (D_loose_minus : Dn P w K mg base 1 "loose_minus" ["one", "other"] (spTwo (· - ·) 1)) (D_reduced : Dn P w K mg base 4 "reduced" ["quotient"] spReduced) : FnOk P w K mg base CX0 5 f fd ["one", "other"] (spTwoF (· - ·) 1) := by
  refine F.ok sc_minus (fun vs H Q E h => ?_) (fun cdv A outer s H vs Q E hr h => ?_)
  · obtain ⟨p, r, q, q', m, n, rfl, _⟩ := h
    rfl
  obtain ⟨p, r, q, q', m, n, rfl, h1, h2, hn, k⟩ := h
  refine J.l ⟨_, (J.h (J.k (J.j D_reduced (hr.mono (by decide)) rfl (J.b (J.j D_loose_minus (hr.mono (by decide)) rfl (J.b (J.a 0) (J.b (J.a 1) J.d st_N) st_N) (he := st_N) (hpl := (anyc st_N any0))) J.d st_K) (he := st_K) (hpl := any0)))), ?_⟩
  walk_at "v"
  refine ⟨p, r, q, q', m, n, rfl, h1, h2, by walk_at "o", fun x H1 s1 e1 => ?_⟩
  walk_at "v"
  refine ⟨x, _, _, rfl, e1, hn, fun y H2 s2 e2 => ?_⟩
  exact k y H2 (s1.trans s2) e2
theorem sc_plus : FnScope ["one", "other"] ["one", "other"] (defScope s_plus) := ⟨rfl, rfl, rfl, by decide +kernel, rfl, by decide +kernel, by decide +kernel⟩
theorem ok_plus (F : Fun K "plus" "plus" s_plus f fd) (D_loose_plus : Dn P w K mg base 1 "loose_plus" ["one", "other"] (spTwo (· + ·) 1)) (D_reduced : Dn P w K mg base 4 "reduced" ["quotient"] spReduced) : FnOk P w K mg base CX0 5 f fd ["one", "other"] (spTwoF (· + ·) 1) := by
  refine F.ok sc_plus (fun vs H Q E h => ?_) (fun cdv A outer s H vs Q E hr h => ?_)
  · obtain ⟨p, r, q, q', m, n, rfl, _⟩ := h
    rfl
  obtain ⟨p, r, q, q', m, n, rfl, h1, h2, hn, k⟩ := h
  refine J.l ⟨_, (J.h (J.k (J.j D_reduced (hr.mono (by decide)) rfl (J.b (J.j D_loose_plus (hr.mono (by decide)) rfl (J.b (J.a 0) (J.b (J.a 1) J.d st_N) st_N) (he := st_N) (hpl := (anyc st_N any0))) J.d st_K) (he := st_K) (hpl := any0)))), ?_⟩
  walk_at "v"
  refine ⟨p, r, q, q', m, n, rfl, h1, h2, by walk_at "o", fun x H1 s1 e1 => ?_⟩
  walk_at "v"
  refine ⟨x, _, _, rfl, e1, hn, fun y H2 s2 e2 => ?_⟩
  exact k y H2 (s1.trans s2) e2
theorem sc_over : FnScope ["one", "other"] ["one", "other"] (defScope s_over) := ⟨rfl, rfl, rfl, by decide +kernel, rfl, by decide +kernel, by decide +kernel⟩
theorem ok_over (F : Fun K "over" "over" s_over f fd) (D_ratio : Dn P w K mg base 3 "ratio" ["top", "bottom"] spRatioP) : FnOk P w K mg base CX0 4 f fd ["one", "other"] spOver := by
  refine F.ok sc_over (fun vs H Q E h => ?_) (fun cdv A outer s H vs Q E hr h => ?_)
  · obtain ⟨p, r, q, q', m, n, rfl, _⟩ := h
    rfl
  obtain ⟨p, r, q, q', m, n, rfl, ⟨a, b, hp, hq, za, zb⟩, ⟨c, d, hr', hq', zc, zd⟩, hn, h0, k⟩ := h
  have hc : c ≠ 0 := fun z => h0 (hq'.zero_iff.mp z)
  obtain ⟨o1, o2⟩ := over_eq hq hq' hc
  refine J.l ⟨_, (J.h (J.k (J.j D_ratio (hr.mono (by decide)) rfl (J.b (J.g op_mulB (J.e (ixT K) (J.a 0) J.c (fun _ _ => rfl)) (J.e (ixT K) (J.a 1) J.c (fun _ _ => rfl))) (J.b (J.g op_mulB (J.e (ixT K) (J.a 0) J.c (fun _ _ => rfl)) (J.e (ixT K) (J.a 1) J.c (fun _ _ => rfl))) J.d st_B) st_B) (he := st_B) (hpl := (anyc st_B any0))))), ?_⟩
  walk_at "v"
  refine r_I (mulOk za zd (by walk_at "o")) ?_
  walk_at "v"
  refine r_I (mulOk zb zc (by walk_at "o")) ?_
  walk_at "v"
  refine ⟨_, _, rfl, o1, (za.mul zd).mono hn, (zb.mul zc).mono hn, fun x t' b' H1 s1 e1 lo => ?_⟩
  exact k x H1 s1 ⟨t', b', e1, Fr.of_low lo o1 o2, (za.mul zd).of_le lo.tb, (zb.mul zc).of_le lo.bb⟩
theorem sc_loose_slope : FnScope ["one", "other", "rise", "step"] ["one", "other"] (defScope s_loose_slope) := ⟨rfl, rfl, rfl, by decide +kernel, rfl, by decide +kernel, by decide +kernel⟩
theorem ok_loose_slope (F : Fun K "loose_slope" "loose_slope" s_loose_slope f fd) (D_loose_minus : Dn P w K mg base 1 "loose_minus" ["one", "other"] (spTwo (· - ·) 1)) : FnOk P w K mg base CX0 3 f fd ["one", "other"] spLslope := by
  refine F.ok sc_loose_slope (fun vs H Q E h => ?_) (fun cdv A outer s H vs Q E hr h => ?_)
  · obtain ⟨p, r, t, t', q, q', n, rfl, _⟩ := h
    rfl
  obtain ⟨p, r, t, t', q, q', n, rfl, ⟨v, hp, hv, zt⟩, ⟨v', hr', hv', zt'⟩, ht, hn, k⟩ := h
  refine J.l ⟨_, (J.f (J.i (i := 2) sc_loose_slope.nd rfl (Or.inl rfl) (J.j D_loose_minus (hr.mono (by decide)) rfl (J.b (J.e (ixT K) (J.a 1) J.c (fun _ _ => rfl)) (J.b (J.e (ixT K) (J.a 0) J.c (fun _ _ => rfl)) J.d st_S) st_S) (he := st_S) (hpl := (anyc st_S any0))) (hs := sw_K))
      (J.f (J.i (i := 3) sc_loose_slope.nd rfl (Or.inl rfl) (J.g op_sub (J.e (ixT K) (J.a 1) J.c (fun _ _ => rfl)) (J.e (ixT K) (J.a 0) J.c (fun _ _ => rfl))) (hs := sw_B))
      (J.f (J.o (J.m op_lt (J.a 3) J.c (nomark _))
      (J.h (J.k (J.n (J.b (J.z un_neg (J.e (ixT K) (J.a 2) J.c (fun _ _ => rfl))) (J.b (J.g op_mulB (J.e (ixT K) (J.a 2) J.c (fun _ _ => rfl)) (J.z un_neg (J.a 3))) J.d st_B) st_U))))
      J.q)
      (J.h (J.k (J.n (J.b (J.e (ixT K) (J.a 2) J.c (fun _ _ => rfl)) (J.b (J.g op_mulB (J.e (ixT K) (J.a 2) J.c (fun _ _ => rfl)) (J.a 3)) J.d st_B) st_S))))))), ?_⟩
  walk_at "v"
  refine ⟨v', v, q', q, n, n, rfl, hv'.qt, hv.qt, by walk_at "o", fun x H1 s1 e1 => ?_⟩
  obtain ⟨a, b, hx, hq, za, zb⟩ := e1
  have hp1 := s1 _ _ hp
  have hr1 := s1 _ _ hr'
  have zs : Sz (n + 1) (t' - t) := zt'.sub zt
  walk_at "v"
  refine ite2 (fun c => ?_) (fun c => ?_)
  · have c' : t' - t < 0 := of_decide_eq_true c
    walk_at "v"
    refine r_I (mulOk zb zs.neg (by walk_at "o")) ?_
    walk_at "v"
    refine r_new (mk := .tup) (by simp) fun y H2 s2 n2 e2 => ?_
    exact k y H2 (s1.trans s2) ⟨_, _, e2, hq.divN c', za.neg.mono (by walk_at "o"), (zb.mul zs.neg).mono (by walk_at "o")⟩
  · have c' : ¬ t' - t < 0 := of_decide_eq_false (Bool.eq_false_iff.mpr c)
    walk_at "v"
    refine r_I (mulOk zb zs (by walk_at "o")) ?_
    walk_at "v"
    refine r_new (mk := .tup) (by simp) fun y H2 s2 n2 e2 => ?_
    exact k y H2 (s1.trans s2) ⟨_, _, e2, hq.div (by walk_at "o"), za.mono (by walk_at "o"), (zb.mul zs).mono (by walk_at "o")⟩
theorem sc_loose_along : FnScope ["steep", "sample", "moment"] ["steep", "sample", "moment"] (defScope s_loose_along) := ⟨rfl, rfl, rfl, by decide +kernel, rfl, by decide +kernel, by decide +kernel⟩
theorem ok_loose_along (F : Fun K "loose_along" "loose_along" s_loose_along f fd) (D_loose_plus : Dn P w K mg base 1 "loose_plus" ["one", "other"] (spTwo (· + ·) 1)) (D_loose_times : Dn P w K mg base 1 "loose_times" ["one", "other"] (spTwo (· * ·) 0)) :
    FnOk P w K mg base CX0 3 f fd ["steep", "sample", "moment"] spLalong := by
  refine F.ok sc_loose_along (fun vs H Q E h => ?_) (fun cdv A outer s H vs Q E hr h => ?_)
  · obtain ⟨p, r, s', q, t, u, m, n, rfl, _⟩ := h
    rfl
  obtain ⟨p, r, s', q, t, u, m, n, rfl, hp, ⟨v, hr', hv, zt⟩, zu, hm, hn, k⟩ := h
  refine J.l ⟨_, (J.h (J.k (J.j D_loose_plus (hr.mono (by decide)) rfl (J.b (J.e (ixT K) (J.a 1) J.c (fun _ _ => rfl)) (J.b (J.j D_loose_times (hr.mono (by decide)) rfl (J.b (J.a 0) (J.b (J.n (J.b (J.g op_sub (J.a 2) (J.e (ixT K) (J.a 1) J.c (fun _ _ => rfl))) (J.b J.c J.d st_C) st_B)) J.d st_T) st_N) (he := st_N) (hpl := (anyc st_T any0))) J.d st_K) st_S) (he := st_S) (hpl := (anyc st_K any0))))), ?_⟩
  walk_at "v"
  refine r_new (mk := .tup) (by simp) fun y H1 s1 n1 e1 => ?_
  refine ⟨p, y, s', _, m, n + 1, rfl, hp.up s1, whole_at e1 (zu.sub zt) (by walk_at "o"), by walk_at "o", fun x H2 s2 e2 => ?_⟩
  walk_at "v"
  refine ⟨v, x, q, _, n, _, rfl, (hv.up (s1.trans s2)).qt, e2, by walk_at "o", fun z H3 s3 e3 => ?_⟩
  exact k z H3 (s1.trans (s2.trans s3)) (e3.mono (by walk_at "o"))
theorem sc_loose_height : FnScope ["line", "when"] ["line", "when"] (defScope s_loose_height) := ⟨rfl, rfl, rfl, by decide +kernel, rfl, by decide +kernel, by decide +kernel⟩
theorem ok_loose_height (F : Fun K "loose_height" "loose_height" s_loose_height f fd) (D_loose_plus : Dn P w K mg base 1 "loose_plus" ["one", "other"] (spTwo (· + ·) 1)) (D_loose_times : Dn P w K mg base 1 "loose_times" ["one", "other"] (spTwo (· * ·) 0)) :
    FnOk P w K mg base CX0 3 f fd ["line", "when"] spLheight := by
  refine F.ok sc_loose_height (fun vs H Q E h => ?_) (fun cdv A outer s H vs Q E hr h => ?_)
  · obtain ⟨p, r, s', h', x, m, n, rfl, _⟩ := h
    rfl
  obtain ⟨p, r, s', h', x, m, n, rfl, ⟨a, b, hp, ha, hb⟩, hx, hm, hn, k⟩ := h
  refine J.l ⟨_, (J.h (J.k (J.j D_loose_plus (hr.mono (by decide)) rfl (J.b (J.j D_loose_times (hr.mono (by decide)) rfl (J.b (J.e (ixT K) (J.a 0) J.c (fun _ _ => rfl)) (J.b (J.a 1) J.d st_N) st_S) (he := st_S) (hpl := (anyc st_N any0))) (J.b (J.e (ixT K) (J.a 0) J.c (fun _ _ => rfl)) J.d st_S) st_K) (he := st_K) (hpl := (anyc st_S any0))))), ?_⟩
  walk_at "v"
  refine ⟨a, r, _, _, n, m, rfl, ha.qt, hx, by walk_at "o", fun y H1 s1 e1 => ?_⟩
  have hp1 := s1 _ _ hp
  walk_at "v"
  refine ⟨y, b, _, _, _, n, rfl, e1, (hb.up s1).qt, by walk_at "o", fun z H2 s2 e2 => ?_⟩
  exact k z H2 (s1.trans s2) (e2.mono (by walk_at "o"))
theorem sc_loose_off : FnScope ["line", "sample"] ["line", "sample"] (defScope s_loose_off) := ⟨rfl, rfl, rfl, by decide +kernel, rfl, by decide +kernel, by decide +kernel⟩
theorem ok_loose_off (F : Fun K "loose_off" "loose_off" s_loose_off f fd) (D_loose_minus : Dn P w K mg base 1 "loose_minus" ["one", "other"] (spTwo (· - ·) 1)) (D_loose_height : Dn P w K mg base 3 "loose_height" ["line", "when"] spLheight) :
    FnOk P w K mg base CX0 4 f fd ["line", "sample"] spLoff := by
  refine F.ok sc_loose_off (fun vs H Q E h => ?_) (fun cdv A outer s H vs Q E hr h => ?_)
  · obtain ⟨p, r, s', h', q, t, m, n, rfl, _⟩ := h
    rfl
  obtain ⟨p, r, s', h', q, t, m, n, rfl, hl, ⟨v, hr', hv, zt⟩, h1, hm, hn, k⟩ := h
  refine J.l ⟨_, (J.h (J.k (J.j D_loose_minus (hr.mono (by decide)) rfl (J.b (J.e (ixT K) (J.a 1) J.c (fun _ _ => rfl)) (J.b (J.j D_loose_height (hr.mono (by decide)) rfl (J.b (J.a 0) (J.b (J.n (J.b (J.e (ixT K) (J.a 1) J.c (fun _ _ => rfl)) (J.b J.c J.d st_C) st_S)) J.d st_T) st_N) (he := st_N) (hpl := (anyc st_T any0))) J.d st_K) st_S) (he := st_S) (hpl := (anyc st_K any0))))), ?_⟩
  walk_at "v"
  refine r_new (mk := .tup) (by simp) fun y H1 s1 n1 e1 => ?_
  refine ⟨p, y, s', h', _, m, n, rfl, hl.up s1, whole_at e1 zt h1, by walk_at "o", by walk_at "o", fun x H2 s2 e2 => ?_⟩
  walk_at "v"
  refine ⟨v, x, q, _, m, _, rfl, (hv.up (s1.trans s2)).qt, e2, by walk_at "o", fun z H3 s3 e3 => ?_⟩
  exact k z H3 (s1.trans (s2.trans s3)) (e3.mono (by walk_at "o"))
theorem sc_line_by : FnScope ["steep", "sample"] ["steep", "sample"] (defScope s_line_by) := ⟨rfl, rfl, rfl, by decide +kernel, rfl, by decide +kernel, by decide +kernel⟩
theorem ok_line_by (F : Fun K "line_by" "line_by" s_line_by f fd) (D_loose_along : Dn P w K mg base 3 "loose_along" ["steep", "sample", "moment"] spLalong) (D_reduced : Dn P w K mg base 4 "reduced" ["quotient"] spReduced) : FnOk P w K mg base CX0 5 f fd ["steep", "sample"] spLineBy := by
  refine F.ok sc_line_by (fun vs H Q E h => ?_) (fun cdv A outer s H vs Q E hr h => ?_)
  · obtain ⟨p, r, s', q, t, m, n, rfl, _⟩ := h
    rfl
  obtain ⟨p, r, s', q, t, m, n, rfl, hp, hr', h1, hn, k⟩ := h
  refine J.l ⟨_, (J.h (J.k (J.n (J.b (J.a 0) (J.b (J.j D_reduced (hr.mono (by decide)) rfl (J.b (J.j D_loose_along (hr.mono (by decide)) rfl (J.b (J.a 0) (J.b (J.a 1) (J.b J.c J.d st_C) st_N) st_N) (he := st_N) (hpl := (anyc st_N (anyc st_C any0)))) J.d st_K) (he := st_K) (hpl := any0)) J.d st_K) st_N)))), ?_⟩
  walk_at "v"
  refine ⟨p, r, s', q, t, 0, m, n, rfl, hp.qt, hr', Nat.two_pow_pos n, by walk_at "o", by walk_at "o", fun x H1 s1 e1 => ?_⟩
  walk_at "v"
  refine ⟨x, _, _, rfl, e1, by walk_at "o", fun y H2 s2 e2 => ?_⟩
  walk_at "v"
  refine r_new (mk := .tup) (by simp) fun z H3 s3 n3 e3 => ?_
  refine k z y H3 (s1.trans (s2.trans s3)) e3 ?_
  have e : q + s' * ((0 - t : Int) : Rat) = q - s' * (t : Rat) := by
    simp only [Rat.intCast_sub]
    grind
  rw [e] at e2
  exact e2.up s3
theorem sc_height : FnScope ["line", "when"] ["line", "when"] (defScope s_height) := ⟨rfl, rfl, rfl, by decide +kernel, rfl, by decide +kernel, by decide +kernel⟩
theorem ok_height (F : Fun K "height" "height" s_height f fd) (D_loose_height : Dn P w K mg base 3 "loose_height" ["line", "when"] spLheight) (D_reduced : Dn P w K mg base 4 "reduced" ["quotient"] spReduced) : FnOk P w K mg base CX0 5 f fd ["line", "when"] spHeight := by
  refine F.ok sc_height (fun vs H Q E h => ?_) (fun cdv A outer s H vs Q E hr h => ?_)
  · obtain ⟨p, r, s', h', x, m, n, rfl, _⟩ := h
    rfl
  obtain ⟨p, r, s', h', x, m, n, rfl, hl, hx, hn, k⟩ := h
  refine J.l ⟨_, (J.h (J.k (J.j D_reduced (hr.mono (by decide)) rfl (J.b (J.j D_loose_height (hr.mono (by decide)) rfl (J.b (J.a 0) (J.b (J.a 1) J.d st_N) st_N) (he := st_N) (hpl := (anyc st_N any0))) J.d st_K) (he := st_K) (hpl := any0)))), ?_⟩
  walk_at "v"
  refine ⟨p, r, s', h', x, m, n, rfl, hl, hx, by walk_at "o", by walk_at "o", fun y H1 s1 e1 => ?_⟩
  walk_at "v"
  refine ⟨y, _, _, rfl, e1, hn, fun z H2 s2 e2 => ?_⟩
  exact k z H2 (s1.trans s2) e2
theorem sc_meet : FnScope ["line", "other", "when"] ["line", "other"] (defScope s_meet) := ⟨rfl, rfl, rfl, by decide +kernel, rfl, by decide +kernel, by decide +kernel⟩
theorem ok_meet (F : Fun K "meet" "meet" s_meet f fd) (D_over : Dn P w K mg base 4 "over" ["one", "other"] spOver) (D_minus : Dn P w K mg base 5 "minus" ["one", "other"] (spTwoF (· - ·) 1)) (D_height : Dn P w K mg base 5 "height" ["line", "when"] spHeight) : FnOk P w K mg base CX0 6 f fd ["line", "other"] spMeet := by
  refine F.ok sc_meet (fun vs H Q E h => ?_) (fun cdv A outer s H vs Q E hr h => ?_)
  · obtain ⟨p, r, s', h', s2', h2', n, rfl, _⟩ := h
    rfl
  obtain ⟨p, r, sl, ht, sl', ht', n, rfl, hl, hl', h1, hn, k1, k2⟩ := h
  obtain ⟨a, b, hp, ha, hb⟩ := id hl
  obtain ⟨a', b', hp', ha', hb'⟩ := id hl'
  have hu64 := hr.units
  refine J.l ⟨_, (J.f (J.o (J.m (op_eqD hu64) (J.e (ixT K) (J.a 0) J.c (fun _ _ => rfl)) (J.e (ixT K) (J.a 1) J.c (fun _ _ => rfl)) (nomark _))
      (J.h (J.k J.v))
      J.q)
      (J.f (J.i (i := 2) sc_meet.nd rfl (Or.inl rfl) (J.j D_over (hr.mono (by decide)) rfl (J.b (J.j D_minus (hr.mono (by decide)) rfl (J.b (J.e (ixT K) (J.a 1) J.c (fun _ _ => rfl)) (J.b (J.e (ixT K) (J.a 0) J.c (fun _ _ => rfl)) J.d st_S) st_S) (he := st_S) (hpl := (anyc st_S any0))) (J.b (J.j D_minus (hr.mono (by decide)) rfl (J.b (J.e (ixT K) (J.a 0) J.c (fun _ _ => rfl)) (J.b (J.e (ixT K) (J.a 1) J.c (fun _ _ => rfl)) J.d st_S) st_S) (he := st_S) (hpl := (anyc st_S any0))) J.d st_K) st_K) (he := st_K) (hpl := (anyc st_K any0))) (hs := sw_K))
      (J.h (J.k (J.n (J.b (J.a 2) (J.b (J.j D_height (hr.mono (by decide)) rfl (J.b (J.a 0) (J.b (J.a 2) J.d st_N) st_N) (he := st_N) (hpl := (anyc st_N any0))) J.d st_K) st_N)))))), ?_⟩
  walk_at "v"
  obtain ⟨t1, d1, D1, F1⟩ := ha.den
  obtain ⟨t2, d2, D2, F2⟩ := ha'.den
  refine ⟨_, _, D1, D2, rfl, rfl, ?_⟩
  rw [fr_eqv F1 F2]
  walk_at "v"
  refine ite2 (fun c => ?_) (fun c => ?_)
  · have c' := of_decide_eq_true c
    walk_at "v"
    exact k1 c' H (Same.refl _)
  · have c' := of_decide_eq_false (Bool.eq_false_iff.mpr c)
    walk_at "v"
    refine ⟨b', b, _, _, n, n, rfl, hb'.qt, hb.qt, by walk_at "o", fun x H1 s1 e1 => ?_⟩
    have hp1 := s1 _ _ hp
    have hp1' := s1 _ _ hp'
    walk_at "v"
    refine ⟨a, a', _, _, n, n, rfl, (ha.up s1).qt, (ha'.up s1).qt, by walk_at "o", fun y H2 s2 e2 => ?_⟩
    walk_at "v"
    refine ⟨x, y, _, _, _, _, rfl, (e1.up s2).qt, e2.qt, by walk_at "o", by grind, fun z H3 s3 e3 => ?_⟩
    walk_at "v"
    refine ⟨p, z, _, _, _, _, n, rfl, hl.up (s1.trans (s2.trans s3)), e3.qt, by walk_at "o", fun v H4 s4 e4 => ?_⟩
    walk_at "v"
    refine r_new (mk := .tup) (by simp) fun g H5 s5 n5 e5 => ?_
    exact k2 c' g z v H5 (s1.trans (s2.trans (s3.trans (s4.trans s5)))) e5 ((e3.up (s4.trans s5)).mono (by walk_at "o")) ((e4.up s5).mono (by walk_at "o"))
end

noncomputable def spOrderQ : Sp := fun vs H Q _ => ∃ (p r : Addr) (q q' : Rat) (m n : Nat), vs = [.ref p, .ref r] ∧ QtAt H p q m ∧ QtAt H r q' n ∧ m + n ≤ 100000 ∧ ∀ o : Int, (0 < o ↔ q' < q) → (o < 0 ↔ q < q') → Q (.int o) H
section
variable {P : Program} {w : World} {K : PySem.W.Frag} {mg : Str → Option Value} {base : Heap} {f : Addr} {fd : FuncData}
theorem sc_order : FnScope ["one", "other", "left", "right"] ["one", "other"] (defScope s_order) := ⟨rfl, rfl, rfl, by decide +kernel, rfl, by decide +kernel, by decide +kernel⟩
theorem ok_order (F : Fun K "order" "order" s_order f fd) : FnOk P w K mg base CX0 1 f fd ["one", "other"] spOrderQ := by
  refine F.ok sc_order (fun vs H Q E h => ?_) (fun cdv A outer s H vs Q E hr h => ?_)
  · obtain ⟨p, r, q, q', m, n, rfl, _⟩ := h
    rfl
  obtain ⟨p, r, q, q', m, n, rfl, ⟨a, b, hp, hq, za, zb⟩, ⟨c, d, hr', hq', zc, zd⟩, hn, k⟩ := h
  have l1 := hq.lt_iff hq'
  have l2 := hq'.lt_iff hq
  refine J.l ⟨_, (J.f (J.i (i := 2) sc_order.nd rfl (Or.inl rfl) (J.g op_mulB (J.e (ixT K) (J.a 0) J.c (fun _ _ => rfl)) (J.e (ixT K) (J.a 1) J.c (fun _ _ => rfl))) (hs := sw_B))
      (J.f (J.i (i := 3) sc_order.nd rfl (Or.inl rfl) (J.g op_mulB (J.e (ixT K) (J.a 1) J.c (fun _ _ => rfl)) (J.e (ixT K) (J.a 0) J.c (fun _ _ => rfl))) (hs := sw_B))
      (J.f (J.o (J.m op_lt (J.a 2) (J.a 3) (nomark _))
      (J.h (J.k (J.z un_neg J.c)))
      J.q)
      (J.f (J.o (J.m op_gt (J.a 2) (J.a 3) (nomark _))
      (J.h (J.k J.c))
      J.q)
      (J.h (J.k J.c)))))), ?_⟩
  walk_at "v"
  refine r_I (mulOk za zd (by walk_at "o")) ?_
  walk_at "v"
  refine r_I (mulOk zc zb (by walk_at "o")) ?_
  walk_at "v"
  refine ite2 (fun c1 => ?_) (fun c1 => ?_)
  · have c' := of_decide_eq_true c1
    walk_at "v"
    have x1 := l1.mp c'
    exact k _ ⟨fun z => absurd z (by decide), fun z => by grind⟩ ⟨fun _ => x1, fun _ => by decide⟩
  · have c' := of_decide_eq_false (Bool.eq_false_iff.mpr c1)
    walk_at "v"
    refine ite2 (fun c2 => ?_) (fun c2 => ?_)
    · have c'' := of_decide_eq_true c2
      walk_at "v"
      have x1 := l2.mp c''
      exact k _ ⟨fun _ => x1, fun _ => by decide⟩ ⟨fun z => absurd z (by decide), fun z => by grind⟩
    · have c'' := of_decide_eq_false (Bool.eq_false_iff.mpr c2)
      walk_at "v"
      exact k _ ⟨fun z => absurd z (by decide), fun z => absurd (l2.mpr z) c''⟩ ⟨fun z => absurd z (by decide), fun z => absurd (l1.mpr z) c'⟩
end
noncomputable def spLess : Sp := fun vs H Q _ => ∃ (p r : Addr) (q q' : Rat) (m n : Nat), vs = [.ref p, .ref r] ∧ QtAt H p q m ∧ QtAt H r q' n ∧ m + n ≤ 100000 ∧ ∀ b : Bool, (b = true ↔ q < q') → Q (.bl b) H
section
variable {P : Program} {w : World} {K : PySem.W.Frag} {mg : Str → Option Value} {base : Heap} {f : Addr} {fd : FuncData}
theorem sc_law_less : FnScope ["_law_one", "_law_other"] ["_law_one", "_law_other"] (defScope s_law_less) := ⟨rfl, rfl, rfl, by decide +kernel, rfl, by decide +kernel, by decide +kernel⟩
theorem ok_law_less (F : Fun K "_law_less" "_law_less" s_law_less f fd) : FnOk P w K mg base CX0 1 f fd ["_law_one", "_law_other"] spLess := by
  refine F.ok sc_law_less (fun vs H Q E h => ?_) (fun cdv A outer s H vs Q E hr h => ?_)
  · obtain ⟨p, r, q, q', m, n, rfl, _⟩ := h
    rfl
  obtain ⟨p, r, q, q', m, n, rfl, ⟨a, b, hp, hq, za, zb⟩, ⟨c, d, hr', hq', zc, zd⟩, hn, k⟩ := h
  refine J.l ⟨_, (J.h (J.k (J.ac op_lt (J.g op_mulB (J.e (ixT K) (J.a 0) J.c (fun _ _ => rfl)) (J.e (ixT K) (J.a 1) J.c (fun _ _ => rfl))) (J.g op_mulB (J.e (ixT K) (J.a 1) J.c (fun _ _ => rfl)) (J.e (ixT K) (J.a 0) J.c (fun _ _ => rfl))) (nomark _)))), ?_⟩
  walk_at "v"
  refine r_I (mulOk za zd (by walk_at "o")) ?_
  walk_at "v"
  refine r_I (mulOk zc zb (by walk_at "o")) ?_
  walk_at "v"
  exact k _ (by rw [decide_eq_true_eq]; exact hq.lt_iff hq')
end

theorem pickP {zs : List Int} {i : Int} (P : Int → Prop) (hz : ∀ z ∈ zs, P z) (h0 : 0 ≤ i) (h1 : i < (zs.length : Int)) : ∃ v : Int, atI (zs.map V.int) i = some (.int v) ∧ P v := by
  have hk : i.toNat < zs.length := by walk_at "o"
  exact ⟨zs[i.toNat], at_ints (List.getElem?_eq_getElem hk) (by walk_at "o"), hz _ (List.getElem_mem hk)⟩
theorem row_get {xs zs : List Int} (hlen : xs.length = zs.length) (hxs : ∀ (j : Nat) (x z : Int), xs[j]? = some x → zs[j]? = some z → 0 ≤ x ∧ x < z) (j : Nat) {z : Int} (ez : zs[j]? = some z) : ∃ x, xs[j]? = some x ∧ 0 ≤ x ∧ x < z := by
  have hj := (List.getElem?_eq_some_iff.mp ez).1
  rw [← hlen] at hj
  exact ⟨xs[j], List.getElem?_eq_getElem hj, hxs j _ z (List.getElem?_eq_getElem hj) ez⟩
theorem of_low' {T B t b : Int} (h : Low T B t b) (hB : B ≠ 0) : Fr t b ((T : Rat) / (B : Rat)) := by
  refine Fr.of_low h hB ?_
  have := cast_ne hB
  grind
theorem r_unpack2 {σ : St} {H : Hp} {K : PySem.W.Frag} {p : Addr} {x y : V} {i j : Nat} {R : St → Hp → Prop} (h : H p = some (.tup [x, y])) (q : R ((σ.set i (some x)).set j (some y)) H) : gTup K 2 (gCons (gName i) (gCons (gName j) gNil)) (.ref p) σ H R :=
  ⟨p, _, rfl, SqT.of h, rfl, x, _, rfl, y, _, rfl, rfl, q⟩

noncomputable abbrev En := Addr × Int × Option Rat
noncomputable def EnAt (H : Hp) (x : En) (n : Nat) : Prop := Sz n x.2.1 ∧ match x.2.2 with
  | none => H x.1 = some (.tup [.int x.2.1, .non])
  | some q => ∃ p, H x.1 = some (.tup [.int x.2.1, .ref p]) ∧ FrAt H p q n
theorem EnAt.up {H H' : Hp} {x : En} {n : Nat} (f : EnAt H x n) (s : Same H H') : EnAt H' x n := by
  obtain ⟨a, m, v⟩ := x
  cases v with
  | none => exact ⟨f.1, s _ _ f.2⟩
  | some q => exact ⟨f.1, let ⟨p, e, g⟩ := f.2; ⟨p, s _ _ e, g.up s⟩⟩
theorem EnAt.rm {H : Hp} {D : Addr} {x : En} {n : Nat} {ys : List V} (hD : H D = some (.lst ys)) (f : EnAt H x n) : EnAt (rm D H) x n := by
  obtain ⟨a, m, v⟩ := x
  cases v with
  | none => exact ⟨f.1, rm_tup hD f.2⟩
  | some q =>
    obtain ⟨z, p, e, t, b, et, g⟩ := f
    exact ⟨z, p, rm_tup hD e, t, b, rm_tup hD et, g⟩
theorem EnAt.obj {H : Hp} {x : En} {n : Nat} (f : EnAt H x n) : ∃ v, H x.1 = some (.tup [.int x.2.1, v]) ∧ (decide (v = .non) = !x.2.2.isSome) ∧ (v = .non ∨ ∃ p q, v = .ref p ∧ x.2.2 = some q ∧ FrAt H p q n) := by
  obtain ⟨a, m, v⟩ := x
  cases v with
  | none => exact ⟨.non, f.2, rfl, .inl rfl⟩
  | some q =>
    obtain ⟨z, p, e, g⟩ := f
    exact ⟨.ref p, e, rfl, .inr ⟨p, q, rfl, rfl, g⟩⟩
noncomputable def Row (H : Hp) (es : List En) (n : Nat) : Prop := ∀ x ∈ es, EnAt H x n
theorem Row.up {H H' : Hp} {es : List En} {n : Nat} (h : Row H es n) (s : Same H H') : Row H' es n := fun x hx => (h x hx).up s
theorem Row.rm {H : Hp} {D : Addr} {es : List En} {n : Nat} {ys : List V} (hD : H D = some (.lst ys)) (h : Row H es n) : Row (rm D H) es n := fun x hx => (h x hx).rm hD
theorem Row.snoc {H : Hp} {es : List En} {x : En} {n : Nat} (h : Row H es n) (hx : EnAt H x n) : Row H (es ++ [x]) n := fun y hy => by
  rcases List.mem_append.mp hy with z | z
  · exact h y z
  · obtain rfl : y = x := by simpa using z
    exact hx
noncomputable def vals (es : List En) : List V := es.map fun x => V.ref x.1
theorem vals_at {es : List En} {i : Nat} {v : V} (h : (vals es)[i]? = some v) : ∃ x, es[i]? = some x ∧ v = .ref x.1 := by
  unfold vals at h
  rw [List.getElem?_map] at h
  cases e : es[i]? with
  | none => rw [e] at h; cases h
  | some x => rw [e] at h; cases h; exact ⟨x, rfl, rfl⟩
theorem vals_get {es : List En} {i : Nat} {x : En} (h : es[i]? = some x) : (vals es)[i]? = some (.ref x.1) := by
  unfold vals
  rw [List.getElem?_map, h]
  rfl
theorem vals_len (es : List En) : (vals es).length = es.length := List.length_map ..
theorem vals_snoc (es : List En) (x : En) : vals es ++ [.ref x.1] = vals (es ++ [x]) := by simp [vals]
theorem Row.app {H : Hp} {R : Addr} {es : List En} {n : Nat} {ys : List V} {o : HO} (f : Row H es n) (h : H R = some (.lst ys)) : Row (upd H R o) es n := (f.rm h).up (rm_up R H o)
noncomputable def rising (es : List En) : Prop := es.Pairwise fun a b => a.2.1 < b.2.1
theorem frac_gen {T B : Int} {n : Nat} {H : Hp} {Q : VK} (hB : 0 < B) (zT : Sz n T) (zB : Sz n B) (hn : n ≤ 8000) (kk : ∀ (p : Addr) (H' : Hp), Same H H' → FrAt H' p ((T : Rat) / (B : Rat)) n → Q (.ref p) H') : spRatio ([.int T, .int B] ++ []) H Q E0 :=
  ⟨_, _, rfl, hB, zB.mono hn, fun p t b H' s e lo => kk p H' s ⟨t, b, e, of_low' lo (by walk_at "o"), zT.of_le lo.tb, zB.of_le lo.bb⟩⟩
theorem kit_ll {K : PySem.W.Frag} : PySem.W.kitOne K (.type "list") (.type "list") = some true := by rfl
section
variable {P : Program} {w : World} {K : PySem.W.Frag} {mg : Str → Option Value} {base : Heap} {f : Addr} {fd : FuncData}
end

noncomputable def smp (x : En) : Bool := x.2.2.isSome
noncomputable abbrev Ls := List (Addr × List En)
noncomputable def lrefs (ls : Ls) : List V := ls.map fun x => V.ref x.1
theorem lrefs_at {ls : Ls} {i : Nat} {v : V} (h : (lrefs ls)[i]? = some v) : ∃ x, ls[i]? = some x ∧ v = .ref x.1 := by
  unfold lrefs at h
  rw [List.getElem?_map] at h
  cases e : ls[i]? with
  | none => rw [e] at h; cases h
  | some x => rw [e] at h; cases h; exact ⟨x, rfl, rfl⟩
theorem lrefs_len (ls : Ls) : (lrefs ls).length = ls.length := List.length_map ..
structure LL (H H2 : Hp) (T : Addr) (ls : Ls) : Prop where
  new : H T = none
  at_ : H2 T = some (.lst (lrefs ls))
  each : ∀ x ∈ ls, H x.1 = none ∧ H2 x.1 = some (.lst (vals x.2)) ∧ x.1 ≠ T
  nd : (ls.map (·.1)).Nodup
section
variable {H H2 H3 : Hp} {T R : Addr} {ls : Ls} {o : HO} {rn : List En}
theorem LL.up (h : LL H H2 T ls) (s : Same H2 H3) : LL H H3 T ls := ⟨h.new, s _ _ h.at_, fun x hx => let ⟨a, b, c⟩ := h.each x hx; ⟨a, s _ _ b, c⟩, h.nd⟩
theorem LL.other (h : LL H H2 T ls) (hT : R ≠ T) (hl : ∀ x ∈ ls, x.1 ≠ R) : LL H (upd H2 R o) T ls :=
  ⟨h.new, by rw [upd_ne (Ne.symm hT)]; exact h.at_, fun x hx => let ⟨a, b, c⟩ := h.each x hx; ⟨a, by rw [upd_ne (hl x hx)]; exact b, c⟩, h.nd⟩
theorem LL.push (h : LL H H2 T ls) (hR : H R = none) (eR : H2 R = some (.lst (vals rn))) (hT : R ≠ T) (hl : ∀ x ∈ ls, x.1 ≠ R) : LL H (upd H2 T (.lst (lrefs ls ++ [.ref R]))) T (ls ++ [(R, rn)]) := by
  refine ⟨h.new, by rw [upd_same]; simp [lrefs], fun x hx => ?_, ?_⟩
  · rcases List.mem_append.mp hx with z | z
    · obtain ⟨a, b, c⟩ := h.each x z
      exact ⟨a, by rw [upd_ne c]; exact b, c⟩
    · obtain rfl : x = (R, rn) := by simpa using z
      exact ⟨hR, by rw [upd_ne hT]; exact eR, hT⟩
  · rw [List.map_append]
    refine List.nodup_append.mpr ⟨h.nd, by simp, fun a ha b hb => ?_⟩
    obtain ⟨x, hx, rfl⟩ := List.mem_map.mp ha
    obtain rfl : b = R := by simpa using hb
    exact hl x hx
end
noncomputable def spRuns : Sp := fun vs H Q _ => ∃ (l : Addr) (es : List En) (n : Nat), vs = [.ref l] ∧ H l = some (.lst (vals es)) ∧ Row H es n ∧ es.length ≤ 40 ∧
  ∀ (T : Addr) (ls : Ls) (H' : Hp), Same H H' → LL H H' T ls → ls.map (·.2) = parts smp es es.length → ls.length ≤ 40 → (∀ x ∈ ls, x.2.length ≤ 40) → Q (.ref T) H'
section
variable {P : Program} {w : World} {K : PySem.W.Frag} {mg : Str → Option Value} {base : Heap} {f : Addr} {fd : FuncData}
theorem sc_runs : FnScope ["row", "told", "run", "entry"] ["row"] (defScope s_runs) := ⟨rfl, rfl, rfl, by decide +kernel, rfl, by decide +kernel, by decide +kernel⟩
theorem ok_runs (F : Fun K "runs" "runs" s_runs f fd) (T : Txt mg) : FnOk P w K mg base CX0 1 f fd ["row"] spRuns := by
  refine F.ok sc_runs (fun vs H Q E h => ?_) (fun cdv A outer s H vs Q E hr h => ?_)
  · obtain ⟨l, es, n, rfl, _⟩ := h
    rfl
  obtain ⟨l, es, n, rfl, hl, hes, hn, k⟩ := h
  refine J.l ⟨_, (J.f (J.i (i := 1) sc_runs.nd rfl (Or.inl rfl) (J.t J.d) (hs := sw_L))
      (J.f (J.i (i := 2) sc_runs.nd rfl (Or.inl rfl) (J.t J.d) (hs := sw_L))
      (J.f (J.y PassesOwn.never rfl (Jd.piL K (J.a 0)) (J.r (i := 3) sc_runs.nd rfl (Or.inl rfl))
      (J.h (J.o (J.m op_notN (J.e (ixT K) (J.a 3) J.c (fun _ _ => rfl)) J.v (nomark _))
      (J.h (J.u (J.w K (J.a 2) (J.a 3)) (hs := sw_K)))
      (J.h (J.o (J.m op_gt (J.s (lenC K) rfl T.len_ PySem.boot_len (J.b (J.a 2) J.d st_N) (he := st_N) (hpl := any0)) J.c (nomark _))
      (J.f (J.u (J.w K (J.a 1) (J.a 2)) (hs := sw_K))
      (J.h (J.i (i := 2) sc_runs.nd rfl (Or.inl rfl) (J.t J.d) (hs := sw_L))))
      J.q)))))
      (J.f (J.o (J.m op_gt (J.s (lenC K) rfl T.len_ PySem.boot_len (J.b (J.a 2) J.d st_N) (he := st_N) (hpl := any0)) J.c (nomark _))
      (J.h (J.u (J.w K (J.a 1) (J.a 2)) (hs := sw_K)))
      J.q)
      (J.h (J.k (J.a 1))))))), ?_⟩
  walk_at "v"
  refine r_new (mk := .lst) (by simp) fun TT H1 s1 n1 e1 => ?_
  walk_at "v"
  refine r_new (mk := .lst) (by simp) fun R0 H2 s2 n2 e2 => ?_
  walk_at "v"
  refine r_for (r_iL ?_)
  walk_at "v"
  have s02 := s1.trans s2
  refine ⟨l, rfl, ⟨_, SqL.of (s02 _ _ hl)⟩, for_list (xs := vals es) (fun i σ H3 => ∃ (R : Addr) (ls : Ls) (rn : List En) (v : Option V), σ = [some (.ref l), some (.ref TT), some (.ref R), v] ∧ Same H H3 ∧ LL H H3 TT ls ∧ H R = none ∧ H3 R = some (.lst (vals rn)) ∧ R ≠ TT ∧ (∀ x ∈ ls, x.1 ≠ R) ∧
    (inRun smp es i = true → parts smp es i = ls.map (·.2) ++ [rn] ∧ rn ≠ []) ∧ (inRun smp es i = false → parts smp es i = ls.map (·.2) ∧ rn = []) ∧ rn.length ≤ i ∧ ls.length ≤ i ∧ (∀ x ∈ ls, x.2.length ≤ 40)) ?_ ?_ ?_ ?_⟩
  · refine ⟨R0, [], [], none, rfl, s02, ⟨n1, s2 _ _ e1, fun x hx => absurd hx (by simp), List.nodup_nil⟩, s1.free n2, e2, fun z => ?_, fun x hx => absurd hx (by simp), fun z => absurd z (by simp [inRun]), fun _ => ⟨rfl, rfl⟩, Nat.le_refl _, Nat.le_refl _, fun x hx => absurd hx (by simp)⟩
    rw [z] at n2
    rw [e1] at n2
    cases n2
  · rintro i σ H3 _ ⟨R, ls, rn, v, rfl, s3, _⟩
    exact SqL.of (s3 _ _ hl)
  · rintro i x σ H3 hx ⟨R, ls, rn, v, rfl, s3, hL, hR, eR, nR, hne, hp1, hp2, lr, ll, lx⟩
    obtain ⟨e, he, rfl⟩ := vals_at hx
    have hi : i < es.length := (List.getElem?_eq_some_iff.mp he).1
    obtain ⟨u, ee, du, _⟩ := ((hes e (List.mem_of_getElem? he)).up s3).obj
    have hsu : inRun smp es (i + 1) = smp e := inRun_succ he
    walk_at "v"
    refine ⟨rfl, ?_⟩
    walk_at "v"
    rw [du]
    cases hs : e.2.2.isSome with
    | true =>
      have hs' : smp e = true := hs
      refine iteT ?_
      walk_at "v"
      refine ⟨.inl ⟨rfl, _, SqL.of eR⟩, ?_⟩
      walk_at "v"
      refine r_app eR (by rw [vals_len]; exact small1000 (by walk_at "o")) ?_
      refine ⟨R, ls, rn ++ [e], _, rfl, same_at s3 hR, hL.other nR (fun x hx => hne x hx), hR, by rw [upd_same, vals_snoc], nR, hne, fun _ => ?_, fun z => absurd (hsu.symm.trans z) (by rw [hs']; decide), by rw [List.length_append]; exact Nat.succ_le_succ lr, by walk_at "o", lx⟩
      refine ⟨?_, by simp⟩
      cases hir : inRun smp es i with
      | true => exact parts_on he hs' hir (hp1 hir).1
      | false =>
        obtain ⟨a, rfl⟩ := hp2 hir
        rw [parts_new he hs' hir, a]
        rfl
    | false =>
      have hs' : smp e = false := hs
      refine iteF ?_
      walk_at "v"
      refine r_len (.inl (SqL.of eR)) ?_
      walk_at "v"
      refine ite2 (fun c => ?_) (fun c => ?_)
      · have c' := of_decide_eq_true c
        rw [vals_len] at c'
        have hir : inRun smp es i = true := by
          cases hir : inRun smp es i with
          | true => rfl
          | false =>
            obtain ⟨_, rfl⟩ := hp2 hir
            simp at c'
        walk_at "v"
        refine ⟨.inl ⟨rfl, _, SqL.of hL.at_⟩, ?_⟩
        walk_at "v"
        refine r_app hL.at_ (by rw [lrefs_len]; exact small1000 (by walk_at "o")) ?_
        walk_at "v"
        have hL2 := hL.push hR eR nR hne
        refine r_new (mk := .lst) (by simp) fun R2 H4 s4 n4 e4 => ?_
        have sH : Same H H4 := (same_at s3 hL.new).trans s4
        walk_at "v"
        refine ⟨R2, ls ++ [(R, rn)], [], _, rfl, sH, hL2.up s4, (same_at s3 hL.new).free n4, e4, fun z => ?_, fun x hx z => ?_, fun z => absurd (hsu.symm.trans z) (by rw [hs']; decide), fun _ => ⟨?_, rfl⟩, Nat.zero_le _, by rw [List.length_append]; exact Nat.succ_le_succ ll, fun x hx => ?_⟩
        · rw [z, hL2.at_] at n4
          cases n4
        · rw [← z, (hL2.each x hx).2.1] at n4
          cases n4
        · rw [parts_gap he hs', (hp1 hir).1, List.map_append]
          rfl
        · rcases List.mem_append.mp hx with z | z
          · exact lx x z
          · obtain rfl : x = (R, rn) := by simpa using z
            show rn.length ≤ 40
            walk_at "o"
      · have c' := of_decide_eq_false (Bool.eq_false_iff.mpr c)
        rw [vals_len] at c'
        have hir : inRun smp es i = false := by
          cases hir : inRun smp es i with
          | false => rfl
          | true =>
            have := List.length_pos_iff.mpr (hp1 hir).2
            walk_at "o"
        obtain ⟨a, rfl⟩ := hp2 hir
        walk_at "v"
        exact ⟨R, ls, [], _, rfl, s3, hL, hR, eR, nR, hne, fun z => absurd (hsu.symm.trans z) (by rw [hs']; decide), fun _ => ⟨by rw [parts_gap he hs', a], rfl⟩, Nat.zero_le _, by walk_at "o", lx⟩
  · rintro σ H3 ⟨R, ls, rn, v, rfl, s3, hL, hR, eR, nR, hne, hp1, hp2, lr, ll, lx⟩
    rw [vals_len] at hp1 hp2 lr ll
    walk_at "v"
    refine r_len (.inl (SqL.of eR)) ?_
    walk_at "v"
    refine ite2 (fun c => ?_) (fun c => ?_)
    · have c' := of_decide_eq_true c
      rw [vals_len] at c'
      have hir : inRun smp es es.length = true := by
        cases hir : inRun smp es es.length with
        | true => rfl
        | false =>
          obtain ⟨_, rfl⟩ := hp2 hir
          simp at c'
      have hlen : (ls ++ [(R, rn)]).length ≤ 40 := by
        have e := parts_len (s := smp) (es := es) es.length
        rw [(hp1 hir).1, List.length_append, List.length_map] at e
        rw [List.length_append]
        simp at e ⊢
        walk_at "o"
      walk_at "v"
      refine ⟨.inl ⟨rfl, _, SqL.of hL.at_⟩, ?_⟩
      walk_at "v"
      refine r_app hL.at_ (by rw [lrefs_len]; exact small1000 (by walk_at "o")) ?_
      walk_at "v"
      refine k TT (ls ++ [(R, rn)]) _ (same_at s3 hL.new) (hL.push hR eR nR hne) ?_ hlen fun x hx => ?_
      · rw [(hp1 hir).1, List.map_append]
        rfl
      · rcases List.mem_append.mp hx with z | z
        · exact lx x z
        · obtain rfl : x = (R, rn) := by simpa using z
          show rn.length ≤ 40
          walk_at "o"
    · have c' := of_decide_eq_false (Bool.eq_false_iff.mpr c)
      rw [vals_len] at c'
      have hir : inRun smp es es.length = false := by
        cases hir : inRun smp es es.length with
        | false => rfl
        | true =>
          have := List.length_pos_iff.mpr (hp1 hir).2
          walk_at "o"
      walk_at "v"
      exact k TT ls H3 s3 hL (hp2 hir).1.symm (by walk_at "o") lx
end

noncomputable abbrev Nn := Addr × Int × Option Int
noncomputable def nnv : Option Int → V
  | none => .non
  | some n => .int n
noncomputable def NnAt (H : Hp) (x : Nn) (m n : Nat) : Prop := H x.1 = some (.tup [.int x.2.1, nnv x.2.2]) ∧ Sz m x.2.1 ∧ ∀ z, x.2.2 = some z → Sz n z
theorem NnAt.up {H H' : Hp} {x : Nn} {m n : Nat} (f : NnAt H x m n) (s : Same H H') : NnAt H' x m n := ⟨s _ _ f.1, f.2⟩
noncomputable def NRow (H : Hp) (es : List Nn) (m n : Nat) : Prop := ∀ x ∈ es, NnAt H x m n
theorem NRow.up {H H' : Hp} {es : List Nn} {m n : Nat} (h : NRow H es m n) (s : Same H H') : NRow H' es m n := fun x hx => (h x hx).up s
noncomputable def nvals (es : List Nn) : List V := es.map fun x => V.ref x.1
theorem nvals_len (es : List Nn) : (nvals es).length = es.length := List.length_map ..
theorem nvals_at {es : List Nn} {i : Nat} {v : V} (h : (nvals es)[i]? = some v) : ∃ x, es[i]? = some x ∧ v = .ref x.1 := by
  unfold nvals at h
  rw [List.getElem?_map] at h
  cases e : es[i]? with
  | none => rw [e] at h; cases h
  | some x => rw [e] at h; cases h; exact ⟨x, rfl, rfl⟩
noncomputable def nrising (es : List Nn) : Prop := es.Pairwise fun a b => a.2.1 < b.2.1
section
variable {P : Program} {w : World} {K : PySem.W.Frag} {mg : Str → Option Value} {base : Heap} {f : Addr} {fd : FuncData}
end

noncomputable def nsm (x : Nn) : Bool := x.2.2.isSome
theorem nvals_get {es : List Nn} {i : Nat} {x : Nn} (h : es[i]? = some x) : (nvals es)[i]? = some (.ref x.1) := by
  unfold nvals
  rw [List.getElem?_map, h]
  rfl
theorem at_nval {es : List Nn} {i : Nat} {j : Int} {x : Nn} (h : es[i]? = some x) (hj : j = (i : Int)) : atI (nvals es) j = some (.ref x.1) := by
  subst hj
  exact atI_nat (nvals_get h)
section
variable {P : Program} {w : World} {K : PySem.W.Frag} {mg : Str → Option Value} {base : Heap} {f : Addr} {fd : FuncData}
end

noncomputable def mo (es : List En) (k : Nat) : Int := ((es[k]?).map (·.2.1)).getD 0
noncomputable def wo (es : List En) (k : Nat) : Rat := ((es[k]?).bind (·.2.2)).getD 0
noncomputable def sd (es : List En) (i k j : Nat) : Rat := wo es k - chord (mo es i) (wo es i) (mo es k) (mo es j) (wo es j)
noncomputable def AllS (es : List En) : Prop := ∀ x ∈ es, smp x = true
theorem sa_at {H : Hp} {es : List En} {n k : Nat} (hR : Row H es n) (hS : AllS es) (hk : k < es.length) : ∃ x, es[k]? = some x ∧ SaAt H x.1 (mo es k) (wo es k) n := by
  have g : es[k]? = some es[k] := List.getElem?_eq_getElem hk
  have hm : es[k] ∈ es := List.getElem_mem hk
  refine ⟨es[k], g, ?_⟩
  have h1 := hR _ hm
  have h2 : (es[k]).2.2.isSome = true := hS _ hm
  unfold mo wo
  rw [g]
  generalize es[k] = x at *
  obtain ⟨a, m, v⟩ := x
  cases v with
  | none => cases h2
  | some q =>
    obtain ⟨z, p, e, f⟩ := h1
    exact ⟨p, e, f, z⟩
theorem mo_lt {es : List En} {i j : Nat} (h : rising es) (hij : i < j) (hj : j < es.length) : mo es i < mo es j := by
  have hi : i < es.length := by walk_at "o"
  unfold mo
  rw [List.getElem?_eq_getElem hi, List.getElem?_eq_getElem hj]
  exact List.pairwise_iff_getElem.mp h i j hi hj hij
section
variable {P : Program} {w : World} {K : PySem.W.Frag} {mg : Str → Option Value} {base : Heap} {f : Addr} {fd : FuncData}
end

noncomputable def nworth (b : Int) (x : Int × Option Int) : Int × Option Rat := (x.1, x.2.map fun z : Int => (z : Rat) / (b : Rat))
noncomputable def nst (m1 n1 m2 n2 m3 n3 : Int) : Int := n2 * (m3 - m1) - n1 * (m3 - m2) - n3 * (m2 - m1)
noncomputable def spHanded : Sp := fun vs H Q _ => ∃ (l : Addr) (es : List Nn) (b : Int) (m n nb N : Nat), vs = [.ref l, .int b] ∧ H l = some (.lst (nvals es)) ∧ NRow H es m n ∧ es.length ≤ 900 ∧ 1 ≤ b ∧ Sz nb b ∧ m ≤ N ∧ n ≤ N ∧ nb ≤ N ∧ N ≤ 8000 ∧
  ∀ (R : Addr) (es' : List En) (H' : Hp), Same H H' → H R = none → H' R = some (.lst (vals es')) → Row H' es' N → es'.map (·.2) = es.map (fun x => nworth b x.2) → Q (.ref R) H'
theorem r_unpack3 {σ : St} {H : Hp} {K : PySem.W.Frag} {p : Addr} {x y z : V} {i j k : Nat} {R : St → Hp → Prop} (h : H p = some (.tup [x, y, z])) (q : R (((σ.set i (some x)).set j (some y)).set k (some z)) H) : gTup K 3 (gCons (gName i) (gCons (gName j) (gCons (gName k) gNil))) (.ref p) σ H R :=
  ⟨p, _, rfl, SqT.of h, rfl, x, _, rfl, y, _, rfl, z, _, rfl, rfl, q⟩
section
variable {P : Program} {w : World} {K : PySem.W.Frag} {mg : Str → Option Value} {base : Heap} {f : Addr} {fd : FuncData}
theorem sc_law_handed : FnScope ["_law_row_here", "_law_bottom", "_law_handed_here", "_law_moment", "_law_number"] ["_law_row_here", "_law_bottom"] (defScope s_law_handed) := ⟨rfl, rfl, rfl, by decide +kernel, rfl, by decide +kernel, by decide +kernel⟩
theorem ok_law_handed (F : Fun K "_law_handed" "_law_handed" s_law_handed f fd) (D_law_ratio : Dn P w K mg base 1 "_law_ratio" ["_law_top", "_law_bottom"] spRatio) : FnOk P w K mg base CX0 2 f fd ["_law_row_here", "_law_bottom"] spHanded := by
  refine F.ok sc_law_handed (fun vs H Q E h => ?_) (fun cdv A outer s H vs Q E hr h => ?_)
  · obtain ⟨l, es, b, m, n, nb, N, rfl, _⟩ := h
    rfl
  obtain ⟨l, es, b, m, n, nb, N, rfl, hl, hes, h40, hb, zb, hmN, hnN, hbN, hN, k⟩ := h
  refine J.l ⟨_, (J.f (J.i (i := 2) sc_law_handed.nd rfl (Or.inl rfl) (J.t J.d) (hs := sw_L))
      (J.f (J.y PassesOwn.never rfl (Jd.piL K (J.a 0)) (Jd.pgT K (n := 2) rfl (J.aa (J.r (i := 3) sc_law_handed.nd rfl (Or.inl rfl)) (J.aa (J.r (i := 4) sc_law_handed.nd rfl (Or.inl rfl)) Jd.pgs_nil)))
      (J.h (J.o (J.m op_isN (J.a 4) J.v (nomark _))
      (J.h (J.u (J.w K (J.a 2) (J.n (J.b (J.a 3) (J.b J.v J.d st_C) st_N))) (hs := sw_K)))
      (J.h (J.u (J.w K (J.a 2) (J.n (J.b (J.a 3) (J.b (J.j D_law_ratio (hr.mono (by decide)) rfl (J.b (J.a 4) (J.b (J.a 1) J.d st_N) st_N) (he := st_N) (hpl := (anyc st_N any0))) J.d st_K) st_N))) (hs := sw_K))))))
      (J.h (J.k (J.a 2))))), ?_⟩
  walk_at "v"
  refine r_new (mk := .lst) (by simp) fun R H1 s1 n1 e1 => ?_
  walk_at "v"
  refine r_for (r_iL ?_)
  walk_at "v"
  refine ⟨l, rfl, ⟨_, SqL.of (s1 _ _ hl)⟩, for_list (xs := nvals es) (fun i σ H3 => ∃ (es' : List En) (v3 v4 : Option V), σ = [some (.ref l), some (.int b), some (.ref R), v3, v4] ∧ Same H H3 ∧ H3 R = some (.lst (vals es')) ∧ Row H3 es' N ∧ es'.length = i ∧ es'.map (·.2) = (es.take i).map (fun x => nworth b x.2)) ?_ ?_ ?_ ?_⟩
  · exact ⟨[], none, none, rfl, s1, e1, fun x hx => absurd hx (by simp), rfl, rfl⟩
  · rintro i σ H3 _ ⟨es', v3, v4, rfl, s3, _⟩
    exact SqL.of (s3 _ _ hl)
  · rintro i x σ H3 hx ⟨es', v3, v4, rfl, s3, e3, hes', hl', hmap⟩
    obtain ⟨e, he, rfl⟩ := nvals_at hx
    have hi : i < es.length := (List.getElem?_eq_some_iff.mp he).1
    have fe := (hes e (List.mem_of_getElem? he)).up s3
    have tk : es.take (i + 1) = es.take i ++ [e] := by rw [List.take_add_one, he]; rfl
    have fin : ∀ (y : Addr) (H4 : Hp) (v3 v4 : Option V), Same H3 H4 → EnAt H4 (y, nworth b e.2) N → ∃ (es'' : List En) (v3' v4' : Option V), [some (.ref l), some (.int b), some (.ref R), v3, v4] = [some (.ref l), some (.int b), some (.ref R), v3', v4'] ∧
        Same H (upd H4 R (.lst (vals es' ++ [.ref y]))) ∧ upd H4 R (.lst (vals es' ++ [.ref y])) R = some (.lst (vals es'')) ∧ Row (upd H4 R (.lst (vals es' ++ [.ref y]))) es'' N ∧ es''.length = i + 1 ∧ es''.map (·.2) = (es.take (i + 1)).map (fun x => nworth b x.2) := by
      intro y H4 v3 v4 s4 f4
      have e4 := s4 _ _ e3
      refine ⟨es' ++ [(y, nworth b e.2)], v3, v4, rfl, same_at (s3.trans s4) n1, by rw [upd_same]; exact congrArg (fun z => some (HO.lst z)) (vals_snoc es' (y, nworth b e.2)), ((hes'.up s4).snoc f4).app e4, by rw [List.length_append, hl']; rfl, ?_⟩
      rw [tk, List.map_append, List.map_append, hmap]
      rfl
    obtain ⟨a, mm, v⟩ := e
    cases v with
    | none =>
      refine r_unpack2 fe.1 ?_
      walk_at "v"
      refine ⟨rfl, ?_⟩
      walk_at "v"
      refine iteT ?_
      walk_at "v"
      refine ⟨.inl ⟨rfl, _, SqL.of e3⟩, ?_⟩
      walk_at "v"
      refine r_new (mk := .tup) (by simp) fun y H4 s4 n4 e4 => ?_
      walk_at "v"
      refine r_app (s4 _ _ e3) (by rw [vals_len]; exact small1000 (by walk_at "o")) ?_
      exact fin y H4 _ _ s4 ⟨fe.2.1.mono hmN, e4⟩
    | some z =>
      have zz := fe.2.2 z rfl
      refine r_unpack2 fe.1 ?_
      walk_at "v"
      refine ⟨rfl, ?_⟩
      walk_at "v"
      refine iteF ?_
      walk_at "v"
      refine ⟨.inl ⟨rfl, _, SqL.of e3⟩, ?_⟩
      walk_at "v"
      refine frac_gen (n := N) (by walk_at "o") (zz.mono hnN) (zb.mono hbN) hN fun p H4 s4 f4 => ?_
      walk_at "v"
      refine r_new (mk := .tup) (by simp) fun y H5 s5 n5 e5 => ?_
      walk_at "v"
      refine r_app ((s4.trans s5) _ _ e3) (by rw [vals_len]; exact small1000 (by walk_at "o")) ?_
      exact fin y H5 _ _ (s4.trans s5) ⟨fe.2.1.mono hmN, p, e5, f4.up s5⟩
  · rintro σ H3 ⟨es', v3, v4, rfl, s3, e3, hes', hl', hmap⟩
    rw [nvals_len, List.take_length] at hmap
    walk_at "v"
    exact k R es' H3 s3 n1 e3 hes' hmap
end
noncomputable def nmo (hs : List Nn) (k : Nat) : Int := ((hs[k]?).map (·.2.1)).getD 0
noncomputable def nno (hs : List Nn) (k : Nat) : Int := ((hs[k]?).bind (·.2.2)).getD 0
noncomputable def nsd (hs : List Nn) (i k j : Nat) : Int := nst (nmo hs i) (nno hs i) (nmo hs k) (nno hs k) (nmo hs j) (nno hs j)
noncomputable def AllN (hs : List Nn) : Prop := ∀ x ∈ hs, nsm x = true
theorem nn_at {H : Hp} {hs : List Nn} {m n k : Nat} (hR : NRow H hs m n) (hS : AllN hs) (hk : k < hs.length) : ∃ x, hs[k]? = some x ∧ H x.1 = some (.tup [.int (nmo hs k), .int (nno hs k)]) ∧ Sz m (nmo hs k) ∧ Sz n (nno hs k) := by
  have g : hs[k]? = some hs[k] := List.getElem?_eq_getElem hk
  have hm : hs[k] ∈ hs := List.getElem_mem hk
  refine ⟨hs[k], g, ?_⟩
  have h1 := hR _ hm
  have h2 : (hs[k]).2.2.isSome = true := hS _ hm
  unfold nmo nno
  rw [g]
  generalize hs[k] = x at *
  obtain ⟨a, m, v⟩ := x
  cases v with
  | none => cases h2
  | some q => exact ⟨h1.1, h1.2.1, h1.2.2 q rfl⟩
theorem nmo_lt {hs : List Nn} {i j : Nat} (h : nrising hs) (hij : i < j) (hj : j < hs.length) : nmo hs i < nmo hs j := by
  have hi : i < hs.length := by walk_at "o"
  unfold nmo
  rw [List.getElem?_eq_getElem hi, List.getElem?_eq_getElem hj]
  exact List.pairwise_iff_getElem.mp h i j hi hj hij
section
variable {es : List En} {hs : List Nn} {b : Int} (h : es.map (·.2) = hs.map (fun x => nworth b x.2))
include h
theorem link_at (k : Nat) : mo es k = nmo hs k ∧ wo es k = (nno hs k : Rat) / (b : Rat) := by
  have e : (es.map (·.2))[k]? = (hs.map (fun x => nworth b x.2))[k]? := by rw [h]
  rw [List.getElem?_map, List.getElem?_map] at e
  unfold mo nmo wo nno
  have z : (0 : Rat) = ((0 : Int) : Rat) / (b : Rat) := by
    rw [show ((0 : Int) : Rat) = 0 from rfl, Rat.div_def, Rat.zero_mul]
  cases e1 : es[k]? with
  | none =>
    rw [e1] at e
    cases e2 : hs[k]? with
    | none => exact ⟨rfl, z⟩
    | some y => rw [e2] at e; cases e
  | some x =>
    rw [e1] at e
    cases e2 : hs[k]? with
    | none => rw [e2] at e; cases e
    | some y =>
      rw [e2] at e
      have q : x.2 = nworth b y.2 := Option.some.inj e
      obtain ⟨ax, tx, vx⟩ := x
      obtain ⟨ay, ty, vy⟩ := y
      cases vy with
      | none =>
        cases q
        exact ⟨rfl, z⟩
      | some w =>
        cases q
        exact ⟨rfl, rfl⟩
theorem link_len : es.length = hs.length := by
  have := congrArg List.length h
  simpa using this
theorem link_rising (hr : nrising hs) : rising es := by
  have k : (hs.map fun x => x.2.1).Pairwise (· < ·) := List.pairwise_map.mpr hr
  have e := congrArg (List.map Prod.fst) h
  rw [List.map_map, List.map_map] at e
  have e' : es.map (fun x => x.2.1) = hs.map (fun x => x.2.1) := e
  rw [← e'] at k
  exact List.pairwise_map.mp k
theorem link_all (hS : AllN hs) : AllS es := by
  intro x hx
  have hm : x.2 ∈ es.map (·.2) := List.mem_map.mpr ⟨x, hx, rfl⟩
  rw [h] at hm
  obtain ⟨y, hy, e⟩ := List.mem_map.mp hm
  have := hS y hy
  unfold smp
  rw [← e]
  unfold nworth nsm at *
  rw [Option.isSome_map]
  exact this
theorem link_sd {i k j : Nat} (hb : 1 ≤ b) (ht : nmo hs i < nmo hs j) : ((nsd hs i k j : Int) : Rat) = sd es i k j * (((nmo hs j - nmo hs i) * b : Int) : Rat) := by
  obtain ⟨i1, i2⟩ := link_at h i
  obtain ⟨j1, j2⟩ := link_at h j
  obtain ⟨k1, k2⟩ := link_at h k
  unfold sd nsd nst
  rw [i1, i2, j1, j2, k1, k2]
  have hX := chord_mul (t := (nmo hs i : Rat)) (q := (nno hs i : Rat) / (b : Rat)) (u := (nmo hs k : Rat)) (t' := (nmo hs j : Rat)) (q' := (nno hs j : Rat) / (b : Rat)) (cast_sub_ne ht)
  have hb' := cast_ne (b := b) (by walk_at "o")
  simp only [Rat.intCast_mul, Rat.intCast_sub]
  generalize chord (nmo hs i : Rat) ((nno hs i : Rat) / (b : Rat)) (nmo hs k : Rat) (nmo hs j : Rat) ((nno hs j : Rat) / (b : Rat)) = X at *
  generalize (nmo hs i : Rat) = ti at *
  generalize (nmo hs j : Rat) = tj at *
  generalize (nmo hs k : Rat) = tk at *
  generalize (nno hs i : Rat) = ni at *
  generalize (nno hs j : Rat) = nj at *
  generalize (nno hs k : Rat) = nk at *
  grind
end
theorem natAbs_rat (x : Int) : ((x.natAbs : Int) : Rat) = rabs (x : Rat) := by
  have := (Qt.whole x).abs.eq
  simpa using this
noncomputable abbrev Qs := List (Addr × Rat)
noncomputable def qrefs (rs : Qs) : List V := rs.map fun x => V.ref x.1
theorem qrefs_at {rs : Qs} {i : Nat} {v : V} (h : (qrefs rs)[i]? = some v) : ∃ x, rs[i]? = some x ∧ v = .ref x.1 := by
  unfold qrefs at h
  rw [List.getElem?_map] at h
  cases e : rs[i]? with
  | none => rw [e] at h; cases h
  | some x => rw [e] at h; cases h; exact ⟨x, rfl, rfl⟩
noncomputable def AllQ (H : Hp) (rs : Qs) (n : Nat) : Prop := ∀ x ∈ rs, QtAt H x.1 x.2 n
theorem QtAt.app {H : Hp} {R p : Addr} {q : Rat} {n : Nat} {ys : List V} {o : HO} (f : QtAt H p q n) (h : H R = some (.lst ys)) : QtAt (upd H R o) p q n :=
  let ⟨t, b, e, f⟩ := f
  ⟨t, b, (rm_up R H o) _ _ (rm_tup h e), f⟩
noncomputable def SaQ (H : Hp) (p : Addr) (t : Int) (q : Rat) (n m : Nat) : Prop := ∃ v : Addr, H p = some (.tup [.int t, .ref v]) ∧ QtAt H v q n ∧ Sz m t
theorem SaQ.up {H H' : Hp} {p : Addr} {t : Int} {q : Rat} {n m : Nat} (f : SaQ H p t q n m) (s : Same H H') : SaQ H' p t q n m := let ⟨v, e, f, z⟩ := f; ⟨v, s _ _ e, f.up s, z⟩
theorem SaAt.saq {H : Hp} {p : Addr} {t : Int} {q : Rat} {n : Nat} (f : SaAt H p t q n) : SaQ H p t q n n := let ⟨v, e, f, z⟩ := f; ⟨v, e, f.qt, z⟩
noncomputable def lowS (es : List En) (β : Rat) (i k : Nat) : Rat := (wo es k - β - wo es i) / ((mo es k : Rat) - (mo es i : Rat))
noncomputable def highS (es : List En) (β : Rat) (i k : Nat) : Rat := (wo es k + β - wo es i) / ((mo es k : Rat) - (mo es i : Rat))
noncomputable def spLslopeQ : Sp := fun vs H Q _ => ∃ (p r : Addr) (t t' : Int) (q q' : Rat) (n n' m : Nat), vs = [.ref p, .ref r] ∧ SaQ H p t q n m ∧ SaQ H r t' q' n' m ∧ t < t' ∧ n + n' + m ≤ 20000 ∧
  ∀ (s : Addr) (H' : Hp), Same H H' → QtAt H' s ((q' - q) / ((t' : Rat) - (t : Rat))) (n + n' + m + 2) → Q (.ref s) H'
noncomputable def spGreat : Sp := fun vs H Q _ => ∃ (l : Addr) (rs : Qs) (n : Nat), vs = [.ref l] ∧ H l = some (.lst (qrefs rs)) ∧ AllQ H rs n ∧ n ≤ 20000 ∧ 0 < rs.length ∧ ∀ x ∈ rs, (∀ y ∈ rs, y.2 ≤ x.2) → Q (.ref x.1) H
noncomputable def spSmall : Sp := fun vs H Q _ => ∃ (l : Addr) (rs : Qs) (n : Nat), vs = [.ref l] ∧ H l = some (.lst (qrefs rs)) ∧ AllQ H rs n ∧ n ≤ 20000 ∧ 0 < rs.length ∧ ∀ x ∈ rs, (∀ y ∈ rs, x.2 ≤ y.2) → Q (.ref x.1) H
section
variable {P : Program} {w : World} {K : PySem.W.Frag} {mg : Str → Option Value} {base : Heap} {f : Addr} {fd : FuncData}
theorem sc_greatest : FnScope ["quotients", "found", "quotient"] ["quotients"] (defScope s_greatest) := ⟨rfl, rfl, rfl, by decide +kernel, rfl, by decide +kernel, by decide +kernel⟩
theorem ok_greatest (F : Fun K "greatest" "greatest" s_greatest f fd) (D_order : Dn P w K mg base 1 "order" ["one", "other"] spOrderQ) : FnOk P w K mg base CX0 2 f fd ["quotients"] spGreat := by
  refine F.ok sc_greatest (fun vs H Q E h => ?_) (fun cdv A outer s H vs Q E hr h => ?_)
  · obtain ⟨l, rs, n, rfl, _⟩ := h
    rfl
  obtain ⟨l, rs, n, rfl, hl, hq, hn, hp, k⟩ := h
  have g0 : rs[0]? = some rs[0] := List.getElem?_eq_getElem hp
  refine J.l ⟨_, (J.f (J.i (i := 1) sc_greatest.nd rfl (Or.inl rfl) (J.e (ixL K) (J.a 0) J.c (fun _ _ => rfl)) (hs := sw_S))
      (J.f (J.y PassesOwn.never rfl (Jd.piL K (J.a 0)) (J.r (i := 2) sc_greatest.nd rfl (Or.inl rfl))
      (J.h (J.o (J.m op_gt (J.j D_order (hr.mono (by decide)) rfl (J.b (J.a 2) (J.b (J.a 1) J.d st_N) st_N) (he := st_N) (hpl := (anyc st_N any0))) J.c (nomark _))
      (J.h (J.i (i := 1) sc_greatest.nd rfl (Or.inl rfl) (J.a 2) (hs := sw_N)))
      J.q)))
      (J.h (J.k (J.a 1))))), ?_⟩
  walk_at "v"
  refine r_l hl (v := .ref (rs[0]).1) (atI_nat (j := 0) (by unfold qrefs; rw [List.getElem?_map, g0]; rfl)) ?_
  walk_at "v"
  refine r_for (r_iL ?_)
  walk_at "v"
  refine ⟨l, rfl, ⟨_, SqL.of hl⟩, for_list (xs := qrefs rs) (fun i σ H3 => H3 = H ∧ ∃ (x : Addr × Rat) (v : Option V), x ∈ rs ∧ σ = [some (.ref l), some (.ref x.1), v] ∧ ∀ y ∈ rs.take i, y.2 ≤ x.2) ?_ ?_ ?_ ?_⟩
  · exact ⟨rfl, rs[0], none, List.getElem_mem hp, rfl, fun y hy => by simp at hy⟩
  · rintro i σ H3 _ ⟨rfl, _⟩
    exact SqL.of hl
  · rintro i v σ H3 hx ⟨rfl, x, v2, hm, rfl, hle⟩
    obtain ⟨y, gy, rfl⟩ := qrefs_at hx
    have hy := List.mem_of_getElem? gy
    have tk : rs.take (i + 1) = rs.take i ++ [y] := by rw [List.take_add_one, gy]; rfl
    walk_at "v"
    refine ⟨y.1, x.1, y.2, x.2, n, n, rfl, hq y hy, hq x hm, by walk_at "o", fun o ho1 ho2 => ?_⟩
    walk_at "v"
    refine ite2 (fun c => ?_) (fun c => ?_)
    · have c' := ho1.mp (of_decide_eq_true c)
      walk_at "v"
      refine ⟨rfl, y, _, hy, rfl, fun z hz => ?_⟩
      rw [tk] at hz
      rcases List.mem_append.mp hz with q | q
      · have := hle z q
        grind
      · obtain rfl : z = y := by simpa using q
        exact Rat.le_refl
    · have c' : ¬ x.2 < y.2 := fun z => of_decide_eq_false (Bool.eq_false_iff.mpr c) (ho1.mpr z)
      walk_at "v"
      refine ⟨rfl, x, _, hm, rfl, fun z hz => ?_⟩
      rw [tk] at hz
      rcases List.mem_append.mp hz with q | q
      · exact hle z q
      · obtain rfl : z = y := by simpa using q
        exact Rat.not_lt.mp c'
  · rintro σ H3 ⟨rfl, x, v2, hm, rfl, hle⟩
    walk_at "v"
    refine k x hm fun y hy => hle y ?_
    have e : (qrefs rs).length = rs.length := List.length_map ..
    rw [e, List.take_length]
    exact hy
theorem sc_smallest : FnScope ["quotients", "found", "quotient"] ["quotients"] (defScope s_smallest) := ⟨rfl, rfl, rfl, by decide +kernel, rfl, by decide +kernel, by decide +kernel⟩
theorem ok_smallest (F : Fun K "smallest" "smallest" s_smallest f fd) (D_order : Dn P w K mg base 1 "order" ["one", "other"] spOrderQ) : FnOk P w K mg base CX0 2 f fd ["quotients"] spSmall := by
  refine F.ok sc_smallest (fun vs H Q E h => ?_) (fun cdv A outer s H vs Q E hr h => ?_)
  · obtain ⟨l, rs, n, rfl, _⟩ := h
    rfl
  obtain ⟨l, rs, n, rfl, hl, hq, hn, hp, k⟩ := h
  have g0 : rs[0]? = some rs[0] := List.getElem?_eq_getElem hp
  refine J.l ⟨_, (J.f (J.i (i := 1) sc_smallest.nd rfl (Or.inl rfl) (J.e (ixL K) (J.a 0) J.c (fun _ _ => rfl)) (hs := sw_S))
      (J.f (J.y PassesOwn.never rfl (Jd.piL K (J.a 0)) (J.r (i := 2) sc_smallest.nd rfl (Or.inl rfl))
      (J.h (J.o (J.m op_lt (J.j D_order (hr.mono (by decide)) rfl (J.b (J.a 2) (J.b (J.a 1) J.d st_N) st_N) (he := st_N) (hpl := (anyc st_N any0))) J.c (nomark _))
      (J.h (J.i (i := 1) sc_smallest.nd rfl (Or.inl rfl) (J.a 2) (hs := sw_N)))
      J.q)))
      (J.h (J.k (J.a 1))))), ?_⟩
  walk_at "v"
  refine r_l hl (v := .ref (rs[0]).1) (atI_nat (j := 0) (by unfold qrefs; rw [List.getElem?_map, g0]; rfl)) ?_
  walk_at "v"
  refine r_for (r_iL ?_)
  walk_at "v"
  refine ⟨l, rfl, ⟨_, SqL.of hl⟩, for_list (xs := qrefs rs) (fun i σ H3 => H3 = H ∧ ∃ (x : Addr × Rat) (v : Option V), x ∈ rs ∧ σ = [some (.ref l), some (.ref x.1), v] ∧ ∀ y ∈ rs.take i, x.2 ≤ y.2) ?_ ?_ ?_ ?_⟩
  · exact ⟨rfl, rs[0], none, List.getElem_mem hp, rfl, fun y hy => by simp at hy⟩
  · rintro i σ H3 _ ⟨rfl, _⟩
    exact SqL.of hl
  · rintro i v σ H3 hx ⟨rfl, x, v2, hm, rfl, hle⟩
    obtain ⟨y, gy, rfl⟩ := qrefs_at hx
    have hy := List.mem_of_getElem? gy
    have tk : rs.take (i + 1) = rs.take i ++ [y] := by rw [List.take_add_one, gy]; rfl
    walk_at "v"
    refine ⟨y.1, x.1, y.2, x.2, n, n, rfl, hq y hy, hq x hm, by walk_at "o", fun o ho1 ho2 => ?_⟩
    walk_at "v"
    refine ite2 (fun c => ?_) (fun c => ?_)
    · have c' := ho2.mp (of_decide_eq_true c)
      walk_at "v"
      refine ⟨rfl, y, _, hy, rfl, fun z hz => ?_⟩
      rw [tk] at hz
      rcases List.mem_append.mp hz with q | q
      · have := hle z q
        grind
      · obtain rfl : z = y := by simpa using q
        exact Rat.le_refl
    · have c' : ¬ y.2 < x.2 := fun z => of_decide_eq_false (Bool.eq_false_iff.mpr c) (ho2.mpr z)
      walk_at "v"
      refine ⟨rfl, x, _, hm, rfl, fun z hz => ?_⟩
      rw [tk] at hz
      rcases List.mem_append.mp hz with q | q
      · exact hle z q
      · obtain rfl : z = y := by simpa using q
        exact Rat.not_lt.mp c'
  · rintro σ H3 ⟨rfl, x, v2, hm, rfl, hle⟩
    walk_at "v"
    refine k x hm fun y hy => hle y ?_
    have e : (qrefs rs).length = rs.length := List.length_map ..
    rw [e, List.take_length]
    exact hy
theorem ok_loose_slopeQ (F : Fun K "loose_slope" "loose_slope" s_loose_slope f fd) (D_loose_minus : Dn P w K mg base 1 "loose_minus" ["one", "other"] (spTwo (· - ·) 1)) : FnOk P w K mg base CX0 3 f fd ["one", "other"] spLslopeQ := by
  refine F.ok sc_loose_slope (fun vs H Q E h => ?_) (fun cdv A outer s H vs Q E hr h => ?_)
  · obtain ⟨p, r, t, t', q, q', n, n', m, rfl, _⟩ := h
    rfl
  obtain ⟨p, r, t, t', q, q', n, n', m, rfl, ⟨v, hp, hv, zt⟩, ⟨v', hr', hv', zt'⟩, ht, hn, k⟩ := h
  refine J.l ⟨_, (J.f (J.i (i := 2) sc_loose_slope.nd rfl (Or.inl rfl) (J.j D_loose_minus (hr.mono (by decide)) rfl (J.b (J.e (ixT K) (J.a 1) J.c (fun _ _ => rfl)) (J.b (J.e (ixT K) (J.a 0) J.c (fun _ _ => rfl)) J.d st_S) st_S) (he := st_S) (hpl := (anyc st_S any0))) (hs := sw_K))
      (J.f (J.i (i := 3) sc_loose_slope.nd rfl (Or.inl rfl) (J.g op_sub (J.e (ixT K) (J.a 1) J.c (fun _ _ => rfl)) (J.e (ixT K) (J.a 0) J.c (fun _ _ => rfl))) (hs := sw_B))
      (J.f (J.o (J.m op_lt (J.a 3) J.c (nomark _))
      (J.h (J.k (J.n (J.b (J.z un_neg (J.e (ixT K) (J.a 2) J.c (fun _ _ => rfl))) (J.b (J.g op_mulB (J.e (ixT K) (J.a 2) J.c (fun _ _ => rfl)) (J.z un_neg (J.a 3))) J.d st_B) st_U))))
      J.q)
      (J.h (J.k (J.n (J.b (J.e (ixT K) (J.a 2) J.c (fun _ _ => rfl)) (J.b (J.g op_mulB (J.e (ixT K) (J.a 2) J.c (fun _ _ => rfl)) (J.a 3)) J.d st_B) st_S))))))), ?_⟩
  walk_at "v"
  refine ⟨v', v, q', q, n', n, rfl, hv', hv, by walk_at "o", fun x H1 s1 e1 => ?_⟩
  obtain ⟨a, b, hx, hq, za, zb⟩ := e1
  have hp1 := s1 _ _ hp
  have hr1 := s1 _ _ hr'
  have zs : Sz (m + 1) (t' - t) := zt'.sub zt
  walk_at "v"
  refine ite2 (fun c => ?_) (fun c => ?_)
  · have c' : t' - t < 0 := of_decide_eq_true c
    walk_at "o"
  · walk_at "v"
    refine r_I (mulOk zb zs (by walk_at "o")) ?_
    walk_at "v"
    refine r_new (mk := .tup) (by simp) fun y H2 s2 n2 e2 => ?_
    have q2 := hq.div (s := t' - t) (by walk_at "o")
    rw [Rat.intCast_sub] at q2
    exact k y H2 (s1.trans s2) ⟨_, _, e2, q2, za.mono (by walk_at "o"), (zb.mul zs).mono (by walk_at "o")⟩
end

theorem putF_len {f : Str} {v : V} : ∀ {fs : List (Str × V)} {x : V}, fs.lookup f = some x → (putF f v fs).length = fs.length
  | [], _, h => by cases h
  | (g, y) :: r, x, h => by
    unfold putF
    by_cases e : g = f
    · rw [if_pos e]; rfl
    · rw [if_neg e]
      have e' : (f == g) = false := by
        have : ¬ f = g := fun z => e z.symm
        simpa using this
      rw [List.lookup_cons, e'] at h
      show (putF f v r).length + 1 = r.length + 1
      rw [putF_len h]
section
variable {H H' : Hp} {p L : Addr} {C dx : Addr} {fs : List (Str × V)} {ys : List V}
end
theorem SaAt.en {H : Hp} {b : Addr} {t : Int} {q : Rat} {n : Nat} (f : SaAt H b t q n) : EnAt H (b, t, some q) n := let ⟨v, e, f, z⟩ := f; ⟨z, v, e, f⟩
theorem EnAt.sa {H : Hp} {b : Addr} {t : Int} {q : Rat} {n : Nat} (f : EnAt H (b, t, some q) n) : SaAt H b t q n := let ⟨z, v, e, f⟩ := f; ⟨v, e, f, z⟩
noncomputable def toNew (es : List En) (B : Rat) (m : Int) (q : Rat) (i : Nat) : Rat := (q + B - wo es i) / ((m : Rat) - (mo es i : Rat))
noncomputable def spGentle : Sp := fun vs H Q _ => ∃ (kv : V) (l x tw : Addr) (es : List En) (m : Int) (q B : Rat) (n nb : Nat), vs = [kv, .ref l, .ref x, .ref tw] ∧ H l = some (.lst (vals es)) ∧ Row H es n ∧ AllS es ∧ SaAt H x m q n ∧ QtAt H tw B nb ∧ es.length ≤ 900 ∧ n ≤ 1500 ∧ nb ≤ 3000 ∧ (∀ i, i < es.length → mo es i < m) ∧
  (kv = .non ∨ (0 < es.length ∧ ∃ pk Kq, kv = .ref pk ∧ QtAt H pk Kq (3 * n + nb + 3))) ∧ (es.length = 0 → kv = .non → ∀ H', Same H H' → Q .non H') ∧
  (0 < es.length → ∀ (pg : Addr) (G : Rat) (H' : Hp), Same H H' → QtAt H' pg G (3 * n + nb + 3) → (∀ pk Kq, kv = .ref pk → QtAt H pk Kq (3 * n + nb + 3) → Kq ≤ G) → (∀ i, i < es.length → toNew es (-B) m q i ≤ G) → ((∃ i, i < es.length ∧ toNew es (-B) m q i = G) ∨ ∃ pk, kv = .ref pk ∧ QtAt H pk G (3 * n + nb + 3)) → Q (.ref pg) H')
noncomputable def spSteep : Sp := fun vs H Q _ => ∃ (kv : V) (l x tw : Addr) (es : List En) (m : Int) (q B : Rat) (n nb : Nat), vs = [kv, .ref l, .ref x, .ref tw] ∧ H l = some (.lst (vals es)) ∧ Row H es n ∧ AllS es ∧ SaAt H x m q n ∧ QtAt H tw B nb ∧ es.length ≤ 900 ∧ n ≤ 1500 ∧ nb ≤ 3000 ∧ (∀ i, i < es.length → mo es i < m) ∧
  (kv = .non ∨ (0 < es.length ∧ ∃ pk Kq, kv = .ref pk ∧ QtAt H pk Kq (3 * n + nb + 3))) ∧ (es.length = 0 → kv = .non → ∀ H', Same H H' → Q .non H') ∧
  (0 < es.length → ∀ (pg : Addr) (G : Rat) (H' : Hp), Same H H' → QtAt H' pg G (3 * n + nb + 3) → (∀ pk Kq, kv = .ref pk → QtAt H pk Kq (3 * n + nb + 3) → G ≤ Kq) → (∀ i, i < es.length → G ≤ toNew es B m q i) → ((∃ i, i < es.length ∧ toNew es B m q i = G) ∨ ∃ pk, kv = .ref pk ∧ QtAt H pk G (3 * n + nb + 3)) → Q (.ref pg) H')
theorem qt_eq {H : Hp} {p : Addr} {q r : Rat} {n m : Nat} (a : QtAt H p q n) (b : QtAt H p r m) : q = r := by
  obtain ⟨t, d, e, f, _⟩ := a
  obtain ⟨t', d', e', f', _⟩ := b
  rw [e] at e'
  cases e'
  have h1 := f.eq
  have h2 := f'.eq
  have hd := cast_ne (b := d) (by have := f.pos; walk_at "o")
  grind
section
variable {P : Program} {w : World} {K : PySem.W.Frag} {mg : Str → Option Value} {base : Heap} {f c_Stretch : Addr} {fd : FuncData}
theorem sc_gentlest_with : FnScope ["known", "earlier", "sample", "twice", "lowered", "found"] ["known", "earlier", "sample", "twice"] (defScope s_gentlest_with) := ⟨rfl, rfl, rfl, by decide +kernel, rfl, by decide +kernel, by decide +kernel⟩
theorem ok_gentlest_with (F : Fun K "gentlest_with" "gentlest_with" s_gentlest_with f fd) (T : Txt mg) (D_loose_minus : Dn P w K mg base 1 "loose_minus" ["one", "other"] (spTwo (· - ·) 1)) (D_loose_slopeQ : Dn P w K mg base 3 "loose_slope" ["one", "other"] spLslopeQ) (D_greatest : Dn P w K mg base 2 "greatest" ["quotients"] spGreat) :
    FnOk P w K mg base CX0 4 f fd ["known", "earlier", "sample", "twice"] spGentle := by
  refine F.ok sc_gentlest_with (fun vs H Q E h => ?_) (fun cdv A outer s H vs Q E hr h => ?_)
  · obtain ⟨kv, l, x, tw, es, m, q, B, n, nb, rfl, _⟩ := h
    rfl
  obtain ⟨kv, l, x, tw, es, m, q, B, n, nb, rfl, hl, hR, hS, hx, htw, h900, hn, hnb, hm, hkv, k0, k1⟩ := h
  obtain ⟨vx, ex, fx, zm⟩ := hx
  refine J.l ⟨_, (J.f (J.i (i := 4) sc_gentlest_with.nd rfl (Or.inr rfl) (J.n (J.b (J.e (ixT K) (J.a 2) J.c (fun _ _ => rfl)) (J.b (J.j D_loose_minus (hr.mono (by decide)) rfl (J.b (J.e (ixT K) (J.a 2) J.c (fun _ _ => rfl)) (J.b (J.a 3) J.d st_N) st_S) (he := st_S) (hpl := (anyc st_N any0))) J.d st_K) st_S)) (hs := sw_T))
      (J.f (Jd.ps_comp (O := ["one"]) (N' := ["lowered"]) (cap := [4]) (i := 5) sc_gentlest_with.nd rfl (Or.inl rfl) rfl (Jd.piL K (J.a 1)) (fun _ _ _ _ _ => (J.r (i := 0) (show List.Nodup [("one" : Str), ("lowered" : Str)] by decide +kernel) rfl (Or.inl rfl))) (fun _ _ _ _ _ => Jd.pts_nil) (fun _ _ _ _ _ => (J.j D_loose_slopeQ (hr.mono (by decide)) rfl (J.b (J.a 0) (J.b (J.a 1) J.d st_N) st_N) (he := st_N) (hpl := (anyc st_N any0)))) rfl ⟨⟨rfl, rfl, rfl, rfl⟩, trivial⟩ rfl (by decide +kernel) rfl (by decide +kernel) (by rfl))
      (J.f (J.o (J.m op_notN (J.a 0) J.v (nomark _))
      (J.h (J.u (J.w K (J.a 5) (J.a 0)) (hs := sw_K)))
      J.q)
      (J.h (J.k (Jd.pe_ifExp (J.m op_gt (J.s (lenC K) rfl T.len_ PySem.boot_len (J.b (J.a 5) J.d st_N) (he := st_N) (hpl := any0)) J.c (nomark _)) (J.j D_greatest (hr.mono (by decide)) rfl (J.b (J.a 5) J.d st_N) (he := st_N) (hpl := any0)) J.v)))))), ?_⟩
  walk_at "v"
  refine ⟨vx, tw, q, B, n, nb, rfl, fx.qt, htw, by walk_at "o", fun y1 H1 s1 f1 => ?_⟩
  walk_at "v"
  refine r_new (mk := .tup) (by simp) fun lo H2 s2 n2 e2 => ?_
  have s02 := s1.trans s2
  have flo : SaQ H2 lo m (q - B) (n + nb + 1) n := ⟨y1, e2, f1.up s2, zm⟩
  walk_at "v"
  refine r_iL ?_
  walk_at "v"
  refine ⟨l, rfl, ⟨_, SqL.of (s02 _ _ hl)⟩, ?_⟩
  refine compB_of (xs := vals es) tells_list (fun H3 s3 => SqL.of (s3 _ _ (s02 _ _ hl))) (by rw [vals_len]; walk_at "o") (fun i ys G => ∃ rs : Qs, ys = qrefs rs ∧ AllQ G rs (3 * n + nb + 3) ∧ rs.map (·.2) = (List.range i).map (fun j => toNew es (-B) m q j)) ⟨[], rfl, fun z hz => absurd hz (by simp), rfl⟩ ?_ ?_
  · rintro D i v ys H3 σ0 N N0 h0 hD eD s3 hv hy ⟨rs, rfl, hrs, hmap⟩ kY kN
    obtain ⟨e, he, rfl⟩ := vals_at hv
    have hi : i < es.length := (List.getElem?_eq_some_iff.mp he).1
    obtain ⟨xi, gi, fi⟩ := sa_at (hR.up (s02.trans s3)) hS hi
    rw [he] at gi
    cases gi
    refine r_own1 h0 ?_
    walk_at "v"
    refine iteT ?_
    walk_at "v"
    refine ⟨e.1, lo, _, _, _, _, n, n + nb + 1, n, rfl, fi.saq, flo.up s3, hm i hi, by walk_at "o", fun z H4 s4 f4 => ?_⟩
    refine kY _ H4 s4 ⟨rs ++ [(z, toNew es (-B) m q i)], by simp [qrefs], fun u hu => ?_, ?_⟩
    · rcases List.mem_append.mp hu with w | w
      · exact (hrs u w).up (rm_rm s4)
      · obtain rfl : u = (z, toNew es (-B) m q i) := by simpa using w
        obtain ⟨t, d, e', ff⟩ := f4.mono (show n + (n + nb + 1) + n + 2 ≤ 3 * n + nb + 3 by walk_at "o")
        refine ⟨t, d, rm_tup (s4 _ _ eD) e', ?_⟩
        have eq : (q - B - wo es i) / ((m : Rat) - (mo es i : Rat)) = toNew es (-B) m q i := by
          unfold toNew
          rw [show q + -B - wo es i = q - B - wo es i by grind]
        rw [← eq]
        exact ff
    · rw [List.map_append, hmap, List.range_succ, List.map_append]
      rfl
  · rintro D ys H3 hD eD s3 hy ⟨rs, rfl, hrs, hmap⟩
    rw [vals_len] at hmap
    have hrs3 : AllQ H3 rs (3 * n + nb + 3) := fun u hu => (hrs u hu).up rm_same
    have s03 := s02.trans s3
    have hlen : rs.length = es.length := by
      have := congrArg List.length hmap
      simpa using this
    have inR : ∀ i, i < es.length → ∃ u ∈ rs, u.2 = toNew es (-B) m q i := fun i hi => by
      have : toNew es (-B) m q i ∈ rs.map (·.2) := by rw [hmap]; exact List.mem_map.mpr ⟨i, List.mem_range.mpr hi, rfl⟩
      obtain ⟨u, hu, e⟩ := List.mem_map.mp this
      exact ⟨u, hu, e⟩
    have ofR : ∀ u ∈ rs, ∃ i, i < es.length ∧ toNew es (-B) m q i = u.2 := fun u hu => by
      have : u.2 ∈ rs.map (·.2) := List.mem_map.mpr ⟨u, hu, rfl⟩
      rw [hmap] at this
      obtain ⟨i, hi, e⟩ := List.mem_map.mp this
      exact ⟨i, List.mem_range.mp hi, e⟩
    walk_at "v"
    rcases hkv with rfl | ⟨hpos, pk, Kq, rfl, hK⟩
    · refine ⟨rfl, ?_⟩
      walk_at "v"
      refine iteF ?_
      walk_at "v"
      refine r_len (.inl (SqL.of eD)) ?_
      walk_at "v"
      refine ite2 (fun c => ?_) (fun c => ?_)
      · have c' := of_decide_eq_true c
        have hpos : 0 < rs.length := by
          have e : (qrefs rs).length = rs.length := List.length_map ..
          rw [e] at c'
          walk_at "o"
        walk_at "v"
        refine ⟨D, rs, 3 * n + nb + 3, rfl, eD, hrs3, by walk_at "o", hpos, fun u hu hmax => ?_⟩
        walk_at "v"
        refine k1 (by walk_at "o") u.1 u.2 H3 s03 (hrs3 u hu) (fun pk Kq e => by cases e) (fun i hi => ?_) (.inl (ofR u hu))
        obtain ⟨z, hz, e⟩ := inR i hi
        rw [← e]
        exact hmax z hz
      · have c' := of_decide_eq_false (Bool.eq_false_iff.mpr c)
        walk_at "v"
        refine k0 ?_ rfl H3 s03
        have e : (qrefs rs).length = rs.length := List.length_map ..
        rw [e] at c'
        walk_at "o"
    · refine ⟨rfl, ?_⟩
      walk_at "v"
      refine iteT ?_
      walk_at "v"
      refine ⟨.inl ⟨rfl, _, SqL.of eD⟩, ?_⟩
      walk_at "v"
      have e : (qrefs rs).length = rs.length := List.length_map ..
      refine r_app eD (by rw [e]; exact small1000 (by walk_at "o")) ?_
      have e4 : upd H3 D (.lst (qrefs rs ++ [.ref pk])) D = some (.lst (qrefs (rs ++ [(pk, Kq)]))) := by rw [upd_same]; simp [qrefs]
      have hK3 := hK.up s03
      generalize hG : upd H3 D (.lst (qrefs rs ++ [.ref pk])) = H4 at *
      have s04 : Same H2 H4 := by rw [← hG]; exact same_at s3 hD
      have hq4 : AllQ H4 (rs ++ [(pk, Kq)]) (3 * n + nb + 3) := fun u hu => by
        rcases List.mem_append.mp hu with w | w
        · rw [← hG]; exact (hrs3 u w).app eD
        · obtain rfl : u = (pk, Kq) := by simpa using w
          rw [← hG]; exact hK3.app eD
      walk_at "v"
      refine r_len (.inl (SqL.of e4)) ?_
      walk_at "v"
      have e' : (qrefs (rs ++ [(pk, Kq)])).length = rs.length + 1 := by simp [qrefs]
      rw [e', show decide ((((rs.length + 1 : Nat) : Int)) > 0) = true from decide_eq_true (by walk_at "o")]
      refine iteT ?_
      walk_at "v"
      refine ⟨D, rs ++ [(pk, Kq)], 3 * n + nb + 3, rfl, e4, hq4, by walk_at "o", by simp, fun u hu hmax => ?_⟩
      walk_at "v"
      refine k1 hpos u.1 u.2 H4 (s02.trans s04) (hq4 u hu) (fun pk' Kq' e1 q1 => ?_) (fun i hi => ?_) ?_
      · cases e1
        rw [qt_eq q1 hK]
        exact hmax (pk, Kq) (by simp)
      · obtain ⟨z, hz, e1⟩ := inR i hi
        rw [← e1]
        exact hmax z (List.mem_append_left _ hz)
      · rcases List.mem_append.mp hu with w | w
        · exact .inl (ofR u w)
        · obtain rfl : u = (pk, Kq) := by simpa using w
          exact .inr ⟨pk, rfl, hK⟩
theorem sc_steepest_with : FnScope ["known", "earlier", "sample", "twice", "raised", "found"] ["known", "earlier", "sample", "twice"] (defScope s_steepest_with) := ⟨rfl, rfl, rfl, by decide +kernel, rfl, by decide +kernel, by decide +kernel⟩
theorem ok_steepest_with (F : Fun K "steepest_with" "steepest_with" s_steepest_with f fd) (T : Txt mg) (D_loose_plus : Dn P w K mg base 1 "loose_plus" ["one", "other"] (spTwo (· + ·) 1)) (D_loose_slopeQ : Dn P w K mg base 3 "loose_slope" ["one", "other"] spLslopeQ) (D_smallest : Dn P w K mg base 2 "smallest" ["quotients"] spSmall) :
    FnOk P w K mg base CX0 4 f fd ["known", "earlier", "sample", "twice"] spSteep := by
  refine F.ok sc_steepest_with (fun vs H Q E h => ?_) (fun cdv A outer s H vs Q E hr h => ?_)
  · obtain ⟨kv, l, x, tw, es, m, q, B, n, nb, rfl, _⟩ := h
    rfl
  obtain ⟨kv, l, x, tw, es, m, q, B, n, nb, rfl, hl, hR, hS, hx, htw, h900, hn, hnb, hm, hkv, k0, k1⟩ := h
  obtain ⟨vx, ex, fx, zm⟩ := hx
  refine J.l ⟨_, (J.f (J.i (i := 4) sc_steepest_with.nd rfl (Or.inr rfl) (J.n (J.b (J.e (ixT K) (J.a 2) J.c (fun _ _ => rfl)) (J.b (J.j D_loose_plus (hr.mono (by decide)) rfl (J.b (J.e (ixT K) (J.a 2) J.c (fun _ _ => rfl)) (J.b (J.a 3) J.d st_N) st_S) (he := st_S) (hpl := (anyc st_N any0))) J.d st_K) st_S)) (hs := sw_T))
      (J.f (Jd.ps_comp (O := ["one"]) (N' := ["raised"]) (cap := [4]) (i := 5) sc_steepest_with.nd rfl (Or.inl rfl) rfl (Jd.piL K (J.a 1)) (fun _ _ _ _ _ => (J.r (i := 0) (show List.Nodup [("one" : Str), ("raised" : Str)] by decide +kernel) rfl (Or.inl rfl))) (fun _ _ _ _ _ => Jd.pts_nil) (fun _ _ _ _ _ => (J.j D_loose_slopeQ (hr.mono (by decide)) rfl (J.b (J.a 0) (J.b (J.a 1) J.d st_N) st_N) (he := st_N) (hpl := (anyc st_N any0)))) rfl ⟨⟨rfl, rfl, rfl, rfl⟩, trivial⟩ rfl (by decide +kernel) rfl (by decide +kernel) (by rfl))
      (J.f (J.o (J.m op_notN (J.a 0) J.v (nomark _))
      (J.h (J.u (J.w K (J.a 5) (J.a 0)) (hs := sw_K)))
      J.q)
      (J.h (J.k (Jd.pe_ifExp (J.m op_gt (J.s (lenC K) rfl T.len_ PySem.boot_len (J.b (J.a 5) J.d st_N) (he := st_N) (hpl := any0)) J.c (nomark _)) (J.j D_smallest (hr.mono (by decide)) rfl (J.b (J.a 5) J.d st_N) (he := st_N) (hpl := any0)) J.v)))))), ?_⟩
  walk_at "v"
  refine ⟨vx, tw, q, B, n, nb, rfl, fx.qt, htw, by walk_at "o", fun y1 H1 s1 f1 => ?_⟩
  walk_at "v"
  refine r_new (mk := .tup) (by simp) fun lo H2 s2 n2 e2 => ?_
  have s02 := s1.trans s2
  have flo : SaQ H2 lo m (q + B) (n + nb + 1) n := ⟨y1, e2, f1.up s2, zm⟩
  walk_at "v"
  refine r_iL ?_
  walk_at "v"
  refine ⟨l, rfl, ⟨_, SqL.of (s02 _ _ hl)⟩, ?_⟩
  refine compB_of (xs := vals es) tells_list (fun H3 s3 => SqL.of (s3 _ _ (s02 _ _ hl))) (by rw [vals_len]; walk_at "o") (fun i ys G => ∃ rs : Qs, ys = qrefs rs ∧ AllQ G rs (3 * n + nb + 3) ∧ rs.map (·.2) = (List.range i).map (fun j => toNew es B m q j)) ⟨[], rfl, fun z hz => absurd hz (by simp), rfl⟩ ?_ ?_
  · rintro D i v ys H3 σ0 N N0 h0 hD eD s3 hv hy ⟨rs, rfl, hrs, hmap⟩ kY kN
    obtain ⟨e, he, rfl⟩ := vals_at hv
    have hi : i < es.length := (List.getElem?_eq_some_iff.mp he).1
    obtain ⟨xi, gi, fi⟩ := sa_at (hR.up (s02.trans s3)) hS hi
    rw [he] at gi
    cases gi
    refine r_own1 h0 ?_
    walk_at "v"
    refine iteT ?_
    walk_at "v"
    refine ⟨e.1, lo, _, _, _, _, n, n + nb + 1, n, rfl, fi.saq, flo.up s3, hm i hi, by walk_at "o", fun z H4 s4 f4 => ?_⟩
    refine kY _ H4 s4 ⟨rs ++ [(z, toNew es B m q i)], by simp [qrefs], fun u hu => ?_, ?_⟩
    · rcases List.mem_append.mp hu with w | w
      · exact (hrs u w).up (rm_rm s4)
      · obtain rfl : u = (z, toNew es B m q i) := by simpa using w
        obtain ⟨t, d, e', ff⟩ := f4.mono (show n + (n + nb + 1) + n + 2 ≤ 3 * n + nb + 3 by walk_at "o")
        refine ⟨t, d, rm_tup (s4 _ _ eD) e', ?_⟩
        have eq : (q + B - wo es i) / ((m : Rat) - (mo es i : Rat)) = toNew es B m q i := by
          rfl
        rw [← eq]
        exact ff
    · rw [List.map_append, hmap, List.range_succ, List.map_append]
      rfl
  · rintro D ys H3 hD eD s3 hy ⟨rs, rfl, hrs, hmap⟩
    rw [vals_len] at hmap
    have hrs3 : AllQ H3 rs (3 * n + nb + 3) := fun u hu => (hrs u hu).up rm_same
    have s03 := s02.trans s3
    have hlen : rs.length = es.length := by
      have := congrArg List.length hmap
      simpa using this
    have inR : ∀ i, i < es.length → ∃ u ∈ rs, u.2 = toNew es B m q i := fun i hi => by
      have : toNew es B m q i ∈ rs.map (·.2) := by rw [hmap]; exact List.mem_map.mpr ⟨i, List.mem_range.mpr hi, rfl⟩
      obtain ⟨u, hu, e⟩ := List.mem_map.mp this
      exact ⟨u, hu, e⟩
    have ofR : ∀ u ∈ rs, ∃ i, i < es.length ∧ toNew es B m q i = u.2 := fun u hu => by
      have : u.2 ∈ rs.map (·.2) := List.mem_map.mpr ⟨u, hu, rfl⟩
      rw [hmap] at this
      obtain ⟨i, hi, e⟩ := List.mem_map.mp this
      exact ⟨i, List.mem_range.mp hi, e⟩
    walk_at "v"
    rcases hkv with rfl | ⟨hpos, pk, Kq, rfl, hK⟩
    · refine ⟨rfl, ?_⟩
      walk_at "v"
      refine iteF ?_
      walk_at "v"
      refine r_len (.inl (SqL.of eD)) ?_
      walk_at "v"
      refine ite2 (fun c => ?_) (fun c => ?_)
      · have c' := of_decide_eq_true c
        have hpos : 0 < rs.length := by
          have e : (qrefs rs).length = rs.length := List.length_map ..
          rw [e] at c'
          walk_at "o"
        walk_at "v"
        refine ⟨D, rs, 3 * n + nb + 3, rfl, eD, hrs3, by walk_at "o", hpos, fun u hu hmax => ?_⟩
        walk_at "v"
        refine k1 (by walk_at "o") u.1 u.2 H3 s03 (hrs3 u hu) (fun pk Kq e => by cases e) (fun i hi => ?_) (.inl (ofR u hu))
        obtain ⟨z, hz, e⟩ := inR i hi
        rw [← e]
        exact hmax z hz
      · have c' := of_decide_eq_false (Bool.eq_false_iff.mpr c)
        walk_at "v"
        refine k0 ?_ rfl H3 s03
        have e : (qrefs rs).length = rs.length := List.length_map ..
        rw [e] at c'
        walk_at "o"
    · refine ⟨rfl, ?_⟩
      walk_at "v"
      refine iteT ?_
      walk_at "v"
      refine ⟨.inl ⟨rfl, _, SqL.of eD⟩, ?_⟩
      walk_at "v"
      have e : (qrefs rs).length = rs.length := List.length_map ..
      refine r_app eD (by rw [e]; exact small1000 (by walk_at "o")) ?_
      have e4 : upd H3 D (.lst (qrefs rs ++ [.ref pk])) D = some (.lst (qrefs (rs ++ [(pk, Kq)]))) := by rw [upd_same]; simp [qrefs]
      have hK3 := hK.up s03
      generalize hG : upd H3 D (.lst (qrefs rs ++ [.ref pk])) = H4 at *
      have s04 : Same H2 H4 := by rw [← hG]; exact same_at s3 hD
      have hq4 : AllQ H4 (rs ++ [(pk, Kq)]) (3 * n + nb + 3) := fun u hu => by
        rcases List.mem_append.mp hu with w | w
        · rw [← hG]; exact (hrs3 u w).app eD
        · obtain rfl : u = (pk, Kq) := by simpa using w
          rw [← hG]; exact hK3.app eD
      walk_at "v"
      refine r_len (.inl (SqL.of e4)) ?_
      walk_at "v"
      have e' : (qrefs (rs ++ [(pk, Kq)])).length = rs.length + 1 := by simp [qrefs]
      rw [e', show decide ((((rs.length + 1 : Nat) : Int)) > 0) = true from decide_eq_true (by walk_at "o")]
      refine iteT ?_
      walk_at "v"
      refine ⟨D, rs ++ [(pk, Kq)], 3 * n + nb + 3, rfl, e4, hq4, by walk_at "o", by simp, fun u hu hmax => ?_⟩
      walk_at "v"
      refine k1 hpos u.1 u.2 H4 (s02.trans s04) (hq4 u hu) (fun pk' Kq' e1 q1 => ?_) (fun i hi => ?_) ?_
      · cases e1
        rw [qt_eq q1 hK]
        exact hmax (pk, Kq) (by simp)
      · obtain ⟨z, hz, e1⟩ := inR i hi
        rw [← e1]
        exact hmax z (List.mem_append_left _ hz)
      · rcases List.mem_append.mp hu with w | w
        · exact .inl (ofR u w)
        · obtain rfl : u = (pk, Kq) := by simpa using w
          exact .inr ⟨pk, rfl, hK⟩
theorem mo_left {es fs : List En} {i : Nat} (h : i < es.length) : mo (es ++ fs) i = mo es i := by unfold mo; rw [List.getElem?_append_left h]
theorem wo_left {es fs : List En} {i : Nat} (h : i < es.length) : wo (es ++ fs) i = wo es i := by unfold wo; rw [List.getElem?_append_left h]
theorem mo_last {es : List En} {a : Addr} {m : Int} {q : Rat} : mo (es ++ [(a, m, some q)]) es.length = m := by unfold mo; simp
theorem wo_last {es : List En} {a : Addr} {m : Int} {q : Rat} : wo (es ++ [(a, m, some q)]) es.length = q := by unfold wo; simp
section
variable {es : List En} {a : Addr} {m : Int} {q B G S : Rat} {i j : Nat}
theorem low_left (hij : i < j) (hj : j < es.length) : lowS (es ++ [(a, m, some q)]) B i j = lowS es B i j := by
  unfold lowS
  rw [mo_left hj, wo_left hj, mo_left (by walk_at "o"), wo_left (by walk_at "o")]
theorem high_left (hij : i < j) (hj : j < es.length) : highS (es ++ [(a, m, some q)]) B i j = highS es B i j := by
  unfold highS
  rw [mo_left hj, wo_left hj, mo_left (by walk_at "o"), wo_left (by walk_at "o")]
theorem low_new (hi : i < es.length) : lowS (es ++ [(a, m, some q)]) B i es.length = toNew es (-B) m q i := by
  unfold lowS toNew
  rw [mo_last, wo_last, mo_left hi, wo_left hi, show q + -B = q - B by grind]
theorem high_new (hi : i < es.length) : highS (es ++ [(a, m, some q)]) B i es.length = toNew es B m q i := by
  unfold highS toNew
  rw [mo_last, wo_last, mo_left hi, wo_left hi]
theorem rising_new (h : rising es) (hm : ∀ i, i < es.length → mo es i < m) : rising (es ++ [(a, m, some q)]) := by
  refine List.pairwise_append.mpr ⟨h, List.pairwise_singleton _ _, fun x hx y hy => ?_⟩
  obtain rfl : y = (a, m, some q) := by simpa using hy
  obtain ⟨i, hi, rfl⟩ := List.getElem_of_mem hx
  have := hm i hi
  unfold mo at this
  rw [List.getElem?_eq_getElem hi] at this
  exact this
theorem allS_new (h : AllS es) : AllS (es ++ [(a, m, some q)]) := fun x hx => by
  rcases List.mem_append.mp hx with z | z
  · exact h x z
  · obtain rfl : x = (a, m, some q) := by simpa using z
    rfl
end
end
noncomputable def LoP (ss : List En) (B : Rat) (fl ro : Nat) (G : Rat) : Prop := ∀ q p, ro ≤ q → q < p → fl ≤ p → p < ss.length → lowS ss B q p ≤ G
noncomputable def HiP (ss : List En) (B : Rat) (fl ro : Nat) (S : Rat) : Prop := ∀ q p, fl ≤ q → q < p → ro ≤ p → p < ss.length → S ≤ highS ss B q p
noncomputable def GF (ss : List En) (B : Rat) (fl ro : Nat) (G : Rat) : Prop := LoP ss B fl ro G ∧ ∃ q p, ro ≤ q ∧ q < p ∧ fl ≤ p ∧ p < ss.length ∧ lowS ss B q p = G
noncomputable def SF (ss : List En) (B : Rat) (fl ro : Nat) (S : Rat) : Prop := HiP ss B fl ro S ∧ ∃ q p, fl ≤ q ∧ q < p ∧ ro ≤ p ∧ p < ss.length ∧ highS ss B q p = S
noncomputable def lev (ss : List En) (T : Rat) (i : Nat) : Rat := wo ss i - T * (mo ss i : Rat)
theorem rle_eq {a b : Rat} (h : a = b) : a ≤ b := h ▸ Rat.le_refl
section
variable {ss : List En} {B G S T β : Rat} {fl ro i j a b : Nat} {x : Addr} {m : Int} {q : Rat}
theorem mo_pos (h : rising ss) (hij : i < j) (hj : j < ss.length) : (0 : Rat) < (mo ss j : Rat) - (mo ss i : Rat) := by
  have := Rat.intCast_lt_intCast.mpr (mo_lt h hij hj)
  grind
theorem low_lev (h : rising ss) (hij : i < j) (hj : j < ss.length) : lowS ss B i j ≤ G ↔ lev ss G j ≤ lev ss G i + B := by
  unfold lowS lev
  rw [rdiv_le (mo_pos h hij hj)]
  constructor
  · intro _; grind
  · intro _; grind
theorem lev_low (h : rising ss) (hij : i < j) (hj : j < ss.length) : G ≤ lowS ss B i j ↔ lev ss G i + B ≤ lev ss G j := by
  unfold lowS lev
  rw [rle_div (mo_pos h hij hj)]
  constructor
  · intro _; grind
  · intro _; grind
theorem high_lev (h : rising ss) (hij : i < j) (hj : j < ss.length) : S ≤ highS ss B i j ↔ lev ss S i ≤ lev ss S j + B := by
  unfold highS lev
  rw [rle_div (mo_pos h hij hj)]
  constructor
  · intro _; grind
  · intro _; grind
theorem lev_high (h : rising ss) (hij : i < j) (hj : j < ss.length) : highS ss B i j ≤ S ↔ lev ss S j + B ≤ lev ss S i := by
  unfold highS lev
  rw [rdiv_le (mo_pos h hij hj)]
  constructor
  · intro _; grind
  · intro _; grind
theorem low_is (h : rising ss) (hij : i < j) (hj : j < ss.length) : lowS ss B i j = G ↔ lev ss G j = lev ss G i + B :=
  ⟨fun e => Rat.le_antisymm ((low_lev h hij hj).mp (rle_eq e)) ((lev_low h hij hj).mp (rle_eq e.symm)), fun e => Rat.le_antisymm ((low_lev h hij hj).mpr (rle_eq e)) ((lev_low h hij hj).mpr (rle_eq e.symm))⟩
theorem high_is (h : rising ss) (hij : i < j) (hj : j < ss.length) : highS ss B i j = S ↔ lev ss S i = lev ss S j + B :=
  ⟨fun e => Rat.le_antisymm ((high_lev h hij hj).mp (rle_eq e.symm)) ((lev_high h hij hj).mp (rle_eq e)), fun e => Rat.le_antisymm ((lev_high h hij hj).mpr (rle_eq e.symm)) ((high_lev h hij hj).mpr (rle_eq e))⟩
theorem LoP.mono (h : LoP ss B fl ro G) (g : G ≤ T) : LoP ss B fl ro T := fun q p a1 a2 a3 a4 => Rat.le_trans (h q p a1 a2 a3 a4) g
theorem HiP.mono (h : HiP ss B fl ro S) (g : T ≤ S) : HiP ss B fl ro T := fun q p a1 a2 a3 a4 => Rat.le_trans g (h q p a1 a2 a3 a4)
theorem bear (hB : 0 ≤ B) (hr : rising ss) (hL : LoP ss B fl ro T) (hH : HiP ss B fl ro T) (ha : ro ≤ a) (hb : fl ≤ b) (la : a < ss.length) (lb : b < ss.length) : lev ss T b ≤ lev ss T a + B := by
  rcases Nat.lt_trichotomy a b with z | z | z
  · exact (low_lev hr z lb).mp (hL a b ha z hb lb)
  · subst z; grind
  · exact (high_lev hr z la).mp (hH b a hb z ha la)
theorem lev_left {ys : List En} (hi : i < ss.length) : lev (ss ++ ys) T i = lev ss T i := by
  unfold lev
  rw [mo_left hi, wo_left hi]
theorem lev_last : lev (ss ++ [(x, m, some q)]) T ss.length = q - T * (m : Rat) := by
  unfold lev
  rw [mo_last, wo_last]
theorem mo_drop : mo (ss.drop j) i = mo ss (j + i) := by unfold mo; rw [List.getElem?_drop]
theorem wo_drop : wo (ss.drop j) i = wo ss (j + i) := by unfold wo; rw [List.getElem?_drop]
theorem drop_rising (h : rising ss) : rising (ss.drop j) := h.sublist (List.drop_sublist ..)
theorem lev_drop : lev (ss.drop j) T i = lev ss T (j + i) := by unfold lev; rw [mo_drop, wo_drop]
theorem toNew_drop : toNew (ss.drop j) B m q i = toNew ss B m q (j + i) := by unfold toNew; rw [mo_drop, wo_drop]
theorem gf_new {g : Option Rat} (h1 : ∀ G0, g = some G0 → GF ss B fl ro G0 ∧ G0 ≤ G) (hN : g = none → ∀ q p, ro ≤ q → q < p → fl ≤ p → ¬ p < ss.length) (hfl : fl ≤ ss.length) (hall : ∀ i, i < (ss.drop ro).length → toNew (ss.drop ro) (-B) m q i ≤ G) (hex : (∃ i, i < (ss.drop ro).length ∧ toNew (ss.drop ro) (-B) m q i = G) ∨ g = some G) : GF (ss ++ [(x, m, some q)]) B fl ro G := by
  have ld : (ss.drop ro).length = ss.length - ro := List.length_drop ..
  rw [ld] at hall hex
  refine ⟨fun i j hi hij hkj hj => ?_, ?_⟩
  · rw [List.length_append] at hj
    have hj' : j < ss.length + 1 := hj
    by_cases e : j = ss.length
    · subst e
      rw [low_new hij]
      have := hall (i - ro) (by omega)
      rw [toNew_drop, show ro + (i - ro) = i by omega] at this
      exact this
    · rw [low_left hij (by omega)]
      cases hg : g with
      | none => exact absurd (show j < ss.length by omega) (hN hg i j hi hij hkj)
      | some G0 =>
        obtain ⟨g1, le⟩ := h1 G0 hg
        exact Rat.le_trans (g1.1 i j hi hij hkj (by omega)) le
  · rcases hex with ⟨i, hi, e⟩ | e
    · refine ⟨ro + i, ss.length, by omega, by omega, hfl, by rw [List.length_append]; show _ < ss.length + 1; omega, ?_⟩
      rw [low_new (by omega), ← toNew_drop]
      exact e
    · obtain ⟨i, j, a0, a1, a2, a3, a4⟩ := (h1 G e).1.2
      exact ⟨i, j, a0, a1, a2, by rw [List.length_append]; show _ < ss.length + 1; omega, by rw [low_left a1 a3]; exact a4⟩
theorem sf_new {s : Option Rat} (h1 : ∀ S0, s = some S0 → SF ss B fl ro S0 ∧ S ≤ S0) (hN : s = none → ∀ q p, fl ≤ q → q < p → ro ≤ p → ¬ p < ss.length) (hro : ro ≤ ss.length) (hall : ∀ i, i < (ss.drop fl).length → S ≤ toNew (ss.drop fl) B m q i) (hex : (∃ i, i < (ss.drop fl).length ∧ toNew (ss.drop fl) B m q i = S) ∨ s = some S) : SF (ss ++ [(x, m, some q)]) B fl ro S := by
  have ld : (ss.drop fl).length = ss.length - fl := List.length_drop ..
  rw [ld] at hall hex
  refine ⟨fun i j hi hij hkj hj => ?_, ?_⟩
  · rw [List.length_append] at hj
    have hj' : j < ss.length + 1 := hj
    by_cases e : j = ss.length
    · subst e
      rw [high_new hij]
      have := hall (i - fl) (by omega)
      rw [toNew_drop, show fl + (i - fl) = i by omega] at this
      exact this
    · rw [high_left hij (by omega)]
      cases hg : s with
      | none => exact absurd (show j < ss.length by omega) (hN hg i j hi hij hkj)
      | some S0 =>
        obtain ⟨g1, le⟩ := h1 S0 hg
        exact Rat.le_trans le (g1.1 i j hi hij hkj (by omega))
  · rcases hex with ⟨i, hi, e⟩ | e
    · refine ⟨fl + i, ss.length, by omega, by omega, hro, by rw [List.length_append]; show _ < ss.length + 1; omega, ?_⟩
      rw [high_new (by omega), ← toNew_drop]
      exact e
    · obtain ⟨i, j, a0, a1, a2, a3, a4⟩ := (h1 S e).1.2
      exact ⟨i, j, a0, a1, a2, by rw [List.length_append]; show _ < ss.length + 1; omega, by rw [high_left a1 a3]; exact a4⟩
theorem len1 : (ss ++ [(x, m, some q)]).length = ss.length + 1 := by simp
theorem cap_iff (hr : rising (ss ++ [(x, m, some q)])) (s : SF (ss ++ [(x, m, some q)]) B fl ro S) (hG : HiP ss B fl ro G) (hro : ro ≤ ss.length) : S < G ↔ ∃ i, fl ≤ i ∧ i < ss.length ∧ q - G * (m : Rat) + B < lev ss G i := by
  constructor
  · intro h
    obtain ⟨i, j, a0, a1, a2, a3, a4⟩ := s.2
    rw [len1] at a3
    by_cases e : j = ss.length
    · subst e
      refine ⟨i, a0, a1, Rat.not_le.mp fun z => ?_⟩
      have := (high_lev (B := B) (S := G) hr a1 (by rw [len1]; omega)).mpr (by rw [lev_last, lev_left a1]; exact z)
      rw [a4] at this
      exact absurd h (Rat.not_lt.mpr this)
    · have := hG i j a0 a1 a2 (by omega)
      rw [high_left a1 (by omega)] at a4
      rw [a4] at this
      exact absurd h (Rat.not_lt.mpr this)
  · rintro ⟨i, a0, a1, h⟩
    refine Rat.not_le.mp fun z => ?_
    have := s.1 i ss.length a0 a1 hro (by rw [len1]; omega)
    have := (high_lev hr a1 (by rw [len1]; omega)).mp (Rat.le_trans z this)
    rw [lev_last, lev_left a1] at this
    exact absurd h (Rat.not_lt.mpr this)
theorem cup_iff (hr : rising (ss ++ [(x, m, some q)])) (g : GF (ss ++ [(x, m, some q)]) B fl ro G) (hS : LoP ss B fl ro S) (hfl : fl ≤ ss.length) : S < G ↔ ∃ i, ro ≤ i ∧ i < ss.length ∧ lev ss S i + B < q - S * (m : Rat) := by
  constructor
  · intro h
    obtain ⟨i, j, a0, a1, a2, a3, a4⟩ := g.2
    rw [len1] at a3
    by_cases e : j = ss.length
    · subst e
      refine ⟨i, a0, a1, Rat.not_le.mp fun z => ?_⟩
      have := (low_lev (B := B) (G := S) hr a1 (by rw [len1]; omega)).mpr (by rw [lev_last, lev_left a1]; exact z)
      rw [a4] at this
      exact absurd h (Rat.not_lt.mpr this)
    · have := hS i j a0 a1 a2 (by omega)
      rw [low_left a1 (by omega)] at a4
      rw [a4] at this
      exact absurd h (Rat.not_lt.mpr this)
  · rintro ⟨i, a0, a1, h⟩
    refine Rat.not_le.mp fun z => ?_
    have := g.1 i ss.length a0 a1 hfl (by rw [len1]; omega)
    have := (low_lev hr a1 (by rw [len1]; omega)).mp (Rat.le_trans this z)
    rw [lev_last, lev_left a1] at this
    exact absurd h (Rat.not_lt.mpr this)
theorem cross_up {va ma vb mb v m B G S : Rat} (hB : 0 ≤ B) (hb : mb < m) (ea : v - G * m = va - G * ma + B) (eb : vb - S * mb = v - S * m + B) (h : vb - G * mb ≤ va - G * ma + B) : G ≤ S := by
  refine Rat.not_lt.mp fun hlt => ?_
  have p : (0 : Rat) < m - mb := by grind
  have := Rat.mul_lt_mul_of_pos_right hlt p
  grind
theorem cross_down {va ma vb mb v m B G S : Rat} (hB : 0 ≤ B) (ha : ma < m) (ea : v - G * m = va - G * ma + B) (eb : vb - S * mb = v - S * m + B) (h : vb - S * mb ≤ va - S * ma + B) : G ≤ S := by
  refine Rat.not_lt.mp fun hlt => ?_
  have p : (0 : Rat) < m - ma := by grind
  have := Rat.mul_lt_mul_of_pos_right hlt p
  grind
theorem both_le (hB : 0 ≤ B) (hr : rising (ss ++ [(x, m, some q)])) (g : GF (ss ++ [(x, m, some q)]) B fl ro G) (s : SF (ss ++ [(x, m, some q)]) B fl ro S)
    (h1 : ∀ i j, ro ≤ i → i < j → fl ≤ j → j < ss.length → lowS ss B i j ≤ S) (h2 : ∀ i j, fl ≤ i → i < j → ro ≤ j → j < ss.length → G ≤ highS ss B i j) : G ≤ S := by
  obtain ⟨i, j, a0, a1, a2, a3, a4⟩ := g.2
  obtain ⟨k, l, b0, b1, b2, b3, b4⟩ := s.2
  rw [len1] at a3 b3
  by_cases e : j = ss.length
  · by_cases e' : l = ss.length
    · subst e
      subst e'
      have ea := (low_is hr a1 (by rw [len1]; omega)).mp a4
      have eb := (high_is hr b1 (by rw [len1]; omega)).mp b4
      have mi := mo_pos hr a1 (by rw [len1]; omega)
      have mk := mo_pos hr b1 (by rw [len1]; omega)
      unfold lev at ea eb
      rcases Nat.lt_trichotomy i k with z | z | z
      · have := (low_lev hr z (by rw [len1]; omega)).mp (g.1 i k a0 z (by omega) (by rw [len1]; omega))
        unfold lev at this
        exact cross_up hB (by grind) ea eb this
      · subst z
        exact cross_up hB (by grind) ea eb (by grind)
      · have := (high_lev hr z (by rw [len1]; omega)).mp (s.1 k i b0 z (by omega) (by rw [len1]; omega))
        unfold lev at this
        exact cross_down hB (by grind) ea eb this
    · rw [high_left b1 (by omega)] at b4
      rw [← b4]
      exact h2 k l b0 b1 b2 (by omega)
  · rw [low_left a1 (by omega)] at a4
    rw [← a4]
    exact h1 i j a0 a1 a2 (by omega)
end
structure CapAt (ss : List En) (β : Rat) (fl ro : Nat) (m : Int) (q G f : Rat) (a b : Nat) : Prop where
  gf : GF ss (2 * β) fl ro G
  off : ∃ i, fl ≤ i ∧ i < ss.length ∧ q - G * (m : Rat) + 2 * β < lev ss G i
  lo : ∀ i, fl ≤ i → i < ss.length → lev ss G i - β ≤ f
  hi : ∀ i, ro ≤ i → i < ss.length → f ≤ lev ss G i + β
  ha : ro ≤ a
  ea : lev ss G a + β = f
  hb : fl ≤ b
  lb : b < ss.length
  eb : lev ss G b - β = f
  fb : ∀ i, b < i → i < ss.length → lev ss G i - β ≠ f
  hab : a < b
structure CupAt (ss : List En) (β : Rat) (fl ro : Nat) (m : Int) (q S f : Rat) (a b : Nat) : Prop where
  sf : SF ss (2 * β) fl ro S
  off : ∃ i, ro ≤ i ∧ i < ss.length ∧ lev ss S i + 2 * β < q - S * (m : Rat)
  lo : ∀ i, fl ≤ i → i < ss.length → lev ss S i - β ≤ f
  hi : ∀ i, ro ≤ i → i < ss.length → f ≤ lev ss S i + β
  ha : fl ≤ a
  ea : lev ss S a - β = f
  hb : ro ≤ b
  lb : b < ss.length
  eb : lev ss S b + β = f
  fb : ∀ i, b < i → i < ss.length → lev ss S i + β ≠ f
  hab : a < b
theorem first_of {α : Type} (P : α → Bool) : ∀ (l : List α), (∃ x ∈ l, P x = true) → ∃ (a : Nat) (x : α), l[a]? = some x ∧ P x = true ∧ (l.filter P)[0]? = some x ∧ ∀ (i : Nat) y, i < a → l[i]? = some y → P y = false
  | [], h => by obtain ⟨x, hx, _⟩ := h; cases hx
  | y :: r, h => by
    by_cases hy : P y = true
    · exact ⟨0, y, rfl, hy, by rw [List.filter_cons_of_pos hy]; rfl, fun i _ hi => absurd hi (Nat.not_lt_zero _)⟩
    · obtain ⟨x, hx, px⟩ := h
      have hr : x ∈ r := by
        rcases List.mem_cons.mp hx with e | e
        · rw [e] at px; exact absurd px hy
        · exact e
      obtain ⟨a, z, g, pz, e0, hn⟩ := first_of P r ⟨x, hr, px⟩
      refine ⟨a + 1, z, g, pz, by rw [List.filter_cons_of_neg hy]; exact e0, fun i u hi gu => ?_⟩
      cases i with
      | zero => cases gu; exact Bool.eq_false_iff.mpr hy
      | succ i => exact hn i u (by omega) gu
theorem last_of {α : Type} (P : α → Bool) : ∀ (l : List α), (∃ x ∈ l, P x = true) → ∃ (b : Nat) (x : α), l[b]? = some x ∧ P x = true ∧ (l.filter P)[(l.filter P).length - 1]? = some x ∧ ∀ (i : Nat) y, b < i → l[i]? = some y → P y = false
  | [], h => by obtain ⟨x, hx, _⟩ := h; cases hx
  | y :: r, h => by
    by_cases hr : ∃ x ∈ r, P x = true
    · obtain ⟨b, z, g, pz, e0, hn⟩ := last_of P r hr
      refine ⟨b + 1, z, g, pz, ?_, fun i u hi gu => ?_⟩
      · by_cases hy : P y = true
        · rw [List.filter_cons_of_pos hy]
          have hl : 0 < (r.filter P).length := by
            cases e : r.filter P with
            | nil => rw [e] at e0; cases e0
            | cons c d => exact Nat.succ_pos _
          show (y :: r.filter P)[(r.filter P).length + 1 - 1]? = some z
          rw [show (r.filter P).length + 1 - 1 = ((r.filter P).length - 1) + 1 by omega, List.getElem?_cons_succ]
          exact e0
        · rw [List.filter_cons_of_neg hy]; exact e0
      · cases i with
        | zero => omega
        | succ i => exact hn i u (by omega) gu
    · have hy : P y = true := by
        obtain ⟨x, hx, px⟩ := h
        rcases List.mem_cons.mp hx with e | e
        · rw [e] at px; exact px
        · exact absurd ⟨x, e, px⟩ hr
      have e0 : r.filter P = [] := List.filter_eq_nil_iff.mpr fun x hx px => hr ⟨x, hx, px⟩
      refine ⟨0, y, rfl, hy, by rw [List.filter_cons_of_pos hy, e0]; rfl, fun i u hi gu => ?_⟩
      cases i with
      | zero => omega
      | succ i => exact Bool.eq_false_iff.mpr fun z => hr ⟨u, List.mem_of_getElem? gu, z⟩
theorem drop_of {es : List En} (h : rising es) {k : Nat} {x : En} (hk : es[k]? = some x) : es.filter (fun y => decide (x.2.1 ≤ y.2.1)) = es.drop k := by
  have hl : k < es.length := (List.getElem?_eq_some_iff.mp hk).1
  have mk : ∀ i y, es[i]? = some y → (k ≤ i ↔ x.2.1 ≤ y.2.1) := fun i y hy => by
    have hi : i < es.length := (List.getElem?_eq_some_iff.mp hy).1
    have e1 : mo es k = x.2.1 := by unfold mo; rw [hk]; rfl
    have e2 : mo es i = y.2.1 := by unfold mo; rw [hy]; rfl
    rcases Nat.lt_trichotomy i k with z | z | z
    · have := mo_lt h z hl; omega
    · subst z; omega
    · have := mo_lt h z hi; omega
  conv => lhs; rw [← List.take_append_drop k es]
  rw [List.filter_append]
  have h1 : (es.take k).filter (fun y => decide (x.2.1 ≤ y.2.1)) = [] := List.filter_eq_nil_iff.mpr fun y hy => by
    obtain ⟨i, hi⟩ := List.getElem?_of_mem hy
    rw [List.getElem?_take] at hi
    split at hi
    · have := mk i y hi
      rw [decide_eq_true_iff]
      omega
    · cases hi
  have h2 : (es.drop k).filter (fun y => decide (x.2.1 ≤ y.2.1)) = es.drop k := List.filter_eq_self.mpr fun y hy => by
    obtain ⟨i, hi⟩ := List.getElem?_of_mem hy
    rw [List.getElem?_drop] at hi
    exact decide_eq_true ((mk _ y hi).mp (Nat.le_add_right _ _))
  rw [h1, h2]
  rfl

structure Fb (fs : List (Str × V)) (bd tw bl ab : Addr) (g s : V) : Prop where
  len : fs.length ≤ 10
  bd : fs.lookup ("bound" : Str) = some (.ref bd)
  tw : fs.lookup ("twice" : Str) = some (.ref tw)
  bl : fs.lookup ("below" : Str) = some (.ref bl)
  ab : fs.lookup ("above" : Str) = some (.ref ab)
  g : fs.lookup ("gentlest" : Str) = some g
  s : fs.lookup ("steepest" : Str) = some s
  no : ∀ m : Str, m ≠ "bound" → m ≠ "twice" → m ≠ "below" → m ≠ "above" → m ≠ "gentlest" → m ≠ "steepest" → fs.lookup m = none
theorem Fb.init (bd tw bl ab : Addr) (g s : V) : Fb (putF "steepest" s (putF "gentlest" g (putF "above" (.ref ab) (putF "below" (.ref bl) (putF "twice" (.ref tw) (putF "bound" (.ref bd) [])))))) bd tw bl ab g s := by
  have n_bd_tw : ¬ (("bound" : Str) = "twice") := by decide +kernel
  have n_bd_bl : ¬ (("bound" : Str) = "below") := by decide +kernel
  have n_bd_ab : ¬ (("bound" : Str) = "above") := by decide +kernel
  have n_bd_g : ¬ (("bound" : Str) = "gentlest") := by decide +kernel
  have n_bd_s : ¬ (("bound" : Str) = "steepest") := by decide +kernel
  have n_tw_bl : ¬ (("twice" : Str) = "below") := by decide +kernel
  have n_tw_ab : ¬ (("twice" : Str) = "above") := by decide +kernel
  have n_tw_g : ¬ (("twice" : Str) = "gentlest") := by decide +kernel
  have n_tw_s : ¬ (("twice" : Str) = "steepest") := by decide +kernel
  have n_bl_ab : ¬ (("below" : Str) = "above") := by decide +kernel
  have n_bl_g : ¬ (("below" : Str) = "gentlest") := by decide +kernel
  have n_bl_s : ¬ (("below" : Str) = "steepest") := by decide +kernel
  have n_ab_g : ¬ (("above" : Str) = "gentlest") := by decide +kernel
  have n_ab_s : ¬ (("above" : Str) = "steepest") := by decide +kernel
  have n_g_s : ¬ (("gentlest" : Str) = "steepest") := by decide +kernel
  have l : ∀ (f : Str) (v : V) (fs : List (Str × V)), (putF f v fs).length ≤ fs.length + 1 := by
    intro f v fs
    induction fs with
    | nil => exact Nat.le_refl _
    | cons x r ih =>
      obtain ⟨g, y⟩ := x
      unfold putF
      split
      · exact Nat.le_succ _
      · exact Nat.succ_le_succ ih
  refine ⟨?_, ?_, ?_, ?_, ?_, ?_, ?_, fun m m1 m2 m3 m4 m5 m6 => ?_⟩
  · have l0 := l "bound" (.ref bd) []
    have l1 := l "twice" (.ref tw) (putF "bound" (.ref bd) [])
    have l2 := l "below" (.ref bl) (putF "twice" (.ref tw) (putF "bound" (.ref bd) []))
    have l3 := l "above" (.ref ab) (putF "below" (.ref bl) (putF "twice" (.ref tw) (putF "bound" (.ref bd) [])))
    have l4 := l "gentlest" g (putF "above" (.ref ab) (putF "below" (.ref bl) (putF "twice" (.ref tw) (putF "bound" (.ref bd) []))))
    have l5 := l "steepest" s (putF "gentlest" g (putF "above" (.ref ab) (putF "below" (.ref bl) (putF "twice" (.ref tw) (putF "bound" (.ref bd) [])))))
    simp only [List.length_nil] at l0
    omega
  · rw [lookup_putF, if_neg n_bd_s, lookup_putF, if_neg n_bd_g, lookup_putF, if_neg n_bd_ab, lookup_putF, if_neg n_bd_bl, lookup_putF, if_neg n_bd_tw, lookup_putF, if_pos rfl]
  · rw [lookup_putF, if_neg n_tw_s, lookup_putF, if_neg n_tw_g, lookup_putF, if_neg n_tw_ab, lookup_putF, if_neg n_tw_bl, lookup_putF, if_pos rfl]
  · rw [lookup_putF, if_neg n_bl_s, lookup_putF, if_neg n_bl_g, lookup_putF, if_neg n_bl_ab, lookup_putF, if_pos rfl]
  · rw [lookup_putF, if_neg n_ab_s, lookup_putF, if_neg n_ab_g, lookup_putF, if_pos rfl]
  · rw [lookup_putF, if_neg n_g_s, lookup_putF, if_pos rfl]
  · rw [lookup_putF, if_pos rfl]
  · rw [lookup_putF, if_neg m6, lookup_putF, if_neg m5, lookup_putF, if_neg m4, lookup_putF, if_neg m3, lookup_putF, if_neg m2, lookup_putF, if_neg m1]
    rfl
theorem Fb.set_bl {fs : List (Str × V)} {bd tw bl ab : Addr} {g s : V} {y : Addr} (h : Fb fs bd tw bl ab g s) : Fb (putF "below" (.ref y) fs) bd tw y ab g s := by
  have n_bd_bl : ¬ (("bound" : Str) = "below") := by decide +kernel
  have n_tw_bl : ¬ (("twice" : Str) = "below") := by decide +kernel
  have n_ab_bl : ¬ (("above" : Str) = "below") := by decide +kernel
  have n_g_bl : ¬ (("gentlest" : Str) = "below") := by decide +kernel
  have n_s_bl : ¬ (("steepest" : Str) = "below") := by decide +kernel
  refine ⟨by rw [putF_len h.bl]; exact h.len, ?_, ?_, ?_, ?_, ?_, ?_, fun m m1 m2 m3 m4 m5 m6 => ?_⟩
  · rw [lookup_putF, if_neg n_bd_bl]; exact h.bd
  · rw [lookup_putF, if_neg n_tw_bl]; exact h.tw
  · rw [lookup_putF, if_pos rfl]
  · rw [lookup_putF, if_neg n_ab_bl]; exact h.ab
  · rw [lookup_putF, if_neg n_g_bl]; exact h.g
  · rw [lookup_putF, if_neg n_s_bl]; exact h.s
  · rw [lookup_putF, if_neg m3]; exact h.no m m1 m2 m3 m4 m5 m6
theorem Fb.set_ab {fs : List (Str × V)} {bd tw bl ab : Addr} {g s : V} {y : Addr} (h : Fb fs bd tw bl ab g s) : Fb (putF "above" (.ref y) fs) bd tw bl y g s := by
  have n_bd_ab : ¬ (("bound" : Str) = "above") := by decide +kernel
  have n_tw_ab : ¬ (("twice" : Str) = "above") := by decide +kernel
  have n_bl_ab : ¬ (("below" : Str) = "above") := by decide +kernel
  have n_g_ab : ¬ (("gentlest" : Str) = "above") := by decide +kernel
  have n_s_ab : ¬ (("steepest" : Str) = "above") := by decide +kernel
  refine ⟨by rw [putF_len h.ab]; exact h.len, ?_, ?_, ?_, ?_, ?_, ?_, fun m m1 m2 m3 m4 m5 m6 => ?_⟩
  · rw [lookup_putF, if_neg n_bd_ab]; exact h.bd
  · rw [lookup_putF, if_neg n_tw_ab]; exact h.tw
  · rw [lookup_putF, if_neg n_bl_ab]; exact h.bl
  · rw [lookup_putF, if_pos rfl]
  · rw [lookup_putF, if_neg n_g_ab]; exact h.g
  · rw [lookup_putF, if_neg n_s_ab]; exact h.s
  · rw [lookup_putF, if_neg m4]; exact h.no m m1 m2 m3 m4 m5 m6
theorem Fb.set_g {fs : List (Str × V)} {bd tw bl ab : Addr} {g s : V} {y : V} (h : Fb fs bd tw bl ab g s) : Fb (putF "gentlest" y fs) bd tw bl ab y s := by
  have n_bd_g : ¬ (("bound" : Str) = "gentlest") := by decide +kernel
  have n_tw_g : ¬ (("twice" : Str) = "gentlest") := by decide +kernel
  have n_bl_g : ¬ (("below" : Str) = "gentlest") := by decide +kernel
  have n_ab_g : ¬ (("above" : Str) = "gentlest") := by decide +kernel
  have n_s_g : ¬ (("steepest" : Str) = "gentlest") := by decide +kernel
  refine ⟨by rw [putF_len h.g]; exact h.len, ?_, ?_, ?_, ?_, ?_, ?_, fun m m1 m2 m3 m4 m5 m6 => ?_⟩
  · rw [lookup_putF, if_neg n_bd_g]; exact h.bd
  · rw [lookup_putF, if_neg n_tw_g]; exact h.tw
  · rw [lookup_putF, if_neg n_bl_g]; exact h.bl
  · rw [lookup_putF, if_neg n_ab_g]; exact h.ab
  · rw [lookup_putF, if_pos rfl]
  · rw [lookup_putF, if_neg n_s_g]; exact h.s
  · rw [lookup_putF, if_neg m5]; exact h.no m m1 m2 m3 m4 m5 m6
theorem Fb.set_s {fs : List (Str × V)} {bd tw bl ab : Addr} {g s : V} {y : V} (h : Fb fs bd tw bl ab g s) : Fb (putF "steepest" y fs) bd tw bl ab g y := by
  have n_bd_s : ¬ (("bound" : Str) = "steepest") := by decide +kernel
  have n_tw_s : ¬ (("twice" : Str) = "steepest") := by decide +kernel
  have n_bl_s : ¬ (("below" : Str) = "steepest") := by decide +kernel
  have n_ab_s : ¬ (("above" : Str) = "steepest") := by decide +kernel
  have n_g_s : ¬ (("gentlest" : Str) = "steepest") := by decide +kernel
  refine ⟨by rw [putF_len h.s]; exact h.len, ?_, ?_, ?_, ?_, ?_, ?_, fun m m1 m2 m3 m4 m5 m6 => ?_⟩
  · rw [lookup_putF, if_neg n_bd_s]; exact h.bd
  · rw [lookup_putF, if_neg n_tw_s]; exact h.tw
  · rw [lookup_putF, if_neg n_bl_s]; exact h.bl
  · rw [lookup_putF, if_neg n_ab_s]; exact h.ab
  · rw [lookup_putF, if_neg n_g_s]; exact h.g
  · rw [lookup_putF, if_pos rfl]
  · rw [lookup_putF, if_neg m6]; exact h.no m m1 m2 m3 m4 m5 m6
theorem Fb.meth {fs : List (Str × V)} {bd tw bl ab : Addr} {g s : V} (h : Fb fs bd tw bl ab g s) (m : Str) (m1 : m ≠ "bound" := by decide +kernel) (m2 : m ≠ "twice" := by decide +kernel) (m3 : m ≠ "below" := by decide +kernel) (m4 : m ≠ "above" := by decide +kernel) (m5 : m ≠ "gentlest" := by decide +kernel) (m6 : m ≠ "steepest" := by decide +kernel) : fs.lookup m = none := h.no m m1 m2 m3 m4 m5 m6

noncomputable def rmB (p L M : Addr) (H : Hp) : Hp := rm p (rm L (rm M H))
theorem rmB_at {p L M b : Addr} {H : Hp} (h1 : b ≠ p) (h2 : b ≠ L) (h3 : b ≠ M) : rmB p L M H b = H b := by unfold rmB; rw [rm_at h1, rm_at h2, rm_at h3]
theorem rmB_of {p L M b : Addr} {H : Hp} {o : HO} (h : rmB p L M H b = some o) : b ≠ p ∧ b ≠ L ∧ b ≠ M ∧ H b = some o := by
  have h1 : b ≠ p := fun q => by rw [q] at h; unfold rmB rm at h; simp at h
  have h2 : b ≠ L := fun q => by rw [q] at h; unfold rmB rm at h; simp at h
  have h3 : b ≠ M := fun q => by rw [q] at h; unfold rmB rm at h; simp at h
  rw [rmB_at h1 h2 h3] at h
  exact ⟨h1, h2, h3, h⟩
section
variable {H H' : Hp}
theorem QtAt.tv {b : Addr} {q : Rat} {n : Nat} (t : ∀ {b : Addr} {xs : List V}, H b = some (.tup xs) → H' b = some (.tup xs)) (f : QtAt H b q n) : QtAt H' b q n := let ⟨x, d, e, f⟩ := f; ⟨x, d, t e, f⟩
theorem FrAt.tv {b : Addr} {q : Rat} {n : Nat} (t : ∀ {b : Addr} {xs : List V}, H b = some (.tup xs) → H' b = some (.tup xs)) (f : FrAt H b q n) : FrAt H' b q n := let ⟨x, d, e, f⟩ := f; ⟨x, d, t e, f⟩
theorem LnAt.tv {b : Addr} {q h : Rat} {n : Nat} (t : ∀ {b : Addr} {xs : List V}, H b = some (.tup xs) → H' b = some (.tup xs)) (f : LnAt H b q h n) : LnAt H' b q h n := let ⟨x, d, e, f1, f2⟩ := f; ⟨x, d, t e, f1.tv t, f2.tv t⟩
theorem EnAt.tv {x : En} {n : Nat} (t : ∀ {b : Addr} {xs : List V}, H b = some (.tup xs) → H' b = some (.tup xs)) (f : EnAt H x n) : EnAt H' x n := by
  obtain ⟨a, m, v⟩ := x
  cases v with
  | none => exact ⟨f.1, t f.2⟩
  | some q =>
    obtain ⟨z, r, e, x, d, g, f⟩ := f
    exact ⟨z, r, t e, x, d, t g, f⟩
theorem Row.tv {es : List En} {n : Nat} (t : ∀ {b : Addr} {xs : List V}, H b = some (.tup xs) → H' b = some (.tup xs)) (f : Row H es n) : Row H' es n := fun x hx => (f x hx).tv t
end
noncomputable def OQ (H : Hp) (v : V) (N : Nat) : Option Rat → Prop
  | none => v = .non
  | some G => ∃ p, v = .ref p ∧ QtAt H p G N
theorem OQ.tv {H H' : Hp} {v : V} {N : Nat} {g : Option Rat} (t : ∀ {b : Addr} {xs : List V}, H b = some (.tup xs) → H' b = some (.tup xs)) (f : OQ H v N g) : OQ H' v N g := by
  cases g with
  | none => exact f
  | some G => exact let ⟨p, e, f⟩ := f; ⟨p, e, f.tv t⟩
noncomputable def GO (ss : List En) (B : Rat) (fl ro : Nat) : Option Rat → Prop
  | none => ∀ q p, ro ≤ q → q < p → fl ≤ p → ¬ p < ss.length
  | some G => GF ss B fl ro G
noncomputable def SO (ss : List En) (B : Rat) (fl ro : Nat) : Option Rat → Prop
  | none => ∀ q p, fl ≤ q → q < p → ro ≤ p → ¬ p < ss.length
  | some S => SF ss B fl ro S
structure BdP (ss : List En) (fl ro : Nat) (β : Rat) (g s : Option Rat) : Prop where
  all : AllS ss
  ris : rising ss
  hfl : fl ≤ ss.length
  hro : ro ≤ ss.length
  lt : 0 < ss.length → fl < ss.length ∧ ro < ss.length
  go : GO ss (2 * β) fl ro g
  so : SO ss (2 * β) fl ro s
  le : ∀ G S, g = some G → s = some S → G ≤ S
  df : fl = ro → fl = 0
structure Bd0 (C : Addr) (H : Hp) (p Lb La : Addr) (ss : List En) (fl ro : Nat) (β : Rat) (n nb : Nat) (g s : Option Rat) (dx bd tw : Addr) (fs : List (Str × V)) (gv sv : V) : Prop where
  at_ : H p = some (.ins C dx fs)
  F : Fb fs bd tw Lb La gv sv
  eb : H Lb = some (.lst (vals (ss.drop fl)))
  ea : H La = some (.lst (vals (ss.drop ro)))
  ne : Lb ≠ La
  row : Row H ss n
  fbd : FrAt H bd β nb
  ftw : QtAt H tw (2 * β) (2 * nb + 1)
  G : OQ H gv (3 * n + (2 * nb + 1) + 3) g
  S : OQ H sv (3 * n + (2 * nb + 1) + 3) s
  P : BdP ss fl ro β g s
noncomputable def BdOk (C : Addr) (H : Hp) (p Lb La : Addr) (ss : List En) (fl ro : Nat) (β : Rat) (n nb : Nat) (g s : Option Rat) : Prop := ∃ dx bd tw fs gv sv, Bd0 C H p Lb La ss fl ro β n nb g s dx bd tw fs gv sv
theorem Bd0.mv {C : Addr} {H H' : Hp} {p Lb La : Addr} {ss : List En} {fl ro : Nat} {β : Rat} {n nb : Nat} {g s : Option Rat} {dx bd tw : Addr} {fs : List (Str × V)} {gv sv : V} (h : Bd0 C H p Lb La ss fl ro β n nb g s dx bd tw fs gv sv) (t : ∀ {b : Addr} {xs : List V}, H b = some (.tup xs) → H' b = some (.tup xs)) (hp : H' p = H p) (h1 : H' Lb = H Lb) (h2 : H' La = H La) : Bd0 C H' p Lb La ss fl ro β n nb g s dx bd tw fs gv sv :=
  ⟨hp.trans h.at_, h.F, h1.trans h.eb, h2.trans h.ea, h.ne, h.row.tv t, h.fbd.tv t, h.ftw.tv t, h.G.tv t, h.S.tv t, h.P⟩
theorem Bd0.up {C : Addr} {H H' : Hp} {p Lb La : Addr} {ss : List En} {fl ro : Nat} {β : Rat} {n nb : Nat} {g s : Option Rat} {dx bd tw : Addr} {fs : List (Str × V)} {gv sv : V} (h : Bd0 C H p Lb La ss fl ro β n nb g s dx bd tw fs gv sv) (k : Same H H') : Bd0 C H' p Lb La ss fl ro β n nb g s dx bd tw fs gv sv :=
  h.mv (fun {b xs} e => k _ _ e) ((k _ _ h.at_).trans h.at_.symm) ((k _ _ h.eb).trans h.eb.symm) ((k _ _ h.ea).trans h.ea.symm)
theorem BdOk.up {C : Addr} {H H' : Hp} {p Lb La : Addr} {ss : List En} {fl ro : Nat} {β : Rat} {n nb : Nat} {g s : Option Rat} (h : BdOk C H p Lb La ss fl ro β n nb g s) (k : Same H H') : BdOk C H' p Lb La ss fl ro β n nb g s :=
  let ⟨dx, bd, tw, fs, gv, sv, h⟩ := h; ⟨dx, bd, tw, fs, gv, sv, h.up k⟩
theorem BdP.hiG {ss : List En} {fl ro : Nat} {β G : Rat} {g s : Option Rat} (h : BdP ss fl ro β g s) (e : g = some G) : GF ss (2 * β) fl ro G ∧ HiP ss (2 * β) fl ro G := by
  have go := h.go
  have so := h.so
  rw [e] at go
  refine ⟨go, ?_⟩
  cases hs : s with
  | none =>
    rw [hs] at so
    exact fun q p a b c d => absurd d (so q p a b c)
  | some S =>
    rw [hs] at so
    exact HiP.mono so.1 (h.le G S e hs)
theorem BdP.loS {ss : List En} {fl ro : Nat} {β S : Rat} {g s : Option Rat} (h : BdP ss fl ro β g s) (e : s = some S) : SF ss (2 * β) fl ro S ∧ LoP ss (2 * β) fl ro S := by
  have go := h.go
  have so := h.so
  rw [e] at so
  refine ⟨so, ?_⟩
  cases hs : g with
  | none =>
    rw [hs] at go
    exact fun q p a b c d => absurd d (go q p a b c)
  | some G =>
    rw [hs] at go
    exact LoP.mono go.1 (h.le G S hs e)
noncomputable def spOpp : Sp := fun vs H Q _ => ∃ (p : Addr) (q : Rat) (n : Nat), vs = [.ref p] ∧ QtAt H p q n ∧ ∀ (r : Addr) (H' : Hp), Same H H' → QtAt H' r (-q) n → Q (.ref r) H'
noncomputable def spSteeper : Sp := fun vs H Q _ => ∃ (a b : V) (g s : Option Rat) (m n : Nat), vs = [a, b] ∧ OQ H a m g ∧ OQ H b n s ∧ m + n ≤ 100000 ∧ ∀ r : Bool, (r = true ↔ ∃ G S, g = some G ∧ s = some S ∧ S < G) → Q (.bl r) H
noncomputable def onL (T f l : Rat) (x : En) : Bool := decide (x.2.2.getD 0 - (T * (x.2.1 : Rat) + f) = l)
theorem onL_at {es : List En} {T f l : Rat} {i : Nat} {x : En} (h : es[i]? = some x) : onL T f l x = true ↔ lev es T i - f = l := by
  unfold onL lev mo wo
  rw [decide_eq_true_iff, h]
  show x.2.2.getD 0 - (T * (x.2.1 : Rat) + f) = l ↔ x.2.2.getD 0 - T * (x.2.1 : Rat) - f = l
  constructor
  · intro h; rw [← h]; grind
  · intro h; rw [← h]; grind
noncomputable def spTouched : Sp := fun vs H Q _ => ∃ (l ln pb : Addr) (es : List En) (T f lam : Rat) (n M nb : Nat), vs = [.ref l, .ref ln, .ref pb] ∧ H l = some (.lst (vals es)) ∧ Row H es n ∧ AllS es ∧ LnAt H ln T f M ∧ QtAt H pb lam nb ∧ 1 ≤ n ∧ n ≤ 10000 ∧ M ≤ 10000 ∧ nb ≤ 10000 ∧ es.length ≤ 900 ∧
  ∀ (R : Addr) (H' : Hp), Same H H' → H R = none → H' R = some (.lst (vals (es.filter (onL T f lam)))) → Q (.ref R) H'
section
variable {P : Program} {w : World} {K : PySem.W.Frag} {mg : Str → Option Value} {base : Heap} {f c_Bend : Addr} {fd : FuncData}
theorem sc_opposite : FnScope ["one"] ["one"] (defScope s_opposite) := ⟨rfl, rfl, rfl, by decide +kernel, rfl, by decide +kernel, by decide +kernel⟩
theorem ok_opposite (F : Fun K "opposite" "opposite" s_opposite f fd) : FnOk P w K mg base CX0 1 f fd ["one"] spOpp := by
  refine F.ok sc_opposite (fun vs H Q E h => ?_) (fun cdv A outer s H vs Q E hr h => ?_)
  · obtain ⟨p, q, n, rfl, _⟩ := h
    rfl
  obtain ⟨p, q, n, rfl, ⟨a, b, hp, hq, za, zb⟩, k⟩ := h
  refine J.l ⟨_, (J.h (J.k (J.n (J.b (J.z un_neg (J.e (ixT K) (J.a 0) J.c (fun _ _ => rfl))) (J.b (J.e (ixT K) (J.a 0) J.c (fun _ _ => rfl)) J.d st_S) st_U)))), ?_⟩
  walk_at "v"
  refine r_new (mk := .tup) (by simp) fun p1 H1 s1 n1 e1 => ?_
  exact k p1 H1 s1 ⟨_, _, e1, hq.neg, by unfold Sz at *; rw [Int.natAbs_neg]; exact za, zb⟩
theorem sc_is_steeper : FnScope ["one", "other"] ["one", "other"] (defScope s_is_steeper) := ⟨rfl, rfl, rfl, by decide +kernel, rfl, by decide +kernel, by decide +kernel⟩
theorem ok_is_steeper (F : Fun K "is_steeper" "is_steeper" s_is_steeper f fd) (D_order : Dn P w K mg base 1 "order" ["one", "other"] spOrderQ) : FnOk P w K mg base CX0 2 f fd ["one", "other"] spSteeper := by
  refine F.ok sc_is_steeper (fun vs H Q E h => ?_) (fun cdv A outer s H vs Q E hr h => ?_)
  · obtain ⟨a, b, g, s, m, n, rfl, _⟩ := h
    rfl
  obtain ⟨a, b, g, s', m, n, rfl, ha, hb, hmn, k⟩ := h
  refine J.l ⟨_, (J.h (J.k (Jd.pe_and (J.ac op_notN (J.a 0) J.v (nomark _)) (Jd.pe_and (J.ac op_notN (J.a 1) J.v (nomark _)) (Jd.pe_one (J.ac op_gt (J.j D_order (hr.mono (by decide)) rfl (J.b (J.a 0) (J.b (J.a 1) J.d st_N) st_N) (he := st_N) (hpl := (anyc st_N any0))) J.c (nomark _))))))), ?_⟩
  cases g with
  | none =>
    obtain rfl : a = .non := ha
    walk_at "v"
    refine ⟨rfl, _, rfl, iteF ?_⟩
    exact k false ⟨fun z => absurd z (by decide), fun ⟨_, _, e, _⟩ => by cases e⟩
  | some G =>
    obtain ⟨pa, rfl, fa⟩ := ha
    cases s' with
    | none =>
      obtain rfl : b = .non := hb
      walk_at "v"
      refine ⟨rfl, _, rfl, iteT ?_⟩
      walk_at "v"
      refine ⟨rfl, _, rfl, iteF ?_⟩
      exact k false ⟨fun z => absurd z (by decide), fun ⟨_, _, _, e, _⟩ => by cases e⟩
    | some S =>
      obtain ⟨pb, rfl, fb⟩ := hb
      walk_at "v"
      refine ⟨rfl, _, rfl, iteT ?_⟩
      walk_at "v"
      refine ⟨rfl, _, rfl, iteT ?_⟩
      walk_at "v"
      refine ⟨pa, pb, G, S, m, n, rfl, fa, fb, hmn, fun o h1 h2 => ?_⟩
      walk_at "v"
      refine k _ ⟨fun z => ⟨G, S, rfl, rfl, h1.mp (of_decide_eq_true z)⟩, fun ⟨_, _, e1, e2, z⟩ => ?_⟩
      cases e1
      cases e2
      exact decide_eq_true (h1.mpr z)
theorem sc_touched : FnScope ["samples", "line", "lift"] ["samples", "line", "lift"] (defScope s_touched) := ⟨rfl, rfl, rfl, by decide +kernel, rfl, by decide +kernel, by decide +kernel⟩
theorem ok_touched (F : Fun K "touched" "touched" s_touched f fd) (D_order : Dn P w K mg base 1 "order" ["one", "other"] spOrderQ) (D_loose_off : Dn P w K mg base 4 "loose_off" ["line", "sample"] spLoff) : FnOk P w K mg base CX0 5 f fd ["samples", "line", "lift"] spTouched := by
  refine F.ok sc_touched (fun vs H Q E h => ?_) (fun cdv A outer s H vs Q E hr h => ?_)
  · obtain ⟨l, ln, pb, es, T, f, lam, n, M, nb, rfl, _⟩ := h
    rfl
  obtain ⟨l, ln, pb, es, T, fo, lam, n, M, nb, rfl, hl, hR, hS, hln, hpb, h1, hn, hM, hnb, h900, k⟩ := h
  refine J.l ⟨_, (J.h (J.k (Jd.pe_comp (O := ["sample"]) (N' := ["lift", "line"]) (cap := [2, 1]) rfl (Jd.piL K (J.a 0)) (fun _ _ _ _ _ => (J.r (i := 0) (show List.Nodup [("sample" : Str), ("lift" : Str), ("line" : Str)] by decide +kernel) rfl (Or.inl rfl))) (fun _ _ _ _ _ => (Jd.pts_one (J.m op_eq (J.j D_order (hr.mono (by decide)) rfl (J.b (J.j D_loose_off (hr.mono (by decide)) rfl (J.b (J.a 2) (J.b (J.a 0) J.d st_N) st_N) (he := st_N) (hpl := (anyc st_N any0))) (J.b (J.a 1) J.d st_N) st_K) (he := st_K) (hpl := (anyc st_N any0))) J.c (nomark _)))) (fun _ _ _ _ _ => (J.a 0)) rfl ⟨⟨rfl, rfl, rfl, rfl⟩, ⟨⟨rfl, rfl, rfl, rfl⟩, trivial⟩⟩ rfl (by decide +kernel) rfl (by decide +kernel)))), ?_⟩
  walk_at "v"
  refine r_iL ?_
  walk_at "v"
  refine ⟨l, rfl, ⟨_, SqL.of hl⟩, ?_⟩
  refine compB_of (xs := vals es) tells_list (fun H3 s3 => SqL.of (s3 _ _ hl)) (by rw [vals_len]; walk_at "o") (fun i ys G => ys = vals ((es.take i).filter (onL T fo lam))) rfl ?_ ?_
  · rintro D i x ys H3 σ0 N N0 h0 hD eD s3 hx hy rfl kY kN
    obtain ⟨e, he, rfl⟩ := vals_at hx
    have hi : i < es.length := (List.getElem?_eq_some_iff.mp he).1
    obtain ⟨xi, gi, fi⟩ := sa_at (hR.up s3) hS hi
    rw [he] at gi
    cases gi
    have ts := PySem.take_succ_filter (onL T fo lam) es i e he
    refine r_own1 h0 ?_
    walk_at "v"
    refine ⟨ln, e.1, T, fo, _, _, n, M, rfl, hln.up s3, fi, h1, by walk_at "o", by walk_at "o", fun z H4 s4 f4 => ?_⟩
    walk_at "v"
    refine ⟨z, pb, _, lam, _, nb, rfl, f4, hpb.up (s3.trans s4), by walk_at "o", fun o o1 o2 => ?_⟩
    have key : o = 0 ↔ lev es T i - fo = lam := by
      have e1 : wo es i - (T * (mo es i : Rat) + fo) = lev es T i - fo := by unfold lev; grind
      rw [e1] at o1 o2
      constructor
      · intro h
        refine Rat.le_antisymm (Rat.not_lt.mp fun z => ?_) (Rat.not_lt.mp fun z => ?_)
        · have := o1.mpr z; omega
        · have := o2.mpr z; omega
      · intro h
        rw [h] at o1 o2
        have p1 : ¬ 0 < o := fun z => Rat.lt_irrefl (o1.mp z)
        have p2 : ¬ o < 0 := fun z => Rat.lt_irrefl (o2.mp z)
        omega
    walk_at "v"
    cases hs : decide (o = 0) with
    | true =>
      rw [(onL_at he).mpr (key.mp (of_decide_eq_true hs)), if_pos rfl] at ts
      refine iteT ?_
      walk_at "v"
      exact kY _ H4 s4 (by rw [ts, ← vals_snoc])
    | false =>
      have : onL T fo lam e = false := Bool.eq_false_iff.mpr fun z => of_decide_eq_false hs (key.mpr ((onL_at he).mp z))
      rw [this, if_neg Bool.false_ne_true, List.append_nil] at ts
      refine iteF ?_
      exact kN H4 s4 (by rw [ts])
  · rintro D ys H3 hD eD s3 hy rfl
    rw [vals_len, List.take_length] at eD
    walk_at "v"
    exact k D H3 s3 hD eD
end

noncomputable def Kp (F : Addr → Prop) (H H' : Hp) : Prop := ∀ b o, ¬ F b → H b = some o → H' b = some o
theorem Kp.of {F : Addr → Prop} {H H' : Hp} (s : Same H H') : Kp F H H' := fun b o _ e => s b o e
theorem Kp.trans {F : Addr → Prop} {H H' H2 : Hp} (h : Kp F H H') (h' : Kp F H' H2) : Kp F H H2 := fun b o n e => h' b o n (h b o n e)
theorem Kp.upd {F : Addr → Prop} {H H' : Hp} {a : Addr} {o : HO} (h : Kp F H H') (hF : F a) : Kp F H (upd H' a o) := fun b u n e => by
  rw [upd_ne (show b ≠ a from fun q => n (by rw [q]; exact hF))]
  exact h b u n e
theorem Kp.sm {F : Addr → Prop} {H H' H2 : Hp} (h : Kp F H H') (s : Same H' H2) : Kp F H H2 := h.trans (.of s)
theorem putF_le (f : Str) (v : V) : ∀ fs : List (Str × V), (putF f v fs).length ≤ fs.length + 1
  | [] => Nat.le_refl _
  | (g, y) :: r => by
    unfold putF
    split
    · exact Nat.le_succ _
    · exact Nat.succ_le_succ (putF_le f v r)
noncomputable def NowAt (ss : List En) (β : Rat) (fl : Nat) (g s : Option Rat) (T f : Rat) : Prop :=
  ((g = some T ∨ (g = none ∧ s = some T)) ∧ (∀ i, fl ≤ i → i < ss.length → lev ss T i - β ≤ f) ∧ ∃ i, fl ≤ i ∧ i < ss.length ∧ lev ss T i - β = f) ∨ (g = none ∧ s = none ∧ T = 0 ∧ f = wo ss fl)
noncomputable def spBInit (C : Addr) : Sp := fun vs H Q _ => ∃ (p dx pb : Addr) (β : Rat) (n : Nat), vs = [.ref p, .ref pb] ∧ H p = some (.ins C dx []) ∧ FrAt H pb β n ∧ n ≤ 1000 ∧ ∀ (Lb La : Addr) (H' : Hp) (k : Nat), Same (rm p H) H' → H Lb = none → H La = none → BdOk C H' p Lb La [] 0 0 β k n none none → Q .non H'
noncomputable def spLineOf (C : Addr) : Sp := fun vs H Q _ => ∃ (p Lb La pt : Addr) (ss : List En) (fl ro : Nat) (β T : Rat) (n nb : Nat) (g s : Option Rat), vs = [.ref p, .ref pt] ∧ BdOk C H p Lb La ss fl ro β n nb g s ∧ QtAt H pt T (3 * n + (2 * nb + 1) + 3) ∧ 0 < ss.length ∧ ss.length ≤ 900 ∧ n ≤ 1500 ∧ (5 * n + 4 * nb ≤ 7900 ∧ nb ≤ 1000) ∧
  ∀ (r : Addr) (f : Rat) (H' : Hp), Same H H' → LnAt H' r T f (5 * n + 3 * nb + 7) → (∀ i, fl ≤ i → i < ss.length → lev ss T i - β ≤ f) → (∃ i, fl ≤ i ∧ i < ss.length ∧ lev ss T i - β = f) → Q (.ref r) H'
noncomputable def spCap (C : Addr) : Sp := fun vs H Q _ => ∃ (p Lb La x : Addr) (ss : List En) (fl ro : Nat) (m : Int) (q β G : Rat) (n nb : Nat) (s : Option Rat), vs = [.ref p, .ref x] ∧ BdOk C H p Lb La ss fl ro β n nb (some G) s ∧ SaAt H x m q n ∧ (∀ i, i < ss.length → mo ss i < m) ∧ ss.length ≤ 900 ∧ 1 ≤ n ∧ n ≤ 1500 ∧ (5 * n + 4 * nb ≤ 7900 ∧ nb ≤ 1000) ∧ 0 ≤ β ∧ (∃ i, fl ≤ i ∧ i < ss.length ∧ q - G * (m : Rat) + 2 * β < lev ss G i) ∧
  ∀ (r ln th Lb' La' : Addr) (f : Rat) (a b : Nat) (s' : Option Rat) (H' : Hp), Same (rmB p Lb La H) H' → CapAt ss β fl ro m q G f a b → H' r = some (.tup [.ref ln, .ref th]) → LnAt H' ln G f (5 * n + 3 * nb + 7) → H' th = some (.tup [.int (mo ss a), .int (mo ss b), .int m]) → BdOk C H' p Lb' La' (ss ++ [(x, m, some q)]) b ss.length β n nb none s' → H Lb' = none → H La' = none → Q (.ref r) H'
noncomputable def spCup (C : Addr) : Sp := fun vs H Q _ => ∃ (p Lb La x : Addr) (ss : List En) (fl ro : Nat) (m : Int) (q β S : Rat) (n nb : Nat) (g : Option Rat), vs = [.ref p, .ref x] ∧ BdOk C H p Lb La ss fl ro β n nb g (some S) ∧ SaAt H x m q n ∧ (∀ i, i < ss.length → mo ss i < m) ∧ ss.length ≤ 900 ∧ 1 ≤ n ∧ n ≤ 1500 ∧ (5 * n + 4 * nb ≤ 7900 ∧ nb ≤ 1000) ∧ 0 ≤ β ∧ (∃ i, ro ≤ i ∧ i < ss.length ∧ lev ss S i + 2 * β < q - S * (m : Rat)) ∧
  ∀ (r ln th Lb' La' : Addr) (f : Rat) (a b : Nat) (g' : Option Rat) (H' : Hp), Same (rmB p Lb La H) H' → CupAt ss β fl ro m q S f a b → H' r = some (.tup [.ref ln, .ref th]) → LnAt H' ln S f (5 * n + 3 * nb + 7) → H' th = some (.tup [.int (mo ss a), .int (mo ss b), .int m]) → BdOk C H' p Lb' La' (ss ++ [(x, m, some q)]) ss.length b β n nb g' none → H Lb' = none → H La' = none → Q (.ref r) H'
noncomputable def NoTurn (ss : List En) (β : Rat) (fl ro : Nat) (g s : Option Rat) (m : Int) (q : Rat) : Prop := (∀ G, g = some G → ∀ i, fl ≤ i → i < ss.length → lev ss G i ≤ q - G * (m : Rat) + 2 * β) ∧ (∀ S, s = some S → ∀ i, ro ≤ i → i < ss.length → q - S * (m : Rat) ≤ lev ss S i + 2 * β)
noncomputable def spTake (C : Addr) : Sp := fun vs H Q _ => ∃ (p Lb La x : Addr) (ss : List En) (fl ro : Nat) (m : Int) (q β : Rat) (n nb : Nat) (g s : Option Rat), vs = [.ref p, .ref x] ∧ BdOk C H p Lb La ss fl ro β n nb g s ∧ SaAt H x m q n ∧ (∀ i, i < ss.length → mo ss i < m) ∧ ss.length ≤ 900 ∧ 1 ≤ n ∧ n ≤ 1500 ∧ (5 * n + 4 * nb ≤ 7900 ∧ nb ≤ 1000) ∧ 0 ≤ β ∧
  (∀ (g' s' : Option Rat) (H' : Hp), Same (rmB p Lb La H) H' → NoTurn ss β fl ro g s m q → BdOk C H' p Lb La (ss ++ [(x, m, some q)]) fl ro β n nb g' s' → Q .non H') ∧
  (∀ (r ln th Lb' La' : Addr) (G f : Rat) (a b : Nat) (s' : Option Rat) (H' : Hp), Same (rmB p Lb La H) H' → g = some G → CapAt ss β fl ro m q G f a b → H' r = some (.tup [.ref ln, .ref th]) → LnAt H' ln G f (5 * n + 3 * nb + 7) → H' th = some (.tup [.int (mo ss a), .int (mo ss b), .int m]) → BdOk C H' p Lb' La' (ss ++ [(x, m, some q)]) b ss.length β n nb none s' → H Lb' = none → H La' = none → Q (.ref r) H') ∧
  (∀ (r ln th Lb' La' : Addr) (S f : Rat) (a b : Nat) (g' : Option Rat) (H' : Hp), Same (rmB p Lb La H) H' → s = some S → ¬ (∃ G, g = some G ∧ ∃ i, fl ≤ i ∧ i < ss.length ∧ q - G * (m : Rat) + 2 * β < lev ss G i) → CupAt ss β fl ro m q S f a b → H' r = some (.tup [.ref ln, .ref th]) → LnAt H' ln S f (5 * n + 3 * nb + 7) → H' th = some (.tup [.int (mo ss a), .int (mo ss b), .int m]) → BdOk C H' p Lb' La' (ss ++ [(x, m, some q)]) ss.length b β n nb g' none → H Lb' = none → H La' = none → Q (.ref r) H')
noncomputable def spNow (C : Addr) : Sp := fun vs H Q _ => ∃ (p Lb La : Addr) (ss : List En) (fl ro : Nat) (β : Rat) (n nb : Nat) (g s : Option Rat), vs = [.ref p] ∧ BdOk C H p Lb La ss fl ro β n nb g s ∧ ss.length ≤ 900 ∧ 1 ≤ n ∧ n ≤ 1500 ∧ (5 * n + 4 * nb ≤ 7900 ∧ nb ≤ 1000) ∧
  (ss = [] → Q .non H) ∧ (0 < ss.length → ∀ (r : Addr) (T f : Rat) (H' : Hp), Same H H' → LnAt H' r T f (5 * n + 3 * nb + 7) → NowAt ss β fl g s T f → Q (.ref r) H')
theorem LnAt.up2 {H H' : Hp} {p : Addr} {s h : Rat} {n : Nat} (f : LnAt H p s h n) (k : Same H H') : LnAt H' p s h n := f.tv fun {b xs} e => k _ _ e
theorem cap_touch {ss : List En} {fl ro : Nat} {β G f : Rat} (hβ : 0 ≤ β) (hr : rising ss) (g : GF ss (2 * β) fl ro G) (hH : HiP ss (2 * β) fl ro G) (lo : ∀ i, fl ≤ i → i < ss.length → lev ss G i - β ≤ f) (ex : ∃ i, fl ≤ i ∧ i < ss.length ∧ lev ss G i - β = f) :
    (∀ i, ro ≤ i → i < ss.length → f ≤ lev ss G i + β) ∧ ∃ q p, ro ≤ q ∧ q < p ∧ fl ≤ p ∧ p < ss.length ∧ lev ss G q + β = f ∧ lev ss G p - β = f := by
  obtain ⟨b, hb, lb, eb⟩ := ex
  have hi : ∀ i, ro ≤ i → i < ss.length → f ≤ lev ss G i + β := fun i h l => by
    have := bear (by grind) hr g.1 hH h hb l lb
    grind
  refine ⟨hi, ?_⟩
  obtain ⟨q, p, a1, a2, a3, a4, e⟩ := g.2
  have e' := (low_is hr a2 a4).mp e
  have l1 := lo p a3 a4
  have l2 := hi q a1 (by omega)
  exact ⟨q, p, a1, a2, a3, a4, by grind, by grind⟩
theorem cup_touch {ss : List En} {fl ro : Nat} {β S f : Rat} (hβ : 0 ≤ β) (hr : rising ss) (g : SF ss (2 * β) fl ro S) (hL : LoP ss (2 * β) fl ro S) (lo : ∀ i, fl ≤ i → i < ss.length → lev ss S i - β ≤ f) (ex : ∃ i, fl ≤ i ∧ i < ss.length ∧ lev ss S i - β = f) :
    (∀ i, ro ≤ i → i < ss.length → f ≤ lev ss S i + β) ∧ ∃ q p, fl ≤ q ∧ q < p ∧ ro ≤ p ∧ p < ss.length ∧ lev ss S q - β = f ∧ lev ss S p + β = f := by
  obtain ⟨b, hb, lb, eb⟩ := ex
  have hi : ∀ i, ro ≤ i → i < ss.length → f ≤ lev ss S i + β := fun i h l => by
    have := bear (by grind) hr hL g.1 h hb l lb
    grind
  refine ⟨hi, ?_⟩
  obtain ⟨q, p, a1, a2, a3, a4, e⟩ := g.2
  have e' := (high_is hr a2 a4).mp e
  have l1 := lo q a1 (by omega)
  have l2 := hi p a3 a4
  exact ⟨q, p, a1, a2, a3, a4, by grind, by grind⟩
theorem drop_at {es : List En} {j i : Nat} {x : En} (h : (es.drop j)[i]? = some x) : es[j + i]? = some x := by rw [← List.getElem?_drop]; exact h
theorem touch_first {es : List En} {T f l : Rat} {lo q : Nat} (h1 : lo ≤ q) (h2 : q < es.length) (e : lev es T q - f = l) : ∃ a x, lo ≤ a ∧ a ≤ q ∧ es[a]? = some x ∧ ((es.drop lo).filter (onL T f l))[0]? = some x ∧ lev es T a - f = l := by
  have gq : (es.drop lo)[q - lo]? = some es[q] := by rw [List.getElem?_drop, show lo + (q - lo) = q by omega, List.getElem?_eq_getElem h2]
  have pq : onL T f l es[q] = true := (onL_at (List.getElem?_eq_getElem h2)).mpr e
  obtain ⟨a, x, g, px, e0, hn⟩ := first_of (onL T f l) (es.drop lo) ⟨_, List.mem_of_getElem? gq, pq⟩
  have g' := drop_at g
  refine ⟨lo + a, x, by omega, ?_, g', e0, (onL_at g').mp px⟩
  by_cases z : q - lo < a
  · have := hn _ _ z gq
    rw [pq] at this
    cases this
  · omega
theorem touch_last {es : List En} {T f l : Rat} {lo q : Nat} (h1 : lo ≤ q) (h2 : q < es.length) (e : lev es T q - f = l) : ∃ a x, q ≤ a ∧ a < es.length ∧ es[a]? = some x ∧ ((es.drop lo).filter (onL T f l))[((es.drop lo).filter (onL T f l)).length - 1]? = some x ∧ lev es T a - f = l ∧ ∀ i, a < i → i < es.length → lev es T i - f ≠ l := by
  have gq : (es.drop lo)[q - lo]? = some es[q] := by rw [List.getElem?_drop, show lo + (q - lo) = q by omega, List.getElem?_eq_getElem h2]
  have pq : onL T f l es[q] = true := (onL_at (List.getElem?_eq_getElem h2)).mpr e
  obtain ⟨a, x, g, px, e0, hn⟩ := last_of (onL T f l) (es.drop lo) ⟨_, List.mem_of_getElem? gq, pq⟩
  have g' := drop_at g
  refine ⟨lo + a, x, ?_, (List.getElem?_eq_some_iff.mp g').1, g', e0, (onL_at g').mp px, fun i hi hl ei => ?_⟩
  · by_cases z : a < q - lo
    · have := hn _ _ z gq
      rw [pq] at this
      cases this
    · omega
  · have gi : (es.drop lo)[i - lo]? = some es[i] := by rw [List.getElem?_drop, show lo + (i - lo) = i by omega, List.getElem?_eq_getElem hl]
    have := hn (i - lo) _ (by omega) gi
    rw [(onL_at (List.getElem?_eq_getElem hl)).mpr ei] at this
    cases this
theorem at_neg1 {es : List En} {x : En} (h : es[es.length - 1]? = some x) : atI (vals es) (-1) = some (.ref x.1) := by
  have hl := (List.getElem?_eq_some_iff.mp h).1
  unfold atI
  rw [vals_len, ix_last (m := es.length - 1) (by walk_at "o")]
  exact vals_get h
theorem at_zero {es : List En} {x : En} (h : es[0]? = some x) : atI (vals es) 0 = some (.ref x.1) := atI_nat (j := 0) (vals_get h)
theorem rising1 {ss : List En} {x : Addr} {m : Int} {q : Rat} (h : rising ss) (hm : ∀ i, i < ss.length → mo ss i < m) : rising (ss ++ [(x, m, some q)]) := rising_new h hm
theorem BdP.next {ss : List En} {fl ro : Nat} {β G' S' : Rat} {g s : Option Rat} {x : Addr} {m : Int} {q : Rat} (h : BdP ss fl ro β g s) (hβ : 0 ≤ β) (hm : ∀ i, i < ss.length → mo ss i < m) (gG : GF (ss ++ [(x, m, some q)]) (2 * β) fl ro G') (sS : SF (ss ++ [(x, m, some q)]) (2 * β) fl ro S')
    (n1 : ¬ ∃ G S, g = some G ∧ some S' = some S ∧ S < G) (n2 : ¬ ∃ G S, some G' = some G ∧ s = some S ∧ S < G) : BdP (ss ++ [(x, m, some q)]) fl ro β (some G') (some S') ∧ NoTurn ss β fl ro g s m q := by
  have hr := rising1 (x := x) (q := q) h.ris hm
  have k1 : ∀ G, g = some G → G ≤ S' := fun G e => Rat.not_lt.mp fun z => n1 ⟨G, S', e, rfl, z⟩
  have k2 : ∀ S, s = some S → G' ≤ S := fun S e => Rat.not_lt.mp fun z => n2 ⟨G', S, rfl, e, z⟩
  have hfl := h.hfl
  have hro := h.hro
  refine ⟨⟨allS_new h.all, hr, by rw [len1]; omega, by rw [len1]; omega, fun _ => by rw [len1]; omega, gG, sS, ?_, h.df⟩, fun G e i hi hl => ?_, fun S e i hi hl => ?_⟩
  · intro G S e1 e2
    cases e1
    cases e2
    refine both_le (by grind) hr gG sS (fun i j a b c d => ?_) (fun i j a b c d => ?_)
    · have go := h.go
      cases hg : g with
      | none => rw [hg] at go; exact absurd d (go i j a b c)
      | some G0 => rw [hg] at go; exact Rat.le_trans (go.1 i j a b c d) (k1 G0 hg)
    · have so := h.so
      cases hs : s with
      | none => rw [hs] at so; exact absurd d (so i j a b c)
      | some S0 => rw [hs] at so; exact Rat.le_trans (k2 S0 hs) (so.1 i j a b c d)
  · refine Rat.not_lt.mp fun z => ?_
    exact absurd ((cap_iff hr sS (h.hiG e).2 hro).mpr ⟨i, hi, hl, z⟩) (Rat.not_lt.mpr (k1 G e))
  · refine Rat.not_lt.mp fun z => ?_
    exact absurd ((cup_iff hr gG (h.loS e).2 hfl).mpr ⟨i, hi, hl, z⟩) (Rat.not_lt.mpr (k2 S e))
section
variable {P : Program} {w : World} {K : PySem.W.Frag} {mg : Str → Option Value} {base : Heap} {f c_Bend : Addr} {fd : FuncData}
theorem sc_Bend_init : FnScope ["self", "bound"] ["self", "bound"] (defScope s_Bend_init) := ⟨rfl, rfl, rfl, by decide +kernel, rfl, by decide +kernel, by decide +kernel⟩
theorem ok_Bend_init (F : Fun K "__init__" "Bend.__init__" s_Bend_init f fd) (K_Bend : Cl K mg "Bend" c_Bend ["bound", "twice", "below", "above", "gentlest", "steepest"]) (D_plus : Dn P w K mg base 5 "plus" ["one", "other"] (spTwoF (· + ·) 1)) : FnOk P w K mg base CX0 6 f fd ["self", "bound"] (spBInit c_Bend) := by
  refine F.ok sc_Bend_init (fun vs H Q E h => ?_) (fun cdv A outer s H vs Q E hr h => ?_)
  · obtain ⟨p, dx, pb, β, n, rfl, _⟩ := h
    rfl
  obtain ⟨p, dx, pb, β, n, rfl, hp, hb, hn, k⟩ := h
  have lp : ∀ (f : Str) (v : V) (fs : List (Str × V)), fs.length ≤ (putF f v fs).length := by
    intro f v fs
    induction fs with
    | nil => exact Nat.zero_le _
    | cons x r ih =>
      obtain ⟨g, y⟩ := x
      unfold putF
      split
      · exact Nat.le_refl _
      · exact Nat.succ_le_succ ih
  have Fp : ∀ {H H' : Hp} {fs : List (Str × V)} {b : Addr} {xs : List V}, Kp (· = p) H H' → H p = some (.ins c_Bend dx fs) → H b = some (.tup xs) → H' b = some (.tup xs) := fun h hp e => h _ _ (fun z => by rw [z, hp] at e; cases e) e
  refine J.l ⟨_, (J.f (J.x K (J.a 0) (J.a 1))
      (J.f (J.x K (J.a 0) (J.j D_plus (hr.mono (by decide)) rfl (J.b (J.a 1) (J.b (J.a 1) J.d st_N) st_N) (he := st_N) (hpl := (anyc st_N any0))))
      (J.f (J.x K (J.a 0) (J.t J.d))
      (J.f (J.x K (J.a 0) (J.t J.d))
      (J.f (J.x K (J.a 0) J.v)
      (J.h (J.x K (J.a 0) J.v))))))), ?_⟩
  walk_at "v"
  refine r_s K_Bend hp (by show 0 < 1000; decide) ?_
  have k1 : Kp (· = p) H (upd H p (.ins c_Bend dx (putF "bound" (.ref pb) []))) := (Kp.of (Same.refl _)).upd rfl
  have hb1 := hb.tv (Fp k1 hp)
  have hp1 : upd H p (.ins c_Bend dx (putF "bound" (.ref pb) [])) p = some (.ins c_Bend dx (putF "bound" (.ref pb) [])) := upd_same
  generalize upd H p (.ins c_Bend dx (putF "bound" (.ref pb) [])) = H1 at *
  walk_at "v"
  refine ⟨pb, pb, β, β, n, n, rfl, hb1.qt, hb1.qt, by walk_at "o", fun tw H2 s2 f2 => ?_⟩
  have k2 := k1.sm s2
  have hp2 := s2 _ _ hp1
  have hb2 := hb1.up s2
  walk_at "v"
  have F6 := fun Lb La => (Fb.init pb tw Lb La .non .non).len
  refine r_s K_Bend hp2 (by have := F6 pb pb; have := lp "twice" (.ref tw) (putF "bound" (.ref pb) []); have : (putF "bound" (.ref pb) ([] : List (Str × V))).length = 1 := rfl; walk_at "o") ?_
  have k3 : Kp (· = p) H (upd H2 p (.ins c_Bend dx (putF "twice" (.ref tw) (putF "bound" (.ref pb) [])))) := k2.upd rfl
  have k23 : Kp (· = p) H2 (upd H2 p (.ins c_Bend dx (putF "twice" (.ref tw) (putF "bound" (.ref pb) [])))) := (Kp.of (Same.refl _)).upd rfl
  have hb3 := hb2.tv (Fp k23 hp2)
  have f3 := f2.tv (Fp k23 hp2)
  have hp3 : upd H2 p (.ins c_Bend dx (putF "twice" (.ref tw) (putF "bound" (.ref pb) []))) p = some (.ins c_Bend dx (putF "twice" (.ref tw) (putF "bound" (.ref pb) []))) := upd_same
  generalize upd H2 p (.ins c_Bend dx (putF "twice" (.ref tw) (putF "bound" (.ref pb) []))) = H3 at *
  walk_at "v"
  refine r_new (mk := .lst) (by simp) fun Lb H4 s4 n4 e4 => ?_
  have k4 := k3.sm s4
  have hp4 := s4 _ _ hp3
  have nb0 : H Lb = none := by
    cases g : H Lb with
    | none => rfl
    | some o =>
      by_cases z : Lb = p
      · rw [z, hp3] at n4; cases n4
      · rw [k3 _ _ z g] at n4; cases n4
  have nLp : Lb ≠ p := fun z => by rw [z, hp3] at n4; cases n4
  walk_at "v"
  refine r_s K_Bend hp4 (by have z1 := putF_le "twice" (.ref tw) (putF "bound" (.ref pb) []); have z2 : (putF "bound" (.ref pb) ([] : List (Str × V))).length = 1 := rfl; walk_at "o") ?_
  have k45 : Kp (· = p) H4 (upd H4 p (.ins c_Bend dx (putF "below" (.ref Lb) (putF "twice" (.ref tw) (putF "bound" (.ref pb) []))))) := (Kp.of (Same.refl _)).upd rfl
  have hb5 := (hb3.up s4).tv (Fp k45 hp4)
  have f5 := (f3.up s4).tv (Fp k45 hp4)
  have e5 := k45 _ _ nLp e4
  have k5 := k4.trans k45
  have hp5 : upd H4 p (.ins c_Bend dx (putF "below" (.ref Lb) (putF "twice" (.ref tw) (putF "bound" (.ref pb) [])))) p = some (.ins c_Bend dx (putF "below" (.ref Lb) (putF "twice" (.ref tw) (putF "bound" (.ref pb) [])))) := upd_same
  generalize upd H4 p (.ins c_Bend dx (putF "below" (.ref Lb) (putF "twice" (.ref tw) (putF "bound" (.ref pb) [])))) = H5 at *
  walk_at "v"
  refine r_new (mk := .lst) (by simp) fun La H6 s6 n6 e6 => ?_
  have k6 := k5.sm s6
  have hp6 := s6 _ _ hp5
  have na0 : H La = none := by
    cases g : H La with
    | none => rfl
    | some o =>
      by_cases z : La = p
      · rw [z, hp5] at n6; cases n6
      · rw [k5 _ _ z g] at n6; cases n6
  have nMp : La ≠ p := fun z => by rw [z, hp5] at n6; cases n6
  have ne : Lb ≠ La := fun z => by rw [← z, e5] at n6; cases n6
  have F := Fb.init pb tw Lb La .non .non
  have l0 := F.len
  have l1 := lp "steepest" .non (putF "gentlest" .non (putF "above" (.ref La) (putF "below" (.ref Lb) (putF "twice" (.ref tw) (putF "bound" (.ref pb) [])))))
  have l2 := lp "gentlest" .non (putF "above" (.ref La) (putF "below" (.ref Lb) (putF "twice" (.ref tw) (putF "bound" (.ref pb) []))))
  have l3 := lp "above" (.ref La) (putF "below" (.ref Lb) (putF "twice" (.ref tw) (putF "bound" (.ref pb) [])))
  walk_at "v"
  refine r_s K_Bend hp6 (by walk_at "o") ?_
  walk_at "v"
  refine r_s K_Bend upd_same (by walk_at "o") ?_
  walk_at "v"
  refine r_s K_Bend upd_same (by walk_at "o") ?_
  walk_at "v"
  rw [upd_upd, upd_upd]
  have k67 : Kp (· = p) H6 (upd H6 p (.ins c_Bend dx (putF "steepest" .non (putF "gentlest" .non (putF "above" (.ref La) (putF "below" (.ref Lb) (putF "twice" (.ref tw) (putF "bound" (.ref pb) [])))))))) := (Kp.of (Same.refl _)).upd rfl
  have k7 := k6.trans k67
  refine k Lb La _ 0 (fun b o e => ?_) nb0 na0 ⟨dx, pb, tw, _, .non, .non, upd_same, F, k67 _ _ nLp (s6 _ _ e5), k67 _ _ nMp e6, ne, fun x hx => absurd hx (by simp), (hb5.up s6).tv (Fp k67 hp6), ?_, rfl, rfl, ⟨fun x hx => absurd hx (by simp), List.Pairwise.nil, Nat.le_refl _, Nat.le_refl _, fun z => absurd z (by simp), fun q p _ _ _ z => absurd z (by simp), fun q p _ _ _ z => absurd z (by simp), fun _ _ e => (by cases e), fun _ => rfl⟩⟩
  · by_cases hb' : b = p
    · rw [hb'] at e
      unfold rm at e
      rw [if_pos rfl] at e
      cases e
    · rw [rm_at hb'] at e
      exact k7 _ _ hb' e
  · have := ((f5.up s6).tv (Fp k67 hp6)).qt
    have e2' : (2 * β : Rat) = β + β := by grind
    rw [e2']
    exact this.mono (by walk_at "o")
theorem in_of {rs : Qs} {N : Nat} {h : Nat → Rat} (hm : rs.map (·.2) = (List.range N).map h) : (∀ i, i < N → ∃ x ∈ rs, x.2 = h i) ∧ (∀ x ∈ rs, ∃ i, i < N ∧ h i = x.2) := by
  constructor
  · intro i hi
    have : h i ∈ rs.map (·.2) := by rw [hm]; exact List.mem_map.mpr ⟨i, List.mem_range.mpr hi, rfl⟩
    obtain ⟨x, hx, e⟩ := List.mem_map.mp this
    exact ⟨x, hx, e⟩
  · intro x hx
    have : x.2 ∈ rs.map (·.2) := List.mem_map.mpr ⟨x, hx, rfl⟩
    rw [hm] at this
    obtain ⟨i, hi, e⟩ := List.mem_map.mp this
    exact ⟨i, List.mem_range.mp hi, e⟩
theorem allS_drop {es : List En} {j : Nat} (h : AllS es) : AllS (es.drop j) := fun x hx => h x (List.mem_of_mem_drop hx)
theorem row_drop {H : Hp} {es : List En} {j n : Nat} (h : Row H es n) : Row H (es.drop j) n := fun x hx => h x (List.mem_of_mem_drop hx)
theorem zero_sz {n : Nat} : Sz n 0 := Nat.two_pow_pos n
theorem sc_Bend_line_of : FnScope ["self", "steep", "told", "lows"] ["self", "steep"] (defScope s_Bend_line_of) := ⟨rfl, rfl, rfl, by decide +kernel, rfl, by decide +kernel, by decide +kernel⟩
theorem ok_Bend_line_of (F : Fun K "line_of" "Bend.line_of" s_Bend_line_of f fd) (K_Bend : Cl K mg "Bend" c_Bend ["bound", "twice", "below", "above", "gentlest", "steepest"]) (D_reduced : Dn P w K mg base 4 "reduced" ["quotient"] spReduced) (D_loose_along : Dn P w K mg base 3 "loose_along" ["steep", "sample", "moment"] spLalong) (D_loose_minus : Dn P w K mg base 1 "loose_minus" ["one", "other"] (spTwo (· - ·) 1)) (D_greatest : Dn P w K mg base 2 "greatest" ["quotients"] spGreat) : FnOk P w K mg base CX0 5 f fd ["self", "steep"] (spLineOf c_Bend) := by
  refine F.ok sc_Bend_line_of (fun vs H Q E h => ?_) (fun cdv A outer s H vs Q E hr h => ?_)
  · obtain ⟨p, Lb, La, pt, ss, fl, ro, β, T, n, nb, g, s, rfl, _⟩ := h
    rfl
  obtain ⟨p, Lb, La, pt, ss, fl, ro, β, T, n, nb, g, s', rfl, ⟨dx, bd, tw, fs, gv, sv, hB⟩, ht, h0, h900, hn, hnb, k⟩ := h
  have hlt := (hB.P.lt h0).1
  have ld : (ss.drop fl).length = ss.length - fl := List.length_drop ..
  refine J.l ⟨_, (J.f (J.i (i := 2) sc_Bend_line_of.nd rfl (Or.inr rfl) (J.j D_reduced (hr.mono (by decide)) rfl (J.b (J.a 1) J.d st_N) (he := st_N) (hpl := any0)) (hs := sw_K))
      (J.f (Jd.ps_comp (O := ["sample"]) (N' := ["told", "self"]) (cap := [2, 0]) (i := 3) sc_Bend_line_of.nd rfl (Or.inl rfl) rfl (Jd.piL K (J.p K (J.a 0))) (fun _ _ _ _ _ => (J.r (i := 0) (show List.Nodup [("sample" : Str), ("told" : Str), ("self" : Str)] by decide +kernel) rfl (Or.inl rfl))) (fun _ _ _ _ _ => Jd.pts_nil) (fun _ _ _ _ _ => (J.j D_loose_minus (hr.mono (by decide)) rfl (J.b (J.j D_loose_along (hr.mono (by decide)) rfl (J.b (J.a 1) (J.b (J.a 0) (J.b J.c J.d st_C) st_N) st_N) (he := st_N) (hpl := (anyc st_N (anyc st_C any0)))) (J.b (J.p K (J.a 2)) J.d) st_K) (he := st_K) (hpl := (anyc (by rfl) any0)))) rfl ⟨⟨rfl, rfl, rfl, rfl⟩, ⟨⟨rfl, rfl, rfl, rfl⟩, trivial⟩⟩ rfl (by decide +kernel) rfl (by decide +kernel) (by rfl))
      (J.h (J.k (J.n (J.b (J.a 2) (J.b (J.j D_reduced (hr.mono (by decide)) rfl (J.b (J.j D_greatest (hr.mono (by decide)) rfl (J.b (J.a 3) J.d st_N) (he := st_N) (hpl := any0)) J.d st_K) (he := st_K) (hpl := any0)) J.d st_K) st_N)))))), ?_⟩
  walk_at "v"
  refine ⟨pt, T, _, rfl, ht, by walk_at "o", fun to H1 s1 f1 => ?_⟩
  walk_at "v"
  refine r_iL ?_
  walk_at "v"
  refine r_f K_Bend (s1 _ _ hB.at_) hB.F.bl ?_
  refine ⟨Lb, rfl, ⟨_, SqL.of (s1 _ _ hB.eb)⟩, ?_⟩
  refine compB_of (xs := vals (ss.drop fl)) tells_list (fun H3 s3 => SqL.of (s3 _ _ (s1 _ _ hB.eb))) (by rw [vals_len]; walk_at "o") (fun i ys G' => ∃ rs : Qs, ys = qrefs rs ∧ AllQ G' rs (5 * n + 3 * nb + 7) ∧ rs.map (·.2) = (List.range i).map (fun j => lev (ss.drop fl) T j - β)) ⟨[], rfl, fun z hz => absurd hz (by simp), rfl⟩ ?_ ?_
  · rintro D i v ys H3 σ0 N N0 h0' hD eD s3 hv hy ⟨rs, rfl, hrs, hmap⟩ kY kN
    obtain ⟨e, he, rfl⟩ := vals_at hv
    have hi : i < (ss.drop fl).length := (List.getElem?_eq_some_iff.mp he).1
    obtain ⟨xi, gi, fi⟩ := sa_at (row_drop (hB.row.up (s1.trans s3))) (allS_drop hB.P.all) hi
    rw [he] at gi
    cases gi
    refine r_own1 h0' ?_
    walk_at "v"
    refine iteT ?_
    walk_at "v"
    refine ⟨to, e.1, T, _, _, 0, _, n, rfl, (f1.up s3).qt, fi, zero_sz, by walk_at "o", by walk_at "o", fun x H4 s4 f4 => ?_⟩
    walk_at "v"
    refine r_f K_Bend ((s1.trans (s3.trans s4)) _ _ hB.at_) hB.F.bd ?_
    walk_at "v"
    refine ⟨x, bd, _, β, _, nb, rfl, f4, (hB.fbd.up (s1.trans (s3.trans s4))).qt, by walk_at "o", fun x5 H5 s5 f5 => ?_⟩
    refine kY _ H5 (s4.trans s5) ⟨rs ++ [(x5, lev (ss.drop fl) T i - β)], by simp [qrefs], fun y hy' => ?_, ?_⟩
    · rcases List.mem_append.mp hy' with w | w
      · exact (hrs y w).up (rm_rm (s4.trans s5))
      · obtain rfl : y = (x5, lev (ss.drop fl) T i - β) := by simpa using w
        have e1 : wo (ss.drop fl) i + T * ((0 - mo (ss.drop fl) i : Int) : Rat) - β = lev (ss.drop fl) T i - β := by
          unfold lev
          rw [Rat.intCast_sub]
          grind
        have f5 : QtAt H5 x5 (wo (ss.drop fl) i + T * ((0 - mo (ss.drop fl) i : Int) : Rat) - β) _ := f5
        rw [e1] at f5
        obtain ⟨t, d, e', ff⟩ := f5.mono (show 3 * n + (2 * nb + 1) + 3 + 2 * n + 2 + nb + 1 ≤ 5 * n + 3 * nb + 7 by walk_at "o")
        exact ⟨t, d, rm_tup ((s4.trans s5) _ _ eD) e', ff⟩
    · rw [List.map_append, hmap, List.range_succ, List.map_append]
      rfl
  rintro D ys H3 hD eD s3 hy ⟨rs, rfl, hrs, hmap⟩
  rw [vals_len] at hmap
  have hlen : rs.length = (ss.drop fl).length := by
    have := congrArg List.length hmap
    simpa using this
  obtain ⟨inR, ofR⟩ := in_of hmap
  walk_at "v"
  refine ⟨D, rs, 5 * n + 3 * nb + 7, rfl, eD, fun x hx => (hrs x hx).up rm_same, by walk_at "o", by walk_at "o", fun mx hmx hmax => ?_⟩
  walk_at "v"
  refine ⟨mx.1, mx.2, _, rfl, (hrs mx hmx).up rm_same, by walk_at "o", fun r4 H4 s4 f4 => ?_⟩
  walk_at "v"
  refine r_new (mk := .tup) (by simp) fun y H5 s5 n5 e5 => ?_
  refine k y mx.2 H5 (s1.trans (s3.trans (s4.trans s5))) ⟨to, r4, e5, (f1.up (s3.trans (s4.trans s5))).mono (by walk_at "o"), f4.up s5⟩ (fun i hi hl => ?_) ?_
  · obtain ⟨x, hx, e⟩ := inR (i - fl) (by walk_at "o")
    have := hmax x hx
    rw [e, lev_drop, show fl + (i - fl) = i by walk_at "o"] at this
    exact this
  · obtain ⟨i, hi, e⟩ := ofR mx hmx
    exact ⟨fl + i, by walk_at "o", by walk_at "o", by rw [← lev_drop]; exact e⟩
theorem sc_Bend_ended_in_cap : FnScope ["self", "sample", "line", "first", "mid"] ["self", "sample"] (defScope s_Bend_ended_in_cap) := ⟨rfl, rfl, rfl, by decide +kernel, rfl, by decide +kernel, by decide +kernel⟩
theorem ok_Bend_ended_in_cap (F : Fun K "ended_in_cap" "Bend.ended_in_cap" s_Bend_ended_in_cap f fd) (K_Bend : Cl K mg "Bend" c_Bend ["bound", "twice", "below", "above", "gentlest", "steepest"]) (D_Bend_line_of : Dm P w K mg base 5 c_Bend "line_of" ["self", "steep"] (spLineOf c_Bend)) (D_touched : Dn P w K mg base 5 "touched" ["samples", "line", "lift"] spTouched) (D_opposite : Dn P w K mg base 1 "opposite" ["one"] spOpp) (D_steepest_with : Dn P w K mg base 4 "steepest_with" ["known", "earlier", "sample", "twice"] spSteep) : FnOk P w K mg base CX0 6 f fd ["self", "sample"] (spCap c_Bend) := by
  refine F.ok sc_Bend_ended_in_cap (fun vs H Q E h => ?_) (fun cdv A outer s H vs Q E hr h => ?_)
  · obtain ⟨p, Lb, La, x, ss, fl, ro, m, q, β, G, n, nb, s, rfl, _⟩ := h
    rfl
  obtain ⟨p, Lb, La, x, ss, fl, ro, m, q, β, G, n, nb, s', rfl, ⟨dx, bd, tw, fs, gv, sv, hB⟩, hx, hm, h900, h1, hn, hnb, hβ, hoff, k⟩ := h
  have h0 : 0 < ss.length := by obtain ⟨i, _, hi, _⟩ := hoff; walk_at "o"
  obtain ⟨hfl, hro⟩ := hB.P.lt h0
  obtain ⟨pg, rfl, fg⟩ := id hB.G
  obtain ⟨gG, hG⟩ := hB.P.hiG rfl
  have ris := hB.P.ris
  refine J.l ⟨_, (J.f (J.i (i := 2) sc_Bend_ended_in_cap.nd rfl (Or.inl rfl) (Jd.pe_dm D_Bend_line_of K_Bend.cl (hr.mono (by decide)) (J.a 0) (J.b (J.p K (J.a 0)) J.d) (he := (by rfl)) (hpl := any0)) (hs := sw_K))
      (J.f (J.i (i := 3) sc_Bend_ended_in_cap.nd rfl (Or.inl rfl) (J.e (ixL K) (J.j D_touched (hr.mono (by decide)) rfl (J.b (J.p K (J.a 0)) (J.b (J.a 2) (J.b (J.j D_opposite (hr.mono (by decide)) rfl (J.b (J.p K (J.a 0)) J.d) (he := (by rfl)) (hpl := any0)) J.d st_K) st_N)) (he := (by rfl)) (hpl := (anyc st_N (anyc st_K any0)))) J.c (fun _ _ => rfl)) (hs := sw_S))
      (J.f (J.i (i := 4) sc_Bend_ended_in_cap.nd rfl (Or.inr rfl) (J.e (ixL K) (J.j D_touched (hr.mono (by decide)) rfl (J.b (J.p K (J.a 0)) (J.b (J.a 2) (J.b (J.p K (J.a 0)) J.d) st_N)) (he := (by rfl)) (hpl := (anyc st_N (anyc (by rfl) any0)))) (J.z un_neg J.c) (fun _ _ => rfl)) (hs := sw_S))
      (J.f (J.x K (J.a 0) (Jd.pe_comp (O := ["other"]) (N' := ["mid"]) (cap := [4]) rfl (Jd.piL K (J.p K (J.a 0))) (fun _ _ _ _ _ => (J.r (i := 0) (show List.Nodup [("other" : Str), ("mid" : Str)] by decide +kernel) rfl (Or.inl rfl))) (fun _ _ _ _ _ => (Jd.pts_one (J.m op_ge (J.e (ixT K) (J.a 0) J.c (fun _ _ => rfl)) (J.e (ixT K) (J.a 1) J.c (fun _ _ => rfl)) (nomark _)))) (fun _ _ _ _ _ => (J.a 0)) rfl ⟨⟨rfl, rfl, rfl, rfl⟩, trivial⟩ rfl (by decide +kernel) rfl (by decide +kernel)))
      (J.f (J.x K (J.a 0) (J.j D_steepest_with (hr.mono (by decide)) rfl (J.b J.v (J.b (J.p K (J.a 0)) (J.b (J.a 1) (J.b (J.p K (J.a 0)) J.d) st_N)) st_C) (he := st_C) (hpl := (anyc (by rfl) (anyc st_N (anyc (by rfl) any0))))))
      (J.f (J.x K (J.a 0) J.v)
      (J.f (J.u (J.w K (J.p K (J.a 0)) (J.a 1)) (hs := sw_K))
      (J.f (J.x K (J.a 0) (J.t (J.b (J.a 1) J.d st_N)))
      (J.h (J.k (J.n (J.b (J.a 2) (J.b (J.n (J.b (J.e (ixT K) (J.a 3) J.c (fun _ _ => rfl)) (J.b (J.e (ixT K) (J.a 4) J.c (fun _ _ => rfl)) (J.b (J.e (ixT K) (J.a 1) J.c (fun _ _ => rfl)) J.d st_S) st_S) st_S)) J.d st_T) st_N)))))))))))), ?_⟩
  walk_at "v"
  refine r_m hB.at_ (hB.F.meth "line_of") ?_
  walk_at "v"
  refine r_f K_Bend hB.at_ hB.F.g ?_
  walk_at "v"
  refine ⟨p, Lb, La, pg, ss, fl, ro, β, G, n, nb, some G, s', rfl, ⟨dx, bd, tw, fs, _, sv, hB⟩, fg, h0, h900, hn, hnb, fun ln fo H1 s1 f1 lo ex => ?_⟩
  obtain ⟨hi, q0, p0, a1, a2, a3, a4, eq0, ep0⟩ := cap_touch hβ ris gG hG lo ex
  have hB1 := hB.up s1
  walk_at "v"
  refine r_f K_Bend hB1.at_ hB.F.ab ?_
  walk_at "v"
  refine r_f K_Bend hB1.at_ hB.F.bd ?_
  walk_at "v"
  refine ⟨bd, β, nb, rfl, hB1.fbd.qt, fun ob H2 s2 f2 => ?_⟩
  have hB2 := hB1.up s2
  walk_at "v"
  refine ⟨La, ln, ob, ss.drop ro, G, fo, -β, n, _, nb, rfl, hB2.ea, row_drop hB2.row, allS_drop hB.P.all, f1.up2 s2, f2, h1, by walk_at "o", by walk_at "o", by walk_at "o", by rw [List.length_drop]; walk_at "o", fun R3 H3 s3 n3 e3 => ?_⟩
  have hB3 := hB2.up s3
  obtain ⟨a, xa, b1, b2, ga, g0, ea⟩ := touch_first (l := -β) (f := fo) a1 (by walk_at "o") (show lev ss G q0 - fo = -β by grind)
  obtain ⟨xa', ga', fa⟩ := sa_at (hB3.row) hB.P.all (show a < ss.length by walk_at "o")
  rw [ga] at ga'
  cases ga'
  walk_at "v"
  refine r_l e3 (at_zero g0) ?_
  walk_at "v"
  refine r_f K_Bend hB3.at_ hB.F.bl ?_
  walk_at "v"
  refine r_f K_Bend hB3.at_ hB.F.bd ?_
  walk_at "v"
  refine ⟨Lb, ln, bd, ss.drop fl, G, fo, β, n, _, nb, rfl, hB3.eb, row_drop hB3.row, allS_drop hB.P.all, f1.up2 (s2.trans s3), hB3.fbd.qt, h1, by walk_at "o", by walk_at "o", by walk_at "o", by rw [List.length_drop]; walk_at "o", fun R4 H4 s4 n4 e4 => ?_⟩
  have hB4 := hB3.up s4
  have s04 := s1.trans (s2.trans (s3.trans s4))
  obtain ⟨b, xb, c1, c2, gb, g1, eb, fb⟩ := touch_last (l := β) (f := fo) a3 a4 (show lev ss G p0 - fo = β by grind)
  obtain ⟨xb', gb', fxb⟩ := sa_at hB4.row hB.P.all c2
  rw [gb] at gb'
  cases gb'
  obtain ⟨vb, evb, _⟩ := id fxb
  obtain ⟨va, eva, _⟩ := id (fa.up s4)
  have mb : xb.2.1 = mo ss b := by unfold mo; rw [gb]; rfl
  have gdb : (ss.drop fl)[b - fl]? = some xb := by rw [List.getElem?_drop, show fl + (b - fl) = b by walk_at "o"]; exact gb
  have edb : (ss.drop fl).filter (fun y => decide (xb.2.1 ≤ y.2.1)) = ss.drop b := by
    rw [drop_of (drop_rising ris) gdb, List.drop_drop, show fl + (b - fl) = b by walk_at "o"]
  walk_at "v"
  refine r_l e4 (at_neg1 g1) ?_
  walk_at "v"
  refine r_iL ?_
  walk_at "v"
  refine r_f K_Bend hB4.at_ hB.F.bl ?_
  refine ⟨Lb, rfl, ⟨_, SqL.of hB4.eb⟩, ?_⟩
  refine compB_of (xs := vals (ss.drop fl)) tells_list (fun H5 s5 => SqL.of (s5 _ _ hB4.eb)) (by rw [vals_len, List.length_drop]; walk_at "o") (fun i ys _ => ys = vals (((ss.drop fl).take i).filter (fun y => decide (xb.2.1 ≤ y.2.1)))) rfl ?_ ?_
  · rintro D i v ys H5 σ0 N N0 h0' hD eD s5 hv hy rfl kY kN
    obtain ⟨e, he, rfl⟩ := vals_at hv
    have hi : i < (ss.drop fl).length := (List.getElem?_eq_some_iff.mp he).1
    obtain ⟨xi, gi, ⟨vi, ei, _⟩⟩ := sa_at (row_drop (hB4.row.up s5)) (allS_drop hB.P.all) hi
    rw [he] at gi
    cases gi
    have me : mo (ss.drop fl) i = e.2.1 := by unfold mo; rw [he]; rfl
    have ts := PySem.take_succ_filter (fun y : En => decide (xb.2.1 ≤ y.2.1)) (ss.drop fl) i e he
    have evb5 := s5 _ _ evb
    refine r_own1 h0' ?_
    walk_at "v"
    cases hs : decide (xb.2.1 ≤ e.2.1) with
    | true =>
      rw [hs, if_pos rfl] at ts
      have hs' := of_decide_eq_true hs
      rw [show decide (mo ss b ≤ mo (ss.drop fl) i) = true from decide_eq_true (by rw [me, ← mb]; exact hs')]
      refine iteT ?_
      walk_at "v"
      exact kY _ H5 (Same.refl _) (by rw [ts, ← vals_snoc])
    | false =>
      rw [hs, if_neg Bool.false_ne_true, List.append_nil] at ts
      have hs' := of_decide_eq_false hs
      rw [show decide (mo ss b ≤ mo (ss.drop fl) i) = false from decide_eq_false (by rw [me, ← mb]; exact hs')]
      refine iteF ?_
      exact kN H5 (Same.refl _) (by rw [ts])
  rintro D ys H5 hD eD s5 hy rfl
  rw [vals_len, List.take_length, edb] at eD
  have hB5 := hB4.up s5
  have s05 := s04.trans s5
  have nD : H D = none := by
    cases g : H D with
    | none => rfl
    | some o => rw [s04 _ _ g] at hD; cases hD
  have nDp : D ≠ p := fun z => by rw [z, hB.at_] at nD; cases nD
  have fl0 := hB.F.len
  walk_at "v"
  refine r_s K_Bend hB5.at_ (by walk_at "o") ?_
  have kd : Kp (fun b => b = p) H5 (upd H5 p (.ins c_Bend dx (putF "below" (.ref D) fs))) := (Kp.of (Same.refl _)).upd rfl
  have ep6 : upd H5 p (.ins c_Bend dx (putF "below" (.ref D) fs)) p = some (.ins c_Bend dx (putF "below" (.ref D) fs)) := upd_same
  have k6 : Kp (fun b => b = p ∨ b = D) H (upd H5 p (.ins c_Bend dx (putF "below" (.ref D) fs))) := (Kp.of s05).upd (.inl rfl)
  have eD6 := kd _ _ nDp eD
  have tp : ∀ {b : Addr} {xs : List V}, H5 b = some (.tup xs) → upd H5 p (.ins c_Bend dx (putF "below" (.ref D) fs)) b = some (.tup xs) := fun e => kd _ _ (fun z => by rw [z, hB5.at_] at e; cases e) e
  have row6 := (hB5.row).tv tp
  have hx6 := ((hx.up s05).en.tv tp).sa
  have ftw6 := hB5.ftw.tv tp
  have fbd6 := hB5.fbd.tv tp
  have fln6 := (f1.up2 (s2.trans (s3.trans (s4.trans s5)))).tv tp
  have eva6 := tp (s5 _ _ eva)
  have evb6 := tp (s5 _ _ evb)
  generalize upd H5 p (.ins c_Bend dx (putF "below" (.ref D) fs)) = H6 at *
  have F6 := hB.F.set_bl (y := D)
  have l6 := F6.len
  walk_at "v"
  refine r_f K_Bend ep6 F6.bl ?_
  walk_at "v"
  refine r_f K_Bend ep6 F6.tw ?_
  walk_at "v"
  have ldb : (ss.drop b).length = ss.length - b := List.length_drop ..
  refine ⟨.non, D, x, tw, ss.drop b, m, q, 2 * β, n, 2 * nb + 1, rfl, eD6, row_drop row6, allS_drop hB.P.all, hx6, ftw6, by walk_at "o", by walk_at "o", by walk_at "o", fun i hi => by rw [mo_drop]; exact hm _ (by walk_at "o"), .inl rfl, fun z => absurd z (by walk_at "o"), fun _ ps S H7 s7 f7 _ hall hex => ?_⟩
  have sS : SF (ss ++ [(x, m, some q)]) (2 * β) b ss.length S := sf_new (s := none) (fun _ e => by cases e) (fun _ i j _ _ z => by walk_at "o") (Nat.le_refl _) hall (by
    rcases hex with z | ⟨pk, e, _⟩
    · exact .inl z
    · cases e)
  walk_at "v"
  have ep7 := s7 _ _ ep6
  refine r_s K_Bend ep7 (by walk_at "o") ?_
  walk_at "v"
  refine r_s K_Bend upd_same (by rw [putF_len F6.s]; walk_at "o") ?_
  walk_at "v"
  refine r_f K_Bend upd_same F6.set_s.set_g.bl ?_
  walk_at "v"
  rw [upd_upd]
  have k8 : Kp (fun b => b = p ∨ b = D) H (upd H7 p (.ins c_Bend dx (putF "gentlest" .non (putF "steepest" (.ref ps) (putF "below" (.ref D) fs))))) := (k6.sm s7).upd (.inl rfl)
  have ep8 : upd H7 p (.ins c_Bend dx (putF "gentlest" .non (putF "steepest" (.ref ps) (putF "below" (.ref D) fs)))) p = some (.ins c_Bend dx (putF "gentlest" .non (putF "steepest" (.ref ps) (putF "below" (.ref D) fs)))) := upd_same
  have k78 : Kp (fun b => b = p) H7 (upd H7 p (.ins c_Bend dx (putF "gentlest" .non (putF "steepest" (.ref ps) (putF "below" (.ref D) fs))))) := (Kp.of (Same.refl _)).upd rfl
  have eD8 := k78 _ _ nDp (s7 _ _ eD6)
  have tp8 : ∀ {b : Addr} {xs : List V}, H6 b = some (.tup xs) → upd H7 p (.ins c_Bend dx (putF "gentlest" .non (putF "steepest" (.ref ps) (putF "below" (.ref D) fs)))) b = some (.tup xs) := fun e => k78 _ _ (fun z => by rw [z, ep6] at e; cases e) (s7 _ _ e)
  have f8 : QtAt (upd H7 p (.ins c_Bend dx (putF "gentlest" .non (putF "steepest" (.ref ps) (putF "below" (.ref D) fs))))) ps S (3 * n + (2 * nb + 1) + 3) := f7.tv fun {b xs} e => k78 _ _ (fun z => by rw [z, ep7] at e; cases e) e
  generalize upd H7 p (.ins c_Bend dx (putF "gentlest" .non (putF "steepest" (.ref ps) (putF "below" (.ref D) fs)))) = H8 at *
  have F8 := F6.set_s (y := .ref ps) |>.set_g (y := .non)
  refine ⟨.inl ⟨rfl, _, SqL.of eD8⟩, ?_⟩
  walk_at "v"
  refine r_app eD8 (by rw [vals_len]; exact small1000 (by walk_at "o")) ?_
  have k9 : Kp (fun b => b = p ∨ b = D) H (upd H8 D (.lst (vals (ss.drop b) ++ [.ref x]))) := k8.upd (.inr rfl)
  have ep9 : upd H8 D (.lst (vals (ss.drop b) ++ [.ref x])) p = some (.ins c_Bend dx (putF "gentlest" .non (putF "steepest" (.ref ps) (putF "below" (.ref D) fs)))) := by rw [upd_ne (Ne.symm nDp)]; exact ep8
  have eD9 : upd H8 D (.lst (vals (ss.drop b) ++ [.ref x])) D = some (.lst (vals ((ss ++ [(x, m, some q)]).drop b))) := by
    rw [upd_same, List.drop_append_of_le_length (by walk_at "o"), ← vals_snoc]
  have tp9 : ∀ {b' : Addr} {xs : List V}, H8 b' = some (.tup xs) → upd H8 D (.lst (vals (ss.drop b) ++ [.ref x])) b' = some (.tup xs) := fun e => by rw [upd_ne (fun z => by rw [z, eD8] at e; cases e)]; exact e
  generalize upd H8 D (.lst (vals (ss.drop b) ++ [.ref x])) = H9 at *
  walk_at "v"
  refine r_new (mk := .lst) (by simp) fun M H10 s10 n10 e10 => ?_
  have nM : H M = none := by
    cases g : H M with
    | none => rfl
    | some o =>
      by_cases z : M = p
      · rw [z, ep9] at n10; cases n10
      · by_cases z2 : M = D
        · rw [z2, eD9] at n10; cases n10
        · rw [k9 _ _ (fun u => by rcases u with u | u; exact z u; exact z2 u) g] at n10; cases n10
  have nMp : M ≠ p := fun z => by rw [z, hB.at_] at nM; cases nM
  have nMD : D ≠ M := fun z => by rw [← z, eD9] at n10; cases n10
  walk_at "v"
  have l8 := F8.len
  refine r_s K_Bend (s10 _ _ ep9) (by walk_at "o") ?_
  have F11 := F8.set_ab (y := M)
  have k11 : Kp (fun b => b = p ∨ b = D) H (upd H10 p (.ins c_Bend dx (putF "above" (.ref M) (putF "gentlest" .non (putF "steepest" (.ref ps) (putF "below" (.ref D) fs)))))) := (k9.sm s10).upd (.inl rfl)
  have ep11 : upd H10 p (.ins c_Bend dx (putF "above" (.ref M) (putF "gentlest" .non (putF "steepest" (.ref ps) (putF "below" (.ref D) fs))))) p = some (.ins c_Bend dx (putF "above" (.ref M) (putF "gentlest" .non (putF "steepest" (.ref ps) (putF "below" (.ref D) fs))))) := upd_same
  have k1011 : Kp (fun b => b = p) H10 (upd H10 p (.ins c_Bend dx (putF "above" (.ref M) (putF "gentlest" .non (putF "steepest" (.ref ps) (putF "below" (.ref D) fs)))))) := (Kp.of (Same.refl _)).upd rfl
  have eD11 := k1011 _ _ nDp (s10 _ _ eD9)
  have eM11 := k1011 _ _ nMp e10
  have tp11 : ∀ {b : Addr} {xs : List V}, H9 b = some (.tup xs) → upd H10 p (.ins c_Bend dx (putF "above" (.ref M) (putF "gentlest" .non (putF "steepest" (.ref ps) (putF "below" (.ref D) fs))))) b = some (.tup xs) := fun e => k1011 _ _ (fun z => by rw [z, ep9] at e; cases e) (s10 _ _ e)
  generalize upd H10 p (.ins c_Bend dx (putF "above" (.ref M) (putF "gentlest" .non (putF "steepest" (.ref ps) (putF "below" (.ref D) fs))))) = H11 at *
  have t11 : ∀ {b : Addr} {xs : List V}, H6 b = some (.tup xs) → H11 b = some (.tup xs) := fun e => tp11 (tp9 (tp8 e))
  have eva11 := t11 eva6
  have evb11 := t11 evb6
  obtain ⟨vx, evx, _⟩ := id hx6
  have evx11 := t11 evx
  walk_at "v"
  refine r_new (mk := .tup) (by simp) fun th H12 s12 n12 e12 => ?_
  walk_at "v"
  refine r_new (mk := .tup) (by simp) fun r H13 s13 n13 e13 => ?_
  have s113 := s12.trans s13
  refine k r ln th D M fo a b (some S) H13 (fun b' o e => ?_) ⟨gG, hoff, lo, hi, b1, by grind, by walk_at "o", c2, by grind, fun i hi hl z => fb i hi hl (by grind), by walk_at "o"⟩ e13 ((fln6.tv t11).up2 s113) (s13 _ _ e12) ⟨dx, bd, tw, _, .non, .ref ps, Bd0.up ⟨ep11, F11, eD11, ?_, nMD, ?_, fbd6.tv t11, ftw6.tv t11, rfl, ⟨ps, rfl, (f8.tv fun e => tp11 (tp9 e))⟩, ?_⟩ s113⟩ nD nM
  · obtain ⟨n1, n2, n3, e⟩ := rmB_of e
    refine s113 _ _ (k11 _ _ (fun z => ?_) e)
    rcases z with z | z
    · exact n1 z
    · rw [z, nD] at e; cases e
  · rw [List.drop_append_of_le_length (Nat.le_refl _), List.drop_length]
    exact eM11
  · exact (row6.tv t11).snoc (hx6.en.tv t11)
  · refine ⟨allS_new hB.P.all, rising1 ris hm, by rw [len1]; walk_at "o", by rw [len1]; walk_at "o", fun _ => by rw [len1]; walk_at "o", fun i j hi hij _ hj => ?_, sS, fun _ _ e => (by cases e), fun z => absurd z (by walk_at "o")⟩
    rw [len1] at hj
    walk_at "o"
theorem sc_Bend_ended_in_cup : FnScope ["self", "sample", "line", "first", "mid"] ["self", "sample"] (defScope s_Bend_ended_in_cup) := ⟨rfl, rfl, rfl, by decide +kernel, rfl, by decide +kernel, by decide +kernel⟩
theorem ok_Bend_ended_in_cup (F : Fun K "ended_in_cup" "Bend.ended_in_cup" s_Bend_ended_in_cup f fd) (K_Bend : Cl K mg "Bend" c_Bend ["bound", "twice", "below", "above", "gentlest", "steepest"]) (D_Bend_line_of : Dm P w K mg base 5 c_Bend "line_of" ["self", "steep"] (spLineOf c_Bend)) (D_touched : Dn P w K mg base 5 "touched" ["samples", "line", "lift"] spTouched) (D_opposite : Dn P w K mg base 1 "opposite" ["one"] spOpp) (D_gentlest_with : Dn P w K mg base 4 "gentlest_with" ["known", "earlier", "sample", "twice"] spGentle) : FnOk P w K mg base CX0 6 f fd ["self", "sample"] (spCup c_Bend) := by
  refine F.ok sc_Bend_ended_in_cup (fun vs H Q E h => ?_) (fun cdv A outer s H vs Q E hr h => ?_)
  · obtain ⟨p, Lb, La, x, ss, fl, ro, m, q, β, G, n, nb, s, rfl, _⟩ := h
    rfl
  obtain ⟨p, Lb, La, x, ss, fl, ro, m, q, β, G, n, nb, s', rfl, ⟨dx, bd, tw, fs, gv, sv, hB⟩, hx, hm, h900, h1, hn, hnb, hβ, hoff, k⟩ := h
  have h0 : 0 < ss.length := by obtain ⟨i, _, hi, _⟩ := hoff; walk_at "o"
  obtain ⟨hfl, hro⟩ := hB.P.lt h0
  obtain ⟨pg, rfl, fg⟩ := id hB.S
  obtain ⟨gG, hG⟩ := hB.P.loS rfl
  have ris := hB.P.ris
  refine J.l ⟨_, (J.f (J.i (i := 2) sc_Bend_ended_in_cup.nd rfl (Or.inl rfl) (Jd.pe_dm D_Bend_line_of K_Bend.cl (hr.mono (by decide)) (J.a 0) (J.b (J.p K (J.a 0)) J.d) (he := (by rfl)) (hpl := any0)) (hs := sw_K))
      (J.f (J.i (i := 3) sc_Bend_ended_in_cup.nd rfl (Or.inl rfl) (J.e (ixL K) (J.j D_touched (hr.mono (by decide)) rfl (J.b (J.p K (J.a 0)) (J.b (J.a 2) (J.b (J.p K (J.a 0)) J.d) st_N)) (he := (by rfl)) (hpl := (anyc st_N (anyc (by rfl) any0)))) J.c (fun _ _ => rfl)) (hs := sw_S))
      (J.f (J.i (i := 4) sc_Bend_ended_in_cup.nd rfl (Or.inr rfl) (J.e (ixL K) (J.j D_touched (hr.mono (by decide)) rfl (J.b (J.p K (J.a 0)) (J.b (J.a 2) (J.b (J.j D_opposite (hr.mono (by decide)) rfl (J.b (J.p K (J.a 0)) J.d) (he := (by rfl)) (hpl := any0)) J.d st_K) st_N)) (he := (by rfl)) (hpl := (anyc st_N (anyc st_K any0)))) (J.z un_neg J.c) (fun _ _ => rfl)) (hs := sw_S))
      (J.f (J.x K (J.a 0) (Jd.pe_comp (O := ["other"]) (N' := ["mid"]) (cap := [4]) rfl (Jd.piL K (J.p K (J.a 0))) (fun _ _ _ _ _ => (J.r (i := 0) (show List.Nodup [("other" : Str), ("mid" : Str)] by decide +kernel) rfl (Or.inl rfl))) (fun _ _ _ _ _ => (Jd.pts_one (J.m op_ge (J.e (ixT K) (J.a 0) J.c (fun _ _ => rfl)) (J.e (ixT K) (J.a 1) J.c (fun _ _ => rfl)) (nomark _)))) (fun _ _ _ _ _ => (J.a 0)) rfl ⟨⟨rfl, rfl, rfl, rfl⟩, trivial⟩ rfl (by decide +kernel) rfl (by decide +kernel)))
      (J.f (J.x K (J.a 0) (J.j D_gentlest_with (hr.mono (by decide)) rfl (J.b J.v (J.b (J.p K (J.a 0)) (J.b (J.a 1) (J.b (J.p K (J.a 0)) J.d) st_N)) st_C) (he := st_C) (hpl := (anyc (by rfl) (anyc st_N (anyc (by rfl) any0))))))
      (J.f (J.x K (J.a 0) J.v)
      (J.f (J.u (J.w K (J.p K (J.a 0)) (J.a 1)) (hs := sw_K))
      (J.f (J.x K (J.a 0) (J.t (J.b (J.a 1) J.d st_N)))
      (J.h (J.k (J.n (J.b (J.a 2) (J.b (J.n (J.b (J.e (ixT K) (J.a 3) J.c (fun _ _ => rfl)) (J.b (J.e (ixT K) (J.a 4) J.c (fun _ _ => rfl)) (J.b (J.e (ixT K) (J.a 1) J.c (fun _ _ => rfl)) J.d st_S) st_S) st_S)) J.d st_T) st_N)))))))))))), ?_⟩
  walk_at "v"
  refine r_m hB.at_ (hB.F.meth "line_of") ?_
  walk_at "v"
  refine r_f K_Bend hB.at_ hB.F.s ?_
  walk_at "v"
  refine ⟨p, Lb, La, pg, ss, fl, ro, β, G, n, nb, s', some G, rfl, ⟨dx, bd, tw, fs, gv, _, hB⟩, fg, h0, h900, hn, hnb, fun ln fo H1 s1 f1 lo ex => ?_⟩
  obtain ⟨hi, q0, p0, a1, a2, a3, a4, eq0, ep0⟩ := cup_touch hβ ris gG hG lo ex
  have hB1 := hB.up s1
  walk_at "v"
  refine r_f K_Bend hB1.at_ hB.F.bl ?_
  walk_at "v"
  refine r_f K_Bend hB1.at_ hB.F.bd ?_
  walk_at "v"
  refine ⟨Lb, ln, bd, ss.drop fl, G, fo, β, n, _, nb, rfl, hB1.eb, row_drop hB1.row, allS_drop hB.P.all, f1, hB1.fbd.qt, h1, by walk_at "o", by walk_at "o", by walk_at "o", by rw [List.length_drop]; walk_at "o", fun R3 H3 s3 n3 e3 => ?_⟩
  have hB3 := hB1.up s3
  obtain ⟨a, xa, b1, b2, ga, g0, ea⟩ := touch_first (l := β) (f := fo) a1 (by walk_at "o") (show lev ss G q0 - fo = β by grind)
  obtain ⟨xa', ga', fa⟩ := sa_at (hB3.row) hB.P.all (show a < ss.length by walk_at "o")
  rw [ga] at ga'
  cases ga'
  walk_at "v"
  refine r_l e3 (at_zero g0) ?_
  walk_at "v"
  refine r_f K_Bend hB3.at_ hB.F.ab ?_
  walk_at "v"
  refine r_f K_Bend hB3.at_ hB.F.bd ?_
  walk_at "v"
  refine ⟨bd, β, nb, rfl, hB3.fbd.qt, fun ob H2 s2 f2 => ?_⟩
  have hB2 := hB3.up s2
  walk_at "v"
  refine ⟨La, ln, ob, ss.drop ro, G, fo, -β, n, _, nb, rfl, hB2.ea, row_drop hB2.row, allS_drop hB.P.all, f1.up2 (s3.trans s2), f2, h1, by walk_at "o", by walk_at "o", by walk_at "o", by rw [List.length_drop]; walk_at "o", fun R4 H4 s4 n4 e4 => ?_⟩
  have hB4 := hB2.up s4
  have s04 := s1.trans (s3.trans (s2.trans s4))
  obtain ⟨b, xb, c1, c2, gb, g1, eb, fb⟩ := touch_last (l := -β) (f := fo) a3 a4 (show lev ss G p0 - fo = -β by grind)
  obtain ⟨xb', gb', fxb⟩ := sa_at hB4.row hB.P.all c2
  rw [gb] at gb'
  cases gb'
  obtain ⟨vb, evb, _⟩ := id fxb
  obtain ⟨va, eva, _⟩ := id (fa.up (s2.trans s4))
  have mb : xb.2.1 = mo ss b := by unfold mo; rw [gb]; rfl
  have gdb : (ss.drop ro)[b - ro]? = some xb := by rw [List.getElem?_drop, show ro + (b - ro) = b by walk_at "o"]; exact gb
  have edb : (ss.drop ro).filter (fun y => decide (xb.2.1 ≤ y.2.1)) = ss.drop b := by
    rw [drop_of (drop_rising ris) gdb, List.drop_drop, show ro + (b - ro) = b by walk_at "o"]
  walk_at "v"
  refine r_l e4 (at_neg1 g1) ?_
  walk_at "v"
  refine r_iL ?_
  walk_at "v"
  refine r_f K_Bend hB4.at_ hB.F.ab ?_
  refine ⟨La, rfl, ⟨_, SqL.of hB4.ea⟩, ?_⟩
  refine compB_of (xs := vals (ss.drop ro)) tells_list (fun H5 s5 => SqL.of (s5 _ _ hB4.ea)) (by rw [vals_len, List.length_drop]; walk_at "o") (fun i ys _ => ys = vals (((ss.drop ro).take i).filter (fun y => decide (xb.2.1 ≤ y.2.1)))) rfl ?_ ?_
  · rintro D i v ys H5 σ0 N N0 h0' hD eD s5 hv hy rfl kY kN
    obtain ⟨e, he, rfl⟩ := vals_at hv
    have hi : i < (ss.drop ro).length := (List.getElem?_eq_some_iff.mp he).1
    obtain ⟨xi, gi, ⟨vi, ei, _⟩⟩ := sa_at (row_drop (hB4.row.up s5)) (allS_drop hB.P.all) hi
    rw [he] at gi
    cases gi
    have me : mo (ss.drop ro) i = e.2.1 := by unfold mo; rw [he]; rfl
    have ts := PySem.take_succ_filter (fun y : En => decide (xb.2.1 ≤ y.2.1)) (ss.drop ro) i e he
    have evb5 := s5 _ _ evb
    refine r_own1 h0' ?_
    walk_at "v"
    cases hs : decide (xb.2.1 ≤ e.2.1) with
    | true =>
      rw [hs, if_pos rfl] at ts
      have hs' := of_decide_eq_true hs
      rw [show decide (mo ss b ≤ mo (ss.drop ro) i) = true from decide_eq_true (by rw [me, ← mb]; exact hs')]
      refine iteT ?_
      walk_at "v"
      exact kY _ H5 (Same.refl _) (by rw [ts, ← vals_snoc])
    | false =>
      rw [hs, if_neg Bool.false_ne_true, List.append_nil] at ts
      have hs' := of_decide_eq_false hs
      rw [show decide (mo ss b ≤ mo (ss.drop ro) i) = false from decide_eq_false (by rw [me, ← mb]; exact hs')]
      refine iteF ?_
      exact kN H5 (Same.refl _) (by rw [ts])
  rintro D ys H5 hD eD s5 hy rfl
  rw [vals_len, List.take_length, edb] at eD
  have hB5 := hB4.up s5
  have s05 := s04.trans s5
  have nD : H D = none := by
    cases g : H D with
    | none => rfl
    | some o => rw [s04 _ _ g] at hD; cases hD
  have nDp : D ≠ p := fun z => by rw [z, hB.at_] at nD; cases nD
  have fl0 := hB.F.len
  walk_at "v"
  refine r_s K_Bend hB5.at_ (by walk_at "o") ?_
  have kd : Kp (fun b => b = p) H5 (upd H5 p (.ins c_Bend dx (putF "above" (.ref D) fs))) := (Kp.of (Same.refl _)).upd rfl
  have ep6 : upd H5 p (.ins c_Bend dx (putF "above" (.ref D) fs)) p = some (.ins c_Bend dx (putF "above" (.ref D) fs)) := upd_same
  have k6 : Kp (fun b => b = p ∨ b = D) H (upd H5 p (.ins c_Bend dx (putF "above" (.ref D) fs))) := (Kp.of s05).upd (.inl rfl)
  have eD6 := kd _ _ nDp eD
  have tp : ∀ {b : Addr} {xs : List V}, H5 b = some (.tup xs) → upd H5 p (.ins c_Bend dx (putF "above" (.ref D) fs)) b = some (.tup xs) := fun e => kd _ _ (fun z => by rw [z, hB5.at_] at e; cases e) e
  have row6 := (hB5.row).tv tp
  have hx6 := ((hx.up s05).en.tv tp).sa
  have ftw6 := hB5.ftw.tv tp
  have fbd6 := hB5.fbd.tv tp
  have fln6 := (f1.up2 (s3.trans (s2.trans (s4.trans s5)))).tv tp
  have eva6 := tp (s5 _ _ eva)
  have evb6 := tp (s5 _ _ evb)
  generalize upd H5 p (.ins c_Bend dx (putF "above" (.ref D) fs)) = H6 at *
  have F6 := hB.F.set_ab (y := D)
  have l6 := F6.len
  walk_at "v"
  refine r_f K_Bend ep6 F6.ab ?_
  walk_at "v"
  refine r_f K_Bend ep6 F6.tw ?_
  walk_at "v"
  have ldb : (ss.drop b).length = ss.length - b := List.length_drop ..
  refine ⟨.non, D, x, tw, ss.drop b, m, q, 2 * β, n, 2 * nb + 1, rfl, eD6, row_drop row6, allS_drop hB.P.all, hx6, ftw6, by walk_at "o", by walk_at "o", by walk_at "o", fun i hi => by rw [mo_drop]; exact hm _ (by walk_at "o"), .inl rfl, fun z => absurd z (by walk_at "o"), fun _ ps S H7 s7 f7 _ hall hex => ?_⟩
  have sS : GF (ss ++ [(x, m, some q)]) (2 * β) ss.length b S := gf_new (g := none) (fun _ e => by cases e) (fun _ i j _ _ z => by walk_at "o") (Nat.le_refl _) hall (by
    rcases hex with z | ⟨pk, e, _⟩
    · exact .inl z
    · cases e)
  walk_at "v"
  have ep7 := s7 _ _ ep6
  refine r_s K_Bend ep7 (by walk_at "o") ?_
  walk_at "v"
  refine r_s K_Bend upd_same (by rw [putF_len F6.g]; walk_at "o") ?_
  walk_at "v"
  refine r_f K_Bend upd_same F6.set_g.set_s.ab ?_
  walk_at "v"
  rw [upd_upd]
  have k8 : Kp (fun b => b = p ∨ b = D) H (upd H7 p (.ins c_Bend dx (putF "steepest" .non (putF "gentlest" (.ref ps) (putF "above" (.ref D) fs))))) := (k6.sm s7).upd (.inl rfl)
  have ep8 : upd H7 p (.ins c_Bend dx (putF "steepest" .non (putF "gentlest" (.ref ps) (putF "above" (.ref D) fs)))) p = some (.ins c_Bend dx (putF "steepest" .non (putF "gentlest" (.ref ps) (putF "above" (.ref D) fs)))) := upd_same
  have k78 : Kp (fun b => b = p) H7 (upd H7 p (.ins c_Bend dx (putF "steepest" .non (putF "gentlest" (.ref ps) (putF "above" (.ref D) fs))))) := (Kp.of (Same.refl _)).upd rfl
  have eD8 := k78 _ _ nDp (s7 _ _ eD6)
  have tp8 : ∀ {b : Addr} {xs : List V}, H6 b = some (.tup xs) → upd H7 p (.ins c_Bend dx (putF "steepest" .non (putF "gentlest" (.ref ps) (putF "above" (.ref D) fs)))) b = some (.tup xs) := fun e => k78 _ _ (fun z => by rw [z, ep6] at e; cases e) (s7 _ _ e)
  have f8 : QtAt (upd H7 p (.ins c_Bend dx (putF "steepest" .non (putF "gentlest" (.ref ps) (putF "above" (.ref D) fs))))) ps S (3 * n + (2 * nb + 1) + 3) := f7.tv fun {b xs} e => k78 _ _ (fun z => by rw [z, ep7] at e; cases e) e
  generalize upd H7 p (.ins c_Bend dx (putF "steepest" .non (putF "gentlest" (.ref ps) (putF "above" (.ref D) fs)))) = H8 at *
  have F8 := F6.set_g (y := .ref ps) |>.set_s (y := .non)
  refine ⟨.inl ⟨rfl, _, SqL.of eD8⟩, ?_⟩
  walk_at "v"
  refine r_app eD8 (by rw [vals_len]; exact small1000 (by walk_at "o")) ?_
  have k9 : Kp (fun b => b = p ∨ b = D) H (upd H8 D (.lst (vals (ss.drop b) ++ [.ref x]))) := k8.upd (.inr rfl)
  have ep9 : upd H8 D (.lst (vals (ss.drop b) ++ [.ref x])) p = some (.ins c_Bend dx (putF "steepest" .non (putF "gentlest" (.ref ps) (putF "above" (.ref D) fs)))) := by rw [upd_ne (Ne.symm nDp)]; exact ep8
  have eD9 : upd H8 D (.lst (vals (ss.drop b) ++ [.ref x])) D = some (.lst (vals ((ss ++ [(x, m, some q)]).drop b))) := by
    rw [upd_same, List.drop_append_of_le_length (by walk_at "o"), ← vals_snoc]
  have tp9 : ∀ {b' : Addr} {xs : List V}, H8 b' = some (.tup xs) → upd H8 D (.lst (vals (ss.drop b) ++ [.ref x])) b' = some (.tup xs) := fun e => by rw [upd_ne (fun z => by rw [z, eD8] at e; cases e)]; exact e
  generalize upd H8 D (.lst (vals (ss.drop b) ++ [.ref x])) = H9 at *
  walk_at "v"
  refine r_new (mk := .lst) (by simp) fun M H10 s10 n10 e10 => ?_
  have nM : H M = none := by
    cases g : H M with
    | none => rfl
    | some o =>
      by_cases z : M = p
      · rw [z, ep9] at n10; cases n10
      · by_cases z2 : M = D
        · rw [z2, eD9] at n10; cases n10
        · rw [k9 _ _ (fun u => by rcases u with u | u; exact z u; exact z2 u) g] at n10; cases n10
  have nMp : M ≠ p := fun z => by rw [z, hB.at_] at nM; cases nM
  have nMD : D ≠ M := fun z => by rw [← z, eD9] at n10; cases n10
  walk_at "v"
  have l8 := F8.len
  refine r_s K_Bend (s10 _ _ ep9) (by walk_at "o") ?_
  have F11 := F8.set_bl (y := M)
  have k11 : Kp (fun b => b = p ∨ b = D) H (upd H10 p (.ins c_Bend dx (putF "below" (.ref M) (putF "steepest" .non (putF "gentlest" (.ref ps) (putF "above" (.ref D) fs)))))) := (k9.sm s10).upd (.inl rfl)
  have ep11 : upd H10 p (.ins c_Bend dx (putF "below" (.ref M) (putF "steepest" .non (putF "gentlest" (.ref ps) (putF "above" (.ref D) fs))))) p = some (.ins c_Bend dx (putF "below" (.ref M) (putF "steepest" .non (putF "gentlest" (.ref ps) (putF "above" (.ref D) fs))))) := upd_same
  have k1011 : Kp (fun b => b = p) H10 (upd H10 p (.ins c_Bend dx (putF "below" (.ref M) (putF "steepest" .non (putF "gentlest" (.ref ps) (putF "above" (.ref D) fs)))))) := (Kp.of (Same.refl _)).upd rfl
  have eD11 := k1011 _ _ nDp (s10 _ _ eD9)
  have eM11 := k1011 _ _ nMp e10
  have tp11 : ∀ {b : Addr} {xs : List V}, H9 b = some (.tup xs) → upd H10 p (.ins c_Bend dx (putF "below" (.ref M) (putF "steepest" .non (putF "gentlest" (.ref ps) (putF "above" (.ref D) fs))))) b = some (.tup xs) := fun e => k1011 _ _ (fun z => by rw [z, ep9] at e; cases e) (s10 _ _ e)
  generalize upd H10 p (.ins c_Bend dx (putF "below" (.ref M) (putF "steepest" .non (putF "gentlest" (.ref ps) (putF "above" (.ref D) fs))))) = H11 at *
  have t11 : ∀ {b : Addr} {xs : List V}, H6 b = some (.tup xs) → H11 b = some (.tup xs) := fun e => tp11 (tp9 (tp8 e))
  have eva11 := t11 eva6
  have evb11 := t11 evb6
  obtain ⟨vx, evx, _⟩ := id hx6
  have evx11 := t11 evx
  walk_at "v"
  refine r_new (mk := .tup) (by simp) fun th H12 s12 n12 e12 => ?_
  walk_at "v"
  refine r_new (mk := .tup) (by simp) fun r H13 s13 n13 e13 => ?_
  have s113 := s12.trans s13
  refine k r ln th M D fo a b (some S) H13 (fun b' o e => ?_) ⟨gG, hoff, lo, hi, b1, by grind, by walk_at "o", c2, by grind, fun i hi hl z => fb i hi hl (by grind), by walk_at "o"⟩ e13 ((fln6.tv t11).up2 s113) (s13 _ _ e12) ⟨dx, bd, tw, _, .ref ps, .non, Bd0.up ⟨ep11, F11, ?_, eD11, Ne.symm nMD, ?_, fbd6.tv t11, ftw6.tv t11, ⟨ps, rfl, (f8.tv fun e => tp11 (tp9 e))⟩, rfl, ?_⟩ s113⟩ nM nD
  · obtain ⟨n1, n2, n3, e⟩ := rmB_of e
    refine s113 _ _ (k11 _ _ (fun z => ?_) e)
    rcases z with z | z
    · exact n1 z
    · rw [z, nD] at e; cases e
  · rw [List.drop_append_of_le_length (Nat.le_refl _), List.drop_length]
    exact eM11
  · exact (row6.tv t11).snoc (hx6.en.tv t11)
  · refine ⟨allS_new hB.P.all, rising1 ris hm, by rw [len1]; walk_at "o", by rw [len1]; walk_at "o", fun _ => by rw [len1]; walk_at "o", sS, fun i j hi hij _ hj => ?_, fun _ _ _ e => (by cases e), fun z => absurd z (by walk_at "o")⟩
    rw [len1] at hj
    walk_at "o"
end

theorem BdP.none0 {ss : List En} {fl ro : Nat} {β : Rat} {g s : Option Rat} (h : BdP ss fl ro β g s) (h0 : ss.length = 0) : g = none ∧ s = none := by
  have go := h.go
  have so := h.so
  constructor
  · cases g with
    | none => rfl
    | some G =>
      obtain ⟨q, p, _, _, _, z, _⟩ := go.2
      omega
  · cases s with
    | none => rfl
    | some S =>
      obtain ⟨q, p, _, _, _, z, _⟩ := so.2
      omega
section
variable {P : Program} {w : World} {K : PySem.W.Frag} {mg : Str → Option Value} {base : Heap} {f c_Bend : Addr} {fd : FuncData}
theorem sc_Bend_take : FnScope ["self", "sample", "gentlest", "steepest"] ["self", "sample"] (defScope s_Bend_take) := ⟨rfl, rfl, rfl, by decide +kernel, rfl, by decide +kernel, by decide +kernel⟩
theorem ok_Bend_take (F : Fun K "take" "Bend.take" s_Bend_take f fd) (K_Bend : Cl K mg "Bend" c_Bend ["bound", "twice", "below", "above", "gentlest", "steepest"]) (D_gentlest_with : Dn P w K mg base 4 "gentlest_with" ["known", "earlier", "sample", "twice"] spGentle) (D_steepest_with : Dn P w K mg base 4 "steepest_with" ["known", "earlier", "sample", "twice"] spSteep) (D_is_steeper : Dn P w K mg base 2 "is_steeper" ["one", "other"] spSteeper)
    (D_Bend_ended_in_cap : Dm P w K mg base 6 c_Bend "ended_in_cap" ["self", "sample"] (spCap c_Bend)) (D_Bend_ended_in_cup : Dm P w K mg base 6 c_Bend "ended_in_cup" ["self", "sample"] (spCup c_Bend)) : FnOk P w K mg base CX0 7 f fd ["self", "sample"] (spTake c_Bend) := by
  refine F.ok sc_Bend_take (fun vs H Q E h => ?_) (fun cdv A outer s H vs Q E hr h => ?_)
  · obtain ⟨p, Lb, La, x, ss, fl, ro, m, q, β, n, nb, g, s, rfl, _⟩ := h
    rfl
  obtain ⟨p, Lb, La, x, ss, fl, ro, m, q, β, n, nb, g, s', rfl, ⟨dx, bd, tw, fs, gv, sv, hB⟩, hx, hm, h900, h1, hn, hnb, hβ, kN, kC, kU⟩ := h
  have fl0 := hB.F.len
  have hfl := hB.P.hfl
  have hro := hB.P.hro
  have lda : (ss.drop ro).length = ss.length - ro := List.length_drop ..
  have ldb : (ss.drop fl).length = ss.length - fl := List.length_drop ..
  have nbp : Lb ≠ p := fun z => by have := hB.eb; rw [z, hB.at_] at this; cases this
  have nap : La ≠ p := fun z => by have := hB.ea; rw [z, hB.at_] at this; cases this
  -- the sample is taken
  have stay : ∀ (gv' sv' : V) (g' s2 : Option Rat) (H2 : Hp), Same H H2 → OQ H2 gv' (3 * n + (2 * nb + 1) + 3) g' → OQ H2 sv' (3 * n + (2 * nb + 1) + 3) s2 → BdP (ss ++ [(x, m, some q)]) fl ro β g' s2 → NoTurn ss β fl ro g s' m q →
      Q .non (upd (upd (upd (upd H2 p (.ins c_Bend dx (putF "gentlest" gv' fs))) p (.ins c_Bend dx (putF "steepest" sv' (putF "gentlest" gv' fs)))) Lb (.lst (vals (ss.drop fl) ++ [.ref x]))) La (.lst (vals (ss.drop ro) ++ [.ref x]))) := by
    intro gv' sv' g' s2 H2 s02 og os hP hN
    rw [upd_upd]
    have hB2 := hB.up s02
    have kk : Kp (fun b => b = p ∨ b = Lb ∨ b = La) H2 (upd (upd (upd H2 p (.ins c_Bend dx (putF "steepest" sv' (putF "gentlest" gv' fs)))) Lb (.lst (vals (ss.drop fl) ++ [.ref x]))) La (.lst (vals (ss.drop ro) ++ [.ref x]))) := ((((Kp.of (Same.refl _)).upd (.inl rfl)).upd (.inr (.inl rfl))).upd (.inr (.inr rfl)))
    have tp : ∀ {b : Addr} {xs : List V}, H2 b = some (.tup xs) → upd (upd (upd H2 p (.ins c_Bend dx (putF "steepest" sv' (putF "gentlest" gv' fs)))) Lb (.lst (vals (ss.drop fl) ++ [.ref x]))) La (.lst (vals (ss.drop ro) ++ [.ref x])) b = some (.tup xs) := fun e => kk _ _ (fun z => by
      rcases z with z | z | z
      · rw [z, hB2.at_] at e; cases e
      · rw [z, hB2.eb] at e; cases e
      · rw [z, hB2.ea] at e; cases e) e
    refine kN g' s2 _ (fun b o e => ?_) hN ⟨dx, bd, tw, _, gv', sv', ?_, hB.F.set_g.set_s, ?_, ?_, hB.ne, ?_, hB2.fbd.tv tp, hB2.ftw.tv tp, og.tv tp, os.tv tp, hP⟩
    · obtain ⟨n1, n2, n3, e⟩ := rmB_of e
      exact kk _ _ (fun z => by rcases z with z | z | z; exact n1 z; exact n2 z; exact n3 z) (s02 _ _ e)
    · rw [upd_ne (Ne.symm nap), upd_ne (Ne.symm nbp), upd_same]
    · rw [upd_ne hB.ne, upd_same, List.drop_append_of_le_length hfl, ← vals_snoc]
    · rw [upd_same, List.drop_append_of_le_length hro, ← vals_snoc]
    · exact (hB2.row.tv tp).snoc ((hx.up s02).en.tv tp)
  refine J.l ⟨_, (J.f (J.i (i := 2) sc_Bend_take.nd rfl (Or.inl rfl) (J.j D_gentlest_with (hr.mono (by decide)) rfl (J.b (J.p K (J.a 0)) (J.b (J.p K (J.a 0)) (J.b (J.a 1) (J.b (J.p K (J.a 0)) J.d) st_N))) (he := (by rfl)) (hpl := (anyc (by rfl) (anyc st_N (anyc (by rfl) any0))))) (hs := sw_K))
      (J.f (J.i (i := 3) sc_Bend_take.nd rfl (Or.inl rfl) (J.j D_steepest_with (hr.mono (by decide)) rfl (J.b (J.p K (J.a 0)) (J.b (J.p K (J.a 0)) (J.b (J.a 1) (J.b (J.p K (J.a 0)) J.d) st_N))) (he := (by rfl)) (hpl := (anyc (by rfl) (anyc st_N (anyc (by rfl) any0))))) (hs := sw_K))
      (J.f (J.o (J.ab (J.j D_is_steeper (hr.mono (by decide)) rfl (J.b (J.p K (J.a 0)) (J.b (J.a 3) J.d st_N)) (he := (by rfl)) (hpl := (anyc st_N any0))))
      (J.h (J.k (Jd.pe_dm D_Bend_ended_in_cap K_Bend.cl (hr.mono (by decide)) (J.a 0) (J.b (J.a 1) J.d st_N) (he := st_N) (hpl := any0))))
      J.q)
      (J.f (J.o (J.ab (J.j D_is_steeper (hr.mono (by decide)) rfl (J.b (J.a 2) (J.b (J.p K (J.a 0)) J.d) st_N) (he := st_N) (hpl := (anyc (by rfl) any0))))
      (J.h (J.k (Jd.pe_dm D_Bend_ended_in_cup K_Bend.cl (hr.mono (by decide)) (J.a 0) (J.b (J.a 1) J.d st_N) (he := st_N) (hpl := any0))))
      J.q)
      (J.f (J.x K (J.a 0) (J.a 2))
      (J.f (J.x K (J.a 0) (J.a 3))
      (J.f (J.u (J.w K (J.p K (J.a 0)) (J.a 1)) (hs := sw_K))
      (J.f (J.u (J.w K (J.p K (J.a 0)) (J.a 1)) (hs := sw_K))
      (J.h (J.k J.v)))))))))), ?_⟩
  walk_at "v"
  refine r_f K_Bend hB.at_ hB.F.g ?_
  walk_at "v"
  refine r_f K_Bend hB.at_ hB.F.ab ?_
  walk_at "v"
  refine r_f K_Bend hB.at_ hB.F.tw ?_
  walk_at "v"
  by_cases h0 : ss.length = 0
  · obtain ⟨rfl, rfl⟩ := hB.P.none0 h0
    obtain rfl : gv = .non := hB.G
    obtain rfl : sv = .non := hB.S
    refine ⟨.non, La, x, tw, ss.drop ro, m, q, 2 * β, n, 2 * nb + 1, rfl, hB.ea, row_drop hB.row, allS_drop hB.P.all, hx, hB.ftw, by walk_at "o", by walk_at "o", by walk_at "o", fun i hi => by rw [mo_drop]; exact hm _ (by walk_at "o"), .inl rfl, fun _ _ H1 s1 => ?_, fun z => absurd z (by walk_at "o")⟩
    have hB1 := hB.up s1
    walk_at "v"
    refine r_f K_Bend hB1.at_ hB.F.s ?_
    walk_at "v"
    refine r_f K_Bend hB1.at_ hB.F.bl ?_
    walk_at "v"
    refine r_f K_Bend hB1.at_ hB.F.tw ?_
    walk_at "v"
    refine ⟨.non, Lb, x, tw, ss.drop fl, m, q, 2 * β, n, 2 * nb + 1, rfl, hB1.eb, row_drop hB1.row, allS_drop hB.P.all, hx.up s1, hB1.ftw, by walk_at "o", by walk_at "o", by walk_at "o", fun i hi => by rw [mo_drop]; exact hm _ (by walk_at "o"), .inl rfl, fun _ _ H2 s2 => ?_, fun z => absurd z (by walk_at "o")⟩
    have s02 := s1.trans s2
    have hB2 := hB.up s02
    walk_at "v"
    refine r_f K_Bend hB2.at_ hB.F.g ?_
    walk_at "v"
    refine ⟨.non, .non, none, none, 0, 0, rfl, rfl, rfl, by decide, fun r hr' => ?_⟩
    obtain rfl : r = false := Bool.eq_false_iff.mpr fun z => by obtain ⟨_, _, e, _⟩ := hr'.mp z; cases e
    walk_at "v"
    refine iteF ?_
    walk_at "v"
    refine r_f K_Bend hB2.at_ hB.F.s ?_
    walk_at "v"
    refine ⟨.non, .non, none, none, 0, 0, rfl, rfl, rfl, by decide, fun r hr2 => ?_⟩
    obtain rfl : r = false := Bool.eq_false_iff.mpr fun z => by obtain ⟨_, _, e, _⟩ := hr2.mp z; cases e
    walk_at "v"
    refine iteF ?_
    walk_at "v"
    refine r_s K_Bend hB2.at_ (by walk_at "o") ?_
    walk_at "v"
    refine r_s K_Bend upd_same (by rw [putF_len hB.F.g]; walk_at "o") ?_
    walk_at "v"
    refine r_f K_Bend upd_same hB.F.set_g.set_s.bl ?_
    walk_at "v"
    have eb4 : upd (upd H2 p (.ins c_Bend dx (putF "gentlest" .non fs))) p (.ins c_Bend dx (putF "steepest" .non (putF "gentlest" .non fs))) Lb = some (.lst (vals (ss.drop fl))) := by
      rw [upd_ne nbp, upd_ne nbp]
      exact hB2.eb
    refine ⟨.inl ⟨rfl, _, SqL.of eb4⟩, ?_⟩
    walk_at "v"
    refine r_app eb4 (by rw [vals_len]; exact small1000 (by walk_at "o")) ?_
    walk_at "v"
    refine r_f K_Bend (by rw [upd_ne (Ne.symm nbp)]; exact upd_same) hB.F.set_g.set_s.ab ?_
    walk_at "v"
    have ea5 : upd (upd (upd H2 p (.ins c_Bend dx (putF "gentlest" .non fs))) p (.ins c_Bend dx (putF "steepest" .non (putF "gentlest" .non fs)))) Lb (.lst (vals (ss.drop fl) ++ [.ref x])) La = some (.lst (vals (ss.drop ro))) := by
      rw [upd_ne (Ne.symm hB.ne), upd_ne nap, upd_ne nap]
      exact hB2.ea
    refine ⟨.inl ⟨rfl, _, SqL.of ea5⟩, ?_⟩
    walk_at "v"
    refine r_app ea5 (by rw [vals_len]; exact small1000 (by walk_at "o")) ?_
    walk_at "v"
    refine stay .non .non none none H2 s02 rfl rfl ?_ ⟨fun _ e => (by cases e), fun _ e => (by cases e)⟩
    refine ⟨allS_new hB.P.all, rising1 hB.P.ris hm, by rw [len1]; walk_at "o", by rw [len1]; walk_at "o", fun _ => by rw [len1]; walk_at "o", fun i j _ hij _ hj => ?_, fun i j _ hij _ hj => ?_, fun _ _ e => (by cases e), hB.P.df⟩
    · rw [len1] at hj
      walk_at "o"
    · rw [len1] at hj
      walk_at "o"
  · obtain ⟨hfl', hro'⟩ := hB.P.lt (by walk_at "o")
    refine ⟨gv, La, x, tw, ss.drop ro, m, q, 2 * β, n, 2 * nb + 1, rfl, hB.ea, row_drop hB.row, allS_drop hB.P.all, hx, hB.ftw, by walk_at "o", by walk_at "o", by walk_at "o", fun i hi => by rw [mo_drop]; exact hm _ (by walk_at "o"), ?_, fun z => absurd z (by walk_at "o"), fun _ pg G1 H1 s1 f1 hK1 hall1 hex1 => ?_⟩
    · have hG := hB.G
      cases g with
      | none => exact .inl hG
      | some G => exact let ⟨pk, e, fk⟩ := hG; .inr ⟨by walk_at "o", pk, G, e, fk⟩
    have gG : GF (ss ++ [(x, m, some q)]) (2 * β) fl ro G1 := by
      have hG := hB.G
      refine gf_new (g := g) (fun G0 e => ?_) (fun e => ?_) hfl hall1 ?_
      · rw [e] at hG
        obtain ⟨pk, e', fk⟩ := hG
        exact ⟨(hB.P.hiG e).1, hK1 pk G0 e' fk⟩
      · have go := hB.P.go
        rw [e] at go
        exact go
      · rcases hex1 with z | ⟨pk, e, fk⟩
        · exact .inl z
        · refine .inr ?_
          cases g with
          | none => rw [show gv = .non from hG] at e; cases e
          | some G0 =>
            obtain ⟨pk', e', fk'⟩ := hG
            rw [e] at e'
            cases e'
            rw [qt_eq fk fk']
    have hB1 := hB.up s1
    walk_at "v"
    refine r_f K_Bend hB1.at_ hB.F.s ?_
    walk_at "v"
    refine r_f K_Bend hB1.at_ hB.F.bl ?_
    walk_at "v"
    refine r_f K_Bend hB1.at_ hB.F.tw ?_
    walk_at "v"
    refine ⟨sv, Lb, x, tw, ss.drop fl, m, q, 2 * β, n, 2 * nb + 1, rfl, hB1.eb, row_drop hB1.row, allS_drop hB.P.all, hx.up s1, hB1.ftw, by walk_at "o", by walk_at "o", by walk_at "o", fun i hi => by rw [mo_drop]; exact hm _ (by walk_at "o"), ?_, fun z => absurd z (by walk_at "o"), fun _ ps S1 H2 s2 f2 hK2 hall2 hex2 => ?_⟩
    · have hS := hB1.S
      cases s' with
      | none => exact .inl hS
      | some S => exact let ⟨pk, e, fk⟩ := hS; .inr ⟨by walk_at "o", pk, S, e, fk⟩
    have sS : SF (ss ++ [(x, m, some q)]) (2 * β) fl ro S1 := by
      have hS := hB1.S
      refine sf_new (s := s') (fun S0 e => ?_) (fun e => ?_) hro hall2 ?_
      · rw [e] at hS
        obtain ⟨pk, e', fk⟩ := hS
        exact ⟨(hB.P.loS e).1, hK2 pk S0 e' fk⟩
      · have so := hB.P.so
        rw [e] at so
        exact so
      · rcases hex2 with z | ⟨pk, e, fk⟩
        · exact .inl z
        · refine .inr ?_
          cases s' with
          | none => rw [show sv = .non from hS] at e; cases e
          | some S0 =>
            obtain ⟨pk', e', fk'⟩ := hS
            rw [e] at e'
            cases e'
            rw [qt_eq fk fk']
    have s02 := s1.trans s2
    have hB2 := hB.up s02
    have hri := rising1 (x := x) (q := q) hB.P.ris hm
    walk_at "v"
    refine r_f K_Bend hB2.at_ hB.F.g ?_
    walk_at "v"
    refine ⟨gv, .ref ps, g, some S1, _, _, rfl, hB2.G, ⟨ps, rfl, f2⟩, by walk_at "o", fun r hr1 => ?_⟩
    walk_at "v"
    refine ite2 (fun c => ?_) (fun c => ?_)
    · obtain ⟨G, S, rfl, e2, lt⟩ := hr1.mp c
      cases e2
      walk_at "v"
      refine r_m hB2.at_ (hB.F.meth "ended_in_cap") ?_
      walk_at "v"
      refine ⟨p, Lb, La, x, ss, fl, ro, m, q, β, G, n, nb, s', rfl, ⟨dx, bd, tw, fs, gv, sv, hB2⟩, hx.up s02, hm, h900, h1, hn, hnb, hβ, (cap_iff hri sS (hB.P.hiG rfl).2 hro).mp lt, fun r ln th Lb' La' fo a b s2' H' k1 k2 k3 k4 k5 k6 k7 k8 => ?_⟩
      refine kC r ln th Lb' La' G fo a b s2' H' (fun b' o e => k1 _ _ ?_) rfl k2 k3 k4 k5 k6 (s02.free k7) (s02.free k8)
      obtain ⟨n1, n2, n3, e⟩ := rmB_of e
      rw [rmB_at n1 n2 n3]
      exact s02 _ _ e
    · have nc : ¬ ∃ G S, g = some G ∧ some S1 = some S ∧ S < G := fun z => c (hr1.mpr z)
      have ncap : ¬ ∃ G, g = some G ∧ ∃ i, fl ≤ i ∧ i < ss.length ∧ q - G * (m : Rat) + 2 * β < lev ss G i := fun ⟨G, e, z⟩ => nc ⟨G, S1, e, rfl, (cap_iff hri sS (hB.P.hiG e).2 hro).mpr z⟩
      walk_at "v"
      refine r_f K_Bend hB2.at_ hB.F.s ?_
      walk_at "v"
      refine ⟨.ref pg, sv, some G1, s', _, _, rfl, ⟨pg, rfl, f1.up s2⟩, hB2.S, by walk_at "o", fun r2 hr2 => ?_⟩
      walk_at "v"
      refine ite2 (fun c2 => ?_) (fun c2 => ?_)
      · obtain ⟨G, S, e1, rfl, lt⟩ := hr2.mp c2
        cases e1
        walk_at "v"
        refine r_m hB2.at_ (hB.F.meth "ended_in_cup") ?_
        walk_at "v"
        refine ⟨p, Lb, La, x, ss, fl, ro, m, q, β, S, n, nb, g, rfl, ⟨dx, bd, tw, fs, gv, sv, hB2⟩, hx.up s02, hm, h900, h1, hn, hnb, hβ, (cup_iff hri gG (hB.P.loS rfl).2 hfl).mp lt, fun r ln th Lb' La' fo a b s2' H' k1 k2 k3 k4 k5 k6 k7 k8 => ?_⟩
        refine kU r ln th Lb' La' S fo a b s2' H' (fun b' o e => k1 _ _ ?_) rfl ncap k2 k3 k4 k5 k6 (s02.free k7) (s02.free k8)
        obtain ⟨n1, n2, n3, e⟩ := rmB_of e
        rw [rmB_at n1 n2 n3]
        exact s02 _ _ e
      · have nu : ¬ ∃ G S, some G1 = some G ∧ s' = some S ∧ S < G := fun z => c2 (hr2.mpr z)
        obtain ⟨hP, hN⟩ := hB.P.next hβ hm gG sS nc nu
        walk_at "v"
        refine r_s K_Bend hB2.at_ (by walk_at "o") ?_
        walk_at "v"
        refine r_s K_Bend upd_same (by rw [putF_len hB.F.g]; walk_at "o") ?_
        walk_at "v"
        refine r_f K_Bend upd_same hB.F.set_g.set_s.bl ?_
        walk_at "v"
        have eb4 : upd (upd H2 p (.ins c_Bend dx (putF "gentlest" (.ref pg) fs))) p (.ins c_Bend dx (putF "steepest" (.ref ps) (putF "gentlest" (.ref pg) fs))) Lb = some (.lst (vals (ss.drop fl))) := by
          rw [upd_ne nbp, upd_ne nbp]
          exact hB2.eb
        refine ⟨.inl ⟨rfl, _, SqL.of eb4⟩, ?_⟩
        walk_at "v"
        refine r_app eb4 (by rw [vals_len]; exact small1000 (by walk_at "o")) ?_
        walk_at "v"
        refine r_f K_Bend (by rw [upd_ne (Ne.symm nbp)]; exact upd_same) hB.F.set_g.set_s.ab ?_
        walk_at "v"
        have ea5 : upd (upd (upd H2 p (.ins c_Bend dx (putF "gentlest" (.ref pg) fs))) p (.ins c_Bend dx (putF "steepest" (.ref ps) (putF "gentlest" (.ref pg) fs)))) Lb (.lst (vals (ss.drop fl) ++ [.ref x])) La = some (.lst (vals (ss.drop ro))) := by
          rw [upd_ne (Ne.symm hB.ne), upd_ne nap, upd_ne nap]
          exact hB2.ea
        refine ⟨.inl ⟨rfl, _, SqL.of ea5⟩, ?_⟩
        walk_at "v"
        refine r_app ea5 (by rw [vals_len]; exact small1000 (by walk_at "o")) ?_
        walk_at "v"
        exact stay (.ref pg) (.ref ps) (some G1) (some S1) H2 s02 ⟨pg, rfl, f1.up s2⟩ ⟨ps, rfl, f2⟩ hP hN
theorem sc_Bend_line_now : FnScope ["self"] ["self"] (defScope s_Bend_line_now) := ⟨rfl, rfl, rfl, by decide +kernel, rfl, by decide +kernel, by decide +kernel⟩
theorem ok_Bend_line_now (F : Fun K "line_now" "Bend.line_now" s_Bend_line_now f fd) (T : Txt mg) (K_Bend : Cl K mg "Bend" c_Bend ["bound", "twice", "below", "above", "gentlest", "steepest"]) (D_line_by : Dn P w K mg base 5 "line_by" ["steep", "sample"] spLineBy) (D_Bend_line_of : Dm P w K mg base 5 c_Bend "line_of" ["self", "steep"] (spLineOf c_Bend)) : FnOk P w K mg base CX0 6 f fd ["self"] (spNow c_Bend) := by
  refine F.ok sc_Bend_line_now (fun vs H Q E h => ?_) (fun cdv A outer s H vs Q E hr h => ?_)
  · obtain ⟨p, Lb, La, ss, fl, ro, β, n, nb, g, s, rfl, _⟩ := h
    rfl
  obtain ⟨p, Lb, La, ss, fl, ro, β, n, nb, g, s', rfl, ⟨dx, bd, tw, fs, gv, sv, hB⟩, h900, h1, hn, hnb, k0, k1⟩ := h
  have ld : (ss.drop fl).length = ss.length - fl := List.length_drop ..
  refine J.l ⟨_, (J.f (J.o (J.m op_eq (J.s (lenC K) rfl T.len_ PySem.boot_len (J.b (J.p K (J.a 0)) J.d) (he := (by rfl)) (hpl := any0)) J.c (nomark _))
      (J.h (J.k J.v))
      J.q)
      (J.f (J.o (J.m op_notN (J.p K (J.a 0)) J.v (nomark _))
      (J.h (J.k (Jd.pe_dm D_Bend_line_of K_Bend.cl (hr.mono (by decide)) (J.a 0) (J.b (J.p K (J.a 0)) J.d) (he := (by rfl)) (hpl := any0))))
      J.q)
      (J.f (J.o (J.m op_notN (J.p K (J.a 0)) J.v (nomark _))
      (J.h (J.k (Jd.pe_dm D_Bend_line_of K_Bend.cl (hr.mono (by decide)) (J.a 0) (J.b (J.p K (J.a 0)) J.d) (he := (by rfl)) (hpl := any0))))
      J.q)
      (J.h (J.k (J.j D_line_by (hr.mono (by decide)) rfl (J.b (J.n (J.b J.c (J.b J.c J.d st_C) st_C)) (J.b (J.e (ixL K) (J.p K (J.a 0)) J.c (fun _ _ => rfl)) J.d st_S) st_T) (he := st_T) (hpl := (anyc st_S any0)))))))), ?_⟩
  walk_at "v"
  refine r_f K_Bend hB.at_ hB.F.bl ?_
  walk_at "v"
  refine r_len (.inl (SqL.of hB.eb)) ?_
  rw [vals_len]
  walk_at "v"
  refine ite2 (fun c => ?_) (fun c => ?_)
  · have c' := of_decide_eq_true c
    walk_at "v"
    refine k0 (List.length_eq_zero_iff.mp ?_)
    by_cases z : 0 < ss.length
    · have := (hB.P.lt z).1
      walk_at "o"
    · walk_at "o"
  · have c' := of_decide_eq_false (Bool.eq_false_iff.mpr c)
    have h0 : 0 < ss.length := by walk_at "o"
    obtain ⟨hfl, hro⟩ := hB.P.lt h0
    walk_at "v"
    refine r_f K_Bend hB.at_ hB.F.g ?_
    cases g with
    | some G =>
      obtain ⟨pg, rfl, fg⟩ := id hB.G
      walk_at "v"
      refine ⟨rfl, ?_⟩
      walk_at "v"
      refine iteT ?_
      walk_at "v"
      refine r_m hB.at_ (hB.F.meth "line_of") ?_
      walk_at "v"
      refine r_f K_Bend hB.at_ hB.F.g ?_
      walk_at "v"
      refine ⟨p, Lb, La, pg, ss, fl, ro, β, G, n, nb, some G, s', rfl, ⟨dx, bd, tw, fs, _, sv, hB⟩, fg, h0, h900, hn, hnb, fun ln fo H1 s1 f1 lo ex => ?_⟩
      exact k1 h0 ln G fo H1 s1 f1 (.inl ⟨.inl rfl, lo, ex⟩)
    | none =>
      obtain rfl : gv = .non := hB.G
      walk_at "v"
      refine ⟨rfl, ?_⟩
      walk_at "v"
      refine iteF ?_
      walk_at "v"
      refine r_f K_Bend hB.at_ hB.F.s ?_
      cases s' with
      | some S =>
        obtain ⟨pg, rfl, fg⟩ := id hB.S
        walk_at "v"
        refine ⟨rfl, ?_⟩
        walk_at "v"
        refine iteT ?_
        walk_at "v"
        refine r_m hB.at_ (hB.F.meth "line_of") ?_
        walk_at "v"
        refine r_f K_Bend hB.at_ hB.F.s ?_
        walk_at "v"
        refine ⟨p, Lb, La, pg, ss, fl, ro, β, S, n, nb, none, some S, rfl, ⟨dx, bd, tw, fs, _, _, hB⟩, fg, h0, h900, hn, hnb, fun ln fo H1 s1 f1 lo ex => ?_⟩
        exact k1 h0 ln S fo H1 s1 f1 (.inl ⟨.inr ⟨rfl, rfl⟩, lo, ex⟩)
      | none =>
        obtain rfl : sv = .non := hB.S
        walk_at "v"
        refine ⟨rfl, ?_⟩
        walk_at "v"
        refine iteF ?_
        walk_at "v"
        refine r_new (mk := .tup) (by simp) fun z1 H1 s1 n1 e1 => ?_
        have hB1 := hB.up s1
        obtain ⟨xa, ga, fa⟩ := sa_at hB1.row hB.P.all hfl
        walk_at "v"
        refine r_f K_Bend hB1.at_ hB.F.bl ?_
        walk_at "v"
        refine r_l hB1.eb (at_zero (x := xa) (by rw [List.getElem?_drop, Nat.add_zero]; exact ga)) ?_
        walk_at "v"
        have f0 : FrAt H1 z1 0 1 := ⟨0, 1, e1, ⟨by decide, by decide, by grind⟩, by decide, by decide⟩
        refine ⟨z1, xa.1, 0, _, _, 1, n, rfl, f0, fa, h1, by walk_at "o", fun z r' H2 s2 e2 f2 => ?_⟩
        refine k1 h0 z 0 (wo ss fl) H2 (s1.trans s2) ⟨z1, r', e2, (f0.up s2).mono (by walk_at "o"), ?_⟩ (.inr ⟨rfl, rfl, rfl, rfl⟩)
        have e3 : wo ss fl - 0 * (mo ss fl : Rat) = wo ss fl := by grind
        rw [e3] at f2
        exact f2.mono (by walk_at "o")
end

theorem BdOk.fresh {C : Addr} {H : Hp} {p Lb La : Addr} {β : Rat} {n n' nb : Nat} (h : BdOk C H p Lb La [] 0 0 β n nb none none) : BdOk C H p Lb La [] 0 0 β n' nb none none :=
  let ⟨dx, bd, tw, fs, gv, sv, h⟩ := h; ⟨dx, bd, tw, fs, gv, sv, h.at_, h.F, h.eb, h.ea, h.ne, fun x hx => absurd hx (by simp), h.fbd, h.ftw, h.G, h.S, h.P⟩
theorem keepB {H0 H H' : Hp} {p Lb La : Addr} (s : Same H0 H) (np : H0 p = none) (nb : H0 Lb = none) (na : H0 La = none) (k : Same (rmB p Lb La H) H') : Same H0 H' := fun b o e => k _ _ (by
  rw [rmB_at (ne_of_none e np) (ne_of_none e nb) (ne_of_none e na)]
  exact s _ _ e)
theorem BdP.two {ss : List En} {fl ro : Nat} {β : Rat} {g s : Option Rat} (h : BdP ss fl ro β g s) : (ss.length < 2 ↔ g = none ∧ s = none) := by
  constructor
  · intro h2
    have go := h.go
    have so := h.so
    constructor
    · cases g with
      | none => rfl
      | some G =>
        obtain ⟨q, p, _, _, _, z, _⟩ := go.2
        omega
    · cases s with
      | none => rfl
      | some S =>
        obtain ⟨q, p, _, _, _, z, _⟩ := so.2
        omega
  · rintro ⟨rfl, rfl⟩
    refine Nat.lt_of_not_le fun h2 => ?_
    obtain ⟨l1, l2⟩ := h.lt (by omega)
    have df := h.df
    have go : ∀ q p, ro ≤ q → q < p → fl ≤ p → ¬ p < ss.length := h.go
    have so : ∀ q p, fl ≤ q → q < p → ro ≤ p → ¬ p < ss.length := h.so
    have g1 := go ro (ss.length - 1) (by omega)
    have s1 := so fl (ss.length - 1) (by omega)
    by_cases e : ro < ss.length - 1
    · exact g1 e (by omega) (by omega)
    · by_cases e2 : fl < ss.length - 1
      · exact s1 e2 (by omega) (by omega)
      · have := df (by omega)
        omega
theorem sd_hi {ss : List En} {T f β : Rat} {a b k : Nat} (hr : rising ss) (hab : a < b) (hbk : b < k) (hk : k < ss.length) (ea : lev ss T a + β = f) (eb : lev ss T b - β = f) (ek : lev ss T k + β < f) : 2 * β < sd ss a b k := by
  have d1 := mo_pos hr hab (by omega)
  have d2 := mo_pos hr hbk hk
  have d3 := mo_pos hr (Nat.lt_trans hab hbk) hk
  unfold lev at ea eb ek
  unfold sd chord
  refine Rat.not_le.mp fun z => ?_
  have z' : wo ss b - 2 * β ≤ (wo ss a * ((mo ss k : Rat) - (mo ss b : Rat)) + wo ss k * ((mo ss b : Rat) - (mo ss a : Rat))) / ((mo ss k : Rat) - (mo ss a : Rat)) := by grind
  rw [rle_div d3] at z'
  have l : wo ss k < T * (mo ss k : Rat) + f - β := by grind
  have := Rat.mul_lt_mul_of_pos_right l d1
  have e1 : wo ss a = T * (mo ss a : Rat) + f - β := by grind
  have e2 : wo ss b = T * (mo ss b : Rat) + f + β := by grind
  rw [e1, e2] at z'
  grind
theorem sd_lo {ss : List En} {T f β : Rat} {a b k : Nat} (hr : rising ss) (hab : a < b) (hbk : b < k) (hk : k < ss.length) (ea : lev ss T a - β = f) (eb : lev ss T b + β = f) (ek : f < lev ss T k - β) : sd ss a b k < -(2 * β) := by
  have d1 := mo_pos hr hab (by omega)
  have d2 := mo_pos hr hbk hk
  have d3 := mo_pos hr (Nat.lt_trans hab hbk) hk
  unfold lev at ea eb ek
  unfold sd chord
  refine Rat.not_le.mp fun z => ?_
  have z' : (wo ss a * ((mo ss k : Rat) - (mo ss b : Rat)) + wo ss k * ((mo ss b : Rat) - (mo ss a : Rat))) / ((mo ss k : Rat) - (mo ss a : Rat)) ≤ wo ss b + 2 * β := by grind
  rw [rdiv_le d3] at z'
  have l : T * (mo ss k : Rat) + f + β < wo ss k := by grind
  have := Rat.mul_lt_mul_of_pos_right l d1
  have e1 : wo ss a = T * (mo ss a : Rat) + f + β := by grind
  have e2 : wo ss b = T * (mo ss b : Rat) + f - β := by grind
  rw [e1, e2] at z'
  grind
section
variable {P : Program} {w : World} {K : PySem.W.Frag} {mg : Str → Option Value} {base : Heap} {f : Addr} {fd : FuncData}
end

noncomputable def Each2 {α β : Type} (R : α → β → Prop) : List α → List β → Prop
  | [], [] => True
  | a :: as, b :: bs => R a b ∧ Each2 R as bs
  | _, _ => False
theorem each2_snoc {α β : Type} {R : α → β → Prop} {a : α} {b : β} : ∀ {as : List α} {bs : List β}, Each2 R as bs → R a b → Each2 R (as ++ [a]) (bs ++ [b])
  | [], [], _, r => ⟨r, trivial⟩
  | _ :: _, _ :: _, h, r => ⟨h.1, each2_snoc h.2 r⟩
  | [], _ :: _, h, _ => h.elim
  | _ :: _, [], h, _ => h.elim
theorem each2_imp {α β : Type} {R S : α → β → Prop} : ∀ {as : List α} {bs : List β}, (∀ a b, a ∈ as → R a b → S a b) → Each2 R as bs → Each2 S as bs
  | [], [], _, _ => trivial
  | _ :: _, _ :: _, u, r => ⟨u _ _ (by simp) r.1, each2_imp (fun a b ha => u a b (by simp [ha])) r.2⟩
  | [], _ :: _, _, r => r.elim
  | _ :: _, [], _, r => r.elim
theorem parts_own {α : Type} {s : α → Bool} {es : List α} : ∀ (i : Nat) (r : List α), r ∈ parts s es i → r ≠ [] ∧ (∀ x ∈ r, s x = true) ∧ r.Sublist (es.take i)
  | 0, r, h => absurd h (by simp [parts])
  | i + 1, r, h => by
    have ih := parts_own (s := s) (es := es) i
    have up : ∀ r : List α, r.Sublist (es.take i) → r.Sublist (es.take (i + 1)) := fun r q => q.trans (List.take_sublist_take_left (Nat.le_succ _))
    unfold parts at h
    cases e : es[i]? with
    | none => rw [e] at h; exact ⟨(ih r h).1, (ih r h).2.1, up r (ih r h).2.2⟩
    | some y =>
      rw [e] at h
      have tk : es.take (i + 1) = es.take i ++ [y] := by rw [List.take_add_one, e]; rfl
      dsimp only at h
      split at h
      · rename_i hs
        split at h
        · rename_i hr
          obtain ⟨t, r', hp⟩ := parts_ne hr
          have hm : r' ∈ parts s es i := by rw [hp]; simp
          have hgl : (parts s es i).getLast?.getD [] = r' := by rw [hp]; simp
          rcases List.mem_append.mp h with z | z
          · have q := ih r (List.dropLast_sublist _ |>.subset z)
            exact ⟨q.1, q.2.1, up r q.2.2⟩
          · obtain rfl : r = ((parts s es i).getLast?.getD []) ++ [y] := by simpa using z
            rw [hgl]
            refine ⟨by simp, fun x hx => ?_, by rw [tk]; exact List.Sublist.append (ih r' hm).2.2 (List.Sublist.refl _)⟩
            rcases List.mem_append.mp hx with q | q
            · exact (ih r' hm).2.1 x q
            · obtain rfl : x = y := by simpa using q
              exact hs
        · rcases List.mem_append.mp h with z | z
          · exact ⟨(ih r z).1, (ih r z).2.1, up r (ih r z).2.2⟩
          · obtain rfl : r = [y] := by simpa using z
            refine ⟨by simp, fun x hx => ?_, by rw [tk]; exact List.sublist_append_right _ _⟩
            obtain rfl : x = y := by simpa using hx
            exact hs
      · exact ⟨(ih r h).1, (ih r h).2.1, up r (ih r h).2.2⟩
noncomputable abbrev Pc := Addr × (Rat × Rat × Rat × Rat)
noncomputable def PcAt (H : Hp) (x : Pc) (n : Nat) : Prop := ∃ a b c d : Addr, H x.1 = some (.tup [.ref a, .ref b, .ref c, .ref d]) ∧ FrAt H a x.2.1 n ∧ FrAt H b x.2.2.1 n ∧ FrAt H c x.2.2.2.1 n ∧ FrAt H d x.2.2.2.2 n
theorem PcAt.mv {H H' : Hp} {x : Pc} {n : Nat} (t : ∀ {b : Addr} {xs : List V}, H b = some (.tup xs) → H' b = some (.tup xs)) (f : PcAt H x n) : PcAt H' x n := by
  obtain ⟨a, b, c, d, e, f1, f2, f3, f4⟩ := f
  have m : ∀ {b : Addr} {q : Rat}, FrAt H b q n → FrAt H' b q n := fun f => let ⟨x, d, e, f⟩ := f; ⟨x, d, t e, f⟩
  exact ⟨a, b, c, d, t e, m f1, m f2, m f3, m f4⟩
theorem PcAt.up {H H' : Hp} {x : Pc} {n : Nat} (f : PcAt H x n) (s : Same H H') : PcAt H' x n := f.mv fun e => s _ _ e
noncomputable def prefs (ps : List Pc) : List V := ps.map fun x => V.ref x.1
noncomputable def AllP (H : Hp) (ps : List Pc) (n : Nat) : Prop := ∀ x ∈ ps, PcAt H x n
theorem AllP.up {H H' : Hp} {ps : List Pc} {n : Nat} (h : AllP H ps n) (s : Same H H') : AllP H' ps n := fun x hx => (h x hx).up s
inductive Tr (es : List En) (β : Rat) : Nat → Nat → Nat → List (Rat × Rat) → List (Bool × Nat × Nat × Nat) → Prop where
  | nil : Tr es β 0 0 0 [] []
  | stay {k fl ro : Nat} {ls : List (Rat × Rat)} {ts : List (Bool × Nat × Nat × Nat)} {g s g' s' : Option Rat} (h : Tr es β k fl ro ls ts) (hk : k < es.length) (hP : BdP (es.take k) fl ro β g s) (hP' : BdP (es.take (k + 1)) fl ro β g' s') (hN : NoTurn (es.take k) β fl ro g s (mo es k) (wo es k)) : Tr es β (k + 1) fl ro ls ts
  | cap {k fl ro a b : Nat} {ls : List (Rat × Rat)} {ts : List (Bool × Nat × Nat × Nat)} {s : Option Rat} {G f : Rat} (h : Tr es β k fl ro ls ts) (hk : k < es.length) (hP : BdP (es.take k) fl ro β (some G) s) (hC : CapAt (es.take k) β fl ro (mo es k) (wo es k) G f a b) : Tr es β (k + 1) b k (ls ++ [(G, f)]) (ts ++ [(true, a, b, k)])
  | cup {k fl ro a b : Nat} {ls : List (Rat × Rat)} {ts : List (Bool × Nat × Nat × Nat)} {g : Option Rat} {S f : Rat} (h : Tr es β k fl ro ls ts) (hk : k < es.length) (hP : BdP (es.take k) fl ro β g (some S)) (hn : ¬ ∃ G, g = some G ∧ ∃ i, fl ≤ i ∧ i < (es.take k).length ∧ wo es k - G * (mo es k : Rat) + 2 * β < lev (es.take k) G i) (hC : CupAt (es.take k) β fl ro (mo es k) (wo es k) S f a b) : Tr es β (k + 1) k b (ls ++ [(S, f)]) (ts ++ [(false, a, b, k)])
noncomputable abbrev Ln := Addr × Rat × Rat
noncomputable def lnv (ls : List Ln) : List V := ls.map fun x => V.ref x.1
noncomputable def AllL (H : Hp) (ls : List Ln) (n : Nat) : Prop := ∀ x ∈ ls, LnAt H x.1 x.2.1 x.2.2 n
noncomputable abbrev Th := Addr × (Bool × Nat × Nat × Nat)
noncomputable def ThrAt (H : Hp) (es : List En) (x : Th) : Prop := H x.1 = some (.tup [.int (mo es x.2.2.1), .int (mo es x.2.2.2.1), .int (mo es x.2.2.2.2)])
theorem AllL.tv {H H' : Hp} {ls : List Ln} {n : Nat} (t : ∀ {b : Addr} {xs : List V}, H b = some (.tup xs) → H' b = some (.tup xs)) (h : AllL H ls n) : AllL H' ls n := fun x hx => (h x hx).tv t
theorem AllL.snoc {H : Hp} {ls : List Ln} {x : Ln} {n : Nat} (h : AllL H ls n) (hx : LnAt H x.1 x.2.1 x.2.2 n) : AllL H (ls ++ [x]) n := fun y hy => by
  rcases List.mem_append.mp hy with z | z
  · exact h y z
  · obtain rfl : y = x := by simpa using z
    exact hx
theorem tup_app {H : Hp} {L : Addr} {ys zs : List V} (e : H L = some (.lst ys)) {b : Addr} {xs : List V} (h : H b = some (.tup xs)) : upd H L (.lst zs) b = some (.tup xs) := by
  rw [upd_ne (fun q => by rw [q, e] at h; cases h)]
  exact h
theorem BdOk.app {C : Addr} {H : Hp} {p Lb La L : Addr} {ss : List En} {fl ro : Nat} {β : Rat} {n nb : Nat} {g s : Option Rat} {ys zs : List V} (h : BdOk C H p Lb La ss fl ro β n nb g s) (e : H L = some (.lst ys)) (n1 : L ≠ Lb) (n2 : L ≠ La) : BdOk C (upd H L (.lst zs)) p Lb La ss fl ro β n nb g s := by
  obtain ⟨dx, bd, tw, fs, gv, sv, h⟩ := h
  exact ⟨dx, bd, tw, fs, gv, sv, h.mv (fun {b xs} z => tup_app e z) (upd_ne (fun q => by have := h.at_; rw [q, e] at this; cases this)) (upd_ne (Ne.symm n1)) (upd_ne (Ne.symm n2))⟩
theorem BdOk.ats {C : Addr} {H : Hp} {p Lb La : Addr} {ss : List En} {fl ro : Nat} {β : Rat} {n nb : Nat} {g s : Option Rat} (h : BdOk C H p Lb La ss fl ro β n nb g s) : (∃ dx fs, H p = some (.ins C dx fs) ∧ (fs.lookup ("take" : Str) = none ∧ fs.lookup ("line_now" : Str) = none)) ∧ (∃ ys, H Lb = some (.lst ys)) ∧ (∃ ys, H La = some (.lst ys)) ∧ BdP ss fl ro β g s :=
  let ⟨_, _, _, _, _, _, h⟩ := h; ⟨⟨_, _, h.at_, h.F.meth "take", h.F.meth "line_now"⟩, ⟨_, h.eb⟩, ⟨_, h.ea⟩, h.P⟩
theorem take_snoc {es : List En} {j : Nat} {x : En} (hS : AllS es) (gx : es[j]? = some x) : es.take (j + 1) = es.take j ++ [(x.1, mo es j, some (wo es j))] := by
  have xe : x = (x.1, mo es j, some (wo es j)) := by
    have := hS x (List.mem_of_getElem? gx)
    obtain ⟨ax, mx, vx⟩ := x
    unfold mo wo
    rw [gx]
    cases vx with
    | none => cases this
    | some q => rfl
  rw [← xe, List.take_succ, gx]
  rfl
theorem mo_take {es : List En} {j i : Nat} (h : i < j) : mo (es.take j) i = mo es i := by unfold mo; rw [List.getElem?_take, if_pos h]
theorem wo_take {es : List En} {j i : Nat} (h : i < j) : wo (es.take j) i = wo es i := by unfold wo; rw [List.getElem?_take, if_pos h]
theorem lev_take {es : List En} {T : Rat} {j i : Nat} (h : i < j) : lev (es.take j) T i = lev es T i := by unfold lev; rw [mo_take h, wo_take h]
noncomputable def spLinks (C : Addr) : Sp := fun vs H Q _ => ∃ (l pb : Addr) (es : List En) (β : Rat) (n nb : Nat), vs = [.ref l, .ref pb] ∧ H l = some (.lst (vals es)) ∧ Row H es n ∧ AllS es ∧ rising es ∧ 0 < es.length ∧ es.length ≤ 800 ∧ FrAt H pb β nb ∧ 0 ≤ β ∧ 1 ≤ n ∧ n ≤ 1500 ∧ (5 * n + 4 * nb ≤ 7900 ∧ nb ≤ 1000) ∧
  ∀ (y Ll Lt : Addr) (ls : List Ln) (ths : List Th) (ks : List (Rat × Rat)) (fl ro : Nat) (g s : Option Rat) (T f : Rat) (H' : Hp), Same H H' → H' y = some (.tup [.ref Ll, .ref Lt]) → H Ll = none → H Lt = none → H' Ll = some (.lst (lnv ls)) → AllL H' ls (5 * n + 3 * nb + 7) → ls.map (·.2) = ks ++ [(T, f)] → H' Lt = some (.lst (ths.map fun x => V.ref x.1)) → (∀ x ∈ ths, ThrAt H' es x) → Tr es β es.length fl ro ks (ths.map (·.2)) → BdP es fl ro β g s → NowAt es β fl g s T f → ks.length ≤ es.length → ths.length ≤ es.length → Q (.ref y) H'
section
variable {P : Program} {w : World} {K : PySem.W.Frag} {mg : Str → Option Value} {base : Heap} {f c_Bend : Addr} {fd : FuncData}
theorem sc_links_of : FnScope ["run", "bound", "bend", "links", "threes", "sample", "ended"] ["run", "bound"] (defScope s_links_of) := ⟨rfl, rfl, rfl, by decide +kernel, rfl, by decide +kernel, by decide +kernel⟩
theorem ok_links_of (F : Fun K "links_of" "links_of" s_links_of f fd) (T : Txt mg) (K_Bend : Cl K mg "Bend" c_Bend ["bound", "twice", "below", "above", "gentlest", "steepest"]) (D_Bend : Dk P w K mg base 6 "Bend" c_Bend ["self", "bound"] (spBInit c_Bend)) (D_Bend_take : Dm P w K mg base 7 c_Bend "take" ["self", "sample"] (spTake c_Bend)) (D_Bend_line_now : Dm P w K mg base 6 c_Bend "line_now" ["self"] (spNow c_Bend)) : FnOk P w K mg base CX0 8 f fd ["run", "bound"] (spLinks c_Bend) := by
  refine F.ok sc_links_of (fun vs H Q E h => ?_) (fun cdv A outer s H vs Q E hr h => ?_)
  · obtain ⟨l, pb, es, β, n, nb, rfl, _⟩ := h
    rfl
  obtain ⟨l, pb, es, β, n, nb, rfl, hl, hR, hS, hri, h0, h800, hb, hβ, h1, hn, hnb, k⟩ := h
  refine J.l ⟨_, (J.f (J.i (i := 2) sc_links_of.nd rfl (Or.inl rfl) (Jd.pe_dk D_Bend (hr.mono (by decide)) rfl (J.b (J.a 1) J.d st_N) (he := st_N) (hpl := any0)) (hs := sw_K))
      (J.f (J.i (i := 3) sc_links_of.nd rfl (Or.inl rfl) (J.t J.d) (hs := sw_L))
      (J.f (J.i (i := 4) sc_links_of.nd rfl (Or.inl rfl) (J.t J.d) (hs := sw_L))
      (J.f (J.y PassesOwn.never rfl (Jd.piL K (J.a 0)) (J.r (i := 5) sc_links_of.nd rfl (Or.inl rfl))
      (J.f (J.i (i := 6) sc_links_of.nd rfl (Or.inl rfl) (Jd.pe_dm D_Bend_take K_Bend.cl (hr.mono (by decide)) (J.a 2) (J.b (J.a 5) J.d st_N) (he := st_N) (hpl := any0)) (hs := sw_K))
      (J.h (J.o (J.m op_notN (J.a 6) J.v (nomark _))
      (J.f (J.u (J.w K (J.a 3) (J.e (ixT K) (J.a 6) J.c (fun _ _ => rfl))) (hs := sw_K))
      (J.h (J.u (J.w K (J.a 4) (J.e (ixT K) (J.a 6) J.c (fun _ _ => rfl))) (hs := sw_K))))
      J.q))))
      (J.f (J.u (J.w K (J.a 3) (Jd.pe_dm0 D_Bend_line_now K_Bend.cl (hr.mono (by decide)) (J.a 2))) (hs := sw_K))
      (J.h (J.k (J.n (J.b (J.a 3) (J.b (J.a 4) J.d st_N) st_N))))))))), ?_⟩
  walk_at "v"
  intro p dx np ndx nedx
  have hp7 : upd (upd H dx (.own p)) p (.ins c_Bend dx []) p = some (.ins c_Bend dx []) := upd_same
  have s7 : Same H (upd (upd H dx (.own p)) p (.ins c_Bend dx [])) := fun b' o e => by
    rw [upd_ne (ne_of_none e np), upd_ne (ne_of_none e ndx)]
    exact e
  generalize upd (upd H dx (.own p)) p (.ins c_Bend dx []) = H7 at *
  refine ⟨p, dx, pb, β, nb, rfl, hp7, hb.up s7, by walk_at "o", fun Lb La H8 kk s8 nb8 na8 hB8 => ⟨rfl, ?_⟩⟩
  have s08 : Same H H8 := fun b' o e => s8 _ _ (by rw [rm_at (ne_of_none e np)]; exact s7 _ _ e)
  have nb0 : H Lb = none := s7.free nb8
  have na0 : H La = none := s7.free na8
  have hB0 : BdOk c_Bend H8 p Lb La [] 0 0 β n nb none none := hB8.fresh
  walk_at "v"
  refine r_new (mk := .lst) (by simp) fun Ll H9 s9 n9 e9 => ?_
  walk_at "v"
  refine r_new (mk := .lst) (by simp) fun Lt H10 s10 n10 e10 => ?_
  have s810 := s9.trans s10
  have s010 := s08.trans s810
  have nl0 : H Ll = none := s08.free n9
  have nt0 : H Lt = none := (s08.trans s9).free n10
  have nlt : Ll ≠ Lt := fun z => by rw [← z, e9] at n10; cases n10
  obtain ⟨_, ⟨_, eb0⟩, ⟨_, ea0⟩, _⟩ := hB0.ats
  walk_at "v"
  refine r_for (r_iL ?_)
  walk_at "v"
  refine ⟨l, rfl, ⟨_, SqL.of (s010 _ _ hl)⟩, for_list (xs := vals es) (fun i σ H3 => ∃ (v5 v6 : Option V) (Lb La : Addr) (fl ro : Nat) (g s : Option Rat) (ls : List Ln) (ths : List Th), σ = [some (.ref l), some (.ref pb), some (.ref p), some (.ref Ll), some (.ref Lt), v5, v6] ∧ Same H H3 ∧ H Lb = none ∧ H La = none ∧ Ll ≠ Lb ∧ Ll ≠ La ∧ Lt ≠ Lb ∧ Lt ≠ La ∧ BdOk c_Bend H3 p Lb La (es.take i) fl ro β n nb g s ∧ H3 Ll = some (.lst (lnv ls)) ∧ H3 Lt = some (.lst (ths.map fun x => V.ref x.1)) ∧ AllL H3 ls (5 * n + 3 * nb + 7) ∧ (∀ x ∈ ths, ThrAt H3 es x) ∧ Tr es β i fl ro (ls.map (·.2)) (ths.map (·.2)) ∧ ls.length ≤ i ∧ ths.length ≤ i) ?_ ?_ ?_ ?_⟩
  · refine ⟨none, none, Lb, La, 0, 0, none, none, [], [], rfl, s010, nb0, na0, fun z => ?_, fun z => ?_, fun z => ?_, fun z => ?_, hB0.up s810, s10 _ _ e9, e10, fun x hx => absurd hx (by simp), fun x hx => absurd hx (by simp), .nil, Nat.le_refl _, Nat.le_refl _⟩
    · rw [z, eb0] at n9; cases n9
    · rw [z, ea0] at n9; cases n9
    · rw [z, s9 _ _ eb0] at n10; cases n10
    · rw [z, s9 _ _ ea0] at n10; cases n10
  · rintro i σ H3 _ ⟨v5, v6, Lb, La, fl, ro, g, s, ls, ths, rfl, s3, _⟩
    exact SqL.of (s3 _ _ hl)
  · rintro i v σ H3 hv ⟨v5, v6, Lb, La, fl, ro, g, s, ls, ths, rfl, s3, nb3, na3, q1, q2, q3, q4, hB3, el3, et3, hL3, hT3, hTr, ll, lt⟩
    obtain ⟨x, gx, rfl⟩ := vals_at hv
    have hi : i < es.length := (List.getElem?_eq_some_iff.mp gx).1
    obtain ⟨x', gx', fx⟩ := sa_at (hR.up s3) hS hi
    rw [gx] at gx'
    cases gx'
    have tl : (es.take i).length = i := by rw [List.length_take]; walk_at "o"
    have tk := take_snoc hS gx
    obtain ⟨⟨dx3, fs3, ep3, mt3, _⟩, ⟨_, eb3⟩, ⟨_, ea3⟩, hP3⟩ := hB3.ats
    have npl : Ll ≠ p := fun z => by rw [z, ep3] at el3; cases el3
    have npt : Lt ≠ p := fun z => by rw [z, ep3] at et3; cases et3
    have hm : ∀ c, c < (es.take i).length → mo (es.take i) c < mo es i := fun c hc => by
      rw [tl] at hc
      rw [mo_take hc]
      exact mo_lt hri hc hi
    refine body_cut fun M B RR hM hB hR' => ?_
    walk_at "v"
    refine r_m ep3 mt3 ?_
    walk_at "v"
    have tup : ∀ {H4 : Hp}, Same (rmB p Lb La H3) H4 → (∀ {b : Addr} {xs : List V}, H3 b = some (.tup xs) → H4 b = some (.tup xs)) ∧ Same H H4 ∧ H4 Ll = some (.lst (lnv ls)) ∧ H4 Lt = some (.lst (ths.map fun x => V.ref x.1)) := fun {H4} ks => by
      refine ⟨fun {b xs} e => ks _ _ ?_, keepB s3 np nb3 na3 ks, ks _ _ ?_, ks _ _ ?_⟩
      · rw [rmB_at (fun z => by rw [z, ep3] at e; cases e) (fun z => by rw [z, eb3] at e; cases e) (fun z => by rw [z, ea3] at e; cases e)]
        exact e
      · rw [rmB_at npl q1 q2]
        exact el3
      · rw [rmB_at npt q3 q4]
        exact et3
    refine ⟨p, Lb, La, x.1, es.take i, fl, ro, mo es i, wo es i, β, n, nb, g, s, rfl, hB3, fx, hm, by walk_at "o", h1, hn, hnb, hβ, fun g' s' H4 ks hN hB4 => ?_, fun r ln th Lb' La' G fo a b s2' H4 ks eg hC er fl4 eth hB4 n1 n2 => ?_, fun r ln th Lb' La' S fo a b g2' H4 ks es' hno hC er fl4 eth hB4 n1 n2 => ?_⟩
    · obtain ⟨tp, sH, eL4, eT4⟩ := tup ks
      walk_at "v"
      refine ⟨rfl, ?_⟩
      walk_at "v"
      refine iteF ?_
      walk_at "v"
      exact hM _ _ ⟨_, _, Lb, La, fl, ro, g', s', ls, ths, rfl, sH, nb3, na3, q1, q2, q3, q4, by rw [tk]; exact hB4, eL4, eT4, hL3.tv tp, fun x hx => tp (hT3 x hx), .stay hTr hi hP3 (by rw [tk]; exact hB4.ats.2.2.2) hN, by walk_at "o", by walk_at "o"⟩
    · subst eg
      obtain ⟨tp, sH, eL4, eT4⟩ := tup ks
      have hbl := hC.lb
      have hab := hC.hab
      rw [tl] at hbl
      walk_at "v"
      refine ⟨rfl, ?_⟩
      walk_at "v"
      refine iteT ?_
      walk_at "v"
      refine ⟨.inl ⟨rfl, _, SqL.of eL4⟩, ?_⟩
      walk_at "v"
      refine r_app eL4 (by unfold lnv; rw [List.length_map]; exact small1000 (by walk_at "o")) ?_
      have nl1 : Ll ≠ Lb' := fun z => by rw [← z, el3] at n1; cases n1
      have nl2 : Ll ≠ La' := fun z => by rw [← z, el3] at n2; cases n2
      have nt1 : Lt ≠ Lb' := fun z => by rw [← z, et3] at n1; cases n1
      have nt2 : Lt ≠ La' := fun z => by rw [← z, et3] at n2; cases n2
      have hB5 := hB4.app (zs := lnv ls ++ [.ref ln]) eL4 nl1 nl2
      have tp5 : ∀ {b : Addr} {xs : List V}, H4 b = some (.tup xs) → upd H4 Ll (.lst (lnv ls ++ [.ref ln])) b = some (.tup xs) := fun e => tup_app eL4 e
      have eL5 : upd H4 Ll (.lst (lnv ls ++ [.ref ln])) Ll = some (.lst (lnv (ls ++ [(ln, G, fo)]))) := by rw [upd_same]; simp [lnv]
      have eT5 : upd H4 Ll (.lst (lnv ls ++ [.ref ln])) Lt = some (.lst (ths.map fun x => V.ref x.1)) := by rw [upd_ne (Ne.symm nlt)]; exact eT4
      have sH5 : Same H (upd H4 Ll (.lst (lnv ls ++ [.ref ln]))) := same_at sH nl0
      have er5 := tp5 er
      generalize upd H4 Ll (.lst (lnv ls ++ [.ref ln])) = H5 at *
      walk_at "v"
      refine ⟨.inl ⟨rfl, _, SqL.of eT5⟩, ?_⟩
      walk_at "v"
      refine r_app eT5 (by rw [List.length_map]; exact small1000 (by walk_at "o")) ?_
      have tp6 : ∀ {b : Addr} {xs : List V}, H5 b = some (.tup xs) → upd H5 Lt (.lst ((ths.map fun x => V.ref x.1) ++ [.ref th])) b = some (.tup xs) := fun e => tup_app eT5 e
      refine hM _ _ ⟨_, _, Lb', La', b, (es.take i).length, none, s2', ls ++ [(ln, G, fo)], ths ++ [(th, (true, a, b, i))], rfl, same_at sH5 nt0, s3.free n1, s3.free n2, nl1, nl2, nt1, nt2, by rw [tk]; exact hB5.app eT5 nt1 nt2, by rw [upd_ne nlt]; exact eL5, by rw [upd_same]; simp, ?_, fun z hz => ?_, ?_, by rw [List.length_append]; show _ + 1 ≤ i + 1; walk_at "o", by rw [List.length_append]; show _ + 1 ≤ i + 1; walk_at "o"⟩
      · exact (((hL3.tv tp).snoc fl4).tv tp5).tv tp6
      · rcases List.mem_append.mp hz with z | z
        · exact tp6 (tp5 (tp (hT3 _ z)))
        · obtain rfl : _ = (th, (true, a, b, i)) := by simpa using z
          refine tp6 (tp5 ?_)
          show H4 th = _
          rw [eth, mo_take (show a < i by walk_at "o"), mo_take hbl]
      · rw [tl, List.map_append, List.map_append]
        exact .cap hTr hi hP3 hC
    · subst es'
      obtain ⟨tp, sH, eL4, eT4⟩ := tup ks
      have hbl := hC.lb
      have hab := hC.hab
      rw [tl] at hbl
      walk_at "v"
      refine ⟨rfl, ?_⟩
      walk_at "v"
      refine iteT ?_
      walk_at "v"
      refine ⟨.inl ⟨rfl, _, SqL.of eL4⟩, ?_⟩
      walk_at "v"
      refine r_app eL4 (by unfold lnv; rw [List.length_map]; exact small1000 (by walk_at "o")) ?_
      have nl1 : Ll ≠ Lb' := fun z => by rw [← z, el3] at n1; cases n1
      have nl2 : Ll ≠ La' := fun z => by rw [← z, el3] at n2; cases n2
      have nt1 : Lt ≠ Lb' := fun z => by rw [← z, et3] at n1; cases n1
      have nt2 : Lt ≠ La' := fun z => by rw [← z, et3] at n2; cases n2
      have hB5 := hB4.app (zs := lnv ls ++ [.ref ln]) eL4 nl1 nl2
      have tp5 : ∀ {b : Addr} {xs : List V}, H4 b = some (.tup xs) → upd H4 Ll (.lst (lnv ls ++ [.ref ln])) b = some (.tup xs) := fun e => tup_app eL4 e
      have eL5 : upd H4 Ll (.lst (lnv ls ++ [.ref ln])) Ll = some (.lst (lnv (ls ++ [(ln, S, fo)]))) := by rw [upd_same]; simp [lnv]
      have eT5 : upd H4 Ll (.lst (lnv ls ++ [.ref ln])) Lt = some (.lst (ths.map fun x => V.ref x.1)) := by rw [upd_ne (Ne.symm nlt)]; exact eT4
      have sH5 : Same H (upd H4 Ll (.lst (lnv ls ++ [.ref ln]))) := same_at sH nl0
      have er5 := tp5 er
      generalize upd H4 Ll (.lst (lnv ls ++ [.ref ln])) = H5 at *
      walk_at "v"
      refine ⟨.inl ⟨rfl, _, SqL.of eT5⟩, ?_⟩
      walk_at "v"
      refine r_app eT5 (by rw [List.length_map]; exact small1000 (by walk_at "o")) ?_
      have tp6 : ∀ {b : Addr} {xs : List V}, H5 b = some (.tup xs) → upd H5 Lt (.lst ((ths.map fun x => V.ref x.1) ++ [.ref th])) b = some (.tup xs) := fun e => tup_app eT5 e
      refine hM _ _ ⟨_, _, Lb', La', (es.take i).length, b, g2', none, ls ++ [(ln, S, fo)], ths ++ [(th, (false, a, b, i))], rfl, same_at sH5 nt0, s3.free n1, s3.free n2, nl1, nl2, nt1, nt2, by rw [tk]; exact hB5.app eT5 nt1 nt2, by rw [upd_ne nlt]; exact eL5, by rw [upd_same]; simp, ?_, fun z hz => ?_, ?_, by rw [List.length_append]; show _ + 1 ≤ i + 1; walk_at "o", by rw [List.length_append]; show _ + 1 ≤ i + 1; walk_at "o"⟩
      · exact (((hL3.tv tp).snoc fl4).tv tp5).tv tp6
      · rcases List.mem_append.mp hz with z | z
        · exact tp6 (tp5 (tp (hT3 _ z)))
        · obtain rfl : _ = (th, (false, a, b, i)) := by simpa using z
          refine tp6 (tp5 ?_)
          show H4 th = _
          rw [eth, mo_take (show a < i by walk_at "o"), mo_take hbl]
      · rw [tl, List.map_append, List.map_append]
        exact .cup hTr hi hP3 hno hC
  · rintro σ H3 ⟨v5, v6, Lb, La, fl, ro, g, s, ls, ths, rfl, s3, nb3, na3, q1, q2, q3, q4, hB3, el3, et3, hL3, hT3, hTr, ll, lt⟩
    rw [vals_len] at *
    rw [List.take_length] at hB3
    obtain ⟨⟨dx3, fs3, ep3, _, mn3⟩, _, _, hP3⟩ := hB3.ats
    walk_at "v"
    refine ⟨.inl ⟨rfl, _, SqL.of el3⟩, ?_⟩
    walk_at "v"
    refine r_m ep3 mn3 ?_
    walk_at "v"
    refine ⟨p, Lb, La, es, fl, ro, β, n, nb, g, s, rfl, hB3, by walk_at "o", h1, hn, hnb, fun z => absurd h0 (by rw [z]; decide), fun _ ln TT fo H4 s4 f4 hNow => ?_⟩
    have el4 := s4 _ _ el3
    walk_at "v"
    refine r_app el4 (by unfold lnv; rw [List.length_map]; exact small1000 (by walk_at "o")) ?_
    walk_at "v"
    have tp5 : ∀ {b : Addr} {xs : List V}, H4 b = some (.tup xs) → upd H4 Ll (.lst (lnv ls ++ [.ref ln])) b = some (.tup xs) := fun e => tup_app el4 e
    refine r_new (mk := .tup) (by simp) fun y H6 s6 n6 e6 => ?_
    refine k y Ll Lt (ls ++ [(ln, TT, fo)]) ths (ls.map (·.2)) fl ro g s TT fo H6 (fun b o e => s6 _ _ (same_at (s3.trans s4) nl0 _ _ e)) e6 nl0 nt0 (s6 _ _ ?_) (AllL.tv (fun {b xs} e => s6 _ _ e) (((hL3.tv fun {b xs} e => s4 _ _ e).snoc f4).tv tp5)) (by simp) (s6 _ _ ?_) (fun x hx => s6 _ _ (tp5 (s4 _ _ (hT3 x hx)))) hTr hP3 hNow (by rw [List.length_map]; exact ll) lt
    · rw [upd_same]; simp [lnv]
    · rw [upd_ne (Ne.symm nlt)]; exact s4 _ _ et3
end

noncomputable def lsl (ks : List (Rat × Rat)) (i : Nat) : Rat := ((ks[i]?).map (·.1)).getD 0
noncomputable def lhl (ks : List (Rat × Rat)) (i : Nat) : Rat := ((ks[i]?).map (·.2)).getD 0
noncomputable def xAt (ks : List (Rat × Rat)) (i : Nat) : Rat := (lhl ks (i + 1) - lhl ks i) / (lsl ks i - lsl ks (i + 1))
noncomputable def ptOf (ks : List (Rat × Rat)) (t0 t1 : Int) (i : Nat) : Rat × Rat :=
  if i = 0 then ((t0 : Rat), lsl ks 0 * (t0 : Rat) + lhl ks 0) else if i < ks.length then (xAt ks (i - 1), lsl ks (i - 1) * xAt ks (i - 1) + lhl ks (i - 1)) else ((t1 : Rat), lsl ks (ks.length - 1) * (t1 : Rat) + lhl ks (ks.length - 1))
noncomputable def pcOf (ks : List (Rat × Rat)) (t0 t1 : Int) (i : Nat) : Rat × Rat × Rat × Rat := ((ptOf ks t0 t1 i).1, (ptOf ks t0 t1 i).2, (ptOf ks t0 t1 (i + 1)).1, (ptOf ks t0 t1 (i + 1)).2)
theorem lnv_len (ls : List Ln) : (lnv ls).length = ls.length := List.length_map ..
theorem lnv_at {ls : List Ln} {i : Nat} {v : V} (h : (lnv ls)[i]? = some v) : ∃ x, ls[i]? = some x ∧ v = .ref x.1 := by
  unfold lnv at h
  rw [List.getElem?_map] at h
  cases e : ls[i]? with
  | none => rw [e] at h; cases h
  | some x => rw [e] at h; cases h; exact ⟨x, rfl, rfl⟩
theorem lnv_get {ls : List Ln} {i : Nat} {x : Ln} (h : ls[i]? = some x) : (lnv ls)[i]? = some (.ref x.1) := by
  unfold lnv
  rw [List.getElem?_map, h]
  rfl
theorem ls_at {ls : List Ln} {i : Nat} {x : Ln} (h : ls[i]? = some x) : lsl (ls.map (·.2)) i = x.2.1 ∧ lhl (ls.map (·.2)) i = x.2.2 := by
  unfold lsl lhl
  rw [List.getElem?_map, h]
  exact ⟨rfl, rfl⟩
theorem cutOne (xs : List V) : cutV xs (some 1) none = xs.drop 1 := by
  unfold cutV
  rw [show (1 : Int) = ((1 : Nat) : Int) from rfl, HT.sIx_nat, show HT.sIx xs.length xs.length none = xs.length from rfl]
  rcases Nat.le_total 1 xs.length with z | z
  · rw [Nat.min_eq_left z]
    exact List.take_of_length_le (by rw [List.length_drop]; exact Nat.le_refl _)
  · rw [Nat.min_eq_right z, List.drop_of_length_le z, List.drop_of_length_le (Nat.le_refl _)]
    simp
noncomputable def spPoint : Sp := fun vs H Q _ => ∃ (p : Addr) (T f : Rat) (t : Int) (n : Nat), vs = [.ref p, .int t] ∧ LnAt H p T f n ∧ Sz n t ∧ 1 ≤ n ∧ n ≤ 1300 ∧ ∀ (y : Addr) (H' : Hp), Same H H' → LnAt H' y (t : Rat) (T * (t : Rat) + f) (6 * n + 3) → Q (.ref y) H'
noncomputable def spAlong : Sp := fun vs H Q _ => ∃ (l : Addr) (ls : List Ln) (t0 t1 : Int) (n : Nat), vs = [.ref l, .int t0, .int t1] ∧ H l = some (.lst (lnv ls)) ∧ AllL H ls n ∧ 0 < ls.length ∧ ls.length ≤ 900 ∧ Sz n t0 ∧ Sz n t1 ∧ 1 ≤ n ∧ n ≤ 1300 ∧ (∀ i, i + 1 < ls.length → lsl (ls.map (·.2)) i ≠ lsl (ls.map (·.2)) (i + 1)) ∧
  ∀ (R : Addr) (ps : List Pc) (H' : Hp), Same H H' → H R = none → H' R = some (.lst (ps.map fun x => V.ref x.1)) → AllP H' ps (6 * n + 3) → ps.map (·.2) = (List.range ls.length).map (pcOf (ls.map (·.2)) t0 t1) → Q (.ref R) H'
section
variable {P : Program} {w : World} {K : PySem.W.Frag} {mg : Str → Option Value} {base : Heap} {f c_Bend : Addr} {fd : FuncData}
theorem sc_point_on : FnScope ["line", "moment"] ["line", "moment"] (defScope s_point_on) := ⟨rfl, rfl, rfl, by decide +kernel, rfl, by decide +kernel, by decide +kernel⟩
theorem ok_point_on (F : Fun K "point_on" "point_on" s_point_on f fd) (D_height : Dn P w K mg base 5 "height" ["line", "when"] spHeight) : FnOk P w K mg base CX0 6 f fd ["line", "moment"] spPoint := by
  refine F.ok sc_point_on (fun vs H Q E h => ?_) (fun cdv A outer s H vs Q E hr h => ?_)
  · obtain ⟨p, T, f, t, n, rfl, _⟩ := h
    rfl
  obtain ⟨p, TT, fo, t, n, rfl, hL, zt, h1, hn, k⟩ := h
  refine J.l ⟨_, (J.h (J.k (J.n (J.b (J.n (J.b (J.a 1) (J.b J.c J.d st_C) st_N)) (J.b (J.j D_height (hr.mono (by decide)) rfl (J.b (J.a 0) (J.b (J.n (J.b (J.a 1) (J.b J.c J.d st_C) st_N)) J.d st_T) st_N) (he := st_N) (hpl := (anyc st_T any0))) J.d st_K) st_T)))), ?_⟩
  walk_at "v"
  refine r_new (mk := .tup) (by simp) fun a H1 s1 n1 e1 => ?_
  have fa : FrAt H1 a (t : Rat) n := ⟨t, 1, e1, ⟨by decide, by simp, by grind⟩, zt, one_sz h1⟩
  walk_at "v"
  refine r_new (mk := .tup) (by simp) fun b H2 s2 n2 e2 => ?_
  walk_at "v"
  refine ⟨p, b, TT, fo, (t : Rat), n, n, rfl, hL.up2 (s1.trans s2), whole_at e2 zt h1, by walk_at "o", fun z H3 s3 f3 => ?_⟩
  walk_at "v"
  refine r_new (mk := .tup) (by simp) fun y H4 s4 n4 e4 => ?_
  exact k y H4 (s1.trans (s2.trans (s3.trans s4))) ⟨a, z, e4, (fa.up (s2.trans (s3.trans s4))).mono (by walk_at "o"), (f3.up s4).mono (by walk_at "o")⟩
theorem sc_pieces_along : FnScope ["links", "first", "last", "points"] ["links", "first", "last"] (defScope s_pieces_along) := ⟨rfl, rfl, rfl, by decide +kernel, rfl, by decide +kernel, by decide +kernel⟩
theorem ok_pieces_along (F : Fun K "pieces_along" "pieces_along" s_pieces_along f fd) (T : Txt mg) (D_point_on : Dn P w K mg base 6 "point_on" ["line", "moment"] spPoint) (D_meet : Dn P w K mg base 6 "meet" ["line", "other"] spMeet) : FnOk P w K mg base CX0 7 f fd ["links", "first", "last"] spAlong := by
  refine F.ok sc_pieces_along (fun vs H Q E h => ?_) (fun cdv A outer s H vs Q E hr h => ?_)
  · obtain ⟨l, ls, t0, t1, n, rfl, _⟩ := h
    rfl
  obtain ⟨l, ls, t0, t1, n, rfl, hl, hL, h0, h900, z0, z1, h1, hn, hne, k⟩ := h
  generalize hks : ls.map (·.2) = ks at *
  have hkl : ks.length = ls.length := by rw [← hks, List.length_map]
  have lat : ∀ {i : Nat} {x : Ln}, ls[i]? = some x → lsl ks i = x.2.1 ∧ lhl ks i = x.2.2 := fun {i x} h => by rw [← hks]; exact ls_at h
  obtain ⟨x0, g0⟩ : ∃ x, ls[0]? = some x := ⟨ls[0], List.getElem?_eq_getElem h0⟩
  obtain ⟨xl, gl⟩ : ∃ x, ls[ls.length - 1]? = some x := ⟨ls[ls.length - 1], List.getElem?_eq_getElem (by walk_at "o")⟩
  refine J.l ⟨_, (J.f (J.i (i := 3) sc_pieces_along.nd rfl (Or.inl rfl) (J.t (J.b (J.j D_point_on (hr.mono (by decide)) rfl (J.b (J.e (ixL K) (J.a 0) J.c (fun _ _ => rfl)) (J.b (J.a 1) J.d st_N) st_S) (he := st_S) (hpl := (anyc st_N any0))) J.d st_K)) (hs := sw_L))
      (J.f (J.u (Jd.extC K (J.a 3) (Jd.pe_comp (O := ["line", "behind"]) (N' := []) (cap := []) rfl (Jd.pi_zip K rfl T.zip_ (J.b (J.a 0) (J.b (Jd.pe_slice (slL K) (J.a 0) (Jd.po_some J.c) Jd.po_none) J.d st_S) st_N)) (fun _ _ _ _ _ => (Jd.pgT K (n := 2) rfl (J.aa (J.r (i := 0) (show List.Nodup [("line" : Str), ("behind" : Str)] by decide +kernel) rfl (Or.inl rfl)) (J.aa (J.r (i := 1) (show List.Nodup [("line" : Str), ("behind" : Str)] by decide +kernel) rfl (Or.inl rfl)) Jd.pgs_nil)))) (fun _ _ _ _ _ => Jd.pts_nil) (fun _ _ _ _ _ => (J.j D_meet (hr.mono (by decide)) rfl (J.b (J.a 0) (J.b (J.a 1) J.d st_N) st_N) (he := st_N) (hpl := (anyc st_N any0)))) rfl trivial rfl (by decide +kernel) rfl (by decide +kernel))) (hs := sw_K))
      (J.f (J.u (J.w K (J.a 3) (J.j D_point_on (hr.mono (by decide)) rfl (J.b (J.e (ixL K) (J.a 0) (J.z un_neg J.c) (fun _ _ => rfl)) (J.b (J.a 2) J.d st_N) st_S) (he := st_S) (hpl := (anyc st_N any0)))) (hs := sw_K))
      (J.h (J.k (Jd.pe_comp (O := ["start", "end"]) (N' := []) (cap := []) rfl (Jd.pi_zip K rfl T.zip_ (J.b (J.a 3) (J.b (Jd.pe_slice (slL K) (J.a 3) (Jd.po_some J.c) Jd.po_none) J.d st_S) st_N)) (fun _ _ _ _ _ => (Jd.pgT K (n := 2) rfl (J.aa (J.r (i := 0) (show List.Nodup [("start" : Str), ("end" : Str)] by decide +kernel) rfl (Or.inl rfl)) (J.aa (J.r (i := 1) (show List.Nodup [("start" : Str), ("end" : Str)] by decide +kernel) rfl (Or.inl rfl)) Jd.pgs_nil)))) (fun _ _ _ _ _ => Jd.pts_nil) (fun _ _ _ _ _ => (J.g (catT K) (J.a 0) (J.a 1))) rfl trivial rfl (by decide +kernel) rfl (by decide +kernel))))))), ?_⟩
  walk_at "v"
  refine r_l hl (atI_nat (j := 0) (lnv_get g0)) ?_
  walk_at "v"
  refine ⟨x0.1, x0.2.1, x0.2.2, t0, n, rfl, hL x0 (List.mem_of_getElem? g0), z0, h1, hn, fun y0 H1 s1 f1 => ?_⟩
  walk_at "v"
  refine r_new (mk := .lst) (by simp) fun PT H2 s2 n2 e2 => ?_
  have s02 := s1.trans s2
  have nPT : H PT = none := s1.free n2
  walk_at "v"
  refine ⟨.inl ⟨rfl, _, SqL.of e2⟩, ?_⟩
  walk_at "v"
  refine r_zip ?_
  walk_at "v"
  refine ⟨_, rfl, 1, rfl, l, _, rfl, SqL.of (s02 _ _ hl), fun P1 nP1 => ?_⟩
  rw [cutOne]
  have s3 : Same H2 (upd H2 P1 (.lst ((lnv ls).drop 1))) := same_at (Same.refl _) nP1
  have e3 : upd H2 P1 (.lst ((lnv ls).drop 1)) P1 = some (.lst ((lnv ls).drop 1)) := upd_same
  generalize upd H2 P1 (.lst ((lnv ls).drop 1)) = H3 at *
  have s03 := s02.trans s3
  walk_at "v"
  refine ⟨l, P1, _, _, rfl, SqL.of (s03 _ _ hl), SqL.of e3, ?_⟩
  refine compB_zip (N0' := ls.length - 1) (by rw [lnv_len]; walk_at "o") (by rw [List.length_drop, lnv_len]; walk_at "o") (.inr (by rw [List.length_drop, lnv_len]; walk_at "o")) (fun H9 s9 => ⟨SqL.of ((s03.trans s9) _ _ hl), SqL.of (s9 _ _ e3)⟩) (by walk_at "o") (fun c ys G => ∃ qs : List Ln, ys = lnv qs ∧ AllL G qs (6 * n + 3) ∧ qs.map (·.2) = (List.range c).map fun i => ptOf ks t0 t1 (i + 1)) ⟨[], rfl, fun x hx => absurd hx (by simp), rfl⟩ ?_ ?_
  · rintro D c v v' ys H9 H10 pp σ0 NN N0 hh0 hD eD s9 s10 epp hc hv hv' hy ⟨qs, rfl, hqs, hmap⟩ kY kN
    obtain ⟨x, gx, rfl⟩ := lnv_at hv
    rw [List.getElem?_drop, Nat.add_comm] at hv'
    obtain ⟨x', gx', rfl⟩ := lnv_at hv'
    have s010 := s03.trans (s9.trans s10)
    obtain ⟨l1, l2⟩ := lat gx
    obtain ⟨l3, l4⟩ := lat gx'
    have hc' : c + 1 < ls.length := (List.getElem?_eq_some_iff.mp gx').1
    have ne : x.2.1 ≠ x'.2.1 := by rw [← l1, ← l3]; exact hne c hc'
    refine r_own2 hh0 epp ?_
    walk_at "v"
    refine iteT ?_
    walk_at "v"
    refine ⟨x.1, x'.1, _, _, _, _, n, rfl, (hL x (List.mem_of_getElem? gx)).up2 s010, (hL x' (List.mem_of_getElem? gx')).up2 s010, h1, hn, fun z => absurd z ne, fun _ z a b H11 s11 e11 fa fb => ?_⟩
    have pe : ptOf ks t0 t1 (c + 1) = ((x'.2.2 - x.2.2) / (x.2.1 - x'.2.1), x.2.1 * ((x'.2.2 - x.2.2) / (x.2.1 - x'.2.1)) + x.2.2) := by
      unfold ptOf xAt
      rw [if_neg (by omega), if_pos (by omega), Nat.add_sub_cancel, l1, l2, l3, l4]
    refine kY _ H11 s11 ⟨qs ++ [(z, ptOf ks t0 t1 (c + 1))], by simp [lnv], fun y hy' => ?_, ?_⟩
    · rcases List.mem_append.mp hy' with w | w
      · exact (hqs y w).tv fun {b xs} e => (rm_rm (s10.trans s11)) _ _ e
      · obtain rfl : y = (z, ptOf ks t0 t1 (c + 1)) := by simpa using w
        rw [pe]
        have ln : LnAt H11 z ((x'.2.2 - x.2.2) / (x.2.1 - x'.2.1)) (x.2.1 * ((x'.2.2 - x.2.2) / (x.2.1 - x'.2.1)) + x.2.2) (6 * n + 3) := ⟨a, b, e11, fa.mono (by walk_at "o"), fb⟩
        exact ln.tv fun {b xs} e => rm_tup ((s10.trans s11) _ _ eD) e
    · rw [List.map_append, hmap, List.range_succ, List.map_append]
      rfl
  rintro D ys H4 hD eD s4 hy ⟨qs, rfl, hqs, hmap⟩
  have s04 := s03.trans s4
  have e24 := (s3.trans s4) _ _ e2
  have f14 := f1.up2 (s2.trans (s3.trans s4))
  have hqs4 : AllL H4 qs (6 * n + 3) := hqs.tv fun {b xs} e => rm_same _ _ e
  have hql : qs.length = ls.length - 1 := by
    have := congrArg List.length hmap
    simpa using this
  walk_at "v"
  refine r_ext e24 eD (by rw [lnv_len]; exact Nat.le_of_lt (small1000 (by show 1 + qs.length ≤ 1000; walk_at "o"))) ?_
  have t5 : ∀ {b : Addr} {xs : List V}, H4 b = some (.tup xs) → upd H4 PT (.lst ([.ref y0] ++ lnv qs)) b = some (.tup xs) := fun e => tup_app e24 e
  have e5 : upd H4 PT (.lst ([.ref y0] ++ lnv qs)) PT = some (.lst (lnv ((y0, ptOf ks t0 t1 0) :: qs))) := by rw [upd_same]; rfl
  have s5 : Same H (upd H4 PT (.lst ([.ref y0] ++ lnv qs))) := same_at s04 nPT
  have p0 : ptOf ks t0 t1 0 = ((t0 : Rat), x0.2.1 * (t0 : Rat) + x0.2.2) := by
    unfold ptOf
    rw [if_pos rfl, (lat g0).1, (lat g0).2]
  have hA5 : AllL (upd H4 PT (.lst ([.ref y0] ++ lnv qs))) ((y0, ptOf ks t0 t1 0) :: qs) (6 * n + 3) := fun y hy' => by
    rcases List.mem_cons.mp hy' with w | w
    · subst w
      rw [p0]
      exact f14.tv t5
    · exact (hqs4 y w).tv t5
  generalize upd H4 PT (.lst ([.ref y0] ++ lnv qs)) = H5 at *
  walk_at "v"
  refine ⟨.inl ⟨rfl, _, SqL.of e5⟩, ?_⟩
  walk_at "v"
  refine r_l (s5 _ _ hl) (v := .ref xl.1) ?_ ?_
  · unfold atI
    rw [ix_last (m := ls.length - 1) (by rw [lnv_len]; walk_at "o")]
    exact lnv_get gl
  walk_at "v"
  refine ⟨xl.1, xl.2.1, xl.2.2, t1, n, rfl, (hL xl (List.mem_of_getElem? gl)).up2 s5, z1, h1, hn, fun yl H6 s6 f6 => ?_⟩
  have e6 := s6 _ _ e5
  walk_at "v"
  refine r_app e6 (by rw [lnv_len]; exact small1000 (by show qs.length + 1 ≤ 1000; walk_at "o")) ?_
  have pn : ptOf ks t0 t1 ls.length = ((t1 : Rat), xl.2.1 * (t1 : Rat) + xl.2.2) := by
    unfold ptOf
    rw [if_neg (by omega), if_neg (by omega), hkl, (lat gl).1, (lat gl).2]
  have t7 : ∀ {b : Addr} {xs : List V}, H6 b = some (.tup xs) → upd H6 PT (.lst (lnv ((y0, ptOf ks t0 t1 0) :: qs) ++ [.ref yl])) b = some (.tup xs) := fun e => tup_app e6 e
  have e7 : upd H6 PT (.lst (lnv ((y0, ptOf ks t0 t1 0) :: qs) ++ [.ref yl])) PT = some (.lst (lnv ((y0, ptOf ks t0 t1 0) :: qs ++ [(yl, ptOf ks t0 t1 ls.length)]))) := by rw [upd_same]; simp [lnv]
  have s7 : Same H (upd H6 PT (.lst (lnv ((y0, ptOf ks t0 t1 0) :: qs) ++ [.ref yl]))) := same_at (s5.trans s6) nPT
  have hA7 : AllL (upd H6 PT (.lst (lnv ((y0, ptOf ks t0 t1 0) :: qs) ++ [.ref yl]))) ((y0, ptOf ks t0 t1 0) :: qs ++ [(yl, ptOf ks t0 t1 ls.length)]) (6 * n + 3) := by
    refine AllL.snoc ((hA5.tv fun {b xs} e => s6 _ _ e).tv t7) ?_
    show LnAt _ yl _ _ _
    rw [pn]
    exact f6.tv t7
  have hm7 : ((y0, ptOf ks t0 t1 0) :: qs ++ [(yl, ptOf ks t0 t1 ls.length)]).map (·.2) = (List.range (ls.length + 1)).map (ptOf ks t0 t1) := by
    rw [List.map_append, List.map_cons, hmap, List.range_succ, List.map_append]
    congr 1
    rw [show ls.length = (ls.length - 1) + 1 by walk_at "o", List.range_succ_eq_map, List.map_cons, List.map_map, Nat.add_sub_cancel]
    rfl
  generalize hpts : (y0, ptOf ks t0 t1 0) :: qs ++ [(yl, ptOf ks t0 t1 ls.length)] = pts at *
  generalize upd H6 PT (.lst (lnv ((y0, ptOf ks t0 t1 0) :: qs) ++ [.ref yl])) = H7 at *
  have hpl : pts.length = ls.length + 1 := by
    have := congrArg List.length hm7
    simpa using this
  have pat : ∀ {i : Nat} {x : Ln}, pts[i]? = some x → x.2 = ptOf ks t0 t1 i := fun {i x} h => by
    have hi : i < pts.length := (List.getElem?_eq_some_iff.mp h).1
    have e1 : (pts.map (·.2))[i]? = some x.2 := by rw [List.getElem?_map, h]; rfl
    rw [hm7, List.getElem?_map, List.getElem?_range (by walk_at "o")] at e1
    exact (Option.some.inj e1).symm
  walk_at "v"
  refine r_zip ?_
  walk_at "v"
  refine ⟨_, rfl, 1, rfl, PT, _, rfl, SqL.of e7, fun P8 nP8 => ?_⟩
  rw [cutOne]
  have s8 : Same H7 (upd H7 P8 (.lst ((lnv pts).drop 1))) := same_at (Same.refl _) nP8
  have e8 : upd H7 P8 (.lst ((lnv pts).drop 1)) P8 = some (.lst ((lnv pts).drop 1)) := upd_same
  generalize upd H7 P8 (.lst ((lnv pts).drop 1)) = H8 at *
  walk_at "v"
  refine ⟨PT, P8, _, _, rfl, SqL.of (s8 _ _ e7), SqL.of e8, ?_⟩
  refine compB_zip (N0' := ls.length) (by rw [lnv_len]; walk_at "o") (by rw [List.length_drop, lnv_len]; walk_at "o") (.inr (by rw [List.length_drop, lnv_len]; walk_at "o")) (fun H9 s9 => ⟨SqL.of ((s8.trans s9) _ _ e7), SqL.of (s9 _ _ e8)⟩) (by walk_at "o") (fun c ys G => ∃ ps : List Pc, ys = (ps.map fun x => V.ref x.1) ∧ AllP G ps (6 * n + 3) ∧ ps.map (·.2) = (List.range c).map (pcOf ks t0 t1)) ⟨[], rfl, fun x hx => absurd hx (by simp), rfl⟩ ?_ ?_
  · rintro D' c v v' ys H9 H10 pp σ0 NN N0 hh0 hD' eD' s9 s10 epp hc hv hv' hy ⟨ps, rfl, hps, hmp⟩ kY kN
    obtain ⟨x, gx, rfl⟩ := lnv_at hv
    rw [List.getElem?_drop, Nat.add_comm] at hv'
    obtain ⟨x', gx', rfl⟩ := lnv_at hv'
    have s710 := s8.trans (s9.trans s10)
    obtain ⟨a1, b1, ex, fa1, fb1⟩ := (hA7 x (List.mem_of_getElem? gx)).up2 s710
    obtain ⟨a2, b2, ex', fa2, fb2⟩ := (hA7 x' (List.mem_of_getElem? gx')).up2 s710
    refine r_own2 hh0 epp ?_
    walk_at "v"
    refine iteT ?_
    walk_at "v"
    refine r_catT ex ex' ?_
    refine r_new (mk := .tup) (by simp) fun z H11 s11 n11 e11 => ?_
    refine kY _ H11 s11 ⟨ps ++ [(z, pcOf ks t0 t1 c)], by simp, fun y hy' => ?_, ?_⟩
    · rcases List.mem_append.mp hy' with w | w
      · exact (hps y w).mv fun {b xs} e => (rm_rm (s10.trans s11)) _ _ e
      · obtain rfl : y = (z, pcOf ks t0 t1 c) := by simpa using w
        have q1 := pat gx
        have q2 := pat gx'
        have pc : PcAt H11 (z, pcOf ks t0 t1 c) (6 * n + 3) := by
          unfold pcOf
          rw [← q1, ← q2]
          exact ⟨a1, b1, a2, b2, e11, fa1.up s11, fb1.up s11, fa2.up s11, fb2.up s11⟩
        exact pc.mv fun {b xs} e => rm_tup ((s10.trans s11) _ _ eD') e
    · rw [List.map_append, hmp, List.range_succ, List.map_append]
      rfl
  rintro D' ys H9 hD' eD' s9 hy ⟨ps, rfl, hps, hmp⟩
  walk_at "v"
  exact k D' ps H9 (s7.trans (s8.trans s9)) ((s7.trans s8).free hD') eD' (fun x hx => (hps x hx).mv fun {b xs} e => rm_same _ _ e) hmp
end

noncomputable def Feas (es : List En) (β : Rat) (k fl ro : Nat) (L : Rat × Rat) : Prop := (∀ i, fl ≤ i → i < k → lev es L.1 i - β ≤ L.2) ∧ ∀ i, ro ≤ i → i < k → L.2 ≤ lev es L.1 i + β
theorem CapAt.feas {es : List En} {β : Rat} {fl ro k : Nat} {m : Int} {q G f : Rat} {a b : Nat} (hk : k ≤ es.length) (h : CapAt (es.take k) β fl ro m q G f a b) : Feas es β k fl ro (G, f) := by
  have tl : (es.take k).length = k := by rw [List.length_take]; omega
  refine ⟨fun i h1 h2 => ?_, fun i h1 h2 => ?_⟩
  · have := h.lo i h1 (by rw [tl]; exact h2)
    rw [lev_take h2] at this
    exact this
  · have := h.hi i h1 (by rw [tl]; exact h2)
    rw [lev_take h2] at this
    exact this
theorem CupAt.feas {es : List En} {β : Rat} {fl ro k : Nat} {m : Int} {q S f : Rat} {a b : Nat} (hk : k ≤ es.length) (h : CupAt (es.take k) β fl ro m q S f a b) : Feas es β k fl ro (S, f) := by
  have tl : (es.take k).length = k := by rw [List.length_take]; omega
  refine ⟨fun i h1 h2 => ?_, fun i h1 h2 => ?_⟩
  · have := h.lo i h1 (by rw [tl]; exact h2)
    rw [lev_take h2] at this
    exact this
  · have := h.hi i h1 (by rw [tl]; exact h2)
    rw [lev_take h2] at this
    exact this
theorem NowAt.feas {es : List En} {β T f : Rat} {fl ro : Nat} {g s : Option Rat} (h : BdP es fl ro β g s) (hβ : 0 ≤ β) (hN : NowAt es β fl g s T f) : Feas es β es.length fl ro (T, f) := by
  rcases hN with ⟨hc, lo, ex⟩ | ⟨eg, es', eT, ef⟩
  · refine ⟨lo, ?_⟩
    rcases hc with eg | ⟨eg, es'⟩
    · obtain ⟨g1, g2⟩ := h.hiG eg
      exact (cap_touch hβ h.ris g1 g2 lo ex).1
    · obtain ⟨g1, g2⟩ := h.loS es'
      exact (cup_touch hβ h.ris g1 g2 lo ex).1
  · have h2 := h.two.mpr ⟨eg, es'⟩
    refine ⟨fun i h1 hi => ?_, fun i h1 hi => ?_⟩
    · obtain rfl : i = fl := by have := h.lt (by omega); omega
      show lev es T i - β ≤ f
      unfold lev
      rw [eT, ef]
      grind
    · have := h.lt (by omega)
      obtain rfl : i = fl := by omega
      show f ≤ lev es T i + β
      unfold lev
      rw [eT, ef]
      grind
noncomputable def Rel (es : List En) (z : Bool × Nat × Nat × Nat) (L0 L1 : Rat × Rat) : Prop := z.2.2.1 < z.2.2.2 ∧ z.2.2.2 < es.length ∧
  if z.1 = true then L0.1 * (mo es z.2.2.1 : Rat) + L0.2 ≤ L1.1 * (mo es z.2.2.1 : Rat) + L1.2 ∧ L1.1 * (mo es z.2.2.2 : Rat) + L1.2 < L0.1 * (mo es z.2.2.2 : Rat) + L0.2
  else L1.1 * (mo es z.2.2.1 : Rat) + L1.2 ≤ L0.1 * (mo es z.2.2.1 : Rat) + L0.2 ∧ L0.1 * (mo es z.2.2.2 : Rat) + L0.2 < L1.1 * (mo es z.2.2.2 : Rat) + L1.2
inductive Ch (es : List En) : List (Rat × Rat) → List (Bool × Nat × Nat × Nat) → Rat × Rat → Prop where
  | one {L : Rat × Rat} : Ch es [] [] L
  | more {ks : List (Rat × Rat)} {ts : List (Bool × Nat × Nat × Nat)} {L0 L1 : Rat × Rat} {z : Bool × Nat × Nat × Nat} (h : Ch es ks ts L0) (hR : Rel es z L0 L1) : Ch es (ks ++ [L0]) (ts ++ [z]) L1
theorem cap_rel {es : List En} {β : Rat} {fl ro k : Nat} {G f : Rat} {a b : Nat} {L : Rat × Rat} (hk : k < es.length) (h : CapAt (es.take k) β fl ro (mo es k) (wo es k) G f a b) (hF : Feas es β (k + 1) b k L) : Rel es (true, a, b, k) (G, f) L := by
  have tl : (es.take k).length = k := by rw [List.length_take]; omega
  have hb := h.lb
  rw [tl] at hb
  have eb := h.eb
  rw [lev_take hb] at eb
  obtain ⟨i, i1, i2, ei⟩ := h.off
  have li := h.lo i i1 i2
  have f1 := hF.1 b (Nat.le_refl _) (by omega)
  have f2 := hF.2 k (Nat.le_refl _) (by omega)
  unfold lev at eb f1 f2
  refine ⟨hb, hk, ?_⟩
  rw [if_pos rfl]
  refine ⟨by show G * (mo es b : Rat) + f ≤ L.1 * (mo es b : Rat) + L.2; grind, ?_⟩
  show L.1 * (mo es k : Rat) + L.2 < G * (mo es k : Rat) + f
  grind
theorem cup_rel {es : List En} {β : Rat} {fl ro k : Nat} {S f : Rat} {a b : Nat} {L : Rat × Rat} (hk : k < es.length) (h : CupAt (es.take k) β fl ro (mo es k) (wo es k) S f a b) (hF : Feas es β (k + 1) k b L) : Rel es (false, a, b, k) (S, f) L := by
  have tl : (es.take k).length = k := by rw [List.length_take]; omega
  have hb := h.lb
  rw [tl] at hb
  have eb := h.eb
  rw [lev_take hb] at eb
  obtain ⟨i, i1, i2, ei⟩ := h.off
  have li := h.hi i i1 i2
  have f1 := hF.2 b (Nat.le_refl _) (by omega)
  have f2 := hF.1 k (Nat.le_refl _) (by omega)
  unfold lev at eb f1 f2
  refine ⟨hb, hk, ?_⟩
  rw [if_neg Bool.false_ne_true]
  refine ⟨by show L.1 * (mo es b : Rat) + L.2 ≤ S * (mo es b : Rat) + f; grind, ?_⟩
  show S * (mo es k : Rat) + f < L.1 * (mo es k : Rat) + L.2
  grind
theorem Tr.ch {es : List En} {β : Rat} {k fl ro : Nat} {ks : List (Rat × Rat)} {ts : List (Bool × Nat × Nat × Nat)} (h : Tr es β k fl ro ks ts) : ∀ L, Feas es β k fl ro L → Ch es ks ts L := by
  induction h with
  | nil => exact fun L _ => .one
  | stay h hk hP hP' hN ih => exact fun L hF => ih L ⟨fun i a b => hF.1 i a (by omega), fun i a b => hF.2 i a (by omega)⟩
  | cap h hk hP hC ih => exact fun L hF => .more (ih _ (hC.feas (Nat.le_of_lt hk))) (cap_rel hk hC hF)
  | cup h hk hP hn hC ih => exact fun L hF => .more (ih _ (hC.feas (Nat.le_of_lt hk))) (cup_rel hk hC hF)
theorem Tr.len {es : List En} {β : Rat} {k fl ro : Nat} {ks : List (Rat × Rat)} {ts : List (Bool × Nat × Nat × Nat)} (h : Tr es β k fl ro ks ts) : ks.length = ts.length ∧ ks.length ≤ k := by
  induction h with
  | nil => exact ⟨rfl, Nat.le_refl _⟩
  | stay h hk hP hP' hN ih => exact ⟨ih.1, by omega⟩
  | cap h hk hP hC ih => exact ⟨by rw [List.length_append, List.length_append, ih.1]; rfl, by rw [List.length_append]; show _ + 1 ≤ _; omega⟩
  | cup h hk hP hn hC ih => exact ⟨by rw [List.length_append, List.length_append, ih.1]; rfl, by rw [List.length_append]; show _ + 1 ≤ _; omega⟩
theorem Rel.ne {es : List En} (hr : rising es) {z : Bool × Nat × Nat × Nat} {L0 L1 : Rat × Rat} (h : Rel es z L0 L1) : L0.1 ≠ L1.1 := by
  obtain ⟨h1, h2, h3⟩ := h
  intro e
  split at h3
  · rw [e] at h3
    grind
  · rw [e] at h3
    grind
theorem lsl_left {ks : List (Rat × Rat)} {L : Rat × Rat} {i : Nat} (h : i < ks.length) : lsl (ks ++ [L]) i = lsl ks i ∧ lhl (ks ++ [L]) i = lhl ks i := by
  unfold lsl lhl
  rw [List.getElem?_append_left h]
  exact ⟨rfl, rfl⟩
theorem lsl_last {ks : List (Rat × Rat)} {L : Rat × Rat} : lsl (ks ++ [L]) ks.length = L.1 ∧ lhl (ks ++ [L]) ks.length = L.2 := by
  unfold lsl lhl
  simp
theorem Ch.sep {es : List En} (hr : rising es) {ks : List (Rat × Rat)} {ts : List (Bool × Nat × Nat × Nat)} {L : Rat × Rat} (h : Ch es ks ts L) : ∀ i, i < ks.length → lsl (ks ++ [L]) i ≠ lsl (ks ++ [L]) (i + 1) := by
  induction h with
  | one => exact fun i hi => absurd hi (Nat.not_lt_zero _)
  | @more ks ts L0 L1 z h hR ih =>
    intro i hi
    rw [List.length_append] at hi
    have hi' : i < ks.length + 1 := hi
    by_cases e : i = ks.length
    · subst e
      have e1 : lsl (ks ++ [L0] ++ [L1]) (ks.length + 1) = L1.1 := by
        have := (lsl_last (ks := ks ++ [L0]) (L := L1)).1
        rw [List.length_append] at this
        exact this
      rw [e1, (lsl_left (by rw [List.length_append]; show ks.length < ks.length + 1; omega)).1, (lsl_last).1]
      exact hR.ne hr
    · have q1 := (lsl_left (ks := ks ++ [L0]) (L := L1) (i := i) (by rw [List.length_append]; exact hi')).1
      have q2 := (lsl_left (ks := ks ++ [L0]) (L := L1) (i := i + 1) (by rw [List.length_append]; show i + 1 < ks.length + 1; omega)).1
      rw [q1, q2]
      exact ih i (by omega)
noncomputable def JRun (H : Hp) (β : Rat) (N : Nat) (r : List En) (z : List Pc × List Th) : Prop := AllP H z.1 N ∧ (∀ x ∈ z.2, ThrAt H r x) ∧ ∃ (ks : List (Rat × Rat)) (L : Rat × Rat) (fl ro : Nat) (g s : Option Rat), Tr r β r.length fl ro ks (z.2.map (·.2)) ∧ BdP r fl ro β g s ∧ NowAt r β fl g s L.1 L.2 ∧ z.1.map (·.2) = (List.range (ks.length + 1)).map (pcOf (ks ++ [L]) (mo r 0) (mo r (r.length - 1)))
theorem JRun.tv {H H' : Hp} {β : Rat} {N : Nat} {r : List En} {z : List Pc × List Th} (t : ∀ {b : Addr} {xs : List V}, H b = some (.tup xs) → H' b = some (.tup xs)) (h : JRun H β N r z) : JRun H' β N r z := ⟨fun x hx => (h.1 x hx).mv t, fun x hx => t (h.2.1 x hx), h.2.2⟩
noncomputable def jtel (zs : List (List Pc × List Th)) : List V := (zs.map fun z => z.1.map fun x => V.ref x.1).flatten
noncomputable def jpap (zs : List (List Pc × List Th)) : List V := (zs.map fun z => z.2.map fun x => V.ref x.1).flatten
noncomputable def spJoined (C : Addr) : Sp := fun vs H Q _ => ∃ (l pb : Addr) (es : List En) (β : Rat) (n nb : Nat), vs = [.ref l, .ref pb] ∧ H l = some (.lst (vals es)) ∧ Row H es n ∧ rising es ∧ es.length ≤ 40 ∧ FrAt H pb β nb ∧ 0 ≤ β ∧ 1 ≤ n ∧ n ≤ 1500 ∧ (5 * n + 4 * nb ≤ 7900 ∧ nb ≤ 1000) ∧ 5 * n + 3 * nb + 7 ≤ 1300 ∧
  ∀ (y X Z : Addr) (zs : List (List Pc × List Th)) (H' : Hp), Same H H' → H' y = some (.tup [.ref X, .ref Z]) → H X = none → H Z = none → X ≠ Z → H' X = some (.lst (jtel zs)) → H' Z = some (.lst (jpap zs)) → Each2 (JRun H' β (6 * (5 * n + 3 * nb + 7) + 3)) (parts smp es es.length) zs → Q (.ref y) H'
section
variable {P : Program} {w : World} {K : PySem.W.Frag} {mg : Str → Option Value} {base : Heap} {f c_Bend : Addr} {fd : FuncData}
theorem parts_flatB {α : Type} {s : α → Bool} {es : List α} : ∀ i : Nat, (parts s es i).flatten = (es.take i).filter s
  | 0 => by simp [parts]
  | i + 1 => by
    have ih := parts_flatB (s := s) (es := es) i
    unfold parts
    cases e : es[i]? with
    | none =>
      dsimp only
      rw [ih, List.take_add_one, e]
      simp
    | some x =>
      have tk : es.take (i + 1) = es.take i ++ [x] := by rw [List.take_add_one, e]; rfl
      rw [tk, List.filter_append]
      dsimp only
      split
      · rename_i hs
        split
        · rename_i hr
          obtain ⟨t, r, hp⟩ := parts_ne hr
          rw [← ih, hp]
          simp [hs]
        · rw [List.flatten_append, ih]
          simp [hs]
      · rename_i hs
        rw [ih]
        simp [hs]
theorem flat_takeB {α : Type} {l : List (List α)} (i : Nat) : (l.take i).flatten.length ≤ l.flatten.length := by
  conv => rhs; rw [← List.take_append_drop i l]
  rw [List.flatten_append, List.length_append]
  omega
theorem sc_joined : FnScope ["row", "bound", "telling", "paper", "run", "found"] ["row", "bound"] (defScope s_joined) := ⟨rfl, rfl, rfl, by decide +kernel, rfl, by decide +kernel, by decide +kernel⟩
theorem ok_joined (F : Fun K "joined" "joined" s_joined f fd) (T : Txt mg) (D_runs : Dn P w K mg base 1 "runs" ["row"] spRuns) (D_links_of : Dn P w K mg base 8 "links_of" ["run", "bound"] (spLinks c_Bend)) (D_pieces_along : Dn P w K mg base 7 "pieces_along" ["links", "first", "last"] spAlong) : FnOk P w K mg base CX0 9 f fd ["row", "bound"] (spJoined c_Bend) := by
  refine F.ok sc_joined (fun vs H Q E h => ?_) (fun cdv A outer s H vs Q E hr h => ?_)
  · obtain ⟨l, pb, es, β, n, nb, rfl, _⟩ := h
    rfl
  obtain ⟨l, pb, es, β, n, nb, rfl, hl, hR, hri, h40, hb, hβ, h1, hn, hnb, hM, k⟩ := h
  refine J.l ⟨_, (J.f (J.i (i := 2) sc_joined.nd rfl (Or.inl rfl) (J.t J.d) (hs := sw_L))
      (J.f (J.i (i := 3) sc_joined.nd rfl (Or.inl rfl) (J.t J.d) (hs := sw_L))
      (J.f (J.y PassesOwn.never rfl (Jd.piL K (J.j D_runs (hr.mono (by decide)) rfl (J.b (J.a 0) J.d st_N) (he := st_N) (hpl := any0))) (J.r (i := 4) sc_joined.nd rfl (Or.inl rfl))
      (J.f (J.i (i := 5) sc_joined.nd rfl (Or.inl rfl) (J.j D_links_of (hr.mono (by decide)) rfl (J.b (J.a 4) (J.b (J.a 1) J.d st_N) st_N) (he := st_N) (hpl := (anyc st_N any0))) (hs := sw_K))
      (J.f (J.u (Jd.extC K (J.a 2) (J.j D_pieces_along (hr.mono (by decide)) rfl (J.b (J.e (ixT K) (J.a 5) J.c (fun _ _ => rfl)) (J.b (J.e (ixT K) (J.e (ixL K) (J.a 4) J.c (fun _ _ => rfl)) J.c (fun _ _ => rfl)) (J.b (J.e (ixT K) (J.e (ixL K) (J.a 4) (J.z un_neg J.c) (fun _ _ => rfl)) J.c (fun _ _ => rfl)) J.d st_S) st_S) st_S) (he := st_S) (hpl := (anyc st_S (anyc st_S any0))))) (hs := sw_K))
      (J.h (J.u (Jd.extC K (J.a 3) (J.e (ixT K) (J.a 5) J.c (fun _ _ => rfl))) (hs := sw_K))))))
      (J.h (J.k (J.n (J.b (J.a 2) (J.b (J.a 3) J.d st_N) st_N))))))), ?_⟩
  walk_at "v"
  refine r_new (mk := .lst) (by simp) fun X H1 s1 n1 e1 => ?_
  walk_at "v"
  refine r_new (mk := .lst) (by simp) fun Z H2 s2 n2 e2 => ?_
  have s02 := s1.trans s2
  have nXZ : X ≠ Z := fun z => by rw [← z, e1] at n2; cases n2
  have nZ0 : H Z = none := s1.free n2
  walk_at "v"
  refine r_for (r_iL ?_)
  walk_at "v"
  refine ⟨l, es, n, rfl, s02 _ _ hl, hR.up s02, h40, fun TT ls H3 s3 hLL hls hl40 _ => ?_⟩
  have hll : ls.length = (parts smp es es.length).length := by rw [← hls, List.length_map]
  have own : ∀ {G : Hp} {R : Addr} {v : List V}, LL H2 G TT ls → H2 R = some (.lst v) → R ≠ TT ∧ ∀ x ∈ ls, x.1 ≠ R := fun hG e => ⟨(fun z => by rw [z, hG.new] at e; cases e), (fun x hx z => by rw [← z, (hG.each x hx).1] at e; cases e)⟩
  obtain ⟨a1, a2⟩ := own hLL (s2 _ _ e1)
  obtain ⟨b1, b2⟩ := own hLL e2
  have hF : ∀ i, ((parts smp es es.length).take i).flatten.length ≤ 40 := fun i => by
    have q1 := flat_takeB (l := parts smp es es.length) i
    rw [parts_flatB, List.take_length] at q1
    have q2 : (es.filter smp).length ≤ es.length := List.length_filter_le ..
    walk_at "o"
  refine ⟨TT, rfl, ⟨_, SqL.of hLL.at_⟩, for_list (xs := lrefs ls) (fun i σ H4 => ∃ (zs : List (List Pc × List Th)) (v5 v6 : Option V), σ = [some (.ref l), some (.ref pb), some (.ref X), some (.ref Z), v5, v6] ∧ Same H H4 ∧ LL H2 H4 TT ls ∧ H4 X = some (.lst (jtel zs)) ∧ H4 Z = some (.lst (jpap zs)) ∧ (jtel zs).length ≤ 2 * ((parts smp es es.length).take i).flatten.length ∧ (jpap zs).length ≤ ((parts smp es es.length).take i).flatten.length ∧ Each2 (JRun H4 β (6 * (5 * n + 3 * nb + 7) + 3)) ((parts smp es es.length).take i) zs) ?_ ?_ ?_ ?_⟩
  · exact ⟨[], none, none, rfl, s02.trans s3, hLL, (s2.trans s3) _ _ e1, s3 _ _ e2, Nat.zero_le _, Nat.le_refl _, trivial⟩
  · rintro i σ H4 _ ⟨zs, v5, v6, rfl, s4, hL4, _⟩
    exact SqL.of hL4.at_
  · rintro i x σ H4 hx ⟨zs, v5, v6, rfl, s4, hL4, eX, eZ, hz1, hz2, hJ⟩
    refine body_cut fun M B RR hM' _ _ => ?_
    obtain ⟨x, gx, rfl⟩ := lrefs_at hx
    have hi : i < ls.length := (List.getElem?_eq_some_iff.mp gx).1
    have hmx := List.mem_of_getElem? gx
    have hp : (parts smp es es.length)[i]? = some x.2 := by rw [← hls, List.getElem?_map, gx]; rfl
    obtain ⟨o1, o2, o3⟩ := parts_own es.length x.2 (List.mem_of_getElem? hp)
    rw [List.take_length] at o3
    obtain ⟨_, ex, _⟩ := hL4.each x hmx
    have hx1 : 1 ≤ x.2.length := List.length_pos_iff.mpr o1
    have hx40 : x.2.length ≤ 40 := Nat.le_trans o3.length_le h40
    have hRx : Row H4 x.2 n := fun z hz => hR.up s4 z (o3.subset hz)
    have hrx : rising x.2 := hri.sublist o3
    have tkF : ((parts smp es es.length).take (i + 1)).flatten.length = ((parts smp es es.length).take i).flatten.length + x.2.length := by
      rw [List.take_succ, hp, List.flatten_append, List.length_append]
      simp
    have hF1 := hF (i + 1)
    walk_at "v"
    refine ⟨x.1, pb, x.2, β, n, nb, rfl, ex, hRx, o2, hrx, hx1, by walk_at "o", hb.up s4, hβ, h1, hn, hnb, fun y5 Ll Lt ln ths ks fl ro g s T5 f5 H5 s5 e5 nl5 nt5 eL5 hA5 hmap eT5 hT5 hTr hP hNow hk5 ht5 => ?_⟩
    have hch := hTr.ch (T5, f5) (hNow.feas hP hβ)
    have hsep := hch.sep hrx
    have hlnl : ln.length = ks.length + 1 := by
      have := congrArg List.length hmap
      simpa using this
    have s05 := s4.trans s5
    have hL5 := hL4.up s5
    obtain ⟨_, ex5, _⟩ := hL5.each x hmx
    obtain ⟨xa, ga, fa⟩ := sa_at (hRx.up s5) o2 (show 0 < x.2.length by walk_at "o")
    obtain ⟨xb, gb, fb⟩ := sa_at (hRx.up s5) o2 (show x.2.length - 1 < x.2.length by walk_at "o")
    obtain ⟨va, ea, _, zma⟩ := id fa
    obtain ⟨vb, eb, _, zmb⟩ := id fb
    walk_at "v"
    refine ⟨.inl ⟨rfl, _, SqL.of (s5 _ _ eX)⟩, ?_⟩
    walk_at "v"
    refine r_l ex5 (at_zero ga) ?_
    walk_at "v"
    refine r_l ex5 (at_neg1 gb) ?_
    walk_at "v"
    refine ⟨Ll, ln, mo x.2 0, mo x.2 (x.2.length - 1), 5 * n + 3 * nb + 7, rfl, eL5, hA5, by walk_at "o", by walk_at "o", zma.mono (by walk_at "o"), zmb.mono (by walk_at "o"), by walk_at "o", hM, ?_, fun R6 ps H6 s6 nR6 eR6 hP6 hm6 => ?_⟩
    · intro j hj
      rw [hmap]
      exact hsep j (by walk_at "o")
    rw [hmap, hlnl] at hm6
    have s56 := s5.trans s6
    have eX6 := s56 _ _ eX
    have hpsl : ps.length = ks.length + 1 := by
      have := congrArg List.length hm6
      simpa using this
    have e56 := s6 _ _ e5
    walk_at "v"
    refine r_ext eX6 eR6 (by rw [List.length_map]; exact Nat.le_of_lt (small1000 (by walk_at "o"))) ?_
    have tp7 : ∀ {b : Addr} {xs : List V}, H6 b = some (.tup xs) → upd H6 X (.lst (jtel zs ++ ps.map fun x => V.ref x.1)) b = some (.tup xs) := fun e => tup_app eX6 e
    have eX7 : upd H6 X (.lst (jtel zs ++ ps.map fun x => V.ref x.1)) X = some (.lst (jtel (zs ++ [(ps, ths)]))) := by rw [upd_same]; simp [jtel]
    have nZX : Z ≠ X := Ne.symm nXZ
    have eZ7 : upd H6 X (.lst (jtel zs ++ ps.map fun x => V.ref x.1)) Z = some (.lst (jpap zs)) := by rw [upd_ne nZX]; exact s56 _ _ eZ
    have nLtX : Lt ≠ X := fun z => by rw [z, eX] at nt5; cases nt5
    have eT7 : upd H6 X (.lst (jtel zs ++ ps.map fun x => V.ref x.1)) Lt = some (.lst (ths.map fun x => V.ref x.1)) := by rw [upd_ne nLtX]; exact s6 _ _ eT5
    have hL7 : LL H2 (upd H6 X (.lst (jtel zs ++ ps.map fun x => V.ref x.1))) TT ls := (hL4.up s56).other a1 a2
    have s07 : Same H (upd H6 X (.lst (jtel zs ++ ps.map fun x => V.ref x.1))) := same_at (s4.trans s56) n1
    have e57 := tp7 e56
    generalize upd H6 X (.lst (jtel zs ++ ps.map fun x => V.ref x.1)) = H7 at *
    walk_at "v"
    refine ⟨.inl ⟨rfl, _, SqL.of eZ7⟩, ?_⟩
    walk_at "v"
    refine r_ext eZ7 eT7 (by rw [List.length_map]; exact Nat.le_of_lt (small1000 (by walk_at "o"))) ?_
    have tp8 : ∀ {b : Addr} {xs : List V}, H7 b = some (.tup xs) → upd H7 Z (.lst (jpap zs ++ ths.map fun x => V.ref x.1)) b = some (.tup xs) := fun e => tup_app eZ7 e
    have l1 : (jtel (zs ++ [(ps, ths)])).length = (jtel zs).length + ps.length := by simp [jtel]
    have l2 : (jpap (zs ++ [(ps, ths)])).length = (jpap zs).length + ths.length := by simp [jpap]
    refine hM' _ _ ⟨zs ++ [(ps, ths)], _, _, rfl, same_at s07 nZ0, hL7.other b1 b2, by rw [upd_ne nXZ]; exact eX7, by rw [upd_same]; simp [jpap], by rw [l1, tkF]; walk_at "o", by rw [l2, tkF]; walk_at "o", ?_⟩
    rw [List.take_succ, hp]
    refine each2_snoc (each2_imp (fun a b _ h => h.tv fun {b xs} e => tp8 (tp7 (s56 _ _ e))) hJ) ⟨fun z hz => ((hP6 z hz).mv tp7).mv tp8, fun z hz => tp8 (tp7 (s6 _ _ (hT5 z hz))), ks, (T5, f5), fl, ro, g, s, hTr, hP, hNow, hm6⟩
  · rintro σ H4 ⟨zs, v5, v6, rfl, s4, hL4, eX, eZ, _, _, hJ⟩
    rw [lrefs_len, hll, List.take_length] at hJ
    walk_at "v"
    refine r_new (mk := .tup) (by simp) fun y H5 s5 n5 e5 => ?_
    exact k y X Z zs H5 (s4.trans s5) e5 n1 nZ0 nXZ (s5 _ _ eX) (s5 _ _ eZ) (each2_imp (fun a b _ h => h.tv fun {b xs} e => s5 _ _ e) hJ)
end

noncomputable def LGood (es : List En) (β : Rat) (k : Nat) (Ls : List (Rat × Rat)) : Prop := ∀ j, j < Ls.length → ∀ i, i < k → (j = 0 ∨ xAt Ls (j - 1) ≤ (mo es i : Rat)) → (j + 1 = Ls.length ∨ (mo es i : Rat) ≤ xAt Ls j) → rabs (wo es i - (lsl Ls j * (mo es i : Rat) + lhl Ls j)) ≤ β
structure Ord (es : List En) (mx : Nat) (Ls : List (Rat × Rat)) : Prop where
  up : ∀ j, j + 2 < Ls.length → xAt Ls j < xAt Ls (j + 1)
  fst : 1 < Ls.length → (mo es 0 : Rat) < xAt Ls 0
  lst : 1 < Ls.length → xAt Ls (Ls.length - 2) < (mo es mx : Rat)
theorem xAt_left {ks : List (Rat × Rat)} {L : Rat × Rat} {j : Nat} (h : j + 1 < ks.length) : xAt (ks ++ [L]) j = xAt ks j := by
  unfold xAt
  rw [(lsl_left (ks := ks) (L := L) (i := j) (by omega)).1, (lsl_left (ks := ks) (L := L) (i := j) (by omega)).2, (lsl_left (ks := ks) (L := L) (i := j + 1) h).1, (lsl_left (ks := ks) (L := L) (i := j + 1) h).2]
theorem xAt_last {ks : List (Rat × Rat)} {L0 L1 : Rat × Rat} : xAt (ks ++ [L0] ++ [L1]) ks.length = (L1.2 - L0.2) / (L0.1 - L1.1) := by
  have h1 := lsl_left (ks := ks ++ [L0]) (L := L1) (i := ks.length) (by rw [List.length_append]; show ks.length < ks.length + 1; omega)
  have h2 := lsl_last (ks := ks ++ [L0]) (L := L1)
  have h3 := lsl_last (ks := ks) (L := L0)
  rw [List.length_append] at h2
  unfold xAt
  rw [h1.1, h1.2, h3.1, h3.2]
  have e1 : lhl (ks ++ [L0] ++ [L1]) (ks.length + 1) = L1.2 := h2.2
  have e2 : lsl (ks ++ [L0] ++ [L1]) (ks.length + 1) = L1.1 := h2.1
  rw [e1, e2]
theorem Rel.joint {es : List En} (hr : rising es) {z : Bool × Nat × Nat × Nat} {L0 L1 : Rat × Rat} (h : Rel es z L0 L1) : (mo es z.2.2.1 : Rat) ≤ (L1.2 - L0.2) / (L0.1 - L1.1) ∧ (L1.2 - L0.2) / (L0.1 - L1.1) < (mo es z.2.2.2 : Rat) ∧ (if z.1 = true then L1.1 < L0.1 else L0.1 < L1.1) ∧ L0.1 * ((L1.2 - L0.2) / (L0.1 - L1.1)) + L0.2 = L1.1 * ((L1.2 - L0.2) / (L0.1 - L1.1)) + L1.2 := by
  have hne := h.ne hr
  obtain ⟨h1, h2, h3⟩ := h
  have d := mo_pos hr h1 h2
  have hd : L0.1 - L1.1 ≠ 0 := by grind
  have meet : L0.1 * ((L1.2 - L0.2) / (L0.1 - L1.1)) + L0.2 = L1.1 * ((L1.2 - L0.2) / (L0.1 - L1.1)) + L1.2 := by
    generalize hD : L0.1 - L1.1 = D at *
    have : L0.1 = D + L1.1 := by grind
    rw [this]
    grind
  generalize hx : (L1.2 - L0.2) / (L0.1 - L1.1) = x at *
  split at h3
  · rename_i hc
    have lt : L1.1 < L0.1 := by
      refine Rat.not_le.mp fun z => ?_
      have := Rat.mul_le_mul_of_nonneg_right z (Rat.le_of_lt d)
      grind
    refine ⟨?_, ?_, by rw [if_pos hc]; exact lt, meet⟩
    · refine Rat.not_lt.mp fun z => ?_
      have := Rat.mul_lt_mul_of_pos_right z (show 0 < L0.1 - L1.1 by grind)
      grind
    · refine Rat.not_le.mp fun z => ?_
      have := Rat.mul_le_mul_of_nonneg_right z (show 0 ≤ L0.1 - L1.1 by grind)
      grind
  · rename_i hc
    have lt : L0.1 < L1.1 := by
      refine Rat.not_le.mp fun z => ?_
      have := Rat.mul_le_mul_of_nonneg_right z (Rat.le_of_lt d)
      grind
    refine ⟨?_, ?_, by rw [if_neg hc]; exact lt, meet⟩
    · refine Rat.not_lt.mp fun z => ?_
      have := Rat.mul_lt_mul_of_pos_right z (show 0 < L1.1 - L0.1 by grind)
      grind
    · refine Rat.not_le.mp fun z => ?_
      have := Rat.mul_le_mul_of_nonneg_right z (show 0 ≤ L1.1 - L0.1 by grind)
      grind
theorem mo_le {es : List En} (hr : rising es) {i j : Nat} (h : i ≤ j) (hj : j < es.length) : (mo es i : Rat) ≤ (mo es j : Rat) := by
  rcases Nat.lt_or_eq_of_le h with z | z
  · have := mo_pos hr z hj; grind
  · rw [z]; exact Rat.le_refl
theorem mo_back {es : List En} (hr : rising es) {i j : Nat} (hi : i < es.length) (h : (mo es i : Rat) ≤ (mo es j : Rat)) : i ≤ j := by
  refine Nat.le_of_not_lt fun z => ?_
  have := mo_pos hr z hi
  grind
theorem good_more {es : List En} {β : Rat} (hr : rising es) {k mx fl' ro' : Nat} {ks : List (Rat × Rat)} {L0 L1 : Rat × Rat} {z : Bool × Nat × Nat × Nat} (hk : k < es.length) (hg : LGood es β k (ks ++ [L0])) (ho : Ord es mx (ks ++ [L0])) (hR : Rel es z L0 L1) (ez : z.2.2.2 = k) (hb : mx ≤ z.2.2.1) (hb0 : 0 < z.2.2.1) (hF : Feas es β (k + 1) fl' ro' L1) (hs : if z.1 = true then fl' = z.2.2.1 ∧ ro' = k else fl' = k ∧ ro' = z.2.2.1) : LGood es β (k + 1) (ks ++ [L0] ++ [L1]) ∧ Ord es k (ks ++ [L0] ++ [L1]) := by
  have hz1 := hR.1
  have hlt : (ks ++ [L0]).length = ks.length + 1 := by simp
  obtain ⟨j1, j2, j3, j4⟩ := hR.joint hr
  rw [← xAt_last (ks := ks)] at j1 j2 j4
  have xl : ∀ j, j < ks.length → xAt (ks ++ [L0] ++ [L1]) j = xAt (ks ++ [L0]) j := fun j hj => xAt_left (by rw [hlt]; omega)
  rw [ez] at j2
  have len2 : (ks ++ [L0] ++ [L1]).length = ks.length + 2 := by simp
  refine ⟨fun j hj i hi h1 h2 => ?_, ⟨fun j hj => ?_, fun _ => ?_, fun _ => ?_⟩⟩
  · rw [len2] at hj h2
    by_cases e : j = ks.length + 1
    · subst e
      have h1' : xAt (ks ++ [L0] ++ [L1]) ks.length ≤ (mo es i : Rat) := by
        rcases h1 with q | q
        · omega
        · exact q
      have es1 : lsl (ks ++ [L0] ++ [L1]) (ks.length + 1) = L1.1 ∧ lhl (ks ++ [L0] ++ [L1]) (ks.length + 1) = L1.2 := by
        have := lsl_last (ks := ks ++ [L0]) (L := L1)
        rw [hlt] at this
        exact this
      rw [es1.1, es1.2]
      have hib : z.2.2.1 ≤ i := mo_back hr (by omega) (Rat.le_trans j1 h1')
      by_cases ei : i = k
      · subst ei
        have f1 := hF.1 i (by split at hs <;> omega) (by omega)
        have f2 := hF.2 i (by split at hs <;> omega) (by omega)
        unfold lev at f1 f2
        rw [rabs_le]
        exact ⟨by grind, by grind⟩
      · have old := hg ks.length (by rw [hlt]; omega) i (by omega) (by
          by_cases k0 : ks.length = 0
          · exact .inl k0
          · refine .inr ?_
            have := xl (ks.length - 1) (by omega)
            rw [← this]
            by_cases k1 : ks.length = 1
            · have l := ho.lst (by rw [hlt]; omega)
              rw [hlt, show ks.length + 1 - 2 = ks.length - 1 by omega, ← this] at l
              have m1 := mo_le hr hb (show z.2.2.1 < es.length by omega)
              grind
            · have l := ho.lst (by rw [hlt]; omega)
              rw [hlt, show ks.length + 1 - 2 = ks.length - 1 by omega, ← this] at l
              have m1 := mo_le hr hb (show z.2.2.1 < es.length by omega)
              grind) (.inl (by rw [hlt]))
        have eo := lsl_last (ks := ks) (L := L0)
        rw [eo.1, eo.2, rabs_le] at old
        obtain ⟨o1, o2⟩ := old
        rw [rabs_le]
        split at hs
        · rename_i hc
          rw [if_pos hc] at j3
          have f1 := hF.1 i (by omega) (by omega)
          unfold lev at f1
          have := Rat.mul_le_mul_of_nonneg_right (Rat.le_of_lt j3) (show 0 ≤ (mo es i : Rat) - xAt (ks ++ [L0] ++ [L1]) ks.length by grind)
          exact ⟨by grind, by grind⟩
        · rename_i hc
          rw [if_neg hc] at j3
          have f1 := hF.2 i (by omega) (by omega)
          unfold lev at f1
          have := Rat.mul_le_mul_of_nonneg_right (Rat.le_of_lt j3) (show 0 ≤ (mo es i : Rat) - xAt (ks ++ [L0] ++ [L1]) ks.length by grind)
          exact ⟨by grind, by grind⟩
    · have hj' : j < ks.length + 1 := by omega
      have h2' : (mo es i : Rat) ≤ xAt (ks ++ [L0] ++ [L1]) j := by
        rcases h2 with q | q
        · omega
        · exact q
      have el := lsl_left (ks := ks ++ [L0]) (L := L1) (i := j) (by rw [hlt]; exact hj')
      rw [el.1, el.2]
      have hik : i < k := by
        refine Nat.lt_of_le_of_ne (by omega) fun ei => ?_
        subst ei
        by_cases ej : j = ks.length
        · subst ej
          grind
        · rw [xl j (by omega)] at h2'
          have chain : ∀ d j, j + d + 1 = ks.length → xAt (ks ++ [L0]) j ≤ xAt (ks ++ [L0]) (ks.length - 1) := fun d => by
            induction d with
            | zero => intro j hj; rw [show ks.length - 1 = j by omega]; exact Rat.le_refl
            | succ d ih =>
              intro j hj
              have q1 := ho.up j (by rw [hlt]; omega)
              have q2 := ih (j + 1) (by omega)
              grind
          have q1 := chain (ks.length - 1 - j) j (by omega)
          have l := ho.lst (by rw [hlt]; omega)
          rw [hlt, show ks.length + 1 - 2 = ks.length - 1 by omega] at l
          have m1 := mo_le hr hb (show z.2.2.1 < es.length by omega)
          have m2 := mo_pos hr hz1 (by rw [ez]; exact hk)
          rw [ez] at m2
          grind
      refine hg j (by rw [hlt]; exact hj') i hik ?_ ?_
      · rcases h1 with q | q
        · exact .inl q
        · by_cases j0 : j = 0
          · exact .inl j0
          · rw [xl (j - 1) (by omega)] at q
            exact .inr q
      · by_cases ej : j = ks.length
        · exact .inl (by rw [hlt, ej])
        · rw [xl j (by omega)] at h2'
          exact .inr h2'
  · rw [len2] at hj
    by_cases e : j + 1 = ks.length
    · have l := ho.lst (by rw [hlt]; omega)
      rw [hlt, show ks.length + 1 - 2 = j by omega] at l
      rw [xl j (by omega), e]
      have m1 := mo_le hr hb (show z.2.2.1 < es.length by omega)
      grind
    · rw [xl j (by omega), xl (j + 1) (by omega)]
      exact ho.up j (by rw [hlt]; omega)
  · by_cases k0 : ks.length = 0
    · have := mo_pos hr hb0 (show z.2.2.1 < es.length by omega)
      rw [k0] at j1
      grind
    · rw [xl 0 (by omega)]
      exact ho.fst (by rw [hlt]; omega)
  · rw [len2, show ks.length + 2 - 2 = ks.length by omega]
    exact j2
theorem Tr.good {es : List En} {β : Rat} (hr : rising es) {k fl ro : Nat} {ks : List (Rat × Rat)} {ts : List (Bool × Nat × Nat × Nat)} (h : Tr es β k fl ro ks ts) : ∀ L, Feas es β k fl ro L → LGood es β k (ks ++ [L]) ∧ Ord es (max fl ro) (ks ++ [L]) := by
  induction h with
  | nil => exact fun L _ => ⟨fun j _ i hi => absurd hi (Nat.not_lt_zero _), ⟨fun j hj => absurd hj (by simp), fun z => absurd z (by simp), fun z => absurd z (by simp)⟩⟩
  | @stay k fl ro ls ts g s g' s' h hk hP hP' hN ih =>
    intro L hF
    obtain ⟨hg, ho⟩ := ih L ⟨fun i a b => hF.1 i a (by omega), fun i a b => hF.2 i a (by omega)⟩
    refine ⟨fun j hj i hi h1 h2 => ?_, ho⟩
    by_cases ei : i = k
    · subst ei
      have tl : (es.take i).length = i := by rw [List.length_take]; omega
      have hfl := hP.hfl
      have hro := hP.hro
      rw [tl] at hfl hro
      have hlt : (ls ++ [L]).length = ls.length + 1 := by simp
      rw [hlt] at hj h2
      by_cases ej : j = ls.length
      · subst ej
        have el := lsl_last (ks := ls) (L := L)
        rw [el.1, el.2, rabs_le]
        have f1 := hF.1 i hfl (by omega)
        have f2 := hF.2 i hro (by omega)
        unfold lev at f1 f2
        exact ⟨by grind, by grind⟩
      · exfalso
        have h2' : (mo es i : Rat) ≤ xAt (ls ++ [L]) j := by
          rcases h2 with q | q
          · omega
          · exact q
        have chain : ∀ d j, j + d + 1 = ls.length → xAt (ls ++ [L]) j ≤ xAt (ls ++ [L]) (ls.length - 1) := fun d => by
          induction d with
          | zero => intro j hj; rw [show ls.length - 1 = j by omega]; exact Rat.le_refl
          | succ d ih =>
            intro j hj
            have q1 := ho.up j (by rw [hlt]; omega)
            have q2 := ih (j + 1) (by omega)
            grind
        have q1 := chain (ls.length - 1 - j) j (by omega)
        have l := ho.lst (by rw [hlt]; omega)
        rw [hlt, show ls.length + 1 - 2 = ls.length - 1 by omega] at l
        have m1 := mo_le hr (show max fl ro ≤ i by omega) hk
        grind
    · exact hg j hj i (by omega) h1 h2
  | @cap k fl ro a b ls ts s G f h hk hP hC ih =>
    intro L hF
    obtain ⟨hg, ho⟩ := ih _ (hC.feas (Nat.le_of_lt hk))
    have hb := hC.lb
    have hab := hC.hab
    have ha := hC.ha
    have hfb := hC.hb
    rw [List.length_take] at hb
    have := good_more hr hk hg ho (cap_rel hk hC hF) rfl (show max fl ro ≤ b by omega) (show 0 < b by omega) hF (by rw [if_pos rfl]; exact ⟨rfl, rfl⟩)
    rw [show max b k = k by omega]
    exact this
  | @cup k fl ro a b ls ts g S f h hk hP hn hC ih =>
    intro L hF
    obtain ⟨hg, ho⟩ := ih _ (hC.feas (Nat.le_of_lt hk))
    have hb := hC.lb
    have hab := hC.hab
    have ha := hC.ha
    have hfb := hC.hb
    rw [List.length_take] at hb
    have := good_more hr hk hg ho (cup_rel hk hC hF) rfl (show max fl ro ≤ b by omega) (show 0 < b by omega) hF (by rw [if_neg Bool.false_ne_true]; exact ⟨rfl, rfl⟩)
    rw [show max k b = k by omega]
    exact this

section
variable {H H2 H3 : Hp} {T R : Addr} {ls : List (Addr × List V)} {rn : List V}
end
section
variable {P : Program} {w : World} {K : PySem.W.Frag} {mg : Str → Option Value} {base : Heap} {f : Addr} {fd : FuncData}
end
noncomputable def fdat (q : Rat) : PyData := .tuple [.int q.num, .int (q.den : Int)]
noncomputable def pdat (v : Rat × Rat × Rat × Rat) : PyData := .tuple [fdat v.1, fdat v.2.1, fdat v.2.2.1, fdat v.2.2.2]
theorem FrAt.fden {H : Hp} {p : Addr} {q : Rat} {n : Nat} (f : FrAt H p q n) : Den H (.ref p) (fdat q) := by
  obtain ⟨t, b, e, g, _⟩ := f
  obtain ⟨rfl, rfl⟩ := g.num_den
  exact .tup e (.cons (.int _) (.cons (.int _) .nil))
theorem AllP.dens {H : Hp} {n : Nat} : ∀ {ps : List Pc}, AllP H ps n → Dens H (prefs ps) (ps.map fun x => pdat x.2)
  | [], _ => .nil
  | x :: ps, h => by
    obtain ⟨a, b, c, d, e, f1, f2, f3, f4⟩ := h x List.mem_cons_self
    exact .cons (.tup e (.cons (FrAt.fden f1) (.cons (FrAt.fden f2) (.cons (FrAt.fden f3) (.cons (FrAt.fden f4) .nil))))) (AllP.dens fun y hy => h y (List.mem_cons_of_mem _ hy))
theorem pdat_eqv (v : Rat × Rat × Rat × Rat) : PyData.eqv (pdat v) (pdat v) = true := by
  have one : ∀ q : Rat, PyData.eqv (fdat q) (fdat q) = true := fun q => by
    show (q.num == q.num && ((q.den : Int) == (q.den : Int) && true)) = true
    simp
  show (PyData.eqv (fdat v.1) (fdat v.1) && (PyData.eqv (fdat v.2.1) (fdat v.2.1) && (PyData.eqv (fdat v.2.2.1) (fdat v.2.2.1) && (PyData.eqv (fdat v.2.2.2) (fdat v.2.2.2) && true)))) = true
  rw [one, one, one, one]
  rfl
theorem pdats_eqv : ∀ vs : List (Rat × Rat × Rat × Rat), PyData.eqvAll (vs.map pdat) (vs.map pdat) = true
  | [] => rfl
  | v :: vs => by
    show (PyData.eqv (pdat v) (pdat v) && PyData.eqvAll (vs.map pdat) (vs.map pdat)) = true
    rw [pdat_eqv, pdats_eqv vs]; rfl
theorem pdats_shape : ∀ vs : List (Rat × Rat × Rat × Rat), PyData.canLayAll0 (vs.map pdat) = true ∧ PyData.depthAll (vs.map pdat) ≤ 3
  | [] => ⟨rfl, by decide⟩
  | v :: vs => by
    obtain ⟨c, d⟩ := pdats_shape vs
    refine ⟨?_, ?_⟩
    · show ((pdat v).canLay0 && PyData.canLayAll0 (vs.map pdat)) = true
      rw [c]; rfl
    · show max (pdat v).depth (PyData.depthAll (vs.map pdat)) ≤ 3
      have : (pdat v).depth ≤ 3 := by simp [pdat, fdat, PyData.depth, PyData.depthAll]
      walk_at "o"
theorem pieces_eq {H : Hp} {l l' : Addr} {ps ps' : List Pc} {n n' : Nat} {Q : VK} (h : AllP H ps n) (h' : AllP H ps' n') (hl : H l = some (.lst (prefs ps))) (hl' : H l' = some (.lst (prefs ps'))) (e : ps.map (·.2) = ps'.map (·.2)) (q : Q (.bl true) H) : rEqD (.ref l) (.ref l') H Q := by
  have sh : ∀ vs : List (Rat × Rat × Rat × Rat), SeqAt.shaped (.list (vs.map pdat)) = true := fun vs => by
    obtain ⟨a, b⟩ := pdats_shape vs
    unfold SeqAt.shaped
    rw [Bool.and_eq_true]
    refine ⟨a, decide_eq_true ?_⟩
    show PyData.depthAll (vs.map pdat) + 1 ≤ 64
    walk_at "o"
  have d1 := h.dens
  have d2 := h'.dens
  rw [show (ps.map fun x => pdat x.2) = (ps.map (·.2)).map pdat by rw [List.map_map]; rfl] at d1
  rw [show (ps'.map fun x => pdat x.2) = (ps'.map (·.2)).map pdat by rw [List.map_map]; rfl] at d2
  refine ⟨_, _, .lst hl d1, .lst hl' d2, sh _, sh _, ?_⟩
  rw [e]
  have : PyData.eqv (.list ((ps'.map (·.2)).map pdat)) (.list ((ps'.map (·.2)).map pdat)) = true := pdats_eqv _
  rw [this]
  exact q
noncomputable def spIsPiece : Sp := fun vs H Q _ => ∃ x : Pc, vs = [.ref x.1] ∧ PcAt H x 8000 ∧ ∀ H', Same H H' → Q (.bl true) H'
theorem PcAt.mono {H : Hp} {x : Pc} {n m : Nat} (f : PcAt H x n) (h : n ≤ m) : PcAt H x m := by
  obtain ⟨a, b, c, d, e, f1, f2, f3, f4⟩ := f
  exact ⟨a, b, c, d, e, f1.mono h, f2.mono h, f3.mono h, f4.mono h⟩
section
variable {P : Program} {w : World} {K : PySem.W.Frag} {mg : Str → Option Value} {base : Heap} {f : Addr} {fd : FuncData}
theorem sc_law_is_piece : FnScope ["_law_some", "_law_one"] ["_law_some"] (defScope s_law_is_piece) := ⟨rfl, rfl, rfl, by decide +kernel, rfl, by decide +kernel, by decide +kernel⟩
theorem ok_law_is_piece (F : Fun K "_law_is_piece" "_law_is_piece" s_law_is_piece f fd) (T : Txt mg) (D_law_is_ratio : Dn P w K mg base 3 "_law_is_ratio" ["_law_one"] spIs) : FnOk P w K mg base CX0 4 f fd ["_law_some"] spIsPiece := by
  refine F.ok sc_law_is_piece (fun vs H Q E h => ?_) (fun cdv A outer s H vs Q E hr h => ?_)
  · obtain ⟨x, rfl, _⟩ := h
    rfl
  obtain ⟨⟨p, q1, q2, q3, q4⟩, rfl, ⟨a1, a2, a3, a4, hp, f1, f2, f3, f4⟩, k⟩ := h
  refine J.l ⟨_, (J.f (J.o (Jd.PWpt (Jd.pw_or (Jd.pt_not (J.ab (J.s (isiC K) rfl T.isinstance_ PyProof.Rows.boot_isinstance (J.b (J.a 0) (J.b (Jd.pe_ty rfl T.tuple_ PyProof.Rows.boot_tuple) J.d st_N) st_N) (he := st_N) (hpl := (anyc st_N any0))))) (Jd.pw_or1 (J.m op_ne (J.s (lenC K) rfl T.len_ PySem.boot_len (J.b (J.a 0) J.d st_N) (he := st_N) (hpl := any0)) J.c (nomark _)))))
      (J.h (J.k Jd.pe_bl))
      J.q)
      (J.f (J.y PassesOwn.never rfl (Jd.piT K (J.a 0)) (J.r (i := 1) sc_law_is_piece.nd rfl (Or.inl rfl))
      (J.h (J.o (Jd.pt_not (J.ab (J.j D_law_is_ratio (hr.mono (by decide)) rfl (J.b (J.a 1) J.d st_N) (he := st_N) (hpl := any0))))
      (J.h (J.k Jd.pe_bl))
      J.q)))
      (J.h (J.k Jd.pe_bl)))), ?_⟩
  walk_at "v"
  refine r_isi (.tup hp) kit_tt ?_
  walk_at "v"
  refine iteF ?_
  walk_at "v"
  refine r_len (.inr (SqT.of hp)) ?_
  walk_at "v"
  refine iteF ?_
  walk_at "v"
  refine ⟨_, rfl, p, rfl, ⟨_, SqT.of hp⟩, for_tup (K := K) (a := p) (xs := [.ref a1, .ref a2, .ref a3, .ref a4]) (fun _ σ H2 => Same H H2 ∧ ∃ v : Option V, σ = [some (.ref p), v]) ⟨Same.refl _, none, rfl⟩ (fun _ σ H2 _ ⟨e, _⟩ => SqT.of (e _ _ hp)) ?_ ?_⟩
  · rintro j y σ H2 hj ⟨s2, v, rfl⟩
    refine body_cut fun M B R hM _ _ => ?_
    obtain ⟨a, q, rfl, t, b, e, g, zt, zb⟩ : ∃ (a : Addr) (q : Rat), y = .ref a ∧ FrAt H2 a q 8000 := by
      have hm := List.mem_of_getElem? hj
      simp at hm
      rcases hm with h | h | h | h
      · exact ⟨_, _, h, f1.up s2⟩
      · exact ⟨_, _, h, f2.up s2⟩
      · exact ⟨_, _, h, f3.up s2⟩
      · exact ⟨_, _, h, f4.up s2⟩
    walk_at "v"
    refine ⟨a, t, b, rfl, e, zb, fun r H3 s3 hr => ?_⟩
    obtain rfl : r = true := hr.mpr ⟨g.pos, g.co⟩
    walk_at "v"
    refine iteF ?_
    walk_at "v"
    exact hM _ _ ⟨s2.trans s3, _, rfl⟩
  · rintro σ H2 ⟨s2, v, rfl⟩
    walk_at "v"
    exact k H2 s2
end

theorem r_unpack4 {σ : St} {H : Hp} {K : PySem.W.Frag} {p : Addr} {x y z u : V} {i j k l : Nat} {R : St → Hp → Prop} (h : H p = some (.tup [x, y, z, u])) (q : R ((((σ.set i (some x)).set j (some y)).set k (some z)).set l (some u)) H) : gTup K 4 (gCons (gName i) (gCons (gName j) (gCons (gName k) (gCons (gName l) gNil)))) (.ref p) σ H R :=
  ⟨p, _, rfl, SqT.of h, rfl, x, _, rfl, y, _, rfl, z, _, rfl, u, _, rfl, rfl, q⟩
theorem r_sl {r : V → Option Int → Option Int → Hp → VK → Prop} {te : L2.TE} {tl th : L2.TO} {σ : St} {H : Hp} {Q : VK} (h : te σ H fun x H1 => tl σ H1 fun l H2 => th σ H2 fun u H3 => r x l u H3 Q) : tSl r te tl th σ H Q := h
theorem r_part {t : L2.TE} {σ : St} {H : Hp} {Q : Option Int → Hp → Prop} (h : t σ H fun x H1 => ∃ i, x = .int i ∧ Q (some i) H1) : tPart t σ H Q := h
theorem r_nopart {σ : St} {H : Hp} {Q : Option Int → Hp → Prop} (h : Q none H) : tNoPart σ H Q := h
theorem frneD {H : Hp} {p r : Addr} {q q' : Rat} {n m : Nat} {Q : VK} (f : FrAt H p q n) (f' : FrAt H r q' m) (k : Q (.bl (!decide (q = q'))) H) : rNeD (.ref p) (.ref r) H Q := by
  obtain ⟨t, b, e, g, _⟩ := f
  obtain ⟨t', b', e', g', _⟩ := f'
  refine ⟨_, _, .tup e (.cons (.int _) (.cons (.int _) .nil)), .tup e' (.cons (.int _) (.cons (.int _) .nil)), rfl, rfl, ?_⟩
  rw [fr_eqv g g']
  exact k
theorem fr_whole {H : Hp} {p : Addr} {t : Int} {n : Nat} (h : H p = some (.tup [.int t, .int 1])) (z : Sz n t) (hn : 1 ≤ n) : FrAt H p (t : Rat) n := ⟨t, 1, h, ⟨by decide, by simp, by grind⟩, z, one_sz hn⟩
theorem height_eq {s0 s1 f0 f1 e0 e1 l0 l1 u s h x0 x1 : Rat} (h1 : s0 = x0 * s1) (h2 : e0 = x1 * e1) (h3 : f0 = (s * x0 + h) * f1) (h4 : l0 = (s * x1 + h) * l1) : f0 * l1 * (e0 * s1 - s0 * e1) + (l0 * f1 - f0 * l1) * ((u * s1 - s0) * e1) = (s * u + h) * (f1 * l1 * (e0 * s1 - s0 * e1)) := by
  subst h1 h2 h3 h4
  grind
noncomputable def spHeightG : Sp := fun vs H Q _ => ∃ (p : Addr) (x0 x1 s h : Rat) (u : Int) (m n : Nat), vs = [.ref p, .int u] ∧ PcAt H (p, x0, s * x0 + h, x1, s * x1 + h) n ∧ x0 < x1 ∧ Sz m u ∧ m ≤ n ∧ n ≤ 10000 ∧ ∀ (z : Addr) (T B : Int) (H' : Hp), Same H H' → H' z = some (.tup [.int T, .int B]) → Qt T B (s * (u : Rat) + h) → Sz (5 * n + 8) T → Sz (5 * n + 8) B → Q (.ref z) H'
noncomputable def spNear : Sp := fun vs H Q _ => ∃ (p : Addr) (T B z b c : Int) (q : Rat) (n : Nat), vs = [.ref p, .int z, .int b, .int c] ∧ H p = some (.tup [.int T, .int B]) ∧ Qt T B q ∧ 1 ≤ b ∧ Sz n T ∧ Sz n B ∧ Sz 160 z ∧ Sz 160 b ∧ Sz 160 c ∧ n ≤ 100000 ∧ ∀ r : Bool, (r = true ↔ rabs ((z : Rat) / (b : Rat) - q) ≤ (c : Rat) / (b : Rat)) → Q (.bl r) H
structure BrP (hs : List Nn) (b c : Int) (n : Nat) (pt : Nat → Rat × Rat) : Prop where
  pos : 0 < n
  fst : (pt 0).1 = (nmo hs 0 : Rat)
  lst : (pt n).1 = (nmo hs (hs.length - 1) : Rat)
  lt : ∀ j, j < n → (pt j).1 < (pt (j + 1)).1
  ln : ∀ j, j < n → ∃ s h : Rat, (pt j).2 = s * (pt j).1 + h ∧ (pt (j + 1)).2 = s * (pt (j + 1)).1 + h ∧ ∀ i, i < hs.length → (pt j).1 ≤ (nmo hs i : Rat) → (nmo hs i : Rat) ≤ (pt (j + 1)).1 → rabs ((nno hs i : Rat) / (b : Rat) - (s * (nmo hs i : Rat) + h)) ≤ (c : Rat) / (b : Rat)
noncomputable def pcs (pt : Nat → Rat × Rat) (j : Nat) : Rat × Rat × Rat × Rat := ((pt j).1, (pt j).2, (pt (j + 1)).1, (pt (j + 1)).2)
noncomputable def spBroken : Sp := fun vs H Q _ => ∃ (D l : Addr) (ps : List Pc) (hs : List Nn) (b c : Int) (n : Nat) (pt : Nat → Rat × Rat), vs = [.ref D, .ref l, .int b, .int c] ∧ H D = some (.lst (prefs ps)) ∧ AllP H ps 8000 ∧ ps.map (·.2) = (List.range n).map (pcs pt) ∧ n ≤ 900 ∧ H l = some (.lst (nvals hs)) ∧ NRow H hs 46 160 ∧ AllN hs ∧ nrising hs ∧ 1 ≤ hs.length ∧ hs.length ≤ 900 ∧ 1 ≤ b ∧ Sz 160 b ∧ Sz 160 c ∧
  (hs.length = 1 → n = 1 ∧ pt 0 = ((nmo hs 0 : Rat), (nno hs 0 : Rat) / (b : Rat)) ∧ pt 1 = ((nmo hs 0 : Rat), (nno hs 0 : Rat) / (b : Rat))) ∧ (2 ≤ hs.length → BrP hs b c n pt) ∧ ∀ H', Same H H' → Q (.bl true) H'
theorem prefs_at {ps : List Pc} {i : Nat} {v : V} (h : (prefs ps)[i]? = some v) : ∃ x, ps[i]? = some x ∧ v = .ref x.1 := by
  unfold prefs at h
  rw [List.getElem?_map] at h
  cases e : ps[i]? with
  | none => rw [e] at h; cases h
  | some x => rw [e] at h; cases h; exact ⟨x, rfl, rfl⟩
theorem prefs_get {ps : List Pc} {i : Nat} {x : Pc} (h : ps[i]? = some x) : (prefs ps)[i]? = some (.ref x.1) := by
  unfold prefs
  rw [List.getElem?_map, h]
  rfl
theorem at_nn1 {hs : List Nn} {x : Nn} (h : hs[hs.length - 1]? = some x) : atI (nvals hs) (-1) = some (.ref x.1) := by
  have hl := (List.getElem?_eq_some_iff.mp h).1
  unfold atI
  rw [nvals_len, ix_last (m := hs.length - 1) (by walk_at "o")]
  exact nvals_get h
theorem prefs_ln (ps : List Pc) : (prefs ps).length = ps.length := List.length_map ..
theorem ptn_ne {H : Hp} {p r a b c d : Addr} {x y : Rat} {n m : Nat} {Q : VK} (hp : H p = some (.tup [.ref a, .ref b])) (hr : H r = some (.tup [.ref c, .ref d])) (fa : FrAt H a x n) (fb : FrAt H b y n) (fc : FrAt H c x m) (fd : FrAt H d y m) (k : Q (.bl false) H) : rNeD (.ref p) (.ref r) H Q := by
  obtain ⟨t1, d1, D1, F1⟩ := fa.den
  obtain ⟨t2, d2, D2, F2⟩ := fb.den
  obtain ⟨t3, d3, D3, F3⟩ := fc.den
  obtain ⟨t4, d4, D4, F4⟩ := fd.den
  refine ⟨_, _, .tup hp (.cons D1 (.cons D2 .nil)), .tup hr (.cons D3 (.cons D4 .nil)), rfl, rfl, ?_⟩
  have q : PyData.eqv (.tuple [.tuple [.int t1, .int d1], .tuple [.int t2, .int d2]]) (.tuple [.tuple [.int t3, .int d3], .tuple [.int t4, .int d4]]) = (PyData.eqv (.tuple [.int t1, .int d1]) (.tuple [.int t3, .int d3]) && (PyData.eqv (.tuple [.int t2, .int d2]) (.tuple [.int t4, .int d4]) && true)) := rfl
  rw [q, fr_eqv F1 F3, fr_eqv F2 F4, decide_eq_true rfl, decide_eq_true rfl]
  exact k
section
variable {P : Program} {w : World} {K : PySem.W.Frag} {mg : Str → Option Value} {base : Heap} {f : Addr} {fd : FuncData}
theorem sc_law_height : FnScope ["_law_some", "_law_moment", "_law_start", "_law_first", "_law_end", "_law_last", "_law_span", "_law_way", "_law_rise", "_law_top"] ["_law_some", "_law_moment"] (defScope s_law_height) := ⟨rfl, rfl, rfl, by decide +kernel, rfl, by decide +kernel, by decide +kernel⟩
theorem ok_law_height (F : Fun K "_law_height" "_law_height" s_law_height f fd) : FnOk P w K mg base CX0 1 f fd ["_law_some", "_law_moment"] spHeightG := by
  refine F.ok sc_law_height (fun vs H Q E h => ?_) (fun cdv A outer s H vs Q E hr h => ?_)
  · obtain ⟨p, x0, x1, s, h, u, m, n, rfl, _⟩ := h
    rfl
  obtain ⟨p, x0, x1, s, h, u, m, n, rfl, ⟨pa, pb, pc, pd, e, ⟨s0, s1, ea, ga, za0, za1⟩, ⟨f0, f1, eb, gb, zb0, zb1⟩, ⟨e0, e1, ec, gc, zc0, zc1⟩, ⟨l0, l1, ed, gd, zd0, zd1⟩⟩, hlt, zu, hmn, hn, k⟩ := h
  have hs1 := ga.pos
  have hf1 := gb.pos
  have he1 := gc.pos
  have hl1 := gd.pos
  have zu' : Sz n u := zu.mono hmn
  have y1 : Sz (2 * n) (e0 * s1) := (zc0.mul za1).mono (by walk_at "o")
  have y2 : Sz (2 * n) (s0 * e1) := (za0.mul zc1).mono (by walk_at "o")
  have y3 : Sz (2 * n + 1) (e0 * s1 - s0 * e1) := y1.sub y2
  have y4 : Sz (2 * n) (u * s1) := (zu'.mul za1).mono (by walk_at "o")
  have y5 : Sz (2 * n + 1) (u * s1 - s0) := y4.sub (za0.mono (by walk_at "o"))
  have y6 : Sz (3 * n + 1) ((u * s1 - s0) * e1) := (y5.mul zc1).mono (by walk_at "o")
  have y7 : Sz (2 * n) (l0 * f1) := (zd0.mul zb1).mono (by walk_at "o")
  have y8 : Sz (2 * n) (f0 * l1) := (zb0.mul zd1).mono (by walk_at "o")
  have y9 : Sz (2 * n + 1) (l0 * f1 - f0 * l1) := y7.sub y8
  have y10 : Sz (2 * n) (f1 * l1) := (zb1.mul zd1).mono (by walk_at "o")
  have i1 : IntMulOk e0 s1 := mulOk zc0 za1 (by walk_at "o")
  have i2 : IntMulOk s0 e1 := mulOk za0 zc1 (by walk_at "o")
  have i3 : IntMulOk u s1 := mulOk zu' za1 (by walk_at "o")
  have i4 : IntMulOk (u * s1 - s0) e1 := mulOk y5 zc1 (by walk_at "o")
  have i5 : IntMulOk l0 f1 := mulOk zd0 zb1 (by walk_at "o")
  have i6 : IntMulOk f0 l1 := mulOk zb0 zd1 (by walk_at "o")
  have i7 : IntMulOk (f0 * l1) (e0 * s1 - s0 * e1) := mulOk y8 y3 (by walk_at "o")
  have i8 : IntMulOk (l0 * f1 - f0 * l1) ((u * s1 - s0) * e1) := mulOk y9 y6 (by walk_at "o")
  have i9 : IntMulOk f1 l1 := mulOk zb1 zd1 (by walk_at "o")
  have i10 : IntMulOk (f1 * l1) (e0 * s1 - s0 * e1) := mulOk y10 y3 (by walk_at "o")
  refine J.l ⟨_, (J.f (Jd.ps_asg (J.a 0) (Jd.pgT K (n := 4) rfl (J.aa (J.r (i := 2) sc_law_height.nd rfl (Or.inl rfl)) (J.aa (J.r (i := 3) sc_law_height.nd rfl (Or.inl rfl)) (J.aa (J.r (i := 4) sc_law_height.nd rfl (Or.inl rfl)) (J.aa (J.r (i := 5) sc_law_height.nd rfl (Or.inl rfl)) Jd.pgs_nil))))))
      (J.f (J.i (i := 6) sc_law_height.nd rfl (Or.inl rfl) (J.g op_sub (J.g op_mulB (J.e (ixT K) (J.a 4) J.c (fun _ _ => rfl)) (J.e (ixT K) (J.a 2) J.c (fun _ _ => rfl))) (J.g op_mulB (J.e (ixT K) (J.a 2) J.c (fun _ _ => rfl)) (J.e (ixT K) (J.a 4) J.c (fun _ _ => rfl)))) (hs := sw_B))
      (J.f (J.i (i := 7) sc_law_height.nd rfl (Or.inl rfl) (J.g op_mulB (J.g op_sub (J.g op_mulB (J.a 1) (J.e (ixT K) (J.a 2) J.c (fun _ _ => rfl))) (J.e (ixT K) (J.a 2) J.c (fun _ _ => rfl))) (J.e (ixT K) (J.a 4) J.c (fun _ _ => rfl))) (hs := sw_B))
      (J.f (J.i (i := 8) sc_law_height.nd rfl (Or.inl rfl) (J.g op_sub (J.g op_mulB (J.e (ixT K) (J.a 5) J.c (fun _ _ => rfl)) (J.e (ixT K) (J.a 3) J.c (fun _ _ => rfl))) (J.g op_mulB (J.e (ixT K) (J.a 3) J.c (fun _ _ => rfl)) (J.e (ixT K) (J.a 5) J.c (fun _ _ => rfl)))) (hs := sw_B))
      (J.f (J.i (i := 9) sc_law_height.nd rfl (Or.inl rfl) (J.g op_add (J.g op_mulB (J.g op_mulB (J.e (ixT K) (J.a 3) J.c (fun _ _ => rfl)) (J.e (ixT K) (J.a 5) J.c (fun _ _ => rfl))) (J.a 6)) (J.g op_mulB (J.a 8) (J.a 7))) (hs := sw_B))
      (J.h (J.k (J.n (J.b (J.a 9) (J.b (J.g op_mulB (J.g op_mulB (J.e (ixT K) (J.a 3) J.c (fun _ _ => rfl)) (J.e (ixT K) (J.a 5) J.c (fun _ _ => rfl))) (J.a 6)) J.d st_B) st_N))))))))), ?_⟩
  walk_at "v"
  refine r_asg ?_
  walk_at "v"
  refine r_unpack4 e ?_
  walk_at "v"
  refine r_new (mk := .tup) (by simp) fun z H1 s1' n1 e1' => ?_
  have pB : 0 < e0 * s1 - s0 * e1 := by
    have hq := (gc.qt.lt_iff ga.qt)
    have hq' := (ga.qt.lt_iff gc.qt).mpr hlt
    omega
  have hB : 0 < f1 * l1 * (e0 * s1 - s0 * e1) := Int.mul_pos (Int.mul_pos (by walk_at "o") (by walk_at "o")) pB
  refine k z _ _ H1 s1' e1' ⟨by walk_at "o", ?_⟩ ((((y8.mul y3).mono (show _ ≤ 5 * n + 2 by walk_at "o")).add ((y9.mul y6).mono (show _ ≤ 5 * n + 2 by walk_at "o"))).mono (by walk_at "o")) ((y10.mul y3).mono (by walk_at "o"))
  simp only [Rat.intCast_mul, Rat.intCast_sub, Rat.intCast_add]
  exact height_eq ga.eq gc.eq gb.eq gd.eq
theorem sc_law_near : FnScope ["_law_high", "_law_number", "_law_bottom", "_law_bound"] ["_law_high", "_law_number", "_law_bottom", "_law_bound"] (defScope s_law_near) := ⟨rfl, rfl, rfl, by decide +kernel, rfl, by decide +kernel, by decide +kernel⟩
theorem ok_law_near (F : Fun K "_law_near" "_law_near" s_law_near f fd) (T : Txt mg) : FnOk P w K mg base CX0 1 f fd ["_law_high", "_law_number", "_law_bottom", "_law_bound"] spNear := by
  refine F.ok sc_law_near (fun vs H Q E h => ?_) (fun cdv A outer s H vs Q E hr h => ?_)
  · obtain ⟨p, T, B, z, b, c, q, n, rfl, _⟩ := h
    rfl
  obtain ⟨p, TT, B, z, b, c, q, n, rfl, e, hq, hb, zT, zB, zz, zb, zc, hn, k⟩ := h
  have hB := hq.pos
  refine J.l ⟨_, (J.h (J.k (J.ac op_le (J.s absC rfl T.abs_ PyProof.Rows.boot_abs (J.b (J.g op_sub (J.g op_mulB (J.e (ixT K) (J.a 0) J.c (fun _ _ => rfl)) (J.a 2)) (J.g op_mulB (J.a 1) (J.e (ixT K) (J.a 0) J.c (fun _ _ => rfl)))) J.d st_B) (he := st_B) (hpl := any0)) (J.g op_mulB (J.a 3) (J.e (ixT K) (J.a 0) J.c (fun _ _ => rfl))) (nomark _)))), ?_⟩
  walk_at "v"
  refine r_I (mulOk zT zb (by walk_at "o")) ?_
  walk_at "v"
  refine r_I (mulOk zz zB (by walk_at "o")) ?_
  walk_at "v"
  refine r_I (mulOk zc zB (by walk_at "o")) ?_
  walk_at "v"
  rw [abs_cast]
  refine k _ ?_
  rw [decide_eq_true_iff]
  have b0 : (0 : Rat) < (b : Rat) := cast_pos (by walk_at "o")
  have B0 : (0 : Rat) < (B : Rat) := cast_pos (by walk_at "o")
  have bn := cast_ne (b := b) (by walk_at "o")
  have pos : (0 : Rat) < ((b * B : Int) : Rat) := cast_pos (Int.mul_pos (by walk_at "o") (by walk_at "o"))
  have e1 : ((TT * b - z * B : Int) : Rat) = (q - (z : Rat) / (b : Rat)) * ((b * B : Int) : Rat) := by
    simp only [Rat.intCast_mul, Rat.intCast_sub, hq.eq]
    grind
  have e2 : ((c * B : Int) : Rat) = (c : Rat) / (b : Rat) * ((b * B : Int) : Rat) := by
    simp only [Rat.intCast_mul]
    grind
  have e3 : rabs ((z : Rat) / (b : Rat) - q) = rabs (q - (z : Rat) / (b : Rat)) := by
    rw [← rabs_neg]
    congr 1
    grind
  rw [← Rat.intCast_le_intCast, natAbs_rat, e1, rabs_mul pos, e2, e3]
  constructor
  · intro y
    exact Rat.le_of_mul_le_mul_right y pos
  · intro y
    exact Rat.mul_le_mul_of_nonneg_right y (by grind)
theorem cutl (xs : List V) (n : Nat) : cutV xs none (some (n : Int)) = xs.take n := by
  unfold cutV
  rw [HT.sIx_nat, show HT.sIx xs.length 0 none = 0 from rfl]
  simp
theorem cutk (xs : List V) (n : Nat) : cutV xs (some (n : Int)) none = xs.drop n := by
  unfold cutV
  rw [HT.sIx_nat, show HT.sIx xs.length xs.length none = xs.length from rfl]
  rcases Nat.le_total n xs.length with z | z
  · rw [Nat.min_eq_left z]
    exact List.take_of_length_le (by rw [List.length_drop]; exact Nat.le_refl _)
  · rw [Nat.min_eq_right z, List.drop_of_length_le z, List.drop_of_length_le (Nat.le_refl _)]
    simp
theorem sc_law_broken : FnScope ["_law_pieces", "_law_run", "_law_bottom", "_law_bound", "_law_begin", "_law_finish", "_law_value", "_law_k", "_law_moment", "_law_number", "_law_now"] ["_law_pieces", "_law_run", "_law_bottom", "_law_bound"] (defScope s_law_broken) := ⟨rfl, rfl, rfl, by decide +kernel, rfl, by decide +kernel, by decide +kernel⟩
theorem ok_law_broken (F : Fun K "_law_broken" "_law_broken" s_law_broken f fd) (T : Txt mg) (D_law_ratio : Dn P w K mg base 1 "_law_ratio" ["_law_top", "_law_bottom"] spRatio) (D_law_less : Dn P w K mg base 1 "_law_less" ["_law_one", "_law_other"] spLess) (D_law_near : Dn P w K mg base 1 "_law_near" ["_law_high", "_law_number", "_law_bottom", "_law_bound"] spNear) (D_law_height : Dn P w K mg base 1 "_law_height" ["_law_some", "_law_moment"] spHeightG) : FnOk P w K mg base CX0 2 f fd ["_law_pieces", "_law_run", "_law_bottom", "_law_bound"] spBroken := by
  refine F.ok sc_law_broken (fun vs H Q E h => ?_) (fun cdv A outer s H vs Q E hr h => ?_)
  · obtain ⟨D, l, ps, hs, b, c, n, pt, rfl, _⟩ := h
    rfl
  obtain ⟨D, l, ps, hs, b, c, n, pt, rfl, eD, hP, hmap, hn900, hl, hes, hS, hri, h1, h900, hb, zb, zc, hone, htwo, k⟩ := h
  have hu64 := hr.units
  have hpl : ps.length = n := by
    have := congrArg List.length hmap
    simpa using this
  have pat : ∀ {j : Nat} {x : Pc}, ps[j]? = some x → x.2 = pcs pt j := fun {j x} h => by
    have hj : j < ps.length := (List.getElem?_eq_some_iff.mp h).1
    have e1 : (ps.map (·.2))[j]? = some x.2 := by rw [List.getElem?_map, h]; rfl
    rw [hmap, List.getElem?_map, List.getElem?_range (by omega)] at e1
    exact (Option.some.inj e1).symm
  obtain ⟨xa, ga, ea, za, za2⟩ := nn_at hes hS (show 0 < hs.length by walk_at "o")
  obtain ⟨xb, gb, eb, zbm, _⟩ := nn_at hes hS (show hs.length - 1 < hs.length by walk_at "o")
  refine J.l ⟨_, (J.f (J.i (i := 4) sc_law_broken.nd rfl (Or.inl rfl) (J.n (J.b (J.e (ixT K) (J.e (ixL K) (J.a 1) J.c (fun _ _ => rfl)) J.c (fun _ _ => rfl)) (J.b J.c J.d st_C) st_S)) (hs := sw_T))
      (J.f (J.i (i := 5) sc_law_broken.nd rfl (Or.inl rfl) (J.n (J.b (J.e (ixT K) (J.e (ixL K) (J.a 1) (J.z un_neg J.c) (fun _ _ => rfl)) J.c (fun _ _ => rfl)) (J.b J.c J.d st_C) st_S)) (hs := sw_T))
      (J.f (J.o (J.m op_eq (J.s (lenC K) rfl T.len_ PySem.boot_len (J.b (J.a 1) J.d st_N) (he := st_N) (hpl := any0)) J.c (nomark _))
      (J.f (J.i (i := 6) sc_law_broken.nd rfl (Or.inl rfl) (J.j D_law_ratio (hr.mono (by decide)) rfl (J.b (J.e (ixT K) (J.e (ixL K) (J.a 1) J.c (fun _ _ => rfl)) J.c (fun _ _ => rfl)) (J.b (J.a 2) J.d st_N) st_S) (he := st_S) (hpl := (anyc st_N any0))) (hs := sw_K))
      (J.h (J.k (J.ac (op_eqD hu64) (J.a 0) (J.t (J.b (J.n (J.b (J.a 4) (J.b (J.a 6) (J.b (J.a 4) (J.b (J.a 6) J.d st_N) st_N) st_N) st_N)) J.d st_T)) (nomark _)))))
      J.q)
      (J.f (J.o (Jd.PWpt (Jd.pw_or (J.m op_eq (J.s (lenC K) rfl T.len_ PySem.boot_len (J.b (J.a 0) J.d st_N) (he := st_N) (hpl := any0)) J.c (nomark _)) (Jd.pw_or (J.m (op_neD hu64) (J.e (ixT K) (J.e (ixL K) (J.a 0) J.c (fun _ _ => rfl)) J.c (fun _ _ => rfl)) (J.a 4) (nomark _)) (Jd.pw_or1 (J.m (op_neD hu64) (J.e (ixT K) (J.e (ixL K) (J.a 0) (J.z un_neg J.c) (fun _ _ => rfl)) J.c (fun _ _ => rfl)) (J.a 5) (nomark _))))))
      (J.h (J.k Jd.pe_bl))
      J.q)
      (J.f (J.y PassesOwn.never rfl (Jd.pi_range1 rfl T.range (J.b (J.s (lenC K) rfl T.len_ PySem.boot_len (J.b (J.a 0) J.d st_N) (he := st_N) (hpl := any0)) J.d st_K)) (J.r (i := 7) sc_law_broken.nd rfl (Or.inl rfl))
      (J.f (J.o (Jd.pt_not (J.ab (J.j D_law_less (hr.mono (by decide)) rfl (J.b (J.e (ixT K) (J.e (ixL K) (J.a 0) (J.a 7) (fun _ _ => rfl)) J.c (fun _ _ => rfl)) (J.b (J.e (ixT K) (J.e (ixL K) (J.a 0) (J.a 7) (fun _ _ => rfl)) J.c (fun _ _ => rfl)) J.d st_S) st_S) (he := st_S) (hpl := (anyc st_S any0)))))
      (J.h (J.k Jd.pe_bl))
      J.q)
      (J.f (J.o (Jd.PWpt (Jd.pw_and (J.m op_gt (J.a 7) J.c (nomark _)) (Jd.pw_and1 (J.m (op_neD hu64) (Jd.pe_slice (slT K) (J.e (ixL K) (J.a 0) (J.a 7) (fun _ _ => rfl)) Jd.po_none (Jd.po_some J.c)) (Jd.pe_slice (slT K) (J.e (ixL K) (J.a 0) (J.g op_sub (J.a 7) J.c) (fun _ _ => rfl)) (Jd.po_some J.c) Jd.po_none) (nomark _)))))
      (J.h (J.k Jd.pe_bl))
      J.q)
      (J.h (J.y PassesOwn.never rfl (Jd.piL K (J.a 1)) (Jd.pgT K (n := 2) rfl (J.aa (J.r (i := 8) sc_law_broken.nd rfl (Or.inl rfl)) (J.aa (J.r (i := 9) sc_law_broken.nd rfl (Or.inl rfl)) Jd.pgs_nil)))
      (J.f (J.i (i := 10) sc_law_broken.nd rfl (Or.inl rfl) (J.n (J.b (J.a 8) (J.b J.c J.d st_C) st_N)) (hs := sw_T))
      (J.h (J.o (Jd.PWpt (Jd.pw_and (Jd.pt_not (J.ab (J.j D_law_less (hr.mono (by decide)) rfl (J.b (J.a 10) (J.b (J.e (ixT K) (J.e (ixL K) (J.a 0) (J.a 7) (fun _ _ => rfl)) J.c (fun _ _ => rfl)) J.d st_S) st_N) (he := st_N) (hpl := (anyc st_S any0))))) (Jd.pw_and1 (Jd.pt_not (J.ab (J.j D_law_less (hr.mono (by decide)) rfl (J.b (J.e (ixT K) (J.e (ixL K) (J.a 0) (J.a 7) (fun _ _ => rfl)) J.c (fun _ _ => rfl)) (J.b (J.a 10) J.d st_N) st_S) (he := st_S) (hpl := (anyc st_N any0))))))))
      (J.h (J.o (Jd.pt_not (J.ab (J.j D_law_near (hr.mono (by decide)) rfl (J.b (J.j D_law_height (hr.mono (by decide)) rfl (J.b (J.e (ixL K) (J.a 0) (J.a 7) (fun _ _ => rfl)) (J.b (J.a 8) J.d st_N) st_S) (he := st_S) (hpl := (anyc st_N any0))) (J.b (J.a 9) (J.b (J.a 2) (J.b (J.a 3) J.d st_N) st_N) st_N) st_K) (he := st_K) (hpl := (anyc st_N (anyc st_N (anyc st_N any0)))))))
      (J.h (J.k Jd.pe_bl))
      J.q))
      J.q))))))))
      (J.h (J.k Jd.pe_bl))))))), ?_⟩
  walk_at "v"
  refine r_l hl (at_nval ga rfl) ?_
  walk_at "v"
  refine r_new (mk := .tup) (by simp) fun be H1 s1 n1 e1 => ?_
  have fbe := fr_whole e1 za (by decide)
  have hl1 := s1 _ _ hl
  have eb1 := s1 _ _ eb
  walk_at "v"
  refine r_l hl1 (at_nn1 gb) ?_
  walk_at "v"
  refine r_new (mk := .tup) (by simp) fun fi H2 s2 n2 e2 => ?_
  have ffi := fr_whole e2 zbm (by decide)
  have s02 := s1.trans s2
  have hl2 := s02 _ _ hl
  walk_at "v"
  refine r_len (.inl (SqL.of hl2)) ?_
  rw [nvals_len]
  walk_at "v"
  refine ite2 (fun c1 => ?_) (fun c1 => ?_)
  · have c1' := of_decide_eq_true c1
    obtain ⟨hn1, p0, p1⟩ := hone (by walk_at "o")
    have ea2 := s02 _ _ ea
    walk_at "v"
    refine r_l hl2 (at_nval ga rfl) ?_
    walk_at "v"
    refine frac_gen (n := 160) (by walk_at "o") za2 zb (by decide) fun pv H3 s3 f3 => ?_
    walk_at "v"
    refine r_new (mk := .tup) (by simp) fun tp H4 s4 n4 e4 => ?_
    walk_at "v"
    refine r_new (mk := .lst) (by simp) fun L5 H5 s5 n5 e5 => ?_
    have s25 := s3.trans (s4.trans s5)
    walk_at "v"
    have hQ : AllP H5 [(tp, ((nmo hs 0 : Rat), (nno hs 0 : Rat) / (b : Rat), (nmo hs 0 : Rat), (nno hs 0 : Rat) / (b : Rat)))] 160 := fun x hx => by
      obtain rfl : x = (tp, ((nmo hs 0 : Rat), (nno hs 0 : Rat) / (b : Rat), (nmo hs 0 : Rat), (nno hs 0 : Rat) / (b : Rat))) := by simpa using hx
      have q1 := (fbe.up (s2.trans s25)).mono (show 46 ≤ 160 by decide)
      have q2 := f3.up (s4.trans s5)
      exact ⟨be, pv, be, pv, s5 _ _ e4, q1, q2, q1, q2⟩
    refine pieces_eq (hP.up (s02.trans s25)) hQ ((s02.trans s25) _ _ eD) e5 ?_ (k H5 (s02.trans s25))
    rw [hmap, hn1]
    show [pcs pt 0] = _
    unfold pcs
    rw [p0, p1]
    rfl
  · have c1' := of_decide_eq_false (Bool.eq_false_iff.mpr c1)
    have hB := htwo (by walk_at "o")
    have hpos := hB.pos
    obtain ⟨x0, g0⟩ : ∃ x, ps[0]? = some x := ⟨ps[0], List.getElem?_eq_getElem (by omega)⟩
    obtain ⟨xl, gl⟩ : ∃ x, ps[ps.length - 1]? = some x := ⟨ps[ps.length - 1], List.getElem?_eq_getElem (by omega)⟩
    obtain ⟨a0, b0, c0, d0, ex0, fa0, _, _, _⟩ := (hP x0 (List.mem_of_getElem? g0)).up s02
    obtain ⟨al, bl, cl, dl, exl, _, _, fcl, _⟩ := (hP xl (List.mem_of_getElem? gl)).up s02
    have eD2 := s02 _ _ eD
    walk_at "v"
    refine r_len (.inl (SqL.of eD2)) ?_
    rw [prefs_ln]
    walk_at "v"
    rw [show decide (((ps.length : Nat) : Int) = 0) = false from decide_eq_false (by walk_at "o")]
    refine iteF ?_
    walk_at "v"
    refine r_l eD2 (atI_nat (j := 0) (prefs_get g0)) ?_
    walk_at "v"
    refine frneD fa0 (fbe.up s2) ?_
    rw [pat g0, show (pcs pt 0).1 = (nmo hs 0 : Rat) from hB.fst, decide_eq_true rfl]
    walk_at "v"
    refine iteF ?_
    walk_at "v"
    refine r_l eD2 (v := .ref xl.1) ?_ ?_
    · unfold atI
      rw [ix_last (m := ps.length - 1) (by rw [prefs_ln]; walk_at "o")]
      exact prefs_get gl
    walk_at "v"
    refine frneD fcl ffi ?_
    rw [pat gl, show (pcs pt (ps.length - 1)).2.2.1 = (nmo hs (hs.length - 1) : Rat) by
      have := hB.lst
      unfold pcs
      rw [show ps.length - 1 + 1 = n by omega]
      exact this, decide_eq_true rfl]
    walk_at "v"
    refine iteF ?_
    walk_at "v"
    refine r_for (r_rng1 ?_)
    walk_at "v"
    refine r_len (.inl (SqL.of eD2)) ?_
    rw [prefs_ln]
    walk_at "v"
    refine ⟨_, rfl, by lia, by lia, for_range (fun j σ H3 => ∃ (v6 v7 v8 v9 v10 : Option V), σ = [some (.ref D), some (.ref l), some (.int b), some (.int c), some (.ref be), some (.ref fi), v6, v7, v8, v9, v10] ∧ Same H2 H3) ?_ ?_ ?_⟩
    · exact ⟨none, none, none, none, none, rfl, Same.refl _⟩
    · rintro j σ H3 hj ⟨v6, v7, v8, v9, v10, rfl, s3⟩
      have hj' : j < n := by walk_at "o"
      rw [show (0 : Int) + (j : Int) = (j : Int) by walk_at "o"]
      obtain ⟨x, gx⟩ : ∃ x, ps[j]? = some x := ⟨ps[j], List.getElem?_eq_getElem (by omega)⟩
      have hx := pat gx
      obtain ⟨sl, ht, y0, y1, near⟩ := hB.ln j hj'
      have s03 := s02.trans s3
      have eD3 := s03 _ _ eD
      obtain ⟨a, b', c', d, ex, fa, fb, fc, fd'⟩ := (hP x (List.mem_of_getElem? gx)).up s03
      have hlt := hB.lt j hj'
      have qa : x.2.1 = (pt j).1 := by rw [hx]; rfl
      have qb : x.2.2.1 = (pt j).2 := by rw [hx]; rfl
      have qc : x.2.2.2.1 = (pt (j + 1)).1 := by rw [hx]; rfl
      have qd : x.2.2.2.2 = (pt (j + 1)).2 := by rw [hx]; rfl
      refine body_cut fun M B R hM hB' hR => ?_
      walk_at "v"
      refine r_l eD3 (atI_nat (prefs_get gx)) ?_
      walk_at "v"
      refine r_l eD3 (atI_nat (prefs_get gx)) ?_
      walk_at "v"
      refine ⟨a, c', _, _, 8000, 8000, rfl, fa.qt, fc.qt, by decide, fun o ho => ?_⟩
      obtain rfl : o = true := ho.mpr (by rw [qa, qc]; exact hlt)
      walk_at "v"
      refine iteF ?_
      refine nx_of ?_
      refine seq_cut (fun σ' H' => σ' = [some (.ref D), some (.ref l), some (.int b), some (.int c), some (.ref be), some (.ref fi), v6, some (.int (j : Int)), v8, v9, v10] ∧ Same H3 H') (fun σ' H4 hPP => ?_) (fun N rest => ?_)
      rotate_left
      · walk_at "v"
        refine ite2 (fun c2 => ?_) (fun c2 => ?_)
        · have c2' := of_decide_eq_true c2
          obtain ⟨x', gx'⟩ : ∃ x, ps[j - 1]? = some x := ⟨ps[j - 1], List.getElem?_eq_getElem (by omega)⟩
          have hx' := pat gx'
          obtain ⟨a2, b2, c2, d2, ex', fa2, fb2, fc2, fd2⟩ := (hP x' (List.mem_of_getElem? gx')).up s03
          walk_at "v"
          refine r_sl ?_
          walk_at "v"
          refine r_l eD3 (atI_nat (prefs_get gx)) ?_
          refine r_nopart ?_
          refine r_part ?_
          walk_at "v"
          refine ⟨_, rfl, x.1, _, rfl, SqT.of ex, (show ¬ (HT.sIx 4 0 none = 0 ∧ HT.sIx 4 4 (some 2) = 4) by decide), fun q1 nq1 => ?_⟩
          rw [show (2 : Int) = ((2 : Nat) : Int) from rfl, cutl]
          have t1 : Same H3 (upd H3 q1 (.tup ([V.ref a, V.ref b', V.ref c', V.ref d].take 2))) := same_new nq1 _
          have w1 : upd H3 q1 (.tup ([V.ref a, V.ref b', V.ref c', V.ref d].take 2)) q1 = some (.tup [.ref a, .ref b']) := by rw [upd_same]; rfl
          generalize upd H3 q1 (.tup ([V.ref a, V.ref b', V.ref c', V.ref d].take 2)) = H5 at *
          walk_at "v"
          refine r_sl ?_
          walk_at "v"
          refine r_l (t1 _ _ eD3) (show atI (prefs ps) ((j : Int) - 1) = some (.ref x'.1) by rw [show (j : Int) - 1 = ((j - 1 : Nat) : Int) by omega]; exact atI_nat (prefs_get gx')) ?_
          refine r_part ?_
          walk_at "v"
          refine ⟨_, rfl, r_nopart ?_⟩
          refine ⟨x'.1, _, rfl, SqT.of (t1 _ _ ex'), (show ¬ (HT.sIx 4 0 (some 2) = 0 ∧ HT.sIx 4 4 none = 4) by decide), fun q2 nq2 => ?_⟩
          rw [cutk]
          have t2 : Same H5 (upd H5 q2 (.tup ([V.ref a2, V.ref b2, V.ref c2, V.ref d2].drop 2))) := same_new nq2 _
          have w2 : upd H5 q2 (.tup ([V.ref a2, V.ref b2, V.ref c2, V.ref d2].drop 2)) q2 = some (.tup [.ref c2, .ref d2]) := by rw [upd_same]; rfl
          generalize upd H5 q2 (.tup ([V.ref a2, V.ref b2, V.ref c2, V.ref d2].drop 2)) = H6 at *
          have s36 := t1.trans t2
          walk_at "v"
          have e1 : x'.2.2.2.1 = x.2.1 := by rw [hx', qa]; show (pt (j - 1 + 1)).1 = _; rw [show j - 1 + 1 = j by omega]
          have e2 : x'.2.2.2.2 = x.2.2.1 := by rw [hx', qb]; show (pt (j - 1 + 1)).2 = _; rw [show j - 1 + 1 = j by omega]
          rw [e1] at fc2
          rw [e2] at fd2
          refine ptn_ne (t2 _ _ w1) w2 (fa.up s36) (fb.up s36) (fc2.up s36) (fd2.up s36) ?_
          walk_at "v"
          refine iteF ?_
          walk_at "v"
          exact rest _ _ ⟨rfl, s36⟩
        · walk_at "v"
          refine iteF ?_
          walk_at "v"
          exact rest _ _ ⟨rfl, Same.refl _⟩
      obtain ⟨rfl, s4⟩ := hPP
      have s04 := s03.trans s4
      walk_at "v"
      refine r_for (r_iL ?_)
      walk_at "v"
      refine ⟨l, rfl, ⟨_, SqL.of (s04 _ _ hl)⟩, for_list (xs := nvals hs) (fun i σ H5 => ∃ (v8 v9 v10 : Option V), σ = [some (.ref D), some (.ref l), some (.int b), some (.int c), some (.ref be), some (.ref fi), v6, some (.int (j : Int)), v8, v9, v10] ∧ Same H4 H5) ⟨_, _, _, rfl, Same.refl _⟩ ?_ ?_ ?_⟩
      · rintro i σ H5 _ ⟨v8, v9, v10, rfl, s5⟩
        exact SqL.of ((s04.trans s5) _ _ hl)
      · rintro i v σ H5 hv ⟨v8, v9, v10, rfl, s5⟩
        obtain ⟨y, hy, rfl⟩ := nvals_at hv
        have hi : i < hs.length := (List.getElem?_eq_some_iff.mp hy).1
        have s05 := s04.trans s5
        obtain ⟨xi, gi, ei, zm, zz⟩ := nn_at (hes.up s05) hS hi
        rw [hy] at gi
        cases gi
        have s35 := s4.trans s5
        refine r_unpack2 ei ?_
        walk_at "v"
        refine r_new (mk := .tup) (by simp) fun nw H6 s6 n6 e6 => ?_
        have fnw := fr_whole e6 zm (by decide)
        have s36 := s35.trans s6
        have eD6 := s36 _ _ eD3
        have ex6 := s36 _ _ ex
        walk_at "v"
        refine r_l eD6 (atI_nat (prefs_get gx)) ?_
        walk_at "v"
        refine ⟨nw, a, _, _, 46, 8000, rfl, fnw.qt, (fa.up s36).qt, by decide, fun o1 ho1 => ?_⟩
        walk_at "v"
        cases o1 with
        | true =>
          refine iteF ?_
          walk_at "v"
          refine iteF ?_
          walk_at "v"
          exact ⟨_, _, _, rfl, s5.trans s6⟩
        | false =>
          have q1 : ¬ (nmo hs i : Rat) < x.2.1 := fun z => absurd (ho1.mpr z) (by decide)
          refine iteT ?_
          walk_at "v"
          refine r_l eD6 (atI_nat (prefs_get gx)) ?_
          walk_at "v"
          refine ⟨c', nw, _, _, 8000, 46, rfl, (fc.up s36).qt, fnw.qt, by decide, fun o2 ho2 => ?_⟩
          walk_at "v"
          cases o2 with
          | true =>
            refine iteF ?_
            walk_at "v"
            exact ⟨_, _, _, rfl, s5.trans s6⟩
          | false =>
            have q2 : ¬ x.2.2.2.1 < (nmo hs i : Rat) := fun z => absurd (ho2.mpr z) (by decide)
            have nr := near i hi (by rw [← qa]; exact Rat.not_lt.mp q1) (by rw [← qc]; exact Rat.not_lt.mp q2)
            refine iteT ?_
            walk_at "v"
            refine r_l eD6 (atI_nat (prefs_get gx)) ?_
            walk_at "v"
            have pcx : PcAt H6 (x.1, (pt j).1, sl * (pt j).1 + ht, (pt (j + 1)).1, sl * (pt (j + 1)).1 + ht) 8000 := by
              rw [← y0, ← y1, ← qa, ← qb, ← qc, ← qd]
              exact (hP x (List.mem_of_getElem? gx)).up (s03.trans s36)
            refine ⟨x.1, (pt j).1, (pt (j + 1)).1, sl, ht, nmo hs i, 46, 8000, rfl, pcx, hlt, zm, by decide, by decide, fun z TT BB H7 s7 e7 hQ zT zB => ?_⟩
            walk_at "v"
            refine ⟨z, TT, BB, nno hs i, b, c, _, _, rfl, e7, hQ, hb, zT, zB, zz, zb, zc, by decide, fun o3 ho3 => ?_⟩
            obtain rfl : o3 = true := ho3.mpr nr
            walk_at "v"
            refine iteF ?_
            walk_at "v"
            exact ⟨_, _, _, rfl, s5.trans (s6.trans s7)⟩
      · rintro σ H5 ⟨v8, v9, v10, rfl, s5⟩
        exact hM _ _ ⟨_, _, _, _, _, rfl, s3.trans (s4.trans s5)⟩
    · rintro σ H3 ⟨v6, v7, v8, v9, v10, rfl, s3⟩
      walk_at "v"
      exact k H3 (s02.trans s3)
end

theorem Tr.one {es : List En} {β : Rat} {fl ro : Nat} {ks : List (Rat × Rat)} {ts : List (Bool × Nat × Nat × Nat)} (h : Tr es β 1 fl ro ks ts) : ks = [] := by
  cases h with
  | stay h hk hP hP' hN => cases h; rfl
  | cap h hk hP hC => have := hC.lb; simp at this
  | cup h hk hP hn hC => have := hC.lb; simp at this
theorem meet_eq {ks : List (Rat × Rat)} {j : Nat} (h : lsl ks j ≠ lsl ks (j + 1)) : lsl ks j * xAt ks j + lhl ks j = lsl ks (j + 1) * xAt ks j + lhl ks (j + 1) := by
  unfold xAt
  generalize hD : lsl ks j - lsl ks (j + 1) = D
  have : lsl ks j = D + lsl ks (j + 1) := by grind
  have hD0 : D ≠ 0 := by grind
  rw [this]
  grind
theorem jrun_br {H : Hp} {b c : Int} {N : Nat} {r : List En} {hs : List Nn} {z : List Pc × List Th} (hb : 1 ≤ b) (hc : 0 ≤ c) (hβ : (0 : Rat) ≤ (c : Rat) / (b : Rat)) (h : r.map (·.2) = hs.map (fun x => nworth b x.2)) (hr : nrising hs) (h1 : 1 ≤ hs.length) (hJ : JRun H ((c : Rat) / (b : Rat)) N r z) :
    ∃ (n : Nat) (pt : Nat → Rat × Rat), z.1.map (·.2) = (List.range n).map (pcs pt) ∧ n ≤ r.length + 1 ∧ (hs.length = 1 → n = 1 ∧ pt 0 = ((nmo hs 0 : Rat), (nno hs 0 : Rat) / (b : Rat)) ∧ pt 1 = ((nmo hs 0 : Rat), (nno hs 0 : Rat) / (b : Rat))) ∧ (2 ≤ hs.length → BrP hs b c n pt) := by
  obtain ⟨_, _, ks, L, fl, ro, g, s, hTr, hP, hN, hps⟩ := hJ
  have hlen := link_len h
  have hre := link_rising h hr
  have lk := link_at h
  have hF := hN.feas hP hβ
  obtain ⟨hg, ho⟩ := hTr.good hre L hF
  have hsep := (hTr.ch L hF).sep hre
  have hl : (ks ++ [L]).length = ks.length + 1 := by simp
  obtain ⟨hfl, hro⟩ := hP.lt (by omega)
  generalize hLs : ks ++ [L] = Ls at *
  refine ⟨ks.length + 1, ptOf Ls (mo r 0) (mo r (r.length - 1)), hps, by have := hTr.len.2; omega, fun e1 => ?_, fun e2 => ?_⟩
  · have hk0 : ks = [] := by
      rw [hlen, e1] at hTr
      exact hTr.one
    have hn2 := hP.two.mp (by omega)
    have eL : L.1 = 0 ∧ L.2 = wo r 0 := by
      rcases hN with ⟨hc', _⟩ | ⟨_, _, eT, ef⟩
      · rcases hc' with q | ⟨_, q⟩
        · rw [hn2.1] at q; cases q
        · rw [hn2.2] at q; cases q
      · rw [show fl = 0 by omega] at ef
        exact ⟨eT, ef⟩
    subst hk0
    have e0 := lsl_last (ks := []) (L := L)
    rw [hLs] at e0
    have e0' : lsl Ls 0 = L.1 ∧ lhl Ls 0 = L.2 := e0
    have q0 : ptOf Ls (mo r 0) (mo r (r.length - 1)) 0 = ((nmo hs 0 : Rat), (nno hs 0 : Rat) / (b : Rat)) := by
      unfold ptOf
      rw [if_pos rfl, e0'.1, e0'.2, eL.1, eL.2, (lk 0).1, (lk 0).2]
      congr 1
      grind
    refine ⟨rfl, q0, ?_⟩
    unfold ptOf
    rw [if_neg (by decide), if_neg (by rw [hl]; simp), hl, show ([] : List (Rat × Rat)).length + 1 - 1 = 0 from rfl, e0'.1, e0'.2, eL.1, eL.2, show r.length - 1 = 0 by omega, (lk 0).1, (lk 0).2]
    congr 1
    grind
  · have pstart : ∀ j, 0 < j → j < Ls.length → ptOf Ls (mo r 0) (mo r (r.length - 1)) j = (xAt Ls (j - 1), lsl Ls (j - 1) * xAt Ls (j - 1) + lhl Ls (j - 1)) := fun j h0 hj => by
      unfold ptOf
      rw [if_neg (by omega), if_pos hj]
    have pzero : ptOf Ls (mo r 0) (mo r (r.length - 1)) 0 = ((mo r 0 : Rat), lsl Ls 0 * (mo r 0 : Rat) + lhl Ls 0) := by
      unfold ptOf
      rw [if_pos rfl]
    have pend : ptOf Ls (mo r 0) (mo r (r.length - 1)) Ls.length = ((mo r (r.length - 1) : Rat), lsl Ls (Ls.length - 1) * (mo r (r.length - 1) : Rat) + lhl Ls (Ls.length - 1)) := by
      unfold ptOf
      rw [if_neg (by omega), if_neg (by omega)]
    refine ⟨by omega, by rw [pzero, (lk 0).1], by rw [← hl, pend, (lk _).1, hlen], fun j hj => ?_, fun j hj => ?_⟩
    · by_cases j0 : j = 0
      · subst j0
        rw [pzero]
        by_cases e : Ls.length = 1
        · rw [show (0 : Nat) + 1 = Ls.length by omega, pend]
          have := mo_pos hre (show 0 < r.length - 1 by omega) (by omega)
          show (mo r 0 : Rat) < (mo r (r.length - 1) : Rat)
          grind
        · rw [pstart 1 (by omega) (by omega)]
          exact ho.fst (by omega)
      · rw [pstart j (by omega) (by omega)]
        by_cases e : j + 1 = Ls.length
        · rw [e, pend]
          have l := ho.lst (by omega)
          have m1 := mo_le hre (show max fl ro ≤ r.length - 1 by omega) (by omega)
          rw [show Ls.length - 2 = j - 1 by omega] at l
          show xAt Ls (j - 1) < (mo r (r.length - 1) : Rat)
          grind
        · rw [pstart (j + 1) (by omega) (by omega)]
          have := ho.up (j - 1) (by omega)
          rw [show j - 1 + 1 = j by omega] at this
          exact this
    · refine ⟨lsl Ls j, lhl Ls j, ?_, ?_, fun i hi a1 a2 => ?_⟩
      · by_cases j0 : j = 0
        · subst j0
          rw [pzero]
        · rw [pstart j (by omega) (by omega)]
          have := meet_eq (hsep (j - 1) (by omega))
          rw [show j - 1 + 1 = j by omega] at this
          exact this
      · by_cases e : j + 1 = Ls.length
        · rw [e, pend, show Ls.length - 1 = j by omega]
        · rw [pstart (j + 1) (by omega) (by omega)]
          rfl
      · have := hg j (by omega) i (by omega) (by
          by_cases j0 : j = 0
          · exact .inl j0
          · rw [pstart j (by omega) (by omega)] at a1
            rw [(lk i).1]
            exact .inr a1) (by
          by_cases e : j + 1 = Ls.length
          · exact .inl e
          · rw [pstart (j + 1) (by omega) (by omega)] at a2
            rw [(lk i).1]
            exact .inr a2)
        rw [(lk i).1, (lk i).2] at this
        exact this
noncomputable def pall (zs : List (List Pc × List Th)) : List Pc := (zs.map (·.1)).flatten
theorem jtel_pall (zs : List (List Pc × List Th)) : jtel zs = prefs (pall zs) := by
  unfold jtel prefs pall
  rw [List.map_flatten, List.map_map]
  rfl
section
variable {p q : Nat → Bool} {js : List Nat} {a k t : Nat}
noncomputable def below (p : Nat → Bool) (js : List Nat) (a : Nat) : Nat := (js.filter fun t => decide (t < a) && p t).length
theorem below_cons (p : Nat → Bool) (x : Nat) (js : List Nat) (a : Nat) : below p (x :: js) a = (if x < a ∧ p x = true then 1 else 0) + below p js a := by
  unfold below
  by_cases h : x < a ∧ p x = true
  · rw [List.filter_cons_of_pos (by simp [h.1, h.2]), if_pos h, List.length_cons]
    omega
  · rw [List.filter_cons_of_neg (by simpa using h), if_neg h]
    omega
theorem below_le (h : a ≤ k) : below p js a ≤ below p js k := by
  induction js with
  | nil => exact Nat.le_refl _
  | cons x js ih =>
    rw [below_cons, below_cons]
    split <;> split <;> first | omega | (rename_i u1 u2; exact absurd ⟨by omega, u1.2⟩ u2)
theorem below_lt (m : t ∈ js) (h1 : a ≤ t) (h2 : t < k) (hp : p t = true) : below p js a + 1 ≤ below p js k := by
  induction js with
  | nil => cases m
  | cons x js ih =>
    rw [below_cons, below_cons]
    rcases List.mem_cons.mp m with rfl | m
    · rw [if_neg (by omega), if_pos ⟨h2, hp⟩]
      have := below_le (p := p) (js := js) (show a ≤ k by omega)
      omega
    · have := ih m
      split <;> split <;> first | omega | (rename_i u1 u2; exact absurd ⟨by omega, u1.2⟩ u2)
theorem below_two (h : ∀ t, p t = true → q t = true → False) : below p js a + below q js k ≤ js.length := by
  induction js with
  | nil => exact Nat.le_refl _
  | cons x js ih =>
    rw [below_cons, below_cons, List.length_cons]
    split <;> split <;> first | omega | (rename_i h1 h2; exact (h x h1.2 h2.2).elim)
end
section
variable {F sg : Nat → Int} {S a b k : Nat}
theorem sum_le {s : Int} (hF : ∀ u, u < S → F (u + 1) = F u + sg u) : ∀ d : Nat, a + d ≤ S → (∀ t, a ≤ t → t < a + d → sg t ≤ s) → F (a + d) - F a ≤ (d : Int) * s
  | 0, _, _ => by simp
  | d + 1, h1, h2 => by
    have i := sum_le hF d (by omega) fun t x y => h2 t x (by omega)
    have e := hF (a + d) (by omega)
    have u := h2 (a + d) (by omega) (by omega)
    rw [show a + (d + 1) = a + d + 1 by omega, e]
    have : ((d + 1 : Nat) : Int) * s = (d : Int) * s + s := by
      rw [Int.natCast_add, Int.add_mul]
      simp
    omega
theorem sum_ge {s : Int} (hF : ∀ u, u < S → F (u + 1) = F u + sg u) (d : Nat) (h1 : a + d ≤ S) (h2 : ∀ t, a ≤ t → t < a + d → s ≤ sg t) : (d : Int) * s ≤ F (a + d) - F a := by
  have := sum_le (F := fun u => - F u) (sg := fun u => - sg u) (S := S) (s := -s) (fun u hu => by have := hF u hu; omega) d h1 fun t x y => by have := h2 t x y; omega
  rw [Int.mul_neg] at this
  omega
theorem slopes_up (h : ∀ t, a < t → t < k → sg (t - 1) ≤ sg t) : ∀ d i : Nat, a ≤ i → i + d < k → sg i ≤ sg (i + d)
  | 0, _, _, _ => Int.le_refl _
  | d + 1, i, h1, h2 => by
    have i1 := slopes_up h d i h1 (by omega)
    have i2 := h (i + (d + 1)) (by omega) h2
    rw [show i + (d + 1) - 1 = i + d by omega] at i2
    omega
theorem no_rise (hF : ∀ u, u < S → F (u + 1) = F u + sg u) (h1 : a < b) (h2 : b < k) (h3 : k ≤ S) (h : ∀ t, a < t → t < k → sg (t - 1) ≤ sg t) : F b * ((k : Int) - a) ≤ F a * ((k : Int) - b) + F k * ((b : Int) - a) := by
  have up := slopes_up h
  have l1 := sum_le (a := a) (s := sg (b - 1)) hF (b - a) (by omega) fun t x y => by
    have := up (b - 1 - t) t x (by omega)
    rw [show t + (b - 1 - t) = b - 1 by omega] at this
    exact this
  have l2 := sum_ge (a := b) (s := sg (b - 1)) hF (k - b) (by omega) fun t x y => by
    have := up (t - (b - 1)) (b - 1) (by omega) (by omega)
    rw [show b - 1 + (t - (b - 1)) = t by omega] at this
    exact this
  rw [show a + (b - a) = b by omega, show ((b - a : Nat) : Int) = (b : Int) - a by omega] at l1
  rw [show b + (k - b) = k by omega, show ((k - b : Nat) : Int) = (k : Int) - b by omega] at l2
  have d1 : (0 : Int) ≤ (k : Int) - b := by omega
  have d2 : (0 : Int) ≤ (b : Int) - a := by omega
  have m1 := Int.mul_le_mul_of_nonneg_right l1 d1
  have m2 := Int.mul_le_mul_of_nonneg_right l2 d2
  have e : ((b : Int) - a) * sg (b - 1) * ((k : Int) - b) = ((k : Int) - b) * sg (b - 1) * ((b : Int) - a) := by grind
  have f1 : F b * ((k : Int) - a) = (F b - F a) * ((k : Int) - b) + F a * ((k : Int) - b) + F b * ((b : Int) - a) := by grind
  have f2 : F k * ((b : Int) - a) = (F k - F b) * ((b : Int) - a) + F b * ((b : Int) - a) := by grind
  rw [f1, f2]
  generalize (F b - F a) * ((k : Int) - b) = X at *
  generalize (F k - F b) * ((b : Int) - a) = Y at *
  generalize F a * ((k : Int) - b) = Z at *
  generalize F b * ((b : Int) - a) = U at *
  omega
theorem falls (hF : ∀ u, u < S → F (u + 1) = F u + sg u) (h1 : a < b) (h2 : b < k) (h3 : k ≤ S) (h : F a * ((k : Int) - b) + F k * ((b : Int) - a) < F b * ((k : Int) - a)) : ∃ t, a < t ∧ t < k ∧ sg t < sg (t - 1) := Classical.byContradiction fun z =>
  absurd (no_rise hF h1 h2 h3 fun t x y => Int.not_lt.mp fun u => z ⟨t, x, y, u⟩) (by omega)
theorem rises (hF : ∀ u, u < S → F (u + 1) = F u + sg u) (h1 : a < b) (h2 : b < k) (h3 : k ≤ S) (h : F b * ((k : Int) - a) < F a * ((k : Int) - b) + F k * ((b : Int) - a)) : ∃ t, a < t ∧ t < k ∧ sg (t - 1) < sg t := by
  obtain ⟨t, x, y, u⟩ := falls (F := fun u => - F u) (sg := fun u => - sg u) (S := S) (fun u hu => by have := hF u hu; omega) h1 h2 h3 (by rw [Int.neg_mul, Int.neg_mul, Int.neg_mul]; omega)
  exact ⟨t, x, y, by omega⟩
end
theorem Tr.few {es : List En} {β : Rat} (hr : rising es) {C W : Nat → Nat} (hC : ∀ a b k, a < b → b < k → k < es.length → 2 * β < sd es a b k → C a + 1 ≤ C k) (hW : ∀ a b k, a < b → b < k → k < es.length → sd es a b k < -(2 * β) → W a + 1 ≤ W k) (mC : ∀ i j, i ≤ j → j < es.length → C i ≤ C j) (mW : ∀ i j, i ≤ j → j < es.length → W i ≤ W j)
    {k fl ro : Nat} {ks : List (Rat × Rat)} {ts : List (Bool × Nat × Nat × Nat)} (h : Tr es β k fl ro ks ts) : ks.length ≤ C ro + W fl := by
  induction h with
  | nil => exact Nat.zero_le _
  | stay h hk hP hP' hN ih => exact ih
  | @cap k fl ro a b ls ts s G f h hk hP hC' ih =>
    have tl : (es.take k).length = k := by rw [List.length_take]; omega
    have hb := hC'.lb
    have hab := hC'.hab
    rw [tl] at hb
    have eb := hC'.eb
    rw [lev_take hb] at eb
    obtain ⟨i, j1, j2, ej⟩ := hC'.off
    have lj := hC'.lo i j1 j2
    have sdk : 2 * β < sd es a b k := by
      refine sd_hi (T := G) (f := f) hr hab hb hk ?_ eb ?_
      · have := hC'.ea
        rw [lev_take (by omega)] at this
        exact this
      · unfold lev
        grind
    have q1 := hC a b k hab hb hk sdk
    have q2 := mC ro a hC'.ha (by omega)
    have q3 := mW fl b hC'.hb (by omega)
    rw [List.length_append]
    simp only [List.length_cons, List.length_nil]
    omega
  | @cup k fl ro a b ls ts g S f h hk hP hn hC' ih =>
    have tl : (es.take k).length = k := by rw [List.length_take]; omega
    have hb := hC'.lb
    have hab := hC'.hab
    rw [tl] at hb
    have eb := hC'.eb
    rw [lev_take hb] at eb
    obtain ⟨i, j1, j2, ej⟩ := hC'.off
    have lj := hC'.hi i j1 j2
    have sdk : sd es a b k < -(2 * β) := by
      refine sd_lo (T := S) (f := f) hr hab hb hk ?_ eb ?_
      · have := hC'.ea
        rw [lev_take (by omega)] at this
        exact this
      · unfold lev
        grind
    have q1 := hW a b k hab hb hk sdk
    have q2 := mW fl a hC'.ha (by omega)
    have q3 := mC ro b hC'.hb (by omega)
    rw [List.length_append]
    simp only [List.length_cons, List.length_nil]
    omega
noncomputable def Plant (es : List Nn) (c : Int) (n : Nat) : Prop := ∃ (M0 : Int) (F sg : Nat → Int) (S : Nat) (js : List Nat), js.length + 1 ≤ n ∧ (∀ u, u < S → F (u + 1) = F u + sg u) ∧ (∀ t, 0 < t → t < S → sg t ≠ sg (t - 1) → t ∈ js) ∧ ∀ i, i < es.length → ∃ u, u < S ∧ nmo es i = M0 + (u : Int) ∧ nno es i - F u ≤ c ∧ F u - nno es i ≤ c
theorem sd_num {es : List En} {hs : List Nn} {b c : Int} {i j k : Nat} (h : es.map (·.2) = hs.map (fun x => nworth b x.2)) (hb : 1 ≤ b) (ht : nmo hs i < nmo hs k) : (2 * c * (nmo hs k - nmo hs i) < nsd hs i j k ↔ 2 * ((c : Rat) / (b : Rat)) < sd es i j k) ∧ (2 * c * (nmo hs k - nmo hs i) < - nsd hs i j k ↔ sd es i j k < -(2 * ((c : Rat) / (b : Rat)))) := by
  have hp := cast_pos (b := (nmo hs k - nmo hs i) * b) (Int.mul_pos (by walk_at "o") (by walk_at "o"))
  have hb' := cast_ne (b := b) (by walk_at "o")
  have e1 : ((2 * c * (nmo hs k - nmo hs i) : Int) : Rat) = 2 * ((c : Rat) / (b : Rat)) * (((nmo hs k - nmo hs i) * b : Int) : Rat) := by
    simp only [Rat.intCast_mul, Rat.intCast_sub]
    have : ((2 : Int) : Rat) = 2 := rfl
    rw [this]
    grind
  have e2 := link_sd h (i := i) (k := j) (j := k) hb ht
  constructor
  · rw [← Rat.intCast_lt_intCast, e1, e2]
    constructor
    · intro z
      exact Rat.lt_of_mul_lt_mul_right z (Rat.le_of_lt hp)
    · intro z
      exact Rat.mul_lt_mul_of_pos_right z hp
  · rw [← Rat.intCast_lt_intCast, Rat.intCast_neg, e1, e2]
    constructor
    · intro z
      have : 2 * ((c : Rat) / (b : Rat)) < - sd es i j k := Rat.lt_of_mul_lt_mul_right (c := (((nmo hs k - nmo hs i) * b : Int) : Rat)) (by grind) (Rat.le_of_lt hp)
      grind
    · intro z
      have := Rat.mul_lt_mul_of_pos_right (show 2 * ((c : Rat) / (b : Rat)) < - sd es i j k by grind) hp
      grind
theorem plant_few {es : List En} {hs : List Nn} {b c : Int} {n : Nat} (hb : 1 ≤ b) (h : es.map (·.2) = hs.map (fun x => nworth b x.2)) (hr : nrising hs) (hP : Plant hs c n) {k fl ro : Nat} {ks : List (Rat × Rat)} {ts : List (Bool × Nat × Nat × Nat)} (hT : Tr es ((c : Rat) / (b : Rat)) k fl ro ks ts) : ks.length + 1 ≤ n := by
  obtain ⟨M0, F, sg, S, js, hjs, hF, hJ, hes⟩ := hP
  have hl : es.length = hs.length := link_len h
  have hre := link_rising h hr
  -- where a sample stands
  have st : ∀ {i u : Nat}, nmo hs i = M0 + (u : Int) → (nmo hs i - M0).toNat = u := fun e => by omega
  have key : ∀ {a e d : Nat} {u v w : Nat}, nno hs a - F u ≤ c ∧ F u - nno hs a ≤ c → nno hs e - F v ≤ c ∧ F v - nno hs e ≤ c → nno hs d - F w ≤ c ∧ F w - nno hs d ≤ c → u < v → v < w → nmo hs a = M0 + (u : Int) → nmo hs e = M0 + (v : Int) → nmo hs d = M0 + (w : Int) → (2 * c * (nmo hs d - nmo hs a) < nsd hs a e d → F u * ((w : Int) - v) + F w * ((v : Int) - u) < F v * ((w : Int) - u)) ∧ (2 * c * (nmo hs d - nmo hs a) < - nsd hs a e d → F v * ((w : Int) - u) < F u * ((w : Int) - v) + F w * ((v : Int) - u)) := fun {a e d u v w} ha he hd uv vw ma me md => by
    have x1 : (0 : Int) ≤ (w : Int) - v := by omega
    have x2 : (0 : Int) ≤ (v : Int) - u := by omega
    have x3 : (0 : Int) ≤ (w : Int) - u := by omega
    have a1 := Int.mul_le_mul_of_nonneg_right ha.1 x1
    have a2 := Int.mul_le_mul_of_nonneg_right ha.2 x1
    have b1 := Int.mul_le_mul_of_nonneg_right he.1 x3
    have b2 := Int.mul_le_mul_of_nonneg_right he.2 x3
    have c1 := Int.mul_le_mul_of_nonneg_right hd.1 x2
    have c2 := Int.mul_le_mul_of_nonneg_right hd.2 x2
    unfold nsd nst
    rw [ma, me, md]
    constructor
    · intro z
      grind
    · intro z
      grind
  have q := Tr.few (C := fun i => below (fun t => decide (sg t < sg (t - 1))) js (nmo hs i - M0).toNat) (W := fun i => below (fun t => decide (sg (t - 1) < sg t)) js (nmo hs i - M0).toNat) hre (fun a e d h1 h2 h3 h4 => ?_) (fun a e d h1 h2 h3 h4 => ?_) (fun i j h1 h2 => ?_) (fun i j h1 h2 => ?_) hT
  · have := below_two (p := fun t => decide (sg t < sg (t - 1))) (q := fun t => decide (sg (t - 1) < sg t)) (js := js) (a := (nmo hs ro - M0).toNat) (k := (nmo hs fl - M0).toNat) fun t x y => by
      have := of_decide_eq_true x
      have := of_decide_eq_true y
      omega
    omega
  · obtain ⟨u, hu, mu, cu⟩ := hes a (by omega)
    obtain ⟨v, hv, mv, cv⟩ := hes e (by omega)
    obtain ⟨w, hw, mw, cw⟩ := hes d (by omega)
    have l1 := nmo_lt hr h1 (by omega)
    have l2 := nmo_lt hr h2 (by omega)
    obtain ⟨t, t1, t2, t3⟩ := falls (a := u) (b := v) (k := w) hF (by omega) (by omega) (by omega) ((key cu cv cw (by omega) (by omega) mu mv mw).1 ((sd_num h hb (by omega)).1.mpr h4))
    show below _ js (nmo hs a - M0).toNat + 1 ≤ below _ js (nmo hs d - M0).toNat
    rw [st mu, st mw]
    exact below_lt (hJ t (by omega) (by omega) (by omega)) (by omega) t2 (decide_eq_true t3)
  · obtain ⟨u, hu, mu, cu⟩ := hes a (by omega)
    obtain ⟨v, hv, mv, cv⟩ := hes e (by omega)
    obtain ⟨w, hw, mw, cw⟩ := hes d (by omega)
    have l1 := nmo_lt hr h1 (by omega)
    have l2 := nmo_lt hr h2 (by omega)
    obtain ⟨t, t1, t2, t3⟩ := rises (a := u) (b := v) (k := w) hF (by omega) (by omega) (by omega) ((key cu cv cw (by omega) (by omega) mu mv mw).2 ((sd_num h hb (by omega)).2.mpr h4))
    show below _ js (nmo hs a - M0).toNat + 1 ≤ below _ js (nmo hs d - M0).toNat
    rw [st mu, st mw]
    exact below_lt (hJ t (by omega) (by omega) (by omega)) (by omega) t2 (decide_eq_true t3)
  · refine below_le ?_
    rcases Nat.lt_or_eq_of_le h1 with z | rfl
    · have := nmo_lt hr z (by omega)
      omega
    · omega
  · refine below_le ?_
    rcases Nat.lt_or_eq_of_le h1 with z | rfl
    · have := nmo_lt hr z (by omega)
      omega
    · omega

noncomputable def spLaw (K : PySem.W.Frag) : Sp := fun vs H Q _ => ∃ (a : Addr) (ns : List Int), vs = [.ref a] ∧ SqL K H a (ns.map V.int) ∧ ns.length ≤ 63 ∧ ∀ H', Q (.bl true) H'
noncomputable def spPlanted (K : PySem.W.Frag) : Sp := fun vs H Q _ => ∃ (a : Addr) (ns : List Int), vs = [.ref a] ∧ SqL K H a (ns.map V.int) ∧ ∀ (p R : Addr) (es : List Nn) (n : Nat) (c : Int) (H' : Hp), Same H H' → H' p = some (.tup [.ref R, .int (n : Int), .int c]) → H R = none → H' R = some (.lst (nvals es)) → NRow H' es 45 100 → AllN es → nrising es → es.length ≤ 30 → 1 ≤ n → n ≤ 6 → 0 ≤ c → Sz 60 c → Plant es c n → Q (.ref p) H'
structure Ent (es : List Nn) (m0 c : Int) (F : Nat → Int) (T : Nat) : Prop where
  on : ∀ x ∈ es, ∃ (u : Nat) (v : Int), u < T ∧ x.2 = (m0 + (u : Int), some v) ∧ v - F u ≤ c ∧ F u - v ≤ c
  ris : nrising es
  len : es.length ≤ T
structure PlS (es : List Nn) (m0 c sc : Int) (i S : Nat) (hg : Int) (F sg : Nat → Int) (js : List Nat) : Prop where
  hS : S ≤ 5 * i
  hj : js.length ≤ i - 1
  hF : ∀ u, u < S → F (u + 1) = F u + sg u
  hJ : ∀ t, 0 < t → t < S → sg t ≠ sg (t - 1) → t ∈ js
  top : F S = 60 * sc * hg
  lo : -20 ≤ hg
  hi : hg ≤ 20
  ent : Ent es m0 c F S
theorem Ent.mono {es : List Nn} {m0 c : Int} {F : Nat → Int} {T T' : Nat} (h : Ent es m0 c F T) (hT : T ≤ T') : Ent es m0 c F T' :=
  ⟨fun x hx => let ⟨u, v, h1, h2⟩ := h.on x hx; ⟨u, v, by omega, h2⟩, h.ris, by have := h.len; omega⟩
theorem Ent.snoc {es : List Nn} {m0 c : Int} {F : Nat → Int} {T : Nat} (h : Ent es m0 c F T) {y : Addr} {v : Int} (h1 : v - F T ≤ c) (h2 : F T - v ≤ c) : Ent (es ++ [(y, m0 + (T : Int), some v)]) m0 c F (T + 1) := by
  refine ⟨fun x hx => ?_, ?_, by have := h.len; simp; omega⟩
  · rcases List.mem_append.mp hx with hx | hx
    · exact (h.mono (Nat.le_succ T)).on x hx
    · obtain rfl : x = (y, m0 + (T : Int), some v) := by simpa using hx
      exact ⟨T, v, by omega, rfl, h1, h2⟩
  · refine List.pairwise_append.mpr ⟨h.ris, List.pairwise_singleton _ _, fun x hx z hz => ?_⟩
    obtain rfl : z = (y, m0 + (T : Int), some v) := by simpa using hz
    obtain ⟨u, v', hu, e, _⟩ := h.on x hx
    show x.2.1 < m0 + (T : Int)
    rw [e]
    show m0 + (u : Int) < m0 + (T : Int)
    omega
noncomputable def extF (F : Nat → Int) (S : Nat) (e : Int) : Nat → Int := fun u => if u ≤ S then F u else F S + e * ((u : Int) - S)
noncomputable def extS (sg : Nat → Int) (S : Nat) (e : Int) : Nat → Int := fun u => if u < S then sg u else e
theorem extF_on (F : Nat → Int) (S : Nat) (e : Int) (s : Nat) : extF F S e (S + s) = F S + e * (s : Int) := by
  unfold extF
  by_cases h : S + s ≤ S
  · obtain rfl : s = 0 := by omega
    simp
  · rw [if_neg h]
    congr 2
    omega
theorem PlS.start {es : List Nn} {m0 c sc : Int} {i S : Nat} {hg : Int} {F sg : Nat → Int} {js : List Nat} (h : PlS es m0 c sc i S hg F sg js) (e : Int) : Ent es m0 c (extF F S e) S :=
  ⟨fun x hx => by
    obtain ⟨u, v, h1, h2, h3⟩ := h.ent.on x hx
    refine ⟨u, v, h1, h2, ?_⟩
    unfold extF
    rw [if_pos (by omega)]
    exact h3, h.ent.ris, h.ent.len⟩
theorem PlS.next {es es' : List Nn} {m0 c sc : Int} {i S w : Nat} {hg o e : Int} {F sg : Nat → Int} {js : List Nat} (h : PlS es m0 c sc i S hg F sg js) (hE : Ent es' m0 c (extF F S e) (S + w)) (hw : w ≤ 5) (he : e * (w : Int) = 60 * sc * (o - hg)) (h1 : -20 ≤ o) (h2 : o ≤ 20) : PlS es' m0 c sc (i + 1) (S + w) o (extF F S e) (extS sg S e) (if i = 0 then [] else js ++ [S]) := by
  have hS := h.hS
  refine ⟨by omega, ?_, fun u hu => ?_, fun t t0 ht hne => ?_, ?_, h1, h2, hE⟩
  · have := h.hj
    split
    · simp
    · simp; omega
  · by_cases q : u < S
    · unfold extF extS
      rw [if_pos (by omega), if_pos (by omega), if_pos q]
      exact h.hF u q
    · obtain ⟨s, rfl⟩ : ∃ s, u = S + s := ⟨u - S, by omega⟩
      rw [show S + s + 1 = S + (s + 1) by omega, extF_on, extF_on]
      unfold extS
      rw [if_neg q]
      have : e * ((s + 1 : Nat) : Int) = e * (s : Int) + e := by rw [Int.natCast_add, Int.mul_add]; simp
      omega
  · by_cases q : t < S
    · unfold extS at hne
      rw [if_pos q, if_pos (by omega)] at hne
      have := h.hJ t t0 q hne
      rw [if_neg (by omega)]
      exact List.mem_append_left _ this
    · unfold extS at hne
      rw [if_neg q] at hne
      by_cases z : t - 1 < S
      · obtain rfl : t = S := by omega
        rw [if_neg (by omega)]
        simp
      · rw [if_neg z] at hne
        exact absurd rfl hne
  · rw [extF_on, h.top, he, Int.mul_sub]
    omega
theorem PlS.plant {es : List Nn} {m0 c sc : Int} {i S : Nat} {hg : Int} {F sg : Nat → Int} {js : List Nat} (h : PlS es m0 c sc i S hg F sg js) (hi : 1 ≤ i) : Plant es c i ∧ AllN es := by
  constructor
  · refine ⟨m0, F, sg, S, js, by have := h.hj; omega, h.hF, h.hJ, fun j hj => ?_⟩
    obtain ⟨u, v, h1, h2, h3⟩ := h.ent.on es[j] (List.getElem_mem hj)
    refine ⟨u, h1, ?_⟩
    unfold nmo nno
    rw [List.getElem?_eq_getElem hj]
    generalize es[j] = x at *
    obtain ⟨ax, mx, vx⟩ := x
    cases h2
    exact ⟨rfl, h3⟩
  · intro x hx
    obtain ⟨u, v, h1, h2, h3⟩ := h.ent.on x hx
    obtain ⟨ax, mx, vx⟩ := x
    cases h2
    rfl
theorem nn_pos {b c : Int} (hb : 1 ≤ b) (hc : 0 ≤ c) : (0 : Rat) ≤ (c : Rat) / (b : Rat) := by
  have h1 : (0 : Rat) < (b : Rat) := cast_pos (by omega)
  have h2 : (0 : Rat) ≤ (c : Rat) := by
    have := Rat.intCast_le_intCast.mpr hc
    simpa using this
  exact (rle_div h1).mpr (by grind)
section
variable {P : Program} {w : World} {K : PySem.W.Frag} {mg : Str → Option Value} {base : Heap} {f c_Bend : Addr} {fd : FuncData}
theorem sc_law_planted : FnScope ["_law_script", "_law_head", "_law_some", "_law_scale", "_law_bound", "_law_moment", "_law_high", "_law_row_here", "_law_at", "_law_k", "_law_wide", "_law_other", "_law_step", "_law_number"] ["_law_script"] (defScope s_law_planted) := ⟨rfl, rfl, rfl, by decide +kernel, rfl, by decide +kernel, by decide +kernel⟩
theorem ok_law_planted (F : Fun K "_law_planted" "_law_planted" s_law_planted f fd) (T : Txt mg) (D_law_row : Dn P w K mg base 3 "_law_row" ["_law_script", "_law_place", "_law_sizes"] (spRow K)) : FnOk P w K mg base CX0 4 f fd ["_law_script"] (spPlanted K) := by
  refine F.ok sc_law_planted (fun vs H Q E h => ?_) (fun cdv A outer s H vs Q E hr h => ?_)
  · obtain ⟨a, ns, rfl, _⟩ := h
    rfl
  obtain ⟨a, ns, rfl, hS, k⟩ := h
  refine J.l ⟨_, (J.f (J.i (i := 1) sc_law_planted.nd rfl (Or.inl rfl) (J.j D_law_row (hr.mono (by decide)) rfl (J.b (J.a 0) (J.b J.c (J.b (J.t (J.b J.c (J.b J.c (J.b J.c (J.b J.c (J.b J.c (J.b J.c J.d st_C) st_C) st_C) st_C) st_C) st_C)) J.d st_L) st_C) st_N) (he := st_N) (hpl := (anyc st_C (anyc st_L any0)))) (hs := sw_K))
      (J.f (J.i (i := 2) sc_law_planted.nd rfl (Or.inl rfl) (J.j D_law_row (hr.mono (by decide)) rfl (J.b (J.a 0) (J.b J.c (J.b (J.g op_cat (J.g op_rep (J.t (J.b J.c (J.b J.c J.d st_C) st_C)) J.c) (J.g op_rep (J.t (J.b J.c (J.b J.c J.d st_C) st_C)) J.c)) J.d st_B) st_C) st_N) (he := st_N) (hpl := (anyc st_C (anyc st_B any0)))) (hs := sw_K))
      (J.f (J.i (i := 3) sc_law_planted.nd rfl (Or.inl rfl) (J.e (ixL K) (J.t (J.b J.c (J.b J.c (J.b (J.g op_pow J.c J.c) J.d st_B) st_C) st_C)) (J.e (ixL K) (J.a 1) J.c (fun _ _ => rfl)) (fun _ _ => rfl)) (hs := sw_S))
      (J.f (J.i (i := 4) sc_law_planted.nd rfl (Or.inl rfl) (J.g op_mulB (J.g op_mulB J.c (J.e (ixL K) (J.a 1) J.c (fun _ _ => rfl))) (J.a 3)) (hs := sw_B))
      (J.f (J.i (i := 5) sc_law_planted.nd rfl (Or.inl rfl) (J.e (ixL K) (J.t (J.b J.c (J.b (J.z un_neg J.c) (J.b (J.g op_pow J.c J.c) (J.b J.c J.d st_C) st_B) st_U) st_C)) (J.e (ixL K) (J.a 1) J.c (fun _ _ => rfl)) (fun _ _ => rfl)) (hs := sw_S))
      (J.f (J.i (i := 6) sc_law_planted.nd rfl (Or.inl rfl) (J.g op_sub (J.e (ixL K) (J.a 1) J.c (fun _ _ => rfl)) J.c) (hs := sw_B))
      (J.f (J.i (i := 7) sc_law_planted.nd rfl (Or.inl rfl) (J.t J.d) (hs := sw_L))
      (J.f (J.i (i := 8) sc_law_planted.nd rfl (Or.inl rfl) J.c (hs := sw_C))
      (J.f (J.y PassesOwn.never rfl (Jd.pi_range1 rfl T.range (J.b (J.g op_add (J.e (ixL K) (J.a 1) J.c (fun _ _ => rfl)) J.c) J.d st_B)) (J.r (i := 9) sc_law_planted.nd rfl (Or.inl rfl))
      (J.f (J.i (i := 10) sc_law_planted.nd rfl (Or.inl rfl) (J.g op_add J.c (J.e (ixL K) (J.a 2) (J.g op_mulB J.c (J.a 9)) (fun _ _ => rfl))) (hs := sw_B))
      (J.f (J.i (i := 11) sc_law_planted.nd rfl (Or.inl rfl) (J.g op_sub (J.e (ixL K) (J.a 2) (J.g op_add (J.g op_mulB J.c (J.a 9)) J.c) (fun _ _ => rfl)) J.c) (hs := sw_B))
      (J.f (J.y PassesOwn.never rfl (Jd.pi_range1 rfl T.range (J.b (J.a 10) J.d st_N)) (J.r (i := 12) sc_law_planted.nd rfl (Or.inl rfl))
      (J.f (J.o (Jd.PWpt (Jd.pw_and (J.m op_gt (J.e (ixL K) (J.a 2) (J.g op_add J.c (J.g op_mulB J.c (J.a 8))) (fun _ _ => rfl)) J.c (nomark _)) (Jd.pw_and1 (Jd.PWpt (Jd.pw_or (J.m op_gt (J.a 12) J.c (nomark _)) (Jd.pw_or1 (J.m op_eq (J.e (ixL K) (J.a 1) J.c (fun _ _ => rfl)) J.c (nomark _))))))))
      (J.f (J.i (i := 13) sc_law_planted.nd rfl (Or.inl rfl) (J.g op_mulB (J.g op_mulB J.c (J.a 3)) (J.a 6)) (hs := sw_B))
      (J.f (J.i (i := 13) sc_law_planted.nd rfl (Or.inl rfl) (J.g op_add (J.a 13) (J.g op_mulB (J.g op_mulB (J.g op_mulB (J.g op_fdivB J.c (J.a 10)) (J.a 3)) (J.g op_sub (J.a 11) (J.a 6))) (J.a 12))) (hs := sw_B))
      (J.f (J.i (i := 13) sc_law_planted.nd rfl (Or.inl rfl) (J.g op_add (J.a 13) (J.g op_mulB (J.g op_fdivB (J.a 4) J.c) (J.g op_sub (J.e (ixL K) (J.a 2) (J.g op_add J.c (J.g op_mulB J.c (J.a 8))) (fun _ _ => rfl)) J.c))) (hs := sw_B))
      (J.h (J.u (J.w K (J.a 7) (J.n (J.b (J.g op_add (J.a 5) (J.a 12)) (J.b (J.a 13) J.d st_N) st_B))) (hs := sw_K))))))
      J.q)
      (J.h (J.i (i := 8) sc_law_planted.nd rfl (Or.inl rfl) (J.g op_add (J.a 8) J.c) (hs := sw_B)))))
      (J.f (J.i (i := 5) sc_law_planted.nd rfl (Or.inl rfl) (J.g op_add (J.a 5) (J.a 10)) (hs := sw_B))
      (J.h (J.i (i := 6) sc_law_planted.nd rfl (Or.inl rfl) (J.a 11) (hs := sw_N))))))))
      (J.h (J.k (J.n (J.b (J.a 7) (J.b (J.g op_add (J.e (ixL K) (J.a 1) J.c (fun _ _ => rfl)) J.c) (J.b (J.a 4) J.d st_N) st_B) st_N))))))))))))), ?_⟩
  walk_at "v"
  refine r_new (mk := .lst) (by simp) fun l1 H1 s1 n1 e1 => ?_
  walk_at "v"
  refine ⟨a, ns, 0, l1, [6, 6, 4, 3, 2, 41], rfl, s1.seq hS, by decide, by decide, by rw [e1]; rfl, by decide, by decide, fun hd hx H2 s2 n2 e2 hlen hxs => ?_⟩
  obtain ⟨d0, g0, a0, b0⟩ := row_get hlen hxs 0 (z := 6) rfl
  obtain ⟨d1, g1, a1, b1⟩ := row_get hlen hxs 1 (z := 6) rfl
  obtain ⟨d2, g2, a2, b2⟩ := row_get hlen hxs 2 (z := 4) rfl
  obtain ⟨d3, g3, a3, b3⟩ := row_get hlen hxs 3 (z := 3) rfl
  obtain ⟨d4, g4, a4, b4⟩ := row_get hlen hxs 4 (z := 2) rfl
  obtain ⟨d5, g5, a5, b5⟩ := row_get hlen hxs 5 (z := 41) rfl
  clear hlen hxs
  walk_at "v"
  refine r_new (mk := .lst) (by simp) fun l3 H3 s3 n3 e3 => ?_
  walk_at "v"
  refine r_rep e3 (by omega) (by omega) ?_
  refine r_new (mk := .lst) (by decide) fun l4 H4 s4 n4 e4 => ?_
  walk_at "v"
  refine r_new (mk := .lst) (by simp) fun l5 H5 s5 n5 e5 => ?_
  walk_at "v"
  refine r_rep e5 (by omega) (by omega) ?_
  refine r_new (mk := .lst) (by decide) fun l6 H6 s6 n6 e6 => ?_
  walk_at "v"
  refine r_cat ((s5.trans s6) _ _ e4) e6 ?_
  refine r_new (mk := .lst) (by decide) fun l7 H7 s7 n7 e7 => ?_
  have s27 := s3.trans (s4.trans (s5.trans (s6.trans s7)))
  have s07 := s1.trans (s2.trans s27)
  walk_at "v"
  refine ⟨a, ns, 1, l7, (List.replicate 6 [4, 41]).flatten ++ (List.replicate 31 [3, 11]).flatten, rfl, s07.seq hS, by decide, by decide, by rw [e7]; rfl, by decide, by decide, fun lw xs H8 s8 n8 e8 hlen hxs => ?_⟩
  have q1 : ∀ j, j < 6 → ∃ x, xs[2 * j]? = some x ∧ 0 ≤ x ∧ x < 4 := fun j hj => row_get hlen hxs (2 * j) ((show ∀ j, j < 6 → ((List.replicate 6 [4, 41]).flatten ++ (List.replicate 31 [3, 11]).flatten : List Int)[2 * j]? = some 4 by decide) j hj)
  have q2 : ∀ j, j < 6 → ∃ x, xs[2 * j + 1]? = some x ∧ 0 ≤ x ∧ x < 41 := fun j hj => row_get hlen hxs (2 * j + 1) ((show ∀ j, j < 6 → ((List.replicate 6 [4, 41]).flatten ++ (List.replicate 31 [3, 11]).flatten : List Int)[2 * j + 1]? = some 41 by decide) j hj)
  have q3 : ∀ j, j < 31 → ∃ x, xs[12 + 2 * j]? = some x ∧ 0 ≤ x ∧ x < 3 := fun j hj => row_get hlen hxs (12 + 2 * j) ((show ∀ j, j < 31 → ((List.replicate 6 [4, 41]).flatten ++ (List.replicate 31 [3, 11]).flatten : List Int)[12 + 2 * j]? = some 3 by decide) j hj)
  have q4 : ∀ j, j < 31 → ∃ x, xs[13 + 2 * j]? = some x ∧ 0 ≤ x ∧ x < 11 := fun j hj => row_get hlen hxs (13 + 2 * j) ((show ∀ j, j < 31 → ((List.replicate 6 [4, 41]).flatten ++ (List.replicate 31 [3, 11]).flatten : List Int)[13 + 2 * j]? = some 11 by decide) j hj)
  clear hlen hxs e7
  have e28 := (s27.trans s8) _ _ e2
  walk_at "v"
  refine r_new (mk := .lst) (by simp) fun l9 H9 s9 n9 e9 => ?_
  walk_at "v"
  refine r_l (s9 _ _ e28) (at_ints g3 rfl) ?_
  obtain ⟨sc, esc, sc1, sc2⟩ := pickP (zs := [1, 13, 10 ^ (9 : Int).toNat]) (fun z => 1 ≤ z ∧ z ≤ 1000000000) (by decide +kernel) a3 b3
  refine r_l e9 esc ?_
  have zsc : Sz 30 sc := show sc.natAbs < 2 ^ 30 by omega
  have z60 : Sz 6 (60 : Int) := by decide
  have zd1 : Sz 3 d1 := show d1.natAbs < 2 ^ 3 by omega
  have ok2 : IntMulOk (60 * d1) sc := mulOk (z60.mul zd1) zsc
  walk_at "v"
  refine r_l (s9 _ _ e28) (at_ints g1 rfl) ?_
  walk_at "v"
  refine r_new (mk := .lst) (by simp) fun l10 H10 s10 n10 e10 => ?_
  have e210 := (s9.trans s10) _ _ e28
  walk_at "v"
  refine r_l e210 (at_ints g2 rfl) ?_
  obtain ⟨m0, em0, hm0⟩ := pickP (zs := [0, -9, 10 ^ (6 : Int).toNat, 3]) (fun z => z.natAbs ≤ 1000000) (by decide +kernel) a2 b2
  refine r_l e10 em0 ?_
  walk_at "v"
  refine r_l e210 (at_ints g5 rfl) ?_
  walk_at "v"
  refine r_new (mk := .lst) (by simp) fun R H11 s11 n11 e11 => ?_
  have s811 := s9.trans (s10.trans s11)
  have s011 := s07.trans (s8.trans s811)
  have nR : H R = none := (s07.trans (s8.trans (s9.trans s10))).free n11
  have eh := s11 _ _ e210
  have ew := s811 _ _ e8
  have hc0 : 0 ≤ 60 * d1 * sc := Int.mul_nonneg (Int.mul_nonneg (by decide) a1) (by omega)
  have hc5 : 5 * (60 * d1 * sc).fdiv 5 = 60 * d1 * sc := by
    have e : 60 * d1 * sc = 5 * (12 * d1 * sc) := by grind
    rw [e, Int.mul_fdiv_cancel_left _ (by decide)]
  have zc : Sz 39 (60 * d1 * sc) := (z60.mul zd1).mul zsc
  clear ok2
  generalize hcc : 60 * d1 * sc = c at *
  walk_at "v"
  refine r_for (r_rng1 ?_)
  walk_at "v"
  refine r_l eh (at_ints g0 rfl) ?_
  walk_at "v"
  refine ⟨_, rfl, by omega, by omega, for_range (fun i σ H3 => ∃ (S : Nat) (hg : Int) (es : List Nn) (F sg : Nat → Int) (js : List Nat) (v9 v10 v11 v12 v13 : Option V), σ = [some (.ref a), some (.ref hd), some (.ref lw), some (.int sc), some (.int c), some (.int (m0 + (S : Int))), some (.int hg), some (.ref R), some (.int (S : Int)), v9, v10, v11, v12, v13] ∧ Kp (fun q => q = R) H11 H3 ∧ H3 R = some (.lst (nvals es)) ∧ NRow H3 es 45 100 ∧ PlS es m0 c sc i S hg F sg js) ?_ ?_ ?_⟩
  · refine ⟨0, d5 - 20, [], fun _ => 60 * sc * (d5 - 20), fun _ => 0, [], none, none, none, none, none, ?_, Kp.of (Same.refl _), e11, fun x hx => absurd hx (by simp), by omega, by simp, fun u hu => absurd hu (by omega), fun t h1 h2 => absurd h2 (by omega), rfl, by omega, by omega, fun x hx => absurd hx (by simp), List.Pairwise.nil, Nat.le_refl _⟩
    rw [show m0 + ((0 : Nat) : Int) = m0 by omega]
    rfl
  · rintro i σ H3 hi ⟨S, hg, es, F, sg, js, v9, v10, v11, v12, v13, rfl, kp, eR, hR, hPl⟩
    rw [show (0 : Int) + (i : Int) = (i : Int) by omega]
    have hi6 : i < 6 := by omega
    obtain ⟨y0, p0, r0, r0'⟩ := q1 i hi6
    obtain ⟨y1, p1, r1, r1'⟩ := q2 i hi6
    have nlw : lw ≠ R := ne_of_none ((s9.trans s10) _ _ e8) n11
    have nhd : hd ≠ R := ne_of_none e210 n11
    have ew3 := kp _ _ nlw ew
    have eh3 := kp _ _ nhd eh
    refine body_cut fun M B RR hM hB hR' => ?_
    walk_at "v"
    refine r_l ew3 (at_ints p0 (by omega)) ?_
    walk_at "v"
    refine r_l ew3 (at_ints p1 (by omega)) ?_
    obtain ⟨wn, hwn⟩ : ∃ wn : Nat, 2 + y0 = (wn : Int) := ⟨(2 + y0).toNat, by omega⟩
    have hw2 : 2 ≤ wn := by omega
    have hw5 : wn ≤ 5 := by omega
    obtain ⟨dv, hdv, hdw, hd30⟩ : ∃ dv : Int, (60 : Int).fdiv (wn : Int) = dv ∧ dv * (wn : Int) = 60 ∧ dv.natAbs ≤ 30 := by
      rcases (show wn = 2 ∨ wn = 3 ∨ wn = 4 ∨ wn = 5 by omega) with rfl | rfl | rfl | rfl
      · exact ⟨30, rfl, rfl, by decide⟩
      · exact ⟨20, rfl, rfl, by decide⟩
      · exact ⟨15, rfl, rfl, by decide⟩
      · exact ⟨12, rfl, rfl, by decide⟩
    have okc : CDivB c 5 := ⟨by decide, by decide +kernel⟩
    have hlo := hPl.lo
    have hhi := hPl.hi
    have hS30 := hPl.hS
    obtain ⟨o, ho⟩ : ∃ o : Int, y1 - 20 = o := ⟨_, rfl⟩
    rw [hwn]
    walk_at "v"
    rw [ho]
    have he : dv * sc * (o - hg) * (wn : Int) = 60 * sc * (o - hg) := by rw [← hdw]; grind
    have zdv : Sz 5 dv := show dv.natAbs < 2 ^ 5 by omega
    have zog : Sz 6 (o - hg) := show (o - hg).natAbs < 2 ^ 6 by omega
    have zhg : Sz 5 hg := show hg.natAbs < 2 ^ 5 by omega
    have okd : CDivB 60 (wn : Int) := by
      rcases (show wn = 2 ∨ wn = 3 ∨ wn = 4 ∨ wn = 5 by omega) with rfl | rfl | rfl | rfl <;> exact ⟨by decide, by decide +kernel⟩
    have ok2 : IntMulOk (60 * sc) hg := mulOk (z60.mul zsc) zhg
    have ok3 : IntMulOk dv sc := mulOk zdv zsc
    have ok4 : IntMulOk (dv * sc) (o - hg) := mulOk (zdv.mul zsc) zog
    walk_at "v"
    refine r_for (r_rng1 ?_)
    walk_at "v"
    refine ⟨_, rfl, by omega, by omega, for_range (fun s σ H4 => ∃ (es' : List Nn) (v12 v13 : Option V), σ = [some (.ref a), some (.ref hd), some (.ref lw), some (.int sc), some (.int c), some (.int (m0 + (S : Int))), some (.int hg), some (.ref R), some (.int ((S + s : Nat) : Int)), some (.int (i : Int)), some (.int (wn : Int)), some (.int o), v12, v13] ∧ Kp (fun q => q = R) H11 H4 ∧ H4 R = some (.lst (nvals es')) ∧ NRow H4 es' 45 100 ∧ Ent es' m0 c (extF F S (dv * sc * (o - hg))) (S + s)) ?_ ?_ ?_⟩
    · exact ⟨es, _, _, rfl, kp, eR, hR, hPl.start _⟩
    · rintro s σ H4 hs ⟨es', v12, v13, rfl, kp4, eR4, hR4, hE⟩
      rw [show (0 : Int) + (s : Int) = (s : Int) by omega]
      have ew4 := kp4 _ _ nlw ew
      have eh4 := kp4 _ _ nhd eh
      have hs5 : s < wn := by omega
      have hlen4 := hE.len
      obtain ⟨y2, p2, r2, r2'⟩ := q3 (S + s) (by omega)
      obtain ⟨y3, p3, r3, r3'⟩ := q4 (S + s) (by omega)
      refine body_cut fun M' B' RR' hM' hB' hR'' => ?_
      have zsI : Sz 3 (s : Int) := show (s : Int).natAbs < 2 ^ 3 by omega
      have ok5 : IntMulOk (dv * sc * (o - hg)) (s : Int) := mulOk ((zdv.mul zsc).mul zog) zsI
      have zy3 : Sz 3 (y3 - 5) := show (y3 - 5).natAbs < 2 ^ 3 by omega
      have zc5 : Sz 39 (c.fdiv 5) := zc.of_le (by omega)
      have ok6 : IntMulOk (c.fdiv 5) (y3 - 5) := mulOk zc5 zy3
      refine My.r_g ?_
      refine seq_cut (fun σ' H' => ∃ (es2 : List Nn) (v13 : Option V), σ' = [some (.ref a), some (.ref hd), some (.ref lw), some (.int sc), some (.int c), some (.int (m0 + (S : Int))), some (.int hg), some (.ref R), some (.int ((S + s : Nat) : Int)), some (.int (i : Int)), some (.int (wn : Int)), some (.int o), some (.int (s : Int)), v13] ∧ Kp (fun q => q = R) H11 H' ∧ H' R = some (.lst (nvals es2)) ∧ NRow H' es2 45 100 ∧ Ent es2 m0 c (extF F S (dv * sc * (o - hg))) (S + s + 1)) ?_ fun N hN => ?_
      · rintro σ H5 ⟨es2, w13, rfl, kp5, eR5, hR5, hE5⟩
        walk_at "v"
        refine hM' _ _ ⟨es2, some (.int (s : Int)), w13, ?_, kp5, eR5, hR5, hE5⟩
        rw [show ((S + s : Nat) : Int) + 1 = ((S + (s + 1) : Nat) : Int) by omega]
        rfl
      · have keep : N [some (.ref a), some (.ref hd), some (.ref lw), some (.int sc), some (.int c), some (.int (m0 + (S : Int))), some (.int hg), some (.ref R), some (.int ((S + s : Nat) : Int)), some (.int (i : Int)), some (.int (wn : Int)), some (.int o), some (.int (s : Int)), v13] H4 := hN _ _ ⟨es', _, rfl, kp4, eR4, hR4, hE.mono (by omega)⟩
        have put : ∀ (pt : Addr) (H5 : Hp) (v13' : Option V), Same H4 H5 → H5 pt = some (.tup [.int (m0 + (S : Int) + (s : Int)), .int (60 * sc * hg + dv * sc * (o - hg) * (s : Int) + c.fdiv 5 * (y3 - 5))]) → ∃ (es2 : List Nn) (v13 : Option V), [some (.ref a), some (.ref hd), some (.ref lw), some (.int sc), some (.int c), some (.int (m0 + (S : Int))), some (.int hg), some (.ref R), some (.int ((S + s : Nat) : Int)), some (.int (i : Int)), some (.int (wn : Int)), some (.int o), some (.int (s : Int)), v13'] = [some (.ref a), some (.ref hd), some (.ref lw), some (.int sc), some (.int c), some (.int (m0 + (S : Int))), some (.int hg), some (.ref R), some (.int ((S + s : Nat) : Int)), some (.int (i : Int)), some (.int (wn : Int)), some (.int o), some (.int (s : Int)), v13] ∧ Kp (fun q => q = R) H11 (upd H5 R (.lst (nvals es' ++ [V.ref pt]))) ∧ upd H5 R (.lst (nvals es' ++ [V.ref pt])) R = some (.lst (nvals es2)) ∧ NRow (upd H5 R (.lst (nvals es' ++ [V.ref pt]))) es2 45 100 ∧ Ent es2 m0 c (extF F S (dv * sc * (o - hg))) (S + s + 1) := fun pt H5 v13' s5 e5 => by
          have eR5 := s5 _ _ eR4
          have nt : ∀ {b : Addr} {ys : List V}, H5 b = some (.tup ys) → upd H5 R (.lst (nvals es' ++ [V.ref pt])) b = some (.tup ys) := fun {b ys} e => by
            rw [upd_ne fun z => by rw [z, eR5] at e; cases e]
            exact e
          have em : m0 + (S : Int) + (s : Int) = m0 + ((S + s : Nat) : Int) := by omega
          rw [em] at e5
          have zn1 : Sz 45 (m0 + ((S + s : Nat) : Int)) := show (m0 + ((S + s : Nat) : Int)).natAbs < 2 ^ 45 by omega
          have zA : Sz 60 (60 * sc * hg) := ((z60.mul zsc).mul zhg).mono (by decide)
          have zB : Sz 60 (dv * sc * (o - hg) * (s : Int)) := (((zdv.mul zsc).mul zog).mul zsI).mono (by decide)
          have zC : Sz 60 (c.fdiv 5 * (y3 - 5)) := (zc5.mul zy3).mono (by decide)
          have zn2 : Sz 100 (60 * sc * hg + dv * sc * (o - hg) * (s : Int) + c.fdiv 5 * (y3 - 5)) := ((zA.add zB).add (zC.mono (by decide))).mono (by decide)
          have hF : extF F S (dv * sc * (o - hg)) (S + s) = 60 * sc * hg + dv * sc * (o - hg) * (s : Int) := by rw [extF_on, hPl.top]
          have c50 : 0 ≤ c.fdiv 5 := by omega
          have k1 := Int.mul_le_mul_of_nonneg_left (show y3 - 5 ≤ 5 by omega) c50
          have k2 := Int.mul_le_mul_of_nonneg_left (show -5 ≤ y3 - 5 by omega) c50
          refine ⟨es' ++ [(pt, m0 + ((S + s : Nat) : Int), some (60 * sc * hg + dv * sc * (o - hg) * (s : Int) + c.fdiv 5 * (y3 - 5)))], v13', rfl, (kp4.sm s5).upd rfl, ?_, fun x hx => ?_, hE.snoc ?_ ?_⟩
          · rw [upd_same]
            simp [nvals]
          · rcases List.mem_append.mp hx with hx | hx
            · obtain ⟨w1, w2, w3⟩ := (hR4 x hx).up s5
              exact ⟨nt w1, w2, w3⟩
            · obtain rfl := List.mem_singleton.mp hx
              refine ⟨nt e5, zn1, fun z hz => ?_⟩
              cases hz
              exact zn2
          · rw [hF]
            generalize c.fdiv 5 * (y3 - 5) = X at *
            omega
          · rw [hF]
            generalize c.fdiv 5 * (y3 - 5) = X at *
            omega
        walk_at "v"
        refine r_l ew4 (at_ints p2 (by omega)) ?_
        walk_at "v"
        refine ite2 (fun c1 => ?_) (fun c1 => ?_)
        · walk_at "v"
          refine ite2 (fun c2 => ?_) (fun c2 => ?_)
          · skip
            refine iteT ?_
            walk_at "v"
            rw [hdv]
            walk_at "v"
            refine r_l ew4 (at_ints p3 (by omega)) ?_
            walk_at "v"
            refine ⟨.inl ⟨rfl, _, SqL.of eR4⟩, ?_⟩
            walk_at "v"
            refine r_new (mk := .tup) (by simp) fun pt H5 s5 n5 e5 => ?_
            walk_at "v"
            refine r_app (s5 _ _ eR4) (by rw [nvals_len]; exact small1000 (by omega)) ?_
            exact hN _ _ (put _ _ _ s5 e5)
          · walk_at "v"
            refine r_l eh4 (at_ints g4 rfl) ?_
            walk_at "v"
            refine ite2 (fun c3 => ?_) (fun c3 => ?_)
            · skip
              walk_at "v"
              rw [hdv]
              walk_at "v"
              refine r_l ew4 (at_ints p3 (by omega)) ?_
              walk_at "v"
              refine ⟨.inl ⟨rfl, _, SqL.of eR4⟩, ?_⟩
              walk_at "v"
              refine r_new (mk := .tup) (by simp) fun pt H5 s5 n5 e5 => ?_
              walk_at "v"
              refine r_app (s5 _ _ eR4) (by rw [nvals_len]; exact small1000 (by omega)) ?_
              exact hN _ _ (put _ _ _ s5 e5)
            · walk_at "v"
              exact keep
        · walk_at "v"
          refine iteF ?_
          walk_at "v"
          exact keep
    · rintro σ H4 ⟨es', v12, v13, rfl, kp4, eR4, hR4, hE⟩
      rw [show (((wn : Int)).toNat : Nat) = wn by omega] at hE
      walk_at "v"
      refine hM _ _ ⟨S + wn, o, es', _, _, _, some (.int (i : Int)), some (.int (wn : Int)), some (.int o), v12, v13, ?_, kp4, eR4, hR4, hPl.next hE hw5 he (by omega) (by omega)⟩
      rw [show m0 + ((S + wn : Nat) : Int) = m0 + (S : Int) + (wn : Int) by omega]
      rfl
  · rintro σ H3 ⟨S, hg, es, F, sg, js, v9, v10, v11, v12, v13, rfl, kp, eR, hR, hPl⟩
    have nhd : hd ≠ R := ne_of_none e210 n11
    have eh3 := kp _ _ nhd eh
    have hS := hPl.hS
    have hl := hPl.ent.len
    obtain ⟨n, hn⟩ : ∃ n : Nat, d0 + 1 = (n : Int) := ⟨(d0 + 1).toNat, by omega⟩
    have s03 : Same H H3 := fun b o e => kp b o (fun z => by rw [z, nR] at e; cases e) (s011 _ _ e)
    walk_at "v"
    refine r_l eh3 (at_ints g0 rfl) ?_
    walk_at "v"
    refine r_new (mk := .tup) (by simp) fun pt H5 s5 n5 e5 => ?_
    rw [hn] at e5
    have en : (d0 + 1).toNat = n := by omega
    rw [en] at hPl
    obtain ⟨hp1, hp2⟩ := hPl.plant (by omega)
    exact k pt R es n c H5 (s03.trans s5) e5 nR (s5 _ _ eR) (hR.up s5) hp2 hPl.ent.ris (by omega) (by omega) (by omega) hc0 (zc.mono (by decide)) hp1
theorem parts_one {α : Type} {s : α → Bool} {es : List α} (h : ∀ x ∈ es, s x = true) : ∀ i, i < es.length → parts s es (i + 1) = [es.take (i + 1)]
  | 0, hi => by
    rw [parts_new (List.getElem?_eq_getElem hi) (h _ (List.getElem_mem hi)) (by rfl), List.take_succ, List.getElem?_eq_getElem hi]
    rfl
  | i + 1, hi => by
    have ih := parts_one h i (by omega)
    have g := List.getElem?_eq_getElem (show i < es.length by omega)
    have hin : inRun s es (i + 1) = true := by
      unfold inRun
      rw [show i + 1 - 1 = i by omega, g]
      simpa using h _ (List.getElem_mem _)
    rw [parts_on (t := []) (List.getElem?_eq_getElem hi) (h _ (List.getElem_mem hi)) hin ih, List.take_succ (i := i + 1), List.getElem?_eq_getElem hi]
    rfl
theorem sc_law : FnScope ["_law_script", "_law_row_here", "_law_pieces", "_law_bound", "_law_bottom", "_law_telling", "_law_piece"] ["_law_script"] (defScope s_law) := ⟨rfl, rfl, rfl, by decide +kernel, rfl, by decide +kernel, by decide +kernel⟩
theorem ok_law (F : Fun K "law" "law" s_law f fd) (T : Txt mg) (D_law_planted : Dn P w K mg base 4 "_law_planted" ["_law_script"] (spPlanted K)) (D_law_row : Dn P w K mg base 3 "_law_row" ["_law_script", "_law_place", "_law_sizes"] (spRow K)) (D_law_handed : Dn P w K mg base 2 "_law_handed" ["_law_row_here", "_law_bottom"] spHanded) (D_law_ratio : Dn P w K mg base 1 "_law_ratio" ["_law_top", "_law_bottom"] spRatio) (D_joined : Dn P w K mg base 9 "joined" ["row", "bound"] (spJoined c_Bend)) (D_law_is_piece : Dn P w K mg base 4 "_law_is_piece" ["_law_some"] spIsPiece) (D_law_broken : Dn P w K mg base 2 "_law_broken" ["_law_pieces", "_law_run", "_law_bottom", "_law_bound"] spBroken) : FnOk P w K mg base CX0 10 f fd ["_law_script"] (spLaw K) := by
  refine F.ok sc_law (fun vs H Q E h => ?_) (fun cdv A outer s H vs Q E hr h => ?_)
  · obtain ⟨a, ns, rfl, _⟩ := h
    rfl
  obtain ⟨a, ns, rfl, hS, hn, k⟩ := h
  have hu64 := hr.units
  refine J.l ⟨_, (J.f (Jd.ps_asg (J.j D_law_planted (hr.mono (by decide)) rfl (J.b (J.a 0) J.d st_N) (he := st_N) (hpl := any0)) (Jd.pgT K (n := 3) rfl (J.aa (J.r (i := 1) sc_law.nd rfl (Or.inl rfl)) (J.aa (J.r (i := 2) sc_law.nd rfl (Or.inl rfl)) (J.aa (J.r (i := 3) sc_law.nd rfl (Or.inl rfl)) Jd.pgs_nil)))))
      (J.f (J.i (i := 4) sc_law.nd rfl (Or.inl rfl) (J.g op_mulB J.c (J.g op_add J.c (J.e (ixL K) (J.j D_law_row (hr.mono (by decide)) rfl (J.b (J.a 0) (J.b J.c (J.b (J.t (J.b J.c J.d st_C)) J.d st_L) st_C) st_N) (he := st_N) (hpl := (anyc st_C (anyc st_L any0)))) J.c (fun _ _ => rfl)))) (hs := sw_B))
      (J.f (J.i (i := 5) sc_law.nd rfl (Or.inl rfl) (J.e (ixT K) (J.j D_joined (hr.mono (by decide)) rfl (J.b (J.j D_law_handed (hr.mono (by decide)) rfl (J.b (J.a 1) (J.b (J.a 4) J.d st_N) st_N) (he := st_N) (hpl := (anyc st_N any0))) (J.b (J.j D_law_ratio (hr.mono (by decide)) rfl (J.b (J.a 3) (J.b (J.a 4) J.d st_N) st_N) (he := st_N) (hpl := (anyc st_N any0))) J.d st_K) st_K) (he := st_K) (hpl := (anyc st_K any0))) J.c (fun _ _ => rfl)) (hs := sw_S))
      (J.f (J.o (Jd.PWpt (Jd.pw_or (Jd.pt_not (J.ab (J.s (isiC K) rfl T.isinstance_ PyProof.Rows.boot_isinstance (J.b (J.a 5) (J.b (Jd.pe_ty rfl T.list_ PyProof.Rows.boot_list) J.d st_N) st_N) (he := st_N) (hpl := (anyc st_N any0))))) (Jd.pw_or1 (J.m op_gt (J.s (lenC K) rfl T.len_ PySem.boot_len (J.b (J.a 5) J.d st_N) (he := st_N) (hpl := any0)) (J.a 2) (nomark _)))))
      (J.h (J.k Jd.pe_bl))
      J.q)
      (J.f (J.y PassesOwn.never rfl (Jd.piL K (J.a 5)) (J.r (i := 6) sc_law.nd rfl (Or.inl rfl))
      (J.h (J.o (Jd.pt_not (J.ab (J.j D_law_is_piece (hr.mono (by decide)) rfl (J.b (J.a 6) J.d st_N) (he := st_N) (hpl := any0))))
      (J.h (J.k Jd.pe_bl))
      J.q)))
      (J.f (J.o (J.m op_eq (J.s (lenC K) rfl T.len_ PySem.boot_len (J.b (J.a 1) J.d st_N) (he := st_N) (hpl := any0)) J.c (nomark _))
      (J.h (J.k (J.ac (op_eqD hu64) (J.a 5) (J.t J.d) (nomark _))))
      J.q)
      (J.h (J.k (J.j D_law_broken (hr.mono (by decide)) rfl (J.b (J.a 5) (J.b (J.a 1) (J.b (J.a 4) (J.b (J.a 3) J.d st_N) st_N) st_N) st_N) (he := st_N) (hpl := (anyc st_N (anyc st_N (anyc st_N any0))))))))))))), ?_⟩
  walk_at "v"
  refine r_asg ?_
  walk_at "v"
  refine ⟨a, ns, rfl, hS, fun p R es0 n c H1 s1 e1 nR eR hes hsa hri hle hn1 hn6 hc zc hPl => ?_⟩
  refine r_unpack3 e1 ?_
  walk_at "v"
  refine r_new (mk := .lst) (by simp) fun l2 H2 s2 n2 e2 => ?_
  walk_at "v"
  refine ⟨a, ns, 2, l2, [4], rfl, (s1.trans s2).seq hS, by decide, by decide, by rw [e2]; rfl, by decide, by decide, fun lw xs H3 s3 n3 e3 hlen hxs => ?_⟩
  obtain ⟨d0, g0, a0, b0⟩ := row_get hlen hxs 0 (z := 4) rfl
  walk_at "v"
  refine r_l e3 (at_ints g0 rfl) ?_
  walk_at "v"
  have s13 := s2.trans s3
  have hb : 1 ≤ 60 * (1 + d0) := by omega
  have zb : Sz 80 (60 * (1 + d0)) := show (60 * (1 + d0)).natAbs < 2 ^ 80 by omega
  generalize 60 * (1 + d0) = b at *
  refine ⟨R, es0, b, 45, 100, 80, 150, rfl, s13 _ _ eR, hes.up s13, by walk_at "o", hb, zb, by decide, by decide, by decide, by decide, fun L es H4 s4 nL eL hR hmap => ?_⟩
  have hlen' := link_len hmap
  have hre := link_rising hmap hri
  walk_at "v"
  refine frac_gen (n := 150) (by walk_at "o") (zc.mono (by decide)) (zb.mono (by decide)) (by decide) fun pb H5 s5 f5 => ?_
  have hβ := nn_pos hb hc
  walk_at "v"
  refine ⟨L, pb, es, _, 150, 150, rfl, s5 _ _ eL, hR.up s5, hre, by walk_at "o", f5, hβ, by decide, by decide, by decide, by decide, fun y X Z zs H6 s6 ey nX nZ nXZ eX eZ hJ => ?_⟩
  have s16 := s13.trans (s4.trans (s5.trans s6))
  have eR6 := s16 _ _ eR
  rw [jtel_pall] at eX
  have hall : AllS es := link_all hmap hsa
  obtain ⟨hPa, plen, hone, hnone⟩ : AllP H6 (pall zs) 8000 ∧ (pall zs).length ≤ n ∧ (1 ≤ es0.length → ∃ (m : Nat) (pt : Nat → Rat × Rat), (pall zs).map (·.2) = (List.range m).map (pcs pt) ∧ m ≤ 40 ∧ (es0.length = 1 → m = 1 ∧ pt 0 = ((nmo es0 0 : Rat), (nno es0 0 : Rat) / (b : Rat)) ∧ pt 1 = ((nmo es0 0 : Rat), (nno es0 0 : Rat) / (b : Rat))) ∧ (2 ≤ es0.length → BrP es0 b c m pt)) ∧ (es0.length = 0 → pall zs = []) := by
    cases hl : es.length with
    | zero =>
      rw [hl] at hJ
      cases zs with
      | nil => exact ⟨fun x hx => absurd hx (by simp [pall]), Nat.zero_le _, fun z => absurd z (by omega), fun _ => rfl⟩
      | cons z zs => exact hJ.elim
    | succ j =>
      rw [hl, parts_one hall j (by omega), show es.take (j + 1) = es from List.take_of_length_le (by omega)] at hJ
      cases zs with
      | nil => exact hJ.elim
      | cons z zs =>
        cases zs with
        | cons z' zs' => exact hJ.2.elim
        | nil =>
          have ep : pall [z] = z.1 := by simp [pall]
          rw [ep]
          obtain ⟨m, pt, hps, hml, w1, w2⟩ := jrun_br hb hc hβ hmap hri (by omega) hJ.1
          refine ⟨fun x hx => (hJ.1.1 x hx).mono (by decide), ?_, fun _ => ⟨m, pt, hps, by omega, w1, w2⟩, fun z => absurd z (by omega)⟩
          obtain ⟨_, _, ks, LL, fl, ro, g, s', hTr, _, _, hps'⟩ := hJ.1
          have l2 := congrArg List.length hps'
          simp at l2
          have := plant_few hb hmap hri hPl hTr
          omega
  walk_at "v"
  refine r_isi (.lst eX) kit_ll ?_
  walk_at "v"
  refine iteF ?_
  walk_at "v"
  refine r_len (.inl (SqL.of eX)) ?_
  rw [prefs_ln]
  walk_at "v"
  rw [show decide ((n : Int) < ((pall zs).length : Int)) = false from decide_eq_false (by omega)]
  refine iteF ?_
  walk_at "v"
  refine r_for (r_iL ?_)
  walk_at "v"
  refine ⟨X, rfl, ⟨_, SqL.of eX⟩, for_list (xs := prefs (pall zs)) (fun i σ H8 => ∃ (v6 : Option V), σ = [some (.ref a), some (.ref R), some (.int (n : Int)), some (.int c), some (.int b), some (.ref X), v6] ∧ Same H6 H8) ⟨none, rfl, Same.refl _⟩ ?_ ?_ ?_⟩
  · rintro i σ H8 _ ⟨v8, rfl, s8⟩
    exact SqL.of (s8 _ _ eX)
  · rintro i v σ H8 hv ⟨v8, rfl, s8⟩
    obtain ⟨x, hx, rfl⟩ := prefs_at hv
    walk_at "v"
    refine ⟨x, rfl, (hPa x (List.mem_of_getElem? hx)).up s8, fun H9 s9 => ?_⟩
    walk_at "v"
    refine iteF ?_
    walk_at "v"
    exact ⟨_, rfl, s8.trans s9⟩
  rintro σ H8 ⟨v8, rfl, s8⟩
  have eR8 := s8 _ _ eR6
  walk_at "v"
  refine r_len (.inl (SqL.of eR8)) ?_
  rw [nvals_len]
  walk_at "v"
  refine ite2 (fun c0 => ?_) (fun c0 => ?_)
  · have c0' := of_decide_eq_true c0
    have e0 := hnone (by omega)
    rw [e0] at eX
    walk_at "v"
    refine r_new (mk := .lst) (by simp) fun l9 H9 s9 n9 e9 => ?_
    walk_at "v"
    refine ⟨_, _, .lst ((s8.trans s9) _ _ eX) .nil, .lst e9 .nil, rfl, rfl, ?_⟩
    exact k H9
  · have c0' := of_decide_eq_false (Bool.eq_false_iff.mpr c0)
    obtain ⟨m, pt, hps, hm40, w1, w2⟩ := hone (by omega)
    walk_at "v"
    exact ⟨X, R, pall zs, es0, b, c, m, pt, rfl, s8 _ _ eX, hPa.up s8, hps, by walk_at "o", eR8, fun u hu => let ⟨q1, q2, q3⟩ := (hes u hu).up (s16.trans s8); ⟨q1, q2.mono (by decide), fun v hv => (q3 v hv).mono (by decide)⟩, hsa, hri, by omega, by walk_at "o", hb, zb.mono (by decide), zc.mono (by decide), w1, w2, fun H9 s9 => k H9⟩
end


theorem all_mk {l : PySem.W.OpenLaw} {w : World} {K : PySem.W.Frag} {h : Heap} {mg : Str → Option Value} {fa : Addr} (X : K.In h) (G : h.Ns mainGlobals mg) (hfa : mg "law" = some (.ref fa)) {tk_HEAD : Tok} {c_Bend : Addr} 
    (a_Bend : PySem.W.nsIn K mainGlobals "Bend" = some (some (.ref c_Bend))) (pg_Bend : PySem.W.plainGet K c_Bend Str.empty = true) (hd_Bend : PySem.W.hasDictIn K c_Bend = true) (po_Bend : PySem.W.plainOver K c_Bend = true) (sa_Bend : PySem.W.findIn K (.ref c_Bend) "__setattr__" = some (some (.builtin "object.__setattr__"))) (mk_Bend : PySem.W.makesIn K c_Bend = true) (kc_Bend : PySem.W.keepIn K (.ref c_Bend) = true)
    (nf_Bend_bound : PySem.W.findIn K (.ref c_Bend) "bound" = some none)
    (nf_Bend_twice : PySem.W.findIn K (.ref c_Bend) "twice" = some none)
    (nf_Bend_below : PySem.W.findIn K (.ref c_Bend) "below" = some none)
    (nf_Bend_above : PySem.W.findIn K (.ref c_Bend) "above" = some none)
    (nf_Bend_gentlest : PySem.W.findIn K (.ref c_Bend) "gentlest" = some none)
    (nf_Bend_steepest : PySem.W.findIn K (.ref c_Bend) "steepest" = some none)
    (h_law_cell : Fx K "_law_cell" s_law_cell)
    (h_law_mix : Fx K "_law_mix" s_law_mix)
    (h_law_row : Fx K "_law_row" s_law_row)
    (h_law_ratio : Fx K "_law_ratio" s_law_ratio)
    (h_law_is_ratio : Fx K "_law_is_ratio" s_law_is_ratio)
    (h_plain_divisor : Fx K "plain_divisor" s_plain_divisor)
    (h_steps_of_heads : Fx K "steps_of_heads" s_steps_of_heads)
    (h_divisor : Fx K "divisor" s_divisor)
    (h_ratio : Fx K "ratio" s_ratio)
    (h_reduced : Fx K "reduced" s_reduced)
    (h_loose_plus : Fx K "loose_plus" s_loose_plus)
    (h_loose_minus : Fx K "loose_minus" s_loose_minus)
    (h_loose_times : Fx K "loose_times" s_loose_times)
    (h_minus : Fx K "minus" s_minus)
    (h_plus : Fx K "plus" s_plus)
    (h_over : Fx K "over" s_over)
    (h_loose_slope : Fx K "loose_slope" s_loose_slope)
    (h_loose_along : Fx K "loose_along" s_loose_along)
    (h_loose_height : Fx K "loose_height" s_loose_height)
    (h_loose_off : Fx K "loose_off" s_loose_off)
    (h_line_by : Fx K "line_by" s_line_by)
    (h_height : Fx K "height" s_height)
    (h_meet : Fx K "meet" s_meet)
    (h_order : Fx K "order" s_order)
    (h_law_less : Fx K "_law_less" s_law_less)
    (h_runs : Fx K "runs" s_runs)
    (h_law_handed : Fx K "_law_handed" s_law_handed)
    (h_greatest : Fx K "greatest" s_greatest)
    (h_smallest : Fx K "smallest" s_smallest)
    (h_gentlest_with : Fx K "gentlest_with" s_gentlest_with)
    (h_steepest_with : Fx K "steepest_with" s_steepest_with)
    (h_opposite : Fx K "opposite" s_opposite)
    (h_is_steeper : Fx K "is_steeper" s_is_steeper)
    (h_touched : Fx K "touched" s_touched)
    (h_Bend_init : Fm K c_Bend "__init__" "Bend.__init__" s_Bend_init)
    (h_Bend_line_of : Fm K c_Bend "line_of" "Bend.line_of" s_Bend_line_of)
    (h_Bend_ended_in_cap : Fm K c_Bend "ended_in_cap" "Bend.ended_in_cap" s_Bend_ended_in_cap)
    (h_Bend_ended_in_cup : Fm K c_Bend "ended_in_cup" "Bend.ended_in_cup" s_Bend_ended_in_cup)
    (h_Bend_take : Fm K c_Bend "take" "Bend.take" s_Bend_take)
    (h_Bend_line_now : Fm K c_Bend "line_now" "Bend.line_now" s_Bend_line_now)
    (h_links_of : Fx K "links_of" s_links_of)
    (h_point_on : Fx K "point_on" s_point_on)
    (h_pieces_along : Fx K "pieces_along" s_pieces_along)
    (h_joined : Fx K "joined" s_joined)
    (h_law_is_piece : Fx K "_law_is_piece" s_law_is_piece)
    (h_law_height : Fx K "_law_height" s_law_height)
    (h_law_near : Fx K "_law_near" s_law_near)
    (h_law_broken : Fx K "_law_broken" s_law_broken)
    (h_law_planted : Fx K "_law_planted" s_law_planted)
    (h_law : Fx K "law" s_law)
    (g_HEAD : PySem.W.nsIn K mainGlobals "HEAD" = some (some (.int 256 tk_HEAD)))
    (z_len : PySem.W.nsIn K mainGlobals "len" = some none)
    (z_abs : PySem.W.nsIn K mainGlobals "abs" = some none)
    (z_range : PySem.W.nsIn K mainGlobals "range" = some none)
    (z_isinstance : PySem.W.nsIn K mainGlobals "isinstance" = some none)
    (z_int : PySem.W.nsIn K mainGlobals "int" = some none)
    (z_bool : PySem.W.nsIn K mainGlobals "bool" = some none)
    (z_tuple : PySem.W.nsIn K mainGlobals "tuple" = some none)
    (z_list : PySem.W.nsIn K mainGlobals "list" = some none)
    (z_max : PySem.W.nsIn K mainGlobals "max" = some none)
    (z_min : PySem.W.nsIn K mainGlobals "min" = some none)
    (z_enumerate : PySem.W.nsIn K mainGlobals "enumerate" = some none)
    (z_zip : PySem.W.nsIn K mainGlobals "zip" = some none)
    (z_all : PySem.W.nsIn K mainGlobals "all" = some none)
    (z_any : PySem.W.nsIn K mainGlobals "any" = some none)
    (z_sum : PySem.W.nsIn K mainGlobals "sum" = some none)
    (z_sorted : PySem.W.nsIn K mainGlobals "sorted" = some none)
    (z_reversed : PySem.W.nsIn K mainGlobals "reversed" = some none)
    (z_str : PySem.W.nsIn K mainGlobals "str" = some none) :
    ∃ fd : FuncData, (∀ (s : Shared) (v : Value), BindsTo s fd ⟨[v], []⟩ [("_law_script", v)]) ∧ ∀ base : Heap, K.In base → base.Ns mainGlobals mg → FnOk l.prog w K mg base CX0 10 fa fd ["_law_script"] (spLaw K) := by
  obtain ⟨_, fd_law, a_law, F_law⟩ := h_law
  have e := hfa.symm.trans (PySem.W.mg_of X G a_law)
  cases e
  have T : Txt mg := ⟨PySem.W.mg_none_of X G z_len, PySem.W.mg_none_of X G z_abs, PySem.W.mg_none_of X G z_range, PySem.W.mg_none_of X G z_isinstance, PySem.W.mg_none_of X G z_int, PySem.W.mg_none_of X G z_bool, PySem.W.mg_none_of X G z_tuple, PySem.W.mg_none_of X G z_list, PySem.W.mg_none_of X G z_max, PySem.W.mg_none_of X G z_min, PySem.W.mg_none_of X G z_enumerate, PySem.W.mg_none_of X G z_zip, PySem.W.mg_none_of X G z_all, PySem.W.mg_none_of X G z_any, PySem.W.mg_none_of X G z_sum, PySem.W.mg_none_of X G z_sorted, PySem.W.mg_none_of X G z_reversed, PySem.W.mg_none_of X G z_str⟩
  obtain ⟨_, _, a_law_cell, F_law_cell⟩ := h_law_cell
  obtain ⟨_, _, a_law_mix, F_law_mix⟩ := h_law_mix
  obtain ⟨_, _, a_law_row, F_law_row⟩ := h_law_row
  obtain ⟨_, _, a_law_ratio, F_law_ratio⟩ := h_law_ratio
  obtain ⟨_, _, a_law_is_ratio, F_law_is_ratio⟩ := h_law_is_ratio
  obtain ⟨_, _, a_plain_divisor, F_plain_divisor⟩ := h_plain_divisor
  obtain ⟨_, _, a_steps_of_heads, F_steps_of_heads⟩ := h_steps_of_heads
  obtain ⟨_, _, a_divisor, F_divisor⟩ := h_divisor
  obtain ⟨_, _, a_ratio, F_ratio⟩ := h_ratio
  obtain ⟨_, _, a_reduced, F_reduced⟩ := h_reduced
  obtain ⟨_, _, a_loose_plus, F_loose_plus⟩ := h_loose_plus
  obtain ⟨_, _, a_loose_minus, F_loose_minus⟩ := h_loose_minus
  obtain ⟨_, _, a_loose_times, F_loose_times⟩ := h_loose_times
  obtain ⟨_, _, a_minus, F_minus⟩ := h_minus
  obtain ⟨_, _, a_plus, F_plus⟩ := h_plus
  obtain ⟨_, _, a_over, F_over⟩ := h_over
  obtain ⟨_, _, a_loose_slope, F_loose_slope⟩ := h_loose_slope
  obtain ⟨_, _, a_loose_along, F_loose_along⟩ := h_loose_along
  obtain ⟨_, _, a_loose_height, F_loose_height⟩ := h_loose_height
  obtain ⟨_, _, a_loose_off, F_loose_off⟩ := h_loose_off
  obtain ⟨_, _, a_line_by, F_line_by⟩ := h_line_by
  obtain ⟨_, _, a_height, F_height⟩ := h_height
  obtain ⟨_, _, a_meet, F_meet⟩ := h_meet
  obtain ⟨_, _, a_order, F_order⟩ := h_order
  obtain ⟨_, _, a_law_less, F_law_less⟩ := h_law_less
  obtain ⟨_, _, a_runs, F_runs⟩ := h_runs
  obtain ⟨_, _, a_law_handed, F_law_handed⟩ := h_law_handed
  obtain ⟨_, _, a_greatest, F_greatest⟩ := h_greatest
  obtain ⟨_, _, a_smallest, F_smallest⟩ := h_smallest
  obtain ⟨_, _, a_gentlest_with, F_gentlest_with⟩ := h_gentlest_with
  obtain ⟨_, _, a_steepest_with, F_steepest_with⟩ := h_steepest_with
  obtain ⟨_, _, a_opposite, F_opposite⟩ := h_opposite
  obtain ⟨_, _, a_is_steeper, F_is_steeper⟩ := h_is_steeper
  obtain ⟨_, _, a_touched, F_touched⟩ := h_touched
  obtain ⟨_, _, a_Bend_init, i_Bend_init, F_Bend_init⟩ := h_Bend_init
  obtain ⟨_, _, a_Bend_line_of, i_Bend_line_of, F_Bend_line_of⟩ := h_Bend_line_of
  obtain ⟨_, _, a_Bend_ended_in_cap, i_Bend_ended_in_cap, F_Bend_ended_in_cap⟩ := h_Bend_ended_in_cap
  obtain ⟨_, _, a_Bend_ended_in_cup, i_Bend_ended_in_cup, F_Bend_ended_in_cup⟩ := h_Bend_ended_in_cup
  obtain ⟨_, _, a_Bend_take, i_Bend_take, F_Bend_take⟩ := h_Bend_take
  obtain ⟨_, _, a_Bend_line_now, i_Bend_line_now, F_Bend_line_now⟩ := h_Bend_line_now
  obtain ⟨_, _, a_links_of, F_links_of⟩ := h_links_of
  obtain ⟨_, _, a_point_on, F_point_on⟩ := h_point_on
  obtain ⟨_, _, a_pieces_along, F_pieces_along⟩ := h_pieces_along
  obtain ⟨_, _, a_joined, F_joined⟩ := h_joined
  obtain ⟨_, _, a_law_is_piece, F_law_is_piece⟩ := h_law_is_piece
  obtain ⟨_, _, a_law_height, F_law_height⟩ := h_law_height
  obtain ⟨_, _, a_law_near, F_law_near⟩ := h_law_near
  obtain ⟨_, _, a_law_broken, F_law_broken⟩ := h_law_broken
  obtain ⟨_, _, a_law_planted, F_law_planted⟩ := h_law_planted
  have C_HEAD : Cn mg "HEAD" 256 := ⟨_, PySem.W.mg_of X G g_HEAD⟩
  have K_Bend : Cl K mg "Bend" c_Bend ["bound", "twice", "below", "above", "gentlest", "steepest"] := ⟨⟨pg_Bend, hd_Bend, po_Bend, sa_Bend⟩, PySem.W.mg_of X G a_Bend, ⟨nf_Bend_bound, nf_Bend_twice, nf_Bend_below, nf_Bend_above, nf_Bend_gentlest, nf_Bend_steepest, trivial⟩⟩
  refine ⟨fd_law, fun s v => ?_, fun base _ _ => ?_⟩
  · obtain ⟨_, _, _, _, _, _, _, _, _, rfl, _, _⟩ := F_law.ex
    exact .of_eq rfl
  have D_law_cell := dnm l.prog w base X G a_law_cell F_law_cell (ok_law_cell F_law_cell T) (F_law_cell.binds2 fun _ _ _ _ _ _ _ _ => rfl)
  have D_law_mix := dnm l.prog w base X G a_law_mix F_law_mix (ok_law_mix F_law_mix ) (F_law_mix.binds2 fun _ _ _ _ _ _ _ _ => rfl)
  have D_law_row := dnm l.prog w base X G a_law_row F_law_row (ok_law_row F_law_row T D_law_cell D_law_mix) (F_law_row.binds3 fun _ _ _ _ _ _ _ _ _ => rfl)
  have D_law_ratio := dnm l.prog w base X G a_law_ratio F_law_ratio (ok_law_ratio F_law_ratio T) (F_law_ratio.binds2 fun _ _ _ _ _ _ _ _ => rfl)
  have D_law_is_ratio := dnm l.prog w base X G a_law_is_ratio F_law_is_ratio (ok_law_is_ratio F_law_is_ratio T D_law_ratio) (F_law_is_ratio.binds1 fun _ _ _ _ _ _ _ => rfl)
  have D_plain_divisor := dnm l.prog w base X G a_plain_divisor F_plain_divisor (ok_plain_divisor F_plain_divisor T) (F_plain_divisor.binds2 fun _ _ _ _ _ _ _ _ => rfl)
  have D_steps_of_heads := dnm l.prog w base X G a_steps_of_heads F_steps_of_heads (ok_steps_of_heads F_steps_of_heads C_HEAD) (F_steps_of_heads.binds2 fun _ _ _ _ _ _ _ _ => rfl)
  have D_divisor := dnm l.prog w base X G a_divisor F_divisor (ok_divisor F_divisor T C_HEAD D_plain_divisor D_steps_of_heads) (F_divisor.binds2 fun _ _ _ _ _ _ _ _ => rfl)
  have D_ratio := dnm l.prog w base X G a_ratio F_ratio (ok_ratio F_ratio T D_divisor) (F_ratio.binds2 fun _ _ _ _ _ _ _ _ => rfl)
  have D_reduced := dnm l.prog w base X G a_reduced F_reduced (ok_reduced F_reduced D_ratio) (F_reduced.binds1 fun _ _ _ _ _ _ _ => rfl)
  have D_loose_plus := dnm l.prog w base X G a_loose_plus F_loose_plus (ok_loose_plus F_loose_plus ) (F_loose_plus.binds2 fun _ _ _ _ _ _ _ _ => rfl)
  have D_loose_minus := dnm l.prog w base X G a_loose_minus F_loose_minus (ok_loose_minus F_loose_minus ) (F_loose_minus.binds2 fun _ _ _ _ _ _ _ _ => rfl)
  have D_loose_times := dnm l.prog w base X G a_loose_times F_loose_times (ok_loose_times F_loose_times ) (F_loose_times.binds2 fun _ _ _ _ _ _ _ _ => rfl)
  have D_minus := dnm l.prog w base X G a_minus F_minus (ok_minus F_minus D_loose_minus D_reduced) (F_minus.binds2 fun _ _ _ _ _ _ _ _ => rfl)
  have D_plus := dnm l.prog w base X G a_plus F_plus (ok_plus F_plus D_loose_plus D_reduced) (F_plus.binds2 fun _ _ _ _ _ _ _ _ => rfl)
  have D_over := dnm l.prog w base X G a_over F_over (ok_over F_over D_ratio) (F_over.binds2 fun _ _ _ _ _ _ _ _ => rfl)
  have D_loose_slope := dnm l.prog w base X G a_loose_slope F_loose_slope (ok_loose_slope F_loose_slope D_loose_minus) (F_loose_slope.binds2 fun _ _ _ _ _ _ _ _ => rfl)
  have D_loose_along := dnm l.prog w base X G a_loose_along F_loose_along (ok_loose_along F_loose_along D_loose_plus D_loose_times) (F_loose_along.binds3 fun _ _ _ _ _ _ _ _ _ => rfl)
  have D_loose_height := dnm l.prog w base X G a_loose_height F_loose_height (ok_loose_height F_loose_height D_loose_plus D_loose_times) (F_loose_height.binds2 fun _ _ _ _ _ _ _ _ => rfl)
  have D_loose_off := dnm l.prog w base X G a_loose_off F_loose_off (ok_loose_off F_loose_off D_loose_minus D_loose_height) (F_loose_off.binds2 fun _ _ _ _ _ _ _ _ => rfl)
  have D_line_by := dnm l.prog w base X G a_line_by F_line_by (ok_line_by F_line_by D_loose_along D_reduced) (F_line_by.binds2 fun _ _ _ _ _ _ _ _ => rfl)
  have D_height := dnm l.prog w base X G a_height F_height (ok_height F_height D_loose_height D_reduced) (F_height.binds2 fun _ _ _ _ _ _ _ _ => rfl)
  have D_meet := dnm l.prog w base X G a_meet F_meet (ok_meet F_meet D_over D_minus D_height) (F_meet.binds2 fun _ _ _ _ _ _ _ _ => rfl)
  have D_order := dnm l.prog w base X G a_order F_order (ok_order F_order ) (F_order.binds2 fun _ _ _ _ _ _ _ _ => rfl)
  have D_law_less := dnm l.prog w base X G a_law_less F_law_less (ok_law_less F_law_less ) (F_law_less.binds2 fun _ _ _ _ _ _ _ _ => rfl)
  have D_runs := dnm l.prog w base X G a_runs F_runs (ok_runs F_runs T) (F_runs.binds1 fun _ _ _ _ _ _ _ => rfl)
  have D_law_handed := dnm l.prog w base X G a_law_handed F_law_handed (ok_law_handed F_law_handed D_law_ratio) (F_law_handed.binds2 fun _ _ _ _ _ _ _ _ => rfl)
  have D_greatest := dnm l.prog w base X G a_greatest F_greatest (ok_greatest F_greatest D_order) (F_greatest.binds1 fun _ _ _ _ _ _ _ => rfl)
  have D_smallest := dnm l.prog w base X G a_smallest F_smallest (ok_smallest F_smallest D_order) (F_smallest.binds1 fun _ _ _ _ _ _ _ => rfl)
  have D_loose_slopeQ := dnm l.prog w base X G a_loose_slope F_loose_slope (ok_loose_slopeQ F_loose_slope D_loose_minus) (F_loose_slope.binds2 fun _ _ _ _ _ _ _ _ => rfl)
  have D_gentlest_with := dnm l.prog w base X G a_gentlest_with F_gentlest_with (ok_gentlest_with F_gentlest_with T D_loose_minus D_loose_slopeQ D_greatest) (F_gentlest_with.binds4 fun _ _ _ _ _ _ _ _ _ _ => rfl)
  have D_steepest_with := dnm l.prog w base X G a_steepest_with F_steepest_with (ok_steepest_with F_steepest_with T D_loose_plus D_loose_slopeQ D_smallest) (F_steepest_with.binds4 fun _ _ _ _ _ _ _ _ _ _ => rfl)
  have D_opposite := dnm l.prog w base X G a_opposite F_opposite (ok_opposite F_opposite ) (F_opposite.binds1 fun _ _ _ _ _ _ _ => rfl)
  have D_is_steeper := dnm l.prog w base X G a_is_steeper F_is_steeper (ok_is_steeper F_is_steeper D_order) (F_is_steeper.binds2 fun _ _ _ _ _ _ _ _ => rfl)
  have D_touched := dnm l.prog w base X G a_touched F_touched (ok_touched F_touched D_order D_loose_off) (F_touched.binds3 fun _ _ _ _ _ _ _ _ _ => rfl)
  have D_Bend : Dk l.prog w K mg base 6 "Bend" c_Bend ["self", "bound"] (spBInit c_Bend) := ⟨_, _, ok_Bend_init F_Bend_init K_Bend D_plus, ⟨mk_Bend, a_Bend_init, i_Bend_init, kc_Bend⟩, (F_Bend_init.binds2 fun _ _ _ _ _ _ _ _ => rfl), K_Bend.at_⟩
  have D_Bend_line_of := dmm l.prog w base (mg := mg) a_Bend_line_of i_Bend_line_of F_Bend_line_of (ok_Bend_line_of F_Bend_line_of K_Bend D_reduced D_loose_along D_loose_minus D_greatest) (F_Bend_line_of.binds2 fun _ _ _ _ _ _ _ _ => rfl)
  have D_Bend_ended_in_cap := dmm l.prog w base (mg := mg) a_Bend_ended_in_cap i_Bend_ended_in_cap F_Bend_ended_in_cap (ok_Bend_ended_in_cap F_Bend_ended_in_cap K_Bend D_Bend_line_of D_touched D_opposite D_steepest_with) (F_Bend_ended_in_cap.binds2 fun _ _ _ _ _ _ _ _ => rfl)
  have D_Bend_ended_in_cup := dmm l.prog w base (mg := mg) a_Bend_ended_in_cup i_Bend_ended_in_cup F_Bend_ended_in_cup (ok_Bend_ended_in_cup F_Bend_ended_in_cup K_Bend D_Bend_line_of D_touched D_opposite D_gentlest_with) (F_Bend_ended_in_cup.binds2 fun _ _ _ _ _ _ _ _ => rfl)
  have D_Bend_take := dmm l.prog w base (mg := mg) a_Bend_take i_Bend_take F_Bend_take (ok_Bend_take F_Bend_take K_Bend D_gentlest_with D_steepest_with D_is_steeper D_Bend_ended_in_cap D_Bend_ended_in_cup) (F_Bend_take.binds2 fun _ _ _ _ _ _ _ _ => rfl)
  have D_Bend_line_now := dmm l.prog w base (mg := mg) a_Bend_line_now i_Bend_line_now F_Bend_line_now (ok_Bend_line_now F_Bend_line_now T K_Bend D_line_by D_Bend_line_of) (F_Bend_line_now.binds1 fun _ _ _ _ _ _ _ => rfl)
  have D_links_of := dnm l.prog w base X G a_links_of F_links_of (ok_links_of F_links_of T K_Bend D_Bend D_Bend_take D_Bend_line_now) (F_links_of.binds2 fun _ _ _ _ _ _ _ _ => rfl)
  have D_point_on := dnm l.prog w base X G a_point_on F_point_on (ok_point_on F_point_on D_height) (F_point_on.binds2 fun _ _ _ _ _ _ _ _ => rfl)
  have D_pieces_along := dnm l.prog w base X G a_pieces_along F_pieces_along (ok_pieces_along F_pieces_along T D_point_on D_meet) (F_pieces_along.binds3 fun _ _ _ _ _ _ _ _ _ => rfl)
  have D_joined := dnm l.prog w base X G a_joined F_joined (ok_joined F_joined T D_runs D_links_of D_pieces_along) (F_joined.binds2 fun _ _ _ _ _ _ _ _ => rfl)
  have D_law_is_piece := dnm l.prog w base X G a_law_is_piece F_law_is_piece (ok_law_is_piece F_law_is_piece T D_law_is_ratio) (F_law_is_piece.binds1 fun _ _ _ _ _ _ _ => rfl)
  have D_law_height := dnm l.prog w base X G a_law_height F_law_height (ok_law_height F_law_height ) (F_law_height.binds2 fun _ _ _ _ _ _ _ _ => rfl)
  have D_law_near := dnm l.prog w base X G a_law_near F_law_near (ok_law_near F_law_near T) (F_law_near.binds4 fun _ _ _ _ _ _ _ _ _ _ => rfl)
  have D_law_broken := dnm l.prog w base X G a_law_broken F_law_broken (ok_law_broken F_law_broken T D_law_ratio D_law_less D_law_near D_law_height) (F_law_broken.binds4 fun _ _ _ _ _ _ _ _ _ _ => rfl)
  have D_law_planted := dnm l.prog w base X G a_law_planted F_law_planted (ok_law_planted F_law_planted T D_law_row) (F_law_planted.binds1 fun _ _ _ _ _ _ _ => rfl)
  have D_law := dnm l.prog w base X G a_law F_law (ok_law F_law T D_law_planted D_law_row D_law_handed D_law_ratio D_joined D_law_is_piece D_law_broken) (F_law.binds1 fun _ _ _ _ _ _ _ => rfl)
  exact ok_law F_law T D_law_planted D_law_row D_law_handed D_law_ratio D_joined D_law_is_piece D_law_broken
theorem walk {l : PySem.W.OpenLaw} {q : Program} {loose : List Str} {XP : (Str → Option Value) → Heap → Prop} {YP : World → Heap → Prop} {d : DefRec} {K : Params → PySem.W.Frag} (hn : l.most = some 63) (hdf : d.params.defaults = [])
    (hY : ∀ (w : World) (h : Heap), YP w h → (K w.params).In h)
    (F : ∀ (w : World) (mg : Str → Option Value) (fa : Addr) (h : Heap), (K w.params).In h → h.Ns mainGlobals mg → mg d.name = some (.ref fa) →
      ∃ fd : FuncData, (∀ (s : Shared) (u : Value), BindsTo s fd ⟨[u], []⟩ [("_law_script", u)]) ∧ ∀ base : Heap, (K w.params).In base → base.Ns mainGlobals mg → FnOk l.prog w (K w.params) mg base CX0 10 fa fd ["_law_script"] (spLaw (K w.params))) :
    PySem.W.WalkO q loose XP YP l.row.toRowW d [] (fun f vs => PySem.call f vs) :=
  L2.walk_of (n := 63) (k := 10) (x := "_law_script") (CX := fun _ => CX0) (sp := fun w => spLaw (K w.params)) hn (by decide) hdf ⟨rfl, by decide, by decide⟩ hY F (fun _ _ a ns hl _ hS => ⟨a, ns, rfl, hS, hl, fun _ => rfl⟩) fun _ _ _ _ _ z => z
end Lw
open PySem PySem.W PyProof.Rows
set_option maxRecDepth 100000 in
set_option maxHeartbeats 0 in
theorem PySem.Challenge.cw_lath_k48_planted_lines_holds : PySem.Challenge.rw_lath_k48_planted_lines.Holds := by
  w_on; o_law; k_head; (case hw => w_witness2)
  k_fill
  refine Lw.walk (l := PySem.Challenge.rw_lath_k48_planted_lines) rfl rfl (fun w h Y => PySem.W.kIn_of Y) ?F
  case F =>
    intro w mg fa h KX G hmg
    refine' Lw.all_mk KX G hmg ?a0 ?a1 ?a2 ?a3 ?a4 ?a5 ?a6 ?a7 ?a8 ?a9 ?a10 ?a11 ?a12 ?a13 ?a14 ?a15 ?a16 ?a17 ?a18 ?a19 ?a20 ?a21 ?a22 ?a23 ?a24 ?a25 ?a26 ?a27 ?a28 ?a29 ?a30 ?a31 ?a32 ?a33 ?a34 ?a35 ?a36 ?a37 ?a38 ?a39 ?a40 ?a41 ?a42 ?a43 ?a44 ?a45 ?a46 ?a47 ?a48 ?a49 ?a50 ?a51 ?a52 ?a53 ?a54 ?a55 ?a56 ?a57 ?a58 ?a59 ?a60 ?a61 ?a62 ?a63 ?a64 ?a65 ?a66 ?a67 ?a68 ?a69 ?a70 ?a71 ?a72 ?a73 ?a74 ?a75 ?a76 ?a77 ?a78 ?a79 ?a80 ?a81
    (case a0 => walk_at "fz"); (case a1 => walk_at "fz"); (case a2 => walk_at "fz"); (case a3 => walk_at "fz"); (case a4 => walk_at "fz"); (case a5 => walk_at "fz"); (case a6 => walk_at "fz"); (case a7 => walk_at "fz"); (case a8 => walk_at "fz"); (case a9 => walk_at "fz"); (case a10 => walk_at "fz"); (case a11 => walk_at "fz"); (case a12 => walk_at "fz"); (case a13 => walk_at "fz"); (case a14 => walk_at "fz"); (case a15 => walk_at "fz"); (case a16 => walk_at "fz"); (case a17 => walk_at "fz"); (case a18 => walk_at "fz"); (case a19 => walk_at "fz"); (case a20 => walk_at "fz"); (case a21 => walk_at "fz"); (case a22 => walk_at "fz"); (case a23 => walk_at "fz"); (case a24 => walk_at "fz"); (case a25 => walk_at "fz"); (case a26 => walk_at "fz"); (case a27 => walk_at "fz"); (case a28 => walk_at "fz"); (case a29 => walk_at "fz"); (case a30 => walk_at "fz"); (case a31 => walk_at "fz"); (case a32 => walk_at "fz"); (case a33 => walk_at "fz"); (case a34 => walk_at "fz"); (case a35 => walk_at "fz"); (case a36 => walk_at "fz"); (case a37 => walk_at "fz"); (case a38 => walk_at "fz"); (case a39 => walk_at "fz"); (case a40 => walk_at "fz"); (case a41 => walk_at "fz"); (case a42 => walk_at "fz"); (case a43 => walk_at "fz"); (case a44 => walk_at "fz"); (case a45 => walk_at "fz"); (case a46 => walk_at "fz"); (case a47 => walk_at "fz"); (case a48 => walk_at "fz"); (case a49 => walk_at "fz"); (case a50 => walk_at "fz"); (case a51 => walk_at "fz"); (case a52 => walk_at "fz"); (case a53 => walk_at "fz"); (case a54 => walk_at "fz"); (case a55 => walk_at "fz"); (case a56 => walk_at "fz"); (case a57 => walk_at "fz"); (case a58 => walk_at "fz"); (case a59 => walk_at "fz"); (case a60 => walk_at "fz"); (case a61 => walk_at "fz"); (case a62 => walk_at "fz"); (case a63 => walk_at "fz"); (case a64 => walk_at "fz"); (case a65 => walk_at "fz"); (case a66 => walk_at "fz"); (case a67 => walk_at "fz"); (case a68 => walk_at "fz"); (case a69 => walk_at "fz"); (case a70 => walk_at "fz"); (case a71 => walk_at "fz"); (case a72 => walk_at "fz"); (case a73 => walk_at "fz"); (case a74 => walk_at "fz"); (case a75 => walk_at "fz"); (case a76 => walk_at "fz"); (case a77 => walk_at "fz"); (case a78 => walk_at "fz"); (case a79 => walk_at "fz"); (case a80 => walk_at "fz"); (case a81 => walk_at "fz")

