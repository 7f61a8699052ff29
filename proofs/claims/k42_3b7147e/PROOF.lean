import PyProof.Rows.All
import Wide.All
import OpenK.AllK
import Wide.FinOn
import Lean
import PyProof.EqAt
import PyProof.EqKinds
import PyProof.TupleCall
import PySem.Challenge.RW_lath_k42_links
set_option Elab.async false
set_option linter.all false
set_option maxRecDepth 100000
theorem au0_ (h : 1 = 1 := by rfl) : 1 = 1 := h
theorem au1_ (h : 1 = 1 := by decide) : 1 = 1 := h
theorem au2_ (h : 1 = 1 := by intro _; rfl) : 1 = 1 := h
theorem au3_ (h : 1 = 1 := by with_unfolding_all rfl) : 1 = 1 := h

namespace PySem.W.Fast
def tw9281340903900666434 := ()
def tw5698501202349542917 := ()
def tw12551945592709088256 := ()
def tw17452299342587337824 := ()
def tw11339893236257540192 := ()
def tw15292576998106642752 := ()
def tw3843198245931825504 := ()
def tw15474854085268281728 := ()
def tw3338023345386986912 := ()
def tw4905719612791447136 := ()
def tw11020060597255130752 := ()
def tw9550722719128699808 := ()
def tw9926588351613184033 := ()
def tw13534134829941016673 := ()
def tw13871889974293871841 := ()
def tw13785922344077214977 := ()
def tw10664025227988087073 := ()
def tw6845670558496956833 := ()
def tw14119590758668055041 := ()
def tw16041074192566640193 := ()
def tw7285374736108026433 := ()
def tw17996577431422220897 := ()
def tw307605825500723873 := ()
def tw9137721954864278209 := ()
def tw2056750676455497537 := ()
def tw9343427673643170914 := ()
def tw9002188748693205122 := ()
def tw8897633363927038242 := ()
def tw4907340785706840418 := ()
def tw14892143215295645122 := ()
def tw13982883987757113826 := ()
def tw2644642955629187586 := ()
def tw6368998981165842018 := ()
def tw6924869257473640066 := ()
def tw13517231070048458402 := ()
def tw8578313713639885634 := ()
def tw16039087965826794338 := ()
def tw16849080434845106146 := ()
def tw16069319955491612707 := ()
def tw9837347304122258659 := ()
def tw10523004597507678691 := ()
def tw15652481111314133539 := ()
def tw12126479993880596131 := ()
def tw10808560484837675875 := ()
def tw3542432958065492867 := ()
def tw16490966772331958276 := ()
def tw2941900936484471940 := ()
def tw12051509141032616068 := ()
def tw4901680921106448740 := ()
def tw1770267265812978084 := ()
def tw11370490394193781220 := ()
def tw3891631920898573860 := ()
def tw3957442947327481380 := ()
def tw10936872054335985348 := ()
def tw7701283248606234468 := ()
def tw15501656428468473861 := ()
def tw482824006152662053 := ()
def tw11041091826991691877 := ()
def tw10557855720897320069 := ()
def tw1434701597678243973 := ()
def tw8213892767057672869 := ()
def tw17483369824637828773 := ()
def tw131987092880853669 := ()
def tw12442776353393096517 := ()
def tw7014569320160863141 := ()
def tw11681506574057963750 := ()
def tw5708827485473448198 := ()
def tw8355952242940318022 := ()
def tw15795705007297123654 := ()
def tw15794519828649639334 := ()
def tw2399499669873999462 := ()
def tw10858309885596641030 := ()
def tw10424777120874985254 := ()
def tw10622825927140862822 := ()
def tw4010621361228566406 := ()
def tw4441789087632515046 := ()
def tw16340379288780276743 := ()
def tw17902640729919954023 := ()
def tw1918113509556127175 := ()
def tw6585862491948812743 := ()
def tw6872779556355514919 := ()
def tw11971999531375640167 := ()
def tw11780624501890196263 := ()
def tw4505689211044624231 := ()
def tw12097816448346097575 := ()
def tw13360129798084809671 := ()
def tw15986640740927547464 := ()
def tw17247062093609357384 := ()
def tw4767701218299942024 := ()
def tw1314447943081301224 := ()
def tw16678935356507666792 := ()
def tw11853156694570285544 := ()
def tw10916417277058733576 := ()
def tw9173705637368350248 := ()
def tw11490349489767046792 := ()
def tw7283129468104011400 := ()
def tw14022202349393760072 := ()
def tw9848109853954087784 := ()
def tw10565996602713459624 := ()
def tw8017960718661809128 := ()
def tw8746396645124731913 := ()
def tw5461247016120999977 := ()
def tw9786850455036075177 := ()
def tw15768590982380063945 := ()
def tw11519904379029515625 := ()
def tw9986593819198946857 := ()
def tw14799613240207873609 := ()
def tw9468849706806710953 := ()
def tw13179205107635633865 := ()
def tw10498635651064184681 := ()
def tw12962367608273497033 := ()
def tw17908718505129113642 := ()
def tw9027938312769350762 := ()
def tw1975210032360592554 := ()
def tw15858724160557198666 := ()
def tw16331780205015073130 := ()
def tw12136360439233502730 := ()
def tw884192123980222218 := ()
def tw9254158811228428042 := ()
def tw13909175455650113322 := ()
def tw8546298826271764683 := ()
def tw13382444174216997067 := ()
def tw15926116679467051339 := ()
def tw5902101905403988331 := ()
def tw869695948127425931 := ()
def tw4845904383567422891 := ()
def tw17064961473589363211 := ()
def tw7041399217322351275 := ()
def tw3830286509300197131 := ()
def tw3199792487891184395 := ()
def tw321132813272340235 := ()
def tw12920646461158437739 := ()
def tw17722607533037299595 := ()
def tw4498580577329760139 := ()
def tw17284943008566122411 := ()
def tw16441247720918681644 := ()
def tw8175574164127288492 := ()
def tw6113887394779098348 := ()
def tw2844145054947696908 := ()
def tw15182029549886233932 := ()
def tw5131968439658292588 := ()
def tw3738769621388512620 := ()
def tw10885355522188184972 := ()
def tw10756530255042398604 := ()
def tw8657607433656475276 := ()
def tw2589997002268466892 := ()
def tw10608719392389212908 := ()
def tw18151115189469095692 := ()
def tw11939709579741101868 := ()
def tw10950667055372186444 := ()
def tw12352731778788338508 := ()
def tw1998634973015462764 := ()
def tw16590738545452610508 := ()
def tw13745780863443067884 := ()
def tw5997558449574588493 := ()
def tw5544491415896049805 := ()
def tw541248038718312621 := ()
def tw9462977214163718349 := ()
def tw6560751416072186125 := ()
def tw7291499662024321389 := ()
def tw1195549467931436813 := ()
def tw3871108733986212910 := ()
def tw2102552996299985070 := ()
def tw10020042334470612302 := ()
def tw10447466436284771694 := ()
def tw3996502614363838862 := ()
def tw13802109895178067406 := ()
def tw8758935143095857678 := ()
def tw7901113834088423022 := ()
def tw6768366397487569582 := ()
def tw18224785128281926350 := ()
def tw12560083734616385294 := ()
def tw6242522083294421934 := ()
def tw17558948186037327822 := ()
def tw3958236040008407055 := ()
def tw11580575830311888911 := ()
def tw9891308767284482159 := ()
def tw4484146444286584975 := ()
def tw104677041411814767 := ()
def tw2995479935596865167 := ()
def tw2140973436494829231 := ()
def tw3996911283314936623 := ()
def tw17114299290494979919 := ()
def tw7842114717411316655 := ()
def tw15774690612718276656 := ()
def tw17273467248416157136 := ()
def tw15983202488943822448 := ()
def tw15337077981332228720 := ()
def tw16019160707001804496 := ()
def tw16712249833970798448 := ()
def tw10349636738662551408 := ()
def tw7899015361931301744 := ()
def tw3709214224960655312 := ()
def tw2761913274734683088 := ()
def tw17125738700732820464 := ()
def tw12693917472668197905 := ()
def tw7377558982598753329 := ()
def tw9435430082591037521 := ()
def tw6671125271481656401 := ()
def tw17039660846524635281 := ()
def tw1457557647316544689 := ()
def tw13190689687641253169 := ()
def tw10144582742538958161 := ()
def tw8825207048236732753 := ()
def tw16834947765328650641 := ()
def tw15108869237503480209 := ()
def tw16847451044639076881 := ()
def tw13501493263164834321 := ()
def tw13873572702862132785 := ()
def tw16134273344805759569 := ()
def tw450802497077139089 := ()
def tw16005227337059391185 := ()
def tw2441372282550626065 := ()
def tw9635393118231841681 := ()
def tw7788442014282185649 := ()
def tw17173189760508122065 := ()
def tw6257354931351038130 := ()
def tw2717250484502743282 := ()
def tw14278193805786510610 := ()
def tw956217496734761298 := ()
def tw6633304738456466834 := ()
def tw4503331462227429906 := ()
def tw3516118699084215858 := ()
def tw17141333771550092882 := ()
def tw10804420609527278194 := ()
def tw1437780146416390770 := ()
def tw15625361976722309810 := ()
def tw9521052452253104147 := ()
def tw4100102406529030387 := ()
def tw1671442209052448083 := ()
def tw12937624800091314547 := ()
def tw4138874399469625075 := ()
def tw2795612985484524435 := ()
def tw14343180566345134035 := ()
def tw10910669892993941459 := ()
def tw10306215588887426228 := ()
def tw4263891838782509268 := ()
def tw15590919900481467764 := ()
def tw5483735009052401204 := ()
def tw6056161617876786772 := ()
def tw7182281712300011220 := ()
def tw820101586094936820 := ()
def tw10186378111268882196 := ()
def tw16994212453400241012 := ()
def tw10393567689718003604 := ()
def tw11519043904843079604 := ()
def tw14893092923625808884 := ()
def tw11793034505265927189 := ()
def tw9530952833412175925 := ()
def tw648345416869784629 := ()
def tw6626510048086534389 := ()
def tw10341056912710771125 := ()
def tw7951892250205044181 := ()
def tw10053553902486627829 := ()
def tw12247298323832954421 := ()
def tw8196078445765021301 := ()
def tw17930194477033814645 := ()
def tw3255189857042333333 := ()
def tw350286649499918101 := ()
def tw4593328134666548053 := ()
def tw4279735434967194517 := ()
def tw16992823668685373365 := ()
def tw18257929295994981398 := ()
def tw5725888317729334326 := ()
def tw2349973694244845654 := ()
def tw8347234605684428054 := ()
def tw1902343215103742294 := ()
def tw10083237610958984630 := ()
def tw12716163139246995894 := ()
def tw2685237024503318038 := ()
def tw3275745000530425366 := ()
def tw12766537743852029494 := ()
def tw2218517982429533814 := ()
def tw12506570636888950422 := ()
def tw9492278805020309174 := ()
def tw7613240289166330646 := ()
def tw7378318742690637718 := ()
def tw12635119116542388247 := ()
def tw8525236540056570999 := ()
def tw5255388811103015127 := ()
def tw5870917089857070327 := ()
def tw12610707825061797239 := ()
def tw15959257315119079799 := ()
def tw4701035604025811351 := ()
def tw9943937806936786391 := ()
def tw13888738388965540439 := ()
def tw5381332534456353463 := ()
def tw4126906391237236407 := ()
def tw1672315641060128439 := ()
def tw13613021680185212631 := ()
def tw4856164548156266199 := ()
def tw12512026458780478167 := ()
def tw13692731969986708215 := ()
def tw475385272126057271 := ()
def tw13631461210659421079 := ()
def tw16431027661353045112 := ()
def tw11513603438354652408 := ()
def tw14476366081247350168 := ()
def tw7026122460399618520 := ()
def tw5474004768145975800 := ()
def tw13046482741360823000 := ()
def tw17762231763236288376 := ()
def tw9048227215419507129 := ()
def tw12605795928728660441 := ()
def tw8654832973498170969 := ()
def tw400592143196660409 := ()
def tw7061702086641770265 := ()
def tw13339433510328418105 := ()
def tw13062447445732799481 := ()
def tw13465296670255519866 := ()
def tw14712821857044124922 := ()
def tw2403091947351990746 := ()
def tw8147679624893579738 := ()
def tw8471117219683428922 := ()
def tw13106998605824853594 := ()
def tw14927177752974142234 := ()
def tw4520104879128642394 := ()
def tw392459193725431674 := ()
def tw13552156483067800474 := ()
def tw17136713586611682266 := ()
def tw1451417181745107003 := ()
def tw4835686476559501435 := ()
def tw4298222037226891547 := ()
def tw18206292221604702587 := ()
def tw16485464508795826683 := ()
def tw5026339397559785083 := ()
def tw1428014644225685339 := ()
def tw7120658525406673052 := ()
def tw3759554942750100700 := ()
def tw8706087306899843324 := ()
def tw1252495075313575484 := ()
def tw12974956740437245692 := ()
def tw2380386896843453308 := ()
def tw5926753010906358684 := ()
def tw9571244476519303068 := ()
def tw364898624719022557 := ()
def tw1192220887785902621 := ()
def tw9775052081299336765 := ()
def tw17217256882220113469 := ()
def tw4318459790327501501 := ()
def tw10261555548948240093 := ()
def tw15400724677898440477 := ()
def tw18391048279975555997 := ()
def tw3237459106091094013 := ()
def tw1103711286534204478 := ()
def tw2120167653566604382 := ()
def tw2011675143305292894 := ()
def tw4547188243656351102 := ()
def tw533615856482495934 := ()
def tw13178105628305724894 := ()
def tw11481165129498873342 := ()
def tw18284359608380762622 := ()
def tw369083290657305118 := ()
def tw1781070963322670686 := ()
def tw7205165774546461374 := ()
def tw7931173116159772382 := ()
def tw9615287870549271390 := ()
def tw13683636230469043166 := ()
def tw17440085447740317727 := ()
def tw17913599057693085119 := ()
def tw7532478090412991967 := ()
def tw8241249420624010783 := ()
def tw7836081625346144831 := ()
def tw2077763126085493311 := ()
def tw3355546021839877759 := ()
def tw12165881598305381119 := ()
def tw8454785235392411487 := ()
def tw6123524358807279487 := ()
def tw10770818942185359359 := ()
end PySem.W.Fast

namespace L2
open PySem PySem.Spec PyProof.Rows

noncomputable abbrev Key := Sum Int Str
noncomputable def keyIs : Key → Value → Bool
  | .inl k, v => Value.isInt k v
  | .inr x, v => Value.isStrOf x v
noncomputable def keyH (w : World) : Key → Int
  | .inl k => hashInt k
  | .inr x => hashStr w x
theorem keyIs_shape : ∀ {k : Key} {v : Value}, keyIs k v = true → (∃ i t, k = Sum.inl i ∧ v = Value.int i t) ∨ (∃ x t, k = Sum.inr x ∧ v = Value.str x t)
  | .inl i, v, h => by
    obtain ⟨t, e⟩ := Value.isInt_shape (k := i) (v := v) h
    exact .inl ⟨i, t, rfl, e⟩
  | .inr x, v, h => by
    obtain ⟨t, e⟩ := Value.isStrOf_shape (x := x) (v := v) h
    exact .inr ⟨x, t, rfl, e⟩
theorem key_ll (a b : Int) : decide ((Sum.inl a : Key) = Sum.inl b) = (a == b) := by
  by_cases e : a = b
  · subst e; simp
  · have h : ¬ (Sum.inl a : Key) = Sum.inl b := fun q => e (Sum.inl.inj q)
    rw [decide_eq_false h]
    exact (beq_eq_false_iff_ne.mpr e).symm
theorem key_rr (a b : Str) : decide ((Sum.inr a : Key) = Sum.inr b) = decide (a = b) := by
  by_cases e : a = b
  · subst e; simp
  · have h : ¬ (Sum.inr a : Key) = Sum.inr b := fun q => e (Sum.inr.inj q)
    rw [decide_eq_false h, decide_eq_false e]
theorem key_lr (a : Int) (b : Str) : decide ((Sum.inl a : Key) = Sum.inr b) = false := decide_eq_false (fun q => nomatch q)
theorem key_rl (a : Str) (b : Int) : decide ((Sum.inr a : Key) = Sum.inl b) = false := decide_eq_false (fun q => nomatch q)

noncomputable def mixKind (prog : Program) (w : World) : PySem.KeyKind prog w Key where
  is := keyIs
  hash := keyH w
  inj := fun v a b ha hb => by
    rcases keyIs_shape ha with ⟨i, t, rfl, rfl⟩ | ⟨x, t, rfl, rfl⟩
    · rcases keyIs_shape hb with ⟨j, u, rfl, e⟩ | ⟨y, u, rfl, e⟩
      · injection e with e1 _; rw [e1]
      · exact nomatch e
    · rcases keyIs_shape hb with ⟨j, u, rfl, e⟩ | ⟨y, u, rfl, e⟩
      · exact nomatch e
      · injection e with e1 _; rw [e1]
  byValue := fun k v h => by
    rcases keyIs_shape h with ⟨i, t, rfl, rfl⟩ | ⟨x, t, rfl, rfl⟩ <;> rfl
  pyHash := fun hv h => by
    rcases keyIs_shape hv with ⟨i, t, rfl, rfl⟩ | ⟨x, t, rfl, rfl⟩
    · exact wpAny_pyHash_int h
    · exact wpAny_pyHash_str h
  eqBool := fun hu hv h => by
    rcases keyIs_shape hu with ⟨i, t, rfl, rfl⟩ | ⟨x, t, rfl, rfl⟩
    · rcases keyIs_shape hv with ⟨j, u, rfl, rfl⟩ | ⟨y, u, rfl, rfl⟩
      · rw [key_ll] at h; exact wpAny_eqBool_int h
      · rw [key_lr] at h; exact SeqAt.EqAt.int_str i t y u _ _ _ _ h
    · rcases keyIs_shape hv with ⟨j, u, rfl, rfl⟩ | ⟨y, u, rfl, rfl⟩
      · rw [key_rl] at h; exact SeqAt.EqAt.str_int x t j u _ _ _ _ h
      · rw [key_rr] at h; exact wpAny_eqBool_str h
  «strs» := fun k x t v h => by
    rcases keyIs_shape h with ⟨i, u, rfl, e⟩ | ⟨y, u, rfl, e⟩
    · exact nomatch e
    · injection e with e1 _
      subst e1
      cases v <;> rfl

end L2

namespace L2
open PySem PySem.Spec PyProof.Rows

inductive V where
  | non | bl (b : Bool) | int (i : Int) | str (x : Str) | byt (b : Array UInt8) | flt (b : UInt64) | ref (a : Addr) | ty (n : String)
  deriving DecidableEq

noncomputable def RelV : V → Value → Prop
  | .non, u => u = Value.none
  | .bl b, u => u = Value.bool b
  | .int i, u => ∃ t, u = Value.int i t
  | .str x, u => ∃ t, u = Value.str x t
  | .byt b, u => ∃ t, u = Value.bytes b t
  | .flt b, u => ∃ t, u = Value.float b t
  | .ref a, u => u = Value.ref a
  | .ty n, u => u = Value.type n

noncomputable abbrev Vals : List V → List Value → Prop := Paired RelV
theorem Vals.length {xs : List V} {us : List Value} (r : Vals xs us) : xs.length = us.length := Paired.length r
theorem Vals.get : ∀ {xs : List V} {us : List Value} {i : Nat} {x : V}, Vals xs us → xs[i]? = some x → ∃ u, us[i]? = some u ∧ RelV x u
  | _, _, _, _, .nil, e => by simp at e
  | _, _, 0, _, .cons r _, e => by simp at e; subst e; exact ⟨_, rfl, r⟩
  | _, _, i + 1, x, .cons _ t, e => by
    obtain ⟨u, h1, h2⟩ := Vals.get (i := i) (x := x) t (by simpa using e)
    exact ⟨u, by simpa using h1, h2⟩
theorem Vals.set {x : V} {u : Value} (r : RelV x u) : ∀ {xs : List V} {us : List Value} (i : Nat), Vals xs us → Vals (xs.set i x) (us.set i u)
  | _, _, _, .nil => .nil
  | _, _, 0, .cons _ t => .cons r t
  | _, _, i + 1, .cons q t => .cons q (Vals.set r i t)
theorem Vals.append : ∀ {xs ys : List V} {us ws : List Value}, Vals xs us → Vals ys ws → Vals (xs ++ ys) (us ++ ws)
  | _, _, _, _, .nil, s => s
  | _, _, _, _, .cons r t, s => .cons r (Vals.append t s)
theorem Vals.take : ∀ {xs : List V} {us : List Value} (n : Nat), Vals xs us → Vals (xs.take n) (us.take n)
  | _, _, 0, _ => .nil
  | _, _, _ + 1, .nil => .nil
  | _, _, n + 1, .cons r t => .cons r (Vals.take n t)
theorem Vals.drop : ∀ {xs : List V} {us : List Value} (n : Nat), Vals xs us → Vals (xs.drop n) (us.drop n)
  | _, _, 0, r => r
  | _, _, _ + 1, .nil => .nil
  | _, _, n + 1, .cons _ t => Vals.drop n t
noncomputable def RelO : Option V → Option Value → Prop
  | some v, some u => RelV v u
  | none, none => True
  | _, _ => False
noncomputable def KV {κ : Type} : List (κ × V) → List (κ × Value) → Prop := Paired fun (p : κ × V) (q : κ × Value) => p.1 = q.1 ∧ RelV p.2 q.2

noncomputable def kV : Key → V
  | .inl i => .int i
  | .inr x => .str x

inductive HO where
  /-- a list -/
  | lst (xs : List V)
  /-- a tuple (never changes) -/
  | tup (xs : List V)
  /-- a dict whose keys are ints and texts; one whose keys are tuples of ints and texts (the empty one is both) -/
  | dK (kvs : List (Key × V)) | dT (kvs : List (List Key × V))
  /-- a set of ints: its members, its size -/
  | set (S : Int → Bool) (n : Nat)
  /-- an instance of the class at C, its dict at dx, its attributes -/
  | ins (C dx : Addr) (fs : List (Str × V))
  /-- the dict of the instance at x -/
  | own (x : Addr)
  /-- the dict of an exception -/
  | xd (fs : List (Str × V))
  /-- a bound method, f of x -/
  | met (f x : Addr)
  /-- a range object lo, lo + 1, .. below hi -/
  | rng (lo hi : Int)
  /-- a thing that is known to the object (the script; a dict while a loop walks it): read, never written while it is so -/
  | frz (o : Obj) (u : HO)
  /-- a code object's table -/
  | tbl (ps : Array Value)
  /-- any other thing, by what is true of its one object (a def of one's own: SetO a S n := HO.ext fun h => ..) -/
  | ext (φ : Heap → Prop)

noncomputable abbrev Hp := Addr → Option HO
noncomputable def upd (H : Hp) (a : Addr) (o : HO) : Hp := fun b => if b = a then some o else H b
theorem upd_same {H : Hp} {a : Addr} {o : HO} : upd H a o a = some o := by unfold upd; rw [if_pos rfl]
theorem upd_ne {H : Hp} {a b : Addr} {o : HO} (h : b ≠ a) : upd H a o b = H b := by unfold upd; rw [if_neg h]
theorem upd_upd {H : Hp} {a : Addr} {o u : HO} : upd (upd H a o) a u = upd H a u := by
  funext b; unfold upd; split <;> rfl
theorem ne_of_none {H : Hp} {a b : Addr} {o : HO} (h : H a = some o) (h' : H b = none) : a ≠ b := by
  intro e; subst e; rw [h] at h'; cases h'

section
variable (P : Program) (w : World)
noncomputable def ObjOk (H : Hp) (h : Heap) (a : Addr) : HO → Prop
  | .lst xs => xs.length ≤ sizeLine ∧ ∃ (its : List Value) (n : Nat), Vals xs its ∧ h.get? a = some { cls := .type "list", data := .seq its.toArray n }
  | .tup xs => xs.length ≤ sizeLine ∧ ∃ its : List Value, Vals xs its ∧ IsTup h a its.toArray
  | .dK kvs => kvs.length ≤ sizeLine ∧ (a == sysModules) = false ∧ ∃ vs, KV kvs vs ∧ h.DictOf (mixKind P w) a vs
  | .dT kvs => kvs.length ≤ sizeLine ∧ (a == sysModules) = false ∧ ∃ xs : List (List Key × Addr × Value),
      Paired (fun (p : List Key × V) (q : List Key × Addr × Value) => p.1 = q.1 ∧ H q.2.1 = some (.tup (p.1.map kV)) ∧ RelV p.2 q.2.2) kvs xs ∧
      ∃ o es ep, h.get? a = some o ∧ o.ExactDict ∧ o.data = .dict es ep ∧ es.toList = xs.map (entryOfKey (tupleKind (mixKind P w))) ∧ (xs.map (·.1)).Nodup
  | .set S n => h.SetOf (intKind P w) a S n
  | .ins C dx fs => H dx = some (.own a) ∧ fs.length ≤ 1000 ∧ dx ≠ a ∧ h.get? a = some (PySem.W.instObj C dx) ∧
      ∃ mA, h.Ns1 dx mA ∧ (∀ f, RelO (fs.lookup f) (mA f)) ∧ PySem.Within mA (fs.map (·.1))
  | .own _ => ∃ o, h.get? a = some o
  | .xd fs => ∃ mA, h.Ns1 a mA ∧ ∀ f, RelO (fs.lookup f) (mA f)
  | .rng lo hi => ∃ t u v, h.get? a = some { cls := .type "range", data := .fields #[.int lo t, .int hi u, .int 1 v] }
  | .frz o u => h.get? a = some o ∧ ObjOk H h a u
  | .tbl ps => h.get? a = some { cls := .none, data := .fields ps }
  | .met f x => h.get? a = some (PySem.W.methodObj (.ref f) (.ref x))
  | .ext φ => φ h ∧ (∃ o, h.get? a = some o) ∧ ∀ h1 h2 : Heap, φ h1 → (∀ o, h1.get? a = some o → h2.get? a = some o) → φ h2
noncomputable def HOk (H : Hp) (h : Heap) : Prop := ∀ a o, H a = some o → ObjOk P w H h a o
end

section
variable {P : Program} {w : World} {H H' : Hp} {h h' : Heap} {a : Addr} {o : HO}
theorem ObjOk.lt (x : ObjOk P w H h a o) : a < h.objs.size := by
  cases o with
  | lst xs => obtain ⟨_, _, _, _, e⟩ := x; exact Heap.lt_size e
  | tup xs => obtain ⟨_, _, _, p⟩ := x; exact p.lt
  | dK kvs => obtain ⟨_, _, _, _, o, _, _, e, _⟩ := x; exact Heap.lt_size e
  | dT kvs => obtain ⟨_, _, _, _, o, _, _, e, _⟩ := x; exact Heap.lt_size e
  | set S n => obtain ⟨o, _, _, _, e, _⟩ := x; exact Heap.lt_size e
  | ins C dx fs => obtain ⟨_, _, _, e, _⟩ := x; exact Heap.lt_size e
  | own y => obtain ⟨_, e⟩ := x; exact Heap.lt_size e
  | xd fs => obtain ⟨_, ⟨_, _, _, e, _⟩, _⟩ := x; exact Heap.lt_size e
  | rng lo hi => obtain ⟨_, _, _, e⟩ := x; exact Heap.lt_size e
  | frz ob u => obtain ⟨e, _⟩ := x; exact Heap.lt_size e
  | tbl ps => exact Heap.lt_size (show h.get? a = some _ from x)
  | met f y => exact Heap.lt_size (show h.get? a = some _ from x)
  | ext φ => obtain ⟨_, ⟨_, e⟩, _⟩ := x; exact Heap.lt_size e
theorem Paired.mapP {α β : Type} {F G : α → β → Prop} : ∀ {l₁ : List α} {l₂ : List β}, Paired F l₁ l₂ → (∀ a b, F a b → G a b) → Paired G l₁ l₂
  | _, _, .nil, _ => .nil
  | _, _, .cons r t, f => .cons (f _ _ r) (Paired.mapP t f)
theorem ObjOk.stay (x : ObjOk P w H h a o) (k : ∀ b u, (b = a ∨ H b = some (.own a)) → h.get? b = some u → h'.get? b = some u)
    (ho : ∀ b, H b = some (.own a) → H' b = some (.own a)) (ht : ∀ b xs, H b = some (.tup xs) → H' b = some (.tup xs)) : ObjOk P w H' h' a o := by
  induction o with
  | lst xs => obtain ⟨z, its, n, r, e⟩ := x; exact ⟨z, its, n, r, k _ _ (.inl rfl) e⟩
  | tup xs => obtain ⟨z, its, r, ob, e, c⟩ := x; exact ⟨z, its, r, ob, k _ _ (.inl rfl) e, c⟩
  | dK kvs => obtain ⟨z, y, vs, r, ob, es, ep, e, c⟩ := x; exact ⟨z, y, vs, r, ob, es, ep, k _ _ (.inl rfl) e, c⟩
  | dT kvs =>
    obtain ⟨z, y, xs, r, ob, es, ep, e, c⟩ := x
    exact ⟨z, y, xs, Paired.mapP r fun p q z => ⟨z.1, ht _ _ z.2.1, z.2.2⟩, ob, es, ep, k _ _ (.inl rfl) e, c⟩
  | set S n => obtain ⟨ob, es, ep, t, e, c⟩ := x; exact ⟨ob, es, ep, t, k _ _ (.inl rfl) e, c⟩
  | ins C dx fs =>
    obtain ⟨d, z, ne, e, mA, ⟨od, es, ep, e2, c⟩, r⟩ := x
    exact ⟨ho _ d, z, ne, k _ _ (.inl rfl) e, mA, ⟨od, es, ep, k _ _ (.inr d) e2, c⟩, r⟩
  | own y => obtain ⟨ob, e⟩ := x; exact ⟨ob, k _ _ (.inl rfl) e⟩
  | xd fs => obtain ⟨mA, ⟨od, es, ep, e, c⟩, r⟩ := x; exact ⟨mA, ⟨od, es, ep, k _ _ (.inl rfl) e, c⟩, r⟩
  | rng lo hi => obtain ⟨t, u, v, e⟩ := x; exact ⟨t, u, v, k _ _ (.inl rfl) e⟩
  | frz ob u ih => obtain ⟨e, q⟩ := x; exact ⟨k _ _ (.inl rfl) e, ih q⟩
  | tbl ps =>
    have e : h.get? a = some { cls := .none, data := .fields ps } := x
    show h'.get? a = some { cls := .none, data := .fields ps }
    exact k a _ (.inl rfl) e
  | met f y =>
    have e : h.get? a = some (PySem.W.methodObj (.ref f) (.ref y)) := x
    show h'.get? a = some (PySem.W.methodObj (.ref f) (.ref y))
    exact k a _ (.inl rfl) e
  | ext φ => obtain ⟨p, ⟨o, e⟩, st⟩ := x; exact ⟨st _ _ p fun o q => k _ _ (.inl rfl) q, ⟨o, k _ _ (.inl rfl) e⟩, st⟩
theorem HOk.lt (x : HOk P w H h) (e : H a = some o) : a < h.objs.size := (x a o e).lt
theorem HOk.fresh (x : HOk P w H h) (e : h.objs.size ≤ a) : H a = none := by
  cases q : H a with
  | none => rfl
  | some u => exact absurd (Nat.lt_of_lt_of_le (x.lt q) e) (Nat.lt_irrefl _)
theorem HOk.kept (x : HOk P w H h) (k : ∀ b u, h.get? b = some u → h'.get? b = some u) : HOk P w H h' := fun a o e =>
  (x a o e).stay (fun b u _ q => k b u q) (fun _ q => q) fun _ _ q => q
theorem HOk.laid (x : HOk P w H h) (k : ∀ b u, h.get? b = some u → h'.get? b = some u) (hp : h.objs.size ≤ a) (new : ObjOk P w (upd H a o) h' a o) : HOk P w (upd H a o) h' := fun b u e => by
  have hn := x.fresh hp
  by_cases hb : b = a
  · subst hb; rw [upd_same] at e; cases e; exact new
  · rw [upd_ne hb] at e
    exact (x b u e).stay (fun c v _ q => k c v q) (fun c q => by rw [upd_ne (ne_of_none q hn)]; exact q) fun c xs q => by rw [upd_ne (ne_of_none q hn)]; exact q
end

noncomputable def Rd (H : Hp) (a : Addr) (u : HO) : Prop := H a = some u ∨ ∃ o, H a = some (.frz o u)
theorem Rd.ok {P : Program} {w : World} {H : Hp} {h : Heap} {a : Addr} {u : HO} (r : Rd H a u) (x : HOk P w H h) : ObjOk P w H h a u := by
  rcases r with r | ⟨o, r⟩
  · exact x a u r
  · obtain ⟨_, q⟩ := x a _ r
    exact q
noncomputable def Mut : Option HO → Prop
  | some (.lst _) => True
  | some (.dK _) => True
  | some (.dT _) => True
  | some (.set _ _) => True
  | some (.ins _ _ _) => True
  | some (.ext _) => True
  | _ => False
section
variable {P : Program} {w : World} {H : Hp} {h h' : Heap} {x e : Addr} {o' : HO}
theorem HOk.write (ok : HOk P w H h) (mu : Mut (H x)) (he : e = x ∨ H e = some (.own x)) (k : ∀ b u, b ≠ e → h.get? b = some u → h'.get? b = some u) (heo : ∃ u, h'.get? e = some u)
    (new : ObjOk P w (upd H x o') h' x o') : HOk P w (upd H x o') h' := fun b u q => by
  have nown : ∀ c y, H c = some (.own y) → c ≠ x := fun c y r z => by subst z; rw [r] at mu; exact mu
  have ntup : ∀ c xs, H c = some (.tup xs) → c ≠ x := fun c xs r z => by subst z; rw [r] at mu; exact mu
  by_cases hb : b = x
  · subst hb; rw [upd_same] at q; cases q; exact new
  · rw [upd_ne hb] at q
    by_cases hbe : b = e
    · have q' : H b = some (.own x) := by
        rcases he with z | z
        · exact absurd (hbe.trans z) hb
        · rw [hbe]; exact z
      rw [q] at q'; cases q'
      obtain ⟨v, hv⟩ := heo
      exact ⟨v, by rw [hbe]; exact hv⟩
    · refine (ok b u q).stay (fun c v hc r => k c v ?_ r) (fun c r => by rw [upd_ne (nown c b r)]; exact r) fun c xs r => by rw [upd_ne (ntup c xs r)]; exact r
      rcases hc with rfl | hc
      · exact hbe
      · rintro rfl
        rcases he with z | z
        · exact nown c b hc z
        · rw [hc] at z; cases z; exact hb rfl
end

structure Un (fs ex : List Addr) (H H' : Hp) (h h' : Heap) : Prop where
  keep : ∀ b o, h.get? b = some o → H b = none → b ∉ fs → b ∉ ex → h'.get? b = some o
  slot : ∀ b o, h.get? b = some o → H b = none → b ∈ fs → b ∉ ex → ∃ sl, h'.get? b = some { o with slots := sl }
  free : ∀ b o, h.get? b = some o → H b = none → b ∉ ex → H' b = none
  there : ∀ b o, h.get? b = some o → b ∉ ex → ∃ o', h'.get? b = some o'
  tups : ∀ b xs, H b = some (.tup xs) → H' b = some (.tup xs)
  frzs : ∀ b o u, H b = some (.frz o u) → H' b = some (.frz o u)
  tbls : ∀ b ps, H b = some (.tbl ps) → ∃ more, H' b = some (.tbl (ps ++ more))
section
variable {fs fs' ex ex' : List Addr} {H H1 H2 : Hp} {h h1 h2 h' : Heap} {a x e : Addr} {o : HO}
theorem Un.any (u : Un fs ex H H1 h h1) {b : Addr} {ob : Obj} (q : h.get? b = some ob) (n : H b = none) (hx : b ∉ ex) : ∃ sl, h1.get? b = some { ob with slots := sl } := by
  by_cases hb : b ∈ fs
  · exact u.slot b ob q n hb hx
  · exact ⟨ob.slots, u.keep b ob q n hb hx⟩
theorem Un.kept (k : ∀ b u, h.get? b = some u → h'.get? b = some u) : Un fs ex H H h h' :=
  ⟨fun b ob q _ _ _ => k b ob q, fun b ob q _ _ _ => ⟨ob.slots, k b ob q⟩, fun _ _ _ n _ => n, fun b ob q _ => ⟨ob, k b ob q⟩, fun _ _ q => q, fun _ _ _ q => q, fun _ ps q => ⟨#[], by rw [q]; simp⟩⟩
theorem Un.refl : Un fs ex H H h h := Un.kept fun _ _ q => q
theorem Un.laid (k : ∀ b u, h.get? b = some u → h'.get? b = some u) (hp : h.objs.size ≤ a) (hn : H a = none) : Un fs ex H (upd H a o) h h' where
  keep := fun b u q _ _ _ => k b u q
  slot := fun b u q _ _ _ => ⟨u.slots, k b u q⟩
  free := fun b u q n _ => by rw [upd_ne (Nat.ne_of_lt (Nat.lt_of_lt_of_le (Heap.lt_size q) hp))]; exact n
  there := fun b u q _ => ⟨u, k b u q⟩
  tups := fun b xs q => by rw [upd_ne (ne_of_none q hn)]; exact q
  frzs := fun b u xs q => by rw [upd_ne (ne_of_none q hn)]; exact q
  tbls := fun b ps q => ⟨#[], by rw [upd_ne (ne_of_none q hn), q]; simp⟩
theorem Un.write (mu : Mut (H x)) (he : e = x ∨ H e = some (.own x)) (k : ∀ b u, b ≠ e → h.get? b = some u → h'.get? b = some u) (heo : ∃ u, h'.get? e = some u) : Un fs ex H (upd H x o) h h' := by
  have hx : ∀ b, H b = none → b ≠ x := fun b n z => by subst z; rw [n] at mu; exact mu
  have hb : ∀ b, H b = none → b ≠ e := fun b n z => by
    subst z
    rcases he with r | r
    · exact hx b n r
    · rw [n] at r; cases r
  have hm : ∀ b u, H b = some u → ¬ Mut (some u) → b ≠ x := fun b u q nm z => by subst z; rw [q] at mu; exact nm mu
  refine ⟨fun b u q n _ _ => k b u (hb b n) q, fun b u q n _ _ => ⟨u.slots, k b u (hb b n) q⟩, fun b u q n _ => by rw [upd_ne (hx b n)]; exact n, fun b u q _ => ?_,
    fun b xs q => by rw [upd_ne (hm b _ q fun z => z)]; exact q, fun b u xs q => by rw [upd_ne (hm b _ q fun z => z)]; exact q, fun b ps q => ⟨#[], by rw [upd_ne (hm b _ q fun z => z), q]; simp⟩⟩
  by_cases hbe : b = e
  · subst hbe; exact heo
  · exact ⟨u, k b u hbe q⟩
end

noncomputable def trk (h : Heap) (H : Hp) : List Addr := (List.range h.objs.size).filter fun a => (H a).isSome
noncomputable def hidT (h : Heap) (H : Hp) : Heap := PySem.W.hideAll h (trk h H)
theorem hidT_size (h : Heap) (H : Hp) : (hidT h H).objs.size = h.objs.size := PySem.W.hideAll_size _ _
theorem hidT_get {h : Heap} {H : Hp} {b : Addr} {o : Obj} (e : h.get? b = some o) (n : H b = none) : (hidT h H).get? b = some o :=
  PySem.W.hideAll_get _ e fun hm => by
    have q : (H b).isSome = true := (List.mem_filter.mp hm).2
    rw [n] at q; simp at q
theorem of_hidT {h : Heap} {H : Hp} {b : Addr} {o : Obj} (e : (hidT h H).get? b = some o) : h.get? b = some o ∧ H b = none := by
  have e' : h.get? b = some o := PySem.W.of_hideAll (trk h H) e
  refine ⟨e', ?_⟩
  cases q : H b with
  | none => rfl
  | some x =>
    have hm : b ∈ trk h H := List.mem_filter.mpr ⟨List.mem_range.mpr (Heap.lt_size e'), by simp [q]⟩
    have z : (hidT h H).get? b = none := PySem.W.hideAll_none (trk h H) hm
    rw [z] at e; cases e

end L2

namespace L2
open PySem PySem.Spec PyProof.Rows

structure Mod (K : PySem.W.Frag) (mg : Str → Option Value) (base : Heap) : Prop where
  kin : K.In base
  glob : base.Ns mainGlobals mg
  blt : ∃ mb, base.Ns builtinsNs mb ∧ ∀ x : Str, x ≠ "__name__" → mb x = bootBuiltins x
  nolimit : base.NoLimit

structure Cx where
  prog : Program
  w : World
  K : PySem.W.Frag
  mg : Str → Option Value
  base : Heap
  A : Around
  N : List Str
  s₀ : Shared
  H₀ : Hp
  env : Env
  outer : List Env
  stack : List Env
  ex : List Addr
  fn : Str → Bool
  calm : Bool
  pn : List (Addr × Obj)
  xe : Value → Shared → Prop
noncomputable def frs (l : List Env) : List Addr := l.filterMap (·.frame)
noncomputable abbrev Cx.fs (X : Cx) : List Addr := frs X.outer

noncomputable def Vis (sc : Scope) (x : Str) : Prop := sc.names.lookup x = some .local ∨ sc.names.lookup x = some .cell ∨ sc.names.lookup x = some .free
noncomputable def Loc (sc : Scope) (x : Str) : Prop := sc.names.lookup x = some .local ∨ sc.names.lookup x = some .cell
noncomputable def Look (env : Env) (h : Heap) (m : Str → Option Value) (x : Str) (u : Value) : Prop :=
  (env.kindOf x = some .local ∧ m x = some u) ∨ ((env.kindOf x = some .cell ∨ env.kindOf x = some .free) ∧ ∃ c, env.cells.lookup x = some c ∧ h.IsCell c (some u))

structure Cx.Ok (X : Cx) : Prop where
  mod : Mod X.K X.mg X.base
  kind : X.env.scope.kind = .function
  glob : X.env.globals = mainGlobals
  blt : X.env.builtins = builtinsNs
  above : X.s₀.heap.objs.size ≤ X.env.locals
  inj : ∀ x y c, X.env.cells.lookup x = some c → X.env.cells.lookup y = some c → x = y
  has : ∀ x, (X.env.kindOf x = some .cell ∨ X.env.kindOf x = some .free) → ∃ c, X.env.cells.lookup x = some c
  cab : ∀ x c, X.fn x = true → X.env.cells.lookup x = some c → X.s₀.heap.objs.size ≤ c
  hd : X.calm = true → X.A.handled = none
  frames : X.A.frames = some X.stack
  stk : X.stack = X.outer ∨ (X.stack = X.env :: X.outer ∧ X.env.frame = some X.env.locals)
  exf : ∀ b ∈ X.ex, b ≠ X.env.locals ∧ ∀ x c, X.env.cells.lookup x = some c → c ≠ b
  bs : ∀ b o, X.base.get? b = some o → X.s₀.heap.get? b = some o ∧ X.H₀ b = none
  bsz : X.base.objs.size ≤ X.s₀.heap.objs.size
  noex : ∀ b o, X.base.get? b = some o → b ∉ X.ex
  exfs : ∀ b ∈ X.ex, b ∉ X.fs
  funs : X.s₀.heap.FunFrames X.base X.outer
  frf : ∀ b ∈ X.fs, X.H₀ b = none

structure Inv (X : Cx) (pins : List (Addr × Obj)) (σ : List (Option V)) (H : Hp) (s : Shared) : Prop where
  ok : X.Ok
  os : s.os = X.s₀.os
  bare : AllBare s.gens
  base : Un X.fs X.ex X.H₀ H X.s₀.heap s.heap
  loc : ∃ m, s.heap.Ns X.env.locals m ∧ ∀ (i : Nat) (x : Str) (v : V), X.N[i]? = some x → σ[i]? = some (some v) → Vis X.env.scope x → ∃ u, RelV v u ∧ Look X.env s.heap m x u
  cell : ∀ x c, X.env.cells.lookup x = some c → ∃ v, s.heap.IsCell c v
  free : H X.env.locals = none
  freeC : ∀ x c, X.env.cells.lookup x = some c → H c = none
  pin : ∀ p ∈ X.pn ++ pins, s.heap.get? p.1 = some p.2 ∧ H p.1 = none ∧ p.1 ≠ X.env.locals ∧ p.1 ∉ X.fs ∧ ∀ v, p.2.data ≠ .cell v
  hok : HOk X.prog X.w H s.heap
  len : σ.length = X.N.length

section
variable {X : Cx} {pins : List (Addr × Obj)} {σ : List (Option V)} {H H' : Hp} {s : Shared} {h' : Heap}

theorem Cx.Ok.nofr (ok : X.Ok) {b : Addr} {o : Obj} (e : X.base.get? b = some o) : b ∉ X.fs := fun hb => by
  have := (ok.funs.mem hb).1
  rw [e] at this; cases this
theorem Inv.bs (I : Inv X pins σ H s) : ∀ b o, X.base.get? b = some o → s.heap.get? b = some o ∧ H b = none := fun b o e =>
  ⟨I.base.keep b o (I.ok.bs b o e).1 (I.ok.bs b o e).2 (I.ok.nofr e) (I.ok.noex b o e), I.base.free b o (I.ok.bs b o e).1 (I.ok.bs b o e).2 (I.ok.noex b o e)⟩
theorem Inv.bk (I : Inv X pins σ H s) : ∀ b o, X.base.get? b = some o → s.heap.get? b = some o := fun b o e => (I.bs b o e).1
theorem Inv.mod (I : Inv X pins σ H s) : Mod X.K X.mg X.base := I.ok.mod
theorem Inv.kIn (I : Inv X pins σ H s) : X.K.In s.heap := I.ok.mod.kin.keeps I.bk
theorem Inv.lt (I : Inv X pins σ H s) : X.env.locals < s.heap.objs.size := let ⟨_, hn, _⟩ := I.loc; hn.lt
theorem Inv.sz (I : Inv X pins σ H s) : X.s₀.heap.objs.size ≤ s.heap.objs.size := Nat.le_trans I.ok.above (Nat.le_of_lt I.lt)
theorem Inv.nofs (I : Inv X pins σ H s) {a : Addr} (h : s.heap.objs.size ≤ a) : a ∉ X.fs := fun hb => by
  obtain ⟨_, o, ho, _⟩ := I.ok.funs.mem hb
  exact absurd (Nat.lt_of_lt_of_le (Heap.lt_size ho) (Nat.le_trans I.sz h)) (Nat.lt_irrefl _)
theorem Inv.cne (I : Inv X pins σ H s) : ∀ x c, X.env.cells.lookup x = some c → c ≠ X.env.locals := fun x c e z => by
  obtain ⟨v, o, ho, hd⟩ := I.cell x c e
  obtain ⟨m, ⟨o', es, ep, ho', hd', _⟩, _⟩ := I.loc
  rw [z, ho'] at ho; cases ho; rw [hd'] at hd; cases hd
theorem Inv.funs (I : Inv X pins σ H s) : s.heap.FunFrames X.base X.outer := by
  have all : ∀ (l : List Env), (∀ b ∈ frs l, b ∈ X.fs) → X.s₀.heap.FunFrames X.base l → s.heap.FunFrames X.base l := by
    intro l
    induction l with
    | nil => intro _ _; trivial
    | cons env r ih =>
      intro hs hl
      obtain ⟨hk, ⟨L, o, hf, hn, ho, hd⟩, hr⟩ := hl
      have hL : L ∈ X.fs := hs L (by unfold frs; rw [List.filterMap_cons, hf]; exact List.mem_cons_self)
      obtain ⟨sl, e⟩ := I.base.slot L o ho (I.ok.frf L hL) hL fun z => I.ok.exfs L z hL
      exact ⟨hk, ⟨L, _, hf, hn, e, hd⟩, ih (fun b hb => hs b (by unfold frs; rw [List.filterMap_cons, hf]; exact List.mem_cons_of_mem _ hb)) hr⟩
  exact all X.outer (fun _ hb => hb) I.ok.funs

theorem Inv.stack (I : Inv X pins σ H s) : s.heap.FunFrames X.base X.stack := by
  rcases I.ok.stk with e | ⟨e, hf⟩
  · rw [e]; exact I.funs
  · rw [e]
    obtain ⟨m, hn, _⟩ := I.loc
    refine .cons (by rw [I.ok.kind]; decide) hf hn ?_ I.funs
    exact Heap.get?_none_of_le (Nat.le_trans I.ok.bsz I.ok.above)
theorem Inv.stkSub (I : Inv X pins σ H s) : ∀ b ∈ frs X.stack, b ∈ X.env.locals :: X.fs := fun b hb => by
  rcases I.ok.stk with e | ⟨e, hf⟩
  · rw [e] at hb; exact List.mem_cons_of_mem _ hb
  · rw [e] at hb
    unfold frs at hb
    rw [List.filterMap_cons, hf] at hb
    exact hb
theorem Inv.stkFree (I : Inv X pins σ H s) : ∀ b ∈ frs X.stack, H b = none := fun b hb => by
  rcases List.mem_cons.mp (I.stkSub b hb) with e | hb
  · rw [e]; exact I.free
  · obtain ⟨_, o, ho, _⟩ := I.ok.funs.mem hb
    exact I.base.free b o ho (I.ok.frf b hb) fun z => I.ok.exfs b z hb

theorem Inv.step {g' : Array GenState} {t' : Nat} {d' : Drawn} {ch : List Addr} (I : Inv X pins σ H s)
    (hch : ∀ b ∈ ch, (b ∈ X.ex ∨ X.s₀.heap.objs.size ≤ b) ∧ b ≠ X.env.locals ∧ (∀ x c, X.env.cells.lookup x = some c → c ≠ b) ∧ ∀ p ∈ X.pn ++ pins, p.1 ≠ b)
    (keep : ∀ b o, b ≠ X.env.locals → b ∉ X.fs → b ∉ ch → s.heap.get? b = some o → H b = none → h'.get? b = some o)
    (slot : ∀ b o, b ≠ X.env.locals → b ∈ X.fs → b ∉ ch → s.heap.get? b = some o → H b = none → ∃ sl, h'.get? b = some { o with slots := sl }) (free : ∀ b o, b ∉ ch → s.heap.get? b = some o → H b = none → H' b = none)
    (there : ∀ b o, b ∉ ch → s.heap.get? b = some o → ∃ o', h'.get? b = some o')
    (tups : ∀ b xs, H b = some (.tup xs) → H' b = some (.tup xs)) (frzs : ∀ b o u, H b = some (.frz o u) → H' b = some (.frz o u)) (tbls : ∀ b ps, H b = some (.tbl ps) → ∃ more, H' b = some (.tbl (ps ++ more)))
    (ns : ∀ m, s.heap.Ns X.env.locals m → h'.Ns X.env.locals m) (hok : HOk X.prog X.w H' h') (hg : AllBare g') :
    Inv X pins σ H' { s with heap := h', gens := g', drawn := d', toks := t' } := by
  have neL : ∀ b o, X.s₀.heap.get? b = some o → b ≠ X.env.locals := fun b o e => Nat.ne_of_lt (Nat.lt_of_lt_of_le (Heap.lt_size e) I.ok.above)
  have neC : ∀ b o, X.s₀.heap.get? b = some o → b ∉ X.ex → b ∉ ch := fun b o e hx hb => by
    rcases (hch b hb).1 with z | z
    · exact hx z
    · exact absurd (Nat.lt_of_lt_of_le (Heap.lt_size e) z) (Nat.lt_irrefl _)
  have cellK : ∀ x c, X.env.cells.lookup x = some c → ∀ v, s.heap.IsCell c v → h'.IsCell c v := fun x c e v ⟨o, ho, hd⟩ => by
    have nch : c ∉ ch := fun z => (hch c z).2.2.1 x c e rfl
    by_cases hc : c ∈ X.fs
    · obtain ⟨sl, q⟩ := slot c o (I.cne x c e) hc nch ho (I.freeC x c e)
      exact ⟨_, q, hd⟩
    · exact ⟨o, keep c o (I.cne x c e) hc nch ho (I.freeC x c e), hd⟩
  refine ⟨I.ok, I.os, hg, ⟨fun b o e n hb hx => ?_, fun b o e n hb hx => ?_, fun b o e n hx => ?_, fun b o e hx => ?_, fun b xs e => tups b xs (I.base.tups b xs e), fun b o xs e => frzs b o xs (I.base.frzs b o xs e), fun b ps e => ?_⟩, ?_, fun x c e => ?_, ?_, fun x c e => ?_, fun p hp => ?_, hok, I.len⟩
  · exact keep b o (neL b o e) hb (neC b o e hx) (I.base.keep b o e n hb hx) (I.base.free b o e n hx)
  · obtain ⟨sl, e1⟩ := I.base.slot b o e n hb hx
    obtain ⟨sl', e2⟩ := slot b _ (neL b o e) hb (neC b o e hx) e1 (I.base.free b o e n hx)
    exact ⟨sl', e2⟩
  · obtain ⟨o', e1⟩ := I.base.there b o e hx
    exact free b o' (neC b o e hx) e1 (I.base.free b o e n hx)
  · obtain ⟨o', e1⟩ := I.base.there b o e hx
    exact there b o' (neC b o e hx) e1
  · obtain ⟨m1, e1⟩ := I.base.tbls b ps e
    obtain ⟨m2, e2⟩ := tbls b _ e1
    exact ⟨m1 ++ m2, by rw [e2, Array.append_assoc]⟩
  · obtain ⟨m, hn, hl⟩ := I.loc
    refine ⟨m, ns m hn, fun i x v e1 e2 e3 => ?_⟩
    obtain ⟨u, r, l⟩ := hl i x v e1 e2 e3
    refine ⟨u, r, ?_⟩
    rcases l with l | ⟨k, c, e, z⟩
    · exact .inl l
    · exact .inr ⟨k, c, e, cellK x c e _ z⟩
  · obtain ⟨v, z⟩ := I.cell x c e
    exact ⟨v, cellK x c e v z⟩
  · obtain ⟨m, ⟨o, _, _, ho, _⟩, _⟩ := I.loc
    exact free _ o (fun z => (hch _ z).2.1 rfl) ho I.free
  · obtain ⟨v, o, ho, hd⟩ := I.cell x c e
    exact free c o (fun z => (hch c z).2.2.1 x c e rfl) ho (I.freeC x c e)
  · obtain ⟨e, n, ne, nf, d⟩ := I.pin p hp
    have nch : p.1 ∉ ch := fun z => (hch p.1 z).2.2.2 p hp rfl
    exact ⟨keep p.1 p.2 ne nf nch e n, free p.1 p.2 nch e n, ne, nf, d⟩
theorem Inv.un {t' : Nat} (I : Inv X pins σ H s) (u : Un X.fs [] H H' s.heap h') (hok : HOk X.prog X.w H' h') : Inv X pins σ H' { s with heap := h', toks := t' } := by
  obtain ⟨m, ⟨o, es, ep, ho, r⟩, _⟩ := id I.loc
  obtain ⟨sl, hL⟩ := u.any ho I.free (by simp)
  exact I.step (g' := s.gens) (d' := s.drawn) (ch := []) (fun _ z => nomatch z) (fun b o _ hb _ e n => u.keep b o e n hb (by simp)) (fun b o _ hb _ e n => u.slot b o e n hb (by simp)) (fun b o _ e n => u.free b o e n (by simp)) (fun b o _ e => u.there b o e (by simp)) u.tups u.frzs u.tbls (fun m' hm => by
    obtain ⟨o', es', ep', ho', r'⟩ := hm
    rw [ho] at ho'; cases ho'
    exact ⟨_, es', ep', hL, r'⟩) hok I.bare
theorem Inv.call {g' : Array GenState} {t' : Nat} {d' : Drawn} {ch : List Addr} (I : Inv X pins σ H s) (u : Un (frs X.stack) ch H H' s.heap h') (hok : HOk X.prog X.w H' h') (hg : AllBare g')
    (hch : ∀ b ∈ ch, (b ∈ X.ex ∨ X.s₀.heap.objs.size ≤ b) ∧ b ≠ X.env.locals ∧ (∀ x c, X.env.cells.lookup x = some c → c ≠ b) ∧ ∀ p ∈ X.pn ++ pins, p.1 ≠ b) :
    Inv X pins σ H' { s with heap := h', gens := g', drawn := d', toks := t' } := by
  obtain ⟨m, ⟨o, es, ep, ho, r⟩, _⟩ := id I.loc
  obtain ⟨sl, hL⟩ := u.any ho I.free fun z => (hch _ z).2.1 rfl
  exact I.step (ch := ch) hch (fun b o hL hb hc e n => u.keep b o e n (fun z => (List.mem_cons.mp (I.stkSub b z)).elim hL hb) hc) (fun b o _ _ hc e n => u.any e n hc) (fun b o hc e n => u.free b o e n hc) (fun b o hc e => u.there b o e hc) u.tups u.frzs u.tbls (fun m' hm => by
    obtain ⟨o', es', ep', ho', r'⟩ := hm
    rw [ho] at ho'; cases ho'
    exact ⟨_, es', ep', hL, r'⟩) hok hg
theorem Inv.turned {t' : Nat} {it : Addr} (I : Inv X pins σ H s) (k : ∀ b o, b ≠ it → s.heap.get? b = some o → h'.get? b = some o) (hn : H it = none) (hL : it ≠ X.env.locals)
    (h1 : it ∈ X.ex ∨ X.s₀.heap.objs.size ≤ it) (h2 : ∀ x c, X.env.cells.lookup x = some c → c ≠ it) (h3 : ∀ p ∈ X.pn ++ pins, p.1 ≠ it) : Inv X pins σ H { s with heap := h', toks := t' } := by
  have nit : ∀ b u, H b = some u → b ≠ it := fun b u e z => by rw [z, hn] at e; cases e
  refine I.step (g' := s.gens) (d' := s.drawn) (ch := [it]) (fun b hb => ?_) (fun b o _ _ hc e _ => k b o (fun z => hc (by simp [z])) e) (fun b o _ _ hc e _ => ⟨o.slots, k b o (fun z => hc (by simp [z])) e⟩) (fun _ _ _ _ n => n)
    (fun b o hc e => ⟨o, k b o (fun z => hc (by simp [z])) e⟩) (fun _ _ e => e) (fun _ _ _ e => e) (fun b ps e => ⟨#[], by rw [e]; simp⟩) (fun m hm => ?_) (fun b u e => ?_) I.bare
  · have e : b = it := by simpa using hb
    subst e
    exact ⟨h1, hL, h2, h3⟩
  · obtain ⟨o, es, ep, ho, r⟩ := hm
    exact ⟨o, es, ep, k _ o (Ne.symm hL) ho, r⟩
  · refine (I.hok b u e).stay (fun c v hc q => k c v ?_ q) (fun _ q => q) fun _ _ q => q
    rcases hc with z | z
    · rw [z]; exact nit b u e
    · exact nit c _ z
theorem Inv.tok (I : Inv X pins σ H s) (t : Nat) : Inv X pins σ H { s with toks := t } := I.un (h' := s.heap) (t' := t) Un.refl I.hok
theorem Inv.kept {t' : Nat} (I : Inv X pins σ H s) (k : ∀ b u, s.heap.get? b = some u → h'.get? b = some u) : Inv X pins σ H { s with heap := h', toks := t' } := I.un (Un.kept k) (I.hok.kept k)
theorem Inv.laid {a : Addr} {o : HO} {t' : Nat} (I : Inv X pins σ H s) (k : ∀ b u, s.heap.get? b = some u → h'.get? b = some u) (hp : s.heap.objs.size ≤ a) (new : ObjOk X.prog X.w (upd H a o) h' a o) :
    Inv X pins σ (upd H a o) { s with heap := h', toks := t' } := I.un (Un.laid k hp (I.hok.fresh hp)) (I.hok.laid k hp new)
theorem Inv.write {x e : Addr} {o : HO} {t' : Nat} (I : Inv X pins σ H s) (mu : Mut (H x)) (he : e = x ∨ H e = some (.own x)) (k : ∀ b u, b ≠ e → s.heap.get? b = some u → h'.get? b = some u) (heo : ∃ u, h'.get? e = some u)
    (new : ObjOk X.prog X.w (upd H x o) h' x o) : Inv X pins σ (upd H x o) { s with heap := h', toks := t' } := I.un (Un.write mu he k heo) (I.hok.write mu he k heo new)
theorem Inv.pins_of {pins' : List (Addr × Obj)} (I : Inv X pins σ H s) (h : ∀ p ∈ pins', s.heap.get? p.1 = some p.2 ∧ H p.1 = none ∧ p.1 ≠ X.env.locals ∧ p.1 ∉ X.fs ∧ ∀ v, p.2.data ≠ .cell v) : Inv X pins' σ H s :=
  ⟨I.ok, I.os, I.bare, I.base, I.loc, I.cell, I.free, I.freeC, fun p hp => (List.mem_append.mp hp).elim (fun z => I.pin p (List.mem_append_left _ z)) (h p), I.hok, I.len⟩

theorem nodup_ix {N : List Str} (hN : N.Nodup) {i j : Nat} {x : Str} (a : N[i]? = some x) (b : N[j]? = some x) : i = j := by
  obtain ⟨h1, e1⟩ := List.getElem?_eq_some_iff.mp a
  obtain ⟨h2, e2⟩ := List.getElem?_eq_some_iff.mp b
  exact (List.getElem_inj hN).mp (e1.trans e2.symm)

theorem store_ok2 {M : Model} {A : Around} {E : Value → Shared → Prop} {i : Nat} {x : Str} {v : V} {u : Value} {Q : Unit → Shared → Prop} (I : Inv X pins σ H s) (hN : X.N.Nodup) (hi : X.N[i]? = some x) (hx : Loc X.env.scope x) (r : RelV v u)
    (h : ∀ s', Inv X pins (σ.set i (some v)) H s' → (∃ a, Heap.SameBut a s.heap s'.heap ∧ (a = X.env.locals ∨ X.env.cells.lookup x = some a)) → Q () s') (hf : X.fn x = true ∨ X.env.scope.names.lookup x = some .local := by first | exact .inl rfl | exact .inr rfl | assumption) : wpAny M A (storeName X.env x u) Q E s := by
  obtain ⟨m, hn, hl⟩ := id I.loc
  have hcls : (X.env.scope.kind == .class || (X.env.scope.kind == .module && X.env.locals != X.env.globals)) = false := by rw [I.ok.kind]; rfl
  have hiσ : i < σ.length := by rw [I.len]; exact (List.getElem?_eq_some_iff.mp hi).1
  have cne := I.cne
  have tracked : ∀ {a : Addr} {h' : Heap}, (∃ o, s.heap.get? a = some o ∧ H a = none) → Heap.SameBut a s.heap h' → HOk X.prog X.w H h' := fun {a h'} ha hs b ob e => by
    obtain ⟨_, _, hfree⟩ := ha
    refine (I.hok b ob e).stay (fun c w' hc q => (hs.2 c ?_).trans q) (fun _ q => q) fun _ _ q => q
    rintro rfl
    rcases hc with rfl | hc
    · rw [hfree] at e; cases e
    · rw [hfree] at hc; cases hc
  rcases hx with hk | hk
  · refine wpAny_storeName_local hk hn (fun h' hn' hs => ?_) hcls
    obtain ⟨oL, _, _, hoL, _⟩ := id hn
    refine h _ ⟨I.ok, I.os, I.bare, ⟨fun b o e n hb hx => ?_, fun b o e n hb hx => ?_, I.base.free, fun b o e hx => ?_, I.base.tups, I.base.frzs, I.base.tbls⟩, ⟨_, hn', fun j y v' e1 e2 e3 => ?_⟩, fun y c e => ?_, I.free, I.freeC, fun p hp => ?_, tracked ⟨oL, hoL, I.free⟩ hs, by simpa using I.len⟩ ⟨_, hs, .inl rfl⟩
    · exact (hs.2 b (Nat.ne_of_lt (Nat.lt_of_lt_of_le (Heap.lt_size e) I.ok.above))).trans (I.base.keep b o e n hb hx)
    · obtain ⟨sl, e1⟩ := I.base.slot b o e n hb hx
      exact ⟨sl, (hs.2 b (Nat.ne_of_lt (Nat.lt_of_lt_of_le (Heap.lt_size e) I.ok.above))).trans e1⟩
    · obtain ⟨o', e1⟩ := I.base.there b o e hx
      exact ⟨o', (hs.2 b (Nat.ne_of_lt (Nat.lt_of_lt_of_le (Heap.lt_size e) I.ok.above))).trans e1⟩
    · by_cases hj : j = i
      · subst hj
        rw [hi] at e1; cases e1
        rw [List.getElem?_set_self hiσ] at e2
        cases e2
        exact ⟨u, r, .inl ⟨hk, by simp⟩⟩
      · rw [List.getElem?_set_ne (Ne.symm hj)] at e2
        obtain ⟨u', r', q⟩ := hl j y v' e1 e2 e3
        refine ⟨u', r', ?_⟩
        rcases q with ⟨k, e⟩ | ⟨k, c, e, z⟩
        · refine .inl ⟨k, ?_⟩
          have : y ≠ x := fun e => hj (nodup_ix hN e1 (e ▸ hi))
          simp [this, e]
        · exact .inr ⟨k, c, e, z.sameBut hs (cne y c e)⟩
    · obtain ⟨w', z⟩ := I.cell y c e
      exact ⟨w', z.sameBut hs (cne y c e)⟩
    · obtain ⟨e, n, ne, nf, d⟩ := I.pin p hp
      exact ⟨(hs.2 p.1 ne).trans e, n, ne, nf, d⟩
  · have hfn : X.fn x = true := by
      rcases hf with z | z
      · exact z
      · rw [z] at hk; cases hk
    obtain ⟨c, hc⟩ := I.ok.has x (.inl hk)
    obtain ⟨w', z⟩ := I.cell x c hc
    refine wpAny_storeName_cell I.ok.kind hk hc z (fun h' hc' hs => ?_)
    obtain ⟨oc, hoc, hocd⟩ := id z
    refine h { s with heap := h' } ⟨I.ok, I.os, I.bare, ⟨fun b o e n hb hx => ?_, fun b o e n hb hx => ?_, I.base.free, fun b o e hx => ?_, I.base.tups, I.base.frzs, I.base.tbls⟩, ⟨m, hn.sameBut hs (Ne.symm (cne x c hc)), fun j y v' e1 e2 e3 => ?_⟩, fun y c' e => ?_, I.free, I.freeC, fun p hp => ?_, tracked ⟨oc, hoc, I.freeC x c hc⟩ hs, by simpa using I.len⟩ ⟨c, hs, .inr hc⟩
    · exact (hs.2 b (Nat.ne_of_lt (Nat.lt_of_lt_of_le (Heap.lt_size e) (I.ok.cab x c hfn hc)))).trans (I.base.keep b o e n hb hx)
    · obtain ⟨sl, e1⟩ := I.base.slot b o e n hb hx
      exact ⟨sl, (hs.2 b (Nat.ne_of_lt (Nat.lt_of_lt_of_le (Heap.lt_size e) (I.ok.cab x c hfn hc)))).trans e1⟩
    · obtain ⟨o', e1⟩ := I.base.there b o e hx
      exact ⟨o', (hs.2 b (Nat.ne_of_lt (Nat.lt_of_lt_of_le (Heap.lt_size e) (I.ok.cab x c hfn hc)))).trans e1⟩
    · by_cases hj : j = i
      · subst hj
        rw [hi] at e1; cases e1
        rw [List.getElem?_set_self hiσ] at e2
        cases e2
        exact ⟨u, r, .inr ⟨.inl hk, c, hc, hc'⟩⟩
      · rw [List.getElem?_set_ne (Ne.symm hj)] at e2
        obtain ⟨u', r', q⟩ := hl j y v' e1 e2 e3
        refine ⟨u', r', ?_⟩
        rcases q with q | ⟨k, c', e, z'⟩
        · exact .inl q
        · refine .inr ⟨k, c', e, z'.sameBut hs ?_⟩
          rintro rfl
          exact hj (nodup_ix hN e1 (I.ok.inj _ _ _ e hc ▸ hi))
    · by_cases hcc : c' = c
      · subst hcc; exact ⟨_, hc'⟩
      · obtain ⟨w2, z2⟩ := I.cell y c' e
        exact ⟨w2, z2.sameBut hs hcc⟩
    · obtain ⟨e, n, ne, nf, d⟩ := I.pin p hp
      refine ⟨(hs.2 p.1 ?_).trans e, n, ne, nf, d⟩
      intro q
      rw [q, hoc] at e
      have q' : oc = p.2 := Option.some.inj e
      exact d w' (by rw [← q']; exact hocd)
theorem store_ok {M : Model} {A : Around} {E : Value → Shared → Prop} {i : Nat} {x : Str} {v : V} {u : Value} {Q : Unit → Shared → Prop} (I : Inv X pins σ H s) (hN : X.N.Nodup) (hi : X.N[i]? = some x) (hx : Loc X.env.scope x) (r : RelV v u)
    (h : ∀ s', Inv X pins (σ.set i (some v)) H s' → Q () s') (hf : X.fn x = true ∨ X.env.scope.names.lookup x = some .local := by first | exact .inl rfl | exact .inr rfl | assumption) : wpAny M A (storeName X.env x u) Q E s :=
  store_ok2 I hN hi hx r (fun s' I' _ => h s' I') hf
theorem Inv.call' {s' : Shared} {ch : List Addr} (I : Inv X pins σ H s) (ho : s'.os = s.os) (u : Un (frs X.stack) ch H H' s.heap s'.heap) (hok : HOk X.prog X.w H' s'.heap) (hg : AllBare s'.gens)
    (hch : ∀ b ∈ ch, (b ∈ X.ex ∨ X.s₀.heap.objs.size ≤ b) ∧ b ≠ X.env.locals ∧ (∀ x c, X.env.cells.lookup x = some c → c ≠ b) ∧ ∀ p ∈ X.pn ++ pins, p.1 ≠ b) : Inv X pins σ H' s' := by
  obtain ⟨h', g', d', t', o'⟩ := s'
  have e : o' = s.os := ho
  subst e
  exact I.call (g' := g') (t' := t') (d' := d') u hok hg hch
end

noncomputable abbrev XK := Value → Option Addr → Hp → Prop
noncomputable abbrev St := List (Option V)
noncomputable abbrev VK := V → Hp → Prop
noncomputable abbrev TE := St → Hp → VK → Prop
noncomputable abbrev TT := St → Hp → (Bool → Hp → Prop) → Prop
noncomputable abbrev TA := St → Hp → (List V → Hp → Prop) → Prop
structure Ends where
  nx : St → Hp → Prop
  rt : VK
  bk : St → Hp → Prop := fun _ _ => False
  ct : St → Hp → Prop := fun _ _ => False
noncomputable abbrev TS := Ends → St → Hp → Prop

noncomputable def EP (X : Cx) (pins : List (Addr × Obj)) (σ : St) (Q : VK) (u : Value) (s' : Shared) : Prop := ∃ v H', Inv X pins σ H' s' ∧ RelV v u ∧ Q v H'
noncomputable def TP (X : Cx) (pins : List (Addr × Obj)) (σ : St) (Q : Bool → Hp → Prop) (b : Bool) (s' : Shared) : Prop := ∃ H', Inv X pins σ H' s' ∧ Q b H'
noncomputable def AP (X : Cx) (pins : List (Addr × Obj)) (σ : St) (Q : List V → Hp → Prop) (us : List Value) (s' : Shared) : Prop := ∃ vs H', Inv X pins σ H' s' ∧ Vals vs us ∧ Q vs H'
noncomputable def SP (X : Cx) (pins : List (Addr × Obj)) (D : Ends) (f : Flow) (s' : Shared) : Prop :=
  match f with
  | .next => ∃ σ' H', Inv X pins σ' H' s' ∧ D.nx σ' H'
  | .brk => ∃ σ' H', Inv X pins σ' H' s' ∧ D.bk σ' H'
  | .cont => ∃ σ' H', Inv X pins σ' H' s' ∧ D.ct σ' H'
  | .ret u => ∃ v σ' H', Inv X pins σ' H' s' ∧ RelV v u ∧ D.rt v H'

noncomputable def PE (X : Cx) (e : Expr) (t : TE) : Prop :=
  ∀ (pins : List (Addr × Obj)) (s : Shared) (σ : St) (H : Hp) (Q : VK), Inv X pins σ H s → t σ H Q → wpAny (model X.prog X.w) X.A (eval e X.env) (EP X pins σ Q) X.xe s
noncomputable def PT (X : Cx) (e : Expr) (t : TT) : Prop :=
  ∀ (pins : List (Addr × Obj)) (s : Shared) (σ : St) (H : Hp) (Q : Bool → Hp → Prop), Inv X pins σ H s → t σ H Q → wpAny (model X.prog X.w) X.A (isTrue e X.env (eval e X.env)) (TP X pins σ Q) X.xe s
noncomputable def PW (X : Cx) (e : Expr) (t : TT) : Prop :=
  ∀ (whole : Sem Value) (pins : List (Addr × Obj)) (s : Shared) (σ : St) (H : Hp) (Q : Bool → Hp → Prop), Inv X pins σ H s → t σ H Q → wpAny (model X.prog X.w) X.A (isTrue e X.env whole) (TP X pins σ Q) X.xe s
theorem PW.pt {X : Cx} {e : Expr} {t : TT} (h : PW X e t) : PT X e t := h _
noncomputable def PA (X : Cx) (es : List Expr) (t : TA) : Prop :=
  ∀ (pos : Pos) (pins : List (Addr × Obj)) (s : Shared) (σ : St) (H : Hp) (Q : List V → Hp → Prop), Inv X pins σ H s → t σ H Q → wpAny (model X.prog X.w) X.A (spliced (backTo pos (starEach es X.env))) (AP X pins σ Q) X.xe s
noncomputable def PS (X : Cx) (st : Stmt) (t : TS) : Prop :=
  ∀ (pins : List (Addr × Obj)) (s : Shared) (σ : St) (H : Hp) (D : Ends), Inv X pins σ H s → t D σ H → wpAny (model X.prog X.w) X.A (exec st X.env) (SP X pins D) X.xe s
noncomputable def PSs (X : Cx) (st : List Stmt) (t : TS) : Prop :=
  ∀ (pins : List (Addr × Obj)) (s : Shared) (σ : St) (H : Hp) (D : Ends), Inv X pins σ H s → t D σ H → wpAny (model X.prog X.w) X.A (execs st X.env) (SP X pins D) X.xe s
theorem thn {α : Type} {t : Sem α} {Q Q' : α → Shared → Prop} {M : Model} {A : Around} {E : Value → Shared → Prop} {s : Shared} (h : wpAny M A t Q E s) (hQ : ∀ a s, Q a s → Q' a s) : wpAny M A t Q' E s := wpAny_mono h hQ fun _ _ x => x
end L2

namespace L2
open PySem PySem.Spec PyProof.Rows
section
variable {X : Cx}

noncomputable def tVar (i : Nat) : TE := fun σ H Q => ∃ v, σ[i]? = some (some v) ∧ Q v H
noncomputable def tC (v : V) : TE := fun _ H Q => Q v H
theorem pe_var {i : Nat} {x : Str} {pos : Pos} (hN : X.N[i]? = some x) (hv : Vis X.env.scope x) (hd : autoParam ((x == ("__debug__" : Str)) = false) au1_._auto_1) (hcd : autoParam ((x == ("__classdict__" : Str)) = false) au1_._auto_1) : PE X (.Name x pos) (tVar i) := by
  intro pins s σ H Q I h
  obtain ⟨v, e, h⟩ := h
  obtain ⟨m, hn, hl⟩ := I.loc
  obtain ⟨u, r, l⟩ := hl i x v hN e hv
  have fin : EP X pins σ Q u s := ⟨v, H, I, r, h⟩
  rcases l with ⟨hk, hm⟩ | ⟨hk, c, hc, hcell⟩
  · exact wpAny_Name (wpAny_loadName_local I.ok.kind hk hn hm fin) hd
  · rcases hk with hk | hk
    · exact wpAny_Name (wpAny_loadName_cell I.ok.kind hk hc hcell fin) hd
    · exact wpAny_Name (wpAny_loadName_free I.ok.kind hk hc hcell fin hcd) hd
theorem pe_int {i j pos} : PE X (.Constant (.int i) j pos) (tC (.int i)) := fun _ _ _ H _ I h => wpAny_Constant_int ⟨.int i, H, I.tok _, ⟨_, rfl⟩, h⟩
theorem pe_bl {b j pos} : PE X (.Constant (.bool b) j pos) (tC (.bl b)) := fun _ _ _ H _ I h => Constant_bool ⟨.bl b, H, I, rfl, h⟩
theorem pe_non {j pos} : PE X (.Constant .none j pos) (tC .non) := fun _ _ _ H _ I h => Constant_none ⟨.non, H, I, rfl, h⟩
noncomputable def Gl (X : Cx) (x : Str) : Prop := X.env.kindOf x = some .globalImplicit
theorem ld_glob {E : Value → Shared → Prop} {pins : List (Addr × Obj)} {s : Shared} {σ : St} {H : Hp} {x : Str} {u : Value} {pos : Pos} {Q : Value → Shared → Prop} (I : Inv X pins σ H s) (hg : Gl X x) (hm : X.mg x = some u) (h : Q u s)
    (hd : autoParam ((x == ("__debug__" : Str)) = false) au1_._auto_1) : wpAny (model X.prog X.w) X.A (eval (.Name x pos) X.env) Q E s :=
  Calls.Name_function_global I.ok.kind hg (Calls.loadGlobal_global (by rw [I.ok.glob]; exact I.mod.glob.keeps I.bk) hm h) hd
theorem ld_blt {E : Value → Shared → Prop} {pins : List (Addr × Obj)} {s : Shared} {σ : St} {H : Hp} {x : Str} {u : Value} {pos : Pos} {Q : Value → Shared → Prop} (I : Inv X pins σ H s) (hg : Gl X x) (hm : X.mg x = none) (hv : bootBuiltins x = some u) (h : Q u s)
    (hn : autoParam (x ≠ "__name__") au1_._auto_1) (hd : autoParam ((x == ("__debug__" : Str)) = false) au1_._auto_1) : wpAny (model X.prog X.w) X.A (eval (.Name x pos) X.env) Q E s := by
  obtain ⟨mb, h1, h2⟩ := I.mod.blt
  exact Calls.Name_function_global I.ok.kind hg (Calls.loadGlobal_builtin (by rw [I.ok.glob]; exact I.mod.glob.keeps I.bk) hm (by rw [I.ok.blt]; exact h1.keeps I.bk) ((h2 x hn).trans hv) h) hd
theorem pe_glob {x : Str} {v : V} {u : Value} {pos : Pos} (hg : Gl X x) (hm : X.mg x = some u) (r : RelV v u) (hd : autoParam ((x == ("__debug__" : Str)) = false) au1_._auto_1) : PE X (.Name x pos) (tC v) :=
  fun _ _ _ H _ I h => ld_glob I hg hm ⟨v, H, I, r, h⟩ hd
theorem pe_bltn {x : Str} {v : V} {u : Value} {pos : Pos} (hg : Gl X x) (hm : X.mg x = none) (hv : bootBuiltins x = some u) (r : RelV v u) (hn : autoParam (x ≠ "__name__") au1_._auto_1) (hd : autoParam ((x == ("__debug__" : Str)) = false) au1_._auto_1) : PE X (.Name x pos) (tC v) :=
  fun _ _ _ H _ I h => ld_blt I hg hm hv ⟨v, H, I, r, h⟩ hn hd

variable {a b : Expr} {ta tb : TE} {pos : Pos}
noncomputable def tB (t : TE) : TT := fun σ H Q => t σ H fun x H1 => ∃ c, x = .bl c ∧ Q c H1
theorem pt_val {e : Expr} {t : TE} (h : PE X e t) (he : autoParam (∀ whole, isTrue e X.env whole = (do let v ← whole; standAt e.pos; holding [v] (truthy v))) au2_._auto_1) : PT X e (tB t) := by
  intro pins s σ H Q I hw
  refine isTrue_plain (thn (h pins s σ H _ I hw) fun v s1 ⟨x, H1, I1, r1, q1⟩ => ?_) (he _)
  obtain ⟨d, rfl, q⟩ := q1
  cases r1
  exact wpAny_truthy_bool ⟨H1, I1, q⟩

variable {tA tB' : TT} {rest : List Expr}
noncomputable def tAnd (t u : TT) : TT := fun σ H Q => t σ H fun c H1 => if c = true then u σ H1 Q else Q false H1
noncomputable def tOr (t u : TT) : TT := fun σ H Q => t σ H fun c H1 => if c = true then Q true H1 else u σ H1 Q
noncomputable def tNot (t : TT) : TT := fun σ H Q => t σ H fun c H1 => Q (!c) H1
theorem pw_and1 (ha : PT X a tA) : PW X (.BoolOp .And [a] pos) tA := by
  intro wh pins s σ H Q I h
  refine isTrue_and (thn (ha pins s σ H Q I h) fun c s1 e => ?_)
  cases c with
  | true => exact isTrue_and_nil e
  | false => exact e
theorem pw_or1 (ha : PT X a tA) : PW X (.BoolOp .Or [a] pos) tA := by
  intro wh pins s σ H Q I h
  refine isTrue_or (thn (ha pins s σ H Q I h) fun c s1 e => ?_)
  cases c with
  | false => exact isTrue_or_nil e
  | true => exact e
theorem pw_and (ha : PT X a tA) (hb : PW X (.BoolOp .And (b :: rest) pos) tB') : PW X (.BoolOp .And (a :: b :: rest) pos) (tAnd tA tB') := by
  intro wh pins s σ H Q I h
  refine isTrue_and (thn (ha pins s σ H _ I h) fun c s1 ⟨H1, I1, q1⟩ => ?_)
  cases c with
  | true => exact hb wh pins s1 σ H1 Q I1 q1
  | false => exact ⟨H1, I1, q1⟩
theorem pw_or (ha : PT X a tA) (hb : PW X (.BoolOp .Or (b :: rest) pos) tB') : PW X (.BoolOp .Or (a :: b :: rest) pos) (tOr tA tB') := by
  intro wh pins s σ H Q I h
  refine isTrue_or (thn (ha pins s σ H _ I h) fun c s1 ⟨H1, I1, q1⟩ => ?_)
  cases c with
  | true => exact ⟨H1, I1, q1⟩
  | false => exact hb wh pins s1 σ H1 Q I1 q1
theorem pt_not (ha : PT X a tA) : PT X (.UnaryOp .Not a pos) (tNot tA) := by
  intro pins s σ H Q I h
  exact isTrue_not (ha pins s σ H (fun c H1 => Q (!c) H1) I h)
noncomputable def tAndV (ta tb : TE) : TE := fun σ H Q => ta σ H fun x H1 => ∃ c, x = .bl c ∧ if c = true then tb σ H1 Q else Q (.bl false) H1
theorem pe_one {op} {t : TE} (h : PE X a t) : PE X (.BoolOp op [a] pos) t := fun pins s σ H Q I hw => BoolOp_one (h pins s σ H Q I hw)
theorem pe_and (ha : PE X a ta) (hb : PE X (.BoolOp .And (b :: rest) pos) tb) : PE X (.BoolOp .And (a :: b :: rest) pos) (tAndV ta tb) := by
  intro pins s σ H Q I h
  refine BoolOp_and (thn (ha pins s σ H _ I h) fun v s1 ⟨x, H1, I1, r1, q1⟩ => ?_)
  obtain ⟨c, rfl, q1⟩ := q1
  cases r1
  refine wpAny_truthy_bool ?_
  cases c with
  | true => exact hb pins s1 σ H1 Q I1 q1
  | false => exact ⟨.bl false, H1, I1, rfl, q1⟩
noncomputable def tIf (t : TT) (ta tb : TE) : TE := fun σ H Q => t σ H fun c H1 => if c = true then ta σ H1 Q else tb σ H1 Q
theorem pe_ifExp {c : Expr} (hc : PT X c tA) (ha : PE X a ta) (hb : PE X b tb) : PE X (.IfExp c a b pos) (tIf tA ta tb) := by
  intro pins s σ H Q I h
  refine wpAny_IfExp (thn (hc pins s σ H _ I h) fun d s1 ⟨H1, I1, q1⟩ => ?_)
  cases d with
  | true => exact ha pins s1 σ H1 Q I1 q1
  | false => exact hb pins s1 σ H1 Q I1 q1
end
end L2

namespace L2
open PySem PySem.Spec PyProof.Rows

noncomputable def SqL (K : PySem.W.Frag) (H : Hp) (a : Addr) (xs : List V) : Prop :=
  Rd H a (.lst xs) ∨
    ∃ (o : Obj) (its : Array Value) (n : Nat), K.lookup a = some o ∧ o.cls = .type "list" ∧ o.dict = none ∧ o.data = .seq its n ∧ its.size ≤ sizeLine ∧ Vals xs its.toList
noncomputable def SqT (K : PySem.W.Frag) (H : Hp) (a : Addr) (xs : List V) : Prop :=
  Rd H a (.tup xs) ∨
    ∃ (o : Obj) (its : Array Value) (n : Nat), K.lookup a = some o ∧ o.cls = .type "tuple" ∧ o.data = .seq its n ∧ its.size ≤ sizeLine ∧ Vals xs its.toList
noncomputable def absV : Value → Option V
  | .none => some .non
  | .bool b => some (.bl b)
  | .int i _ => some (.int i)
  | .str x _ => some (.str x)
  | .bytes b _ => some (.byt b)
  | .float b _ => some (.flt b)
  | .ref a => some (.ref a)
  | .type n => some (.ty n)
  | _ => none
theorem RelV.abs {x : V} {u : Value} (r : RelV x u) : absV u = some x := by
  cases x with
  | non => cases r; rfl
  | bl _ => cases r; rfl
  | int _ => obtain ⟨t, rfl⟩ := r; rfl
  | str _ => obtain ⟨t, rfl⟩ := r; rfl
  | byt _ => obtain ⟨t, rfl⟩ := r; rfl
  | flt _ => obtain ⟨t, rfl⟩ := r; rfl
  | ref _ => cases r; rfl
  | ty _ => cases r; rfl
theorem RelV.inj {x y : V} {u : Value} (r : RelV x u) (q : RelV y u) : x = y := Option.some.inj (r.abs.symm.trans q.abs)
theorem Vals.inj : ∀ {xs ys : List V} {us : List Value}, Vals xs us → Vals ys us → xs = ys
  | _, _, _, .nil, .nil => rfl
  | _, _, _, .cons r t, .cons r' t' => by rw [r.inj r', Vals.inj t t']
section
variable {X : Cx} {pins : List (Addr × Obj)} {σ : St} {H : Hp} {s : Shared} {a : Addr} {xs ys : List V}
theorem SqL.of {K : PySem.W.Frag} (h : H a = some (.lst xs)) : SqL K H a xs := .inl (.inl h)
theorem SqT.of {K : PySem.W.Frag} (h : H a = some (.tup xs)) : SqT K H a xs := .inl (.inl h)
theorem Inv.list (I : Inv X pins σ H s) (h : SqL X.K H a xs) : ∃ its : List Value, Vals xs its ∧ PlainL s.heap a its.toArray ∧ xs.length ≤ sizeLine := by
  rcases h with h | ⟨o, its, n, hk, hc, hd, hs, hz, r⟩
  · obtain ⟨z, its, n, r, e⟩ := h.ok I.hok
    exact ⟨its, r, ⟨_, n, e, rfl, rfl, rfl⟩, z⟩
  · refine ⟨its.toList, r, ⟨o, n, I.kIn a o hk, hc, hd, by simpa using hs⟩, ?_⟩
    have e := r.length
    simp only [Array.length_toList] at e
    omega
theorem Inv.tuple (I : Inv X pins σ H s) (h : SqT X.K H a xs) : ∃ its : List Value, Vals xs its ∧ IsTup s.heap a its.toArray ∧ xs.length ≤ sizeLine := by
  rcases h with h | ⟨o, its, n, hk, hc, hs, hz, r⟩
  · obtain ⟨z, its, r, p⟩ := h.ok I.hok
    exact ⟨its, r, p, z⟩
  · refine ⟨its.toList, r, ⟨o, I.kIn a o hk, hc, n, by simpa using hs⟩, ?_⟩
    have e := r.length
    simp only [Array.length_toList] at e
    omega
theorem Inv.list_inj (I : Inv X pins σ H s) (h : SqL X.K H a xs) (h' : SqL X.K H a ys) : xs = ys := by
  obtain ⟨its, r, ⟨o, n, e, _, _, d⟩, _⟩ := I.list h
  obtain ⟨its', r', ⟨o', n', e', _, _, d'⟩, _⟩ := I.list h'
  rw [e] at e'; cases e'
  rw [d] at d'
  injection d' with d1 _
  have : its = its' := by simpa using congrArg Array.toList d1
  subst this
  exact r.inj r'
theorem Inv.tuple_inj (I : Inv X pins σ H s) (h : SqT X.K H a xs) (h' : SqT X.K H a ys) : xs = ys := by
  obtain ⟨its, r, ⟨o, e, _, n, d⟩, _⟩ := I.tuple h
  obtain ⟨its', r', ⟨o', e', _, n', d'⟩, _⟩ := I.tuple h'
  rw [e] at e'; cases e'
  rw [d] at d'
  injection d' with d1 _
  have : its = its' := by simpa using congrArg Array.toList d1
  subst this
  exact r.inj r'
end

noncomputable abbrev Cx.wish (X : Cx) (E : Value → Shared → Prop) : Cx := { X with xe := E }
noncomputable abbrev Cx.nox (X : Cx) : Cx := X.wish fun _ _ => False
theorem Cx.Ok.wish {X : Cx} (ok : X.Ok) (E : Value → Shared → Prop) : (X.wish E).Ok :=
  ⟨ok.mod, ok.kind, ok.glob, ok.blt, ok.above, ok.inj, ok.has, ok.cab, ok.hd, ok.frames, ok.stk, ok.exf, ok.bs, ok.bsz, ok.noex, ok.exfs, ok.funs, ok.frf⟩
theorem Cx.Ok.unwish {X : Cx} {E : Value → Shared → Prop} (ok : (X.wish E).Ok) : X.Ok :=
  ⟨ok.mod, ok.kind, ok.glob, ok.blt, ok.above, ok.inj, ok.has, ok.cab, ok.hd, ok.frames, ok.stk, ok.exf, ok.bs, ok.bsz, ok.noex, ok.exfs, ok.funs, ok.frf⟩
section
variable {X : Cx} {pins : List (Addr × Obj)} {σ : St} {H : Hp} {s : Shared} {E : Value → Shared → Prop}
theorem Inv.wish (I : Inv X pins σ H s) (E : Value → Shared → Prop) : Inv (X.wish E) pins σ H s := ⟨I.ok.wish E, I.os, I.bare, I.base, I.loc, I.cell, I.free, I.freeC, I.pin, I.hok, I.len⟩
theorem Inv.unwish (I : Inv (X.wish E) pins σ H s) : Inv X pins σ H s := ⟨I.ok.unwish, I.os, I.bare, I.base, I.loc, I.cell, I.free, I.freeC, I.pin, I.hok, I.len⟩
theorem SP.unwish {D : Ends} {f : Flow} {s' : Shared} (h : SP (X.wish E) pins D f s') : SP X pins D f s' := by
  cases f with
  | next => obtain ⟨σ', H', I, q⟩ := h; exact ⟨σ', H', I.unwish, q⟩
  | brk => obtain ⟨σ', H', I, q⟩ := h; exact ⟨σ', H', I.unwish, q⟩
  | cont => obtain ⟨σ', H', I, q⟩ := h; exact ⟨σ', H', I.unwish, q⟩
  | ret u => obtain ⟨v, σ', H', I, r, q⟩ := h; exact ⟨v, σ', H', I.unwish, r, q⟩
theorem PSs.nox {st : List Stmt} {t : TS} (h : PSs X.nox st t) : PSs X st t := fun pins s σ H D I hw =>
  wpAny_mono (h pins s σ H D (I.wish _) hw) (fun _ _ q => q.unwish) fun _ _ z => False.elim z
end

section
variable {X : Cx} {st : Stmt} {rest : List Stmt} {t u : TS} {e : Expr} {te : TE} {pos : Pos}
noncomputable def tNext : TS := fun D σ H => D.nx σ H
noncomputable def tSeq (t u : TS) : TS := fun D σ H => t { D with nx := u D } σ H
theorem pss_nil : PSs X [] tNext := fun _ _ σ H _ I h => wpAny_execs_nil ⟨σ, H, I, h⟩
theorem pss_cons (h1 : PS X st t) (h2 : PSs X rest u) : PSs X (st :: rest) (tSeq t u) := by
  intro pins s σ H D I h
  refine wpAny_execs_cons (thn (h1 pins s σ H { D with nx := u D } I h) fun f s1 q => ?_)
  cases f with
  | next =>
    obtain ⟨σ', H', I', q⟩ := q
    exact h2 pins s1 σ' H' D I' q
  | ret v => exact q
  | brk => exact q
  | cont => exact q
theorem pss_one (h1 : PS X st t) : PSs X [st] t := by
  intro pins s σ H D I h
  refine wpAny_execs_cons (thn (h1 pins s σ H D I h) fun f s1 q => ?_)
  cases f with
  | next => exact wpAny_execs_nil q
  | ret v => exact q
  | brk => exact q
  | cont => exact q
theorem Inv.quiet {pins : List (Addr × Obj)} {σ : St} {H : Hp} {s : Shared} (I : Inv X pins σ H s) : interactive X.env = false := by simp [interactive, I.ok.kind]
noncomputable def tDrop (te : TE) : TS := fun D σ H => te σ H fun _ H1 => D.nx σ H1
theorem ps_expr (he : PE X e te) (hs : autoParam (swapsWith e none pos.line X.env = pure false) au0_._auto_1) : PS X (.Expr e pos) (tDrop te) := by
  intro pins s σ H D I h
  exact wpAny_Expr_any (thn (he pins s σ H _ I h) fun v s1 ⟨x, H1, I1, r1, q1⟩ => ⟨σ, H1, I1, q1⟩) I.quiet hs
noncomputable def tRet (te : TE) : TS := fun D σ H => te σ H D.rt
theorem ps_ret (he : PE X e te) : PS X (.Return (some e) pos) (tRet te) := by
  intro pins s σ H D I h
  exact wpAny_Return_some (thn (he pins s σ H _ I h) fun v s1 ⟨x, H1, I1, r1, q1⟩ => ⟨x, σ, H1, I1, r1, q1⟩)
noncomputable def tIfS (c : TT) (t u : TS) : TS := fun D σ H => c σ H fun b H1 => if b = true then t D σ H1 else u D σ H1
theorem ps_if {c : Expr} {a b : List Stmt} {tc : TT} (hc : PT X c tc) (ha : PSs X a t) (hb : PSs X b u) : PS X (.If c a b pos) (tIfS tc t u) := by
  intro pins s σ H D I h
  refine wpAny_If (thn (hc pins s σ H _ I h) fun d s1 ⟨H1, I1, q1⟩ => ?_)
  cases d with
  | true => exact ha pins s1 σ H1 D I1 q1
  | false => exact hb pins s1 σ H1 D I1 q1
noncomputable def tNever : TS := fun _ _ _ => False
theorem ps_never : PS X st tNever := fun _ _ _ _ _ _ h => h.elim
end

noncomputable abbrev TG := V → St → Hp → (St → Hp → Prop) → Prop
noncomputable abbrev TGs := List V → St → Hp → (St → Hp → Prop) → Prop
noncomputable def PG (X : Cx) (target : Expr) (t : TG) : Prop :=
  ∀ (pins : List (Addr × Obj)) (s : Shared) (σ : St) (H : Hp) (v : V) (u : Value) (Q : St → Hp → Prop), Inv X pins σ H s → RelV v u → t v σ H Q →
    wpAny (model X.prog X.w) X.A (assign target X.env u) (fun _ s' => ∃ σ' H', Inv X pins σ' H' s' ∧ Q σ' H') X.xe s
noncomputable def PGs (X : Cx) (ts : List Expr) (t : TGs) : Prop :=
  ∀ (pins : List (Addr × Obj)) (s : Shared) (σ : St) (H : Hp) (vs : List V) (us : List Value) (Q : St → Hp → Prop), Inv X pins σ H s → Vals vs us → t vs σ H Q →
    wpAny (model X.prog X.w) X.A (assignInOrder ((assignEach ts X.env).map (·.2)) us) (fun _ s' => ∃ σ' H', Inv X pins σ' H' s' ∧ Q σ' H') X.xe s
noncomputable abbrev TSet := V → V → V → Hp → (Hp → Prop) → Prop
noncomputable def PSet (X : Cx) (t : TSet) : Prop :=
  ∀ (pins : List (Addr × Obj)) (s : Shared) (σ : St) (H : Hp) (o i v : V) (ov iv u : Value) (Q : Hp → Prop), Inv X pins σ H s → RelV o ov → RelV i iv → RelV v u → t o i v H Q →
    wpAny (model X.prog X.w) X.A (setItem ov iv u) (fun _ s' => ∃ H', Inv X pins σ H' s' ∧ Q H') X.xe s
section
variable {X : Cx} {pos : Pos}
noncomputable def gName (i : Nat) : TG := fun v σ H Q => Q (σ.set i (some v)) H
theorem pg_name {i : Nat} {x : Str} (hN : X.N.Nodup) (hi : X.N[i]? = some x) (hx : Loc X.env.scope x) (hf : X.fn x = true ∨ X.env.scope.names.lookup x = some .local := by first | exact .inl rfl | exact .inr rfl | assumption) : PG X (.Name x pos) (gName i) := by
  intro pins s σ H v u Q I r h
  exact wpAny_assign_Name (store_ok I hN hi hx r (fun s' I' => ⟨_, H, I', h⟩) hf)
noncomputable def gNil : TGs := fun vs σ H Q => vs = [] ∧ Q σ H
noncomputable def gCons (t : TG) (u : TGs) : TGs := fun vs σ H Q => ∃ v r, vs = v :: r ∧ t v σ H fun σ' H' => u r σ' H' Q
theorem pgs_nil : PGs X [] gNil := by
  intro pins s σ H vs us Q I r h
  obtain ⟨e, h⟩ := h
  subst e
  cases r
  exact assignInOrder_nil ⟨σ, H, I, h⟩
theorem pgs_cons {e : Expr} {es : List Expr} {t : TG} {u : TGs} (h1 : PG X e t) (h2 : PGs X es u)
    (hs : autoParam ((assignEach (e :: es) X.env).map (·.2) = assign e X.env :: (assignEach es X.env).map (·.2)) au0_._auto_1) : PGs X (e :: es) (gCons t u) := by
  intro pins s σ H vs us Q I r h
  obtain ⟨v, vr, e1, h⟩ := h
  subst e1
  cases r with
  | cons r rr =>
    rw [hs]
    refine assignInOrder_cons (thn (h1 pins s σ H _ _ _ I r h) fun _ s1 ⟨σ1, H1, I1, q1⟩ => ?_)
    exact h2 pins s1 σ1 H1 _ _ Q I1 rr q1
noncomputable def gTup (K : PySem.W.Frag) (n : Nat) (t : TGs) : TG := fun v σ H Q => ∃ a xs, v = .ref a ∧ SqT K H a xs ∧ xs.length = n ∧ t xs σ H Q
theorem pg_tup {es : List Expr} {k : Nat} {t : TGs} {n : Nat} (hc : X.calm = true) (h : PGs X es t)
    (hn : autoParam ((assignEach es X.env).length = n) au0_._auto_1) (hst : autoParam ((assignEach es X.env).findIdx? (·.1) = none) au0_._auto_1) : PG X (.Tuple es k pos) (gTup X.K n t) := by
  intro pins s σ H v u Q I r hw
  obtain ⟨a, xs, e1, hq, hl, hw⟩ := hw
  subst e1
  cases r
  obtain ⟨its, rv, ht, hz⟩ := I.tuple hq
  refine assign_Tuple_tuple (I.ok.hd hc) ht (by simp [hn, ← hl, rv.length]) hst fun h' hx => ?_
  have I1 : Inv X pins σ H { s with heap := h' } := I.kept (t' := s.toks) fun b o e => hx b o (Nat.ne_of_lt (Heap.lt_size e)) e
  exact h pins _ σ H xs _ Q I1 (by simpa using rv) hw
noncomputable def gSub (to ti : TE) (t : TSet) : TG := fun v σ H Q => to σ H fun o H1 => ti σ H1 fun i H2 => t o i v H2 fun H3 => Q σ H3
theorem pg_sub {o i : Expr} {to ti : TE} {t : TSet} (ho : PE X o to) (hi : PE X i ti) (hs : PSet X t)
    (ha : autoParam (∀ v, assign (.Subscript o i pos) X.env v = (do
      let ov ← holding [v] (eval o X.env)
      let iv ← holding [v, ov] (eval i X.env)
      standAt pos
      holding [v, ov, iv] (setItem ov iv v)
      release [v, ov, iv] [])) au2_._auto_1) : PG X (.Subscript o i pos) (gSub to ti t) := by
  intro pins s σ H v u Q I r h
  rw [ha]
  refine wpAny_bind (wpAny_holding (thn (ho pins s σ H _ I h) fun ov s1 ⟨x, H1, I1, r1, q1⟩ => ?_))
  refine wpAny_bind (wpAny_holding (thn (hi pins s1 σ H1 _ I1 q1) fun iv s2 ⟨y, H2, I2, r2, q2⟩ => ?_))
  refine wpAny_bind (wpAny_standAt (wpAny_bind (wpAny_holding (thn (hs pins s2 σ H2 x y v ov iv u _ I2 r1 r2 r q2) fun _ s3 ⟨H3, I3, q3⟩ => ?_))))
  exact wpAny_release ⟨σ, H3, I3, q3⟩
noncomputable def tAsg (te : TE) (g : TG) : TS := fun D σ H => te σ H fun x H1 => g x σ H1 D.nx
theorem ps_asg {tg e : Expr} {te : TE} {g : TG} (he : PE X e te) (hg : PG X tg g) (hs : autoParam (swapsWithSole [tg] e pos.line X.env = pure false) au0_._auto_1) (hw : autoParam (swappedStores [tg] e X.env = pure none) au0_._auto_1)
    (h1 : autoParam ((assignEach [tg] X.env).map (·.2) = [assign tg X.env]) au0_._auto_1) : PS X (.Assign [tg] e pos) (tAsg te g) := by
  intro pins s σ H D I h
  refine wpAny_Assign_stores (thn (he pins s σ H _ I h) fun v s1 ⟨x, H1, I1, r1, q1⟩ => ?_) hs hw
  rw [h1]
  exact thn (hg pins s1 σ H1 x v _ I1 r1 q1) fun _ s2 q => q
theorem ps_set {i : Nat} {x : Str} {e : Expr} {te : TE} {pos' : Pos} (hN : X.N.Nodup) (hi : X.N[i]? = some x) (hx : Loc X.env.scope x) (he : PE X e te) (hs : autoParam (swapsWith e (some (.Name x pos')) pos.line X.env = pure false) au0_._auto_1) (hf : X.fn x = true ∨ X.env.scope.names.lookup x = some .local := by first | exact .inl rfl | exact .inr rfl | assumption) :
    PS X (.Assign [.Name x pos'] e pos) (tAsg te (gName i)) := by
  intro pins s σ H D I h
  refine wpAny_Assign_Name (thn (he pins s σ H _ I h) fun v s1 ⟨y, H1, I1, r1, q1⟩ => ?_) hs
  exact store_ok I1 hN hi hx r1 (fun s2 I2 => ⟨_, H1, I2, q1⟩) hf
noncomputable def tPar (i j : Nat) (ta : TA) : TS := fun D σ H => ta σ H fun vs H1 => ∃ v w, vs = [v, w] ∧ D.nx ((σ.set i (some v)).set j (some w)) H1
theorem ps_par {i j : Nat} {x y : Str} {a b : Expr} {ta : TA} {px py pt : Pos} {kt k2 pt2} (hc : X.calm = true) (hN : X.N.Nodup) (hi : X.N[i]? = some x) (hj : X.N[j]? = some y) (hij : i ≠ j)
    (hx : X.env.scope.names.lookup x = some .local) (hy : X.env.scope.names.lookup y = some .local) (ha : PA X [a, b] ta)
    (hw : swappedStores [.Tuple [.Name x px, .Name y py] kt pt] (.Tuple [a, b] k2 pt2) X.env = pure (some [x, y]))
    (hs : autoParam (swapsWithSole [.Tuple [.Name x px, .Name y py] kt pt] (.Tuple [a, b] k2 pt2) pos.line X.env = pure false) au0_._auto_1) :
    PS X (.Assign [.Tuple [.Name x px, .Name y py] kt pt] (.Tuple [a, b] k2 pt2) pos) (tPar i j ta) := by
  intro pins s σ H D I h
  rw [exec_Assign_arm]
  refine wpAny_bind (wpAny_standAt ?_)
  rw [hs]
  refine wpAny_bind (wpAny_pure ?_)
  rw [if_neg (by decide)]
  refine wpAny_bind (Tuple_ (thn (ha _ pins s σ H _ I h) fun us s1 ⟨vs, H1, I1, r1, q1⟩ => ?_))
  obtain ⟨v, w, e1, q1⟩ := q1
  subst e1
  obtain ⟨u1, u2, rfl, rv, rw'⟩ : ∃ u1 u2, us = [u1, u2] ∧ RelV v u1 ∧ RelV w u2 := by
    cases r1 with
    | cons p q =>
      cases q with
      | cons p' q' =>
        cases q'
        exact ⟨_, _, rfl, p, p'⟩
  refine wpAny_newObj_type ?_ (by show 2 ≤ sizeLine; decide)
  have I2 : Inv X pins σ H1 { s1 with heap := s1.heap.push { cls := .type "tuple", data := .seq [u1, u2].toArray } } := I1.kept (t' := s1.toks) fun b o e => Heap.get?_push_of_some _ e
  rw [hw]
  refine wpAny_bind (wpAny_pure ?_)
  show wpAny (model X.prog X.w) X.A (do rule "assign.swapped-stores"; let items ← unpackItems (.ref s1.heap.objs.size) 2 none; assignInOrder [fun v => bindName X.env y v, fun v => bindName X.env x v] items.reverse; pure Flow.next) _ _ _
  refine wpAny_bind (wpAny_rule (wpAny_bind (unpackItems_tuple (items := #[u1, u2]) (I.ok.hd hc) (IsTup.new s1.heap _) fun h' hx' => ?_)))
  have I3 := I2.kept (h' := h') (t' := s1.toks) fun b o e => hx' b o (Nat.ne_of_lt (Heap.lt_size e)) e
  show wpAny _ _ (assignInOrder [fun v => bindName X.env y v, fun v => bindName X.env x v] [u2, u1] >>= fun _ => pure Flow.next) _ _ _
  refine wpAny_bind (assignInOrder_cons (wpAny_bindName (store_ok I3 hN hj (.inl hy) rw' (fun s2 I4 => ?_) (.inr hy))))
  refine assignInOrder_cons (wpAny_bindName (store_ok I4 hN hi (.inl hx) rv (fun s3 I5 => assignInOrder_nil (wpAny_pure ?_)) (.inr hx)))
  rw [List.set_comm _ _ (Ne.symm hij)] at I5
  exact ⟨_, H1, I5, q1⟩
end

section
variable {X : Cx} {pos : Pos}
noncomputable def tWhile (c : TT) (tb : TS) : TS := fun D σ H => ∃ W : Nat → St → Hp → Prop, (∃ m, W m σ H) ∧ ∀ m σ H, W m σ H →
  c σ H fun b H1 => if b = true then ∃ N : St → Hp → Prop, (∀ σ' H', N σ' H' → ∃ m', m' < m ∧ W m' σ' H') ∧ tb { D with nx := N, ct := N, bk := D.nx } σ H1 else D.nx σ H1
theorem ps_while {c : Expr} {body : List Stmt} {tc : TT} {tb : TS} (hp : PassesOwn (model X.prog X.w) X.A X.env X.xe) (hc : PT X c tc) (hb : PSs X body tb) : PS X (.While c body [] pos) (tWhile tc tb) := by
  intro pins s σ H D I h
  obtain ⟨W, ⟨m0, w0⟩, turn⟩ := h
  refine wpAny_While (codeAny_whileLoop (fun n s' => ∃ σ' H', Inv X pins σ' H' s' ∧ W n σ' H') ?_ m0 ⟨σ, H, I, w0⟩)
  rintro n s1 ⟨σ1, H1, I1, w1⟩
  refine wpAny_passesOwn hp (thn (hc pins s1 σ1 H1 _ I1 (turn n σ1 H1 w1)) fun b s2 ⟨H2, I2, q2⟩ => ?_)
  cases b with
  | true =>
    obtain ⟨N, hN, q2⟩ := q2
    rw [if_pos rfl]
    refine wpAny_passesOwn hp (thn (hb pins s2 σ1 H2 _ I2 q2) fun f s3 q3 => ?_)
    cases f with
    | next =>
      obtain ⟨σ3, H3, I3, n3⟩ := q3
      obtain ⟨m', hm, w3⟩ := hN σ3 H3 n3
      exact ⟨m', hm, σ3, H3, I3, w3⟩
    | cont =>
      obtain ⟨σ3, H3, I3, n3⟩ := q3
      obtain ⟨m', hm, w3⟩ := hN σ3 H3 n3
      exact ⟨m', hm, σ3, H3, I3, w3⟩
    | brk => exact q3
    | ret v => exact q3
  | false =>
    rw [if_neg Bool.false_ne_true]
    exact wpAny_execs_nil ⟨σ1, H2, I2, q2⟩
end

structure It where
  go : Nat → Hp → Prop
  yld : Nat → Hp → V → Hp → Prop
  stop : Nat → Hp → Prop
noncomputable def FpOk (X : Cx) (pins : List (Addr × Obj)) (H : Hp) (b : Addr) : Prop :=
  H b = none ∧ b ≠ X.env.locals ∧ b ∉ X.fs ∧ (b ∈ X.ex ∨ X.s₀.heap.objs.size ≤ b) ∧ (∀ x c, X.env.cells.lookup x = some c → c ≠ b) ∧ ∀ p ∈ X.pn ++ pins, p.1 ≠ b
theorem Inv.fpOk {X : Cx} {pins : List (Addr × Obj)} {σ : St} {H H' : Hp} {s : Shared} {b : Addr} (I : Inv X pins σ H s) (hb : s.heap.objs.size ≤ b) (hn : H' b = none) : FpOk X pins H' b := by
  refine ⟨hn, Nat.ne_of_gt (Nat.lt_of_lt_of_le I.lt hb), I.nofs hb, .inr (Nat.le_trans I.sz hb), fun x c e z => ?_, fun p hp z => ?_⟩
  · obtain ⟨v, q⟩ := I.cell x c e
    exact absurd (Nat.lt_of_lt_of_le q.lt (by rw [z]; exact hb)) (Nat.lt_irrefl _)
  · exact absurd (Nat.lt_of_lt_of_le (Heap.lt_size (I.pin p hp).1) (by rw [z]; exact hb)) (Nat.lt_irrefl _)
structure Turn (P : Program) (w : World) (K : PySem.W.Frag) (tg : Expr) (J : It) (fp : List Addr) (it : Addr) (tn : Nat → Heap → Prop) : Prop where
  mem : it ∈ fp
  obj : ∀ i h, tn i h → ∀ b ∈ fp, ∃ o, h.get? b = some o ∧ ∀ v, o.data ≠ .cell v
  keep : ∀ i h h', tn i h → (∀ b ∈ fp, ∀ o, h.get? b = some o → h'.get? b = some o) → tn i h'
  item : ∀ (X : Cx), X.prog = P → X.w = w → X.K = K → X.calm = true → ∀ (i : Nat) (pins : List (Addr × Obj)) (s : Shared) (σ : St) (H : Hp) (E : Value → Shared → Prop), Inv X pins σ H s → (∀ b ∈ fp, FpOk X pins H b) → tn i s.heap → J.go i H →
    wpAny (model P w) X.A (pyNext (.ref it)) (fun r s1 => ∃ u, r = some u ∧
      wpAny (model P w) X.A (letOwnedTupleGo tg (.ref it) u) (fun _ s2 => ∃ x H', Inv X pins σ H' s2 ∧ RelV x u ∧ J.yld i H x H' ∧ tn (i + 1) s2.heap ∧ ∀ b ∈ fp, H' b = none) E s1) E s
  done : ∀ (X : Cx), X.prog = P → X.w = w → X.K = K → X.calm = true → ∀ (i : Nat) (pins : List (Addr × Obj)) (s : Shared) (σ : St) (H : Hp) (E : Value → Shared → Prop), Inv X pins σ H s → (∀ b ∈ fp, FpOk X pins H b) → tn i s.heap → J.stop i H →
    wpAny (model P w) X.A (pyNext (.ref it)) (fun r s1 => r = none ∧ Inv X pins σ H s1) E s
  self : ∀ (A : Around) (i : Nat) (s : Shared) (Q : Value → Shared → Prop) (E : Value → Shared → Prop), tn i s.heap → Q (.ref it) s → wpAny (model P w) A (pyIter (.ref it)) Q E s
noncomputable abbrev TI := St → Hp → (It → Hp → Prop) → Prop
noncomputable def PIE (X : Cx) (pins : List (Addr × Obj)) (σ : St) (tg : Expr) (R : It → Hp → Prop) (itv : Value) (s2 : Shared) : Prop :=
  ∃ (it : Addr) (fp : List Addr) (tn : Nat → Heap → Prop) (J : It) (H' : Hp), itv = .ref it ∧ Inv X pins σ H' s2 ∧ Turn X.prog X.w X.K tg J fp it tn ∧ tn 0 s2.heap ∧ (∀ b ∈ fp, FpOk X pins H' b) ∧ R J H'
noncomputable def PI (X : Cx) (tg iter : Expr) (wi : TI) : Prop :=
  ∀ (pins : List (Addr × Obj)) (s : Shared) (σ : St) (H : Hp) (R : It → Hp → Prop), Inv X pins σ H s → wi σ H R →
    wpAny (model X.prog X.w) X.A (eval iter X.env) (fun v s1 => wpAny (model X.prog X.w) X.A (pyIter v) (PIE X pins σ tg R) X.xe s1) X.xe s

theorem go_of {M : Model} {A : Around} {E : Value → Shared → Prop} {s : Shared} {tg : Expr} {it : Addr} {u : Value} {o : Obj} {n : String} {vs : Array Value} {Q : Unit → Shared → Prop} (ho : s.heap.get? it = some o) (hc : o.cls = .type n) (hd : o.data = .fields vs)
    (hn : ["enumerate", "zip", "dict_itemiterator", "dict_reverseitemiterator", "odict_iterator", "itertools.zip_longest", "itertools.pairwise"].contains n = false) (hQ : Q () s) : wpAny M A (letOwnedTupleGo tg (.ref it) u) Q E s := by
  unfold letOwnedTupleGo
  cases tg <;> first
    | exact wpAny_pure hQ
    | (cases u <;> first
        | exact wpAny_pure hQ
        | (refine wpAny_bind (wpAny_load ho ?_)
           rw [hc, hd]
           show wpAny M A (if (["enumerate", "zip", "dict_itemiterator", "dict_reverseitemiterator", "odict_iterator", "itertools.zip_longest", "itertools.pairwise"].contains n && vs[0]? == some (rawInt _)) = true then _ else _) Q E s
           rw [if_neg (by intro h; rw [hn, Bool.false_and] at h; cases h)]
           exact wpAny_pure hQ))

noncomputable def Itl (K : PySem.W.Frag) (a : Addr) : It :=
  ⟨fun i H => ∃ xs x, SqL K H a xs ∧ xs[i]? = some x, fun i H x H' => H' = H ∧ ∀ xs, SqL K H a xs → xs[i]? = some x, fun i H => ∃ xs, SqL K H a xs ∧ xs.length ≤ i⟩
noncomputable def Itt (K : PySem.W.Frag) (a : Addr) : It :=
  ⟨fun i H => ∃ xs x, SqT K H a xs ∧ xs[i]? = some x, fun i H x H' => H' = H ∧ ∀ xs, SqT K H a xs → xs[i]? = some x, fun i H => ∃ xs, SqT K H a xs ∧ xs.length ≤ i⟩
noncomputable def Itr (lo : Int) (n : Nat) : It := ⟨fun i _ => i < n, fun i H x H' => H' = H ∧ x = .int (lo + i), fun i _ => n ≤ i⟩
theorem turn_list {P : Program} {w : World} {K : PySem.W.Frag} {tg : Expr} (a it : Addr) : Turn P w K tg (Itl K a) [it] it (fun i h => h.IsListIter it a i) where
  mem := by simp
  obj := fun i h st b hb => by
    have e : b = it := by simpa using hb
    subst e
    obtain ⟨o, e, c, d⟩ := st
    exact ⟨o, e, fun v z => by rw [d] at z; cases z⟩
  keep := fun i h h' st k => st.at fun o e => k it (by simp) o e
  item := by
    intro X hP hw hK hc i pins s σ H E I hf st hg
    subst hP hw hK
    obtain ⟨xs, x, hq, hx⟩ := hg
    obtain ⟨its, rv, p, hz⟩ := I.list hq
    obtain ⟨u, hu, ru⟩ := rv.get hx
    obtain ⟨f0, f1, f2, f3, f4, f5⟩ := hf it (by simp)
    refine wpAny_pyNext_list_item st p.isList (x := u) (by simpa using hu) fun h' st' sb => ?_
    have I1 : Inv X pins σ H { s with heap := h' } := I.turned (t' := s.toks) (fun b o hb e => (sb.2 b hb).trans e) f0 f1 f3 f4 f5
    obtain ⟨o, e, c, d⟩ := id st'
    exact ⟨u, rfl, go_of (s := { s with heap := h' }) e c d (by decide) ⟨x, H, I1, ru, ⟨rfl, fun ys hy => by rw [I.list_inj hy hq]; exact hx⟩, st', fun b hb => (hf b hb).1⟩⟩
  done := by
    intro X hP hw hK hc i pins s σ H E I hf st hg
    subst hP hw hK
    obtain ⟨xs, hq, hx⟩ := hg
    obtain ⟨its, rv, p, hz⟩ := I.list hq
    obtain ⟨f0, f1, f2, f3, f4, f5⟩ := hf it (by simp)
    have hl := rv.length
    exact wpAny_pyNext_list_end (I.ok.hd hc) st p.isList (by simp; omega) fun h' eb => ⟨rfl, I.turned (t' := s.toks) (fun b o hb e => eb b o hb e) f0 f1 f3 f4 f5⟩
  self := fun _ _ _ _ _ st h => wpAny_pyIter_listiter st h
theorem turn_tuple {P : Program} {w : World} {K : PySem.W.Frag} {tg : Expr} (a it : Addr) : Turn P w K tg (Itt K a) [it] it (fun i h => h.IsTupleIter it a i) where
  mem := by simp
  obj := fun i h st b hb => by
    have e : b = it := by simpa using hb
    subst e
    obtain ⟨o, e, c, d⟩ := st
    exact ⟨o, e, fun v z => by rw [d] at z; cases z⟩
  keep := fun i h h' st k => st.at fun o e => k it (by simp) o e
  item := by
    intro X hP hw hK hc i pins s σ H E I hf st hg
    subst hP hw hK
    obtain ⟨xs, x, hq, hx⟩ := hg
    obtain ⟨its, rv, p, hz⟩ := I.tuple hq
    obtain ⟨u, hu, ru⟩ := rv.get hx
    obtain ⟨f0, f1, f2, f3, f4, f5⟩ := hf it (by simp)
    refine wpAny_pyNext_tuple_item st (show s.heap.IsTuple a its.toArray from p) (x := u) (by simpa using hu) fun h' st' sb => ?_
    have I1 : Inv X pins σ H { s with heap := h' } := I.turned (t' := s.toks) (fun b o hb e => (sb.2 b hb).trans e) f0 f1 f3 f4 f5
    obtain ⟨o, e, c, d⟩ := id st'
    exact ⟨u, rfl, go_of (s := { s with heap := h' }) e c d (by decide) ⟨x, H, I1, ru, ⟨rfl, fun ys hy => by rw [I.tuple_inj hy hq]; exact hx⟩, st', fun b hb => (hf b hb).1⟩⟩
  done := by
    intro X hP hw hK hc i pins s σ H E I hf st hg
    subst hP hw hK
    obtain ⟨xs, hq, hx⟩ := hg
    obtain ⟨its, rv, p, hz⟩ := I.tuple hq
    obtain ⟨f0, f1, f2, f3, f4, f5⟩ := hf it (by simp)
    have hl := rv.length
    exact wpAny_pyNext_tuple_end (I.ok.hd hc) st (show s.heap.IsTuple a its.toArray from p) (by simp; omega) fun h' eb => ⟨rfl, I.turned (t' := s.toks) (fun b o hb e => eb b o hb e) f0 f1 f3 f4 f5⟩
  self := fun _ _ _ _ _ st h => wpAny_pyIter_tupleiter st h
theorem turn_range {P : Program} {w : World} {K : PySem.W.Frag} {tg : Expr} (it : Addr) (lo : Int) (n : Nat) : Turn P w K tg (Itr lo n) [it] it (fun i h => IsRangeIter h it (lo + (i : Nat) * 1) ((n : Int) - (i : Nat)) 1) where
  mem := by simp
  obj := fun i h st b hb => by
    have e : b = it := by simpa using hb
    subst e
    exact ⟨_, st, fun v z => by
      have z' : Data.fields _ = Data.cell v := z
      cases z'⟩
  keep := fun i h h' st k => k it (by simp) _ st
  item := by
    intro X hP hw hK hc i pins s σ H E I hf st hg
    subst hP hw hK
    obtain ⟨f0, f1, f2, f3, f4, f5⟩ := hf it (by simp)
    have W := Walks.range (prog := X.prog) (w := X.w) (I.ok.hd hc) it lo 1 n
    refine W.item i s _ _ hg st fun v h' tk hv st' kk => ?_
    obtain ⟨t, rfl⟩ := hv
    have I1 : Inv X pins σ H { s with heap := h', toks := tk } := I.turned (fun b o hb e => kk b o (by simpa using hb) e) f0 f1 f3 f4 f5
    refine ⟨_, rfl, go_of (s := { s with heap := h', toks := tk }) (n := "range_iterator") st' rfl rfl (by decide) ⟨.int (lo + i), H, I1, ⟨t, ?_⟩, ⟨rfl, rfl⟩, st', fun b hb => (hf b hb).1⟩⟩
    rw [Int.mul_one]
  done := by
    intro X hP hw hK hc i pins s σ H E I hf st hg
    subst hP hw hK
    obtain ⟨f0, f1, f2, f3, f4, f5⟩ := hf it (by simp)
    exact wpAny_pyNext_range_end (I.ok.hd hc) st (by have : n ≤ i := hg; omega) fun h' eb => ⟨rfl, I.turned (t' := s.toks) (fun b o hb e => eb b o hb e) f0 f1 f3 f4 f5⟩
  self := fun _ _ _ _ _ st h => wpAny_pyIter_rangeiter st h
end L2

namespace L2
open PySem PySem.Spec PyProof.Rows
section
variable {X : Cx} {tg : Expr}
noncomputable def iList (K : PySem.W.Frag) (tl : TE) : TI := fun σ H R => tl σ H fun x H1 => ∃ a, x = .ref a ∧ (∃ xs, SqL K H1 a xs) ∧ R (Itl K a) H1
noncomputable def iTup (K : PySem.W.Frag) (tl : TE) : TI := fun σ H R => tl σ H fun x H1 => ∃ a, x = .ref a ∧ (∃ xs, SqT K H1 a xs) ∧ R (Itt K a) H1
theorem pi_list {l : Expr} {tl : TE} (hl : PE X l tl) : PI X tg l (iList X.K tl) := by
  intro pins s σ H R I h
  refine thn (hl pins s σ H _ I h) fun v s1 ⟨x, H1, I1, r1, q1⟩ => ?_
  obtain ⟨a, e, ⟨xs, hq⟩, q⟩ := q1
  subst e
  cases r1
  obtain ⟨its, rv, p, hz⟩ := I1.list hq
  refine wpAny_pyIter_list p.isList ?_
  refine ⟨s1.heap.objs.size, [s1.heap.objs.size], _, _, H1, rfl, I1.kept (t' := s1.toks) fun b o e => Heap.get?_push_of_some _ e, turn_list a _, ⟨_, Heap.get?_push_size _ rfl, rfl, rfl⟩, fun b hb => ?_, q⟩
  have e : b = s1.heap.objs.size := by simpa using hb
  subst e
  exact I1.fpOk (Nat.le_refl _) (I1.hok.fresh (Nat.le_refl _))
theorem pi_tup {l : Expr} {tl : TE} (hl : PE X l tl) : PI X tg l (iTup X.K tl) := by
  intro pins s σ H R I h
  refine thn (hl pins s σ H _ I h) fun v s1 ⟨x, H1, I1, r1, q1⟩ => ?_
  obtain ⟨a, e, ⟨xs, hq⟩, q⟩ := q1
  subst e
  cases r1
  obtain ⟨its, rv, p, hz⟩ := I1.tuple hq
  refine wpAny_pyIter_tuple (show s1.heap.IsTuple a its.toArray from p) ?_
  refine ⟨s1.heap.objs.size, [s1.heap.objs.size], _, _, H1, rfl, I1.kept (t' := s1.toks) fun b o e => Heap.get?_push_of_some _ e, turn_tuple a _, ⟨_, Heap.get?_push_size _ rfl, rfl, rfl⟩, fun b hb => ?_, q⟩
  have e : b = s1.heap.objs.size := by simpa using hb
  subst e
  exact I1.fpOk (Nat.le_refl _) (I1.hok.fresh (Nat.le_refl _))
theorem range_it {pins : List (Addr × Obj)} {σ : St} {H : Hp} {s : Shared} {R : It → Hp → Prop} {E : Value → Shared → Prop} {lo hi : Int} {t u v : Tok} {tk : Nat} (I : Inv X pins σ H s) (h1 : -(2 ^ 62) ≤ lo) (h2 : lo < 2 ^ 62) (h3 : -(2 ^ 62) ≤ hi) (h4 : hi < 2 ^ 62)
    (q : R (Itr lo (hi - lo).toNat) H) : wpAny (model X.prog X.w) X.A (pyIter (.ref s.heap.objs.size)) (PIE X pins σ tg R) E { s with heap := s.heap.push { cls := .type "range", data := .fields #[.int lo t, .int hi u, .int 1 v] }, toks := tk } := by
  refine wpAny_pyIter_range (IsRange.new ..) (small_one h1 h2 h3 h4) ?_
  have I1 : Inv X pins σ H { s with heap := s.heap.push { cls := .type "range", data := .fields #[.int lo t, .int hi u, .int 1 v] }, toks := tk } := I.kept fun b o e => Heap.get?_push_of_some _ e
  refine ⟨(s.heap.push { cls := .type "range", data := .fields #[.int lo t, .int hi u, .int 1 v] }).objs.size, [(s.heap.push { cls := .type "range", data := .fields #[.int lo t, .int hi u, .int 1 v] }).objs.size], _, _, H, rfl,
    I1.kept (t' := tk) fun b o e => Heap.get?_push_of_some _ e, turn_range _ lo (hi - lo).toNat, ?_, fun b hb => ?_, q⟩
  · have e1 : lo + ((0 : Nat) : Int) * 1 = lo := by simp
    have e2 : (((hi - lo).toNat : Nat) : Int) - ((0 : Nat) : Int) = Builtin.Range.rangeSize lo hi 1 := by rw [rangeSize_one]; split <;> omega
    show IsRangeIter _ _ (lo + ((0 : Nat) : Int) * 1) ((((hi - lo).toNat : Nat) : Int) - ((0 : Nat) : Int)) 1
    rw [e1, e2]
    exact Heap.get?_push_size _ rfl
  · have e : b = (s.heap.push { cls := .type "range", data := .fields #[.int lo t, .int hi u, .int 1 v] }).objs.size := by simpa using hb
    subst e
    exact I1.fpOk (Nat.le_refl _) (I1.hok.fresh (Nat.le_refl _))
noncomputable def iRng1 (ta : TA) : TI := fun σ H R => ta σ H fun vs H1 => ∃ j : Int, vs = [.int j] ∧ -(2 ^ 62) ≤ j ∧ j < 2 ^ 62 ∧ R (Itr 0 j.toNat) H1
noncomputable def iRng2 (ta : TA) : TI := fun σ H R => ta σ H fun vs H1 => ∃ i j : Int, vs = [.int i, .int j] ∧ (-(2 ^ 62) ≤ i ∧ i < 2 ^ 62 ∧ -(2 ^ 62) ≤ j ∧ j < 2 ^ 62) ∧ R (Itr i (j - i).toNat) H1
theorem pi_range1 {a : Expr} {ta : TA} {p pos : Pos} (hg : Gl X "range") (hm : X.mg "range" = none) (ha : PA X [a] ta) (hs : autoParam (starEach [a] X.env = [(false, eval a X.env)]) au0_._auto_1) : PI X tg (.Call (.Name "range" p) [a] [] pos) (iRng1 ta) := by
  intro pins s σ H R I h
  refine Call_ (ld_blt I hg hm boot_range (PyProof.Rows.callWith_type1 (thn (ha pos pins s σ H _ I h) fun us s1 ⟨vs, H1, I1, r1, q1⟩ => ?_) hs rfl))
  obtain ⟨j, e, q1, q2, q⟩ := q1
  subst e
  cases r1 with
  | cons r rr =>
    cases rr
    obtain ⟨t, rfl⟩ := r
    exact call_range_1 (range_it I1 (by omega) (by omega) q1 q2 (by simpa using q))
theorem pi_range2 {a b : Expr} {ta : TA} {p pos : Pos} (hg : Gl X "range") (hm : X.mg "range" = none) (ha : PA X [a, b] ta) (hs : autoParam (starEach [a, b] X.env = [(false, eval a X.env), (false, eval b X.env)]) au0_._auto_1) (hs2 : autoParam (starEach [b] X.env = [(false, eval b X.env)]) au0_._auto_1) :
    PI X tg (.Call (.Name "range" p) [a, b] [] pos) (iRng2 ta) := by
  intro pins s σ H R I h
  refine Call_ (ld_blt I hg hm boot_range (PyProof.Rows.callWith_type1 (thn (ha pos pins s σ H _ I h) fun us s1 ⟨vs, H1, I1, r1, q1⟩ => ?_) (by rw [hs, hs2]) (by rw [hs2]; rfl)))
  obtain ⟨i, j, e, ⟨q1, q2, q3, q4⟩, q⟩ := q1
  subst e
  cases r1 with
  | cons r rr =>
    cases rr with
    | cons r' rr =>
      cases rr
      obtain ⟨t, rfl⟩ := r
      obtain ⟨t', rfl⟩ := r'
      exact call_range_2 (range_it I1 q1 q2 q3 q4 q)

noncomputable def tFor (wi : TI) (g : TG) (tb : TS) : TS := fun D σ H => wi σ H fun J H1 => ∃ W : Nat → Nat → St → Hp → Prop, (∃ m, W 0 m σ H1) ∧ ∀ i m σ H, W i m σ H →
  (J.stop i H ∧ D.nx σ H) ∨ (J.go i H ∧ ∃ N : St → Hp → Prop, (∀ σ' H', N σ' H' → ∃ m', m' < m ∧ W (i + 1) m' σ' H') ∧ ∀ x H', J.yld i H x H' → g x σ H' fun σ2 H2 => tb { D with nx := N, ct := N, bk := D.nx } σ2 H2)
noncomputable def pinsAt (fp : List Addr) (h : Heap) : List (Addr × Obj) := fp.filterMap fun b => (h.get? b).map fun o => (b, o)
theorem mem_pinsAt {fp : List Addr} {h : Heap} {b : Addr} {o : Obj} (hb : b ∈ fp) (e : h.get? b = some o) : (b, o) ∈ pinsAt fp h := List.mem_filterMap.mpr ⟨b, hb, by rw [e]; rfl⟩
theorem of_pinsAt {fp : List Addr} {h : Heap} {p : Addr × Obj} (hp : p ∈ pinsAt fp h) : p.1 ∈ fp ∧ h.get? p.1 = some p.2 := by
  obtain ⟨b, hb, e⟩ := List.mem_filterMap.mp hp
  cases q : h.get? b with
  | none => rw [q] at e; cases e
  | some o =>
    rw [q] at e
    have e' : (b, o) = p := Option.some.inj e
    subst e'
    exact ⟨hb, q⟩
theorem Inv.pinned {pins : List (Addr × Obj)} {σ : St} {H : Hp} {s : Shared} {fp : List Addr} (I : Inv X pins σ H s) (hf : ∀ b ∈ fp, FpOk X pins H b) (ho : ∀ b ∈ fp, ∃ o, s.heap.get? b = some o ∧ ∀ v, o.data ≠ .cell v) : Inv X (pins ++ pinsAt fp s.heap) σ H s :=
  I.pins_of fun p hp => (List.mem_append.mp hp).elim (fun z => I.pin p (List.mem_append_right _ z)) fun z => by
    obtain ⟨hb, e⟩ := of_pinsAt z
    obtain ⟨f0, f1, f2, _⟩ := hf p.1 hb
    obtain ⟨o, e', d⟩ := ho p.1 hb
    rw [e] at e'; cases e'
    exact ⟨e, f0, f1, f2, d⟩
theorem Inv.unpinned {pins pl : List (Addr × Obj)} {σ : St} {H : Hp} {s : Shared} (I : Inv X (pins ++ pl) σ H s) : Inv X pins σ H s := I.pins_of fun p hp => I.pin p (List.mem_append_right _ (List.mem_append_left _ hp))
theorem ps_for {iter : Expr} {body : List Stmt} {wi : TI} {g : TG} {tb : TS} {pos : Pos} (hp : PassesOwn (model X.prog X.w) X.A X.env X.xe) (hc : X.calm = true) (hi : PI X tg iter wi) (hg : PG X tg g) (hb : PSs X body tb)
    (hs : autoParam (∀ x, foldedSetIterable iter X.env x = pure x) au2_._auto_1) : PS X (.For tg iter body [] pos) (tFor wi g tb) := by
  intro pins s σ H D I h
  refine wpAny_For (thn (hi pins s σ H _ I h) fun v s1 h1 => thn h1 fun itv s2 h2 => ?_) hs
  obtain ⟨it, fp, tn, J, H2, e, I2, T, st2, f2, W, ⟨m0, w0⟩, turn⟩ := h2
  subst e
  -- what stays true of the iterator's objects through the loop
  have stat : ∀ {H' : Hp}, (∀ b ∈ fp, H' b = none) → ∀ b ∈ fp, FpOk X pins H' b := fun hn b hb => ⟨hn b hb, (f2 b hb).2⟩
  refine codeAny_forLoop_any (fun n s' => ∃ i σ' H', Inv X pins σ' H' s' ∧ tn i s'.heap ∧ (∀ b ∈ fp, H' b = none) ∧ W i n σ' H') ?_ m0 ⟨0, σ, H2, I2, st2, fun b hb => (f2 b hb).1, w0⟩
  rintro n s3 ⟨i, σ3, H3, I3, st3, fr3, w3⟩
  rcases turn i n σ3 H3 w3 with ⟨stop, qn⟩ | ⟨go, N, hN, step⟩
  · refine wpAny_passesOwn hp (thn (T.done X rfl rfl rfl hc i pins s3 σ3 H3 X.xe I3 (stat fr3) st3 stop) fun r s4 ⟨hr, I4⟩ => ?_)
    subst hr
    exact wpAny_execs_nil ⟨σ3, H3, I4, qn⟩
  · refine wpAny_passesOwn hp (thn (T.item X rfl rfl rfl hc i pins s3 σ3 H3 X.xe I3 (stat fr3) st3 go) fun r s4 ⟨u, hr, h4⟩ => ?_)
    subst hr
    refine wpAny_passesOwn hp (thn h4 fun _ s5 ⟨x, H5, I5, r5, y5, st5, fr5⟩ => ?_)
    have I5' := I5.pinned (stat fr5) (T.obj _ _ st5)
    refine wpAny_passesOwn hp (thn (hg _ s5 σ3 H5 x u _ I5' r5 (step x H5 y5)) fun _ s6 ⟨σ6, H6, I6, q6⟩ => ?_)
    refine wpAny_passesOwn hp (thn (hb _ s6 σ6 H6 _ I6 q6) fun f s7 q7 => ?_)
    have again : ∀ {σ7 : St} {H7 : Hp}, Inv X (pins ++ pinsAt fp s5.heap) σ7 H7 s7 → N σ7 H7 → ∃ m, m < n ∧ ∃ i σ' H', Inv X pins σ' H' s7 ∧ tn i s7.heap ∧ (∀ b ∈ fp, H' b = none) ∧ W i m σ' H' := fun {σ7 H7} I7 n7 => by
      obtain ⟨m', hm, w7⟩ := hN σ7 H7 n7
      refine ⟨m', hm, i + 1, σ7, H7, I7.unpinned, T.keep _ _ _ st5 fun b hb o e => (I7.pin (b, o) (List.mem_append_right _ (List.mem_append_right _ (mem_pinsAt hb e)))).1, fun b hb => ?_, w7⟩
      obtain ⟨o, e, d⟩ := T.obj _ _ st5 b hb
      exact (I7.pin (b, o) (List.mem_append_right _ (List.mem_append_right _ (mem_pinsAt hb e)))).2.1
    cases f with
    | next => obtain ⟨σ7, H7, I7, n7⟩ := q7; exact again I7 n7
    | cont => obtain ⟨σ7, H7, I7, n7⟩ := q7; exact again I7 n7
    | brk => obtain ⟨σ7, H7, I7, q7⟩ := q7; exact ⟨σ7, H7, I7.unpinned, q7⟩
    | ret v => obtain ⟨x7, σ7, H7, I7, r7, q7⟩ := q7; exact ⟨x7, σ7, H7, I7.unpinned, r7, q7⟩
end

theorem for_list {K : PySem.W.Frag} {a : Addr} {xs : List V} {g : TG} {tb : TS} {D : Ends} {σ : St} {H : Hp} (Pv : Nat → St → Hp → Prop) (h0 : Pv 0 σ H) (hl : ∀ i σ H, i ≤ xs.length → Pv i σ H → SqL K H a xs)
    (hs : ∀ i x σ H, xs[i]? = some x → Pv i σ H → g x σ H fun σ2 H2 => tb { D with nx := Pv (i + 1), ct := Pv (i + 1), bk := D.nx } σ2 H2) (hd : ∀ σ H, Pv xs.length σ H → D.nx σ H) :
    ∃ W : Nat → Nat → St → Hp → Prop, (∃ m, W 0 m σ H) ∧ ∀ i m σ H, W i m σ H →
      ((Itl K a).stop i H ∧ D.nx σ H) ∨ ((Itl K a).go i H ∧ ∃ N : St → Hp → Prop, (∀ σ' H', N σ' H' → ∃ m', m' < m ∧ W (i + 1) m' σ' H') ∧ ∀ x H', (Itl K a).yld i H x H' → g x σ H' fun σ2 H2 => tb { D with nx := N, ct := N, bk := D.nx } σ2 H2) := by
  refine ⟨fun i m σ H => m = xs.length - i ∧ i ≤ xs.length ∧ Pv i σ H, ⟨xs.length, by simp, Nat.zero_le _, h0⟩, ?_⟩
  rintro i m σ H ⟨rfl, hi, p⟩
  have q := hl i σ H hi p
  by_cases hlt : i < xs.length
  · refine .inr ⟨⟨xs, xs[i], q, by simp [hlt]⟩, Pv (i + 1), fun σ' H' p' => ⟨xs.length - (i + 1), by omega, rfl, hlt, p'⟩, fun x H' y => ?_⟩
    obtain ⟨e, y⟩ := y
    subst e
    exact hs i x σ _ (y xs q) p
  · have e : i = xs.length := by omega
    subst e
    exact .inl ⟨⟨xs, q, Nat.le_refl _⟩, hd σ H p⟩
theorem for_tup {K : PySem.W.Frag} {a : Addr} {xs : List V} {g : TG} {tb : TS} {D : Ends} {σ : St} {H : Hp} (Pv : Nat → St → Hp → Prop) (h0 : Pv 0 σ H) (hl : ∀ i σ H, i ≤ xs.length → Pv i σ H → SqT K H a xs)
    (hs : ∀ i x σ H, xs[i]? = some x → Pv i σ H → g x σ H fun σ2 H2 => tb { D with nx := Pv (i + 1), ct := Pv (i + 1), bk := D.nx } σ2 H2) (hd : ∀ σ H, Pv xs.length σ H → D.nx σ H) :
    ∃ W : Nat → Nat → St → Hp → Prop, (∃ m, W 0 m σ H) ∧ ∀ i m σ H, W i m σ H →
      ((Itt K a).stop i H ∧ D.nx σ H) ∨ ((Itt K a).go i H ∧ ∃ N : St → Hp → Prop, (∀ σ' H', N σ' H' → ∃ m', m' < m ∧ W (i + 1) m' σ' H') ∧ ∀ x H', (Itt K a).yld i H x H' → g x σ H' fun σ2 H2 => tb { D with nx := N, ct := N, bk := D.nx } σ2 H2) := by
  refine ⟨fun i m σ H => m = xs.length - i ∧ i ≤ xs.length ∧ Pv i σ H, ⟨xs.length, by simp, Nat.zero_le _, h0⟩, ?_⟩
  rintro i m σ H ⟨rfl, hi, p⟩
  have q := hl i σ H hi p
  by_cases hlt : i < xs.length
  · refine .inr ⟨⟨xs, xs[i], q, by simp [hlt]⟩, Pv (i + 1), fun σ' H' p' => ⟨xs.length - (i + 1), by omega, rfl, hlt, p'⟩, fun x H' y => ?_⟩
    obtain ⟨e, y⟩ := y
    subst e
    exact hs i x σ _ (y xs q) p
  · have e : i = xs.length := by omega
    subst e
    exact .inl ⟨⟨xs, q, Nat.le_refl _⟩, hd σ H p⟩
theorem for_range {lo : Int} {n : Nat} {g : TG} {tb : TS} {D : Ends} {σ : St} {H : Hp} (Pv : Nat → St → Hp → Prop) (h0 : Pv 0 σ H)
    (hs : ∀ i σ H, i < n → Pv i σ H → g (.int (lo + i)) σ H fun σ2 H2 => tb { D with nx := Pv (i + 1), ct := Pv (i + 1), bk := D.nx } σ2 H2) (hd : ∀ σ H, Pv n σ H → D.nx σ H) :
    ∃ W : Nat → Nat → St → Hp → Prop, (∃ m, W 0 m σ H) ∧ ∀ i m σ H, W i m σ H →
      ((Itr lo n).stop i H ∧ D.nx σ H) ∨ ((Itr lo n).go i H ∧ ∃ N : St → Hp → Prop, (∀ σ' H', N σ' H' → ∃ m', m' < m ∧ W (i + 1) m' σ' H') ∧ ∀ x H', (Itr lo n).yld i H x H' → g x σ H' fun σ2 H2 => tb { D with nx := N, ct := N, bk := D.nx } σ2 H2) := by
  refine ⟨fun i m σ H => m = n - i ∧ i ≤ n ∧ Pv i σ H, ⟨n, by simp, Nat.zero_le _, h0⟩, ?_⟩
  rintro i m σ H ⟨rfl, hi, p⟩
  by_cases hlt : i < n
  · refine .inr ⟨hlt, Pv (i + 1), fun σ' H' p' => ⟨n - (i + 1), by omega, rfl, hlt, p'⟩, fun x H' y => ?_⟩
    obtain ⟨e, y⟩ := y
    subst e y
    exact hs i σ _ hlt p
  · have e : i = n := by omega
    subst e
    exact .inl ⟨Nat.le_refl _, hd σ H p⟩
theorem while_by {c : TT} {tb : TS} {D : Ends} {σ : St} {H : Hp} (Pv : St → Hp → Prop) (μ : St → Hp → Nat) (h0 : Pv σ H)
    (hs : ∀ σ H, Pv σ H → c σ H fun b H1 => if b = true then tb { D with nx := fun σ' H' => Pv σ' H' ∧ μ σ' H' < μ σ H, ct := fun σ' H' => Pv σ' H' ∧ μ σ' H' < μ σ H, bk := D.nx } σ H1 else D.nx σ H1)
    (mono : ∀ σ H Q Q', (∀ b H1, Q b H1 → Q' b H1) → c σ H Q → c σ H Q') : tWhile c tb D σ H := by
  refine ⟨fun m σ H => m = μ σ H ∧ Pv σ H, ⟨_, rfl, h0⟩, ?_⟩
  rintro m σ H ⟨rfl, p⟩
  refine mono σ H _ _ (fun b H1 q => ?_) (hs σ H p)
  cases b with
  | true => exact ⟨_, fun σ' H' ⟨p', l⟩ => ⟨_, l, rfl, p'⟩, q⟩
  | false => exact q
end L2

namespace L2
open PySem PySem.Spec PyProof.Rows

noncomputable abbrev R2 := V → V → Hp → VK → Prop
noncomputable def OpR (X : Cx) (f : Value → Value → Sem Value) (r : R2) : Prop :=
  ∀ (pins : List (Addr × Obj)) (s : Shared) (σ : St) (H : Hp) (x y : V) (v u : Value) (Q : VK), Inv X pins σ H s → RelV x v → RelV y u → r x y H Q →
    wpAny (model X.prog X.w) X.A (f v u) (EP X pins σ Q) X.xe s
noncomputable def UnR (X : Cx) (f : Value → Sem Value) (r : V → Hp → VK → Prop) : Prop :=
  ∀ (pins : List (Addr × Obj)) (s : Shared) (σ : St) (H : Hp) (x : V) (v : Value) (Q : VK), Inv X pins σ H s → RelV x v → r x H Q →
    wpAny (model X.prog X.w) X.A (f v) (EP X pins σ Q) X.xe s
noncomputable def CallR (X : Cx) (f : Value) (r : List V → Hp → VK → Prop) : Prop :=
  ∀ (pins : List (Addr × Obj)) (s : Shared) (σ : St) (H : Hp) (xs : List V) (us : List Value) (Q : VK), Inv X pins σ H s → Vals xs us → r xs H Q →
    wpAny (model X.prog X.w) X.A (call f us) (EP X pins σ Q) X.xe s
noncomputable def tOp (r : R2) (ta tb : TE) : TE := fun σ H Q => ta σ H fun x H1 => tb σ H1 fun y H2 => r x y H2 Q
noncomputable def tUn (r : V → Hp → VK → Prop) (ta : TE) : TE := fun σ H Q => ta σ H fun x H1 => r x H1 Q
noncomputable def rI (C : Int → Int → Prop) (g : Int → Int → V) : R2 := fun x y H Q => ∃ i j, x = .int i ∧ y = .int j ∧ C i j ∧ Q (g i j) H
noncomputable def rI0 (g : Int → Int → V) : R2 := fun x y H Q => ∃ i j, x = .int i ∧ y = .int j ∧ Q (g i j) H
noncomputable def rU (g : Int → V) : V → Hp → VK → Prop := fun x H Q => ∃ i, x = .int i ∧ Q (g i) H

section
variable {X : Cx} {a b c : Expr} {ta tb tc : TE} {pos : Pos}

theorem binT (ha : PE X a ta) (hb : PE X b tb) {pins : List (Addr × Obj)} {s : Shared} {σ : St} {H : Hp} {R : V → V → Hp → Prop} (I : Inv X pins σ H s)
    (h : ta σ H fun x H1 => tb σ H1 fun y H2 => R x y H2) {Q : Value → Shared → Prop} {f : Value → Value → Sem Value}
    (hf : ∀ v u s2 x y H2, Inv X pins σ H2 s2 → RelV x v → RelV y u → R x y H2 → wpAny (model X.prog X.w) X.A (f v u) Q X.xe s2) :
    wpAny (model X.prog X.w) X.A (eval a X.env) (fun v s₁ => wpAny (model X.prog X.w) X.A (eval b X.env) (fun u s₂ => wpAny (model X.prog X.w) X.A (f v u) Q X.xe s₂) X.xe s₁) X.xe s := by
  refine thn (ha pins s σ H _ I h) fun v s1 ⟨x, H1, I1, r1, q1⟩ => ?_
  refine thn (hb pins s1 σ H1 _ I1 q1) fun u s2 ⟨y, H2, I2, r2, q2⟩ => ?_
  exact hf v u s2 x y H2 I2 r1 r2 q2

theorem pe_op {op : Operator} {r : R2} (ho : OpR X (binaryOp op) r) (ha : PE X a ta) (hb : PE X b tb) : PE X (.BinOp a op b pos) (tOp r ta tb) := by
  intro pins s σ H Q I h
  exact wpAny_BinOp (binT ha hb I h fun v u s2 x y H2 I2 rx ry q => ho pins s2 σ H2 x y v u Q I2 rx ry q)
theorem pe_un {op : UnaryOp} {r : V → Hp → VK → Prop} (ho : UnR X (unaryOp op) r) (ha : PE X a ta) : PE X (.UnaryOp op a pos) (tUn r ta) := by
  intro pins s σ H Q I h
  exact UnaryOp_ (thn (ha pins s σ H _ I h) fun v s1 ⟨x, H1, I1, r1, q1⟩ => ho pins s1 σ H1 x v Q I1 r1 q1)
theorem opI {f : Value → Value → Sem Value} {C : Int → Int → Prop} {g : Int → Int → Int}
    (rule : ∀ (i j : Int) (t u : Tok) (s : Shared) (Q : Value → Shared → Prop) (E : Value → Shared → Prop), C i j → Q (.int (g i j) s.toks) { s with toks := s.toks + 1 } → wpAny (model X.prog X.w) X.A (f (.int i t) (.int j u)) Q E s) :
    OpR X f (rI C fun i j => .int (g i j)) := by
  intro pins s σ H x y v u Q I rx ry h
  obtain ⟨i, j, rfl, rfl, hc, q⟩ := h
  obtain ⟨t, rfl⟩ := rx
  obtain ⟨t', rfl⟩ := ry
  exact rule i j t t' s _ _ hc ⟨.int (g i j), H, I.tok _, ⟨_, rfl⟩, q⟩
theorem opI0 {f : Value → Value → Sem Value} {g : Int → Int → Int}
    (rule : ∀ (i j : Int) (t u : Tok) (s : Shared) (Q : Value → Shared → Prop) (E : Value → Shared → Prop), Q (.int (g i j) s.toks) { s with toks := s.toks + 1 } → wpAny (model X.prog X.w) X.A (f (.int i t) (.int j u)) Q E s) :
    OpR X f (rI0 fun i j => .int (g i j)) := by
  intro pins s σ H x y v u Q I rx ry h
  obtain ⟨i, j, rfl, rfl, q⟩ := h
  obtain ⟨t, rfl⟩ := rx
  obtain ⟨t', rfl⟩ := ry
  exact rule i j t t' s _ _ ⟨.int (g i j), H, I.tok _, ⟨_, rfl⟩, q⟩
theorem opB0 {f : Value → Value → Sem Value} {g : Int → Int → Bool}
    (rule : ∀ (i j : Int) (t u : Tok) (s : Shared) (Q : Value → Shared → Prop) (E : Value → Shared → Prop), Q (.bool (g i j)) s → wpAny (model X.prog X.w) X.A (f (.int i t) (.int j u)) Q E s) :
    OpR X f (rI0 fun i j => .bl (g i j)) := by
  intro pins s σ H x y v u Q I rx ry h
  obtain ⟨i, j, rfl, rfl, q⟩ := h
  obtain ⟨t, rfl⟩ := rx
  obtain ⟨t', rfl⟩ := ry
  exact rule i j t t' s _ _ ⟨.bl (g i j), H, I, rfl, q⟩

noncomputable def CPow (i j : Int) : Prop := 0 ≤ j ∧ j ≤ 1000000 ∧ i.natAbs < 2 ^ 64
noncomputable def CMul (i j : Int) : Prop := (-(2 ^ 64) < i ∧ i < 2 ^ 64) ∨ (-(2 ^ 64) < j ∧ j < 2 ^ 64)
theorem CMul.ok {i j : Int} (h : CMul i j) : IntMulOk i j := by
  rcases h with ⟨h1, h2⟩ | ⟨h1, h2⟩
  · exact .of_left (intBits_le_64 h1 h2)
  · exact .of_right (intBits_le_64 h1 h2)
theorem two_pow_nn (k : Nat) : (0 : Int) ≤ 2 ^ k := by
  rw [two_pow_cast]
  exact Int.natCast_nonneg _

theorem op_add : OpR X (binaryOp .Add) (rI0 fun i j => .int (i + j)) := opI0 fun _ _ _ _ _ _ _ q => add_int q
theorem op_sub : OpR X (binaryOp .Sub) (rI0 fun i j => .int (i - j)) := opI0 fun _ _ _ _ _ _ _ q => sub_int q
theorem op_mod : OpR X (binaryOp .Mod) (rI (fun _ j => 0 < j) fun i j => .int (i % j)) := opI fun i j _ _ _ _ _ hc q => by
  have h1 : (0 : Int) < j := hc
  exact mod_int' (by omega) (by rw [Int.fmod_eq_emod_of_nonneg i (by omega)]; exact q)
theorem op_pow : OpR X (binaryOp .Pow) (rI CPow fun i j => .int (i ^ j.toNat)) := opI fun _ _ _ _ _ _ _ hc q => pow_int_small hc.1 hc.2.1 hc.2.2 q
theorem op_shr : OpR X (binaryOp .RShift) (rI (fun _ j => 0 ≤ j) fun i j => .int (i / 2 ^ j.toNat)) := opI fun i j _ _ _ _ _ hc q =>
  rshift_int hc (by rw [Int.fdiv_eq_ediv_of_nonneg i (two_pow_nn _)]; exact q)
theorem unI {f : Value → Sem Value} {g : Int → Int}
    (rule : ∀ (i : Int) (t : Tok) (s : Shared) (Q : Value → Shared → Prop) (E : Value → Shared → Prop), Q (.int (g i) s.toks) { s with toks := s.toks + 1 } → wpAny (model X.prog X.w) X.A (f (.int i t)) Q E s) :
    UnR X f (rU fun i => .int (g i)) := by
  intro pins s σ H x v Q I rx h
  obtain ⟨i, rfl, q⟩ := h
  obtain ⟨t, rfl⟩ := rx
  exact rule i t s _ _ ⟨.int (g i), H, I.tok _, ⟨_, rfl⟩, q⟩
theorem un_neg : UnR X (unaryOp .USub) (rU fun i => .int (-i)) := unI fun _ _ _ _ _ q => neg_int q
end

noncomputable def scal : V → V → Bool
  | .non, .non => true | .non, .int _ => true | .int _, .non => true | .non, .bl _ => true | .bl _, .non => true | .non, .str _ => true | .str _, .non => true
  | .int _, .int _ => true | .bl _, .bl _ => true | .str _, .str _ => true | .byt _, .byt _ => true
  | .int _, .str _ => true | .str _, .int _ => true | .bl _, .str _ => true | .str _, .bl _ => true
  | _, _ => false
noncomputable def rEq : R2 := fun x y H Q => scal x y = true ∧ Q (.bl (decide (x = y))) H
noncomputable def rNe : R2 := fun x y H Q => scal x y = true ∧ Q (.bl (!decide (x = y))) H

theorem dec_int {i j : Int} : decide (V.int i = V.int j) = (i == j) := by
  rw [Bool.eq_iff_iff]
  simp
theorem dec_bl {i j : Bool} : decide (V.bl i = V.bl j) = (i == j) := by
  rw [Bool.eq_iff_iff]
  simp
theorem dec_str {i j : Str} : decide (V.str i = V.str j) = (i == j) := by
  rw [Bool.eq_iff_iff]
  simp
theorem dec_byt {i j : Array UInt8} : decide (V.byt i = V.byt j) = (i.toList == j.toList) := by
  rw [Bool.eq_iff_iff]
  cases i
  cases j
  simp

section
variable {X : Cx} {a b c : Expr} {ta tb tc : TE} {pos : Pos}
theorem fin_bl {pins : List (Addr × Obj)} {σ : St} {H : Hp} {s : Shared} {Q : VK} {k k' : Bool} (I : Inv X pins σ H s) (q : Q (.bl k) H) (e : k = k') : EP X pins σ Q (.bool k') s := by
  subst e
  exact ⟨.bl k, H, I, rfl, q⟩
theorem op_eq : OpR X (compareOp .Eq) rEq := by
  intro pins s σ H x y v u Q I rx ry h
  obtain ⟨hs, q⟩ := h
  cases x with
  | non =>
    cases rx
    cases y with
    | non => cases ry; exact PySem.EqNone.eq_none_none (fin_bl I q (by simp))
    | bl j => cases ry; exact PySem.EqNone.eq_none_bool (fin_bl I q (by simp))
    | int j => obtain ⟨t', rfl⟩ := ry; exact PySem.EqNone.eq_none_int (fin_bl I q (by simp))
    | str j => obtain ⟨t', rfl⟩ := ry; exact PySem.EqNone.eq_none_str (fin_bl I q (by simp))
    | _ => exact absurd (show false = true from hs) Bool.false_ne_true
  | bl i =>
    cases rx
    cases y with
    | non => cases ry; exact PySem.EqNone.eq_bool_none (fin_bl I q (by simp))
    | bl j => cases ry; exact eq_bool (fin_bl I q dec_bl)
    | str j => obtain ⟨t', rfl⟩ := ry; exact PySem.EqMixed.eq_bool_str (fin_bl I q (by simp))
    | _ => exact absurd (show false = true from hs) Bool.false_ne_true
  | int i =>
    obtain ⟨t, rfl⟩ := rx
    cases y with
    | non => cases ry; exact PySem.EqNone.eq_int_none (fin_bl I q (by simp))
    | int j => obtain ⟨t', rfl⟩ := ry; exact eq_int (fin_bl I q dec_int)
    | str j => obtain ⟨t', rfl⟩ := ry; exact PySem.EqMixed.eq_int_str (fin_bl I q (by simp))
    | _ => exact absurd (show false = true from hs) Bool.false_ne_true
  | str i =>
    obtain ⟨t, rfl⟩ := rx
    cases y with
    | non => cases ry; exact PySem.EqNone.eq_str_none (fin_bl I q (by simp))
    | bl j => cases ry; exact PySem.EqMixed.eq_str_bool (fin_bl I q (by simp))
    | int j => obtain ⟨t', rfl⟩ := ry; exact PySem.EqMixed.eq_str_int (fin_bl I q (by simp))
    | str j => obtain ⟨t', rfl⟩ := ry; exact eq_str (fin_bl I q dec_str)
    | _ => exact absurd (show false = true from hs) Bool.false_ne_true
  | byt i =>
    obtain ⟨t, rfl⟩ := rx
    cases y with
    | byt j => obtain ⟨t', rfl⟩ := ry; exact PySem.W.eq_bytes (fin_bl I q dec_byt)
    | _ => exact absurd (show false = true from hs) Bool.false_ne_true
  | _ => cases y <;> exact absurd (show false = true from hs) Bool.false_ne_true
theorem op_ne : OpR X (compareOp .NotEq) rNe := by
  intro pins s σ H x y v u Q I rx ry h
  obtain ⟨hs, q⟩ := h
  cases x with
  | non =>
    cases rx
    cases y with
    | non => cases ry; exact PySem.EqNone.ne_none_none (fin_bl I q (by simp))
    | bl j => cases ry; exact PySem.EqNone.ne_none_bool (fin_bl I q (by simp))
    | int j => obtain ⟨t', rfl⟩ := ry; exact PySem.EqNone.ne_none_int (fin_bl I q (by simp))
    | str j => obtain ⟨t', rfl⟩ := ry; exact PySem.EqNone.ne_none_str (fin_bl I q (by simp))
    | _ => exact absurd (show false = true from hs) Bool.false_ne_true
  | bl i =>
    cases rx
    cases y with
    | non => cases ry; exact PySem.EqNone.ne_bool_none (fin_bl I q (by simp))
    | bl j => cases ry; exact ne_bool (fin_bl I q (congrArg not dec_bl))
    | str j => obtain ⟨t', rfl⟩ := ry; exact PySem.EqMixed.ne_bool_str (fin_bl I q (by simp))
    | _ => exact absurd (show false = true from hs) Bool.false_ne_true
  | int i =>
    obtain ⟨t, rfl⟩ := rx
    cases y with
    | non => cases ry; exact PySem.EqNone.ne_int_none (fin_bl I q (by simp))
    | int j => obtain ⟨t', rfl⟩ := ry; exact ne_int (fin_bl I q (congrArg not dec_int))
    | str j => obtain ⟨t', rfl⟩ := ry; exact PySem.EqMixed.ne_int_str (fin_bl I q (by simp))
    | _ => exact absurd (show false = true from hs) Bool.false_ne_true
  | str i =>
    obtain ⟨t, rfl⟩ := rx
    cases y with
    | non => cases ry; exact PySem.EqNone.ne_str_none (fin_bl I q (by simp))
    | bl j => cases ry; exact PySem.EqMixed.ne_str_bool (fin_bl I q (by simp))
    | int j => obtain ⟨t', rfl⟩ := ry; exact PySem.EqMixed.ne_str_int (fin_bl I q (by simp))
    | str j => obtain ⟨t', rfl⟩ := ry; exact ne_str (fin_bl I q (congrArg not dec_str))
    | _ => exact absurd (show false = true from hs) Bool.false_ne_true
  | byt i =>
    obtain ⟨t, rfl⟩ := rx
    cases y with
    | byt j => obtain ⟨t', rfl⟩ := ry; exact PySem.W.ne_bytes (fin_bl I q (congrArg not dec_byt))
    | _ => exact absurd (show false = true from hs) Bool.false_ne_true
  | _ => cases y <;> exact absurd (show false = true from hs) Bool.false_ne_true

theorem op_lt : OpR X (compareOp .Lt) (rI0 fun i j => .bl (decide (i < j))) := opB0 fun _ _ _ _ _ _ _ q => lt_int q
theorem op_le : OpR X (compareOp .LtE) (rI0 fun i j => .bl (decide (i ≤ j))) := opB0 fun _ _ _ _ _ _ _ q => le_int q
theorem op_gt : OpR X (compareOp .Gt) (rI0 fun i j => .bl (decide (j < i))) := opB0 fun _ _ _ _ _ _ _ q => gt_int q
theorem op_ge : OpR X (compareOp .GtE) (rI0 fun i j => .bl (decide (j ≤ i))) := opB0 fun _ _ _ _ _ _ _ q => ge_int q
theorem op_isN : OpR X (compareOp .Is) (fun x y H Q => y = .non ∧ Q (.bl (decide (x = .non))) H) := by
  intro pins s σ H x y v u Q I rx ry h
  obtain ⟨rfl, q⟩ := h
  cases ry
  refine is_none_gen (fin_bl I q ?_)
  cases x <;> first
    | (cases rx; rfl)
    | (obtain ⟨t, rfl⟩ := rx; rfl)
theorem op_notN : OpR X (compareOp .IsNot) (fun x y H Q => y = .non ∧ Q (.bl (!decide (x = .non))) H) := by
  intro pins s σ H x y v u Q I rx ry h
  obtain ⟨rfl, q⟩ := h
  cases ry
  refine isnot_none_gen (fin_bl I q ?_)
  cases x <;> first
    | (cases rx; rfl)
    | (obtain ⟨t, rfl⟩ := rx; rfl)

theorem nomark (b : Expr) {op : CmpOp} (h : autoParam (op ≠ .In) au1_._auto_1) (h2 : autoParam (op ≠ .NotIn) au1_._auto_1) : behindInMarks op b = false := by
  have e1 : (op == CmpOp.In) = false := by cases op <;> first | rfl | exact absurd rfl h
  have e2 : (op == CmpOp.NotIn) = false := by cases op <;> first | rfl | exact absurd rfl h2
  cases b <;> simp [behindInMarks, e1, e2]
theorem pe_cmpR {op : CmpOp} {r : R2} (ho : OpR X (compareOp op) r) (ha : PE X a ta) (hb : PE X b tb) (hm : behindInMarks op b = false) : PE X (.Compare a [op] [b] pos) (tOp r ta tb) := by
  intro pins s σ H Q I h
  exact wpAny_Compare1 (binT ha hb I h fun v u s2 x y H2 I2 rx ry q => ho pins s2 σ H2 x y v u Q I2 rx ry q) hm
noncomputable def tTest (t : TE) : TT := fun σ H Q => t σ H fun x H' => ∃ k, x = .bl k ∧ Q k H'
theorem pt_cmpR {op : CmpOp} {r : R2} (ho : OpR X (compareOp op) r) (ha : PE X a ta) (hb : PE X b tb) (hm : behindInMarks op b = false) : PT X (.Compare a [op] [b] pos) (tTest (tOp r ta tb)) := by
  intro pins s σ H Q I h
  refine wpAny_isTrue_Compare1 (thn (ha pins s σ H _ I h) fun v s1 ⟨x, H1, I1, r1, q1⟩ => thn (hb pins s1 σ H1 _ I1 q1) fun u s2 ⟨y, H2, I2, r2, q2⟩ =>
    thn (ho pins s2 σ H2 x y v u _ I2 r1 r2 q2) fun c s3 ⟨z, H3, I3, r3, k, e, q3⟩ => ?_) hm
  subst e
  cases r3
  exact wpAny_truthy_bool ⟨H3, I3, q3⟩
noncomputable def tChain (r r' : R2) (ta tb tc : TE) : TE := fun σ H Q => ta σ H fun x H1 => tb σ H1 fun y H2 => r x y H2 fun z H3 => ∃ k, z = .bl k ∧
  (if k = true then tc σ H3 fun w' H4 => r' y w' H4 Q else Q (.bl false) H3)
theorem pt_chain {op op' : CmpOp} {r r' : R2} (ho : OpR X (compareOp op) r) (ho' : OpR X (compareOp op') r') (ha : PE X a ta) (hb : PE X b tb) (hc : PE X c tc)
    (hm : autoParam (lastMarks [op, op'] [b, c] = false) au3_._auto_1) : PT X (.Compare a [op, op'] [b, c] pos) (tTest (tChain r r' ta tb tc)) := by
  intro pins s σ H Q I h
  refine isTrue_chain (thn (ha pins s σ H _ I h) fun v s1 ⟨x, H1, I1, r1, q1⟩ => test_link (thn (hb pins s1 σ H1 _ I1 q1) fun u s2 ⟨y, H2, I2, r2, q2⟩ =>
    thn (ho pins s2 σ H2 x y v u _ I2 r1 r2 q2) fun d s3 ⟨z, H3, I3, r3, k, e, q3⟩ => ?_)) hm
  subst e
  cases r3
  refine wpAny_truthy_bool ?_
  cases k with
  | false =>
    obtain ⟨k', e', q'⟩ := q3
    cases e'
    exact ite_ff ⟨H3, I3, q'⟩
  | true =>
    refine ite_tt (test_last (thn (hc pins s3 σ H3 _ I3 q3) fun w' s4 ⟨z', H4, I4, r4, q4⟩ => thn (ho' pins s4 σ H4 y z' u w' _ I4 r2 r4 q4) fun d' s5 ⟨z2, H5, I5, r5, k2, e2, q5⟩ => ?_))
    subst e2
    cases r5
    exact wpAny_truthy_bool ⟨H5, I5, q5⟩

theorem line63 : (sizeLine : Nat) < 2 ^ 63 := by rw [sizeLine_eq]; decide
theorem vals1 {x : V} {us : List Value} (r : Vals [x] us) : ∃ u, us = [u] ∧ RelV x u := by
  cases r with
  | cons r1 r2 => cases r2; exact ⟨_, rfl, r1⟩
theorem vals2 {x y : V} {us : List Value} (r : Vals [x, y] us) : ∃ u w', us = [u, w'] ∧ RelV x u ∧ RelV y w' := by
  cases r with
  | cons r1 r2 =>
    cases r2 with
    | cons r3 r4 => cases r4; exact ⟨_, _, rfl, r1, r3⟩
theorem call_abs : CallR X (.builtin "abs") (fun xs H Q => ∃ i, xs = [.int i] ∧ Q (.int (if i < 0 then -i else i)) H) := by
  intro pins s σ H xs us Q I r h
  obtain ⟨i, rfl, q⟩ := h
  obtain ⟨u, rfl, t, rfl⟩ := vals1 r
  exact call_abs_int fun u tk => ⟨.int (if i < 0 then -i else i), H, I.tok _, ⟨_, rfl⟩, q⟩
theorem call_max2 (hc : X.calm = true) : CallR X (.builtin "max") (fun xs H Q => ∃ i j, xs = [.int i, .int j] ∧ Q (.int (if j > i then j else i)) H) := by
  intro pins s σ H xs us Q I r h
  obtain ⟨i, j, rfl, q⟩ := h
  obtain ⟨u, w', rfl, ⟨t, rfl⟩, ⟨t', rfl⟩⟩ := vals2 r
  refine max_two_ints (I.ok.hd hc) fun h' tk k => ⟨_, H, I.kept k, ?_, q⟩
  by_cases hj : j > i
  · rw [if_pos hj, if_pos hj]; exact ⟨_, rfl⟩
  · rw [if_neg hj, if_neg hj]; exact ⟨_, rfl⟩
theorem call_min2 (hc : X.calm = true) : CallR X (.builtin "min") (fun xs H Q => ∃ i j, xs = [.int i, .int j] ∧ Q (.int (if j < i then j else i)) H) := by
  intro pins s σ H xs us Q I r h
  obtain ⟨i, j, rfl, q⟩ := h
  obtain ⟨u, w', rfl, ⟨t, rfl⟩, ⟨t', rfl⟩⟩ := vals2 r
  refine min_two_ints (I.ok.hd hc) fun h' tk k => ⟨_, H, I.kept k, ?_, q⟩
  by_cases hj : j < i
  · rw [if_pos hj, if_pos hj]; exact ⟨_, rfl⟩
  · rw [if_neg hj, if_neg hj]; exact ⟨_, rfl⟩
end
end L2

namespace L2
open PySem PySem.Spec PyProof.Rows

structure ObjM (h : Heap) (x dx C : Addr) (mA : Str → Option Value) : Prop where
  obj : h.get? x = some (PySem.W.instObj C dx)
  ns : h.Ns1 dx mA
  ne : dx ≠ x

theorem lookIn_ns {h : Heap} {dx : Addr} {mA : Str → Option Value} (n : h.Ns1 dx mA) : ∃ od, h.get? dx = some od ∧ ∀ name, PySem.W.lookIn name od = some (mA name) := by
  obtain ⟨o, es, ep, ho, hd, hk, _, hm⟩ := n
  refine ⟨o, ho, fun name => ?_⟩
  have e := hm name
  unfold nsFind findBy at e
  rw [← Array.find?_toList] at e
  unfold PySem.W.lookIn
  rw [hd]
  dsimp only
  split
  · rename_i y q
    rw [q] at e
    exact congrArg some e
  · rename_i q
    rw [q] at e
    have a : es.toList.any (·.refKey) = false := by
      rw [List.any_eq_false]
      intro y hy
      obtain ⟨z, t, hkey⟩ := hk y (Array.mem_toList_iff.mp hy)
      simp [DictEntry.refKey, hkey]
    have a' : ¬ es.toList.any (·.refKey) = true := by rw [a]; exact Bool.false_ne_true
    rw [if_neg a']
    exact congrArg some e

theorem ObjM.look {h : Heap} {x dx C : Addr} {mA : Str → Option Value} (I : ObjM h x dx C mA) : ∃ od, PySem.W.InstAt h x (PySem.W.instObj C dx) C (some od) ∧ ∀ name, PySem.W.lookIn name od = some (mA name) :=
  let ⟨od, ho, hl⟩ := lookIn_ns I.ns
  ⟨od, ⟨I.obj, rfl, rfl, ho⟩, hl⟩

section
variable {prog : Program} {w : World} {A : Around} {E : Value → Shared → Prop} {s : Shared} {K : PySem.W.Frag} {x dx C f : Addr} {mA : Str → Option Value} {name : Str} {v : Value}

theorem get_map {expr : Bool} {Q : Value → Shared → Prop} (X : K.In s.heap) (I : ObjM s.heap x dx C mA) (hg : PySem.W.plainGet K C name = true) (hh : PySem.W.hasDictIn K C = true)
    (ha : PySem.W.findIn K (.ref C) name = some none) (hv : mA name = some v) (hv' : PySem.W.handedIn v = true) (h : Q v { s with toks := s.toks + 1 }) :
    wpAny (model prog w) A (getAttr (.ref x) name expr) Q E s := by
  obtain ⟨od, J, hl⟩ := I.look
  exact PySem.W.get_value X J (PySem.W.plainGet_of hg).1 (PySem.W.findObj_own hh ha rfl (by rw [hl, hv])) hv' h

theorem get_meth {pl : Sem Bool} {Q : Value × List Value → Shared → Prop} (X : K.In s.heap) (I : ObjM s.heap x dx C mA) (hg : PySem.W.plainGet K C name = true)
    (hf : PySem.W.findIn K (.ref C) name = some (some (.ref f))) (ht : PySem.W.isFn K (.ref f) = true) (hv : mA name = none) (h : Q (.ref f, [.ref x]) s) :
    wpAny (model prog w) A (getMethod (.ref x) name pl) Q E s := by
  obtain ⟨od, J, hl⟩ := I.look
  exact PySem.W.method_fn X J (PySem.W.plainGet_of hg).1 (PySem.W.plainGet_of hg).2 hf (beq_iff_eq.mp ht) (by show (PySem.W.lookIn name od).map (·.isSome) = some false; rw [hl, hv]; rfl) h

theorem set_map {ns : List Str} {Q : Unit → Shared → Prop} (X : K.In s.heap) (I : ObjM s.heap x dx C mA)
    (hs : PySem.W.findIn K (.ref C) "__setattr__" = some (some (.builtin "object.__setattr__"))) (hp : PySem.W.plainOver K C = true) (ht : PySem.W.takerIn K C name = some none) (hh : PySem.W.hasDictIn K C = true)
    (hw : PySem.Within mA ns) (hsz : ns.length ≤ sizeLine)
    (h : ∀ h', ObjM h' x dx C (fun y => if y = name then some v else mA y) → Heap.SameBut dx s.heap h' → Q () { s with heap := h', toks := s.toks + 2 }) :
    wpAny (model prog w) A (setAttr (.ref x) name v) Q E s := by
  obtain ⟨od, J, hl⟩ := I.look
  refine PySem.W.set_plain X J hs (PySem.W.osa_open (s := { s with toks := s.toks + 1 }) (r := none) X J hp ht fun b => ?_)
  obtain ⟨cd, hc, hd'⟩ := PySem.W.any_some hh
  have hx : s.heap.get? x = some ⟨.ref C, some dx, .plain, #[]⟩ := I.obj
  refine wpAny_bind (wpAny_pure (wpAny_bind (wpAny_bind (wpAny_loadPart hx (wpAny_bind (PySem.W.Looks.here (s := { s with toks := s.toks + 1 }) (PySem.W.looks_clsIn X hc) ?_))))))
  rw [hd']
  refine wpAny_pure (a := some dx) (wpAny_bind (wpAny_pure (wpAny_bind ?_)))
  refine wpAny_nsSet1 (s := { s with toks := s.toks + 1 }) I.ns fun h' hn2 hs2 => ?_
  obtain ⟨oD, esD, epD, hoD, hdD, hcD⟩ := hn2.count (PySem.Within.cons name v hw)
  refine wpAny_bind (wpAny_lookBehind hoD (by rw [hdD]; exact pastItsLine_dict (Nat.le_trans hcD (by rw [List.length_cons]; omega))) ?_)
  exact wpAny_pure (h _ ⟨(hs2.2 _ (Ne.symm I.ne)).trans I.obj, hn2, I.ne⟩ hs2)

theorem make_map {R : Result → Shared → Prop} {vs : List Value} {kw : List (Str × Value)} (X : K.In s.heap) (hm : PySem.W.makesIn K C = true)
    (hi : PySem.W.findIn K (.ref C) "__init__" = some (some (.ref f))) (hf : PySem.W.typeIn K (.ref f) = some (.type "function"))
    (h : codeAny (model prog w) (A.under (.builtin "type.__call__" ⟨.ref C :: vs, kw⟩)) (.call (.ref f) ⟨.ref (s.heap.objs.size + 1) :: vs, kw⟩) (PySem.W.InitBack (s.heap.objs.size + 1) R)
      { s with heap := (s.heap.push PySem.W.emptyDict).push (PySem.W.instObj C s.heap.objs.size) }) :
    codeAny (model prog w) A (.call (.ref C) ⟨vs, kw⟩) R s := by
  obtain ⟨hh, g, d, t, os⟩ := s
  exact PySem.W.make_core (PySem.W.makes_of X hm) (PySem.W.looks_findIn X hi) (fun self => PySem.W.bind_fn X self hf) (.inl rfl) h
end

noncomputable def putF (f : Str) (v : V) : List (Str × V) → List (Str × V)
  | [] => [(f, v)]
  | (g, x) :: r => if g = f then (g, v) :: r else (g, x) :: putF f v r
theorem lookup_putF (f g : Str) (v : V) : ∀ fs : List (Str × V), (putF f v fs).lookup g = if g = f then some v else fs.lookup g
  | [] => by
    show List.lookup g [(f, v)] = _
    by_cases h : g = f
    · have hb : (g == f) = true := beq_iff_eq.mpr h
      simp only [List.lookup, hb, if_pos h]
    · have hb : (g == f) = false := beq_eq_false_iff_ne.mpr h
      simp only [List.lookup, hb, if_neg h]
  | (k, x) :: r => by
    have ih := lookup_putF f g v r
    rw [show putF f v ((k, x) :: r) = (if k = f then (k, v) :: r else (k, x) :: putF f v r) from rfl]
    by_cases hk : k = f
    · rw [if_pos hk]
      by_cases h : g = k
      · have hb : (g == k) = true := beq_iff_eq.mpr h
        simp only [List.lookup, hb, if_pos (h.trans hk)]
      · have hb : (g == k) = false := beq_eq_false_iff_ne.mpr h
        simp only [List.lookup, hb, if_neg (fun e : g = f => h (e.trans hk.symm))]
    · rw [if_neg hk]
      by_cases h : g = k
      · have hb : (g == k) = true := beq_iff_eq.mpr h
        simp only [List.lookup, hb, if_neg (fun e : g = f => hk (h.symm.trans e))]
      · have hb : (g == k) = false := beq_eq_false_iff_ne.mpr h
        simp only [List.lookup, hb]
        exact ih
theorem keys_putF (f : Str) (v : V) : ∀ fs : List (Str × V), f ∈ (putF f v fs).map (·.1) ∧ ∀ g, g ∈ fs.map (·.1) → g ∈ (putF f v fs).map (·.1)
  | [] => ⟨by simp [putF], fun g h => by simp at h⟩
  | (k, x) :: r => by
    obtain ⟨i1, i2⟩ := keys_putF f v r
    rw [show putF f v ((k, x) :: r) = (if k = f then (k, v) :: r else (k, x) :: putF f v r) from rfl]
    by_cases hk : k = f
    · rw [if_pos hk]
      subst hk
      exact ⟨by simp, fun g h => by simpa using h⟩
    · rw [if_neg hk]
      refine ⟨?_, fun g h => ?_⟩
      · rw [List.map_cons]
        exact List.mem_cons_of_mem _ i1
      · rw [List.map_cons] at h ⊢
        rcases List.mem_cons.mp h with e | e
        · exact List.mem_cons.mpr (.inl e)
        · exact List.mem_cons_of_mem _ (i2 g e)
theorem length_putF (f : Str) (v : V) : ∀ fs : List (Str × V), (putF f v fs).length ≤ fs.length + 1
  | [] => by simp [putF]
  | (k, x) :: r => by
    have ih := length_putF f v r
    rw [show putF f v ((k, x) :: r) = (if k = f then (k, v) :: r else (k, x) :: putF f v r) from rfl]
    by_cases hk : k = f
    · rw [if_pos hk, List.length_cons, List.length_cons]; omega
    · rw [if_neg hk, List.length_cons, List.length_cons]; omega

theorem RelO.some_of {v : V} {o : Option Value} (r : RelO (some v) o) : ∃ u, o = some u ∧ RelV v u := by
  cases o with
  | none => exact (show False from r).elim
  | some u => exact ⟨u, rfl, r⟩
theorem RelO.none_of {o : Option Value} (r : RelO none o) : o = none := by
  cases o with
  | none => rfl
  | some u => exact (show False from r).elim
theorem handed_of {v : V} {u : Value} (r : RelV v u) : PySem.W.handedIn u = true := by
  cases v with
  | non => cases (show u = Value.none from r); rfl
  | bl b => cases (show u = Value.bool b from r); rfl
  | int i => obtain ⟨t, e⟩ := (show ∃ t, u = Value.int i t from r); cases e; rfl
  | str x => obtain ⟨t, e⟩ := (show ∃ t, u = Value.str x t from r); cases e; rfl
  | byt b => obtain ⟨t, e⟩ := (show ∃ t, u = Value.bytes b t from r); cases e; rfl
  | flt b => obtain ⟨t, e⟩ := (show ∃ t, u = Value.float b t from r); cases e; rfl
  | ref a => cases (show u = Value.ref a from r); rfl
  | ty n => cases (show u = Value.type n from r); rfl

section
variable {P : Program} {w : World} {H H' : Hp} {h h' : Heap} {a C dx : Addr} {fs fs' : List (Str × V)}
theorem ins_get (hok : HOk P w H h) (e : H a = some (.ins C dx fs)) : ∃ mA, ObjM h a dx C mA ∧ (∀ f, RelO (fs.lookup f) (mA f)) ∧ PySem.Within mA (fs.map (·.1)) ∧ fs.length ≤ 1000 ∧ H dx = some (.own a) := by
  obtain ⟨d, z, ne, ob, mA, n, r, q⟩ := (show ObjOk P w H h a (.ins C dx fs) from hok a _ e)
  exact ⟨mA, ⟨ob, n, ne⟩, r, q, z, d⟩
end

structure Cls (K : PySem.W.Frag) (C : Addr) : Prop where
  pg : PySem.W.plainGet K C Str.empty = true
  hd : PySem.W.hasDictIn K C = true
  po : PySem.W.plainOver K C = true
  sa : PySem.W.findIn K (.ref C) "__setattr__" = some (some (.builtin "object.__setattr__"))
theorem Cls.get {K : PySem.W.Frag} {C : Addr} (c : Cls K C) (f : Str) : PySem.W.plainGet K C f = true := c.pg
noncomputable def NoAttr (K : PySem.W.Frag) (C : Addr) (f : Str) : Prop := PySem.W.findIn K (.ref C) f = some none
theorem NoAttr.taker {K : PySem.W.Frag} {C : Addr} {f : Str} (n : NoAttr K C f) : PySem.W.takerIn K C f = some none := by
  unfold PySem.W.takerIn
  rw [show PySem.W.findIn K (.ref C) f = some none from n]
  rfl
structure Meth (K : PySem.W.Frag) (C : Addr) (m : Str) (f : Addr) : Prop where
  at_ : PySem.W.findIn K (.ref C) m = some (some (.ref f))
  fn : PySem.W.isFn K (.ref f) = true
  kp : PySem.W.keepIn K (.ref f) = true

section
variable {X : Cx} {pins : List (Addr × Obj)} {σ : St} {H : Hp} {s : Shared} {a C dx : Addr} {fs : List (Str × V)} {f : Str} {v : V} {A : Around} {E : Value → Shared → Prop}

theorem getattr_ok {b : Bool} {Q : Value → Shared → Prop} (I : Inv X pins σ H s) (e : H a = some (.ins C dx fs)) (c : Cls X.K C) (n : NoAttr X.K C f) (l : fs.lookup f = some v)
    (h : ∀ u s', Inv X pins σ H s' → RelV v u → Q u s') : wpAny (model X.prog X.w) A (getAttr (.ref a) f b) Q E s := by
  obtain ⟨mA, O, r, _, _, _⟩ := ins_get I.hok e
  obtain ⟨u, hu, ru⟩ := RelO.some_of (v := v) (o := mA f) (by rw [← l]; exact r f)
  exact get_map I.kIn O (c.get f) c.hd n hu (handed_of ru) (h u _ (I.tok _) ru)

theorem getmeth_ok {m : Str} {g : Addr} {pl : Sem Bool} {Q : Value × List Value → Shared → Prop} (I : Inv X pins σ H s) (e : H a = some (.ins C dx fs)) (c : Cls X.K C) (k : Meth X.K C m g) (l : fs.lookup m = none)
    (h : Q (.ref g, [.ref a]) s) : wpAny (model X.prog X.w) A (getMethod (.ref a) m pl) Q E s := by
  obtain ⟨mA, O, r, _, _, _⟩ := ins_get I.hok e
  have hn : mA m = none := RelO.none_of (by rw [← l]; exact r m)
  exact get_meth I.kIn O (c.get m) k.at_ k.fn hn h

theorem setattr_ok {y : V} {u : Value} {Q : Unit → Shared → Prop} (I : Inv X pins σ H s) (e : H a = some (.ins C dx fs)) (c : Cls X.K C) (n : NoAttr X.K C f) (hl : fs.length < 1000) (ry : RelV y u)
    (h : ∀ s', Inv X pins σ (upd H a (.ins C dx (putF f y fs))) s' → Q () s') : wpAny (model X.prog X.w) A (setAttr (.ref a) f u) Q E s := by
  obtain ⟨mA, O, r, wi, _, ho⟩ := ins_get I.hok e
  have hz : (fs.map (·.1)).length ≤ sizeLine := by rw [List.length_map, sizeLine_eq]; omega
  refine set_map I.kIn O c.sa c.po n.taker c.hd wi hz fun h' O' sb => h _ ?_
  have hd : ∃ o, h'.get? dx = some o := let ⟨o, _, _, e', _⟩ := O'.ns; ⟨o, e'⟩
  refine I.write (x := a) (e := dx) (by rw [e]; exact True.intro) (.inr ho) (fun b q hb z => (sb.2 b hb).trans z) hd ?_
  refine ⟨by rw [upd_ne O.ne]; exact ho, ?_, O.ne, O'.obj, _, O'.ns, fun g => ?_, fun g hg => ?_⟩
  · have := length_putF f y fs; omega
  · show RelO ((putF f y fs).lookup g) (if g = f then some u else mA g)
    rw [lookup_putF]
    by_cases q : g = f
    · rw [if_pos q, if_pos q]; exact ry
    · rw [if_neg q, if_neg q]; exact r g
  · by_cases q : g = f
    · rw [q]; exact (keys_putF f y fs).1
    · refine (keys_putF f y fs).2 g (wi g fun z => hg ?_)
      show (if g = f then some u else mA g) = none
      rw [if_neg q]; exact z

theorem Inv.made (I : Inv X pins σ H s) : Inv X pins σ (upd (upd H s.heap.objs.size (.own (s.heap.objs.size + 1))) (s.heap.objs.size + 1) (.ins C s.heap.objs.size []))
    { s with heap := (s.heap.push PySem.W.emptyDict).push (PySem.W.instObj C s.heap.objs.size) } := by
  have e1 : (s.heap.push PySem.W.emptyDict).get? s.heap.objs.size = some PySem.W.emptyDict := Heap.get?_push_size s.heap rfl
  have e2 : ((s.heap.push PySem.W.emptyDict).push (PySem.W.instObj C s.heap.objs.size)).get? (s.heap.objs.size + 1) = some (PySem.W.instObj C s.heap.objs.size) := by
    have := Heap.get?_push_size (s.heap.push PySem.W.emptyDict) (o := PySem.W.instObj C s.heap.objs.size) rfl
    rwa [Heap.size_push] at this
  have e3 : (s.heap.push PySem.W.emptyDict).Ns s.heap.objs.size (fun _ => none) := ⟨PySem.W.emptyDict, #[], _, e1, rfl, (fun e he => absurd he (by simp)), fun _ => rfl⟩
  have I1 := I.laid (a := s.heap.objs.size) (o := .own (s.heap.objs.size + 1)) (h' := s.heap.push PySem.W.emptyDict) (t' := s.toks) (fun b u q => Heap.get?_push_of_some _ q) (Nat.le_refl _) ⟨_, e1⟩
  refine I1.laid (a := s.heap.objs.size + 1) (o := .ins C s.heap.objs.size []) (t' := s.toks) (fun b u q => Heap.get?_push_of_some _ q) (Nat.le_of_eq (Heap.size_push _ _)) ?_
  have ne : s.heap.objs.size ≠ s.heap.objs.size + 1 := Nat.ne_of_lt (Nat.lt_succ_self _)
  refine ⟨by rw [upd_ne ne, upd_same], Nat.zero_le _, ne, e2, fun _ => none, (Heap.Ns1.of_empty e3).at fun o q => Heap.get?_push_of_some _ q, fun _ => True.intro, fun y hy => absurd rfl hy⟩

theorem attr_of {prog : Program} {w : World} {env : Env} {e : Expr} {f : Str} {pos : Pos} {s : Shared} {Q : Value → Shared → Prop} (hb : attributeBase e f env (eval e env) = eval e env)
    (h : wpAny (model prog w) A (eval e env) (fun o s₁ => wpAny (model prog w) A (getAttr o f true) Q E s₁) E s) : wpAny (model prog w) A (eval (.Attribute e f pos) env) Q E s :=
  Attribute_any_ h (by rw [arm_eval_Attribute, hb])
end

noncomputable def tFld (K : PySem.W.Frag) (ta : TE) (f : Str) : TE := fun σ H Q => ta σ H fun x H1 => ∃ a C dx fs v, x = .ref a ∧ H1 a = some (.ins C dx fs) ∧ Cls K C ∧ NoAttr K C f ∧ fs.lookup f = some v ∧ Q v H1
noncomputable def sFld (K : PySem.W.Frag) (ta tv : TE) (f : Str) : TS := fun D σ H => tv σ H fun y H1 => ta σ H1 fun x H2 => ∃ a C dx fs, x = .ref a ∧ H2 a = some (.ins C dx fs) ∧ Cls K C ∧ NoAttr K C f ∧ fs.length < 1000 ∧
  D.nx σ (upd H2 a (.ins C dx (putF f y fs)))
section
variable {X : Cx} {o e value : Expr} {f : Str} {pos pos' tpos : Pos} {ta tv : TE}
theorem pe_fld (he : PE X e ta) (hb : attributeBase e f X.env (eval e X.env) = eval e X.env) : PE X (.Attribute e f pos) (tFld X.K ta f) := by
  intro pins s σ H Q I h
  refine attr_of hb (thn (he pins s σ H _ I h) fun u s1 ⟨x, H1, I1, rx, a, C, dx, fs, v, ex, ea, c, n, l, q⟩ => ?_)
  subst ex
  obtain rfl : u = Value.ref a := rx
  exact getattr_ok I1 ea c n l fun u' s2 I2 ru => ⟨v, H1, I2, ru, q⟩
theorem ps_fld (ha : PE X o ta) (hv : PE X value tv) (hs : swapsWith value (some (.Attribute o f pos')) pos.line X.env = pure false) : PS X (.Assign [.Attribute o f pos'] value pos) (sFld X.K ta tv f) := by
  intro pins s σ H D I h
  refine plainObj_wpAny_Assign_Attribute (thn (hv pins s σ H _ I h) fun u s1 ⟨y, H1, I1, ry, q⟩ => thn (ha pins s1 σ H1 _ I1 q) fun ov s2 ⟨x, H2, I2, rx, a, C, dx, fs, ex, ea, c, n, l, q2⟩ => ?_) hs
  subst ex
  obtain rfl : ov = Value.ref a := rx
  exact setattr_ok I2 ea c n l ry fun s3 I3 => ⟨σ, _, I3, q2⟩
end

section
variable {X : Cx} {pins : List (Addr × Obj)} {σ : St} {H : Hp} {s : Shared} {A : Around} {E : Value → Shared → Prop} {Q : Value → Shared → Prop} {c : Value} {b : Bool}
inductive TyOf (K : PySem.W.Frag) (H : Hp) : V → Value → Prop where
  | non : TyOf K H .non (.type "NoneType")
  | bl (x : Bool) : TyOf K H (.bl x) (.type "bool")
  | int (i : Int) : TyOf K H (.int i) (.type "int")
  | str (x : Str) : TyOf K H (.str x) (.type "str")
  | flt (x : UInt64) : TyOf K H (.flt x) (.type "float")
  | lst {a : Addr} {xs : List V} (e : H a = some (.lst xs)) : TyOf K H (.ref a) (.type "list")
  | frz {a : Addr} {o : Obj} {xs : List V} (e : H a = some (.frz o (.lst xs))) : TyOf K H (.ref a) (.type "list")
  | tup {a : Addr} {xs : List V} (e : H a = some (.tup xs)) : TyOf K H (.ref a) (.type "tuple")
  | dK {a : Addr} {kvs : List (Key × V)} (e : H a = some (.dK kvs)) : TyOf K H (.ref a) (.type "dict")
  | dT {a : Addr} {kvs : List (List Key × V)} (e : H a = some (.dT kvs)) : TyOf K H (.ref a) (.type "dict")
  | ins {a C dx : Addr} {fs : List (Str × V)} (e : H a = some (.ins C dx fs)) (cl : Cls K C) (ha : PySem.W.findIn K (.ref C) "__class__" = some (some (.builtin "object.__class__")))
      (hn : PySem.W.specialIn K (.builtin "object.__class__") "__get__" = some (some (.builtin "getset_descriptor.__get__"))) (htk : PySem.W.takesIn K (.builtin "object.__class__") = some true)
      (hm : PySem.W.mroIn K C (.type "object") = some true) : TyOf K H (.ref a) (.ref C)
theorem isinst_ok {x : V} {u t : Value} (I : Inv X pins σ H s) (rx : RelV x u) (ty : TyOf X.K H x t) (e : PySem.W.kitOne X.K t c = some b) (h : ∀ tk, Q (.bool b) { s with toks := tk }) :
    wpAny (model X.prog X.w) A (call (.builtin "isinstance") [u, c]) Q E s := by
  cases ty with
  | non => cases (show u = Value.none from rx); exact PySem.W.kia_one PySem.W.kitx_none I.kIn True.intro e (fun z => nomatch z) h
  | bl y => cases (show u = Value.bool y from rx); exact PySem.W.kia_one PySem.W.kitx_bool I.kIn True.intro e (fun z => nomatch z) h
  | int i => obtain ⟨t, q⟩ := (show ∃ t, u = Value.int i t from rx); cases q; exact PySem.W.kia_one PySem.W.kitx_int I.kIn True.intro e (fun z => nomatch z) h
  | str y => obtain ⟨t, q⟩ := (show ∃ t, u = Value.str y t from rx); cases q; exact PySem.W.kia_one PySem.W.kitx_str I.kIn True.intro e (fun z => nomatch z) h
  | flt y => obtain ⟨t, q⟩ := (show ∃ t, u = Value.float y t from rx); cases q; exact PySem.W.kia_one PySem.W.kitx_float I.kIn True.intro e (fun z => nomatch z) h
  | @lst a xs ea =>
    cases (show u = Value.ref a from rx)
    obtain ⟨_, _, n, _, h1⟩ := (show ObjOk X.prog X.w H s.heap a (.lst xs) from I.hok a _ ea)
    exact PySem.W.kia_one PySem.W.kitx_list I.kIn ⟨_, h1, rfl⟩ e (fun z => nomatch z) h
  | @frz a ob xs ea =>
    cases (show u = Value.ref a from rx)
    obtain ⟨_, _, _, n, _, h1⟩ := (show ObjOk X.prog X.w H s.heap a (.frz ob (.lst xs)) from I.hok a _ ea)
    exact PySem.W.kia_one PySem.W.kitx_list I.kIn ⟨_, h1, rfl⟩ e (fun z => nomatch z) h
  | @tup a xs ea =>
    cases (show u = Value.ref a from rx)
    obtain ⟨_, _, _, p⟩ := (show ObjOk X.prog X.w H s.heap a (.tup xs) from I.hok a _ ea)
    obtain ⟨o, h1, h2, _⟩ := p
    exact PySem.W.kia_one PySem.W.kitx_tuple I.kIn ⟨o, h1, h2⟩ e (fun z => nomatch z) h
  | @dK a kvs ea =>
    cases (show u = Value.ref a from rx)
    obtain ⟨_, _, vs, _, p⟩ := (show ObjOk X.prog X.w H s.heap a (.dK kvs) from I.hok a _ ea)
    obtain ⟨o, es, ep, h1, h2, _⟩ := p
    exact PySem.W.kia_one PySem.W.kitx_dict I.kIn ⟨o, h1, h2.1⟩ e (fun z => nomatch z) h
  | @dT a kvs ea =>
    cases (show u = Value.ref a from rx)
    obtain ⟨_, _, xs, _, o, es, ep, h1, h2, _⟩ := (show ObjOk X.prog X.w H s.heap a (.dT kvs) from I.hok a _ ea)
    exact PySem.W.kia_one PySem.W.kitx_dict I.kIn ⟨o, h1, h2.1⟩ e (fun z => nomatch z) h
  | @ins a C dx fs ea cl ha hn htk hm =>
    cases (show u = Value.ref a from rx)
    obtain ⟨mA, O, _⟩ := ins_get I.hok ea
    obtain ⟨od, J, _⟩ := O.look
    exact PySem.W.kia_one (PySem.W.kitx_own (cl.get _) cl.hd ha hn htk hm) I.kIn J e (fun z => nomatch z) h
end
end L2

namespace L2
open PySem PySem.Spec PyProof.Rows

structure Room (k : Nat) (A : Around) : Prop where
  hd : A.handled = none
  dp : A.depth + 3 * k + 5 < recursionLimit
  un : A.units + 16 * k + 200 < cLine
theorem Room.mono {j k : Nat} {A : Around} (r : Room k A) (h : j ≤ k) : Room j A := ⟨r.hd, by have := r.dp; omega, by have := r.un; omega⟩
theorem Room.deeper {k : Nat} {A : Around} (r : Room (k + 1) A) (env : Env) : Room k (A.deeper env) :=
  ⟨r.hd, by have := r.dp; show A.depth + 1 + 3 * k + 5 < _; omega, by have := r.un; show A.units + 3 + 16 * k + 200 < _; omega⟩
theorem make_depth {A : Around} {C : Addr} {us : List Value} {kw : List (Str × Value)} : (A.under (.builtin "type.__call__" ⟨.ref C :: us, kw⟩)).depth = A.depth + 1 := by
  first | rfl | simp [Around.under, Code.weight, Code.isCreation, Code.isGuard, Code.isCaller, Code.frames, Code.isFrame, guardIds]
theorem make_units {A : Around} {C : Addr} {us : List Value} {kw : List (Str × Value)} : (A.under (.builtin "type.__call__" ⟨.ref C :: us, kw⟩)).units = A.units + 1 := by
  first | rfl | simp [Around.under, Code.cUnits, Code.frames, Code.isFrame]
theorem Room.make {k : Nat} {A : Around} (r : Room (k + 1) A) (C : Addr) (us : List Value) (kw : List (Str × Value)) : Room k (A.under (.builtin "type.__call__" ⟨.ref C :: us, kw⟩)) :=
  ⟨r.hd, by have := r.dp; rw [make_depth]; omega, by have := r.un; rw [make_units]; omega⟩
theorem Room.depth {k : Nat} {A : Around} (r : Room k A) : A.depth < recursionLimit := by have := r.dp; omega
theorem Room.units {k : Nat} {A : Around} (r : Room k A) : A.units + 64 < cLine := by have := r.un; omega
noncomputable def tNil : TA := fun _ H Q => Q [] H
noncomputable def tCons (ta : TE) (tr : TA) : TA := fun σ H Q => ta σ H fun x H1 => tr σ H1 fun xs H2 => Q (x :: xs) H2
section
variable {X : Cx} {e : Expr} {es : List Expr} {te : TE} {t : TA} {pos : Pos}
theorem pa_nil : PA X [] tNil := fun _ _ _ _ H Q I h => Calls.spliced_nil ⟨[], H, I, .nil, h⟩
theorem pa_cons (ha : PE X e te) (hr : PA X es t) (hs : autoParam (starEach (e :: es) X.env = (false, eval e X.env) :: starEach es X.env) au0_._auto_1) : PA X (e :: es) (tCons te t) := by
  intro pos pins s σ H Q I h
  rw [hs]
  show wpAny _ _ (spliced ((false, eval e X.env) :: backTo pos (starEach es X.env))) _ _ s
  refine Calls.spliced_cons (thn (ha pins s σ H _ I h) fun u s1 ⟨x, H1, I1, r1, q1⟩ => ?_)
  exact thn (hr pos pins s1 σ H1 _ I1 q1) fun us s2 ⟨xs, H2, I2, r2, q2⟩ => ⟨x :: xs, H2, I2, .cons r1 r2, q2⟩

noncomputable def tTup (t : TA) : TE := fun σ H Q => t σ H fun xs H1 => xs.length ≤ sizeLine ∧ ∀ p, H1 p = none → Q (.ref p) (upd H1 p (.tup xs))
noncomputable def tLst (t : TA) : TE := fun σ H Q => t σ H fun xs H1 => xs.length ≤ sizeLine ∧ ∀ p, H1 p = none → Q (.ref p) (upd H1 p (.lst xs))
theorem pe_tup {x1} (h : PA X es t) : PE X (.Tuple es x1 pos) (tTup t) := by
  intro pins s σ H Q I hq
  refine wpAny_Tuple_spliced (thn (h pos pins s σ H _ I hq) fun us s1 ⟨xs, H1, I1, r, z, q⟩ => ⟨by rw [← r.length]; exact z, ?_⟩)
  have hf : H1 s1.heap.objs.size = none := I1.hok.fresh (Nat.le_refl _)
  refine ⟨.ref s1.heap.objs.size, upd H1 s1.heap.objs.size (.tup xs), I1.laid (t' := s1.toks) (fun b u e => Heap.get?_push_of_some _ e) (Nat.le_refl _) ?_, rfl, q _ hf⟩
  exact ⟨z, us, r, ⟨_, Heap.get?_push_size _ rfl, rfl, _, rfl⟩⟩
theorem pe_lst (h : PA X es t) : PE X (.List es pos) (tLst t) := by
  intro pins s σ H Q I hq
  refine wpAny_List_spliced (thn (h pos pins s σ H _ I hq) fun us s1 ⟨xs, H1, I1, r, z, q⟩ => ⟨by rw [← r.length]; exact z, ?_⟩)
  have hf : H1 s1.heap.objs.size = none := I1.hok.fresh (Nat.le_refl _)
  refine ⟨.ref s1.heap.objs.size, upd H1 s1.heap.objs.size (.lst xs), I1.laid (t' := s1.toks) (fun b u e => Heap.get?_push_of_some _ e) (Nat.le_refl _) ?_, rfl, q _ hf⟩
  exact ⟨z, us, 0, r, Heap.get?_push_size _ rfl⟩
end

noncomputable abbrev Sp := List V → Hp → VK → XK → Prop
noncomputable abbrev CXT := List Env → Hp → Shared → XK → Value → Shared → Prop

structure Env0 (P : Program) (w : World) (K : PySem.W.Frag) (mg : Str → Option Value) (base : Heap) (A : Around) (outer : List Env) (s : Shared) (H : Hp) : Prop where
  frames : A.frames = some outer
  mod : Mod K mg base
  bs : ∀ b o, base.get? b = some o → s.heap.get? b = some o ∧ H b = none
  bsz : base.objs.size ≤ s.heap.objs.size
  funs : s.heap.FunFrames base outer
  frf : ∀ b ∈ frs outer, H b = none
  hok : HOk P w H s.heap
  bare : AllBare s.gens
noncomputable def CE (outer : List Env) (P : Program) (w : World) (H : Hp) (s : Shared) (Q : VK) (u : Value) (s' : Shared) : Prop :=
  ∃ v H', s'.os = s.os ∧ AllBare s'.gens ∧ Un (frs outer) [] H H' s.heap s'.heap ∧ HOk P w H' s'.heap ∧ RelV v u ∧ Q v H'
noncomputable def CR (CX : CXT) (outer : List Env) (P : Program) (w : World) (H : Hp) (s : Shared) (Q : VK) (E : XK) (r : Result) (s' : Shared) : Prop :=
  match r with
  | .ok (.ret u) => CE outer P w H s Q u s'
  | .ok _ => False
  | .error e => CX outer H s E e s'
structure FnOk (P : Program) (w : World) (K : PySem.W.Frag) (mg : Str → Option Value) (base : Heap) (CX : CXT) (k : Nat) (f : Addr) (fd : FuncData) (ps : List Str) (sp : Sp) : Prop where
  len : ∀ vs H Q E, sp vs H Q E → vs.length = ps.length
  run : ∀ (A : Around) (outer : List Env) (s : Shared) (H : Hp) (args : Args) (us : List Value) (vs : List V) (Q : VK) (E : XK), Room k A → Env0 P w K mg base A outer s H → BindsTo s fd args (ps.zip us) → Vals vs us → sp vs H Q E →
    codeAny (model P w) A (.call (.ref f) args) (CR CX outer P w H s Q E) s
theorem Env0.make {P : Program} {w : World} {K : PySem.W.Frag} {mg : Str → Option Value} {base : Heap} {A : Around} {outer : List Env} {s : Shared} {H : Hp} (e : Env0 P w K mg base A outer s H) (C : Addr) (us : List Value) (kw : List (Str × Value)) :
    Env0 P w K mg base (A.under (.builtin "type.__call__" ⟨.ref C :: us, kw⟩)) outer s H := ⟨by first | exact e.frames | (simpa [Around.under, Code.envs, Code.isFrame, pushEnvs] using e.frames), e.mod, e.bs, e.bsz, e.funs, e.frf, e.hok, e.bare⟩
section
variable {X : Cx} {pins : List (Addr × Obj)} {σ : St} {H : Hp} {s s' : Shared}
theorem Inv.env0 (I : Inv X pins σ H s) : Env0 X.prog X.w X.K X.mg X.base X.A X.stack s H :=
  ⟨I.ok.frames, I.ok.mod, I.bs, Nat.le_trans I.ok.bsz I.sz, I.stack, I.stkFree, I.hok, I.bare⟩
theorem Inv.after {Q : VK} {u : Value} (I : Inv X pins σ H s) (h : CE X.stack X.prog X.w H s Q u s') : EP X pins σ Q u s' := by
  obtain ⟨v, H', os, bare, un, hok, r, q⟩ := h
  obtain ⟨hh, g, d, t, os'⟩ := s'
  obtain rfl : os' = s.os := os
  exact ⟨v, H', I.call (h' := hh) (g' := g) (d' := d) (t' := t) (ch := []) un hok bare (fun b z => absurd z (by simp)), r, q⟩
end

noncomputable def tCall (sp : Sp) (dvs : List V) (E : XK) (t : TA) : TE := fun σ H Q => t σ H fun vs H1 => sp (vs ++ dvs) H1 Q E
noncomputable def tMeth (C : Addr) (m : Str) (sp : Sp) (dvs : List V) (E : XK) (ta : TE) (t : TA) : TE := fun σ H Q => ta σ H fun x H1 => ∃ a dx fs, x = .ref a ∧ H1 a = some (.ins C dx fs) ∧ fs.lookup m = none ∧
  t σ H1 fun vs H2 => sp (x :: (vs ++ dvs)) H2 Q E
noncomputable def tMake (C : Addr) (sp : Sp) (dvs : List V) (E : XK) (t : TA) : TE := fun σ H Q => t σ H fun vs H1 => ∀ x dx, H1 x = none → H1 dx = none → dx ≠ x →
  sp (.ref x :: (vs ++ dvs)) (upd (upd H1 dx (.own x)) x (.ins C dx [])) (fun v H2 => v = .non ∧ Q (.ref x) H2) E

noncomputable def Binds (K : PySem.W.Frag) (fd : FuncData) (ps : List Str) (ds : List Value) : Prop :=
  ∀ (s : Shared) (us : List Value), K.In s.heap → (us ++ ds).length = ps.length → BindsTo s fd ⟨us, []⟩ (ps.zip (us ++ ds))
theorem Binds.all {K : PySem.W.Frag} {fd : FuncData} {ps : List Str} (h : ∀ us : List Value, us.length = ps.length → bindArgs fd ⟨us, []⟩ = pure (ps.zip us)) : Binds K fd ps [] := fun s us _ hl => by
  rw [List.append_nil] at hl ⊢
  exact .of_eq (h us hl)

noncomputable def Passes (CX : CXT) (X : Cx) (E : XK) : Prop := ∀ (pins : List (Addr × Obj)) (σ : St) (H : Hp) (s : Shared) (e : Value) (s' : Shared), Inv X pins σ H s → CX X.stack H s E e s' → X.xe e s'

section
variable {X : Cx} {CX : CXT} {k : Nat} {f C : Addr} {fd : FuncData} {ps : List Str} {sp : Sp} {dvs : List V} {ds : List Value} {E : XK} {x m : Str} {p pos apos : Pos} {e o : Expr} {es : List Expr} {ta : TE} {t : TA}

theorem run_fn {pins : List (Addr × Obj)} {σ : St} {H : Hp} {s : Shared} {Q : VK} {us : List Value} {vs : List V} (F : FnOk X.prog X.w X.K X.mg X.base CX k f fd ps sp) (hr : Room k X.A) (hb : Binds X.K fd ps ds) (hd : Vals dvs ds) (hx : Passes CX X E)
    (I : Inv X pins σ H s) (r : Vals vs us) (h : sp (vs ++ dvs) H Q E) : wpAny (model X.prog X.w) X.A (call (.ref f) us) (EP X pins σ Q) X.xe s := by
  have r2 : Vals (vs ++ dvs) (us ++ ds) := r.append hd
  have hl : (us ++ ds).length = ps.length := by rw [← r2.length]; exact F.len _ _ _ _ h
  refine wpAny_call (codeAny_mono (F.run X.A X.stack s H ⟨us, []⟩ (us ++ ds) (vs ++ dvs) Q E hr I.env0 (hb s us I.kIn hl) r2 h) fun r s' hq => ?_)
  cases r with
  | error e => exact hx pins σ H s e s' I hq
  | ok fl =>
    cases fl with
    | ret u => exact I.after hq
    | next => exact False.elim hq
    | brk => exact False.elim hq
    | cont => exact False.elim hq

theorem pe_call (F : FnOk X.prog X.w X.K X.mg X.base CX k f fd ps sp) (hr : Room k X.A) (hg : Gl X x) (hm : X.mg x = some (.ref f)) (hk : PySem.W.keepIn X.K (.ref f) = true) (hb : Binds X.K fd ps ds) (hd : Vals dvs ds) (hx : Passes CX X E)
    (ha : PA X (e :: es) t) (hdb : autoParam ((x == ("__debug__" : Str)) = false) au1_._auto_1) (he : autoParam (starEach (e :: es) X.env = (false, eval e X.env) :: starEach es X.env) au0_._auto_1) (hpl : autoParam ((backTo pos (starEach es X.env)).any (·.1) = false) au0_._auto_1) :
    PE X (.Call (.Name x p) (e :: es) [] pos) (tCall sp dvs E t) := by
  intro pins s σ H Q I h
  refine wpAny_Call_Name_kw (ld_glob I hg hm ?_ hdb)
  refine PySem.W.callWith_K (h₀ := X.base) I.ok.mod.kin hk (thn (ha pos pins s σ H _ I h) fun us s1 ⟨vs, H1, I1, r, q⟩ => ⟨I1.kIn, ?_⟩) he hpl
  exact run_fn F hr hb hd hx I1 r q
theorem pe_meth {pl : Sem Bool} (he : PE X o ta) (c : Cls X.K C) (hm : Meth X.K C m f) (F : FnOk X.prog X.w X.K X.mg X.base CX k f fd ps sp) (hr : Room k X.A) (hb : Binds X.K fd ps ds) (hd : Vals dvs ds) (hx : Passes CX X E) (ha : PA X (e :: es) t)
    (hst : autoParam (starEach (e :: es) X.env = (false, eval e X.env) :: starEach es X.env) au0_._auto_1) (hpl : autoParam ((backTo pos (starEach es X.env)).any (·.1) = false) au0_._auto_1)
    (ht : autoParam (eval (.Call (.Attribute o m apos) (e :: es) [] pos) X.env = (do
      let ov ← eval o X.env
      standAt apos.atName
      let (f, first) ← holding [ov] (getMethod ov m pl)
      callWith pos f first (backTo pos (starEach (e :: es) X.env)) (backToKw pos (keywordEach [] X.env)))) au0_._auto_1) :
    PE X (.Call (.Attribute o m apos) (e :: es) [] pos) (tMeth C m sp dvs E ta t) := by
  intro pins s σ H Q I h
  refine PySem.W.methodCall_KW (pl := pl) (thn (he pins s σ H _ I h) fun u s1 ⟨x, H1, I1, rx, a, dx, fs, ex, ea, l, q⟩ => ?_) ht
  subst ex
  obtain rfl : u = Value.ref a := rx
  refine getmeth_ok I1 ea c hm l ?_
  refine PySem.W.callWith_K (first := [.ref a]) (h₀ := X.base) I.ok.mod.kin hm.kp (thn (ha pos pins s1 σ H1 _ I1 q) fun us s2 ⟨vs, H2, I2, r, q2⟩ => ⟨I2.kIn, ?_⟩) hst hpl
  exact run_fn (us := .ref a :: us) (vs := .ref a :: vs) F hr hb hd hx I2 (.cons rfl r) q2
theorem pe_meth0 {pl : Sem Bool} (he : PE X o ta) (c : Cls X.K C) (hm : Meth X.K C m f) (F : FnOk X.prog X.w X.K X.mg X.base CX k f fd ps sp) (hr : Room k X.A) (hb : Binds X.K fd ps ds) (hd : Vals dvs ds) (hx : Passes CX X E)
    (ht : autoParam (eval (.Call (.Attribute o m apos) [] [] pos) X.env = (do
      let ov ← eval o X.env
      standAt apos.atName
      let (f, first) ← holding [ov] (getMethod ov m pl)
      callWith pos f first (backTo pos (starEach [] X.env)) (backToKw pos (keywordEach [] X.env)))) au0_._auto_1) :
    PE X (.Call (.Attribute o m apos) [] [] pos) (tMeth C m sp dvs E ta tNil) := by
  intro pins s σ H Q I h
  refine PySem.W.methodCall_KW (pl := pl) (thn (he pins s σ H _ I h) fun u s1 ⟨x, H1, I1, rx, a, dx, fs, ex, ea, l, q⟩ => ?_) ht
  subst ex
  obtain rfl : u = Value.ref a := rx
  refine getmeth_ok I1 ea c hm l ?_
  exact PySem.W.callWith_K0 (first := [.ref a]) I1.kIn hm.kp (run_fn (us := [.ref a]) (vs := [.ref a]) F hr hb hd hx I1 (.cons rfl .nil) q)

structure Mk (K : PySem.W.Frag) (C f : Addr) : Prop where
  makes : PySem.W.makesIn K C = true
  init : PySem.W.findIn K (.ref C) "__init__" = some (some (.ref f))
  fn : PySem.W.isFn K (.ref f) = true
  kp : PySem.W.keepIn K (.ref C) = true

theorem run_make {pins : List (Addr × Obj)} {σ : St} {H : Hp} {s : Shared} {Q : VK} {us : List Value} {vs : List V} (M : Mk X.K C f) (F : FnOk X.prog X.w X.K X.mg X.base CX k f fd ps sp) (hr : Room (k + 1) X.A) (hb : Binds X.K fd ps ds) (hd : Vals dvs ds)
    (hx : Passes CX X E) (I : Inv X pins σ H s) (r : Vals vs us)
    (h : ∀ x dx, H x = none → H dx = none → dx ≠ x → sp (.ref x :: (vs ++ dvs)) (upd (upd H dx (.own x)) x (.ins C dx [])) (fun v H2 => v = .non ∧ Q (.ref x) H2) E) :
    wpAny (model X.prog X.w) X.A (call (.ref C) us) (EP X pins σ Q) X.xe s := by
  have hq := h (s.heap.objs.size + 1) s.heap.objs.size (I.hok.fresh (Nat.le_succ _)) (I.hok.fresh (Nat.le_refl _)) (Nat.ne_of_lt (Nat.lt_succ_self _))
  have I2 := Inv.made (C := C) I
  have r2 : Vals (V.ref (s.heap.objs.size + 1) :: (vs ++ dvs)) (Value.ref (s.heap.objs.size + 1) :: (us ++ ds)) := .cons rfl (r.append hd)
  have hl : (Value.ref (s.heap.objs.size + 1) :: us ++ ds).length = ps.length := by
    have e := r2.length
    rw [F.len _ _ _ _ hq] at e
    exact e.symm
  refine wpAny_call (make_map (f := f) I.kIn M.makes M.init (beq_iff_eq.mp M.fn) (codeAny_mono (F.run _ X.stack _ _ ⟨Value.ref (s.heap.objs.size + 1) :: us, []⟩ (Value.ref (s.heap.objs.size + 1) :: (us ++ ds)) _ _ E (hr.make C us [])
    (I2.env0.make C us []) (hb _ (Value.ref (s.heap.objs.size + 1) :: us) I2.kIn hl) r2 hq) fun r s' hq' => ?_))
  cases r with
  | error e => exact hx pins σ _ _ e s' I2 hq'
  | ok fl =>
    cases fl with
    | ret u =>
      obtain ⟨v, H', I3, rv, ev, q3⟩ := I2.after hq'
      subst ev
      exact ⟨rv, ⟨V.ref (s.heap.objs.size + 1), H', I3, rfl, q3⟩⟩
    | next => exact False.elim hq'
    | brk => exact False.elim hq'
    | cont => exact False.elim hq'
theorem pe_make (M : Mk X.K C f) (F : FnOk X.prog X.w X.K X.mg X.base CX k f fd ps sp) (hr : Room (k + 1) X.A) (hg : Gl X x) (hm : X.mg x = some (.ref C)) (hb : Binds X.K fd ps ds) (hd : Vals dvs ds) (hx : Passes CX X E)
    (ha : PA X (e :: es) t) (hdb : autoParam ((x == ("__debug__" : Str)) = false) au1_._auto_1) (he : autoParam (starEach (e :: es) X.env = (false, eval e X.env) :: starEach es X.env) au0_._auto_1) (hpl : autoParam ((backTo pos (starEach es X.env)).any (·.1) = false) au0_._auto_1) :
    PE X (.Call (.Name x p) (e :: es) [] pos) (tMake C sp dvs E t) := by
  intro pins s σ H Q I h
  refine wpAny_Call_Name_kw (ld_glob I hg hm ?_ hdb)
  refine PySem.W.callWith_K (h₀ := X.base) I.ok.mod.kin M.kp (thn (ha pos pins s σ H _ I h) fun us s1 ⟨vs, H1, I1, r, q⟩ => ⟨I1.kIn, ?_⟩) he hpl
  exact run_make M F hr hb hd hx I1 r q
end

section
variable {X : Cx} {CX : CXT} {k : Nat} {f C : Addr} {fd : FuncData} {ps ks : List Str} {sp : Sp} {E : XK} {x m : Str} {p pos apos kpos : Pos} {e o : Expr} {es : List Expr} {kws : List Keyword} {te ta : TE} {t tk : TA} {nm : Option Str}
variable {g : List Value → List Value → List Value} {gV : List V → List V → List V}
end

structure FnScope (N P : List Str) (sc : Scope) : Prop where
  kind : sc.kind = .function
  co : sc.isCoroutine = false
  gen : sc.isGenerator = false
  nd : N.Nodup
  pre : N.take P.length = P
  par : ∀ x ∈ P, sc.names.lookup x = some .local ∨ sc.names.lookup x = some .cell
  nofree : ∀ y ∈ sc.names, y.2 ≠ .free

theorem bindL_out {kindOf : Str → Option NameKind} {x : Str} : ∀ {binds : List (Str × Value)} {m : Str → Option Value}, (∀ v, (x, v) ∉ binds) → bindL kindOf binds m x = m x
  | [], _, _ => rfl
  | (n, v) :: r, m, h => by
    unfold bindL
    rw [bindL_out fun w hw => h w (List.mem_cons_of_mem _ hw)]
    split
    · have : x ≠ n := by rintro rfl; exact h v List.mem_cons_self
      simp [this]
    · rfl
theorem bindC_out {kindOf : Str → Option NameKind} {x : Str} : ∀ {binds : List (Str × Value)} {m : Str → Option Value}, (∀ v, (x, v) ∉ binds) → bindC kindOf binds m x = m x
  | [], _, _ => rfl
  | (n, v) :: r, m, h => by
    unfold bindC
    rw [bindC_out fun w hw => h w (List.mem_cons_of_mem _ hw)]
    split
    · rfl
    · have : x ≠ n := by rintro rfl; exact h v List.mem_cons_self
      simp [this]
theorem bindL_get {kindOf : Str → Option NameKind} {x : Str} {v : Value} : ∀ {P : List Str} {vs : List Value} {i : Nat} {m : Str → Option Value}, P.Nodup → P[i]? = some x → vs[i]? = some v → kindOf x = some .local →
    bindL kindOf (P.zip vs) m x = some v
  | [], _, _, _, _, h, _, _ => by simp at h
  | _ :: _, [], _, _, _, _, h, _ => by simp at h
  | p :: P, w :: vs, 0, m, nd, h1, h2, hk => by
    simp at h1 h2; subst h1; subst h2
    show bindL kindOf ((p, w) :: P.zip vs) m p = _
    unfold bindL
    rw [bindL_out fun v hv => (List.nodup_cons.mp nd).1 (List.of_mem_zip hv).1, if_pos hk]
    simp
  | p :: P, w :: vs, i + 1, m, nd, h1, h2, hk => by
    show bindL kindOf ((p, w) :: P.zip vs) m x = _
    unfold bindL
    exact bindL_get (i := i) (List.nodup_cons.mp nd).2 (by simpa using h1) (by simpa using h2) hk
theorem bindC_get {kindOf : Str → Option NameKind} {x : Str} {v : Value} : ∀ {P : List Str} {vs : List Value} {i : Nat} {m : Str → Option Value}, P.Nodup → P[i]? = some x → vs[i]? = some v → kindOf x ≠ some .local →
    bindC kindOf (P.zip vs) m x = some v
  | [], _, _, _, _, h, _, _ => by simp at h
  | _ :: _, [], _, _, _, _, h, _ => by simp at h
  | p :: P, w :: vs, 0, m, nd, h1, h2, hk => by
    simp at h1 h2; subst h1; subst h2
    show bindC kindOf ((p, w) :: P.zip vs) m p = _
    unfold bindC
    rw [bindC_out fun v hv => (List.nodup_cons.mp nd).1 (List.of_mem_zip hv).1, if_neg hk]
    simp
  | p :: P, w :: vs, i + 1, m, nd, h1, h2, hk => by
    show bindC kindOf ((p, w) :: P.zip vs) m x = _
    unfold bindC
    exact bindC_get (i := i) (List.nodup_cons.mp nd).2 (by simpa using h1) (by simpa using h2) hk

noncomputable def start (N : List Str) (vs : List V) : St := vs.map some ++ List.replicate (N.length - vs.length) none

noncomputable def cxOf (CX : CXT) (P : Program) (w : World) (K : PySem.W.Frag) (mg : Str → Option Value) (base : Heap) (N : List Str) (qual : Str) (scope : Scope) (f : Addr) (cd : Value) (A : Around) (outer : List Env) (s : Shared) (H : Hp) (E : XK) : Cx where
  prog := P
  w := w
  K := K
  mg := mg
  base := base
  A := A.deeper (envOfC qual scope s.heap.objs.size f cd)
  N := N
  s₀ := s
  H₀ := H
  env := envOfC qual scope s.heap.objs.size f cd
  outer := outer
  stack := envOfC qual scope s.heap.objs.size f cd :: outer
  ex := []
  calm := true
  fn := fun _ => true
  pn := []
  xe := fun e s' => wpAny (model P w) (A.deeper (envOfC qual scope s.heap.objs.size f cd)) (leaving (envOfC qual scope s.heap.objs.size f cd) e) (fun _ s'' => CX outer H s E e s'') (fun e' s'' => CX outer H s E e' s'') s'

theorem cell_has {sc : Scope} {n : Nat} {x : Str} (h : sc.names.lookup x = some .cell) : ∃ c, (cellsFrom n sc.names []).lookup x = some c := by
  have q := PySem.W.cellsFrom_some sc.names n [] (.inl h)
  exact Option.isSome_iff_exists.mp q

theorem inv_start {CX : CXT} {P : Program} {w : World} {K : PySem.W.Frag} {mg : Str → Option Value} {base : Heap} {N ps : List Str} {qual : Str} {scope : Scope} {f : Addr} {cd : Value} {A : Around} {outer : List Env} {s s1 : Shared} {H : Hp} {E : XK} {us : List Value} {vs : List V}
    (S : FnScope N ps scope) (hd : A.handled = none) (e0 : Env0 P w K mg base A outer s H) (hl : vs.length = ps.length) (r : Vals vs us)
    (x : InCallC s s.heap.objs.size (bindL (envOfC qual scope s.heap.objs.size f cd).kindOf (ps.zip us) fun _ => none) (cellsFrom (s.heap.objs.size + 1) scope.names []) (bindC (envOfC qual scope s.heap.objs.size f cd).kindOf (ps.zip us) fun _ => none) s1) :
    Inv (cxOf CX P w K mg base N qual scope f cd A outer s H E) [] (start N vs) H s1 := by
  have hpl : ps.length ≤ N.length := by have := congrArg List.length S.pre; rw [List.length_take] at this; omega
  obtain ⟨h1, tk, rfl, hk⟩ := x.done
  have noA : ∀ b : Addr, b ∉ (cxOf CX P w K mg base N qual scope f cd A outer s H E).ex := fun b z => absurd (show b ∈ ([] : List Addr) from z) (by simp)
  refine ⟨⟨e0.mod, S.kind, rfl, rfl, Nat.le_refl _, fun y z c h1 h2 => ?_, fun y hy => ?_, fun y c _ h => ?_, fun _ => hd, Around.frames_deeper e0.frames, .inr ⟨rfl, rfl⟩, fun b z => absurd z (noA b), e0.bs, e0.bsz, fun b _ _ => noA b, fun b z => absurd z (noA b), e0.funs, e0.frf⟩,
    rfl, e0.bare, Un.kept hk, ⟨_, x.toInCall.ns, fun i y v h1 h2 h3 => ?_⟩, fun y c h => ⟨_, x.cell y c h⟩, e0.hok.fresh (Nat.le_refl _), fun y c h => ?_, fun p hp => absurd (show p ∈ ([] : List (Addr × Obj)) from hp) (by simp), e0.hok.kept hk, ?_⟩
  · exact name_of_addr x.apart (PySem.mem_of_lookup h1) (PySem.mem_of_lookup h2)
  · have hy : scope.names.lookup y = some .cell ∨ scope.names.lookup y = some .free := hy
    rcases hy with hy | hy
    · exact cell_has hy
    · exact absurd rfl (S.nofree _ (PySem.mem_of_lookup hy))
  · exact Nat.le_of_lt (x.above y c (PySem.mem_of_lookup h))
  · have hi : i < vs.length := by
      unfold start at h2
      by_cases hi : i < vs.length
      · exact hi
      · rw [List.getElem?_append_right (by simpa using hi)] at h2
        rw [List.getElem?_replicate] at h2
        split at h2 <;> cases h2
    have ha : vs[i]? = some v := by
      unfold start at h2
      rw [List.getElem?_append_left (by simpa using hi), List.getElem?_map] at h2
      cases e : vs[i]? with
      | none => rw [e] at h2; cases h2
      | some a => rw [e] at h2; cases h2; rfl
    obtain ⟨u, hu, rv⟩ := r.get ha
    have hp : ps[i]? = some y := by
      rw [← S.pre, List.getElem?_take_of_lt (by omega)]; exact h1
    have ndP : ps.Nodup := by rw [← S.pre]; exact S.nd.sublist (List.take_sublist _ _)
    refine ⟨u, rv, ?_⟩
    rcases S.par y (List.mem_of_getElem? hp) with k | k
    · exact .inl ⟨k, bindL_get ndP hp hu k⟩
    · obtain ⟨c, e⟩ := cell_has (n := s.heap.objs.size + 1) k
      refine .inr ⟨.inl k, c, e, ?_⟩
      have q := x.cell y c e
      rw [bindC_get ndP hp hu (by show scope.names.lookup y ≠ _; rw [k]; decide)] at q
      exact q
  · exact e0.hok.fresh (Nat.le_of_lt (x.above y c (PySem.mem_of_lookup h)))
  · unfold start
    show _ = N.length
    rw [List.length_append, List.length_map, List.length_replicate]
    omega

theorem fn_of {CX : CXT} {P : Program} {w : World} {K : PySem.W.Frag} {mg : Str → Option Value} {base : Heap} {k : Nat} {f : Addr} {name qual : Str} {params : Arguments} {body : List Stmt} {scope : Scope} {dV kV doc pm cdv ct oc : Value} {an od : Option Addr}
    {osl : Array (Option Value)} {N ps : List Str} {sp : Sp} (lk : K.lookup f = some ⟨oc, od, .func (PySem.W.fnOf name qual params body scope dV kV doc pm an cdv ct), osl⟩) (hcd : PySem.W.codeIn K cdv qual = true) (S : FnScope N ps scope)
    (len : ∀ vs H Q E, sp vs H Q E → vs.length = ps.length)
    (hbody : ∀ (A : Around) (outer : List Env) (s : Shared) (H : Hp) (vs : List V) (Q : VK) (E : XK), Room k (A.deeper (envOfC qual scope s.heap.objs.size f cdv)) → sp vs H Q E →
      ∃ t, PSs (cxOf CX P w K mg base N qual scope f cdv A outer s H E) body t ∧ t { nx := fun _ H' => Q .non H', rt := Q } (start N vs) H) :
    FnOk P w K mg base CX (k + 1) f (PySem.W.fnOf name qual params body scope dV kV doc pm an cdv ct) ps sp := by
  refine ⟨len, fun A outer s H args us vs Q E hr e0 hb r hsp => ?_⟩
  have hl := len _ _ _ _ hsp
  have KX : K.In s.heap := e0.mod.kin.keeps fun b o e => (e0.bs b o e).1
  have lim : s.heap.NoLimit := e0.mod.nolimit.keeps fun b o e => (e0.bs b o e).1
  have hkind : ∀ y ∈ ps.zip us, scope.names.lookup y.1 = some .local ∨ (scope.names.lookup y.1 = some .cell ∧ ((cellsFrom (s.heap.objs.size + 1) scope.names []).lookup y.1).isSome = true) := fun ⟨n, v⟩ hy => by
    rcases S.par n (List.of_mem_zip hy).1 with q | q
    · exact .inl q
    · exact .inr ⟨q, PySem.W.cellsFrom_some _ _ _ (.inl q)⟩
  refine codeAny_call_function hr.depth (KX _ _ lk) rfl S.co S.gen rfl (PySem.W.codeRec_of KX hcd) (hb _ _ _ _ ?_)
  refine wpAny_newFunctionEnv_cells S.kind hkind fun env he s1 x => ?_
  subst he
  refine ⟨lim.keeps x.toInCall.keep, codeAny_func ?_⟩
  obtain ⟨t, ht, hq⟩ := hbody A outer s H vs Q E (hr.deeper _) hsp
  have I : Inv (cxOf CX P w K mg base N qual scope f cdv A outer s H E) [] (start N vs) H s1 := inv_start S hr.hd e0 hl r x
  refine wpAny_mono (ht [] s1 (start N vs) H _ I hq) (fun fl s' hs => ?_) fun e s' hs => hs
  have fin : ∀ {σ' : St} {H' : Hp} {v : V} {u : Value}, Inv (cxOf CX P w K mg base N qual scope f cdv A outer s H E) [] σ' H' s' → RelV v u → Q v H' → CE outer P w H s Q u s' :=
    fun {σ' H' v u} J rv q => ⟨v, H', J.os, J.bare, J.base, J.hok, rv, q⟩
  cases fl with
  | ret u =>
    obtain ⟨v, σ', H', J, rv, q⟩ := hs
    exact fin J rv q
  | next =>
    obtain ⟨σ', H', J, q⟩ := hs
    exact fin (v := V.non) (u := Value.none) J rfl q
  | brk =>
    obtain ⟨_, _, _, q⟩ := hs
    exact False.elim q
  | cont =>
    obtain ⟨_, _, _, q⟩ := hs
    exact False.elim q
end L2

namespace L2
open PySem PySem.Spec PyProof.Rows
section
variable {X : Cx} {x : Str} {p pos : Pos} {e : Expr} {es : List Expr} {t : TA} {id T : String} {r : List V → Hp → VK → Prop}

noncomputable def tCB (r : List V → Hp → VK → Prop) (t : TA) : TE := fun σ H Q => t σ H fun vs H1 => r vs H1 Q
theorem pe_callB (hc : CallR X (.builtin id) r) (hg : Gl X x) (hm : X.mg x = none) (hv : bootBuiltins x = some (.builtin id)) (ha : PA X (e :: es) t) (hn : autoParam (x ≠ "__name__") au1_._auto_1) (hdb : autoParam ((x == ("__debug__" : Str)) = false) au1_._auto_1)
    (he : autoParam (starEach (e :: es) X.env = (false, eval e X.env) :: starEach es X.env) au0_._auto_1) (hpl : autoParam ((backTo pos (starEach es X.env)).any (·.1) = false) au0_._auto_1) : PE X (.Call (.Name x p) (e :: es) [] pos) (tCB r t) := by
  intro pins s σ H Q I h
  refine wpAny_Call_Name_kw (ld_blt I hg hm hv ?_ hn hdb)
  exact PyProof.Rows.callWith_builtin1 (thn (ha pos pins s σ H _ I h) fun us s1 ⟨vs, H1, I1, r1, q1⟩ => hc pins s1 σ H1 vs us Q I1 r1 q1) he hpl
end
end L2

namespace HT
open PySem PyProof.Rows

section
open PySem.SeqAt
open PySem.AutoSeq1 (wpAny_loadPart')
open PySem.MeetsSeq PySem.MeetsSeq2 PySem.MeetsSeq3

end

section
variable {prog : Program} {w : World} {A : Around} {E : Value → Shared → Prop} {s : Shared}

theorem cat_tup {t b : Addr} {vs ws : List Value} {Q : Value → Shared → Prop} (ht : IsTup s.heap t vs.toArray) (hb : IsTup s.heap b ws.toArray) (hv : vs ≠ [])
    (h1 : ws = [] → Q (.ref t) s) (h2 : ws ≠ [] → Q (.ref s.heap.objs.size) { s with heap := s.heap.push { cls := .type "tuple", data := .seq (vs ++ ws).toArray } })
    (hsz : vs.length + ws.length ≤ sizeLine) : wpAny (model prog w) A (binaryOp .Add (.ref t) (.ref b)) Q E s := by
  obtain ⟨⟨cls, dd, data, sl⟩, ho, hc, n, hd⟩ := id ht
  obtain ⟨⟨cls2, dd2, data2, sl2⟩, ho2, hc2, n2, hd2⟩ := id hb
  simp only at hc hd hc2 hd2
  subst hc hd hc2 hd2
  have e : vs.toArray ++ ws.toArray = (vs ++ ws).toArray := by simp
  by_cases hw : ws = []
  · exact concat_meets ⟨_, ho, rfl⟩ ⟨_, ho2, rfl⟩ noFill_tuple_add seq_tuple_add PySem.F.slot_tuple_add PySem.F.entry_tuple_add (PySem.F.args_tuple_add_2 _ _)
      (tuple_addW1 t b vs.toArray ws.toArray n n2 dd dd2 sl sl2 (by simpa using hv) (by simp [hw])) ⟨ho, ho2, h1 hw⟩
  · refine concat_meets ⟨_, ho, rfl⟩ ⟨_, ho2, rfl⟩ noFill_tuple_add seq_tuple_add PySem.F.slot_tuple_add PySem.F.entry_tuple_add (PySem.F.args_tuple_add_2 _ _)
      (tuple_addW2 t b vs.toArray ws.toArray n n2 dd dd2 sl sl2 (by simpa using hv) (by simpa using hw) (by rw [List.size_toArray, List.size_toArray]; exact hsz)) ⟨ho, ho2, ?_⟩
    rw [e]
    exact h2 hw

noncomputable def sIx (n d : Nat) : Option Int → Nat
  | none => d
  | some v => if v < 0 then (v + (n : Int)).toNat else min v.toNat n
end
end HT

namespace L2
open PySem PySem.Spec PyProof.Rows

noncomputable abbrev TO := St → Hp → (Option Int → Hp → Prop) → Prop
noncomputable def PO (X : Cx) (e : Option Expr) (t : TO) : Prop :=
  ∀ (pins : List (Addr × Obj)) (s : Shared) (σ : St) (H : Hp) (Q : Option Int → Hp → Prop), Inv X pins σ H s → t σ H Q →
    wpAny (model X.prog X.w) X.A (evalPart e X.env) (fun u s' => ∃ o H', Inv X pins σ H' s' ∧ IsPart u o ∧ Q o H') X.xe s
noncomputable def tNoPart : TO := fun _ H Q => Q none H
noncomputable def tPart (t : TE) : TO := fun σ H Q => t σ H fun x H1 => ∃ i, x = .int i ∧ Q (some i) H1

theorem intsAre_of {ns : List Int} : ∀ {us : List Value}, Vals (ns.map V.int) us → IntsAre us ns := by
  induction ns with
  | nil => intro us r; rw [List.map_nil] at r; cases r; exact .nil
  | cons n ns ih =>
    intro us r
    rw [List.map_cons] at r
    cases r with
    | cons r1 r2 =>
      obtain ⟨t, e⟩ := r1
      subst e
      exact .cons n t (ih r2)

section
variable {X : Cx} {e : Expr} {te : TE} {lo hi : Option Expr} {tl th : TO} {pos p2 : Pos}

theorem po_none : PO X none tNoPart := by
  intro pins s σ H Q I h
  rw [evalPart_none]
  exact wpAny_pure ⟨none, H, I, .none, h⟩
theorem po_some (h : PE X e te) : PO X (some e) (tPart te) := by
  intro pins s σ H Q I hw
  rw [evalPart_some]
  refine thn (h pins s σ H _ I hw) fun u s1 ⟨x, H1, I1, r1, q1⟩ => ?_
  obtain ⟨i, rfl, q⟩ := q1
  obtain ⟨t, rfl⟩ := r1
  exact ⟨some i, H1, I1, .int i t, q⟩

noncomputable def SlR (X : Cx) (r : V → Option Int → Option Int → Hp → VK → Prop) : Prop :=
  ∀ (pins : List (Addr × Obj)) (s : Shared) (σ : St) (H : Hp) (x : V) (v vl vu : Value) (lo hi : Option Int) (sl : Addr) (Q : VK), Inv X pins σ H s → RelV x v → s.heap.IsSliceOf sl vl vu .none → IsPart vl lo → IsPart vu hi → r x lo hi H Q →
    ∃ T id, typeLookup (.type T) "__getitem__" = pure (some (.builtin id)) ∧ s.TypeIs v T ∧ wpAny (model X.prog X.w) X.A (getItem v (.ref sl)) (EP X pins σ Q) X.xe s
noncomputable def tSl (r : V → Option Int → Option Int → Hp → VK → Prop) (te : TE) (tl th : TO) : TE := fun σ H Q => te σ H fun x H1 => tl σ H1 fun l H2 => th σ H2 fun u H3 => r x l u H3 Q
theorem pe_slice {r : V → Option Int → Option Int → Hp → VK → Prop} (hr : SlR X r) (he : PE X e te) (hl : PO X lo tl) (hu : PO X hi th) : PE X (.Subscript e (.Slice lo hi none p2) pos) (tSl r te tl th) := by
  intro pins s σ H Q I h
  refine Subscript_ (thn (he pins s σ H _ I h) fun v s1 ⟨x, H1, I1, r1, q1⟩ => ?_)
  refine wpAny_Slice (thn (hl pins s1 σ H1 _ I1 q1) fun vl s2 ⟨l, H2, I2, pl, q2⟩ => thn (hu pins s2 σ H2 _ I2 q2) fun vu s3 ⟨u, H3, I3, pu, q3⟩ => ?_)
  rw [evalPart_none]
  refine wpAny_pure ?_
  have I4 : Inv X pins σ H3 { s3 with heap := s3.heap.push { cls := .type "slice", data := .fields #[vl, vu, .none] } } := I3.kept (t' := s3.toks) fun b ob q => Heap.get?_push_of_some _ q
  obtain ⟨T, id, hT, ht, hg⟩ := hr pins { s3 with heap := s3.heap.push { cls := .type "slice", data := .fields #[vl, vu, .none] } } σ H3 x v vl vu l u s3.heap.objs.size Q I4 r1 (Heap.IsSliceOf.new ..) pl pu q3
  show wpAny (model X.prog X.w) X.A (subscriptTail e (.Slice lo hi none p2) v (.ref s3.heap.objs.size)) (EP X pins σ Q) X.xe { s3 with heap := s3.heap.push { cls := .type "slice", data := .fields #[vl, vu, .none] } }
  exact tail_any (ops := [.ref s3.heap.objs.size, v]) ht hT hg (by with_unfolding_all rfl)

noncomputable def cutV (xs : List V) (lo hi : Option Int) : List V := (xs.drop (HT.sIx xs.length 0 lo)).take (HT.sIx xs.length xs.length hi - HT.sIx xs.length 0 lo)
theorem cutV_length (xs : List V) (lo hi : Option Int) : (cutV xs lo hi).length ≤ xs.length := by
  unfold cutV
  rw [List.length_take, List.length_drop]
  omega
noncomputable def rCatT (K : PySem.W.Frag) : R2 := fun x y H Q => ∃ a b xs ys, x = .ref a ∧ y = .ref b ∧ SqT K H a xs ∧ SqT K H b ys ∧ xs ≠ [] ∧ xs.length + ys.length ≤ sizeLine ∧
  (ys = [] → Q (.ref a) H) ∧ (ys ≠ [] → ∀ p, H p = none → Q (.ref p) (upd H p (.tup (xs ++ ys))))
theorem Vals.nil_iff {xs : List V} {us : List Value} (r : Vals xs us) : us = [] ↔ xs = [] := by
  cases r with
  | nil => simp
  | cons _ _ => simp
theorem op_catT : OpR X (binaryOp .Add) (rCatT X.K) := by
  intro pins s σ H x y v u Q I rx ry h
  obtain ⟨a, b, xs, ys, rfl, rfl, ha, hb, hx, hz, q1, q2⟩ := h
  cases rx
  cases ry
  obtain ⟨its, r1, p1, _⟩ := I.tuple ha
  obtain ⟨its2, r2, p2, _⟩ := I.tuple hb
  refine HT.cat_tup p1 p2 (fun z => hx (r1.nil_iff.mp z)) (fun z => ⟨.ref a, H, I, rfl, q1 (r2.nil_iff.mp z)⟩) (fun z => ?_) (by rw [← r1.length, ← r2.length]; exact hz)
  refine ⟨.ref s.heap.objs.size, _, I.laid (t' := s.toks) (o := .tup (xs ++ ys)) (fun b ob q => Heap.get?_push_of_some _ q) (Nat.le_refl _) ?_, rfl, q2 (fun w => z (r2.nil_iff.mpr w)) _ (I.hok.fresh (Nat.le_refl _))⟩
  exact ⟨by rw [List.length_append]; exact hz, _, r1.append r2, IsTup.new _ _⟩
end
end L2

namespace L2
open PySem PySem.Spec PyProof.Rows

noncomputable def ixN (n : Nat) (i : Int) : Option Nat := if 0 ≤ i then (if i < n then some i.toNat else none) else if -(n : Int) ≤ i then some (i + n).toNat else none
noncomputable def atI {α : Type} (xs : List α) (i : Int) : Option α := (ixN xs.length i).bind fun j => xs[j]?
theorem ixN_seq {n : Nat} {i : Int} {j : Nat} (h : ixN n i = some j) : seqIndex? i n = some j ∧ j < n ∧ -(n : Int) ≤ i ∧ i < n := by
  unfold ixN at h
  by_cases h0 : 0 ≤ i
  · rw [if_pos h0] at h
    by_cases h1 : i < n
    · rw [if_pos h1] at h
      have e : i.toNat = j := Option.some.inj h
      exact ⟨by rw [seqIndex_of h0 h1, e], by omega, by omega, h1⟩
    · rw [if_neg h1] at h; cases h
  · rw [if_neg h0] at h
    by_cases h1 : -(n : Int) ≤ i
    · rw [if_pos h1] at h
      have e : (i + n).toNat = j := Option.some.inj h
      exact ⟨by rw [seqIndex_neg (by omega) h1, e], by omega, h1, by omega⟩
    · rw [if_neg h1] at h; cases h
theorem atI_get {α : Type} {xs : List α} {i : Int} {v : α} (h : atI xs i = some v) : ∃ j, seqIndex? i xs.length = some j ∧ xs[j]? = some v ∧ j < xs.length ∧ -(xs.length : Int) ≤ i ∧ i < xs.length := by
  unfold atI at h
  cases e : ixN xs.length i with
  | none => rw [e] at h; cases h
  | some j =>
    rw [e] at h
    obtain ⟨h1, h2, h3, h4⟩ := ixN_seq e
    exact ⟨j, h1, h, h2, h3, h4⟩
theorem atI_nat {α : Type} {xs : List α} {j : Nat} {v : α} (h : xs[j]? = some v) : atI xs (j : Int) = some v := by
  have hj : j < xs.length := (List.getElem?_eq_some_iff.mp h).1
  have e : ixN xs.length (j : Int) = some j := by
    unfold ixN
    rw [if_pos (by omega), if_pos (by omega)]; simp
  unfold atI; rw [e]; exact h
noncomputable def PlainIx (b : Expr) : Prop := ∀ o i, subscripted b false o i = operate [o, i] (getItem o i)
noncomputable def IxR (X : Cx) (r : R2) : Prop :=
  ∀ (value slice : Expr) (pins : List (Addr × Obj)) (s : Shared) (σ : St) (H : Hp) (x y : V) (v u : Value) (Q : VK), Inv X pins σ H s → RelV x v → RelV y u → r x y H Q →
    subscripted slice false v u = operate [v, u] (getItem v u) → wpAny (model X.prog X.w) X.A (subscriptTail value slice v u) (EP X pins σ Q) X.xe s
noncomputable def MtR (X : Cx) (id : String) (r : V → List V → Hp → VK → Prop) : Prop :=
  ∀ (pins : List (Addr × Obj)) (s : Shared) (σ : St) (H : Hp) (x : V) (xs : List V) (v : Value) (us : List Value) (Q : VK), Inv X pins σ H s → RelV x v → Vals xs us → r x xs H Q →
    wpAny (model X.prog X.w) X.A (call (.builtin id) (v :: us)) (EP X pins σ Q) X.xe s
section
variable {X : Cx} {a b : Expr} {ta tb : TE} {pos : Pos}
theorem pe_ix {r : R2} (hr : IxR X r) (ha : PE X a ta) (hb : PE X b tb) (hs : PlainIx b) : PE X (.Subscript a b pos) (tOp r ta tb) := by
  intro pins s σ H Q I h
  exact Subscript_ (binT ha hb I h fun v u s2 x y H2 I2 rx ry q => hr a b pins s2 σ H2 x y v u Q I2 rx ry q (hs _ _))

noncomputable def rIxL (K : PySem.W.Frag) : R2 := fun x y H Q => ∃ p xs i v, x = .ref p ∧ y = .int i ∧ SqL K H p xs ∧ atI xs i = some v ∧ Q v H
noncomputable def rIxT (K : PySem.W.Frag) : R2 := fun x y H Q => ∃ p xs i v, x = .ref p ∧ y = .int i ∧ SqT K H p xs ∧ atI xs i = some v ∧ Q v H
theorem ix_list : IxR X (rIxL X.K) := by
  intro value slice pins s σ H x y v u Q I rx ry h hs
  obtain ⟨p, xs, i, z, rfl, rfl, hq, he, q⟩ := h
  cases rx
  obtain ⟨t, rfl⟩ := ry
  obtain ⟨its, r, pl, hz⟩ := I.list hq
  obtain ⟨j, h1, h2, h3, h4, h5⟩ := atI_get he
  obtain ⟨w, ew, rw'⟩ := r.get h2
  have hl := r.length
  have hn := line63
  have fin : EP X pins σ Q w s := ⟨z, H, I, rw', q⟩
  by_cases h0 : 0 ≤ i
  · have hj : i.toNat = j := by
      rw [seqIndex_of h0 h5] at h1
      exact Option.some.inj h1
    exact item_listR pl.isList h0 (by omega) (by rw [hj]; simpa using ew) fin hs
  · have hj : (i + (its.toArray.size : Int)).toNat = j := by
      rw [seqIndex_neg (by omega) h4] at h1
      rw [List.size_toArray, ← hl]
      exact Option.some.inj h1
    exact subscriptTail_builtinR (x := w) pl.isList.typeIs slot_list_getitem.lookup
      (wpAny_getItem_list_neg (Q := fun r s' => r = w ∧ EP X pins σ Q r s') pl.isList (by omega) (by rw [List.size_toArray] <;> omega) (by omega) (by rw [hj]; simpa using ew) ⟨rfl, fin⟩) hs
theorem ix_tup : IxR X (rIxT X.K) := by
  intro value slice pins s σ H x y v u Q I rx ry h hs
  obtain ⟨p, xs, i, z, rfl, rfl, hq, he, q⟩ := h
  cases rx
  obtain ⟨t, rfl⟩ := ry
  obtain ⟨its, r, pl, hz⟩ := I.tuple hq
  obtain ⟨j, h1, h2, h3, h4, h5⟩ := atI_get he
  obtain ⟨w, ew, rw'⟩ := r.get h2
  have hl := r.length
  have hn := line63
  have fin : EP X pins σ Q w s := ⟨z, H, I, rw', q⟩
  exact subscriptTail_builtinR (x := w) pl.typeIs slot_tuple_getitem.lookup
    (getItem_tuple (j := j) (Q := fun r s' => r = w ∧ EP X pins σ Q r s') pl (by omega) (by omega) (by rw [List.size_toArray, ← hl]; exact h1) (by simpa using ew) ⟨rfl, fin⟩) hs
theorem mapSeq_set (its : List Value) (n j : Nat) (u : Value) : Obj.mapSeq (·.setIfInBounds j u) { cls := .type "list", data := .seq its.toArray n } = { cls := .type "list", data := .seq (its.set j u).toArray n } := by
  simp [Obj.mapSeq]
theorem Inv.lst {pins : List (Addr × Obj)} {σ : St} {H : Hp} {s : Shared} {p : Addr} {xs : List V} (I : Inv X pins σ H s) (h : H p = some (.lst xs)) :
    ∃ (its : List Value) (n : Nat), Vals xs its ∧ s.heap.get? p = some { cls := .type "list", data := .seq its.toArray n } ∧ xs.length ≤ sizeLine := by
  obtain ⟨z, its, n, r, e⟩ := I.hok p _ h
  exact ⟨its, n, r, e, z⟩
theorem Inv.lstUpd {pins : List (Addr × Obj)} {σ : St} {H : Hp} {s : Shared} {p : Addr} {xs ys : List V} {its its' : List Value} {n n' : Nat} {f : Obj → Obj} (I : Inv X pins σ H s) (h : H p = some (.lst xs))
    (ho : s.heap.get? p = some { cls := .type "list", data := .seq its.toArray n }) (hf : f { cls := .type "list", data := .seq its.toArray n } = { cls := .type "list", data := .seq its'.toArray n' }) (r : Vals ys its') (hz : ys.length ≤ sizeLine) (t : Nat) :
    Inv X pins σ (upd H p (.lst ys)) { s with heap := s.heap.update p f, toks := t } := by
  have e : (s.heap.update p f).get? p = some { cls := .type "list", data := .seq its'.toArray n' } := by
    rw [Heap.get?_update_self f ho (by rw [hf] <;> rfl), hf]
  refine I.write (x := p) (e := p) (by rw [h]; trivial) (.inl rfl) (fun b u hb q => (Heap.get?_update_other _ _ (Ne.symm hb)).trans q) ⟨_, e⟩ ?_
  exact ⟨hz, its', n', r, e⟩
noncomputable def rSetL : V → V → V → Hp → (Hp → Prop) → Prop := fun o i v H Q => ∃ p xs k j, o = .ref p ∧ i = .int k ∧ H p = some (.lst xs) ∧ ixN xs.length k = some j ∧ Q (upd H p (.lst (xs.set j v)))
theorem set_list : PSet X rSetL := by
  intro pins s σ H o i v ov iv u Q I ro ri rv h
  obtain ⟨p, xs, k, j, rfl, rfl, hp, hj, q⟩ := h
  cases ro
  obtain ⟨t, rfl⟩ := ri
  obtain ⟨its, n, r, ho, hz⟩ := I.lst hp
  obtain ⟨h1, h2, h3, h4⟩ := ixN_seq hj
  have hl := r.length
  have hn := line63
  have I' : Inv X pins σ (upd H p (.lst (xs.set j v))) { s with heap := s.heap.update p (Obj.mapSeq (·.setIfInBounds j u)) } :=
    I.lstUpd hp ho (mapSeq_set its n j u) (r.set rv j) (by rw [List.length_set]; exact hz) s.toks
  by_cases h0 : 0 ≤ k
  · have hk : k.toNat = j := by
      rw [seqIndex_of h0 h4] at h1
      exact Option.some.inj h1
    exact PySem.W.ki_setAt ho h0 (by omega) (by rw [List.size_toArray, ← hl]; exact h4) (by rw [hk]; exact ⟨_, I', q⟩)
  · have hk : (k + (its.toArray.size : Int)).toNat = j := by
      rw [seqIndex_neg (by omega) h3] at h1
      rw [List.size_toArray, ← hl]
      exact Option.some.inj h1
    exact PySem.W.ki_setBack ho (by omega) (by rw [List.size_toArray, ← hl]; exact h3) (by omega) (by rw [hk]; exact ⟨_, I', q⟩)

theorem slice_bounds (lo hi : Option Int) (n : Nat) : (sliceBounds lo hi none n).1 = ((HT.sIx n 0 lo : Nat) : Int) ∧ (sliceBounds lo hi none n).2.1 = ((HT.sIx n n hi : Nat) : Int) ∧ (sliceBounds lo hi none n).2.2 = 1 := by
  refine ⟨?_, ?_, rfl⟩
  · cases lo with
    | none => simp [sliceBounds, HT.sIx]
    | some i =>
      simp only [sliceBounds, HT.sIx, Option.getD_none, show (1 : Int) > 0 by decide, if_true]
      by_cases h : i < 0
      · simp only [h, if_true] <;> omega
      · simp only [h, if_false] <;> omega
  · cases hi with
    | none => simp [sliceBounds, HT.sIx]
    | some i =>
      simp only [sliceBounds, HT.sIx, Option.getD_none, show (1 : Int) > 0 by decide, if_true]
      by_cases h : i < 0
      · simp only [h, if_true] <;> omega
      · simp only [h, if_false] <;> omega
theorem slicePick_cut (its : List Value) (lo hi : Option Int) : slicePick its.toArray lo hi none = ((its.drop (HT.sIx its.length 0 lo)).take (HT.sIx its.length its.length hi - HT.sIx its.length 0 lo)).toArray := by
  obtain ⟨h1, h2, h3⟩ := slice_bounds lo hi its.toArray.size
  unfold slicePick
  rw [h1, h2, h3]
  simp only [sliceRange_one, pick_run, List.size_toArray] <;> rfl
noncomputable def rSlL (K : PySem.W.Frag) : V → Option Int → Option Int → Hp → VK → Prop := fun x lo hi H Q => ∃ a xs, x = .ref a ∧ SqL K H a xs ∧ ∀ p, H p = none → Q (.ref p) (upd H p (.lst (cutV xs lo hi)))
theorem sl_list : SlR X (rSlL X.K) := by
  intro pins s σ H x v vl vu lo hi sl Q I rx hs pl pu h
  obtain ⟨a, xs, rfl, hx, q⟩ := h
  cases rx
  obtain ⟨its, r, ht, hz⟩ := I.list hx
  have hlen := r.length
  refine ⟨"list", _, slot_list_getitem.lookup, ht.isList.typeIs, ?_⟩
  refine wpAny_getItem_list_slice ht.isList hs pl pu .none (by simp) ?_ (by rw [List.size_toArray] <;> omega)
  rw [slicePick_cut, ← hlen]
  refine ⟨.ref s.heap.objs.size, _, I.laid (t' := s.toks) (o := .lst (cutV xs lo hi)) (fun b ob q => Heap.get?_push_of_some _ q) (Nat.le_refl _) ?_, rfl, q _ (I.hok.fresh (Nat.le_refl _))⟩
  exact ⟨Nat.le_trans (cutV_length xs lo hi) hz, _, 0, (r.drop (HT.sIx xs.length 0 lo)).take (HT.sIx xs.length xs.length hi - HT.sIx xs.length 0 lo), Heap.get?_push_size _ rfl⟩

noncomputable def flatV : V → Bool
  | .non => true
  | .bl _ => true
  | .int _ => true
  | .str _ => true
  | _ => false
noncomputable def eqV : V → V → Bool
  | .non, .non => true
  | .bl a, .bl b => a == b
  | .bl a, .int b => (if a then 1 else 0) == b
  | .int a, .bl b => a == (if b then 1 else 0)
  | .int a, .int b => a == b
  | .str a, .str b => a == b
  | _, _ => false
theorem eqAt_V {A : Around} {s : Shared} {y x : V} {u v : Value} (ry : RelV y u) (rx : RelV x v) (fy : flatV y = true) (fx : flatV x = true) : SeqAt.EqAt A s u v (eqV y x) := by
  cases y with
  | non =>
    cases ry
    cases x with
    | non => cases rx; exact SeqAt.EqAt.same _
    | bl b => cases rx; exact SeqAt.EqAt.none_bool b
    | int b => obtain ⟨t, rfl⟩ := rx; exact SeqAt.EqAt.none_int b t
    | str b => obtain ⟨t, rfl⟩ := rx; exact SeqAt.EqAt.none_str b t
    | _ => exact absurd (show false = true from fx) Bool.false_ne_true
  | bl a =>
    cases ry
    cases x with
    | non => cases rx; exact SeqAt.EqAt.bool_none a
    | bl b => cases rx; exact SeqAt.EqAt.bool_bool a b
    | int b => obtain ⟨t, rfl⟩ := rx; exact SeqAt.EqAt.bool_int a b t
    | str b => obtain ⟨t, rfl⟩ := rx; exact SeqAt.EqAt.bool_str a b t
    | _ => exact absurd (show false = true from fx) Bool.false_ne_true
  | int a =>
    obtain ⟨t', rfl⟩ := ry
    cases x with
    | non => cases rx; exact SeqAt.EqAt.int_none a t'
    | bl b => cases rx; exact SeqAt.EqAt.int_bool a t' b
    | int b => obtain ⟨t, rfl⟩ := rx; exact SeqAt.EqAt.int_int a t' b t
    | str b => obtain ⟨t, rfl⟩ := rx; exact SeqAt.EqAt.int_str a t' b t
    | _ => exact absurd (show false = true from fx) Bool.false_ne_true
  | str a =>
    obtain ⟨t', rfl⟩ := ry
    cases x with
    | non => cases rx; exact SeqAt.EqAt.str_none a t'
    | bl b => cases rx; exact SeqAt.EqAt.str_bool a t' b
    | int b => obtain ⟨t, rfl⟩ := rx; exact SeqAt.EqAt.str_int a t' b t
    | str b => obtain ⟨t, rfl⟩ := rx; exact SeqAt.EqAt.str_str a t' b t
    | _ => exact absurd (show false = true from fx) Bool.false_ne_true
  | _ => exact absurd (show false = true from fy) Bool.false_ne_true
noncomputable def eqU (x : V) (u : Value) : Bool := match u with
  | .none => eqV .non x
  | .bool b => eqV (.bl b) x
  | .int i _ => eqV (.int i) x
  | .str z _ => eqV (.str z) x
  | _ => false
theorem eqU_of {x y : V} {u : Value} (r : RelV y u) (f : flatV y = true) : eqU x u = eqV y x := by
  cases y with
  | non => cases r; rfl
  | bl b => cases r; rfl
  | int i => obtain ⟨t, rfl⟩ := r; rfl
  | str z => obtain ⟨t, rfl⟩ := r; rfl
  | _ => exact absurd (show false = true from f) Bool.false_ne_true
theorem any_eqU {x : V} : ∀ {xs : List V} {us : List Value}, Vals xs us → xs.all flatV = true → us.any (eqU x) = xs.any fun y => eqV y x
  | _, _, .nil, _ => rfl
  | y :: xs, u :: us, .cons r t, f => by
    rw [List.all_cons, Bool.and_eq_true] at f
    rw [List.any_cons, List.any_cons, eqU_of r f.1, any_eqU t f.2]
theorem mem_eqAt {A : Around} {s : Shared} {x : V} {v : Value} (rx : RelV x v) (fx : flatV x = true) : ∀ {xs : List V} {us : List Value}, Vals xs us → xs.all flatV = true → ∀ u ∈ us, SeqAt.EqAt A s u v (eqU x u)
  | _, _, .nil, _ => fun u hu => by cases hu
  | y :: xs, u :: us, .cons r t, f => fun u' hu => by
    rw [List.all_cons, Bool.and_eq_true] at f
    rcases List.mem_cons.mp hu with rfl | hu
    · rw [eqU_of r f.1]; exact eqAt_V r rx f.1 fx
    · exact mem_eqAt rx fx t f.2 u' hu
noncomputable def inV (x : V) (xs : List V) : Bool := xs.any fun y => eqV y x
noncomputable def rIn (K : PySem.W.Frag) (neg : Bool) : R2 := fun x y H Q => ∃ p xs, y = .ref p ∧ (SqL K H p xs ∨ SqT K H p xs) ∧ flatV x = true ∧ xs.all flatV = true ∧ Q (.bl (if neg then !inV x xs else inV x xs)) H
theorem op_notIn_seq : OpR X (compareOp .NotIn) (rIn X.K true) := by
  intro pins s σ H x y v u Q I rx ry h
  obtain ⟨p, xs, rfl, hq, fx, fs, q⟩ := h
  cases ry
  rcases hq with hq | hq
  · obtain ⟨its, r, pl, hz⟩ := I.list hq
    refine SeqAt.notIn_listAt (eqU x) pl.isList (fun w hw => mem_eqAt rx fx r fs w (by simpa using hw)) ⟨.bl _, H, I, rfl, ?_⟩
    rw [show its.toArray.any (eqU x) = its.any (eqU x) by simp, any_eqU r fs]
    exact q
  · obtain ⟨its, r, pl, hz⟩ := I.tuple hq
    refine SeqAt.notIn_tupleAt (eqU x) pl (fun w hw => mem_eqAt rx fx r fs w (by simpa using hw)) ⟨.bl _, H, I, rfl, ?_⟩
    rw [show its.toArray.any (eqU x) = its.any (eqU x) by simp, any_eqU r fs]
    exact q
theorem call_len_seq : CallR X (.builtin "len") (fun xs H Q => ∃ p ys, xs = [.ref p] ∧ (SqL X.K H p ys ∨ SqT X.K H p ys) ∧ Q (.int ys.length) H) := by
  intro pins s σ H xs us Q I r h
  obtain ⟨p, ys, rfl, hq, q⟩ := h
  obtain ⟨u, rfl, rx⟩ := vals1 r
  cases rx
  have hn := line63
  rcases hq with hq | hq
  · obtain ⟨its, r', pl, hz⟩ := I.list hq
    have hlen := r'.length
    exact Calls.call_len_list pl.isList (by simp only [List.size_toArray] <;> omega) ⟨.int ys.length, H, I.tok _, ⟨s.toks + 1, by rw [List.size_toArray, hlen]⟩, q⟩
  · obtain ⟨its, r', pl, hz⟩ := I.tuple hq
    have hlen := r'.length
    exact len_tuple pl (by simp only [List.size_toArray] <;> omega) ⟨.int ys.length, H, I.tok _, ⟨s.toks + 1, by rw [List.size_toArray, hlen]⟩, q⟩
noncomputable def tyV (K : PySem.W.Frag) (T : String) (x : V) (H : Hp) : Prop := match x with
  | .str _ => T = "str"
  | .int _ => T = "int"
  | .ref p => (T = "list" ∧ ∃ xs, SqL K H p xs) ∨ (T = "tuple" ∧ ∃ o, K.lookup p = some o ∧ o.cls = .type "tuple" ∧ o.dict = none) ∨
      (T = "dict" ∧ ((∃ kvs, H p = some (.dK kvs)) ∨ ∃ kvs, H p = some (.dT kvs))) ∨ (T = "set" ∧ ∃ S n, H p = some (.set S n))
  | _ => False
theorem tyV_is {pins : List (Addr × Obj)} {σ : St} {H : Hp} {s : Shared} {T : String} {x : V} {v : Value} (I : Inv X pins σ H s) (r : RelV x v) (ty : tyV X.K T x H) :
    s.TypeIs v T ∧ ∀ a, v = .ref a → ∃ ob, s.heap.get? a = some ob ∧ ob.dict = none := by
  cases x with
  | str z =>
    obtain ⟨t, rfl⟩ := r
    cases (show T = "str" from ty)
    exact ⟨typeIs_str s z t, fun _ e => nomatch e⟩
  | int i =>
    obtain ⟨t, rfl⟩ := r
    cases (show T = "int" from ty)
    exact ⟨typeIs_int s i t, fun _ e => nomatch e⟩
  | ref p =>
    cases r
    rcases ty with ⟨rfl, xs, hq⟩ | ⟨rfl, o, hk, hc, hd⟩ | ⟨rfl, hk⟩ | ⟨rfl, S, n, hk⟩
    · obtain ⟨its, _, pl, _⟩ := I.list hq
      refine ⟨pl.isList.typeIs, fun a e => ?_⟩
      cases e
      obtain ⟨o, n, e, c, hd, _⟩ := pl
      exact ⟨o, e, hd⟩
    · refine ⟨⟨o, I.kIn p o hk, hc⟩, fun a e => ?_⟩
      cases e
      exact ⟨o, I.kIn _ o hk, hd⟩
    · have z : ∃ o, s.heap.get? p = some o ∧ o.ExactDict := by
        rcases hk with ⟨kvs, hk⟩ | ⟨kvs, hk⟩
        · obtain ⟨_, _, _, _, o, _, _, e, ex, _⟩ := I.hok p _ hk
          exact ⟨o, e, ex⟩
        · obtain ⟨_, _, _, _, o, _, _, e, ex, _⟩ := I.hok p _ hk
          exact ⟨o, e, ex⟩
      obtain ⟨o, e, ex⟩ := z
      refine ⟨⟨o, e, ex.1⟩, fun a e2 => ?_⟩
      cases e2
      exact ⟨o, e, ex.2.1⟩
    · obtain ⟨o, _, _, _, e, ex, _⟩ := I.hok p _ hk
      refine ⟨⟨o, e, ex.1⟩, fun a e2 => ?_⟩
      cases e2
      exact ⟨o, e, ex.2.1⟩
  | _ => exact False.elim ty
noncomputable def tBM0 (K : PySem.W.Frag) (T : String) (r : V → List V → Hp → VK → Prop) (to : TE) : TE := fun σ H Q => to σ H fun x H1 => tyV K T x H1 ∧ r x [] H1 Q
noncomputable def tBM (K : PySem.W.Frag) (T : String) (r : V → List V → Hp → VK → Prop) (to : TE) (t : TA) : TE := fun σ H Q => to σ H fun x H1 => tyV K T x H1 ∧ t σ H1 fun xs H2 => r x xs H2 Q
variable {o e : Expr} {es : List Expr} {to : TE} {t : TA} {name : Str} {apos cpos : Pos} {T id : String} {r : V → List V → Hp → VK → Prop}
theorem pe_bm0 (pa : PlainAttrs T) (slot : Slot T name id) (hty : typeOf (.builtin id) = pure (.type "method_descriptor")) (hm : MtR X id r) (ho : PE X o to)
    (hbase : autoParam (attributeBase o name X.env (eval o X.env) = eval o X.env) au0_._auto_1) (hline : autoParam ((apos.endLine == cpos.line) = true) au0_._auto_1) : PE X (.Call (.Attribute o name apos) [] [] cpos) (tBM0 X.K T r to) := by
  intro pins s σ H Q I h
  refine wpAny_Call_method0_late hbase hline (thn (ho pins s σ H _ I h) fun v s1 ⟨x, H1, I1, r1, ty, q1⟩ => ?_)
  obtain ⟨h1, h2⟩ := tyV_is I1 r1 ty
  exact ⟨T, id, pa, slot, hty, h1, h2, Calls.callWith_builtin rfl (PySem.evalArgs_none (hm pins s1 σ H1 x [] v [] Q I1 r1 .nil q1))⟩
theorem pe_bm (pa : PlainAttrs T) (slot : Slot T name id) (hty : typeOf (.builtin id) = pure (.type "method_descriptor")) (hm : MtR X id r) (ho : PE X o to) (ha : PA X (e :: es) t)
    (hbase : autoParam (attributeBase o name X.env (eval o X.env) = eval o X.env) au0_._auto_1)
    (hfew : autoParam (((backTo cpos (starEach (e :: es) X.env)).all (fun x => !x.1) && (backToKw cpos (keywordEach [] X.env)).all (fun x => x.1.isSome)
      && decide ((e :: es).length + ([] : List Keyword).length + (if ([] : List Keyword).isEmpty then 0 else 1) < 30)) = true) au0_._auto_1)
    (hline : autoParam ((apos.endLine == cpos.line) = true) au0_._auto_1) (hs : autoParam (starEach (e :: es) X.env = (false, eval e X.env) :: starEach es X.env) au0_._auto_1) (hplain : autoParam ((backTo cpos (starEach es X.env)).any (·.1) = false) au0_._auto_1) :
    PE X (.Call (.Attribute o name apos) (e :: es) [] cpos) (tBM X.K T r to t) := by
  intro pins s σ H Q I h
  refine wpAny_Call_method_late hbase hfew hline rfl (thn (ho pins s σ H _ I h) fun v s1 ⟨x, H1, I1, r1, ty, q1⟩ => ?_)
  obtain ⟨h1, h2⟩ := tyV_is I1 r1 ty
  refine ⟨T, id, pa, slot, hty, h1, h2, ?_⟩
  have hA := ha cpos pins s1 σ H1 _ I1 q1
  rw [hs] at hA ⊢
  refine Calls.callWith_builtin (by show (false || (backTo cpos (starEach es X.env)).any (·.1)) = false; rw [hplain] <;> rfl) (Calls.evalArgs_plain ?_)
  exact thn hA fun us s2 ⟨vs, H2, I2, r2, q2⟩ => hm pins s2 σ H2 x vs v us Q I2 r1 r2 q2
/- xs.append(e), list.index on a module's tuple .. are MtR facts of 06m -/
end
end L2

namespace L2
open PySem PySem.Spec PyProof.Rows

noncomputable def MtM (X : Cx) (id : String) (r : V → List V → Hp → VK → Prop) : Prop :=
  ∀ (pins : List (Addr × Obj)) (s : Shared) (σ : St) (H : Hp) (x : V) (xs : List V) (v : Value) (us : List Value) (Q : VK), Inv X pins σ H s → RelV x v → Vals xs us → r x xs H Q →
    wpAny (model X.prog X.w) X.A (call (.builtin id) (v :: us)) (EP X pins σ Q) X.xe s

theorem Vals.one : ∀ {x : V} {us : List Value}, Vals [x] us → ∃ u, us = [u] ∧ RelV x u
  | _, _, .cons r .nil => ⟨_, rfl, r⟩
theorem Vals.rep {xs : List V} {us : List Value} (h : Vals xs us) : ∀ k : Nat, Vals (List.replicate k xs).flatten (List.replicate k us).flatten
  | 0 => .nil
  | k + 1 => by
    rw [List.replicate_succ, List.replicate_succ, List.flatten_cons, List.flatten_cons]
    exact Vals.append h (Vals.rep h k)
theorem foldl_rep (its : List Value) : ∀ (k : Nat) (acc : List Value),
    List.foldl (fun x1 x2 => x1 ++ x2) acc.toArray (List.replicate k its.toArray) = (acc ++ (List.replicate k its).flatten).toArray
  | 0, acc => by simp
  | k + 1, acc => by
    have e : acc.toArray ++ its.toArray = (acc ++ its).toArray := by simp
    have e2 : (acc ++ its) ++ (List.replicate k its).flatten = acc ++ (List.replicate (k + 1) its).flatten := by
      rw [List.replicate_succ, List.flatten_cons, List.append_assoc]
    rw [← e2, ← foldl_rep its k (acc ++ its), ← e, List.replicate_succ, List.foldl_cons]

section
variable {X : Cx} {pins : List (Addr × Obj)} {σ : St} {H : Hp} {s : Shared} {l b : Addr} {xs ys zs : List V}

theorem Inv.lset {its its' : List Value} {n : Nat} {f : Array Value → Array Value} {t' : Nat} (I : Inv X pins σ H s) (hH : H l = some (.lst xs))
    (e : s.heap.get? l = some { cls := .type "list", data := .seq its.toArray n }) (hf : f its.toArray = its'.toArray) (hv : Vals ys its') (hz : ys.length ≤ sizeLine) :
    Inv X pins σ (upd H l (.lst ys)) { s with heap := s.heap.update l (Obj.mapSeq f), toks := t' } := by
  have q := PySem.IsL.update e f
  rw [hf] at q
  refine I.write (x := l) (e := l) (by rw [hH]; exact trivial) (.inl rfl) (fun b' u hb hu => (Heap.get?_update_other s.heap (Obj.mapSeq f) (Ne.symm hb)).trans hu) ⟨_, q⟩ ?_
  exact ⟨hz, its', _, hv, q⟩
theorem Inv.lnew {its : List Value} {t' : Nat} (I : Inv X pins σ H s) (hv : Vals ys its) (hz : ys.length ≤ sizeLine) :
    Inv X pins σ (upd H s.heap.objs.size (.lst ys)) { s with heap := s.heap.push { cls := .type "list", data := .seq its.toArray }, toks := t' } :=
  I.laid (fun _ _ q => Heap.get?_push_of_some _ q) (Nat.le_refl _) ⟨hz, its, 0, hv, Heap.get?_push_size _ rfl⟩
theorem Inv.fresh (I : Inv X pins σ H s) : H s.heap.objs.size = none := I.hok.fresh (Nat.le_refl _)
theorem Inv.lstM (I : Inv X pins σ H s) (hH : H l = some (.lst xs)) : xs.length ≤ sizeLine ∧ ∃ (its : List Value) (n : Nat), Vals xs its ∧ xs.length = its.length ∧ s.heap.get? l = some { cls := .type "list", data := .seq its.toArray n } := by
  obtain ⟨z, its, n, r, e⟩ := I.hok l _ hH
  exact ⟨z, its, n, r, r.length, e⟩

theorem notLongL {n : Nat} (h : n ≤ sizeLine) : Builtin.List.listTooLong n = false := by
  unfold Builtin.List.listTooLong
  exact decide_eq_false (by omega)
end

section
variable {X : Cx}

noncomputable def rAppend : V → List V → Hp → VK → Prop := fun x vs H Q => ∃ l xs y, x = .ref l ∧ vs = [y] ∧ H l = some (.lst xs) ∧ xs.length < sizeLine ∧ Q .non (upd H l (.lst (xs ++ [y])))
theorem mt_append : MtM X "list.append" rAppend := by
  intro pins s σ H x vs v us Q I rx rv h
  obtain ⟨l, xs, y, rfl, rfl, hH, hz, q⟩ := h
  cases rx
  obtain ⟨u, rfl, ru⟩ := rv.one
  obtain ⟨z, its, n, r, hl, e⟩ := I.lstM hH
  refine call_meets F.slot_list_append ⟨_, e, rfl⟩ F.entry_list_append (F.args_list_append_2 _ _) (PySem.list_append l its.toArray n u (by rw [List.size_toArray]; omega)) ⟨e, ?_⟩
  refine ⟨.non, _, I.lset (its' := its ++ [u]) hH e (by simp) (r.append (.cons ru .nil)) ?_, rfl, q⟩
  rw [List.length_append, List.length_singleton]
  omega

noncomputable def rCat : R2 := fun x y H Q => ∃ l b xs zs, x = .ref l ∧ y = .ref b ∧ H l = some (.lst xs) ∧ H b = some (.lst zs) ∧ xs.length + zs.length ≤ sizeLine ∧ ∀ p, H p = none → Q (.ref p) (upd H p (.lst (xs ++ zs)))
theorem op_cat : OpR X (binaryOp .Add) rCat := by
  intro pins s σ H x y v u Q I rx ry h
  obtain ⟨l, b, xs, zs, rfl, rfl, hH, hB, hz, q⟩ := h
  cases rx
  cases ry
  obtain ⟨z, its, n, r, hl, e⟩ := I.lstM hH
  obtain ⟨z2, its2, n2, r2, hl2, e2⟩ := I.lstM hB
  refine PySem.P.add_list e e2 ?_ (by rw [List.size_toArray, List.size_toArray]; omega)
  have ea : its.toArray ++ its2.toArray = (its ++ its2).toArray := by simp
  rw [ea]
  exact ⟨.ref _, _, I.lnew (t' := s.toks) (r.append r2) (by rw [List.length_append]; omega), rfl, q _ I.fresh⟩
noncomputable def rRep : R2 := fun x y H Q => ∃ l k xs, x = .ref l ∧ y = .int k ∧ H l = some (.lst xs) ∧ -(2 ^ 63) ≤ k ∧ k < 2 ^ 63 ∧ xs.length * k.toNat ≤ sizeLine ∧
  ∀ p, H p = none → Q (.ref p) (upd H p (.lst (List.replicate k.toNat xs).flatten))
theorem len_rep {α : Type} (xs : List α) (k : Nat) : (List.replicate k xs).flatten.length = k * xs.length := by
  induction k with
  | zero => simp
  | succ k ih => rw [List.replicate_succ, List.flatten_cons, List.length_append, ih, Nat.succ_mul, Nat.add_comm]
theorem op_rep : OpR X (binaryOp .Mult) rRep := by
  intro pins s σ H x y v u Q I rx ry h
  obtain ⟨l, k, xs, rfl, rfl, hH, h1, h2, hz, q⟩ := h
  cases rx
  obtain ⟨t, rfl⟩ := ry
  obtain ⟨z, its, n, r, hl, e⟩ := I.lstM hH
  have hlen : its.toArray.size * k.toNat ≤ sizeLine := by rw [List.size_toArray, ← hl]; exact hz
  have hcap : ¬ its.toArray.size * k.toNat > (2 ^ 63 - 1) / 8 := by
    have : (sizeLine : Nat) ≤ (2 ^ 63 - 1) / 8 := by decide
    omega
  have hfit : ¬ (!Builtin.List.listFitsIndex k) = true := by
    rw [fitsIndex_both h1 h2]
    exact Bool.false_ne_true
  have hlong : ¬ Builtin.List.listTooLong (its.toArray.size * k.toNat) = true := by
    rw [notLongL hlen]
    exact Bool.false_ne_true
  have hnew : List.foldl (fun x1 x2 => x1 ++ x2) #[] (List.replicate (if its.toArray.isEmpty = true then 0 else k.toNat) its.toArray) = (List.replicate k.toNat its).flatten.toArray := by
    have f0 : ∀ m : Nat, List.foldl (fun x1 x2 => x1 ++ x2) #[] (List.replicate m its.toArray) = (List.replicate m its).flatten.toArray := fun m => by
      have := foldl_rep its m []
      rw [List.nil_append] at this
      exact this
    rw [f0]
    cases its with
    | nil => simp
    | cons a r' => rw [if_neg (by simp)]
  refine wpAny_binaryOp_repeat_ref (T := "list") (U := "int") (by decide) ⟨_, e, rfl⟩ (fun s' => typeIs_int s' k t) noFill_list_mul F.fills_int_mul F.slot_int_rmul repeat_list F.slot_int_index.lookup
    (call_meets F.slot_int_rmul (typeIs_int s k t) F.entry_int_rmul (F.args_int_rmul_2 _ _) (int___rmul___int_list k t l its.toArray n)
      ⟨e, rfl, ⟨_, e, rfl⟩, call_meets F.slot_list_mul ⟨_, e, rfl⟩ F.entry_list_mul (F.args_list_mul_2 _ _) (AutoListH.list___mul___list_int_3 l its.toArray n k t hfit hcap hlong) ⟨e, ?_⟩⟩)
  rw [hnew]
  exact ⟨.ref _, _, I.lnew (t' := s.toks) (r.rep k.toNat) (by rw [len_rep, Nat.mul_comm]; exact hz), rfl, q _ I.fresh⟩

end

section
variable {prog : Program} {w : World} {A : Around} {E : Value → Shared → Prop} {s : Shared}
set_option maxRecDepth 100000 in
end

section
variable {X : Cx}
end
end L2

namespace Att
open PySem PySem.W PySem.Calls PyProof.Rows

theorem ints_of_wellAll {P : Params} {h : Heap} : ∀ (ns : List Int) (vs : List Value), WellAll P h vs (ns.map WData.int) → IntsAre vs ns := by
  intro ns
  induction ns with
  | nil =>
    intro vs w
    rw [List.map_nil] at w
    cases w
    exact .nil
  | cons n ns ih =>
    intro vs w
    rw [List.map_cons] at w
    cases w with
    | cons a b =>
      cases a
      exact .cons _ _ (ih _ b)

theorem script_of {l : OpenLaw} {n : Nat} (hn : l.most = some n) {P : Params} {h : Heap} {args : List WData} {vals : List Value}
    (hpre : l.row.toRowW.claim.pre args = true) (hwl : WellAll P h vals args) :
    ∃ a vs ns, vals = [Value.ref a] ∧ args = [WData.list (ns.map WData.int)] ∧ h.get? a = some { cls := .type "list", data := .seq vs.toArray } ∧ IntsAre vs ns ∧ ns.length ≤ n := by
  have hsh : WShape.hasAll [] args [.list .int] = true := (pre_splitW hpre).1
  have hc : l.pre.holds [] { args := args } = true := (pre_splitW hpre).2
  obtain ⟨d, r, rfl, h1, h2⟩ := hasAllW_cons hsh
  obtain rfl := hasAllW_nil h2
  obtain ⟨xs, rfl, h3⟩ := hasW_list h1
  obtain ⟨ns, rfl⟩ := items_int h3
  have hlen : ns.length ≤ n := by
    unfold OpenLaw.pre at hc
    have h4 : (WTm.not (.lt (.lit (.int (n : Int))) (.len (.arg 0)))).holds [] { args := [.list (ns.map .int)] } = true := by
      have h4 := (holds_andW hc).1
      rw [hn] at h4
      exact h4
    have h5 := condW_of h4 (w_not (w_lt w_lit (w_len_list (w_arg rfl))))
    rw [List.length_map] at h5
    refine Nat.le_of_not_lt fun q => ?_
    have q' : (n : Int) < ((ns.length : Nat) : Int) := by omega
    first
      | (rw [decide_eq_true q'] at h5; exact absurd h5 (by decide))
      | (simp at h5; omega)
  cases hwl with
  | cons w1 w2 =>
    cases w2
    cases w1 with
    | list ho hall => exact ⟨_, _, ns, rfl, rfl, ho, ints_of_wellAll ns _ hall, hlen⟩

theorem post_true (l : OpenLaw) (args : List WData) : l.row.toRowW.claim.post args (.bool true) args = true :=
  postW_of (r := l.row.toRowW) (X := (true == true))
    (show WShape.has [] (.bool true) .bool = true by first | rfl | decide | simp [WShape.has, WShape.arms, WShape.armsAll])
    (show (WTm.eq .res (.lit (.bool true))).value [] { args := args, res := some (.bool true), after := args } = some (.bool (true == true)) from w_eq_bool (w_res rfl) w_lit) rfl

theorem attach_call {l : OpenLaw} {n : Nat} {q : Program} {loose : List Str} {XP : (Str → Option Value) → Heap → Prop} {YP : World → Heap → Prop} {d : DefRec}
    (hn : l.most = some n) (hdf : d.params.defaults = [])
    (call : ∀ (w : World) (s₀ s₁ : Shared) (mg mb : Str → Option Value) (fa : Addr) (o : Obj) (pm cd doc : Value) (a : Addr) (vs : List Value) (ns : List Int),
      Ground q loose [] XP w s₀ mg mb s₁.heap → YP w s₁.heap →
      s₁.heap.get? fa = some o → o.data = .func (docDef d.name d.params d.body d.scope pm cd doc) → s₁.heap.CodeRec cd d.name → mg d.name = some (.ref fa) →
      s₁.heap.get? a = some { cls := .type "list", data := .seq vs.toArray } → IntsAre vs ns → ns.length ≤ n → s₁.gens = #[] →
      codeAny (model l.prog w) callerA (.call (.ref fa) ⟨[.ref a], []⟩) (fun r s' => r = .ok (.ret (.bool true)) ∧ OldK s₁.heap s'.heap ∧ s'.os = s₁.os ∧ AllBare s'.gens) s₁) :
    WalkO q loose XP YP l.row.toRowW d [] (fun f vs => PySem.call f vs) := by
  intro w s₀ s₁ mg mb G Y fa o pm cd doc dV kV ho hd hcd hD hmg hg args vals as hpre hlay hrd hwl hlo
  obtain rfl : dV = .none := Dflts.none hD hdf
  obtain rfl : kV = .none := Dflts.noKw hD
  obtain ⟨a, vs, ns, rfl, rfl, hobj, hints, hlen⟩ := script_of hn hpre hwl
  refine enter_call (codeAny_mono (call w s₀ s₁ mg mb fa o pm cd doc a vs ns G Y ho (fd_plain hd) hcd hmg hobj hints hlen hg) fun r s' hq => ?_)
  obtain ⟨rfl, h2, h3, h4⟩ := hq
  exact ⟨.inl ⟨.bool true, .bool true, [], rfl, fun _ => rfl, .bool true, post_true l _, fun _ => ⟨List.Pairwise.nil, fun _ hm => (nomatch hm)⟩⟩, h2, h3, h4⟩

section
variable {prog : Program} {w : World} {A : Around} {E : Value → Shared → Prop} {s : Shared} {K : Frag}

end
end Att

namespace L2
open PySem PySem.Spec PyProof.Rows

theorem vals_ints : ∀ {vs : List Value} {ns : List Int}, IntsAre vs ns → Vals (ns.map V.int) vs
  | _, _, .nil => .nil
  | _, _, .cons n t h => .cons ⟨t, rfl⟩ (vals_ints h)

noncomputable def Only (H : Hp) : Prop := ∀ b, H b = none ∨ ∃ o xs, H b = some (.frz o (.lst xs))

theorem law_call {P : Program} {w : World} {K : PySem.W.Frag} {mg mb : Str → Option Value} {CX : CXT} {k : Nat} {fa a : Addr} {fd : FuncData} {x : Str} {sp : Sp} {s₁ : Shared} {vs : List Value} {ns : List Int}
    (KX : K.In s₁.heap) (hns : s₁.heap.Ns mainGlobals mg) (hb : s₁.heap.Ns builtinsNs mb) (hbb : ∀ x : Str, x ≠ "__name__" → mb x = bootBuiltins x) (hlim : s₁.heap.NoLimit) (hg : s₁.gens = #[])
    (ha : s₁.heap.get? a = some { cls := .type "list", data := .seq vs.toArray }) (hi : IntsAre vs ns) (hl : ns.length ≤ sizeLine) (hr : Room k callerA)
    (F : ∀ base : Heap, K.In base → base.Ns mainGlobals mg → FnOk P w K mg base CX k fa fd [x] sp) (hbind : ∀ (s : Shared) (u : Value), BindsTo s fd ⟨[u], []⟩ [(x, u)])
    (hsp : ∀ H : Hp, Only H → SqL K H a (ns.map V.int) → sp [.ref a] H (fun v _ => v = .bl true) fun _ _ _ => False)
    (hCX : ∀ H e s', CX [] H s₁ (fun _ _ _ => False) e s' → False) :
    codeAny (model P w) callerA (.call (.ref fa) ⟨[.ref a], []⟩) (fun r s' => r = .ok (.ret (.bool true)) ∧ OldK s₁.heap s'.heap ∧ s'.os = s₁.os ∧ AllBare s'.gens) s₁ := by
  have rv := vals_ints hi
  have lenV := hi.length
  -- from an abstract heap in which nothing but the script may be tracked
  have core : ∀ H : Hp, Only H → SqL K H a (ns.map V.int) → HOk P w H s₁.heap → (∀ b, H b ≠ none → b = a) → (H a ≠ none → K.lookup a = none) →
      codeAny (model P w) callerA (.call (.ref fa) ⟨[.ref a], []⟩) (fun r s' => r = .ok (.ret (.bool true)) ∧ OldK s₁.heap s'.heap ∧ s'.os = s₁.os ∧ AllBare s'.gens) s₁ := by
    intro H hO hS hok hA hK
    have base_of : ∀ {b : Addr} {o : Obj}, s₁.heap.get? b = some o → H b = none → (hidT s₁.heap H).get? b = some o := fun e n => hidT_get e n
    have noA : ∀ {b : Addr} {o : Obj} {es : Array DictEntry} {ep : Nat}, s₁.heap.get? b = some o → o.data = .dict es ep → H b = none := fun {b o es ep} e d => by
      cases q : H b with
      | none => rfl
      | some u =>
        have e' : b = a := hA b (by rw [q]; simp)
        subst e'
        rw [ha] at e; cases e
        have d' : Data.seq vs.toArray _ = Data.dict es ep := d
        cases d'
    have nsK : ∀ {b : Addr} {m : Str → Option Value}, s₁.heap.Ns b m → (hidT s₁.heap H).Ns b m := fun {b m} ⟨o, es, ep, e, d, r⟩ => ⟨o, es, ep, base_of e (noA e d), d, r⟩
    have hKb : K.In (hidT s₁.heap H) := fun b o e => base_of (KX b o e) (by
      cases q : H b with
      | none => rfl
      | some u =>
        have e' : b = a := hA b (by rw [q]; simp)
        subst e'
        rw [hK (by rw [q]; simp)] at e; cases e)
    have hM : Mod K mg (hidT s₁.heap H) := ⟨hKb, nsK hns, ⟨mb, nsK hb, hbb⟩, let ⟨mc, h1, h2⟩ := hlim; ⟨mc, nsK h1, h2⟩⟩
    have e0 : Env0 P w K mg (hidT s₁.heap H) callerA [] s₁ H := ⟨rfl, hM, fun b o e => of_hidT e, Nat.le_of_eq (hidT_size _ _), trivial, fun b hb => absurd (show b ∈ ([] : List Addr) from hb) (by simp), hok, .of_eq hg⟩
    refine codeAny_mono ((F _ hKb (nsK hns)).run callerA [] s₁ H ⟨[.ref a], []⟩ [.ref a] [.ref a] _ _ hr e0 (hbind s₁ (.ref a)) (.cons rfl .nil) (hsp H hO hS)) fun r s' h => ?_
    cases r with
    | error e => exact (hCX H e s' h).elim
    | ok fl =>
      cases fl with
      | next => exact False.elim h
      | brk => exact False.elim h
      | cont => exact False.elim h
      | ret u =>
        obtain ⟨v, H', os, bare, un, hok', r', q⟩ := h
        have q' : v = .bl true := q
        subst q'
        obtain rfl : u = Value.bool true := r'
        refine ⟨rfl, OldK.of_keep fun b o e => ?_, os, bare⟩
        cases q : H b with
        | none => exact un.keep b o e q (by intro z; exact absurd (show b ∈ ([] : List Addr) from z) (by simp)) (by simp)
        | some u =>
          rcases hO b with z | ⟨ob, xs, z⟩
          · rw [q] at z; cases z
          · have z2 := un.frzs b ob _ z
            obtain ⟨e1, _⟩ := hok b _ z
            obtain ⟨e2, _⟩ := hok' b _ z2
            rw [e] at e1; cases e1
            exact e2
  cases hk : K.lookup a with
  | some o =>
    -- the script is one of the module's own objects
    have e := KX a o hk
    rw [ha] at e
    cases e
    refine core (fun _ => none) (fun _ => .inl rfl) (.inr ⟨_, vs.toArray, _, hk, rfl, rfl, rfl, by rw [List.size_toArray, lenV]; exact hl, by simpa using rv⟩) (fun b u z => by have z' : (none : Option HO) = some u := z; cases z') (fun b z => absurd rfl z) fun z => absurd rfl z
  | none =>
    refine core (fun b => if b = a then some (.frz { cls := .type "list", data := .seq vs.toArray } (.lst (ns.map V.int))) else none) (fun b => ?_) (.inl (.inr ⟨{ cls := .type "list", data := .seq vs.toArray }, if_pos rfl⟩)) (fun b u z => ?_) (fun b z => ?_) fun _ => hk
    · by_cases hb : b = a
      · exact .inr ⟨_, _, if_pos hb⟩
      · exact .inl (if_neg hb)
    · by_cases hb : b = a
      · have z' := (if_pos hb).symm.trans z
        cases z'
        subst hb
        exact ⟨ha, by rw [List.length_map]; exact hl, vs, _, rv, ha⟩
      · have z' := (if_neg hb).symm.trans z
        cases z'
    · by_cases hb : b = a
      · exact hb
      · exact absurd (if_neg hb) z
end L2

namespace L2
open PySem PySem.Spec PyProof.Rows

theorem walk_of {l : PySem.W.OpenLaw} {n k : Nat} {q : Program} {loose : List Str} {XP : (Str → Option Value) → Heap → Prop} {YP : World → Heap → Prop} {d : DefRec} {K : Params → PySem.W.Frag} {CX : World → CXT} {sp : World → Sp} {x : Str}
    (hn : l.most = some n) (hn2 : n ≤ sizeLine) (hdf : d.params.defaults = []) (hr : Room k callerA)
    (hY : ∀ (w : World) (h : Heap), YP w h → (K w.params).In h)
    (F : ∀ (w : World) (mg : Str → Option Value) (fa : Addr) (h : Heap), (K w.params).In h → h.Ns mainGlobals mg → mg d.name = some (.ref fa) →
      ∃ fd : FuncData, (∀ (s : Shared) (u : Value), BindsTo s fd ⟨[u], []⟩ [(x, u)]) ∧
        ∀ base : Heap, (K w.params).In base → base.Ns mainGlobals mg → FnOk l.prog w (K w.params) mg base (CX w) k fa fd [x] (sp w))
    (hsp : ∀ (w : World) (H : Hp) (a : Addr) (ns : List Int), ns.length ≤ n → Only H → SqL (K w.params) H a (ns.map V.int) → sp w [.ref a] H (fun v _ => v = .bl true) fun _ _ _ => False)
    (hCX : ∀ (w : World) (H : Hp) (s : Shared) (e : Value) (s' : Shared), CX w [] H s (fun _ _ _ => False) e s' → False) :
    PySem.W.WalkO q loose XP YP l.row.toRowW d [] (fun f vs => PySem.call f vs) := by
  refine Att.attach_call hn hdf fun w s₀ s₁ mg mb fa o pm cd doc a vs ns G Y ho hd hcd hmg hobj hints hlen hg => ?_
  have KX := hY w _ Y
  obtain ⟨fd, hb, hF⟩ := F w mg fa _ KX G.T.g hmg
  exact law_call KX G.T.g G.T.b G.T.builtins G.T.nolimit hg hobj hints (Nat.le_trans hlen hn2) hr hF hb (fun H hO hS => hsp w H a ns hlen hO hS) fun H e s' => hCX w H s₁ e s'
end L2



namespace L2
open PySem PySem.Spec PyProof.Rows

noncomputable def inClass (s : Stmt) (j : Nat) : Stmt := match s with
  | .ClassDef _ _ _ body _ _ _ _ _ _ _ => body.getD j (.Pass ⟨0, 0, 0, 0⟩)
  | _ => .Pass ⟨0, 0, 0, 0⟩
noncomputable def defArgs (s : Stmt) : Arguments := match s with
  | .FunctionDef _ a _ _ _ _ _ _ _ _ => a
  | _ => { posonlyargs := [], args := [], vararg := none, kwonlyargs := [], kw_defaults := [], kwarg := none, defaults := [] }
noncomputable def defBody (s : Stmt) : List Stmt := match s with
  | .FunctionDef _ _ b _ _ _ _ _ _ _ => b
  | _ => []
noncomputable def defScope (s : Stmt) : Scope := match s with
  | .FunctionDef _ _ _ _ _ _ sc _ _ _ => sc
  | _ => { kind := .function, names := [], isGenerator := false, isCoroutine := false }

noncomputable abbrev CX0 : CXT := fun _ _ _ _ _ _ => False
noncomputable abbrev E0 : XK := fun _ _ _ => False
theorem pass0 {X : Cx} : Passes CX0 X E0 := fun _ _ _ _ _ _ _ h => h.elim

structure Fun (K : PySem.W.Frag) (x qual : Str) (st : Stmt) (f : Addr) (fd : FuncData) : Prop where
  ex : ∃ (oc : Value) (od : Option Addr) (kV doc pm : Value) (an : Option Addr) (cdv ct : Value) (osl : Array (Option Value)),
    fd = PySem.W.fnOf x qual (defArgs st) (defBody st) (defScope st) .none kV doc pm an cdv ct ∧ K.lookup f = some ⟨oc, od, .func fd, osl⟩ ∧ PySem.W.codeIn K cdv qual = true
  kp : PySem.W.keepIn K (.ref f) = true
section
variable {P : Program} {w : World} {K : PySem.W.Frag} {mg : Str → Option Value} {base : Heap}
theorem Fun.ok {x qual : Str} {st : Stmt} {f : Addr} {fd : FuncData} {N ps : List Str} {k : Nat} {sp : Sp} (F : Fun K x qual st f fd) (S : FnScope N ps (defScope st)) (len : ∀ vs H Q E, sp vs H Q E → vs.length = ps.length)
    (hbody : ∀ (cdv : Value) (A : Around) (outer : List Env) (s : Shared) (H : Hp) (vs : List V) (Q : VK) (E : XK), Room k (A.deeper (envOfC qual (defScope st) s.heap.objs.size f cdv)) → sp vs H Q E →
      ∃ t, PSs (cxOf CX0 P w K mg base N qual (defScope st) f cdv A outer s H E).nox (defBody st) t ∧ t { nx := fun _ H' => Q .non H', rt := Q } (start N vs) H) : FnOk P w K mg base CX0 (k + 1) f fd ps sp := by
  obtain ⟨oc, od, kV, doc, pm, an, cdv, ct, osl, rfl, lk, hcd⟩ := F.ex
  refine fn_of lk hcd S len fun A outer s H vs Q E hr hsp => ?_
  obtain ⟨t, h, q⟩ := hbody cdv A outer s H vs Q E hr hsp
  exact ⟨t, h.nox, q⟩
theorem Fun.binds {x qual : Str} {st : Stmt} {f : Addr} {fd : FuncData} {ps : List Str} (F : Fun K x qual st f fd)
    (h : ∀ (kV doc pm : Value) (an : Option Addr) (cdv ct : Value) (us : List Value), us.length = ps.length → bindArgs (PySem.W.fnOf x qual (defArgs st) (defBody st) (defScope st) .none kV doc pm an cdv ct) ⟨us, []⟩ = pure (ps.zip us)) : Binds K fd ps [] := by
  obtain ⟨oc, od, kV, doc, pm, an, cdv, ct, osl, rfl, lk, hcd⟩ := F.ex
  exact .all (h kV doc pm an cdv ct)
theorem fun_mk {x qual : Str} {st : Stmt} {f : Addr} {oc : Value} {od an : Option Addr} {osl : Array (Option Value)} {kV doc pm cdv ct : Value} (l : K.lookup f = some ⟨oc, od, .func (PySem.W.fnOf x qual (defArgs st) (defBody st) (defScope st) .none kV doc pm an cdv ct), osl⟩)
    (c : PySem.W.codeIn K cdv qual = true) (k : PySem.W.keepIn K (.ref f) = true) : Fun K x qual st f (PySem.W.fnOf x qual (defArgs st) (defBody st) (defScope st) .none kV doc pm an cdv ct) := ⟨⟨oc, od, kV, doc, pm, an, cdv, ct, osl, rfl, l, c⟩, k⟩
end
theorem small1000 {n : Nat} (h : n ≤ 1000) : n < sizeLine := Nat.lt_of_le_of_lt h (by decide)

section
variable {X : Cx}
theorem pv (i : Nat) {x : Str} {pos : Pos} (hN : autoParam (X.N[i]? = some x) au0_._auto_1) (hv : Vis X.env.scope x := by first | exact Or.inl rfl | exact Or.inr (Or.inl rfl) | exact Or.inr (Or.inr rfl)) (hd : autoParam ((x == ("__debug__" : Str)) = false) au1_._auto_1)
    (hcd : autoParam ((x == ("__classdict__" : Str)) = false) au1_._auto_1) : PE X (.Name x pos) (tVar i) := pe_var hN hv hd hcd
end

theorem iteF {A B : Prop} (h : B) : if false = true then A else B := by
  rw [if_neg Bool.false_ne_true]
  exact h
theorem iteT {A B : Prop} (h : A) : if true = true then A else B := by
  rw [if_pos rfl]
  exact h
theorem ite2 {c A B : Prop} [Decidable c] (h1 : c → A) (h2 : ¬ c → B) : if c then A else B := by
  by_cases h : c
  · rw [if_pos h]
    exact h1 h
  · rw [if_neg h]
    exact h2 h
noncomputable def Same (H H' : Hp) : Prop := ∀ b o, H b = some o → H' b = some o
theorem Same.refl (H : Hp) : Same H H := fun _ _ h => h
theorem Same.trans {H H1 H2 : Hp} (a : Same H H1) (b : Same H1 H2) : Same H H2 := fun c o h => b c o (a c o h)
theorem Same.free {H H' : Hp} (e : Same H H') {l : Addr} (h : H' l = Option.none) : H l = Option.none := by
  cases q : H l with
  | none => rfl
  | some o =>
    rw [e l o q] at h
    cases h
theorem Same.seq {K : PySem.W.Frag} {H H' : Hp} {a : Addr} {xs : List V} (e : Same H H') (h : SqL K H a xs) : SqL K H' a xs := by
  rcases h with (h | ⟨o, h⟩) | h
  · exact .inl (.inl (e _ _ h))
  · exact .inl (.inr ⟨o, e _ _ h⟩)
  · exact .inr h

end L2

set_option maxHeartbeats 4000000
namespace Mth

noncomputable def Sz (n : Nat) (x : Int) : Prop := x.natAbs < 2 ^ n
noncomputable instance {n : Nat} {x : Int} : Decidable (Sz n x) := inferInstanceAs (Decidable (x.natAbs < 2 ^ n))
theorem Sz.mono {m n : Nat} {x : Int} (h : Sz m x) (hm : m ≤ n) : Sz n x :=
  Nat.lt_of_lt_of_le h (Nat.pow_le_pow_right (by decide) hm)
theorem Sz.mul {m n : Nat} {x y : Int} (hx : Sz m x) (hy : Sz n y) : Sz (m + n) (x * y) := by
  unfold Sz at *
  rw [Int.natAbs_mul, Nat.pow_add]
  exact Nat.mul_lt_mul'' hx hy
theorem Sz.add {m : Nat} {x y : Int} (hx : Sz m x) (hy : Sz m y) : Sz (m + 1) (x + y) := by
  unfold Sz at *
  rw [Nat.pow_succ]
  have := Int.natAbs_add_le x y
  (first | lia | omega)
theorem Sz.neg {m : Nat} {x : Int} (hx : Sz m x) : Sz m (-x) := by
  unfold Sz at *
  rw [Int.natAbs_neg]; exact hx
theorem Sz.sub {m : Nat} {x y : Int} (hx : Sz m x) (hy : Sz m y) : Sz (m + 1) (x - y) := by
  rw [Int.sub_eq_add_neg]; exact hx.add hy.neg
theorem Sz.of_le {m : Nat} {x y : Int} (hx : Sz m x) (h : y.natAbs ≤ x.natAbs) : Sz m y := Nat.lt_of_le_of_lt h hx
theorem Sz.log {m : Nat} {x : Int} (hx : Sz m x) (hm : m ≤ 9000) (h0 : 0 < m) : x.natAbs.log2 < 9000 := by
  by_cases h : x.natAbs = 0
  · rw [h]; decide
  · have := (Nat.log2_lt h).mpr hx
    (first | lia | omega)
theorem Sz.of_lt {m k : Nat} {x : Int} (h : x.natAbs < k) (hk : k ≤ 2 ^ m) : Sz m x := Nat.lt_of_lt_of_le h hk

structure Low (t b t' b' : Int) : Prop where
  pos : 1 ≤ b'
  co : Int.gcd t' b' = 1
  eq : t' * b = t * b'
  tb : t'.natAbs ≤ t.natAbs
  bb : b'.natAbs ≤ b.natAbs

theorem gcd_step (x y : Nat) : Nat.gcd y (x % y) = Nat.gcd x y := by
  rw [Nat.gcd_comm y, ← Nat.gcd_rec, Nat.gcd_comm]

theorem ediv_gcd {t b : Int} (hb : b ≠ 0) : Int.gcd (t / (Int.gcd t b : Int)) (b / (Int.gcd t b : Int)) = 1 := by
  have hp : 0 < Int.gcd t b := Int.gcd_pos_of_ne_zero_right t hb
  rw [Int.gcd_ediv (Int.gcd_dvd_left ..) (Int.gcd_dvd_right ..)]
  rw [Int.natAbs_natCast]
  exact Nat.div_self hp
theorem le_of_mul {a : Int} {g : Nat} {c : Int} (hg : 0 < g) (e : a * (g : Int) = c) : a.natAbs ≤ c.natAbs := by
  subst e
  rw [Int.natAbs_mul, Int.natAbs_natCast]
  exact Nat.le_mul_of_pos_right _ hg

theorem low_mk {t b t' b' : Int} {g : Nat} (hg : 0 < g) (e1 : t' * (g : Int) = t) (e2 : b' * (g : Int) = b) (hb : 0 < b) (hc : Int.gcd t' b' = 1) : Low t b t' b' := by
  refine ⟨?_, hc, ?_, le_of_mul hg e1, le_of_mul hg e2⟩
  · have : 0 < b' := Int.pos_of_mul_pos_left (b := (g : Int)) (by rw [e2]; exact hb) (by (first | lia | omega))
    (first | lia | omega)
  · rw [← e1, ← e2, Int.mul_assoc, Int.mul_comm (g : Int) b']

theorem low_pos {t b : Int} (hb : 0 < b) : Low t b (t.fdiv (Int.gcd t b : Int)) (b.fdiv (Int.gcd t b : Int)) := by
  have hp : 0 < Int.gcd t b := Int.gcd_pos_of_ne_zero_right t (by (first | lia | omega))
  have h1 : (Int.gcd t b : Int) ∣ t := Int.gcd_dvd_left ..
  have h2 : (Int.gcd t b : Int) ∣ b := Int.gcd_dvd_right ..
  rw [Int.fdiv_eq_ediv_of_nonneg _ (by (first | lia | omega)), Int.fdiv_eq_ediv_of_nonneg _ (by (first | lia | omega))]
  exact low_mk hp (Int.ediv_mul_cancel h1) (Int.ediv_mul_cancel h2) hb (ediv_gcd (by (first | lia | omega)))

theorem fdiv_neg_neg (a : Int) (g : Nat) : a.fdiv (-(g : Int)) = (-a).fdiv (g : Int) := by
  have := Int.neg_fdiv_neg a (-(g : Int))
  rw [Int.neg_neg] at this
  exact this.symm

theorem low_neg {t b : Int} (hb : b < 0) : Low (-t) (-b) (t.fdiv (-(Int.gcd t b : Int))) (b.fdiv (-(Int.gcd t b : Int))) := by
  have e : Int.gcd t b = Int.gcd (-t) (-b) := by rw [Int.gcd_neg, Int.neg_gcd]
  rw [fdiv_neg_neg, fdiv_neg_neg, e]
  exact low_pos (by (first | lia | omega))

theorem co_dvd {b a d : Int} (hc : Int.gcd b a = 1) (h : b ∣ a * d) : b ∣ d := by
  have h' : b.natAbs ∣ a.natAbs * d.natAbs := by rw [← Int.natAbs_mul]; exact Int.natAbs_dvd_natAbs.mpr h
  have hc' : Nat.Coprime b.natAbs a.natAbs := hc
  exact Int.natAbs_dvd_natAbs.mp (hc'.dvd_of_dvd_mul_left h')
theorem low_unique {a b c d : Int} (hb : 1 ≤ b) (hd : 1 ≤ d) (h1 : Int.gcd a b = 1) (h2 : Int.gcd c d = 1) (e : a * d = c * b) : a = c ∧ b = d := by
  have k1 : b ∣ d := by
    have : b ∣ a * d := ⟨c, by rw [e, Int.mul_comm]⟩
    exact co_dvd (by rw [Int.gcd_comm]; exact h1) this
  have k2 : d ∣ b := by
    have : d ∣ c * b := ⟨a, by rw [← e, Int.mul_comm]⟩
    exact co_dvd (by rw [Int.gcd_comm]; exact h2) this
  have hbd : b = d := Int.dvd_antisymm (by (first | lia | omega)) (by (first | lia | omega)) k1 k2
  subst hbd
  exact ⟨Int.eq_of_mul_eq_mul_right (by (first | lia | omega)) e, rfl⟩

theorem Low.self {t b t' b' : Int} (h : Low t b t' b') (hb : 1 ≤ b) (hc : Int.gcd t b = 1) : t' = t ∧ b' = b :=
  let ⟨a, c⟩ := low_unique hb h.pos hc h.co h.eq.symm
  ⟨a.symm, c.symm⟩
end Mth

namespace Mth
structure Steps (H L high low x0 y0 x1 y1 : Int) : Prop where
  sg : (x0 * y1 - x1 * y0 = 1 ∧ 0 ≤ x0 ∧ y0 ≤ 0 ∧ x1 ≤ 0 ∧ 1 ≤ y1) ∨ (x0 * y1 - x1 * y0 = -1 ∧ x0 ≤ 0 ∧ 0 ≤ y0 ∧ 0 ≤ x1 ∧ y1 ≤ -1)
  eh : x0 * H + y0 * L = high
  el : x1 * H + y1 * L = low
  l0 : 0 ≤ low
  lh : low ≤ high
  st : (x0 = 1 ∧ y0 = 0 ∧ x1 = 0 ∧ y1 = 1) ∨ (y0 ≠ 0 ∧ high ≤ L ∧ 340282366920938463463374607431768211456 ≤ high ∧ x0.natAbs ≤ x1.natAbs ∧ y0.natAbs ≤ y1.natAbs)

theorem Steps.init {H L : Int} (h0 : 0 ≤ L) (h : L ≤ H) : Steps H L H L 1 0 0 1 := ⟨.inl (by (first | lia | omega)), by (first | lia | omega), by (first | lia | omega), h0, h, .inl (by (first | lia | omega))⟩

theorem div_le {x y : Int} (hx : 0 ≤ x) (hy : 0 ≤ y) : (x / y).natAbs ≤ x.natAbs := by
  have h1 := Int.ediv_le_self (a := x) y hx
  have h2 := Int.ediv_nonneg hx hy
  (first | lia | omega)

theorem mul_ge {q z : Int} (hq : 1 ≤ q) (hz : 0 ≤ z) : z ≤ q * z := by
  have := Int.mul_le_mul_of_nonneg_right hq hz
  (first | lia | omega)

theorem Steps.step {H L high low x0 y0 x1 y1 q : Int} (h : Steps H L high low x0 y0 x1 y1) (hl : 340282366920938463463374607431768211456 ≤ low) (hq : q = high / low) :
    Steps H L low (high - q * low) x1 y1 (x0 - q * x1) (y0 - q * y1) := by
  obtain ⟨sg, eh, el, l0, lh, st⟩ := h
  have q1 : 1 ≤ q := by
    rw [hq]; exact (Int.le_ediv_iff_mul_le (by (first | lia | omega))).mpr (by (first | lia | omega))
  have em : high - q * low = high % low := by
    have := Int.mul_ediv_add_emod high low
    rw [hq, Int.mul_comm]; (first | lia | omega)
  have m0 : 0 ≤ high % low := Int.emod_nonneg _ (by (first | lia | omega))
  have m1 : high % low < low := Int.emod_lt_of_pos _ (by (first | lia | omega))
  have hlL : low ≤ L := by
    rcases st with ⟨a, b, c, d⟩ | ⟨_, a, _⟩
    · subst a b c d; (first | lia | omega)
    · (first | lia | omega)
  have det : x1 * (y0 - q * y1) - (x0 - q * x1) * y1 = -(x0 * y1 - x1 * y0) := by grind
  have hel : (x0 - q * x1) * H + (y0 - q * y1) * L = high - q * low := by rw [← eh, ← el]; grind
  refine ⟨?_, el, hel, by (first | lia | omega), by (first | lia | omega), .inr ⟨?_, hlL, hl, ?_, ?_⟩⟩
  · rcases sg with ⟨d, a, b, c, e⟩ | ⟨d, a, b, c, e⟩
    · right
      have k1 := mul_ge q1 (z := -x1) (by (first | lia | omega))
      have k2 := mul_ge q1 (z := y1) (by (first | lia | omega))
      rw [Int.mul_neg] at k1
      exact ⟨by (first | lia | omega), by (first | lia | omega), by (first | lia | omega), by (first | lia | omega), by (first | lia | omega)⟩
    · left
      have k1 := mul_ge q1 (z := x1) (by (first | lia | omega))
      have k2 := mul_ge q1 (z := -y1) (by (first | lia | omega))
      rw [Int.mul_neg] at k2
      exact ⟨by (first | lia | omega), by (first | lia | omega), by (first | lia | omega), by (first | lia | omega), by (first | lia | omega)⟩
  · rcases sg with ⟨d, a, b, c, e⟩ | ⟨d, a, b, c, e⟩ <;> (first | lia | omega)
  · rcases sg with ⟨d, a, b, c, e⟩ | ⟨d, a, b, c, e⟩
    · have k1 := mul_ge q1 (z := -x1) (by (first | lia | omega))
      rw [Int.mul_neg] at k1
      (first | lia | omega)
    · have k1 := mul_ge q1 (z := x1) (by (first | lia | omega))
      (first | lia | omega)
  · rcases sg with ⟨d, a, b, c, e⟩ | ⟨d, a, b, c, e⟩
    · have k1 := mul_ge q1 (z := y1) (by (first | lia | omega))
      (first | lia | omega)
    · have k1 := mul_ge q1 (z := -y1) (by (first | lia | omega))
      rw [Int.mul_neg] at k1
      (first | lia | omega)

theorem Steps.high_le {H L high low x0 y0 x1 y1 : Int} (h : Steps H L high low x0 y0 x1 y1) (h1 : L ≤ H) : high ≤ H := by
  obtain ⟨sg, eh, el, l0, lh, st⟩ := h
  rcases st with ⟨a, b, c, d⟩ | ⟨_, a, _⟩
  · subst a b c d; (first | lia | omega)
  · (first | lia | omega)

theorem Steps.now_le {H L high low x0 y0 x1 y1 : Int} (h : Steps H L high low x0 y0 x1 y1) (hh : 1 ≤ high) : x1.natAbs ≤ L.natAbs ∧ y1.natAbs ≤ H.natAbs := by
  obtain ⟨sg, eh, el, l0, lh, st⟩ := h
  rcases sg with ⟨d, a, b, c, e⟩ | ⟨d, a, b, c, e⟩
  · have e1 : y1 * high + (-y0) * low = H := by
      have : y1 * high + (-y0) * low = (x0 * y1 - x1 * y0) * H := by rw [← eh, ← el]; grind
      rw [this, d]; (first | lia | omega)
    have e2 : (-x1) * high + x0 * low = L := by
      have : (-x1) * high + x0 * low = (x0 * y1 - x1 * y0) * L := by rw [← eh, ← el]; grind
      rw [this, d]; (first | lia | omega)
    have n1 : 0 ≤ (-y0) * low := Int.mul_nonneg (by (first | lia | omega)) l0
    have n2 : 0 ≤ x0 * low := Int.mul_nonneg (by (first | lia | omega)) l0
    have k1 : y1 ≤ y1 * high := by rw [Int.mul_comm]; exact mul_ge hh (by (first | lia | omega))
    have k2 : -x1 ≤ (-x1) * high := by rw [Int.mul_comm]; exact mul_ge hh (by (first | lia | omega))
    (first | lia | omega)
  · have e1 : (-y1) * high + y0 * low = H := by
      have : (-y1) * high + y0 * low = -(x0 * y1 - x1 * y0) * H := by rw [← eh, ← el]; grind
      rw [this, d]; (first | lia | omega)
    have e2 : x1 * high + (-x0) * low = L := by
      have : x1 * high + (-x0) * low = -(x0 * y1 - x1 * y0) * L := by rw [← eh, ← el]; grind
      rw [this, d]; (first | lia | omega)
    have n1 : 0 ≤ y0 * low := Int.mul_nonneg (by (first | lia | omega)) l0
    have n2 : 0 ≤ (-x0) * low := Int.mul_nonneg (by (first | lia | omega)) l0
    have k1 : -y1 ≤ (-y1) * high := by rw [Int.mul_comm]; exact mul_ge hh (by (first | lia | omega))
    have k2 : x1 ≤ x1 * high := by rw [Int.mul_comm]; exact mul_ge hh (by (first | lia | omega))
    (first | lia | omega)

theorem small_of_mul {y h B : Int} (hy : 0 ≤ y) (hh : 340282366920938463463374607431768211456 ≤ h) (hm : y * h ≤ B) (hB : B < 115792089237316195423570985008687907853269984665640564039457584007913129639936) : y ≤ 340282366920938463463374607431768211456 := by
  by_cases c : y ≤ 340282366920938463463374607431768211456
  · exact c
  · have := Int.mul_le_mul (a := 340282366920938463463374607431768211456) (c := y) (b := 340282366920938463463374607431768211456) (d := h) (by (first | lia | omega)) hh (by (first | lia | omega)) hy
    (first | lia | omega)

theorem Steps.small {H L high low x0 y0 x1 y1 : Int} (h : Steps H L high low x0 y0 x1 y1) (hy : y0 ≠ 0) (hL : L ≤ H) (hH : H < 115792089237316195423570985008687907853269984665640564039457584007913129639936) :
    x0.natAbs ≤ 340282366920938463463374607431768211456 ∧ y0.natAbs ≤ 340282366920938463463374607431768211456 ∧ x1.natAbs ≤ 340282366920938463463374607431768211456 ∧ y1.natAbs ≤ 340282366920938463463374607431768211456 := by
  obtain ⟨sg, eh, el, l0, lh, st⟩ := h
  rcases st with ⟨_, z, _⟩ | ⟨_, hl, hh, ax, ay⟩
  · exact absurd z hy
  rcases sg with ⟨d, a, b, c, e⟩ | ⟨d, a, b, c, e⟩
  · have e1 : y1 * high + (-y0) * low = H := by
      have : y1 * high + (-y0) * low = (x0 * y1 - x1 * y0) * H := by rw [← eh, ← el]; grind
      rw [this, d]; (first | lia | omega)
    have e2 : (-x1) * high + x0 * low = L := by
      have : (-x1) * high + x0 * low = (x0 * y1 - x1 * y0) * L := by rw [← eh, ← el]; grind
      rw [this, d]; (first | lia | omega)
    have n1 : 0 ≤ (-y0) * low := Int.mul_nonneg (by (first | lia | omega)) l0
    have n2 : 0 ≤ x0 * low := Int.mul_nonneg (by (first | lia | omega)) l0
    have k1 := small_of_mul (y := y1) (B := H) (by (first | lia | omega)) hh (by (first | lia | omega)) hH
    have k2 := small_of_mul (y := -x1) (B := H) (by (first | lia | omega)) hh (by (first | lia | omega)) hH
    (first | lia | omega)
  · have e1 : (-y1) * high + y0 * low = H := by
      have : (-y1) * high + y0 * low = -(x0 * y1 - x1 * y0) * H := by rw [← eh, ← el]; grind
      rw [this, d]; (first | lia | omega)
    have e2 : x1 * high + (-x0) * low = L := by
      have : x1 * high + (-x0) * low = -(x0 * y1 - x1 * y0) * L := by rw [← eh, ← el]; grind
      rw [this, d]; (first | lia | omega)
    have n1 : 0 ≤ y0 * low := Int.mul_nonneg (by (first | lia | omega)) l0
    have n2 : 0 ≤ (-x0) * low := Int.mul_nonneg (by (first | lia | omega)) l0
    have k1 := small_of_mul (y := -y1) (B := H) (by (first | lia | omega)) hh (by (first | lia | omega)) hH
    have k2 := small_of_mul (y := x1) (B := H) (by (first | lia | omega)) hh (by (first | lia | omega)) hH
    (first | lia | omega)

theorem mix_le {x y f r T M : Int} (hx : x.natAbs ≤ M) (hy : y.natAbs ≤ M) (f0 : 0 ≤ f) (f1 : f ≤ T) (r0 : 0 ≤ r) (r1 : r ≤ T) (hs : (0 ≤ x ∧ y ≤ 0) ∨ (x ≤ 0 ∧ 0 ≤ y)) : (x * f + y * r).natAbs ≤ M * T := by
  rcases hs with ⟨a, b⟩ | ⟨a, b⟩
  · have k1 := Int.mul_le_mul (a := x) (c := M) (b := f) (d := T) (by (first | lia | omega)) f1 f0 (by (first | lia | omega))
    have k2 := Int.mul_le_mul (a := -y) (c := M) (b := r) (d := T) (by (first | lia | omega)) r1 r0 (by (first | lia | omega))
    have k3 := Int.mul_nonneg a f0
    have k4 := Int.mul_nonneg (a := -y) (b := r) (by (first | lia | omega)) r0
    rw [Int.neg_mul] at k2 k4
    (first | lia | omega)
  · have k1 := Int.mul_le_mul (a := -x) (c := M) (b := f) (d := T) (by (first | lia | omega)) f1 f0 (by (first | lia | omega))
    have k2 := Int.mul_le_mul (a := y) (c := M) (b := r) (d := T) (by (first | lia | omega)) r1 r0 (by (first | lia | omega))
    have k3 := Int.mul_nonneg (a := -x) (b := f) (by (first | lia | omega)) f0
    have k4 := Int.mul_nonneg (a := y) (b := r) (by (first | lia | omega)) r0
    rw [Int.neg_mul] at k1 k3
    (first | lia | omega)

theorem Steps.less {H L high low x0 y0 x1 y1 T f r : Int} (h : Steps H L high low x0 y0 x1 y1) (hy : y0 ≠ 0) (hL : L ≤ H) (h1 : 57896044618658097711785492504343953926634992332820282019728792003956564819968 ≤ H)
    (hH : H < 115792089237316195423570985008687907853269984665640564039457584007913129639936) (hl : low ≤ 340282366920938463463374607431768211456) (f0 : 0 ≤ f) (f1 : f < T) (r0 : 0 ≤ r) (r1 : r < T) :
    (x0 * (H * T + f) + y0 * (L * T + r)).natAbs + (x1 * (H * T + f) + y1 * (L * T + r)).natAbs < (H * T + f).natAbs + (L * T + r).natAbs := by
  obtain ⟨sx0, sy0, sx1, sy1⟩ := h.small hy hL hH
  obtain ⟨sg, eh, el, l0, lh, st⟩ := h
  rcases st with ⟨_, z, _⟩ | ⟨_, hhL, hh, ax, ay⟩
  · exact absurd z hy
  have A : x0 * (H * T + f) + y0 * (L * T + r) = high * T + (x0 * f + y0 * r) := by rw [← eh]; grind
  have B : x1 * (H * T + f) + y1 * (L * T + r) = low * T + (x1 * f + y1 * r) := by rw [← el]; grind
  have mA := mix_le (x := x0) (y := y0) (f := f) (r := r) (T := T) (M := 340282366920938463463374607431768211456) (by (first | lia | omega)) (by (first | lia | omega)) f0 (by (first | lia | omega)) r0 (by (first | lia | omega)) (by rcases sg with ⟨d, a, b, c, e⟩ | ⟨d, a, b, c, e⟩ <;> (first | lia | omega))
  have mB := mix_le (x := x1) (y := y1) (f := f) (r := r) (T := T) (M := 340282366920938463463374607431768211456) (by (first | lia | omega)) (by (first | lia | omega)) f0 (by (first | lia | omega)) r0 (by (first | lia | omega)) (by rcases sg with ⟨d, a, b, c, e⟩ | ⟨d, a, b, c, e⟩ <;> (first | lia | omega))
  have t1 : 0 ≤ high * T := Int.mul_nonneg (by (first | lia | omega)) (by (first | lia | omega))
  have t2 : 0 ≤ low * T := Int.mul_nonneg l0 (by (first | lia | omega))
  have t3 : high * T ≤ L * T := Int.mul_le_mul_of_nonneg_right hhL (by (first | lia | omega))
  have t4 : low * T ≤ 340282366920938463463374607431768211456 * T := Int.mul_le_mul_of_nonneg_right hl (by (first | lia | omega))
  have t5 : 57896044618658097711785492504343953926634992332820282019728792003956564819968 * T ≤ H * T := Int.mul_le_mul_of_nonneg_right h1 (by (first | lia | omega))
  rw [A, B]
  (first | lia | omega)

theorem gcd_mix {a b x0 y0 x1 y1 : Int} (d : x0 * y1 - x1 * y0 = 1 ∨ x0 * y1 - x1 * y0 = -1) : Int.gcd (x0 * a + y0 * b) (x1 * a + y1 * b) = Int.gcd a b := by
  refine Nat.dvd_antisymm ?_ ?_
  · have h1 : (Int.gcd (x0 * a + y0 * b) (x1 * a + y1 * b) : Int) ∣ x0 * a + y0 * b := Int.gcd_dvd_left ..
    have h2 : (Int.gcd (x0 * a + y0 * b) (x1 * a + y1 * b) : Int) ∣ x1 * a + y1 * b := Int.gcd_dvd_right ..
    generalize (Int.gcd (x0 * a + y0 * b) (x1 * a + y1 * b)) = g at h1 h2
    obtain ⟨u, hu⟩ := h1
    obtain ⟨v, hv⟩ := h2
    refine Int.dvd_gcd ?_ ?_
    · rcases d with d | d
      · exact ⟨y1 * u - y0 * v, by
          have : (x0 * y1 - x1 * y0) * a = g * (y1 * u - y0 * v) := by grind
          rw [d] at this; (first | lia | omega)⟩
      · exact ⟨-(y1 * u - y0 * v), by
          have : -(x0 * y1 - x1 * y0) * a = g * (-(y1 * u - y0 * v)) := by grind
          rw [d] at this; (first | lia | omega)⟩
    · rcases d with d | d
      · exact ⟨x0 * v - x1 * u, by
          have : (x0 * y1 - x1 * y0) * b = g * (x0 * v - x1 * u) := by grind
          rw [d] at this; (first | lia | omega)⟩
      · exact ⟨-(x0 * v - x1 * u), by
          have : -(x0 * y1 - x1 * y0) * b = g * (-(x0 * v - x1 * u)) := by grind
          rw [d] at this; (first | lia | omega)⟩
  · have h1 : (Int.gcd a b : Int) ∣ a := Int.gcd_dvd_left ..
    have h2 : (Int.gcd a b : Int) ∣ b := Int.gcd_dvd_right ..
    exact Int.dvd_gcd (Int.dvd_add (Int.dvd_mul_of_dvd_right h1) (Int.dvd_mul_of_dvd_right h2)) (Int.dvd_add (Int.dvd_mul_of_dvd_right h1) (Int.dvd_mul_of_dvd_right h2))
theorem Steps.gcd {H L high low x0 y0 x1 y1 a b : Int} (h : Steps H L high low x0 y0 x1 y1) : Int.gcd (x0 * a + y0 * b) (x1 * a + y1 * b) = Int.gcd a b :=
  gcd_mix (h.sg.imp (·.1) (·.1))

theorem head_of {x : Int} {t : Nat} (lo : (2 : Int) ^ (255 + t) ≤ x) (hi : x < (2 : Int) ^ (256 + t)) :
    57896044618658097711785492504343953926634992332820282019728792003956564819968 ≤ x / 2 ^ t ∧ x / 2 ^ t < 115792089237316195423570985008687907853269984665640564039457584007913129639936 := by
  have tp : (0 : Int) < 2 ^ t := Int.pow_pos (by decide)
  refine ⟨(Int.le_ediv_iff_mul_le tp).mpr ?_, (Int.ediv_lt_iff_lt_mul tp).mpr ?_⟩
  · rw [Int.pow_add] at lo; exact lo
  · rw [Int.pow_add] at hi; exact hi

theorem heads_less {x y H L high low x0 y0 x1 y1 : Int} {t : Nat} (h : Steps H L high low x0 y0 x1 y1) (hy : y0 ≠ 0) (yx : y ≤ x) (lo : (2 : Int) ^ (255 + t) ≤ x) (hi : x < (2 : Int) ^ (256 + t))
    (eH : H = x / 2 ^ t) (eL : L = y / 2 ^ t) (hl : low ≤ 340282366920938463463374607431768211456) :
    (x0 * x + y0 * y).natAbs + (x1 * x + y1 * y).natAbs < x.natAbs + y.natAbs := by
  have tp : (0 : Int) < 2 ^ t := Int.pow_pos (by decide)
  have hd := head_of lo hi
  have e1 := Int.mul_ediv_add_emod x (2 ^ t)
  have e2 := Int.mul_ediv_add_emod y (2 ^ t)
  have m1 := Int.emod_nonneg x (b := 2 ^ t) (by (first | lia | omega))
  have m2 := Int.emod_nonneg y (b := 2 ^ t) (by (first | lia | omega))
  have l1 := Int.emod_lt_of_pos x tp
  have l2 := Int.emod_lt_of_pos y tp
  have hLH : L ≤ H := by rw [eH, eL]; exact Int.ediv_le_ediv tp yx
  have := h.less hy hLH (by rw [eH]; exact hd.1) (by rw [eH]; exact hd.2) hl m1 l1 m2 l2
  rw [eH, eL, Int.mul_comm (x / 2 ^ t), Int.mul_comm (y / 2 ^ t), e1, e2] at this
  exact this

theorem gcd_maxmin {a b : Int} {p q : Int} (hp : p = if b > a then b else a) (hq : q = if b < a then b else a) : Int.gcd p q = Int.gcd a b := by
  subst hp hq
  by_cases h : b > a
  · rw [if_pos h, if_neg (by (first | lia | omega))]; exact Int.gcd_comm b a
  · by_cases k : b < a
    · rw [if_neg h, if_pos k]
    · have : a = b := by (first | lia | omega)
      subst this; simp
theorem mm_nn (A B : Nat) : 0 ≤ (if (B : Int) < (A : Int) then (B : Int) else (A : Int)) := by
  split
  · exact Int.natCast_nonneg _
  · exact Int.natCast_nonneg _
theorem mm_two (A B : Nat) : ((if (B : Int) > (A : Int) then (B : Int) else (A : Int)) = (B : Int) ∧ (if (B : Int) < (A : Int) then (B : Int) else (A : Int)) = (A : Int) ∧ (A : Int) ≤ (B : Int)) ∨ ((if (B : Int) > (A : Int) then (B : Int) else (A : Int)) = (A : Int) ∧ (if (B : Int) < (A : Int) then (B : Int) else (A : Int)) = (B : Int) ∧ (B : Int) ≤ (A : Int)) := by
  rcases Int.lt_or_le (A : Int) (B : Int) with h | h
  · exact .inl ⟨if_pos h, if_neg (Int.not_lt.mpr (Int.le_of_lt h)), Int.le_of_lt h⟩
  · refine .inr ⟨if_neg (Int.not_lt.mpr h), ?_, h⟩
    split
    · rfl
    · rename_i h2
      exact Int.le_antisymm (Int.not_lt.mp h2) h
theorem mm_le (A B : Nat) : (if (B : Int) < (A : Int) then (B : Int) else (A : Int)) ≤ (if (B : Int) > (A : Int) then (B : Int) else (A : Int)) := by
  rcases mm_two A B with ⟨e1, e2, h⟩ | ⟨e1, e2, h⟩ <;> rw [e1, e2] <;> exact h
theorem mm_sum {A B : Nat} {z : Int} (h : A + B ≤ z.natAbs) : ((if (B : Int) > (A : Int) then (B : Int) else (A : Int)) + (if (B : Int) < (A : Int) then (B : Int) else (A : Int))).natAbs ≤ z.natAbs := by
  rcases mm_two A B with ⟨e1, e2, _⟩ | ⟨e1, e2, _⟩ <;> rw [e1, e2]
  · exact Nat.le_trans (Int.natAbs_add_le _ _) (by rw [Nat.add_comm]; exact h)
  · exact Nat.le_trans (Int.natAbs_add_le _ _) h
theorem mm_to {A B : Nat} {x y : Int} (ls : A + B < x.natAbs + y.natAbs) (y0 : 0 ≤ y) (yx : y ≤ x) : Int.toNat (if (B : Int) > (A : Int) then (B : Int) else (A : Int)) + Int.toNat (if (B : Int) < (A : Int) then (B : Int) else (A : Int)) < Int.toNat x + Int.toNat y := by
  have ex : x.toNat = x.natAbs := Int.toNat_of_nonneg (Int.le_trans y0 yx) |> fun e => Int.ofNat.inj (e.trans (Int.natAbs_of_nonneg (Int.le_trans y0 yx)).symm)
  have ey : y.toNat = y.natAbs := Int.toNat_of_nonneg y0 |> fun e => Int.ofNat.inj (e.trans (Int.natAbs_of_nonneg y0).symm)
  rw [ex, ey]
  rcases mm_two A B with ⟨e1, e2, _⟩ | ⟨e1, e2, _⟩ <;> rw [e1, e2, Int.toNat_natCast, Int.toNat_natCast]
  · rw [Nat.add_comm]
    exact ls
  · exact ls
theorem nab {a b : Int} {p q r : Nat} (ha : a.natAbs ≤ p) (hb : b.natAbs ≤ q) (h : p + q ≤ r) : (a + b).natAbs ≤ r := Nat.le_trans (Int.natAbs_add_le a b) (Nat.le_trans (Nat.add_le_add ha hb) h)
theorem nab5 {w : Int} (h0 : 0 ≤ w) (h5 : w < 5) : (w - 1).natAbs ≤ 3 := by lia
theorem nabz {z : Int} (h0 : 0 ≤ z) (h : z < 25) : (z - 12).natAbs ≤ 12 := by lia
theorem nab3 {w : Int} (h0 : 0 ≤ w) (h5 : w < 3) : w.natAbs ≤ 12 := by lia
theorem nabm {st : Int} (h0 : 0 ≤ st) (h : st ≤ 2 * 1009) : (1 + st).natAbs ≤ 2100 := by lia
theorem mm_xy {A B : Nat} {x y : Int} (ls : A + B < x.natAbs + y.natAbs) (y0 : 0 ≤ y) (yx : y ≤ x) : A + B ≤ (x + y).natAbs := by (first | lia | omega)
theorem fd_mod {x y : Int} (y0 : 0 ≤ y) : 1 * x + -(x.fdiv y) * y = x % y := by
  have em := Int.mul_ediv_add_emod x y
  rw [Int.mul_comm] at em
  rw [Int.fdiv_eq_ediv_of_nonneg _ y0, Int.neg_mul]
  (first | lia | omega)
theorem fd_less {x y : Int} (y1 : 1 ≤ y) (yx : y ≤ x) : (0 * x + 1 * y).natAbs + (1 * x + -(x.fdiv y) * y).natAbs < x.natAbs + y.natAbs := by
  have m0 := Int.emod_nonneg x (b := y) (by (first | lia | omega))
  have m1 := Int.emod_lt_of_pos x (b := y) (by (first | lia | omega))
  rw [fd_mod (by (first | lia | omega))]
  (first | lia | omega)
end Mth

namespace Mth
structure Qt (t b : Int) (q : Rat) : Prop where
  pos : 1 ≤ b
  eq : (t : Rat) = q * (b : Rat)
structure Fr (t b : Int) (q : Rat) : Prop where
  pos : 1 ≤ b
  co : Int.gcd t b = 1
  eq : (t : Rat) = q * (b : Rat)
theorem Fr.qt {t b : Int} {q : Rat} (h : Fr t b q) : Qt t b q := ⟨h.pos, h.eq⟩
theorem cast_ne {b : Int} (h : b ≠ 0) : (b : Rat) ≠ 0 := by
  intro e
  apply h
  have : ((b : Int) : Rat) = ((0 : Int) : Rat) := by rw [e]; rfl
  exact Rat.intCast_inj.mp this
theorem Fr.of_low {T B t b : Int} {q : Rat} (h : Low T B t b) (hB : B ≠ 0) (e : (T : Rat) = q * (B : Rat)) : Fr t b q := by
  refine ⟨h.pos, h.co, ?_⟩
  have k := congrArg (fun x : Int => (x : Rat)) h.eq
  simp only [Rat.intCast_mul] at k
  have hB' := cast_ne hB
  grind
theorem Fr.unique {t b t' b' : Int} {q : Rat} (h : Fr t b q) (h' : Fr t' b' q) : t = t' ∧ b = b' := by
  refine low_unique h.pos h'.pos h.co h'.co ?_
  have e : ((t * b' : Int) : Rat) = ((t' * b : Int) : Rat) := by
    have e1 := h.eq
    have e2 := h'.eq
    simp only [Rat.intCast_mul]
    grind
  exact Rat.intCast_inj.mp e
theorem Fr.worth {t b t' b' : Int} {q q' : Rat} (h : Fr t b q) (h' : Fr t' b' q') (e : t = t') (e' : b = b') : q = q' := by
  subst e e'
  have hb := cast_ne (b := b) (by have := h.pos; (first | lia | omega))
  have e1 := h.eq
  have e2 := h'.eq
  grind
theorem mul_pos1 {b d : Int} (hb : 1 ≤ b) (hd : 1 ≤ d) : 1 ≤ b * d := by
  have := Int.mul_pos (show 0 < b by (first | lia | omega)) (show 0 < d by (first | lia | omega))
  (first | lia | omega)
theorem Qt.plus {a b c d : Int} {q r : Rat} (h : Qt a b q) (k : Qt c d r) : Qt (a * d + c * b) (b * d) (q + r) := by
  refine ⟨mul_pos1 h.pos k.pos, ?_⟩
  have e1 := h.eq
  have e2 := k.eq
  simp only [Rat.intCast_mul, Rat.intCast_add]
  grind
theorem Qt.minus {a b c d : Int} {q r : Rat} (h : Qt a b q) (k : Qt c d r) : Qt (a * d - c * b) (b * d) (q - r) := by
  refine ⟨mul_pos1 h.pos k.pos, ?_⟩
  have e1 := h.eq
  have e2 := k.eq
  simp only [Rat.intCast_mul, Rat.intCast_sub]
  grind
theorem Qt.times {a b c d : Int} {q r : Rat} (h : Qt a b q) (k : Qt c d r) : Qt (a * c) (b * d) (q * r) := by
  refine ⟨mul_pos1 h.pos k.pos, ?_⟩
  have e1 := h.eq
  have e2 := k.eq
  simp only [Rat.intCast_mul]
  grind
theorem Qt.neg {a b : Int} {q : Rat} (h : Qt a b q) : Qt (-a) b (-q) := by
  refine ⟨h.pos, ?_⟩
  have e1 := h.eq
  simp only [Rat.intCast_neg]
  grind
theorem Qt.whole (m : Int) : Qt m 1 (m : Rat) := ⟨by (first | lia | omega), by simp⟩
theorem Qt.div {a b s : Int} {q : Rat} (h : Qt a b q) (hs : 0 < s) : Qt a (b * s) (q / (s : Rat)) := by
  refine ⟨mul_pos1 h.pos (by (first | lia | omega)), ?_⟩
  have e1 := h.eq
  have hs' := cast_ne (b := s) (by (first | lia | omega))
  simp only [Rat.intCast_mul]
  grind
theorem Qt.divN {a b s : Int} {q : Rat} (h : Qt a b q) (hs : s < 0) : Qt (-a) (b * -s) (q / (s : Rat)) := by
  have k := h.neg.div (s := -s) (by (first | lia | omega))
  have hs' := cast_ne (b := s) (by (first | lia | omega))
  have e : -q / ((-s : Int) : Rat) = q / (s : Rat) := by
    simp only [Rat.intCast_neg]
    grind
  rw [e] at k
  exact k
theorem Qt.lt_iff {a b c d : Int} {q r : Rat} (h : Qt a b q) (k : Qt c d r) : a * d < c * b ↔ q < r := by
  have e1 := h.eq
  have e2 := k.eq
  have hb : (0 : Rat) < (b : Rat) := by have := h.pos; exact Rat.intCast_pos.mpr (by (first | lia | omega))
  have hd : (0 : Rat) < (d : Rat) := by have := k.pos; exact Rat.intCast_pos.mpr (by (first | lia | omega))
  have hbd : (0 : Rat) < (b : Rat) * (d : Rat) := Rat.mul_pos hb hd
  have l : ((a * d : Int) : Rat) = q * ((b : Rat) * (d : Rat)) := by simp only [Rat.intCast_mul]; grind
  have m : ((c * b : Int) : Rat) = r * ((b : Rat) * (d : Rat)) := by simp only [Rat.intCast_mul]; grind
  rw [← Rat.intCast_lt_intCast, l, m]
  exact Rat.mul_lt_mul_right hbd
end Mth

namespace Mth
noncomputable def chord (t : Rat) (q : Rat) (u : Rat) (t' : Rat) (q' : Rat) : Rat := (q * (t' - u) + q' * (u - t)) / (t' - t)
end Mth

namespace Mth
theorem Fr.own (q : Rat) : Fr q.num (q.den : Int) q := by
  have hp := q.den_pos
  have hd : ((q.den : Int) : Rat) ≠ 0 := cast_ne (by (first | lia | omega))
  refine ⟨by (first | lia | omega), ?_, ?_⟩
  · have := q.reduced
    exact this
  · have h := Rat.num_divInt_den q
    rw [Rat.divInt_eq_div] at h
    grind
theorem Fr.num_den {t b : Int} {q : Rat} (h : Fr t b q) : t = q.num ∧ b = (q.den : Int) := h.unique (Fr.own q)
section
variable {α : Type} {s : α → Bool} {es : List α} {i : Nat} {e : α}
end
end Mth

namespace Mth
theorem cast_pos {b : Int} (h : 0 < b) : (0 : Rat) < (b : Rat) := Rat.intCast_pos.mpr h
theorem cast_sub_ne {t t' : Int} (h : t < t') : ((t' : Rat) - (t : Rat)) ≠ 0 := by
  have : (t : Rat) < (t' : Rat) := Rat.intCast_lt_intCast.mpr h
  grind
theorem chord_mul {t q u t' q' : Rat} (h : t' - t ≠ 0) : chord t q u t' q' * (t' - t) = q * (t' - u) + q' * (u - t) := by
  unfold chord
  grind
section
variable {s s' : Nat → Rat} {i m k k' : Nat} {c : Rat}
end
end Mth

namespace Mth
section
variable {L : Nat → Nat → Prop} {N f : Nat} {t u : Nat → Int}
end
theorem rdiv_le {a b c : Rat} (h : 0 < c) : a / c ≤ b ↔ a ≤ b * c := by
  have e : a / c * c = a := by grind
  constructor
  · intro z
    have := Rat.mul_le_mul_of_nonneg_right z (show 0 ≤ c by grind)
    rw [e] at this
    exact this
  · intro z
    exact Rat.le_of_mul_le_mul_right (by rw [e]; exact z) h
theorem rle_div {a b c : Rat} (h : 0 < c) : a ≤ b / c ↔ a * c ≤ b := by
  have e : b / c * c = b := by grind
  constructor
  · intro z
    have := Rat.mul_le_mul_of_nonneg_right z (show 0 ≤ c by grind)
    rw [e] at this
    exact this
  · intro z
    exact Rat.le_of_mul_le_mul_right (by rw [e]; exact z) h
end Mth

namespace Mth
section
variable {t v : Nat → Rat} {B s : Rat} {n i j k l : Nat}
end
end Mth

namespace My
open PySem PySem.Spec PyProof.Rows L2 Mth

theorem mulOk {m n : Nat} {x y : Int} (hx : Sz m x) (hy : Sz n y) (h : autoParam (m + n ≤ 134217728) au1_._auto_1) : IntMulOk x y :=
  IntMulOk.of_le (intBits_le_iff.mpr hx) (intBits_le_iff.mpr hy) h
theorem mulR {x y : Int} (h1 : -(2 ^ 64) < y) (h2 : y < 2 ^ 64) : IntMulOk x y := CMul.ok (.inr ⟨h1, h2⟩)
theorem mulL {x y : Int} (h1 : -(2 ^ 64) < x) (h2 : x < 2 ^ 64) : IntMulOk x y := CMul.ok (.inl ⟨h1, h2⟩)
noncomputable def CDivB (_ j : Int) : Prop := j ≠ 0 ∧ j.natAbs.log2 < 9000

section
variable {X : Cx}
theorem op_mulB : OpR X (binaryOp .Mult) (rI IntMulOk fun i j => .int (i * j)) := opI fun _ _ _ _ _ _ _ hc q => mul_int q hc
theorem op_fdivB : OpR X (binaryOp .FloorDiv) (rI CDivB fun i j => .int (i.fdiv j)) := opI fun _ _ _ _ _ _ _ hc q => floordiv_int hc.1 q (.inl (PyProof.noPylong_of_log2 hc.2))
end

mutual
inductive Den (H : Hp) : V → PyData → Prop where
  | non : Den H .non .none
  | bl (b : Bool) : Den H (.bl b) (.bool b)
  | int (i : Int) : Den H (.int i) (.int i)
  | str (x : Str) : Den H (.str x) (.str x)
  | tup {a : Addr} {xs : List V} {ds : List PyData} : H a = some (.tup xs) → Dens H xs ds → Den H (.ref a) (.tuple ds)
  | lst {a : Addr} {xs : List V} {ds : List PyData} : H a = some (.lst xs) → Dens H xs ds → Den H (.ref a) (.list ds)
inductive Dens (H : Hp) : List V → List PyData → Prop where
  | nil : Dens H [] []
  | cons {x : V} {xs : List V} {d : PyData} {ds : List PyData} : Den H x d → Dens H xs ds → Dens H (x :: xs) (d :: ds)
end
section
variable {P : Program} {w : World} {H : Hp} {h : Heap}
mutual
theorem Den.reads (ok : HOk P w H h) : ∀ {v : V} {d : PyData}, Den H v d → ∀ {u : Value}, RelV v u → ∃ as, Reads h u d as
  | _, _, .non, u, r => by cases (show u = Value.none from r); exact ⟨_, Reads.none⟩
  | _, _, .bl b, u, r => by cases (show u = Value.bool b from r); exact ⟨_, Reads.bool b⟩
  | _, _, .int i, u, r => by obtain ⟨t, q⟩ := (show ∃ t, u = Value.int i t from r); cases q; exact ⟨_, Reads.int i t⟩
  | _, _, .str x, u, r => by obtain ⟨t, q⟩ := (show ∃ t, u = Value.str x t from r); cases q; exact ⟨_, Reads.str x t⟩
  | _, _, @Den.tup _ a xs ds e dd, u, r => by
    cases (show u = Value.ref a from r)
    obtain ⟨_, its, rv, o, h1, h2, n, h3⟩ := (show ObjOk P w H h a (.tup xs) from ok a _ e)
    obtain ⟨as, q⟩ := Dens.reads ok dd rv
    exact ⟨as, reads_tuple_at h1 h2 h3 (by simpa using q)⟩
  | _, _, @Den.lst _ a xs ds e dd, u, r => by
    cases (show u = Value.ref a from r)
    obtain ⟨_, its, n, rv, h1⟩ := (show ObjOk P w H h a (.lst xs) from ok a _ e)
    obtain ⟨as, q⟩ := Dens.reads ok dd rv
    exact ⟨_, reads_list_at h1 rfl rfl (by simpa using q)⟩
theorem Dens.reads (ok : HOk P w H h) : ∀ {vs : List V} {ds : List PyData}, Dens H vs ds → ∀ {us : List Value}, Vals vs us → ∃ as, ReadsAll h us ds as
  | _, _, .nil, _, .nil => ⟨_, ReadsAll.nil⟩
  | _, _, .cons d dd, _, .cons r rr => by
    obtain ⟨as, q⟩ := Den.reads ok d r
    obtain ⟨bs, p⟩ := Dens.reads ok dd rr
    exact ⟨_, ReadsAll.cons q p⟩
end
end
noncomputable def rEqD : R2 := fun x y H Q => ∃ d e, Den H x d ∧ Den H y e ∧ SeqAt.shaped d = true ∧ SeqAt.shaped e = true ∧ Q (.bl (PyData.eqv d e)) H
noncomputable def rNeD : R2 := fun x y H Q => ∃ d e, Den H x d ∧ Den H y e ∧ SeqAt.shaped d = true ∧ SeqAt.shaped e = true ∧ Q (.bl (!PyData.eqv d e)) H
section
variable {X : Cx}
theorem op_eqD (hu : X.A.units + 64 < cLine) : OpR X (compareOp .Eq) rEqD := by
  intro pins s σ H x y v u Q I rx ry h
  obtain ⟨d, e, hd, he, s1, s2, q⟩ := h
  obtain ⟨as, r1⟩ := hd.reads I.hok rx
  obtain ⟨bs, r2⟩ := he.reads I.hok ry
  exact eq_dataH r1 r2 s1 s2 hu ⟨.bl _, H, I, rfl, q⟩
theorem op_neD (hu : X.A.units + 64 < cLine) : OpR X (compareOp .NotEq) rNeD := by
  intro pins s σ H x y v u Q I rx ry h
  obtain ⟨d, e, hd, he, s1, s2, q⟩ := h
  obtain ⟨as, r1⟩ := hd.reads I.hok rx
  obtain ⟨bs, r2⟩ := he.reads I.hok ry
  exact ne_dataH r1 r2 s1 s2 hu ⟨.bl _, H, I, rfl, q⟩
noncomputable def rIsi (K : PySem.W.Frag) : List V → Hp → VK → Prop := fun xs H Q => ∃ x n t b, xs = [x, .ty n] ∧ TyOf K H x t ∧ PySem.W.kitOne K t (.type n) = some b ∧ Q (.bl b) H
theorem call_isi : CallR X (.builtin "isinstance") (rIsi X.K) := by
  intro pins s σ H xs us Q I r h
  obtain ⟨x, n, t, b, rfl, ty, e, q⟩ := h
  obtain ⟨u, u2, rfl, rx, rn⟩ := vals2 r
  cases (show u2 = Value.type n from rn)
  exact isinst_ok I rx ty e fun tk => ⟨.bl b, H, I.tok tk, rfl, q⟩
end
section
variable {K : PySem.W.Frag}
theorem kit_tt : PySem.W.kitOne K (.type "tuple") (.type "tuple") = some true := by rfl
theorem kit_ii : PySem.W.kitOne K (.type "int") (.type "int") = some true := by rfl
theorem kit_ib : PySem.W.kitOne K (.type "int") (.type "bool") = some false := by rfl
end

section
variable {es : List Expr} {env : Env} {pos : Pos}
theorem any0 : (backTo pos (starEach [] env)).any (·.1) = false := by rfl
theorem anyc {e : Expr} (h : starEach (e :: es) env = (false, eval e env) :: starEach es env) (k : (backTo pos (starEach es env)).any (·.1) = false) : (backTo pos (starEach (e :: es) env)).any (·.1) = false := by
  rw [h]
  exact k
theorem st_C {c : Const} {k : Nat} : starEach (.Constant c k pos :: es) env = (false, eval (.Constant c k pos) env) :: starEach es env := by rfl
theorem st_N {x : Str} : starEach (.Name x pos :: es) env = (false, eval (.Name x pos) env) :: starEach es env := by rfl
theorem st_B {a b : Expr} {op : Operator} : starEach (.BinOp a op b pos :: es) env = (false, eval (.BinOp a op b pos) env) :: starEach es env := by rfl
theorem st_S {a b : Expr} : starEach (.Subscript a b pos :: es) env = (false, eval (.Subscript a b pos) env) :: starEach es env := by rfl
theorem st_K {f : Expr} {as : List Expr} {kw : List Keyword} : starEach (.Call f as kw pos :: es) env = (false, eval (.Call f as kw pos) env) :: starEach es env := by rfl
theorem st_T {as : List Expr} {k : Nat} : starEach (.Tuple as k pos :: es) env = (false, eval (.Tuple as k pos) env) :: starEach es env := by rfl
theorem st_L {as : List Expr} : starEach (.List as pos :: es) env = (false, eval (.List as pos) env) :: starEach es env := by rfl
theorem st_U {a : Expr} {op : UnaryOp} : starEach (.UnaryOp op a pos :: es) env = (false, eval (.UnaryOp op a pos) env) :: starEach es env := by rfl
theorem st_Q {a : Expr} {ops : List CmpOp} {bs : List Expr} : starEach (.Compare a ops bs pos :: es) env = (false, eval (.Compare a ops bs pos) env) :: starEach es env := by rfl
end

section
variable {tg : Option Expr} {l : Nat} {env : Env} {pos : Pos}
theorem sw_C {c : Const} {k : Nat} : swapsWith (.Constant c k pos) tg l env = pure false := by rfl
theorem sw_N {x : Str} : swapsWith (.Name x pos) tg l env = pure false := by rfl
theorem sw_B {a b : Expr} {op : Operator} : swapsWith (.BinOp a op b pos) tg l env = pure false := by rfl
theorem sw_S {a b : Expr} : swapsWith (.Subscript a b pos) tg l env = pure false := by rfl
theorem sw_K {f : Expr} {as : List Expr} {kw : List Keyword} : swapsWith (.Call f as kw pos) tg l env = pure false := by rfl
theorem sw_T {as : List Expr} {k : Nat} : swapsWith (.Tuple as k pos) tg l env = pure false := by rfl
theorem sw_L {as : List Expr} : swapsWith (.List as pos) tg l env = pure false := by rfl
theorem sw_U {a : Expr} {op : UnaryOp} : swapsWith (.UnaryOp op a pos) tg l env = pure false := by rfl
end
structure Dn (P : Program) (w : World) (K : PySem.W.Frag) (mg : Str → Option Value) (base : Heap) (k : Nat) (x : Str) (ps : List Str) (sp : Sp) : Prop where
  ex : ∃ (f : Addr) (fd : FuncData), FnOk P w K mg base CX0 k f fd ps sp ∧ mg x = some (.ref f) ∧ PySem.W.keepIn K (.ref f) = true ∧ Binds K fd ps []
section
variable {X : Cx} {k : Nat} {x : Str} {ps : List Str} {sp : Sp} {p pos : Pos} {e : Expr} {es : List Expr} {t : TA}
theorem pe_dn (D : Dn X.prog X.w X.K X.mg X.base k x ps sp) (hr : Room k X.A) (hg : Gl X x) (ha : PA X (e :: es) t) (hdb : autoParam ((x == ("__debug__" : Str)) = false) au1_._auto_1)
    (he : autoParam (starEach (e :: es) X.env = (false, eval e X.env) :: starEach es X.env) au0_._auto_1) (hpl : autoParam ((backTo pos (starEach es X.env)).any (·.1) = false) au0_._auto_1) : PE X (.Call (.Name x p) (e :: es) [] pos) (tCall sp [] E0 t) := by
  obtain ⟨f, fd, ok, hm, hk, hb⟩ := D.ex
  exact pe_call ok hr hg hm hk hb .nil pass0 ha hdb he hpl
end
theorem dn_mk {P : Program} {w : World} {K : PySem.W.Frag} {mg : Str → Option Value} {base : Heap} {k : Nat} {x qual : Str} {ps : List Str} {sp : Sp} {st : Stmt} {f : Addr} {fd : FuncData} (F : Fun K x qual st f fd) (ok : FnOk P w K mg base CX0 k f fd ps sp)
    (hm : mg x = some (.ref f)) (hb : Binds K fd ps []) : Dn P w K mg base k x ps sp := ⟨f, fd, ok, hm, F.kp, hb⟩

section
variable {σ : L2.St} {H : Hp} {Q : VK} {D : Ends} {te ta tb : TE} {t u : TS} {c : TT} {B : Bool → Hp → Prop} {i : Nat} {v : V} {m n : Int} {K : PySem.W.Frag}
theorem r_seq (h : t { D with nx := u D } σ H) : tSeq t u D σ H := h
theorem r_set (h : te σ H fun x H1 => D.nx (σ.set i (some x)) H1) : tAsg te (gName i) D σ H := h
theorem r_ret (h : te σ H D.rt) : tRet te D σ H := h
theorem r_drop (h : te σ H fun _ H1 => D.nx σ H1) : tDrop te D σ H := h
theorem r_if (h : c σ H fun b H1 => if b = true then t D σ H1 else u D σ H1) : tIfS c t u D σ H := h
theorem r_next (h : D.nx σ H) : tNext D σ H := h
theorem r_var (e : σ[i]? = some (some v)) (q : Q v H) : tVar i σ H Q := ⟨v, e, q⟩
theorem r_c (q : Q v H) : tC v σ H Q := q
theorem r_op {r : R2} (h : ta σ H fun x H1 => tb σ H1 fun y H2 => r x y H2 Q) : tOp r ta tb σ H Q := h
theorem r_un {r : V → Hp → VK → Prop} (h : ta σ H fun x H1 => r x H1 Q) : tUn r ta σ H Q := h
theorem r_I0 {g : Int → Int → V} (q : Q (g m n) H) : rI0 g (.int m) (.int n) H Q := ⟨m, n, rfl, rfl, q⟩
theorem r_I {C : Int → Int → Prop} {g : Int → Int → V} (hc : C m n) (q : Q (g m n) H) : rI C g (.int m) (.int n) H Q := ⟨m, n, rfl, rfl, hc, q⟩
theorem r_U {g : Int → V} (q : Q (g m) H) : rU g (.int m) H Q := ⟨m, rfl, q⟩
theorem r_test (h : te σ H fun x H' => ∃ k, x = .bl k ∧ B k H') : tTest te σ H B := h
theorem r_B (h : te σ H fun x H' => ∃ k, x = .bl k ∧ B k H') : tB te σ H B := h
theorem r_bl {b : Bool} {R : Bool → Prop} (h : R b) : ∃ k, V.bl b = .bl k ∧ R k := ⟨b, rfl, h⟩
theorem r_cb {r : List V → Hp → VK → Prop} {ts : TA} (h : ts σ H fun vs H1 => r vs H1 Q) : tCB r ts σ H Q := h
theorem r_cons {ts : TA} {R : List V → Hp → Prop} (h : te σ H fun x H1 => ts σ H1 fun xs H2 => R (x :: xs) H2) : tCons te ts σ H R := h
theorem r_nil {R : List V → Hp → Prop} (h : R [] H) : tNil σ H R := h
noncomputable def Nw (mk : List V → HO) (xs : List V) (H : Hp) (Q : VK) : Prop := xs.length ≤ sizeLine ∧ ∀ p, H p = none → Q (.ref p) (upd H p (mk xs))
theorem r_tup {ts : TA} (h : ts σ H fun xs H1 => Nw .tup xs H1 Q) : tTup ts σ H Q := h
theorem r_lst {ts : TA} (h : ts σ H fun xs H1 => Nw .lst xs H1 Q) : tLst ts σ H Q := h
theorem r_call {sp : Sp} {ts : TA} (h : ts σ H fun vs H1 => sp (vs ++ []) H1 Q E0) : tCall sp [] E0 ts σ H Q := h
theorem r_par {a b : Nat} {ts : TA} (h : ts σ H fun vs H1 => ∃ v w, vs = [v, w] ∧ D.nx ((σ.set a (some v)).set b (some w)) H1) : tPar a b ts D σ H := h
theorem r_not (h : c σ H fun b H1 => B (!b) H1) : tNot c σ H B := h
theorem r_and {d : TT} (h : c σ H fun b H1 => if b = true then d σ H1 B else B false H1) : tAnd c d σ H B := h
theorem r_or {d : TT} (h : c σ H fun b H1 => if b = true then B true H1 else d σ H1 B) : tOr c d σ H B := h
theorem r_andV (h : ta σ H fun x H1 => ∃ k, x = .bl k ∧ if k = true then tb σ H1 Q else Q (.bl false) H1) : tAndV ta tb σ H Q := h
theorem r_ife (h : c σ H fun b H1 => if b = true then ta σ H1 Q else tb σ H1 Q) : tIf c ta tb σ H Q := h
theorem r_eq (hs : scal (.int m) (.int n) = true) (q : Q (.bl (decide (m = n))) H) : rEq (.int m) (.int n) H Q := ⟨hs, by
  have e : decide (V.int m = V.int n) = decide (m = n) := by simp
  rw [e]; exact q⟩
theorem r_ne (hs : scal (.int m) (.int n) = true) (q : Q (.bl (!decide (m = n))) H) : rNe (.int m) (.int n) H Q := ⟨hs, by
  have e : decide (V.int m = V.int n) = decide (m = n) := by simp
  rw [e]; exact q⟩
theorem at0 {x : V} {xs : List V} : atI (x :: xs) 0 = some x := atI_nat (j := 0) rfl
theorem at1 {x y : V} {xs : List V} : atI (x :: y :: xs) 1 = some y := atI_nat (j := 1) rfl
theorem at2 {x y z : V} {xs : List V} : atI (x :: y :: z :: xs) 2 = some z := atI_nat (j := 2) rfl
theorem r_t0 {p : Addr} {x : V} {xs : List V} (h : H p = some (.tup (x :: xs))) (q : Q x H) : rIxT K (.ref p) (.int 0) H Q := ⟨p, _, 0, x, rfl, rfl, SqT.of h, at0, q⟩
theorem r_t1 {p : Addr} {x y : V} {xs : List V} (h : H p = some (.tup (x :: y :: xs))) (q : Q y H) : rIxT K (.ref p) (.int 1) H Q := ⟨p, _, 1, y, rfl, rfl, SqT.of h, at1, q⟩
theorem r_t2 {p : Addr} {x y z : V} {xs : List V} (h : H p = some (.tup (x :: y :: z :: xs))) (q : Q z H) : rIxT K (.ref p) (.int 2) H Q := ⟨p, _, 2, z, rfl, rfl, SqT.of h, at2, q⟩
noncomputable def rLen (K : PySem.W.Frag) : List V → Hp → VK → Prop := fun xs H Q => ∃ p ys, xs = [.ref p] ∧ (SqL K H p ys ∨ SqT K H p ys) ∧ Q (.int ys.length) H
theorem r_len {p : Addr} {ys : List V} (h : SqL K H p ys ∨ SqT K H p ys) (q : Q (.int ys.length) H) : rLen K [.ref p] H Q := ⟨p, ys, rfl, h, q⟩
noncomputable def rAbs : List V → Hp → VK → Prop := fun xs H Q => ∃ i, xs = [.int i] ∧ Q (.int (if i < 0 then -i else i)) H
theorem r_absC (q : Q (.int (if m < 0 then -m else m)) H) : rAbs [.int m] H Q := ⟨m, rfl, q⟩
section
variable {X : Cx} (K : PySem.W.Frag)
theorem ixL (h : autoParam (X.K = K) au0_._auto_1) : IxR X (rIxL K) := h ▸ ix_list
theorem ixT (h : autoParam (X.K = K) au0_._auto_1) : IxR X (rIxT K) := h ▸ ix_tup
theorem slL (h : autoParam (X.K = K) au0_._auto_1) : SlR X (rSlL K) := h ▸ sl_list
theorem lenC (h : autoParam (X.K = K) au0_._auto_1) : CallR X (.builtin "len") (rLen K) := h ▸ call_len_seq
theorem isiC (h : autoParam (X.K = K) au0_._auto_1) : CallR X (.builtin "isinstance") (rIsi K) := h ▸ call_isi
theorem pe_ty {X : Cx} {x : Str} {n : String} {pos : Pos} (hg : Gl X x) (hm : X.mg x = none) (hv : bootBuiltins x = some (.type n)) (hn : autoParam (x ≠ "__name__") au1_._auto_1) (hd : autoParam ((x == ("__debug__" : Str)) = false) au1_._auto_1) : PE X (.Name x pos) (tC (.ty n)) :=
  pe_bltn hg hm hv (show RelV (.ty n) (.type n) from rfl) hn hd
theorem absC : CallR X (.builtin "abs") rAbs := call_abs
theorem piL {tg l : Expr} {tl : TE} (hl : PE X l tl) (h : autoParam (X.K = K) au0_._auto_1) : PI X tg l (iList K tl) := h ▸ pi_list hl
theorem piT {tg l : Expr} {tl : TE} (hl : PE X l tl) (h : autoParam (X.K = K) au0_._auto_1) : PI X tg l (iTup K tl) := h ▸ pi_tup hl
theorem pgT {es : List Expr} {k : Nat} {t : TGs} {n : Nat} {pos : Pos} (hc : X.calm = true) (g : PGs X es t)
    (hn : autoParam ((assignEach es X.env).length = n) au0_._auto_1) (hst : autoParam ((assignEach es X.env).findIdx? (·.1) = none) au0_._auto_1) (h : autoParam (X.K = K) au0_._auto_1) : PG X (.Tuple es k pos) (gTup K n t) := h ▸ pg_tup hc g hn hst
theorem appC {o e : Expr} {to te : TE} {apos cpos : Pos} (ho : PE X o to) (he : PE X e te) (h : autoParam (X.K = K) au0_._auto_1)
    (hbase : autoParam (attributeBase o "append" X.env (eval o X.env) = eval o X.env) au0_._auto_1)
    (hfew : autoParam (((backTo cpos (starEach (e :: []) X.env)).all (fun x => !x.1) && (backToKw cpos (keywordEach [] X.env)).all (fun x => x.1.isSome)
      && decide ((e :: ([] : List Expr)).length + ([] : List Keyword).length + (if ([] : List Keyword).isEmpty then 0 else 1) < 30)) = true) au0_._auto_1)
    (hline : autoParam ((apos.endLine == cpos.line) = true) au0_._auto_1) (hs : autoParam (starEach (e :: []) X.env = (false, eval e X.env) :: starEach [] X.env) au0_._auto_1) (hplain : autoParam ((backTo cpos (starEach [] X.env)).any (·.1) = false) au0_._auto_1) :
    PE X (.Call (.Attribute o "append" apos) [e] [] cpos) (tBM K "list" rAppend to (tCons te tNil)) :=
  h ▸ pe_bm PySem.F.plainAttrs_list PySem.F.slot_list_append PySem.F.type_list_append mt_append ho (pa_cons he pa_nil hs) hbase hfew hline hs hplain
end
theorem same_new {p : Addr} (h : H p = none) (o : HO) : Same H (upd H p o) := fun b u q => by rw [upd_ne (ne_of_none q h)]; exact q
theorem r_new {xs : List V} {mk : List V → HO} (hl : xs.length ≤ 1000) (h : ∀ p H1, Same H H1 → H p = none → H1 p = some (mk xs) → Q (.ref p) H1) : Nw mk xs H Q :=
  ⟨Nat.le_of_lt (small1000 hl), fun p hp => h p _ (same_new hp _) hp upd_same⟩
theorem r_g {R : L2.St → Hp → Prop} (h : R (σ.set i (some v)) H) : gName i v σ H R := h
theorem r_l {p : Addr} {xs : List V} {j : Int} (h : H p = some (.lst xs)) (e : atI xs j = some v) (q : Q v H) : rIxL K (.ref p) (.int j) H Q := ⟨p, _, j, v, rfl, rfl, SqL.of h, e, q⟩
theorem r_bm {T : String} {r : V → List V → Hp → VK → Prop} {ts : TA} (h : te σ H fun x H1 => tyV K T x H1 ∧ ts σ H1 fun xs H2 => r x xs H2 Q) : tBM K T r te ts σ H Q := h
theorem r_app {p : Addr} {xs : List V} (h : H p = some (.lst xs)) (hl : xs.length < sizeLine) (q : Q .non (upd H p (.lst (xs ++ [v])))) : rAppend (.ref p) [v] H Q := ⟨p, xs, v, rfl, rfl, h, hl, q⟩
theorem same_at {H1 H2 : Hp} {p : Addr} {o : HO} (s : Same H1 H2) (n : H1 p = none) : Same H1 (upd H2 p o) := fun b x e => by rw [upd_ne (ne_of_none e n)]; exact s b x e
theorem at_ints {xs : List Int} {j : Nat} {x k : Int} (h : xs[j]? = some x) (hk : k = (j : Int)) : atI (xs.map V.int) k = some (.int x) := by
  subst hk
  exact atI_nat (by rw [List.getElem?_map, h]; rfl)
theorem r_two {R : V → V → Prop} {x y : V} (h : R x y) : ∃ v w, [x, y] = [v, w] ∧ R v w := ⟨x, y, rfl, h⟩
theorem r_for {wi : TI} {g : TG} {tb : TS} (h : wi σ H fun J H1 => ∃ W : Nat → Nat → L2.St → Hp → Prop, (∃ m, W 0 m σ H1) ∧ ∀ i m σ H, W i m σ H →
  (J.stop i H ∧ D.nx σ H) ∨ (J.go i H ∧ ∃ N : L2.St → Hp → Prop, (∀ σ' H', N σ' H' → ∃ m', m' < m ∧ W (i + 1) m' σ' H') ∧ ∀ x H', J.yld i H x H' → g x σ H' fun σ2 H2 => tb { D with nx := N, ct := N, bk := D.nx } σ2 H2)) : tFor wi g tb D σ H := h
theorem r_iL {R : It → Hp → Prop} (h : te σ H fun x H1 => ∃ a, x = .ref a ∧ (∃ xs, SqL K H1 a xs) ∧ R (Itl K a) H1) : iList K te σ H R := h
theorem r_isi {x : V} {ty : String} {tv : Value} {b : Bool} (h : TyOf K H x tv) (e : PySem.W.kitOne K tv (.type ty) = some b) (q : Q (.bl b) H) : rIsi K [x, .ty ty] H Q := ⟨x, ty, tv, b, rfl, h, e, q⟩
end
end My

namespace My
open PySem PySem.Spec PyProof.Rows L2 Mth
section
variable {prog : Program} {w : World} {A : Around} {E : Value → Shared → Prop} {s : Shared}
theorem draw_list {it l : Addr} {items : Array Value} (hne : l ≠ it) : ∀ (n i : Nat) (s : Shared) (Q : List Value → Shared → Prop), s.heap.IsListIter it l i → s.heap.IsList l items → i + n ≤ items.size →
    (∀ h', h'.IsListIter it l (i + n) → Heap.SameBut it s.heap h' → Q ((items.toList.drop i).take n) { s with heap := h' }) → wpAny (model prog w) A (draw (.ref it) n) Q E s
  | 0, i, s, Q, hit, _, _, hQ => by
    show wpAny _ _ (pure []) Q E s
    exact wpAny_pure (by simpa using hQ s.heap hit (Heap.SameBut.refl ..))
  | n + 1, i, s, Q, hit, ht, hle, hQ => by
    have hlt : i < items.size := by (first | lia | omega)
    show wpAny _ _ (pyNext (.ref it) >>= _) Q E s
    refine wpAny_bind (wpAny_pyNext_list_item hit ht (x := items[i]) (by simp [hlt]) fun h₁ hit₁ hs₁ => ?_)
    refine wpAny_bind (wpAny_holding (draw_list hne n (i + 1) _ _ hit₁ (ht.extBut hs₁.extBut hne) (by (first | lia | omega)) fun h₂ hit₂ hs₂ => wpAny_pure ?_))
    have hd : items.toList.drop i = items[i] :: items.toList.drop (i + 1) := by simp [List.drop_eq_getElem_cons, hlt]
    have := hQ h₂ (by rw [show i + (n + 1) = i + 1 + n by (first | lia | omega)]; exact hit₂) (hs₁.trans hs₂)
    rw [hd, List.take_succ_cons] at this
    exact this
theorem unpackItems_list {t : Addr} {items : Array Value} {Q : List Value → Shared → Prop} (hh : A.handled = none) (ht : s.heap.IsList t items)
    (hQ : ∀ h', Heap.ExtBut s.heap.objs.size s.heap h' → Q items.toList { s with heap := h' }) : wpAny (model prog w) A (unpackItems (.ref t) items.size none) Q E s := by
  have hlt : t ≠ s.heap.objs.size := by obtain ⟨o, ho, _⟩ := id ht; exact Nat.ne_of_lt (Heap.lt_size ho)
  unfold unpackItems
  refine wpAny_bind ?_
  · unfold notIterableAtAll
    refine wpAny_bind (wpAny_specialOf ht.typeIs PySem.slot_list_iter.lookup ?_)
    refine wpAny_pure ?_
    simp only [Bool.false_eq_true, if_false]
    refine wpAny_bind (wpAny_holding (wpAny_pyIter_list ht ?_))
    have hp : (s.heap.push { cls := .type "list_iterator", data := .fields #[.ref t, .int 0 0] }).IsList t items := ht.extBut (b := s.heap.objs.size) (fun b o _ e => Heap.get?_push_of_some _ e) hlt
    refine wpAny_bind (wpAny_holding (draw_list hlt items.size 0 _ _ ⟨_, Heap.get?_push_size _ rfl, rfl, rfl⟩ hp (by (first | lia | omega)) fun h₁ hit₁ hs₁ => ?_))
    have hall : List.take items.size (List.drop 0 items.toList) = items.toList := by
      rw [List.drop_zero]; exact List.take_of_length_le (by simp)
    rw [hall]
    rw [if_neg (by simp)]
    have ht₁ : h₁.IsList t items := hp.extBut hs₁.extBut hlt
    refine wpAny_bind (wpAny_holding (wpAny_pyNext_list_end hh hit₁ ht₁ (by simp) fun h₂ he₂ => ?_))
    simp only [Option.isSome_none, Bool.false_eq_true, if_false]
    refine wpAny_pure (hQ h₂ fun b o hb e => he₂ b o hb (hs₁.extBut b o hb (Heap.get?_push_of_some _ e)))
theorem assign_Tuple_list {env : Env} {elts : List Expr} {x1} {pos : Pos} {t : Addr} {items : Array Value} {Q : Unit → Shared → Prop} (hh : A.handled = none) (ht : s.heap.IsList t items)
    (hn : (assignEach elts env).length = items.size) (hstar : (assignEach elts env).findIdx? (·.1) = none)
    (h : ∀ h', Heap.ExtBut s.heap.objs.size s.heap h' → wpAny (model prog w) A (assignInOrder ((assignEach elts env).map (·.2)) items.toList) Q E { s with heap := h' }) :
    wpAny (model prog w) A (assign (.Tuple elts x1 pos) env (.ref t)) Q E s := by
  rw [assign_Tuple]
  refine wpAny_bind (wpAny_standAt ?_)
  unfold unpack
  rw [hn, hstar]
  exact wpAny_bind (wpAny_holding (unpackItems_list hh ht h))
end
section
variable {X : Cx} {pos : Pos}
noncomputable def gLst (K : PySem.W.Frag) (n : Nat) (t : TGs) : TG := fun v σ H Q => ∃ a xs, v = .ref a ∧ SqL K H a xs ∧ xs.length = n ∧ t xs σ H Q
theorem pg_lst {es : List Expr} {k : Nat} {t : TGs} {n : Nat} (hc : X.calm = true) (h : PGs X es t)
    (hn : autoParam ((assignEach es X.env).length = n) au0_._auto_1) (hst : autoParam ((assignEach es X.env).findIdx? (·.1) = none) au0_._auto_1) : PG X (.Tuple es k pos) (gLst X.K n t) := by
  intro pins s σ H v u Q I r hw
  obtain ⟨a, xs, e1, hq, hl, hw⟩ := hw
  subst e1
  cases r
  obtain ⟨its, rv, ht, hz⟩ := I.list hq
  refine assign_Tuple_list (I.ok.hd hc) ht.isList (by simp [hn, ← hl, rv.length]) hst fun h' hx => ?_
  have I1 : Inv X pins σ H { s with heap := h' } := I.kept (t' := s.toks) fun b o e => hx b o (Nat.ne_of_lt (Heap.lt_size e)) e
  exact h pins _ σ H xs _ Q I1 (by simpa using rv) hw
theorem pgL (K : PySem.W.Frag) {es : List Expr} {k : Nat} {t : TGs} {n : Nat} (hc : X.calm = true) (g : PGs X es t)
    (hn : autoParam ((assignEach es X.env).length = n) au0_._auto_1) (hst : autoParam ((assignEach es X.env).findIdx? (·.1) = none) au0_._auto_1) (h : autoParam (X.K = K) au0_._auto_1) : PG X (.Tuple es k pos) (gLst K n t) := h ▸ pg_lst hc g hn hst
end
section
variable {σ : L2.St} {H : Hp} {Q : VK} {a b : Bool} {K : PySem.W.Frag}
theorem r_unlist3 {p : Addr} {x y z : V} {i j k : Nat} {R : L2.St → Hp → Prop} (h : H p = some (.lst [x, y, z])) (q : R (((σ.set i (some x)).set j (some y)).set k (some z)) H) : gLst K 3 (gCons (gName i) (gCons (gName j) (gCons (gName k) gNil))) (.ref p) σ H R :=
  ⟨p, _, rfl, SqL.of h, rfl, x, _, rfl, y, _, rfl, z, _, rfl, rfl, q⟩
end
end My

namespace My
open PySem PySem.Spec PyProof.Rows L2 Mth
noncomputable def cxComp (X : Cx) (N' : List Str) (scope : Scope) (cl : List (Str × Addr)) (C : Addr) (s0 : Shared) (H0 : Hp) (ex' : List Addr) (pn' : List (Addr × Obj)) : Cx :=
  { X with N := N', s₀ := s0, H₀ := H0, env := compEnvC scope cl C X.env, outer := X.stack, ex := ex', fn := fun _ => false, pn := pn', xe := fun _ _ => False }
noncomputable def capV (cap : List Nat) (σ : L2.St) : L2.St := cap.map fun j => (σ[j]?).getD none
theorem hok_but {P : Program} {w : World} {H : Hp} {h h' : Heap} {C : Addr} (x : HOk P w H h) (n : H C = none) (k : ∀ b o, b ≠ C → h.get? b = some o → h'.get? b = some o) : HOk P w H h' := fun b u e =>
  (x b u e).stay (fun c v hc q => k c v (by
    rcases hc with z | z
    · rw [z]; exact ne_of_none e n
    · exact ne_of_none z n) q) (fun _ q => q) fun _ _ q => q
theorem compLoop_gen {prog : Program} {w : World} {A : Around} {R : Result → Shared → Prop} {s : Shared} {elt iter tg : Expr} {ifs : List Expr} {scope : Scope} {pos : Pos} {it acc : Value} {env : Env} (I : Nat → Shared → Prop)
    (turn : ∀ n s, I n s → wpAny (model prog w) A (pyNext it) (fun r s₁ => match r with
      | none => R (.ok .next) s₁
      | some v => wpAny (model prog w) A (letOwnedTupleGo tg it v) (fun _ s₁' => wpAny (model prog w) A (assign tg env v) (fun _ s₂ =>
          wpAny (model prog w) A (forIn ifs true fun c r => if r = true then do let ok ← isTrue c env (eval c env); pure (ForInStep.yield ok) else pure (ForInStep.yield r)) (fun ok s₃ =>
            if ok = true then wpAny (model prog w) A (eval elt env) (fun x s₄ =>
              wpAny (model prog w) A (call (.builtin "list.append") [acc, x]) (fun _ s₅ => ∃ m, m < n ∧ I m s₅) (notedBy (model prog w) A env fun e s' => R (.error e) s') s₄) (notedBy (model prog w) A env fun e s' => R (.error e) s') s₃
            else ∃ m, m < n ∧ I m s₃) (notedBy (model prog w) A env fun e s' => R (.error e) s') s₂) (notedBy (model prog w) A env fun e s' => R (.error e) s') s₁') (notedBy (model prog w) A env fun e s' => R (.error e) s') s₁) (notedBy (model prog w) A env fun e s' => R (.error e) s') s)
    (n : Nat) (h : I n s) : codeAny (model prog w) A (.compLoop (.ListComp elt [⟨tg, iter, ifs, 0⟩] scope pos) 0 it acc env) R s := by
  refine codeAny_loop rfl I (fun n s hI => ?_) n h
  show wpAny _ A ((compTurn (.ListComp elt [⟨tg, iter, ifs, 0⟩] scope pos) 0 it acc env).onRaise (fun x => do noteFrame x env; theTreesLotGoes x)) _ _ s
  refine wpAny_noted ?_
  rw [compTurn_list]
  refine wpAny_bind (wpAny_standAt (wpAny_bind (wpAny_mono (turn n s hI) (fun r s₁ h₁ => ?_) fun _ _ h' => h')))
  cases r with
  | none => exact wpAny_pure h₁
  | some v =>
    refine wpAny_bind (wpAny_mono h₁ (fun _ s₂ h₂ => wpAny_bind (wpAny_mono h₂ (fun _ s₃ h₃ => wpAny_bind (wpAny_mono h₃ (fun ok s₄ h₄ => ?_) fun _ _ h' => h')) fun _ _ h' => h')) fun _ _ h' => h')
    cases ok with
    | false => exact wpAny_pure ⟨rfl, h₄⟩
    | true =>
      exact wpAny_bind (wpAny_bind (wpAny_mono h₄ (fun x s₄ h₄ => wpAny_bind (wpAny_mono h₄ (fun _ s₅ h₅ => wpAny_pure (wpAny_pure ⟨rfl, h₅⟩)) fun _ _ h' => h')) fun _ _ h' => h'))
noncomputable def PTs (X : Cx) (ifs : List Expr) (t : TT) : Prop :=
  ∀ (pins : List (Addr × Obj)) (s : Shared) (σ : L2.St) (H : Hp) (Q : Bool → Hp → Prop), Inv X pins σ H s → t σ H Q →
    wpAny (model X.prog X.w) X.A (forIn ifs true fun c r => if r = true then do let ok ← isTrue c X.env (eval c X.env); pure (ForInStep.yield ok) else pure (ForInStep.yield r)) (TP X pins σ Q) X.xe s
noncomputable def tYes : TT := fun _ H B => B true H
theorem pts_nil {X : Cx} : PTs X [] tYes := fun _ _ _ H _ I h => wpAny_tests_nil ⟨H, I, h⟩
theorem pts_one {X : Cx} {c : Expr} {t : TT} (h : PT X c t) : PTs X [c] t := fun pins s σ H Q I q => wpAny_tests_one (h pins s σ H Q I q)
noncomputable def CapOk (X : Cx) (scope : Scope) (cl : List (Str × Addr)) : List Str → List Nat → Prop
  | [], [] => True
  | y :: ys, j :: js => (X.N[j]? = some y ∧ X.env.kindOf y = some .cell ∧ (relabel scope X.env).names.lookup y = some .cell ∧ cl.lookup y = X.env.cells.lookup y) ∧ CapOk X scope cl ys js
  | _, _ => False
theorem CapOk.len {X : Cx} {scope : Scope} {cl : List (Str × Addr)} : ∀ {ys : List Str} {js : List Nat}, CapOk X scope cl ys js → ys.length = js.length
  | [], [], _ => rfl
  | _ :: _, _ :: _, h => congrArg (· + 1) h.2.len
theorem CapOk.at {X : Cx} {scope : Scope} {cl : List (Str × Addr)} : ∀ {ys : List Str} {js : List Nat}, CapOk X scope cl ys js → ∀ (i j : Nat) (y : Str), ys[i]? = some y → js[i]? = some j →
    X.N[j]? = some y ∧ X.env.kindOf y = some .cell ∧ (relabel scope X.env).names.lookup y = some .cell ∧ cl.lookup y = X.env.cells.lookup y
  | [], [], _, i, _, _, e, _ => by simp at e
  | _ :: _, _ :: _, h, 0, j, y, e1, e2 => by
    simp at e1 e2
    subst e1 e2
    exact h.1
  | _ :: _, _ :: _, h, i + 1, j, y, e1, e2 => h.2.at i j y (by simpa using e1) (by simpa using e2)
noncomputable def tComp (wi : TI) (n : Nat) (cap : List Nat) (g : TG) (tt : TT) (te : TE) : TE := fun σ H Q => wi σ H fun J H1 => ∀ D, H1 D = none → ∃ W : Nat → Nat → List V → Hp → Prop, (∃ m, W 0 m [] (upd H1 D (.lst []))) ∧
  ∀ i m xs H2, W i m xs H2 → H2 D = some (.lst xs) ∧ ((J.stop i H2 ∧ Q (.ref D) H2) ∨ (J.go i H2 ∧ xs.length < sizeLine ∧ ∀ x H3 σ0, σ0.length = n → J.yld i H2 x H3 →
    g x (σ0 ++ capV cap σ) H3 fun σ2 H4 => (∃ σ1, σ1.length = n ∧ σ2 = σ1 ++ capV cap σ) ∧ tt σ2 H4 fun b H5 => if b = true then te σ2 H5 fun y H6 => H6 D = some (.lst xs) ∧ ∃ m', m' < m ∧ W (i + 1) m' (xs ++ [y]) (upd H6 D (.lst (xs ++ [y])))
      else ∃ m', m' < m ∧ W (i + 1) m' xs H5))
section
variable {X : Cx} {elt iter tg : Expr} {ifs : List Expr} {pos : Pos} {scope : Scope} {cl : List (Str × Addr)} {wi : TI} {te : TE} {tt : TT} {g : TG} {O N' : List Str} {cap : List Nat} {n : Nat}
theorem inv_but {pins : List (Addr × Obj)} {σ : L2.St} {H : Hp} {s : Shared} {C : Addr} {h' : Heap} (I : L2.Inv X pins σ H s) (hC : FpOk X pins H C) (sb : Heap.SameBut C s.heap h') : L2.Inv X pins σ H { s with heap := h' } := by
  have k : ∀ b o, s.heap.get? b = some o → b ∉ [C] → h'.get? b = some o := fun b o e hb => (sb.2 b (fun z => hb (by rw [z]; exact List.mem_singleton.mpr rfl))).trans e
  refine I.call' (s' := { s with heap := h' }) (ch := [C]) rfl ⟨fun b o e _ _ hb => k b o e hb, fun b o e _ _ hb => ⟨o.slots, k b o e hb⟩, fun b o _ n _ => n, fun b o e hb => ⟨o, k b o e hb⟩, fun _ _ q => q, fun _ _ _ q => q, fun _ ps q => ⟨#[], by simpa using q⟩⟩
    (hok_but I.hok hC.1 fun b o hb e => (sb.2 b hb).trans e) I.bare fun b hb => ?_
  obtain rfl : b = C := List.mem_singleton.mp hb
  exact ⟨hC.2.2.2.1, hC.2.1, hC.2.2.2.2.1, hC.2.2.2.2.2⟩
theorem comp_gen {pins : List (Addr × Obj)} {s : Shared} {σ : L2.St} {H : Hp} {Q : VK} {cpos : Pos} (use : Option (Value → Sem Unit)) (Q' : Value → Shared → Prop) (hc : X.calm = true) (hi : PI X tg iter wi)
    (hg : ∀ (C : Addr) (s0 : Shared) (H0 : Hp) (ex' : List Addr) (pn' : List (Addr × Obj)), PG (cxComp X (O ++ N') scope cl C s0 H0 ex' pn') tg g)
    (htt : ∀ (C : Addr) (s0 : Shared) (H0 : Hp) (ex' : List Addr) (pn' : List (Addr × Obj)), PTs (cxComp X (O ++ N') scope cl C s0 H0 ex' pn') ifs tt)
    (helt : ∀ (C : Addr) (s0 : Shared) (H0 : Hp) (ex' : List Addr) (pn' : List (Addr × Obj)), PE (cxComp X (O ++ N') scope cl C s0 H0 ex' pn') elt te)
    (hO : O.length = n) (hcap : CapOk X scope cl N' cap)
    (hclos : closureFor scope X.env = pure cl) (hcell : ∀ y ∈ scope.names, y.2 ≠ .cell) (hkind : scope.kind = .function) (hnames : ∀ y ∈ scope.names, y.2 = .local → scope.names.lookup y.1 = some .local)
    (hclx : ∀ y c, cl.lookup y = some c → X.env.cells.lookup y = some c) (hhas : ∀ y, ((relabel scope X.env).names.lookup y = some .cell ∨ (relabel scope X.env).names.lookup y = some .free) → ∃ c, cl.lookup y = some c)
    (hs : ∀ z, foldedSetIterable iter X.env z = pure z)
    (I : L2.Inv X pins σ H s) (h : tComp wi n cap g tt te σ H Q)
    (fin : ∀ (D : Addr) (H5 : Hp) (s6 : Shared) (C : Addr), L2.Inv X pins σ H5 s6 → FpOk X pins H5 C → (∃ m, s6.heap.Ns C m) → Q (.ref D) H5 → compPost (model X.prog X.w) X.A X.xe use Q' (.ref D) C (.ok .next) s6) :
    wpAny (model X.prog X.w) X.A (comprehension (.ListComp elt [⟨tg, iter, ifs, 0⟩] scope pos) scope X.env cpos (newList []) false (eval iter X.env) use) Q' X.xe s := by
  refine wpAny_comprehension_free (use := use) rfl hs hclos hkind hnames (thn (hi pins s σ H _ I h) fun v s1 h1 => thn h1 fun itv s2 h2 => ?_)
  obtain ⟨it, fp, tn, J, H2, e, I2, T, st2, f2, q2⟩ := h2
  subst e
  refine wpAny_newObj_type (wpAny_newFunctionEnv hcell (by intro y hy; simp at hy) (fun h₁ hns₁ hsb₁ => ?_) hkind)
  dsimp only at hns₁ hsb₁ ⊢
  -- the list, then the block's own names
  have I3 : Inv X pins σ (upd H2 s2.heap.objs.size (.lst [])) { s2 with heap := s2.heap.push { cls := .type "list", data := .seq ([] : List Value).toArray }, toks := s2.toks } := I2.lnew (its := []) (t' := s2.toks) .nil (Nat.zero_le _)
  generalize hH3 : s2.heap.push { cls := .type "list", dict := none, data := .seq ([] : List Value).toArray } = h3 at hns₁ hsb₁ I3 ⊢
  have q3 := q2 s2.heap.objs.size (I2.hok.fresh (Nat.le_refl _))
  generalize hD : s2.heap.objs.size = D at I3 q3 hns₁ hsb₁ ⊢
  obtain ⟨W, ⟨m0, w0⟩, turn⟩ := q3
  have hC : ∀ b o, h3.get? b = some o → b ≠ h3.objs.size := fun b o e => Nat.ne_of_lt (Heap.lt_size e)
  have old : ∀ b o, h3.get? b = some o → h₁.get? b = some o := fun b o e => hsb₁.extBut b o (hC b o e) (Heap.get?_push_of_some _ e)
  have fpThere : ∀ b ∈ fp, ∃ o, h3.get? b = some o := fun b hb => by
    obtain ⟨o, e, _⟩ := T.obj _ _ st2 b hb
    exact ⟨o, by rw [← hH3]; exact Heap.get?_push_of_some _ e⟩
  have fp3 : ∀ b ∈ fp, upd H2 D (.lst []) b = none := fun b hb => by
    have n := (f2 b hb).1
    obtain ⟨o, e, _⟩ := T.obj _ _ st2 b hb
    rw [upd_ne (by rw [← hD]; exact Nat.ne_of_lt (Heap.lt_size e))]
    exact n
  have stk : ∀ b ∈ fp, b ∉ frs X.stack := fun b hb z => by
    rcases List.mem_cons.mp (I3.stkSub b z) with e | e
    · exact (f2 b hb).2.1 e
    · exact (f2 b hb).2.2.1 e
  have ok : (cxComp X (O ++ N') scope cl h3.objs.size { s2 with heap := h3, toks := s2.toks } (upd H2 D (.lst [])) fp (X.pn ++ pins)).Ok :=
    ⟨I.ok.mod, hkind, I.ok.glob, I.ok.blt, Nat.le_refl _, fun y z c a b => I.ok.inj y z c (hclx y c a) (hclx z c b), hhas, fun _ _ z => absurd z Bool.false_ne_true, I.ok.hd, I.ok.frames, .inl rfl,
      fun b hb => ⟨by obtain ⟨o, e⟩ := fpThere b hb; exact hC b o e, fun y c a => (f2 b hb).2.2.2.2.1 y c (hclx y c a)⟩, I3.bs, Nat.le_trans I3.ok.bsz I3.sz,
      fun b o e hb => by
        rcases (f2 b hb).2.2.2.1 with z | z
        · exact I.ok.noex b o e z
        · exact absurd (Nat.lt_of_lt_of_le (Heap.lt_size (I.ok.bs b o e).1) z) (Nat.lt_irrefl _),
      stk, I3.stack, I3.stkFree⟩
  have I4 : Inv (cxComp X (O ++ N') scope cl h3.objs.size { s2 with heap := h3, toks := s2.toks } (upd H2 D (.lst [])) fp (X.pn ++ pins)) [] (List.replicate n none ++ capV cap σ) (upd H2 D (.lst [])) { s2 with heap := h₁, toks := s2.toks + ([] : List (Str × Value)).length } := by
    refine ⟨ok, rfl, I3.bare, Un.kept old, ⟨_, hns₁, fun i y v e1 e2 e3 => ?_⟩, fun y c a => ?_, I3.hok.fresh (Nat.le_refl _), fun y c a => I3.freeC y c (hclx y c a), fun p hp => ?_, I3.hok.kept old, ?_⟩
    · by_cases hin : i < n
      · rw [List.getElem?_append_left (by rw [List.length_replicate]; exact hin), List.getElem?_replicate, if_pos hin] at e2
        cases e2
      · have e1' : N'[i - n]? = some y := by
          have z : (O ++ N')[i]? = some y := e1
          rw [List.getElem?_append_right (by (first | lia | omega)), hO] at z
          exact z
        have hi' : i - n < cap.length := by rw [← hcap.len]; exact (List.getElem?_eq_some_iff.mp e1').1
        obtain ⟨j, ej⟩ : ∃ j, cap[i - n]? = some j := ⟨_, List.getElem?_eq_getElem hi'⟩
        obtain ⟨a1, a2, a3, a4⟩ := hcap.at (i - n) j y e1' ej
        have e2' : σ[j]? = some (some v) := by
          have z : (capV cap σ)[i - n]? = some (some v) := by
            rw [List.getElem?_append_right (by rw [List.length_replicate]; (first | lia | omega)), List.length_replicate] at e2
            exact e2
          unfold capV at z
          rw [List.getElem?_map, ej] at z
          have z2 : (σ[j]?).getD none = some v := by simpa using z
          cases q : σ[j]? with
          | none => rw [q] at z2; cases z2
          | some o => rw [q] at z2; exact congrArg some z2
        obtain ⟨m, hn, hl⟩ := I3.loc
        obtain ⟨u, r, l⟩ := hl j y v a1 e2' (.inr (.inl a2))
        refine ⟨u, r, .inr ⟨.inl a3, ?_⟩⟩
        rcases l with ⟨k, _⟩ | ⟨_, c, ec, o, ho, hd⟩
        · rw [a2] at k; cases k
        · exact ⟨c, a4.trans ec, o, old c o ho, hd⟩
    · obtain ⟨v, o, ho, hd⟩ := I3.cell y c (hclx y c a)
      exact ⟨v, o, old c o ho, hd⟩
    · have hp' : p ∈ X.pn ++ pins := by simpa [cxComp] using hp
      obtain ⟨e, n, ne, nf, d⟩ := I3.pin p hp'
      refine ⟨old _ _ e, n, hC _ _ e, fun z => ?_, d⟩
      rcases List.mem_cons.mp (I3.stkSub p.1 z) with e | e
      · exact ne e
      · exact nf e
    · show (List.replicate n none ++ capV cap σ).length = (O ++ N').length
      unfold capV
      rw [List.length_append, List.length_append, List.length_replicate, List.length_map, hcap.len, hO]
  have loop : codeAny (model X.prog X.w) X.A (.compLoop (.ListComp elt [⟨tg, iter, ifs, 0⟩] scope pos) 0 (.ref it) (.ref D) (compEnvC scope cl h3.objs.size X.env))
      (compPost (model X.prog X.w) X.A X.xe use Q' (.ref D) h3.objs.size) { s2 with heap := h₁, toks := s2.toks + ([] : List (Str × Value)).length } := by
    have fpk : ∀ {H' : Hp}, (∀ b ∈ fp, H' b = none) → ∀ b ∈ fp, FpOk (cxComp X (O ++ N') scope cl h3.objs.size { s2 with heap := h3, toks := s2.toks } (upd H2 D (.lst [])) fp (X.pn ++ pins)) [] H' b := fun hn b hb => by
      obtain ⟨o, e⟩ := fpThere b hb
      refine ⟨hn b hb, hC b o e, stk b hb, .inl hb, fun y c a => (f2 b hb).2.2.2.2.1 y c (hclx y c a), fun p hp => ?_⟩
      have hp' : p ∈ X.pn ++ pins := by simpa [cxComp] using hp
      exact (f2 b hb).2.2.2.2.2 p hp'
    refine compLoop_gen (fun mm s' => ∃ (i : Nat) (xs : List V) (H' : Hp) (σ0 : L2.St), σ0.length = n ∧ Inv (cxComp X (O ++ N') scope cl h3.objs.size { s2 with heap := h3, toks := s2.toks } (upd H2 D (.lst [])) fp (X.pn ++ pins)) [] (σ0 ++ capV cap σ) H' s' ∧ tn i s'.heap ∧ (∀ b ∈ fp, H' b = none) ∧ W i mm xs H') ?_ m0
      ⟨0, [], _, List.replicate n none, List.length_replicate, I4, T.keep _ _ _ st2 fun b hb o e => old b o (by rw [← hH3]; exact Heap.get?_push_of_some _ e), fp3, w0⟩
    rintro mm s5 ⟨i, xs, H5, σ0, hσ0, I5, st5, fr5, w5⟩
    obtain ⟨e5, tw⟩ := turn i mm xs H5 w5
    rcases tw with ⟨stop, qn⟩ | ⟨go, hz, step⟩
    · refine thn (T.done (cxComp X (O ++ N') scope cl h3.objs.size { s2 with heap := h3, toks := s2.toks } (upd H2 D (.lst [])) fp (X.pn ++ pins)) rfl rfl rfl hc i [] s5 _ H5 _ I5 (fpk fr5) st5 stop) fun r s6 ⟨hr, I6⟩ => ?_
      subst hr
      obtain ⟨m, hn, _⟩ := id I6.loc
      have J6 : L2.Inv X pins σ H5 s6 := I3.call' (s' := s6) (ch := fp) I6.os I6.base I6.hok I6.bare fun b hb => by
        obtain ⟨_, g1, _, g3, g4, g5⟩ := f2 b hb
        exact ⟨g3, g1, g4, g5⟩
      exact fin D H5 s6 _ J6 (I3.fpOk (Nat.le_refl _) I6.free) ⟨m, hn⟩ qn
    · refine thn (T.item (cxComp X (O ++ N') scope cl h3.objs.size { s2 with heap := h3, toks := s2.toks } (upd H2 D (.lst [])) fp (X.pn ++ pins)) rfl rfl rfl hc i [] s5 _ H5 _ I5 (fpk fr5) st5 go) fun r s6 ⟨u, hr, h6⟩ => ?_
      subst hr
      refine thn h6 fun _ s7 ⟨xv, H7, I7, r7, y7, st7, fr7⟩ => ?_
      have I7' := I7.pinned (fpk fr7) (T.obj _ _ st7)
      refine wpAny_mono (hg _ _ _ _ _ _ s7 _ H7 xv u _ I7' r7 (step xv H7 σ0 hσ0 y7)) (fun _ s8 ⟨σ2, H8, I8, ⟨σ1, hσ1, e2⟩, q8⟩ => ?_) fun _ _ z => z.elim
      refine wpAny_mono (htt _ _ _ _ _ _ s8 σ2 H8 _ I8 q8) (fun ok s9 ⟨H9, I9, q9⟩ => ?_) fun _ _ z => z.elim
      subst e2
      have keep : ∀ {s' : Shared} {σ' : L2.St} {H' : Hp}, Inv (cxComp X (O ++ N') scope cl h3.objs.size { s2 with heap := h3, toks := s2.toks } (upd H2 D (.lst [])) fp (X.pn ++ pins)) ([] ++ pinsAt fp s7.heap) σ' H' s' → tn (i + 1) s'.heap ∧ ∀ b ∈ fp, H' b = none := fun {s' σ' H'} J =>
        ⟨T.keep _ _ _ st7 fun b hb o e => (J.pin (b, o) (List.mem_append_right _ (List.mem_append_right _ (mem_pinsAt hb e)))).1, fun b hb => by
          obtain ⟨o, e, d⟩ := T.obj _ _ st7 b hb
          exact (J.pin (b, o) (List.mem_append_right _ (List.mem_append_right _ (mem_pinsAt hb e)))).2.1⟩
      cases ok with
      | false =>
        rw [if_neg Bool.false_ne_true] at q9 ⊢
        obtain ⟨m', hm, w9⟩ := q9
        exact ⟨m', hm, i + 1, xs, H9, σ1, hσ1, I9.unpinned, (keep I9).1, (keep I9).2, w9⟩
      | true =>
        rw [if_pos rfl] at q9 ⊢
        refine wpAny_mono (helt _ _ _ _ _ _ s9 _ H9 _ I9 q9) (fun yv s10 ⟨y, H10, I10, r10, e10, m', hm, w10⟩ => ?_) fun _ _ z => z.elim
        refine wpAny_mono (mt_append (X := cxComp X (O ++ N') scope cl h3.objs.size { s2 with heap := h3, toks := s2.toks } (upd H2 D (.lst [])) fp (X.pn ++ pins)) _ s10 _ H10 (.ref D) [y] (.ref D) [yv] (fun _ H' => H' = upd H10 D (.lst (xs ++ [y]))) I10 rfl (.cons r10 .nil) ⟨D, xs, y, rfl, rfl, e10, hz, rfl⟩) (fun _ s11 ⟨_, H11, I11, _, e11⟩ => ?_) fun _ _ z => z.elim
        subst e11
        exact ⟨m', hm, i + 1, xs ++ [y], _, σ1, hσ1, I11.unpinned, (keep I11).1, (keep I11).2, w10⟩
  exact codeAny_compStart_list loop (T.self _ 0 _ _ _ (T.keep _ _ _ st2 fun b hb o e => old b o (by rw [← hH3]; exact Heap.get?_push_of_some _ e)) loop)
theorem pe_comp (hc : X.calm = true) (hi : PI X tg iter wi)
    (hg : ∀ (C : Addr) (s0 : Shared) (H0 : Hp) (ex' : List Addr) (pn' : List (Addr × Obj)), PG (cxComp X (O ++ N') scope cl C s0 H0 ex' pn') tg g)
    (htt : ∀ (C : Addr) (s0 : Shared) (H0 : Hp) (ex' : List Addr) (pn' : List (Addr × Obj)), PTs (cxComp X (O ++ N') scope cl C s0 H0 ex' pn') ifs tt)
    (helt : ∀ (C : Addr) (s0 : Shared) (H0 : Hp) (ex' : List Addr) (pn' : List (Addr × Obj)), PE (cxComp X (O ++ N') scope cl C s0 H0 ex' pn') elt te)
    (hO : O.length = n) (hcap : CapOk X scope cl N' cap)
    (hclos : closureFor scope X.env = pure cl) (hcell : ∀ y ∈ scope.names, y.2 ≠ .cell) (hkind : scope.kind = .function) (hnames : ∀ y ∈ scope.names, y.2 = .local → scope.names.lookup y.1 = some .local)
    (hclx : ∀ y c, cl.lookup y = some c → X.env.cells.lookup y = some c) (hhas : ∀ y, ((relabel scope X.env).names.lookup y = some .cell ∨ (relabel scope X.env).names.lookup y = some .free) → ∃ c, cl.lookup y = some c)
    (hs : autoParam (∀ z, foldedSetIterable iter X.env z = pure z) au2_._auto_1) :
    PE X (.ListComp elt [⟨tg, iter, ifs, 0⟩] scope pos) (tComp wi n cap g tt te) := by
  intro pins s σ H Q I h
  rw [eval_ListComp]
  exact comp_gen none (EP X pins σ Q) hc hi hg htt helt hO hcap hclos hcell hkind hnames hclx hhas hs I h fun D H5 s6 C J fC ⟨m, hn⟩ q => ⟨m, hn, fun h' sb => ⟨.ref D, H5, inv_but J fC sb, rfl, q⟩⟩
theorem ps_comp {i : Nat} {x : Str} {pos' spos : Pos} (hN : X.N.Nodup) (hix : X.N[i]? = some x) (hx : Loc X.env.scope x) (hc : X.calm = true) (hi : PI X tg iter wi)
    (hg : ∀ (C : Addr) (s0 : Shared) (H0 : Hp) (ex' : List Addr) (pn' : List (Addr × Obj)), PG (cxComp X (O ++ N') scope cl C s0 H0 ex' pn') tg g)
    (htt : ∀ (C : Addr) (s0 : Shared) (H0 : Hp) (ex' : List Addr) (pn' : List (Addr × Obj)), PTs (cxComp X (O ++ N') scope cl C s0 H0 ex' pn') ifs tt)
    (helt : ∀ (C : Addr) (s0 : Shared) (H0 : Hp) (ex' : List Addr) (pn' : List (Addr × Obj)), PE (cxComp X (O ++ N') scope cl C s0 H0 ex' pn') elt te)
    (hO : O.length = n) (hcap : CapOk X scope cl N' cap)
    (hclos : closureFor scope X.env = pure cl) (hcell : ∀ y ∈ scope.names, y.2 ≠ .cell) (hkind : scope.kind = .function) (hnames : ∀ y ∈ scope.names, y.2 = .local → scope.names.lookup y.1 = some .local)
    (hclx : ∀ y c, cl.lookup y = some c → X.env.cells.lookup y = some c) (hhas : ∀ y, ((relabel scope X.env).names.lookup y = some .cell ∨ (relabel scope X.env).names.lookup y = some .free) → ∃ c, cl.lookup y = some c)
    (hsw : swapsWith (.ListComp elt [⟨tg, iter, ifs, 0⟩] scope pos) (some (.Name x pos')) spos.line X.env = pure true)
    (hs : autoParam (∀ z, foldedSetIterable iter X.env z = pure z) au2_._auto_1) (hf : X.fn x = true ∨ X.env.scope.names.lookup x = some .local := by first | exact .inl rfl | exact .inr rfl | assumption) :
    PS X (.Assign [.Name x pos'] (.ListComp elt [⟨tg, iter, ifs, 0⟩] scope pos) spos) (tAsg (tComp wi n cap g tt te) (gName i)) := by
  intro pins s σ H D I h
  rw [exec_Assign_Name_used _ _ _ _ hsw]
  refine wpAny_bind (wpAny_standAt (wpAny_bind ?_))
  show wpAny _ _ (comprehension (.ListComp elt [⟨tg, iter, ifs, 0⟩] scope pos) scope X.env _ (newList []) false (eval iter X.env) (some (assign (.Name x pos') X.env)) >>= fun _ => pure ()) _ _ s
  refine wpAny_bind (comp_gen (some (assign (.Name x pos') X.env)) (fun _ s' => wpAny _ _ (pure ()) _ _ s') hc hi hg htt helt hO hcap hclos hcell hkind hnames hclx hhas hs I h fun Dl H5 s6 C J fC ⟨m, hn⟩ q => ?_)
  refine wpAny_assign_Name (store_ok2 J hN hix hx (show RelV (.ref Dl) (.ref Dl) from rfl) (fun s7 I7 ⟨a, sb, ha⟩ => ⟨m, hn.sameBut sb ?_, fun h' sb' => wpAny_pure (wpAny_pure ⟨_, H5, inv_but I7 fC sb', q⟩)⟩) hf)
  rcases ha with rfl | e
  · exact fC.2.1
  · exact fun z => fC.2.2.2.2.1 x a e z.symm
end
end My

namespace My
open PySem PySem.Spec PyProof.Rows L2 Mth
structure Cn (mg : Str → Option Value) (x : Str) (n : Int) : Prop where
  ex : ∃ t, mg x = some (.int n t)
section
variable {X : Cx} {x : Str} {n : Int} {pos apos cpos : Pos} {o : Expr} {to : TE}
theorem pe_cn (hg : Gl X x) (C : Cn X.mg x n) (hd : autoParam ((x == ("__debug__" : Str)) = false) au1_._auto_1) : PE X (.Name x pos) (tC (.int n)) := by
  obtain ⟨t, h⟩ := C.ex
  exact L2.pe_glob hg h ⟨t, rfl⟩ hd
noncomputable def rBits : V → Hp → VK → Prop := fun x H Q => ∃ i : Int, x = .int i ∧ Q (.int ((Builtin.Int.intBits i : Nat) : Int)) H
theorem mt_bits : MtR X "int.bit_length" (fun x vs H Q => vs = [] ∧ rBits x H Q) := by
  intro pins s σ H x vs v us Q I rx rv h
  obtain ⟨rfl, i, rfl, q⟩ := h
  cases rv
  obtain ⟨t, rfl⟩ := rx
  exact call_int_bit_length ⟨.int ((Builtin.Int.intBits i : Nat) : Int), H, I.tok _, ⟨_, rfl⟩, q⟩
theorem pe_bits (ho : PE X o to) (hbase : autoParam (attributeBase o "bit_length" X.env (eval o X.env) = eval o X.env) au0_._auto_1) (hline : autoParam ((apos.endLine == cpos.line) = true) au0_._auto_1) :
    PE X (.Call (.Attribute o "bit_length" apos) [] [] cpos) (tUn (fun x H Q => tyV X.K "int" x H ∧ ([] : List V) = [] ∧ rBits x H Q) to) :=
  pe_bm0 PySem.F.plainAttrs_int slot_int_bit_length type_int_bit_length mt_bits ho hbase hline
end
section
variable {σ : L2.St} {H : Hp} {Q : VK} {m n : Int} {K : PySem.W.Frag} {X : Cx}
theorem r_bits (q : Q (.int ((Builtin.Int.intBits m : Nat) : Int)) H) : tyV K "int" (.int m) H ∧ ([] : List V) = [] ∧ rBits (.int m) H Q := ⟨rfl, rfl, m, rfl, q⟩
noncomputable def rMax : List V → Hp → VK → Prop := fun xs H Q => ∃ i j : Int, xs = [.int i, .int j] ∧ Q (.int (if j > i then j else i)) H
noncomputable def rMin : List V → Hp → VK → Prop := fun xs H Q => ∃ i j : Int, xs = [.int i, .int j] ∧ Q (.int (if j < i then j else i)) H
theorem maxC (hc : X.calm = true) : CallR X (.builtin "max") rMax := call_max2 hc
theorem minC (hc : X.calm = true) : CallR X (.builtin "min") rMin := call_min2 hc
theorem r_max (q : Q (.int (if n > m then n else m)) H) : rMax [.int m, .int n] H Q := ⟨m, n, rfl, q⟩
theorem r_min (q : Q (.int (if n < m then n else m)) H) : rMin [.int m, .int n] H Q := ⟨m, n, rfl, q⟩
theorem catT (K : PySem.W.Frag) (h : autoParam (X.K = K) au0_._auto_1) : OpR X (binaryOp .Add) (rCatT K) := h ▸ op_catT
theorem r_catT {p r : Addr} {x y : V} {xs ys : List V} (hp : H p = some (.tup (x :: xs))) (hr : H r = some (.tup (y :: ys))) (h : Nw .tup (x :: xs ++ y :: ys) H Q) : rCatT K (.ref p) (.ref r) H Q :=
  ⟨p, r, _, _, rfl, rfl, SqT.of hp, SqT.of hr, by simp, by have := h.1; rw [List.length_append] at this; exact this, fun e => by simp at e, fun _ => h.2⟩
theorem r_cat {p r : Addr} {xs ys : List V} (hp : H p = some (.lst xs)) (hr : H r = some (.lst ys)) (h : Nw .lst (xs ++ ys) H Q) : rCat (.ref p) (.ref r) H Q := ⟨p, r, _, _, rfl, rfl, hp, hr, by have := h.1; rw [List.length_append] at this; exact this, h.2⟩
theorem r_rep {p : Addr} {xs : List V} {k : Int} (hp : H p = some (.lst xs)) (h1 : -(2 ^ 63) ≤ k) (h2 : k < 2 ^ 63) (h : Nw .lst (List.replicate k.toNat xs).flatten H Q) : rRep (.ref p) (.int k) H Q :=
  ⟨p, k, xs, rfl, rfl, hp, h1, h2, by have := h.1; rw [len_rep] at this; rw [Nat.mul_comm]; exact this, h.2⟩
theorem at3 {x y z u : V} {xs : List V} : atI (x :: y :: z :: u :: xs) 3 = some u := atI_nat (j := 3) rfl
theorem r_t3 {p : Addr} {x y z u : V} {xs : List V} (h : H p = some (.tup (x :: y :: z :: u :: xs))) (q : Q u H) : rIxT K (.ref p) (.int 3) H Q := ⟨p, _, 3, u, rfl, rfl, SqT.of h, at3, q⟩
end
section
variable {σ : L2.St} {H : Hp} {to ti : TE} {ts : TSet} {R : L2.St → Hp → Prop} {v : V}
theorem r_asg {te : TE} {g : TG} {D : Ends} (h : te σ H fun x H1 => g x σ H1 D.nx) : tAsg te g D σ H := h
theorem r_gsub (h : to σ H fun o H1 => ti σ H1 fun i H2 => ts o i v H2 fun H3 => R σ H3) : gSub to ti ts v σ H R := h
theorem r_setL {p : Addr} {xs : List V} {k : Int} {j : Nat} {Q : Hp → Prop} (h : H p = some (.lst xs)) (e : ixN xs.length k = some j) (q : Q (upd H p (.lst (xs.set j v)))) : rSetL (.ref p) (.int k) v H Q := ⟨p, xs, k, j, rfl, rfl, h, e, q⟩
end
theorem heads_big {low : Int} (c : ((Builtin.Int.intBits low : Nat) : Int) > 128) (h0 : 0 ≤ low) : 340282366920938463463374607431768211456 ≤ low := by
  have h : ¬ Builtin.Int.intBits low ≤ 128 := by (first | lia | omega)
  have k : ¬ low.natAbs < 2 ^ 128 := fun q => h (intBits_le_iff.mpr q)
  have e : (2 : Nat) ^ 128 = 340282366920938463463374607431768211456 := by decide
  (first | lia | omega)
theorem heads_small {low : Int} (c : ¬ ((Builtin.Int.intBits low : Nat) : Int) > 128) : low ≤ 340282366920938463463374607431768211456 := by
  have h : Builtin.Int.intBits low ≤ 128 := by (first | lia | omega)
  have k : low.natAbs < 2 ^ 128 := intBits_le_iff.mp h
  have e : (2 : Nat) ^ 128 = 340282366920938463463374607431768211456 := by decide
  (first | lia | omega)
theorem heads_tail {x y : Int} (c : ((Builtin.Int.intBits y : Nat) : Int) > 256) (y0 : 0 ≤ y) (yx : y ≤ x) :
    ∃ t : Nat, ((Builtin.Int.intBits x : Nat) : Int) - 256 = (t : Int) ∧ (2 : Int) ^ (255 + t) ≤ x ∧ x < (2 : Int) ^ (256 + t) := by
  have hb : Builtin.Int.intBits y ≤ Builtin.Int.intBits x := intBits_le_of_natAbs (by (first | lia | omega)) (Nat.le_refl _)
  obtain ⟨t, ht⟩ : ∃ t, Builtin.Int.intBits x = 256 + t := ⟨Builtin.Int.intBits x - 256, by (first | lia | omega)⟩
  have h1 : x.natAbs < 2 ^ (256 + t) := intBits_le_iff.mp (by (first | lia | omega))
  have h2 : ¬ x.natAbs < 2 ^ (255 + t) := fun q => by have := intBits_le_iff.mpr q; (first | lia | omega)
  refine ⟨t, by (first | lia | omega), ?_, ?_⟩
  · have : (((2 : Nat) ^ (255 + t) : Nat) : Int) = (2 : Int) ^ (255 + t) := by simp
    rw [← this]; (first | lia | omega)
  · have : (((2 : Nat) ^ (256 + t) : Nat) : Int) = (2 : Int) ^ (256 + t) := by simp
    rw [← this]; (first | lia | omega)
end My

namespace Jd
open PySem PySem.Spec PyProof.Rows L2 My
structure QE (X : Cx) (e : Expr) (t : TE) : Prop where
  h : PE X e t
structure QT (X : Cx) (e : Expr) (t : TT) : Prop where
  h : PT X e t
structure QW (X : Cx) (e : Expr) (t : TT) : Prop where
  h : PW X e t
structure QA (X : Cx) (es : List Expr) (t : TA) : Prop where
  h : PA X es t
structure QS (X : Cx) (st : Stmt) (t : TS) : Prop where
  h : PS X st t
structure QSs (X : Cx) (st : List Stmt) (t : TS) : Prop where
  h : PSs X st t
structure QG (X : Cx) (e : Expr) (t : TG) : Prop where
  h : PG X e t
structure QGs (X : Cx) (es : List Expr) (t : TGs) : Prop where
  h : PGs X es t
structure QI (X : Cx) (tg e : Expr) (t : TI) : Prop where
  h : PI X tg e t
structure QO (X : Cx) (e : Option Expr) (t : TO) : Prop where
  h : PO X e t
section
variable {X : Cx} {e a b c o : Expr} {es : List Expr} {te ta tb tc to : TE} {t : TA} {pos p p2 apos cpos : Pos} {x : Str} {tA tB' : TT} {st : Stmt} {sts rest : List Stmt} {s1 s2 : TS} {K : PySem.W.Frag}
theorem go {body : List Stmt} {D : Ends} {σ : L2.St} {H : Hp} (h : ∃ t, QSs X body t ∧ t D σ H) : ∃ t, PSs X body t ∧ t D σ H := let ⟨t, h, k⟩ := h; ⟨t, h.h, k⟩
theorem cut {body : List Stmt} {D : Ends} {σ : L2.St} {H : Hp} (n : Nat) (Pv : L2.St → Hp → Prop) (tail : ∃ t, QSs X (body.drop n) t ∧ ∀ σ H, Pv σ H → t D σ H)
    (main : ∀ u, QSs X (body.drop n) u → (∀ σ H, Pv σ H → u D σ H) → ∃ t, QSs X body t ∧ t D σ H) : ∃ t, QSs X body t ∧ t D σ H :=
  let ⟨u, h1, h2⟩ := tail
  main u h1 h2
theorem pv (i : Nat) (hN : autoParam (X.N[i]? = some x) au0_._auto_1) (hv : Vis X.env.scope x := by first | exact Or.inl rfl | exact Or.inr (Or.inl rfl) | exact Or.inr (Or.inr rfl)) (hd : autoParam ((x == ("__debug__" : Str)) = false) au1_._auto_1)
    (hcd : autoParam ((x == ("__classdict__" : Str)) = false) au1_._auto_1) : QE X (.Name x pos) (tVar i) := ⟨L2.pv i hN hv hd hcd⟩
theorem pe_int {i j} : QE X (.Constant (.int i) j pos) (tC (.int i)) := ⟨L2.pe_int⟩
theorem pe_bl {i j} : QE X (.Constant (.bool i) j pos) (tC (.bl i)) := ⟨L2.pe_bl⟩
theorem pe_non {j} : QE X (.Constant .none j pos) (tC .non) := ⟨L2.pe_non⟩
theorem pe_ty {n : String} (hg : Gl X x) (hm : X.mg x = none) (hv : bootBuiltins x = some (.type n)) (hn : autoParam (x ≠ "__name__") au1_._auto_1) (hd : autoParam ((x == ("__debug__" : Str)) = false) au1_._auto_1) : QE X (.Name x pos) (tC (.ty n)) := ⟨My.pe_ty hg hm hv hn hd⟩
theorem pe_op {op : Operator} {r : R2} (ho : OpR X (binaryOp op) r) (ha : QE X a ta) (hb : QE X b tb) : QE X (.BinOp a op b pos) (tOp r ta tb) := ⟨L2.pe_op ho ha.h hb.h⟩
theorem pe_un {op : UnaryOp} {r : V → Hp → VK → Prop} (ho : UnR X (unaryOp op) r) (ha : QE X a ta) : QE X (.UnaryOp op a pos) (tUn r ta) := ⟨L2.pe_un ho ha.h⟩
theorem pe_cmpR {op : CmpOp} {r : R2} (ho : OpR X (compareOp op) r) (ha : QE X a ta) (hb : QE X b tb) (hm : behindInMarks op b = false) : QE X (.Compare a [op] [b] pos) (tOp r ta tb) := ⟨L2.pe_cmpR ho ha.h hb.h hm⟩
theorem pt_cmpR {op : CmpOp} {r : R2} (ho : OpR X (compareOp op) r) (ha : QE X a ta) (hb : QE X b tb) (hm : behindInMarks op b = false) : QT X (.Compare a [op] [b] pos) (tTest (tOp r ta tb)) := ⟨L2.pt_cmpR ho ha.h hb.h hm⟩
theorem pt_not (ha : QT X a tA) : QT X (.UnaryOp .Not a pos) (tNot tA) := ⟨L2.pt_not ha.h⟩
theorem pt_val (h : QE X e te) (he : autoParam (∀ whole, isTrue e X.env whole = (do let v ← whole; standAt e.pos; holding [v] (truthy v))) au2_._auto_1) : QT X e (tB te) := ⟨L2.pt_val h.h he⟩
theorem PWpt (h : QW X e tA) : QT X e tA := ⟨h.h.pt⟩
theorem pw_and1 (ha : QT X a tA) : QW X (.BoolOp .And [a] pos) tA := ⟨L2.pw_and1 ha.h⟩
theorem pw_or1 (ha : QT X a tA) : QW X (.BoolOp .Or [a] pos) tA := ⟨L2.pw_or1 ha.h⟩
theorem pw_and (ha : QT X a tA) (hb : QW X (.BoolOp .And (b :: es) pos) tB') : QW X (.BoolOp .And (a :: b :: es) pos) (tAnd tA tB') := ⟨L2.pw_and ha.h hb.h⟩
theorem pw_or (ha : QT X a tA) (hb : QW X (.BoolOp .Or (b :: es) pos) tB') : QW X (.BoolOp .Or (a :: b :: es) pos) (tOr tA tB') := ⟨L2.pw_or ha.h hb.h⟩
theorem pe_one {op} (h : QE X a te) : QE X (.BoolOp op [a] pos) te := ⟨L2.pe_one h.h⟩
theorem pe_and (ha : QE X a ta) (hb : QE X (.BoolOp .And (b :: es) pos) tb) : QE X (.BoolOp .And (a :: b :: es) pos) (tAndV ta tb) := ⟨L2.pe_and ha.h hb.h⟩
theorem pe_ifExp (hc : QT X c tA) (ha : QE X a ta) (hb : QE X b tb) : QE X (.IfExp c a b pos) (tIf tA ta tb) := ⟨L2.pe_ifExp hc.h ha.h hb.h⟩
theorem pa_nil : QA X [] tNil := ⟨L2.pa_nil⟩
theorem pa_cons (ha : QE X e te) (hr : QA X es t) (hs : autoParam (starEach (e :: es) X.env = (false, eval e X.env) :: starEach es X.env) au0_._auto_1) : QA X (e :: es) (tCons te t) := ⟨L2.pa_cons ha.h hr.h hs⟩
theorem pe_tup {k : Nat} (h : QA X es t) : QE X (.Tuple es k pos) (tTup t) := ⟨L2.pe_tup h.h⟩
theorem pe_lst (h : QA X es t) : QE X (.List es pos) (tLst t) := ⟨L2.pe_lst h.h⟩
theorem po_none : QO X none tNoPart := ⟨L2.po_none⟩
theorem po_some (h : QE X e te) : QO X (some e) (tPart te) := ⟨L2.po_some h.h⟩
theorem pe_slice {r : V → Option Int → Option Int → Hp → VK → Prop} {lo hi : Option Expr} {tl th : TO} (hr : SlR X r) (he : QE X e te) (hl : QO X lo tl) (hu : QO X hi th) : QE X (.Subscript e (.Slice lo hi none p2) pos) (tSl r te tl th) := ⟨L2.pe_slice hr he.h hl.h hu.h⟩
theorem pe_ix {r : R2} (hr : IxR X r) (ha : QE X a ta) (hb : QE X b tb) (hs : PlainIx b) : QE X (.Subscript a b pos) (tOp r ta tb) := ⟨L2.pe_ix hr ha.h hb.h hs⟩
theorem pe_callB {id : String} {r : List V → Hp → VK → Prop} (hc : CallR X (.builtin id) r) (hg : Gl X x) (hm : X.mg x = none) (hv : bootBuiltins x = some (.builtin id)) (ha : QA X (e :: es) t) (hn : autoParam (x ≠ "__name__") au1_._auto_1) (hdb : autoParam ((x == ("__debug__" : Str)) = false) au1_._auto_1)
    (he : autoParam (starEach (e :: es) X.env = (false, eval e X.env) :: starEach es X.env) au0_._auto_1) (hpl : autoParam ((backTo pos (starEach es X.env)).any (·.1) = false) au0_._auto_1) : QE X (.Call (.Name x p) (e :: es) [] pos) (tCB r t) := ⟨L2.pe_callB hc hg hm hv ha.h hn hdb he hpl⟩
theorem pe_dn {k : Nat} {ps : List Str} {sp : Sp} (D : Dn X.prog X.w X.K X.mg X.base k x ps sp) (hr : Room k X.A) (hg : Gl X x) (ha : QA X (e :: es) t) (hdb : autoParam ((x == ("__debug__" : Str)) = false) au1_._auto_1)
    (he : autoParam (starEach (e :: es) X.env = (false, eval e X.env) :: starEach es X.env) au0_._auto_1) (hpl : autoParam ((backTo pos (starEach es X.env)).any (·.1) = false) au0_._auto_1) : QE X (.Call (.Name x p) (e :: es) [] pos) (tCall sp [] E0 t) := ⟨My.pe_dn D hr hg ha.h hdb he hpl⟩
theorem appC (K : PySem.W.Frag) (ho : QE X o to) (he : QE X e te) (h : autoParam (X.K = K) au0_._auto_1)
    (hbase : autoParam (attributeBase o "append" X.env (eval o X.env) = eval o X.env) au0_._auto_1)
    (hfew : autoParam (((backTo cpos (starEach (e :: []) X.env)).all (fun x => !x.1) && (backToKw cpos (keywordEach [] X.env)).all (fun x => x.1.isSome)
      && decide ((e :: ([] : List Expr)).length + ([] : List Keyword).length + (if ([] : List Keyword).isEmpty then 0 else 1) < 30)) = true) au0_._auto_1)
    (hline : autoParam ((apos.endLine == cpos.line) = true) au0_._auto_1) (hs : autoParam (starEach (e :: []) X.env = (false, eval e X.env) :: starEach [] X.env) au0_._auto_1) (hplain : autoParam ((backTo cpos (starEach [] X.env)).any (·.1) = false) au0_._auto_1) :
    QE X (.Call (.Attribute o "append" apos) [e] [] cpos) (tBM K "list" rAppend to (tCons te tNil)) := ⟨My.appC K ho.h he.h h hbase hfew hline hs hplain⟩
theorem pss_nil : QSs X [] tNext := ⟨L2.pss_nil⟩
theorem pss_cons (h1 : QS X st s1) (h2 : QSs X rest s2) : QSs X (st :: rest) (tSeq s1 s2) := ⟨L2.pss_cons h1.h h2.h⟩
theorem pss_one (h1 : QS X st s1) : QSs X [st] s1 := ⟨L2.pss_one h1.h⟩
theorem ps_never : QS X st tNever := ⟨L2.ps_never⟩
theorem ps_ret (he : QE X e te) : QS X (.Return (some e) pos) (tRet te) := ⟨L2.ps_ret he.h⟩
theorem ps_expr (he : QE X e te) (hs : autoParam (swapsWith e none pos.line X.env = pure false) au0_._auto_1) : QS X (.Expr e pos) (tDrop te) := ⟨L2.ps_expr he.h hs⟩
theorem ps_set {i : Nat} {pos' : Pos} (hN : X.N.Nodup) (hi : X.N[i]? = some x) (hx : Loc X.env.scope x) (he : QE X e te) (hs : autoParam (swapsWith e (some (.Name x pos')) pos.line X.env = pure false) au0_._auto_1) (hf : X.fn x = true ∨ X.env.scope.names.lookup x = some .local := by first | exact .inl rfl | exact .inr rfl | assumption) :
    QS X (.Assign [.Name x pos'] e pos) (tAsg te (gName i)) := ⟨L2.ps_set hN hi hx he.h hs hf⟩
theorem ps_asg {tg : Expr} {g : TG} (he : QE X e te) (hg : QG X tg g) (hs : autoParam (swapsWithSole [tg] e pos.line X.env = pure false) au0_._auto_1) (hw : autoParam (swappedStores [tg] e X.env = pure none) au0_._auto_1)
    (h1 : autoParam ((assignEach [tg] X.env).map (·.2) = [assign tg X.env]) au0_._auto_1) : QS X (.Assign [tg] e pos) (tAsg te g) := ⟨L2.ps_asg he.h hg.h hs hw h1⟩
theorem ps_par {i j : Nat} {y : Str} {ta : TA} {px py pt : Pos} {kt k2 pt2} (hc : X.calm = true) (hN : X.N.Nodup) (hi : X.N[i]? = some x) (hj : X.N[j]? = some y) (hij : i ≠ j)
    (hx : X.env.scope.names.lookup x = some .local) (hy : X.env.scope.names.lookup y = some .local) (ha : QA X [a, b] ta)
    (hw : swappedStores [.Tuple [.Name x px, .Name y py] kt pt] (.Tuple [a, b] k2 pt2) X.env = pure (some [x, y]))
    (hs : autoParam (swapsWithSole [.Tuple [.Name x px, .Name y py] kt pt] (.Tuple [a, b] k2 pt2) pos.line X.env = pure false) au0_._auto_1) :
    QS X (.Assign [.Tuple [.Name x px, .Name y py] kt pt] (.Tuple [a, b] k2 pt2) pos) (tPar i j ta) := ⟨L2.ps_par hc hN hi hj hij hx hy ha.h hw hs⟩
theorem ps_if {ss ss' : List Stmt} {tc : TT} (hc : QT X c tc) (ha : QSs X ss s1) (hb : QSs X ss' s2) : QS X (.If c ss ss' pos) (tIfS tc s1 s2) := ⟨L2.ps_if hc.h ha.h hb.h⟩
theorem ps_while {tc : TT} (hp : PassesOwn (model X.prog X.w) X.A X.env X.xe) (hc : QT X c tc) (hb : QSs X sts s1) : QS X (.While c sts [] pos) (tWhile tc s1) := ⟨L2.ps_while hp hc.h hb.h⟩
theorem ps_for {tg : Expr} {wi : TI} {g : TG} (hp : PassesOwn (model X.prog X.w) X.A X.env X.xe) (hc : X.calm = true) (hi : QI X tg e wi) (hg : QG X tg g) (hb : QSs X sts s1)
    (hs : autoParam (∀ x, foldedSetIterable e X.env x = pure x) au2_._auto_1) : QS X (.For tg e sts [] pos) (tFor wi g s1) := ⟨L2.ps_for hp hc hi.h hg.h hb.h hs⟩
theorem pg_name {i : Nat} (hN : X.N.Nodup) (hi : X.N[i]? = some x) (hx : Loc X.env.scope x) (hf : X.fn x = true ∨ X.env.scope.names.lookup x = some .local := by first | exact .inl rfl | exact .inr rfl | assumption) : QG X (.Name x pos) (gName i) := ⟨L2.pg_name hN hi hx hf⟩
theorem pgs_nil : QGs X [] gNil := ⟨L2.pgs_nil⟩
theorem pgs_cons {g : TG} {u : TGs} (h1 : QG X e g) (h2 : QGs X es u) (hs : autoParam ((assignEach (e :: es) X.env).map (·.2) = assign e X.env :: (assignEach es X.env).map (·.2)) au0_._auto_1) : QGs X (e :: es) (gCons g u) := ⟨L2.pgs_cons h1.h h2.h hs⟩
theorem pgT (K : PySem.W.Frag) {k : Nat} {g : TGs} {n : Nat} (hc : X.calm = true) (h2 : QGs X es g) (hn : autoParam ((assignEach es X.env).length = n) au0_._auto_1) (hst : autoParam ((assignEach es X.env).findIdx? (·.1) = none) au0_._auto_1) (h : autoParam (X.K = K) au0_._auto_1) : QG X (.Tuple es k pos) (gTup K n g) := ⟨My.pgT K hc h2.h hn hst h⟩
theorem pgL (K : PySem.W.Frag) {k : Nat} {g : TGs} {n : Nat} (hc : X.calm = true) (h2 : QGs X es g) (hn : autoParam ((assignEach es X.env).length = n) au0_._auto_1) (hst : autoParam ((assignEach es X.env).findIdx? (·.1) = none) au0_._auto_1) (h : autoParam (X.K = K) au0_._auto_1) : QG X (.Tuple es k pos) (gLst K n g) := ⟨My.pgL K hc h2.h hn hst h⟩
theorem piL (K : PySem.W.Frag) {tg : Expr} (hl : QE X e te) (h : autoParam (X.K = K) au0_._auto_1) : QI X tg e (iList K te) := ⟨My.piL K hl.h h⟩
theorem piT (K : PySem.W.Frag) {tg : Expr} (hl : QE X e te) (h : autoParam (X.K = K) au0_._auto_1) : QI X tg e (iTup K te) := ⟨My.piT K hl.h h⟩
theorem pi_range1 {tg : Expr} (hg : Gl X "range") (hm : X.mg "range" = none) (ha : QA X [a] t) (hs : autoParam (starEach [a] X.env = [(false, eval a X.env)]) au0_._auto_1) : QI X tg (.Call (.Name "range" p) [a] [] pos) (iRng1 t) := ⟨L2.pi_range1 hg hm ha.h hs⟩
end
end Jd

namespace Jd
open PySem PySem.Spec PyProof.Rows L2 My
section
variable {X : Cx} {x : Str} {n : Int} {pos apos cpos : Pos} {o : Expr} {to : TE}
theorem pe_cn (hg : Gl X x) (C : Cn X.mg x n) (hd : autoParam ((x == ("__debug__" : Str)) = false) au1_._auto_1) : QE X (.Name x pos) (tC (.int n)) := ⟨My.pe_cn hg C hd⟩
theorem pe_bits (ho : QE X o to) (hbase : autoParam (attributeBase o "bit_length" X.env (eval o X.env) = eval o X.env) au0_._auto_1) (hline : autoParam ((apos.endLine == cpos.line) = true) au0_._auto_1) :
    QE X (.Call (.Attribute o "bit_length" apos) [] [] cpos) (tUn (fun x H Q => tyV X.K "int" x H ∧ ([] : List V) = [] ∧ rBits x H Q) to) := ⟨My.pe_bits ho.h hbase hline⟩
theorem pg_sub {i : Expr} {ti : TE} {ts : TSet} (ho : QE X o to) (hi : QE X i ti) (hs : PSet X ts)
    (ha : autoParam (∀ v, assign (.Subscript o i pos) X.env v = (holding [v] (eval o X.env) >>= fun ov => holding [v, ov] (eval i X.env) >>= fun iv => standAt pos >>= fun _ => holding [v, ov, iv] (setItem ov iv v) >>= fun _ => release [v, ov, iv] [])) au2_._auto_1) :
    QG X (.Subscript o i pos) (gSub to ti ts) := ⟨L2.pg_sub ho.h hi.h hs ha⟩
theorem pt_chain {a b c : Expr} {ta tb tc : TE} {op op' : CmpOp} {r r' : R2} (ho : OpR X (compareOp op) r) (ho' : OpR X (compareOp op') r') (ha : QE X a ta) (hb : QE X b tb) (hc : QE X c tc)
    (hm : autoParam (lastMarks [op, op'] [b, c] = false) au3_._auto_1) : QT X (.Compare a [op, op'] [b, c] pos) (tTest (tChain r r' ta tb tc)) := ⟨L2.pt_chain ho ho' ha.h hb.h hc.h hm⟩
end
end Jd

namespace My
open PySem PySem.Spec PyProof.Rows L2 Mth
noncomputable def closL (cells : List (Str × Addr)) : List (Str × NameKind) → List (Str × Addr) → List (Str × Addr)
  | [], cs => cs
  | (y, k) :: r, cs => closL cells r (if k = .free then ((cells.lookup y).map fun c => (y, c)).toList ++ cs else cs)
noncomputable def freeHas (cells : List (Str × Addr)) (names : List (Str × NameKind)) : Bool := names.all fun p => !(p.2 == NameKind.free) || (cells.lookup p.1).isSome
theorem closure_go {env : Env} : ∀ (names : List (Str × NameKind)) (cs : List (Str × Addr)), freeHas env.cells names = true →
    (forIn (m := Sem) names cs fun x r => match x with | (name, kind) => if (kind == NameKind.free) = true then do let a ← cellOf env name; pure (ForInStep.yield ((name, a) :: r)) else pure (ForInStep.yield r)) = pure (closL env.cells names cs)
  | [], cs, _ => rfl
  | (y, k) :: r, cs, h => by
    have h2 : freeHas env.cells r = true := by
      unfold freeHas at h ⊢
      rw [List.all_cons, Bool.and_eq_true] at h
      exact h.2
    rw [List.forIn_cons]
    by_cases hk : k = .free
    · subst hk
      have h1 : (env.cells.lookup y).isSome = true := by
        unfold freeHas at h
        rw [List.all_cons, Bool.and_eq_true] at h
        simpa using h.1
      obtain ⟨c, hc⟩ := Option.isSome_iff_exists.mp h1
      have ih := closure_go r ((y, c) :: cs) h2
      have e : cellOf env y = pure c := by unfold cellOf; rw [hc]
      show (((if (NameKind.free == NameKind.free) = true then do let a ← cellOf env y; pure (ForInStep.yield ((y, a) :: cs)) else pure (ForInStep.yield cs)) : Sem _) >>= _) = _
      rw [if_pos (by rfl), e, pure_bind, pure_bind]
      show forIn (m := Sem) r ((y, c) :: cs) _ = _
      rw [ih]
      show _ = pure (closL env.cells r (if NameKind.free = .free then ((env.cells.lookup y).map fun c => (y, c)).toList ++ cs else cs))
      rw [if_pos rfl, hc]
      rfl
    · have ih := closure_go r cs h2
      have hk' : (k == NameKind.free) = false := by simpa using hk
      show (((if (k == NameKind.free) = true then do let a ← cellOf env y; pure (ForInStep.yield ((y, a) :: cs)) else pure (ForInStep.yield cs)) : Sem _) >>= _) = _
      rw [hk', if_neg Bool.false_ne_true, pure_bind]
      show forIn (m := Sem) r cs _ = _
      rw [ih]
      show _ = pure (closL env.cells r (if k = .free then _ else cs))
      rw [if_neg hk]
theorem closure_of {scope : Scope} {env : Env} (h : freeHas env.cells scope.names = true) : closureFor scope env = pure (closL env.cells scope.names []) := by
  have e := closure_go (env := env) scope.names [] h
  show (forIn (m := Sem) scope.names [] _ >>= fun cs => pure cs) = _
  exact (congrArg (· >>= fun cs => pure cs) e).trans (pure_bind _ _)
theorem closL_mem {cells : List (Str × Addr)} : ∀ (names : List (Str × NameKind)) (cs : List (Str × Addr)) (p : Str × Addr), p ∈ closL cells names cs → p ∈ cs ∨ cells.lookup p.1 = some p.2
  | [], _, _, h => .inl h
  | (y, k) :: r, cs, p, h => by
    rcases closL_mem r _ p h with q | q
    · by_cases hk : k = .free
      · rw [if_pos hk] at q
        rcases List.mem_append.mp q with z | z
        · cases e : cells.lookup y with
          | none => rw [e] at z; simp at z
          | some c => rw [e] at z; simp at z; subst z; exact .inr e
        · exact .inl z
      · rw [if_neg hk] at q
        exact .inl q
    · exact .inr q
theorem closL_has {cells : List (Str × Addr)} : ∀ (names : List (Str × NameKind)) (cs : List (Str × Addr)) (y : Str) (c : Addr), ((y, NameKind.free) ∈ names ∧ cells.lookup y = some c) ∨ (y, c) ∈ cs → (y, c) ∈ closL cells names cs
  | [], _, _, _, h => h.elim (fun z => by simp at z) id
  | (z, k) :: r, cs, y, c, h => by
    refine closL_has r _ y c ?_
    rcases h with ⟨m, e⟩ | m
    · rcases List.mem_cons.mp m with q | q
      · cases q
        right
        rw [if_pos rfl, e]
        simp
      · exact .inl ⟨q, e⟩
    · right
      by_cases hk : k = .free
      · rw [if_pos hk]; exact List.mem_append_right _ m
      · rw [if_neg hk]; exact m
theorem lookup_in {α : Type} : ∀ {l : List (Str × α)} {x : Str} {v : α}, l.lookup x = some v → (x, v) ∈ l
  | (y, u) :: r, x, v, h => by
    rw [List.lookup_cons] at h
    cases e : x == y with
    | true =>
      rw [e] at h
      cases h
      have : x = y := by simpa using e
      subst this
      exact List.mem_cons_self
    | false =>
      rw [e] at h
      exact List.mem_cons_of_mem _ (lookup_in h)
theorem lookup_ex {α : Type} : ∀ {l : List (Str × α)} {x : Str} {v : α}, (x, v) ∈ l → ∃ u, l.lookup x = some u
  | (y, u) :: r, x, v, h => by
    rw [List.lookup_cons]
    cases e : x == y with
    | true => exact ⟨_, rfl⟩
    | false =>
      rcases List.mem_cons.mp h with q | q
      · cases q; simp at e
      · exact lookup_ex q
theorem closL_look {cells : List (Str × Addr)} {names : List (Str × NameKind)} {y : Str} {c : Addr} (h : (closL cells names []).lookup y = some c) : cells.lookup y = some c :=
  (closL_mem names [] (y, c) (lookup_in h)).elim (fun z => by simp at z) id
theorem closL_some {cells : List (Str × Addr)} {names : List (Str × NameKind)} {y : Str} {c : Addr} (h : (y, NameKind.free) ∈ names) (e : cells.lookup y = some c) : (closL cells names []).lookup y = some c := by
  obtain ⟨u, q⟩ := lookup_ex (closL_has names [] y c (.inl ⟨h, e⟩))
  rw [q]
  rw [closL_look q] at e
  exact e
noncomputable def Caps (X : Cx) (scope : Scope) : List Str → List Nat → Prop
  | [], [] => True
  | y :: ys, j :: js => (X.N[j]? = some y ∧ X.env.kindOf y = some .cell ∧ scope.names.lookup y = some .free ∧ (relabel scope X.env).names.lookup y = some .cell) ∧ Caps X scope ys js
  | _, _ => False
theorem free_cell {cells : List (Str × Addr)} {names : List (Str × NameKind)} {y : Str} (h : freeHas cells names = true) (m : (y, NameKind.free) ∈ names) : ∃ c, cells.lookup y = some c := by
  unfold freeHas at h
  have q := List.all_eq_true.mp h _ m
  exact Option.isSome_iff_exists.mp (by simpa using q)
theorem Caps.ok {X : Cx} {scope : Scope} (h : freeHas X.env.cells scope.names = true) : ∀ {ys : List Str} {js : List Nat}, Caps X scope ys js → CapOk X scope (closL X.env.cells scope.names []) ys js
  | [], [], _ => trivial
  | y :: ys, j :: js, ⟨⟨a, b, c, d⟩, r⟩ => by
    have m := lookup_in c
    obtain ⟨e, he⟩ := free_cell h m
    exact ⟨⟨a, b, d, by rw [closL_some m he, he]⟩, Caps.ok h r⟩
theorem relabel_has {scope : Scope} {env : Env} (h : freeHas env.cells scope.names = true) (hcell : ∀ y ∈ scope.names, y.2 ≠ .cell) (y : Str)
    (q : (relabel scope env).names.lookup y = some .cell ∨ (relabel scope env).names.lookup y = some .free) : ∃ c, (closL env.cells scope.names []).lookup y = some c := by
  have m : (y, NameKind.free) ∈ scope.names := by
    rcases q with q | q
    all_goals
      have m := lookup_in q
      unfold relabel at m
      obtain ⟨⟨n, k⟩, hm, e⟩ := List.mem_map.mp m
      dsimp only at e
      split at e
      · rename_i hc
        rw [Bool.and_eq_true, Bool.and_eq_true] at hc
        have hk : k = .free := by simpa using hc.1.1
        subst hk
        cases e
        first | exact hm | done
      · cases e
        first | exact hm | exact absurd rfl (hcell _ hm)
  obtain ⟨c, hc⟩ := free_cell h m
  exact ⟨c, closL_some m hc⟩
section
variable {X : Cx} {elt iter tg : Expr} {ifs : List Expr} {pos : Pos} {scope : Scope} {wi : TI} {te : TE} {tt : TT} {g : TG} {O N' : List Str} {cap : List Nat} {n : Nat}
theorem pe_compC (hc : X.calm = true) (hi : PI X tg iter wi)
    (hg : ∀ (C : Addr) (s0 : Shared) (H0 : Hp) (ex' : List Addr) (pn' : List (Addr × Obj)), PG (cxComp X (O ++ N') scope (closL X.env.cells scope.names []) C s0 H0 ex' pn') tg g)
    (htt : ∀ (C : Addr) (s0 : Shared) (H0 : Hp) (ex' : List Addr) (pn' : List (Addr × Obj)), PTs (cxComp X (O ++ N') scope (closL X.env.cells scope.names []) C s0 H0 ex' pn') ifs tt)
    (helt : ∀ (C : Addr) (s0 : Shared) (H0 : Hp) (ex' : List Addr) (pn' : List (Addr × Obj)), PE (cxComp X (O ++ N') scope (closL X.env.cells scope.names []) C s0 H0 ex' pn') elt te)
    (hO : O.length = n) (hcap : Caps X scope N' cap) (hf : freeHas X.env.cells scope.names = true) (hcell : ∀ y ∈ scope.names, y.2 ≠ .cell) (hkind : scope.kind = .function) (hnames : ∀ y ∈ scope.names, y.2 = .local → scope.names.lookup y.1 = some .local)
    (hs : autoParam (∀ z, foldedSetIterable iter X.env z = pure z) au2_._auto_1) :
    PE X (.ListComp elt [⟨tg, iter, ifs, 0⟩] scope pos) (tComp wi n cap g tt te) :=
  pe_comp hc hi hg htt helt hO (hcap.ok hf) (closure_of hf) hcell hkind hnames (fun _ _ => closL_look) (relabel_has hf hcell) hs
end
section
variable {X : Cx} {elt iter tg : Expr} {ifs : List Expr} {pos : Pos} {scope : Scope} {wi : TI} {te : TE} {tt : TT} {g : TG} {O N' : List Str} {cap : List Nat} {n : Nat}
theorem ps_compC {i : Nat} {x : Str} {pos' spos : Pos} (hN : X.N.Nodup) (hix : X.N[i]? = some x) (hx : Loc X.env.scope x) (hc : X.calm = true) (hi : PI X tg iter wi)
    (hg : ∀ (C : Addr) (s0 : Shared) (H0 : Hp) (ex' : List Addr) (pn' : List (Addr × Obj)), PG (cxComp X (O ++ N') scope (closL X.env.cells scope.names []) C s0 H0 ex' pn') tg g)
    (htt : ∀ (C : Addr) (s0 : Shared) (H0 : Hp) (ex' : List Addr) (pn' : List (Addr × Obj)), PTs (cxComp X (O ++ N') scope (closL X.env.cells scope.names []) C s0 H0 ex' pn') ifs tt)
    (helt : ∀ (C : Addr) (s0 : Shared) (H0 : Hp) (ex' : List Addr) (pn' : List (Addr × Obj)), PE (cxComp X (O ++ N') scope (closL X.env.cells scope.names []) C s0 H0 ex' pn') elt te)
    (hO : O.length = n) (hcap : Caps X scope N' cap) (hf : freeHas X.env.cells scope.names = true) (hcell : ∀ y ∈ scope.names, y.2 ≠ .cell) (hkind : scope.kind = .function) (hnames : ∀ y ∈ scope.names, y.2 = .local → scope.names.lookup y.1 = some .local)
    (hsw : swapsWith (.ListComp elt [⟨tg, iter, ifs, 0⟩] scope pos) (some (.Name x pos')) spos.line X.env = pure true)
    (hs : autoParam (∀ z, foldedSetIterable iter X.env z = pure z) au2_._auto_1) (hfn : X.fn x = true ∨ X.env.scope.names.lookup x = some .local := by first | exact .inl rfl | exact .inr rfl | assumption) :
    PS X (.Assign [.Name x pos'] (.ListComp elt [⟨tg, iter, ifs, 0⟩] scope pos) spos) (tAsg (tComp wi n cap g tt te) (gName i)) :=
  ps_comp hN hix hx hc hi hg htt helt hO (hcap.ok hf) (closure_of hf) hcell hkind hnames (fun _ _ => closL_look) (relabel_has hf hcell) hsw hs hfn
end
noncomputable def rm (D : Addr) (H : Hp) : Hp := fun b => if b = D then none else H b
theorem rm_at {D : Addr} {H : Hp} {b : Addr} (h : b ≠ D) : rm D H b = H b := if_neg h
theorem rm_same {D : Addr} {H : Hp} : Same (rm D H) H := fun b o e => by
  unfold rm at e
  by_cases h : b = D
  · rw [if_pos h] at e; cases e
  · rw [if_neg h] at e; exact e
theorem rm_rm {D : Addr} {H H' : Hp} (s : Same H H') : Same (rm D H) (rm D H') := fun b o e => by
  unfold rm at e ⊢
  by_cases h : b = D
  · rw [if_pos h] at e; cases e
  · rw [if_neg h] at e ⊢; exact s b o e
theorem rm_upd {D : Addr} {H : Hp} {o : HO} : rm D (upd H D o) = rm D H := by
  funext b
  unfold rm
  by_cases h : b = D
  · rw [if_pos h, if_pos h]
  · rw [if_neg h, if_neg h, upd_ne h]
theorem rm_tup {D p : Addr} {H : Hp} {xs ys : List V} (hD : H D = some (.lst ys)) (h : H p = some (.tup xs)) : rm D H p = some (.tup xs) := by
  rw [rm_at (fun e => by rw [e, hD] at h; cases h)]; exact h
theorem rm_up (D : Addr) (H : Hp) (o : HO) : Same (rm D H) (upd H D o) := fun b u e => by
  unfold rm at e
  by_cases h : b = D
  · rw [if_pos h] at e; cases e
  · rw [if_neg h] at e; rw [upd_ne h]; exact e
theorem ix_last {n m : Nat} (h : n = m + 1) : ixN n (-1) = some m := by
  subst h
  unfold ixN
  rw [if_neg (by (first | lia | omega)), if_pos (by (first | lia | omega))]
  congr 1
  (first | lia | omega)
theorem ix_nat {n : Nat} {i : Int} (h0 : 0 ≤ i) (h : i < (n : Int)) : ixN n i = some i.toNat := by
  unfold ixN
  rw [if_pos h0, if_pos h]
structure Tells (J : It) (ok : Hp → Prop) (xs : List V) : Prop where
  go : ∀ i H, ok H → i < xs.length → J.go i H ∧ ∀ x H', J.yld i H x H' → H' = H ∧ xs[i]? = some x
  stop : ∀ H, ok H → J.stop xs.length H
theorem tells_list {K : PySem.W.Frag} {a : Addr} {xs : List V} : Tells (Itl K a) (fun H => SqL K H a xs) xs :=
  ⟨fun i H h hi => ⟨⟨xs, xs[i], h, by simp [hi]⟩, fun x H' y => ⟨y.1, y.2 xs h⟩⟩, fun H h => ⟨xs, h, Nat.le_refl _⟩⟩
noncomputable def CompB (n : Nat) (cap : List Nat) (g : TG) (tt : TT) (te : TE) (σ : L2.St) (Q : VK) (J : It) (H1 : Hp) : Prop := ∀ D, H1 D = none → ∃ W : Nat → Nat → List V → Hp → Prop, (∃ m, W 0 m [] (upd H1 D (.lst []))) ∧
  ∀ i m xs H2, W i m xs H2 → H2 D = some (.lst xs) ∧ ((J.stop i H2 ∧ Q (.ref D) H2) ∨ (J.go i H2 ∧ xs.length < sizeLine ∧ ∀ x H3 σ0, σ0.length = n → J.yld i H2 x H3 →
    g x (σ0 ++ capV cap σ) H3 fun σ2 H4 => (∃ σ1, σ1.length = n ∧ σ2 = σ1 ++ capV cap σ) ∧ tt σ2 H4 fun b H5 => if b = true then te σ2 H5 fun y H6 => H6 D = some (.lst xs) ∧ ∃ m', m' < m ∧ W (i + 1) m' (xs ++ [y]) (upd H6 D (.lst (xs ++ [y])))
      else ∃ m', m' < m ∧ W (i + 1) m' xs H5))
section
variable {wi : TI} {n : Nat} {cap : List Nat} {g : TG} {tt : TT} {te : TE} {σ : L2.St} {H : Hp} {Q : VK} {K : PySem.W.Frag}
theorem r_comp (h : wi σ H fun J H1 => CompB n cap g tt te σ Q J H1) : tComp wi n cap g tt te σ H Q := h
theorem r_rng1 {ta : TA} {R : It → Hp → Prop} (h : ta σ H fun vs H1 => ∃ j : Int, vs = [.int j] ∧ -(2 ^ 62) ≤ j ∧ j < 2 ^ 62 ∧ R (Itr 0 j.toNat) H1) : iRng1 ta σ H R := h
theorem r_yes {B : Bool → Hp → Prop} (h : B true H) : tYes σ H B := h
theorem compB_of {J : It} {ok : Hp → Prop} {xs : List V} (T : Tells J ok xs) (hok : ∀ H2, Same H H2 → ok H2) (hl : xs.length ≤ 1000) (P : Nat → List V → Hp → Prop) (h0 : P 0 [] H)
    (step : ∀ (D : Addr) (i : Nat) (x : V) (ys : List V) (H2 : Hp) (σ0 : L2.St) (N : VK) (N0 : Hp → Prop), σ0.length = n → H D = none → H2 D = some (.lst ys) → Same H H2 → xs[i]? = some x → ys.length ≤ i → P i ys (rm D H2) →
      (∀ y H6, Same H2 H6 → P (i + 1) (ys ++ [y]) (rm D H6) → N y H6) → (∀ H5, Same H2 H5 → P (i + 1) ys (rm D H5) → N0 H5) →
      g x (σ0 ++ capV cap σ) H2 fun σ2 H4 => (∃ σ1, σ1.length = n ∧ σ2 = σ1 ++ capV cap σ) ∧ tt σ2 H4 fun b H5 => if b = true then te σ2 H5 N else N0 H5)
    (done : ∀ (D : Addr) (ys : List V) (H2 : Hp), H D = none → H2 D = some (.lst ys) → Same H H2 → ys.length ≤ xs.length → P xs.length ys (rm D H2) → Q (.ref D) H2) : CompB n cap g tt te σ Q J H := by
  intro D hD
  refine ⟨fun i m ys H2 => H2 D = some (.lst ys) ∧ Same H H2 ∧ ys.length ≤ i ∧ i ≤ xs.length ∧ m = xs.length - i ∧ P i ys (rm D H2), ⟨xs.length, upd_same, same_at (Same.refl _) hD, Nat.zero_le _, Nat.zero_le _, rfl, ?_⟩, ?_⟩
  · rw [rm_upd]
    have e : rm D H = H := by
      funext b
      by_cases h : b = D
      · rw [h, hD]; exact if_pos rfl
      · exact rm_at h
    rw [e]; exact h0
  · rintro i m ys H2 ⟨e, s, hy, hi, rfl, p⟩
    refine ⟨e, ?_⟩
    by_cases hlt : i < xs.length
    · obtain ⟨go, yld⟩ := T.go i H2 (hok H2 s) hlt
      refine .inr ⟨go, Nat.lt_of_le_of_lt (Nat.le_trans hy hi) (small1000 hl), fun x H3 σ0 h0 y => ?_⟩
      obtain ⟨rfl, hx⟩ := yld x H3 y
      refine step D i x ys _ σ0 _ _ h0 hD e s hx hy p (fun y H6 s6 p6 => ?_) fun H5 s5 p5 => ?_
      · refine ⟨s6 _ _ e, xs.length - (i + 1), by (first | lia | omega), upd_same, same_at (s.trans s6) hD, ?_, by (first | lia | omega), rfl, ?_⟩
        · rw [List.length_append, List.length_singleton]; (first | lia | omega)
        · rw [rm_upd]; exact p6
      · exact ⟨xs.length - (i + 1), by (first | lia | omega), s5 _ _ e, s.trans s5, by (first | lia | omega), by (first | lia | omega), rfl, p5⟩
    · have ei : i = xs.length := by (first | lia | omega)
      subst ei
      exact .inl ⟨T.stop H2 (hok H2 s), done D ys H2 hD e s hy p⟩
theorem r_own1 {x : V} {σ0 : L2.St} {R : L2.St → Hp → Prop} (h0 : σ0.length = 1) (h : R (some x :: capV cap σ) H) : gName 0 x (σ0 ++ capV cap σ) H fun σ2 H4 => (∃ σ1, σ1.length = 1 ∧ σ2 = σ1 ++ capV cap σ) ∧ R σ2 H4 := by
  match σ0, h0 with
  | [v], _ => exact ⟨⟨[some x], rfl, rfl⟩, h⟩
end
end My
namespace Jd
open PySem PySem.Spec PyProof.Rows L2 My
structure QTs (X : Cx) (ifs : List Expr) (t : TT) : Prop where
  h : PTs X ifs t
section
variable {X : Cx} {c elt iter tg : Expr} {ifs : List Expr} {pos : Pos} {scope : Scope} {wi : TI} {te : TE} {tt : TT} {g : TG} {O N' : List Str} {cap : List Nat} {n : Nat}
theorem pts_nil : QTs X [] tYes := ⟨My.pts_nil⟩
theorem pts_one (h : QT X c tt) : QTs X [c] tt := ⟨My.pts_one h.h⟩
theorem pe_comp (hc : X.calm = true) (hi : QI X tg iter wi)
    (hg : ∀ (C : Addr) (s0 : Shared) (H0 : Hp) (ex' : List Addr) (pn' : List (Addr × Obj)), QG (cxComp X (O ++ N') scope (closL X.env.cells scope.names []) C s0 H0 ex' pn') tg g)
    (htt : ∀ (C : Addr) (s0 : Shared) (H0 : Hp) (ex' : List Addr) (pn' : List (Addr × Obj)), QTs (cxComp X (O ++ N') scope (closL X.env.cells scope.names []) C s0 H0 ex' pn') ifs tt)
    (helt : ∀ (C : Addr) (s0 : Shared) (H0 : Hp) (ex' : List Addr) (pn' : List (Addr × Obj)), QE (cxComp X (O ++ N') scope (closL X.env.cells scope.names []) C s0 H0 ex' pn') elt te)
    (hO : O.length = n) (hcap : Caps X scope N' cap) (hf : freeHas X.env.cells scope.names = true) (hcell : ∀ y ∈ scope.names, y.2 ≠ .cell) (hkind : scope.kind = .function) (hnames : ∀ y ∈ scope.names, y.2 = .local → scope.names.lookup y.1 = some .local)
    (hs : autoParam (∀ z, foldedSetIterable iter X.env z = pure z) au2_._auto_1) :
    QE X (.ListComp elt [⟨tg, iter, ifs, 0⟩] scope pos) (tComp wi n cap g tt te) :=
  ⟨My.pe_compC hc hi.h (fun C s0 H0 ex' pn' => (hg C s0 H0 ex' pn').h) (fun C s0 H0 ex' pn' => (htt C s0 H0 ex' pn').h) (fun C s0 H0 ex' pn' => (helt C s0 H0 ex' pn').h) hO hcap hf hcell hkind hnames hs⟩
theorem ps_comp {i : Nat} {x : Str} {pos' spos : Pos} (hN : X.N.Nodup) (hix : X.N[i]? = some x) (hx : Loc X.env.scope x) (hc : X.calm = true) (hi : QI X tg iter wi)
    (hg : ∀ (C : Addr) (s0 : Shared) (H0 : Hp) (ex' : List Addr) (pn' : List (Addr × Obj)), QG (cxComp X (O ++ N') scope (closL X.env.cells scope.names []) C s0 H0 ex' pn') tg g)
    (htt : ∀ (C : Addr) (s0 : Shared) (H0 : Hp) (ex' : List Addr) (pn' : List (Addr × Obj)), QTs (cxComp X (O ++ N') scope (closL X.env.cells scope.names []) C s0 H0 ex' pn') ifs tt)
    (helt : ∀ (C : Addr) (s0 : Shared) (H0 : Hp) (ex' : List Addr) (pn' : List (Addr × Obj)), QE (cxComp X (O ++ N') scope (closL X.env.cells scope.names []) C s0 H0 ex' pn') elt te)
    (hO : O.length = n) (hcap : Caps X scope N' cap) (hf : freeHas X.env.cells scope.names = true) (hcell : ∀ y ∈ scope.names, y.2 ≠ .cell) (hkind : scope.kind = .function) (hnames : ∀ y ∈ scope.names, y.2 = .local → scope.names.lookup y.1 = some .local)
    (hsw : swapsWith (.ListComp elt [⟨tg, iter, ifs, 0⟩] scope pos) (some (.Name x pos')) spos.line X.env = pure true)
    (hs : autoParam (∀ z, foldedSetIterable iter X.env z = pure z) au2_._auto_1) (hfn : X.fn x = true ∨ X.env.scope.names.lookup x = some .local := by first | exact .inl rfl | exact .inr rfl | assumption) :
    QS X (.Assign [.Name x pos'] (.ListComp elt [⟨tg, iter, ifs, 0⟩] scope pos) spos) (tAsg (tComp wi n cap g tt te) (gName i)) :=
  ⟨My.ps_compC hN hix hx hc hi.h (fun C s0 H0 ex' pn' => (hg C s0 H0 ex' pn').h) (fun C s0 H0 ex' pn' => (htt C s0 H0 ex' pn').h) (fun C s0 H0 ex' pn' => (helt C s0 H0 ex' pn').h) hO hcap hf hcell hkind hnames hsw hs hfn⟩
end
end Jd

namespace My
open PySem PySem.Spec PyProof.Rows L2 Mth
theorem vals_ints : ∀ {us : List Value} {ns : List Int}, IntsAre us ns → Vals (ns.map V.int) us
  | _, _, .nil => .nil
  | _, _, .cons n t r => .cons ⟨t, rfl⟩ (vals_ints r)
noncomputable def rSorted (K : PySem.W.Frag) : List V → Hp → VK → Prop := fun xs H Q => ∃ (l : Addr) (ns : List Int), xs = [.ref l] ∧ SqL K H l (ns.map V.int) ∧ ns.length < 64 ∧
  ∀ (p : Addr) (ns' : List Int), H p = none → ns'.Perm ns → ns'.Pairwise (· ≤ ·) → Q (.ref p) (upd H p (.lst (ns'.map V.int)))
theorem sortedC {X : Cx} (K : PySem.W.Frag) (hK : autoParam (X.K = K) au0_._auto_1) : CallR X (.builtin "sorted") (rSorted K) := by
  subst hK
  intro pins s σ H xs us Q I r h
  obtain ⟨l, ns, rfl, hq, h64, q⟩ := h
  obtain ⟨u, rfl, rx⟩ := vals1 r
  cases rx
  obtain ⟨its, rv, p, hz⟩ := I.list hq
  have hl := rv.length
  rw [List.length_map] at hl
  refine sorted_ints p.isList (intsAre_of rv) (by (first | lia | omega)) fun out ns' a1 a2 a3 => ?_
  obtain ⟨e, he⟩ := sortedAll_at s.heap its out
  have hn : H (s.heap.objs.size + 1) = none := I.hok.fresh (Nat.le_succ _)
  refine ⟨.ref (s.heap.objs.size + 1), _, I.laid (t' := s.toks) (o := .lst (ns'.map V.int)) (fun b o z => sortedAll_old z) (Nat.le_succ _) ?_, rfl, q _ ns' hn a2 a3⟩
  refine ⟨?_, out.toList, e, vals_ints a1, ?_⟩
  · rw [List.length_map, a2.length_eq]
    exact Nat.le_of_lt (small1000 (by (first | lia | omega)))
  · rw [he]
theorem r_sorted {K : PySem.W.Frag} {H : Hp} {Q : VK} {l : Addr} {ns : List Int} (h : SqL K H l (ns.map V.int)) (h64 : ns.length < 64) (q : ∀ (p : Addr) (ns' : List Int) (H' : Hp), Same H H' → H p = none → H' p = some (.lst (ns'.map V.int)) → ns'.Perm ns → ns'.Pairwise (· ≤ ·) → Q (.ref p) H') : rSorted K [.ref l] H Q :=
  ⟨l, ns, rfl, h, h64, fun p ns' hp h1 h2 => q p ns' _ (same_at (Same.refl _) hp) hp upd_same h1 h2⟩
section
variable {σ : L2.St} {H : Hp} {R : It → Hp → Prop}
theorem r_chain {r r' : R2} {ta tb tc : TE} {Q : VK} (h : ta σ H fun x H1 => tb σ H1 fun y H2 => r x y H2 fun z H3 => ∃ k, z = .bl k ∧ (if k = true then tc σ H3 fun w' H4 => r' y w' H4 Q else Q (.bl false) H3)) : tChain r r' ta tb tc σ H Q := h
theorem r_rng2 {ta : TA} (h : ta σ H fun vs H1 => ∃ i j : Int, vs = [.int i, .int j] ∧ (-(2 ^ 62) ≤ i ∧ i < 2 ^ 62 ∧ -(2 ^ 62) ≤ j ∧ j < 2 ^ 62) ∧ R (Itr i (j - i).toNat) H1) : iRng2 ta σ H R := h
end
end My
namespace Jd
open PySem PySem.Spec PyProof.Rows L2 My
theorem pi_range2 {X : Cx} {a b tg : Expr} {t : TA} {p pos : Pos} (hg : Gl X "range") (hm : X.mg "range" = none) (ha : QA X [a, b] t) (hs : autoParam (starEach [a, b] X.env = [(false, eval a X.env), (false, eval b X.env)]) au0_._auto_1) (hs2 : autoParam (starEach [b] X.env = [(false, eval b X.env)]) au0_._auto_1) :
    QI X tg (.Call (.Name "range" p) [a, b] [] pos) (iRng2 t) := ⟨L2.pi_range2 hg hm ha.h hs hs2⟩
end Jd

namespace My
open PySem PySem.Spec PyProof.Rows L2 Mth
section
variable {X : Cx} {a : Expr} {ta : TA} {p pos : Pos} {elts : List Expr} {kt : Nat} {tpos : Pos}
end
section
variable {σ : L2.St} {H : Hp} {K : PySem.W.Frag}
end
section
variable {σ : L2.St} {H : Hp} {D : Ends}
end
section
variable {X : Cx}
theorem notInSeq (K : PySem.W.Frag) (h : autoParam (X.K = K) au0_._auto_1) : OpR X (compareOp .NotIn) (rIn K true) := h ▸ op_notIn_seq
end
end My
namespace Jd
open PySem PySem.Spec PyProof.Rows L2 My
end Jd

namespace My
open PySem PySem.Spec PyProof.Rows L2 Mth
noncomputable def NoAttrs (K : PySem.W.Frag) (C : Addr) : List Str → Prop
  | [] => True
  | f :: fs => NoAttr K C f ∧ NoAttrs K C fs
theorem NoAttrs.of {K : PySem.W.Frag} {C : Addr} {f : Str} : ∀ {fs : List Str}, NoAttrs K C fs → f ∈ fs → NoAttr K C f
  | g :: fs, h, hm => by
    rcases List.mem_cons.mp hm with z | z
    · rw [z]; exact h.1
    · exact NoAttrs.of h.2 z
structure Cl (K : PySem.W.Frag) (mg : Str → Option Value) (x : Str) (C : Addr) (fs : List Str) : Prop where
  cl : Cls K C
  at_ : mg x = some (.ref C)
  no : NoAttrs K C fs
structure Dm (P : Program) (w : World) (K : PySem.W.Frag) (mg : Str → Option Value) (base : Heap) (k : Nat) (C : Addr) (m : Str) (ps : List Str) (sp : Sp) : Prop where
  ex : ∃ (f : Addr) (fd : FuncData), FnOk P w K mg base CX0 k f fd ps sp ∧ Meth K C m f ∧ Binds K fd ps []
structure Dk (P : Program) (w : World) (K : PySem.W.Frag) (mg : Str → Option Value) (base : Heap) (k : Nat) (x : Str) (C : Addr) (ps : List Str) (sp : Sp) : Prop where
  ex : ∃ (f : Addr) (fd : FuncData), FnOk P w K mg base CX0 k f fd ps sp ∧ Mk K C f ∧ Binds K fd ps [] ∧ mg x = some (.ref C)
noncomputable def rFld (K : PySem.W.Frag) (f : Str) : V → Hp → VK → Prop := fun x H Q => ∃ a C dx fs v, x = .ref a ∧ H a = some (.ins C dx fs) ∧ Cls K C ∧ NoAttr K C f ∧ fs.lookup f = some v ∧ Q v H
noncomputable def rFldS (K : PySem.W.Frag) (f : Str) (y : V) (N : Hp → Prop) : V → Hp → Prop := fun x H => ∃ a C dx fs, x = .ref a ∧ H a = some (.ins C dx fs) ∧ Cls K C ∧ NoAttr K C f ∧ fs.length < 1000 ∧ N (upd H a (.ins C dx (putF f y fs)))
noncomputable def rMeth (C : Addr) (m : Str) (sp : Sp) (σ : L2.St) (t : TA) : V → Hp → VK → Prop := fun x H1 Q => ∃ a dx fs, x = .ref a ∧ H1 a = some (.ins C dx fs) ∧ fs.lookup m = none ∧ t σ H1 fun vs H2 => sp (x :: (vs ++ [])) H2 Q E0
section
variable {σ : L2.St} {H : Hp} {Q : VK} {K : PySem.W.Frag} {f m x : Str} {to tv : TE} {t : TA} {D : Ends} {C a dx : Addr} {fs : List (Str × V)} {fn : List Str} {mg : Str → Option Value} {v y : V} {N : Hp → Prop} {sp : Sp}
theorem r_fld (h : to σ H fun x H1 => rFld K f x H1 Q) : tFld K to f σ H Q := h
theorem r_sfld (h : tv σ H fun y H1 => to σ H1 fun x H2 => rFldS K f y (fun H3 => D.nx σ H3) x H2) : sFld K to tv f D σ H := h
theorem r_meth (h : to σ H fun x H1 => rMeth C m sp σ t x H1 Q) : tMeth C m sp [] E0 to t σ H Q := h
theorem r_make (h : t σ H fun vs H1 => ∀ x dx, H1 x = none → H1 dx = none → dx ≠ x → sp (.ref x :: (vs ++ [])) (upd (upd H1 dx (.own x)) x (.ins C dx [])) (fun v H2 => v = .non ∧ Q (.ref x) H2) E0) : tMake C sp [] E0 t σ H Q := h
theorem r_f (k : Cl K mg x C fn) (ha : H a = some (.ins C dx fs)) (hl : fs.lookup f = some v) (q : Q v H) (hf : autoParam (f ∈ fn) au1_._auto_1) : rFld K f (.ref a) H Q := ⟨a, C, dx, fs, v, rfl, ha, k.cl, k.no.of hf, hl, q⟩
theorem r_s (k : Cl K mg x C fn) (ha : H a = some (.ins C dx fs)) (hn : fs.length < 1000) (q : N (upd H a (.ins C dx (putF f y fs)))) (hf : autoParam (f ∈ fn) au1_._auto_1) : rFldS K f y N (.ref a) H := ⟨a, C, dx, fs, rfl, ha, k.cl, k.no.of hf, hn, q⟩
theorem r_m (ha : H a = some (.ins C dx fs)) (hm : fs.lookup m = none) (q : t σ H fun vs H2 => sp (.ref a :: (vs ++ [])) H2 Q E0) : rMeth C m sp σ t (.ref a) H Q := ⟨a, dx, fs, rfl, ha, hm, q⟩
end
end My
namespace Jd
open PySem PySem.Spec PyProof.Rows L2 My
section
variable {X : Cx} {k : Nat} {x m f : Str} {ps : List Str} {sp : Sp} {p pos apos : Pos} {o e value : Expr} {es : List Expr} {to tv : TE} {t : TA} {C : Addr}
theorem pe_fld (K : PySem.W.Frag) (he : QE X e to) (hb : autoParam (attributeBase e f X.env (eval e X.env) = eval e X.env) au0_._auto_1) (hK : autoParam (X.K = K) au0_._auto_1) : QE X (.Attribute e f pos) (tFld K to f) := ⟨hK ▸ L2.pe_fld he.h hb⟩
theorem ps_fld (K : PySem.W.Frag) {pos' : Pos} (ha : QE X o to) (hv : QE X value tv) (hs : autoParam (swapsWith value (some (.Attribute o f pos')) pos.line X.env = pure false) au0_._auto_1) (hK : autoParam (X.K = K) au0_._auto_1) : QS X (.Assign [.Attribute o f pos'] value pos) (sFld K to tv f) := ⟨hK ▸ L2.ps_fld ha.h hv.h hs⟩
theorem pe_dk (D : Dk X.prog X.w X.K X.mg X.base k x C ps sp) (hr : Room (k + 1) X.A) (hg : Gl X x) (ha : QA X (e :: es) t) (hdb : autoParam ((x == ("__debug__" : Str)) = false) au1_._auto_1)
    (he : autoParam (starEach (e :: es) X.env = (false, eval e X.env) :: starEach es X.env) au0_._auto_1) (hpl : autoParam ((backTo pos (starEach es X.env)).any (·.1) = false) au0_._auto_1) : QE X (.Call (.Name x p) (e :: es) [] pos) (tMake C sp [] E0 t) := by
  obtain ⟨fa, fd, ok, hk, hb, hm⟩ := D.ex
  exact ⟨pe_make hk ok hr hg hm hb .nil pass0 ha.h hdb he hpl⟩
theorem pe_dm (D : Dm X.prog X.w X.K X.mg X.base k C m ps sp) (c : Cls X.K C) (hr : Room k X.A) (ho : QE X o to) (ha : QA X (e :: es) t) {pl : Sem Bool}
    (he : autoParam (starEach (e :: es) X.env = (false, eval e X.env) :: starEach es X.env) au0_._auto_1) (hpl : autoParam ((backTo pos (starEach es X.env)).any (·.1) = false) au0_._auto_1)
    (ht : autoParam (eval (.Call (.Attribute o m apos) (e :: es) [] pos) X.env = (do
      let ov ← eval o X.env
      standAt apos.atName
      let (g, first) ← holding [ov] (getMethod ov m pl)
      callWith pos g first (backTo pos (starEach (e :: es) X.env)) (backToKw pos (keywordEach [] X.env)))) au0_._auto_1) : QE X (.Call (.Attribute o m apos) (e :: es) [] pos) (tMeth C m sp [] E0 to t) := by
  obtain ⟨fa, fd, ok, hm, hb⟩ := D.ex
  exact ⟨pe_meth ho.h c hm ok hr hb .nil pass0 ha.h he hpl ht⟩
theorem pe_dm0 (D : Dm X.prog X.w X.K X.mg X.base k C m ps sp) (c : Cls X.K C) (hr : Room k X.A) (ho : QE X o to) {pl : Sem Bool}
    (ht : autoParam (eval (.Call (.Attribute o m apos) [] [] pos) X.env = (do
      let ov ← eval o X.env
      standAt apos.atName
      let (g, first) ← holding [ov] (getMethod ov m pl)
      callWith pos g first (backTo pos (starEach [] X.env)) (backToKw pos (keywordEach [] X.env)))) au0_._auto_1) : QE X (.Call (.Attribute o m apos) [] [] pos) (tMeth C m sp [] E0 to tNil) := by
  obtain ⟨fa, fd, ok, hm, hb⟩ := D.ex
  exact ⟨pe_meth0 ho.h c hm ok hr hb .nil pass0 ht⟩
end
end Jd

namespace My
open PySem PySem.Spec PyProof.Rows L2 Mth
end My
namespace Jd
open PySem PySem.Spec PyProof.Rows L2 Mth
end Jd
namespace L2
open PySem PySem.Spec PyProof.Rows
theorem lenS {α : Type} {n : Nat} : ∀ {us : List α}, us.length = n + 1 → ∃ (a : α) (as : List α), us = a :: as ∧ as.length = n
  | [], h => nomatch h
  | a :: as, h => ⟨a, as, rfl, Nat.succ.inj h⟩
theorem len0 {α : Type} : ∀ {us : List α}, us.length = 0 → us = []
  | [], _ => rfl
  | _ :: _, h => nomatch h
theorem Fun.binds1 {K : PySem.W.Frag} {x qual : Str} {st : Stmt} {f : Addr} {fd : FuncData} {pa : Str} (F : Fun K x qual st f fd) (h : ∀ (kV doc pm : Value) (an : Option Addr) (cdv ct ua : Value), bindArgs (PySem.W.fnOf x qual (defArgs st) (defBody st) (defScope st) .none kV doc pm an cdv ct) ⟨[ua], []⟩ = pure [(pa, ua)]) : Binds K fd [pa] [] :=
  F.binds fun kV doc pm an cdv ct us hl => by
    obtain ⟨ua, us0, rfl, hl0⟩ := lenS (n := 0) hl
    obtain rfl := len0 hl0
    exact h kV doc pm an cdv ct ua
theorem Fun.binds2 {K : PySem.W.Frag} {x qual : Str} {st : Stmt} {f : Addr} {fd : FuncData} {pa pb : Str} (F : Fun K x qual st f fd) (h : ∀ (kV doc pm : Value) (an : Option Addr) (cdv ct ua ub : Value), bindArgs (PySem.W.fnOf x qual (defArgs st) (defBody st) (defScope st) .none kV doc pm an cdv ct) ⟨[ua, ub], []⟩ = pure [(pa, ua), (pb, ub)]) : Binds K fd [pa, pb] [] :=
  F.binds fun kV doc pm an cdv ct us hl => by
    obtain ⟨ua, us1, rfl, hl1⟩ := lenS (n := 1) hl
    obtain ⟨ub, us0, rfl, hl0⟩ := lenS (n := 0) hl1
    obtain rfl := len0 hl0
    exact h kV doc pm an cdv ct ua ub
theorem Fun.binds3 {K : PySem.W.Frag} {x qual : Str} {st : Stmt} {f : Addr} {fd : FuncData} {pa pb pc : Str} (F : Fun K x qual st f fd) (h : ∀ (kV doc pm : Value) (an : Option Addr) (cdv ct ua ub uc : Value), bindArgs (PySem.W.fnOf x qual (defArgs st) (defBody st) (defScope st) .none kV doc pm an cdv ct) ⟨[ua, ub, uc], []⟩ = pure [(pa, ua), (pb, ub), (pc, uc)]) : Binds K fd [pa, pb, pc] [] :=
  F.binds fun kV doc pm an cdv ct us hl => by
    obtain ⟨ua, us2, rfl, hl2⟩ := lenS (n := 2) hl
    obtain ⟨ub, us1, rfl, hl1⟩ := lenS (n := 1) hl2
    obtain ⟨uc, us0, rfl, hl0⟩ := lenS (n := 0) hl1
    obtain rfl := len0 hl0
    exact h kV doc pm an cdv ct ua ub uc
theorem Fun.binds4 {K : PySem.W.Frag} {x qual : Str} {st : Stmt} {f : Addr} {fd : FuncData} {pa pb pc pd : Str} (F : Fun K x qual st f fd) (h : ∀ (kV doc pm : Value) (an : Option Addr) (cdv ct ua ub uc ud : Value), bindArgs (PySem.W.fnOf x qual (defArgs st) (defBody st) (defScope st) .none kV doc pm an cdv ct) ⟨[ua, ub, uc, ud], []⟩ = pure [(pa, ua), (pb, ub), (pc, uc), (pd, ud)]) : Binds K fd [pa, pb, pc, pd] [] :=
  F.binds fun kV doc pm an cdv ct us hl => by
    obtain ⟨ua, us3, rfl, hl3⟩ := lenS (n := 3) hl
    obtain ⟨ub, us2, rfl, hl2⟩ := lenS (n := 2) hl3
    obtain ⟨uc, us1, rfl, hl1⟩ := lenS (n := 1) hl2
    obtain ⟨ud, us0, rfl, hl0⟩ := lenS (n := 0) hl1
    obtain rfl := len0 hl0
    exact h kV doc pm an cdv ct ua ub uc ud
theorem Fun.binds5 {K : PySem.W.Frag} {x qual : Str} {st : Stmt} {f : Addr} {fd : FuncData} {pa pb pc pd pe : Str} (F : Fun K x qual st f fd) (h : ∀ (kV doc pm : Value) (an : Option Addr) (cdv ct ua ub uc ud ue : Value), bindArgs (PySem.W.fnOf x qual (defArgs st) (defBody st) (defScope st) .none kV doc pm an cdv ct) ⟨[ua, ub, uc, ud, ue], []⟩ = pure [(pa, ua), (pb, ub), (pc, uc), (pd, ud), (pe, ue)]) : Binds K fd [pa, pb, pc, pd, pe] [] :=
  F.binds fun kV doc pm an cdv ct us hl => by
    obtain ⟨ua, us4, rfl, hl4⟩ := lenS (n := 4) hl
    obtain ⟨ub, us3, rfl, hl3⟩ := lenS (n := 3) hl4
    obtain ⟨uc, us2, rfl, hl2⟩ := lenS (n := 2) hl3
    obtain ⟨ud, us1, rfl, hl1⟩ := lenS (n := 1) hl2
    obtain ⟨ue, us0, rfl, hl0⟩ := lenS (n := 0) hl1
    obtain rfl := len0 hl0
    exact h kV doc pm an cdv ct ua ub uc ud ue
theorem Fun.binds6 {K : PySem.W.Frag} {x qual : Str} {st : Stmt} {f : Addr} {fd : FuncData} {pa pb pc pd pe pf : Str} (F : Fun K x qual st f fd) (h : ∀ (kV doc pm : Value) (an : Option Addr) (cdv ct ua ub uc ud ue uf : Value), bindArgs (PySem.W.fnOf x qual (defArgs st) (defBody st) (defScope st) .none kV doc pm an cdv ct) ⟨[ua, ub, uc, ud, ue, uf], []⟩ = pure [(pa, ua), (pb, ub), (pc, uc), (pd, ud), (pe, ue), (pf, uf)]) : Binds K fd [pa, pb, pc, pd, pe, pf] [] :=
  F.binds fun kV doc pm an cdv ct us hl => by
    obtain ⟨ua, us5, rfl, hl5⟩ := lenS (n := 5) hl
    obtain ⟨ub, us4, rfl, hl4⟩ := lenS (n := 4) hl5
    obtain ⟨uc, us3, rfl, hl3⟩ := lenS (n := 3) hl4
    obtain ⟨ud, us2, rfl, hl2⟩ := lenS (n := 2) hl3
    obtain ⟨ue, us1, rfl, hl1⟩ := lenS (n := 1) hl2
    obtain ⟨uf, us0, rfl, hl0⟩ := lenS (n := 0) hl1
    obtain rfl := len0 hl0
    exact h kV doc pm an cdv ct ua ub uc ud ue uf
theorem Fun.binds7 {K : PySem.W.Frag} {x qual : Str} {st : Stmt} {f : Addr} {fd : FuncData} {pa pb pc pd pe pf pg : Str} (F : Fun K x qual st f fd) (h : ∀ (kV doc pm : Value) (an : Option Addr) (cdv ct ua ub uc ud ue uf ug : Value), bindArgs (PySem.W.fnOf x qual (defArgs st) (defBody st) (defScope st) .none kV doc pm an cdv ct) ⟨[ua, ub, uc, ud, ue, uf, ug], []⟩ = pure [(pa, ua), (pb, ub), (pc, uc), (pd, ud), (pe, ue), (pf, uf), (pg, ug)]) : Binds K fd [pa, pb, pc, pd, pe, pf, pg] [] :=
  F.binds fun kV doc pm an cdv ct us hl => by
    obtain ⟨ua, us6, rfl, hl6⟩ := lenS (n := 6) hl
    obtain ⟨ub, us5, rfl, hl5⟩ := lenS (n := 5) hl6
    obtain ⟨uc, us4, rfl, hl4⟩ := lenS (n := 4) hl5
    obtain ⟨ud, us3, rfl, hl3⟩ := lenS (n := 3) hl4
    obtain ⟨ue, us2, rfl, hl2⟩ := lenS (n := 2) hl3
    obtain ⟨uf, us1, rfl, hl1⟩ := lenS (n := 1) hl2
    obtain ⟨ug, us0, rfl, hl0⟩ := lenS (n := 0) hl1
    obtain rfl := len0 hl0
    exact h kV doc pm an cdv ct ua ub uc ud ue uf ug
end L2
namespace My
open PySem PySem.Spec PyProof.Rows L2
theorem seq_cut {t u : TS} {D : Ends} {σ : L2.St} {H : Hp} (Pv : L2.St → Hp → Prop) (rest : ∀ σ' H', Pv σ' H' → u D σ' H') (h : ∀ N : L2.St → Hp → Prop, (∀ σ' H', Pv σ' H' → N σ' H') → t { D with nx := N } σ H) : tSeq t u D σ H := h (u D) rest
theorem seq_cut4 {a b c d u : TS} {D : Ends} {σ : L2.St} {H : Hp} (Pv : L2.St → Hp → Prop) (rest : ∀ σ' H', Pv σ' H' → u D σ' H') (h : ∀ N : L2.St → Hp → Prop, (∀ σ' H', Pv σ' H' → N σ' H') → tSeq a (tSeq b (tSeq c d)) { D with nx := N } σ H) : tSeq a (tSeq b (tSeq c (tSeq d u))) D σ H := h (u D) rest
theorem nx_of {N : L2.St → Hp → Prop} {rt : VK} {bk ct : L2.St → Hp → Prop} {σ : L2.St} {H : Hp} (h : N σ H) : (Ends.mk N rt bk ct).nx σ H := h
theorem body_cut {g : TG} {tb : TS} {x : V} {σ : L2.St} {H : Hp} {Pv bk : L2.St → Hp → Prop} {rt : VK} (h : ∀ (M B : L2.St → Hp → Prop) (R : VK), (∀ σ H, Pv σ H → M σ H) → (∀ σ H, bk σ H → B σ H) → (∀ v H, rt v H → R v H) → g x σ H fun σ2 H2 => tb (Ends.mk M R B M) σ2 H2) : g x σ H fun σ2 H2 => tb (Ends.mk Pv rt bk Pv) σ2 H2 := h Pv bk rt (fun _ _ z => z) (fun _ _ z => z) (fun _ _ z => z)
end My

namespace My
open PySem PySem.Spec PyProof.Rows L2 Mth
noncomputable def rIndex : V → List V → Hp → VK → Prop := fun x vs H Q => ∃ (l : Addr) (ns : List Int) (k : Int), x = .ref l ∧ vs = [.int k] ∧ H l = some (.lst (ns.map V.int)) ∧ ns.length ≤ 1000 ∧ k ∈ ns ∧ ∀ j : Nat, ns[j]? = some k → Q (.int (j : Int)) H
theorem index_of {k : Int} : ∀ {ns : List Int}, k ∈ ns → ∃ j : Nat, ns[j]? = some k ∧ ∀ i : Nat, i < j → ns[i]? ≠ some k
  | a :: ns, h => by
    by_cases e : a = k
    · exact ⟨0, by rw [e]; rfl, fun i hi => absurd hi (Nat.not_lt_zero _)⟩
    · rcases List.mem_cons.mp h with z | z
      · exact absurd z.symm e
      · obtain ⟨j, h1, h2⟩ := index_of z
        refine ⟨j + 1, h1, fun i hi => ?_⟩
        cases i with
        | zero => exact fun q => e (Option.some.inj q)
        | succ i => exact h2 i (Nat.lt_of_succ_lt_succ hi)
theorem mt_index {X : Cx} : MtM X "list.index" rIndex := by
  intro pins s σ H x vs v us Q I rx rv h
  obtain ⟨l, ns, k, rfl, rfl, hH, h1000, hk, q⟩ := h
  cases rx
  obtain ⟨u, rfl, ru⟩ := rv.one
  obtain ⟨t, rfl⟩ := ru
  obtain ⟨j, hj, hno⟩ := index_of hk
  obtain ⟨z, its, n, r, hl, e⟩ := I.lstM hH
  have hlen : its.length = ns.length := by rw [← hl, List.length_map]
  have hjn : j < ns.length := (List.getElem?_eq_some_iff.mp hj).1
  have at_ : ∀ (i : Nat) (a : Int), ns[i]? = some a → ∃ t', its[i]? = some (Value.int a t') := fun i a ha => by
    obtain ⟨u, hu, ru⟩ := Vals.get r (i := i) (x := .int a) (by rw [List.getElem?_map, ha]; rfl)
    obtain ⟨t', rfl⟩ := ru
    exact ⟨t', hu⟩
  have at2 : ∀ (i : Nat) (hi : i < its.length), ∃ (a : Int) (t' : Nat), ns[i]? = some a ∧ its[i] = Value.int a t' := fun i hi => by
    have ha : ns[i]? = some ns[i] := List.getElem?_eq_getElem (by omega)
    obtain ⟨t', h'⟩ := at_ i _ ha
    rw [List.getElem?_eq_getElem hi] at h'
    exact ⟨_, t', ha, Option.some.inj h'⟩
  refine call_meets F.slot_list_index ⟨_, e, rfl⟩ F.entry_list_index (F.args_list_index_2 _ _)
    (MeetsSeq.list_index l its.toArray n (.int k t) (isInt k) (fun y hy => ?_) j (by rw [List.size_toArray]; omega) (by omega) ?_ (fun m hm hlt => ?_)) ⟨e, ?_⟩
  · obtain ⟨i, hi, rfl⟩ := List.mem_iff_getElem.mp (List.mem_toArray.mp hy)
    obtain ⟨a, t', _, h'⟩ := at2 i hi
    rw [h']
    exact MeetsSeq.EqGives.int a k t' t
  · obtain ⟨a, t', ha, h'⟩ := at2 j (by omega)
    rw [hj] at ha
    cases ha
    show isInt k its[j] = true
    rw [h']
    simp [isInt]
  · obtain ⟨a, t', ha, h'⟩ := at2 m (by rw [List.size_toArray] at hm; exact hm)
    show isInt k (its[m]'(by rw [List.size_toArray] at hm; exact hm)) = false
    rw [h']
    have : a ≠ k := fun q => hno m hlt (by rw [ha, q])
    simp [isInt, this]
  · exact ⟨.int (j : Int), H, I.tok _, ⟨_, rfl⟩, q j hj⟩
theorem idxC {X : Cx} (K : PySem.W.Frag) {o e : Expr} {to te : TE} {apos cpos : Pos} (ho : PE X o to) (he : PE X e te) (h : autoParam (X.K = K) au0_._auto_1)
    (hbase : autoParam (attributeBase o "index" X.env (eval o X.env) = eval o X.env) au0_._auto_1)
    (hfew : autoParam (((backTo cpos (starEach (e :: []) X.env)).all (fun x => !x.1) && (backToKw cpos (keywordEach [] X.env)).all (fun x => x.1.isSome)
      && decide ((e :: ([] : List Expr)).length + ([] : List Keyword).length + (if ([] : List Keyword).isEmpty then 0 else 1) < 30)) = true) au0_._auto_1)
    (hline : autoParam ((apos.endLine == cpos.line) = true) au0_._auto_1) (hs : autoParam (starEach (e :: []) X.env = (false, eval e X.env) :: starEach [] X.env) au0_._auto_1) (hplain : autoParam ((backTo cpos (starEach [] X.env)).any (·.1) = false) au0_._auto_1) :
    PE X (.Call (.Attribute o "index" apos) [e] [] cpos) (tBM K "list" rIndex to (tCons te tNil)) :=
  h ▸ pe_bm PySem.F.plainAttrs_list PySem.F.slot_list_index PySem.F.type_list_index mt_index ho (pa_cons he pa_nil hs) hbase hfew hline hs hplain
theorem r_idx {p : Addr} {ns : List Int} {k : Int} {H : Hp} {Q : VK} (h : H p = some (.lst (ns.map V.int))) (hl : ns.length ≤ 1000) (hk : k ∈ ns) (q : ∀ j : Nat, ns[j]? = some k → Q (.int (j : Int)) H) : rIndex (.ref p) [.int k] H Q := ⟨p, ns, k, rfl, rfl, h, hl, hk, q⟩
noncomputable def tLink (r : R2) (t : TE) (rest : V → TE) (y : V) : TE := fun σ H Q => t σ H fun u H2 => r y u H2 fun z H3 => ∃ k, z = .bl k ∧ (if k = true then rest u σ H3 Q else Q (.bl false) H3)
noncomputable def tEnd (r : R2) (t : TE) (y : V) : TE := fun σ H Q => t σ H fun u H2 => r y u H2 Q
theorem r_link {r : R2} {t : TE} {rest : V → TE} {y : V} {σ : L2.St} {H : Hp} {Q : VK} (h : t σ H fun u H2 => r y u H2 fun z H3 => ∃ k, z = .bl k ∧ (if k = true then rest u σ H3 Q else Q (.bl false) H3)) : tLink r t rest y σ H Q := h
theorem r_end {r : R2} {t : TE} {y : V} {σ : L2.St} {H : Hp} {Q : VK} (h : t σ H fun u H2 => r y u H2 Q) : tEnd r t y σ H Q := h
end My
namespace Jd
open PySem PySem.Spec PyProof.Rows L2 Mth
theorem idxC {X : Cx} (K : PySem.W.Frag) {o e : Expr} {to te : TE} {apos cpos : Pos} (ho : QE X o to) (he : QE X e te) (h : autoParam (X.K = K) au0_._auto_1)
    (hbase : autoParam (attributeBase o "index" X.env (eval o X.env) = eval o X.env) au0_._auto_1)
    (hfew : autoParam (((backTo cpos (starEach (e :: []) X.env)).all (fun x => !x.1) && (backToKw cpos (keywordEach [] X.env)).all (fun x => x.1.isSome)
      && decide ((e :: ([] : List Expr)).length + ([] : List Keyword).length + (if ([] : List Keyword).isEmpty then 0 else 1) < 30)) = true) au0_._auto_1)
    (hline : autoParam ((apos.endLine == cpos.line) = true) au0_._auto_1) (hs : autoParam (starEach (e :: []) X.env = (false, eval e X.env) :: starEach [] X.env) au0_._auto_1) (hplain : autoParam ((backTo cpos (starEach [] X.env)).any (·.1) = false) au0_._auto_1) :
    QE X (.Call (.Attribute o "index" apos) [e] [] cpos) (tBM K "list" My.rIndex to (tCons te tNil)) := ⟨My.idxC K ho.h he.h h hbase hfew hline hs hplain⟩
end Jd

namespace My
open PySem PySem.Spec PyProof.Rows L2 Mth
section
variable {X : Cx} {a b : Expr} {ta : TA} {p pos : Pos} {elts : List Expr} {kt : Nat} {tpos : Pos}
end
section
variable {σ : L2.St} {H : Hp} {K : PySem.W.Frag}
end
section
variable {n : Nat} {cap : List Nat} {g : TG} {tt : TT} {te : TE} {σ : L2.St} {H : Hp} {Q : VK} {K : PySem.W.Frag}
end
end My
namespace Jd
open PySem PySem.Spec PyProof.Rows L2 My
end Jd

namespace My
open PySem PySem.Spec PyProof.Rows L2 Mth
noncomputable def Fx (K : PySem.W.Frag) (x : Str) (st : Stmt) : Prop := ∃ (f : Addr) (fd : FuncData), PySem.W.nsIn K mainGlobals x = some (some (.ref f)) ∧ Fun K x x st f fd
noncomputable def Fm (K : PySem.W.Frag) (C : Addr) (m q : Str) (st : Stmt) : Prop := ∃ (f : Addr) (fd : FuncData), PySem.W.findIn K (.ref C) m = some (some (.ref f)) ∧ PySem.W.isFn K (.ref f) = true ∧ Fun K m q st f fd
section
variable {K : PySem.W.Frag} {x m q : Str} {st : Stmt} {f C : Addr} {oc : Value} {od an : Option Addr} {osl : Array (Option Value)} {kV doc pm cdv ct : Value}
theorem fx_mk (a : PySem.W.nsIn K mainGlobals x = some (some (.ref f))) (l : K.lookup f = some ⟨oc, od, .func (PySem.W.fnOf x x (defArgs st) (defBody st) (defScope st) .none kV doc pm an cdv ct), osl⟩) (c : PySem.W.codeIn K cdv x = true) (k : PySem.W.keepIn K (.ref f) = true) : Fx K x st := ⟨f, _, a, fun_mk l c k⟩
theorem fm_mk (a : PySem.W.findIn K (.ref C) m = some (some (.ref f))) (i : PySem.W.isFn K (.ref f) = true) (l : K.lookup f = some ⟨oc, od, .func (PySem.W.fnOf m q (defArgs st) (defBody st) (defScope st) .none kV doc pm an cdv ct), osl⟩) (c : PySem.W.codeIn K cdv q = true) (k : PySem.W.keepIn K (.ref f) = true) : Fm K C m q st := ⟨f, _, a, i, fun_mk l c k⟩
end
section
variable (P : Program) (w : World) (base : Heap) {K : PySem.W.Frag} {mg : Str → Option Value} {h : Heap} {k : Nat} {x m q : Str} {ps : List Str} {sp : Sp} {st : Stmt} {f C : Addr} {fd : FuncData}
theorem dnm (X : K.In h) (G : h.Ns mainGlobals mg) (a : PySem.W.nsIn K mainGlobals x = some (some (.ref f))) (F : Fun K x x st f fd) (ok : FnOk P w K mg base CX0 k f fd ps sp) (b : Binds K fd ps []) : Dn P w K mg base k x ps sp := dn_mk F ok (PySem.W.mg_of X G a) b
theorem dmm (a : PySem.W.findIn K (.ref C) m = some (some (.ref f))) (i : PySem.W.isFn K (.ref f) = true) (F : Fun K m q st f fd) (ok : FnOk P w K mg base CX0 k f fd ps sp) (b : Binds K fd ps []) : Dm P w K mg base k C m ps sp := ⟨f, fd, ok, ⟨a, i, F.kp⟩, b⟩
end
end My

local macro_rules | `(tactic| walk_at "v") => `(tactic| repeat (first
  | with_reducible refine My.r_seq ?_
  | with_reducible refine My.r_set ?_
  | with_reducible refine My.r_ret ?_
  | with_reducible refine My.r_drop ?_
  | with_reducible refine My.r_if ?_
  | with_reducible refine My.r_next ?_
  | with_reducible refine My.r_cont ?_
  | with_reducible refine My.r_break ?_
  | with_reducible refine My.r_chain ?_
  | with_reducible refine My.r_chain4 ?_
  | with_reducible refine My.r_link ?_
  | with_reducible refine My.r_end ?_
  | with_reducible refine My.r_fld ?_
  | with_reducible refine My.r_sfld ?_
  | with_reducible refine My.r_meth ?_
  | with_reducible refine My.r_make ?_
  | ((with_reducible refine' My.r_var ?e1 ?_); (case e1 => rfl))
  | with_reducible refine My.r_c ?_
  | with_reducible refine My.r_op ?_
  | with_reducible refine My.r_un ?_
  | with_reducible refine My.r_I0 ?_
  | with_reducible refine My.r_U ?_
  | with_reducible refine My.r_test ?_
  | with_reducible refine My.r_B ?_
  | with_reducible refine My.r_bl ?_
  | with_reducible refine My.r_cb ?_
  | with_reducible refine My.r_cons ?_
  | with_reducible refine My.r_nil ?_
  | with_reducible refine My.r_tup ?_
  | with_reducible refine My.r_lst ?_
  | with_reducible refine My.r_call ?_
  | with_reducible refine My.r_try ?_
  | with_reducible refine My.r_tryAs ?_
  | with_reducible refine My.r_callX ?_
  | with_reducible refine My.r_raise ?_
  | with_reducible refine My.r_par ?_
  | with_reducible refine My.r_g ?_
  | with_reducible refine My.r_absC ?_
  | with_reducible refine My.r_bits ?_
  | with_reducible refine My.r_comp ?_
  | with_reducible refine My.r_yes ?_
  | with_reducible refine My.r_gsub ?_
  | with_reducible refine My.r_rev ?_
  | with_reducible refine My.r_max ?_
  | with_reducible refine My.r_min ?_
  | with_reducible refine My.r_two ?_
  | with_reducible refine My.r_bm ?_
  | ((with_reducible refine My.r_I ?e7 ?_); (case e7 => first | decide | assumption | exact ⟨by decide, by decide, by decide⟩ | (show (0 : Int) < _; first | decide | omega) | exact My.mulR (by decide) (by decide) | exact My.mulL (by decide) (by decide)))
  | with_reducible refine My.r_not ?_
  | with_reducible refine My.r_and ?_
  | with_reducible refine My.r_or ?_
  | with_reducible refine My.r_andV ?_
  | with_reducible refine My.r_orV ?_
  | with_reducible refine My.r_notV ?_
  | with_reducible refine My.r_ife ?_
  | ((with_reducible refine My.r_eq ?e2 ?_); (case e2 => rfl))
  | ((with_reducible refine My.r_ne ?e3 ?_); (case e3 => rfl))
  | ((with_reducible refine' My.r_t0 ?e4 ?_); (case e4 => assumption))
  | ((with_reducible refine' My.r_t1 ?e5 ?_); (case e5 => assumption))
  | ((with_reducible refine' My.r_t2 ?e6 ?_); (case e6 => assumption))
  | ((with_reducible refine' My.r_t3 ?e8 ?_); (case e8 => assumption))))
local macro_rules | `(tactic| walk_at "o") => `(tactic| first
  | assumption
  | exact Nat.le_of_lt (by assumption)
  | exact Nat.lt_trans (by assumption) (by assumption)
  | exact Nat.lt_of_lt_of_le (by assumption) (by assumption)
  | exact Nat.le_trans (by assumption) (by assumption)
  | exact Int.le_of_lt (by assumption)
  | exact Int.ne_of_gt (by assumption)
  | exact Int.ne_of_lt (by assumption)
  | exact Int.natCast_nonneg _
  | lia
  | omega)
local macro_rules | `(tactic| walk_at "fx") => `(tactic| (refine' My.fx_mk ?a ?l ?c ?k; (case a => k_is); (case l => k_is); (case c => k_is); (case k => k_is)))
local macro_rules | `(tactic| walk_at "fm") => `(tactic| (refine' My.fm_mk ?a ?i ?l ?c ?k; (case a => k_is); (case i => k_is); (case l => k_is); (case c => k_is); (case k => k_is)))
local macro_rules | `(tactic| walk_at "fz") => `(tactic| first | walk_at "fx" | walk_at "fm" | k_is | k_exc | kts_exm)
--@without 02x_exc.lean 02y_excas.lean 02h_rev.lean 02i_revit.lean
namespace Lw
open PySem L2 Mth My
noncomputable def top (i : Nat) : Stmt := PySem.Challenge.pw_lath_k42_links.main.body.getD i (.Pass ⟨0, 0, 0, 0⟩)
noncomputable abbrev s_law_cell : Stmt := top 32
noncomputable abbrev s_law_mix : Stmt := top 33
noncomputable abbrev s_law_row : Stmt := top 34
noncomputable abbrev s_law_ratio : Stmt := top 35
noncomputable abbrev s_law_is_ratio : Stmt := top 40
noncomputable abbrev s_plain_divisor : Stmt := top 5
noncomputable abbrev s_steps_of_heads : Stmt := top 6
noncomputable abbrev s_divisor : Stmt := top 7
noncomputable abbrev s_ratio : Stmt := top 8
noncomputable abbrev s_reduced : Stmt := top 9
noncomputable abbrev s_loose_plus : Stmt := top 10
noncomputable abbrev s_loose_minus : Stmt := top 11
noncomputable abbrev s_loose_times : Stmt := top 12
noncomputable abbrev s_plus : Stmt := top 13
noncomputable abbrev s_loose_slope : Stmt := top 19
noncomputable abbrev s_loose_along : Stmt := top 20
noncomputable abbrev s_loose_height : Stmt := top 21
noncomputable abbrev s_loose_off : Stmt := top 22
noncomputable abbrev s_line_by : Stmt := top 23
noncomputable abbrev s_order : Stmt := top 14
noncomputable abbrev s_law_shaped : Stmt := top 36
noncomputable abbrev s_law_times : Stmt := top 37
noncomputable abbrev s_law_picked : Stmt := top 38
noncomputable abbrev s_law_drawn : Stmt := top 39
noncomputable abbrev s_law_stand : Stmt := top 42
noncomputable abbrev s_greatest : Stmt := top 16
noncomputable abbrev s_smallest : Stmt := top 17
noncomputable abbrev s_gentlest_with : Stmt := top 25
noncomputable abbrev s_steepest_with : Stmt := top 26
noncomputable abbrev s_opposite : Stmt := top 15
noncomputable abbrev s_is_steeper : Stmt := top 28
noncomputable abbrev s_touched : Stmt := top 29
noncomputable abbrev s_Bend_init : Stmt := inClass (top 30) 0
noncomputable abbrev s_Bend_line_of : Stmt := inClass (top 30) 4
noncomputable abbrev s_Bend_ended_in_cap : Stmt := inClass (top 30) 2
noncomputable abbrev s_Bend_ended_in_cup : Stmt := inClass (top 30) 3
noncomputable abbrev s_Bend_take : Stmt := inClass (top 30) 1
noncomputable abbrev s_Bend_lowest_room : Stmt := inClass (top 30) 7
noncomputable abbrev s_Bend_highest_room : Stmt := inClass (top 30) 8
noncomputable abbrev s_Bend_room : Stmt := inClass (top 30) 6
noncomputable abbrev s_Bend_line_now : Stmt := inClass (top 30) 5
noncomputable abbrev s_law_sample : Stmt := top 41
noncomputable abbrev s_law_low : Stmt := top 43
noncomputable abbrev s_law_high : Stmt := top 44
noncomputable abbrev s_law_over : Stmt := top 46
noncomputable abbrev s_law_three : Stmt := top 48
noncomputable abbrev s_law_line : Stmt := top 45
noncomputable abbrev s_law_is_line : Stmt := top 47
noncomputable abbrev s_law_end : Stmt := top 49
noncomputable abbrev s_law_rooms : Stmt := top 50
noncomputable abbrev s_law_taken : Stmt := top 51
noncomputable abbrev s_law_step : Stmt := top 52
noncomputable abbrev s_law_now : Stmt := top 53
noncomputable abbrev s_law : Stmt := top 54
noncomputable def spCell (K : PySem.W.Frag) : Sp := fun vs H Q _ => ∃ (a : Addr) (ns : List Int) (i : Int), vs = [.ref a, .int i] ∧ SqL K H a (ns.map V.int) ∧ 0 ≤ i ∧ i < 1000 ∧ ∀ (c : Int) (H' : Hp), Same H H' → Q (.int c) H'
noncomputable def spMix : Sp := fun vs H Q _ => ∃ (c k : Int), vs = [.int c, .int k] ∧ 0 ≤ k ∧ k < 1000 ∧ ∀ z : Int, Q (.int z) H
noncomputable def spRow (K : PySem.W.Frag) : Sp := fun vs H Q _ => ∃ (a : Addr) (ns : List Int) (i : Int) (l : Addr) (zs : List Int), vs = [.ref a, .int i, .ref l] ∧ SqL K H a (ns.map V.int) ∧ 0 ≤ i ∧ i < 900 ∧ H l = some (.lst (zs.map V.int)) ∧ zs.length ≤ 900 ∧ (∀ z ∈ zs, 0 < z ∧ z < 2 ^ 60) ∧
  ∀ (p : Addr) (xs : List Int) (H' : Hp), Same H H' → H p = none → H' p = some (.lst (xs.map V.int)) → xs.length = zs.length → (∀ (j : Nat) (x z : Int), xs[j]? = some x → zs[j]? = some z → 0 ≤ x ∧ x < z) → Q (.ref p) H'
noncomputable def spRatio : Sp := fun vs H Q _ => ∃ (t b : Int), vs = [.int t, .int b] ∧ 0 < b ∧ Sz 8000 b ∧ ∀ (p : Addr) (t' b' : Int) (H' : Hp), Same H H' → H' p = some (.tup [.int t', .int b']) → Low t b t' b' → Q (.ref p) H'
noncomputable def spIs : Sp := fun vs H Q _ => ∃ (p : Addr) (a b : Int), vs = [.ref p] ∧ H p = some (.tup [.int a, .int b]) ∧ Sz 8000 b ∧ ∀ (r : Bool) (H' : Hp), Same H H' → (r = true ↔ 1 ≤ b ∧ Int.gcd a b = 1) → Q (.bl r) H'
structure Txt (mg : Str → Option Value) : Prop where
  len_ : mg "len" = none
  abs_ : mg "abs" = none
  range : mg "range" = none
  isinstance_ : mg "isinstance" = none
  int_ : mg "int" = none
  bool_ : mg "bool" = none
  tuple_ : mg "tuple" = none
  list_ : mg "list" = none
  max_ : mg "max" = none
  min_ : mg "min" = none
  enumerate_ : mg "enumerate" = none
  zip_ : mg "zip" = none
  all_ : mg "all" = none
  any_ : mg "any" = none
  sum_ : mg "sum" = none
  sorted_ : mg "sorted" = none
  reversed_ : mg "reversed" = none
  str_ : mg "str" = none
theorem ints_at {ns : List Int} {i : Int} (h0 : 0 ≤ i) (h : i < (ns.length : Int)) : ∃ v : Int, atI (ns.map V.int) i = some (.int v) := by
  have hk : i.toNat < ns.length := by walk_at "o"
  exact ⟨ns[i.toNat], at_ints (List.getElem?_eq_getElem hk) (by walk_at "o")⟩
theorem cut_int {ns : List Int} {lo hi : Option Int} {i : Nat} {y : V} (h : (cutV (ns.map V.int) lo hi)[i]? = some y) : ∃ m : Int, y = .int m := by
  have hm : y ∈ cutV (ns.map V.int) lo hi := List.mem_of_getElem? h
  unfold cutV at hm
  obtain ⟨m, _, e⟩ := List.mem_map.mp (List.mem_of_mem_drop (List.mem_of_mem_take hm))
  exact ⟨m, e.symm⟩
theorem mcast (x y : Nat) : ((x : Int) % (y : Int)) = ((x % y : Nat) : Int) := (Int.natCast_emod x y).symm
theorem abs_cast (t : Int) : (if t < 0 then -t else t) = (t.natAbs : Int) := by split <;> walk_at "o"
noncomputable def cellN (i : Nat) (σ : St) : Nat := match σ[i]? with | some (some (V.int n)) => n.toNat | _ => 0
noncomputable def third (σ : St) : Nat := match σ[3]? with | some (some (V.int n)) => n.toNat | _ => 0
section
variable {P : Program} {w : World} {K : PySem.W.Frag} {mg : Str → Option Value} {base : Heap} {f : Addr} {fd : FuncData}
theorem sc_law_cell : FnScope ["_law_script", "_law_place", "_law_seed", "_law_cell_here"] ["_law_script", "_law_place"] (defScope s_law_cell) := ⟨rfl, rfl, rfl, by decide +kernel, rfl, by decide +kernel, by decide +kernel⟩
theorem ok_law_cell (F : Fun K "_law_cell" "_law_cell" s_law_cell f fd) (T : Txt mg) : FnOk P w K mg base CX0 1 f fd ["_law_script", "_law_place"] (spCell K) := by
  refine F.ok sc_law_cell (fun vs H Q E h => ?_) (fun cdv A outer s H vs Q E hr h => ?_)
  · obtain ⟨a, ns, i, rfl, _⟩ := h
    rfl
  obtain ⟨a, ns, i, rfl, hS, h0, h1, k⟩ := h
  refine Jd.go ⟨_, (Jd.pss_cons (Jd.ps_if (Jd.pt_cmpR op_lt (Jd.pv 1) (Jd.pe_callB (lenC K) rfl T.len_ PySem.boot_len (Jd.pa_cons (Jd.pv 0) Jd.pa_nil st_N) (he := st_N) (hpl := any0)) (nomark _))
      (Jd.pss_one (Jd.ps_ret (Jd.pe_ix (ixL K) (Jd.pv 0) (Jd.pv 1) (fun _ _ => rfl))))
      Jd.pss_nil)
      (Jd.pss_cons (Jd.ps_set (i := 2) sc_law_cell.nd rfl (Or.inl rfl) Jd.pe_int (hs := sw_C))
      (Jd.pss_cons (Jd.ps_for PassesOwn.never rfl (Jd.piL K (Jd.pe_slice (slL K) (Jd.pv 0) Jd.po_none (Jd.po_some Jd.pe_int))) (Jd.pg_name (i := 3) sc_law_cell.nd rfl (Or.inl rfl))
      (Jd.pss_one (Jd.ps_set (i := 2) sc_law_cell.nd rfl (Or.inl rfl) (Jd.pe_op op_mod (Jd.pe_op op_add (Jd.pe_op op_add (Jd.pe_op op_mulB (Jd.pv 2) Jd.pe_int) (Jd.pe_op op_mod (Jd.pv 3) Jd.pe_int)) Jd.pe_int) Jd.pe_int) (hs := sw_B))))
      (Jd.pss_one (Jd.ps_ret (Jd.pe_op op_mod (Jd.pe_op op_add (Jd.pv 2) (Jd.pe_op op_mulB Jd.pe_int (Jd.pv 1))) Jd.pe_int)))))), ?_⟩
  walk_at "v"
  refine r_len (.inl hS) ?_
  walk_at "v"
  refine ite2 (fun c => ?_) (fun c => ?_)
  · have c' := of_decide_eq_true c
    rw [List.length_map] at c'
    obtain ⟨v, hv⟩ := ints_at (ns := ns) h0 c'
    walk_at "v"
    exact ⟨a, _, i, _, rfl, rfl, hS, hv, k v H (Same.refl _)⟩
  · walk_at "v"
    refine ⟨_, rfl, _, rfl, a, _, rfl, hS, fun p hp => ?_⟩
    have s1 : Same H (upd H p (.lst (cutV (ns.map V.int) none (some 63)))) := same_new hp _
    have e1 : upd H p (.lst (cutV (ns.map V.int) none (some 63))) p = some (.lst (cutV (ns.map V.int) none (some 63))) := upd_same
    refine ⟨p, rfl, ⟨_, SqL.of e1⟩, for_list (K := K) (a := p) (xs := cutV (ns.map V.int) none (some 63)) (fun _ σ H2 => ∃ (z : Int) (v : Option V), σ = [some (.ref a), some (.int i), some (.int z), v] ∧ 0 ≤ z ∧ z < 2147483647 ∧ Same (upd H p (.lst (cutV (ns.map V.int) none (some 63)))) H2)
      ⟨5, none, rfl, by decide, by decide, Same.refl _⟩ (fun _ σ H2 _ ⟨_, _, _, _, _, s2⟩ => SqL.of (s2 _ _ e1)) ?_ ?_⟩
    · rintro j y σ H2 hj ⟨z, v, rfl, z0, z1, s2⟩
      obtain ⟨m, rfl⟩ := cut_int hj
      walk_at "v"
      exact ⟨_, _, rfl, Int.emod_nonneg _ (by decide), Int.emod_lt_of_pos _ (by decide), s2⟩
    · rintro σ H2 ⟨z, v, rfl, z0, z1, s2⟩
      walk_at "v"
      exact k _ _ (s1.trans s2)
theorem sc_law_mix : FnScope ["_law_cell_here", "_law_k", "_law_one", "_law_two"] ["_law_cell_here", "_law_k"] (defScope s_law_mix) := ⟨rfl, rfl, rfl, by decide +kernel, rfl, by decide +kernel, by decide +kernel⟩
theorem ok_law_mix (F : Fun K "_law_mix" "_law_mix" s_law_mix f fd) : FnOk P w K mg base CX0 1 f fd ["_law_cell_here", "_law_k"] spMix := by
  refine F.ok sc_law_mix (fun vs H Q E h => ?_) (fun cdv A outer s H vs Q E hr h => ?_)
  · obtain ⟨c, k, rfl, _⟩ := h
    rfl
  obtain ⟨c, j, rfl, h0, h1, k⟩ := h
  refine Jd.go ⟨_, (Jd.pss_cons (Jd.ps_set (i := 2) sc_law_mix.nd rfl (Or.inl rfl) (Jd.pe_op op_mod (Jd.pe_op op_pow (Jd.pe_op op_add (Jd.pe_op op_add (Jd.pe_op op_mod (Jd.pv 0) Jd.pe_int) (Jd.pe_op op_mulB Jd.pe_int (Jd.pv 1))) Jd.pe_int) Jd.pe_int) Jd.pe_int) (hs := sw_B))
      (Jd.pss_cons (Jd.ps_set (i := 3) sc_law_mix.nd rfl (Or.inl rfl) (Jd.pe_op op_mod (Jd.pe_op op_add (Jd.pe_op op_add (Jd.pe_op op_mulB (Jd.pv 2) Jd.pe_int) (Jd.pe_op op_mulB (Jd.pe_op op_mulB Jd.pe_int (Jd.pv 1)) (Jd.pv 1))) Jd.pe_int) Jd.pe_int) (hs := sw_B))
      (Jd.pss_one (Jd.ps_ret (Jd.pe_op op_fdivB (Jd.pv 3) Jd.pe_int))))), ?_⟩
  have b0 : 0 ≤ c % 2147483629 := Int.emod_nonneg _ (by decide)
  have b1 : c % 2147483629 < 2147483629 := Int.emod_lt_of_pos _ (by decide)
  walk_at "v"
  refine r_I (show CPow _ _ from ⟨by decide, by decide, by walk_at "o"⟩) ?_
  walk_at "v"
  refine r_I (mulR (by walk_at "o") (by walk_at "o")) ?_
  walk_at "v"
  refine r_I (show CDivB _ _ from ⟨by decide, by decide +kernel⟩) ?_
  exact k _
theorem sc_law_row : FnScope ["_law_script", "_law_place", "_law_sizes", "_law_cell_here", "_law_left", "_law_some", "_law_k", "_law_other"] ["_law_script", "_law_place", "_law_sizes"] (defScope s_law_row) := ⟨rfl, rfl, rfl, by decide +kernel, rfl, by decide +kernel, by decide +kernel⟩
theorem ok_law_row (F : Fun K "_law_row" "_law_row" s_law_row f fd) (T : Txt mg) (D_law_cell : Dn P w K mg base 1 "_law_cell" ["_law_script", "_law_place"] (spCell K)) (D_law_mix : Dn P w K mg base 1 "_law_mix" ["_law_cell_here", "_law_k"] spMix) :
    FnOk P w K mg base CX0 3 f fd ["_law_script", "_law_place", "_law_sizes"] (spRow K) := by
  refine F.ok sc_law_row (fun vs H Q E h => ?_) (fun cdv A outer s H vs Q E hr h => ?_)
  · obtain ⟨a, ns, i, l, zs, rfl, _⟩ := h
    rfl
  obtain ⟨a, ns, i, l, zs, rfl, hS, h0, h1, hl, hz, hzs, k⟩ := h
  refine Jd.go ⟨_, (Jd.pss_cons (Jd.ps_set (i := 3) sc_law_row.nd rfl (Or.inl rfl) (Jd.pe_dn D_law_cell (hr.mono (by decide)) rfl (Jd.pa_cons (Jd.pv 0) (Jd.pa_cons (Jd.pv 1) Jd.pa_nil st_N) st_N) (he := st_N) (hpl := (anyc st_N any0))) (hs := sw_K))
      (Jd.pss_cons (Jd.ps_set (i := 4) sc_law_row.nd rfl (Or.inl rfl) (Jd.pv 3) (hs := sw_N))
      (Jd.pss_cons (Jd.ps_set (i := 5) sc_law_row.nd rfl (Or.inl rfl) (Jd.pe_lst Jd.pa_nil) (hs := sw_L))
      (Jd.pss_cons (Jd.ps_for PassesOwn.never rfl (Jd.pi_range1 rfl T.range (Jd.pa_cons (Jd.pe_callB (lenC K) rfl T.len_ PySem.boot_len (Jd.pa_cons (Jd.pv 2) Jd.pa_nil st_N) (he := st_N) (hpl := any0)) Jd.pa_nil st_K)) (Jd.pg_name (i := 6) sc_law_row.nd rfl (Or.inl rfl))
      (Jd.pss_one (Jd.ps_if (Jd.pt_cmpR op_lt (Jd.pv 3) (Jd.pe_op op_pow Jd.pe_int Jd.pe_int) (nomark _))
      (Jd.pss_one (Jd.ps_expr (Jd.appC K (Jd.pv 5) (Jd.pe_op op_mod (Jd.pe_dn D_law_mix (hr.mono (by decide)) rfl (Jd.pa_cons (Jd.pv 3) (Jd.pa_cons (Jd.pv 6) Jd.pa_nil st_N) st_N) (he := st_N) (hpl := (anyc st_N any0))) (Jd.pe_ix (ixL K) (Jd.pv 2) (Jd.pv 6) (fun _ _ => rfl)))) (hs := sw_K)))
      (Jd.pss_one (Jd.ps_if (Jd.pt_cmpR op_gt (Jd.pv 4) Jd.pe_int (nomark _))
      (Jd.pss_cons (Jd.ps_expr (Jd.appC K (Jd.pv 5) (Jd.pe_op op_mod (Jd.pv 4) (Jd.pe_ix (ixL K) (Jd.pv 2) (Jd.pv 6) (fun _ _ => rfl)))) (hs := sw_K))
      (Jd.pss_one (Jd.ps_set (i := 4) sc_law_row.nd rfl (Or.inl rfl) (Jd.pe_op op_fdivB (Jd.pv 4) (Jd.pe_ix (ixL K) (Jd.pv 2) (Jd.pv 6) (fun _ _ => rfl))) (hs := sw_B))))
      (Jd.pss_cons (Jd.ps_set (i := 7) sc_law_row.nd rfl (Or.inl rfl) (Jd.pe_dn D_law_cell (hr.mono (by decide)) rfl (Jd.pa_cons (Jd.pv 0) (Jd.pa_cons (Jd.pe_op op_mod (Jd.pe_op op_add (Jd.pe_op op_add (Jd.pv 1) Jd.pe_int) (Jd.pv 6)) Jd.pe_int) Jd.pa_nil st_B) st_N) (he := st_N) (hpl := (anyc st_B any0))) (hs := sw_K))
      (Jd.pss_one (Jd.ps_expr (Jd.appC K (Jd.pv 5) (Jd.pe_op op_mod (Jd.pe_dn D_law_mix (hr.mono (by decide)) rfl (Jd.pa_cons (Jd.pv 7) (Jd.pa_cons (Jd.pv 6) Jd.pa_nil st_N) st_N) (he := st_N) (hpl := (anyc st_N any0))) (Jd.pe_ix (ixL K) (Jd.pv 2) (Jd.pv 6) (fun _ _ => rfl)))) (hs := sw_K)))))))))
      (Jd.pss_one (Jd.ps_ret (Jd.pv 5))))))), ?_⟩
  walk_at "v"
  refine ⟨a, ns, i, rfl, hS, h0, by walk_at "o", fun c H1 s1 => ?_⟩
  walk_at "v"
  refine r_new (mk := .lst) (by simp) fun p H2 s2 n2 e2 => ?_
  walk_at "v"
  have hl2 : H2 l = some (.lst (zs.map V.int)) := s2 _ _ (s1 _ _ hl)
  refine ⟨_, rfl, l, _, rfl, .inl (SqL.of hl2), _, rfl, by lia, by rw [List.length_map]; lia, for_range (fun j σ H3 => ∃ (left : Int) (xs : List Int) (v6 v7 : Option V),
    σ = [some (.ref a), some (.int i), some (.ref l), some (.int c), some (.int left), some (.ref p), v6, v7] ∧ Same H1 H3 ∧ H3 p = some (.lst (xs.map V.int)) ∧ xs.length = j ∧ (∀ (j : Nat) (x z : Int), xs[j]? = some x → zs[j]? = some z → 0 ≤ x ∧ x < z)) ?_ ?_ ?_⟩
  · exact ⟨c, [], none, none, rfl, s2, e2, rfl, fun j x z e _ => by simp at e⟩
  · rintro j σ H3 hj ⟨left, xs, v6, v7, rfl, s3, e3, hx, hxs⟩
    have hj' : j < zs.length := by simpa using hj
    obtain ⟨z, ez⟩ : ∃ z, zs[j]? = some z := ⟨_, List.getElem?_eq_getElem hj'⟩
    obtain ⟨zp, zq⟩ := hzs z (List.mem_of_getElem? ez)
    have hl3 : H3 l = some (.lst (zs.map V.int)) := s3 _ _ (s1 _ _ hl)
    have ea : atI (zs.map V.int) (0 + (j : Int)) = some (.int z) := at_ints ez (by walk_at "o")
    have hS3 : SqL K H3 a (ns.map V.int) := (s1.trans s3).seq hS
    -- one more item
    have fin : ∀ (y left' : Int) (v6 v7 : Option V) (H4 : Hp), Same H3 H4 → H4 p = some (.lst (xs.map V.int)) → ∃ (left : Int) (xs' : List Int) (v6' v7' : Option V),
        [some (.ref a), some (.int i), some (.ref l), some (.int c), some (.int left'), some (.ref p), v6, v7] = [some (.ref a), some (.int i), some (.ref l), some (.int c), some (.int left), some (.ref p), v6', v7'] ∧
        Same H1 (upd H4 p (.lst (xs.map V.int ++ [.int (y % z)]))) ∧ upd H4 p (.lst (xs.map V.int ++ [.int (y % z)])) p = some (.lst (xs'.map V.int)) ∧ xs'.length = j + 1 ∧ (∀ (j : Nat) (x z : Int), xs'[j]? = some x → zs[j]? = some z → 0 ≤ x ∧ x < z) := by
      intro y left' v6 v7 H4 s4 e4
      refine ⟨left', xs ++ [y % z], v6, v7, rfl, same_at (s3.trans s4) n2, ?_, by rw [List.length_append, hx]; rfl, fun m x z' e1 e2 => ?_⟩
      · rw [upd_same, List.map_append]; rfl
      · by_cases hm : m < xs.length
        · rw [List.getElem?_append_left hm] at e1
          exact hxs m x z' e1 e2
        · have hm2 : m = j := by
            have := (List.getElem?_eq_some_iff.mp e1).1
            rw [List.length_append] at this
            simp at this
            walk_at "o"
          subst hm2
          rw [List.getElem?_append_right (by walk_at "o"), hx] at e1
          simp at e1
          rw [ez] at e2
          cases e2
          subst e1
          exact ⟨Int.emod_nonneg _ (by walk_at "o"), Int.emod_lt_of_pos _ zp⟩
    have small3 : (xs.map V.int).length < sizeLine := by rw [List.length_map]; exact small1000 (by walk_at "o")
    walk_at "v"
    refine ite2 (fun _ => ?_) (fun _ => ?_)
    · walk_at "v"
      refine ⟨.inl ⟨rfl, _, SqL.of e3⟩, ?_⟩
      walk_at "v"
      refine ⟨_, _, rfl, by walk_at "o", by walk_at "o", fun y => ?_⟩
      walk_at "v"
      refine r_l hl3 ea ?_
      refine r_I (show (0 : Int) < z from zp) ?_
      walk_at "v"
      refine r_app e3 small3 ?_
      exact fin y _ _ _ _ (Same.refl _) e3
    · walk_at "v"
      refine ite2 (fun _ => ?_) (fun _ => ?_)
      · walk_at "v"
        refine ⟨.inl ⟨rfl, _, SqL.of e3⟩, ?_⟩
        walk_at "v"
        refine r_l hl3 ea ?_
        refine r_I (show (0 : Int) < z from zp) ?_
        walk_at "v"
        refine r_app e3 small3 ?_
        walk_at "v"
        refine r_l (by rw [upd_ne (ne_of_none (s1 _ _ hl) n2)]; exact hl3) ea ?_
        refine r_I (show CDivB _ _ from ⟨by walk_at "o", Sz.log (m := 60) (Sz.of_lt (k := 2 ^ 60) (by walk_at "o") (Nat.le_refl _)) (by decide) (by decide)⟩) ?_
        exact fin left _ _ _ _ (Same.refl _) e3
      · walk_at "v"
        have q0 : 0 ≤ (i + 1 + (0 + (j : Int))) % 63 := Int.emod_nonneg _ (by decide)
        have q1 : (i + 1 + (0 + (j : Int))) % 63 < 63 := Int.emod_lt_of_pos _ (by decide)
        refine ⟨a, ns, _, rfl, hS3, q0, by walk_at "o", fun c2 H4 s4 => ?_⟩
        walk_at "v"
        refine ⟨.inl ⟨rfl, _, SqL.of (s4 _ _ e3)⟩, ?_⟩
        walk_at "v"
        refine ⟨_, _, rfl, by walk_at "o", by walk_at "o", fun y => ?_⟩
        walk_at "v"
        refine r_l (s4 _ _ hl3) ea ?_
        refine r_I (show (0 : Int) < z from zp) ?_
        walk_at "v"
        refine r_app (s4 _ _ e3) small3 ?_
        exact fin y _ _ _ _ s4 (s4 _ _ e3)
  · rintro σ H3 ⟨left, xs, v6, v7, rfl, s3, e3, hx, hxs⟩
    walk_at "v"
    exact k p xs H3 (s1.trans s3) (s1.free n2) e3 (by simpa using hx) hxs
theorem sc_law_ratio : FnScope ["_law_top", "_law_bottom", "_law_one", "_law_two"] ["_law_top", "_law_bottom"] (defScope s_law_ratio) := ⟨rfl, rfl, rfl, by decide +kernel, rfl, by decide +kernel, by decide +kernel⟩
theorem ok_law_ratio (F : Fun K "_law_ratio" "_law_ratio" s_law_ratio f fd) (T : Txt mg) : FnOk P w K mg base CX0 1 f fd ["_law_top", "_law_bottom"] spRatio := by
  refine F.ok sc_law_ratio (fun vs H Q E h => ?_) (fun cdv A outer s H vs Q E hr h => ?_)
  · obtain ⟨t, b, rfl, _⟩ := h
    rfl
  obtain ⟨t, b, rfl, hb, hz, k⟩ := h
  refine Jd.go ⟨_, (Jd.pss_cons (Jd.ps_par (i := 2) (j := 3) rfl sc_law_ratio.nd rfl rfl (by decide) rfl rfl (Jd.pa_cons (Jd.pe_callB absC rfl T.abs_ PyProof.Rows.boot_abs (Jd.pa_cons (Jd.pv 0) Jd.pa_nil st_N) (he := st_N) (hpl := any0)) (Jd.pa_cons (Jd.pv 1) Jd.pa_nil st_N) st_K) rfl)
      (Jd.pss_cons (Jd.ps_while PassesOwn.never (Jd.pt_cmpR op_gt (Jd.pv 3) Jd.pe_int (nomark _))
      (Jd.pss_one (Jd.ps_par (i := 2) (j := 3) rfl sc_law_ratio.nd rfl rfl (by decide) rfl rfl (Jd.pa_cons (Jd.pv 3) (Jd.pa_cons (Jd.pe_op op_mod (Jd.pv 2) (Jd.pv 3)) Jd.pa_nil st_B) st_N) rfl)))
      (Jd.pss_one (Jd.ps_ret (Jd.pe_tup (Jd.pa_cons (Jd.pe_op op_fdivB (Jd.pv 0) (Jd.pv 2)) (Jd.pa_cons (Jd.pe_op op_fdivB (Jd.pv 1) (Jd.pv 2)) Jd.pa_nil st_B) st_B)))))), ?_⟩
  walk_at "v"
  have hgb : Int.gcd t b ≤ b.natAbs := by
    have := Int.gcd_le_right (a := t) (b := b) (by walk_at "o")
    walk_at "o"
  refine while_by (fun σ H' => H' = H ∧ ∃ x y : Nat, σ = [some (.int t), some (.int b), some (.int x), some (.int y)] ∧ Nat.gcd x y = Int.gcd t b) (fun σ _ => third σ) ?_ ?_ ?_
  · refine ⟨rfl, t.natAbs, b.natAbs, ?_, rfl⟩
    rw [abs_cast]
    have e : b = ((b.natAbs : Nat) : Int) := by walk_at "o"
    rw [← e]
    rfl
  · rintro σ H' ⟨rfl, x, y, rfl, hg⟩
    walk_at "v"
    refine ite2 (fun c => ?_) (fun c => ?_)
    · have c' : (0 : Int) < (y : Int) := of_decide_eq_true c
      walk_at "v"
      refine ⟨⟨rfl, y, x % y, ?_, by rw [gcd_step]; exact hg⟩, ?_⟩
      · rw [← mcast]; rfl
      · show ((x : Int) % (y : Int)).toNat < (y : Int).toNat
        rw [mcast]
        have := Nat.mod_lt x (y := y) (by walk_at "o")
        walk_at "o"
    · have c' : ¬ (0 : Int) < (y : Int) := of_decide_eq_false (Bool.eq_false_iff.mpr c)
      have y0 : y = 0 := by walk_at "o"
      subst y0
      rw [Nat.gcd_zero_right] at hg
      subst hg
      have gp : 0 < Int.gcd t b := Int.gcd_pos_of_ne_zero_right t (by walk_at "o")
      have cd : CDivB t ((Int.gcd t b : Nat) : Int) := ⟨by walk_at "o", Sz.log (m := 8000) (Sz.of_le hz (by walk_at "o")) (by decide) (by decide)⟩
      walk_at "v"
      refine r_new (mk := .tup) (by simp) fun p H1 s1 n1 e1 => ?_
      exact k p _ _ H1 s1 e1 (low_pos hb)
  · intro σ H Q Q' h q
    obtain ⟨v, e, i, j, e1, e2, b, e3, q⟩ := q
    exact ⟨v, e, i, j, e1, e2, b, e3, h _ _ q⟩
theorem sc_law_is_ratio : FnScope ["_law_one", "_law_part"] ["_law_one"] (defScope s_law_is_ratio) := ⟨rfl, rfl, rfl, by decide +kernel, rfl, by decide +kernel, by decide +kernel⟩
theorem ok_law_is_ratio (F : Fun K "_law_is_ratio" "_law_is_ratio" s_law_is_ratio f fd) (T : Txt mg) (D_law_ratio : Dn P w K mg base 1 "_law_ratio" ["_law_top", "_law_bottom"] spRatio) : FnOk P w K mg base CX0 3 f fd ["_law_one"] spIs := by
  refine F.ok sc_law_is_ratio (fun vs H Q E h => ?_) (fun cdv A outer s H vs Q E hr h => ?_)
  · obtain ⟨p, a, b, rfl, _⟩ := h
    rfl
  obtain ⟨p, a, b, rfl, hp, hz, k⟩ := h
  have hu64 := hr.units
  refine Jd.go ⟨_, (Jd.pss_cons (Jd.ps_if (Jd.PWpt (Jd.pw_or (Jd.pt_not (Jd.pt_val (Jd.pe_callB (isiC K) rfl T.isinstance_ PyProof.Rows.boot_isinstance (Jd.pa_cons (Jd.pv 0) (Jd.pa_cons (Jd.pe_ty rfl T.tuple_ PyProof.Rows.boot_tuple) Jd.pa_nil st_N) st_N) (he := st_N) (hpl := (anyc st_N any0))))) (Jd.pw_or1 (Jd.pt_cmpR op_ne (Jd.pe_callB (lenC K) rfl T.len_ PySem.boot_len (Jd.pa_cons (Jd.pv 0) Jd.pa_nil st_N) (he := st_N) (hpl := any0)) Jd.pe_int (nomark _)))))
      (Jd.pss_one (Jd.ps_ret Jd.pe_bl))
      Jd.pss_nil)
      (Jd.pss_cons (Jd.ps_for PassesOwn.never rfl (Jd.piT K (Jd.pv 0)) (Jd.pg_name (i := 1) sc_law_is_ratio.nd rfl (Or.inl rfl))
      (Jd.pss_one (Jd.ps_if (Jd.PWpt (Jd.pw_or (Jd.pt_val (Jd.pe_callB (isiC K) rfl T.isinstance_ PyProof.Rows.boot_isinstance (Jd.pa_cons (Jd.pv 1) (Jd.pa_cons (Jd.pe_ty rfl T.bool_ PyProof.Rows.boot_bool) Jd.pa_nil st_N) st_N) (he := st_N) (hpl := (anyc st_N any0)))) (Jd.pw_or1 (Jd.pt_not (Jd.pt_val (Jd.pe_callB (isiC K) rfl T.isinstance_ PyProof.Rows.boot_isinstance (Jd.pa_cons (Jd.pv 1) (Jd.pa_cons (Jd.pe_ty rfl T.int_ PyProof.Rows.boot_int) Jd.pa_nil st_N) st_N) (he := st_N) (hpl := (anyc st_N any0))))))))
      (Jd.pss_one (Jd.ps_ret Jd.pe_bl))
      Jd.pss_nil)))
      (Jd.pss_one (Jd.ps_ret (Jd.pe_and (Jd.pe_cmpR op_ge (Jd.pe_ix (ixT K) (Jd.pv 0) Jd.pe_int (fun _ _ => rfl)) Jd.pe_int (nomark _)) (Jd.pe_one (Jd.pe_cmpR (op_eqD hu64) (Jd.pe_dn D_law_ratio (hr.mono (by decide)) rfl (Jd.pa_cons (Jd.pe_ix (ixT K) (Jd.pv 0) Jd.pe_int (fun _ _ => rfl)) (Jd.pa_cons (Jd.pe_ix (ixT K) (Jd.pv 0) Jd.pe_int (fun _ _ => rfl)) Jd.pa_nil st_S) st_S) (he := st_S) (hpl := (anyc st_S any0))) (Jd.pv 0) (nomark _)))))))), ?_⟩
  walk_at "v"
  refine r_isi (.tup hp) kit_tt ?_
  walk_at "v"
  refine iteF ?_
  walk_at "v"
  refine r_len (.inr (SqT.of hp)) ?_
  walk_at "v"
  refine iteF ?_
  walk_at "v"
  refine ⟨_, rfl, p, rfl, ⟨_, SqT.of hp⟩, for_tup (K := K) (a := p) (xs := [.int a, .int b]) (fun _ σ H2 => H2 = H ∧ ∃ v : Option V, σ = [some (.ref p), v]) ⟨rfl, none, rfl⟩ (fun _ σ H2 _ ⟨e, _⟩ => by subst e; exact SqT.of hp) ?_ ?_⟩
  · rintro j y σ H2 hj ⟨rfl, v, rfl⟩
    obtain ⟨m, rfl⟩ : ∃ m : Int, y = .int m := by
      have hm := List.mem_of_getElem? hj
      simp at hm
      rcases hm with h | h
      · exact ⟨_, h⟩
      · exact ⟨_, h⟩
    walk_at "v"
    refine r_isi (.int m) kit_ib ?_
    walk_at "v"
    refine iteF ?_
    walk_at "v"
    refine r_isi (.int m) kit_ii ?_
    walk_at "v"
    refine iteF ?_
    walk_at "v"
    exact ⟨rfl, _, rfl⟩
  · rintro σ H2 ⟨rfl, v, rfl⟩
    walk_at "v"
    refine ite2 (fun c => ?_) (fun c => ?_)
    · have c' : (1 : Int) ≤ b := of_decide_eq_true c
      walk_at "v"
      refine ⟨_, _, rfl, by walk_at "o", hz, fun p' t' b' H3 s3 e3 lo => ?_⟩
      walk_at "v"
      refine ⟨_, _, .tup e3 (.cons (.int _) (.cons (.int _) .nil)), .tup (s3 _ _ hp) (.cons (.int _) (.cons (.int _) .nil)), rfl, rfl, ?_⟩
      refine k _ H3 s3 ?_
      have e : PyData.eqv (.tuple [.int t', .int b']) (.tuple [.int a, .int b]) = (t' == a && (b' == b && true)) := rfl
      rw [e]
      constructor
      · intro q
        simp at q
        obtain ⟨rfl, rfl⟩ := q
        exact ⟨c', lo.co⟩
      · rintro ⟨_, q⟩
        obtain ⟨rfl, rfl⟩ := lo.self c' q
        simp
    · have c' : ¬ (1 : Int) ≤ b := of_decide_eq_false (Bool.eq_false_iff.mpr c)
      exact k false H2 (Same.refl _) ⟨fun q => absurd q (by decide), fun q => absurd q.1 c'⟩
end

noncomputable def QtAt (H : Hp) (p : Addr) (q : Rat) (n : Nat) : Prop := ∃ t b : Int, H p = some (.tup [.int t, .int b]) ∧ Qt t b q ∧ Sz n t ∧ Sz n b
noncomputable def FrAt (H : Hp) (p : Addr) (q : Rat) (n : Nat) : Prop := ∃ t b : Int, H p = some (.tup [.int t, .int b]) ∧ Fr t b q ∧ Sz n t ∧ Sz n b
noncomputable def SaAt (H : Hp) (p : Addr) (m : Int) (q : Rat) (n : Nat) : Prop := ∃ v : Addr, H p = some (.tup [.int m, .ref v]) ∧ FrAt H v q n ∧ Sz n m
noncomputable def LnAt (H : Hp) (p : Addr) (s h : Rat) (n : Nat) : Prop := ∃ a b : Addr, H p = some (.tup [.ref a, .ref b]) ∧ FrAt H a s n ∧ FrAt H b h n
section
variable {H H' : Hp} {p : Addr} {q h : Rat} {m n : Nat} {t : Int}
theorem FrAt.qt (f : FrAt H p q n) : QtAt H p q n := let ⟨t, b, e, f, z⟩ := f; ⟨t, b, e, f.qt, z⟩
theorem QtAt.mono (f : QtAt H p q m) (h : m ≤ n) : QtAt H p q n := let ⟨t, b, e, f, z1, z2⟩ := f; ⟨t, b, e, f, z1.mono h, z2.mono h⟩
theorem FrAt.mono (f : FrAt H p q m) (h : m ≤ n) : FrAt H p q n := let ⟨t, b, e, f, z1, z2⟩ := f; ⟨t, b, e, f, z1.mono h, z2.mono h⟩
theorem QtAt.up (f : QtAt H p q n) (s : Same H H') : QtAt H' p q n := let ⟨t, b, e, f⟩ := f; ⟨t, b, s _ _ e, f⟩
theorem FrAt.up (f : FrAt H p q n) (s : Same H H') : FrAt H' p q n := let ⟨t, b, e, f⟩ := f; ⟨t, b, s _ _ e, f⟩
theorem SaAt.up (f : SaAt H p t q n) (s : Same H H') : SaAt H' p t q n := let ⟨v, e, f, z⟩ := f; ⟨v, s _ _ e, f.up s, z⟩
theorem LnAt.up (f : LnAt H p q h n) (s : Same H H') : LnAt H' p q h n := let ⟨a, b, e, f, g⟩ := f; ⟨a, b, s _ _ e, f.up s, g.up s⟩
theorem FrAt.den (f : FrAt H p q n) : ∃ t b : Int, Den H (.ref p) (.tuple [.int t, .int b]) ∧ Fr t b q := let ⟨t, b, e, f, _⟩ := f; ⟨t, b, .tup e (.cons (.int _) (.cons (.int _) .nil)), f⟩
end
noncomputable def spPlain : Sp := fun vs H Q _ => ∃ (m n : Int), vs = [.int m, .int n] ∧ 0 ≤ m ∧ 0 ≤ n ∧ Q (.int (Int.gcd m n : Nat)) H
noncomputable def spSteps : Sp := fun vs H Q _ => ∃ (m n : Int), vs = [.int m, .int n] ∧ 0 ≤ n ∧ n ≤ m ∧ m < 115792089237316195423570985008687907853269984665640564039457584007913129639936 ∧
  ∀ (p : Addr) (x0 y0 x1 y1 high low : Int) (H' : Hp), Same H H' → H' p = some (.tup [.int x0, .int y0, .int x1, .int y1]) → Steps m n high low x0 y0 x1 y1 → low ≤ 340282366920938463463374607431768211456 → Q (.ref p) H'
noncomputable def spDivisor : Sp := fun vs H Q _ => ∃ (m n : Int), vs = [.int m, .int n] ∧ Sz 8000 m ∧ Sz 8000 n ∧ ∀ H', Same H H' → Q (.int (Int.gcd m n : Nat)) H'
noncomputable def spRatioP : Sp := fun vs H Q _ => ∃ (t b : Int), vs = [.int t, .int b] ∧ b ≠ 0 ∧ Sz 8000 t ∧ Sz 8000 b ∧ ∀ (p : Addr) (t' b' : Int) (H' : Hp), Same H H' → H' p = some (.tup [.int t', .int b']) → Low t b t' b' → Q (.ref p) H'
noncomputable def spReduced : Sp := fun vs H Q _ => ∃ (p : Addr) (q : Rat) (n : Nat), vs = [.ref p] ∧ QtAt H p q n ∧ n ≤ 8000 ∧ ∀ (r : Addr) (H' : Hp), Same H H' → FrAt H' r q n → Q (.ref r) H'
noncomputable def spTwo (f : Rat → Rat → Rat) (k : Nat) : Sp := fun vs H Q _ => ∃ (p r : Addr) (q q' : Rat) (m n : Nat), vs = [.ref p, .ref r] ∧ QtAt H p q m ∧ QtAt H r q' n ∧ m + n ≤ 100000 ∧ ∀ (s : Addr) (H' : Hp), Same H H' → QtAt H' s (f q q') (m + n + k) → Q (.ref s) H'
noncomputable def spTwoF (f : Rat → Rat → Rat) (k : Nat) : Sp := fun vs H Q _ => ∃ (p r : Addr) (q q' : Rat) (m n : Nat), vs = [.ref p, .ref r] ∧ QtAt H p q m ∧ QtAt H r q' n ∧ m + n + k ≤ 8000 ∧ ∀ (s : Addr) (H' : Hp), Same H H' → FrAt H' s (f q q') (m + n + k) → Q (.ref s) H'
noncomputable def spLslope : Sp := fun vs H Q _ => ∃ (p r : Addr) (t t' : Int) (q q' : Rat) (n : Nat), vs = [.ref p, .ref r] ∧ SaAt H p t q n ∧ SaAt H r t' q' n ∧ t ≠ t' ∧ n ≤ 2000 ∧ ∀ (s : Addr) (H' : Hp), Same H H' → QtAt H' s ((q' - q) / ((t' - t : Int) : Rat)) (4 * n + 3) → Q (.ref s) H'
noncomputable def spLalong : Sp := fun vs H Q _ => ∃ (p r : Addr) (s q : Rat) (t u : Int) (m n : Nat), vs = [.ref p, .ref r, .int u] ∧ QtAt H p s m ∧ SaAt H r t q n ∧ Sz n u ∧ m ≤ 20000 ∧ n ≤ 20000 ∧ ∀ (x : Addr) (H' : Hp), Same H H' → QtAt H' x (q + s * ((u - t : Int) : Rat)) (m + 2 * n + 2) → Q (.ref x) H'
section
variable {P : Program} {w : World} {K : PySem.W.Frag} {mg : Str → Option Value} {base : Heap} {f : Addr} {fd : FuncData}
theorem sc_plain_divisor : FnScope ["one", "other", "found", "rest", "left"] ["one", "other"] (defScope s_plain_divisor) := ⟨rfl, rfl, rfl, by decide +kernel, rfl, by decide +kernel, by decide +kernel⟩
theorem ok_plain_divisor (F : Fun K "plain_divisor" "plain_divisor" s_plain_divisor f fd) (T : Txt mg) : FnOk P w K mg base CX0 1 f fd ["one", "other"] spPlain := by
  refine F.ok sc_plain_divisor (fun vs H Q E h => ?_) (fun cdv A outer s H vs Q E hr h => ?_)
  · obtain ⟨m, n, rfl, _⟩ := h
    rfl
  obtain ⟨m, n, rfl, hm, hn, k⟩ := h
  refine Jd.go ⟨_, (Jd.pss_cons (Jd.ps_set (i := 2) sc_plain_divisor.nd rfl (Or.inl rfl) (Jd.pv 0) (hs := sw_N))
      (Jd.pss_cons (Jd.ps_set (i := 3) sc_plain_divisor.nd rfl (Or.inl rfl) (Jd.pv 1) (hs := sw_N))
      (Jd.pss_cons (Jd.ps_while PassesOwn.never (Jd.pt_cmpR op_ne (Jd.pv 3) Jd.pe_int (nomark _))
      (Jd.pss_cons (Jd.ps_set (i := 4) sc_plain_divisor.nd rfl (Or.inl rfl) (Jd.pe_op op_mod (Jd.pv 2) (Jd.pv 3)) (hs := sw_B))
      (Jd.pss_cons (Jd.ps_set (i := 2) sc_plain_divisor.nd rfl (Or.inl rfl) (Jd.pv 3) (hs := sw_N))
      (Jd.pss_one (Jd.ps_set (i := 3) sc_plain_divisor.nd rfl (Or.inl rfl) (Jd.pv 4) (hs := sw_N))))))
      (Jd.pss_one (Jd.ps_ret (Jd.pv 2)))))), ?_⟩
  walk_at "v"
  refine while_by (fun σ H' => H' = H ∧ ∃ (x y : Nat) (v : Option V), σ = [some (.int m), some (.int n), some (.int x), some (.int y), v] ∧ Nat.gcd x y = Int.gcd m n) (fun σ _ => third σ) ?_ ?_ ?_
  · refine ⟨rfl, m.natAbs, n.natAbs, none, ?_, rfl⟩
    rw [show ((m.natAbs : Nat) : Int) = m by walk_at "o", show ((n.natAbs : Nat) : Int) = n by walk_at "o"]
    rfl
  · rintro σ H' ⟨rfl, x, y, v, rfl, hg⟩
    walk_at "v"
    refine ite2 (fun c => ?_) (fun c => ?_)
    · have c' : ¬ (y : Int) = 0 := by simpa using c
      walk_at "v"
      refine ⟨⟨rfl, y, x % y, some (.int ((x % y : Nat) : Int)), ?_, by rw [gcd_step]; exact hg⟩, ?_⟩
      · rw [mcast]; rfl
      · show ((x : Int) % (y : Int)).toNat < (y : Int).toNat
        rw [mcast]
        have := Nat.mod_lt x (y := y) (by walk_at "o")
        walk_at "o"
    · have c' : (y : Int) = 0 := by simpa using c
      have y0 : y = 0 := by walk_at "o"
      subst y0
      rw [Nat.gcd_zero_right] at hg
      subst hg
      walk_at "v"
      exact k
  · intro σ H Q Q' h q
    obtain ⟨v, e, hs, b, e3, q⟩ := q
    exact ⟨v, e, hs, b, e3, h _ _ q⟩
theorem sc_steps_of_heads : FnScope ["high", "low", "ahead", "now", "many", "left", "behind"] ["high", "low"] (defScope s_steps_of_heads) := ⟨rfl, rfl, rfl, by decide +kernel, rfl, by decide +kernel, by decide +kernel⟩
theorem ok_steps_of_heads (F : Fun K "steps_of_heads" "steps_of_heads" s_steps_of_heads f fd) (C_HEAD : Cn mg "HEAD" 256) : FnOk P w K mg base CX0 1 f fd ["high", "low"] spSteps := by
  refine F.ok sc_steps_of_heads (fun vs H Q E h => ?_) (fun cdv A outer s H vs Q E hr h => ?_)
  · obtain ⟨m, n, rfl, _⟩ := h
    rfl
  obtain ⟨hd, ld, rfl, h0, h1, h2, k⟩ := h
  refine Jd.go ⟨_, (Jd.pss_cons (Jd.ps_set (i := 2) sc_steps_of_heads.nd rfl (Or.inl rfl) (Jd.pe_tup (Jd.pa_cons Jd.pe_int (Jd.pa_cons Jd.pe_int Jd.pa_nil st_C) st_C)) (hs := sw_T))
      (Jd.pss_cons (Jd.ps_set (i := 3) sc_steps_of_heads.nd rfl (Or.inl rfl) (Jd.pe_tup (Jd.pa_cons Jd.pe_int (Jd.pa_cons Jd.pe_int Jd.pa_nil st_C) st_C)) (hs := sw_T))
      (Jd.pss_cons (Jd.ps_while PassesOwn.never (Jd.pt_cmpR op_gt (Jd.pe_bits (Jd.pv 1)) (Jd.pe_op op_fdivB (Jd.pe_cn rfl C_HEAD) Jd.pe_int) (nomark _))
      (Jd.pss_cons (Jd.ps_set (i := 4) sc_steps_of_heads.nd rfl (Or.inl rfl) (Jd.pe_op op_fdivB (Jd.pv 0) (Jd.pv 1)) (hs := sw_B))
      (Jd.pss_cons (Jd.ps_set (i := 5) sc_steps_of_heads.nd rfl (Or.inl rfl) (Jd.pe_op op_sub (Jd.pv 0) (Jd.pe_op op_mulB (Jd.pv 4) (Jd.pv 1))) (hs := sw_B))
      (Jd.pss_cons (Jd.ps_set (i := 0) sc_steps_of_heads.nd rfl (Or.inl rfl) (Jd.pv 1) (hs := sw_N))
      (Jd.pss_cons (Jd.ps_set (i := 1) sc_steps_of_heads.nd rfl (Or.inl rfl) (Jd.pv 5) (hs := sw_N))
      (Jd.pss_cons (Jd.ps_set (i := 6) sc_steps_of_heads.nd rfl (Or.inl rfl) (Jd.pe_tup (Jd.pa_cons (Jd.pe_op op_sub (Jd.pe_ix (ixT K) (Jd.pv 2) Jd.pe_int (fun _ _ => rfl)) (Jd.pe_op op_mulB (Jd.pv 4) (Jd.pe_ix (ixT K) (Jd.pv 3) Jd.pe_int (fun _ _ => rfl)))) (Jd.pa_cons (Jd.pe_op op_sub (Jd.pe_ix (ixT K) (Jd.pv 2) Jd.pe_int (fun _ _ => rfl)) (Jd.pe_op op_mulB (Jd.pv 4) (Jd.pe_ix (ixT K) (Jd.pv 3) Jd.pe_int (fun _ _ => rfl)))) Jd.pa_nil st_B) st_B)) (hs := sw_T))
      (Jd.pss_cons (Jd.ps_set (i := 2) sc_steps_of_heads.nd rfl (Or.inl rfl) (Jd.pv 3) (hs := sw_N))
      (Jd.pss_one (Jd.ps_set (i := 3) sc_steps_of_heads.nd rfl (Or.inl rfl) (Jd.pv 6) (hs := sw_N))))))))))
      (Jd.pss_one (Jd.ps_ret (Jd.pe_op (catT K) (Jd.pv 2) (Jd.pv 3))))))), ?_⟩
  walk_at "v"
  refine r_new (mk := .tup) (by simp) fun pa Ha sa na ea => ?_
  walk_at "v"
  refine r_new (mk := .tup) (by simp) fun pn Hn sn nn en => ?_
  walk_at "v"
  refine while_by (fun σ H' => Same H H' ∧ ∃ (high low x0 y0 x1 y1 : Int) (pa pn : Addr) (v4 v5 v6 : Option V), σ = [some (.int high), some (.int low), some (.ref pa), some (.ref pn), v4, v5, v6] ∧
    H' pa = some (.tup [.int x0, .int y0]) ∧ H' pn = some (.tup [.int x1, .int y1]) ∧ Steps hd ld high low x0 y0 x1 y1) (fun σ _ => cellN 1 σ) ?_ ?_ ?_
  · exact ⟨sa.trans sn, hd, ld, 1, 0, 0, 1, pa, pn, none, none, none, rfl, sn _ _ ea, en, Steps.init h0 h1⟩
  · rintro σ H' ⟨sH, high, low, x0, y0, x1, y1, pa, pn, v4, v5, v6, rfl, ea, en, S⟩
    walk_at "v"
    refine r_I ⟨by decide, by decide⟩ ?_
    walk_at "v"
    refine ite2 (fun c => ?_) (fun c => ?_)
    · have c' := of_decide_eq_true c
      rw [show Int.fdiv 256 2 = 128 by decide] at c'
      have hlow := heads_big c' S.l0
      have hq := S.step hlow rfl
      have hH : hd.natAbs < 2 ^ 256 := by have : (2 : Nat) ^ 256 = 115792089237316195423570985008687907853269984665640564039457584007913129639936 := by decide
                                          walk_at "o"
      have zl : Sz 256 ld := Sz.of_le (m := 256) (x := hd) hH (by walk_at "o")
      have zh : Sz 256 high := Sz.of_le (m := 256) (x := hd) hH (by have := S.high_le h1; have := S.lh; have := S.l0; walk_at "o")
      have nb := S.now_le (by have := S.lh; walk_at "o")
      have zx : Sz 256 x1 := Sz.of_le zl nb.1
      have zy : Sz 256 y1 := Sz.of_le (m := 256) (x := hd) hH nb.2
      have zlo : Sz 256 low := zh.of_le (by have := S.lh; have := S.l0; walk_at "o")
      have eq : high.fdiv low = high / low := Int.fdiv_eq_ediv_of_nonneg _ S.l0
      have zq : Sz 256 (high / low) := zh.of_le (div_le (by have := S.lh; have := S.l0; walk_at "o") S.l0)
      walk_at "v"
      refine r_I ⟨by walk_at "o", zlo.log (by decide) (by decide)⟩ ?_
      rw [eq]
      walk_at "v"
      refine r_I (mulOk zq zlo) ?_
      walk_at "v"
      refine r_I (mulOk zq zx) ?_
      walk_at "v"
      refine r_I (mulOk zq zy) ?_
      walk_at "v"
      refine r_new (mk := .tup) (by simp) fun pb Hb sb nb eb => ?_
      walk_at "v"
      refine ⟨⟨sH.trans sb, low, high - high / low * low, x1, y1, x0 - high / low * x1, y0 - high / low * y1, pn, pb, _, _, _, rfl, sb _ _ en, eb, hq⟩, ?_⟩
      show (high - high / low * low).toNat < low.toNat
      have e := Int.mul_ediv_add_emod high low
      rw [Int.mul_comm] at e
      have := Int.emod_lt_of_pos high (b := low) (by walk_at "o")
      walk_at "o"
    · have c' := of_decide_eq_false (Bool.eq_false_iff.mpr c)
      rw [show Int.fdiv 256 2 = 128 by decide] at c'
      have hlow := heads_small c'
      walk_at "v"
      refine r_catT ea en ?_
      refine r_new (mk := .tup) (by simp) fun pb Hb sb nb eb => ?_
      exact k pb x0 y0 x1 y1 high low Hb (sH.trans sb) eb S (by walk_at "o")
  · intro σ H Q Q' h q
    obtain ⟨v, e, a1, a2, i, a3, m, n, e1, e2, hc, m', n', e3, e4, b, e5, q⟩ := q
    exact ⟨v, e, a1, a2, i, a3, m, n, e1, e2, hc, m', n', e3, e4, b, e5, h _ _ q⟩
theorem sc_divisor : FnScope ["one", "other", "found", "rest", "tail", "steps", "ahead", "now"] ["one", "other"] (defScope s_divisor) := ⟨rfl, rfl, rfl, by decide +kernel, rfl, by decide +kernel, by decide +kernel⟩
theorem ok_divisor (F : Fun K "divisor" "divisor" s_divisor f fd) (T : Txt mg) (C_HEAD : Cn mg "HEAD" 256) (D_plain_divisor : Dn P w K mg base 1 "plain_divisor" ["one", "other"] spPlain) (D_steps_of_heads : Dn P w K mg base 1 "steps_of_heads" ["high", "low"] spSteps) :
    FnOk P w K mg base CX0 2 f fd ["one", "other"] spDivisor := by
  refine F.ok sc_divisor (fun vs H Q E h => ?_) (fun cdv A outer s H vs Q E hr h => ?_)
  · obtain ⟨m, n, rfl, _⟩ := h
    rfl
  obtain ⟨m, n, rfl, zm, zn, k⟩ := h
  refine Jd.go ⟨_, (Jd.pss_cons (Jd.ps_set (i := 2) sc_divisor.nd rfl (Or.inl rfl) (Jd.pe_callB (maxC rfl) rfl T.max_ PyProof.Rows.boot_max (Jd.pa_cons (Jd.pe_callB absC rfl T.abs_ PyProof.Rows.boot_abs (Jd.pa_cons (Jd.pv 0) Jd.pa_nil st_N) (he := st_N) (hpl := any0)) (Jd.pa_cons (Jd.pe_callB absC rfl T.abs_ PyProof.Rows.boot_abs (Jd.pa_cons (Jd.pv 1) Jd.pa_nil st_N) (he := st_N) (hpl := any0)) Jd.pa_nil st_K) st_K) (he := st_K) (hpl := (anyc st_K any0))) (hs := sw_K))
      (Jd.pss_cons (Jd.ps_set (i := 3) sc_divisor.nd rfl (Or.inl rfl) (Jd.pe_callB (minC rfl) rfl T.min_ PyProof.Rows.boot_min (Jd.pa_cons (Jd.pe_callB absC rfl T.abs_ PyProof.Rows.boot_abs (Jd.pa_cons (Jd.pv 0) Jd.pa_nil st_N) (he := st_N) (hpl := any0)) (Jd.pa_cons (Jd.pe_callB absC rfl T.abs_ PyProof.Rows.boot_abs (Jd.pa_cons (Jd.pv 1) Jd.pa_nil st_N) (he := st_N) (hpl := any0)) Jd.pa_nil st_K) st_K) (he := st_K) (hpl := (anyc st_K any0))) (hs := sw_K))
      (Jd.pss_cons (Jd.ps_while PassesOwn.never (Jd.pt_cmpR op_gt (Jd.pe_bits (Jd.pv 3)) (Jd.pe_cn rfl C_HEAD) (nomark _))
      (Jd.pss_cons (Jd.ps_set (i := 4) sc_divisor.nd rfl (Or.inl rfl) (Jd.pe_op op_sub (Jd.pe_bits (Jd.pv 2)) (Jd.pe_cn rfl C_HEAD)) (hs := sw_B))
      (Jd.pss_cons (Jd.ps_set (i := 5) sc_divisor.nd rfl (Or.inl rfl) (Jd.pe_dn D_steps_of_heads (hr.mono (by decide)) rfl (Jd.pa_cons (Jd.pe_op op_shr (Jd.pv 2) (Jd.pv 4)) (Jd.pa_cons (Jd.pe_op op_shr (Jd.pv 3) (Jd.pv 4)) Jd.pa_nil st_B) st_B) (he := st_B) (hpl := (anyc st_B any0))) (hs := sw_K))
      (Jd.pss_cons (Jd.ps_if (Jd.pt_cmpR op_eq (Jd.pe_ix (ixT K) (Jd.pv 5) Jd.pe_int (fun _ _ => rfl)) Jd.pe_int (nomark _))
      (Jd.pss_one (Jd.ps_set (i := 5) sc_divisor.nd rfl (Or.inl rfl) (Jd.pe_tup (Jd.pa_cons Jd.pe_int (Jd.pa_cons Jd.pe_int (Jd.pa_cons Jd.pe_int (Jd.pa_cons (Jd.pe_un un_neg (Jd.pe_op op_fdivB (Jd.pv 2) (Jd.pv 3))) Jd.pa_nil st_U) st_C) st_C) st_C)) (hs := sw_T)))
      Jd.pss_nil)
      (Jd.pss_cons (Jd.ps_set (i := 6) sc_divisor.nd rfl (Or.inl rfl) (Jd.pe_callB absC rfl T.abs_ PyProof.Rows.boot_abs (Jd.pa_cons (Jd.pe_op op_add (Jd.pe_op op_mulB (Jd.pe_ix (ixT K) (Jd.pv 5) Jd.pe_int (fun _ _ => rfl)) (Jd.pv 2)) (Jd.pe_op op_mulB (Jd.pe_ix (ixT K) (Jd.pv 5) Jd.pe_int (fun _ _ => rfl)) (Jd.pv 3))) Jd.pa_nil st_B) (he := st_B) (hpl := any0)) (hs := sw_K))
      (Jd.pss_cons (Jd.ps_set (i := 7) sc_divisor.nd rfl (Or.inl rfl) (Jd.pe_callB absC rfl T.abs_ PyProof.Rows.boot_abs (Jd.pa_cons (Jd.pe_op op_add (Jd.pe_op op_mulB (Jd.pe_ix (ixT K) (Jd.pv 5) Jd.pe_int (fun _ _ => rfl)) (Jd.pv 2)) (Jd.pe_op op_mulB (Jd.pe_ix (ixT K) (Jd.pv 5) Jd.pe_int (fun _ _ => rfl)) (Jd.pv 3))) Jd.pa_nil st_B) (he := st_B) (hpl := any0)) (hs := sw_K))
      (Jd.pss_cons (Jd.ps_set (i := 2) sc_divisor.nd rfl (Or.inl rfl) (Jd.pe_callB (maxC rfl) rfl T.max_ PyProof.Rows.boot_max (Jd.pa_cons (Jd.pv 6) (Jd.pa_cons (Jd.pv 7) Jd.pa_nil st_N) st_N) (he := st_N) (hpl := (anyc st_N any0))) (hs := sw_K))
      (Jd.pss_one (Jd.ps_set (i := 3) sc_divisor.nd rfl (Or.inl rfl) (Jd.pe_callB (minC rfl) rfl T.min_ PyProof.Rows.boot_min (Jd.pa_cons (Jd.pv 6) (Jd.pa_cons (Jd.pv 7) Jd.pa_nil st_N) st_N) (he := st_N) (hpl := (anyc st_N any0))) (hs := sw_K))))))))))
      (Jd.pss_one (Jd.ps_ret (Jd.pe_dn D_plain_divisor (hr.mono (by decide)) rfl (Jd.pa_cons (Jd.pv 2) (Jd.pa_cons (Jd.pv 3) Jd.pa_nil st_N) st_N) (he := st_N) (hpl := (anyc st_N any0)))))))), ?_⟩
  walk_at "v"
  rw [abs_cast, abs_cast]
  refine while_by (fun σ H' => Same H H' ∧ ∃ (x y : Int) (v4 v5 v6 v7 : Option V), σ = [some (.int m), some (.int n), some (.int x), some (.int y), v4, v5, v6, v7] ∧
    0 ≤ y ∧ y ≤ x ∧ Int.gcd x y = Int.gcd m n ∧ Sz 8001 (x + y)) (fun σ _ => cellN 2 σ + cellN 3 σ) ?_ ?_ ?_
  · refine ⟨Same.refl _, _, _, none, none, none, none, rfl, ?_, ?_, (gcd_maxmin rfl rfl).trans ?_, ?_⟩
    · exact mm_nn _ _
    · exact mm_le _ _
    · rfl
    · have z := (zm.of_le (y := (m.natAbs : Int)) (by simp)).add (zn.of_le (y := (n.natAbs : Int)) (by simp))
      exact z.of_le (mm_sum (by walk_at "o"))
  · rintro σ H' ⟨sH, x, y, v4, v5, v6, v7, rfl, y0, yx, hg, zs⟩
    have zx : Sz 8001 x := zs.of_le (by walk_at "o")
    have zy : Sz 8001 y := zs.of_le (by walk_at "o")
    walk_at "v"
    refine ite2 (fun c => ?_) (fun c => ?_)
    · have c' := of_decide_eq_true c
      obtain ⟨t, ht, lo, hi⟩ := heads_tail c' y0 yx
      have tp : (0 : Int) < 2 ^ t := Int.pow_pos (by decide)
      have hd := head_of lo hi
      have ypos : 1 ≤ y := by
        have : (256 : Int) < (Builtin.Int.intBits y : Nat) := c'
        by_cases e : y = 0
        · subst e; simp [Builtin.Int.intBits] at this
        · walk_at "o"
      walk_at "v"
      refine r_I (show (0 : Int) ≤ _ by walk_at "o") ?_
      walk_at "v"
      refine r_I (show (0 : Int) ≤ _ by walk_at "o") ?_
      walk_at "v"
      rw [show ((Builtin.Int.intBits x : Nat) - 256 : Int).toNat = t by walk_at "o"]
      refine ⟨x / 2 ^ t, y / 2 ^ t, rfl, Int.ediv_nonneg y0 (by walk_at "o"), Int.ediv_le_ediv tp yx, hd.2, fun ps x0 y0' x1 y1 high low H1 s1 e1 S hl => ?_⟩
      walk_at "v"
      refine ite2 (fun c2 => ?_) (fun c2 => ?_)
      · have c3 : y0' = 0 := of_decide_eq_true c2
        have zq : Sz 8001 (x.fdiv y) := by
          rw [Int.fdiv_eq_ediv_of_nonneg _ y0]
          exact zx.of_le (div_le (by walk_at "o") y0)
        walk_at "v"
        refine r_I ⟨by walk_at "o", zy.log (by decide) (by decide)⟩ ?_
        walk_at "v"
        refine r_new (mk := .tup) (by simp) fun p2 H2 s2 n2 e2 => ?_
        have sH2 := (sH.trans s1).trans s2
        have za : Sz 8001 (0 : Int) := by decide
        have zb : Sz 8001 (1 : Int) := by decide
        have zc : Sz 8001 (1 : Int) := zb
        have zd : Sz 8001 (-(x.fdiv y)) := zq.neg
        have gg : Int.gcd (0 * x + 1 * y) (1 * x + -(x.fdiv y) * y) = Int.gcd x y := gcd_mix (.inr (by walk_at "o"))
        have ls := fd_less ypos yx
        walk_at "v"
        refine r_I (mulOk zd zy) ?_
        walk_at "v"
        simp only [abs_cast]
        refine ⟨⟨sH2, _, _, _, _, _, _, rfl, ?_, ?_, (gcd_maxmin rfl rfl).trans (gg.trans hg), ?_⟩, ?_⟩
        · exact mm_nn _ _
        · exact mm_le _ _
        · exact zs.of_le (mm_sum (mm_xy ls y0 yx))
        · exact mm_to ls y0 yx
      · have c3 : y0' ≠ 0 := of_decide_eq_false (Bool.eq_false_iff.mpr c2)
        have sH2 := sH.trans s1
        have sm := S.small c3 (Int.ediv_le_ediv tp yx) hd.2
        have k128 : (340282366920938463463374607431768211456 : Nat) < 2 ^ 8001 := by decide +kernel
        have za : Sz 8001 x0 := Nat.lt_of_le_of_lt sm.1 k128
        have zb : Sz 8001 y0' := Nat.lt_of_le_of_lt sm.2.1 k128
        have zc : Sz 8001 x1 := Nat.lt_of_le_of_lt sm.2.2.1 k128
        have zd : Sz 8001 y1 := Nat.lt_of_le_of_lt sm.2.2.2 k128
        have gg : Int.gcd (x0 * x + y0' * y) (x1 * x + y1 * y) = Int.gcd x y := S.gcd
        have ls := heads_less S c3 yx lo hi rfl rfl hl
        walk_at "v"
        refine r_I (mulOk za zx) ?_
        walk_at "v"
        refine r_I (mulOk zb zy) ?_
        walk_at "v"
        refine r_I (mulOk zc zx) ?_
        walk_at "v"
        refine r_I (mulOk zd zy) ?_
        walk_at "v"
        simp only [abs_cast]
        refine ⟨⟨sH2, _, _, _, _, _, _, rfl, ?_, ?_, (gcd_maxmin rfl rfl).trans (gg.trans hg), ?_⟩, ?_⟩
        · exact mm_nn _ _
        · exact mm_le _ _
        · exact zs.of_le (mm_sum (mm_xy ls y0 yx))
        · exact mm_to ls y0 yx
    · walk_at "v"
      refine ⟨x, y, rfl, by walk_at "o", y0, ?_⟩
      rw [hg]
      exact k H' sH
  · intro σ H Q Q' h q
    obtain ⟨v, e, a1, a2, i, a3, m', n', e3, e4, b, e5, q⟩ := q
    exact ⟨v, e, a1, a2, i, a3, m', n', e3, e4, b, e5, h _ _ q⟩
theorem sc_ratio : FnScope ["top", "bottom", "shared"] ["top", "bottom"] (defScope s_ratio) := ⟨rfl, rfl, rfl, by decide +kernel, rfl, by decide +kernel, by decide +kernel⟩
theorem low_ratio {t b : Int} (hb : b ≠ 0) : Low t b (t.fdiv (if b < 0 then -(Int.gcd t b : Int) else (Int.gcd t b : Int))) (b.fdiv (if b < 0 then -(Int.gcd t b : Int) else (Int.gcd t b : Int))) := by
  by_cases h : b < 0
  · rw [if_pos h]
    have l := low_neg (t := t) h
    exact ⟨l.pos, l.co, by have := l.eq; rw [Int.mul_neg, Int.neg_mul] at this; walk_at "o", by rw [← Int.natAbs_neg t]; exact l.tb, by rw [← Int.natAbs_neg b]; exact l.bb⟩
  · rw [if_neg h]
    exact low_pos (by walk_at "o")
theorem ok_ratio (F : Fun K "ratio" "ratio" s_ratio f fd) (T : Txt mg) (D_divisor : Dn P w K mg base 2 "divisor" ["one", "other"] spDivisor) : FnOk P w K mg base CX0 3 f fd ["top", "bottom"] spRatioP := by
  refine F.ok sc_ratio (fun vs H Q E h => ?_) (fun cdv A outer s H vs Q E hr h => ?_)
  · obtain ⟨t, b, rfl, _⟩ := h
    rfl
  obtain ⟨t, b, rfl, hb, hzt, hz, k⟩ := h
  refine Jd.go ⟨_, (Jd.pss_cons (Jd.ps_if (Jd.pt_cmpR op_eq (Jd.pv 1) Jd.pe_int (nomark _))
      (Jd.pss_one Jd.ps_never)
      Jd.pss_nil)
      (Jd.pss_cons (Jd.ps_set (i := 2) sc_ratio.nd rfl (Or.inl rfl) (Jd.pe_dn D_divisor (hr.mono (by decide)) rfl (Jd.pa_cons (Jd.pv 0) (Jd.pa_cons (Jd.pv 1) Jd.pa_nil st_N) st_N) (he := st_N) (hpl := (anyc st_N any0))) (hs := sw_K))
      (Jd.pss_cons (Jd.ps_if (Jd.pt_cmpR op_lt (Jd.pv 1) Jd.pe_int (nomark _))
      (Jd.pss_one (Jd.ps_set (i := 2) sc_ratio.nd rfl (Or.inl rfl) (Jd.pe_un un_neg (Jd.pv 2)) (hs := sw_U)))
      Jd.pss_nil)
      (Jd.pss_one (Jd.ps_ret (Jd.pe_tup (Jd.pa_cons (Jd.pe_op op_fdivB (Jd.pv 0) (Jd.pv 2)) (Jd.pa_cons (Jd.pe_op op_fdivB (Jd.pv 1) (Jd.pv 2)) Jd.pa_nil st_B) st_B))))))), ?_⟩
  walk_at "v"
  rw [decide_eq_false hb]
  refine iteF ?_
  walk_at "v"
  refine ⟨t, b, rfl, hzt, hz, fun H0 s0 => ?_⟩
  have gp : 0 < Int.gcd t b := Int.gcd_pos_of_ne_zero_right t hb
  have hgb : Int.gcd t b ≤ b.natAbs := Nat.le_of_dvd (by walk_at "o") (Nat.gcd_dvd_right _ _)
  have cd : ∀ x : Int, CDivB x (if b < 0 then -(Int.gcd t b : Int) else (Int.gcd t b : Int)) := fun x => by
    refine ⟨by split <;> walk_at "o", Sz.log (m := 8000) (Sz.of_le hz ?_) (by decide) (by decide)⟩
    split <;> walk_at "o"
  have lo := low_ratio (t := t) hb
  walk_at "v"
  refine ite2 (fun c => ?_) (fun c => ?_)
  · have c' := of_decide_eq_true c
    rw [if_pos c'] at lo
    simp only [if_pos c'] at cd
    walk_at "v"
    refine r_I (cd t) ?_
    walk_at "v"
    refine r_I (cd b) ?_
    walk_at "v"
    refine r_new (mk := .tup) (by simp) fun p H1 s1 n1 e1 => ?_
    exact k p _ _ H1 (s0.trans s1) e1 lo
  · have c' := of_decide_eq_false (Bool.eq_false_iff.mpr c)
    rw [if_neg c'] at lo
    simp only [if_neg c'] at cd
    walk_at "v"
    refine r_I (cd t) ?_
    walk_at "v"
    refine r_I (cd b) ?_
    walk_at "v"
    refine r_new (mk := .tup) (by simp) fun p H1 s1 n1 e1 => ?_
    exact k p _ _ H1 (s0.trans s1) e1 lo
theorem sc_reduced : FnScope ["quotient"] ["quotient"] (defScope s_reduced) := ⟨rfl, rfl, rfl, by decide +kernel, rfl, by decide +kernel, by decide +kernel⟩
theorem ok_reduced (F : Fun K "reduced" "reduced" s_reduced f fd) (D_ratio : Dn P w K mg base 3 "ratio" ["top", "bottom"] spRatioP) : FnOk P w K mg base CX0 4 f fd ["quotient"] spReduced := by
  refine F.ok sc_reduced (fun vs H Q E h => ?_) (fun cdv A outer s H vs Q E hr h => ?_)
  · obtain ⟨p, q, n, rfl, _⟩ := h
    rfl
  obtain ⟨p, q, n, rfl, ⟨t, b, hp, hq, zt, zb⟩, hn, k⟩ := h
  refine Jd.go ⟨_, (Jd.pss_one (Jd.ps_ret (Jd.pe_dn D_ratio (hr.mono (by decide)) rfl (Jd.pa_cons (Jd.pe_ix (ixT K) (Jd.pv 0) Jd.pe_int (fun _ _ => rfl)) (Jd.pa_cons (Jd.pe_ix (ixT K) (Jd.pv 0) Jd.pe_int (fun _ _ => rfl)) Jd.pa_nil st_S) st_S) (he := st_S) (hpl := (anyc st_S any0))))), ?_⟩
  have hb := hq.pos
  walk_at "v"
  refine ⟨t, b, rfl, by walk_at "o", zt.mono hn, zb.mono hn, fun r t' b' H1 s1 e1 lo => ?_⟩
  exact k r H1 s1 ⟨t', b', e1, Fr.of_low lo (by walk_at "o") hq.eq, zt.of_le lo.tb, zb.of_le lo.bb⟩
theorem sc_loose_plus : FnScope ["one", "other"] ["one", "other"] (defScope s_loose_plus) := ⟨rfl, rfl, rfl, by decide +kernel, rfl, by decide +kernel, by decide +kernel⟩
theorem ok_loose_plus (F : Fun K "loose_plus" "loose_plus" s_loose_plus f fd) : FnOk P w K mg base CX0 1 f fd ["one", "other"] (spTwo (· + ·) 1) := by
  refine F.ok sc_loose_plus (fun vs H Q E h => ?_) (fun cdv A outer s H vs Q E hr h => ?_)
  · obtain ⟨p, r, q, q', m, n, rfl, _⟩ := h
    rfl
  obtain ⟨p, r, q, q', m, n, rfl, ⟨a, b, hp, hq, za, zb⟩, ⟨c, d, hr', hq', zc, zd⟩, hn, k⟩ := h
  refine Jd.go ⟨_, (Jd.pss_one (Jd.ps_ret (Jd.pe_tup (Jd.pa_cons (Jd.pe_op op_add (Jd.pe_op op_mulB (Jd.pe_ix (ixT K) (Jd.pv 0) Jd.pe_int (fun _ _ => rfl)) (Jd.pe_ix (ixT K) (Jd.pv 1) Jd.pe_int (fun _ _ => rfl))) (Jd.pe_op op_mulB (Jd.pe_ix (ixT K) (Jd.pv 1) Jd.pe_int (fun _ _ => rfl)) (Jd.pe_ix (ixT K) (Jd.pv 0) Jd.pe_int (fun _ _ => rfl)))) (Jd.pa_cons (Jd.pe_op op_mulB (Jd.pe_ix (ixT K) (Jd.pv 0) Jd.pe_int (fun _ _ => rfl)) (Jd.pe_ix (ixT K) (Jd.pv 1) Jd.pe_int (fun _ _ => rfl))) Jd.pa_nil st_B) st_B)))), ?_⟩
  walk_at "v"
  refine r_I (mulOk za zd (by walk_at "o")) ?_
  walk_at "v"
  refine r_I (mulOk zc zb (by walk_at "o")) ?_
  walk_at "v"
  refine r_I (mulOk zb zd (by walk_at "o")) ?_
  walk_at "v"
  refine r_new (mk := .tup) (by simp) fun x H1 s1 n1 e1 => ?_
  exact k x H1 s1 ⟨_, _, e1, hq.plus hq', (za.mul zd).add ((zc.mul zb).mono (by walk_at "o")), (zb.mul zd).mono (by walk_at "o")⟩
theorem sc_loose_minus : FnScope ["one", "other"] ["one", "other"] (defScope s_loose_minus) := ⟨rfl, rfl, rfl, by decide +kernel, rfl, by decide +kernel, by decide +kernel⟩
theorem ok_loose_minus (F : Fun K "loose_minus" "loose_minus" s_loose_minus f fd) : FnOk P w K mg base CX0 1 f fd ["one", "other"] (spTwo (· - ·) 1) := by
  refine F.ok sc_loose_minus (fun vs H Q E h => ?_) (fun cdv A outer s H vs Q E hr h => ?_)
  · obtain ⟨p, r, q, q', m, n, rfl, _⟩ := h
    rfl
  obtain ⟨p, r, q, q', m, n, rfl, ⟨a, b, hp, hq, za, zb⟩, ⟨c, d, hr', hq', zc, zd⟩, hn, k⟩ := h
  refine Jd.go ⟨_, (Jd.pss_one (Jd.ps_ret (Jd.pe_tup (Jd.pa_cons (Jd.pe_op op_sub (Jd.pe_op op_mulB (Jd.pe_ix (ixT K) (Jd.pv 0) Jd.pe_int (fun _ _ => rfl)) (Jd.pe_ix (ixT K) (Jd.pv 1) Jd.pe_int (fun _ _ => rfl))) (Jd.pe_op op_mulB (Jd.pe_ix (ixT K) (Jd.pv 1) Jd.pe_int (fun _ _ => rfl)) (Jd.pe_ix (ixT K) (Jd.pv 0) Jd.pe_int (fun _ _ => rfl)))) (Jd.pa_cons (Jd.pe_op op_mulB (Jd.pe_ix (ixT K) (Jd.pv 0) Jd.pe_int (fun _ _ => rfl)) (Jd.pe_ix (ixT K) (Jd.pv 1) Jd.pe_int (fun _ _ => rfl))) Jd.pa_nil st_B) st_B)))), ?_⟩
  walk_at "v"
  refine r_I (mulOk za zd (by walk_at "o")) ?_
  walk_at "v"
  refine r_I (mulOk zc zb (by walk_at "o")) ?_
  walk_at "v"
  refine r_I (mulOk zb zd (by walk_at "o")) ?_
  walk_at "v"
  refine r_new (mk := .tup) (by simp) fun x H1 s1 n1 e1 => ?_
  exact k x H1 s1 ⟨_, _, e1, hq.minus hq', (za.mul zd).sub ((zc.mul zb).mono (by walk_at "o")), (zb.mul zd).mono (by walk_at "o")⟩
theorem sc_loose_times : FnScope ["one", "other"] ["one", "other"] (defScope s_loose_times) := ⟨rfl, rfl, rfl, by decide +kernel, rfl, by decide +kernel, by decide +kernel⟩
theorem ok_loose_times (F : Fun K "loose_times" "loose_times" s_loose_times f fd) : FnOk P w K mg base CX0 1 f fd ["one", "other"] (spTwo (· * ·) 0) := by
  refine F.ok sc_loose_times (fun vs H Q E h => ?_) (fun cdv A outer s H vs Q E hr h => ?_)
  · obtain ⟨p, r, q, q', m, n, rfl, _⟩ := h
    rfl
  obtain ⟨p, r, q, q', m, n, rfl, ⟨a, b, hp, hq, za, zb⟩, ⟨c, d, hr', hq', zc, zd⟩, hn, k⟩ := h
  refine Jd.go ⟨_, (Jd.pss_one (Jd.ps_ret (Jd.pe_tup (Jd.pa_cons (Jd.pe_op op_mulB (Jd.pe_ix (ixT K) (Jd.pv 0) Jd.pe_int (fun _ _ => rfl)) (Jd.pe_ix (ixT K) (Jd.pv 1) Jd.pe_int (fun _ _ => rfl))) (Jd.pa_cons (Jd.pe_op op_mulB (Jd.pe_ix (ixT K) (Jd.pv 0) Jd.pe_int (fun _ _ => rfl)) (Jd.pe_ix (ixT K) (Jd.pv 1) Jd.pe_int (fun _ _ => rfl))) Jd.pa_nil st_B) st_B)))), ?_⟩
  walk_at "v"
  refine r_I (mulOk za zc (by walk_at "o")) ?_
  walk_at "v"
  refine r_I (mulOk zb zd (by walk_at "o")) ?_
  walk_at "v"
  refine r_new (mk := .tup) (by simp) fun x H1 s1 n1 e1 => ?_
  exact k x H1 s1 ⟨_, _, e1, hq.times hq', za.mul zc, zb.mul zd⟩
end

noncomputable def spLheight : Sp := fun vs H Q _ => ∃ (p r : Addr) (s h x : Rat) (m n : Nat), vs = [.ref p, .ref r] ∧ LnAt H p s h n ∧ QtAt H r x m ∧ m ≤ 20000 ∧ n ≤ 20000 ∧ ∀ (z : Addr) (H' : Hp), Same H H' → QtAt H' z (s * x + h) (m + 2 * n + 1) → Q (.ref z) H'
noncomputable def spLoff : Sp := fun vs H Q _ => ∃ (p r : Addr) (s h q : Rat) (t : Int) (m n : Nat), vs = [.ref p, .ref r] ∧ LnAt H p s h n ∧ SaAt H r t q m ∧ 1 ≤ m ∧ m ≤ 20000 ∧ n ≤ 20000 ∧ ∀ (z : Addr) (H' : Hp), Same H H' → QtAt H' z (q - (s * (t : Rat) + h)) (2 * m + 2 * n + 2) → Q (.ref z) H'
noncomputable def spLineBy : Sp := fun vs H Q _ => ∃ (p r : Addr) (s q : Rat) (t : Int) (m n : Nat), vs = [.ref p, .ref r] ∧ FrAt H p s m ∧ SaAt H r t q n ∧ 1 ≤ n ∧ m + 2 * n + 2 ≤ 8000 ∧
  ∀ (z r' : Addr) (H' : Hp), Same H H' → H' z = some (.tup [.ref p, .ref r']) → FrAt H' r' (q - s * (t : Rat)) (m + 2 * n + 2) → Q (.ref z) H'
theorem fr_eqv {t b t' b' : Int} {q q' : Rat} (h : Fr t b q) (h' : Fr t' b' q') : PyData.eqv (.tuple [.int t, .int b]) (.tuple [.int t', .int b']) = decide (q = q') := by
  have e : PyData.eqv (.tuple [.int t, .int b]) (.tuple [.int t', .int b']) = (t == t' && (b == b' && true)) := rfl
  rw [e]
  by_cases hq : q = q'
  · subst hq
    obtain ⟨rfl, rfl⟩ := h.unique h'
    simp
  · rw [decide_eq_false hq]
    by_cases e1 : t = t'
    · by_cases e2 : b = b'
      · exact absurd (h.worth h' e1 e2) hq
      · simp [e2]
    · simp [e1]
theorem one_sz {n : Nat} (h : 1 ≤ n) : Sz n 1 := by
  have : (2 : Nat) ^ 1 ≤ 2 ^ n := Nat.pow_le_pow_right (by decide) h
  show Int.natAbs 1 < 2 ^ n
  have e : Int.natAbs 1 = 1 := rfl
  walk_at "o"
theorem whole_at {H : Hp} {p : Addr} {m : Int} {n : Nat} (h : H p = some (.tup [.int m, .int 1])) (z : Sz n m) (hn : 1 ≤ n) : QtAt H p (m : Rat) n := ⟨m, 1, h, Qt.whole m, z, one_sz hn⟩
section
variable {P : Program} {w : World} {K : PySem.W.Frag} {mg : Str → Option Value} {base : Heap} {f : Addr} {fd : FuncData}
theorem sc_plus : FnScope ["one", "other"] ["one", "other"] (defScope s_plus) := ⟨rfl, rfl, rfl, by decide +kernel, rfl, by decide +kernel, by decide +kernel⟩
theorem ok_plus (F : Fun K "plus" "plus" s_plus f fd) (D_loose_plus : Dn P w K mg base 1 "loose_plus" ["one", "other"] (spTwo (· + ·) 1)) (D_reduced : Dn P w K mg base 4 "reduced" ["quotient"] spReduced) : FnOk P w K mg base CX0 5 f fd ["one", "other"] (spTwoF (· + ·) 1) := by
  refine F.ok sc_plus (fun vs H Q E h => ?_) (fun cdv A outer s H vs Q E hr h => ?_)
  · obtain ⟨p, r, q, q', m, n, rfl, _⟩ := h
    rfl
  obtain ⟨p, r, q, q', m, n, rfl, h1, h2, hn, k⟩ := h
  refine Jd.go ⟨_, (Jd.pss_one (Jd.ps_ret (Jd.pe_dn D_reduced (hr.mono (by decide)) rfl (Jd.pa_cons (Jd.pe_dn D_loose_plus (hr.mono (by decide)) rfl (Jd.pa_cons (Jd.pv 0) (Jd.pa_cons (Jd.pv 1) Jd.pa_nil st_N) st_N) (he := st_N) (hpl := (anyc st_N any0))) Jd.pa_nil st_K) (he := st_K) (hpl := any0)))), ?_⟩
  walk_at "v"
  refine ⟨p, r, q, q', m, n, rfl, h1, h2, by walk_at "o", fun x H1 s1 e1 => ?_⟩
  walk_at "v"
  refine ⟨x, _, _, rfl, e1, hn, fun y H2 s2 e2 => ?_⟩
  exact k y H2 (s1.trans s2) e2
theorem sc_loose_slope : FnScope ["one", "other", "rise", "step"] ["one", "other"] (defScope s_loose_slope) := ⟨rfl, rfl, rfl, by decide +kernel, rfl, by decide +kernel, by decide +kernel⟩
theorem ok_loose_slope (F : Fun K "loose_slope" "loose_slope" s_loose_slope f fd) (D_loose_minus : Dn P w K mg base 1 "loose_minus" ["one", "other"] (spTwo (· - ·) 1)) : FnOk P w K mg base CX0 3 f fd ["one", "other"] spLslope := by
  refine F.ok sc_loose_slope (fun vs H Q E h => ?_) (fun cdv A outer s H vs Q E hr h => ?_)
  · obtain ⟨p, r, t, t', q, q', n, rfl, _⟩ := h
    rfl
  obtain ⟨p, r, t, t', q, q', n, rfl, ⟨v, hp, hv, zt⟩, ⟨v', hr', hv', zt'⟩, ht, hn, k⟩ := h
  refine Jd.go ⟨_, (Jd.pss_cons (Jd.ps_set (i := 2) sc_loose_slope.nd rfl (Or.inl rfl) (Jd.pe_dn D_loose_minus (hr.mono (by decide)) rfl (Jd.pa_cons (Jd.pe_ix (ixT K) (Jd.pv 1) Jd.pe_int (fun _ _ => rfl)) (Jd.pa_cons (Jd.pe_ix (ixT K) (Jd.pv 0) Jd.pe_int (fun _ _ => rfl)) Jd.pa_nil st_S) st_S) (he := st_S) (hpl := (anyc st_S any0))) (hs := sw_K))
      (Jd.pss_cons (Jd.ps_set (i := 3) sc_loose_slope.nd rfl (Or.inl rfl) (Jd.pe_op op_sub (Jd.pe_ix (ixT K) (Jd.pv 1) Jd.pe_int (fun _ _ => rfl)) (Jd.pe_ix (ixT K) (Jd.pv 0) Jd.pe_int (fun _ _ => rfl))) (hs := sw_B))
      (Jd.pss_cons (Jd.ps_if (Jd.pt_cmpR op_lt (Jd.pv 3) Jd.pe_int (nomark _))
      (Jd.pss_one (Jd.ps_ret (Jd.pe_tup (Jd.pa_cons (Jd.pe_un un_neg (Jd.pe_ix (ixT K) (Jd.pv 2) Jd.pe_int (fun _ _ => rfl))) (Jd.pa_cons (Jd.pe_op op_mulB (Jd.pe_ix (ixT K) (Jd.pv 2) Jd.pe_int (fun _ _ => rfl)) (Jd.pe_un un_neg (Jd.pv 3))) Jd.pa_nil st_B) st_U))))
      Jd.pss_nil)
      (Jd.pss_one (Jd.ps_ret (Jd.pe_tup (Jd.pa_cons (Jd.pe_ix (ixT K) (Jd.pv 2) Jd.pe_int (fun _ _ => rfl)) (Jd.pa_cons (Jd.pe_op op_mulB (Jd.pe_ix (ixT K) (Jd.pv 2) Jd.pe_int (fun _ _ => rfl)) (Jd.pv 3)) Jd.pa_nil st_B) st_S))))))), ?_⟩
  walk_at "v"
  refine ⟨v', v, q', q, n, n, rfl, hv'.qt, hv.qt, by walk_at "o", fun x H1 s1 e1 => ?_⟩
  obtain ⟨a, b, hx, hq, za, zb⟩ := e1
  have hp1 := s1 _ _ hp
  have hr1 := s1 _ _ hr'
  have zs : Sz (n + 1) (t' - t) := zt'.sub zt
  walk_at "v"
  refine ite2 (fun c => ?_) (fun c => ?_)
  · have c' : t' - t < 0 := of_decide_eq_true c
    walk_at "v"
    refine r_I (mulOk zb zs.neg (by walk_at "o")) ?_
    walk_at "v"
    refine r_new (mk := .tup) (by simp) fun y H2 s2 n2 e2 => ?_
    exact k y H2 (s1.trans s2) ⟨_, _, e2, hq.divN c', za.neg.mono (by walk_at "o"), (zb.mul zs.neg).mono (by walk_at "o")⟩
  · have c' : ¬ t' - t < 0 := of_decide_eq_false (Bool.eq_false_iff.mpr c)
    walk_at "v"
    refine r_I (mulOk zb zs (by walk_at "o")) ?_
    walk_at "v"
    refine r_new (mk := .tup) (by simp) fun y H2 s2 n2 e2 => ?_
    exact k y H2 (s1.trans s2) ⟨_, _, e2, hq.div (by walk_at "o"), za.mono (by walk_at "o"), (zb.mul zs).mono (by walk_at "o")⟩
theorem sc_loose_along : FnScope ["steep", "sample", "moment"] ["steep", "sample", "moment"] (defScope s_loose_along) := ⟨rfl, rfl, rfl, by decide +kernel, rfl, by decide +kernel, by decide +kernel⟩
theorem ok_loose_along (F : Fun K "loose_along" "loose_along" s_loose_along f fd) (D_loose_plus : Dn P w K mg base 1 "loose_plus" ["one", "other"] (spTwo (· + ·) 1)) (D_loose_times : Dn P w K mg base 1 "loose_times" ["one", "other"] (spTwo (· * ·) 0)) :
    FnOk P w K mg base CX0 3 f fd ["steep", "sample", "moment"] spLalong := by
  refine F.ok sc_loose_along (fun vs H Q E h => ?_) (fun cdv A outer s H vs Q E hr h => ?_)
  · obtain ⟨p, r, s', q, t, u, m, n, rfl, _⟩ := h
    rfl
  obtain ⟨p, r, s', q, t, u, m, n, rfl, hp, ⟨v, hr', hv, zt⟩, zu, hm, hn, k⟩ := h
  refine Jd.go ⟨_, (Jd.pss_one (Jd.ps_ret (Jd.pe_dn D_loose_plus (hr.mono (by decide)) rfl (Jd.pa_cons (Jd.pe_ix (ixT K) (Jd.pv 1) Jd.pe_int (fun _ _ => rfl)) (Jd.pa_cons (Jd.pe_dn D_loose_times (hr.mono (by decide)) rfl (Jd.pa_cons (Jd.pv 0) (Jd.pa_cons (Jd.pe_tup (Jd.pa_cons (Jd.pe_op op_sub (Jd.pv 2) (Jd.pe_ix (ixT K) (Jd.pv 1) Jd.pe_int (fun _ _ => rfl))) (Jd.pa_cons Jd.pe_int Jd.pa_nil st_C) st_B)) Jd.pa_nil st_T) st_N) (he := st_N) (hpl := (anyc st_T any0))) Jd.pa_nil st_K) st_S) (he := st_S) (hpl := (anyc st_K any0))))), ?_⟩
  walk_at "v"
  refine r_new (mk := .tup) (by simp) fun y H1 s1 n1 e1 => ?_
  refine ⟨p, y, s', _, m, n + 1, rfl, hp.up s1, whole_at e1 (zu.sub zt) (by walk_at "o"), by walk_at "o", fun x H2 s2 e2 => ?_⟩
  walk_at "v"
  refine ⟨v, x, q, _, n, _, rfl, (hv.up (s1.trans s2)).qt, e2, by walk_at "o", fun z H3 s3 e3 => ?_⟩
  exact k z H3 (s1.trans (s2.trans s3)) (e3.mono (by walk_at "o"))
theorem sc_loose_height : FnScope ["line", "when"] ["line", "when"] (defScope s_loose_height) := ⟨rfl, rfl, rfl, by decide +kernel, rfl, by decide +kernel, by decide +kernel⟩
theorem ok_loose_height (F : Fun K "loose_height" "loose_height" s_loose_height f fd) (D_loose_plus : Dn P w K mg base 1 "loose_plus" ["one", "other"] (spTwo (· + ·) 1)) (D_loose_times : Dn P w K mg base 1 "loose_times" ["one", "other"] (spTwo (· * ·) 0)) :
    FnOk P w K mg base CX0 3 f fd ["line", "when"] spLheight := by
  refine F.ok sc_loose_height (fun vs H Q E h => ?_) (fun cdv A outer s H vs Q E hr h => ?_)
  · obtain ⟨p, r, s', h', x, m, n, rfl, _⟩ := h
    rfl
  obtain ⟨p, r, s', h', x, m, n, rfl, ⟨a, b, hp, ha, hb⟩, hx, hm, hn, k⟩ := h
  refine Jd.go ⟨_, (Jd.pss_one (Jd.ps_ret (Jd.pe_dn D_loose_plus (hr.mono (by decide)) rfl (Jd.pa_cons (Jd.pe_dn D_loose_times (hr.mono (by decide)) rfl (Jd.pa_cons (Jd.pe_ix (ixT K) (Jd.pv 0) Jd.pe_int (fun _ _ => rfl)) (Jd.pa_cons (Jd.pv 1) Jd.pa_nil st_N) st_S) (he := st_S) (hpl := (anyc st_N any0))) (Jd.pa_cons (Jd.pe_ix (ixT K) (Jd.pv 0) Jd.pe_int (fun _ _ => rfl)) Jd.pa_nil st_S) st_K) (he := st_K) (hpl := (anyc st_S any0))))), ?_⟩
  walk_at "v"
  refine ⟨a, r, _, _, n, m, rfl, ha.qt, hx, by walk_at "o", fun y H1 s1 e1 => ?_⟩
  have hp1 := s1 _ _ hp
  walk_at "v"
  refine ⟨y, b, _, _, _, n, rfl, e1, (hb.up s1).qt, by walk_at "o", fun z H2 s2 e2 => ?_⟩
  exact k z H2 (s1.trans s2) (e2.mono (by walk_at "o"))
theorem sc_loose_off : FnScope ["line", "sample"] ["line", "sample"] (defScope s_loose_off) := ⟨rfl, rfl, rfl, by decide +kernel, rfl, by decide +kernel, by decide +kernel⟩
theorem ok_loose_off (F : Fun K "loose_off" "loose_off" s_loose_off f fd) (D_loose_minus : Dn P w K mg base 1 "loose_minus" ["one", "other"] (spTwo (· - ·) 1)) (D_loose_height : Dn P w K mg base 3 "loose_height" ["line", "when"] spLheight) :
    FnOk P w K mg base CX0 4 f fd ["line", "sample"] spLoff := by
  refine F.ok sc_loose_off (fun vs H Q E h => ?_) (fun cdv A outer s H vs Q E hr h => ?_)
  · obtain ⟨p, r, s', h', q, t, m, n, rfl, _⟩ := h
    rfl
  obtain ⟨p, r, s', h', q, t, m, n, rfl, hl, ⟨v, hr', hv, zt⟩, h1, hm, hn, k⟩ := h
  refine Jd.go ⟨_, (Jd.pss_one (Jd.ps_ret (Jd.pe_dn D_loose_minus (hr.mono (by decide)) rfl (Jd.pa_cons (Jd.pe_ix (ixT K) (Jd.pv 1) Jd.pe_int (fun _ _ => rfl)) (Jd.pa_cons (Jd.pe_dn D_loose_height (hr.mono (by decide)) rfl (Jd.pa_cons (Jd.pv 0) (Jd.pa_cons (Jd.pe_tup (Jd.pa_cons (Jd.pe_ix (ixT K) (Jd.pv 1) Jd.pe_int (fun _ _ => rfl)) (Jd.pa_cons Jd.pe_int Jd.pa_nil st_C) st_S)) Jd.pa_nil st_T) st_N) (he := st_N) (hpl := (anyc st_T any0))) Jd.pa_nil st_K) st_S) (he := st_S) (hpl := (anyc st_K any0))))), ?_⟩
  walk_at "v"
  refine r_new (mk := .tup) (by simp) fun y H1 s1 n1 e1 => ?_
  refine ⟨p, y, s', h', _, m, n, rfl, hl.up s1, whole_at e1 zt h1, by walk_at "o", by walk_at "o", fun x H2 s2 e2 => ?_⟩
  walk_at "v"
  refine ⟨v, x, q, _, m, _, rfl, (hv.up (s1.trans s2)).qt, e2, by walk_at "o", fun z H3 s3 e3 => ?_⟩
  exact k z H3 (s1.trans (s2.trans s3)) (e3.mono (by walk_at "o"))
theorem sc_line_by : FnScope ["steep", "sample"] ["steep", "sample"] (defScope s_line_by) := ⟨rfl, rfl, rfl, by decide +kernel, rfl, by decide +kernel, by decide +kernel⟩
theorem ok_line_by (F : Fun K "line_by" "line_by" s_line_by f fd) (D_loose_along : Dn P w K mg base 3 "loose_along" ["steep", "sample", "moment"] spLalong) (D_reduced : Dn P w K mg base 4 "reduced" ["quotient"] spReduced) : FnOk P w K mg base CX0 5 f fd ["steep", "sample"] spLineBy := by
  refine F.ok sc_line_by (fun vs H Q E h => ?_) (fun cdv A outer s H vs Q E hr h => ?_)
  · obtain ⟨p, r, s', q, t, m, n, rfl, _⟩ := h
    rfl
  obtain ⟨p, r, s', q, t, m, n, rfl, hp, hr', h1, hn, k⟩ := h
  refine Jd.go ⟨_, (Jd.pss_one (Jd.ps_ret (Jd.pe_tup (Jd.pa_cons (Jd.pv 0) (Jd.pa_cons (Jd.pe_dn D_reduced (hr.mono (by decide)) rfl (Jd.pa_cons (Jd.pe_dn D_loose_along (hr.mono (by decide)) rfl (Jd.pa_cons (Jd.pv 0) (Jd.pa_cons (Jd.pv 1) (Jd.pa_cons Jd.pe_int Jd.pa_nil st_C) st_N) st_N) (he := st_N) (hpl := (anyc st_N (anyc st_C any0)))) Jd.pa_nil st_K) (he := st_K) (hpl := any0)) Jd.pa_nil st_K) st_N)))), ?_⟩
  walk_at "v"
  refine ⟨p, r, s', q, t, 0, m, n, rfl, hp.qt, hr', Nat.two_pow_pos n, by walk_at "o", by walk_at "o", fun x H1 s1 e1 => ?_⟩
  walk_at "v"
  refine ⟨x, _, _, rfl, e1, by walk_at "o", fun y H2 s2 e2 => ?_⟩
  walk_at "v"
  refine r_new (mk := .tup) (by simp) fun z H3 s3 n3 e3 => ?_
  refine k z y H3 (s1.trans (s2.trans s3)) e3 ?_
  have e : q + s' * ((0 - t : Int) : Rat) = q - s' * (t : Rat) := by
    simp only [Rat.intCast_sub]
    grind
  rw [e] at e2
  exact e2.up s3
end

noncomputable def spOrderQ : Sp := fun vs H Q _ => ∃ (p r : Addr) (q q' : Rat) (m n : Nat), vs = [.ref p, .ref r] ∧ QtAt H p q m ∧ QtAt H r q' n ∧ m + n ≤ 100000 ∧ ∀ o : Int, (0 < o ↔ q' < q) → (o < 0 ↔ q < q') → Q (.int o) H
section
variable {P : Program} {w : World} {K : PySem.W.Frag} {mg : Str → Option Value} {base : Heap} {f : Addr} {fd : FuncData}
theorem sc_order : FnScope ["one", "other", "left", "right"] ["one", "other"] (defScope s_order) := ⟨rfl, rfl, rfl, by decide +kernel, rfl, by decide +kernel, by decide +kernel⟩
theorem ok_order (F : Fun K "order" "order" s_order f fd) : FnOk P w K mg base CX0 1 f fd ["one", "other"] spOrderQ := by
  refine F.ok sc_order (fun vs H Q E h => ?_) (fun cdv A outer s H vs Q E hr h => ?_)
  · obtain ⟨p, r, q, q', m, n, rfl, _⟩ := h
    rfl
  obtain ⟨p, r, q, q', m, n, rfl, ⟨a, b, hp, hq, za, zb⟩, ⟨c, d, hr', hq', zc, zd⟩, hn, k⟩ := h
  have l1 := hq.lt_iff hq'
  have l2 := hq'.lt_iff hq
  refine Jd.go ⟨_, (Jd.pss_cons (Jd.ps_set (i := 2) sc_order.nd rfl (Or.inl rfl) (Jd.pe_op op_mulB (Jd.pe_ix (ixT K) (Jd.pv 0) Jd.pe_int (fun _ _ => rfl)) (Jd.pe_ix (ixT K) (Jd.pv 1) Jd.pe_int (fun _ _ => rfl))) (hs := sw_B))
      (Jd.pss_cons (Jd.ps_set (i := 3) sc_order.nd rfl (Or.inl rfl) (Jd.pe_op op_mulB (Jd.pe_ix (ixT K) (Jd.pv 1) Jd.pe_int (fun _ _ => rfl)) (Jd.pe_ix (ixT K) (Jd.pv 0) Jd.pe_int (fun _ _ => rfl))) (hs := sw_B))
      (Jd.pss_cons (Jd.ps_if (Jd.pt_cmpR op_lt (Jd.pv 2) (Jd.pv 3) (nomark _))
      (Jd.pss_one (Jd.ps_ret (Jd.pe_un un_neg Jd.pe_int)))
      Jd.pss_nil)
      (Jd.pss_cons (Jd.ps_if (Jd.pt_cmpR op_gt (Jd.pv 2) (Jd.pv 3) (nomark _))
      (Jd.pss_one (Jd.ps_ret Jd.pe_int))
      Jd.pss_nil)
      (Jd.pss_one (Jd.ps_ret Jd.pe_int)))))), ?_⟩
  walk_at "v"
  refine r_I (mulOk za zd (by walk_at "o")) ?_
  walk_at "v"
  refine r_I (mulOk zc zb (by walk_at "o")) ?_
  walk_at "v"
  refine ite2 (fun c1 => ?_) (fun c1 => ?_)
  · have c' := of_decide_eq_true c1
    walk_at "v"
    have x1 := l1.mp c'
    exact k _ ⟨fun z => absurd z (by decide), fun z => by grind⟩ ⟨fun _ => x1, fun _ => by decide⟩
  · have c' := of_decide_eq_false (Bool.eq_false_iff.mpr c1)
    walk_at "v"
    refine ite2 (fun c2 => ?_) (fun c2 => ?_)
    · have c'' := of_decide_eq_true c2
      walk_at "v"
      have x1 := l2.mp c''
      exact k _ ⟨fun _ => x1, fun _ => by decide⟩ ⟨fun z => absurd z (by decide), fun z => by grind⟩
    · have c'' := of_decide_eq_false (Bool.eq_false_iff.mpr c2)
      walk_at "v"
      exact k _ ⟨fun z => absurd z (by decide), fun z => absurd (l2.mpr z) c''⟩ ⟨fun z => absurd z (by decide), fun z => absurd (l1.mpr z) c'⟩
end
section
variable {P : Program} {w : World} {K : PySem.W.Frag} {mg : Str → Option Value} {base : Heap} {f : Addr} {fd : FuncData}
end

theorem pickP {zs : List Int} {i : Int} (P : Int → Prop) (hz : ∀ z ∈ zs, P z) (h0 : 0 ≤ i) (h1 : i < (zs.length : Int)) : ∃ v : Int, atI (zs.map V.int) i = some (.int v) ∧ P v := by
  have hk : i.toNat < zs.length := by walk_at "o"
  exact ⟨zs[i.toNat], at_ints (List.getElem?_eq_getElem hk) (by walk_at "o"), hz _ (List.getElem_mem hk)⟩
theorem row_get {xs zs : List Int} (hlen : xs.length = zs.length) (hxs : ∀ (j : Nat) (x z : Int), xs[j]? = some x → zs[j]? = some z → 0 ≤ x ∧ x < z) (j : Nat) {z : Int} (ez : zs[j]? = some z) : ∃ x, xs[j]? = some x ∧ 0 ≤ x ∧ x < z := by
  have hj := (List.getElem?_eq_some_iff.mp ez).1
  rw [← hlen] at hj
  exact ⟨xs[j], List.getElem?_eq_getElem hj, hxs j _ z (List.getElem?_eq_getElem hj) ez⟩
theorem of_low' {T B t b : Int} (h : Low T B t b) (hB : B ≠ 0) : Fr t b ((T : Rat) / (B : Rat)) := by
  refine Fr.of_low h hB ?_
  have := cast_ne hB
  grind
theorem is_fr {H : Hp} {p : Addr} {q : Rat} {n : Nat} {Q : VK} (f : FrAt H p q n) (hn : n ≤ 8000) (k : ∀ H', Same H H' → Q (.bl true) H') : spIs ([.ref p] ++ []) H Q E0 := by
  obtain ⟨t, b, e, f, zt, zb⟩ := f
  refine ⟨p, t, b, rfl, e, zb.mono hn, fun r H' s hr => ?_⟩
  obtain rfl : r = true := hr.mpr ⟨f.pos, f.co⟩
  exact k H' s
theorem r_unpack2 {σ : St} {H : Hp} {K : PySem.W.Frag} {p : Addr} {x y : V} {i j : Nat} {R : St → Hp → Prop} (h : H p = some (.tup [x, y])) (q : R ((σ.set i (some x)).set j (some y)) H) : gTup K 2 (gCons (gName i) (gCons (gName j) gNil)) (.ref p) σ H R :=
  ⟨p, _, rfl, SqT.of h, rfl, x, _, rfl, y, _, rfl, rfl, q⟩

noncomputable abbrev En := Addr × Int × Option Rat
noncomputable def EnAt (H : Hp) (x : En) (n : Nat) : Prop := Sz n x.2.1 ∧ match x.2.2 with
  | none => H x.1 = some (.tup [.int x.2.1, .non])
  | some q => ∃ p, H x.1 = some (.tup [.int x.2.1, .ref p]) ∧ FrAt H p q n
theorem EnAt.up {H H' : Hp} {x : En} {n : Nat} (f : EnAt H x n) (s : Same H H') : EnAt H' x n := by
  obtain ⟨a, m, v⟩ := x
  cases v with
  | none => exact ⟨f.1, s _ _ f.2⟩
  | some q => exact ⟨f.1, let ⟨p, e, g⟩ := f.2; ⟨p, s _ _ e, g.up s⟩⟩
noncomputable def Row (H : Hp) (es : List En) (n : Nat) : Prop := ∀ x ∈ es, EnAt H x n
theorem Row.up {H H' : Hp} {es : List En} {n : Nat} (h : Row H es n) (s : Same H H') : Row H' es n := fun x hx => (h x hx).up s
theorem Row.snoc {H : Hp} {es : List En} {x : En} {n : Nat} (h : Row H es n) (hx : EnAt H x n) : Row H (es ++ [x]) n := fun y hy => by
  rcases List.mem_append.mp hy with z | z
  · exact h y z
  · obtain rfl : y = x := by simpa using z
    exact hx
noncomputable def vals (es : List En) : List V := es.map fun x => V.ref x.1
theorem vals_at {es : List En} {i : Nat} {v : V} (h : (vals es)[i]? = some v) : ∃ x, es[i]? = some x ∧ v = .ref x.1 := by
  unfold vals at h
  rw [List.getElem?_map] at h
  cases e : es[i]? with
  | none => rw [e] at h; cases h
  | some x => rw [e] at h; cases h; exact ⟨x, rfl, rfl⟩
theorem vals_get {es : List En} {i : Nat} {x : En} (h : es[i]? = some x) : (vals es)[i]? = some (.ref x.1) := by
  unfold vals
  rw [List.getElem?_map, h]
  rfl
theorem vals_len (es : List En) : (vals es).length = es.length := List.length_map ..
theorem vals_snoc (es : List En) (x : En) : vals es ++ [.ref x.1] = vals (es ++ [x]) := by simp [vals]
noncomputable def rising (es : List En) : Prop := es.Pairwise fun a b => a.2.1 < b.2.1
theorem frac_gen {T B : Int} {n : Nat} {H : Hp} {Q : VK} (hB : 0 < B) (zT : Sz n T) (zB : Sz n B) (hn : n ≤ 8000) (kk : ∀ (p : Addr) (H' : Hp), Same H H' → FrAt H' p ((T : Rat) / (B : Rat)) n → Q (.ref p) H') : spRatio ([.int T, .int B] ++ []) H Q E0 :=
  ⟨_, _, rfl, hB, zB.mono hn, fun p t b H' s e lo => kk p H' s ⟨t, b, e, of_low' lo (by walk_at "o"), zT.of_le lo.tb, zB.of_le lo.bb⟩⟩
section
variable {P : Program} {w : World} {K : PySem.W.Frag} {mg : Str → Option Value} {base : Heap} {f : Addr} {fd : FuncData}
end

noncomputable def smp (x : En) : Bool := x.2.2.isSome
section
variable {H H2 H3 : Hp} {T R : Addr} {ls : Ls} {o : HO} {rn : List En}
end
section
variable {P : Program} {w : World} {K : PySem.W.Frag} {mg : Str → Option Value} {base : Heap} {f : Addr} {fd : FuncData}
end

noncomputable abbrev Nn := Addr × Int × Option Int
noncomputable def nnv : Option Int → V
  | none => .non
  | some n => .int n
noncomputable def NnAt (H : Hp) (x : Nn) (m n : Nat) : Prop := H x.1 = some (.tup [.int x.2.1, nnv x.2.2]) ∧ Sz m x.2.1 ∧ ∀ z, x.2.2 = some z → Sz n z
theorem NnAt.up {H H' : Hp} {x : Nn} {m n : Nat} (f : NnAt H x m n) (s : Same H H') : NnAt H' x m n := ⟨s _ _ f.1, f.2⟩
theorem NnAt.rm {H : Hp} {D : Addr} {x : Nn} {m n : Nat} {ys : List V} (hD : H D = some (.lst ys)) (f : NnAt H x m n) : NnAt (rm D H) x m n := ⟨rm_tup hD f.1, f.2⟩
noncomputable def NRow (H : Hp) (es : List Nn) (m n : Nat) : Prop := ∀ x ∈ es, NnAt H x m n
theorem NRow.up {H H' : Hp} {es : List Nn} {m n : Nat} (h : NRow H es m n) (s : Same H H') : NRow H' es m n := fun x hx => (h x hx).up s
theorem NRow.app {H : Hp} {R : Addr} {es : List Nn} {m n : Nat} {ys : List V} {o : HO} (f : NRow H es m n) (h : H R = some (.lst ys)) : NRow (upd H R o) es m n := fun x hx => ((f x hx).rm h).up (rm_up R H o)
theorem NRow.snoc {H : Hp} {es : List Nn} {x : Nn} {m n : Nat} (h : NRow H es m n) (hx : NnAt H x m n) : NRow H (es ++ [x]) m n := fun y hy => by
  rcases List.mem_append.mp hy with z | z
  · exact h y z
  · obtain rfl : y = x := by simpa using z
    exact hx
noncomputable def nvals (es : List Nn) : List V := es.map fun x => V.ref x.1
theorem nvals_len (es : List Nn) : (nvals es).length = es.length := List.length_map ..
theorem nvals_snoc (es : List Nn) (x : Nn) : nvals es ++ [.ref x.1] = nvals (es ++ [x]) := by simp [nvals]
theorem nvals_at {es : List Nn} {i : Nat} {v : V} (h : (nvals es)[i]? = some v) : ∃ x, es[i]? = some x ∧ v = .ref x.1 := by
  unfold nvals at h
  rw [List.getElem?_map] at h
  cases e : es[i]? with
  | none => rw [e] at h; cases h
  | some x => rw [e] at h; cases h; exact ⟨x, rfl, rfl⟩
noncomputable def nrising (es : List Nn) : Prop := es.Pairwise fun a b => a.2.1 < b.2.1
structure Shp (xs : List Int) (c : Nat) : Prop where
  x0 : xs[0]? = some (c : Int)
  x1 : ∃ x, xs[1]? = some x ∧ 0 ≤ x ∧ x < 4
  x4 : ∃ x, xs[4]? = some x ∧ 0 ≤ x ∧ x < 3
  x5 : ∃ x, xs[5]? = some x ∧ 0 ≤ x ∧ x < 4
  x12 : ∃ x, xs[12]? = some x ∧ 0 ≤ x ∧ x < 3
  each : ∀ k, k < c → ∃ x y z, xs[3 * k + 13]? = some x ∧ xs[3 * k + 14]? = some y ∧ xs[3 * k + 15]? = some z ∧ 0 ≤ x ∧ x < 3 ∧ 0 ≤ y ∧ y < 9 ∧ 0 ≤ z ∧ z < 25
noncomputable def spShaped : Sp := fun vs H Q _ => ∃ (lw tl : Addr) (xs : List Int) (c : Nat) (sc t0 t1 : Int), vs = [.ref lw, .int sc, .ref tl] ∧ H lw = some (.lst (xs.map V.int)) ∧ Shp xs c ∧ c ≤ 40 ∧ H tl = some (.tup [.int t0, .int t1]) ∧ Sz 45 sc ∧ Sz 45 t0 ∧ Sz 45 t1 ∧
  ∀ (R : Addr) (es : List Nn) (H' : Hp), Same H H' → H R = none → H' R = some (.lst (nvals es)) → NRow H' es 45 100 → es.length = c → nrising es → Q (.ref R) H'
section
variable {P : Program} {w : World} {K : PySem.W.Frag} {mg : Str → Option Value} {base : Heap} {f : Addr} {fd : FuncData}
theorem sc_law_shaped : FnScope ["_law_some", "_law_scale", "_law_tilt", "_law_moment", "_law_up", "_law_rise", "_law_row_here", "_law_k", "_law_at", "_law_high_here", "_law_lean"] ["_law_some", "_law_scale", "_law_tilt"] (defScope s_law_shaped) := ⟨rfl, rfl, rfl, by decide +kernel, rfl, by decide +kernel, by decide +kernel⟩
theorem ok_law_shaped (F : Fun K "_law_shaped" "_law_shaped" s_law_shaped f fd) (T : Txt mg) : FnOk P w K mg base CX0 1 f fd ["_law_some", "_law_scale", "_law_tilt"] spShaped := by
  refine F.ok sc_law_shaped (fun vs H Q E h => ?_) (fun cdv A outer s H vs Q E hr h => ?_)
  · obtain ⟨lw, tl, xs, c, sc, t0, t1, rfl, _⟩ := h
    rfl
  obtain ⟨lw, tl, xs, c, sc, t0, t1, rfl, e0, S, hc, et, zsc, zt0, zt1, k⟩ := h
  obtain ⟨x1, g1, a1, b1⟩ := S.x1
  obtain ⟨x4, g4, a4, b4⟩ := S.x4
  obtain ⟨x5, g5, a5, b5⟩ := S.x5
  obtain ⟨x12, g12, a12, b12⟩ := S.x12
  have w : ∀ {H' : Hp}, Same H H' → H' lw = some (.lst (xs.map V.int)) := fun s => s _ _ e0
  refine Jd.go ⟨_, (Jd.pss_cons (Jd.ps_set (i := 3) sc_law_shaped.nd rfl (Or.inl rfl) (Jd.pe_ix (ixL K) (Jd.pe_lst (Jd.pa_cons (Jd.pe_un un_neg Jd.pe_int) (Jd.pa_cons (Jd.pe_un un_neg Jd.pe_int) (Jd.pa_cons Jd.pe_int (Jd.pa_cons (Jd.pe_un un_neg (Jd.pe_op op_pow Jd.pe_int Jd.pe_int)) Jd.pa_nil st_U) st_C) st_U) st_U)) (Jd.pe_ix (ixL K) (Jd.pv 0) Jd.pe_int (fun _ _ => rfl)) (fun _ _ => rfl)) (hs := sw_S))
      (Jd.pss_cons (Jd.ps_set (i := 4) sc_law_shaped.nd rfl (Or.inl rfl) Jd.pe_int (hs := sw_C))
      (Jd.pss_cons (Jd.ps_set (i := 5) sc_law_shaped.nd rfl (Or.inl rfl) Jd.pe_int (hs := sw_C))
      (Jd.pss_cons (Jd.ps_set (i := 6) sc_law_shaped.nd rfl (Or.inl rfl) (Jd.pe_lst Jd.pa_nil) (hs := sw_L))
      (Jd.pss_cons (Jd.ps_for PassesOwn.never rfl (Jd.pi_range1 rfl T.range (Jd.pa_cons (Jd.pe_ix (ixL K) (Jd.pv 0) Jd.pe_int (fun _ _ => rfl)) Jd.pa_nil st_S)) (Jd.pg_name (i := 7) sc_law_shaped.nd rfl (Or.inl rfl))
      (Jd.pss_cons (Jd.ps_set (i := 8) sc_law_shaped.nd rfl (Or.inl rfl) (Jd.pe_op op_add (Jd.pe_op op_mulB Jd.pe_int (Jd.pv 7)) Jd.pe_int) (hs := sw_B))
      (Jd.pss_cons (Jd.ps_set (i := 3) sc_law_shaped.nd rfl (Or.inl rfl) (Jd.pe_op op_add (Jd.pe_op op_add (Jd.pv 3) Jd.pe_int) (Jd.pe_op op_mulB (Jd.pe_ix (ixL K) (Jd.pv 0) (Jd.pv 8) (fun _ _ => rfl)) (Jd.pe_ix (ixL K) (Jd.pe_lst (Jd.pa_cons Jd.pe_int (Jd.pa_cons Jd.pe_int (Jd.pa_cons Jd.pe_int Jd.pa_nil st_C) st_C) st_C)) (Jd.pe_ix (ixL K) (Jd.pv 0) Jd.pe_int (fun _ _ => rfl)) (fun _ _ => rfl)))) (hs := sw_B))
      (Jd.pss_cons (Jd.ps_set (i := 9) sc_law_shaped.nd rfl (Or.inl rfl) (Jd.pe_op op_sub (Jd.pe_ix (ixL K) (Jd.pv 0) (Jd.pe_op op_add (Jd.pv 8) Jd.pe_int) (fun _ _ => rfl)) Jd.pe_int) (hs := sw_B))
      (Jd.pss_cons (Jd.ps_if (Jd.pt_cmpR op_eq (Jd.pe_ix (ixL K) (Jd.pv 0) Jd.pe_int (fun _ _ => rfl)) Jd.pe_int (nomark _))
      (Jd.pss_one (Jd.ps_set (i := 4) sc_law_shaped.nd rfl (Or.inl rfl) (Jd.pv 9) (hs := sw_N)))
      Jd.pss_nil)
      (Jd.pss_cons (Jd.ps_if (Jd.pt_cmpR op_eq (Jd.pe_ix (ixL K) (Jd.pv 0) Jd.pe_int (fun _ _ => rfl)) Jd.pe_int (nomark _))
      (Jd.pss_cons (Jd.ps_set (i := 5) sc_law_shaped.nd rfl (Or.inl rfl) (Jd.pe_op op_sub (Jd.pe_op op_add (Jd.pv 5) (Jd.pe_op op_mod (Jd.pv 9) Jd.pe_int)) Jd.pe_int) (hs := sw_B))
      (Jd.pss_one (Jd.ps_set (i := 4) sc_law_shaped.nd rfl (Or.inl rfl) (Jd.pe_op op_add (Jd.pv 4) (Jd.pv 5)) (hs := sw_B))))
      Jd.pss_nil)
      (Jd.pss_cons (Jd.ps_if (Jd.pt_cmpR op_eq (Jd.pe_ix (ixL K) (Jd.pv 0) Jd.pe_int (fun _ _ => rfl)) Jd.pe_int (nomark _))
      (Jd.pss_one (Jd.ps_set (i := 4) sc_law_shaped.nd rfl (Or.inl rfl) (Jd.pe_op op_add (Jd.pv 4) (Jd.pv 9)) (hs := sw_B)))
      Jd.pss_nil)
      (Jd.pss_cons (Jd.ps_if (Jd.pt_cmpR op_eq (Jd.pe_ix (ixL K) (Jd.pv 0) Jd.pe_int (fun _ _ => rfl)) Jd.pe_int (nomark _))
      (Jd.pss_one (Jd.ps_set (i := 4) sc_law_shaped.nd rfl (Or.inl rfl) (Jd.pe_op op_mod (Jd.pv 9) Jd.pe_int) (hs := sw_B)))
      Jd.pss_nil)
      (Jd.pss_one (Jd.ps_if (Jd.pt_cmpR op_lt (Jd.pe_ix (ixL K) (Jd.pv 0) (Jd.pe_op op_add (Jd.pv 8) Jd.pe_int) (fun _ _ => rfl)) (Jd.pe_ix (ixL K) (Jd.pe_lst (Jd.pa_cons Jd.pe_int (Jd.pa_cons Jd.pe_int (Jd.pa_cons Jd.pe_int Jd.pa_nil st_C) st_C) st_C)) (Jd.pe_ix (ixL K) (Jd.pv 0) Jd.pe_int (fun _ _ => rfl)) (fun _ _ => rfl)) (nomark _))
      (Jd.pss_one (Jd.ps_expr (Jd.appC K (Jd.pv 6) (Jd.pe_tup (Jd.pa_cons (Jd.pv 3) (Jd.pa_cons Jd.pe_non Jd.pa_nil st_C) st_N))) (hs := sw_K)))
      (Jd.pss_cons (Jd.ps_set (i := 10) sc_law_shaped.nd rfl (Or.inl rfl) (Jd.pe_op op_add (Jd.pe_op op_mulB (Jd.pe_ix (ixT K) (Jd.pv 2) Jd.pe_int (fun _ _ => rfl)) (Jd.pv 3)) (Jd.pe_ix (ixT K) (Jd.pv 2) Jd.pe_int (fun _ _ => rfl))) (hs := sw_B))
      (Jd.pss_one (Jd.ps_expr (Jd.appC K (Jd.pv 6) (Jd.pe_tup (Jd.pa_cons (Jd.pv 3) (Jd.pa_cons (Jd.pe_op op_add (Jd.pe_op op_mulB (Jd.pv 4) (Jd.pv 1)) (Jd.pv 10)) Jd.pa_nil st_B) st_N))) (hs := sw_K))))))))))))))
      (Jd.pss_one (Jd.ps_ret (Jd.pv 6)))))))), ?_⟩
  walk_at "v"
  refine r_new (mk := .lst) (by simp) fun l1 H1 s1 n1 e1 => ?_
  walk_at "v"
  refine r_l (w s1) (at_ints g1 rfl) ?_
  obtain ⟨mo, emo, zmo⟩ := pickP (zs := [-1, -5, 1000003, -(10 ^ (12 : Int).toNat)]) (fun z => z.natAbs ≤ 10 ^ 12) (by decide +kernel) a1 b1
  refine r_l e1 emo ?_
  walk_at "v"
  refine r_new (mk := .lst) (by simp) fun R H2 s2 n2 e2 => ?_
  have s02 := s1.trans s2
  walk_at "v"
  refine r_for (r_rng1 ?_)
  walk_at "v"
  refine r_l (w s02) (at_ints S.x0 rfl) ?_
  walk_at "v"
  refine ⟨c, rfl, by lia, by lia, for_range (fun j σ H3 => ∃ (m up rise : Int) (es : List Nn) (v7 v8 v9 v10 : Option V), σ = [some (.ref lw), some (.int sc), some (.ref tl), some (.int m), some (.int up), some (.int rise), some (.ref R), v7, v8, v9, v10] ∧
    Same H1 H3 ∧ H3 R = some (.lst (nvals es)) ∧ NRow H3 es 45 100 ∧ es.length = j ∧ m.natAbs ≤ 10 ^ 12 + 3000 * j ∧ rise.natAbs ≤ 3 * j ∧ up.natAbs ≤ 130 * j + 12 ∧ nrising es ∧ ∀ x ∈ es, x.2.1 ≤ m) ?_ ?_ ?_⟩
  · exact ⟨mo, 0, 0, [], none, none, none, none, rfl, s2, e2, fun x hx => absurd hx (by simp), rfl, by simpa using zmo, by decide, by decide, List.Pairwise.nil, fun x hx => absurd hx (by simp)⟩
  · rintro j σ H3 hj ⟨m, up, rise, es, v7, v8, v9, v10, rfl, s3, e3, hes, hl, hm, hri, hup, hrs, hle⟩
    have hj' : j < c := by simpa using hj
    obtain ⟨x, y, z, gx, gy, gz, ax, bx, ay, by', az, bz⟩ := S.each j hj'
    have s13 := s1.trans s3
    have w3 := w s13
    walk_at "v"
    refine r_l w3 (at_ints gx (by walk_at "o")) ?_
    walk_at "v"
    refine r_new (mk := .lst) (by simp) fun l4 H4 s4 n4 e4 => ?_
    walk_at "v"
    refine r_l (s4 _ _ w3) (at_ints g4 rfl) ?_
    obtain ⟨wd, ewd, zwd⟩ := pickP (zs := [1, 1, 1009]) (fun z => 1 ≤ z ∧ z ≤ 1009) (by decide +kernel) a4 b4
    refine r_l e4 ewd ?_
    walk_at "v"
    refine r_I (mulL (by walk_at "o") (by walk_at "o")) ?_
    have p5 : 0 ≤ x * wd := Int.mul_nonneg ax (by walk_at "o")
    have q5 : x * wd ≤ 2 * 1009 := Int.mul_le_mul (by walk_at "o") zwd.2 (by walk_at "o") (by walk_at "o")
    generalize x * wd = st at p5 q5 ⊢
    have ten : (10 : Nat) ^ 12 + 3000 * 41 < 2 ^ 44 := by decide +kernel
    have bm : (m + 1 + st).natAbs ≤ 10 ^ 12 + 3000 * (j + 1) := by
      rw [Int.add_assoc]
      exact nab hm (nabm p5 q5) (by lia)
    have zm : Sz 44 (m + 1 + st) := Nat.lt_of_le_of_lt bm (by lia)
    have w4 := s4 _ _ w3
    walk_at "v"
    refine r_l w4 (at_ints gz (by walk_at "o")) ?_
    have hj40 : j < 40 := by walk_at "o"
    have s14 := s3.trans s4
    -- the row's next entry
    have fin : ∀ (u : Nn) (H5 : Hp) (up' rise' : Int) (v7 v8 v9 v10 : Option V), u.2.1 = m + 1 + st → Same H4 H5 → NnAt H5 u 45 100 → rise'.natAbs ≤ 3 * (j + 1) → up'.natAbs ≤ 130 * (j + 1) + 12 →
        ∃ (m' up2 rise2 : Int) (es' : List Nn) (v7' v8' v9' v10' : Option V), [some (.ref lw), some (.int sc), some (.ref tl), some (.int (m + 1 + st)), some (.int up'), some (.int rise'), some (.ref R), v7, v8, v9, v10] = [some (.ref lw), some (.int sc), some (.ref tl), some (.int m'), some (.int up2), some (.int rise2), some (.ref R), v7', v8', v9', v10'] ∧
          Same H1 (upd H5 R (.lst (nvals es ++ [.ref u.1]))) ∧ upd H5 R (.lst (nvals es ++ [.ref u.1])) R = some (.lst (nvals es')) ∧ NRow (upd H5 R (.lst (nvals es ++ [.ref u.1]))) es' 45 100 ∧ es'.length = j + 1 ∧ m'.natAbs ≤ 10 ^ 12 + 3000 * (j + 1) ∧ rise2.natAbs ≤ 3 * (j + 1) ∧ up2.natAbs ≤ 130 * (j + 1) + 12 ∧ nrising es' ∧ ∀ x ∈ es', x.2.1 ≤ m' := by
      intro u H5 up' rise' v7 v8 v9 v10 hu s5 f5 h1 h2
      have s35 := s4.trans s5
      have eR := s35 _ _ e3
      refine ⟨m + 1 + st, up', rise', es ++ [u], v7, v8, v9, v10, rfl, same_at (s3.trans s35) n2, by rw [upd_same, nvals_snoc], ((hes.up s35).snoc f5).app eR, by rw [List.length_append, hl]; rfl, bm, h1, h2, ?_, fun y hy => ?_⟩
      · refine List.pairwise_append.mpr ⟨hrs, List.pairwise_singleton _ _, fun y hy z hz => ?_⟩
        obtain rfl : z = u := by simpa using hz
        have := hle y hy
        walk_at "o"
      · rcases List.mem_append.mp hy with z | z
        · have := hle y z
          walk_at "o"
        · obtain rfl : y = u := by simpa using z
          walk_at "o"
    obtain ⟨th, eth, zth⟩ := pickP (zs := [0, 1, 3]) (fun z => 0 ≤ z) (by decide +kernel) a12 b12
    have et4 := (s13.trans s4) _ _ et
    have m5a : 0 ≤ (z - 12) % 5 := Int.emod_nonneg _ (by decide)
    have m5b : (z - 12) % 5 < 5 := Int.emod_lt_of_pos _ (by decide)
    have m3a : 0 ≤ (z - 12) % 3 := Int.emod_nonneg _ (by decide)
    have m3b : (z - 12) % 3 < 3 := Int.emod_lt_of_pos _ (by decide)
    refine r_c ?_
    refine r_I0 ?_
    refine r_g ?_
    refine nx_of ?_
    refine seq_cut4 (fun σ' H' => H' = H4 ∧ ∃ up' rise' : Int, σ' = [some (.ref lw), some (.int sc), some (.ref tl), some (.int (m + 1 + st)), some (.int up'), some (.int rise'), some (.ref R), some (.int (0 + (j : Int))), some (.int (3 * (0 + (j : Int)) + 13)), some (.int (z - 12)), v10] ∧ rise'.natAbs ≤ 3 * (j + 1) ∧ up'.natAbs ≤ 130 * (j + 1) + 12) (fun σ' H' hP => ?_) (fun N rest => ?_)
    rotate_left
    · walk_at "v"
      refine r_l w4 (at_ints g5 rfl) ?_
      walk_at "v"
      rcases (show x5 = 0 ∨ x5 = 1 ∨ x5 = 2 ∨ x5 = 3 by walk_at "o") with rfl | rfl | rfl | rfl
      · refine iteT ?_
        walk_at "v"
        refine r_l w4 (at_ints g5 rfl) ?_
        walk_at "v"
        refine iteF ?_
        walk_at "v"
        refine r_l w4 (at_ints g5 rfl) ?_
        walk_at "v"
        refine iteF ?_
        walk_at "v"
        refine r_l w4 (at_ints g5 rfl) ?_
        walk_at "v"
        refine iteF ?_
        walk_at "v"
        exact rest _ _ ⟨rfl, _, _, rfl, Nat.le_trans hri (by lia), Nat.le_trans (nabz az bz) (by lia)⟩
      · refine iteF ?_
        walk_at "v"
        refine r_l w4 (at_ints g5 rfl) ?_
        walk_at "v"
        refine iteT ?_
        walk_at "v"
        refine r_l w4 (at_ints g5 rfl) ?_
        walk_at "v"
        refine iteF ?_
        walk_at "v"
        refine r_l w4 (at_ints g5 rfl) ?_
        walk_at "v"
        refine iteF ?_
        walk_at "v"
        have r1 : (rise + (z - 12) % 5 - 1).natAbs ≤ 3 * (j + 1) := by
          rw [Int.add_sub_assoc]
          exact nab hri (nab5 m5a m5b) (by lia)
        exact rest _ _ ⟨rfl, _, _, rfl, r1, nab hup r1 (by lia)⟩
      · refine iteF ?_
        walk_at "v"
        refine r_l w4 (at_ints g5 rfl) ?_
        walk_at "v"
        refine iteF ?_
        walk_at "v"
        refine r_l w4 (at_ints g5 rfl) ?_
        walk_at "v"
        refine iteT ?_
        walk_at "v"
        refine r_l w4 (at_ints g5 rfl) ?_
        walk_at "v"
        refine iteF ?_
        walk_at "v"
        exact rest _ _ ⟨rfl, _, _, rfl, Nat.le_trans hri (by lia), nab hup (nabz az bz) (by lia)⟩
      · refine iteF ?_
        walk_at "v"
        refine r_l w4 (at_ints g5 rfl) ?_
        walk_at "v"
        refine iteF ?_
        walk_at "v"
        refine r_l w4 (at_ints g5 rfl) ?_
        walk_at "v"
        refine iteF ?_
        walk_at "v"
        refine r_l w4 (at_ints g5 rfl) ?_
        walk_at "v"
        refine iteT ?_
        walk_at "v"
        exact rest _ _ ⟨rfl, _, _, rfl, Nat.le_trans hri (by lia), Nat.le_trans (nab3 m3a m3b) (by lia)⟩
    obtain ⟨rfl, up', rise', rfl, br, bu⟩ := hP
    walk_at "v"
    refine r_l w4 (at_ints gy (by walk_at "o")) ?_
    walk_at "v"
    refine r_new (mk := .lst) (by simp) fun l6 H6 s6 n6 e6 => ?_
    walk_at "v"
    refine r_l (s6 _ _ w4) (at_ints g12 rfl) ?_
    refine r_l e6 eth ?_
    walk_at "v"
    have e36 := s6 _ _ (s4 _ _ e3)
    refine ite2 (fun c => ?_) (fun c => ?_)
    · walk_at "v"
      refine ⟨.inl ⟨rfl, _, SqL.of e36⟩, ?_⟩
      walk_at "v"
      refine r_new (mk := .tup) (by simp) fun pe H7 s7 n7 e7 => ?_
      walk_at "v"
      refine r_app (s7 _ _ e36) (by rw [nvals_len]; exact small1000 (by walk_at "o")) ?_
      exact fin (pe, m + 1 + st, none) H7 _ _ _ _ _ _ rfl (s6.trans s7) ⟨e7, zm.mono (by decide), fun z q => by cases q⟩ br bu
    · have et6 := s6 _ _ et4
      walk_at "v"
      refine r_I (mulOk zt0 zm) ?_
      walk_at "v"
      refine ⟨.inl ⟨rfl, _, SqL.of e36⟩, ?_⟩
      walk_at "v"
      have zu : Sz 14 up' := show up'.natAbs < 2 ^ 14 by walk_at "o"
      refine r_I (mulOk zu zsc) ?_
      walk_at "v"
      refine r_new (mk := .tup) (by simp) fun pe H7 s7 n7 e7 => ?_
      walk_at "v"
      refine r_app (s7 _ _ e36) (by rw [nvals_len]; exact small1000 (by walk_at "o")) ?_
      exact fin (pe, m + 1 + st, some _) H7 _ _ _ _ _ _ rfl (s6.trans s7) ⟨e7, zm.mono (by decide), fun z q => by
        cases q
        exact (((zu.mul zsc).mono (show 14 + 45 ≤ 90 by decide)).add (((zt0.mul zm).mono (show 45 + 44 ≤ 89 by decide)).add (zt1.mono (by decide)))).mono (by decide)⟩ br bu
  · rintro σ H3 ⟨m, up, rise, es, v7, v8, v9, v10, rfl, s3, e3, hes, hl, hm, hri, hup, hrs, hle⟩
    walk_at "v"
    exact k R es H3 (s1.trans s3) (s1.free n2) e3 hes (by simpa using hl) hrs
noncomputable def spTimes : Sp := fun vs H Q _ => ∃ (l : Addr) (es : List Nn) (b : Int) (n nb : Nat), vs = [.ref l, .int b] ∧ H l = some (.lst (nvals es)) ∧ NRow H es 45 n ∧ es.length ≤ 40 ∧ Sz nb b ∧ n + nb ≤ 8000 ∧
  ∀ (R : Addr) (es' : List Nn) (H' : Hp), Same H H' → H R = none → H' R = some (.lst (nvals es')) → NRow H' es' 45 (n + nb) → es'.map (·.2) = es.map (fun x => (x.2.1, x.2.2.map (· * b))) → Q (.ref R) H'
theorem sc_law_times : FnScope ["_law_row_here", "_law_by", "_law_some", "_law_moment", "_law_number"] ["_law_row_here", "_law_by"] (defScope s_law_times) := ⟨rfl, rfl, rfl, by decide +kernel, rfl, by decide +kernel, by decide +kernel⟩
theorem ok_law_times (F : Fun K "_law_times" "_law_times" s_law_times f fd) : FnOk P w K mg base CX0 1 f fd ["_law_row_here", "_law_by"] spTimes := by
  refine F.ok sc_law_times (fun vs H Q E h => ?_) (fun cdv A outer s H vs Q E hr h => ?_)
  · obtain ⟨l, es, b, n, nb, rfl, _⟩ := h
    rfl
  obtain ⟨l, es, b, n, nb, rfl, hl, hes, h40, zb, hn, k⟩ := h
  refine Jd.go ⟨_, (Jd.pss_cons (Jd.ps_set (i := 2) sc_law_times.nd rfl (Or.inl rfl) (Jd.pe_lst Jd.pa_nil) (hs := sw_L))
      (Jd.pss_cons (Jd.ps_for PassesOwn.never rfl (Jd.piL K (Jd.pv 0)) (Jd.pgT K (n := 2) rfl (Jd.pgs_cons (Jd.pg_name (i := 3) sc_law_times.nd rfl (Or.inl rfl)) (Jd.pgs_cons (Jd.pg_name (i := 4) sc_law_times.nd rfl (Or.inl rfl)) Jd.pgs_nil)))
      (Jd.pss_one (Jd.ps_if (Jd.pt_cmpR op_isN (Jd.pv 4) Jd.pe_non (nomark _))
      (Jd.pss_one (Jd.ps_expr (Jd.appC K (Jd.pv 2) (Jd.pe_tup (Jd.pa_cons (Jd.pv 3) (Jd.pa_cons Jd.pe_non Jd.pa_nil st_C) st_N))) (hs := sw_K)))
      (Jd.pss_one (Jd.ps_expr (Jd.appC K (Jd.pv 2) (Jd.pe_tup (Jd.pa_cons (Jd.pv 3) (Jd.pa_cons (Jd.pe_op op_mulB (Jd.pv 4) (Jd.pv 1)) Jd.pa_nil st_B) st_N))) (hs := sw_K))))))
      (Jd.pss_one (Jd.ps_ret (Jd.pv 2))))), ?_⟩
  walk_at "v"
  refine r_new (mk := .lst) (by simp) fun R H1 s1 n1 e1 => ?_
  walk_at "v"
  refine r_for (r_iL ?_)
  walk_at "v"
  refine ⟨l, rfl, ⟨_, SqL.of (s1 _ _ hl)⟩, for_list (xs := nvals es) (fun i σ H3 => ∃ (es' : List Nn) (v3 v4 : Option V), σ = [some (.ref l), some (.int b), some (.ref R), v3, v4] ∧ Same H H3 ∧ H3 R = some (.lst (nvals es')) ∧ NRow H3 es' 45 (n + nb) ∧ es'.length = i ∧ es'.map (·.2) = (es.take i).map (fun x => (x.2.1, x.2.2.map (· * b)))) ?_ ?_ ?_ ?_⟩
  · exact ⟨[], none, none, rfl, s1, e1, fun x hx => absurd hx (by simp), rfl, rfl⟩
  · rintro i σ H3 _ ⟨es', v3, v4, rfl, s3, _⟩
    exact SqL.of (s3 _ _ hl)
  · rintro i x σ H3 hx ⟨es', v3, v4, rfl, s3, e3, hes', hl', hmap⟩
    obtain ⟨e, he, rfl⟩ := nvals_at hx
    have hi : i < es.length := (List.getElem?_eq_some_iff.mp he).1
    have fe := (hes e (List.mem_of_getElem? he)).up s3
    have tk : es.take (i + 1) = es.take i ++ [e] := by rw [List.take_add_one, he]; rfl
    have fin : ∀ (y : Addr) (H4 : Hp) (v3 v4 : Option V), Same H3 H4 → NnAt H4 (y, e.2.1, e.2.2.map (· * b)) 45 (n + nb) → ∃ (es'' : List Nn) (v3' v4' : Option V), [some (.ref l), some (.int b), some (.ref R), v3, v4] = [some (.ref l), some (.int b), some (.ref R), v3', v4'] ∧
        Same H (upd H4 R (.lst (nvals es' ++ [.ref y]))) ∧ upd H4 R (.lst (nvals es' ++ [.ref y])) R = some (.lst (nvals es'')) ∧ NRow (upd H4 R (.lst (nvals es' ++ [.ref y]))) es'' 45 (n + nb) ∧ es''.length = i + 1 ∧ es''.map (·.2) = (es.take (i + 1)).map (fun x => (x.2.1, x.2.2.map (· * b))) := by
      intro y H4 v3 v4 s4 f4
      have e4 := s4 _ _ e3
      refine ⟨es' ++ [(y, e.2.1, e.2.2.map (· * b))], v3, v4, rfl, same_at (s3.trans s4) n1, by rw [upd_same]; exact congrArg (fun z => some (HO.lst z)) (nvals_snoc es' (y, e.2.1, e.2.2.map (· * b))), ((hes'.up s4).snoc f4).app e4, by rw [List.length_append, hl']; rfl, ?_⟩
      rw [tk, List.map_append, List.map_append, hmap]
      rfl
    obtain ⟨a, m, v⟩ := e
    cases v with
    | none =>
      refine r_unpack2 fe.1 ?_
      walk_at "v"
      refine ⟨rfl, ?_⟩
      walk_at "v"
      refine iteT ?_
      walk_at "v"
      refine ⟨.inl ⟨rfl, _, SqL.of e3⟩, ?_⟩
      walk_at "v"
      refine r_new (mk := .tup) (by simp) fun y H4 s4 n4 e4 => ?_
      walk_at "v"
      refine r_app (s4 _ _ e3) (by rw [nvals_len]; exact small1000 (by walk_at "o")) ?_
      exact fin y H4 _ _ s4 ⟨e4, fe.2.1, fun z q => by cases q⟩
    | some z =>
      have zz := fe.2.2 z rfl
      refine r_unpack2 fe.1 ?_
      walk_at "v"
      refine ⟨rfl, ?_⟩
      walk_at "v"
      refine iteF ?_
      walk_at "v"
      refine ⟨.inl ⟨rfl, _, SqL.of e3⟩, ?_⟩
      walk_at "v"
      refine r_I (mulOk zz zb (by walk_at "o")) ?_
      walk_at "v"
      refine r_new (mk := .tup) (by simp) fun y H4 s4 n4 e4 => ?_
      walk_at "v"
      refine r_app (s4 _ _ e3) (by rw [nvals_len]; exact small1000 (by walk_at "o")) ?_
      exact fin y H4 _ _ s4 ⟨e4, fe.2.1, fun z' q => by
        cases q
        exact zz.mul zb⟩
  · rintro σ H3 ⟨es', v3, v4, rfl, s3, e3, hes', hl', hmap⟩
    rw [nvals_len, List.take_length] at hmap
    walk_at "v"
    exact k R es' H3 s3 n1 e3 hes' hmap
end

noncomputable def nsm (x : Nn) : Bool := x.2.2.isSome
theorem nvals_get {es : List Nn} {i : Nat} {x : Nn} (h : es[i]? = some x) : (nvals es)[i]? = some (.ref x.1) := by
  unfold nvals
  rw [List.getElem?_map, h]
  rfl
theorem at_nval {es : List Nn} {i : Nat} {j : Int} {x : Nn} (h : es[i]? = some x) (hj : j = (i : Int)) : atI (nvals es) j = some (.ref x.1) := by
  subst hj
  exact atI_nat (nvals_get h)
theorem at_nvals {es : List Nn} {i : Int} (h0 : 0 ≤ i) (h1 : i < (es.length : Int)) : ∃ x, x ∈ es ∧ es[i.toNat]? = some x ∧ atI (nvals es) i = some (.ref x.1) := by
  have hk : i.toNat < es.length := by walk_at "o"
  exact ⟨es[i.toNat], List.getElem_mem hk, List.getElem?_eq_getElem hk, at_nval (List.getElem?_eq_getElem hk) (by walk_at "o")⟩
theorem nrising_of {es es' : List Nn} (h : es'.map (fun x => x.2.1) = es.map (fun x => x.2.1)) (hr : nrising es) : nrising es' := by
  have k : (es.map fun x => x.2.1).Pairwise (· < ·) := List.pairwise_map.mpr hr
  rw [← h] at k
  exact List.pairwise_map.mp k
theorem nsm_some {x : Nn} (h : nsm x = true) : ∃ z, x.2.2 = some z := Option.isSome_iff_exists.mp h
noncomputable def dsz (m : Nat) : List Int := [(m : Int) + 1, 4, 5, 12, 3, 4, 7, 3, 40, 40, 40, 4, 3] ++ (List.replicate m [3, 9, 25]).flatten
theorem reps_map (m : Nat) (xs : List Int) : (List.replicate m (xs.map V.int)).flatten = ((List.replicate m xs).flatten).map V.int := by
  induction m with
  | zero => rfl
  | succ m ih => rw [List.replicate_succ, List.flatten_cons, ih, List.replicate_succ, List.flatten_cons, List.map_append]
theorem reps_get {xs : List Int} {n : Nat} (hn : xs.length = n) : ∀ {m k j : Nat}, k < m → j < n → (List.replicate m xs).flatten[n * k + j]? = xs[j]?
  | 0, _, _, hk, _ => absurd hk (Nat.not_lt_zero _)
  | m + 1, 0, j, _, hj => by
    rw [List.replicate_succ, List.flatten_cons, Nat.mul_zero, Nat.zero_add, List.getElem?_append_left (by walk_at "o")]
  | m + 1, k + 1, j, hk, hj => by
    have e : n * (k + 1) + j = n + (n * k + j) := by rw [Nat.mul_add]; walk_at "o"
    rw [List.replicate_succ, List.flatten_cons, e, List.getElem?_append_right (by walk_at "o"), hn, Nat.add_sub_cancel_left]
    exact reps_get hn (by walk_at "o") hj
theorem dsz_map (m : Nat) : [V.int ((m : Int) + 1), .int 4, .int 5, .int 12, .int 3, .int 4, .int 7, .int 3, .int 40, .int 40, .int 40, .int 4, .int 3] ++ (List.replicate m [V.int 3, .int 9, .int 25]).flatten = (dsz m).map V.int := by
  unfold dsz
  rw [List.map_append, ← reps_map]
  rfl
theorem dsz_len (m : Nat) : (dsz m).length = 13 + 3 * m := by
  unfold dsz
  rw [List.length_append, List.length_flatten, List.map_replicate, List.sum_replicate_nat]
  simp
  walk_at "o"
theorem dsz_pos {m : Nat} (hm : m ≤ 40) : ∀ z ∈ dsz m, 0 < z ∧ z < 2 ^ 60 := by
  intro z hz
  unfold dsz at hz
  rcases List.mem_append.mp hz with h | h
  · simp at h
    walk_at "o"
  · obtain ⟨l, hl, hzl⟩ := List.mem_flatten.mp h
    rw [(List.mem_replicate.mp hl).2] at hzl
    simp at hzl
    walk_at "o"
theorem dsz_at {m k j : Nat} (hk : k < m) (hj : j < 3) : (dsz m)[3 * k + (13 + j)]? = [(3 : Int), 9, 25][j]? := by
  unfold dsz
  rw [List.getElem?_append_right (by simp; walk_at "o")]
  have e : 3 * k + (13 + j) - [(m : Int) + 1, 4, 5, 12, 3, 4, 7, 3, 40, 40, 40, 4, 3].length = 3 * k + j := by simp; walk_at "o"
  rw [e]
  exact reps_get rfl hk hj
theorem dsz_shp {m : Nat} {xs : List Int} (hlen : xs.length = (dsz m).length) (hxs : ∀ (j : Nat) (x z : Int), xs[j]? = some x → (dsz m)[j]? = some z → 0 ≤ x ∧ x < z) : ∃ c, c ≤ m ∧ Shp xs c := by
  obtain ⟨x0, g0, a0, b0⟩ := row_get hlen hxs 0 (z := (m : Int) + 1) rfl
  refine ⟨x0.toNat, by walk_at "o", ⟨by rw [g0]; congr 1; walk_at "o", row_get hlen hxs 1 rfl, row_get hlen hxs 4 rfl, row_get hlen hxs 5 rfl, row_get hlen hxs 12 rfl, fun k hk => ?_⟩⟩
  have hk' : k < m := by walk_at "o"
  obtain ⟨x, gx, ax, bx⟩ := row_get hlen hxs _ (z := 3) ((dsz_at hk' (j := 0) (by decide)).trans rfl)
  obtain ⟨y, gy, ay, by'⟩ := row_get hlen hxs _ (z := 9) ((dsz_at hk' (j := 1) (by decide)).trans rfl)
  obtain ⟨z, gz, az, bz⟩ := row_get hlen hxs _ (z := 25) ((dsz_at hk' (j := 2) (by decide)).trans rfl)
  exact ⟨x, y, z, gx, gy, gz, ax, bx, ay, by', az, bz⟩
noncomputable def spPicked : Sp := fun vs H Q _ => ∃ (l lw : Addr) (es : List Nn) (xs : List Int), vs = [.ref l, .ref lw] ∧ H l = some (.lst (nvals es)) ∧ H lw = some (.lst (xs.map V.int)) ∧ 1 ≤ es.length ∧ es.length ≤ 40 ∧ (∀ k, k < 3 → ∃ x, xs[k + 8]? = some x) ∧
  ∀ (R : Addr) (a b c : Nn) (H' : Hp), Same H H' → a ∈ es → b ∈ es → c ∈ es → H' R = some (.lst [.ref a.1, .ref b.1, .ref c.1]) → Q (.ref R) H'
noncomputable def spDrawn4 (K : PySem.W.Frag) : Sp := fun vs H Q _ => ∃ (a : Addr) (ns : List Int) (i : Int) (most : Nat) (share : Int), vs = [.ref a, .int i, .int (most : Int), .int share] ∧ SqL K H a (ns.map V.int) ∧ 0 ≤ i ∧ i < 800 ∧ most ≤ 40 ∧ 0 ≤ share ∧ share ≤ 2 ∧
  ∀ (p R : Addr) (es : List Nn) (b c : Int) (H' : Hp), Same H H' → H' p = some (.tup [.ref R, .int b, .int c]) → H R = none → H' R = some (.lst (nvals es)) → NRow H' es 45 150 → es.length ≤ most → nrising es → 1 ≤ b → Sz 80 b → 0 ≤ c → Sz 150 c → Q (.ref p) H'
section
variable {P : Program} {w : World} {K : PySem.W.Frag} {mg : Str → Option Value} {base : Heap} {f : Addr} {fd : FuncData}
theorem sc_law_picked : FnScope ["_law_held", "_law_some", "_law_places", "_law_k"] ["_law_held", "_law_some"] (defScope s_law_picked) := ⟨rfl, rfl, rfl, by decide +kernel, rfl, by decide +kernel, by decide +kernel⟩
theorem ok_law_picked (F : Fun K "_law_picked" "_law_picked" s_law_picked f fd) (T : Txt mg) : FnOk P w K mg base CX0 1 f fd ["_law_held", "_law_some"] spPicked := by
  refine F.ok sc_law_picked (fun vs H Q E h => ?_) (fun cdv A outer s H vs Q E hr h => ?_)
  · obtain ⟨l, lw, es, xs, rfl, _⟩ := h
    rfl
  obtain ⟨l, lw, es, xs, rfl, hl, hw, h1, h40, hx, k⟩ := h
  refine Jd.go ⟨_, (Jd.pss_cons (Jd.ps_set (i := 2) sc_law_picked.nd rfl (Or.inl rfl) (Jd.pe_lst Jd.pa_nil) (hs := sw_L))
      (Jd.pss_cons (Jd.ps_for PassesOwn.never rfl (Jd.pi_range2 rfl T.range (Jd.pa_cons Jd.pe_int (Jd.pa_cons Jd.pe_int Jd.pa_nil st_C) st_C)) (Jd.pg_name (i := 3) sc_law_picked.nd rfl (Or.inl rfl))
      (Jd.pss_one (Jd.ps_expr (Jd.appC K (Jd.pv 2) (Jd.pe_op op_mod (Jd.pe_ix (ixL K) (Jd.pv 1) (Jd.pv 3) (fun _ _ => rfl)) (Jd.pe_callB (lenC K) rfl T.len_ PySem.boot_len (Jd.pa_cons (Jd.pv 0) Jd.pa_nil st_N) (he := st_N) (hpl := any0)))) (hs := sw_K))))
      (Jd.pss_cons (Jd.ps_set (i := 2) sc_law_picked.nd rfl (Or.inl rfl) (Jd.pe_callB (sortedC K) rfl T.sorted_ PyProof.Rows.boot_sorted (Jd.pa_cons (Jd.pv 2) Jd.pa_nil st_N) (he := st_N) (hpl := any0)) (hs := sw_K))
      (Jd.pss_one (Jd.ps_ret (Jd.pe_comp (O := ["_law_at"]) (N' := ["_law_held"]) (cap := [0]) rfl (Jd.piL K (Jd.pv 2)) (fun _ _ _ _ _ => (Jd.pg_name (i := 0) (show List.Nodup [("_law_at" : Str), ("_law_held" : Str)] by decide +kernel) rfl (Or.inl rfl))) (fun _ _ _ _ _ => Jd.pts_nil) (fun _ _ _ _ _ => (Jd.pe_ix (ixL K) (Jd.pv 1) (Jd.pv 0) (fun _ _ => rfl))) rfl ⟨⟨rfl, rfl, rfl, rfl⟩, trivial⟩ rfl (by decide +kernel) rfl (by decide +kernel))))))), ?_⟩
  walk_at "v"
  refine r_new (mk := .lst) (by simp) fun pl H1 s1 n1 e1 => ?_
  walk_at "v"
  refine r_for (r_rng2 ?_)
  walk_at "v"
  refine ⟨8, 11, rfl, by decide, for_range (n := 3) (fun j σ H3 => ∃ (ys : List Int) (v : Option V), σ = [some (.ref l), some (.ref lw), some (.ref pl), v] ∧ Same H H3 ∧ H3 pl = some (.lst (ys.map V.int)) ∧ ys.length = j ∧ ∀ y ∈ ys, 0 ≤ y ∧ y < (es.length : Int)) ?_ ?_ ?_⟩
  · exact ⟨[], none, rfl, s1, e1, rfl, fun y hy => absurd hy (by simp)⟩
  · rintro j σ H3 hj ⟨ys, v, rfl, s3, e3, hy, hys⟩
    obtain ⟨x, gx⟩ := hx j hj
    walk_at "v"
    refine ⟨.inl ⟨rfl, _, SqL.of e3⟩, ?_⟩
    walk_at "v"
    refine r_l (s3 _ _ hw) (at_ints gx (by walk_at "o")) ?_
    walk_at "v"
    refine r_len (.inl (SqL.of (s3 _ _ hl))) ?_
    rw [nvals_len]
    refine r_I (show (0 : Int) < _ by walk_at "o") ?_
    walk_at "v"
    refine r_app e3 (by rw [List.length_map]; exact small1000 (by walk_at "o")) ?_
    refine ⟨ys ++ [x % (es.length : Int)], _, rfl, same_at s3 n1, by rw [upd_same, List.map_append]; rfl, by rw [List.length_append, hy]; rfl, fun y hy => ?_⟩
    rcases List.mem_append.mp hy with z | z
    · exact hys y z
    · obtain rfl : y = x % (es.length : Int) := by simpa using z
      exact ⟨Int.emod_nonneg _ (by walk_at "o"), Int.emod_lt_of_pos _ (by walk_at "o")⟩
  · rintro σ H3 ⟨ys, v, rfl, s3, e3, hy, hys⟩
    walk_at "v"
    refine r_sorted (SqL.of e3) (by walk_at "o") fun p ns' H4 s4 n4 e4 hp hs => ?_
    walk_at "v"
    refine r_iL ?_
    walk_at "v"
    refine ⟨p, rfl, ⟨_, SqL.of e4⟩, ?_⟩
    have hl' : ns'.length = 3 := by rw [hp.length_eq, hy]
    refine compB_of (xs := ns'.map V.int) tells_list (fun H5 s5 => SqL.of (s5 _ _ e4)) (by rw [List.length_map]; walk_at "o") (fun i ys G => ∃ zs : List Nn, ys = nvals zs ∧ zs.length = i ∧ ∀ z ∈ zs, z ∈ es) ⟨[], rfl, rfl, fun x hx => absurd hx (by simp)⟩ ?_ ?_
    · rintro D i x ys' H5 σ0 N N0 h0 hD eD s5 hx hy' ⟨zs, rfl, hz, hm⟩ kY kN
      rw [List.getElem?_map] at hx
      obtain ⟨y, gy, rfl⟩ := Option.map_eq_some_iff.mp hx
      obtain ⟨y0, y1⟩ := hys y (hp.mem_iff.mp (List.mem_of_getElem? gy))
      obtain ⟨e, he, _, ea⟩ := at_nvals y0 y1
      refine r_own1 h0 ?_
      walk_at "v"
      refine iteT ?_
      walk_at "v"
      refine r_l ((s3.trans (s4.trans s5)) _ _ hl) ea ?_
      refine kY _ H5 (Same.refl _) ⟨zs ++ [e], nvals_snoc zs e, by rw [List.length_append, hz]; rfl, fun z hz => ?_⟩
      rcases List.mem_append.mp hz with q | q
      · exact hm z q
      · obtain rfl : z = e := by simpa using q
        exact he
    · rintro D ys' H5 hD eD s5 hy' ⟨zs, rfl, hz, hm⟩
      rw [List.length_map, hl'] at hz
      match zs, hz with
      | [x, y, z], _ => exact k D x y z H5 (s3.trans (s4.trans s5)) (hm x (by simp)) (hm y (by simp)) (hm z (by simp)) eD
theorem sc_law_drawn : FnScope ["_law_script", "_law_place", "_law_most", "_law_share", "_law_sizes", "_law_some", "_law_bottom", "_law_scale", "_law_tilt", "_law_far", "_law_row_here", "_law_held", "_law_one", "_law_mid", "_law_last", "_law_span", "_law_stood", "_law_by"] ["_law_script", "_law_place", "_law_most", "_law_share"] (defScope s_law_drawn) := ⟨rfl, rfl, rfl, by decide +kernel, rfl, by decide +kernel, by decide +kernel⟩
theorem ok_law_drawn (F : Fun K "_law_drawn" "_law_drawn" s_law_drawn f fd) (T : Txt mg) (D_law_row : Dn P w K mg base 3 "_law_row" ["_law_script", "_law_place", "_law_sizes"] (spRow K)) (D_law_shaped : Dn P w K mg base 1 "_law_shaped" ["_law_some", "_law_scale", "_law_tilt"] spShaped)
    (D_law_picked : Dn P w K mg base 1 "_law_picked" ["_law_held", "_law_some"] spPicked) (D_law_times : Dn P w K mg base 1 "_law_times" ["_law_row_here", "_law_by"] spTimes) : FnOk P w K mg base CX0 4 f fd ["_law_script", "_law_place", "_law_most", "_law_share"] (spDrawn4 K) := by
  refine F.ok sc_law_drawn (fun vs H Q E h => ?_) (fun cdv A outer s H vs Q E hr h => ?_)
  · obtain ⟨a, ns, i, most, share, rfl, _⟩ := h
    rfl
  obtain ⟨a, ns, i, most, share, rfl, hS, h0, h1, hm, hs0, hs2, k⟩ := h
  refine Jd.go (Jd.cut 6 (fun σ H' => ∃ (lw tl : Addr) (xs : List Int) (c : Nat) (b sc t0 t1 x6 x7 : Int) (v4 v9 : Option V), σ = [some (.ref a), some (.int i), some (.int most), some (.int share), v4, some (.ref lw), some (.int b), some (.int sc), some (.ref tl), v9, none, none, none, none, none, none, none, none] ∧
    Same H H' ∧ H' lw = some (.lst (xs.map V.int)) ∧ c ≤ most ∧ Shp xs c ∧ xs[6]? = some x6 ∧ 0 ≤ x6 ∧ x6 < 7 ∧ xs[7]? = some x7 ∧ (∀ k, k < 3 → ∃ x, xs[k + 8]? = some x) ∧ 1 ≤ b ∧ Sz 30 b ∧ 0 ≤ sc ∧ Sz 45 sc ∧ H' tl = some (.tup [.int t0, .int t1]) ∧ Sz 45 t0 ∧ Sz 45 t1) ?_ fun u hu hR => ?_)
  · refine ⟨_, (Jd.pss_cons (Jd.ps_set (i := 10) sc_law_drawn.nd rfl (Or.inl rfl) (Jd.pe_dn D_law_shaped (hr.mono (by decide)) rfl (Jd.pa_cons (Jd.pv 5) (Jd.pa_cons (Jd.pv 7) (Jd.pa_cons (Jd.pv 8) Jd.pa_nil st_N) st_N) st_N) (he := st_N) (hpl := (anyc st_N (anyc st_N any0)))) (hs := sw_K))
      (Jd.pss_cons (Jd.ps_comp (O := ["_law_one"]) (N' := []) (cap := []) (i := 11) sc_law_drawn.nd rfl (Or.inl rfl) rfl (Jd.piL K (Jd.pv 10)) (fun _ _ _ _ _ => (Jd.pg_name (i := 0) (show List.Nodup [("_law_one" : Str)] by decide +kernel) rfl (Or.inl rfl))) (fun _ _ _ _ _ => (Jd.pts_one (Jd.pt_cmpR op_notN (Jd.pe_ix (ixT K) (Jd.pv 0) Jd.pe_int (fun _ _ => rfl)) Jd.pe_non (nomark _)))) (fun _ _ _ _ _ => (Jd.pv 0)) rfl trivial rfl (by decide +kernel) rfl (by decide +kernel) (by rfl))
      (Jd.pss_cons (Jd.ps_if (Jd.PWpt (Jd.pw_and (Jd.pt_cmpR op_gt (Jd.pv 3) Jd.pe_int (nomark _)) (Jd.pw_and (Jd.pt_cmpR op_eq (Jd.pe_ix (ixL K) (Jd.pv 5) Jd.pe_int (fun _ _ => rfl)) Jd.pe_int (nomark _)) (Jd.pw_and1 (Jd.pt_cmpR op_gt (Jd.pe_callB (lenC K) rfl T.len_ PySem.boot_len (Jd.pa_cons (Jd.pv 11) Jd.pa_nil st_N) (he := st_N) (hpl := any0)) Jd.pe_int (nomark _))))))
      (Jd.pss_cons (Jd.ps_asg (Jd.pe_dn D_law_picked (hr.mono (by decide)) rfl (Jd.pa_cons (Jd.pv 11) (Jd.pa_cons (Jd.pv 5) Jd.pa_nil st_N) st_N) (he := st_N) (hpl := (anyc st_N any0))) (Jd.pgL K (n := 3) rfl (Jd.pgs_cons (Jd.pg_name (i := 12) sc_law_drawn.nd rfl (Or.inl rfl)) (Jd.pgs_cons (Jd.pg_name (i := 13) sc_law_drawn.nd rfl (Or.inl rfl)) (Jd.pgs_cons (Jd.pg_name (i := 14) sc_law_drawn.nd rfl (Or.inl rfl)) Jd.pgs_nil)))))
      (Jd.pss_one (Jd.ps_if (Jd.pt_chain op_lt op_lt (Jd.pe_ix (ixT K) (Jd.pv 12) Jd.pe_int (fun _ _ => rfl)) (Jd.pe_ix (ixT K) (Jd.pv 13) Jd.pe_int (fun _ _ => rfl)) (Jd.pe_ix (ixT K) (Jd.pv 14) Jd.pe_int (fun _ _ => rfl)))
      (Jd.pss_cons (Jd.ps_set (i := 15) sc_law_drawn.nd rfl (Or.inl rfl) (Jd.pe_op op_sub (Jd.pe_ix (ixT K) (Jd.pv 14) Jd.pe_int (fun _ _ => rfl)) (Jd.pe_ix (ixT K) (Jd.pv 12) Jd.pe_int (fun _ _ => rfl))) (hs := sw_B))
      (Jd.pss_cons (Jd.ps_set (i := 16) sc_law_drawn.nd rfl (Or.inl rfl) (Jd.pe_op op_sub (Jd.pe_op op_mulB (Jd.pe_ix (ixT K) (Jd.pv 13) Jd.pe_int (fun _ _ => rfl)) (Jd.pv 15)) (Jd.pe_op op_mulB (Jd.pe_ix (ixT K) (Jd.pv 12) Jd.pe_int (fun _ _ => rfl)) (Jd.pe_op op_sub (Jd.pe_ix (ixT K) (Jd.pv 14) Jd.pe_int (fun _ _ => rfl)) (Jd.pe_ix (ixT K) (Jd.pv 13) Jd.pe_int (fun _ _ => rfl))))) (hs := sw_B))
      (Jd.pss_cons (Jd.ps_set (i := 16) sc_law_drawn.nd rfl (Or.inl rfl) (Jd.pe_callB absC rfl T.abs_ PyProof.Rows.boot_abs (Jd.pa_cons (Jd.pe_op op_sub (Jd.pv 16) (Jd.pe_op op_mulB (Jd.pe_ix (ixT K) (Jd.pv 14) Jd.pe_int (fun _ _ => rfl)) (Jd.pe_op op_sub (Jd.pe_ix (ixT K) (Jd.pv 13) Jd.pe_int (fun _ _ => rfl)) (Jd.pe_ix (ixT K) (Jd.pv 12) Jd.pe_int (fun _ _ => rfl))))) Jd.pa_nil st_B) (he := st_B) (hpl := any0)) (hs := sw_K))
      (Jd.pss_cons (Jd.ps_set (i := 17) sc_law_drawn.nd rfl (Or.inl rfl) (Jd.pe_op op_mulB (Jd.pv 3) (Jd.pv 15)) (hs := sw_B))
      (Jd.pss_one (Jd.ps_ret (Jd.pe_tup (Jd.pa_cons (Jd.pe_dn D_law_times (hr.mono (by decide)) rfl (Jd.pa_cons (Jd.pv 10) (Jd.pa_cons (Jd.pv 17) Jd.pa_nil st_N) st_N) (he := st_N) (hpl := (anyc st_N any0))) (Jd.pa_cons (Jd.pe_op op_mulB (Jd.pv 6) (Jd.pv 17)) (Jd.pa_cons (Jd.pv 16) Jd.pa_nil st_N) st_B) st_K))))))))
      Jd.pss_nil)))
      Jd.pss_nil)
      (Jd.pss_one (Jd.ps_ret (Jd.pe_tup (Jd.pa_cons (Jd.pv 10) (Jd.pa_cons (Jd.pv 6) (Jd.pa_cons (Jd.pe_op op_mulB (Jd.pe_ix (ixL K) (Jd.pv 5) Jd.pe_int (fun _ _ => rfl)) (Jd.pv 7)) Jd.pa_nil st_B) st_N) st_N))))))), ?_⟩
    rintro σ H1 ⟨lw, tl, xs, c, b, sc, t0, t1, x6, x7, v4, v9, rfl, s1, ew, hc, S, g6, a6, b6, g7, g8, b1, zb, sc0, zsc, et, zt0, zt1⟩
    walk_at "v"
    refine ⟨lw, tl, xs, c, sc, t0, t1, rfl, ew, S, by walk_at "o", et, zsc, zt0, zt1, fun R es H2 s2 nR eR hes hlen hri => ?_⟩
    have ew2 := s2 _ _ ew
    walk_at "v"
    refine r_iL ?_
    walk_at "v"
    refine ⟨R, rfl, ⟨_, SqL.of eR⟩, ?_⟩
    refine compB_of (xs := nvals es) tells_list (fun H3 s3 => SqL.of (s3 _ _ eR)) (by rw [nvals_len]; walk_at "o") (fun i ys G => ys = nvals ((es.take i).filter nsm)) rfl ?_ ?_
    · rintro D i x ys H3 σ0 N N0 h0 hD eD s3 hx hy rfl kY kN
      obtain ⟨e, he, rfl⟩ := nvals_at hx
      obtain ⟨ee, _⟩ := (hes e (List.mem_of_getElem? he)).up s3
      have ts := PySem.take_succ_filter nsm es i e he
      obtain ⟨ae, me, ve⟩ := e
      refine r_own1 h0 ?_
      cases ve with
      | none =>
        walk_at "v"
        refine ⟨rfl, ?_⟩
        walk_at "v"
        refine iteF ?_
        rw [show nsm (ae, me, none) = false from rfl, if_neg Bool.false_ne_true, List.append_nil] at ts
        exact kN H3 (Same.refl _) (by rw [ts])
      | some z =>
        walk_at "v"
        refine ⟨rfl, ?_⟩
        walk_at "v"
        refine iteT ?_
        walk_at "v"
        rw [show nsm (ae, me, some z) = true from rfl, if_pos rfl] at ts
        exact kY _ H3 (Same.refl _) (by rw [ts, ← nvals_snoc])
    · rintro D ys H3 hD eD s3 hy rfl
      rw [nvals_len, List.take_length] at eD
      have s13 := s1.trans (s2.trans s3)
      have eR3 := s3 _ _ eR
      have ew3 := s3 _ _ ew2
      have plain : ∀ (p : Addr) (H4 : Hp), Same H3 H4 → H4 p = some (.tup [.ref R, .int b, .int (x6 * sc)]) → Q (.ref p) H4 := fun p H4 s4 e4 =>
        k p R es b (x6 * sc) H4 (s13.trans s4) e4 (s1.free nR) (s4 _ _ eR3) (fun x hx => let ⟨q1, q2, q3⟩ := (hes x hx).up (s3.trans s4); ⟨q1, q2, fun z hz => (q3 z hz).mono (by decide)⟩) (by walk_at "o") hri b1 (zb.mono (by decide)) (Int.mul_nonneg a6 sc0) (((show Sz 3 x6 from by show x6.natAbs < 2 ^ 3; walk_at "o").mul zsc).mono (by decide))
      walk_at "v"
      refine ite2 (fun c1 => ?_) (fun c1 => ?_)
      · have c1' : 0 < share := of_decide_eq_true c1
        walk_at "v"
        refine r_l ew3 (at_ints g7 rfl) ?_
        walk_at "v"
        refine ite2 (fun c2 => ?_) (fun c2 => ?_)
        · walk_at "v"
          refine r_len (.inl (SqL.of eD)) ?_
          walk_at "v"
          rw [nvals_len]
          refine ite2 (fun c3 => ?_) (fun c3 => ?_)
          · have c3' := of_decide_eq_true c3
            have hfl : (es.filter nsm).length ≤ es.length := List.length_filter_le ..
            walk_at "v"
            refine r_asg ?_
            walk_at "v"
            refine ⟨D, lw, es.filter nsm, xs, rfl, eD, ew3, by walk_at "o", by walk_at "o", g8, fun R3 x y z H4 s4 hx hy hz e4 => ?_⟩
            refine r_unlist3 e4 ?_
            obtain ⟨hx1, hx2⟩ := List.mem_filter.mp hx
            obtain ⟨hy1, hy2⟩ := List.mem_filter.mp hy
            obtain ⟨hz1, hz2⟩ := List.mem_filter.mp hz
            obtain ⟨fx1, fx2, fx3⟩ := (hes x hx1).up (s3.trans s4)
            obtain ⟨fy1, fy2, fy3⟩ := (hes y hy1).up (s3.trans s4)
            obtain ⟨fz1, fz2, fz3⟩ := (hes z hz1).up (s3.trans s4)
            obtain ⟨nx, ex⟩ := nsm_some hx2
            obtain ⟨ny, ey⟩ := nsm_some hy2
            obtain ⟨nz, ez⟩ := nsm_some hz2
            have zx := fx3 nx ex
            have zy := fy3 ny ey
            have zz := fz3 nz ez
            rw [ex] at fx1
            rw [ey] at fy1
            rw [ez] at fz1
            simp only [nnv] at fx1 fy1 fz1
            walk_at "v"
            have ew4 := s4 _ _ ew3
            refine ite2 (fun c4 => ?_) (fun c4 => ?_)
            · have c4' := of_decide_eq_true c4
              walk_at "v"
              refine ite2 (fun c5 => ?_) (fun c5 => ?_)
              · have c5' := of_decide_eq_true c5
                have zs1 : Sz 46 (z.2.1 - x.2.1) := fz2.sub fx2
                have zs2 : Sz 46 (z.2.1 - y.2.1) := fz2.sub fy2
                have zs3 : Sz 46 (y.2.1 - x.2.1) := fy2.sub fx2
                have zsh : Sz 2 share := show share.natAbs < 2 ^ 2 by walk_at "o"
                have m1 : Sz 146 (ny * (z.2.1 - x.2.1)) := zy.mul zs1
                have m2 : Sz 146 (nx * (z.2.1 - y.2.1)) := zx.mul zs2
                have m3 : Sz 146 (nz * (y.2.1 - x.2.1)) := zz.mul zs3
                walk_at "v"
                refine r_I (mulOk zy zs1) ?_
                walk_at "v"
                refine r_I (mulOk zx zs2) ?_
                walk_at "v"
                refine r_I (mulOk zz zs3) ?_
                walk_at "v"
                refine r_I (mulOk zsh zs1) ?_
                walk_at "v"
                have zby : Sz 48 (share * (z.2.1 - x.2.1)) := zsh.mul zs1
                refine ⟨R, es, share * (z.2.1 - x.2.1), 100, 48, rfl, s4 _ _ eR3, fun u hu => (hes u hu).up (s3.trans s4), by walk_at "o", zby, by decide, fun R5 es5 H5 s5 n5 e5 hes5 hmap => ?_⟩
                walk_at "v"
                refine r_I (mulOk zb zby) ?_
                walk_at "v"
                rw [abs_cast]
                refine r_new (mk := .tup) (by simp) fun p6 H6 s6 n6 e6 => ?_
                have hle : es5.length = es.length := by
                  have := congrArg List.length hmap
                  simpa using this
                have p1 : 1 ≤ share * (z.2.1 - x.2.1) := mul_pos1 (by walk_at "o") (by walk_at "o")
                have zst : Sz 148 (ny * (z.2.1 - x.2.1) - nx * (z.2.1 - y.2.1) - nz * (y.2.1 - x.2.1)) := (m1.sub m2).sub (m3.mono (by decide))
                refine k p6 R5 es5 _ _ H6 ((s13.trans s4).trans (s5.trans s6)) e6 ((s13.trans s4).free n5) (s6 _ _ e5) (fun x hx => let ⟨q1, q2, q3⟩ := (hes5 x hx).up s6; ⟨q1, q2, fun z hz => (q3 z hz).mono (by decide)⟩) (by walk_at "o") ?_ (mul_pos1 b1 p1) ((zb.mul zby).mono (by decide)) (by walk_at "o") ((zst.of_le (by simp)).mono (by decide))
                refine nrising_of ?_ hri
                have e := congrArg (List.map Prod.fst) hmap
                rw [List.map_map, List.map_map] at e
                exact e
              · walk_at "v"
                refine r_l ew4 (at_ints g6 rfl) ?_
                walk_at "v"
                refine r_I (mulOk (show Sz 3 x6 from by show x6.natAbs < 2 ^ 3; walk_at "o") zsc) ?_
                walk_at "v"
                refine r_new (mk := .tup) (by simp) fun p6 H6 s6 n6 e6 => ?_
                exact plain p6 H6 (s4.trans s6) e6
            · walk_at "v"
              refine iteF ?_
              walk_at "v"
              refine r_l ew4 (at_ints g6 rfl) ?_
              walk_at "v"
              refine r_I (mulOk (show Sz 3 x6 from by show x6.natAbs < 2 ^ 3; walk_at "o") zsc) ?_
              walk_at "v"
              refine r_new (mk := .tup) (by simp) fun p6 H6 s6 n6 e6 => ?_
              exact plain p6 H6 (s4.trans s6) e6
          · walk_at "v"
            refine r_l ew3 (at_ints g6 rfl) ?_
            walk_at "v"
            refine r_I (mulOk (show Sz 3 x6 from by show x6.natAbs < 2 ^ 3; walk_at "o") zsc) ?_
            walk_at "v"
            refine r_new (mk := .tup) (by simp) fun p6 H6 s6 n6 e6 => ?_
            exact plain p6 H6 s6 e6
        · refine iteF ?_
          walk_at "v"
          refine r_l ew3 (at_ints g6 rfl) ?_
          walk_at "v"
          refine r_I (mulOk (show Sz 3 x6 from by show x6.natAbs < 2 ^ 3; walk_at "o") zsc) ?_
          walk_at "v"
          refine r_new (mk := .tup) (by simp) fun p6 H6 s6 n6 e6 => ?_
          exact plain p6 H6 s6 e6
      · refine iteF ?_
        walk_at "v"
        refine r_l ew3 (at_ints g6 rfl) ?_
        walk_at "v"
        refine r_I (mulOk (show Sz 3 x6 from by show x6.natAbs < 2 ^ 3; walk_at "o") zsc) ?_
        walk_at "v"
        refine r_new (mk := .tup) (by simp) fun p6 H6 s6 n6 e6 => ?_
        exact plain p6 H6 s6 e6
  refine ⟨_, (Jd.pss_cons (Jd.ps_set (i := 4) sc_law_drawn.nd rfl (Or.inl rfl) (Jd.pe_lst (Jd.pa_cons (Jd.pe_op op_add (Jd.pv 2) Jd.pe_int) (Jd.pa_cons Jd.pe_int (Jd.pa_cons Jd.pe_int (Jd.pa_cons Jd.pe_int (Jd.pa_cons Jd.pe_int (Jd.pa_cons Jd.pe_int (Jd.pa_cons Jd.pe_int (Jd.pa_cons Jd.pe_int (Jd.pa_cons Jd.pe_int (Jd.pa_cons Jd.pe_int (Jd.pa_cons Jd.pe_int (Jd.pa_cons Jd.pe_int (Jd.pa_cons Jd.pe_int Jd.pa_nil st_C) st_C) st_C) st_C) st_C) st_C) st_C) st_C) st_C) st_C) st_C) st_C) st_B)) (hs := sw_L))
      (Jd.pss_cons (Jd.ps_set (i := 5) sc_law_drawn.nd rfl (Or.inl rfl) (Jd.pe_dn D_law_row (hr.mono (by decide)) rfl (Jd.pa_cons (Jd.pv 0) (Jd.pa_cons (Jd.pv 1) (Jd.pa_cons (Jd.pe_op op_cat (Jd.pv 4) (Jd.pe_op op_rep (Jd.pe_lst (Jd.pa_cons Jd.pe_int (Jd.pa_cons Jd.pe_int (Jd.pa_cons Jd.pe_int Jd.pa_nil st_C) st_C) st_C)) (Jd.pv 2))) Jd.pa_nil st_B) st_N) st_N) (he := st_N) (hpl := (anyc st_N (anyc st_B any0)))) (hs := sw_K))
      (Jd.pss_cons (Jd.ps_set (i := 6) sc_law_drawn.nd rfl (Or.inl rfl) (Jd.pe_ix (ixL K) (Jd.pe_lst (Jd.pa_cons Jd.pe_int (Jd.pa_cons Jd.pe_int (Jd.pa_cons Jd.pe_int (Jd.pa_cons Jd.pe_int (Jd.pa_cons Jd.pe_int (Jd.pa_cons Jd.pe_int (Jd.pa_cons Jd.pe_int (Jd.pa_cons Jd.pe_int (Jd.pa_cons Jd.pe_int (Jd.pa_cons Jd.pe_int (Jd.pa_cons Jd.pe_int (Jd.pa_cons (Jd.pe_op op_add (Jd.pe_op op_pow Jd.pe_int Jd.pe_int) Jd.pe_int) Jd.pa_nil st_B) st_C) st_C) st_C) st_C) st_C) st_C) st_C) st_C) st_C) st_C) st_C)) (Jd.pe_ix (ixL K) (Jd.pv 5) Jd.pe_int (fun _ _ => rfl)) (fun _ _ => rfl)) (hs := sw_S))
      (Jd.pss_cons (Jd.ps_set (i := 7) sc_law_drawn.nd rfl (Or.inl rfl) (Jd.pe_ix (ixL K) (Jd.pe_lst (Jd.pa_cons Jd.pe_int (Jd.pa_cons Jd.pe_int (Jd.pa_cons Jd.pe_int (Jd.pa_cons (Jd.pe_op op_pow Jd.pe_int Jd.pe_int) (Jd.pa_cons (Jd.pe_op op_add (Jd.pe_op op_pow Jd.pe_int Jd.pe_int) Jd.pe_int) Jd.pa_nil st_B) st_B) st_C) st_C) st_C)) (Jd.pe_ix (ixL K) (Jd.pv 5) Jd.pe_int (fun _ _ => rfl)) (fun _ _ => rfl)) (hs := sw_S))
      (Jd.pss_cons (Jd.ps_set (i := 8) sc_law_drawn.nd rfl (Or.inl rfl) (Jd.pe_tup (Jd.pa_cons Jd.pe_int (Jd.pa_cons Jd.pe_int Jd.pa_nil st_C) st_C)) (hs := sw_T))
      (Jd.pss_cons (Jd.ps_if (Jd.pt_cmpR op_gt (Jd.pv 3) Jd.pe_int (nomark _))
      (Jd.pss_cons (Jd.ps_set (i := 9) sc_law_drawn.nd rfl (Or.inl rfl) (Jd.pe_op op_sub (Jd.pe_un un_neg (Jd.pe_op op_pow Jd.pe_int Jd.pe_int)) Jd.pe_int) (hs := sw_B))
      (Jd.pss_one (Jd.ps_set (i := 8) sc_law_drawn.nd rfl (Or.inl rfl) (Jd.pe_ix (ixL K) (Jd.pe_lst (Jd.pa_cons (Jd.pe_tup (Jd.pa_cons Jd.pe_int (Jd.pa_cons Jd.pe_int Jd.pa_nil st_C) st_C)) (Jd.pa_cons (Jd.pe_tup (Jd.pa_cons Jd.pe_int (Jd.pa_cons Jd.pe_int Jd.pa_nil st_C) st_C)) (Jd.pa_cons (Jd.pe_tup (Jd.pa_cons Jd.pe_int (Jd.pa_cons (Jd.pe_un un_neg Jd.pe_int) Jd.pa_nil st_U) st_C)) (Jd.pa_cons (Jd.pe_tup (Jd.pa_cons (Jd.pv 9) (Jd.pa_cons (Jd.pe_op op_pow Jd.pe_int Jd.pe_int) Jd.pa_nil st_B) st_N)) Jd.pa_nil st_T) st_T) st_T) st_T)) (Jd.pe_ix (ixL K) (Jd.pv 5) Jd.pe_int (fun _ _ => rfl)) (fun _ _ => rfl)) (hs := sw_S))))
      Jd.pss_nil)
      hu)))))), ?_⟩
  walk_at "v"
  refine r_new (mk := .lst) (by simp) fun l1 H1 s1 n1 e1 => ?_
  walk_at "v"
  refine r_new (mk := .lst) (by simp) fun l2 H2 s2 n2 e2 => ?_
  walk_at "v"
  refine r_rep e2 (by omega) (by omega) ?_
  refine r_new (mk := .lst) (by rw [len_rep]; simp; walk_at "o") fun l3 H3 s3 n3 e3 => ?_
  walk_at "v"
  refine r_cat (s3 _ _ (s2 _ _ e1)) e3 ?_
  refine r_new (mk := .lst) (by rw [List.length_append, len_rep]; simp; walk_at "o") fun l4 H4 s4 n4 e4 => ?_
  have s04 := s1.trans (s2.trans (s3.trans s4))
  walk_at "v"
  refine ⟨a, ns, i, l4, dsz most, rfl, s04.seq hS, h0, by walk_at "o", by rw [e4]; exact congrArg (fun z => some (HO.lst z)) (dsz_map most), by rw [dsz_len]; walk_at "o", dsz_pos hm, fun lw xs H5 s5 n5 e5 hlen hxs => ?_⟩
  obtain ⟨c, hc, S⟩ := dsz_shp hlen hxs
  obtain ⟨x2, g2, a2, b2⟩ := row_get hlen hxs 2 (z := 5) rfl
  obtain ⟨x3, g3, a3, b3⟩ := row_get hlen hxs 3 (z := 12) rfl
  obtain ⟨x6, g6, a6, b6⟩ := row_get hlen hxs 6 (z := 7) rfl
  obtain ⟨x7, g7, a7, b7⟩ := row_get hlen hxs 7 (z := 3) rfl
  obtain ⟨x8, g8, _⟩ := row_get hlen hxs 8 (z := 40) rfl
  obtain ⟨x9, g9, _⟩ := row_get hlen hxs 9 (z := 40) rfl
  obtain ⟨x10, g10, _⟩ := row_get hlen hxs 10 (z := 40) rfl
  obtain ⟨x11, g11, a11, b11⟩ := row_get hlen hxs 11 (z := 4) rfl
  have g8' : ∀ k, k < 3 → ∃ x, xs[k + 8]? = some x := fun k hk => by
    rcases (show k = 0 ∨ k = 1 ∨ k = 2 by walk_at "o") with rfl | rfl | rfl
    · exact ⟨_, g8⟩
    · exact ⟨_, g9⟩
    · exact ⟨_, g10⟩
  walk_at "v"
  refine r_new (mk := .lst) (by simp) fun l6 H6 s6 n6 e6 => ?_
  walk_at "v"
  refine r_l (s6 _ _ e5) (at_ints g3 rfl) ?_
  obtain ⟨b, eb, hb1, hb2⟩ := pickP (zs := [1, 2, 3, 4, 5, 6, 12, 30, 60, 1001, 9699690, 10 ^ (9 : Int).toNat + 7]) (fun z => 1 ≤ z ∧ Sz 30 z) (by decide +kernel) a3 b3
  refine r_l e6 eb ?_
  walk_at "v"
  refine r_new (mk := .lst) (by simp) fun l7 H7 s7 n7 e7 => ?_
  walk_at "v"
  refine r_l (s7 _ _ (s6 _ _ e5)) (at_ints g2 rfl) ?_
  obtain ⟨sc, esc, hsc0, hsc⟩ := pickP (zs := [1, 1, 7, 10 ^ (6 : Int).toNat, 10 ^ (12 : Int).toNat + 39]) (fun z => 0 ≤ z ∧ Sz 45 z) (by decide +kernel) a2 b2
  refine r_l e7 esc ?_
  walk_at "v"
  refine r_new (mk := .tup) (by simp) fun t0 H8 s8 n8 e8 => ?_
  have s58 := s6.trans (s7.trans s8)
  have s08 := (s04.trans s5).trans s58
  have e58 := s58 _ _ e5
  walk_at "v"
  refine ite2 (fun c1 => ?_) (fun c1 => ?_)
  · walk_at "v"
    refine r_new (mk := .tup) (by simp) fun p1 H9 s9 n9 e9 => ?_
    walk_at "v"
    refine r_new (mk := .tup) (by simp) fun p2 H10 s10 n10 e10 => ?_
    walk_at "v"
    refine r_new (mk := .tup) (by simp) fun p3 H11 s11 n11 e11 => ?_
    walk_at "v"
    refine r_new (mk := .tup) (by simp) fun p4 H12 s12 n12 e12 => ?_
    walk_at "v"
    refine r_new (mk := .lst) (by simp) fun l8 H13 s13 n13 e13 => ?_
    have s813 := s9.trans (s10.trans (s11.trans (s12.trans s13)))
    walk_at "v"
    refine r_l (s813 _ _ e58) (at_ints g11 rfl) ?_
    have s1213 := s12.trans s13
    rcases (show x11 = 0 ∨ x11 = 1 ∨ x11 = 2 ∨ x11 = 3 by walk_at "o") with rfl | rfl | rfl | rfl
    · refine r_l e13 at0 ?_
      exact hR _ _ ⟨lw, p1, xs, c, b, sc, 0, 0, x6, x7, _, _, rfl, s08.trans s813, s813 _ _ e58, hc, S, g6, a6, b6, g7, g8', hb1, hb2, hsc0, hsc, (s10.trans (s11.trans s1213)) _ _ e9, by decide, by decide⟩
    · refine r_l e13 at1 ?_
      exact hR _ _ ⟨lw, p2, xs, c, b, sc, 0, 0, x6, x7, _, _, rfl, s08.trans s813, s813 _ _ e58, hc, S, g6, a6, b6, g7, g8', hb1, hb2, hsc0, hsc, (s11.trans s1213) _ _ e10, by decide, by decide⟩
    · refine r_l e13 at2 ?_
      exact hR _ _ ⟨lw, p3, xs, c, b, sc, 7, -3, x6, x7, _, _, rfl, s08.trans s813, s813 _ _ e58, hc, S, g6, a6, b6, g7, g8', hb1, hb2, hsc0, hsc, s1213 _ _ e11, by decide, by decide⟩
    · refine r_l e13 at3 ?_
      exact hR _ _ ⟨lw, p4, xs, c, b, sc, _, _, x6, x7, _, _, rfl, s08.trans s813, s813 _ _ e58, hc, S, g6, a6, b6, g7, g8', hb1, hb2, hsc0, hsc, s13 _ _ e12, by decide +kernel, by decide +kernel⟩
  · walk_at "v"
    exact hR _ _ ⟨lw, t0, xs, c, b, sc, 0, 0, x6, x7, _, _, rfl, s08, e58, hc, S, g6, a6, b6, g7, g8', hb1, hb2, hsc0, hsc, e8, by decide, by decide⟩
end

noncomputable def mo (es : List En) (k : Nat) : Int := ((es[k]?).map (·.2.1)).getD 0
noncomputable def wo (es : List En) (k : Nat) : Rat := ((es[k]?).bind (·.2.2)).getD 0
noncomputable def sd (es : List En) (i k j : Nat) : Rat := wo es k - chord (mo es i) (wo es i) (mo es k) (mo es j) (wo es j)
noncomputable def AllS (es : List En) : Prop := ∀ x ∈ es, smp x = true
theorem sa_at {H : Hp} {es : List En} {n k : Nat} (hR : Row H es n) (hS : AllS es) (hk : k < es.length) : ∃ x, es[k]? = some x ∧ SaAt H x.1 (mo es k) (wo es k) n := by
  have g : es[k]? = some es[k] := List.getElem?_eq_getElem hk
  have hm : es[k] ∈ es := List.getElem_mem hk
  refine ⟨es[k], g, ?_⟩
  have h1 := hR _ hm
  have h2 : (es[k]).2.2.isSome = true := hS _ hm
  unfold mo wo
  rw [g]
  generalize es[k] = x at *
  obtain ⟨a, m, v⟩ := x
  cases v with
  | none => cases h2
  | some q =>
    obtain ⟨z, p, e, f⟩ := h1
    exact ⟨p, e, f, z⟩
theorem mo_lt {es : List En} {i j : Nat} (h : rising es) (hij : i < j) (hj : j < es.length) : mo es i < mo es j := by
  have hi : i < es.length := by walk_at "o"
  unfold mo
  rw [List.getElem?_eq_getElem hi, List.getElem?_eq_getElem hj]
  exact List.pairwise_iff_getElem.mp h i j hi hj hij
section
variable {P : Program} {w : World} {K : PySem.W.Frag} {mg : Str → Option Value} {base : Heap} {f : Addr} {fd : FuncData}
end

noncomputable def nworth (b : Int) (x : Int × Option Int) : Int × Option Rat := (x.1, x.2.map fun z : Int => (z : Rat) / (b : Rat))
noncomputable def nst (m1 n1 m2 n2 m3 n3 : Int) : Int := n2 * (m3 - m1) - n1 * (m3 - m2) - n3 * (m2 - m1)
noncomputable def spStandN : Sp := fun vs H Q _ => ∃ (p1 p2 p3 : Addr) (m1 n1 m2 n2 m3 n3 : Int) (m n : Nat), vs = [.ref p1, .ref p2, .ref p3] ∧ H p1 = some (.tup [.int m1, .int n1]) ∧ H p2 = some (.tup [.int m2, .int n2]) ∧ H p3 = some (.tup [.int m3, .int n3]) ∧
  Sz m m1 ∧ Sz m m2 ∧ Sz m m3 ∧ Sz n n1 ∧ Sz n n2 ∧ Sz n n3 ∧ m + n ≤ 100000 ∧ Q (.int (nst m1 n1 m2 n2 m3 n3)) H
theorem nst_sz {m1 n1 m2 n2 m3 n3 : Int} {m n : Nat} (a1 : Sz m m1) (a2 : Sz m m2) (a3 : Sz m m3) (b1 : Sz n n1) (b2 : Sz n n2) (b3 : Sz n n3) : Sz (m + n + 3) (nst m1 n1 m2 n2 m3 n3) := by
  unfold nst
  have x1 : Sz (m + n + 1) (n2 * (m3 - m1)) := (b2.mul (a3.sub a1)).mono (by walk_at "o")
  have x2 : Sz (m + n + 1) (n1 * (m3 - m2)) := (b1.mul (a3.sub a2)).mono (by walk_at "o")
  have x3 : Sz (m + n + 2) (n3 * (m2 - m1)) := (b3.mul (a2.sub a1)).mono (by walk_at "o")
  exact (x1.sub x2).sub x3
theorem r_unpack3 {σ : St} {H : Hp} {K : PySem.W.Frag} {p : Addr} {x y z : V} {i j k : Nat} {R : St → Hp → Prop} (h : H p = some (.tup [x, y, z])) (q : R (((σ.set i (some x)).set j (some y)).set k (some z)) H) : gTup K 3 (gCons (gName i) (gCons (gName j) (gCons (gName k) gNil))) (.ref p) σ H R :=
  ⟨p, _, rfl, SqT.of h, rfl, x, _, rfl, y, _, rfl, z, _, rfl, rfl, q⟩
section
variable {P : Program} {w : World} {K : PySem.W.Frag} {mg : Str → Option Value} {base : Heap} {f : Addr} {fd : FuncData}
theorem sc_law_stand : FnScope ["_law_one", "_law_mid", "_law_last", "_law_up"] ["_law_one", "_law_mid", "_law_last"] (defScope s_law_stand) := ⟨rfl, rfl, rfl, by decide +kernel, rfl, by decide +kernel, by decide +kernel⟩
theorem ok_law_stand (F : Fun K "_law_stand" "_law_stand" s_law_stand f fd) : FnOk P w K mg base CX0 1 f fd ["_law_one", "_law_mid", "_law_last"] spStandN := by
  refine F.ok sc_law_stand (fun vs H Q E h => ?_) (fun cdv A outer s H vs Q E hr h => ?_)
  · obtain ⟨p1, p2, p3, m1, n1, m2, n2, m3, n3, m, n, rfl, _⟩ := h
    rfl
  obtain ⟨p1, p2, p3, m1, n1, m2, n2, m3, n3, m, n, rfl, e1, e2, e3, a1, a2, a3, b1, b2, b3, hmn, k⟩ := h
  refine Jd.go ⟨_, (Jd.pss_cons (Jd.ps_set (i := 3) sc_law_stand.nd rfl (Or.inl rfl) (Jd.pe_op op_mulB (Jd.pe_ix (ixT K) (Jd.pv 1) Jd.pe_int (fun _ _ => rfl)) (Jd.pe_op op_sub (Jd.pe_ix (ixT K) (Jd.pv 2) Jd.pe_int (fun _ _ => rfl)) (Jd.pe_ix (ixT K) (Jd.pv 0) Jd.pe_int (fun _ _ => rfl)))) (hs := sw_B))
      (Jd.pss_one (Jd.ps_ret (Jd.pe_op op_sub (Jd.pe_op op_sub (Jd.pv 3) (Jd.pe_op op_mulB (Jd.pe_ix (ixT K) (Jd.pv 0) Jd.pe_int (fun _ _ => rfl)) (Jd.pe_op op_sub (Jd.pe_ix (ixT K) (Jd.pv 2) Jd.pe_int (fun _ _ => rfl)) (Jd.pe_ix (ixT K) (Jd.pv 1) Jd.pe_int (fun _ _ => rfl))))) (Jd.pe_op op_mulB (Jd.pe_ix (ixT K) (Jd.pv 2) Jd.pe_int (fun _ _ => rfl)) (Jd.pe_op op_sub (Jd.pe_ix (ixT K) (Jd.pv 1) Jd.pe_int (fun _ _ => rfl)) (Jd.pe_ix (ixT K) (Jd.pv 0) Jd.pe_int (fun _ _ => rfl)))))))), ?_⟩
  walk_at "v"
  refine r_I (mulOk b2 (a3.sub a1) (by walk_at "o")) ?_
  walk_at "v"
  refine r_I (mulOk b1 (a3.sub a2) (by walk_at "o")) ?_
  walk_at "v"
  refine r_I (mulOk b3 (a2.sub a1) (by walk_at "o")) ?_
  walk_at "v"
  exact k
end
noncomputable def nmo (hs : List Nn) (k : Nat) : Int := ((hs[k]?).map (·.2.1)).getD 0
noncomputable def nno (hs : List Nn) (k : Nat) : Int := ((hs[k]?).bind (·.2.2)).getD 0
noncomputable def nsd (hs : List Nn) (i k j : Nat) : Int := nst (nmo hs i) (nno hs i) (nmo hs k) (nno hs k) (nmo hs j) (nno hs j)
noncomputable def AllN (hs : List Nn) : Prop := ∀ x ∈ hs, nsm x = true
theorem nn_at {H : Hp} {hs : List Nn} {m n k : Nat} (hR : NRow H hs m n) (hS : AllN hs) (hk : k < hs.length) : ∃ x, hs[k]? = some x ∧ H x.1 = some (.tup [.int (nmo hs k), .int (nno hs k)]) ∧ Sz m (nmo hs k) ∧ Sz n (nno hs k) := by
  have g : hs[k]? = some hs[k] := List.getElem?_eq_getElem hk
  have hm : hs[k] ∈ hs := List.getElem_mem hk
  refine ⟨hs[k], g, ?_⟩
  have h1 := hR _ hm
  have h2 : (hs[k]).2.2.isSome = true := hS _ hm
  unfold nmo nno
  rw [g]
  generalize hs[k] = x at *
  obtain ⟨a, m, v⟩ := x
  cases v with
  | none => cases h2
  | some q => exact ⟨h1.1, h1.2.1, h1.2.2 q rfl⟩
theorem nmo_lt {hs : List Nn} {i j : Nat} (h : nrising hs) (hij : i < j) (hj : j < hs.length) : nmo hs i < nmo hs j := by
  have hi : i < hs.length := by walk_at "o"
  unfold nmo
  rw [List.getElem?_eq_getElem hi, List.getElem?_eq_getElem hj]
  exact List.pairwise_iff_getElem.mp h i j hi hj hij
section
variable {es : List En} {hs : List Nn} {b : Int} (h : es.map (·.2) = hs.map (fun x => nworth b x.2))
include h
theorem link_at (k : Nat) : mo es k = nmo hs k ∧ wo es k = (nno hs k : Rat) / (b : Rat) := by
  have e : (es.map (·.2))[k]? = (hs.map (fun x => nworth b x.2))[k]? := by rw [h]
  rw [List.getElem?_map, List.getElem?_map] at e
  unfold mo nmo wo nno
  have z : (0 : Rat) = ((0 : Int) : Rat) / (b : Rat) := by
    rw [show ((0 : Int) : Rat) = 0 from rfl, Rat.div_def, Rat.zero_mul]
  cases e1 : es[k]? with
  | none =>
    rw [e1] at e
    cases e2 : hs[k]? with
    | none => exact ⟨rfl, z⟩
    | some y => rw [e2] at e; cases e
  | some x =>
    rw [e1] at e
    cases e2 : hs[k]? with
    | none => rw [e2] at e; cases e
    | some y =>
      rw [e2] at e
      have q : x.2 = nworth b y.2 := Option.some.inj e
      obtain ⟨ax, tx, vx⟩ := x
      obtain ⟨ay, ty, vy⟩ := y
      cases vy with
      | none =>
        cases q
        exact ⟨rfl, z⟩
      | some w =>
        cases q
        exact ⟨rfl, rfl⟩
theorem link_rising (hr : nrising hs) : rising es := by
  have k : (hs.map fun x => x.2.1).Pairwise (· < ·) := List.pairwise_map.mpr hr
  have e := congrArg (List.map Prod.fst) h
  rw [List.map_map, List.map_map] at e
  have e' : es.map (fun x => x.2.1) = hs.map (fun x => x.2.1) := e
  rw [← e'] at k
  exact List.pairwise_map.mp k
theorem link_sd {i k j : Nat} (hb : 1 ≤ b) (ht : nmo hs i < nmo hs j) : ((nsd hs i k j : Int) : Rat) = sd es i k j * (((nmo hs j - nmo hs i) * b : Int) : Rat) := by
  obtain ⟨i1, i2⟩ := link_at h i
  obtain ⟨j1, j2⟩ := link_at h j
  obtain ⟨k1, k2⟩ := link_at h k
  unfold sd nsd nst
  rw [i1, i2, j1, j2, k1, k2]
  have hX := chord_mul (t := (nmo hs i : Rat)) (q := (nno hs i : Rat) / (b : Rat)) (u := (nmo hs k : Rat)) (t' := (nmo hs j : Rat)) (q' := (nno hs j : Rat) / (b : Rat)) (cast_sub_ne ht)
  have hb' := cast_ne (b := b) (by walk_at "o")
  simp only [Rat.intCast_mul, Rat.intCast_sub]
  generalize chord (nmo hs i : Rat) ((nno hs i : Rat) / (b : Rat)) (nmo hs k : Rat) (nmo hs j : Rat) ((nno hs j : Rat) / (b : Rat)) = X at *
  generalize (nmo hs i : Rat) = ti at *
  generalize (nmo hs j : Rat) = tj at *
  generalize (nmo hs k : Rat) = tk at *
  generalize (nno hs i : Rat) = ni at *
  generalize (nno hs j : Rat) = nj at *
  generalize (nno hs k : Rat) = nk at *
  grind
end
noncomputable abbrev Qs := List (Addr × Rat)
noncomputable def qrefs (rs : Qs) : List V := rs.map fun x => V.ref x.1
theorem qrefs_at {rs : Qs} {i : Nat} {v : V} (h : (qrefs rs)[i]? = some v) : ∃ x, rs[i]? = some x ∧ v = .ref x.1 := by
  unfold qrefs at h
  rw [List.getElem?_map] at h
  cases e : rs[i]? with
  | none => rw [e] at h; cases h
  | some x => rw [e] at h; cases h; exact ⟨x, rfl, rfl⟩
noncomputable def AllQ (H : Hp) (rs : Qs) (n : Nat) : Prop := ∀ x ∈ rs, QtAt H x.1 x.2 n
theorem QtAt.app {H : Hp} {R p : Addr} {q : Rat} {n : Nat} {ys : List V} {o : HO} (f : QtAt H p q n) (h : H R = some (.lst ys)) : QtAt (upd H R o) p q n :=
  let ⟨t, b, e, f⟩ := f
  ⟨t, b, (rm_up R H o) _ _ (rm_tup h e), f⟩
noncomputable def SaQ (H : Hp) (p : Addr) (t : Int) (q : Rat) (n m : Nat) : Prop := ∃ v : Addr, H p = some (.tup [.int t, .ref v]) ∧ QtAt H v q n ∧ Sz m t
theorem SaQ.up {H H' : Hp} {p : Addr} {t : Int} {q : Rat} {n m : Nat} (f : SaQ H p t q n m) (s : Same H H') : SaQ H' p t q n m := let ⟨v, e, f, z⟩ := f; ⟨v, s _ _ e, f.up s, z⟩
theorem SaAt.saq {H : Hp} {p : Addr} {t : Int} {q : Rat} {n : Nat} (f : SaAt H p t q n) : SaQ H p t q n n := let ⟨v, e, f, z⟩ := f; ⟨v, e, f.qt, z⟩
noncomputable def lowS (es : List En) (β : Rat) (i k : Nat) : Rat := (wo es k - β - wo es i) / ((mo es k : Rat) - (mo es i : Rat))
noncomputable def highS (es : List En) (β : Rat) (i k : Nat) : Rat := (wo es k + β - wo es i) / ((mo es k : Rat) - (mo es i : Rat))
noncomputable def spLslopeQ : Sp := fun vs H Q _ => ∃ (p r : Addr) (t t' : Int) (q q' : Rat) (n n' m : Nat), vs = [.ref p, .ref r] ∧ SaQ H p t q n m ∧ SaQ H r t' q' n' m ∧ t < t' ∧ n + n' + m ≤ 20000 ∧
  ∀ (s : Addr) (H' : Hp), Same H H' → QtAt H' s ((q' - q) / ((t' : Rat) - (t : Rat))) (n + n' + m + 2) → Q (.ref s) H'
noncomputable def spGreat : Sp := fun vs H Q _ => ∃ (l : Addr) (rs : Qs) (n : Nat), vs = [.ref l] ∧ H l = some (.lst (qrefs rs)) ∧ AllQ H rs n ∧ n ≤ 20000 ∧ 0 < rs.length ∧ ∀ x ∈ rs, (∀ y ∈ rs, y.2 ≤ x.2) → Q (.ref x.1) H
noncomputable def spSmall : Sp := fun vs H Q _ => ∃ (l : Addr) (rs : Qs) (n : Nat), vs = [.ref l] ∧ H l = some (.lst (qrefs rs)) ∧ AllQ H rs n ∧ n ≤ 20000 ∧ 0 < rs.length ∧ ∀ x ∈ rs, (∀ y ∈ rs, x.2 ≤ y.2) → Q (.ref x.1) H
section
variable {P : Program} {w : World} {K : PySem.W.Frag} {mg : Str → Option Value} {base : Heap} {f : Addr} {fd : FuncData}
theorem sc_greatest : FnScope ["quotients", "found", "quotient"] ["quotients"] (defScope s_greatest) := ⟨rfl, rfl, rfl, by decide +kernel, rfl, by decide +kernel, by decide +kernel⟩
theorem ok_greatest (F : Fun K "greatest" "greatest" s_greatest f fd) (D_order : Dn P w K mg base 1 "order" ["one", "other"] spOrderQ) : FnOk P w K mg base CX0 2 f fd ["quotients"] spGreat := by
  refine F.ok sc_greatest (fun vs H Q E h => ?_) (fun cdv A outer s H vs Q E hr h => ?_)
  · obtain ⟨l, rs, n, rfl, _⟩ := h
    rfl
  obtain ⟨l, rs, n, rfl, hl, hq, hn, hp, k⟩ := h
  have g0 : rs[0]? = some rs[0] := List.getElem?_eq_getElem hp
  refine Jd.go ⟨_, (Jd.pss_cons (Jd.ps_set (i := 1) sc_greatest.nd rfl (Or.inl rfl) (Jd.pe_ix (ixL K) (Jd.pv 0) Jd.pe_int (fun _ _ => rfl)) (hs := sw_S))
      (Jd.pss_cons (Jd.ps_for PassesOwn.never rfl (Jd.piL K (Jd.pv 0)) (Jd.pg_name (i := 2) sc_greatest.nd rfl (Or.inl rfl))
      (Jd.pss_one (Jd.ps_if (Jd.pt_cmpR op_gt (Jd.pe_dn D_order (hr.mono (by decide)) rfl (Jd.pa_cons (Jd.pv 2) (Jd.pa_cons (Jd.pv 1) Jd.pa_nil st_N) st_N) (he := st_N) (hpl := (anyc st_N any0))) Jd.pe_int (nomark _))
      (Jd.pss_one (Jd.ps_set (i := 1) sc_greatest.nd rfl (Or.inl rfl) (Jd.pv 2) (hs := sw_N)))
      Jd.pss_nil)))
      (Jd.pss_one (Jd.ps_ret (Jd.pv 1))))), ?_⟩
  walk_at "v"
  refine r_l hl (v := .ref (rs[0]).1) (atI_nat (j := 0) (by unfold qrefs; rw [List.getElem?_map, g0]; rfl)) ?_
  walk_at "v"
  refine r_for (r_iL ?_)
  walk_at "v"
  refine ⟨l, rfl, ⟨_, SqL.of hl⟩, for_list (xs := qrefs rs) (fun i σ H3 => H3 = H ∧ ∃ (x : Addr × Rat) (v : Option V), x ∈ rs ∧ σ = [some (.ref l), some (.ref x.1), v] ∧ ∀ y ∈ rs.take i, y.2 ≤ x.2) ?_ ?_ ?_ ?_⟩
  · exact ⟨rfl, rs[0], none, List.getElem_mem hp, rfl, fun y hy => by simp at hy⟩
  · rintro i σ H3 _ ⟨rfl, _⟩
    exact SqL.of hl
  · rintro i v σ H3 hx ⟨rfl, x, v2, hm, rfl, hle⟩
    obtain ⟨y, gy, rfl⟩ := qrefs_at hx
    have hy := List.mem_of_getElem? gy
    have tk : rs.take (i + 1) = rs.take i ++ [y] := by rw [List.take_add_one, gy]; rfl
    walk_at "v"
    refine ⟨y.1, x.1, y.2, x.2, n, n, rfl, hq y hy, hq x hm, by walk_at "o", fun o ho1 ho2 => ?_⟩
    walk_at "v"
    refine ite2 (fun c => ?_) (fun c => ?_)
    · have c' := ho1.mp (of_decide_eq_true c)
      walk_at "v"
      refine ⟨rfl, y, _, hy, rfl, fun z hz => ?_⟩
      rw [tk] at hz
      rcases List.mem_append.mp hz with q | q
      · have := hle z q
        grind
      · obtain rfl : z = y := by simpa using q
        exact Rat.le_refl
    · have c' : ¬ x.2 < y.2 := fun z => of_decide_eq_false (Bool.eq_false_iff.mpr c) (ho1.mpr z)
      walk_at "v"
      refine ⟨rfl, x, _, hm, rfl, fun z hz => ?_⟩
      rw [tk] at hz
      rcases List.mem_append.mp hz with q | q
      · exact hle z q
      · obtain rfl : z = y := by simpa using q
        exact Rat.not_lt.mp c'
  · rintro σ H3 ⟨rfl, x, v2, hm, rfl, hle⟩
    walk_at "v"
    refine k x hm fun y hy => hle y ?_
    have e : (qrefs rs).length = rs.length := List.length_map ..
    rw [e, List.take_length]
    exact hy
theorem sc_smallest : FnScope ["quotients", "found", "quotient"] ["quotients"] (defScope s_smallest) := ⟨rfl, rfl, rfl, by decide +kernel, rfl, by decide +kernel, by decide +kernel⟩
theorem ok_smallest (F : Fun K "smallest" "smallest" s_smallest f fd) (D_order : Dn P w K mg base 1 "order" ["one", "other"] spOrderQ) : FnOk P w K mg base CX0 2 f fd ["quotients"] spSmall := by
  refine F.ok sc_smallest (fun vs H Q E h => ?_) (fun cdv A outer s H vs Q E hr h => ?_)
  · obtain ⟨l, rs, n, rfl, _⟩ := h
    rfl
  obtain ⟨l, rs, n, rfl, hl, hq, hn, hp, k⟩ := h
  have g0 : rs[0]? = some rs[0] := List.getElem?_eq_getElem hp
  refine Jd.go ⟨_, (Jd.pss_cons (Jd.ps_set (i := 1) sc_smallest.nd rfl (Or.inl rfl) (Jd.pe_ix (ixL K) (Jd.pv 0) Jd.pe_int (fun _ _ => rfl)) (hs := sw_S))
      (Jd.pss_cons (Jd.ps_for PassesOwn.never rfl (Jd.piL K (Jd.pv 0)) (Jd.pg_name (i := 2) sc_smallest.nd rfl (Or.inl rfl))
      (Jd.pss_one (Jd.ps_if (Jd.pt_cmpR op_lt (Jd.pe_dn D_order (hr.mono (by decide)) rfl (Jd.pa_cons (Jd.pv 2) (Jd.pa_cons (Jd.pv 1) Jd.pa_nil st_N) st_N) (he := st_N) (hpl := (anyc st_N any0))) Jd.pe_int (nomark _))
      (Jd.pss_one (Jd.ps_set (i := 1) sc_smallest.nd rfl (Or.inl rfl) (Jd.pv 2) (hs := sw_N)))
      Jd.pss_nil)))
      (Jd.pss_one (Jd.ps_ret (Jd.pv 1))))), ?_⟩
  walk_at "v"
  refine r_l hl (v := .ref (rs[0]).1) (atI_nat (j := 0) (by unfold qrefs; rw [List.getElem?_map, g0]; rfl)) ?_
  walk_at "v"
  refine r_for (r_iL ?_)
  walk_at "v"
  refine ⟨l, rfl, ⟨_, SqL.of hl⟩, for_list (xs := qrefs rs) (fun i σ H3 => H3 = H ∧ ∃ (x : Addr × Rat) (v : Option V), x ∈ rs ∧ σ = [some (.ref l), some (.ref x.1), v] ∧ ∀ y ∈ rs.take i, x.2 ≤ y.2) ?_ ?_ ?_ ?_⟩
  · exact ⟨rfl, rs[0], none, List.getElem_mem hp, rfl, fun y hy => by simp at hy⟩
  · rintro i σ H3 _ ⟨rfl, _⟩
    exact SqL.of hl
  · rintro i v σ H3 hx ⟨rfl, x, v2, hm, rfl, hle⟩
    obtain ⟨y, gy, rfl⟩ := qrefs_at hx
    have hy := List.mem_of_getElem? gy
    have tk : rs.take (i + 1) = rs.take i ++ [y] := by rw [List.take_add_one, gy]; rfl
    walk_at "v"
    refine ⟨y.1, x.1, y.2, x.2, n, n, rfl, hq y hy, hq x hm, by walk_at "o", fun o ho1 ho2 => ?_⟩
    walk_at "v"
    refine ite2 (fun c => ?_) (fun c => ?_)
    · have c' := ho2.mp (of_decide_eq_true c)
      walk_at "v"
      refine ⟨rfl, y, _, hy, rfl, fun z hz => ?_⟩
      rw [tk] at hz
      rcases List.mem_append.mp hz with q | q
      · have := hle z q
        grind
      · obtain rfl : z = y := by simpa using q
        exact Rat.le_refl
    · have c' : ¬ y.2 < x.2 := fun z => of_decide_eq_false (Bool.eq_false_iff.mpr c) (ho2.mpr z)
      walk_at "v"
      refine ⟨rfl, x, _, hm, rfl, fun z hz => ?_⟩
      rw [tk] at hz
      rcases List.mem_append.mp hz with q | q
      · exact hle z q
      · obtain rfl : z = y := by simpa using q
        exact Rat.not_lt.mp c'
  · rintro σ H3 ⟨rfl, x, v2, hm, rfl, hle⟩
    walk_at "v"
    refine k x hm fun y hy => hle y ?_
    have e : (qrefs rs).length = rs.length := List.length_map ..
    rw [e, List.take_length]
    exact hy
theorem ok_loose_slopeQ (F : Fun K "loose_slope" "loose_slope" s_loose_slope f fd) (D_loose_minus : Dn P w K mg base 1 "loose_minus" ["one", "other"] (spTwo (· - ·) 1)) : FnOk P w K mg base CX0 3 f fd ["one", "other"] spLslopeQ := by
  refine F.ok sc_loose_slope (fun vs H Q E h => ?_) (fun cdv A outer s H vs Q E hr h => ?_)
  · obtain ⟨p, r, t, t', q, q', n, n', m, rfl, _⟩ := h
    rfl
  obtain ⟨p, r, t, t', q, q', n, n', m, rfl, ⟨v, hp, hv, zt⟩, ⟨v', hr', hv', zt'⟩, ht, hn, k⟩ := h
  refine Jd.go ⟨_, (Jd.pss_cons (Jd.ps_set (i := 2) sc_loose_slope.nd rfl (Or.inl rfl) (Jd.pe_dn D_loose_minus (hr.mono (by decide)) rfl (Jd.pa_cons (Jd.pe_ix (ixT K) (Jd.pv 1) Jd.pe_int (fun _ _ => rfl)) (Jd.pa_cons (Jd.pe_ix (ixT K) (Jd.pv 0) Jd.pe_int (fun _ _ => rfl)) Jd.pa_nil st_S) st_S) (he := st_S) (hpl := (anyc st_S any0))) (hs := sw_K))
      (Jd.pss_cons (Jd.ps_set (i := 3) sc_loose_slope.nd rfl (Or.inl rfl) (Jd.pe_op op_sub (Jd.pe_ix (ixT K) (Jd.pv 1) Jd.pe_int (fun _ _ => rfl)) (Jd.pe_ix (ixT K) (Jd.pv 0) Jd.pe_int (fun _ _ => rfl))) (hs := sw_B))
      (Jd.pss_cons (Jd.ps_if (Jd.pt_cmpR op_lt (Jd.pv 3) Jd.pe_int (nomark _))
      (Jd.pss_one (Jd.ps_ret (Jd.pe_tup (Jd.pa_cons (Jd.pe_un un_neg (Jd.pe_ix (ixT K) (Jd.pv 2) Jd.pe_int (fun _ _ => rfl))) (Jd.pa_cons (Jd.pe_op op_mulB (Jd.pe_ix (ixT K) (Jd.pv 2) Jd.pe_int (fun _ _ => rfl)) (Jd.pe_un un_neg (Jd.pv 3))) Jd.pa_nil st_B) st_U))))
      Jd.pss_nil)
      (Jd.pss_one (Jd.ps_ret (Jd.pe_tup (Jd.pa_cons (Jd.pe_ix (ixT K) (Jd.pv 2) Jd.pe_int (fun _ _ => rfl)) (Jd.pa_cons (Jd.pe_op op_mulB (Jd.pe_ix (ixT K) (Jd.pv 2) Jd.pe_int (fun _ _ => rfl)) (Jd.pv 3)) Jd.pa_nil st_B) st_S))))))), ?_⟩
  walk_at "v"
  refine ⟨v', v, q', q, n', n, rfl, hv', hv, by walk_at "o", fun x H1 s1 e1 => ?_⟩
  obtain ⟨a, b, hx, hq, za, zb⟩ := e1
  have hp1 := s1 _ _ hp
  have hr1 := s1 _ _ hr'
  have zs : Sz (m + 1) (t' - t) := zt'.sub zt
  walk_at "v"
  refine ite2 (fun c => ?_) (fun c => ?_)
  · have c' : t' - t < 0 := of_decide_eq_true c
    walk_at "o"
  · walk_at "v"
    refine r_I (mulOk zb zs (by walk_at "o")) ?_
    walk_at "v"
    refine r_new (mk := .tup) (by simp) fun y H2 s2 n2 e2 => ?_
    have q2 := hq.div (s := t' - t) (by walk_at "o")
    rw [Rat.intCast_sub] at q2
    exact k y H2 (s1.trans s2) ⟨_, _, e2, q2, za.mono (by walk_at "o"), (zb.mul zs).mono (by walk_at "o")⟩
end

theorem putF_len {f : Str} {v : V} : ∀ {fs : List (Str × V)} {x : V}, fs.lookup f = some x → (putF f v fs).length = fs.length
  | [], _, h => by cases h
  | (g, y) :: r, x, h => by
    unfold putF
    by_cases e : g = f
    · rw [if_pos e]; rfl
    · rw [if_neg e]
      have e' : (f == g) = false := by
        have : ¬ f = g := fun z => e z.symm
        simpa using this
      rw [List.lookup_cons, e'] at h
      show (putF f v r).length + 1 = r.length + 1
      rw [putF_len h]
section
variable {H H' : Hp} {p L : Addr} {C dx : Addr} {fs : List (Str × V)} {ys : List V}
end
theorem SaAt.en {H : Hp} {b : Addr} {t : Int} {q : Rat} {n : Nat} (f : SaAt H b t q n) : EnAt H (b, t, some q) n := let ⟨v, e, f, z⟩ := f; ⟨z, v, e, f⟩
theorem EnAt.sa {H : Hp} {b : Addr} {t : Int} {q : Rat} {n : Nat} (f : EnAt H (b, t, some q) n) : SaAt H b t q n := let ⟨z, v, e, f⟩ := f; ⟨v, e, f, z⟩
noncomputable def toNew (es : List En) (B : Rat) (m : Int) (q : Rat) (i : Nat) : Rat := (q + B - wo es i) / ((m : Rat) - (mo es i : Rat))
noncomputable def spGentle : Sp := fun vs H Q _ => ∃ (kv : V) (l x tw : Addr) (es : List En) (m : Int) (q B : Rat) (n nb : Nat), vs = [kv, .ref l, .ref x, .ref tw] ∧ H l = some (.lst (vals es)) ∧ Row H es n ∧ AllS es ∧ SaAt H x m q n ∧ QtAt H tw B nb ∧ es.length ≤ 900 ∧ n ≤ 1500 ∧ nb ≤ 3000 ∧ (∀ i, i < es.length → mo es i < m) ∧
  (kv = .non ∨ (0 < es.length ∧ ∃ pk Kq, kv = .ref pk ∧ QtAt H pk Kq (3 * n + nb + 3))) ∧ (es.length = 0 → kv = .non → ∀ H', Same H H' → Q .non H') ∧
  (0 < es.length → ∀ (pg : Addr) (G : Rat) (H' : Hp), Same H H' → QtAt H' pg G (3 * n + nb + 3) → (∀ pk Kq, kv = .ref pk → QtAt H pk Kq (3 * n + nb + 3) → Kq ≤ G) → (∀ i, i < es.length → toNew es (-B) m q i ≤ G) → ((∃ i, i < es.length ∧ toNew es (-B) m q i = G) ∨ ∃ pk, kv = .ref pk ∧ QtAt H pk G (3 * n + nb + 3)) → Q (.ref pg) H')
noncomputable def spSteep : Sp := fun vs H Q _ => ∃ (kv : V) (l x tw : Addr) (es : List En) (m : Int) (q B : Rat) (n nb : Nat), vs = [kv, .ref l, .ref x, .ref tw] ∧ H l = some (.lst (vals es)) ∧ Row H es n ∧ AllS es ∧ SaAt H x m q n ∧ QtAt H tw B nb ∧ es.length ≤ 900 ∧ n ≤ 1500 ∧ nb ≤ 3000 ∧ (∀ i, i < es.length → mo es i < m) ∧
  (kv = .non ∨ (0 < es.length ∧ ∃ pk Kq, kv = .ref pk ∧ QtAt H pk Kq (3 * n + nb + 3))) ∧ (es.length = 0 → kv = .non → ∀ H', Same H H' → Q .non H') ∧
  (0 < es.length → ∀ (pg : Addr) (G : Rat) (H' : Hp), Same H H' → QtAt H' pg G (3 * n + nb + 3) → (∀ pk Kq, kv = .ref pk → QtAt H pk Kq (3 * n + nb + 3) → G ≤ Kq) → (∀ i, i < es.length → G ≤ toNew es B m q i) → ((∃ i, i < es.length ∧ toNew es B m q i = G) ∨ ∃ pk, kv = .ref pk ∧ QtAt H pk G (3 * n + nb + 3)) → Q (.ref pg) H')
theorem qt_eq {H : Hp} {p : Addr} {q r : Rat} {n m : Nat} (a : QtAt H p q n) (b : QtAt H p r m) : q = r := by
  obtain ⟨t, d, e, f, _⟩ := a
  obtain ⟨t', d', e', f', _⟩ := b
  rw [e] at e'
  cases e'
  have h1 := f.eq
  have h2 := f'.eq
  have hd := cast_ne (b := d) (by have := f.pos; walk_at "o")
  grind
section
variable {P : Program} {w : World} {K : PySem.W.Frag} {mg : Str → Option Value} {base : Heap} {f c_Stretch : Addr} {fd : FuncData}
theorem sc_gentlest_with : FnScope ["known", "earlier", "sample", "twice", "lowered", "found"] ["known", "earlier", "sample", "twice"] (defScope s_gentlest_with) := ⟨rfl, rfl, rfl, by decide +kernel, rfl, by decide +kernel, by decide +kernel⟩
theorem ok_gentlest_with (F : Fun K "gentlest_with" "gentlest_with" s_gentlest_with f fd) (T : Txt mg) (D_loose_minus : Dn P w K mg base 1 "loose_minus" ["one", "other"] (spTwo (· - ·) 1)) (D_loose_slopeQ : Dn P w K mg base 3 "loose_slope" ["one", "other"] spLslopeQ) (D_greatest : Dn P w K mg base 2 "greatest" ["quotients"] spGreat) :
    FnOk P w K mg base CX0 4 f fd ["known", "earlier", "sample", "twice"] spGentle := by
  refine F.ok sc_gentlest_with (fun vs H Q E h => ?_) (fun cdv A outer s H vs Q E hr h => ?_)
  · obtain ⟨kv, l, x, tw, es, m, q, B, n, nb, rfl, _⟩ := h
    rfl
  obtain ⟨kv, l, x, tw, es, m, q, B, n, nb, rfl, hl, hR, hS, hx, htw, h900, hn, hnb, hm, hkv, k0, k1⟩ := h
  obtain ⟨vx, ex, fx, zm⟩ := hx
  refine Jd.go ⟨_, (Jd.pss_cons (Jd.ps_set (i := 4) sc_gentlest_with.nd rfl (Or.inr rfl) (Jd.pe_tup (Jd.pa_cons (Jd.pe_ix (ixT K) (Jd.pv 2) Jd.pe_int (fun _ _ => rfl)) (Jd.pa_cons (Jd.pe_dn D_loose_minus (hr.mono (by decide)) rfl (Jd.pa_cons (Jd.pe_ix (ixT K) (Jd.pv 2) Jd.pe_int (fun _ _ => rfl)) (Jd.pa_cons (Jd.pv 3) Jd.pa_nil st_N) st_S) (he := st_S) (hpl := (anyc st_N any0))) Jd.pa_nil st_K) st_S)) (hs := sw_T))
      (Jd.pss_cons (Jd.ps_comp (O := ["one"]) (N' := ["lowered"]) (cap := [4]) (i := 5) sc_gentlest_with.nd rfl (Or.inl rfl) rfl (Jd.piL K (Jd.pv 1)) (fun _ _ _ _ _ => (Jd.pg_name (i := 0) (show List.Nodup [("one" : Str), ("lowered" : Str)] by decide +kernel) rfl (Or.inl rfl))) (fun _ _ _ _ _ => Jd.pts_nil) (fun _ _ _ _ _ => (Jd.pe_dn D_loose_slopeQ (hr.mono (by decide)) rfl (Jd.pa_cons (Jd.pv 0) (Jd.pa_cons (Jd.pv 1) Jd.pa_nil st_N) st_N) (he := st_N) (hpl := (anyc st_N any0)))) rfl ⟨⟨rfl, rfl, rfl, rfl⟩, trivial⟩ rfl (by decide +kernel) rfl (by decide +kernel) (by rfl))
      (Jd.pss_cons (Jd.ps_if (Jd.pt_cmpR op_notN (Jd.pv 0) Jd.pe_non (nomark _))
      (Jd.pss_one (Jd.ps_expr (Jd.appC K (Jd.pv 5) (Jd.pv 0)) (hs := sw_K)))
      Jd.pss_nil)
      (Jd.pss_one (Jd.ps_ret (Jd.pe_ifExp (Jd.pt_cmpR op_gt (Jd.pe_callB (lenC K) rfl T.len_ PySem.boot_len (Jd.pa_cons (Jd.pv 5) Jd.pa_nil st_N) (he := st_N) (hpl := any0)) Jd.pe_int (nomark _)) (Jd.pe_dn D_greatest (hr.mono (by decide)) rfl (Jd.pa_cons (Jd.pv 5) Jd.pa_nil st_N) (he := st_N) (hpl := any0)) Jd.pe_non)))))), ?_⟩
  walk_at "v"
  refine ⟨vx, tw, q, B, n, nb, rfl, fx.qt, htw, by walk_at "o", fun y1 H1 s1 f1 => ?_⟩
  walk_at "v"
  refine r_new (mk := .tup) (by simp) fun lo H2 s2 n2 e2 => ?_
  have s02 := s1.trans s2
  have flo : SaQ H2 lo m (q - B) (n + nb + 1) n := ⟨y1, e2, f1.up s2, zm⟩
  walk_at "v"
  refine r_iL ?_
  walk_at "v"
  refine ⟨l, rfl, ⟨_, SqL.of (s02 _ _ hl)⟩, ?_⟩
  refine compB_of (xs := vals es) tells_list (fun H3 s3 => SqL.of (s3 _ _ (s02 _ _ hl))) (by rw [vals_len]; walk_at "o") (fun i ys G => ∃ rs : Qs, ys = qrefs rs ∧ AllQ G rs (3 * n + nb + 3) ∧ rs.map (·.2) = (List.range i).map (fun j => toNew es (-B) m q j)) ⟨[], rfl, fun z hz => absurd hz (by simp), rfl⟩ ?_ ?_
  · rintro D i v ys H3 σ0 N N0 h0 hD eD s3 hv hy ⟨rs, rfl, hrs, hmap⟩ kY kN
    obtain ⟨e, he, rfl⟩ := vals_at hv
    have hi : i < es.length := (List.getElem?_eq_some_iff.mp he).1
    obtain ⟨xi, gi, fi⟩ := sa_at (hR.up (s02.trans s3)) hS hi
    rw [he] at gi
    cases gi
    refine r_own1 h0 ?_
    walk_at "v"
    refine iteT ?_
    walk_at "v"
    refine ⟨e.1, lo, _, _, _, _, n, n + nb + 1, n, rfl, fi.saq, flo.up s3, hm i hi, by walk_at "o", fun z H4 s4 f4 => ?_⟩
    refine kY _ H4 s4 ⟨rs ++ [(z, toNew es (-B) m q i)], by simp [qrefs], fun u hu => ?_, ?_⟩
    · rcases List.mem_append.mp hu with w | w
      · exact (hrs u w).up (rm_rm s4)
      · obtain rfl : u = (z, toNew es (-B) m q i) := by simpa using w
        obtain ⟨t, d, e', ff⟩ := f4.mono (show n + (n + nb + 1) + n + 2 ≤ 3 * n + nb + 3 by walk_at "o")
        refine ⟨t, d, rm_tup (s4 _ _ eD) e', ?_⟩
        have eq : (q - B - wo es i) / ((m : Rat) - (mo es i : Rat)) = toNew es (-B) m q i := by
          unfold toNew
          rw [show q + -B - wo es i = q - B - wo es i by grind]
        rw [← eq]
        exact ff
    · rw [List.map_append, hmap, List.range_succ, List.map_append]
      rfl
  · rintro D ys H3 hD eD s3 hy ⟨rs, rfl, hrs, hmap⟩
    rw [vals_len] at hmap
    have hrs3 : AllQ H3 rs (3 * n + nb + 3) := fun u hu => (hrs u hu).up rm_same
    have s03 := s02.trans s3
    have hlen : rs.length = es.length := by
      have := congrArg List.length hmap
      simpa using this
    have inR : ∀ i, i < es.length → ∃ u ∈ rs, u.2 = toNew es (-B) m q i := fun i hi => by
      have : toNew es (-B) m q i ∈ rs.map (·.2) := by rw [hmap]; exact List.mem_map.mpr ⟨i, List.mem_range.mpr hi, rfl⟩
      obtain ⟨u, hu, e⟩ := List.mem_map.mp this
      exact ⟨u, hu, e⟩
    have ofR : ∀ u ∈ rs, ∃ i, i < es.length ∧ toNew es (-B) m q i = u.2 := fun u hu => by
      have : u.2 ∈ rs.map (·.2) := List.mem_map.mpr ⟨u, hu, rfl⟩
      rw [hmap] at this
      obtain ⟨i, hi, e⟩ := List.mem_map.mp this
      exact ⟨i, List.mem_range.mp hi, e⟩
    walk_at "v"
    rcases hkv with rfl | ⟨hpos, pk, Kq, rfl, hK⟩
    · refine ⟨rfl, ?_⟩
      walk_at "v"
      refine iteF ?_
      walk_at "v"
      refine r_len (.inl (SqL.of eD)) ?_
      walk_at "v"
      refine ite2 (fun c => ?_) (fun c => ?_)
      · have c' := of_decide_eq_true c
        have hpos : 0 < rs.length := by
          have e : (qrefs rs).length = rs.length := List.length_map ..
          rw [e] at c'
          walk_at "o"
        walk_at "v"
        refine ⟨D, rs, 3 * n + nb + 3, rfl, eD, hrs3, by walk_at "o", hpos, fun u hu hmax => ?_⟩
        walk_at "v"
        refine k1 (by walk_at "o") u.1 u.2 H3 s03 (hrs3 u hu) (fun pk Kq e => by cases e) (fun i hi => ?_) (.inl (ofR u hu))
        obtain ⟨z, hz, e⟩ := inR i hi
        rw [← e]
        exact hmax z hz
      · have c' := of_decide_eq_false (Bool.eq_false_iff.mpr c)
        walk_at "v"
        refine k0 ?_ rfl H3 s03
        have e : (qrefs rs).length = rs.length := List.length_map ..
        rw [e] at c'
        walk_at "o"
    · refine ⟨rfl, ?_⟩
      walk_at "v"
      refine iteT ?_
      walk_at "v"
      refine ⟨.inl ⟨rfl, _, SqL.of eD⟩, ?_⟩
      walk_at "v"
      have e : (qrefs rs).length = rs.length := List.length_map ..
      refine r_app eD (by rw [e]; exact small1000 (by walk_at "o")) ?_
      have e4 : upd H3 D (.lst (qrefs rs ++ [.ref pk])) D = some (.lst (qrefs (rs ++ [(pk, Kq)]))) := by rw [upd_same]; simp [qrefs]
      have hK3 := hK.up s03
      generalize hG : upd H3 D (.lst (qrefs rs ++ [.ref pk])) = H4 at *
      have s04 : Same H2 H4 := by rw [← hG]; exact same_at s3 hD
      have hq4 : AllQ H4 (rs ++ [(pk, Kq)]) (3 * n + nb + 3) := fun u hu => by
        rcases List.mem_append.mp hu with w | w
        · rw [← hG]; exact (hrs3 u w).app eD
        · obtain rfl : u = (pk, Kq) := by simpa using w
          rw [← hG]; exact hK3.app eD
      walk_at "v"
      refine r_len (.inl (SqL.of e4)) ?_
      walk_at "v"
      have e' : (qrefs (rs ++ [(pk, Kq)])).length = rs.length + 1 := by simp [qrefs]
      rw [e', show decide ((((rs.length + 1 : Nat) : Int)) > 0) = true from decide_eq_true (by walk_at "o")]
      refine iteT ?_
      walk_at "v"
      refine ⟨D, rs ++ [(pk, Kq)], 3 * n + nb + 3, rfl, e4, hq4, by walk_at "o", by simp, fun u hu hmax => ?_⟩
      walk_at "v"
      refine k1 hpos u.1 u.2 H4 (s02.trans s04) (hq4 u hu) (fun pk' Kq' e1 q1 => ?_) (fun i hi => ?_) ?_
      · cases e1
        rw [qt_eq q1 hK]
        exact hmax (pk, Kq) (by simp)
      · obtain ⟨z, hz, e1⟩ := inR i hi
        rw [← e1]
        exact hmax z (List.mem_append_left _ hz)
      · rcases List.mem_append.mp hu with w | w
        · exact .inl (ofR u w)
        · obtain rfl : u = (pk, Kq) := by simpa using w
          exact .inr ⟨pk, rfl, hK⟩
theorem sc_steepest_with : FnScope ["known", "earlier", "sample", "twice", "raised", "found"] ["known", "earlier", "sample", "twice"] (defScope s_steepest_with) := ⟨rfl, rfl, rfl, by decide +kernel, rfl, by decide +kernel, by decide +kernel⟩
theorem ok_steepest_with (F : Fun K "steepest_with" "steepest_with" s_steepest_with f fd) (T : Txt mg) (D_loose_plus : Dn P w K mg base 1 "loose_plus" ["one", "other"] (spTwo (· + ·) 1)) (D_loose_slopeQ : Dn P w K mg base 3 "loose_slope" ["one", "other"] spLslopeQ) (D_smallest : Dn P w K mg base 2 "smallest" ["quotients"] spSmall) :
    FnOk P w K mg base CX0 4 f fd ["known", "earlier", "sample", "twice"] spSteep := by
  refine F.ok sc_steepest_with (fun vs H Q E h => ?_) (fun cdv A outer s H vs Q E hr h => ?_)
  · obtain ⟨kv, l, x, tw, es, m, q, B, n, nb, rfl, _⟩ := h
    rfl
  obtain ⟨kv, l, x, tw, es, m, q, B, n, nb, rfl, hl, hR, hS, hx, htw, h900, hn, hnb, hm, hkv, k0, k1⟩ := h
  obtain ⟨vx, ex, fx, zm⟩ := hx
  refine Jd.go ⟨_, (Jd.pss_cons (Jd.ps_set (i := 4) sc_steepest_with.nd rfl (Or.inr rfl) (Jd.pe_tup (Jd.pa_cons (Jd.pe_ix (ixT K) (Jd.pv 2) Jd.pe_int (fun _ _ => rfl)) (Jd.pa_cons (Jd.pe_dn D_loose_plus (hr.mono (by decide)) rfl (Jd.pa_cons (Jd.pe_ix (ixT K) (Jd.pv 2) Jd.pe_int (fun _ _ => rfl)) (Jd.pa_cons (Jd.pv 3) Jd.pa_nil st_N) st_S) (he := st_S) (hpl := (anyc st_N any0))) Jd.pa_nil st_K) st_S)) (hs := sw_T))
      (Jd.pss_cons (Jd.ps_comp (O := ["one"]) (N' := ["raised"]) (cap := [4]) (i := 5) sc_steepest_with.nd rfl (Or.inl rfl) rfl (Jd.piL K (Jd.pv 1)) (fun _ _ _ _ _ => (Jd.pg_name (i := 0) (show List.Nodup [("one" : Str), ("raised" : Str)] by decide +kernel) rfl (Or.inl rfl))) (fun _ _ _ _ _ => Jd.pts_nil) (fun _ _ _ _ _ => (Jd.pe_dn D_loose_slopeQ (hr.mono (by decide)) rfl (Jd.pa_cons (Jd.pv 0) (Jd.pa_cons (Jd.pv 1) Jd.pa_nil st_N) st_N) (he := st_N) (hpl := (anyc st_N any0)))) rfl ⟨⟨rfl, rfl, rfl, rfl⟩, trivial⟩ rfl (by decide +kernel) rfl (by decide +kernel) (by rfl))
      (Jd.pss_cons (Jd.ps_if (Jd.pt_cmpR op_notN (Jd.pv 0) Jd.pe_non (nomark _))
      (Jd.pss_one (Jd.ps_expr (Jd.appC K (Jd.pv 5) (Jd.pv 0)) (hs := sw_K)))
      Jd.pss_nil)
      (Jd.pss_one (Jd.ps_ret (Jd.pe_ifExp (Jd.pt_cmpR op_gt (Jd.pe_callB (lenC K) rfl T.len_ PySem.boot_len (Jd.pa_cons (Jd.pv 5) Jd.pa_nil st_N) (he := st_N) (hpl := any0)) Jd.pe_int (nomark _)) (Jd.pe_dn D_smallest (hr.mono (by decide)) rfl (Jd.pa_cons (Jd.pv 5) Jd.pa_nil st_N) (he := st_N) (hpl := any0)) Jd.pe_non)))))), ?_⟩
  walk_at "v"
  refine ⟨vx, tw, q, B, n, nb, rfl, fx.qt, htw, by walk_at "o", fun y1 H1 s1 f1 => ?_⟩
  walk_at "v"
  refine r_new (mk := .tup) (by simp) fun lo H2 s2 n2 e2 => ?_
  have s02 := s1.trans s2
  have flo : SaQ H2 lo m (q + B) (n + nb + 1) n := ⟨y1, e2, f1.up s2, zm⟩
  walk_at "v"
  refine r_iL ?_
  walk_at "v"
  refine ⟨l, rfl, ⟨_, SqL.of (s02 _ _ hl)⟩, ?_⟩
  refine compB_of (xs := vals es) tells_list (fun H3 s3 => SqL.of (s3 _ _ (s02 _ _ hl))) (by rw [vals_len]; walk_at "o") (fun i ys G => ∃ rs : Qs, ys = qrefs rs ∧ AllQ G rs (3 * n + nb + 3) ∧ rs.map (·.2) = (List.range i).map (fun j => toNew es B m q j)) ⟨[], rfl, fun z hz => absurd hz (by simp), rfl⟩ ?_ ?_
  · rintro D i v ys H3 σ0 N N0 h0 hD eD s3 hv hy ⟨rs, rfl, hrs, hmap⟩ kY kN
    obtain ⟨e, he, rfl⟩ := vals_at hv
    have hi : i < es.length := (List.getElem?_eq_some_iff.mp he).1
    obtain ⟨xi, gi, fi⟩ := sa_at (hR.up (s02.trans s3)) hS hi
    rw [he] at gi
    cases gi
    refine r_own1 h0 ?_
    walk_at "v"
    refine iteT ?_
    walk_at "v"
    refine ⟨e.1, lo, _, _, _, _, n, n + nb + 1, n, rfl, fi.saq, flo.up s3, hm i hi, by walk_at "o", fun z H4 s4 f4 => ?_⟩
    refine kY _ H4 s4 ⟨rs ++ [(z, toNew es B m q i)], by simp [qrefs], fun u hu => ?_, ?_⟩
    · rcases List.mem_append.mp hu with w | w
      · exact (hrs u w).up (rm_rm s4)
      · obtain rfl : u = (z, toNew es B m q i) := by simpa using w
        obtain ⟨t, d, e', ff⟩ := f4.mono (show n + (n + nb + 1) + n + 2 ≤ 3 * n + nb + 3 by walk_at "o")
        refine ⟨t, d, rm_tup (s4 _ _ eD) e', ?_⟩
        have eq : (q + B - wo es i) / ((m : Rat) - (mo es i : Rat)) = toNew es B m q i := by
          rfl
        rw [← eq]
        exact ff
    · rw [List.map_append, hmap, List.range_succ, List.map_append]
      rfl
  · rintro D ys H3 hD eD s3 hy ⟨rs, rfl, hrs, hmap⟩
    rw [vals_len] at hmap
    have hrs3 : AllQ H3 rs (3 * n + nb + 3) := fun u hu => (hrs u hu).up rm_same
    have s03 := s02.trans s3
    have hlen : rs.length = es.length := by
      have := congrArg List.length hmap
      simpa using this
    have inR : ∀ i, i < es.length → ∃ u ∈ rs, u.2 = toNew es B m q i := fun i hi => by
      have : toNew es B m q i ∈ rs.map (·.2) := by rw [hmap]; exact List.mem_map.mpr ⟨i, List.mem_range.mpr hi, rfl⟩
      obtain ⟨u, hu, e⟩ := List.mem_map.mp this
      exact ⟨u, hu, e⟩
    have ofR : ∀ u ∈ rs, ∃ i, i < es.length ∧ toNew es B m q i = u.2 := fun u hu => by
      have : u.2 ∈ rs.map (·.2) := List.mem_map.mpr ⟨u, hu, rfl⟩
      rw [hmap] at this
      obtain ⟨i, hi, e⟩ := List.mem_map.mp this
      exact ⟨i, List.mem_range.mp hi, e⟩
    walk_at "v"
    rcases hkv with rfl | ⟨hpos, pk, Kq, rfl, hK⟩
    · refine ⟨rfl, ?_⟩
      walk_at "v"
      refine iteF ?_
      walk_at "v"
      refine r_len (.inl (SqL.of eD)) ?_
      walk_at "v"
      refine ite2 (fun c => ?_) (fun c => ?_)
      · have c' := of_decide_eq_true c
        have hpos : 0 < rs.length := by
          have e : (qrefs rs).length = rs.length := List.length_map ..
          rw [e] at c'
          walk_at "o"
        walk_at "v"
        refine ⟨D, rs, 3 * n + nb + 3, rfl, eD, hrs3, by walk_at "o", hpos, fun u hu hmax => ?_⟩
        walk_at "v"
        refine k1 (by walk_at "o") u.1 u.2 H3 s03 (hrs3 u hu) (fun pk Kq e => by cases e) (fun i hi => ?_) (.inl (ofR u hu))
        obtain ⟨z, hz, e⟩ := inR i hi
        rw [← e]
        exact hmax z hz
      · have c' := of_decide_eq_false (Bool.eq_false_iff.mpr c)
        walk_at "v"
        refine k0 ?_ rfl H3 s03
        have e : (qrefs rs).length = rs.length := List.length_map ..
        rw [e] at c'
        walk_at "o"
    · refine ⟨rfl, ?_⟩
      walk_at "v"
      refine iteT ?_
      walk_at "v"
      refine ⟨.inl ⟨rfl, _, SqL.of eD⟩, ?_⟩
      walk_at "v"
      have e : (qrefs rs).length = rs.length := List.length_map ..
      refine r_app eD (by rw [e]; exact small1000 (by walk_at "o")) ?_
      have e4 : upd H3 D (.lst (qrefs rs ++ [.ref pk])) D = some (.lst (qrefs (rs ++ [(pk, Kq)]))) := by rw [upd_same]; simp [qrefs]
      have hK3 := hK.up s03
      generalize hG : upd H3 D (.lst (qrefs rs ++ [.ref pk])) = H4 at *
      have s04 : Same H2 H4 := by rw [← hG]; exact same_at s3 hD
      have hq4 : AllQ H4 (rs ++ [(pk, Kq)]) (3 * n + nb + 3) := fun u hu => by
        rcases List.mem_append.mp hu with w | w
        · rw [← hG]; exact (hrs3 u w).app eD
        · obtain rfl : u = (pk, Kq) := by simpa using w
          rw [← hG]; exact hK3.app eD
      walk_at "v"
      refine r_len (.inl (SqL.of e4)) ?_
      walk_at "v"
      have e' : (qrefs (rs ++ [(pk, Kq)])).length = rs.length + 1 := by simp [qrefs]
      rw [e', show decide ((((rs.length + 1 : Nat) : Int)) > 0) = true from decide_eq_true (by walk_at "o")]
      refine iteT ?_
      walk_at "v"
      refine ⟨D, rs ++ [(pk, Kq)], 3 * n + nb + 3, rfl, e4, hq4, by walk_at "o", by simp, fun u hu hmax => ?_⟩
      walk_at "v"
      refine k1 hpos u.1 u.2 H4 (s02.trans s04) (hq4 u hu) (fun pk' Kq' e1 q1 => ?_) (fun i hi => ?_) ?_
      · cases e1
        rw [qt_eq q1 hK]
        exact hmax (pk, Kq) (by simp)
      · obtain ⟨z, hz, e1⟩ := inR i hi
        rw [← e1]
        exact hmax z (List.mem_append_left _ hz)
      · rcases List.mem_append.mp hu with w | w
        · exact .inl (ofR u w)
        · obtain rfl : u = (pk, Kq) := by simpa using w
          exact .inr ⟨pk, rfl, hK⟩
theorem mo_left {es fs : List En} {i : Nat} (h : i < es.length) : mo (es ++ fs) i = mo es i := by unfold mo; rw [List.getElem?_append_left h]
theorem wo_left {es fs : List En} {i : Nat} (h : i < es.length) : wo (es ++ fs) i = wo es i := by unfold wo; rw [List.getElem?_append_left h]
theorem mo_last {es : List En} {a : Addr} {m : Int} {q : Rat} : mo (es ++ [(a, m, some q)]) es.length = m := by unfold mo; simp
theorem wo_last {es : List En} {a : Addr} {m : Int} {q : Rat} : wo (es ++ [(a, m, some q)]) es.length = q := by unfold wo; simp
section
variable {es : List En} {a : Addr} {m : Int} {q B G S : Rat} {i j : Nat}
theorem low_left (hij : i < j) (hj : j < es.length) : lowS (es ++ [(a, m, some q)]) B i j = lowS es B i j := by
  unfold lowS
  rw [mo_left hj, wo_left hj, mo_left (by walk_at "o"), wo_left (by walk_at "o")]
theorem high_left (hij : i < j) (hj : j < es.length) : highS (es ++ [(a, m, some q)]) B i j = highS es B i j := by
  unfold highS
  rw [mo_left hj, wo_left hj, mo_left (by walk_at "o"), wo_left (by walk_at "o")]
theorem low_new (hi : i < es.length) : lowS (es ++ [(a, m, some q)]) B i es.length = toNew es (-B) m q i := by
  unfold lowS toNew
  rw [mo_last, wo_last, mo_left hi, wo_left hi, show q + -B = q - B by grind]
theorem high_new (hi : i < es.length) : highS (es ++ [(a, m, some q)]) B i es.length = toNew es B m q i := by
  unfold highS toNew
  rw [mo_last, wo_last, mo_left hi, wo_left hi]
theorem rising_new (h : rising es) (hm : ∀ i, i < es.length → mo es i < m) : rising (es ++ [(a, m, some q)]) := by
  refine List.pairwise_append.mpr ⟨h, List.pairwise_singleton _ _, fun x hx y hy => ?_⟩
  obtain rfl : y = (a, m, some q) := by simpa using hy
  obtain ⟨i, hi, rfl⟩ := List.getElem_of_mem hx
  have := hm i hi
  unfold mo at this
  rw [List.getElem?_eq_getElem hi] at this
  exact this
theorem allS_new (h : AllS es) : AllS (es ++ [(a, m, some q)]) := fun x hx => by
  rcases List.mem_append.mp hx with z | z
  · exact h x z
  · obtain rfl : x = (a, m, some q) := by simpa using z
    rfl
end
end
noncomputable def LoP (ss : List En) (B : Rat) (fl ro : Nat) (G : Rat) : Prop := ∀ q p, ro ≤ q → q < p → fl ≤ p → p < ss.length → lowS ss B q p ≤ G
noncomputable def HiP (ss : List En) (B : Rat) (fl ro : Nat) (S : Rat) : Prop := ∀ q p, fl ≤ q → q < p → ro ≤ p → p < ss.length → S ≤ highS ss B q p
noncomputable def GF (ss : List En) (B : Rat) (fl ro : Nat) (G : Rat) : Prop := LoP ss B fl ro G ∧ ∃ q p, ro ≤ q ∧ q < p ∧ fl ≤ p ∧ p < ss.length ∧ lowS ss B q p = G
noncomputable def SF (ss : List En) (B : Rat) (fl ro : Nat) (S : Rat) : Prop := HiP ss B fl ro S ∧ ∃ q p, fl ≤ q ∧ q < p ∧ ro ≤ p ∧ p < ss.length ∧ highS ss B q p = S
noncomputable def lev (ss : List En) (T : Rat) (i : Nat) : Rat := wo ss i - T * (mo ss i : Rat)
theorem rle_eq {a b : Rat} (h : a = b) : a ≤ b := h ▸ Rat.le_refl
section
variable {ss : List En} {B G S T β : Rat} {fl ro i j a b : Nat} {x : Addr} {m : Int} {q : Rat}
theorem mo_pos (h : rising ss) (hij : i < j) (hj : j < ss.length) : (0 : Rat) < (mo ss j : Rat) - (mo ss i : Rat) := by
  have := Rat.intCast_lt_intCast.mpr (mo_lt h hij hj)
  grind
theorem low_lev (h : rising ss) (hij : i < j) (hj : j < ss.length) : lowS ss B i j ≤ G ↔ lev ss G j ≤ lev ss G i + B := by
  unfold lowS lev
  rw [rdiv_le (mo_pos h hij hj)]
  constructor
  · intro _; grind
  · intro _; grind
theorem lev_low (h : rising ss) (hij : i < j) (hj : j < ss.length) : G ≤ lowS ss B i j ↔ lev ss G i + B ≤ lev ss G j := by
  unfold lowS lev
  rw [rle_div (mo_pos h hij hj)]
  constructor
  · intro _; grind
  · intro _; grind
theorem high_lev (h : rising ss) (hij : i < j) (hj : j < ss.length) : S ≤ highS ss B i j ↔ lev ss S i ≤ lev ss S j + B := by
  unfold highS lev
  rw [rle_div (mo_pos h hij hj)]
  constructor
  · intro _; grind
  · intro _; grind
theorem lev_high (h : rising ss) (hij : i < j) (hj : j < ss.length) : highS ss B i j ≤ S ↔ lev ss S j + B ≤ lev ss S i := by
  unfold highS lev
  rw [rdiv_le (mo_pos h hij hj)]
  constructor
  · intro _; grind
  · intro _; grind
theorem low_is (h : rising ss) (hij : i < j) (hj : j < ss.length) : lowS ss B i j = G ↔ lev ss G j = lev ss G i + B :=
  ⟨fun e => Rat.le_antisymm ((low_lev h hij hj).mp (rle_eq e)) ((lev_low h hij hj).mp (rle_eq e.symm)), fun e => Rat.le_antisymm ((low_lev h hij hj).mpr (rle_eq e)) ((lev_low h hij hj).mpr (rle_eq e.symm))⟩
theorem high_is (h : rising ss) (hij : i < j) (hj : j < ss.length) : highS ss B i j = S ↔ lev ss S i = lev ss S j + B :=
  ⟨fun e => Rat.le_antisymm ((high_lev h hij hj).mp (rle_eq e.symm)) ((lev_high h hij hj).mp (rle_eq e)), fun e => Rat.le_antisymm ((lev_high h hij hj).mpr (rle_eq e.symm)) ((high_lev h hij hj).mpr (rle_eq e))⟩
theorem GF.uniq {G' : Rat} (g : GF ss B fl ro G) (g' : GF ss B fl ro G') : G = G' := by
  obtain ⟨h1, q, p, a1, a2, a3, a4, e⟩ := g
  obtain ⟨h1', q', p', a1', a2', a3', a4', e'⟩ := g'
  refine Rat.le_antisymm ?_ ?_
  · rw [← e]; exact h1' q p a1 a2 a3 a4
  · rw [← e']; exact h1 q' p' a1' a2' a3' a4'
theorem SF.uniq {S' : Rat} (g : SF ss B fl ro S) (g' : SF ss B fl ro S') : S = S' := by
  obtain ⟨h1, q, p, a1, a2, a3, a4, e⟩ := g
  obtain ⟨h1', q', p', a1', a2', a3', a4', e'⟩ := g'
  refine Rat.le_antisymm ?_ ?_
  · rw [← e']; exact h1 q' p' a1' a2' a3' a4'
  · rw [← e]; exact h1' q p a1 a2 a3 a4
theorem LoP.mono (h : LoP ss B fl ro G) (g : G ≤ T) : LoP ss B fl ro T := fun q p a1 a2 a3 a4 => Rat.le_trans (h q p a1 a2 a3 a4) g
theorem HiP.mono (h : HiP ss B fl ro S) (g : T ≤ S) : HiP ss B fl ro T := fun q p a1 a2 a3 a4 => Rat.le_trans g (h q p a1 a2 a3 a4)
theorem bear (hB : 0 ≤ B) (hr : rising ss) (hL : LoP ss B fl ro T) (hH : HiP ss B fl ro T) (ha : ro ≤ a) (hb : fl ≤ b) (la : a < ss.length) (lb : b < ss.length) : lev ss T b ≤ lev ss T a + B := by
  rcases Nat.lt_trichotomy a b with z | z | z
  · exact (low_lev hr z lb).mp (hL a b ha z hb lb)
  · subst z; grind
  · exact (high_lev hr z la).mp (hH b a hb z ha la)
theorem lev_left {ys : List En} (hi : i < ss.length) : lev (ss ++ ys) T i = lev ss T i := by
  unfold lev
  rw [mo_left hi, wo_left hi]
theorem lev_last : lev (ss ++ [(x, m, some q)]) T ss.length = q - T * (m : Rat) := by
  unfold lev
  rw [mo_last, wo_last]
theorem mo_drop : mo (ss.drop j) i = mo ss (j + i) := by unfold mo; rw [List.getElem?_drop]
theorem wo_drop : wo (ss.drop j) i = wo ss (j + i) := by unfold wo; rw [List.getElem?_drop]
theorem drop_rising (h : rising ss) : rising (ss.drop j) := h.sublist (List.drop_sublist ..)
theorem lev_drop : lev (ss.drop j) T i = lev ss T (j + i) := by unfold lev; rw [mo_drop, wo_drop]
theorem toNew_drop : toNew (ss.drop j) B m q i = toNew ss B m q (j + i) := by unfold toNew; rw [mo_drop, wo_drop]
theorem gf_new {g : Option Rat} (h1 : ∀ G0, g = some G0 → GF ss B fl ro G0 ∧ G0 ≤ G) (hN : g = none → ∀ q p, ro ≤ q → q < p → fl ≤ p → ¬ p < ss.length) (hfl : fl ≤ ss.length) (hall : ∀ i, i < (ss.drop ro).length → toNew (ss.drop ro) (-B) m q i ≤ G) (hex : (∃ i, i < (ss.drop ro).length ∧ toNew (ss.drop ro) (-B) m q i = G) ∨ g = some G) : GF (ss ++ [(x, m, some q)]) B fl ro G := by
  have ld : (ss.drop ro).length = ss.length - ro := List.length_drop ..
  rw [ld] at hall hex
  refine ⟨fun i j hi hij hkj hj => ?_, ?_⟩
  · rw [List.length_append] at hj
    have hj' : j < ss.length + 1 := hj
    by_cases e : j = ss.length
    · subst e
      rw [low_new hij]
      have := hall (i - ro) (by omega)
      rw [toNew_drop, show ro + (i - ro) = i by omega] at this
      exact this
    · rw [low_left hij (by omega)]
      cases hg : g with
      | none => exact absurd (show j < ss.length by omega) (hN hg i j hi hij hkj)
      | some G0 =>
        obtain ⟨g1, le⟩ := h1 G0 hg
        exact Rat.le_trans (g1.1 i j hi hij hkj (by omega)) le
  · rcases hex with ⟨i, hi, e⟩ | e
    · refine ⟨ro + i, ss.length, by omega, by omega, hfl, by rw [List.length_append]; show _ < ss.length + 1; omega, ?_⟩
      rw [low_new (by omega), ← toNew_drop]
      exact e
    · obtain ⟨i, j, a0, a1, a2, a3, a4⟩ := (h1 G e).1.2
      exact ⟨i, j, a0, a1, a2, by rw [List.length_append]; show _ < ss.length + 1; omega, by rw [low_left a1 a3]; exact a4⟩
theorem sf_new {s : Option Rat} (h1 : ∀ S0, s = some S0 → SF ss B fl ro S0 ∧ S ≤ S0) (hN : s = none → ∀ q p, fl ≤ q → q < p → ro ≤ p → ¬ p < ss.length) (hro : ro ≤ ss.length) (hall : ∀ i, i < (ss.drop fl).length → S ≤ toNew (ss.drop fl) B m q i) (hex : (∃ i, i < (ss.drop fl).length ∧ toNew (ss.drop fl) B m q i = S) ∨ s = some S) : SF (ss ++ [(x, m, some q)]) B fl ro S := by
  have ld : (ss.drop fl).length = ss.length - fl := List.length_drop ..
  rw [ld] at hall hex
  refine ⟨fun i j hi hij hkj hj => ?_, ?_⟩
  · rw [List.length_append] at hj
    have hj' : j < ss.length + 1 := hj
    by_cases e : j = ss.length
    · subst e
      rw [high_new hij]
      have := hall (i - fl) (by omega)
      rw [toNew_drop, show fl + (i - fl) = i by omega] at this
      exact this
    · rw [high_left hij (by omega)]
      cases hg : s with
      | none => exact absurd (show j < ss.length by omega) (hN hg i j hi hij hkj)
      | some S0 =>
        obtain ⟨g1, le⟩ := h1 S0 hg
        exact Rat.le_trans le (g1.1 i j hi hij hkj (by omega))
  · rcases hex with ⟨i, hi, e⟩ | e
    · refine ⟨fl + i, ss.length, by omega, by omega, hro, by rw [List.length_append]; show _ < ss.length + 1; omega, ?_⟩
      rw [high_new (by omega), ← toNew_drop]
      exact e
    · obtain ⟨i, j, a0, a1, a2, a3, a4⟩ := (h1 S e).1.2
      exact ⟨i, j, a0, a1, a2, by rw [List.length_append]; show _ < ss.length + 1; omega, by rw [high_left a1 a3]; exact a4⟩
theorem len1 : (ss ++ [(x, m, some q)]).length = ss.length + 1 := by simp
theorem cap_iff (hr : rising (ss ++ [(x, m, some q)])) (s : SF (ss ++ [(x, m, some q)]) B fl ro S) (hG : HiP ss B fl ro G) (hro : ro ≤ ss.length) : S < G ↔ ∃ i, fl ≤ i ∧ i < ss.length ∧ q - G * (m : Rat) + B < lev ss G i := by
  constructor
  · intro h
    obtain ⟨i, j, a0, a1, a2, a3, a4⟩ := s.2
    rw [len1] at a3
    by_cases e : j = ss.length
    · subst e
      refine ⟨i, a0, a1, Rat.not_le.mp fun z => ?_⟩
      have := (high_lev (B := B) (S := G) hr a1 (by rw [len1]; omega)).mpr (by rw [lev_last, lev_left a1]; exact z)
      rw [a4] at this
      exact absurd h (Rat.not_lt.mpr this)
    · have := hG i j a0 a1 a2 (by omega)
      rw [high_left a1 (by omega)] at a4
      rw [a4] at this
      exact absurd h (Rat.not_lt.mpr this)
  · rintro ⟨i, a0, a1, h⟩
    refine Rat.not_le.mp fun z => ?_
    have := s.1 i ss.length a0 a1 hro (by rw [len1]; omega)
    have := (high_lev hr a1 (by rw [len1]; omega)).mp (Rat.le_trans z this)
    rw [lev_last, lev_left a1] at this
    exact absurd h (Rat.not_lt.mpr this)
theorem cup_iff (hr : rising (ss ++ [(x, m, some q)])) (g : GF (ss ++ [(x, m, some q)]) B fl ro G) (hS : LoP ss B fl ro S) (hfl : fl ≤ ss.length) : S < G ↔ ∃ i, ro ≤ i ∧ i < ss.length ∧ lev ss S i + B < q - S * (m : Rat) := by
  constructor
  · intro h
    obtain ⟨i, j, a0, a1, a2, a3, a4⟩ := g.2
    rw [len1] at a3
    by_cases e : j = ss.length
    · subst e
      refine ⟨i, a0, a1, Rat.not_le.mp fun z => ?_⟩
      have := (low_lev (B := B) (G := S) hr a1 (by rw [len1]; omega)).mpr (by rw [lev_last, lev_left a1]; exact z)
      rw [a4] at this
      exact absurd h (Rat.not_lt.mpr this)
    · have := hS i j a0 a1 a2 (by omega)
      rw [low_left a1 (by omega)] at a4
      rw [a4] at this
      exact absurd h (Rat.not_lt.mpr this)
  · rintro ⟨i, a0, a1, h⟩
    refine Rat.not_le.mp fun z => ?_
    have := g.1 i ss.length a0 a1 hfl (by rw [len1]; omega)
    have := (low_lev hr a1 (by rw [len1]; omega)).mp (Rat.le_trans this z)
    rw [lev_last, lev_left a1] at this
    exact absurd h (Rat.not_lt.mpr this)
theorem cross_up {va ma vb mb v m B G S : Rat} (hB : 0 ≤ B) (hb : mb < m) (ea : v - G * m = va - G * ma + B) (eb : vb - S * mb = v - S * m + B) (h : vb - G * mb ≤ va - G * ma + B) : G ≤ S := by
  refine Rat.not_lt.mp fun hlt => ?_
  have p : (0 : Rat) < m - mb := by grind
  have := Rat.mul_lt_mul_of_pos_right hlt p
  grind
theorem cross_down {va ma vb mb v m B G S : Rat} (hB : 0 ≤ B) (ha : ma < m) (ea : v - G * m = va - G * ma + B) (eb : vb - S * mb = v - S * m + B) (h : vb - S * mb ≤ va - S * ma + B) : G ≤ S := by
  refine Rat.not_lt.mp fun hlt => ?_
  have p : (0 : Rat) < m - ma := by grind
  have := Rat.mul_lt_mul_of_pos_right hlt p
  grind
theorem both_le (hB : 0 ≤ B) (hr : rising (ss ++ [(x, m, some q)])) (g : GF (ss ++ [(x, m, some q)]) B fl ro G) (s : SF (ss ++ [(x, m, some q)]) B fl ro S)
    (h1 : ∀ i j, ro ≤ i → i < j → fl ≤ j → j < ss.length → lowS ss B i j ≤ S) (h2 : ∀ i j, fl ≤ i → i < j → ro ≤ j → j < ss.length → G ≤ highS ss B i j) : G ≤ S := by
  obtain ⟨i, j, a0, a1, a2, a3, a4⟩ := g.2
  obtain ⟨k, l, b0, b1, b2, b3, b4⟩ := s.2
  rw [len1] at a3 b3
  by_cases e : j = ss.length
  · by_cases e' : l = ss.length
    · subst e
      subst e'
      have ea := (low_is hr a1 (by rw [len1]; omega)).mp a4
      have eb := (high_is hr b1 (by rw [len1]; omega)).mp b4
      have mi := mo_pos hr a1 (by rw [len1]; omega)
      have mk := mo_pos hr b1 (by rw [len1]; omega)
      unfold lev at ea eb
      rcases Nat.lt_trichotomy i k with z | z | z
      · have := (low_lev hr z (by rw [len1]; omega)).mp (g.1 i k a0 z (by omega) (by rw [len1]; omega))
        unfold lev at this
        exact cross_up hB (by grind) ea eb this
      · subst z
        exact cross_up hB (by grind) ea eb (by grind)
      · have := (high_lev hr z (by rw [len1]; omega)).mp (s.1 k i b0 z (by omega) (by rw [len1]; omega))
        unfold lev at this
        exact cross_down hB (by grind) ea eb this
    · rw [high_left b1 (by omega)] at b4
      rw [← b4]
      exact h2 k l b0 b1 b2 (by omega)
  · rw [low_left a1 (by omega)] at a4
    rw [← a4]
    exact h1 i j a0 a1 a2 (by omega)
end
structure CapAt (ss : List En) (β : Rat) (fl ro : Nat) (m : Int) (q G f : Rat) (a b : Nat) : Prop where
  gf : GF ss (2 * β) fl ro G
  off : ∃ i, fl ≤ i ∧ i < ss.length ∧ q - G * (m : Rat) + 2 * β < lev ss G i
  lo : ∀ i, fl ≤ i → i < ss.length → lev ss G i - β ≤ f
  hi : ∀ i, ro ≤ i → i < ss.length → f ≤ lev ss G i + β
  ha : ro ≤ a
  ea : lev ss G a + β = f
  hb : fl ≤ b
  lb : b < ss.length
  eb : lev ss G b - β = f
  fb : ∀ i, b < i → i < ss.length → lev ss G i - β ≠ f
  hab : a < b
structure CupAt (ss : List En) (β : Rat) (fl ro : Nat) (m : Int) (q S f : Rat) (a b : Nat) : Prop where
  sf : SF ss (2 * β) fl ro S
  off : ∃ i, ro ≤ i ∧ i < ss.length ∧ lev ss S i + 2 * β < q - S * (m : Rat)
  lo : ∀ i, fl ≤ i → i < ss.length → lev ss S i - β ≤ f
  hi : ∀ i, ro ≤ i → i < ss.length → f ≤ lev ss S i + β
  ha : fl ≤ a
  ea : lev ss S a - β = f
  hb : ro ≤ b
  lb : b < ss.length
  eb : lev ss S b + β = f
  fb : ∀ i, b < i → i < ss.length → lev ss S i + β ≠ f
  hab : a < b
theorem first_of {α : Type} (P : α → Bool) : ∀ (l : List α), (∃ x ∈ l, P x = true) → ∃ (a : Nat) (x : α), l[a]? = some x ∧ P x = true ∧ (l.filter P)[0]? = some x ∧ ∀ (i : Nat) y, i < a → l[i]? = some y → P y = false
  | [], h => by obtain ⟨x, hx, _⟩ := h; cases hx
  | y :: r, h => by
    by_cases hy : P y = true
    · exact ⟨0, y, rfl, hy, by rw [List.filter_cons_of_pos hy]; rfl, fun i _ hi => absurd hi (Nat.not_lt_zero _)⟩
    · obtain ⟨x, hx, px⟩ := h
      have hr : x ∈ r := by
        rcases List.mem_cons.mp hx with e | e
        · rw [e] at px; exact absurd px hy
        · exact e
      obtain ⟨a, z, g, pz, e0, hn⟩ := first_of P r ⟨x, hr, px⟩
      refine ⟨a + 1, z, g, pz, by rw [List.filter_cons_of_neg hy]; exact e0, fun i u hi gu => ?_⟩
      cases i with
      | zero => cases gu; exact Bool.eq_false_iff.mpr hy
      | succ i => exact hn i u (by omega) gu
theorem last_of {α : Type} (P : α → Bool) : ∀ (l : List α), (∃ x ∈ l, P x = true) → ∃ (b : Nat) (x : α), l[b]? = some x ∧ P x = true ∧ (l.filter P)[(l.filter P).length - 1]? = some x ∧ ∀ (i : Nat) y, b < i → l[i]? = some y → P y = false
  | [], h => by obtain ⟨x, hx, _⟩ := h; cases hx
  | y :: r, h => by
    by_cases hr : ∃ x ∈ r, P x = true
    · obtain ⟨b, z, g, pz, e0, hn⟩ := last_of P r hr
      refine ⟨b + 1, z, g, pz, ?_, fun i u hi gu => ?_⟩
      · by_cases hy : P y = true
        · rw [List.filter_cons_of_pos hy]
          have hl : 0 < (r.filter P).length := by
            cases e : r.filter P with
            | nil => rw [e] at e0; cases e0
            | cons c d => exact Nat.succ_pos _
          show (y :: r.filter P)[(r.filter P).length + 1 - 1]? = some z
          rw [show (r.filter P).length + 1 - 1 = ((r.filter P).length - 1) + 1 by omega, List.getElem?_cons_succ]
          exact e0
        · rw [List.filter_cons_of_neg hy]; exact e0
      · cases i with
        | zero => omega
        | succ i => exact hn i u (by omega) gu
    · have hy : P y = true := by
        obtain ⟨x, hx, px⟩ := h
        rcases List.mem_cons.mp hx with e | e
        · rw [e] at px; exact px
        · exact absurd ⟨x, e, px⟩ hr
      have e0 : r.filter P = [] := List.filter_eq_nil_iff.mpr fun x hx px => hr ⟨x, hx, px⟩
      refine ⟨0, y, rfl, hy, by rw [List.filter_cons_of_pos hy, e0]; rfl, fun i u hi gu => ?_⟩
      cases i with
      | zero => omega
      | succ i => exact Bool.eq_false_iff.mpr fun z => hr ⟨u, List.mem_of_getElem? gu, z⟩
theorem drop_of {es : List En} (h : rising es) {k : Nat} {x : En} (hk : es[k]? = some x) : es.filter (fun y => decide (x.2.1 ≤ y.2.1)) = es.drop k := by
  have hl : k < es.length := (List.getElem?_eq_some_iff.mp hk).1
  have mk : ∀ i y, es[i]? = some y → (k ≤ i ↔ x.2.1 ≤ y.2.1) := fun i y hy => by
    have hi : i < es.length := (List.getElem?_eq_some_iff.mp hy).1
    have e1 : mo es k = x.2.1 := by unfold mo; rw [hk]; rfl
    have e2 : mo es i = y.2.1 := by unfold mo; rw [hy]; rfl
    rcases Nat.lt_trichotomy i k with z | z | z
    · have := mo_lt h z hl; omega
    · subst z; omega
    · have := mo_lt h z hi; omega
  conv => lhs; rw [← List.take_append_drop k es]
  rw [List.filter_append]
  have h1 : (es.take k).filter (fun y => decide (x.2.1 ≤ y.2.1)) = [] := List.filter_eq_nil_iff.mpr fun y hy => by
    obtain ⟨i, hi⟩ := List.getElem?_of_mem hy
    rw [List.getElem?_take] at hi
    split at hi
    · have := mk i y hi
      rw [decide_eq_true_iff]
      omega
    · cases hi
  have h2 : (es.drop k).filter (fun y => decide (x.2.1 ≤ y.2.1)) = es.drop k := List.filter_eq_self.mpr fun y hy => by
    obtain ⟨i, hi⟩ := List.getElem?_of_mem hy
    rw [List.getElem?_drop] at hi
    exact decide_eq_true ((mk _ y hi).mp (Nat.le_add_right _ _))
  rw [h1, h2]
  rfl

structure Fb (fs : List (Str × V)) (bd tw bl ab : Addr) (g s : V) : Prop where
  len : fs.length ≤ 10
  bd : fs.lookup ("bound" : Str) = some (.ref bd)
  tw : fs.lookup ("twice" : Str) = some (.ref tw)
  bl : fs.lookup ("below" : Str) = some (.ref bl)
  ab : fs.lookup ("above" : Str) = some (.ref ab)
  g : fs.lookup ("gentlest" : Str) = some g
  s : fs.lookup ("steepest" : Str) = some s
  no : ∀ m : Str, m ≠ "bound" → m ≠ "twice" → m ≠ "below" → m ≠ "above" → m ≠ "gentlest" → m ≠ "steepest" → fs.lookup m = none
theorem Fb.init (bd tw bl ab : Addr) (g s : V) : Fb (putF "steepest" s (putF "gentlest" g (putF "above" (.ref ab) (putF "below" (.ref bl) (putF "twice" (.ref tw) (putF "bound" (.ref bd) [])))))) bd tw bl ab g s := by
  have n_bd_tw : ¬ (("bound" : Str) = "twice") := by decide +kernel
  have n_bd_bl : ¬ (("bound" : Str) = "below") := by decide +kernel
  have n_bd_ab : ¬ (("bound" : Str) = "above") := by decide +kernel
  have n_bd_g : ¬ (("bound" : Str) = "gentlest") := by decide +kernel
  have n_bd_s : ¬ (("bound" : Str) = "steepest") := by decide +kernel
  have n_tw_bl : ¬ (("twice" : Str) = "below") := by decide +kernel
  have n_tw_ab : ¬ (("twice" : Str) = "above") := by decide +kernel
  have n_tw_g : ¬ (("twice" : Str) = "gentlest") := by decide +kernel
  have n_tw_s : ¬ (("twice" : Str) = "steepest") := by decide +kernel
  have n_bl_ab : ¬ (("below" : Str) = "above") := by decide +kernel
  have n_bl_g : ¬ (("below" : Str) = "gentlest") := by decide +kernel
  have n_bl_s : ¬ (("below" : Str) = "steepest") := by decide +kernel
  have n_ab_g : ¬ (("above" : Str) = "gentlest") := by decide +kernel
  have n_ab_s : ¬ (("above" : Str) = "steepest") := by decide +kernel
  have n_g_s : ¬ (("gentlest" : Str) = "steepest") := by decide +kernel
  have l : ∀ (f : Str) (v : V) (fs : List (Str × V)), (putF f v fs).length ≤ fs.length + 1 := by
    intro f v fs
    induction fs with
    | nil => exact Nat.le_refl _
    | cons x r ih =>
      obtain ⟨g, y⟩ := x
      unfold putF
      split
      · exact Nat.le_succ _
      · exact Nat.succ_le_succ ih
  refine ⟨?_, ?_, ?_, ?_, ?_, ?_, ?_, fun m m1 m2 m3 m4 m5 m6 => ?_⟩
  · have l0 := l "bound" (.ref bd) []
    have l1 := l "twice" (.ref tw) (putF "bound" (.ref bd) [])
    have l2 := l "below" (.ref bl) (putF "twice" (.ref tw) (putF "bound" (.ref bd) []))
    have l3 := l "above" (.ref ab) (putF "below" (.ref bl) (putF "twice" (.ref tw) (putF "bound" (.ref bd) [])))
    have l4 := l "gentlest" g (putF "above" (.ref ab) (putF "below" (.ref bl) (putF "twice" (.ref tw) (putF "bound" (.ref bd) []))))
    have l5 := l "steepest" s (putF "gentlest" g (putF "above" (.ref ab) (putF "below" (.ref bl) (putF "twice" (.ref tw) (putF "bound" (.ref bd) [])))))
    simp only [List.length_nil] at l0
    omega
  · rw [lookup_putF, if_neg n_bd_s, lookup_putF, if_neg n_bd_g, lookup_putF, if_neg n_bd_ab, lookup_putF, if_neg n_bd_bl, lookup_putF, if_neg n_bd_tw, lookup_putF, if_pos rfl]
  · rw [lookup_putF, if_neg n_tw_s, lookup_putF, if_neg n_tw_g, lookup_putF, if_neg n_tw_ab, lookup_putF, if_neg n_tw_bl, lookup_putF, if_pos rfl]
  · rw [lookup_putF, if_neg n_bl_s, lookup_putF, if_neg n_bl_g, lookup_putF, if_neg n_bl_ab, lookup_putF, if_pos rfl]
  · rw [lookup_putF, if_neg n_ab_s, lookup_putF, if_neg n_ab_g, lookup_putF, if_pos rfl]
  · rw [lookup_putF, if_neg n_g_s, lookup_putF, if_pos rfl]
  · rw [lookup_putF, if_pos rfl]
  · rw [lookup_putF, if_neg m6, lookup_putF, if_neg m5, lookup_putF, if_neg m4, lookup_putF, if_neg m3, lookup_putF, if_neg m2, lookup_putF, if_neg m1]
    rfl
theorem Fb.set_bl {fs : List (Str × V)} {bd tw bl ab : Addr} {g s : V} {y : Addr} (h : Fb fs bd tw bl ab g s) : Fb (putF "below" (.ref y) fs) bd tw y ab g s := by
  have n_bd_bl : ¬ (("bound" : Str) = "below") := by decide +kernel
  have n_tw_bl : ¬ (("twice" : Str) = "below") := by decide +kernel
  have n_ab_bl : ¬ (("above" : Str) = "below") := by decide +kernel
  have n_g_bl : ¬ (("gentlest" : Str) = "below") := by decide +kernel
  have n_s_bl : ¬ (("steepest" : Str) = "below") := by decide +kernel
  refine ⟨by rw [putF_len h.bl]; exact h.len, ?_, ?_, ?_, ?_, ?_, ?_, fun m m1 m2 m3 m4 m5 m6 => ?_⟩
  · rw [lookup_putF, if_neg n_bd_bl]; exact h.bd
  · rw [lookup_putF, if_neg n_tw_bl]; exact h.tw
  · rw [lookup_putF, if_pos rfl]
  · rw [lookup_putF, if_neg n_ab_bl]; exact h.ab
  · rw [lookup_putF, if_neg n_g_bl]; exact h.g
  · rw [lookup_putF, if_neg n_s_bl]; exact h.s
  · rw [lookup_putF, if_neg m3]; exact h.no m m1 m2 m3 m4 m5 m6
theorem Fb.set_ab {fs : List (Str × V)} {bd tw bl ab : Addr} {g s : V} {y : Addr} (h : Fb fs bd tw bl ab g s) : Fb (putF "above" (.ref y) fs) bd tw bl y g s := by
  have n_bd_ab : ¬ (("bound" : Str) = "above") := by decide +kernel
  have n_tw_ab : ¬ (("twice" : Str) = "above") := by decide +kernel
  have n_bl_ab : ¬ (("below" : Str) = "above") := by decide +kernel
  have n_g_ab : ¬ (("gentlest" : Str) = "above") := by decide +kernel
  have n_s_ab : ¬ (("steepest" : Str) = "above") := by decide +kernel
  refine ⟨by rw [putF_len h.ab]; exact h.len, ?_, ?_, ?_, ?_, ?_, ?_, fun m m1 m2 m3 m4 m5 m6 => ?_⟩
  · rw [lookup_putF, if_neg n_bd_ab]; exact h.bd
  · rw [lookup_putF, if_neg n_tw_ab]; exact h.tw
  · rw [lookup_putF, if_neg n_bl_ab]; exact h.bl
  · rw [lookup_putF, if_pos rfl]
  · rw [lookup_putF, if_neg n_g_ab]; exact h.g
  · rw [lookup_putF, if_neg n_s_ab]; exact h.s
  · rw [lookup_putF, if_neg m4]; exact h.no m m1 m2 m3 m4 m5 m6
theorem Fb.set_g {fs : List (Str × V)} {bd tw bl ab : Addr} {g s : V} {y : V} (h : Fb fs bd tw bl ab g s) : Fb (putF "gentlest" y fs) bd tw bl ab y s := by
  have n_bd_g : ¬ (("bound" : Str) = "gentlest") := by decide +kernel
  have n_tw_g : ¬ (("twice" : Str) = "gentlest") := by decide +kernel
  have n_bl_g : ¬ (("below" : Str) = "gentlest") := by decide +kernel
  have n_ab_g : ¬ (("above" : Str) = "gentlest") := by decide +kernel
  have n_s_g : ¬ (("steepest" : Str) = "gentlest") := by decide +kernel
  refine ⟨by rw [putF_len h.g]; exact h.len, ?_, ?_, ?_, ?_, ?_, ?_, fun m m1 m2 m3 m4 m5 m6 => ?_⟩
  · rw [lookup_putF, if_neg n_bd_g]; exact h.bd
  · rw [lookup_putF, if_neg n_tw_g]; exact h.tw
  · rw [lookup_putF, if_neg n_bl_g]; exact h.bl
  · rw [lookup_putF, if_neg n_ab_g]; exact h.ab
  · rw [lookup_putF, if_pos rfl]
  · rw [lookup_putF, if_neg n_s_g]; exact h.s
  · rw [lookup_putF, if_neg m5]; exact h.no m m1 m2 m3 m4 m5 m6
theorem Fb.set_s {fs : List (Str × V)} {bd tw bl ab : Addr} {g s : V} {y : V} (h : Fb fs bd tw bl ab g s) : Fb (putF "steepest" y fs) bd tw bl ab g y := by
  have n_bd_s : ¬ (("bound" : Str) = "steepest") := by decide +kernel
  have n_tw_s : ¬ (("twice" : Str) = "steepest") := by decide +kernel
  have n_bl_s : ¬ (("below" : Str) = "steepest") := by decide +kernel
  have n_ab_s : ¬ (("above" : Str) = "steepest") := by decide +kernel
  have n_g_s : ¬ (("gentlest" : Str) = "steepest") := by decide +kernel
  refine ⟨by rw [putF_len h.s]; exact h.len, ?_, ?_, ?_, ?_, ?_, ?_, fun m m1 m2 m3 m4 m5 m6 => ?_⟩
  · rw [lookup_putF, if_neg n_bd_s]; exact h.bd
  · rw [lookup_putF, if_neg n_tw_s]; exact h.tw
  · rw [lookup_putF, if_neg n_bl_s]; exact h.bl
  · rw [lookup_putF, if_neg n_ab_s]; exact h.ab
  · rw [lookup_putF, if_neg n_g_s]; exact h.g
  · rw [lookup_putF, if_pos rfl]
  · rw [lookup_putF, if_neg m6]; exact h.no m m1 m2 m3 m4 m5 m6
theorem Fb.meth {fs : List (Str × V)} {bd tw bl ab : Addr} {g s : V} (h : Fb fs bd tw bl ab g s) (m : Str) (m1 : m ≠ "bound" := by decide +kernel) (m2 : m ≠ "twice" := by decide +kernel) (m3 : m ≠ "below" := by decide +kernel) (m4 : m ≠ "above" := by decide +kernel) (m5 : m ≠ "gentlest" := by decide +kernel) (m6 : m ≠ "steepest" := by decide +kernel) : fs.lookup m = none := h.no m m1 m2 m3 m4 m5 m6

noncomputable def rmB (p L M : Addr) (H : Hp) : Hp := rm p (rm L (rm M H))
theorem rmB_at {p L M b : Addr} {H : Hp} (h1 : b ≠ p) (h2 : b ≠ L) (h3 : b ≠ M) : rmB p L M H b = H b := by unfold rmB; rw [rm_at h1, rm_at h2, rm_at h3]
theorem rmB_of {p L M b : Addr} {H : Hp} {o : HO} (h : rmB p L M H b = some o) : b ≠ p ∧ b ≠ L ∧ b ≠ M ∧ H b = some o := by
  have h1 : b ≠ p := fun q => by rw [q] at h; unfold rmB rm at h; simp at h
  have h2 : b ≠ L := fun q => by rw [q] at h; unfold rmB rm at h; simp at h
  have h3 : b ≠ M := fun q => by rw [q] at h; unfold rmB rm at h; simp at h
  rw [rmB_at h1 h2 h3] at h
  exact ⟨h1, h2, h3, h⟩
section
variable {H H' : Hp}
theorem QtAt.tv {b : Addr} {q : Rat} {n : Nat} (t : ∀ {b : Addr} {xs : List V}, H b = some (.tup xs) → H' b = some (.tup xs)) (f : QtAt H b q n) : QtAt H' b q n := let ⟨x, d, e, f⟩ := f; ⟨x, d, t e, f⟩
theorem FrAt.tv {b : Addr} {q : Rat} {n : Nat} (t : ∀ {b : Addr} {xs : List V}, H b = some (.tup xs) → H' b = some (.tup xs)) (f : FrAt H b q n) : FrAt H' b q n := let ⟨x, d, e, f⟩ := f; ⟨x, d, t e, f⟩
theorem LnAt.tv {b : Addr} {q h : Rat} {n : Nat} (t : ∀ {b : Addr} {xs : List V}, H b = some (.tup xs) → H' b = some (.tup xs)) (f : LnAt H b q h n) : LnAt H' b q h n := let ⟨x, d, e, f1, f2⟩ := f; ⟨x, d, t e, f1.tv t, f2.tv t⟩
theorem EnAt.tv {x : En} {n : Nat} (t : ∀ {b : Addr} {xs : List V}, H b = some (.tup xs) → H' b = some (.tup xs)) (f : EnAt H x n) : EnAt H' x n := by
  obtain ⟨a, m, v⟩ := x
  cases v with
  | none => exact ⟨f.1, t f.2⟩
  | some q =>
    obtain ⟨z, r, e, x, d, g, f⟩ := f
    exact ⟨z, r, t e, x, d, t g, f⟩
theorem Row.tv {es : List En} {n : Nat} (t : ∀ {b : Addr} {xs : List V}, H b = some (.tup xs) → H' b = some (.tup xs)) (f : Row H es n) : Row H' es n := fun x hx => (f x hx).tv t
end
noncomputable def OQ (H : Hp) (v : V) (N : Nat) : Option Rat → Prop
  | none => v = .non
  | some G => ∃ p, v = .ref p ∧ QtAt H p G N
theorem OQ.tv {H H' : Hp} {v : V} {N : Nat} {g : Option Rat} (t : ∀ {b : Addr} {xs : List V}, H b = some (.tup xs) → H' b = some (.tup xs)) (f : OQ H v N g) : OQ H' v N g := by
  cases g with
  | none => exact f
  | some G => exact let ⟨p, e, f⟩ := f; ⟨p, e, f.tv t⟩
noncomputable def GO (ss : List En) (B : Rat) (fl ro : Nat) : Option Rat → Prop
  | none => ∀ q p, ro ≤ q → q < p → fl ≤ p → ¬ p < ss.length
  | some G => GF ss B fl ro G
noncomputable def SO (ss : List En) (B : Rat) (fl ro : Nat) : Option Rat → Prop
  | none => ∀ q p, fl ≤ q → q < p → ro ≤ p → ¬ p < ss.length
  | some S => SF ss B fl ro S
structure BdP (ss : List En) (fl ro : Nat) (β : Rat) (g s : Option Rat) : Prop where
  all : AllS ss
  ris : rising ss
  hfl : fl ≤ ss.length
  hro : ro ≤ ss.length
  lt : 0 < ss.length → fl < ss.length ∧ ro < ss.length
  go : GO ss (2 * β) fl ro g
  so : SO ss (2 * β) fl ro s
  le : ∀ G S, g = some G → s = some S → G ≤ S
  df : fl = ro → fl = 0
structure Bd0 (C : Addr) (H : Hp) (p Lb La : Addr) (ss : List En) (fl ro : Nat) (β : Rat) (n nb : Nat) (g s : Option Rat) (dx bd tw : Addr) (fs : List (Str × V)) (gv sv : V) : Prop where
  at_ : H p = some (.ins C dx fs)
  F : Fb fs bd tw Lb La gv sv
  eb : H Lb = some (.lst (vals (ss.drop fl)))
  ea : H La = some (.lst (vals (ss.drop ro)))
  ne : Lb ≠ La
  row : Row H ss n
  fbd : FrAt H bd β nb
  ftw : QtAt H tw (2 * β) (2 * nb + 1)
  G : OQ H gv (3 * n + (2 * nb + 1) + 3) g
  S : OQ H sv (3 * n + (2 * nb + 1) + 3) s
  P : BdP ss fl ro β g s
noncomputable def BdOk (C : Addr) (H : Hp) (p Lb La : Addr) (ss : List En) (fl ro : Nat) (β : Rat) (n nb : Nat) (g s : Option Rat) : Prop := ∃ dx bd tw fs gv sv, Bd0 C H p Lb La ss fl ro β n nb g s dx bd tw fs gv sv
theorem Bd0.mv {C : Addr} {H H' : Hp} {p Lb La : Addr} {ss : List En} {fl ro : Nat} {β : Rat} {n nb : Nat} {g s : Option Rat} {dx bd tw : Addr} {fs : List (Str × V)} {gv sv : V} (h : Bd0 C H p Lb La ss fl ro β n nb g s dx bd tw fs gv sv) (t : ∀ {b : Addr} {xs : List V}, H b = some (.tup xs) → H' b = some (.tup xs)) (hp : H' p = H p) (h1 : H' Lb = H Lb) (h2 : H' La = H La) : Bd0 C H' p Lb La ss fl ro β n nb g s dx bd tw fs gv sv :=
  ⟨hp.trans h.at_, h.F, h1.trans h.eb, h2.trans h.ea, h.ne, h.row.tv t, h.fbd.tv t, h.ftw.tv t, h.G.tv t, h.S.tv t, h.P⟩
theorem Bd0.up {C : Addr} {H H' : Hp} {p Lb La : Addr} {ss : List En} {fl ro : Nat} {β : Rat} {n nb : Nat} {g s : Option Rat} {dx bd tw : Addr} {fs : List (Str × V)} {gv sv : V} (h : Bd0 C H p Lb La ss fl ro β n nb g s dx bd tw fs gv sv) (k : Same H H') : Bd0 C H' p Lb La ss fl ro β n nb g s dx bd tw fs gv sv :=
  h.mv (fun {b xs} e => k _ _ e) ((k _ _ h.at_).trans h.at_.symm) ((k _ _ h.eb).trans h.eb.symm) ((k _ _ h.ea).trans h.ea.symm)
theorem BdOk.up {C : Addr} {H H' : Hp} {p Lb La : Addr} {ss : List En} {fl ro : Nat} {β : Rat} {n nb : Nat} {g s : Option Rat} (h : BdOk C H p Lb La ss fl ro β n nb g s) (k : Same H H') : BdOk C H' p Lb La ss fl ro β n nb g s :=
  let ⟨dx, bd, tw, fs, gv, sv, h⟩ := h; ⟨dx, bd, tw, fs, gv, sv, h.up k⟩
theorem BdP.hiG {ss : List En} {fl ro : Nat} {β G : Rat} {g s : Option Rat} (h : BdP ss fl ro β g s) (e : g = some G) : GF ss (2 * β) fl ro G ∧ HiP ss (2 * β) fl ro G := by
  have go := h.go
  have so := h.so
  rw [e] at go
  refine ⟨go, ?_⟩
  cases hs : s with
  | none =>
    rw [hs] at so
    exact fun q p a b c d => absurd d (so q p a b c)
  | some S =>
    rw [hs] at so
    exact HiP.mono so.1 (h.le G S e hs)
theorem BdP.loS {ss : List En} {fl ro : Nat} {β S : Rat} {g s : Option Rat} (h : BdP ss fl ro β g s) (e : s = some S) : SF ss (2 * β) fl ro S ∧ LoP ss (2 * β) fl ro S := by
  have go := h.go
  have so := h.so
  rw [e] at so
  refine ⟨so, ?_⟩
  cases hs : g with
  | none =>
    rw [hs] at go
    exact fun q p a b c d => absurd d (go q p a b c)
  | some G =>
    rw [hs] at go
    exact LoP.mono go.1 (h.le G S hs e)
noncomputable def spOpp : Sp := fun vs H Q _ => ∃ (p : Addr) (q : Rat) (n : Nat), vs = [.ref p] ∧ QtAt H p q n ∧ ∀ (r : Addr) (H' : Hp), Same H H' → QtAt H' r (-q) n → Q (.ref r) H'
noncomputable def spSteeper : Sp := fun vs H Q _ => ∃ (a b : V) (g s : Option Rat) (m n : Nat), vs = [a, b] ∧ OQ H a m g ∧ OQ H b n s ∧ m + n ≤ 100000 ∧ ∀ r : Bool, (r = true ↔ ∃ G S, g = some G ∧ s = some S ∧ S < G) → Q (.bl r) H
noncomputable def onL (T f l : Rat) (x : En) : Bool := decide (x.2.2.getD 0 - (T * (x.2.1 : Rat) + f) = l)
theorem onL_at {es : List En} {T f l : Rat} {i : Nat} {x : En} (h : es[i]? = some x) : onL T f l x = true ↔ lev es T i - f = l := by
  unfold onL lev mo wo
  rw [decide_eq_true_iff, h]
  show x.2.2.getD 0 - (T * (x.2.1 : Rat) + f) = l ↔ x.2.2.getD 0 - T * (x.2.1 : Rat) - f = l
  constructor
  · intro h; rw [← h]; grind
  · intro h; rw [← h]; grind
noncomputable def spTouched : Sp := fun vs H Q _ => ∃ (l ln pb : Addr) (es : List En) (T f lam : Rat) (n M nb : Nat), vs = [.ref l, .ref ln, .ref pb] ∧ H l = some (.lst (vals es)) ∧ Row H es n ∧ AllS es ∧ LnAt H ln T f M ∧ QtAt H pb lam nb ∧ 1 ≤ n ∧ n ≤ 10000 ∧ M ≤ 10000 ∧ nb ≤ 10000 ∧ es.length ≤ 900 ∧
  ∀ (R : Addr) (H' : Hp), Same H H' → H R = none → H' R = some (.lst (vals (es.filter (onL T f lam)))) → Q (.ref R) H'
section
variable {P : Program} {w : World} {K : PySem.W.Frag} {mg : Str → Option Value} {base : Heap} {f c_Bend : Addr} {fd : FuncData}
theorem sc_opposite : FnScope ["one"] ["one"] (defScope s_opposite) := ⟨rfl, rfl, rfl, by decide +kernel, rfl, by decide +kernel, by decide +kernel⟩
theorem ok_opposite (F : Fun K "opposite" "opposite" s_opposite f fd) : FnOk P w K mg base CX0 1 f fd ["one"] spOpp := by
  refine F.ok sc_opposite (fun vs H Q E h => ?_) (fun cdv A outer s H vs Q E hr h => ?_)
  · obtain ⟨p, q, n, rfl, _⟩ := h
    rfl
  obtain ⟨p, q, n, rfl, ⟨a, b, hp, hq, za, zb⟩, k⟩ := h
  refine Jd.go ⟨_, (Jd.pss_one (Jd.ps_ret (Jd.pe_tup (Jd.pa_cons (Jd.pe_un un_neg (Jd.pe_ix (ixT K) (Jd.pv 0) Jd.pe_int (fun _ _ => rfl))) (Jd.pa_cons (Jd.pe_ix (ixT K) (Jd.pv 0) Jd.pe_int (fun _ _ => rfl)) Jd.pa_nil st_S) st_U)))), ?_⟩
  walk_at "v"
  refine r_new (mk := .tup) (by simp) fun p1 H1 s1 n1 e1 => ?_
  exact k p1 H1 s1 ⟨_, _, e1, hq.neg, by unfold Sz at *; rw [Int.natAbs_neg]; exact za, zb⟩
theorem sc_is_steeper : FnScope ["one", "other"] ["one", "other"] (defScope s_is_steeper) := ⟨rfl, rfl, rfl, by decide +kernel, rfl, by decide +kernel, by decide +kernel⟩
theorem ok_is_steeper (F : Fun K "is_steeper" "is_steeper" s_is_steeper f fd) (D_order : Dn P w K mg base 1 "order" ["one", "other"] spOrderQ) : FnOk P w K mg base CX0 2 f fd ["one", "other"] spSteeper := by
  refine F.ok sc_is_steeper (fun vs H Q E h => ?_) (fun cdv A outer s H vs Q E hr h => ?_)
  · obtain ⟨a, b, g, s, m, n, rfl, _⟩ := h
    rfl
  obtain ⟨a, b, g, s', m, n, rfl, ha, hb, hmn, k⟩ := h
  refine Jd.go ⟨_, (Jd.pss_one (Jd.ps_ret (Jd.pe_and (Jd.pe_cmpR op_notN (Jd.pv 0) Jd.pe_non (nomark _)) (Jd.pe_and (Jd.pe_cmpR op_notN (Jd.pv 1) Jd.pe_non (nomark _)) (Jd.pe_one (Jd.pe_cmpR op_gt (Jd.pe_dn D_order (hr.mono (by decide)) rfl (Jd.pa_cons (Jd.pv 0) (Jd.pa_cons (Jd.pv 1) Jd.pa_nil st_N) st_N) (he := st_N) (hpl := (anyc st_N any0))) Jd.pe_int (nomark _))))))), ?_⟩
  cases g with
  | none =>
    obtain rfl : a = .non := ha
    walk_at "v"
    refine ⟨rfl, _, rfl, iteF ?_⟩
    exact k false ⟨fun z => absurd z (by decide), fun ⟨_, _, e, _⟩ => by cases e⟩
  | some G =>
    obtain ⟨pa, rfl, fa⟩ := ha
    cases s' with
    | none =>
      obtain rfl : b = .non := hb
      walk_at "v"
      refine ⟨rfl, _, rfl, iteT ?_⟩
      walk_at "v"
      refine ⟨rfl, _, rfl, iteF ?_⟩
      exact k false ⟨fun z => absurd z (by decide), fun ⟨_, _, _, e, _⟩ => by cases e⟩
    | some S =>
      obtain ⟨pb, rfl, fb⟩ := hb
      walk_at "v"
      refine ⟨rfl, _, rfl, iteT ?_⟩
      walk_at "v"
      refine ⟨rfl, _, rfl, iteT ?_⟩
      walk_at "v"
      refine ⟨pa, pb, G, S, m, n, rfl, fa, fb, hmn, fun o h1 h2 => ?_⟩
      walk_at "v"
      refine k _ ⟨fun z => ⟨G, S, rfl, rfl, h1.mp (of_decide_eq_true z)⟩, fun ⟨_, _, e1, e2, z⟩ => ?_⟩
      cases e1
      cases e2
      exact decide_eq_true (h1.mpr z)
theorem sc_touched : FnScope ["samples", "line", "lift"] ["samples", "line", "lift"] (defScope s_touched) := ⟨rfl, rfl, rfl, by decide +kernel, rfl, by decide +kernel, by decide +kernel⟩
theorem ok_touched (F : Fun K "touched" "touched" s_touched f fd) (D_order : Dn P w K mg base 1 "order" ["one", "other"] spOrderQ) (D_loose_off : Dn P w K mg base 4 "loose_off" ["line", "sample"] spLoff) : FnOk P w K mg base CX0 5 f fd ["samples", "line", "lift"] spTouched := by
  refine F.ok sc_touched (fun vs H Q E h => ?_) (fun cdv A outer s H vs Q E hr h => ?_)
  · obtain ⟨l, ln, pb, es, T, f, lam, n, M, nb, rfl, _⟩ := h
    rfl
  obtain ⟨l, ln, pb, es, T, fo, lam, n, M, nb, rfl, hl, hR, hS, hln, hpb, h1, hn, hM, hnb, h900, k⟩ := h
  refine Jd.go ⟨_, (Jd.pss_one (Jd.ps_ret (Jd.pe_comp (O := ["sample"]) (N' := ["lift", "line"]) (cap := [2, 1]) rfl (Jd.piL K (Jd.pv 0)) (fun _ _ _ _ _ => (Jd.pg_name (i := 0) (show List.Nodup [("sample" : Str), ("lift" : Str), ("line" : Str)] by decide +kernel) rfl (Or.inl rfl))) (fun _ _ _ _ _ => (Jd.pts_one (Jd.pt_cmpR op_eq (Jd.pe_dn D_order (hr.mono (by decide)) rfl (Jd.pa_cons (Jd.pe_dn D_loose_off (hr.mono (by decide)) rfl (Jd.pa_cons (Jd.pv 2) (Jd.pa_cons (Jd.pv 0) Jd.pa_nil st_N) st_N) (he := st_N) (hpl := (anyc st_N any0))) (Jd.pa_cons (Jd.pv 1) Jd.pa_nil st_N) st_K) (he := st_K) (hpl := (anyc st_N any0))) Jd.pe_int (nomark _)))) (fun _ _ _ _ _ => (Jd.pv 0)) rfl ⟨⟨rfl, rfl, rfl, rfl⟩, ⟨⟨rfl, rfl, rfl, rfl⟩, trivial⟩⟩ rfl (by decide +kernel) rfl (by decide +kernel)))), ?_⟩
  walk_at "v"
  refine r_iL ?_
  walk_at "v"
  refine ⟨l, rfl, ⟨_, SqL.of hl⟩, ?_⟩
  refine compB_of (xs := vals es) tells_list (fun H3 s3 => SqL.of (s3 _ _ hl)) (by rw [vals_len]; walk_at "o") (fun i ys G => ys = vals ((es.take i).filter (onL T fo lam))) rfl ?_ ?_
  · rintro D i x ys H3 σ0 N N0 h0 hD eD s3 hx hy rfl kY kN
    obtain ⟨e, he, rfl⟩ := vals_at hx
    have hi : i < es.length := (List.getElem?_eq_some_iff.mp he).1
    obtain ⟨xi, gi, fi⟩ := sa_at (hR.up s3) hS hi
    rw [he] at gi
    cases gi
    have ts := PySem.take_succ_filter (onL T fo lam) es i e he
    refine r_own1 h0 ?_
    walk_at "v"
    refine ⟨ln, e.1, T, fo, _, _, n, M, rfl, hln.up s3, fi, h1, by walk_at "o", by walk_at "o", fun z H4 s4 f4 => ?_⟩
    walk_at "v"
    refine ⟨z, pb, _, lam, _, nb, rfl, f4, hpb.up (s3.trans s4), by walk_at "o", fun o o1 o2 => ?_⟩
    have key : o = 0 ↔ lev es T i - fo = lam := by
      have e1 : wo es i - (T * (mo es i : Rat) + fo) = lev es T i - fo := by unfold lev; grind
      rw [e1] at o1 o2
      constructor
      · intro h
        refine Rat.le_antisymm (Rat.not_lt.mp fun z => ?_) (Rat.not_lt.mp fun z => ?_)
        · have := o1.mpr z; omega
        · have := o2.mpr z; omega
      · intro h
        rw [h] at o1 o2
        have p1 : ¬ 0 < o := fun z => Rat.lt_irrefl (o1.mp z)
        have p2 : ¬ o < 0 := fun z => Rat.lt_irrefl (o2.mp z)
        omega
    walk_at "v"
    cases hs : decide (o = 0) with
    | true =>
      rw [(onL_at he).mpr (key.mp (of_decide_eq_true hs)), if_pos rfl] at ts
      refine iteT ?_
      walk_at "v"
      exact kY _ H4 s4 (by rw [ts, ← vals_snoc])
    | false =>
      have : onL T fo lam e = false := Bool.eq_false_iff.mpr fun z => of_decide_eq_false hs (key.mpr ((onL_at he).mp z))
      rw [this, if_neg Bool.false_ne_true, List.append_nil] at ts
      refine iteF ?_
      exact kN H4 s4 (by rw [ts])
  · rintro D ys H3 hD eD s3 hy rfl
    rw [vals_len, List.take_length] at eD
    walk_at "v"
    exact k D H3 s3 hD eD
end

noncomputable def Kp (F : Addr → Prop) (H H' : Hp) : Prop := ∀ b o, ¬ F b → H b = some o → H' b = some o
theorem Kp.of {F : Addr → Prop} {H H' : Hp} (s : Same H H') : Kp F H H' := fun b o _ e => s b o e
theorem Kp.trans {F : Addr → Prop} {H H' H2 : Hp} (h : Kp F H H') (h' : Kp F H' H2) : Kp F H H2 := fun b o n e => h' b o n (h b o n e)
theorem Kp.upd {F : Addr → Prop} {H H' : Hp} {a : Addr} {o : HO} (h : Kp F H H') (hF : F a) : Kp F H (upd H' a o) := fun b u n e => by
  rw [upd_ne (show b ≠ a from fun q => n (by rw [q]; exact hF))]
  exact h b u n e
theorem Kp.sm {F : Addr → Prop} {H H' H2 : Hp} (h : Kp F H H') (s : Same H' H2) : Kp F H H2 := h.trans (.of s)
theorem putF_le (f : Str) (v : V) : ∀ fs : List (Str × V), (putF f v fs).length ≤ fs.length + 1
  | [] => Nat.le_refl _
  | (g, y) :: r => by
    unfold putF
    split
    · exact Nat.le_succ _
    · exact Nat.succ_le_succ (putF_le f v r)
noncomputable def OF (H : Hp) (v : V) (N : Nat) : Option Rat → Prop
  | none => v = .non
  | some G => ∃ p, v = .ref p ∧ FrAt H p G N
theorem OF.up {H H' : Hp} {v : V} {N : Nat} {g : Option Rat} (f : OF H v N g) (s : Same H H') : OF H' v N g := by
  cases g with
  | none => exact f
  | some G => exact let ⟨p, e, f⟩ := f; ⟨p, e, f.up s⟩
noncomputable def LoE (ss : List En) (β : Rat) (fl : Nat) (u : Int) (g : Option Rat) : Option Rat → Prop
  | none => g = none
  | some X => ∃ G, g = some G ∧ (∀ i, fl ≤ i → i < ss.length → lev ss G i + G * (u : Rat) - 2 * β ≤ X) ∧ ∃ i, fl ≤ i ∧ i < ss.length ∧ lev ss G i + G * (u : Rat) - 2 * β = X
noncomputable def HiE (ss : List En) (β : Rat) (ro : Nat) (u : Int) (s : Option Rat) : Option Rat → Prop
  | none => s = none
  | some X => ∃ S, s = some S ∧ (∀ i, ro ≤ i → i < ss.length → X ≤ lev ss S i + S * (u : Rat) + 2 * β) ∧ ∃ i, ro ≤ i ∧ i < ss.length ∧ lev ss S i + S * (u : Rat) + 2 * β = X
noncomputable def NowAt (ss : List En) (β : Rat) (fl : Nat) (g s : Option Rat) (T f : Rat) : Prop :=
  ((g = some T ∨ (g = none ∧ s = some T)) ∧ (∀ i, fl ≤ i → i < ss.length → lev ss T i - β ≤ f) ∧ ∃ i, fl ≤ i ∧ i < ss.length ∧ lev ss T i - β = f) ∨ (g = none ∧ s = none ∧ T = 0 ∧ f = wo ss fl)
noncomputable def spBInit (C : Addr) : Sp := fun vs H Q _ => ∃ (p dx pb : Addr) (β : Rat) (n : Nat), vs = [.ref p, .ref pb] ∧ H p = some (.ins C dx []) ∧ FrAt H pb β n ∧ n ≤ 1000 ∧ ∀ (Lb La : Addr) (H' : Hp) (k : Nat), Same (rm p H) H' → H Lb = none → H La = none → BdOk C H' p Lb La [] 0 0 β k n none none → Q .non H'
noncomputable def spLineOf (C : Addr) : Sp := fun vs H Q _ => ∃ (p Lb La pt : Addr) (ss : List En) (fl ro : Nat) (β T : Rat) (n nb : Nat) (g s : Option Rat), vs = [.ref p, .ref pt] ∧ BdOk C H p Lb La ss fl ro β n nb g s ∧ QtAt H pt T (3 * n + (2 * nb + 1) + 3) ∧ 0 < ss.length ∧ ss.length ≤ 900 ∧ n ≤ 1500 ∧ (5 * n + 4 * nb ≤ 7900 ∧ nb ≤ 1000) ∧
  ∀ (r : Addr) (f : Rat) (H' : Hp), Same H H' → LnAt H' r T f (5 * n + 3 * nb + 7) → (∀ i, fl ≤ i → i < ss.length → lev ss T i - β ≤ f) → (∃ i, fl ≤ i ∧ i < ss.length ∧ lev ss T i - β = f) → Q (.ref r) H'
noncomputable def spCap (C : Addr) : Sp := fun vs H Q _ => ∃ (p Lb La x : Addr) (ss : List En) (fl ro : Nat) (m : Int) (q β G : Rat) (n nb : Nat) (s : Option Rat), vs = [.ref p, .ref x] ∧ BdOk C H p Lb La ss fl ro β n nb (some G) s ∧ SaAt H x m q n ∧ (∀ i, i < ss.length → mo ss i < m) ∧ ss.length ≤ 900 ∧ 1 ≤ n ∧ n ≤ 1500 ∧ (5 * n + 4 * nb ≤ 7900 ∧ nb ≤ 1000) ∧ 0 ≤ β ∧ (∃ i, fl ≤ i ∧ i < ss.length ∧ q - G * (m : Rat) + 2 * β < lev ss G i) ∧
  ∀ (r ln th Lb' La' : Addr) (f : Rat) (a b : Nat) (s' : Option Rat) (H' : Hp), Same (rmB p Lb La H) H' → CapAt ss β fl ro m q G f a b → H' r = some (.tup [.ref ln, .ref th]) → LnAt H' ln G f (5 * n + 3 * nb + 7) → H' th = some (.tup [.int (mo ss a), .int (mo ss b), .int m]) → BdOk C H' p Lb' La' (ss ++ [(x, m, some q)]) b ss.length β n nb none s' → H Lb' = none → H La' = none → Q (.ref r) H'
noncomputable def spCup (C : Addr) : Sp := fun vs H Q _ => ∃ (p Lb La x : Addr) (ss : List En) (fl ro : Nat) (m : Int) (q β S : Rat) (n nb : Nat) (g : Option Rat), vs = [.ref p, .ref x] ∧ BdOk C H p Lb La ss fl ro β n nb g (some S) ∧ SaAt H x m q n ∧ (∀ i, i < ss.length → mo ss i < m) ∧ ss.length ≤ 900 ∧ 1 ≤ n ∧ n ≤ 1500 ∧ (5 * n + 4 * nb ≤ 7900 ∧ nb ≤ 1000) ∧ 0 ≤ β ∧ (∃ i, ro ≤ i ∧ i < ss.length ∧ lev ss S i + 2 * β < q - S * (m : Rat)) ∧
  ∀ (r ln th Lb' La' : Addr) (f : Rat) (a b : Nat) (g' : Option Rat) (H' : Hp), Same (rmB p Lb La H) H' → CupAt ss β fl ro m q S f a b → H' r = some (.tup [.ref ln, .ref th]) → LnAt H' ln S f (5 * n + 3 * nb + 7) → H' th = some (.tup [.int (mo ss a), .int (mo ss b), .int m]) → BdOk C H' p Lb' La' (ss ++ [(x, m, some q)]) ss.length b β n nb g' none → H Lb' = none → H La' = none → Q (.ref r) H'
noncomputable def NoTurn (ss : List En) (β : Rat) (fl ro : Nat) (g s : Option Rat) (m : Int) (q : Rat) : Prop := (∀ G, g = some G → ∀ i, fl ≤ i → i < ss.length → lev ss G i ≤ q - G * (m : Rat) + 2 * β) ∧ (∀ S, s = some S → ∀ i, ro ≤ i → i < ss.length → q - S * (m : Rat) ≤ lev ss S i + 2 * β)
noncomputable def spTake (C : Addr) : Sp := fun vs H Q _ => ∃ (p Lb La x : Addr) (ss : List En) (fl ro : Nat) (m : Int) (q β : Rat) (n nb : Nat) (g s : Option Rat), vs = [.ref p, .ref x] ∧ BdOk C H p Lb La ss fl ro β n nb g s ∧ SaAt H x m q n ∧ (∀ i, i < ss.length → mo ss i < m) ∧ ss.length ≤ 900 ∧ 1 ≤ n ∧ n ≤ 1500 ∧ (5 * n + 4 * nb ≤ 7900 ∧ nb ≤ 1000) ∧ 0 ≤ β ∧
  (∀ (g' s' : Option Rat) (H' : Hp), Same (rmB p Lb La H) H' → NoTurn ss β fl ro g s m q → BdOk C H' p Lb La (ss ++ [(x, m, some q)]) fl ro β n nb g' s' → Q .non H') ∧
  (∀ (r ln th Lb' La' : Addr) (G f : Rat) (a b : Nat) (s' : Option Rat) (H' : Hp), Same (rmB p Lb La H) H' → g = some G → CapAt ss β fl ro m q G f a b → H' r = some (.tup [.ref ln, .ref th]) → LnAt H' ln G f (5 * n + 3 * nb + 7) → H' th = some (.tup [.int (mo ss a), .int (mo ss b), .int m]) → BdOk C H' p Lb' La' (ss ++ [(x, m, some q)]) b ss.length β n nb none s' → H Lb' = none → H La' = none → Q (.ref r) H') ∧
  (∀ (r ln th Lb' La' : Addr) (S f : Rat) (a b : Nat) (g' : Option Rat) (H' : Hp), Same (rmB p Lb La H) H' → s = some S → ¬ (∃ G, g = some G ∧ ∃ i, fl ≤ i ∧ i < ss.length ∧ q - G * (m : Rat) + 2 * β < lev ss G i) → CupAt ss β fl ro m q S f a b → H' r = some (.tup [.ref ln, .ref th]) → LnAt H' ln S f (5 * n + 3 * nb + 7) → H' th = some (.tup [.int (mo ss a), .int (mo ss b), .int m]) → BdOk C H' p Lb' La' (ss ++ [(x, m, some q)]) ss.length b β n nb g' none → H Lb' = none → H La' = none → Q (.ref r) H')
noncomputable def spRoomL (C : Addr) : Sp := fun vs H Q _ => ∃ (p Lb La : Addr) (ss : List En) (fl ro : Nat) (β : Rat) (n nb : Nat) (g s : Option Rat) (u : Int), vs = [.ref p, .int u] ∧ BdOk C H p Lb La ss fl ro β n nb g s ∧ Sz n u ∧ ss.length ≤ 900 ∧ n ≤ 1500 ∧ (5 * n + 4 * nb ≤ 7900 ∧ nb ≤ 1000) ∧
  ∀ (v : V) (e : Option Rat) (H' : Hp), Same H H' → OF H' v (5 * n + 4 * nb + 8) e → LoE ss β fl u g e → Q v H'
noncomputable def spRoomU (C : Addr) : Sp := fun vs H Q _ => ∃ (p Lb La : Addr) (ss : List En) (fl ro : Nat) (β : Rat) (n nb : Nat) (g s : Option Rat) (u : Int), vs = [.ref p, .int u] ∧ BdOk C H p Lb La ss fl ro β n nb g s ∧ Sz n u ∧ ss.length ≤ 900 ∧ n ≤ 1500 ∧ (5 * n + 4 * nb ≤ 7900 ∧ nb ≤ 1000) ∧
  ∀ (v : V) (e : Option Rat) (H' : Hp), Same H H' → OF H' v (5 * n + 4 * nb + 8) e → HiE ss β ro u s e → Q v H'
noncomputable def spRoomB (C : Addr) : Sp := fun vs H Q _ => ∃ (p Lb La : Addr) (ss : List En) (fl ro : Nat) (β : Rat) (n nb : Nat) (g s : Option Rat) (u : Int), vs = [.ref p, .int u] ∧ BdOk C H p Lb La ss fl ro β n nb g s ∧ Sz n u ∧ ss.length ≤ 900 ∧ n ≤ 1500 ∧ (5 * n + 4 * nb ≤ 7900 ∧ nb ≤ 1000) ∧
  ∀ (y : Addr) (v1 v2 : V) (e1 e2 : Option Rat) (H' : Hp), Same H H' → H' y = some (.tup [v1, v2]) → OF H' v1 (5 * n + 4 * nb + 8) e1 → OF H' v2 (5 * n + 4 * nb + 8) e2 → LoE ss β fl u g e1 → HiE ss β ro u s e2 → Q (.ref y) H'
noncomputable def spNow (C : Addr) : Sp := fun vs H Q _ => ∃ (p Lb La : Addr) (ss : List En) (fl ro : Nat) (β : Rat) (n nb : Nat) (g s : Option Rat), vs = [.ref p] ∧ BdOk C H p Lb La ss fl ro β n nb g s ∧ ss.length ≤ 900 ∧ 1 ≤ n ∧ n ≤ 1500 ∧ (5 * n + 4 * nb ≤ 7900 ∧ nb ≤ 1000) ∧
  (ss = [] → Q .non H) ∧ (0 < ss.length → ∀ (r : Addr) (T f : Rat) (H' : Hp), Same H H' → LnAt H' r T f (5 * n + 3 * nb + 7) → NowAt ss β fl g s T f → Q (.ref r) H')
theorem LnAt.up2 {H H' : Hp} {p : Addr} {s h : Rat} {n : Nat} (f : LnAt H p s h n) (k : Same H H') : LnAt H' p s h n := f.tv fun {b xs} e => k _ _ e
theorem cap_touch {ss : List En} {fl ro : Nat} {β G f : Rat} (hβ : 0 ≤ β) (hr : rising ss) (g : GF ss (2 * β) fl ro G) (hH : HiP ss (2 * β) fl ro G) (lo : ∀ i, fl ≤ i → i < ss.length → lev ss G i - β ≤ f) (ex : ∃ i, fl ≤ i ∧ i < ss.length ∧ lev ss G i - β = f) :
    (∀ i, ro ≤ i → i < ss.length → f ≤ lev ss G i + β) ∧ ∃ q p, ro ≤ q ∧ q < p ∧ fl ≤ p ∧ p < ss.length ∧ lev ss G q + β = f ∧ lev ss G p - β = f := by
  obtain ⟨b, hb, lb, eb⟩ := ex
  have hi : ∀ i, ro ≤ i → i < ss.length → f ≤ lev ss G i + β := fun i h l => by
    have := bear (by grind) hr g.1 hH h hb l lb
    grind
  refine ⟨hi, ?_⟩
  obtain ⟨q, p, a1, a2, a3, a4, e⟩ := g.2
  have e' := (low_is hr a2 a4).mp e
  have l1 := lo p a3 a4
  have l2 := hi q a1 (by omega)
  exact ⟨q, p, a1, a2, a3, a4, by grind, by grind⟩
theorem cup_touch {ss : List En} {fl ro : Nat} {β S f : Rat} (hβ : 0 ≤ β) (hr : rising ss) (g : SF ss (2 * β) fl ro S) (hL : LoP ss (2 * β) fl ro S) (lo : ∀ i, fl ≤ i → i < ss.length → lev ss S i - β ≤ f) (ex : ∃ i, fl ≤ i ∧ i < ss.length ∧ lev ss S i - β = f) :
    (∀ i, ro ≤ i → i < ss.length → f ≤ lev ss S i + β) ∧ ∃ q p, fl ≤ q ∧ q < p ∧ ro ≤ p ∧ p < ss.length ∧ lev ss S q - β = f ∧ lev ss S p + β = f := by
  obtain ⟨b, hb, lb, eb⟩ := ex
  have hi : ∀ i, ro ≤ i → i < ss.length → f ≤ lev ss S i + β := fun i h l => by
    have := bear (by grind) hr hL g.1 h hb l lb
    grind
  refine ⟨hi, ?_⟩
  obtain ⟨q, p, a1, a2, a3, a4, e⟩ := g.2
  have e' := (high_is hr a2 a4).mp e
  have l1 := lo q a1 (by omega)
  have l2 := hi p a3 a4
  exact ⟨q, p, a1, a2, a3, a4, by grind, by grind⟩
theorem drop_at {es : List En} {j i : Nat} {x : En} (h : (es.drop j)[i]? = some x) : es[j + i]? = some x := by rw [← List.getElem?_drop]; exact h
theorem touch_first {es : List En} {T f l : Rat} {lo q : Nat} (h1 : lo ≤ q) (h2 : q < es.length) (e : lev es T q - f = l) : ∃ a x, lo ≤ a ∧ a ≤ q ∧ es[a]? = some x ∧ ((es.drop lo).filter (onL T f l))[0]? = some x ∧ lev es T a - f = l := by
  have gq : (es.drop lo)[q - lo]? = some es[q] := by rw [List.getElem?_drop, show lo + (q - lo) = q by omega, List.getElem?_eq_getElem h2]
  have pq : onL T f l es[q] = true := (onL_at (List.getElem?_eq_getElem h2)).mpr e
  obtain ⟨a, x, g, px, e0, hn⟩ := first_of (onL T f l) (es.drop lo) ⟨_, List.mem_of_getElem? gq, pq⟩
  have g' := drop_at g
  refine ⟨lo + a, x, by omega, ?_, g', e0, (onL_at g').mp px⟩
  by_cases z : q - lo < a
  · have := hn _ _ z gq
    rw [pq] at this
    cases this
  · omega
theorem touch_last {es : List En} {T f l : Rat} {lo q : Nat} (h1 : lo ≤ q) (h2 : q < es.length) (e : lev es T q - f = l) : ∃ a x, q ≤ a ∧ a < es.length ∧ es[a]? = some x ∧ ((es.drop lo).filter (onL T f l))[((es.drop lo).filter (onL T f l)).length - 1]? = some x ∧ lev es T a - f = l ∧ ∀ i, a < i → i < es.length → lev es T i - f ≠ l := by
  have gq : (es.drop lo)[q - lo]? = some es[q] := by rw [List.getElem?_drop, show lo + (q - lo) = q by omega, List.getElem?_eq_getElem h2]
  have pq : onL T f l es[q] = true := (onL_at (List.getElem?_eq_getElem h2)).mpr e
  obtain ⟨a, x, g, px, e0, hn⟩ := last_of (onL T f l) (es.drop lo) ⟨_, List.mem_of_getElem? gq, pq⟩
  have g' := drop_at g
  refine ⟨lo + a, x, ?_, (List.getElem?_eq_some_iff.mp g').1, g', e0, (onL_at g').mp px, fun i hi hl ei => ?_⟩
  · by_cases z : a < q - lo
    · have := hn _ _ z gq
      rw [pq] at this
      cases this
    · omega
  · have gi : (es.drop lo)[i - lo]? = some es[i] := by rw [List.getElem?_drop, show lo + (i - lo) = i by omega, List.getElem?_eq_getElem hl]
    have := hn (i - lo) _ (by omega) gi
    rw [(onL_at (List.getElem?_eq_getElem hl)).mpr ei] at this
    cases this
theorem at_neg1 {es : List En} {x : En} (h : es[es.length - 1]? = some x) : atI (vals es) (-1) = some (.ref x.1) := by
  have hl := (List.getElem?_eq_some_iff.mp h).1
  unfold atI
  rw [vals_len, ix_last (m := es.length - 1) (by walk_at "o")]
  exact vals_get h
theorem at_zero {es : List En} {x : En} (h : es[0]? = some x) : atI (vals es) 0 = some (.ref x.1) := atI_nat (j := 0) (vals_get h)
theorem rising1 {ss : List En} {x : Addr} {m : Int} {q : Rat} (h : rising ss) (hm : ∀ i, i < ss.length → mo ss i < m) : rising (ss ++ [(x, m, some q)]) := rising_new h hm
theorem BdP.next {ss : List En} {fl ro : Nat} {β G' S' : Rat} {g s : Option Rat} {x : Addr} {m : Int} {q : Rat} (h : BdP ss fl ro β g s) (hβ : 0 ≤ β) (hm : ∀ i, i < ss.length → mo ss i < m) (gG : GF (ss ++ [(x, m, some q)]) (2 * β) fl ro G') (sS : SF (ss ++ [(x, m, some q)]) (2 * β) fl ro S')
    (n1 : ¬ ∃ G S, g = some G ∧ some S' = some S ∧ S < G) (n2 : ¬ ∃ G S, some G' = some G ∧ s = some S ∧ S < G) : BdP (ss ++ [(x, m, some q)]) fl ro β (some G') (some S') ∧ NoTurn ss β fl ro g s m q := by
  have hr := rising1 (x := x) (q := q) h.ris hm
  have k1 : ∀ G, g = some G → G ≤ S' := fun G e => Rat.not_lt.mp fun z => n1 ⟨G, S', e, rfl, z⟩
  have k2 : ∀ S, s = some S → G' ≤ S := fun S e => Rat.not_lt.mp fun z => n2 ⟨G', S, rfl, e, z⟩
  have hfl := h.hfl
  have hro := h.hro
  refine ⟨⟨allS_new h.all, hr, by rw [len1]; omega, by rw [len1]; omega, fun _ => by rw [len1]; omega, gG, sS, ?_, h.df⟩, fun G e i hi hl => ?_, fun S e i hi hl => ?_⟩
  · intro G S e1 e2
    cases e1
    cases e2
    refine both_le (by grind) hr gG sS (fun i j a b c d => ?_) (fun i j a b c d => ?_)
    · have go := h.go
      cases hg : g with
      | none => rw [hg] at go; exact absurd d (go i j a b c)
      | some G0 => rw [hg] at go; exact Rat.le_trans (go.1 i j a b c d) (k1 G0 hg)
    · have so := h.so
      cases hs : s with
      | none => rw [hs] at so; exact absurd d (so i j a b c)
      | some S0 => rw [hs] at so; exact Rat.le_trans (k2 S0 hs) (so.1 i j a b c d)
  · refine Rat.not_lt.mp fun z => ?_
    exact absurd ((cap_iff hr sS (h.hiG e).2 hro).mpr ⟨i, hi, hl, z⟩) (Rat.not_lt.mpr (k1 G e))
  · refine Rat.not_lt.mp fun z => ?_
    exact absurd ((cup_iff hr gG (h.loS e).2 hfl).mpr ⟨i, hi, hl, z⟩) (Rat.not_lt.mpr (k2 S e))
section
variable {P : Program} {w : World} {K : PySem.W.Frag} {mg : Str → Option Value} {base : Heap} {f c_Bend : Addr} {fd : FuncData}
theorem sc_Bend_init : FnScope ["self", "bound"] ["self", "bound"] (defScope s_Bend_init) := ⟨rfl, rfl, rfl, by decide +kernel, rfl, by decide +kernel, by decide +kernel⟩
theorem ok_Bend_init (F : Fun K "__init__" "Bend.__init__" s_Bend_init f fd) (K_Bend : Cl K mg "Bend" c_Bend ["bound", "twice", "below", "above", "gentlest", "steepest"]) (D_plus : Dn P w K mg base 5 "plus" ["one", "other"] (spTwoF (· + ·) 1)) : FnOk P w K mg base CX0 6 f fd ["self", "bound"] (spBInit c_Bend) := by
  refine F.ok sc_Bend_init (fun vs H Q E h => ?_) (fun cdv A outer s H vs Q E hr h => ?_)
  · obtain ⟨p, dx, pb, β, n, rfl, _⟩ := h
    rfl
  obtain ⟨p, dx, pb, β, n, rfl, hp, hb, hn, k⟩ := h
  have lp : ∀ (f : Str) (v : V) (fs : List (Str × V)), fs.length ≤ (putF f v fs).length := by
    intro f v fs
    induction fs with
    | nil => exact Nat.zero_le _
    | cons x r ih =>
      obtain ⟨g, y⟩ := x
      unfold putF
      split
      · exact Nat.le_refl _
      · exact Nat.succ_le_succ ih
  have Fp : ∀ {H H' : Hp} {fs : List (Str × V)} {b : Addr} {xs : List V}, Kp (· = p) H H' → H p = some (.ins c_Bend dx fs) → H b = some (.tup xs) → H' b = some (.tup xs) := fun h hp e => h _ _ (fun z => by rw [z, hp] at e; cases e) e
  refine Jd.go ⟨_, (Jd.pss_cons (Jd.ps_fld K (Jd.pv 0) (Jd.pv 1))
      (Jd.pss_cons (Jd.ps_fld K (Jd.pv 0) (Jd.pe_dn D_plus (hr.mono (by decide)) rfl (Jd.pa_cons (Jd.pv 1) (Jd.pa_cons (Jd.pv 1) Jd.pa_nil st_N) st_N) (he := st_N) (hpl := (anyc st_N any0))))
      (Jd.pss_cons (Jd.ps_fld K (Jd.pv 0) (Jd.pe_lst Jd.pa_nil))
      (Jd.pss_cons (Jd.ps_fld K (Jd.pv 0) (Jd.pe_lst Jd.pa_nil))
      (Jd.pss_cons (Jd.ps_fld K (Jd.pv 0) Jd.pe_non)
      (Jd.pss_one (Jd.ps_fld K (Jd.pv 0) Jd.pe_non))))))), ?_⟩
  walk_at "v"
  refine r_s K_Bend hp (by show 0 < 1000; decide) ?_
  have k1 : Kp (· = p) H (upd H p (.ins c_Bend dx (putF "bound" (.ref pb) []))) := (Kp.of (Same.refl _)).upd rfl
  have hb1 := hb.tv (Fp k1 hp)
  have hp1 : upd H p (.ins c_Bend dx (putF "bound" (.ref pb) [])) p = some (.ins c_Bend dx (putF "bound" (.ref pb) [])) := upd_same
  generalize upd H p (.ins c_Bend dx (putF "bound" (.ref pb) [])) = H1 at *
  walk_at "v"
  refine ⟨pb, pb, β, β, n, n, rfl, hb1.qt, hb1.qt, by walk_at "o", fun tw H2 s2 f2 => ?_⟩
  have k2 := k1.sm s2
  have hp2 := s2 _ _ hp1
  have hb2 := hb1.up s2
  walk_at "v"
  have F6 := fun Lb La => (Fb.init pb tw Lb La .non .non).len
  refine r_s K_Bend hp2 (by have := F6 pb pb; have := lp "twice" (.ref tw) (putF "bound" (.ref pb) []); have : (putF "bound" (.ref pb) ([] : List (Str × V))).length = 1 := rfl; walk_at "o") ?_
  have k3 : Kp (· = p) H (upd H2 p (.ins c_Bend dx (putF "twice" (.ref tw) (putF "bound" (.ref pb) [])))) := k2.upd rfl
  have k23 : Kp (· = p) H2 (upd H2 p (.ins c_Bend dx (putF "twice" (.ref tw) (putF "bound" (.ref pb) [])))) := (Kp.of (Same.refl _)).upd rfl
  have hb3 := hb2.tv (Fp k23 hp2)
  have f3 := f2.tv (Fp k23 hp2)
  have hp3 : upd H2 p (.ins c_Bend dx (putF "twice" (.ref tw) (putF "bound" (.ref pb) []))) p = some (.ins c_Bend dx (putF "twice" (.ref tw) (putF "bound" (.ref pb) []))) := upd_same
  generalize upd H2 p (.ins c_Bend dx (putF "twice" (.ref tw) (putF "bound" (.ref pb) []))) = H3 at *
  walk_at "v"
  refine r_new (mk := .lst) (by simp) fun Lb H4 s4 n4 e4 => ?_
  have k4 := k3.sm s4
  have hp4 := s4 _ _ hp3
  have nb0 : H Lb = none := by
    cases g : H Lb with
    | none => rfl
    | some o =>
      by_cases z : Lb = p
      · rw [z, hp3] at n4; cases n4
      · rw [k3 _ _ z g] at n4; cases n4
  have nLp : Lb ≠ p := fun z => by rw [z, hp3] at n4; cases n4
  walk_at "v"
  refine r_s K_Bend hp4 (by have z1 := putF_le "twice" (.ref tw) (putF "bound" (.ref pb) []); have z2 : (putF "bound" (.ref pb) ([] : List (Str × V))).length = 1 := rfl; walk_at "o") ?_
  have k45 : Kp (· = p) H4 (upd H4 p (.ins c_Bend dx (putF "below" (.ref Lb) (putF "twice" (.ref tw) (putF "bound" (.ref pb) []))))) := (Kp.of (Same.refl _)).upd rfl
  have hb5 := (hb3.up s4).tv (Fp k45 hp4)
  have f5 := (f3.up s4).tv (Fp k45 hp4)
  have e5 := k45 _ _ nLp e4
  have k5 := k4.trans k45
  have hp5 : upd H4 p (.ins c_Bend dx (putF "below" (.ref Lb) (putF "twice" (.ref tw) (putF "bound" (.ref pb) [])))) p = some (.ins c_Bend dx (putF "below" (.ref Lb) (putF "twice" (.ref tw) (putF "bound" (.ref pb) [])))) := upd_same
  generalize upd H4 p (.ins c_Bend dx (putF "below" (.ref Lb) (putF "twice" (.ref tw) (putF "bound" (.ref pb) [])))) = H5 at *
  walk_at "v"
  refine r_new (mk := .lst) (by simp) fun La H6 s6 n6 e6 => ?_
  have k6 := k5.sm s6
  have hp6 := s6 _ _ hp5
  have na0 : H La = none := by
    cases g : H La with
    | none => rfl
    | some o =>
      by_cases z : La = p
      · rw [z, hp5] at n6; cases n6
      · rw [k5 _ _ z g] at n6; cases n6
  have nMp : La ≠ p := fun z => by rw [z, hp5] at n6; cases n6
  have ne : Lb ≠ La := fun z => by rw [← z, e5] at n6; cases n6
  have F := Fb.init pb tw Lb La .non .non
  have l0 := F.len
  have l1 := lp "steepest" .non (putF "gentlest" .non (putF "above" (.ref La) (putF "below" (.ref Lb) (putF "twice" (.ref tw) (putF "bound" (.ref pb) [])))))
  have l2 := lp "gentlest" .non (putF "above" (.ref La) (putF "below" (.ref Lb) (putF "twice" (.ref tw) (putF "bound" (.ref pb) []))))
  have l3 := lp "above" (.ref La) (putF "below" (.ref Lb) (putF "twice" (.ref tw) (putF "bound" (.ref pb) [])))
  walk_at "v"
  refine r_s K_Bend hp6 (by walk_at "o") ?_
  walk_at "v"
  refine r_s K_Bend upd_same (by walk_at "o") ?_
  walk_at "v"
  refine r_s K_Bend upd_same (by walk_at "o") ?_
  walk_at "v"
  rw [upd_upd, upd_upd]
  have k67 : Kp (· = p) H6 (upd H6 p (.ins c_Bend dx (putF "steepest" .non (putF "gentlest" .non (putF "above" (.ref La) (putF "below" (.ref Lb) (putF "twice" (.ref tw) (putF "bound" (.ref pb) [])))))))) := (Kp.of (Same.refl _)).upd rfl
  have k7 := k6.trans k67
  refine k Lb La _ 0 (fun b o e => ?_) nb0 na0 ⟨dx, pb, tw, _, .non, .non, upd_same, F, k67 _ _ nLp (s6 _ _ e5), k67 _ _ nMp e6, ne, fun x hx => absurd hx (by simp), (hb5.up s6).tv (Fp k67 hp6), ?_, rfl, rfl, ⟨fun x hx => absurd hx (by simp), List.Pairwise.nil, Nat.le_refl _, Nat.le_refl _, fun z => absurd z (by simp), fun q p _ _ _ z => absurd z (by simp), fun q p _ _ _ z => absurd z (by simp), fun _ _ e => (by cases e), fun _ => rfl⟩⟩
  · by_cases hb' : b = p
    · rw [hb'] at e
      unfold rm at e
      rw [if_pos rfl] at e
      cases e
    · rw [rm_at hb'] at e
      exact k7 _ _ hb' e
  · have := ((f5.up s6).tv (Fp k67 hp6)).qt
    have e2' : (2 * β : Rat) = β + β := by grind
    rw [e2']
    exact this.mono (by walk_at "o")
theorem in_of {rs : Qs} {N : Nat} {h : Nat → Rat} (hm : rs.map (·.2) = (List.range N).map h) : (∀ i, i < N → ∃ x ∈ rs, x.2 = h i) ∧ (∀ x ∈ rs, ∃ i, i < N ∧ h i = x.2) := by
  constructor
  · intro i hi
    have : h i ∈ rs.map (·.2) := by rw [hm]; exact List.mem_map.mpr ⟨i, List.mem_range.mpr hi, rfl⟩
    obtain ⟨x, hx, e⟩ := List.mem_map.mp this
    exact ⟨x, hx, e⟩
  · intro x hx
    have : x.2 ∈ rs.map (·.2) := List.mem_map.mpr ⟨x, hx, rfl⟩
    rw [hm] at this
    obtain ⟨i, hi, e⟩ := List.mem_map.mp this
    exact ⟨i, List.mem_range.mp hi, e⟩
theorem allS_drop {es : List En} {j : Nat} (h : AllS es) : AllS (es.drop j) := fun x hx => h x (List.mem_of_mem_drop hx)
theorem row_drop {H : Hp} {es : List En} {j n : Nat} (h : Row H es n) : Row H (es.drop j) n := fun x hx => h x (List.mem_of_mem_drop hx)
theorem zero_sz {n : Nat} : Sz n 0 := Nat.two_pow_pos n
theorem sc_Bend_line_of : FnScope ["self", "steep", "told", "lows"] ["self", "steep"] (defScope s_Bend_line_of) := ⟨rfl, rfl, rfl, by decide +kernel, rfl, by decide +kernel, by decide +kernel⟩
theorem ok_Bend_line_of (F : Fun K "line_of" "Bend.line_of" s_Bend_line_of f fd) (K_Bend : Cl K mg "Bend" c_Bend ["bound", "twice", "below", "above", "gentlest", "steepest"]) (D_reduced : Dn P w K mg base 4 "reduced" ["quotient"] spReduced) (D_loose_along : Dn P w K mg base 3 "loose_along" ["steep", "sample", "moment"] spLalong) (D_loose_minus : Dn P w K mg base 1 "loose_minus" ["one", "other"] (spTwo (· - ·) 1)) (D_greatest : Dn P w K mg base 2 "greatest" ["quotients"] spGreat) : FnOk P w K mg base CX0 5 f fd ["self", "steep"] (spLineOf c_Bend) := by
  refine F.ok sc_Bend_line_of (fun vs H Q E h => ?_) (fun cdv A outer s H vs Q E hr h => ?_)
  · obtain ⟨p, Lb, La, pt, ss, fl, ro, β, T, n, nb, g, s, rfl, _⟩ := h
    rfl
  obtain ⟨p, Lb, La, pt, ss, fl, ro, β, T, n, nb, g, s', rfl, ⟨dx, bd, tw, fs, gv, sv, hB⟩, ht, h0, h900, hn, hnb, k⟩ := h
  have hlt := (hB.P.lt h0).1
  have ld : (ss.drop fl).length = ss.length - fl := List.length_drop ..
  refine Jd.go ⟨_, (Jd.pss_cons (Jd.ps_set (i := 2) sc_Bend_line_of.nd rfl (Or.inr rfl) (Jd.pe_dn D_reduced (hr.mono (by decide)) rfl (Jd.pa_cons (Jd.pv 1) Jd.pa_nil st_N) (he := st_N) (hpl := any0)) (hs := sw_K))
      (Jd.pss_cons (Jd.ps_comp (O := ["sample"]) (N' := ["told", "self"]) (cap := [2, 0]) (i := 3) sc_Bend_line_of.nd rfl (Or.inl rfl) rfl (Jd.piL K (Jd.pe_fld K (Jd.pv 0))) (fun _ _ _ _ _ => (Jd.pg_name (i := 0) (show List.Nodup [("sample" : Str), ("told" : Str), ("self" : Str)] by decide +kernel) rfl (Or.inl rfl))) (fun _ _ _ _ _ => Jd.pts_nil) (fun _ _ _ _ _ => (Jd.pe_dn D_loose_minus (hr.mono (by decide)) rfl (Jd.pa_cons (Jd.pe_dn D_loose_along (hr.mono (by decide)) rfl (Jd.pa_cons (Jd.pv 1) (Jd.pa_cons (Jd.pv 0) (Jd.pa_cons Jd.pe_int Jd.pa_nil st_C) st_N) st_N) (he := st_N) (hpl := (anyc st_N (anyc st_C any0)))) (Jd.pa_cons (Jd.pe_fld K (Jd.pv 2)) Jd.pa_nil) st_K) (he := st_K) (hpl := (anyc (by rfl) any0)))) rfl ⟨⟨rfl, rfl, rfl, rfl⟩, ⟨⟨rfl, rfl, rfl, rfl⟩, trivial⟩⟩ rfl (by decide +kernel) rfl (by decide +kernel) (by rfl))
      (Jd.pss_one (Jd.ps_ret (Jd.pe_tup (Jd.pa_cons (Jd.pv 2) (Jd.pa_cons (Jd.pe_dn D_reduced (hr.mono (by decide)) rfl (Jd.pa_cons (Jd.pe_dn D_greatest (hr.mono (by decide)) rfl (Jd.pa_cons (Jd.pv 3) Jd.pa_nil st_N) (he := st_N) (hpl := any0)) Jd.pa_nil st_K) (he := st_K) (hpl := any0)) Jd.pa_nil st_K) st_N)))))), ?_⟩
  walk_at "v"
  refine ⟨pt, T, _, rfl, ht, by walk_at "o", fun to H1 s1 f1 => ?_⟩
  walk_at "v"
  refine r_iL ?_
  walk_at "v"
  refine r_f K_Bend (s1 _ _ hB.at_) hB.F.bl ?_
  refine ⟨Lb, rfl, ⟨_, SqL.of (s1 _ _ hB.eb)⟩, ?_⟩
  refine compB_of (xs := vals (ss.drop fl)) tells_list (fun H3 s3 => SqL.of (s3 _ _ (s1 _ _ hB.eb))) (by rw [vals_len]; walk_at "o") (fun i ys G' => ∃ rs : Qs, ys = qrefs rs ∧ AllQ G' rs (5 * n + 3 * nb + 7) ∧ rs.map (·.2) = (List.range i).map (fun j => lev (ss.drop fl) T j - β)) ⟨[], rfl, fun z hz => absurd hz (by simp), rfl⟩ ?_ ?_
  · rintro D i v ys H3 σ0 N N0 h0' hD eD s3 hv hy ⟨rs, rfl, hrs, hmap⟩ kY kN
    obtain ⟨e, he, rfl⟩ := vals_at hv
    have hi : i < (ss.drop fl).length := (List.getElem?_eq_some_iff.mp he).1
    obtain ⟨xi, gi, fi⟩ := sa_at (row_drop (hB.row.up (s1.trans s3))) (allS_drop hB.P.all) hi
    rw [he] at gi
    cases gi
    refine r_own1 h0' ?_
    walk_at "v"
    refine iteT ?_
    walk_at "v"
    refine ⟨to, e.1, T, _, _, 0, _, n, rfl, (f1.up s3).qt, fi, zero_sz, by walk_at "o", by walk_at "o", fun x H4 s4 f4 => ?_⟩
    walk_at "v"
    refine r_f K_Bend ((s1.trans (s3.trans s4)) _ _ hB.at_) hB.F.bd ?_
    walk_at "v"
    refine ⟨x, bd, _, β, _, nb, rfl, f4, (hB.fbd.up (s1.trans (s3.trans s4))).qt, by walk_at "o", fun x5 H5 s5 f5 => ?_⟩
    refine kY _ H5 (s4.trans s5) ⟨rs ++ [(x5, lev (ss.drop fl) T i - β)], by simp [qrefs], fun y hy' => ?_, ?_⟩
    · rcases List.mem_append.mp hy' with w | w
      · exact (hrs y w).up (rm_rm (s4.trans s5))
      · obtain rfl : y = (x5, lev (ss.drop fl) T i - β) := by simpa using w
        have e1 : wo (ss.drop fl) i + T * ((0 - mo (ss.drop fl) i : Int) : Rat) - β = lev (ss.drop fl) T i - β := by
          unfold lev
          rw [Rat.intCast_sub]
          grind
        have f5 : QtAt H5 x5 (wo (ss.drop fl) i + T * ((0 - mo (ss.drop fl) i : Int) : Rat) - β) _ := f5
        rw [e1] at f5
        obtain ⟨t, d, e', ff⟩ := f5.mono (show 3 * n + (2 * nb + 1) + 3 + 2 * n + 2 + nb + 1 ≤ 5 * n + 3 * nb + 7 by walk_at "o")
        exact ⟨t, d, rm_tup ((s4.trans s5) _ _ eD) e', ff⟩
    · rw [List.map_append, hmap, List.range_succ, List.map_append]
      rfl
  rintro D ys H3 hD eD s3 hy ⟨rs, rfl, hrs, hmap⟩
  rw [vals_len] at hmap
  have hlen : rs.length = (ss.drop fl).length := by
    have := congrArg List.length hmap
    simpa using this
  obtain ⟨inR, ofR⟩ := in_of hmap
  walk_at "v"
  refine ⟨D, rs, 5 * n + 3 * nb + 7, rfl, eD, fun x hx => (hrs x hx).up rm_same, by walk_at "o", by walk_at "o", fun mx hmx hmax => ?_⟩
  walk_at "v"
  refine ⟨mx.1, mx.2, _, rfl, (hrs mx hmx).up rm_same, by walk_at "o", fun r4 H4 s4 f4 => ?_⟩
  walk_at "v"
  refine r_new (mk := .tup) (by simp) fun y H5 s5 n5 e5 => ?_
  refine k y mx.2 H5 (s1.trans (s3.trans (s4.trans s5))) ⟨to, r4, e5, (f1.up (s3.trans (s4.trans s5))).mono (by walk_at "o"), f4.up s5⟩ (fun i hi hl => ?_) ?_
  · obtain ⟨x, hx, e⟩ := inR (i - fl) (by walk_at "o")
    have := hmax x hx
    rw [e, lev_drop, show fl + (i - fl) = i by walk_at "o"] at this
    exact this
  · obtain ⟨i, hi, e⟩ := ofR mx hmx
    exact ⟨fl + i, by walk_at "o", by walk_at "o", by rw [← lev_drop]; exact e⟩
theorem sc_Bend_ended_in_cap : FnScope ["self", "sample", "line", "first", "mid"] ["self", "sample"] (defScope s_Bend_ended_in_cap) := ⟨rfl, rfl, rfl, by decide +kernel, rfl, by decide +kernel, by decide +kernel⟩
theorem ok_Bend_ended_in_cap (F : Fun K "ended_in_cap" "Bend.ended_in_cap" s_Bend_ended_in_cap f fd) (K_Bend : Cl K mg "Bend" c_Bend ["bound", "twice", "below", "above", "gentlest", "steepest"]) (D_Bend_line_of : Dm P w K mg base 5 c_Bend "line_of" ["self", "steep"] (spLineOf c_Bend)) (D_touched : Dn P w K mg base 5 "touched" ["samples", "line", "lift"] spTouched) (D_opposite : Dn P w K mg base 1 "opposite" ["one"] spOpp) (D_steepest_with : Dn P w K mg base 4 "steepest_with" ["known", "earlier", "sample", "twice"] spSteep) : FnOk P w K mg base CX0 6 f fd ["self", "sample"] (spCap c_Bend) := by
  refine F.ok sc_Bend_ended_in_cap (fun vs H Q E h => ?_) (fun cdv A outer s H vs Q E hr h => ?_)
  · obtain ⟨p, Lb, La, x, ss, fl, ro, m, q, β, G, n, nb, s, rfl, _⟩ := h
    rfl
  obtain ⟨p, Lb, La, x, ss, fl, ro, m, q, β, G, n, nb, s', rfl, ⟨dx, bd, tw, fs, gv, sv, hB⟩, hx, hm, h900, h1, hn, hnb, hβ, hoff, k⟩ := h
  have h0 : 0 < ss.length := by obtain ⟨i, _, hi, _⟩ := hoff; walk_at "o"
  obtain ⟨hfl, hro⟩ := hB.P.lt h0
  obtain ⟨pg, rfl, fg⟩ := id hB.G
  obtain ⟨gG, hG⟩ := hB.P.hiG rfl
  have ris := hB.P.ris
  refine Jd.go ⟨_, (Jd.pss_cons (Jd.ps_set (i := 2) sc_Bend_ended_in_cap.nd rfl (Or.inl rfl) (Jd.pe_dm D_Bend_line_of K_Bend.cl (hr.mono (by decide)) (Jd.pv 0) (Jd.pa_cons (Jd.pe_fld K (Jd.pv 0)) Jd.pa_nil) (he := (by rfl)) (hpl := any0)) (hs := sw_K))
      (Jd.pss_cons (Jd.ps_set (i := 3) sc_Bend_ended_in_cap.nd rfl (Or.inl rfl) (Jd.pe_ix (ixL K) (Jd.pe_dn D_touched (hr.mono (by decide)) rfl (Jd.pa_cons (Jd.pe_fld K (Jd.pv 0)) (Jd.pa_cons (Jd.pv 2) (Jd.pa_cons (Jd.pe_dn D_opposite (hr.mono (by decide)) rfl (Jd.pa_cons (Jd.pe_fld K (Jd.pv 0)) Jd.pa_nil) (he := (by rfl)) (hpl := any0)) Jd.pa_nil st_K) st_N)) (he := (by rfl)) (hpl := (anyc st_N (anyc st_K any0)))) Jd.pe_int (fun _ _ => rfl)) (hs := sw_S))
      (Jd.pss_cons (Jd.ps_set (i := 4) sc_Bend_ended_in_cap.nd rfl (Or.inr rfl) (Jd.pe_ix (ixL K) (Jd.pe_dn D_touched (hr.mono (by decide)) rfl (Jd.pa_cons (Jd.pe_fld K (Jd.pv 0)) (Jd.pa_cons (Jd.pv 2) (Jd.pa_cons (Jd.pe_fld K (Jd.pv 0)) Jd.pa_nil) st_N)) (he := (by rfl)) (hpl := (anyc st_N (anyc (by rfl) any0)))) (Jd.pe_un un_neg Jd.pe_int) (fun _ _ => rfl)) (hs := sw_S))
      (Jd.pss_cons (Jd.ps_fld K (Jd.pv 0) (Jd.pe_comp (O := ["other"]) (N' := ["mid"]) (cap := [4]) rfl (Jd.piL K (Jd.pe_fld K (Jd.pv 0))) (fun _ _ _ _ _ => (Jd.pg_name (i := 0) (show List.Nodup [("other" : Str), ("mid" : Str)] by decide +kernel) rfl (Or.inl rfl))) (fun _ _ _ _ _ => (Jd.pts_one (Jd.pt_cmpR op_ge (Jd.pe_ix (ixT K) (Jd.pv 0) Jd.pe_int (fun _ _ => rfl)) (Jd.pe_ix (ixT K) (Jd.pv 1) Jd.pe_int (fun _ _ => rfl)) (nomark _)))) (fun _ _ _ _ _ => (Jd.pv 0)) rfl ⟨⟨rfl, rfl, rfl, rfl⟩, trivial⟩ rfl (by decide +kernel) rfl (by decide +kernel)))
      (Jd.pss_cons (Jd.ps_fld K (Jd.pv 0) (Jd.pe_dn D_steepest_with (hr.mono (by decide)) rfl (Jd.pa_cons Jd.pe_non (Jd.pa_cons (Jd.pe_fld K (Jd.pv 0)) (Jd.pa_cons (Jd.pv 1) (Jd.pa_cons (Jd.pe_fld K (Jd.pv 0)) Jd.pa_nil) st_N)) st_C) (he := st_C) (hpl := (anyc (by rfl) (anyc st_N (anyc (by rfl) any0))))))
      (Jd.pss_cons (Jd.ps_fld K (Jd.pv 0) Jd.pe_non)
      (Jd.pss_cons (Jd.ps_expr (Jd.appC K (Jd.pe_fld K (Jd.pv 0)) (Jd.pv 1)) (hs := sw_K))
      (Jd.pss_cons (Jd.ps_fld K (Jd.pv 0) (Jd.pe_lst (Jd.pa_cons (Jd.pv 1) Jd.pa_nil st_N)))
      (Jd.pss_one (Jd.ps_ret (Jd.pe_tup (Jd.pa_cons (Jd.pv 2) (Jd.pa_cons (Jd.pe_tup (Jd.pa_cons (Jd.pe_ix (ixT K) (Jd.pv 3) Jd.pe_int (fun _ _ => rfl)) (Jd.pa_cons (Jd.pe_ix (ixT K) (Jd.pv 4) Jd.pe_int (fun _ _ => rfl)) (Jd.pa_cons (Jd.pe_ix (ixT K) (Jd.pv 1) Jd.pe_int (fun _ _ => rfl)) Jd.pa_nil st_S) st_S) st_S)) Jd.pa_nil st_T) st_N)))))))))))), ?_⟩
  walk_at "v"
  refine r_m hB.at_ (hB.F.meth "line_of") ?_
  walk_at "v"
  refine r_f K_Bend hB.at_ hB.F.g ?_
  walk_at "v"
  refine ⟨p, Lb, La, pg, ss, fl, ro, β, G, n, nb, some G, s', rfl, ⟨dx, bd, tw, fs, _, sv, hB⟩, fg, h0, h900, hn, hnb, fun ln fo H1 s1 f1 lo ex => ?_⟩
  obtain ⟨hi, q0, p0, a1, a2, a3, a4, eq0, ep0⟩ := cap_touch hβ ris gG hG lo ex
  have hB1 := hB.up s1
  walk_at "v"
  refine r_f K_Bend hB1.at_ hB.F.ab ?_
  walk_at "v"
  refine r_f K_Bend hB1.at_ hB.F.bd ?_
  walk_at "v"
  refine ⟨bd, β, nb, rfl, hB1.fbd.qt, fun ob H2 s2 f2 => ?_⟩
  have hB2 := hB1.up s2
  walk_at "v"
  refine ⟨La, ln, ob, ss.drop ro, G, fo, -β, n, _, nb, rfl, hB2.ea, row_drop hB2.row, allS_drop hB.P.all, f1.up2 s2, f2, h1, by walk_at "o", by walk_at "o", by walk_at "o", by rw [List.length_drop]; walk_at "o", fun R3 H3 s3 n3 e3 => ?_⟩
  have hB3 := hB2.up s3
  obtain ⟨a, xa, b1, b2, ga, g0, ea⟩ := touch_first (l := -β) (f := fo) a1 (by walk_at "o") (show lev ss G q0 - fo = -β by grind)
  obtain ⟨xa', ga', fa⟩ := sa_at (hB3.row) hB.P.all (show a < ss.length by walk_at "o")
  rw [ga] at ga'
  cases ga'
  walk_at "v"
  refine r_l e3 (at_zero g0) ?_
  walk_at "v"
  refine r_f K_Bend hB3.at_ hB.F.bl ?_
  walk_at "v"
  refine r_f K_Bend hB3.at_ hB.F.bd ?_
  walk_at "v"
  refine ⟨Lb, ln, bd, ss.drop fl, G, fo, β, n, _, nb, rfl, hB3.eb, row_drop hB3.row, allS_drop hB.P.all, f1.up2 (s2.trans s3), hB3.fbd.qt, h1, by walk_at "o", by walk_at "o", by walk_at "o", by rw [List.length_drop]; walk_at "o", fun R4 H4 s4 n4 e4 => ?_⟩
  have hB4 := hB3.up s4
  have s04 := s1.trans (s2.trans (s3.trans s4))
  obtain ⟨b, xb, c1, c2, gb, g1, eb, fb⟩ := touch_last (l := β) (f := fo) a3 a4 (show lev ss G p0 - fo = β by grind)
  obtain ⟨xb', gb', fxb⟩ := sa_at hB4.row hB.P.all c2
  rw [gb] at gb'
  cases gb'
  obtain ⟨vb, evb, _⟩ := id fxb
  obtain ⟨va, eva, _⟩ := id (fa.up s4)
  have mb : xb.2.1 = mo ss b := by unfold mo; rw [gb]; rfl
  have gdb : (ss.drop fl)[b - fl]? = some xb := by rw [List.getElem?_drop, show fl + (b - fl) = b by walk_at "o"]; exact gb
  have edb : (ss.drop fl).filter (fun y => decide (xb.2.1 ≤ y.2.1)) = ss.drop b := by
    rw [drop_of (drop_rising ris) gdb, List.drop_drop, show fl + (b - fl) = b by walk_at "o"]
  walk_at "v"
  refine r_l e4 (at_neg1 g1) ?_
  walk_at "v"
  refine r_iL ?_
  walk_at "v"
  refine r_f K_Bend hB4.at_ hB.F.bl ?_
  refine ⟨Lb, rfl, ⟨_, SqL.of hB4.eb⟩, ?_⟩
  refine compB_of (xs := vals (ss.drop fl)) tells_list (fun H5 s5 => SqL.of (s5 _ _ hB4.eb)) (by rw [vals_len, List.length_drop]; walk_at "o") (fun i ys _ => ys = vals (((ss.drop fl).take i).filter (fun y => decide (xb.2.1 ≤ y.2.1)))) rfl ?_ ?_
  · rintro D i v ys H5 σ0 N N0 h0' hD eD s5 hv hy rfl kY kN
    obtain ⟨e, he, rfl⟩ := vals_at hv
    have hi : i < (ss.drop fl).length := (List.getElem?_eq_some_iff.mp he).1
    obtain ⟨xi, gi, ⟨vi, ei, _⟩⟩ := sa_at (row_drop (hB4.row.up s5)) (allS_drop hB.P.all) hi
    rw [he] at gi
    cases gi
    have me : mo (ss.drop fl) i = e.2.1 := by unfold mo; rw [he]; rfl
    have ts := PySem.take_succ_filter (fun y : En => decide (xb.2.1 ≤ y.2.1)) (ss.drop fl) i e he
    have evb5 := s5 _ _ evb
    refine r_own1 h0' ?_
    walk_at "v"
    cases hs : decide (xb.2.1 ≤ e.2.1) with
    | true =>
      rw [hs, if_pos rfl] at ts
      have hs' := of_decide_eq_true hs
      rw [show decide (mo ss b ≤ mo (ss.drop fl) i) = true from decide_eq_true (by rw [me, ← mb]; exact hs')]
      refine iteT ?_
      walk_at "v"
      exact kY _ H5 (Same.refl _) (by rw [ts, ← vals_snoc])
    | false =>
      rw [hs, if_neg Bool.false_ne_true, List.append_nil] at ts
      have hs' := of_decide_eq_false hs
      rw [show decide (mo ss b ≤ mo (ss.drop fl) i) = false from decide_eq_false (by rw [me, ← mb]; exact hs')]
      refine iteF ?_
      exact kN H5 (Same.refl _) (by rw [ts])
  rintro D ys H5 hD eD s5 hy rfl
  rw [vals_len, List.take_length, edb] at eD
  have hB5 := hB4.up s5
  have s05 := s04.trans s5
  have nD : H D = none := by
    cases g : H D with
    | none => rfl
    | some o => rw [s04 _ _ g] at hD; cases hD
  have nDp : D ≠ p := fun z => by rw [z, hB.at_] at nD; cases nD
  have fl0 := hB.F.len
  walk_at "v"
  refine r_s K_Bend hB5.at_ (by walk_at "o") ?_
  have kd : Kp (fun b => b = p) H5 (upd H5 p (.ins c_Bend dx (putF "below" (.ref D) fs))) := (Kp.of (Same.refl _)).upd rfl
  have ep6 : upd H5 p (.ins c_Bend dx (putF "below" (.ref D) fs)) p = some (.ins c_Bend dx (putF "below" (.ref D) fs)) := upd_same
  have k6 : Kp (fun b => b = p ∨ b = D) H (upd H5 p (.ins c_Bend dx (putF "below" (.ref D) fs))) := (Kp.of s05).upd (.inl rfl)
  have eD6 := kd _ _ nDp eD
  have tp : ∀ {b : Addr} {xs : List V}, H5 b = some (.tup xs) → upd H5 p (.ins c_Bend dx (putF "below" (.ref D) fs)) b = some (.tup xs) := fun e => kd _ _ (fun z => by rw [z, hB5.at_] at e; cases e) e
  have row6 := (hB5.row).tv tp
  have hx6 := ((hx.up s05).en.tv tp).sa
  have ftw6 := hB5.ftw.tv tp
  have fbd6 := hB5.fbd.tv tp
  have fln6 := (f1.up2 (s2.trans (s3.trans (s4.trans s5)))).tv tp
  have eva6 := tp (s5 _ _ eva)
  have evb6 := tp (s5 _ _ evb)
  generalize upd H5 p (.ins c_Bend dx (putF "below" (.ref D) fs)) = H6 at *
  have F6 := hB.F.set_bl (y := D)
  have l6 := F6.len
  walk_at "v"
  refine r_f K_Bend ep6 F6.bl ?_
  walk_at "v"
  refine r_f K_Bend ep6 F6.tw ?_
  walk_at "v"
  have ldb : (ss.drop b).length = ss.length - b := List.length_drop ..
  refine ⟨.non, D, x, tw, ss.drop b, m, q, 2 * β, n, 2 * nb + 1, rfl, eD6, row_drop row6, allS_drop hB.P.all, hx6, ftw6, by walk_at "o", by walk_at "o", by walk_at "o", fun i hi => by rw [mo_drop]; exact hm _ (by walk_at "o"), .inl rfl, fun z => absurd z (by walk_at "o"), fun _ ps S H7 s7 f7 _ hall hex => ?_⟩
  have sS : SF (ss ++ [(x, m, some q)]) (2 * β) b ss.length S := sf_new (s := none) (fun _ e => by cases e) (fun _ i j _ _ z => by walk_at "o") (Nat.le_refl _) hall (by
    rcases hex with z | ⟨pk, e, _⟩
    · exact .inl z
    · cases e)
  walk_at "v"
  have ep7 := s7 _ _ ep6
  refine r_s K_Bend ep7 (by walk_at "o") ?_
  walk_at "v"
  refine r_s K_Bend upd_same (by rw [putF_len F6.s]; walk_at "o") ?_
  walk_at "v"
  refine r_f K_Bend upd_same F6.set_s.set_g.bl ?_
  walk_at "v"
  rw [upd_upd]
  have k8 : Kp (fun b => b = p ∨ b = D) H (upd H7 p (.ins c_Bend dx (putF "gentlest" .non (putF "steepest" (.ref ps) (putF "below" (.ref D) fs))))) := (k6.sm s7).upd (.inl rfl)
  have ep8 : upd H7 p (.ins c_Bend dx (putF "gentlest" .non (putF "steepest" (.ref ps) (putF "below" (.ref D) fs)))) p = some (.ins c_Bend dx (putF "gentlest" .non (putF "steepest" (.ref ps) (putF "below" (.ref D) fs)))) := upd_same
  have k78 : Kp (fun b => b = p) H7 (upd H7 p (.ins c_Bend dx (putF "gentlest" .non (putF "steepest" (.ref ps) (putF "below" (.ref D) fs))))) := (Kp.of (Same.refl _)).upd rfl
  have eD8 := k78 _ _ nDp (s7 _ _ eD6)
  have tp8 : ∀ {b : Addr} {xs : List V}, H6 b = some (.tup xs) → upd H7 p (.ins c_Bend dx (putF "gentlest" .non (putF "steepest" (.ref ps) (putF "below" (.ref D) fs)))) b = some (.tup xs) := fun e => k78 _ _ (fun z => by rw [z, ep6] at e; cases e) (s7 _ _ e)
  have f8 : QtAt (upd H7 p (.ins c_Bend dx (putF "gentlest" .non (putF "steepest" (.ref ps) (putF "below" (.ref D) fs))))) ps S (3 * n + (2 * nb + 1) + 3) := f7.tv fun {b xs} e => k78 _ _ (fun z => by rw [z, ep7] at e; cases e) e
  generalize upd H7 p (.ins c_Bend dx (putF "gentlest" .non (putF "steepest" (.ref ps) (putF "below" (.ref D) fs)))) = H8 at *
  have F8 := F6.set_s (y := .ref ps) |>.set_g (y := .non)
  refine ⟨.inl ⟨rfl, _, SqL.of eD8⟩, ?_⟩
  walk_at "v"
  refine r_app eD8 (by rw [vals_len]; exact small1000 (by walk_at "o")) ?_
  have k9 : Kp (fun b => b = p ∨ b = D) H (upd H8 D (.lst (vals (ss.drop b) ++ [.ref x]))) := k8.upd (.inr rfl)
  have ep9 : upd H8 D (.lst (vals (ss.drop b) ++ [.ref x])) p = some (.ins c_Bend dx (putF "gentlest" .non (putF "steepest" (.ref ps) (putF "below" (.ref D) fs)))) := by rw [upd_ne (Ne.symm nDp)]; exact ep8
  have eD9 : upd H8 D (.lst (vals (ss.drop b) ++ [.ref x])) D = some (.lst (vals ((ss ++ [(x, m, some q)]).drop b))) := by
    rw [upd_same, List.drop_append_of_le_length (by walk_at "o"), ← vals_snoc]
  have tp9 : ∀ {b' : Addr} {xs : List V}, H8 b' = some (.tup xs) → upd H8 D (.lst (vals (ss.drop b) ++ [.ref x])) b' = some (.tup xs) := fun e => by rw [upd_ne (fun z => by rw [z, eD8] at e; cases e)]; exact e
  generalize upd H8 D (.lst (vals (ss.drop b) ++ [.ref x])) = H9 at *
  walk_at "v"
  refine r_new (mk := .lst) (by simp) fun M H10 s10 n10 e10 => ?_
  have nM : H M = none := by
    cases g : H M with
    | none => rfl
    | some o =>
      by_cases z : M = p
      · rw [z, ep9] at n10; cases n10
      · by_cases z2 : M = D
        · rw [z2, eD9] at n10; cases n10
        · rw [k9 _ _ (fun u => by rcases u with u | u; exact z u; exact z2 u) g] at n10; cases n10
  have nMp : M ≠ p := fun z => by rw [z, hB.at_] at nM; cases nM
  have nMD : D ≠ M := fun z => by rw [← z, eD9] at n10; cases n10
  walk_at "v"
  have l8 := F8.len
  refine r_s K_Bend (s10 _ _ ep9) (by walk_at "o") ?_
  have F11 := F8.set_ab (y := M)
  have k11 : Kp (fun b => b = p ∨ b = D) H (upd H10 p (.ins c_Bend dx (putF "above" (.ref M) (putF "gentlest" .non (putF "steepest" (.ref ps) (putF "below" (.ref D) fs)))))) := (k9.sm s10).upd (.inl rfl)
  have ep11 : upd H10 p (.ins c_Bend dx (putF "above" (.ref M) (putF "gentlest" .non (putF "steepest" (.ref ps) (putF "below" (.ref D) fs))))) p = some (.ins c_Bend dx (putF "above" (.ref M) (putF "gentlest" .non (putF "steepest" (.ref ps) (putF "below" (.ref D) fs))))) := upd_same
  have k1011 : Kp (fun b => b = p) H10 (upd H10 p (.ins c_Bend dx (putF "above" (.ref M) (putF "gentlest" .non (putF "steepest" (.ref ps) (putF "below" (.ref D) fs)))))) := (Kp.of (Same.refl _)).upd rfl
  have eD11 := k1011 _ _ nDp (s10 _ _ eD9)
  have eM11 := k1011 _ _ nMp e10
  have tp11 : ∀ {b : Addr} {xs : List V}, H9 b = some (.tup xs) → upd H10 p (.ins c_Bend dx (putF "above" (.ref M) (putF "gentlest" .non (putF "steepest" (.ref ps) (putF "below" (.ref D) fs))))) b = some (.tup xs) := fun e => k1011 _ _ (fun z => by rw [z, ep9] at e; cases e) (s10 _ _ e)
  generalize upd H10 p (.ins c_Bend dx (putF "above" (.ref M) (putF "gentlest" .non (putF "steepest" (.ref ps) (putF "below" (.ref D) fs))))) = H11 at *
  have t11 : ∀ {b : Addr} {xs : List V}, H6 b = some (.tup xs) → H11 b = some (.tup xs) := fun e => tp11 (tp9 (tp8 e))
  have eva11 := t11 eva6
  have evb11 := t11 evb6
  obtain ⟨vx, evx, _⟩ := id hx6
  have evx11 := t11 evx
  walk_at "v"
  refine r_new (mk := .tup) (by simp) fun th H12 s12 n12 e12 => ?_
  walk_at "v"
  refine r_new (mk := .tup) (by simp) fun r H13 s13 n13 e13 => ?_
  have s113 := s12.trans s13
  refine k r ln th D M fo a b (some S) H13 (fun b' o e => ?_) ⟨gG, hoff, lo, hi, b1, by grind, by walk_at "o", c2, by grind, fun i hi hl z => fb i hi hl (by grind), by walk_at "o"⟩ e13 ((fln6.tv t11).up2 s113) (s13 _ _ e12) ⟨dx, bd, tw, _, .non, .ref ps, Bd0.up ⟨ep11, F11, eD11, ?_, nMD, ?_, fbd6.tv t11, ftw6.tv t11, rfl, ⟨ps, rfl, (f8.tv fun e => tp11 (tp9 e))⟩, ?_⟩ s113⟩ nD nM
  · obtain ⟨n1, n2, n3, e⟩ := rmB_of e
    refine s113 _ _ (k11 _ _ (fun z => ?_) e)
    rcases z with z | z
    · exact n1 z
    · rw [z, nD] at e; cases e
  · rw [List.drop_append_of_le_length (Nat.le_refl _), List.drop_length]
    exact eM11
  · exact (row6.tv t11).snoc (hx6.en.tv t11)
  · refine ⟨allS_new hB.P.all, rising1 ris hm, by rw [len1]; walk_at "o", by rw [len1]; walk_at "o", fun _ => by rw [len1]; walk_at "o", fun i j hi hij _ hj => ?_, sS, fun _ _ e => (by cases e), fun z => absurd z (by walk_at "o")⟩
    rw [len1] at hj
    walk_at "o"
theorem sc_Bend_ended_in_cup : FnScope ["self", "sample", "line", "first", "mid"] ["self", "sample"] (defScope s_Bend_ended_in_cup) := ⟨rfl, rfl, rfl, by decide +kernel, rfl, by decide +kernel, by decide +kernel⟩
theorem ok_Bend_ended_in_cup (F : Fun K "ended_in_cup" "Bend.ended_in_cup" s_Bend_ended_in_cup f fd) (K_Bend : Cl K mg "Bend" c_Bend ["bound", "twice", "below", "above", "gentlest", "steepest"]) (D_Bend_line_of : Dm P w K mg base 5 c_Bend "line_of" ["self", "steep"] (spLineOf c_Bend)) (D_touched : Dn P w K mg base 5 "touched" ["samples", "line", "lift"] spTouched) (D_opposite : Dn P w K mg base 1 "opposite" ["one"] spOpp) (D_gentlest_with : Dn P w K mg base 4 "gentlest_with" ["known", "earlier", "sample", "twice"] spGentle) : FnOk P w K mg base CX0 6 f fd ["self", "sample"] (spCup c_Bend) := by
  refine F.ok sc_Bend_ended_in_cup (fun vs H Q E h => ?_) (fun cdv A outer s H vs Q E hr h => ?_)
  · obtain ⟨p, Lb, La, x, ss, fl, ro, m, q, β, G, n, nb, s, rfl, _⟩ := h
    rfl
  obtain ⟨p, Lb, La, x, ss, fl, ro, m, q, β, G, n, nb, s', rfl, ⟨dx, bd, tw, fs, gv, sv, hB⟩, hx, hm, h900, h1, hn, hnb, hβ, hoff, k⟩ := h
  have h0 : 0 < ss.length := by obtain ⟨i, _, hi, _⟩ := hoff; walk_at "o"
  obtain ⟨hfl, hro⟩ := hB.P.lt h0
  obtain ⟨pg, rfl, fg⟩ := id hB.S
  obtain ⟨gG, hG⟩ := hB.P.loS rfl
  have ris := hB.P.ris
  refine Jd.go ⟨_, (Jd.pss_cons (Jd.ps_set (i := 2) sc_Bend_ended_in_cup.nd rfl (Or.inl rfl) (Jd.pe_dm D_Bend_line_of K_Bend.cl (hr.mono (by decide)) (Jd.pv 0) (Jd.pa_cons (Jd.pe_fld K (Jd.pv 0)) Jd.pa_nil) (he := (by rfl)) (hpl := any0)) (hs := sw_K))
      (Jd.pss_cons (Jd.ps_set (i := 3) sc_Bend_ended_in_cup.nd rfl (Or.inl rfl) (Jd.pe_ix (ixL K) (Jd.pe_dn D_touched (hr.mono (by decide)) rfl (Jd.pa_cons (Jd.pe_fld K (Jd.pv 0)) (Jd.pa_cons (Jd.pv 2) (Jd.pa_cons (Jd.pe_fld K (Jd.pv 0)) Jd.pa_nil) st_N)) (he := (by rfl)) (hpl := (anyc st_N (anyc (by rfl) any0)))) Jd.pe_int (fun _ _ => rfl)) (hs := sw_S))
      (Jd.pss_cons (Jd.ps_set (i := 4) sc_Bend_ended_in_cup.nd rfl (Or.inr rfl) (Jd.pe_ix (ixL K) (Jd.pe_dn D_touched (hr.mono (by decide)) rfl (Jd.pa_cons (Jd.pe_fld K (Jd.pv 0)) (Jd.pa_cons (Jd.pv 2) (Jd.pa_cons (Jd.pe_dn D_opposite (hr.mono (by decide)) rfl (Jd.pa_cons (Jd.pe_fld K (Jd.pv 0)) Jd.pa_nil) (he := (by rfl)) (hpl := any0)) Jd.pa_nil st_K) st_N)) (he := (by rfl)) (hpl := (anyc st_N (anyc st_K any0)))) (Jd.pe_un un_neg Jd.pe_int) (fun _ _ => rfl)) (hs := sw_S))
      (Jd.pss_cons (Jd.ps_fld K (Jd.pv 0) (Jd.pe_comp (O := ["other"]) (N' := ["mid"]) (cap := [4]) rfl (Jd.piL K (Jd.pe_fld K (Jd.pv 0))) (fun _ _ _ _ _ => (Jd.pg_name (i := 0) (show List.Nodup [("other" : Str), ("mid" : Str)] by decide +kernel) rfl (Or.inl rfl))) (fun _ _ _ _ _ => (Jd.pts_one (Jd.pt_cmpR op_ge (Jd.pe_ix (ixT K) (Jd.pv 0) Jd.pe_int (fun _ _ => rfl)) (Jd.pe_ix (ixT K) (Jd.pv 1) Jd.pe_int (fun _ _ => rfl)) (nomark _)))) (fun _ _ _ _ _ => (Jd.pv 0)) rfl ⟨⟨rfl, rfl, rfl, rfl⟩, trivial⟩ rfl (by decide +kernel) rfl (by decide +kernel)))
      (Jd.pss_cons (Jd.ps_fld K (Jd.pv 0) (Jd.pe_dn D_gentlest_with (hr.mono (by decide)) rfl (Jd.pa_cons Jd.pe_non (Jd.pa_cons (Jd.pe_fld K (Jd.pv 0)) (Jd.pa_cons (Jd.pv 1) (Jd.pa_cons (Jd.pe_fld K (Jd.pv 0)) Jd.pa_nil) st_N)) st_C) (he := st_C) (hpl := (anyc (by rfl) (anyc st_N (anyc (by rfl) any0))))))
      (Jd.pss_cons (Jd.ps_fld K (Jd.pv 0) Jd.pe_non)
      (Jd.pss_cons (Jd.ps_expr (Jd.appC K (Jd.pe_fld K (Jd.pv 0)) (Jd.pv 1)) (hs := sw_K))
      (Jd.pss_cons (Jd.ps_fld K (Jd.pv 0) (Jd.pe_lst (Jd.pa_cons (Jd.pv 1) Jd.pa_nil st_N)))
      (Jd.pss_one (Jd.ps_ret (Jd.pe_tup (Jd.pa_cons (Jd.pv 2) (Jd.pa_cons (Jd.pe_tup (Jd.pa_cons (Jd.pe_ix (ixT K) (Jd.pv 3) Jd.pe_int (fun _ _ => rfl)) (Jd.pa_cons (Jd.pe_ix (ixT K) (Jd.pv 4) Jd.pe_int (fun _ _ => rfl)) (Jd.pa_cons (Jd.pe_ix (ixT K) (Jd.pv 1) Jd.pe_int (fun _ _ => rfl)) Jd.pa_nil st_S) st_S) st_S)) Jd.pa_nil st_T) st_N)))))))))))), ?_⟩
  walk_at "v"
  refine r_m hB.at_ (hB.F.meth "line_of") ?_
  walk_at "v"
  refine r_f K_Bend hB.at_ hB.F.s ?_
  walk_at "v"
  refine ⟨p, Lb, La, pg, ss, fl, ro, β, G, n, nb, s', some G, rfl, ⟨dx, bd, tw, fs, gv, _, hB⟩, fg, h0, h900, hn, hnb, fun ln fo H1 s1 f1 lo ex => ?_⟩
  obtain ⟨hi, q0, p0, a1, a2, a3, a4, eq0, ep0⟩ := cup_touch hβ ris gG hG lo ex
  have hB1 := hB.up s1
  walk_at "v"
  refine r_f K_Bend hB1.at_ hB.F.bl ?_
  walk_at "v"
  refine r_f K_Bend hB1.at_ hB.F.bd ?_
  walk_at "v"
  refine ⟨Lb, ln, bd, ss.drop fl, G, fo, β, n, _, nb, rfl, hB1.eb, row_drop hB1.row, allS_drop hB.P.all, f1, hB1.fbd.qt, h1, by walk_at "o", by walk_at "o", by walk_at "o", by rw [List.length_drop]; walk_at "o", fun R3 H3 s3 n3 e3 => ?_⟩
  have hB3 := hB1.up s3
  obtain ⟨a, xa, b1, b2, ga, g0, ea⟩ := touch_first (l := β) (f := fo) a1 (by walk_at "o") (show lev ss G q0 - fo = β by grind)
  obtain ⟨xa', ga', fa⟩ := sa_at (hB3.row) hB.P.all (show a < ss.length by walk_at "o")
  rw [ga] at ga'
  cases ga'
  walk_at "v"
  refine r_l e3 (at_zero g0) ?_
  walk_at "v"
  refine r_f K_Bend hB3.at_ hB.F.ab ?_
  walk_at "v"
  refine r_f K_Bend hB3.at_ hB.F.bd ?_
  walk_at "v"
  refine ⟨bd, β, nb, rfl, hB3.fbd.qt, fun ob H2 s2 f2 => ?_⟩
  have hB2 := hB3.up s2
  walk_at "v"
  refine ⟨La, ln, ob, ss.drop ro, G, fo, -β, n, _, nb, rfl, hB2.ea, row_drop hB2.row, allS_drop hB.P.all, f1.up2 (s3.trans s2), f2, h1, by walk_at "o", by walk_at "o", by walk_at "o", by rw [List.length_drop]; walk_at "o", fun R4 H4 s4 n4 e4 => ?_⟩
  have hB4 := hB2.up s4
  have s04 := s1.trans (s3.trans (s2.trans s4))
  obtain ⟨b, xb, c1, c2, gb, g1, eb, fb⟩ := touch_last (l := -β) (f := fo) a3 a4 (show lev ss G p0 - fo = -β by grind)
  obtain ⟨xb', gb', fxb⟩ := sa_at hB4.row hB.P.all c2
  rw [gb] at gb'
  cases gb'
  obtain ⟨vb, evb, _⟩ := id fxb
  obtain ⟨va, eva, _⟩ := id (fa.up (s2.trans s4))
  have mb : xb.2.1 = mo ss b := by unfold mo; rw [gb]; rfl
  have gdb : (ss.drop ro)[b - ro]? = some xb := by rw [List.getElem?_drop, show ro + (b - ro) = b by walk_at "o"]; exact gb
  have edb : (ss.drop ro).filter (fun y => decide (xb.2.1 ≤ y.2.1)) = ss.drop b := by
    rw [drop_of (drop_rising ris) gdb, List.drop_drop, show ro + (b - ro) = b by walk_at "o"]
  walk_at "v"
  refine r_l e4 (at_neg1 g1) ?_
  walk_at "v"
  refine r_iL ?_
  walk_at "v"
  refine r_f K_Bend hB4.at_ hB.F.ab ?_
  refine ⟨La, rfl, ⟨_, SqL.of hB4.ea⟩, ?_⟩
  refine compB_of (xs := vals (ss.drop ro)) tells_list (fun H5 s5 => SqL.of (s5 _ _ hB4.ea)) (by rw [vals_len, List.length_drop]; walk_at "o") (fun i ys _ => ys = vals (((ss.drop ro).take i).filter (fun y => decide (xb.2.1 ≤ y.2.1)))) rfl ?_ ?_
  · rintro D i v ys H5 σ0 N N0 h0' hD eD s5 hv hy rfl kY kN
    obtain ⟨e, he, rfl⟩ := vals_at hv
    have hi : i < (ss.drop ro).length := (List.getElem?_eq_some_iff.mp he).1
    obtain ⟨xi, gi, ⟨vi, ei, _⟩⟩ := sa_at (row_drop (hB4.row.up s5)) (allS_drop hB.P.all) hi
    rw [he] at gi
    cases gi
    have me : mo (ss.drop ro) i = e.2.1 := by unfold mo; rw [he]; rfl
    have ts := PySem.take_succ_filter (fun y : En => decide (xb.2.1 ≤ y.2.1)) (ss.drop ro) i e he
    have evb5 := s5 _ _ evb
    refine r_own1 h0' ?_
    walk_at "v"
    cases hs : decide (xb.2.1 ≤ e.2.1) with
    | true =>
      rw [hs, if_pos rfl] at ts
      have hs' := of_decide_eq_true hs
      rw [show decide (mo ss b ≤ mo (ss.drop ro) i) = true from decide_eq_true (by rw [me, ← mb]; exact hs')]
      refine iteT ?_
      walk_at "v"
      exact kY _ H5 (Same.refl _) (by rw [ts, ← vals_snoc])
    | false =>
      rw [hs, if_neg Bool.false_ne_true, List.append_nil] at ts
      have hs' := of_decide_eq_false hs
      rw [show decide (mo ss b ≤ mo (ss.drop ro) i) = false from decide_eq_false (by rw [me, ← mb]; exact hs')]
      refine iteF ?_
      exact kN H5 (Same.refl _) (by rw [ts])
  rintro D ys H5 hD eD s5 hy rfl
  rw [vals_len, List.take_length, edb] at eD
  have hB5 := hB4.up s5
  have s05 := s04.trans s5
  have nD : H D = none := by
    cases g : H D with
    | none => rfl
    | some o => rw [s04 _ _ g] at hD; cases hD
  have nDp : D ≠ p := fun z => by rw [z, hB.at_] at nD; cases nD
  have fl0 := hB.F.len
  walk_at "v"
  refine r_s K_Bend hB5.at_ (by walk_at "o") ?_
  have kd : Kp (fun b => b = p) H5 (upd H5 p (.ins c_Bend dx (putF "above" (.ref D) fs))) := (Kp.of (Same.refl _)).upd rfl
  have ep6 : upd H5 p (.ins c_Bend dx (putF "above" (.ref D) fs)) p = some (.ins c_Bend dx (putF "above" (.ref D) fs)) := upd_same
  have k6 : Kp (fun b => b = p ∨ b = D) H (upd H5 p (.ins c_Bend dx (putF "above" (.ref D) fs))) := (Kp.of s05).upd (.inl rfl)
  have eD6 := kd _ _ nDp eD
  have tp : ∀ {b : Addr} {xs : List V}, H5 b = some (.tup xs) → upd H5 p (.ins c_Bend dx (putF "above" (.ref D) fs)) b = some (.tup xs) := fun e => kd _ _ (fun z => by rw [z, hB5.at_] at e; cases e) e
  have row6 := (hB5.row).tv tp
  have hx6 := ((hx.up s05).en.tv tp).sa
  have ftw6 := hB5.ftw.tv tp
  have fbd6 := hB5.fbd.tv tp
  have fln6 := (f1.up2 (s3.trans (s2.trans (s4.trans s5)))).tv tp
  have eva6 := tp (s5 _ _ eva)
  have evb6 := tp (s5 _ _ evb)
  generalize upd H5 p (.ins c_Bend dx (putF "above" (.ref D) fs)) = H6 at *
  have F6 := hB.F.set_ab (y := D)
  have l6 := F6.len
  walk_at "v"
  refine r_f K_Bend ep6 F6.ab ?_
  walk_at "v"
  refine r_f K_Bend ep6 F6.tw ?_
  walk_at "v"
  have ldb : (ss.drop b).length = ss.length - b := List.length_drop ..
  refine ⟨.non, D, x, tw, ss.drop b, m, q, 2 * β, n, 2 * nb + 1, rfl, eD6, row_drop row6, allS_drop hB.P.all, hx6, ftw6, by walk_at "o", by walk_at "o", by walk_at "o", fun i hi => by rw [mo_drop]; exact hm _ (by walk_at "o"), .inl rfl, fun z => absurd z (by walk_at "o"), fun _ ps S H7 s7 f7 _ hall hex => ?_⟩
  have sS : GF (ss ++ [(x, m, some q)]) (2 * β) ss.length b S := gf_new (g := none) (fun _ e => by cases e) (fun _ i j _ _ z => by walk_at "o") (Nat.le_refl _) hall (by
    rcases hex with z | ⟨pk, e, _⟩
    · exact .inl z
    · cases e)
  walk_at "v"
  have ep7 := s7 _ _ ep6
  refine r_s K_Bend ep7 (by walk_at "o") ?_
  walk_at "v"
  refine r_s K_Bend upd_same (by rw [putF_len F6.g]; walk_at "o") ?_
  walk_at "v"
  refine r_f K_Bend upd_same F6.set_g.set_s.ab ?_
  walk_at "v"
  rw [upd_upd]
  have k8 : Kp (fun b => b = p ∨ b = D) H (upd H7 p (.ins c_Bend dx (putF "steepest" .non (putF "gentlest" (.ref ps) (putF "above" (.ref D) fs))))) := (k6.sm s7).upd (.inl rfl)
  have ep8 : upd H7 p (.ins c_Bend dx (putF "steepest" .non (putF "gentlest" (.ref ps) (putF "above" (.ref D) fs)))) p = some (.ins c_Bend dx (putF "steepest" .non (putF "gentlest" (.ref ps) (putF "above" (.ref D) fs)))) := upd_same
  have k78 : Kp (fun b => b = p) H7 (upd H7 p (.ins c_Bend dx (putF "steepest" .non (putF "gentlest" (.ref ps) (putF "above" (.ref D) fs))))) := (Kp.of (Same.refl _)).upd rfl
  have eD8 := k78 _ _ nDp (s7 _ _ eD6)
  have tp8 : ∀ {b : Addr} {xs : List V}, H6 b = some (.tup xs) → upd H7 p (.ins c_Bend dx (putF "steepest" .non (putF "gentlest" (.ref ps) (putF "above" (.ref D) fs)))) b = some (.tup xs) := fun e => k78 _ _ (fun z => by rw [z, ep6] at e; cases e) (s7 _ _ e)
  have f8 : QtAt (upd H7 p (.ins c_Bend dx (putF "steepest" .non (putF "gentlest" (.ref ps) (putF "above" (.ref D) fs))))) ps S (3 * n + (2 * nb + 1) + 3) := f7.tv fun {b xs} e => k78 _ _ (fun z => by rw [z, ep7] at e; cases e) e
  generalize upd H7 p (.ins c_Bend dx (putF "steepest" .non (putF "gentlest" (.ref ps) (putF "above" (.ref D) fs)))) = H8 at *
  have F8 := F6.set_g (y := .ref ps) |>.set_s (y := .non)
  refine ⟨.inl ⟨rfl, _, SqL.of eD8⟩, ?_⟩
  walk_at "v"
  refine r_app eD8 (by rw [vals_len]; exact small1000 (by walk_at "o")) ?_
  have k9 : Kp (fun b => b = p ∨ b = D) H (upd H8 D (.lst (vals (ss.drop b) ++ [.ref x]))) := k8.upd (.inr rfl)
  have ep9 : upd H8 D (.lst (vals (ss.drop b) ++ [.ref x])) p = some (.ins c_Bend dx (putF "steepest" .non (putF "gentlest" (.ref ps) (putF "above" (.ref D) fs)))) := by rw [upd_ne (Ne.symm nDp)]; exact ep8
  have eD9 : upd H8 D (.lst (vals (ss.drop b) ++ [.ref x])) D = some (.lst (vals ((ss ++ [(x, m, some q)]).drop b))) := by
    rw [upd_same, List.drop_append_of_le_length (by walk_at "o"), ← vals_snoc]
  have tp9 : ∀ {b' : Addr} {xs : List V}, H8 b' = some (.tup xs) → upd H8 D (.lst (vals (ss.drop b) ++ [.ref x])) b' = some (.tup xs) := fun e => by rw [upd_ne (fun z => by rw [z, eD8] at e; cases e)]; exact e
  generalize upd H8 D (.lst (vals (ss.drop b) ++ [.ref x])) = H9 at *
  walk_at "v"
  refine r_new (mk := .lst) (by simp) fun M H10 s10 n10 e10 => ?_
  have nM : H M = none := by
    cases g : H M with
    | none => rfl
    | some o =>
      by_cases z : M = p
      · rw [z, ep9] at n10; cases n10
      · by_cases z2 : M = D
        · rw [z2, eD9] at n10; cases n10
        · rw [k9 _ _ (fun u => by rcases u with u | u; exact z u; exact z2 u) g] at n10; cases n10
  have nMp : M ≠ p := fun z => by rw [z, hB.at_] at nM; cases nM
  have nMD : D ≠ M := fun z => by rw [← z, eD9] at n10; cases n10
  walk_at "v"
  have l8 := F8.len
  refine r_s K_Bend (s10 _ _ ep9) (by walk_at "o") ?_
  have F11 := F8.set_bl (y := M)
  have k11 : Kp (fun b => b = p ∨ b = D) H (upd H10 p (.ins c_Bend dx (putF "below" (.ref M) (putF "steepest" .non (putF "gentlest" (.ref ps) (putF "above" (.ref D) fs)))))) := (k9.sm s10).upd (.inl rfl)
  have ep11 : upd H10 p (.ins c_Bend dx (putF "below" (.ref M) (putF "steepest" .non (putF "gentlest" (.ref ps) (putF "above" (.ref D) fs))))) p = some (.ins c_Bend dx (putF "below" (.ref M) (putF "steepest" .non (putF "gentlest" (.ref ps) (putF "above" (.ref D) fs))))) := upd_same
  have k1011 : Kp (fun b => b = p) H10 (upd H10 p (.ins c_Bend dx (putF "below" (.ref M) (putF "steepest" .non (putF "gentlest" (.ref ps) (putF "above" (.ref D) fs)))))) := (Kp.of (Same.refl _)).upd rfl
  have eD11 := k1011 _ _ nDp (s10 _ _ eD9)
  have eM11 := k1011 _ _ nMp e10
  have tp11 : ∀ {b : Addr} {xs : List V}, H9 b = some (.tup xs) → upd H10 p (.ins c_Bend dx (putF "below" (.ref M) (putF "steepest" .non (putF "gentlest" (.ref ps) (putF "above" (.ref D) fs))))) b = some (.tup xs) := fun e => k1011 _ _ (fun z => by rw [z, ep9] at e; cases e) (s10 _ _ e)
  generalize upd H10 p (.ins c_Bend dx (putF "below" (.ref M) (putF "steepest" .non (putF "gentlest" (.ref ps) (putF "above" (.ref D) fs))))) = H11 at *
  have t11 : ∀ {b : Addr} {xs : List V}, H6 b = some (.tup xs) → H11 b = some (.tup xs) := fun e => tp11 (tp9 (tp8 e))
  have eva11 := t11 eva6
  have evb11 := t11 evb6
  obtain ⟨vx, evx, _⟩ := id hx6
  have evx11 := t11 evx
  walk_at "v"
  refine r_new (mk := .tup) (by simp) fun th H12 s12 n12 e12 => ?_
  walk_at "v"
  refine r_new (mk := .tup) (by simp) fun r H13 s13 n13 e13 => ?_
  have s113 := s12.trans s13
  refine k r ln th M D fo a b (some S) H13 (fun b' o e => ?_) ⟨gG, hoff, lo, hi, b1, by grind, by walk_at "o", c2, by grind, fun i hi hl z => fb i hi hl (by grind), by walk_at "o"⟩ e13 ((fln6.tv t11).up2 s113) (s13 _ _ e12) ⟨dx, bd, tw, _, .ref ps, .non, Bd0.up ⟨ep11, F11, ?_, eD11, Ne.symm nMD, ?_, fbd6.tv t11, ftw6.tv t11, ⟨ps, rfl, (f8.tv fun e => tp11 (tp9 e))⟩, rfl, ?_⟩ s113⟩ nM nD
  · obtain ⟨n1, n2, n3, e⟩ := rmB_of e
    refine s113 _ _ (k11 _ _ (fun z => ?_) e)
    rcases z with z | z
    · exact n1 z
    · rw [z, nD] at e; cases e
  · rw [List.drop_append_of_le_length (Nat.le_refl _), List.drop_length]
    exact eM11
  · exact (row6.tv t11).snoc (hx6.en.tv t11)
  · refine ⟨allS_new hB.P.all, rising1 ris hm, by rw [len1]; walk_at "o", by rw [len1]; walk_at "o", fun _ => by rw [len1]; walk_at "o", sS, fun i j hi hij _ hj => ?_, fun _ _ _ e => (by cases e), fun z => absurd z (by walk_at "o")⟩
    rw [len1] at hj
    walk_at "o"
end

theorem BdP.none0 {ss : List En} {fl ro : Nat} {β : Rat} {g s : Option Rat} (h : BdP ss fl ro β g s) (h0 : ss.length = 0) : g = none ∧ s = none := by
  have go := h.go
  have so := h.so
  constructor
  · cases g with
    | none => rfl
    | some G =>
      obtain ⟨q, p, _, _, _, z, _⟩ := go.2
      omega
  · cases s with
    | none => rfl
    | some S =>
      obtain ⟨q, p, _, _, _, z, _⟩ := so.2
      omega
section
variable {P : Program} {w : World} {K : PySem.W.Frag} {mg : Str → Option Value} {base : Heap} {f c_Bend : Addr} {fd : FuncData}
theorem sc_Bend_take : FnScope ["self", "sample", "gentlest", "steepest"] ["self", "sample"] (defScope s_Bend_take) := ⟨rfl, rfl, rfl, by decide +kernel, rfl, by decide +kernel, by decide +kernel⟩
theorem ok_Bend_take (F : Fun K "take" "Bend.take" s_Bend_take f fd) (K_Bend : Cl K mg "Bend" c_Bend ["bound", "twice", "below", "above", "gentlest", "steepest"]) (D_gentlest_with : Dn P w K mg base 4 "gentlest_with" ["known", "earlier", "sample", "twice"] spGentle) (D_steepest_with : Dn P w K mg base 4 "steepest_with" ["known", "earlier", "sample", "twice"] spSteep) (D_is_steeper : Dn P w K mg base 2 "is_steeper" ["one", "other"] spSteeper)
    (D_Bend_ended_in_cap : Dm P w K mg base 6 c_Bend "ended_in_cap" ["self", "sample"] (spCap c_Bend)) (D_Bend_ended_in_cup : Dm P w K mg base 6 c_Bend "ended_in_cup" ["self", "sample"] (spCup c_Bend)) : FnOk P w K mg base CX0 7 f fd ["self", "sample"] (spTake c_Bend) := by
  refine F.ok sc_Bend_take (fun vs H Q E h => ?_) (fun cdv A outer s H vs Q E hr h => ?_)
  · obtain ⟨p, Lb, La, x, ss, fl, ro, m, q, β, n, nb, g, s, rfl, _⟩ := h
    rfl
  obtain ⟨p, Lb, La, x, ss, fl, ro, m, q, β, n, nb, g, s', rfl, ⟨dx, bd, tw, fs, gv, sv, hB⟩, hx, hm, h900, h1, hn, hnb, hβ, kN, kC, kU⟩ := h
  have fl0 := hB.F.len
  have hfl := hB.P.hfl
  have hro := hB.P.hro
  have lda : (ss.drop ro).length = ss.length - ro := List.length_drop ..
  have ldb : (ss.drop fl).length = ss.length - fl := List.length_drop ..
  have nbp : Lb ≠ p := fun z => by have := hB.eb; rw [z, hB.at_] at this; cases this
  have nap : La ≠ p := fun z => by have := hB.ea; rw [z, hB.at_] at this; cases this
  -- the sample is taken
  have stay : ∀ (gv' sv' : V) (g' s2 : Option Rat) (H2 : Hp), Same H H2 → OQ H2 gv' (3 * n + (2 * nb + 1) + 3) g' → OQ H2 sv' (3 * n + (2 * nb + 1) + 3) s2 → BdP (ss ++ [(x, m, some q)]) fl ro β g' s2 → NoTurn ss β fl ro g s' m q →
      Q .non (upd (upd (upd (upd H2 p (.ins c_Bend dx (putF "gentlest" gv' fs))) p (.ins c_Bend dx (putF "steepest" sv' (putF "gentlest" gv' fs)))) Lb (.lst (vals (ss.drop fl) ++ [.ref x]))) La (.lst (vals (ss.drop ro) ++ [.ref x]))) := by
    intro gv' sv' g' s2 H2 s02 og os hP hN
    rw [upd_upd]
    have hB2 := hB.up s02
    have kk : Kp (fun b => b = p ∨ b = Lb ∨ b = La) H2 (upd (upd (upd H2 p (.ins c_Bend dx (putF "steepest" sv' (putF "gentlest" gv' fs)))) Lb (.lst (vals (ss.drop fl) ++ [.ref x]))) La (.lst (vals (ss.drop ro) ++ [.ref x]))) := ((((Kp.of (Same.refl _)).upd (.inl rfl)).upd (.inr (.inl rfl))).upd (.inr (.inr rfl)))
    have tp : ∀ {b : Addr} {xs : List V}, H2 b = some (.tup xs) → upd (upd (upd H2 p (.ins c_Bend dx (putF "steepest" sv' (putF "gentlest" gv' fs)))) Lb (.lst (vals (ss.drop fl) ++ [.ref x]))) La (.lst (vals (ss.drop ro) ++ [.ref x])) b = some (.tup xs) := fun e => kk _ _ (fun z => by
      rcases z with z | z | z
      · rw [z, hB2.at_] at e; cases e
      · rw [z, hB2.eb] at e; cases e
      · rw [z, hB2.ea] at e; cases e) e
    refine kN g' s2 _ (fun b o e => ?_) hN ⟨dx, bd, tw, _, gv', sv', ?_, hB.F.set_g.set_s, ?_, ?_, hB.ne, ?_, hB2.fbd.tv tp, hB2.ftw.tv tp, og.tv tp, os.tv tp, hP⟩
    · obtain ⟨n1, n2, n3, e⟩ := rmB_of e
      exact kk _ _ (fun z => by rcases z with z | z | z; exact n1 z; exact n2 z; exact n3 z) (s02 _ _ e)
    · rw [upd_ne (Ne.symm nap), upd_ne (Ne.symm nbp), upd_same]
    · rw [upd_ne hB.ne, upd_same, List.drop_append_of_le_length hfl, ← vals_snoc]
    · rw [upd_same, List.drop_append_of_le_length hro, ← vals_snoc]
    · exact (hB2.row.tv tp).snoc ((hx.up s02).en.tv tp)
  refine Jd.go ⟨_, (Jd.pss_cons (Jd.ps_set (i := 2) sc_Bend_take.nd rfl (Or.inl rfl) (Jd.pe_dn D_gentlest_with (hr.mono (by decide)) rfl (Jd.pa_cons (Jd.pe_fld K (Jd.pv 0)) (Jd.pa_cons (Jd.pe_fld K (Jd.pv 0)) (Jd.pa_cons (Jd.pv 1) (Jd.pa_cons (Jd.pe_fld K (Jd.pv 0)) Jd.pa_nil) st_N))) (he := (by rfl)) (hpl := (anyc (by rfl) (anyc st_N (anyc (by rfl) any0))))) (hs := sw_K))
      (Jd.pss_cons (Jd.ps_set (i := 3) sc_Bend_take.nd rfl (Or.inl rfl) (Jd.pe_dn D_steepest_with (hr.mono (by decide)) rfl (Jd.pa_cons (Jd.pe_fld K (Jd.pv 0)) (Jd.pa_cons (Jd.pe_fld K (Jd.pv 0)) (Jd.pa_cons (Jd.pv 1) (Jd.pa_cons (Jd.pe_fld K (Jd.pv 0)) Jd.pa_nil) st_N))) (he := (by rfl)) (hpl := (anyc (by rfl) (anyc st_N (anyc (by rfl) any0))))) (hs := sw_K))
      (Jd.pss_cons (Jd.ps_if (Jd.pt_val (Jd.pe_dn D_is_steeper (hr.mono (by decide)) rfl (Jd.pa_cons (Jd.pe_fld K (Jd.pv 0)) (Jd.pa_cons (Jd.pv 3) Jd.pa_nil st_N)) (he := (by rfl)) (hpl := (anyc st_N any0))))
      (Jd.pss_one (Jd.ps_ret (Jd.pe_dm D_Bend_ended_in_cap K_Bend.cl (hr.mono (by decide)) (Jd.pv 0) (Jd.pa_cons (Jd.pv 1) Jd.pa_nil st_N) (he := st_N) (hpl := any0))))
      Jd.pss_nil)
      (Jd.pss_cons (Jd.ps_if (Jd.pt_val (Jd.pe_dn D_is_steeper (hr.mono (by decide)) rfl (Jd.pa_cons (Jd.pv 2) (Jd.pa_cons (Jd.pe_fld K (Jd.pv 0)) Jd.pa_nil) st_N) (he := st_N) (hpl := (anyc (by rfl) any0))))
      (Jd.pss_one (Jd.ps_ret (Jd.pe_dm D_Bend_ended_in_cup K_Bend.cl (hr.mono (by decide)) (Jd.pv 0) (Jd.pa_cons (Jd.pv 1) Jd.pa_nil st_N) (he := st_N) (hpl := any0))))
      Jd.pss_nil)
      (Jd.pss_cons (Jd.ps_fld K (Jd.pv 0) (Jd.pv 2))
      (Jd.pss_cons (Jd.ps_fld K (Jd.pv 0) (Jd.pv 3))
      (Jd.pss_cons (Jd.ps_expr (Jd.appC K (Jd.pe_fld K (Jd.pv 0)) (Jd.pv 1)) (hs := sw_K))
      (Jd.pss_cons (Jd.ps_expr (Jd.appC K (Jd.pe_fld K (Jd.pv 0)) (Jd.pv 1)) (hs := sw_K))
      (Jd.pss_one (Jd.ps_ret Jd.pe_non)))))))))), ?_⟩
  walk_at "v"
  refine r_f K_Bend hB.at_ hB.F.g ?_
  walk_at "v"
  refine r_f K_Bend hB.at_ hB.F.ab ?_
  walk_at "v"
  refine r_f K_Bend hB.at_ hB.F.tw ?_
  walk_at "v"
  by_cases h0 : ss.length = 0
  · obtain ⟨rfl, rfl⟩ := hB.P.none0 h0
    obtain rfl : gv = .non := hB.G
    obtain rfl : sv = .non := hB.S
    refine ⟨.non, La, x, tw, ss.drop ro, m, q, 2 * β, n, 2 * nb + 1, rfl, hB.ea, row_drop hB.row, allS_drop hB.P.all, hx, hB.ftw, by walk_at "o", by walk_at "o", by walk_at "o", fun i hi => by rw [mo_drop]; exact hm _ (by walk_at "o"), .inl rfl, fun _ _ H1 s1 => ?_, fun z => absurd z (by walk_at "o")⟩
    have hB1 := hB.up s1
    walk_at "v"
    refine r_f K_Bend hB1.at_ hB.F.s ?_
    walk_at "v"
    refine r_f K_Bend hB1.at_ hB.F.bl ?_
    walk_at "v"
    refine r_f K_Bend hB1.at_ hB.F.tw ?_
    walk_at "v"
    refine ⟨.non, Lb, x, tw, ss.drop fl, m, q, 2 * β, n, 2 * nb + 1, rfl, hB1.eb, row_drop hB1.row, allS_drop hB.P.all, hx.up s1, hB1.ftw, by walk_at "o", by walk_at "o", by walk_at "o", fun i hi => by rw [mo_drop]; exact hm _ (by walk_at "o"), .inl rfl, fun _ _ H2 s2 => ?_, fun z => absurd z (by walk_at "o")⟩
    have s02 := s1.trans s2
    have hB2 := hB.up s02
    walk_at "v"
    refine r_f K_Bend hB2.at_ hB.F.g ?_
    walk_at "v"
    refine ⟨.non, .non, none, none, 0, 0, rfl, rfl, rfl, by decide, fun r hr' => ?_⟩
    obtain rfl : r = false := Bool.eq_false_iff.mpr fun z => by obtain ⟨_, _, e, _⟩ := hr'.mp z; cases e
    walk_at "v"
    refine iteF ?_
    walk_at "v"
    refine r_f K_Bend hB2.at_ hB.F.s ?_
    walk_at "v"
    refine ⟨.non, .non, none, none, 0, 0, rfl, rfl, rfl, by decide, fun r hr2 => ?_⟩
    obtain rfl : r = false := Bool.eq_false_iff.mpr fun z => by obtain ⟨_, _, e, _⟩ := hr2.mp z; cases e
    walk_at "v"
    refine iteF ?_
    walk_at "v"
    refine r_s K_Bend hB2.at_ (by walk_at "o") ?_
    walk_at "v"
    refine r_s K_Bend upd_same (by rw [putF_len hB.F.g]; walk_at "o") ?_
    walk_at "v"
    refine r_f K_Bend upd_same hB.F.set_g.set_s.bl ?_
    walk_at "v"
    have eb4 : upd (upd H2 p (.ins c_Bend dx (putF "gentlest" .non fs))) p (.ins c_Bend dx (putF "steepest" .non (putF "gentlest" .non fs))) Lb = some (.lst (vals (ss.drop fl))) := by
      rw [upd_ne nbp, upd_ne nbp]
      exact hB2.eb
    refine ⟨.inl ⟨rfl, _, SqL.of eb4⟩, ?_⟩
    walk_at "v"
    refine r_app eb4 (by rw [vals_len]; exact small1000 (by walk_at "o")) ?_
    walk_at "v"
    refine r_f K_Bend (by rw [upd_ne (Ne.symm nbp)]; exact upd_same) hB.F.set_g.set_s.ab ?_
    walk_at "v"
    have ea5 : upd (upd (upd H2 p (.ins c_Bend dx (putF "gentlest" .non fs))) p (.ins c_Bend dx (putF "steepest" .non (putF "gentlest" .non fs)))) Lb (.lst (vals (ss.drop fl) ++ [.ref x])) La = some (.lst (vals (ss.drop ro))) := by
      rw [upd_ne (Ne.symm hB.ne), upd_ne nap, upd_ne nap]
      exact hB2.ea
    refine ⟨.inl ⟨rfl, _, SqL.of ea5⟩, ?_⟩
    walk_at "v"
    refine r_app ea5 (by rw [vals_len]; exact small1000 (by walk_at "o")) ?_
    walk_at "v"
    refine stay .non .non none none H2 s02 rfl rfl ?_ ⟨fun _ e => (by cases e), fun _ e => (by cases e)⟩
    refine ⟨allS_new hB.P.all, rising1 hB.P.ris hm, by rw [len1]; walk_at "o", by rw [len1]; walk_at "o", fun _ => by rw [len1]; walk_at "o", fun i j _ hij _ hj => ?_, fun i j _ hij _ hj => ?_, fun _ _ e => (by cases e), hB.P.df⟩
    · rw [len1] at hj
      walk_at "o"
    · rw [len1] at hj
      walk_at "o"
  · obtain ⟨hfl', hro'⟩ := hB.P.lt (by walk_at "o")
    refine ⟨gv, La, x, tw, ss.drop ro, m, q, 2 * β, n, 2 * nb + 1, rfl, hB.ea, row_drop hB.row, allS_drop hB.P.all, hx, hB.ftw, by walk_at "o", by walk_at "o", by walk_at "o", fun i hi => by rw [mo_drop]; exact hm _ (by walk_at "o"), ?_, fun z => absurd z (by walk_at "o"), fun _ pg G1 H1 s1 f1 hK1 hall1 hex1 => ?_⟩
    · have hG := hB.G
      cases g with
      | none => exact .inl hG
      | some G => exact let ⟨pk, e, fk⟩ := hG; .inr ⟨by walk_at "o", pk, G, e, fk⟩
    have gG : GF (ss ++ [(x, m, some q)]) (2 * β) fl ro G1 := by
      have hG := hB.G
      refine gf_new (g := g) (fun G0 e => ?_) (fun e => ?_) hfl hall1 ?_
      · rw [e] at hG
        obtain ⟨pk, e', fk⟩ := hG
        exact ⟨(hB.P.hiG e).1, hK1 pk G0 e' fk⟩
      · have go := hB.P.go
        rw [e] at go
        exact go
      · rcases hex1 with z | ⟨pk, e, fk⟩
        · exact .inl z
        · refine .inr ?_
          cases g with
          | none => rw [show gv = .non from hG] at e; cases e
          | some G0 =>
            obtain ⟨pk', e', fk'⟩ := hG
            rw [e] at e'
            cases e'
            rw [qt_eq fk fk']
    have hB1 := hB.up s1
    walk_at "v"
    refine r_f K_Bend hB1.at_ hB.F.s ?_
    walk_at "v"
    refine r_f K_Bend hB1.at_ hB.F.bl ?_
    walk_at "v"
    refine r_f K_Bend hB1.at_ hB.F.tw ?_
    walk_at "v"
    refine ⟨sv, Lb, x, tw, ss.drop fl, m, q, 2 * β, n, 2 * nb + 1, rfl, hB1.eb, row_drop hB1.row, allS_drop hB.P.all, hx.up s1, hB1.ftw, by walk_at "o", by walk_at "o", by walk_at "o", fun i hi => by rw [mo_drop]; exact hm _ (by walk_at "o"), ?_, fun z => absurd z (by walk_at "o"), fun _ ps S1 H2 s2 f2 hK2 hall2 hex2 => ?_⟩
    · have hS := hB1.S
      cases s' with
      | none => exact .inl hS
      | some S => exact let ⟨pk, e, fk⟩ := hS; .inr ⟨by walk_at "o", pk, S, e, fk⟩
    have sS : SF (ss ++ [(x, m, some q)]) (2 * β) fl ro S1 := by
      have hS := hB1.S
      refine sf_new (s := s') (fun S0 e => ?_) (fun e => ?_) hro hall2 ?_
      · rw [e] at hS
        obtain ⟨pk, e', fk⟩ := hS
        exact ⟨(hB.P.loS e).1, hK2 pk S0 e' fk⟩
      · have so := hB.P.so
        rw [e] at so
        exact so
      · rcases hex2 with z | ⟨pk, e, fk⟩
        · exact .inl z
        · refine .inr ?_
          cases s' with
          | none => rw [show sv = .non from hS] at e; cases e
          | some S0 =>
            obtain ⟨pk', e', fk'⟩ := hS
            rw [e] at e'
            cases e'
            rw [qt_eq fk fk']
    have s02 := s1.trans s2
    have hB2 := hB.up s02
    have hri := rising1 (x := x) (q := q) hB.P.ris hm
    walk_at "v"
    refine r_f K_Bend hB2.at_ hB.F.g ?_
    walk_at "v"
    refine ⟨gv, .ref ps, g, some S1, _, _, rfl, hB2.G, ⟨ps, rfl, f2⟩, by walk_at "o", fun r hr1 => ?_⟩
    walk_at "v"
    refine ite2 (fun c => ?_) (fun c => ?_)
    · obtain ⟨G, S, rfl, e2, lt⟩ := hr1.mp c
      cases e2
      walk_at "v"
      refine r_m hB2.at_ (hB.F.meth "ended_in_cap") ?_
      walk_at "v"
      refine ⟨p, Lb, La, x, ss, fl, ro, m, q, β, G, n, nb, s', rfl, ⟨dx, bd, tw, fs, gv, sv, hB2⟩, hx.up s02, hm, h900, h1, hn, hnb, hβ, (cap_iff hri sS (hB.P.hiG rfl).2 hro).mp lt, fun r ln th Lb' La' fo a b s2' H' k1 k2 k3 k4 k5 k6 k7 k8 => ?_⟩
      refine kC r ln th Lb' La' G fo a b s2' H' (fun b' o e => k1 _ _ ?_) rfl k2 k3 k4 k5 k6 (s02.free k7) (s02.free k8)
      obtain ⟨n1, n2, n3, e⟩ := rmB_of e
      rw [rmB_at n1 n2 n3]
      exact s02 _ _ e
    · have nc : ¬ ∃ G S, g = some G ∧ some S1 = some S ∧ S < G := fun z => c (hr1.mpr z)
      have ncap : ¬ ∃ G, g = some G ∧ ∃ i, fl ≤ i ∧ i < ss.length ∧ q - G * (m : Rat) + 2 * β < lev ss G i := fun ⟨G, e, z⟩ => nc ⟨G, S1, e, rfl, (cap_iff hri sS (hB.P.hiG e).2 hro).mpr z⟩
      walk_at "v"
      refine r_f K_Bend hB2.at_ hB.F.s ?_
      walk_at "v"
      refine ⟨.ref pg, sv, some G1, s', _, _, rfl, ⟨pg, rfl, f1.up s2⟩, hB2.S, by walk_at "o", fun r2 hr2 => ?_⟩
      walk_at "v"
      refine ite2 (fun c2 => ?_) (fun c2 => ?_)
      · obtain ⟨G, S, e1, rfl, lt⟩ := hr2.mp c2
        cases e1
        walk_at "v"
        refine r_m hB2.at_ (hB.F.meth "ended_in_cup") ?_
        walk_at "v"
        refine ⟨p, Lb, La, x, ss, fl, ro, m, q, β, S, n, nb, g, rfl, ⟨dx, bd, tw, fs, gv, sv, hB2⟩, hx.up s02, hm, h900, h1, hn, hnb, hβ, (cup_iff hri gG (hB.P.loS rfl).2 hfl).mp lt, fun r ln th Lb' La' fo a b s2' H' k1 k2 k3 k4 k5 k6 k7 k8 => ?_⟩
        refine kU r ln th Lb' La' S fo a b s2' H' (fun b' o e => k1 _ _ ?_) rfl ncap k2 k3 k4 k5 k6 (s02.free k7) (s02.free k8)
        obtain ⟨n1, n2, n3, e⟩ := rmB_of e
        rw [rmB_at n1 n2 n3]
        exact s02 _ _ e
      · have nu : ¬ ∃ G S, some G1 = some G ∧ s' = some S ∧ S < G := fun z => c2 (hr2.mpr z)
        obtain ⟨hP, hN⟩ := hB.P.next hβ hm gG sS nc nu
        walk_at "v"
        refine r_s K_Bend hB2.at_ (by walk_at "o") ?_
        walk_at "v"
        refine r_s K_Bend upd_same (by rw [putF_len hB.F.g]; walk_at "o") ?_
        walk_at "v"
        refine r_f K_Bend upd_same hB.F.set_g.set_s.bl ?_
        walk_at "v"
        have eb4 : upd (upd H2 p (.ins c_Bend dx (putF "gentlest" (.ref pg) fs))) p (.ins c_Bend dx (putF "steepest" (.ref ps) (putF "gentlest" (.ref pg) fs))) Lb = some (.lst (vals (ss.drop fl))) := by
          rw [upd_ne nbp, upd_ne nbp]
          exact hB2.eb
        refine ⟨.inl ⟨rfl, _, SqL.of eb4⟩, ?_⟩
        walk_at "v"
        refine r_app eb4 (by rw [vals_len]; exact small1000 (by walk_at "o")) ?_
        walk_at "v"
        refine r_f K_Bend (by rw [upd_ne (Ne.symm nbp)]; exact upd_same) hB.F.set_g.set_s.ab ?_
        walk_at "v"
        have ea5 : upd (upd (upd H2 p (.ins c_Bend dx (putF "gentlest" (.ref pg) fs))) p (.ins c_Bend dx (putF "steepest" (.ref ps) (putF "gentlest" (.ref pg) fs)))) Lb (.lst (vals (ss.drop fl) ++ [.ref x])) La = some (.lst (vals (ss.drop ro))) := by
          rw [upd_ne (Ne.symm hB.ne), upd_ne nap, upd_ne nap]
          exact hB2.ea
        refine ⟨.inl ⟨rfl, _, SqL.of ea5⟩, ?_⟩
        walk_at "v"
        refine r_app ea5 (by rw [vals_len]; exact small1000 (by walk_at "o")) ?_
        walk_at "v"
        exact stay (.ref pg) (.ref ps) (some G1) (some S1) H2 s02 ⟨pg, rfl, f1.up s2⟩ ⟨ps, rfl, f2⟩ hP hN
theorem sc_Bend_lowest_room : FnScope ["self", "moment", "lines"] ["self", "moment"] (defScope s_Bend_lowest_room) := ⟨rfl, rfl, rfl, by decide +kernel, rfl, by decide +kernel, by decide +kernel⟩
theorem ok_Bend_lowest_room (F : Fun K "lowest_room" "Bend.lowest_room" s_Bend_lowest_room f fd) (K_Bend : Cl K mg "Bend" c_Bend ["bound", "twice", "below", "above", "gentlest", "steepest"]) (D_reduced : Dn P w K mg base 4 "reduced" ["quotient"] spReduced) (D_loose_along : Dn P w K mg base 3 "loose_along" ["steep", "sample", "moment"] spLalong) (D_loose_minus : Dn P w K mg base 1 "loose_minus" ["one", "other"] (spTwo (· - ·) 1)) (D_greatest : Dn P w K mg base 2 "greatest" ["quotients"] spGreat) : FnOk P w K mg base CX0 5 f fd ["self", "moment"] (spRoomL c_Bend) := by
  refine F.ok sc_Bend_lowest_room (fun vs H Q E h => ?_) (fun cdv A outer s H vs Q E hr h => ?_)
  · obtain ⟨p, Lb, La, ss, fl, ro, β, n, nb, g, s, u, rfl, _⟩ := h
    rfl
  obtain ⟨p, Lb, La, ss, fl, ro, β, n, nb, g, s', u, rfl, ⟨dx, bd, tw, fs, gv, sv, hB⟩, zu, h900, hn, hnb, k⟩ := h
  refine Jd.go ⟨_, (Jd.pss_cons (Jd.ps_if (Jd.pt_cmpR op_isN (Jd.pe_fld K (Jd.pv 0)) Jd.pe_non (nomark _))
      (Jd.pss_one (Jd.ps_ret Jd.pe_non))
      Jd.pss_nil)
      (Jd.pss_cons (Jd.ps_comp (O := ["sample"]) (N' := ["moment", "self"]) (cap := [1, 0]) (i := 2) sc_Bend_lowest_room.nd rfl (Or.inl rfl) rfl (Jd.piL K (Jd.pe_fld K (Jd.pv 0))) (fun _ _ _ _ _ => (Jd.pg_name (i := 0) (show List.Nodup [("sample" : Str), ("moment" : Str), ("self" : Str)] by decide +kernel) rfl (Or.inl rfl))) (fun _ _ _ _ _ => Jd.pts_nil) (fun _ _ _ _ _ => (Jd.pe_dn D_loose_along (hr.mono (by decide)) rfl (Jd.pa_cons (Jd.pe_fld K (Jd.pv 2)) (Jd.pa_cons (Jd.pv 0) (Jd.pa_cons (Jd.pv 1) Jd.pa_nil st_N) st_N)) (he := (by rfl)) (hpl := (anyc st_N (anyc st_N any0))))) rfl ⟨⟨rfl, rfl, rfl, rfl⟩, ⟨⟨rfl, rfl, rfl, rfl⟩, trivial⟩⟩ rfl (by decide +kernel) rfl (by decide +kernel) (by rfl))
      (Jd.pss_one (Jd.ps_ret (Jd.pe_dn D_reduced (hr.mono (by decide)) rfl (Jd.pa_cons (Jd.pe_dn D_loose_minus (hr.mono (by decide)) rfl (Jd.pa_cons (Jd.pe_dn D_greatest (hr.mono (by decide)) rfl (Jd.pa_cons (Jd.pv 2) Jd.pa_nil st_N) (he := st_N) (hpl := any0)) (Jd.pa_cons (Jd.pe_fld K (Jd.pv 0)) Jd.pa_nil) st_K) (he := st_K) (hpl := (anyc (by rfl) any0))) Jd.pa_nil st_K) (he := st_K) (hpl := any0)))))), ?_⟩
  walk_at "v"
  refine r_f K_Bend hB.at_ hB.F.g ?_
  cases g with
  | none =>
    obtain rfl : gv = .non := hB.G
    walk_at "v"
    refine ⟨rfl, ?_⟩
    walk_at "v"
    refine iteT ?_
    walk_at "v"
    exact k .non none H (Same.refl _) rfl rfl
  | some G =>
    obtain ⟨pg, rfl, fg⟩ := id hB.G
    obtain ⟨gG, _⟩ := hB.P.hiG rfl
    have h0 : 0 < ss.length := by obtain ⟨q, p, _, _, _, z, _⟩ := gG.2; walk_at "o"
    have hlt := (hB.P.lt h0).1
    have ld : (ss.drop fl).length = ss.length - fl := List.length_drop ..
    walk_at "v"
    refine ⟨rfl, ?_⟩
    walk_at "v"
    refine iteF ?_
    walk_at "v"
    refine r_iL ?_
    walk_at "v"
    refine r_f K_Bend hB.at_ hB.F.bl ?_
    refine ⟨Lb, rfl, ⟨_, SqL.of hB.eb⟩, ?_⟩
    refine compB_of (xs := vals (ss.drop fl)) tells_list (fun H3 s3 => SqL.of (s3 _ _ hB.eb)) (by rw [vals_len]; walk_at "o") (fun i ys G' => ∃ rs : Qs, ys = qrefs rs ∧ AllQ G' rs (5 * n + 2 * nb + 6) ∧ rs.map (·.2) = (List.range i).map (fun j => lev (ss.drop fl) G j + G * (u : Rat))) ⟨[], rfl, fun z hz => absurd hz (by simp), rfl⟩ ?_ ?_
    · rintro D i v ys H3 σ0 N N0 h0' hD eD s3 hv hy ⟨rs, rfl, hrs, hmap⟩ kY kN
      obtain ⟨e, he, rfl⟩ := vals_at hv
      have hi : i < (ss.drop fl).length := (List.getElem?_eq_some_iff.mp he).1
      obtain ⟨xi, gi, fi⟩ := sa_at (row_drop (hB.row.up s3)) (allS_drop hB.P.all) hi
      rw [he] at gi
      cases gi
      refine r_own1 h0' ?_
      walk_at "v"
      refine iteT ?_
      walk_at "v"
      refine r_f K_Bend (s3 _ _ hB.at_) hB.F.g ?_
      walk_at "v"
      refine ⟨pg, e.1, G, _, _, u, _, n, rfl, fg.up s3, fi, zu, by walk_at "o", by walk_at "o", fun x H4 s4 f4 => ?_⟩
      refine kY _ H4 s4 ⟨rs ++ [(x, lev (ss.drop fl) G i + G * (u : Rat))], by simp [qrefs], fun y hy' => ?_, ?_⟩
      · rcases List.mem_append.mp hy' with w | w
        · exact (hrs y w).up (rm_rm s4)
        · obtain rfl : y = (x, lev (ss.drop fl) G i + G * (u : Rat)) := by simpa using w
          have e1 : wo (ss.drop fl) i + G * ((u - mo (ss.drop fl) i : Int) : Rat) = lev (ss.drop fl) G i + G * (u : Rat) := by
            unfold lev
            rw [Rat.intCast_sub]
            grind
          rw [e1] at f4
          obtain ⟨t, d, e', ff⟩ := f4.mono (show 3 * n + (2 * nb + 1) + 3 + 2 * n + 2 ≤ 5 * n + 2 * nb + 6 by walk_at "o")
          exact ⟨t, d, rm_tup (s4 _ _ eD) e', ff⟩
      · rw [List.map_append, hmap, List.range_succ, List.map_append]
        rfl
    rintro D ys H3 hD eD s3 hy ⟨rs, rfl, hrs, hmap⟩
    rw [vals_len] at hmap
    have hlen : rs.length = (ss.drop fl).length := by
      have := congrArg List.length hmap
      simpa using this
    obtain ⟨inR, ofR⟩ := in_of hmap
    walk_at "v"
    refine ⟨D, rs, 5 * n + 2 * nb + 6, rfl, eD, fun x hx => (hrs x hx).up rm_same, by walk_at "o", by walk_at "o", fun mx hmx hmax => ?_⟩
    walk_at "v"
    refine r_f K_Bend (s3 _ _ hB.at_) hB.F.tw ?_
    walk_at "v"
    refine ⟨mx.1, tw, mx.2, 2 * β, _, _, rfl, (hrs mx hmx).up rm_same, hB.ftw.up s3, by walk_at "o", fun x4 H4 s4 f4 => ?_⟩
    walk_at "v"
    refine ⟨x4, _, _, rfl, f4, by walk_at "o", fun r5 H5 s5 f5 => ?_⟩
    walk_at "v"
    refine k (.ref r5) (some (mx.2 - 2 * β)) H5 (s3.trans (s4.trans s5)) ⟨r5, rfl, f5.mono (by walk_at "o")⟩ ⟨G, rfl, fun i hi hl => ?_, ?_⟩
    · obtain ⟨x, hx, e⟩ := inR (i - fl) (by walk_at "o")
      have := hmax x hx
      rw [e, lev_drop, show fl + (i - fl) = i by walk_at "o"] at this
      grind
    · obtain ⟨i, hi, e⟩ := ofR mx hmx
      exact ⟨fl + i, by walk_at "o", by walk_at "o", by rw [← lev_drop, e]⟩
theorem sc_Bend_highest_room : FnScope ["self", "moment", "lines"] ["self", "moment"] (defScope s_Bend_highest_room) := ⟨rfl, rfl, rfl, by decide +kernel, rfl, by decide +kernel, by decide +kernel⟩
theorem ok_Bend_highest_room (F : Fun K "highest_room" "Bend.highest_room" s_Bend_highest_room f fd) (K_Bend : Cl K mg "Bend" c_Bend ["bound", "twice", "below", "above", "gentlest", "steepest"]) (D_reduced : Dn P w K mg base 4 "reduced" ["quotient"] spReduced) (D_loose_along : Dn P w K mg base 3 "loose_along" ["steep", "sample", "moment"] spLalong) (D_loose_plus : Dn P w K mg base 1 "loose_plus" ["one", "other"] (spTwo (· + ·) 1)) (D_smallest : Dn P w K mg base 2 "smallest" ["quotients"] spSmall) : FnOk P w K mg base CX0 5 f fd ["self", "moment"] (spRoomU c_Bend) := by
  refine F.ok sc_Bend_highest_room (fun vs H Q E h => ?_) (fun cdv A outer s H vs Q E hr h => ?_)
  · obtain ⟨p, Lb, La, ss, fl, ro, β, n, nb, g, s, u, rfl, _⟩ := h
    rfl
  obtain ⟨p, Lb, La, ss, fl, ro, β, n, nb, g, s', u, rfl, ⟨dx, bd, tw, fs, gv, sv, hB⟩, zu, h900, hn, hnb, k⟩ := h
  refine Jd.go ⟨_, (Jd.pss_cons (Jd.ps_if (Jd.pt_cmpR op_isN (Jd.pe_fld K (Jd.pv 0)) Jd.pe_non (nomark _))
      (Jd.pss_one (Jd.ps_ret Jd.pe_non))
      Jd.pss_nil)
      (Jd.pss_cons (Jd.ps_comp (O := ["sample"]) (N' := ["moment", "self"]) (cap := [1, 0]) (i := 2) sc_Bend_highest_room.nd rfl (Or.inl rfl) rfl (Jd.piL K (Jd.pe_fld K (Jd.pv 0))) (fun _ _ _ _ _ => (Jd.pg_name (i := 0) (show List.Nodup [("sample" : Str), ("moment" : Str), ("self" : Str)] by decide +kernel) rfl (Or.inl rfl))) (fun _ _ _ _ _ => Jd.pts_nil) (fun _ _ _ _ _ => (Jd.pe_dn D_loose_along (hr.mono (by decide)) rfl (Jd.pa_cons (Jd.pe_fld K (Jd.pv 2)) (Jd.pa_cons (Jd.pv 0) (Jd.pa_cons (Jd.pv 1) Jd.pa_nil st_N) st_N)) (he := (by rfl)) (hpl := (anyc st_N (anyc st_N any0))))) rfl ⟨⟨rfl, rfl, rfl, rfl⟩, ⟨⟨rfl, rfl, rfl, rfl⟩, trivial⟩⟩ rfl (by decide +kernel) rfl (by decide +kernel) (by rfl))
      (Jd.pss_one (Jd.ps_ret (Jd.pe_dn D_reduced (hr.mono (by decide)) rfl (Jd.pa_cons (Jd.pe_dn D_loose_plus (hr.mono (by decide)) rfl (Jd.pa_cons (Jd.pe_dn D_smallest (hr.mono (by decide)) rfl (Jd.pa_cons (Jd.pv 2) Jd.pa_nil st_N) (he := st_N) (hpl := any0)) (Jd.pa_cons (Jd.pe_fld K (Jd.pv 0)) Jd.pa_nil) st_K) (he := st_K) (hpl := (anyc (by rfl) any0))) Jd.pa_nil st_K) (he := st_K) (hpl := any0)))))), ?_⟩
  walk_at "v"
  refine r_f K_Bend hB.at_ hB.F.s ?_
  cases s' with
  | none =>
    obtain rfl : sv = .non := hB.S
    walk_at "v"
    refine ⟨rfl, ?_⟩
    walk_at "v"
    refine iteT ?_
    walk_at "v"
    exact k .non none H (Same.refl _) rfl rfl
  | some G =>
    obtain ⟨pg, rfl, fg⟩ := id hB.S
    obtain ⟨gG, _⟩ := hB.P.loS rfl
    have h0 : 0 < ss.length := by obtain ⟨q, p, _, _, _, z, _⟩ := gG.2; walk_at "o"
    have hlt := (hB.P.lt h0).2
    have ld : (ss.drop ro).length = ss.length - ro := List.length_drop ..
    walk_at "v"
    refine ⟨rfl, ?_⟩
    walk_at "v"
    refine iteF ?_
    walk_at "v"
    refine r_iL ?_
    walk_at "v"
    refine r_f K_Bend hB.at_ hB.F.ab ?_
    refine ⟨La, rfl, ⟨_, SqL.of hB.ea⟩, ?_⟩
    refine compB_of (xs := vals (ss.drop ro)) tells_list (fun H3 s3 => SqL.of (s3 _ _ hB.ea)) (by rw [vals_len]; walk_at "o") (fun i ys G' => ∃ rs : Qs, ys = qrefs rs ∧ AllQ G' rs (5 * n + 2 * nb + 6) ∧ rs.map (·.2) = (List.range i).map (fun j => lev (ss.drop ro) G j + G * (u : Rat))) ⟨[], rfl, fun z hz => absurd hz (by simp), rfl⟩ ?_ ?_
    · rintro D i v ys H3 σ0 N N0 h0' hD eD s3 hv hy ⟨rs, rfl, hrs, hmap⟩ kY kN
      obtain ⟨e, he, rfl⟩ := vals_at hv
      have hi : i < (ss.drop ro).length := (List.getElem?_eq_some_iff.mp he).1
      obtain ⟨xi, gi, fi⟩ := sa_at (row_drop (hB.row.up s3)) (allS_drop hB.P.all) hi
      rw [he] at gi
      cases gi
      refine r_own1 h0' ?_
      walk_at "v"
      refine iteT ?_
      walk_at "v"
      refine r_f K_Bend (s3 _ _ hB.at_) hB.F.s ?_
      walk_at "v"
      refine ⟨pg, e.1, G, _, _, u, _, n, rfl, fg.up s3, fi, zu, by walk_at "o", by walk_at "o", fun x H4 s4 f4 => ?_⟩
      refine kY _ H4 s4 ⟨rs ++ [(x, lev (ss.drop ro) G i + G * (u : Rat))], by simp [qrefs], fun y hy' => ?_, ?_⟩
      · rcases List.mem_append.mp hy' with w | w
        · exact (hrs y w).up (rm_rm s4)
        · obtain rfl : y = (x, lev (ss.drop ro) G i + G * (u : Rat)) := by simpa using w
          have e1 : wo (ss.drop ro) i + G * ((u - mo (ss.drop ro) i : Int) : Rat) = lev (ss.drop ro) G i + G * (u : Rat) := by
            unfold lev
            rw [Rat.intCast_sub]
            grind
          rw [e1] at f4
          obtain ⟨t, d, e', ff⟩ := f4.mono (show 3 * n + (2 * nb + 1) + 3 + 2 * n + 2 ≤ 5 * n + 2 * nb + 6 by walk_at "o")
          exact ⟨t, d, rm_tup (s4 _ _ eD) e', ff⟩
      · rw [List.map_append, hmap, List.range_succ, List.map_append]
        rfl
    rintro D ys H3 hD eD s3 hy ⟨rs, rfl, hrs, hmap⟩
    rw [vals_len] at hmap
    have hlen : rs.length = (ss.drop ro).length := by
      have := congrArg List.length hmap
      simpa using this
    obtain ⟨inR, ofR⟩ := in_of hmap
    walk_at "v"
    refine ⟨D, rs, 5 * n + 2 * nb + 6, rfl, eD, fun x hx => (hrs x hx).up rm_same, by walk_at "o", by walk_at "o", fun mx hmx hmax => ?_⟩
    walk_at "v"
    refine r_f K_Bend (s3 _ _ hB.at_) hB.F.tw ?_
    walk_at "v"
    refine ⟨mx.1, tw, mx.2, 2 * β, _, _, rfl, (hrs mx hmx).up rm_same, hB.ftw.up s3, by walk_at "o", fun x4 H4 s4 f4 => ?_⟩
    walk_at "v"
    refine ⟨x4, _, _, rfl, f4, by walk_at "o", fun r5 H5 s5 f5 => ?_⟩
    walk_at "v"
    refine k (.ref r5) (some (mx.2 + 2 * β)) H5 (s3.trans (s4.trans s5)) ⟨r5, rfl, f5.mono (by walk_at "o")⟩ ⟨G, rfl, fun i hi hl => ?_, ?_⟩
    · obtain ⟨x, hx, e⟩ := inR (i - ro) (by walk_at "o")
      have := hmax x hx
      rw [e, lev_drop, show ro + (i - ro) = i by walk_at "o"] at this
      grind
    · obtain ⟨i, hi, e⟩ := ofR mx hmx
      exact ⟨ro + i, by walk_at "o", by walk_at "o", by rw [← lev_drop, e]⟩
theorem sc_Bend_room : FnScope ["self", "moment"] ["self", "moment"] (defScope s_Bend_room) := ⟨rfl, rfl, rfl, by decide +kernel, rfl, by decide +kernel, by decide +kernel⟩
theorem ok_Bend_room (F : Fun K "room" "Bend.room" s_Bend_room f fd) (K_Bend : Cl K mg "Bend" c_Bend ["bound", "twice", "below", "above", "gentlest", "steepest"]) (D_Bend_lowest_room : Dm P w K mg base 5 c_Bend "lowest_room" ["self", "moment"] (spRoomL c_Bend)) (D_Bend_highest_room : Dm P w K mg base 5 c_Bend "highest_room" ["self", "moment"] (spRoomU c_Bend)) : FnOk P w K mg base CX0 6 f fd ["self", "moment"] (spRoomB c_Bend) := by
  refine F.ok sc_Bend_room (fun vs H Q E h => ?_) (fun cdv A outer s H vs Q E hr h => ?_)
  · obtain ⟨p, Lb, La, ss, fl, ro, β, n, nb, g, s, u, rfl, _⟩ := h
    rfl
  obtain ⟨p, Lb, La, ss, fl, ro, β, n, nb, g, s', u, rfl, ⟨dx, bd, tw, fs, gv, sv, hB⟩, zu, h900, hn, hnb, k⟩ := h
  refine Jd.go ⟨_, (Jd.pss_one (Jd.ps_ret (Jd.pe_tup (Jd.pa_cons (Jd.pe_dm D_Bend_lowest_room K_Bend.cl (hr.mono (by decide)) (Jd.pv 0) (Jd.pa_cons (Jd.pv 1) Jd.pa_nil st_N) (he := st_N) (hpl := any0)) (Jd.pa_cons (Jd.pe_dm D_Bend_highest_room K_Bend.cl (hr.mono (by decide)) (Jd.pv 0) (Jd.pa_cons (Jd.pv 1) Jd.pa_nil st_N) (he := st_N) (hpl := any0)) Jd.pa_nil st_K) st_K)))), ?_⟩
  walk_at "v"
  refine r_m hB.at_ (hB.F.meth "lowest_room") ?_
  walk_at "v"
  refine ⟨p, Lb, La, ss, fl, ro, β, n, nb, g, s', u, rfl, ⟨dx, bd, tw, fs, gv, sv, hB⟩, zu, h900, hn, hnb, fun v1 e1 H1 s1 o1 l1 => ?_⟩
  walk_at "v"
  refine r_m (s1 _ _ hB.at_) (hB.F.meth "highest_room") ?_
  walk_at "v"
  refine ⟨p, Lb, La, ss, fl, ro, β, n, nb, g, s', u, rfl, ⟨dx, bd, tw, fs, gv, sv, hB.up s1⟩, zu, h900, hn, hnb, fun v2 e2 H2 s2 o2 l2 => ?_⟩
  walk_at "v"
  refine r_new (mk := .tup) (by simp) fun y H3 s3 n3 e3 => ?_
  exact k y v1 v2 e1 e2 H3 (s1.trans (s2.trans s3)) e3 (o1.up (s2.trans s3)) (o2.up s3) l1 l2
theorem sc_Bend_line_now : FnScope ["self"] ["self"] (defScope s_Bend_line_now) := ⟨rfl, rfl, rfl, by decide +kernel, rfl, by decide +kernel, by decide +kernel⟩
theorem ok_Bend_line_now (F : Fun K "line_now" "Bend.line_now" s_Bend_line_now f fd) (T : Txt mg) (K_Bend : Cl K mg "Bend" c_Bend ["bound", "twice", "below", "above", "gentlest", "steepest"]) (D_line_by : Dn P w K mg base 5 "line_by" ["steep", "sample"] spLineBy) (D_Bend_line_of : Dm P w K mg base 5 c_Bend "line_of" ["self", "steep"] (spLineOf c_Bend)) : FnOk P w K mg base CX0 6 f fd ["self"] (spNow c_Bend) := by
  refine F.ok sc_Bend_line_now (fun vs H Q E h => ?_) (fun cdv A outer s H vs Q E hr h => ?_)
  · obtain ⟨p, Lb, La, ss, fl, ro, β, n, nb, g, s, rfl, _⟩ := h
    rfl
  obtain ⟨p, Lb, La, ss, fl, ro, β, n, nb, g, s', rfl, ⟨dx, bd, tw, fs, gv, sv, hB⟩, h900, h1, hn, hnb, k0, k1⟩ := h
  have ld : (ss.drop fl).length = ss.length - fl := List.length_drop ..
  refine Jd.go ⟨_, (Jd.pss_cons (Jd.ps_if (Jd.pt_cmpR op_eq (Jd.pe_callB (lenC K) rfl T.len_ PySem.boot_len (Jd.pa_cons (Jd.pe_fld K (Jd.pv 0)) Jd.pa_nil) (he := (by rfl)) (hpl := any0)) Jd.pe_int (nomark _))
      (Jd.pss_one (Jd.ps_ret Jd.pe_non))
      Jd.pss_nil)
      (Jd.pss_cons (Jd.ps_if (Jd.pt_cmpR op_notN (Jd.pe_fld K (Jd.pv 0)) Jd.pe_non (nomark _))
      (Jd.pss_one (Jd.ps_ret (Jd.pe_dm D_Bend_line_of K_Bend.cl (hr.mono (by decide)) (Jd.pv 0) (Jd.pa_cons (Jd.pe_fld K (Jd.pv 0)) Jd.pa_nil) (he := (by rfl)) (hpl := any0))))
      Jd.pss_nil)
      (Jd.pss_cons (Jd.ps_if (Jd.pt_cmpR op_notN (Jd.pe_fld K (Jd.pv 0)) Jd.pe_non (nomark _))
      (Jd.pss_one (Jd.ps_ret (Jd.pe_dm D_Bend_line_of K_Bend.cl (hr.mono (by decide)) (Jd.pv 0) (Jd.pa_cons (Jd.pe_fld K (Jd.pv 0)) Jd.pa_nil) (he := (by rfl)) (hpl := any0))))
      Jd.pss_nil)
      (Jd.pss_one (Jd.ps_ret (Jd.pe_dn D_line_by (hr.mono (by decide)) rfl (Jd.pa_cons (Jd.pe_tup (Jd.pa_cons Jd.pe_int (Jd.pa_cons Jd.pe_int Jd.pa_nil st_C) st_C)) (Jd.pa_cons (Jd.pe_ix (ixL K) (Jd.pe_fld K (Jd.pv 0)) Jd.pe_int (fun _ _ => rfl)) Jd.pa_nil st_S) st_T) (he := st_T) (hpl := (anyc st_S any0)))))))), ?_⟩
  walk_at "v"
  refine r_f K_Bend hB.at_ hB.F.bl ?_
  walk_at "v"
  refine r_len (.inl (SqL.of hB.eb)) ?_
  rw [vals_len]
  walk_at "v"
  refine ite2 (fun c => ?_) (fun c => ?_)
  · have c' := of_decide_eq_true c
    walk_at "v"
    refine k0 (List.length_eq_zero_iff.mp ?_)
    by_cases z : 0 < ss.length
    · have := (hB.P.lt z).1
      walk_at "o"
    · walk_at "o"
  · have c' := of_decide_eq_false (Bool.eq_false_iff.mpr c)
    have h0 : 0 < ss.length := by walk_at "o"
    obtain ⟨hfl, hro⟩ := hB.P.lt h0
    walk_at "v"
    refine r_f K_Bend hB.at_ hB.F.g ?_
    cases g with
    | some G =>
      obtain ⟨pg, rfl, fg⟩ := id hB.G
      walk_at "v"
      refine ⟨rfl, ?_⟩
      walk_at "v"
      refine iteT ?_
      walk_at "v"
      refine r_m hB.at_ (hB.F.meth "line_of") ?_
      walk_at "v"
      refine r_f K_Bend hB.at_ hB.F.g ?_
      walk_at "v"
      refine ⟨p, Lb, La, pg, ss, fl, ro, β, G, n, nb, some G, s', rfl, ⟨dx, bd, tw, fs, _, sv, hB⟩, fg, h0, h900, hn, hnb, fun ln fo H1 s1 f1 lo ex => ?_⟩
      exact k1 h0 ln G fo H1 s1 f1 (.inl ⟨.inl rfl, lo, ex⟩)
    | none =>
      obtain rfl : gv = .non := hB.G
      walk_at "v"
      refine ⟨rfl, ?_⟩
      walk_at "v"
      refine iteF ?_
      walk_at "v"
      refine r_f K_Bend hB.at_ hB.F.s ?_
      cases s' with
      | some S =>
        obtain ⟨pg, rfl, fg⟩ := id hB.S
        walk_at "v"
        refine ⟨rfl, ?_⟩
        walk_at "v"
        refine iteT ?_
        walk_at "v"
        refine r_m hB.at_ (hB.F.meth "line_of") ?_
        walk_at "v"
        refine r_f K_Bend hB.at_ hB.F.s ?_
        walk_at "v"
        refine ⟨p, Lb, La, pg, ss, fl, ro, β, S, n, nb, none, some S, rfl, ⟨dx, bd, tw, fs, _, _, hB⟩, fg, h0, h900, hn, hnb, fun ln fo H1 s1 f1 lo ex => ?_⟩
        exact k1 h0 ln S fo H1 s1 f1 (.inl ⟨.inr ⟨rfl, rfl⟩, lo, ex⟩)
      | none =>
        obtain rfl : sv = .non := hB.S
        walk_at "v"
        refine ⟨rfl, ?_⟩
        walk_at "v"
        refine iteF ?_
        walk_at "v"
        refine r_new (mk := .tup) (by simp) fun z1 H1 s1 n1 e1 => ?_
        have hB1 := hB.up s1
        obtain ⟨xa, ga, fa⟩ := sa_at hB1.row hB.P.all hfl
        walk_at "v"
        refine r_f K_Bend hB1.at_ hB.F.bl ?_
        walk_at "v"
        refine r_l hB1.eb (at_zero (x := xa) (by rw [List.getElem?_drop, Nat.add_zero]; exact ga)) ?_
        walk_at "v"
        have f0 : FrAt H1 z1 0 1 := ⟨0, 1, e1, ⟨by decide, by decide, by grind⟩, by decide, by decide⟩
        refine ⟨z1, xa.1, 0, _, _, 1, n, rfl, f0, fa, h1, by walk_at "o", fun z r' H2 s2 e2 f2 => ?_⟩
        refine k1 h0 z 0 (wo ss fl) H2 (s1.trans s2) ⟨z1, r', e2, (f0.up s2).mono (by walk_at "o"), ?_⟩ (.inr ⟨rfl, rfl, rfl, rfl⟩)
        have e3 : wo ss fl - 0 * (mo ss fl : Rat) = wo ss fl := by grind
        rw [e3] at f2
        exact f2.mono (by walk_at "o")
end

noncomputable def spSample : Sp := fun vs H Q _ => ∃ (p : Addr) (m z b : Int) (n : Nat), vs = [.ref p, .int b] ∧ H p = some (.tup [.int m, .int z]) ∧ Sz n m ∧ Sz n z ∧ 1 ≤ b ∧ Sz n b ∧ n ≤ 1000 ∧ ∀ (r : Addr) (H' : Hp), Same H H' → SaAt H' r m ((z : Rat) / (b : Rat)) n → Q (.ref r) H'
theorem BdOk.fresh {C : Addr} {H : Hp} {p Lb La : Addr} {β : Rat} {n n' nb : Nat} (h : BdOk C H p Lb La [] 0 0 β n nb none none) : BdOk C H p Lb La [] 0 0 β n' nb none none :=
  let ⟨dx, bd, tw, fs, gv, sv, h⟩ := h; ⟨dx, bd, tw, fs, gv, sv, h.at_, h.F, h.eb, h.ea, h.ne, fun x hx => absurd hx (by simp), h.fbd, h.ftw, h.G, h.S, h.P⟩
theorem BdP.two {ss : List En} {fl ro : Nat} {β : Rat} {g s : Option Rat} (h : BdP ss fl ro β g s) : (ss.length < 2 ↔ g = none ∧ s = none) := by
  constructor
  · intro h2
    have go := h.go
    have so := h.so
    constructor
    · cases g with
      | none => rfl
      | some G =>
        obtain ⟨q, p, _, _, _, z, _⟩ := go.2
        omega
    · cases s with
      | none => rfl
      | some S =>
        obtain ⟨q, p, _, _, _, z, _⟩ := so.2
        omega
  · rintro ⟨rfl, rfl⟩
    refine Nat.lt_of_not_le fun h2 => ?_
    obtain ⟨l1, l2⟩ := h.lt (by omega)
    have df := h.df
    have go : ∀ q p, ro ≤ q → q < p → fl ≤ p → ¬ p < ss.length := h.go
    have so : ∀ q p, fl ≤ q → q < p → ro ≤ p → ¬ p < ss.length := h.so
    have g1 := go ro (ss.length - 1) (by omega)
    have s1 := so fl (ss.length - 1) (by omega)
    by_cases e : ro < ss.length - 1
    · exact g1 e (by omega) (by omega)
    · by_cases e2 : fl < ss.length - 1
      · exact s1 e2 (by omega) (by omega)
      · have := df (by omega)
        omega
theorem sd_hi {ss : List En} {T f β : Rat} {a b k : Nat} (hr : rising ss) (hab : a < b) (hbk : b < k) (hk : k < ss.length) (ea : lev ss T a + β = f) (eb : lev ss T b - β = f) (ek : lev ss T k + β < f) : 2 * β < sd ss a b k := by
  have d1 := mo_pos hr hab (by omega)
  have d2 := mo_pos hr hbk hk
  have d3 := mo_pos hr (Nat.lt_trans hab hbk) hk
  unfold lev at ea eb ek
  unfold sd chord
  refine Rat.not_le.mp fun z => ?_
  have z' : wo ss b - 2 * β ≤ (wo ss a * ((mo ss k : Rat) - (mo ss b : Rat)) + wo ss k * ((mo ss b : Rat) - (mo ss a : Rat))) / ((mo ss k : Rat) - (mo ss a : Rat)) := by grind
  rw [rle_div d3] at z'
  have l : wo ss k < T * (mo ss k : Rat) + f - β := by grind
  have := Rat.mul_lt_mul_of_pos_right l d1
  have e1 : wo ss a = T * (mo ss a : Rat) + f - β := by grind
  have e2 : wo ss b = T * (mo ss b : Rat) + f + β := by grind
  rw [e1, e2] at z'
  grind
theorem sd_lo {ss : List En} {T f β : Rat} {a b k : Nat} (hr : rising ss) (hab : a < b) (hbk : b < k) (hk : k < ss.length) (ea : lev ss T a - β = f) (eb : lev ss T b + β = f) (ek : f < lev ss T k - β) : sd ss a b k < -(2 * β) := by
  have d1 := mo_pos hr hab (by omega)
  have d2 := mo_pos hr hbk hk
  have d3 := mo_pos hr (Nat.lt_trans hab hbk) hk
  unfold lev at ea eb ek
  unfold sd chord
  refine Rat.not_le.mp fun z => ?_
  have z' : (wo ss a * ((mo ss k : Rat) - (mo ss b : Rat)) + wo ss k * ((mo ss b : Rat) - (mo ss a : Rat))) / ((mo ss k : Rat) - (mo ss a : Rat)) ≤ wo ss b + 2 * β := by grind
  rw [rdiv_le d3] at z'
  have l : T * (mo ss k : Rat) + f + β < wo ss k := by grind
  have := Rat.mul_lt_mul_of_pos_right l d1
  have e1 : wo ss a = T * (mo ss a : Rat) + f + β := by grind
  have e2 : wo ss b = T * (mo ss b : Rat) + f - β := by grind
  rw [e1, e2] at z'
  grind
theorem loE_none {ss : List En} {β : Rat} {fl : Nat} {u : Int} {g e : Option Rat} (h : LoE ss β fl u g e) : e = none ↔ g = none := by
  cases e with
  | none => exact ⟨fun _ => h, fun _ => rfl⟩
  | some X => obtain ⟨G, rfl, _⟩ := h; exact ⟨fun z => (by cases z), fun z => (by cases z)⟩
theorem hiE_none {ss : List En} {β : Rat} {ro : Nat} {u : Int} {s e : Option Rat} (h : HiE ss β ro u s e) : e = none ↔ s = none := by
  cases e with
  | none => exact ⟨fun _ => h, fun _ => rfl⟩
  | some X => obtain ⟨G, rfl, _⟩ := h; exact ⟨fun z => (by cases z), fun z => (by cases z)⟩
section
variable {P : Program} {w : World} {K : PySem.W.Frag} {mg : Str → Option Value} {base : Heap} {f : Addr} {fd : FuncData}
theorem sc_law_sample : FnScope ["_law_one", "_law_bottom"] ["_law_one", "_law_bottom"] (defScope s_law_sample) := ⟨rfl, rfl, rfl, by decide +kernel, rfl, by decide +kernel, by decide +kernel⟩
theorem ok_law_sample (F : Fun K "_law_sample" "_law_sample" s_law_sample f fd) (D_law_ratio : Dn P w K mg base 1 "_law_ratio" ["_law_top", "_law_bottom"] spRatio) : FnOk P w K mg base CX0 2 f fd ["_law_one", "_law_bottom"] spSample := by
  refine F.ok sc_law_sample (fun vs H Q E h => ?_) (fun cdv A outer s H vs Q E hr h => ?_)
  · obtain ⟨p, m, z, b, n, rfl, _⟩ := h
    rfl
  obtain ⟨p, m, z, b, n, rfl, hp, zm, zz, hb, zb, hn, k⟩ := h
  refine Jd.go ⟨_, (Jd.pss_one (Jd.ps_ret (Jd.pe_tup (Jd.pa_cons (Jd.pe_ix (ixT K) (Jd.pv 0) Jd.pe_int (fun _ _ => rfl)) (Jd.pa_cons (Jd.pe_dn D_law_ratio (hr.mono (by decide)) rfl (Jd.pa_cons (Jd.pe_ix (ixT K) (Jd.pv 0) Jd.pe_int (fun _ _ => rfl)) (Jd.pa_cons (Jd.pv 1) Jd.pa_nil st_N) st_S) (he := st_S) (hpl := (anyc st_N any0))) Jd.pa_nil st_K) st_S)))), ?_⟩
  walk_at "v"
  refine frac_gen (n := n) (by walk_at "o") zz zb (by walk_at "o") fun p1 H1 s1 f1 => ?_
  walk_at "v"
  refine r_new (mk := .tup) (by simp) fun q H2 s2 n2 e2 => ?_
  exact k q H2 (s1.trans s2) ⟨p1, e2, f1.up s2, zm⟩
end

end Lw
namespace My
open PySem PySem.Spec PyProof.Rows L2 Mth
noncomputable def tChain3 (r1 r2 r3 : R2) (ta tb tc td : TE) : TE := fun σ H Q => ta σ H fun x H1 => tLink r1 tb (tLink r2 tc (tEnd r3 td)) x σ H1 Q
theorem r_chain3 {r1 r2 r3 : R2} {ta tb tc td : TE} {σ : L2.St} {H : Hp} {Q : VK} (h : ta σ H fun x H1 => tLink r1 tb (tLink r2 tc (tEnd r3 td)) x σ H1 Q) : tChain3 r1 r2 r3 ta tb tc td σ H Q := h
theorem pt_chain3 {X : Cx} {a b c d : Expr} {ta tb tc td : TE} {o1 o2 o3 : CmpOp} {r1 r2 r3 : R2} {pos : Pos} (h1 : OpR X (compareOp o1) r1) (h2 : OpR X (compareOp o2) r2) (h3 : OpR X (compareOp o3) r3) (ha : PE X a ta) (hb : PE X b tb) (hc : PE X c tc) (hd : PE X d td)
    (hm : autoParam (lastMarks [o1, o2, o3] [b, c, d] = false) au3_._auto_1) : PT X (.Compare a [o1, o2, o3] [b, c, d] pos) (tTest (tChain3 r1 r2 r3 ta tb tc td)) := by
  intro pins s σ H Q I h
  refine isTrue_chain (thn (ha pins s σ H _ I h) fun v s1 ⟨x, H1, I1, rx1, q1⟩ => test_link (thn (hb pins s1 σ H1 _ I1 q1) fun u s2 ⟨y, H2, I2, rx2, q2⟩ =>
    thn (h1 pins s2 σ H2 x y v u _ I2 rx1 rx2 q2) fun dd s3 ⟨z, H3, I3, rx3, k, ek, q3⟩ => ?_)) hm
  subst ek
  cases rx3
  refine wpAny_truthy_bool ?_
  cases k with
  | false =>
    obtain ⟨k', e', q'⟩ := q3
    cases e'
    exact ite_ff ⟨H3, I3, q'⟩
  | true =>
    refine ite_tt (test_link (thn (hc pins s3 σ H3 _ I3 q3) fun u2 s4 ⟨y2, H4, I4, rx4, q4⟩ => thn (h2 pins s4 σ H4 y y2 u u2 _ I4 rx2 rx4 q4) fun dd s5 ⟨z, H5, I5, rx5, k, ek, q5⟩ => ?_))
    subst ek
    cases rx5
    refine wpAny_truthy_bool ?_
    cases k with
    | false =>
      obtain ⟨k', e', q'⟩ := q5
      cases e'
      exact ite_ff ⟨H5, I5, q'⟩
    | true =>
      refine ite_tt (test_last (thn (hd pins s5 σ H5 _ I5 q5) fun u4 s8 ⟨y4, H8, I8, rx8, q8⟩ => thn (h3 pins s8 σ H8 y2 y4 u2 u4 _ I8 rx4 rx8 q8) fun dd s9 ⟨z2, H9, I9, rx9, k2, e2, q9⟩ => ?_))
      subst e2
      cases rx9
      exact wpAny_truthy_bool ⟨H9, I9, q9⟩
end My
namespace Jd
open PySem PySem.Spec PyProof.Rows L2 Mth
theorem pt_chain3 {X : Cx} {a b c d : Expr} {ta tb tc td : TE} {o1 o2 o3 : CmpOp} {r1 r2 r3 : R2} {pos : Pos} (h1 : OpR X (compareOp o1) r1) (h2 : OpR X (compareOp o2) r2) (h3 : OpR X (compareOp o3) r3) (ha : QE X a ta) (hb : QE X b tb) (hc : QE X c tc) (hd : QE X d td)
    (hm : autoParam (lastMarks [o1, o2, o3] [b, c, d] = false) au3_._auto_1) : QT X (.Compare a [o1, o2, o3] [b, c, d] pos) (tTest (My.tChain3 r1 r2 r3 ta tb tc td)) := ⟨My.pt_chain3 h1 h2 h3 ha.h hb.h hc.h hd.h hm⟩
end Jd
noncomputable abbrev J.a := @Jd.pv
noncomputable abbrev J.b := @Jd.pa_cons
noncomputable abbrev J.c := @Jd.pe_int
noncomputable abbrev J.d := @Jd.pe_ix
noncomputable abbrev J.e := @Jd.pa_nil
noncomputable abbrev J.f := @Jd.pss_cons
noncomputable abbrev J.g := @Jd.pe_op
noncomputable abbrev J.h := @Jd.pss_one
noncomputable abbrev J.i := @Jd.pe_dn
noncomputable abbrev J.j := @Jd.ps_ret
noncomputable abbrev J.k := @Jd.ps_set
noncomputable abbrev J.l := @Jd.pt_cmpR
noncomputable abbrev J.m := @Jd.ps_if
noncomputable abbrev J.n := @Jd.pss_nil
noncomputable abbrev J.o := @Jd.pg_name
noncomputable abbrev J.p := @Jd.pe_non
noncomputable abbrev J.q := @Jd.pe_tup
noncomputable abbrev J.r := @Jd.pt_val
noncomputable abbrev J.s := @Jd.pt_not
noncomputable abbrev J.t := @Jd.pgs_cons
noncomputable abbrev J.u := @Jd.pe_callB
namespace Lw
open PySem L2 Mth My

theorem BdOk.ats {C : Addr} {H : Hp} {p Lb La : Addr} {ss : List En} {fl ro : Nat} {β : Rat} {n nb : Nat} {g s : Option Rat} (h : BdOk C H p Lb La ss fl ro β n nb g s) : (∃ dx fs, H p = some (.ins C dx fs) ∧ (fs.lookup ("take" : Str) = none ∧ fs.lookup ("line_now" : Str) = none)) ∧ (∃ ys, H Lb = some (.lst ys)) ∧ (∃ ys, H La = some (.lst ys)) ∧ BdP ss fl ro β g s :=
  let ⟨_, _, _, _, _, _, h⟩ := h; ⟨⟨_, _, h.at_, h.F.meth "take", h.F.meth "line_now"⟩, ⟨_, h.eb⟩, ⟨_, h.ea⟩, h.P⟩
theorem mo_take {es : List En} {j i : Nat} (h : i < j) : mo (es.take j) i = mo es i := by unfold mo; rw [List.getElem?_take, if_pos h]
theorem wo_take {es : List En} {j i : Nat} (h : i < j) : wo (es.take j) i = wo es i := by unfold wo; rw [List.getElem?_take, if_pos h]
theorem lev_take {es : List En} {T : Rat} {j i : Nat} (h : i < j) : lev (es.take j) T i = lev es T i := by unfold lev; rw [mo_take h, wo_take h]
section
variable {P : Program} {w : World} {K : PySem.W.Frag} {mg : Str → Option Value} {base : Heap} {f c_Bend : Addr} {fd : FuncData}
end

noncomputable def LeadL (es : List En) (B : Rat) (fl ro k q p : Nat) : Prop := ro ≤ q ∧ q < p ∧ fl ≤ p ∧ p < k ∧ ∀ q' p', ro ≤ q' → q' < p' → fl ≤ p' → p' < k → lowS es B q' p' ≤ lowS es B q p ∧ (p < p' → lowS es B q' p' < lowS es B q p)
noncomputable def LeadH (es : List En) (B : Rat) (fl ro k q p : Nat) : Prop := fl ≤ q ∧ q < p ∧ ro ≤ p ∧ p < k ∧ ∀ q' p', fl ≤ q' → q' < p' → ro ≤ p' → p' < k → highS es B q p ≤ highS es B q' p' ∧ (p < p' → highS es B q p < highS es B q' p')
noncomputable def rsL (hs : List Nn) (c : Int) (q p : Nat) : Int := nno hs p - nno hs q - 2 * c
noncomputable def rsH (hs : List Nn) (c : Int) (q p : Nat) : Int := nno hs p - nno hs q + 2 * c
section
variable {es : List En} {hs : List Nn} {b c : Int}
theorem low_num (h : es.map (·.2) = hs.map (fun x => nworth b x.2)) (hb : 1 ≤ b) (hr : nrising hs) {q p : Nat} (h1 : q < p) (h2 : p < hs.length) : lowS es (2 * ((c : Rat) / (b : Rat))) q p * (((nmo hs p - nmo hs q) * b : Int) : Rat) = ((rsL hs c q p : Int) : Rat) ∧ highS es (2 * ((c : Rat) / (b : Rat))) q p * (((nmo hs p - nmo hs q) * b : Int) : Rat) = ((rsH hs c q p : Int) : Rat) := by
  have d := cast_pos (b := nmo hs p - nmo hs q) (by have := nmo_lt hr h1 h2; omega)
  have bn := cast_ne (b := b) (by omega)
  obtain ⟨m1, w1⟩ := link_at h q
  obtain ⟨m2, w2⟩ := link_at h p
  unfold lowS highS rsL rsH
  rw [m1, w1, m2, w2]
  simp only [Rat.intCast_mul, Rat.intCast_sub, Rat.intCast_add] at *
  have t2 : ((2 : Int) : Rat) = 2 := rfl
  rw [t2]
  generalize hD : (nmo hs p : Rat) - (nmo hs q : Rat) = D at *
  have hD0 : D ≠ 0 := by grind
  generalize ((nno hs p : Int) : Rat) = x at *
  generalize ((nno hs q : Int) : Rat) = y at *
  generalize ((c : Int) : Rat) = z at *
  generalize ((b : Int) : Rat) = v at *
  constructor
  · grind
  · grind
theorem cmp_of {S S' D D' v : Rat} {r r' n n' : Int} (hn : 0 < n) (hn' : 0 < n') {b : Int} (hb : 1 ≤ b) (h : S * ((n * b : Int) : Rat) = (r : Rat)) (h' : S' * ((n' * b : Int) : Rat) = (r' : Rat)) : r * n' ≤ r' * n ↔ S ≤ S' := by
  have p : (0 : Rat) < ((n * n' * b : Int) : Rat) := cast_pos (Int.mul_pos (Int.mul_pos hn hn') (by omega))
  have e1 : ((r * n' : Int) : Rat) = S * ((n * n' * b : Int) : Rat) := by
    rw [Rat.intCast_mul, ← h]
    simp only [Rat.intCast_mul]
    grind
  have e2 : ((r' * n : Int) : Rat) = S' * ((n * n' * b : Int) : Rat) := by
    rw [Rat.intCast_mul, ← h']
    simp only [Rat.intCast_mul]
    grind
  rw [← Rat.intCast_le_intCast, e1, e2]
  exact ⟨fun z => Rat.le_of_mul_le_mul_right z p, fun z => Rat.mul_le_mul_of_nonneg_right z (Rat.le_of_lt p)⟩
end
theorem low_cmp {es : List En} {hs : List Nn} {b c : Int} (h : es.map (·.2) = hs.map (fun x => nworth b x.2)) (hb : 1 ≤ b) (hr : nrising hs) {q p q' p' : Nat} (h1 : q < p) (h2 : p < hs.length) (h1' : q' < p') (h2' : p' < hs.length) : rsL hs c q p * (nmo hs p' - nmo hs q') ≤ rsL hs c q' p' * (nmo hs p - nmo hs q) ↔ lowS es (2 * ((c : Rat) / (b : Rat))) q p ≤ lowS es (2 * ((c : Rat) / (b : Rat))) q' p' :=
  cmp_of (D := 0) (D' := 0) (v := 0) (by have := nmo_lt hr h1 h2; omega) (by have := nmo_lt hr h1' h2'; omega) hb (low_num h hb hr h1 h2).1 (low_num h hb hr h1' h2').1
theorem high_cmp {es : List En} {hs : List Nn} {b c : Int} (h : es.map (·.2) = hs.map (fun x => nworth b x.2)) (hb : 1 ≤ b) (hr : nrising hs) {q p q' p' : Nat} (h1 : q < p) (h2 : p < hs.length) (h1' : q' < p') (h2' : p' < hs.length) : rsH hs c q p * (nmo hs p' - nmo hs q') ≤ rsH hs c q' p' * (nmo hs p - nmo hs q) ↔ highS es (2 * ((c : Rat) / (b : Rat))) q p ≤ highS es (2 * ((c : Rat) / (b : Rat))) q' p' :=
  cmp_of (D := 0) (D' := 0) (v := 0) (by have := nmo_lt hr h1 h2; omega) (by have := nmo_lt hr h1' h2'; omega) hb (low_num h hb hr h1 h2).2 (low_num h hb hr h1' h2').2
noncomputable def SeenL (es : List En) (B : Rat) (fl ro p0 q0 q p : Nat) : Prop := ro ≤ q ∧ q < p ∧ fl ≤ p ∧ (p < p0 ∨ (p = p0 ∧ q < q0)) ∧ ∀ q' p', ro ≤ q' → q' < p' → fl ≤ p' → (p' < p0 ∨ (p' = p0 ∧ q' < q0)) → lowS es B q' p' ≤ lowS es B q p ∧ (p < p' → lowS es B q' p' < lowS es B q p)
noncomputable def SeenH (es : List En) (B : Rat) (fl ro p0 q0 q p : Nat) : Prop := fl ≤ q ∧ q < p ∧ ro ≤ p ∧ (p < p0 ∨ (p = p0 ∧ q < q0)) ∧ ∀ q' p', fl ≤ q' → q' < p' → ro ≤ p' → (p' < p0 ∨ (p' = p0 ∧ q' < q0)) → highS es B q p ≤ highS es B q' p' ∧ (p < p' → highS es B q p < highS es B q' p')
theorem seenL_new {es : List En} {B : Rat} {fl ro p0 q0 : Nat} (h1 : ro ≤ q0) (h2 : q0 < p0) (h3 : fl ≤ p0) (ho : (∀ q p, ro ≤ q → q < p → fl ≤ p → ¬ (p < p0 ∨ (p = p0 ∧ q < q0))) ∨ ∃ q p, SeenL es B fl ro p0 q0 q p ∧ lowS es B q p ≤ lowS es B q0 p0) : SeenL es B fl ro p0 (q0 + 1) q0 p0 := by
  refine ⟨h1, h2, h3, .inr ⟨rfl, by omega⟩, fun q' p' a1 a2 a3 a4 => ?_⟩
  by_cases e : p' = p0 ∧ q' = q0
  · obtain ⟨rfl, rfl⟩ := e
    exact ⟨Rat.le_refl, fun z => absurd z (Nat.lt_irrefl _)⟩
  · have a5 : p' < p0 ∨ (p' = p0 ∧ q' < q0) := by omega
    rcases ho with ho | ⟨q, p, hs, le⟩
    · exact absurd a5 (ho q' p' a1 a2 a3)
    · have := (hs.2.2.2.2 q' p' a1 a2 a3 a5).1
      exact ⟨Rat.le_trans this le, fun z => by omega⟩
theorem seenL_old {es : List En} {B : Rat} {fl ro p0 q0 q p : Nat} (h : SeenL es B fl ro p0 q0 q p) (lt : lowS es B q0 p0 < lowS es B q p) : SeenL es B fl ro p0 (q0 + 1) q p := by
  obtain ⟨h1, h2, h3, h4, h5⟩ := h
  refine ⟨h1, h2, h3, by omega, fun q' p' a1 a2 a3 a4 => ?_⟩
  by_cases e : p' = p0 ∧ q' = q0
  · obtain ⟨rfl, rfl⟩ := e
    exact ⟨Rat.le_of_lt lt, fun _ => lt⟩
  · exact h5 q' p' a1 a2 a3 (by omega)
theorem seenH_new {es : List En} {B : Rat} {fl ro p0 q0 : Nat} (h1 : fl ≤ q0) (h2 : q0 < p0) (h3 : ro ≤ p0) (ho : (∀ q p, fl ≤ q → q < p → ro ≤ p → ¬ (p < p0 ∨ (p = p0 ∧ q < q0))) ∨ ∃ q p, SeenH es B fl ro p0 q0 q p ∧ highS es B q0 p0 ≤ highS es B q p) : SeenH es B fl ro p0 (q0 + 1) q0 p0 := by
  refine ⟨h1, h2, h3, .inr ⟨rfl, by omega⟩, fun q' p' a1 a2 a3 a4 => ?_⟩
  by_cases e : p' = p0 ∧ q' = q0
  · obtain ⟨rfl, rfl⟩ := e
    exact ⟨Rat.le_refl, fun z => absurd z (Nat.lt_irrefl _)⟩
  · have a5 : p' < p0 ∨ (p' = p0 ∧ q' < q0) := by omega
    rcases ho with ho | ⟨q, p, hs, le⟩
    · exact absurd a5 (ho q' p' a1 a2 a3)
    · have := (hs.2.2.2.2 q' p' a1 a2 a3 a5).1
      exact ⟨Rat.le_trans le this, fun z => by omega⟩
theorem seenH_old {es : List En} {B : Rat} {fl ro p0 q0 q p : Nat} (h : SeenH es B fl ro p0 q0 q p) (lt : highS es B q p < highS es B q0 p0) : SeenH es B fl ro p0 (q0 + 1) q p := by
  obtain ⟨h1, h2, h3, h4, h5⟩ := h
  refine ⟨h1, h2, h3, by omega, fun q' p' a1 a2 a3 a4 => ?_⟩
  by_cases e : p' = p0 ∧ q' = q0
  · obtain ⟨rfl, rfl⟩ := e
    exact ⟨Rat.le_of_lt lt, fun _ => lt⟩
  · exact h5 q' p' a1 a2 a3 (by omega)
noncomputable def ldL (hs : List Nn) (c : Int) (q p : Nat) : List V := [.int (rsL hs c q p), .int (nmo hs p - nmo hs q), .int (nmo hs p), .int (nno hs p - c), .int (p : Int)]
noncomputable def ldH (hs : List Nn) (c : Int) (q p : Nat) : List V := [.int (rsH hs c q p), .int (nmo hs p - nmo hs q), .int (nmo hs p), .int (nno hs p + c), .int (p : Int)]
noncomputable def LdSL (hs : List Nn) (es : List En) (b c : Int) (fl ro p0 q0 : Nat) (H : Hp) (v : V) : Prop := (v = .non ∧ ∀ q p, ro ≤ q → q < p → fl ≤ p → ¬ (p < p0 ∨ (p = p0 ∧ q < q0))) ∨ ∃ (y : Addr) (q p : Nat), v = .ref y ∧ H y = some (.tup (ldL hs c q p)) ∧ SeenL es (2 * ((c : Rat) / (b : Rat))) fl ro p0 q0 q p
noncomputable def LdSH (hs : List Nn) (es : List En) (b c : Int) (fl ro p0 q0 : Nat) (H : Hp) (v : V) : Prop := (v = .non ∧ ∀ q p, fl ≤ q → q < p → ro ≤ p → ¬ (p < p0 ∨ (p = p0 ∧ q < q0))) ∨ ∃ (y : Addr) (q p : Nat), v = .ref y ∧ H y = some (.tup (ldH hs c q p)) ∧ SeenH es (2 * ((c : Rat) / (b : Rat))) fl ro p0 q0 q p
noncomputable def spLowN : Sp := fun vs H Q _ => ∃ (l : Addr) (hs : List Nn) (es : List En) (fl ro k : Nat) (b c : Int) (m n : Nat), vs = [.ref l, .int (fl : Int), .int (ro : Int), .int (k : Int), .int c] ∧ H l = some (.lst (nvals hs)) ∧ NRow H hs m n ∧ AllN hs ∧ nrising hs ∧ es.map (·.2) = hs.map (fun x => nworth b x.2) ∧ 1 ≤ b ∧ Sz n c ∧ (fl ≤ k ∧ ro ≤ k ∧ k ≤ hs.length) ∧ hs.length ≤ 900 ∧ m ≤ 1000 ∧ n ≤ 1000 ∧
  ((∀ q p, ro ≤ q → q < p → fl ≤ p → ¬ p < k) → ∀ H', Same H H' → Q .non H') ∧ ∀ (y : Addr) (q p : Nat) (H' : Hp), Same H H' → H' y = some (.tup (ldL hs c q p)) → LeadL es (2 * ((c : Rat) / (b : Rat))) fl ro k q p → Q (.ref y) H'
noncomputable def spHighN : Sp := fun vs H Q _ => ∃ (l : Addr) (hs : List Nn) (es : List En) (fl ro k : Nat) (b c : Int) (m n : Nat), vs = [.ref l, .int (fl : Int), .int (ro : Int), .int (k : Int), .int c] ∧ H l = some (.lst (nvals hs)) ∧ NRow H hs m n ∧ AllN hs ∧ nrising hs ∧ es.map (·.2) = hs.map (fun x => nworth b x.2) ∧ 1 ≤ b ∧ Sz n c ∧ (fl ≤ k ∧ ro ≤ k ∧ k ≤ hs.length) ∧ hs.length ≤ 900 ∧ m ≤ 1000 ∧ n ≤ 1000 ∧
  ((∀ q p, fl ≤ q → q < p → ro ≤ p → ¬ p < k) → ∀ H', Same H H' → Q .non H') ∧ ∀ (y : Addr) (q p : Nat) (H' : Hp), Same H H' → H' y = some (.tup (ldH hs c q p)) → LeadH es (2 * ((c : Rat) / (b : Rat))) fl ro k q p → Q (.ref y) H'
section
variable {P : Program} {w : World} {K : PySem.W.Frag} {mg : Str → Option Value} {base : Heap} {f : Addr} {fd : FuncData}
theorem sc_law_low : FnScope ["_law_some", "_law_floor", "_law_roof", "_law_k", "_law_bound", "_law_lead", "_law_p", "_law_q", "_law_rise", "_law_run"] ["_law_some", "_law_floor", "_law_roof", "_law_k", "_law_bound"] (defScope s_law_low) := ⟨rfl, rfl, rfl, by decide +kernel, rfl, by decide +kernel, by decide +kernel⟩
theorem ok_law_low (F : Fun K "_law_low" "_law_low" s_law_low f fd) (T : Txt mg) : FnOk P w K mg base CX0 1 f fd ["_law_some", "_law_floor", "_law_roof", "_law_k", "_law_bound"] spLowN := by
  refine F.ok sc_law_low (fun vs H Q E h => ?_) (fun cdv A outer s H vs Q E hr h => ?_)
  · obtain ⟨l, hs, es, fl, ro, k, b, c, m, n, rfl, _⟩ := h
    rfl
  obtain ⟨l, hs, es, fl, ro, kk, b, c, m, n, rfl, hl, hes, hS, hri, hmap, hb, zc, hk, h900, hm, hn, k0, k1⟩ := h
  have zr : ∀ {q p : Nat}, q < hs.length → p < hs.length → Sz (n + 3) (rsL hs c q p) ∧ Sz (m + 1) (nmo hs p - nmo hs q) := fun {q p} hq hp => by
    obtain ⟨_, _, _, a1, a2⟩ := nn_at hes hS hq
    obtain ⟨_, _, _, b1, b2⟩ := nn_at hes hS hp
    refine ⟨?_, b1.sub a1⟩
    have := (b2.sub a2).mono (show n + 1 ≤ n + 2 by omega)
    exact this.sub (((show Sz 2 (2 : Int) by decide).mul zc).mono (by omega))
  refine Jd.go ⟨_, (J.f (J.k (i := 5) sc_law_low.nd rfl (Or.inl rfl) J.p (hs := sw_C))
      (J.f (Jd.ps_for PassesOwn.never rfl (Jd.pi_range2 rfl T.range (J.b (J.a 1) (J.b (J.a 3) J.e st_N) st_N)) (J.o (i := 6) sc_law_low.nd rfl (Or.inl rfl))
      (J.h (Jd.ps_for PassesOwn.never rfl (Jd.pi_range2 rfl T.range (J.b (J.a 2) (J.b (J.a 6) J.e st_N) st_N)) (J.o (i := 7) sc_law_low.nd rfl (Or.inl rfl))
      (J.f (J.k (i := 8) sc_law_low.nd rfl (Or.inl rfl) (J.g op_sub (J.g op_sub (J.d (ixT K) (J.d (ixL K) (J.a 0) (J.a 6) (fun _ _ => rfl)) J.c (fun _ _ => rfl)) (J.d (ixT K) (J.d (ixL K) (J.a 0) (J.a 7) (fun _ _ => rfl)) J.c (fun _ _ => rfl))) (J.g op_mulB J.c (J.a 4))) (hs := sw_B))
      (J.f (J.k (i := 9) sc_law_low.nd rfl (Or.inl rfl) (J.g op_sub (J.d (ixT K) (J.d (ixL K) (J.a 0) (J.a 6) (fun _ _ => rfl)) J.c (fun _ _ => rfl)) (J.d (ixT K) (J.d (ixL K) (J.a 0) (J.a 7) (fun _ _ => rfl)) J.c (fun _ _ => rfl))) (hs := sw_B))
      (J.h (J.m (Jd.PWpt (Jd.pw_or (J.l op_isN (J.a 5) J.p (nomark _)) (Jd.pw_or1 (J.l op_ge (J.g op_mulB (J.a 8) (J.d (ixT K) (J.a 5) J.c (fun _ _ => rfl))) (J.g op_mulB (J.d (ixT K) (J.a 5) J.c (fun _ _ => rfl)) (J.a 9)) (nomark _)))))
      (J.h (J.k (i := 5) sc_law_low.nd rfl (Or.inl rfl) (J.q (J.b (J.a 8) (J.b (J.a 9) (J.b (J.d (ixT K) (J.d (ixL K) (J.a 0) (J.a 6) (fun _ _ => rfl)) J.c (fun _ _ => rfl)) (J.b (J.g op_sub (J.d (ixT K) (J.d (ixL K) (J.a 0) (J.a 6) (fun _ _ => rfl)) J.c (fun _ _ => rfl)) (J.a 4)) (J.b (J.a 6) J.e st_N) st_B) st_S) st_N) st_N)) (hs := sw_T)))
      J.n)))))))
      (J.h (J.j (J.a 5))))), ?_⟩
  walk_at "v"
  refine r_for (r_rng2 ?_)
  walk_at "v"
  refine ⟨_, _, rfl, ⟨by lia, by lia, by lia, by lia⟩, for_range (fun i σ H3 => Same H H3 ∧ ∃ (v : V) (v6 v7 v8 v9 : Option V), σ = [some (.ref l), some (.int (fl : Int)), some (.int (ro : Int)), some (.int (kk : Int)), some (.int c), some v, v6, v7, v8, v9] ∧ LdSL hs es b c fl ro (fl + i) 0 H3 v) ?_ ?_ ?_⟩
  · exact ⟨Same.refl _, .non, none, none, none, none, rfl, .inl ⟨rfl, fun q p h1 h2 h3 h4 => by omega⟩⟩
  · rintro i σ H3 hi ⟨s3, v, v6, v7, v8, v9, rfl, hL⟩
    have hi' : fl + i < kk := by walk_at "o"
    rw [show (fl : Int) + (i : Int) = ((fl + i : Nat) : Int) by walk_at "o"]
    refine body_cut fun M B R hM hB hR => ?_
    walk_at "v"
    refine r_for (r_rng2 ?_)
    walk_at "v"
    refine ⟨_, _, rfl, ⟨by lia, by lia, by lia, by lia⟩, for_range (fun j σ H4 => Same H H4 ∧ ∃ (v : V) (v7 v8 v9 : Option V), σ = [some (.ref l), some (.int (fl : Int)), some (.int (ro : Int)), some (.int (kk : Int)), some (.int c), some v, some (.int ((fl + i : Nat) : Int)), v7, v8, v9] ∧ LdSL hs es b c fl ro (fl + i) (ro + j) H4 v) ?_ ?_ ?_⟩
    · refine ⟨s3, v, v7, v8, v9, rfl, ?_⟩
      rcases hL with ⟨e, h⟩ | ⟨y, q, p, e, ey, h1, h2, h3, h4, h5⟩
      · exact .inl ⟨e, fun q p a1 a2 a3 a4 => h q p a1 a2 a3 (by omega)⟩
      · exact .inr ⟨y, q, p, e, ey, h1, h2, h3, by omega, fun q' p' a1 a2 a3 a4 => h5 q' p' a1 a2 a3 (by omega)⟩
    · rintro j σ H4 hj ⟨s4, v, v7, v8, v9, rfl, hL⟩
      have hj' : ro + j < fl + i := by walk_at "o"
      rw [show (ro : Int) + (j : Int) = ((ro + j : Nat) : Int) by walk_at "o"]
      obtain ⟨xp, gp, ep, zp1, zp2⟩ := nn_at (hes.up s4) hS (show fl + i < hs.length by walk_at "o")
      obtain ⟨xq, gq, eq, zq1, zq2⟩ := nn_at (hes.up s4) hS (show ro + j < hs.length by walk_at "o")
      obtain ⟨z1, z2⟩ := zr (q := ro + j) (p := fl + i) (by walk_at "o") (by walk_at "o")
      have hl4 := s4 _ _ hl
      refine body_cut fun M2 B2 R2 hM2 hB2 hR2 => ?_
      walk_at "v"
      refine r_l hl4 (at_nval gp rfl) ?_
      walk_at "v"
      refine r_l hl4 (at_nval gq rfl) ?_
      walk_at "v"
      refine r_l hl4 (at_nval gp rfl) ?_
      walk_at "v"
      refine r_l hl4 (at_nval gq rfl) ?_
      have take : ∀ {vv : Option V}, ((∀ q p, ro ≤ q → q < p → fl ≤ p → ¬ (p < fl + i ∨ (p = fl + i ∧ q < ro + j))) ∨ ∃ q p, SeenL es (2 * ((c : Rat) / (b : Rat))) fl ro (fl + i) (ro + j) q p ∧ lowS es (2 * ((c : Rat) / (b : Rat))) q p ≤ lowS es (2 * ((c : Rat) / (b : Rat))) (ro + j) (fl + i)) → SeenL es (2 * ((c : Rat) / (b : Rat))) fl ro (fl + i) (ro + (j + 1)) (ro + j) (fl + i) := fun ho => seenL_new (q0 := ro + j) (Nat.le_add_right _ _) hj' (Nat.le_add_right _ _) ho
      rcases hL with ⟨rfl, h⟩ | ⟨y, q, p, rfl, ey, hs'⟩
      · walk_at "v"
        refine ⟨rfl, ?_⟩
        walk_at "v"
        refine iteT ?_
        walk_at "v"
        refine iteT ?_
        walk_at "v"
        refine r_l hl4 (at_nval gp rfl) ?_
        walk_at "v"
        refine r_l hl4 (at_nval gp rfl) ?_
        walk_at "v"
        refine r_new (mk := .tup) (by simp) fun y H5 s5 n5 e5 => ?_
        exact hM2 _ _ ⟨s4.trans s5, .ref y, _, _, _, rfl, .inr ⟨y, ro + j, fl + i, rfl, e5, take (vv := none) (.inl h)⟩⟩
      · have hpl : p < hs.length ∧ q < hs.length := by
          obtain ⟨_, a2, _, a4, _⟩ := id hs'
          walk_at "o"
        obtain ⟨z3, z4⟩ := zr (q := q) (p := p) hpl.2 hpl.1
        have cmp := low_cmp (c := c) hmap hb hri hs'.2.1 hpl.1 hj' (show fl + i < hs.length by walk_at "o")
        have ey' : H4 y = some (.tup [.int (rsL hs c q p), .int (nmo hs p - nmo hs q), .int (nmo hs p), .int (nno hs p - c), .int (p : Int)]) := ey
        walk_at "v"
        refine ⟨rfl, ?_⟩
        walk_at "v"
        refine iteF ?_
        walk_at "v"
        have i1 : IntMulOk (nno hs (fl + i) - nno hs (ro + j) - 2 * c) (nmo hs p - nmo hs q) := mulOk z1 z4 (by walk_at "o")
        have i2 : IntMulOk (rsL hs c q p) (nmo hs (fl + i) - nmo hs (ro + j)) := mulOk z3 z2 (by walk_at "o")
        refine r_I i1 ?_
        walk_at "v"
        refine ite2 (fun c1 => ?_) (fun c1 => ?_)
        · have c1' := of_decide_eq_true c1
          walk_at "v"
          refine r_l hl4 (at_nval gp rfl) ?_
          walk_at "v"
          refine r_l hl4 (at_nval gp rfl) ?_
          walk_at "v"
          refine r_new (mk := .tup) (by simp) fun y5 H5 s5 n5 e5 => ?_
          exact hM2 _ _ ⟨s4.trans s5, .ref y5, _, _, _, rfl, .inr ⟨y5, ro + j, fl + i, rfl, e5, take (vv := none) (.inr ⟨q, p, hs', cmp.mp c1'⟩)⟩⟩
        · have c1' := of_decide_eq_false (Bool.eq_false_iff.mpr c1)
          walk_at "v"
          exact hM2 _ _ ⟨s4, .ref y, _, _, _, rfl, .inr ⟨y, q, p, rfl, ey, seenL_old hs' (Rat.not_le.mp fun z => c1' (cmp.mpr z))⟩⟩
    · rintro σ H4 ⟨s4, v, v7, v8, v9, rfl, hL⟩
      refine hM _ _ ⟨s4, v, _, _, _, _, rfl, ?_⟩
      rcases hL with ⟨e, h⟩ | ⟨y, q, p, e, ey, h1, h2, h3, h4, h5⟩
      · exact .inl ⟨e, fun q p a1 a2 a3 a4 => h q p a1 a2 a3 (by omega)⟩
      · exact .inr ⟨y, q, p, e, ey, h1, h2, h3, by omega, fun q' p' a1 a2 a3 a4 => h5 q' p' a1 a2 a3 (by omega)⟩
  · rintro σ H3 ⟨s3, v, v6, v7, v8, v9, rfl, hL⟩
    walk_at "v"
    rcases hL with ⟨rfl, h⟩ | ⟨y, q, p, rfl, ey, h1, h2, h3, h4, h5⟩
    · exact k0 (fun q p a1 a2 a3 a4 => h q p a1 a2 a3 (by omega)) H3 s3
    · exact k1 y q p H3 s3 ey ⟨h1, h2, h3, by omega, fun q' p' a1 a2 a3 a4 => h5 q' p' a1 a2 a3 (by omega)⟩
theorem sc_law_high : FnScope ["_law_some", "_law_floor", "_law_roof", "_law_k", "_law_bound", "_law_lead", "_law_p", "_law_q", "_law_rise", "_law_run"] ["_law_some", "_law_floor", "_law_roof", "_law_k", "_law_bound"] (defScope s_law_high) := ⟨rfl, rfl, rfl, by decide +kernel, rfl, by decide +kernel, by decide +kernel⟩
theorem ok_law_high (F : Fun K "_law_high" "_law_high" s_law_high f fd) (T : Txt mg) : FnOk P w K mg base CX0 1 f fd ["_law_some", "_law_floor", "_law_roof", "_law_k", "_law_bound"] spHighN := by
  refine F.ok sc_law_high (fun vs H Q E h => ?_) (fun cdv A outer s H vs Q E hr h => ?_)
  · obtain ⟨l, hs, es, fl, ro, k, b, c, m, n, rfl, _⟩ := h
    rfl
  obtain ⟨l, hs, es, fl, ro, kk, b, c, m, n, rfl, hl, hes, hS, hri, hmap, hb, zc, hk, h900, hm, hn, k0, k1⟩ := h
  have zr : ∀ {q p : Nat}, q < hs.length → p < hs.length → Sz (n + 3) (rsH hs c q p) ∧ Sz (m + 1) (nmo hs p - nmo hs q) := fun {q p} hq hp => by
    obtain ⟨_, _, _, a1, a2⟩ := nn_at hes hS hq
    obtain ⟨_, _, _, b1, b2⟩ := nn_at hes hS hp
    refine ⟨?_, b1.sub a1⟩
    have := (b2.sub a2).mono (show n + 1 ≤ n + 2 by omega)
    exact this.add (((show Sz 2 (2 : Int) by decide).mul zc).mono (by omega))
  refine Jd.go ⟨_, (J.f (J.k (i := 5) sc_law_high.nd rfl (Or.inl rfl) J.p (hs := sw_C))
      (J.f (Jd.ps_for PassesOwn.never rfl (Jd.pi_range2 rfl T.range (J.b (J.a 2) (J.b (J.a 3) J.e st_N) st_N)) (J.o (i := 6) sc_law_high.nd rfl (Or.inl rfl))
      (J.h (Jd.ps_for PassesOwn.never rfl (Jd.pi_range2 rfl T.range (J.b (J.a 1) (J.b (J.a 6) J.e st_N) st_N)) (J.o (i := 7) sc_law_high.nd rfl (Or.inl rfl))
      (J.f (J.k (i := 8) sc_law_high.nd rfl (Or.inl rfl) (J.g op_add (J.g op_sub (J.d (ixT K) (J.d (ixL K) (J.a 0) (J.a 6) (fun _ _ => rfl)) J.c (fun _ _ => rfl)) (J.d (ixT K) (J.d (ixL K) (J.a 0) (J.a 7) (fun _ _ => rfl)) J.c (fun _ _ => rfl))) (J.g op_mulB J.c (J.a 4))) (hs := sw_B))
      (J.f (J.k (i := 9) sc_law_high.nd rfl (Or.inl rfl) (J.g op_sub (J.d (ixT K) (J.d (ixL K) (J.a 0) (J.a 6) (fun _ _ => rfl)) J.c (fun _ _ => rfl)) (J.d (ixT K) (J.d (ixL K) (J.a 0) (J.a 7) (fun _ _ => rfl)) J.c (fun _ _ => rfl))) (hs := sw_B))
      (J.h (J.m (Jd.PWpt (Jd.pw_or (J.l op_isN (J.a 5) J.p (nomark _)) (Jd.pw_or1 (J.l op_le (J.g op_mulB (J.a 8) (J.d (ixT K) (J.a 5) J.c (fun _ _ => rfl))) (J.g op_mulB (J.d (ixT K) (J.a 5) J.c (fun _ _ => rfl)) (J.a 9)) (nomark _)))))
      (J.h (J.k (i := 5) sc_law_high.nd rfl (Or.inl rfl) (J.q (J.b (J.a 8) (J.b (J.a 9) (J.b (J.d (ixT K) (J.d (ixL K) (J.a 0) (J.a 6) (fun _ _ => rfl)) J.c (fun _ _ => rfl)) (J.b (J.g op_add (J.d (ixT K) (J.d (ixL K) (J.a 0) (J.a 6) (fun _ _ => rfl)) J.c (fun _ _ => rfl)) (J.a 4)) (J.b (J.a 6) J.e st_N) st_B) st_S) st_N) st_N)) (hs := sw_T)))
      J.n)))))))
      (J.h (J.j (J.a 5))))), ?_⟩
  walk_at "v"
  refine r_for (r_rng2 ?_)
  walk_at "v"
  refine ⟨_, _, rfl, ⟨by lia, by lia, by lia, by lia⟩, for_range (fun i σ H3 => Same H H3 ∧ ∃ (v : V) (v6 v7 v8 v9 : Option V), σ = [some (.ref l), some (.int (fl : Int)), some (.int (ro : Int)), some (.int (kk : Int)), some (.int c), some v, v6, v7, v8, v9] ∧ LdSH hs es b c fl ro (ro + i) 0 H3 v) ?_ ?_ ?_⟩
  · exact ⟨Same.refl _, .non, none, none, none, none, rfl, .inl ⟨rfl, fun q p h1 h2 h3 h4 => by omega⟩⟩
  · rintro i σ H3 hi ⟨s3, v, v6, v7, v8, v9, rfl, hL⟩
    have hi' : ro + i < kk := by walk_at "o"
    rw [show (ro : Int) + (i : Int) = ((ro + i : Nat) : Int) by walk_at "o"]
    refine body_cut fun M B R hM hB hR => ?_
    walk_at "v"
    refine r_for (r_rng2 ?_)
    walk_at "v"
    refine ⟨_, _, rfl, ⟨by lia, by lia, by lia, by lia⟩, for_range (fun j σ H4 => Same H H4 ∧ ∃ (v : V) (v7 v8 v9 : Option V), σ = [some (.ref l), some (.int (fl : Int)), some (.int (ro : Int)), some (.int (kk : Int)), some (.int c), some v, some (.int ((ro + i : Nat) : Int)), v7, v8, v9] ∧ LdSH hs es b c fl ro (ro + i) (fl + j) H4 v) ?_ ?_ ?_⟩
    · refine ⟨s3, v, v7, v8, v9, rfl, ?_⟩
      rcases hL with ⟨e, h⟩ | ⟨y, q, p, e, ey, h1, h2, h3, h4, h5⟩
      · exact .inl ⟨e, fun q p a1 a2 a3 a4 => h q p a1 a2 a3 (by omega)⟩
      · exact .inr ⟨y, q, p, e, ey, h1, h2, h3, by omega, fun q' p' a1 a2 a3 a4 => h5 q' p' a1 a2 a3 (by omega)⟩
    · rintro j σ H4 hj ⟨s4, v, v7, v8, v9, rfl, hL⟩
      have hj' : fl + j < ro + i := by walk_at "o"
      rw [show (fl : Int) + (j : Int) = ((fl + j : Nat) : Int) by walk_at "o"]
      obtain ⟨xp, gp, ep, zp1, zp2⟩ := nn_at (hes.up s4) hS (show ro + i < hs.length by walk_at "o")
      obtain ⟨xq, gq, eq, zq1, zq2⟩ := nn_at (hes.up s4) hS (show fl + j < hs.length by walk_at "o")
      obtain ⟨z1, z2⟩ := zr (q := fl + j) (p := ro + i) (by walk_at "o") (by walk_at "o")
      have hl4 := s4 _ _ hl
      refine body_cut fun M2 B2 R2 hM2 hB2 hR2 => ?_
      walk_at "v"
      refine r_l hl4 (at_nval gp rfl) ?_
      walk_at "v"
      refine r_l hl4 (at_nval gq rfl) ?_
      walk_at "v"
      refine r_l hl4 (at_nval gp rfl) ?_
      walk_at "v"
      refine r_l hl4 (at_nval gq rfl) ?_
      have take : ∀ {vv : Option V}, ((∀ q p, fl ≤ q → q < p → ro ≤ p → ¬ (p < ro + i ∨ (p = ro + i ∧ q < fl + j))) ∨ ∃ q p, SeenH es (2 * ((c : Rat) / (b : Rat))) fl ro (ro + i) (fl + j) q p ∧ highS es (2 * ((c : Rat) / (b : Rat))) (fl + j) (ro + i) ≤ highS es (2 * ((c : Rat) / (b : Rat))) q p) → SeenH es (2 * ((c : Rat) / (b : Rat))) fl ro (ro + i) (fl + (j + 1)) (fl + j) (ro + i) := fun ho => seenH_new (q0 := fl + j) (Nat.le_add_right _ _) hj' (Nat.le_add_right _ _) ho
      rcases hL with ⟨rfl, h⟩ | ⟨y, q, p, rfl, ey, hs'⟩
      · walk_at "v"
        refine ⟨rfl, ?_⟩
        walk_at "v"
        refine iteT ?_
        walk_at "v"
        refine iteT ?_
        walk_at "v"
        refine r_l hl4 (at_nval gp rfl) ?_
        walk_at "v"
        refine r_l hl4 (at_nval gp rfl) ?_
        walk_at "v"
        refine r_new (mk := .tup) (by simp) fun y H5 s5 n5 e5 => ?_
        exact hM2 _ _ ⟨s4.trans s5, .ref y, _, _, _, rfl, .inr ⟨y, fl + j, ro + i, rfl, e5, take (vv := none) (.inl h)⟩⟩
      · have hpl : p < hs.length ∧ q < hs.length := by
          obtain ⟨_, a2, _, a4, _⟩ := id hs'
          walk_at "o"
        obtain ⟨z3, z4⟩ := zr (q := q) (p := p) hpl.2 hpl.1
        have cmp := high_cmp (c := c) hmap hb hri hj' (show ro + i < hs.length by walk_at "o") hs'.2.1 hpl.1
        have ey' : H4 y = some (.tup [.int (rsH hs c q p), .int (nmo hs p - nmo hs q), .int (nmo hs p), .int (nno hs p + c), .int (p : Int)]) := ey
        walk_at "v"
        refine ⟨rfl, ?_⟩
        walk_at "v"
        refine iteF ?_
        walk_at "v"
        have i1 : IntMulOk (nno hs (ro + i) - nno hs (fl + j) + 2 * c) (nmo hs p - nmo hs q) := mulOk z1 z4 (by walk_at "o")
        have i2 : IntMulOk (rsH hs c q p) (nmo hs (ro + i) - nmo hs (fl + j)) := mulOk z3 z2 (by walk_at "o")
        refine r_I i1 ?_
        walk_at "v"
        refine ite2 (fun c1 => ?_) (fun c1 => ?_)
        · have c1' := of_decide_eq_true c1
          walk_at "v"
          refine r_l hl4 (at_nval gp rfl) ?_
          walk_at "v"
          refine r_l hl4 (at_nval gp rfl) ?_
          walk_at "v"
          refine r_new (mk := .tup) (by simp) fun y5 H5 s5 n5 e5 => ?_
          exact hM2 _ _ ⟨s4.trans s5, .ref y5, _, _, _, rfl, .inr ⟨y5, fl + j, ro + i, rfl, e5, take (vv := none) (.inr ⟨q, p, hs', cmp.mp c1'⟩)⟩⟩
        · have c1' := of_decide_eq_false (Bool.eq_false_iff.mpr c1)
          walk_at "v"
          exact hM2 _ _ ⟨s4, .ref y, _, _, _, rfl, .inr ⟨y, q, p, rfl, ey, seenH_old hs' (Rat.not_le.mp fun z => c1' (cmp.mpr z))⟩⟩
    · rintro σ H4 ⟨s4, v, v7, v8, v9, rfl, hL⟩
      refine hM _ _ ⟨s4, v, _, _, _, _, rfl, ?_⟩
      rcases hL with ⟨e, h⟩ | ⟨y, q, p, e, ey, h1, h2, h3, h4, h5⟩
      · exact .inl ⟨e, fun q p a1 a2 a3 a4 => h q p a1 a2 a3 (by omega)⟩
      · exact .inr ⟨y, q, p, e, ey, h1, h2, h3, by omega, fun q' p' a1 a2 a3 a4 => h5 q' p' a1 a2 a3 (by omega)⟩
  · rintro σ H3 ⟨s3, v, v6, v7, v8, v9, rfl, hL⟩
    walk_at "v"
    rcases hL with ⟨rfl, h⟩ | ⟨y, q, p, rfl, ey, h1, h2, h3, h4, h5⟩
    · exact k0 (fun q p a1 a2 a3 a4 => h q p a1 a2 a3 (by omega)) H3 s3
    · exact k1 y q p H3 s3 ey ⟨h1, h2, h3, by omega, fun q' p' a1 a2 a3 a4 => h5 q' p' a1 a2 a3 (by omega)⟩
noncomputable def spOverN : Sp := fun vs H Q _ => ∃ (y x : Addr) (r n t d p m z e : Int) (N : Nat), vs = [.ref y, .ref x, .int e] ∧ H y = some (.tup [.int r, .int n, .int t, .int d, .int p]) ∧ H x = some (.tup [.int m, .int z]) ∧ Sz N r ∧ Sz N n ∧ Sz N t ∧ Sz N d ∧ Sz N m ∧ Sz N e ∧ N ≤ 10000 ∧ Q (.int ((d - e) * n + r * (m - t))) H
noncomputable def spThreeN : Sp := fun vs H Q _ => ∃ (th l st : Addr) (hs : List Nn) (a e k s0 s1 : Nat) (c sg : Int) (m n : Nat), vs = [.ref th, .ref l, .ref st, .int (k : Int), .int c, .int sg] ∧ H th = some (.tup [.int (nmo hs a), .int (nmo hs e), .int (nmo hs k)]) ∧ H l = some (.lst (nvals hs)) ∧ NRow H hs m n ∧ AllN hs ∧ nrising hs ∧ H st = some (.tup [.int (s0 : Int), .int (s1 : Int)]) ∧ s0 ≤ a ∧ a < e ∧ e < k ∧ s1 ≤ e ∧ k < hs.length ∧ hs.length ≤ 900 ∧ m ≤ 1000 ∧ n ≤ 1000 ∧ Sz n c ∧ Sz 1 sg ∧ 2 * c * (nmo hs k - nmo hs a) < sg * nsd hs a e k ∧ ∀ H', Same H H' → Q (.bl true) H'
theorem inV_ints {k : Int} {ns : List Int} (h : k ∈ ns) : inV (.int k) (ns.map V.int) = true := by
  unfold inV
  rw [List.any_eq_true]
  exact ⟨.int k, List.mem_map.mpr ⟨k, h, rfl⟩, by simp [eqV]⟩
theorem flat_ints (ns : List Int) : (ns.map V.int).all flatV = true := by
  rw [List.all_eq_true]
  intro x hx
  obtain ⟨k, _, rfl⟩ := List.mem_map.mp hx
  rfl
noncomputable def moms (hs : List Nn) : List Int := hs.map fun x => x.2.1
theorem moms_at {hs : List Nn} {i : Nat} (hi : i < hs.length) : (moms hs)[i]? = some (nmo hs i) := by
  unfold moms nmo
  rw [List.getElem?_map, List.getElem?_eq_getElem hi]
  rfl
theorem moms_eq {hs : List Nn} (hr : nrising hs) {i j : Nat} (hi : i < hs.length) (h : (moms hs)[j]? = some (nmo hs i)) : j = i := by
  have hj : j < hs.length := by
    have := (List.getElem?_eq_some_iff.mp h).1
    unfold moms at this
    simpa using this
  rw [moms_at hj] at h
  have e : nmo hs j = nmo hs i := Option.some.inj h
  rcases Nat.lt_trichotomy i j with z | z | z
  · have := nmo_lt hr z hj; omega
  · exact z.symm
  · have := nmo_lt hr z hi; omega
theorem sc_law_over : FnScope ["_law_lead", "_law_sample_here", "_law_edge"] ["_law_lead", "_law_sample_here", "_law_edge"] (defScope s_law_over) := ⟨rfl, rfl, rfl, by decide +kernel, rfl, by decide +kernel, by decide +kernel⟩
theorem ok_law_over (F : Fun K "_law_over" "_law_over" s_law_over f fd) : FnOk P w K mg base CX0 1 f fd ["_law_lead", "_law_sample_here", "_law_edge"] spOverN := by
  refine F.ok sc_law_over (fun vs H Q E h => ?_) (fun cdv A outer s H vs Q E hr h => ?_)
  · obtain ⟨y, x, r, n, t, d, p, m, z, e, N, rfl, _⟩ := h
    rfl
  obtain ⟨y, x, r, n, t, d, p, m, z, e, N, rfl, ey, ex, zr, zn, zt, zd, zm, ze, hN, k⟩ := h
  have z1 : IntMulOk (d - e) n := mulOk (zd.sub ze) zn (by walk_at "o")
  have z2 : IntMulOk r (m - t) := mulOk zr (zm.sub zt) (by walk_at "o")
  refine Jd.go ⟨_, (J.h (J.j (J.g op_add (J.g op_mulB (J.g op_sub (J.d (ixT K) (J.a 0) J.c (fun _ _ => rfl)) (J.a 2)) (J.d (ixT K) (J.a 0) J.c (fun _ _ => rfl))) (J.g op_mulB (J.d (ixT K) (J.a 0) J.c (fun _ _ => rfl)) (J.g op_sub (J.d (ixT K) (J.a 1) J.c (fun _ _ => rfl)) (J.d (ixT K) (J.a 0) J.c (fun _ _ => rfl))))))), ?_⟩
  walk_at "v"
  exact k
theorem sc_law_three : FnScope ["_law_three_here", "_law_some", "_law_starts", "_law_k", "_law_bound", "_law_sign", "_law_places", "_law_moments", "_law_moment", "_law_i", "_law_j", "_law_last"] ["_law_three_here", "_law_some", "_law_starts", "_law_k", "_law_bound", "_law_sign"] (defScope s_law_three) := ⟨rfl, rfl, rfl, by decide +kernel, rfl, by decide +kernel, by decide +kernel⟩
theorem ok_law_three (F : Fun K "_law_three" "_law_three" s_law_three f fd) (T : Txt mg) (D_law_stand : Dn P w K mg base 1 "_law_stand" ["_law_one", "_law_mid", "_law_last"] spStandN) : FnOk P w K mg base CX0 2 f fd ["_law_three_here", "_law_some", "_law_starts", "_law_k", "_law_bound", "_law_sign"] spThreeN := by
  refine F.ok sc_law_three (fun vs H Q E h => ?_) (fun cdv A outer s H vs Q E hr h => ?_)
  · obtain ⟨th, l, st, hs, a, e, k, s0, s1, c, sg, m, n, rfl, _⟩ := h
    rfl
  obtain ⟨th, l, st, hs, a, e, kk, s0, s1, c, sg, m, n, rfl, eth, hl, hes, hS, hri, est, h0a, hae, hek, h1e, hk, h900, hm, hn, zc, zs, hst, k⟩ := h
  have hu64 := hr.units
  refine Jd.go ⟨_, (J.f (J.m (Jd.PWpt (Jd.pw_or (J.s (J.r (J.u (isiC K) rfl T.isinstance_ PyProof.Rows.boot_isinstance (J.b (J.a 0) (J.b (Jd.pe_ty rfl T.tuple_ PyProof.Rows.boot_tuple) J.e st_N) st_N) (he := st_N) (hpl := (anyc st_N any0))))) (Jd.pw_or1 (J.l op_ne (J.u (lenC K) rfl T.len_ PySem.boot_len (J.b (J.a 0) J.e st_N) (he := st_N) (hpl := any0)) J.c (nomark _)))))
      (J.h (J.j Jd.pe_bl))
      J.n)
      (J.f (J.k (i := 6) sc_law_three.nd rfl (Or.inl rfl) (Jd.pe_lst J.e) (hs := sw_L))
      (J.f (Jd.ps_comp (O := ["_law_one"]) (N' := []) (cap := []) (i := 7) sc_law_three.nd rfl (Or.inl rfl) rfl (Jd.piL K (J.a 1)) (fun _ _ _ _ _ => (J.o (i := 0) (show List.Nodup [("_law_one" : Str)] by decide +kernel) rfl (Or.inl rfl))) (fun _ _ _ _ _ => Jd.pts_nil) (fun _ _ _ _ _ => (J.d (ixT K) (J.a 0) J.c (fun _ _ => rfl))) rfl trivial rfl (by decide +kernel) rfl (by decide +kernel) (by rfl))
      (J.f (Jd.ps_for PassesOwn.never rfl (Jd.piT K (J.a 0)) (J.o (i := 8) sc_law_three.nd rfl (Or.inl rfl))
      (J.f (J.m (Jd.PWpt (Jd.pw_or (J.r (J.u (isiC K) rfl T.isinstance_ PyProof.Rows.boot_isinstance (J.b (J.a 8) (J.b (Jd.pe_ty rfl T.bool_ PyProof.Rows.boot_bool) J.e st_N) st_N) (he := st_N) (hpl := (anyc st_N any0)))) (Jd.pw_or (J.s (J.r (J.u (isiC K) rfl T.isinstance_ PyProof.Rows.boot_isinstance (J.b (J.a 8) (J.b (Jd.pe_ty rfl T.int_ PyProof.Rows.boot_int) J.e st_N) st_N) (he := st_N) (hpl := (anyc st_N any0))))) (Jd.pw_or1 (J.l (notInSeq K) (J.a 8) (J.a 7) rfl)))))
      (J.h (J.j Jd.pe_bl))
      J.n)
      (J.h (Jd.ps_expr (Jd.appC K (J.a 6) (Jd.idxC K (J.a 7) (J.a 8))) (hs := sw_K)))))
      (J.f (Jd.ps_asg (J.a 6) (Jd.pgL K (n := 3) rfl (J.t (J.o (i := 9) sc_law_three.nd rfl (Or.inl rfl)) (J.t (J.o (i := 10) sc_law_three.nd rfl (Or.inl rfl)) (J.t (J.o (i := 11) sc_law_three.nd rfl (Or.inl rfl)) Jd.pgs_nil)))))
      (J.f (J.m (Jd.PWpt (Jd.pw_or (J.l op_ne (J.a 11) (J.a 3) (nomark _)) (Jd.pw_or (J.s (Jd.pt_chain3 op_le op_lt op_lt (J.d (ixT K) (J.a 2) J.c (fun _ _ => rfl)) (J.a 9) (J.a 10) (J.a 3))) (Jd.pw_or1 (J.l op_lt (J.a 10) (J.d (ixT K) (J.a 2) J.c (fun _ _ => rfl)) (nomark _))))))
      (J.h (J.j Jd.pe_bl))
      J.n)
      (J.h (J.j (Jd.pe_cmpR op_gt (J.g op_mulB (J.a 5) (J.i D_law_stand (hr.mono (by decide)) rfl (J.b (J.d (ixL K) (J.a 1) (J.a 9) (fun _ _ => rfl)) (J.b (J.d (ixL K) (J.a 1) (J.a 10) (fun _ _ => rfl)) (J.b (J.d (ixL K) (J.a 1) (J.a 3) (fun _ _ => rfl)) J.e st_S) st_S) st_S) (he := st_S) (hpl := (anyc st_S (anyc st_S any0))))) (J.g op_mulB (J.g op_mulB J.c (J.a 4)) (J.g op_sub (J.d (ixT K) (J.d (ixL K) (J.a 1) (J.a 3) (fun _ _ => rfl)) J.c (fun _ _ => rfl)) (J.d (ixT K) (J.d (ixL K) (J.a 1) (J.a 9) (fun _ _ => rfl)) J.c (fun _ _ => rfl)))) (nomark _)))))))))), ?_⟩
  walk_at "v"
  refine r_isi (.tup eth) kit_tt ?_
  walk_at "v"
  refine iteF ?_
  walk_at "v"
  refine r_len (.inr (SqT.of eth)) ?_
  walk_at "v"
  refine iteF ?_
  walk_at "v"
  refine r_new (mk := .lst) (by simp) fun pl H3 s3 n3 e3 => ?_
  walk_at "v"
  refine r_iL ?_
  walk_at "v"
  refine ⟨l, rfl, ⟨_, SqL.of (s3 _ _ hl)⟩, ?_⟩
  refine compB_of (xs := nvals hs) tells_list (fun H4 s4 => SqL.of (s4 _ _ (s3 _ _ hl))) (by rw [nvals_len]; walk_at "o") (fun i ys G => ys = ((moms hs).take i).map V.int) rfl ?_ ?_
  · rintro D i x ys H4 σ0 N N0 h0 hD eD s4 hx hy rfl kY kN
    obtain ⟨y, hy, rfl⟩ := nvals_at hx
    have hi : i < hs.length := (List.getElem?_eq_some_iff.mp hy).1
    obtain ⟨xi, gi, ei, zm, zz⟩ := nn_at (hes.up (s3.trans s4)) hS hi
    rw [hy] at gi
    cases gi
    refine r_own1 h0 ?_
    walk_at "v"
    refine iteT ?_
    walk_at "v"
    refine kY _ H4 (Same.refl _) ?_
    rw [List.take_succ, moms_at hi, List.map_append]
    rfl
  rintro D ys H4 hD eD s4 hy rfl
  rw [nvals_len, show hs.length = (moms hs).length by unfold moms; rw [List.length_map], List.take_length] at eD
  have s04 := s3.trans s4
  have eth4 := s04 _ _ eth
  have e4 := s4 _ _ e3
  have npl : pl ≠ D := fun z => by rw [z, hD] at e3; cases e3
  have pick : ∀ j : Nat, ∀ y : V, [V.int (nmo hs a), V.int (nmo hs e), V.int (nmo hs kk)][j]? = some y → ∃ t : Nat, y = .int (nmo hs t) ∧ t < hs.length ∧ [a, e, kk][j]? = some t := fun j y hy => by
    match j, hy with
    | 0, hy => cases hy; exact ⟨a, rfl, by walk_at "o", rfl⟩
    | 1, hy => cases hy; exact ⟨e, rfl, by walk_at "o", rfl⟩
    | 2, hy => cases hy; exact ⟨kk, rfl, hk, rfl⟩
    | n + 3, hy => cases hy
  walk_at "v"
  refine ⟨_, rfl, th, rfl, ⟨_, SqT.of eth4⟩, for_tup (K := K) (a := th) (xs := [.int (nmo hs a), .int (nmo hs e), .int (nmo hs kk)]) (fun j σ H5 => Kp (fun b => b = pl) H4 H5 ∧ H5 pl = some (.lst (([a, e, kk].take j).map fun t : Nat => V.int (t : Int))) ∧ ∃ v9 v10 v11 v12 : Option V, σ = [some (.ref th), some (.ref l), some (.ref st), some (.int (kk : Int)), some (.int c), some (.int sg), some (.ref pl), some (.ref D), v9, v10, v11, v12]) ⟨Kp.of (Same.refl _), e4, none, none, none, none, rfl⟩ (fun _ σ H2 _ ⟨kp, _⟩ => SqT.of (kp _ _ (fun z => by rw [z, e4] at eth4; cases eth4) eth4)) ?_ ?_⟩
  · rintro j y σ H5 hj ⟨kp, epl, v9, v10, v11, v12, rfl⟩
    obtain ⟨t, rfl, ht, hat⟩ := pick j y hj
    have eD5 := kp _ _ (Ne.symm npl) eD
    have hmem : nmo hs t ∈ moms hs := List.mem_of_getElem? (moms_at ht)
    walk_at "v"
    refine r_isi (.int _) kit_ib ?_
    walk_at "v"
    refine iteF ?_
    walk_at "v"
    refine r_isi (.int _) kit_ii ?_
    walk_at "v"
    refine iteF ?_
    walk_at "v"
    refine ⟨D, _, rfl, .inl (SqL.of eD5), rfl, flat_ints _, ?_⟩
    rw [inV_ints hmem]
    walk_at "v"
    refine iteF ?_
    walk_at "v"
    refine ⟨.inl ⟨rfl, _, SqL.of epl⟩, ?_⟩
    walk_at "v"
    refine ⟨.inl ⟨rfl, _, SqL.of eD5⟩, ?_⟩
    walk_at "v"
    refine r_idx eD5 (by unfold moms; rw [List.length_map]; walk_at "o") hmem fun jj hjj => ?_
    obtain rfl := moms_eq hri ht hjj
    walk_at "v"
    refine r_app epl (by rw [List.length_map, List.length_take]; exact small1000 (by simp; omega)) ?_
    walk_at "v"
    refine ⟨kp.upd rfl, ?_, _, _, _, _, rfl⟩
    rw [upd_same, List.take_succ, hat, List.map_append]
    rfl
  · rintro σ H5 ⟨kp, epl, v9, v10, v11, v12, rfl⟩
    have epl' : H5 pl = some (.lst [.int (a : Int), .int (e : Int), .int (kk : Int)]) := epl
    have sH5 : Same H H5 := fun b' o eo => kp _ _ (ne_of_none eo n3) (s04 _ _ eo)
    have est5 := sH5 _ _ est
    have hl5 := sH5 _ _ hl
    obtain ⟨xi, gi, ei, zi1, zi2⟩ := nn_at (hes.up sH5) hS (show a < hs.length by walk_at "o")
    obtain ⟨xj, gj, ej, zj1, zj2⟩ := nn_at (hes.up sH5) hS (show e < hs.length by walk_at "o")
    obtain ⟨xk, gk, ek, zk1, zk2⟩ := nn_at (hes.up sH5) hS hk
    walk_at "v"
    refine r_asg ?_
    walk_at "v"
    refine r_unlist3 epl' ?_
    walk_at "v"
    rw [show decide ((kk : Int) = (kk : Int)) = true from decide_eq_true rfl]
    refine iteF ?_
    walk_at "v"
    refine r_chain3 ?_
    walk_at "v"
    rw [show decide ((s0 : Int) ≤ (a : Int)) = true from decide_eq_true (by walk_at "o")]
    refine iteT ?_
    walk_at "v"
    rw [show decide ((a : Int) < (e : Int)) = true from decide_eq_true (by walk_at "o")]
    refine iteT ?_
    walk_at "v"
    rw [show decide ((e : Int) < (kk : Int)) = true from decide_eq_true (by walk_at "o")]
    refine iteF ?_
    walk_at "v"
    rw [show decide ((e : Int) < (s1 : Int)) = false from decide_eq_false (by walk_at "o")]
    refine iteF ?_
    walk_at "v"
    refine r_l hl5 (at_nval gi rfl) ?_
    walk_at "v"
    refine r_l hl5 (at_nval gj rfl) ?_
    walk_at "v"
    refine r_l hl5 (at_nval gk rfl) ?_
    walk_at "v"
    refine ⟨xi.1, xj.1, xk.1, _, _, _, _, _, _, m, n, rfl, ei, ej, ek, zi1, zj1, zk1, zi2, zj2, zk2, by walk_at "o", ?_⟩
    have zst := nst_sz zi1 zj1 zk1 zi2 zj2 zk2
    have i1 : IntMulOk sg (nst (nmo hs a) (nno hs a) (nmo hs e) (nno hs e) (nmo hs kk) (nno hs kk)) := mulOk zs zst (by walk_at "o")
    have i2 : IntMulOk (2 * c) (nmo hs kk - nmo hs a) := mulOk ((show Sz 2 (2 : Int) by decide).mul zc) (zk1.sub zi1) (by walk_at "o")
    walk_at "v"
    refine r_l hl5 (at_nval gk rfl) ?_
    walk_at "v"
    refine r_l hl5 (at_nval gi rfl) ?_
    walk_at "v"
    rw [decide_eq_true (show 2 * c * (nmo hs kk - nmo hs a) < sg * nst (nmo hs a) (nno hs a) (nmo hs e) (nno hs e) (nmo hs kk) (nno hs kk) from hst)]
    exact k H5 sH5
end

theorem low_take {es : List En} {B : Rat} {k i j : Nat} (hi : i < k) (hj : j < k) : lowS (es.take k) B i j = lowS es B i j ∧ highS (es.take k) B i j = highS es B i j := by
  unfold lowS highS
  rw [mo_take hi, wo_take hi, mo_take hj, wo_take hj]
  exact ⟨rfl, rfl⟩
section
variable {es : List En} {β : Rat} {fl ro k q p : Nat}
theorem LeadL.gf (hk : k ≤ es.length) (h : LeadL es (2 * β) fl ro k q p) : GF (es.take k) (2 * β) fl ro (lowS es (2 * β) q p) := by
  have tl : (es.take k).length = k := by rw [List.length_take]; omega
  obtain ⟨h1, h2, h3, h4, h5⟩ := h
  refine ⟨fun q' p' a1 a2 a3 a4 => ?_, q, p, h1, h2, h3, by rw [tl]; exact h4, (low_take (by omega) h4).1⟩
  rw [tl] at a4
  rw [(low_take (by omega) a4).1]
  exact (h5 q' p' a1 a2 a3 a4).1
theorem LeadH.sf (hk : k ≤ es.length) (h : LeadH es (2 * β) fl ro k q p) : SF (es.take k) (2 * β) fl ro (highS es (2 * β) q p) := by
  have tl : (es.take k).length = k := by rw [List.length_take]; omega
  obtain ⟨h1, h2, h3, h4, h5⟩ := h
  refine ⟨fun q' p' a1 a2 a3 a4 => ?_, q, p, h1, h2, h3, by rw [tl]; exact h4, (low_take (by omega) h4).2⟩
  rw [tl] at a4
  rw [(low_take (by omega) a4).2]
  exact (h5 q' p' a1 a2 a3 a4).1
theorem LeadL.top (hβ : 0 ≤ β) (hr : rising es) (hk : k ≤ es.length) {g s : Option Rat} (hP : BdP (es.take k) fl ro β g s) (h : LeadL es (2 * β) fl ro k q p) : g = some (lowS es (2 * β) q p) ∧ ∀ i, fl ≤ i → i < k → lev es (lowS es (2 * β) q p) i ≤ lev es (lowS es (2 * β) q p) p := by
  have tl : (es.take k).length = k := by rw [List.length_take]; omega
  have gf := h.gf hk
  obtain ⟨h1, h2, h3, h4, h5⟩ := h
  have eg : g = some (lowS es (2 * β) q p) := by
    have go := hP.go
    cases g with
    | none => exact absurd (show p < (es.take k).length by rw [tl]; exact h4) (go q p h1 h2 h3)
    | some G => rw [GF.uniq go gf]
  refine ⟨eg, fun i hi hl => ?_⟩
  obtain ⟨g1, g2⟩ := hP.hiG eg
  have := bear (a := q) (b := i) (by grind) hP.ris g1.1 g2 h1 hi (by rw [tl]; omega) (by rw [tl]; exact hl)
  rw [lev_take hl, lev_take (show q < k by omega)] at this
  have e := (low_is (G := lowS es (2 * β) q p) hr h2 (by omega)).mp rfl
  grind
theorem LeadH.bot (hβ : 0 ≤ β) (hr : rising es) (hk : k ≤ es.length) {g s : Option Rat} (hP : BdP (es.take k) fl ro β g s) (h : LeadH es (2 * β) fl ro k q p) : s = some (highS es (2 * β) q p) ∧ ∀ i, ro ≤ i → i < k → lev es (highS es (2 * β) q p) p ≤ lev es (highS es (2 * β) q p) i := by
  have tl : (es.take k).length = k := by rw [List.length_take]; omega
  have sf := h.sf hk
  obtain ⟨h1, h2, h3, h4, h5⟩ := h
  have eg : s = some (highS es (2 * β) q p) := by
    have so := hP.so
    cases s with
    | none => exact absurd (show p < (es.take k).length by rw [tl]; exact h4) (so q p h1 h2 h3)
    | some S => rw [SF.uniq so sf]
  refine ⟨eg, fun i hi hl => ?_⟩
  obtain ⟨g1, g2⟩ := hP.loS eg
  have := bear (a := i) (b := q) (by grind) hP.ris g2 g1.1 hi h1 (by rw [tl]; exact hl) (by rw [tl]; omega)
  rw [lev_take hl, lev_take (show q < k by omega)] at this
  have e := (high_is (S := highS es (2 * β) q p) hr h2 (by omega)).mp rfl
  grind
theorem LeadL.last (hβ : 0 ≤ β) (hr : rising es) (hk : k ≤ es.length) {s : Option Rat} {m : Int} {w G f : Rat} {a b : Nat} (hP : BdP (es.take k) fl ro β (some G) s) (h : LeadL es (2 * β) fl ro k q p) (hC : CapAt (es.take k) β fl ro m w G f a b) : b = p := by
  have tl : (es.take k).length = k := by rw [List.length_take]; omega
  obtain ⟨eg, top⟩ := h.top hβ hr hk hP
  have eG : G = lowS es (2 * β) q p := Option.some.inj eg
  obtain ⟨h1, h2, h3, h4, h5⟩ := h
  have hb := hC.lb
  rw [tl] at hb
  have eb := hC.eb
  rw [lev_take hb] at eb
  have l1 := top b hC.hb hb
  have l2 := hC.lo p h3 (by rw [tl]; exact h4)
  rw [lev_take h4] at l2
  rw [← eG] at l1
  have ep : lev es G p = lev es G b := by grind
  rcases Nat.lt_trichotomy b p with z | z | z
  · have := hC.fb p z (by rw [tl]; exact h4)
    rw [lev_take h4] at this
    exact absurd (by grind) this
  · exact z
  · have e := (low_is (G := G) hr h2 (by omega)).mp eG.symm
    have e2 := (low_is (B := 2 * β) (G := G) hr (show q < b by omega) (by omega)).mpr (by rw [← ep]; exact e)
    have := (h5 q b h1 (by omega) hC.hb hb).2 z
    rw [e2, ← eG] at this
    exact absurd this Rat.lt_irrefl
theorem LeadH.last (hβ : 0 ≤ β) (hr : rising es) (hk : k ≤ es.length) {g : Option Rat} {m : Int} {w S f : Rat} {a b : Nat} (hP : BdP (es.take k) fl ro β g (some S)) (h : LeadH es (2 * β) fl ro k q p) (hC : CupAt (es.take k) β fl ro m w S f a b) : b = p := by
  have tl : (es.take k).length = k := by rw [List.length_take]; omega
  obtain ⟨eg, bot⟩ := h.bot hβ hr hk hP
  have eG : S = highS es (2 * β) q p := Option.some.inj eg
  obtain ⟨h1, h2, h3, h4, h5⟩ := h
  have hb := hC.lb
  rw [tl] at hb
  have eb := hC.eb
  rw [lev_take hb] at eb
  have l1 := bot b hC.hb hb
  have l2 := hC.hi p h3 (by rw [tl]; exact h4)
  rw [lev_take h4] at l2
  rw [← eG] at l1
  have ep : lev es S p = lev es S b := by grind
  rcases Nat.lt_trichotomy b p with z | z | z
  · have := hC.fb p z (by rw [tl]; exact h4)
    rw [lev_take h4] at this
    exact absurd (by grind) this
  · exact z
  · have e := (high_is (S := S) hr h2 (by omega)).mp eG.symm
    have e2 := (high_is (B := 2 * β) (S := S) hr (show q < b by omega) (by omega)).mpr (by rw [← ep]; exact e)
    have := (h5 q b h1 (by omega) hC.hb hb).2 z
    rw [e2, ← eG] at this
    exact absurd this Rat.lt_irrefl
end
theorem over_iff {es : List En} {hs : List Nn} {b c : Int} (h : es.map (·.2) = hs.map (fun x => nworth b x.2)) (hb : 1 ≤ b) (hr : nrising hs) {q p k : Nat} (h1 : q < p) (h2 : p < hs.length) :
    (0 < (nno hs p - c - (nno hs k + c)) * (nmo hs p - nmo hs q) + rsL hs c q p * (nmo hs k - nmo hs p) ↔ wo es k - lowS es (2 * ((c : Rat) / (b : Rat))) q p * (mo es k : Rat) + 2 * ((c : Rat) / (b : Rat)) < lev es (lowS es (2 * ((c : Rat) / (b : Rat))) q p) p) ∧
    ((nno hs p + c - (nno hs k - c)) * (nmo hs p - nmo hs q) + rsH hs c q p * (nmo hs k - nmo hs p) < 0 ↔ lev es (highS es (2 * ((c : Rat) / (b : Rat))) q p) p + 2 * ((c : Rat) / (b : Rat)) < wo es k - highS es (2 * ((c : Rat) / (b : Rat))) q p * (mo es k : Rat)) := by
  obtain ⟨e1, e2⟩ := low_num (c := c) h hb hr h1 h2
  have hp : (0 : Rat) < (((nmo hs p - nmo hs q) * b : Int) : Rat) := cast_pos (Int.mul_pos (by have := nmo_lt hr h1 h2; omega) (by omega))
  have bn := cast_ne (b := b) (by omega)
  obtain ⟨m1, w1⟩ := link_at h k
  obtain ⟨m2, w2⟩ := link_at h p
  generalize lowS es (2 * ((c : Rat) / (b : Rat))) q p = G at *
  generalize highS es (2 * ((c : Rat) / (b : Rat))) q p = S at *
  unfold lev
  rw [m1, w1, m2, w2]
  generalize rsL hs c q p = r at *
  generalize rsH hs c q p = r' at *
  have t1 : (((nno hs p - c - (nno hs k + c)) * (nmo hs p - nmo hs q) + r * (nmo hs k - nmo hs p) : Int) : Rat) = ((nno hs p : Rat) / (b : Rat) - G * (nmo hs p : Rat) - ((nno hs k : Rat) / (b : Rat) - G * (nmo hs k : Rat)) - 2 * ((c : Rat) / (b : Rat))) * (((nmo hs p - nmo hs q) * b : Int) : Rat) := by
    simp only [Rat.intCast_mul, Rat.intCast_sub, Rat.intCast_add] at *
    rw [← e1]
    grind
  have t2 : (((nno hs p + c - (nno hs k - c)) * (nmo hs p - nmo hs q) + r' * (nmo hs k - nmo hs p) : Int) : Rat) = ((nno hs p : Rat) / (b : Rat) - S * (nmo hs p : Rat) - ((nno hs k : Rat) / (b : Rat) - S * (nmo hs k : Rat)) + 2 * ((c : Rat) / (b : Rat))) * (((nmo hs p - nmo hs q) * b : Int) : Rat) := by
    simp only [Rat.intCast_mul, Rat.intCast_sub, Rat.intCast_add] at *
    rw [← e2]
    grind
  generalize (((nmo hs p - nmo hs q) * b : Int) : Rat) = D at *
  constructor
  · rw [← Rat.intCast_lt_intCast, t1]
    have z0 : ((0 : Int) : Rat) = 0 * D := by rw [Rat.zero_mul]; rfl
    rw [z0]
    constructor
    · intro z
      have := Rat.lt_of_mul_lt_mul_right z (Rat.le_of_lt hp)
      grind
    · intro z
      exact Rat.mul_lt_mul_of_pos_right (by grind) hp
  · rw [← Rat.intCast_lt_intCast, t2]
    have z0 : ((0 : Int) : Rat) = 0 * D := by rw [Rat.zero_mul]; rfl
    rw [z0]
    constructor
    · intro z
      have := Rat.lt_of_mul_lt_mul_right z (Rat.le_of_lt hp)
      grind
    · intro z
      exact Rat.mul_lt_mul_of_pos_right (by grind) hp

section
variable {es es' : List En} (h : es.map (·.2) = es'.map (·.2))
include h
theorem mo_same : mo es = mo es' := funext fun k => by
  have e : (es.map (·.2))[k]? = (es'.map (·.2))[k]? := by rw [h]
  rw [List.getElem?_map, List.getElem?_map] at e
  unfold mo
  cases e1 : es[k]? with
  | none =>
    rw [e1] at e
    cases e2 : es'[k]? with
    | none => rfl
    | some y => rw [e2] at e; cases e
  | some x =>
    rw [e1] at e
    cases e2 : es'[k]? with
    | none => rw [e2] at e; cases e
    | some y =>
      rw [e2] at e
      have q : x.2 = y.2 := Option.some.inj e
      show x.2.1 = y.2.1
      rw [q]
theorem wo_same : wo es = wo es' := funext fun k => by
  have e : (es.map (·.2))[k]? = (es'.map (·.2))[k]? := by rw [h]
  rw [List.getElem?_map, List.getElem?_map] at e
  unfold wo
  cases e1 : es[k]? with
  | none =>
    rw [e1] at e
    cases e2 : es'[k]? with
    | none => rfl
    | some y => rw [e2] at e; cases e
  | some x =>
    rw [e1] at e
    cases e2 : es'[k]? with
    | none => rw [e2] at e; cases e
    | some y =>
      rw [e2] at e
      have q : x.2 = y.2 := Option.some.inj e
      show x.2.2.getD 0 = y.2.2.getD 0
      rw [q]
theorem ln_same : es.length = es'.length := by
  have := congrArg List.length h
  simpa using this
theorem lev_same : lev es = lev es' := by
  funext T i
  unfold lev
  rw [mo_same h, wo_same h]
theorem low_same : lowS es = lowS es' ∧ highS es = highS es' := by
  constructor
  · funext B i j
    unfold lowS
    rw [mo_same h, wo_same h]
  · funext B i j
    unfold highS
    rw [mo_same h, wo_same h]
theorem BdP.cong {fl ro : Nat} {β : Rat} {g s : Option Rat} (p : BdP es fl ro β g s) : BdP es' fl ro β g s := by
  have hl := ln_same h
  obtain ⟨h1, h2⟩ := low_same h
  refine ⟨fun x hx => ?_, ?_, by rw [← hl]; exact p.hfl, by rw [← hl]; exact p.hro, by rw [← hl]; exact p.lt, ?_, ?_, p.le, p.df⟩
  · have : x.2 ∈ es'.map (·.2) := List.mem_map.mpr ⟨x, hx, rfl⟩
    rw [← h] at this
    obtain ⟨y, hy, e⟩ := List.mem_map.mp this
    have := p.all y hy
    show x.2.2.isSome = true
    rw [← e]
    exact this
  · have k : (es.map fun x => x.2.1).Pairwise (· < ·) := List.pairwise_map.mpr p.ris
    have e : es.map (fun x => x.2.1) = es'.map (fun x => x.2.1) := by
      have := congrArg (List.map Prod.fst) h
      rw [List.map_map, List.map_map] at this
      exact this
    rw [e] at k
    exact List.pairwise_map.mp k
  · have go := p.go
    cases g with
    | none =>
      intro q p' a b c
      rw [← hl]
      exact go q p' a b c
    | some G =>
      show GF es' (2 * β) fl ro G
      have go' : GF es (2 * β) fl ro G := go
      unfold GF LoP at go' ⊢
      rw [h1, hl] at go'
      exact go'
  · have so := p.so
    cases s with
    | none =>
      intro q p' a b c
      rw [← hl]
      exact so q p' a b c
    | some S =>
      show SF es' (2 * β) fl ro S
      have so' : SF es (2 * β) fl ro S := so
      unfold SF HiP at so' ⊢
      rw [h2, hl] at so'
      exact so'
theorem NoTurn.cong {fl ro : Nat} {β : Rat} {g s : Option Rat} {m : Int} {q : Rat} (p : NoTurn es β fl ro g s m q) : NoTurn es' β fl ro g s m q := by
  unfold NoTurn at p ⊢
  rw [lev_same h, ln_same h] at p
  exact p
theorem CapAt.cong {fl ro : Nat} {β : Rat} {m : Int} {q G f : Rat} {a b : Nat} (p : CapAt es β fl ro m q G f a b) : CapAt es' β fl ro m q G f a b := by
  obtain ⟨p1, p2, p3, p4, p5, p6, p7, p8, p9, p10, p11⟩ := p
  unfold GF LoP at p1
  rw [(low_same h).1, ln_same h] at p1
  rw [lev_same h] at p2 p3 p4 p6 p9 p10
  rw [ln_same h] at p2 p3 p4 p8 p10
  exact ⟨p1, p2, p3, p4, p5, p6, p7, p8, p9, p10, p11⟩
theorem CupAt.cong {fl ro : Nat} {β : Rat} {m : Int} {q S f : Rat} {a b : Nat} (p : CupAt es β fl ro m q S f a b) : CupAt es' β fl ro m q S f a b := by
  obtain ⟨p1, p2, p3, p4, p5, p6, p7, p8, p9, p10, p11⟩ := p
  unfold SF HiP at p1
  rw [(low_same h).2, ln_same h] at p1
  rw [lev_same h] at p2 p3 p4 p6 p9 p10
  rw [ln_same h] at p2 p3 p4 p8 p10
  exact ⟨p1, p2, p3, p4, p5, p6, p7, p8, p9, p10, p11⟩
end
theorem NowAt.cong {es es' : List En} (h : es.map (·.2) = es'.map (·.2)) {β : Rat} {fl : Nat} {g s : Option Rat} {T f : Rat} (p : NowAt es β fl g s T f) : NowAt es' β fl g s T f := by
  unfold NowAt at p ⊢
  rw [lev_same h, ln_same h, wo_same h] at p
  exact p

section
variable {H H2 H3 : Hp} {T R : Addr} {ls : List (Addr × List V)} {rn : List V}
end
section
variable {P : Program} {w : World} {K : PySem.W.Frag} {mg : Str → Option Value} {base : Heap} {f : Addr} {fd : FuncData}
end
noncomputable def gh (hs : List Nn) (b : Int) : List En := hs.map fun x => (x.1, nworth b x.2)
theorem gh_map (hs : List Nn) (b : Int) : (gh hs b).map (·.2) = hs.map (fun x => nworth b x.2) := by unfold gh; rw [List.map_map]; rfl
theorem gh_len (hs : List Nn) (b : Int) : (gh hs b).length = hs.length := List.length_map ..
noncomputable def LvL (hs : List Nn) (b c : Int) (fl ro k : Nat) (H : Hp) (v : V) : Prop := (v = .non ∧ ∀ q p, ro ≤ q → q < p → fl ≤ p → ¬ p < k) ∨ ∃ (y : Addr) (q p : Nat), v = .ref y ∧ H y = some (.tup (ldL hs c q p)) ∧ LeadL (gh hs b) (2 * ((c : Rat) / (b : Rat))) fl ro k q p
noncomputable def LvH (hs : List Nn) (b c : Int) (fl ro k : Nat) (H : Hp) (v : V) : Prop := (v = .non ∧ ∀ q p, fl ≤ q → q < p → ro ≤ p → ¬ p < k) ∨ ∃ (y : Addr) (q p : Nat), v = .ref y ∧ H y = some (.tup (ldH hs c q p)) ∧ LeadH (gh hs b) (2 * ((c : Rat) / (b : Rat))) fl ro k q p
theorem LvL.up {hs : List Nn} {b c : Int} {fl ro k : Nat} {H H' : Hp} {v : V} (h : LvL hs b c fl ro k H v) (s : Same H H') : LvL hs b c fl ro k H' v := by
  rcases h with z | ⟨y, q, p, e, ey, r⟩
  · exact .inl z
  · exact .inr ⟨y, q, p, e, s _ _ ey, r⟩
theorem LvH.up {hs : List Nn} {b c : Int} {fl ro k : Nat} {H H' : Hp} {v : V} (h : LvH hs b c fl ro k H v) (s : Same H H') : LvH hs b c fl ro k H' v := by
  rcases h with z | ⟨y, q, p, e, ey, r⟩
  · exact .inl z
  · exact .inr ⟨y, q, p, e, s _ _ ey, r⟩
theorem nn_pos {b c : Int} (hb : 1 ≤ b) (hc : 0 ≤ c) : (0 : Rat) ≤ (c : Rat) / (b : Rat) := by
  have h1 : (0 : Rat) < (b : Rat) := cast_pos (by omega)
  have h2 : (0 : Rat) ≤ (c : Rat) := by
    have := Rat.intCast_le_intCast.mpr hc
    simpa using this
  exact (rle_div h1).mpr (by grind)
theorem qtr {H : Hp} {q : Rat} {n : Nat} {Q : VK} {t b : Int} (hQ : Qt t b q) (zt : Sz n t) (zb : Sz n b) (hn : n ≤ 8000) (k : ∀ (r : Addr) (H' : Hp), Same H H' → FrAt H' r q n → Q (.ref r) H') : spRatio ([.int t, .int b] ++ []) H Q E0 := by
  have hb := hQ.pos
  refine frac_gen (n := n) (by omega) zt zb hn fun r H' s f => k r H' s ?_
  have e : (t : Rat) / (b : Rat) = q := by
    have := hQ.eq
    have hb' := cast_ne (b := b) (by omega)
    rw [this]
    grind
  rw [e] at f
  exact f
theorem lnEq {H : Hp} {p r : Addr} {s h : Rat} {n m : Nat} {Q : VK} (f : LnAt H p s h n) (f' : LnAt H r s h m) (k : Q (.bl true) H) : rEqD (.ref p) (.ref r) H Q := by
  obtain ⟨a, b, e, fa, fb⟩ := f
  obtain ⟨a', b', e', fa', fb'⟩ := f'
  obtain ⟨t1, d1, D1, F1⟩ := fa.den
  obtain ⟨t2, d2, D2, F2⟩ := fb.den
  obtain ⟨t3, d3, D3, F3⟩ := fa'.den
  obtain ⟨t4, d4, D4, F4⟩ := fb'.den
  refine ⟨_, _, .tup e (.cons D1 (.cons D2 .nil)), .tup e' (.cons D3 (.cons D4 .nil)), rfl, rfl, ?_⟩
  have q : PyData.eqv (.tuple [.tuple [.int t1, .int d1], .tuple [.int t2, .int d2]]) (.tuple [.tuple [.int t3, .int d3], .tuple [.int t4, .int d4]]) = (PyData.eqv (.tuple [.int t1, .int d1]) (.tuple [.int t3, .int d3]) && (PyData.eqv (.tuple [.int t2, .int d2]) (.tuple [.int t4, .int d4]) && true)) := rfl
  rw [q, fr_eqv F1 F3, fr_eqv F2 F4, decide_eq_true rfl, decide_eq_true rfl]
  exact k
noncomputable def datO : Option Rat → PyData
  | none => .none
  | some q => .tuple [.int q.num, .int (q.den : Int)]
theorem OF.den {H : Hp} {v : V} {N : Nat} {e : Option Rat} (f : OF H v N e) : Den H v (datO e) := by
  cases e with
  | none => rw [show v = .non from f]; exact .non
  | some q =>
    obtain ⟨p, rfl, t, b, et, g, _⟩ := f
    obtain ⟨rfl, rfl⟩ := g.num_den
    exact .tup et (.cons (.int _) (.cons (.int _) .nil))
theorem datO_eqv (e1 e2 : Option Rat) : PyData.eqv (.tuple [datO e1, datO e2]) (.tuple [datO e1, datO e2]) = true ∧ SeqAt.shaped (.tuple [datO e1, datO e2]) = true := by
  cases e1 with
  | none =>
    cases e2 with
    | none => exact ⟨by rfl, by rfl⟩
    | some v =>
      refine ⟨?_, by rfl⟩
      show (true && ((v.num == v.num && ((v.den : Int) == (v.den : Int) && true)) && true)) = true
      simp
  | some v =>
    cases e2 with
    | none =>
      refine ⟨?_, by rfl⟩
      show ((v.num == v.num && ((v.den : Int) == (v.den : Int) && true)) && (true && true)) = true
      simp
    | some w =>
      refine ⟨?_, by rfl⟩
      show ((v.num == v.num && ((v.den : Int) == (v.den : Int) && true)) && ((w.num == w.num && ((w.den : Int) == (w.den : Int) && true)) && true)) = true
      simp
theorem room_ne {H : Hp} {y y' : Addr} {v1 v2 w1 w2 : V} {e1 e2 : Option Rat} {N M : Nat} {Q : VK} (h : H y = some (.tup [v1, v2])) (h' : H y' = some (.tup [w1, w2])) (a1 : OF H v1 N e1) (a2 : OF H v2 N e2) (b1 : OF H w1 M e1) (b2 : OF H w2 M e2) (q : Q (.bl false) H) : rNeD (.ref y) (.ref y') H Q := by
  refine ⟨_, _, .tup h (.cons a1.den (.cons a2.den .nil)), .tup h' (.cons b1.den (.cons b2.den .nil)), (datO_eqv e1 e2).2, (datO_eqv e1 e2).2, ?_⟩
  rw [(datO_eqv e1 e2).1]
  exact q
theorem lead_line {hs : List Nn} {b c : Int} {q p : Nat} (hb : 1 ≤ b) (hr : nrising hs) (h1 : q < p) (h2 : p < hs.length) :
    (Qt (rsL hs c q p) ((nmo hs p - nmo hs q) * b) (lowS (gh hs b) (2 * ((c : Rat) / (b : Rat))) q p) ∧ Qt ((nno hs p - c) * (nmo hs p - nmo hs q) - rsL hs c q p * nmo hs p) ((nmo hs p - nmo hs q) * b) (lev (gh hs b) (lowS (gh hs b) (2 * ((c : Rat) / (b : Rat))) q p) p - (c : Rat) / (b : Rat)) ∧ ∀ u : Int, Qt ((nno hs p - c + -c) * (nmo hs p - nmo hs q) + rsL hs c q p * (u - nmo hs p)) ((nmo hs p - nmo hs q) * b) (lev (gh hs b) (lowS (gh hs b) (2 * ((c : Rat) / (b : Rat))) q p) p + lowS (gh hs b) (2 * ((c : Rat) / (b : Rat))) q p * (u : Rat) - 2 * ((c : Rat) / (b : Rat)))) ∧
    (Qt (rsH hs c q p) ((nmo hs p - nmo hs q) * b) (highS (gh hs b) (2 * ((c : Rat) / (b : Rat))) q p) ∧ Qt ((nno hs p + c) * (nmo hs p - nmo hs q) - rsH hs c q p * nmo hs p) ((nmo hs p - nmo hs q) * b) (lev (gh hs b) (highS (gh hs b) (2 * ((c : Rat) / (b : Rat))) q p) p + (c : Rat) / (b : Rat)) ∧ ∀ u : Int, Qt ((nno hs p + c + c) * (nmo hs p - nmo hs q) + rsH hs c q p * (u - nmo hs p)) ((nmo hs p - nmo hs q) * b) (lev (gh hs b) (highS (gh hs b) (2 * ((c : Rat) / (b : Rat))) q p) p + highS (gh hs b) (2 * ((c : Rat) / (b : Rat))) q p * (u : Rat) + 2 * ((c : Rat) / (b : Rat)))) := by
  obtain ⟨e1, e2⟩ := low_num (c := c) (gh_map hs b) hb hr h1 h2
  have pos : 1 ≤ (nmo hs p - nmo hs q) * b := by
    have := Int.mul_pos (show 0 < nmo hs p - nmo hs q by have := nmo_lt hr h1 h2; omega) (show 0 < b by omega)
    omega
  have bn := cast_ne (b := b) (by omega)
  obtain ⟨m2, w2⟩ := link_at (gh_map hs b) p
  generalize lowS (gh hs b) (2 * ((c : Rat) / (b : Rat))) q p = G at *
  generalize highS (gh hs b) (2 * ((c : Rat) / (b : Rat))) q p = S at *
  unfold lev
  rw [m2, w2]
  generalize rsL hs c q p = r at *
  generalize rsH hs c q p = r' at *
  have z : ∀ x : Rat, x / (b : Rat) * (b : Rat) = x := fun x => by grind
  have zp := z (nno hs p : Rat)
  have zc := z (c : Rat)
  refine ⟨⟨⟨pos, e1.symm⟩, ⟨pos, ?_⟩, fun u => ⟨pos, ?_⟩⟩, ⟨pos, e2.symm⟩, ⟨pos, ?_⟩, fun u => ⟨pos, ?_⟩⟩
  all_goals
    simp only [Rat.intCast_mul, Rat.intCast_sub, Rat.intCast_add, Rat.intCast_neg] at *
    generalize (nno hs p : Rat) / (b : Rat) = P' at *
    generalize (c : Rat) / (b : Rat) = C' at *
    first | (rw [← e1, ← zp, ← zc]; grind) | (rw [← e2, ← zp, ← zc]; grind)
noncomputable def spLineN : Sp := fun vs H Q _ => ∃ (y : Addr) (r n t d b : Int) (rest : List V) (s h : Rat) (N : Nat), vs = [.ref y, .int b] ∧ H y = some (.tup (.int r :: .int n :: .int t :: .int d :: rest)) ∧ Qt r (n * b) s ∧ Qt (d * n - r * t) (n * b) h ∧ Sz N r ∧ Sz N n ∧ Sz N t ∧ Sz N d ∧ Sz N b ∧ N ≤ 1000 ∧ ∀ (z : Addr) (H' : Hp), Same H H' → LnAt H' z s h (2 * N + 1) → Q (.ref z) H'
noncomputable def spIsLineD : Sp := fun vs H Q _ => ∃ (p r : Addr) (s h : Rat) (n m : Nat), vs = [.ref p, .ref r] ∧ LnAt H p s h n ∧ LnAt H r s h m ∧ n ≤ 8000 ∧ ∀ H', Same H H' → Q (.bl true) H'
noncomputable def spEndN : Sp := fun vs H Q _ => ∃ (v : V) (u w b : Int), vs = [v, .int u, .int w, .int b] ∧ ((v = .non ∧ Q .non H) ∨ ∃ (y : Addr) (r n t d p : Int) (q : Rat) (N : Nat), v = .ref y ∧ H y = some (.tup [.int r, .int n, .int t, .int d, .int p]) ∧ Qt ((d + w) * n + r * (u - t)) (n * b) q ∧ Sz N r ∧ Sz N n ∧ Sz N t ∧ Sz N d ∧ Sz N b ∧ Sz N u ∧ Sz N w ∧ N ≤ 1000 ∧ ∀ (z : Addr) (H' : Hp), Same H H' → FrAt H' z q (2 * N + 3) → Q (.ref z) H')
theorem LoE.cong {es es' : List En} (h : es.map (·.2) = es'.map (·.2)) {β : Rat} {fl : Nat} {u : Int} {g e : Option Rat} (x : LoE es β fl u g e) : LoE es' β fl u g e := by
  cases e with
  | none => exact x
  | some X =>
    have x' : ∃ G, g = some G ∧ (∀ i, fl ≤ i → i < es.length → lev es G i + G * (u : Rat) - 2 * β ≤ X) ∧ ∃ i, fl ≤ i ∧ i < es.length ∧ lev es G i + G * (u : Rat) - 2 * β = X := x
    rw [lev_same h, ln_same h] at x'
    exact x'
theorem HiE.cong {es es' : List En} (h : es.map (·.2) = es'.map (·.2)) {β : Rat} {ro : Nat} {u : Int} {s e : Option Rat} (x : HiE es β ro u s e) : HiE es' β ro u s e := by
  cases e with
  | none => exact x
  | some X =>
    have x' : ∃ S, s = some S ∧ (∀ i, ro ≤ i → i < es.length → X ≤ lev es S i + S * (u : Rat) + 2 * β) ∧ ∃ i, ro ≤ i ∧ i < es.length ∧ lev es S i + S * (u : Rat) + 2 * β = X := x
    rw [lev_same h, ln_same h] at x'
    exact x'
section
variable {es : List En} {β : Rat} {fl ro k q p : Nat} {g s e : Option Rat} {u : Int}
theorem no_g (hP : BdP (es.take k) fl ro β g s) (hk : k ≤ es.length) (hno : ∀ q p, ro ≤ q → q < p → fl ≤ p → ¬ p < k) : g = none := by
  cases g with
  | none => rfl
  | some G =>
    obtain ⟨q, p, a1, a2, a3, a4, _⟩ := (hP.hiG rfl).1.2
    rw [List.length_take] at a4
    exact absurd (by omega) (hno q p a1 a2 a3)
theorem no_s (hP : BdP (es.take k) fl ro β g s) (hk : k ≤ es.length) (hno : ∀ q p, fl ≤ q → q < p → ro ≤ p → ¬ p < k) : s = none := by
  cases s with
  | none => rfl
  | some S =>
    obtain ⟨q, p, a1, a2, a3, a4, _⟩ := (hP.loS rfl).1.2
    rw [List.length_take] at a4
    exact absurd (by omega) (hno q p a1 a2 a3)
theorem loE_of (hβ : 0 ≤ β) (hr : rising es) (hk : k ≤ es.length) (hP : BdP (es.take k) fl ro β g s) (hL : LeadL es (2 * β) fl ro k q p) (h : LoE (es.take k) β fl u g e) : e = some (lev es (lowS es (2 * β) q p) p + lowS es (2 * β) q p * (u : Rat) - 2 * β) := by
  obtain ⟨eg, top⟩ := hL.top hβ hr hk hP
  obtain ⟨_, _, l3, l4, _⟩ := hL
  have tl : (es.take k).length = k := by rw [List.length_take]; omega
  cases e with
  | none => rw [show g = none from h] at eg; cases eg
  | some X =>
    obtain ⟨G, eg', a, i, i1, i2, i3⟩ := h
    rw [eg] at eg'
    cases eg'
    rw [tl] at i2
    have q1 := a p l3 (by rw [tl]; exact l4)
    rw [lev_take l4] at q1
    rw [lev_take i2] at i3
    have q2 := top i i1 i2
    congr 1
    exact Rat.le_antisymm (by grind) (by grind)
theorem hiE_of (hβ : 0 ≤ β) (hr : rising es) (hk : k ≤ es.length) (hP : BdP (es.take k) fl ro β g s) (hL : LeadH es (2 * β) fl ro k q p) (h : HiE (es.take k) β ro u s e) : e = some (lev es (highS es (2 * β) q p) p + highS es (2 * β) q p * (u : Rat) + 2 * β) := by
  obtain ⟨eg, bot⟩ := hL.bot hβ hr hk hP
  obtain ⟨_, _, l3, l4, _⟩ := hL
  have tl : (es.take k).length = k := by rw [List.length_take]; omega
  cases e with
  | none => rw [show s = none from h] at eg; cases eg
  | some X =>
    obtain ⟨G, eg', a, i, i1, i2, i3⟩ := h
    rw [eg] at eg'
    cases eg'
    rw [tl] at i2
    have q1 := a p l3 (by rw [tl]; exact l4)
    rw [lev_take l4] at q1
    rw [lev_take i2] at i3
    have q2 := bot i i1 i2
    congr 1
    exact Rat.le_antisymm (by grind) (by grind)
end
structure Hs (H : Hp) (l : Addr) (hs : List Nn) (b c : Int) : Prop where
  at_ : H l = some (.lst (nvals hs))
  row : NRow H hs 46 356
  all : AllN hs
  ris : nrising hs
  len : hs.length ≤ 20
  hb : 1 ≤ b
  zb : Sz 356 b
  hc : 0 ≤ c
  zc : Sz 356 c
theorem Hs.up {H H' : Hp} {l : Addr} {hs : List Nn} {b c : Int} (h : Hs H l hs b c) (s : Same H H') : Hs H' l hs b c := ⟨s _ _ h.at_, h.row.up s, h.all, h.ris, h.len, h.hb, h.zb, h.hc, h.zc⟩
theorem Hs.sz {H : Hp} {l : Addr} {hs : List Nn} {b c : Int} (h : Hs H l hs b c) {i : Nat} (hi : i < hs.length) : Sz 46 (nmo hs i) ∧ Sz 356 (nno hs i) := let ⟨_, _, _, a, b⟩ := nn_at h.row h.all hi; ⟨a, b⟩
theorem Hs.rs {H : Hp} {l : Addr} {hs : List Nn} {b c : Int} (h : Hs H l hs b c) {q p : Nat} (hq : q < hs.length) (hp : p < hs.length) : Sz 360 (rsL hs c q p) ∧ Sz 360 (rsH hs c q p) ∧ Sz 360 (nmo hs p - nmo hs q) ∧ Sz 360 (nmo hs p) ∧ Sz 360 (nno hs p - c) ∧ Sz 360 (nno hs p + c) := by
  obtain ⟨a1, a2⟩ := h.sz hq
  obtain ⟨b1, b2⟩ := h.sz hp
  have t := (b2.sub a2).mono (show 356 + 1 ≤ 358 by decide)
  have c2 := ((show Sz 2 (2 : Int) by decide).mul h.zc).mono (show 2 + 356 ≤ 358 by decide)
  exact ⟨(t.sub c2).mono (by decide), (t.add c2).mono (by decide), (b1.sub a1).mono (by decide), b1.mono (by decide), (b2.sub h.zc).mono (by decide), (b2.add h.zc).mono (by decide)⟩
noncomputable def spRoomsN (C : Addr) : Sp := fun vs H Q _ => ∃ (p Lb La pr lm l : Addr) (v0 v1 : V) (ss : List En) (fl ro k : Nat) (us : List Int) (hs : List Nn) (b c : Int) (g s : Option Rat), vs = [.ref p, .ref pr, .ref lm, .int b, .int c] ∧ BdOk C H p Lb La ss fl ro ((c : Rat) / (b : Rat)) 356 356 g s ∧ ss.map (·.2) = ((gh hs b).take k).map (·.2) ∧ H pr = some (.tup [v0, v1]) ∧ LvL hs b c fl ro k H v0 ∧ LvH hs b c fl ro k H v1 ∧ H lm = some (.lst (us.map V.int)) ∧ us.length ≤ 10 ∧ (∀ u ∈ us, Sz 60 u) ∧ Hs H l hs b c ∧ k ≤ hs.length ∧ ∀ H', Same H H' → Q (.bl true) H'
noncomputable def spTakenN (C : Addr) : Sp := fun vs H Q _ => ∃ (p Lb La pr st l : Addr) (v0 v1 : V) (ss : List En) (fl ro k : Nat) (hs : List Nn) (b c : Int) (g s : Option Rat), vs = [.ref p, .ref pr, .ref st, .ref l, .int (k : Int), .int b, .int c] ∧ BdOk C H p Lb La ss fl ro ((c : Rat) / (b : Rat)) 356 356 g s ∧ ss.map (·.2) = ((gh hs b).take k).map (·.2) ∧ H pr = some (.tup [v0, v1]) ∧ LvL hs b c fl ro k H v0 ∧ LvH hs b c fl ro k H v1 ∧ H st = some (.tup [.int (fl : Int), .int (ro : Int)]) ∧ Hs H l hs b c ∧ k < hs.length ∧ l ≠ Lb ∧ l ≠ La ∧
  ∀ (st' Lb' La' : Addr) (ss' : List En) (fl' ro' : Nat) (g' s' : Option Rat) (H' : Hp), Same (rmB p Lb La H) H' → H' st' = some (.tup [.int (fl' : Int), .int (ro' : Int)]) → BdOk C H' p Lb' La' ss' fl' ro' ((c : Rat) / (b : Rat)) 356 356 g' s' → ss'.map (·.2) = ((gh hs b).take (k + 1)).map (·.2) → (Lb' = Lb ∨ H Lb' = none) → (La' = La ∨ H La' = none) → Q (.ref st') H'
noncomputable def Cp (es : List En) (β : Rat) (fl k : Nat) (g : Option Rat) : Prop := ∃ G, g = some G ∧ ∃ i, fl ≤ i ∧ i < k ∧ wo es k - G * (mo es k : Rat) + 2 * β < lev es G i
noncomputable def Cu (es : List En) (β : Rat) (ro k : Nat) (s : Option Rat) : Prop := ∃ S, s = some S ∧ ∃ i, ro ≤ i ∧ i < k ∧ lev es S i + 2 * β < wo es k - S * (mo es k : Rat)
theorem sd_num {es : List En} {hs : List Nn} {b c : Int} {i j k : Nat} (h : es.map (·.2) = hs.map (fun x => nworth b x.2)) (hb : 1 ≤ b) (ht : nmo hs i < nmo hs k) : (2 * c * (nmo hs k - nmo hs i) < nsd hs i j k ↔ 2 * ((c : Rat) / (b : Rat)) < sd es i j k) ∧ (2 * c * (nmo hs k - nmo hs i) < - nsd hs i j k ↔ sd es i j k < -(2 * ((c : Rat) / (b : Rat)))) := by
  have hp := cast_pos (b := (nmo hs k - nmo hs i) * b) (Int.mul_pos (by walk_at "o") (by walk_at "o"))
  have hb' := cast_ne (b := b) (by walk_at "o")
  have e1 : ((2 * c * (nmo hs k - nmo hs i) : Int) : Rat) = 2 * ((c : Rat) / (b : Rat)) * (((nmo hs k - nmo hs i) * b : Int) : Rat) := by
    simp only [Rat.intCast_mul, Rat.intCast_sub]
    have : ((2 : Int) : Rat) = 2 := rfl
    rw [this]
    grind
  have e2 := link_sd h (i := i) (k := j) (j := k) hb ht
  constructor
  · rw [← Rat.intCast_lt_intCast, e1, e2]
    constructor
    · intro z
      exact Rat.lt_of_mul_lt_mul_right z (Rat.le_of_lt hp)
    · intro z
      exact Rat.mul_lt_mul_of_pos_right z hp
  · rw [← Rat.intCast_lt_intCast, Rat.intCast_neg, e1, e2]
    constructor
    · intro z
      have : 2 * ((c : Rat) / (b : Rat)) < - sd es i j k := Rat.lt_of_mul_lt_mul_right (c := (((nmo hs k - nmo hs i) * b : Int) : Rat)) (by grind) (Rat.le_of_lt hp)
      grind
    · intro z
      have := Rat.mul_lt_mul_of_pos_right (show 2 * ((c : Rat) / (b : Rat)) < - sd es i j k by grind) hp
      grind
noncomputable def spStepN (C : Addr) : Sp := fun vs H Q _ => ∃ (p Lb La st l : Addr) (ss : List En) (fl ro k : Nat) (hs : List Nn) (b c : Int) (g s : Option Rat) (as : Bool), vs = [.ref p, .ref st, .ref l, .int (k : Int), .int b, .int c, .bl as] ∧ BdOk C H p Lb La ss fl ro ((c : Rat) / (b : Rat)) 356 356 g s ∧ ss.map (·.2) = ((gh hs b).take k).map (·.2) ∧ H st = some (.tup [.int (fl : Int), .int (ro : Int)]) ∧ Hs H l hs b c ∧ k < hs.length ∧ l ≠ Lb ∧ l ≠ La ∧
  ∀ (st' Lb' La' : Addr) (ss' : List En) (fl' ro' : Nat) (g' s' : Option Rat) (H' : Hp), Same (rmB p Lb La H) H' → H' st' = some (.tup [.int (fl' : Int), .int (ro' : Int)]) → BdOk C H' p Lb' La' ss' fl' ro' ((c : Rat) / (b : Rat)) 356 356 g' s' → ss'.map (·.2) = ((gh hs b).take (k + 1)).map (·.2) → (Lb' = Lb ∨ H Lb' = none) → (La' = La ∨ H La' = none) → Q (.ref st') H'
noncomputable def spNowN (C : Addr) : Sp := fun vs H Q _ => ∃ (p Lb La st l : Addr) (ss : List En) (fl ro k : Nat) (hs : List Nn) (b c : Int) (g s : Option Rat), vs = [.ref p, .ref st, .ref l, .int (k : Int), .int b, .int c] ∧ BdOk C H p Lb La ss fl ro ((c : Rat) / (b : Rat)) 356 356 g s ∧ ss.map (·.2) = ((gh hs b).take (k + 1)).map (·.2) ∧ H st = some (.tup [.int (fl : Int), .int (ro : Int)]) ∧ Hs H l hs b c ∧ k < hs.length ∧ ∀ H', Same H H' → Q (.bl true) H'
section
variable {es : List En} {β T f : Rat} {fl ro k q p : Nat} {g s : Option Rat}
theorem now_low (hβ : 0 ≤ β) (hr : rising es) (hk : k ≤ es.length) (hP : BdP (es.take k) fl ro β g s) (hL : LeadL es (2 * β) fl ro k q p) (h : NowAt (es.take k) β fl g s T f) : T = lowS es (2 * β) q p ∧ f = lev es (lowS es (2 * β) q p) p - β := by
  obtain ⟨eg, top⟩ := hL.top hβ hr hk hP
  obtain ⟨_, _, l3, l4, _⟩ := hL
  have tl : (es.take k).length = k := by rw [List.length_take]; omega
  rcases h with ⟨hc, lo, i, i1, i2, i3⟩ | ⟨e, _⟩
  · have eT : T = lowS es (2 * β) q p := by
      rcases hc with z | ⟨z, _⟩
      · rw [eg] at z; exact (Option.some.inj z).symm
      · rw [eg] at z; cases z
    subst eT
    refine ⟨rfl, ?_⟩
    rw [tl] at i2
    have q1 := lo p l3 (by rw [tl]; exact l4)
    rw [lev_take l4] at q1
    rw [lev_take i2] at i3
    have q2 := top i i1 i2
    exact Rat.le_antisymm (by grind) (by grind)
  · rw [eg] at e; cases e
theorem now_high (hβ : 0 ≤ β) (hr : rising es) (hk : k ≤ es.length) (hP : BdP (es.take k) fl ro β g s) (eg : g = none) (hL : LeadH es (2 * β) fl ro k q p) (h : NowAt (es.take k) β fl g s T f) : T = highS es (2 * β) q p ∧ f = lev es (highS es (2 * β) q p) p + β := by
  obtain ⟨e_s, bot⟩ := hL.bot hβ hr hk hP
  obtain ⟨l1, l2, l3, l4, _⟩ := hL
  have tl : (es.take k).length = k := by rw [List.length_take]; omega
  rcases h with ⟨hc, lo, i, i1, i2, i3⟩ | ⟨_, e, _⟩
  · have eT : T = highS es (2 * β) q p := by
      rcases hc with z | ⟨_, z⟩
      · rw [eg] at z; cases z
      · rw [e_s] at z; exact (Option.some.inj z).symm
    subst eT
    refine ⟨rfl, ?_⟩
    rw [tl] at i2
    obtain ⟨g1, g2⟩ := hP.loS e_s
    have e' := (high_is (S := highS es (2 * β) q p) hr l2 (by omega)).mp rfl
    have q1 := lo q l1 (by rw [tl]; omega)
    rw [lev_take (show q < k by omega)] at q1
    have q2 := bear (a := p) (b := i) (by grind) hP.ris g2 g1.1 l3 i1 (by rw [tl]; exact l4) (by rw [tl]; exact i2)
    rw [lev_take i2, lev_take l4] at q2
    rw [lev_take i2] at i3
    exact Rat.le_antisymm (by grind) (by grind)
  · rw [e_s] at e; cases e
end
section
variable {P : Program} {w : World} {K : PySem.W.Frag} {mg : Str → Option Value} {base : Heap} {f c_Bend : Addr} {fd : FuncData}
theorem sc_law_line : FnScope ["_law_lead", "_law_bottom", "_law_foot"] ["_law_lead", "_law_bottom"] (defScope s_law_line) := ⟨rfl, rfl, rfl, by decide +kernel, rfl, by decide +kernel, by decide +kernel⟩
theorem ok_law_line (F : Fun K "_law_line" "_law_line" s_law_line f fd) (D_law_ratio : Dn P w K mg base 1 "_law_ratio" ["_law_top", "_law_bottom"] spRatio) : FnOk P w K mg base CX0 2 f fd ["_law_lead", "_law_bottom"] spLineN := by
  refine F.ok sc_law_line (fun vs H Q E h => ?_) (fun cdv A outer s H vs Q E hr h => ?_)
  · obtain ⟨y, r, n, t, d, b, rest, s, h, N, rfl, _⟩ := h
    rfl
  obtain ⟨y, r, n, t, d, b, rest, s, h, N, rfl, ey, q1, q2, zr, zn, zt, zd, zb, hN, k⟩ := h
  have i1 : IntMulOk d n := mulOk zd zn (by walk_at "o")
  have i2 : IntMulOk r t := mulOk zr zt (by walk_at "o")
  have i3 : IntMulOk n b := mulOk zn zb (by walk_at "o")
  have z1 : Sz (2 * N + 1) (d * n - r * t) := ((zd.mul zn).sub (zr.mul zt)).mono (by walk_at "o")
  have z2 : Sz (2 * N + 1) (n * b) := (zn.mul zb).mono (by walk_at "o")
  refine Jd.go ⟨_, (J.f (J.k (i := 2) sc_law_line.nd rfl (Or.inl rfl) (J.g op_sub (J.g op_mulB (J.d (ixT K) (J.a 0) J.c (fun _ _ => rfl)) (J.d (ixT K) (J.a 0) J.c (fun _ _ => rfl))) (J.g op_mulB (J.d (ixT K) (J.a 0) J.c (fun _ _ => rfl)) (J.d (ixT K) (J.a 0) J.c (fun _ _ => rfl)))) (hs := sw_B))
      (J.h (J.j (J.q (J.b (J.i D_law_ratio (hr.mono (by decide)) rfl (J.b (J.d (ixT K) (J.a 0) J.c (fun _ _ => rfl)) (J.b (J.g op_mulB (J.d (ixT K) (J.a 0) J.c (fun _ _ => rfl)) (J.a 1)) J.e st_B) st_S) (he := st_S) (hpl := (anyc st_B any0))) (J.b (J.i D_law_ratio (hr.mono (by decide)) rfl (J.b (J.a 2) (J.b (J.g op_mulB (J.d (ixT K) (J.a 0) J.c (fun _ _ => rfl)) (J.a 1)) J.e st_B) st_N) (he := st_N) (hpl := (anyc st_B any0))) J.e st_K) st_K))))), ?_⟩
  walk_at "v"
  refine qtr q1 (zr.mono (by walk_at "o")) z2 (by walk_at "o") fun a H1 s1 f1 => ?_
  have ey1 := s1 _ _ ey
  walk_at "v"
  refine qtr q2 z1 z2 (by walk_at "o") fun c H2 s2 f2 => ?_
  walk_at "v"
  refine r_new (mk := .tup) (by simp) fun z H3 s3 n3 e3 => ?_
  exact k z H3 (s1.trans (s2.trans s3)) ⟨a, c, e3, f1.up (s2.trans s3), f2.up s3⟩
theorem sc_law_is_line : FnScope ["_law_line_here", "_law_due"] ["_law_line_here", "_law_due"] (defScope s_law_is_line) := ⟨rfl, rfl, rfl, by decide +kernel, rfl, by decide +kernel, by decide +kernel⟩
theorem ok_law_is_line (F : Fun K "_law_is_line" "_law_is_line" s_law_is_line f fd) (T : Txt mg) (D_law_is_ratio : Dn P w K mg base 3 "_law_is_ratio" ["_law_one"] spIs) : FnOk P w K mg base CX0 4 f fd ["_law_line_here", "_law_due"] spIsLineD := by
  refine F.ok sc_law_is_line (fun vs H Q E h => ?_) (fun cdv A outer s H vs Q E hr h => ?_)
  · obtain ⟨p, r, s, h, n, m, rfl, _⟩ := h
    rfl
  obtain ⟨p, r, s, h, n, m, rfl, hL, hL', hn, k⟩ := h
  have hu64 := hr.units
  obtain ⟨a, b, e, fa, fb⟩ := id hL
  refine Jd.go ⟨_, (J.f (J.m (Jd.PWpt (Jd.pw_or (J.s (J.r (J.u (isiC K) rfl T.isinstance_ PyProof.Rows.boot_isinstance (J.b (J.a 0) (J.b (Jd.pe_ty rfl T.tuple_ PyProof.Rows.boot_tuple) J.e st_N) st_N) (he := st_N) (hpl := (anyc st_N any0))))) (Jd.pw_or1 (J.l op_ne (J.u (lenC K) rfl T.len_ PySem.boot_len (J.b (J.a 0) J.e st_N) (he := st_N) (hpl := any0)) J.c (nomark _)))))
      (J.h (J.j Jd.pe_bl))
      J.n)
      (J.h (J.j (Jd.pe_and (J.i D_law_is_ratio (hr.mono (by decide)) rfl (J.b (J.d (ixT K) (J.a 0) J.c (fun _ _ => rfl)) J.e st_S) (he := st_S) (hpl := any0)) (Jd.pe_and (J.i D_law_is_ratio (hr.mono (by decide)) rfl (J.b (J.d (ixT K) (J.a 0) J.c (fun _ _ => rfl)) J.e st_S) (he := st_S) (hpl := any0)) (Jd.pe_one (Jd.pe_cmpR (op_eqD hu64) (J.a 0) (J.a 1) (nomark _)))))))), ?_⟩
  walk_at "v"
  refine r_isi (.tup e) kit_tt ?_
  walk_at "v"
  refine iteF ?_
  walk_at "v"
  refine r_len (.inr (SqT.of e)) ?_
  walk_at "v"
  refine iteF ?_
  walk_at "v"
  refine is_fr fa hn fun H1 s1 => ?_
  have e1 := s1 _ _ e
  walk_at "v"
  refine iteT ?_
  walk_at "v"
  refine is_fr (fb.up s1) hn fun H2 s2 => ?_
  walk_at "v"
  refine iteT ?_
  walk_at "v"
  exact lnEq (hL.up2 (s1.trans s2)) (hL'.up2 (s1.trans s2)) (k H2 (s1.trans s2))
theorem sc_law_end : FnScope ["_law_lead", "_law_moment", "_law_by", "_law_bottom", "_law_top"] ["_law_lead", "_law_moment", "_law_by", "_law_bottom"] (defScope s_law_end) := ⟨rfl, rfl, rfl, by decide +kernel, rfl, by decide +kernel, by decide +kernel⟩
theorem ok_law_end (F : Fun K "_law_end" "_law_end" s_law_end f fd) (D_law_ratio : Dn P w K mg base 1 "_law_ratio" ["_law_top", "_law_bottom"] spRatio) : FnOk P w K mg base CX0 2 f fd ["_law_lead", "_law_moment", "_law_by", "_law_bottom"] spEndN := by
  refine F.ok sc_law_end (fun vs H Q E h => ?_) (fun cdv A outer s H vs Q E hr h => ?_)
  · obtain ⟨v, u, w, b, rfl, _⟩ := h
    rfl
  obtain ⟨v, u, w, b, rfl, hv⟩ := h
  refine Jd.go ⟨_, (J.f (J.m (J.l op_isN (J.a 0) J.p (nomark _))
      (J.h (J.j J.p))
      J.n)
      (J.f (J.k (i := 4) sc_law_end.nd rfl (Or.inl rfl) (J.g op_add (J.g op_mulB (J.g op_add (J.d (ixT K) (J.a 0) J.c (fun _ _ => rfl)) (J.a 2)) (J.d (ixT K) (J.a 0) J.c (fun _ _ => rfl))) (J.g op_mulB (J.d (ixT K) (J.a 0) J.c (fun _ _ => rfl)) (J.g op_sub (J.a 1) (J.d (ixT K) (J.a 0) J.c (fun _ _ => rfl))))) (hs := sw_B))
      (J.h (J.j (J.i D_law_ratio (hr.mono (by decide)) rfl (J.b (J.a 4) (J.b (J.g op_mulB (J.d (ixT K) (J.a 0) J.c (fun _ _ => rfl)) (J.a 3)) J.e st_B) st_N) (he := st_N) (hpl := (anyc st_B any0))))))), ?_⟩
  rcases hv with ⟨rfl, k⟩ | ⟨y, r, n, t, d, p, q, N, rfl, ey, hq, zr, zn, zt, zd, zb, zu, zw, hN, k⟩
  · walk_at "v"
    refine ⟨rfl, ?_⟩
    walk_at "v"
    refine iteT ?_
    walk_at "v"
    exact k
  · have i1 : IntMulOk (d + w) n := mulOk (zd.add zw) zn (by walk_at "o")
    have i2 : IntMulOk r (u - t) := mulOk zr (zu.sub zt) (by walk_at "o")
    have i3 : IntMulOk n b := mulOk zn zb (by walk_at "o")
    have z1 : Sz (2 * N + 3) ((d + w) * n + r * (u - t)) := ((((zd.add zw).mul zn).mono (show N + 1 + N ≤ 2 * N + 1 by walk_at "o")).add ((zr.mul (zu.sub zt)).mono (show N + (N + 1) ≤ 2 * N + 1 by walk_at "o"))).mono (by walk_at "o")
    have z2 : Sz (2 * N + 3) (n * b) := (zn.mul zb).mono (by walk_at "o")
    walk_at "v"
    refine ⟨rfl, ?_⟩
    walk_at "v"
    refine iteF ?_
    walk_at "v"
    exact qtr hq z1 z2 (by walk_at "o") fun z H1 s1 f1 => k z H1 s1 f1
theorem sc_law_rooms : FnScope ["_law_walk", "_law_pair", "_law_moments", "_law_bottom", "_law_bound", "_law_moment", "_law_due"] ["_law_walk", "_law_pair", "_law_moments", "_law_bottom", "_law_bound"] (defScope s_law_rooms) := ⟨rfl, rfl, rfl, by decide +kernel, rfl, by decide +kernel, by decide +kernel⟩
theorem ok_law_rooms (F : Fun K "_law_rooms" "_law_rooms" s_law_rooms f fd) (T : Txt mg) (K_Bend : Cl K mg "Bend" c_Bend ["bound", "twice", "below", "above", "gentlest", "steepest"]) (D_law_end : Dn P w K mg base 2 "_law_end" ["_law_lead", "_law_moment", "_law_by", "_law_bottom"] spEndN) (D_Bend_room : Dm P w K mg base 6 c_Bend "room" ["self", "moment"] (spRoomB c_Bend)) : FnOk P w K mg base CX0 7 f fd ["_law_walk", "_law_pair", "_law_moments", "_law_bottom", "_law_bound"] (spRoomsN c_Bend) := by
  refine F.ok sc_law_rooms (fun vs H Q E h => ?_) (fun cdv A outer s H vs Q E hr h => ?_)
  · obtain ⟨p, Lb, La, pr, lm, l, v0, v1, ss, fl, ro, k, us, hs, b, c, g, s, rfl, _⟩ := h
    rfl
  obtain ⟨p, Lb, La, pr, lm, l, v0, v1, ss, fl, ro, kk, us, hs, b, c, g, s', rfl, hBd, hss, epr, hv0, hv1, hlm, hus, zus, hH, hkk, k⟩ := h
  have hu64 := hr.units
  have hβ := nn_pos hH.hb hH.hc
  have hgl := gh_len hs b
  have hre := link_rising (gh_map hs b) hH.ris
  obtain ⟨dx, bd, tw, fs, gv, sv, hB⟩ := id hBd
  have hP := hB.P.cong hss
  have tl : ((gh hs b).take kk).length = kk := by rw [List.length_take, hgl]; walk_at "o"
  have sl : ss.length ≤ 20 := by
    rw [ln_same hss, tl]
    have := hH.len
    walk_at "o"
  refine Jd.go ⟨_, (J.f (Jd.ps_for PassesOwn.never rfl (Jd.piL K (J.a 2)) (J.o (i := 5) sc_law_rooms.nd rfl (Or.inl rfl))
      (J.f (J.k (i := 6) sc_law_rooms.nd rfl (Or.inl rfl) (J.q (J.b (J.i D_law_end (hr.mono (by decide)) rfl (J.b (J.d (ixT K) (J.a 1) J.c (fun _ _ => rfl)) (J.b (J.a 5) (J.b (Jd.pe_un un_neg (J.a 4)) (J.b (J.a 3) J.e st_N) st_U) st_N) st_S) (he := st_S) (hpl := (anyc st_N (anyc st_U (anyc st_N any0))))) (J.b (J.i D_law_end (hr.mono (by decide)) rfl (J.b (J.d (ixT K) (J.a 1) J.c (fun _ _ => rfl)) (J.b (J.a 5) (J.b (J.a 4) (J.b (J.a 3) J.e st_N) st_N) st_N) st_S) (he := st_S) (hpl := (anyc st_N (anyc st_N (anyc st_N any0))))) J.e st_K) st_K)) (hs := sw_T))
      (J.h (J.m (J.l (op_neD hu64) (Jd.pe_dm D_Bend_room K_Bend.cl (hr.mono (by decide)) (J.a 0) (J.b (J.a 5) J.e st_N) (he := st_N) (hpl := any0)) (J.a 6) (nomark _))
      (J.h (J.j Jd.pe_bl))
      J.n))))
      (J.h (J.j Jd.pe_bl))), ?_⟩
  walk_at "v"
  refine r_for (r_iL ?_)
  walk_at "v"
  refine ⟨lm, rfl, ⟨_, SqL.of hlm⟩, for_list (xs := us.map V.int) (fun i σ H3 => ∃ (v5 v6 : Option V), σ = [some (.ref p), some (.ref pr), some (.ref lm), some (.int b), some (.int c), v5, v6] ∧ Same H H3) ⟨none, none, rfl, Same.refl _⟩ ?_ ?_ ?_⟩
  · rintro i σ H3 _ ⟨v5, v6, rfl, s3⟩
    exact SqL.of (s3 _ _ hlm)
  · rintro i v σ H3 hv ⟨v5, v6, rfl, s3⟩
    rw [List.getElem?_map] at hv
    obtain ⟨u, gu, rfl⟩ := Option.map_eq_some_iff.mp hv
    have zu := zus u (List.mem_of_getElem? gu)
    have epr3 := s3 _ _ epr
    have hH3 := hH.up s3
    have endL : ∀ {H4 : Hp} {QQ : VK}, Same H H4 → (∀ (w0 : V) (e0 : Option Rat) (H5 : Hp), Same H4 H5 → OF H5 w0 723 e0 → (∀ e, LoE ((gh hs b).take kk) ((c : Rat) / (b : Rat)) fl u g e → e = e0) → QQ w0 H5) → spEndN ([v0, .int u, .int (-c), .int b] ++ []) H4 QQ E0 := fun {H4 QQ} s4 kq => by
      rcases hv0 with ⟨rfl, hno⟩ | ⟨y0, q, pp, rfl, ey0, hL⟩
      · exact ⟨.non, u, -c, b, rfl, .inl ⟨rfl, kq .non none H4 (Same.refl _) rfl fun e h => (loE_none h).mpr (no_g hP (by rw [hgl]; exact hkk) hno)⟩⟩
      · obtain ⟨l1, l2, l3, l4, _⟩ := id hL
        obtain ⟨z1, _, z3, z4, z5, _⟩ := hH.rs (show q < hs.length by omega) (show pp < hs.length by omega)
        obtain ⟨⟨_, _, q3⟩, _⟩ := lead_line (c := c) hH.hb hH.ris l2 (show pp < hs.length by omega)
        exact ⟨_, u, -c, b, rfl, .inr ⟨y0, _, _, _, _, _, _, 360, rfl, s4 _ _ ey0, q3 u, z1, z3, z4, z5, hH.zb.mono (by decide), zu.mono (by decide), (by unfold Sz; rw [Int.natAbs_neg]; exact hH.zc.mono (show 356 ≤ 360 by decide)), by decide, fun z H5 s5 f5 => kq (.ref z) (some _) H5 s5 ⟨z, rfl, f5⟩ fun e h => loE_of hβ hre (by rw [hgl]; exact hkk) hP hL h⟩⟩
    have endH : ∀ {H4 : Hp} {QQ : VK}, Same H H4 → (∀ (w0 : V) (e0 : Option Rat) (H5 : Hp), Same H4 H5 → OF H5 w0 723 e0 → (∀ e, HiE ((gh hs b).take kk) ((c : Rat) / (b : Rat)) ro u s' e → e = e0) → QQ w0 H5) → spEndN ([v1, .int u, .int c, .int b] ++ []) H4 QQ E0 := fun {H4 QQ} s4 kq => by
      rcases hv1 with ⟨rfl, hno⟩ | ⟨y0, q, pp, rfl, ey0, hL⟩
      · exact ⟨.non, u, c, b, rfl, .inl ⟨rfl, kq .non none H4 (Same.refl _) rfl fun e h => (hiE_none h).mpr (no_s hP (by rw [hgl]; exact hkk) hno)⟩⟩
      · obtain ⟨l1, l2, l3, l4, _⟩ := id hL
        obtain ⟨_, z1, z3, z4, _, z5⟩ := hH.rs (show q < hs.length by omega) (show pp < hs.length by omega)
        obtain ⟨_, _, _, q3⟩ := lead_line (c := c) hH.hb hH.ris l2 (show pp < hs.length by omega)
        exact ⟨_, u, c, b, rfl, .inr ⟨y0, _, _, _, _, _, _, 360, rfl, s4 _ _ ey0, q3 u, z1, z3, z4, z5, hH.zb.mono (by decide), zu.mono (by decide), hH.zc.mono (by decide), by decide, fun z H5 s5 f5 => kq (.ref z) (some _) H5 s5 ⟨z, rfl, f5⟩ fun e h => hiE_of hβ hre (by rw [hgl]; exact hkk) hP hL h⟩⟩
    refine body_cut fun M B R hM hB' hR => ?_
    walk_at "v"
    refine endL s3 fun w0 e0 H4 s4 o0 u0 => ?_
    have epr4 := s4 _ _ epr3
    walk_at "v"
    refine endH (s3.trans s4) fun w1 e1 H5 s5 o1 u1 => ?_
    walk_at "v"
    refine r_new (mk := .tup) (by simp) fun du H6 s6 n6 e6 => ?_
    have s06 := s3.trans (s4.trans (s5.trans s6))
    walk_at "v"
    refine r_m (s06 _ _ hB.at_) (hB.F.meth "room") ?_
    walk_at "v"
    refine ⟨p, Lb, La, ss, fl, ro, _, 356, 356, g, s', u, rfl, hBd.up s06, zu.mono (by decide), by walk_at "o", by decide, by decide, fun z x1 x2 y1 y2 H7 s7 ez a1 a2 l1 l2 => ?_⟩
    obtain rfl := u0 _ (l1.cong hss)
    obtain rfl := u1 _ (l2.cong hss)
    walk_at "v"
    refine room_ne ez (s7 _ _ e6) a1 a2 (o0.up (s5.trans (s6.trans s7))) (o1.up (s6.trans s7)) ?_
    walk_at "v"
    refine iteF ?_
    walk_at "v"
    exact hM _ _ ⟨_, _, rfl, s06.trans s7⟩
  · rintro σ H3 ⟨v5, v6, rfl, s3⟩
    walk_at "v"
    exact k H3 s3
theorem sc_law_taken : FnScope ["_law_walk", "_law_pair", "_law_state", "_law_some", "_law_k", "_law_bottom", "_law_bound", "_law_floor", "_law_roof", "_law_low_here", "_law_high_here", "_law_found"] ["_law_walk", "_law_pair", "_law_state", "_law_some", "_law_k", "_law_bottom", "_law_bound"] (defScope s_law_taken) := ⟨rfl, rfl, rfl, by decide +kernel, rfl, by decide +kernel, by decide +kernel⟩
theorem ok_law_taken (F : Fun K "_law_taken" "_law_taken" s_law_taken f fd) (T : Txt mg) (K_Bend : Cl K mg "Bend" c_Bend ["bound", "twice", "below", "above", "gentlest", "steepest"]) (D_Bend_take : Dm P w K mg base 7 c_Bend "take" ["self", "sample"] (spTake c_Bend)) (D_law_sample : Dn P w K mg base 2 "_law_sample" ["_law_one", "_law_bottom"] spSample) (D_law_over : Dn P w K mg base 1 "_law_over" ["_law_lead", "_law_sample_here", "_law_edge"] spOverN) (D_law_is_line : Dn P w K mg base 4 "_law_is_line" ["_law_line_here", "_law_due"] spIsLineD) (D_law_line : Dn P w K mg base 2 "_law_line" ["_law_lead", "_law_bottom"] spLineN) (D_law_three : Dn P w K mg base 2 "_law_three" ["_law_three_here", "_law_some", "_law_starts", "_law_k", "_law_bound", "_law_sign"] spThreeN) : FnOk P w K mg base CX0 9 f fd ["_law_walk", "_law_pair", "_law_state", "_law_some", "_law_k", "_law_bottom", "_law_bound"] (spTakenN c_Bend) := by
  refine F.ok sc_law_taken (fun vs H Q E h => ?_) (fun cdv A outer s H vs Q E hr h => ?_)
  · obtain ⟨p, Lb, La, pr, st, l, v0, v1, ss, fl, ro, k, hs, b, c, g, s, rfl, _⟩ := h
    rfl
  obtain ⟨p, Lb, La, pr, st, l, v0, v1, ss, fl, ro, kk, hs, b, c, g, s', rfl, hBd, hss, epr, hv0, hv1, est, hH, hkk, nlb, nla, k⟩ := h
  have hβ := nn_pos hH.hb hH.hc
  have hgl := gh_len hs b
  have hgm := gh_map hs b
  have lk := link_at hgm
  have hre := link_rising hgm hH.ris
  obtain ⟨⟨dx, fs, ep, mt, _⟩, ⟨_, eb⟩, ⟨_, ea⟩, hP0⟩ := hBd.ats
  have hP := hP0.cong hss
  have tl : ((gh hs b).take kk).length = kk := by rw [List.length_take, hgl]; walk_at "o"
  have sl : ss.length = kk := by rw [ln_same hss, tl]
  have h20 := hH.len
  obtain ⟨x, gx, ex, zm, zz⟩ := nn_at hH.row hH.all hkk
  have gl : (gh hs b)[kk]? = some (x.1, nmo hs kk, some ((nno hs kk : Rat) / (b : Rat))) := by
    unfold gh
    rw [List.getElem?_map, gx]
    have := hH.all x (List.mem_of_getElem? gx)
    obtain ⟨ax, mx, vx⟩ := x
    unfold nmo nno
    rw [gx]
    cases vx with
    | none => cases this
    | some q => rfl
  have tk : ∀ y : Addr, (ss ++ [(y, nmo hs kk, some ((nno hs kk : Rat) / (b : Rat)))]).map (·.2) = ((gh hs b).take (kk + 1)).map (·.2) := fun y => by
    rw [List.take_succ, gl, List.map_append, List.map_append, hss]
    rfl
  have hm : ∀ j, j < ss.length → mo ss j < nmo hs kk := fun j hj => by
    rw [mo_same hss, mo_take (by omega), (lk j).1]
    exact nmo_lt hH.ris (by omega) hkk
  have kle : kk ≤ (gh hs b).length := by rw [hgl]; omega
  -- the low lead passes over the sample just where the link ends in a cap
  have ovL : ∀ {H4 : Hp} {QQ : VK} {y : Addr} {q pp : Nat}, H4 y = some (.tup (ldL hs c q pp)) → LeadL (gh hs b) (2 * ((c : Rat) / (b : Rat))) fl ro kk q pp → H4 x.1 = some (.tup [.int (nmo hs kk), .int (nno hs kk)]) → (∀ o : Int, (0 < o ↔ Cp (gh hs b) ((c : Rat) / (b : Rat)) fl kk g) → QQ (.int o) H4) → spOverN ([.ref y, .ref x.1, .int (nno hs kk + c)] ++ []) H4 QQ E0 := fun {H4 QQ y q pp} ey hL ex4 kq => by
    obtain ⟨eg, top⟩ := hL.top hβ hre kle hP
    obtain ⟨l1, l2, l3, l4, _⟩ := id hL
    obtain ⟨z1, _, z3, z4, z5, _⟩ := hH.rs (show q < hs.length by omega) (show pp < hs.length by omega)
    have ov := (over_iff (c := c) (k := kk) hgm hH.hb hH.ris l2 (show pp < hs.length by omega)).1
    refine ⟨y, x.1, _, _, _, _, _, _, _, _, 360, rfl, ey, ex4, z1, z3, z4, z5, zm.mono (by decide), (zz.add hH.zc).mono (by decide), by decide, kq _ ?_⟩
    rw [ov]
    constructor
    · exact fun z => ⟨_, eg, pp, l3, l4, z⟩
    · rintro ⟨G, eg', i, i1, i2, i3⟩
      rw [eg] at eg'
      cases eg'
      have := top i i1 i2
      grind
  have ovH : ∀ {H4 : Hp} {QQ : VK} {y : Addr} {q pp : Nat}, H4 y = some (.tup (ldH hs c q pp)) → LeadH (gh hs b) (2 * ((c : Rat) / (b : Rat))) fl ro kk q pp → H4 x.1 = some (.tup [.int (nmo hs kk), .int (nno hs kk)]) → (∀ o : Int, (o < 0 ↔ Cu (gh hs b) ((c : Rat) / (b : Rat)) ro kk s') → QQ (.int o) H4) → spOverN ([.ref y, .ref x.1, .int (nno hs kk - c)] ++ []) H4 QQ E0 := fun {H4 QQ y q pp} ey hL ex4 kq => by
    obtain ⟨eg, bot⟩ := hL.bot hβ hre kle hP
    obtain ⟨l1, l2, l3, l4, _⟩ := id hL
    obtain ⟨_, z1, z3, z4, _, z5⟩ := hH.rs (show q < hs.length by omega) (show pp < hs.length by omega)
    have ov := (over_iff (c := c) (k := kk) hgm hH.hb hH.ris l2 (show pp < hs.length by omega)).2
    refine ⟨y, x.1, _, _, _, _, _, _, _, _, 360, rfl, ey, ex4, z1, z3, z4, z5, zm.mono (by decide), (zz.sub hH.zc).mono (by decide), by decide, kq _ ?_⟩
    rw [ov]
    constructor
    · exact fun z => ⟨_, eg, pp, l3, l4, z⟩
    · rintro ⟨G, eg', i, i1, i2, i3⟩
      rw [eg] at eg'
      cases eg'
      have := bot i i1 i2
      grind
  refine Jd.go ⟨_, (J.f (Jd.ps_asg (J.a 2) (Jd.pgT K (n := 2) rfl (J.t (J.o (i := 7) sc_law_taken.nd rfl (Or.inl rfl)) (J.t (J.o (i := 8) sc_law_taken.nd rfl (Or.inl rfl)) Jd.pgs_nil))))
      (J.f (Jd.ps_asg (J.a 1) (Jd.pgT K (n := 2) rfl (J.t (J.o (i := 9) sc_law_taken.nd rfl (Or.inl rfl)) (J.t (J.o (i := 10) sc_law_taken.nd rfl (Or.inl rfl)) Jd.pgs_nil))))
      (J.f (J.k (i := 11) sc_law_taken.nd rfl (Or.inl rfl) (Jd.pe_dm D_Bend_take K_Bend.cl (hr.mono (by decide)) (J.a 0) (J.b (J.i D_law_sample (hr.mono (by decide)) rfl (J.b (J.d (ixL K) (J.a 3) (J.a 4) (fun _ _ => rfl)) (J.b (J.a 5) J.e st_N) st_S) (he := st_S) (hpl := (anyc st_N any0))) J.e st_K) (he := st_K) (hpl := any0)) (hs := sw_K))
      (J.f (J.m (Jd.PWpt (Jd.pw_and (J.l op_notN (J.a 9) J.p (nomark _)) (Jd.pw_and1 (J.l op_gt (J.i D_law_over (hr.mono (by decide)) rfl (J.b (J.a 9) (J.b (J.d (ixL K) (J.a 3) (J.a 4) (fun _ _ => rfl)) (J.b (J.g op_add (J.d (ixT K) (J.d (ixL K) (J.a 3) (J.a 4) (fun _ _ => rfl)) J.c (fun _ _ => rfl)) (J.a 6)) J.e st_B) st_S) st_N) (he := st_N) (hpl := (anyc st_S (anyc st_B any0)))) J.c (nomark _)))))
      (J.f (J.m (Jd.PWpt (Jd.pw_or (J.s (J.r (J.u (isiC K) rfl T.isinstance_ PyProof.Rows.boot_isinstance (J.b (J.a 11) (J.b (Jd.pe_ty rfl T.tuple_ PyProof.Rows.boot_tuple) J.e st_N) st_N) (he := st_N) (hpl := (anyc st_N any0))))) (Jd.pw_or (J.l op_ne (J.u (lenC K) rfl T.len_ PySem.boot_len (J.b (J.a 11) J.e st_N) (he := st_N) (hpl := any0)) J.c (nomark _)) (Jd.pw_or1 (J.s (J.r (J.i D_law_is_line (hr.mono (by decide)) rfl (J.b (J.d (ixT K) (J.a 11) J.c (fun _ _ => rfl)) (J.b (J.i D_law_line (hr.mono (by decide)) rfl (J.b (J.a 9) (J.b (J.a 5) J.e st_N) st_N) (he := st_N) (hpl := (anyc st_N any0))) J.e st_K) st_S) (he := st_S) (hpl := (anyc st_K any0)))))))))
      (J.h (J.j J.p))
      J.n)
      (J.f (J.m (J.s (J.r (J.i D_law_three (hr.mono (by decide)) rfl (J.b (J.d (ixT K) (J.a 11) J.c (fun _ _ => rfl)) (J.b (J.a 3) (J.b (J.q (J.b (J.a 8) (J.b (J.a 7) J.e st_N) st_N)) (J.b (J.a 4) (J.b (J.a 6) (J.b J.c J.e st_C) st_N) st_N) st_T) st_N) st_S) (he := st_S) (hpl := (anyc st_N (anyc st_T (anyc st_N (anyc st_N (anyc st_C any0)))))))))
      (J.h (J.j J.p))
      J.n)
      (J.h (J.j (J.q (J.b (J.d (ixT K) (J.a 9) J.c (fun _ _ => rfl)) (J.b (J.a 4) J.e st_N) st_S))))))
      J.n)
      (J.f (J.m (Jd.PWpt (Jd.pw_and (J.l op_notN (J.a 10) J.p (nomark _)) (Jd.pw_and1 (J.l op_lt (J.i D_law_over (hr.mono (by decide)) rfl (J.b (J.a 10) (J.b (J.d (ixL K) (J.a 3) (J.a 4) (fun _ _ => rfl)) (J.b (J.g op_sub (J.d (ixT K) (J.d (ixL K) (J.a 3) (J.a 4) (fun _ _ => rfl)) J.c (fun _ _ => rfl)) (J.a 6)) J.e st_B) st_S) st_N) (he := st_N) (hpl := (anyc st_S (anyc st_B any0)))) J.c (nomark _)))))
      (J.f (J.m (Jd.PWpt (Jd.pw_or (J.s (J.r (J.u (isiC K) rfl T.isinstance_ PyProof.Rows.boot_isinstance (J.b (J.a 11) (J.b (Jd.pe_ty rfl T.tuple_ PyProof.Rows.boot_tuple) J.e st_N) st_N) (he := st_N) (hpl := (anyc st_N any0))))) (Jd.pw_or (J.l op_ne (J.u (lenC K) rfl T.len_ PySem.boot_len (J.b (J.a 11) J.e st_N) (he := st_N) (hpl := any0)) J.c (nomark _)) (Jd.pw_or1 (J.s (J.r (J.i D_law_is_line (hr.mono (by decide)) rfl (J.b (J.d (ixT K) (J.a 11) J.c (fun _ _ => rfl)) (J.b (J.i D_law_line (hr.mono (by decide)) rfl (J.b (J.a 10) (J.b (J.a 5) J.e st_N) st_N) (he := st_N) (hpl := (anyc st_N any0))) J.e st_K) st_S) (he := st_S) (hpl := (anyc st_K any0)))))))))
      (J.h (J.j J.p))
      J.n)
      (J.f (J.m (J.s (J.r (J.i D_law_three (hr.mono (by decide)) rfl (J.b (J.d (ixT K) (J.a 11) J.c (fun _ _ => rfl)) (J.b (J.a 3) (J.b (J.q (J.b (J.a 7) (J.b (J.a 8) J.e st_N) st_N)) (J.b (J.a 4) (J.b (J.a 6) (J.b (Jd.pe_un un_neg J.c) J.e st_U) st_N) st_N) st_T) st_N) st_S) (he := st_S) (hpl := (anyc st_N (anyc st_T (anyc st_N (anyc st_N (anyc st_U any0)))))))))
      (J.h (J.j J.p))
      J.n)
      (J.h (J.j (J.q (J.b (J.a 4) (J.b (J.d (ixT K) (J.a 10) J.c (fun _ _ => rfl)) J.e st_S) st_N))))))
      J.n)
      (J.f (J.m (J.l op_notN (J.a 11) J.p (nomark _))
      (J.h (J.j J.p))
      J.n)
      (J.h (J.j (J.q (J.b (J.a 7) (J.b (J.a 8) J.e st_N) st_N)))))))))), ?_⟩
  walk_at "v"
  refine r_asg ?_
  walk_at "v"
  refine r_unpack2 est ?_
  walk_at "v"
  refine r_asg ?_
  walk_at "v"
  refine r_unpack2 epr ?_
  walk_at "v"
  refine r_m ep mt ?_
  walk_at "v"
  refine r_l hH.at_ (at_nval gx rfl) ?_
  walk_at "v"
  refine ⟨x.1, nmo hs kk, nno hs kk, b, 356, rfl, ex, zm.mono (by decide), zz, hH.hb, hH.zb, by decide, fun y H12 s12 f12 => ?_⟩
  have tup : ∀ {H4 : Hp}, Same (rmB p Lb La H12) H4 → (∀ {b : Addr} {xs : List V}, H12 b = some (.tup xs) → H4 b = some (.tup xs)) ∧ Same (rmB p Lb La H) H4 ∧ (l ≠ Lb → l ≠ La → Hs H4 l hs b c) := fun {H4} ks => by
    have tp : ∀ {b : Addr} {xs : List V}, H12 b = some (.tup xs) → H4 b = some (.tup xs) := fun {b xs} e => ks _ _ (by
      rw [rmB_at (fun z => by rw [z, s12 _ _ ep] at e; cases e) (fun z => by rw [z, s12 _ _ eb] at e; cases e) (fun z => by rw [z, s12 _ _ ea] at e; cases e)]
      exact e)
    refine ⟨tp, fun b o e => ks _ _ ?_, fun n1 n2 => ⟨ks _ _ ?_, fun u hu => let ⟨q1, q2, q3⟩ := (hH.row u hu).up s12; ⟨tp q1, q2, q3⟩, hH.all, hH.ris, hH.len, hH.hb, hH.zb, hH.hc, hH.zc⟩⟩
    · obtain ⟨n1, n2, n3, e⟩ := rmB_of e
      rw [rmB_at n1 n2 n3]
      exact s12 _ _ e
    · rw [rmB_at (fun z => by have := hH.at_; rw [z, ep] at this; cases this) n1 n2]
      exact s12 _ _ hH.at_
  walk_at "v"
  refine ⟨p, Lb, La, y, ss, fl, ro, _, _, _, 356, 356, g, s', rfl, hBd.up s12, f12, hm, by walk_at "o", by decide, by decide, by decide, hβ, fun g' s2' H4 ks hN hB4 => ?_, fun r ln th Lb' La' G fo a e s2' H4 ks eg hC er fl4 eth hB4 n1 n2 => ?_, fun r ln th Lb' La' S fo a e g2' H4 ks es' hno hC er fl4 eth hB4 n1 n2 => ?_⟩
  · obtain ⟨tp, sH, hH4'⟩ := tup ks
    have hH4 := hH4' nlb nla
    have ex4 := tp (s12 _ _ ex)
    have hN' := hN.cong hss
    rw [← (lk kk).1, ← (lk kk).2] at hN'
    have ncp : ¬ Cp (gh hs b) ((c : Rat) / (b : Rat)) fl kk g := fun ⟨G, eg, i, i1, i2, i3⟩ => by
      have := hN'.1 G eg i i1 (by rw [tl]; exact i2)
      rw [lev_take i2] at this
      exact absurd i3 (Rat.not_lt.mpr this)
    have ncu : ¬ Cu (gh hs b) ((c : Rat) / (b : Rat)) ro kk s' := fun ⟨S, eg, i, i1, i2, i3⟩ => by
      have := hN'.2 S eg i i1 (by rw [tl]; exact i2)
      rw [lev_take i2] at this
      exact absurd i3 (Rat.not_lt.mpr this)
    refine nx_of ?_
    refine seq_cut (fun σ' H' => σ' = [some (.ref p), some (.ref pr), some (.ref st), some (.ref l), some (.int (kk : Int)), some (.int b), some (.int c), some (.int (fl : Int)), some (.int (ro : Int)), some v0, some v1, some .non] ∧ H' = H4) (fun σ' H4' hPP => ?_) (fun N rest => ?_)
    rotate_left
    · rcases hv0 with ⟨rfl, hno⟩ | ⟨y0, q, pp, rfl, ey0, hL⟩
      · walk_at "v"
        refine ⟨rfl, ?_⟩
        walk_at "v"
        refine iteF ?_
        walk_at "v"
        refine iteF ?_
        walk_at "v"
        exact rest _ _ ⟨rfl, rfl⟩
      · walk_at "v"
        refine ⟨rfl, ?_⟩
        walk_at "v"
        refine iteT ?_
        walk_at "v"
        refine r_l hH4.at_ (at_nval gx rfl) ?_
        walk_at "v"
        refine r_l hH4.at_ (at_nval gx rfl) ?_
        walk_at "v"
        refine ovL (tp (s12 _ _ ey0)) hL ex4 fun o ho => ?_
        walk_at "v"
        rw [show decide (0 < o) = false from decide_eq_false fun z => ncp (ho.mp z)]
        refine iteF ?_
        walk_at "v"
        exact rest _ _ ⟨rfl, rfl⟩
    obtain ⟨rfl, e4'⟩ := hPP
    rw [e4']
    clear e4'
    refine seq_cut (fun σ' H' => σ' = [some (.ref p), some (.ref pr), some (.ref st), some (.ref l), some (.int (kk : Int)), some (.int b), some (.int c), some (.int (fl : Int)), some (.int (ro : Int)), some v0, some v1, some .non] ∧ H' = H4) (fun σ' H4' hPP => ?_) (fun N rest => ?_)
    rotate_left
    · rcases hv1 with ⟨rfl, hno⟩ | ⟨y0, q, pp, rfl, ey0, hL⟩
      · walk_at "v"
        refine ⟨rfl, ?_⟩
        walk_at "v"
        refine iteF ?_
        walk_at "v"
        refine iteF ?_
        walk_at "v"
        exact rest _ _ ⟨rfl, rfl⟩
      · walk_at "v"
        refine ⟨rfl, ?_⟩
        walk_at "v"
        refine iteT ?_
        walk_at "v"
        refine r_l hH4.at_ (at_nval gx rfl) ?_
        walk_at "v"
        refine r_l hH4.at_ (at_nval gx rfl) ?_
        walk_at "v"
        refine ovH (tp (s12 _ _ ey0)) hL ex4 fun o ho => ?_
        walk_at "v"
        rw [show decide (o < 0) = false from decide_eq_false fun z => ncu (ho.mp z)]
        refine iteF ?_
        walk_at "v"
        exact rest _ _ ⟨rfl, rfl⟩
    obtain ⟨rfl, e4'⟩ := hPP
    rw [e4']
    clear e4'
    walk_at "v"
    refine ⟨rfl, ?_⟩
    walk_at "v"
    refine iteF ?_
    walk_at "v"
    refine r_new (mk := .tup) (by simp) fun st' H5 s5 n5 e5 => ?_
    exact k st' Lb La _ fl ro g' s2' H5 (fun b o e => s5 _ _ (sH _ _ e)) e5 (hB4.up s5) (tk y) (.inl rfl) (.inl rfl)
  · subst eg
    obtain ⟨tp, sH, hH4'⟩ := tup ks
    have hH4 := hH4' nlb nla
    have ex4 := tp (s12 _ _ ex)
    have hC' := hC.cong hss
    rw [← (lk kk).1, ← (lk kk).2] at hC'
    obtain ⟨i, i1, i2, i3⟩ := hC'.off
    rw [tl] at i2
    rw [lev_take i2] at i3
    have cp : Cp (gh hs b) ((c : Rat) / (b : Rat)) fl kk (some G) := ⟨G, rfl, i, i1, i2, i3⟩
    have hbl := hC'.lb
    rw [tl] at hbl
    have hab := hC'.hab
    refine nx_of ?_
    rcases hv0 with ⟨rfl, hno⟩ | ⟨y0, q, pp, rfl, ey0, hL⟩
    · exact absurd (no_g hP kle hno) (by simp)
    · obtain ⟨eg, top⟩ := hL.top hβ hre kle hP
      have eG : G = lowS (gh hs b) (2 * ((c : Rat) / (b : Rat))) q pp := Option.some.inj eg
      have ebp := hL.last hβ hre kle hP hC'
      obtain ⟨l1, l2, l3, l4, _⟩ := id hL
      obtain ⟨z1, _, z3, z4, z5, _⟩ := hH.rs (show q < hs.length by omega) (show pp < hs.length by omega)
      obtain ⟨⟨q1, q2, _⟩, _⟩ := lead_line (c := c) hH.hb hH.ris l2 (show pp < hs.length by omega)
      rw [← eG] at q1 q2
      have efo : fo = lev (gh hs b) G pp - (c : Rat) / (b : Rat) := by
        have := hC'.eb
        rw [ebp, lev_take l4] at this
        exact this.symm
      rw [← efo] at q2
      have ey4 := tp (s12 _ _ ey0)
      have ey4' : H4 y0 = some (.tup (.int (rsL hs c q pp) :: .int (nmo hs pp - nmo hs q) :: .int (nmo hs pp) :: .int (nno hs pp - c) :: [.int (pp : Int)])) := ey4
      walk_at "v"
      refine ⟨rfl, ?_⟩
      walk_at "v"
      refine iteT ?_
      walk_at "v"
      refine r_l hH4.at_ (at_nval gx rfl) ?_
      walk_at "v"
      refine r_l hH4.at_ (at_nval gx rfl) ?_
      walk_at "v"
      refine ovL ey4 hL ex4 fun o ho => ?_
      walk_at "v"
      rw [show decide (0 < o) = true from decide_eq_true (ho.mpr cp)]
      refine iteT ?_
      walk_at "v"
      refine r_isi (.tup er) kit_tt ?_
      walk_at "v"
      refine iteF ?_
      walk_at "v"
      refine r_len (.inr (SqT.of er)) ?_
      walk_at "v"
      refine iteF ?_
      walk_at "v"
      refine ⟨y0, _, _, _, _, b, _, G, fo, 360, rfl, ey4', q1, q2, z1, z3, z4, z5, hH.zb.mono (by decide), by decide, fun zl H5 s5 f5 => ?_⟩
      walk_at "v"
      refine ⟨ln, zl, G, fo, _, _, rfl, fl4.up2 s5, f5, by decide, fun H6 s6 => ?_⟩
      have s46 := s5.trans s6
      have er6 := s46 _ _ er
      walk_at "v"
      refine iteF ?_
      walk_at "v"
      refine r_new (mk := .tup) (by simp) fun sp H7 s7 n7 e7 => ?_
      have s47 := s46.trans s7
      have hH7 := hH4.up s47
      walk_at "v"
      refine ⟨th, l, sp, hs, a, e, kk, ro, fl, c, 1, 46, 356, rfl, ?_, hH7.at_, hH7.row, hH.all, hH.ris, e7, hC'.ha, hab, hbl, hC'.hb, hkk, by walk_at "o", by decide, by decide, hH.zc, by decide, ?_, fun H8 s8 => ?_⟩
      · rw [s47 _ _ eth, mo_same hss, mo_take (show a < kk by omega), mo_take hbl, (lk a).1, (lk e).1]
      · rw [Int.one_mul]
        refine (sd_num hgm hH.hb (nmo_lt hH.ris (by omega) hkk)).1.mpr ?_
        have e1 := hC'.ea
        have e2 := hC'.eb
        rw [lev_take (show a < kk by omega)] at e1
        rw [lev_take hbl] at e2
        have li := hC'.lo i i1 (by rw [tl]; exact i2)
        rw [lev_take i2] at li
        refine sd_hi (T := G) (f := fo) hre hab hbl (by rw [hgl]; exact hkk) e1 e2 ?_
        unfold lev
        grind
      have ey8 := (s47.trans s8) _ _ ey4
      have ey8' : H8 y0 = some (.tup [.int (rsL hs c q pp), .int (nmo hs pp - nmo hs q), .int (nmo hs pp), .int (nno hs pp - c), .int (pp : Int)]) := ey8
      walk_at "v"
      refine iteF ?_
      walk_at "v"
      refine ⟨y0, _, _, .int (pp : Int), rfl, rfl, SqT.of ey8', atI_nat (j := 4) rfl, ?_⟩
      walk_at "v"
      refine r_new (mk := .tup) (by simp) fun st' H9 s9 n9 e9 => ?_
      have s49 := s47.trans (s8.trans s9)
      refine k st' Lb' La' _ pp kk none s2' H9 (fun b o e => s49 _ _ (sH _ _ e)) e9 ?_ (tk y) (.inr (s12.free n1)) (.inr (s12.free n2))
      have hB9 := hB4.up s49
      rw [ebp, sl] at hB9
      exact hB9
  · subst es'
    obtain ⟨tp, sH, hH4'⟩ := tup ks
    have hH4 := hH4' nlb nla
    have ex4 := tp (s12 _ _ ex)
    have hC' := hC.cong hss
    rw [← (lk kk).1, ← (lk kk).2] at hC'
    rw [lev_same hss, ln_same hss, ← (lk kk).1, ← (lk kk).2] at hno
    obtain ⟨i, i1, i2, i3⟩ := hC'.off
    rw [tl] at i2
    rw [lev_take i2] at i3
    have cu : Cu (gh hs b) ((c : Rat) / (b : Rat)) ro kk (some S) := ⟨S, rfl, i, i1, i2, i3⟩
    have ncp : ¬ Cp (gh hs b) ((c : Rat) / (b : Rat)) fl kk g := fun ⟨G, eg, i, i1, i2, i3⟩ => hno ⟨G, eg, i, i1, by rw [tl]; exact i2, by rw [lev_take i2]; exact i3⟩
    have hbl := hC'.lb
    rw [tl] at hbl
    have hab := hC'.hab
    refine nx_of ?_
    refine seq_cut (fun σ' H' => σ' = [some (.ref p), some (.ref pr), some (.ref st), some (.ref l), some (.int (kk : Int)), some (.int b), some (.int c), some (.int (fl : Int)), some (.int (ro : Int)), some v0, some v1, some (.ref r)] ∧ H' = H4) (fun σ' H4' hPP => ?_) (fun N rest => ?_)
    rotate_left
    · rcases hv0 with ⟨rfl, hno⟩ | ⟨y0, q, pp, rfl, ey0, hL⟩
      · walk_at "v"
        refine ⟨rfl, ?_⟩
        walk_at "v"
        refine iteF ?_
        walk_at "v"
        refine iteF ?_
        walk_at "v"
        exact rest _ _ ⟨rfl, rfl⟩
      · walk_at "v"
        refine ⟨rfl, ?_⟩
        walk_at "v"
        refine iteT ?_
        walk_at "v"
        refine r_l hH4.at_ (at_nval gx rfl) ?_
        walk_at "v"
        refine r_l hH4.at_ (at_nval gx rfl) ?_
        walk_at "v"
        refine ovL (tp (s12 _ _ ey0)) hL ex4 fun o ho => ?_
        walk_at "v"
        rw [show decide (0 < o) = false from decide_eq_false fun z => ncp (ho.mp z)]
        refine iteF ?_
        walk_at "v"
        exact rest _ _ ⟨rfl, rfl⟩
    obtain ⟨rfl, e4'⟩ := hPP
    rw [e4']
    clear e4'
    rcases hv1 with ⟨rfl, hno1⟩ | ⟨y0, q, pp, rfl, ey0, hL⟩
    · exact absurd (no_s hP kle hno1) (by simp)
    · obtain ⟨eg, bot⟩ := hL.bot hβ hre kle hP
      have eG : S = highS (gh hs b) (2 * ((c : Rat) / (b : Rat))) q pp := Option.some.inj eg
      have ebp := hL.last hβ hre kle hP hC'
      obtain ⟨l1, l2, l3, l4, _⟩ := id hL
      obtain ⟨_, z1, z3, z4, _, z5⟩ := hH.rs (show q < hs.length by omega) (show pp < hs.length by omega)
      obtain ⟨_, q1, q2, _⟩ := lead_line (c := c) hH.hb hH.ris l2 (show pp < hs.length by omega)
      rw [← eG] at q1 q2
      have efo : fo = lev (gh hs b) S pp + (c : Rat) / (b : Rat) := by
        have := hC'.eb
        rw [ebp, lev_take l4] at this
        exact this.symm
      rw [← efo] at q2
      have ey4 := tp (s12 _ _ ey0)
      have ey4' : H4 y0 = some (.tup (.int (rsH hs c q pp) :: .int (nmo hs pp - nmo hs q) :: .int (nmo hs pp) :: .int (nno hs pp + c) :: [.int (pp : Int)])) := ey4
      walk_at "v"
      refine ⟨rfl, ?_⟩
      walk_at "v"
      refine iteT ?_
      walk_at "v"
      refine r_l hH4.at_ (at_nval gx rfl) ?_
      walk_at "v"
      refine r_l hH4.at_ (at_nval gx rfl) ?_
      walk_at "v"
      refine ovH ey4 hL ex4 fun o ho => ?_
      walk_at "v"
      rw [show decide (o < 0) = true from decide_eq_true (ho.mpr cu)]
      refine iteT ?_
      walk_at "v"
      refine r_isi (.tup er) kit_tt ?_
      walk_at "v"
      refine iteF ?_
      walk_at "v"
      refine r_len (.inr (SqT.of er)) ?_
      walk_at "v"
      refine iteF ?_
      walk_at "v"
      refine ⟨y0, _, _, _, _, b, _, S, fo, 360, rfl, ey4', q1, q2, z1, z3, z4, z5, hH.zb.mono (by decide), by decide, fun zl H5 s5 f5 => ?_⟩
      walk_at "v"
      refine ⟨ln, zl, S, fo, _, _, rfl, fl4.up2 s5, f5, by decide, fun H6 s6 => ?_⟩
      have s46 := s5.trans s6
      have er6 := s46 _ _ er
      walk_at "v"
      refine iteF ?_
      walk_at "v"
      refine r_new (mk := .tup) (by simp) fun sp H7 s7 n7 e7 => ?_
      have s47 := s46.trans s7
      have hH7 := hH4.up s47
      walk_at "v"
      refine ⟨th, l, sp, hs, a, e, kk, fl, ro, c, -1, 46, 356, rfl, ?_, hH7.at_, hH7.row, hH.all, hH.ris, e7, hC'.ha, hab, hbl, hC'.hb, hkk, by walk_at "o", by decide, by decide, hH.zc, by decide, ?_, fun H8 s8 => ?_⟩
      · rw [s47 _ _ eth, mo_same hss, mo_take (show a < kk by omega), mo_take hbl, (lk a).1, (lk e).1]
      · rw [Int.neg_one_mul]
        refine (sd_num hgm hH.hb (nmo_lt hH.ris (by omega) hkk)).2.mpr ?_
        have e1 := hC'.ea
        have e2 := hC'.eb
        rw [lev_take (show a < kk by omega)] at e1
        rw [lev_take hbl] at e2
        have li := hC'.hi i i1 (by rw [tl]; exact i2)
        rw [lev_take i2] at li
        refine sd_lo (T := S) (f := fo) hre hab hbl (by rw [hgl]; exact hkk) e1 e2 ?_
        unfold lev
        grind
      have ey8 := (s47.trans s8) _ _ ey4
      have ey8' : H8 y0 = some (.tup [.int (rsH hs c q pp), .int (nmo hs pp - nmo hs q), .int (nmo hs pp), .int (nno hs pp + c), .int (pp : Int)]) := ey8
      walk_at "v"
      refine iteF ?_
      walk_at "v"
      refine ⟨y0, _, _, .int (pp : Int), rfl, rfl, SqT.of ey8', atI_nat (j := 4) rfl, ?_⟩
      walk_at "v"
      refine r_new (mk := .tup) (by simp) fun st' H9 s9 n9 e9 => ?_
      have s49 := s47.trans (s8.trans s9)
      refine k st' Lb' La' _ kk pp g2' none H9 (fun b o e => s49 _ _ (sH _ _ e)) e9 ?_ (tk y) (.inr (s12.free n1)) (.inr (s12.free n2))
      have hB9 := hB4.up s49
      rw [ebp, sl] at hB9
      exact hB9
theorem sc_law_step : FnScope ["_law_walk", "_law_state", "_law_some", "_law_k", "_law_bottom", "_law_bound", "_law_asked", "_law_floor", "_law_roof", "_law_pair", "_law_far"] ["_law_walk", "_law_state", "_law_some", "_law_k", "_law_bottom", "_law_bound", "_law_asked"] (defScope s_law_step) := ⟨rfl, rfl, rfl, by decide +kernel, rfl, by decide +kernel, by decide +kernel⟩
theorem ok_law_step (F : Fun K "_law_step" "_law_step" s_law_step f fd) (T : Txt mg) (D_law_low : Dn P w K mg base 1 "_law_low" ["_law_some", "_law_floor", "_law_roof", "_law_k", "_law_bound"] spLowN) (D_law_high : Dn P w K mg base 1 "_law_high" ["_law_some", "_law_floor", "_law_roof", "_law_k", "_law_bound"] spHighN) (D_law_rooms : Dn P w K mg base 7 "_law_rooms" ["_law_walk", "_law_pair", "_law_moments", "_law_bottom", "_law_bound"] (spRoomsN c_Bend)) (D_law_taken : Dn P w K mg base 9 "_law_taken" ["_law_walk", "_law_pair", "_law_state", "_law_some", "_law_k", "_law_bottom", "_law_bound"] (spTakenN c_Bend)) : FnOk P w K mg base CX0 10 f fd ["_law_walk", "_law_state", "_law_some", "_law_k", "_law_bottom", "_law_bound", "_law_asked"] (spStepN c_Bend) := by
  refine F.ok sc_law_step (fun vs H Q E h => ?_) (fun cdv A outer s H vs Q E hr h => ?_)
  · obtain ⟨p, Lb, La, st, l, ss, fl, ro, k, hs, b, c, g, s, as, rfl, _⟩ := h
    rfl
  obtain ⟨p, Lb, La, st, l, ss, fl, ro, kk, hs, b, c, g, s', as, rfl, hBd, hss, est, hH, hkk, nlb, nla, k⟩ := h
  have hgl := gh_len hs b
  have h20 := hH.len
  obtain ⟨_, _, _, hP0⟩ := hBd.ats
  have hP := hP0.cong hss
  have tl : ((gh hs b).take kk).length = kk := by rw [List.length_take, hgl]; walk_at "o"
  have hfl := hP.hfl
  have hro := hP.hro
  rw [tl] at hfl hro
  obtain ⟨xk, gk, ek, zk, _⟩ := nn_at hH.row hH.all hkk
  obtain ⟨xl, gl, el, zl, _⟩ := nn_at hH.row hH.all (show hs.length - 1 < hs.length by walk_at "o")
  have lowQ : ∀ {H4 : Hp} {QQ : VK}, Same H H4 → (∀ (v : V) (H5 : Hp), Same H4 H5 → LvL hs b c fl ro kk H5 v → QQ v H5) → spLowN ([.ref l, .int (fl : Int), .int (ro : Int), .int (kk : Int), .int c] ++ []) H4 QQ E0 := fun {H4 QQ} s4 kq => by
    have hH4 := hH.up s4
    exact ⟨l, hs, gh hs b, fl, ro, kk, b, c, 46, 356, rfl, hH4.at_, hH4.row, hH.all, hH.ris, gh_map hs b, hH.hb, hH.zc, ⟨hfl, hro, by omega⟩, by omega, by decide, by decide, fun hno H5 s5 => kq .non H5 s5 (.inl ⟨rfl, hno⟩), fun y q pp H5 s5 ey hL => kq (.ref y) H5 s5 (.inr ⟨y, q, pp, rfl, ey, hL⟩)⟩
  have highQ : ∀ {H4 : Hp} {QQ : VK}, Same H H4 → (∀ (v : V) (H5 : Hp), Same H4 H5 → LvH hs b c fl ro kk H5 v → QQ v H5) → spHighN ([.ref l, .int (fl : Int), .int (ro : Int), .int (kk : Int), .int c] ++ []) H4 QQ E0 := fun {H4 QQ} s4 kq => by
    have hH4 := hH.up s4
    exact ⟨l, hs, gh hs b, fl, ro, kk, b, c, 46, 356, rfl, hH4.at_, hH4.row, hH.all, hH.ris, gh_map hs b, hH.hb, hH.zc, ⟨hfl, hro, by omega⟩, by omega, by decide, by decide, fun hno H5 s5 => kq .non H5 s5 (.inl ⟨rfl, hno⟩), fun y q pp H5 s5 ey hL => kq (.ref y) H5 s5 (.inr ⟨y, q, pp, rfl, ey, hL⟩)⟩
  refine Jd.go ⟨_, (J.f (Jd.ps_asg (J.a 1) (Jd.pgT K (n := 2) rfl (J.t (J.o (i := 7) sc_law_step.nd rfl (Or.inl rfl)) (J.t (J.o (i := 8) sc_law_step.nd rfl (Or.inl rfl)) Jd.pgs_nil))))
      (J.f (J.k (i := 9) sc_law_step.nd rfl (Or.inl rfl) (J.q (J.b (J.i D_law_low (hr.mono (by decide)) rfl (J.b (J.a 2) (J.b (J.a 7) (J.b (J.a 8) (J.b (J.a 3) (J.b (J.a 5) J.e st_N) st_N) st_N) st_N) st_N) (he := st_N) (hpl := (anyc st_N (anyc st_N (anyc st_N (anyc st_N any0)))))) (J.b (J.i D_law_high (hr.mono (by decide)) rfl (J.b (J.a 2) (J.b (J.a 7) (J.b (J.a 8) (J.b (J.a 3) (J.b (J.a 5) J.e st_N) st_N) st_N) st_N) st_N) (he := st_N) (hpl := (anyc st_N (anyc st_N (anyc st_N (anyc st_N any0)))))) J.e st_K) st_K)) (hs := sw_T))
      (J.f (J.m (J.r (J.a 6))
      (J.f (J.k (i := 10) sc_law_step.nd rfl (Or.inl rfl) (J.g op_add (J.d (ixT K) (J.d (ixL K) (J.a 2) (Jd.pe_un un_neg J.c) (fun _ _ => rfl)) J.c (fun _ _ => rfl)) J.c) (hs := sw_B))
      (J.h (J.m (J.s (J.r (J.i D_law_rooms (hr.mono (by decide)) rfl (J.b (J.a 0) (J.b (J.a 9) (J.b (Jd.pe_lst (J.b (J.a 10) (J.b (J.d (ixT K) (J.d (ixL K) (J.a 2) (J.a 3) (fun _ _ => rfl)) J.c (fun _ _ => rfl)) (J.b (J.a 10) J.e st_N) st_S) st_N)) (J.b (J.a 4) (J.b (J.a 5) J.e st_N) st_N) st_L) st_N) st_N) (he := st_N) (hpl := (anyc st_N (anyc st_L (anyc st_N (anyc st_N any0))))))))
      (J.h (J.j J.p))
      J.n)))
      J.n)
      (J.h (J.j (J.i D_law_taken (hr.mono (by decide)) rfl (J.b (J.a 0) (J.b (J.a 9) (J.b (J.a 1) (J.b (J.a 2) (J.b (J.a 3) (J.b (J.a 4) (J.b (J.a 5) J.e st_N) st_N) st_N) st_N) st_N) st_N) st_N) (he := st_N) (hpl := (anyc st_N (anyc st_N (anyc st_N (anyc st_N (anyc st_N (anyc st_N any0))))))))))))), ?_⟩
  walk_at "v"
  refine r_asg ?_
  walk_at "v"
  refine r_unpack2 est ?_
  walk_at "v"
  refine lowQ (Same.refl _) fun v0 H1 s1 hv0 => ?_
  walk_at "v"
  refine highQ s1 fun v1 H2 s2 hv1 => ?_
  walk_at "v"
  refine r_new (mk := .tup) (by simp) fun pr H3 s3 n3 e3 => ?_
  have s03 := s1.trans (s2.trans s3)
  have fin : ∀ {H4 : Hp}, Same H3 H4 → spTakenN c_Bend ([.ref p, .ref pr, .ref st, .ref l, .int (kk : Int), .int b, .int c] ++ []) H4 Q E0 := fun {H4} s4 => by
    have s04 := s03.trans s4
    refine ⟨p, Lb, La, pr, st, l, v0, v1, ss, fl, ro, kk, hs, b, c, g, s', rfl, hBd.up s04, hss, s4 _ _ e3, hv0.up (s2.trans (s3.trans s4)), hv1.up (s3.trans s4), s04 _ _ est, hH.up s04, hkk, nlb, nla, fun st' Lb' La' ss' fl' ro' g' s2' H' k1 k2 k3 k4 k5 k6 => ?_⟩
    refine k st' Lb' La' ss' fl' ro' g' s2' H' (fun b o e => k1 _ _ ?_) k2 k3 k4 (k5.imp id s04.free) (k6.imp id s04.free)
    obtain ⟨n1, n2, n3, e⟩ := rmB_of e
    rw [rmB_at n1 n2 n3]
    exact s04 _ _ e
  walk_at "v"
  cases as with
  | false =>
    refine iteF ?_
    walk_at "v"
    exact fin (Same.refl _)
  | true =>
    have hH3 := hH.up s03
    have el3 := s03 _ _ el
    have ek3 := s03 _ _ ek
    refine iteT ?_
    walk_at "v"
    refine r_l hH3.at_ (v := .ref xl.1) ?_ ?_
    · unfold atI
      rw [ix_last (m := hs.length - 1) (by rw [nvals_len]; walk_at "o")]
      exact nvals_get gl
    walk_at "v"
    refine r_l hH3.at_ (at_nval gk rfl) ?_
    walk_at "v"
    refine r_new (mk := .lst) (by simp) fun lm H4 s4 n4 e4 => ?_
    have s04 := s03.trans s4
    have zf : Sz 60 (nmo hs (hs.length - 1) + 5) := (zl.add (show Sz 46 (5 : Int) by decide)).mono (by decide)
    walk_at "v"
    refine ⟨p, Lb, La, pr, lm, l, v0, v1, ss, fl, ro, kk, [nmo hs (hs.length - 1) + 5, nmo hs kk, nmo hs (hs.length - 1) + 5], hs, b, c, g, s', rfl, hBd.up s04, hss, s4 _ _ e3, hv0.up (s2.trans (s3.trans s4)), hv1.up (s3.trans s4), e4, by simp, fun u hu => ?_, hH.up s04, by walk_at "o", fun H5 s5 => ?_⟩
    · simp at hu
      rcases hu with rfl | rfl | rfl
      · exact zf
      · exact zk.mono (by decide)
      · exact zf
    walk_at "v"
    refine iteF ?_
    walk_at "v"
    exact fin (s4.trans s5)
theorem sc_law_now : FnScope ["_law_walk", "_law_state", "_law_some", "_law_k", "_law_bottom", "_law_bound", "_law_lead"] ["_law_walk", "_law_state", "_law_some", "_law_k", "_law_bottom", "_law_bound"] (defScope s_law_now) := ⟨rfl, rfl, rfl, by decide +kernel, rfl, by decide +kernel, by decide +kernel⟩
theorem ok_law_now (F : Fun K "_law_now" "_law_now" s_law_now f fd) (T : Txt mg) (K_Bend : Cl K mg "Bend" c_Bend ["bound", "twice", "below", "above", "gentlest", "steepest"]) (D_law_low : Dn P w K mg base 1 "_law_low" ["_law_some", "_law_floor", "_law_roof", "_law_k", "_law_bound"] spLowN) (D_law_high : Dn P w K mg base 1 "_law_high" ["_law_some", "_law_floor", "_law_roof", "_law_k", "_law_bound"] spHighN) (D_law_is_line : Dn P w K mg base 4 "_law_is_line" ["_law_line_here", "_law_due"] spIsLineD) (D_Bend_line_now : Dm P w K mg base 6 c_Bend "line_now" ["self"] (spNow c_Bend)) (D_law_line : Dn P w K mg base 2 "_law_line" ["_law_lead", "_law_bottom"] spLineN) : FnOk P w K mg base CX0 7 f fd ["_law_walk", "_law_state", "_law_some", "_law_k", "_law_bottom", "_law_bound"] (spNowN c_Bend) := by
  refine F.ok sc_law_now (fun vs H Q E h => ?_) (fun cdv A outer s H vs Q E hr h => ?_)
  · obtain ⟨p, Lb, La, st, l, ss, fl, ro, k, hs, b, c, g, s, rfl, _⟩ := h
    rfl
  obtain ⟨p, Lb, La, st, l, ss, fl, ro, kk, hs, b, c, g, s', rfl, hBd, hss, est, hH, hkk, k⟩ := h
  have hβ := nn_pos hH.hb hH.hc
  have hgl := gh_len hs b
  have hgm := gh_map hs b
  have lk := link_at hgm
  have hre := link_rising hgm hH.ris
  have h20 := hH.len
  obtain ⟨⟨dx, fs, ep, _, mn⟩, _, _, hP0⟩ := hBd.ats
  have hP := hP0.cong hss
  have tl : ((gh hs b).take (kk + 1)).length = kk + 1 := by rw [List.length_take, hgl]; walk_at "o"
  have sl : ss.length = kk + 1 := by rw [ln_same hss, tl]
  have hfl := hP.hfl
  have hro := hP.hro
  rw [tl] at hfl hro
  have kle : kk + 1 ≤ (gh hs b).length := by rw [hgl]; omega
  obtain ⟨xk, gk, ek, zk, zkv⟩ := nn_at hH.row hH.all hkk
  -- the line that is told now against that of a lead
  have fin : ∀ {H3 : Hp} {QQ : VK} {y : Addr} {r n t d : Int} {rest : List V} {S h : Rat}, Same H H3 → H3 y = some (.tup (.int r :: .int n :: .int t :: .int d :: rest)) → Qt r (n * b) S → Qt (d * n - r * t) (n * b) h → Sz 360 r → Sz 360 n → Sz 360 t → Sz 360 d → (∀ T f, NowAt ((gh hs b).take (kk + 1)) ((c : Rat) / (b : Rat)) fl g s' T f → T = S ∧ f = h) → (∀ (ln : Addr) (H4 : Hp), Same H3 H4 → LnAt H4 ln S h 2855 → QQ (.ref ln) H4) → spNow c_Bend (.ref p :: ([] ++ [])) H3 QQ E0 := fun {H3 QQ y r n t d rest S h} s3 ey q1 q2 z1 z2 z3 z4 un kq => by
    refine ⟨p, Lb, La, ss, fl, ro, _, 356, 356, g, s', rfl, hBd.up s3, by omega, by decide, by decide, by decide, fun z => absurd (congrArg List.length z) (by rw [sl]; simp), fun _ ln TT fo H4 s4 f4 hNow => ?_⟩
    obtain ⟨rfl, rfl⟩ := un _ _ (hNow.cong hss)
    exact kq ln H4 s4 f4
  refine Jd.go ⟨_, (J.f (J.k (i := 6) sc_law_now.nd rfl (Or.inl rfl) (J.i D_law_low (hr.mono (by decide)) rfl (J.b (J.a 2) (J.b (J.d (ixT K) (J.a 1) J.c (fun _ _ => rfl)) (J.b (J.d (ixT K) (J.a 1) J.c (fun _ _ => rfl)) (J.b (J.g op_add (J.a 3) J.c) (J.b (J.a 5) J.e st_N) st_B) st_S) st_S) st_N) (he := st_N) (hpl := (anyc st_S (anyc st_S (anyc st_B (anyc st_N any0)))))) (hs := sw_K))
      (J.f (J.m (J.l op_isN (J.a 6) J.p (nomark _))
      (J.h (J.k (i := 6) sc_law_now.nd rfl (Or.inl rfl) (J.i D_law_high (hr.mono (by decide)) rfl (J.b (J.a 2) (J.b (J.d (ixT K) (J.a 1) J.c (fun _ _ => rfl)) (J.b (J.d (ixT K) (J.a 1) J.c (fun _ _ => rfl)) (J.b (J.g op_add (J.a 3) J.c) (J.b (J.a 5) J.e st_N) st_B) st_S) st_S) st_N) (he := st_N) (hpl := (anyc st_S (anyc st_S (anyc st_B (anyc st_N any0)))))) (hs := sw_K)))
      J.n)
      (J.f (J.m (J.l op_isN (J.a 6) J.p (nomark _))
      (J.h (J.k (i := 6) sc_law_now.nd rfl (Or.inl rfl) (J.q (J.b J.c (J.b J.c (J.b (J.d (ixT K) (J.d (ixL K) (J.a 2) (J.a 3) (fun _ _ => rfl)) J.c (fun _ _ => rfl)) (J.b (J.d (ixT K) (J.d (ixL K) (J.a 2) (J.a 3) (fun _ _ => rfl)) J.c (fun _ _ => rfl)) J.e st_S) st_S) st_C) st_C)) (hs := sw_T)))
      J.n)
      (J.h (J.j (J.i D_law_is_line (hr.mono (by decide)) rfl (J.b (Jd.pe_dm0 D_Bend_line_now K_Bend.cl (hr.mono (by decide)) (J.a 0)) (J.b (J.i D_law_line (hr.mono (by decide)) rfl (J.b (J.a 6) (J.b (J.a 4) J.e st_N) st_N) (he := st_N) (hpl := (anyc st_N any0))) J.e st_K) st_K) (he := st_K) (hpl := (anyc st_K any0)))))))), ?_⟩
  walk_at "v"
  have hrow := hH.row
  refine ⟨l, hs, gh hs b, fl, ro, kk + 1, b, c, 46, 356, rfl, hH.at_, hH.row, hH.all, hH.ris, hgm, hH.hb, hH.zc, ⟨hfl, hro, by walk_at "o"⟩, by walk_at "o", by decide, by decide, fun hno H1 s1 => ?_, fun y q pp H1 s1 ey hL => ?_⟩
  · have eg := no_g hP kle hno
    have est1 := s1 _ _ est
    have hH1 := hH.up s1
    walk_at "v"
    refine ⟨rfl, ?_⟩
    walk_at "v"
    refine iteT ?_
    walk_at "v"
    refine ⟨l, hs, gh hs b, fl, ro, kk + 1, b, c, 46, 356, rfl, hH1.at_, hH1.row, hH.all, hH.ris, hgm, hH.hb, hH.zc, ⟨hfl, hro, by walk_at "o"⟩, by walk_at "o", by decide, by decide, fun hno2 H2 s2 => ?_, fun y q pp H2 s2 ey hL => ?_⟩
    · have es := no_s hP kle hno2
      have h2 := hP.two.mpr ⟨eg, es⟩
      rw [tl] at h2
      have hk0 : kk = 0 := by omega
      have hf0 : fl = 0 := by have := hP.lt (by rw [tl]; omega); rw [tl] at this; omega
      have s02 := s1.trans s2
      have hH2 := hH.up s02
      have ek2 := s02 _ _ ek
      walk_at "v"
      refine ⟨rfl, ?_⟩
      walk_at "v"
      refine iteT ?_
      walk_at "v"
      refine r_l hH2.at_ (at_nval gk rfl) ?_
      walk_at "v"
      refine r_l hH2.at_ (at_nval gk rfl) ?_
      walk_at "v"
      refine r_new (mk := .tup) (by simp) fun y H3 s3 n3 e3 => ?_
      have s03 := s02.trans s3
      have b1 : 1 ≤ 1 * b := by have := hH.hb; omega
      have bn := cast_ne (b := b) (by have := hH.hb; omega)
      have q1 : Qt 0 (1 * b) 0 := ⟨b1, by simp⟩
      have q2 : Qt (nno hs kk * 1 - 0 * nmo hs kk) (1 * b) ((nno hs kk : Rat) / (b : Rat)) := ⟨b1, by
        simp only [Rat.intCast_mul, Rat.intCast_sub]
        rw [show ((1 : Int) : Rat) = 1 from rfl, show ((0 : Int) : Rat) = 0 from rfl]
        grind⟩
      walk_at "v"
      refine r_m (s03 _ _ ep) mn ?_
      walk_at "v"
      refine fin s03 e3 q1 q2 (by decide) (by decide) (zk.mono (by decide)) (zkv.mono (by decide)) (fun TT fo hN => ?_) fun ln H4 s4 f4 => ?_
      · rcases hN with ⟨hc, _⟩ | ⟨_, _, eT, ef⟩
        · rcases hc with z | ⟨_, z⟩
          · rw [eg] at z; cases z
          · rw [es] at z; cases z
        · refine ⟨eT, ?_⟩
          rw [ef, hf0, wo_take (by omega), (lk 0).2, hk0]
      walk_at "v"
      refine ⟨y, _, _, _, _, b, _, _, _, 360, rfl, s4 _ _ e3, q1, q2, by decide, by decide, zk.mono (by decide), zkv.mono (by decide), hH.zb.mono (by decide), by decide, fun zl H5 s5 f5 => ?_⟩
      walk_at "v"
      exact ⟨ln, zl, _, _, _, _, rfl, f4.up2 s5, f5, by decide, fun H6 s6 => k H6 (s03.trans (s4.trans (s5.trans s6)))⟩
    · obtain ⟨l1, l2, l3, l4, _⟩ := id hL
      obtain ⟨_, z1, z3, z4, _, z5⟩ := hH.rs (show q < hs.length by omega) (show pp < hs.length by omega)
      obtain ⟨_, q1, q2, _⟩ := lead_line (c := c) hH.hb hH.ris l2 (show pp < hs.length by omega)
      have s02 := s1.trans s2
      have ey' : H2 y = some (.tup (.int (rsH hs c q pp) :: .int (nmo hs pp - nmo hs q) :: .int (nmo hs pp) :: .int (nno hs pp + c) :: [.int (pp : Int)])) := ey
      walk_at "v"
      refine ⟨rfl, ?_⟩
      walk_at "v"
      refine iteF ?_
      walk_at "v"
      refine r_m (s02 _ _ ep) mn ?_
      walk_at "v"
      refine fin s02 ey' q1 q2 z1 z3 z4 z5 (fun TT fo hN => now_high hβ hre kle hP eg hL hN) fun ln H4 s4 f4 => ?_
      walk_at "v"
      refine ⟨y, _, _, _, _, b, _, _, _, 360, rfl, s4 _ _ ey', q1, q2, z1, z3, z4, z5, hH.zb.mono (by decide), by decide, fun zl H5 s5 f5 => ?_⟩
      walk_at "v"
      exact ⟨ln, zl, _, _, _, _, rfl, f4.up2 s5, f5, by decide, fun H6 s6 => k H6 (s02.trans (s4.trans (s5.trans s6)))⟩
  · obtain ⟨l1, l2, l3, l4, _⟩ := id hL
    obtain ⟨z1, _, z3, z4, z5, _⟩ := hH.rs (show q < hs.length by omega) (show pp < hs.length by omega)
    obtain ⟨⟨q1, q2, _⟩, _⟩ := lead_line (c := c) hH.hb hH.ris l2 (show pp < hs.length by omega)
    have ey' : H1 y = some (.tup (.int (rsL hs c q pp) :: .int (nmo hs pp - nmo hs q) :: .int (nmo hs pp) :: .int (nno hs pp - c) :: [.int (pp : Int)])) := ey
    walk_at "v"
    refine ⟨rfl, ?_⟩
    walk_at "v"
    refine iteF ?_
    walk_at "v"
    refine ⟨rfl, ?_⟩
    walk_at "v"
    refine iteF ?_
    walk_at "v"
    refine r_m (s1 _ _ ep) mn ?_
    walk_at "v"
    refine fin s1 ey' q1 q2 z1 z3 z4 z5 (fun TT fo hN => now_low hβ hre kle hP hL hN) fun ln H4 s4 f4 => ?_
    walk_at "v"
    refine ⟨y, _, _, _, _, b, _, _, _, 360, rfl, s4 _ _ ey', q1, q2, z1, z3, z4, z5, hH.zb.mono (by decide), by decide, fun zl H5 s5 f5 => ?_⟩
    walk_at "v"
    exact ⟨ln, zl, _, _, _, _, rfl, f4.up2 s5, f5, by decide, fun H6 s6 => k H6 (s1.trans (s4.trans (s5.trans s6)))⟩
end

noncomputable def spLaw (K : PySem.W.Frag) : Sp := fun vs H Q _ => ∃ (a : Addr) (ns : List Int), vs = [.ref a] ∧ SqL K H a (ns.map V.int) ∧ ns.length ≤ 63 ∧ ∀ H', Q (.bl true) H'
section
variable {P : Program} {w : World} {K : PySem.W.Frag} {mg : Str → Option Value} {base : Heap} {f c_Bend : Addr} {fd : FuncData}
noncomputable def BdS (C : Addr) (H : Hp) (p L A st : Addr) (hs : List Nn) (b c : Int) (k : Nat) : Prop := ∃ (ss : List En) (fl ro : Nat) (g s : Option Rat), BdOk C H p L A ss fl ro ((c : Rat) / (b : Rat)) 356 356 g s ∧ ss.map (·.2) = ((gh hs b).take k).map (·.2) ∧ H st = some (.tup [.int (fl : Int), .int (ro : Int)])
theorem BdS.mv {C : Addr} {H H' : Hp} {p L A st : Addr} {hs : List Nn} {b c : Int} {k : Nat} (h : BdS C H p L A st hs b c k) (t : ∀ {b : Addr} {xs : List V}, H b = some (.tup xs) → H' b = some (.tup xs)) (hp : H' p = H p) (h1 : H' L = H L) (h2 : H' A = H A) : BdS C H' p L A st hs b c k := by
  obtain ⟨ss, fl, ro, g, s, ⟨dx, bd, tw, fs, gv, sv, hB⟩, e1, e2⟩ := h
  exact ⟨ss, fl, ro, g, s, ⟨dx, bd, tw, fs, gv, sv, hB.mv t hp h1 h2⟩, e1, t e2⟩
theorem BdS.at_ {C : Addr} {H : Hp} {p L A st : Addr} {hs : List Nn} {b c : Int} {k : Nat} (h : BdS C H p L A st hs b c k) : (∃ dx fs, H p = some (.ins C dx fs)) ∧ (∃ xs, H L = some (.lst xs)) ∧ ∃ xs, H A = some (.lst xs) := by
  obtain ⟨ss, fl, ro, g, s, ⟨dx, bd, tw, fs, gv, sv, hB⟩, e1, e2⟩ := h
  exact ⟨⟨dx, fs, hB.at_⟩, ⟨_, hB.eb⟩, _, hB.ea⟩
structure Duo (C : Addr) (H : Hp) (l S : Addr) (ks : List (Addr × List V)) (hs : List Nn) (b : Int) (p : Nat → Addr) (c : Nat → Int) (L A st : Nat → Addr) (K : Nat → Nat) : Prop where
  kk : ∀ x ∈ ks, H x.1 = some (.lst x.2) ∧ x.1 ≠ S ∧ ∀ i, i < 2 → x.1 ≠ L i ∧ x.1 ≠ A i
  hl : (l, nvals hs) ∈ ks
  hH : ∀ i, i < 2 → Hs H l hs b (c i)
  bd : ∀ i, i < 2 → BdS C H (p i) (L i) (A i) (st i) hs b (c i) (K i)
  np : ∀ i j, i < 2 → j < 2 → i ≠ j → p i ≠ p j
  eS : ∃ ys, H S = some (.lst ys)
  oS : ∀ i, i < 2 → S ≠ L i ∧ S ≠ A i
  dis : ∀ i j, i < 2 → j < 2 → i ≠ j → L i ≠ L j ∧ L i ≠ A j ∧ A i ≠ L j ∧ A i ≠ A j
theorem two_of {i : Nat} (h : i < 2) : i = 0 ∨ i = 1 := by omega
theorem Hs.mv {H H' : Hp} {l : Addr} {hs : List Nn} {b c : Int} (h : Hs H l hs b c) (t : ∀ {b : Addr} {xs : List V}, H b = some (.tup xs) → H' b = some (.tup xs)) (e : H' l = H l) : Hs H' l hs b c :=
  ⟨e.trans h.at_, fun x hx => ⟨t (h.row x hx).1, (h.row x hx).2⟩, h.all, h.ris, h.len, h.hb, h.zb, h.hc, h.zc⟩
section
variable {C : Addr} {H H' : Hp} {l S : Addr} {ks : List (Addr × List V)} {hs : List Nn} {b : Int} {p : Nat → Addr} {c : Nat → Int} {L A st : Nat → Addr} {K : Nat → Nat}
theorem Duo.up (h : Duo C H l S ks hs b p c L A st K) (s : Same H H') : Duo C H' l S ks hs b p c L A st K :=
  ⟨fun x hx => ⟨s _ _ (h.kk x hx).1, (h.kk x hx).2⟩, h.hl, fun i hi => (h.hH i hi).up s, fun i hi => by
    obtain ⟨⟨_, _, e1⟩, ⟨_, e2⟩, _, e3⟩ := (h.bd i hi).at_
    exact (h.bd i hi).mv (fun e => s _ _ e) ((s _ _ e1).trans e1.symm) ((s _ _ e2).trans e2.symm) ((s _ _ e3).trans e3.symm), h.np, let ⟨ys, e⟩ := h.eS; ⟨ys, s _ _ e⟩, h.oS, h.dis⟩
theorem Duo.add (h : Duo C H l S ks hs b p c L A st K) (s : Same H H') {T : Addr} {ys : List V} (n : H T = none) (e : H' T = some (.lst ys)) : Duo C H' l S ((T, ys) :: ks) hs b p c L A st K := by
  have g := h.up s
  refine ⟨fun x hx => ?_, List.mem_cons_of_mem _ h.hl, g.hH, g.bd, h.np, g.eS, h.oS, h.dis⟩
  rcases List.mem_cons.mp hx with rfl | hx
  · obtain ⟨zs, eS⟩ := h.eS
    refine ⟨e, Ne.symm (ne_of_none eS n), fun i hi => ?_⟩
    obtain ⟨_, ⟨_, e2⟩, _, e3⟩ := (h.bd i hi).at_
    exact ⟨Ne.symm (ne_of_none e2 n), Ne.symm (ne_of_none e3 n)⟩
  · exact g.kk x hx
theorem Duo.sub (h : Duo C H l S ks hs b p c L A st K) {ks' : List (Addr × List V)} (hk : ∀ x ∈ ks', x ∈ ks) (hl : (l, nvals hs) ∈ ks') : Duo C H l S ks' hs b p c L A st K :=
  ⟨fun x hx => h.kk x (hk x hx), hl, h.hH, h.bd, h.np, h.eS, h.oS, h.dis⟩
theorem Duo.set (h : Duo C H l S ks hs b p c L A st K) (zs : List V) : Duo C (upd H S (.lst zs)) l S ks hs b p c L A st K := by
  obtain ⟨ys, e⟩ := h.eS
  have t : ∀ {b : Addr} {xs : List V}, H b = some (.tup xs) → upd H S (.lst zs) b = some (.tup xs) := fun {b xs} e' => by
    rw [upd_ne fun z => by rw [z, e] at e'; cases e']
    exact e'
  refine ⟨fun x hx => ⟨?_, (h.kk x hx).2⟩, h.hl, fun i hi => (h.hH i hi).mv t (upd_ne (h.kk _ h.hl).2.1), fun i hi => ?_, h.np, ⟨_, upd_same⟩, h.oS, h.dis⟩
  · rw [upd_ne (h.kk x hx).2.1]; exact (h.kk x hx).1
  · obtain ⟨⟨_, _, e1⟩, _⟩ := (h.bd i hi).at_
    obtain ⟨q1, q2⟩ := h.oS i hi
    exact (h.bd i hi).mv t (upd_ne fun z => by rw [z, e] at e1; cases e1) (upd_ne (Ne.symm q1)) (upd_ne (Ne.symm q2))
theorem Duo.step (h : Duo C H l S ks hs b p c L A st K) {t k : Nat} {st' L' A' : Addr} (ht : t < 2) {ys : List V} (eS : H S = some (.lst ys)) (s : Same (rmB (p t) (L t) (A t) H) H') (hb : BdS C H' (p t) L' A' st' hs b (c t) k) (n1 : L' = L t ∨ H L' = none) (n2 : A' = A t ∨ H A' = none) :
    Duo C H' l S ks hs b p c (fun i => if i = t then L' else L i) (fun i => if i = t then A' else A i) (fun i => if i = t then st' else st i) (fun i => if i = t then k else K i) ∧ H' S = some (.lst ys) := by
  obtain ⟨⟨_, _, e1⟩, ⟨_, e2⟩, _, e3⟩ := (h.bd t ht).at_
  have tv : ∀ {b : Addr} {xs : List V}, H b = some (.tup xs) → H' b = some (.tup xs) := fun {b xs} e => s _ _ (by
    rw [rmB_at (fun z => by rw [z, e1] at e; cases e) (fun z => by rw [z, e2] at e; cases e) (fun z => by rw [z, e3] at e; cases e)]
    exact e)
  have lv : ∀ {a : Addr} {ys : List V}, a ≠ L t ∧ a ≠ A t → H a = some (.lst ys) → H' a = some (.lst ys) := fun {a ys} m e => s _ _ (by
    rw [rmB_at (fun z => by rw [z, e1] at e; cases e) m.1 m.2]
    exact e)
  have nL : ∀ {a : Addr} {o : HO}, H a = some o → a ≠ L t → a ≠ L' := fun {a o} e q z => by
    rcases n1 with r | r
    · exact q (z.trans r)
    · rw [← z, e] at r; cases r
  have nA : ∀ {a : Addr} {o : HO}, H a = some o → a ≠ A t → a ≠ A' := fun {a o} e q z => by
    rcases n2 with r | r
    · exact q (z.trans r)
    · rw [← z, e] at r; cases r
  have own : ∀ {a : Addr} {o : HO}, H a = some o → (∀ i, i < 2 → a ≠ L i ∧ a ≠ A i) → ∀ i, i < 2 → a ≠ (if i = t then L' else L i) ∧ a ≠ (if i = t then A' else A i) := fun {a o} e q i hi => by
    by_cases z : i = t
    · rw [if_pos z, if_pos z]
      exact ⟨nL e (q t ht).1, nA e (q t ht).2⟩
    · rw [if_neg z, if_neg z]
      exact q i hi
  have eS' := lv (h.oS t ht) eS
  have hHt := h.hH t ht
  refine ⟨⟨fun x hx => ?_, h.hl, fun i hi => (h.hH i hi).mv tv ((lv ((h.kk _ h.hl).2.2 t ht) hHt.at_).trans hHt.at_.symm), fun i hi => ?_, h.np, ⟨_, eS'⟩, own eS h.oS, fun i j hi hj hij => ?_⟩, eS'⟩
  · obtain ⟨q1, q2, q3⟩ := h.kk x hx
    exact ⟨lv (q3 t ht) q1, q2, own q1 q3⟩
  · by_cases q : i = t
    · subst q
      simp only [if_pos rfl]
      exact hb
    · simp only [if_neg q]
      obtain ⟨⟨_, _, f1⟩, ⟨_, f2⟩, _, f3⟩ := (h.bd i hi).at_
      obtain ⟨d1, d2, d3, d4⟩ := h.dis i t hi ht q
      have g1 := s (p i) _ (by rw [rmB_at (h.np i t hi ht q) (fun z => by rw [z, e2] at f1; cases f1) (fun z => by rw [z, e3] at f1; cases f1)]; exact f1)
      have g2 := s (L i) _ (by rw [rmB_at (fun z => by rw [z, e1] at f2; cases f2) d1 d2]; exact f2)
      have g3 := s (A i) _ (by rw [rmB_at (fun z => by rw [z, e1] at f3; cases f3) d3 d4]; exact f3)
      exact (h.bd i hi).mv tv (g1.trans f1.symm) (g2.trans f2.symm) (g3.trans f3.symm)
  · by_cases q : i = t
    · have q' : ¬ j = t := fun z => hij (q.trans z.symm)
      simp only [if_pos q, if_neg q']
      obtain ⟨_, ⟨_, f2⟩, _, f3⟩ := (h.bd j hj).at_
      obtain ⟨d1, d2, d3, d4⟩ := h.dis j t hj ht q'
      exact ⟨Ne.symm (nL f2 d1), Ne.symm (nL f3 d3), Ne.symm (nA f2 d2), Ne.symm (nA f3 d4)⟩
    · by_cases q' : j = t
      · simp only [if_neg q, if_pos q']
        obtain ⟨_, ⟨_, f2⟩, _, f3⟩ := (h.bd i hi).at_
        obtain ⟨d1, d2, d3, d4⟩ := h.dis i t hi ht q
        exact ⟨nL f2 d1, nA f2 d2, nL f3 d3, nA f3 d4⟩
      · simp only [if_neg q, if_neg q']
        exact h.dis i j hi hj hij
end
noncomputable def tw2 {α : Type} (x y : α) : Nat → α := fun i => if i = 0 then x else y
theorem all_two {Pr : Nat → Prop} (h0 : Pr 0) (h1 : Pr 1) : ∀ i, i < 2 → Pr i := fun i hi => by
  rcases two_of hi with rfl | rfl
  · exact h0
  · exact h1
theorem BdS.new {C : Addr} {H : Hp} {p L A st : Addr} {hs : List Nn} {b c : Int} (hB : BdOk C H p L A [] 0 0 ((c : Rat) / (b : Rat)) 356 356 none none) (e : H st = some (.tup [.int 0, .int 0])) : BdS C H p L A st hs b c 0 := ⟨[], 0, 0, none, none, hB, rfl, e⟩
theorem at_two {x y : V} {v : Nat → V} {t : Nat} (ht : t < 2) (h0 : v 0 = x) (h1 : v 1 = y) : atI [x, y] (t : Int) = some (v t) := by
  rcases two_of ht with rfl | rfl
  · rw [h0]; exact at0
  · rw [h1]; exact at1
theorem sc_law : FnScope ["_law_script", "_law_row_here", "_law_bottom", "_law_bound", "_law_more", "_law_some", "_law_other", "_law_bounds", "_law_walks", "_law_states", "_law_k", "_law_turn", "_law_walk", "_law_wide", "_law_state"] ["_law_script"] (defScope s_law) := ⟨rfl, rfl, rfl, by decide +kernel, rfl, by decide +kernel, by decide +kernel⟩
theorem ok_law (F : Fun K "law" "law" s_law f fd) (T : Txt mg) (K_Bend : Cl K mg "Bend" c_Bend ["bound", "twice", "below", "above", "gentlest", "steepest"]) (D_law_drawn : Dn P w K mg base 4 "_law_drawn" ["_law_script", "_law_place", "_law_most", "_law_share"] (spDrawn4 K)) (D_law_row : Dn P w K mg base 3 "_law_row" ["_law_script", "_law_place", "_law_sizes"] (spRow K)) (D_law_times : Dn P w K mg base 1 "_law_times" ["_law_row_here", "_law_by"] spTimes) (D_law_ratio : Dn P w K mg base 1 "_law_ratio" ["_law_top", "_law_bottom"] spRatio)
    (D_Bend : Dk P w K mg base 6 "Bend" c_Bend ["self", "bound"] (spBInit c_Bend)) (D_law_step : Dn P w K mg base 10 "_law_step" ["_law_walk", "_law_state", "_law_some", "_law_k", "_law_bottom", "_law_bound", "_law_asked"] (spStepN c_Bend)) (D_law_now : Dn P w K mg base 7 "_law_now" ["_law_walk", "_law_state", "_law_some", "_law_k", "_law_bottom", "_law_bound"] (spNowN c_Bend)) : FnOk P w K mg base CX0 11 f fd ["_law_script"] (spLaw K) := by
  refine F.ok sc_law (fun vs H Q E h => ?_) (fun cdv A outer s H vs Q E hr h => ?_)
  · obtain ⟨a, ns, rfl, _⟩ := h
    rfl
  obtain ⟨a, ns, rfl, hS, hn, k⟩ := h
  have hu64 := hr.units
  refine Jd.go (Jd.cut 3 (fun σ H' => ∃ (R M : Addr) (es : List Nn) (xs : List Int) (b c : Int), σ = [some (.ref a), some (.ref R), some (.int b), some (.int c), some (.ref M), none, none, none, none, none, none, none, none, none, none] ∧ H' R = some (.lst (nvals es)) ∧ NRow H' es 46 350 ∧ es.length ≤ 12 ∧ nrising es ∧ 1 ≤ b ∧ Sz 80 b ∧ 0 ≤ c ∧ Sz 350 c ∧ H' M = some (.lst (xs.map V.int)) ∧ xs.length = 16 ∧ (∀ x, xs[0]? = some x → 0 ≤ x ∧ x < 7) ∧ ∀ x, xs[1]? = some x → 0 ≤ x ∧ x < 2) ?_ fun u hu hR => ?_)
  · refine ⟨_, (J.f (Jd.ps_comp (O := ["_law_one"]) (N' := []) (cap := []) (i := 5) sc_law.nd rfl (Or.inl rfl) rfl (Jd.piL K (J.a 1)) (fun _ _ _ _ _ => (J.o (i := 0) (show List.Nodup [("_law_one" : Str)] by decide +kernel) rfl (Or.inl rfl))) (fun _ _ _ _ _ => (Jd.pts_one (J.l op_notN (J.d (ixT K) (J.a 0) J.c (fun _ _ => rfl)) J.p (nomark _)))) (fun _ _ _ _ _ => (J.a 0)) rfl trivial rfl (by decide +kernel) rfl (by decide +kernel) (by rfl))
      (J.f (J.k (i := 6) sc_law.nd rfl (Or.inl rfl) (J.g op_fdivB (J.a 3) J.c) (hs := sw_B))
      (J.f (J.m (J.l op_gt (J.d (ixL K) (J.a 4) J.c (fun _ _ => rfl)) J.c (nomark _))
      (J.h (J.k (i := 6) sc_law.nd rfl (Or.inl rfl) (J.g op_add (J.g op_mulB (J.a 3) (J.d (ixL K) (J.a 4) J.c (fun _ _ => rfl))) (J.d (ixL K) (J.a 4) J.c (fun _ _ => rfl))) (hs := sw_B)))
      J.n)
      (J.f (J.k (i := 7) sc_law.nd rfl (Or.inl rfl) (Jd.pe_lst (J.b (J.a 3) (J.b (J.a 6) J.e st_N) st_N)) (hs := sw_L))
      (J.f (J.k (i := 8) sc_law.nd rfl (Or.inl rfl) (Jd.pe_lst (J.b (Jd.pe_dk D_Bend (hr.mono (by decide)) rfl (J.b (J.i D_law_ratio (hr.mono (by decide)) rfl (J.b (J.a 3) (J.b (J.a 2) J.e st_N) st_N) (he := st_N) (hpl := (anyc st_N any0))) J.e st_K) (he := st_K) (hpl := any0)) (J.b (Jd.pe_dk D_Bend (hr.mono (by decide)) rfl (J.b (J.i D_law_ratio (hr.mono (by decide)) rfl (J.b (J.a 6) (J.b (J.a 2) J.e st_N) st_N) (he := st_N) (hpl := (anyc st_N any0))) J.e st_K) (he := st_K) (hpl := any0)) J.e st_K) st_K)) (hs := sw_L))
      (J.f (J.k (i := 9) sc_law.nd rfl (Or.inl rfl) (Jd.pe_lst (J.b (J.q (J.b J.c (J.b J.c J.e st_C) st_C)) (J.b (J.q (J.b J.c (J.b J.c J.e st_C) st_C)) J.e st_T) st_T)) (hs := sw_L))
      (J.f (Jd.ps_for PassesOwn.never rfl (Jd.pi_range1 rfl T.range (J.b (J.u (lenC K) rfl T.len_ PySem.boot_len (J.b (J.a 5) J.e st_N) (he := st_N) (hpl := any0)) J.e st_K)) (J.o (i := 10) sc_law.nd rfl (Or.inl rfl))
      (J.h (Jd.ps_for PassesOwn.never rfl (Jd.piL K (Jd.pe_lst (J.b (J.d (ixL K) (J.a 4) J.c (fun _ _ => rfl)) (J.b (J.g op_sub J.c (J.d (ixL K) (J.a 4) J.c (fun _ _ => rfl))) J.e st_B) st_S))) (J.o (i := 11) sc_law.nd rfl (Or.inl rfl))
      (J.f (Jd.ps_par (i := 12) (j := 13) rfl sc_law.nd rfl rfl (by decide) rfl rfl (J.b (J.d (ixL K) (J.a 8) (J.a 11) (fun _ _ => rfl)) (J.b (J.d (ixL K) (J.a 7) (J.a 11) (fun _ _ => rfl)) J.e st_S) st_S) rfl)
      (J.f (J.k (i := 14) sc_law.nd rfl (Or.inl rfl) (J.i D_law_step (hr.mono (by decide)) rfl (J.b (J.a 12) (J.b (J.d (ixL K) (J.a 9) (J.a 11) (fun _ _ => rfl)) (J.b (J.a 5) (J.b (J.a 10) (J.b (J.a 2) (J.b (J.a 13) (J.b (Jd.pe_cmpR op_eq (J.d (ixL K) (J.a 4) J.c (fun _ _ => rfl)) (J.a 11) (nomark _)) J.e st_Q) st_N) st_N) st_N) st_N) st_S) st_N) (he := st_N) (hpl := (anyc st_S (anyc st_N (anyc st_N (anyc st_N (anyc st_N (anyc st_Q any0)))))))) (hs := sw_K))
      (J.f (J.m (J.l op_isN (J.a 14) J.p (nomark _))
      (J.h (J.j Jd.pe_bl))
      J.n)
      (J.f (J.m (Jd.PWpt (Jd.pw_and (J.l op_gt (J.d (ixL K) (J.a 4) (J.g op_add J.c (J.a 10)) (fun _ _ => rfl)) J.c (nomark _)) (Jd.pw_and1 (J.s (J.r (J.i D_law_now (hr.mono (by decide)) rfl (J.b (J.a 12) (J.b (J.a 14) (J.b (J.a 5) (J.b (J.a 10) (J.b (J.a 2) (J.b (J.a 13) J.e st_N) st_N) st_N) st_N) st_N) st_N) (he := st_N) (hpl := (anyc st_N (anyc st_N (anyc st_N (anyc st_N (anyc st_N any0))))))))))))
      (J.h (J.j Jd.pe_bl))
      J.n)
      (J.h (Jd.ps_asg (J.a 14) (Jd.pg_sub (J.a 9) (J.a 11) set_list))))))))))
      (J.h (J.j Jd.pe_bl))))))))), ?_⟩
    rintro σ H1 ⟨R, M, es0, xs, b, c, rfl, eR, hes, hle, hri, hb, zb, hc, zc, eM, hxl, hx0, hx1⟩
    obtain ⟨x0, g0⟩ : ∃ x, xs[0]? = some x := ⟨_, List.getElem?_eq_getElem (by omega)⟩
    obtain ⟨x1, g1⟩ : ∃ x, xs[1]? = some x := ⟨_, List.getElem?_eq_getElem (by omega)⟩
    obtain ⟨x2, g2⟩ : ∃ x, xs[2]? = some x := ⟨_, List.getElem?_eq_getElem (by omega)⟩
    obtain ⟨a0, b0⟩ := hx0 _ g0
    obtain ⟨a1, b1⟩ := hx1 _ g1
    walk_at "v"
    refine r_iL ?_
    walk_at "v"
    refine ⟨R, rfl, ⟨_, SqL.of eR⟩, ?_⟩
    refine compB_of (xs := nvals es0) tells_list (fun H3 s3 => SqL.of (s3 _ _ eR)) (by rw [nvals_len]; walk_at "o") (fun i ys G => ys = nvals ((es0.take i).filter nsm)) rfl ?_ ?_
    · rintro D i x ys H3 σ0 N N0 h0 hD eD s3 hx hy rfl kY kN
      obtain ⟨e, he, rfl⟩ := nvals_at hx
      obtain ⟨ee, _⟩ := (hes e (List.mem_of_getElem? he)).up s3
      have ts := PySem.take_succ_filter nsm es0 i e he
      obtain ⟨ae, me, ve⟩ := e
      refine r_own1 h0 ?_
      cases ve with
      | none =>
        walk_at "v"
        refine ⟨rfl, ?_⟩
        walk_at "v"
        refine iteF ?_
        rw [show nsm (ae, me, none) = false from rfl, if_neg Bool.false_ne_true, List.append_nil] at ts
        exact kN H3 (Same.refl _) (by rw [ts])
      | some z =>
        walk_at "v"
        refine ⟨rfl, ?_⟩
        walk_at "v"
        refine iteT ?_
        walk_at "v"
        rw [show nsm (ae, me, some z) = true from rfl, if_pos rfl] at ts
        exact kY _ H3 (Same.refl _) (by rw [ts, ← nvals_snoc])
    rintro D ys H2 hD eD s2 hy rfl
    rw [nvals_len, List.take_length] at eD
    generalize hss : es0.filter nsm = hs at *
    have hsl : hs.length ≤ 12 := by
      rw [← hss]
      have := List.length_filter_le nsm es0
      walk_at "o"
    have hsr : nrising hs := by rw [← hss]; exact hri.filter _
    have hsa : AllN hs := fun x hx => by rw [← hss] at hx; exact (List.mem_filter.mp hx).2
    have hsn : NRow H2 hs 46 356 := fun x hx => by
      rw [← hss] at hx
      let ⟨q1, q2, q3⟩ := (hes x (List.mem_filter.mp hx).1).up s2
      exact ⟨q1, q2, fun z hz => (q3 z hz).mono (by decide)⟩
    have eM2 := s2 _ _ eM
    have nDM : D ≠ M := fun z => by rw [z, eM] at hD; cases hD
    have hHs : ∀ c' : Int, 0 ≤ c' → Sz 356 c' → Hs H2 D hs b c' := fun c' h1 h2 => ⟨eD, hsn, hsa, hsr, by omega, hb, zb.mono (by decide), h1, h2⟩
    have cdiv : c.fdiv 2 = c / 2 := Int.fdiv_eq_ediv_of_nonneg _ (by decide)
    walk_at "v"
    refine r_I (show CDivB _ _ from ⟨by decide, by decide +kernel⟩) ?_
    refine nx_of ?_
    refine seq_cut (fun σ' H' => ∃ c1, 0 ≤ c1 ∧ Sz 356 c1 ∧ σ' = [some (.ref a), some (.ref R), some (.int b), some (.int c), some (.ref M), some (.ref D), some (.int c1), none, none, none, none, none, none, none, none] ∧ H' = H2) ?_ fun N hN => ?_
    · rintro σ H3 ⟨c1, hc1, zc1, rfl, rfl⟩
      walk_at "v"
      refine r_new (mk := .lst) (by simp) fun B H4 s4 n4 e4 => ?_
      walk_at "v"
      refine frac_gen (n := 356) (by walk_at "o") (zc.mono (by decide)) (zb.mono (by decide)) (by decide) fun pw H6 s6 fw => ?_
      walk_at "v"
      intro p dx np ndx nedx
      have hp7 : upd (upd H6 dx (.own p)) p (.ins c_Bend dx []) p = some (.ins c_Bend dx []) := upd_same
      have s67 : Same H6 (upd (upd H6 dx (.own p)) p (.ins c_Bend dx [])) := fun b' o e => by
        rw [upd_ne (ne_of_none e np), upd_ne (ne_of_none e ndx)]
        exact e
      generalize upd (upd H6 dx (.own p)) p (.ins c_Bend dx []) = H7 at *
      refine ⟨p, dx, pw, (c : Rat) / (b : Rat), 356, rfl, hp7, fw.up s67, by decide, fun Lb La H8 kk s8 nb8 na8 hB8 => ⟨rfl, ?_⟩⟩
      have s68 : Same H6 H8 := fun b' o e => s8 _ _ (by rw [rm_at (ne_of_none e np)]; exact s67 _ _ e)
      have nb6 : H6 Lb = none := s67.free nb8
      have na6 : H6 La = none := s67.free na8
      have hB0 : BdOk c_Bend H8 p Lb La [] 0 0 ((c : Rat) / (b : Rat)) 356 356 none none := hB8.fresh
      walk_at "v"
      refine frac_gen (n := 356) (by walk_at "o") zc1 (zb.mono (by decide)) (by decide) fun pw' H9 s9 fw' => ?_
      walk_at "v"
      intro p' dx' np' ndx' nedx'
      have hp7' : upd (upd H9 dx' (.own p')) p' (.ins c_Bend dx' []) p' = some (.ins c_Bend dx' []) := upd_same
      have s9' : Same H9 (upd (upd H9 dx' (.own p')) p' (.ins c_Bend dx' [])) := fun b' o e => by
        rw [upd_ne (ne_of_none e np'), upd_ne (ne_of_none e ndx')]
        exact e
      generalize upd (upd H9 dx' (.own p')) p' (.ins c_Bend dx' []) = H10 at *
      refine ⟨p', dx', pw', (c1 : Rat) / (b : Rat), 356, rfl, hp7', fw'.up s9', by decide, fun Lb' La' H11 kk' s11 nb11 na11 hB11 => ⟨rfl, ?_⟩⟩
      have s911 : Same H9 H11 := fun b' o e => s11 _ _ (by rw [rm_at (ne_of_none e np')]; exact s9' _ _ e)
      have nb9 : H9 Lb' = none := s9'.free nb11
      have na9 : H9 La' = none := s9'.free na11
      have hB1 : BdOk c_Bend H11 p' Lb' La' [] 0 0 ((c1 : Rat) / (b : Rat)) 356 356 none none := hB11.fresh
      have hB0' := hB0.up (s9.trans s911)
      have s211 : Same H3 H11 := s4.trans (s6.trans (s68.trans (s9.trans s911)))
      walk_at "v"
      refine r_new (mk := .lst) (by simp) fun W H12 s12 n12 e12 => ?_
      walk_at "v"
      refine r_new (mk := .tup) (by simp) fun st0 H13 s13 n13 e13 => ?_
      walk_at "v"
      refine r_new (mk := .tup) (by simp) fun st1 H14 s14 n14 e14 => ?_
      walk_at "v"
      refine r_new (mk := .lst) (by simp) fun S H15 s15 n15 e15 => ?_
      obtain ⟨_, _, _, _, _, _, hBa⟩ := id hB0
      obtain ⟨_, _, _, _, _, _, hBb⟩ := id hB1
      have s215 : Same H11 H15 := s12.trans (s13.trans (s14.trans s15))
      have s26 : Same H3 H6 := s4.trans s6
      have q9 : ∀ {b' x : Addr} {o : HO}, H8 b' = some o → H9 x = none → b' ≠ x := fun e n => ne_of_none (s9 _ _ e) n
      have e611 : Same H6 H11 := s68.trans (s9.trans s911)
      have k1 : ∀ {x : Addr} {ys : List V}, H6 x = some (.lst ys) → H15 x = some (.lst ys) ∧ x ≠ S ∧ ∀ i, i < 2 → x ≠ tw2 Lb Lb' i ∧ x ≠ tw2 La La' i := fun {x ys} e => ⟨s215 _ _ (e611 _ _ e), ne_of_none ((e611.trans (s12.trans (s13.trans s14))) _ _ e) n15, all_two ⟨ne_of_none e nb6, ne_of_none e na6⟩ ⟨ne_of_none ((s68.trans s9) _ _ e) nb9, ne_of_none ((s68.trans s9) _ _ e) na9⟩⟩
      have z11 := s9.trans s911
      have hD0 : Duo c_Bend H15 D S [(D, nvals hs), (W, [.ref p, .ref p']), (B, [.int c, .int c1]), (M, xs.map V.int)] hs b (tw2 p p') (tw2 c c1) (tw2 Lb Lb') (tw2 La La') (tw2 st0 st1) (fun _ => 0) := by
        refine ⟨fun x hx => ?_, by simp, fun i hi => ?_, fun i hi => ?_, fun i j hi hj hij => ?_, ⟨_, e15⟩, fun i hi => ?_, fun i j hi hj hij => ?_⟩
        · simp at hx
          rcases hx with rfl | rfl | rfl | rfl
          · exact k1 (s26 _ _ eD)
          · refine ⟨(s13.trans (s14.trans s15)) _ _ e12, ne_of_none ((s13.trans s14) _ _ e12) n15, all_two ⟨?_, ?_⟩ ⟨?_, ?_⟩⟩
            · exact Ne.symm (ne_of_none (z11 _ _ hBa.eb) n12)
            · exact Ne.symm (ne_of_none (z11 _ _ hBa.ea) n12)
            · exact Ne.symm (ne_of_none hBb.eb n12)
            · exact Ne.symm (ne_of_none hBb.ea n12)
          · exact k1 (s6 _ _ e4)
          · exact k1 (s26 _ _ eM2)
        · refine (all_two (Pr := fun i => Hs H15 D hs b (tw2 c c1 i)) ?_ ?_) i hi
          · exact (hHs c hc (zc.mono (by decide))).up (s26.trans (e611.trans s215))
          · exact (hHs c1 hc1 zc1).up (s26.trans (e611.trans s215))
        · refine (all_two (Pr := fun i => BdS c_Bend H15 (tw2 p p' i) (tw2 Lb Lb' i) (tw2 La La' i) (tw2 st0 st1 i) hs b (tw2 c c1 i) 0) ?_ ?_) i hi
          · exact BdS.new (hB0'.up s215) ((s14.trans s15) _ _ e13)
          · exact BdS.new (hB1.up s215) (s15 _ _ e14)
        · have q : p ≠ p' := q9 hBa.at_ np'
          rcases two_of hi with rfl | rfl <;> rcases two_of hj with rfl | rfl
          · exact absurd rfl hij
          · exact q
          · exact Ne.symm q
          · exact absurd rfl hij
        · refine (all_two (Pr := fun i => S ≠ tw2 Lb Lb' i ∧ S ≠ tw2 La La' i) ?_ ?_) i hi
          · exact ⟨Ne.symm (ne_of_none ((z11.trans (s12.trans (s13.trans s14))) _ _ hBa.eb) n15), Ne.symm (ne_of_none ((z11.trans (s12.trans (s13.trans s14))) _ _ hBa.ea) n15)⟩
          · exact ⟨Ne.symm (ne_of_none ((s12.trans (s13.trans s14)) _ _ hBb.eb) n15), Ne.symm (ne_of_none ((s12.trans (s13.trans s14)) _ _ hBb.ea) n15)⟩
        · have q1 : Lb ≠ Lb' := q9 hBa.eb nb9
          have q2 : Lb ≠ La' := q9 hBa.eb na9
          have q3 : La ≠ Lb' := q9 hBa.ea nb9
          have q4 : La ≠ La' := q9 hBa.ea na9
          rcases two_of hi with rfl | rfl <;> rcases two_of hj with rfl | rfl
          · exact absurd rfl hij
          · exact ⟨q1, q2, q3, q4⟩
          · exact ⟨Ne.symm q1, Ne.symm q3, Ne.symm q2, Ne.symm q4⟩
          · exact absurd rfl hij
      have eS0 : H15 S = some (.lst [.ref (tw2 st0 st1 0), .ref (tw2 st0 st1 1)]) := e15
      generalize hps : tw2 p p' = P at *
      generalize hcs : tw2 c c1 = c2 at *
      generalize tw2 Lb Lb' = L0 at *
      generalize tw2 La La' = A0 at *
      generalize tw2 st0 st1 = t0 at *
      walk_at "v"
      refine r_for (r_rng1 ?_)
      walk_at "v"
      refine r_len (.inl (SqL.of (hD0.kk _ hD0.hl).1)) ?_
      rw [nvals_len]
      walk_at "v"
      refine ⟨_, rfl, by lia, by lia, for_range (fun j σ H9 => ∃ (v10 v11 v12 v13 v14 : Option V) (L A st : Nat → Addr) (K : Nat → Nat), σ = [some (.ref a), some (.ref R), some (.int b), some (.int c), some (.ref M), some (.ref D), some (.int c1), some (.ref B), some (.ref W), some (.ref S), v10, v11, v12, v13, v14] ∧ Duo c_Bend H9 D S [(D, nvals hs), (W, [.ref p, .ref p']), (B, [.int c, .int c1]), (M, xs.map V.int)] hs b P c2 L A st K ∧ (∀ i, i < 2 → K i = j) ∧ H9 S = some (.lst [.ref (st 0), .ref (st 1)])) ?_ ?_ ?_⟩
      · exact ⟨none, none, none, none, none, _, _, _, _, rfl, hD0, fun _ _ => rfl, eS0⟩
      · rintro j σ H17 hj ⟨v10, v11, v12, v13, v14, L, A, st, KK, rfl, hD, hK, eS⟩
        have hj' : j < hs.length := by walk_at "o"
        rw [show (0 : Int) + (j : Int) = (j : Int) by walk_at "o"]
        have eM17 := (hD.kk (M, xs.map V.int) (by simp)).1
        walk_at "v"
        refine r_for (r_iL ?_)
        walk_at "v"
        refine r_l eM17 (at_ints g1 rfl) ?_
        walk_at "v"
        refine r_l eM17 (at_ints g1 rfl) ?_
        walk_at "v"
        refine r_new (mk := .lst) (by simp) fun TT H18 s18 n18 e18 => ?_
        have hD18 := hD.add s18 n18 e18
        have htt : ∀ i, i < 2 → ∃ t : Nat, t < 2 ∧ [V.int x1, V.int (1 - x1)][i]? = some (.int (t : Int)) ∧ tw2 x1.toNat (1 - x1).toNat i = t := all_two ⟨x1.toNat, by omega, by simp; omega, rfl⟩ ⟨(1 - x1).toNat, by omega, by simp; omega, rfl⟩
        have hin : ∀ i j, i < 2 → j < 2 → i ≠ j → tw2 x1.toNat (1 - x1).toNat i ≠ tw2 x1.toNat (1 - x1).toNat j := fun i j hi hj hij => by
          rcases two_of hi with rfl | rfl <;> rcases two_of hj with rfl | rfl
          · exact absurd rfl hij
          · show x1.toNat ≠ (1 - x1).toNat; omega
          · show (1 - x1).toNat ≠ x1.toNat; omega
          · exact absurd rfl hij
        have hon : ∀ q, q < 2 → ∃ i, i < 2 ∧ tw2 x1.toNat (1 - x1).toNat i = q := fun q hq => by
          by_cases z : x1.toNat = q
          · exact ⟨0, by omega, z⟩
          · exact ⟨1, by omega, show (1 - x1).toNat = q by omega⟩
        generalize tw2 x1.toNat (1 - x1).toNat = tt at *
        walk_at "v"
        refine ⟨TT, rfl, ⟨_, SqL.of e18⟩, for_list (xs := [V.int x1, V.int (1 - x1)]) (fun i σ H9 => ∃ (v11 v12 v13 v14 : Option V) (L A st : Nat → Addr) (K : Nat → Nat), σ = [some (.ref a), some (.ref R), some (.int b), some (.int c), some (.ref M), some (.ref D), some (.int c1), some (.ref B), some (.ref W), some (.ref S), some (.int (j : Int)), v11, v12, v13, v14] ∧ Duo c_Bend H9 D S [(TT, [V.int x1, V.int (1 - x1)]), (D, nvals hs), (W, [.ref p, .ref p']), (B, [.int c, .int c1]), (M, xs.map V.int)] hs b P c2 L A st K ∧ (∀ i', i' < i → i' < 2 → K (tt i') = j + 1) ∧ (∀ i', i ≤ i' → i' < 2 → K (tt i') = j) ∧ H9 S = some (.lst [.ref (st 0), .ref (st 1)])) ?_ ?_ ?_ ?_⟩
        · refine ⟨_, _, _, _, L, A, st, KK, rfl, hD18, fun i' h _ => absurd h (by omega), fun i' _ hi' => ?_, s18 _ _ eS⟩
          obtain ⟨t, ht, _, e⟩ := htt i' hi'
          rw [e]
          exact hK t ht
        · rintro i σ H19 _ ⟨v11, v12, v13, v14, L, A, st, KK, rfl, hD, _⟩
          exact SqL.of (hD.kk (TT, [V.int x1, V.int (1 - x1)]) (by simp)).1
        · rintro i x σ H19 hx ⟨v11, v12, v13, v14, L, A, st, KK, rfl, hD, hK1, hK2, eS⟩
          have hi : i < 2 := (List.getElem?_eq_some_iff.mp hx).1
          obtain ⟨t, ht, et, ett⟩ := htt i hi
          rw [et] at hx
          cases hx
          have hKt : KK t = j := by rw [← ett]; exact hK2 i (Nat.le_refl _) hi
          have eM19 := (hD.kk (M, xs.map V.int) (by simp)).1
          have eW := (hD.kk (W, [.ref p, .ref p']) (by simp)).1
          have eB := (hD.kk (B, [.int c, .int c1]) (by simp)).1
          have aW : atI [V.ref p, V.ref p'] (t : Int) = some (.ref (P t)) := by rw [← hps]; exact at_two (v := fun t => V.ref (tw2 p p' t)) ht rfl rfl
          have aB : atI [V.int c, V.int c1] (t : Int) = some (.int (c2 t)) := by rw [← hcs]; exact at_two (v := fun t => V.int (tw2 c c1 t)) ht rfl rfl
          have aS : atI [V.ref (st 0), V.ref (st 1)] (t : Int) = some (.ref (st t)) := at_two (v := fun t => V.ref (st t)) ht rfl rfl
          obtain ⟨ss, fl, ro, g, s', hBd, hss, est⟩ := hD.bd t ht
          rw [hKt] at hss
          obtain ⟨nl1, nl2⟩ := (hD.kk _ hD.hl).2.2 t ht
          refine body_cut fun MM BB RR hM hB hR => ?_
          walk_at "v"
          refine r_l eW aW ?_
          walk_at "v"
          refine r_l eB aB ?_
          walk_at "v"
          refine r_l eS aS ?_
          walk_at "v"
          refine r_l eM19 (at_ints g2 rfl) ?_
          walk_at "v"
          refine ⟨P t, L t, A t, st t, D, ss, fl, ro, j, hs, b, c2 t, g, s', _, rfl, hBd, hss, est, hD.hH t ht, hj', nl1, nl2, fun st' L' A' ss' fl' ro' g' s2' H20 k1' est' hBd' hss' n1 n2 => ?_⟩
          obtain ⟨hD20, eS20⟩ := hD.step ht eS k1' (k := j + 1) ⟨ss', fl', ro', g', s2', hBd', hss', est'⟩ n1 n2
          have eM20 := (hD20.kk (M, xs.map V.int) (by simp)).1
          obtain ⟨xj, gj⟩ : ∃ x, xs[4 + j]? = some x := ⟨_, List.getElem?_eq_getElem (by omega)⟩
          have fin : ∀ {H21 : Hp}, Same H20 H21 → MM [some (.ref a), some (.ref R), some (.int b), some (.int c), some (.ref M), some (.ref D), some (.int c1), some (.ref B), some (.ref W), some (.ref S), some (.int (j : Int)), some (.int (t : Int)), some (.ref (P t)), some (.int (c2 t)), some (.ref st')] (upd H21 S (.lst ([V.ref (st 0), V.ref (st 1)].set t (.ref st')))) := fun {H21} s21 => by
            refine hM _ _ ⟨_, _, _, _, _, _, _, _, rfl, (hD20.up s21).set _, fun i' h1 h2 => ?_, fun i' h1 h2 => ?_, ?_⟩
            · by_cases z : i' = i
              · rw [z, ett, if_pos rfl]
              · rw [if_neg (by rw [← ett]; exact hin i' i h2 hi z)]
                exact hK1 i' (by omega) h2
            · rw [if_neg (by rw [← ett]; exact hin i' i h2 hi (by omega))]
              exact hK2 i' (by omega) h2
            · rw [upd_same]
              rcases two_of ht with rfl | rfl <;> rfl
          have ent : ixN [V.ref (st 0), V.ref (st 1)].length (t : Int) = some t := ix_nat (by omega) (by simp; omega)
          walk_at "v"
          refine ⟨rfl, ?_⟩
          walk_at "v"
          refine iteF ?_
          walk_at "v"
          refine r_l eM20 (at_ints gj (by walk_at "o")) ?_
          walk_at "v"
          refine ite2 (fun c3 => ?_) (fun c3 => ?_)
          · walk_at "v"
            refine ⟨P t, L', A', st', D, ss', fl', ro', j, hs, b, c2 t, g', s2', rfl, hBd', hss', est', hD20.hH t ht, hj', fun H21 s21 => ?_⟩
            walk_at "v"
            refine iteF ?_
            refine nx_of ?_
            refine r_asg ?_
            walk_at "v"
            refine r_setL (s21 _ _ eS20) ent ?_
            exact fin s21
          · walk_at "v"
            refine iteF ?_
            refine nx_of ?_
            refine r_asg ?_
            walk_at "v"
            refine r_setL eS20 ent ?_
            exact fin (Same.refl _)
        · rintro σ H19 ⟨v11, v12, v13, v14, L, A, st, KK, rfl, hD, hK1, hK2, eS⟩
          refine ⟨_, _, _, _, _, L, A, st, KK, rfl, hD.sub (fun x hx => List.mem_cons_of_mem _ hx) (by simp), fun q hq => ?_, eS⟩
          obtain ⟨i, hi, e⟩ := hon q hq
          rw [← e]
          exact hK1 i hi hi
      · rintro σ H17 ⟨v10, v11, v12, v13, v14, L, A, st, K, rfl, hD, hK, eS⟩
        walk_at "v"
        exact k _
    · walk_at "v"
      refine r_l eM2 (at_ints g0 rfl) ?_
      walk_at "v"
      refine ite2 (fun c3 => ?_) (fun c3 => ?_)
      · have z0 : Sz 3 x0 := show x0.natAbs < 2 ^ 3 by walk_at "o"
        walk_at "v"
        refine r_l eM2 (at_ints g0 rfl) ?_
        walk_at "v"
        refine r_I (mulOk zc z0) ?_
        walk_at "v"
        refine r_l eM2 (at_ints g0 rfl) ?_
        walk_at "v"
        exact hN _ _ ⟨_, Int.add_nonneg (Int.mul_nonneg hc a0) a0, ((zc.mul z0).add (z0.mono (by decide))).mono (by decide), rfl, rfl⟩
      · walk_at "v"
        refine hN _ _ ⟨_, ?_, ?_, rfl, rfl⟩
        · rw [cdiv]; omega
        · rw [cdiv]
          refine (zc.of_le ?_).mono (by decide)
          omega
  refine ⟨_, (J.f (Jd.ps_asg (J.i D_law_drawn (hr.mono (by decide)) rfl (J.b (J.a 0) (J.b J.c (J.b J.c (J.b J.c J.e st_C) st_C) st_C) st_N) (he := st_N) (hpl := (anyc st_C (anyc st_C (anyc st_C any0))))) (Jd.pgT K (n := 3) rfl (J.t (J.o (i := 1) sc_law.nd rfl (Or.inl rfl)) (J.t (J.o (i := 2) sc_law.nd rfl (Or.inl rfl)) (J.t (J.o (i := 3) sc_law.nd rfl (Or.inl rfl)) Jd.pgs_nil)))))
      (J.f (J.k (i := 4) sc_law.nd rfl (Or.inl rfl) (J.i D_law_row (hr.mono (by decide)) rfl (J.b (J.a 0) (J.b J.c (J.b (J.g op_cat (Jd.pe_lst (J.b J.c (J.b J.c (J.b J.c (J.b J.c J.e st_C) st_C) st_C) st_C)) (J.g op_rep (Jd.pe_lst (J.b J.c J.e st_C)) J.c)) J.e st_B) st_C) st_N) (he := st_N) (hpl := (anyc st_C (anyc st_B any0)))) (hs := sw_K))
      (J.f (J.m (J.l op_eq (J.d (ixL K) (J.a 4) J.c (fun _ _ => rfl)) J.c (nomark _))
      (J.h (Jd.ps_par (i := 1) (j := 3) rfl sc_law.nd rfl rfl (by decide) rfl rfl (J.b (J.i D_law_times (hr.mono (by decide)) rfl (J.b (J.a 1) (J.b (J.g op_pow J.c J.c) J.e st_B) st_N) (he := st_N) (hpl := (anyc st_B any0))) (J.b (J.g op_mulB (J.a 3) (J.g op_pow J.c J.c)) J.e st_B) st_K) rfl))
      J.n)
      hu))), ?_⟩
  walk_at "v"
  refine r_asg ?_
  walk_at "v"
  refine ⟨a, ns, 0, 12, 2, rfl, hS, by decide, by decide, by decide, by decide, by decide, fun p0 R es0 b c H1 s1 e1 nR eR hes hle hri hb zb hc zc => ?_⟩
  refine r_unpack3 e1 ?_
  walk_at "v"
  refine r_new (mk := .lst) (by simp) fun l1 H2 s2 n2 e2 => ?_
  walk_at "v"
  refine r_new (mk := .lst) (by simp) fun l2 H3 s3 n3 e3 => ?_
  walk_at "v"
  refine r_rep e3 (by omega) (by omega) ?_
  refine r_new (mk := .lst) (by decide) fun l3 H4 s4 n4 e4 => ?_
  walk_at "v"
  refine r_cat (s4 _ _ (s3 _ _ e2)) e4 ?_
  refine r_new (mk := .lst) (by simp) fun l4 H5 s5 n5 e5 => ?_
  have s05 := s1.trans (s2.trans (s3.trans (s4.trans s5)))
  have s15 := s2.trans (s3.trans (s4.trans s5))
  walk_at "v"
  refine ⟨a, ns, 1, l4, [7, 2, 3, 8, 3, 3, 3, 3, 3, 3, 3, 3, 3, 3, 3, 3], rfl, s05.seq hS, by decide, by decide, by rw [e5]; rfl, by decide, by decide, fun M xs H6 s6 n6 e6 hlen hxs => ?_⟩
  have s16 := s15.trans s6
  obtain ⟨x3, g3, a3, b3⟩ := row_get hlen hxs 3 (z := 8) rfl
  have hx0 : ∀ x, xs[0]? = some x → 0 ≤ x ∧ x < 7 := fun x e => hxs 0 x 7 e rfl
  have hx1 : ∀ x, xs[1]? = some x → 0 ≤ x ∧ x < 2 := fun x e => hxs 1 x 2 e rfl
  walk_at "v"
  refine r_l e6 (at_ints g3 rfl) ?_
  walk_at "v"
  refine ite2 (fun c3 => ?_) (fun c3 => ?_)
  · have z60 : Sz 200 ((10 : Int) ^ Int.toNat 60) := by decide
    have p60 : (0 : Int) ≤ (10 : Int) ^ Int.toNat 60 := by decide
    walk_at "v"
    refine ⟨R, es0, _, 150, 200, rfl, s16 _ _ eR, hes.up s16, by walk_at "o", z60, by decide, fun R7 es7 H7 s7 n7 e7 hes7 hmap => ?_⟩
    have s17 := s16.trans s7
    walk_at "v"
    refine r_I (mulOk zc z60) ?_
    walk_at "v"
    have hle7 : es7.length = es0.length := by
      have := congrArg List.length hmap
      simpa using this
    refine hR _ _ ⟨R7, M, es7, xs, b, _, rfl, e7, fun x hx => let ⟨q1, q2, q3⟩ := hes7 x hx; ⟨q1, q2.mono (by decide), fun z hz => (q3 z hz).mono (by decide)⟩, by walk_at "o", ?_, hb, zb, Int.mul_nonneg hc p60, (zc.mul z60).mono (by decide), s7 _ _ e6, hlen, hx0, hx1⟩
    refine nrising_of ?_ hri
    have e := congrArg (List.map Prod.fst) hmap
    rw [List.map_map, List.map_map] at e
    exact e
  · walk_at "v"
    exact hR _ _ ⟨R, M, es0, xs, b, c, rfl, s16 _ _ eR, fun x hx => let ⟨q1, q2, q3⟩ := (hes x hx).up s16; ⟨q1, q2.mono (by decide), fun z hz => (q3 z hz).mono (by decide)⟩, hle, hri, hb, zb, hc, zc.mono (by decide), e6, hlen, hx0, hx1⟩
end


theorem all_mk {l : PySem.W.OpenLaw} {w : World} {K : PySem.W.Frag} {h : Heap} {mg : Str → Option Value} {fa : Addr} (X : K.In h) (G : h.Ns mainGlobals mg) (hfa : mg "law" = some (.ref fa)) {tk_HEAD : Tok} {c_Bend : Addr} 
    (a_Bend : PySem.W.nsIn K mainGlobals "Bend" = some (some (.ref c_Bend))) (pg_Bend : PySem.W.plainGet K c_Bend Str.empty = true) (hd_Bend : PySem.W.hasDictIn K c_Bend = true) (po_Bend : PySem.W.plainOver K c_Bend = true) (sa_Bend : PySem.W.findIn K (.ref c_Bend) "__setattr__" = some (some (.builtin "object.__setattr__"))) (mk_Bend : PySem.W.makesIn K c_Bend = true) (kc_Bend : PySem.W.keepIn K (.ref c_Bend) = true)
    (nf_Bend_bound : PySem.W.findIn K (.ref c_Bend) "bound" = some none)
    (nf_Bend_twice : PySem.W.findIn K (.ref c_Bend) "twice" = some none)
    (nf_Bend_below : PySem.W.findIn K (.ref c_Bend) "below" = some none)
    (nf_Bend_above : PySem.W.findIn K (.ref c_Bend) "above" = some none)
    (nf_Bend_gentlest : PySem.W.findIn K (.ref c_Bend) "gentlest" = some none)
    (nf_Bend_steepest : PySem.W.findIn K (.ref c_Bend) "steepest" = some none)
    (h_law_cell : Fx K "_law_cell" s_law_cell)
    (h_law_mix : Fx K "_law_mix" s_law_mix)
    (h_law_row : Fx K "_law_row" s_law_row)
    (h_law_ratio : Fx K "_law_ratio" s_law_ratio)
    (h_law_is_ratio : Fx K "_law_is_ratio" s_law_is_ratio)
    (h_plain_divisor : Fx K "plain_divisor" s_plain_divisor)
    (h_steps_of_heads : Fx K "steps_of_heads" s_steps_of_heads)
    (h_divisor : Fx K "divisor" s_divisor)
    (h_ratio : Fx K "ratio" s_ratio)
    (h_reduced : Fx K "reduced" s_reduced)
    (h_loose_plus : Fx K "loose_plus" s_loose_plus)
    (h_loose_minus : Fx K "loose_minus" s_loose_minus)
    (h_loose_times : Fx K "loose_times" s_loose_times)
    (h_plus : Fx K "plus" s_plus)
    (h_loose_slope : Fx K "loose_slope" s_loose_slope)
    (h_loose_along : Fx K "loose_along" s_loose_along)
    (h_loose_height : Fx K "loose_height" s_loose_height)
    (h_loose_off : Fx K "loose_off" s_loose_off)
    (h_line_by : Fx K "line_by" s_line_by)
    (h_order : Fx K "order" s_order)
    (h_law_shaped : Fx K "_law_shaped" s_law_shaped)
    (h_law_times : Fx K "_law_times" s_law_times)
    (h_law_picked : Fx K "_law_picked" s_law_picked)
    (h_law_drawn : Fx K "_law_drawn" s_law_drawn)
    (h_law_stand : Fx K "_law_stand" s_law_stand)
    (h_greatest : Fx K "greatest" s_greatest)
    (h_smallest : Fx K "smallest" s_smallest)
    (h_gentlest_with : Fx K "gentlest_with" s_gentlest_with)
    (h_steepest_with : Fx K "steepest_with" s_steepest_with)
    (h_opposite : Fx K "opposite" s_opposite)
    (h_is_steeper : Fx K "is_steeper" s_is_steeper)
    (h_touched : Fx K "touched" s_touched)
    (h_Bend_init : Fm K c_Bend "__init__" "Bend.__init__" s_Bend_init)
    (h_Bend_line_of : Fm K c_Bend "line_of" "Bend.line_of" s_Bend_line_of)
    (h_Bend_ended_in_cap : Fm K c_Bend "ended_in_cap" "Bend.ended_in_cap" s_Bend_ended_in_cap)
    (h_Bend_ended_in_cup : Fm K c_Bend "ended_in_cup" "Bend.ended_in_cup" s_Bend_ended_in_cup)
    (h_Bend_take : Fm K c_Bend "take" "Bend.take" s_Bend_take)
    (h_Bend_lowest_room : Fm K c_Bend "lowest_room" "Bend.lowest_room" s_Bend_lowest_room)
    (h_Bend_highest_room : Fm K c_Bend "highest_room" "Bend.highest_room" s_Bend_highest_room)
    (h_Bend_room : Fm K c_Bend "room" "Bend.room" s_Bend_room)
    (h_Bend_line_now : Fm K c_Bend "line_now" "Bend.line_now" s_Bend_line_now)
    (h_law_sample : Fx K "_law_sample" s_law_sample)
    (h_law_low : Fx K "_law_low" s_law_low)
    (h_law_high : Fx K "_law_high" s_law_high)
    (h_law_over : Fx K "_law_over" s_law_over)
    (h_law_three : Fx K "_law_three" s_law_three)
    (h_law_line : Fx K "_law_line" s_law_line)
    (h_law_is_line : Fx K "_law_is_line" s_law_is_line)
    (h_law_end : Fx K "_law_end" s_law_end)
    (h_law_rooms : Fx K "_law_rooms" s_law_rooms)
    (h_law_taken : Fx K "_law_taken" s_law_taken)
    (h_law_step : Fx K "_law_step" s_law_step)
    (h_law_now : Fx K "_law_now" s_law_now)
    (h_law : Fx K "law" s_law)
    (g_HEAD : PySem.W.nsIn K mainGlobals "HEAD" = some (some (.int 256 tk_HEAD)))
    (z_len : PySem.W.nsIn K mainGlobals "len" = some none)
    (z_abs : PySem.W.nsIn K mainGlobals "abs" = some none)
    (z_range : PySem.W.nsIn K mainGlobals "range" = some none)
    (z_isinstance : PySem.W.nsIn K mainGlobals "isinstance" = some none)
    (z_int : PySem.W.nsIn K mainGlobals "int" = some none)
    (z_bool : PySem.W.nsIn K mainGlobals "bool" = some none)
    (z_tuple : PySem.W.nsIn K mainGlobals "tuple" = some none)
    (z_list : PySem.W.nsIn K mainGlobals "list" = some none)
    (z_max : PySem.W.nsIn K mainGlobals "max" = some none)
    (z_min : PySem.W.nsIn K mainGlobals "min" = some none)
    (z_enumerate : PySem.W.nsIn K mainGlobals "enumerate" = some none)
    (z_zip : PySem.W.nsIn K mainGlobals "zip" = some none)
    (z_all : PySem.W.nsIn K mainGlobals "all" = some none)
    (z_any : PySem.W.nsIn K mainGlobals "any" = some none)
    (z_sum : PySem.W.nsIn K mainGlobals "sum" = some none)
    (z_sorted : PySem.W.nsIn K mainGlobals "sorted" = some none)
    (z_reversed : PySem.W.nsIn K mainGlobals "reversed" = some none)
    (z_str : PySem.W.nsIn K mainGlobals "str" = some none) :
    ∃ fd : FuncData, (∀ (s : Shared) (v : Value), BindsTo s fd ⟨[v], []⟩ [("_law_script", v)]) ∧ ∀ base : Heap, K.In base → base.Ns mainGlobals mg → FnOk l.prog w K mg base CX0 11 fa fd ["_law_script"] (spLaw K) := by
  obtain ⟨_, fd_law, a_law, F_law⟩ := h_law
  have e := hfa.symm.trans (PySem.W.mg_of X G a_law)
  cases e
  have T : Txt mg := ⟨PySem.W.mg_none_of X G z_len, PySem.W.mg_none_of X G z_abs, PySem.W.mg_none_of X G z_range, PySem.W.mg_none_of X G z_isinstance, PySem.W.mg_none_of X G z_int, PySem.W.mg_none_of X G z_bool, PySem.W.mg_none_of X G z_tuple, PySem.W.mg_none_of X G z_list, PySem.W.mg_none_of X G z_max, PySem.W.mg_none_of X G z_min, PySem.W.mg_none_of X G z_enumerate, PySem.W.mg_none_of X G z_zip, PySem.W.mg_none_of X G z_all, PySem.W.mg_none_of X G z_any, PySem.W.mg_none_of X G z_sum, PySem.W.mg_none_of X G z_sorted, PySem.W.mg_none_of X G z_reversed, PySem.W.mg_none_of X G z_str⟩
  obtain ⟨_, _, a_law_cell, F_law_cell⟩ := h_law_cell
  obtain ⟨_, _, a_law_mix, F_law_mix⟩ := h_law_mix
  obtain ⟨_, _, a_law_row, F_law_row⟩ := h_law_row
  obtain ⟨_, _, a_law_ratio, F_law_ratio⟩ := h_law_ratio
  obtain ⟨_, _, a_law_is_ratio, F_law_is_ratio⟩ := h_law_is_ratio
  obtain ⟨_, _, a_plain_divisor, F_plain_divisor⟩ := h_plain_divisor
  obtain ⟨_, _, a_steps_of_heads, F_steps_of_heads⟩ := h_steps_of_heads
  obtain ⟨_, _, a_divisor, F_divisor⟩ := h_divisor
  obtain ⟨_, _, a_ratio, F_ratio⟩ := h_ratio
  obtain ⟨_, _, a_reduced, F_reduced⟩ := h_reduced
  obtain ⟨_, _, a_loose_plus, F_loose_plus⟩ := h_loose_plus
  obtain ⟨_, _, a_loose_minus, F_loose_minus⟩ := h_loose_minus
  obtain ⟨_, _, a_loose_times, F_loose_times⟩ := h_loose_times
  obtain ⟨_, _, a_plus, F_plus⟩ := h_plus
  obtain ⟨_, _, a_loose_slope, F_loose_slope⟩ := h_loose_slope
  obtain ⟨_, _, a_loose_along, F_loose_along⟩ := h_loose_along
  obtain ⟨_, _, a_loose_height, F_loose_height⟩ := h_loose_height
  obtain ⟨_, _, a_loose_off, F_loose_off⟩ := h_loose_off
  obtain ⟨_, _, a_line_by, F_line_by⟩ := h_line_by
  obtain ⟨_, _, a_order, F_order⟩ := h_order
  obtain ⟨_, _, a_law_shaped, F_law_shaped⟩ := h_law_shaped
  obtain ⟨_, _, a_law_times, F_law_times⟩ := h_law_times
  obtain ⟨_, _, a_law_picked, F_law_picked⟩ := h_law_picked
  obtain ⟨_, _, a_law_drawn, F_law_drawn⟩ := h_law_drawn
  obtain ⟨_, _, a_law_stand, F_law_stand⟩ := h_law_stand
  obtain ⟨_, _, a_greatest, F_greatest⟩ := h_greatest
  obtain ⟨_, _, a_smallest, F_smallest⟩ := h_smallest
  obtain ⟨_, _, a_gentlest_with, F_gentlest_with⟩ := h_gentlest_with
  obtain ⟨_, _, a_steepest_with, F_steepest_with⟩ := h_steepest_with
  obtain ⟨_, _, a_opposite, F_opposite⟩ := h_opposite
  obtain ⟨_, _, a_is_steeper, F_is_steeper⟩ := h_is_steeper
  obtain ⟨_, _, a_touched, F_touched⟩ := h_touched
  obtain ⟨_, _, a_Bend_init, i_Bend_init, F_Bend_init⟩ := h_Bend_init
  obtain ⟨_, _, a_Bend_line_of, i_Bend_line_of, F_Bend_line_of⟩ := h_Bend_line_of
  obtain ⟨_, _, a_Bend_ended_in_cap, i_Bend_ended_in_cap, F_Bend_ended_in_cap⟩ := h_Bend_ended_in_cap
  obtain ⟨_, _, a_Bend_ended_in_cup, i_Bend_ended_in_cup, F_Bend_ended_in_cup⟩ := h_Bend_ended_in_cup
  obtain ⟨_, _, a_Bend_take, i_Bend_take, F_Bend_take⟩ := h_Bend_take
  obtain ⟨_, _, a_Bend_lowest_room, i_Bend_lowest_room, F_Bend_lowest_room⟩ := h_Bend_lowest_room
  obtain ⟨_, _, a_Bend_highest_room, i_Bend_highest_room, F_Bend_highest_room⟩ := h_Bend_highest_room
  obtain ⟨_, _, a_Bend_room, i_Bend_room, F_Bend_room⟩ := h_Bend_room
  obtain ⟨_, _, a_Bend_line_now, i_Bend_line_now, F_Bend_line_now⟩ := h_Bend_line_now
  obtain ⟨_, _, a_law_sample, F_law_sample⟩ := h_law_sample
  obtain ⟨_, _, a_law_low, F_law_low⟩ := h_law_low
  obtain ⟨_, _, a_law_high, F_law_high⟩ := h_law_high
  obtain ⟨_, _, a_law_over, F_law_over⟩ := h_law_over
  obtain ⟨_, _, a_law_three, F_law_three⟩ := h_law_three
  obtain ⟨_, _, a_law_line, F_law_line⟩ := h_law_line
  obtain ⟨_, _, a_law_is_line, F_law_is_line⟩ := h_law_is_line
  obtain ⟨_, _, a_law_end, F_law_end⟩ := h_law_end
  obtain ⟨_, _, a_law_rooms, F_law_rooms⟩ := h_law_rooms
  obtain ⟨_, _, a_law_taken, F_law_taken⟩ := h_law_taken
  obtain ⟨_, _, a_law_step, F_law_step⟩ := h_law_step
  obtain ⟨_, _, a_law_now, F_law_now⟩ := h_law_now
  have C_HEAD : Cn mg "HEAD" 256 := ⟨_, PySem.W.mg_of X G g_HEAD⟩
  have K_Bend : Cl K mg "Bend" c_Bend ["bound", "twice", "below", "above", "gentlest", "steepest"] := ⟨⟨pg_Bend, hd_Bend, po_Bend, sa_Bend⟩, PySem.W.mg_of X G a_Bend, ⟨nf_Bend_bound, nf_Bend_twice, nf_Bend_below, nf_Bend_above, nf_Bend_gentlest, nf_Bend_steepest, trivial⟩⟩
  refine ⟨fd_law, fun s v => ?_, fun base _ _ => ?_⟩
  · obtain ⟨_, _, _, _, _, _, _, _, _, rfl, _, _⟩ := F_law.ex
    exact .of_eq rfl
  have D_law_cell := dnm l.prog w base X G a_law_cell F_law_cell (ok_law_cell F_law_cell T) (F_law_cell.binds2 fun _ _ _ _ _ _ _ _ => rfl)
  have D_law_mix := dnm l.prog w base X G a_law_mix F_law_mix (ok_law_mix F_law_mix ) (F_law_mix.binds2 fun _ _ _ _ _ _ _ _ => rfl)
  have D_law_row := dnm l.prog w base X G a_law_row F_law_row (ok_law_row F_law_row T D_law_cell D_law_mix) (F_law_row.binds3 fun _ _ _ _ _ _ _ _ _ => rfl)
  have D_law_ratio := dnm l.prog w base X G a_law_ratio F_law_ratio (ok_law_ratio F_law_ratio T) (F_law_ratio.binds2 fun _ _ _ _ _ _ _ _ => rfl)
  have D_law_is_ratio := dnm l.prog w base X G a_law_is_ratio F_law_is_ratio (ok_law_is_ratio F_law_is_ratio T D_law_ratio) (F_law_is_ratio.binds1 fun _ _ _ _ _ _ _ => rfl)
  have D_plain_divisor := dnm l.prog w base X G a_plain_divisor F_plain_divisor (ok_plain_divisor F_plain_divisor T) (F_plain_divisor.binds2 fun _ _ _ _ _ _ _ _ => rfl)
  have D_steps_of_heads := dnm l.prog w base X G a_steps_of_heads F_steps_of_heads (ok_steps_of_heads F_steps_of_heads C_HEAD) (F_steps_of_heads.binds2 fun _ _ _ _ _ _ _ _ => rfl)
  have D_divisor := dnm l.prog w base X G a_divisor F_divisor (ok_divisor F_divisor T C_HEAD D_plain_divisor D_steps_of_heads) (F_divisor.binds2 fun _ _ _ _ _ _ _ _ => rfl)
  have D_ratio := dnm l.prog w base X G a_ratio F_ratio (ok_ratio F_ratio T D_divisor) (F_ratio.binds2 fun _ _ _ _ _ _ _ _ => rfl)
  have D_reduced := dnm l.prog w base X G a_reduced F_reduced (ok_reduced F_reduced D_ratio) (F_reduced.binds1 fun _ _ _ _ _ _ _ => rfl)
  have D_loose_plus := dnm l.prog w base X G a_loose_plus F_loose_plus (ok_loose_plus F_loose_plus ) (F_loose_plus.binds2 fun _ _ _ _ _ _ _ _ => rfl)
  have D_loose_minus := dnm l.prog w base X G a_loose_minus F_loose_minus (ok_loose_minus F_loose_minus ) (F_loose_minus.binds2 fun _ _ _ _ _ _ _ _ => rfl)
  have D_loose_times := dnm l.prog w base X G a_loose_times F_loose_times (ok_loose_times F_loose_times ) (F_loose_times.binds2 fun _ _ _ _ _ _ _ _ => rfl)
  have D_plus := dnm l.prog w base X G a_plus F_plus (ok_plus F_plus D_loose_plus D_reduced) (F_plus.binds2 fun _ _ _ _ _ _ _ _ => rfl)
  have D_loose_slope := dnm l.prog w base X G a_loose_slope F_loose_slope (ok_loose_slope F_loose_slope D_loose_minus) (F_loose_slope.binds2 fun _ _ _ _ _ _ _ _ => rfl)
  have D_loose_along := dnm l.prog w base X G a_loose_along F_loose_along (ok_loose_along F_loose_along D_loose_plus D_loose_times) (F_loose_along.binds3 fun _ _ _ _ _ _ _ _ _ => rfl)
  have D_loose_height := dnm l.prog w base X G a_loose_height F_loose_height (ok_loose_height F_loose_height D_loose_plus D_loose_times) (F_loose_height.binds2 fun _ _ _ _ _ _ _ _ => rfl)
  have D_loose_off := dnm l.prog w base X G a_loose_off F_loose_off (ok_loose_off F_loose_off D_loose_minus D_loose_height) (F_loose_off.binds2 fun _ _ _ _ _ _ _ _ => rfl)
  have D_line_by := dnm l.prog w base X G a_line_by F_line_by (ok_line_by F_line_by D_loose_along D_reduced) (F_line_by.binds2 fun _ _ _ _ _ _ _ _ => rfl)
  have D_order := dnm l.prog w base X G a_order F_order (ok_order F_order ) (F_order.binds2 fun _ _ _ _ _ _ _ _ => rfl)
  have D_law_shaped := dnm l.prog w base X G a_law_shaped F_law_shaped (ok_law_shaped F_law_shaped T) (F_law_shaped.binds3 fun _ _ _ _ _ _ _ _ _ => rfl)
  have D_law_times := dnm l.prog w base X G a_law_times F_law_times (ok_law_times F_law_times ) (F_law_times.binds2 fun _ _ _ _ _ _ _ _ => rfl)
  have D_law_picked := dnm l.prog w base X G a_law_picked F_law_picked (ok_law_picked F_law_picked T) (F_law_picked.binds2 fun _ _ _ _ _ _ _ _ => rfl)
  have D_law_drawn := dnm l.prog w base X G a_law_drawn F_law_drawn (ok_law_drawn F_law_drawn T D_law_row D_law_shaped D_law_picked D_law_times) (F_law_drawn.binds4 fun _ _ _ _ _ _ _ _ _ _ => rfl)
  have D_law_stand := dnm l.prog w base X G a_law_stand F_law_stand (ok_law_stand F_law_stand ) (F_law_stand.binds3 fun _ _ _ _ _ _ _ _ _ => rfl)
  have D_greatest := dnm l.prog w base X G a_greatest F_greatest (ok_greatest F_greatest D_order) (F_greatest.binds1 fun _ _ _ _ _ _ _ => rfl)
  have D_smallest := dnm l.prog w base X G a_smallest F_smallest (ok_smallest F_smallest D_order) (F_smallest.binds1 fun _ _ _ _ _ _ _ => rfl)
  have D_loose_slopeQ := dnm l.prog w base X G a_loose_slope F_loose_slope (ok_loose_slopeQ F_loose_slope D_loose_minus) (F_loose_slope.binds2 fun _ _ _ _ _ _ _ _ => rfl)
  have D_gentlest_with := dnm l.prog w base X G a_gentlest_with F_gentlest_with (ok_gentlest_with F_gentlest_with T D_loose_minus D_loose_slopeQ D_greatest) (F_gentlest_with.binds4 fun _ _ _ _ _ _ _ _ _ _ => rfl)
  have D_steepest_with := dnm l.prog w base X G a_steepest_with F_steepest_with (ok_steepest_with F_steepest_with T D_loose_plus D_loose_slopeQ D_smallest) (F_steepest_with.binds4 fun _ _ _ _ _ _ _ _ _ _ => rfl)
  have D_opposite := dnm l.prog w base X G a_opposite F_opposite (ok_opposite F_opposite ) (F_opposite.binds1 fun _ _ _ _ _ _ _ => rfl)
  have D_is_steeper := dnm l.prog w base X G a_is_steeper F_is_steeper (ok_is_steeper F_is_steeper D_order) (F_is_steeper.binds2 fun _ _ _ _ _ _ _ _ => rfl)
  have D_touched := dnm l.prog w base X G a_touched F_touched (ok_touched F_touched D_order D_loose_off) (F_touched.binds3 fun _ _ _ _ _ _ _ _ _ => rfl)
  have D_Bend : Dk l.prog w K mg base 6 "Bend" c_Bend ["self", "bound"] (spBInit c_Bend) := ⟨_, _, ok_Bend_init F_Bend_init K_Bend D_plus, ⟨mk_Bend, a_Bend_init, i_Bend_init, kc_Bend⟩, (F_Bend_init.binds2 fun _ _ _ _ _ _ _ _ => rfl), K_Bend.at_⟩
  have D_Bend_line_of := dmm l.prog w base (mg := mg) a_Bend_line_of i_Bend_line_of F_Bend_line_of (ok_Bend_line_of F_Bend_line_of K_Bend D_reduced D_loose_along D_loose_minus D_greatest) (F_Bend_line_of.binds2 fun _ _ _ _ _ _ _ _ => rfl)
  have D_Bend_ended_in_cap := dmm l.prog w base (mg := mg) a_Bend_ended_in_cap i_Bend_ended_in_cap F_Bend_ended_in_cap (ok_Bend_ended_in_cap F_Bend_ended_in_cap K_Bend D_Bend_line_of D_touched D_opposite D_steepest_with) (F_Bend_ended_in_cap.binds2 fun _ _ _ _ _ _ _ _ => rfl)
  have D_Bend_ended_in_cup := dmm l.prog w base (mg := mg) a_Bend_ended_in_cup i_Bend_ended_in_cup F_Bend_ended_in_cup (ok_Bend_ended_in_cup F_Bend_ended_in_cup K_Bend D_Bend_line_of D_touched D_opposite D_gentlest_with) (F_Bend_ended_in_cup.binds2 fun _ _ _ _ _ _ _ _ => rfl)
  have D_Bend_take := dmm l.prog w base (mg := mg) a_Bend_take i_Bend_take F_Bend_take (ok_Bend_take F_Bend_take K_Bend D_gentlest_with D_steepest_with D_is_steeper D_Bend_ended_in_cap D_Bend_ended_in_cup) (F_Bend_take.binds2 fun _ _ _ _ _ _ _ _ => rfl)
  have D_Bend_lowest_room := dmm l.prog w base (mg := mg) a_Bend_lowest_room i_Bend_lowest_room F_Bend_lowest_room (ok_Bend_lowest_room F_Bend_lowest_room K_Bend D_reduced D_loose_along D_loose_minus D_greatest) (F_Bend_lowest_room.binds2 fun _ _ _ _ _ _ _ _ => rfl)
  have D_Bend_highest_room := dmm l.prog w base (mg := mg) a_Bend_highest_room i_Bend_highest_room F_Bend_highest_room (ok_Bend_highest_room F_Bend_highest_room K_Bend D_reduced D_loose_along D_loose_plus D_smallest) (F_Bend_highest_room.binds2 fun _ _ _ _ _ _ _ _ => rfl)
  have D_Bend_room := dmm l.prog w base (mg := mg) a_Bend_room i_Bend_room F_Bend_room (ok_Bend_room F_Bend_room K_Bend D_Bend_lowest_room D_Bend_highest_room) (F_Bend_room.binds2 fun _ _ _ _ _ _ _ _ => rfl)
  have D_Bend_line_now := dmm l.prog w base (mg := mg) a_Bend_line_now i_Bend_line_now F_Bend_line_now (ok_Bend_line_now F_Bend_line_now T K_Bend D_line_by D_Bend_line_of) (F_Bend_line_now.binds1 fun _ _ _ _ _ _ _ => rfl)
  have D_law_sample := dnm l.prog w base X G a_law_sample F_law_sample (ok_law_sample F_law_sample D_law_ratio) (F_law_sample.binds2 fun _ _ _ _ _ _ _ _ => rfl)
  have D_law_low := dnm l.prog w base X G a_law_low F_law_low (ok_law_low F_law_low T) (F_law_low.binds5 fun _ _ _ _ _ _ _ _ _ _ _ => rfl)
  have D_law_high := dnm l.prog w base X G a_law_high F_law_high (ok_law_high F_law_high T) (F_law_high.binds5 fun _ _ _ _ _ _ _ _ _ _ _ => rfl)
  have D_law_over := dnm l.prog w base X G a_law_over F_law_over (ok_law_over F_law_over ) (F_law_over.binds3 fun _ _ _ _ _ _ _ _ _ => rfl)
  have D_law_three := dnm l.prog w base X G a_law_three F_law_three (ok_law_three F_law_three T D_law_stand) (F_law_three.binds6 fun _ _ _ _ _ _ _ _ _ _ _ _ => rfl)
  have D_law_line := dnm l.prog w base X G a_law_line F_law_line (ok_law_line F_law_line D_law_ratio) (F_law_line.binds2 fun _ _ _ _ _ _ _ _ => rfl)
  have D_law_is_line := dnm l.prog w base X G a_law_is_line F_law_is_line (ok_law_is_line F_law_is_line T D_law_is_ratio) (F_law_is_line.binds2 fun _ _ _ _ _ _ _ _ => rfl)
  have D_law_end := dnm l.prog w base X G a_law_end F_law_end (ok_law_end F_law_end D_law_ratio) (F_law_end.binds4 fun _ _ _ _ _ _ _ _ _ _ => rfl)
  have D_law_rooms := dnm l.prog w base X G a_law_rooms F_law_rooms (ok_law_rooms F_law_rooms T K_Bend D_law_end D_Bend_room) (F_law_rooms.binds5 fun _ _ _ _ _ _ _ _ _ _ _ => rfl)
  have D_law_taken := dnm l.prog w base X G a_law_taken F_law_taken (ok_law_taken F_law_taken T K_Bend D_Bend_take D_law_sample D_law_over D_law_is_line D_law_line D_law_three) (F_law_taken.binds7 fun _ _ _ _ _ _ _ _ _ _ _ _ _ => rfl)
  have D_law_step := dnm l.prog w base X G a_law_step F_law_step (ok_law_step F_law_step T D_law_low D_law_high D_law_rooms D_law_taken) (F_law_step.binds7 fun _ _ _ _ _ _ _ _ _ _ _ _ _ => rfl)
  have D_law_now := dnm l.prog w base X G a_law_now F_law_now (ok_law_now F_law_now T K_Bend D_law_low D_law_high D_law_is_line D_Bend_line_now D_law_line) (F_law_now.binds6 fun _ _ _ _ _ _ _ _ _ _ _ _ => rfl)
  have D_law := dnm l.prog w base X G a_law F_law (ok_law F_law T K_Bend D_law_drawn D_law_row D_law_times D_law_ratio D_Bend D_law_step D_law_now) (F_law.binds1 fun _ _ _ _ _ _ _ => rfl)
  exact ok_law F_law T K_Bend D_law_drawn D_law_row D_law_times D_law_ratio D_Bend D_law_step D_law_now
theorem walk {l : PySem.W.OpenLaw} {q : Program} {loose : List Str} {XP : (Str → Option Value) → Heap → Prop} {YP : World → Heap → Prop} {d : DefRec} {K : Params → PySem.W.Frag} (hn : l.most = some 63) (hdf : d.params.defaults = [])
    (hY : ∀ (w : World) (h : Heap), YP w h → (K w.params).In h)
    (F : ∀ (w : World) (mg : Str → Option Value) (fa : Addr) (h : Heap), (K w.params).In h → h.Ns mainGlobals mg → mg d.name = some (.ref fa) →
      ∃ fd : FuncData, (∀ (s : Shared) (u : Value), BindsTo s fd ⟨[u], []⟩ [("_law_script", u)]) ∧ ∀ base : Heap, (K w.params).In base → base.Ns mainGlobals mg → FnOk l.prog w (K w.params) mg base CX0 11 fa fd ["_law_script"] (spLaw (K w.params))) :
    PySem.W.WalkO q loose XP YP l.row.toRowW d [] (fun f vs => PySem.call f vs) :=
  L2.walk_of (n := 63) (k := 11) (x := "_law_script") (CX := fun _ => CX0) (sp := fun w => spLaw (K w.params)) hn (by decide) hdf ⟨rfl, by decide, by decide⟩ hY F (fun _ _ a ns hl _ hS => ⟨a, ns, rfl, hS, hl, fun _ => rfl⟩) fun _ _ _ _ _ z => z
end Lw
open PySem PySem.W PyProof.Rows
set_option maxRecDepth 100000 in
set_option maxHeartbeats 0 in
theorem PySem.Challenge.cw_lath_k42_links_holds : PySem.Challenge.rw_lath_k42_links.Holds := by
  w_on; o_law; k_head; (case hw => w_witness2)
  k_fill
  refine Lw.walk (l := PySem.Challenge.rw_lath_k42_links) rfl rfl (fun w h Y => PySem.W.kIn_of Y) ?F
  case F =>
    intro w mg fa h KX G hmg
    refine' Lw.all_mk KX G hmg ?a0 ?a1 ?a2 ?a3 ?a4 ?a5 ?a6 ?a7 ?a8 ?a9 ?a10 ?a11 ?a12 ?a13 ?a14 ?a15 ?a16 ?a17 ?a18 ?a19 ?a20 ?a21 ?a22 ?a23 ?a24 ?a25 ?a26 ?a27 ?a28 ?a29 ?a30 ?a31 ?a32 ?a33 ?a34 ?a35 ?a36 ?a37 ?a38 ?a39 ?a40 ?a41 ?a42 ?a43 ?a44 ?a45 ?a46 ?a47 ?a48 ?a49 ?a50 ?a51 ?a52 ?a53 ?a54 ?a55 ?a56 ?a57 ?a58 ?a59 ?a60 ?a61 ?a62 ?a63 ?a64 ?a65 ?a66 ?a67 ?a68 ?a69 ?a70 ?a71 ?a72 ?a73 ?a74 ?a75 ?a76 ?a77 ?a78 ?a79 ?a80 ?a81 ?a82 ?a83 ?a84 ?a85
    (case a0 => walk_at "fz"); (case a1 => walk_at "fz"); (case a2 => walk_at "fz"); (case a3 => walk_at "fz"); (case a4 => walk_at "fz"); (case a5 => walk_at "fz"); (case a6 => walk_at "fz"); (case a7 => walk_at "fz"); (case a8 => walk_at "fz"); (case a9 => walk_at "fz"); (case a10 => walk_at "fz"); (case a11 => walk_at "fz"); (case a12 => walk_at "fz"); (case a13 => walk_at "fz"); (case a14 => walk_at "fz"); (case a15 => walk_at "fz"); (case a16 => walk_at "fz"); (case a17 => walk_at "fz"); (case a18 => walk_at "fz"); (case a19 => walk_at "fz"); (case a20 => walk_at "fz"); (case a21 => walk_at "fz"); (case a22 => walk_at "fz"); (case a23 => walk_at "fz"); (case a24 => walk_at "fz"); (case a25 => walk_at "fz"); (case a26 => walk_at "fz"); (case a27 => walk_at "fz"); (case a28 => walk_at "fz"); (case a29 => walk_at "fz"); (case a30 => walk_at "fz"); (case a31 => walk_at "fz"); (case a32 => walk_at "fz"); (case a33 => walk_at "fz"); (case a34 => walk_at "fz"); (case a35 => walk_at "fz"); (case a36 => walk_at "fz"); (case a37 => walk_at "fz"); (case a38 => walk_at "fz"); (case a39 => walk_at "fz"); (case a40 => walk_at "fz"); (case a41 => walk_at "fz"); (case a42 => walk_at "fz"); (case a43 => walk_at "fz"); (case a44 => walk_at "fz"); (case a45 => walk_at "fz"); (case a46 => walk_at "fz"); (case a47 => walk_at "fz"); (case a48 => walk_at "fz"); (case a49 => walk_at "fz"); (case a50 => walk_at "fz"); (case a51 => walk_at "fz"); (case a52 => walk_at "fz"); (case a53 => walk_at "fz"); (case a54 => walk_at "fz"); (case a55 => walk_at "fz"); (case a56 => walk_at "fz"); (case a57 => walk_at "fz"); (case a58 => walk_at "fz"); (case a59 => walk_at "fz"); (case a60 => walk_at "fz"); (case a61 => walk_at "fz"); (case a62 => walk_at "fz"); (case a63 => walk_at "fz"); (case a64 => walk_at "fz"); (case a65 => walk_at "fz"); (case a66 => walk_at "fz"); (case a67 => walk_at "fz"); (case a68 => walk_at "fz"); (case a69 => walk_at "fz"); (case a70 => walk_at "fz"); (case a71 => walk_at "fz"); (case a72 => walk_at "fz"); (case a73 => walk_at "fz"); (case a74 => walk_at "fz"); (case a75 => walk_at "fz"); (case a76 => walk_at "fz"); (case a77 => walk_at "fz"); (case a78 => walk_at "fz"); (case a79 => walk_at "fz"); (case a80 => walk_at "fz"); (case a81 => walk_at "fz"); (case a82 => walk_at "fz"); (case a83 => walk_at "fz"); (case a84 => walk_at "fz"); (case a85 => walk_at "fz")

