import PyProof.Rows.All
import Wide.All
import OpenK.AllK
import Wide.FinOn
import Lean
import PyProof.EqAt
import PyProof.EqKinds
import PyProof.TupleCall
import PySem.Challenge.RW_lath_k63_no_tellings
set_option Elab.async false
set_option linter.all false
set_option maxRecDepth 100000
theorem au0_ (h:1=1:=by rfl):1=1:=h
theorem au1_ (h:1=1:=by decide):1=1:=h
theorem au2_ (h:1=1:=by intro _;rfl):1=1:=h
theorem au3_ (h:1=1:=by with_unfolding_all rfl):1=1:=h

namespace PySem.W.Fast
def tw5561024176598354762 := ()
def tw13385388619168035166 := ()
def tw17162388145507173408 := ()
def tw18340695604553621600 := ()
def tw11509252674728098912 := ()
def tw11570504605005778048 := ()
def tw3855294987773611200 := ()
def tw1221216143769267424 := ()
def tw10127167073272815968 := ()
def tw621747867786750528 := ()
def tw10717905256488438400 := ()
def tw9222721287613695776 := ()
def tw10260623138757899072 := ()
def tw12671793011984606144 := ()
def tw10409940125639691329 := ()
def tw11906739176536672545 := ()
def tw13830715567594811777 := ()
def tw9329680951344381377 := ()
def tw8509402692607181281 := ()
def tw12047341310004550209 := ()
def tw17976690739775878721 := ()
def tw4996724901988820801 := ()
def tw13778448142563432289 := ()
def tw5650718541534873473 := ()
def tw5289375914731785089 := ()
def tw11682337074150341890 := ()
def tw12015141684382685602 := ()
def tw13817444616442428898 := ()
def tw9804608811830185442 := ()
def tw1721081228061808162 := ()
def tw7389664356706940674 := ()
def tw2964782136927003490 := ()
def tw17423653450771478402 := ()
def tw16948783895397358979 := ()
def tw8669720392044700035 := ()
def tw1430915368332679587 := ()
def tw15267886100991022563 := ()
def tw6310294492935572003 := ()
def tw6918621038684106403 := ()
def tw6453127674109123267 := ()
def tw10084148143644594915 := ()
def tw14467330720837762819 := ()
def tw10313288482090759939 := ()
def tw3953203499982722883 := ()
def tw2582607306806907940 := ()
def tw7837932468199280772 := ()
def tw589046818921362692 := ()
def tw3838428130504253796 := ()
def tw10528842508787350948 := ()
def tw6093002009854173636 := ()
def tw5180980628359883588 := ()
def tw15201309634611782532 := ()
def tw10653598828757557156 := ()
def tw9275933620986818468 := ()
def tw377722824670646405 := ()
def tw7930167960786228421 := ()
def tw5514563258068857061 := ()
def tw10366438043752218149 := ()
def tw15529203242159474405 := ()
def tw14964101396989098885 := ()
def tw3452564474269810726 := ()
def tw12254919503822901286 := ()
def tw2943043843684689990 := ()
def tw9546786056508373126 := ()
def tw1134796855062040742 := ()
def tw4222616294760471942 := ()
def tw3729245642992357798 := ()
def tw9729290423189524134 := ()
def tw16880624923730022086 := ()
def tw1720893571422532422 := ()
def tw12783065049665275750 := ()
def tw2650686714607434694 := ()
def tw1121602894746049543 := ()
def tw469761233989373031 := ()
def tw909535719377645735 := ()
def tw8632439012453801223 := ()
def tw10114791881088522567 := ()
def tw8110884599809251687 := ()
def tw18062640370077738407 := ()
def tw8999031982905451079 := ()
def tw4268432299462497895 := ()
def tw10534614056714189511 := ()
def tw12735072930562862887 := ()
def tw17195559823589654343 := ()
def tw1332241728567307560 := ()
def tw12339000849049441608 := ()
def tw9547432783720847816 := ()
def tw4453877393149283880 := ()
def tw13665219033147673224 := ()
def tw9301056047929727656 := ()
def tw5691561962918711144 := ()
def tw10564382104088659017 := ()
def tw18158574226331970761 := ()
def tw15944757982724140649 := ()
def tw4616688652013551497 := ()
def tw3612144697012116457 := ()
def tw14868019099999956170 := ()
def tw11197141090432363818 := ()
def tw16735089667469293866 := ()
def tw15158512608343566634 := ()
def tw2105819682355705226 := ()
def tw13769610116526332330 := ()
def tw2525488446883846602 := ()
def tw18182525836619559658 := ()
def tw8382808028813277930 := ()
def tw2919811644398873450 := ()
def tw8439967093197495178 := ()
def tw16442285390508851082 := ()
def tw2200912968997375914 := ()
def tw13225916477200406442 := ()
def tw14400535217078979498 := ()
def tw11516500567332665290 := ()
def tw16944438499659042027 := ()
def tw13285142963056215275 := ()
def tw5050015461056881931 := ()
def tw12318357057706505739 := ()
def tw4899889314833433227 := ()
def tw13783771679636806443 := ()
def tw9491558873435471691 := ()
def tw13595005605968272363 := ()
def tw2588916024650644588 := ()
def tw9824372568147716236 := ()
def tw6711768447784734892 := ()
def tw11477576026530363628 := ()
def tw2282361056625781036 := ()
def tw12138765873534199084 := ()
def tw15477940658867599820 := ()
def tw9375937872880311820 := ()
def tw11039745374590793292 := ()
def tw11650107262621756012 := ()
def tw15374902406966243020 := ()
def tw12738953594179026636 := ()
def tw17932479330601801452 := ()
def tw2808150604726350572 := ()
def tw13234896042405131116 := ()
def tw6225921987222832044 := ()
def tw3658347358528544781 := ()
def tw10846157927234159661 := ()
def tw8293140933816117325 := ()
def tw57618131109496109 := ()
def tw5901914368641258989 := ()
def tw4695180487112737293 := ()
def tw17885400868178482861 := ()
def tw4516946647079875726 := ()
def tw17368454223657343246 := ()
def tw438039650561119534 := ()
def tw14260161796083500398 := ()
def tw5517997166556179918 := ()
def tw14342600918721334894 := ()
def tw644739710708356910 := ()
def tw9660650355166354222 := ()
def tw3982757151563576206 := ()
def tw1864775442905714638 := ()
def tw4132805383488733327 := ()
def tw10454802602716936431 := ()
def tw6229438876152356143 := ()
def tw14350643436173265231 := ()
def tw240500222930732431 := ()
def tw3213600890740414031 := ()
def tw9228597199083449967 := ()
def tw14968302458290093807 := ()
def tw18152687042477506319 := ()
def tw13109733881056576335 := ()
def tw7607940287938844527 := ()
def tw7373971858615384015 := ()
def tw15044974037132906576 := ()
def tw14485294462783359120 := ()
def tw11652313027684817104 := ()
def tw2702695559424471280 := ()
def tw10405233354995387664 := ()
def tw8110072032444717328 := ()
def tw11878253811470880080 := ()
def tw15434671699747565936 := ()
def tw18202348533516683664 := ()
def tw1152621789389117936 := ()
def tw9964902046433557008 := ()
def tw3518724357845997072 := ()
def tw14392012702568408656 := ()
def tw18112455855462622928 := ()
def tw12268652264103849744 := ()
def tw15766651742590720848 := ()
def tw8670495344199555984 := ()
def tw1035393342132366288 := ()
def tw1130833740705380625 := ()
def tw12185931325536702897 := ()
def tw1755580456753109681 := ()
def tw7361451705884039857 := ()
def tw5816423787946937105 := ()
def tw7748932966385463057 := ()
def tw3877369810427230001 := ()
def tw775089797493943089 := ()
def tw10960367555826604913 := ()
def tw3652680853479325778 := ()
def tw5375482876139687314 := ()
def tw15483313510505884178 := ()
def tw3812096528263556818 := ()
def tw7204964746952306418 := ()
def tw12466334270403511186 := ()
def tw14701319880316891219 := ()
def tw16566148665710217363 := ()
def tw14571635843402333491 := ()
def tw822689839828875571 := ()
def tw9584936336954537299 := ()
def tw11783916296472240595 := ()
def tw6260283879285091923 := ()
def tw18100282305208208051 := ()
def tw3536810692384680723 := ()
def tw7195852024106066771 := ()
def tw6537428669565547379 := ()
def tw13775512103014030227 := ()
def tw10535231607179645907 := ()
def tw1645303160989823987 := ()
def tw9368020206336882740 := ()
def tw13980405567183599060 := ()
def tw1055363196076199668 := ()
def tw9088420023322699604 := ()
def tw14956552844593529716 := ()
def tw13117776064183005044 := ()
def tw8526045595827249044 := ()
def tw3669775837175695316 := ()
def tw12774502584859194389 := ()
def tw12910166011362459701 := ()
def tw16940888679496170581 := ()
def tw13678061192105727093 := ()
def tw12166186008943986837 := ()
def tw5742443155000496277 := ()
def tw13864692427924519093 := ()
def tw5580995370247719189 := ()
def tw14238380213392059765 := ()
def tw4779304742530970101 := ()
def tw6665533813542736437 := ()
def tw17527249233539925589 := ()
def tw7372407751417377429 := ()
def tw17887949648924258997 := ()
def tw5134917802585072341 := ()
def tw12957757974998408917 := ()
def tw6210446177059925781 := ()
def tw5471387913097688021 := ()
def tw2400775222830652438 := ()
def tw12862306137530254390 := ()
def tw14276846263217137782 := ()
def tw4552686478779711638 := ()
def tw15834158432794413270 := ()
def tw17852628320905471222 := ()
def tw16370451405902970102 := ()
def tw4281202164848386358 := ()
def tw5150614362811880886 := ()
def tw16009131109539189270 := ()
def tw7971765467165340214 := ()
def tw17139915481702654646 := ()
def tw15788800283479718614 := ()
def tw18389827657125905559 := ()
def tw5827613246670529815 := ()
def tw14645521039899532663 := ()
def tw9698007460984935831 := ()
def tw1077681216366726551 := ()
def tw15439656237483167415 := ()
def tw6328165919919873783 := ()
def tw16296329642705684247 := ()
def tw5241090925312311095 := ()
def tw5878855859018320695 := ()
def tw2150644200529982359 := ()
def tw1942716392042852247 := ()
def tw4734237997139399671 := ()
def tw13205612086993935416 := ()
def tw17184049965869118552 := ()
def tw1134749217086353592 := ()
def tw10492202401682282872 := ()
def tw7971338142066007416 := ()
def tw17821136170880715224 := ()
def tw7446822368481034776 := ()
def tw8367222238009060920 := ()
def tw3681589276030610104 := ()
def tw11323636390937832152 := ()
def tw8452920341484637048 := ()
def tw16148771205045874745 := ()
def tw17915836524240250073 := ()
def tw4068268660410431865 := ()
def tw8229611856402517497 := ()
def tw7794697280280120953 := ()
def tw8073296433316637337 := ()
def tw4445370043131898553 := ()
def tw10748054989880132377 := ()
def tw1536468486055331769 := ()
def tw5819390151201584089 := ()
def tw12542528768311966746 := ()
def tw6974546947322135802 := ()
def tw870641110157741370 := ()
def tw12800858471313448410 := ()
def tw15375724211422424634 := ()
def tw9166083691037304506 := ()
def tw8947145619854936890 := ()
def tw16913251261121790778 := ()
def tw1587763778298552379 := ()
def tw13364635173232930075 := ()
def tw13320503136308956443 := ()
def tw556020946240140667 := ()
def tw9590024249224626587 := ()
def tw12701014256106350075 := ()
def tw7613736799546314395 := ()
def tw12128084553831020315 := ()
def tw13441351367787549627 := ()
def tw17194485332410886075 := ()
def tw3281872523603003420 := ()
def tw8726898292847191100 := ()
def tw12667525244287099004 := ()
def tw7024826153891138716 := ()
def tw12887014527093536220 := ()
def tw15461211052603287228 := ()
def tw11832174871293801148 := ()
def tw1551595763048128348 := ()
def tw11764164150836677564 := ()
def tw10652963883473031293 := ()
def tw14869655361660417213 := ()
def tw1744853300489602237 := ()
def tw3379903341535974749 := ()
def tw5611482892186646013 := ()
def tw13032967545025351325 := ()
def tw7381320665170113309 := ()
def tw10438774279741177629 := ()
def tw845454440964583421 := ()
def tw936766834588937278 := ()
def tw2140643358459654238 := ()
def tw18416499515269354654 := ()
def tw3268905496047276318 := ()
def tw17736077175377537342 := ()
def tw5820635909863740798 := ()
def tw5071212021733089662 := ()
def tw12061915454401076638 := ()
def tw16288711301991785886 := ()
def tw8151740536265603486 := ()
def tw15911528289721553342 := ()
def tw8950630781481208318 := ()
def tw18304540551325157982 := ()
def tw15132155363495593694 := ()
def tw7082898848779200222 := ()
def tw9868133713174080318 := ()
def tw11105272789618106270 := ()
def tw609059105804874686 := ()
def tw18403552129959987134 := ()
def tw17570798352435349438 := ()
def tw13629698791180251231 := ()
def tw423909491633126623 := ()
def tw13368012022737121631 := ()
def tw824610166256699775 := ()
def tw4878066952797588895 := ()
def tw14646593710286758495 := ()
def tw630176421125879455 := ()
def tw15429218418546548479 := ()
def tw8089532947307719423 := ()
def tw16394480363271170911 := ()
def tw8546740303345474399 := ()
def tw7247946826364263295 := ()
def tw9544829830763785151 := ()
def tw14743158091524139999 := ()
def tw3701934720143461375 := ()
end PySem.W.Fast

namespace L2
open PySem PySem.Spec PyProof.Rows

noncomputable abbrev Key:=Sum Int Str
noncomputable def keyIs:Key→Value→Bool
  | .inl k,v=>Value.isInt k v
  | .inr x,v=>Value.isStrOf x v
noncomputable def keyH (w:World):Key→Int
  | .inl k=>hashInt k
  | .inr x=>hashStr w x
theorem keyIs_shape:∀{k:Key} {v:Value},keyIs k v=true→(∃i t,k=Sum.inl i∧v=Value.int i t)∨(∃x t,k=Sum.inr x∧v=Value.str x t)
  | .inl i,v,h=>by
    obtain ⟨t,e⟩:=Value.isInt_shape (k:=i) (v:=v) h
    exact .inl ⟨i,t,rfl,e⟩
  | .inr x,v,h=>by
    obtain ⟨t,e⟩:=Value.isStrOf_shape (x:=x) (v:=v) h
    exact .inr ⟨x,t,rfl,e⟩
theorem key_ll (a b:Int):decide ((Sum.inl a:Key)=Sum.inl b)=(a==b):=by
  by_cases e:a=b
  · subst e;simp
  · have h:¬(Sum.inl a:Key)=Sum.inl b:=fun q=>e (Sum.inl.inj q)
    rw [decide_eq_false h]
    exact (beq_eq_false_iff_ne.mpr e).symm
theorem key_rr (a b:Str):decide ((Sum.inr a:Key)=Sum.inr b)=decide (a=b):=by
  by_cases e:a=b
  · subst e;simp
  · have h:¬(Sum.inr a:Key)=Sum.inr b:=fun q=>e (Sum.inr.inj q)
    rw [decide_eq_false h,decide_eq_false e]
theorem key_lr (a:Int) (b:Str):decide ((Sum.inl a:Key)=Sum.inr b)=false:=decide_eq_false (fun q=>nomatch q)
theorem key_rl (a:Str) (b:Int):decide ((Sum.inr a:Key)=Sum.inl b)=false:=decide_eq_false (fun q=>nomatch q)

noncomputable def mixKind (prog:Program) (w:World):PySem.KeyKind prog w Key where
  is:=keyIs
  hash:=keyH w
  inj:=fun v a b ha hb=>by
    rcases keyIs_shape ha with ⟨i,t,rfl,rfl⟩ | ⟨x,t,rfl,rfl⟩
    · rcases keyIs_shape hb with ⟨j,u,rfl,e⟩ | ⟨y,u,rfl,e⟩
      · injection e with e1 _;rw [e1]
      · exact nomatch e
    · rcases keyIs_shape hb with ⟨j,u,rfl,e⟩ | ⟨y,u,rfl,e⟩
      · exact nomatch e
      · injection e with e1 _;rw [e1]
  byValue:=fun k v h=>by
    rcases keyIs_shape h with ⟨i,t,rfl,rfl⟩ | ⟨x,t,rfl,rfl⟩ <;> rfl
  pyHash:=fun hv h=>by
    rcases keyIs_shape hv with ⟨i,t,rfl,rfl⟩ | ⟨x,t,rfl,rfl⟩
    · exact wpAny_pyHash_int h
    · exact wpAny_pyHash_str h
  eqBool:=fun hu hv h=>by
    rcases keyIs_shape hu with ⟨i,t,rfl,rfl⟩ | ⟨x,t,rfl,rfl⟩
    · rcases keyIs_shape hv with ⟨j,u,rfl,rfl⟩ | ⟨y,u,rfl,rfl⟩
      · rw [key_ll] at h;exact wpAny_eqBool_int h
      · rw [key_lr] at h;exact SeqAt.EqAt.int_str i t y u _ _ _ _ h
    · rcases keyIs_shape hv with ⟨j,u,rfl,rfl⟩ | ⟨y,u,rfl,rfl⟩
      · rw [key_rl] at h;exact SeqAt.EqAt.str_int x t j u _ _ _ _ h
      · rw [key_rr] at h;exact wpAny_eqBool_str h
  «strs»:=fun k x t v h=>by
    rcases keyIs_shape h with ⟨i,u,rfl,e⟩ | ⟨y,u,rfl,e⟩
    · exact nomatch e
    · injection e with e1 _
      subst e1
      cases v <;> rfl

end L2

namespace L2
open PySem PySem.Spec PyProof.Rows

inductive V where
  | non | bl (b:Bool) | int (i:Int) | str (x:Str) | byt (b:Array UInt8) | flt (b:UInt64) | ref (a:Addr) | ty (n:String)
  deriving DecidableEq

noncomputable def RelV:V→Value→Prop
  | .non,u=>u=Value.none
  | .bl b,u=>u=Value.bool b
  | .int i,u=>∃t,u=Value.int i t
  | .str x,u=>∃t,u=Value.str x t
  | .byt b,u=>∃t,u=Value.bytes b t
  | .flt b,u=>∃t,u=Value.float b t
  | .ref a,u=>u=Value.ref a
  | .ty n,u=>u=Value.type n

noncomputable abbrev Vals:List V→List Value→Prop:=Paired RelV
theorem Vals.length {xs:List V} {us:List Value} (r:Vals xs us):xs.length=us.length:=Paired.length r
theorem Vals.get:∀{xs:List V} {us:List Value} {i:Nat} {x:V},Vals xs us→xs[i]?=some x→∃u,us[i]?=some u∧RelV x u
  | _,_,_,_,.nil,e=>by simp at e
  | _,_,0,_,.cons r _,e=>by simp at e;subst e;exact ⟨_,rfl,r⟩
  | _,_,i+1,x,.cons _ t,e=>by
    obtain ⟨u,h1,h2⟩:=Vals.get (i:=i) (x:=x) t (by simpa using e)
    exact ⟨u,by simpa using h1,h2⟩
theorem Vals.set {x:V} {u:Value} (r:RelV x u):∀{xs:List V} {us:List Value} (i:Nat),Vals xs us→Vals (xs.set i x) (us.set i u)
  | _,_,_,.nil=>.nil
  | _,_,0,.cons _ t=>.cons r t
  | _,_,i+1,.cons q t=>.cons q (Vals.set r i t)
theorem Vals.append:∀{xs ys:List V} {us ws:List Value},Vals xs us→Vals ys ws→Vals (xs++ys) (us++ws)
  | _,_,_,_,.nil,s=>s
  | _,_,_,_,.cons r t,s=>.cons r (Vals.append t s)
theorem Vals.take:∀{xs:List V} {us:List Value} (n:Nat),Vals xs us→Vals (xs.take n) (us.take n)
  | _,_,0,_=>.nil
  | _,_,_+1,.nil=>.nil
  | _,_,n+1,.cons r t=>.cons r (Vals.take n t)
theorem Vals.drop:∀{xs:List V} {us:List Value} (n:Nat),Vals xs us→Vals (xs.drop n) (us.drop n)
  | _,_,0,r=>r
  | _,_,_+1,.nil=>.nil
  | _,_,n+1,.cons _ t=>Vals.drop n t
noncomputable def RelO:Option V→Option Value→Prop
  | some v,some u=>RelV v u
  | none,none=>True
  | _,_=>False
noncomputable def KV {κ:Type}:List (κ×V)→List (κ×Value)→Prop:=Paired fun (p:κ×V) (q:κ×Value)=>p.1=q.1∧RelV p.2 q.2

noncomputable def kV:Key→V
  | .inl i=>.int i
  | .inr x=>.str x

inductive HO where
  /-- a list -/
  | lst (xs:List V)
  /-- a tuple (never changes) -/
  | tup (xs:List V)
  /-- a dict whose keys are ints and texts;one whose keys are tuples of ints and texts (the empty one is both) -/
  | dK (kvs:List (Key×V)) | dT (kvs:List (List Key×V))
  /-- a set of ints: its members,its size -/
  | set (S:Int→Bool) (n:Nat)
  /-- an instance of the class at C,its dict at dx,its attributes -/
  | ins (C dx:Addr) (fs:List (Str×V))
  /-- the dict of the instance at x -/
  | own (x:Addr)
  /-- the dict of an exception -/
  | xd (fs:List (Str×V))
  /-- a bound method,f of x -/
  | met (f x:Addr)
  /-- a range object lo,lo+1,.. below hi -/
  | rng (lo hi:Int)
  /-- a thing that is known to the object (the script;a dict while a loop walks it): read,never written while it is so -/
  | frz (o:Obj) (u:HO)
  /-- a code object's table -/
  | tbl (ps:Array Value)
  /-- any other thing,by what is true of its one object (a def of one's own: SetO a S n:=HO.ext fun h=>..) -/
  | ext (φ:Heap→Prop)

noncomputable abbrev Hp:=Addr→Option HO
noncomputable def upd (H:Hp) (a:Addr) (o:HO):Hp:=fun b=>if b=a then some o else H b
theorem upd_same {H:Hp} {a:Addr} {o:HO}:upd H a o a=some o:=by unfold upd;rw [if_pos rfl]
theorem upd_ne {H:Hp} {a b:Addr} {o:HO} (h:b≠a):upd H a o b=H b:=by unfold upd;rw [if_neg h]
theorem ne_of_none {H:Hp} {a b:Addr} {o:HO} (h:H a=some o) (h':H b=none):a≠b:=by
  intro e;subst e;rw [h] at h';cases h'

section
variable (P:Program) (w:World)
noncomputable def ObjOk (H:Hp) (h:Heap) (a:Addr):HO→Prop
  | .lst xs=>xs.length≤sizeLine∧∃(its:List Value) (n:Nat),Vals xs its∧h.get? a=some { cls:=.type "list",data:=.seq its.toArray n }
  | .tup xs=>xs.length≤sizeLine∧∃its:List Value,Vals xs its∧IsTup h a its.toArray
  | .dK kvs=>kvs.length≤sizeLine∧(a==sysModules)=false∧∃vs,KV kvs vs∧h.DictOf (mixKind P w) a vs
  | .dT kvs=>kvs.length≤sizeLine∧(a==sysModules)=false∧∃xs:List (List Key×Addr×Value),
      Paired (fun (p:List Key×V) (q:List Key×Addr×Value)=>p.1=q.1∧H q.2.1=some (.tup (p.1.map kV))∧RelV p.2 q.2.2) kvs xs ∧
      ∃o es ep,h.get? a=some o∧o.ExactDict∧o.data=.dict es ep∧es.toList=xs.map (entryOfKey (tupleKind (mixKind P w)))∧(xs.map (·.1)).Nodup
  | .set S n=>h.SetOf (intKind P w) a S n
  | .ins C dx fs=>H dx=some (.own a)∧fs.length≤1000∧dx≠a∧h.get? a=some (PySem.W.instObj C dx) ∧
      ∃mA,h.Ns1 dx mA∧(∀f,RelO (fs.lookup f) (mA f))∧PySem.Within mA (fs.map (·.1))
  | .own _=>∃o,h.get? a=some o
  | .xd fs=>∃mA,h.Ns1 a mA∧∀f,RelO (fs.lookup f) (mA f)
  | .rng lo hi=>∃t u v,h.get? a=some { cls:=.type "range",data:=.fields #[.int lo t,.int hi u,.int 1 v] }
  | .frz o u=>h.get? a=some o∧ObjOk H h a u
  | .tbl ps=>h.get? a=some { cls:=.none,data:=.fields ps }
  | .met f x=>h.get? a=some (PySem.W.methodObj (.ref f) (.ref x))
  | .ext φ=>φ h∧(∃o,h.get? a=some o)∧∀h1 h2:Heap,φ h1→(∀o,h1.get? a=some o→h2.get? a=some o)→φ h2
noncomputable def HOk (H:Hp) (h:Heap):Prop:=∀a o,H a=some o→ObjOk P w H h a o
end

section
variable {P:Program} {w:World} {H H':Hp} {h h':Heap} {a:Addr} {o:HO}
theorem ObjOk.lt (x:ObjOk P w H h a o):a<h.objs.size:=by
  cases o with
  | lst xs=>obtain ⟨_,_,_,_,e⟩:=x;exact Heap.lt_size e
  | tup xs=>obtain ⟨_,_,_,p⟩:=x;exact p.lt
  | dK kvs=>obtain ⟨_,_,_,_,o,_,_,e,_⟩:=x;exact Heap.lt_size e
  | dT kvs=>obtain ⟨_,_,_,_,o,_,_,e,_⟩:=x;exact Heap.lt_size e
  | set S n=>obtain ⟨o,_,_,_,e,_⟩:=x;exact Heap.lt_size e
  | ins C dx fs=>obtain ⟨_,_,_,e,_⟩:=x;exact Heap.lt_size e
  | own y=>obtain ⟨_,e⟩:=x;exact Heap.lt_size e
  | xd fs=>obtain ⟨_,⟨_,_,_,e,_⟩,_⟩:=x;exact Heap.lt_size e
  | rng lo hi=>obtain ⟨_,_,_,e⟩:=x;exact Heap.lt_size e
  | frz ob u=>obtain ⟨e,_⟩:=x;exact Heap.lt_size e
  | tbl ps=>exact Heap.lt_size (show h.get? a=some _ from x)
  | met f y=>exact Heap.lt_size (show h.get? a=some _ from x)
  | ext φ=>obtain ⟨_,⟨_,e⟩,_⟩:=x;exact Heap.lt_size e
theorem Paired.mapP {α β:Type} {F G:α→β→Prop}:∀{l₁:List α} {l₂:List β},Paired F l₁ l₂→(∀a b,F a b→G a b)→Paired G l₁ l₂
  | _,_,.nil,_=>.nil
  | _,_,.cons r t,f=>.cons (f _ _ r) (Paired.mapP t f)
theorem ObjOk.stay (x:ObjOk P w H h a o) (k:∀b u,(b=a∨H b=some (.own a))→h.get? b=some u→h'.get? b=some u)
    (ho:∀b,H b=some (.own a)→H' b=some (.own a)) (ht:∀b xs,H b=some (.tup xs)→H' b=some (.tup xs)):ObjOk P w H' h' a o:=by
  induction o with
  | lst xs=>obtain ⟨z,its,n,r,e⟩:=x;exact ⟨z,its,n,r,k _ _ (.inl rfl) e⟩
  | tup xs=>obtain ⟨z,its,r,ob,e,c⟩:=x;exact ⟨z,its,r,ob,k _ _ (.inl rfl) e,c⟩
  | dK kvs=>obtain ⟨z,y,vs,r,ob,es,ep,e,c⟩:=x;exact ⟨z,y,vs,r,ob,es,ep,k _ _ (.inl rfl) e,c⟩
  | dT kvs=>
    obtain ⟨z,y,xs,r,ob,es,ep,e,c⟩:=x
    exact ⟨z,y,xs,Paired.mapP r fun p q z=>⟨z.1,ht _ _ z.2.1,z.2.2⟩,ob,es,ep,k _ _ (.inl rfl) e,c⟩
  | set S n=>obtain ⟨ob,es,ep,t,e,c⟩:=x;exact ⟨ob,es,ep,t,k _ _ (.inl rfl) e,c⟩
  | ins C dx fs=>
    obtain ⟨d,z,ne,e,mA,⟨od,es,ep,e2,c⟩,r⟩:=x
    exact ⟨ho _ d,z,ne,k _ _ (.inl rfl) e,mA,⟨od,es,ep,k _ _ (.inr d) e2,c⟩,r⟩
  | own y=>obtain ⟨ob,e⟩:=x;exact ⟨ob,k _ _ (.inl rfl) e⟩
  | xd fs=>obtain ⟨mA,⟨od,es,ep,e,c⟩,r⟩:=x;exact ⟨mA,⟨od,es,ep,k _ _ (.inl rfl) e,c⟩,r⟩
  | rng lo hi=>obtain ⟨t,u,v,e⟩:=x;exact ⟨t,u,v,k _ _ (.inl rfl) e⟩
  | frz ob u ih=>obtain ⟨e,q⟩:=x;exact ⟨k _ _ (.inl rfl) e,ih q⟩
  | tbl ps=>
    have e:h.get? a=some { cls:=.none,data:=.fields ps }:=x
    show h'.get? a=some { cls:=.none,data:=.fields ps }
    exact k a _ (.inl rfl) e
  | met f y=>
    have e:h.get? a=some (PySem.W.methodObj (.ref f) (.ref y)):=x
    show h'.get? a=some (PySem.W.methodObj (.ref f) (.ref y))
    exact k a _ (.inl rfl) e
  | ext φ=>obtain ⟨p,⟨o,e⟩,st⟩:=x;exact ⟨st _ _ p fun o q=>k _ _ (.inl rfl) q,⟨o,k _ _ (.inl rfl) e⟩,st⟩
theorem HOk.lt (x:HOk P w H h) (e:H a=some o):a<h.objs.size:=(x a o e).lt
theorem HOk.fresh (x:HOk P w H h) (e:h.objs.size≤a):H a=none:=by
  cases q:H a with
  | none=>rfl
  | some u=>exact absurd (Nat.lt_of_lt_of_le (x.lt q) e) (Nat.lt_irrefl _)
theorem HOk.kept (x:HOk P w H h) (k:∀b u,h.get? b=some u→h'.get? b=some u):HOk P w H h':=fun a o e=>
  (x a o e).stay (fun b u _ q=>k b u q) (fun _ q=>q) fun _ _ q=>q
theorem HOk.laid (x:HOk P w H h) (k:∀b u,h.get? b=some u→h'.get? b=some u) (hp:h.objs.size≤a) (new:ObjOk P w (upd H a o) h' a o):HOk P w (upd H a o) h':=fun b u e=>by
  have hn:=x.fresh hp
  by_cases hb:b=a
  · subst hb;rw [upd_same] at e;cases e;exact new
  · rw [upd_ne hb] at e
    exact (x b u e).stay (fun c v _ q=>k c v q) (fun c q=>by rw [upd_ne (ne_of_none q hn)];exact q) fun c xs q=>by rw [upd_ne (ne_of_none q hn)];exact q
end

noncomputable def Rd (H:Hp) (a:Addr) (u:HO):Prop:=H a=some u∨∃o,H a=some (.frz o u)
theorem Rd.ok {P:Program} {w:World} {H:Hp} {h:Heap} {a:Addr} {u:HO} (r:Rd H a u) (x:HOk P w H h):ObjOk P w H h a u:=by
  rcases r with r | ⟨o,r⟩
  · exact x a u r
  · obtain ⟨_,q⟩:=x a _ r
    exact q
noncomputable def Mut:Option HO→Prop
  | some (.lst _)=>True
  | some (.dK _)=>True
  | some (.dT _)=>True
  | some (.set _ _)=>True
  | some (.ins _ _ _)=>True
  | some (.ext _)=>True
  | _=>False
section
variable {P:Program} {w:World} {H:Hp} {h h':Heap} {x e:Addr} {o':HO}
theorem HOk.write (ok:HOk P w H h) (mu:Mut (H x)) (he:e=x∨H e=some (.own x)) (k:∀b u,b≠e→h.get? b=some u→h'.get? b=some u) (heo:∃u,h'.get? e=some u)
    (new:ObjOk P w (upd H x o') h' x o'):HOk P w (upd H x o') h':=fun b u q=>by
  have nown:∀c y,H c=some (.own y)→c≠x:=fun c y r z=>by subst z;rw [r] at mu;exact mu
  have ntup:∀c xs,H c=some (.tup xs)→c≠x:=fun c xs r z=>by subst z;rw [r] at mu;exact mu
  by_cases hb:b=x
  · subst hb;rw [upd_same] at q;cases q;exact new
  · rw [upd_ne hb] at q
    by_cases hbe:b=e
    · have q':H b=some (.own x):=by
        rcases he with z | z
        · exact absurd (hbe.trans z) hb
        · rw [hbe];exact z
      rw [q] at q';cases q'
      obtain ⟨v,hv⟩:=heo
      exact ⟨v,by rw [hbe];exact hv⟩
    · refine (ok b u q).stay (fun c v hc r=>k c v ?_ r) (fun c r=>by rw [upd_ne (nown c b r)];exact r) fun c xs r=>by rw [upd_ne (ntup c xs r)];exact r
      rcases hc with rfl | hc
      · exact hbe
      · rintro rfl
        rcases he with z | z
        · exact nown c b hc z
        · rw [hc] at z;cases z;exact hb rfl
end

structure Un (fs ex:List Addr) (H H':Hp) (h h':Heap):Prop where
  keep:∀b o,h.get? b=some o→H b=none→b∉fs→b∉ex→h'.get? b=some o
  slot:∀b o,h.get? b=some o→H b=none→b∈fs→b∉ex→∃sl,h'.get? b=some { o with slots:=sl }
  free:∀b o,h.get? b=some o→H b=none→b∉ex→H' b=none
  there:∀b o,h.get? b=some o→b∉ex→∃o',h'.get? b=some o'
  tups:∀b xs,H b=some (.tup xs)→H' b=some (.tup xs)
  frzs:∀b o u,H b=some (.frz o u)→H' b=some (.frz o u)
  tbls:∀b ps,H b=some (.tbl ps)→∃more,H' b=some (.tbl (ps++more))
section
variable {fs fs' ex ex':List Addr} {H H1 H2:Hp} {h h1 h2 h':Heap} {a x e:Addr} {o:HO}
theorem Un.any (u:Un fs ex H H1 h h1) {b:Addr} {ob:Obj} (q:h.get? b=some ob) (n:H b=none) (hx:b∉ex):∃sl,h1.get? b=some { ob with slots:=sl }:=by
  by_cases hb:b∈fs
  · exact u.slot b ob q n hb hx
  · exact ⟨ob.slots,u.keep b ob q n hb hx⟩
theorem Un.kept (k:∀b u,h.get? b=some u→h'.get? b=some u):Un fs ex H H h h':=
  ⟨fun b ob q _ _ _=>k b ob q,fun b ob q _ _ _=>⟨ob.slots,k b ob q⟩,fun _ _ _ n _=>n,fun b ob q _=>⟨ob,k b ob q⟩,fun _ _ q=>q,fun _ _ _ q=>q,fun _ ps q=>⟨#[],by rw [q];simp⟩⟩
theorem Un.refl:Un fs ex H H h h:=Un.kept fun _ _ q=>q
theorem Un.laid (k:∀b u,h.get? b=some u→h'.get? b=some u) (hp:h.objs.size≤a) (hn:H a=none):Un fs ex H (upd H a o) h h' where
  keep:=fun b u q _ _ _=>k b u q
  slot:=fun b u q _ _ _=>⟨u.slots,k b u q⟩
  free:=fun b u q n _=>by rw [upd_ne (Nat.ne_of_lt (Nat.lt_of_lt_of_le (Heap.lt_size q) hp))];exact n
  there:=fun b u q _=>⟨u,k b u q⟩
  tups:=fun b xs q=>by rw [upd_ne (ne_of_none q hn)];exact q
  frzs:=fun b u xs q=>by rw [upd_ne (ne_of_none q hn)];exact q
  tbls:=fun b ps q=>⟨#[],by rw [upd_ne (ne_of_none q hn),q];simp⟩
theorem Un.write (mu:Mut (H x)) (he:e=x∨H e=some (.own x)) (k:∀b u,b≠e→h.get? b=some u→h'.get? b=some u) (heo:∃u,h'.get? e=some u):Un fs ex H (upd H x o) h h':=by
  have hx:∀b,H b=none→b≠x:=fun b n z=>by subst z;rw [n] at mu;exact mu
  have hb:∀b,H b=none→b≠e:=fun b n z=>by
    subst z
    rcases he with r | r
    · exact hx b n r
    · rw [n] at r;cases r
  have hm:∀b u,H b=some u→¬Mut (some u)→b≠x:=fun b u q nm z=>by subst z;rw [q] at mu;exact nm mu
  refine ⟨fun b u q n _ _=>k b u (hb b n) q,fun b u q n _ _=>⟨u.slots,k b u (hb b n) q⟩,fun b u q n _=>by rw [upd_ne (hx b n)];exact n,fun b u q _=>?_,
    fun b xs q=>by rw [upd_ne (hm b _ q fun z=>z)];exact q,fun b u xs q=>by rw [upd_ne (hm b _ q fun z=>z)];exact q,fun b ps q=>⟨#[],by rw [upd_ne (hm b _ q fun z=>z),q];simp⟩⟩
  by_cases hbe:b=e
  · subst hbe;exact heo
  · exact ⟨u,k b u hbe q⟩
end

noncomputable def trk (h:Heap) (H:Hp):List Addr:=(List.range h.objs.size).filter fun a=>(H a).isSome
noncomputable def hidT (h:Heap) (H:Hp):Heap:=PySem.W.hideAll h (trk h H)
theorem hidT_size (h:Heap) (H:Hp):(hidT h H).objs.size=h.objs.size:=PySem.W.hideAll_size _ _
theorem hidT_get {h:Heap} {H:Hp} {b:Addr} {o:Obj} (e:h.get? b=some o) (n:H b=none):(hidT h H).get? b=some o:=
  PySem.W.hideAll_get _ e fun hm=>by
    have q:(H b).isSome=true:=(List.mem_filter.mp hm).2
    rw [n] at q;simp at q
theorem of_hidT {h:Heap} {H:Hp} {b:Addr} {o:Obj} (e:(hidT h H).get? b=some o):h.get? b=some o∧H b=none:=by
  have e':h.get? b=some o:=PySem.W.of_hideAll (trk h H) e
  refine ⟨e',?_⟩
  cases q:H b with
  | none=>rfl
  | some x=>
    have hm:b∈trk h H:=List.mem_filter.mpr ⟨List.mem_range.mpr (Heap.lt_size e'),by simp [q]⟩
    have z:(hidT h H).get? b=none:=PySem.W.hideAll_none (trk h H) hm
    rw [z] at e;cases e

end L2

namespace L2
open PySem PySem.Spec PyProof.Rows

structure Mod (K:PySem.W.Frag) (mg:Str→Option Value) (base:Heap):Prop where
  kin:K.In base
  glob:base.Ns mainGlobals mg
  blt:∃mb,base.Ns builtinsNs mb∧∀x:Str,x ≠ "__name__"→mb x=bootBuiltins x
  nolimit:base.NoLimit

structure Cx where
  prog:Program
  w:World
  K:PySem.W.Frag
  mg:Str→Option Value
  base:Heap
  A:Around
  N:List Str
  s₀:Shared
  H₀:Hp
  env:Env
  outer:List Env
  stack:List Env
  ex:List Addr
  fn:Str→Bool
  calm:Bool
  pn:List (Addr×Obj)
  xe:Value→Shared→Prop
noncomputable def frs (l:List Env):List Addr:=l.filterMap (·.frame)
noncomputable abbrev Cx.fs (X:Cx):List Addr:=frs X.outer

noncomputable def Vis (sc:Scope) (x:Str):Prop:=sc.names.lookup x=some .local∨sc.names.lookup x=some .cell∨sc.names.lookup x=some .free
noncomputable def Loc (sc:Scope) (x:Str):Prop:=sc.names.lookup x=some .local∨sc.names.lookup x=some .cell
noncomputable def Look (env:Env) (h:Heap) (m:Str→Option Value) (x:Str) (u:Value):Prop:=
  (env.kindOf x=some .local∧m x=some u)∨((env.kindOf x=some .cell∨env.kindOf x=some .free)∧∃c,env.cells.lookup x=some c∧h.IsCell c (some u))

structure Cx.Ok (X:Cx):Prop where
  mod:Mod X.K X.mg X.base
  kind:X.env.scope.kind=.function
  glob:X.env.globals=mainGlobals
  blt:X.env.builtins=builtinsNs
  above:X.s₀.heap.objs.size≤X.env.locals
  inj:∀x y c,X.env.cells.lookup x=some c→X.env.cells.lookup y=some c→x=y
  has:∀x,(X.env.kindOf x=some .cell∨X.env.kindOf x=some .free)→∃c,X.env.cells.lookup x=some c
  cab:∀x c,X.fn x=true→X.env.cells.lookup x=some c→X.s₀.heap.objs.size≤c
  hd:X.calm=true→X.A.handled=none
  frames:X.A.frames=some X.stack
  stk:X.stack=X.outer∨(X.stack=X.env::X.outer∧X.env.frame=some X.env.locals)
  exf:∀b∈X.ex,b≠X.env.locals∧∀x c,X.env.cells.lookup x=some c→c≠b
  bs:∀b o,X.base.get? b=some o→X.s₀.heap.get? b=some o∧X.H₀ b=none
  bsz:X.base.objs.size≤X.s₀.heap.objs.size
  noex:∀b o,X.base.get? b=some o→b∉X.ex
  exfs:∀b∈X.ex,b∉X.fs
  funs:X.s₀.heap.FunFrames X.base X.outer
  frf:∀b∈X.fs,X.H₀ b=none

structure Inv (X:Cx) (pins:List (Addr×Obj)) (σ:List (Option V)) (H:Hp) (s:Shared):Prop where
  ok:X.Ok
  os:s.os=X.s₀.os
  bare:AllBare s.gens
  base:Un X.fs X.ex X.H₀ H X.s₀.heap s.heap
  loc:∃m,s.heap.Ns X.env.locals m∧∀(i:Nat) (x:Str) (v:V),X.N[i]?=some x→σ[i]?=some (some v)→Vis X.env.scope x→∃u,RelV v u∧Look X.env s.heap m x u
  cell:∀x c,X.env.cells.lookup x=some c→∃v,s.heap.IsCell c v
  free:H X.env.locals=none
  freeC:∀x c,X.env.cells.lookup x=some c→H c=none
  pin:∀p∈X.pn++pins,s.heap.get? p.1=some p.2∧H p.1=none∧p.1≠X.env.locals∧p.1∉X.fs∧∀v,p.2.data≠.cell v
  hok:HOk X.prog X.w H s.heap
  len:σ.length=X.N.length

section
variable {X:Cx} {pins:List (Addr×Obj)} {σ:List (Option V)} {H H':Hp} {s:Shared} {h':Heap}

theorem Cx.Ok.nofr (ok:X.Ok) {b:Addr} {o:Obj} (e:X.base.get? b=some o):b∉X.fs:=fun hb=>by
  have:=(ok.funs.mem hb).1
  rw [e] at this;cases this
theorem Inv.bs (I:Inv X pins σ H s):∀b o,X.base.get? b=some o→s.heap.get? b=some o∧H b=none:=fun b o e=>
  ⟨I.base.keep b o (I.ok.bs b o e).1 (I.ok.bs b o e).2 (I.ok.nofr e) (I.ok.noex b o e),I.base.free b o (I.ok.bs b o e).1 (I.ok.bs b o e).2 (I.ok.noex b o e)⟩
theorem Inv.bk (I:Inv X pins σ H s):∀b o,X.base.get? b=some o→s.heap.get? b=some o:=fun b o e=>(I.bs b o e).1
theorem Inv.mod (I:Inv X pins σ H s):Mod X.K X.mg X.base:=I.ok.mod
theorem Inv.kIn (I:Inv X pins σ H s):X.K.In s.heap:=I.ok.mod.kin.keeps I.bk
theorem Inv.lt (I:Inv X pins σ H s):X.env.locals<s.heap.objs.size:=let ⟨_,hn,_⟩:=I.loc;hn.lt
theorem Inv.sz (I:Inv X pins σ H s):X.s₀.heap.objs.size≤s.heap.objs.size:=Nat.le_trans I.ok.above (Nat.le_of_lt I.lt)
theorem Inv.nofs (I:Inv X pins σ H s) {a:Addr} (h:s.heap.objs.size≤a):a∉X.fs:=fun hb=>by
  obtain ⟨_,o,ho,_⟩:=I.ok.funs.mem hb
  exact absurd (Nat.lt_of_lt_of_le (Heap.lt_size ho) (Nat.le_trans I.sz h)) (Nat.lt_irrefl _)
theorem Inv.cne (I:Inv X pins σ H s):∀x c,X.env.cells.lookup x=some c→c≠X.env.locals:=fun x c e z=>by
  obtain ⟨v,o,ho,hd⟩:=I.cell x c e
  obtain ⟨m,⟨o',es,ep,ho',hd',_⟩,_⟩:=I.loc
  rw [z,ho'] at ho;cases ho;rw [hd'] at hd;cases hd
theorem Inv.funs (I:Inv X pins σ H s):s.heap.FunFrames X.base X.outer:=by
  have all:∀(l:List Env),(∀b∈frs l,b∈X.fs)→X.s₀.heap.FunFrames X.base l→s.heap.FunFrames X.base l:=by
    intro l
    induction l with
    | nil=>intro _ _;trivial
    | cons env r ih=>
      intro hs hl
      obtain ⟨hk,⟨L,o,hf,hn,ho,hd⟩,hr⟩:=hl
      have hL:L∈X.fs:=hs L (by unfold frs;rw [List.filterMap_cons,hf];exact List.mem_cons_self)
      obtain ⟨sl,e⟩:=I.base.slot L o ho (I.ok.frf L hL) hL fun z=>I.ok.exfs L z hL
      exact ⟨hk,⟨L,_,hf,hn,e,hd⟩,ih (fun b hb=>hs b (by unfold frs;rw [List.filterMap_cons,hf];exact List.mem_cons_of_mem _ hb)) hr⟩
  exact all X.outer (fun _ hb=>hb) I.ok.funs

theorem Inv.stack (I:Inv X pins σ H s):s.heap.FunFrames X.base X.stack:=by
  rcases I.ok.stk with e | ⟨e,hf⟩
  · rw [e];exact I.funs
  · rw [e]
    obtain ⟨m,hn,_⟩:=I.loc
    refine .cons (by rw [I.ok.kind];decide) hf hn ?_ I.funs
    exact Heap.get?_none_of_le (Nat.le_trans I.ok.bsz I.ok.above)
theorem Inv.stkSub (I:Inv X pins σ H s):∀b∈frs X.stack,b∈X.env.locals::X.fs:=fun b hb=>by
  rcases I.ok.stk with e | ⟨e,hf⟩
  · rw [e] at hb;exact List.mem_cons_of_mem _ hb
  · rw [e] at hb
    unfold frs at hb
    rw [List.filterMap_cons,hf] at hb
    exact hb
theorem Inv.stkFree (I:Inv X pins σ H s):∀b∈frs X.stack,H b=none:=fun b hb=>by
  rcases List.mem_cons.mp (I.stkSub b hb) with e | hb
  · rw [e];exact I.free
  · obtain ⟨_,o,ho,_⟩:=I.ok.funs.mem hb
    exact I.base.free b o ho (I.ok.frf b hb) fun z=>I.ok.exfs b z hb

theorem Inv.step {g':Array GenState} {t':Nat} {d':Drawn} {ch:List Addr} (I:Inv X pins σ H s)
    (hch:∀b∈ch,(b∈X.ex∨X.s₀.heap.objs.size≤b)∧b≠X.env.locals∧(∀x c,X.env.cells.lookup x=some c→c≠b)∧∀p∈X.pn++pins,p.1≠b)
    (keep:∀b o,b≠X.env.locals→b∉X.fs→b∉ch→s.heap.get? b=some o→H b=none→h'.get? b=some o)
    (slot:∀b o,b≠X.env.locals→b∈X.fs→b∉ch→s.heap.get? b=some o→H b=none→∃sl,h'.get? b=some { o with slots:=sl }) (free:∀b o,b∉ch→s.heap.get? b=some o→H b=none→H' b=none)
    (there:∀b o,b∉ch→s.heap.get? b=some o→∃o',h'.get? b=some o')
    (tups:∀b xs,H b=some (.tup xs)→H' b=some (.tup xs)) (frzs:∀b o u,H b=some (.frz o u)→H' b=some (.frz o u)) (tbls:∀b ps,H b=some (.tbl ps)→∃more,H' b=some (.tbl (ps++more)))
    (ns:∀m,s.heap.Ns X.env.locals m→h'.Ns X.env.locals m) (hok:HOk X.prog X.w H' h') (hg:AllBare g') :
    Inv X pins σ H' { s with heap:=h',gens:=g',drawn:=d',toks:=t' }:=by
  have neL:∀b o,X.s₀.heap.get? b=some o→b≠X.env.locals:=fun b o e=>Nat.ne_of_lt (Nat.lt_of_lt_of_le (Heap.lt_size e) I.ok.above)
  have neC:∀b o,X.s₀.heap.get? b=some o→b∉X.ex→b∉ch:=fun b o e hx hb=>by
    rcases (hch b hb).1 with z | z
    · exact hx z
    · exact absurd (Nat.lt_of_lt_of_le (Heap.lt_size e) z) (Nat.lt_irrefl _)
  have cellK:∀x c,X.env.cells.lookup x=some c→∀v,s.heap.IsCell c v→h'.IsCell c v:=fun x c e v ⟨o,ho,hd⟩=>by
    have nch:c∉ch:=fun z=>(hch c z).2.2.1 x c e rfl
    by_cases hc:c∈X.fs
    · obtain ⟨sl,q⟩:=slot c o (I.cne x c e) hc nch ho (I.freeC x c e)
      exact ⟨_,q,hd⟩
    · exact ⟨o,keep c o (I.cne x c e) hc nch ho (I.freeC x c e),hd⟩
  refine ⟨I.ok,I.os,hg,⟨fun b o e n hb hx=>?_,fun b o e n hb hx=>?_,fun b o e n hx=>?_,fun b o e hx=>?_,fun b xs e=>tups b xs (I.base.tups b xs e),fun b o xs e=>frzs b o xs (I.base.frzs b o xs e),fun b ps e=>?_⟩,?_,fun x c e=>?_,?_,fun x c e=>?_,fun p hp=>?_,hok,I.len⟩
  · exact keep b o (neL b o e) hb (neC b o e hx) (I.base.keep b o e n hb hx) (I.base.free b o e n hx)
  · obtain ⟨sl,e1⟩:=I.base.slot b o e n hb hx
    obtain ⟨sl',e2⟩:=slot b _ (neL b o e) hb (neC b o e hx) e1 (I.base.free b o e n hx)
    exact ⟨sl',e2⟩
  · obtain ⟨o',e1⟩:=I.base.there b o e hx
    exact free b o' (neC b o e hx) e1 (I.base.free b o e n hx)
  · obtain ⟨o',e1⟩:=I.base.there b o e hx
    exact there b o' (neC b o e hx) e1
  · obtain ⟨m1,e1⟩:=I.base.tbls b ps e
    obtain ⟨m2,e2⟩:=tbls b _ e1
    exact ⟨m1++m2,by rw [e2,Array.append_assoc]⟩
  · obtain ⟨m,hn,hl⟩:=I.loc
    refine ⟨m,ns m hn,fun i x v e1 e2 e3=>?_⟩
    obtain ⟨u,r,l⟩:=hl i x v e1 e2 e3
    refine ⟨u,r,?_⟩
    rcases l with l | ⟨k,c,e,z⟩
    · exact .inl l
    · exact .inr ⟨k,c,e,cellK x c e _ z⟩
  · obtain ⟨v,z⟩:=I.cell x c e
    exact ⟨v,cellK x c e v z⟩
  · obtain ⟨m,⟨o,_,_,ho,_⟩,_⟩:=I.loc
    exact free _ o (fun z=>(hch _ z).2.1 rfl) ho I.free
  · obtain ⟨v,o,ho,hd⟩:=I.cell x c e
    exact free c o (fun z=>(hch c z).2.2.1 x c e rfl) ho (I.freeC x c e)
  · obtain ⟨e,n,ne,nf,d⟩:=I.pin p hp
    have nch:p.1∉ch:=fun z=>(hch p.1 z).2.2.2 p hp rfl
    exact ⟨keep p.1 p.2 ne nf nch e n,free p.1 p.2 nch e n,ne,nf,d⟩
theorem Inv.un {t':Nat} (I:Inv X pins σ H s) (u:Un X.fs [] H H' s.heap h') (hok:HOk X.prog X.w H' h'):Inv X pins σ H' { s with heap:=h',toks:=t' }:=by
  obtain ⟨m,⟨o,es,ep,ho,r⟩,_⟩:=id I.loc
  obtain ⟨sl,hL⟩:=u.any ho I.free (by simp)
  exact I.step (g':=s.gens) (d':=s.drawn) (ch:=[]) (fun _ z=>nomatch z) (fun b o _ hb _ e n=>u.keep b o e n hb (by simp)) (fun b o _ hb _ e n=>u.slot b o e n hb (by simp)) (fun b o _ e n=>u.free b o e n (by simp)) (fun b o _ e=>u.there b o e (by simp)) u.tups u.frzs u.tbls (fun m' hm=>by
    obtain ⟨o',es',ep',ho',r'⟩:=hm
    rw [ho] at ho';cases ho'
    exact ⟨_,es',ep',hL,r'⟩) hok I.bare
theorem Inv.call {g':Array GenState} {t':Nat} {d':Drawn} {ch:List Addr} (I:Inv X pins σ H s) (u:Un (frs X.stack) ch H H' s.heap h') (hok:HOk X.prog X.w H' h') (hg:AllBare g')
    (hch:∀b∈ch,(b∈X.ex∨X.s₀.heap.objs.size≤b)∧b≠X.env.locals∧(∀x c,X.env.cells.lookup x=some c→c≠b)∧∀p∈X.pn++pins,p.1≠b) :
    Inv X pins σ H' { s with heap:=h',gens:=g',drawn:=d',toks:=t' }:=by
  obtain ⟨m,⟨o,es,ep,ho,r⟩,_⟩:=id I.loc
  obtain ⟨sl,hL⟩:=u.any ho I.free fun z=>(hch _ z).2.1 rfl
  exact I.step (ch:=ch) hch (fun b o hL hb hc e n=>u.keep b o e n (fun z=>(List.mem_cons.mp (I.stkSub b z)).elim hL hb) hc) (fun b o _ _ hc e n=>u.any e n hc) (fun b o hc e n=>u.free b o e n hc) (fun b o hc e=>u.there b o e hc) u.tups u.frzs u.tbls (fun m' hm=>by
    obtain ⟨o',es',ep',ho',r'⟩:=hm
    rw [ho] at ho';cases ho'
    exact ⟨_,es',ep',hL,r'⟩) hok hg
theorem Inv.turned {t':Nat} {it:Addr} (I:Inv X pins σ H s) (k:∀b o,b≠it→s.heap.get? b=some o→h'.get? b=some o) (hn:H it=none) (hL:it≠X.env.locals)
    (h1:it∈X.ex∨X.s₀.heap.objs.size≤it) (h2:∀x c,X.env.cells.lookup x=some c→c≠it) (h3:∀p∈X.pn++pins,p.1≠it):Inv X pins σ H { s with heap:=h',toks:=t' }:=by
  have nit:∀b u,H b=some u→b≠it:=fun b u e z=>by rw [z,hn] at e;cases e
  refine I.step (g':=s.gens) (d':=s.drawn) (ch:=[it]) (fun b hb=>?_) (fun b o _ _ hc e _=>k b o (fun z=>hc (by simp [z])) e) (fun b o _ _ hc e _=>⟨o.slots,k b o (fun z=>hc (by simp [z])) e⟩) (fun _ _ _ _ n=>n)
    (fun b o hc e=>⟨o,k b o (fun z=>hc (by simp [z])) e⟩) (fun _ _ e=>e) (fun _ _ _ e=>e) (fun b ps e=>⟨#[],by rw [e];simp⟩) (fun m hm=>?_) (fun b u e=>?_) I.bare
  · have e:b=it:=by simpa using hb
    subst e
    exact ⟨h1,hL,h2,h3⟩
  · obtain ⟨o,es,ep,ho,r⟩:=hm
    exact ⟨o,es,ep,k _ o (Ne.symm hL) ho,r⟩
  · refine (I.hok b u e).stay (fun c v hc q=>k c v ?_ q) (fun _ q=>q) fun _ _ q=>q
    rcases hc with z | z
    · rw [z];exact nit b u e
    · exact nit c _ z
theorem Inv.tok (I:Inv X pins σ H s) (t:Nat):Inv X pins σ H { s with toks:=t }:=I.un (h':=s.heap) (t':=t) Un.refl I.hok
theorem Inv.kept {t':Nat} (I:Inv X pins σ H s) (k:∀b u,s.heap.get? b=some u→h'.get? b=some u):Inv X pins σ H { s with heap:=h',toks:=t' }:=I.un (Un.kept k) (I.hok.kept k)
theorem Inv.laid {a:Addr} {o:HO} {t':Nat} (I:Inv X pins σ H s) (k:∀b u,s.heap.get? b=some u→h'.get? b=some u) (hp:s.heap.objs.size≤a) (new:ObjOk X.prog X.w (upd H a o) h' a o) :
    Inv X pins σ (upd H a o) { s with heap:=h',toks:=t' }:=I.un (Un.laid k hp (I.hok.fresh hp)) (I.hok.laid k hp new)
theorem Inv.write {x e:Addr} {o:HO} {t':Nat} (I:Inv X pins σ H s) (mu:Mut (H x)) (he:e=x∨H e=some (.own x)) (k:∀b u,b≠e→s.heap.get? b=some u→h'.get? b=some u) (heo:∃u,h'.get? e=some u)
    (new:ObjOk X.prog X.w (upd H x o) h' x o):Inv X pins σ (upd H x o) { s with heap:=h',toks:=t' }:=I.un (Un.write mu he k heo) (I.hok.write mu he k heo new)
theorem Inv.pins_of {pins':List (Addr×Obj)} (I:Inv X pins σ H s) (h:∀p∈pins',s.heap.get? p.1=some p.2∧H p.1=none∧p.1≠X.env.locals∧p.1∉X.fs∧∀v,p.2.data≠.cell v):Inv X pins' σ H s:=
  ⟨I.ok,I.os,I.bare,I.base,I.loc,I.cell,I.free,I.freeC,fun p hp=>(List.mem_append.mp hp).elim (fun z=>I.pin p (List.mem_append_left _ z)) (h p),I.hok,I.len⟩

theorem nodup_ix {N:List Str} (hN:N.Nodup) {i j:Nat} {x:Str} (a:N[i]?=some x) (b:N[j]?=some x):i=j:=by
  obtain ⟨h1,e1⟩:=List.getElem?_eq_some_iff.mp a
  obtain ⟨h2,e2⟩:=List.getElem?_eq_some_iff.mp b
  exact (List.getElem_inj hN).mp (e1.trans e2.symm)

theorem store_ok2 {M:Model} {A:Around} {E:Value→Shared→Prop} {i:Nat} {x:Str} {v:V} {u:Value} {Q:Unit→Shared→Prop} (I:Inv X pins σ H s) (hN:X.N.Nodup) (hi:X.N[i]?=some x) (hx:Loc X.env.scope x) (r:RelV v u)
    (h:∀s',Inv X pins (σ.set i (some v)) H s'→(∃a,Heap.SameBut a s.heap s'.heap∧(a=X.env.locals∨X.env.cells.lookup x=some a))→Q () s') (hf:X.fn x=true∨X.env.scope.names.lookup x=some .local:=by first | exact .inl rfl | exact .inr rfl | assumption):wpAny M A (storeName X.env x u) Q E s:=by
  obtain ⟨m,hn,hl⟩:=id I.loc
  have hcls:(X.env.scope.kind==.class||(X.env.scope.kind==.module&&X.env.locals != X.env.globals))=false:=by rw [I.ok.kind];rfl
  have hiσ:i<σ.length:=by rw [I.len];exact (List.getElem?_eq_some_iff.mp hi).1
  have cne:=I.cne
  have tracked:∀{a:Addr} {h':Heap},(∃o,s.heap.get? a=some o∧H a=none)→Heap.SameBut a s.heap h'→HOk X.prog X.w H h':=fun {a h'} ha hs b ob e=>by
    obtain ⟨_,_,hfree⟩:=ha
    refine (I.hok b ob e).stay (fun c w' hc q=>(hs.2 c ?_).trans q) (fun _ q=>q) fun _ _ q=>q
    rintro rfl
    rcases hc with rfl | hc
    · rw [hfree] at e;cases e
    · rw [hfree] at hc;cases hc
  rcases hx with hk | hk
  · refine wpAny_storeName_local hk hn (fun h' hn' hs=>?_) hcls
    obtain ⟨oL,_,_,hoL,_⟩:=id hn
    refine h _ ⟨I.ok,I.os,I.bare,⟨fun b o e n hb hx=>?_,fun b o e n hb hx=>?_,I.base.free,fun b o e hx=>?_,I.base.tups,I.base.frzs,I.base.tbls⟩,⟨_,hn',fun j y v' e1 e2 e3=>?_⟩,fun y c e=>?_,I.free,I.freeC,fun p hp=>?_,tracked ⟨oL,hoL,I.free⟩ hs,by simpa using I.len⟩ ⟨_,hs,.inl rfl⟩
    · exact (hs.2 b (Nat.ne_of_lt (Nat.lt_of_lt_of_le (Heap.lt_size e) I.ok.above))).trans (I.base.keep b o e n hb hx)
    · obtain ⟨sl,e1⟩:=I.base.slot b o e n hb hx
      exact ⟨sl,(hs.2 b (Nat.ne_of_lt (Nat.lt_of_lt_of_le (Heap.lt_size e) I.ok.above))).trans e1⟩
    · obtain ⟨o',e1⟩:=I.base.there b o e hx
      exact ⟨o',(hs.2 b (Nat.ne_of_lt (Nat.lt_of_lt_of_le (Heap.lt_size e) I.ok.above))).trans e1⟩
    · by_cases hj:j=i
      · subst hj
        rw [hi] at e1;cases e1
        rw [List.getElem?_set_self hiσ] at e2
        cases e2
        exact ⟨u,r,.inl ⟨hk,by simp⟩⟩
      · rw [List.getElem?_set_ne (Ne.symm hj)] at e2
        obtain ⟨u',r',q⟩:=hl j y v' e1 e2 e3
        refine ⟨u',r',?_⟩
        rcases q with ⟨k,e⟩ | ⟨k,c,e,z⟩
        · refine .inl ⟨k,?_⟩
          have:y≠x:=fun e=>hj (nodup_ix hN e1 (e▸hi))
          simp [this,e]
        · exact .inr ⟨k,c,e,z.sameBut hs (cne y c e)⟩
    · obtain ⟨w',z⟩:=I.cell y c e
      exact ⟨w',z.sameBut hs (cne y c e)⟩
    · obtain ⟨e,n,ne,nf,d⟩:=I.pin p hp
      exact ⟨(hs.2 p.1 ne).trans e,n,ne,nf,d⟩
  · have hfn:X.fn x=true:=by
      rcases hf with z | z
      · exact z
      · rw [z] at hk;cases hk
    obtain ⟨c,hc⟩:=I.ok.has x (.inl hk)
    obtain ⟨w',z⟩:=I.cell x c hc
    refine wpAny_storeName_cell I.ok.kind hk hc z (fun h' hc' hs=>?_)
    obtain ⟨oc,hoc,hocd⟩:=id z
    refine h { s with heap:=h' } ⟨I.ok,I.os,I.bare,⟨fun b o e n hb hx=>?_,fun b o e n hb hx=>?_,I.base.free,fun b o e hx=>?_,I.base.tups,I.base.frzs,I.base.tbls⟩,⟨m,hn.sameBut hs (Ne.symm (cne x c hc)),fun j y v' e1 e2 e3=>?_⟩,fun y c' e=>?_,I.free,I.freeC,fun p hp=>?_,tracked ⟨oc,hoc,I.freeC x c hc⟩ hs,by simpa using I.len⟩ ⟨c,hs,.inr hc⟩
    · exact (hs.2 b (Nat.ne_of_lt (Nat.lt_of_lt_of_le (Heap.lt_size e) (I.ok.cab x c hfn hc)))).trans (I.base.keep b o e n hb hx)
    · obtain ⟨sl,e1⟩:=I.base.slot b o e n hb hx
      exact ⟨sl,(hs.2 b (Nat.ne_of_lt (Nat.lt_of_lt_of_le (Heap.lt_size e) (I.ok.cab x c hfn hc)))).trans e1⟩
    · obtain ⟨o',e1⟩:=I.base.there b o e hx
      exact ⟨o',(hs.2 b (Nat.ne_of_lt (Nat.lt_of_lt_of_le (Heap.lt_size e) (I.ok.cab x c hfn hc)))).trans e1⟩
    · by_cases hj:j=i
      · subst hj
        rw [hi] at e1;cases e1
        rw [List.getElem?_set_self hiσ] at e2
        cases e2
        exact ⟨u,r,.inr ⟨.inl hk,c,hc,hc'⟩⟩
      · rw [List.getElem?_set_ne (Ne.symm hj)] at e2
        obtain ⟨u',r',q⟩:=hl j y v' e1 e2 e3
        refine ⟨u',r',?_⟩
        rcases q with q | ⟨k,c',e,z'⟩
        · exact .inl q
        · refine .inr ⟨k,c',e,z'.sameBut hs ?_⟩
          rintro rfl
          exact hj (nodup_ix hN e1 (I.ok.inj _ _ _ e hc▸hi))
    · by_cases hcc:c'=c
      · subst hcc;exact ⟨_,hc'⟩
      · obtain ⟨w2,z2⟩:=I.cell y c' e
        exact ⟨w2,z2.sameBut hs hcc⟩
    · obtain ⟨e,n,ne,nf,d⟩:=I.pin p hp
      refine ⟨(hs.2 p.1 ?_).trans e,n,ne,nf,d⟩
      intro q
      rw [q,hoc] at e
      have q':oc=p.2:=Option.some.inj e
      exact d w' (by rw [← q'];exact hocd)
theorem store_ok {M:Model} {A:Around} {E:Value→Shared→Prop} {i:Nat} {x:Str} {v:V} {u:Value} {Q:Unit→Shared→Prop} (I:Inv X pins σ H s) (hN:X.N.Nodup) (hi:X.N[i]?=some x) (hx:Loc X.env.scope x) (r:RelV v u)
    (h:∀s',Inv X pins (σ.set i (some v)) H s'→Q () s') (hf:X.fn x=true∨X.env.scope.names.lookup x=some .local:=by first | exact .inl rfl | exact .inr rfl | assumption):wpAny M A (storeName X.env x u) Q E s:=
  store_ok2 I hN hi hx r (fun s' I' _=>h s' I') hf
theorem Inv.call' {s':Shared} {ch:List Addr} (I:Inv X pins σ H s) (ho:s'.os=s.os) (u:Un (frs X.stack) ch H H' s.heap s'.heap) (hok:HOk X.prog X.w H' s'.heap) (hg:AllBare s'.gens)
    (hch:∀b∈ch,(b∈X.ex∨X.s₀.heap.objs.size≤b)∧b≠X.env.locals∧(∀x c,X.env.cells.lookup x=some c→c≠b)∧∀p∈X.pn++pins,p.1≠b):Inv X pins σ H' s':=by
  obtain ⟨h',g',d',t',o'⟩:=s'
  have e:o'=s.os:=ho
  subst e
  exact I.call (g':=g') (t':=t') (d':=d') u hok hg hch
end

noncomputable abbrev XK:=Value→Option Addr→Hp→Prop
noncomputable abbrev St:=List (Option V)
noncomputable abbrev VK:=V→Hp→Prop
noncomputable abbrev TE:=St→Hp→VK→Prop
noncomputable abbrev TT:=St→Hp→(Bool→Hp→Prop)→Prop
noncomputable abbrev TA:=St→Hp→(List V→Hp→Prop)→Prop
structure Ends where
  nx:St→Hp→Prop
  rt:VK
  bk:St→Hp→Prop:=fun _ _=>False
  ct:St→Hp→Prop:=fun _ _=>False
noncomputable abbrev TS:=Ends→St→Hp→Prop

noncomputable def EP (X:Cx) (pins:List (Addr×Obj)) (σ:St) (Q:VK) (u:Value) (s':Shared):Prop:=∃v H',Inv X pins σ H' s'∧RelV v u∧Q v H'
noncomputable def TP (X:Cx) (pins:List (Addr×Obj)) (σ:St) (Q:Bool→Hp→Prop) (b:Bool) (s':Shared):Prop:=∃H',Inv X pins σ H' s'∧Q b H'
noncomputable def AP (X:Cx) (pins:List (Addr×Obj)) (σ:St) (Q:List V→Hp→Prop) (us:List Value) (s':Shared):Prop:=∃vs H',Inv X pins σ H' s'∧Vals vs us∧Q vs H'
noncomputable def SP (X:Cx) (pins:List (Addr×Obj)) (D:Ends) (f:Flow) (s':Shared):Prop:=
  match f with
  | .next=>∃σ' H',Inv X pins σ' H' s'∧D.nx σ' H'
  | .brk=>∃σ' H',Inv X pins σ' H' s'∧D.bk σ' H'
  | .cont=>∃σ' H',Inv X pins σ' H' s'∧D.ct σ' H'
  | .ret u=>∃v σ' H',Inv X pins σ' H' s'∧RelV v u∧D.rt v H'

noncomputable def PE (X:Cx) (e:Expr) (t:TE):Prop:=
  ∀(pins:List (Addr×Obj)) (s:Shared) (σ:St) (H:Hp) (Q:VK),Inv X pins σ H s→t σ H Q→wpAny (model X.prog X.w) X.A (eval e X.env) (EP X pins σ Q) X.xe s
noncomputable def PT (X:Cx) (e:Expr) (t:TT):Prop:=
  ∀(pins:List (Addr×Obj)) (s:Shared) (σ:St) (H:Hp) (Q:Bool→Hp→Prop),Inv X pins σ H s→t σ H Q→wpAny (model X.prog X.w) X.A (isTrue e X.env (eval e X.env)) (TP X pins σ Q) X.xe s
noncomputable def PW (X:Cx) (e:Expr) (t:TT):Prop:=
  ∀(whole:Sem Value) (pins:List (Addr×Obj)) (s:Shared) (σ:St) (H:Hp) (Q:Bool→Hp→Prop),Inv X pins σ H s→t σ H Q→wpAny (model X.prog X.w) X.A (isTrue e X.env whole) (TP X pins σ Q) X.xe s
theorem PW.pt {X:Cx} {e:Expr} {t:TT} (h:PW X e t):PT X e t:=h _
noncomputable def PA (X:Cx) (es:List Expr) (t:TA):Prop:=
  ∀(pos:Pos) (pins:List (Addr×Obj)) (s:Shared) (σ:St) (H:Hp) (Q:List V→Hp→Prop),Inv X pins σ H s→t σ H Q→wpAny (model X.prog X.w) X.A (spliced (backTo pos (starEach es X.env))) (AP X pins σ Q) X.xe s
noncomputable def PS (X:Cx) (st:Stmt) (t:TS):Prop:=
  ∀(pins:List (Addr×Obj)) (s:Shared) (σ:St) (H:Hp) (D:Ends),Inv X pins σ H s→t D σ H→wpAny (model X.prog X.w) X.A (exec st X.env) (SP X pins D) X.xe s
noncomputable def PSs (X:Cx) (st:List Stmt) (t:TS):Prop:=
  ∀(pins:List (Addr×Obj)) (s:Shared) (σ:St) (H:Hp) (D:Ends),Inv X pins σ H s→t D σ H→wpAny (model X.prog X.w) X.A (execs st X.env) (SP X pins D) X.xe s
theorem thn {α:Type} {t:Sem α} {Q Q':α→Shared→Prop} {M:Model} {A:Around} {E:Value→Shared→Prop} {s:Shared} (h:wpAny M A t Q E s) (hQ:∀a s,Q a s→Q' a s):wpAny M A t Q' E s:=wpAny_mono h hQ fun _ _ x=>x
end L2

namespace L2
open PySem PySem.Spec PyProof.Rows
section
variable {X:Cx}

noncomputable def tVar (i:Nat):TE:=fun σ H Q=>∃v,σ[i]?=some (some v)∧Q v H
noncomputable def tC (v:V):TE:=fun _ H Q=>Q v H
theorem pe_var {i:Nat} {x:Str} {pos:Pos} (hN:X.N[i]?=some x) (hv:Vis X.env.scope x) (hd:autoParam ((x==("__debug__":Str))=false) au1_._auto_1) (hcd:autoParam ((x==("__classdict__":Str))=false) au1_._auto_1):PE X (.Name x pos) (tVar i):=by
  intro pins s σ H Q I h
  obtain ⟨v,e,h⟩:=h
  obtain ⟨m,hn,hl⟩:=I.loc
  obtain ⟨u,r,l⟩:=hl i x v hN e hv
  have fin:EP X pins σ Q u s:=⟨v,H,I,r,h⟩
  rcases l with ⟨hk,hm⟩ | ⟨hk,c,hc,hcell⟩
  · exact wpAny_Name (wpAny_loadName_local I.ok.kind hk hn hm fin) hd
  · rcases hk with hk | hk
    · exact wpAny_Name (wpAny_loadName_cell I.ok.kind hk hc hcell fin) hd
    · exact wpAny_Name (wpAny_loadName_free I.ok.kind hk hc hcell fin hcd) hd
theorem pe_int {i j pos}:PE X (.Constant (.int i) j pos) (tC (.int i)):=fun _ _ _ H _ I h=>wpAny_Constant_int ⟨.int i,H,I.tok _,⟨_,rfl⟩,h⟩
theorem pe_bl {b j pos}:PE X (.Constant (.bool b) j pos) (tC (.bl b)):=fun _ _ _ H _ I h=>Constant_bool ⟨.bl b,H,I,rfl,h⟩
theorem pe_non {j pos}:PE X (.Constant .none j pos) (tC .non):=fun _ _ _ H _ I h=>Constant_none ⟨.non,H,I,rfl,h⟩
theorem pe_str {x j pos}:PE X (.Constant (.str x) j pos) (tC (.str x)):=fun _ _ _ H _ I h=>Calls.Constant_str ⟨.str x,H,I.tok _,⟨_,rfl⟩,h⟩

noncomputable def Gl (X:Cx) (x:Str):Prop:=X.env.kindOf x=some .globalImplicit
theorem ld_glob {E:Value→Shared→Prop} {pins:List (Addr×Obj)} {s:Shared} {σ:St} {H:Hp} {x:Str} {u:Value} {pos:Pos} {Q:Value→Shared→Prop} (I:Inv X pins σ H s) (hg:Gl X x) (hm:X.mg x=some u) (h:Q u s)
    (hd:autoParam ((x==("__debug__":Str))=false) au1_._auto_1):wpAny (model X.prog X.w) X.A (eval (.Name x pos) X.env) Q E s:=
  Calls.Name_function_global I.ok.kind hg (Calls.loadGlobal_global (by rw [I.ok.glob];exact I.mod.glob.keeps I.bk) hm h) hd
theorem ld_blt {E:Value→Shared→Prop} {pins:List (Addr×Obj)} {s:Shared} {σ:St} {H:Hp} {x:Str} {u:Value} {pos:Pos} {Q:Value→Shared→Prop} (I:Inv X pins σ H s) (hg:Gl X x) (hm:X.mg x=none) (hv:bootBuiltins x=some u) (h:Q u s)
    (hn:autoParam (x ≠ "__name__") au1_._auto_1) (hd:autoParam ((x==("__debug__":Str))=false) au1_._auto_1):wpAny (model X.prog X.w) X.A (eval (.Name x pos) X.env) Q E s:=by
  obtain ⟨mb,h1,h2⟩:=I.mod.blt
  exact Calls.Name_function_global I.ok.kind hg (Calls.loadGlobal_builtin (by rw [I.ok.glob];exact I.mod.glob.keeps I.bk) hm (by rw [I.ok.blt];exact h1.keeps I.bk) ((h2 x hn).trans hv) h) hd
theorem pe_glob {x:Str} {v:V} {u:Value} {pos:Pos} (hg:Gl X x) (hm:X.mg x=some u) (r:RelV v u) (hd:autoParam ((x==("__debug__":Str))=false) au1_._auto_1):PE X (.Name x pos) (tC v):=
  fun _ _ _ H _ I h=>ld_glob I hg hm ⟨v,H,I,r,h⟩ hd
theorem pe_bltn {x:Str} {v:V} {u:Value} {pos:Pos} (hg:Gl X x) (hm:X.mg x=none) (hv:bootBuiltins x=some u) (r:RelV v u) (hn:autoParam (x ≠ "__name__") au1_._auto_1) (hd:autoParam ((x==("__debug__":Str))=false) au1_._auto_1):PE X (.Name x pos) (tC v):=
  fun _ _ _ H _ I h=>ld_blt I hg hm hv ⟨v,H,I,r,h⟩ hn hd

variable {a b:Expr} {ta tb:TE} {pos:Pos}
noncomputable def tB (t:TE):TT:=fun σ H Q=>t σ H fun x H1=>∃c,x=.bl c∧Q c H1
theorem pt_val {e:Expr} {t:TE} (h:PE X e t) (he:autoParam (∀whole,isTrue e X.env whole=(do let v ← whole;standAt e.pos;holding [v] (truthy v))) au2_._auto_1):PT X e (tB t):=by
  intro pins s σ H Q I hw
  refine isTrue_plain (thn (h pins s σ H _ I hw) fun v s1 ⟨x,H1,I1,r1,q1⟩=>?_) (he _)
  obtain ⟨d,rfl,q⟩:=q1
  cases r1
  exact wpAny_truthy_bool ⟨H1,I1,q⟩

variable {tA tB':TT} {rest:List Expr}
noncomputable def tAnd (t u:TT):TT:=fun σ H Q=>t σ H fun c H1=>if c=true then u σ H1 Q else Q false H1
noncomputable def tOr (t u:TT):TT:=fun σ H Q=>t σ H fun c H1=>if c=true then Q true H1 else u σ H1 Q
noncomputable def tNot (t:TT):TT:=fun σ H Q=>t σ H fun c H1=>Q (!c) H1
theorem pw_and1 (ha:PT X a tA):PW X (.BoolOp .And [a] pos) tA:=by
  intro wh pins s σ H Q I h
  refine isTrue_and (thn (ha pins s σ H Q I h) fun c s1 e=>?_)
  cases c with
  | true=>exact isTrue_and_nil e
  | false=>exact e
theorem pw_or1 (ha:PT X a tA):PW X (.BoolOp .Or [a] pos) tA:=by
  intro wh pins s σ H Q I h
  refine isTrue_or (thn (ha pins s σ H Q I h) fun c s1 e=>?_)
  cases c with
  | false=>exact isTrue_or_nil e
  | true=>exact e
theorem pw_and (ha:PT X a tA) (hb:PW X (.BoolOp .And (b::rest) pos) tB'):PW X (.BoolOp .And (a::b::rest) pos) (tAnd tA tB'):=by
  intro wh pins s σ H Q I h
  refine isTrue_and (thn (ha pins s σ H _ I h) fun c s1 ⟨H1,I1,q1⟩=>?_)
  cases c with
  | true=>exact hb wh pins s1 σ H1 Q I1 q1
  | false=>exact ⟨H1,I1,q1⟩
theorem pw_or (ha:PT X a tA) (hb:PW X (.BoolOp .Or (b::rest) pos) tB'):PW X (.BoolOp .Or (a::b::rest) pos) (tOr tA tB'):=by
  intro wh pins s σ H Q I h
  refine isTrue_or (thn (ha pins s σ H _ I h) fun c s1 ⟨H1,I1,q1⟩=>?_)
  cases c with
  | true=>exact ⟨H1,I1,q1⟩
  | false=>exact hb wh pins s1 σ H1 Q I1 q1
theorem pt_not (ha:PT X a tA):PT X (.UnaryOp .Not a pos) (tNot tA):=by
  intro pins s σ H Q I h
  exact isTrue_not (ha pins s σ H (fun c H1=>Q (!c) H1) I h)
noncomputable def tAndV (ta tb:TE):TE:=fun σ H Q=>ta σ H fun x H1=>∃c,x=.bl c∧if c=true then tb σ H1 Q else Q (.bl false) H1
noncomputable def tOrV (ta tb:TE):TE:=fun σ H Q=>ta σ H fun x H1=>∃c,x=.bl c∧if c=true then Q (.bl true) H1 else tb σ H1 Q
noncomputable def tNotV (ta:TE):TE:=fun σ H Q=>ta σ H fun x H1=>∃c,x=.bl c∧Q (.bl (!c)) H1
theorem pe_one {op} {t:TE} (h:PE X a t):PE X (.BoolOp op [a] pos) t:=fun pins s σ H Q I hw=>BoolOp_one (h pins s σ H Q I hw)
theorem pe_and (ha:PE X a ta) (hb:PE X (.BoolOp .And (b::rest) pos) tb):PE X (.BoolOp .And (a::b::rest) pos) (tAndV ta tb):=by
  intro pins s σ H Q I h
  refine BoolOp_and (thn (ha pins s σ H _ I h) fun v s1 ⟨x,H1,I1,r1,q1⟩=>?_)
  obtain ⟨c,rfl,q1⟩:=q1
  cases r1
  refine wpAny_truthy_bool ?_
  cases c with
  | true=>exact hb pins s1 σ H1 Q I1 q1
  | false=>exact ⟨.bl false,H1,I1,rfl,q1⟩
theorem pe_or (ha:PE X a ta) (hb:PE X (.BoolOp .Or (b::rest) pos) tb):PE X (.BoolOp .Or (a::b::rest) pos) (tOrV ta tb):=by
  intro pins s σ H Q I h
  refine BoolOp_or (thn (ha pins s σ H _ I h) fun v s1 ⟨x,H1,I1,r1,q1⟩=>?_)
  obtain ⟨c,rfl,q1⟩:=q1
  cases r1
  refine wpAny_truthy_bool ?_
  cases c with
  | false=>exact hb pins s1 σ H1 Q I1 q1
  | true=>exact ⟨.bl true,H1,I1,rfl,q1⟩
theorem pe_not (ha:PE X a ta):PE X (.UnaryOp .Not a pos) (tNotV ta):=by
  intro pins s σ H Q I h
  refine UnaryOp_ (thn (ha pins s σ H _ I h) fun v s1 ⟨x,H1,I1,r1,q1⟩=>?_)
  obtain ⟨c,rfl,q1⟩:=q1
  cases r1
  exact not_of (wpAny_truthy_bool ⟨.bl (!c),H1,I1,rfl,q1⟩)
noncomputable def tIf (t:TT) (ta tb:TE):TE:=fun σ H Q=>t σ H fun c H1=>if c=true then ta σ H1 Q else tb σ H1 Q
theorem pe_ifExp {c:Expr} (hc:PT X c tA) (ha:PE X a ta) (hb:PE X b tb):PE X (.IfExp c a b pos) (tIf tA ta tb):=by
  intro pins s σ H Q I h
  refine wpAny_IfExp (thn (hc pins s σ H _ I h) fun d s1 ⟨H1,I1,q1⟩=>?_)
  cases d with
  | true=>exact ha pins s1 σ H1 Q I1 q1
  | false=>exact hb pins s1 σ H1 Q I1 q1
end
end L2

namespace L2
open PySem PySem.Spec PyProof.Rows

noncomputable def SqL (K:PySem.W.Frag) (H:Hp) (a:Addr) (xs:List V):Prop:=
  Rd H a (.lst xs) ∨
    ∃(o:Obj) (its:Array Value) (n:Nat),K.lookup a=some o∧o.cls=.type "list"∧o.dict=none∧o.data=.seq its n∧its.size≤sizeLine∧Vals xs its.toList
noncomputable def SqT (K:PySem.W.Frag) (H:Hp) (a:Addr) (xs:List V):Prop:=
  Rd H a (.tup xs) ∨
    ∃(o:Obj) (its:Array Value) (n:Nat),K.lookup a=some o∧o.cls=.type "tuple"∧o.data=.seq its n∧its.size≤sizeLine∧Vals xs its.toList
noncomputable def absV:Value→Option V
  | .none=>some .non
  | .bool b=>some (.bl b)
  | .int i _=>some (.int i)
  | .str x _=>some (.str x)
  | .bytes b _=>some (.byt b)
  | .float b _=>some (.flt b)
  | .ref a=>some (.ref a)
  | .type n=>some (.ty n)
  | _=>none
theorem RelV.abs {x:V} {u:Value} (r:RelV x u):absV u=some x:=by
  cases x with
  | non=>cases r;rfl
  | bl _=>cases r;rfl
  | int _=>obtain ⟨t,rfl⟩:=r;rfl
  | str _=>obtain ⟨t,rfl⟩:=r;rfl
  | byt _=>obtain ⟨t,rfl⟩:=r;rfl
  | flt _=>obtain ⟨t,rfl⟩:=r;rfl
  | ref _=>cases r;rfl
  | ty _=>cases r;rfl
theorem RelV.inj {x y:V} {u:Value} (r:RelV x u) (q:RelV y u):x=y:=Option.some.inj (r.abs.symm.trans q.abs)
theorem Vals.inj:∀{xs ys:List V} {us:List Value},Vals xs us→Vals ys us→xs=ys
  | _,_,_,.nil,.nil=>rfl
  | _,_,_,.cons r t,.cons r' t'=>by rw [r.inj r',Vals.inj t t']
section
variable {X:Cx} {pins:List (Addr×Obj)} {σ:St} {H:Hp} {s:Shared} {a:Addr} {xs ys:List V}
theorem SqL.of {K:PySem.W.Frag} (h:H a=some (.lst xs)):SqL K H a xs:=.inl (.inl h)
theorem SqT.of {K:PySem.W.Frag} (h:H a=some (.tup xs)):SqT K H a xs:=.inl (.inl h)
theorem Inv.list (I:Inv X pins σ H s) (h:SqL X.K H a xs):∃its:List Value,Vals xs its∧PlainL s.heap a its.toArray∧xs.length≤sizeLine:=by
  rcases h with h | ⟨o,its,n,hk,hc,hd,hs,hz,r⟩
  · obtain ⟨z,its,n,r,e⟩:=h.ok I.hok
    exact ⟨its,r,⟨_,n,e,rfl,rfl,rfl⟩,z⟩
  · refine ⟨its.toList,r,⟨o,n,I.kIn a o hk,hc,hd,by simpa using hs⟩,?_⟩
    have e:=r.length
    simp only [Array.length_toList] at e
    omega
theorem Inv.tuple (I:Inv X pins σ H s) (h:SqT X.K H a xs):∃its:List Value,Vals xs its∧IsTup s.heap a its.toArray∧xs.length≤sizeLine:=by
  rcases h with h | ⟨o,its,n,hk,hc,hs,hz,r⟩
  · obtain ⟨z,its,r,p⟩:=h.ok I.hok
    exact ⟨its,r,p,z⟩
  · refine ⟨its.toList,r,⟨o,I.kIn a o hk,hc,n,by simpa using hs⟩,?_⟩
    have e:=r.length
    simp only [Array.length_toList] at e
    omega
theorem Inv.list_inj (I:Inv X pins σ H s) (h:SqL X.K H a xs) (h':SqL X.K H a ys):xs=ys:=by
  obtain ⟨its,r,⟨o,n,e,_,_,d⟩,_⟩:=I.list h
  obtain ⟨its',r',⟨o',n',e',_,_,d'⟩,_⟩:=I.list h'
  rw [e] at e';cases e'
  rw [d] at d'
  injection d' with d1 _
  have:its=its':=by simpa using congrArg Array.toList d1
  subst this
  exact r.inj r'
theorem Inv.tuple_inj (I:Inv X pins σ H s) (h:SqT X.K H a xs) (h':SqT X.K H a ys):xs=ys:=by
  obtain ⟨its,r,⟨o,e,_,n,d⟩,_⟩:=I.tuple h
  obtain ⟨its',r',⟨o',e',_,n',d'⟩,_⟩:=I.tuple h'
  rw [e] at e';cases e'
  rw [d] at d'
  injection d' with d1 _
  have:its=its':=by simpa using congrArg Array.toList d1
  subst this
  exact r.inj r'
end

noncomputable abbrev Cx.wish (X:Cx) (E:Value→Shared→Prop):Cx:={ X with xe:=E }
noncomputable abbrev Cx.nox (X:Cx):Cx:=X.wish fun _ _=>False
theorem Cx.Ok.wish {X:Cx} (ok:X.Ok) (E:Value→Shared→Prop):(X.wish E).Ok:=
  ⟨ok.mod,ok.kind,ok.glob,ok.blt,ok.above,ok.inj,ok.has,ok.cab,ok.hd,ok.frames,ok.stk,ok.exf,ok.bs,ok.bsz,ok.noex,ok.exfs,ok.funs,ok.frf⟩
theorem Cx.Ok.unwish {X:Cx} {E:Value→Shared→Prop} (ok:(X.wish E).Ok):X.Ok:=
  ⟨ok.mod,ok.kind,ok.glob,ok.blt,ok.above,ok.inj,ok.has,ok.cab,ok.hd,ok.frames,ok.stk,ok.exf,ok.bs,ok.bsz,ok.noex,ok.exfs,ok.funs,ok.frf⟩
section
variable {X:Cx} {pins:List (Addr×Obj)} {σ:St} {H:Hp} {s:Shared} {E:Value→Shared→Prop}
theorem Inv.wish (I:Inv X pins σ H s) (E:Value→Shared→Prop):Inv (X.wish E) pins σ H s:=⟨I.ok.wish E,I.os,I.bare,I.base,I.loc,I.cell,I.free,I.freeC,I.pin,I.hok,I.len⟩
theorem Inv.unwish (I:Inv (X.wish E) pins σ H s):Inv X pins σ H s:=⟨I.ok.unwish,I.os,I.bare,I.base,I.loc,I.cell,I.free,I.freeC,I.pin,I.hok,I.len⟩
theorem SP.unwish {D:Ends} {f:Flow} {s':Shared} (h:SP (X.wish E) pins D f s'):SP X pins D f s':=by
  cases f with
  | next=>obtain ⟨σ',H',I,q⟩:=h;exact ⟨σ',H',I.unwish,q⟩
  | brk=>obtain ⟨σ',H',I,q⟩:=h;exact ⟨σ',H',I.unwish,q⟩
  | cont=>obtain ⟨σ',H',I,q⟩:=h;exact ⟨σ',H',I.unwish,q⟩
  | ret u=>obtain ⟨v,σ',H',I,r,q⟩:=h;exact ⟨v,σ',H',I.unwish,r,q⟩
theorem PSs.nox {st:List Stmt} {t:TS} (h:PSs X.nox st t):PSs X st t:=fun pins s σ H D I hw=>
  wpAny_mono (h pins s σ H D (I.wish _) hw) (fun _ _ q=>q.unwish) fun _ _ z=>False.elim z
end

section
variable {X:Cx} {st:Stmt} {rest:List Stmt} {t u:TS} {e:Expr} {te:TE} {pos:Pos}
noncomputable def tNext:TS:=fun D σ H=>D.nx σ H
noncomputable def tSeq (t u:TS):TS:=fun D σ H=>t { D with nx:=u D } σ H
theorem pss_nil:PSs X [] tNext:=fun _ _ σ H _ I h=>wpAny_execs_nil ⟨σ,H,I,h⟩
theorem pss_cons (h1:PS X st t) (h2:PSs X rest u):PSs X (st::rest) (tSeq t u):=by
  intro pins s σ H D I h
  refine wpAny_execs_cons (thn (h1 pins s σ H { D with nx:=u D } I h) fun f s1 q=>?_)
  cases f with
  | next=>
    obtain ⟨σ',H',I',q⟩:=q
    exact h2 pins s1 σ' H' D I' q
  | ret v=>exact q
  | brk=>exact q
  | cont=>exact q
theorem pss_one (h1:PS X st t):PSs X [st] t:=by
  intro pins s σ H D I h
  refine wpAny_execs_cons (thn (h1 pins s σ H D I h) fun f s1 q=>?_)
  cases f with
  | next=>exact wpAny_execs_nil q
  | ret v=>exact q
  | brk=>exact q
  | cont=>exact q
theorem Inv.quiet {pins:List (Addr×Obj)} {σ:St} {H:Hp} {s:Shared} (I:Inv X pins σ H s):interactive X.env=false:=by simp [interactive,I.ok.kind]
noncomputable def tDrop (te:TE):TS:=fun D σ H=>te σ H fun _ H1=>D.nx σ H1
theorem ps_expr (he:PE X e te) (hs:autoParam (swapsWith e none pos.line X.env=pure false) au0_._auto_1):PS X (.Expr e pos) (tDrop te):=by
  intro pins s σ H D I h
  exact wpAny_Expr_any (thn (he pins s σ H _ I h) fun v s1 ⟨x,H1,I1,r1,q1⟩=>⟨σ,H1,I1,q1⟩) I.quiet hs
noncomputable def tRet (te:TE):TS:=fun D σ H=>te σ H D.rt
theorem ps_ret (he:PE X e te):PS X (.Return (some e) pos) (tRet te):=by
  intro pins s σ H D I h
  exact wpAny_Return_some (thn (he pins s σ H _ I h) fun v s1 ⟨x,H1,I1,r1,q1⟩=>⟨x,σ,H1,I1,r1,q1⟩)
noncomputable def tIfS (c:TT) (t u:TS):TS:=fun D σ H=>c σ H fun b H1=>if b=true then t D σ H1 else u D σ H1
theorem ps_if {c:Expr} {a b:List Stmt} {tc:TT} (hc:PT X c tc) (ha:PSs X a t) (hb:PSs X b u):PS X (.If c a b pos) (tIfS tc t u):=by
  intro pins s σ H D I h
  refine wpAny_If (thn (hc pins s σ H _ I h) fun d s1 ⟨H1,I1,q1⟩=>?_)
  cases d with
  | true=>exact ha pins s1 σ H1 D I1 q1
  | false=>exact hb pins s1 σ H1 D I1 q1
noncomputable def tNever:TS:=fun _ _ _=>False
theorem ps_never:PS X st tNever:=fun _ _ _ _ _ _ h=>h.elim
end

noncomputable abbrev TG:=V→St→Hp→(St→Hp→Prop)→Prop
noncomputable abbrev TGs:=List V→St→Hp→(St→Hp→Prop)→Prop
noncomputable def PG (X:Cx) (target:Expr) (t:TG):Prop:=
  ∀(pins:List (Addr×Obj)) (s:Shared) (σ:St) (H:Hp) (v:V) (u:Value) (Q:St→Hp→Prop),Inv X pins σ H s→RelV v u→t v σ H Q →
    wpAny (model X.prog X.w) X.A (assign target X.env u) (fun _ s'=>∃σ' H',Inv X pins σ' H' s'∧Q σ' H') X.xe s
noncomputable def PGs (X:Cx) (ts:List Expr) (t:TGs):Prop:=
  ∀(pins:List (Addr×Obj)) (s:Shared) (σ:St) (H:Hp) (vs:List V) (us:List Value) (Q:St→Hp→Prop),Inv X pins σ H s→Vals vs us→t vs σ H Q →
    wpAny (model X.prog X.w) X.A (assignInOrder ((assignEach ts X.env).map (·.2)) us) (fun _ s'=>∃σ' H',Inv X pins σ' H' s'∧Q σ' H') X.xe s
noncomputable abbrev TSet:=V→V→V→Hp→(Hp→Prop)→Prop
noncomputable def PSet (X:Cx) (t:TSet):Prop:=
  ∀(pins:List (Addr×Obj)) (s:Shared) (σ:St) (H:Hp) (o i v:V) (ov iv u:Value) (Q:Hp→Prop),Inv X pins σ H s→RelV o ov→RelV i iv→RelV v u→t o i v H Q →
    wpAny (model X.prog X.w) X.A (setItem ov iv u) (fun _ s'=>∃H',Inv X pins σ H' s'∧Q H') X.xe s
section
variable {X:Cx} {pos:Pos}
noncomputable def gName (i:Nat):TG:=fun v σ H Q=>Q (σ.set i (some v)) H
theorem pg_name {i:Nat} {x:Str} (hN:X.N.Nodup) (hi:X.N[i]?=some x) (hx:Loc X.env.scope x) (hf:X.fn x=true∨X.env.scope.names.lookup x=some .local:=by first | exact .inl rfl | exact .inr rfl | assumption):PG X (.Name x pos) (gName i):=by
  intro pins s σ H v u Q I r h
  exact wpAny_assign_Name (store_ok I hN hi hx r (fun s' I'=>⟨_,H,I',h⟩) hf)
noncomputable def gNil:TGs:=fun vs σ H Q=>vs=[]∧Q σ H
noncomputable def gCons (t:TG) (u:TGs):TGs:=fun vs σ H Q=>∃v r,vs=v::r∧t v σ H fun σ' H'=>u r σ' H' Q
theorem pgs_nil:PGs X [] gNil:=by
  intro pins s σ H vs us Q I r h
  obtain ⟨e,h⟩:=h
  subst e
  cases r
  exact assignInOrder_nil ⟨σ,H,I,h⟩
theorem pgs_cons {e:Expr} {es:List Expr} {t:TG} {u:TGs} (h1:PG X e t) (h2:PGs X es u)
    (hs:autoParam ((assignEach (e::es) X.env).map (·.2)=assign e X.env::(assignEach es X.env).map (·.2)) au0_._auto_1):PGs X (e::es) (gCons t u):=by
  intro pins s σ H vs us Q I r h
  obtain ⟨v,vr,e1,h⟩:=h
  subst e1
  cases r with
  | cons r rr=>
    rw [hs]
    refine assignInOrder_cons (thn (h1 pins s σ H _ _ _ I r h) fun _ s1 ⟨σ1,H1,I1,q1⟩=>?_)
    exact h2 pins s1 σ1 H1 _ _ Q I1 rr q1
noncomputable def gTup (K:PySem.W.Frag) (n:Nat) (t:TGs):TG:=fun v σ H Q=>∃a xs,v=.ref a∧SqT K H a xs∧xs.length=n∧t xs σ H Q
theorem pg_tup {es:List Expr} {k:Nat} {t:TGs} {n:Nat} (hc:X.calm=true) (h:PGs X es t)
    (hn:autoParam ((assignEach es X.env).length=n) au0_._auto_1) (hst:autoParam ((assignEach es X.env).findIdx? (·.1)=none) au0_._auto_1):PG X (.Tuple es k pos) (gTup X.K n t):=by
  intro pins s σ H v u Q I r hw
  obtain ⟨a,xs,e1,hq,hl,hw⟩:=hw
  subst e1
  cases r
  obtain ⟨its,rv,ht,hz⟩:=I.tuple hq
  refine assign_Tuple_tuple (I.ok.hd hc) ht (by simp [hn,← hl,rv.length]) hst fun h' hx=>?_
  have I1:Inv X pins σ H { s with heap:=h' }:=I.kept (t':=s.toks) fun b o e=>hx b o (Nat.ne_of_lt (Heap.lt_size e)) e
  exact h pins _ σ H xs _ Q I1 (by simpa using rv) hw
noncomputable def gSub (to ti:TE) (t:TSet):TG:=fun v σ H Q=>to σ H fun o H1=>ti σ H1 fun i H2=>t o i v H2 fun H3=>Q σ H3
theorem pg_sub {o i:Expr} {to ti:TE} {t:TSet} (ho:PE X o to) (hi:PE X i ti) (hs:PSet X t)
    (ha:autoParam (∀v,assign (.Subscript o i pos) X.env v=(do
      let ov ← holding [v] (eval o X.env)
      let iv ← holding [v,ov] (eval i X.env)
      standAt pos
      holding [v,ov,iv] (setItem ov iv v)
      release [v,ov,iv] [])) au2_._auto_1):PG X (.Subscript o i pos) (gSub to ti t):=by
  intro pins s σ H v u Q I r h
  rw [ha]
  refine wpAny_bind (wpAny_holding (thn (ho pins s σ H _ I h) fun ov s1 ⟨x,H1,I1,r1,q1⟩=>?_))
  refine wpAny_bind (wpAny_holding (thn (hi pins s1 σ H1 _ I1 q1) fun iv s2 ⟨y,H2,I2,r2,q2⟩=>?_))
  refine wpAny_bind (wpAny_standAt (wpAny_bind (wpAny_holding (thn (hs pins s2 σ H2 x y v ov iv u _ I2 r1 r2 r q2) fun _ s3 ⟨H3,I3,q3⟩=>?_))))
  exact wpAny_release ⟨σ,H3,I3,q3⟩
noncomputable def tAsg (te:TE) (g:TG):TS:=fun D σ H=>te σ H fun x H1=>g x σ H1 D.nx
theorem ps_asg {tg e:Expr} {te:TE} {g:TG} (he:PE X e te) (hg:PG X tg g) (hs:autoParam (swapsWithSole [tg] e pos.line X.env=pure false) au0_._auto_1) (hw:autoParam (swappedStores [tg] e X.env=pure none) au0_._auto_1)
    (h1:autoParam ((assignEach [tg] X.env).map (·.2)=[assign tg X.env]) au0_._auto_1):PS X (.Assign [tg] e pos) (tAsg te g):=by
  intro pins s σ H D I h
  refine wpAny_Assign_stores (thn (he pins s σ H _ I h) fun v s1 ⟨x,H1,I1,r1,q1⟩=>?_) hs hw
  rw [h1]
  exact thn (hg pins s1 σ H1 x v _ I1 r1 q1) fun _ s2 q=>q
theorem ps_set {i:Nat} {x:Str} {e:Expr} {te:TE} {pos':Pos} (hN:X.N.Nodup) (hi:X.N[i]?=some x) (hx:Loc X.env.scope x) (he:PE X e te) (hs:autoParam (swapsWith e (some (.Name x pos')) pos.line X.env=pure false) au0_._auto_1) (hf:X.fn x=true∨X.env.scope.names.lookup x=some .local:=by first | exact .inl rfl | exact .inr rfl | assumption) :
    PS X (.Assign [.Name x pos'] e pos) (tAsg te (gName i)):=by
  intro pins s σ H D I h
  refine wpAny_Assign_Name (thn (he pins s σ H _ I h) fun v s1 ⟨y,H1,I1,r1,q1⟩=>?_) hs
  exact store_ok I1 hN hi hx r1 (fun s2 I2=>⟨_,H1,I2,q1⟩) hf
noncomputable def tPar (i j:Nat) (ta:TA):TS:=fun D σ H=>ta σ H fun vs H1=>∃v w,vs=[v,w]∧D.nx ((σ.set i (some v)).set j (some w)) H1
theorem ps_par {i j:Nat} {x y:Str} {a b:Expr} {ta:TA} {px py pt:Pos} {kt k2 pt2} (hc:X.calm=true) (hN:X.N.Nodup) (hi:X.N[i]?=some x) (hj:X.N[j]?=some y) (hij:i≠j)
    (hx:X.env.scope.names.lookup x=some .local) (hy:X.env.scope.names.lookup y=some .local) (ha:PA X [a,b] ta)
    (hw:swappedStores [.Tuple [.Name x px,.Name y py] kt pt] (.Tuple [a,b] k2 pt2) X.env=pure (some [x,y]))
    (hs:autoParam (swapsWithSole [.Tuple [.Name x px,.Name y py] kt pt] (.Tuple [a,b] k2 pt2) pos.line X.env=pure false) au0_._auto_1) :
    PS X (.Assign [.Tuple [.Name x px,.Name y py] kt pt] (.Tuple [a,b] k2 pt2) pos) (tPar i j ta):=by
  intro pins s σ H D I h
  rw [exec_Assign_arm]
  refine wpAny_bind (wpAny_standAt ?_)
  rw [hs]
  refine wpAny_bind (wpAny_pure ?_)
  rw [if_neg (by decide)]
  refine wpAny_bind (Tuple_ (thn (ha _ pins s σ H _ I h) fun us s1 ⟨vs,H1,I1,r1,q1⟩=>?_))
  obtain ⟨v,w,e1,q1⟩:=q1
  subst e1
  obtain ⟨u1,u2,rfl,rv,rw'⟩:∃u1 u2,us=[u1,u2]∧RelV v u1∧RelV w u2:=by
    cases r1 with
    | cons p q=>
      cases q with
      | cons p' q'=>
        cases q'
        exact ⟨_,_,rfl,p,p'⟩
  refine wpAny_newObj_type ?_ (by show 2≤sizeLine;decide)
  have I2:Inv X pins σ H1 { s1 with heap:=s1.heap.push { cls:=.type "tuple",data:=.seq [u1,u2].toArray } }:=I1.kept (t':=s1.toks) fun b o e=>Heap.get?_push_of_some _ e
  rw [hw]
  refine wpAny_bind (wpAny_pure ?_)
  show wpAny (model X.prog X.w) X.A (do rule "assign.swapped-stores";let items ← unpackItems (.ref s1.heap.objs.size) 2 none;assignInOrder [fun v=>bindName X.env y v,fun v=>bindName X.env x v] items.reverse;pure Flow.next) _ _ _
  refine wpAny_bind (wpAny_rule (wpAny_bind (unpackItems_tuple (items:=#[u1,u2]) (I.ok.hd hc) (IsTup.new s1.heap _) fun h' hx'=>?_)))
  have I3:=I2.kept (h':=h') (t':=s1.toks) fun b o e=>hx' b o (Nat.ne_of_lt (Heap.lt_size e)) e
  show wpAny _ _ (assignInOrder [fun v=>bindName X.env y v,fun v=>bindName X.env x v] [u2,u1] >>= fun _=>pure Flow.next) _ _ _
  refine wpAny_bind (assignInOrder_cons (wpAny_bindName (store_ok I3 hN hj (.inl hy) rw' (fun s2 I4=>?_) (.inr hy))))
  refine assignInOrder_cons (wpAny_bindName (store_ok I4 hN hi (.inl hx) rv (fun s3 I5=>assignInOrder_nil (wpAny_pure ?_)) (.inr hx)))
  rw [List.set_comm _ _ (Ne.symm hij)] at I5
  exact ⟨_,H1,I5,q1⟩
end

section
variable {X:Cx} {pos:Pos}
noncomputable def tWhile (c:TT) (tb:TS):TS:=fun D σ H=>∃W:Nat→St→Hp→Prop,(∃m,W m σ H)∧∀m σ H,W m σ H →
  c σ H fun b H1=>if b=true then ∃N:St→Hp→Prop,(∀σ' H',N σ' H'→∃m',m'<m∧W m' σ' H')∧tb { D with nx:=N,ct:=N,bk:=D.nx } σ H1 else D.nx σ H1
theorem ps_while {c:Expr} {body:List Stmt} {tc:TT} {tb:TS} (hp:PassesOwn (model X.prog X.w) X.A X.env X.xe) (hc:PT X c tc) (hb:PSs X body tb):PS X (.While c body [] pos) (tWhile tc tb):=by
  intro pins s σ H D I h
  obtain ⟨W,⟨m0,w0⟩,turn⟩:=h
  refine wpAny_While (codeAny_whileLoop (fun n s'=>∃σ' H',Inv X pins σ' H' s'∧W n σ' H') ?_ m0 ⟨σ,H,I,w0⟩)
  rintro n s1 ⟨σ1,H1,I1,w1⟩
  refine wpAny_passesOwn hp (thn (hc pins s1 σ1 H1 _ I1 (turn n σ1 H1 w1)) fun b s2 ⟨H2,I2,q2⟩=>?_)
  cases b with
  | true=>
    obtain ⟨N,hN,q2⟩:=q2
    rw [if_pos rfl]
    refine wpAny_passesOwn hp (thn (hb pins s2 σ1 H2 _ I2 q2) fun f s3 q3=>?_)
    cases f with
    | next=>
      obtain ⟨σ3,H3,I3,n3⟩:=q3
      obtain ⟨m',hm,w3⟩:=hN σ3 H3 n3
      exact ⟨m',hm,σ3,H3,I3,w3⟩
    | cont=>
      obtain ⟨σ3,H3,I3,n3⟩:=q3
      obtain ⟨m',hm,w3⟩:=hN σ3 H3 n3
      exact ⟨m',hm,σ3,H3,I3,w3⟩
    | brk=>exact q3
    | ret v=>exact q3
  | false=>
    rw [if_neg Bool.false_ne_true]
    exact wpAny_execs_nil ⟨σ1,H2,I2,q2⟩
end

structure It where
  go:Nat→Hp→Prop
  yld:Nat→Hp→V→Hp→Prop
  stop:Nat→Hp→Prop
noncomputable def FpOk (X:Cx) (pins:List (Addr×Obj)) (H:Hp) (b:Addr):Prop:=
  H b=none∧b≠X.env.locals∧b∉X.fs∧(b∈X.ex∨X.s₀.heap.objs.size≤b)∧(∀x c,X.env.cells.lookup x=some c→c≠b)∧∀p∈X.pn++pins,p.1≠b
theorem Inv.fpOk {X:Cx} {pins:List (Addr×Obj)} {σ:St} {H H':Hp} {s:Shared} {b:Addr} (I:Inv X pins σ H s) (hb:s.heap.objs.size≤b) (hn:H' b=none):FpOk X pins H' b:=by
  refine ⟨hn,Nat.ne_of_gt (Nat.lt_of_lt_of_le I.lt hb),I.nofs hb,.inr (Nat.le_trans I.sz hb),fun x c e z=>?_,fun p hp z=>?_⟩
  · obtain ⟨v,q⟩:=I.cell x c e
    exact absurd (Nat.lt_of_lt_of_le q.lt (by rw [z];exact hb)) (Nat.lt_irrefl _)
  · exact absurd (Nat.lt_of_lt_of_le (Heap.lt_size (I.pin p hp).1) (by rw [z];exact hb)) (Nat.lt_irrefl _)
structure Turn (P:Program) (w:World) (K:PySem.W.Frag) (tg:Expr) (J:It) (fp:List Addr) (it:Addr) (tn:Nat→Heap→Prop):Prop where
  mem:it∈fp
  obj:∀i h,tn i h→∀b∈fp,∃o,h.get? b=some o∧∀v,o.data≠.cell v
  keep:∀i h h',tn i h→(∀b∈fp,∀o,h.get? b=some o→h'.get? b=some o)→tn i h'
  item:∀(X:Cx),X.prog=P→X.w=w→X.K=K→X.calm=true→∀(i:Nat) (pins:List (Addr×Obj)) (s:Shared) (σ:St) (H:Hp) (E:Value→Shared→Prop),Inv X pins σ H s→(∀b∈fp,FpOk X pins H b)→tn i s.heap→J.go i H →
    wpAny (model P w) X.A (pyNext (.ref it)) (fun r s1=>∃u,r=some u ∧
      wpAny (model P w) X.A (letOwnedTupleGo tg (.ref it) u) (fun _ s2=>∃x H',Inv X pins σ H' s2∧RelV x u∧J.yld i H x H'∧tn (i+1) s2.heap∧∀b∈fp,H' b=none) E s1) E s
  done:∀(X:Cx),X.prog=P→X.w=w→X.K=K→X.calm=true→∀(i:Nat) (pins:List (Addr×Obj)) (s:Shared) (σ:St) (H:Hp) (E:Value→Shared→Prop),Inv X pins σ H s→(∀b∈fp,FpOk X pins H b)→tn i s.heap→J.stop i H →
    wpAny (model P w) X.A (pyNext (.ref it)) (fun r s1=>r=none∧Inv X pins σ H s1) E s
  self:∀(A:Around) (i:Nat) (s:Shared) (Q:Value→Shared→Prop) (E:Value→Shared→Prop),tn i s.heap→Q (.ref it) s→wpAny (model P w) A (pyIter (.ref it)) Q E s
noncomputable abbrev TI:=St→Hp→(It→Hp→Prop)→Prop
noncomputable def PIE (X:Cx) (pins:List (Addr×Obj)) (σ:St) (tg:Expr) (R:It→Hp→Prop) (itv:Value) (s2:Shared):Prop:=
  ∃(it:Addr) (fp:List Addr) (tn:Nat→Heap→Prop) (J:It) (H':Hp),itv=.ref it∧Inv X pins σ H' s2∧Turn X.prog X.w X.K tg J fp it tn∧tn 0 s2.heap∧(∀b∈fp,FpOk X pins H' b)∧R J H'
noncomputable def PI (X:Cx) (tg iter:Expr) (wi:TI):Prop:=
  ∀(pins:List (Addr×Obj)) (s:Shared) (σ:St) (H:Hp) (R:It→Hp→Prop),Inv X pins σ H s→wi σ H R →
    wpAny (model X.prog X.w) X.A (eval iter X.env) (fun v s1=>wpAny (model X.prog X.w) X.A (pyIter v) (PIE X pins σ tg R) X.xe s1) X.xe s

theorem go_of {M:Model} {A:Around} {E:Value→Shared→Prop} {s:Shared} {tg:Expr} {it:Addr} {u:Value} {o:Obj} {n:String} {vs:Array Value} {Q:Unit→Shared→Prop} (ho:s.heap.get? it=some o) (hc:o.cls=.type n) (hd:o.data=.fields vs)
    (hn:["enumerate","zip","dict_itemiterator","dict_reverseitemiterator","odict_iterator","itertools.zip_longest","itertools.pairwise"].contains n=false) (hQ:Q () s):wpAny M A (letOwnedTupleGo tg (.ref it) u) Q E s:=by
  unfold letOwnedTupleGo
  cases tg <;> first
    | exact wpAny_pure hQ
    | (cases u <;> first
        | exact wpAny_pure hQ
        | (refine wpAny_bind (wpAny_load ho ?_)
           rw [hc,hd]
           show wpAny M A (if (["enumerate","zip","dict_itemiterator","dict_reverseitemiterator","odict_iterator","itertools.zip_longest","itertools.pairwise"].contains n&&vs[0]?==some (rawInt _))=true then _ else _) Q E s
           rw [if_neg (by intro h;rw [hn,Bool.false_and] at h;cases h)]
           exact wpAny_pure hQ))

noncomputable def Itl (K:PySem.W.Frag) (a:Addr):It:=
  ⟨fun i H=>∃xs x,SqL K H a xs∧xs[i]?=some x,fun i H x H'=>H'=H∧∀xs,SqL K H a xs→xs[i]?=some x,fun i H=>∃xs,SqL K H a xs∧xs.length≤i⟩
noncomputable def Itt (K:PySem.W.Frag) (a:Addr):It:=
  ⟨fun i H=>∃xs x,SqT K H a xs∧xs[i]?=some x,fun i H x H'=>H'=H∧∀xs,SqT K H a xs→xs[i]?=some x,fun i H=>∃xs,SqT K H a xs∧xs.length≤i⟩
noncomputable def Itr (lo:Int) (n:Nat):It:=⟨fun i _=>i<n,fun i H x H'=>H'=H∧x=.int (lo+i),fun i _=>n≤i⟩
theorem turn_list {P:Program} {w:World} {K:PySem.W.Frag} {tg:Expr} (a it:Addr):Turn P w K tg (Itl K a) [it] it (fun i h=>h.IsListIter it a i) where
  mem:=by simp
  obj:=fun i h st b hb=>by
    have e:b=it:=by simpa using hb
    subst e
    obtain ⟨o,e,c,d⟩:=st
    exact ⟨o,e,fun v z=>by rw [d] at z;cases z⟩
  keep:=fun i h h' st k=>st.at fun o e=>k it (by simp) o e
  item:=by
    intro X hP hw hK hc i pins s σ H E I hf st hg
    subst hP hw hK
    obtain ⟨xs,x,hq,hx⟩:=hg
    obtain ⟨its,rv,p,hz⟩:=I.list hq
    obtain ⟨u,hu,ru⟩:=rv.get hx
    obtain ⟨f0,f1,f2,f3,f4,f5⟩:=hf it (by simp)
    refine wpAny_pyNext_list_item st p.isList (x:=u) (by simpa using hu) fun h' st' sb=>?_
    have I1:Inv X pins σ H { s with heap:=h' }:=I.turned (t':=s.toks) (fun b o hb e=>(sb.2 b hb).trans e) f0 f1 f3 f4 f5
    obtain ⟨o,e,c,d⟩:=id st'
    exact ⟨u,rfl,go_of (s:={ s with heap:=h' }) e c d (by decide) ⟨x,H,I1,ru,⟨rfl,fun ys hy=>by rw [I.list_inj hy hq];exact hx⟩,st',fun b hb=>(hf b hb).1⟩⟩
  done:=by
    intro X hP hw hK hc i pins s σ H E I hf st hg
    subst hP hw hK
    obtain ⟨xs,hq,hx⟩:=hg
    obtain ⟨its,rv,p,hz⟩:=I.list hq
    obtain ⟨f0,f1,f2,f3,f4,f5⟩:=hf it (by simp)
    have hl:=rv.length
    exact wpAny_pyNext_list_end (I.ok.hd hc) st p.isList (by simp;omega) fun h' eb=>⟨rfl,I.turned (t':=s.toks) (fun b o hb e=>eb b o hb e) f0 f1 f3 f4 f5⟩
  self:=fun _ _ _ _ _ st h=>wpAny_pyIter_listiter st h
theorem turn_tuple {P:Program} {w:World} {K:PySem.W.Frag} {tg:Expr} (a it:Addr):Turn P w K tg (Itt K a) [it] it (fun i h=>h.IsTupleIter it a i) where
  mem:=by simp
  obj:=fun i h st b hb=>by
    have e:b=it:=by simpa using hb
    subst e
    obtain ⟨o,e,c,d⟩:=st
    exact ⟨o,e,fun v z=>by rw [d] at z;cases z⟩
  keep:=fun i h h' st k=>st.at fun o e=>k it (by simp) o e
  item:=by
    intro X hP hw hK hc i pins s σ H E I hf st hg
    subst hP hw hK
    obtain ⟨xs,x,hq,hx⟩:=hg
    obtain ⟨its,rv,p,hz⟩:=I.tuple hq
    obtain ⟨u,hu,ru⟩:=rv.get hx
    obtain ⟨f0,f1,f2,f3,f4,f5⟩:=hf it (by simp)
    refine wpAny_pyNext_tuple_item st (show s.heap.IsTuple a its.toArray from p) (x:=u) (by simpa using hu) fun h' st' sb=>?_
    have I1:Inv X pins σ H { s with heap:=h' }:=I.turned (t':=s.toks) (fun b o hb e=>(sb.2 b hb).trans e) f0 f1 f3 f4 f5
    obtain ⟨o,e,c,d⟩:=id st'
    exact ⟨u,rfl,go_of (s:={ s with heap:=h' }) e c d (by decide) ⟨x,H,I1,ru,⟨rfl,fun ys hy=>by rw [I.tuple_inj hy hq];exact hx⟩,st',fun b hb=>(hf b hb).1⟩⟩
  done:=by
    intro X hP hw hK hc i pins s σ H E I hf st hg
    subst hP hw hK
    obtain ⟨xs,hq,hx⟩:=hg
    obtain ⟨its,rv,p,hz⟩:=I.tuple hq
    obtain ⟨f0,f1,f2,f3,f4,f5⟩:=hf it (by simp)
    have hl:=rv.length
    exact wpAny_pyNext_tuple_end (I.ok.hd hc) st (show s.heap.IsTuple a its.toArray from p) (by simp;omega) fun h' eb=>⟨rfl,I.turned (t':=s.toks) (fun b o hb e=>eb b o hb e) f0 f1 f3 f4 f5⟩
  self:=fun _ _ _ _ _ st h=>wpAny_pyIter_tupleiter st h
theorem turn_range {P:Program} {w:World} {K:PySem.W.Frag} {tg:Expr} (it:Addr) (lo:Int) (n:Nat):Turn P w K tg (Itr lo n) [it] it (fun i h=>IsRangeIter h it (lo+(i:Nat)*1) ((n:Int)-(i:Nat)) 1) where
  mem:=by simp
  obj:=fun i h st b hb=>by
    have e:b=it:=by simpa using hb
    subst e
    exact ⟨_,st,fun v z=>by
      have z':Data.fields _=Data.cell v:=z
      cases z'⟩
  keep:=fun i h h' st k=>k it (by simp) _ st
  item:=by
    intro X hP hw hK hc i pins s σ H E I hf st hg
    subst hP hw hK
    obtain ⟨f0,f1,f2,f3,f4,f5⟩:=hf it (by simp)
    have W:=Walks.range (prog:=X.prog) (w:=X.w) (I.ok.hd hc) it lo 1 n
    refine W.item i s _ _ hg st fun v h' tk hv st' kk=>?_
    obtain ⟨t,rfl⟩:=hv
    have I1:Inv X pins σ H { s with heap:=h',toks:=tk }:=I.turned (fun b o hb e=>kk b o (by simpa using hb) e) f0 f1 f3 f4 f5
    refine ⟨_,rfl,go_of (s:={ s with heap:=h',toks:=tk }) (n := "range_iterator") st' rfl rfl (by decide) ⟨.int (lo+i),H,I1,⟨t,?_⟩,⟨rfl,rfl⟩,st',fun b hb=>(hf b hb).1⟩⟩
    rw [Int.mul_one]
  done:=by
    intro X hP hw hK hc i pins s σ H E I hf st hg
    subst hP hw hK
    obtain ⟨f0,f1,f2,f3,f4,f5⟩:=hf it (by simp)
    exact wpAny_pyNext_range_end (I.ok.hd hc) st (by have:n≤i:=hg;omega) fun h' eb=>⟨rfl,I.turned (t':=s.toks) (fun b o hb e=>eb b o hb e) f0 f1 f3 f4 f5⟩
  self:=fun _ _ _ _ _ st h=>wpAny_pyIter_rangeiter st h
end L2

namespace L2
open PySem PySem.Spec PyProof.Rows
section
variable {X:Cx} {tg:Expr}
noncomputable def iList (K:PySem.W.Frag) (tl:TE):TI:=fun σ H R=>tl σ H fun x H1=>∃a,x=.ref a∧(∃xs,SqL K H1 a xs)∧R (Itl K a) H1
noncomputable def iTup (K:PySem.W.Frag) (tl:TE):TI:=fun σ H R=>tl σ H fun x H1=>∃a,x=.ref a∧(∃xs,SqT K H1 a xs)∧R (Itt K a) H1
theorem pi_list {l:Expr} {tl:TE} (hl:PE X l tl):PI X tg l (iList X.K tl):=by
  intro pins s σ H R I h
  refine thn (hl pins s σ H _ I h) fun v s1 ⟨x,H1,I1,r1,q1⟩=>?_
  obtain ⟨a,e,⟨xs,hq⟩,q⟩:=q1
  subst e
  cases r1
  obtain ⟨its,rv,p,hz⟩:=I1.list hq
  refine wpAny_pyIter_list p.isList ?_
  refine ⟨s1.heap.objs.size,[s1.heap.objs.size],_,_,H1,rfl,I1.kept (t':=s1.toks) fun b o e=>Heap.get?_push_of_some _ e,turn_list a _,⟨_,Heap.get?_push_size _ rfl,rfl,rfl⟩,fun b hb=>?_,q⟩
  have e:b=s1.heap.objs.size:=by simpa using hb
  subst e
  exact I1.fpOk (Nat.le_refl _) (I1.hok.fresh (Nat.le_refl _))
theorem pi_tup {l:Expr} {tl:TE} (hl:PE X l tl):PI X tg l (iTup X.K tl):=by
  intro pins s σ H R I h
  refine thn (hl pins s σ H _ I h) fun v s1 ⟨x,H1,I1,r1,q1⟩=>?_
  obtain ⟨a,e,⟨xs,hq⟩,q⟩:=q1
  subst e
  cases r1
  obtain ⟨its,rv,p,hz⟩:=I1.tuple hq
  refine wpAny_pyIter_tuple (show s1.heap.IsTuple a its.toArray from p) ?_
  refine ⟨s1.heap.objs.size,[s1.heap.objs.size],_,_,H1,rfl,I1.kept (t':=s1.toks) fun b o e=>Heap.get?_push_of_some _ e,turn_tuple a _,⟨_,Heap.get?_push_size _ rfl,rfl,rfl⟩,fun b hb=>?_,q⟩
  have e:b=s1.heap.objs.size:=by simpa using hb
  subst e
  exact I1.fpOk (Nat.le_refl _) (I1.hok.fresh (Nat.le_refl _))
theorem range_it {pins:List (Addr×Obj)} {σ:St} {H:Hp} {s:Shared} {R:It→Hp→Prop} {E:Value→Shared→Prop} {lo hi:Int} {t u v:Tok} {tk:Nat} (I:Inv X pins σ H s) (h1:-(2 ^ 62)≤lo) (h2:lo<2 ^ 62) (h3:-(2 ^ 62)≤hi) (h4:hi<2 ^ 62)
    (q:R (Itr lo (hi-lo).toNat) H):wpAny (model X.prog X.w) X.A (pyIter (.ref s.heap.objs.size)) (PIE X pins σ tg R) E { s with heap:=s.heap.push { cls:=.type "range",data:=.fields #[.int lo t,.int hi u,.int 1 v] },toks:=tk }:=by
  refine wpAny_pyIter_range (IsRange.new ..) (small_one h1 h2 h3 h4) ?_
  have I1:Inv X pins σ H { s with heap:=s.heap.push { cls:=.type "range",data:=.fields #[.int lo t,.int hi u,.int 1 v] },toks:=tk }:=I.kept fun b o e=>Heap.get?_push_of_some _ e
  refine ⟨(s.heap.push { cls:=.type "range",data:=.fields #[.int lo t,.int hi u,.int 1 v] }).objs.size,[(s.heap.push { cls:=.type "range",data:=.fields #[.int lo t,.int hi u,.int 1 v] }).objs.size],_,_,H,rfl,
    I1.kept (t':=tk) fun b o e=>Heap.get?_push_of_some _ e,turn_range _ lo (hi-lo).toNat,?_,fun b hb=>?_,q⟩
  · have e1:lo+((0:Nat):Int)*1=lo:=by simp
    have e2:(((hi-lo).toNat:Nat):Int)-((0:Nat):Int)=Builtin.Range.rangeSize lo hi 1:=by rw [rangeSize_one];split <;> omega
    show IsRangeIter _ _ (lo+((0:Nat):Int)*1) ((((hi-lo).toNat:Nat):Int)-((0:Nat):Int)) 1
    rw [e1,e2]
    exact Heap.get?_push_size _ rfl
  · have e:b=(s.heap.push { cls:=.type "range",data:=.fields #[.int lo t,.int hi u,.int 1 v] }).objs.size:=by simpa using hb
    subst e
    exact I1.fpOk (Nat.le_refl _) (I1.hok.fresh (Nat.le_refl _))
noncomputable def iRng1 (ta:TA):TI:=fun σ H R=>ta σ H fun vs H1=>∃j:Int,vs=[.int j]∧-(2 ^ 62)≤j∧j<2 ^ 62∧R (Itr 0 j.toNat) H1
noncomputable def iRng2 (ta:TA):TI:=fun σ H R=>ta σ H fun vs H1=>∃i j:Int,vs=[.int i,.int j]∧(-(2 ^ 62)≤i∧i<2 ^ 62∧-(2 ^ 62)≤j∧j<2 ^ 62)∧R (Itr i (j-i).toNat) H1
theorem pi_range1 {a:Expr} {ta:TA} {p pos:Pos} (hg:Gl X "range") (hm:X.mg "range"=none) (ha:PA X [a] ta) (hs:autoParam (starEach [a] X.env=[(false,eval a X.env)]) au0_._auto_1):PI X tg (.Call (.Name "range" p) [a] [] pos) (iRng1 ta):=by
  intro pins s σ H R I h
  refine Call_ (ld_blt I hg hm boot_range (PyProof.Rows.callWith_type1 (thn (ha pos pins s σ H _ I h) fun us s1 ⟨vs,H1,I1,r1,q1⟩=>?_) hs rfl))
  obtain ⟨j,e,q1,q2,q⟩:=q1
  subst e
  cases r1 with
  | cons r rr=>
    cases rr
    obtain ⟨t,rfl⟩:=r
    exact call_range_1 (range_it I1 (by omega) (by omega) q1 q2 (by simpa using q))
theorem pi_range2 {a b:Expr} {ta:TA} {p pos:Pos} (hg:Gl X "range") (hm:X.mg "range"=none) (ha:PA X [a,b] ta) (hs:autoParam (starEach [a,b] X.env=[(false,eval a X.env),(false,eval b X.env)]) au0_._auto_1) (hs2:autoParam (starEach [b] X.env=[(false,eval b X.env)]) au0_._auto_1) :
    PI X tg (.Call (.Name "range" p) [a,b] [] pos) (iRng2 ta):=by
  intro pins s σ H R I h
  refine Call_ (ld_blt I hg hm boot_range (PyProof.Rows.callWith_type1 (thn (ha pos pins s σ H _ I h) fun us s1 ⟨vs,H1,I1,r1,q1⟩=>?_) (by rw [hs,hs2]) (by rw [hs2];rfl)))
  obtain ⟨i,j,e,⟨q1,q2,q3,q4⟩,q⟩:=q1
  subst e
  cases r1 with
  | cons r rr=>
    cases rr with
    | cons r' rr=>
      cases rr
      obtain ⟨t,rfl⟩:=r
      obtain ⟨t',rfl⟩:=r'
      exact call_range_2 (range_it I1 q1 q2 q3 q4 q)

noncomputable def tFor (wi:TI) (g:TG) (tb:TS):TS:=fun D σ H=>wi σ H fun J H1=>∃W:Nat→Nat→St→Hp→Prop,(∃m,W 0 m σ H1)∧∀i m σ H,W i m σ H →
  (J.stop i H∧D.nx σ H)∨(J.go i H∧∃N:St→Hp→Prop,(∀σ' H',N σ' H'→∃m',m'<m∧W (i+1) m' σ' H')∧∀x H',J.yld i H x H'→g x σ H' fun σ2 H2=>tb { D with nx:=N,ct:=N,bk:=D.nx } σ2 H2)
noncomputable def pinsAt (fp:List Addr) (h:Heap):List (Addr×Obj):=fp.filterMap fun b=>(h.get? b).map fun o=>(b,o)
theorem mem_pinsAt {fp:List Addr} {h:Heap} {b:Addr} {o:Obj} (hb:b∈fp) (e:h.get? b=some o):(b,o)∈pinsAt fp h:=List.mem_filterMap.mpr ⟨b,hb,by rw [e];rfl⟩
theorem of_pinsAt {fp:List Addr} {h:Heap} {p:Addr×Obj} (hp:p∈pinsAt fp h):p.1∈fp∧h.get? p.1=some p.2:=by
  obtain ⟨b,hb,e⟩:=List.mem_filterMap.mp hp
  cases q:h.get? b with
  | none=>rw [q] at e;cases e
  | some o=>
    rw [q] at e
    have e':(b,o)=p:=Option.some.inj e
    subst e'
    exact ⟨hb,q⟩
theorem Inv.pinned {pins:List (Addr×Obj)} {σ:St} {H:Hp} {s:Shared} {fp:List Addr} (I:Inv X pins σ H s) (hf:∀b∈fp,FpOk X pins H b) (ho:∀b∈fp,∃o,s.heap.get? b=some o∧∀v,o.data≠.cell v):Inv X (pins++pinsAt fp s.heap) σ H s:=
  I.pins_of fun p hp=>(List.mem_append.mp hp).elim (fun z=>I.pin p (List.mem_append_right _ z)) fun z=>by
    obtain ⟨hb,e⟩:=of_pinsAt z
    obtain ⟨f0,f1,f2,_⟩:=hf p.1 hb
    obtain ⟨o,e',d⟩:=ho p.1 hb
    rw [e] at e';cases e'
    exact ⟨e,f0,f1,f2,d⟩
theorem Inv.unpinned {pins pl:List (Addr×Obj)} {σ:St} {H:Hp} {s:Shared} (I:Inv X (pins++pl) σ H s):Inv X pins σ H s:=I.pins_of fun p hp=>I.pin p (List.mem_append_right _ (List.mem_append_left _ hp))
theorem ps_for {iter:Expr} {body:List Stmt} {wi:TI} {g:TG} {tb:TS} {pos:Pos} (hp:PassesOwn (model X.prog X.w) X.A X.env X.xe) (hc:X.calm=true) (hi:PI X tg iter wi) (hg:PG X tg g) (hb:PSs X body tb)
    (hs:autoParam (∀x,foldedSetIterable iter X.env x=pure x) au2_._auto_1):PS X (.For tg iter body [] pos) (tFor wi g tb):=by
  intro pins s σ H D I h
  refine wpAny_For (thn (hi pins s σ H _ I h) fun v s1 h1=>thn h1 fun itv s2 h2=>?_) hs
  obtain ⟨it,fp,tn,J,H2,e,I2,T,st2,f2,W,⟨m0,w0⟩,turn⟩:=h2
  subst e
  -- what stays true of the iterator's objects through the loop
  have stat:∀{H':Hp},(∀b∈fp,H' b=none)→∀b∈fp,FpOk X pins H' b:=fun hn b hb=>⟨hn b hb,(f2 b hb).2⟩
  refine codeAny_forLoop_any (fun n s'=>∃i σ' H',Inv X pins σ' H' s'∧tn i s'.heap∧(∀b∈fp,H' b=none)∧W i n σ' H') ?_ m0 ⟨0,σ,H2,I2,st2,fun b hb=>(f2 b hb).1,w0⟩
  rintro n s3 ⟨i,σ3,H3,I3,st3,fr3,w3⟩
  rcases turn i n σ3 H3 w3 with ⟨stop,qn⟩ | ⟨go,N,hN,step⟩
  · refine wpAny_passesOwn hp (thn (T.done X rfl rfl rfl hc i pins s3 σ3 H3 X.xe I3 (stat fr3) st3 stop) fun r s4 ⟨hr,I4⟩=>?_)
    subst hr
    exact wpAny_execs_nil ⟨σ3,H3,I4,qn⟩
  · refine wpAny_passesOwn hp (thn (T.item X rfl rfl rfl hc i pins s3 σ3 H3 X.xe I3 (stat fr3) st3 go) fun r s4 ⟨u,hr,h4⟩=>?_)
    subst hr
    refine wpAny_passesOwn hp (thn h4 fun _ s5 ⟨x,H5,I5,r5,y5,st5,fr5⟩=>?_)
    have I5':=I5.pinned (stat fr5) (T.obj _ _ st5)
    refine wpAny_passesOwn hp (thn (hg _ s5 σ3 H5 x u _ I5' r5 (step x H5 y5)) fun _ s6 ⟨σ6,H6,I6,q6⟩=>?_)
    refine wpAny_passesOwn hp (thn (hb _ s6 σ6 H6 _ I6 q6) fun f s7 q7=>?_)
    have again:∀{σ7:St} {H7:Hp},Inv X (pins++pinsAt fp s5.heap) σ7 H7 s7→N σ7 H7→∃m,m<n∧∃i σ' H',Inv X pins σ' H' s7∧tn i s7.heap∧(∀b∈fp,H' b=none)∧W i m σ' H':=fun {σ7 H7} I7 n7=>by
      obtain ⟨m',hm,w7⟩:=hN σ7 H7 n7
      refine ⟨m',hm,i+1,σ7,H7,I7.unpinned,T.keep _ _ _ st5 fun b hb o e=>(I7.pin (b,o) (List.mem_append_right _ (List.mem_append_right _ (mem_pinsAt hb e)))).1,fun b hb=>?_,w7⟩
      obtain ⟨o,e,d⟩:=T.obj _ _ st5 b hb
      exact (I7.pin (b,o) (List.mem_append_right _ (List.mem_append_right _ (mem_pinsAt hb e)))).2.1
    cases f with
    | next=>obtain ⟨σ7,H7,I7,n7⟩:=q7;exact again I7 n7
    | cont=>obtain ⟨σ7,H7,I7,n7⟩:=q7;exact again I7 n7
    | brk=>obtain ⟨σ7,H7,I7,q7⟩:=q7;exact ⟨σ7,H7,I7.unpinned,q7⟩
    | ret v=>obtain ⟨x7,σ7,H7,I7,r7,q7⟩:=q7;exact ⟨x7,σ7,H7,I7.unpinned,r7,q7⟩
end

theorem for_list {K:PySem.W.Frag} {a:Addr} {xs:List V} {g:TG} {tb:TS} {D:Ends} {σ:St} {H:Hp} (Pv:Nat→St→Hp→Prop) (h0:Pv 0 σ H) (hl:∀i σ H,i≤xs.length→Pv i σ H→SqL K H a xs)
    (hs:∀i x σ H,xs[i]?=some x→Pv i σ H→g x σ H fun σ2 H2=>tb { D with nx:=Pv (i+1),ct:=Pv (i+1),bk:=D.nx } σ2 H2) (hd:∀σ H,Pv xs.length σ H→D.nx σ H) :
    ∃W:Nat→Nat→St→Hp→Prop,(∃m,W 0 m σ H)∧∀i m σ H,W i m σ H →
      ((Itl K a).stop i H∧D.nx σ H)∨((Itl K a).go i H∧∃N:St→Hp→Prop,(∀σ' H',N σ' H'→∃m',m'<m∧W (i+1) m' σ' H')∧∀x H',(Itl K a).yld i H x H'→g x σ H' fun σ2 H2=>tb { D with nx:=N,ct:=N,bk:=D.nx } σ2 H2):=by
  refine ⟨fun i m σ H=>m=xs.length-i∧i≤xs.length∧Pv i σ H,⟨xs.length,by simp,Nat.zero_le _,h0⟩,?_⟩
  rintro i m σ H ⟨rfl,hi,p⟩
  have q:=hl i σ H hi p
  by_cases hlt:i<xs.length
  · refine .inr ⟨⟨xs,xs[i],q,by simp [hlt]⟩,Pv (i+1),fun σ' H' p'=>⟨xs.length-(i+1),by omega,rfl,hlt,p'⟩,fun x H' y=>?_⟩
    obtain ⟨e,y⟩:=y
    subst e
    exact hs i x σ _ (y xs q) p
  · have e:i=xs.length:=by omega
    subst e
    exact .inl ⟨⟨xs,q,Nat.le_refl _⟩,hd σ H p⟩
theorem for_tup {K:PySem.W.Frag} {a:Addr} {xs:List V} {g:TG} {tb:TS} {D:Ends} {σ:St} {H:Hp} (Pv:Nat→St→Hp→Prop) (h0:Pv 0 σ H) (hl:∀i σ H,i≤xs.length→Pv i σ H→SqT K H a xs)
    (hs:∀i x σ H,xs[i]?=some x→Pv i σ H→g x σ H fun σ2 H2=>tb { D with nx:=Pv (i+1),ct:=Pv (i+1),bk:=D.nx } σ2 H2) (hd:∀σ H,Pv xs.length σ H→D.nx σ H) :
    ∃W:Nat→Nat→St→Hp→Prop,(∃m,W 0 m σ H)∧∀i m σ H,W i m σ H →
      ((Itt K a).stop i H∧D.nx σ H)∨((Itt K a).go i H∧∃N:St→Hp→Prop,(∀σ' H',N σ' H'→∃m',m'<m∧W (i+1) m' σ' H')∧∀x H',(Itt K a).yld i H x H'→g x σ H' fun σ2 H2=>tb { D with nx:=N,ct:=N,bk:=D.nx } σ2 H2):=by
  refine ⟨fun i m σ H=>m=xs.length-i∧i≤xs.length∧Pv i σ H,⟨xs.length,by simp,Nat.zero_le _,h0⟩,?_⟩
  rintro i m σ H ⟨rfl,hi,p⟩
  have q:=hl i σ H hi p
  by_cases hlt:i<xs.length
  · refine .inr ⟨⟨xs,xs[i],q,by simp [hlt]⟩,Pv (i+1),fun σ' H' p'=>⟨xs.length-(i+1),by omega,rfl,hlt,p'⟩,fun x H' y=>?_⟩
    obtain ⟨e,y⟩:=y
    subst e
    exact hs i x σ _ (y xs q) p
  · have e:i=xs.length:=by omega
    subst e
    exact .inl ⟨⟨xs,q,Nat.le_refl _⟩,hd σ H p⟩
theorem for_range {lo:Int} {n:Nat} {g:TG} {tb:TS} {D:Ends} {σ:St} {H:Hp} (Pv:Nat→St→Hp→Prop) (h0:Pv 0 σ H)
    (hs:∀i σ H,i<n→Pv i σ H→g (.int (lo+i)) σ H fun σ2 H2=>tb { D with nx:=Pv (i+1),ct:=Pv (i+1),bk:=D.nx } σ2 H2) (hd:∀σ H,Pv n σ H→D.nx σ H) :
    ∃W:Nat→Nat→St→Hp→Prop,(∃m,W 0 m σ H)∧∀i m σ H,W i m σ H →
      ((Itr lo n).stop i H∧D.nx σ H)∨((Itr lo n).go i H∧∃N:St→Hp→Prop,(∀σ' H',N σ' H'→∃m',m'<m∧W (i+1) m' σ' H')∧∀x H',(Itr lo n).yld i H x H'→g x σ H' fun σ2 H2=>tb { D with nx:=N,ct:=N,bk:=D.nx } σ2 H2):=by
  refine ⟨fun i m σ H=>m=n-i∧i≤n∧Pv i σ H,⟨n,by simp,Nat.zero_le _,h0⟩,?_⟩
  rintro i m σ H ⟨rfl,hi,p⟩
  by_cases hlt:i<n
  · refine .inr ⟨hlt,Pv (i+1),fun σ' H' p'=>⟨n-(i+1),by omega,rfl,hlt,p'⟩,fun x H' y=>?_⟩
    obtain ⟨e,y⟩:=y
    subst e y
    exact hs i σ _ hlt p
  · have e:i=n:=by omega
    subst e
    exact .inl ⟨Nat.le_refl _,hd σ H p⟩
theorem while_by {c:TT} {tb:TS} {D:Ends} {σ:St} {H:Hp} (Pv:St→Hp→Prop) (μ:St→Hp→Nat) (h0:Pv σ H)
    (hs:∀σ H,Pv σ H→c σ H fun b H1=>if b=true then tb { D with nx:=fun σ' H'=>Pv σ' H'∧μ σ' H'<μ σ H,ct:=fun σ' H'=>Pv σ' H'∧μ σ' H'<μ σ H,bk:=D.nx } σ H1 else D.nx σ H1)
    (mono:∀σ H Q Q',(∀b H1,Q b H1→Q' b H1)→c σ H Q→c σ H Q'):tWhile c tb D σ H:=by
  refine ⟨fun m σ H=>m=μ σ H∧Pv σ H,⟨_,rfl,h0⟩,?_⟩
  rintro m σ H ⟨rfl,p⟩
  refine mono σ H _ _ (fun b H1 q=>?_) (hs σ H p)
  cases b with
  | true=>exact ⟨_,fun σ' H' ⟨p',l⟩=>⟨_,l,rfl,p'⟩,q⟩
  | false=>exact q
end L2

namespace L2
open PySem PySem.Spec PyProof.Rows

noncomputable abbrev R2:=V→V→Hp→VK→Prop
noncomputable def OpR (X:Cx) (f:Value→Value→Sem Value) (r:R2):Prop:=
  ∀(pins:List (Addr×Obj)) (s:Shared) (σ:St) (H:Hp) (x y:V) (v u:Value) (Q:VK),Inv X pins σ H s→RelV x v→RelV y u→r x y H Q →
    wpAny (model X.prog X.w) X.A (f v u) (EP X pins σ Q) X.xe s
noncomputable def UnR (X:Cx) (f:Value→Sem Value) (r:V→Hp→VK→Prop):Prop:=
  ∀(pins:List (Addr×Obj)) (s:Shared) (σ:St) (H:Hp) (x:V) (v:Value) (Q:VK),Inv X pins σ H s→RelV x v→r x H Q →
    wpAny (model X.prog X.w) X.A (f v) (EP X pins σ Q) X.xe s
noncomputable def CallR (X:Cx) (f:Value) (r:List V→Hp→VK→Prop):Prop:=
  ∀(pins:List (Addr×Obj)) (s:Shared) (σ:St) (H:Hp) (xs:List V) (us:List Value) (Q:VK),Inv X pins σ H s→Vals xs us→r xs H Q →
    wpAny (model X.prog X.w) X.A (call f us) (EP X pins σ Q) X.xe s
noncomputable def tOp (r:R2) (ta tb:TE):TE:=fun σ H Q=>ta σ H fun x H1=>tb σ H1 fun y H2=>r x y H2 Q
noncomputable def tUn (r:V→Hp→VK→Prop) (ta:TE):TE:=fun σ H Q=>ta σ H fun x H1=>r x H1 Q
noncomputable def rI (C:Int→Int→Prop) (g:Int→Int→V):R2:=fun x y H Q=>∃i j,x=.int i∧y=.int j∧C i j∧Q (g i j) H
noncomputable def rI0 (g:Int→Int→V):R2:=fun x y H Q=>∃i j,x=.int i∧y=.int j∧Q (g i j) H
noncomputable def rU (g:Int→V):V→Hp→VK→Prop:=fun x H Q=>∃i,x=.int i∧Q (g i) H

section
variable {X:Cx} {a b c:Expr} {ta tb tc:TE} {pos:Pos}

theorem binT (ha:PE X a ta) (hb:PE X b tb) {pins:List (Addr×Obj)} {s:Shared} {σ:St} {H:Hp} {R:V→V→Hp→Prop} (I:Inv X pins σ H s)
    (h:ta σ H fun x H1=>tb σ H1 fun y H2=>R x y H2) {Q:Value→Shared→Prop} {f:Value→Value→Sem Value}
    (hf:∀v u s2 x y H2,Inv X pins σ H2 s2→RelV x v→RelV y u→R x y H2→wpAny (model X.prog X.w) X.A (f v u) Q X.xe s2) :
    wpAny (model X.prog X.w) X.A (eval a X.env) (fun v s₁=>wpAny (model X.prog X.w) X.A (eval b X.env) (fun u s₂=>wpAny (model X.prog X.w) X.A (f v u) Q X.xe s₂) X.xe s₁) X.xe s:=by
  refine thn (ha pins s σ H _ I h) fun v s1 ⟨x,H1,I1,r1,q1⟩=>?_
  refine thn (hb pins s1 σ H1 _ I1 q1) fun u s2 ⟨y,H2,I2,r2,q2⟩=>?_
  exact hf v u s2 x y H2 I2 r1 r2 q2

theorem pe_op {op:Operator} {r:R2} (ho:OpR X (binaryOp op) r) (ha:PE X a ta) (hb:PE X b tb):PE X (.BinOp a op b pos) (tOp r ta tb):=by
  intro pins s σ H Q I h
  exact wpAny_BinOp (binT ha hb I h fun v u s2 x y H2 I2 rx ry q=>ho pins s2 σ H2 x y v u Q I2 rx ry q)
theorem pe_un {op:UnaryOp} {r:V→Hp→VK→Prop} (ho:UnR X (unaryOp op) r) (ha:PE X a ta):PE X (.UnaryOp op a pos) (tUn r ta):=by
  intro pins s σ H Q I h
  exact UnaryOp_ (thn (ha pins s σ H _ I h) fun v s1 ⟨x,H1,I1,r1,q1⟩=>ho pins s1 σ H1 x v Q I1 r1 q1)
theorem opI {f:Value→Value→Sem Value} {C:Int→Int→Prop} {g:Int→Int→Int}
    (rule:∀(i j:Int) (t u:Tok) (s:Shared) (Q:Value→Shared→Prop) (E:Value→Shared→Prop),C i j→Q (.int (g i j) s.toks) { s with toks:=s.toks+1 }→wpAny (model X.prog X.w) X.A (f (.int i t) (.int j u)) Q E s) :
    OpR X f (rI C fun i j=>.int (g i j)):=by
  intro pins s σ H x y v u Q I rx ry h
  obtain ⟨i,j,rfl,rfl,hc,q⟩:=h
  obtain ⟨t,rfl⟩:=rx
  obtain ⟨t',rfl⟩:=ry
  exact rule i j t t' s _ _ hc ⟨.int (g i j),H,I.tok _,⟨_,rfl⟩,q⟩
theorem opI0 {f:Value→Value→Sem Value} {g:Int→Int→Int}
    (rule:∀(i j:Int) (t u:Tok) (s:Shared) (Q:Value→Shared→Prop) (E:Value→Shared→Prop),Q (.int (g i j) s.toks) { s with toks:=s.toks+1 }→wpAny (model X.prog X.w) X.A (f (.int i t) (.int j u)) Q E s) :
    OpR X f (rI0 fun i j=>.int (g i j)):=by
  intro pins s σ H x y v u Q I rx ry h
  obtain ⟨i,j,rfl,rfl,q⟩:=h
  obtain ⟨t,rfl⟩:=rx
  obtain ⟨t',rfl⟩:=ry
  exact rule i j t t' s _ _ ⟨.int (g i j),H,I.tok _,⟨_,rfl⟩,q⟩
theorem opB0 {f:Value→Value→Sem Value} {g:Int→Int→Bool}
    (rule:∀(i j:Int) (t u:Tok) (s:Shared) (Q:Value→Shared→Prop) (E:Value→Shared→Prop),Q (.bool (g i j)) s→wpAny (model X.prog X.w) X.A (f (.int i t) (.int j u)) Q E s) :
    OpR X f (rI0 fun i j=>.bl (g i j)):=by
  intro pins s σ H x y v u Q I rx ry h
  obtain ⟨i,j,rfl,rfl,q⟩:=h
  obtain ⟨t,rfl⟩:=rx
  obtain ⟨t',rfl⟩:=ry
  exact rule i j t t' s _ _ ⟨.bl (g i j),H,I,rfl,q⟩

noncomputable def CPow (i j:Int):Prop:=0≤j∧j≤1000000∧i.natAbs<2 ^ 64
noncomputable def CMul (i j:Int):Prop:=(-(2 ^ 64)<i∧i<2 ^ 64)∨(-(2 ^ 64)<j∧j<2 ^ 64)
theorem CMul.ok {i j:Int} (h:CMul i j):IntMulOk i j:=by
  rcases h with ⟨h1,h2⟩ | ⟨h1,h2⟩
  · exact .of_left (intBits_le_64 h1 h2)
  · exact .of_right (intBits_le_64 h1 h2)
theorem two_pow_nn (k:Nat):(0:Int)≤2 ^ k:=by
  rw [two_pow_cast]
  exact Int.natCast_nonneg _

theorem op_add:OpR X (binaryOp .Add) (rI0 fun i j=>.int (i+j)):=opI0 fun _ _ _ _ _ _ _ q=>add_int q
theorem op_sub:OpR X (binaryOp .Sub) (rI0 fun i j=>.int (i-j)):=opI0 fun _ _ _ _ _ _ _ q=>sub_int q
theorem op_mod:OpR X (binaryOp .Mod) (rI (fun _ j=>0<j) fun i j=>.int (i % j)):=opI fun i j _ _ _ _ _ hc q=>by
  have h1:(0:Int)<j:=hc
  exact mod_int' (by omega) (by rw [Int.fmod_eq_emod_of_nonneg i (by omega)];exact q)
theorem op_pow:OpR X (binaryOp .Pow) (rI CPow fun i j=>.int (i ^ j.toNat)):=opI fun _ _ _ _ _ _ _ hc q=>pow_int_small hc.1 hc.2.1 hc.2.2 q
theorem op_shr:OpR X (binaryOp .RShift) (rI (fun _ j=>0≤j) fun i j=>.int (i/2 ^ j.toNat)):=opI fun i j _ _ _ _ _ hc q=>
  rshift_int hc (by rw [Int.fdiv_eq_ediv_of_nonneg i (two_pow_nn _)];exact q)
theorem unI {f:Value→Sem Value} {g:Int→Int}
    (rule:∀(i:Int) (t:Tok) (s:Shared) (Q:Value→Shared→Prop) (E:Value→Shared→Prop),Q (.int (g i) s.toks) { s with toks:=s.toks+1 }→wpAny (model X.prog X.w) X.A (f (.int i t)) Q E s) :
    UnR X f (rU fun i=>.int (g i)):=by
  intro pins s σ H x v Q I rx h
  obtain ⟨i,rfl,q⟩:=h
  obtain ⟨t,rfl⟩:=rx
  exact rule i t s _ _ ⟨.int (g i),H,I.tok _,⟨_,rfl⟩,q⟩
theorem un_neg:UnR X (unaryOp .USub) (rU fun i=>.int (-i)):=unI fun _ _ _ _ _ q=>neg_int q
end

noncomputable def scal:V→V→Bool
  | .non,.non=>true | .non,.int _=>true | .int _,.non=>true | .non,.bl _=>true | .bl _,.non=>true | .non,.str _=>true | .str _,.non=>true
  | .int _,.int _=>true | .bl _,.bl _=>true | .str _,.str _=>true | .byt _,.byt _=>true
  | .int _,.str _=>true | .str _,.int _=>true | .bl _,.str _=>true | .str _,.bl _=>true
  | _,_=>false
noncomputable def rEq:R2:=fun x y H Q=>scal x y=true∧Q (.bl (decide (x=y))) H
noncomputable def rNe:R2:=fun x y H Q=>scal x y=true∧Q (.bl (!decide (x=y))) H

theorem dec_int {i j:Int}:decide (V.int i=V.int j)=(i==j):=by
  rw [Bool.eq_iff_iff]
  simp
theorem dec_bl {i j:Bool}:decide (V.bl i=V.bl j)=(i==j):=by
  rw [Bool.eq_iff_iff]
  simp
theorem dec_str {i j:Str}:decide (V.str i=V.str j)=(i==j):=by
  rw [Bool.eq_iff_iff]
  simp
theorem dec_byt {i j:Array UInt8}:decide (V.byt i=V.byt j)=(i.toList==j.toList):=by
  rw [Bool.eq_iff_iff]
  cases i
  cases j
  simp

section
variable {X:Cx} {a b c:Expr} {ta tb tc:TE} {pos:Pos}
theorem fin_bl {pins:List (Addr×Obj)} {σ:St} {H:Hp} {s:Shared} {Q:VK} {k k':Bool} (I:Inv X pins σ H s) (q:Q (.bl k) H) (e:k=k'):EP X pins σ Q (.bool k') s:=by
  subst e
  exact ⟨.bl k,H,I,rfl,q⟩
theorem op_eq:OpR X (compareOp .Eq) rEq:=by
  intro pins s σ H x y v u Q I rx ry h
  obtain ⟨hs,q⟩:=h
  cases x with
  | non=>
    cases rx
    cases y with
    | non=>cases ry;exact PySem.EqNone.eq_none_none (fin_bl I q (by simp))
    | bl j=>cases ry;exact PySem.EqNone.eq_none_bool (fin_bl I q (by simp))
    | int j=>obtain ⟨t',rfl⟩:=ry;exact PySem.EqNone.eq_none_int (fin_bl I q (by simp))
    | str j=>obtain ⟨t',rfl⟩:=ry;exact PySem.EqNone.eq_none_str (fin_bl I q (by simp))
    | _=>exact absurd (show false=true from hs) Bool.false_ne_true
  | bl i=>
    cases rx
    cases y with
    | non=>cases ry;exact PySem.EqNone.eq_bool_none (fin_bl I q (by simp))
    | bl j=>cases ry;exact eq_bool (fin_bl I q dec_bl)
    | str j=>obtain ⟨t',rfl⟩:=ry;exact PySem.EqMixed.eq_bool_str (fin_bl I q (by simp))
    | _=>exact absurd (show false=true from hs) Bool.false_ne_true
  | int i=>
    obtain ⟨t,rfl⟩:=rx
    cases y with
    | non=>cases ry;exact PySem.EqNone.eq_int_none (fin_bl I q (by simp))
    | int j=>obtain ⟨t',rfl⟩:=ry;exact eq_int (fin_bl I q dec_int)
    | str j=>obtain ⟨t',rfl⟩:=ry;exact PySem.EqMixed.eq_int_str (fin_bl I q (by simp))
    | _=>exact absurd (show false=true from hs) Bool.false_ne_true
  | str i=>
    obtain ⟨t,rfl⟩:=rx
    cases y with
    | non=>cases ry;exact PySem.EqNone.eq_str_none (fin_bl I q (by simp))
    | bl j=>cases ry;exact PySem.EqMixed.eq_str_bool (fin_bl I q (by simp))
    | int j=>obtain ⟨t',rfl⟩:=ry;exact PySem.EqMixed.eq_str_int (fin_bl I q (by simp))
    | str j=>obtain ⟨t',rfl⟩:=ry;exact eq_str (fin_bl I q dec_str)
    | _=>exact absurd (show false=true from hs) Bool.false_ne_true
  | byt i=>
    obtain ⟨t,rfl⟩:=rx
    cases y with
    | byt j=>obtain ⟨t',rfl⟩:=ry;exact PySem.W.eq_bytes (fin_bl I q dec_byt)
    | _=>exact absurd (show false=true from hs) Bool.false_ne_true
  | _=>cases y <;> exact absurd (show false=true from hs) Bool.false_ne_true
theorem op_ne:OpR X (compareOp .NotEq) rNe:=by
  intro pins s σ H x y v u Q I rx ry h
  obtain ⟨hs,q⟩:=h
  cases x with
  | non=>
    cases rx
    cases y with
    | non=>cases ry;exact PySem.EqNone.ne_none_none (fin_bl I q (by simp))
    | bl j=>cases ry;exact PySem.EqNone.ne_none_bool (fin_bl I q (by simp))
    | int j=>obtain ⟨t',rfl⟩:=ry;exact PySem.EqNone.ne_none_int (fin_bl I q (by simp))
    | str j=>obtain ⟨t',rfl⟩:=ry;exact PySem.EqNone.ne_none_str (fin_bl I q (by simp))
    | _=>exact absurd (show false=true from hs) Bool.false_ne_true
  | bl i=>
    cases rx
    cases y with
    | non=>cases ry;exact PySem.EqNone.ne_bool_none (fin_bl I q (by simp))
    | bl j=>cases ry;exact ne_bool (fin_bl I q (congrArg not dec_bl))
    | str j=>obtain ⟨t',rfl⟩:=ry;exact PySem.EqMixed.ne_bool_str (fin_bl I q (by simp))
    | _=>exact absurd (show false=true from hs) Bool.false_ne_true
  | int i=>
    obtain ⟨t,rfl⟩:=rx
    cases y with
    | non=>cases ry;exact PySem.EqNone.ne_int_none (fin_bl I q (by simp))
    | int j=>obtain ⟨t',rfl⟩:=ry;exact ne_int (fin_bl I q (congrArg not dec_int))
    | str j=>obtain ⟨t',rfl⟩:=ry;exact PySem.EqMixed.ne_int_str (fin_bl I q (by simp))
    | _=>exact absurd (show false=true from hs) Bool.false_ne_true
  | str i=>
    obtain ⟨t,rfl⟩:=rx
    cases y with
    | non=>cases ry;exact PySem.EqNone.ne_str_none (fin_bl I q (by simp))
    | bl j=>cases ry;exact PySem.EqMixed.ne_str_bool (fin_bl I q (by simp))
    | int j=>obtain ⟨t',rfl⟩:=ry;exact PySem.EqMixed.ne_str_int (fin_bl I q (by simp))
    | str j=>obtain ⟨t',rfl⟩:=ry;exact ne_str (fin_bl I q (congrArg not dec_str))
    | _=>exact absurd (show false=true from hs) Bool.false_ne_true
  | byt i=>
    obtain ⟨t,rfl⟩:=rx
    cases y with
    | byt j=>obtain ⟨t',rfl⟩:=ry;exact PySem.W.ne_bytes (fin_bl I q (congrArg not dec_byt))
    | _=>exact absurd (show false=true from hs) Bool.false_ne_true
  | _=>cases y <;> exact absurd (show false=true from hs) Bool.false_ne_true

theorem op_lt:OpR X (compareOp .Lt) (rI0 fun i j=>.bl (decide (i<j))):=opB0 fun _ _ _ _ _ _ _ q=>lt_int q
theorem op_le:OpR X (compareOp .LtE) (rI0 fun i j=>.bl (decide (i≤j))):=opB0 fun _ _ _ _ _ _ _ q=>le_int q
theorem op_gt:OpR X (compareOp .Gt) (rI0 fun i j=>.bl (decide (j<i))):=opB0 fun _ _ _ _ _ _ _ q=>gt_int q
theorem op_ge:OpR X (compareOp .GtE) (rI0 fun i j=>.bl (decide (j≤i))):=opB0 fun _ _ _ _ _ _ _ q=>ge_int q
theorem op_isN:OpR X (compareOp .Is) (fun x y H Q=>y=.non∧Q (.bl (decide (x=.non))) H):=by
  intro pins s σ H x y v u Q I rx ry h
  obtain ⟨rfl,q⟩:=h
  cases ry
  refine is_none_gen (fin_bl I q ?_)
  cases x <;> first
    | (cases rx;rfl)
    | (obtain ⟨t,rfl⟩:=rx;rfl)
theorem op_notN:OpR X (compareOp .IsNot) (fun x y H Q=>y=.non∧Q (.bl (!decide (x=.non))) H):=by
  intro pins s σ H x y v u Q I rx ry h
  obtain ⟨rfl,q⟩:=h
  cases ry
  refine isnot_none_gen (fin_bl I q ?_)
  cases x <;> first
    | (cases rx;rfl)
    | (obtain ⟨t,rfl⟩:=rx;rfl)

theorem nomark (b:Expr) {op:CmpOp} (h:autoParam (op≠.In) au1_._auto_1) (h2:autoParam (op≠.NotIn) au1_._auto_1):behindInMarks op b=false:=by
  have e1:(op==CmpOp.In)=false:=by cases op <;> first | rfl | exact absurd rfl h
  have e2:(op==CmpOp.NotIn)=false:=by cases op <;> first | rfl | exact absurd rfl h2
  cases b <;> simp [behindInMarks,e1,e2]
theorem pe_cmpR {op:CmpOp} {r:R2} (ho:OpR X (compareOp op) r) (ha:PE X a ta) (hb:PE X b tb) (hm:behindInMarks op b=false):PE X (.Compare a [op] [b] pos) (tOp r ta tb):=by
  intro pins s σ H Q I h
  exact wpAny_Compare1 (binT ha hb I h fun v u s2 x y H2 I2 rx ry q=>ho pins s2 σ H2 x y v u Q I2 rx ry q) hm
noncomputable def tTest (t:TE):TT:=fun σ H Q=>t σ H fun x H'=>∃k,x=.bl k∧Q k H'
theorem pt_cmpR {op:CmpOp} {r:R2} (ho:OpR X (compareOp op) r) (ha:PE X a ta) (hb:PE X b tb) (hm:behindInMarks op b=false):PT X (.Compare a [op] [b] pos) (tTest (tOp r ta tb)):=by
  intro pins s σ H Q I h
  refine wpAny_isTrue_Compare1 (thn (ha pins s σ H _ I h) fun v s1 ⟨x,H1,I1,r1,q1⟩=>thn (hb pins s1 σ H1 _ I1 q1) fun u s2 ⟨y,H2,I2,r2,q2⟩=>
    thn (ho pins s2 σ H2 x y v u _ I2 r1 r2 q2) fun c s3 ⟨z,H3,I3,r3,k,e,q3⟩=>?_) hm
  subst e
  cases r3
  exact wpAny_truthy_bool ⟨H3,I3,q3⟩
noncomputable def tChain (r r':R2) (ta tb tc:TE):TE:=fun σ H Q=>ta σ H fun x H1=>tb σ H1 fun y H2=>r x y H2 fun z H3=>∃k,z=.bl k ∧
  (if k=true then tc σ H3 fun w' H4=>r' y w' H4 Q else Q (.bl false) H3)
theorem pt_chain {op op':CmpOp} {r r':R2} (ho:OpR X (compareOp op) r) (ho':OpR X (compareOp op') r') (ha:PE X a ta) (hb:PE X b tb) (hc:PE X c tc)
    (hm:autoParam (lastMarks [op,op'] [b,c]=false) au3_._auto_1):PT X (.Compare a [op,op'] [b,c] pos) (tTest (tChain r r' ta tb tc)):=by
  intro pins s σ H Q I h
  refine isTrue_chain (thn (ha pins s σ H _ I h) fun v s1 ⟨x,H1,I1,r1,q1⟩=>test_link (thn (hb pins s1 σ H1 _ I1 q1) fun u s2 ⟨y,H2,I2,r2,q2⟩=>
    thn (ho pins s2 σ H2 x y v u _ I2 r1 r2 q2) fun d s3 ⟨z,H3,I3,r3,k,e,q3⟩=>?_)) hm
  subst e
  cases r3
  refine wpAny_truthy_bool ?_
  cases k with
  | false=>
    obtain ⟨k',e',q'⟩:=q3
    cases e'
    exact ite_ff ⟨H3,I3,q'⟩
  | true=>
    refine ite_tt (test_last (thn (hc pins s3 σ H3 _ I3 q3) fun w' s4 ⟨z',H4,I4,r4,q4⟩=>thn (ho' pins s4 σ H4 y z' u w' _ I4 r2 r4 q4) fun d' s5 ⟨z2,H5,I5,r5,k2,e2,q5⟩=>?_))
    subst e2
    cases r5
    exact wpAny_truthy_bool ⟨H5,I5,q5⟩

theorem line63:(sizeLine:Nat)<2 ^ 63:=by rw [sizeLine_eq];decide
theorem vals1 {x:V} {us:List Value} (r:Vals [x] us):∃u,us=[u]∧RelV x u:=by
  cases r with
  | cons r1 r2=>cases r2;exact ⟨_,rfl,r1⟩
theorem vals2 {x y:V} {us:List Value} (r:Vals [x,y] us):∃u w',us=[u,w']∧RelV x u∧RelV y w':=by
  cases r with
  | cons r1 r2=>
    cases r2 with
    | cons r3 r4=>cases r4;exact ⟨_,_,rfl,r1,r3⟩
theorem call_abs:CallR X (.builtin "abs") (fun xs H Q=>∃i,xs=[.int i]∧Q (.int (if i<0 then -i else i)) H):=by
  intro pins s σ H xs us Q I r h
  obtain ⟨i,rfl,q⟩:=h
  obtain ⟨u,rfl,t,rfl⟩:=vals1 r
  exact call_abs_int fun u tk=>⟨.int (if i<0 then -i else i),H,I.tok _,⟨_,rfl⟩,q⟩
theorem call_max2 (hc:X.calm=true):CallR X (.builtin "max") (fun xs H Q=>∃i j,xs=[.int i,.int j]∧Q (.int (if j>i then j else i)) H):=by
  intro pins s σ H xs us Q I r h
  obtain ⟨i,j,rfl,q⟩:=h
  obtain ⟨u,w',rfl,⟨t,rfl⟩,⟨t',rfl⟩⟩:=vals2 r
  refine max_two_ints (I.ok.hd hc) fun h' tk k=>⟨_,H,I.kept k,?_,q⟩
  by_cases hj:j>i
  · rw [if_pos hj,if_pos hj];exact ⟨_,rfl⟩
  · rw [if_neg hj,if_neg hj];exact ⟨_,rfl⟩
theorem call_min2 (hc:X.calm=true):CallR X (.builtin "min") (fun xs H Q=>∃i j,xs=[.int i,.int j]∧Q (.int (if j<i then j else i)) H):=by
  intro pins s σ H xs us Q I r h
  obtain ⟨i,j,rfl,q⟩:=h
  obtain ⟨u,w',rfl,⟨t,rfl⟩,⟨t',rfl⟩⟩:=vals2 r
  refine min_two_ints (I.ok.hd hc) fun h' tk k=>⟨_,H,I.kept k,?_,q⟩
  by_cases hj:j<i
  · rw [if_pos hj,if_pos hj];exact ⟨_,rfl⟩
  · rw [if_neg hj,if_neg hj];exact ⟨_,rfl⟩
end
end L2

namespace L2
open PySem PySem.Spec PyProof.Rows

structure ObjM (h:Heap) (x dx C:Addr) (mA:Str→Option Value):Prop where
  obj:h.get? x=some (PySem.W.instObj C dx)
  ns:h.Ns1 dx mA
  ne:dx≠x

theorem lookIn_ns {h:Heap} {dx:Addr} {mA:Str→Option Value} (n:h.Ns1 dx mA):∃od,h.get? dx=some od∧∀name,PySem.W.lookIn name od=some (mA name):=by
  obtain ⟨o,es,ep,ho,hd,hk,_,hm⟩:=n
  refine ⟨o,ho,fun name=>?_⟩
  have e:=hm name
  unfold nsFind findBy at e
  rw [← Array.find?_toList] at e
  unfold PySem.W.lookIn
  rw [hd]
  dsimp only
  split
  · rename_i y q
    rw [q] at e
    exact congrArg some e
  · rename_i q
    rw [q] at e
    have a:es.toList.any (·.refKey)=false:=by
      rw [List.any_eq_false]
      intro y hy
      obtain ⟨z,t,hkey⟩:=hk y (Array.mem_toList_iff.mp hy)
      simp [DictEntry.refKey,hkey]
    have a':¬es.toList.any (·.refKey)=true:=by rw [a];exact Bool.false_ne_true
    rw [if_neg a']
    exact congrArg some e

theorem ObjM.look {h:Heap} {x dx C:Addr} {mA:Str→Option Value} (I:ObjM h x dx C mA):∃od,PySem.W.InstAt h x (PySem.W.instObj C dx) C (some od)∧∀name,PySem.W.lookIn name od=some (mA name):=
  let ⟨od,ho,hl⟩:=lookIn_ns I.ns
  ⟨od,⟨I.obj,rfl,rfl,ho⟩,hl⟩

section
variable {prog:Program} {w:World} {A:Around} {E:Value→Shared→Prop} {s:Shared} {K:PySem.W.Frag} {x dx C f:Addr} {mA:Str→Option Value} {name:Str} {v:Value}

end

section
variable {P:Program} {w:World} {H H':Hp} {h h':Heap} {a C dx:Addr} {fs fs':List (Str×V)}
theorem ins_get (hok:HOk P w H h) (e:H a=some (.ins C dx fs)):∃mA,ObjM h a dx C mA∧(∀f,RelO (fs.lookup f) (mA f))∧PySem.Within mA (fs.map (·.1))∧fs.length≤1000∧H dx=some (.own a):=by
  obtain ⟨d,z,ne,ob,mA,n,r,q⟩:=(show ObjOk P w H h a (.ins C dx fs) from hok a _ e)
  exact ⟨mA,⟨ob,n,ne⟩,r,q,z,d⟩
end

structure Cls (K:PySem.W.Frag) (C:Addr):Prop where
  pg:PySem.W.plainGet K C Str.empty=true
  hd:PySem.W.hasDictIn K C=true
  po:PySem.W.plainOver K C=true
  sa:PySem.W.findIn K (.ref C) "__setattr__"=some (some (.builtin "object.__setattr__"))
theorem Cls.get {K:PySem.W.Frag} {C:Addr} (c:Cls K C) (f:Str):PySem.W.plainGet K C f=true:=c.pg
section
variable {X:Cx} {pins:List (Addr×Obj)} {σ:St} {H:Hp} {s:Shared} {a C dx:Addr} {fs:List (Str×V)} {f:Str} {v:V} {A:Around} {E:Value→Shared→Prop}

end

section
variable {X:Cx} {o e value:Expr} {f:Str} {pos pos' tpos:Pos} {ta tv:TE}
end

section
variable {X:Cx} {pins:List (Addr×Obj)} {σ:St} {H:Hp} {s:Shared} {A:Around} {E:Value→Shared→Prop} {Q:Value→Shared→Prop} {c:Value} {b:Bool}
inductive TyOf (K:PySem.W.Frag) (H:Hp):V→Value→Prop where
  | non:TyOf K H .non (.type "NoneType")
  | bl (x:Bool):TyOf K H (.bl x) (.type "bool")
  | int (i:Int):TyOf K H (.int i) (.type "int")
  | str (x:Str):TyOf K H (.str x) (.type "str")
  | flt (x:UInt64):TyOf K H (.flt x) (.type "float")
  | lst {a:Addr} {xs:List V} (e:H a=some (.lst xs)):TyOf K H (.ref a) (.type "list")
  | frz {a:Addr} {o:Obj} {xs:List V} (e:H a=some (.frz o (.lst xs))):TyOf K H (.ref a) (.type "list")
  | tup {a:Addr} {xs:List V} (e:H a=some (.tup xs)):TyOf K H (.ref a) (.type "tuple")
  | dK {a:Addr} {kvs:List (Key×V)} (e:H a=some (.dK kvs)):TyOf K H (.ref a) (.type "dict")
  | dT {a:Addr} {kvs:List (List Key×V)} (e:H a=some (.dT kvs)):TyOf K H (.ref a) (.type "dict")
  | ins {a C dx:Addr} {fs:List (Str×V)} (e:H a=some (.ins C dx fs)) (cl:Cls K C) (ha:PySem.W.findIn K (.ref C) "__class__"=some (some (.builtin "object.__class__")))
      (hn:PySem.W.specialIn K (.builtin "object.__class__") "__get__"=some (some (.builtin "getset_descriptor.__get__"))) (htk:PySem.W.takesIn K (.builtin "object.__class__")=some true)
      (hm:PySem.W.mroIn K C (.type "object")=some true):TyOf K H (.ref a) (.ref C)
theorem isinst_ok {x:V} {u t:Value} (I:Inv X pins σ H s) (rx:RelV x u) (ty:TyOf X.K H x t) (e:PySem.W.kitOne X.K t c=some b) (h:∀tk,Q (.bool b) { s with toks:=tk }) :
    wpAny (model X.prog X.w) A (call (.builtin "isinstance") [u,c]) Q E s:=by
  cases ty with
  | non=>cases (show u=Value.none from rx);exact PySem.W.kia_one PySem.W.kitx_none I.kIn True.intro e (fun z=>nomatch z) h
  | bl y=>cases (show u=Value.bool y from rx);exact PySem.W.kia_one PySem.W.kitx_bool I.kIn True.intro e (fun z=>nomatch z) h
  | int i=>obtain ⟨t,q⟩:=(show ∃t,u=Value.int i t from rx);cases q;exact PySem.W.kia_one PySem.W.kitx_int I.kIn True.intro e (fun z=>nomatch z) h
  | str y=>obtain ⟨t,q⟩:=(show ∃t,u=Value.str y t from rx);cases q;exact PySem.W.kia_one PySem.W.kitx_str I.kIn True.intro e (fun z=>nomatch z) h
  | flt y=>obtain ⟨t,q⟩:=(show ∃t,u=Value.float y t from rx);cases q;exact PySem.W.kia_one PySem.W.kitx_float I.kIn True.intro e (fun z=>nomatch z) h
  | @lst a xs ea=>
    cases (show u=Value.ref a from rx)
    obtain ⟨_,_,n,_,h1⟩:=(show ObjOk X.prog X.w H s.heap a (.lst xs) from I.hok a _ ea)
    exact PySem.W.kia_one PySem.W.kitx_list I.kIn ⟨_,h1,rfl⟩ e (fun z=>nomatch z) h
  | @frz a ob xs ea=>
    cases (show u=Value.ref a from rx)
    obtain ⟨_,_,_,n,_,h1⟩:=(show ObjOk X.prog X.w H s.heap a (.frz ob (.lst xs)) from I.hok a _ ea)
    exact PySem.W.kia_one PySem.W.kitx_list I.kIn ⟨_,h1,rfl⟩ e (fun z=>nomatch z) h
  | @tup a xs ea=>
    cases (show u=Value.ref a from rx)
    obtain ⟨_,_,_,p⟩:=(show ObjOk X.prog X.w H s.heap a (.tup xs) from I.hok a _ ea)
    obtain ⟨o,h1,h2,_⟩:=p
    exact PySem.W.kia_one PySem.W.kitx_tuple I.kIn ⟨o,h1,h2⟩ e (fun z=>nomatch z) h
  | @dK a kvs ea=>
    cases (show u=Value.ref a from rx)
    obtain ⟨_,_,vs,_,p⟩:=(show ObjOk X.prog X.w H s.heap a (.dK kvs) from I.hok a _ ea)
    obtain ⟨o,es,ep,h1,h2,_⟩:=p
    exact PySem.W.kia_one PySem.W.kitx_dict I.kIn ⟨o,h1,h2.1⟩ e (fun z=>nomatch z) h
  | @dT a kvs ea=>
    cases (show u=Value.ref a from rx)
    obtain ⟨_,_,xs,_,o,es,ep,h1,h2,_⟩:=(show ObjOk X.prog X.w H s.heap a (.dT kvs) from I.hok a _ ea)
    exact PySem.W.kia_one PySem.W.kitx_dict I.kIn ⟨o,h1,h2.1⟩ e (fun z=>nomatch z) h
  | @ins a C dx fs ea cl ha hn htk hm=>
    cases (show u=Value.ref a from rx)
    obtain ⟨mA,O,_⟩:=ins_get I.hok ea
    obtain ⟨od,J,_⟩:=O.look
    exact PySem.W.kia_one (PySem.W.kitx_own (cl.get _) cl.hd ha hn htk hm) I.kIn J e (fun z=>nomatch z) h
end
end L2

namespace L2
open PySem PySem.Spec PyProof.Rows

structure Room (k:Nat) (A:Around):Prop where
  hd:A.handled=none
  dp:A.depth+3*k+5<recursionLimit
  un:A.units+16*k+200<cLine
theorem Room.mono {j k:Nat} {A:Around} (r:Room k A) (h:j≤k):Room j A:=⟨r.hd,by have:=r.dp;omega,by have:=r.un;omega⟩
theorem Room.deeper {k:Nat} {A:Around} (r:Room (k+1) A) (env:Env):Room k (A.deeper env):=
  ⟨r.hd,by have:=r.dp;show A.depth+1+3*k+5<_;omega,by have:=r.un;show A.units+3+16*k+200<_;omega⟩
theorem Room.depth {k:Nat} {A:Around} (r:Room k A):A.depth<recursionLimit:=by have:=r.dp;omega
theorem Room.units {k:Nat} {A:Around} (r:Room k A):A.units+64<cLine:=by have:=r.un;omega
noncomputable def tNil:TA:=fun _ H Q=>Q [] H
noncomputable def tCons (ta:TE) (tr:TA):TA:=fun σ H Q=>ta σ H fun x H1=>tr σ H1 fun xs H2=>Q (x::xs) H2
section
variable {X:Cx} {e:Expr} {es:List Expr} {te:TE} {t:TA} {pos:Pos}
theorem pa_nil:PA X [] tNil:=fun _ _ _ _ H Q I h=>Calls.spliced_nil ⟨[],H,I,.nil,h⟩
theorem pa_cons (ha:PE X e te) (hr:PA X es t) (hs:autoParam (starEach (e::es) X.env=(false,eval e X.env)::starEach es X.env) au0_._auto_1):PA X (e::es) (tCons te t):=by
  intro pos pins s σ H Q I h
  rw [hs]
  show wpAny _ _ (spliced ((false,eval e X.env)::backTo pos (starEach es X.env))) _ _ s
  refine Calls.spliced_cons (thn (ha pins s σ H _ I h) fun u s1 ⟨x,H1,I1,r1,q1⟩=>?_)
  exact thn (hr pos pins s1 σ H1 _ I1 q1) fun us s2 ⟨xs,H2,I2,r2,q2⟩=>⟨x::xs,H2,I2,.cons r1 r2,q2⟩

noncomputable def tTup (t:TA):TE:=fun σ H Q=>t σ H fun xs H1=>xs.length≤sizeLine∧∀p,H1 p=none→Q (.ref p) (upd H1 p (.tup xs))
noncomputable def tLst (t:TA):TE:=fun σ H Q=>t σ H fun xs H1=>xs.length≤sizeLine∧∀p,H1 p=none→Q (.ref p) (upd H1 p (.lst xs))
theorem pe_tup {x1} (h:PA X es t):PE X (.Tuple es x1 pos) (tTup t):=by
  intro pins s σ H Q I hq
  refine wpAny_Tuple_spliced (thn (h pos pins s σ H _ I hq) fun us s1 ⟨xs,H1,I1,r,z,q⟩=>⟨by rw [← r.length];exact z,?_⟩)
  have hf:H1 s1.heap.objs.size=none:=I1.hok.fresh (Nat.le_refl _)
  refine ⟨.ref s1.heap.objs.size,upd H1 s1.heap.objs.size (.tup xs),I1.laid (t':=s1.toks) (fun b u e=>Heap.get?_push_of_some _ e) (Nat.le_refl _) ?_,rfl,q _ hf⟩
  exact ⟨z,us,r,⟨_,Heap.get?_push_size _ rfl,rfl,_,rfl⟩⟩
theorem pe_lst (h:PA X es t):PE X (.List es pos) (tLst t):=by
  intro pins s σ H Q I hq
  refine wpAny_List_spliced (thn (h pos pins s σ H _ I hq) fun us s1 ⟨xs,H1,I1,r,z,q⟩=>⟨by rw [← r.length];exact z,?_⟩)
  have hf:H1 s1.heap.objs.size=none:=I1.hok.fresh (Nat.le_refl _)
  refine ⟨.ref s1.heap.objs.size,upd H1 s1.heap.objs.size (.lst xs),I1.laid (t':=s1.toks) (fun b u e=>Heap.get?_push_of_some _ e) (Nat.le_refl _) ?_,rfl,q _ hf⟩
  exact ⟨z,us,0,r,Heap.get?_push_size _ rfl⟩
end

noncomputable abbrev Sp:=List V→Hp→VK→XK→Prop
noncomputable abbrev CXT:=List Env→Hp→Shared→XK→Value→Shared→Prop

structure Env0 (P:Program) (w:World) (K:PySem.W.Frag) (mg:Str→Option Value) (base:Heap) (A:Around) (outer:List Env) (s:Shared) (H:Hp):Prop where
  frames:A.frames=some outer
  mod:Mod K mg base
  bs:∀b o,base.get? b=some o→s.heap.get? b=some o∧H b=none
  bsz:base.objs.size≤s.heap.objs.size
  funs:s.heap.FunFrames base outer
  frf:∀b∈frs outer,H b=none
  hok:HOk P w H s.heap
  bare:AllBare s.gens
noncomputable def CE (outer:List Env) (P:Program) (w:World) (H:Hp) (s:Shared) (Q:VK) (u:Value) (s':Shared):Prop:=
  ∃v H',s'.os=s.os∧AllBare s'.gens∧Un (frs outer) [] H H' s.heap s'.heap∧HOk P w H' s'.heap∧RelV v u∧Q v H'
noncomputable def CR (CX:CXT) (outer:List Env) (P:Program) (w:World) (H:Hp) (s:Shared) (Q:VK) (E:XK) (r:Result) (s':Shared):Prop:=
  match r with
  | .ok (.ret u)=>CE outer P w H s Q u s'
  | .ok _=>False
  | .error e=>CX outer H s E e s'
structure FnOk (P:Program) (w:World) (K:PySem.W.Frag) (mg:Str→Option Value) (base:Heap) (CX:CXT) (k:Nat) (f:Addr) (fd:FuncData) (ps:List Str) (sp:Sp):Prop where
  len:∀vs H Q E,sp vs H Q E→vs.length=ps.length
  run:∀(A:Around) (outer:List Env) (s:Shared) (H:Hp) (args:Args) (us:List Value) (vs:List V) (Q:VK) (E:XK),Room k A→Env0 P w K mg base A outer s H→BindsTo s fd args (ps.zip us)→Vals vs us→sp vs H Q E →
    codeAny (model P w) A (.call (.ref f) args) (CR CX outer P w H s Q E) s
section
variable {X:Cx} {pins:List (Addr×Obj)} {σ:St} {H:Hp} {s s':Shared}
theorem Inv.env0 (I:Inv X pins σ H s):Env0 X.prog X.w X.K X.mg X.base X.A X.stack s H:=
  ⟨I.ok.frames,I.ok.mod,I.bs,Nat.le_trans I.ok.bsz I.sz,I.stack,I.stkFree,I.hok,I.bare⟩
theorem Inv.after {Q:VK} {u:Value} (I:Inv X pins σ H s) (h:CE X.stack X.prog X.w H s Q u s'):EP X pins σ Q u s':=by
  obtain ⟨v,H',os,bare,un,hok,r,q⟩:=h
  obtain ⟨hh,g,d,t,os'⟩:=s'
  obtain rfl:os'=s.os:=os
  exact ⟨v,H',I.call (h':=hh) (g':=g) (d':=d) (t':=t) (ch:=[]) un hok bare (fun b z=>absurd z (by simp)),r,q⟩
end

noncomputable def tCall (sp:Sp) (dvs:List V) (E:XK) (t:TA):TE:=fun σ H Q=>t σ H fun vs H1=>sp (vs++dvs) H1 Q E
noncomputable def Binds (K:PySem.W.Frag) (fd:FuncData) (ps:List Str) (ds:List Value):Prop:=
  ∀(s:Shared) (us:List Value),K.In s.heap→(us++ds).length=ps.length→BindsTo s fd ⟨us,[]⟩ (ps.zip (us++ds))
theorem Binds.all {K:PySem.W.Frag} {fd:FuncData} {ps:List Str} (h:∀us:List Value,us.length=ps.length→bindArgs fd ⟨us,[]⟩=pure (ps.zip us)):Binds K fd ps []:=fun s us _ hl=>by
  rw [List.append_nil] at hl ⊢
  exact .of_eq (h us hl)

noncomputable def Passes (CX:CXT) (X:Cx) (E:XK):Prop:=∀(pins:List (Addr×Obj)) (σ:St) (H:Hp) (s:Shared) (e:Value) (s':Shared),Inv X pins σ H s→CX X.stack H s E e s'→X.xe e s'

section
variable {X:Cx} {CX:CXT} {k:Nat} {f C:Addr} {fd:FuncData} {ps:List Str} {sp:Sp} {dvs:List V} {ds:List Value} {E:XK} {x m:Str} {p pos apos:Pos} {e o:Expr} {es:List Expr} {ta:TE} {t:TA}

theorem run_fn {pins:List (Addr×Obj)} {σ:St} {H:Hp} {s:Shared} {Q:VK} {us:List Value} {vs:List V} (F:FnOk X.prog X.w X.K X.mg X.base CX k f fd ps sp) (hr:Room k X.A) (hb:Binds X.K fd ps ds) (hd:Vals dvs ds) (hx:Passes CX X E)
    (I:Inv X pins σ H s) (r:Vals vs us) (h:sp (vs++dvs) H Q E):wpAny (model X.prog X.w) X.A (call (.ref f) us) (EP X pins σ Q) X.xe s:=by
  have r2:Vals (vs++dvs) (us++ds):=r.append hd
  have hl:(us++ds).length=ps.length:=by rw [← r2.length];exact F.len _ _ _ _ h
  refine wpAny_call (codeAny_mono (F.run X.A X.stack s H ⟨us,[]⟩ (us++ds) (vs++dvs) Q E hr I.env0 (hb s us I.kIn hl) r2 h) fun r s' hq=>?_)
  cases r with
  | error e=>exact hx pins σ H s e s' I hq
  | ok fl=>
    cases fl with
    | ret u=>exact I.after hq
    | next=>exact False.elim hq
    | brk=>exact False.elim hq
    | cont=>exact False.elim hq

theorem pe_call (F:FnOk X.prog X.w X.K X.mg X.base CX k f fd ps sp) (hr:Room k X.A) (hg:Gl X x) (hm:X.mg x=some (.ref f)) (hk:PySem.W.keepIn X.K (.ref f)=true) (hb:Binds X.K fd ps ds) (hd:Vals dvs ds) (hx:Passes CX X E)
    (ha:PA X (e::es) t) (hdb:autoParam ((x==("__debug__":Str))=false) au1_._auto_1) (he:autoParam (starEach (e::es) X.env=(false,eval e X.env)::starEach es X.env) au0_._auto_1) (hpl:autoParam ((backTo pos (starEach es X.env)).any (·.1)=false) au0_._auto_1) :
    PE X (.Call (.Name x p) (e::es) [] pos) (tCall sp dvs E t):=by
  intro pins s σ H Q I h
  refine wpAny_Call_Name_kw (ld_glob I hg hm ?_ hdb)
  refine PySem.W.callWith_K (h₀:=X.base) I.ok.mod.kin hk (thn (ha pos pins s σ H _ I h) fun us s1 ⟨vs,H1,I1,r,q⟩=>⟨I1.kIn,?_⟩) he hpl
  exact run_fn F hr hb hd hx I1 r q
end

section
variable {X:Cx} {CX:CXT} {k:Nat} {f C:Addr} {fd:FuncData} {ps ks:List Str} {sp:Sp} {E:XK} {x m:Str} {p pos apos kpos:Pos} {e o:Expr} {es:List Expr} {kws:List Keyword} {te ta:TE} {t tk:TA} {nm:Option Str}
variable {g:List Value→List Value→List Value} {gV:List V→List V→List V}
end

structure FnScope (N P:List Str) (sc:Scope):Prop where
  kind:sc.kind=.function
  co:sc.isCoroutine=false
  gen:sc.isGenerator=false
  nd:N.Nodup
  pre:N.take P.length=P
  par:∀x∈P,sc.names.lookup x=some .local∨sc.names.lookup x=some .cell
  nofree:∀y∈sc.names,y.2≠.free

theorem bindL_out {kindOf:Str→Option NameKind} {x:Str}:∀{binds:List (Str×Value)} {m:Str→Option Value},(∀v,(x,v)∉binds)→bindL kindOf binds m x=m x
  | [],_,_=>rfl
  | (n,v)::r,m,h=>by
    unfold bindL
    rw [bindL_out fun w hw=>h w (List.mem_cons_of_mem _ hw)]
    split
    · have:x≠n:=by rintro rfl;exact h v List.mem_cons_self
      simp [this]
    · rfl
theorem bindC_out {kindOf:Str→Option NameKind} {x:Str}:∀{binds:List (Str×Value)} {m:Str→Option Value},(∀v,(x,v)∉binds)→bindC kindOf binds m x=m x
  | [],_,_=>rfl
  | (n,v)::r,m,h=>by
    unfold bindC
    rw [bindC_out fun w hw=>h w (List.mem_cons_of_mem _ hw)]
    split
    · rfl
    · have:x≠n:=by rintro rfl;exact h v List.mem_cons_self
      simp [this]
theorem bindL_get {kindOf:Str→Option NameKind} {x:Str} {v:Value}:∀{P:List Str} {vs:List Value} {i:Nat} {m:Str→Option Value},P.Nodup→P[i]?=some x→vs[i]?=some v→kindOf x=some .local →
    bindL kindOf (P.zip vs) m x=some v
  | [],_,_,_,_,h,_,_=>by simp at h
  | _::_,[],_,_,_,_,h,_=>by simp at h
  | p::P,w::vs,0,m,nd,h1,h2,hk=>by
    simp at h1 h2;subst h1;subst h2
    show bindL kindOf ((p,w)::P.zip vs) m p=_
    unfold bindL
    rw [bindL_out fun v hv=>(List.nodup_cons.mp nd).1 (List.of_mem_zip hv).1,if_pos hk]
    simp
  | p::P,w::vs,i+1,m,nd,h1,h2,hk=>by
    show bindL kindOf ((p,w)::P.zip vs) m x=_
    unfold bindL
    exact bindL_get (i:=i) (List.nodup_cons.mp nd).2 (by simpa using h1) (by simpa using h2) hk
theorem bindC_get {kindOf:Str→Option NameKind} {x:Str} {v:Value}:∀{P:List Str} {vs:List Value} {i:Nat} {m:Str→Option Value},P.Nodup→P[i]?=some x→vs[i]?=some v→kindOf x≠some .local →
    bindC kindOf (P.zip vs) m x=some v
  | [],_,_,_,_,h,_,_=>by simp at h
  | _::_,[],_,_,_,_,h,_=>by simp at h
  | p::P,w::vs,0,m,nd,h1,h2,hk=>by
    simp at h1 h2;subst h1;subst h2
    show bindC kindOf ((p,w)::P.zip vs) m p=_
    unfold bindC
    rw [bindC_out fun v hv=>(List.nodup_cons.mp nd).1 (List.of_mem_zip hv).1,if_neg hk]
    simp
  | p::P,w::vs,i+1,m,nd,h1,h2,hk=>by
    show bindC kindOf ((p,w)::P.zip vs) m x=_
    unfold bindC
    exact bindC_get (i:=i) (List.nodup_cons.mp nd).2 (by simpa using h1) (by simpa using h2) hk

noncomputable def start (N:List Str) (vs:List V):St:=vs.map some++List.replicate (N.length-vs.length) none

noncomputable def cxOf (CX:CXT) (P:Program) (w:World) (K:PySem.W.Frag) (mg:Str→Option Value) (base:Heap) (N:List Str) (qual:Str) (scope:Scope) (f:Addr) (cd:Value) (A:Around) (outer:List Env) (s:Shared) (H:Hp) (E:XK):Cx where
  prog:=P
  w:=w
  K:=K
  mg:=mg
  base:=base
  A:=A.deeper (envOfC qual scope s.heap.objs.size f cd)
  N:=N
  s₀:=s
  H₀:=H
  env:=envOfC qual scope s.heap.objs.size f cd
  outer:=outer
  stack:=envOfC qual scope s.heap.objs.size f cd::outer
  ex:=[]
  calm:=true
  fn:=fun _=>true
  pn:=[]
  xe:=fun e s'=>wpAny (model P w) (A.deeper (envOfC qual scope s.heap.objs.size f cd)) (leaving (envOfC qual scope s.heap.objs.size f cd) e) (fun _ s''=>CX outer H s E e s'') (fun e' s''=>CX outer H s E e' s'') s'

theorem cell_has {sc:Scope} {n:Nat} {x:Str} (h:sc.names.lookup x=some .cell):∃c,(cellsFrom n sc.names []).lookup x=some c:=by
  have q:=PySem.W.cellsFrom_some sc.names n [] (.inl h)
  exact Option.isSome_iff_exists.mp q

theorem inv_start {CX:CXT} {P:Program} {w:World} {K:PySem.W.Frag} {mg:Str→Option Value} {base:Heap} {N ps:List Str} {qual:Str} {scope:Scope} {f:Addr} {cd:Value} {A:Around} {outer:List Env} {s s1:Shared} {H:Hp} {E:XK} {us:List Value} {vs:List V}
    (S:FnScope N ps scope) (hd:A.handled=none) (e0:Env0 P w K mg base A outer s H) (hl:vs.length=ps.length) (r:Vals vs us)
    (x:InCallC s s.heap.objs.size (bindL (envOfC qual scope s.heap.objs.size f cd).kindOf (ps.zip us) fun _=>none) (cellsFrom (s.heap.objs.size+1) scope.names []) (bindC (envOfC qual scope s.heap.objs.size f cd).kindOf (ps.zip us) fun _=>none) s1) :
    Inv (cxOf CX P w K mg base N qual scope f cd A outer s H E) [] (start N vs) H s1:=by
  have hpl:ps.length≤N.length:=by have:=congrArg List.length S.pre;rw [List.length_take] at this;omega
  obtain ⟨h1,tk,rfl,hk⟩:=x.done
  have noA:∀b:Addr,b∉(cxOf CX P w K mg base N qual scope f cd A outer s H E).ex:=fun b z=>absurd (show b∈([]:List Addr) from z) (by simp)
  refine ⟨⟨e0.mod,S.kind,rfl,rfl,Nat.le_refl _,fun y z c h1 h2=>?_,fun y hy=>?_,fun y c _ h=>?_,fun _=>hd,Around.frames_deeper e0.frames,.inr ⟨rfl,rfl⟩,fun b z=>absurd z (noA b),e0.bs,e0.bsz,fun b _ _=>noA b,fun b z=>absurd z (noA b),e0.funs,e0.frf⟩,
    rfl,e0.bare,Un.kept hk,⟨_,x.toInCall.ns,fun i y v h1 h2 h3=>?_⟩,fun y c h=>⟨_,x.cell y c h⟩,e0.hok.fresh (Nat.le_refl _),fun y c h=>?_,fun p hp=>absurd (show p∈([]:List (Addr×Obj)) from hp) (by simp),e0.hok.kept hk,?_⟩
  · exact name_of_addr x.apart (PySem.mem_of_lookup h1) (PySem.mem_of_lookup h2)
  · have hy:scope.names.lookup y=some .cell∨scope.names.lookup y=some .free:=hy
    rcases hy with hy | hy
    · exact cell_has hy
    · exact absurd rfl (S.nofree _ (PySem.mem_of_lookup hy))
  · exact Nat.le_of_lt (x.above y c (PySem.mem_of_lookup h))
  · have hi:i<vs.length:=by
      unfold start at h2
      by_cases hi:i<vs.length
      · exact hi
      · rw [List.getElem?_append_right (by simpa using hi)] at h2
        rw [List.getElem?_replicate] at h2
        split at h2 <;> cases h2
    have ha:vs[i]?=some v:=by
      unfold start at h2
      rw [List.getElem?_append_left (by simpa using hi),List.getElem?_map] at h2
      cases e:vs[i]? with
      | none=>rw [e] at h2;cases h2
      | some a=>rw [e] at h2;cases h2;rfl
    obtain ⟨u,hu,rv⟩:=r.get ha
    have hp:ps[i]?=some y:=by
      rw [← S.pre,List.getElem?_take_of_lt (by omega)];exact h1
    have ndP:ps.Nodup:=by rw [← S.pre];exact S.nd.sublist (List.take_sublist _ _)
    refine ⟨u,rv,?_⟩
    rcases S.par y (List.mem_of_getElem? hp) with k | k
    · exact .inl ⟨k,bindL_get ndP hp hu k⟩
    · obtain ⟨c,e⟩:=cell_has (n:=s.heap.objs.size+1) k
      refine .inr ⟨.inl k,c,e,?_⟩
      have q:=x.cell y c e
      rw [bindC_get ndP hp hu (by show scope.names.lookup y≠_;rw [k];decide)] at q
      exact q
  · exact e0.hok.fresh (Nat.le_of_lt (x.above y c (PySem.mem_of_lookup h)))
  · unfold start
    show _=N.length
    rw [List.length_append,List.length_map,List.length_replicate]
    omega

theorem fn_of {CX:CXT} {P:Program} {w:World} {K:PySem.W.Frag} {mg:Str→Option Value} {base:Heap} {k:Nat} {f:Addr} {name qual:Str} {params:Arguments} {body:List Stmt} {scope:Scope} {dV kV doc pm cdv ct oc:Value} {an od:Option Addr}
    {osl:Array (Option Value)} {N ps:List Str} {sp:Sp} (lk:K.lookup f=some ⟨oc,od,.func (PySem.W.fnOf name qual params body scope dV kV doc pm an cdv ct),osl⟩) (hcd:PySem.W.codeIn K cdv qual=true) (S:FnScope N ps scope)
    (len:∀vs H Q E,sp vs H Q E→vs.length=ps.length)
    (hbody:∀(A:Around) (outer:List Env) (s:Shared) (H:Hp) (vs:List V) (Q:VK) (E:XK),Room k (A.deeper (envOfC qual scope s.heap.objs.size f cdv))→sp vs H Q E →
      ∃t,PSs (cxOf CX P w K mg base N qual scope f cdv A outer s H E) body t∧t { nx:=fun _ H'=>Q .non H',rt:=Q } (start N vs) H) :
    FnOk P w K mg base CX (k+1) f (PySem.W.fnOf name qual params body scope dV kV doc pm an cdv ct) ps sp:=by
  refine ⟨len,fun A outer s H args us vs Q E hr e0 hb r hsp=>?_⟩
  have hl:=len _ _ _ _ hsp
  have KX:K.In s.heap:=e0.mod.kin.keeps fun b o e=>(e0.bs b o e).1
  have lim:s.heap.NoLimit:=e0.mod.nolimit.keeps fun b o e=>(e0.bs b o e).1
  have hkind:∀y∈ps.zip us,scope.names.lookup y.1=some .local∨(scope.names.lookup y.1=some .cell∧((cellsFrom (s.heap.objs.size+1) scope.names []).lookup y.1).isSome=true):=fun ⟨n,v⟩ hy=>by
    rcases S.par n (List.of_mem_zip hy).1 with q | q
    · exact .inl q
    · exact .inr ⟨q,PySem.W.cellsFrom_some _ _ _ (.inl q)⟩
  refine codeAny_call_function hr.depth (KX _ _ lk) rfl S.co S.gen rfl (PySem.W.codeRec_of KX hcd) (hb _ _ _ _ ?_)
  refine wpAny_newFunctionEnv_cells S.kind hkind fun env he s1 x=>?_
  subst he
  refine ⟨lim.keeps x.toInCall.keep,codeAny_func ?_⟩
  obtain ⟨t,ht,hq⟩:=hbody A outer s H vs Q E (hr.deeper _) hsp
  have I:Inv (cxOf CX P w K mg base N qual scope f cdv A outer s H E) [] (start N vs) H s1:=inv_start S hr.hd e0 hl r x
  refine wpAny_mono (ht [] s1 (start N vs) H _ I hq) (fun fl s' hs=>?_) fun e s' hs=>hs
  have fin:∀{σ':St} {H':Hp} {v:V} {u:Value},Inv (cxOf CX P w K mg base N qual scope f cdv A outer s H E) [] σ' H' s'→RelV v u→Q v H'→CE outer P w H s Q u s':=
    fun {σ' H' v u} J rv q=>⟨v,H',J.os,J.bare,J.base,J.hok,rv,q⟩
  cases fl with
  | ret u=>
    obtain ⟨v,σ',H',J,rv,q⟩:=hs
    exact fin J rv q
  | next=>
    obtain ⟨σ',H',J,q⟩:=hs
    exact fin (v:=V.non) (u:=Value.none) J rfl q
  | brk=>
    obtain ⟨_,_,_,q⟩:=hs
    exact False.elim q
  | cont=>
    obtain ⟨_,_,_,q⟩:=hs
    exact False.elim q
end L2

namespace L2
open PySem PySem.Spec PyProof.Rows
section
variable {X:Cx} {x:Str} {p pos:Pos} {e:Expr} {es:List Expr} {t:TA} {id T:String} {r:List V→Hp→VK→Prop}

noncomputable def tCB (r:List V→Hp→VK→Prop) (t:TA):TE:=fun σ H Q=>t σ H fun vs H1=>r vs H1 Q
theorem pe_callB (hc:CallR X (.builtin id) r) (hg:Gl X x) (hm:X.mg x=none) (hv:bootBuiltins x=some (.builtin id)) (ha:PA X (e::es) t) (hn:autoParam (x ≠ "__name__") au1_._auto_1) (hdb:autoParam ((x==("__debug__":Str))=false) au1_._auto_1)
    (he:autoParam (starEach (e::es) X.env=(false,eval e X.env)::starEach es X.env) au0_._auto_1) (hpl:autoParam ((backTo pos (starEach es X.env)).any (·.1)=false) au0_._auto_1):PE X (.Call (.Name x p) (e::es) [] pos) (tCB r t):=by
  intro pins s σ H Q I h
  refine wpAny_Call_Name_kw (ld_blt I hg hm hv ?_ hn hdb)
  exact PyProof.Rows.callWith_builtin1 (thn (ha pos pins s σ H _ I h) fun us s1 ⟨vs,H1,I1,r1,q1⟩=>hc pins s1 σ H1 vs us Q I1 r1 q1) he hpl
theorem pe_callTy (hc:CallR X (.type T) r) (hg:Gl X x) (hm:X.mg x=none) (hv:bootBuiltins x=some (.type T)) (ha:PA X (e::es) t) (hn:autoParam (x ≠ "__name__") au1_._auto_1) (hdb:autoParam ((x==("__debug__":Str))=false) au1_._auto_1)
    (he:autoParam (starEach (e::es) X.env=(false,eval e X.env)::starEach es X.env) au0_._auto_1) (hpl:autoParam ((backTo pos (starEach es X.env)).any (·.1)=false) au0_._auto_1):PE X (.Call (.Name x p) (e::es) [] pos) (tCB r t):=by
  intro pins s σ H Q I h
  refine wpAny_Call_Name_kw (ld_blt I hg hm hv ?_ hn hdb)
  exact PyProof.Rows.callWith_type1 (thn (ha pos pins s σ H _ I h) fun us s1 ⟨vs,H1,I1,r1,q1⟩=>hc pins s1 σ H1 vs us Q I1 r1 q1) he hpl
end
end L2

namespace HT
open PySem PyProof.Rows

section
open PySem.SeqAt
open PySem.AutoSeq1 (wpAny_loadPart')
open PySem.MeetsSeq PySem.MeetsSeq2 PySem.MeetsSeq3

end

section
variable {prog:Program} {w:World} {A:Around} {E:Value→Shared→Prop} {s:Shared}

theorem cat_tup {t b:Addr} {vs ws:List Value} {Q:Value→Shared→Prop} (ht:IsTup s.heap t vs.toArray) (hb:IsTup s.heap b ws.toArray) (hv:vs≠[])
    (h1:ws=[]→Q (.ref t) s) (h2:ws≠[]→Q (.ref s.heap.objs.size) { s with heap:=s.heap.push { cls:=.type "tuple",data:=.seq (vs++ws).toArray } })
    (hsz:vs.length+ws.length≤sizeLine):wpAny (model prog w) A (binaryOp .Add (.ref t) (.ref b)) Q E s:=by
  obtain ⟨⟨cls,dd,data,sl⟩,ho,hc,n,hd⟩:=id ht
  obtain ⟨⟨cls2,dd2,data2,sl2⟩,ho2,hc2,n2,hd2⟩:=id hb
  simp only at hc hd hc2 hd2
  subst hc hd hc2 hd2
  have e:vs.toArray++ws.toArray=(vs++ws).toArray:=by simp
  by_cases hw:ws=[]
  · exact concat_meets ⟨_,ho,rfl⟩ ⟨_,ho2,rfl⟩ noFill_tuple_add seq_tuple_add PySem.F.slot_tuple_add PySem.F.entry_tuple_add (PySem.F.args_tuple_add_2 _ _)
      (tuple_addW1 t b vs.toArray ws.toArray n n2 dd dd2 sl sl2 (by simpa using hv) (by simp [hw])) ⟨ho,ho2,h1 hw⟩
  · refine concat_meets ⟨_,ho,rfl⟩ ⟨_,ho2,rfl⟩ noFill_tuple_add seq_tuple_add PySem.F.slot_tuple_add PySem.F.entry_tuple_add (PySem.F.args_tuple_add_2 _ _)
      (tuple_addW2 t b vs.toArray ws.toArray n n2 dd dd2 sl sl2 (by simpa using hv) (by simpa using hw) (by rw [List.size_toArray,List.size_toArray];exact hsz)) ⟨ho,ho2,?_⟩
    rw [e]
    exact h2 hw

noncomputable def sIx (n d:Nat):Option Int→Nat
  | none=>d
  | some v=>if v<0 then (v+(n:Int)).toNat else min v.toNat n
theorem sIx_nat (n d k:Nat):sIx n d (some (k:Int))=min k n:=by
  show (if (k:Int)<0 then ((k:Int)+(n:Int)).toNat else min (k:Int).toNat n)=min k n
  rw [if_neg (by omega),Int.toNat_natCast]
theorem sIx_le (n d:Nat) (hd:d≤n) (o:Option Int):sIx n d o≤n:=by
  cases o with
  | none=>exact hd
  | some v=>
    show (if v<0 then (v+(n:Int)).toNat else min v.toNat n)≤n
    by_cases hv:v<0
    · rw [if_pos hv];omega
    · rw [if_neg hv];exact Nat.min_le_right _ _
theorem clip_eq (v:Int) (n d:Nat):(if v<0 then max (v+(n:Int)) 0 else min v (n:Int))=((sIx n d (some v):Nat):Int):=by
  show (if v<0 then max (v+(n:Int)) 0 else min v (n:Int))=(((if v<0 then (v+(n:Int)).toNat else min v.toNat n):Nat):Int)
  by_cases hv:v<0
  · simp only [if_pos hv];omega
  · simp only [if_neg hv];omega
theorem adjust_gen (lo hi:Option Int) (n:Nat):Builtin.Slice.sliceAdjust lo hi 1 (n:Int)=(((sIx n 0 lo:Nat):Int),((sIx n n hi:Nat):Int)):=by
  have h1:¬((1:Int)<0):=by omega
  unfold Builtin.Slice.sliceAdjust
  simp only [h1,if_false]
  refine Prod.ext ?_ ?_
  · cases lo with
    | none=>rfl
    | some v=>exact clip_eq v n 0
  · cases hi with
    | none=>rfl
    | some v=>exact clip_eq v n n
theorem places_gen (i j:Nat):Builtin.Slice.slicePlaces (i:Int) (j:Int) 1=j-i:=by
  unfold Builtin.Slice.slicePlaces
  have h1:(1:Int)>0:=by omega
  simp only [h1,if_true,Int.ediv_one]
  split <;> omega
theorem slicePart_ {v:Value} {o:Option Int} {Q:Option Int→Shared→Prop} (p:IsPart v o) (h:Q o s):wpAny (model prog w) A (Builtin.Slice.slicePartIndex v) Q E s:=by
  cases p with
  | none=>exact slicePart_none h
  | int i t=>exact slicePart_int h
theorem sliceApplied_gen {sl:Addr} {vl vu:Value} {lo hi:Option Int} {n:Nat} {Q:Int×Int×Nat→Shared→Prop} (hs:s.heap.IsSliceOf sl vl vu .none) (pl:IsPart vl lo) (pu:IsPart vu hi)
    (h:Q (((sIx n 0 lo:Nat):Int),1,sIx n n hi-sIx n 0 lo) s):wpAny (model prog w) A (Builtin.Slice.sliceApplied (.ref sl) (pure (n:Int))) Q E s:=by
  obtain ⟨os,hos,hcs,hds⟩:=id hs
  unfold Builtin.Slice.sliceApplied Builtin.Slice.sliceFields
  refine wpAny_bind (wpAny_bind (wpAny_field hos hds (x:=vl) rfl (wpAny_bind (wpAny_field hos hds (x:=vu) rfl (wpAny_bind (wpAny_field hos hds (x:=.none) rfl (wpAny_pure ?_)))))))
  refine wpAny_bind (slicePart_none ?_)
  show wpAny _ _ (if ((1:Int)==0)=true then _ else _) _ _ s
  rw [if_neg (by decide)]
  refine wpAny_bind (slicePart_ pl (wpAny_bind (slicePart_ pu (wpAny_bind (wpAny_pure ?_)))))
  show wpAny _ _ (match Builtin.Slice.sliceAdjust lo hi 1 (n:Int) with | (lo,hi)=>pure (lo,(1:Int),Builtin.Slice.slicePlaces lo hi 1)) _ _ s
  rw [adjust_gen lo hi n]
  show wpAny _ _ (pure (((sIx n 0 lo:Nat):Int),(1:Int),Builtin.Slice.slicePlaces ((sIx n 0 lo:Nat):Int) ((sIx n n hi:Nat):Int) 1)) _ _ s
  rw [places_gen]
  exact wpAny_pure h
theorem pick_gen (xs:Array Value) (i k:Nat):((List.range k).filterMap fun (m:Nat)=>xs[((i:Int)+(m:Int)*1).toNat]?).toArray=((xs.toList.drop i).take k).toArray:=by
  have e:(fun (m:Nat)=>xs[((i:Int)+(m:Int)*1).toNat]?)=fun m=>xs[i+m]?:=by
    funext m
    have:((i:Int)+(m:Int)*1).toNat=i+m:=by omega
    rw [this]
  rw [e]
  have:=pick_run xs i k
  rw [List.filterMap_map] at this
  have e2:((fun x=>xs[x]?) ∘ fun x=>i+x)=fun m=>xs[i+m]?:=rfl
  rw [e2] at this
  rw [this]

theorem getItem_tuple_cut {t sl:Addr} {items:Array Value} {vl vu:Value} {lo hi:Option Int} {Q:Value→Shared→Prop} (ht:IsTup s.heap t items) (hs:s.heap.IsSliceOf sl vl vu .none) (pl:IsPart vl lo) (pu:IsPart vu hi)
    (hw:¬(sIx items.size 0 lo=0∧sIx items.size items.size hi=items.size))
    (h:Q (.ref s.heap.objs.size) { s with heap:=s.heap.push { cls:=.type "tuple",data:=.seq ((items.toList.drop (sIx items.size 0 lo)).take (sIx items.size items.size hi-sIx items.size 0 lo)).toArray } })
    (hsz:items.size≤sizeLine):wpAny (model prog w) A (getItem (.ref t) (.ref sl)) Q E s:=by
  have htake:sizeOk (.seq ((items.toList.drop (sIx items.size 0 lo)).take (sIx items.size items.size hi-sIx items.size 0 lo)).toArray):=by
    show ((items.toList.drop (sIx items.size 0 lo)).take (sIx items.size items.size hi-sIx items.size 0 lo)).toArray.size≤sizeLine
    rw [List.size_toArray,List.length_take,List.length_drop,Array.length_toList]
    omega
  have hj:sIx items.size items.size hi≤items.size:=sIx_le _ _ (Nat.le_refl _) hi
  obtain ⟨os,hos,hcs,hds⟩:=id hs
  have hTs:s.TypeIs (.ref sl) "slice":=⟨os,hos,hcs⟩
  unfold getItem
  try with_reducible refine wpAny_holding ?_
  first | refine wpAny_bind (wpAny_pure ?_) | skip
  refine wpAny_bind (wpAny_sequenceKey ht.typeIs (by decide) ?_)
  refine wpAny_bind (wpAny_callSpecial?_slot (name:=Str.ofString "__getitem__") ht.typeIs PyProof.Rows.slot_tuple_getitem
    (wpAny_call_entry PyProof.Rows.slot_tuple_getitem ht.typeIs entry_tuple_getitem ?_ (args_tuple_getitem _ _)))
  show wpAny _ _ (Builtin.Tuple.tupleItemsOf (.ref t) >>= _) _ _ s
  refine wpAny_bind (tupleItemsOf_ ht ?_)
  refine wpAny_bind (wpAny_typeOf hTs ?_)
  rw [if_pos (by decide)]
  refine wpAny_bind (sliceApplied_gen hs pl pu ?_)
  have hno:¬((((sIx items.size 0 lo:Nat):Int)==0&&(1:Int)==1&&(sIx items.size items.size hi-sIx items.size 0 lo)==items.size)=true):=by
    intro q
    rw [Bool.and_eq_true,Bool.and_eq_true] at q
    have q1:((sIx items.size 0 lo:Nat):Int)=0:=eq_of_beq q.1.1
    have q2:sIx items.size items.size hi-sIx items.size 0 lo=items.size:=eq_of_beq q.2
    exact hw ⟨by omega,by omega⟩
  show wpAny _ _ (if (((sIx items.size 0 lo:Nat):Int)==0&&(1:Int)==1&&(sIx items.size items.size hi-sIx items.size 0 lo)==items.size)=true then _ else _) _ _ s
  rw [if_neg hno,pick_gen]
  first
    | exact wpAny_bind (m:=Builtin.Tuple.tupleExact _) (wpAny_newObj_type (wpAny_pure ⟨_,rfl,wpAny_pure h⟩) htake)
    | exact wpAny_bind (m:=Builtin.Tuple.tupleExact _) (wpAny_newObj_type (wpAny_bind (wpAny_pure (wpAny_pure ⟨_,rfl,wpAny_pure h⟩))) htake)
    | exact wpAny_bind (wpAny_bind (m:=Builtin.Tuple.tupleExact _) (wpAny_newObj_type (wpAny_pure (wpAny_pure ⟨_,rfl,wpAny_pure h⟩)) htake))
    | exact wpAny_bind (wpAny_bind (m:=Builtin.Tuple.tupleExact _) (wpAny_newObj_type (wpAny_pure ⟨_,rfl,wpAny_pure h⟩) htake))
end
end HT

namespace L2
open PySem PySem.Spec PyProof.Rows

noncomputable abbrev TO:=St→Hp→(Option Int→Hp→Prop)→Prop
noncomputable def PO (X:Cx) (e:Option Expr) (t:TO):Prop:=
  ∀(pins:List (Addr×Obj)) (s:Shared) (σ:St) (H:Hp) (Q:Option Int→Hp→Prop),Inv X pins σ H s→t σ H Q →
    wpAny (model X.prog X.w) X.A (evalPart e X.env) (fun u s'=>∃o H',Inv X pins σ H' s'∧IsPart u o∧Q o H') X.xe s
noncomputable def tNoPart:TO:=fun _ H Q=>Q none H
noncomputable def tPart (t:TE):TO:=fun σ H Q=>t σ H fun x H1=>∃i,x=.int i∧Q (some i) H1

theorem intsAre_of {ns:List Int}:∀{us:List Value},Vals (ns.map V.int) us→IntsAre us ns:=by
  induction ns with
  | nil=>intro us r;rw [List.map_nil] at r;cases r;exact .nil
  | cons n ns ih=>
    intro us r
    rw [List.map_cons] at r
    cases r with
    | cons r1 r2=>
      obtain ⟨t,e⟩:=r1
      subst e
      exact .cons n t (ih r2)

section
variable {X:Cx} {e:Expr} {te:TE} {lo hi:Option Expr} {tl th:TO} {pos p2:Pos}

theorem po_none:PO X none tNoPart:=by
  intro pins s σ H Q I h
  rw [evalPart_none]
  exact wpAny_pure ⟨none,H,I,.none,h⟩
theorem po_some (h:PE X e te):PO X (some e) (tPart te):=by
  intro pins s σ H Q I hw
  rw [evalPart_some]
  refine thn (h pins s σ H _ I hw) fun u s1 ⟨x,H1,I1,r1,q1⟩=>?_
  obtain ⟨i,rfl,q⟩:=q1
  obtain ⟨t,rfl⟩:=r1
  exact ⟨some i,H1,I1,.int i t,q⟩

noncomputable def SlR (X:Cx) (r:V→Option Int→Option Int→Hp→VK→Prop):Prop:=
  ∀(pins:List (Addr×Obj)) (s:Shared) (σ:St) (H:Hp) (x:V) (v vl vu:Value) (lo hi:Option Int) (sl:Addr) (Q:VK),Inv X pins σ H s→RelV x v→s.heap.IsSliceOf sl vl vu .none→IsPart vl lo→IsPart vu hi→r x lo hi H Q →
    ∃T id,typeLookup (.type T) "__getitem__"=pure (some (.builtin id))∧s.TypeIs v T∧wpAny (model X.prog X.w) X.A (getItem v (.ref sl)) (EP X pins σ Q) X.xe s
noncomputable def tSl (r:V→Option Int→Option Int→Hp→VK→Prop) (te:TE) (tl th:TO):TE:=fun σ H Q=>te σ H fun x H1=>tl σ H1 fun l H2=>th σ H2 fun u H3=>r x l u H3 Q
theorem pe_slice {r:V→Option Int→Option Int→Hp→VK→Prop} (hr:SlR X r) (he:PE X e te) (hl:PO X lo tl) (hu:PO X hi th):PE X (.Subscript e (.Slice lo hi none p2) pos) (tSl r te tl th):=by
  intro pins s σ H Q I h
  refine Subscript_ (thn (he pins s σ H _ I h) fun v s1 ⟨x,H1,I1,r1,q1⟩=>?_)
  refine wpAny_Slice (thn (hl pins s1 σ H1 _ I1 q1) fun vl s2 ⟨l,H2,I2,pl,q2⟩=>thn (hu pins s2 σ H2 _ I2 q2) fun vu s3 ⟨u,H3,I3,pu,q3⟩=>?_)
  rw [evalPart_none]
  refine wpAny_pure ?_
  have I4:Inv X pins σ H3 { s3 with heap:=s3.heap.push { cls:=.type "slice",data:=.fields #[vl,vu,.none] } }:=I3.kept (t':=s3.toks) fun b ob q=>Heap.get?_push_of_some _ q
  obtain ⟨T,id,hT,ht,hg⟩:=hr pins { s3 with heap:=s3.heap.push { cls:=.type "slice",data:=.fields #[vl,vu,.none] } } σ H3 x v vl vu l u s3.heap.objs.size Q I4 r1 (Heap.IsSliceOf.new ..) pl pu q3
  show wpAny (model X.prog X.w) X.A (subscriptTail e (.Slice lo hi none p2) v (.ref s3.heap.objs.size)) (EP X pins σ Q) X.xe { s3 with heap:=s3.heap.push { cls:=.type "slice",data:=.fields #[vl,vu,.none] } }
  exact tail_any (ops:=[.ref s3.heap.objs.size,v]) ht hT hg (by with_unfolding_all rfl)

noncomputable def cutV (xs:List V) (lo hi:Option Int):List V:=(xs.drop (HT.sIx xs.length 0 lo)).take (HT.sIx xs.length xs.length hi-HT.sIx xs.length 0 lo)
theorem cutV_length (xs:List V) (lo hi:Option Int):(cutV xs lo hi).length≤xs.length:=by
  unfold cutV
  rw [List.length_take,List.length_drop]
  omega
noncomputable def rSlT (K:PySem.W.Frag):V→Option Int→Option Int→Hp→VK→Prop:=fun x lo hi H Q=>∃a xs,x=.ref a∧SqT K H a xs ∧
  ¬(HT.sIx xs.length 0 lo=0∧HT.sIx xs.length xs.length hi=xs.length)∧∀p,H p=none→Q (.ref p) (upd H p (.tup (cutV xs lo hi)))
theorem sl_tup:SlR X (rSlT X.K):=by
  intro pins s σ H x v vl vu lo hi sl Q I rx hs pl pu h
  obtain ⟨a,xs,rfl,hx,hw,q⟩:=h
  cases rx
  obtain ⟨its,r,ht,hz⟩:=I.tuple hx
  have hlen:its.toArray.size=xs.length:=by rw [List.size_toArray];exact r.length.symm
  refine ⟨"tuple",_,PyProof.Rows.slot_tuple_getitem.lookup,ht.typeIs,?_⟩
  refine HT.getItem_tuple_cut ht hs pl pu (by rw [hlen];exact hw) ?_ (by rw [hlen];exact hz)
  rw [hlen]
  refine ⟨.ref s.heap.objs.size,_,I.laid (t':=s.toks) (o:=.tup (cutV xs lo hi)) (fun b ob q=>Heap.get?_push_of_some _ q) (Nat.le_refl _) ?_,rfl,q _ (I.hok.fresh (Nat.le_refl _))⟩
  exact ⟨Nat.le_trans (cutV_length xs lo hi) hz,_,(r.drop (HT.sIx xs.length 0 lo)).take (HT.sIx xs.length xs.length hi-HT.sIx xs.length 0 lo),IsTup.new _ _⟩

noncomputable def rCatT (K:PySem.W.Frag):R2:=fun x y H Q=>∃a b xs ys,x=.ref a∧y=.ref b∧SqT K H a xs∧SqT K H b ys∧xs≠[]∧xs.length+ys.length≤sizeLine ∧
  (ys=[]→Q (.ref a) H)∧(ys≠[]→∀p,H p=none→Q (.ref p) (upd H p (.tup (xs++ys))))
theorem Vals.nil_iff {xs:List V} {us:List Value} (r:Vals xs us):us=[]↔xs=[]:=by
  cases r with
  | nil=>simp
  | cons _ _=>simp
theorem op_catT:OpR X (binaryOp .Add) (rCatT X.K):=by
  intro pins s σ H x y v u Q I rx ry h
  obtain ⟨a,b,xs,ys,rfl,rfl,ha,hb,hx,hz,q1,q2⟩:=h
  cases rx
  cases ry
  obtain ⟨its,r1,p1,_⟩:=I.tuple ha
  obtain ⟨its2,r2,p2,_⟩:=I.tuple hb
  refine HT.cat_tup p1 p2 (fun z=>hx (r1.nil_iff.mp z)) (fun z=>⟨.ref a,H,I,rfl,q1 (r2.nil_iff.mp z)⟩) (fun z=>?_) (by rw [← r1.length,← r2.length];exact hz)
  refine ⟨.ref s.heap.objs.size,_,I.laid (t':=s.toks) (o:=.tup (xs++ys)) (fun b ob q=>Heap.get?_push_of_some _ q) (Nat.le_refl _) ?_,rfl,q2 (fun w=>z (r2.nil_iff.mpr w)) _ (I.hok.fresh (Nat.le_refl _))⟩
  exact ⟨by rw [List.length_append];exact hz,_,r1.append r2,IsTup.new _ _⟩
end
end L2

namespace L2
open PySem PySem.Spec PyProof.Rows

noncomputable def ixN (n:Nat) (i:Int):Option Nat:=if 0≤i then (if i<n then some i.toNat else none) else if -(n:Int)≤i then some (i+n).toNat else none
noncomputable def atI {α:Type} (xs:List α) (i:Int):Option α:=(ixN xs.length i).bind fun j=>xs[j]?
theorem ixN_seq {n:Nat} {i:Int} {j:Nat} (h:ixN n i=some j):seqIndex? i n=some j∧j<n∧-(n:Int)≤i∧i<n:=by
  unfold ixN at h
  by_cases h0:0≤i
  · rw [if_pos h0] at h
    by_cases h1:i<n
    · rw [if_pos h1] at h
      have e:i.toNat=j:=Option.some.inj h
      exact ⟨by rw [seqIndex_of h0 h1,e],by omega,by omega,h1⟩
    · rw [if_neg h1] at h;cases h
  · rw [if_neg h0] at h
    by_cases h1:-(n:Int)≤i
    · rw [if_pos h1] at h
      have e:(i+n).toNat=j:=Option.some.inj h
      exact ⟨by rw [seqIndex_neg (by omega) h1,e],by omega,h1,by omega⟩
    · rw [if_neg h1] at h;cases h
theorem atI_get {α:Type} {xs:List α} {i:Int} {v:α} (h:atI xs i=some v):∃j,seqIndex? i xs.length=some j∧xs[j]?=some v∧j<xs.length∧-(xs.length:Int)≤i∧i<xs.length:=by
  unfold atI at h
  cases e:ixN xs.length i with
  | none=>rw [e] at h;cases h
  | some j=>
    rw [e] at h
    obtain ⟨h1,h2,h3,h4⟩:=ixN_seq e
    exact ⟨j,h1,h,h2,h3,h4⟩
theorem atI_nat {α:Type} {xs:List α} {j:Nat} {v:α} (h:xs[j]?=some v):atI xs (j:Int)=some v:=by
  have hj:j<xs.length:=(List.getElem?_eq_some_iff.mp h).1
  have e:ixN xs.length (j:Int)=some j:=by
    unfold ixN
    rw [if_pos (by omega),if_pos (by omega)];simp
  unfold atI;rw [e];exact h
theorem atI_last {α:Type} (xs:List α) (v:α):atI (xs++[v]) (-1)=some v:=by
  have hl:(xs++[v]).length=xs.length+1:=by simp
  have e:ixN (xs++[v]).length (-1)=some xs.length:=by
    unfold ixN
    rw [hl,if_neg (by decide),if_pos (by omega)]
    congr 1
    omega
  unfold atI
  rw [e]
  show (xs++[v])[xs.length]?=some v
  simp

noncomputable def PlainIx (b:Expr):Prop:=∀o i,subscripted b false o i=operate [o,i] (getItem o i)
noncomputable def IxR (X:Cx) (r:R2):Prop:=
  ∀(value slice:Expr) (pins:List (Addr×Obj)) (s:Shared) (σ:St) (H:Hp) (x y:V) (v u:Value) (Q:VK),Inv X pins σ H s→RelV x v→RelV y u→r x y H Q →
    subscripted slice false v u=operate [v,u] (getItem v u)→wpAny (model X.prog X.w) X.A (subscriptTail value slice v u) (EP X pins σ Q) X.xe s
noncomputable def MtR (X:Cx) (id:String) (r:V→List V→Hp→VK→Prop):Prop:=
  ∀(pins:List (Addr×Obj)) (s:Shared) (σ:St) (H:Hp) (x:V) (xs:List V) (v:Value) (us:List Value) (Q:VK),Inv X pins σ H s→RelV x v→Vals xs us→r x xs H Q →
    wpAny (model X.prog X.w) X.A (call (.builtin id) (v::us)) (EP X pins σ Q) X.xe s
section
variable {X:Cx} {a b:Expr} {ta tb:TE} {pos:Pos}
theorem pe_ix {r:R2} (hr:IxR X r) (ha:PE X a ta) (hb:PE X b tb) (hs:PlainIx b):PE X (.Subscript a b pos) (tOp r ta tb):=by
  intro pins s σ H Q I h
  exact Subscript_ (binT ha hb I h fun v u s2 x y H2 I2 rx ry q=>hr a b pins s2 σ H2 x y v u Q I2 rx ry q (hs _ _))

noncomputable def rIxL (K:PySem.W.Frag):R2:=fun x y H Q=>∃p xs i v,x=.ref p∧y=.int i∧SqL K H p xs∧atI xs i=some v∧Q v H
noncomputable def rIxT (K:PySem.W.Frag):R2:=fun x y H Q=>∃p xs i v,x=.ref p∧y=.int i∧SqT K H p xs∧atI xs i=some v∧Q v H
theorem ix_list:IxR X (rIxL X.K):=by
  intro value slice pins s σ H x y v u Q I rx ry h hs
  obtain ⟨p,xs,i,z,rfl,rfl,hq,he,q⟩:=h
  cases rx
  obtain ⟨t,rfl⟩:=ry
  obtain ⟨its,r,pl,hz⟩:=I.list hq
  obtain ⟨j,h1,h2,h3,h4,h5⟩:=atI_get he
  obtain ⟨w,ew,rw'⟩:=r.get h2
  have hl:=r.length
  have hn:=line63
  have fin:EP X pins σ Q w s:=⟨z,H,I,rw',q⟩
  by_cases h0:0≤i
  · have hj:i.toNat=j:=by
      rw [seqIndex_of h0 h5] at h1
      exact Option.some.inj h1
    exact item_listR pl.isList h0 (by omega) (by rw [hj];simpa using ew) fin hs
  · have hj:(i+(its.toArray.size:Int)).toNat=j:=by
      rw [seqIndex_neg (by omega) h4] at h1
      rw [List.size_toArray,← hl]
      exact Option.some.inj h1
    exact subscriptTail_builtinR (x:=w) pl.isList.typeIs slot_list_getitem.lookup
      (wpAny_getItem_list_neg (Q:=fun r s'=>r=w∧EP X pins σ Q r s') pl.isList (by omega) (by rw [List.size_toArray] <;> omega) (by omega) (by rw [hj];simpa using ew) ⟨rfl,fin⟩) hs
theorem ix_tup:IxR X (rIxT X.K):=by
  intro value slice pins s σ H x y v u Q I rx ry h hs
  obtain ⟨p,xs,i,z,rfl,rfl,hq,he,q⟩:=h
  cases rx
  obtain ⟨t,rfl⟩:=ry
  obtain ⟨its,r,pl,hz⟩:=I.tuple hq
  obtain ⟨j,h1,h2,h3,h4,h5⟩:=atI_get he
  obtain ⟨w,ew,rw'⟩:=r.get h2
  have hl:=r.length
  have hn:=line63
  have fin:EP X pins σ Q w s:=⟨z,H,I,rw',q⟩
  exact subscriptTail_builtinR (x:=w) pl.typeIs slot_tuple_getitem.lookup
    (getItem_tuple (j:=j) (Q:=fun r s'=>r=w∧EP X pins σ Q r s') pl (by omega) (by omega) (by rw [List.size_toArray,← hl];exact h1) (by simpa using ew) ⟨rfl,fin⟩) hs
theorem mapSeq_set (its:List Value) (n j:Nat) (u:Value):Obj.mapSeq (·.setIfInBounds j u) { cls:=.type "list",data:=.seq its.toArray n }={ cls:=.type "list",data:=.seq (its.set j u).toArray n }:=by
  simp [Obj.mapSeq]
theorem Inv.lst {pins:List (Addr×Obj)} {σ:St} {H:Hp} {s:Shared} {p:Addr} {xs:List V} (I:Inv X pins σ H s) (h:H p=some (.lst xs)) :
    ∃(its:List Value) (n:Nat),Vals xs its∧s.heap.get? p=some { cls:=.type "list",data:=.seq its.toArray n }∧xs.length≤sizeLine:=by
  obtain ⟨z,its,n,r,e⟩:=I.hok p _ h
  exact ⟨its,n,r,e,z⟩
theorem Inv.lstUpd {pins:List (Addr×Obj)} {σ:St} {H:Hp} {s:Shared} {p:Addr} {xs ys:List V} {its its':List Value} {n n':Nat} {f:Obj→Obj} (I:Inv X pins σ H s) (h:H p=some (.lst xs))
    (ho:s.heap.get? p=some { cls:=.type "list",data:=.seq its.toArray n }) (hf:f { cls:=.type "list",data:=.seq its.toArray n }={ cls:=.type "list",data:=.seq its'.toArray n' }) (r:Vals ys its') (hz:ys.length≤sizeLine) (t:Nat) :
    Inv X pins σ (upd H p (.lst ys)) { s with heap:=s.heap.update p f,toks:=t }:=by
  have e:(s.heap.update p f).get? p=some { cls:=.type "list",data:=.seq its'.toArray n' }:=by
    rw [Heap.get?_update_self f ho (by rw [hf] <;> rfl),hf]
  refine I.write (x:=p) (e:=p) (by rw [h];trivial) (.inl rfl) (fun b u hb q=>(Heap.get?_update_other _ _ (Ne.symm hb)).trans q) ⟨_,e⟩ ?_
  exact ⟨hz,its',n',r,e⟩
noncomputable def rSetL:V→V→V→Hp→(Hp→Prop)→Prop:=fun o i v H Q=>∃p xs k j,o=.ref p∧i=.int k∧H p=some (.lst xs)∧ixN xs.length k=some j∧Q (upd H p (.lst (xs.set j v)))
theorem set_list:PSet X rSetL:=by
  intro pins s σ H o i v ov iv u Q I ro ri rv h
  obtain ⟨p,xs,k,j,rfl,rfl,hp,hj,q⟩:=h
  cases ro
  obtain ⟨t,rfl⟩:=ri
  obtain ⟨its,n,r,ho,hz⟩:=I.lst hp
  obtain ⟨h1,h2,h3,h4⟩:=ixN_seq hj
  have hl:=r.length
  have hn:=line63
  have I':Inv X pins σ (upd H p (.lst (xs.set j v))) { s with heap:=s.heap.update p (Obj.mapSeq (·.setIfInBounds j u)) }:=
    I.lstUpd hp ho (mapSeq_set its n j u) (r.set rv j) (by rw [List.length_set];exact hz) s.toks
  by_cases h0:0≤k
  · have hk:k.toNat=j:=by
      rw [seqIndex_of h0 h4] at h1
      exact Option.some.inj h1
    exact PySem.W.ki_setAt ho h0 (by omega) (by rw [List.size_toArray,← hl];exact h4) (by rw [hk];exact ⟨_,I',q⟩)
  · have hk:(k+(its.toArray.size:Int)).toNat=j:=by
      rw [seqIndex_neg (by omega) h3] at h1
      rw [List.size_toArray,← hl]
      exact Option.some.inj h1
    exact PySem.W.ki_setBack ho (by omega) (by rw [List.size_toArray,← hl];exact h3) (by omega) (by rw [hk];exact ⟨_,I',q⟩)

theorem slice_bounds (lo hi:Option Int) (n:Nat):(sliceBounds lo hi none n).1=((HT.sIx n 0 lo:Nat):Int)∧(sliceBounds lo hi none n).2.1=((HT.sIx n n hi:Nat):Int)∧(sliceBounds lo hi none n).2.2=1:=by
  refine ⟨?_,?_,rfl⟩
  · cases lo with
    | none=>simp [sliceBounds,HT.sIx]
    | some i=>
      simp only [sliceBounds,HT.sIx,Option.getD_none,show (1:Int)>0 by decide,if_true]
      by_cases h:i<0
      · simp only [h,if_true] <;> omega
      · simp only [h,if_false] <;> omega
  · cases hi with
    | none=>simp [sliceBounds,HT.sIx]
    | some i=>
      simp only [sliceBounds,HT.sIx,Option.getD_none,show (1:Int)>0 by decide,if_true]
      by_cases h:i<0
      · simp only [h,if_true] <;> omega
      · simp only [h,if_false] <;> omega
theorem slicePick_cut (its:List Value) (lo hi:Option Int):slicePick its.toArray lo hi none=((its.drop (HT.sIx its.length 0 lo)).take (HT.sIx its.length its.length hi-HT.sIx its.length 0 lo)).toArray:=by
  obtain ⟨h1,h2,h3⟩:=slice_bounds lo hi its.toArray.size
  unfold slicePick
  rw [h1,h2,h3]
  simp only [sliceRange_one,pick_run,List.size_toArray] <;> rfl
noncomputable def rSlL (K:PySem.W.Frag):V→Option Int→Option Int→Hp→VK→Prop:=fun x lo hi H Q=>∃a xs,x=.ref a∧SqL K H a xs∧∀p,H p=none→Q (.ref p) (upd H p (.lst (cutV xs lo hi)))
theorem sl_list:SlR X (rSlL X.K):=by
  intro pins s σ H x v vl vu lo hi sl Q I rx hs pl pu h
  obtain ⟨a,xs,rfl,hx,q⟩:=h
  cases rx
  obtain ⟨its,r,ht,hz⟩:=I.list hx
  have hlen:=r.length
  refine ⟨"list",_,slot_list_getitem.lookup,ht.isList.typeIs,?_⟩
  refine wpAny_getItem_list_slice ht.isList hs pl pu .none (by simp) ?_ (by rw [List.size_toArray] <;> omega)
  rw [slicePick_cut,← hlen]
  refine ⟨.ref s.heap.objs.size,_,I.laid (t':=s.toks) (o:=.lst (cutV xs lo hi)) (fun b ob q=>Heap.get?_push_of_some _ q) (Nat.le_refl _) ?_,rfl,q _ (I.hok.fresh (Nat.le_refl _))⟩
  exact ⟨Nat.le_trans (cutV_length xs lo hi) hz,_,0,(r.drop (HT.sIx xs.length 0 lo)).take (HT.sIx xs.length xs.length hi-HT.sIx xs.length 0 lo),Heap.get?_push_size _ rfl⟩

noncomputable def flatV:V→Bool
  | .non=>true
  | .bl _=>true
  | .int _=>true
  | .str _=>true
  | _=>false
noncomputable def eqV:V→V→Bool
  | .non,.non=>true
  | .bl a,.bl b=>a==b
  | .bl a,.int b=>(if a then 1 else 0)==b
  | .int a,.bl b=>a==(if b then 1 else 0)
  | .int a,.int b=>a==b
  | .str a,.str b=>a==b
  | _,_=>false
theorem eqAt_V {A:Around} {s:Shared} {y x:V} {u v:Value} (ry:RelV y u) (rx:RelV x v) (fy:flatV y=true) (fx:flatV x=true):SeqAt.EqAt A s u v (eqV y x):=by
  cases y with
  | non=>
    cases ry
    cases x with
    | non=>cases rx;exact SeqAt.EqAt.same _
    | bl b=>cases rx;exact SeqAt.EqAt.none_bool b
    | int b=>obtain ⟨t,rfl⟩:=rx;exact SeqAt.EqAt.none_int b t
    | str b=>obtain ⟨t,rfl⟩:=rx;exact SeqAt.EqAt.none_str b t
    | _=>exact absurd (show false=true from fx) Bool.false_ne_true
  | bl a=>
    cases ry
    cases x with
    | non=>cases rx;exact SeqAt.EqAt.bool_none a
    | bl b=>cases rx;exact SeqAt.EqAt.bool_bool a b
    | int b=>obtain ⟨t,rfl⟩:=rx;exact SeqAt.EqAt.bool_int a b t
    | str b=>obtain ⟨t,rfl⟩:=rx;exact SeqAt.EqAt.bool_str a b t
    | _=>exact absurd (show false=true from fx) Bool.false_ne_true
  | int a=>
    obtain ⟨t',rfl⟩:=ry
    cases x with
    | non=>cases rx;exact SeqAt.EqAt.int_none a t'
    | bl b=>cases rx;exact SeqAt.EqAt.int_bool a t' b
    | int b=>obtain ⟨t,rfl⟩:=rx;exact SeqAt.EqAt.int_int a t' b t
    | str b=>obtain ⟨t,rfl⟩:=rx;exact SeqAt.EqAt.int_str a t' b t
    | _=>exact absurd (show false=true from fx) Bool.false_ne_true
  | str a=>
    obtain ⟨t',rfl⟩:=ry
    cases x with
    | non=>cases rx;exact SeqAt.EqAt.str_none a t'
    | bl b=>cases rx;exact SeqAt.EqAt.str_bool a t' b
    | int b=>obtain ⟨t,rfl⟩:=rx;exact SeqAt.EqAt.str_int a t' b t
    | str b=>obtain ⟨t,rfl⟩:=rx;exact SeqAt.EqAt.str_str a t' b t
    | _=>exact absurd (show false=true from fx) Bool.false_ne_true
  | _=>exact absurd (show false=true from fy) Bool.false_ne_true
noncomputable def eqU (x:V) (u:Value):Bool:=match u with
  | .none=>eqV .non x
  | .bool b=>eqV (.bl b) x
  | .int i _=>eqV (.int i) x
  | .str z _=>eqV (.str z) x
  | _=>false
theorem eqU_of {x y:V} {u:Value} (r:RelV y u) (f:flatV y=true):eqU x u=eqV y x:=by
  cases y with
  | non=>cases r;rfl
  | bl b=>cases r;rfl
  | int i=>obtain ⟨t,rfl⟩:=r;rfl
  | str z=>obtain ⟨t,rfl⟩:=r;rfl
  | _=>exact absurd (show false=true from f) Bool.false_ne_true
theorem any_eqU {x:V}:∀{xs:List V} {us:List Value},Vals xs us→xs.all flatV=true→us.any (eqU x)=xs.any fun y=>eqV y x
  | _,_,.nil,_=>rfl
  | y::xs,u::us,.cons r t,f=>by
    rw [List.all_cons,Bool.and_eq_true] at f
    rw [List.any_cons,List.any_cons,eqU_of r f.1,any_eqU t f.2]
theorem mem_eqAt {A:Around} {s:Shared} {x:V} {v:Value} (rx:RelV x v) (fx:flatV x=true):∀{xs:List V} {us:List Value},Vals xs us→xs.all flatV=true→∀u∈us,SeqAt.EqAt A s u v (eqU x u)
  | _,_,.nil,_=>fun u hu=>by cases hu
  | y::xs,u::us,.cons r t,f=>fun u' hu=>by
    rw [List.all_cons,Bool.and_eq_true] at f
    rcases List.mem_cons.mp hu with rfl | hu
    · rw [eqU_of r f.1];exact eqAt_V r rx f.1 fx
    · exact mem_eqAt rx fx t f.2 u' hu
noncomputable def inV (x:V) (xs:List V):Bool:=xs.any fun y=>eqV y x
noncomputable def rIn (K:PySem.W.Frag) (neg:Bool):R2:=fun x y H Q=>∃p xs,y=.ref p∧(SqL K H p xs∨SqT K H p xs)∧flatV x=true∧xs.all flatV=true∧Q (.bl (if neg then !inV x xs else inV x xs)) H
theorem op_in_seq:OpR X (compareOp .In) (rIn X.K false):=by
  intro pins s σ H x y v u Q I rx ry h
  obtain ⟨p,xs,rfl,hq,fx,fs,q⟩:=h
  cases ry
  rcases hq with hq | hq
  · obtain ⟨its,r,pl,hz⟩:=I.list hq
    refine SeqAt.in_listAt (eqU x) pl.isList (fun w hw=>mem_eqAt rx fx r fs w (by simpa using hw)) ⟨.bl _,H,I,rfl,?_⟩
    rw [show its.toArray.any (eqU x)=its.any (eqU x) by simp,any_eqU r fs]
    exact q
  · obtain ⟨its,r,pl,hz⟩:=I.tuple hq
    refine SeqAt.in_tupleAt (eqU x) pl (fun w hw=>mem_eqAt rx fx r fs w (by simpa using hw)) ⟨.bl _,H,I,rfl,?_⟩
    rw [show its.toArray.any (eqU x)=its.any (eqU x) by simp,any_eqU r fs]
    exact q
theorem call_len_seq:CallR X (.builtin "len") (fun xs H Q=>∃p ys,xs=[.ref p]∧(SqL X.K H p ys∨SqT X.K H p ys)∧Q (.int ys.length) H):=by
  intro pins s σ H xs us Q I r h
  obtain ⟨p,ys,rfl,hq,q⟩:=h
  obtain ⟨u,rfl,rx⟩:=vals1 r
  cases rx
  have hn:=line63
  rcases hq with hq | hq
  · obtain ⟨its,r',pl,hz⟩:=I.list hq
    have hlen:=r'.length
    exact Calls.call_len_list pl.isList (by simp only [List.size_toArray] <;> omega) ⟨.int ys.length,H,I.tok _,⟨s.toks+1,by rw [List.size_toArray,hlen]⟩,q⟩
  · obtain ⟨its,r',pl,hz⟩:=I.tuple hq
    have hlen:=r'.length
    exact len_tuple pl (by simp only [List.size_toArray] <;> omega) ⟨.int ys.length,H,I.tok _,⟨s.toks+1,by rw [List.size_toArray,hlen]⟩,q⟩
theorem call_list_of:CallR X (.type "list") (fun xs H Q=>∃p ys,xs=[.ref p]∧(SqL X.K H p ys∨SqT X.K H p ys)∧∀l,H l=none→Q (.ref l) (upd H l (.lst ys))):=by
  intro pins s σ H xs us Q I r h
  obtain ⟨p,ys,rfl,hq,q⟩:=h
  obtain ⟨u,rfl,rx⟩:=vals1 r
  cases rx
  have fin:∀(its:List Value),Vals ys its→ys.length≤sizeLine→∀(h':Heap) (c':Nat),(∀b o',s.heap.get? b=some o'→h'.get? b=some o') →
      h'.get? s.heap.objs.size=some { cls:=.type "list",dict:=none,data:=.seq its.toArray c',slots:=#[] }→EP X pins σ Q (.ref s.heap.objs.size) { s with heap:=h' }:=fun its r' hz h' c' kp e=>
    ⟨.ref s.heap.objs.size,_,I.laid (t':=s.toks) kp (Nat.le_refl _) (show ObjOk X.prog X.w _ h' _ (.lst ys) from ⟨hz,its,c',r',e⟩),rfl,q _ (I.hok.fresh (Nat.le_refl _))⟩
  rcases hq with hq | hq
  · obtain ⟨its,r',pl,hz⟩:=I.list hq
    have hlen:=r'.length
    obtain ⟨o,ho,hc,n,hd⟩:=pl.isList
    exact call_list_seq p (.inl rfl) ho hc hd (fun h' c' kp e=>fin its r' hz h' c' kp e) (by simp only [List.size_toArray] <;> omega)
  · obtain ⟨its,r',pl,hz⟩:=I.tuple hq
    have hlen:=r'.length
    obtain ⟨o,ho,hc,n,hd⟩:=pl
    exact call_list_seq p (.inr rfl) ho hc hd (fun h' c' kp e=>fin its r' hz h' c' kp e) (by simp only [List.size_toArray] <;> omega)
noncomputable def tyV (K:PySem.W.Frag) (T:String) (x:V) (H:Hp):Prop:=match x with
  | .str _=>T = "str"
  | .int _=>T = "int"
  | .ref p=>(T = "list"∧∃xs,SqL K H p xs)∨(T = "tuple"∧∃o,K.lookup p=some o∧o.cls=.type "tuple"∧o.dict=none) ∨
      (T = "dict"∧((∃kvs,H p=some (.dK kvs))∨∃kvs,H p=some (.dT kvs)))∨(T = "set"∧∃S n,H p=some (.set S n))
  | _=>False
theorem tyV_is {pins:List (Addr×Obj)} {σ:St} {H:Hp} {s:Shared} {T:String} {x:V} {v:Value} (I:Inv X pins σ H s) (r:RelV x v) (ty:tyV X.K T x H) :
    s.TypeIs v T∧∀a,v=.ref a→∃ob,s.heap.get? a=some ob∧ob.dict=none:=by
  cases x with
  | str z=>
    obtain ⟨t,rfl⟩:=r
    cases (show T = "str" from ty)
    exact ⟨typeIs_str s z t,fun _ e=>nomatch e⟩
  | int i=>
    obtain ⟨t,rfl⟩:=r
    cases (show T = "int" from ty)
    exact ⟨typeIs_int s i t,fun _ e=>nomatch e⟩
  | ref p=>
    cases r
    rcases ty with ⟨rfl,xs,hq⟩ | ⟨rfl,o,hk,hc,hd⟩ | ⟨rfl,hk⟩ | ⟨rfl,S,n,hk⟩
    · obtain ⟨its,_,pl,_⟩:=I.list hq
      refine ⟨pl.isList.typeIs,fun a e=>?_⟩
      cases e
      obtain ⟨o,n,e,c,hd,_⟩:=pl
      exact ⟨o,e,hd⟩
    · refine ⟨⟨o,I.kIn p o hk,hc⟩,fun a e=>?_⟩
      cases e
      exact ⟨o,I.kIn _ o hk,hd⟩
    · have z:∃o,s.heap.get? p=some o∧o.ExactDict:=by
        rcases hk with ⟨kvs,hk⟩ | ⟨kvs,hk⟩
        · obtain ⟨_,_,_,_,o,_,_,e,ex,_⟩:=I.hok p _ hk
          exact ⟨o,e,ex⟩
        · obtain ⟨_,_,_,_,o,_,_,e,ex,_⟩:=I.hok p _ hk
          exact ⟨o,e,ex⟩
      obtain ⟨o,e,ex⟩:=z
      refine ⟨⟨o,e,ex.1⟩,fun a e2=>?_⟩
      cases e2
      exact ⟨o,e,ex.2.1⟩
    · obtain ⟨o,_,_,_,e,ex,_⟩:=I.hok p _ hk
      refine ⟨⟨o,e,ex.1⟩,fun a e2=>?_⟩
      cases e2
      exact ⟨o,e,ex.2.1⟩
  | _=>exact False.elim ty
noncomputable def tBM0 (K:PySem.W.Frag) (T:String) (r:V→List V→Hp→VK→Prop) (to:TE):TE:=fun σ H Q=>to σ H fun x H1=>tyV K T x H1∧r x [] H1 Q
noncomputable def tBM (K:PySem.W.Frag) (T:String) (r:V→List V→Hp→VK→Prop) (to:TE) (t:TA):TE:=fun σ H Q=>to σ H fun x H1=>tyV K T x H1∧t σ H1 fun xs H2=>r x xs H2 Q
variable {o e:Expr} {es:List Expr} {to:TE} {t:TA} {name:Str} {apos cpos:Pos} {T id:String} {r:V→List V→Hp→VK→Prop}
theorem pe_bm0 (pa:PlainAttrs T) (slot:Slot T name id) (hty:typeOf (.builtin id)=pure (.type "method_descriptor")) (hm:MtR X id r) (ho:PE X o to)
    (hbase:autoParam (attributeBase o name X.env (eval o X.env)=eval o X.env) au0_._auto_1) (hline:autoParam ((apos.endLine==cpos.line)=true) au0_._auto_1):PE X (.Call (.Attribute o name apos) [] [] cpos) (tBM0 X.K T r to):=by
  intro pins s σ H Q I h
  refine wpAny_Call_method0_late hbase hline (thn (ho pins s σ H _ I h) fun v s1 ⟨x,H1,I1,r1,ty,q1⟩=>?_)
  obtain ⟨h1,h2⟩:=tyV_is I1 r1 ty
  exact ⟨T,id,pa,slot,hty,h1,h2,Calls.callWith_builtin rfl (PySem.evalArgs_none (hm pins s1 σ H1 x [] v [] Q I1 r1 .nil q1))⟩
theorem pe_bm (pa:PlainAttrs T) (slot:Slot T name id) (hty:typeOf (.builtin id)=pure (.type "method_descriptor")) (hm:MtR X id r) (ho:PE X o to) (ha:PA X (e::es) t)
    (hbase:autoParam (attributeBase o name X.env (eval o X.env)=eval o X.env) au0_._auto_1)
    (hfew:autoParam (((backTo cpos (starEach (e::es) X.env)).all (fun x=>!x.1)&&(backToKw cpos (keywordEach [] X.env)).all (fun x=>x.1.isSome)
      && decide ((e::es).length+([]:List Keyword).length+(if ([]:List Keyword).isEmpty then 0 else 1)<30))=true) au0_._auto_1)
    (hline:autoParam ((apos.endLine==cpos.line)=true) au0_._auto_1) (hs:autoParam (starEach (e::es) X.env=(false,eval e X.env)::starEach es X.env) au0_._auto_1) (hplain:autoParam ((backTo cpos (starEach es X.env)).any (·.1)=false) au0_._auto_1) :
    PE X (.Call (.Attribute o name apos) (e::es) [] cpos) (tBM X.K T r to t):=by
  intro pins s σ H Q I h
  refine wpAny_Call_method_late hbase hfew hline rfl (thn (ho pins s σ H _ I h) fun v s1 ⟨x,H1,I1,r1,ty,q1⟩=>?_)
  obtain ⟨h1,h2⟩:=tyV_is I1 r1 ty
  refine ⟨T,id,pa,slot,hty,h1,h2,?_⟩
  have hA:=ha cpos pins s1 σ H1 _ I1 q1
  rw [hs] at hA ⊢
  refine Calls.callWith_builtin (by show (false||(backTo cpos (starEach es X.env)).any (·.1))=false;rw [hplain] <;> rfl) (Calls.evalArgs_plain ?_)
  exact thn hA fun us s2 ⟨vs,H2,I2,r2,q2⟩=>hm pins s2 σ H2 x vs v us Q I2 r1 r2 q2
/- xs.append(e),list.index on a module's tuple .. are MtR facts of 06m -/
end
end L2

namespace L2
open PySem PySem.Spec PyProof.Rows

noncomputable def MtM (X:Cx) (id:String) (r:V→List V→Hp→VK→Prop):Prop:=
  ∀(pins:List (Addr×Obj)) (s:Shared) (σ:St) (H:Hp) (x:V) (xs:List V) (v:Value) (us:List Value) (Q:VK),Inv X pins σ H s→RelV x v→Vals xs us→r x xs H Q →
    wpAny (model X.prog X.w) X.A (call (.builtin id) (v::us)) (EP X pins σ Q) X.xe s

theorem Vals.one:∀{x:V} {us:List Value},Vals [x] us→∃u,us=[u]∧RelV x u
  | _,_,.cons r .nil=>⟨_,rfl,r⟩
theorem Vals.rep {xs:List V} {us:List Value} (h:Vals xs us):∀k:Nat,Vals (List.replicate k xs).flatten (List.replicate k us).flatten
  | 0=>.nil
  | k+1=>by
    rw [List.replicate_succ,List.replicate_succ,List.flatten_cons,List.flatten_cons]
    exact Vals.append h (Vals.rep h k)
theorem foldl_rep (its:List Value):∀(k:Nat) (acc:List Value),
    List.foldl (fun x1 x2=>x1++x2) acc.toArray (List.replicate k its.toArray)=(acc++(List.replicate k its).flatten).toArray
  | 0,acc=>by simp
  | k+1,acc=>by
    have e:acc.toArray++its.toArray=(acc++its).toArray:=by simp
    have e2:(acc++its)++(List.replicate k its).flatten=acc++(List.replicate (k+1) its).flatten:=by
      rw [List.replicate_succ,List.flatten_cons,List.append_assoc]
    rw [← e2,← foldl_rep its k (acc++its),← e,List.replicate_succ,List.foldl_cons]

section
variable {X:Cx} {pins:List (Addr×Obj)} {σ:St} {H:Hp} {s:Shared} {l b:Addr} {xs ys zs:List V}

theorem Inv.lset {its its':List Value} {n:Nat} {f:Array Value→Array Value} {t':Nat} (I:Inv X pins σ H s) (hH:H l=some (.lst xs))
    (e:s.heap.get? l=some { cls:=.type "list",data:=.seq its.toArray n }) (hf:f its.toArray=its'.toArray) (hv:Vals ys its') (hz:ys.length≤sizeLine) :
    Inv X pins σ (upd H l (.lst ys)) { s with heap:=s.heap.update l (Obj.mapSeq f),toks:=t' }:=by
  have q:=PySem.IsL.update e f
  rw [hf] at q
  refine I.write (x:=l) (e:=l) (by rw [hH];exact trivial) (.inl rfl) (fun b' u hb hu=>(Heap.get?_update_other s.heap (Obj.mapSeq f) (Ne.symm hb)).trans hu) ⟨_,q⟩ ?_
  exact ⟨hz,its',_,hv,q⟩
theorem Inv.lnew {its:List Value} {t':Nat} (I:Inv X pins σ H s) (hv:Vals ys its) (hz:ys.length≤sizeLine) :
    Inv X pins σ (upd H s.heap.objs.size (.lst ys)) { s with heap:=s.heap.push { cls:=.type "list",data:=.seq its.toArray },toks:=t' }:=
  I.laid (fun _ _ q=>Heap.get?_push_of_some _ q) (Nat.le_refl _) ⟨hz,its,0,hv,Heap.get?_push_size _ rfl⟩
theorem Inv.fresh (I:Inv X pins σ H s):H s.heap.objs.size=none:=I.hok.fresh (Nat.le_refl _)
theorem Inv.lstM (I:Inv X pins σ H s) (hH:H l=some (.lst xs)):xs.length≤sizeLine∧∃(its:List Value) (n:Nat),Vals xs its∧xs.length=its.length∧s.heap.get? l=some { cls:=.type "list",data:=.seq its.toArray n }:=by
  obtain ⟨z,its,n,r,e⟩:=I.hok l _ hH
  exact ⟨z,its,n,r,r.length,e⟩

theorem notLongL {n:Nat} (h:n≤sizeLine):Builtin.List.listTooLong n=false:=by
  unfold Builtin.List.listTooLong
  exact decide_eq_false (by omega)
end

section
variable {X:Cx}

noncomputable def rAppend:V→List V→Hp→VK→Prop:=fun x vs H Q=>∃l xs y,x=.ref l∧vs=[y]∧H l=some (.lst xs)∧xs.length<sizeLine∧Q .non (upd H l (.lst (xs++[y])))
theorem mt_append:MtM X "list.append" rAppend:=by
  intro pins s σ H x vs v us Q I rx rv h
  obtain ⟨l,xs,y,rfl,rfl,hH,hz,q⟩:=h
  cases rx
  obtain ⟨u,rfl,ru⟩:=rv.one
  obtain ⟨z,its,n,r,hl,e⟩:=I.lstM hH
  refine call_meets F.slot_list_append ⟨_,e,rfl⟩ F.entry_list_append (F.args_list_append_2 _ _) (PySem.list_append l its.toArray n u (by rw [List.size_toArray];omega)) ⟨e,?_⟩
  refine ⟨.non,_,I.lset (its':=its++[u]) hH e (by simp) (r.append (.cons ru .nil)) ?_,rfl,q⟩
  rw [List.length_append,List.length_singleton]
  omega

noncomputable def rExtend:V→List V→Hp→VK→Prop:=fun x vs H Q=>∃l b xs zs,x=.ref l∧vs=[.ref b]∧H l=some (.lst xs)∧H b=some (.lst zs)∧xs.length+zs.length≤sizeLine∧Q .non (upd H l (.lst (xs++zs)))
theorem mt_extend:MtM X "list.extend" rExtend:=by
  intro pins s σ H x vs v us Q I rx rv h
  obtain ⟨l,b,xs,zs,rfl,rfl,hH,hB,hz,q⟩:=h
  cases rx
  obtain ⟨u,rfl,ru⟩:=rv.one
  cases ru
  obtain ⟨z,its,n,r,hl,e⟩:=I.lstM hH
  obtain ⟨z2,its2,n2,r2,hl2,e2⟩:=I.lstM hB
  have hsz:its.toArray.size+its2.toArray.size≤sizeLine:=by rw [List.size_toArray,List.size_toArray];omega
  have hlong:¬(!its.toArray.isEmpty&&Builtin.List.listTooLong (its.toArray.size+its2.toArray.size))=true:=by
    rw [notLongL hsz,Bool.and_false]
    exact Bool.false_ne_true
  refine call_meets F.slot_list_extend ⟨_,e,rfl⟩ F.entry_list_extend (F.args_list_extend_2 _ _)
    (AutoSeq1.list_extend_list_list_0 l its.toArray n b its2.toArray n2 hlong (by rw [List.size_toArray];omega) (by omega)) ⟨e,e2,?_⟩
  refine ⟨.non,_,I.lset (its':=its++its2) hH e (by simp) (r.append r2) ?_,rfl,q⟩
  rw [List.length_append]
  omega

noncomputable def rCat:R2:=fun x y H Q=>∃l b xs zs,x=.ref l∧y=.ref b∧H l=some (.lst xs)∧H b=some (.lst zs)∧xs.length+zs.length≤sizeLine∧∀p,H p=none→Q (.ref p) (upd H p (.lst (xs++zs)))
theorem op_cat:OpR X (binaryOp .Add) rCat:=by
  intro pins s σ H x y v u Q I rx ry h
  obtain ⟨l,b,xs,zs,rfl,rfl,hH,hB,hz,q⟩:=h
  cases rx
  cases ry
  obtain ⟨z,its,n,r,hl,e⟩:=I.lstM hH
  obtain ⟨z2,its2,n2,r2,hl2,e2⟩:=I.lstM hB
  refine PySem.P.add_list e e2 ?_ (by rw [List.size_toArray,List.size_toArray];omega)
  have ea:its.toArray++its2.toArray=(its++its2).toArray:=by simp
  rw [ea]
  exact ⟨.ref _,_,I.lnew (t':=s.toks) (r.append r2) (by rw [List.length_append];omega),rfl,q _ I.fresh⟩
noncomputable def rRep:R2:=fun x y H Q=>∃l k xs,x=.ref l∧y=.int k∧H l=some (.lst xs)∧-(2 ^ 63)≤k∧k<2 ^ 63∧xs.length*k.toNat≤sizeLine ∧
  ∀p,H p=none→Q (.ref p) (upd H p (.lst (List.replicate k.toNat xs).flatten))
theorem len_rep {α:Type} (xs:List α) (k:Nat):(List.replicate k xs).flatten.length=k*xs.length:=by
  induction k with
  | zero=>simp
  | succ k ih=>rw [List.replicate_succ,List.flatten_cons,List.length_append,ih,Nat.succ_mul,Nat.add_comm]
theorem op_rep:OpR X (binaryOp .Mult) rRep:=by
  intro pins s σ H x y v u Q I rx ry h
  obtain ⟨l,k,xs,rfl,rfl,hH,h1,h2,hz,q⟩:=h
  cases rx
  obtain ⟨t,rfl⟩:=ry
  obtain ⟨z,its,n,r,hl,e⟩:=I.lstM hH
  have hlen:its.toArray.size*k.toNat≤sizeLine:=by rw [List.size_toArray,← hl];exact hz
  have hcap:¬its.toArray.size*k.toNat>(2 ^ 63-1)/8:=by
    have:(sizeLine:Nat)≤(2 ^ 63-1)/8:=by decide
    omega
  have hfit:¬(!Builtin.List.listFitsIndex k)=true:=by
    rw [fitsIndex_both h1 h2]
    exact Bool.false_ne_true
  have hlong:¬Builtin.List.listTooLong (its.toArray.size*k.toNat)=true:=by
    rw [notLongL hlen]
    exact Bool.false_ne_true
  have hnew:List.foldl (fun x1 x2=>x1++x2) #[] (List.replicate (if its.toArray.isEmpty=true then 0 else k.toNat) its.toArray)=(List.replicate k.toNat its).flatten.toArray:=by
    have f0:∀m:Nat,List.foldl (fun x1 x2=>x1++x2) #[] (List.replicate m its.toArray)=(List.replicate m its).flatten.toArray:=fun m=>by
      have:=foldl_rep its m []
      rw [List.nil_append] at this
      exact this
    rw [f0]
    cases its with
    | nil=>simp
    | cons a r'=>rw [if_neg (by simp)]
  refine wpAny_binaryOp_repeat_ref (T := "list") (U := "int") (by decide) ⟨_,e,rfl⟩ (fun s'=>typeIs_int s' k t) noFill_list_mul F.fills_int_mul F.slot_int_rmul repeat_list F.slot_int_index.lookup
    (call_meets F.slot_int_rmul (typeIs_int s k t) F.entry_int_rmul (F.args_int_rmul_2 _ _) (int___rmul___int_list k t l its.toArray n)
      ⟨e,rfl,⟨_,e,rfl⟩,call_meets F.slot_list_mul ⟨_,e,rfl⟩ F.entry_list_mul (F.args_list_mul_2 _ _) (AutoListH.list___mul___list_int_3 l its.toArray n k t hfit hcap hlong) ⟨e,?_⟩⟩)
  rw [hnew]
  exact ⟨.ref _,_,I.lnew (t':=s.toks) (r.rep k.toNat) (by rw [len_rep,Nat.mul_comm];exact hz),rfl,q _ I.fresh⟩

end

section
variable {prog:Program} {w:World} {A:Around} {E:Value→Shared→Prop} {s:Shared}
set_option maxRecDepth 100000 in
end

section
variable {X:Cx}
end
end L2

namespace Att
open PySem PySem.W PySem.Calls PyProof.Rows

theorem ints_of_wellAll {P:Params} {h:Heap}:∀(ns:List Int) (vs:List Value),WellAll P h vs (ns.map WData.int)→IntsAre vs ns:=by
  intro ns
  induction ns with
  | nil=>
    intro vs w
    rw [List.map_nil] at w
    cases w
    exact .nil
  | cons n ns ih=>
    intro vs w
    rw [List.map_cons] at w
    cases w with
    | cons a b=>
      cases a
      exact .cons _ _ (ih _ b)

theorem script_of {l:OpenLaw} {n:Nat} (hn:l.most=some n) {P:Params} {h:Heap} {args:List WData} {vals:List Value}
    (hpre:l.row.toRowW.claim.pre args=true) (hwl:WellAll P h vals args) :
    ∃a vs ns,vals=[Value.ref a]∧args=[WData.list (ns.map WData.int)]∧h.get? a=some { cls:=.type "list",data:=.seq vs.toArray }∧IntsAre vs ns∧ns.length≤n:=by
  have hsh:WShape.hasAll [] args [.list .int]=true:=(pre_splitW hpre).1
  have hc:l.pre.holds [] { args:=args }=true:=(pre_splitW hpre).2
  obtain ⟨d,r,rfl,h1,h2⟩:=hasAllW_cons hsh
  obtain rfl:=hasAllW_nil h2
  obtain ⟨xs,rfl,h3⟩:=hasW_list h1
  obtain ⟨ns,rfl⟩:=items_int h3
  have hlen:ns.length≤n:=by
    unfold OpenLaw.pre at hc
    have h4:(WTm.not (.lt (.lit (.int (n:Int))) (.len (.arg 0)))).holds [] { args:=[.list (ns.map .int)] }=true:=by
      have h4:=(holds_andW hc).1
      rw [hn] at h4
      exact h4
    have h5:=condW_of h4 (w_not (w_lt w_lit (w_len_list (w_arg rfl))))
    rw [List.length_map] at h5
    refine Nat.le_of_not_lt fun q=>?_
    have q':(n:Int)<((ns.length:Nat):Int):=by omega
    first
      | (rw [decide_eq_true q'] at h5;exact absurd h5 (by decide))
      | (simp at h5;omega)
  cases hwl with
  | cons w1 w2=>
    cases w2
    cases w1 with
    | list ho hall=>exact ⟨_,_,ns,rfl,rfl,ho,ints_of_wellAll ns _ hall,hlen⟩

theorem post_true (l:OpenLaw) (args:List WData):l.row.toRowW.claim.post args (.bool true) args=true:=
  postW_of (r:=l.row.toRowW) (X:=(true==true))
    (show WShape.has [] (.bool true) .bool=true by first | rfl | decide | simp [WShape.has,WShape.arms,WShape.armsAll])
    (show (WTm.eq .res (.lit (.bool true))).value [] { args:=args,res:=some (.bool true),after:=args }=some (.bool (true==true)) from w_eq_bool (w_res rfl) w_lit) rfl

theorem attach_call {l:OpenLaw} {n:Nat} {q:Program} {loose:List Str} {XP:(Str→Option Value)→Heap→Prop} {YP:World→Heap→Prop} {d:DefRec}
    (hn:l.most=some n) (hdf:d.params.defaults=[])
    (call:∀(w:World) (s₀ s₁:Shared) (mg mb:Str→Option Value) (fa:Addr) (o:Obj) (pm cd doc:Value) (a:Addr) (vs:List Value) (ns:List Int),
      Ground q loose [] XP w s₀ mg mb s₁.heap→YP w s₁.heap →
      s₁.heap.get? fa=some o→o.data=.func (docDef d.name d.params d.body d.scope pm cd doc)→s₁.heap.CodeRec cd d.name→mg d.name=some (.ref fa) →
      s₁.heap.get? a=some { cls:=.type "list",data:=.seq vs.toArray }→IntsAre vs ns→ns.length≤n→s₁.gens=#[] →
      codeAny (model l.prog w) callerA (.call (.ref fa) ⟨[.ref a],[]⟩) (fun r s'=>r=.ok (.ret (.bool true))∧OldK s₁.heap s'.heap∧s'.os=s₁.os∧AllBare s'.gens) s₁) :
    WalkO q loose XP YP l.row.toRowW d [] (fun f vs=>PySem.call f vs):=by
  intro w s₀ s₁ mg mb G Y fa o pm cd doc dV kV ho hd hcd hD hmg hg args vals as hpre hlay hrd hwl hlo
  obtain rfl:dV=.none:=Dflts.none hD hdf
  obtain rfl:kV=.none:=Dflts.noKw hD
  obtain ⟨a,vs,ns,rfl,rfl,hobj,hints,hlen⟩:=script_of hn hpre hwl
  refine enter_call (codeAny_mono (call w s₀ s₁ mg mb fa o pm cd doc a vs ns G Y ho (fd_plain hd) hcd hmg hobj hints hlen hg) fun r s' hq=>?_)
  obtain ⟨rfl,h2,h3,h4⟩:=hq
  exact ⟨.inl ⟨.bool true,.bool true,[],rfl,fun _=>rfl,.bool true,post_true l _,fun _=>⟨List.Pairwise.nil,fun _ hm=>(nomatch hm)⟩⟩,h2,h3,h4⟩

section
variable {prog:Program} {w:World} {A:Around} {E:Value→Shared→Prop} {s:Shared} {K:Frag}

end
end Att

namespace L2
open PySem PySem.Spec PyProof.Rows

theorem vals_ints:∀{vs:List Value} {ns:List Int},IntsAre vs ns→Vals (ns.map V.int) vs
  | _,_,.nil=>.nil
  | _,_,.cons n t h=>.cons ⟨t,rfl⟩ (vals_ints h)

noncomputable def Only (H:Hp):Prop:=∀b,H b=none∨∃o xs,H b=some (.frz o (.lst xs))

theorem law_call {P:Program} {w:World} {K:PySem.W.Frag} {mg mb:Str→Option Value} {CX:CXT} {k:Nat} {fa a:Addr} {fd:FuncData} {x:Str} {sp:Sp} {s₁:Shared} {vs:List Value} {ns:List Int}
    (KX:K.In s₁.heap) (hns:s₁.heap.Ns mainGlobals mg) (hb:s₁.heap.Ns builtinsNs mb) (hbb:∀x:Str,x ≠ "__name__"→mb x=bootBuiltins x) (hlim:s₁.heap.NoLimit) (hg:s₁.gens=#[])
    (ha:s₁.heap.get? a=some { cls:=.type "list",data:=.seq vs.toArray }) (hi:IntsAre vs ns) (hl:ns.length≤sizeLine) (hr:Room k callerA)
    (F:∀base:Heap,K.In base→base.Ns mainGlobals mg→FnOk P w K mg base CX k fa fd [x] sp) (hbind:∀(s:Shared) (u:Value),BindsTo s fd ⟨[u],[]⟩ [(x,u)])
    (hsp:∀H:Hp,Only H→SqL K H a (ns.map V.int)→sp [.ref a] H (fun v _=>v=.bl true) fun _ _ _=>False)
    (hCX:∀H e s',CX [] H s₁ (fun _ _ _=>False) e s'→False) :
    codeAny (model P w) callerA (.call (.ref fa) ⟨[.ref a],[]⟩) (fun r s'=>r=.ok (.ret (.bool true))∧OldK s₁.heap s'.heap∧s'.os=s₁.os∧AllBare s'.gens) s₁:=by
  have rv:=vals_ints hi
  have lenV:=hi.length
  -- from an abstract heap in which nothing but the script may be tracked
  have core:∀H:Hp,Only H→SqL K H a (ns.map V.int)→HOk P w H s₁.heap→(∀b,H b≠none→b=a)→(H a≠none→K.lookup a=none) →
      codeAny (model P w) callerA (.call (.ref fa) ⟨[.ref a],[]⟩) (fun r s'=>r=.ok (.ret (.bool true))∧OldK s₁.heap s'.heap∧s'.os=s₁.os∧AllBare s'.gens) s₁:=by
    intro H hO hS hok hA hK
    have base_of:∀{b:Addr} {o:Obj},s₁.heap.get? b=some o→H b=none→(hidT s₁.heap H).get? b=some o:=fun e n=>hidT_get e n
    have noA:∀{b:Addr} {o:Obj} {es:Array DictEntry} {ep:Nat},s₁.heap.get? b=some o→o.data=.dict es ep→H b=none:=fun {b o es ep} e d=>by
      cases q:H b with
      | none=>rfl
      | some u=>
        have e':b=a:=hA b (by rw [q];simp)
        subst e'
        rw [ha] at e;cases e
        have d':Data.seq vs.toArray _=Data.dict es ep:=d
        cases d'
    have nsK:∀{b:Addr} {m:Str→Option Value},s₁.heap.Ns b m→(hidT s₁.heap H).Ns b m:=fun {b m} ⟨o,es,ep,e,d,r⟩=>⟨o,es,ep,base_of e (noA e d),d,r⟩
    have hKb:K.In (hidT s₁.heap H):=fun b o e=>base_of (KX b o e) (by
      cases q:H b with
      | none=>rfl
      | some u=>
        have e':b=a:=hA b (by rw [q];simp)
        subst e'
        rw [hK (by rw [q];simp)] at e;cases e)
    have hM:Mod K mg (hidT s₁.heap H):=⟨hKb,nsK hns,⟨mb,nsK hb,hbb⟩,let ⟨mc,h1,h2⟩:=hlim;⟨mc,nsK h1,h2⟩⟩
    have e0:Env0 P w K mg (hidT s₁.heap H) callerA [] s₁ H:=⟨rfl,hM,fun b o e=>of_hidT e,Nat.le_of_eq (hidT_size _ _),trivial,fun b hb=>absurd (show b∈([]:List Addr) from hb) (by simp),hok,.of_eq hg⟩
    refine codeAny_mono ((F _ hKb (nsK hns)).run callerA [] s₁ H ⟨[.ref a],[]⟩ [.ref a] [.ref a] _ _ hr e0 (hbind s₁ (.ref a)) (.cons rfl .nil) (hsp H hO hS)) fun r s' h=>?_
    cases r with
    | error e=>exact (hCX H e s' h).elim
    | ok fl=>
      cases fl with
      | next=>exact False.elim h
      | brk=>exact False.elim h
      | cont=>exact False.elim h
      | ret u=>
        obtain ⟨v,H',os,bare,un,hok',r',q⟩:=h
        have q':v=.bl true:=q
        subst q'
        obtain rfl:u=Value.bool true:=r'
        refine ⟨rfl,OldK.of_keep fun b o e=>?_,os,bare⟩
        cases q:H b with
        | none=>exact un.keep b o e q (by intro z;exact absurd (show b∈([]:List Addr) from z) (by simp)) (by simp)
        | some u=>
          rcases hO b with z | ⟨ob,xs,z⟩
          · rw [q] at z;cases z
          · have z2:=un.frzs b ob _ z
            obtain ⟨e1,_⟩:=hok b _ z
            obtain ⟨e2,_⟩:=hok' b _ z2
            rw [e] at e1;cases e1
            exact e2
  cases hk:K.lookup a with
  | some o=>
    -- the script is one of the module's own objects
    have e:=KX a o hk
    rw [ha] at e
    cases e
    refine core (fun _=>none) (fun _=>.inl rfl) (.inr ⟨_,vs.toArray,_,hk,rfl,rfl,rfl,by rw [List.size_toArray,lenV];exact hl,by simpa using rv⟩) (fun b u z=>by have z':(none:Option HO)=some u:=z;cases z') (fun b z=>absurd rfl z) fun z=>absurd rfl z
  | none=>
    refine core (fun b=>if b=a then some (.frz { cls:=.type "list",data:=.seq vs.toArray } (.lst (ns.map V.int))) else none) (fun b=>?_) (.inl (.inr ⟨{ cls:=.type "list",data:=.seq vs.toArray },if_pos rfl⟩)) (fun b u z=>?_) (fun b z=>?_) fun _=>hk
    · by_cases hb:b=a
      · exact .inr ⟨_,_,if_pos hb⟩
      · exact .inl (if_neg hb)
    · by_cases hb:b=a
      · have z':=(if_pos hb).symm.trans z
        cases z'
        subst hb
        exact ⟨ha,by rw [List.length_map];exact hl,vs,_,rv,ha⟩
      · have z':=(if_neg hb).symm.trans z
        cases z'
    · by_cases hb:b=a
      · exact hb
      · exact absurd (if_neg hb) z
end L2

namespace L2
open PySem PySem.Spec PyProof.Rows

theorem walk_of {l:PySem.W.OpenLaw} {n k:Nat} {q:Program} {loose:List Str} {XP:(Str→Option Value)→Heap→Prop} {YP:World→Heap→Prop} {d:DefRec} {K:Params→PySem.W.Frag} {CX:World→CXT} {sp:World→Sp} {x:Str}
    (hn:l.most=some n) (hn2:n≤sizeLine) (hdf:d.params.defaults=[]) (hr:Room k callerA)
    (hY:∀(w:World) (h:Heap),YP w h→(K w.params).In h)
    (F:∀(w:World) (mg:Str→Option Value) (fa:Addr) (h:Heap),(K w.params).In h→h.Ns mainGlobals mg→mg d.name=some (.ref fa) →
      ∃fd:FuncData,(∀(s:Shared) (u:Value),BindsTo s fd ⟨[u],[]⟩ [(x,u)]) ∧
        ∀base:Heap,(K w.params).In base→base.Ns mainGlobals mg→FnOk l.prog w (K w.params) mg base (CX w) k fa fd [x] (sp w))
    (hsp:∀(w:World) (H:Hp) (a:Addr) (ns:List Int),ns.length≤n→Only H→SqL (K w.params) H a (ns.map V.int)→sp w [.ref a] H (fun v _=>v=.bl true) fun _ _ _=>False)
    (hCX:∀(w:World) (H:Hp) (s:Shared) (e:Value) (s':Shared),CX w [] H s (fun _ _ _=>False) e s'→False) :
    PySem.W.WalkO q loose XP YP l.row.toRowW d [] (fun f vs=>PySem.call f vs):=by
  refine Att.attach_call hn hdf fun w s₀ s₁ mg mb fa o pm cd doc a vs ns G Y ho hd hcd hmg hobj hints hlen hg=>?_
  have KX:=hY w _ Y
  obtain ⟨fd,hb,hF⟩:=F w mg fa _ KX G.T.g hmg
  exact law_call KX G.T.g G.T.b G.T.builtins G.T.nolimit hg hobj hints (Nat.le_trans hlen hn2) hr hF hb (fun H hO hS=>hsp w H a ns hlen hO hS) fun H e s'=>hCX w H s₁ e s'
end L2



namespace L2
open PySem PySem.Spec PyProof.Rows

noncomputable def defArgs (s:Stmt):Arguments:=match s with
  | .FunctionDef _ a _ _ _ _ _ _ _ _=>a
  | _=>{ posonlyargs:=[],args:=[],vararg:=none,kwonlyargs:=[],kw_defaults:=[],kwarg:=none,defaults:=[] }
noncomputable def defBody (s:Stmt):List Stmt:=match s with
  | .FunctionDef _ _ b _ _ _ _ _ _ _=>b
  | _=>[]
noncomputable def defScope (s:Stmt):Scope:=match s with
  | .FunctionDef _ _ _ _ _ _ sc _ _ _=>sc
  | _=>{ kind:=.function,names:=[],isGenerator:=false,isCoroutine:=false }

noncomputable abbrev CX0:CXT:=fun _ _ _ _ _ _=>False
noncomputable abbrev E0:XK:=fun _ _ _=>False
theorem pass0 {X:Cx}:Passes CX0 X E0:=fun _ _ _ _ _ _ _ h=>h.elim

structure Fun (K:PySem.W.Frag) (x qual:Str) (st:Stmt) (f:Addr) (fd:FuncData):Prop where
  ex:∃(oc:Value) (od:Option Addr) (kV doc pm:Value) (an:Option Addr) (cdv ct:Value) (osl:Array (Option Value)),
    fd=PySem.W.fnOf x qual (defArgs st) (defBody st) (defScope st) .none kV doc pm an cdv ct∧K.lookup f=some ⟨oc,od,.func fd,osl⟩∧PySem.W.codeIn K cdv qual=true
  kp:PySem.W.keepIn K (.ref f)=true
section
variable {P:Program} {w:World} {K:PySem.W.Frag} {mg:Str→Option Value} {base:Heap}
theorem Fun.ok {x qual:Str} {st:Stmt} {f:Addr} {fd:FuncData} {N ps:List Str} {k:Nat} {sp:Sp} (F:Fun K x qual st f fd) (S:FnScope N ps (defScope st)) (len:∀vs H Q E,sp vs H Q E→vs.length=ps.length)
    (hbody:∀(cdv:Value) (A:Around) (outer:List Env) (s:Shared) (H:Hp) (vs:List V) (Q:VK) (E:XK),Room k (A.deeper (envOfC qual (defScope st) s.heap.objs.size f cdv))→sp vs H Q E →
      ∃t,PSs (cxOf CX0 P w K mg base N qual (defScope st) f cdv A outer s H E).nox (defBody st) t∧t { nx:=fun _ H'=>Q .non H',rt:=Q } (start N vs) H):FnOk P w K mg base CX0 (k+1) f fd ps sp:=by
  obtain ⟨oc,od,kV,doc,pm,an,cdv,ct,osl,rfl,lk,hcd⟩:=F.ex
  refine fn_of lk hcd S len fun A outer s H vs Q E hr hsp=>?_
  obtain ⟨t,h,q⟩:=hbody cdv A outer s H vs Q E hr hsp
  exact ⟨t,h.nox,q⟩
theorem Fun.binds {x qual:Str} {st:Stmt} {f:Addr} {fd:FuncData} {ps:List Str} (F:Fun K x qual st f fd)
    (h:∀(kV doc pm:Value) (an:Option Addr) (cdv ct:Value) (us:List Value),us.length=ps.length→bindArgs (PySem.W.fnOf x qual (defArgs st) (defBody st) (defScope st) .none kV doc pm an cdv ct) ⟨us,[]⟩=pure (ps.zip us)):Binds K fd ps []:=by
  obtain ⟨oc,od,kV,doc,pm,an,cdv,ct,osl,rfl,lk,hcd⟩:=F.ex
  exact .all (h kV doc pm an cdv ct)
theorem fun_mk {x qual:Str} {st:Stmt} {f:Addr} {oc:Value} {od an:Option Addr} {osl:Array (Option Value)} {kV doc pm cdv ct:Value} (l:K.lookup f=some ⟨oc,od,.func (PySem.W.fnOf x qual (defArgs st) (defBody st) (defScope st) .none kV doc pm an cdv ct),osl⟩)
    (c:PySem.W.codeIn K cdv qual=true) (k:PySem.W.keepIn K (.ref f)=true):Fun K x qual st f (PySem.W.fnOf x qual (defArgs st) (defBody st) (defScope st) .none kV doc pm an cdv ct):=⟨⟨oc,od,kV,doc,pm,an,cdv,ct,osl,rfl,l,c⟩,k⟩
end
theorem small1000 {n:Nat} (h:n≤1000):n<sizeLine:=Nat.lt_of_le_of_lt h (by decide)

section
variable {X:Cx}
theorem pv (i:Nat) {x:Str} {pos:Pos} (hN:autoParam (X.N[i]?=some x) au0_._auto_1) (hv:Vis X.env.scope x:=by first | exact Or.inl rfl | exact Or.inr (Or.inl rfl) | exact Or.inr (Or.inr rfl)) (hd:autoParam ((x==("__debug__":Str))=false) au1_._auto_1)
    (hcd:autoParam ((x==("__classdict__":Str))=false) au1_._auto_1):PE X (.Name x pos) (tVar i):=pe_var hN hv hd hcd
end

theorem iteF {A B:Prop} (h:B):if false=true then A else B:=by
  rw [if_neg Bool.false_ne_true]
  exact h
theorem iteT {A B:Prop} (h:A):if true=true then A else B:=by
  rw [if_pos rfl]
  exact h
theorem ite2 {c A B:Prop} [Decidable c] (h1:c→A) (h2:¬c→B):if c then A else B:=by
  by_cases h:c
  · rw [if_pos h]
    exact h1 h
  · rw [if_neg h]
    exact h2 h
noncomputable def Same (H H':Hp):Prop:=∀b o,H b=some o→H' b=some o
theorem Same.refl (H:Hp):Same H H:=fun _ _ h=>h
theorem Same.trans {H H1 H2:Hp} (a:Same H H1) (b:Same H1 H2):Same H H2:=fun c o h=>b c o (a c o h)
theorem Same.free {H H':Hp} (e:Same H H') {l:Addr} (h:H' l=Option.none):H l=Option.none:=by
  cases q:H l with
  | none=>rfl
  | some o=>
    rw [e l o q] at h
    cases h
theorem Same.seq {K:PySem.W.Frag} {H H':Hp} {a:Addr} {xs:List V} (e:Same H H') (h:SqL K H a xs):SqL K H' a xs:=by
  rcases h with (h | ⟨o,h⟩) | h
  · exact .inl (.inl (e _ _ h))
  · exact .inl (.inr ⟨o,e _ _ h⟩)
  · exact .inr h

end L2

set_option maxHeartbeats 4000000
namespace Mth

noncomputable def Sz (n:Nat) (x:Int):Prop:=x.natAbs<2 ^ n
noncomputable instance {n:Nat} {x:Int}:Decidable (Sz n x):=inferInstanceAs (Decidable (x.natAbs<2 ^ n))
theorem Sz.mono {m n:Nat} {x:Int} (h:Sz m x) (hm:m≤n):Sz n x:=
  Nat.lt_of_lt_of_le h (Nat.pow_le_pow_right (by decide) hm)
theorem Sz.mul {m n:Nat} {x y:Int} (hx:Sz m x) (hy:Sz n y):Sz (m+n) (x*y):=by
  unfold Sz at *
  rw [Int.natAbs_mul,Nat.pow_add]
  exact Nat.mul_lt_mul'' hx hy
theorem Sz.add {m:Nat} {x y:Int} (hx:Sz m x) (hy:Sz m y):Sz (m+1) (x+y):=by
  unfold Sz at *
  rw [Nat.pow_succ]
  have:=Int.natAbs_add_le x y
  (first | lia | omega)
theorem Sz.neg {m:Nat} {x:Int} (hx:Sz m x):Sz m (-x):=by
  unfold Sz at *
  rw [Int.natAbs_neg];exact hx
theorem Sz.sub {m:Nat} {x y:Int} (hx:Sz m x) (hy:Sz m y):Sz (m+1) (x-y):=by
  rw [Int.sub_eq_add_neg];exact hx.add hy.neg
theorem Sz.of_le {m:Nat} {x y:Int} (hx:Sz m x) (h:y.natAbs≤x.natAbs):Sz m y:=Nat.lt_of_le_of_lt h hx
theorem Sz.log {m:Nat} {x:Int} (hx:Sz m x) (hm:m≤9000) (h0:0<m):x.natAbs.log2<9000:=by
  by_cases h:x.natAbs=0
  · rw [h];decide
  · have:=(Nat.log2_lt h).mpr hx
    (first | lia | omega)
theorem Sz.of_lt {m k:Nat} {x:Int} (h:x.natAbs<k) (hk:k≤2 ^ m):Sz m x:=Nat.lt_of_lt_of_le h hk

structure Low (t b t' b':Int):Prop where
  pos:1≤b'
  co:Int.gcd t' b'=1
  eq:t'*b=t*b'
  tb:t'.natAbs≤t.natAbs
  bb:b'.natAbs≤b.natAbs

theorem gcd_step (x y:Nat):Nat.gcd y (x % y)=Nat.gcd x y:=by
  rw [Nat.gcd_comm y,← Nat.gcd_rec,Nat.gcd_comm]

theorem ediv_gcd {t b:Int} (hb:b≠0):Int.gcd (t/(Int.gcd t b:Int)) (b/(Int.gcd t b:Int))=1:=by
  have hp:0<Int.gcd t b:=Int.gcd_pos_of_ne_zero_right t hb
  rw [Int.gcd_ediv (Int.gcd_dvd_left ..) (Int.gcd_dvd_right ..)]
  rw [Int.natAbs_natCast]
  exact Nat.div_self hp
theorem le_of_mul {a:Int} {g:Nat} {c:Int} (hg:0<g) (e:a*(g:Int)=c):a.natAbs≤c.natAbs:=by
  subst e
  rw [Int.natAbs_mul,Int.natAbs_natCast]
  exact Nat.le_mul_of_pos_right _ hg

theorem low_mk {t b t' b':Int} {g:Nat} (hg:0<g) (e1:t'*(g:Int)=t) (e2:b'*(g:Int)=b) (hb:0<b) (hc:Int.gcd t' b'=1):Low t b t' b':=by
  refine ⟨?_,hc,?_,le_of_mul hg e1,le_of_mul hg e2⟩
  · have:0<b':=Int.pos_of_mul_pos_left (b:=(g:Int)) (by rw [e2];exact hb) (by (first | lia | omega))
    (first | lia | omega)
  · rw [← e1,← e2,Int.mul_assoc,Int.mul_comm (g:Int) b']

theorem low_pos {t b:Int} (hb:0<b):Low t b (t.fdiv (Int.gcd t b:Int)) (b.fdiv (Int.gcd t b:Int)):=by
  have hp:0<Int.gcd t b:=Int.gcd_pos_of_ne_zero_right t (by (first | lia | omega))
  have h1:(Int.gcd t b:Int)∣t:=Int.gcd_dvd_left ..
  have h2:(Int.gcd t b:Int)∣b:=Int.gcd_dvd_right ..
  rw [Int.fdiv_eq_ediv_of_nonneg _ (by (first | lia | omega)),Int.fdiv_eq_ediv_of_nonneg _ (by (first | lia | omega))]
  exact low_mk hp (Int.ediv_mul_cancel h1) (Int.ediv_mul_cancel h2) hb (ediv_gcd (by (first | lia | omega)))

theorem fdiv_neg_neg (a:Int) (g:Nat):a.fdiv (-(g:Int))=(-a).fdiv (g:Int):=by
  have:=Int.neg_fdiv_neg a (-(g:Int))
  rw [Int.neg_neg] at this
  exact this.symm

theorem low_neg {t b:Int} (hb:b<0):Low (-t) (-b) (t.fdiv (-(Int.gcd t b:Int))) (b.fdiv (-(Int.gcd t b:Int))):=by
  have e:Int.gcd t b=Int.gcd (-t) (-b):=by rw [Int.gcd_neg,Int.neg_gcd]
  rw [fdiv_neg_neg,fdiv_neg_neg,e]
  exact low_pos (by (first | lia | omega))

theorem co_dvd {b a d:Int} (hc:Int.gcd b a=1) (h:b∣a*d):b∣d:=by
  have h':b.natAbs∣a.natAbs*d.natAbs:=by rw [← Int.natAbs_mul];exact Int.natAbs_dvd_natAbs.mpr h
  have hc':Nat.Coprime b.natAbs a.natAbs:=hc
  exact Int.natAbs_dvd_natAbs.mp (hc'.dvd_of_dvd_mul_left h')
theorem low_unique {a b c d:Int} (hb:1≤b) (hd:1≤d) (h1:Int.gcd a b=1) (h2:Int.gcd c d=1) (e:a*d=c*b):a=c∧b=d:=by
  have k1:b∣d:=by
    have:b∣a*d:=⟨c,by rw [e,Int.mul_comm]⟩
    exact co_dvd (by rw [Int.gcd_comm];exact h1) this
  have k2:d∣b:=by
    have:d∣c*b:=⟨a,by rw [← e,Int.mul_comm]⟩
    exact co_dvd (by rw [Int.gcd_comm];exact h2) this
  have hbd:b=d:=Int.dvd_antisymm (by (first | lia | omega)) (by (first | lia | omega)) k1 k2
  subst hbd
  exact ⟨Int.eq_of_mul_eq_mul_right (by (first | lia | omega)) e,rfl⟩

theorem Low.self {t b t' b':Int} (h:Low t b t' b') (hb:1≤b) (hc:Int.gcd t b=1):t'=t∧b'=b:=
  let ⟨a,c⟩:=low_unique hb h.pos hc h.co h.eq.symm
  ⟨a.symm,c.symm⟩
end Mth

namespace Mth
structure Steps (H L high low x0 y0 x1 y1:Int):Prop where
  sg:(x0*y1-x1*y0=1∧0≤x0∧y0≤0∧x1≤0∧1≤y1)∨(x0*y1-x1*y0=-1∧x0≤0∧0≤y0∧0≤x1∧y1≤-1)
  eh:x0*H+y0*L=high
  el:x1*H+y1*L=low
  l0:0≤low
  lh:low≤high
  st:(x0=1∧y0=0∧x1=0∧y1=1)∨(y0≠0∧high≤L∧340282366920938463463374607431768211456≤high∧x0.natAbs≤x1.natAbs∧y0.natAbs≤y1.natAbs)

theorem Steps.init {H L:Int} (h0:0≤L) (h:L≤H):Steps H L H L 1 0 0 1:=⟨.inl (by (first | lia | omega)),by (first | lia | omega),by (first | lia | omega),h0,h,.inl (by (first | lia | omega))⟩

theorem div_le {x y:Int} (hx:0≤x) (hy:0≤y):(x/y).natAbs≤x.natAbs:=by
  have h1:=Int.ediv_le_self (a:=x) y hx
  have h2:=Int.ediv_nonneg hx hy
  (first | lia | omega)

theorem mul_ge {q z:Int} (hq:1≤q) (hz:0≤z):z≤q*z:=by
  have:=Int.mul_le_mul_of_nonneg_right hq hz
  (first | lia | omega)

theorem Steps.step {H L high low x0 y0 x1 y1 q:Int} (h:Steps H L high low x0 y0 x1 y1) (hl:340282366920938463463374607431768211456≤low) (hq:q=high/low) :
    Steps H L low (high-q*low) x1 y1 (x0-q*x1) (y0-q*y1):=by
  obtain ⟨sg,eh,el,l0,lh,st⟩:=h
  have q1:1≤q:=by
    rw [hq];exact (Int.le_ediv_iff_mul_le (by (first | lia | omega))).mpr (by (first | lia | omega))
  have em:high-q*low=high % low:=by
    have:=Int.mul_ediv_add_emod high low
    rw [hq,Int.mul_comm];(first | lia | omega)
  have m0:0≤high % low:=Int.emod_nonneg _ (by (first | lia | omega))
  have m1:high % low<low:=Int.emod_lt_of_pos _ (by (first | lia | omega))
  have hlL:low≤L:=by
    rcases st with ⟨a,b,c,d⟩ | ⟨_,a,_⟩
    · subst a b c d;(first | lia | omega)
    · (first | lia | omega)
  have det:x1*(y0-q*y1)-(x0-q*x1)*y1=-(x0*y1-x1*y0):=by grind
  have hel:(x0-q*x1)*H+(y0-q*y1)*L=high-q*low:=by rw [← eh,← el];grind
  refine ⟨?_,el,hel,by (first | lia | omega),by (first | lia | omega),.inr ⟨?_,hlL,hl,?_,?_⟩⟩
  · rcases sg with ⟨d,a,b,c,e⟩ | ⟨d,a,b,c,e⟩
    · right
      have k1:=mul_ge q1 (z:=-x1) (by (first | lia | omega))
      have k2:=mul_ge q1 (z:=y1) (by (first | lia | omega))
      rw [Int.mul_neg] at k1
      exact ⟨by (first | lia | omega),by (first | lia | omega),by (first | lia | omega),by (first | lia | omega),by (first | lia | omega)⟩
    · left
      have k1:=mul_ge q1 (z:=x1) (by (first | lia | omega))
      have k2:=mul_ge q1 (z:=-y1) (by (first | lia | omega))
      rw [Int.mul_neg] at k2
      exact ⟨by (first | lia | omega),by (first | lia | omega),by (first | lia | omega),by (first | lia | omega),by (first | lia | omega)⟩
  · rcases sg with ⟨d,a,b,c,e⟩ | ⟨d,a,b,c,e⟩ <;> (first | lia | omega)
  · rcases sg with ⟨d,a,b,c,e⟩ | ⟨d,a,b,c,e⟩
    · have k1:=mul_ge q1 (z:=-x1) (by (first | lia | omega))
      rw [Int.mul_neg] at k1
      (first | lia | omega)
    · have k1:=mul_ge q1 (z:=x1) (by (first | lia | omega))
      (first | lia | omega)
  · rcases sg with ⟨d,a,b,c,e⟩ | ⟨d,a,b,c,e⟩
    · have k1:=mul_ge q1 (z:=y1) (by (first | lia | omega))
      (first | lia | omega)
    · have k1:=mul_ge q1 (z:=-y1) (by (first | lia | omega))
      rw [Int.mul_neg] at k1
      (first | lia | omega)

theorem Steps.high_le {H L high low x0 y0 x1 y1:Int} (h:Steps H L high low x0 y0 x1 y1) (h1:L≤H):high≤H:=by
  obtain ⟨sg,eh,el,l0,lh,st⟩:=h
  rcases st with ⟨a,b,c,d⟩ | ⟨_,a,_⟩
  · subst a b c d;(first | lia | omega)
  · (first | lia | omega)

theorem Steps.now_le {H L high low x0 y0 x1 y1:Int} (h:Steps H L high low x0 y0 x1 y1) (hh:1≤high):x1.natAbs≤L.natAbs∧y1.natAbs≤H.natAbs:=by
  obtain ⟨sg,eh,el,l0,lh,st⟩:=h
  rcases sg with ⟨d,a,b,c,e⟩ | ⟨d,a,b,c,e⟩
  · have e1:y1*high+(-y0)*low=H:=by
      have:y1*high+(-y0)*low=(x0*y1-x1*y0)*H:=by rw [← eh,← el];grind
      rw [this,d];(first | lia | omega)
    have e2:(-x1)*high+x0*low=L:=by
      have:(-x1)*high+x0*low=(x0*y1-x1*y0)*L:=by rw [← eh,← el];grind
      rw [this,d];(first | lia | omega)
    have n1:0≤(-y0)*low:=Int.mul_nonneg (by (first | lia | omega)) l0
    have n2:0≤x0*low:=Int.mul_nonneg (by (first | lia | omega)) l0
    have k1:y1≤y1*high:=by rw [Int.mul_comm];exact mul_ge hh (by (first | lia | omega))
    have k2:-x1≤(-x1)*high:=by rw [Int.mul_comm];exact mul_ge hh (by (first | lia | omega))
    (first | lia | omega)
  · have e1:(-y1)*high+y0*low=H:=by
      have:(-y1)*high+y0*low=-(x0*y1-x1*y0)*H:=by rw [← eh,← el];grind
      rw [this,d];(first | lia | omega)
    have e2:x1*high+(-x0)*low=L:=by
      have:x1*high+(-x0)*low=-(x0*y1-x1*y0)*L:=by rw [← eh,← el];grind
      rw [this,d];(first | lia | omega)
    have n1:0≤y0*low:=Int.mul_nonneg (by (first | lia | omega)) l0
    have n2:0≤(-x0)*low:=Int.mul_nonneg (by (first | lia | omega)) l0
    have k1:-y1≤(-y1)*high:=by rw [Int.mul_comm];exact mul_ge hh (by (first | lia | omega))
    have k2:x1≤x1*high:=by rw [Int.mul_comm];exact mul_ge hh (by (first | lia | omega))
    (first | lia | omega)

theorem small_of_mul {y h B:Int} (hy:0≤y) (hh:340282366920938463463374607431768211456≤h) (hm:y*h≤B) (hB:B<115792089237316195423570985008687907853269984665640564039457584007913129639936):y≤340282366920938463463374607431768211456:=by
  by_cases c:y≤340282366920938463463374607431768211456
  · exact c
  · have:=Int.mul_le_mul (a:=340282366920938463463374607431768211456) (c:=y) (b:=340282366920938463463374607431768211456) (d:=h) (by (first | lia | omega)) hh (by (first | lia | omega)) hy
    (first | lia | omega)

theorem Steps.small {H L high low x0 y0 x1 y1:Int} (h:Steps H L high low x0 y0 x1 y1) (hy:y0≠0) (hL:L≤H) (hH:H<115792089237316195423570985008687907853269984665640564039457584007913129639936) :
    x0.natAbs≤340282366920938463463374607431768211456∧y0.natAbs≤340282366920938463463374607431768211456∧x1.natAbs≤340282366920938463463374607431768211456∧y1.natAbs≤340282366920938463463374607431768211456:=by
  obtain ⟨sg,eh,el,l0,lh,st⟩:=h
  rcases st with ⟨_,z,_⟩ | ⟨_,hl,hh,ax,ay⟩
  · exact absurd z hy
  rcases sg with ⟨d,a,b,c,e⟩ | ⟨d,a,b,c,e⟩
  · have e1:y1*high+(-y0)*low=H:=by
      have:y1*high+(-y0)*low=(x0*y1-x1*y0)*H:=by rw [← eh,← el];grind
      rw [this,d];(first | lia | omega)
    have e2:(-x1)*high+x0*low=L:=by
      have:(-x1)*high+x0*low=(x0*y1-x1*y0)*L:=by rw [← eh,← el];grind
      rw [this,d];(first | lia | omega)
    have n1:0≤(-y0)*low:=Int.mul_nonneg (by (first | lia | omega)) l0
    have n2:0≤x0*low:=Int.mul_nonneg (by (first | lia | omega)) l0
    have k1:=small_of_mul (y:=y1) (B:=H) (by (first | lia | omega)) hh (by (first | lia | omega)) hH
    have k2:=small_of_mul (y:=-x1) (B:=H) (by (first | lia | omega)) hh (by (first | lia | omega)) hH
    (first | lia | omega)
  · have e1:(-y1)*high+y0*low=H:=by
      have:(-y1)*high+y0*low=-(x0*y1-x1*y0)*H:=by rw [← eh,← el];grind
      rw [this,d];(first | lia | omega)
    have e2:x1*high+(-x0)*low=L:=by
      have:x1*high+(-x0)*low=-(x0*y1-x1*y0)*L:=by rw [← eh,← el];grind
      rw [this,d];(first | lia | omega)
    have n1:0≤y0*low:=Int.mul_nonneg (by (first | lia | omega)) l0
    have n2:0≤(-x0)*low:=Int.mul_nonneg (by (first | lia | omega)) l0
    have k1:=small_of_mul (y:=-y1) (B:=H) (by (first | lia | omega)) hh (by (first | lia | omega)) hH
    have k2:=small_of_mul (y:=x1) (B:=H) (by (first | lia | omega)) hh (by (first | lia | omega)) hH
    (first | lia | omega)

theorem mix_le {x y f r T M:Int} (hx:x.natAbs≤M) (hy:y.natAbs≤M) (f0:0≤f) (f1:f≤T) (r0:0≤r) (r1:r≤T) (hs:(0≤x∧y≤0)∨(x≤0∧0≤y)):(x*f+y*r).natAbs≤M*T:=by
  rcases hs with ⟨a,b⟩ | ⟨a,b⟩
  · have k1:=Int.mul_le_mul (a:=x) (c:=M) (b:=f) (d:=T) (by (first | lia | omega)) f1 f0 (by (first | lia | omega))
    have k2:=Int.mul_le_mul (a:=-y) (c:=M) (b:=r) (d:=T) (by (first | lia | omega)) r1 r0 (by (first | lia | omega))
    have k3:=Int.mul_nonneg a f0
    have k4:=Int.mul_nonneg (a:=-y) (b:=r) (by (first | lia | omega)) r0
    rw [Int.neg_mul] at k2 k4
    (first | lia | omega)
  · have k1:=Int.mul_le_mul (a:=-x) (c:=M) (b:=f) (d:=T) (by (first | lia | omega)) f1 f0 (by (first | lia | omega))
    have k2:=Int.mul_le_mul (a:=y) (c:=M) (b:=r) (d:=T) (by (first | lia | omega)) r1 r0 (by (first | lia | omega))
    have k3:=Int.mul_nonneg (a:=-x) (b:=f) (by (first | lia | omega)) f0
    have k4:=Int.mul_nonneg (a:=y) (b:=r) (by (first | lia | omega)) r0
    rw [Int.neg_mul] at k1 k3
    (first | lia | omega)

theorem Steps.less {H L high low x0 y0 x1 y1 T f r:Int} (h:Steps H L high low x0 y0 x1 y1) (hy:y0≠0) (hL:L≤H) (h1:57896044618658097711785492504343953926634992332820282019728792003956564819968≤H)
    (hH:H<115792089237316195423570985008687907853269984665640564039457584007913129639936) (hl:low≤340282366920938463463374607431768211456) (f0:0≤f) (f1:f<T) (r0:0≤r) (r1:r<T) :
    (x0*(H*T+f)+y0*(L*T+r)).natAbs+(x1*(H*T+f)+y1*(L*T+r)).natAbs<(H*T+f).natAbs+(L*T+r).natAbs:=by
  obtain ⟨sx0,sy0,sx1,sy1⟩:=h.small hy hL hH
  obtain ⟨sg,eh,el,l0,lh,st⟩:=h
  rcases st with ⟨_,z,_⟩ | ⟨_,hhL,hh,ax,ay⟩
  · exact absurd z hy
  have A:x0*(H*T+f)+y0*(L*T+r)=high*T+(x0*f+y0*r):=by rw [← eh];grind
  have B:x1*(H*T+f)+y1*(L*T+r)=low*T+(x1*f+y1*r):=by rw [← el];grind
  have mA:=mix_le (x:=x0) (y:=y0) (f:=f) (r:=r) (T:=T) (M:=340282366920938463463374607431768211456) (by (first | lia | omega)) (by (first | lia | omega)) f0 (by (first | lia | omega)) r0 (by (first | lia | omega)) (by rcases sg with ⟨d,a,b,c,e⟩ | ⟨d,a,b,c,e⟩ <;> (first | lia | omega))
  have mB:=mix_le (x:=x1) (y:=y1) (f:=f) (r:=r) (T:=T) (M:=340282366920938463463374607431768211456) (by (first | lia | omega)) (by (first | lia | omega)) f0 (by (first | lia | omega)) r0 (by (first | lia | omega)) (by rcases sg with ⟨d,a,b,c,e⟩ | ⟨d,a,b,c,e⟩ <;> (first | lia | omega))
  have t1:0≤high*T:=Int.mul_nonneg (by (first | lia | omega)) (by (first | lia | omega))
  have t2:0≤low*T:=Int.mul_nonneg l0 (by (first | lia | omega))
  have t3:high*T≤L*T:=Int.mul_le_mul_of_nonneg_right hhL (by (first | lia | omega))
  have t4:low*T≤340282366920938463463374607431768211456*T:=Int.mul_le_mul_of_nonneg_right hl (by (first | lia | omega))
  have t5:57896044618658097711785492504343953926634992332820282019728792003956564819968*T≤H*T:=Int.mul_le_mul_of_nonneg_right h1 (by (first | lia | omega))
  rw [A,B]
  (first | lia | omega)

theorem gcd_mix {a b x0 y0 x1 y1:Int} (d:x0*y1-x1*y0=1∨x0*y1-x1*y0=-1):Int.gcd (x0*a+y0*b) (x1*a+y1*b)=Int.gcd a b:=by
  refine Nat.dvd_antisymm ?_ ?_
  · have h1:(Int.gcd (x0*a+y0*b) (x1*a+y1*b):Int)∣x0*a+y0*b:=Int.gcd_dvd_left ..
    have h2:(Int.gcd (x0*a+y0*b) (x1*a+y1*b):Int)∣x1*a+y1*b:=Int.gcd_dvd_right ..
    generalize (Int.gcd (x0*a+y0*b) (x1*a+y1*b))=g at h1 h2
    obtain ⟨u,hu⟩:=h1
    obtain ⟨v,hv⟩:=h2
    refine Int.dvd_gcd ?_ ?_
    · rcases d with d | d
      · exact ⟨y1*u-y0*v,by
          have:(x0*y1-x1*y0)*a=g*(y1*u-y0*v):=by grind
          rw [d] at this;(first | lia | omega)⟩
      · exact ⟨-(y1*u-y0*v),by
          have:-(x0*y1-x1*y0)*a=g*(-(y1*u-y0*v)):=by grind
          rw [d] at this;(first | lia | omega)⟩
    · rcases d with d | d
      · exact ⟨x0*v-x1*u,by
          have:(x0*y1-x1*y0)*b=g*(x0*v-x1*u):=by grind
          rw [d] at this;(first | lia | omega)⟩
      · exact ⟨-(x0*v-x1*u),by
          have:-(x0*y1-x1*y0)*b=g*(-(x0*v-x1*u)):=by grind
          rw [d] at this;(first | lia | omega)⟩
  · have h1:(Int.gcd a b:Int)∣a:=Int.gcd_dvd_left ..
    have h2:(Int.gcd a b:Int)∣b:=Int.gcd_dvd_right ..
    exact Int.dvd_gcd (Int.dvd_add (Int.dvd_mul_of_dvd_right h1) (Int.dvd_mul_of_dvd_right h2)) (Int.dvd_add (Int.dvd_mul_of_dvd_right h1) (Int.dvd_mul_of_dvd_right h2))
theorem Steps.gcd {H L high low x0 y0 x1 y1 a b:Int} (h:Steps H L high low x0 y0 x1 y1):Int.gcd (x0*a+y0*b) (x1*a+y1*b)=Int.gcd a b:=
  gcd_mix (h.sg.imp (·.1) (·.1))

theorem head_of {x:Int} {t:Nat} (lo:(2:Int) ^ (255+t)≤x) (hi:x<(2:Int) ^ (256+t)) :
    57896044618658097711785492504343953926634992332820282019728792003956564819968≤x/2 ^ t∧x/2 ^ t<115792089237316195423570985008687907853269984665640564039457584007913129639936:=by
  have tp:(0:Int)<2 ^ t:=Int.pow_pos (by decide)
  refine ⟨(Int.le_ediv_iff_mul_le tp).mpr ?_,(Int.ediv_lt_iff_lt_mul tp).mpr ?_⟩
  · rw [Int.pow_add] at lo;exact lo
  · rw [Int.pow_add] at hi;exact hi

theorem heads_less {x y H L high low x0 y0 x1 y1:Int} {t:Nat} (h:Steps H L high low x0 y0 x1 y1) (hy:y0≠0) (yx:y≤x) (lo:(2:Int) ^ (255+t)≤x) (hi:x<(2:Int) ^ (256+t))
    (eH:H=x/2 ^ t) (eL:L=y/2 ^ t) (hl:low≤340282366920938463463374607431768211456) :
    (x0*x+y0*y).natAbs+(x1*x+y1*y).natAbs<x.natAbs+y.natAbs:=by
  have tp:(0:Int)<2 ^ t:=Int.pow_pos (by decide)
  have hd:=head_of lo hi
  have e1:=Int.mul_ediv_add_emod x (2 ^ t)
  have e2:=Int.mul_ediv_add_emod y (2 ^ t)
  have m1:=Int.emod_nonneg x (b:=2 ^ t) (by (first | lia | omega))
  have m2:=Int.emod_nonneg y (b:=2 ^ t) (by (first | lia | omega))
  have l1:=Int.emod_lt_of_pos x tp
  have l2:=Int.emod_lt_of_pos y tp
  have hLH:L≤H:=by rw [eH,eL];exact Int.ediv_le_ediv tp yx
  have:=h.less hy hLH (by rw [eH];exact hd.1) (by rw [eH];exact hd.2) hl m1 l1 m2 l2
  rw [eH,eL,Int.mul_comm (x/2 ^ t),Int.mul_comm (y/2 ^ t),e1,e2] at this
  exact this

theorem gcd_maxmin {a b:Int} {p q:Int} (hp:p=if b>a then b else a) (hq:q=if b<a then b else a):Int.gcd p q=Int.gcd a b:=by
  subst hp hq
  by_cases h:b>a
  · rw [if_pos h,if_neg (by (first | lia | omega))];exact Int.gcd_comm b a
  · by_cases k:b<a
    · rw [if_neg h,if_pos k]
    · have:a=b:=by (first | lia | omega)
      subst this;simp
theorem mm_nn (A B:Nat):0≤(if (B:Int)<(A:Int) then (B:Int) else (A:Int)):=by
  split
  · exact Int.natCast_nonneg _
  · exact Int.natCast_nonneg _
theorem mm_two (A B:Nat):((if (B:Int)>(A:Int) then (B:Int) else (A:Int))=(B:Int)∧(if (B:Int)<(A:Int) then (B:Int) else (A:Int))=(A:Int)∧(A:Int)≤(B:Int))∨((if (B:Int)>(A:Int) then (B:Int) else (A:Int))=(A:Int)∧(if (B:Int)<(A:Int) then (B:Int) else (A:Int))=(B:Int)∧(B:Int)≤(A:Int)):=by
  rcases Int.lt_or_le (A:Int) (B:Int) with h | h
  · exact .inl ⟨if_pos h,if_neg (Int.not_lt.mpr (Int.le_of_lt h)),Int.le_of_lt h⟩
  · refine .inr ⟨if_neg (Int.not_lt.mpr h),?_,h⟩
    split
    · rfl
    · rename_i h2
      exact Int.le_antisymm (Int.not_lt.mp h2) h
theorem mm_le (A B:Nat):(if (B:Int)<(A:Int) then (B:Int) else (A:Int))≤(if (B:Int)>(A:Int) then (B:Int) else (A:Int)):=by
  rcases mm_two A B with ⟨e1,e2,h⟩ | ⟨e1,e2,h⟩ <;> rw [e1,e2] <;> exact h
theorem mm_sum {A B:Nat} {z:Int} (h:A+B≤z.natAbs):((if (B:Int)>(A:Int) then (B:Int) else (A:Int))+(if (B:Int)<(A:Int) then (B:Int) else (A:Int))).natAbs≤z.natAbs:=by
  rcases mm_two A B with ⟨e1,e2,_⟩ | ⟨e1,e2,_⟩ <;> rw [e1,e2]
  · exact Nat.le_trans (Int.natAbs_add_le _ _) (by rw [Nat.add_comm];exact h)
  · exact Nat.le_trans (Int.natAbs_add_le _ _) h
theorem mm_to {A B:Nat} {x y:Int} (ls:A+B<x.natAbs+y.natAbs) (y0:0≤y) (yx:y≤x):Int.toNat (if (B:Int)>(A:Int) then (B:Int) else (A:Int))+Int.toNat (if (B:Int)<(A:Int) then (B:Int) else (A:Int))<Int.toNat x+Int.toNat y:=by
  have ex:x.toNat=x.natAbs:=Int.toNat_of_nonneg (Int.le_trans y0 yx) |> fun e=>Int.ofNat.inj (e.trans (Int.natAbs_of_nonneg (Int.le_trans y0 yx)).symm)
  have ey:y.toNat=y.natAbs:=Int.toNat_of_nonneg y0 |> fun e=>Int.ofNat.inj (e.trans (Int.natAbs_of_nonneg y0).symm)
  rw [ex,ey]
  rcases mm_two A B with ⟨e1,e2,_⟩ | ⟨e1,e2,_⟩ <;> rw [e1,e2,Int.toNat_natCast,Int.toNat_natCast]
  · rw [Nat.add_comm]
    exact ls
  · exact ls
theorem nab {a b:Int} {p q r:Nat} (ha:a.natAbs≤p) (hb:b.natAbs≤q) (h:p+q≤r):(a+b).natAbs≤r:=Nat.le_trans (Int.natAbs_add_le a b) (Nat.le_trans (Nat.add_le_add ha hb) h)
theorem nab5 {w:Int} (h0:0≤w) (h5:w<5):(w-1).natAbs≤3:=by lia
theorem nabz {z:Int} (h0:0≤z) (h:z<25):(z-12).natAbs≤12:=by lia
theorem nab3 {w:Int} (h0:0≤w) (h5:w<3):w.natAbs≤12:=by lia
theorem nabm {st:Int} (h0:0≤st) (h:st≤2*1009):(1+st).natAbs≤2100:=by lia
theorem mm_xy {A B:Nat} {x y:Int} (ls:A+B<x.natAbs+y.natAbs) (y0:0≤y) (yx:y≤x):A+B≤(x+y).natAbs:=by (first | lia | omega)
theorem fd_mod {x y:Int} (y0:0≤y):1*x+-(x.fdiv y)*y=x % y:=by
  have em:=Int.mul_ediv_add_emod x y
  rw [Int.mul_comm] at em
  rw [Int.fdiv_eq_ediv_of_nonneg _ y0,Int.neg_mul]
  (first | lia | omega)
theorem fd_less {x y:Int} (y1:1≤y) (yx:y≤x):(0*x+1*y).natAbs+(1*x+-(x.fdiv y)*y).natAbs<x.natAbs+y.natAbs:=by
  have m0:=Int.emod_nonneg x (b:=y) (by (first | lia | omega))
  have m1:=Int.emod_lt_of_pos x (b:=y) (by (first | lia | omega))
  rw [fd_mod (by (first | lia | omega))]
  (first | lia | omega)
end Mth

namespace Mth
structure Qt (t b:Int) (q:Rat):Prop where
  pos:1≤b
  eq:(t:Rat)=q*(b:Rat)
structure Fr (t b:Int) (q:Rat):Prop where
  pos:1≤b
  co:Int.gcd t b=1
  eq:(t:Rat)=q*(b:Rat)
theorem Fr.qt {t b:Int} {q:Rat} (h:Fr t b q):Qt t b q:=⟨h.pos,h.eq⟩
theorem cast_ne {b:Int} (h:b≠0):(b:Rat)≠0:=by
  intro e
  apply h
  have:((b:Int):Rat)=((0:Int):Rat):=by rw [e];rfl
  exact Rat.intCast_inj.mp this
theorem Fr.of_low {T B t b:Int} {q:Rat} (h:Low T B t b) (hB:B≠0) (e:(T:Rat)=q*(B:Rat)):Fr t b q:=by
  refine ⟨h.pos,h.co,?_⟩
  have k:=congrArg (fun x:Int=>(x:Rat)) h.eq
  simp only [Rat.intCast_mul] at k
  have hB':=cast_ne hB
  grind
theorem Fr.unique {t b t' b':Int} {q:Rat} (h:Fr t b q) (h':Fr t' b' q):t=t'∧b=b':=by
  refine low_unique h.pos h'.pos h.co h'.co ?_
  have e:((t*b':Int):Rat)=((t'*b:Int):Rat):=by
    have e1:=h.eq
    have e2:=h'.eq
    simp only [Rat.intCast_mul]
    grind
  exact Rat.intCast_inj.mp e
theorem Fr.worth {t b t' b':Int} {q q':Rat} (h:Fr t b q) (h':Fr t' b' q') (e:t=t') (e':b=b'):q=q':=by
  subst e e'
  have hb:=cast_ne (b:=b) (by have:=h.pos;(first | lia | omega))
  have e1:=h.eq
  have e2:=h'.eq
  grind
theorem mul_pos1 {b d:Int} (hb:1≤b) (hd:1≤d):1≤b*d:=by
  have:=Int.mul_pos (show 0<b by (first | lia | omega)) (show 0<d by (first | lia | omega))
  (first | lia | omega)
theorem Qt.plus {a b c d:Int} {q r:Rat} (h:Qt a b q) (k:Qt c d r):Qt (a*d+c*b) (b*d) (q+r):=by
  refine ⟨mul_pos1 h.pos k.pos,?_⟩
  have e1:=h.eq
  have e2:=k.eq
  simp only [Rat.intCast_mul,Rat.intCast_add]
  grind
theorem Qt.minus {a b c d:Int} {q r:Rat} (h:Qt a b q) (k:Qt c d r):Qt (a*d-c*b) (b*d) (q-r):=by
  refine ⟨mul_pos1 h.pos k.pos,?_⟩
  have e1:=h.eq
  have e2:=k.eq
  simp only [Rat.intCast_mul,Rat.intCast_sub]
  grind
theorem Qt.times {a b c d:Int} {q r:Rat} (h:Qt a b q) (k:Qt c d r):Qt (a*c) (b*d) (q*r):=by
  refine ⟨mul_pos1 h.pos k.pos,?_⟩
  have e1:=h.eq
  have e2:=k.eq
  simp only [Rat.intCast_mul]
  grind
theorem Qt.neg {a b:Int} {q:Rat} (h:Qt a b q):Qt (-a) b (-q):=by
  refine ⟨h.pos,?_⟩
  have e1:=h.eq
  simp only [Rat.intCast_neg]
  grind
theorem Qt.whole (m:Int):Qt m 1 (m:Rat):=⟨by (first | lia | omega),by simp⟩
theorem Fr.whole (m:Int):Fr m 1 (m:Rat):=⟨by (first | lia | omega),by simp,by simp⟩
theorem Qt.lt_iff {a b c d:Int} {q r:Rat} (h:Qt a b q) (k:Qt c d r):a*d<c*b↔q<r:=by
  have e1:=h.eq
  have e2:=k.eq
  have hb:(0:Rat)<(b:Rat):=by have:=h.pos;exact Rat.intCast_pos.mpr (by (first | lia | omega))
  have hd:(0:Rat)<(d:Rat):=by have:=k.pos;exact Rat.intCast_pos.mpr (by (first | lia | omega))
  have hbd:(0:Rat)<(b:Rat)*(d:Rat):=Rat.mul_pos hb hd
  have l:((a*d:Int):Rat)=q*((b:Rat)*(d:Rat)):=by simp only [Rat.intCast_mul];grind
  have m:((c*b:Int):Rat)=r*((b:Rat)*(d:Rat)):=by simp only [Rat.intCast_mul];grind
  rw [← Rat.intCast_lt_intCast,l,m]
  exact Rat.mul_lt_mul_right hbd
end Mth

namespace Mth
noncomputable def rabs (q:Rat):Rat:=if q<0 then -q else q
theorem Qt.abs {a b:Int} {q:Rat} (h:Qt a b q):Qt (a.natAbs:Int) b (rabs q):=by
  have hb:(0:Rat)<(b:Rat):=by have:=h.pos;exact Rat.intCast_pos.mpr (by (first | lia | omega))
  have z:a<0↔q<0:=by
    have l:=Qt.lt_iff h (Qt.whole 0)
    simp at l
    exact l
  unfold rabs
  by_cases h0:a<0
  · rw [if_pos (z.mp h0)]
    have e:(a.natAbs:Int)=-a:=by (first | lia | omega)
    rw [e]
    exact h.neg
  · rw [if_neg (fun q=>h0 (z.mpr q))]
    have e:(a.natAbs:Int)=a:=by (first | lia | omega)
    rw [e]
    exact h
end Mth

namespace Mth
theorem Fr.own (q:Rat):Fr q.num (q.den:Int) q:=by
  have hp:=q.den_pos
  have hd:((q.den:Int):Rat)≠0:=cast_ne (by (first | lia | omega))
  refine ⟨by (first | lia | omega),?_,?_⟩
  · have:=q.reduced
    exact this
  · have h:=Rat.num_divInt_den q
    rw [Rat.divInt_eq_div] at h
    grind
theorem Fr.num_den {t b:Int} {q:Rat} (h:Fr t b q):t=q.num∧b=(q.den:Int):=h.unique (Fr.own q)
noncomputable def inRun {α:Type} (s:α→Bool) (es:List α) (i:Nat):Bool:=decide (0<i)&&((es[i-1]?).map s).getD false
noncomputable def parts {α:Type} (s:α→Bool) (es:List α):Nat→List (List α)
  | 0=>[]
  | i+1=>match es[i]? with
    | none=>parts s es i
    | some e=>if s e=true then (if inRun s es i=true then (parts s es i).dropLast++[((parts s es i).getLast?.getD [])++[e]] else parts s es i++[[e]]) else parts s es i
section
variable {α:Type} {s:α→Bool} {es:List α} {i:Nat} {e:α}
theorem parts_gap (h:es[i]?=some e) (hs:s e=false):parts s es (i+1)=parts s es i:=by
  show (match es[i]? with | none=>_ | some e=>_)=_
  rw [h]
  show (if s e=true then _ else _)=_
  rw [hs]
  rfl
theorem parts_new (h:es[i]?=some e) (hs:s e=true) (hi:inRun s es i=false):parts s es (i+1)=parts s es i++[[e]]:=by
  show (match es[i]? with | none=>_ | some e=>_)=_
  rw [h]
  show (if s e=true then (if inRun s es i=true then _ else _) else _)=_
  rw [hs,hi]
  rfl
theorem parts_on {t:List (List α)} {r:List α} (h:es[i]?=some e) (hs:s e=true) (hi:inRun s es i=true) (hp:parts s es i=t++[r]):parts s es (i+1)=t++[r++[e]]:=by
  show (match es[i]? with | none=>_ | some e=>_)=_
  rw [h]
  show (if s e=true then (if inRun s es i=true then _ else _) else _)=_
  rw [hs,hi,hp]
  simp
theorem parts_len:∀i:Nat,(parts s es i).length≤i
  | 0=>Nat.le_refl _
  | i+1=>by
    have ih:=parts_len i
    show (match es[i]? with | none=>_ | some e=>_:List (List α)).length≤i+1
    cases es[i]? with
    | none=>exact Nat.le_succ_of_le ih
    | some e=>
      show (if s e=true then (if inRun s es i=true then _ else _) else _:List (List α)).length≤i+1
      split
      · split
        · rw [List.length_append,List.length_dropLast]
          simp
          (first | lia | omega)
        · rw [List.length_append]
          simp
          (first | lia | omega)
      · exact Nat.le_succ_of_le ih
theorem parts_ne (h:inRun s es i=true):∃t r,parts s es i=t++[r]:=by
  unfold inRun at h
  rw [Bool.and_eq_true] at h
  obtain ⟨h0,h1⟩:=h
  have h0:=of_decide_eq_true h0
  obtain ⟨j,rfl⟩:∃j,i=j+1:=⟨i-1,by (first | lia | omega)⟩
  rw [Nat.add_sub_cancel] at h1
  cases e:es[j]? with
  | none=>rw [e] at h1;simp at h1
  | some d=>
    rw [e] at h1
    have hd:s d=true:=by simpa using h1
    cases hr:inRun s es j with
    | true=>
      refine ⟨(parts s es j).dropLast,((parts s es j).getLast?.getD [])++[d],?_⟩
      show (match es[j]? with | none=>_ | some e=>_)=_
      rw [e]
      show (if s d=true then (if inRun s es j=true then _ else _) else _)=_
      rw [hd,hr]
      rfl
    | false=>exact ⟨_,_,parts_new e hd hr⟩
theorem inRun_succ (h:es[i]?=some e):inRun s es (i+1)=s e:=by
  unfold inRun
  rw [Nat.add_sub_cancel,h]
  simp
end
end Mth

namespace Mth
section
variable {s s':Nat→Rat} {i m k k':Nat} {c:Rat}
end
end Mth

namespace Mth
section
variable {L:Nat→Nat→Prop} {N f:Nat} {t u:Nat→Int}
end
end Mth

namespace Mth
section
variable {t v:Nat→Rat} {B s:Rat} {n i j k l:Nat}
end
end Mth

namespace My
open PySem PySem.Spec PyProof.Rows L2 Mth

theorem mulOk {m n:Nat} {x y:Int} (hx:Sz m x) (hy:Sz n y) (h:autoParam (m+n≤134217728) au1_._auto_1):IntMulOk x y:=
  IntMulOk.of_le (intBits_le_iff.mpr hx) (intBits_le_iff.mpr hy) h
theorem mulR {x y:Int} (h1:-(2 ^ 64)<y) (h2:y<2 ^ 64):IntMulOk x y:=CMul.ok (.inr ⟨h1,h2⟩)
theorem mulL {x y:Int} (h1:-(2 ^ 64)<x) (h2:x<2 ^ 64):IntMulOk x y:=CMul.ok (.inl ⟨h1,h2⟩)
noncomputable def CDivB (_ j:Int):Prop:=j≠0∧j.natAbs.log2<9000

section
variable {X:Cx}
theorem op_mulB:OpR X (binaryOp .Mult) (rI IntMulOk fun i j=>.int (i*j)):=opI fun _ _ _ _ _ _ _ hc q=>mul_int q hc
theorem op_fdivB:OpR X (binaryOp .FloorDiv) (rI CDivB fun i j=>.int (i.fdiv j)):=opI fun _ _ _ _ _ _ _ hc q=>floordiv_int hc.1 q (.inl (PyProof.noPylong_of_log2 hc.2))
end

mutual
inductive Den (H:Hp):V→PyData→Prop where
  | non:Den H .non .none
  | bl (b:Bool):Den H (.bl b) (.bool b)
  | int (i:Int):Den H (.int i) (.int i)
  | str (x:Str):Den H (.str x) (.str x)
  | tup {a:Addr} {xs:List V} {ds:List PyData}:H a=some (.tup xs)→Dens H xs ds→Den H (.ref a) (.tuple ds)
  | lst {a:Addr} {xs:List V} {ds:List PyData}:H a=some (.lst xs)→Dens H xs ds→Den H (.ref a) (.list ds)
inductive Dens (H:Hp):List V→List PyData→Prop where
  | nil:Dens H [] []
  | cons {x:V} {xs:List V} {d:PyData} {ds:List PyData}:Den H x d→Dens H xs ds→Dens H (x::xs) (d::ds)
end
section
variable {P:Program} {w:World} {H:Hp} {h:Heap}
mutual
theorem Den.reads (ok:HOk P w H h):∀{v:V} {d:PyData},Den H v d→∀{u:Value},RelV v u→∃as,Reads h u d as
  | _,_,.non,u,r=>by cases (show u=Value.none from r);exact ⟨_,Reads.none⟩
  | _,_,.bl b,u,r=>by cases (show u=Value.bool b from r);exact ⟨_,Reads.bool b⟩
  | _,_,.int i,u,r=>by obtain ⟨t,q⟩:=(show ∃t,u=Value.int i t from r);cases q;exact ⟨_,Reads.int i t⟩
  | _,_,.str x,u,r=>by obtain ⟨t,q⟩:=(show ∃t,u=Value.str x t from r);cases q;exact ⟨_,Reads.str x t⟩
  | _,_,@Den.tup _ a xs ds e dd,u,r=>by
    cases (show u=Value.ref a from r)
    obtain ⟨_,its,rv,o,h1,h2,n,h3⟩:=(show ObjOk P w H h a (.tup xs) from ok a _ e)
    obtain ⟨as,q⟩:=Dens.reads ok dd rv
    exact ⟨as,reads_tuple_at h1 h2 h3 (by simpa using q)⟩
  | _,_,@Den.lst _ a xs ds e dd,u,r=>by
    cases (show u=Value.ref a from r)
    obtain ⟨_,its,n,rv,h1⟩:=(show ObjOk P w H h a (.lst xs) from ok a _ e)
    obtain ⟨as,q⟩:=Dens.reads ok dd rv
    exact ⟨_,reads_list_at h1 rfl rfl (by simpa using q)⟩
theorem Dens.reads (ok:HOk P w H h):∀{vs:List V} {ds:List PyData},Dens H vs ds→∀{us:List Value},Vals vs us→∃as,ReadsAll h us ds as
  | _,_,.nil,_,.nil=>⟨_,ReadsAll.nil⟩
  | _,_,.cons d dd,_,.cons r rr=>by
    obtain ⟨as,q⟩:=Den.reads ok d r
    obtain ⟨bs,p⟩:=Dens.reads ok dd rr
    exact ⟨_,ReadsAll.cons q p⟩
end
end
noncomputable def rEqD:R2:=fun x y H Q=>∃d e,Den H x d∧Den H y e∧SeqAt.shaped d=true∧SeqAt.shaped e=true∧Q (.bl (PyData.eqv d e)) H
noncomputable def rNeD:R2:=fun x y H Q=>∃d e,Den H x d∧Den H y e∧SeqAt.shaped d=true∧SeqAt.shaped e=true∧Q (.bl (!PyData.eqv d e)) H
section
variable {X:Cx}
theorem op_eqD (hu:X.A.units+64<cLine):OpR X (compareOp .Eq) rEqD:=by
  intro pins s σ H x y v u Q I rx ry h
  obtain ⟨d,e,hd,he,s1,s2,q⟩:=h
  obtain ⟨as,r1⟩:=hd.reads I.hok rx
  obtain ⟨bs,r2⟩:=he.reads I.hok ry
  exact eq_dataH r1 r2 s1 s2 hu ⟨.bl _,H,I,rfl,q⟩
theorem op_neD (hu:X.A.units+64<cLine):OpR X (compareOp .NotEq) rNeD:=by
  intro pins s σ H x y v u Q I rx ry h
  obtain ⟨d,e,hd,he,s1,s2,q⟩:=h
  obtain ⟨as,r1⟩:=hd.reads I.hok rx
  obtain ⟨bs,r2⟩:=he.reads I.hok ry
  exact ne_dataH r1 r2 s1 s2 hu ⟨.bl _,H,I,rfl,q⟩
noncomputable def rIsi (K:PySem.W.Frag):List V→Hp→VK→Prop:=fun xs H Q=>∃x n t b,xs=[x,.ty n]∧TyOf K H x t∧PySem.W.kitOne K t (.type n)=some b∧Q (.bl b) H
theorem call_isi:CallR X (.builtin "isinstance") (rIsi X.K):=by
  intro pins s σ H xs us Q I r h
  obtain ⟨x,n,t,b,rfl,ty,e,q⟩:=h
  obtain ⟨u,u2,rfl,rx,rn⟩:=vals2 r
  cases (show u2=Value.type n from rn)
  exact isinst_ok I rx ty e fun tk=>⟨.bl b,H,I.tok tk,rfl,q⟩
end
section
variable {K:PySem.W.Frag}
theorem kit_tt:PySem.W.kitOne K (.type "tuple") (.type "tuple")=some true:=by rfl
theorem kit_ii:PySem.W.kitOne K (.type "int") (.type "int")=some true:=by rfl
theorem kit_ib:PySem.W.kitOne K (.type "int") (.type "bool")=some false:=by rfl
end

section
variable {es:List Expr} {env:Env} {pos:Pos}
theorem any0:(backTo pos (starEach [] env)).any (·.1)=false:=by rfl
theorem anyc {e:Expr} (h:starEach (e::es) env=(false,eval e env)::starEach es env) (k:(backTo pos (starEach es env)).any (·.1)=false):(backTo pos (starEach (e::es) env)).any (·.1)=false:=by
  rw [h]
  exact k
theorem st_C {c:Const} {k:Nat}:starEach (.Constant c k pos::es) env=(false,eval (.Constant c k pos) env)::starEach es env:=by rfl
theorem st_N {x:Str}:starEach (.Name x pos::es) env=(false,eval (.Name x pos) env)::starEach es env:=by rfl
theorem st_B {a b:Expr} {op:Operator}:starEach (.BinOp a op b pos::es) env=(false,eval (.BinOp a op b pos) env)::starEach es env:=by rfl
theorem st_S {a b:Expr}:starEach (.Subscript a b pos::es) env=(false,eval (.Subscript a b pos) env)::starEach es env:=by rfl
theorem st_K {f:Expr} {as:List Expr} {kw:List Keyword}:starEach (.Call f as kw pos::es) env=(false,eval (.Call f as kw pos) env)::starEach es env:=by rfl
theorem st_T {as:List Expr} {k:Nat}:starEach (.Tuple as k pos::es) env=(false,eval (.Tuple as k pos) env)::starEach es env:=by rfl
theorem st_L {as:List Expr}:starEach (.List as pos::es) env=(false,eval (.List as pos) env)::starEach es env:=by rfl
theorem st_U {a:Expr} {op:UnaryOp}:starEach (.UnaryOp op a pos::es) env=(false,eval (.UnaryOp op a pos) env)::starEach es env:=by rfl
theorem st_G {e:Expr} {gs:List Comprehension} {sc:Scope}:starEach (.ListComp e gs sc pos::es) env=(false,eval (.ListComp e gs sc pos) env)::starEach es env:=by rfl
theorem st_Q {a:Expr} {ops:List CmpOp} {bs:List Expr}:starEach (.Compare a ops bs pos::es) env=(false,eval (.Compare a ops bs pos) env)::starEach es env:=by rfl
end

section
variable {tg:Option Expr} {l:Nat} {env:Env} {pos:Pos}
theorem sw_C {c:Const} {k:Nat}:swapsWith (.Constant c k pos) tg l env=pure false:=by rfl
theorem sw_N {x:Str}:swapsWith (.Name x pos) tg l env=pure false:=by rfl
theorem sw_B {a b:Expr} {op:Operator}:swapsWith (.BinOp a op b pos) tg l env=pure false:=by rfl
theorem sw_S {a b:Expr}:swapsWith (.Subscript a b pos) tg l env=pure false:=by rfl
theorem sw_K {f:Expr} {as:List Expr} {kw:List Keyword}:swapsWith (.Call f as kw pos) tg l env=pure false:=by rfl
theorem sw_T {as:List Expr} {k:Nat}:swapsWith (.Tuple as k pos) tg l env=pure false:=by rfl
theorem sw_L {as:List Expr}:swapsWith (.List as pos) tg l env=pure false:=by rfl
theorem sw_U {a:Expr} {op:UnaryOp}:swapsWith (.UnaryOp op a pos) tg l env=pure false:=by rfl
end
structure Dn (P:Program) (w:World) (K:PySem.W.Frag) (mg:Str→Option Value) (base:Heap) (k:Nat) (x:Str) (ps:List Str) (sp:Sp):Prop where
  ex:∃(f:Addr) (fd:FuncData),FnOk P w K mg base CX0 k f fd ps sp∧mg x=some (.ref f)∧PySem.W.keepIn K (.ref f)=true∧Binds K fd ps []
section
variable {X:Cx} {k:Nat} {x:Str} {ps:List Str} {sp:Sp} {p pos:Pos} {e:Expr} {es:List Expr} {t:TA}
theorem pe_dn (D:Dn X.prog X.w X.K X.mg X.base k x ps sp) (hr:Room k X.A) (hg:Gl X x) (ha:PA X (e::es) t) (hdb:autoParam ((x==("__debug__":Str))=false) au1_._auto_1)
    (he:autoParam (starEach (e::es) X.env=(false,eval e X.env)::starEach es X.env) au0_._auto_1) (hpl:autoParam ((backTo pos (starEach es X.env)).any (·.1)=false) au0_._auto_1):PE X (.Call (.Name x p) (e::es) [] pos) (tCall sp [] E0 t):=by
  obtain ⟨f,fd,ok,hm,hk,hb⟩:=D.ex
  exact pe_call ok hr hg hm hk hb .nil pass0 ha hdb he hpl
end
theorem dn_mk {P:Program} {w:World} {K:PySem.W.Frag} {mg:Str→Option Value} {base:Heap} {k:Nat} {x qual:Str} {ps:List Str} {sp:Sp} {st:Stmt} {f:Addr} {fd:FuncData} (F:Fun K x qual st f fd) (ok:FnOk P w K mg base CX0 k f fd ps sp)
    (hm:mg x=some (.ref f)) (hb:Binds K fd ps []):Dn P w K mg base k x ps sp:=⟨f,fd,ok,hm,F.kp,hb⟩

section
variable {σ:L2.St} {H:Hp} {Q:VK} {D:Ends} {te ta tb:TE} {t u:TS} {c:TT} {B:Bool→Hp→Prop} {i:Nat} {v:V} {m n:Int} {K:PySem.W.Frag}
theorem r_seq (h:t { D with nx:=u D } σ H):tSeq t u D σ H:=h
theorem r_set (h:te σ H fun x H1=>D.nx (σ.set i (some x)) H1):tAsg te (gName i) D σ H:=h
theorem r_ret (h:te σ H D.rt):tRet te D σ H:=h
theorem r_drop (h:te σ H fun _ H1=>D.nx σ H1):tDrop te D σ H:=h
theorem r_if (h:c σ H fun b H1=>if b=true then t D σ H1 else u D σ H1):tIfS c t u D σ H:=h
theorem r_next (h:D.nx σ H):tNext D σ H:=h
theorem r_var (e:σ[i]?=some (some v)) (q:Q v H):tVar i σ H Q:=⟨v,e,q⟩
theorem r_c (q:Q v H):tC v σ H Q:=q
theorem r_op {r:R2} (h:ta σ H fun x H1=>tb σ H1 fun y H2=>r x y H2 Q):tOp r ta tb σ H Q:=h
theorem r_un {r:V→Hp→VK→Prop} (h:ta σ H fun x H1=>r x H1 Q):tUn r ta σ H Q:=h
theorem r_I0 {g:Int→Int→V} (q:Q (g m n) H):rI0 g (.int m) (.int n) H Q:=⟨m,n,rfl,rfl,q⟩
theorem r_I {C:Int→Int→Prop} {g:Int→Int→V} (hc:C m n) (q:Q (g m n) H):rI C g (.int m) (.int n) H Q:=⟨m,n,rfl,rfl,hc,q⟩
theorem r_U {g:Int→V} (q:Q (g m) H):rU g (.int m) H Q:=⟨m,rfl,q⟩
theorem r_test (h:te σ H fun x H'=>∃k,x=.bl k∧B k H'):tTest te σ H B:=h
theorem r_B (h:te σ H fun x H'=>∃k,x=.bl k∧B k H'):tB te σ H B:=h
theorem r_bl {b:Bool} {R:Bool→Prop} (h:R b):∃k,V.bl b=.bl k∧R k:=⟨b,rfl,h⟩
theorem r_cb {r:List V→Hp→VK→Prop} {ts:TA} (h:ts σ H fun vs H1=>r vs H1 Q):tCB r ts σ H Q:=h
theorem r_cons {ts:TA} {R:List V→Hp→Prop} (h:te σ H fun x H1=>ts σ H1 fun xs H2=>R (x::xs) H2):tCons te ts σ H R:=h
theorem r_nil {R:List V→Hp→Prop} (h:R [] H):tNil σ H R:=h
noncomputable def Nw (mk:List V→HO) (xs:List V) (H:Hp) (Q:VK):Prop:=xs.length≤sizeLine∧∀p,H p=none→Q (.ref p) (upd H p (mk xs))
theorem r_tup {ts:TA} (h:ts σ H fun xs H1=>Nw .tup xs H1 Q):tTup ts σ H Q:=h
theorem r_lst {ts:TA} (h:ts σ H fun xs H1=>Nw .lst xs H1 Q):tLst ts σ H Q:=h
theorem r_call {sp:Sp} {ts:TA} (h:ts σ H fun vs H1=>sp (vs++[]) H1 Q E0):tCall sp [] E0 ts σ H Q:=h
theorem r_par {a b:Nat} {ts:TA} (h:ts σ H fun vs H1=>∃v w,vs=[v,w]∧D.nx ((σ.set a (some v)).set b (some w)) H1):tPar a b ts D σ H:=h
theorem r_not (h:c σ H fun b H1=>B (!b) H1):tNot c σ H B:=h
theorem r_and {d:TT} (h:c σ H fun b H1=>if b=true then d σ H1 B else B false H1):tAnd c d σ H B:=h
theorem r_or {d:TT} (h:c σ H fun b H1=>if b=true then B true H1 else d σ H1 B):tOr c d σ H B:=h
theorem r_andV (h:ta σ H fun x H1=>∃k,x=.bl k∧if k=true then tb σ H1 Q else Q (.bl false) H1):tAndV ta tb σ H Q:=h
theorem r_orV (h:ta σ H fun x H1=>∃k,x=.bl k∧if k=true then Q (.bl true) H1 else tb σ H1 Q):tOrV ta tb σ H Q:=h
theorem r_notV (h:ta σ H fun x H1=>∃k,x=.bl k∧Q (.bl (!k)) H1):tNotV ta σ H Q:=h
theorem r_ife (h:c σ H fun b H1=>if b=true then ta σ H1 Q else tb σ H1 Q):tIf c ta tb σ H Q:=h
theorem r_eq (hs:scal (.int m) (.int n)=true) (q:Q (.bl (decide (m=n))) H):rEq (.int m) (.int n) H Q:=⟨hs,by
  have e:decide (V.int m=V.int n)=decide (m=n):=by simp
  rw [e];exact q⟩
theorem r_ne (hs:scal (.int m) (.int n)=true) (q:Q (.bl (!decide (m=n))) H):rNe (.int m) (.int n) H Q:=⟨hs,by
  have e:decide (V.int m=V.int n)=decide (m=n):=by simp
  rw [e];exact q⟩
theorem at0 {x:V} {xs:List V}:atI (x::xs) 0=some x:=atI_nat (j:=0) rfl
theorem at1 {x y:V} {xs:List V}:atI (x::y::xs) 1=some y:=atI_nat (j:=1) rfl
theorem at2 {x y z:V} {xs:List V}:atI (x::y::z::xs) 2=some z:=atI_nat (j:=2) rfl
theorem r_t0 {p:Addr} {x:V} {xs:List V} (h:H p=some (.tup (x::xs))) (q:Q x H):rIxT K (.ref p) (.int 0) H Q:=⟨p,_,0,x,rfl,rfl,SqT.of h,at0,q⟩
theorem r_t1 {p:Addr} {x y:V} {xs:List V} (h:H p=some (.tup (x::y::xs))) (q:Q y H):rIxT K (.ref p) (.int 1) H Q:=⟨p,_,1,y,rfl,rfl,SqT.of h,at1,q⟩
theorem r_t2 {p:Addr} {x y z:V} {xs:List V} (h:H p=some (.tup (x::y::z::xs))) (q:Q z H):rIxT K (.ref p) (.int 2) H Q:=⟨p,_,2,z,rfl,rfl,SqT.of h,at2,q⟩
noncomputable def rLen (K:PySem.W.Frag):List V→Hp→VK→Prop:=fun xs H Q=>∃p ys,xs=[.ref p]∧(SqL K H p ys∨SqT K H p ys)∧Q (.int ys.length) H
theorem r_len {p:Addr} {ys:List V} (h:SqL K H p ys∨SqT K H p ys) (q:Q (.int ys.length) H):rLen K [.ref p] H Q:=⟨p,ys,rfl,h,q⟩
noncomputable def rAbs:List V→Hp→VK→Prop:=fun xs H Q=>∃i,xs=[.int i]∧Q (.int (if i<0 then -i else i)) H
theorem r_absC (q:Q (.int (if m<0 then -m else m)) H):rAbs [.int m] H Q:=⟨m,rfl,q⟩
section
variable {X:Cx} (K:PySem.W.Frag)
theorem ixL (h:autoParam (X.K=K) au0_._auto_1):IxR X (rIxL K):=h▸ix_list
theorem ixT (h:autoParam (X.K=K) au0_._auto_1):IxR X (rIxT K):=h▸ix_tup
theorem slL (h:autoParam (X.K=K) au0_._auto_1):SlR X (rSlL K):=h▸sl_list
theorem lenC (h:autoParam (X.K=K) au0_._auto_1):CallR X (.builtin "len") (rLen K):=h▸call_len_seq
theorem isiC (h:autoParam (X.K=K) au0_._auto_1):CallR X (.builtin "isinstance") (rIsi K):=h▸call_isi
theorem pe_ty {X:Cx} {x:Str} {n:String} {pos:Pos} (hg:Gl X x) (hm:X.mg x=none) (hv:bootBuiltins x=some (.type n)) (hn:autoParam (x ≠ "__name__") au1_._auto_1) (hd:autoParam ((x==("__debug__":Str))=false) au1_._auto_1):PE X (.Name x pos) (tC (.ty n)):=
  pe_bltn hg hm hv (show RelV (.ty n) (.type n) from rfl) hn hd
theorem absC:CallR X (.builtin "abs") rAbs:=call_abs
theorem piL {tg l:Expr} {tl:TE} (hl:PE X l tl) (h:autoParam (X.K=K) au0_._auto_1):PI X tg l (iList K tl):=h▸pi_list hl
theorem piT {tg l:Expr} {tl:TE} (hl:PE X l tl) (h:autoParam (X.K=K) au0_._auto_1):PI X tg l (iTup K tl):=h▸pi_tup hl
theorem pgT {es:List Expr} {k:Nat} {t:TGs} {n:Nat} {pos:Pos} (hc:X.calm=true) (g:PGs X es t)
    (hn:autoParam ((assignEach es X.env).length=n) au0_._auto_1) (hst:autoParam ((assignEach es X.env).findIdx? (·.1)=none) au0_._auto_1) (h:autoParam (X.K=K) au0_._auto_1):PG X (.Tuple es k pos) (gTup K n t):=h▸pg_tup hc g hn hst
theorem appC {o e:Expr} {to te:TE} {apos cpos:Pos} (ho:PE X o to) (he:PE X e te) (h:autoParam (X.K=K) au0_._auto_1)
    (hbase:autoParam (attributeBase o "append" X.env (eval o X.env)=eval o X.env) au0_._auto_1)
    (hfew:autoParam (((backTo cpos (starEach (e::[]) X.env)).all (fun x=>!x.1)&&(backToKw cpos (keywordEach [] X.env)).all (fun x=>x.1.isSome)
      && decide ((e::([]:List Expr)).length+([]:List Keyword).length+(if ([]:List Keyword).isEmpty then 0 else 1)<30))=true) au0_._auto_1)
    (hline:autoParam ((apos.endLine==cpos.line)=true) au0_._auto_1) (hs:autoParam (starEach (e::[]) X.env=(false,eval e X.env)::starEach [] X.env) au0_._auto_1) (hplain:autoParam ((backTo cpos (starEach [] X.env)).any (·.1)=false) au0_._auto_1) :
    PE X (.Call (.Attribute o "append" apos) [e] [] cpos) (tBM K "list" rAppend to (tCons te tNil)):=
  h▸pe_bm PySem.F.plainAttrs_list PySem.F.slot_list_append PySem.F.type_list_append mt_append ho (pa_cons he pa_nil hs) hbase hfew hline hs hplain
end
theorem same_new {p:Addr} (h:H p=none) (o:HO):Same H (upd H p o):=fun b u q=>by rw [upd_ne (ne_of_none q h)];exact q
theorem r_new {xs:List V} {mk:List V→HO} (hl:xs.length≤1000) (h:∀p H1,Same H H1→H p=none→H1 p=some (mk xs)→Q (.ref p) H1):Nw mk xs H Q:=
  ⟨Nat.le_of_lt (small1000 hl),fun p hp=>h p _ (same_new hp _) hp upd_same⟩
theorem r_g {R:L2.St→Hp→Prop} (h:R (σ.set i (some v)) H):gName i v σ H R:=h
theorem r_l {p:Addr} {xs:List V} {j:Int} (h:H p=some (.lst xs)) (e:atI xs j=some v) (q:Q v H):rIxL K (.ref p) (.int j) H Q:=⟨p,_,j,v,rfl,rfl,SqL.of h,e,q⟩
theorem r_bm {T:String} {r:V→List V→Hp→VK→Prop} {ts:TA} (h:te σ H fun x H1=>tyV K T x H1∧ts σ H1 fun xs H2=>r x xs H2 Q):tBM K T r te ts σ H Q:=h
theorem r_app {p:Addr} {xs:List V} (h:H p=some (.lst xs)) (hl:xs.length<sizeLine) (q:Q .non (upd H p (.lst (xs++[v])))):rAppend (.ref p) [v] H Q:=⟨p,xs,v,rfl,rfl,h,hl,q⟩
theorem same_at {H1 H2:Hp} {p:Addr} {o:HO} (s:Same H1 H2) (n:H1 p=none):Same H1 (upd H2 p o):=fun b x e=>by rw [upd_ne (ne_of_none e n)];exact s b x e
theorem at_ints {xs:List Int} {j:Nat} {x k:Int} (h:xs[j]?=some x) (hk:k=(j:Int)):atI (xs.map V.int) k=some (.int x):=by
  subst hk
  exact atI_nat (by rw [List.getElem?_map,h];rfl)
theorem r_two {R:V→V→Prop} {x y:V} (h:R x y):∃v w,[x,y]=[v,w]∧R v w:=⟨x,y,rfl,h⟩
theorem r_for {wi:TI} {g:TG} {tb:TS} (h:wi σ H fun J H1=>∃W:Nat→Nat→L2.St→Hp→Prop,(∃m,W 0 m σ H1)∧∀i m σ H,W i m σ H →
  (J.stop i H∧D.nx σ H)∨(J.go i H∧∃N:L2.St→Hp→Prop,(∀σ' H',N σ' H'→∃m',m'<m∧W (i+1) m' σ' H')∧∀x H',J.yld i H x H'→g x σ H' fun σ2 H2=>tb { D with nx:=N,ct:=N,bk:=D.nx } σ2 H2)):tFor wi g tb D σ H:=h
theorem r_iL {R:It→Hp→Prop} (h:te σ H fun x H1=>∃a,x=.ref a∧(∃xs,SqL K H1 a xs)∧R (Itl K a) H1):iList K te σ H R:=h
theorem r_isi {x:V} {ty:String} {tv:Value} {b:Bool} (h:TyOf K H x tv) (e:PySem.W.kitOne K tv (.type ty)=some b) (q:Q (.bl b) H):rIsi K [x,.ty ty] H Q:=⟨x,ty,tv,b,rfl,h,e,q⟩
end
end My

namespace My
open PySem PySem.Spec PyProof.Rows L2 Mth
section
variable {prog:Program} {w:World} {A:Around} {E:Value→Shared→Prop} {s:Shared}
theorem draw_list {it l:Addr} {items:Array Value} (hne:l≠it):∀(n i:Nat) (s:Shared) (Q:List Value→Shared→Prop),s.heap.IsListIter it l i→s.heap.IsList l items→i+n≤items.size →
    (∀h',h'.IsListIter it l (i+n)→Heap.SameBut it s.heap h'→Q ((items.toList.drop i).take n) { s with heap:=h' })→wpAny (model prog w) A (draw (.ref it) n) Q E s
  | 0,i,s,Q,hit,_,_,hQ=>by
    show wpAny _ _ (pure []) Q E s
    exact wpAny_pure (by simpa using hQ s.heap hit (Heap.SameBut.refl ..))
  | n+1,i,s,Q,hit,ht,hle,hQ=>by
    have hlt:i<items.size:=by (first | lia | omega)
    show wpAny _ _ (pyNext (.ref it) >>= _) Q E s
    refine wpAny_bind (wpAny_pyNext_list_item hit ht (x:=items[i]) (by simp [hlt]) fun h₁ hit₁ hs₁=>?_)
    refine wpAny_bind (wpAny_holding (draw_list hne n (i+1) _ _ hit₁ (ht.extBut hs₁.extBut hne) (by (first | lia | omega)) fun h₂ hit₂ hs₂=>wpAny_pure ?_))
    have hd:items.toList.drop i=items[i]::items.toList.drop (i+1):=by simp [List.drop_eq_getElem_cons,hlt]
    have:=hQ h₂ (by rw [show i+(n+1)=i+1+n by (first | lia | omega)];exact hit₂) (hs₁.trans hs₂)
    rw [hd,List.take_succ_cons] at this
    exact this
theorem unpackItems_list {t:Addr} {items:Array Value} {Q:List Value→Shared→Prop} (hh:A.handled=none) (ht:s.heap.IsList t items)
    (hQ:∀h',Heap.ExtBut s.heap.objs.size s.heap h'→Q items.toList { s with heap:=h' }):wpAny (model prog w) A (unpackItems (.ref t) items.size none) Q E s:=by
  have hlt:t≠s.heap.objs.size:=by obtain ⟨o,ho,_⟩:=id ht;exact Nat.ne_of_lt (Heap.lt_size ho)
  unfold unpackItems
  refine wpAny_bind ?_
  · unfold notIterableAtAll
    refine wpAny_bind (wpAny_specialOf ht.typeIs PySem.slot_list_iter.lookup ?_)
    refine wpAny_pure ?_
    simp only [Bool.false_eq_true,if_false]
    refine wpAny_bind (wpAny_holding (wpAny_pyIter_list ht ?_))
    have hp:(s.heap.push { cls:=.type "list_iterator",data:=.fields #[.ref t,.int 0 0] }).IsList t items:=ht.extBut (b:=s.heap.objs.size) (fun b o _ e=>Heap.get?_push_of_some _ e) hlt
    refine wpAny_bind (wpAny_holding (draw_list hlt items.size 0 _ _ ⟨_,Heap.get?_push_size _ rfl,rfl,rfl⟩ hp (by (first | lia | omega)) fun h₁ hit₁ hs₁=>?_))
    have hall:List.take items.size (List.drop 0 items.toList)=items.toList:=by
      rw [List.drop_zero];exact List.take_of_length_le (by simp)
    rw [hall]
    rw [if_neg (by simp)]
    have ht₁:h₁.IsList t items:=hp.extBut hs₁.extBut hlt
    refine wpAny_bind (wpAny_holding (wpAny_pyNext_list_end hh hit₁ ht₁ (by simp) fun h₂ he₂=>?_))
    simp only [Option.isSome_none,Bool.false_eq_true,if_false]
    refine wpAny_pure (hQ h₂ fun b o hb e=>he₂ b o hb (hs₁.extBut b o hb (Heap.get?_push_of_some _ e)))
theorem assign_Tuple_list {env:Env} {elts:List Expr} {x1} {pos:Pos} {t:Addr} {items:Array Value} {Q:Unit→Shared→Prop} (hh:A.handled=none) (ht:s.heap.IsList t items)
    (hn:(assignEach elts env).length=items.size) (hstar:(assignEach elts env).findIdx? (·.1)=none)
    (h:∀h',Heap.ExtBut s.heap.objs.size s.heap h'→wpAny (model prog w) A (assignInOrder ((assignEach elts env).map (·.2)) items.toList) Q E { s with heap:=h' }) :
    wpAny (model prog w) A (assign (.Tuple elts x1 pos) env (.ref t)) Q E s:=by
  rw [assign_Tuple]
  refine wpAny_bind (wpAny_standAt ?_)
  unfold unpack
  rw [hn,hstar]
  exact wpAny_bind (wpAny_holding (unpackItems_list hh ht h))
end
section
variable {X:Cx} {pos:Pos}
noncomputable def gLst (K:PySem.W.Frag) (n:Nat) (t:TGs):TG:=fun v σ H Q=>∃a xs,v=.ref a∧SqL K H a xs∧xs.length=n∧t xs σ H Q
theorem pg_lst {es:List Expr} {k:Nat} {t:TGs} {n:Nat} (hc:X.calm=true) (h:PGs X es t)
    (hn:autoParam ((assignEach es X.env).length=n) au0_._auto_1) (hst:autoParam ((assignEach es X.env).findIdx? (·.1)=none) au0_._auto_1):PG X (.Tuple es k pos) (gLst X.K n t):=by
  intro pins s σ H v u Q I r hw
  obtain ⟨a,xs,e1,hq,hl,hw⟩:=hw
  subst e1
  cases r
  obtain ⟨its,rv,ht,hz⟩:=I.list hq
  refine assign_Tuple_list (I.ok.hd hc) ht.isList (by simp [hn,← hl,rv.length]) hst fun h' hx=>?_
  have I1:Inv X pins σ H { s with heap:=h' }:=I.kept (t':=s.toks) fun b o e=>hx b o (Nat.ne_of_lt (Heap.lt_size e)) e
  exact h pins _ σ H xs _ Q I1 (by simpa using rv) hw
theorem pgL (K:PySem.W.Frag) {es:List Expr} {k:Nat} {t:TGs} {n:Nat} (hc:X.calm=true) (g:PGs X es t)
    (hn:autoParam ((assignEach es X.env).length=n) au0_._auto_1) (hst:autoParam ((assignEach es X.env).findIdx? (·.1)=none) au0_._auto_1) (h:autoParam (X.K=K) au0_._auto_1):PG X (.Tuple es k pos) (gLst K n t):=h▸pg_lst hc g hn hst
end
section
variable {σ:L2.St} {H:Hp} {Q:VK} {a b:Bool} {K:PySem.W.Frag}
theorem r_unlist3 {p:Addr} {x y z:V} {i j k:Nat} {R:L2.St→Hp→Prop} (h:H p=some (.lst [x,y,z])) (q:R (((σ.set i (some x)).set j (some y)).set k (some z)) H):gLst K 3 (gCons (gName i) (gCons (gName j) (gCons (gName k) gNil))) (.ref p) σ H R:=
  ⟨p,_,rfl,SqL.of h,rfl,x,_,rfl,y,_,rfl,z,_,rfl,rfl,q⟩
end
end My

namespace My
open PySem PySem.Spec PyProof.Rows L2 Mth
noncomputable def cxComp (X:Cx) (N':List Str) (scope:Scope) (cl:List (Str×Addr)) (C:Addr) (s0:Shared) (H0:Hp) (ex':List Addr) (pn':List (Addr×Obj)):Cx:=
  { X with N:=N',s₀:=s0,H₀:=H0,env:=compEnvC scope cl C X.env,outer:=X.stack,ex:=ex',fn:=fun _=>false,pn:=pn',xe:=fun _ _=>False }
noncomputable def capV (cap:List Nat) (σ:L2.St):L2.St:=cap.map fun j=>(σ[j]?).getD none
theorem hok_but {P:Program} {w:World} {H:Hp} {h h':Heap} {C:Addr} (x:HOk P w H h) (n:H C=none) (k:∀b o,b≠C→h.get? b=some o→h'.get? b=some o):HOk P w H h':=fun b u e=>
  (x b u e).stay (fun c v hc q=>k c v (by
    rcases hc with z | z
    · rw [z];exact ne_of_none e n
    · exact ne_of_none z n) q) (fun _ q=>q) fun _ _ q=>q
theorem compLoop_gen {prog:Program} {w:World} {A:Around} {R:Result→Shared→Prop} {s:Shared} {elt iter tg:Expr} {ifs:List Expr} {scope:Scope} {pos:Pos} {it acc:Value} {env:Env} (I:Nat→Shared→Prop)
    (turn:∀n s,I n s→wpAny (model prog w) A (pyNext it) (fun r s₁=>match r with
      | none=>R (.ok .next) s₁
      | some v=>wpAny (model prog w) A (letOwnedTupleGo tg it v) (fun _ s₁'=>wpAny (model prog w) A (assign tg env v) (fun _ s₂=>
          wpAny (model prog w) A (forIn ifs true fun c r=>if r=true then do let ok ← isTrue c env (eval c env);pure (ForInStep.yield ok) else pure (ForInStep.yield r)) (fun ok s₃=>
            if ok=true then wpAny (model prog w) A (eval elt env) (fun x s₄=>
              wpAny (model prog w) A (call (.builtin "list.append") [acc,x]) (fun _ s₅=>∃m,m<n∧I m s₅) (notedBy (model prog w) A env fun e s'=>R (.error e) s') s₄) (notedBy (model prog w) A env fun e s'=>R (.error e) s') s₃
            else ∃m,m<n∧I m s₃) (notedBy (model prog w) A env fun e s'=>R (.error e) s') s₂) (notedBy (model prog w) A env fun e s'=>R (.error e) s') s₁') (notedBy (model prog w) A env fun e s'=>R (.error e) s') s₁) (notedBy (model prog w) A env fun e s'=>R (.error e) s') s)
    (n:Nat) (h:I n s):codeAny (model prog w) A (.compLoop (.ListComp elt [⟨tg,iter,ifs,0⟩] scope pos) 0 it acc env) R s:=by
  refine codeAny_loop rfl I (fun n s hI=>?_) n h
  show wpAny _ A ((compTurn (.ListComp elt [⟨tg,iter,ifs,0⟩] scope pos) 0 it acc env).onRaise (fun x=>do noteFrame x env;theTreesLotGoes x)) _ _ s
  refine wpAny_noted ?_
  rw [compTurn_list]
  refine wpAny_bind (wpAny_standAt (wpAny_bind (wpAny_mono (turn n s hI) (fun r s₁ h₁=>?_) fun _ _ h'=>h')))
  cases r with
  | none=>exact wpAny_pure h₁
  | some v=>
    refine wpAny_bind (wpAny_mono h₁ (fun _ s₂ h₂=>wpAny_bind (wpAny_mono h₂ (fun _ s₃ h₃=>wpAny_bind (wpAny_mono h₃ (fun ok s₄ h₄=>?_) fun _ _ h'=>h')) fun _ _ h'=>h')) fun _ _ h'=>h')
    cases ok with
    | false=>exact wpAny_pure ⟨rfl,h₄⟩
    | true=>
      exact wpAny_bind (wpAny_bind (wpAny_mono h₄ (fun x s₄ h₄=>wpAny_bind (wpAny_mono h₄ (fun _ s₅ h₅=>wpAny_pure (wpAny_pure ⟨rfl,h₅⟩)) fun _ _ h'=>h')) fun _ _ h'=>h'))
noncomputable def PTs (X:Cx) (ifs:List Expr) (t:TT):Prop:=
  ∀(pins:List (Addr×Obj)) (s:Shared) (σ:L2.St) (H:Hp) (Q:Bool→Hp→Prop),Inv X pins σ H s→t σ H Q →
    wpAny (model X.prog X.w) X.A (forIn ifs true fun c r=>if r=true then do let ok ← isTrue c X.env (eval c X.env);pure (ForInStep.yield ok) else pure (ForInStep.yield r)) (TP X pins σ Q) X.xe s
noncomputable def tYes:TT:=fun _ H B=>B true H
theorem pts_nil {X:Cx}:PTs X [] tYes:=fun _ _ _ H _ I h=>wpAny_tests_nil ⟨H,I,h⟩
theorem pts_one {X:Cx} {c:Expr} {t:TT} (h:PT X c t):PTs X [c] t:=fun pins s σ H Q I q=>wpAny_tests_one (h pins s σ H Q I q)
noncomputable def CapOk (X:Cx) (scope:Scope) (cl:List (Str×Addr)):List Str→List Nat→Prop
  | [],[]=>True
  | y::ys,j::js=>(X.N[j]?=some y∧X.env.kindOf y=some .cell∧(relabel scope X.env).names.lookup y=some .cell∧cl.lookup y=X.env.cells.lookup y)∧CapOk X scope cl ys js
  | _,_=>False
theorem CapOk.len {X:Cx} {scope:Scope} {cl:List (Str×Addr)}:∀{ys:List Str} {js:List Nat},CapOk X scope cl ys js→ys.length=js.length
  | [],[],_=>rfl
  | _::_,_::_,h=>congrArg (·+1) h.2.len
theorem CapOk.at {X:Cx} {scope:Scope} {cl:List (Str×Addr)}:∀{ys:List Str} {js:List Nat},CapOk X scope cl ys js→∀(i j:Nat) (y:Str),ys[i]?=some y→js[i]?=some j →
    X.N[j]?=some y∧X.env.kindOf y=some .cell∧(relabel scope X.env).names.lookup y=some .cell∧cl.lookup y=X.env.cells.lookup y
  | [],[],_,i,_,_,e,_=>by simp at e
  | _::_,_::_,h,0,j,y,e1,e2=>by
    simp at e1 e2
    subst e1 e2
    exact h.1
  | _::_,_::_,h,i+1,j,y,e1,e2=>h.2.at i j y (by simpa using e1) (by simpa using e2)
noncomputable def tComp (wi:TI) (n:Nat) (cap:List Nat) (g:TG) (tt:TT) (te:TE):TE:=fun σ H Q=>wi σ H fun J H1=>∀D,H1 D=none→∃W:Nat→Nat→List V→Hp→Prop,(∃m,W 0 m [] (upd H1 D (.lst []))) ∧
  ∀i m xs H2,W i m xs H2→H2 D=some (.lst xs)∧((J.stop i H2∧Q (.ref D) H2)∨(J.go i H2∧xs.length<sizeLine∧∀x H3 σ0,σ0.length=n→J.yld i H2 x H3 →
    g x (σ0++capV cap σ) H3 fun σ2 H4=>(∃σ1,σ1.length=n∧σ2=σ1++capV cap σ)∧tt σ2 H4 fun b H5=>if b=true then te σ2 H5 fun y H6=>H6 D=some (.lst xs)∧∃m',m'<m∧W (i+1) m' (xs++[y]) (upd H6 D (.lst (xs++[y])))
      else ∃m',m'<m∧W (i+1) m' xs H5))
section
variable {X:Cx} {elt iter tg:Expr} {ifs:List Expr} {pos:Pos} {scope:Scope} {cl:List (Str×Addr)} {wi:TI} {te:TE} {tt:TT} {g:TG} {O N':List Str} {cap:List Nat} {n:Nat}
theorem inv_but {pins:List (Addr×Obj)} {σ:L2.St} {H:Hp} {s:Shared} {C:Addr} {h':Heap} (I:L2.Inv X pins σ H s) (hC:FpOk X pins H C) (sb:Heap.SameBut C s.heap h'):L2.Inv X pins σ H { s with heap:=h' }:=by
  have k:∀b o,s.heap.get? b=some o→b∉[C]→h'.get? b=some o:=fun b o e hb=>(sb.2 b (fun z=>hb (by rw [z];exact List.mem_singleton.mpr rfl))).trans e
  refine I.call' (s':={ s with heap:=h' }) (ch:=[C]) rfl ⟨fun b o e _ _ hb=>k b o e hb,fun b o e _ _ hb=>⟨o.slots,k b o e hb⟩,fun b o _ n _=>n,fun b o e hb=>⟨o,k b o e hb⟩,fun _ _ q=>q,fun _ _ _ q=>q,fun _ ps q=>⟨#[],by simpa using q⟩⟩
    (hok_but I.hok hC.1 fun b o hb e=>(sb.2 b hb).trans e) I.bare fun b hb=>?_
  obtain rfl:b=C:=List.mem_singleton.mp hb
  exact ⟨hC.2.2.2.1,hC.2.1,hC.2.2.2.2.1,hC.2.2.2.2.2⟩
theorem comp_gen {pins:List (Addr×Obj)} {s:Shared} {σ:L2.St} {H:Hp} {Q:VK} {cpos:Pos} (use:Option (Value→Sem Unit)) (Q':Value→Shared→Prop) (hc:X.calm=true) (hi:PI X tg iter wi)
    (hg:∀(C:Addr) (s0:Shared) (H0:Hp) (ex':List Addr) (pn':List (Addr×Obj)),PG (cxComp X (O++N') scope cl C s0 H0 ex' pn') tg g)
    (htt:∀(C:Addr) (s0:Shared) (H0:Hp) (ex':List Addr) (pn':List (Addr×Obj)),PTs (cxComp X (O++N') scope cl C s0 H0 ex' pn') ifs tt)
    (helt:∀(C:Addr) (s0:Shared) (H0:Hp) (ex':List Addr) (pn':List (Addr×Obj)),PE (cxComp X (O++N') scope cl C s0 H0 ex' pn') elt te)
    (hO:O.length=n) (hcap:CapOk X scope cl N' cap)
    (hclos:closureFor scope X.env=pure cl) (hcell:∀y∈scope.names,y.2≠.cell) (hkind:scope.kind=.function) (hnames:∀y∈scope.names,y.2=.local→scope.names.lookup y.1=some .local)
    (hclx:∀y c,cl.lookup y=some c→X.env.cells.lookup y=some c) (hhas:∀y,((relabel scope X.env).names.lookup y=some .cell∨(relabel scope X.env).names.lookup y=some .free)→∃c,cl.lookup y=some c)
    (hs:∀z,foldedSetIterable iter X.env z=pure z)
    (I:L2.Inv X pins σ H s) (h:tComp wi n cap g tt te σ H Q)
    (fin:∀(D:Addr) (H5:Hp) (s6:Shared) (C:Addr),L2.Inv X pins σ H5 s6→FpOk X pins H5 C→(∃m,s6.heap.Ns C m)→Q (.ref D) H5→compPost (model X.prog X.w) X.A X.xe use Q' (.ref D) C (.ok .next) s6) :
    wpAny (model X.prog X.w) X.A (comprehension (.ListComp elt [⟨tg,iter,ifs,0⟩] scope pos) scope X.env cpos (newList []) false (eval iter X.env) use) Q' X.xe s:=by
  refine wpAny_comprehension_free (use:=use) rfl hs hclos hkind hnames (thn (hi pins s σ H _ I h) fun v s1 h1=>thn h1 fun itv s2 h2=>?_)
  obtain ⟨it,fp,tn,J,H2,e,I2,T,st2,f2,q2⟩:=h2
  subst e
  refine wpAny_newObj_type (wpAny_newFunctionEnv hcell (by intro y hy;simp at hy) (fun h₁ hns₁ hsb₁=>?_) hkind)
  dsimp only at hns₁ hsb₁ ⊢
  -- the list, then the block's own names
  have I3:Inv X pins σ (upd H2 s2.heap.objs.size (.lst [])) { s2 with heap:=s2.heap.push { cls:=.type "list",data:=.seq ([]:List Value).toArray },toks:=s2.toks }:=I2.lnew (its:=[]) (t':=s2.toks) .nil (Nat.zero_le _)
  generalize hH3:s2.heap.push { cls:=.type "list",dict:=none,data:=.seq ([]:List Value).toArray }=h3 at hns₁ hsb₁ I3 ⊢
  have q3:=q2 s2.heap.objs.size (I2.hok.fresh (Nat.le_refl _))
  generalize hD:s2.heap.objs.size=D at I3 q3 hns₁ hsb₁ ⊢
  obtain ⟨W,⟨m0,w0⟩,turn⟩:=q3
  have hC:∀b o,h3.get? b=some o→b≠h3.objs.size:=fun b o e=>Nat.ne_of_lt (Heap.lt_size e)
  have old:∀b o,h3.get? b=some o→h₁.get? b=some o:=fun b o e=>hsb₁.extBut b o (hC b o e) (Heap.get?_push_of_some _ e)
  have fpThere:∀b∈fp,∃o,h3.get? b=some o:=fun b hb=>by
    obtain ⟨o,e,_⟩:=T.obj _ _ st2 b hb
    exact ⟨o,by rw [← hH3];exact Heap.get?_push_of_some _ e⟩
  have fp3:∀b∈fp,upd H2 D (.lst []) b=none:=fun b hb=>by
    have n:=(f2 b hb).1
    obtain ⟨o,e,_⟩:=T.obj _ _ st2 b hb
    rw [upd_ne (by rw [← hD];exact Nat.ne_of_lt (Heap.lt_size e))]
    exact n
  have stk:∀b∈fp,b∉frs X.stack:=fun b hb z=>by
    rcases List.mem_cons.mp (I3.stkSub b z) with e | e
    · exact (f2 b hb).2.1 e
    · exact (f2 b hb).2.2.1 e
  have ok:(cxComp X (O++N') scope cl h3.objs.size { s2 with heap:=h3,toks:=s2.toks } (upd H2 D (.lst [])) fp (X.pn++pins)).Ok:=
    ⟨I.ok.mod,hkind,I.ok.glob,I.ok.blt,Nat.le_refl _,fun y z c a b=>I.ok.inj y z c (hclx y c a) (hclx z c b),hhas,fun _ _ z=>absurd z Bool.false_ne_true,I.ok.hd,I.ok.frames,.inl rfl,
      fun b hb=>⟨by obtain ⟨o,e⟩:=fpThere b hb;exact hC b o e,fun y c a=>(f2 b hb).2.2.2.2.1 y c (hclx y c a)⟩,I3.bs,Nat.le_trans I3.ok.bsz I3.sz,
      fun b o e hb=>by
        rcases (f2 b hb).2.2.2.1 with z | z
        · exact I.ok.noex b o e z
        · exact absurd (Nat.lt_of_lt_of_le (Heap.lt_size (I.ok.bs b o e).1) z) (Nat.lt_irrefl _),
      stk,I3.stack,I3.stkFree⟩
  have I4:Inv (cxComp X (O++N') scope cl h3.objs.size { s2 with heap:=h3,toks:=s2.toks } (upd H2 D (.lst [])) fp (X.pn++pins)) [] (List.replicate n none++capV cap σ) (upd H2 D (.lst [])) { s2 with heap:=h₁,toks:=s2.toks+([]:List (Str×Value)).length }:=by
    refine ⟨ok,rfl,I3.bare,Un.kept old,⟨_,hns₁,fun i y v e1 e2 e3=>?_⟩,fun y c a=>?_,I3.hok.fresh (Nat.le_refl _),fun y c a=>I3.freeC y c (hclx y c a),fun p hp=>?_,I3.hok.kept old,?_⟩
    · by_cases hin:i<n
      · rw [List.getElem?_append_left (by rw [List.length_replicate];exact hin),List.getElem?_replicate,if_pos hin] at e2
        cases e2
      · have e1':N'[i-n]?=some y:=by
          have z:(O++N')[i]?=some y:=e1
          rw [List.getElem?_append_right (by (first | lia | omega)),hO] at z
          exact z
        have hi':i-n<cap.length:=by rw [← hcap.len];exact (List.getElem?_eq_some_iff.mp e1').1
        obtain ⟨j,ej⟩:∃j,cap[i-n]?=some j:=⟨_,List.getElem?_eq_getElem hi'⟩
        obtain ⟨a1,a2,a3,a4⟩:=hcap.at (i-n) j y e1' ej
        have e2':σ[j]?=some (some v):=by
          have z:(capV cap σ)[i-n]?=some (some v):=by
            rw [List.getElem?_append_right (by rw [List.length_replicate];(first | lia | omega)),List.length_replicate] at e2
            exact e2
          unfold capV at z
          rw [List.getElem?_map,ej] at z
          have z2:(σ[j]?).getD none=some v:=by simpa using z
          cases q:σ[j]? with
          | none=>rw [q] at z2;cases z2
          | some o=>rw [q] at z2;exact congrArg some z2
        obtain ⟨m,hn,hl⟩:=I3.loc
        obtain ⟨u,r,l⟩:=hl j y v a1 e2' (.inr (.inl a2))
        refine ⟨u,r,.inr ⟨.inl a3,?_⟩⟩
        rcases l with ⟨k,_⟩ | ⟨_,c,ec,o,ho,hd⟩
        · rw [a2] at k;cases k
        · exact ⟨c,a4.trans ec,o,old c o ho,hd⟩
    · obtain ⟨v,o,ho,hd⟩:=I3.cell y c (hclx y c a)
      exact ⟨v,o,old c o ho,hd⟩
    · have hp':p∈X.pn++pins:=by simpa [cxComp] using hp
      obtain ⟨e,n,ne,nf,d⟩:=I3.pin p hp'
      refine ⟨old _ _ e,n,hC _ _ e,fun z=>?_,d⟩
      rcases List.mem_cons.mp (I3.stkSub p.1 z) with e | e
      · exact ne e
      · exact nf e
    · show (List.replicate n none++capV cap σ).length=(O++N').length
      unfold capV
      rw [List.length_append,List.length_append,List.length_replicate,List.length_map,hcap.len,hO]
  have loop:codeAny (model X.prog X.w) X.A (.compLoop (.ListComp elt [⟨tg,iter,ifs,0⟩] scope pos) 0 (.ref it) (.ref D) (compEnvC scope cl h3.objs.size X.env))
      (compPost (model X.prog X.w) X.A X.xe use Q' (.ref D) h3.objs.size) { s2 with heap:=h₁,toks:=s2.toks+([]:List (Str×Value)).length }:=by
    have fpk:∀{H':Hp},(∀b∈fp,H' b=none)→∀b∈fp,FpOk (cxComp X (O++N') scope cl h3.objs.size { s2 with heap:=h3,toks:=s2.toks } (upd H2 D (.lst [])) fp (X.pn++pins)) [] H' b:=fun hn b hb=>by
      obtain ⟨o,e⟩:=fpThere b hb
      refine ⟨hn b hb,hC b o e,stk b hb,.inl hb,fun y c a=>(f2 b hb).2.2.2.2.1 y c (hclx y c a),fun p hp=>?_⟩
      have hp':p∈X.pn++pins:=by simpa [cxComp] using hp
      exact (f2 b hb).2.2.2.2.2 p hp'
    refine compLoop_gen (fun mm s'=>∃(i:Nat) (xs:List V) (H':Hp) (σ0:L2.St),σ0.length=n∧Inv (cxComp X (O++N') scope cl h3.objs.size { s2 with heap:=h3,toks:=s2.toks } (upd H2 D (.lst [])) fp (X.pn++pins)) [] (σ0++capV cap σ) H' s'∧tn i s'.heap∧(∀b∈fp,H' b=none)∧W i mm xs H') ?_ m0
      ⟨0,[],_,List.replicate n none,List.length_replicate,I4,T.keep _ _ _ st2 fun b hb o e=>old b o (by rw [← hH3];exact Heap.get?_push_of_some _ e),fp3,w0⟩
    rintro mm s5 ⟨i,xs,H5,σ0,hσ0,I5,st5,fr5,w5⟩
    obtain ⟨e5,tw⟩:=turn i mm xs H5 w5
    rcases tw with ⟨stop,qn⟩ | ⟨go,hz,step⟩
    · refine thn (T.done (cxComp X (O++N') scope cl h3.objs.size { s2 with heap:=h3,toks:=s2.toks } (upd H2 D (.lst [])) fp (X.pn++pins)) rfl rfl rfl hc i [] s5 _ H5 _ I5 (fpk fr5) st5 stop) fun r s6 ⟨hr,I6⟩=>?_
      subst hr
      obtain ⟨m,hn,_⟩:=id I6.loc
      have J6:L2.Inv X pins σ H5 s6:=I3.call' (s':=s6) (ch:=fp) I6.os I6.base I6.hok I6.bare fun b hb=>by
        obtain ⟨_,g1,_,g3,g4,g5⟩:=f2 b hb
        exact ⟨g3,g1,g4,g5⟩
      exact fin D H5 s6 _ J6 (I3.fpOk (Nat.le_refl _) I6.free) ⟨m,hn⟩ qn
    · refine thn (T.item (cxComp X (O++N') scope cl h3.objs.size { s2 with heap:=h3,toks:=s2.toks } (upd H2 D (.lst [])) fp (X.pn++pins)) rfl rfl rfl hc i [] s5 _ H5 _ I5 (fpk fr5) st5 go) fun r s6 ⟨u,hr,h6⟩=>?_
      subst hr
      refine thn h6 fun _ s7 ⟨xv,H7,I7,r7,y7,st7,fr7⟩=>?_
      have I7':=I7.pinned (fpk fr7) (T.obj _ _ st7)
      refine wpAny_mono (hg _ _ _ _ _ _ s7 _ H7 xv u _ I7' r7 (step xv H7 σ0 hσ0 y7)) (fun _ s8 ⟨σ2,H8,I8,⟨σ1,hσ1,e2⟩,q8⟩=>?_) fun _ _ z=>z.elim
      refine wpAny_mono (htt _ _ _ _ _ _ s8 σ2 H8 _ I8 q8) (fun ok s9 ⟨H9,I9,q9⟩=>?_) fun _ _ z=>z.elim
      subst e2
      have keep:∀{s':Shared} {σ':L2.St} {H':Hp},Inv (cxComp X (O++N') scope cl h3.objs.size { s2 with heap:=h3,toks:=s2.toks } (upd H2 D (.lst [])) fp (X.pn++pins)) ([]++pinsAt fp s7.heap) σ' H' s'→tn (i+1) s'.heap∧∀b∈fp,H' b=none:=fun {s' σ' H'} J=>
        ⟨T.keep _ _ _ st7 fun b hb o e=>(J.pin (b,o) (List.mem_append_right _ (List.mem_append_right _ (mem_pinsAt hb e)))).1,fun b hb=>by
          obtain ⟨o,e,d⟩:=T.obj _ _ st7 b hb
          exact (J.pin (b,o) (List.mem_append_right _ (List.mem_append_right _ (mem_pinsAt hb e)))).2.1⟩
      cases ok with
      | false=>
        rw [if_neg Bool.false_ne_true] at q9 ⊢
        obtain ⟨m',hm,w9⟩:=q9
        exact ⟨m',hm,i+1,xs,H9,σ1,hσ1,I9.unpinned,(keep I9).1,(keep I9).2,w9⟩
      | true=>
        rw [if_pos rfl] at q9 ⊢
        refine wpAny_mono (helt _ _ _ _ _ _ s9 _ H9 _ I9 q9) (fun yv s10 ⟨y,H10,I10,r10,e10,m',hm,w10⟩=>?_) fun _ _ z=>z.elim
        refine wpAny_mono (mt_append (X:=cxComp X (O++N') scope cl h3.objs.size { s2 with heap:=h3,toks:=s2.toks } (upd H2 D (.lst [])) fp (X.pn++pins)) _ s10 _ H10 (.ref D) [y] (.ref D) [yv] (fun _ H'=>H'=upd H10 D (.lst (xs++[y]))) I10 rfl (.cons r10 .nil) ⟨D,xs,y,rfl,rfl,e10,hz,rfl⟩) (fun _ s11 ⟨_,H11,I11,_,e11⟩=>?_) fun _ _ z=>z.elim
        subst e11
        exact ⟨m',hm,i+1,xs++[y],_,σ1,hσ1,I11.unpinned,(keep I11).1,(keep I11).2,w10⟩
  exact codeAny_compStart_list loop (T.self _ 0 _ _ _ (T.keep _ _ _ st2 fun b hb o e=>old b o (by rw [← hH3];exact Heap.get?_push_of_some _ e)) loop)
theorem pe_comp (hc:X.calm=true) (hi:PI X tg iter wi)
    (hg:∀(C:Addr) (s0:Shared) (H0:Hp) (ex':List Addr) (pn':List (Addr×Obj)),PG (cxComp X (O++N') scope cl C s0 H0 ex' pn') tg g)
    (htt:∀(C:Addr) (s0:Shared) (H0:Hp) (ex':List Addr) (pn':List (Addr×Obj)),PTs (cxComp X (O++N') scope cl C s0 H0 ex' pn') ifs tt)
    (helt:∀(C:Addr) (s0:Shared) (H0:Hp) (ex':List Addr) (pn':List (Addr×Obj)),PE (cxComp X (O++N') scope cl C s0 H0 ex' pn') elt te)
    (hO:O.length=n) (hcap:CapOk X scope cl N' cap)
    (hclos:closureFor scope X.env=pure cl) (hcell:∀y∈scope.names,y.2≠.cell) (hkind:scope.kind=.function) (hnames:∀y∈scope.names,y.2=.local→scope.names.lookup y.1=some .local)
    (hclx:∀y c,cl.lookup y=some c→X.env.cells.lookup y=some c) (hhas:∀y,((relabel scope X.env).names.lookup y=some .cell∨(relabel scope X.env).names.lookup y=some .free)→∃c,cl.lookup y=some c)
    (hs:autoParam (∀z,foldedSetIterable iter X.env z=pure z) au2_._auto_1) :
    PE X (.ListComp elt [⟨tg,iter,ifs,0⟩] scope pos) (tComp wi n cap g tt te):=by
  intro pins s σ H Q I h
  rw [eval_ListComp]
  exact comp_gen none (EP X pins σ Q) hc hi hg htt helt hO hcap hclos hcell hkind hnames hclx hhas hs I h fun D H5 s6 C J fC ⟨m,hn⟩ q=>⟨m,hn,fun h' sb=>⟨.ref D,H5,inv_but J fC sb,rfl,q⟩⟩
theorem ps_comp {i:Nat} {x:Str} {pos' spos:Pos} (hN:X.N.Nodup) (hix:X.N[i]?=some x) (hx:Loc X.env.scope x) (hc:X.calm=true) (hi:PI X tg iter wi)
    (hg:∀(C:Addr) (s0:Shared) (H0:Hp) (ex':List Addr) (pn':List (Addr×Obj)),PG (cxComp X (O++N') scope cl C s0 H0 ex' pn') tg g)
    (htt:∀(C:Addr) (s0:Shared) (H0:Hp) (ex':List Addr) (pn':List (Addr×Obj)),PTs (cxComp X (O++N') scope cl C s0 H0 ex' pn') ifs tt)
    (helt:∀(C:Addr) (s0:Shared) (H0:Hp) (ex':List Addr) (pn':List (Addr×Obj)),PE (cxComp X (O++N') scope cl C s0 H0 ex' pn') elt te)
    (hO:O.length=n) (hcap:CapOk X scope cl N' cap)
    (hclos:closureFor scope X.env=pure cl) (hcell:∀y∈scope.names,y.2≠.cell) (hkind:scope.kind=.function) (hnames:∀y∈scope.names,y.2=.local→scope.names.lookup y.1=some .local)
    (hclx:∀y c,cl.lookup y=some c→X.env.cells.lookup y=some c) (hhas:∀y,((relabel scope X.env).names.lookup y=some .cell∨(relabel scope X.env).names.lookup y=some .free)→∃c,cl.lookup y=some c)
    (hsw:swapsWith (.ListComp elt [⟨tg,iter,ifs,0⟩] scope pos) (some (.Name x pos')) spos.line X.env=pure true)
    (hs:autoParam (∀z,foldedSetIterable iter X.env z=pure z) au2_._auto_1) (hf:X.fn x=true∨X.env.scope.names.lookup x=some .local:=by first | exact .inl rfl | exact .inr rfl | assumption) :
    PS X (.Assign [.Name x pos'] (.ListComp elt [⟨tg,iter,ifs,0⟩] scope pos) spos) (tAsg (tComp wi n cap g tt te) (gName i)):=by
  intro pins s σ H D I h
  rw [exec_Assign_Name_used _ _ _ _ hsw]
  refine wpAny_bind (wpAny_standAt (wpAny_bind ?_))
  show wpAny _ _ (comprehension (.ListComp elt [⟨tg,iter,ifs,0⟩] scope pos) scope X.env _ (newList []) false (eval iter X.env) (some (assign (.Name x pos') X.env)) >>= fun _=>pure ()) _ _ s
  refine wpAny_bind (comp_gen (some (assign (.Name x pos') X.env)) (fun _ s'=>wpAny _ _ (pure ()) _ _ s') hc hi hg htt helt hO hcap hclos hcell hkind hnames hclx hhas hs I h fun Dl H5 s6 C J fC ⟨m,hn⟩ q=>?_)
  refine wpAny_assign_Name (store_ok2 J hN hix hx (show RelV (.ref Dl) (.ref Dl) from rfl) (fun s7 I7 ⟨a,sb,ha⟩=>⟨m,hn.sameBut sb ?_,fun h' sb'=>wpAny_pure (wpAny_pure ⟨_,H5,inv_but I7 fC sb',q⟩)⟩) hf)
  rcases ha with rfl | e
  · exact fC.2.1
  · exact fun z=>fC.2.2.2.2.1 x a e z.symm
end
end My

namespace My
open PySem PySem.Spec PyProof.Rows L2 Mth
structure Cn (mg:Str→Option Value) (x:Str) (n:Int):Prop where
  ex:∃t,mg x=some (.int n t)
section
variable {X:Cx} {x:Str} {n:Int} {pos apos cpos:Pos} {o:Expr} {to:TE}
theorem pe_cn (hg:Gl X x) (C:Cn X.mg x n) (hd:autoParam ((x==("__debug__":Str))=false) au1_._auto_1):PE X (.Name x pos) (tC (.int n)):=by
  obtain ⟨t,h⟩:=C.ex
  exact L2.pe_glob hg h ⟨t,rfl⟩ hd
noncomputable def rBits:V→Hp→VK→Prop:=fun x H Q=>∃i:Int,x=.int i∧Q (.int ((Builtin.Int.intBits i:Nat):Int)) H
theorem mt_bits:MtR X "int.bit_length" (fun x vs H Q=>vs=[]∧rBits x H Q):=by
  intro pins s σ H x vs v us Q I rx rv h
  obtain ⟨rfl,i,rfl,q⟩:=h
  cases rv
  obtain ⟨t,rfl⟩:=rx
  exact call_int_bit_length ⟨.int ((Builtin.Int.intBits i:Nat):Int),H,I.tok _,⟨_,rfl⟩,q⟩
theorem pe_bits (ho:PE X o to) (hbase:autoParam (attributeBase o "bit_length" X.env (eval o X.env)=eval o X.env) au0_._auto_1) (hline:autoParam ((apos.endLine==cpos.line)=true) au0_._auto_1) :
    PE X (.Call (.Attribute o "bit_length" apos) [] [] cpos) (tUn (fun x H Q=>tyV X.K "int" x H∧([]:List V)=[]∧rBits x H Q) to):=
  pe_bm0 PySem.F.plainAttrs_int slot_int_bit_length type_int_bit_length mt_bits ho hbase hline
end
section
variable {σ:L2.St} {H:Hp} {Q:VK} {m n:Int} {K:PySem.W.Frag} {X:Cx}
theorem r_bits (q:Q (.int ((Builtin.Int.intBits m:Nat):Int)) H):tyV K "int" (.int m) H∧([]:List V)=[]∧rBits (.int m) H Q:=⟨rfl,rfl,m,rfl,q⟩
noncomputable def rMax:List V→Hp→VK→Prop:=fun xs H Q=>∃i j:Int,xs=[.int i,.int j]∧Q (.int (if j>i then j else i)) H
noncomputable def rMin:List V→Hp→VK→Prop:=fun xs H Q=>∃i j:Int,xs=[.int i,.int j]∧Q (.int (if j<i then j else i)) H
theorem maxC (hc:X.calm=true):CallR X (.builtin "max") rMax:=call_max2 hc
theorem minC (hc:X.calm=true):CallR X (.builtin "min") rMin:=call_min2 hc
theorem r_max (q:Q (.int (if n>m then n else m)) H):rMax [.int m,.int n] H Q:=⟨m,n,rfl,q⟩
theorem r_min (q:Q (.int (if n<m then n else m)) H):rMin [.int m,.int n] H Q:=⟨m,n,rfl,q⟩
theorem catT (K:PySem.W.Frag) (h:autoParam (X.K=K) au0_._auto_1):OpR X (binaryOp .Add) (rCatT K):=h▸op_catT
theorem r_catT {p r:Addr} {x y:V} {xs ys:List V} (hp:H p=some (.tup (x::xs))) (hr:H r=some (.tup (y::ys))) (h:Nw .tup (x::xs++y::ys) H Q):rCatT K (.ref p) (.ref r) H Q:=
  ⟨p,r,_,_,rfl,rfl,SqT.of hp,SqT.of hr,by simp,by have:=h.1;rw [List.length_append] at this;exact this,fun e=>by simp at e,fun _=>h.2⟩
theorem r_cat {p r:Addr} {xs ys:List V} (hp:H p=some (.lst xs)) (hr:H r=some (.lst ys)) (h:Nw .lst (xs++ys) H Q):rCat (.ref p) (.ref r) H Q:=⟨p,r,_,_,rfl,rfl,hp,hr,by have:=h.1;rw [List.length_append] at this;exact this,h.2⟩
theorem r_rep {p:Addr} {xs:List V} {k:Int} (hp:H p=some (.lst xs)) (h1:-(2 ^ 63)≤k) (h2:k<2 ^ 63) (h:Nw .lst (List.replicate k.toNat xs).flatten H Q):rRep (.ref p) (.int k) H Q:=
  ⟨p,k,xs,rfl,rfl,hp,h1,h2,by have:=h.1;rw [len_rep] at this;rw [Nat.mul_comm];exact this,h.2⟩
theorem at3 {x y z u:V} {xs:List V}:atI (x::y::z::u::xs) 3=some u:=atI_nat (j:=3) rfl
theorem r_t3 {p:Addr} {x y z u:V} {xs:List V} (h:H p=some (.tup (x::y::z::u::xs))) (q:Q u H):rIxT K (.ref p) (.int 3) H Q:=⟨p,_,3,u,rfl,rfl,SqT.of h,at3,q⟩
end
section
variable {σ:L2.St} {H:Hp} {to ti:TE} {ts:TSet} {R:L2.St→Hp→Prop} {v:V}
theorem r_asg {te:TE} {g:TG} {D:Ends} (h:te σ H fun x H1=>g x σ H1 D.nx):tAsg te g D σ H:=h
theorem r_gsub (h:to σ H fun o H1=>ti σ H1 fun i H2=>ts o i v H2 fun H3=>R σ H3):gSub to ti ts v σ H R:=h
theorem r_setL {p:Addr} {xs:List V} {k:Int} {j:Nat} {Q:Hp→Prop} (h:H p=some (.lst xs)) (e:ixN xs.length k=some j) (q:Q (upd H p (.lst (xs.set j v)))):rSetL (.ref p) (.int k) v H Q:=⟨p,xs,k,j,rfl,rfl,h,e,q⟩
end
theorem heads_big {low:Int} (c:((Builtin.Int.intBits low:Nat):Int)>128) (h0:0≤low):340282366920938463463374607431768211456≤low:=by
  have h:¬Builtin.Int.intBits low≤128:=by (first | lia | omega)
  have k:¬low.natAbs<2 ^ 128:=fun q=>h (intBits_le_iff.mpr q)
  have e:(2:Nat) ^ 128=340282366920938463463374607431768211456:=by decide
  (first | lia | omega)
theorem heads_small {low:Int} (c:¬((Builtin.Int.intBits low:Nat):Int)>128):low≤340282366920938463463374607431768211456:=by
  have h:Builtin.Int.intBits low≤128:=by (first | lia | omega)
  have k:low.natAbs<2 ^ 128:=intBits_le_iff.mp h
  have e:(2:Nat) ^ 128=340282366920938463463374607431768211456:=by decide
  (first | lia | omega)
theorem heads_tail {x y:Int} (c:((Builtin.Int.intBits y:Nat):Int)>256) (y0:0≤y) (yx:y≤x) :
    ∃t:Nat,((Builtin.Int.intBits x:Nat):Int)-256=(t:Int)∧(2:Int) ^ (255+t)≤x∧x<(2:Int) ^ (256+t):=by
  have hb:Builtin.Int.intBits y≤Builtin.Int.intBits x:=intBits_le_of_natAbs (by (first | lia | omega)) (Nat.le_refl _)
  obtain ⟨t,ht⟩:∃t,Builtin.Int.intBits x=256+t:=⟨Builtin.Int.intBits x-256,by (first | lia | omega)⟩
  have h1:x.natAbs<2 ^ (256+t):=intBits_le_iff.mp (by (first | lia | omega))
  have h2:¬x.natAbs<2 ^ (255+t):=fun q=>by have:=intBits_le_iff.mpr q;(first | lia | omega)
  refine ⟨t,by (first | lia | omega),?_,?_⟩
  · have:(((2:Nat) ^ (255+t):Nat):Int)=(2:Int) ^ (255+t):=by simp
    rw [← this];(first | lia | omega)
  · have:(((2:Nat) ^ (256+t):Nat):Int)=(2:Int) ^ (256+t):=by simp
    rw [← this];(first | lia | omega)
end My

namespace Jd
open PySem PySem.Spec PyProof.Rows L2 My
structure QE (X:Cx) (e:Expr) (t:TE):Prop where
  h:PE X e t
structure QT (X:Cx) (e:Expr) (t:TT):Prop where
  h:PT X e t
structure QW (X:Cx) (e:Expr) (t:TT):Prop where
  h:PW X e t
structure QA (X:Cx) (es:List Expr) (t:TA):Prop where
  h:PA X es t
structure QS (X:Cx) (st:Stmt) (t:TS):Prop where
  h:PS X st t
structure QSs (X:Cx) (st:List Stmt) (t:TS):Prop where
  h:PSs X st t
structure QG (X:Cx) (e:Expr) (t:TG):Prop where
  h:PG X e t
structure QGs (X:Cx) (es:List Expr) (t:TGs):Prop where
  h:PGs X es t
structure QI (X:Cx) (tg e:Expr) (t:TI):Prop where
  h:PI X tg e t
structure QO (X:Cx) (e:Option Expr) (t:TO):Prop where
  h:PO X e t
section
variable {X:Cx} {e a b c o:Expr} {es:List Expr} {te ta tb tc to:TE} {t:TA} {pos p p2 apos cpos:Pos} {x:Str} {tA tB':TT} {st:Stmt} {sts rest:List Stmt} {s1 s2:TS} {K:PySem.W.Frag}
theorem go {body:List Stmt} {D:Ends} {σ:L2.St} {H:Hp} (h:∃t,QSs X body t∧t D σ H):∃t,PSs X body t∧t D σ H:=let ⟨t,h,k⟩:=h;⟨t,h.h,k⟩
theorem cut {body:List Stmt} {D:Ends} {σ:L2.St} {H:Hp} (n:Nat) (Pv:L2.St→Hp→Prop) (tail:∃t,QSs X (body.drop n) t∧∀σ H,Pv σ H→t D σ H)
    (main:∀u,QSs X (body.drop n) u→(∀σ H,Pv σ H→u D σ H)→∃t,QSs X body t∧t D σ H):∃t,QSs X body t∧t D σ H:=
  let ⟨u,h1,h2⟩:=tail
  main u h1 h2
theorem pv (i:Nat) (hN:autoParam (X.N[i]?=some x) au0_._auto_1) (hv:Vis X.env.scope x:=by first | exact Or.inl rfl | exact Or.inr (Or.inl rfl) | exact Or.inr (Or.inr rfl)) (hd:autoParam ((x==("__debug__":Str))=false) au1_._auto_1)
    (hcd:autoParam ((x==("__classdict__":Str))=false) au1_._auto_1):QE X (.Name x pos) (tVar i):=⟨L2.pv i hN hv hd hcd⟩
theorem pe_int {i j}:QE X (.Constant (.int i) j pos) (tC (.int i)):=⟨L2.pe_int⟩
theorem pe_bl {i j}:QE X (.Constant (.bool i) j pos) (tC (.bl i)):=⟨L2.pe_bl⟩
theorem pe_non {j}:QE X (.Constant .none j pos) (tC .non):=⟨L2.pe_non⟩
theorem pe_str {i j}:QE X (.Constant (.str i) j pos) (tC (.str i)):=⟨L2.pe_str⟩
theorem pe_ty {n:String} (hg:Gl X x) (hm:X.mg x=none) (hv:bootBuiltins x=some (.type n)) (hn:autoParam (x ≠ "__name__") au1_._auto_1) (hd:autoParam ((x==("__debug__":Str))=false) au1_._auto_1):QE X (.Name x pos) (tC (.ty n)):=⟨My.pe_ty hg hm hv hn hd⟩
theorem pe_op {op:Operator} {r:R2} (ho:OpR X (binaryOp op) r) (ha:QE X a ta) (hb:QE X b tb):QE X (.BinOp a op b pos) (tOp r ta tb):=⟨L2.pe_op ho ha.h hb.h⟩
theorem pe_un {op:UnaryOp} {r:V→Hp→VK→Prop} (ho:UnR X (unaryOp op) r) (ha:QE X a ta):QE X (.UnaryOp op a pos) (tUn r ta):=⟨L2.pe_un ho ha.h⟩
theorem pe_not (ha:QE X a ta):QE X (.UnaryOp .Not a pos) (tNotV ta):=⟨L2.pe_not ha.h⟩
theorem pe_cmpR {op:CmpOp} {r:R2} (ho:OpR X (compareOp op) r) (ha:QE X a ta) (hb:QE X b tb) (hm:behindInMarks op b=false):QE X (.Compare a [op] [b] pos) (tOp r ta tb):=⟨L2.pe_cmpR ho ha.h hb.h hm⟩
theorem pt_cmpR {op:CmpOp} {r:R2} (ho:OpR X (compareOp op) r) (ha:QE X a ta) (hb:QE X b tb) (hm:behindInMarks op b=false):QT X (.Compare a [op] [b] pos) (tTest (tOp r ta tb)):=⟨L2.pt_cmpR ho ha.h hb.h hm⟩
theorem pt_not (ha:QT X a tA):QT X (.UnaryOp .Not a pos) (tNot tA):=⟨L2.pt_not ha.h⟩
theorem pt_val (h:QE X e te) (he:autoParam (∀whole,isTrue e X.env whole=(do let v ← whole;standAt e.pos;holding [v] (truthy v))) au2_._auto_1):QT X e (tB te):=⟨L2.pt_val h.h he⟩
theorem PWpt (h:QW X e tA):QT X e tA:=⟨h.h.pt⟩
theorem pw_and1 (ha:QT X a tA):QW X (.BoolOp .And [a] pos) tA:=⟨L2.pw_and1 ha.h⟩
theorem pw_or1 (ha:QT X a tA):QW X (.BoolOp .Or [a] pos) tA:=⟨L2.pw_or1 ha.h⟩
theorem pw_and (ha:QT X a tA) (hb:QW X (.BoolOp .And (b::es) pos) tB'):QW X (.BoolOp .And (a::b::es) pos) (tAnd tA tB'):=⟨L2.pw_and ha.h hb.h⟩
theorem pw_or (ha:QT X a tA) (hb:QW X (.BoolOp .Or (b::es) pos) tB'):QW X (.BoolOp .Or (a::b::es) pos) (tOr tA tB'):=⟨L2.pw_or ha.h hb.h⟩
theorem pe_one {op} (h:QE X a te):QE X (.BoolOp op [a] pos) te:=⟨L2.pe_one h.h⟩
theorem pe_and (ha:QE X a ta) (hb:QE X (.BoolOp .And (b::es) pos) tb):QE X (.BoolOp .And (a::b::es) pos) (tAndV ta tb):=⟨L2.pe_and ha.h hb.h⟩
theorem pe_or (ha:QE X a ta) (hb:QE X (.BoolOp .Or (b::es) pos) tb):QE X (.BoolOp .Or (a::b::es) pos) (tOrV ta tb):=⟨L2.pe_or ha.h hb.h⟩
theorem pe_ifExp (hc:QT X c tA) (ha:QE X a ta) (hb:QE X b tb):QE X (.IfExp c a b pos) (tIf tA ta tb):=⟨L2.pe_ifExp hc.h ha.h hb.h⟩
theorem pa_nil:QA X [] tNil:=⟨L2.pa_nil⟩
theorem pa_cons (ha:QE X e te) (hr:QA X es t) (hs:autoParam (starEach (e::es) X.env=(false,eval e X.env)::starEach es X.env) au0_._auto_1):QA X (e::es) (tCons te t):=⟨L2.pa_cons ha.h hr.h hs⟩
theorem pe_tup {k:Nat} (h:QA X es t):QE X (.Tuple es k pos) (tTup t):=⟨L2.pe_tup h.h⟩
theorem pe_lst (h:QA X es t):QE X (.List es pos) (tLst t):=⟨L2.pe_lst h.h⟩
theorem po_none:QO X none tNoPart:=⟨L2.po_none⟩
theorem po_some (h:QE X e te):QO X (some e) (tPart te):=⟨L2.po_some h.h⟩
theorem pe_slice {r:V→Option Int→Option Int→Hp→VK→Prop} {lo hi:Option Expr} {tl th:TO} (hr:SlR X r) (he:QE X e te) (hl:QO X lo tl) (hu:QO X hi th):QE X (.Subscript e (.Slice lo hi none p2) pos) (tSl r te tl th):=⟨L2.pe_slice hr he.h hl.h hu.h⟩
theorem pe_ix {r:R2} (hr:IxR X r) (ha:QE X a ta) (hb:QE X b tb) (hs:PlainIx b):QE X (.Subscript a b pos) (tOp r ta tb):=⟨L2.pe_ix hr ha.h hb.h hs⟩
theorem pe_callB {id:String} {r:List V→Hp→VK→Prop} (hc:CallR X (.builtin id) r) (hg:Gl X x) (hm:X.mg x=none) (hv:bootBuiltins x=some (.builtin id)) (ha:QA X (e::es) t) (hn:autoParam (x ≠ "__name__") au1_._auto_1) (hdb:autoParam ((x==("__debug__":Str))=false) au1_._auto_1)
    (he:autoParam (starEach (e::es) X.env=(false,eval e X.env)::starEach es X.env) au0_._auto_1) (hpl:autoParam ((backTo pos (starEach es X.env)).any (·.1)=false) au0_._auto_1):QE X (.Call (.Name x p) (e::es) [] pos) (tCB r t):=⟨L2.pe_callB hc hg hm hv ha.h hn hdb he hpl⟩
theorem pe_callTy {T:String} {r:List V→Hp→VK→Prop} (hc:CallR X (.type T) r) (hg:Gl X x) (hm:X.mg x=none) (hv:bootBuiltins x=some (.type T)) (ha:QA X (e::es) t) (hn:autoParam (x ≠ "__name__") au1_._auto_1) (hdb:autoParam ((x==("__debug__":Str))=false) au1_._auto_1)
    (he:autoParam (starEach (e::es) X.env=(false,eval e X.env)::starEach es X.env) au0_._auto_1) (hpl:autoParam ((backTo pos (starEach es X.env)).any (·.1)=false) au0_._auto_1):QE X (.Call (.Name x p) (e::es) [] pos) (tCB r t):=⟨L2.pe_callTy hc hg hm hv ha.h hn hdb he hpl⟩
theorem pe_dn {k:Nat} {ps:List Str} {sp:Sp} (D:Dn X.prog X.w X.K X.mg X.base k x ps sp) (hr:Room k X.A) (hg:Gl X x) (ha:QA X (e::es) t) (hdb:autoParam ((x==("__debug__":Str))=false) au1_._auto_1)
    (he:autoParam (starEach (e::es) X.env=(false,eval e X.env)::starEach es X.env) au0_._auto_1) (hpl:autoParam ((backTo pos (starEach es X.env)).any (·.1)=false) au0_._auto_1):QE X (.Call (.Name x p) (e::es) [] pos) (tCall sp [] E0 t):=⟨My.pe_dn D hr hg ha.h hdb he hpl⟩
theorem appC (K:PySem.W.Frag) (ho:QE X o to) (he:QE X e te) (h:autoParam (X.K=K) au0_._auto_1)
    (hbase:autoParam (attributeBase o "append" X.env (eval o X.env)=eval o X.env) au0_._auto_1)
    (hfew:autoParam (((backTo cpos (starEach (e::[]) X.env)).all (fun x=>!x.1)&&(backToKw cpos (keywordEach [] X.env)).all (fun x=>x.1.isSome)
      && decide ((e::([]:List Expr)).length+([]:List Keyword).length+(if ([]:List Keyword).isEmpty then 0 else 1)<30))=true) au0_._auto_1)
    (hline:autoParam ((apos.endLine==cpos.line)=true) au0_._auto_1) (hs:autoParam (starEach (e::[]) X.env=(false,eval e X.env)::starEach [] X.env) au0_._auto_1) (hplain:autoParam ((backTo cpos (starEach [] X.env)).any (·.1)=false) au0_._auto_1) :
    QE X (.Call (.Attribute o "append" apos) [e] [] cpos) (tBM K "list" rAppend to (tCons te tNil)):=⟨My.appC K ho.h he.h h hbase hfew hline hs hplain⟩
theorem pss_nil:QSs X [] tNext:=⟨L2.pss_nil⟩
theorem pss_cons (h1:QS X st s1) (h2:QSs X rest s2):QSs X (st::rest) (tSeq s1 s2):=⟨L2.pss_cons h1.h h2.h⟩
theorem pss_one (h1:QS X st s1):QSs X [st] s1:=⟨L2.pss_one h1.h⟩
theorem ps_never:QS X st tNever:=⟨L2.ps_never⟩
theorem ps_ret (he:QE X e te):QS X (.Return (some e) pos) (tRet te):=⟨L2.ps_ret he.h⟩
theorem ps_expr (he:QE X e te) (hs:autoParam (swapsWith e none pos.line X.env=pure false) au0_._auto_1):QS X (.Expr e pos) (tDrop te):=⟨L2.ps_expr he.h hs⟩
theorem ps_set {i:Nat} {pos':Pos} (hN:X.N.Nodup) (hi:X.N[i]?=some x) (hx:Loc X.env.scope x) (he:QE X e te) (hs:autoParam (swapsWith e (some (.Name x pos')) pos.line X.env=pure false) au0_._auto_1) (hf:X.fn x=true∨X.env.scope.names.lookup x=some .local:=by first | exact .inl rfl | exact .inr rfl | assumption) :
    QS X (.Assign [.Name x pos'] e pos) (tAsg te (gName i)):=⟨L2.ps_set hN hi hx he.h hs hf⟩
theorem ps_asg {tg:Expr} {g:TG} (he:QE X e te) (hg:QG X tg g) (hs:autoParam (swapsWithSole [tg] e pos.line X.env=pure false) au0_._auto_1) (hw:autoParam (swappedStores [tg] e X.env=pure none) au0_._auto_1)
    (h1:autoParam ((assignEach [tg] X.env).map (·.2)=[assign tg X.env]) au0_._auto_1):QS X (.Assign [tg] e pos) (tAsg te g):=⟨L2.ps_asg he.h hg.h hs hw h1⟩
theorem ps_par {i j:Nat} {y:Str} {ta:TA} {px py pt:Pos} {kt k2 pt2} (hc:X.calm=true) (hN:X.N.Nodup) (hi:X.N[i]?=some x) (hj:X.N[j]?=some y) (hij:i≠j)
    (hx:X.env.scope.names.lookup x=some .local) (hy:X.env.scope.names.lookup y=some .local) (ha:QA X [a,b] ta)
    (hw:swappedStores [.Tuple [.Name x px,.Name y py] kt pt] (.Tuple [a,b] k2 pt2) X.env=pure (some [x,y]))
    (hs:autoParam (swapsWithSole [.Tuple [.Name x px,.Name y py] kt pt] (.Tuple [a,b] k2 pt2) pos.line X.env=pure false) au0_._auto_1) :
    QS X (.Assign [.Tuple [.Name x px,.Name y py] kt pt] (.Tuple [a,b] k2 pt2) pos) (tPar i j ta):=⟨L2.ps_par hc hN hi hj hij hx hy ha.h hw hs⟩
theorem ps_if {ss ss':List Stmt} {tc:TT} (hc:QT X c tc) (ha:QSs X ss s1) (hb:QSs X ss' s2):QS X (.If c ss ss' pos) (tIfS tc s1 s2):=⟨L2.ps_if hc.h ha.h hb.h⟩
theorem ps_while {tc:TT} (hp:PassesOwn (model X.prog X.w) X.A X.env X.xe) (hc:QT X c tc) (hb:QSs X sts s1):QS X (.While c sts [] pos) (tWhile tc s1):=⟨L2.ps_while hp hc.h hb.h⟩
theorem ps_for {tg:Expr} {wi:TI} {g:TG} (hp:PassesOwn (model X.prog X.w) X.A X.env X.xe) (hc:X.calm=true) (hi:QI X tg e wi) (hg:QG X tg g) (hb:QSs X sts s1)
    (hs:autoParam (∀x,foldedSetIterable e X.env x=pure x) au2_._auto_1):QS X (.For tg e sts [] pos) (tFor wi g s1):=⟨L2.ps_for hp hc hi.h hg.h hb.h hs⟩
theorem pg_name {i:Nat} (hN:X.N.Nodup) (hi:X.N[i]?=some x) (hx:Loc X.env.scope x) (hf:X.fn x=true∨X.env.scope.names.lookup x=some .local:=by first | exact .inl rfl | exact .inr rfl | assumption):QG X (.Name x pos) (gName i):=⟨L2.pg_name hN hi hx hf⟩
theorem pgs_nil:QGs X [] gNil:=⟨L2.pgs_nil⟩
theorem pgs_cons {g:TG} {u:TGs} (h1:QG X e g) (h2:QGs X es u) (hs:autoParam ((assignEach (e::es) X.env).map (·.2)=assign e X.env::(assignEach es X.env).map (·.2)) au0_._auto_1):QGs X (e::es) (gCons g u):=⟨L2.pgs_cons h1.h h2.h hs⟩
theorem pgT (K:PySem.W.Frag) {k:Nat} {g:TGs} {n:Nat} (hc:X.calm=true) (h2:QGs X es g) (hn:autoParam ((assignEach es X.env).length=n) au0_._auto_1) (hst:autoParam ((assignEach es X.env).findIdx? (·.1)=none) au0_._auto_1) (h:autoParam (X.K=K) au0_._auto_1):QG X (.Tuple es k pos) (gTup K n g):=⟨My.pgT K hc h2.h hn hst h⟩
theorem pgL (K:PySem.W.Frag) {k:Nat} {g:TGs} {n:Nat} (hc:X.calm=true) (h2:QGs X es g) (hn:autoParam ((assignEach es X.env).length=n) au0_._auto_1) (hst:autoParam ((assignEach es X.env).findIdx? (·.1)=none) au0_._auto_1) (h:autoParam (X.K=K) au0_._auto_1):QG X (.Tuple es k pos) (gLst K n g):=⟨My.pgL K hc h2.h hn hst h⟩
theorem piL (K:PySem.W.Frag) {tg:Expr} (hl:QE X e te) (h:autoParam (X.K=K) au0_._auto_1):QI X tg e (iList K te):=⟨My.piL K hl.h h⟩
theorem piT (K:PySem.W.Frag) {tg:Expr} (hl:QE X e te) (h:autoParam (X.K=K) au0_._auto_1):QI X tg e (iTup K te):=⟨My.piT K hl.h h⟩
theorem pi_range1 {tg:Expr} (hg:Gl X "range") (hm:X.mg "range"=none) (ha:QA X [a] t) (hs:autoParam (starEach [a] X.env=[(false,eval a X.env)]) au0_._auto_1):QI X tg (.Call (.Name "range" p) [a] [] pos) (iRng1 t):=⟨L2.pi_range1 hg hm ha.h hs⟩
end
end Jd

namespace Jd
open PySem PySem.Spec PyProof.Rows L2 My
section
variable {X:Cx} {x:Str} {n:Int} {pos apos cpos:Pos} {o:Expr} {to:TE}
theorem pe_cn (hg:Gl X x) (C:Cn X.mg x n) (hd:autoParam ((x==("__debug__":Str))=false) au1_._auto_1):QE X (.Name x pos) (tC (.int n)):=⟨My.pe_cn hg C hd⟩
theorem pe_bits (ho:QE X o to) (hbase:autoParam (attributeBase o "bit_length" X.env (eval o X.env)=eval o X.env) au0_._auto_1) (hline:autoParam ((apos.endLine==cpos.line)=true) au0_._auto_1) :
    QE X (.Call (.Attribute o "bit_length" apos) [] [] cpos) (tUn (fun x H Q=>tyV X.K "int" x H∧([]:List V)=[]∧rBits x H Q) to):=⟨My.pe_bits ho.h hbase hline⟩
theorem pg_sub {i:Expr} {ti:TE} {ts:TSet} (ho:QE X o to) (hi:QE X i ti) (hs:PSet X ts)
    (ha:autoParam (∀v,assign (.Subscript o i pos) X.env v=(holding [v] (eval o X.env) >>= fun ov=>holding [v,ov] (eval i X.env) >>= fun iv=>standAt pos >>= fun _=>holding [v,ov,iv] (setItem ov iv v) >>= fun _=>release [v,ov,iv] [])) au2_._auto_1) :
    QG X (.Subscript o i pos) (gSub to ti ts):=⟨L2.pg_sub ho.h hi.h hs ha⟩
theorem pt_chain {a b c:Expr} {ta tb tc:TE} {op op':CmpOp} {r r':R2} (ho:OpR X (compareOp op) r) (ho':OpR X (compareOp op') r') (ha:QE X a ta) (hb:QE X b tb) (hc:QE X c tc)
    (hm:autoParam (lastMarks [op,op'] [b,c]=false) au3_._auto_1):QT X (.Compare a [op,op'] [b,c] pos) (tTest (tChain r r' ta tb tc)):=⟨L2.pt_chain ho ho' ha.h hb.h hc.h hm⟩
end
end Jd

namespace My
open PySem PySem.Spec PyProof.Rows L2 Mth
noncomputable def closL (cells:List (Str×Addr)):List (Str×NameKind)→List (Str×Addr)→List (Str×Addr)
  | [],cs=>cs
  | (y,k)::r,cs=>closL cells r (if k=.free then ((cells.lookup y).map fun c=>(y,c)).toList++cs else cs)
noncomputable def freeHas (cells:List (Str×Addr)) (names:List (Str×NameKind)):Bool:=names.all fun p=>!(p.2==NameKind.free)||(cells.lookup p.1).isSome
theorem closure_go {env:Env}:∀(names:List (Str×NameKind)) (cs:List (Str×Addr)),freeHas env.cells names=true →
    (forIn (m:=Sem) names cs fun x r=>match x with | (name,kind)=>if (kind==NameKind.free)=true then do let a ← cellOf env name;pure (ForInStep.yield ((name,a)::r)) else pure (ForInStep.yield r))=pure (closL env.cells names cs)
  | [],cs,_=>rfl
  | (y,k)::r,cs,h=>by
    have h2:freeHas env.cells r=true:=by
      unfold freeHas at h ⊢
      rw [List.all_cons,Bool.and_eq_true] at h
      exact h.2
    rw [List.forIn_cons]
    by_cases hk:k=.free
    · subst hk
      have h1:(env.cells.lookup y).isSome=true:=by
        unfold freeHas at h
        rw [List.all_cons,Bool.and_eq_true] at h
        simpa using h.1
      obtain ⟨c,hc⟩:=Option.isSome_iff_exists.mp h1
      have ih:=closure_go r ((y,c)::cs) h2
      have e:cellOf env y=pure c:=by unfold cellOf;rw [hc]
      show (((if (NameKind.free==NameKind.free)=true then do let a ← cellOf env y;pure (ForInStep.yield ((y,a)::cs)) else pure (ForInStep.yield cs)):Sem _) >>= _)=_
      rw [if_pos (by rfl),e,pure_bind,pure_bind]
      show forIn (m:=Sem) r ((y,c)::cs) _=_
      rw [ih]
      show _=pure (closL env.cells r (if NameKind.free=.free then ((env.cells.lookup y).map fun c=>(y,c)).toList++cs else cs))
      rw [if_pos rfl,hc]
      rfl
    · have ih:=closure_go r cs h2
      have hk':(k==NameKind.free)=false:=by simpa using hk
      show (((if (k==NameKind.free)=true then do let a ← cellOf env y;pure (ForInStep.yield ((y,a)::cs)) else pure (ForInStep.yield cs)):Sem _) >>= _)=_
      rw [hk',if_neg Bool.false_ne_true,pure_bind]
      show forIn (m:=Sem) r cs _=_
      rw [ih]
      show _=pure (closL env.cells r (if k=.free then _ else cs))
      rw [if_neg hk]
theorem closure_of {scope:Scope} {env:Env} (h:freeHas env.cells scope.names=true):closureFor scope env=pure (closL env.cells scope.names []):=by
  have e:=closure_go (env:=env) scope.names [] h
  show (forIn (m:=Sem) scope.names [] _ >>= fun cs=>pure cs)=_
  exact (congrArg (· >>= fun cs=>pure cs) e).trans (pure_bind _ _)
theorem closL_mem {cells:List (Str×Addr)}:∀(names:List (Str×NameKind)) (cs:List (Str×Addr)) (p:Str×Addr),p∈closL cells names cs→p∈cs∨cells.lookup p.1=some p.2
  | [],_,_,h=>.inl h
  | (y,k)::r,cs,p,h=>by
    rcases closL_mem r _ p h with q | q
    · by_cases hk:k=.free
      · rw [if_pos hk] at q
        rcases List.mem_append.mp q with z | z
        · cases e:cells.lookup y with
          | none=>rw [e] at z;simp at z
          | some c=>rw [e] at z;simp at z;subst z;exact .inr e
        · exact .inl z
      · rw [if_neg hk] at q
        exact .inl q
    · exact .inr q
theorem closL_has {cells:List (Str×Addr)}:∀(names:List (Str×NameKind)) (cs:List (Str×Addr)) (y:Str) (c:Addr),((y,NameKind.free)∈names∧cells.lookup y=some c)∨(y,c)∈cs→(y,c)∈closL cells names cs
  | [],_,_,_,h=>h.elim (fun z=>by simp at z) id
  | (z,k)::r,cs,y,c,h=>by
    refine closL_has r _ y c ?_
    rcases h with ⟨m,e⟩ | m
    · rcases List.mem_cons.mp m with q | q
      · cases q
        right
        rw [if_pos rfl,e]
        simp
      · exact .inl ⟨q,e⟩
    · right
      by_cases hk:k=.free
      · rw [if_pos hk];exact List.mem_append_right _ m
      · rw [if_neg hk];exact m
theorem lookup_in {α:Type}:∀{l:List (Str×α)} {x:Str} {v:α},l.lookup x=some v→(x,v)∈l
  | (y,u)::r,x,v,h=>by
    rw [List.lookup_cons] at h
    cases e:x==y with
    | true=>
      rw [e] at h
      cases h
      have:x=y:=by simpa using e
      subst this
      exact List.mem_cons_self
    | false=>
      rw [e] at h
      exact List.mem_cons_of_mem _ (lookup_in h)
theorem lookup_ex {α:Type}:∀{l:List (Str×α)} {x:Str} {v:α},(x,v)∈l→∃u,l.lookup x=some u
  | (y,u)::r,x,v,h=>by
    rw [List.lookup_cons]
    cases e:x==y with
    | true=>exact ⟨_,rfl⟩
    | false=>
      rcases List.mem_cons.mp h with q | q
      · cases q;simp at e
      · exact lookup_ex q
theorem closL_look {cells:List (Str×Addr)} {names:List (Str×NameKind)} {y:Str} {c:Addr} (h:(closL cells names []).lookup y=some c):cells.lookup y=some c:=
  (closL_mem names [] (y,c) (lookup_in h)).elim (fun z=>by simp at z) id
theorem closL_some {cells:List (Str×Addr)} {names:List (Str×NameKind)} {y:Str} {c:Addr} (h:(y,NameKind.free)∈names) (e:cells.lookup y=some c):(closL cells names []).lookup y=some c:=by
  obtain ⟨u,q⟩:=lookup_ex (closL_has names [] y c (.inl ⟨h,e⟩))
  rw [q]
  rw [closL_look q] at e
  exact e
noncomputable def Caps (X:Cx) (scope:Scope):List Str→List Nat→Prop
  | [],[]=>True
  | y::ys,j::js=>(X.N[j]?=some y∧X.env.kindOf y=some .cell∧scope.names.lookup y=some .free∧(relabel scope X.env).names.lookup y=some .cell)∧Caps X scope ys js
  | _,_=>False
theorem free_cell {cells:List (Str×Addr)} {names:List (Str×NameKind)} {y:Str} (h:freeHas cells names=true) (m:(y,NameKind.free)∈names):∃c,cells.lookup y=some c:=by
  unfold freeHas at h
  have q:=List.all_eq_true.mp h _ m
  exact Option.isSome_iff_exists.mp (by simpa using q)
theorem Caps.ok {X:Cx} {scope:Scope} (h:freeHas X.env.cells scope.names=true):∀{ys:List Str} {js:List Nat},Caps X scope ys js→CapOk X scope (closL X.env.cells scope.names []) ys js
  | [],[],_=>trivial
  | y::ys,j::js,⟨⟨a,b,c,d⟩,r⟩=>by
    have m:=lookup_in c
    obtain ⟨e,he⟩:=free_cell h m
    exact ⟨⟨a,b,d,by rw [closL_some m he,he]⟩,Caps.ok h r⟩
theorem relabel_has {scope:Scope} {env:Env} (h:freeHas env.cells scope.names=true) (hcell:∀y∈scope.names,y.2≠.cell) (y:Str)
    (q:(relabel scope env).names.lookup y=some .cell∨(relabel scope env).names.lookup y=some .free):∃c,(closL env.cells scope.names []).lookup y=some c:=by
  have m:(y,NameKind.free)∈scope.names:=by
    rcases q with q | q
    all_goals
      have m:=lookup_in q
      unfold relabel at m
      obtain ⟨⟨n,k⟩,hm,e⟩:=List.mem_map.mp m
      dsimp only at e
      split at e
      · rename_i hc
        rw [Bool.and_eq_true,Bool.and_eq_true] at hc
        have hk:k=.free:=by simpa using hc.1.1
        subst hk
        cases e
        first | exact hm | done
      · cases e
        first | exact hm | exact absurd rfl (hcell _ hm)
  obtain ⟨c,hc⟩:=free_cell h m
  exact ⟨c,closL_some m hc⟩
section
variable {X:Cx} {elt iter tg:Expr} {ifs:List Expr} {pos:Pos} {scope:Scope} {wi:TI} {te:TE} {tt:TT} {g:TG} {O N':List Str} {cap:List Nat} {n:Nat}
theorem pe_compC (hc:X.calm=true) (hi:PI X tg iter wi)
    (hg:∀(C:Addr) (s0:Shared) (H0:Hp) (ex':List Addr) (pn':List (Addr×Obj)),PG (cxComp X (O++N') scope (closL X.env.cells scope.names []) C s0 H0 ex' pn') tg g)
    (htt:∀(C:Addr) (s0:Shared) (H0:Hp) (ex':List Addr) (pn':List (Addr×Obj)),PTs (cxComp X (O++N') scope (closL X.env.cells scope.names []) C s0 H0 ex' pn') ifs tt)
    (helt:∀(C:Addr) (s0:Shared) (H0:Hp) (ex':List Addr) (pn':List (Addr×Obj)),PE (cxComp X (O++N') scope (closL X.env.cells scope.names []) C s0 H0 ex' pn') elt te)
    (hO:O.length=n) (hcap:Caps X scope N' cap) (hf:freeHas X.env.cells scope.names=true) (hcell:∀y∈scope.names,y.2≠.cell) (hkind:scope.kind=.function) (hnames:∀y∈scope.names,y.2=.local→scope.names.lookup y.1=some .local)
    (hs:autoParam (∀z,foldedSetIterable iter X.env z=pure z) au2_._auto_1) :
    PE X (.ListComp elt [⟨tg,iter,ifs,0⟩] scope pos) (tComp wi n cap g tt te):=
  pe_comp hc hi hg htt helt hO (hcap.ok hf) (closure_of hf) hcell hkind hnames (fun _ _=>closL_look) (relabel_has hf hcell) hs
end
section
variable {X:Cx} {elt iter tg:Expr} {ifs:List Expr} {pos:Pos} {scope:Scope} {wi:TI} {te:TE} {tt:TT} {g:TG} {O N':List Str} {cap:List Nat} {n:Nat}
theorem ps_compC {i:Nat} {x:Str} {pos' spos:Pos} (hN:X.N.Nodup) (hix:X.N[i]?=some x) (hx:Loc X.env.scope x) (hc:X.calm=true) (hi:PI X tg iter wi)
    (hg:∀(C:Addr) (s0:Shared) (H0:Hp) (ex':List Addr) (pn':List (Addr×Obj)),PG (cxComp X (O++N') scope (closL X.env.cells scope.names []) C s0 H0 ex' pn') tg g)
    (htt:∀(C:Addr) (s0:Shared) (H0:Hp) (ex':List Addr) (pn':List (Addr×Obj)),PTs (cxComp X (O++N') scope (closL X.env.cells scope.names []) C s0 H0 ex' pn') ifs tt)
    (helt:∀(C:Addr) (s0:Shared) (H0:Hp) (ex':List Addr) (pn':List (Addr×Obj)),PE (cxComp X (O++N') scope (closL X.env.cells scope.names []) C s0 H0 ex' pn') elt te)
    (hO:O.length=n) (hcap:Caps X scope N' cap) (hf:freeHas X.env.cells scope.names=true) (hcell:∀y∈scope.names,y.2≠.cell) (hkind:scope.kind=.function) (hnames:∀y∈scope.names,y.2=.local→scope.names.lookup y.1=some .local)
    (hsw:swapsWith (.ListComp elt [⟨tg,iter,ifs,0⟩] scope pos) (some (.Name x pos')) spos.line X.env=pure true)
    (hs:autoParam (∀z,foldedSetIterable iter X.env z=pure z) au2_._auto_1) (hfn:X.fn x=true∨X.env.scope.names.lookup x=some .local:=by first | exact .inl rfl | exact .inr rfl | assumption) :
    PS X (.Assign [.Name x pos'] (.ListComp elt [⟨tg,iter,ifs,0⟩] scope pos) spos) (tAsg (tComp wi n cap g tt te) (gName i)):=
  ps_comp hN hix hx hc hi hg htt helt hO (hcap.ok hf) (closure_of hf) hcell hkind hnames (fun _ _=>closL_look) (relabel_has hf hcell) hsw hs hfn
end
noncomputable def rm (D:Addr) (H:Hp):Hp:=fun b=>if b=D then none else H b
theorem rm_at {D:Addr} {H:Hp} {b:Addr} (h:b≠D):rm D H b=H b:=if_neg h
theorem rm_same {D:Addr} {H:Hp}:Same (rm D H) H:=fun b o e=>by
  unfold rm at e
  by_cases h:b=D
  · rw [if_pos h] at e;cases e
  · rw [if_neg h] at e;exact e
theorem rm_rm {D:Addr} {H H':Hp} (s:Same H H'):Same (rm D H) (rm D H'):=fun b o e=>by
  unfold rm at e ⊢
  by_cases h:b=D
  · rw [if_pos h] at e;cases e
  · rw [if_neg h] at e ⊢;exact s b o e
theorem rm_upd {D:Addr} {H:Hp} {o:HO}:rm D (upd H D o)=rm D H:=by
  funext b
  unfold rm
  by_cases h:b=D
  · rw [if_pos h,if_pos h]
  · rw [if_neg h,if_neg h,upd_ne h]
theorem rm_tup {D p:Addr} {H:Hp} {xs ys:List V} (hD:H D=some (.lst ys)) (h:H p=some (.tup xs)):rm D H p=some (.tup xs):=by
  rw [rm_at (fun e=>by rw [e,hD] at h;cases h)];exact h
theorem rm_up (D:Addr) (H:Hp) (o:HO):Same (rm D H) (upd H D o):=fun b u e=>by
  unfold rm at e
  by_cases h:b=D
  · rw [if_pos h] at e;cases e
  · rw [if_neg h] at e;rw [upd_ne h];exact e
theorem ix_last {n m:Nat} (h:n=m+1):ixN n (-1)=some m:=by
  subst h
  unfold ixN
  rw [if_neg (by (first | lia | omega)),if_pos (by (first | lia | omega))]
  congr 1
  (first | lia | omega)
structure Tells (J:It) (ok:Hp→Prop) (xs:List V):Prop where
  go:∀i H,ok H→i<xs.length→J.go i H∧∀x H',J.yld i H x H'→H'=H∧xs[i]?=some x
  stop:∀H,ok H→J.stop xs.length H
theorem tells_list {K:PySem.W.Frag} {a:Addr} {xs:List V}:Tells (Itl K a) (fun H=>SqL K H a xs) xs:=
  ⟨fun i H h hi=>⟨⟨xs,xs[i],h,by simp [hi]⟩,fun x H' y=>⟨y.1,y.2 xs h⟩⟩,fun H h=>⟨xs,h,Nat.le_refl _⟩⟩
theorem tells_rng {lo:Int} {n:Nat}:Tells (Itr lo n) (fun _=>True) ((List.range n).map fun (i:Nat)=>V.int (lo+(i:Int))):=
  ⟨fun i H h hi=>⟨show i<n by simpa using hi,fun x H' y=>⟨y.1,by
    have hi':i<n:=by simpa using hi
    rw [List.getElem?_map,List.getElem?_range hi']
    exact congrArg some y.2.symm⟩⟩,fun H h=>by show n≤_;simp⟩
noncomputable def CompB (n:Nat) (cap:List Nat) (g:TG) (tt:TT) (te:TE) (σ:L2.St) (Q:VK) (J:It) (H1:Hp):Prop:=∀D,H1 D=none→∃W:Nat→Nat→List V→Hp→Prop,(∃m,W 0 m [] (upd H1 D (.lst []))) ∧
  ∀i m xs H2,W i m xs H2→H2 D=some (.lst xs)∧((J.stop i H2∧Q (.ref D) H2)∨(J.go i H2∧xs.length<sizeLine∧∀x H3 σ0,σ0.length=n→J.yld i H2 x H3 →
    g x (σ0++capV cap σ) H3 fun σ2 H4=>(∃σ1,σ1.length=n∧σ2=σ1++capV cap σ)∧tt σ2 H4 fun b H5=>if b=true then te σ2 H5 fun y H6=>H6 D=some (.lst xs)∧∃m',m'<m∧W (i+1) m' (xs++[y]) (upd H6 D (.lst (xs++[y])))
      else ∃m',m'<m∧W (i+1) m' xs H5))
section
variable {wi:TI} {n:Nat} {cap:List Nat} {g:TG} {tt:TT} {te:TE} {σ:L2.St} {H:Hp} {Q:VK} {K:PySem.W.Frag}
theorem r_comp (h:wi σ H fun J H1=>CompB n cap g tt te σ Q J H1):tComp wi n cap g tt te σ H Q:=h
theorem r_rng1 {ta:TA} {R:It→Hp→Prop} (h:ta σ H fun vs H1=>∃j:Int,vs=[.int j]∧-(2 ^ 62)≤j∧j<2 ^ 62∧R (Itr 0 j.toNat) H1):iRng1 ta σ H R:=h
theorem r_yes {B:Bool→Hp→Prop} (h:B true H):tYes σ H B:=h
theorem compB_of {J:It} {ok:Hp→Prop} {xs:List V} (T:Tells J ok xs) (hok:∀H2,Same H H2→ok H2) (hl:xs.length≤1000) (P:Nat→List V→Hp→Prop) (h0:P 0 [] H)
    (step:∀(D:Addr) (i:Nat) (x:V) (ys:List V) (H2:Hp) (σ0:L2.St) (N:VK) (N0:Hp→Prop),σ0.length=n→H D=none→H2 D=some (.lst ys)→Same H H2→xs[i]?=some x→ys.length≤i→P i ys (rm D H2) →
      (∀y H6,Same H2 H6→P (i+1) (ys++[y]) (rm D H6)→N y H6)→(∀H5,Same H2 H5→P (i+1) ys (rm D H5)→N0 H5) →
      g x (σ0++capV cap σ) H2 fun σ2 H4=>(∃σ1,σ1.length=n∧σ2=σ1++capV cap σ)∧tt σ2 H4 fun b H5=>if b=true then te σ2 H5 N else N0 H5)
    (done:∀(D:Addr) (ys:List V) (H2:Hp),H D=none→H2 D=some (.lst ys)→Same H H2→ys.length≤xs.length→P xs.length ys (rm D H2)→Q (.ref D) H2):CompB n cap g tt te σ Q J H:=by
  intro D hD
  refine ⟨fun i m ys H2=>H2 D=some (.lst ys)∧Same H H2∧ys.length≤i∧i≤xs.length∧m=xs.length-i∧P i ys (rm D H2),⟨xs.length,upd_same,same_at (Same.refl _) hD,Nat.zero_le _,Nat.zero_le _,rfl,?_⟩,?_⟩
  · rw [rm_upd]
    have e:rm D H=H:=by
      funext b
      by_cases h:b=D
      · rw [h,hD];exact if_pos rfl
      · exact rm_at h
    rw [e];exact h0
  · rintro i m ys H2 ⟨e,s,hy,hi,rfl,p⟩
    refine ⟨e,?_⟩
    by_cases hlt:i<xs.length
    · obtain ⟨go,yld⟩:=T.go i H2 (hok H2 s) hlt
      refine .inr ⟨go,Nat.lt_of_le_of_lt (Nat.le_trans hy hi) (small1000 hl),fun x H3 σ0 h0 y=>?_⟩
      obtain ⟨rfl,hx⟩:=yld x H3 y
      refine step D i x ys _ σ0 _ _ h0 hD e s hx hy p (fun y H6 s6 p6=>?_) fun H5 s5 p5=>?_
      · refine ⟨s6 _ _ e,xs.length-(i+1),by (first | lia | omega),upd_same,same_at (s.trans s6) hD,?_,by (first | lia | omega),rfl,?_⟩
        · rw [List.length_append,List.length_singleton];(first | lia | omega)
        · rw [rm_upd];exact p6
      · exact ⟨xs.length-(i+1),by (first | lia | omega),s5 _ _ e,s.trans s5,by (first | lia | omega),by (first | lia | omega),rfl,p5⟩
    · have ei:i=xs.length:=by (first | lia | omega)
      subst ei
      exact .inl ⟨T.stop H2 (hok H2 s),done D ys H2 hD e s hy p⟩
theorem r_own1 {x:V} {σ0:L2.St} {R:L2.St→Hp→Prop} (h0:σ0.length=1) (h:R (some x::capV cap σ) H):gName 0 x (σ0++capV cap σ) H fun σ2 H4=>(∃σ1,σ1.length=1∧σ2=σ1++capV cap σ)∧R σ2 H4:=by
  match σ0,h0 with
  | [v],_=>exact ⟨⟨[some x],rfl,rfl⟩,h⟩
end
end My
namespace Jd
open PySem PySem.Spec PyProof.Rows L2 My
structure QTs (X:Cx) (ifs:List Expr) (t:TT):Prop where
  h:PTs X ifs t
section
variable {X:Cx} {c elt iter tg:Expr} {ifs:List Expr} {pos:Pos} {scope:Scope} {wi:TI} {te:TE} {tt:TT} {g:TG} {O N':List Str} {cap:List Nat} {n:Nat}
theorem pts_nil:QTs X [] tYes:=⟨My.pts_nil⟩
theorem pts_one (h:QT X c tt):QTs X [c] tt:=⟨My.pts_one h.h⟩
theorem pe_comp (hc:X.calm=true) (hi:QI X tg iter wi)
    (hg:∀(C:Addr) (s0:Shared) (H0:Hp) (ex':List Addr) (pn':List (Addr×Obj)),QG (cxComp X (O++N') scope (closL X.env.cells scope.names []) C s0 H0 ex' pn') tg g)
    (htt:∀(C:Addr) (s0:Shared) (H0:Hp) (ex':List Addr) (pn':List (Addr×Obj)),QTs (cxComp X (O++N') scope (closL X.env.cells scope.names []) C s0 H0 ex' pn') ifs tt)
    (helt:∀(C:Addr) (s0:Shared) (H0:Hp) (ex':List Addr) (pn':List (Addr×Obj)),QE (cxComp X (O++N') scope (closL X.env.cells scope.names []) C s0 H0 ex' pn') elt te)
    (hO:O.length=n) (hcap:Caps X scope N' cap) (hf:freeHas X.env.cells scope.names=true) (hcell:∀y∈scope.names,y.2≠.cell) (hkind:scope.kind=.function) (hnames:∀y∈scope.names,y.2=.local→scope.names.lookup y.1=some .local)
    (hs:autoParam (∀z,foldedSetIterable iter X.env z=pure z) au2_._auto_1) :
    QE X (.ListComp elt [⟨tg,iter,ifs,0⟩] scope pos) (tComp wi n cap g tt te):=
  ⟨My.pe_compC hc hi.h (fun C s0 H0 ex' pn'=>(hg C s0 H0 ex' pn').h) (fun C s0 H0 ex' pn'=>(htt C s0 H0 ex' pn').h) (fun C s0 H0 ex' pn'=>(helt C s0 H0 ex' pn').h) hO hcap hf hcell hkind hnames hs⟩
theorem ps_comp {i:Nat} {x:Str} {pos' spos:Pos} (hN:X.N.Nodup) (hix:X.N[i]?=some x) (hx:Loc X.env.scope x) (hc:X.calm=true) (hi:QI X tg iter wi)
    (hg:∀(C:Addr) (s0:Shared) (H0:Hp) (ex':List Addr) (pn':List (Addr×Obj)),QG (cxComp X (O++N') scope (closL X.env.cells scope.names []) C s0 H0 ex' pn') tg g)
    (htt:∀(C:Addr) (s0:Shared) (H0:Hp) (ex':List Addr) (pn':List (Addr×Obj)),QTs (cxComp X (O++N') scope (closL X.env.cells scope.names []) C s0 H0 ex' pn') ifs tt)
    (helt:∀(C:Addr) (s0:Shared) (H0:Hp) (ex':List Addr) (pn':List (Addr×Obj)),QE (cxComp X (O++N') scope (closL X.env.cells scope.names []) C s0 H0 ex' pn') elt te)
    (hO:O.length=n) (hcap:Caps X scope N' cap) (hf:freeHas X.env.cells scope.names=true) (hcell:∀y∈scope.names,y.2≠.cell) (hkind:scope.kind=.function) (hnames:∀y∈scope.names,y.2=.local→scope.names.lookup y.1=some .local)
    (hsw:swapsWith (.ListComp elt [⟨tg,iter,ifs,0⟩] scope pos) (some (.Name x pos')) spos.line X.env=pure true)
    (hs:autoParam (∀z,foldedSetIterable iter X.env z=pure z) au2_._auto_1) (hfn:X.fn x=true∨X.env.scope.names.lookup x=some .local:=by first | exact .inl rfl | exact .inr rfl | assumption) :
    QS X (.Assign [.Name x pos'] (.ListComp elt [⟨tg,iter,ifs,0⟩] scope pos) spos) (tAsg (tComp wi n cap g tt te) (gName i)):=
  ⟨My.ps_compC hN hix hx hc hi.h (fun C s0 H0 ex' pn'=>(hg C s0 H0 ex' pn').h) (fun C s0 H0 ex' pn'=>(htt C s0 H0 ex' pn').h) (fun C s0 H0 ex' pn'=>(helt C s0 H0 ex' pn').h) hO hcap hf hcell hkind hnames hsw hs hfn⟩
end
end Jd

namespace My
open PySem PySem.Spec PyProof.Rows L2 Mth
theorem vals_ints:∀{us:List Value} {ns:List Int},IntsAre us ns→Vals (ns.map V.int) us
  | _,_,.nil=>.nil
  | _,_,.cons n t r=>.cons ⟨t,rfl⟩ (vals_ints r)
noncomputable def rSorted (K:PySem.W.Frag):List V→Hp→VK→Prop:=fun xs H Q=>∃(l:Addr) (ns:List Int),xs=[.ref l]∧SqL K H l (ns.map V.int)∧ns.length<64 ∧
  ∀(p:Addr) (ns':List Int),H p=none→ns'.Perm ns→ns'.Pairwise (·≤·)→Q (.ref p) (upd H p (.lst (ns'.map V.int)))
theorem sortedC {X:Cx} (K:PySem.W.Frag) (hK:autoParam (X.K=K) au0_._auto_1):CallR X (.builtin "sorted") (rSorted K):=by
  subst hK
  intro pins s σ H xs us Q I r h
  obtain ⟨l,ns,rfl,hq,h64,q⟩:=h
  obtain ⟨u,rfl,rx⟩:=vals1 r
  cases rx
  obtain ⟨its,rv,p,hz⟩:=I.list hq
  have hl:=rv.length
  rw [List.length_map] at hl
  refine sorted_ints p.isList (intsAre_of rv) (by (first | lia | omega)) fun out ns' a1 a2 a3=>?_
  obtain ⟨e,he⟩:=sortedAll_at s.heap its out
  have hn:H (s.heap.objs.size+1)=none:=I.hok.fresh (Nat.le_succ _)
  refine ⟨.ref (s.heap.objs.size+1),_,I.laid (t':=s.toks) (o:=.lst (ns'.map V.int)) (fun b o z=>sortedAll_old z) (Nat.le_succ _) ?_,rfl,q _ ns' hn a2 a3⟩
  refine ⟨?_,out.toList,e,vals_ints a1,?_⟩
  · rw [List.length_map,a2.length_eq]
    exact Nat.le_of_lt (small1000 (by (first | lia | omega)))
  · rw [he]
theorem r_sorted {K:PySem.W.Frag} {H:Hp} {Q:VK} {l:Addr} {ns:List Int} (h:SqL K H l (ns.map V.int)) (h64:ns.length<64) (q:∀(p:Addr) (ns':List Int) (H':Hp),Same H H'→H p=none→H' p=some (.lst (ns'.map V.int))→ns'.Perm ns→ns'.Pairwise (·≤·)→Q (.ref p) H'):rSorted K [.ref l] H Q:=
  ⟨l,ns,rfl,h,h64,fun p ns' hp h1 h2=>q p ns' _ (same_at (Same.refl _) hp) hp upd_same h1 h2⟩
section
variable {σ:L2.St} {H:Hp} {R:It→Hp→Prop}
theorem r_chain {r r':R2} {ta tb tc:TE} {Q:VK} (h:ta σ H fun x H1=>tb σ H1 fun y H2=>r x y H2 fun z H3=>∃k,z=.bl k∧(if k=true then tc σ H3 fun w' H4=>r' y w' H4 Q else Q (.bl false) H3)):tChain r r' ta tb tc σ H Q:=h
theorem r_rng2 {ta:TA} (h:ta σ H fun vs H1=>∃i j:Int,vs=[.int i,.int j]∧(-(2 ^ 62)≤i∧i<2 ^ 62∧-(2 ^ 62)≤j∧j<2 ^ 62)∧R (Itr i (j-i).toNat) H1):iRng2 ta σ H R:=h
end
end My
namespace Jd
open PySem PySem.Spec PyProof.Rows L2 My
theorem pi_range2 {X:Cx} {a b tg:Expr} {t:TA} {p pos:Pos} (hg:Gl X "range") (hm:X.mg "range"=none) (ha:QA X [a,b] t) (hs:autoParam (starEach [a,b] X.env=[(false,eval a X.env),(false,eval b X.env)]) au0_._auto_1) (hs2:autoParam (starEach [b] X.env=[(false,eval b X.env)]) au0_._auto_1) :
    QI X tg (.Call (.Name "range" p) [a,b] [] pos) (iRng2 t):=⟨L2.pi_range2 hg hm ha.h hs hs2⟩
end Jd

namespace My
open PySem PySem.Spec PyProof.Rows L2 Mth
section
variable {X:Cx} {a:Expr} {ta:TA} {p pos:Pos} {elts:List Expr} {kt:Nat} {tpos:Pos}
end
section
variable {σ:L2.St} {H:Hp} {K:PySem.W.Frag}
end
section
variable {σ:L2.St} {H:Hp} {D:Ends}
end
section
variable {X:Cx}
theorem inSeq (K:PySem.W.Frag) (h:autoParam (X.K=K) au0_._auto_1):OpR X (compareOp .In) (rIn K false):=h▸op_in_seq
theorem op_notB:OpR X (compareOp .IsNot) (fun x y H Q=>∃a b,x=.bl a∧y=.bl b∧Q (.bl (a != b)) H):=by
  intro pins s σ H x y v u Q I rx ry h
  obtain ⟨a,b,rfl,rfl,q⟩:=h
  cases rx
  cases ry
  exact isnot_bool ⟨.bl (a != b),H,I,rfl,q⟩
end
end My
namespace Jd
open PySem PySem.Spec PyProof.Rows L2 My
end Jd

namespace My
open PySem PySem.Spec PyProof.Rows L2 Mth
section
variable {σ:L2.St} {H:Hp} {Q:VK} {K:PySem.W.Frag} {f m x:Str} {to tv:TE} {t:TA} {D:Ends} {C a dx:Addr} {fs:List (Str×V)} {fn:List Str} {mg:Str→Option Value} {v y:V} {N:Hp→Prop} {sp:Sp}
end
end My
namespace Jd
open PySem PySem.Spec PyProof.Rows L2 My
section
variable {X:Cx} {k:Nat} {x m f:Str} {ps:List Str} {sp:Sp} {p pos apos:Pos} {o e value:Expr} {es:List Expr} {to tv:TE} {t:TA} {C:Addr}
end
end Jd

namespace My
open PySem PySem.Spec PyProof.Rows L2 Mth
theorem extC {X:Cx} (K:PySem.W.Frag) {o e:Expr} {to te:TE} {apos cpos:Pos} (ho:PE X o to) (he:PE X e te) (h:autoParam (X.K=K) au0_._auto_1)
    (hbase:autoParam (attributeBase o "extend" X.env (eval o X.env)=eval o X.env) au0_._auto_1)
    (hfew:autoParam (((backTo cpos (starEach (e::[]) X.env)).all (fun x=>!x.1)&&(backToKw cpos (keywordEach [] X.env)).all (fun x=>x.1.isSome)
      && decide ((e::([]:List Expr)).length+([]:List Keyword).length+(if ([]:List Keyword).isEmpty then 0 else 1)<30))=true) au0_._auto_1)
    (hline:autoParam ((apos.endLine==cpos.line)=true) au0_._auto_1) (hs:autoParam (starEach (e::[]) X.env=(false,eval e X.env)::starEach [] X.env) au0_._auto_1) (hplain:autoParam ((backTo cpos (starEach [] X.env)).any (·.1)=false) au0_._auto_1) :
    PE X (.Call (.Attribute o "extend" apos) [e] [] cpos) (tBM K "list" rExtend to (tCons te tNil)):=
  h▸pe_bm PySem.F.plainAttrs_list PySem.F.slot_list_extend PySem.F.type_list_extend mt_extend ho (pa_cons he pa_nil hs) hbase hfew hline hs hplain
theorem r_ext {p b:Addr} {xs zs:List V} {H:Hp} {Q:VK} (h:H p=some (.lst xs)) (hb:H b=some (.lst zs)) (hl:xs.length+zs.length≤sizeLine) (q:Q .non (upd H p (.lst (xs++zs)))):rExtend (.ref p) [.ref b] H Q:=⟨p,b,xs,zs,rfl,rfl,h,hb,hl,q⟩
end My
namespace Jd
open PySem PySem.Spec PyProof.Rows L2 Mth
theorem extC {X:Cx} (K:PySem.W.Frag) {o e:Expr} {to te:TE} {apos cpos:Pos} (ho:QE X o to) (he:QE X e te) (h:autoParam (X.K=K) au0_._auto_1)
    (hbase:autoParam (attributeBase o "extend" X.env (eval o X.env)=eval o X.env) au0_._auto_1)
    (hfew:autoParam (((backTo cpos (starEach (e::[]) X.env)).all (fun x=>!x.1)&&(backToKw cpos (keywordEach [] X.env)).all (fun x=>x.1.isSome)
      && decide ((e::([]:List Expr)).length+([]:List Keyword).length+(if ([]:List Keyword).isEmpty then 0 else 1)<30))=true) au0_._auto_1)
    (hline:autoParam ((apos.endLine==cpos.line)=true) au0_._auto_1) (hs:autoParam (starEach (e::[]) X.env=(false,eval e X.env)::starEach [] X.env) au0_._auto_1) (hplain:autoParam ((backTo cpos (starEach [] X.env)).any (·.1)=false) au0_._auto_1) :
    QE X (.Call (.Attribute o "extend" apos) [e] [] cpos) (tBM K "list" rExtend to (tCons te tNil)):=⟨My.extC K ho.h he.h h hbase hfew hline hs hplain⟩
end Jd
namespace L2
open PySem PySem.Spec PyProof.Rows
theorem lenS {α:Type} {n:Nat}:∀{us:List α},us.length=n+1→∃(a:α) (as:List α),us=a::as∧as.length=n
  | [],h=>nomatch h
  | a::as,h=>⟨a,as,rfl,Nat.succ.inj h⟩
theorem len0 {α:Type}:∀{us:List α},us.length=0→us=[]
  | [],_=>rfl
  | _::_,h=>nomatch h
theorem Fun.binds1 {K:PySem.W.Frag} {x qual:Str} {st:Stmt} {f:Addr} {fd:FuncData} {pa:Str} (F:Fun K x qual st f fd) (h:∀(kV doc pm:Value) (an:Option Addr) (cdv ct ua:Value),bindArgs (PySem.W.fnOf x qual (defArgs st) (defBody st) (defScope st) .none kV doc pm an cdv ct) ⟨[ua],[]⟩=pure [(pa,ua)]):Binds K fd [pa] []:=
  F.binds fun kV doc pm an cdv ct us hl=>by
    obtain ⟨ua,us0,rfl,hl0⟩:=lenS (n:=0) hl
    obtain rfl:=len0 hl0
    exact h kV doc pm an cdv ct ua
theorem Fun.binds2 {K:PySem.W.Frag} {x qual:Str} {st:Stmt} {f:Addr} {fd:FuncData} {pa pb:Str} (F:Fun K x qual st f fd) (h:∀(kV doc pm:Value) (an:Option Addr) (cdv ct ua ub:Value),bindArgs (PySem.W.fnOf x qual (defArgs st) (defBody st) (defScope st) .none kV doc pm an cdv ct) ⟨[ua,ub],[]⟩=pure [(pa,ua),(pb,ub)]):Binds K fd [pa,pb] []:=
  F.binds fun kV doc pm an cdv ct us hl=>by
    obtain ⟨ua,us1,rfl,hl1⟩:=lenS (n:=1) hl
    obtain ⟨ub,us0,rfl,hl0⟩:=lenS (n:=0) hl1
    obtain rfl:=len0 hl0
    exact h kV doc pm an cdv ct ua ub
theorem Fun.binds3 {K:PySem.W.Frag} {x qual:Str} {st:Stmt} {f:Addr} {fd:FuncData} {pa pb pc:Str} (F:Fun K x qual st f fd) (h:∀(kV doc pm:Value) (an:Option Addr) (cdv ct ua ub uc:Value),bindArgs (PySem.W.fnOf x qual (defArgs st) (defBody st) (defScope st) .none kV doc pm an cdv ct) ⟨[ua,ub,uc],[]⟩=pure [(pa,ua),(pb,ub),(pc,uc)]):Binds K fd [pa,pb,pc] []:=
  F.binds fun kV doc pm an cdv ct us hl=>by
    obtain ⟨ua,us2,rfl,hl2⟩:=lenS (n:=2) hl
    obtain ⟨ub,us1,rfl,hl1⟩:=lenS (n:=1) hl2
    obtain ⟨uc,us0,rfl,hl0⟩:=lenS (n:=0) hl1
    obtain rfl:=len0 hl0
    exact h kV doc pm an cdv ct ua ub uc
theorem Fun.binds4 {K:PySem.W.Frag} {x qual:Str} {st:Stmt} {f:Addr} {fd:FuncData} {pa pb pc pd:Str} (F:Fun K x qual st f fd) (h:∀(kV doc pm:Value) (an:Option Addr) (cdv ct ua ub uc ud:Value),bindArgs (PySem.W.fnOf x qual (defArgs st) (defBody st) (defScope st) .none kV doc pm an cdv ct) ⟨[ua,ub,uc,ud],[]⟩=pure [(pa,ua),(pb,ub),(pc,uc),(pd,ud)]):Binds K fd [pa,pb,pc,pd] []:=
  F.binds fun kV doc pm an cdv ct us hl=>by
    obtain ⟨ua,us3,rfl,hl3⟩:=lenS (n:=3) hl
    obtain ⟨ub,us2,rfl,hl2⟩:=lenS (n:=2) hl3
    obtain ⟨uc,us1,rfl,hl1⟩:=lenS (n:=1) hl2
    obtain ⟨ud,us0,rfl,hl0⟩:=lenS (n:=0) hl1
    obtain rfl:=len0 hl0
    exact h kV doc pm an cdv ct ua ub uc ud
theorem Fun.binds5 {K:PySem.W.Frag} {x qual:Str} {st:Stmt} {f:Addr} {fd:FuncData} {pa pb pc pd pe:Str} (F:Fun K x qual st f fd) (h:∀(kV doc pm:Value) (an:Option Addr) (cdv ct ua ub uc ud ue:Value),bindArgs (PySem.W.fnOf x qual (defArgs st) (defBody st) (defScope st) .none kV doc pm an cdv ct) ⟨[ua,ub,uc,ud,ue],[]⟩=pure [(pa,ua),(pb,ub),(pc,uc),(pd,ud),(pe,ue)]):Binds K fd [pa,pb,pc,pd,pe] []:=
  F.binds fun kV doc pm an cdv ct us hl=>by
    obtain ⟨ua,us4,rfl,hl4⟩:=lenS (n:=4) hl
    obtain ⟨ub,us3,rfl,hl3⟩:=lenS (n:=3) hl4
    obtain ⟨uc,us2,rfl,hl2⟩:=lenS (n:=2) hl3
    obtain ⟨ud,us1,rfl,hl1⟩:=lenS (n:=1) hl2
    obtain ⟨ue,us0,rfl,hl0⟩:=lenS (n:=0) hl1
    obtain rfl:=len0 hl0
    exact h kV doc pm an cdv ct ua ub uc ud ue
theorem Fun.binds6 {K:PySem.W.Frag} {x qual:Str} {st:Stmt} {f:Addr} {fd:FuncData} {pa pb pc pd pe pf:Str} (F:Fun K x qual st f fd) (h:∀(kV doc pm:Value) (an:Option Addr) (cdv ct ua ub uc ud ue uf:Value),bindArgs (PySem.W.fnOf x qual (defArgs st) (defBody st) (defScope st) .none kV doc pm an cdv ct) ⟨[ua,ub,uc,ud,ue,uf],[]⟩=pure [(pa,ua),(pb,ub),(pc,uc),(pd,ud),(pe,ue),(pf,uf)]):Binds K fd [pa,pb,pc,pd,pe,pf] []:=
  F.binds fun kV doc pm an cdv ct us hl=>by
    obtain ⟨ua,us5,rfl,hl5⟩:=lenS (n:=5) hl
    obtain ⟨ub,us4,rfl,hl4⟩:=lenS (n:=4) hl5
    obtain ⟨uc,us3,rfl,hl3⟩:=lenS (n:=3) hl4
    obtain ⟨ud,us2,rfl,hl2⟩:=lenS (n:=2) hl3
    obtain ⟨ue,us1,rfl,hl1⟩:=lenS (n:=1) hl2
    obtain ⟨uf,us0,rfl,hl0⟩:=lenS (n:=0) hl1
    obtain rfl:=len0 hl0
    exact h kV doc pm an cdv ct ua ub uc ud ue uf
end L2
namespace My
open PySem PySem.Spec PyProof.Rows L2
theorem seq_cut {t u:TS} {D:Ends} {σ:L2.St} {H:Hp} (Pv:L2.St→Hp→Prop) (rest:∀σ' H',Pv σ' H'→u D σ' H') (h:∀N:L2.St→Hp→Prop,(∀σ' H',Pv σ' H'→N σ' H')→t { D with nx:=N } σ H):tSeq t u D σ H:=h (u D) rest
theorem seq_cut4 {a b c d u:TS} {D:Ends} {σ:L2.St} {H:Hp} (Pv:L2.St→Hp→Prop) (rest:∀σ' H',Pv σ' H'→u D σ' H') (h:∀N:L2.St→Hp→Prop,(∀σ' H',Pv σ' H'→N σ' H')→tSeq a (tSeq b (tSeq c d)) { D with nx:=N } σ H):tSeq a (tSeq b (tSeq c (tSeq d u))) D σ H:=h (u D) rest
theorem nx_of {N:L2.St→Hp→Prop} {rt:VK} {bk ct:L2.St→Hp→Prop} {σ:L2.St} {H:Hp} (h:N σ H):(Ends.mk N rt bk ct).nx σ H:=h
theorem body_cut {g:TG} {tb:TS} {x:V} {σ:L2.St} {H:Hp} {Pv bk:L2.St→Hp→Prop} {rt:VK} (h:∀(M B:L2.St→Hp→Prop) (R:VK),(∀σ H,Pv σ H→M σ H)→(∀σ H,bk σ H→B σ H)→(∀v H,rt v H→R v H)→g x σ H fun σ2 H2=>tb (Ends.mk M R B M) σ2 H2):g x σ H fun σ2 H2=>tb (Ends.mk Pv rt bk Pv) σ2 H2:=h Pv bk rt (fun _ _ z=>z) (fun _ _ z=>z) (fun _ _ z=>z)
end My

namespace My
open PySem PySem.Spec PyProof.Rows L2 Mth
end My
namespace Jd
open PySem PySem.Spec PyProof.Rows L2 Mth
end Jd

namespace My
open PySem PySem.Spec PyProof.Rows L2 Mth
section
variable {X:Cx} {a b:Expr} {ta:TA} {p pos:Pos} {elts:List Expr} {kt:Nat} {tpos:Pos}
end
section
variable {σ:L2.St} {H:Hp} {K:PySem.W.Frag}
end
section
variable {n:Nat} {cap:List Nat} {g:TG} {tt:TT} {te:TE} {σ:L2.St} {H:Hp} {Q:VK} {K:PySem.W.Frag}
end
end My
namespace Jd
open PySem PySem.Spec PyProof.Rows L2 My
end Jd

namespace My
open PySem PySem.Spec PyProof.Rows L2 Mth
noncomputable def Fx (K:PySem.W.Frag) (x:Str) (st:Stmt):Prop:=∃(f:Addr) (fd:FuncData),PySem.W.nsIn K mainGlobals x=some (some (.ref f))∧Fun K x x st f fd
noncomputable def Fm (K:PySem.W.Frag) (C:Addr) (m q:Str) (st:Stmt):Prop:=∃(f:Addr) (fd:FuncData),PySem.W.findIn K (.ref C) m=some (some (.ref f))∧PySem.W.isFn K (.ref f)=true∧Fun K m q st f fd
section
variable {K:PySem.W.Frag} {x m q:Str} {st:Stmt} {f C:Addr} {oc:Value} {od an:Option Addr} {osl:Array (Option Value)} {kV doc pm cdv ct:Value}
theorem fx_mk (a:PySem.W.nsIn K mainGlobals x=some (some (.ref f))) (l:K.lookup f=some ⟨oc,od,.func (PySem.W.fnOf x x (defArgs st) (defBody st) (defScope st) .none kV doc pm an cdv ct),osl⟩) (c:PySem.W.codeIn K cdv x=true) (k:PySem.W.keepIn K (.ref f)=true):Fx K x st:=⟨f,_,a,fun_mk l c k⟩
theorem fm_mk (a:PySem.W.findIn K (.ref C) m=some (some (.ref f))) (i:PySem.W.isFn K (.ref f)=true) (l:K.lookup f=some ⟨oc,od,.func (PySem.W.fnOf m q (defArgs st) (defBody st) (defScope st) .none kV doc pm an cdv ct),osl⟩) (c:PySem.W.codeIn K cdv q=true) (k:PySem.W.keepIn K (.ref f)=true):Fm K C m q st:=⟨f,_,a,i,fun_mk l c k⟩
end
section
variable (P:Program) (w:World) (base:Heap) {K:PySem.W.Frag} {mg:Str→Option Value} {h:Heap} {k:Nat} {x m q:Str} {ps:List Str} {sp:Sp} {st:Stmt} {f C:Addr} {fd:FuncData}
theorem dnm (X:K.In h) (G:h.Ns mainGlobals mg) (a:PySem.W.nsIn K mainGlobals x=some (some (.ref f))) (F:Fun K x x st f fd) (ok:FnOk P w K mg base CX0 k f fd ps sp) (b:Binds K fd ps []):Dn P w K mg base k x ps sp:=dn_mk F ok (PySem.W.mg_of X G a) b
end
end My

namespace My
open PySem PySem.Spec PyProof.Rows L2 Mth
noncomputable def rInD:R2:=fun x y H Q=>∃d xs,Den H x d∧Den H y (.list xs)∧d.canLay0=true∧d.depth≤60∧PyData.canLayAll0 xs=true∧Q (.bl (xs.any fun e=>PyData.eqv e d)) H
noncomputable def rNinD:R2:=fun x y H Q=>∃d xs,Den H x d∧Den H y (.list xs)∧d.canLay0=true∧d.depth≤60∧PyData.canLayAll0 xs=true∧Q (.bl (!xs.any fun e=>PyData.eqv e d)) H
theorem op_inD {X:Cx} (hu:X.A.units+64<cLine):OpR X (compareOp .In) rInD:=by
  intro pins s σ H x y v u Q I rx ry h
  obtain ⟨d,xs,hd,he,s1,s3,s2,q⟩:=h
  obtain ⟨as,r1⟩:=hd.reads I.hok rx
  obtain ⟨bs,r2⟩:=he.reads I.hok ry
  refine SeqAt.in_list_reads r2 r1 s2 s1 ?_ ⟨.bl _,H,I,rfl,q⟩
  have:=Nat.min_le_right (PyData.depthAll xs) d.depth
  exact Nat.lt_of_le_of_lt (show _≤X.A.units+64 by omega) hu
theorem op_ninD {X:Cx} (hu:X.A.units+64<cLine):OpR X (compareOp .NotIn) rNinD:=by
  intro pins s σ H x y v u Q I rx ry h
  obtain ⟨d,xs,hd,he,s1,s3,s2,q⟩:=h
  obtain ⟨as,r1⟩:=hd.reads I.hok rx
  obtain ⟨bs,r2⟩:=he.reads I.hok ry
  refine SeqAt.notIn_list_reads r2 r1 s2 s1 ?_ ⟨.bl _,H,I,rfl,q⟩
  have:=Nat.min_le_right (PyData.depthAll xs) d.depth
  exact Nat.lt_of_le_of_lt (show _≤X.A.units+64 by omega) hu
noncomputable def rIdxD:V→List V→Hp→VK→Prop:=fun x vs H Q=>∃(l:Addr) (ys:List V) (v:V) (d:PyData) (ds:List PyData) (j:Nat),x=.ref l∧vs=[v]∧H l=some (.lst ys)∧Dens H ys ds∧Den H v d∧PyData.canLayAll0 ds=true∧d.canLay0=true∧d.depth≤60∧ys.length≤1000 ∧
  (∃e,ds[j]?=some e∧PyData.eqv e d=true)∧(∀i e,i<j→ds[i]?=some e→PyData.eqv e d=false)∧Q (.int (j:Int)) H
theorem mt_idxD {X:Cx} (hu:X.A.units+64<cLine):MtM X "list.index" rIdxD:=by
  intro pins s σ H x vs v us Q I rx rv h
  obtain ⟨l,ys,y,d,ds,j,rfl,rfl,hH,hds,hd,c1,c2,c3,h1000,⟨e0,g0,v0⟩,hno,q⟩:=h
  cases rx
  obtain ⟨u,rfl,ru⟩:=rv.one
  obtain ⟨z,its,n,r,hl,e⟩:=I.lstM hH
  obtain ⟨as,r1⟩:=hds.reads I.hok r
  obtain ⟨bs,r2⟩:=hd.reads I.hok ru
  have r1':ReadsAll s.heap its.toArray.toList ds as:=by simpa using r1
  have hm:=SeqAt.readsAll_map ds _ _ c1 r1
  have hlen:its.length=ds.length:=by have:=congrArg List.length hm;simpa using this
  have hj:j<ds.length:=(List.getElem?_eq_some_iff.mp g0).1
  have at_:∀(i:Nat) (hi:i<its.length),ds[i]?=some (SeqAt.readOf s.heap its[i]):=fun i hi=>by
    rw [← hm,List.getElem?_map,List.getElem?_eq_getElem hi];rfl
  have hu':X.A.units+1+min (PyData.depthAll ds) d.depth<cLine:=by
    have:=Nat.min_le_right (PyData.depthAll ds) d.depth
    exact Nat.lt_of_le_of_lt (show _≤X.A.units+64 by omega) hu
  refine call_meets F.slot_list_index ⟨_,e,rfl⟩ F.entry_list_index (F.args_list_index_2 _ _)
    (SeqAt.list_indexAt l its.toArray n none #[] u (fun y=>PyData.eqv (SeqAt.readOf s.heap y) d) j (by rw [List.size_toArray];omega) (by omega) ?_ (fun m hm' hlt=>?_)) ⟨e,SeqAt.items_eqAt r1' r2 c1 c2 hu',?_⟩
  · have:=at_ j (by omega)
    rw [g0] at this
    show PyData.eqv (SeqAt.readOf s.heap its[j]) d=true
    rw [← Option.some.inj this]
    exact v0
  · rw [List.size_toArray] at hm'
    exact hno m _ hlt (at_ m hm')
  · exact ⟨.int (j:Int),H,I.tok _,⟨_,rfl⟩,q⟩
theorem idxD {X:Cx} (K:PySem.W.Frag) (hu:X.A.units+64<cLine) {o e:Expr} {to te:TE} {apos cpos:Pos} (ho:PE X o to) (he:PE X e te) (h:autoParam (X.K=K) au0_._auto_1)
    (hbase:autoParam (attributeBase o "index" X.env (eval o X.env)=eval o X.env) au0_._auto_1)
    (hfew:autoParam (((backTo cpos (starEach (e::[]) X.env)).all (fun x=>!x.1)&&(backToKw cpos (keywordEach [] X.env)).all (fun x=>x.1.isSome)
      && decide ((e::([]:List Expr)).length+([]:List Keyword).length+(if ([]:List Keyword).isEmpty then 0 else 1)<30))=true) au0_._auto_1)
    (hline:autoParam ((apos.endLine==cpos.line)=true) au0_._auto_1) (hs:autoParam (starEach (e::[]) X.env=(false,eval e X.env)::starEach [] X.env) au0_._auto_1) (hplain:autoParam ((backTo cpos (starEach [] X.env)).any (·.1)=false) au0_._auto_1) :
    PE X (.Call (.Attribute o "index" apos) [e] [] cpos) (tBM K "list" rIdxD to (tCons te tNil)):=
  h▸pe_bm PySem.F.plainAttrs_list PySem.F.slot_list_index PySem.F.type_list_index (mt_idxD hu) ho (pa_cons he pa_nil hs) hbase hfew hline hs hplain
noncomputable def bls (bs:List Bool):List V:=bs.map V.bl
noncomputable def rAll (K:PySem.W.Frag):List V→Hp→VK→Prop:=fun xs H Q=>∃(l:Addr) (bs:List Bool),xs=[.ref l]∧SqL K H l (bls bs)∧Q (.bl (bs.all id)) H
theorem bools_of:∀{bs:List Bool} {its:List Value},Vals (bls bs) its→PyProof.Rows.LSm.BoolsAre its bs
  | [],_,.nil=>.nil
  | b::_,_,.cons r rr=>by
    cases (show _=Value.bool b from r)
    exact .cons b (bools_of rr)
theorem allC {X:Cx} (K:PySem.W.Frag) (hc:X.calm=true) (hK:autoParam (X.K=K) au0_._auto_1):CallR X (.builtin "all") (rAll K):=by
  subst hK
  intro pins s σ H xs us Q I r h
  obtain ⟨l,bs,rfl,hq,q⟩:=h
  obtain ⟨u,rfl,rx⟩:=vals1 r
  cases rx
  obtain ⟨its,rv,p,hz⟩:=I.list hq
  have hb:=bools_of rv
  have hl:=p.isList
  have hlt:l<s.heap.objs.size:=by obtain ⟨_,e,_⟩:=hl;exact Heap.lt_size e
  refine call_all_walk (wpAny_pyIter_list hl ⟨s.heap.objs.size,[s.heap.objs.size,l],[s.heap.objs.size],its.toArray.size,_,_,fun i=>(bs[i]?).getD true,rfl,
    Walks.list (A:=X.A.in1) (I.ok.hd hc) _ l (Nat.ne_of_lt hlt) its.toArray,⟨⟨_,Heap.get?_push_size _ rfl,rfl,rfl⟩,hl.push _⟩,fun i v s' Q' E' hP hQ=>?_,fun h' tk hk=>?_⟩)
  · obtain ⟨b,e,rfl⟩:=hb.get i v (by simpa using hP)
    simp only [e,Option.getD_some] at hQ
    exact wpAny_truthy_bool hQ
  · have e:((List.range its.toArray.size).all fun i=>(bs[i]?).getD true)=bs.all id:=by
      rw [List.size_toArray,hb.length];exact PyProof.Rows.LSm.range_all bs
    rw [e]
    exact ⟨.bl _,H,I.kept (t':=tk) (PyProof.Rows.LSm.kept_iter hk),rfl,q⟩
theorem slT (K:PySem.W.Frag) {X:Cx} (h:autoParam (X.K=K) au0_._auto_1):SlR X (rSlT K):=h▸sl_tup
end My
namespace Jd
open PySem PySem.Spec PyProof.Rows L2 Mth
theorem idxD {X:Cx} (K:PySem.W.Frag) (hu:X.A.units+64<cLine) {o e:Expr} {to te:TE} {apos cpos:Pos} (ho:QE X o to) (he:QE X e te) (h:autoParam (X.K=K) au0_._auto_1)
    (hbase:autoParam (attributeBase o "index" X.env (eval o X.env)=eval o X.env) au0_._auto_1)
    (hfew:autoParam (((backTo cpos (starEach (e::[]) X.env)).all (fun x=>!x.1)&&(backToKw cpos (keywordEach [] X.env)).all (fun x=>x.1.isSome)
      && decide ((e::([]:List Expr)).length+([]:List Keyword).length+(if ([]:List Keyword).isEmpty then 0 else 1)<30))=true) au0_._auto_1)
    (hline:autoParam ((apos.endLine==cpos.line)=true) au0_._auto_1) (hs:autoParam (starEach (e::[]) X.env=(false,eval e X.env)::starEach [] X.env) au0_._auto_1) (hplain:autoParam ((backTo cpos (starEach [] X.env)).any (·.1)=false) au0_._auto_1) :
    QE X (.Call (.Attribute o "index" apos) [e] [] cpos) (tBM K "list" My.rIdxD to (tCons te tNil)):=⟨My.idxD K hu ho.h he.h h hbase hfew hline hs hplain⟩
end Jd
noncomputable abbrev J.a:=@Jd.pv
noncomputable abbrev J.b:=@Jd.pa_cons
noncomputable abbrev J.c:=@Jd.pe_int
noncomputable abbrev J.d:=@Jd.pa_nil
noncomputable abbrev J.e:=@Jd.pe_ix
noncomputable abbrev J.f:=@Jd.pss_cons
noncomputable abbrev J.g:=@Jd.pe_op
noncomputable abbrev J.h:=@Jd.pss_one
noncomputable abbrev J.i:=@Jd.ps_set
noncomputable abbrev J.j:=@Jd.pt_cmpR
noncomputable abbrev J.k:=@Jd.pe_dn
noncomputable abbrev J.l:=@Jd.ps_ret
noncomputable abbrev J.m:=@Jd.ps_if
noncomputable abbrev J.n:=@Jd.pss_nil
noncomputable abbrev J.o:=@Jd.pe_tup
noncomputable abbrev J.p:=@Jd.pe_callB
noncomputable abbrev J.q:=@Jd.go
noncomputable abbrev J.r:=@Jd.po_some
noncomputable abbrev J.s:=@Jd.pe_lst
noncomputable abbrev J.t:=@Jd.pe_slice
noncomputable abbrev J.u:=@Jd.pg_name
noncomputable abbrev J.v:=@Jd.po_none
noncomputable abbrev J.w:=@Jd.pe_non
noncomputable abbrev J.x:=@Jd.PWpt
noncomputable abbrev J.y:=@Jd.ps_expr
noncomputable abbrev J.z:=@Jd.pe_str
noncomputable abbrev J.aa:=@Jd.piL
noncomputable abbrev J.ab:=@Jd.pe_cmpR
noncomputable abbrev J.ac:=@Jd.appC
noncomputable abbrev J.ad:=@Jd.pw_and
noncomputable abbrev J.ae:=@Jd.ps_for
noncomputable abbrev J.af:=@Jd.pw_or
noncomputable abbrev J.ag:=@Jd.pe_un
noncomputable abbrev J.ah:=@Jd.pw_or1
noncomputable abbrev J.ai:=@Jd.pw_and1
noncomputable abbrev J.aj:=@Jd.pgs_cons
noncomputable abbrev J.ak:=@Jd.pt_val
noncomputable abbrev J.al:=@Jd.pe_one
noncomputable abbrev J.am:=@Jd.pe_and
noncomputable abbrev J.an:=@Jd.pts_nil
noncomputable abbrev J.ao:=@Jd.pe_comp
namespace My
open PySem PySem.Spec PyProof.Rows L2 Mth
section
variable {σ:L2.St} {H:Hp} {Q:VK} {K:PySem.W.Frag}
theorem r_sl {r:V→Option Int→Option Int→Hp→VK→Prop} {te:L2.TE} {tl th:L2.TO} (h:te σ H fun x H1=>tl σ H1 fun l H2=>th σ H2 fun u H3=>r x l u H3 Q):tSl r te tl th σ H Q:=h
theorem r_part {t:L2.TE} {R:Option Int→Hp→Prop} (h:t σ H fun x H1=>∃i,x=.int i∧R (some i) H1):tPart t σ H R:=h
theorem r_nopart {R:Option Int→Hp→Prop} (h:R none H):tNoPart σ H R:=h
theorem r_pi {i:Int} {R:Int→Prop} (h:R i):∃j,V.int i=V.int j∧R j:=⟨i,rfl,h⟩
theorem cut_ab {xs:List V} {n m:Nat} (h1:n≤m) (h2:m≤xs.length):cutV xs (some (n:Int)) (some (m:Int))=(xs.drop n).take (m-n):=by
  unfold cutV
  rw [HT.sIx_nat,HT.sIx_nat,Nat.min_eq_left h2,Nat.min_eq_left (Nat.le_trans h1 h2)]
theorem cutk (xs:List V) (n:Nat):cutV xs (some (n:Int)) none=xs.drop n:=by
  unfold cutV
  rw [HT.sIx_nat,show HT.sIx xs.length xs.length none=xs.length from rfl]
  rcases Nat.le_total n xs.length with z | z
  · rw [Nat.min_eq_left z]
    exact List.take_of_length_le (by rw [List.length_drop];exact Nat.le_refl _)
  · rw [Nat.min_eq_right z,List.drop_of_length_le z,List.drop_of_length_le (Nat.le_refl _)]
    simp
theorem r_slL {a:Addr} {xs:List V} {lo hi:Option Int} (h:H a=some (.lst xs)) (k:∀(p:Addr) (H':Hp),Same H H'→H p=none→H' p=some (.lst (cutV xs lo hi))→Q (.ref p) H'):rSlL K (.ref a) lo hi H Q:=
  ⟨a,xs,rfl,SqL.of h,fun p hp=>k p _ (same_new hp _) hp upd_same⟩
theorem r_slT {a:Addr} {xs:List V} {lo hi:Option Int} (h:H a=some (.tup xs)) (hw:¬(HT.sIx xs.length 0 lo=0∧HT.sIx xs.length xs.length hi=xs.length)) (k:∀(p:Addr) (H':Hp),Same H H'→H p=none→H' p=some (.tup (cutV xs lo hi))→Q (.ref p) H'):rSlT K (.ref a) lo hi H Q:=
  ⟨a,xs,rfl,SqT.of h,hw,fun p hp=>k p _ (same_new hp _) hp upd_same⟩
theorem r_all {l:Addr} {bs:List Bool} (h:H l=some (.lst (bls bs))) (q:Q (.bl (bs.all id)) H):rAll K [.ref l] H Q:=⟨l,bs,rfl,SqL.of h,q⟩
end
mutual
theorem Den.up {H H':Hp} (s:Same H H'):∀{v:V} {d:PyData},Den H v d→Den H' v d
  | _,_,.non=>.non
  | _,_,.bl b=>.bl b
  | _,_,.int i=>.int i
  | _,_,.str x=>.str x
  | _,_,.tup e dd=>.tup (s _ _ e) (Dens.up s dd)
  | _,_,.lst e dd=>.lst (s _ _ e) (Dens.up s dd)
theorem Dens.up {H H':Hp} (s:Same H H'):∀{vs:List V} {ds:List PyData},Dens H vs ds→Dens H' vs ds
  | _,_,.nil=>.nil
  | _,_,.cons d dd=>.cons (Den.up s d) (Dens.up s dd)
end
theorem Dens.snoc {H:Hp} {v:V} {d:PyData} (hd:Den H v d):∀{vs:List V} {ds:List PyData},Dens H vs ds→Dens H (vs++[v]) (ds++[d])
  | _,_,.nil=>.cons hd .nil
  | _,_,.cons x dd=>.cons x (Dens.snoc hd dd)
theorem Dens.len {H:Hp}:∀{vs:List V} {ds:List PyData},Dens H vs ds→vs.length=ds.length
  | _,_,.nil=>rfl
  | _,_,.cons _ dd=>by rw [List.length_cons,List.length_cons,Dens.len dd]
theorem Dens.get {H:Hp}:∀{vs:List V} {ds:List PyData} {i:Nat} {d:PyData},Dens H vs ds→ds[i]?=some d→∃v,vs[i]?=some v∧Den H v d
  | _,_,0,_,.cons x dd,h=>by cases h;exact ⟨_,rfl,x⟩
  | _,_,i+1,_,.cons x dd,h=>Dens.get dd (i:=i) h
theorem Dens.drop {H:Hp}:∀{vs:List V} {ds:List PyData} (n:Nat),Dens H vs ds→Dens H (vs.drop n) (ds.drop n)
  | _,_,0,h=>h
  | _,_,_+1,.nil=>.nil
  | _,_,n+1,.cons _ dd=>Dens.drop n dd
end My

local macro_rules | `(tactic| walk_at "v") => `(tactic| repeat (first
  | with_reducible refine My.r_seq ?_
  | with_reducible refine My.r_set ?_
  | with_reducible refine My.r_ret ?_
  | with_reducible refine My.r_drop ?_
  | with_reducible refine My.r_if ?_
  | with_reducible refine My.r_next ?_
  | with_reducible refine My.r_cont ?_
  | with_reducible refine My.r_break ?_
  | with_reducible refine My.r_chain ?_
  | with_reducible refine My.r_chain4 ?_
  | with_reducible refine My.r_link ?_
  | with_reducible refine My.r_end ?_
  | with_reducible refine My.r_fld ?_
  | with_reducible refine My.r_sfld ?_
  | with_reducible refine My.r_meth ?_
  | with_reducible refine My.r_make ?_
  | ((with_reducible refine' My.r_var ?e1 ?_); (case e1 => rfl))
  | with_reducible refine My.r_c ?_
  | with_reducible refine My.r_op ?_
  | with_reducible refine My.r_un ?_
  | with_reducible refine My.r_I0 ?_
  | with_reducible refine My.r_U ?_
  | with_reducible refine My.r_test ?_
  | with_reducible refine My.r_B ?_
  | with_reducible refine My.r_bl ?_
  | with_reducible refine My.r_cb ?_
  | with_reducible refine My.r_cons ?_
  | with_reducible refine My.r_nil ?_
  | with_reducible refine My.r_tup ?_
  | with_reducible refine My.r_lst ?_
  | with_reducible refine My.r_call ?_
  | with_reducible refine My.r_try ?_
  | with_reducible refine My.r_tryAs ?_
  | with_reducible refine My.r_callX ?_
  | with_reducible refine My.r_raise ?_
  | with_reducible refine My.r_par ?_
  | with_reducible refine My.r_g ?_
  | with_reducible refine My.r_absC ?_
  | with_reducible refine My.r_bits ?_
  | with_reducible refine My.r_comp ?_
  | with_reducible refine My.r_yes ?_
  | with_reducible refine My.r_gsub ?_
  | with_reducible refine My.r_rev ?_
  | with_reducible refine My.r_max ?_
  | with_reducible refine My.r_min ?_
  | with_reducible refine My.r_two ?_
  | with_reducible refine My.r_bm ?_
  | ((with_reducible refine My.r_I ?e7 ?_); (case e7 => first | decide | assumption | exact ⟨by decide, by decide, by decide⟩ | (show (0 : Int) < _; first | decide | omega) | exact My.mulR (by decide) (by decide) | exact My.mulL (by decide) (by decide)))
  | with_reducible refine My.r_not ?_
  | with_reducible refine My.r_and ?_
  | with_reducible refine My.r_or ?_
  | with_reducible refine My.r_andV ?_
  | with_reducible refine My.r_orV ?_
  | with_reducible refine My.r_notV ?_
  | with_reducible refine My.r_ife ?_
  | ((with_reducible refine My.r_eq ?e2 ?_); (case e2 => rfl))
  | ((with_reducible refine My.r_ne ?e3 ?_); (case e3 => rfl))
  | ((with_reducible refine' My.r_t0 ?e4 ?_); (case e4 => assumption))
  | ((with_reducible refine' My.r_t1 ?e5 ?_); (case e5 => assumption))
  | ((with_reducible refine' My.r_t2 ?e6 ?_); (case e6 => assumption))
  | ((with_reducible refine' My.r_t3 ?e8 ?_); (case e8 => assumption))))
local macro_rules | `(tactic| walk_at "o") => `(tactic| first
  | assumption
  | exact Nat.le_of_lt (by assumption)
  | exact Nat.lt_trans (by assumption) (by assumption)
  | exact Nat.lt_of_lt_of_le (by assumption) (by assumption)
  | exact Nat.le_trans (by assumption) (by assumption)
  | exact Int.le_of_lt (by assumption)
  | exact Int.ne_of_gt (by assumption)
  | exact Int.ne_of_lt (by assumption)
  | exact Int.natCast_nonneg _
  | lia
  | omega)
local macro_rules | `(tactic| walk_at "fx") => `(tactic| (refine' My.fx_mk ?a ?l ?c ?k; (case a => k_is); (case l => k_is); (case c => k_is); (case k => k_is)))
local macro_rules | `(tactic| walk_at "fm") => `(tactic| (refine' My.fm_mk ?a ?i ?l ?c ?k; (case a => k_is); (case i => k_is); (case l => k_is); (case c => k_is); (case k => k_is)))
local macro_rules | `(tactic| walk_at "fz") => `(tactic| first | walk_at "fx" | walk_at "fm" | k_is | k_exc | kts_exm)
local macro_rules | `(tactic| walk_at "vs") => `(tactic| first
  | with_reducible refine My.r_sl ?_
  | with_reducible refine My.r_part ?_
  | with_reducible refine My.r_nopart ?_
  | with_reducible refine My.r_pi ?_)
local macro_rules | `(tactic| walk_at "vd") => `(tactic| ((walk_at "v"); (repeat ((walk_at "vs"); (walk_at "v")))))
--@squeeze
--@without 02x_exc.lean 02y_excas.lean 02h_rev.lean 02i_revit.lean
namespace Lw
open PySem L2 Mth My
noncomputable def top (i:Nat):Stmt:=PySem.Challenge.pw_lath_k63_no_tellings.main.body.getD i (.Pass ⟨0,0,0,0⟩)
noncomputable abbrev s_law_cell:Stmt:=top 33
noncomputable abbrev s_law_mix:Stmt:=top 34
noncomputable abbrev s_law_row:Stmt:=top 35
noncomputable abbrev s_law_ratio:Stmt:=top 36
noncomputable abbrev s_law_is_ratio:Stmt:=top 41
noncomputable abbrev s_plain_divisor:Stmt:=top 5
noncomputable abbrev s_steps_of_heads:Stmt:=top 6
noncomputable abbrev s_divisor:Stmt:=top 7
noncomputable abbrev s_ratio:Stmt:=top 8
noncomputable abbrev s_reduced:Stmt:=top 9
noncomputable abbrev s_loose_plus:Stmt:=top 10
noncomputable abbrev s_loose_minus:Stmt:=top 11
noncomputable abbrev s_loose_times:Stmt:=top 12
noncomputable abbrev s_order:Stmt:=top 13
noncomputable abbrev s_size:Stmt:=top 14
noncomputable abbrev s_runs:Stmt:=top 17
noncomputable abbrev s_law_shaped:Stmt:=top 37
noncomputable abbrev s_law_times:Stmt:=top 38
noncomputable abbrev s_law_picked:Stmt:=top 39
noncomputable abbrev s_law_drawn:Stmt:=top 40
noncomputable abbrev s_law_handed:Stmt:=top 42
noncomputable abbrev s_greatest:Stmt:=top 15
noncomputable abbrev s_law_runs:Stmt:=top 43
noncomputable abbrev s_moment_of:Stmt:=top 19
noncomputable abbrev s_parts_lying_apart:Stmt:=top 20
noncomputable abbrev s_part_of_one:Stmt:=top 21
noncomputable abbrev s_held_by:Stmt:=top 22
noncomputable abbrev s_parts_hanging_together:Stmt:=top 23
noncomputable abbrev s_has_one_height:Stmt:=top 24
noncomputable abbrev s_ends_on_samples:Stmt:=top 25
noncomputable abbrev s_parts_of_run:Stmt:=top 26
noncomputable abbrev s_parts_of_row:Stmt:=top 27
noncomputable abbrev s_loose_height_on:Stmt:=top 28
noncomputable abbrev s_loose_misses:Stmt:=top 29
noncomputable abbrev s_miss:Stmt:=top 30
noncomputable abbrev s_fits:Stmt:=top 31
noncomputable abbrev s_law_put:Stmt:=top 44
noncomputable abbrev s_law_lone:Stmt:=top 45
noncomputable abbrev s_law_loose:Stmt:=top 46
noncomputable abbrev s_law_node:Stmt:=top 47
noncomputable abbrev s_law_hung:Stmt:=top 48
noncomputable abbrev s_law_own_telling:Stmt:=top 49
noncomputable abbrev s_law_added:Stmt:=top 50
noncomputable abbrev s_law_bound_first:Stmt:=top 53
noncomputable abbrev s_law_bound_last:Stmt:=top 54
noncomputable abbrev s_law_joint:Stmt:=top 56
noncomputable abbrev s_law_changed:Stmt:=top 55
noncomputable abbrev s_law_behind:Stmt:=top 51
noncomputable abbrev s_law_moved_turn:Stmt:=top 57
noncomputable abbrev s_law_odd:Stmt:=top 58
noncomputable abbrev s_law_bridged:Stmt:=top 52
noncomputable abbrev s_law_spoilt:Stmt:=top 59
noncomputable abbrev s_law:Stmt:=top 60
noncomputable def spCell (K:PySem.W.Frag):Sp:=fun vs H Q _=>∃(a:Addr) (ns:List Int) (i:Int),vs=[.ref a,.int i]∧SqL K H a (ns.map V.int)∧0≤i∧i<1000∧∀(c:Int) (H':Hp),Same H H'→Q (.int c) H'
noncomputable def spMix:Sp:=fun vs H Q _=>∃(c k:Int),vs=[.int c,.int k]∧0≤k∧k<1000∧∀z:Int,Q (.int z) H
noncomputable def spRow (K:PySem.W.Frag):Sp:=fun vs H Q _=>∃(a:Addr) (ns:List Int) (i:Int) (l:Addr) (zs:List Int),vs=[.ref a,.int i,.ref l]∧SqL K H a (ns.map V.int)∧0≤i∧i<900∧H l=some (.lst (zs.map V.int))∧zs.length≤900∧(∀z∈zs,0<z∧z<2 ^ 60) ∧
  ∀(p:Addr) (xs:List Int) (H':Hp),Same H H'→H p=none→H' p=some (.lst (xs.map V.int))→xs.length=zs.length→(∀(j:Nat) (x z:Int),xs[j]?=some x→zs[j]?=some z→0≤x∧x<z)→Q (.ref p) H'
noncomputable def spRatio:Sp:=fun vs H Q _=>∃(t b:Int),vs=[.int t,.int b]∧0<b∧Sz 8000 b∧∀(p:Addr) (t' b':Int) (H':Hp),Same H H'→H' p=some (.tup [.int t',.int b'])→Low t b t' b'→Q (.ref p) H'
noncomputable def spIs:Sp:=fun vs H Q _=>∃(p:Addr) (a b:Int),vs=[.ref p]∧H p=some (.tup [.int a,.int b])∧Sz 8000 b∧∀(r:Bool) (H':Hp),Same H H'→(r=true↔1≤b∧Int.gcd a b=1)→Q (.bl r) H'
structure Txt (mg:Str→Option Value):Prop where
  len_:mg "len"=none
  abs_:mg "abs"=none
  range:mg "range"=none
  isinstance_:mg "isinstance"=none
  int_:mg "int"=none
  bool_:mg "bool"=none
  tuple_:mg "tuple"=none
  list_:mg "list"=none
  max_:mg "max"=none
  min_:mg "min"=none
  enumerate_:mg "enumerate"=none
  zip_:mg "zip"=none
  all_:mg "all"=none
  any_:mg "any"=none
  sum_:mg "sum"=none
  sorted_:mg "sorted"=none
  reversed_:mg "reversed"=none
  str_:mg "str"=none
theorem ints_at {ns:List Int} {i:Int} (h0:0≤i) (h:i<(ns.length:Int)):∃v:Int,atI (ns.map V.int) i=some (.int v):=by
  have hk:i.toNat<ns.length:=by walk_at "o"
  exact ⟨ns[i.toNat],at_ints (List.getElem?_eq_getElem hk) (by walk_at "o")⟩
theorem cut_int {ns:List Int} {lo hi:Option Int} {i:Nat} {y:V} (h:(cutV (ns.map V.int) lo hi)[i]?=some y):∃m:Int,y=.int m:=by
  have hm:y∈cutV (ns.map V.int) lo hi:=List.mem_of_getElem? h
  unfold cutV at hm
  obtain ⟨m,_,e⟩:=List.mem_map.mp (List.mem_of_mem_drop (List.mem_of_mem_take hm))
  exact ⟨m,e.symm⟩
theorem mcast (x y:Nat):((x:Int) % (y:Int))=((x % y:Nat):Int):=(Int.natCast_emod x y).symm
theorem abs_cast (t:Int):(if t<0 then -t else t)=(t.natAbs:Int):=by split <;> walk_at "o"
noncomputable def cellN (i:Nat) (σ:St):Nat:=match σ[i]? with | some (some (V.int n))=>n.toNat | _=>0
noncomputable def third (σ:St):Nat:=match σ[3]? with | some (some (V.int n))=>n.toNat | _=>0
section
variable {P:Program} {w:World} {K:PySem.W.Frag} {mg:Str→Option Value} {base:Heap} {f:Addr} {fd:FuncData}
theorem sc_law_cell:FnScope ["_law_script","_law_place","_law_seed","_law_cell_here"] ["_law_script","_law_place"] (defScope s_law_cell):=⟨rfl,rfl,rfl,by decide +kernel,rfl,by decide +kernel,by decide +kernel⟩
theorem ok_law_cell (F:Fun K "_law_cell" "_law_cell" s_law_cell f fd) (T:Txt mg):FnOk P w K mg base CX0 1 f fd ["_law_script","_law_place"] (spCell K):=by
  refine F.ok sc_law_cell (fun vs H Q E h=>?_) (fun cdv A outer s H vs Q E hr h=>?_)
  · obtain ⟨a,ns,i,rfl,_⟩:=h
    rfl
  obtain ⟨a,ns,i,rfl,hS,h0,h1,k⟩:=h
  refine J.q ⟨_,(J.f (J.m (J.j op_lt (J.a 1) (J.p (lenC K) rfl T.len_ PySem.boot_len (J.b (J.a 0) J.d st_N) (he:=st_N) (hpl:=any0)) (nomark _))
      (J.h (J.l (J.e (ixL K) (J.a 0) (J.a 1) (fun _ _=>rfl))))
      J.n)
      (J.f (J.i (i:=2) sc_law_cell.nd rfl (Or.inl rfl) J.c (hs:=sw_C))
      (J.f (J.ae PassesOwn.never rfl (J.aa K (J.t (slL K) (J.a 0) J.v (J.r J.c))) (J.u (i:=3) sc_law_cell.nd rfl (Or.inl rfl))
      (J.h (J.i (i:=2) sc_law_cell.nd rfl (Or.inl rfl) (J.g op_mod (J.g op_add (J.g op_add (J.g op_mulB (J.a 2) J.c) (J.g op_mod (J.a 3) J.c)) J.c) J.c) (hs:=sw_B))))
      (J.h (J.l (J.g op_mod (J.g op_add (J.a 2) (J.g op_mulB J.c (J.a 1))) J.c)))))),?_⟩
  walk_at "v"
  refine r_len (.inl hS) ?_
  walk_at "v"
  refine ite2 (fun c=>?_) (fun c=>?_)
  · have c':=of_decide_eq_true c
    rw [List.length_map] at c'
    obtain ⟨v,hv⟩:=ints_at (ns:=ns) h0 c'
    walk_at "v"
    exact ⟨a,_,i,_,rfl,rfl,hS,hv,k v H (Same.refl _)⟩
  · walk_at "v"
    refine ⟨_,rfl,_,rfl,a,_,rfl,hS,fun p hp=>?_⟩
    have s1:Same H (upd H p (.lst (cutV (ns.map V.int) none (some 63)))):=same_new hp _
    have e1:upd H p (.lst (cutV (ns.map V.int) none (some 63))) p=some (.lst (cutV (ns.map V.int) none (some 63))):=upd_same
    refine ⟨p,rfl,⟨_,SqL.of e1⟩,for_list (K:=K) (a:=p) (xs:=cutV (ns.map V.int) none (some 63)) (fun _ σ H2=>∃(z:Int) (v:Option V),σ=[some (.ref a),some (.int i),some (.int z),v]∧0≤z∧z<2147483647∧Same (upd H p (.lst (cutV (ns.map V.int) none (some 63)))) H2)
      ⟨5,none,rfl,by decide,by decide,Same.refl _⟩ (fun _ σ H2 _ ⟨_,_,_,_,_,s2⟩=>SqL.of (s2 _ _ e1)) ?_ ?_⟩
    · rintro j y σ H2 hj ⟨z,v,rfl,z0,z1,s2⟩
      obtain ⟨m,rfl⟩:=cut_int hj
      walk_at "v"
      exact ⟨_,_,rfl,Int.emod_nonneg _ (by decide),Int.emod_lt_of_pos _ (by decide),s2⟩
    · rintro σ H2 ⟨z,v,rfl,z0,z1,s2⟩
      walk_at "v"
      exact k _ _ (s1.trans s2)
theorem sc_law_mix:FnScope ["_law_cell_here","_law_k","_law_one","_law_two"] ["_law_cell_here","_law_k"] (defScope s_law_mix):=⟨rfl,rfl,rfl,by decide +kernel,rfl,by decide +kernel,by decide +kernel⟩
theorem ok_law_mix (F:Fun K "_law_mix" "_law_mix" s_law_mix f fd):FnOk P w K mg base CX0 1 f fd ["_law_cell_here","_law_k"] spMix:=by
  refine F.ok sc_law_mix (fun vs H Q E h=>?_) (fun cdv A outer s H vs Q E hr h=>?_)
  · obtain ⟨c,k,rfl,_⟩:=h
    rfl
  obtain ⟨c,j,rfl,h0,h1,k⟩:=h
  refine J.q ⟨_,(J.f (J.i (i:=2) sc_law_mix.nd rfl (Or.inl rfl) (J.g op_mod (J.g op_pow (J.g op_add (J.g op_add (J.g op_mod (J.a 0) J.c) (J.g op_mulB J.c (J.a 1))) J.c) J.c) J.c) (hs:=sw_B))
      (J.f (J.i (i:=3) sc_law_mix.nd rfl (Or.inl rfl) (J.g op_mod (J.g op_add (J.g op_add (J.g op_mulB (J.a 2) J.c) (J.g op_mulB (J.g op_mulB J.c (J.a 1)) (J.a 1))) J.c) J.c) (hs:=sw_B))
      (J.h (J.l (J.g op_fdivB (J.a 3) J.c))))),?_⟩
  have b0:0≤c % 2147483629:=Int.emod_nonneg _ (by decide)
  have b1:c % 2147483629<2147483629:=Int.emod_lt_of_pos _ (by decide)
  walk_at "v"
  refine r_I (show CPow _ _ from ⟨by decide,by decide,by walk_at "o"⟩) ?_
  walk_at "v"
  refine r_I (mulR (by walk_at "o") (by walk_at "o")) ?_
  walk_at "v"
  refine r_I (show CDivB _ _ from ⟨by decide,by decide +kernel⟩) ?_
  exact k _
theorem sc_law_row:FnScope ["_law_script","_law_place","_law_sizes","_law_cell_here","_law_left","_law_some","_law_k","_law_other"] ["_law_script","_law_place","_law_sizes"] (defScope s_law_row):=⟨rfl,rfl,rfl,by decide +kernel,rfl,by decide +kernel,by decide +kernel⟩
theorem ok_law_row (F:Fun K "_law_row" "_law_row" s_law_row f fd) (T:Txt mg) (D_law_cell:Dn P w K mg base 1 "_law_cell" ["_law_script","_law_place"] (spCell K)) (D_law_mix:Dn P w K mg base 1 "_law_mix" ["_law_cell_here","_law_k"] spMix) :
    FnOk P w K mg base CX0 3 f fd ["_law_script","_law_place","_law_sizes"] (spRow K):=by
  refine F.ok sc_law_row (fun vs H Q E h=>?_) (fun cdv A outer s H vs Q E hr h=>?_)
  · obtain ⟨a,ns,i,l,zs,rfl,_⟩:=h
    rfl
  obtain ⟨a,ns,i,l,zs,rfl,hS,h0,h1,hl,hz,hzs,k⟩:=h
  refine J.q ⟨_,(J.f (J.i (i:=3) sc_law_row.nd rfl (Or.inl rfl) (J.k D_law_cell (hr.mono (by decide)) rfl (J.b (J.a 0) (J.b (J.a 1) J.d st_N) st_N) (he:=st_N) (hpl:=(anyc st_N any0))) (hs:=sw_K))
      (J.f (J.i (i:=4) sc_law_row.nd rfl (Or.inl rfl) (J.a 3) (hs:=sw_N))
      (J.f (J.i (i:=5) sc_law_row.nd rfl (Or.inl rfl) (J.s J.d) (hs:=sw_L))
      (J.f (J.ae PassesOwn.never rfl (Jd.pi_range1 rfl T.range (J.b (J.p (lenC K) rfl T.len_ PySem.boot_len (J.b (J.a 2) J.d st_N) (he:=st_N) (hpl:=any0)) J.d st_K)) (J.u (i:=6) sc_law_row.nd rfl (Or.inl rfl))
      (J.h (J.m (J.j op_lt (J.a 3) (J.g op_pow J.c J.c) (nomark _))
      (J.h (J.y (J.ac K (J.a 5) (J.g op_mod (J.k D_law_mix (hr.mono (by decide)) rfl (J.b (J.a 3) (J.b (J.a 6) J.d st_N) st_N) (he:=st_N) (hpl:=(anyc st_N any0))) (J.e (ixL K) (J.a 2) (J.a 6) (fun _ _=>rfl)))) (hs:=sw_K)))
      (J.h (J.m (J.j op_gt (J.a 4) J.c (nomark _))
      (J.f (J.y (J.ac K (J.a 5) (J.g op_mod (J.a 4) (J.e (ixL K) (J.a 2) (J.a 6) (fun _ _=>rfl)))) (hs:=sw_K))
      (J.h (J.i (i:=4) sc_law_row.nd rfl (Or.inl rfl) (J.g op_fdivB (J.a 4) (J.e (ixL K) (J.a 2) (J.a 6) (fun _ _=>rfl))) (hs:=sw_B))))
      (J.f (J.i (i:=7) sc_law_row.nd rfl (Or.inl rfl) (J.k D_law_cell (hr.mono (by decide)) rfl (J.b (J.a 0) (J.b (J.g op_mod (J.g op_add (J.g op_add (J.a 1) J.c) (J.a 6)) J.c) J.d st_B) st_N) (he:=st_N) (hpl:=(anyc st_B any0))) (hs:=sw_K))
      (J.h (J.y (J.ac K (J.a 5) (J.g op_mod (J.k D_law_mix (hr.mono (by decide)) rfl (J.b (J.a 7) (J.b (J.a 6) J.d st_N) st_N) (he:=st_N) (hpl:=(anyc st_N any0))) (J.e (ixL K) (J.a 2) (J.a 6) (fun _ _=>rfl)))) (hs:=sw_K)))))))))
      (J.h (J.l (J.a 5))))))),?_⟩
  walk_at "v"
  refine ⟨a,ns,i,rfl,hS,h0,by walk_at "o",fun c H1 s1=>?_⟩
  walk_at "v"
  refine r_new (mk:=.lst) (by simp) fun p H2 s2 n2 e2=>?_
  walk_at "v"
  have hl2:H2 l=some (.lst (zs.map V.int)):=s2 _ _ (s1 _ _ hl)
  refine ⟨_,rfl,l,_,rfl,.inl (SqL.of hl2),_,rfl,by lia,by rw [List.length_map];lia,for_range (fun j σ H3=>∃(left:Int) (xs:List Int) (v6 v7:Option V),
    σ=[some (.ref a),some (.int i),some (.ref l),some (.int c),some (.int left),some (.ref p),v6,v7]∧Same H1 H3∧H3 p=some (.lst (xs.map V.int))∧xs.length=j∧(∀(j:Nat) (x z:Int),xs[j]?=some x→zs[j]?=some z→0≤x∧x<z)) ?_ ?_ ?_⟩
  · exact ⟨c,[],none,none,rfl,s2,e2,rfl,fun j x z e _=>by simp at e⟩
  · rintro j σ H3 hj ⟨left,xs,v6,v7,rfl,s3,e3,hx,hxs⟩
    have hj':j<zs.length:=by simpa using hj
    obtain ⟨z,ez⟩:∃z,zs[j]?=some z:=⟨_,List.getElem?_eq_getElem hj'⟩
    obtain ⟨zp,zq⟩:=hzs z (List.mem_of_getElem? ez)
    have hl3:H3 l=some (.lst (zs.map V.int)):=s3 _ _ (s1 _ _ hl)
    have ea:atI (zs.map V.int) (0+(j:Int))=some (.int z):=at_ints ez (by walk_at "o")
    have hS3:SqL K H3 a (ns.map V.int):=(s1.trans s3).seq hS
    -- one more item
    have fin:∀(y left':Int) (v6 v7:Option V) (H4:Hp),Same H3 H4→H4 p=some (.lst (xs.map V.int))→∃(left:Int) (xs':List Int) (v6' v7':Option V),
        [some (.ref a),some (.int i),some (.ref l),some (.int c),some (.int left'),some (.ref p),v6,v7]=[some (.ref a),some (.int i),some (.ref l),some (.int c),some (.int left),some (.ref p),v6',v7'] ∧
        Same H1 (upd H4 p (.lst (xs.map V.int++[.int (y % z)])))∧upd H4 p (.lst (xs.map V.int++[.int (y % z)])) p=some (.lst (xs'.map V.int))∧xs'.length=j+1∧(∀(j:Nat) (x z:Int),xs'[j]?=some x→zs[j]?=some z→0≤x∧x<z):=by
      intro y left' v6 v7 H4 s4 e4
      refine ⟨left',xs++[y % z],v6,v7,rfl,same_at (s3.trans s4) n2,?_,by rw [List.length_append,hx];rfl,fun m x z' e1 e2=>?_⟩
      · rw [upd_same,List.map_append];rfl
      · by_cases hm:m<xs.length
        · rw [List.getElem?_append_left hm] at e1
          exact hxs m x z' e1 e2
        · have hm2:m=j:=by
            have:=(List.getElem?_eq_some_iff.mp e1).1
            rw [List.length_append] at this
            simp at this
            walk_at "o"
          subst hm2
          rw [List.getElem?_append_right (by walk_at "o"),hx] at e1
          simp at e1
          rw [ez] at e2
          cases e2
          subst e1
          exact ⟨Int.emod_nonneg _ (by walk_at "o"),Int.emod_lt_of_pos _ zp⟩
    have small3:(xs.map V.int).length<sizeLine:=by rw [List.length_map];exact small1000 (by walk_at "o")
    walk_at "v"
    refine ite2 (fun _=>?_) (fun _=>?_)
    · walk_at "v"
      refine ⟨.inl ⟨rfl,_,SqL.of e3⟩,?_⟩
      walk_at "v"
      refine ⟨_,_,rfl,by walk_at "o",by walk_at "o",fun y=>?_⟩
      walk_at "v"
      refine r_l hl3 ea ?_
      refine r_I (show (0:Int)<z from zp) ?_
      walk_at "v"
      refine r_app e3 small3 ?_
      exact fin y _ _ _ _ (Same.refl _) e3
    · walk_at "v"
      refine ite2 (fun _=>?_) (fun _=>?_)
      · walk_at "v"
        refine ⟨.inl ⟨rfl,_,SqL.of e3⟩,?_⟩
        walk_at "v"
        refine r_l hl3 ea ?_
        refine r_I (show (0:Int)<z from zp) ?_
        walk_at "v"
        refine r_app e3 small3 ?_
        walk_at "v"
        refine r_l (by rw [upd_ne (ne_of_none (s1 _ _ hl) n2)];exact hl3) ea ?_
        refine r_I (show CDivB _ _ from ⟨by walk_at "o",Sz.log (m:=60) (Sz.of_lt (k:=2 ^ 60) (by walk_at "o") (Nat.le_refl _)) (by decide) (by decide)⟩) ?_
        exact fin left _ _ _ _ (Same.refl _) e3
      · walk_at "v"
        have q0:0≤(i+1+(0+(j:Int))) % 63:=Int.emod_nonneg _ (by decide)
        have q1:(i+1+(0+(j:Int))) % 63<63:=Int.emod_lt_of_pos _ (by decide)
        refine ⟨a,ns,_,rfl,hS3,q0,by walk_at "o",fun c2 H4 s4=>?_⟩
        walk_at "v"
        refine ⟨.inl ⟨rfl,_,SqL.of (s4 _ _ e3)⟩,?_⟩
        walk_at "v"
        refine ⟨_,_,rfl,by walk_at "o",by walk_at "o",fun y=>?_⟩
        walk_at "v"
        refine r_l (s4 _ _ hl3) ea ?_
        refine r_I (show (0:Int)<z from zp) ?_
        walk_at "v"
        refine r_app (s4 _ _ e3) small3 ?_
        exact fin y _ _ _ _ s4 (s4 _ _ e3)
  · rintro σ H3 ⟨left,xs,v6,v7,rfl,s3,e3,hx,hxs⟩
    walk_at "v"
    exact k p xs H3 (s1.trans s3) (s1.free n2) e3 (by simpa using hx) hxs
theorem sc_law_ratio:FnScope ["_law_top","_law_bottom","_law_one","_law_two"] ["_law_top","_law_bottom"] (defScope s_law_ratio):=⟨rfl,rfl,rfl,by decide +kernel,rfl,by decide +kernel,by decide +kernel⟩
theorem ok_law_ratio (F:Fun K "_law_ratio" "_law_ratio" s_law_ratio f fd) (T:Txt mg):FnOk P w K mg base CX0 1 f fd ["_law_top","_law_bottom"] spRatio:=by
  refine F.ok sc_law_ratio (fun vs H Q E h=>?_) (fun cdv A outer s H vs Q E hr h=>?_)
  · obtain ⟨t,b,rfl,_⟩:=h
    rfl
  obtain ⟨t,b,rfl,hb,hz,k⟩:=h
  refine J.q ⟨_,(J.f (Jd.ps_par (i:=2) (j:=3) rfl sc_law_ratio.nd rfl rfl (by decide) rfl rfl (J.b (J.p absC rfl T.abs_ PyProof.Rows.boot_abs (J.b (J.a 0) J.d st_N) (he:=st_N) (hpl:=any0)) (J.b (J.a 1) J.d st_N) st_K) rfl)
      (J.f (Jd.ps_while PassesOwn.never (J.j op_gt (J.a 3) J.c (nomark _))
      (J.h (Jd.ps_par (i:=2) (j:=3) rfl sc_law_ratio.nd rfl rfl (by decide) rfl rfl (J.b (J.a 3) (J.b (J.g op_mod (J.a 2) (J.a 3)) J.d st_B) st_N) rfl)))
      (J.h (J.l (J.o (J.b (J.g op_fdivB (J.a 0) (J.a 2)) (J.b (J.g op_fdivB (J.a 1) (J.a 2)) J.d st_B) st_B)))))),?_⟩
  walk_at "v"
  have hgb:Int.gcd t b≤b.natAbs:=by
    have:=Int.gcd_le_right (a:=t) (b:=b) (by walk_at "o")
    walk_at "o"
  refine while_by (fun σ H'=>H'=H∧∃x y:Nat,σ=[some (.int t),some (.int b),some (.int x),some (.int y)]∧Nat.gcd x y=Int.gcd t b) (fun σ _=>third σ) ?_ ?_ ?_
  · refine ⟨rfl,t.natAbs,b.natAbs,?_,rfl⟩
    rw [abs_cast]
    have e:b=((b.natAbs:Nat):Int):=by walk_at "o"
    rw [← e]
    rfl
  · rintro σ H' ⟨rfl,x,y,rfl,hg⟩
    walk_at "v"
    refine ite2 (fun c=>?_) (fun c=>?_)
    · have c':(0:Int)<(y:Int):=of_decide_eq_true c
      walk_at "v"
      refine ⟨⟨rfl,y,x % y,?_,by rw [gcd_step];exact hg⟩,?_⟩
      · rw [← mcast];rfl
      · show ((x:Int) % (y:Int)).toNat<(y:Int).toNat
        rw [mcast]
        have:=Nat.mod_lt x (y:=y) (by walk_at "o")
        walk_at "o"
    · have c':¬(0:Int)<(y:Int):=of_decide_eq_false (Bool.eq_false_iff.mpr c)
      have y0:y=0:=by walk_at "o"
      subst y0
      rw [Nat.gcd_zero_right] at hg
      subst hg
      have gp:0<Int.gcd t b:=Int.gcd_pos_of_ne_zero_right t (by walk_at "o")
      have cd:CDivB t ((Int.gcd t b:Nat):Int):=⟨by walk_at "o",Sz.log (m:=8000) (Sz.of_le hz (by walk_at "o")) (by decide) (by decide)⟩
      walk_at "v"
      refine r_new (mk:=.tup) (by simp) fun p H1 s1 n1 e1=>?_
      exact k p _ _ H1 s1 e1 (low_pos hb)
  · intro σ H Q Q' h q
    obtain ⟨v,e,i,j,e1,e2,b,e3,q⟩:=q
    exact ⟨v,e,i,j,e1,e2,b,e3,h _ _ q⟩
theorem sc_law_is_ratio:FnScope ["_law_one","_law_part"] ["_law_one"] (defScope s_law_is_ratio):=⟨rfl,rfl,rfl,by decide +kernel,rfl,by decide +kernel,by decide +kernel⟩
theorem ok_law_is_ratio (F:Fun K "_law_is_ratio" "_law_is_ratio" s_law_is_ratio f fd) (T:Txt mg) (D_law_ratio:Dn P w K mg base 1 "_law_ratio" ["_law_top","_law_bottom"] spRatio):FnOk P w K mg base CX0 3 f fd ["_law_one"] spIs:=by
  refine F.ok sc_law_is_ratio (fun vs H Q E h=>?_) (fun cdv A outer s H vs Q E hr h=>?_)
  · obtain ⟨p,a,b,rfl,_⟩:=h
    rfl
  obtain ⟨p,a,b,rfl,hp,hz,k⟩:=h
  have hu64:=hr.units
  refine J.q ⟨_,(J.f (J.m (J.x (J.af (Jd.pt_not (J.ak (J.p (isiC K) rfl T.isinstance_ PyProof.Rows.boot_isinstance (J.b (J.a 0) (J.b (Jd.pe_ty rfl T.tuple_ PyProof.Rows.boot_tuple) J.d st_N) st_N) (he:=st_N) (hpl:=(anyc st_N any0))))) (J.ah (J.j op_ne (J.p (lenC K) rfl T.len_ PySem.boot_len (J.b (J.a 0) J.d st_N) (he:=st_N) (hpl:=any0)) J.c (nomark _)))))
      (J.h (J.l Jd.pe_bl))
      J.n)
      (J.f (J.ae PassesOwn.never rfl (Jd.piT K (J.a 0)) (J.u (i:=1) sc_law_is_ratio.nd rfl (Or.inl rfl))
      (J.h (J.m (J.x (J.af (J.ak (J.p (isiC K) rfl T.isinstance_ PyProof.Rows.boot_isinstance (J.b (J.a 1) (J.b (Jd.pe_ty rfl T.bool_ PyProof.Rows.boot_bool) J.d st_N) st_N) (he:=st_N) (hpl:=(anyc st_N any0)))) (J.ah (Jd.pt_not (J.ak (J.p (isiC K) rfl T.isinstance_ PyProof.Rows.boot_isinstance (J.b (J.a 1) (J.b (Jd.pe_ty rfl T.int_ PyProof.Rows.boot_int) J.d st_N) st_N) (he:=st_N) (hpl:=(anyc st_N any0))))))))
      (J.h (J.l Jd.pe_bl))
      J.n)))
      (J.h (J.l (J.am (J.ab op_ge (J.e (ixT K) (J.a 0) J.c (fun _ _=>rfl)) J.c (nomark _)) (J.al (J.ab (op_eqD hu64) (J.k D_law_ratio (hr.mono (by decide)) rfl (J.b (J.e (ixT K) (J.a 0) J.c (fun _ _=>rfl)) (J.b (J.e (ixT K) (J.a 0) J.c (fun _ _=>rfl)) J.d st_S) st_S) (he:=st_S) (hpl:=(anyc st_S any0))) (J.a 0) (nomark _)))))))),?_⟩
  walk_at "v"
  refine r_isi (.tup hp) kit_tt ?_
  walk_at "v"
  refine iteF ?_
  walk_at "v"
  refine r_len (.inr (SqT.of hp)) ?_
  walk_at "v"
  refine iteF ?_
  walk_at "v"
  refine ⟨_,rfl,p,rfl,⟨_,SqT.of hp⟩,for_tup (K:=K) (a:=p) (xs:=[.int a,.int b]) (fun _ σ H2=>H2=H∧∃v:Option V,σ=[some (.ref p),v]) ⟨rfl,none,rfl⟩ (fun _ σ H2 _ ⟨e,_⟩=>by subst e;exact SqT.of hp) ?_ ?_⟩
  · rintro j y σ H2 hj ⟨rfl,v,rfl⟩
    obtain ⟨m,rfl⟩:∃m:Int,y=.int m:=by
      have hm:=List.mem_of_getElem? hj
      simp at hm
      rcases hm with h | h
      · exact ⟨_,h⟩
      · exact ⟨_,h⟩
    walk_at "v"
    refine r_isi (.int m) kit_ib ?_
    walk_at "v"
    refine iteF ?_
    walk_at "v"
    refine r_isi (.int m) kit_ii ?_
    walk_at "v"
    refine iteF ?_
    walk_at "v"
    exact ⟨rfl,_,rfl⟩
  · rintro σ H2 ⟨rfl,v,rfl⟩
    walk_at "v"
    refine ite2 (fun c=>?_) (fun c=>?_)
    · have c':(1:Int)≤b:=of_decide_eq_true c
      walk_at "v"
      refine ⟨_,_,rfl,by walk_at "o",hz,fun p' t' b' H3 s3 e3 lo=>?_⟩
      walk_at "v"
      refine ⟨_,_,.tup e3 (.cons (.int _) (.cons (.int _) .nil)),.tup (s3 _ _ hp) (.cons (.int _) (.cons (.int _) .nil)),rfl,rfl,?_⟩
      refine k _ H3 s3 ?_
      have e:PyData.eqv (.tuple [.int t',.int b']) (.tuple [.int a,.int b])=(t'==a&&(b'==b&&true)):=rfl
      rw [e]
      constructor
      · intro q
        simp at q
        obtain ⟨rfl,rfl⟩:=q
        exact ⟨c',lo.co⟩
      · rintro ⟨_,q⟩
        obtain ⟨rfl,rfl⟩:=lo.self c' q
        simp
    · have c':¬(1:Int)≤b:=of_decide_eq_false (Bool.eq_false_iff.mpr c)
      exact k false H2 (Same.refl _) ⟨fun q=>absurd q (by decide),fun q=>absurd q.1 c'⟩
end

noncomputable def QtAt (H:Hp) (p:Addr) (q:Rat) (n:Nat):Prop:=∃t b:Int,H p=some (.tup [.int t,.int b])∧Qt t b q∧Sz n t∧Sz n b
noncomputable def FrAt (H:Hp) (p:Addr) (q:Rat) (n:Nat):Prop:=∃t b:Int,H p=some (.tup [.int t,.int b])∧Fr t b q∧Sz n t∧Sz n b
section
variable {H H':Hp} {p:Addr} {q h:Rat} {m n:Nat} {t:Int}
theorem FrAt.qt (f:FrAt H p q n):QtAt H p q n:=let ⟨t,b,e,f,z⟩:=f;⟨t,b,e,f.qt,z⟩
theorem QtAt.mono (f:QtAt H p q m) (h:m≤n):QtAt H p q n:=let ⟨t,b,e,f,z1,z2⟩:=f;⟨t,b,e,f,z1.mono h,z2.mono h⟩
theorem FrAt.mono (f:FrAt H p q m) (h:m≤n):FrAt H p q n:=let ⟨t,b,e,f,z1,z2⟩:=f;⟨t,b,e,f,z1.mono h,z2.mono h⟩
theorem QtAt.up (f:QtAt H p q n) (s:Same H H'):QtAt H' p q n:=let ⟨t,b,e,f⟩:=f;⟨t,b,s _ _ e,f⟩
theorem FrAt.up (f:FrAt H p q n) (s:Same H H'):FrAt H' p q n:=let ⟨t,b,e,f⟩:=f;⟨t,b,s _ _ e,f⟩
end
noncomputable def spPlain:Sp:=fun vs H Q _=>∃(m n:Int),vs=[.int m,.int n]∧0≤m∧0≤n∧Q (.int (Int.gcd m n:Nat)) H
noncomputable def spSteps:Sp:=fun vs H Q _=>∃(m n:Int),vs=[.int m,.int n]∧0≤n∧n≤m∧m<115792089237316195423570985008687907853269984665640564039457584007913129639936 ∧
  ∀(p:Addr) (x0 y0 x1 y1 high low:Int) (H':Hp),Same H H'→H' p=some (.tup [.int x0,.int y0,.int x1,.int y1])→Steps m n high low x0 y0 x1 y1→low≤340282366920938463463374607431768211456→Q (.ref p) H'
noncomputable def spDivisor:Sp:=fun vs H Q _=>∃(m n:Int),vs=[.int m,.int n]∧Sz 8000 m∧Sz 8000 n∧∀H',Same H H'→Q (.int (Int.gcd m n:Nat)) H'
noncomputable def spRatioP:Sp:=fun vs H Q _=>∃(t b:Int),vs=[.int t,.int b]∧b≠0∧Sz 8000 t∧Sz 8000 b∧∀(p:Addr) (t' b':Int) (H':Hp),Same H H'→H' p=some (.tup [.int t',.int b'])→Low t b t' b'→Q (.ref p) H'
noncomputable def spReduced:Sp:=fun vs H Q _=>∃(p:Addr) (q:Rat) (n:Nat),vs=[.ref p]∧QtAt H p q n∧n≤8000∧∀(r:Addr) (H':Hp),Same H H'→FrAt H' r q n→Q (.ref r) H'
noncomputable def spTwo (f:Rat→Rat→Rat) (k:Nat):Sp:=fun vs H Q _=>∃(p r:Addr) (q q':Rat) (m n:Nat),vs=[.ref p,.ref r]∧QtAt H p q m∧QtAt H r q' n∧m+n≤100000∧∀(s:Addr) (H':Hp),Same H H'→QtAt H' s (f q q') (m+n+k)→Q (.ref s) H'
section
variable {P:Program} {w:World} {K:PySem.W.Frag} {mg:Str→Option Value} {base:Heap} {f:Addr} {fd:FuncData}
theorem sc_plain_divisor:FnScope ["one","other","found","rest","left"] ["one","other"] (defScope s_plain_divisor):=⟨rfl,rfl,rfl,by decide +kernel,rfl,by decide +kernel,by decide +kernel⟩
theorem ok_plain_divisor (F:Fun K "plain_divisor" "plain_divisor" s_plain_divisor f fd) (T:Txt mg):FnOk P w K mg base CX0 1 f fd ["one","other"] spPlain:=by
  refine F.ok sc_plain_divisor (fun vs H Q E h=>?_) (fun cdv A outer s H vs Q E hr h=>?_)
  · obtain ⟨m,n,rfl,_⟩:=h
    rfl
  obtain ⟨m,n,rfl,hm,hn,k⟩:=h
  refine J.q ⟨_,(J.f (J.i (i:=2) sc_plain_divisor.nd rfl (Or.inl rfl) (J.a 0) (hs:=sw_N))
      (J.f (J.i (i:=3) sc_plain_divisor.nd rfl (Or.inl rfl) (J.a 1) (hs:=sw_N))
      (J.f (Jd.ps_while PassesOwn.never (J.j op_ne (J.a 3) J.c (nomark _))
      (J.f (J.i (i:=4) sc_plain_divisor.nd rfl (Or.inl rfl) (J.g op_mod (J.a 2) (J.a 3)) (hs:=sw_B))
      (J.f (J.i (i:=2) sc_plain_divisor.nd rfl (Or.inl rfl) (J.a 3) (hs:=sw_N))
      (J.h (J.i (i:=3) sc_plain_divisor.nd rfl (Or.inl rfl) (J.a 4) (hs:=sw_N))))))
      (J.h (J.l (J.a 2)))))),?_⟩
  walk_at "v"
  refine while_by (fun σ H'=>H'=H∧∃(x y:Nat) (v:Option V),σ=[some (.int m),some (.int n),some (.int x),some (.int y),v]∧Nat.gcd x y=Int.gcd m n) (fun σ _=>third σ) ?_ ?_ ?_
  · refine ⟨rfl,m.natAbs,n.natAbs,none,?_,rfl⟩
    rw [show ((m.natAbs:Nat):Int)=m by walk_at "o",show ((n.natAbs:Nat):Int)=n by walk_at "o"]
    rfl
  · rintro σ H' ⟨rfl,x,y,v,rfl,hg⟩
    walk_at "v"
    refine ite2 (fun c=>?_) (fun c=>?_)
    · have c':¬(y:Int)=0:=by simpa using c
      walk_at "v"
      refine ⟨⟨rfl,y,x % y,some (.int ((x % y:Nat):Int)),?_,by rw [gcd_step];exact hg⟩,?_⟩
      · rw [mcast];rfl
      · show ((x:Int) % (y:Int)).toNat<(y:Int).toNat
        rw [mcast]
        have:=Nat.mod_lt x (y:=y) (by walk_at "o")
        walk_at "o"
    · have c':(y:Int)=0:=by simpa using c
      have y0:y=0:=by walk_at "o"
      subst y0
      rw [Nat.gcd_zero_right] at hg
      subst hg
      walk_at "v"
      exact k
  · intro σ H Q Q' h q
    obtain ⟨v,e,hs,b,e3,q⟩:=q
    exact ⟨v,e,hs,b,e3,h _ _ q⟩
theorem sc_steps_of_heads:FnScope ["high","low","ahead","now","many","left","behind"] ["high","low"] (defScope s_steps_of_heads):=⟨rfl,rfl,rfl,by decide +kernel,rfl,by decide +kernel,by decide +kernel⟩
theorem ok_steps_of_heads (F:Fun K "steps_of_heads" "steps_of_heads" s_steps_of_heads f fd) (C_HEAD:Cn mg "HEAD" 256):FnOk P w K mg base CX0 1 f fd ["high","low"] spSteps:=by
  refine F.ok sc_steps_of_heads (fun vs H Q E h=>?_) (fun cdv A outer s H vs Q E hr h=>?_)
  · obtain ⟨m,n,rfl,_⟩:=h
    rfl
  obtain ⟨hd,ld,rfl,h0,h1,h2,k⟩:=h
  refine J.q ⟨_,(J.f (J.i (i:=2) sc_steps_of_heads.nd rfl (Or.inl rfl) (J.o (J.b J.c (J.b J.c J.d st_C) st_C)) (hs:=sw_T))
      (J.f (J.i (i:=3) sc_steps_of_heads.nd rfl (Or.inl rfl) (J.o (J.b J.c (J.b J.c J.d st_C) st_C)) (hs:=sw_T))
      (J.f (Jd.ps_while PassesOwn.never (J.j op_gt (Jd.pe_bits (J.a 1)) (J.g op_fdivB (Jd.pe_cn rfl C_HEAD) J.c) (nomark _))
      (J.f (J.i (i:=4) sc_steps_of_heads.nd rfl (Or.inl rfl) (J.g op_fdivB (J.a 0) (J.a 1)) (hs:=sw_B))
      (J.f (J.i (i:=5) sc_steps_of_heads.nd rfl (Or.inl rfl) (J.g op_sub (J.a 0) (J.g op_mulB (J.a 4) (J.a 1))) (hs:=sw_B))
      (J.f (J.i (i:=0) sc_steps_of_heads.nd rfl (Or.inl rfl) (J.a 1) (hs:=sw_N))
      (J.f (J.i (i:=1) sc_steps_of_heads.nd rfl (Or.inl rfl) (J.a 5) (hs:=sw_N))
      (J.f (J.i (i:=6) sc_steps_of_heads.nd rfl (Or.inl rfl) (J.o (J.b (J.g op_sub (J.e (ixT K) (J.a 2) J.c (fun _ _=>rfl)) (J.g op_mulB (J.a 4) (J.e (ixT K) (J.a 3) J.c (fun _ _=>rfl)))) (J.b (J.g op_sub (J.e (ixT K) (J.a 2) J.c (fun _ _=>rfl)) (J.g op_mulB (J.a 4) (J.e (ixT K) (J.a 3) J.c (fun _ _=>rfl)))) J.d st_B) st_B)) (hs:=sw_T))
      (J.f (J.i (i:=2) sc_steps_of_heads.nd rfl (Or.inl rfl) (J.a 3) (hs:=sw_N))
      (J.h (J.i (i:=3) sc_steps_of_heads.nd rfl (Or.inl rfl) (J.a 6) (hs:=sw_N))))))))))
      (J.h (J.l (J.g (catT K) (J.a 2) (J.a 3))))))),?_⟩
  walk_at "v"
  refine r_new (mk:=.tup) (by simp) fun pa Ha sa na ea=>?_
  walk_at "v"
  refine r_new (mk:=.tup) (by simp) fun pn Hn sn nn en=>?_
  walk_at "v"
  refine while_by (fun σ H'=>Same H H'∧∃(high low x0 y0 x1 y1:Int) (pa pn:Addr) (v4 v5 v6:Option V),σ=[some (.int high),some (.int low),some (.ref pa),some (.ref pn),v4,v5,v6] ∧
    H' pa=some (.tup [.int x0,.int y0])∧H' pn=some (.tup [.int x1,.int y1])∧Steps hd ld high low x0 y0 x1 y1) (fun σ _=>cellN 1 σ) ?_ ?_ ?_
  · exact ⟨sa.trans sn,hd,ld,1,0,0,1,pa,pn,none,none,none,rfl,sn _ _ ea,en,Steps.init h0 h1⟩
  · rintro σ H' ⟨sH,high,low,x0,y0,x1,y1,pa,pn,v4,v5,v6,rfl,ea,en,S⟩
    walk_at "v"
    refine r_I ⟨by decide,by decide⟩ ?_
    walk_at "v"
    refine ite2 (fun c=>?_) (fun c=>?_)
    · have c':=of_decide_eq_true c
      rw [show Int.fdiv 256 2=128 by decide] at c'
      have hlow:=heads_big c' S.l0
      have hq:=S.step hlow rfl
      have hH:hd.natAbs<2 ^ 256:=by
        have:(2:Nat) ^ 256=115792089237316195423570985008687907853269984665640564039457584007913129639936:=by decide
        walk_at "o"
      have zl:Sz 256 ld:=Sz.of_le (m:=256) (x:=hd) hH (by walk_at "o")
      have zh:Sz 256 high:=Sz.of_le (m:=256) (x:=hd) hH (by have:=S.high_le h1;have:=S.lh;have:=S.l0;walk_at "o")
      have nb:=S.now_le (by have:=S.lh;walk_at "o")
      have zx:Sz 256 x1:=Sz.of_le zl nb.1
      have zy:Sz 256 y1:=Sz.of_le (m:=256) (x:=hd) hH nb.2
      have zlo:Sz 256 low:=zh.of_le (by have:=S.lh;have:=S.l0;walk_at "o")
      have eq:high.fdiv low=high/low:=Int.fdiv_eq_ediv_of_nonneg _ S.l0
      have zq:Sz 256 (high/low):=zh.of_le (div_le (by have:=S.lh;have:=S.l0;walk_at "o") S.l0)
      walk_at "v"
      refine r_I ⟨by walk_at "o",zlo.log (by decide) (by decide)⟩ ?_
      rw [eq]
      walk_at "v"
      refine r_I (mulOk zq zlo) ?_
      walk_at "v"
      refine r_I (mulOk zq zx) ?_
      walk_at "v"
      refine r_I (mulOk zq zy) ?_
      walk_at "v"
      refine r_new (mk:=.tup) (by simp) fun pb Hb sb nb eb=>?_
      walk_at "v"
      refine ⟨⟨sH.trans sb,low,high-high/low*low,x1,y1,x0-high/low*x1,y0-high/low*y1,pn,pb,_,_,_,rfl,sb _ _ en,eb,hq⟩,?_⟩
      show (high-high/low*low).toNat<low.toNat
      have e:=Int.mul_ediv_add_emod high low
      rw [Int.mul_comm] at e
      have:=Int.emod_lt_of_pos high (b:=low) (by walk_at "o")
      walk_at "o"
    · have c':=of_decide_eq_false (Bool.eq_false_iff.mpr c)
      rw [show Int.fdiv 256 2=128 by decide] at c'
      have hlow:=heads_small c'
      walk_at "v"
      refine r_catT ea en ?_
      refine r_new (mk:=.tup) (by simp) fun pb Hb sb nb eb=>?_
      exact k pb x0 y0 x1 y1 high low Hb (sH.trans sb) eb S (by walk_at "o")
  · intro σ H Q Q' h q
    obtain ⟨v,e,a1,a2,i,a3,m,n,e1,e2,hc,m',n',e3,e4,b,e5,q⟩:=q
    exact ⟨v,e,a1,a2,i,a3,m,n,e1,e2,hc,m',n',e3,e4,b,e5,h _ _ q⟩
theorem sc_divisor:FnScope ["one","other","found","rest","tail","steps","ahead","now"] ["one","other"] (defScope s_divisor):=⟨rfl,rfl,rfl,by decide +kernel,rfl,by decide +kernel,by decide +kernel⟩
theorem ok_divisor (F:Fun K "divisor" "divisor" s_divisor f fd) (T:Txt mg) (C_HEAD:Cn mg "HEAD" 256) (D_plain_divisor:Dn P w K mg base 1 "plain_divisor" ["one","other"] spPlain) (D_steps_of_heads:Dn P w K mg base 1 "steps_of_heads" ["high","low"] spSteps) :
    FnOk P w K mg base CX0 2 f fd ["one","other"] spDivisor:=by
  refine F.ok sc_divisor (fun vs H Q E h=>?_) (fun cdv A outer s H vs Q E hr h=>?_)
  · obtain ⟨m,n,rfl,_⟩:=h
    rfl
  obtain ⟨m,n,rfl,zm,zn,k⟩:=h
  refine J.q ⟨_,(J.f (J.i (i:=2) sc_divisor.nd rfl (Or.inl rfl) (J.p (maxC rfl) rfl T.max_ PyProof.Rows.boot_max (J.b (J.p absC rfl T.abs_ PyProof.Rows.boot_abs (J.b (J.a 0) J.d st_N) (he:=st_N) (hpl:=any0)) (J.b (J.p absC rfl T.abs_ PyProof.Rows.boot_abs (J.b (J.a 1) J.d st_N) (he:=st_N) (hpl:=any0)) J.d st_K) st_K) (he:=st_K) (hpl:=(anyc st_K any0))) (hs:=sw_K))
      (J.f (J.i (i:=3) sc_divisor.nd rfl (Or.inl rfl) (J.p (minC rfl) rfl T.min_ PyProof.Rows.boot_min (J.b (J.p absC rfl T.abs_ PyProof.Rows.boot_abs (J.b (J.a 0) J.d st_N) (he:=st_N) (hpl:=any0)) (J.b (J.p absC rfl T.abs_ PyProof.Rows.boot_abs (J.b (J.a 1) J.d st_N) (he:=st_N) (hpl:=any0)) J.d st_K) st_K) (he:=st_K) (hpl:=(anyc st_K any0))) (hs:=sw_K))
      (J.f (Jd.ps_while PassesOwn.never (J.j op_gt (Jd.pe_bits (J.a 3)) (Jd.pe_cn rfl C_HEAD) (nomark _))
      (J.f (J.i (i:=4) sc_divisor.nd rfl (Or.inl rfl) (J.g op_sub (Jd.pe_bits (J.a 2)) (Jd.pe_cn rfl C_HEAD)) (hs:=sw_B))
      (J.f (J.i (i:=5) sc_divisor.nd rfl (Or.inl rfl) (J.k D_steps_of_heads (hr.mono (by decide)) rfl (J.b (J.g op_shr (J.a 2) (J.a 4)) (J.b (J.g op_shr (J.a 3) (J.a 4)) J.d st_B) st_B) (he:=st_B) (hpl:=(anyc st_B any0))) (hs:=sw_K))
      (J.f (J.m (J.j op_eq (J.e (ixT K) (J.a 5) J.c (fun _ _=>rfl)) J.c (nomark _))
      (J.h (J.i (i:=5) sc_divisor.nd rfl (Or.inl rfl) (J.o (J.b J.c (J.b J.c (J.b J.c (J.b (J.ag un_neg (J.g op_fdivB (J.a 2) (J.a 3))) J.d st_U) st_C) st_C) st_C)) (hs:=sw_T)))
      J.n)
      (J.f (J.i (i:=6) sc_divisor.nd rfl (Or.inl rfl) (J.p absC rfl T.abs_ PyProof.Rows.boot_abs (J.b (J.g op_add (J.g op_mulB (J.e (ixT K) (J.a 5) J.c (fun _ _=>rfl)) (J.a 2)) (J.g op_mulB (J.e (ixT K) (J.a 5) J.c (fun _ _=>rfl)) (J.a 3))) J.d st_B) (he:=st_B) (hpl:=any0)) (hs:=sw_K))
      (J.f (J.i (i:=7) sc_divisor.nd rfl (Or.inl rfl) (J.p absC rfl T.abs_ PyProof.Rows.boot_abs (J.b (J.g op_add (J.g op_mulB (J.e (ixT K) (J.a 5) J.c (fun _ _=>rfl)) (J.a 2)) (J.g op_mulB (J.e (ixT K) (J.a 5) J.c (fun _ _=>rfl)) (J.a 3))) J.d st_B) (he:=st_B) (hpl:=any0)) (hs:=sw_K))
      (J.f (J.i (i:=2) sc_divisor.nd rfl (Or.inl rfl) (J.p (maxC rfl) rfl T.max_ PyProof.Rows.boot_max (J.b (J.a 6) (J.b (J.a 7) J.d st_N) st_N) (he:=st_N) (hpl:=(anyc st_N any0))) (hs:=sw_K))
      (J.h (J.i (i:=3) sc_divisor.nd rfl (Or.inl rfl) (J.p (minC rfl) rfl T.min_ PyProof.Rows.boot_min (J.b (J.a 6) (J.b (J.a 7) J.d st_N) st_N) (he:=st_N) (hpl:=(anyc st_N any0))) (hs:=sw_K))))))))))
      (J.h (J.l (J.k D_plain_divisor (hr.mono (by decide)) rfl (J.b (J.a 2) (J.b (J.a 3) J.d st_N) st_N) (he:=st_N) (hpl:=(anyc st_N any0)))))))),?_⟩
  walk_at "v"
  rw [abs_cast,abs_cast]
  refine while_by (fun σ H'=>Same H H'∧∃(x y:Int) (v4 v5 v6 v7:Option V),σ=[some (.int m),some (.int n),some (.int x),some (.int y),v4,v5,v6,v7] ∧
    0≤y∧y≤x∧Int.gcd x y=Int.gcd m n∧Sz 8001 (x+y)) (fun σ _=>cellN 2 σ+cellN 3 σ) ?_ ?_ ?_
  · refine ⟨Same.refl _,_,_,none,none,none,none,rfl,?_,?_,(gcd_maxmin rfl rfl).trans ?_,?_⟩
    · exact mm_nn _ _
    · exact mm_le _ _
    · rfl
    · have z:=(zm.of_le (y:=(m.natAbs:Int)) (by simp)).add (zn.of_le (y:=(n.natAbs:Int)) (by simp))
      exact z.of_le (mm_sum (by walk_at "o"))
  · rintro σ H' ⟨sH,x,y,v4,v5,v6,v7,rfl,y0,yx,hg,zs⟩
    have zx:Sz 8001 x:=zs.of_le (by walk_at "o")
    have zy:Sz 8001 y:=zs.of_le (by walk_at "o")
    walk_at "v"
    refine ite2 (fun c=>?_) (fun c=>?_)
    · have c':=of_decide_eq_true c
      obtain ⟨t,ht,lo,hi⟩:=heads_tail c' y0 yx
      have tp:(0:Int)<2 ^ t:=Int.pow_pos (by decide)
      have hd:=head_of lo hi
      have ypos:1≤y:=by
        have:(256:Int)<(Builtin.Int.intBits y:Nat):=c'
        by_cases e:y=0
        · subst e;simp [Builtin.Int.intBits] at this
        · walk_at "o"
      walk_at "v"
      refine r_I (show (0:Int)≤_ by walk_at "o") ?_
      walk_at "v"
      refine r_I (show (0:Int)≤_ by walk_at "o") ?_
      walk_at "v"
      rw [show ((Builtin.Int.intBits x:Nat)-256:Int).toNat=t by walk_at "o"]
      refine ⟨x/2 ^ t,y/2 ^ t,rfl,Int.ediv_nonneg y0 (by walk_at "o"),Int.ediv_le_ediv tp yx,hd.2,fun ps x0 y0' x1 y1 high low H1 s1 e1 S hl=>?_⟩
      walk_at "v"
      refine ite2 (fun c2=>?_) (fun c2=>?_)
      · have c3:y0'=0:=of_decide_eq_true c2
        have zq:Sz 8001 (x.fdiv y):=by
          rw [Int.fdiv_eq_ediv_of_nonneg _ y0]
          exact zx.of_le (div_le (by walk_at "o") y0)
        walk_at "v"
        refine r_I ⟨by walk_at "o",zy.log (by decide) (by decide)⟩ ?_
        walk_at "v"
        refine r_new (mk:=.tup) (by simp) fun p2 H2 s2 n2 e2=>?_
        have sH2:=(sH.trans s1).trans s2
        have za:Sz 8001 (0:Int):=by decide
        have zb:Sz 8001 (1:Int):=by decide
        have zc:Sz 8001 (1:Int):=zb
        have zd:Sz 8001 (-(x.fdiv y)):=zq.neg
        have gg:Int.gcd (0*x+1*y) (1*x+-(x.fdiv y)*y)=Int.gcd x y:=gcd_mix (.inr (by walk_at "o"))
        have ls:=fd_less ypos yx
        walk_at "v"
        refine r_I (mulOk zd zy) ?_
        walk_at "v"
        simp only [abs_cast]
        refine ⟨⟨sH2,_,_,_,_,_,_,rfl,?_,?_,(gcd_maxmin rfl rfl).trans (gg.trans hg),?_⟩,?_⟩
        · exact mm_nn _ _
        · exact mm_le _ _
        · exact zs.of_le (mm_sum (mm_xy ls y0 yx))
        · exact mm_to ls y0 yx
      · have c3:y0'≠0:=of_decide_eq_false (Bool.eq_false_iff.mpr c2)
        have sH2:=sH.trans s1
        have sm:=S.small c3 (Int.ediv_le_ediv tp yx) hd.2
        have k128:(340282366920938463463374607431768211456:Nat)<2 ^ 8001:=by decide +kernel
        have za:Sz 8001 x0:=Nat.lt_of_le_of_lt sm.1 k128
        have zb:Sz 8001 y0':=Nat.lt_of_le_of_lt sm.2.1 k128
        have zc:Sz 8001 x1:=Nat.lt_of_le_of_lt sm.2.2.1 k128
        have zd:Sz 8001 y1:=Nat.lt_of_le_of_lt sm.2.2.2 k128
        have gg:Int.gcd (x0*x+y0'*y) (x1*x+y1*y)=Int.gcd x y:=S.gcd
        have ls:=heads_less S c3 yx lo hi rfl rfl hl
        walk_at "v"
        refine r_I (mulOk za zx) ?_
        walk_at "v"
        refine r_I (mulOk zb zy) ?_
        walk_at "v"
        refine r_I (mulOk zc zx) ?_
        walk_at "v"
        refine r_I (mulOk zd zy) ?_
        walk_at "v"
        simp only [abs_cast]
        refine ⟨⟨sH2,_,_,_,_,_,_,rfl,?_,?_,(gcd_maxmin rfl rfl).trans (gg.trans hg),?_⟩,?_⟩
        · exact mm_nn _ _
        · exact mm_le _ _
        · exact zs.of_le (mm_sum (mm_xy ls y0 yx))
        · exact mm_to ls y0 yx
    · walk_at "v"
      refine ⟨x,y,rfl,by walk_at "o",y0,?_⟩
      rw [hg]
      exact k H' sH
  · intro σ H Q Q' h q
    obtain ⟨v,e,a1,a2,i,a3,m',n',e3,e4,b,e5,q⟩:=q
    exact ⟨v,e,a1,a2,i,a3,m',n',e3,e4,b,e5,h _ _ q⟩
theorem sc_ratio:FnScope ["top","bottom","shared"] ["top","bottom"] (defScope s_ratio):=⟨rfl,rfl,rfl,by decide +kernel,rfl,by decide +kernel,by decide +kernel⟩
theorem low_ratio {t b:Int} (hb:b≠0):Low t b (t.fdiv (if b<0 then -(Int.gcd t b:Int) else (Int.gcd t b:Int))) (b.fdiv (if b<0 then -(Int.gcd t b:Int) else (Int.gcd t b:Int))):=by
  by_cases h:b<0
  · rw [if_pos h]
    have l:=low_neg (t:=t) h
    exact ⟨l.pos,l.co,by have:=l.eq;rw [Int.mul_neg,Int.neg_mul] at this;walk_at "o",by rw [← Int.natAbs_neg t];exact l.tb,by rw [← Int.natAbs_neg b];exact l.bb⟩
  · rw [if_neg h]
    exact low_pos (by walk_at "o")
theorem ok_ratio (F:Fun K "ratio" "ratio" s_ratio f fd) (T:Txt mg) (D_divisor:Dn P w K mg base 2 "divisor" ["one","other"] spDivisor):FnOk P w K mg base CX0 3 f fd ["top","bottom"] spRatioP:=by
  refine F.ok sc_ratio (fun vs H Q E h=>?_) (fun cdv A outer s H vs Q E hr h=>?_)
  · obtain ⟨t,b,rfl,_⟩:=h
    rfl
  obtain ⟨t,b,rfl,hb,hzt,hz,k⟩:=h
  refine J.q ⟨_,(J.f (J.m (J.j op_eq (J.a 1) J.c (nomark _))
      (J.h Jd.ps_never)
      J.n)
      (J.f (J.i (i:=2) sc_ratio.nd rfl (Or.inl rfl) (J.k D_divisor (hr.mono (by decide)) rfl (J.b (J.a 0) (J.b (J.a 1) J.d st_N) st_N) (he:=st_N) (hpl:=(anyc st_N any0))) (hs:=sw_K))
      (J.f (J.m (J.j op_lt (J.a 1) J.c (nomark _))
      (J.h (J.i (i:=2) sc_ratio.nd rfl (Or.inl rfl) (J.ag un_neg (J.a 2)) (hs:=sw_U)))
      J.n)
      (J.h (J.l (J.o (J.b (J.g op_fdivB (J.a 0) (J.a 2)) (J.b (J.g op_fdivB (J.a 1) (J.a 2)) J.d st_B) st_B))))))),?_⟩
  walk_at "v"
  rw [decide_eq_false hb]
  refine iteF ?_
  walk_at "v"
  refine ⟨t,b,rfl,hzt,hz,fun H0 s0=>?_⟩
  have gp:0<Int.gcd t b:=Int.gcd_pos_of_ne_zero_right t hb
  have hgb:Int.gcd t b≤b.natAbs:=Nat.le_of_dvd (by walk_at "o") (Nat.gcd_dvd_right _ _)
  have cd:∀x:Int,CDivB x (if b<0 then -(Int.gcd t b:Int) else (Int.gcd t b:Int)):=fun x=>by
    refine ⟨by split <;> walk_at "o",Sz.log (m:=8000) (Sz.of_le hz ?_) (by decide) (by decide)⟩
    split <;> walk_at "o"
  have lo:=low_ratio (t:=t) hb
  walk_at "v"
  refine ite2 (fun c=>?_) (fun c=>?_)
  · have c':=of_decide_eq_true c
    rw [if_pos c'] at lo
    simp only [if_pos c'] at cd
    walk_at "v"
    refine r_I (cd t) ?_
    walk_at "v"
    refine r_I (cd b) ?_
    walk_at "v"
    refine r_new (mk:=.tup) (by simp) fun p H1 s1 n1 e1=>?_
    exact k p _ _ H1 (s0.trans s1) e1 lo
  · have c':=of_decide_eq_false (Bool.eq_false_iff.mpr c)
    rw [if_neg c'] at lo
    simp only [if_neg c'] at cd
    walk_at "v"
    refine r_I (cd t) ?_
    walk_at "v"
    refine r_I (cd b) ?_
    walk_at "v"
    refine r_new (mk:=.tup) (by simp) fun p H1 s1 n1 e1=>?_
    exact k p _ _ H1 (s0.trans s1) e1 lo
theorem sc_reduced:FnScope ["quotient"] ["quotient"] (defScope s_reduced):=⟨rfl,rfl,rfl,by decide +kernel,rfl,by decide +kernel,by decide +kernel⟩
theorem ok_reduced (F:Fun K "reduced" "reduced" s_reduced f fd) (D_ratio:Dn P w K mg base 3 "ratio" ["top","bottom"] spRatioP):FnOk P w K mg base CX0 4 f fd ["quotient"] spReduced:=by
  refine F.ok sc_reduced (fun vs H Q E h=>?_) (fun cdv A outer s H vs Q E hr h=>?_)
  · obtain ⟨p,q,n,rfl,_⟩:=h
    rfl
  obtain ⟨p,q,n,rfl,⟨t,b,hp,hq,zt,zb⟩,hn,k⟩:=h
  refine J.q ⟨_,(J.h (J.l (J.k D_ratio (hr.mono (by decide)) rfl (J.b (J.e (ixT K) (J.a 0) J.c (fun _ _=>rfl)) (J.b (J.e (ixT K) (J.a 0) J.c (fun _ _=>rfl)) J.d st_S) st_S) (he:=st_S) (hpl:=(anyc st_S any0))))),?_⟩
  have hb:=hq.pos
  walk_at "v"
  refine ⟨t,b,rfl,by walk_at "o",zt.mono hn,zb.mono hn,fun r t' b' H1 s1 e1 lo=>?_⟩
  exact k r H1 s1 ⟨t',b',e1,Fr.of_low lo (by walk_at "o") hq.eq,zt.of_le lo.tb,zb.of_le lo.bb⟩
theorem sc_loose_plus:FnScope ["one","other"] ["one","other"] (defScope s_loose_plus):=⟨rfl,rfl,rfl,by decide +kernel,rfl,by decide +kernel,by decide +kernel⟩
theorem ok_loose_plus (F:Fun K "loose_plus" "loose_plus" s_loose_plus f fd):FnOk P w K mg base CX0 1 f fd ["one","other"] (spTwo (·+·) 1):=by
  refine F.ok sc_loose_plus (fun vs H Q E h=>?_) (fun cdv A outer s H vs Q E hr h=>?_)
  · obtain ⟨p,r,q,q',m,n,rfl,_⟩:=h
    rfl
  obtain ⟨p,r,q,q',m,n,rfl,⟨a,b,hp,hq,za,zb⟩,⟨c,d,hr',hq',zc,zd⟩,hn,k⟩:=h
  refine J.q ⟨_,(J.h (J.l (J.o (J.b (J.g op_add (J.g op_mulB (J.e (ixT K) (J.a 0) J.c (fun _ _=>rfl)) (J.e (ixT K) (J.a 1) J.c (fun _ _=>rfl))) (J.g op_mulB (J.e (ixT K) (J.a 1) J.c (fun _ _=>rfl)) (J.e (ixT K) (J.a 0) J.c (fun _ _=>rfl)))) (J.b (J.g op_mulB (J.e (ixT K) (J.a 0) J.c (fun _ _=>rfl)) (J.e (ixT K) (J.a 1) J.c (fun _ _=>rfl))) J.d st_B) st_B)))),?_⟩
  walk_at "v"
  refine r_I (mulOk za zd (by walk_at "o")) ?_
  walk_at "v"
  refine r_I (mulOk zc zb (by walk_at "o")) ?_
  walk_at "v"
  refine r_I (mulOk zb zd (by walk_at "o")) ?_
  walk_at "v"
  refine r_new (mk:=.tup) (by simp) fun x H1 s1 n1 e1=>?_
  exact k x H1 s1 ⟨_,_,e1,hq.plus hq',(za.mul zd).add ((zc.mul zb).mono (by walk_at "o")),(zb.mul zd).mono (by walk_at "o")⟩
theorem sc_loose_minus:FnScope ["one","other"] ["one","other"] (defScope s_loose_minus):=⟨rfl,rfl,rfl,by decide +kernel,rfl,by decide +kernel,by decide +kernel⟩
theorem ok_loose_minus (F:Fun K "loose_minus" "loose_minus" s_loose_minus f fd):FnOk P w K mg base CX0 1 f fd ["one","other"] (spTwo (·-·) 1):=by
  refine F.ok sc_loose_minus (fun vs H Q E h=>?_) (fun cdv A outer s H vs Q E hr h=>?_)
  · obtain ⟨p,r,q,q',m,n,rfl,_⟩:=h
    rfl
  obtain ⟨p,r,q,q',m,n,rfl,⟨a,b,hp,hq,za,zb⟩,⟨c,d,hr',hq',zc,zd⟩,hn,k⟩:=h
  refine J.q ⟨_,(J.h (J.l (J.o (J.b (J.g op_sub (J.g op_mulB (J.e (ixT K) (J.a 0) J.c (fun _ _=>rfl)) (J.e (ixT K) (J.a 1) J.c (fun _ _=>rfl))) (J.g op_mulB (J.e (ixT K) (J.a 1) J.c (fun _ _=>rfl)) (J.e (ixT K) (J.a 0) J.c (fun _ _=>rfl)))) (J.b (J.g op_mulB (J.e (ixT K) (J.a 0) J.c (fun _ _=>rfl)) (J.e (ixT K) (J.a 1) J.c (fun _ _=>rfl))) J.d st_B) st_B)))),?_⟩
  walk_at "v"
  refine r_I (mulOk za zd (by walk_at "o")) ?_
  walk_at "v"
  refine r_I (mulOk zc zb (by walk_at "o")) ?_
  walk_at "v"
  refine r_I (mulOk zb zd (by walk_at "o")) ?_
  walk_at "v"
  refine r_new (mk:=.tup) (by simp) fun x H1 s1 n1 e1=>?_
  exact k x H1 s1 ⟨_,_,e1,hq.minus hq',(za.mul zd).sub ((zc.mul zb).mono (by walk_at "o")),(zb.mul zd).mono (by walk_at "o")⟩
theorem sc_loose_times:FnScope ["one","other"] ["one","other"] (defScope s_loose_times):=⟨rfl,rfl,rfl,by decide +kernel,rfl,by decide +kernel,by decide +kernel⟩
theorem ok_loose_times (F:Fun K "loose_times" "loose_times" s_loose_times f fd):FnOk P w K mg base CX0 1 f fd ["one","other"] (spTwo (·*·) 0):=by
  refine F.ok sc_loose_times (fun vs H Q E h=>?_) (fun cdv A outer s H vs Q E hr h=>?_)
  · obtain ⟨p,r,q,q',m,n,rfl,_⟩:=h
    rfl
  obtain ⟨p,r,q,q',m,n,rfl,⟨a,b,hp,hq,za,zb⟩,⟨c,d,hr',hq',zc,zd⟩,hn,k⟩:=h
  refine J.q ⟨_,(J.h (J.l (J.o (J.b (J.g op_mulB (J.e (ixT K) (J.a 0) J.c (fun _ _=>rfl)) (J.e (ixT K) (J.a 1) J.c (fun _ _=>rfl))) (J.b (J.g op_mulB (J.e (ixT K) (J.a 0) J.c (fun _ _=>rfl)) (J.e (ixT K) (J.a 1) J.c (fun _ _=>rfl))) J.d st_B) st_B)))),?_⟩
  walk_at "v"
  refine r_I (mulOk za zc (by walk_at "o")) ?_
  walk_at "v"
  refine r_I (mulOk zb zd (by walk_at "o")) ?_
  walk_at "v"
  refine r_new (mk:=.tup) (by simp) fun x H1 s1 n1 e1=>?_
  exact k x H1 s1 ⟨_,_,e1,hq.times hq',za.mul zc,zb.mul zd⟩
end

theorem fr_eqv {t b t' b':Int} {q q':Rat} (h:Fr t b q) (h':Fr t' b' q'):PyData.eqv (.tuple [.int t,.int b]) (.tuple [.int t',.int b'])=decide (q=q'):=by
  have e:PyData.eqv (.tuple [.int t,.int b]) (.tuple [.int t',.int b'])=(t==t'&&(b==b'&&true)):=rfl
  rw [e]
  by_cases hq:q=q'
  · subst hq
    obtain ⟨rfl,rfl⟩:=h.unique h'
    simp
  · rw [decide_eq_false hq]
    by_cases e1:t=t'
    · by_cases e2:b=b'
      · exact absurd (h.worth h' e1 e2) hq
      · simp [e2]
    · simp [e1]
section
variable {P:Program} {w:World} {K:PySem.W.Frag} {mg:Str→Option Value} {base:Heap} {f:Addr} {fd:FuncData}
end

noncomputable def spOrderQ:Sp:=fun vs H Q _=>∃(p r:Addr) (q q':Rat) (m n:Nat),vs=[.ref p,.ref r]∧QtAt H p q m∧QtAt H r q' n∧m+n≤100000∧∀o:Int,(0<o↔q'<q)→(o<0↔q<q')→Q (.int o) H
noncomputable def spSizeQ:Sp:=fun vs H Q _=>∃(p:Addr) (q:Rat) (n:Nat),vs=[.ref p]∧QtAt H p q n∧∀(r:Addr) (H':Hp),Same H H'→QtAt H' r (rabs q) n→Q (.ref r) H'
section
variable {P:Program} {w:World} {K:PySem.W.Frag} {mg:Str→Option Value} {base:Heap} {f:Addr} {fd:FuncData}
theorem sc_order:FnScope ["one","other","left","right"] ["one","other"] (defScope s_order):=⟨rfl,rfl,rfl,by decide +kernel,rfl,by decide +kernel,by decide +kernel⟩
theorem ok_order (F:Fun K "order" "order" s_order f fd):FnOk P w K mg base CX0 1 f fd ["one","other"] spOrderQ:=by
  refine F.ok sc_order (fun vs H Q E h=>?_) (fun cdv A outer s H vs Q E hr h=>?_)
  · obtain ⟨p,r,q,q',m,n,rfl,_⟩:=h
    rfl
  obtain ⟨p,r,q,q',m,n,rfl,⟨a,b,hp,hq,za,zb⟩,⟨c,d,hr',hq',zc,zd⟩,hn,k⟩:=h
  have l1:=hq.lt_iff hq'
  have l2:=hq'.lt_iff hq
  refine J.q ⟨_,(J.f (J.i (i:=2) sc_order.nd rfl (Or.inl rfl) (J.g op_mulB (J.e (ixT K) (J.a 0) J.c (fun _ _=>rfl)) (J.e (ixT K) (J.a 1) J.c (fun _ _=>rfl))) (hs:=sw_B))
      (J.f (J.i (i:=3) sc_order.nd rfl (Or.inl rfl) (J.g op_mulB (J.e (ixT K) (J.a 1) J.c (fun _ _=>rfl)) (J.e (ixT K) (J.a 0) J.c (fun _ _=>rfl))) (hs:=sw_B))
      (J.f (J.m (J.j op_lt (J.a 2) (J.a 3) (nomark _))
      (J.h (J.l (J.ag un_neg J.c)))
      J.n)
      (J.f (J.m (J.j op_gt (J.a 2) (J.a 3) (nomark _))
      (J.h (J.l J.c))
      J.n)
      (J.h (J.l J.c)))))),?_⟩
  walk_at "v"
  refine r_I (mulOk za zd (by walk_at "o")) ?_
  walk_at "v"
  refine r_I (mulOk zc zb (by walk_at "o")) ?_
  walk_at "v"
  refine ite2 (fun c1=>?_) (fun c1=>?_)
  · have c':=of_decide_eq_true c1
    walk_at "v"
    have x1:=l1.mp c'
    exact k _ ⟨fun z=>absurd z (by decide),fun z=>by grind⟩ ⟨fun _=>x1,fun _=>by decide⟩
  · have c':=of_decide_eq_false (Bool.eq_false_iff.mpr c1)
    walk_at "v"
    refine ite2 (fun c2=>?_) (fun c2=>?_)
    · have c'':=of_decide_eq_true c2
      walk_at "v"
      have x1:=l2.mp c''
      exact k _ ⟨fun _=>x1,fun _=>by decide⟩ ⟨fun z=>absurd z (by decide),fun z=>by grind⟩
    · have c'':=of_decide_eq_false (Bool.eq_false_iff.mpr c2)
      walk_at "v"
      exact k _ ⟨fun z=>absurd z (by decide),fun z=>absurd (l2.mpr z) c''⟩ ⟨fun z=>absurd z (by decide),fun z=>absurd (l1.mpr z) c'⟩
theorem sc_size:FnScope ["one"] ["one"] (defScope s_size):=⟨rfl,rfl,rfl,by decide +kernel,rfl,by decide +kernel,by decide +kernel⟩
theorem ok_size (F:Fun K "size" "size" s_size f fd) (T:Txt mg):FnOk P w K mg base CX0 1 f fd ["one"] spSizeQ:=by
  refine F.ok sc_size (fun vs H Q E h=>?_) (fun cdv A outer s H vs Q E hr h=>?_)
  · obtain ⟨p,q,n,rfl,_⟩:=h
    rfl
  obtain ⟨p,q,n,rfl,⟨a,b,hp,hq,za,zb⟩,k⟩:=h
  refine J.q ⟨_,(J.h (J.l (J.o (J.b (J.p absC rfl T.abs_ PyProof.Rows.boot_abs (J.b (J.e (ixT K) (J.a 0) J.c (fun _ _=>rfl)) J.d st_S) (he:=st_S) (hpl:=any0)) (J.b (J.e (ixT K) (J.a 0) J.c (fun _ _=>rfl)) J.d st_S) st_K)))),?_⟩
  walk_at "v"
  rw [abs_cast]
  refine r_new (mk:=.tup) (by simp) fun p1 H1 s1 n1 e1=>?_
  exact k p1 H1 s1 ⟨_,_,e1,hq.abs,za.of_le (by walk_at "o"),zb⟩
end
section
variable {P:Program} {w:World} {K:PySem.W.Frag} {mg:Str→Option Value} {base:Heap} {f:Addr} {fd:FuncData}
end

theorem pickP {zs:List Int} {i:Int} (P:Int→Prop) (hz:∀z∈zs,P z) (h0:0≤i) (h1:i<(zs.length:Int)):∃v:Int,atI (zs.map V.int) i=some (.int v)∧P v:=by
  have hk:i.toNat<zs.length:=by walk_at "o"
  exact ⟨zs[i.toNat],at_ints (List.getElem?_eq_getElem hk) (by walk_at "o"),hz _ (List.getElem_mem hk)⟩
theorem row_get {xs zs:List Int} (hlen:xs.length=zs.length) (hxs:∀(j:Nat) (x z:Int),xs[j]?=some x→zs[j]?=some z→0≤x∧x<z) (j:Nat) {z:Int} (ez:zs[j]?=some z):∃x,xs[j]?=some x∧0≤x∧x<z:=by
  have hj:=(List.getElem?_eq_some_iff.mp ez).1
  rw [← hlen] at hj
  exact ⟨xs[j],List.getElem?_eq_getElem hj,hxs j _ z (List.getElem?_eq_getElem hj) ez⟩
theorem of_low' {T B t b:Int} (h:Low T B t b) (hB:B≠0):Fr t b ((T:Rat)/(B:Rat)):=by
  refine Fr.of_low h hB ?_
  have:=cast_ne hB
  grind
theorem is_fr {H:Hp} {p:Addr} {q:Rat} {n:Nat} {Q:VK} (f:FrAt H p q n) (hn:n≤8000) (k:∀H',Same H H'→Q (.bl true) H'):spIs ([.ref p]++[]) H Q E0:=by
  obtain ⟨t,b,e,f,zt,zb⟩:=f
  refine ⟨p,t,b,rfl,e,zb.mono hn,fun r H' s hr=>?_⟩
  obtain rfl:r=true:=hr.mpr ⟨f.pos,f.co⟩
  exact k H' s
theorem r_unpack2 {σ:St} {H:Hp} {K:PySem.W.Frag} {p:Addr} {x y:V} {i j:Nat} {R:St→Hp→Prop} (h:H p=some (.tup [x,y])) (q:R ((σ.set i (some x)).set j (some y)) H):gTup K 2 (gCons (gName i) (gCons (gName j) gNil)) (.ref p) σ H R:=
  ⟨p,_,rfl,SqT.of h,rfl,x,_,rfl,y,_,rfl,rfl,q⟩

noncomputable abbrev En:=Addr×Int×Option Rat
noncomputable def EnAt (H:Hp) (x:En) (n:Nat):Prop:=Sz n x.2.1∧match x.2.2 with
  | none=>H x.1=some (.tup [.int x.2.1,.non])
  | some q=>∃p,H x.1=some (.tup [.int x.2.1,.ref p])∧FrAt H p q n
theorem EnAt.up {H H':Hp} {x:En} {n:Nat} (f:EnAt H x n) (s:Same H H'):EnAt H' x n:=by
  obtain ⟨a,m,v⟩:=x
  cases v with
  | none=>exact ⟨f.1,s _ _ f.2⟩
  | some q=>exact ⟨f.1,let ⟨p,e,g⟩:=f.2;⟨p,s _ _ e,g.up s⟩⟩
theorem EnAt.rm {H:Hp} {D:Addr} {x:En} {n:Nat} {ys:List V} (hD:H D=some (.lst ys)) (f:EnAt H x n):EnAt (rm D H) x n:=by
  obtain ⟨a,m,v⟩:=x
  cases v with
  | none=>exact ⟨f.1,rm_tup hD f.2⟩
  | some q=>
    obtain ⟨z,p,e,t,b,et,g⟩:=f
    exact ⟨z,p,rm_tup hD e,t,b,rm_tup hD et,g⟩
theorem EnAt.obj {H:Hp} {x:En} {n:Nat} (f:EnAt H x n):∃v,H x.1=some (.tup [.int x.2.1,v])∧(decide (v=.non)=!x.2.2.isSome)∧(v=.non∨∃p q,v=.ref p∧x.2.2=some q∧FrAt H p q n):=by
  obtain ⟨a,m,v⟩:=x
  cases v with
  | none=>exact ⟨.non,f.2,rfl,.inl rfl⟩
  | some q=>
    obtain ⟨z,p,e,g⟩:=f
    exact ⟨.ref p,e,rfl,.inr ⟨p,q,rfl,rfl,g⟩⟩
noncomputable def Row (H:Hp) (es:List En) (n:Nat):Prop:=∀x∈es,EnAt H x n
theorem Row.up {H H':Hp} {es:List En} {n:Nat} (h:Row H es n) (s:Same H H'):Row H' es n:=fun x hx=>(h x hx).up s
theorem Row.rm {H:Hp} {D:Addr} {es:List En} {n:Nat} {ys:List V} (hD:H D=some (.lst ys)) (h:Row H es n):Row (rm D H) es n:=fun x hx=>(h x hx).rm hD
theorem Row.snoc {H:Hp} {es:List En} {x:En} {n:Nat} (h:Row H es n) (hx:EnAt H x n):Row H (es++[x]) n:=fun y hy=>by
  rcases List.mem_append.mp hy with z | z
  · exact h y z
  · obtain rfl:y=x:=by simpa using z
    exact hx
noncomputable def vals (es:List En):List V:=es.map fun x=>V.ref x.1
theorem vals_at {es:List En} {i:Nat} {v:V} (h:(vals es)[i]?=some v):∃x,es[i]?=some x∧v=.ref x.1:=by
  unfold vals at h
  rw [List.getElem?_map] at h
  cases e:es[i]? with
  | none=>rw [e] at h;cases h
  | some x=>rw [e] at h;cases h;exact ⟨x,rfl,rfl⟩
theorem vals_get {es:List En} {i:Nat} {x:En} (h:es[i]?=some x):(vals es)[i]?=some (.ref x.1):=by
  unfold vals
  rw [List.getElem?_map,h]
  rfl
theorem vals_len (es:List En):(vals es).length=es.length:=List.length_map ..
theorem vals_snoc (es:List En) (x:En):vals es++[.ref x.1]=vals (es++[x]):=by simp [vals]
noncomputable def dat (v:Int×Option Rat):PyData:=.tuple [.int v.1,match v.2 with | none=>.none | some q=>.tuple [.int q.num,.int (q.den:Int)]]
theorem EnAt.den {H:Hp} {x:En} {n:Nat} (f:EnAt H x n):Den H (.ref x.1) (dat x.2):=by
  obtain ⟨a,m,v⟩:=x
  cases v with
  | none=>exact .tup f.2 (.cons (.int _) (.cons .non .nil))
  | some q=>
    obtain ⟨z,p,e,t,b,et,g,_⟩:=f
    obtain ⟨rfl,rfl⟩:=g.num_den
    exact .tup e (.cons (.int _) (.cons (.tup et (.cons (.int _) (.cons (.int _) .nil))) .nil))
theorem Row.dens {H:Hp}:∀{es:List En} {n:Nat},Row H es n→Dens H (vals es) (es.map fun x=>dat x.2)
  | [],_,_=>.nil
  | x::es,n,h=>.cons (h x List.mem_cons_self).den (Row.dens fun y hy=>h y (List.mem_cons_of_mem _ hy))
theorem dat_eqv (v:Int×Option Rat):PyData.eqv (dat v) (dat v)=true:=by
  obtain ⟨m,v⟩:=v
  cases v with
  | none=>
    show (m==m&&(true&&true))=true
    simp
  | some q=>
    show (m==m&&((q.num==q.num&&((q.den:Int)==(q.den:Int)&&true))&&true))=true
    simp
theorem dats_eqv:∀vs:List (Int×Option Rat),PyData.eqvAll (vs.map dat) (vs.map dat)=true
  | []=>rfl
  | v::vs=>by
    show (PyData.eqv (dat v) (dat v)&&PyData.eqvAll (vs.map dat) (vs.map dat))=true
    rw [dat_eqv,dats_eqv vs];rfl
theorem dat_shape:∀v:Int×Option Rat,(dat v).canLay0=true∧(dat v).depth≤3:=by
  intro ⟨m,v⟩
  cases v with
  | none=>exact ⟨by rfl,by show _≤_;simp [dat,PyData.depth,PyData.depthAll]⟩
  | some q=>exact ⟨by rfl,by show _≤_;simp [dat,PyData.depth,PyData.depthAll]⟩
theorem dats_shape:∀vs:List (Int×Option Rat),PyData.canLayAll0 (vs.map dat)=true∧PyData.depthAll (vs.map dat)≤3
  | []=>⟨rfl,by decide⟩
  | v::vs=>by
    obtain ⟨a,b⟩:=dat_shape v
    obtain ⟨c,d⟩:=dats_shape vs
    refine ⟨?_,?_⟩
    · show ((dat v).canLay0&&PyData.canLayAll0 (vs.map dat))=true
      rw [a,c];rfl
    · show max (dat v).depth (PyData.depthAll (vs.map dat))≤3
      walk_at "o"
theorem row_shaped (vs:List (Int×Option Rat)):SeqAt.shaped (.list (vs.map dat))=true:=by
  obtain ⟨a,b⟩:=dats_shape vs
  unfold SeqAt.shaped
  rw [Bool.and_eq_true]
  refine ⟨a,decide_eq_true ?_⟩
  show PyData.depthAll (vs.map dat)+1≤64
  walk_at "o"
theorem Row.list_den {H:Hp} {l:Addr} {es:List En} {n:Nat} (h:Row H es n) (hl:H l=some (.lst (vals es))):Den H (.ref l) (.list ((es.map (·.2)).map dat)):=by
  have:=h.dens
  rw [show (es.map fun x=>dat x.2)=(es.map (·.2)).map dat by rw [List.map_map];rfl] at this
  exact .lst hl this
theorem rows_ne {H:Hp} {l l':Addr} {es es':List En} {n n':Nat} {Q:VK} (h:Row H es n) (h':Row H es' n') (hl:H l=some (.lst (vals es))) (hl':H l'=some (.lst (vals es'))) (e:es.map (·.2)=es'.map (·.2)) (q:Q (.bl false) H) :
    rNeD (.ref l) (.ref l') H Q:=by
  refine ⟨_,_,h.list_den hl,h'.list_den hl',row_shaped _,row_shaped _,?_⟩
  rw [e]
  have:PyData.eqv (.list ((es'.map (·.2)).map dat)) (.list ((es'.map (·.2)).map dat))=true:=dats_eqv _
  rw [this]
  exact q
theorem Row.app {H:Hp} {R:Addr} {es:List En} {n:Nat} {ys:List V} {o:HO} (f:Row H es n) (h:H R=some (.lst ys)):Row (upd H R o) es n:=(f.rm h).up (rm_up R H o)
noncomputable def rising (es:List En):Prop:=es.Pairwise fun a b=>a.2.1<b.2.1
theorem frac_gen {T B:Int} {n:Nat} {H:Hp} {Q:VK} (hB:0<B) (zT:Sz n T) (zB:Sz n B) (hn:n≤8000) (kk:∀(p:Addr) (H':Hp),Same H H'→FrAt H' p ((T:Rat)/(B:Rat)) n→Q (.ref p) H'):spRatio ([.int T,.int B]++[]) H Q E0:=
  ⟨_,_,rfl,hB,zB.mono hn,fun p t b H' s e lo=>kk p H' s ⟨t,b,e,of_low' lo (by walk_at "o"),zT.of_le lo.tb,zB.of_le lo.bb⟩⟩
section
variable {P:Program} {w:World} {K:PySem.W.Frag} {mg:Str→Option Value} {base:Heap} {f:Addr} {fd:FuncData}
end

noncomputable def smp (x:En):Bool:=x.2.2.isSome
noncomputable abbrev Ls:=List (Addr×List En)
noncomputable def lrefs (ls:Ls):List V:=ls.map fun x=>V.ref x.1
theorem lrefs_at {ls:Ls} {i:Nat} {v:V} (h:(lrefs ls)[i]?=some v):∃x,ls[i]?=some x∧v=.ref x.1:=by
  unfold lrefs at h
  rw [List.getElem?_map] at h
  cases e:ls[i]? with
  | none=>rw [e] at h;cases h
  | some x=>rw [e] at h;cases h;exact ⟨x,rfl,rfl⟩
theorem lrefs_len (ls:Ls):(lrefs ls).length=ls.length:=List.length_map ..
structure LL (H H2:Hp) (T:Addr) (ls:Ls):Prop where
  new:H T=none
  at_:H2 T=some (.lst (lrefs ls))
  each:∀x∈ls,H x.1=none∧H2 x.1=some (.lst (vals x.2))∧x.1≠T
  nd:(ls.map (·.1)).Nodup
section
variable {H H2 H3:Hp} {T R:Addr} {ls:Ls} {o:HO} {rn:List En}
theorem LL.up (h:LL H H2 T ls) (s:Same H2 H3):LL H H3 T ls:=⟨h.new,s _ _ h.at_,fun x hx=>let ⟨a,b,c⟩:=h.each x hx;⟨a,s _ _ b,c⟩,h.nd⟩
theorem LL.other (h:LL H H2 T ls) (hT:R≠T) (hl:∀x∈ls,x.1≠R):LL H (upd H2 R o) T ls:=
  ⟨h.new,by rw [upd_ne (Ne.symm hT)];exact h.at_,fun x hx=>let ⟨a,b,c⟩:=h.each x hx;⟨a,by rw [upd_ne (hl x hx)];exact b,c⟩,h.nd⟩
theorem LL.push (h:LL H H2 T ls) (hR:H R=none) (eR:H2 R=some (.lst (vals rn))) (hT:R≠T) (hl:∀x∈ls,x.1≠R):LL H (upd H2 T (.lst (lrefs ls++[.ref R]))) T (ls++[(R,rn)]):=by
  refine ⟨h.new,by rw [upd_same];simp [lrefs],fun x hx=>?_,?_⟩
  · rcases List.mem_append.mp hx with z | z
    · obtain ⟨a,b,c⟩:=h.each x z
      exact ⟨a,by rw [upd_ne c];exact b,c⟩
    · obtain rfl:x=(R,rn):=by simpa using z
      exact ⟨hR,by rw [upd_ne hT];exact eR,hT⟩
  · rw [List.map_append]
    refine List.nodup_append.mpr ⟨h.nd,by simp,fun a ha b hb=>?_⟩
    obtain ⟨x,hx,rfl⟩:=List.mem_map.mp ha
    obtain rfl:b=R:=by simpa using hb
    exact hl x hx
end
theorem at_last {α:Type} {xs:List α} {x:α}:atI (xs++[x]) (-1)=some x:=by
  unfold atI
  rw [ix_last (m:=xs.length) (by simp)]
  simp
noncomputable def spRuns:Sp:=fun vs H Q _=>∃(l:Addr) (es:List En) (n:Nat),vs=[.ref l]∧H l=some (.lst (vals es))∧Row H es n∧es.length≤40 ∧
  ∀(T:Addr) (ls:Ls) (H':Hp),Same H H'→LL H H' T ls→ls.map (·.2)=parts smp es es.length→ls.length≤40→(∀x∈ls,x.2.length≤40)→Q (.ref T) H'
section
variable {P:Program} {w:World} {K:PySem.W.Frag} {mg:Str→Option Value} {base:Heap} {f:Addr} {fd:FuncData}
theorem sc_runs:FnScope ["row","told","run","entry"] ["row"] (defScope s_runs):=⟨rfl,rfl,rfl,by decide +kernel,rfl,by decide +kernel,by decide +kernel⟩
theorem ok_runs (F:Fun K "runs" "runs" s_runs f fd) (T:Txt mg):FnOk P w K mg base CX0 1 f fd ["row"] spRuns:=by
  refine F.ok sc_runs (fun vs H Q E h=>?_) (fun cdv A outer s H vs Q E hr h=>?_)
  · obtain ⟨l,es,n,rfl,_⟩:=h
    rfl
  obtain ⟨l,es,n,rfl,hl,hes,hn,k⟩:=h
  refine J.q ⟨_,(J.f (J.i (i:=1) sc_runs.nd rfl (Or.inl rfl) (J.s J.d) (hs:=sw_L))
      (J.f (J.i (i:=2) sc_runs.nd rfl (Or.inl rfl) (J.s J.d) (hs:=sw_L))
      (J.f (J.ae PassesOwn.never rfl (J.aa K (J.a 0)) (J.u (i:=3) sc_runs.nd rfl (Or.inl rfl))
      (J.h (J.m (J.j op_notN (J.e (ixT K) (J.a 3) J.c (fun _ _=>rfl)) J.w (nomark _))
      (J.h (J.y (J.ac K (J.a 2) (J.a 3)) (hs:=sw_K)))
      (J.h (J.m (J.j op_gt (J.p (lenC K) rfl T.len_ PySem.boot_len (J.b (J.a 2) J.d st_N) (he:=st_N) (hpl:=any0)) J.c (nomark _))
      (J.f (J.y (J.ac K (J.a 1) (J.a 2)) (hs:=sw_K))
      (J.h (J.i (i:=2) sc_runs.nd rfl (Or.inl rfl) (J.s J.d) (hs:=sw_L))))
      J.n)))))
      (J.f (J.m (J.j op_gt (J.p (lenC K) rfl T.len_ PySem.boot_len (J.b (J.a 2) J.d st_N) (he:=st_N) (hpl:=any0)) J.c (nomark _))
      (J.h (J.y (J.ac K (J.a 1) (J.a 2)) (hs:=sw_K)))
      J.n)
      (J.h (J.l (J.a 1))))))),?_⟩
  walk_at "v"
  refine r_new (mk:=.lst) (by simp) fun TT H1 s1 n1 e1=>?_
  walk_at "v"
  refine r_new (mk:=.lst) (by simp) fun R0 H2 s2 n2 e2=>?_
  walk_at "v"
  refine r_for (r_iL ?_)
  walk_at "v"
  have s02:=s1.trans s2
  refine ⟨l,rfl,⟨_,SqL.of (s02 _ _ hl)⟩,for_list (xs:=vals es) (fun i σ H3=>∃(R:Addr) (ls:Ls) (rn:List En) (v:Option V),σ=[some (.ref l),some (.ref TT),some (.ref R),v]∧Same H H3∧LL H H3 TT ls∧H R=none∧H3 R=some (.lst (vals rn))∧R≠TT∧(∀x∈ls,x.1≠R) ∧
    (inRun smp es i=true→parts smp es i=ls.map (·.2)++[rn]∧rn≠[])∧(inRun smp es i=false→parts smp es i=ls.map (·.2)∧rn=[])∧rn.length≤i∧ls.length≤i∧(∀x∈ls,x.2.length≤40)) ?_ ?_ ?_ ?_⟩
  · refine ⟨R0,[],[],none,rfl,s02,⟨n1,s2 _ _ e1,fun x hx=>absurd hx (by simp),List.nodup_nil⟩,s1.free n2,e2,fun z=>?_,fun x hx=>absurd hx (by simp),fun z=>absurd z (by simp [inRun]),fun _=>⟨rfl,rfl⟩,Nat.le_refl _,Nat.le_refl _,fun x hx=>absurd hx (by simp)⟩
    rw [z] at n2
    rw [e1] at n2
    cases n2
  · rintro i σ H3 _ ⟨R,ls,rn,v,rfl,s3,_⟩
    exact SqL.of (s3 _ _ hl)
  · rintro i x σ H3 hx ⟨R,ls,rn,v,rfl,s3,hL,hR,eR,nR,hne,hp1,hp2,lr,ll,lx⟩
    obtain ⟨e,he,rfl⟩:=vals_at hx
    have hi:i<es.length:=(List.getElem?_eq_some_iff.mp he).1
    obtain ⟨u,ee,du,_⟩:=((hes e (List.mem_of_getElem? he)).up s3).obj
    have hsu:inRun smp es (i+1)=smp e:=inRun_succ he
    walk_at "v"
    refine ⟨rfl,?_⟩
    walk_at "v"
    rw [du]
    cases hs:e.2.2.isSome with
    | true=>
      have hs':smp e=true:=hs
      refine iteT ?_
      walk_at "v"
      refine ⟨.inl ⟨rfl,_,SqL.of eR⟩,?_⟩
      walk_at "v"
      refine r_app eR (by rw [vals_len];exact small1000 (by walk_at "o")) ?_
      refine ⟨R,ls,rn++[e],_,rfl,same_at s3 hR,hL.other nR (fun x hx=>hne x hx),hR,by rw [upd_same,vals_snoc],nR,hne,fun _=>?_,fun z=>absurd (hsu.symm.trans z) (by rw [hs'];decide),by rw [List.length_append];exact Nat.succ_le_succ lr,by walk_at "o",lx⟩
      refine ⟨?_,by simp⟩
      cases hir:inRun smp es i with
      | true=>exact parts_on he hs' hir (hp1 hir).1
      | false=>
        obtain ⟨a,rfl⟩:=hp2 hir
        rw [parts_new he hs' hir,a]
        rfl
    | false=>
      have hs':smp e=false:=hs
      refine iteF ?_
      walk_at "v"
      refine r_len (.inl (SqL.of eR)) ?_
      walk_at "v"
      refine ite2 (fun c=>?_) (fun c=>?_)
      · have c':=of_decide_eq_true c
        rw [vals_len] at c'
        have hir:inRun smp es i=true:=by
          cases hir:inRun smp es i with
          | true=>rfl
          | false=>
            obtain ⟨_,rfl⟩:=hp2 hir
            simp at c'
        walk_at "v"
        refine ⟨.inl ⟨rfl,_,SqL.of hL.at_⟩,?_⟩
        walk_at "v"
        refine r_app hL.at_ (by rw [lrefs_len];exact small1000 (by walk_at "o")) ?_
        walk_at "v"
        have hL2:=hL.push hR eR nR hne
        refine r_new (mk:=.lst) (by simp) fun R2 H4 s4 n4 e4=>?_
        have sH:Same H H4:=(same_at s3 hL.new).trans s4
        walk_at "v"
        refine ⟨R2,ls++[(R,rn)],[],_,rfl,sH,hL2.up s4,(same_at s3 hL.new).free n4,e4,fun z=>?_,fun x hx z=>?_,fun z=>absurd (hsu.symm.trans z) (by rw [hs'];decide),fun _=>⟨?_,rfl⟩,Nat.zero_le _,by rw [List.length_append];exact Nat.succ_le_succ ll,fun x hx=>?_⟩
        · rw [z,hL2.at_] at n4
          cases n4
        · rw [← z,(hL2.each x hx).2.1] at n4
          cases n4
        · rw [parts_gap he hs',(hp1 hir).1,List.map_append]
          rfl
        · rcases List.mem_append.mp hx with z | z
          · exact lx x z
          · obtain rfl:x=(R,rn):=by simpa using z
            show rn.length≤40
            walk_at "o"
      · have c':=of_decide_eq_false (Bool.eq_false_iff.mpr c)
        rw [vals_len] at c'
        have hir:inRun smp es i=false:=by
          cases hir:inRun smp es i with
          | false=>rfl
          | true=>
            have:=List.length_pos_iff.mpr (hp1 hir).2
            walk_at "o"
        obtain ⟨a,rfl⟩:=hp2 hir
        walk_at "v"
        exact ⟨R,ls,[],_,rfl,s3,hL,hR,eR,nR,hne,fun z=>absurd (hsu.symm.trans z) (by rw [hs'];decide),fun _=>⟨by rw [parts_gap he hs',a],rfl⟩,Nat.zero_le _,by walk_at "o",lx⟩
  · rintro σ H3 ⟨R,ls,rn,v,rfl,s3,hL,hR,eR,nR,hne,hp1,hp2,lr,ll,lx⟩
    rw [vals_len] at hp1 hp2 lr ll
    walk_at "v"
    refine r_len (.inl (SqL.of eR)) ?_
    walk_at "v"
    refine ite2 (fun c=>?_) (fun c=>?_)
    · have c':=of_decide_eq_true c
      rw [vals_len] at c'
      have hir:inRun smp es es.length=true:=by
        cases hir:inRun smp es es.length with
        | true=>rfl
        | false=>
          obtain ⟨_,rfl⟩:=hp2 hir
          simp at c'
      have hlen:(ls++[(R,rn)]).length≤40:=by
        have e:=parts_len (s:=smp) (es:=es) es.length
        rw [(hp1 hir).1,List.length_append,List.length_map] at e
        rw [List.length_append]
        simp at e ⊢
        walk_at "o"
      walk_at "v"
      refine ⟨.inl ⟨rfl,_,SqL.of hL.at_⟩,?_⟩
      walk_at "v"
      refine r_app hL.at_ (by rw [lrefs_len];exact small1000 (by walk_at "o")) ?_
      walk_at "v"
      refine k TT (ls++[(R,rn)]) _ (same_at s3 hL.new) (hL.push hR eR nR hne) ?_ hlen fun x hx=>?_
      · rw [(hp1 hir).1,List.map_append]
        rfl
      · rcases List.mem_append.mp hx with z | z
        · exact lx x z
        · obtain rfl:x=(R,rn):=by simpa using z
          show rn.length≤40
          walk_at "o"
    · have c':=of_decide_eq_false (Bool.eq_false_iff.mpr c)
      rw [vals_len] at c'
      have hir:inRun smp es es.length=false:=by
        cases hir:inRun smp es es.length with
        | false=>rfl
        | true=>
          have:=List.length_pos_iff.mpr (hp1 hir).2
          walk_at "o"
      walk_at "v"
      exact k TT ls H3 s3 hL (hp2 hir).1.symm (by walk_at "o") lx
end

noncomputable abbrev Nn:=Addr×Int×Option Int
noncomputable def nnv:Option Int→V
  | none=>.non
  | some n=>.int n
noncomputable def NnAt (H:Hp) (x:Nn) (m n:Nat):Prop:=H x.1=some (.tup [.int x.2.1,nnv x.2.2])∧Sz m x.2.1∧∀z,x.2.2=some z→Sz n z
theorem NnAt.up {H H':Hp} {x:Nn} {m n:Nat} (f:NnAt H x m n) (s:Same H H'):NnAt H' x m n:=⟨s _ _ f.1,f.2⟩
theorem NnAt.rm {H:Hp} {D:Addr} {x:Nn} {m n:Nat} {ys:List V} (hD:H D=some (.lst ys)) (f:NnAt H x m n):NnAt (rm D H) x m n:=⟨rm_tup hD f.1,f.2⟩
noncomputable def NRow (H:Hp) (es:List Nn) (m n:Nat):Prop:=∀x∈es,NnAt H x m n
theorem NRow.up {H H':Hp} {es:List Nn} {m n:Nat} (h:NRow H es m n) (s:Same H H'):NRow H' es m n:=fun x hx=>(h x hx).up s
theorem NRow.app {H:Hp} {R:Addr} {es:List Nn} {m n:Nat} {ys:List V} {o:HO} (f:NRow H es m n) (h:H R=some (.lst ys)):NRow (upd H R o) es m n:=fun x hx=>((f x hx).rm h).up (rm_up R H o)
theorem NRow.snoc {H:Hp} {es:List Nn} {x:Nn} {m n:Nat} (h:NRow H es m n) (hx:NnAt H x m n):NRow H (es++[x]) m n:=fun y hy=>by
  rcases List.mem_append.mp hy with z | z
  · exact h y z
  · obtain rfl:y=x:=by simpa using z
    exact hx
noncomputable def nvals (es:List Nn):List V:=es.map fun x=>V.ref x.1
theorem nvals_len (es:List Nn):(nvals es).length=es.length:=List.length_map ..
theorem nvals_snoc (es:List Nn) (x:Nn):nvals es++[.ref x.1]=nvals (es++[x]):=by simp [nvals]
theorem nvals_at {es:List Nn} {i:Nat} {v:V} (h:(nvals es)[i]?=some v):∃x,es[i]?=some x∧v=.ref x.1:=by
  unfold nvals at h
  rw [List.getElem?_map] at h
  cases e:es[i]? with
  | none=>rw [e] at h;cases h
  | some x=>rw [e] at h;cases h;exact ⟨x,rfl,rfl⟩
noncomputable def nrising (es:List Nn):Prop:=es.Pairwise fun a b=>a.2.1<b.2.1
structure Shp (xs:List Int) (c:Nat):Prop where
  x0:xs[0]?=some (c:Int)
  x1:∃x,xs[1]?=some x∧0≤x∧x<4
  x4:∃x,xs[4]?=some x∧0≤x∧x<3
  x5:∃x,xs[5]?=some x∧0≤x∧x<4
  x12:∃x,xs[12]?=some x∧0≤x∧x<3
  each:∀k,k<c→∃x y z,xs[3*k+13]?=some x∧xs[3*k+14]?=some y∧xs[3*k+15]?=some z∧0≤x∧x<3∧0≤y∧y<9∧0≤z∧z<25
noncomputable def spShaped:Sp:=fun vs H Q _=>∃(lw tl:Addr) (xs:List Int) (c:Nat) (sc t0 t1:Int),vs=[.ref lw,.int sc,.ref tl]∧H lw=some (.lst (xs.map V.int))∧Shp xs c∧c≤40∧H tl=some (.tup [.int t0,.int t1])∧Sz 45 sc∧Sz 45 t0∧Sz 45 t1 ∧
  ∀(R:Addr) (es:List Nn) (H':Hp),Same H H'→H R=none→H' R=some (.lst (nvals es))→NRow H' es 45 100→es.length=c→nrising es→Q (.ref R) H'
section
variable {P:Program} {w:World} {K:PySem.W.Frag} {mg:Str→Option Value} {base:Heap} {f:Addr} {fd:FuncData}
theorem sc_law_shaped:FnScope ["_law_some","_law_scale","_law_tilt","_law_moment","_law_up","_law_rise","_law_row_here","_law_k","_law_at","_law_high","_law_lean"] ["_law_some","_law_scale","_law_tilt"] (defScope s_law_shaped):=⟨rfl,rfl,rfl,by decide +kernel,rfl,by decide +kernel,by decide +kernel⟩
theorem ok_law_shaped (F:Fun K "_law_shaped" "_law_shaped" s_law_shaped f fd) (T:Txt mg):FnOk P w K mg base CX0 1 f fd ["_law_some","_law_scale","_law_tilt"] spShaped:=by
  refine F.ok sc_law_shaped (fun vs H Q E h=>?_) (fun cdv A outer s H vs Q E hr h=>?_)
  · obtain ⟨lw,tl,xs,c,sc,t0,t1,rfl,_⟩:=h
    rfl
  obtain ⟨lw,tl,xs,c,sc,t0,t1,rfl,e0,S,hc,et,zsc,zt0,zt1,k⟩:=h
  obtain ⟨x1,g1,a1,b1⟩:=S.x1
  obtain ⟨x4,g4,a4,b4⟩:=S.x4
  obtain ⟨x5,g5,a5,b5⟩:=S.x5
  obtain ⟨x12,g12,a12,b12⟩:=S.x12
  have w:∀{H':Hp},Same H H'→H' lw=some (.lst (xs.map V.int)):=fun s=>s _ _ e0
  refine J.q ⟨_,(J.f (J.i (i:=3) sc_law_shaped.nd rfl (Or.inl rfl) (J.e (ixL K) (J.s (J.b (J.ag un_neg J.c) (J.b (J.ag un_neg J.c) (J.b J.c (J.b (J.ag un_neg (J.g op_pow J.c J.c)) J.d st_U) st_C) st_U) st_U)) (J.e (ixL K) (J.a 0) J.c (fun _ _=>rfl)) (fun _ _=>rfl)) (hs:=sw_S))
      (J.f (J.i (i:=4) sc_law_shaped.nd rfl (Or.inl rfl) J.c (hs:=sw_C))
      (J.f (J.i (i:=5) sc_law_shaped.nd rfl (Or.inl rfl) J.c (hs:=sw_C))
      (J.f (J.i (i:=6) sc_law_shaped.nd rfl (Or.inl rfl) (J.s J.d) (hs:=sw_L))
      (J.f (J.ae PassesOwn.never rfl (Jd.pi_range1 rfl T.range (J.b (J.e (ixL K) (J.a 0) J.c (fun _ _=>rfl)) J.d st_S)) (J.u (i:=7) sc_law_shaped.nd rfl (Or.inl rfl))
      (J.f (J.i (i:=8) sc_law_shaped.nd rfl (Or.inl rfl) (J.g op_add (J.g op_mulB J.c (J.a 7)) J.c) (hs:=sw_B))
      (J.f (J.i (i:=3) sc_law_shaped.nd rfl (Or.inl rfl) (J.g op_add (J.g op_add (J.a 3) J.c) (J.g op_mulB (J.e (ixL K) (J.a 0) (J.a 8) (fun _ _=>rfl)) (J.e (ixL K) (J.s (J.b J.c (J.b J.c (J.b J.c J.d st_C) st_C) st_C)) (J.e (ixL K) (J.a 0) J.c (fun _ _=>rfl)) (fun _ _=>rfl)))) (hs:=sw_B))
      (J.f (J.i (i:=9) sc_law_shaped.nd rfl (Or.inl rfl) (J.g op_sub (J.e (ixL K) (J.a 0) (J.g op_add (J.a 8) J.c) (fun _ _=>rfl)) J.c) (hs:=sw_B))
      (J.f (J.m (J.j op_eq (J.e (ixL K) (J.a 0) J.c (fun _ _=>rfl)) J.c (nomark _))
      (J.h (J.i (i:=4) sc_law_shaped.nd rfl (Or.inl rfl) (J.a 9) (hs:=sw_N)))
      J.n)
      (J.f (J.m (J.j op_eq (J.e (ixL K) (J.a 0) J.c (fun _ _=>rfl)) J.c (nomark _))
      (J.f (J.i (i:=5) sc_law_shaped.nd rfl (Or.inl rfl) (J.g op_sub (J.g op_add (J.a 5) (J.g op_mod (J.a 9) J.c)) J.c) (hs:=sw_B))
      (J.h (J.i (i:=4) sc_law_shaped.nd rfl (Or.inl rfl) (J.g op_add (J.a 4) (J.a 5)) (hs:=sw_B))))
      J.n)
      (J.f (J.m (J.j op_eq (J.e (ixL K) (J.a 0) J.c (fun _ _=>rfl)) J.c (nomark _))
      (J.h (J.i (i:=4) sc_law_shaped.nd rfl (Or.inl rfl) (J.g op_add (J.a 4) (J.a 9)) (hs:=sw_B)))
      J.n)
      (J.f (J.m (J.j op_eq (J.e (ixL K) (J.a 0) J.c (fun _ _=>rfl)) J.c (nomark _))
      (J.h (J.i (i:=4) sc_law_shaped.nd rfl (Or.inl rfl) (J.g op_mod (J.a 9) J.c) (hs:=sw_B)))
      J.n)
      (J.h (J.m (J.j op_lt (J.e (ixL K) (J.a 0) (J.g op_add (J.a 8) J.c) (fun _ _=>rfl)) (J.e (ixL K) (J.s (J.b J.c (J.b J.c (J.b J.c J.d st_C) st_C) st_C)) (J.e (ixL K) (J.a 0) J.c (fun _ _=>rfl)) (fun _ _=>rfl)) (nomark _))
      (J.h (J.y (J.ac K (J.a 6) (J.o (J.b (J.a 3) (J.b J.w J.d st_C) st_N))) (hs:=sw_K)))
      (J.f (J.i (i:=10) sc_law_shaped.nd rfl (Or.inl rfl) (J.g op_add (J.g op_mulB (J.e (ixT K) (J.a 2) J.c (fun _ _=>rfl)) (J.a 3)) (J.e (ixT K) (J.a 2) J.c (fun _ _=>rfl))) (hs:=sw_B))
      (J.h (J.y (J.ac K (J.a 6) (J.o (J.b (J.a 3) (J.b (J.g op_add (J.g op_mulB (J.a 4) (J.a 1)) (J.a 10)) J.d st_B) st_N))) (hs:=sw_K))))))))))))))
      (J.h (J.l (J.a 6)))))))),?_⟩
  walk_at "v"
  refine r_new (mk:=.lst) (by simp) fun l1 H1 s1 n1 e1=>?_
  walk_at "v"
  refine r_l (w s1) (at_ints g1 rfl) ?_
  obtain ⟨mo,emo,zmo⟩:=pickP (zs:=[-1,-5,1000003,-(10 ^ (12:Int).toNat)]) (fun z=>z.natAbs≤10 ^ 12) (by decide +kernel) a1 b1
  refine r_l e1 emo ?_
  walk_at "v"
  refine r_new (mk:=.lst) (by simp) fun R H2 s2 n2 e2=>?_
  have s02:=s1.trans s2
  walk_at "v"
  refine r_for (r_rng1 ?_)
  walk_at "v"
  refine r_l (w s02) (at_ints S.x0 rfl) ?_
  walk_at "v"
  refine ⟨c,rfl,by lia,by lia,for_range (fun j σ H3=>∃(m up rise:Int) (es:List Nn) (v7 v8 v9 v10:Option V),σ=[some (.ref lw),some (.int sc),some (.ref tl),some (.int m),some (.int up),some (.int rise),some (.ref R),v7,v8,v9,v10] ∧
    Same H1 H3∧H3 R=some (.lst (nvals es))∧NRow H3 es 45 100∧es.length=j∧m.natAbs≤10 ^ 12+3000*j∧rise.natAbs≤3*j∧up.natAbs≤130*j+12∧nrising es∧∀x∈es,x.2.1≤m) ?_ ?_ ?_⟩
  · exact ⟨mo,0,0,[],none,none,none,none,rfl,s2,e2,fun x hx=>absurd hx (by simp),rfl,by simpa using zmo,by decide,by decide,List.Pairwise.nil,fun x hx=>absurd hx (by simp)⟩
  · rintro j σ H3 hj ⟨m,up,rise,es,v7,v8,v9,v10,rfl,s3,e3,hes,hl,hm,hri,hup,hrs,hle⟩
    have hj':j<c:=by simpa using hj
    obtain ⟨x,y,z,gx,gy,gz,ax,bx,ay,by',az,bz⟩:=S.each j hj'
    have s13:=s1.trans s3
    have w3:=w s13
    walk_at "v"
    refine r_l w3 (at_ints gx (by walk_at "o")) ?_
    walk_at "v"
    refine r_new (mk:=.lst) (by simp) fun l4 H4 s4 n4 e4=>?_
    walk_at "v"
    refine r_l (s4 _ _ w3) (at_ints g4 rfl) ?_
    obtain ⟨wd,ewd,zwd⟩:=pickP (zs:=[1,1,1009]) (fun z=>1≤z∧z≤1009) (by decide +kernel) a4 b4
    refine r_l e4 ewd ?_
    walk_at "v"
    refine r_I (mulL (by walk_at "o") (by walk_at "o")) ?_
    have p5:0≤x*wd:=Int.mul_nonneg ax (by walk_at "o")
    have q5:x*wd≤2*1009:=Int.mul_le_mul (by walk_at "o") zwd.2 (by walk_at "o") (by walk_at "o")
    generalize x*wd=st at p5 q5 ⊢
    have ten:(10:Nat) ^ 12+3000*41<2 ^ 44:=by decide +kernel
    have bm:(m+1+st).natAbs≤10 ^ 12+3000*(j+1):=by
      rw [Int.add_assoc]
      exact nab hm (nabm p5 q5) (by lia)
    have zm:Sz 44 (m+1+st):=Nat.lt_of_le_of_lt bm (by lia)
    have w4:=s4 _ _ w3
    walk_at "v"
    refine r_l w4 (at_ints gz (by walk_at "o")) ?_
    have hj40:j<40:=by walk_at "o"
    have s14:=s3.trans s4
    -- the row's next entry
    have fin:∀(u:Nn) (H5:Hp) (up' rise':Int) (v7 v8 v9 v10:Option V),u.2.1=m+1+st→Same H4 H5→NnAt H5 u 45 100→rise'.natAbs≤3*(j+1)→up'.natAbs≤130*(j+1)+12 →
        ∃(m' up2 rise2:Int) (es':List Nn) (v7' v8' v9' v10':Option V),[some (.ref lw),some (.int sc),some (.ref tl),some (.int (m+1+st)),some (.int up'),some (.int rise'),some (.ref R),v7,v8,v9,v10]=[some (.ref lw),some (.int sc),some (.ref tl),some (.int m'),some (.int up2),some (.int rise2),some (.ref R),v7',v8',v9',v10'] ∧
          Same H1 (upd H5 R (.lst (nvals es++[.ref u.1])))∧upd H5 R (.lst (nvals es++[.ref u.1])) R=some (.lst (nvals es'))∧NRow (upd H5 R (.lst (nvals es++[.ref u.1]))) es' 45 100∧es'.length=j+1∧m'.natAbs≤10 ^ 12+3000*(j+1)∧rise2.natAbs≤3*(j+1)∧up2.natAbs≤130*(j+1)+12∧nrising es'∧∀x∈es',x.2.1≤m':=by
      intro u H5 up' rise' v7 v8 v9 v10 hu s5 f5 h1 h2
      have s35:=s4.trans s5
      have eR:=s35 _ _ e3
      refine ⟨m+1+st,up',rise',es++[u],v7,v8,v9,v10,rfl,same_at (s3.trans s35) n2,by rw [upd_same,nvals_snoc],((hes.up s35).snoc f5).app eR,by rw [List.length_append,hl];rfl,bm,h1,h2,?_,fun y hy=>?_⟩
      · refine List.pairwise_append.mpr ⟨hrs,List.pairwise_singleton _ _,fun y hy z hz=>?_⟩
        obtain rfl:z=u:=by simpa using hz
        have:=hle y hy
        walk_at "o"
      · rcases List.mem_append.mp hy with z | z
        · have:=hle y z
          walk_at "o"
        · obtain rfl:y=u:=by simpa using z
          walk_at "o"
    obtain ⟨th,eth,zth⟩:=pickP (zs:=[0,1,3]) (fun z=>0≤z) (by decide +kernel) a12 b12
    have et4:=(s13.trans s4) _ _ et
    have m5a:0≤(z-12) % 5:=Int.emod_nonneg _ (by decide)
    have m5b:(z-12) % 5<5:=Int.emod_lt_of_pos _ (by decide)
    have m3a:0≤(z-12) % 3:=Int.emod_nonneg _ (by decide)
    have m3b:(z-12) % 3<3:=Int.emod_lt_of_pos _ (by decide)
    refine r_c ?_
    refine r_I0 ?_
    refine r_g ?_
    refine nx_of ?_
    refine seq_cut4 (fun σ' H'=>H'=H4∧∃up' rise':Int,σ'=[some (.ref lw),some (.int sc),some (.ref tl),some (.int (m+1+st)),some (.int up'),some (.int rise'),some (.ref R),some (.int (0+(j:Int))),some (.int (3*(0+(j:Int))+13)),some (.int (z-12)),v10]∧rise'.natAbs≤3*(j+1)∧up'.natAbs≤130*(j+1)+12) (fun σ' H' hP=>?_) (fun N rest=>?_)
    rotate_left
    · walk_at "v"
      refine r_l w4 (at_ints g5 rfl) ?_
      walk_at "v"
      rcases (show x5=0∨x5=1∨x5=2∨x5=3 by walk_at "o") with rfl | rfl | rfl | rfl
      · refine iteT ?_
        walk_at "v"
        refine r_l w4 (at_ints g5 rfl) ?_
        walk_at "v"
        refine iteF ?_
        walk_at "v"
        refine r_l w4 (at_ints g5 rfl) ?_
        walk_at "v"
        refine iteF ?_
        walk_at "v"
        refine r_l w4 (at_ints g5 rfl) ?_
        walk_at "v"
        refine iteF ?_
        walk_at "v"
        exact rest _ _ ⟨rfl,_,_,rfl,Nat.le_trans hri (by lia),Nat.le_trans (nabz az bz) (by lia)⟩
      · refine iteF ?_
        walk_at "v"
        refine r_l w4 (at_ints g5 rfl) ?_
        walk_at "v"
        refine iteT ?_
        walk_at "v"
        refine r_l w4 (at_ints g5 rfl) ?_
        walk_at "v"
        refine iteF ?_
        walk_at "v"
        refine r_l w4 (at_ints g5 rfl) ?_
        walk_at "v"
        refine iteF ?_
        walk_at "v"
        have r1:(rise+(z-12) % 5-1).natAbs≤3*(j+1):=by
          rw [Int.add_sub_assoc]
          exact nab hri (nab5 m5a m5b) (by lia)
        exact rest _ _ ⟨rfl,_,_,rfl,r1,nab hup r1 (by lia)⟩
      · refine iteF ?_
        walk_at "v"
        refine r_l w4 (at_ints g5 rfl) ?_
        walk_at "v"
        refine iteF ?_
        walk_at "v"
        refine r_l w4 (at_ints g5 rfl) ?_
        walk_at "v"
        refine iteT ?_
        walk_at "v"
        refine r_l w4 (at_ints g5 rfl) ?_
        walk_at "v"
        refine iteF ?_
        walk_at "v"
        exact rest _ _ ⟨rfl,_,_,rfl,Nat.le_trans hri (by lia),nab hup (nabz az bz) (by lia)⟩
      · refine iteF ?_
        walk_at "v"
        refine r_l w4 (at_ints g5 rfl) ?_
        walk_at "v"
        refine iteF ?_
        walk_at "v"
        refine r_l w4 (at_ints g5 rfl) ?_
        walk_at "v"
        refine iteF ?_
        walk_at "v"
        refine r_l w4 (at_ints g5 rfl) ?_
        walk_at "v"
        refine iteT ?_
        walk_at "v"
        exact rest _ _ ⟨rfl,_,_,rfl,Nat.le_trans hri (by lia),Nat.le_trans (nab3 m3a m3b) (by lia)⟩
    obtain ⟨rfl,up',rise',rfl,br,bu⟩:=hP
    walk_at "v"
    refine r_l w4 (at_ints gy (by walk_at "o")) ?_
    walk_at "v"
    refine r_new (mk:=.lst) (by simp) fun l6 H6 s6 n6 e6=>?_
    walk_at "v"
    refine r_l (s6 _ _ w4) (at_ints g12 rfl) ?_
    refine r_l e6 eth ?_
    walk_at "v"
    have e36:=s6 _ _ (s4 _ _ e3)
    refine ite2 (fun c=>?_) (fun c=>?_)
    · walk_at "v"
      refine ⟨.inl ⟨rfl,_,SqL.of e36⟩,?_⟩
      walk_at "v"
      refine r_new (mk:=.tup) (by simp) fun pe H7 s7 n7 e7=>?_
      walk_at "v"
      refine r_app (s7 _ _ e36) (by rw [nvals_len];exact small1000 (by walk_at "o")) ?_
      exact fin (pe,m+1+st,none) H7 _ _ _ _ _ _ rfl (s6.trans s7) ⟨e7,zm.mono (by decide),fun z q=>by cases q⟩ br bu
    · have et6:=s6 _ _ et4
      walk_at "v"
      refine r_I (mulOk zt0 zm) ?_
      walk_at "v"
      refine ⟨.inl ⟨rfl,_,SqL.of e36⟩,?_⟩
      walk_at "v"
      have zu:Sz 14 up':=show up'.natAbs<2 ^ 14 by walk_at "o"
      refine r_I (mulOk zu zsc) ?_
      walk_at "v"
      refine r_new (mk:=.tup) (by simp) fun pe H7 s7 n7 e7=>?_
      walk_at "v"
      refine r_app (s7 _ _ e36) (by rw [nvals_len];exact small1000 (by walk_at "o")) ?_
      exact fin (pe,m+1+st,some _) H7 _ _ _ _ _ _ rfl (s6.trans s7) ⟨e7,zm.mono (by decide),fun z q=>by
        cases q
        exact (((zu.mul zsc).mono (show 14+45≤90 by decide)).add (((zt0.mul zm).mono (show 45+44≤89 by decide)).add (zt1.mono (by decide)))).mono (by decide)⟩ br bu
  · rintro σ H3 ⟨m,up,rise,es,v7,v8,v9,v10,rfl,s3,e3,hes,hl,hm,hri,hup,hrs,hle⟩
    walk_at "v"
    exact k R es H3 (s1.trans s3) (s1.free n2) e3 hes (by simpa using hl) hrs
noncomputable def spTimes:Sp:=fun vs H Q _=>∃(l:Addr) (es:List Nn) (b:Int) (n nb:Nat),vs=[.ref l,.int b]∧H l=some (.lst (nvals es))∧NRow H es 45 n∧es.length≤40∧Sz nb b∧n+nb≤8000 ∧
  ∀(R:Addr) (es':List Nn) (H':Hp),Same H H'→H R=none→H' R=some (.lst (nvals es'))→NRow H' es' 45 (n+nb)→es'.map (·.2)=es.map (fun x=>(x.2.1,x.2.2.map (·*b)))→Q (.ref R) H'
theorem sc_law_times:FnScope ["_law_row_here","_law_by","_law_some","_law_moment","_law_number"] ["_law_row_here","_law_by"] (defScope s_law_times):=⟨rfl,rfl,rfl,by decide +kernel,rfl,by decide +kernel,by decide +kernel⟩
theorem ok_law_times (F:Fun K "_law_times" "_law_times" s_law_times f fd):FnOk P w K mg base CX0 1 f fd ["_law_row_here","_law_by"] spTimes:=by
  refine F.ok sc_law_times (fun vs H Q E h=>?_) (fun cdv A outer s H vs Q E hr h=>?_)
  · obtain ⟨l,es,b,n,nb,rfl,_⟩:=h
    rfl
  obtain ⟨l,es,b,n,nb,rfl,hl,hes,h40,zb,hn,k⟩:=h
  refine J.q ⟨_,(J.f (J.i (i:=2) sc_law_times.nd rfl (Or.inl rfl) (J.s J.d) (hs:=sw_L))
      (J.f (J.ae PassesOwn.never rfl (J.aa K (J.a 0)) (Jd.pgT K (n:=2) rfl (J.aj (J.u (i:=3) sc_law_times.nd rfl (Or.inl rfl)) (J.aj (J.u (i:=4) sc_law_times.nd rfl (Or.inl rfl)) Jd.pgs_nil)))
      (J.h (J.m (J.j op_isN (J.a 4) J.w (nomark _))
      (J.h (J.y (J.ac K (J.a 2) (J.o (J.b (J.a 3) (J.b J.w J.d st_C) st_N))) (hs:=sw_K)))
      (J.h (J.y (J.ac K (J.a 2) (J.o (J.b (J.a 3) (J.b (J.g op_mulB (J.a 4) (J.a 1)) J.d st_B) st_N))) (hs:=sw_K))))))
      (J.h (J.l (J.a 2))))),?_⟩
  walk_at "v"
  refine r_new (mk:=.lst) (by simp) fun R H1 s1 n1 e1=>?_
  walk_at "v"
  refine r_for (r_iL ?_)
  walk_at "v"
  refine ⟨l,rfl,⟨_,SqL.of (s1 _ _ hl)⟩,for_list (xs:=nvals es) (fun i σ H3=>∃(es':List Nn) (v3 v4:Option V),σ=[some (.ref l),some (.int b),some (.ref R),v3,v4]∧Same H H3∧H3 R=some (.lst (nvals es'))∧NRow H3 es' 45 (n+nb)∧es'.length=i∧es'.map (·.2)=(es.take i).map (fun x=>(x.2.1,x.2.2.map (·*b)))) ?_ ?_ ?_ ?_⟩
  · exact ⟨[],none,none,rfl,s1,e1,fun x hx=>absurd hx (by simp),rfl,rfl⟩
  · rintro i σ H3 _ ⟨es',v3,v4,rfl,s3,_⟩
    exact SqL.of (s3 _ _ hl)
  · rintro i x σ H3 hx ⟨es',v3,v4,rfl,s3,e3,hes',hl',hmap⟩
    obtain ⟨e,he,rfl⟩:=nvals_at hx
    have hi:i<es.length:=(List.getElem?_eq_some_iff.mp he).1
    have fe:=(hes e (List.mem_of_getElem? he)).up s3
    have tk:es.take (i+1)=es.take i++[e]:=by rw [List.take_add_one,he];rfl
    have fin:∀(y:Addr) (H4:Hp) (v3 v4:Option V),Same H3 H4→NnAt H4 (y,e.2.1,e.2.2.map (·*b)) 45 (n+nb)→∃(es'':List Nn) (v3' v4':Option V),[some (.ref l),some (.int b),some (.ref R),v3,v4]=[some (.ref l),some (.int b),some (.ref R),v3',v4'] ∧
        Same H (upd H4 R (.lst (nvals es'++[.ref y])))∧upd H4 R (.lst (nvals es'++[.ref y])) R=some (.lst (nvals es''))∧NRow (upd H4 R (.lst (nvals es'++[.ref y]))) es'' 45 (n+nb)∧es''.length=i+1∧es''.map (·.2)=(es.take (i+1)).map (fun x=>(x.2.1,x.2.2.map (·*b))):=by
      intro y H4 v3 v4 s4 f4
      have e4:=s4 _ _ e3
      refine ⟨es'++[(y,e.2.1,e.2.2.map (·*b))],v3,v4,rfl,same_at (s3.trans s4) n1,by rw [upd_same];exact congrArg (fun z=>some (HO.lst z)) (nvals_snoc es' (y,e.2.1,e.2.2.map (·*b))),((hes'.up s4).snoc f4).app e4,by rw [List.length_append,hl'];rfl,?_⟩
      rw [tk,List.map_append,List.map_append,hmap]
      rfl
    obtain ⟨a,m,v⟩:=e
    cases v with
    | none=>
      refine r_unpack2 fe.1 ?_
      walk_at "v"
      refine ⟨rfl,?_⟩
      walk_at "v"
      refine iteT ?_
      walk_at "v"
      refine ⟨.inl ⟨rfl,_,SqL.of e3⟩,?_⟩
      walk_at "v"
      refine r_new (mk:=.tup) (by simp) fun y H4 s4 n4 e4=>?_
      walk_at "v"
      refine r_app (s4 _ _ e3) (by rw [nvals_len];exact small1000 (by walk_at "o")) ?_
      exact fin y H4 _ _ s4 ⟨e4,fe.2.1,fun z q=>by cases q⟩
    | some z=>
      have zz:=fe.2.2 z rfl
      refine r_unpack2 fe.1 ?_
      walk_at "v"
      refine ⟨rfl,?_⟩
      walk_at "v"
      refine iteF ?_
      walk_at "v"
      refine ⟨.inl ⟨rfl,_,SqL.of e3⟩,?_⟩
      walk_at "v"
      refine r_I (mulOk zz zb (by walk_at "o")) ?_
      walk_at "v"
      refine r_new (mk:=.tup) (by simp) fun y H4 s4 n4 e4=>?_
      walk_at "v"
      refine r_app (s4 _ _ e3) (by rw [nvals_len];exact small1000 (by walk_at "o")) ?_
      exact fin y H4 _ _ s4 ⟨e4,fe.2.1,fun z' q=>by
        cases q
        exact zz.mul zb⟩
  · rintro σ H3 ⟨es',v3,v4,rfl,s3,e3,hes',hl',hmap⟩
    rw [nvals_len,List.take_length] at hmap
    walk_at "v"
    exact k R es' H3 s3 n1 e3 hes' hmap
end

noncomputable def nsm (x:Nn):Bool:=x.2.2.isSome
theorem nvals_get {es:List Nn} {i:Nat} {x:Nn} (h:es[i]?=some x):(nvals es)[i]?=some (.ref x.1):=by
  unfold nvals
  rw [List.getElem?_map,h]
  rfl
theorem at_nval {es:List Nn} {i:Nat} {j:Int} {x:Nn} (h:es[i]?=some x) (hj:j=(i:Int)):atI (nvals es) j=some (.ref x.1):=by
  subst hj
  exact atI_nat (nvals_get h)
theorem at_nvals {es:List Nn} {i:Int} (h0:0≤i) (h1:i<(es.length:Int)):∃x,x∈es∧es[i.toNat]?=some x∧atI (nvals es) i=some (.ref x.1):=by
  have hk:i.toNat<es.length:=by walk_at "o"
  exact ⟨es[i.toNat],List.getElem_mem hk,List.getElem?_eq_getElem hk,at_nval (List.getElem?_eq_getElem hk) (by walk_at "o")⟩
theorem nrising_of {es es':List Nn} (h:es'.map (fun x=>x.2.1)=es.map (fun x=>x.2.1)) (hr:nrising es):nrising es':=by
  have k:(es.map fun x=>x.2.1).Pairwise (·<·):=List.pairwise_map.mpr hr
  rw [← h] at k
  exact List.pairwise_map.mp k
theorem nsm_some {x:Nn} (h:nsm x=true):∃z,x.2.2=some z:=Option.isSome_iff_exists.mp h
noncomputable def dsz (m:Nat):List Int:=[(m:Int)+1,4,5,12,3,4,7,3,40,40,40,4,3]++(List.replicate m [3,9,25]).flatten
theorem reps_map (m:Nat) (xs:List Int):(List.replicate m (xs.map V.int)).flatten=((List.replicate m xs).flatten).map V.int:=by
  induction m with
  | zero=>rfl
  | succ m ih=>rw [List.replicate_succ,List.flatten_cons,ih,List.replicate_succ,List.flatten_cons,List.map_append]
theorem reps_get {xs:List Int} {n:Nat} (hn:xs.length=n):∀{m k j:Nat},k<m→j<n→(List.replicate m xs).flatten[n*k+j]?=xs[j]?
  | 0,_,_,hk,_=>absurd hk (Nat.not_lt_zero _)
  | m+1,0,j,_,hj=>by
    rw [List.replicate_succ,List.flatten_cons,Nat.mul_zero,Nat.zero_add,List.getElem?_append_left (by walk_at "o")]
  | m+1,k+1,j,hk,hj=>by
    have e:n*(k+1)+j=n+(n*k+j):=by rw [Nat.mul_add];walk_at "o"
    rw [List.replicate_succ,List.flatten_cons,e,List.getElem?_append_right (by walk_at "o"),hn,Nat.add_sub_cancel_left]
    exact reps_get hn (by walk_at "o") hj
theorem dsz_map (m:Nat):[V.int ((m:Int)+1),.int 4,.int 5,.int 12,.int 3,.int 4,.int 7,.int 3,.int 40,.int 40,.int 40,.int 4,.int 3]++(List.replicate m [V.int 3,.int 9,.int 25]).flatten=(dsz m).map V.int:=by
  unfold dsz
  rw [List.map_append,← reps_map]
  rfl
theorem dsz_len (m:Nat):(dsz m).length=13+3*m:=by
  unfold dsz
  rw [List.length_append,List.length_flatten,List.map_replicate,List.sum_replicate_nat]
  simp
  walk_at "o"
theorem dsz_pos {m:Nat} (hm:m≤40):∀z∈dsz m,0<z∧z<2 ^ 60:=by
  intro z hz
  unfold dsz at hz
  rcases List.mem_append.mp hz with h | h
  · simp at h
    walk_at "o"
  · obtain ⟨l,hl,hzl⟩:=List.mem_flatten.mp h
    rw [(List.mem_replicate.mp hl).2] at hzl
    simp at hzl
    walk_at "o"
theorem dsz_at {m k j:Nat} (hk:k<m) (hj:j<3):(dsz m)[3*k+(13+j)]?=[(3:Int),9,25][j]?:=by
  unfold dsz
  rw [List.getElem?_append_right (by simp;walk_at "o")]
  have e:3*k+(13+j)-[(m:Int)+1,4,5,12,3,4,7,3,40,40,40,4,3].length=3*k+j:=by simp;walk_at "o"
  rw [e]
  exact reps_get rfl hk hj
theorem dsz_shp {m:Nat} {xs:List Int} (hlen:xs.length=(dsz m).length) (hxs:∀(j:Nat) (x z:Int),xs[j]?=some x→(dsz m)[j]?=some z→0≤x∧x<z):∃c,c≤m∧Shp xs c:=by
  obtain ⟨x0,g0,a0,b0⟩:=row_get hlen hxs 0 (z:=(m:Int)+1) rfl
  refine ⟨x0.toNat,by walk_at "o",⟨by rw [g0];congr 1;walk_at "o",row_get hlen hxs 1 rfl,row_get hlen hxs 4 rfl,row_get hlen hxs 5 rfl,row_get hlen hxs 12 rfl,fun k hk=>?_⟩⟩
  have hk':k<m:=by walk_at "o"
  obtain ⟨x,gx,ax,bx⟩:=row_get hlen hxs _ (z:=3) ((dsz_at hk' (j:=0) (by decide)).trans rfl)
  obtain ⟨y,gy,ay,by'⟩:=row_get hlen hxs _ (z:=9) ((dsz_at hk' (j:=1) (by decide)).trans rfl)
  obtain ⟨z,gz,az,bz⟩:=row_get hlen hxs _ (z:=25) ((dsz_at hk' (j:=2) (by decide)).trans rfl)
  exact ⟨x,y,z,gx,gy,gz,ax,bx,ay,by',az,bz⟩
noncomputable def spPicked:Sp:=fun vs H Q _=>∃(l lw:Addr) (es:List Nn) (xs:List Int),vs=[.ref l,.ref lw]∧H l=some (.lst (nvals es))∧H lw=some (.lst (xs.map V.int))∧1≤es.length∧es.length≤40∧(∀k,k<3→∃x,xs[k+8]?=some x) ∧
  ∀(R:Addr) (a b c:Nn) (H':Hp),Same H H'→a∈es→b∈es→c∈es→H' R=some (.lst [.ref a.1,.ref b.1,.ref c.1])→Q (.ref R) H'
noncomputable def spDrawn4 (K:PySem.W.Frag):Sp:=fun vs H Q _=>∃(a:Addr) (ns:List Int) (i:Int) (most:Nat) (share:Int),vs=[.ref a,.int i,.int (most:Int),.int share]∧SqL K H a (ns.map V.int)∧0≤i∧i<800∧most≤40∧0≤share∧share≤2 ∧
  ∀(p R:Addr) (es:List Nn) (b c:Int) (H':Hp),Same H H'→H' p=some (.tup [.ref R,.int b,.int c])→H R=none→H' R=some (.lst (nvals es))→NRow H' es 45 150→es.length≤most→nrising es→1≤b→Sz 80 b→0≤c→Sz 150 c→Q (.ref p) H'
section
variable {P:Program} {w:World} {K:PySem.W.Frag} {mg:Str→Option Value} {base:Heap} {f:Addr} {fd:FuncData}
theorem sc_law_picked:FnScope ["_law_held","_law_some","_law_places","_law_k"] ["_law_held","_law_some"] (defScope s_law_picked):=⟨rfl,rfl,rfl,by decide +kernel,rfl,by decide +kernel,by decide +kernel⟩
theorem ok_law_picked (F:Fun K "_law_picked" "_law_picked" s_law_picked f fd) (T:Txt mg):FnOk P w K mg base CX0 1 f fd ["_law_held","_law_some"] spPicked:=by
  refine F.ok sc_law_picked (fun vs H Q E h=>?_) (fun cdv A outer s H vs Q E hr h=>?_)
  · obtain ⟨l,lw,es,xs,rfl,_⟩:=h
    rfl
  obtain ⟨l,lw,es,xs,rfl,hl,hw,h1,h40,hx,k⟩:=h
  refine J.q ⟨_,(J.f (J.i (i:=2) sc_law_picked.nd rfl (Or.inl rfl) (J.s J.d) (hs:=sw_L))
      (J.f (J.ae PassesOwn.never rfl (Jd.pi_range2 rfl T.range (J.b J.c (J.b J.c J.d st_C) st_C)) (J.u (i:=3) sc_law_picked.nd rfl (Or.inl rfl))
      (J.h (J.y (J.ac K (J.a 2) (J.g op_mod (J.e (ixL K) (J.a 1) (J.a 3) (fun _ _=>rfl)) (J.p (lenC K) rfl T.len_ PySem.boot_len (J.b (J.a 0) J.d st_N) (he:=st_N) (hpl:=any0)))) (hs:=sw_K))))
      (J.f (J.i (i:=2) sc_law_picked.nd rfl (Or.inl rfl) (J.p (sortedC K) rfl T.sorted_ PyProof.Rows.boot_sorted (J.b (J.a 2) J.d st_N) (he:=st_N) (hpl:=any0)) (hs:=sw_K))
      (J.h (J.l (J.ao (O:=["_law_at"]) (N':=["_law_held"]) (cap:=[0]) rfl (J.aa K (J.a 2)) (fun _ _ _ _ _=>(J.u (i:=0) (show List.Nodup [("_law_at":Str),("_law_held":Str)] by decide +kernel) rfl (Or.inl rfl))) (fun _ _ _ _ _=>J.an) (fun _ _ _ _ _=>(J.e (ixL K) (J.a 1) (J.a 0) (fun _ _=>rfl))) rfl ⟨⟨rfl,rfl,rfl,rfl⟩,trivial⟩ rfl (by decide +kernel) rfl (by decide +kernel))))))),?_⟩
  walk_at "v"
  refine r_new (mk:=.lst) (by simp) fun pl H1 s1 n1 e1=>?_
  walk_at "v"
  refine r_for (r_rng2 ?_)
  walk_at "v"
  refine ⟨8,11,rfl,by decide,for_range (n:=3) (fun j σ H3=>∃(ys:List Int) (v:Option V),σ=[some (.ref l),some (.ref lw),some (.ref pl),v]∧Same H H3∧H3 pl=some (.lst (ys.map V.int))∧ys.length=j∧∀y∈ys,0≤y∧y<(es.length:Int)) ?_ ?_ ?_⟩
  · exact ⟨[],none,rfl,s1,e1,rfl,fun y hy=>absurd hy (by simp)⟩
  · rintro j σ H3 hj ⟨ys,v,rfl,s3,e3,hy,hys⟩
    obtain ⟨x,gx⟩:=hx j hj
    walk_at "v"
    refine ⟨.inl ⟨rfl,_,SqL.of e3⟩,?_⟩
    walk_at "v"
    refine r_l (s3 _ _ hw) (at_ints gx (by walk_at "o")) ?_
    walk_at "v"
    refine r_len (.inl (SqL.of (s3 _ _ hl))) ?_
    rw [nvals_len]
    refine r_I (show (0:Int)<_ by walk_at "o") ?_
    walk_at "v"
    refine r_app e3 (by rw [List.length_map];exact small1000 (by walk_at "o")) ?_
    refine ⟨ys++[x % (es.length:Int)],_,rfl,same_at s3 n1,by rw [upd_same,List.map_append];rfl,by rw [List.length_append,hy];rfl,fun y hy=>?_⟩
    rcases List.mem_append.mp hy with z | z
    · exact hys y z
    · obtain rfl:y=x % (es.length:Int):=by simpa using z
      exact ⟨Int.emod_nonneg _ (by walk_at "o"),Int.emod_lt_of_pos _ (by walk_at "o")⟩
  · rintro σ H3 ⟨ys,v,rfl,s3,e3,hy,hys⟩
    walk_at "v"
    refine r_sorted (SqL.of e3) (by walk_at "o") fun p ns' H4 s4 n4 e4 hp hs=>?_
    walk_at "v"
    refine r_iL ?_
    walk_at "v"
    refine ⟨p,rfl,⟨_,SqL.of e4⟩,?_⟩
    have hl':ns'.length=3:=by rw [hp.length_eq,hy]
    refine compB_of (xs:=ns'.map V.int) tells_list (fun H5 s5=>SqL.of (s5 _ _ e4)) (by rw [List.length_map];walk_at "o") (fun i ys G=>∃zs:List Nn,ys=nvals zs∧zs.length=i∧∀z∈zs,z∈es) ⟨[],rfl,rfl,fun x hx=>absurd hx (by simp)⟩ ?_ ?_
    · rintro D i x ys' H5 σ0 N N0 h0 hD eD s5 hx hy' ⟨zs,rfl,hz,hm⟩ kY kN
      rw [List.getElem?_map] at hx
      obtain ⟨y,gy,rfl⟩:=Option.map_eq_some_iff.mp hx
      obtain ⟨y0,y1⟩:=hys y (hp.mem_iff.mp (List.mem_of_getElem? gy))
      obtain ⟨e,he,_,ea⟩:=at_nvals y0 y1
      refine r_own1 h0 ?_
      walk_at "v"
      refine iteT ?_
      walk_at "v"
      refine r_l ((s3.trans (s4.trans s5)) _ _ hl) ea ?_
      refine kY _ H5 (Same.refl _) ⟨zs++[e],nvals_snoc zs e,by rw [List.length_append,hz];rfl,fun z hz=>?_⟩
      rcases List.mem_append.mp hz with q | q
      · exact hm z q
      · obtain rfl:z=e:=by simpa using q
        exact he
    · rintro D ys' H5 hD eD s5 hy' ⟨zs,rfl,hz,hm⟩
      rw [List.length_map,hl'] at hz
      match zs,hz with
      | [x,y,z],_=>exact k D x y z H5 (s3.trans (s4.trans s5)) (hm x (by simp)) (hm y (by simp)) (hm z (by simp)) eD
theorem sc_law_drawn:FnScope ["_law_script","_law_place","_law_most","_law_share","_law_sizes","_law_some","_law_bottom","_law_scale","_law_tilt","_law_far","_law_row_here","_law_held","_law_one","_law_mid","_law_last","_law_span","_law_stood","_law_by"] ["_law_script","_law_place","_law_most","_law_share"] (defScope s_law_drawn):=⟨rfl,rfl,rfl,by decide +kernel,rfl,by decide +kernel,by decide +kernel⟩
theorem ok_law_drawn (F:Fun K "_law_drawn" "_law_drawn" s_law_drawn f fd) (T:Txt mg) (D_law_row:Dn P w K mg base 3 "_law_row" ["_law_script","_law_place","_law_sizes"] (spRow K)) (D_law_shaped:Dn P w K mg base 1 "_law_shaped" ["_law_some","_law_scale","_law_tilt"] spShaped)
    (D_law_picked:Dn P w K mg base 1 "_law_picked" ["_law_held","_law_some"] spPicked) (D_law_times:Dn P w K mg base 1 "_law_times" ["_law_row_here","_law_by"] spTimes):FnOk P w K mg base CX0 4 f fd ["_law_script","_law_place","_law_most","_law_share"] (spDrawn4 K):=by
  refine F.ok sc_law_drawn (fun vs H Q E h=>?_) (fun cdv A outer s H vs Q E hr h=>?_)
  · obtain ⟨a,ns,i,most,share,rfl,_⟩:=h
    rfl
  obtain ⟨a,ns,i,most,share,rfl,hS,h0,h1,hm,hs0,hs2,k⟩:=h
  refine J.q (Jd.cut 6 (fun σ H'=>∃(lw tl:Addr) (xs:List Int) (c:Nat) (b sc t0 t1 x6 x7:Int) (v4 v9:Option V),σ=[some (.ref a),some (.int i),some (.int most),some (.int share),v4,some (.ref lw),some (.int b),some (.int sc),some (.ref tl),v9,none,none,none,none,none,none,none,none] ∧
    Same H H'∧H' lw=some (.lst (xs.map V.int))∧c≤most∧Shp xs c∧xs[6]?=some x6∧0≤x6∧x6<7∧xs[7]?=some x7∧(∀k,k<3→∃x,xs[k+8]?=some x)∧1≤b∧Sz 30 b∧0≤sc∧Sz 45 sc∧H' tl=some (.tup [.int t0,.int t1])∧Sz 45 t0∧Sz 45 t1) ?_ fun u hu hR=>?_)
  · refine ⟨_,(J.f (J.i (i:=10) sc_law_drawn.nd rfl (Or.inl rfl) (J.k D_law_shaped (hr.mono (by decide)) rfl (J.b (J.a 5) (J.b (J.a 7) (J.b (J.a 8) J.d st_N) st_N) st_N) (he:=st_N) (hpl:=(anyc st_N (anyc st_N any0)))) (hs:=sw_K))
      (J.f (Jd.ps_comp (O:=["_law_one"]) (N':=[]) (cap:=[]) (i:=11) sc_law_drawn.nd rfl (Or.inl rfl) rfl (J.aa K (J.a 10)) (fun _ _ _ _ _=>(J.u (i:=0) (show List.Nodup [("_law_one":Str)] by decide +kernel) rfl (Or.inl rfl))) (fun _ _ _ _ _=>(Jd.pts_one (J.j op_notN (J.e (ixT K) (J.a 0) J.c (fun _ _=>rfl)) J.w (nomark _)))) (fun _ _ _ _ _=>(J.a 0)) rfl trivial rfl (by decide +kernel) rfl (by decide +kernel) (by rfl))
      (J.f (J.m (J.x (J.ad (J.j op_gt (J.a 3) J.c (nomark _)) (J.ad (J.j op_eq (J.e (ixL K) (J.a 5) J.c (fun _ _=>rfl)) J.c (nomark _)) (J.ai (J.j op_gt (J.p (lenC K) rfl T.len_ PySem.boot_len (J.b (J.a 11) J.d st_N) (he:=st_N) (hpl:=any0)) J.c (nomark _))))))
      (J.f (Jd.ps_asg (J.k D_law_picked (hr.mono (by decide)) rfl (J.b (J.a 11) (J.b (J.a 5) J.d st_N) st_N) (he:=st_N) (hpl:=(anyc st_N any0))) (Jd.pgL K (n:=3) rfl (J.aj (J.u (i:=12) sc_law_drawn.nd rfl (Or.inl rfl)) (J.aj (J.u (i:=13) sc_law_drawn.nd rfl (Or.inl rfl)) (J.aj (J.u (i:=14) sc_law_drawn.nd rfl (Or.inl rfl)) Jd.pgs_nil)))))
      (J.h (J.m (Jd.pt_chain op_lt op_lt (J.e (ixT K) (J.a 12) J.c (fun _ _=>rfl)) (J.e (ixT K) (J.a 13) J.c (fun _ _=>rfl)) (J.e (ixT K) (J.a 14) J.c (fun _ _=>rfl)))
      (J.f (J.i (i:=15) sc_law_drawn.nd rfl (Or.inl rfl) (J.g op_sub (J.e (ixT K) (J.a 14) J.c (fun _ _=>rfl)) (J.e (ixT K) (J.a 12) J.c (fun _ _=>rfl))) (hs:=sw_B))
      (J.f (J.i (i:=16) sc_law_drawn.nd rfl (Or.inl rfl) (J.g op_sub (J.g op_mulB (J.e (ixT K) (J.a 13) J.c (fun _ _=>rfl)) (J.a 15)) (J.g op_mulB (J.e (ixT K) (J.a 12) J.c (fun _ _=>rfl)) (J.g op_sub (J.e (ixT K) (J.a 14) J.c (fun _ _=>rfl)) (J.e (ixT K) (J.a 13) J.c (fun _ _=>rfl))))) (hs:=sw_B))
      (J.f (J.i (i:=16) sc_law_drawn.nd rfl (Or.inl rfl) (J.p absC rfl T.abs_ PyProof.Rows.boot_abs (J.b (J.g op_sub (J.a 16) (J.g op_mulB (J.e (ixT K) (J.a 14) J.c (fun _ _=>rfl)) (J.g op_sub (J.e (ixT K) (J.a 13) J.c (fun _ _=>rfl)) (J.e (ixT K) (J.a 12) J.c (fun _ _=>rfl))))) J.d st_B) (he:=st_B) (hpl:=any0)) (hs:=sw_K))
      (J.f (J.i (i:=17) sc_law_drawn.nd rfl (Or.inl rfl) (J.g op_mulB (J.a 3) (J.a 15)) (hs:=sw_B))
      (J.h (J.l (J.o (J.b (J.k D_law_times (hr.mono (by decide)) rfl (J.b (J.a 10) (J.b (J.a 17) J.d st_N) st_N) (he:=st_N) (hpl:=(anyc st_N any0))) (J.b (J.g op_mulB (J.a 6) (J.a 17)) (J.b (J.a 16) J.d st_N) st_B) st_K))))))))
      J.n)))
      J.n)
      (J.h (J.l (J.o (J.b (J.a 10) (J.b (J.a 6) (J.b (J.g op_mulB (J.e (ixL K) (J.a 5) J.c (fun _ _=>rfl)) (J.a 7)) J.d st_B) st_N) st_N))))))),?_⟩
    rintro σ H1 ⟨lw,tl,xs,c,b,sc,t0,t1,x6,x7,v4,v9,rfl,s1,ew,hc,S,g6,a6,b6,g7,g8,b1,zb,sc0,zsc,et,zt0,zt1⟩
    walk_at "v"
    refine ⟨lw,tl,xs,c,sc,t0,t1,rfl,ew,S,by walk_at "o",et,zsc,zt0,zt1,fun R es H2 s2 nR eR hes hlen hri=>?_⟩
    have ew2:=s2 _ _ ew
    walk_at "v"
    refine r_iL ?_
    walk_at "v"
    refine ⟨R,rfl,⟨_,SqL.of eR⟩,?_⟩
    refine compB_of (xs:=nvals es) tells_list (fun H3 s3=>SqL.of (s3 _ _ eR)) (by rw [nvals_len];walk_at "o") (fun i ys G=>ys=nvals ((es.take i).filter nsm)) rfl ?_ ?_
    · rintro D i x ys H3 σ0 N N0 h0 hD eD s3 hx hy rfl kY kN
      obtain ⟨e,he,rfl⟩:=nvals_at hx
      obtain ⟨ee,_⟩:=(hes e (List.mem_of_getElem? he)).up s3
      have ts:=PySem.take_succ_filter nsm es i e he
      obtain ⟨ae,me,ve⟩:=e
      refine r_own1 h0 ?_
      cases ve with
      | none=>
        walk_at "v"
        refine ⟨rfl,?_⟩
        walk_at "v"
        refine iteF ?_
        rw [show nsm (ae,me,none)=false from rfl,if_neg Bool.false_ne_true,List.append_nil] at ts
        exact kN H3 (Same.refl _) (by rw [ts])
      | some z=>
        walk_at "v"
        refine ⟨rfl,?_⟩
        walk_at "v"
        refine iteT ?_
        walk_at "v"
        rw [show nsm (ae,me,some z)=true from rfl,if_pos rfl] at ts
        exact kY _ H3 (Same.refl _) (by rw [ts,← nvals_snoc])
    · rintro D ys H3 hD eD s3 hy rfl
      rw [nvals_len,List.take_length] at eD
      have s13:=s1.trans (s2.trans s3)
      have eR3:=s3 _ _ eR
      have ew3:=s3 _ _ ew2
      have plain:∀(p:Addr) (H4:Hp),Same H3 H4→H4 p=some (.tup [.ref R,.int b,.int (x6*sc)])→Q (.ref p) H4:=fun p H4 s4 e4=>
        k p R es b (x6*sc) H4 (s13.trans s4) e4 (s1.free nR) (s4 _ _ eR3) (fun x hx=>let ⟨q1,q2,q3⟩:=(hes x hx).up (s3.trans s4);⟨q1,q2,fun z hz=>(q3 z hz).mono (by decide)⟩) (by walk_at "o") hri b1 (zb.mono (by decide)) (Int.mul_nonneg a6 sc0) (((show Sz 3 x6 from by show x6.natAbs<2 ^ 3;walk_at "o").mul zsc).mono (by decide))
      walk_at "v"
      refine ite2 (fun c1=>?_) (fun c1=>?_)
      · have c1':0<share:=of_decide_eq_true c1
        walk_at "v"
        refine r_l ew3 (at_ints g7 rfl) ?_
        walk_at "v"
        refine ite2 (fun c2=>?_) (fun c2=>?_)
        · walk_at "v"
          refine r_len (.inl (SqL.of eD)) ?_
          walk_at "v"
          rw [nvals_len]
          refine ite2 (fun c3=>?_) (fun c3=>?_)
          · have c3':=of_decide_eq_true c3
            have hfl:(es.filter nsm).length≤es.length:=List.length_filter_le ..
            walk_at "v"
            refine r_asg ?_
            walk_at "v"
            refine ⟨D,lw,es.filter nsm,xs,rfl,eD,ew3,by walk_at "o",by walk_at "o",g8,fun R3 x y z H4 s4 hx hy hz e4=>?_⟩
            refine r_unlist3 e4 ?_
            obtain ⟨hx1,hx2⟩:=List.mem_filter.mp hx
            obtain ⟨hy1,hy2⟩:=List.mem_filter.mp hy
            obtain ⟨hz1,hz2⟩:=List.mem_filter.mp hz
            obtain ⟨fx1,fx2,fx3⟩:=(hes x hx1).up (s3.trans s4)
            obtain ⟨fy1,fy2,fy3⟩:=(hes y hy1).up (s3.trans s4)
            obtain ⟨fz1,fz2,fz3⟩:=(hes z hz1).up (s3.trans s4)
            obtain ⟨nx,ex⟩:=nsm_some hx2
            obtain ⟨ny,ey⟩:=nsm_some hy2
            obtain ⟨nz,ez⟩:=nsm_some hz2
            have zx:=fx3 nx ex
            have zy:=fy3 ny ey
            have zz:=fz3 nz ez
            rw [ex] at fx1
            rw [ey] at fy1
            rw [ez] at fz1
            simp only [nnv] at fx1 fy1 fz1
            walk_at "v"
            have ew4:=s4 _ _ ew3
            refine ite2 (fun c4=>?_) (fun c4=>?_)
            · have c4':=of_decide_eq_true c4
              walk_at "v"
              refine ite2 (fun c5=>?_) (fun c5=>?_)
              · have c5':=of_decide_eq_true c5
                have zs1:Sz 46 (z.2.1-x.2.1):=fz2.sub fx2
                have zs2:Sz 46 (z.2.1-y.2.1):=fz2.sub fy2
                have zs3:Sz 46 (y.2.1-x.2.1):=fy2.sub fx2
                have zsh:Sz 2 share:=show share.natAbs<2 ^ 2 by walk_at "o"
                have m1:Sz 146 (ny*(z.2.1-x.2.1)):=zy.mul zs1
                have m2:Sz 146 (nx*(z.2.1-y.2.1)):=zx.mul zs2
                have m3:Sz 146 (nz*(y.2.1-x.2.1)):=zz.mul zs3
                walk_at "v"
                refine r_I (mulOk zy zs1) ?_
                walk_at "v"
                refine r_I (mulOk zx zs2) ?_
                walk_at "v"
                refine r_I (mulOk zz zs3) ?_
                walk_at "v"
                refine r_I (mulOk zsh zs1) ?_
                walk_at "v"
                have zby:Sz 48 (share*(z.2.1-x.2.1)):=zsh.mul zs1
                refine ⟨R,es,share*(z.2.1-x.2.1),100,48,rfl,s4 _ _ eR3,fun u hu=>(hes u hu).up (s3.trans s4),by walk_at "o",zby,by decide,fun R5 es5 H5 s5 n5 e5 hes5 hmap=>?_⟩
                walk_at "v"
                refine r_I (mulOk zb zby) ?_
                walk_at "v"
                rw [abs_cast]
                refine r_new (mk:=.tup) (by simp) fun p6 H6 s6 n6 e6=>?_
                have hle:es5.length=es.length:=by
                  have:=congrArg List.length hmap
                  simpa using this
                have p1:1≤share*(z.2.1-x.2.1):=mul_pos1 (by walk_at "o") (by walk_at "o")
                have zst:Sz 148 (ny*(z.2.1-x.2.1)-nx*(z.2.1-y.2.1)-nz*(y.2.1-x.2.1)):=(m1.sub m2).sub (m3.mono (by decide))
                refine k p6 R5 es5 _ _ H6 ((s13.trans s4).trans (s5.trans s6)) e6 ((s13.trans s4).free n5) (s6 _ _ e5) (fun x hx=>let ⟨q1,q2,q3⟩:=(hes5 x hx).up s6;⟨q1,q2,fun z hz=>(q3 z hz).mono (by decide)⟩) (by walk_at "o") ?_ (mul_pos1 b1 p1) ((zb.mul zby).mono (by decide)) (by walk_at "o") ((zst.of_le (by simp)).mono (by decide))
                refine nrising_of ?_ hri
                have e:=congrArg (List.map Prod.fst) hmap
                rw [List.map_map,List.map_map] at e
                exact e
              · walk_at "v"
                refine r_l ew4 (at_ints g6 rfl) ?_
                walk_at "v"
                refine r_I (mulOk (show Sz 3 x6 from by show x6.natAbs<2 ^ 3;walk_at "o") zsc) ?_
                walk_at "v"
                refine r_new (mk:=.tup) (by simp) fun p6 H6 s6 n6 e6=>?_
                exact plain p6 H6 (s4.trans s6) e6
            · walk_at "v"
              refine iteF ?_
              walk_at "v"
              refine r_l ew4 (at_ints g6 rfl) ?_
              walk_at "v"
              refine r_I (mulOk (show Sz 3 x6 from by show x6.natAbs<2 ^ 3;walk_at "o") zsc) ?_
              walk_at "v"
              refine r_new (mk:=.tup) (by simp) fun p6 H6 s6 n6 e6=>?_
              exact plain p6 H6 (s4.trans s6) e6
          · walk_at "v"
            refine r_l ew3 (at_ints g6 rfl) ?_
            walk_at "v"
            refine r_I (mulOk (show Sz 3 x6 from by show x6.natAbs<2 ^ 3;walk_at "o") zsc) ?_
            walk_at "v"
            refine r_new (mk:=.tup) (by simp) fun p6 H6 s6 n6 e6=>?_
            exact plain p6 H6 s6 e6
        · refine iteF ?_
          walk_at "v"
          refine r_l ew3 (at_ints g6 rfl) ?_
          walk_at "v"
          refine r_I (mulOk (show Sz 3 x6 from by show x6.natAbs<2 ^ 3;walk_at "o") zsc) ?_
          walk_at "v"
          refine r_new (mk:=.tup) (by simp) fun p6 H6 s6 n6 e6=>?_
          exact plain p6 H6 s6 e6
      · refine iteF ?_
        walk_at "v"
        refine r_l ew3 (at_ints g6 rfl) ?_
        walk_at "v"
        refine r_I (mulOk (show Sz 3 x6 from by show x6.natAbs<2 ^ 3;walk_at "o") zsc) ?_
        walk_at "v"
        refine r_new (mk:=.tup) (by simp) fun p6 H6 s6 n6 e6=>?_
        exact plain p6 H6 s6 e6
  refine ⟨_,(J.f (J.i (i:=4) sc_law_drawn.nd rfl (Or.inl rfl) (J.s (J.b (J.g op_add (J.a 2) J.c) (J.b J.c (J.b J.c (J.b J.c (J.b J.c (J.b J.c (J.b J.c (J.b J.c (J.b J.c (J.b J.c (J.b J.c (J.b J.c (J.b J.c J.d st_C) st_C) st_C) st_C) st_C) st_C) st_C) st_C) st_C) st_C) st_C) st_C) st_B)) (hs:=sw_L))
      (J.f (J.i (i:=5) sc_law_drawn.nd rfl (Or.inl rfl) (J.k D_law_row (hr.mono (by decide)) rfl (J.b (J.a 0) (J.b (J.a 1) (J.b (J.g op_cat (J.a 4) (J.g op_rep (J.s (J.b J.c (J.b J.c (J.b J.c J.d st_C) st_C) st_C)) (J.a 2))) J.d st_B) st_N) st_N) (he:=st_N) (hpl:=(anyc st_N (anyc st_B any0)))) (hs:=sw_K))
      (J.f (J.i (i:=6) sc_law_drawn.nd rfl (Or.inl rfl) (J.e (ixL K) (J.s (J.b J.c (J.b J.c (J.b J.c (J.b J.c (J.b J.c (J.b J.c (J.b J.c (J.b J.c (J.b J.c (J.b J.c (J.b J.c (J.b (J.g op_add (J.g op_pow J.c J.c) J.c) J.d st_B) st_C) st_C) st_C) st_C) st_C) st_C) st_C) st_C) st_C) st_C) st_C)) (J.e (ixL K) (J.a 5) J.c (fun _ _=>rfl)) (fun _ _=>rfl)) (hs:=sw_S))
      (J.f (J.i (i:=7) sc_law_drawn.nd rfl (Or.inl rfl) (J.e (ixL K) (J.s (J.b J.c (J.b J.c (J.b J.c (J.b (J.g op_pow J.c J.c) (J.b (J.g op_add (J.g op_pow J.c J.c) J.c) J.d st_B) st_B) st_C) st_C) st_C)) (J.e (ixL K) (J.a 5) J.c (fun _ _=>rfl)) (fun _ _=>rfl)) (hs:=sw_S))
      (J.f (J.i (i:=8) sc_law_drawn.nd rfl (Or.inl rfl) (J.o (J.b J.c (J.b J.c J.d st_C) st_C)) (hs:=sw_T))
      (J.f (J.m (J.j op_gt (J.a 3) J.c (nomark _))
      (J.f (J.i (i:=9) sc_law_drawn.nd rfl (Or.inl rfl) (J.g op_sub (J.ag un_neg (J.g op_pow J.c J.c)) J.c) (hs:=sw_B))
      (J.h (J.i (i:=8) sc_law_drawn.nd rfl (Or.inl rfl) (J.e (ixL K) (J.s (J.b (J.o (J.b J.c (J.b J.c J.d st_C) st_C)) (J.b (J.o (J.b J.c (J.b J.c J.d st_C) st_C)) (J.b (J.o (J.b J.c (J.b (J.ag un_neg J.c) J.d st_U) st_C)) (J.b (J.o (J.b (J.a 9) (J.b (J.g op_pow J.c J.c) J.d st_B) st_N)) J.d st_T) st_T) st_T) st_T)) (J.e (ixL K) (J.a 5) J.c (fun _ _=>rfl)) (fun _ _=>rfl)) (hs:=sw_S))))
      J.n)
      hu)))))),?_⟩
  walk_at "v"
  refine r_new (mk:=.lst) (by simp) fun l1 H1 s1 n1 e1=>?_
  walk_at "v"
  refine r_new (mk:=.lst) (by simp) fun l2 H2 s2 n2 e2=>?_
  walk_at "v"
  refine r_rep e2 (by omega) (by omega) ?_
  refine r_new (mk:=.lst) (by rw [len_rep];simp;walk_at "o") fun l3 H3 s3 n3 e3=>?_
  walk_at "v"
  refine r_cat (s3 _ _ (s2 _ _ e1)) e3 ?_
  refine r_new (mk:=.lst) (by rw [List.length_append,len_rep];simp;walk_at "o") fun l4 H4 s4 n4 e4=>?_
  have s04:=s1.trans (s2.trans (s3.trans s4))
  walk_at "v"
  refine ⟨a,ns,i,l4,dsz most,rfl,s04.seq hS,h0,by walk_at "o",by rw [e4];exact congrArg (fun z=>some (HO.lst z)) (dsz_map most),by rw [dsz_len];walk_at "o",dsz_pos hm,fun lw xs H5 s5 n5 e5 hlen hxs=>?_⟩
  obtain ⟨c,hc,S⟩:=dsz_shp hlen hxs
  obtain ⟨x2,g2,a2,b2⟩:=row_get hlen hxs 2 (z:=5) rfl
  obtain ⟨x3,g3,a3,b3⟩:=row_get hlen hxs 3 (z:=12) rfl
  obtain ⟨x6,g6,a6,b6⟩:=row_get hlen hxs 6 (z:=7) rfl
  obtain ⟨x7,g7,a7,b7⟩:=row_get hlen hxs 7 (z:=3) rfl
  obtain ⟨x8,g8,_⟩:=row_get hlen hxs 8 (z:=40) rfl
  obtain ⟨x9,g9,_⟩:=row_get hlen hxs 9 (z:=40) rfl
  obtain ⟨x10,g10,_⟩:=row_get hlen hxs 10 (z:=40) rfl
  obtain ⟨x11,g11,a11,b11⟩:=row_get hlen hxs 11 (z:=4) rfl
  have g8':∀k,k<3→∃x,xs[k+8]?=some x:=fun k hk=>by
    rcases (show k=0∨k=1∨k=2 by walk_at "o") with rfl | rfl | rfl
    · exact ⟨_,g8⟩
    · exact ⟨_,g9⟩
    · exact ⟨_,g10⟩
  walk_at "v"
  refine r_new (mk:=.lst) (by simp) fun l6 H6 s6 n6 e6=>?_
  walk_at "v"
  refine r_l (s6 _ _ e5) (at_ints g3 rfl) ?_
  obtain ⟨b,eb,hb1,hb2⟩:=pickP (zs:=[1,2,3,4,5,6,12,30,60,1001,9699690,10 ^ (9:Int).toNat+7]) (fun z=>1≤z∧Sz 30 z) (by decide +kernel) a3 b3
  refine r_l e6 eb ?_
  walk_at "v"
  refine r_new (mk:=.lst) (by simp) fun l7 H7 s7 n7 e7=>?_
  walk_at "v"
  refine r_l (s7 _ _ (s6 _ _ e5)) (at_ints g2 rfl) ?_
  obtain ⟨sc,esc,hsc0,hsc⟩:=pickP (zs:=[1,1,7,10 ^ (6:Int).toNat,10 ^ (12:Int).toNat+39]) (fun z=>0≤z∧Sz 45 z) (by decide +kernel) a2 b2
  refine r_l e7 esc ?_
  walk_at "v"
  refine r_new (mk:=.tup) (by simp) fun t0 H8 s8 n8 e8=>?_
  have s58:=s6.trans (s7.trans s8)
  have s08:=(s04.trans s5).trans s58
  have e58:=s58 _ _ e5
  walk_at "v"
  refine ite2 (fun c1=>?_) (fun c1=>?_)
  · walk_at "v"
    refine r_new (mk:=.tup) (by simp) fun p1 H9 s9 n9 e9=>?_
    walk_at "v"
    refine r_new (mk:=.tup) (by simp) fun p2 H10 s10 n10 e10=>?_
    walk_at "v"
    refine r_new (mk:=.tup) (by simp) fun p3 H11 s11 n11 e11=>?_
    walk_at "v"
    refine r_new (mk:=.tup) (by simp) fun p4 H12 s12 n12 e12=>?_
    walk_at "v"
    refine r_new (mk:=.lst) (by simp) fun l8 H13 s13 n13 e13=>?_
    have s813:=s9.trans (s10.trans (s11.trans (s12.trans s13)))
    walk_at "v"
    refine r_l (s813 _ _ e58) (at_ints g11 rfl) ?_
    have s1213:=s12.trans s13
    rcases (show x11=0∨x11=1∨x11=2∨x11=3 by walk_at "o") with rfl | rfl | rfl | rfl
    · refine r_l e13 at0 ?_
      exact hR _ _ ⟨lw,p1,xs,c,b,sc,0,0,x6,x7,_,_,rfl,s08.trans s813,s813 _ _ e58,hc,S,g6,a6,b6,g7,g8',hb1,hb2,hsc0,hsc,(s10.trans (s11.trans s1213)) _ _ e9,by decide,by decide⟩
    · refine r_l e13 at1 ?_
      exact hR _ _ ⟨lw,p2,xs,c,b,sc,0,0,x6,x7,_,_,rfl,s08.trans s813,s813 _ _ e58,hc,S,g6,a6,b6,g7,g8',hb1,hb2,hsc0,hsc,(s11.trans s1213) _ _ e10,by decide,by decide⟩
    · refine r_l e13 at2 ?_
      exact hR _ _ ⟨lw,p3,xs,c,b,sc,7,-3,x6,x7,_,_,rfl,s08.trans s813,s813 _ _ e58,hc,S,g6,a6,b6,g7,g8',hb1,hb2,hsc0,hsc,s1213 _ _ e11,by decide,by decide⟩
    · refine r_l e13 at3 ?_
      exact hR _ _ ⟨lw,p4,xs,c,b,sc,_,_,x6,x7,_,_,rfl,s08.trans s813,s813 _ _ e58,hc,S,g6,a6,b6,g7,g8',hb1,hb2,hsc0,hsc,s13 _ _ e12,by decide +kernel,by decide +kernel⟩
  · walk_at "v"
    exact hR _ _ ⟨lw,t0,xs,c,b,sc,0,0,x6,x7,_,_,rfl,s08,e58,hc,S,g6,a6,b6,g7,g8',hb1,hb2,hsc0,hsc,e8,by decide,by decide⟩
end

noncomputable def AllS (es:List En):Prop:=∀x∈es,smp x=true
section
variable {P:Program} {w:World} {K:PySem.W.Frag} {mg:Str→Option Value} {base:Heap} {f:Addr} {fd:FuncData}
end

noncomputable def nworth (b:Int) (x:Int×Option Int):Int×Option Rat:=(x.1,x.2.map fun z:Int=>(z:Rat)/(b:Rat))
noncomputable def spHanded:Sp:=fun vs H Q _=>∃(l:Addr) (es:List Nn) (b:Int) (m n nb N:Nat),vs=[.ref l,.int b]∧H l=some (.lst (nvals es))∧NRow H es m n∧es.length≤900∧1≤b∧Sz nb b∧m≤N∧n≤N∧nb≤N∧N≤8000 ∧
  ∀(R:Addr) (es':List En) (H':Hp),Same H H'→H R=none→H' R=some (.lst (vals es'))→Row H' es' N→es'.map (·.2)=es.map (fun x=>nworth b x.2)→Q (.ref R) H'
theorem r_unpack3 {σ:St} {H:Hp} {K:PySem.W.Frag} {p:Addr} {x y z:V} {i j k:Nat} {R:St→Hp→Prop} (h:H p=some (.tup [x,y,z])) (q:R (((σ.set i (some x)).set j (some y)).set k (some z)) H):gTup K 3 (gCons (gName i) (gCons (gName j) (gCons (gName k) gNil))) (.ref p) σ H R:=
  ⟨p,_,rfl,SqT.of h,rfl,x,_,rfl,y,_,rfl,z,_,rfl,rfl,q⟩
section
variable {P:Program} {w:World} {K:PySem.W.Frag} {mg:Str→Option Value} {base:Heap} {f:Addr} {fd:FuncData}
theorem sc_law_handed:FnScope ["_law_row_here","_law_bottom","_law_handed_here","_law_moment","_law_number"] ["_law_row_here","_law_bottom"] (defScope s_law_handed):=⟨rfl,rfl,rfl,by decide +kernel,rfl,by decide +kernel,by decide +kernel⟩
theorem ok_law_handed (F:Fun K "_law_handed" "_law_handed" s_law_handed f fd) (D_law_ratio:Dn P w K mg base 1 "_law_ratio" ["_law_top","_law_bottom"] spRatio):FnOk P w K mg base CX0 2 f fd ["_law_row_here","_law_bottom"] spHanded:=by
  refine F.ok sc_law_handed (fun vs H Q E h=>?_) (fun cdv A outer s H vs Q E hr h=>?_)
  · obtain ⟨l,es,b,m,n,nb,N,rfl,_⟩:=h
    rfl
  obtain ⟨l,es,b,m,n,nb,N,rfl,hl,hes,h40,hb,zb,hmN,hnN,hbN,hN,k⟩:=h
  refine J.q ⟨_,(J.f (J.i (i:=2) sc_law_handed.nd rfl (Or.inl rfl) (J.s J.d) (hs:=sw_L))
      (J.f (J.ae PassesOwn.never rfl (J.aa K (J.a 0)) (Jd.pgT K (n:=2) rfl (J.aj (J.u (i:=3) sc_law_handed.nd rfl (Or.inl rfl)) (J.aj (J.u (i:=4) sc_law_handed.nd rfl (Or.inl rfl)) Jd.pgs_nil)))
      (J.h (J.m (J.j op_isN (J.a 4) J.w (nomark _))
      (J.h (J.y (J.ac K (J.a 2) (J.o (J.b (J.a 3) (J.b J.w J.d st_C) st_N))) (hs:=sw_K)))
      (J.h (J.y (J.ac K (J.a 2) (J.o (J.b (J.a 3) (J.b (J.k D_law_ratio (hr.mono (by decide)) rfl (J.b (J.a 4) (J.b (J.a 1) J.d st_N) st_N) (he:=st_N) (hpl:=(anyc st_N any0))) J.d st_K) st_N))) (hs:=sw_K))))))
      (J.h (J.l (J.a 2))))),?_⟩
  walk_at "v"
  refine r_new (mk:=.lst) (by simp) fun R H1 s1 n1 e1=>?_
  walk_at "v"
  refine r_for (r_iL ?_)
  walk_at "v"
  refine ⟨l,rfl,⟨_,SqL.of (s1 _ _ hl)⟩,for_list (xs:=nvals es) (fun i σ H3=>∃(es':List En) (v3 v4:Option V),σ=[some (.ref l),some (.int b),some (.ref R),v3,v4]∧Same H H3∧H3 R=some (.lst (vals es'))∧Row H3 es' N∧es'.length=i∧es'.map (·.2)=(es.take i).map (fun x=>nworth b x.2)) ?_ ?_ ?_ ?_⟩
  · exact ⟨[],none,none,rfl,s1,e1,fun x hx=>absurd hx (by simp),rfl,rfl⟩
  · rintro i σ H3 _ ⟨es',v3,v4,rfl,s3,_⟩
    exact SqL.of (s3 _ _ hl)
  · rintro i x σ H3 hx ⟨es',v3,v4,rfl,s3,e3,hes',hl',hmap⟩
    obtain ⟨e,he,rfl⟩:=nvals_at hx
    have hi:i<es.length:=(List.getElem?_eq_some_iff.mp he).1
    have fe:=(hes e (List.mem_of_getElem? he)).up s3
    have tk:es.take (i+1)=es.take i++[e]:=by rw [List.take_add_one,he];rfl
    have fin:∀(y:Addr) (H4:Hp) (v3 v4:Option V),Same H3 H4→EnAt H4 (y,nworth b e.2) N→∃(es'':List En) (v3' v4':Option V),[some (.ref l),some (.int b),some (.ref R),v3,v4]=[some (.ref l),some (.int b),some (.ref R),v3',v4'] ∧
        Same H (upd H4 R (.lst (vals es'++[.ref y])))∧upd H4 R (.lst (vals es'++[.ref y])) R=some (.lst (vals es''))∧Row (upd H4 R (.lst (vals es'++[.ref y]))) es'' N∧es''.length=i+1∧es''.map (·.2)=(es.take (i+1)).map (fun x=>nworth b x.2):=by
      intro y H4 v3 v4 s4 f4
      have e4:=s4 _ _ e3
      refine ⟨es'++[(y,nworth b e.2)],v3,v4,rfl,same_at (s3.trans s4) n1,by rw [upd_same];exact congrArg (fun z=>some (HO.lst z)) (vals_snoc es' (y,nworth b e.2)),((hes'.up s4).snoc f4).app e4,by rw [List.length_append,hl'];rfl,?_⟩
      rw [tk,List.map_append,List.map_append,hmap]
      rfl
    obtain ⟨a,mm,v⟩:=e
    cases v with
    | none=>
      refine r_unpack2 fe.1 ?_
      walk_at "v"
      refine ⟨rfl,?_⟩
      walk_at "v"
      refine iteT ?_
      walk_at "v"
      refine ⟨.inl ⟨rfl,_,SqL.of e3⟩,?_⟩
      walk_at "v"
      refine r_new (mk:=.tup) (by simp) fun y H4 s4 n4 e4=>?_
      walk_at "v"
      refine r_app (s4 _ _ e3) (by rw [vals_len];exact small1000 (by walk_at "o")) ?_
      exact fin y H4 _ _ s4 ⟨fe.2.1.mono hmN,e4⟩
    | some z=>
      have zz:=fe.2.2 z rfl
      refine r_unpack2 fe.1 ?_
      walk_at "v"
      refine ⟨rfl,?_⟩
      walk_at "v"
      refine iteF ?_
      walk_at "v"
      refine ⟨.inl ⟨rfl,_,SqL.of e3⟩,?_⟩
      walk_at "v"
      refine frac_gen (n:=N) (by walk_at "o") (zz.mono hnN) (zb.mono hbN) hN fun p H4 s4 f4=>?_
      walk_at "v"
      refine r_new (mk:=.tup) (by simp) fun y H5 s5 n5 e5=>?_
      walk_at "v"
      refine r_app ((s4.trans s5) _ _ e3) (by rw [vals_len];exact small1000 (by walk_at "o")) ?_
      exact fin y H5 _ _ (s4.trans s5) ⟨fe.2.1.mono hmN,p,e5,f4.up s5⟩
  · rintro σ H3 ⟨es',v3,v4,rfl,s3,e3,hes',hl',hmap⟩
    rw [nvals_len,List.take_length] at hmap
    walk_at "v"
    exact k R es' H3 s3 n1 e3 hes' hmap
end
noncomputable def nmo (hs:List Nn) (k:Nat):Int:=((hs[k]?).map (·.2.1)).getD 0
noncomputable def AllN (hs:List Nn):Prop:=∀x∈hs,nsm x=true
theorem nmo_lt {hs:List Nn} {i j:Nat} (h:nrising hs) (hij:i<j) (hj:j<hs.length):nmo hs i<nmo hs j:=by
  have hi:i<hs.length:=by walk_at "o"
  unfold nmo
  rw [List.getElem?_eq_getElem hi,List.getElem?_eq_getElem hj]
  exact List.pairwise_iff_getElem.mp h i j hi hj hij
section
variable {es:List En} {hs:List Nn} {b:Int} (h:es.map (·.2)=hs.map (fun x=>nworth b x.2))
include h
theorem link_len:es.length=hs.length:=by
  have:=congrArg List.length h
  simpa using this
theorem link_rising (hr:nrising hs):rising es:=by
  have k:(hs.map fun x=>x.2.1).Pairwise (·<·):=List.pairwise_map.mpr hr
  have e:=congrArg (List.map Prod.fst) h
  rw [List.map_map,List.map_map] at e
  have e':es.map (fun x=>x.2.1)=hs.map (fun x=>x.2.1):=e
  rw [← e'] at k
  exact List.pairwise_map.mp k
end
noncomputable abbrev Qs:=List (Addr×Rat)
noncomputable def qrefs (rs:Qs):List V:=rs.map fun x=>V.ref x.1
theorem qrefs_at {rs:Qs} {i:Nat} {v:V} (h:(qrefs rs)[i]?=some v):∃x,rs[i]?=some x∧v=.ref x.1:=by
  unfold qrefs at h
  rw [List.getElem?_map] at h
  cases e:rs[i]? with
  | none=>rw [e] at h;cases h
  | some x=>rw [e] at h;cases h;exact ⟨x,rfl,rfl⟩
noncomputable def AllQ (H:Hp) (rs:Qs) (n:Nat):Prop:=∀x∈rs,QtAt H x.1 x.2 n
theorem QtAt.app {H:Hp} {R p:Addr} {q:Rat} {n:Nat} {ys:List V} {o:HO} (f:QtAt H p q n) (h:H R=some (.lst ys)):QtAt (upd H R o) p q n:=
  let ⟨t,b,e,f⟩:=f
  ⟨t,b,(rm_up R H o) _ _ (rm_tup h e),f⟩
noncomputable def spGreat:Sp:=fun vs H Q _=>∃(l:Addr) (rs:Qs) (n:Nat),vs=[.ref l]∧H l=some (.lst (qrefs rs))∧AllQ H rs n∧n≤20000∧0<rs.length∧∀x∈rs,(∀y∈rs,y.2≤x.2)→Q (.ref x.1) H
section
variable {P:Program} {w:World} {K:PySem.W.Frag} {mg:Str→Option Value} {base:Heap} {f:Addr} {fd:FuncData}
theorem sc_greatest:FnScope ["quotients","found","quotient"] ["quotients"] (defScope s_greatest):=⟨rfl,rfl,rfl,by decide +kernel,rfl,by decide +kernel,by decide +kernel⟩
theorem ok_greatest (F:Fun K "greatest" "greatest" s_greatest f fd) (D_order:Dn P w K mg base 1 "order" ["one","other"] spOrderQ):FnOk P w K mg base CX0 2 f fd ["quotients"] spGreat:=by
  refine F.ok sc_greatest (fun vs H Q E h=>?_) (fun cdv A outer s H vs Q E hr h=>?_)
  · obtain ⟨l,rs,n,rfl,_⟩:=h
    rfl
  obtain ⟨l,rs,n,rfl,hl,hq,hn,hp,k⟩:=h
  have g0:rs[0]?=some rs[0]:=List.getElem?_eq_getElem hp
  refine J.q ⟨_,(J.f (J.i (i:=1) sc_greatest.nd rfl (Or.inl rfl) (J.e (ixL K) (J.a 0) J.c (fun _ _=>rfl)) (hs:=sw_S))
      (J.f (J.ae PassesOwn.never rfl (J.aa K (J.a 0)) (J.u (i:=2) sc_greatest.nd rfl (Or.inl rfl))
      (J.h (J.m (J.j op_gt (J.k D_order (hr.mono (by decide)) rfl (J.b (J.a 2) (J.b (J.a 1) J.d st_N) st_N) (he:=st_N) (hpl:=(anyc st_N any0))) J.c (nomark _))
      (J.h (J.i (i:=1) sc_greatest.nd rfl (Or.inl rfl) (J.a 2) (hs:=sw_N)))
      J.n)))
      (J.h (J.l (J.a 1))))),?_⟩
  walk_at "v"
  refine r_l hl (v:=.ref (rs[0]).1) (atI_nat (j:=0) (by unfold qrefs;rw [List.getElem?_map,g0];rfl)) ?_
  walk_at "v"
  refine r_for (r_iL ?_)
  walk_at "v"
  refine ⟨l,rfl,⟨_,SqL.of hl⟩,for_list (xs:=qrefs rs) (fun i σ H3=>H3=H∧∃(x:Addr×Rat) (v:Option V),x∈rs∧σ=[some (.ref l),some (.ref x.1),v]∧∀y∈rs.take i,y.2≤x.2) ?_ ?_ ?_ ?_⟩
  · exact ⟨rfl,rs[0],none,List.getElem_mem hp,rfl,fun y hy=>by simp at hy⟩
  · rintro i σ H3 _ ⟨rfl,_⟩
    exact SqL.of hl
  · rintro i v σ H3 hx ⟨rfl,x,v2,hm,rfl,hle⟩
    obtain ⟨y,gy,rfl⟩:=qrefs_at hx
    have hy:=List.mem_of_getElem? gy
    have tk:rs.take (i+1)=rs.take i++[y]:=by rw [List.take_add_one,gy];rfl
    walk_at "v"
    refine ⟨y.1,x.1,y.2,x.2,n,n,rfl,hq y hy,hq x hm,by walk_at "o",fun o ho1 ho2=>?_⟩
    walk_at "v"
    refine ite2 (fun c=>?_) (fun c=>?_)
    · have c':=ho1.mp (of_decide_eq_true c)
      walk_at "v"
      refine ⟨rfl,y,_,hy,rfl,fun z hz=>?_⟩
      rw [tk] at hz
      rcases List.mem_append.mp hz with q | q
      · have:=hle z q
        grind
      · obtain rfl:z=y:=by simpa using q
        exact Rat.le_refl
    · have c':¬x.2<y.2:=fun z=>of_decide_eq_false (Bool.eq_false_iff.mpr c) (ho1.mpr z)
      walk_at "v"
      refine ⟨rfl,x,_,hm,rfl,fun z hz=>?_⟩
      rw [tk] at hz
      rcases List.mem_append.mp hz with q | q
      · exact hle z q
      · obtain rfl:z=y:=by simpa using q
        exact Rat.not_lt.mp c'
  · rintro σ H3 ⟨rfl,x,v2,hm,rfl,hle⟩
    walk_at "v"
    refine k x hm fun y hy=>hle y ?_
    have e:(qrefs rs).length=rs.length:=List.length_map ..
    rw [e,List.take_length]
    exact hy
end

noncomputable def Each2 {α β:Type} (R:α→β→Prop):List α→List β→Prop
  | [],[]=>True
  | a::as,b::bs=>R a b∧Each2 R as bs
  | _,_=>False
theorem each2_snoc {α β:Type} {R:α→β→Prop} {a:α} {b:β}:∀{as:List α} {bs:List β},Each2 R as bs→R a b→Each2 R (as++[a]) (bs++[b])
  | [],[],_,r=>⟨r,trivial⟩
  | _::_,_::_,h,r=>⟨h.1,each2_snoc h.2 r⟩
  | [],_::_,h,_=>h.elim
  | _::_,[],h,_=>h.elim
theorem each2_imp {α β:Type} {R S:α→β→Prop}:∀{as:List α} {bs:List β},(∀a b,a∈as→R a b→S a b)→Each2 R as bs→Each2 S as bs
  | [],[],_,_=>trivial
  | _::_,_::_,u,r=>⟨u _ _ (by simp) r.1,each2_imp (fun a b ha=>u a b (by simp [ha])) r.2⟩
  | [],_::_,_,r=>r.elim
  | _::_,[],_,r=>r.elim
theorem parts_own {α:Type} {s:α→Bool} {es:List α}:∀(i:Nat) (r:List α),r∈parts s es i→r≠[]∧(∀x∈r,s x=true)∧r.Sublist (es.take i)
  | 0,r,h=>absurd h (by simp [parts])
  | i+1,r,h=>by
    have ih:=parts_own (s:=s) (es:=es) i
    have up:∀r:List α,r.Sublist (es.take i)→r.Sublist (es.take (i+1)):=fun r q=>q.trans (List.take_sublist_take_left (Nat.le_succ _))
    unfold parts at h
    cases e:es[i]? with
    | none=>rw [e] at h;exact ⟨(ih r h).1,(ih r h).2.1,up r (ih r h).2.2⟩
    | some y=>
      rw [e] at h
      have tk:es.take (i+1)=es.take i++[y]:=by rw [List.take_add_one,e];rfl
      dsimp only at h
      split at h
      · rename_i hs
        split at h
        · rename_i hr
          obtain ⟨t,r',hp⟩:=parts_ne hr
          have hm:r'∈parts s es i:=by rw [hp];simp
          have hgl:(parts s es i).getLast?.getD []=r':=by rw [hp];simp
          rcases List.mem_append.mp h with z | z
          · have q:=ih r (List.dropLast_sublist _ |>.subset z)
            exact ⟨q.1,q.2.1,up r q.2.2⟩
          · obtain rfl:r=((parts s es i).getLast?.getD [])++[y]:=by simpa using z
            rw [hgl]
            refine ⟨by simp,fun x hx=>?_,by rw [tk];exact List.Sublist.append (ih r' hm).2.2 (List.Sublist.refl _)⟩
            rcases List.mem_append.mp hx with q | q
            · exact (ih r' hm).2.1 x q
            · obtain rfl:x=y:=by simpa using q
              exact hs
        · rcases List.mem_append.mp h with z | z
          · exact ⟨(ih r z).1,(ih r z).2.1,up r (ih r z).2.2⟩
          · obtain rfl:r=[y]:=by simpa using z
            refine ⟨by simp,fun x hx=>?_,by rw [tk];exact List.sublist_append_right _ _⟩
            obtain rfl:x=y:=by simpa using hx
            exact hs
      · exact ⟨(ih r h).1,(ih r h).2.1,up r (ih r h).2.2⟩
noncomputable abbrev Pc:=Addr×(Rat×Rat×Rat×Rat)
noncomputable def PcAt (H:Hp) (x:Pc) (n:Nat):Prop:=∃a b c d:Addr,H x.1=some (.tup [.ref a,.ref b,.ref c,.ref d])∧FrAt H a x.2.1 n∧FrAt H b x.2.2.1 n∧FrAt H c x.2.2.2.1 n∧FrAt H d x.2.2.2.2 n
theorem PcAt.mv {H H':Hp} {x:Pc} {n:Nat} (t:∀{b:Addr} {xs:List V},H b=some (.tup xs)→H' b=some (.tup xs)) (f:PcAt H x n):PcAt H' x n:=by
  obtain ⟨a,b,c,d,e,f1,f2,f3,f4⟩:=f
  have m:∀{b:Addr} {q:Rat},FrAt H b q n→FrAt H' b q n:=fun f=>let ⟨x,d,e,f⟩:=f;⟨x,d,t e,f⟩
  exact ⟨a,b,c,d,t e,m f1,m f2,m f3,m f4⟩
theorem PcAt.up {H H':Hp} {x:Pc} {n:Nat} (f:PcAt H x n) (s:Same H H'):PcAt H' x n:=f.mv fun e=>s _ _ e
noncomputable def prefs (ps:List Pc):List V:=ps.map fun x=>V.ref x.1
theorem prefs_len (ps:List Pc):(prefs ps).length=ps.length:=List.length_map ..
noncomputable def AllP (H:Hp) (ps:List Pc) (n:Nat):Prop:=∀x∈ps,PcAt H x n
theorem AllP.up {H H':Hp} {ps:List Pc} {n:Nat} (h:AllP H ps n) (s:Same H H'):AllP H' ps n:=fun x hx=>(h x hx).up s
theorem AllP.app {H:Hp} {R:Addr} {ps:List Pc} {n:Nat} {ys:List V} {o:HO} (h:AllP H ps n) (e:H R=some (.lst ys)):AllP (upd H R o) ps n:=fun x hx=>(h x hx).mv fun {b xs} z=>by
  rw [upd_ne (fun q=>by rw [q,e] at z;cases z)]
  exact z
theorem AllP.append {H:Hp} {ps qs:List Pc} {n:Nat} (h:AllP H ps n) (h':AllP H qs n):AllP H (ps++qs) n:=fun x hx=>by
  rcases List.mem_append.mp hx with z | z
  · exact h x z
  · exact h' x z
theorem while_of {c:TT} {tb:TS} {D:Ends} {σ:St} {H:Hp} (Pv:St→Hp→Prop) (μ:St→Hp→Nat) (h0:Pv σ H)
    (hs:∀σ H,Pv σ H→∀R:Bool→Hp→Prop,(∀H1,(∀M:St→Hp→Prop,(∀σ' H',Pv σ' H'→μ σ' H'<μ σ H→M σ' H')→tb { D with nx:=M,ct:=M,bk:=D.nx } σ H1)→R true H1)→(∀H1,D.nx σ H1→R false H1)→c σ H R):tWhile c tb D σ H:=by
  refine ⟨fun m σ H=>m=μ σ H∧Pv σ H,⟨_,rfl,h0⟩,?_⟩
  rintro m σ H ⟨rfl,p⟩
  refine hs σ H p _ (fun H1 q=>?_) (fun H1 q=>?_)
  · rw [if_pos rfl]
    exact ⟨fun σ' H'=>Pv σ' H'∧μ σ' H'<μ σ H,fun σ' H' ⟨p',l⟩=>⟨_,l,rfl,p'⟩,q _ fun _ _ a b=>⟨a,b⟩⟩
  · rw [if_neg Bool.false_ne_true]
    exact q

noncomputable def Seg (es:List Nn) (i:Nat) (ls:List (List Nn)) (c:List Nn):Prop:=(ls++[c]).filter (fun r=>!r.isEmpty)=parts nsm es i∧(inRun nsm es i=true↔c≠[])
theorem seg_gap {es:List Nn} {i:Nat} {ls:List (List Nn)} {c:List Nn} {e:Nn} (h:Seg es i ls c) (he:es[i]?=some e) (hs:nsm e=false):Seg es (i+1) (ls++[c]) []:=by
  obtain ⟨h1,h2⟩:=h
  refine ⟨?_,?_⟩
  · rw [parts_gap he hs,← h1,List.filter_append (l₁:=ls++[c])]
    simp
  · rw [inRun_succ he,hs]
    simp
theorem seg_on {es:List Nn} {i:Nat} {ls:List (List Nn)} {c:List Nn} {e:Nn} (h:Seg es i ls c) (he:es[i]?=some e) (hs:nsm e=true):Seg es (i+1) ls (c++[e]):=by
  obtain ⟨h1,h2⟩:=h
  refine ⟨?_,?_⟩
  · rw [List.filter_append] at h1 ⊢
    cases hi:inRun nsm es i with
    | true=>
      have hc:=h2.mp hi
      have:(!c.isEmpty)=true:=by cases c with | nil=>exact absurd rfl hc | cons a b=>rfl
      rw [List.filter_cons,this,if_pos rfl,List.filter_nil] at h1
      rw [parts_on he hs hi h1.symm]
      simp
    | false=>
      have hc:c=[]:=Classical.byContradiction fun z=>by rw [h2.mpr z] at hi;cases hi
      subst hc
      rw [parts_new he hs hi,← h1]
      simp
  · rw [inRun_succ he,hs]
    simp
structure VL (H H2:Hp) (T:Addr) (ls:List (Addr×List V)):Prop where
  new:H T=none
  at_:H2 T=some (.lst (ls.map fun x=>V.ref x.1))
  each:∀x∈ls,H x.1=none∧H2 x.1=some (.lst x.2)∧x.1≠T
  nd:(ls.map (·.1)).Nodup
section
variable {H H2 H3:Hp} {T R:Addr} {ls:List (Addr×List V)} {rn:List V}
theorem VL.up (h:VL H H2 T ls) (s:Same H2 H3):VL H H3 T ls:=⟨h.new,s _ _ h.at_,fun x hx=>let ⟨a,b,c⟩:=h.each x hx;⟨a,s _ _ b,c⟩,h.nd⟩
theorem VL.push (h:VL H H2 T ls) (hR:H R=none) (eR:H2 R=some (.lst rn)) (hT:R≠T) (hl:∀x∈ls,x.1≠R):VL H (upd H2 T (.lst (ls.map (fun x=>V.ref x.1)++[.ref R]))) T (ls++[(R,rn)]):=by
  refine ⟨h.new,by rw [upd_same];simp,fun x hx=>?_,?_⟩
  · rcases List.mem_append.mp hx with z | z
    · obtain ⟨a,b,c⟩:=h.each x z
      exact ⟨a,by rw [upd_ne c];exact b,c⟩
    · obtain rfl:x=(R,rn):=by simpa using z
      exact ⟨hR,by rw [upd_ne hT];exact eR,hT⟩
  · rw [List.map_append]
    refine List.nodup_append.mpr ⟨h.nd,by simp,fun a ha b hb=>?_⟩
    obtain ⟨x,hx,rfl⟩:=List.mem_map.mp ha
    obtain rfl:b=R:=by simpa using hb
    exact hl x hx
theorem VL.last {L:Addr} {c:List V} {x:V} (h:VL H H2 T (ls++[(L,c)])):VL H (upd H2 L (.lst (c++[x]))) T (ls++[(L,c++[x])]):=by
  obtain ⟨hL,eL,nL⟩:=h.each (L,c) (by simp)
  have hnd:=h.nd
  rw [List.map_append] at hnd
  have hne:∀y∈ls,y.1≠L:=fun y hy z=>(List.nodup_append.mp hnd).2.2 y.1 (List.mem_map.mpr ⟨y,hy,rfl⟩) L (by simp) z
  refine ⟨h.new,?_,fun y hy=>?_,by rw [List.map_append];exact hnd⟩
  · rw [upd_ne (Ne.symm nL)]
    have:=h.at_
    simpa using this
  · rcases List.mem_append.mp hy with z | z
    · obtain ⟨a,b,c'⟩:=h.each y (List.mem_append_left _ z)
      exact ⟨a,by rw [upd_ne (hne y z)];exact b,c'⟩
    · obtain rfl:y=(L,c++[x]):=by simpa using z
      exact ⟨hL,upd_same,nL⟩
end
noncomputable abbrev Nls:=List (Addr×List Nn)
noncomputable def nvl (ls:Nls):List (Addr×List V):=ls.map fun x=>(x.1,nvals x.2)
noncomputable def spNRuns:Sp:=fun vs H Q _=>∃(l:Addr) (es:List Nn) (m n:Nat),vs=[.ref l]∧H l=some (.lst (nvals es))∧NRow H es m n∧es.length≤40 ∧
  ∀(D:Addr) (ls:Nls) (H':Hp),Same H H'→H D=none→H' D=some (.lst (ls.map fun x=>V.ref x.1))→(∀x∈ls,H x.1=none∧H' x.1=some (.lst (nvals x.2)))→ls.map (·.2)=parts nsm es es.length→Q (.ref D) H'
section
variable {P:Program} {w:World} {K:PySem.W.Frag} {mg:Str→Option Value} {base:Heap} {f:Addr} {fd:FuncData}
theorem sc_law_runs:FnScope ["_law_row_here","_law_parts","_law_one"] ["_law_row_here"] (defScope s_law_runs):=⟨rfl,rfl,rfl,by decide +kernel,rfl,by decide +kernel,by decide +kernel⟩
theorem ok_law_runs (F:Fun K "_law_runs" "_law_runs" s_law_runs f fd) (T:Txt mg):FnOk P w K mg base CX0 1 f fd ["_law_row_here"] spNRuns:=by
  refine F.ok sc_law_runs (fun vs H Q E h=>?_) (fun cdv A outer s H vs Q E hr h=>?_)
  · obtain ⟨l,es,m,n,rfl,_⟩:=h
    rfl
  obtain ⟨l,es,m,n,rfl,hl,hes,hn,k⟩:=h
  refine J.q ⟨_,(J.f (J.i (i:=1) sc_law_runs.nd rfl (Or.inl rfl) (J.s (J.b (J.s J.d) J.d st_L)) (hs:=sw_L))
      (J.f (J.ae PassesOwn.never rfl (J.aa K (J.a 0)) (J.u (i:=2) sc_law_runs.nd rfl (Or.inl rfl))
      (J.h (J.m (J.j op_isN (J.e (ixT K) (J.a 2) J.c (fun _ _=>rfl)) J.w (nomark _))
      (J.h (J.y (J.ac K (J.a 1) (J.s J.d)) (hs:=sw_K)))
      (J.h (J.y (J.ac K (J.e (ixL K) (J.a 1) (J.ag un_neg J.c) (fun _ _=>rfl)) (J.a 2)) (hs:=sw_K))))))
      (J.h (J.l (J.ao (O:=["_law_part"]) (N':=[]) (cap:=[]) rfl (J.aa K (J.a 1)) (fun _ _ _ _ _=>(J.u (i:=0) (show List.Nodup [("_law_part":Str)] by decide +kernel) rfl (Or.inl rfl))) (fun _ _ _ _ _=>(Jd.pts_one (J.j op_gt (J.p (lenC K) rfl T.len_ PySem.boot_len (J.b (J.a 0) J.d st_N) (he:=st_N) (hpl:=any0)) J.c (nomark _)))) (fun _ _ _ _ _=>(J.a 0)) rfl trivial rfl (by decide +kernel) rfl (by decide +kernel)))))),?_⟩
  walk_at "v"
  refine r_new (mk:=.lst) (by simp) fun L0 H1 s1 n1 e1=>?_
  walk_at "v"
  refine r_new (mk:=.lst) (by simp) fun TT H2 s2 n2 e2=>?_
  have s02:=s1.trans s2
  walk_at "v"
  refine r_for (r_iL ?_)
  walk_at "v"
  refine ⟨l,rfl,⟨_,SqL.of (s02 _ _ hl)⟩,for_list (xs:=nvals es) (fun i σ H3=>∃(ls:Nls) (L:Addr) (c:List Nn) (v:Option V),σ=[some (.ref l),some (.ref TT),v]∧Same H H3∧VL H H3 TT (nvl ls++[(L,nvals c)])∧ls.length≤i∧c.length≤i∧Seg es i (ls.map (·.2)) c) ?_ ?_ ?_ ?_⟩
  · refine ⟨[],L0,[],none,rfl,s02,⟨s1.free n2,e2,fun x hx=>?_,by simp [nvl]⟩,Nat.le_refl _,Nat.le_refl _,rfl,by simp [inRun]⟩
    obtain rfl:x=(L0,[]):=by simpa [nvl,nvals] using hx
    exact ⟨n1,s2 _ _ e1,fun z=>by rw [← z] at n2;exact absurd (n2.symm.trans e1) (by simp)⟩
  · rintro i σ H3 _ ⟨ls,L,c,v,rfl,s3,_⟩
    exact SqL.of (s3 _ _ hl)
  · rintro i x σ H3 hx ⟨ls,L,c,v,rfl,s3,hV,hls,hc,hseg⟩
    refine body_cut fun M B R hM _ _=>?_
    obtain ⟨e,he,rfl⟩:=nvals_at hx
    have hi:i<es.length:=(List.getElem?_eq_some_iff.mp he).1
    have fe:=((hes e (List.mem_of_getElem? he)).up s3).1
    have hat:=hV.at_
    walk_at "v"
    refine ⟨rfl,?_⟩
    walk_at "v"
    cases hs:e.2.2 with
    | none=>
      have hs':nsm e=false:=by unfold nsm;rw [hs];rfl
      refine iteT ?_
      walk_at "v"
      refine ⟨.inl ⟨rfl,_,SqL.of hat⟩,?_⟩
      walk_at "v"
      refine r_new (mk:=.lst) (by simp) fun R2 H4 s4 n4 e4=>?_
      walk_at "v"
      have hV4:=hV.up s4
      refine r_app hV4.at_ (by simp [nvl];exact small1000 (by walk_at "o")) ?_
      have hold:∀x∈nvl ls++[(L,nvals c)],x.1≠R2:=fun x hx z=>by
        rw [← z,(hV.each x hx).2.1] at n4
        cases n4
      refine hM _ _ ⟨ls++[(L,c)],R2,[],_,rfl,same_at (s3.trans s4) hV.new,?_,by simp;walk_at "o",Nat.zero_le _,?_⟩
      · have:=hV4.push (s3.free n4) e4 (fun z=>by rw [z,hat] at n4;cases n4) hold
        rw [show nvl (ls++[(L,c)])=nvl ls++[(L,nvals c)] by simp [nvl]]
        exact this
      · rw [List.map_append]
        exact seg_gap hseg he hs'
    | some z=>
      have hs':nsm e=true:=by unfold nsm;rw [hs];rfl
      refine iteF ?_
      walk_at "v"
      refine r_l hat (v:=.ref L) (by rw [List.map_append];exact at_last) ?_
      have eL:=(hV.each (L,nvals c) (by simp)).2.1
      refine ⟨.inl ⟨rfl,_,SqL.of eL⟩,?_⟩
      walk_at "v"
      refine r_app eL (by rw [nvals_len];exact small1000 (by walk_at "o")) ?_
      refine hM _ _ ⟨ls,L,c++[e],_,rfl,same_at s3 (hV.each (L,nvals c) (by simp)).1,?_,by walk_at "o",by simp;walk_at "o",seg_on hseg he hs'⟩
      rw [← nvals_snoc]
      exact hV.last
  · rintro σ H3 ⟨ls,L,c,v,rfl,s3,hV,hls,hc,hseg⟩
    walk_at "v"
    refine r_iL ?_
    walk_at "v"
    rw [nvals_len] at hls hc hseg
    have hall:(nvl ls++[(L,nvals c)])=nvl (ls++[(L,c)]):=by simp [nvl]
    rw [hall] at hV
    have hat:=hV.at_
    generalize hus:ls++[(L,c)]=us at *
    have hul:us.length≤41:=by rw [← hus];simp;walk_at "o"
    have eu:(nvl us).map (fun x=>V.ref x.1)=us.map fun x=>V.ref x.1:=by unfold nvl;rw [List.map_map];rfl
    rw [eu] at hat
    refine ⟨TT,rfl,⟨_,SqL.of hat⟩,?_⟩
    refine compB_of (xs:=us.map fun x=>V.ref x.1) tells_list (fun H4 s4=>SqL.of (s4 _ _ hat)) (by rw [List.length_map];walk_at "o") (fun i ys G=>ys=((us.take i).filter fun x=>!x.2.isEmpty).map fun x=>V.ref x.1) rfl ?_ ?_
    · rintro D i x ys H4 σ0 NN N0 h0 hD eD s4 hx hy rfl kY kN
      rw [List.getElem?_map] at hx
      obtain ⟨x,gx,rfl⟩:=Option.map_eq_some_iff.mp hx
      have ex:=(hV.each (x.1,nvals x.2) (List.mem_map.mpr ⟨x,List.mem_of_getElem? gx,rfl⟩)).2.1
      have ts:=PySem.take_succ_filter (fun x:Addr×List Nn=>!x.2.isEmpty) us i x gx
      refine r_own1 h0 ?_
      walk_at "v"
      refine r_len (.inl (SqL.of (s4 _ _ ex))) ?_
      rw [nvals_len]
      walk_at "v"
      refine ite2 (fun c1=>?_) (fun c1=>?_)
      · have c1':=of_decide_eq_true c1
        walk_at "v"
        refine kY _ H4 (Same.refl _) ?_
        have:(!x.2.isEmpty)=true:=by cases hx2:x.2 with | nil=>rw [hx2] at c1';exact absurd c1' (by simp) | cons a b=>rfl
        rw [ts,this,if_pos rfl,List.map_append]
        rfl
      · refine kN H4 (Same.refl _) ?_
        have:(!x.2.isEmpty)=false:=by cases hx2:x.2 with | nil=>rfl | cons a b=>rw [hx2] at c1;exact absurd (decide_eq_true (show (0:Int)<(((a::b).length:Nat):Int) by rw [List.length_cons];omega)) c1
        rw [ts,this,if_neg Bool.false_ne_true,List.append_nil]
    · rintro D ys H4 hD eD s4 hy rfl
      rw [List.length_map,List.take_length] at eD
      refine k D _ H4 (s3.trans s4) (s3.free hD) eD (fun x hx=>?_) ?_
      · have hx':=hV.each (x.1,nvals x.2) (List.mem_map.mpr ⟨x,(List.mem_filter.mp hx).1,rfl⟩)
        exact ⟨hx'.1,s4 _ _ hx'.2.1⟩
      · have e:=hseg.1
        rw [← e,show ls.map (·.2)++[c]=us.map (·.2) by rw [← hus];simp,List.filter_map]
        rfl
end
noncomputable def gh (hs:List Nn) (b:Int):List En:=hs.map fun x=>(x.1,nworth b x.2)
theorem gh_map (hs:List Nn) (b:Int):(gh hs b).map (·.2)=hs.map (fun x=>nworth b x.2):=by unfold gh;rw [List.map_map];rfl
noncomputable def fdat (q:Rat):PyData:=.tuple [.int q.num,.int (q.den:Int)]
noncomputable def pdat (v:Rat×Rat×Rat×Rat):PyData:=.tuple [fdat v.1,fdat v.2.1,fdat v.2.2.1,fdat v.2.2.2]
theorem FrAt.fden {H:Hp} {p:Addr} {q:Rat} {n:Nat} (f:FrAt H p q n):Den H (.ref p) (fdat q):=by
  obtain ⟨t,b,e,g,_⟩:=f
  obtain ⟨rfl,rfl⟩:=g.num_den
  exact .tup e (.cons (.int _) (.cons (.int _) .nil))
theorem AllP.dens {H:Hp} {n:Nat}:∀{ps:List Pc},AllP H ps n→Dens H (prefs ps) (ps.map fun x=>pdat x.2)
  | [],_=>.nil
  | x::ps,h=>by
    obtain ⟨a,b,c,d,e,f1,f2,f3,f4⟩:=h x List.mem_cons_self
    exact .cons (.tup e (.cons (FrAt.fden f1) (.cons (FrAt.fden f2) (.cons (FrAt.fden f3) (.cons (FrAt.fden f4) .nil))))) (AllP.dens fun y hy=>h y (List.mem_cons_of_mem _ hy))
theorem pdat_eqv (v:Rat×Rat×Rat×Rat):PyData.eqv (pdat v) (pdat v)=true:=by
  have one:∀q:Rat,PyData.eqv (fdat q) (fdat q)=true:=fun q=>by
    show (q.num==q.num&&((q.den:Int)==(q.den:Int)&&true))=true
    simp
  show (PyData.eqv (fdat v.1) (fdat v.1)&&(PyData.eqv (fdat v.2.1) (fdat v.2.1)&&(PyData.eqv (fdat v.2.2.1) (fdat v.2.2.1)&&(PyData.eqv (fdat v.2.2.2) (fdat v.2.2.2)&&true))))=true
  rw [one,one,one,one]
  rfl
theorem pdats_eqv:∀vs:List (Rat×Rat×Rat×Rat),PyData.eqvAll (vs.map pdat) (vs.map pdat)=true
  | []=>rfl
  | v::vs=>by
    show (PyData.eqv (pdat v) (pdat v)&&PyData.eqvAll (vs.map pdat) (vs.map pdat))=true
    rw [pdat_eqv,pdats_eqv vs];rfl
theorem pdats_shape:∀vs:List (Rat×Rat×Rat×Rat),PyData.canLayAll0 (vs.map pdat)=true∧PyData.depthAll (vs.map pdat)≤3
  | []=>⟨rfl,by decide⟩
  | v::vs=>by
    obtain ⟨c,d⟩:=pdats_shape vs
    refine ⟨?_,?_⟩
    · show ((pdat v).canLay0&&PyData.canLayAll0 (vs.map pdat))=true
      rw [c];rfl
    · show max (pdat v).depth (PyData.depthAll (vs.map pdat))≤3
      have:(pdat v).depth≤3:=by simp [pdat,fdat,PyData.depth,PyData.depthAll]
      walk_at "o"
theorem pieces_eq {H:Hp} {l l':Addr} {ps ps':List Pc} {n n':Nat} {Q:VK} (h:AllP H ps n) (h':AllP H ps' n') (hl:H l=some (.lst (prefs ps))) (hl':H l'=some (.lst (prefs ps'))) (e:ps.map (·.2)=ps'.map (·.2)) (q:Q (.bl true) H):rEqD (.ref l) (.ref l') H Q:=by
  have sh:∀vs:List (Rat×Rat×Rat×Rat),SeqAt.shaped (.list (vs.map pdat))=true:=fun vs=>by
    obtain ⟨a,b⟩:=pdats_shape vs
    unfold SeqAt.shaped
    rw [Bool.and_eq_true]
    refine ⟨a,decide_eq_true ?_⟩
    show PyData.depthAll (vs.map pdat)+1≤64
    walk_at "o"
  have d1:=h.dens
  have d2:=h'.dens
  rw [show (ps.map fun x=>pdat x.2)=(ps.map (·.2)).map pdat by rw [List.map_map];rfl] at d1
  rw [show (ps'.map fun x=>pdat x.2)=(ps'.map (·.2)).map pdat by rw [List.map_map];rfl] at d2
  refine ⟨_,_,.lst hl d1,.lst hl' d2,sh _,sh _,?_⟩
  rw [e]
  have:PyData.eqv (.list ((ps'.map (·.2)).map pdat)) (.list ((ps'.map (·.2)).map pdat))=true:=pdats_eqv _
  rw [this]
  exact q
theorem PcAt.mono {H:Hp} {x:Pc} {n m:Nat} (f:PcAt H x n) (h:n≤m):PcAt H x m:=by
  obtain ⟨a,b,c,d,e,f1,f2,f3,f4⟩:=f
  exact ⟨a,b,c,d,e,f1.mono h,f2.mono h,f3.mono h,f4.mono h⟩
section
variable {P:Program} {w:World} {K:PySem.W.Frag} {mg:Str→Option Value} {base:Heap} {f:Addr} {fd:FuncData}
end

theorem parts_map {α β:Type} (f:α→β) (s:β→Bool) (es:List α):∀i,(parts (fun x=>s (f x)) es i).map (List.map f)=parts s (es.map f) i
  | 0=>rfl
  | i+1=>by
    have ih:=parts_map f s es i
    have hr:inRun s (es.map f) i=inRun (fun x=>s (f x)) es i:=by
      unfold inRun
      rw [List.getElem?_map]
      cases es[i-1]? <;> rfl
    cases e:es[i]? with
    | none=>
      have e':(es.map f)[i]?=none:=by rw [List.getElem?_map,e];rfl
      unfold parts
      rw [e,e']
      exact ih
    | some x=>
      have e':(es.map f)[i]?=some (f x):=by rw [List.getElem?_map,e];rfl
      cases hs:s (f x) with
      | false=>rw [parts_gap (s:=fun x=>s (f x)) e hs,parts_gap e' hs,ih]
      | true=>
        cases hi:inRun (fun x=>s (f x)) es i with
        | false=>rw [parts_new (s:=fun x=>s (f x)) e hs hi,parts_new e' hs (hr.trans hi),List.map_append,ih];rfl
        | true=>
          obtain ⟨t,r,hp⟩:=parts_ne hi
          rw [parts_on (s:=fun x=>s (f x)) e hs hi hp,parts_on e' hs (hr.trans hi) (t:=t.map (List.map f)) (r:=r.map f) (by rw [← ih,hp,List.map_append];rfl)]
          simp
theorem each2_of {α β γ:Type} {f:α→γ} {g:β→γ}:∀{as:List α} {bs:List β},as.map f=bs.map g→Each2 (fun a b=>f a=g b) as bs
  | [],[],_=>trivial
  | _::_,_::_,h=>⟨(List.cons.inj h).1,each2_of (List.cons.inj h).2⟩
  | [],_::_,h=>nomatch h
  | _::_,[],h=>nomatch h
theorem runs_same {es:List En} {hs:List Nn} {b:Int} (h:es.map (·.2)=hs.map (fun x=>nworth b x.2)):Each2 (fun r r'=>r.map (·.2)=(gh r' b).map (·.2)) (parts smp es es.length) (parts nsm hs hs.length):=by
  have hl:es.length=hs.length:=link_len h
  refine each2_imp (R:=fun r r'=>r.map (·.2)=r'.map fun x=>nworth b x.2) (fun r r' _ e=>by rw [gh_map];exact e) (each2_of ?_)
  have a:=parts_map (fun x:En=>x.2) (fun v:Int×Option Rat=>v.2.isSome) es es.length
  have c:=parts_map (fun x:Nn=>nworth b x.2) (fun v:Int×Option Rat=>v.2.isSome) hs hs.length
  have e2:(fun x:Nn=>(nworth b x.2).2.isSome)=nsm:=funext fun x=>by unfold nworth nsm;simp
  rw [show (fun x:Nn=>(fun v:Int×Option Rat=>v.2.isSome) (nworth b x.2))=nsm from e2] at c
  have a':(parts smp es es.length).map (List.map fun x:En=>x.2)=parts (fun v:Int×Option Rat=>v.2.isSome) (es.map fun x=>x.2) es.length:=a
  rw [a',c,h,hl]

theorem fr_neD {H:Hp} {p r:Addr} {q q':Rat} {n m:Nat} {Q:VK} (f:FrAt H p q n) (f':FrAt H r q' m) (k:Q (.bl (!decide (q=q'))) H):rNeD (.ref p) (.ref r) H Q:=by
  obtain ⟨t,b,e,g,_⟩:=f
  obtain ⟨t',b',e',g',_⟩:=f'
  refine ⟨_,_,.tup e (.cons (.int _) (.cons (.int _) .nil)),.tup e' (.cons (.int _) (.cons (.int _) .nil)),rfl,rfl,?_⟩
  rw [fr_eqv g g']
  exact k
theorem fr_eqD {H:Hp} {p r:Addr} {q q':Rat} {n m:Nat} {Q:VK} (f:FrAt H p q n) (f':FrAt H r q' m) (k:Q (.bl (decide (q=q'))) H):rEqD (.ref p) (.ref r) H Q:=by
  obtain ⟨t,b,e,g,_⟩:=f
  obtain ⟨t',b',e',g',_⟩:=f'
  refine ⟨_,_,.tup e (.cons (.int _) (.cons (.int _) .nil)),.tup e' (.cons (.int _) (.cons (.int _) .nil)),rfl,rfl,?_⟩
  rw [fr_eqv g g']
  exact k
noncomputable abbrev P4:=Rat×Rat×Rat×Rat
noncomputable abbrev Pt:=Int×Rat
noncomputable def has (p:P4) (m:Rat):Prop:=p.1≤m∧m≤p.2.2.1
noncomputable def hgt (p:P4) (m:Rat):Rat:=if p.1=p.2.2.1 then p.2.1 else p.2.1+(p.2.2.2-p.2.1)*((m-p.1)/(p.2.2.1-p.1))
noncomputable def prise (ds:List Pt):Prop:=ds.Pairwise fun a b=>a.1<b.1
inductive LooseP:List Pt→List P4→Prop
  | nil:LooseP [] []
  | cons {x y:Pt} {sg rest:List Pt} {p:P4} {ps:List P4} (k:Nat):sg.length=k+1→sg[0]?=some x→sg[k]?=some y→p.1=(x.1:Rat)→p.2.2.1=(y.1:Rat)→LooseP rest ps→LooseP (sg++rest) (p::ps)
structure Nds (ds:List Pt) (ps:List P4) (nd:Nat→Rat×Rat):Prop where
  two:2≤ds.length
  pos:1≤ps.length
  at_:∀k,k<ps.length→ps[k]?=some ((nd k).1,(nd k).2,(nd (k+1)).1,(nd (k+1)).2)
  lt:∀k,k<ps.length→(nd k).1<(nd (k+1)).1
  first:∃x,ds[0]?=some x∧(nd 0).1=(x.1:Rat)
  last:∃y,ds[ds.length-1]?=some y∧(nd ps.length).1=(y.1:Rat)
noncomputable def HungP (ds:List Pt) (ps:List P4):Prop:=(∃(x:Pt) (h:Rat),ds=[x]∧ps=[((x.1:Rat),h,(x.1:Rat),h)])∨∃nd,Nds ds ps nd
structure ShpW (hung tied:Bool) (ds:List Pt) (ps:List P4):Prop where
  one:∀p∈ps,p.1=p.2.2.1→p.2.1=p.2.2.2
  lie:if hung=true then HungP ds ps else LooseP ds ps
  tie:tied=true→∀p∈ps,(∃d∈ds,p.1=(d.1:Rat)∧p.2.1=d.2)∧∃d∈ds,p.2.2.1=(d.1:Rat)∧p.2.2.2=d.2
structure Fit4 (ds:List Pt) (ps:List P4):Prop where
  cov:∀d∈ds,∃p∈ps,has p d.1
  one:∀d∈ds,∀p∈ps,∀q∈ps,has p d.1→has q d.1→hgt p d.1=hgt q d.1
  inn:∀p∈ps,∀m,has p m→(∃a∈ds,(a.1:Rat)≤m)∧∃b∈ds,m≤(b.1:Rat)
theorem prise_lt {ds:List Pt} (h:prise ds) {i j:Nat} {x y:Pt} (hij:i<j) (hx:ds[i]?=some x) (hy:ds[j]?=some y):x.1<y.1:=by
  obtain ⟨h1,rfl⟩:=List.getElem?_eq_some_iff.mp hx
  obtain ⟨h2,rfl⟩:=List.getElem?_eq_some_iff.mp hy
  exact List.pairwise_iff_getElem.mp h i j h1 h2 hij
theorem prise_le {ds:List Pt} (h:prise ds) {i j:Nat} {x y:Pt} (hij:i≤j) (hx:ds[i]?=some x) (hy:ds[j]?=some y):x.1≤y.1:=by
  rcases Nat.lt_or_ge i j with z | z
  · exact Int.le_of_lt (prise_lt h z hx hy)
  · obtain rfl:i=j:=by omega
    rw [hx] at hy
    cases hy
    exact Int.le_refl _
theorem LooseP.ends {ds:List Pt} {ps:List P4} (h:LooseP ds ps):∀p∈ps,(∃a∈ds,p.1=(a.1:Rat))∧∃b∈ds,p.2.2.1=(b.1:Rat):=by
  induction h with
  | nil=>intro p hp;simp at hp
  | cons k hk hx hy e1 e2 _ ih=>
    intro q hq
    rcases List.mem_cons.mp hq with rfl | hq
    · exact ⟨⟨_,List.mem_append_left _ (List.mem_of_getElem? hx),e1⟩,⟨_,List.mem_append_left _ (List.mem_of_getElem? hy),e2⟩⟩
    · obtain ⟨⟨a,ha,ea⟩,⟨b,hb,eb⟩⟩:=ih q hq
      exact ⟨⟨a,List.mem_append_right _ ha,ea⟩,⟨b,List.mem_append_right _ hb,eb⟩⟩
theorem LooseP.fit {ds:List Pt} {ps:List P4} (h:LooseP ds ps):prise ds→Fit4 ds ps:=by
  induction h with
  | nil=>exact fun _=>⟨fun d hd=>by simp at hd,fun d hd=>by simp at hd,fun p hp=>by simp at hp⟩
  | @cons x y sg rest p ps k hk hx hy e1 e2 hl ih=>
    intro hr
    obtain ⟨r1,r2,r3⟩:=List.pairwise_append.mp hr
    have F:=ih r2
    have sgl:∀d∈sg,x.1≤d.1∧d.1≤y.1:=fun d hd=>by
      obtain ⟨i,hi,rfl⟩:=List.mem_iff_getElem.mp hd
      have g:sg[i]?=some sg[i]:=List.getElem?_eq_getElem hi
      exact ⟨prise_le r1 (Nat.zero_le _) hx g,prise_le r1 (by omega) g hy⟩
    have ym:=List.mem_of_getElem? hy
    have nq:∀d∈sg,∀q∈ps,¬has q d.1:=fun d hd q hq hh=>by
      obtain ⟨⟨a,ha,ea⟩,_⟩:=hl.ends q hq
      have:=r3 d hd a ha
      have h1:=hh.1
      rw [ea] at h1
      have:=Rat.intCast_le_intCast.mp h1
      omega
    have np:∀d∈rest,¬has p d.1:=fun d hd hh=>by
      have:=r3 y ym d hd
      have h1:=hh.2
      rw [e2] at h1
      have:=Rat.intCast_le_intCast.mp h1
      omega
    refine ⟨fun d hd=>?_,fun d hd q hq q' hq' h1 h2=>?_,fun q hq m hm=>?_⟩
    · rcases List.mem_append.mp hd with z | z
      · obtain ⟨a,b⟩:=sgl d z
        exact ⟨p,List.mem_cons_self,by rw [e1];exact Rat.intCast_le_intCast.mpr a,by rw [e2];exact Rat.intCast_le_intCast.mpr b⟩
      · obtain ⟨q,hq,hh⟩:=F.cov d z
        exact ⟨q,List.mem_cons_of_mem _ hq,hh⟩
    · rcases List.mem_append.mp hd with z | z
      · rcases List.mem_cons.mp hq with rfl | hq
        · rcases List.mem_cons.mp hq' with rfl | hq'
          · rfl
          · exact absurd h2 (nq d z q' hq')
        · exact absurd h1 (nq d z q hq)
      · rcases List.mem_cons.mp hq with rfl | hq
        · exact absurd h1 (np d z)
        · rcases List.mem_cons.mp hq' with rfl | hq'
          · exact absurd h2 (np d z)
          · exact F.one d z q hq q' hq' h1 h2
    · rcases List.mem_cons.mp hq with rfl | hq
      · exact ⟨⟨x,List.mem_append_left _ (List.mem_of_getElem? hx),by rw [← e1];exact hm.1⟩,⟨y,List.mem_append_left _ ym,by rw [← e2];exact hm.2⟩⟩
      · obtain ⟨⟨a,ha,ea⟩,⟨b,hb,eb⟩⟩:=F.inn q hq m hm
        exact ⟨⟨a,List.mem_append_right _ ha,ea⟩,⟨b,List.mem_append_right _ hb,eb⟩⟩
theorem Nds.le {ds:List Pt} {ps:List P4} {nd:Nat→Rat×Rat} (h:Nds ds ps nd) {i j:Nat} (hij:i≤j) (hj:j≤ps.length):(nd i).1≤(nd j).1:=by
  induction j with
  | zero=>
    obtain rfl:i=0:=by omega
    exact Rat.le_refl
  | succ j ih=>
    rcases Nat.lt_or_ge i (j+1) with z | z
    · have:=ih (by omega) (by omega)
      have:=h.lt j (by omega)
      grind
    · obtain rfl:i=j+1:=by omega
      exact Rat.le_refl
theorem Nds.find {ds:List Pt} {ps:List P4} {nd:Nat→Rat×Rat} (h:Nds ds ps nd) {m:Rat} (h0:(nd 0).1≤m):∀n,n≤ps.length→m≤(nd n).1→1≤n→∃k,k<n∧(nd k).1≤m∧m≤(nd (k+1)).1
  | 0,_,_,h1=>absurd h1 (by omega)
  | n+1,hn,hm,_=>by
    by_cases c:(nd n).1≤m
    · exact ⟨n,by omega,c,hm⟩
    · cases n with
      | zero=>exact absurd h0 c
      | succ n=>
        obtain ⟨k,hk,a,b⟩:=h.find h0 (n+1) (by omega) (by grind) (by omega)
        exact ⟨k,by omega,a,b⟩
theorem HungP.fit {ds:List Pt} {ps:List P4} (h:HungP ds ps) (hr:prise ds):Fit4 ds ps:=by
  rcases h with ⟨x,h,rfl,rfl⟩ | ⟨nd,N⟩
  · refine ⟨fun d hd=>?_,fun d hd p hp q hq _ _=>?_,fun p hp m hm=>?_⟩
    · obtain rfl:d=x:=by simpa using hd
      exact ⟨_,List.mem_cons_self,Rat.le_refl,Rat.le_refl⟩
    · obtain rfl:=List.mem_singleton.mp hp
      obtain rfl:=List.mem_singleton.mp hq
      rfl
    · obtain rfl:=List.mem_singleton.mp hp
      exact ⟨⟨x,List.mem_cons_self,hm.1⟩,⟨x,List.mem_cons_self,hm.2⟩⟩
  · obtain ⟨x,gx,ex⟩:=N.first
    obtain ⟨y,gy,ey⟩:=N.last
    have mem:∀p∈ps,∃k,k<ps.length∧p=((nd k).1,(nd k).2,(nd (k+1)).1,(nd (k+1)).2):=fun p hp=>by
      obtain ⟨k,hk,e⟩:=List.mem_iff_getElem.mp hp
      have:=N.at_ k hk
      rw [List.getElem?_eq_getElem hk,e] at this
      exact ⟨k,hk,Option.some.inj this⟩
    have join:∀(k k':Nat) (m:Rat),k<k'→k'<ps.length→has ((nd k).1,(nd k).2,(nd (k+1)).1,(nd (k+1)).2) m→has ((nd k').1,(nd k').2,(nd (k'+1)).1,(nd (k'+1)).2) m →
        hgt ((nd k).1,(nd k).2,(nd (k+1)).1,(nd (k+1)).2) m=hgt ((nd k').1,(nd k').2,(nd (k'+1)).1,(nd (k'+1)).2) m:=fun k k' m hk hk' h1 h2=>by
      have a1:=h1.2
      have a2:=h2.1
      dsimp only at a1 a2
      have l1:=N.le (show k+1≤k' by omega) (by omega)
      have e1:m=(nd (k+1)).1:=by grind
      have e2:(nd k').1=(nd (k+1)).1:=by grind
      have ek:k'=k+1:=by
        rcases Nat.lt_or_ge (k+1) k' with z | z
        · have:=N.lt (k+1) (by omega)
          have:=N.le (show k+1+1≤k' by omega) (by omega)
          grind
        · omega
      subst ek
      have n1:=N.lt k (by omega)
      have n2:=N.lt (k+1) hk'
      unfold hgt
      dsimp only
      rw [if_neg (by grind),if_neg (by grind),e1]
      have d1:(nd (k+1)).1-(nd k).1≠0:=by grind
      generalize (nd (k+1)).1=b at *
      generalize (nd k).1=a at *
      generalize (nd k).2=u at *
      generalize (nd (k+1)).2=v at *
      have:(b-a)/(b-a)=1:=by grind
      rw [this]
      have:(b-b)/((nd (k+1+1)).1-b)=0:=by rw [Rat.sub_self,Rat.div_def,Rat.zero_mul]
      rw [this]
      grind
    refine ⟨fun d hd=>?_,fun d hd p hp q hq h1 h2=>?_,fun p hp m hm=>?_⟩
    · obtain ⟨i,hi,rfl⟩:=List.mem_iff_getElem.mp hd
      have g:ds[i]?=some ds[i]:=List.getElem?_eq_getElem hi
      have l0:=prise_le hr (Nat.zero_le i) gx g
      have l1:=prise_le hr (show i≤ds.length-1 by omega) g gy
      obtain ⟨k,hk,a,b⟩:=N.find (m:=(ds[i].1:Rat)) (by rw [ex];exact Rat.intCast_le_intCast.mpr l0) ps.length (Nat.le_refl _) (by rw [ey];exact Rat.intCast_le_intCast.mpr l1) N.pos
      exact ⟨_,List.mem_of_getElem? (N.at_ k hk),a,b⟩
    · obtain ⟨k,hk,rfl⟩:=mem p hp
      obtain ⟨k',hk',rfl⟩:=mem q hq
      rcases Nat.lt_trichotomy k k' with z | z | z
      · exact join k k' _ z hk' h1 h2
      · rw [z]
      · exact (join k' k _ z hk h2 h1).symm
    · obtain ⟨k,hk,rfl⟩:=mem p hp
      have a:=N.le (Nat.zero_le k) (by omega)
      have b:=N.le (show k+1≤ps.length by omega) (Nat.le_refl _)
      have h1:=hm.1
      have h2:=hm.2
      dsimp only at h1 h2
      exact ⟨⟨x,List.mem_of_getElem? gx,by grind⟩,⟨y,List.mem_of_getElem? gy,by grind⟩⟩
theorem ShpW.fit {hung tied:Bool} {ds:List Pt} {ps:List P4} (h:ShpW hung tied ds ps) (hr:prise ds):Fit4 ds ps:=by
  have l:=h.lie
  cases hung with
  | true=>exact HungP.fit l hr
  | false=>exact LooseP.fit l hr
structure One4 (ds:List Pt) (ps:List P4):Prop where
  cov:∀d∈ds,∃p∈ps,has p d.1
  one:∀d∈ds,∀p∈ps,∀q∈ps,has p d.1→has q d.1→hgt p d.1=hgt q d.1
theorem fits_one:∀{rs:List (List Pt)} {bs:List (List P4)},Each2 Fit4 rs bs→prise rs.flatten→One4 rs.flatten bs.flatten∧∀p∈bs.flatten,∀m,has p m→(∃a∈rs.flatten,(a.1:Rat)≤m)∧∃b∈rs.flatten,m≤(b.1:Rat)
  | [],[],_,_=>⟨⟨fun d hd=>by simp at hd,fun d hd=>by simp at hd⟩,fun p hp=>by simp at hp⟩
  | r::rs,b::bs,h,hr=>by
    rw [List.flatten_cons] at hr
    obtain ⟨r1,r2,r3⟩:=List.pairwise_append.mp hr
    obtain ⟨ih,inn⟩:=fits_one h.2 r2
    have F:=h.1
    rw [List.flatten_cons,List.flatten_cons]
    have nq:∀d∈r,∀q∈bs.flatten,¬has q d.1:=fun d hd q hq hh=>by
      obtain ⟨⟨a,ha,ea⟩,_⟩:=inn q hq d.1 hh
      have:=r3 d hd a ha
      have:=Rat.intCast_le_intCast.mp ea
      omega
    have np:∀d∈rs.flatten,∀q∈b,¬has q d.1:=fun d hd q hq hh=>by
      obtain ⟨_,⟨a,ha,ea⟩⟩:=F.inn q hq d.1 hh
      have:=r3 a ha d hd
      have:=Rat.intCast_le_intCast.mp ea
      omega
    refine ⟨⟨fun d hd=>?_,fun d hd p hp q hq h1 h2=>?_⟩,fun p hp m hm=>?_⟩
    · rcases List.mem_append.mp hd with z | z
      · obtain ⟨p,hp,hh⟩:=F.cov d z
        exact ⟨p,List.mem_append_left _ hp,hh⟩
      · obtain ⟨p,hp,hh⟩:=ih.cov d z
        exact ⟨p,List.mem_append_right _ hp,hh⟩
    · rcases List.mem_append.mp hd with z | z
      · rcases List.mem_append.mp hp with y | y
        · rcases List.mem_append.mp hq with x | x
          · exact F.one d z p y q x h1 h2
          · exact absurd h2 (nq d z q x)
        · exact absurd h1 (nq d z p y)
      · rcases List.mem_append.mp hp with y | y
        · exact absurd h1 (np d z p y)
        · rcases List.mem_append.mp hq with x | x
          · exact absurd h2 (np d z q x)
          · exact ih.one d z p y q x h1 h2
    · rcases List.mem_append.mp hp with y | y
      · obtain ⟨⟨a,ha,ea⟩,⟨c,hc,ec⟩⟩:=F.inn p y m hm
        exact ⟨⟨a,List.mem_append_left _ ha,ea⟩,⟨c,List.mem_append_left _ hc,ec⟩⟩
      · obtain ⟨⟨a,ha,ea⟩,⟨c,hc,ec⟩⟩:=inn p y m hm
        exact ⟨⟨a,List.mem_append_right _ ha,ea⟩,⟨c,List.mem_append_right _ hc,ec⟩⟩
  | [],_::_,h,_=>h.elim
  | _::_,[],h,_=>h.elim
noncomputable def Dv (ds:List Pt) (ps:List P4) (d:Rat):Prop:=∃x∈ds,∃p∈ps,has p x.1∧d=rabs (x.2-hgt p x.1)
structure TopD (ds:List Pt) (ps:List P4) (M:Rat):Prop where
  nn:0≤M
  ub:∀d,Dv ds ps d→d≤M
  at_:M=0∨Dv ds ps M
noncomputable def pts (r:List En):List Pt:=r.map fun x=>(x.2.1,x.2.2.getD 0)
theorem pts_congr {r r':List En} (h:r.map (·.2)=r'.map (·.2)):pts r=pts r':=by
  have e:∀r:List En,pts r=(r.map (·.2)).map fun v=>(v.1,v.2.getD 0):=fun r=>by unfold pts;rw [List.map_map];rfl
  rw [e,e,h]
theorem parts_flat {α:Type} {s:α→Bool} {es:List α}:∀i,(parts s es i).flatten=(es.take i).filter s
  | 0=>rfl
  | i+1=>by
    have ih:=parts_flat (s:=s) (es:=es) i
    cases e:es[i]? with
    | none=>
      have:es.take (i+1)=es.take i:=by rw [List.take_add_one,e];simp
      rw [this,← ih,show parts s es (i+1)=parts s es i by rw [parts,e]]
    | some x=>
      have ts:=PySem.take_succ_filter s es i x e
      rw [ts]
      cases hs:s x with
      | false=>rw [parts_gap e hs,ih,if_neg Bool.false_ne_true,List.append_nil]
      | true=>
        rw [if_pos rfl]
        cases hi:inRun s es i with
        | false=>rw [parts_new e hs hi,List.flatten_append,ih];simp
        | true=>
          obtain ⟨t,r,hp⟩:=parts_ne hi
          rw [parts_on e hs hi hp]
          rw [hp] at ih
          rw [← ih]
          simp

noncomputable def mdat (m:Int):PyData:=.tuple [.int m,.int 1]
theorem fdat_int (m:Int):fdat (m:Rat)=mdat m:=by
  unfold fdat mdat
  rw [Rat.num_intCast,Rat.den_intCast]
  rfl
theorem mdat_eqv (a b:Int):PyData.eqv (mdat a) (mdat b)=decide (a=b):=by
  show (a==b&&((1:Int)==1&&true))=_
  rw [Bool.eq_iff_iff]
  simp
theorem mdat_den {H:Hp} {p:Addr} {m:Int} (h:H p=some (.tup [.int m,.int 1])):Den H (.ref p) (mdat m):=.tup h (.cons (.int _) (.cons (.int _) .nil))
theorem mdats_lay:∀ms:List Int,PyData.canLayAll0 (ms.map mdat)=true
  | []=>rfl
  | m::ms=>by
    show ((mdat m).canLay0&&PyData.canLayAll0 (ms.map mdat))=true
    rw [mdats_lay ms];rfl
theorem mdat_shape (m:Int):SeqAt.shaped (mdat m)=true:=by rfl
theorem mdat_dep (m:Int):(mdat m).depth≤60:=by simp [mdat,PyData.depth,PyData.depthAll]
noncomputable abbrev Fp:=Addr×(Addr×List En)×Pc
noncomputable def FpAt (H:Hp) (x:Fp):Prop:=H x.1=some (.tup [.ref x.2.1.1,.ref x.2.2.1])∧H x.2.1.1=some (.lst (vals x.2.1.2))
noncomputable def AllF (H:Hp) (fs:List Fp):Prop:=∀x∈fs,FpAt H x
theorem AllF.up {H H':Hp} {fs:List Fp} (h:AllF H fs) (s:Same H H'):AllF H' fs:=fun x hx=>⟨s _ _ (h x hx).1,s _ _ (h x hx).2⟩
noncomputable def frefs (fs:List Fp):List V:=fs.map fun x=>V.ref x.1
theorem frefs_len (fs:List Fp):(frefs fs).length=fs.length:=List.length_map ..
theorem AllF.app {H:Hp} {R:Addr} {fs:List Fp} {ys:List V} {o:HO} (h:AllF H fs) (e:H R=some (.lst ys)) (ne:∀x∈fs,x.2.1.1≠R):AllF (upd H R o) fs:=fun x hx=>by
  obtain ⟨a,b⟩:=h x hx
  refine ⟨?_,by rw [upd_ne (ne x hx)];exact b⟩
  rw [upd_ne (fun q=>by rw [q,e] at a;cases a)]
  exact a
structure Cvr (es:List En) (k:Nat) (fs:List Fp):Prop where
  inn:∀x∈fs,∀s∈x.2.1.2,s∈es∧has x.2.2.2 (s.2.1:Rat)
  all:∀s∈es.take k,∃x∈fs,s∈x.2.1.2
structure OutP (H H':Hp) (l:Addr) (es:List En) (bl:List Pc) (T:Addr) (fs:List Fp):Prop where
  new:H T=none
  at_:H' T=some (.lst (frefs fs))
  all:AllF H' fs
  own:∀x∈fs,H x.2.1.1=none∨x.2.1.1=l
  map:fs.map (·.2.2)=bl
  cvr:Cvr es es.length fs
  len:∀x∈fs,x.2.1.2.length≤es.length
theorem LooseP.inv {ds:List Pt} {ps:List P4} (h:LooseP ds ps) (hn:ds≠[]):∃(p:P4) (ps':List P4) (k:Nat) (x y:Pt),ps=p::ps'∧k<ds.length∧ds[0]?=some x∧ds[k]?=some y∧p.1=(x.1:Rat)∧p.2.2.1=(y.1:Rat)∧LooseP (ds.drop (k+1)) ps':=by
  cases h with
  | nil=>exact absurd rfl hn
  | @cons x y sg rest p ps k hk hx hy e1 e2 hl=>
    refine ⟨p,ps,k,x,y,rfl,by rw [List.length_append];omega,by rw [List.getElem?_append_left (by omega)];exact hx,by rw [List.getElem?_append_left (by omega)];exact hy,e1,e2,?_⟩
    rw [List.drop_append,← hk,List.drop_length,Nat.sub_self]
    simpa using hl
theorem LooseP.nil_ps {ds:List Pt} {ps:List P4} (h:LooseP ds ps) (hn:ds=[]):ps=[]:=by
  cases h with
  | nil=>rfl
  | cons k hk=>have:=congrArg List.length hn;rw [List.length_append,hk] at this;simp at this
theorem pts_at {es:List En} {i:Nat} {x:Pt} (h:(pts es)[i]?=some x):∃e,es[i]?=some e∧x.1=e.2.1∧x.2=e.2.2.getD 0:=by
  unfold pts at h
  rw [List.getElem?_map] at h
  obtain ⟨e,g,rfl⟩:=Option.map_eq_some_iff.mp h
  exact ⟨e,g,rfl,rfl⟩
theorem pts_drop (es:List En) (k:Nat):(pts es).drop k=pts (es.drop k):=by unfold pts;rw [List.map_drop]
theorem pts_rise {es:List En} (h:rising es):prise (pts es):=List.pairwise_map.mpr h
theorem rise_le {es:List En} (h:rising es) {i j:Nat} {x y:En} (hij:i≤j) (hx:es[i]?=some x) (hy:es[j]?=some y):x.2.1≤y.2.1:=by
  have g:∀(i:Nat) (x:En),es[i]?=some x→(pts es)[i]?=some (x.2.1,x.2.2.getD 0):=fun i x hx=>by unfold pts;rw [List.getElem?_map,hx];rfl
  exact prise_le (pts_rise h) hij (g i x hx) (g j y hy)
theorem rise_lt {es:List En} (h:rising es) {i j:Nat} {x y:En} (hij:i<j) (hx:es[i]?=some x) (hy:es[j]?=some y):x.2.1<y.2.1:=by
  have g:∀(i:Nat) (x:En),es[i]?=some x→(pts es)[i]?=some (x.2.1,x.2.2.getD 0):=fun i x hx=>by unfold pts;rw [List.getElem?_map,hx];rfl
  exact prise_lt (pts_rise h) hij (g i x hx) (g j y hy)
noncomputable def spMoment:Sp:=fun vs H Q _=>∃(x:En) (n:Nat),vs=[.ref x.1]∧EnAt H x n∧∀(p:Addr) (H':Hp),Same H H'→H p=none→H' p=some (.tup [.int x.2.1,.int 1])→Q (.ref p) H'
noncomputable def spLying:Sp:=fun vs H Q _=>∃(l lp:Addr) (es:List En) (pcs bl more:List Pc) (n m:Nat),vs=[.ref l,.ref lp]∧H l=some (.lst (vals es))∧Row H es n∧rising es∧es.length≤40∧H lp=some (.lst (prefs pcs))∧AllP H pcs m∧pcs=bl++more∧pcs.length≤900∧LooseP (pts es) (bl.map (·.2)) ∧
  ∀(T:Addr) (fs:List Fp) (H':Hp),Same H H'→OutP H H' l es bl T fs→Q (.ref T) H'
theorem tk_ab {es:List En} {i j:Nat} {s:En} (h:s∈(es.drop i).take j):∃k,i≤k∧k<i+j∧es[k]?=some s:=by
  obtain ⟨k,hk,e⟩:=List.mem_iff_getElem.mp h
  have g:((es.drop i).take j)[k]?=some s:=by rw [List.getElem?_eq_getElem hk,e]
  have hkj:k<j:=by
    rw [List.length_take] at hk
    omega
  rw [List.getElem?_take_of_lt hkj,List.getElem?_drop] at g
  exact ⟨i+k,by omega,by omega,g⟩
theorem vals_cut (es:List En) (i j:Nat):((vals es).drop i).take j=vals ((es.drop i).take j):=by unfold vals;rw [List.map_take,List.map_drop]
theorem fr_mo {H:Hp} {p:Addr} {m:Int} {n:Nat} (h:H p=some (.tup [.int m,.int 1])) (z:Sz n m) (hn:1≤n):FrAt H p (m:Rat) n:=⟨m,1,h,Fr.whole m,z,(show Sz 1 1 by decide).mono hn⟩
noncomputable def spOneP:Sp:=fun vs H Q _=>∃(l lp:Addr) (x:En) (pc:Pc) (more:List Pc) (h:Rat) (n m:Nat),vs=[.ref l,.ref lp]∧H l=some (.lst (vals [x]))∧EnAt H x n∧1≤n∧H lp=some (.lst (prefs (pc::more)))∧PcAt H pc m∧pc.2=((x.2.1:Rat),h,(x.2.1:Rat),h) ∧
  ∀(T:Addr) (fs:List Fp) (H':Hp),Same H H'→OutP H H' l [x] [pc] T fs→Q (.ref T) H'
noncomputable def spHeld:Sp:=fun vs H Q _=>∃(l:Addr) (es:List En) (pc:Pc) (n m:Nat),vs=[.ref l,.ref pc.1]∧H l=some (.lst (vals es))∧Row H es n∧es.length≤40∧PcAt H pc m∧1≤n∧n+m≤50000 ∧
  ∀(p:Addr) (H':Hp),Same H H'→H p=none→H' p=some (.lst (vals ((es.filter fun x=>decide (pc.2.1≤(x.2.1:Rat))).filter fun x=>decide ((x.2.1:Rat)≤pc.2.2.2.1))))→Q (.ref p) H'
theorem map_one {α β:Type} {f:α→β}:∀{xs:List α} {y:β},xs.map f=[y]→∃x,xs=[x]∧f x=y
  | [x],_,h=>⟨x,rfl,(List.cons.inj h).1⟩
  | [],_,h=>nomatch h
  | _::_::_,_,h=>nomatch (List.cons.inj h).2
theorem fdat_eqv (q:Rat):PyData.eqv (fdat q) (fdat q)=true:=by
  show (q.num==q.num&&((q.den:Int)==(q.den:Int)&&true))=true
  simp
theorem fd2_eqv (a b:Rat):PyData.eqv (.tuple [fdat a,fdat b]) (.tuple [fdat a,fdat b])=true:=by
  show (PyData.eqv (fdat a) (fdat a)&&(PyData.eqv (fdat b) (fdat b)&&true))=true
  rw [fdat_eqv,fdat_eqv];rfl
theorem fd2_dep (a b:Rat):(PyData.tuple [fdat a,fdat b]).depth≤60:=by simp [fdat,PyData.depth,PyData.depthAll]
noncomputable def sdat (d:Pt):PyData:=.tuple [mdat d.1,fdat d.2]
theorem sdats_lay:∀ds:List Pt,PyData.canLayAll0 (ds.map sdat)=true
  | []=>rfl
  | d::ds=>by
    show ((sdat d).canLay0&&PyData.canLayAll0 (ds.map sdat))=true
    rw [sdats_lay ds];rfl
noncomputable def spOneH:Sp:=fun vs H Q _=>∃(pc:Pc) (m:Nat),vs=[.ref pc.1]∧PcAt H pc m∧(pc.2.1=pc.2.2.2.1→pc.2.2.1=pc.2.2.2.2)∧Q (.bl true) H
noncomputable def spEndsOn:Sp:=fun vs H Q _=>∃(l:Addr) (es:List En) (pc:Pc) (n m:Nat),vs=[.ref l,.ref pc.1]∧H l=some (.lst (vals es))∧Row H es n∧AllS es∧es.length≤40∧PcAt H pc m ∧
  (∃d∈pts es,pc.2.1=(d.1:Rat)∧pc.2.2.1=d.2)∧(∃d∈pts es,pc.2.2.2.1=(d.1:Rat)∧pc.2.2.2.2=d.2)∧∀H',Same H H'→Q (.bl true) H'
noncomputable def spHang:Sp:=fun vs H Q _=>∃(l lp:Addr) (es:List En) (pcs bl more:List Pc) (n m:Nat),vs=[.ref l,.ref lp]∧H l=some (.lst (vals es))∧Row H es n∧rising es∧es.length≤40∧1≤n∧H lp=some (.lst (prefs pcs))∧AllP H pcs m∧pcs=bl++more∧pcs.length≤900∧n+m≤50000∧HungP (pts es) (bl.map (·.2)) ∧
  ∀(T:Addr) (fs:List Fp) (H':Hp),Same H H'→OutP H H' l es bl T fs→Q (.ref T) H'
section
variable {P:Program} {w:World} {K:PySem.W.Frag} {mg:Str→Option Value} {base:Heap} {f:Addr} {fd:FuncData}
theorem sc_moment_of:FnScope ["sample"] ["sample"] (defScope s_moment_of):=⟨rfl,rfl,rfl,by decide +kernel,rfl,by decide +kernel,by decide +kernel⟩
theorem ok_moment_of (F:Fun K "moment_of" "moment_of" s_moment_of f fd):FnOk P w K mg base CX0 1 f fd ["sample"] spMoment:=by
  refine F.ok sc_moment_of (fun vs H Q E h=>?_) (fun cdv A outer s H vs Q E hr h=>?_)
  · obtain ⟨x,n,rfl,_⟩:=h
    rfl
  obtain ⟨x,n,rfl,hx,k⟩:=h
  obtain ⟨v,ex,_,_⟩:=hx.obj
  refine J.q ⟨_,(J.h (J.l (J.o (J.b (J.e (ixT K) (J.a 0) J.c (fun _ _=>rfl)) (J.b J.c J.d st_C) st_S)))),?_⟩
  walk_at "v"
  refine r_new (mk:=.tup) (by simp) fun p H1 s1 n1 e1=>?_
  exact k p H1 s1 n1 e1
theorem sc_parts_lying_apart:FnScope ["run","pieces","moments","found","first","piece","behind"] ["run","pieces"] (defScope s_parts_lying_apart):=⟨rfl,rfl,rfl,by decide +kernel,rfl,by decide +kernel,by decide +kernel⟩
theorem ok_parts_lying_apart (F:Fun K "parts_lying_apart" "parts_lying_apart" s_parts_lying_apart f fd) (T:Txt mg) (D_moment_of:Dn P w K mg base 1 "moment_of" ["sample"] spMoment):FnOk P w K mg base CX0 2 f fd ["run","pieces"] spLying:=by
  refine F.ok sc_parts_lying_apart (fun vs H Q E h=>?_) (fun cdv A outer s H vs Q E hr h=>?_)
  · obtain ⟨l,lp,es,pcs,bl,more,n,m,rfl,_⟩:=h
    rfl
  obtain ⟨l,lp,es,pcs,bl,more,n,m,rfl,hl,hes,hri,h40,hlp,hps,hpc,h900,hlo,k⟩:=h
  have hu64:=hr.units
  refine J.q ⟨_,(J.f (Jd.ps_comp (O:=["sample"]) (N':=[]) (cap:=[]) (i:=2) sc_parts_lying_apart.nd rfl (Or.inl rfl) rfl (J.aa K (J.a 0)) (fun _ _ _ _ _=>(J.u (i:=0) (show List.Nodup [("sample":Str)] by decide +kernel) rfl (Or.inl rfl))) (fun _ _ _ _ _=>J.an) (fun _ _ _ _ _=>(J.k D_moment_of (hr.mono (by decide)) rfl (J.b (J.a 0) J.d st_N) (he:=st_N) (hpl:=any0))) rfl trivial rfl (by decide +kernel) rfl (by decide +kernel) (by rfl))
      (J.f (J.i (i:=3) sc_parts_lying_apart.nd rfl (Or.inl rfl) (J.s J.d) (hs:=sw_L))
      (J.f (J.i (i:=4) sc_parts_lying_apart.nd rfl (Or.inl rfl) J.c (hs:=sw_C))
      (J.f (Jd.ps_while PassesOwn.never (J.j op_lt (J.a 4) (J.p (lenC K) rfl T.len_ PySem.boot_len (J.b (J.a 0) J.d st_N) (he:=st_N) (hpl:=any0)) (nomark _))
      (J.f (J.m (J.j op_eq (J.p (lenC K) rfl T.len_ PySem.boot_len (J.b (J.a 3) J.d st_N) (he:=st_N) (hpl:=any0)) (J.p (lenC K) rfl T.len_ PySem.boot_len (J.b (J.a 1) J.d st_N) (he:=st_N) (hpl:=any0)) (nomark _))
      (J.h (J.l J.w))
      J.n)
      (J.f (J.i (i:=5) sc_parts_lying_apart.nd rfl (Or.inl rfl) (J.e (ixL K) (J.a 1) (J.p (lenC K) rfl T.len_ PySem.boot_len (J.b (J.a 3) J.d st_N) (he:=st_N) (hpl:=any0)) (fun _ _=>rfl)) (hs:=sw_S))
      (J.f (J.m (J.x (J.af (J.j (op_neD hu64) (J.e (ixT K) (J.a 5) J.c (fun _ _=>rfl)) (J.e (ixL K) (J.a 2) (J.a 4) (fun _ _=>rfl)) (nomark _)) (J.ah (J.j (op_ninD hu64) (J.e (ixT K) (J.a 5) J.c (fun _ _=>rfl)) (J.t (slL K) (J.a 2) (J.r (J.a 4)) J.v) rfl))))
      (J.h (J.l J.w))
      J.n)
      (J.f (J.i (i:=6) sc_parts_lying_apart.nd rfl (Or.inl rfl) (J.g op_add (Jd.idxD K hu64 (J.a 2) (J.e (ixT K) (J.a 5) J.c (fun _ _=>rfl))) J.c) (hs:=sw_B))
      (J.f (J.y (J.ac K (J.a 3) (J.o (J.b (J.t (slL K) (J.a 0) (J.r (J.a 4)) (J.r (J.a 6))) (J.b (J.a 5) J.d st_N) st_S))) (hs:=sw_K))
      (J.h (J.i (i:=4) sc_parts_lying_apart.nd rfl (Or.inl rfl) (J.a 6) (hs:=sw_N)))))))))
      (J.h (J.l (J.a 3))))))),?_⟩
  walk_at "v"
  refine r_iL ?_
  walk_at "v"
  refine ⟨l,rfl,⟨_,SqL.of hl⟩,?_⟩
  refine compB_of (xs:=vals es) tells_list (fun H3 s3=>SqL.of (s3 _ _ hl)) (by rw [vals_len];walk_at "o") (fun i ys G=>Dens G ys (((es.take i).map fun x=>x.2.1).map mdat)) .nil ?_ ?_
  · rintro D i v ys H3 σ0 N N0 h0 hD eD s3 hv hy hd kY kN
    obtain ⟨e,he,rfl⟩:=vals_at hv
    refine r_own1 h0 ?_
    walk_at "v"
    refine iteT ?_
    walk_at "v"
    refine ⟨e,n,rfl,(hes e (List.mem_of_getElem? he)).up s3,fun p H4 s4 n4 e4=>?_⟩
    refine kY _ H4 s4 ?_
    rw [List.take_add_one,he,List.map_append,List.map_append]
    exact (hd.up (rm_rm s4)).snoc (mdat_den (rm_tup (s4 _ _ eD) e4))
  · rintro D ys H3 hD eD s3 hy hd
    rw [vals_len,List.take_length] at hd
    have hd3:=hd.up rm_same
    have hyl:ys.length=es.length:=by have:=hd3.len;simpa using this
    walk_at "v"
    refine r_new (mk:=.lst) (by simp) fun R H4 s4 n4 e4=>?_
    walk_at "v"
    refine while_of (fun σ H5=>∃(fs:List Fp) (i:Nat) (v5 v6:Option V),σ=[some (.ref l),some (.ref lp),some (.ref D),some (.ref R),some (.int (i:Int)),v5,v6]∧Same H3 H5∧H5 R=some (.lst (frefs fs))∧AllF H5 fs∧(∀x∈fs,H x.2.1.1=none∧x.2.1.1≠R)∧fs.map (·.2.2)=bl.take fs.length∧LooseP (pts (es.drop i)) ((bl.drop fs.length).map (·.2))∧i≤es.length∧fs.length≤bl.length∧Cvr es i fs∧∀x∈fs,x.2.1.2.length≤es.length) (fun σ _=>es.length-cellN 4 σ) ?_ ?_
    · exact ⟨[],0,none,none,rfl,s4,e4,fun x hx=>absurd hx (by simp),fun x hx=>absurd hx (by simp),by simp,by simpa using hlo,Nat.zero_le _,Nat.zero_le _,⟨fun x hx=>absurd hx (by simp),fun s hs=>by simp at hs⟩,fun x hx=>absurd hx (by simp)⟩
    rintro σ H5 ⟨fs,i,v5,v6,rfl,s5,eR,hF,hnew,hmap,hlo,hi,hfb,hC,hln⟩ RR hy hn
    have s05:=s3.trans s5
    have hl5:=s05 _ _ hl
    have hlp5:=s05 _ _ hlp
    have hD5:=s5 _ _ eD
    have hds:=hd3.up s5
    walk_at "v"
    refine r_len (.inl (SqL.of hl5)) ?_
    rw [vals_len]
    walk_at "v"
    by_cases h0:(i:Int)<(es.length:Int)
    · rw [decide_eq_true h0]
      refine hy _ fun M hM=>?_
      have hi':i<es.length:=by walk_at "o"
      obtain ⟨p,ps',kk,x,y,hps',hk,gx,gy,e1,e2,hlo'⟩:=hlo.inv (by unfold pts;intro q;have:=congrArg List.length q;simp at this;omega)
      have hkl:i+kk<es.length:=by
        unfold pts at hk
        rw [List.length_map,List.length_drop] at hk
        omega
      have hfl:fs.length<bl.length:=by
        have:=congrArg List.length hps'
        simp at this
        omega
      obtain ⟨pc,gpc⟩:∃pc,bl[fs.length]?=some pc:=⟨_,List.getElem?_eq_getElem hfl⟩
      have epc:pc.2=p:=by
        have:((bl.drop fs.length).map (·.2))[0]?=some p:=by rw [hps'];rfl
        rw [List.getElem?_map,List.getElem?_drop,Nat.add_zero,gpc] at this
        exact Option.some.inj this
      have gp:pcs[fs.length]?=some pc:=by rw [hpc,List.getElem?_append_left hfl];exact gpc
      obtain ⟨a1,a2,a3,a4,ep,f1,f2,f3,f4⟩:=(hps pc (List.mem_of_getElem? gp)).up s05
      obtain ⟨ex,gex,mx,_⟩:=pts_at gx
      obtain ⟨ey,gey,my,_⟩:=pts_at gy
      rw [List.getElem?_drop,Nat.add_zero] at gex
      rw [List.getElem?_drop] at gey
      have d1:Den H5 (.ref a1) (mdat ex.2.1):=by
        have:=f1.fden
        rw [epc,e1,mx,fdat_int] at this
        exact this
      have d3:Den H5 (.ref a3) (mdat ey.2.1):=by
        have:=f3.fden
        rw [epc,e2,my,fdat_int] at this
        exact this
      have gm:∀(j:Nat) (e:En),es[j]?=some e→((es.map fun x=>x.2.1).map mdat)[j]?=some (mdat e.2.1):=fun j e h=>by rw [List.getElem?_map,List.getElem?_map,h];rfl
      obtain ⟨vm,gvm,dvm⟩:=hds.get (gm i ex gex)
      walk_at "v"
      refine r_len (.inl (SqL.of eR)) ?_
      walk_at "v"
      refine r_len (.inl (SqL.of hlp5)) ?_
      rw [frefs_len,prefs_len]
      walk_at "v"
      rw [decide_eq_false (show ¬((fs.length:Int)=(pcs.length:Int)) by rw [hpc,List.length_append];omega)]
      refine iteF ?_
      walk_at "v"
      refine r_len (.inl (SqL.of eR)) ?_
      rw [frefs_len]
      refine r_l hlp5 (v:=.ref pc.1) (atI_nat (by unfold prefs;rw [List.getElem?_map,gp];rfl)) ?_
      walk_at "v"
      refine r_l hD5 (v:=vm) (atI_nat gvm) ?_
      refine ⟨_,_,d1,dvm,mdat_shape _,mdat_shape _,?_⟩
      rw [mdat_eqv,decide_eq_true rfl]
      refine ⟨_,rfl,?_⟩
      refine iteF ?_
      walk_at "vd"
      refine r_slL hD5 fun pS H6 s6 n6 e6=>?_
      rw [cutk] at e6
      refine ⟨_,_,d3.up s6,.lst e6 ((hds.up s6).drop i),rfl,mdat_dep _,?_,?_⟩
      · rw [← List.map_drop]
        exact mdats_lay _
      have hany:((((es.map fun x=>x.2.1).map mdat).drop i).any fun e=>PyData.eqv e (mdat ey.2.1))=true:=by
        rw [List.any_eq_true]
        refine ⟨mdat ey.2.1,List.mem_of_getElem? (i:=kk) (by rw [List.getElem?_drop];exact gm _ _ gey),by rw [mdat_eqv];exact decide_eq_true rfl⟩
      rw [hany]
      refine ⟨_,rfl,?_⟩
      refine iteF ?_
      walk_at "vd"
      refine ⟨.inl ⟨rfl,_,SqL.of (s6 _ _ hD5)⟩,?_⟩
      have ep6:=s6 _ _ ep
      walk_at "v"
      refine ⟨D,ys,_,mdat ey.2.1,_,i+kk,rfl,rfl,s6 _ _ hD5,hds.up s6,d3.up s6,mdats_lay _,rfl,mdat_dep _,by omega,⟨_,gm _ _ gey,by rw [mdat_eqv];exact decide_eq_true rfl⟩,fun j e hj he=>?_,?_⟩
      · rw [List.getElem?_map,List.getElem?_map] at he
        obtain ⟨z,hz,rfl⟩:=Option.map_eq_some_iff.mp he
        obtain ⟨x',gx',rfl⟩:=Option.map_eq_some_iff.mp hz
        rw [mdat_eqv]
        exact decide_eq_false (by have:=rise_lt hri hj gx' gey;omega)
      walk_at "v"
      refine ⟨.inl ⟨rfl,_,SqL.of (s6 _ _ eR)⟩,?_⟩
      walk_at "vd"
      refine r_slL (s6 _ _ hl5) fun pr H7 s7 n7 e7=>?_
      rw [show ((i+kk:Nat):Int)+1=((i+kk+1:Nat):Int) by omega,cut_ab (by omega) (by rw [vals_len];omega),vals_cut,show i+kk+1-i=kk+1 by omega] at e7
      walk_at "v"
      refine r_new (mk:=.tup) (by simp) fun y8 H8 s8 n8 e8=>?_
      walk_at "v"
      have s58:=(s6.trans s7).trans s8
      have eR8:=s58 _ _ eR
      refine r_app eR8 (by rw [frefs_len];exact small1000 (by rw [hpc,List.length_append] at h900;omega)) ?_
      walk_at "v"
      have npr:H pr=none:=s05.free (s6.free n7)
      have nprR:pr≠R:=fun q=>by rw [q,s6 _ _ eR] at n7;cases n7
      have hl8:∀x∈fs++[(y8,(pr,(es.drop i).take (kk+1)),pc)],H x.2.1.1=none∧x.2.1.1≠R:=fun x hx=>by
        rcases List.mem_append.mp hx with z | z
        · exact hnew x z
        · obtain rfl:=List.mem_singleton.mp z
          exact ⟨npr,nprR⟩
      have hF8:AllF H8 (fs++[(y8,(pr,(es.drop i).take (kk+1)),pc)]):=fun x hx=>by
        rcases List.mem_append.mp hx with z | z
        · exact hF.up s58 x z
        · obtain rfl:=List.mem_singleton.mp z
          exact ⟨e8,s8 _ _ e7⟩
      refine hM _ _ ⟨fs++[(y8,(pr,(es.drop i).take (kk+1)),pc)],i+kk+1,_,_,rfl,same_at (s5.trans s58) n4,by rw [upd_same];unfold frefs;rw [List.map_append];rfl,hF8.app eR8 (fun x hx=>(hl8 x hx).2),hl8,?_,?_,by omega,by rw [List.length_append];exact hfl,⟨fun x hx s hs=>?_,fun s hs=>?_⟩,fun x hx=>?_⟩ ?_
      · rw [List.map_append,hmap,List.length_append,List.length_singleton,show bl.take (fs.length+1)=bl.take fs.length++[pc] by rw [List.take_add_one,gpc];rfl]
        rfl
      · rw [List.length_append,List.length_singleton]
        have e1:(es.drop i).drop (kk+1)=es.drop (i+kk+1):=by rw [List.drop_drop,Nat.add_assoc]
        have e2:(bl.drop (fs.length+1)).map (·.2)=ps':=by
          rw [List.drop_eq_getElem_cons hfl,List.map_cons] at hps'
          exact (List.cons.inj hps').2
        rw [e2,← e1,← pts_drop]
        exact hlo'
      · rcases List.mem_append.mp hx with z | z
        · exact hC.inn x z s hs
        · obtain rfl:=List.mem_singleton.mp z
          obtain ⟨j,hj1,hj2,gj⟩:=tk_ab hs
          refine ⟨List.mem_of_getElem? gj,?_,?_⟩
          · show pc.2.1≤_
            rw [epc,e1,mx]
            exact Rat.intCast_le_intCast.mpr (rise_le hri hj1 gex gj)
          · show _≤pc.2.2.2.1
            rw [epc,e2,my]
            exact Rat.intCast_le_intCast.mpr (rise_le hri (by omega) gj gey)
      · rw [show i+kk+1=i+(kk+1) by omega,List.take_add] at hs
        rcases List.mem_append.mp hs with z | z
        · obtain ⟨x,hx,hh⟩:=hC.all s z
          exact ⟨x,List.mem_append_left _ hx,hh⟩
        · exact ⟨_,List.mem_append_right _ (List.mem_singleton.mpr rfl),z⟩
      · rcases List.mem_append.mp hx with z | z
        · exact hln x z
        · obtain rfl:=List.mem_singleton.mp z
          show ((es.drop i).take (kk+1)).length≤es.length
          rw [List.length_take,List.length_drop]
          omega
      · show es.length-(((i+kk:Nat):Int)+1).toNat<es.length-((i:Nat):Int).toNat
        omega
    · rw [decide_eq_false h0]
      refine hn _ ?_
      obtain rfl:i=es.length:=by omega
      walk_at "v"
      refine k R fs H5 s05 ⟨s3.free n4,eR,hF,fun x hx=>.inl (hnew x hx).1,?_,hC,hln⟩
      rw [List.drop_length] at hlo
      have:bl.length=fs.length:=by
        have:=hlo.nil_ps rfl
        have:=congrArg List.length this
        simp at this
        omega
      rw [hmap,← this,List.take_length]
theorem sc_part_of_one:FnScope ["run","pieces","when"] ["run","pieces"] (defScope s_part_of_one):=⟨rfl,rfl,rfl,by decide +kernel,rfl,by decide +kernel,by decide +kernel⟩
theorem ok_part_of_one (F:Fun K "part_of_one" "part_of_one" s_part_of_one f fd) (T:Txt mg) (D_moment_of:Dn P w K mg base 1 "moment_of" ["sample"] spMoment):FnOk P w K mg base CX0 2 f fd ["run","pieces"] spOneP:=by
  refine F.ok sc_part_of_one (fun vs H Q E h=>?_) (fun cdv A outer s H vs Q E hr h=>?_)
  · obtain ⟨l,lp,x,pc,more,hh,n,m,rfl,_⟩:=h
    rfl
  obtain ⟨l,lp,x,pc,more,hh,n,m,rfl,hl,hx,hn,hlp,hps,epc,k⟩:=h
  have hu64:=hr.units
  obtain ⟨a1,a2,a3,a4,ep,f1,f2,f3,f4⟩:=hps
  rw [epc] at f1 f3
  refine J.q ⟨_,(J.f (J.i (i:=2) sc_part_of_one.nd rfl (Or.inl rfl) (J.k D_moment_of (hr.mono (by decide)) rfl (J.b (J.e (ixL K) (J.a 0) J.c (fun _ _=>rfl)) J.d st_S) (he:=st_S) (hpl:=any0)) (hs:=sw_K))
      (J.f (J.m (J.x (J.af (J.j op_eq (J.p (lenC K) rfl T.len_ PySem.boot_len (J.b (J.a 1) J.d st_N) (he:=st_N) (hpl:=any0)) J.c (nomark _)) (J.af (J.j (op_neD hu64) (J.e (ixT K) (J.e (ixL K) (J.a 1) J.c (fun _ _=>rfl)) J.c (fun _ _=>rfl)) (J.a 2) (nomark _)) (J.ah (J.j (op_neD hu64) (J.e (ixT K) (J.e (ixL K) (J.a 1) J.c (fun _ _=>rfl)) J.c (fun _ _=>rfl)) (J.a 2) (nomark _))))))
      (J.h (J.l J.w))
      J.n)
      (J.h (J.l (J.s (J.b (J.o (J.b (J.a 0) (J.b (J.e (ixL K) (J.a 1) J.c (fun _ _=>rfl)) J.d st_S) st_N)) J.d st_T)))))),?_⟩
  walk_at "v"
  refine r_l hl (v:=.ref x.1) (atI_nat (j:=0) rfl) ?_
  refine ⟨x,n,rfl,hx,fun p H1 s1 n1 e1=>?_⟩
  have fw:=fr_mo e1 hx.1 hn
  have hlp1:=s1 _ _ hlp
  have ep1:=s1 _ _ ep
  have at0:atI (prefs (pc::more)) 0=some (.ref pc.1):=atI_nat (j:=0) rfl
  walk_at "v"
  refine r_len (.inl (SqL.of hlp1)) ?_
  rw [prefs_len]
  walk_at "v"
  rw [decide_eq_false (show ¬(((pc::more).length:Int)=0) by rw [List.length_cons];omega)]
  refine iteF ?_
  walk_at "v"
  refine r_l hlp1 at0 ?_
  walk_at "v"
  refine fr_neD (f1.up s1) fw ?_
  rw [decide_eq_true rfl]
  refine ⟨_,rfl,?_⟩
  refine iteF ?_
  walk_at "v"
  refine r_l hlp1 at0 ?_
  walk_at "v"
  refine fr_neD (f3.up s1) fw ?_
  rw [decide_eq_true rfl]
  refine ⟨_,rfl,?_⟩
  refine iteF ?_
  walk_at "v"
  refine r_l hlp1 at0 ?_
  walk_at "v"
  refine r_new (mk:=.tup) (by simp) fun y2 H2 s2 n2 e2=>?_
  walk_at "v"
  refine r_new (mk:=.lst) (by simp) fun R H3 s3 n3 e3=>?_
  have s13:=s1.trans (s2.trans s3)
  refine k R [(y2,(l,[x]),pc)] H3 s13 ⟨s1.free (s2.free n3),e3,fun z hz=>?_,fun z hz=>?_,rfl,⟨fun z hz s hs=>?_,fun s hs=>?_⟩,fun z hz=>?_⟩
  · obtain rfl:=List.mem_singleton.mp hz
    exact ⟨s3 _ _ e2,s13 _ _ hl⟩
  · obtain rfl:=List.mem_singleton.mp hz
    exact .inr rfl
  · obtain rfl:=List.mem_singleton.mp hz
    obtain rfl:=List.mem_singleton.mp hs
    refine ⟨List.mem_singleton.mpr rfl,?_⟩
    show has pc.2 _
    rw [epc]
    exact ⟨Rat.le_refl,Rat.le_refl⟩
  · exact ⟨_,List.mem_singleton.mpr rfl,hs⟩
  · obtain rfl:=List.mem_singleton.mp hz
    exact Nat.le_refl _
theorem sc_held_by:FnScope ["run","piece","behind"] ["run","piece"] (defScope s_held_by):=⟨rfl,rfl,rfl,by decide +kernel,rfl,by decide +kernel,by decide +kernel⟩
theorem ok_held_by (F:Fun K "held_by" "held_by" s_held_by f fd) (D_order:Dn P w K mg base 1 "order" ["one","other"] spOrderQ) (D_moment_of:Dn P w K mg base 1 "moment_of" ["sample"] spMoment):FnOk P w K mg base CX0 2 f fd ["run","piece"] spHeld:=by
  refine F.ok sc_held_by (fun vs H Q E h=>?_) (fun cdv A outer s H vs Q E hr h=>?_)
  · obtain ⟨l,es,pc,n,m,rfl,_⟩:=h
    rfl
  obtain ⟨l,es,pc,n,m,rfl,hl,hes,h40,hpc,hn,hnm,k⟩:=h
  obtain ⟨a1,a2,a3,a4,ep,f1,f2,f3,f4⟩:=hpc
  refine J.q ⟨_,(J.f (Jd.ps_comp (O:=["sample"]) (N':=["piece"]) (cap:=[1]) (i:=2) sc_held_by.nd rfl (Or.inl rfl) rfl (J.aa K (J.a 0)) (fun _ _ _ _ _=>(J.u (i:=0) (show List.Nodup [("sample":Str),("piece":Str)] by decide +kernel) rfl (Or.inl rfl))) (fun _ _ _ _ _=>(Jd.pts_one (J.j op_le (J.k D_order (hr.mono (by decide)) rfl (J.b (J.e (ixT K) (J.a 1) J.c (fun _ _=>rfl)) (J.b (J.k D_moment_of (hr.mono (by decide)) rfl (J.b (J.a 0) J.d st_N) (he:=st_N) (hpl:=any0)) J.d st_K) st_S) (he:=st_S) (hpl:=(anyc st_K any0))) J.c (nomark _)))) (fun _ _ _ _ _=>(J.a 0)) rfl ⟨⟨rfl,rfl,rfl,rfl⟩,trivial⟩ rfl (by decide +kernel) rfl (by decide +kernel) (by rfl))
      (J.h (J.l (J.ao (O:=["sample"]) (N':=["piece"]) (cap:=[1]) rfl (J.aa K (J.a 2)) (fun _ _ _ _ _=>(J.u (i:=0) (show List.Nodup [("sample":Str),("piece":Str)] by decide +kernel) rfl (Or.inl rfl))) (fun _ _ _ _ _=>(Jd.pts_one (J.j op_le (J.k D_order (hr.mono (by decide)) rfl (J.b (J.k D_moment_of (hr.mono (by decide)) rfl (J.b (J.a 0) J.d st_N) (he:=st_N) (hpl:=any0)) (J.b (J.e (ixT K) (J.a 1) J.c (fun _ _=>rfl)) J.d st_S) st_K) (he:=st_K) (hpl:=(anyc st_S any0))) J.c (nomark _)))) (fun _ _ _ _ _=>(J.a 0)) rfl ⟨⟨rfl,rfl,rfl,rfl⟩,trivial⟩ rfl (by decide +kernel) rfl (by decide +kernel))))),?_⟩
  walk_at "v"
  refine r_iL ?_
  walk_at "v"
  refine ⟨l,rfl,⟨_,SqL.of hl⟩,?_⟩
  refine compB_of (xs:=vals es) tells_list (fun H3 s3=>SqL.of (s3 _ _ hl)) (by rw [vals_len];walk_at "o") (fun i ys G=>ys=vals ((es.take i).filter fun x=>decide (pc.2.1≤(x.2.1:Rat)))) rfl ?_ ?_
  · rintro D i v ys H3 σ0 N N0 h0 hD eD s3 hv hy rfl kY kN
    obtain ⟨e,he,rfl⟩:=vals_at hv
    have fe:=(hes e (List.mem_of_getElem? he)).up s3
    have ts:=PySem.take_succ_filter (fun x:En=>decide (pc.2.1≤(x.2.1:Rat))) es i e he
    refine r_own1 h0 ?_
    have ep3:=s3 _ _ ep
    walk_at "v"
    refine ⟨e,n,rfl,fe,fun p H4 s4 n4 e4=>?_⟩
    walk_at "v"
    refine ⟨a1,p,_,_,m,n,rfl,(f1.up (s3.trans s4)).qt,(fr_mo e4 fe.1 hn).qt,by omega,fun o ho1 ho2=>?_⟩
    walk_at "v"
    refine ite2 (fun c=>?_) (fun c=>?_)
    · have c':=of_decide_eq_true c
      walk_at "v"
      refine kY _ H4 s4 ?_
      rw [ts,decide_eq_true (show pc.2.1≤(e.2.1:Rat) by
        have:¬0<o:=by omega
        rw [ho1] at this
        grind),if_pos rfl,← vals_snoc]
    · have c':=of_decide_eq_false (Bool.eq_false_iff.mpr c)
      refine kN H4 s4 ?_
      rw [ts,decide_eq_false (show ¬pc.2.1≤(e.2.1:Rat) by
        have:=ho1.mp (by omega)
        grind),if_neg Bool.false_ne_true,List.append_nil]
  · rintro D ys H3 hD eD s3 hy rfl
    rw [vals_len,List.take_length] at eD
    generalize hfe:(es.filter fun x=>decide (pc.2.1≤(x.2.1:Rat)))=fe at *
    have hfes:Row H fe n:=fun x hx=>hes x (by rw [← hfe] at hx;exact (List.mem_filter.mp hx).1)
    have hfl:fe.length≤40:=by rw [← hfe];exact Nat.le_trans (List.length_filter_le ..) h40
    walk_at "v"
    refine r_iL ?_
    walk_at "v"
    refine ⟨D,rfl,⟨_,SqL.of eD⟩,?_⟩
    refine compB_of (xs:=vals fe) tells_list (fun H4 s4=>SqL.of (s4 _ _ eD)) (by rw [vals_len];walk_at "o") (fun i ys G=>ys=vals ((fe.take i).filter fun x=>decide ((x.2.1:Rat)≤pc.2.2.2.1))) rfl ?_ ?_
    · rintro D2 i v ys H4 σ0 N N0 h0 hD2 eD2 s4 hv hy rfl kY kN
      obtain ⟨e,he,rfl⟩:=vals_at hv
      have s34:=s3.trans s4
      have fe':=(hfes e (List.mem_of_getElem? he)).up s34
      have ts:=PySem.take_succ_filter (fun x:En=>decide ((x.2.1:Rat)≤pc.2.2.2.1)) fe i e he
      refine r_own1 h0 ?_
      have ep3:=s34 _ _ ep
      walk_at "v"
      refine ⟨e,n,rfl,fe',fun p H5 s5 n5 e5=>?_⟩
      have ep5:=s5 _ _ ep3
      walk_at "v"
      refine ⟨p,a3,_,_,n,m,rfl,(fr_mo e5 fe'.1 hn).qt,(f3.up (s34.trans s5)).qt,by omega,fun o ho1 ho2=>?_⟩
      walk_at "v"
      refine ite2 (fun c=>?_) (fun c=>?_)
      · have c':=of_decide_eq_true c
        walk_at "v"
        refine kY _ H5 s5 ?_
        rw [ts,decide_eq_true (show (e.2.1:Rat)≤pc.2.2.2.1 by
          have:¬0<o:=by omega
          rw [ho1] at this
          grind),if_pos rfl,← vals_snoc]
      · have c':=of_decide_eq_false (Bool.eq_false_iff.mpr c)
        refine kN H5 s5 ?_
        rw [ts,decide_eq_false (show ¬(e.2.1:Rat)≤pc.2.2.2.1 by
          have:=ho1.mp (by omega)
          grind),if_neg Bool.false_ne_true,List.append_nil]
    · rintro D2 ys H4 hD2 eD2 s4 hy rfl
      rw [vals_len,List.take_length] at eD2
      walk_at "v"
      exact k D2 H4 (s3.trans s4) (s3.free hD2) eD2
theorem sc_parts_hanging_together:FnScope ["run","pieces","end","found","piece"] ["run","pieces"] (defScope s_parts_hanging_together):=⟨rfl,rfl,rfl,by decide +kernel,rfl,by decide +kernel,by decide +kernel⟩
theorem ok_parts_hanging_together (F:Fun K "parts_hanging_together" "parts_hanging_together" s_parts_hanging_together f fd) (T:Txt mg) (D_part_of_one:Dn P w K mg base 2 "part_of_one" ["run","pieces"] spOneP) (D_moment_of:Dn P w K mg base 1 "moment_of" ["sample"] spMoment) (D_order:Dn P w K mg base 1 "order" ["one","other"] spOrderQ) (D_held_by:Dn P w K mg base 2 "held_by" ["run","piece"] spHeld):FnOk P w K mg base CX0 3 f fd ["run","pieces"] spHang:=by
  refine F.ok sc_parts_hanging_together (fun vs H Q E h=>?_) (fun cdv A outer s H vs Q E hr h=>?_)
  · obtain ⟨l,lp,es,pcs,bl,more,n,m,rfl,_⟩:=h
    rfl
  obtain ⟨l,lp,es,pcs,bl,more,n,m,rfl,hl,hes,hri,h40,hn,hlp,hps,hpc,h900,hnm,hhu,k⟩:=h
  have hu64:=hr.units
  refine J.q ⟨_,(J.f (J.m (J.j op_eq (J.p (lenC K) rfl T.len_ PySem.boot_len (J.b (J.a 0) J.d st_N) (he:=st_N) (hpl:=any0)) J.c (nomark _))
      (J.h (J.l (J.k D_part_of_one (hr.mono (by decide)) rfl (J.b (J.a 0) (J.b (J.a 1) J.d st_N) st_N) (he:=st_N) (hpl:=(anyc st_N any0)))))
      J.n)
      (J.f (J.i (i:=2) sc_parts_hanging_together.nd rfl (Or.inl rfl) (J.k D_moment_of (hr.mono (by decide)) rfl (J.b (J.e (ixL K) (J.a 0) (J.ag un_neg J.c) (fun _ _=>rfl)) J.d st_S) (he:=st_S) (hpl:=any0)) (hs:=sw_K))
      (J.f (J.i (i:=3) sc_parts_hanging_together.nd rfl (Or.inl rfl) (J.s J.d) (hs:=sw_L))
      (J.f (J.ae PassesOwn.never rfl (J.aa K (J.a 1)) (J.u (i:=4) sc_parts_hanging_together.nd rfl (Or.inl rfl))
      (J.f (J.m (J.x (J.ad (J.j op_eq (J.p (lenC K) rfl T.len_ PySem.boot_len (J.b (J.a 3) J.d st_N) (he:=st_N) (hpl:=any0)) J.c (nomark _)) (J.ai (J.j (op_neD hu64) (J.e (ixT K) (J.a 4) J.c (fun _ _=>rfl)) (J.k D_moment_of (hr.mono (by decide)) rfl (J.b (J.e (ixL K) (J.a 0) J.c (fun _ _=>rfl)) J.d st_S) (he:=st_S) (hpl:=any0)) (nomark _)))))
      (J.h (J.l J.w))
      J.n)
      (J.f (J.m (J.x (J.ad (J.j op_gt (J.p (lenC K) rfl T.len_ PySem.boot_len (J.b (J.a 3) J.d st_N) (he:=st_N) (hpl:=any0)) J.c (nomark _)) (J.ai (J.j (op_neD hu64) (J.t (slT K) (J.a 4) J.v (J.r J.c)) (J.t (slT K) (J.e (ixT K) (J.e (ixL K) (J.a 3) (J.ag un_neg J.c) (fun _ _=>rfl)) J.c (fun _ _=>rfl)) (J.r J.c) J.v) (nomark _)))))
      (J.h (J.l J.w))
      J.n)
      (J.f (J.m (J.x (J.af (J.j op_ge (J.k D_order (hr.mono (by decide)) rfl (J.b (J.e (ixT K) (J.a 4) J.c (fun _ _=>rfl)) (J.b (J.e (ixT K) (J.a 4) J.c (fun _ _=>rfl)) J.d st_S) st_S) (he:=st_S) (hpl:=(anyc st_S any0))) J.c (nomark _)) (J.ah (J.j op_gt (J.k D_order (hr.mono (by decide)) rfl (J.b (J.e (ixT K) (J.a 4) J.c (fun _ _=>rfl)) (J.b (J.a 2) J.d st_N) st_S) (he:=st_S) (hpl:=(anyc st_N any0))) J.c (nomark _)))))
      (J.h (J.l J.w))
      J.n)
      (J.f (J.y (J.ac K (J.a 3) (J.o (J.b (J.k D_held_by (hr.mono (by decide)) rfl (J.b (J.a 0) (J.b (J.a 4) J.d st_N) st_N) (he:=st_N) (hpl:=(anyc st_N any0))) (J.b (J.a 4) J.d st_N) st_K))) (hs:=sw_K))
      (J.h (J.m (J.j (op_eqD hu64) (J.e (ixT K) (J.a 4) J.c (fun _ _=>rfl)) (J.a 2) (nomark _))
      (J.h (J.l (J.a 3)))
      J.n)))))))
      (J.h (J.l J.w)))))),?_⟩
  walk_at "v"
  refine r_len (.inl (SqL.of hl)) ?_
  rw [vals_len]
  walk_at "v"
  rcases id hhu with ⟨x,hh,e1,e2⟩ | ⟨nd,N⟩
  · obtain ⟨xe,rfl,exx⟩:∃xe,es=[xe]∧x.1=xe.2.1:=by
      obtain ⟨xe,h1,h2⟩:=map_one (show es.map _=[x] from e1)
      exact ⟨xe,h1,by rw [← h2]⟩
    obtain ⟨pc,rfl,epc⟩:∃pc,bl=[pc]∧pc.2=((x.1:Rat),hh,(x.1:Rat),hh):=by
      exact map_one e2
    rw [exx] at epc
    refine iteT ?_
    walk_at "v"
    refine ⟨l,lp,xe,pc,more,hh,n,m,rfl,hl,hes xe (by simp),hn,by rw [hlp,hpc];rfl,hps pc (by rw [hpc];simp),epc,fun TT fs H1 s1 ho=>k TT fs H1 s1 ho⟩
  · have h2:2≤es.length:=by have:=N.two;unfold pts at this;simpa using this
    rw [decide_eq_false (show ¬((es.length:Int)=1) by omega)]
    refine iteF ?_
    obtain ⟨xf,gxf,ef⟩:=N.first
    obtain ⟨xl,gxl,el⟩:=N.last
    obtain ⟨ef',gf,mf,_⟩:=pts_at gxf
    rw [show (pts es).length=es.length by unfold pts;simp] at gxl
    obtain ⟨el',gl,ml,_⟩:=pts_at gxl
    rw [mf] at ef
    rw [ml] at el
    have hbl:(bl.map (·.2)).length=bl.length:=List.length_map ..
    rw [hbl] at el
    have fl:=hes el' (List.mem_of_getElem? gl)
    have ff:=hes ef' (List.mem_of_getElem? gf)
    have FT:=HungP.fit hhu (pts_rise hri)
    have at_:∀(i:Nat) (pc:Pc),bl[i]?=some pc→pc.2=((nd i).1,(nd i).2,(nd (i+1)).1,(nd (i+1)).2):=fun i pc g=>by
      have h:=N.at_ i (by rw [hbl];exact (List.getElem?_eq_some_iff.mp g).1)
      rw [List.getElem?_map,g] at h
      exact Option.some.inj h
    walk_at "v"
    refine r_l hl (v:=.ref el'.1) (by
      unfold atI
      rw [ix_last (m:=es.length-1) (by rw [vals_len];omega)]
      exact vals_get gl) ?_
    refine ⟨el',n,rfl,fl,fun pe H1 s1 n1 e1=>?_⟩
    have fe:=fr_mo e1 fl.1 hn
    walk_at "v"
    refine r_new (mk:=.lst) (by simp) fun R H2 s2 n2 e2=>?_
    walk_at "v"
    refine r_for (r_iL ?_)
    walk_at "v"
    have s02:=s1.trans s2
    refine ⟨lp,rfl,⟨_,SqL.of (s02 _ _ hlp)⟩,for_list (xs:=prefs pcs) (fun i σ H3=>∃(fs:List Fp) (v4:Option V),σ=[some (.ref l),some (.ref lp),some (.ref pe),some (.ref R),v4]∧Same H1 H3∧H3 R=some (.lst (frefs fs))∧AllF H3 fs∧(∀x∈fs,H x.2.1.1=none∧x.2.1.1≠R)∧fs.map (·.2.2)=bl.take i∧i<bl.length∧fs.length=i ∧
      (∀x∈fs,x.2.1.2=(es.filter fun y=>decide (x.2.2.2.1≤(y.2.1:Rat))).filter fun y=>decide ((y.2.1:Rat)≤x.2.2.2.2.2.1))) ?_ ?_ ?_ ?_⟩
    · exact ⟨[],none,rfl,s2,e2,fun x hx=>absurd hx (by simp),fun x hx=>absurd hx (by simp),by simp,by have:=N.pos;rw [hbl] at this;exact this,rfl,fun x hx=>absurd hx (by simp)⟩
    · rintro i σ H3 _ ⟨fs,v4,rfl,s3,_⟩
      exact SqL.of (s3 _ _ (s1 _ _ hlp))
    · rintro i v σ H3 hv ⟨fs,v4,rfl,s3,eR,hF,hnew,hmap,hi,hfl,hfil⟩
      refine body_cut fun M Bk RR hM _ hR=>?_
      have s03:=s1.trans s3
      have hl3:=s03 _ _ hl
      obtain ⟨pc,gpc⟩:∃pc,bl[i]?=some pc:=⟨_,List.getElem?_eq_getElem hi⟩
      have gp:pcs[i]?=some pc:=by rw [hpc,List.getElem?_append_left hi];exact gpc
      obtain rfl:v=.ref pc.1:=by
        unfold prefs at hv
        rw [List.getElem?_map,gp] at hv
        exact (Option.some.inj hv).symm
      have ea:=at_ i pc gpc
      have hpcA:=(hps pc (List.mem_of_getElem? gp)).up s03
      obtain ⟨a1,a2,a3,a4,ep,f1,f2,f3,f4⟩:=id hpcA
      have lt:=N.lt i (by rw [hbl];exact hi)
      have le:=N.le (show i+1≤bl.length by omega) (by rw [hbl];exact Nat.le_refl _)
      rw [el] at le
      have fe3:=fe.up s3
      -- the tests up to the last, then what is told
      have fin:∀H4,Same H3 H4→tSeq (tDrop (tBM K "list" rAppend (tVar 3) (tCons (tTup (tCons (tCall spHeld [] E0 (tCons (tVar 0) (tCons (tVar 4) tNil))) (tCons (tVar 4) tNil))) tNil))) (tIfS (tTest (tOp rEqD (tOp (rIxT K) (tVar 4) (tC (V.int 2))) (tVar 2))) (tRet (tVar 3)) tNext) { nx:=M,rt:=RR,bk:=Bk,ct:=M } [some (.ref l),some (.ref lp),some (.ref pe),some (.ref R),some (.ref pc.1)] H4:=by
        intro H4 s4
        have s04:=s03.trans s4
        have eR4:=s4 _ _ eR
        walk_at "v"
        refine ⟨.inl ⟨rfl,_,SqL.of eR4⟩,?_⟩
        walk_at "v"
        refine ⟨l,es,pc,n,m,rfl,s04 _ _ hl,hes.up s04,h40,hpcA.up s4,hn,hnm,fun ph H5 s5 n5 e5=>?_⟩
        walk_at "v"
        refine r_new (mk:=.tup) (by simp) fun y6 H6 s6 n6 e6=>?_
        walk_at "v"
        have s36:=(s4.trans s5).trans s6
        have eR6:=s36 _ _ eR
        refine r_app eR6 (by rw [frefs_len];exact small1000 (by rw [hpc,List.length_append] at h900;omega)) ?_
        have nph:H ph=none:=s04.free n5
        have nphR:ph≠R:=fun q=>by rw [q,eR4] at n5;cases n5
        generalize hes':(List.filter (fun x:En=>decide ((x.2.1:Rat)≤pc.2.2.2.1)) (List.filter (fun x:En=>decide (pc.2.1≤(x.2.1:Rat))) es))=es' at e5
        have hl8:∀x∈fs++[(y6,(ph,es'),pc)],H x.2.1.1=none∧x.2.1.1≠R:=fun x hx=>by
          rcases List.mem_append.mp hx with z | z
          · exact hnew x z
          · obtain rfl:=List.mem_singleton.mp z
            exact ⟨nph,nphR⟩
        have hF6:AllF H6 (fs++[(y6,(ph,es'),pc)]):=fun x hx=>by
          rcases List.mem_append.mp hx with z | z
          · exact hF.up s36 x z
          · obtain rfl:=List.mem_singleton.mp z
            exact ⟨e6,s6 _ _ e5⟩
        have hF7:=hF6.app (o:=.lst (frefs fs++[.ref y6])) eR6 (fun x hx=>(hl8 x hx).2)
        have s17:Same H1 (upd H6 R (.lst (frefs fs++[.ref y6]))):=same_at (s3.trans s36) n2
        have eR7:upd H6 R (.lst (frefs fs++[.ref y6])) R=some (.lst (frefs (fs++[(y6,(ph,es'),pc)]))):=by rw [upd_same];unfold frefs;rw [List.map_append];rfl
        have hmap7:(fs++[(y6,(ph,es'),pc)]).map (·.2.2)=bl.take (i+1):=by rw [List.map_append,hmap,List.take_add_one,gpc];rfl
        have hfil7:∀x∈fs++[(y6,(ph,es'),pc)],x.2.1.2=(es.filter fun y=>decide (x.2.2.2.1≤(y.2.1:Rat))).filter fun y=>decide ((y.2.1:Rat)≤x.2.2.2.2.2.1):=fun x hx=>by
          rcases List.mem_append.mp hx with z | z
          · exact hfil x z
          · obtain rfl:=List.mem_singleton.mp z
            exact hes'.symm
        generalize hfs7:fs++[(y6,(ph,es'),pc)]=fs7 at *
        have ep7:upd H6 R (.lst (frefs fs++[.ref y6])) pc.1=some (.tup [.ref a1,.ref a2,.ref a3,.ref a4]):=by
          rw [upd_ne (fun q=>by have:=s36 _ _ ep;rw [q,eR6] at this;cases this)]
          exact s36 _ _ ep
        have fu:∀{p:Addr} {q:Rat} {n:Nat},FrAt H3 p q n→FrAt (upd H6 R (.lst (frefs fs++[.ref y6]))) p q n:=fun {p q n} ⟨t,b,e,g⟩=>⟨t,b,by
          rw [upd_ne (fun q=>by have:=s36 _ _ e;rw [q,eR6] at this;cases this)]
          exact s36 _ _ e,g⟩
        generalize hH7:upd H6 R (.lst (frefs fs++[.ref y6]))=H7 at *
        walk_at "v"
        refine fr_eqD (fu f3) (fu fe3) ?_
        refine ⟨_,rfl,?_⟩
        by_cases hlast:i+1=bl.length
        · have e3:pc.2.2.2.1=(el'.2.1:Rat):=by rw [ea,← el,← hlast]
          rw [decide_eq_true e3]
          refine iteT ?_
          walk_at "v"
          refine hR _ _ (k R fs7 H7 (s1.trans s17) ⟨s1.free n2,eR7,hF7,fun x hx=>.inl (hl8 x hx).1,by rw [hmap7,hlast,List.take_length],⟨fun x hx s hs=>?_,fun s hs=>?_⟩,fun x hx=>?_⟩)
          · rw [hfil7 x hx] at hs
            obtain ⟨h1,h2⟩:=List.mem_filter.mp hs
            obtain ⟨h3,h4⟩:=List.mem_filter.mp h1
            exact ⟨h3,of_decide_eq_true h4,of_decide_eq_true h2⟩
          · rw [List.take_length] at hs
            obtain ⟨p,hp,hh⟩:=FT.cov (s.2.1,s.2.2.getD 0) (List.mem_map.mpr ⟨s,hs,rfl⟩)
            rw [hlast,List.take_length] at hmap7
            rw [← hmap7] at hp
            obtain ⟨c,hc,rfl⟩:=List.mem_map.mp hp
            obtain ⟨x,hx,rfl⟩:=List.mem_map.mp hc
            refine ⟨x,hx,?_⟩
            rw [hfil7 x hx]
            exact List.mem_filter.mpr ⟨List.mem_filter.mpr ⟨hs,decide_eq_true hh.1⟩,decide_eq_true hh.2⟩
          · rw [hfil7 x hx]
            exact Nat.le_trans (List.length_filter_le ..) (List.length_filter_le ..)
        · have hlt:(nd (i+1)).1<(nd bl.length).1:=by
            have:=N.lt (i+1) (by rw [hbl];omega)
            have:=N.le (show i+1+1≤bl.length by omega) (by rw [hbl];exact Nat.le_refl _)
            grind
          rw [decide_eq_false (show ¬pc.2.2.2.1=(el'.2.1:Rat) by rw [ea,← el];show ¬(nd (i+1)).1=_;grind)]
          refine iteF ?_
          walk_at "v"
          exact hM _ _ ⟨fs7,_,rfl,s17,eR7,hF7,hl8,hmap7,by omega,by rw [← hfs7,List.length_append,hfl];rfl,hfil7⟩
      -- the order of the ends
      have ords:∀H4,Same H3 H4→tSeq (tIfS (tOr (tTest (tOp (rI0 fun i j=>V.bl (decide (j≤i))) (tCall spOrderQ [] E0 (tCons (tOp (rIxT K) (tVar 4) (tC (V.int 0))) (tCons (tOp (rIxT K) (tVar 4) (tC (V.int 2))) tNil))) (tC (V.int 0)))) (tTest (tOp (rI0 fun i j=>V.bl (decide (j<i))) (tCall spOrderQ [] E0 (tCons (tOp (rIxT K) (tVar 4) (tC (V.int 2))) (tCons (tVar 2) tNil))) (tC (V.int 0))))) (tRet (tC V.non)) tNext) (tSeq (tDrop (tBM K "list" rAppend (tVar 3) (tCons (tTup (tCons (tCall spHeld [] E0 (tCons (tVar 0) (tCons (tVar 4) tNil))) (tCons (tVar 4) tNil))) tNil))) (tIfS (tTest (tOp rEqD (tOp (rIxT K) (tVar 4) (tC (V.int 2))) (tVar 2))) (tRet (tVar 3)) tNext)) { nx:=M,rt:=RR,bk:=Bk,ct:=M } [some (.ref l),some (.ref lp),some (.ref pe),some (.ref R),some (.ref pc.1)] H4:=by
        intro H4 s4
        have ep4:=s4 _ _ ep
        have e0:pc.2.1=(nd i).1:=by rw [ea]
        have e3:pc.2.2.2.1=(nd (i+1)).1:=by rw [ea]
        walk_at "v"
        refine ⟨a1,a3,_,_,m,m,rfl,(f1.up s4).qt,(f3.up s4).qt,by omega,fun o ho1 ho2=>?_⟩
        walk_at "v"
        rw [decide_eq_false (show ¬(0:Int)≤o by have:=ho2.mpr (by rw [e0,e3];exact lt);omega)]
        refine iteF ?_
        walk_at "v"
        refine ⟨a3,pe,_,_,m,n,rfl,(f3.up s4).qt,(fe3.up s4).qt,by omega,fun o ho1 ho2=>?_⟩
        walk_at "v"
        rw [decide_eq_false (show ¬(0:Int)<o by intro z;have:=ho1.mp z;rw [e3] at this;grind)]
        refine iteF ?_
        exact fin H4 s4
      walk_at "v"
      refine r_len (.inl (SqL.of eR)) ?_
      rw [frefs_len,hfl]
      walk_at "v"
      cases i with
      | zero=>
        rw [decide_eq_true (by rfl)]
        refine iteT ?_
        walk_at "v"
        refine r_l hl3 (v:=.ref ef'.1) (atI_nat (j:=0) (vals_get gf)) ?_
        refine ⟨ef',n,rfl,ff.up s03,fun pm H4 s4 n4 e4=>?_⟩
        refine fr_neD (f1.up s4) (fr_mo e4 ff.1 hn) ?_
        rw [decide_eq_true (by rw [ea];exact ef)]
        refine ⟨_,rfl,?_⟩
        refine iteF ?_
        walk_at "v"
        refine r_len (.inl (SqL.of (s4 _ _ eR))) ?_
        rw [frefs_len,hfl]
        walk_at "v"
        rw [decide_eq_false (by decide)]
        refine iteF ?_
        refine iteF ?_
        exact ords H4 s4
      | succ i=>
        rw [decide_eq_false (by omega)]
        refine iteF ?_
        refine iteF ?_
        walk_at "v"
        refine r_len (.inl (SqL.of eR)) ?_
        rw [frefs_len,hfl]
        walk_at "v"
        rw [decide_eq_true (by omega)]
        refine iteT ?_
        walk_at "vd"
        refine r_slT ep (show ¬(HT.sIx 4 0 none=0∧HT.sIx 4 4 (some 2)=4) by decide) fun p4 H4 s4 n4 e4=>?_
        obtain ⟨xp,gxp⟩:∃xp,fs[i]?=some xp:=⟨_,List.getElem?_eq_getElem (by omega)⟩
        have hxp:=hF.up s4 xp (List.mem_of_getElem? gxp)
        have gbp:bl[i]?=some xp.2.2:=by
          have:(fs.map (·.2.2))[i]?=some xp.2.2:=by rw [List.getElem?_map,gxp];rfl
          rw [hmap,List.getElem?_take_of_lt (by omega)] at this
          exact this
        have gpp:pcs[i]?=some xp.2.2:=by rw [hpc,List.getElem?_append_left (by omega)];exact gbp
        obtain ⟨b1,b2,b3,b4,epp,g1,g2,g3,g4⟩:=(hps xp.2.2 (List.mem_of_getElem? gpp)).up (s03.trans s4)
        have hxp1:=hxp.1
        have eb:=at_ i _ gbp
        walk_at "vd"
        refine r_l (s4 _ _ eR) (v:=.ref xp.1) (by
          unfold atI
          rw [ix_last (m:=i) (by rw [frefs_len];exact hfl)]
          show (frefs fs)[i]?=_
          unfold frefs
          rw [List.getElem?_map,gxp]
          rfl) ?_
        walk_at "vd"
        refine r_slT epp (show ¬(HT.sIx 4 0 (some 2)=0∧HT.sIx 4 4 none=4) by decide) fun p5 H5 s5 n5 e5=>?_
        have d4:Den H5 (.ref p4) (.tuple [fdat (nd (i+1)).1,fdat (nd (i+1)).2]):=by
          have q1:=(f1.up (s4.trans s5)).fden
          have q2:=(f2.up (s4.trans s5)).fden
          rw [ea] at q1 q2
          exact .tup (s5 _ _ e4) (.cons q1 (.cons q2 .nil))
        have d5:Den H5 (.ref p5) (.tuple [fdat (nd (i+1)).1,fdat (nd (i+1)).2]):=by
          have q1:=(g3.up s5).fden
          have q2:=(g4.up s5).fden
          rw [eb] at q1 q2
          exact .tup e5 (.cons q1 (.cons q2 .nil))
        refine ⟨_,_,d4,d5,rfl,rfl,?_⟩
        rw [fd2_eqv]
        refine ⟨_,rfl,?_⟩
        refine iteF ?_
        exact ords H5 (s4.trans s5)
    · rintro σ H3 ⟨fs,v4,rfl,s3,eR,hF,hnew,hmap,hi,hfl,hfil⟩
      rw [prefs_len,hpc,List.length_append] at hi
      omega
end

noncomputable def wayS:Bool→Bool→Str
  | true,true => "chain"
  | true,false => "joined"
  | false,true => "spans"
  | false,false => "apart"
theorem r_eqS {a b:Str} {H:Hp} {Q:VK} {c:Bool} (hc:decide (a=b)=c) (q:Q (.bl c) H):rEq (.str a) (.str b) H Q:=⟨rfl,by
  rw [show decide (V.str a=V.str b)=c from hc▸decide_eq_decide.mpr ⟨fun h=>V.str.inj h,fun h=>congrArg V.str h⟩]
  exact q⟩
noncomputable def spPRun:Sp:=fun vs H Q _=>∃(hung tied:Bool) (l lp:Addr) (es:List En) (pcs bl more:List Pc) (n m:Nat),vs=[.ref l,.str (wayS hung tied),.ref lp]∧H l=some (.lst (vals es))∧Row H es n∧AllS es∧rising es∧es.length≤40∧1≤n∧H lp=some (.lst (prefs pcs))∧AllP H pcs m∧pcs=bl++more∧pcs.length≤900∧n+m≤50000∧ShpW hung tied (pts es) (bl.map (·.2)) ∧
  ∀(T:Addr) (fs:List Fp) (H':Hp),Same H H'→OutP H H' l es bl T fs→Q (.ref T) H'
theorem each2_len {α β:Type} {R:α→β→Prop}:∀{as:List α} {bs:List β},Each2 R as bs→as.length=bs.length
  | [],[],_=>rfl
  | _::_,_::_,h=>by rw [List.length_cons,List.length_cons,each2_len h.2]
  | [],_::_,h=>h.elim
  | _::_,[],h=>h.elim
theorem each2_get {α β:Type} {R:α→β→Prop}:∀{as:List α} {bs:List β} {i:Nat} {a:α} {b:β},Each2 R as bs→as[i]?=some a→bs[i]?=some b→R a b
  | _::_,_::_,0,_,_,h,h1,h2=>by cases h1;cases h2;exact h.1
  | _::_,_::_,i+1,_,_,h,h1,h2=>each2_get (i:=i) h.2 h1 h2
  | [],[],_,_,_,_,h1,_=>by simp at h1
  | [],_::_,_,_,_,h,_,_=>h.elim
  | _::_,[],_,_,_,h,_,_=>h.elim
noncomputable def spPRow:Sp:=fun vs H Q _=>∃(hung tied:Bool) (l lp:Addr) (es:List En) (pcs:List Pc) (bs:List (List Pc)) (n m:Nat),vs=[.ref l,.str (wayS hung tied),.ref lp]∧H l=some (.lst (vals es))∧Row H es n∧rising es∧es.length≤40∧1≤n∧H lp=some (.lst (prefs pcs))∧AllP H pcs m∧pcs=bs.flatten∧pcs.length≤900∧n+m≤50000∧Each2 (fun r b=>ShpW hung tied (pts r) (b.map (·.2))) (parts smp es es.length) bs ∧
  ∀(T:Addr) (fs:List Fp) (H':Hp),Same H H'→H T=none→H' T=some (.lst (frefs fs))→AllF H' fs→fs.map (·.2.2)=pcs→(∀x∈fs,∀s∈x.2.1.2,s∈(parts smp es es.length).flatten∧has x.2.2.2 (s.2.1:Rat))→(∀s∈(parts smp es es.length).flatten,∃x∈fs,s∈x.2.1.2)→(∀x∈fs,x.2.1.2.length≤40)→Q (.ref T) H'
section
variable {P:Program} {w:World} {K:PySem.W.Frag} {mg:Str→Option Value} {base:Heap} {f:Addr} {fd:FuncData}
theorem sc_has_one_height:FnScope ["piece"] ["piece"] (defScope s_has_one_height):=⟨rfl,rfl,rfl,by decide +kernel,rfl,by decide +kernel,by decide +kernel⟩
theorem ok_has_one_height (F:Fun K "has_one_height" "has_one_height" s_has_one_height f fd):FnOk P w K mg base CX0 1 f fd ["piece"] spOneH:=by
  refine F.ok sc_has_one_height (fun vs H Q E h=>?_) (fun cdv A outer s H vs Q E hr h=>?_)
  · obtain ⟨pc,m,rfl,_⟩:=h
    rfl
  obtain ⟨pc,m,rfl,⟨a1,a2,a3,a4,ep,f1,f2,f3,f4⟩,h1,k⟩:=h
  have hu64:=hr.units
  refine J.q ⟨_,(J.h (J.l (Jd.pe_or (J.ab (op_neD hu64) (J.e (ixT K) (J.a 0) J.c (fun _ _=>rfl)) (J.e (ixT K) (J.a 0) J.c (fun _ _=>rfl)) (nomark _)) (J.al (J.ab (op_eqD hu64) (J.e (ixT K) (J.a 0) J.c (fun _ _=>rfl)) (J.e (ixT K) (J.a 0) J.c (fun _ _=>rfl)) (nomark _)))))),?_⟩
  walk_at "v"
  refine fr_neD f1 f3 ?_
  by_cases e:pc.2.1=pc.2.2.2.1
  · rw [decide_eq_true e]
    refine ⟨_,rfl,?_⟩
    refine iteF ?_
    walk_at "v"
    refine fr_eqD f2 f4 ?_
    rw [decide_eq_true (h1 e)]
    exact k
  · rw [decide_eq_false e]
    refine ⟨_,rfl,?_⟩
    refine iteT ?_
    exact k
theorem sc_ends_on_samples:FnScope ["run","piece","points"] ["run","piece"] (defScope s_ends_on_samples):=⟨rfl,rfl,rfl,by decide +kernel,rfl,by decide +kernel,by decide +kernel⟩
theorem ok_ends_on_samples (F:Fun K "ends_on_samples" "ends_on_samples" s_ends_on_samples f fd) (D_moment_of:Dn P w K mg base 1 "moment_of" ["sample"] spMoment):FnOk P w K mg base CX0 2 f fd ["run","piece"] spEndsOn:=by
  refine F.ok sc_ends_on_samples (fun vs H Q E h=>?_) (fun cdv A outer s H vs Q E hr h=>?_)
  · obtain ⟨l,es,pc,n,m,rfl,_⟩:=h
    rfl
  obtain ⟨l,es,pc,n,m,rfl,hl,hes,hS,h40,⟨a1,a2,a3,a4,ep,f1,f2,f3,f4⟩,⟨d1,hd1,u1,w1⟩,⟨d2,hd2,u2,w2⟩,k⟩:=h
  have hu64:=hr.units
  refine J.q ⟨_,(J.f (Jd.ps_comp (O:=["sample"]) (N':=[]) (cap:=[]) (i:=2) sc_ends_on_samples.nd rfl (Or.inl rfl) rfl (J.aa K (J.a 0)) (fun _ _ _ _ _=>(J.u (i:=0) (show List.Nodup [("sample":Str)] by decide +kernel) rfl (Or.inl rfl))) (fun _ _ _ _ _=>J.an) (fun _ _ _ _ _=>(J.o (J.b (J.k D_moment_of (hr.mono (by decide)) rfl (J.b (J.a 0) J.d st_N) (he:=st_N) (hpl:=any0)) (J.b (J.e (ixT K) (J.a 0) J.c (fun _ _=>rfl)) J.d st_S) st_K))) rfl trivial rfl (by decide +kernel) rfl (by decide +kernel) (by rfl))
      (J.h (J.l (J.am (J.ab (op_inD hu64) (J.t (slT K) (J.a 1) J.v (J.r J.c)) (J.a 2) rfl) (J.al (J.ab (op_inD hu64) (J.t (slT K) (J.a 1) (J.r J.c) J.v) (J.a 2) rfl)))))),?_⟩
  walk_at "v"
  refine r_iL ?_
  walk_at "v"
  refine ⟨l,rfl,⟨_,SqL.of hl⟩,?_⟩
  refine compB_of (xs:=vals es) tells_list (fun H3 s3=>SqL.of (s3 _ _ hl)) (by rw [vals_len];walk_at "o") (fun i ys G=>Dens G ys ((pts (es.take i)).map sdat)) .nil ?_ ?_
  · rintro D i v ys H3 σ0 N N0 h0 hD eD s3 hv hy hd kY kN
    obtain ⟨e,he,rfl⟩:=vals_at hv
    have hm:=List.mem_of_getElem? he
    have fe:=(hes e hm).up s3
    have hse:=hS e hm
    obtain ⟨a,mm,vv⟩:=e
    cases vv with
    | none=>cases hse
    | some q=>
    obtain ⟨zz,pq,eq,fq⟩:=fe
    refine r_own1 h0 ?_
    walk_at "v"
    refine iteT ?_
    walk_at "v"
    refine ⟨(a,mm,some q),n,rfl,⟨zz,pq,eq,fq⟩,fun p H4 s4 n4 e4=>?_⟩
    have eq4:=s4 _ _ eq
    dsimp only at eq4
    walk_at "v"
    refine r_new (mk:=.tup) (by simp) fun y H5 s5 n5 e5=>?_
    have s35:=s4.trans s5
    refine kY _ H5 s35 ?_
    rw [List.take_add_one,he]
    unfold pts at hd ⊢
    rw [List.map_append,List.map_append]
    refine (hd.up (rm_rm s35)).snoc ?_
    have eD5:=s35 _ _ eD
    obtain ⟨t,b,et,g,_⟩:=fq.up s35
    obtain ⟨rfl,rfl⟩:=g.num_den
    exact .tup (rm_tup eD5 e5) (.cons (mdat_den (rm_tup eD5 (s5 _ _ e4))) (.cons (.tup (rm_tup eD5 et) (.cons (.int _) (.cons (.int _) .nil))) .nil))
  · rintro D ys H3 hD eD s3 hy hd
    rw [vals_len,List.take_length] at hd
    have hd3:=hd.up rm_same
    have ep3:=s3 _ _ ep
    have lay:=sdats_lay (pts es)
    have got:∀(d:Pt),d∈pts es→(((pts es).map sdat).any fun e=>PyData.eqv e (.tuple [fdat (d.1:Rat),fdat d.2]))=true:=fun d hdm=>by
      rw [List.any_eq_true]
      refine ⟨sdat d,List.mem_map.mpr ⟨d,hdm,rfl⟩,?_⟩
      unfold sdat
      rw [← fdat_int]
      exact fd2_eqv _ _
    walk_at "vd"
    refine r_slT ep3 (show ¬(HT.sIx 4 0 none=0∧HT.sIx 4 4 (some 2)=4) by decide) fun p4 H4 s4 n4 e4=>?_
    have s04:=s3.trans s4
    have q1:=(f1.up s04).fden
    have q2:=(f2.up s04).fden
    rw [u1] at q1
    rw [w1] at q2
    walk_at "vd"
    refine ⟨_,_,.tup e4 (.cons q1 (.cons q2 .nil)),.lst (s4 _ _ eD) (hd3.up s4),rfl,fd2_dep _ _,lay,?_⟩
    rw [got d1 hd1]
    refine ⟨_,rfl,?_⟩
    refine iteT ?_
    walk_at "vd"
    refine r_slT (s4 _ _ ep3) (show ¬(HT.sIx 4 0 (some 2)=0∧HT.sIx 4 4 none=4) by decide) fun p5 H5 s5 n5 e5=>?_
    have s05:=s04.trans s5
    have q3:=(f3.up s05).fden
    have q4:=(f4.up s05).fden
    rw [u2] at q3
    rw [w2] at q4
    walk_at "vd"
    refine ⟨_,_,.tup e5 (.cons q3 (.cons q4 .nil)),.lst (s5 _ _ (s4 _ _ eD)) (hd3.up (s4.trans s5)),rfl,fd2_dep _ _,lay,?_⟩
    rw [got d2 hd2]
    exact k H5 s05
theorem sc_parts_of_run:FnScope ["run","way","pieces","found"] ["run","way","pieces"] (defScope s_parts_of_run):=⟨rfl,rfl,rfl,by decide +kernel,rfl,by decide +kernel,by decide +kernel⟩
theorem ok_parts_of_run (F:Fun K "parts_of_run" "parts_of_run" s_parts_of_run f fd) (T:Txt mg) (D_parts_hanging_together:Dn P w K mg base 3 "parts_hanging_together" ["run","pieces"] spHang) (D_parts_lying_apart:Dn P w K mg base 2 "parts_lying_apart" ["run","pieces"] spLying) (D_has_one_height:Dn P w K mg base 1 "has_one_height" ["piece"] spOneH) (D_ends_on_samples:Dn P w K mg base 2 "ends_on_samples" ["run","piece"] spEndsOn):FnOk P w K mg base CX0 4 f fd ["run","way","pieces"] spPRun:=by
  refine F.ok sc_parts_of_run (fun vs H Q E h=>?_) (fun cdv A outer s H vs Q E hr h=>?_)
  · obtain ⟨hung,tied,l,lp,es,pcs,bl,more,n,m,rfl,_⟩:=h
    rfl
  obtain ⟨hung,tied,l,lp,es,pcs,bl,more,n,m,rfl,hl,hes,hS,hri,h40,hn,hlp,hps,hpc,h900,hnm,hsh,k⟩:=h
  have hu64:=hr.units
  refine J.q ⟨_,(J.f (J.m (J.x (J.af (J.j op_eq (J.a 1) J.z (nomark _)) (J.ah (J.j op_eq (J.a 1) J.z (nomark _)))))
      (J.h (J.i (i:=3) sc_parts_of_run.nd rfl (Or.inl rfl) (J.k D_parts_hanging_together (hr.mono (by decide)) rfl (J.b (J.a 0) (J.b (J.a 2) J.d st_N) st_N) (he:=st_N) (hpl:=(anyc st_N any0))) (hs:=sw_K)))
      (J.h (J.i (i:=3) sc_parts_of_run.nd rfl (Or.inl rfl) (J.k D_parts_lying_apart (hr.mono (by decide)) rfl (J.b (J.a 0) (J.b (J.a 2) J.d st_N) st_N) (he:=st_N) (hpl:=(anyc st_N any0))) (hs:=sw_K))))
      (J.f (J.m (J.x (J.af (J.j op_isN (J.a 3) J.w (nomark _)) (J.ah (Jd.pt_not (J.ak (J.p (allC K rfl) rfl T.all_ PyProof.Rows.boot_all (J.b (J.ao (O:=["part"]) (N':=[]) (cap:=[]) rfl (J.aa K (J.a 3)) (fun _ _ _ _ _=>(J.u (i:=0) (show List.Nodup [("part":Str)] by decide +kernel) rfl (Or.inl rfl))) (fun _ _ _ _ _=>J.an) (fun _ _ _ _ _=>(J.k D_has_one_height (hr.mono (by decide)) rfl (J.b (J.e (ixT K) (J.a 0) J.c (fun _ _=>rfl)) J.d st_S) (he:=st_S) (hpl:=any0))) rfl trivial rfl (by decide +kernel) rfl (by decide +kernel)) J.d st_G) (he:=st_G) (hpl:=any0)))))))
      (J.h (J.l J.w))
      J.n)
      (J.f (J.m (J.x (J.af (J.j op_eq (J.a 1) J.z (nomark _)) (J.ah (J.j op_eq (J.a 1) J.z (nomark _)))))
      (J.h (J.m (Jd.pt_not (J.ak (J.p (allC K rfl) rfl T.all_ PyProof.Rows.boot_all (J.b (J.ao (O:=["part"]) (N':=["run"]) (cap:=[0]) rfl (J.aa K (J.a 3)) (fun _ _ _ _ _=>(J.u (i:=0) (show List.Nodup [("part":Str),("run":Str)] by decide +kernel) rfl (Or.inl rfl))) (fun _ _ _ _ _=>J.an) (fun _ _ _ _ _=>(J.k D_ends_on_samples (hr.mono (by decide)) rfl (J.b (J.a 1) (J.b (J.e (ixT K) (J.a 0) J.c (fun _ _=>rfl)) J.d st_S) st_N) (he:=st_N) (hpl:=(anyc st_S any0)))) rfl ⟨⟨rfl,rfl,rfl,rfl⟩,trivial⟩ rfl (by decide +kernel) rfl (by decide +kernel)) J.d st_G) (he:=st_G) (hpl:=any0))))
      (J.h (J.l J.w))
      J.n))
      J.n)
      (J.h (J.l (J.a 3)))))),?_⟩
  refine seq_cut (fun σ H1=>∃(TT:Addr) (fs:List Fp),σ=[some (.ref l),some (.str (wayS hung tied)),some (.ref lp),some (.ref TT)]∧Same H H1∧OutP H H1 l es bl TT fs) (fun σ H1 hP=>?_) (fun N hN=>?_)
  rotate_left
  · cases hung with
    | true=>
      have hh:HungP (pts es) (bl.map (·.2)):=by have:=hsh.lie;rw [if_pos rfl] at this;exact this
      walk_at "v"
      cases tied with
      | true=>
        refine r_eqS (c:=false) (by decide +kernel) ?_
        refine ⟨_,rfl,?_⟩
        refine iteF ?_
        walk_at "v"
        refine r_eqS (c:=true) (by decide +kernel) ?_
        refine ⟨_,rfl,?_⟩
        refine iteT ?_
        walk_at "v"
        exact ⟨l,lp,es,pcs,bl,more,n,m,rfl,hl,hes,hri,h40,hn,hlp,hps,hpc,h900,hnm,hh,fun TT fs H1 s1 ho=>hN _ _ ⟨TT,fs,rfl,s1,ho⟩⟩
      | false=>
        refine r_eqS (c:=true) (by decide +kernel) ?_
        refine ⟨_,rfl,?_⟩
        refine iteT ?_
        refine iteT ?_
        walk_at "v"
        exact ⟨l,lp,es,pcs,bl,more,n,m,rfl,hl,hes,hri,h40,hn,hlp,hps,hpc,h900,hnm,hh,fun TT fs H1 s1 ho=>hN _ _ ⟨TT,fs,rfl,s1,ho⟩⟩
    | false=>
      have hh:LooseP (pts es) (bl.map (·.2)):=by have:=hsh.lie;rw [if_neg Bool.false_ne_true] at this;exact this
      walk_at "v"
      have two:decide (wayS false tied = "joined")=false∧decide (wayS false tied = "chain")=false:=by cases tied <;> exact ⟨by decide +kernel,by decide +kernel⟩
      refine r_eqS (c:=false) two.1 ?_
      refine ⟨_,rfl,?_⟩
      refine iteF ?_
      walk_at "v"
      refine r_eqS (c:=false) two.2 ?_
      refine ⟨_,rfl,?_⟩
      refine iteF ?_
      walk_at "v"
      exact ⟨l,lp,es,pcs,bl,more,n,m,rfl,hl,hes,hri,h40,hlp,hps,hpc,h900,hh,fun TT fs H1 s1 ho=>hN _ _ ⟨TT,fs,rfl,s1,ho⟩⟩
  obtain ⟨TT,fs,rfl,s1,ho⟩:=hP
  have hfl:fs.length=bl.length:=by rw [← ho.map,List.length_map]
  have hb9:bl.length≤900:=by rw [hpc,List.length_append] at h900;omega
  have hbl:∀x∈fs,x.2.2∈bl:=fun x hx=>by rw [← ho.map];exact List.mem_map.mpr ⟨x,hx,rfl⟩
  have hpl:∀x∈fs,PcAt H x.2.2 m:=fun x hx=>hps _ (by rw [hpc];exact List.mem_append_left _ (hbl x hx))
  have at_:∀{i:Nat} {v:V},(frefs fs)[i]?=some v→∃x,fs[i]?=some x∧v=.ref x.1:=fun {i v} h=>by
    unfold frefs at h
    rw [List.getElem?_map] at h
    obtain ⟨x,g,rfl⟩:=Option.map_eq_some_iff.mp h
    exact ⟨x,g,rfl⟩
  have ball:∀k:Nat,(List.replicate k true).all id=true:=fun k=>by rw [List.all_eq_true];intro x hx;exact (List.mem_replicate.mp hx).2
  walk_at "v"
  refine ⟨rfl,?_⟩
  refine ⟨_,rfl,?_⟩
  refine iteF ?_
  walk_at "v"
  refine r_iL ?_
  walk_at "v"
  refine ⟨TT,rfl,⟨_,SqL.of ho.at_⟩,?_⟩
  refine compB_of (xs:=frefs fs) tells_list (fun H3 s3=>SqL.of (s3 _ _ ho.at_)) (by rw [frefs_len];omega) (fun i ys G=>ys=bls (List.replicate i true)) rfl ?_ ?_
  · rintro D i v ys H3 σ0 N N0 h0 hD eD s3 hv hy rfl kY kN
    obtain ⟨x,gx,rfl⟩:=at_ hv
    have hx:=List.mem_of_getElem? gx
    have fx:=(ho.all.up s3 x hx).1
    refine r_own1 h0 ?_
    walk_at "v"
    refine iteT ?_
    walk_at "v"
    refine ⟨x.2.2,m,rfl,(hpl x hx).up (s1.trans s3),hsh.one _ (List.mem_map.mpr ⟨_,hbl x hx,rfl⟩),?_⟩
    refine kY _ H3 (Same.refl _) ?_
    unfold bls
    rw [List.replicate_succ',List.map_append]
    rfl
  rintro D ys H3 hD eD s3 hy rfl
  walk_at "v"
  refine r_all eD ?_
  rw [ball]
  refine ⟨_,rfl,?_⟩
  refine iteF ?_
  walk_at "v"
  have s03:=s1.trans s3
  have hoF:OutP H H3 l es bl TT fs:=⟨ho.new,s3 _ _ ho.at_,ho.all.up s3,ho.own,ho.map,ho.cvr,ho.len⟩
  cases tied with
  | false=>
    have two:decide (wayS hung false = "spans")=false∧decide (wayS hung false = "chain")=false:=by cases hung <;> exact ⟨by decide +kernel,by decide +kernel⟩
    refine r_eqS (c:=false) two.1 ?_
    refine ⟨_,rfl,?_⟩
    refine iteF ?_
    walk_at "v"
    refine r_eqS (c:=false) two.2 ?_
    refine ⟨_,rfl,?_⟩
    refine iteF ?_
    walk_at "v"
    exact k TT fs H3 s03 hoF
  | true=>
    have tie:=hsh.tie rfl
    cases hung with
    | true=>
      refine r_eqS (c:=false) (by decide +kernel) ?_
      refine ⟨_,rfl,?_⟩
      refine iteF ?_
      walk_at "v"
      refine r_eqS (c:=true) (by decide +kernel) ?_
      refine ⟨_,rfl,?_⟩
      refine iteT ?_
      walk_at "v"
      refine r_iL ?_
      walk_at "v"
      refine ⟨TT,rfl,⟨_,SqL.of hoF.at_⟩,?_⟩
      refine compB_of (xs:=frefs fs) tells_list (fun H4 s4=>SqL.of (s4 _ _ hoF.at_)) (by rw [frefs_len];omega) (fun i ys G=>ys=bls (List.replicate i true)) rfl ?_ ?_
      · rintro D2 i v ys H4 σ0 N N0 h0 hD2 eD2 s4 hv hy rfl kY kN
        obtain ⟨x,gx,rfl⟩:=at_ hv
        have hx:=List.mem_of_getElem? gx
        have fx:=(hoF.all.up s4 x hx).1
        have s04:=s03.trans s4
        refine r_own1 h0 ?_
        walk_at "v"
        refine iteT ?_
        walk_at "v"
        obtain ⟨t1,t2⟩:=tie _ (List.mem_map.mpr ⟨_,hbl x hx,rfl⟩)
        refine ⟨l,es,x.2.2,n,m,rfl,s04 _ _ hl,hes.up s04,hS,h40,(hpl x hx).up s04,t1,t2,fun H5 s5=>?_⟩
        refine kY _ H5 s5 ?_
        unfold bls
        rw [List.replicate_succ',List.map_append]
        rfl
      rintro D2 ys H4 hD2 eD2 s4 hy rfl
      walk_at "v"
      refine r_all eD2 ?_
      rw [ball]
      refine ⟨_,rfl,?_⟩
      refine iteF ?_
      walk_at "v"
      exact k TT fs H4 (s03.trans s4) ⟨ho.new,s4 _ _ hoF.at_,hoF.all.up s4,ho.own,ho.map,ho.cvr,ho.len⟩
    | false=>
      refine r_eqS (c:=true) (by decide +kernel) ?_
      refine ⟨_,rfl,?_⟩
      refine iteT ?_
      refine iteT ?_
      walk_at "v"
      refine r_iL ?_
      walk_at "v"
      refine ⟨TT,rfl,⟨_,SqL.of hoF.at_⟩,?_⟩
      refine compB_of (xs:=frefs fs) tells_list (fun H4 s4=>SqL.of (s4 _ _ hoF.at_)) (by rw [frefs_len];omega) (fun i ys G=>ys=bls (List.replicate i true)) rfl ?_ ?_
      · rintro D2 i v ys H4 σ0 N N0 h0 hD2 eD2 s4 hv hy rfl kY kN
        obtain ⟨x,gx,rfl⟩:=at_ hv
        have hx:=List.mem_of_getElem? gx
        have fx:=(hoF.all.up s4 x hx).1
        have s04:=s03.trans s4
        refine r_own1 h0 ?_
        walk_at "v"
        refine iteT ?_
        walk_at "v"
        obtain ⟨t1,t2⟩:=tie _ (List.mem_map.mpr ⟨_,hbl x hx,rfl⟩)
        refine ⟨l,es,x.2.2,n,m,rfl,s04 _ _ hl,hes.up s04,hS,h40,(hpl x hx).up s04,t1,t2,fun H5 s5=>?_⟩
        refine kY _ H5 s5 ?_
        unfold bls
        rw [List.replicate_succ',List.map_append]
        rfl
      rintro D2 ys H4 hD2 eD2 s4 hy rfl
      walk_at "v"
      refine r_all eD2 ?_
      rw [ball]
      refine ⟨_,rfl,?_⟩
      refine iteF ?_
      walk_at "v"
      exact k TT fs H4 (s03.trans s4) ⟨ho.new,s4 _ _ hoF.at_,hoF.all.up s4,ho.own,ho.map,ho.cvr,ho.len⟩
theorem sc_parts_of_row:FnScope ["row","way","telling","found","run","more"] ["row","way","telling"] (defScope s_parts_of_row):=⟨rfl,rfl,rfl,by decide +kernel,rfl,by decide +kernel,by decide +kernel⟩
theorem ok_parts_of_row (F:Fun K "parts_of_row" "parts_of_row" s_parts_of_row f fd) (T:Txt mg) (D_runs:Dn P w K mg base 1 "runs" ["row"] spRuns) (D_parts_of_run:Dn P w K mg base 4 "parts_of_run" ["run","way","pieces"] spPRun):FnOk P w K mg base CX0 5 f fd ["row","way","telling"] spPRow:=by
  refine F.ok sc_parts_of_row (fun vs H Q E h=>?_) (fun cdv A outer s H vs Q E hr h=>?_)
  · obtain ⟨hung,tied,l,lp,es,pcs,bs,n,m,rfl,_⟩:=h
    rfl
  obtain ⟨hung,tied,l,lp,es,pcs,bs,n,m,rfl,hl,hes,hri,h40,hn,hlp,hps,hpc,h900,hnm,hsh,k⟩:=h
  have hu64:=hr.units
  refine J.q ⟨_,(J.f (J.i (i:=3) sc_parts_of_row.nd rfl (Or.inl rfl) (J.s J.d) (hs:=sw_L))
      (J.f (J.ae PassesOwn.never rfl (J.aa K (J.k D_runs (hr.mono (by decide)) rfl (J.b (J.a 0) J.d st_N) (he:=st_N) (hpl:=any0))) (J.u (i:=4) sc_parts_of_row.nd rfl (Or.inl rfl))
      (J.f (J.i (i:=5) sc_parts_of_row.nd rfl (Or.inl rfl) (J.k D_parts_of_run (hr.mono (by decide)) rfl (J.b (J.a 4) (J.b (J.a 1) (J.b (J.t (slL K) (J.a 2) (J.r (J.p (lenC K) rfl T.len_ PySem.boot_len (J.b (J.a 3) J.d st_N) (he:=st_N) (hpl:=any0))) J.v) J.d st_S) st_N) st_N) (he:=st_N) (hpl:=(anyc st_N (anyc st_S any0)))) (hs:=sw_K))
      (J.f (J.m (J.j op_isN (J.a 5) J.w (nomark _))
      (J.h (J.l J.w))
      J.n)
      (J.h (J.y (Jd.extC K (J.a 3) (J.a 5)) (hs:=sw_K))))))
      (J.h (J.l (Jd.pe_ifExp (J.j op_eq (J.p (lenC K) rfl T.len_ PySem.boot_len (J.b (J.a 3) J.d st_N) (he:=st_N) (hpl:=any0)) (J.p (lenC K) rfl T.len_ PySem.boot_len (J.b (J.a 2) J.d st_N) (he:=st_N) (hpl:=any0)) (nomark _)) (J.a 3) J.w))))),?_⟩
  walk_at "v"
  refine r_new (mk:=.lst) (by simp) fun R H1 s1 n1 e1=>?_
  walk_at "v"
  refine r_for (r_iL ?_)
  walk_at "v"
  refine ⟨l,es,n,rfl,s1 _ _ hl,hes.up s1,h40,fun TT ls H2 s2 hLL hmap hl40 hx40=>?_⟩
  have hel:=each2_len hsh
  have hll:ls.length=bs.length:=by rw [← hel,← hmap,List.length_map]
  have s02:=s1.trans s2
  refine ⟨TT,rfl,⟨_,SqL.of hLL.at_⟩,for_list (xs:=lrefs ls) (fun i σ H3=>∃(fs:List Fp) (v4 v5:Option V),σ=[some (.ref l),some (.str (wayS hung tied)),some (.ref lp),some (.ref R),v4,v5]∧Same H H3∧LL H1 H3 TT ls∧H3 R=some (.lst (frefs fs))∧AllF H3 fs∧(∀x∈fs,x.2.1.1≠R)∧fs.map (·.2.2)=(bs.take i).flatten ∧
    (∀x∈fs,∀s∈x.2.1.2,s∈(parts smp es es.length).flatten∧has x.2.2.2 (s.2.1:Rat))∧(∀s∈((parts smp es es.length).take i).flatten,∃x∈fs,s∈x.2.1.2)∧∀x∈fs,x.2.1.2.length≤40) ?_ ?_ ?_ ?_⟩
  · exact ⟨[],none,none,rfl,s02,hLL,s2 _ _ e1,fun x hx=>absurd hx (by simp),fun x hx=>absurd hx (by simp),rfl,fun x hx=>absurd hx (by simp),fun s hs=>by simp at hs,fun x hx=>absurd hx (by simp)⟩
  · rintro i σ H3 _ ⟨fs,v4,v5,rfl,s3,hL3,_⟩
    exact SqL.of hL3.at_
  · rintro i v σ H3 hv ⟨fs,v4,v5,rfl,s3,hL3,eR,hF,hne,hfm,hin,hall,hlen⟩
    refine body_cut fun M Bk RR hM _ hR=>?_
    obtain ⟨x,gx,rfl⟩:=lrefs_at hv
    have hi:i<ls.length:=(List.getElem?_eq_some_iff.mp gx).1
    obtain ⟨b,gb⟩:∃b,bs[i]?=some b:=⟨_,List.getElem?_eq_getElem (by omega)⟩
    have gr:(parts smp es es.length)[i]?=some x.2:=by rw [← hmap,List.getElem?_map,gx];rfl
    have hshi:=each2_get hsh gr gb
    obtain ⟨po1,po2,po3⟩:=parts_own es.length x.2 (List.mem_of_getElem? gr)
    rw [List.take_length] at po3
    obtain ⟨xa,xb,xc⟩:=hL3.each x (List.mem_of_getElem? gx)
    have hrow:Row H x.2 n:=fun y hy=>hes y (po3.subset hy)
    have hfl:fs.length=(bs.take i).flatten.length:=by rw [← hfm,List.length_map]
    have hcut:pcs.drop fs.length=b++(bs.drop (i+1)).flatten:=by
      have e:bs=bs.take i++(b::bs.drop (i+1)):=by
        have:=List.take_append_drop i bs
        rw [List.drop_eq_getElem_cons (by omega:i<bs.length)] at this
        rw [← Option.some.inj ((List.getElem?_eq_getElem (by omega)).symm.trans gb)]
        exact this.symm
      have e2:pcs=(bs.take i).flatten++(b++(bs.drop (i+1)).flatten):=by
        rw [hpc]
        conv=>lhs;rw [e]
        rw [List.flatten_append,List.flatten_cons]
      rw [e2,hfl,List.drop_left]
    have hlp3:=s3 _ _ hlp
    have hdl:(pcs.drop fs.length).length≤900:=by rw [List.length_drop];omega
    walk_at "vd"
    refine r_len (.inl (SqL.of eR)) ?_
    rw [frefs_len]
    refine ⟨_,rfl,?_⟩
    walk_at "vd"
    refine r_slL hlp3 fun pS H4 s4 n4 e4=>?_
    rw [cutk,show (prefs pcs).drop fs.length=prefs (pcs.drop fs.length) by unfold prefs;rw [List.map_drop]] at e4
    have s04:=s3.trans s4
    walk_at "v"
    refine ⟨hung,tied,x.1,pS,x.2,pcs.drop fs.length,b,(bs.drop (i+1)).flatten,n,m,rfl,s4 _ _ xb,hrow.up s04,po2,hri.sublist po3,hx40 x (List.mem_of_getElem? gx),hn,e4,fun y hy=>(hps y (List.mem_of_mem_drop hy)).up s04,hcut,hdl,hnm,hshi,fun TT' gs H5 s5 ho=>?_⟩
    walk_at "v"
    refine ⟨rfl,?_⟩
    refine ⟨_,rfl,?_⟩
    refine iteF ?_
    have s35:=s4.trans s5
    have eR5:=s35 _ _ eR
    have hgl:gs.length=b.length:=by rw [← ho.map,List.length_map]
    have hbl9:b.length≤900:=by have:=congrArg List.length hcut;rw [List.length_append] at this;omega
    walk_at "v"
    refine ⟨.inl ⟨rfl,_,SqL.of eR5⟩,?_⟩
    walk_at "v"
    refine r_ext eR5 ho.at_ (by rw [frefs_len,frefs_len];exact Nat.le_of_lt (Nat.lt_of_le_of_lt (show _≤900 by
      have:fs.length≤pcs.length:=by rw [hfl,hpc];rw [← List.take_append_drop i bs,List.flatten_append,List.length_append,List.take_append_drop];exact Nat.le_add_right _ _
      have:=congrArg List.length hcut
      rw [List.length_append,List.length_drop] at this
      omega) (small1000 (by decide)))) ?_
    have hx1R:x.1≠R:=fun q=>by rw [q,e1] at xa;cases xa
    have nR4:∀y∈gs,y.2.1.1≠R:=fun y hy q=>by
      rcases ho.own y hy with z | z
      · rw [q,s4 _ _ eR] at z;cases z
      · exact hx1R (z.symm.trans q)
    have hF6:AllF H5 (fs++gs):=fun y hy=>by
      rcases List.mem_append.mp hy with z | z
      · exact hF.up s35 y z
      · exact ho.all y z
    have hne6:∀y∈fs++gs,y.2.1.1≠R:=fun y hy=>by
      rcases List.mem_append.mp hy with z | z
      · exact hne y z
      · exact nR4 y z
    refine hM _ _ ⟨fs++gs,_,_,rfl,same_at (s3.trans s35) n1,(hL3.up s35).other (fun q=>by have:=hL3.new;rw [← q,e1] at this;cases this) (fun y hy q=>by have:=(hL3.each y hy).1;rw [q,e1] at this;cases this),by rw [upd_same];unfold frefs;rw [List.map_append],hF6.app eR5 hne6,hne6,?_,fun y hy=>?_,fun s hs=>?_,fun y hy=>?_⟩
    · rw [List.map_append,hfm,ho.map,List.take_add_one,gb,List.flatten_append]
      simp
    · rcases List.mem_append.mp hy with z | z
      · exact hin y z
      · intro s hs
        obtain ⟨h1,h2⟩:=ho.cvr.inn y z s hs
        exact ⟨List.mem_flatten.mpr ⟨x.2,List.mem_of_getElem? gr,h1⟩,h2⟩
    · rw [List.take_add_one,gr,List.flatten_append] at hs
      rcases List.mem_append.mp hs with z | z
      · obtain ⟨y,hy,hh⟩:=hall s z
        exact ⟨y,List.mem_append_left _ hy,hh⟩
      · have z':s∈x.2:=by simpa using z
        obtain ⟨y,hy,hh⟩:=ho.cvr.all s (by rw [List.take_length];exact z')
        exact ⟨y,List.mem_append_right _ hy,hh⟩
    · rcases List.mem_append.mp hy with z | z
      · exact hlen y z
      · exact Nat.le_trans (ho.len y z) (hx40 x (List.mem_of_getElem? gx))
  · rintro σ H3 ⟨fs,v4,v5,rfl,s3,hL3,eR,hF,hne,hfm,hin,hall,hlen⟩
    rw [lrefs_len,hll,List.take_length,← hpc] at hfm
    rw [lrefs_len,hll,← hel,List.take_length] at hall
    have hfl:fs.length=pcs.length:=by rw [← hfm,List.length_map]
    walk_at "v"
    refine r_len (.inl (SqL.of eR)) ?_
    walk_at "v"
    refine r_len (.inl (SqL.of (s3 _ _ hlp))) ?_
    rw [frefs_len,prefs_len,hfl]
    walk_at "v"
    rw [decide_eq_true rfl]
    refine iteT ?_
    walk_at "v"
    exact k R fs H3 s3 n1 eR hF hfm hin hall hlen
end

theorem qt_inv {t b:Int} {q:Rat} (h:Qt t b q) (hq:0<q):Qt b t q⁻¹:=by
  have e:=h.eq
  have hb:(0:Rat)<(b:Rat):=by have:=h.pos;exact Rat.intCast_pos.mpr (by omega)
  have ht:(0:Rat)<(t:Rat):=by rw [e];exact Rat.mul_pos hq hb
  have ht':0<t:=Rat.intCast_pos.mp ht
  refine ⟨by omega,?_⟩
  rw [e,← Rat.mul_assoc,Rat.inv_mul_cancel _ (by grind),Rat.one_mul]
noncomputable def spHOn:Sp:=fun vs H Q _=>∃(pc:Pc) (pw:Addr) (u:Rat) (n m:Nat),vs=[.ref pc.1,.ref pw]∧PcAt H pc m∧QtAt H pw u n∧pc.2.1≤pc.2.2.2.1∧6*m+n+4≤50000∧∀(z:Addr) (H':Hp),Same H H'→QtAt H' z (hgt pc.2 u) (6*m+n+4)→Q (.ref z) H'
noncomputable def spLmiss:Sp:=fun vs H Q _=>∃(x:Fp) (n m:Nat),vs=[.ref x.1]∧FpAt H x∧Row H x.2.1.2 n∧AllS x.2.1.2∧x.2.1.2.length≤40∧PcAt H x.2.2 m∧1≤n∧6*m+2*n+5≤50000∧(∀s∈x.2.1.2,has x.2.2.2 (s.2.1:Rat)) ∧
  ∀(T:Addr) (rs:Qs) (H':Hp),Same H H'→H T=none→H' T=some (.lst (qrefs rs))→AllQ H' rs (6*m+2*n+5)→rs.map (·.2)=x.2.1.2.map (fun s=>rabs (s.2.2.getD 0-hgt x.2.2.2 (s.2.1:Rat)))→Q (.ref T) H'
structure MissIn (H:Hp) (hung tied:Bool) (l lp:Addr) (es:List En) (pcs:List Pc) (bs:List (List Pc)) (n m:Nat):Prop where
  hl:H l=some (.lst (vals es))
  row:Row H es n
  ris:rising es
  h40:es.length≤40
  hn:1≤n
  hlp:H lp=some (.lst (prefs pcs))
  hps:AllP H pcs m
  hpc:pcs=bs.flatten
  h900:pcs.length≤900
  hnm:6*m+2*n+5≤8000
  shp:Each2 (fun r b=>ShpW hung tied (pts r) (b.map (·.2))) (parts smp es es.length) bs
noncomputable def rpts (es:List En):List Pt:=pts (es.filter smp)
theorem flat_all {es:List En}:(parts smp es es.length).flatten=es.filter smp:=by rw [parts_flat,List.take_length]
theorem each2_map {α β γ δ:Type} {R:γ→δ→Prop} {f:α→γ} {g:β→δ}:∀{as:List α} {bs:List β},Each2 (fun a b=>R (f a) (g b)) as bs→Each2 R (as.map f) (bs.map g)
  | [],[],_=>trivial
  | _::_,_::_,h=>⟨h.1,each2_map h.2⟩
  | [],_::_,h=>h.elim
  | _::_,[],h=>h.elim
theorem one_of {hung tied:Bool} {es:List En} {bs:List (List Pc)} (hri:rising es) (h:Each2 (fun r b=>ShpW hung tied (pts r) (b.map (·.2))) (parts smp es es.length) bs):One4 (rpts es) (bs.flatten.map (·.2)):=by
  have hr:∀r∈parts smp es es.length,prise (pts r):=fun r hr=>pts_rise (hri.sublist (by have:=(parts_own es.length r hr).2.2;rwa [List.take_length] at this))
  have h1:Each2 (fun r b=>Fit4 (pts r) (b.map (·.2))) (parts smp es es.length) bs:=each2_imp (fun r b hm z=>z.fit (hr r hm)) h
  have h2:Each2 Fit4 ((parts smp es es.length).map pts) (bs.map fun b=>b.map (·.2)):=each2_map (R:=Fit4) (f:=pts) (g:=fun b:List Pc=>b.map (·.2)) h1
  have e:((parts smp es es.length).map pts).flatten=rpts es:=by unfold rpts pts;rw [← flat_all,List.map_flatten]
  have e2:(bs.map fun b:List Pc=>b.map (·.2)).flatten=bs.flatten.map (·.2):=by rw [List.map_flatten]
  have:=(fits_one h2 (by rw [e];exact pts_rise (hri.sublist List.filter_sublist))).1
  rw [e,e2] at this
  exact this
noncomputable def spMiss:Sp:=fun vs H Q _=>∃(hung tied:Bool) (l lp:Addr) (es:List En) (pcs:List Pc) (bs:List (List Pc)) (n m:Nat),vs=[.ref l,.str (wayS hung tied),.ref lp]∧MissIn H hung tied l lp es pcs bs n m ∧
  ∀(r:Addr) (M:Rat) (H':Hp),Same H H'→FrAt H' r M (6*m+2*n+5)→TopD (rpts es) (pcs.map (·.2)) M→Q (.ref r) H'
noncomputable def spFits:Sp:=fun vs H Q _=>∃(hung tied:Bool) (l lp pb:Addr) (es:List En) (pcs:List Pc) (bs:List (List Pc)) (β:Rat) (n m nb:Nat),vs=[.ref l,.str (wayS hung tied),.ref pb,.ref lp]∧MissIn H hung tied l lp es pcs bs n m∧FrAt H pb β nb∧nb≤50000 ∧
  ∀(M:Rat) (H':Hp),Same H H'→TopD (rpts es) (pcs.map (·.2)) M→Q (.bl (decide (M≤β))) H'
section
variable {P:Program} {w:World} {K:PySem.W.Frag} {mg:Str→Option Value} {base:Heap} {f:Addr} {fd:FuncData}
theorem sc_loose_height_on:FnScope ["piece","when","rise","step","part"] ["piece","when"] (defScope s_loose_height_on):=⟨rfl,rfl,rfl,by decide +kernel,rfl,by decide +kernel,by decide +kernel⟩
theorem ok_loose_height_on (F:Fun K "loose_height_on" "loose_height_on" s_loose_height_on f fd) (D_loose_minus:Dn P w K mg base 1 "loose_minus" ["one","other"] (spTwo (·-·) 1)) (D_loose_times:Dn P w K mg base 1 "loose_times" ["one","other"] (spTwo (·*·) 0)) (D_loose_plus:Dn P w K mg base 1 "loose_plus" ["one","other"] (spTwo (·+·) 1)):FnOk P w K mg base CX0 2 f fd ["piece","when"] spHOn:=by
  refine F.ok sc_loose_height_on (fun vs H Q E h=>?_) (fun cdv A outer s H vs Q E hr h=>?_)
  · obtain ⟨pc,pw,u,n,m,rfl,_⟩:=h
    rfl
  obtain ⟨pc,pw,u,n,m,rfl,⟨a1,a2,a3,a4,ep,f1,f2,f3,f4⟩,fw,hle,hnm,k⟩:=h
  have hu64:=hr.units
  refine J.q ⟨_,(J.f (J.m (J.j (op_eqD hu64) (J.e (ixT K) (J.a 0) J.c (fun _ _=>rfl)) (J.e (ixT K) (J.a 0) J.c (fun _ _=>rfl)) (nomark _))
      (J.h (J.l (J.e (ixT K) (J.a 0) J.c (fun _ _=>rfl))))
      J.n)
      (J.f (J.i (i:=2) sc_loose_height_on.nd rfl (Or.inl rfl) (J.k D_loose_minus (hr.mono (by decide)) rfl (J.b (J.e (ixT K) (J.a 0) J.c (fun _ _=>rfl)) (J.b (J.e (ixT K) (J.a 0) J.c (fun _ _=>rfl)) J.d st_S) st_S) (he:=st_S) (hpl:=(anyc st_S any0))) (hs:=sw_K))
      (J.f (J.i (i:=3) sc_loose_height_on.nd rfl (Or.inl rfl) (J.k D_loose_minus (hr.mono (by decide)) rfl (J.b (J.e (ixT K) (J.a 0) J.c (fun _ _=>rfl)) (J.b (J.e (ixT K) (J.a 0) J.c (fun _ _=>rfl)) J.d st_S) st_S) (he:=st_S) (hpl:=(anyc st_S any0))) (hs:=sw_K))
      (J.f (J.i (i:=4) sc_loose_height_on.nd rfl (Or.inl rfl) (J.k D_loose_times (hr.mono (by decide)) rfl (J.b (J.k D_loose_minus (hr.mono (by decide)) rfl (J.b (J.a 1) (J.b (J.e (ixT K) (J.a 0) J.c (fun _ _=>rfl)) J.d st_S) st_N) (he:=st_N) (hpl:=(anyc st_S any0))) (J.b (J.o (J.b (J.e (ixT K) (J.a 3) J.c (fun _ _=>rfl)) (J.b (J.e (ixT K) (J.a 3) J.c (fun _ _=>rfl)) J.d st_S) st_S)) J.d st_T) st_K) (he:=st_K) (hpl:=(anyc st_T any0))) (hs:=sw_K))
      (J.h (J.l (J.k D_loose_plus (hr.mono (by decide)) rfl (J.b (J.e (ixT K) (J.a 0) J.c (fun _ _=>rfl)) (J.b (J.k D_loose_times (hr.mono (by decide)) rfl (J.b (J.a 2) (J.b (J.a 4) J.d st_N) st_N) (he:=st_N) (hpl:=(anyc st_N any0))) J.d st_K) st_S) (he:=st_S) (hpl:=(anyc st_K any0))))))))),?_⟩
  walk_at "v"
  refine fr_eqD f1 f3 ?_
  by_cases e:pc.2.1=pc.2.2.2.1
  · rw [decide_eq_true e]
    refine ⟨_,rfl,?_⟩
    refine iteT ?_
    walk_at "v"
    refine k a2 H (Same.refl _) ?_
    have:hgt pc.2 u=pc.2.2.1:=by unfold hgt;rw [if_pos e]
    rw [this]
    exact f2.qt.mono (by omega)
  · rw [decide_eq_false e]
    refine ⟨_,rfl,?_⟩
    refine iteF ?_
    walk_at "v"
    refine ⟨a4,a2,_,_,m,m,rfl,f4.qt,f2.qt,by omega,fun z1 H1 s1 q1=>?_⟩
    have ep1:=s1 _ _ ep
    walk_at "v"
    refine ⟨a3,a1,_,_,m,m,rfl,(f3.up s1).qt,(f1.up s1).qt,by omega,fun z2 H2 s2 q2=>?_⟩
    have s12:=s1.trans s2
    have ep2:=s12 _ _ ep
    walk_at "v"
    refine ⟨pw,a1,_,_,n,m,rfl,fw.up s12,(f1.up s12).qt,by omega,fun z3 H3 s3 q3=>?_⟩
    obtain ⟨t,b,e2,g2,zt,zb⟩:=q2.up s3
    walk_at "v"
    refine r_new (mk:=.tup) (by simp) fun z4 H4 s4 n4 e4=>?_
    have q4:QtAt H4 z4 (pc.2.2.2.1-pc.2.1)⁻¹ (m+m+1):=⟨b,t,e4,qt_inv g2 (by grind),zb,zt⟩
    walk_at "v"
    refine ⟨z3,z4,_,_,_,_,rfl,q3.up s4,q4,by omega,fun z5 H5 s5 q5=>?_⟩
    have s25:=(s3.trans s4).trans s5
    have s05:=s12.trans s25
    have ep5:=s05 _ _ ep
    walk_at "v"
    refine ⟨z1,z5,_,_,_,_,rfl,q1.up (s2.trans s25),q5,by omega,fun z6 H6 s6 q6=>?_⟩
    walk_at "v"
    refine ⟨a2,z6,_,_,_,_,rfl,(f2.up (s05.trans s6)).qt,q6,by omega,fun z7 H7 s7 q7=>?_⟩
    refine k z7 H7 ((s05.trans s6).trans s7) ?_
    have e7:hgt pc.2 u=pc.2.2.1+(pc.2.2.2.2-pc.2.2.1)*((u-pc.2.1)*(pc.2.2.2.1-pc.2.1)⁻¹):=by unfold hgt;rw [if_neg e,Rat.div_def]
    rw [e7]
    exact q7.mono (by omega)
theorem sc_loose_misses:FnScope ["part"] ["part"] (defScope s_loose_misses):=⟨rfl,rfl,rfl,by decide +kernel,rfl,by decide +kernel,by decide +kernel⟩
theorem ok_loose_misses (F:Fun K "loose_misses" "loose_misses" s_loose_misses f fd) (D_size:Dn P w K mg base 1 "size" ["one"] spSizeQ) (D_loose_minus:Dn P w K mg base 1 "loose_minus" ["one","other"] (spTwo (·-·) 1)) (D_loose_height_on:Dn P w K mg base 2 "loose_height_on" ["piece","when"] spHOn) (D_moment_of:Dn P w K mg base 1 "moment_of" ["sample"] spMoment):FnOk P w K mg base CX0 3 f fd ["part"] spLmiss:=by
  refine F.ok sc_loose_misses (fun vs H Q E h=>?_) (fun cdv A outer s H vs Q E hr h=>?_)
  · obtain ⟨x,n,m,rfl,_⟩:=h
    rfl
  obtain ⟨x,n,m,rfl,hx,hes,hS,h40,hpc,hn,hnm,hhas,k⟩:=h
  obtain ⟨ex,el⟩:=hx
  refine J.q ⟨_,(J.h (J.l (J.ao (O:=["sample"]) (N':=["part"]) (cap:=[0]) rfl (J.aa K (J.e (ixT K) (J.a 0) J.c (fun _ _=>rfl))) (fun _ _ _ _ _=>(J.u (i:=0) (show List.Nodup [("sample":Str),("part":Str)] by decide +kernel) rfl (Or.inl rfl))) (fun _ _ _ _ _=>J.an) (fun _ _ _ _ _=>(J.k D_size (hr.mono (by decide)) rfl (J.b (J.k D_loose_minus (hr.mono (by decide)) rfl (J.b (J.e (ixT K) (J.a 0) J.c (fun _ _=>rfl)) (J.b (J.k D_loose_height_on (hr.mono (by decide)) rfl (J.b (J.e (ixT K) (J.a 1) J.c (fun _ _=>rfl)) (J.b (J.k D_moment_of (hr.mono (by decide)) rfl (J.b (J.a 0) J.d st_N) (he:=st_N) (hpl:=any0)) J.d st_K) st_S) (he:=st_S) (hpl:=(anyc st_K any0))) J.d st_K) st_S) (he:=st_S) (hpl:=(anyc st_K any0))) J.d st_K) (he:=st_K) (hpl:=any0))) rfl ⟨⟨rfl,rfl,rfl,rfl⟩,trivial⟩ rfl (by decide +kernel) rfl (by decide +kernel)))),?_⟩
  walk_at "v"
  refine r_iL ?_
  walk_at "v"
  refine ⟨_,rfl,⟨_,SqL.of el⟩,?_⟩
  refine compB_of (xs:=vals x.2.1.2) tells_list (fun H3 s3=>SqL.of (s3 _ _ el)) (by rw [vals_len];walk_at "o") (fun i ys G=>∃rs:Qs,ys=qrefs rs∧AllQ G rs (6*m+2*n+5)∧rs.map (·.2)=(x.2.1.2.take i).map (fun s=>rabs (s.2.2.getD 0-hgt x.2.2.2 (s.2.1:Rat)))) ⟨[],rfl,fun z hz=>absurd hz (by simp),rfl⟩ ?_ ?_
  · rintro D i v ys H3 σ0 N N0 h0 hD eD s3 hv hy ⟨rs,rfl,hrs,hmap⟩ kY kN
    obtain ⟨e,he,rfl⟩:=vals_at hv
    have hm:=List.mem_of_getElem? he
    have hse:=hS e hm
    have hh:=hhas e hm
    have fe:=(hes e hm).up s3
    have hmap':∀z:Addr,(rs++[(z,rabs (e.2.2.getD 0-hgt x.2.2.2 (e.2.1:Rat)))]).map (·.2)=(x.2.1.2.take (i+1)).map (fun s=>rabs (s.2.2.getD 0-hgt x.2.2.2 (s.2.1:Rat))):=fun z=>by
      rw [List.map_append,hmap,List.take_add_one,he,List.map_append]
      rfl
    obtain ⟨a,mm,vv⟩:=e
    cases vv with
    | none=>cases hse
    | some q=>
    obtain ⟨zz,pq,eq,fq⟩:=fe
    dsimp only at eq
    have ex3:=s3 _ _ ex
    refine r_own1 h0 ?_
    walk_at "v"
    refine iteT ?_
    walk_at "v"
    refine ⟨(a,mm,some q),n,rfl,⟨zz,pq,eq,fq⟩,fun p H4 s4 n4 e4=>?_⟩
    have ff:=fr_mo e4 zz hn
    walk_at "v"
    refine ⟨x.2.2,p,_,n,m,rfl,hpc.up (s3.trans s4),ff.qt,Rat.le_trans hh.1 hh.2,by omega,fun z5 H5 s5 q5=>?_⟩
    walk_at "v"
    refine ⟨pq,z5,_,_,_,_,rfl,(fq.up (s4.trans s5)).qt,q5,by omega,fun z6 H6 s6 q6=>?_⟩
    walk_at "v"
    refine ⟨z6,_,_,rfl,q6,fun z7 H7 s7 q7=>?_⟩
    have s37:=(s4.trans s5).trans (s6.trans s7)
    refine kY _ H7 s37 ⟨rs++[(z7,rabs ((some q).getD 0-hgt x.2.2.2 (mm:Rat)))],by simp [qrefs],fun u hu=>?_,hmap' z7⟩
    rcases List.mem_append.mp hu with w | w
    · exact (hrs u w).up (rm_rm s37)
    · obtain rfl:=List.mem_singleton.mp w
      obtain ⟨t,b,e',ff'⟩:=q7.mono (show n+(6*m+n+4)+1≤6*m+2*n+5 by omega)
      exact ⟨t,b,rm_tup (s37 _ _ eD) e',ff'⟩
  · rintro D ys H3 hD eD s3 hy ⟨rs,rfl,hrs,hmap⟩
    rw [vals_len,List.take_length] at hmap
    exact k D rs H3 s3 hD eD (fun u hu=>(hrs u hu).up rm_same) hmap
theorem sc_miss:FnScope ["row","way","telling","found","misses","part"] ["row","way","telling"] (defScope s_miss):=⟨rfl,rfl,rfl,by decide +kernel,rfl,by decide +kernel,by decide +kernel⟩
theorem ok_miss (F:Fun K "miss" "miss" s_miss f fd) (D_parts_of_row:Dn P w K mg base 5 "parts_of_row" ["row","way","telling"] spPRow) (D_loose_misses:Dn P w K mg base 3 "loose_misses" ["part"] spLmiss) (D_greatest:Dn P w K mg base 2 "greatest" ["quotients"] spGreat) (D_reduced:Dn P w K mg base 4 "reduced" ["quotient"] spReduced):FnOk P w K mg base CX0 6 f fd ["row","way","telling"] spMiss:=by
  refine F.ok sc_miss (fun vs H Q E h=>?_) (fun cdv A outer s H vs Q E hr h=>?_)
  · obtain ⟨hung,tied,l,lp,es,pcs,bs,n,m,rfl,_⟩:=h
    rfl
  obtain ⟨hung,tied,l,lp,es,pcs,bs,n,m,rfl,I,k⟩:=h
  have hone:=one_of I.ris I.shp
  rw [← I.hpc] at hone
  have hnm:=I.hnm
  refine J.q ⟨_,(J.f (J.i (i:=3) sc_miss.nd rfl (Or.inl rfl) (J.k D_parts_of_row (hr.mono (by decide)) rfl (J.b (J.a 0) (J.b (J.a 1) (J.b (J.a 2) J.d st_N) st_N) st_N) (he:=st_N) (hpl:=(anyc st_N (anyc st_N any0)))) (hs:=sw_K))
      (J.f (J.m (J.j op_isN (J.a 3) J.w (nomark _))
      (J.h (J.l J.w))
      J.n)
      (J.f (J.i (i:=4) sc_miss.nd rfl (Or.inl rfl) (J.s (J.b (J.o (J.b J.c (J.b J.c J.d st_C) st_C)) J.d st_T)) (hs:=sw_L))
      (J.f (J.ae PassesOwn.never rfl (J.aa K (J.a 3)) (J.u (i:=5) sc_miss.nd rfl (Or.inl rfl))
      (J.h (J.y (Jd.extC K (J.a 4) (J.k D_loose_misses (hr.mono (by decide)) rfl (J.b (J.a 5) J.d st_N) (he:=st_N) (hpl:=any0))) (hs:=sw_K))))
      (J.h (J.l (J.k D_reduced (hr.mono (by decide)) rfl (J.b (J.k D_greatest (hr.mono (by decide)) rfl (J.b (J.a 4) J.d st_N) (he:=st_N) (hpl:=any0)) J.d st_K) (he:=st_K) (hpl:=any0)))))))),?_⟩
  walk_at "v"
  refine ⟨hung,tied,l,lp,es,pcs,bs,n,m,rfl,I.hl,I.row,I.ris,I.h40,I.hn,I.hlp,I.hps,I.hpc,I.h900,by omega,I.shp,fun TT fs H1 s1 n1 e1 hF hmap hin hall hlen=>?_⟩
  rw [flat_all] at hin hall
  walk_at "v"
  refine ⟨rfl,?_⟩
  refine ⟨_,rfl,?_⟩
  refine iteF ?_
  walk_at "v"
  refine r_new (mk:=.tup) (by simp) fun z0 H2 s2 n2 e2=>?_
  walk_at "v"
  refine r_new (mk:=.lst) (by simp) fun R H3 s3 n3 e3=>?_
  walk_at "v"
  refine r_for (r_iL ?_)
  walk_at "v"
  have s12:=s2.trans s3
  have hfl:fs.length≤900:=by have:=I.h900;rw [← hmap,List.length_map] at this;exact this
  refine ⟨TT,rfl,⟨_,SqL.of (s12 _ _ e1)⟩,for_list (xs:=frefs fs) (fun i σ H4=>∃(rs:Qs) (v5:Option V),σ=[some (.ref l),some (.str (wayS hung tied)),some (.ref lp),some (.ref TT),some (.ref R),v5]∧Same H2 H4∧H4 R=some (.lst (qrefs ((z0,0)::rs)))∧AllQ H4 ((z0,0)::rs) (6*m+2*n+5)∧rs.length≤40*i ∧
    (∀y∈rs,∃x∈fs,∃s∈x.2.1.2,y.2=rabs (s.2.2.getD 0-hgt x.2.2.2 (s.2.1:Rat)))∧(∀j x,j<i→fs[j]?=some x→∀s∈x.2.1.2,∃y∈rs,y.2=rabs (s.2.2.getD 0-hgt x.2.2.2 (s.2.1:Rat)))) ?_ ?_ ?_ ?_⟩
  · refine ⟨[],none,rfl,s3,e3,fun y hy=>?_,Nat.le_refl _,fun y hy=>absurd hy (by simp),fun j x hj=>absurd hj (Nat.not_lt_zero _)⟩
    obtain rfl:=List.mem_singleton.mp hy
    exact ⟨0,1,s3 _ _ e2,⟨by decide,by simp⟩,(show Sz 1 0 by decide).mono (by omega),(show Sz 1 1 by decide).mono (by omega)⟩
  · rintro i σ H4 _ ⟨rs,v5,rfl,s4,_⟩
    exact SqL.of (s4 _ _ (s2 _ _ e1))
  · rintro i v σ H4 hv ⟨rs,v5,rfl,s4,eR,hQ,hrl,hof,hto⟩
    refine body_cut fun M Bk RR hM _ _=>?_
    obtain ⟨x,gx,rfl⟩:∃x,fs[i]?=some x∧v=.ref x.1:=by
      unfold frefs at hv
      rw [List.getElem?_map] at hv
      obtain ⟨x,g,rfl⟩:=Option.map_eq_some_iff.mp hv
      exact ⟨x,g,rfl⟩
    have hx:=List.mem_of_getElem? gx
    have hi:i<fs.length:=(List.getElem?_eq_some_iff.mp gx).1
    have s14:=s2.trans s4
    have hmem:x.2.2∈pcs:=by rw [← hmap];exact List.mem_map.mpr ⟨x,hx,rfl⟩
    walk_at "v"
    refine ⟨.inl ⟨rfl,_,SqL.of eR⟩,?_⟩
    walk_at "v"
    refine ⟨x,n,m,rfl,hF.up s14 x hx,fun y hy=>(I.row y (List.mem_filter.mp (hin x hx y hy).1).1).up (s1.trans s14),fun y hy=>(List.mem_filter.mp (hin x hx y hy).1).2,hlen x hx,(I.hps _ hmem).up (s1.trans s14),I.hn,by omega,fun y hy=>(hin x hx y hy).2,fun T2 rs2 H5 s5 n5 e5 hQ5 hm5=>?_⟩
    walk_at "v"
    have eR5:=s5 _ _ eR
    have hl2:rs2.length≤40:=by have:=congrArg List.length hm5;rw [List.length_map,List.length_map] at this;rw [this];exact hlen x hx
    refine r_ext eR5 e5 (by unfold qrefs;rw [List.length_map,List.length_map,List.length_cons];exact Nat.le_trans (show _≤40*901+1 by omega) (by decide)) ?_
    have hQ6:AllQ (upd H5 R (.lst (qrefs ((z0,0)::rs)++qrefs rs2))) ((z0,0)::(rs++rs2)) (6*m+2*n+5):=fun y hy=>by
      rcases List.mem_append.mp (show y∈((z0,0)::rs)++rs2 from hy) with z | z
      · exact ((hQ y z).up s5).app eR5
      · exact (hQ5 y z).app eR5
    refine hM _ _ ⟨rs++rs2,_,rfl,same_at (s4.trans s5) n3,by rw [upd_same];unfold qrefs;rw [← List.map_append];rfl,hQ6,by rw [List.length_append];omega,fun y hy=>?_,fun j x' hj gj s hs=>?_⟩
    · rcases List.mem_append.mp hy with z | z
      · exact hof y z
      · have:y.2∈rs2.map (·.2):=List.mem_map.mpr ⟨y,z,rfl⟩
        rw [hm5] at this
        obtain ⟨s,hs,e⟩:=List.mem_map.mp this
        exact ⟨x,hx,s,hs,e.symm⟩
    · by_cases hji:j=i
      · subst hji
        rw [gx] at gj
        cases gj
        have:rabs (s.2.2.getD 0-hgt x.2.2.2 (s.2.1:Rat))∈rs2.map (·.2):=by rw [hm5];exact List.mem_map.mpr ⟨s,hs,rfl⟩
        obtain ⟨y,hy,e⟩:=List.mem_map.mp this
        exact ⟨y,List.mem_append_right _ hy,e⟩
      · obtain ⟨y,hy,e⟩:=hto j x' (by omega) gj s hs
        exact ⟨y,List.mem_append_left _ hy,e⟩
  · rintro σ H4 ⟨rs,v5,rfl,s4,eR,hQ,hrl,hof,hto⟩
    rw [frefs_len] at hto
    have s04:=(s1.trans s2).trans s4
    walk_at "v"
    refine ⟨R,(z0,0)::rs,6*m+2*n+5,rfl,eR,hQ,by omega,by simp,fun x hx hmax=>?_⟩
    walk_at "v"
    refine ⟨x.1,x.2,_,rfl,hQ x hx,hnm,fun r H5 s5 f5=>?_⟩
    refine k r x.2 H5 (s04.trans s5) f5 ⟨hmax (z0,0) (by simp),?_,?_⟩
    · rintro d ⟨pt,hpt,p,hp,hh,rfl⟩
      obtain ⟨s,hs,rfl⟩:=List.mem_map.mp (show pt∈(es.filter smp).map _ from hpt)
      obtain ⟨y,hy,hsy⟩:=hall s hs
      obtain ⟨j,hj,e⟩:=List.mem_iff_getElem.mp hy
      obtain ⟨z,hz,ez⟩:=hto j y hj (by rw [List.getElem?_eq_getElem hj,e]) s hsy
      have hh2:=(hin y hy s hsy).2
      have hyp:y.2.2.2∈pcs.map (·.2):=by rw [← hmap,List.map_map];exact List.mem_map.mpr ⟨y,hy,rfl⟩
      have:=hone.one _ hpt p hp _ hyp hh hh2
      show rabs (s.2.2.getD 0-hgt p (s.2.1:Rat))≤x.2
      rw [show hgt p (s.2.1:Rat)=hgt y.2.2.2 (s.2.1:Rat) from this,← ez]
      exact hmax z (List.mem_cons_of_mem _ hz)
    · rcases List.mem_cons.mp hx with z | z
      · left;rw [z]
      · right
        obtain ⟨y,hy,s,hs,e⟩:=hof x z
        obtain ⟨h1,h2⟩:=hin y hy s hs
        exact ⟨(s.2.1,s.2.2.getD 0),List.mem_map.mpr ⟨s,h1,rfl⟩,y.2.2.2,by rw [← hmap,List.map_map];exact List.mem_map.mpr ⟨y,hy,rfl⟩,h2,e⟩
theorem sc_fits:FnScope ["row","way","bound","telling","found"] ["row","way","bound","telling"] (defScope s_fits):=⟨rfl,rfl,rfl,by decide +kernel,rfl,by decide +kernel,by decide +kernel⟩
theorem ok_fits (F:Fun K "fits" "fits" s_fits f fd) (D_miss:Dn P w K mg base 6 "miss" ["row","way","telling"] spMiss) (D_order:Dn P w K mg base 1 "order" ["one","other"] spOrderQ):FnOk P w K mg base CX0 7 f fd ["row","way","bound","telling"] spFits:=by
  refine F.ok sc_fits (fun vs H Q E h=>?_) (fun cdv A outer s H vs Q E hr h=>?_)
  · obtain ⟨hung,tied,l,lp,pb,es,pcs,bs,β,n,m,nb,rfl,_⟩:=h
    rfl
  obtain ⟨hung,tied,l,lp,pb,es,pcs,bs,β,n,m,nb,rfl,I,fb,hnb,k⟩:=h
  have hnm:=I.hnm
  refine J.q ⟨_,(J.f (J.i (i:=4) sc_fits.nd rfl (Or.inl rfl) (J.k D_miss (hr.mono (by decide)) rfl (J.b (J.a 0) (J.b (J.a 1) (J.b (J.a 3) J.d st_N) st_N) st_N) (he:=st_N) (hpl:=(anyc st_N (anyc st_N any0)))) (hs:=sw_K))
      (J.h (J.l (J.am (J.ab op_notN (J.a 4) J.w (nomark _)) (J.al (J.ab op_le (J.k D_order (hr.mono (by decide)) rfl (J.b (J.a 4) (J.b (J.a 2) J.d st_N) st_N) (he:=st_N) (hpl:=(anyc st_N any0))) J.c (nomark _))))))),?_⟩
  walk_at "v"
  refine ⟨hung,tied,l,lp,es,pcs,bs,n,m,rfl,I,fun r M H1 s1 f1 t1=>?_⟩
  walk_at "v"
  refine ⟨rfl,?_⟩
  refine ⟨_,rfl,?_⟩
  refine iteT ?_
  walk_at "v"
  refine ⟨r,pb,M,β,_,nb,rfl,f1.qt,(fb.up s1).qt,by omega,fun o ho1 ho2=>?_⟩
  walk_at "v"
  have:decide (o≤0)=decide (M≤β):=decide_eq_decide.mpr ⟨fun z=>by
    have:¬0<o:=by omega
    rw [ho1] at this
    grind,fun z=>by
    have:¬β<M:=by grind
    rw [← ho1] at this
    omega⟩
  rw [this]
  exact k M H1 s1 t1
end

noncomputable abbrev npts (hs:List Nn) (b:Int):List Pt:=pts (gh hs b)
theorem npts_at {hs:List Nn} {b:Int} {i:Nat} {x:Nn} {z:Int} (h:hs[i]?=some x) (hz:x.2.2=some z):(npts hs b)[i]?=some (x.2.1,(z:Rat)/(b:Rat)):=by
  unfold npts pts gh
  rw [List.getElem?_map,List.getElem?_map,h]
  show some (x.2.1,(x.2.2.map fun z:Int=>(z:Rat)/(b:Rat)).getD 0)=_
  rw [hz]
  rfl
theorem if_by {c:TT} {s1 s2:TS} {D:Ends} {σ:St} {H:Hp} (Pb:Bool→Hp→Prop) (test:∀B:Bool→Hp→Prop,(∀r H1,Pb r H1→B r H1)→c σ H B) (yes:∀H1,Pb true H1→s1 D σ H1) (no:∀H1,Pb false H1→s2 D σ H1):tIfS c s1 s2 D σ H:=
  r_if (test _ fun r H1 h=>by
    cases r with
    | true=>rw [if_pos rfl];exact yes H1 h
    | false=>rw [if_neg Bool.false_ne_true];exact no H1 h)
theorem npts_len (hs:List Nn) (b:Int):(npts hs b).length=hs.length:=by unfold npts pts gh;simp
structure DrOk (tied:Bool) (a b c d:Int):Prop where
  a0:0≤a
  b0:0≤b
  b7:b<7
  c0:0≤c
  c7:c<7
  d0:0≤d
  d7:d<7
  tie:tied=true→b=3∧c=3
noncomputable def DrAt (H:Hp) (p:Addr) (tied:Bool):Prop:=∃a b c d:Int,H p=some (.lst [.int a,.int b,.int c,.int d])∧DrOk tied a b c d
theorem DrAt.up {H H':Hp} {p:Addr} {tied:Bool} (h:DrAt H p tied) (s:Same H H'):DrAt H' p tied:=let ⟨a,b,c,d,e,o⟩:=h;⟨a,b,c,d,s _ _ e,o⟩
noncomputable def spPut:Sp:=fun vs H Q _=>∃(z u c b:Int),vs=[.int z,.int u,.int c,.int b]∧Sz 150 z∧0≤u∧u<7∧Sz 150 c∧1≤b∧Sz 80 b∧∀(p:Addr) (q:Rat) (H':Hp),Same H H'→FrAt H' p q 160→(u=3→q=(z:Rat)/(b:Rat))→Q (.ref p) H'
noncomputable def spLone:Sp:=fun vs H Q _=>∃(l ld:Addr) (x:Nn) (z:Int) (tied:Bool) (c b:Int),vs=[.ref l,.ref ld,.int c,.int b]∧H l=some (.lst (nvals [x]))∧NnAt H x 45 150∧x.2.2=some z∧DrAt H ld tied∧Sz 150 c∧1≤b∧Sz 80 b ∧
  ∀(R:Addr) (pcs:List Pc) (H':Hp),Same H H'→H R=none→H' R=some (.lst (prefs pcs))→AllP H' pcs 160→ShpW true tied (npts [x] b) (pcs.map (·.2))→pcs.length≤1→Q (.ref R) H'
noncomputable def spLooseL:Sp:=fun vs H Q _=>∃(l ld:Addr) (es:List Nn) (ds:List Addr) (tied:Bool) (c b:Int),vs=[.ref l,.ref ld,.int c,.int b]∧H l=some (.lst (nvals es))∧NRow H es 45 150∧AllN es∧nrising es∧es.length≤40∧H ld=some (.lst (ds.map V.ref))∧ds.length=es.length∧(∀d∈ds,DrAt H d tied)∧Sz 150 c∧1≤b∧Sz 80 b ∧
  ∀(R:Addr) (pcs:List Pc) (H':Hp),Same H H'→H R=none→H' R=some (.lst (prefs pcs))→AllP H' pcs 160→ShpW false tied (npts es b) (pcs.map (·.2))→pcs.length≤es.length→Q (.ref R) H'
noncomputable abbrev Nd:=Addr×Rat×Rat
noncomputable def NdAt (H:Hp) (x:Nd) (n:Nat):Prop:=∃a b:Addr,H x.1=some (.tup [.ref a,.ref b])∧FrAt H a x.2.1 n∧FrAt H b x.2.2 n
theorem NdAt.up {H H':Hp} {x:Nd} {n:Nat} (h:NdAt H x n) (s:Same H H'):NdAt H' x n:=let ⟨a,b,e,f,g⟩:=h;⟨a,b,s _ _ e,f.up s,g.up s⟩
noncomputable def spNode:Sp:=fun vs H Q _=>∃(l ld:Addr) (es:List Nn) (k:Nat) (x y:Nn) (z:Int) (tied:Bool) (c b a0 b0 c0 d0:Int),vs=[.ref l,.int (k:Int),.ref ld,.int c,.int b,.bl tied]∧H l=some (.lst (nvals es))∧NRow H es 45 150∧1≤k∧es[k-1]?=some x∧es[k]?=some y∧y.2.2=some z∧H ld=some (.lst [.int a0,.int b0,.int c0,.int d0])∧0≤b0∧b0<7∧(tied=true→b0=3)∧0≤d0∧d0<7∧Sz 150 c∧1≤b∧Sz 80 b ∧
  ∀(nd:Nd) (H':Hp),Same H H'→NdAt H' nd 160→(tied=true→nd.2.1=(y.2.1:Rat)∧nd.2.2=(z:Rat)/(b:Rat))→(tied=false→nd.2.1=(x.2.1:Rat)+((y.2.1:Rat)-(x.2.1:Rat))*(((d0+1:Int):Rat)/7))→Q (.ref nd.1) H'
theorem LooseP.snoc {ds:List Pt} {ps:List P4} (h:LooseP ds ps) {x y:Pt} {sg:List Pt} {p:P4} {k:Nat} (hk:sg.length=k+1) (hx:sg[0]?=some x) (hy:sg[k]?=some y) (e1:p.1=(x.1:Rat)) (e2:p.2.2.1=(y.1:Rat)):LooseP (ds++sg) (ps++[p]):=by
  induction h with
  | nil=>
    have:=LooseP.cons (rest:=[]) k hk hx hy e1 e2 .nil
    simpa using this
  | cons k' hk' hx' hy' e1' e2' _ ih=>
    rw [List.append_assoc,List.cons_append]
    exact .cons k' hk' hx' hy' e1' e2' ih
theorem put_eq {z b:Int} (hb:1≤b):((z*8+(3-3)*x:Int):Rat)/((8*b:Int):Rat)=(z:Rat)/(b:Rat):=by
  have hb':=cast_ne (b:=b) (by omega)
  rw [show z*8+(3-3)*x=z*8 by omega]
  simp only [Rat.intCast_mul]
  rw [show ((8:Int):Rat)=8 from rfl]
  grind
section
variable {P:Program} {w:World} {K:PySem.W.Frag} {mg:Str→Option Value} {base:Heap} {f:Addr} {fd:FuncData}
theorem sc_law_put:FnScope ["_law_number","_law_up","_law_bound","_law_bottom"] ["_law_number","_law_up","_law_bound","_law_bottom"] (defScope s_law_put):=⟨rfl,rfl,rfl,by decide +kernel,rfl,by decide +kernel,by decide +kernel⟩
theorem ok_law_put (F:Fun K "_law_put" "_law_put" s_law_put f fd) (D_law_ratio:Dn P w K mg base 1 "_law_ratio" ["_law_top","_law_bottom"] spRatio):FnOk P w K mg base CX0 2 f fd ["_law_number","_law_up","_law_bound","_law_bottom"] spPut:=by
  refine F.ok sc_law_put (fun vs H Q E h=>?_) (fun cdv A outer s H vs Q E hr h=>?_)
  · obtain ⟨z,u,c,b,rfl,_⟩:=h
    rfl
  obtain ⟨z,u,c,b,rfl,zz,u0,u7,zc,hb,zb,k⟩:=h
  have zu:Sz 3 (u-3):=show (u-3).natAbs<2 ^ 3 by omega
  have zc1:Sz 151 (c+1):=zc.add ((show Sz 1 1 by decide).mono (by decide))
  have z8:Sz 4 8:=by decide
  refine J.q ⟨_,(J.h (J.l (J.k D_law_ratio (hr.mono (by decide)) rfl (J.b (J.g op_add (J.g op_mulB (J.a 0) J.c) (J.g op_mulB (J.g op_sub (J.a 1) J.c) (J.g op_add (J.a 2) J.c))) (J.b (J.g op_mulB J.c (J.a 3)) J.d st_B) st_B) (he:=st_B) (hpl:=(anyc st_B any0))))),?_⟩
  walk_at "v"
  refine r_I (mulOk zu zc1) ?_
  walk_at "v"
  refine frac_gen (n:=160) (by omega) ((((zz.mul z8).mono (show 150+4≤155 by decide)).add ((zu.mul zc1).mono (show 3+151≤155 by decide))).mono (by decide)) ((z8.mul zb).mono (by decide)) (by decide) fun p H1 s1 f1=>?_
  refine k p _ H1 s1 f1 fun e=>?_
  rw [e]
  exact put_eq hb
theorem sc_law_lone:FnScope ["_law_part","_law_draw","_law_bound","_law_bottom","_law_there","_law_high"] ["_law_part","_law_draw","_law_bound","_law_bottom"] (defScope s_law_lone):=⟨rfl,rfl,rfl,by decide +kernel,rfl,by decide +kernel,by decide +kernel⟩
theorem ok_law_lone (F:Fun K "_law_lone" "_law_lone" s_law_lone f fd) (D_law_put:Dn P w K mg base 2 "_law_put" ["_law_number","_law_up","_law_bound","_law_bottom"] spPut):FnOk P w K mg base CX0 3 f fd ["_law_part","_law_draw","_law_bound","_law_bottom"] spLone:=by
  refine F.ok sc_law_lone (fun vs H Q E h=>?_) (fun cdv A outer s H vs Q E hr h=>?_)
  · obtain ⟨l,ld,x,z,tied,c,b,rfl,_⟩:=h
    rfl
  obtain ⟨l,ld,x,z,tied,c,b,rfl,hl,hx,hz,⟨a0,b0,c0,d0,ed,o⟩,zc,hb,zb,k⟩:=h
  have ex:=hx.1
  rw [hz] at ex
  have zz:=hx.2.2 z hz
  have at0:atI (nvals [x]) 0=some (.ref x.1):=atI_nat (j:=0) rfl
  refine J.q ⟨_,(J.f (J.i (i:=4) sc_law_lone.nd rfl (Or.inl rfl) (J.o (J.b (J.e (ixT K) (J.e (ixL K) (J.a 0) J.c (fun _ _=>rfl)) J.c (fun _ _=>rfl)) (J.b J.c J.d st_C) st_S)) (hs:=sw_T))
      (J.f (J.i (i:=5) sc_law_lone.nd rfl (Or.inl rfl) (J.k D_law_put (hr.mono (by decide)) rfl (J.b (J.e (ixT K) (J.e (ixL K) (J.a 0) J.c (fun _ _=>rfl)) J.c (fun _ _=>rfl)) (J.b (J.e (ixL K) (J.a 1) J.c (fun _ _=>rfl)) (J.b (J.a 2) (J.b (J.a 3) J.d st_N) st_N) st_S) st_S) (he:=st_S) (hpl:=(anyc st_S (anyc st_N (anyc st_N any0))))) (hs:=sw_K))
      (J.h (J.l (J.s (J.b (J.o (J.b (J.a 4) (J.b (J.a 5) (J.b (J.a 4) (J.b (J.a 5) J.d st_N) st_N) st_N) st_N)) J.d st_T)))))),?_⟩
  walk_at "v"
  refine r_l hl at0 ?_
  walk_at "v"
  refine r_new (mk:=.tup) (by simp) fun p1 H1 s1 n1 e1=>?_
  have ex1:=s1 _ _ ex
  walk_at "v"
  refine r_l (s1 _ _ hl) at0 ?_
  walk_at "v"
  refine r_l (s1 _ _ ed) (v:=.int b0) (atI_nat (j:=1) rfl) ?_
  walk_at "v"
  refine ⟨z,b0,c,b,rfl,zz,o.b0,o.b7,zc,hb,zb,fun p2 q H2 s2 f2 hq=>?_⟩
  walk_at "v"
  refine r_new (mk:=.tup) (by simp) fun p3 H3 s3 n3 e3=>?_
  walk_at "v"
  refine r_new (mk:=.lst) (by simp) fun R H4 s4 n4 e4=>?_
  have s24:=s3.trans s4
  have f1:=fr_mo (s2 _ _ e1) hx.2.1 (by decide)
  refine k R [(p3,(x.2.1:Rat),q,(x.2.1:Rat),q)] H4 (s1.trans (s2.trans s24)) (s1.free (s2.free (s3.free n4))) e4 (fun y hy=>?_) ⟨fun p hp _=>?_,?_,fun ht p hp=>?_⟩ (by simp)
  · obtain rfl:=List.mem_singleton.mp hy
    exact ⟨p1,p2,p1,p2,s4 _ _ e3,(f1.up s24).mono (by decide),f2.up s24,(f1.up s24).mono (by decide),f2.up s24⟩
  · obtain rfl:=List.mem_singleton.mp hp
    rfl
  · rw [if_pos rfl]
    exact .inl ⟨(x.2.1,((nworth b x.2).2).getD 0),q,rfl,rfl⟩
  · obtain rfl:=List.mem_singleton.mp hp
    have eq:=hq (o.tie ht).1
    have e:(x.2.1,(z:Rat)/(b:Rat))∈npts [x] b:=List.mem_of_getElem? (npts_at (i:=0) rfl hz)
    exact ⟨⟨_,e,rfl,eq⟩,⟨_,e,rfl,eq⟩⟩
theorem sc_law_loose:FnScope ["_law_part","_law_draws","_law_bound","_law_bottom","_law_some","_law_start","_law_at","_law_one","_law_last","_law_first","_law_end"] ["_law_part","_law_draws","_law_bound","_law_bottom"] (defScope s_law_loose):=⟨rfl,rfl,rfl,by decide +kernel,rfl,by decide +kernel,by decide +kernel⟩
theorem ok_law_loose (F:Fun K "_law_loose" "_law_loose" s_law_loose f fd) (T:Txt mg) (D_law_put:Dn P w K mg base 2 "_law_put" ["_law_number","_law_up","_law_bound","_law_bottom"] spPut):FnOk P w K mg base CX0 3 f fd ["_law_part","_law_draws","_law_bound","_law_bottom"] spLooseL:=by
  refine F.ok sc_law_loose (fun vs H Q E h=>?_) (fun cdv A outer s H vs Q E hr h=>?_)
  · obtain ⟨l,ld,es,ds,tied,c,b,rfl,_⟩:=h
    rfl
  obtain ⟨l,ld,es,ds,tied,c,b,rfl,hl,hes,hN,hri,h40,hld,hdl,hds,zc,hb,zb,k⟩:=h
  have get:∀(i:Nat),i<es.length→∃(x:Nn) (z:Int),es[i]?=some x∧x.2.2=some z∧H x.1=some (.tup [.int x.2.1,.int z])∧Sz 45 x.2.1∧Sz 150 z:=fun i hi=>by
    have g:es[i]?=some es[i]:=List.getElem?_eq_getElem hi
    have hm:=List.mem_of_getElem? g
    have h1:=hes _ hm
    have h2:(es[i]).2.2.isSome=true:=hN _ hm
    obtain ⟨z,hz⟩:=Option.isSome_iff_exists.mp h2
    refine ⟨es[i],z,g,hz,?_,h1.2.1,h1.2.2 z hz⟩
    have:=h1.1
    rw [hz] at this
    exact this
  refine J.q ⟨_,(J.f (J.i (i:=4) sc_law_loose.nd rfl (Or.inl rfl) (J.s J.d) (hs:=sw_L))
      (J.f (J.i (i:=5) sc_law_loose.nd rfl (Or.inl rfl) J.c (hs:=sw_C))
      (J.f (J.ae PassesOwn.never rfl (Jd.pi_range1 rfl T.range (J.b (J.p (lenC K) rfl T.len_ PySem.boot_len (J.b (J.a 0) J.d st_N) (he:=st_N) (hpl:=any0)) J.d st_K)) (J.u (i:=6) sc_law_loose.nd rfl (Or.inl rfl))
      (J.h (J.m (J.x (J.af (J.j op_eq (J.a 6) (J.g op_sub (J.p (lenC K) rfl T.len_ PySem.boot_len (J.b (J.a 0) J.d st_N) (he:=st_N) (hpl:=any0)) J.c) (nomark _)) (J.ah (J.j op_eq (J.e (ixL K) (J.e (ixL K) (J.a 1) (J.a 6) (fun _ _=>rfl)) J.c (fun _ _=>rfl)) J.c (nomark _)))))
      (J.f (Jd.ps_par (i:=7) (j:=8) rfl sc_law_loose.nd rfl rfl (by decide) rfl rfl (J.b (J.e (ixL K) (J.a 0) (J.a 5) (fun _ _=>rfl)) (J.b (J.e (ixL K) (J.a 0) (J.a 6) (fun _ _=>rfl)) J.d st_S) st_S) rfl)
      (J.f (J.i (i:=9) sc_law_loose.nd rfl (Or.inl rfl) (J.k D_law_put (hr.mono (by decide)) rfl (J.b (J.e (ixT K) (J.a 7) J.c (fun _ _=>rfl)) (J.b (J.e (ixL K) (J.e (ixL K) (J.a 1) (J.a 6) (fun _ _=>rfl)) J.c (fun _ _=>rfl)) (J.b (J.a 2) (J.b (J.a 3) J.d st_N) st_N) st_S) st_S) (he:=st_S) (hpl:=(anyc st_S (anyc st_N (anyc st_N any0))))) (hs:=sw_K))
      (J.f (J.i (i:=10) sc_law_loose.nd rfl (Or.inl rfl) (J.k D_law_put (hr.mono (by decide)) rfl (J.b (J.e (ixT K) (J.a 8) J.c (fun _ _=>rfl)) (J.b (J.e (ixL K) (J.e (ixL K) (J.a 1) (J.a 6) (fun _ _=>rfl)) J.c (fun _ _=>rfl)) (J.b (J.a 2) (J.b (J.a 3) J.d st_N) st_N) st_S) st_S) (he:=st_S) (hpl:=(anyc st_S (anyc st_N (anyc st_N any0))))) (hs:=sw_K))
      (J.f (J.m (J.j op_eq (J.a 5) (J.a 6) (nomark _))
      (J.h (J.i (i:=10) sc_law_loose.nd rfl (Or.inl rfl) (J.a 9) (hs:=sw_N)))
      J.n)
      (J.f (J.y (J.ac K (J.a 4) (J.o (J.b (J.o (J.b (J.e (ixT K) (J.a 7) J.c (fun _ _=>rfl)) (J.b J.c J.d st_C) st_S)) (J.b (J.a 9) (J.b (J.o (J.b (J.e (ixT K) (J.a 8) J.c (fun _ _=>rfl)) (J.b J.c J.d st_C) st_S)) (J.b (J.a 10) J.d st_N) st_T) st_N) st_T))) (hs:=sw_K))
      (J.h (J.i (i:=5) sc_law_loose.nd rfl (Or.inl rfl) (J.g op_add (J.a 6) J.c) (hs:=sw_B))))))))
      J.n)))
      (J.h (J.l (J.a 4)))))),?_⟩
  walk_at "v"
  refine r_new (mk:=.lst) (by simp) fun R H1 s1 n1 e1=>?_
  walk_at "v"
  refine r_for (r_rng1 ?_)
  walk_at "v"
  refine r_len (.inl (SqL.of (s1 _ _ hl))) ?_
  rw [nvals_len]
  walk_at "v"
  refine ⟨_,rfl,by lia,by lia,for_range (fun j σ H3=>∃(st:Nat) (pcs:List Pc) (v6 v7 v8 v9 v10:Option V),σ=[some (.ref l),some (.ref ld),some (.int c),some (.int b),some (.ref R),some (.int (st:Int)),v6,v7,v8,v9,v10]∧Same H H3∧H3 R=some (.lst (prefs pcs))∧AllP H3 pcs 160∧st≤j∧(j=es.length→st=j)∧pcs.length≤st∧LooseP ((npts es b).take st) (pcs.map (·.2)) ∧
    (∀p∈pcs,p.2.1=p.2.2.2.1→p.2.2.1=p.2.2.2.2)∧(tied=true→∀p∈pcs,(∃d∈npts es b,p.2.1=(d.1:Rat)∧p.2.2.1=d.2)∧∃d∈npts es b,p.2.2.2.1=(d.1:Rat)∧p.2.2.2.2=d.2)) ?_ ?_ ?_⟩
  · exact ⟨0,[],none,none,none,none,none,rfl,s1,e1,fun x hx=>absurd hx (by simp),Nat.le_refl _,fun e=>e.symm▸rfl,Nat.le_refl _,.nil,fun x hx=>absurd hx (by simp),fun _ x hx=>absurd hx (by simp)⟩
  · rintro j σ H3 hj ⟨st,pcs,v6,v7,v8,v9,v10,rfl,s3,eR,hP,hst,hend,hpl,hlo,hone,htie⟩
    refine body_cut fun M Bk RR hM _ _=>?_
    have hj':j<es.length:=by simpa using hj
    have hl3:=s3 _ _ hl
    have hld3:=s3 _ _ hld
    obtain ⟨dj,gdj⟩:∃d,ds[j]?=some d:=⟨_,List.getElem?_eq_getElem (by omega)⟩
    obtain ⟨da,db,dc,dd,ed,o⟩:=(hds dj (List.mem_of_getElem? gdj)).up s3
    obtain ⟨x,zx,gx,hx2,ex,zmx,zzx⟩:=get st (by omega)
    obtain ⟨y,zy,gy,hy2,ey,zmy,zzy⟩:=get j hj'
    have atd:atI (ds.map V.ref) (0+(j:Int))=some (.ref dj):=by rw [Int.zero_add];exact atI_nat (by rw [List.getElem?_map,gdj];rfl)
    have skip:j≠es.length-1→M [some (.ref l),some (.ref ld),some (.int c),some (.int b),some (.ref R),some (.int (st:Int)),some (.int (0+(j:Int))),v7,v8,v9,v10] H3:=fun hne=>
      hM _ _ ⟨st,pcs,_,_,_,_,_,rfl,s3,eR,hP,by omega,fun e=>by omega,hpl,hlo,hone,htie⟩
    refine r_g ?_
    refine if_by (fun r H1=>H1=H3∧(r=false→j≠es.length-1)) (fun B hB=>?_) (fun H1 ⟨e,_⟩=>?_) (fun H1 ⟨e,hne⟩=>?_)
    · walk_at "v"
      refine r_len (.inl (SqL.of hl3)) ?_
      rw [nvals_len]
      walk_at "v"
      by_cases hlast:j=es.length-1
      · rw [decide_eq_true (show (0:Int)+(j:Int)=(es.length:Int)-1 by omega)]
        refine iteT ?_
        exact hB true H3 ⟨rfl,fun z=>by cases z⟩
      · rw [decide_eq_false (show ¬(0:Int)+(j:Int)=(es.length:Int)-1 by omega)]
        refine iteF ?_
        walk_at "v"
        refine r_l hld3 atd ?_
        walk_at "v"
        refine r_l ed (v:=.int da) (atI_nat (j:=0) rfl) ?_
        walk_at "v"
        exact hB _ H3 ⟨rfl,fun _=>hlast⟩
    · subst e
      walk_at "v"
      refine r_l hl3 (v:=.ref x.1) (at_nval gx rfl) ?_
      walk_at "v"
      refine r_l hl3 (v:=.ref y.1) (at_nval gy (by omega)) ?_
      have ex3:=s3 _ _ ex
      have ey3:=s3 _ _ ey
      walk_at "v"
      refine r_l hld3 atd ?_
      walk_at "v"
      refine r_l ed (v:=.int db) (atI_nat (j:=1) rfl) ?_
      walk_at "v"
      refine ⟨zx,db,c,b,rfl,zzx,o.b0,o.b7,zc,hb,zb,fun pf qf H4 s4 f4 hq4=>?_⟩
      have ey4:=s4 _ _ ey3
      walk_at "v"
      refine r_l (s4 _ _ hld3) atd ?_
      walk_at "v"
      refine r_l (s4 _ _ ed) (v:=.int dc) (atI_nat (j:=2) rfl) ?_
      walk_at "v"
      refine ⟨zy,dc,c,b,rfl,zzy,o.c0,o.c7,zc,hb,zb,fun pl ql H5 s5 f5 hq5=>?_⟩
      refine r_g ?_
      refine nx_of ?_
      have s35:=s4.trans s5
      refine seq_cut (fun σ' H'=>H'=H5∧∃(pz:Addr) (qz:Rat),σ'=[some (.ref l),some (.ref ld),some (.int c),some (.int b),some (.ref R),some (.int (st:Int)),some (.int (0+(j:Int))),some (.ref x.1),some (.ref y.1),some (.ref pf),some (.ref pz)]∧FrAt H5 pz qz 160∧(st=j→qz=qf)∧(tied=true→qz=(zy:Rat)/(b:Rat))) (fun σ' H' hP'=>?_) (fun N hN'=>?_)
      rotate_left
      · walk_at "v"
        by_cases hsj:st=j
        · rw [decide_eq_true (show (st:Int)=0+(j:Int) by omega)]
          refine iteT ?_
          walk_at "v"
          refine hN' _ _ ⟨rfl,pf,qf,rfl,f4.up s5,fun _=>rfl,fun ht=>?_⟩
          rw [hq4 (o.tie ht).1]
          rw [hsj,gy] at gx
          cases gx
          rw [hx2] at hy2
          cases hy2
          rfl
        · rw [decide_eq_false (show ¬(st:Int)=0+(j:Int) by omega)]
          refine iteF ?_
          walk_at "v"
          exact hN' _ _ ⟨rfl,pl,ql,rfl,f5,fun e=>absurd e hsj,fun ht=>hq5 (o.tie ht).2⟩
      obtain ⟨rfl,pz,qz,rfl,fz,hqz,htz⟩:=hP'
      have eR5:=s35 _ _ eR
      have ex5:=s35 _ _ ex3
      have ey5:=s35 _ _ ey3
      walk_at "v"
      refine ⟨.inl ⟨rfl,_,SqL.of eR5⟩,?_⟩
      walk_at "v"
      refine r_new (mk:=.tup) (by simp) fun t1 H6 s6 n6 e6=>?_
      have ey6:=s6 _ _ ey5
      walk_at "v"
      refine r_new (mk:=.tup) (by simp) fun t2 H7 s7 n7 e7=>?_
      walk_at "v"
      refine r_new (mk:=.tup) (by simp) fun t3 H8 s8 n8 e8=>?_
      walk_at "v"
      have s58:=(s6.trans s7).trans s8
      have eR8:=s58 _ _ eR5
      refine r_app eR8 (by rw [prefs_len];exact small1000 (by omega)) ?_
      walk_at "v"
      have hnew:AllP H8 (pcs++[(t3,(x.2.1:Rat),qf,(y.2.1:Rat),qz)]) 160:=fun u hu=>by
        rcases List.mem_append.mp hu with w | w
        · exact (hP.up (s35.trans s58)) u w
        · obtain rfl:=List.mem_singleton.mp w
          exact ⟨t1,pf,t2,pz,e8,(fr_mo ((s7.trans s8) _ _ e6) zmx (by decide)).mono (by decide),f4.up (s5.trans s58),(fr_mo (s8 _ _ e7) zmy (by decide)).mono (by decide),fz.up s58⟩
      have gpx:=npts_at (b:=b) gx hx2
      have gpy:=npts_at (b:=b) gy hy2
      refine hM _ _ ⟨j+1,pcs++[(t3,(x.2.1:Rat),qf,(y.2.1:Rat),qz)],_,_,_,_,_,by rw [show (0:Int)+(j:Int)+1=((j+1:Nat):Int) by omega];rfl,same_at (s3.trans (s35.trans s58)) n1,by rw [upd_same];unfold prefs;rw [List.map_append];rfl,hnew.app eR8,Nat.le_refl _,fun _=>rfl,by rw [List.length_append];simp;omega,?_,fun p hp=>?_,fun ht p hp=>?_⟩
      · have e1:(npts es b).take (j+1)=(npts es b).take st++((npts es b).drop st).take (j-st+1):=by
          rw [show j+1=st+(j-st+1) by omega,List.take_add]
        rw [e1,List.map_append]
        refine hlo.snoc (k:=j-st) (x:=(x.2.1,(zx:Rat)/(b:Rat))) (y:=(y.2.1,(zy:Rat)/(b:Rat))) ?_ ?_ ?_ rfl rfl
        · rw [List.length_take,List.length_drop,npts_len]
          omega
        · rw [List.getElem?_take_of_lt (by omega),List.getElem?_drop,Nat.add_zero]
          exact gpx
        · rw [List.getElem?_take_of_lt (by omega),List.getElem?_drop,show st+(j-st)=j by omega]
          exact gpy
      · rcases List.mem_append.mp hp with w | w
        · exact hone p w
        · obtain rfl:=List.mem_singleton.mp w
          intro e
          have e':x.2.1=y.2.1:=Rat.intCast_inj.mp e
          have:st=j:=by
            rcases Nat.lt_or_ge st j with z | z
            · have:=nmo_lt hri z hj'
              unfold nmo at this
              rw [gx,gy] at this
              simp at this
              omega
            · omega
          exact (hqz this).symm
      · rcases List.mem_append.mp hp with w | w
        · exact htie ht p w
        · obtain rfl:=List.mem_singleton.mp w
          exact ⟨⟨_,List.mem_of_getElem? gpx,rfl,hq4 (o.tie ht).1⟩,⟨_,List.mem_of_getElem? gpy,rfl,htz ht⟩⟩
    · subst e
      exact skip (hne rfl)
  · rintro σ H3 ⟨st,pcs,v6,v7,v8,v9,v10,rfl,s3,eR,hP,hst,hend,hpl,hlo,hone,htie⟩
    have hst':st=es.length:=by have:=hend (by simp);simpa using this
    walk_at "v"
    rw [hst',← npts_len es b,List.take_length] at hlo
    refine k R pcs H3 s3 n1 eR hP ⟨fun p hp=>?_,by rw [if_neg Bool.false_ne_true];exact hlo,fun ht p hp=>?_⟩ (by omega)
    · obtain ⟨c,hc,rfl⟩:=List.mem_map.mp hp
      exact hone c hc
    · obtain ⟨c,hc,rfl⟩:=List.mem_map.mp hp
      exact htie ht c hc
end

noncomputable def ndrefs (nds:List Nd):List V:=nds.map fun x=>V.ref x.1
theorem ndrefs_len (nds:List Nd):(ndrefs nds).length=nds.length:=List.length_map ..
noncomputable def AllNd (H:Hp) (nds:List Nd) (n:Nat):Prop:=∀x∈nds,NdAt H x n
theorem AllNd.up {H H':Hp} {nds:List Nd} {n:Nat} (h:AllNd H nds n) (s:Same H H'):AllNd H' nds n:=fun x hx=>(h x hx).up s
theorem AllNd.app {H:Hp} {R:Addr} {nds:List Nd} {n:Nat} {ys:List V} {o:HO} (h:AllNd H nds n) (e:H R=some (.lst ys)):AllNd (upd H R o) nds n:=fun x hx=>by
  obtain ⟨a,b,e1,⟨t1,b1,g1,r1⟩,⟨t2,b2,g2,r2⟩⟩:=h x hx
  have t:∀{b:Addr} {xs:List V},H b=some (.tup xs)→upd H R o b=some (.tup xs):=fun {b xs} z=>by
    rw [upd_ne (fun q=>by rw [q,e] at z;cases z)]
    exact z
  exact ⟨a,b,t e1,⟨t1,b1,t g1,r1⟩,⟨t2,b2,t g2,r2⟩⟩
theorem AllNd.snoc {H:Hp} {nds:List Nd} {x:Nd} {n:Nat} (h:AllNd H nds n) (hx:NdAt H x n):AllNd H (nds++[x]) n:=fun y hy=>by
  rcases List.mem_append.mp hy with z | z
  · exact h y z
  · obtain rfl:=List.mem_singleton.mp z
    exact hx
structure NdS (es:List Nn) (b:Int) (tied:Bool) (j:Nat) (nds:List Nd):Prop where
  first:∃(x0:Nn) (nd0:Nd),es[0]?=some x0∧nds[0]?=some nd0∧nd0.2.1=(x0.2.1:Rat)
  ris:nds.Pairwise fun a c=>a.2.1<c.2.1
  top:∀x,es[j]?=some x→∀nd∈nds,nd.2.1≤(x.2.1:Rat)
  end_:∀x,j=es.length-1→es[j]?=some x→∀nd∈nds,nd.2.1<(x.2.1:Rat)
  tie:tied=true→∀nd∈nds,∃d∈npts es b,nd.2.1=(d.1:Rat)∧nd.2.2=d.2
theorem nris {es:List Nn} (h:nrising es) {i j:Nat} {x y:Nn} (hij:i<j) (hx:es[i]?=some x) (hy:es[j]?=some y):x.2.1<y.2.1:=by
  obtain ⟨h1,rfl⟩:=List.getElem?_eq_some_iff.mp hx
  obtain ⟨h2,rfl⟩:=List.getElem?_eq_some_iff.mp hy
  exact List.pairwise_iff_getElem.mp h i j h1 h2 hij
section
variable {es:List Nn} {b:Int} {tied:Bool} {j:Nat} {nds:List Nd}
theorem NdS.skip (h:NdS es b tied j nds) (hr:nrising es) {x y:Nn} (gx:es[j]?=some x) (gy:es[j+1]?=some y):NdS es b tied (j+1) nds:=by
  have l:(x.2.1:Rat)<(y.2.1:Rat):=Rat.intCast_lt_intCast.mpr (nris hr (Nat.lt_succ_self j) gx gy)
  have up:∀nd∈nds,nd.2.1<(y.2.1:Rat):=fun nd hnd=>by have:=h.top x gx nd hnd;grind
  refine ⟨h.first,h.ris,fun z gz nd hnd=>?_,fun z _ gz nd hnd=>?_,h.tie⟩
  · rw [gy] at gz
    cases gz
    have:=up nd hnd
    grind
  · rw [gy] at gz
    cases gz
    exact up nd hnd
theorem NdS.put (h:NdS es b tied j nds) {nd:Nd} {y:Nn} (gy:es[j]?=some y) (lo:∀a∈nds,a.2.1<nd.2.1) (hi:nd.2.1≤(y.2.1:Rat)) (he:j=es.length-1→nd.2.1<(y.2.1:Rat)) (ht:tied=true→∃d∈npts es b,nd.2.1=(d.1:Rat)∧nd.2.2=d.2):NdS es b tied j (nds++[nd]):=by
  obtain ⟨x0,nd0,g0,h0,e0⟩:=h.first
  refine ⟨⟨x0,nd0,g0,by rw [List.getElem?_append_left (List.getElem?_eq_some_iff.mp h0).1];exact h0,e0⟩,List.pairwise_append.mpr ⟨h.ris,List.pairwise_singleton _ _,fun a ha c hc=>?_⟩,fun z gz a ha=>?_,fun z hj gz a ha=>?_,fun ht' a ha=>?_⟩
  · obtain rfl:=List.mem_singleton.mp hc
    exact lo a ha
  · rw [gy] at gz
    cases gz
    rcases List.mem_append.mp ha with q | q
    · exact h.top y gy a q
    · obtain rfl:=List.mem_singleton.mp q
      exact hi
  · rw [gy] at gz
    cases gz
    rcases List.mem_append.mp ha with q | q
    · exact h.end_ y hj gy a q
    · obtain rfl:=List.mem_singleton.mp q
      exact he hj
  · rcases List.mem_append.mp ha with q | q
    · exact h.tie ht' a q
    · obtain rfl:=List.mem_singleton.mp q
      exact ht ht'
end
noncomputable def ndF (nds:List Nd) (k:Nat):Rat×Rat:=((nds[k]?).map (·.2)).getD (0,0)
theorem ndF_at {nds:List Nd} {k:Nat} {x:Nd} (h:nds[k]?=some x):ndF nds k=x.2:=by unfold ndF;rw [h];rfl
noncomputable def spHungL:Sp:=fun vs H Q _=>∃(l ld:Addr) (es:List Nn) (ds:List Addr) (tied:Bool) (c b:Int),vs=[.ref l,.ref ld,.int c,.int b,.bl tied]∧H l=some (.lst (nvals es))∧NRow H es 45 150∧AllN es∧nrising es∧1≤es.length∧es.length≤40∧H ld=some (.lst (ds.map V.ref))∧ds.length=es.length∧(∀d∈ds,DrAt H d tied)∧Sz 150 c∧1≤b∧Sz 80 b ∧
  ∀(R:Addr) (pcs:List Pc) (H':Hp),Same H H'→H R=none→H' R=some (.lst (prefs pcs))→AllP H' pcs 160→ShpW true tied (npts es b) (pcs.map (·.2))→pcs.length≤2*es.length→Q (.ref R) H'
theorem nget {H:Hp} {es:List Nn} (hes:NRow H es 45 150) (hN:AllN es) {i:Nat} (hi:i<es.length):∃(x:Nn) (z:Int),es[i]?=some x∧x.2.2=some z∧H x.1=some (.tup [.int x.2.1,.int z])∧Sz 45 x.2.1∧Sz 150 z:=by
  have g:es[i]?=some es[i]:=List.getElem?_eq_getElem hi
  have hm:=List.mem_of_getElem? g
  have h1:=hes _ hm
  have h2:(es[i]).2.2.isSome=true:=hN _ hm
  obtain ⟨z,hz⟩:=Option.isSome_iff_exists.mp h2
  refine ⟨es[i],z,g,hz,?_,h1.2.1,h1.2.2 z hz⟩
  have:=h1.1
  rw [hz] at this
  exact this
theorem when_tied {x y:Int}:((x*7+(y-x)*7:Int):Rat)/((7:Int):Rat)=(y:Rat):=by
  rw [show x*7+(y-x)*7=y*7 by omega,Rat.intCast_mul,show ((7:Int):Rat)=7 from rfl]
  grind
theorem when_free {x y d:Int}:((x*7+(y-x)*(d+1):Int):Rat)/((7:Int):Rat)=(x:Rat)+((y:Rat)-(x:Rat))*(((d+1:Int):Rat)/7):=by
  simp only [Rat.intCast_mul,Rat.intCast_add,Rat.intCast_sub,show ((7:Int):Rat)=7 from rfl,show ((1:Int):Rat)=1 from rfl]
  grind
theorem when_in {x y:Rat} {d:Int} (h:x<y) (d0:0≤d):x<x+(y-x)*(((d+1:Int):Rat)/7)∧(d<7→x+(y-x)*(((d+1:Int):Rat)/7)≤y)∧(d<6→x+(y-x)*(((d+1:Int):Rat)/7)<y)∧x+(y-x)*(((d+1:Int):Rat)/7)<x+(y-x)*(((d+1+1:Int):Rat)/7):=by
  have p:(0:Rat)<y-x:=by grind
  have e1:(0:Rat)<((d+1:Int):Rat):=Rat.intCast_pos.mpr (by omega)
  have e2:((d+1+1:Int):Rat)=((d+1:Int):Rat)+1:=by rw [Rat.intCast_add];rfl
  have m1:(0:Rat)<(y-x)*((d+1:Int):Rat):=Rat.mul_pos p e1
  refine ⟨by grind,fun h7=>?_,fun h6=>?_,by rw [e2];grind⟩
  · have:((d+1:Int):Rat)≤((7:Int):Rat):=Rat.intCast_le_intCast.mpr (by omega)
    rw [show ((7:Int):Rat)=7 from rfl] at this
    have:=Rat.mul_le_mul_of_nonneg_left this (show 0≤y-x by grind)
    grind
  · have:((d+1:Int):Rat)≤((6:Int):Rat):=Rat.intCast_le_intCast.mpr (by omega)
    rw [show ((6:Int):Rat)=6 from rfl] at this
    have:=Rat.mul_le_mul_of_nonneg_left this (show 0≤y-x by grind)
    grind
section
variable {P:Program} {w:World} {K:PySem.W.Frag} {mg:Str→Option Value} {base:Heap} {f:Addr} {fd:FuncData}
theorem sc_law_node:FnScope ["_law_part","_law_at","_law_draw","_law_bound","_law_bottom","_law_tied","_law_share","_law_gap","_law_when"] ["_law_part","_law_at","_law_draw","_law_bound","_law_bottom","_law_tied"] (defScope s_law_node):=⟨rfl,rfl,rfl,by decide +kernel,rfl,by decide +kernel,by decide +kernel⟩
theorem ok_law_node (F:Fun K "_law_node" "_law_node" s_law_node f fd) (D_law_ratio:Dn P w K mg base 1 "_law_ratio" ["_law_top","_law_bottom"] spRatio) (D_law_put:Dn P w K mg base 2 "_law_put" ["_law_number","_law_up","_law_bound","_law_bottom"] spPut):FnOk P w K mg base CX0 3 f fd ["_law_part","_law_at","_law_draw","_law_bound","_law_bottom","_law_tied"] spNode:=by
  refine F.ok sc_law_node (fun vs H Q E h=>?_) (fun cdv A outer s H vs Q E hr h=>?_)
  · obtain ⟨l,ld,es,kk,x,y,z,tied,c,b,a0,b0,c0,d0,rfl,_⟩:=h
    rfl
  obtain ⟨l,ld,es,kk,x,y,z,tied,c,b,a0,b0,c0,d0,rfl,hl,hes,hk,gx,gy,hz,ed,hb0,hb7,hbt,hd0,hd7,zc,hb,zb,k⟩:=h
  have fx:=hes x (List.mem_of_getElem? gx)
  have fy:=hes y (List.mem_of_getElem? gy)
  have ex:=fx.1
  have ey:=fy.1
  rw [hz] at ey
  have ey':H y.1=some (.tup [.int y.2.1,.int z]):=ey
  have atx:atI (nvals es) ((kk:Int)-1)=some (.ref x.1):=at_nval gx (by omega)
  have aty:atI (nvals es) (kk:Int)=some (.ref y.1):=at_nval gy rfl
  refine J.q ⟨_,(J.f (J.i (i:=6) sc_law_node.nd rfl (Or.inl rfl) (J.g op_add (J.e (ixL K) (J.a 2) J.c (fun _ _=>rfl)) J.c) (hs:=sw_B))
      (J.f (J.m (J.ak (J.a 5))
      (J.h (J.i (i:=6) sc_law_node.nd rfl (Or.inl rfl) J.c (hs:=sw_C)))
      J.n)
      (J.f (J.i (i:=7) sc_law_node.nd rfl (Or.inl rfl) (J.g op_sub (J.e (ixT K) (J.e (ixL K) (J.a 0) (J.a 1) (fun _ _=>rfl)) J.c (fun _ _=>rfl)) (J.e (ixT K) (J.e (ixL K) (J.a 0) (J.g op_sub (J.a 1) J.c) (fun _ _=>rfl)) J.c (fun _ _=>rfl))) (hs:=sw_B))
      (J.f (J.i (i:=8) sc_law_node.nd rfl (Or.inl rfl) (J.k D_law_ratio (hr.mono (by decide)) rfl (J.b (J.g op_add (J.g op_mulB (J.e (ixT K) (J.e (ixL K) (J.a 0) (J.g op_sub (J.a 1) J.c) (fun _ _=>rfl)) J.c (fun _ _=>rfl)) J.c) (J.g op_mulB (J.a 7) (J.a 6))) (J.b J.c J.d st_C) st_B) (he:=st_B) (hpl:=(anyc st_C any0))) (hs:=sw_K))
      (J.h (J.l (J.o (J.b (J.a 8) (J.b (J.k D_law_put (hr.mono (by decide)) rfl (J.b (J.e (ixT K) (J.e (ixL K) (J.a 0) (J.a 1) (fun _ _=>rfl)) J.c (fun _ _=>rfl)) (J.b (J.e (ixL K) (J.a 2) J.c (fun _ _=>rfl)) (J.b (J.a 3) (J.b (J.a 4) J.d st_N) st_N) st_S) st_S) (he:=st_S) (hpl:=(anyc st_S (anyc st_N (anyc st_N any0))))) J.d st_K) st_N)))))))),?_⟩
  walk_at "v"
  refine r_l ed (v:=.int d0) (atI_nat (j:=3) rfl) ?_
  refine r_c ?_
  refine r_I0 ?_
  refine r_g ?_
  refine nx_of ?_
  refine seq_cut (fun σ' H'=>H'=H∧∃sh:Int,σ'=[some (.ref l),some (.int (kk:Int)),some (.ref ld),some (.int c),some (.int b),some (.bl tied),some (.int sh),none,none]∧1≤sh∧sh≤7∧(tied=true→sh=7)∧(tied=false→sh=d0+1)) (fun σ' H' hP=>?_) (fun N hN=>?_)
  rotate_left
  · walk_at "v"
    cases tied with
    | true=>
      refine iteT ?_
      walk_at "v"
      exact hN _ _ ⟨rfl,7,rfl,by decide,by decide,fun _=>rfl,fun e=>by cases e⟩
    | false=>
      refine iteF ?_
      walk_at "v"
      exact hN _ _ ⟨rfl,d0+1,rfl,by omega,by omega,fun e=>(by cases e),fun _=>rfl⟩
  obtain ⟨rfl,sh,rfl,hs1,hs7,ht,hf⟩:=hP
  have zsh:Sz 3 sh:=show sh.natAbs<2 ^ 3 by omega
  have zg:Sz 46 (y.2.1-x.2.1):=fy.2.1.sub fx.2.1
  have z7:Sz 3 7:=by decide
  walk_at "v"
  refine r_l hl aty ?_
  walk_at "v"
  refine r_l hl atx ?_
  walk_at "v"
  refine r_l hl atx ?_
  walk_at "v"
  refine r_I (mulOk zg zsh) ?_
  walk_at "v"
  refine frac_gen (n:=160) (by decide) ((((fx.2.1.mul z7).mono (show 45+3≤49 by decide)).add ((zg.mul zsh).mono (show 46+3≤49 by decide))).mono (by decide)) (z7.mono (by decide)) (by decide) fun p1 H1 s1 f1=>?_
  have ey1:=s1 _ _ ey'
  walk_at "v"
  refine r_l (s1 _ _ hl) aty ?_
  walk_at "v"
  refine r_l (s1 _ _ ed) (v:=.int b0) (atI_nat (j:=1) rfl) ?_
  walk_at "v"
  refine ⟨z,b0,c,b,rfl,fy.2.2 z hz,hb0,hb7,zc,hb,zb,fun p2 q2 H2 s2 f2 hq2=>?_⟩
  walk_at "v"
  refine r_new (mk:=.tup) (by simp) fun p3 H3 s3 n3 e3=>?_
  refine k (p3,_,q2) H3 (s1.trans (s2.trans s3)) ⟨p1,p2,e3,f1.up (s2.trans s3),f2.up s3⟩ (fun htt=>⟨?_,hq2 (hbt htt)⟩) (fun hff=>?_)
  · show ((x.2.1*7+(y.2.1-x.2.1)*sh:Int):Rat)/((7:Int):Rat)=_
    rw [ht htt]
    exact when_tied
  · show ((x.2.1*7+(y.2.1-x.2.1)*sh:Int):Rat)/((7:Int):Rat)=_
    rw [hf hff]
    exact when_free
theorem sc_law_hung:FnScope ["_law_part","_law_draws","_law_bound","_law_bottom","_law_tied","_law_start","_law_nodes","_law_at","_law_inner","_law_twin","_law_end"] ["_law_part","_law_draws","_law_bound","_law_bottom","_law_tied"] (defScope s_law_hung):=⟨rfl,rfl,rfl,by decide +kernel,rfl,by decide +kernel,by decide +kernel⟩
theorem ok_law_hung (F:Fun K "_law_hung" "_law_hung" s_law_hung f fd) (T:Txt mg) (D_law_lone:Dn P w K mg base 3 "_law_lone" ["_law_part","_law_draw","_law_bound","_law_bottom"] spLone) (D_law_put:Dn P w K mg base 2 "_law_put" ["_law_number","_law_up","_law_bound","_law_bottom"] spPut) (D_law_node:Dn P w K mg base 3 "_law_node" ["_law_part","_law_at","_law_draw","_law_bound","_law_bottom","_law_tied"] spNode):FnOk P w K mg base CX0 4 f fd ["_law_part","_law_draws","_law_bound","_law_bottom","_law_tied"] spHungL:=by
  refine F.ok sc_law_hung (fun vs H Q E h=>?_) (fun cdv A outer s H vs Q E hr h=>?_)
  · obtain ⟨l,ld,es,ds,tied,c,b,rfl,_⟩:=h
    rfl
  obtain ⟨l,ld,es,ds,tied,c,b,rfl,hl,hes,hN,hri,h1,h40,hld,hdl,hds,zc,hb,zb,k⟩:=h
  obtain ⟨x0,z0,g0,hx0,ex0,zm0,zz0⟩:=nget hes hN (show 0<es.length by omega)
  obtain ⟨d0,gd0⟩:∃d,ds[0]?=some d:=⟨_,List.getElem?_eq_getElem (by omega)⟩
  have atd:∀{i:Nat} {d:Addr},ds[i]?=some d→atI (ds.map V.ref) (i:Int)=some (.ref d):=fun {i d} g=>atI_nat (by rw [List.getElem?_map,g];rfl)
  refine J.q ⟨_,(J.f (J.m (J.j op_eq (J.p (lenC K) rfl T.len_ PySem.boot_len (J.b (J.a 0) J.d st_N) (he:=st_N) (hpl:=any0)) J.c (nomark _))
      (J.h (J.l (J.k D_law_lone (hr.mono (by decide)) rfl (J.b (J.a 0) (J.b (J.e (ixL K) (J.a 1) J.c (fun _ _=>rfl)) (J.b (J.a 2) (J.b (J.a 3) J.d st_N) st_N) st_S) st_N) (he:=st_N) (hpl:=(anyc st_S (anyc st_N (anyc st_N any0)))))))
      J.n)
      (J.f (J.i (i:=5) sc_law_hung.nd rfl (Or.inl rfl) (J.o (J.b (J.e (ixT K) (J.e (ixL K) (J.a 0) J.c (fun _ _=>rfl)) J.c (fun _ _=>rfl)) (J.b J.c J.d st_C) st_S)) (hs:=sw_T))
      (J.f (J.i (i:=6) sc_law_hung.nd rfl (Or.inr rfl) (J.s (J.b (J.o (J.b (J.a 5) (J.b (J.k D_law_put (hr.mono (by decide)) rfl (J.b (J.e (ixT K) (J.e (ixL K) (J.a 0) J.c (fun _ _=>rfl)) J.c (fun _ _=>rfl)) (J.b (J.e (ixL K) (J.e (ixL K) (J.a 1) J.c (fun _ _=>rfl)) J.c (fun _ _=>rfl)) (J.b (J.a 2) (J.b (J.a 3) J.d st_N) st_N) st_S) st_S) (he:=st_S) (hpl:=(anyc st_S (anyc st_N (anyc st_N any0))))) J.d st_K) st_N)) J.d st_T)) (hs:=sw_L))
      (J.f (J.ae PassesOwn.never rfl (Jd.pi_range2 rfl T.range (J.b J.c (J.b (J.p (lenC K) rfl T.len_ PySem.boot_len (J.b (J.a 0) J.d st_N) (he:=st_N) (hpl:=any0)) J.d st_K) st_C)) (J.u (i:=7) sc_law_hung.nd rfl (Or.inl rfl))
      (J.f (J.i (i:=8) sc_law_hung.nd rfl (Or.inl rfl) (Jd.pe_or (J.ab op_lt (J.a 7) (J.g op_sub (J.p (lenC K) rfl T.len_ PySem.boot_len (J.b (J.a 0) J.d st_N) (he:=st_N) (hpl:=any0)) J.c) (nomark _)) (J.al (J.am (Jd.pe_not (J.a 4)) (J.al (J.ab op_lt (J.e (ixL K) (J.e (ixL K) (J.a 1) (J.a 7) (fun _ _=>rfl)) J.c (fun _ _=>rfl)) J.c (nomark _)))))))
      (J.h (J.m (J.x (J.ad (J.ak (J.a 8)) (J.ai (J.j op_eq (J.e (ixL K) (J.e (ixL K) (J.a 1) (J.a 7) (fun _ _=>rfl)) J.c (fun _ _=>rfl)) J.c (nomark _)))))
      (J.f (J.y (J.ac K (J.a 6) (J.k D_law_node (hr.mono (by decide)) rfl (J.b (J.a 0) (J.b (J.a 7) (J.b (J.e (ixL K) (J.a 1) (J.a 7) (fun _ _=>rfl)) (J.b (J.a 2) (J.b (J.a 3) (J.b (J.a 4) J.d st_N) st_N) st_N) st_S) st_N) st_N) (he:=st_N) (hpl:=(anyc st_N (anyc st_S (anyc st_N (anyc st_N (anyc st_N any0)))))))) (hs:=sw_K))
      (J.h (J.m (J.x (J.ad (Jd.pt_not (J.ak (J.a 4))) (J.ad (J.j op_lt (J.e (ixL K) (J.e (ixL K) (J.a 1) (J.a 7) (fun _ _=>rfl)) J.c (fun _ _=>rfl)) J.c (nomark _)) (J.ai (J.j op_lt (J.e (ixL K) (J.e (ixL K) (J.a 1) (J.a 7) (fun _ _=>rfl)) J.c (fun _ _=>rfl)) J.c (nomark _))))))
      (J.f (J.i (i:=9) sc_law_hung.nd rfl (Or.inl rfl) (J.s (J.b J.c (J.b (J.e (ixL K) (J.e (ixL K) (J.a 1) (J.a 7) (fun _ _=>rfl)) J.c (fun _ _=>rfl)) (J.b J.c (J.b (J.g op_add (J.e (ixL K) (J.e (ixL K) (J.a 1) (J.a 7) (fun _ _=>rfl)) J.c (fun _ _=>rfl)) J.c) J.d st_B) st_C) st_S) st_C)) (hs:=sw_L))
      (J.h (J.y (J.ac K (J.a 6) (J.k D_law_node (hr.mono (by decide)) rfl (J.b (J.a 0) (J.b (J.a 7) (J.b (J.a 9) (J.b (J.a 2) (J.b (J.a 3) (J.b (J.a 4) J.d st_N) st_N) st_N) st_N) st_N) st_N) (he:=st_N) (hpl:=(anyc st_N (anyc st_N (anyc st_N (anyc st_N (anyc st_N any0)))))))) (hs:=sw_K))))
      J.n)))
      J.n))))
      (J.f (J.i (i:=10) sc_law_hung.nd rfl (Or.inl rfl) (J.o (J.b (J.e (ixT K) (J.e (ixL K) (J.a 0) (J.ag un_neg J.c) (fun _ _=>rfl)) J.c (fun _ _=>rfl)) (J.b J.c J.d st_C) st_S)) (hs:=sw_T))
      (J.f (J.y (J.ac K (J.a 6) (J.o (J.b (J.a 10) (J.b (J.k D_law_put (hr.mono (by decide)) rfl (J.b (J.e (ixT K) (J.e (ixL K) (J.a 0) (J.ag un_neg J.c) (fun _ _=>rfl)) J.c (fun _ _=>rfl)) (J.b (J.e (ixL K) (J.e (ixL K) (J.a 1) (J.ag un_neg J.c) (fun _ _=>rfl)) J.c (fun _ _=>rfl)) (J.b (J.a 2) (J.b (J.a 3) J.d st_N) st_N) st_S) st_S) (he:=st_S) (hpl:=(anyc st_S (anyc st_N (anyc st_N any0))))) J.d st_K) st_N))) (hs:=sw_K))
      (J.h (J.l (J.ao (O:=["_law_k"]) (N':=["_law_nodes"]) (cap:=[6]) rfl (Jd.pi_range1 rfl T.range (J.b (J.g op_sub (J.p (lenC K) rfl T.len_ PySem.boot_len (J.b (J.a 6) J.d st_N) (he:=st_N) (hpl:=any0)) J.c) J.d st_B)) (fun _ _ _ _ _=>(J.u (i:=0) (show List.Nodup [("_law_k":Str),("_law_nodes":Str)] by decide +kernel) rfl (Or.inl rfl))) (fun _ _ _ _ _=>J.an) (fun _ _ _ _ _=>(J.g (catT K) (J.e (ixL K) (J.a 1) (J.a 0) (fun _ _=>rfl)) (J.e (ixL K) (J.a 1) (J.g op_add (J.a 0) J.c) (fun _ _=>rfl)))) rfl ⟨⟨rfl,rfl,rfl,rfl⟩,trivial⟩ rfl (by decide +kernel) rfl (by decide +kernel)))))))))),?_⟩
  walk_at "v"
  refine r_len (.inl (SqL.of hl)) ?_
  rw [nvals_len]
  walk_at "v"
  by_cases hlen:es.length=1
  · rw [decide_eq_true (show (es.length:Int)=1 by omega)]
    refine iteT ?_
    obtain rfl:es=[x0]:=by
      match es,hlen,g0 with
      | [a],_,g0=>cases g0;rfl
    walk_at "v"
    refine r_l hld (atd gd0) ?_
    walk_at "v"
    exact ⟨l,d0,x0,z0,tied,c,b,rfl,hl,hes x0 (by simp),hx0,hds d0 (List.mem_of_getElem? gd0),zc,hb,zb,fun R pcs H1 s1 n1 e1 hP hS hl1=>k R pcs H1 s1 n1 e1 hP hS (by simp;omega)⟩
  · rw [decide_eq_false (show ¬(es.length:Int)=1 by omega)]
    refine iteF ?_
    have h2:2≤es.length:=by omega
    obtain ⟨a0,b0,c0,dd0,ed0,o0⟩:=hds d0 (List.mem_of_getElem? gd0)
    obtain ⟨xl,zl,gl,hxl,exl,zml,zzl⟩:=nget hes hN (show es.length-1<es.length by omega)
    obtain ⟨dl,gdl⟩:∃d,ds[ds.length-1]?=some d:=⟨_,List.getElem?_eq_getElem (by omega)⟩
    obtain ⟨al,bl,cl,dll,edl,ol⟩:=hds dl (List.mem_of_getElem? gdl)
    walk_at "v"
    refine r_l hl (v:=.ref x0.1) (at_nval g0 rfl) ?_
    walk_at "v"
    refine r_new (mk:=.tup) (by simp) fun t1 H1 s1 n1 e1=>?_
    have ex1:=s1 _ _ ex0
    walk_at "v"
    refine r_l (s1 _ _ hl) (v:=.ref x0.1) (at_nval g0 rfl) ?_
    walk_at "v"
    refine r_l (s1 _ _ hld) (atd gd0) ?_
    walk_at "v"
    refine r_l (s1 _ _ ed0) (v:=.int c0) (atI_nat (j:=2) rfl) ?_
    walk_at "v"
    refine ⟨z0,c0,c,b,rfl,zz0,o0.c0,o0.c7,zc,hb,zb,fun t2 q2 H2 s2 f2 hq2=>?_⟩
    walk_at "v"
    refine r_new (mk:=.tup) (by simp) fun t3 H3 s3 n3 e3=>?_
    walk_at "v"
    refine r_new (mk:=.lst) (by simp) fun R H4 s4 n4 e4=>?_
    walk_at "v"
    refine r_for (r_rng2 ?_)
    walk_at "v"
    have s03:=s1.trans (s2.trans s3)
    have s04:=s03.trans s4
    refine r_len (.inl (SqL.of (s04 _ _ hl))) ?_
    rw [nvals_len]
    walk_at "v"
    have gp0:=npts_at (b:=b) g0 hx0
    refine ⟨_,_,rfl,⟨by lia,by lia,by lia,by lia⟩,for_range (fun j σ H5=>∃(nds:List Nd) (v7 v8 v9 v10:Option V),σ=[some (.ref l),some (.ref ld),some (.int c),some (.int b),some (.bl tied),some (.ref t1),some (.ref R),v7,v8,v9,v10]∧Same H3 H5∧H5 R=some (.lst (ndrefs nds))∧AllNd H5 nds 160∧NdS es b tied j nds∧nds.length≤2*j+1) ?_ ?_ ?_⟩
    · refine ⟨[(t3,(x0.2.1:Rat),q2)],none,none,none,none,rfl,s4,e4,fun y hy=>?_,⟨⟨x0,_,g0,rfl,rfl⟩,List.pairwise_singleton _ _,fun x gx nd hnd=>?_,fun x hj=>by omega,fun ht nd hnd=>?_⟩,by simp⟩
      · obtain rfl:=List.mem_singleton.mp hy
        exact ⟨t1,t2,s4 _ _ e3,(fr_mo ((s2.trans (s3.trans s4)) _ _ e1) zm0 (by decide)).mono (by decide),f2.up (s3.trans s4)⟩
      · obtain rfl:=List.mem_singleton.mp hnd
        rw [g0] at gx
        cases gx
        exact Rat.le_refl
      · obtain rfl:=List.mem_singleton.mp hnd
        exact ⟨_,List.mem_of_getElem? gp0,rfl,hq2 (o0.tie ht).2⟩
    · rintro j σ H5 hj ⟨nds,v7,v8,v9,v10,rfl,s5,eR,hNd,hS,hnl⟩
      refine body_cut fun M Bk RR hM _ _=>?_
      have hj':j+1<es.length:=by omega
      have s05:=s03.trans s5
      have hl5:=s05 _ _ hl
      have hld5:=s05 _ _ hld
      obtain ⟨x,zx,gx,hx2,ex,zmx,zzx⟩:=nget hes hN (show j<es.length by omega)
      obtain ⟨y,zy,gy,hy2,ey,zmy,zzy⟩:=nget hes hN hj'
      obtain ⟨dj,gdj⟩:∃d,ds[j+1]?=some d:=⟨_,List.getElem?_eq_getElem (by omega)⟩
      obtain ⟨da,db,dc,dd,ed,o⟩:=(hds dj (List.mem_of_getElem? gdj)).up s05
      have atj:atI (ds.map V.ref) (1+(j:Int))=some (.ref dj):=by rw [show (1:Int)+(j:Int)=((j+1:Nat):Int) by omega];exact atd gdj
      have lxy:(x.2.1:Rat)<(y.2.1:Rat):=Rat.intCast_lt_intCast.mpr (nris hri (Nat.lt_succ_self j) gx gy)
      have hW:=when_in lxy o.d0
      have hS1:=hS.skip hri gx gy
      have gpy:=npts_at (b:=b) gy hy2
      refine r_g ?_
      refine seq_cut (fun σ' H'=>H'=H5∧∃iv:Bool,σ'=[some (.ref l),some (.ref ld),some (.int c),some (.int b),some (.bl tied),some (.ref t1),some (.ref R),some (.int (1+(j:Int))),some (.bl iv),v9,v10]∧(iv=true→j+1<es.length-1∨(tied=false∧dd<6))) (fun σ' H' hP=>?_) (fun N hN'=>?_)
      rotate_left
      · walk_at "v"
        refine r_len (.inl (SqL.of hl5)) ?_
        rw [nvals_len]
        walk_at "v"
        by_cases hlt:(1:Int)+(j:Int)<(es.length:Int)-1
        · rw [decide_eq_true hlt]
          refine iteT ?_
          exact hN' _ _ ⟨rfl,true,rfl,fun _=>.inl (by omega)⟩
        · rw [decide_eq_false hlt]
          refine iteF ?_
          walk_at "v"
          cases tied with
          | true=>
            refine iteF ?_
            exact hN' _ _ ⟨rfl,false,rfl,fun e=>by cases e⟩
          | false=>
            refine iteT ?_
            walk_at "v"
            refine r_l hld5 atj ?_
            walk_at "v"
            refine r_l ed (v:=.int dd) (atI_nat (j:=3) rfl) ?_
            walk_at "v"
            exact hN' _ _ ⟨rfl,_,rfl,fun e=>.inr ⟨rfl,of_decide_eq_true e⟩⟩
      obtain ⟨rfl,iv,rfl,hiv⟩:=hP
      refine if_by (fun r H1=>H1=H'∧(r=true→iv=true)) (fun B hB=>?_) (fun H1 ⟨e,hr1⟩=>?_) (fun H1 ⟨e,_⟩=>?_)
      · walk_at "v"
        cases iv with
        | true=>
          refine iteT ?_
          walk_at "v"
          refine r_l hld5 atj ?_
          walk_at "v"
          refine r_l ed (v:=.int da) (atI_nat (j:=0) rfl) ?_
          walk_at "v"
          exact hB _ H' ⟨rfl,fun _=>rfl⟩
        | false=>
          refine iteF ?_
          exact hB false H' ⟨rfl,fun z=>by cases z⟩
      · subst e
        have hiv':=hiv (hr1 rfl)
        walk_at "v"
        refine ⟨.inl ⟨rfl,_,SqL.of eR⟩,?_⟩
        walk_at "v"
        refine r_l hld5 atj ?_
        walk_at "v"
        refine ⟨l,dj,es,j+1,x,y,zy,tied,c,b,da,db,dc,dd,by rw [show (1:Int)+(j:Int)=((j+1:Nat):Int) by omega];rfl,hl5,hes.up s05,by omega,gx,gy,hy2,ed,o.b0,o.b7,fun ht=>(o.tie ht).1,o.d0,o.d7,zc,hb,zb,fun nd H6 s6 f6 ht6 hf6=>?_⟩
        have eR6:=s6 _ _ eR
        walk_at "v"
        refine r_app eR6 (by rw [ndrefs_len];exact small1000 (by omega)) ?_
        have hlo:∀a∈nds,a.2.1<nd.2.1:=fun a ha=>by
          have:=hS.top x gx a ha
          cases tied with
          | true=>rw [(ht6 rfl).1];grind
          | false=>rw [hf6 rfl];have:=hW.1;grind
        have hS6:NdS es b tied (j+1) (nds++[nd]):=by
          refine hS1.put gy hlo ?_ (fun hj1=>?_) (fun ht=>⟨_,List.mem_of_getElem? gpy,ht6 ht⟩)
          · cases tied with
            | true=>rw [(ht6 rfl).1];exact Rat.le_refl
            | false=>rw [hf6 rfl];exact hW.2.1 o.d7
          · rcases hiv' with z | ⟨z1,z2⟩
            · omega
            · rw [hf6 z1];exact hW.2.2.1 z2
        have hNd7:AllNd (upd H6 R (.lst (ndrefs nds++[.ref nd.1]))) (nds++[nd]) 160:=((hNd.up s6).snoc f6).app eR6
        have eR7:upd H6 R (.lst (ndrefs nds++[.ref nd.1])) R=some (.lst (ndrefs (nds++[nd]))):=by rw [upd_same];unfold ndrefs;rw [List.map_append];rfl
        have s37:Same H3 (upd H6 R (.lst (ndrefs nds++[.ref nd.1]))):=same_at (s5.trans s6) n4
        generalize hH7:upd H6 R (.lst (ndrefs nds++[.ref nd.1]))=H7 at *
        have hl7:=(s03.trans s37) _ _ hl
        have hld7:=(s03.trans s37) _ _ hld
        obtain ⟨da',db',dc',dd',ed',o'⟩:=(hds dj (List.mem_of_getElem? gdj)).up s05
        rw [ed] at ed'
        have ed7:H7 dj=some (.lst [.int da,.int db,.int dc,.int dd]):=by
          obtain ⟨q1,q2,q3,q4,eq,oq⟩:=hds dj (List.mem_of_getElem? gdj)
          have:=s05 _ _ eq
          rw [ed] at this
          have h7:=(s03.trans s37) _ _ eq
          rw [h7,this]
        have nl1:(nds++[nd]).length≤2*j+2:=by rw [List.length_append];simp;omega
        refine nx_of ?_
        refine if_by (fun r H8=>H8=H7∧(r=true→tied=false∧dd<5∧dc<4)) (fun B hB=>?_) (fun H8 ⟨e,hr8⟩=>?_) (fun H8 ⟨e,_⟩=>?_)
        · walk_at "v"
          cases tied with
          | true=>
            refine iteF ?_
            exact hB false H7 ⟨rfl,fun z=>by cases z⟩
          | false=>
            refine iteT ?_
            walk_at "v"
            refine r_l hld7 atj ?_
            walk_at "v"
            refine r_l ed7 (v:=.int dd) (atI_nat (j:=3) rfl) ?_
            walk_at "v"
            refine ite2 (fun c5=>?_) (fun c5=>?_)
            · walk_at "v"
              refine r_l hld7 atj ?_
              walk_at "v"
              refine r_l ed7 (v:=.int dc) (atI_nat (j:=2) rfl) ?_
              walk_at "v"
              exact hB _ H7 ⟨rfl,fun z=>⟨rfl,of_decide_eq_true c5,of_decide_eq_true z⟩⟩
            · exact hB false H7 ⟨rfl,fun z=>by cases z⟩
        · subst e
          obtain ⟨ht8,hd5,hc4⟩:=hr8 rfl
          subst ht8
          walk_at "v"
          refine r_l hld7 atj ?_
          walk_at "v"
          refine r_l ed7 (v:=.int dc) (atI_nat (j:=2) rfl) ?_
          walk_at "v"
          refine r_l hld7 atj ?_
          walk_at "v"
          refine r_l ed7 (v:=.int dd) (atI_nat (j:=3) rfl) ?_
          walk_at "v"
          refine r_new (mk:=.lst) (by simp) fun tw H9 s9 n9 e9=>?_
          have s39:=s37.trans s9
          have s09:=s03.trans s39
          walk_at "v"
          refine ⟨.inl ⟨rfl,_,SqL.of (s9 _ _ eR7)⟩,?_⟩
          walk_at "v"
          refine ⟨l,tw,es,j+1,x,y,zy,false,c,b,0,dc,0,dd+1,by rw [show (1:Int)+(j:Int)=((j+1:Nat):Int) by omega];rfl,s9 _ _ hl7,hes.up s09,by omega,gx,gy,hy2,e9,o.c0,by omega,fun z=>(by cases z),by have:=o.d0;omega,by omega,zc,hb,zb,fun nd2 HA sA fA htA hfA=>?_⟩
          have eRA:=(s9.trans sA) _ _ eR7
          walk_at "v"
          refine r_app eRA (by rw [ndrefs_len];exact small1000 (by omega)) ?_
          have e1:=hf6 rfl
          have e2:=hfA rfl
          have l12:nd.2.1<nd2.2.1:=by rw [e1,e2];exact hW.2.2.2
          have hW2:=when_in lxy (show 0≤dd+1 by have:=o.d0;omega)
          have l2y:nd2.2.1<(y.2.1:Rat):=by rw [e2];exact hW2.2.2.1 (by omega)
          refine hM _ _ ⟨nds++[nd]++[nd2],_,_,_,_,rfl,same_at (s39.trans sA) n4,by rw [upd_same];unfold ndrefs;rw [List.map_append (l₁:=nds++[nd])];rfl,((hNd7.up (s9.trans sA)).snoc fA).app eRA,hS6.put gy (fun a ha=>?_) (by grind) (fun _=>l2y) (fun z=>by cases z),by rw [List.length_append];simp at nl1 ⊢;omega⟩
          rcases List.mem_append.mp ha with q | q
          · have:=hlo a q
            grind
          · obtain rfl:=List.mem_singleton.mp q
            exact l12
        · subst e
          exact hM _ _ ⟨nds++[nd],_,_,_,_,rfl,s37,eR7,hNd7,hS6,by omega⟩
      · subst e
        exact hM _ _ ⟨nds,_,_,_,_,rfl,s5,eR,hNd,hS1,by omega⟩
    · rintro σ H5 ⟨nds,v7,v8,v9,v10,rfl,s5,eR,hNd,hS,hnl⟩
      have hjj:((es.length:Int)-1).toNat=es.length-1:=by omega
      rw [hjj] at hS hnl
      have s05:=s03.trans s5
      have exl5:=s05 _ _ exl
      have atl:atI (nvals es) (-1)=some (.ref xl.1):=by
        unfold atI
        rw [ix_last (m:=es.length-1) (by rw [nvals_len];omega)]
        show (nvals es)[es.length-1]?=_
        unfold nvals
        rw [List.getElem?_map,gl]
        rfl
      have atdl:atI (ds.map V.ref) (-1)=some (.ref dl):=by
        unfold atI
        rw [ix_last (m:=ds.length-1) (by rw [List.length_map];omega)]
        show (ds.map V.ref)[ds.length-1]?=_
        rw [List.getElem?_map,gdl]
        rfl
      walk_at "v"
      refine r_l (s05 _ _ hl) atl ?_
      walk_at "v"
      refine r_new (mk:=.tup) (by simp) fun u1 H6 s6 n6 e6=>?_
      have exl6:=s6 _ _ exl5
      walk_at "v"
      refine ⟨.inl ⟨rfl,_,SqL.of (s6 _ _ eR)⟩,?_⟩
      walk_at "v"
      refine r_l (s6 _ _ (s05 _ _ hl)) atl ?_
      walk_at "v"
      refine r_l (s6 _ _ (s05 _ _ hld)) atdl ?_
      walk_at "v"
      refine r_l (s6 _ _ (s05 _ _ edl)) (v:=.int cl) (atI_nat (j:=2) rfl) ?_
      walk_at "v"
      refine ⟨zl,cl,c,b,rfl,zzl,ol.c0,ol.c7,zc,hb,zb,fun u2 q7 H7 s7 f7 hq7=>?_⟩
      walk_at "v"
      refine r_new (mk:=.tup) (by simp) fun u3 H8 s8 n8 e8=>?_
      walk_at "v"
      have s58:=(s6.trans s7).trans s8
      have eR8:=s58 _ _ eR
      refine r_app eR8 (by rw [ndrefs_len];exact small1000 (by omega)) ?_
      have fE:NdAt H8 (u3,(xl.2.1:Rat),q7) 160:=⟨u1,u2,e8,(fr_mo ((s7.trans s8) _ _ e6) zml (by decide)).mono (by decide),f7.up s8⟩
      have hNd9:AllNd (upd H8 R (.lst (ndrefs nds++[.ref u3]))) (nds++[(u3,(xl.2.1:Rat),q7)]) 160:=((hNd.up s58).snoc fE).app eR8
      have eR9:upd H8 R (.lst (ndrefs nds++[.ref u3])) R=some (.lst (ndrefs (nds++[(u3,(xl.2.1:Rat),q7)]))):=by rw [upd_same];unfold ndrefs;rw [List.map_append];rfl
      have s39:Same H3 (upd H8 R (.lst (ndrefs nds++[.ref u3]))):=same_at (s5.trans s58) n4
      have hE:=hS.end_ xl rfl gl
      have hris:(nds++[(u3,(xl.2.1:Rat),q7)]).Pairwise fun a c=>a.2.1<c.2.1:=List.pairwise_append.mpr ⟨hS.ris,List.pairwise_singleton _ _,fun a ha c hc=>by obtain rfl:=List.mem_singleton.mp hc;exact hE a ha⟩
      have htie:tied=true→∀nd∈nds++[(u3,(xl.2.1:Rat),q7)],∃d∈npts es b,nd.2.1=(d.1:Rat)∧nd.2.2=d.2:=fun ht nd hnd=>by
        rcases List.mem_append.mp hnd with q | q
        · exact hS.tie ht nd q
        · obtain rfl:=List.mem_singleton.mp q
          exact ⟨_,List.mem_of_getElem? (npts_at (b:=b) gl hxl),rfl,hq7 (ol.tie ht).2⟩
      obtain ⟨xf,ndf,gxf,gnf,enf⟩:=hS.first
      have hnp:1≤nds.length:=by have:=(List.getElem?_eq_some_iff.mp gnf).1;omega
      have gf':(nds++[(u3,(xl.2.1:Rat),q7)])[0]?=some ndf:=by rw [List.getElem?_append_left (by omega)];exact gnf
      have gl':(nds++[(u3,(xl.2.1:Rat),q7)])[nds.length]?=some (u3,(xl.2.1:Rat),q7):=by simp
      have hml:(nds++[(u3,(xl.2.1:Rat),q7)]).length=nds.length+1:=by simp
      generalize hms:nds++[(u3,(xl.2.1:Rat),q7)]=ms at *
      generalize hH9:upd H8 R (.lst (ndrefs nds++[.ref u3]))=H9 at *
      walk_at "v"
      refine r_rng1 ?_
      walk_at "v"
      refine r_len (.inl (SqL.of eR9)) ?_
      rw [ndrefs_len,hml]
      walk_at "v"
      refine ⟨_,rfl,by lia,by lia,?_⟩
      rw [show ((nds.length+1:Nat):Int)-1=(nds.length:Int) by omega,Int.toNat_natCast]
      refine compB_of tells_rng (fun _ _=>trivial) (by simp;omega) (fun i ys G=>∃pcs:List Pc,ys=prefs pcs∧AllP G pcs 160∧pcs.length=i∧∀q p,pcs[q]?=some p→p.2=((ndF ms q).1,(ndF ms q).2,(ndF ms (q+1)).1,(ndF ms (q+1)).2)) ⟨[],rfl,fun x hx=>absurd hx (by simp),rfl,fun q p h=>by simp at h⟩ ?_ ?_
      · rintro D i v ys HA σ0 NN N0 hσ hD eD sA hv hy ⟨pcs,rfl,hP,hpl,hpa⟩ kY kN
        have hi:i<nds.length:=by have:=(List.getElem?_eq_some_iff.mp hv).1;simpa using this
        obtain rfl:v=.int (0+(i:Int)):=by
          rw [List.getElem?_map,List.getElem?_range (by simpa using hi)] at hv
          exact (Option.some.inj hv).symm
        obtain ⟨m1,g1⟩:∃m1,ms[i]?=some m1:=⟨_,List.getElem?_eq_getElem (by omega)⟩
        obtain ⟨m2,g2⟩:∃m2,ms[i+1]?=some m2:=⟨_,List.getElem?_eq_getElem (by omega)⟩
        obtain ⟨a1,a2,ea,fa1,fa2⟩:=(hNd9 m1 (List.mem_of_getElem? g1)).up sA
        obtain ⟨c1,c2,ec,fc1,fc2⟩:=(hNd9 m2 (List.mem_of_getElem? g2)).up sA
        have att:∀{q:Nat} {m:Nd},ms[q]?=some m→∀{z:Int},z=(q:Int)→atI (ndrefs ms) z=some (.ref m.1):=fun {q m} g {z} e=>by
          subst e
          exact atI_nat (by unfold ndrefs;rw [List.getElem?_map,g];rfl)
        refine r_own1 hσ ?_
        walk_at "v"
        refine iteT ?_
        walk_at "v"
        refine r_l (sA _ _ eR9) (att g1 (by omega)) ?_
        walk_at "v"
        refine r_l (sA _ _ eR9) (att g2 (by omega)) ?_
        refine r_catT ea ec ?_
        refine r_new (mk:=.tup) (by simp) fun y HB sB nB eB=>?_
        have eDB:=sB _ _ eD
        refine kY _ HB sB ⟨pcs++[(y,m1.2.1,m1.2.2,m2.2.1,m2.2.2)],by unfold prefs;rw [List.map_append];rfl,fun z hz=>?_,by rw [List.length_append,hpl];rfl,fun q p hq=>?_⟩
        · rcases List.mem_append.mp hz with w | w
          · exact (hP z w).up (rm_rm sB)
          · obtain rfl:=List.mem_singleton.mp w
            have fr:∀{p:Addr} {q:Rat},FrAt HA p q 160→FrAt (rm D HB) p q 160:=fun {p q} ⟨t,d,e,g⟩=>⟨t,d,rm_tup eDB (sB _ _ e),g⟩
            exact ⟨a1,a2,c1,c2,rm_tup eDB eB,fr fa1,fr fa2,fr fc1,fr fc2⟩
        · by_cases hqi:q<pcs.length
          · rw [List.getElem?_append_left hqi] at hq
            exact hpa q p hq
          · have:q=i:=by have:=(List.getElem?_eq_some_iff.mp hq).1;rw [List.length_append] at this;simp at this;omega
            subst this
            rw [List.getElem?_append_right (by omega),hpl,Nat.sub_self] at hq
            cases hq
            rw [ndF_at g1,ndF_at g2]
      · rintro D ys HA hD eD sA hy ⟨pcs,rfl,hP,hpl,hpa⟩
        have hpl':pcs.length=nds.length:=by simpa using hpl
        have ndm:∀q,q≤nds.length→∃m,ms[q]?=some m∧ndF ms q=m.2:=fun q hq=>by
          have g:ms[q]?=some (ms[q]'(by omega)):=List.getElem?_eq_getElem (by omega)
          exact ⟨_,g,ndF_at g⟩
        have lt:∀q,q<nds.length→(ndF ms q).1<(ndF ms (q+1)).1:=fun q hq=>by
          obtain ⟨m1,g1,e1⟩:=ndm q (by omega)
          obtain ⟨m2,g2,e2⟩:=ndm (q+1) (by omega)
          rw [e1,e2]
          obtain ⟨h1,rfl⟩:=List.getElem?_eq_some_iff.mp g1
          obtain ⟨h2,rfl⟩:=List.getElem?_eq_some_iff.mp g2
          exact List.pairwise_iff_getElem.mp hris q (q+1) h1 h2 (Nat.lt_succ_self q)
        have mem:∀p∈pcs.map (·.2),∃q,q<nds.length∧p=((ndF ms q).1,(ndF ms q).2,(ndF ms (q+1)).1,(ndF ms (q+1)).2):=fun p hp=>by
          obtain ⟨x,hx,rfl⟩:=List.mem_map.mp hp
          obtain ⟨q,hq,e⟩:=List.mem_iff_getElem.mp hx
          exact ⟨q,by omega,hpa q x (by rw [List.getElem?_eq_getElem hq,e])⟩
        refine k D pcs HA (s03.trans (s39.trans sA)) ((s03.trans s39).free hD) eD (fun z hz=>(hP z hz).up rm_same) ⟨fun p hp=>?_,?_,fun ht p hp=>?_⟩ (by omega)
        · obtain ⟨q,hq,rfl⟩:=mem p hp
          intro e
          have:=lt q hq
          dsimp only at e
          grind
        · rw [if_pos rfl]
          refine .inr ⟨ndF ms,⟨by rw [npts_len];exact h2,by rw [List.length_map];omega,fun q hq=>?_,fun q hq=>lt q (by rw [List.length_map] at hq;omega),⟨_,npts_at (b:=b) g0 hx0,?_⟩,⟨_,by rw [npts_len];exact npts_at (b:=b) gl hxl,?_⟩⟩⟩
          · rw [List.length_map] at hq
            rw [List.getElem?_map,List.getElem?_eq_getElem hq]
            exact congrArg some (hpa q _ (List.getElem?_eq_getElem hq))
          · rw [ndF_at gf',enf]
            rw [g0] at gxf
            cases gxf
            rfl
          · rw [List.length_map,hpl',ndF_at gl']
        · obtain ⟨q,hq,rfl⟩:=mem p hp
          obtain ⟨m1,g1,e1⟩:=ndm q (by omega)
          obtain ⟨m2,g2,e2⟩:=ndm (q+1) (by omega)
          rw [e1,e2]
          exact ⟨htie ht m1 (List.mem_of_getElem? g1),htie ht m2 (List.mem_of_getElem? g2)⟩
end

noncomputable def osz:List Int:=[3]++(List.replicate 12 [3,7,7,7]).flatten
theorem osz_at:∀k,k<12→osz[4*k+1]?=some 3∧osz[4*k+2]?=some 7∧osz[4*k+3]?=some 7∧osz[4*k+4]?=some 7:=by decide +kernel
theorem osz_pos:∀z∈osz,0<z∧z<2 ^ 60:=by decide +kernel
theorem osz_map:[V.int 3]++(List.replicate (12:Int).toNat [V.int 3,.int 7,.int 7,.int 7]).flatten=osz.map V.int:=by rfl
theorem take4 {α:Type} {ys:List α} {n:Nat} {a b c d:α} (h0:ys[n]?=some a) (h1:ys[n+1]?=some b) (h2:ys[n+2]?=some c) (h3:ys[n+3]?=some d):(ys.drop n).take 4=[a,b,c,d]:=by
  refine List.ext_getElem? fun i=>?_
  match i with
  | 0=>rw [List.getElem?_take_of_lt (by decide),List.getElem?_drop];exact h0
  | 1=>rw [List.getElem?_take_of_lt (by decide),List.getElem?_drop];exact h1
  | 2=>rw [List.getElem?_take_of_lt (by decide),List.getElem?_drop];exact h2
  | 3=>rw [List.getElem?_take_of_lt (by decide),List.getElem?_drop];exact h3
  | i+4=>
    rw [List.getElem?_eq_none (by rw [List.length_take];omega)]
    rfl
theorem inW1 (hung tied:Bool):inV (.str (wayS hung tied)) [.str "spans",.str "chain"]=tied:=by cases hung <;> cases tied <;> decide +kernel
theorem inW2 (hung tied:Bool):inV (.str (wayS hung tied)) [.str "apart",.str "spans"]=!hung:=by cases hung <;> cases tied <;> decide +kernel
structure RunAt (H:Hp) (x:Addr×List Nn):Prop where
  at_:H x.1=some (.lst (nvals x.2))
  row:NRow H x.2 45 150
  all:AllN x.2
  ris:nrising x.2
  pos:1≤x.2.length
theorem RunAt.up {H H':Hp} {x:Addr×List Nn} (h:RunAt H x) (s:Same H H'):RunAt H' x:=⟨s _ _ h.at_,h.row.up s,h.all,h.ris,h.pos⟩
noncomputable def spOwn (K:PySem.W.Frag):Sp:=fun vs H Q _=>∃(a:Addr) (ns:List Int) (i:Int) (lp:Addr) (ls:Nls) (hung tied:Bool) (c b:Int),vs=[.ref a,.int i,.ref lp,.str (wayS hung tied),.int c,.int b]∧SqL K H a (ns.map V.int)∧0≤i∧i<800∧H lp=some (.lst (ls.map fun x=>V.ref x.1))∧(∀x∈ls,RunAt H x)∧(ls.map (·.2)).flatten.length≤12∧Sz 150 c∧1≤b∧Sz 80 b ∧
  ∀(R:Addr) (bs:List (List Pc)) (H':Hp),Same H H'→H R=none→H' R=some (.lst (prefs bs.flatten))→AllP H' bs.flatten 160→Each2 (fun r b'=>ShpW hung tied (npts r b) (b'.map (·.2))) (ls.map (·.2)) bs→bs.flatten.length≤24→Q (.ref R) H'
section
variable {P:Program} {w:World} {K:PySem.W.Frag} {mg:Str→Option Value} {base:Heap} {f:Addr} {fd:FuncData}
theorem sc_law_own_telling:FnScope ["_law_script","_law_place","_law_parts","_law_way","_law_bound","_law_bottom","_law_some","_law_pieces","_law_k","_law_part","_law_draws","_law_one","_law_draw"] ["_law_script","_law_place","_law_parts","_law_way","_law_bound","_law_bottom"] (defScope s_law_own_telling):=⟨rfl,rfl,rfl,by decide +kernel,rfl,by decide +kernel,by decide +kernel⟩
theorem ok_law_own_telling (F:Fun K "_law_own_telling" "_law_own_telling" s_law_own_telling f fd) (D_law_row:Dn P w K mg base 3 "_law_row" ["_law_script","_law_place","_law_sizes"] (spRow K)) (D_law_loose:Dn P w K mg base 3 "_law_loose" ["_law_part","_law_draws","_law_bound","_law_bottom"] spLooseL) (D_law_hung:Dn P w K mg base 4 "_law_hung" ["_law_part","_law_draws","_law_bound","_law_bottom","_law_tied"] spHungL):FnOk P w K mg base CX0 5 f fd ["_law_script","_law_place","_law_parts","_law_way","_law_bound","_law_bottom"] (spOwn K):=by
  refine F.ok sc_law_own_telling (fun vs H Q E h=>?_) (fun cdv A outer s H vs Q E hr h=>?_)
  · obtain ⟨a,ns,i,lp,ls,hung,tied,c,b,rfl,_⟩:=h
    rfl
  obtain ⟨a,ns,i0,lp,ls,hung,tied,c,b,rfl,hS,hi0,hi1,hlp,hruns,h12,zc,hb,zb,k⟩:=h
  refine J.q ⟨_,(J.f (J.i (i:=6) sc_law_own_telling.nd rfl (Or.inl rfl) (J.k D_law_row (hr.mono (by decide)) rfl (J.b (J.a 0) (J.b (J.a 1) (J.b (J.g op_cat (J.s (J.b J.c J.d st_C)) (J.g op_rep (J.s (J.b J.c (J.b J.c (J.b J.c (J.b J.c J.d st_C) st_C) st_C) st_C)) J.c)) J.d st_B) st_N) st_N) (he:=st_N) (hpl:=(anyc st_N (anyc st_B any0)))) (hs:=sw_K))
      (J.f (J.i (i:=7) sc_law_own_telling.nd rfl (Or.inl rfl) (J.s J.d) (hs:=sw_L))
      (J.f (J.i (i:=8) sc_law_own_telling.nd rfl (Or.inl rfl) J.c (hs:=sw_C))
      (J.f (J.ae PassesOwn.never rfl (J.aa K (J.a 2)) (J.u (i:=9) sc_law_own_telling.nd rfl (Or.inl rfl))
      (J.f (J.i (i:=10) sc_law_own_telling.nd rfl (Or.inl rfl) (J.s J.d) (hs:=sw_L))
      (J.f (J.ae PassesOwn.never rfl (J.aa K (J.a 9)) (J.u (i:=11) sc_law_own_telling.nd rfl (Or.inl rfl))
      (J.f (J.i (i:=12) sc_law_own_telling.nd rfl (Or.inl rfl) (J.t (slL K) (J.a 6) (J.r (J.g op_add (J.g op_mulB J.c (J.a 8)) J.c)) (J.r (J.g op_add (J.g op_mulB J.c (J.a 8)) J.c))) (hs:=sw_S))
      (J.f (J.m (J.j (inSeq K) (J.a 3) (J.o (J.b J.z (J.b J.z J.d st_C) st_C)) rfl)
      (J.f (Jd.ps_asg J.c (Jd.pg_sub (J.a 12) J.c set_list))
      (J.h (Jd.ps_asg J.c (Jd.pg_sub (J.a 12) J.c set_list))))
      J.n)
      (J.f (J.m (J.j op_eq (J.e (ixL K) (J.a 6) J.c (fun _ _=>rfl)) J.c (nomark _))
      (J.h (Jd.ps_asg J.c (Jd.pg_sub (J.a 12) J.c set_list)))
      J.n)
      (J.f (J.m (J.j op_eq (J.e (ixL K) (J.a 6) J.c (fun _ _=>rfl)) J.c (nomark _))
      (J.h (Jd.ps_asg (J.g op_fdivB (J.e (ixL K) (J.a 12) J.c (fun _ _=>rfl)) J.c) (Jd.pg_sub (J.a 12) J.c set_list)))
      J.n)
      (J.f (J.y (J.ac K (J.a 10) (J.a 12)) (hs:=sw_K))
      (J.h (J.i (i:=8) sc_law_own_telling.nd rfl (Or.inl rfl) (J.g op_add (J.a 8) J.c) (hs:=sw_B)))))))))
      (J.h (J.m (J.j (inSeq K) (J.a 3) (J.o (J.b J.z (J.b J.z J.d st_C) st_C)) rfl)
      (J.h (J.y (Jd.extC K (J.a 7) (J.k D_law_loose (hr.mono (by decide)) rfl (J.b (J.a 9) (J.b (J.a 10) (J.b (J.a 4) (J.b (J.a 5) J.d st_N) st_N) st_N) st_N) (he:=st_N) (hpl:=(anyc st_N (anyc st_N (anyc st_N any0)))))) (hs:=sw_K)))
      (J.h (J.y (Jd.extC K (J.a 7) (J.k D_law_hung (hr.mono (by decide)) rfl (J.b (J.a 9) (J.b (J.a 10) (J.b (J.a 4) (J.b (J.a 5) (J.b (J.ab op_eq (J.a 3) J.z (nomark _)) J.d st_Q) st_N) st_N) st_N) st_N) (he:=st_N) (hpl:=(anyc st_N (anyc st_N (anyc st_N (anyc st_Q any0))))))) (hs:=sw_K))))))))
      (J.h (J.l (J.a 7))))))),?_⟩
  walk_at "v"
  refine r_new (mk:=.lst) (by simp) fun l1 H1 s1 n1 e1=>?_
  walk_at "v"
  refine r_new (mk:=.lst) (by simp) fun l2 H2 s2 n2 e2=>?_
  walk_at "v"
  refine r_rep e2 (by decide) (by decide) ?_
  refine r_new (mk:=.lst) (by decide) fun l3 H3 s3 n3 e3=>?_
  refine r_cat ((s2.trans s3) _ _ e1) e3 ?_
  refine r_new (mk:=.lst) (by decide) fun l4 H4 s4 n4 e4=>?_
  have s04:=s1.trans (s2.trans (s3.trans s4))
  rw [osz_map] at e4
  walk_at "v"
  refine ⟨a,ns,i0,l4,osz,rfl,s04.seq hS,hi0,by omega,e4,by decide,osz_pos,fun lw xs H5 s5 n5 e5 hlen hxs=>?_⟩
  walk_at "v"
  refine r_new (mk:=.lst) (by simp) fun R H6 s6 n6 e6=>?_
  walk_at "v"
  refine r_for (r_iL ?_)
  walk_at "v"
  have s05:=s04.trans s5
  have s06:=s05.trans s6
  obtain ⟨w0,gw0,_,_⟩:=row_get hlen hxs 0 (z:=3) rfl
  have getd:∀kk,kk<12→∃p q r t:Int,((xs.map V.int).drop (4*kk+1)).take 4=[.int p,.int q,.int r,.int t]∧0≤p∧0≤q∧q<7∧0≤r∧r<7∧0≤t∧t<7:=fun kk hk=>by
    obtain ⟨o1,o2,o3,o4⟩:=osz_at kk hk
    obtain ⟨p,gp,p0,p1⟩:=row_get hlen hxs _ o1
    obtain ⟨q,gq,q0,q1⟩:=row_get hlen hxs _ o2
    obtain ⟨r,gr,r0,r1⟩:=row_get hlen hxs _ o3
    obtain ⟨t,gt,t0,t1⟩:=row_get hlen hxs _ o4
    refine ⟨p,q,r,t,take4 ?_ ?_ ?_ ?_,p0,q0,q1,r0,r1,t0,t1⟩
    all_goals rw [List.getElem?_map]
    · rw [gp];rfl
    · rw [show 4*kk+1+1=4*kk+2 by omega,gq];rfl
    · rw [show 4*kk+1+2=4*kk+3 by omega,gr];rfl
    · rw [show 4*kk+1+3=4*kk+4 by omega,gt];rfl
  have hxl:(xs.map V.int).length=49:=by rw [List.length_map,hlen];rfl
  refine ⟨lp,rfl,⟨_,SqL.of (s06 _ _ hlp)⟩,for_list (xs:=ls.map fun x=>V.ref x.1) (fun i σ H7=>∃(bs:List (List Pc)) (kk:Nat) (v9 v10 v11 v12:Option V),σ=[some (.ref a),some (.int i0),some (.ref lp),some (.str (wayS hung tied)),some (.int c),some (.int b),some (.ref lw),some (.ref R),some (.int (kk:Int)),v9,v10,v11,v12]∧Same H5 H7∧H7 R=some (.lst (prefs bs.flatten))∧AllP H7 bs.flatten 160∧Each2 (fun r b'=>ShpW hung tied (npts r b) (b'.map (·.2))) ((ls.take i).map (·.2)) bs∧kk=((ls.take i).map (·.2)).flatten.length∧bs.flatten.length≤2*kk) ?_ ?_ ?_ ?_⟩
  · exact ⟨[],0,none,none,none,none,rfl,s6,e6,fun x hx=>absurd hx (by simp),trivial,rfl,Nat.le_refl _⟩
  · rintro i σ H7 _ ⟨bs,kk,v9,v10,v11,v12,rfl,s7,_⟩
    exact SqL.of (s7 _ _ (s05 _ _ hlp))
  · rintro i v σ H7 hv ⟨bs,kk,v9,v10,v11,v12,rfl,s7,eR,hP,hE,hkk,hbl⟩
    refine body_cut fun M Bk RR hM _ _=>?_
    rw [List.getElem?_map] at hv
    obtain ⟨x,gx,rfl⟩:=Option.map_eq_some_iff.mp hv
    have hxm:=List.mem_of_getElem? gx
    have s07:=s05.trans s7
    have hx:=(hruns x hxm).up s07
    have hk12:kk+x.2.length≤12:=by
      have e:ls=ls.take i++(x::ls.drop (i+1)):=by
        have:=List.take_append_drop i ls
        rw [List.drop_eq_getElem_cons (List.getElem?_eq_some_iff.mp gx).1] at this
        rw [(List.getElem?_eq_some_iff.mp gx).2] at this
        exact this.symm
      have h:=h12
      rw [e,List.map_append,List.flatten_append,List.length_append,List.map_cons,List.flatten_cons,List.length_append] at h
      omega
    walk_at "v"
    refine r_new (mk:=.lst) (by simp) fun Dd H8 s8 n8 e8=>?_
    walk_at "v"
    refine r_for (r_iL ?_)
    walk_at "v"
    have nR:R≠Dd:=fun q=>by rw [← q,eR] at n8;cases n8
    refine ⟨x.1,rfl,⟨_,SqL.of (s8 _ _ hx.at_)⟩,for_list (xs:=nvals x.2) (fun j σ H9=>∃(ds:List Addr) (v11 v12:Option V),σ=[some (.ref a),some (.int i0),some (.ref lp),some (.str (wayS hung tied)),some (.int c),some (.int b),some (.ref lw),some (.ref R),some (.int ((kk+j:Nat):Int)),some (.ref x.1),some (.ref Dd),v11,v12]∧Same H7 H9∧H9 Dd=some (.lst (ds.map V.ref))∧ds.length=j∧(∀d∈ds,DrAt H9 d tied∧d≠Dd)) ?_ ?_ ?_ ?_⟩
    · exact ⟨[],_,_,rfl,s8,e8,rfl,fun d hd=>absurd hd (by simp)⟩
    · rintro j σ H9 _ ⟨ds,v11,v12,rfl,s9,_⟩
      exact SqL.of (s9 _ _ hx.at_)
    · rintro j v σ H9 hv ⟨ds,v11,v12,rfl,s9,eD,hdl,hds⟩
      refine body_cut fun M Bk RR hM _ _=>?_
      obtain ⟨e,he,rfl⟩:=nvals_at hv
      have hj:j<x.2.length:=(List.getElem?_eq_some_iff.mp he).1
      have ew9:=(s7.trans s9) _ _ e5
      obtain ⟨p0,q0,r0,t0,ecut,hp0,hq0,hq7,hr0,hr7,ht0,ht7⟩:=getd (kk+j) (by omega)
      walk_at "vd"
      refine r_slL ew9 fun dw HA sA nA eA=>?_
      rw [show 4*((kk+j:Nat):Int)+1=((4*(kk+j)+1:Nat):Int) by omega,show 4*((kk+j:Nat):Int)+5=((4*(kk+j)+5:Nat):Int) by omega,cut_ab (by omega) (by rw [hxl];omega),show 4*(kk+j)+5-(4*(kk+j)+1)=4 by omega,ecut] at eA
      refine r_g ?_
      refine nx_of ?_
      have nDw:dw≠Dd:=fun q=>by rw [q,eD] at nA;cases nA
      refine seq_cut (fun σ' H'=>∃q1 r1:Int,σ'=[some (.ref a),some (.int i0),some (.ref lp),some (.str (wayS hung tied)),some (.int c),some (.int b),some (.ref lw),some (.ref R),some (.int ((kk+j:Nat):Int)),some (.ref x.1),some (.ref Dd),some (.ref e.1),some (.ref dw)]∧Same H9 H'∧H' dw=some (.lst [.int p0,.int q1,.int r1,.int t0])∧DrOk tied p0 q1 r1 t0) (fun σ' H' hP'=>?_) (fun N hN'=>?_)
      rotate_left
      · walk_at "v"
        refine r_new (mk:=.tup) (by simp) fun tt HB sB nB eB=>?_
        refine ⟨tt,_,rfl,.inr (SqT.of eB),rfl,rfl,?_⟩
        refine ⟨_,rfl,?_⟩
        rw [if_neg Bool.false_ne_true,inW1]
        cases tied with
        | true=>
          refine iteT ?_
          walk_at "v"
          refine r_asg ?_
          walk_at "v"
          have eB':=sB _ _ eA
          refine r_setL (j:=1) eB' rfl ?_
          refine nx_of ?_
          refine r_asg ?_
          walk_at "v"
          refine r_setL (j:=2) (xs:=[.int p0,.int 3,.int r0,.int t0]) upd_same rfl ?_
          refine hN' _ _ ⟨3,3,rfl,same_at (same_at (sA.trans sB) nA) nA,upd_same,⟨hp0,by decide,by decide,by decide,by decide,ht0,ht7,fun _=>⟨rfl,rfl⟩⟩⟩
        | false=>
          refine iteF ?_
          walk_at "v"
          exact hN' _ _ ⟨q0,r0,rfl,sA.trans sB,sB _ _ eA,⟨hp0,hq0,hq7,hr0,hr7,ht0,ht7,fun z=>by cases z⟩⟩
      obtain ⟨q1,r1,rfl,sC,eC,oC⟩:=hP'
      have ndw:H9 dw=none:=nA
      refine seq_cut (fun σ' H'=>∃p1:Int,σ'=[some (.ref a),some (.int i0),some (.ref lp),some (.str (wayS hung tied)),some (.int c),some (.int b),some (.ref lw),some (.ref R),some (.int ((kk+j:Nat):Int)),some (.ref x.1),some (.ref Dd),some (.ref e.1),some (.ref dw)]∧Same H9 H'∧H' dw=some (.lst [.int p1,.int q1,.int r1,.int t0])∧DrOk tied p1 q1 r1 t0) (fun σ' H2 hP2=>?_) (fun N hN'=>?_)
      rotate_left
      · walk_at "v"
        refine r_l (sC _ _ ew9) (v:=.int w0) (at_ints gw0 rfl) ?_
        walk_at "v"
        refine ite2 (fun c0=>?_) (fun c0=>?_)
        · walk_at "v"
          refine r_asg ?_
          walk_at "v"
          refine r_setL (j:=0) eC rfl ?_
          exact hN' _ _ ⟨1,rfl,same_at sC ndw,upd_same,⟨by decide,oC.b0,oC.b7,oC.c0,oC.c7,oC.d0,oC.d7,oC.tie⟩⟩
        · walk_at "v"
          exact hN' _ _ ⟨p0,rfl,sC,eC,oC⟩
      obtain ⟨p1,rfl,sD,eDw,oD⟩:=hP2
      refine seq_cut (fun σ' H'=>∃p2:Int,σ'=[some (.ref a),some (.int i0),some (.ref lp),some (.str (wayS hung tied)),some (.int c),some (.int b),some (.ref lw),some (.ref R),some (.int ((kk+j:Nat):Int)),some (.ref x.1),some (.ref Dd),some (.ref e.1),some (.ref dw)]∧Same H9 H'∧H' dw=some (.lst [.int p2,.int q1,.int r1,.int t0])∧DrOk tied p2 q1 r1 t0) (fun σ' H3 hP3=>?_) (fun N hN'=>?_)
      rotate_left
      · walk_at "v"
        refine r_l (sD _ _ ew9) (v:=.int w0) (at_ints gw0 rfl) ?_
        walk_at "v"
        refine ite2 (fun c0=>?_) (fun c0=>?_)
        · walk_at "v"
          refine r_asg ?_
          walk_at "v"
          refine r_l eDw (v:=.int p1) (atI_nat (j:=0) rfl) ?_
          walk_at "v"
          refine r_I ⟨by decide,by decide⟩ ?_
          walk_at "v"
          refine r_setL (j:=0) eDw rfl ?_
          exact hN' _ _ ⟨_,rfl,same_at sD ndw,upd_same,⟨Int.fdiv_nonneg oD.a0 (by decide),oD.b0,oD.b7,oD.c0,oD.c7,oD.d0,oD.d7,oD.tie⟩⟩
        · walk_at "v"
          exact hN' _ _ ⟨p1,rfl,sD,eDw,oD⟩
      obtain ⟨p2,rfl,sE,eE,oE⟩:=hP3
      have eDE:=sE _ _ eD
      walk_at "v"
      refine ⟨.inl ⟨rfl,_,SqL.of eDE⟩,?_⟩
      walk_at "v"
      refine r_app eDE (by rw [List.length_map];exact small1000 (by omega)) ?_
      walk_at "v"
      refine hM _ _ ⟨ds++[dw],_,_,by rw [show ((kk+j:Nat):Int)+1=((kk+(j+1):Nat):Int) by omega];rfl,same_at (s9.trans sE) n8,by rw [upd_same,List.map_append];rfl,by rw [List.length_append,hdl];rfl,fun d hd=>?_⟩
      rcases List.mem_append.mp hd with q | q
      · obtain ⟨⟨u1,u2,u3,u4,eu,ou⟩,hne⟩:=hds d q
        exact ⟨⟨u1,u2,u3,u4,by rw [upd_ne hne];exact sE _ _ eu,ou⟩,hne⟩
      · obtain rfl:=List.mem_singleton.mp q
        exact ⟨⟨p2,q1,r1,t0,by rw [upd_ne nDw];exact eE,oE⟩,nDw⟩
    · rintro σ H9 ⟨ds,v11,v12,rfl,s9,eD,hdl,hds⟩
      rw [nvals_len] at hdl
      have hx9:=hx.up s9
      have eR9:=s9 _ _ eR
      have tk:ls.take (i+1)=ls.take i++[x]:=by rw [List.take_add_one,gx];rfl
      have fin:∀(R2:Addr) (pcs:List Pc) (HA:Hp) (v11 v12:Option V),Same H9 HA→HA R2=some (.lst (prefs pcs))→AllP HA pcs 160→ShpW hung tied (npts x.2 b) (pcs.map (·.2))→pcs.length≤2*x.2.length→M [some (.ref a),some (.int i0),some (.ref lp),some (.str (wayS hung tied)),some (.int c),some (.int b),some (.ref lw),some (.ref R),some (.int ((kk+x.2.length:Nat):Int)),some (.ref x.1),some (.ref Dd),v11,v12] (upd HA R (.lst (prefs bs.flatten++prefs pcs))):=fun R2 pcs HA v11 v12 sA eA hPA hSA hlA=>by
        have eRA:=sA _ _ eR9
        have hnew:AllP HA (bs++[pcs]).flatten 160:=by
          rw [List.flatten_append]
          simp
          exact (hP.up (s9.trans sA)).append hPA
        refine hM _ _ ⟨bs++[pcs],kk+x.2.length,_,_,_,_,rfl,same_at (s7.trans (s9.trans sA)) n6,?_,hnew.app eRA,?_,?_,?_⟩
        · rw [upd_same]
          simp [prefs]
        · rw [tk,List.map_append]
          exact each2_snoc hE hSA
        · rw [tk,List.map_append,List.flatten_append,List.length_append,← hkk]
          simp
        · rw [List.flatten_append,List.length_append]
          simp
          simp at hbl
          omega
      rw [nvals_len]
      walk_at "v"
      refine r_new (mk:=.tup) (by simp) fun tt HB sB nB eB=>?_
      refine ⟨tt,_,rfl,.inr (SqT.of eB),rfl,rfl,?_⟩
      refine ⟨_,rfl,?_⟩
      rw [if_neg Bool.false_ne_true,inW2]
      have hxB:=hx9.up sB
      have hbl':(prefs bs.flatten).length≤24:=by rw [prefs_len];omega
      cases hung with
      | false=>
        refine iteT ?_
        walk_at "v"
        refine ⟨.inl ⟨rfl,_,SqL.of (sB _ _ eR9)⟩,?_⟩
        walk_at "v"
        refine ⟨x.1,Dd,x.2,ds,tied,c,b,rfl,hxB.at_,hxB.row,hxB.all,hxB.ris,by omega,sB _ _ eD,hdl,fun d hd=>(hds d hd).1.up sB,zc,hb,zb,fun R2 pcs HA sA nA eA hPA hSA hlA=>?_⟩
        walk_at "v"
        refine r_ext ((sB.trans sA) _ _ eR9) eA (by rw [prefs_len pcs];exact Nat.le_trans (show _≤100 by omega) (by decide)) ?_
        exact fin R2 pcs HA _ _ (sB.trans sA) eA hPA hSA (by omega)
      | true=>
        refine iteF ?_
        walk_at "v"
        refine ⟨.inl ⟨rfl,_,SqL.of (sB _ _ eR9)⟩,?_⟩
        walk_at "v"
        refine r_eqS (c:=tied) (by cases tied <;> decide +kernel) ?_
        walk_at "v"
        refine ⟨x.1,Dd,x.2,ds,tied,c,b,rfl,hxB.at_,hxB.row,hxB.all,hxB.ris,hxB.pos,by omega,sB _ _ eD,hdl,fun d hd=>(hds d hd).1.up sB,zc,hb,zb,fun R2 pcs HA sA nA eA hPA hSA hlA=>?_⟩
        walk_at "v"
        refine r_ext ((sB.trans sA) _ _ eR9) eA (by rw [prefs_len pcs];exact Nat.le_trans (show _≤100 by omega) (by decide)) ?_
        exact fin R2 pcs HA _ _ (sB.trans sA) eA hPA hSA hlA
  · rintro σ H7 ⟨bs,kk,v9,v10,v11,v12,rfl,s7,eR,hP,hE,hkk,hbl⟩
    rw [List.length_map,List.take_length] at hE hkk
    walk_at "v"
    exact k R bs H7 (s05.trans s7) (s05.free n6) eR hP hE (by omega)
end

noncomputable def Bnd (rs:List (List Pt)) (x y:Rat):Prop:=∃(k:Nat) (r r':List Pt) (a b:Pt),rs[k]?=some r∧rs[k+1]?=some r'∧r[r.length-1]?=some a∧r'[0]?=some b∧x=(a.1:Rat)∧y=(b.1:Rat)
structure AdjR (hung:Bool) (rs:List (List Pt)) (p q:P4):Prop where
  s:p.1<q.1
  e:p.2.2.1<q.2.2.1
  loose:hung=false→p.2.2.1<q.1∧∀d∈rs.flatten,¬(p.2.2.1<(d.1:Rat)∧(d.1:Rat)<q.1)
  hang:hung=true→(q.1=p.2.2.1∧q.2.1=p.2.2.2)∨Bnd rs p.2.2.1 q.1
structure Flat (hung tied:Bool) (rs:List (List Pt)) (ps:List P4):Prop where
  fst:∀p,ps[0]?=some p→∃x,rs.flatten[0]?=some x∧p.1=(x.1:Rat)
  lst:∀p,ps[ps.length-1]?=some p→∃x,rs.flatten[rs.flatten.length-1]?=some x∧p.2.2.1=(x.1:Rat)
  emp:ps=[]↔rs.flatten=[]
  one:∀p∈ps,p.1=p.2.2.1→p.2.1=p.2.2.2
  run:∀p∈ps,p.1≤p.2.2.1∧∃r∈rs,(∃a∈r,(a.1:Rat)≤p.1)∧∃b∈r,p.2.2.1≤(b.1:Rat)
  int:hung=false→∀p∈ps,(∃a∈rs.flatten,p.1=(a.1:Rat))∧∃b∈rs.flatten,p.2.2.1=(b.1:Rat)
  adj:∀i p q,ps[i]?=some p→ps[i+1]?=some q→AdjR hung rs p q
  tie:tied=true→∀p∈ps,(∃d∈rs.flatten,p.1=(d.1:Rat)∧p.2.1=d.2)∧∃d∈rs.flatten,p.2.2.1=(d.1:Rat)∧p.2.2.2=d.2
theorem LooseP.flat {ds:List Pt} {ps:List P4} (h:LooseP ds ps):prise ds→(∀p,ps[0]?=some p→∃x,ds[0]?=some x∧p.1=(x.1:Rat))∧(∀p,ps[ps.length-1]?=some p→∃x,ds[ds.length-1]?=some x∧p.2.2.1=(x.1:Rat))∧(ps=[]↔ds=[])∧(∀p∈ps,p.1≤p.2.2.1) ∧
    ∀i p q,ps[i]?=some p→ps[i+1]?=some q→p.1<q.1∧p.2.2.1<q.2.2.1∧p.2.2.1<q.1∧∀d∈ds,¬(p.2.2.1<(d.1:Rat)∧(d.1:Rat)<q.1):=by
  induction h with
  | nil=>exact fun _=>⟨fun p h=>by simp at h,fun p h=>by simp at h,⟨fun _=>rfl,fun _=>rfl⟩,fun p h=>by simp at h,fun i p q h=>by simp at h⟩
  | @cons x y sg rest p ps k hk hx hy e1 e2 hl ih=>
    intro hr
    obtain ⟨r1,r2,r3⟩:=List.pairwise_append.mp hr
    obtain ⟨f1,f2,f3,f4,f5⟩:=ih r2
    have ym:=List.mem_of_getElem? hy
    have sgl:∀d∈sg,x.1≤d.1∧d.1≤y.1:=fun d hd=>by
      obtain ⟨i,hi,rfl⟩:=List.mem_iff_getElem.mp hd
      have g:sg[i]?=some sg[i]:=List.getElem?_eq_getElem hi
      exact ⟨prise_le r1 (Nat.zero_le _) hx g,prise_le r1 (by omega) g hy⟩
    have pe:p.1≤p.2.2.1:=by rw [e1,e2];exact Rat.intCast_le_intCast.mpr (sgl y ym).1
    have ge:∀{z:Pt},rest[0]?=some z→∀d∈rest,z.1≤d.1:=fun {z} gz d hd=>by
      obtain ⟨i,hi,rfl⟩:=List.mem_iff_getElem.mp hd
      exact prise_le r2 (Nat.zero_le _) gz (List.getElem?_eq_getElem hi)
    refine ⟨fun q hq=>?_,fun q hq=>?_,?_,fun q hq=>?_,fun i q q' hq hq'=>?_⟩
    · have hq:some p=some q:=hq
      cases hq
      exact ⟨x,by rw [List.getElem?_append_left (by omega)];exact hx,e1⟩
    · cases ps with
      | nil=>
        have hq:some p=some q:=hq
        cases hq
        have hr0:rest=[]:=f3.mp rfl
        subst hr0
        refine ⟨y,?_,e2⟩
        rw [List.append_nil,hk]
        exact hy
      | cons p2 ps2=>
        have hq':(p2::ps2)[(p2::ps2).length-1]?=some q:=by
          simp only [List.length_cons,Nat.add_sub_cancel] at hq ⊢
          cases ps2 with
          | nil=>exact hq
          | cons _ _=>exact hq
        obtain ⟨z,gz,ez⟩:=f2 q hq'
        refine ⟨z,?_,ez⟩
        have hpos:0<rest.length:=by have:=(List.getElem?_eq_some_iff.mp gz).1;omega
        rw [List.length_append,List.getElem?_append_right (by omega)]
        rw [show sg.length+rest.length-1-sg.length=rest.length-1 by omega]
        exact gz
    · constructor
      · intro z;cases z
      · intro z
        have:=congrArg List.length z
        rw [List.length_append,hk] at this
        simp at this
    · rcases List.mem_cons.mp hq with rfl | hq
      · exact pe
      · exact f4 q hq
    · cases i with
      | zero=>
        have hq:some p=some q:=hq
        cases hq
        have hq':ps[0]?=some q':=hq'
        obtain ⟨z,gz,ez⟩:=f1 q' hq'
        have zl:=r3 y ym z (List.mem_of_getElem? gz)
        have zl':(y.1:Rat)<(z.1:Rat):=Rat.intCast_lt_intCast.mpr zl
        have qe:=f4 q' (List.mem_of_getElem? hq')
        refine ⟨by rw [ez];rw [e2] at pe;grind,by rw [e2];rw [ez] at qe;grind,by rw [e2,ez];exact zl',fun d hd hb=>?_⟩
        rw [e2,ez] at hb
        have b1:=Rat.intCast_lt_intCast.mp hb.1
        have b2:=Rat.intCast_lt_intCast.mp hb.2
        rcases List.mem_append.mp hd with w | w
        · have:=(sgl d w).2;omega
        · have:=ge gz d w;omega
      | succ i=>
        have hq:ps[i]?=some q:=hq
        have hq':ps[i+1]?=some q':=hq'
        obtain ⟨a1,a2,a3,a4⟩:=f5 i q q' hq hq'
        refine ⟨a1,a2,a3,fun d hd hb=>?_⟩
        rcases List.mem_append.mp hd with w | w
        · obtain ⟨⟨u,hu,eu⟩,⟨v,hv,ev⟩⟩:=hl.ends q (List.mem_of_getElem? hq)
          have:=r3 d w v hv
          have b1:=hb.1
          rw [ev] at b1
          have:=Rat.intCast_lt_intCast.mp b1
          omega
        · exact a4 d w hb
theorem ShpW.flat {hung tied:Bool} {ds:List Pt} {ps:List P4} (h:ShpW hung tied ds ps) (hr:prise ds) (hne:ds≠[]):Flat hung tied [ds] ps:=by
  have F:=h.fit hr
  have tie:tied=true→∀p∈ps,(∃d∈[ds].flatten,p.1=(d.1:Rat)∧p.2.1=d.2)∧∃d∈[ds].flatten,p.2.2.1=(d.1:Rat)∧p.2.2.2=d.2:=by
    rw [show [ds].flatten=ds by simp]
    exact h.tie
  have l:=h.lie
  rw [show [ds].flatten=ds by simp] at tie
  cases hung with
  | false=>
    rw [if_neg Bool.false_ne_true] at l
    obtain ⟨f1,f2,f3,f4,f5⟩:=l.flat hr
    refine ⟨by simpa using f1,by simpa using f2,by simpa using f3,h.one,fun p hp=>⟨f4 p hp,ds,by simp,?_⟩,fun _=>by simpa using l.ends,fun i p q hp hq=>?_,by simpa using tie⟩
    · obtain ⟨⟨a,ha,ea⟩,⟨b,hb,eb⟩⟩:=l.ends p hp
      exact ⟨⟨a,ha,by rw [ea];exact Rat.le_refl⟩,⟨b,hb,by rw [eb];exact Rat.le_refl⟩⟩
    · obtain ⟨a1,a2,a3,a4⟩:=f5 i p q hp hq
      exact ⟨a1,a2,fun _=>⟨a3,by simpa using a4⟩,fun z=>by cases z⟩
  | true=>
    rw [if_pos rfl] at l
    rcases l with ⟨x,hh,rfl,rfl⟩ | ⟨nd,N⟩
    · refine ⟨fun p hp=>?_,fun p hp=>?_,by simp,h.one,fun p hp=>?_,fun z=>(by cases z),fun i p q hp hq=>(by simp at hq),by simpa using tie⟩
      · have hp:some ((x.1:Rat),hh,(x.1:Rat),hh)=some p:=hp
        cases hp
        exact ⟨x,rfl,rfl⟩
      · have hp:some ((x.1:Rat),hh,(x.1:Rat),hh)=some p:=hp
        cases hp
        exact ⟨x,rfl,rfl⟩
      · obtain rfl:=List.mem_singleton.mp hp
        exact ⟨Rat.le_refl,[x],by simp,⟨x,by simp,Rat.le_refl⟩,⟨x,by simp,Rat.le_refl⟩⟩
    · obtain ⟨x,gx,ex⟩:=N.first
      obtain ⟨y,gy,ey⟩:=N.last
      have at_:∀{i:Nat} {p:P4},ps[i]?=some p→i<ps.length∧p=((nd i).1,(nd i).2,(nd (i+1)).1,(nd (i+1)).2):=fun {i p} g=>by
        have hi:=(List.getElem?_eq_some_iff.mp g).1
        have:=N.at_ i hi
        rw [g] at this
        exact ⟨hi,Option.some.inj this⟩
      have mem:∀p∈ps,∃i,ps[i]?=some p:=fun p hp=>by
        obtain ⟨i,hi,e⟩:=List.mem_iff_getElem.mp hp
        exact ⟨i,by rw [List.getElem?_eq_getElem hi,e]⟩
      refine ⟨fun p hp=>?_,fun p hp=>?_,?_,h.one,fun p hp=>?_,fun z=>(by cases z),fun i p q hp hq=>?_,by simpa using tie⟩
      · obtain ⟨_,rfl⟩:=at_ hp
        exact ⟨x,by simpa using gx,ex⟩
      · obtain ⟨hi,rfl⟩:=at_ hp
        refine ⟨y,by simpa using gy,?_⟩
        show (nd (ps.length-1+1)).1=_
        rw [show ps.length-1+1=ps.length by omega]
        exact ey
      · have h1:=N.pos
        have h2:=N.two
        constructor
        · intro z;rw [z] at h1;simp at h1
        · intro z;rw [show [ds].flatten=ds by simp] at z;rw [z] at h2;simp at h2
      · obtain ⟨i,gi⟩:=mem p hp
        obtain ⟨hi,rfl⟩:=at_ gi
        have a:=N.le (Nat.zero_le i) (by omega)
        have b:=N.le (show i+1≤ps.length by omega) (Nat.le_refl _)
        have c:=N.lt i hi
        exact ⟨by dsimp only;grind,ds,by simp,⟨x,List.mem_of_getElem? gx,by dsimp only;grind⟩,⟨y,List.mem_of_getElem? gy,by dsimp only;grind⟩⟩
      · obtain ⟨hi,rfl⟩:=at_ hp
        obtain ⟨hj,rfl⟩:=at_ hq
        have c:=N.lt i hi
        have d:=N.lt (i+1) hj
        exact ⟨c,d,fun z=>(by cases z),fun _=>.inl ⟨rfl,rfl⟩⟩
theorem Bnd.up {rs:List (List Pt)} {r:List Pt} {x y:Rat} (h:Bnd rs x y):Bnd (r::rs) x y:=by
  obtain ⟨k,r1,r2,a,b,h1,h2,h3⟩:=h
  exact ⟨k+1,r1,r2,a,b,h1,h2,h3⟩
theorem Flat.cons {hung tied:Bool} {r:List Pt} {rs:List (List Pt)} {b ps:List P4} (h1:Flat hung tied [r] b) (h2:Flat hung tied rs ps) (hr:prise (r++rs.flatten)) (hne:r≠[]) (hns:∀q∈rs,q≠[]):Flat hung tied (r::rs) (b++ps):=by
  obtain ⟨r1,r2,r3⟩:=List.pairwise_append.mp hr
  have fr:[r].flatten=r:=by simp
  have fc:(r::rs).flatten=r++rs.flatten:=List.flatten_cons ..
  have bne:b≠[]:=fun z=>hne (by have:=h1.emp.mp z;rwa [fr] at this)
  have bpos:0<b.length:=List.length_pos_iff.mpr bne
  have rpos:0<r.length:=List.length_pos_iff.mpr hne
  have lastR:∀{z:Pt},r[r.length-1]?=some z→∀d∈r,d.1≤z.1:=fun {z} gz d hd=>by
    obtain ⟨i,hi,rfl⟩:=List.mem_iff_getElem.mp hd
    exact prise_le r1 (show i≤r.length-1 by omega) (List.getElem?_eq_getElem hi) gz
  have firstS:∀{z:Pt},rs.flatten[0]?=some z→∀d∈rs.flatten,z.1≤d.1:=fun {z} gz d hd=>by
    obtain ⟨i,hi,rfl⟩:=List.mem_iff_getElem.mp hd
    exact prise_le r2 (Nat.zero_le _) gz (List.getElem?_eq_getElem hi)
  refine ⟨fun p hp=>?_,fun p hp=>?_,?_,fun p hp=>?_,fun p hp=>?_,fun hf p hp=>?_,fun i p q hp hq=>?_,fun ht p hp=>?_⟩
  · rw [List.getElem?_append_left bpos] at hp
    obtain ⟨x,gx,ex⟩:=h1.fst p hp
    rw [fr] at gx
    exact ⟨x,by rw [fc,List.getElem?_append_left rpos];exact gx,ex⟩
  · by_cases hz:ps=[]
    · subst hz
      have hz2:=h2.emp.mp rfl
      rw [List.append_nil] at hp
      obtain ⟨x,gx,ex⟩:=h1.lst p hp
      rw [fr] at gx
      exact ⟨x,by rw [fc,hz2,List.append_nil];exact gx,ex⟩
    · have pp:=List.length_pos_iff.mpr hz
      rw [List.length_append,List.getElem?_append_right (by omega),show b.length+ps.length-1-b.length=ps.length-1 by omega] at hp
      obtain ⟨x,gx,ex⟩:=h2.lst p hp
      refine ⟨x,?_,ex⟩
      have:=(List.getElem?_eq_some_iff.mp gx).1
      rw [fc,List.length_append,List.getElem?_append_right (by omega),show r.length+rs.flatten.length-1-r.length=rs.flatten.length-1 by omega]
      exact gx
  · constructor
    · intro z;exact absurd (List.append_eq_nil_iff.mp z).1 bne
    · intro z;rw [fc] at z;exact absurd (List.append_eq_nil_iff.mp z).1 hne
  · rcases List.mem_append.mp hp with w | w
    · exact h1.one p w
    · exact h2.one p w
  · rcases List.mem_append.mp hp with w | w
    · obtain ⟨a,q,hq,z⟩:=h1.run p w
      obtain rfl:=List.mem_singleton.mp hq
      exact ⟨a,q,List.mem_cons_self,z⟩
    · obtain ⟨a,q,hq,z⟩:=h2.run p w
      exact ⟨a,q,List.mem_cons_of_mem _ hq,z⟩
  · rw [fc]
    rcases List.mem_append.mp hp with w | w
    · obtain ⟨⟨a,ha,ea⟩,⟨c,hc,ec⟩⟩:=h1.int hf p w
      rw [fr] at ha hc
      exact ⟨⟨a,List.mem_append_left _ ha,ea⟩,⟨c,List.mem_append_left _ hc,ec⟩⟩
    · obtain ⟨⟨a,ha,ea⟩,⟨c,hc,ec⟩⟩:=h2.int hf p w
      exact ⟨⟨a,List.mem_append_right _ ha,ea⟩,⟨c,List.mem_append_right _ hc,ec⟩⟩
  · rcases Nat.lt_trichotomy (i+1) b.length with w | w | w
    · rw [List.getElem?_append_left (by omega)] at hp hq
      obtain ⟨a1,a2,a3,a4⟩:=h1.adj i p q hp hq
      refine ⟨a1,a2,fun hf=>⟨(a3 hf).1,fun d hd hb=>?_⟩,fun hf=>?_⟩
      · rw [fc] at hd
        rcases List.mem_append.mp hd with v | v
        · exact (a3 hf).2 d (by rw [fr];exact v) hb
        · obtain ⟨⟨u,hu,eu⟩,_⟩:=h1.int hf q (List.mem_of_getElem? hq)
          rw [fr] at hu
          have:=r3 u hu d v
          have b2:=hb.2
          rw [eu] at b2
          have:=Rat.intCast_lt_intCast.mp b2
          omega
      · rcases a4 hf with z | ⟨k,_,_,_,_,_,z,_⟩
        · exact .inl z
        · simp at z
    · rw [List.getElem?_append_left (by omega)] at hp
      rw [List.getElem?_append_right (by omega),show i+1-b.length=0 by omega] at hq
      obtain ⟨x,gx,ex⟩:=h1.lst p (by rw [show b.length-1=i by omega];exact hp)
      rw [fr] at gx
      obtain ⟨y,gy,ey⟩:=h2.fst q hq
      have xy:=r3 x (List.mem_of_getElem? gx) y (List.mem_of_getElem? gy)
      have xy':(x.1:Rat)<(y.1:Rat):=Rat.intCast_lt_intCast.mpr xy
      have p1:=(h1.run p (List.mem_of_getElem? hp)).1
      have q1:=(h2.run q (List.mem_of_getElem? hq)).1
      refine ⟨by rw [ey];rw [ex] at p1;grind,by rw [ex];rw [ey] at q1;grind,fun _=>⟨by rw [ex,ey];exact xy',fun d hd hb=>?_⟩,fun _=>.inr ?_⟩
      · rw [ex,ey] at hb
        have b1:=Rat.intCast_lt_intCast.mp hb.1
        have b2:=Rat.intCast_lt_intCast.mp hb.2
        rw [fc] at hd
        rcases List.mem_append.mp hd with v | v
        · have:=lastR gx d v;omega
        · have:=firstS gy d v;omega
      · cases rs with
        | nil=>simp at gy
        | cons r' rs'=>
          have hr':=hns r' List.mem_cons_self
          rw [List.flatten_cons,List.getElem?_append_left (List.length_pos_iff.mpr hr')] at gy
          exact ⟨0,r,r',x,y,rfl,rfl,gx,gy,ex,ey⟩
    · rw [List.getElem?_append_right (by omega)] at hp hq
      rw [show i+1-b.length=i-b.length+1 by omega] at hq
      obtain ⟨a1,a2,a3,a4⟩:=h2.adj _ p q hp hq
      refine ⟨a1,a2,fun hf=>⟨(a3 hf).1,fun d hd hb=>?_⟩,fun hf=>?_⟩
      · rw [fc] at hd
        rcases List.mem_append.mp hd with v | v
        · obtain ⟨_,⟨u,hu,eu⟩⟩:=h2.int hf p (List.mem_of_getElem? hp)
          have:=r3 d v u hu
          have b1:=hb.1
          rw [eu] at b1
          have:=Rat.intCast_lt_intCast.mp b1
          omega
        · exact (a3 hf).2 d v hb
      · rcases a4 hf with z | z
        · exact .inl z
        · exact .inr z.up
  · rw [fc]
    rcases List.mem_append.mp hp with w | w
    · obtain ⟨⟨a,ha,ea⟩,⟨c,hc,ec⟩⟩:=h1.tie ht p w
      rw [fr] at ha hc
      exact ⟨⟨a,List.mem_append_left _ ha,ea⟩,⟨c,List.mem_append_left _ hc,ec⟩⟩
    · obtain ⟨⟨a,ha,ea⟩,⟨c,hc,ec⟩⟩:=h2.tie ht p w
      exact ⟨⟨a,List.mem_append_right _ ha,ea⟩,⟨c,List.mem_append_right _ hc,ec⟩⟩
noncomputable def Val (hung tied:Bool) (rs:List (List Pt)) (ps:List P4):Prop:=∃bs:List (List P4),Each2 (ShpW hung tied) rs bs∧ps=bs.flatten
theorem Val.flat {hung tied:Bool}:∀{rs:List (List Pt)} {ps:List P4},Val hung tied rs ps→prise rs.flatten→(∀r∈rs,r≠[])→Flat hung tied rs ps:=by
  intro rs
  induction rs with
  | nil=>
    rintro ps ⟨bs,hb,rfl⟩ _ _
    cases bs with
    | nil=>exact ⟨fun p h=>by simp at h,fun p h=>by simp at h,⟨fun _=>rfl,fun _=>rfl⟩,fun p h=>by simp at h,fun p h=>by simp at h,fun _ p h=>by simp at h,fun i p q h=>by simp at h,fun _ p h=>by simp at h⟩
    | cons _ _=>exact hb.elim
  | cons r rs ih=>
    rintro ps ⟨bs,hb,rfl⟩ hr hne
    cases bs with
    | nil=>exact hb.elim
    | cons b bs=>
      rw [List.flatten_cons] at hr ⊢
      obtain ⟨r1,r2,r3⟩:=List.pairwise_append.mp hr
      exact Flat.cons (hb.1.flat r1 (hne r List.mem_cons_self)) (ih ⟨bs,hb.2,rfl⟩ r2 fun q hq=>hne q (List.mem_cons_of_mem _ hq)) hr (hne r List.mem_cons_self) fun q hq=>hne q (List.mem_cons_of_mem _ hq)

theorem Bnd.split {rs:List (List Pt)} {x y:Rat} (h:Bnd rs x y):∃A r r' B a b,rs=A++r::r'::B∧r[r.length-1]?=some a∧r'[0]?=some b∧x=(a.1:Rat)∧y=(b.1:Rat):=by
  obtain ⟨k,r,r',a,b,h1,h2,h3⟩:=h
  obtain ⟨l1,e1⟩:=List.getElem?_eq_some_iff.mp h1
  obtain ⟨l2,e2⟩:=List.getElem?_eq_some_iff.mp h2
  refine ⟨rs.take k,r,r',rs.drop (k+2),a,b,?_,h3⟩
  have q1:=List.drop_eq_getElem_cons l1
  have q2:=List.drop_eq_getElem_cons l2
  rw [e1] at q1
  rw [e2] at q2
  have:=List.take_append_drop k rs
  rw [q1,q2] at this
  exact this.symm
theorem Bnd.sep {rs:List (List Pt)} {x y:Rat} (hr:prise rs.flatten) (h:Bnd rs x y):x<y∧∀q∈rs,(∀d∈q,(d.1:Rat)≤x)∨∀d∈q,y≤(d.1:Rat):=by
  obtain ⟨A,r,r',B,a,b,rfl,ga,gb,rfl,rfl⟩:=h.split
  rw [List.flatten_append,List.flatten_cons,List.flatten_cons] at hr
  obtain ⟨_,hr2,hA⟩:=List.pairwise_append.mp hr
  obtain ⟨hrr,hr3,hB⟩:=List.pairwise_append.mp hr2
  obtain ⟨hrr',hr4,hC⟩:=List.pairwise_append.mp hr3
  have am:=List.mem_of_getElem? ga
  have bm:=List.mem_of_getElem? gb
  have ab:a.1<b.1:=hB a am b (List.mem_append_left _ bm)
  refine ⟨Rat.intCast_lt_intCast.mpr ab,fun q hq=>?_⟩
  rcases List.mem_append.mp hq with w | w
  · exact .inl fun d hd=>Rat.intCast_le_intCast.mpr (Int.le_of_lt (hA d (List.mem_flatten.mpr ⟨q,w,hd⟩) a (List.mem_append_left _ am)))
  · rcases List.mem_cons.mp w with rfl | w
    · refine .inl fun d hd=>?_
      obtain ⟨i,hi,rfl⟩:=List.mem_iff_getElem.mp hd
      exact Rat.intCast_le_intCast.mpr (prise_le hrr (show i≤q.length-1 by omega) (List.getElem?_eq_getElem hi) ga)
    · refine .inr fun d hd=>?_
      rcases List.mem_cons.mp w with rfl | w
      · obtain ⟨i,hi,rfl⟩:=List.mem_iff_getElem.mp hd
        exact Rat.intCast_le_intCast.mpr (prise_le hrr' (Nat.zero_le i) gb (List.getElem?_eq_getElem hi))
      · exact Rat.intCast_le_intCast.mpr (Int.le_of_lt (hC b bm d (List.mem_flatten.mpr ⟨q,w,hd⟩)))
theorem Bnd.ints {rs:List (List Pt)} {x y:Rat} (h:Bnd rs x y):(∃m:Int,x=(m:Rat))∧∃n:Int,y=(n:Rat):=by
  obtain ⟨_,_,_,a,b,_,_,_,_,h1,h2⟩:=h
  exact ⟨⟨a.1,h1⟩,⟨b.1,h2⟩⟩
theorem Bnd.uniq {rs:List (List Pt)} {x y y':Rat} (hr:prise rs.flatten) (h:Bnd rs x y) (h':Bnd rs x y'):y=y':=by
  have one:∀{y y':Rat},Bnd rs x y→Bnd rs x y'→y≤y':=fun {y y'} h h'=>by
    obtain ⟨s1,s2⟩:=h.sep hr
    obtain ⟨t1,_⟩:=h'.sep hr
    obtain ⟨k,r,r',a,b,_,g2,_,gb,_,eb⟩:=h'
    rcases s2 r' (List.mem_of_getElem? g2) with w | w
    · have:=w b (List.mem_of_getElem? gb)
      grind
    · have:=w b (List.mem_of_getElem? gb)
      grind
  have a:=one h h'
  have b:=one h' h
  grind
theorem third_int {a b:Int} {e:Int} (he:e=1∨e=-1) (h:(a:Rat)=(b:Rat)+(e:Rat)/3):False:=by
  have h3:((3*a:Int):Rat)=((3*b+e:Int):Rat):=by
    simp only [Rat.intCast_mul,Rat.intCast_add,show ((3:Int):Rat)=3 from rfl]
    rw [h]
    grind
  have:=Rat.intCast_inj.mp h3
  rcases he with rfl | rfl <;> omega
theorem third_two {x y:Rat} (hx:∃m:Int,x=(m:Rat)) (hy:∃n:Int,y=(n:Rat)) {e:Int} (he:e=1∨e=-1) (h:x=y+(e:Rat)/3):False:=by
  obtain ⟨m,rfl⟩:=hx
  obtain ⟨n,rfl⟩:=hy
  exact third_int he h
theorem third_ne {x:Rat} {e:Int} (he:e=1∨e=-1):x+(e:Rat)/3≠x:=by
  intro h
  have:(e:Rat)/3=0:=by grind
  rcases he with rfl | rfl
  · have:((1:Int):Rat)/3=0:=this
    rw [show ((1:Int):Rat)=1 from rfl] at this
    grind
  · have:((-1:Int):Rat)/3=0:=this
    rw [show ((-1:Int):Rat)=-1 from rfl] at this
    grind
section
variable {hung tied:Bool} {rs:List (List Pt)} {A B:List P4} {p q x one prev:P4}
theorem Flat.mid (h:Flat hung tied rs (A++p::q::B)):AdjR hung rs p q:=h.adj A.length p q (by simp) (by simp)
theorem Flat.at_ (h:Flat hung tied rs (A++p::B)):p∈A++p::B:=by simp
theorem pt_uniq {ds:List Pt} (h:prise ds) {d d':Pt} (h1:d∈ds) (h2:d'∈ds) (e:(d.1:Rat)=(d'.1:Rat)):d=d':=by
  obtain ⟨i,hi,rfl⟩:=List.mem_iff_getElem.mp h1
  obtain ⟨j,hj,rfl⟩:=List.mem_iff_getElem.mp h2
  have e':=Rat.intCast_inj.mp e
  rcases Nat.lt_trichotomy i j with z | z | z
  · have:=prise_lt h z (List.getElem?_eq_getElem hi) (List.getElem?_eq_getElem hj);omega
  · subst z;rfl
  · have:=prise_lt h z (List.getElem?_eq_getElem hj) (List.getElem?_eq_getElem hi);omega
theorem bad_end {ps:List P4} (F:Flat hung tied rs ps) {m:Rat} {u v:Rat} (hm:∀p,ps[ps.length-1]?=some p→m=p.2.2.1+1) (G:Flat hung tied rs (ps++[(m,u,m,v)])):False:=by
  by_cases hz:ps=[]
  · have:=G.emp.mpr (F.emp.mp hz)
    simp at this
  · have hp:=List.length_pos_iff.mpr hz
    have g:ps[ps.length-1]?=some (ps[ps.length-1]'(by omega)):=List.getElem?_eq_getElem (by omega)
    have e:=hm _ g
    obtain ⟨a,ga,ea⟩:=F.lst _ g
    obtain ⟨b,gb,eb⟩:=G.lst (m,u,m,v) (by simp)
    rw [ga] at gb
    cases gb
    have eb:m=(a.1:Rat):=eb
    grind
theorem bad_del (hr:prise rs.flatten) (F:Flat hung tied rs (A++one::B)) (G:Flat hung tied rs (A++B)):False:=by
  rcases List.eq_nil_or_concat A with rfl | ⟨A',p,rfl⟩
  · cases B with
    | nil=>
      have:=F.emp.mpr (G.emp.mp rfl)
      simp at this
    | cons q B'=>
      obtain ⟨a,ga,ea⟩:=F.fst one rfl
      obtain ⟨b,gb,eb⟩:=G.fst q rfl
      rw [ga] at gb
      cases gb
      have:=(F.mid (A:=[])).s
      grind
  · rw [List.concat_eq_append,List.append_assoc] at F G
    have a:=F.mid
    cases B with
    | nil=>
      obtain ⟨c,gc,ec⟩:=F.lst one (by simp)
      obtain ⟨d,gd,ed⟩:=G.lst p (by simp)
      rw [gc] at gd
      cases gd
      have:=a.e
      grind
    | cons q B'=>
      have b:AdjR hung rs one q:=Flat.mid (A:=A'++[p]) (B:=B') (by rw [List.append_assoc];exact F)
      have c:=G.mid
      cases hh:hung with
      | false=>
        obtain ⟨a1,_⟩:=a.loose hh
        obtain ⟨_,c2⟩:=c.loose hh
        obtain ⟨⟨d,hd,ed⟩,_⟩:=F.int hh one (by simp)
        exact c2 d hd ⟨by rw [← ed];exact a1,by rw [← ed];exact b.s⟩
      | true=>
        have ale:p.2.2.1≤one.1:=by
          rcases a.hang hh with z | z
          · rw [z.1];exact Rat.le_refl
          · exact Rat.le_of_lt (z.sep hr).1
        have bs:=b.s
        rcases c.hang hh with z | z
        · have:=z.1
          grind
        · rcases a.hang hh with y | y
          · obtain ⟨s1,s2⟩:=z.sep hr
            obtain ⟨r1,r,hrr,⟨u,hu,eu⟩,⟨v,hv,ev⟩⟩:=F.run one (by simp)
            have ae:=a.e
            rcases s2 r hrr with w | w
            · have:=w v hv
              grind
            · have:=w u hu
              have:=y.1
              grind
          · have:=y.uniq hr z
            grind
theorem bad_twin (G:Flat hung tied rs (A++p::q::B)) (h:q.1≤p.1):False:=by
  have:=G.mid.s
  grind
theorem bad_turned (G:Flat hung tied rs (A++x::B)) (h:x.2.2.1<x.1):False:=by
  have:=(G.run x (by simp)).1
  grind
theorem bad_one (G:Flat hung tied rs (A++x::B)) (h1:x.1=x.2.2.1) (h2:x.2.1≠x.2.2.2):False:=h2 (G.one x (by simp) h1)
theorem bad_tie1 (hr:prise rs.flatten) (ht:tied=true) (F:Flat hung tied rs (A++one::B)) (G:Flat hung tied rs (A++x::B)) (h1:x.1=one.1) (h2:x.2.1≠one.2.1):False:=by
  obtain ⟨⟨d,hd,e1,e2⟩,_⟩:=F.tie ht one (by simp)
  obtain ⟨⟨d',hd',e1',e2'⟩,_⟩:=G.tie ht x (by simp)
  have:=pt_uniq hr hd hd' (by rw [← e1,← e1',h1])
  subst this
  exact h2 (by rw [e2,e2'])
theorem bad_tie2 (hr:prise rs.flatten) (ht:tied=true) (F:Flat hung tied rs (A++one::B)) (G:Flat hung tied rs (A++x::B)) (h1:x.2.2.1=one.2.2.1) (h2:x.2.2.2≠one.2.2.2):False:=by
  obtain ⟨_,⟨d,hd,e1,e2⟩⟩:=F.tie ht one (by simp)
  obtain ⟨_,⟨d',hd',e1',e2'⟩⟩:=G.tie ht x (by simp)
  have:=pt_uniq hr hd hd' (by rw [← e1,← e1',h1])
  subst this
  exact h2 (by rw [e2,e2'])
theorem bad_ends (F:Flat hung tied rs (A++one::B)) (G:Flat hung tied rs (A++x::B)) {e:Int} (he:e=1∨e=-1) (h:x.2.2.1=one.2.2.1+(e:Rat)/3):False:=by
  cases hh:hung with
  | false=>
    obtain ⟨_,⟨a,_,ea⟩⟩:=F.int hh one (by simp)
    obtain ⟨_,⟨b,_,eb⟩⟩:=G.int hh x (by simp)
    exact third_two ⟨_,eb⟩ ⟨_,ea⟩ he h
  | true=>
    cases B with
    | nil=>
      obtain ⟨c,gc,ec⟩:=F.lst one (by simp)
      obtain ⟨d,gd,ed⟩:=G.lst x (by simp)
      rw [gc] at gd
      cases gd
      exact third_ne he (h.symm.trans (by rw [ed,ec]))
    | cons q B'=>
      rcases F.mid.hang hh with y | y <;> rcases G.mid.hang hh with z | z
      · exact third_ne he (h.symm.trans (by rw [← z.1,← y.1]))
      · obtain ⟨⟨m,em⟩,⟨n,en⟩⟩:=z.ints
        exact third_two ⟨m,em⟩ ⟨n,y.1.symm.trans en⟩ he h
      · obtain ⟨⟨m,em⟩,⟨n,en⟩⟩:=y.ints
        exact third_two ⟨n,z.1.symm.trans en⟩ ⟨m,em⟩ he h
      · exact third_two z.ints.1 y.ints.1 he h
theorem bad_starts (F:Flat hung tied rs (A++one::B)) (G:Flat hung tied rs (A++x::B)) {e:Int} (he:e=1∨e=-1) (h:x.1=one.1+(e:Rat)/3):False:=by
  cases hh:hung with
  | false=>
    obtain ⟨⟨a,_,ea⟩,_⟩:=F.int hh one (by simp)
    obtain ⟨⟨b,_,eb⟩,_⟩:=G.int hh x (by simp)
    exact third_two ⟨_,eb⟩ ⟨_,ea⟩ he h
  | true=>
    rcases List.eq_nil_or_concat A with rfl | ⟨A',p,rfl⟩
    · obtain ⟨c,gc,ec⟩:=F.fst one rfl
      obtain ⟨d,gd,ed⟩:=G.fst x rfl
      rw [gc] at gd
      cases gd
      exact third_ne he (h.symm.trans (by rw [ed,ec]))
    · rw [List.concat_eq_append,List.append_assoc] at F G
      rcases F.mid.hang hh with y | y <;> rcases G.mid.hang hh with z | z
      · exact third_ne he (h.symm.trans (by rw [z.1,y.1]))
      · obtain ⟨⟨m,em⟩,⟨n,en⟩⟩:=z.ints
        exact third_two ⟨n,en⟩ ⟨m,y.1.trans em⟩ he h
      · obtain ⟨⟨m,em⟩,⟨n,en⟩⟩:=y.ints
        exact third_two ⟨m,z.1.trans em⟩ ⟨n,en⟩ he h
      · exact third_two z.ints.2 y.ints.2 he h
theorem bad_joint1 (hr:prise rs.flatten) (hh:hung=true) (F:Flat hung tied rs (A++p::one::B)) (G:Flat hung tied rs (A++p::x::B)) (h0:p.2.2.1=one.1) (h1:x.1=one.1) (h2:x.2.1≠one.2.1):False:=by
  have y:one.2.1=p.2.2.2:=by
    rcases F.mid.hang hh with y | y
    · exact y.2
    · have:=(y.sep hr).1
      grind
  have z:x.2.1=p.2.2.2:=by
    rcases G.mid.hang hh with z | z
    · exact z.2
    · have:=(z.sep hr).1
      grind
  exact h2 (by rw [y,z])
theorem bad_joint2 (hr:prise rs.flatten) (hh:hung=true) (F:Flat hung tied rs (A++one::q::B)) (G:Flat hung tied rs (A++x::q::B)) (h0:one.2.2.1=q.1) (h1:x.2.2.1=one.2.2.1) (h2:x.2.2.2≠one.2.2.2):False:=by
  have y:q.2.1=one.2.2.2:=by
    rcases F.mid.hang hh with y | y
    · exact y.2
    · have:=(y.sep hr).1
      grind
  have z:q.2.1=x.2.2.2:=by
    rcases G.mid.hang hh with z | z
    · exact z.2
    · have:=(z.sep hr).1
      grind
  exact h2 (by rw [← y,← z])
theorem bad_next (hh:hung=false) (G:Flat hung tied rs (A++p::x::B)) (h:x.1=p.2.2.1):False:=by
  have:=(G.mid.loose hh).1
  grind
theorem bad_bridge (hr:prise rs.flatten) {y:Rat} (F:Flat hung tied rs (A++p::q::B)) (G:Flat hung tied rs (A++x::B)) (hb:Bnd rs p.2.2.1 y) (h1:x.1=p.1) (h2:x.2.2.1=q.2.2.1):False:=by
  obtain ⟨s1,s2⟩:=hb.sep hr
  obtain ⟨_,r,hrr,⟨u,hu,eu⟩,⟨v,hv,ev⟩⟩:=G.run x (by simp)
  have pe:=(F.run p (by simp)).1
  have qe:=F.mid.e
  rcases s2 r hrr with w | w
  · have:=w v hv
    grind
  · have:=w u hu
    grind
theorem bad_moved (hr:prise rs.flatten) (ht:tied=true) (F:Flat hung tied rs (A++p::one::B)) {x1 x2:P4} (G:Flat hung tied rs (A++x1::x2::B)) (h:(∃e:Int,(e=1∨e=-1)∧x2.1=one.1+(e:Rat)/3)∨(x2.1=one.1∧x2.2.1≠one.2.1)):False:=by
  obtain ⟨⟨d,hd,e1,e2⟩,_⟩:=F.tie ht one (by simp)
  obtain ⟨⟨d',hd',e1',e2'⟩,_⟩:=G.tie ht x2 (by simp)
  rcases h with ⟨e,he,h⟩ | ⟨h1,h2⟩
  · exact third_two ⟨_,e1'⟩ ⟨_,e1⟩ he h
  · have:=pt_uniq hr hd hd' (by rw [← e1,← e1',h1])
    subst this
    exact h2 (by rw [e2,e2'])
end

structure OutN (H':Hp) (T:Addr) (bl:List Pc) (fs:List Fp):Prop where
  at_:H' T=some (.lst (frefs fs))
  tup:∀x∈fs,H' x.1=some (.tup [.ref x.2.1.1,.ref x.2.2.1])
  map:fs.map (·.2.2)=bl
noncomputable def spLyingN:Sp:=fun vs H Q _=>∃(l lp:Addr) (es:List En) (pcs:List Pc) (n m:Nat),vs=[.ref l,.ref lp]∧H l=some (.lst (vals es))∧Row H es n∧rising es∧es.length≤40∧H lp=some (.lst (prefs pcs))∧AllP H pcs m∧pcs.length≤900∧(∀H',Same H H'→Q .non H') ∧
  ∀(T:Addr) (fs:List Fp) (bl more:List Pc) (H':Hp),Same H H'→H T=none→OutN H' T bl fs→pcs=bl++more→LooseP (pts es) (bl.map (·.2))→Q (.ref T) H'
noncomputable def spOnePN:Sp:=fun vs H Q _=>∃(l lp:Addr) (x:En) (pcs:List Pc) (n m:Nat),vs=[.ref l,.ref lp]∧H l=some (.lst (vals [x]))∧EnAt H x n∧1≤n∧H lp=some (.lst (prefs pcs))∧AllP H pcs m∧(∀H',Same H H'→Q .non H') ∧
  ∀(T:Addr) (fs:List Fp) (pc:Pc) (more:List Pc) (H':Hp),Same H H'→H T=none→OutN H' T [pc] fs→pcs=pc::more→pc.2.1=(x.2.1:Rat)→pc.2.2.2.1=(x.2.1:Rat)→Q (.ref T) H'
noncomputable def spHangN:Sp:=fun vs H Q _=>∃(l lp:Addr) (es:List En) (pcs:List Pc) (n m:Nat),vs=[.ref l,.ref lp]∧H l=some (.lst (vals es))∧Row H es n∧rising es∧1≤es.length∧es.length≤40∧1≤n∧H lp=some (.lst (prefs pcs))∧AllP H pcs m∧pcs.length≤900∧n+m≤50000∧(∀H',Same H H'→Q .non H') ∧
  ∀(T:Addr) (fs:List Fp) (bl more:List Pc) (H':Hp),Same H H'→H T=none→OutN H' T bl fs→pcs=bl++more→((∀p∈bl,p.2.1=p.2.2.2.1→p.2.2.1=p.2.2.2.2)→HungP (pts es) (bl.map (·.2)))→Q (.ref T) H'
noncomputable def spOneHN:Sp:=fun vs H Q _=>∃(pc:Pc) (m:Nat),vs=[.ref pc.1]∧PcAt H pc m∧∀r:Bool,(r=true→pc.2.1=pc.2.2.2.1→pc.2.2.1=pc.2.2.2.2)→Q (.bl r) H
noncomputable def spEndsOnN:Sp:=fun vs H Q _=>∃(l:Addr) (es:List En) (pc:Pc) (n m:Nat),vs=[.ref l,.ref pc.1]∧H l=some (.lst (vals es))∧Row H es n∧AllS es∧es.length≤40∧PcAt H pc m ∧
  ∀(r:Bool) (H':Hp),Same H H'→(r=true→(∃d∈pts es,pc.2.1=(d.1:Rat)∧pc.2.2.1=d.2)∧∃d∈pts es,pc.2.2.2.1=(d.1:Rat)∧pc.2.2.2.2=d.2)→Q (.bl r) H'
theorem fdat_eq {a b:Rat} (h:PyData.eqv (fdat a) (fdat b)=true):a=b:=by
  have h':(a.num==b.num&&((a.den:Int)==(b.den:Int)&&true))=true:=h
  simp at h'
  exact Rat.ext h'.1 (by exact_mod_cast h'.2)
section
variable {P:Program} {w:World} {K:PySem.W.Frag} {mg:Str→Option Value} {base:Heap} {f:Addr} {fd:FuncData}
theorem ok_has_one_heightN (F:Fun K "has_one_height" "has_one_height" s_has_one_height f fd):FnOk P w K mg base CX0 1 f fd ["piece"] spOneHN:=by
  refine F.ok sc_has_one_height (fun vs H Q E h=>?_) (fun cdv A outer s H vs Q E hr h=>?_)
  · obtain ⟨pc,m,rfl,_⟩:=h
    rfl
  obtain ⟨pc,m,rfl,⟨a1,a2,a3,a4,ep,f1,f2,f3,f4⟩,k⟩:=h
  have hu64:=hr.units
  refine J.q ⟨_,(J.h (J.l (Jd.pe_or (J.ab (op_neD hu64) (J.e (ixT K) (J.a 0) J.c (fun _ _=>rfl)) (J.e (ixT K) (J.a 0) J.c (fun _ _=>rfl)) (nomark _)) (J.al (J.ab (op_eqD hu64) (J.e (ixT K) (J.a 0) J.c (fun _ _=>rfl)) (J.e (ixT K) (J.a 0) J.c (fun _ _=>rfl)) (nomark _)))))),?_⟩
  walk_at "v"
  refine fr_neD f1 f3 ?_
  refine ⟨_,rfl,?_⟩
  by_cases e:pc.2.1=pc.2.2.2.1
  · rw [decide_eq_true e]
    refine iteF ?_
    walk_at "v"
    refine fr_eqD f2 f4 ?_
    exact k _ fun z _=>of_decide_eq_true z
  · rw [decide_eq_false e]
    refine iteT ?_
    exact k true fun _ z=>absurd z e
theorem ok_ends_on_samplesN (F:Fun K "ends_on_samples" "ends_on_samples" s_ends_on_samples f fd) (D_moment_of:Dn P w K mg base 1 "moment_of" ["sample"] spMoment):FnOk P w K mg base CX0 2 f fd ["run","piece"] spEndsOnN:=by
  refine F.ok sc_ends_on_samples (fun vs H Q E h=>?_) (fun cdv A outer s H vs Q E hr h=>?_)
  · obtain ⟨l,es,pc,n,m,rfl,_⟩:=h
    rfl
  obtain ⟨l,es,pc,n,m,rfl,hl,hes,hS,h40,⟨a1,a2,a3,a4,ep,f1,f2,f3,f4⟩,k⟩:=h
  have hu64:=hr.units
  refine J.q ⟨_,(J.f (Jd.ps_comp (O:=["sample"]) (N':=[]) (cap:=[]) (i:=2) sc_ends_on_samples.nd rfl (Or.inl rfl) rfl (J.aa K (J.a 0)) (fun _ _ _ _ _=>(J.u (i:=0) (show List.Nodup [("sample":Str)] by decide +kernel) rfl (Or.inl rfl))) (fun _ _ _ _ _=>J.an) (fun _ _ _ _ _=>(J.o (J.b (J.k D_moment_of (hr.mono (by decide)) rfl (J.b (J.a 0) J.d st_N) (he:=st_N) (hpl:=any0)) (J.b (J.e (ixT K) (J.a 0) J.c (fun _ _=>rfl)) J.d st_S) st_K))) rfl trivial rfl (by decide +kernel) rfl (by decide +kernel) (by rfl))
      (J.h (J.l (J.am (J.ab (op_inD hu64) (J.t (slT K) (J.a 1) J.v (J.r J.c)) (J.a 2) rfl) (J.al (J.ab (op_inD hu64) (J.t (slT K) (J.a 1) (J.r J.c) J.v) (J.a 2) rfl)))))),?_⟩
  walk_at "v"
  refine r_iL ?_
  walk_at "v"
  refine ⟨l,rfl,⟨_,SqL.of hl⟩,?_⟩
  refine compB_of (xs:=vals es) tells_list (fun H3 s3=>SqL.of (s3 _ _ hl)) (by rw [vals_len];walk_at "o") (fun i ys G=>Dens G ys ((pts (es.take i)).map sdat)) .nil ?_ ?_
  · rintro D i v ys H3 σ0 N N0 h0 hD eD s3 hv hy hd kY kN
    obtain ⟨e,he,rfl⟩:=vals_at hv
    have hm:=List.mem_of_getElem? he
    have fe:=(hes e hm).up s3
    have hse:=hS e hm
    obtain ⟨a,mm,vv⟩:=e
    cases vv with
    | none=>cases hse
    | some q=>
    obtain ⟨zz,pq,eq,fq⟩:=fe
    refine r_own1 h0 ?_
    walk_at "v"
    refine iteT ?_
    walk_at "v"
    refine ⟨(a,mm,some q),n,rfl,⟨zz,pq,eq,fq⟩,fun p H4 s4 n4 e4=>?_⟩
    have eq4:=s4 _ _ eq
    dsimp only at eq4
    walk_at "v"
    refine r_new (mk:=.tup) (by simp) fun y H5 s5 n5 e5=>?_
    have s35:=s4.trans s5
    refine kY _ H5 s35 ?_
    rw [List.take_add_one,he]
    unfold pts at hd ⊢
    rw [List.map_append,List.map_append]
    refine (hd.up (rm_rm s35)).snoc ?_
    have eD5:=s35 _ _ eD
    obtain ⟨t,b,et,g,_⟩:=fq.up s35
    obtain ⟨rfl,rfl⟩:=g.num_den
    exact .tup (rm_tup eD5 e5) (.cons (mdat_den (rm_tup eD5 (s5 _ _ e4))) (.cons (.tup (rm_tup eD5 et) (.cons (.int _) (.cons (.int _) .nil))) .nil))
  · rintro D ys H3 hD eD s3 hy hd
    rw [vals_len,List.take_length] at hd
    have hd3:=hd.up rm_same
    have ep3:=s3 _ _ ep
    have lay:=sdats_lay (pts es)
    have got:∀(a b:Rat),(((pts es).map sdat).any fun e=>PyData.eqv e (.tuple [fdat a,fdat b]))=true→∃d∈pts es,a=(d.1:Rat)∧b=d.2:=fun a b h=>by
      obtain ⟨e,he,hq⟩:=List.any_eq_true.mp h
      obtain ⟨d,hd,rfl⟩:=List.mem_map.mp he
      unfold sdat at hq
      rw [← fdat_int] at hq
      have hq':(PyData.eqv (fdat (d.1:Rat)) (fdat a)&&(PyData.eqv (fdat d.2) (fdat b)&&true))=true:=hq
      rw [Bool.and_eq_true,Bool.and_eq_true] at hq'
      exact ⟨d,hd,(fdat_eq hq'.1).symm,(fdat_eq hq'.2.1).symm⟩
    walk_at "vd"
    refine r_slT ep3 (show ¬(HT.sIx 4 0 none=0∧HT.sIx 4 4 (some 2)=4) by decide) fun p4 H4 s4 n4 e4=>?_
    have s04:=s3.trans s4
    have q1:=(f1.up s04).fden
    have q2:=(f2.up s04).fden
    walk_at "vd"
    refine ⟨_,_,.tup e4 (.cons q1 (.cons q2 .nil)),.lst (s4 _ _ eD) (hd3.up s4),rfl,fd2_dep _ _,lay,?_⟩
    refine ⟨_,rfl,?_⟩
    refine ite2 (fun c1=>?_) (fun c1=>?_)
    · walk_at "vd"
      refine r_slT (s4 _ _ ep3) (show ¬(HT.sIx 4 0 (some 2)=0∧HT.sIx 4 4 none=4) by decide) fun p5 H5 s5 n5 e5=>?_
      have s05:=s04.trans s5
      have q3:=(f3.up s05).fden
      have q4:=(f4.up s05).fden
      walk_at "vd"
      refine ⟨_,_,.tup e5 (.cons q3 (.cons q4 .nil)),.lst (s5 _ _ (s4 _ _ eD)) (hd3.up (s4.trans s5)),rfl,fd2_dep _ _,lay,?_⟩
      exact k _ H5 s05 fun c2=>⟨got _ _ c1,got _ _ c2⟩
    · exact k false H4 s04 fun z=>by cases z
theorem ok_parts_lying_apartN (F:Fun K "parts_lying_apart" "parts_lying_apart" s_parts_lying_apart f fd) (T:Txt mg) (D_moment_of:Dn P w K mg base 1 "moment_of" ["sample"] spMoment):FnOk P w K mg base CX0 2 f fd ["run","pieces"] spLyingN:=by
  refine F.ok sc_parts_lying_apart (fun vs H Q E h=>?_) (fun cdv A outer s H vs Q E hr h=>?_)
  · obtain ⟨l,lp,es,pcs,n,m,rfl,_⟩:=h
    rfl
  obtain ⟨l,lp,es,pcs,n,m,rfl,hl,hes,hri,h40,hlp,hps,h900,kn,k⟩:=h
  have hu64:=hr.units
  refine J.q ⟨_,(J.f (Jd.ps_comp (O:=["sample"]) (N':=[]) (cap:=[]) (i:=2) sc_parts_lying_apart.nd rfl (Or.inl rfl) rfl (J.aa K (J.a 0)) (fun _ _ _ _ _=>(J.u (i:=0) (show List.Nodup [("sample":Str)] by decide +kernel) rfl (Or.inl rfl))) (fun _ _ _ _ _=>J.an) (fun _ _ _ _ _=>(J.k D_moment_of (hr.mono (by decide)) rfl (J.b (J.a 0) J.d st_N) (he:=st_N) (hpl:=any0))) rfl trivial rfl (by decide +kernel) rfl (by decide +kernel) (by rfl))
      (J.f (J.i (i:=3) sc_parts_lying_apart.nd rfl (Or.inl rfl) (J.s J.d) (hs:=sw_L))
      (J.f (J.i (i:=4) sc_parts_lying_apart.nd rfl (Or.inl rfl) J.c (hs:=sw_C))
      (J.f (Jd.ps_while PassesOwn.never (J.j op_lt (J.a 4) (J.p (lenC K) rfl T.len_ PySem.boot_len (J.b (J.a 0) J.d st_N) (he:=st_N) (hpl:=any0)) (nomark _))
      (J.f (J.m (J.j op_eq (J.p (lenC K) rfl T.len_ PySem.boot_len (J.b (J.a 3) J.d st_N) (he:=st_N) (hpl:=any0)) (J.p (lenC K) rfl T.len_ PySem.boot_len (J.b (J.a 1) J.d st_N) (he:=st_N) (hpl:=any0)) (nomark _))
      (J.h (J.l J.w))
      J.n)
      (J.f (J.i (i:=5) sc_parts_lying_apart.nd rfl (Or.inl rfl) (J.e (ixL K) (J.a 1) (J.p (lenC K) rfl T.len_ PySem.boot_len (J.b (J.a 3) J.d st_N) (he:=st_N) (hpl:=any0)) (fun _ _=>rfl)) (hs:=sw_S))
      (J.f (J.m (J.x (J.af (J.j (op_neD hu64) (J.e (ixT K) (J.a 5) J.c (fun _ _=>rfl)) (J.e (ixL K) (J.a 2) (J.a 4) (fun _ _=>rfl)) (nomark _)) (J.ah (J.j (op_ninD hu64) (J.e (ixT K) (J.a 5) J.c (fun _ _=>rfl)) (J.t (slL K) (J.a 2) (J.r (J.a 4)) J.v) rfl))))
      (J.h (J.l J.w))
      J.n)
      (J.f (J.i (i:=6) sc_parts_lying_apart.nd rfl (Or.inl rfl) (J.g op_add (Jd.idxD K hu64 (J.a 2) (J.e (ixT K) (J.a 5) J.c (fun _ _=>rfl))) J.c) (hs:=sw_B))
      (J.f (J.y (J.ac K (J.a 3) (J.o (J.b (J.t (slL K) (J.a 0) (J.r (J.a 4)) (J.r (J.a 6))) (J.b (J.a 5) J.d st_N) st_S))) (hs:=sw_K))
      (J.h (J.i (i:=4) sc_parts_lying_apart.nd rfl (Or.inl rfl) (J.a 6) (hs:=sw_N)))))))))
      (J.h (J.l (J.a 3))))))),?_⟩
  walk_at "v"
  refine r_iL ?_
  walk_at "v"
  refine ⟨l,rfl,⟨_,SqL.of hl⟩,?_⟩
  refine compB_of (xs:=vals es) tells_list (fun H3 s3=>SqL.of (s3 _ _ hl)) (by rw [vals_len];walk_at "o") (fun i ys G=>Dens G ys (((es.take i).map fun x=>x.2.1).map mdat)) .nil ?_ ?_
  · rintro D i v ys H3 σ0 N N0 h0 hD eD s3 hv hy hd kY kN
    obtain ⟨e,he,rfl⟩:=vals_at hv
    refine r_own1 h0 ?_
    walk_at "v"
    refine iteT ?_
    walk_at "v"
    refine ⟨e,n,rfl,(hes e (List.mem_of_getElem? he)).up s3,fun p H4 s4 n4 e4=>?_⟩
    refine kY _ H4 s4 ?_
    rw [List.take_add_one,he,List.map_append,List.map_append]
    exact (hd.up (rm_rm s4)).snoc (mdat_den (rm_tup (s4 _ _ eD) e4))
  · rintro D ys H3 hD eD s3 hy hd
    rw [vals_len,List.take_length] at hd
    have hd3:=hd.up rm_same
    have hyl:ys.length=es.length:=by have:=hd3.len;simpa using this
    walk_at "v"
    refine r_new (mk:=.lst) (by simp) fun R H4 s4 n4 e4=>?_
    walk_at "v"
    refine while_of (fun σ H5=>∃(fs:List Fp) (i:Nat) (v5 v6:Option V),σ=[some (.ref l),some (.ref lp),some (.ref D),some (.ref R),some (.int (i:Int)),v5,v6]∧Same H3 H5∧H5 R=some (.lst (frefs fs))∧(∀x∈fs,H5 x.1=some (.tup [.ref x.2.1.1,.ref x.2.2.1]))∧fs.map (·.2.2)=pcs.take fs.length∧LooseP ((pts es).take i) ((pcs.take fs.length).map (·.2))∧i≤es.length∧fs.length≤pcs.length) (fun σ _=>es.length-cellN 4 σ) ?_ ?_
    · exact ⟨[],0,none,none,rfl,s4,e4,fun x hx=>absurd hx (by simp),by simp,by simpa using LooseP.nil,Nat.zero_le _,Nat.zero_le _⟩
    rintro σ H5 ⟨fs,i,v5,v6,rfl,s5,eR,hF,hmap,hlo,hi,hfb⟩ RR hy hn
    have s05:=s3.trans s5
    have hl5:=s05 _ _ hl
    have hlp5:=s05 _ _ hlp
    have hD5:=s5 _ _ eD
    have hds:=hd3.up s5
    walk_at "v"
    refine r_len (.inl (SqL.of hl5)) ?_
    rw [vals_len]
    walk_at "v"
    by_cases h0:(i:Int)<(es.length:Int)
    · rw [decide_eq_true h0]
      refine hy _ fun M hM=>?_
      have hi':i<es.length:=by omega
      walk_at "v"
      refine r_len (.inl (SqL.of eR)) ?_
      walk_at "v"
      refine r_len (.inl (SqL.of hlp5)) ?_
      rw [frefs_len,prefs_len]
      walk_at "v"
      refine ite2 (fun c1=>?_) (fun c1=>?_)
      · walk_at "v"
        exact kn H5 s05
      have c1':=of_decide_eq_false (Bool.eq_false_iff.mpr c1)
      have hfl:fs.length<pcs.length:=by omega
      obtain ⟨pc,gp⟩:∃pc,pcs[fs.length]?=some pc:=⟨_,List.getElem?_eq_getElem hfl⟩
      obtain ⟨a1,a2,a3,a4,ep,f1,f2,f3,f4⟩:=(hps pc (List.mem_of_getElem? gp)).up s05
      obtain ⟨ex,gex⟩:∃e,es[i]?=some e:=⟨_,List.getElem?_eq_getElem hi'⟩
      have gm:∀(j:Nat) (e:En),es[j]?=some e→((es.map fun x=>x.2.1).map mdat)[j]?=some (mdat e.2.1):=fun j e h=>by rw [List.getElem?_map,List.getElem?_map,h];rfl
      obtain ⟨vm,gvm,dvm⟩:=hds.get (gm i ex gex)
      walk_at "v"
      refine r_len (.inl (SqL.of eR)) ?_
      rw [frefs_len]
      refine r_l hlp5 (v:=.ref pc.1) (atI_nat (by unfold prefs;rw [List.getElem?_map,gp];rfl)) ?_
      walk_at "v"
      refine r_l hD5 (v:=vm) (atI_nat gvm) ?_
      refine ⟨_,_,f1.fden,dvm,rfl,mdat_shape _,?_⟩
      refine ⟨_,rfl,?_⟩
      cases q1:PyData.eqv (fdat pc.2.1) (mdat ex.2.1) with
      | false=>
        refine iteT ?_
        refine iteT ?_
        walk_at "v"
        exact kn H5 s05
      | true=>
      have e1:pc.2.1=(ex.2.1:Rat):=fdat_eq (by rw [fdat_int];exact q1)
      refine iteF ?_
      walk_at "vd"
      refine r_slL hD5 fun pS H6 s6 n6 e6=>?_
      rw [cutk] at e6
      refine ⟨_,_,(f3.up s6).fden,.lst e6 ((hds.up s6).drop i),rfl,by simp [fdat,PyData.depth,PyData.depthAll],?_,?_⟩
      · rw [← List.map_drop]
        exact mdats_lay _
      refine ⟨_,rfl,?_⟩
      cases q2:((((es.map fun x=>x.2.1).map mdat).drop i).any fun e=>PyData.eqv e (fdat pc.2.2.2.1)) with
      | false=>
        refine iteT ?_
        walk_at "v"
        exact kn H6 (s05.trans s6)
      | true=>
      refine iteF ?_
      obtain ⟨dy,hdy,qy⟩:=List.any_eq_true.mp q2
      obtain ⟨kk,hkk,edy⟩:=List.mem_iff_getElem.mp hdy
      have hkl:i+kk<es.length:=by
        rw [List.length_drop,List.length_map,List.length_map] at hkk
        omega
      obtain ⟨ey,gey⟩:∃e,es[i+kk]?=some e:=⟨_,List.getElem?_eq_getElem hkl⟩
      have edy':dy=mdat ey.2.1:=by
        have g:=gm _ _ gey
        rw [← List.getElem?_drop,List.getElem?_eq_getElem hkk,edy] at g
        exact Option.some.inj g
      have e2:pc.2.2.2.1=(ey.2.1:Rat):=by
        rw [edy',← fdat_int] at qy
        exact (fdat_eq qy).symm
      have d3:Den H6 (.ref a3) (mdat ey.2.1):=by
        have:=(f3.up s6).fden
        rw [e2,fdat_int] at this
        exact this
      walk_at "vd"
      refine ⟨.inl ⟨rfl,_,SqL.of (s6 _ _ hD5)⟩,?_⟩
      have ep6:=s6 _ _ ep
      walk_at "v"
      refine ⟨D,ys,_,mdat ey.2.1,_,i+kk,rfl,rfl,s6 _ _ hD5,hds.up s6,d3,mdats_lay _,rfl,mdat_dep _,by omega,⟨_,gm _ _ gey,by rw [mdat_eqv];exact decide_eq_true rfl⟩,fun j e hj he=>?_,?_⟩
      · rw [List.getElem?_map,List.getElem?_map] at he
        obtain ⟨z,hz,rfl⟩:=Option.map_eq_some_iff.mp he
        obtain ⟨x',gx',rfl⟩:=Option.map_eq_some_iff.mp hz
        rw [mdat_eqv]
        exact decide_eq_false (by have:=rise_lt hri hj gx' gey;omega)
      walk_at "v"
      refine ⟨.inl ⟨rfl,_,SqL.of (s6 _ _ eR)⟩,?_⟩
      walk_at "vd"
      refine r_slL (s6 _ _ hl5) fun pr H7 s7 n7 e7=>?_
      walk_at "v"
      refine r_new (mk:=.tup) (by simp) fun y8 H8 s8 n8 e8=>?_
      walk_at "v"
      have s58:=(s6.trans s7).trans s8
      have eR8:=s58 _ _ eR
      refine r_app eR8 (by rw [frefs_len];exact small1000 (by omega)) ?_
      walk_at "v"
      have tk:pcs.take (fs.length+1)=pcs.take fs.length++[pc]:=by rw [List.take_add_one,gp];rfl
      have gpx:(pts es)[i]?=some (ex.2.1,ex.2.2.getD 0):=by unfold pts;rw [List.getElem?_map,gex];rfl
      have gpy:(pts es)[i+kk]?=some (ey.2.1,ey.2.2.getD 0):=by unfold pts;rw [List.getElem?_map,gey];rfl
      refine hM _ _ ⟨fs++[(y8,(pr,[]),pc)],i+kk+1,_,_,rfl,same_at (s5.trans s58) n4,by rw [upd_same];unfold frefs;rw [List.map_append];rfl,fun x hx=>?_,?_,?_,by omega,by rw [List.length_append];exact hfl⟩ ?_
      · have:H8 x.1=some (.tup [.ref x.2.1.1,.ref x.2.2.1]):=by
          rcases List.mem_append.mp hx with z | z
          · exact s58 _ _ (hF x z)
          · obtain rfl:=List.mem_singleton.mp z
            exact e8
        rw [upd_ne (fun q=>by rw [q,eR8] at this;cases this)]
        exact this
      · rw [List.map_append,hmap,List.length_append,List.length_singleton,tk]
        rfl
      · rw [List.length_append,List.length_singleton,tk,List.map_append,show i+kk+1=i+(kk+1) by omega,List.take_add]
        refine hlo.snoc (k:=kk) ?_ (x:=(ex.2.1,ex.2.2.getD 0)) (y:=(ey.2.1,ey.2.2.getD 0)) ?_ ?_ e1 e2
        · rw [List.length_take,List.length_drop]
          have:(pts es).length=es.length:=by unfold pts;simp
          omega
        · rw [List.getElem?_take_of_lt (by omega),List.getElem?_drop,Nat.add_zero]
          exact gpx
        · rw [List.getElem?_take_of_lt (by omega),List.getElem?_drop]
          exact gpy
      · show es.length-(((i+kk:Nat):Int)+1).toNat<es.length-((i:Nat):Int).toNat
        omega
    · rw [decide_eq_false h0]
      refine hn _ ?_
      obtain rfl:i=es.length:=by omega
      walk_at "v"
      rw [show es.length=(pts es).length by unfold pts;simp,List.take_length] at hlo
      exact k R fs (pcs.take fs.length) (pcs.drop fs.length) H5 s05 (s3.free n4) ⟨eR,hF,hmap⟩ (List.take_append_drop _ _).symm hlo
theorem ok_part_of_oneN (F:Fun K "part_of_one" "part_of_one" s_part_of_one f fd) (T:Txt mg) (D_moment_of:Dn P w K mg base 1 "moment_of" ["sample"] spMoment):FnOk P w K mg base CX0 2 f fd ["run","pieces"] spOnePN:=by
  refine F.ok sc_part_of_one (fun vs H Q E h=>?_) (fun cdv A outer s H vs Q E hr h=>?_)
  · obtain ⟨l,lp,x,pcs,n,m,rfl,_⟩:=h
    rfl
  obtain ⟨l,lp,x,pcs,n,m,rfl,hl,hx,hn,hlp,hps,kn,k⟩:=h
  have hu64:=hr.units
  refine J.q ⟨_,(J.f (J.i (i:=2) sc_part_of_one.nd rfl (Or.inl rfl) (J.k D_moment_of (hr.mono (by decide)) rfl (J.b (J.e (ixL K) (J.a 0) J.c (fun _ _=>rfl)) J.d st_S) (he:=st_S) (hpl:=any0)) (hs:=sw_K))
      (J.f (J.m (J.x (J.af (J.j op_eq (J.p (lenC K) rfl T.len_ PySem.boot_len (J.b (J.a 1) J.d st_N) (he:=st_N) (hpl:=any0)) J.c (nomark _)) (J.af (J.j (op_neD hu64) (J.e (ixT K) (J.e (ixL K) (J.a 1) J.c (fun _ _=>rfl)) J.c (fun _ _=>rfl)) (J.a 2) (nomark _)) (J.ah (J.j (op_neD hu64) (J.e (ixT K) (J.e (ixL K) (J.a 1) J.c (fun _ _=>rfl)) J.c (fun _ _=>rfl)) (J.a 2) (nomark _))))))
      (J.h (J.l J.w))
      J.n)
      (J.h (J.l (J.s (J.b (J.o (J.b (J.a 0) (J.b (J.e (ixL K) (J.a 1) J.c (fun _ _=>rfl)) J.d st_S) st_N)) J.d st_T)))))),?_⟩
  walk_at "v"
  refine r_l hl (v:=.ref x.1) (atI_nat (j:=0) rfl) ?_
  refine ⟨x,n,rfl,hx,fun p H1 s1 n1 e1=>?_⟩
  have fw:=fr_mo e1 hx.1 hn
  have hlp1:=s1 _ _ hlp
  walk_at "v"
  refine r_len (.inl (SqL.of hlp1)) ?_
  rw [prefs_len]
  walk_at "v"
  cases pcs with
  | nil=>
    refine iteT ?_
    refine iteT ?_
    walk_at "v"
    exact kn H1 s1
  | cons pc more=>
    rw [decide_eq_false (show ¬(((pc::more).length:Int)=0) by rw [List.length_cons];omega)]
    obtain ⟨a1,a2,a3,a4,ep,f1,f2,f3,f4⟩:=hps pc List.mem_cons_self
    have ep1:=s1 _ _ ep
    have at0:atI (prefs (pc::more)) 0=some (.ref pc.1):=atI_nat (j:=0) rfl
    refine iteF ?_
    walk_at "v"
    refine r_l hlp1 at0 ?_
    walk_at "v"
    refine fr_neD (f1.up s1) fw ?_
    refine ⟨_,rfl,?_⟩
    by_cases q1:pc.2.1=(x.2.1:Rat)
    · rw [decide_eq_true q1]
      refine iteF ?_
      walk_at "v"
      refine r_l hlp1 at0 ?_
      walk_at "v"
      refine fr_neD (f3.up s1) fw ?_
      refine ⟨_,rfl,?_⟩
      by_cases q2:pc.2.2.2.1=(x.2.1:Rat)
      · rw [decide_eq_true q2]
        refine iteF ?_
        walk_at "v"
        refine r_l hlp1 at0 ?_
        walk_at "v"
        refine r_new (mk:=.tup) (by simp) fun y2 H2 s2 n2 e2=>?_
        walk_at "v"
        refine r_new (mk:=.lst) (by simp) fun R H3 s3 n3 e3=>?_
        refine k R [(y2,(l,[x]),pc)] pc more H3 (s1.trans (s2.trans s3)) (s1.free (s2.free n3)) ⟨e3,fun z hz=>?_,rfl⟩ rfl q1 q2
        obtain rfl:=List.mem_singleton.mp hz
        exact s3 _ _ e2
      · rw [decide_eq_false q2]
        refine iteT ?_
        walk_at "v"
        exact kn H1 s1
    · rw [decide_eq_false q1]
      refine iteT ?_
      refine iteT ?_
      walk_at "v"
      exact kn H1 s1
theorem ok_parts_hanging_togetherN (F:Fun K "parts_hanging_together" "parts_hanging_together" s_parts_hanging_together f fd) (T:Txt mg) (D_part_of_oneN:Dn P w K mg base 2 "part_of_one" ["run","pieces"] spOnePN) (D_moment_of:Dn P w K mg base 1 "moment_of" ["sample"] spMoment) (D_order:Dn P w K mg base 1 "order" ["one","other"] spOrderQ) (D_held_by:Dn P w K mg base 2 "held_by" ["run","piece"] spHeld):FnOk P w K mg base CX0 3 f fd ["run","pieces"] spHangN:=by
  refine F.ok sc_parts_hanging_together (fun vs H Q E h=>?_) (fun cdv A outer s H vs Q E hr h=>?_)
  · obtain ⟨l,lp,es,pcs,n,m,rfl,_⟩:=h
    rfl
  obtain ⟨l,lp,es,pcs,n,m,rfl,hl,hes,hri,h1,h40,hn,hlp,hps,h900,hnm,kn,k⟩:=h
  have hu64:=hr.units
  refine J.q ⟨_,(J.f (J.m (J.j op_eq (J.p (lenC K) rfl T.len_ PySem.boot_len (J.b (J.a 0) J.d st_N) (he:=st_N) (hpl:=any0)) J.c (nomark _))
      (J.h (J.l (J.k D_part_of_oneN (hr.mono (by decide)) rfl (J.b (J.a 0) (J.b (J.a 1) J.d st_N) st_N) (he:=st_N) (hpl:=(anyc st_N any0)))))
      J.n)
      (J.f (J.i (i:=2) sc_parts_hanging_together.nd rfl (Or.inl rfl) (J.k D_moment_of (hr.mono (by decide)) rfl (J.b (J.e (ixL K) (J.a 0) (J.ag un_neg J.c) (fun _ _=>rfl)) J.d st_S) (he:=st_S) (hpl:=any0)) (hs:=sw_K))
      (J.f (J.i (i:=3) sc_parts_hanging_together.nd rfl (Or.inl rfl) (J.s J.d) (hs:=sw_L))
      (J.f (J.ae PassesOwn.never rfl (J.aa K (J.a 1)) (J.u (i:=4) sc_parts_hanging_together.nd rfl (Or.inl rfl))
      (J.f (J.m (J.x (J.ad (J.j op_eq (J.p (lenC K) rfl T.len_ PySem.boot_len (J.b (J.a 3) J.d st_N) (he:=st_N) (hpl:=any0)) J.c (nomark _)) (J.ai (J.j (op_neD hu64) (J.e (ixT K) (J.a 4) J.c (fun _ _=>rfl)) (J.k D_moment_of (hr.mono (by decide)) rfl (J.b (J.e (ixL K) (J.a 0) J.c (fun _ _=>rfl)) J.d st_S) (he:=st_S) (hpl:=any0)) (nomark _)))))
      (J.h (J.l J.w))
      J.n)
      (J.f (J.m (J.x (J.ad (J.j op_gt (J.p (lenC K) rfl T.len_ PySem.boot_len (J.b (J.a 3) J.d st_N) (he:=st_N) (hpl:=any0)) J.c (nomark _)) (J.ai (J.j (op_neD hu64) (J.t (slT K) (J.a 4) J.v (J.r J.c)) (J.t (slT K) (J.e (ixT K) (J.e (ixL K) (J.a 3) (J.ag un_neg J.c) (fun _ _=>rfl)) J.c (fun _ _=>rfl)) (J.r J.c) J.v) (nomark _)))))
      (J.h (J.l J.w))
      J.n)
      (J.f (J.m (J.x (J.af (J.j op_ge (J.k D_order (hr.mono (by decide)) rfl (J.b (J.e (ixT K) (J.a 4) J.c (fun _ _=>rfl)) (J.b (J.e (ixT K) (J.a 4) J.c (fun _ _=>rfl)) J.d st_S) st_S) (he:=st_S) (hpl:=(anyc st_S any0))) J.c (nomark _)) (J.ah (J.j op_gt (J.k D_order (hr.mono (by decide)) rfl (J.b (J.e (ixT K) (J.a 4) J.c (fun _ _=>rfl)) (J.b (J.a 2) J.d st_N) st_S) (he:=st_S) (hpl:=(anyc st_N any0))) J.c (nomark _)))))
      (J.h (J.l J.w))
      J.n)
      (J.f (J.y (J.ac K (J.a 3) (J.o (J.b (J.k D_held_by (hr.mono (by decide)) rfl (J.b (J.a 0) (J.b (J.a 4) J.d st_N) st_N) (he:=st_N) (hpl:=(anyc st_N any0))) (J.b (J.a 4) J.d st_N) st_K))) (hs:=sw_K))
      (J.h (J.m (J.j (op_eqD hu64) (J.e (ixT K) (J.a 4) J.c (fun _ _=>rfl)) (J.a 2) (nomark _))
      (J.h (J.l (J.a 3)))
      J.n)))))))
      (J.h (J.l J.w)))))),?_⟩
  walk_at "v"
  refine r_len (.inl (SqL.of hl)) ?_
  rw [vals_len]
  walk_at "v"
  by_cases hone:es.length=1
  · rw [decide_eq_true (show (es.length:Int)=1 by omega)]
    refine iteT ?_
    obtain ⟨xe,rfl⟩:∃xe,es=[xe]:=by
      match es,hone with
      | [a],_=>exact ⟨a,rfl⟩
    walk_at "v"
    refine ⟨l,lp,xe,pcs,n,m,rfl,hl,hes xe (by simp),hn,hlp,hps,kn,fun TT fs pc more H1 s1 n1 ho hpc q1 q2=>k TT fs [pc] more H1 s1 n1 ho hpc fun hoh=>.inl ⟨(xe.2.1,xe.2.2.getD 0),pc.2.2.1,rfl,?_⟩⟩
    have q3:=hoh pc (by simp) (by rw [q1,q2])
    show [pc.2]=_
    rw [show pc.2=(pc.2.1,pc.2.2.1,pc.2.2.2.1,pc.2.2.2.2) from rfl,q1,q2,← q3]
  · rw [decide_eq_false (show ¬((es.length:Int)=1) by omega)]
    refine iteF ?_
    obtain ⟨ef',gf⟩:∃e,es[0]?=some e:=⟨_,List.getElem?_eq_getElem (by omega)⟩
    obtain ⟨el',gl⟩:∃e,es[es.length-1]?=some e:=⟨_,List.getElem?_eq_getElem (by omega)⟩
    have fl:=hes el' (List.mem_of_getElem? gl)
    have ff:=hes ef' (List.mem_of_getElem? gf)
    walk_at "v"
    refine r_l hl (v:=.ref el'.1) (by
      unfold atI
      rw [ix_last (m:=es.length-1) (by rw [vals_len];omega)]
      exact vals_get gl) ?_
    refine ⟨el',n,rfl,fl,fun pe H1 s1 n1 e1=>?_⟩
    have fe:=fr_mo e1 fl.1 hn
    walk_at "v"
    refine r_new (mk:=.lst) (by simp) fun R H2 s2 n2 e2=>?_
    walk_at "v"
    refine r_for (r_iL ?_)
    walk_at "v"
    have s02:=s1.trans s2
    refine ⟨lp,rfl,⟨_,SqL.of (s02 _ _ hlp)⟩,for_list (xs:=prefs pcs) (fun i σ H3=>∃(fs:List Fp) (v4:Option V),σ=[some (.ref l),some (.ref lp),some (.ref pe),some (.ref R),v4]∧Same H1 H3∧H3 R=some (.lst (frefs fs))∧(∀x∈fs,H3 x.1=some (.tup [.ref x.2.1.1,.ref x.2.2.1]))∧fs.map (·.2.2)=pcs.take i∧fs.length=i ∧
      (∀p,i≠0→pcs[0]?=some p→p.2.1=(ef'.2.1:Rat))∧(∀j p,j<i→pcs[j]?=some p→p.2.1<p.2.2.2.1)∧(∀j p q,j+1<i→pcs[j]?=some p→pcs[j+1]?=some q→q.2.1=p.2.2.2.1∧q.2.2.1=p.2.2.2.2)) ?_ ?_ ?_ ?_⟩
    · exact ⟨[],none,rfl,s2,e2,fun x hx=>absurd hx (by simp),by simp,rfl,fun p z=>absurd rfl z,fun j p hj=>absurd hj (Nat.not_lt_zero _),fun j p q hj=>absurd hj (Nat.not_lt_zero _)⟩
    · rintro i σ H3 _ ⟨fs,v4,rfl,s3,_⟩
      exact SqL.of (s3 _ _ (s1 _ _ hlp))
    · rintro i v σ H3 hv ⟨fs,v4,rfl,s3,eR,hF,hmap,hfl,hfst,hlt,hjn⟩
      refine body_cut fun M Bk RR hM _ hR=>?_
      have s03:=s1.trans s3
      have hl3:=s03 _ _ hl
      obtain ⟨pc,gp,rfl⟩:∃pc,pcs[i]?=some pc∧v=.ref pc.1:=by
        unfold prefs at hv
        rw [List.getElem?_map] at hv
        obtain ⟨x,g,rfl⟩:=Option.map_eq_some_iff.mp hv
        exact ⟨x,g,rfl⟩
      have hi:i<pcs.length:=(List.getElem?_eq_some_iff.mp gp).1
      have hpcA:=(hps pc (List.mem_of_getElem? gp)).up s03
      obtain ⟨a1,a2,a3,a4,ep,f1,f2,f3,f4⟩:=id hpcA
      have fe3:=fe.up s3
      have none_:∀H4,Same H3 H4→RR .non H4:=fun H4 s4=>hR _ _ (kn H4 (s03.trans s4))
      have tk:pcs.take (i+1)=pcs.take i++[pc]:=by rw [List.take_add_one,gp];rfl
      have fin:(∀p,pcs[0]?=some p→p.2.1=(ef'.2.1:Rat))→(∀j p q,j+1<i+1→pcs[j]?=some p→pcs[j+1]?=some q→q.2.1=p.2.2.2.1∧q.2.2.1=p.2.2.2.2)→∀H4,Same H3 H4→tSeq (tIfS (tOr (tTest (tOp (rI0 fun i j=>V.bl (decide (j≤i))) (tCall spOrderQ [] E0 (tCons (tOp (rIxT K) (tVar 4) (tC (V.int 0))) (tCons (tOp (rIxT K) (tVar 4) (tC (V.int 2))) tNil))) (tC (V.int 0)))) (tTest (tOp (rI0 fun i j=>V.bl (decide (j<i))) (tCall spOrderQ [] E0 (tCons (tOp (rIxT K) (tVar 4) (tC (V.int 2))) (tCons (tVar 2) tNil))) (tC (V.int 0))))) (tRet (tC V.non)) tNext) (tSeq (tDrop (tBM K "list" rAppend (tVar 3) (tCons (tTup (tCons (tCall spHeld [] E0 (tCons (tVar 0) (tCons (tVar 4) tNil))) (tCons (tVar 4) tNil))) tNil))) (tIfS (tTest (tOp rEqD (tOp (rIxT K) (tVar 4) (tC (V.int 2))) (tVar 2))) (tRet (tVar 3)) tNext)) { nx:=M,rt:=RR,bk:=Bk,ct:=M } [some (.ref l),some (.ref lp),some (.ref pe),some (.ref R),some (.ref pc.1)] H4:=by
        intro hfst' hjn' H4 s4
        have ep4:=s4 _ _ ep
        have s04:=s03.trans s4
        walk_at "v"
        refine ⟨a1,a3,_,_,m,m,rfl,(f1.up s4).qt,(f3.up s4).qt,by omega,fun o ho1 ho2=>?_⟩
        walk_at "v"
        refine ite2 (fun c1=>?_) (fun c1=>?_)
        · refine iteT ?_
          walk_at "v"
          exact none_ H4 s4
        have c1':=of_decide_eq_false (Bool.eq_false_iff.mpr c1)
        have plt:pc.2.1<pc.2.2.2.1:=ho2.mp (by omega)
        walk_at "v"
        refine ⟨a3,pe,_,_,m,n,rfl,(f3.up s4).qt,(fe3.up s4).qt,by omega,fun o ho1 ho2=>?_⟩
        walk_at "v"
        refine ite2 (fun c2=>?_) (fun c2=>?_)
        · walk_at "v"
          exact none_ H4 s4
        have eR4:=s4 _ _ eR
        walk_at "v"
        refine ⟨.inl ⟨rfl,_,SqL.of eR4⟩,?_⟩
        walk_at "v"
        refine ⟨l,es,pc,n,m,rfl,s04 _ _ hl,hes.up s04,h40,hpcA.up s4,hn,hnm,fun ph H5 s5 n5 e5=>?_⟩
        walk_at "v"
        refine r_new (mk:=.tup) (by simp) fun y6 H6 s6 n6 e6=>?_
        walk_at "v"
        have s36:=(s4.trans s5).trans s6
        have eR6:=s36 _ _ eR
        refine r_app eR6 (by rw [frefs_len];exact small1000 (by omega)) ?_
        have eR7:upd H6 R (.lst (frefs fs++[.ref y6])) R=some (.lst (frefs (fs++[(y6,(ph,([]:List En)),pc)]))):=by rw [upd_same];unfold frefs;rw [List.map_append];rfl
        have hF7:∀x∈fs++[(y6,(ph,([]:List En)),pc)],upd H6 R (.lst (frefs fs++[.ref y6])) x.1=some (.tup [.ref x.2.1.1,.ref x.2.2.1]):=fun x hx=>by
          have:H6 x.1=some (.tup [.ref x.2.1.1,.ref x.2.2.1]):=by
            rcases List.mem_append.mp hx with z | z
            · exact s36 _ _ (hF x z)
            · obtain rfl:=List.mem_singleton.mp z
              exact e6
          rw [upd_ne (fun q=>by rw [q,eR6] at this;cases this)]
          exact this
        have s17:Same H1 (upd H6 R (.lst (frefs fs++[.ref y6]))):=same_at (s3.trans s36) n2
        have hmap7:(fs++[(y6,(ph,([]:List En)),pc)]).map (·.2.2)=pcs.take (i+1):=by rw [List.map_append,hmap,tk];rfl
        have ep7:upd H6 R (.lst (frefs fs++[.ref y6])) pc.1=some (.tup [.ref a1,.ref a2,.ref a3,.ref a4]):=by
          rw [upd_ne (fun q=>by have:=s36 _ _ ep;rw [q,eR6] at this;cases this)]
          exact s36 _ _ ep
        have fu:∀{p:Addr} {q:Rat} {n:Nat},FrAt H3 p q n→FrAt (upd H6 R (.lst (frefs fs++[.ref y6]))) p q n:=fun {p q n} ⟨t,b,e,g⟩=>⟨t,b,by
          rw [upd_ne (fun q=>by have:=s36 _ _ e;rw [q,eR6] at this;cases this)]
          exact s36 _ _ e,g⟩
        generalize hfs7:fs++[(y6,(ph,([]:List En)),pc)]=fs7 at *
        generalize hH7:upd H6 R (.lst (frefs fs++[.ref y6]))=H7 at *
        have hlt':∀j p,j<i+1→pcs[j]?=some p→p.2.1<p.2.2.2.1:=fun j p hj g=>by
          by_cases z:j=i
          · subst z;rw [gp] at g;cases g;exact plt
          · exact hlt j p (by omega) g
        walk_at "v"
        refine fr_eqD (fu f3) (fu fe3) ?_
        refine ⟨_,rfl,?_⟩
        refine ite2 (fun c3=>?_) (fun c3=>?_)
        · have c3':=of_decide_eq_true c3
          walk_at "v"
          refine hR _ _ (k R fs7 (pcs.take (i+1)) (pcs.drop (i+1)) H7 (s1.trans s17) (s1.free n2) ⟨eR7,hF7,hmap7⟩ (List.take_append_drop _ _).symm fun _=>.inr ?_)
          have at_:∀{j:Nat},j<i+1→∃p:Pc,pcs[j]?=some p∧((pcs.take (i+1)).map (·.2))[j]?=some p.2:=fun {j} hj=>by
            have g:pcs[j]?=some (pcs[j]'(by omega)):=List.getElem?_eq_getElem (by omega)
            exact ⟨_,g,by rw [List.getElem?_map,List.getElem?_take_of_lt hj,g];rfl⟩
          have hlen:((pcs.take (i+1)).map (·.2)).length=i+1:=by rw [List.length_map,List.length_take];omega
          have ptl:(pts es).length=es.length:=by unfold pts;simp
          refine ⟨fun j=>if j=i+1 then (pc.2.2.2.1,pc.2.2.2.2) else ((pcs[j]?).map fun p=>(p.2.1,p.2.2.1)).getD (0,0),⟨by rw [ptl];omega,by rw [hlen];omega,fun j hj=>?_,fun j hj=>?_,⟨(ef'.2.1,ef'.2.2.getD 0),by unfold pts;rw [List.getElem?_map,gf];rfl,?_⟩,⟨(el'.2.1,el'.2.2.getD 0),by rw [ptl];unfold pts;rw [List.getElem?_map,gl];rfl,?_⟩⟩⟩
          · rw [hlen] at hj
            obtain ⟨p,g,g'⟩:=at_ hj
            rw [g',if_neg (by omega),g]
            by_cases z:j=i
            · subst z
              rw [gp] at g
              cases g
              rw [if_pos rfl]
              rfl
            · obtain ⟨q,gq,_⟩:=at_ (show j+1<i+1 by omega)
              rw [if_neg (by omega),gq]
              obtain ⟨u1,u2⟩:=hjn' j p q (by omega) g gq
              show some p.2=some (p.2.1,p.2.2.1,q.2.1,q.2.2.1)
              rw [u1,u2]
          · rw [hlen] at hj
            obtain ⟨p,g,_⟩:=at_ hj
            rw [if_neg (show ¬j=i+1 by omega),g]
            by_cases z:j=i
            · subst z
              rw [gp] at g
              cases g
              rw [if_pos rfl]
              exact plt
            · obtain ⟨q,gq,_⟩:=at_ (show j+1<i+1 by omega)
              rw [if_neg (by omega),gq]
              show p.2.1<q.2.1
              rw [(hjn' j p q (by omega) g gq).1]
              exact hlt' j p hj g
          · obtain ⟨p,g,_⟩:=at_ (show 0<i+1 by omega)
            rw [if_neg (by omega),g]
            exact hfst' p g
          · rw [hlen,if_pos rfl]
            exact c3'
        · walk_at "v"
          exact hM _ _ ⟨fs7,_,rfl,s17,eR7,hF7,hmap7,by rw [← hfs7,List.length_append,hfl];rfl,fun p _=>hfst' p,hlt',hjn'⟩
      walk_at "v"
      refine r_len (.inl (SqL.of eR)) ?_
      rw [frefs_len,hfl]
      walk_at "v"
      cases i with
      | zero=>
        rw [decide_eq_true (by rfl)]
        refine iteT ?_
        walk_at "v"
        refine r_l hl3 (v:=.ref ef'.1) (atI_nat (j:=0) (vals_get gf)) ?_
        refine ⟨ef',n,rfl,ff.up s03,fun pm H4 s4 n4 e4=>?_⟩
        refine fr_neD (f1.up s4) (fr_mo e4 ff.1 hn) ?_
        refine ⟨_,rfl,?_⟩
        by_cases q0:pc.2.1=(ef'.2.1:Rat)
        · rw [decide_eq_true q0]
          refine iteF ?_
          walk_at "v"
          refine r_len (.inl (SqL.of (s4 _ _ eR))) ?_
          rw [frefs_len,hfl]
          walk_at "v"
          rw [decide_eq_false (by decide)]
          refine iteF ?_
          refine iteF ?_
          exact fin (fun p g=>by rw [gp] at g;cases g;exact q0) (fun j p q hj=>by omega) H4 s4
        · rw [decide_eq_false q0]
          refine iteT ?_
          walk_at "v"
          exact none_ H4 s4
      | succ i=>
        rw [decide_eq_false (by omega)]
        refine iteF ?_
        refine iteF ?_
        walk_at "v"
        refine r_len (.inl (SqL.of eR)) ?_
        rw [frefs_len,hfl]
        walk_at "v"
        rw [decide_eq_true (by omega)]
        refine iteT ?_
        walk_at "vd"
        refine r_slT ep (show ¬(HT.sIx 4 0 none=0∧HT.sIx 4 4 (some 2)=4) by decide) fun p4 H4 s4 n4 e4=>?_
        obtain ⟨xp,gxp⟩:∃xp,fs[i]?=some xp:=⟨_,List.getElem?_eq_getElem (by omega)⟩
        have hxp1:=s4 _ _ (hF xp (List.mem_of_getElem? gxp))
        have gpp:pcs[i]?=some xp.2.2:=by
          have:(fs.map (·.2.2))[i]?=some xp.2.2:=by rw [List.getElem?_map,gxp];rfl
          rw [hmap,List.getElem?_take_of_lt (by omega)] at this
          exact this
        obtain ⟨b1,b2,b3,b4,epp,g1,g2,g3,g4⟩:=(hps xp.2.2 (List.mem_of_getElem? gpp)).up (s03.trans s4)
        walk_at "vd"
        refine r_l (s4 _ _ eR) (v:=.ref xp.1) (by
          unfold atI
          rw [ix_last (m:=i) (by rw [frefs_len];exact hfl)]
          show (frefs fs)[i]?=_
          unfold frefs
          rw [List.getElem?_map,gxp]
          rfl) ?_
        walk_at "vd"
        refine r_slT epp (show ¬(HT.sIx 4 0 (some 2)=0∧HT.sIx 4 4 none=4) by decide) fun p5 H5 s5 n5 e5=>?_
        have d4:Den H5 (.ref p4) (.tuple [fdat pc.2.1,fdat pc.2.2.1]):=.tup (s5 _ _ e4) (.cons (f1.up (s4.trans s5)).fden (.cons (f2.up (s4.trans s5)).fden .nil))
        have d5:Den H5 (.ref p5) (.tuple [fdat xp.2.2.2.2.2.1,fdat xp.2.2.2.2.2.2]):=.tup e5 (.cons (g3.up s5).fden (.cons (g4.up s5).fden .nil))
        refine ⟨_,_,d4,d5,rfl,rfl,?_⟩
        refine ⟨_,rfl,?_⟩
        cases qq:PyData.eqv (.tuple [fdat pc.2.1,fdat pc.2.2.1]) (.tuple [fdat xp.2.2.2.2.2.1,fdat xp.2.2.2.2.2.2]) with
        | false=>
          refine iteT ?_
          walk_at "v"
          exact none_ H5 (s4.trans s5)
        | true=>
          have qq':(PyData.eqv (fdat pc.2.1) (fdat xp.2.2.2.2.2.1)&&(PyData.eqv (fdat pc.2.2.1) (fdat xp.2.2.2.2.2.2)&&true))=true:=qq
          rw [Bool.and_eq_true,Bool.and_eq_true] at qq'
          refine iteF ?_
          refine fin (fun p g=>hfst p (by omega) g) (fun j p q hj gj gq=>?_) H5 (s4.trans s5)
          by_cases z:j=i
          · subst z
            rw [gpp] at gj
            cases gj
            rw [gp] at gq
            cases gq
            exact ⟨fdat_eq qq'.1,fdat_eq qq'.2.1⟩
          · exact hjn j p q (by omega) gj gq
    · rintro σ H3 ⟨fs,v4,rfl,s3,_⟩
      walk_at "v"
      exact kn H3 (s1.trans s3)
end

noncomputable def spPRunN:Sp:=fun vs H Q _=>∃(hung tied:Bool) (l lp:Addr) (es:List En) (pcs:List Pc) (n m:Nat),vs=[.ref l,.str (wayS hung tied),.ref lp]∧H l=some (.lst (vals es))∧Row H es n∧AllS es∧rising es∧1≤es.length∧es.length≤40∧1≤n∧H lp=some (.lst (prefs pcs))∧AllP H pcs m∧pcs.length≤900∧n+m≤50000∧(∀H',Same H H'→Q .non H') ∧
  ∀(T:Addr) (fs:List Fp) (bl more:List Pc) (H':Hp),Same H H'→H T=none→H' T=some (.lst (frefs fs))→fs.length=bl.length→pcs=bl++more→ShpW hung tied (pts es) (bl.map (·.2))→Q (.ref T) H'
noncomputable def spPRowN:Sp:=fun vs H Q _=>∃(hung tied:Bool) (l lp:Addr) (es:List En) (pcs:List Pc) (n m:Nat),vs=[.ref l,.str (wayS hung tied),.ref lp]∧H l=some (.lst (vals es))∧Row H es n∧rising es∧es.length≤40∧1≤n∧H lp=some (.lst (prefs pcs))∧AllP H pcs m∧pcs.length≤900∧n+m≤50000∧¬Val hung tied ((parts smp es es.length).map pts) (pcs.map (·.2))∧∀H',Same H H'→Q .non H'
structure NoIn (H:Hp) (hung tied:Bool) (l lp:Addr) (es:List En) (pcs:List Pc) (n m:Nat):Prop where
  hl:H l=some (.lst (vals es))
  row:Row H es n
  ris:rising es
  h40:es.length≤40
  hn:1≤n
  hlp:H lp=some (.lst (prefs pcs))
  hps:AllP H pcs m
  h900:pcs.length≤900
  hnm:n+m≤50000
  no:¬Val hung tied ((parts smp es es.length).map pts) (pcs.map (·.2))
noncomputable def spMissN:Sp:=fun vs H Q _=>∃(hung tied:Bool) (l lp:Addr) (es:List En) (pcs:List Pc) (n m:Nat),vs=[.ref l,.str (wayS hung tied),.ref lp]∧NoIn H hung tied l lp es pcs n m∧∀H',Same H H'→Q .non H'
noncomputable def spFitsN:Sp:=fun vs H Q _=>∃(hung tied:Bool) (l lp pb:Addr) (es:List En) (pcs:List Pc) (n m:Nat),vs=[.ref l,.str (wayS hung tied),.ref pb,.ref lp]∧NoIn H hung tied l lp es pcs n m∧∀H',Same H H'→Q (.bl false) H'
theorem frefs_at {fs:List Fp} {i:Nat} {v:V} (h:(frefs fs)[i]?=some v):∃x,fs[i]?=some x∧v=.ref x.1:=by
  unfold frefs at h
  rw [List.getElem?_map] at h
  obtain ⟨x,g,rfl⟩:=Option.map_eq_some_iff.mp h
  exact ⟨x,g,rfl⟩
theorem all_true {fs:List Fp} {rs:List Bool} {Pr:Fp→Prop} (hl:rs.length=fs.length) (hr:∀(j:Nat) (r:Bool) (x:Fp),rs[j]?=some r→fs[j]?=some x→r=true→Pr x) (h:rs.all id=true):∀x∈fs,Pr x:=fun x hx=>by
  obtain ⟨j,hj,e⟩:=List.mem_iff_getElem.mp hx
  have g:rs[j]?=some (rs[j]'(by omega)):=List.getElem?_eq_getElem (by omega)
  exact hr j _ x g (by rw [List.getElem?_eq_getElem hj,e]) (List.all_eq_true.mp h _ (List.mem_of_getElem? g))
theorem rs_snoc {fs:List Fp} {rs:List Bool} {Pr:Fp→Prop} {x:Fp} {r:Bool} (gx:fs[rs.length]?=some x) (hr:∀(j:Nat) (r:Bool) (x:Fp),rs[j]?=some r→fs[j]?=some x→r=true→Pr x) (hx:r=true→Pr x):∀(j:Nat) (r':Bool) (x':Fp),(rs++[r])[j]?=some r'→fs[j]?=some x'→r'=true→Pr x':=fun j r' x' h1 h2 h3=>by
  by_cases hj:j<rs.length
  · rw [List.getElem?_append_left hj] at h1
    exact hr j r' x' h1 h2 h3
  · have:j=rs.length:=by have:=(List.getElem?_eq_some_iff.mp h1).1;rw [List.length_append] at this;simp at this;omega
    subst this
    rw [List.getElem?_append_right (Nat.le_refl _),Nat.sub_self] at h1
    cases h1
    rw [gx] at h2
    cases h2
    exact hx h3
section
variable {P:Program} {w:World} {K:PySem.W.Frag} {mg:Str→Option Value} {base:Heap} {f:Addr} {fd:FuncData}
theorem ok_parts_of_runN (F:Fun K "parts_of_run" "parts_of_run" s_parts_of_run f fd) (T:Txt mg) (D_parts_hanging_togetherN:Dn P w K mg base 3 "parts_hanging_together" ["run","pieces"] spHangN) (D_parts_lying_apartN:Dn P w K mg base 2 "parts_lying_apart" ["run","pieces"] spLyingN) (D_has_one_heightN:Dn P w K mg base 1 "has_one_height" ["piece"] spOneHN) (D_ends_on_samplesN:Dn P w K mg base 2 "ends_on_samples" ["run","piece"] spEndsOnN):FnOk P w K mg base CX0 4 f fd ["run","way","pieces"] spPRunN:=by
  refine F.ok sc_parts_of_run (fun vs H Q E h=>?_) (fun cdv A outer s H vs Q E hr h=>?_)
  · obtain ⟨hung,tied,l,lp,es,pcs,n,m,rfl,_⟩:=h
    rfl
  obtain ⟨hung,tied,l,lp,es,pcs,n,m,rfl,hl,hes,hS,hri,h1,h40,hn,hlp,hps,h900,hnm,kn,k⟩:=h
  have hu64:=hr.units
  refine J.q ⟨_,(J.f (J.m (J.x (J.af (J.j op_eq (J.a 1) J.z (nomark _)) (J.ah (J.j op_eq (J.a 1) J.z (nomark _)))))
      (J.h (J.i (i:=3) sc_parts_of_run.nd rfl (Or.inl rfl) (J.k D_parts_hanging_togetherN (hr.mono (by decide)) rfl (J.b (J.a 0) (J.b (J.a 2) J.d st_N) st_N) (he:=st_N) (hpl:=(anyc st_N any0))) (hs:=sw_K)))
      (J.h (J.i (i:=3) sc_parts_of_run.nd rfl (Or.inl rfl) (J.k D_parts_lying_apartN (hr.mono (by decide)) rfl (J.b (J.a 0) (J.b (J.a 2) J.d st_N) st_N) (he:=st_N) (hpl:=(anyc st_N any0))) (hs:=sw_K))))
      (J.f (J.m (J.x (J.af (J.j op_isN (J.a 3) J.w (nomark _)) (J.ah (Jd.pt_not (J.ak (J.p (allC K rfl) rfl T.all_ PyProof.Rows.boot_all (J.b (J.ao (O:=["part"]) (N':=[]) (cap:=[]) rfl (J.aa K (J.a 3)) (fun _ _ _ _ _=>(J.u (i:=0) (show List.Nodup [("part":Str)] by decide +kernel) rfl (Or.inl rfl))) (fun _ _ _ _ _=>J.an) (fun _ _ _ _ _=>(J.k D_has_one_heightN (hr.mono (by decide)) rfl (J.b (J.e (ixT K) (J.a 0) J.c (fun _ _=>rfl)) J.d st_S) (he:=st_S) (hpl:=any0))) rfl trivial rfl (by decide +kernel) rfl (by decide +kernel)) J.d st_G) (he:=st_G) (hpl:=any0)))))))
      (J.h (J.l J.w))
      J.n)
      (J.f (J.m (J.x (J.af (J.j op_eq (J.a 1) J.z (nomark _)) (J.ah (J.j op_eq (J.a 1) J.z (nomark _)))))
      (J.h (J.m (Jd.pt_not (J.ak (J.p (allC K rfl) rfl T.all_ PyProof.Rows.boot_all (J.b (J.ao (O:=["part"]) (N':=["run"]) (cap:=[0]) rfl (J.aa K (J.a 3)) (fun _ _ _ _ _=>(J.u (i:=0) (show List.Nodup [("part":Str),("run":Str)] by decide +kernel) rfl (Or.inl rfl))) (fun _ _ _ _ _=>J.an) (fun _ _ _ _ _=>(J.k D_ends_on_samplesN (hr.mono (by decide)) rfl (J.b (J.a 1) (J.b (J.e (ixT K) (J.a 0) J.c (fun _ _=>rfl)) J.d st_S) st_N) (he:=st_N) (hpl:=(anyc st_S any0)))) rfl ⟨⟨rfl,rfl,rfl,rfl⟩,trivial⟩ rfl (by decide +kernel) rfl (by decide +kernel)) J.d st_G) (he:=st_G) (hpl:=any0))))
      (J.h (J.l J.w))
      J.n))
      J.n)
      (J.h (J.l (J.a 3)))))),?_⟩
  refine seq_cut (fun σ H1=>∃v:V,σ=[some (.ref l),some (.str (wayS hung tied)),some (.ref lp),some v]∧Same H H1∧(v=.non∨∃(TT:Addr) (fs:List Fp) (bl more:List Pc),v=.ref TT∧H TT=none∧OutN H1 TT bl fs∧pcs=bl++more∧((∀p∈bl,p.2.1=p.2.2.2.1→p.2.2.1=p.2.2.2.2)→if hung=true then HungP (pts es) (bl.map (·.2)) else LooseP (pts es) (bl.map (·.2))))) (fun σ H1 hP=>?_) (fun N hN=>?_)
  rotate_left
  · cases hung with
    | true=>
      walk_at "v"
      cases tied with
      | true=>
        refine r_eqS (c:=false) (by decide +kernel) ?_
        refine ⟨_,rfl,?_⟩
        refine iteF ?_
        walk_at "v"
        refine r_eqS (c:=true) (by decide +kernel) ?_
        refine ⟨_,rfl,?_⟩
        refine iteT ?_
        walk_at "v"
        exact ⟨l,lp,es,pcs,n,m,rfl,hl,hes,hri,h1,h40,hn,hlp,hps,h900,hnm,fun H1 s1=>hN _ _ ⟨.non,rfl,s1,.inl rfl⟩,fun TT fs bl more H1 s1 nT ho hpc hh=>hN _ _ ⟨.ref TT,rfl,s1,.inr ⟨TT,fs,bl,more,rfl,nT,ho,hpc,by rw [if_pos rfl];exact hh⟩⟩⟩
      | false=>
        refine r_eqS (c:=true) (by decide +kernel) ?_
        refine ⟨_,rfl,?_⟩
        refine iteT ?_
        refine iteT ?_
        walk_at "v"
        exact ⟨l,lp,es,pcs,n,m,rfl,hl,hes,hri,h1,h40,hn,hlp,hps,h900,hnm,fun H1 s1=>hN _ _ ⟨.non,rfl,s1,.inl rfl⟩,fun TT fs bl more H1 s1 nT ho hpc hh=>hN _ _ ⟨.ref TT,rfl,s1,.inr ⟨TT,fs,bl,more,rfl,nT,ho,hpc,by rw [if_pos rfl];exact hh⟩⟩⟩
    | false=>
      walk_at "v"
      have two:decide (wayS false tied = "joined")=false∧decide (wayS false tied = "chain")=false:=by cases tied <;> exact ⟨by decide +kernel,by decide +kernel⟩
      refine r_eqS (c:=false) two.1 ?_
      refine ⟨_,rfl,?_⟩
      refine iteF ?_
      walk_at "v"
      refine r_eqS (c:=false) two.2 ?_
      refine ⟨_,rfl,?_⟩
      refine iteF ?_
      walk_at "v"
      exact ⟨l,lp,es,pcs,n,m,rfl,hl,hes,hri,h40,hlp,hps,h900,fun H1 s1=>hN _ _ ⟨.non,rfl,s1,.inl rfl⟩,fun TT fs bl more H1 s1 nT ho hpc hh=>hN _ _ ⟨.ref TT,rfl,s1,.inr ⟨TT,fs,bl,more,rfl,nT,ho,hpc,fun _=>by rw [if_neg Bool.false_ne_true];exact hh⟩⟩⟩
  obtain ⟨v,rfl,s1,hv⟩:=hP
  rcases hv with rfl | ⟨TT,fs,bl,more,rfl,nT,ho,hpc,hlie⟩
  · walk_at "v"
    refine ⟨rfl,?_⟩
    refine ⟨_,rfl,?_⟩
    refine iteT ?_
    refine iteT ?_
    walk_at "v"
    exact kn H1 s1
  have hfl:fs.length=bl.length:=by rw [← ho.map,List.length_map]
  have hb9:bl.length≤900:=by rw [hpc,List.length_append] at h900;omega
  have hbl:∀x∈fs,x.2.2∈bl:=fun x hx=>by rw [← ho.map];exact List.mem_map.mpr ⟨x,hx,rfl⟩
  have hpl:∀x∈fs,PcAt H x.2.2 m:=fun x hx=>hps _ (by rw [hpc];exact List.mem_append_left _ (hbl x hx))
  have ofbl:∀{Pr:Pc→Prop},(∀x∈fs,Pr x.2.2)→∀p∈bl,Pr p:=fun {Pr} h p hp=>by
    rw [← ho.map] at hp
    obtain ⟨x,hx,rfl⟩:=List.mem_map.mp hp
    exact h x hx
  walk_at "v"
  refine ⟨rfl,?_⟩
  refine ⟨_,rfl,?_⟩
  refine iteF ?_
  walk_at "v"
  refine r_iL ?_
  walk_at "v"
  refine ⟨TT,rfl,⟨_,SqL.of ho.at_⟩,?_⟩
  refine compB_of (xs:=frefs fs) tells_list (fun H3 s3=>SqL.of (s3 _ _ ho.at_)) (by rw [frefs_len];omega) (fun i ys G=>∃rs:List Bool,ys=bls rs∧rs.length=i∧∀(j:Nat) (r:Bool) (x:Fp),rs[j]?=some r→fs[j]?=some x→r=true→(x.2.2.2.1=x.2.2.2.2.2.1→x.2.2.2.2.1=x.2.2.2.2.2.2)) ⟨[],rfl,rfl,fun j r x h=>(by simp at h)⟩ ?_ ?_
  · rintro D i v ys H3 σ0 N N0 h0 hD eD s3 hv hy ⟨rs,rfl,hrl,hrs⟩ kY kN
    obtain ⟨x,gx,rfl⟩:=frefs_at hv
    have hx:=List.mem_of_getElem? gx
    have fx:=s3 _ _ (ho.tup x hx)
    refine r_own1 h0 ?_
    walk_at "v"
    refine iteT ?_
    walk_at "v"
    refine ⟨x.2.2,m,rfl,(hpl x hx).up (s1.trans s3),fun r hr=>?_⟩
    refine kY _ H3 (Same.refl _) ⟨rs++[r],by unfold bls;rw [List.map_append];rfl,by rw [List.length_append,hrl];rfl,rs_snoc (by rw [hrl];exact gx) hrs hr⟩
  rintro D ys H3 hD eD s3 hy ⟨rs,rfl,hrl,hrs⟩
  rw [frefs_len] at hrl
  walk_at "v"
  refine r_all eD ?_
  refine ⟨_,rfl,?_⟩
  have s03:=s1.trans s3
  refine ite2 (fun c1=>?_) (fun c1=>?_)
  · walk_at "v"
    exact kn H3 s03
  have hones:=ofbl (Pr:=fun p=>p.2.1=p.2.2.2.1→p.2.2.1=p.2.2.2.2) (all_true hrl hrs (by simpa using c1))
  have eT3:=s3 _ _ ho.at_
  have ones':∀p∈bl.map (·.2),p.1=p.2.2.1→p.2.1=p.2.2.2:=fun p hp=>by
    obtain ⟨q,hq,rfl⟩:=List.mem_map.mp hp
    exact hones q hq
  walk_at "v"
  cases tied with
  | false=>
    have two:decide (wayS hung false = "spans")=false∧decide (wayS hung false = "chain")=false:=by cases hung <;> exact ⟨by decide +kernel,by decide +kernel⟩
    refine r_eqS (c:=false) two.1 ?_
    refine ⟨_,rfl,?_⟩
    refine iteF ?_
    walk_at "v"
    refine r_eqS (c:=false) two.2 ?_
    refine ⟨_,rfl,?_⟩
    refine iteF ?_
    walk_at "v"
    exact k TT fs bl more H3 s03 nT eT3 hfl hpc ⟨ones',hlie hones,fun z=>by cases z⟩
  | true=>
    cases hung with
    | true=>
      refine r_eqS (c:=false) (by decide +kernel) ?_
      refine ⟨_,rfl,?_⟩
      refine iteF ?_
      walk_at "v"
      refine r_eqS (c:=true) (by decide +kernel) ?_
      refine ⟨_,rfl,?_⟩
      refine iteT ?_
      walk_at "v"
      refine r_iL ?_
      walk_at "v"
      refine ⟨TT,rfl,⟨_,SqL.of eT3⟩,?_⟩
      refine compB_of (xs:=frefs fs) tells_list (fun H4 s4=>SqL.of (s4 _ _ eT3)) (by rw [frefs_len];omega) (fun i ys G=>∃rs:List Bool,ys=bls rs∧rs.length=i∧∀(j:Nat) (r:Bool) (x:Fp),rs[j]?=some r→fs[j]?=some x→r=true→((∃d∈pts es,x.2.2.2.1=(d.1:Rat)∧x.2.2.2.2.1=d.2)∧∃d∈pts es,x.2.2.2.2.2.1=(d.1:Rat)∧x.2.2.2.2.2.2=d.2)) ⟨[],rfl,rfl,fun j r x h=>(by simp at h)⟩ ?_ ?_
      · rintro D2 i v ys H4 σ0 N N0 h0 hD2 eD2 s4 hv hy ⟨rs,rfl,hrl,hrs⟩ kY kN
        obtain ⟨x,gx,rfl⟩:=frefs_at hv
        have hx:=List.mem_of_getElem? gx
        have fx:=(s3.trans s4) _ _ (ho.tup x hx)
        have s04:=s03.trans s4
        refine r_own1 h0 ?_
        walk_at "v"
        refine iteT ?_
        walk_at "v"
        refine ⟨l,es,x.2.2,n,m,rfl,s04 _ _ hl,hes.up s04,hS,h40,(hpl x hx).up s04,fun r H5 s5 hr=>?_⟩
        exact kY _ H5 s5 ⟨rs++[r],by unfold bls;rw [List.map_append];rfl,by rw [List.length_append,hrl];rfl,rs_snoc (by rw [hrl];exact gx) hrs hr⟩
      rintro D2 ys H4 hD2 eD2 s4 hy ⟨rs2,rfl,hrl2,hrs2⟩
      rw [frefs_len] at hrl2
      walk_at "v"
      refine r_all eD2 ?_
      refine ⟨_,rfl,?_⟩
      refine ite2 (fun c2=>?_) (fun c2=>?_)
      · walk_at "v"
        exact kn H4 (s03.trans s4)
      have hties:=ofbl (Pr:=fun p=>(∃d∈pts es,p.2.1=(d.1:Rat)∧p.2.2.1=d.2)∧∃d∈pts es,p.2.2.2.1=(d.1:Rat)∧p.2.2.2.2=d.2) (all_true hrl2 hrs2 (by simpa using c2))
      walk_at "v"
      exact k TT fs bl more H4 (s03.trans s4) nT (s4 _ _ eT3) hfl hpc ⟨ones',hlie hones,fun _ p hp=>by
        obtain ⟨q,hq,rfl⟩:=List.mem_map.mp hp
        exact hties q hq⟩
    | false=>
      refine r_eqS (c:=true) (by decide +kernel) ?_
      refine ⟨_,rfl,?_⟩
      refine iteT ?_
      refine iteT ?_
      walk_at "v"
      refine r_iL ?_
      walk_at "v"
      refine ⟨TT,rfl,⟨_,SqL.of eT3⟩,?_⟩
      refine compB_of (xs:=frefs fs) tells_list (fun H4 s4=>SqL.of (s4 _ _ eT3)) (by rw [frefs_len];omega) (fun i ys G=>∃rs:List Bool,ys=bls rs∧rs.length=i∧∀(j:Nat) (r:Bool) (x:Fp),rs[j]?=some r→fs[j]?=some x→r=true→((∃d∈pts es,x.2.2.2.1=(d.1:Rat)∧x.2.2.2.2.1=d.2)∧∃d∈pts es,x.2.2.2.2.2.1=(d.1:Rat)∧x.2.2.2.2.2.2=d.2)) ⟨[],rfl,rfl,fun j r x h=>(by simp at h)⟩ ?_ ?_
      · rintro D2 i v ys H4 σ0 N N0 h0 hD2 eD2 s4 hv hy ⟨rs,rfl,hrl,hrs⟩ kY kN
        obtain ⟨x,gx,rfl⟩:=frefs_at hv
        have hx:=List.mem_of_getElem? gx
        have fx:=(s3.trans s4) _ _ (ho.tup x hx)
        have s04:=s03.trans s4
        refine r_own1 h0 ?_
        walk_at "v"
        refine iteT ?_
        walk_at "v"
        refine ⟨l,es,x.2.2,n,m,rfl,s04 _ _ hl,hes.up s04,hS,h40,(hpl x hx).up s04,fun r H5 s5 hr=>?_⟩
        exact kY _ H5 s5 ⟨rs++[r],by unfold bls;rw [List.map_append];rfl,by rw [List.length_append,hrl];rfl,rs_snoc (by rw [hrl];exact gx) hrs hr⟩
      rintro D2 ys H4 hD2 eD2 s4 hy ⟨rs2,rfl,hrl2,hrs2⟩
      rw [frefs_len] at hrl2
      walk_at "v"
      refine r_all eD2 ?_
      refine ⟨_,rfl,?_⟩
      refine ite2 (fun c2=>?_) (fun c2=>?_)
      · walk_at "v"
        exact kn H4 (s03.trans s4)
      have hties:=ofbl (Pr:=fun p=>(∃d∈pts es,p.2.1=(d.1:Rat)∧p.2.2.1=d.2)∧∃d∈pts es,p.2.2.2.1=(d.1:Rat)∧p.2.2.2.2=d.2) (all_true hrl2 hrs2 (by simpa using c2))
      walk_at "v"
      exact k TT fs bl more H4 (s03.trans s4) nT (s4 _ _ eT3) hfl hpc ⟨ones',hlie hones,fun _ p hp=>by
        obtain ⟨q,hq,rfl⟩:=List.mem_map.mp hp
        exact hties q hq⟩
theorem ok_parts_of_rowN (F:Fun K "parts_of_row" "parts_of_row" s_parts_of_row f fd) (T:Txt mg) (D_runs:Dn P w K mg base 1 "runs" ["row"] spRuns) (D_parts_of_runN:Dn P w K mg base 4 "parts_of_run" ["run","way","pieces"] spPRunN):FnOk P w K mg base CX0 5 f fd ["row","way","telling"] spPRowN:=by
  refine F.ok sc_parts_of_row (fun vs H Q E h=>?_) (fun cdv A outer s H vs Q E hr h=>?_)
  · obtain ⟨hung,tied,l,lp,es,pcs,n,m,rfl,_⟩:=h
    rfl
  obtain ⟨hung,tied,l,lp,es,pcs,n,m,rfl,hl,hes,hri,h40,hn,hlp,hps,h900,hnm,hno,kn⟩:=h
  have hu64:=hr.units
  refine J.q ⟨_,(J.f (J.i (i:=3) sc_parts_of_row.nd rfl (Or.inl rfl) (J.s J.d) (hs:=sw_L))
      (J.f (J.ae PassesOwn.never rfl (J.aa K (J.k D_runs (hr.mono (by decide)) rfl (J.b (J.a 0) J.d st_N) (he:=st_N) (hpl:=any0))) (J.u (i:=4) sc_parts_of_row.nd rfl (Or.inl rfl))
      (J.f (J.i (i:=5) sc_parts_of_row.nd rfl (Or.inl rfl) (J.k D_parts_of_runN (hr.mono (by decide)) rfl (J.b (J.a 4) (J.b (J.a 1) (J.b (J.t (slL K) (J.a 2) (J.r (J.p (lenC K) rfl T.len_ PySem.boot_len (J.b (J.a 3) J.d st_N) (he:=st_N) (hpl:=any0))) J.v) J.d st_S) st_N) st_N) (he:=st_N) (hpl:=(anyc st_N (anyc st_S any0)))) (hs:=sw_K))
      (J.f (J.m (J.j op_isN (J.a 5) J.w (nomark _))
      (J.h (J.l J.w))
      J.n)
      (J.h (J.y (Jd.extC K (J.a 3) (J.a 5)) (hs:=sw_K))))))
      (J.h (J.l (Jd.pe_ifExp (J.j op_eq (J.p (lenC K) rfl T.len_ PySem.boot_len (J.b (J.a 3) J.d st_N) (he:=st_N) (hpl:=any0)) (J.p (lenC K) rfl T.len_ PySem.boot_len (J.b (J.a 2) J.d st_N) (he:=st_N) (hpl:=any0)) (nomark _)) (J.a 3) J.w))))),?_⟩
  walk_at "v"
  refine r_new (mk:=.lst) (by simp) fun R H1 s1 n1 e1=>?_
  walk_at "v"
  refine r_for (r_iL ?_)
  walk_at "v"
  refine ⟨l,es,n,rfl,s1 _ _ hl,hes.up s1,h40,fun TT ls H2 s2 hLL hmap hl40 hx40=>?_⟩
  have s02:=s1.trans s2
  refine ⟨TT,rfl,⟨_,SqL.of hLL.at_⟩,for_list (xs:=lrefs ls) (fun i σ H3=>∃(fs:List Fp) (bs:List (List Pc)) (more:List Pc) (v4 v5:Option V),σ=[some (.ref l),some (.str (wayS hung tied)),some (.ref lp),some (.ref R),v4,v5]∧Same H H3∧LL H1 H3 TT ls∧H3 R=some (.lst (frefs fs))∧fs.length=bs.flatten.length∧pcs=bs.flatten++more∧Each2 (ShpW hung tied) (((ls.take i).map (·.2)).map pts) (bs.map fun b=>b.map (·.2))) ?_ ?_ ?_ ?_⟩
  · exact ⟨[],[],pcs,none,none,rfl,s02,hLL,s2 _ _ e1,rfl,rfl,trivial⟩
  · rintro i σ H3 _ ⟨fs,bs,more,v4,v5,rfl,s3,hL3,_⟩
    exact SqL.of hL3.at_
  · rintro i v σ H3 hv ⟨fs,bs,more,v4,v5,rfl,s3,hL3,eR,hfl,hpc,hE⟩
    refine body_cut fun M Bk RR hM _ hR=>?_
    obtain ⟨x,gx,rfl⟩:=lrefs_at hv
    have gr:(parts smp es es.length)[i]?=some x.2:=by rw [← hmap,List.getElem?_map,gx];rfl
    obtain ⟨po1,po2,po3⟩:=parts_own es.length x.2 (List.mem_of_getElem? gr)
    rw [List.take_length] at po3
    obtain ⟨xa,xb,xc⟩:=hL3.each x (List.mem_of_getElem? gx)
    have hrow:Row H x.2 n:=fun y hy=>hes y (po3.subset hy)
    have hcut:pcs.drop fs.length=more:=by rw [hpc,hfl,List.drop_left]
    have hml:more.length≤900:=by rw [hpc,List.length_append] at h900;omega
    walk_at "vd"
    refine r_len (.inl (SqL.of eR)) ?_
    rw [frefs_len]
    refine ⟨_,rfl,?_⟩
    walk_at "vd"
    refine r_slL (s3 _ _ hlp) fun pS H4 s4 n4 e4=>?_
    rw [cutk,show (prefs pcs).drop fs.length=prefs (pcs.drop fs.length) by unfold prefs;rw [List.map_drop],hcut] at e4
    have s04:=s3.trans s4
    walk_at "v"
    refine ⟨hung,tied,x.1,pS,x.2,more,n,m,rfl,s4 _ _ xb,hrow.up s04,po2,hri.sublist po3,List.length_pos_iff.mpr po1,hx40 x (List.mem_of_getElem? gx),hn,e4,fun y hy=>(hps y (by rw [hpc];exact List.mem_append_right _ hy)).up s04,hml,hnm,fun H5 s5=>?_,fun T' gs bl more' H5 s5 nT' eT' hgl hpc' hsh=>?_⟩
    · walk_at "v"
      refine ⟨rfl,?_⟩
      refine ⟨_,rfl,?_⟩
      refine iteT ?_
      walk_at "v"
      exact hR _ _ (kn H5 (s04.trans s5))
    · walk_at "v"
      refine ⟨rfl,?_⟩
      refine ⟨_,rfl,?_⟩
      refine iteF ?_
      have s35:=s4.trans s5
      have eR5:=s35 _ _ eR
      have h9:bs.flatten.length+bl.length≤900:=by rw [hpc,hpc',List.length_append,List.length_append] at h900;omega
      walk_at "v"
      refine ⟨.inl ⟨rfl,_,SqL.of eR5⟩,?_⟩
      walk_at "v"
      refine r_ext eR5 eT' (by rw [frefs_len,frefs_len];exact Nat.le_of_lt (Nat.lt_of_le_of_lt (show _≤900 by omega) (small1000 (by decide)))) ?_
      have ff:(bs++[bl]).flatten=bs.flatten++bl:=by rw [List.flatten_append];simp
      refine hM _ _ ⟨fs++gs,bs++[bl],more',_,_,rfl,same_at (s3.trans s35) n1,(hL3.up s35).other (fun q=>by have:=hL3.new;rw [← q,e1] at this;cases this) (fun y hy q=>by have:=(hL3.each y hy).1;rw [q,e1] at this;cases this),by rw [upd_same];unfold frefs;rw [List.map_append],by rw [ff,List.length_append,List.length_append,hfl,hgl],by rw [ff,hpc,hpc',List.append_assoc],?_⟩
      rw [List.take_add_one,gx,List.map_append,List.map_append,List.map_append]
      exact each2_snoc hE hsh
  · rintro σ H3 ⟨fs,bs,more,v4,v5,rfl,s3,hL3,eR,hfl,hpc,hE⟩
    rw [lrefs_len,List.take_length,hmap] at hE
    have hmore:more≠[]:=fun z=>hno ⟨_,hE,by rw [hpc,z,List.append_nil,List.map_flatten]⟩
    walk_at "v"
    refine r_len (.inl (SqL.of eR)) ?_
    walk_at "v"
    refine r_len (.inl (SqL.of (s3 _ _ hlp))) ?_
    rw [frefs_len,prefs_len,hfl]
    walk_at "v"
    rw [decide_eq_false (show ¬((bs.flatten.length:Int)=(pcs.length:Int)) by rw [hpc,List.length_append];have:=List.length_pos_iff.mpr hmore;omega)]
    refine iteF ?_
    walk_at "v"
    exact kn H3 s3
theorem ok_missN (F:Fun K "miss" "miss" s_miss f fd) (D_parts_of_rowN:Dn P w K mg base 5 "parts_of_row" ["row","way","telling"] spPRowN) (D_loose_misses:Dn P w K mg base 3 "loose_misses" ["part"] spLmiss) (D_greatest:Dn P w K mg base 2 "greatest" ["quotients"] spGreat) (D_reduced:Dn P w K mg base 4 "reduced" ["quotient"] spReduced):FnOk P w K mg base CX0 6 f fd ["row","way","telling"] spMissN:=by
  refine F.ok sc_miss (fun vs H Q E h=>?_) (fun cdv A outer s H vs Q E hr h=>?_)
  · obtain ⟨hung,tied,l,lp,es,pcs,n,m,rfl,_⟩:=h
    rfl
  obtain ⟨hung,tied,l,lp,es,pcs,n,m,rfl,I,k⟩:=h
  refine J.q ⟨_,(J.f (J.i (i:=3) sc_miss.nd rfl (Or.inl rfl) (J.k D_parts_of_rowN (hr.mono (by decide)) rfl (J.b (J.a 0) (J.b (J.a 1) (J.b (J.a 2) J.d st_N) st_N) st_N) (he:=st_N) (hpl:=(anyc st_N (anyc st_N any0)))) (hs:=sw_K))
      (J.f (J.m (J.j op_isN (J.a 3) J.w (nomark _))
      (J.h (J.l J.w))
      J.n)
      (J.f (J.i (i:=4) sc_miss.nd rfl (Or.inl rfl) (J.s (J.b (J.o (J.b J.c (J.b J.c J.d st_C) st_C)) J.d st_T)) (hs:=sw_L))
      (J.f (J.ae PassesOwn.never rfl (J.aa K (J.a 3)) (J.u (i:=5) sc_miss.nd rfl (Or.inl rfl))
      (J.h (J.y (Jd.extC K (J.a 4) (J.k D_loose_misses (hr.mono (by decide)) rfl (J.b (J.a 5) J.d st_N) (he:=st_N) (hpl:=any0))) (hs:=sw_K))))
      (J.h (J.l (J.k D_reduced (hr.mono (by decide)) rfl (J.b (J.k D_greatest (hr.mono (by decide)) rfl (J.b (J.a 4) J.d st_N) (he:=st_N) (hpl:=any0)) J.d st_K) (he:=st_K) (hpl:=any0)))))))),?_⟩
  walk_at "v"
  refine ⟨hung,tied,l,lp,es,pcs,n,m,rfl,I.hl,I.row,I.ris,I.h40,I.hn,I.hlp,I.hps,I.h900,I.hnm,I.no,fun H1 s1=>?_⟩
  walk_at "v"
  refine ⟨rfl,?_⟩
  refine ⟨_,rfl,?_⟩
  refine iteT ?_
  walk_at "v"
  exact k H1 s1
theorem ok_fitsN (F:Fun K "fits" "fits" s_fits f fd) (D_missN:Dn P w K mg base 6 "miss" ["row","way","telling"] spMissN) (D_order:Dn P w K mg base 1 "order" ["one","other"] spOrderQ):FnOk P w K mg base CX0 7 f fd ["row","way","bound","telling"] spFitsN:=by
  refine F.ok sc_fits (fun vs H Q E h=>?_) (fun cdv A outer s H vs Q E hr h=>?_)
  · obtain ⟨hung,tied,l,lp,pb,es,pcs,n,m,rfl,_⟩:=h
    rfl
  obtain ⟨hung,tied,l,lp,pb,es,pcs,n,m,rfl,I,k⟩:=h
  refine J.q ⟨_,(J.f (J.i (i:=4) sc_fits.nd rfl (Or.inl rfl) (J.k D_missN (hr.mono (by decide)) rfl (J.b (J.a 0) (J.b (J.a 1) (J.b (J.a 3) J.d st_N) st_N) st_N) (he:=st_N) (hpl:=(anyc st_N (anyc st_N any0)))) (hs:=sw_K))
      (J.h (J.l (J.am (J.ab op_notN (J.a 4) J.w (nomark _)) (J.al (J.ab op_le (J.k D_order (hr.mono (by decide)) rfl (J.b (J.a 4) (J.b (J.a 2) J.d st_N) st_N) (he:=st_N) (hpl:=(anyc st_N any0))) J.c (nomark _))))))),?_⟩
  walk_at "v"
  refine ⟨hung,tied,l,lp,es,pcs,n,m,rfl,I,fun H1 s1=>?_⟩
  walk_at "v"
  refine ⟨rfl,?_⟩
  refine ⟨_,rfl,?_⟩
  refine iteF ?_
  exact k H1 s1
end

theorem cutl (xs:List V) (n:Nat):cutV xs none (some (n:Int))=xs.take n:=by
  unfold cutV
  rw [HT.sIx_nat,show HT.sIx xs.length 0 none=0 from rfl,List.drop_zero,Nat.sub_zero]
  rcases Nat.le_total n xs.length with z | z
  · rw [Nat.min_eq_left z]
  · rw [Nat.min_eq_right z,List.take_of_length_le (Nat.le_refl _),List.take_of_length_le z]
theorem prefs_take (ps:List Pc) (n:Nat):(prefs ps).take n=prefs (ps.take n):=by unfold prefs;rw [List.map_take]
theorem prefs_drop (ps:List Pc) (n:Nat):(prefs ps).drop n=prefs (ps.drop n):=by unfold prefs;rw [List.map_drop]
theorem prefs_app (ps qs:List Pc):prefs ps++prefs qs=prefs (ps++qs):=by unfold prefs;rw [List.map_append]
theorem prefs_at {ps:List Pc} {i:Nat} {j:Int} {x:Pc} (h:ps[i]?=some x) (hj:j=(i:Int)):atI (prefs ps) j=some (.ref x.1):=by
  subst hj
  exact atI_nat (by unfold prefs;rw [List.getElem?_map,h];rfl)
theorem FrAt.mono2 {H:Hp} {p:Addr} {q:Rat} (f:FrAt H p q 160):FrAt H p q 200:=f.mono (by decide)
theorem inW3 (hung tied:Bool):inV (.str (wayS hung tied)) [.str "joined",.str "chain"]=hung:=by cases hung <;> cases tied <;> decide +kernel
structure Sm (H:Hp) (lw:Addr) (k0 k1 k2 k3 k4 k5:Int):Prop where
  at_:H lw=some (.lst [.int k0,.int k1,.int k2,.int k3,.int k4,.int k5])
  b1:0≤k1
  b2:0≤k2∧k2<2
  b5:0≤k5∧k5<3
theorem Sm.up {H H':Hp} {lw:Addr} {k0 k1 k2 k3 k4 k5:Int} (h:Sm H lw k0 k1 k2 k3 k4 k5) (s:Same H H'):Sm H' lw k0 k1 k2 k3 k4 k5:=⟨s _ _ h.at_,h.b1,h.b2,h.b5⟩
structure SpIn (H:Hp) (hung tied:Bool) (rs:List (List Pt)) (lq:Addr) (pcs:List Pc):Prop where
  hq:H lq=some (.lst (prefs pcs))
  hps:AllP H pcs 160
  h24:pcs.length≤24
  fl:Flat hung tied rs (pcs.map (·.2))
  ris:prise rs.flatten
theorem SpIn.up {H H':Hp} {hung tied:Bool} {rs:List (List Pt)} {lq:Addr} {pcs:List Pc} (h:SpIn H hung tied rs lq pcs) (s:Same H H'):SpIn H' hung tied rs lq pcs:=⟨s _ _ h.hq,h.hps.up s,h.h24,h.fl,h.ris⟩
theorem split_at {pcs:List Pc} {i:Nat} {pc:Pc} (g:pcs[i]?=some pc):pcs.map (·.2)=(pcs.take i).map (·.2)++pc.2::(pcs.drop (i+1)).map (·.2):=by
  have:=List.take_append_drop i pcs
  rw [List.drop_eq_getElem_cons (List.getElem?_eq_some_iff.mp g).1,(List.getElem?_eq_some_iff.mp g).2] at this
  conv=>lhs;rw [← this]
  rw [List.map_append,List.map_cons]
theorem take_prev {pcs:List Pc} {i:Nat} {pp:Pc} (g:pcs[i]?=some pp):(pcs.take (i+1)).map (·.2)=(pcs.take i).map (·.2)++[pp.2]:=by rw [List.take_add_one,g,List.map_append];rfl
theorem drop_next {pcs:List Pc} {i:Nat} {pn:Pc} (g:pcs[i]?=some pn):(pcs.drop i).map (·.2)=pn.2::(pcs.drop (i+1)).map (·.2):=by rw [List.drop_eq_getElem_cons (List.getElem?_eq_some_iff.mp g).1,(List.getElem?_eq_some_iff.mp g).2,List.map_cons]
noncomputable def spAdded:Sp:=fun vs H Q _=>∃(p:Addr) (q:Rat) (t b:Int),vs=[.ref p,.int t,.int b]∧FrAt H p q 160∧(t=1∨t=-1)∧1≤b∧b≤10 ^ 9∧∀(r:Addr) (H':Hp),Same H H'→FrAt H' r (q+(t:Rat)/(b:Rat)) 200→Q (.ref r) H'
noncomputable def spBF:Sp:=fun vs H Q _=>∃(hung tied:Bool) (rs:List (List Pt)) (lq:Addr) (pcs:List Pc) (i:Nat) (pc:Pc),vs=[.ref lq,.int (i:Int),.str (wayS hung tied)]∧SpIn H hung tied rs lq pcs∧pcs[i]?=some pc ∧
  ∀(r:Bool) (H':Hp),Same H H'→(r=true→tied=true∨(hung=true∧∃(j:Nat) (pp:Pc),i=j+1∧pcs[j]?=some pp∧pp.2.2.2.1=pc.2.1))→Q (.bl r) H'
noncomputable def spBL:Sp:=fun vs H Q _=>∃(hung tied:Bool) (rs:List (List Pt)) (lq:Addr) (pcs:List Pc) (i:Nat) (pc:Pc),vs=[.ref lq,.int (i:Int),.str (wayS hung tied)]∧SpIn H hung tied rs lq pcs∧pcs[i]?=some pc ∧
  ∀(r:Bool) (H':Hp),Same H H'→(r=true→tied=true∨pc.2.1=pc.2.2.2.1∨(hung=true∧∃pn:Pc,pcs[i+1]?=some pn∧pc.2.2.2.1=pn.2.1))→Q (.bl r) H'
noncomputable def spJoint:Sp:=fun vs H Q _=>∃(hung tied:Bool) (rs:List (List Pt)) (lq:Addr) (pcs:List Pc) (i:Nat) (pc:Pc),vs=[.ref lq,.int (i:Int),.str (wayS hung tied)]∧SpIn H hung tied rs lq pcs∧pcs[i]?=some pc ∧
  ∀(r:Bool) (H':Hp),Same H H'→(r=true→hung=true∧∃(j:Nat) (pp:Pc),i=j+1∧pcs[j]?=some pp∧pp.2.2.2.1=pc.2.1)→Q (.bl r) H'
noncomputable def spChanged:Sp:=fun vs H Q _=>∃(hung tied:Bool) (rs:List (List Pt)) (lq lw:Addr) (pcs:List Pc) (i:Nat) (pc:Pc) (k0 k1 k2 k3 k4 k5:Int),vs=[.ref lq,.int (i:Int),.str (wayS hung tied),.ref lw]∧SpIn H hung tied rs lq pcs∧pcs[i]?=some pc∧Sm H lw k0 k1 k2 k3 k4 k5 ∧
  ∀(x:Pc) (H':Hp),Same H H'→PcAt H' x 200→(Flat hung tied rs ((pcs.take i).map (·.2)++x.2::(pcs.drop (i+1)).map (·.2))→False)→Q (.ref x.1) H'
theorem add_eq {t d q:Rat} {u b:Rat} (h:t=q*d) (hd:d≠0) (hb:b≠0):(t*b+u*d)/(d*b)=q+u/b:=by
  rw [h]
  grind
section
variable {P:Program} {w:World} {K:PySem.W.Frag} {mg:Str→Option Value} {base:Heap} {f:Addr} {fd:FuncData}
theorem sc_law_added:FnScope ["_law_one","_law_top","_law_bottom"] ["_law_one","_law_top","_law_bottom"] (defScope s_law_added):=⟨rfl,rfl,rfl,by decide +kernel,rfl,by decide +kernel,by decide +kernel⟩
theorem ok_law_added (F:Fun K "_law_added" "_law_added" s_law_added f fd) (D_law_ratio:Dn P w K mg base 1 "_law_ratio" ["_law_top","_law_bottom"] spRatio):FnOk P w K mg base CX0 2 f fd ["_law_one","_law_top","_law_bottom"] spAdded:=by
  refine F.ok sc_law_added (fun vs H Q E h=>?_) (fun cdv A outer s H vs Q E hr h=>?_)
  · obtain ⟨p,q,t,b,rfl,_⟩:=h
    rfl
  obtain ⟨p,q,t,b,rfl,⟨u,d,e,g,zu,zd⟩,ht,hb1,hb9,k⟩:=h
  have hd1:=g.pos
  have zb:Sz 31 b:=show b.natAbs<2 ^ 31 by omega
  have zt:Sz 2 t:=show t.natAbs<2 ^ 2 by rcases ht with rfl | rfl <;> decide
  refine J.q ⟨_,(J.h (J.l (J.k D_law_ratio (hr.mono (by decide)) rfl (J.b (J.g op_add (J.g op_mulB (J.e (ixT K) (J.a 0) J.c (fun _ _=>rfl)) (J.a 2)) (J.g op_mulB (J.a 1) (J.e (ixT K) (J.a 0) J.c (fun _ _=>rfl)))) (J.b (J.g op_mulB (J.e (ixT K) (J.a 0) J.c (fun _ _=>rfl)) (J.a 2)) J.d st_B) st_B) (he:=st_B) (hpl:=(anyc st_B any0))))),?_⟩
  walk_at "v"
  refine r_I (mulOk zu zb) ?_
  walk_at "v"
  refine r_I (mulOk zt zd) ?_
  walk_at "v"
  refine r_I (mulOk zd zb) ?_
  walk_at "v"
  refine frac_gen (n:=200) (Int.mul_pos (by omega) (by omega)) ((((zu.mul zb).mono (show 160+31≤195 by decide)).add ((zt.mul zd).mono (show 2+160≤195 by decide))).mono (by decide)) ((zd.mul zb).mono (by decide)) (by decide) fun r H1 s1 f1=>?_
  refine k r H1 s1 ?_
  have e1:((u*b+t*d:Int):Rat)/((d*b:Int):Rat)=q+(t:Rat)/(b:Rat):=by
    simp only [Rat.intCast_mul,Rat.intCast_add]
    exact add_eq g.eq (cast_ne (by omega)) (cast_ne (by omega))
  rw [← e1]
  exact f1
theorem sc_law_bound_first:FnScope ["_law_pieces","_law_at","_law_way"] ["_law_pieces","_law_at","_law_way"] (defScope s_law_bound_first):=⟨rfl,rfl,rfl,by decide +kernel,rfl,by decide +kernel,by decide +kernel⟩
theorem ok_law_bound_first (F:Fun K "_law_bound_first" "_law_bound_first" s_law_bound_first f fd):FnOk P w K mg base CX0 1 f fd ["_law_pieces","_law_at","_law_way"] spBF:=by
  refine F.ok sc_law_bound_first (fun vs H Q E h=>?_) (fun cdv A outer s H vs Q E hr h=>?_)
  · obtain ⟨hung,tied,rs,lq,pcs,i,pc,rfl,_⟩:=h
    rfl
  obtain ⟨hung,tied,rs,lq,pcs,i,pc,rfl,I,gp,k⟩:=h
  have hu64:=hr.units
  refine J.q ⟨_,(J.f (J.m (J.j (inSeq K) (J.a 2) (J.o (J.b J.z (J.b J.z J.d st_C) st_C)) rfl)
      (J.h (J.l Jd.pe_bl))
      J.n)
      (J.h (J.l (J.am (J.ab op_eq (J.a 2) J.z (nomark _)) (J.am (J.ab op_gt (J.a 1) J.c (nomark _)) (J.al (J.ab (op_eqD hu64) (J.e (ixT K) (J.e (ixL K) (J.a 0) (J.g op_sub (J.a 1) J.c) (fun _ _=>rfl)) J.c (fun _ _=>rfl)) (J.e (ixT K) (J.e (ixL K) (J.a 0) (J.a 1) (fun _ _=>rfl)) J.c (fun _ _=>rfl)) (nomark _)))))))),?_⟩
  walk_at "v"
  refine r_new (mk:=.tup) (by simp) fun tt H1 s1 n1 e1=>?_
  refine ⟨tt,_,rfl,.inr (SqT.of e1),rfl,rfl,?_⟩
  refine ⟨_,rfl,?_⟩
  rw [if_neg Bool.false_ne_true,inW1]
  cases tied with
  | true=>
    refine iteT ?_
    walk_at "v"
    exact k true H1 s1 fun _=>.inl rfl
  | false=>
    refine iteF ?_
    walk_at "v"
    refine r_eqS (c:=hung) (by cases hung <;> decide +kernel) ?_
    refine ⟨_,rfl,?_⟩
    cases hung with
    | false=>
      refine iteF ?_
      exact k false H1 s1 fun z=>by cases z
    | true=>
      refine iteT ?_
      walk_at "v"
      cases i with
      | zero=>
        rw [decide_eq_false (by decide)]
        refine iteF ?_
        exact k false H1 s1 fun z=>by cases z
      | succ j=>
        rw [decide_eq_true (by omega)]
        refine iteT ?_
        have hi:=(List.getElem?_eq_some_iff.mp gp).1
        obtain ⟨pp,gpp⟩:∃pp,pcs[j]?=some pp:=⟨_,List.getElem?_eq_getElem (by omega)⟩
        obtain ⟨a1,a2,a3,a4,ea,fa1,fa2,fa3,fa4⟩:=(I.hps pp (List.mem_of_getElem? gpp)).up s1
        obtain ⟨b1,b2,b3,b4,eb,fb1,fb2,fb3,fb4⟩:=(I.hps pc (List.mem_of_getElem? gp)).up s1
        walk_at "v"
        refine r_l (s1 _ _ I.hq) (prefs_at gpp (by omega)) ?_
        walk_at "v"
        refine r_l (s1 _ _ I.hq) (prefs_at gp rfl) ?_
        walk_at "v"
        refine fr_eqD fa3 fb1 ?_
        exact k _ H1 s1 fun z=>.inr ⟨rfl,j,pp,rfl,gpp,of_decide_eq_true z⟩
theorem sc_law_bound_last:FnScope ["_law_pieces","_law_at","_law_way"] ["_law_pieces","_law_at","_law_way"] (defScope s_law_bound_last):=⟨rfl,rfl,rfl,by decide +kernel,rfl,by decide +kernel,by decide +kernel⟩
theorem ok_law_bound_last (F:Fun K "_law_bound_last" "_law_bound_last" s_law_bound_last f fd) (T:Txt mg):FnOk P w K mg base CX0 1 f fd ["_law_pieces","_law_at","_law_way"] spBL:=by
  refine F.ok sc_law_bound_last (fun vs H Q E h=>?_) (fun cdv A outer s H vs Q E hr h=>?_)
  · obtain ⟨hung,tied,rs,lq,pcs,i,pc,rfl,_⟩:=h
    rfl
  obtain ⟨hung,tied,rs,lq,pcs,i,pc,rfl,I,gp,k⟩:=h
  have hu64:=hr.units
  refine J.q ⟨_,(J.f (J.m (J.x (J.af (J.j (inSeq K) (J.a 2) (J.o (J.b J.z (J.b J.z J.d st_C) st_C)) rfl) (J.ah (J.j (op_eqD hu64) (J.e (ixT K) (J.e (ixL K) (J.a 0) (J.a 1) (fun _ _=>rfl)) J.c (fun _ _=>rfl)) (J.e (ixT K) (J.e (ixL K) (J.a 0) (J.a 1) (fun _ _=>rfl)) J.c (fun _ _=>rfl)) (nomark _)))))
      (J.h (J.l Jd.pe_bl))
      J.n)
      (J.h (J.l (J.am (J.ab op_eq (J.a 2) J.z (nomark _)) (J.am (J.ab op_lt (J.g op_add (J.a 1) J.c) (J.p (lenC K) rfl T.len_ PySem.boot_len (J.b (J.a 0) J.d st_N) (he:=st_N) (hpl:=any0)) (nomark _)) (J.al (J.ab (op_eqD hu64) (J.e (ixT K) (J.e (ixL K) (J.a 0) (J.a 1) (fun _ _=>rfl)) J.c (fun _ _=>rfl)) (J.e (ixT K) (J.e (ixL K) (J.a 0) (J.g op_add (J.a 1) J.c) (fun _ _=>rfl)) J.c (fun _ _=>rfl)) (nomark _)))))))),?_⟩
  walk_at "v"
  refine r_new (mk:=.tup) (by simp) fun tt H1 s1 n1 e1=>?_
  refine ⟨tt,_,rfl,.inr (SqT.of e1),rfl,rfl,?_⟩
  refine ⟨_,rfl,?_⟩
  rw [if_neg Bool.false_ne_true,inW1]
  obtain ⟨b1,b2,b3,b4,eb,fb1,fb2,fb3,fb4⟩:=(I.hps pc (List.mem_of_getElem? gp)).up s1
  cases tied with
  | true=>
    refine iteT ?_
    refine iteT ?_
    walk_at "v"
    exact k true H1 s1 fun _=>.inl rfl
  | false=>
    refine iteF ?_
    walk_at "v"
    refine r_l (s1 _ _ I.hq) (prefs_at gp rfl) ?_
    walk_at "v"
    refine r_l (s1 _ _ I.hq) (prefs_at gp rfl) ?_
    walk_at "v"
    refine fr_eqD fb1 fb3 ?_
    refine ⟨_,rfl,?_⟩
    by_cases q:pc.2.1=pc.2.2.2.1
    · rw [decide_eq_true q]
      refine iteT ?_
      walk_at "v"
      exact k true H1 s1 fun _=>.inr (.inl q)
    · rw [decide_eq_false q]
      refine iteF ?_
      walk_at "v"
      refine r_eqS (c:=hung) (by cases hung <;> decide +kernel) ?_
      refine ⟨_,rfl,?_⟩
      cases hung with
      | false=>
        refine iteF ?_
        exact k false H1 s1 fun z=>by cases z
      | true=>
        refine iteT ?_
        walk_at "v"
        refine r_len (.inl (SqL.of (s1 _ _ I.hq))) ?_
        rw [prefs_len]
        walk_at "v"
        by_cases hi:(i:Int)+1<(pcs.length:Int)
        · rw [decide_eq_true hi]
          refine iteT ?_
          obtain ⟨pn,gpn⟩:∃pn,pcs[i+1]?=some pn:=⟨_,List.getElem?_eq_getElem (by omega)⟩
          obtain ⟨a1,a2,a3,a4,ea,fa1,fa2,fa3,fa4⟩:=(I.hps pn (List.mem_of_getElem? gpn)).up s1
          walk_at "v"
          refine r_l (s1 _ _ I.hq) (prefs_at gp rfl) ?_
          walk_at "v"
          refine r_l (s1 _ _ I.hq) (prefs_at gpn (by omega)) ?_
          walk_at "v"
          refine fr_eqD fb3 fa1 ?_
          exact k _ H1 s1 fun z=>.inr (.inr ⟨rfl,pn,gpn,of_decide_eq_true z⟩)
        · rw [decide_eq_false hi]
          refine iteF ?_
          exact k false H1 s1 fun z=>by cases z
theorem sc_law_joint:FnScope ["_law_pieces","_law_at","_law_way","_law_hangs"] ["_law_pieces","_law_at","_law_way"] (defScope s_law_joint):=⟨rfl,rfl,rfl,by decide +kernel,rfl,by decide +kernel,by decide +kernel⟩
theorem ok_law_joint (F:Fun K "_law_joint" "_law_joint" s_law_joint f fd):FnOk P w K mg base CX0 1 f fd ["_law_pieces","_law_at","_law_way"] spJoint:=by
  refine F.ok sc_law_joint (fun vs H Q E h=>?_) (fun cdv A outer s H vs Q E hr h=>?_)
  · obtain ⟨hung,tied,rs,lq,pcs,i,pc,rfl,_⟩:=h
    rfl
  obtain ⟨hung,tied,rs,lq,pcs,i,pc,rfl,I,gp,k⟩:=h
  have hu64:=hr.units
  refine J.q ⟨_,(J.f (J.i (i:=3) sc_law_joint.nd rfl (Or.inl rfl) (J.am (J.ab (inSeq K) (J.a 2) (J.o (J.b J.z (J.b J.z J.d st_C) st_C)) rfl) (J.al (J.ab op_gt (J.a 1) J.c (nomark _)))))
      (J.h (J.l (J.am (J.a 3) (J.al (J.ab (op_eqD hu64) (J.e (ixT K) (J.e (ixL K) (J.a 0) (J.g op_sub (J.a 1) J.c) (fun _ _=>rfl)) J.c (fun _ _=>rfl)) (J.e (ixT K) (J.e (ixL K) (J.a 0) (J.a 1) (fun _ _=>rfl)) J.c (fun _ _=>rfl)) (nomark _))))))),?_⟩
  walk_at "v"
  refine r_new (mk:=.tup) (by simp) fun tt H1 s1 n1 e1=>?_
  refine ⟨tt,_,rfl,.inr (SqT.of e1),rfl,rfl,?_⟩
  refine ⟨_,rfl,?_⟩
  rw [if_neg Bool.false_ne_true,inW3]
  cases hung with
  | false=>
    refine iteF ?_
    walk_at "v"
    refine iteF ?_
    exact k false H1 s1 fun z=>by cases z
  | true=>
    refine iteT ?_
    walk_at "v"
    cases i with
    | zero=>
      rw [decide_eq_false (by decide)]
      refine iteF ?_
      exact k false H1 s1 fun z=>by cases z
    | succ j=>
      rw [decide_eq_true (by omega)]
      refine iteT ?_
      have hi:=(List.getElem?_eq_some_iff.mp gp).1
      obtain ⟨pp,gpp⟩:∃pp,pcs[j]?=some pp:=⟨_,List.getElem?_eq_getElem (by omega)⟩
      obtain ⟨a1,a2,a3,a4,ea,fa1,fa2,fa3,fa4⟩:=(I.hps pp (List.mem_of_getElem? gpp)).up s1
      obtain ⟨b1,b2,b3,b4,eb,fb1,fb2,fb3,fb4⟩:=(I.hps pc (List.mem_of_getElem? gp)).up s1
      walk_at "v"
      refine r_l (s1 _ _ I.hq) (prefs_at gpp (by omega)) ?_
      walk_at "v"
      refine r_l (s1 _ _ I.hq) (prefs_at gp rfl) ?_
      walk_at "v"
      refine fr_eqD fa3 fb1 ?_
      exact k _ H1 s1 fun z=>⟨rfl,j,pp,rfl,gpp,of_decide_eq_true z⟩
end

theorem r_unpack4 {σ:St} {H:Hp} {K:PySem.W.Frag} {p:Addr} {x y z u:V} {i j k l:Nat} {R:St→Hp→Prop} (h:H p=some (.tup [x,y,z,u])) (q:R ((((σ.set i (some x)).set j (some y)).set k (some z)).set l (some u)) H):gTup K 4 (gCons (gName i) (gCons (gName j) (gCons (gName k) (gCons (gName l) gNil)))) (.ref p) σ H R:=
  ⟨p,_,rfl,SqT.of h,rfl,x,_,rfl,y,_,rfl,z,_,rfl,u,_,rfl,rfl,q⟩
theorem AllP.mono {H:Hp} {ps:List Pc} {n m:Nat} (h:AllP H ps n) (hm:n≤m):AllP H ps m:=fun x hx=>(h x hx).mono hm
theorem up_ne {q:Rat} {e b:Int} (he:e=1∨e=-1) (hb:1≤b):q+(e:Rat)/(b:Rat)≠q:=fun z=>by
  have hb':=cast_ne (b:=b) (by omega)
  have h0:(e:Rat)/(b:Rat)=0:=by grind
  have h1:(e:Rat)=0:=by
    have:=congrArg (·*(b:Rat)) h0
    simp only [Rat.div_mul_cancel hb',Rat.zero_mul] at this
    exact this
  rcases he with rfl | rfl
  · exact absurd h1 (by decide)
  · exact absurd h1 (by decide)
section
variable {P:Program} {w:World} {K:PySem.W.Frag} {mg:Str→Option Value} {base:Heap} {f:Addr} {fd:FuncData}
theorem sc_law_changed:FnScope ["_law_pieces","_law_at","_law_way","_law_some","_law_start","_law_first","_law_end","_law_last","_law_third"] ["_law_pieces","_law_at","_law_way","_law_some"] (defScope s_law_changed):=⟨rfl,rfl,rfl,by decide +kernel,rfl,by decide +kernel,by decide +kernel⟩
theorem ok_law_changed (F:Fun K "_law_changed" "_law_changed" s_law_changed f fd) (D_law_added:Dn P w K mg base 2 "_law_added" ["_law_one","_law_top","_law_bottom"] spAdded) (D_law_bound_first:Dn P w K mg base 1 "_law_bound_first" ["_law_pieces","_law_at","_law_way"] spBF) (D_law_bound_last:Dn P w K mg base 1 "_law_bound_last" ["_law_pieces","_law_at","_law_way"] spBL):FnOk P w K mg base CX0 3 f fd ["_law_pieces","_law_at","_law_way","_law_some"] spChanged:=by
  refine F.ok sc_law_changed (fun vs H Q E h=>?_) (fun cdv A outer s H vs Q E hr h=>?_)
  · obtain ⟨hung,tied,rs,lq,lw,pcs,i,pc,k0,k1,k2,k3,k4,k5,rfl,_⟩:=h
    rfl
  obtain ⟨hung,tied,rs,lq,lw,pcs,i,pc,k0,k1,k2,k3,k4,k5,rfl,I,gp,S,k⟩:=h
  have hu64:=hr.units
  have hF:=I.fl
  rw [split_at gp] at hF
  have hri:=I.ris
  have b2:=S.b2
  have ht:2*k2-1=1∨2*k2-1=-1:=by omega
  obtain ⟨a1,a2,a3,a4,ea,f1,f2,f3,f4⟩:=I.hps pc (List.mem_of_getElem? gp)
  refine J.q ⟨_,(J.f (Jd.ps_asg (J.e (ixL K) (J.a 0) (J.a 1) (fun _ _=>rfl)) (Jd.pgT K (n:=4) rfl (J.aj (J.u (i:=4) sc_law_changed.nd rfl (Or.inl rfl)) (J.aj (J.u (i:=5) sc_law_changed.nd rfl (Or.inl rfl)) (J.aj (J.u (i:=6) sc_law_changed.nd rfl (Or.inl rfl)) (J.aj (J.u (i:=7) sc_law_changed.nd rfl (Or.inl rfl)) Jd.pgs_nil))))))
      (J.f (J.i (i:=8) sc_law_changed.nd rfl (Or.inl rfl) (J.g op_sub (J.g op_mulB J.c (J.e (ixL K) (J.a 3) J.c (fun _ _=>rfl))) J.c) (hs:=sw_B))
      (J.f (J.m (J.j op_eq (J.e (ixL K) (J.a 3) J.c (fun _ _=>rfl)) J.c (nomark _))
      (J.h (J.l (J.o (J.b (J.a 4) (J.b (J.a 5) (J.b (J.k D_law_added (hr.mono (by decide)) rfl (J.b (J.a 6) (J.b (J.a 8) (J.b J.c J.d st_C) st_N) st_N) (he:=st_N) (hpl:=(anyc st_N (anyc st_C any0)))) (J.b (J.a 7) J.d st_N) st_K) st_N) st_N))))
      J.n)
      (J.f (J.m (J.j op_eq (J.e (ixL K) (J.a 3) J.c (fun _ _=>rfl)) J.c (nomark _))
      (J.h (J.l (J.o (J.b (J.a 4) (J.b (J.a 5) (J.b (J.a 4) (J.b (J.k D_law_added (hr.mono (by decide)) rfl (J.b (J.a 5) (J.b (J.a 8) (J.b J.c J.d st_C) st_N) st_N) (he:=st_N) (hpl:=(anyc st_N (anyc st_C any0)))) J.d st_K) st_N) st_N) st_N))))
      J.n)
      (J.f (J.m (J.x (J.ad (J.j op_eq (J.e (ixL K) (J.a 3) J.c (fun _ _=>rfl)) J.c (nomark _)) (J.ai (J.j (op_neD hu64) (J.a 4) (J.a 6) (nomark _)))))
      (J.h (J.l (J.o (J.b (J.a 6) (J.b (J.a 7) (J.b (J.a 4) (J.b (J.a 5) J.d st_N) st_N) st_N) st_N))))
      J.n)
      (J.f (J.m (J.x (J.ad (J.j op_eq (J.e (ixL K) (J.a 3) J.c (fun _ _=>rfl)) J.c (nomark _)) (J.ai (J.ak (J.k D_law_bound_first (hr.mono (by decide)) rfl (J.b (J.a 0) (J.b (J.a 1) (J.b (J.a 2) J.d st_N) st_N) st_N) (he:=st_N) (hpl:=(anyc st_N (anyc st_N any0))))))))
      (J.h (J.l (J.o (J.b (J.a 4) (J.b (J.k D_law_added (hr.mono (by decide)) rfl (J.b (J.a 5) (J.b (J.a 8) (J.b (J.g op_pow J.c J.c) J.d st_B) st_N) st_N) (he:=st_N) (hpl:=(anyc st_N (anyc st_B any0)))) (J.b (J.a 6) (J.b (J.a 7) J.d st_N) st_N) st_K) st_N))))
      J.n)
      (J.f (J.m (J.x (J.ad (J.j op_eq (J.e (ixL K) (J.a 3) J.c (fun _ _=>rfl)) J.c (nomark _)) (J.ai (J.ak (J.k D_law_bound_last (hr.mono (by decide)) rfl (J.b (J.a 0) (J.b (J.a 1) (J.b (J.a 2) J.d st_N) st_N) st_N) (he:=st_N) (hpl:=(anyc st_N (anyc st_N any0))))))))
      (J.h (J.l (J.o (J.b (J.a 4) (J.b (J.a 5) (J.b (J.a 6) (J.b (J.k D_law_added (hr.mono (by decide)) rfl (J.b (J.a 7) (J.b (J.a 8) (J.b (J.g op_pow J.c J.c) J.d st_B) st_N) st_N) (he:=st_N) (hpl:=(anyc st_N (anyc st_B any0)))) J.d st_K) st_N) st_N) st_N))))
      J.n)
      (J.h (J.l (J.o (J.b (J.k D_law_added (hr.mono (by decide)) rfl (J.b (J.a 4) (J.b (J.a 8) (J.b J.c J.d st_C) st_N) st_N) (he:=st_N) (hpl:=(anyc st_N (anyc st_C any0)))) (J.b (J.a 5) (J.b (J.a 6) (J.b (J.a 7) J.d st_N) st_N) st_N) st_K))))))))))),?_⟩
  walk_at "v"
  refine r_asg ?_
  walk_at "v"
  refine r_l I.hq (prefs_at gp rfl) ?_
  refine r_unpack4 ea ?_
  walk_at "v"
  refine r_l S.at_ (atI_nat (j:=2) rfl) ?_
  walk_at "v"
  refine r_l S.at_ (atI_nat (j:=0) rfl) ?_
  walk_at "v"
  by_cases c4:k0=4
  · rw [decide_eq_true c4]
    refine iteT ?_
    walk_at "v"
    refine ⟨a3,_,_,3,rfl,f3,ht,by decide,by decide,fun r H1 s1 g1=>?_⟩
    walk_at "v"
    refine r_new (mk:=.tup) (by simp) fun z H2 s2 n2 e2=>?_
    have s02:=s1.trans s2
    exact k (z,pc.2.1,pc.2.2.1,pc.2.2.2.1+((2*k2-1:Int):Rat)/((3:Int):Rat),pc.2.2.2.2) H2 s02 ⟨a1,a2,r,a4,e2,(f1.up s02).mono2,(f2.up s02).mono2,g1.up s2,(f4.up s02).mono2⟩ fun G=>bad_ends hF G ht rfl
  rw [decide_eq_false c4]
  refine iteF ?_
  walk_at "v"
  refine r_l S.at_ (atI_nat (j:=0) rfl) ?_
  walk_at "v"
  by_cases c5:k0=5
  · rw [decide_eq_true c5]
    refine iteT ?_
    walk_at "v"
    refine ⟨a2,_,_,1,rfl,f2,ht,by decide,by decide,fun r H1 s1 g1=>?_⟩
    walk_at "v"
    refine r_new (mk:=.tup) (by simp) fun z H2 s2 n2 e2=>?_
    have s02:=s1.trans s2
    exact k (z,pc.2.1,pc.2.2.1,pc.2.1,pc.2.2.1+((2*k2-1:Int):Rat)/((1:Int):Rat)) H2 s02 ⟨a1,a2,a1,r,e2,(f1.up s02).mono2,(f2.up s02).mono2,(f1.up s02).mono2,g1.up s2⟩ fun G=>bad_one G rfl fun z=>up_ne (b:=1) ht (by decide) z.symm
  rw [decide_eq_false c5]
  refine iteF ?_
  with_reducible refine r_next ?_
  with_reducible refine r_seq ?_
  refine (if_by (fun r H1=>Same H H1∧(r=true→pc.2.1≠pc.2.2.2.1)) (fun B hB=>?_) (fun H1 ⟨s1,hn⟩=>?_) (fun H1 ⟨s1,_⟩=>?_))
  · walk_at "v"
    refine r_l S.at_ (atI_nat (j:=0) rfl) ?_
    walk_at "v"
    by_cases c6:k0=6
    · rw [decide_eq_true c6]
      refine iteT ?_
      walk_at "v"
      refine fr_neD f1 f3 ?_
      refine ⟨_,rfl,hB _ _ ⟨Same.refl _,fun z=>?_⟩⟩
      exact of_decide_eq_false (by simpa using z)
    · rw [decide_eq_false c6]
      refine iteF ?_
      exact hB _ _ ⟨Same.refl _,fun z=>by cases z⟩
  · walk_at "v"
    refine r_new (mk:=.tup) (by simp) fun z H2 s2 n2 e2=>?_
    have s02:=s1.trans s2
    have hle:=(hF.run pc.2 hF.at_).1
    exact k (z,pc.2.2.2.1,pc.2.2.2.2,pc.2.1,pc.2.2.1) H2 s02 ⟨a3,a4,a1,a2,e2,(f3.up s02).mono2,(f4.up s02).mono2,(f1.up s02).mono2,(f2.up s02).mono2⟩ fun G=>bad_turned G (Rat.lt_of_le_of_ne hle (hn rfl))
  have S1:=S.up s1
  have I1:=I.up s1
  with_reducible refine r_next ?_
  with_reducible refine r_seq ?_
  refine (if_by (fun r H2=>Same H H2∧(r=true→tied=true∨(hung=true∧∃(j:Nat) (pp:Pc),i=j+1∧pcs[j]?=some pp∧pp.2.2.2.1=pc.2.1))) (fun B hB=>?_) (fun H2 ⟨s2,hn⟩=>?_) (fun H2 ⟨s2,_⟩=>?_))
  · walk_at "v"
    refine r_l S1.at_ (atI_nat (j:=0) rfl) ?_
    walk_at "v"
    by_cases c7:k0=7
    · rw [decide_eq_true c7]
      refine iteT ?_
      walk_at "v"
      refine ⟨hung,tied,rs,lq,pcs,i,pc,rfl,I1,gp,fun r H2 s2 hr2=>?_⟩
      exact ⟨_,rfl,hB _ _ ⟨s1.trans s2,hr2⟩⟩
    · rw [decide_eq_false c7]
      refine iteF ?_
      exact hB _ _ ⟨s1,fun z=>by cases z⟩
  · walk_at "v"
    refine ⟨a2,_,_,_,rfl,f2.up s2,ht,by decide,by decide,fun r H3 s3 g3=>?_⟩
    walk_at "v"
    refine r_new (mk:=.tup) (by simp) fun z H4 s4 n4 e4=>?_
    have s04:=s2.trans (s3.trans s4)
    refine k (z,pc.2.1,pc.2.2.1+((2*k2-1:Int):Rat)/(((10:Int) ^ (9:Int).toNat:Int):Rat),pc.2.2.2.1,pc.2.2.2.2) H4 s04 ⟨a1,r,a3,a4,e4,(f1.up s04).mono2,g3.up s4,(f3.up s04).mono2,(f4.up s04).mono2⟩ fun G=>?_
    rcases hn rfl with hn | ⟨hh,j,pp,rfl,gpp,he⟩
    · exact bad_tie1 hri hn hF G rfl (up_ne ht (by decide))
    · rw [take_prev gpp,List.append_assoc,List.singleton_append] at hF G
      exact bad_joint1 hri hh hF G he rfl (up_ne ht (by decide))
  have S2:=S.up s2
  have I2:=I.up s2
  with_reducible refine r_next ?_
  with_reducible refine r_seq ?_
  refine (if_by (fun r H3=>Same H H3∧(r=true→tied=true∨pc.2.1=pc.2.2.2.1∨(hung=true∧∃pn:Pc,pcs[i+1]?=some pn∧pc.2.2.2.1=pn.2.1))) (fun B hB=>?_) (fun H3 ⟨s3,hn⟩=>?_) (fun H3 ⟨s3,_⟩=>?_))
  · walk_at "v"
    refine r_l S2.at_ (atI_nat (j:=0) rfl) ?_
    walk_at "v"
    by_cases c8:k0=8
    · rw [decide_eq_true c8]
      refine iteT ?_
      walk_at "v"
      refine ⟨hung,tied,rs,lq,pcs,i,pc,rfl,I2,gp,fun r H3 s3 hr3=>?_⟩
      exact ⟨_,rfl,hB _ _ ⟨s2.trans s3,hr3⟩⟩
    · rw [decide_eq_false c8]
      refine iteF ?_
      exact hB _ _ ⟨s2,fun z=>by cases z⟩
  · walk_at "v"
    refine ⟨a4,_,_,_,rfl,f4.up s3,ht,by decide,by decide,fun r H4 s4 g4=>?_⟩
    walk_at "v"
    refine r_new (mk:=.tup) (by simp) fun z H5 s5 n5 e5=>?_
    have s05:=s3.trans (s4.trans s5)
    refine k (z,pc.2.1,pc.2.2.1,pc.2.2.2.1,pc.2.2.2.2+((2*k2-1:Int):Rat)/(((10:Int) ^ (9:Int).toNat:Int):Rat)) H5 s05 ⟨a1,a2,a3,r,e5,(f1.up s05).mono2,(f2.up s05).mono2,(f3.up s05).mono2,g4.up s5⟩ fun G=>?_
    rcases hn rfl with hn | he | ⟨hh,pn,gpn,he⟩
    · exact bad_tie2 hri hn hF G rfl (up_ne ht (by decide))
    · have o:=hF.one pc.2 hF.at_ he
      refine bad_one G he fun z=>up_ne (q:=pc.2.2.2.2) (b:=(10:Int) ^ (9:Int).toNat) ht (by decide) ?_
      exact z.symm.trans o
    · rw [drop_next gpn] at hF G
      exact bad_joint2 hri hh hF G he rfl (up_ne ht (by decide))
  walk_at "v"
  refine ⟨a1,_,_,3,rfl,f1.up s3,ht,by decide,by decide,fun r H4 s4 g4=>?_⟩
  walk_at "v"
  refine r_new (mk:=.tup) (by simp) fun z H5 s5 n5 e5=>?_
  have s05:=s3.trans (s4.trans s5)
  exact k (z,pc.2.1+((2*k2-1:Int):Rat)/((3:Int):Rat),pc.2.2.1,pc.2.2.2.1,pc.2.2.2.2) H5 s05 ⟨r,a2,a3,a4,e5,g4.up s5,(f2.up s05).mono2,(f3.up s05).mono2,(f4.up s05).mono2⟩ fun G=>bad_starts hF G ht rfl
end

noncomputable def SpOut (H:Hp) (hung tied:Bool) (rs:List (List Pt)) (Q:VK):Prop:=∀(R:Addr) (qcs:List Pc) (H':Hp),Same H H'→H' R=some (.lst (prefs qcs))→AllP H' qcs 200→qcs.length≤30→(Flat hung tied rs (qcs.map (·.2))→False)→Q (.ref R) H'
theorem sl_lo {K:PySem.W.Frag} {H:Hp} {Q:VK} {l:Addr} {ps:List Pc} (n:Nat) {z:Int} (h:H l=some (.lst (prefs ps))) (hz:z=(n:Int)) (k:∀(p:Addr) (H':Hp),Same H H'→H' p=some (.lst (prefs (ps.take n)))→Q (.ref p) H'):rSlL K (.ref l) none (some z) H Q:=by
  subst hz
  refine r_slL h fun p H' s _ e=>k p H' s ?_
  rw [cutl,prefs_take] at e
  exact e
theorem sl_hi {K:PySem.W.Frag} {H:Hp} {Q:VK} {l:Addr} {ps:List Pc} (n:Nat) {z:Int} (h:H l=some (.lst (prefs ps))) (hz:z=(n:Int)) (k:∀(p:Addr) (H':Hp),Same H H'→H' p=some (.lst (prefs (ps.drop n)))→Q (.ref p) H'):rSlL K (.ref l) (some z) none H Q:=by
  subst hz
  refine r_slL h fun p H' s _ e=>k p H' s ?_
  rw [cutk,prefs_drop] at e
  exact e
theorem cat_p {H:Hp} {Q:VK} {l r:Addr} {A B:List Pc} (h1:H l=some (.lst (prefs A))) (h2:H r=some (.lst (prefs B))) (hl:A.length+B.length≤60) (k:∀(R:Addr) (H':Hp),Same H H'→H' R=some (.lst (prefs (A++B)))→Q (.ref R) H'):rCat (.ref l) (.ref r) H Q:=by
  refine r_cat h1 h2 (r_new (by rw [List.length_append,prefs_len,prefs_len];omega) fun R H' s _ e=>k R H' s ?_)
  rw [prefs_app] at e
  exact e
theorem sl_2 {K:PySem.W.Frag} {H:Hp} {Q:VK} {p:Addr} {a b c d:V} (h:H p=some (.tup [a,b,c,d])) (k:∀(r:Addr) (H':Hp),Same H H'→H' r=some (.tup [a,b])→Q (.ref r) H'):rSlT K (.ref p) none (some 2) H Q:=
  r_slT h (fun z=>absurd z.2 (show ¬(2=4) by decide)) fun r H' s _ e=>k r H' s e
theorem sl_3 {K:PySem.W.Frag} {H:Hp} {Q:VK} {p:Addr} {a b c d:V} (h:H p=some (.tup [a,b,c,d])) (k:∀(r:Addr) (H':Hp),Same H H'→H' r=some (.tup [c,d])→Q (.ref r) H'):rSlT K (.ref p) (some 2) none H Q:=
  r_slT h (fun z=>absurd z.1 (show ¬(2=0) by decide)) fun r H' s _ e=>k r H' s e
theorem cat_22 {K:PySem.W.Frag} {H:Hp} {Q:VK} {p r:Addr} {a b c d:V} (h1:H p=some (.tup [a,b])) (h2:H r=some (.tup [c,d])) (k:∀(t:Addr) (H':Hp),Same H H'→H' t=some (.tup [a,b,c,d])→Q (.ref t) H'):rCatT K (.ref p) (.ref r) H Q:=
  r_catT h1 h2 (r_new (by simp) fun t H' s _ e=>k t H' s e)
theorem AllP.take {H:Hp} {ps:List Pc} {n:Nat} (h:AllP H ps n) (i:Nat):AllP H (ps.take i) n:=fun x hx=>h x (List.mem_of_mem_take hx)
theorem AllP.drop {H:Hp} {ps:List Pc} {n:Nat} (h:AllP H ps n) (i:Nat):AllP H (ps.drop i) n:=fun x hx=>h x (List.mem_of_mem_drop hx)
theorem SpOut.put {H H':Hp} {hung tied:Bool} {rs:List (List Pt)} {Q:VK} {pcs:List Pc} {lq R:Addr} (k:SpOut H hung tied rs Q) (I:SpIn H hung tied rs lq pcs) (s:Same H H') {i j:Nat} {xs:List Pc} (e:H' R=some (.lst (prefs (pcs.take i++xs++pcs.drop j)))) (hx:AllP H' xs 200) (hl:xs.length≤2) (hij:i≤j+2)
    (hG:Flat hung tied rs ((pcs.take i).map (·.2)++(xs.map (·.2)++(pcs.drop j).map (·.2)))→False):Q (.ref R) H':=by
  have h24:=I.h24
  have ha:=(I.hps.up s).mono (show 160≤200 by decide)
  refine k R _ H' s e (((ha.take i).append hx).append (ha.drop j)) ?_ fun G=>hG ?_
  · rw [List.length_append,List.length_append,List.length_take,List.length_drop]
    omega
  · rw [List.map_append,List.map_append,List.append_assoc] at G
    exact G
theorem nx_by {c:TS} {N:L2.St→Hp→Prop} {rt:VK} {bk ct:L2.St→Hp→Prop} {σ:L2.St} {H:Hp} (R:L2.St→Hp→Prop) (hR:∀σ H,R σ H→N σ H) (h:∀M:L2.St→Hp→Prop,(∀σ H,R σ H→M σ H)→c (Ends.mk M rt bk ct) σ H):c (Ends.mk N rt bk ct) σ H:=h N hR
noncomputable def spBehind:Sp:=fun vs H Q _=>∃(hung tied:Bool) (rs:List (List Pt)) (lq:Addr) (pcs:List Pc),vs=[.ref lq]∧SpIn H hung tied rs lq pcs∧SpOut H hung tied rs Q
noncomputable def spMovedT:Sp:=fun vs H Q _=>∃(rs:List (List Pt)) (lq lw:Addr) (pcs:List Pc) (j:Nat) (pp pc:Pc) (k0 k1 k2 k3 k4 k5:Int),vs=[.ref lq,.int ((j+1:Nat):Int),.ref lw]∧SpIn H true true rs lq pcs∧pcs[j]?=some pp∧pcs[j+1]?=some pc∧Sm H lw k0 k1 k2 k3 k4 k5∧SpOut H true true rs Q
noncomputable def spOdd:Sp:=fun vs H Q _=>∃(hung tied:Bool) (rs:List (List Pt)) (lq lw:Addr) (pcs:List Pc) (i:Nat) (pc:Pc) (k0 k1 k2 k3 k4 k5:Int),vs=[.ref lq,.int (i:Int),.str (wayS hung tied),.ref lw]∧SpIn H hung tied rs lq pcs∧pcs[i]?=some pc∧Sm H lw k0 k1 k2 k3 k4 k5∧SpOut H hung tied rs Q
section
variable {P:Program} {w:World} {K:PySem.W.Frag} {mg:Str→Option Value} {base:Heap} {f:Addr} {fd:FuncData}
theorem sc_law_behind:FnScope ["_law_pieces","_law_end"] ["_law_pieces"] (defScope s_law_behind):=⟨rfl,rfl,rfl,by decide +kernel,rfl,by decide +kernel,by decide +kernel⟩
theorem ok_law_behind (F:Fun K "_law_behind" "_law_behind" s_law_behind f fd) (T:Txt mg) (D_law_added:Dn P w K mg base 2 "_law_added" ["_law_one","_law_top","_law_bottom"] spAdded):FnOk P w K mg base CX0 3 f fd ["_law_pieces"] spBehind:=by
  refine F.ok sc_law_behind (fun vs H Q E h=>?_) (fun cdv A outer s H vs Q E hr h=>?_)
  · obtain ⟨hung,tied,rs,lq,pcs,rfl,_⟩:=h
    rfl
  obtain ⟨hung,tied,rs,lq,pcs,rfl,I,k⟩:=h
  have h24:=I.h24
  have fin:∀(m:Rat) (pe q1 q2 x R:Addr) (H':Hp),Same H H'→FrAt H' pe m 200→H' q1=some (.tup [.int 0,.int 1])→H' q2=some (.tup [.int 0,.int 1])→H' x=some (.tup [.ref pe,.ref q1,.ref pe,.ref q2])→H' R=some (.lst (prefs pcs++[.ref x]))→(∀p,(pcs.map (·.2))[(pcs.map (·.2)).length-1]?=some p→m=p.2.2.1+1)→Q (.ref R) H':=fun m pe q1 q2 x R H' s fe e1 e2 ex eR hm=>by
    have z1:FrAt H' q1 ((0:Int):Rat) 200:=fr_mo e1 (by decide) (by decide)
    have z2:FrAt H' q2 ((0:Int):Rat) 200:=fr_mo e2 (by decide) (by decide)
    refine k R (pcs++[(x,m,((0:Int):Rat),m,((0:Int):Rat))]) H' s (by rw [← prefs_app];exact eR) (((I.hps.up s).mono (by decide)).append fun y hy=>?_) (by rw [List.length_append];simp;omega) fun G=>?_
    · obtain rfl:=List.mem_singleton.mp hy
      exact ⟨pe,q1,pe,q2,ex,fe,z1,fe,z2⟩
    · rw [List.map_append] at G
      exact bad_end I.fl hm G
  refine J.q ⟨_,(J.f (J.i (i:=1) sc_law_behind.nd rfl (Or.inl rfl) (J.o (J.b J.c (J.b J.c J.d st_C) st_C)) (hs:=sw_T))
      (J.f (J.m (J.j op_gt (J.p (lenC K) rfl T.len_ PySem.boot_len (J.b (J.a 0) J.d st_N) (he:=st_N) (hpl:=any0)) J.c (nomark _))
      (J.h (J.i (i:=1) sc_law_behind.nd rfl (Or.inl rfl) (J.k D_law_added (hr.mono (by decide)) rfl (J.b (J.e (ixT K) (J.e (ixL K) (J.a 0) (J.ag un_neg J.c) (fun _ _=>rfl)) J.c (fun _ _=>rfl)) (J.b J.c (J.b J.c J.d st_C) st_C) st_S) (he:=st_S) (hpl:=(anyc st_C (anyc st_C any0)))) (hs:=sw_K)))
      J.n)
      (J.h (J.l (J.g op_cat (J.a 0) (J.s (J.b (J.o (J.b (J.a 1) (J.b (J.o (J.b J.c (J.b J.c J.d st_C) st_C)) (J.b (J.a 1) (J.b (J.o (J.b J.c (J.b J.c J.d st_C) st_C)) J.d st_T) st_N) st_T) st_N)) J.d st_T))))))),?_⟩
  walk_at "v"
  refine r_new (mk:=.tup) (by simp) fun p0 H1 s1 n1 e1=>?_
  have f0:FrAt H1 p0 0 200:=fr_mo e1 (by decide) (by decide)
  walk_at "v"
  refine r_len (.inl (SqL.of (s1 _ _ I.hq))) ?_
  rw [prefs_len]
  walk_at "v"
  rcases List.eq_nil_or_concat pcs with rfl | ⟨ps,pl,hpl⟩
  · refine iteF ?_
    walk_at "v"
    refine r_new (mk:=.tup) (by simp) fun q1 H2 s2 n2 e2=>?_
    walk_at "v"
    refine r_new (mk:=.tup) (by simp) fun q2 H3 s3 n3 e3=>?_
    walk_at "v"
    refine r_new (mk:=.tup) (by simp) fun x H4 s4 n4 e4=>?_
    walk_at "v"
    refine r_new (mk:=.lst) (by simp) fun l1 H5 s5 n5 e5=>?_
    have s15:=s2.trans (s3.trans (s4.trans s5))
    refine r_cat ((s1.trans s15) _ _ I.hq) e5 (r_new (by rw [List.length_append,prefs_len];simp) fun R H6 s6 _ e6=>?_)
    have s16:=s15.trans s6
    exact fin 0 p0 q1 q2 x R H6 (s1.trans s16) (f0.up s16) ((s3.trans (s4.trans (s5.trans s6))) _ _ e2) ((s4.trans (s5.trans s6)) _ _ e3) ((s5.trans s6) _ _ e4) e6 fun p hp=>by simp at hp
  · rw [List.concat_eq_append] at hpl
    have hlen:pcs.length=ps.length+1:=by rw [hpl,List.length_append];rfl
    rw [decide_eq_true (by omega)]
    refine iteT ?_
    have hat:atI (prefs pcs) (-1)=some (.ref pl.1):=by
      rw [hpl,← prefs_app]
      exact atI_last _ _
    obtain ⟨a1,a2,a3,a4,ea,g1,g2,g3,g4⟩:=(I.hps pl (by rw [hpl];simp)).up s1
    walk_at "v"
    refine r_l (s1 _ _ I.hq) hat ?_
    walk_at "v"
    refine ⟨a3,_,1,1,rfl,g3,.inl rfl,by decide,by decide,fun pe H2 s2 g2=>?_⟩
    walk_at "v"
    refine r_new (mk:=.tup) (by simp) fun q1 H3 s3 n3 e3=>?_
    walk_at "v"
    refine r_new (mk:=.tup) (by simp) fun q2 H4 s4 n4 e4=>?_
    walk_at "v"
    refine r_new (mk:=.tup) (by simp) fun x H5 s5 n5 e5=>?_
    walk_at "v"
    refine r_new (mk:=.lst) (by simp) fun l1 H6 s6 n6 e6=>?_
    have s26:=s3.trans (s4.trans (s5.trans s6))
    refine r_cat ((s1.trans (s2.trans s26)) _ _ I.hq) e6 (r_new (by rw [List.length_append,prefs_len];simp;omega) fun R H7 s7 _ e7=>?_)
    have s27:=s26.trans s7
    refine fin _ pe q1 q2 x R H7 (s1.trans (s2.trans s27)) (g2.up s27) ((s4.trans (s5.trans (s6.trans s7))) _ _ e3) ((s5.trans (s6.trans s7)) _ _ e4) ((s6.trans s7) _ _ e5) e7 fun p hp=>?_
    rw [hpl,List.map_append] at hp
    simp at hp
    rw [← hp]
    exact congrArg (pl.2.2.2.1+·) (by grind)
theorem sc_law_moved_turn:FnScope ["_law_pieces","_law_at","_law_some","_law_when","_law_high","_law_third","_law_ahead","_law_one"] ["_law_pieces","_law_at","_law_some"] (defScope s_law_moved_turn):=⟨rfl,rfl,rfl,by decide +kernel,rfl,by decide +kernel,by decide +kernel⟩
theorem ok_law_moved_turn (F:Fun K "_law_moved_turn" "_law_moved_turn" s_law_moved_turn f fd) (D_law_added:Dn P w K mg base 2 "_law_added" ["_law_one","_law_top","_law_bottom"] spAdded):FnOk P w K mg base CX0 3 f fd ["_law_pieces","_law_at","_law_some"] spMovedT:=by
  refine F.ok sc_law_moved_turn (fun vs H Q E h=>?_) (fun cdv A outer s H vs Q E hr h=>?_)
  · obtain ⟨rs,lq,lw,pcs,j,pp,pc,k0,k1,k2,k3,k4,k5,rfl,_⟩:=h
    rfl
  obtain ⟨rs,lq,lw,pcs,j,pp,pc,k0,k1,k2,k3,k4,k5,rfl,I,gpp,gp,S,k⟩:=h
  have h24:=I.h24
  have b2:=S.b2
  have b5:=S.b5
  have ht:2*k2-1=1∨2*k2-1=-1:=by omega
  obtain ⟨a1,a2,a3,a4,ea,f1,f2,f3,f4⟩:=I.hps pc (List.mem_of_getElem? gp)
  obtain ⟨c1,c2,c3,c4,ec,g1,g2,g3,g4⟩:=I.hps pp (List.mem_of_getElem? gpp)
  refine J.q ⟨_,(J.f (Jd.ps_asg (J.t (slT K) (J.e (ixL K) (J.a 0) (J.a 1) (fun _ _=>rfl)) J.v (J.r J.c)) (Jd.pgT K (n:=2) rfl (J.aj (J.u (i:=3) sc_law_moved_turn.nd rfl (Or.inl rfl)) (J.aj (J.u (i:=4) sc_law_moved_turn.nd rfl (Or.inl rfl)) Jd.pgs_nil))))
      (J.f (J.i (i:=5) sc_law_moved_turn.nd rfl (Or.inl rfl) (J.g op_sub (J.g op_mulB J.c (J.e (ixL K) (J.a 2) J.c (fun _ _=>rfl))) J.c) (hs:=sw_B))
      (J.f (J.m (J.j op_eq (J.e (ixL K) (J.a 2) J.c (fun _ _=>rfl)) J.c (nomark _))
      (J.h (J.i (i:=3) sc_law_moved_turn.nd rfl (Or.inl rfl) (J.k D_law_added (hr.mono (by decide)) rfl (J.b (J.a 3) (J.b (J.a 5) (J.b J.c J.d st_C) st_N) st_N) (he:=st_N) (hpl:=(anyc st_N (anyc st_C any0)))) (hs:=sw_K)))
      (J.h (J.i (i:=4) sc_law_moved_turn.nd rfl (Or.inl rfl) (J.k D_law_added (hr.mono (by decide)) rfl (J.b (J.a 4) (J.b (J.a 5) (J.b (J.e (ixL K) (J.s (J.b J.c (J.b J.c (J.b (J.g op_pow J.c J.c) J.d st_B) st_C) st_C)) (J.e (ixL K) (J.a 2) J.c (fun _ _=>rfl)) (fun _ _=>rfl)) J.d st_S) st_N) st_N) (he:=st_N) (hpl:=(anyc st_N (anyc st_S any0)))) (hs:=sw_K))))
      (J.f (J.i (i:=6) sc_law_moved_turn.nd rfl (Or.inl rfl) (J.g (catT K) (J.t (slT K) (J.e (ixL K) (J.a 0) (J.g op_sub (J.a 1) J.c) (fun _ _=>rfl)) J.v (J.r J.c)) (J.o (J.b (J.a 3) (J.b (J.a 4) J.d st_N) st_N))) (hs:=sw_B))
      (J.f (J.i (i:=7) sc_law_moved_turn.nd rfl (Or.inl rfl) (J.g (catT K) (J.o (J.b (J.a 3) (J.b (J.a 4) J.d st_N) st_N)) (J.t (slT K) (J.e (ixL K) (J.a 0) (J.a 1) (fun _ _=>rfl)) (J.r J.c) J.v)) (hs:=sw_B))
      (J.h (J.l (J.g op_cat (J.g op_cat (J.t (slL K) (J.a 0) J.v (J.r (J.g op_sub (J.a 1) J.c))) (J.s (J.b (J.a 6) (J.b (J.a 7) J.d st_N) st_N))) (J.t (slL K) (J.a 0) (J.r (J.g op_add (J.a 1) J.c)) J.v))))))))),?_⟩
  walk_at "vd"
  refine r_asg ?_
  walk_at "vd"
  refine r_l I.hq (prefs_at gp rfl) ?_
  walk_at "vd"
  refine sl_2 ea fun h2 H1 s1 e1=>?_
  refine r_unpack2 e1 ?_
  walk_at "vd"
  refine r_l (s1 _ _ S.at_) (atI_nat (j:=2) rfl) ?_
  refine r_I (mulL (by decide) (by decide)) ?_
  refine r_c ?_
  refine r_I0 ?_
  with_reducible refine r_seq ?_
  refine nx_by (fun σ' H'=>∃(wn hg:Addr) (qw qh:Rat),σ'=[some (.ref lq),some (.int ((j+1:Nat):Int)),some (.ref lw),some (.ref wn),some (.ref hg),some (.int (2*k2-1)),none,none]∧Same H H'∧FrAt H' wn qw 200∧FrAt H' hg qh 200∧((∃e:Int,(e=1∨e=-1)∧qw=pc.2.1+(e:Rat)/3)∨(qw=pc.2.1∧qh≠pc.2.2.1))) (fun σ' H2 hh=>?_) (fun M hM=>?_)
  · obtain ⟨wn,hg,qw,qh,rfl,s2,fw,fh,hor⟩:=hh
    walk_at "vd"
    refine r_l (s2 _ _ I.hq) (prefs_at gpp (by omega)) ?_
    walk_at "vd"
    refine sl_2 (s2 _ _ ec) fun t1 H3 s3 e3=>?_
    walk_at "vd"
    refine r_new (mk:=.tup) (by simp) fun t2 H4 s4 n4 e4=>?_
    refine cat_22 (s4 _ _ e3) e4 fun x1 H5 s5 e5=>?_
    walk_at "vd"
    refine r_new (mk:=.tup) (by simp) fun t3 H6 s6 n6 e6=>?_
    have s26:=s3.trans (s4.trans (s5.trans s6))
    have s06:=s2.trans s26
    walk_at "vd"
    refine r_l (s06 _ _ I.hq) (prefs_at gp rfl) ?_
    walk_at "vd"
    refine sl_3 (s06 _ _ ea) fun t4 H7 s7 e7=>?_
    refine cat_22 (s7 _ _ e6) e7 fun x2 H8 s8 e8=>?_
    have s08:=s06.trans (s7.trans s8)
    walk_at "vd"
    refine sl_lo j (s08 _ _ I.hq) (by omega) fun l1 H9 s9 e9=>?_
    walk_at "vd"
    refine r_new (mk:=.lst) (by simp) fun l2 HA sA nA eA=>?_
    refine cat_p (B:=[(x1,pp.2.1,pp.2.2.1,qw,qh),(x2,qw,qh,pc.2.2.2.1,pc.2.2.2.2)]) (sA _ _ e9) eA (by rw [List.length_take];simp;omega) fun l3 HB sB eB=>?_
    have s8B:=s9.trans (sA.trans sB)
    walk_at "vd"
    refine sl_hi (j+2) ((s08.trans s8B) _ _ I.hq) (by omega) fun l4 HC sC eC=>?_
    refine cat_p (sC _ _ eB) eC (by rw [List.length_append,List.length_take,List.length_drop];simp;omega) fun R HD sD eD=>?_
    have s8D:=s8B.trans (sC.trans sD)
    have s0D:=s08.trans s8D
    have s2D:=s26.trans (s7.trans (s8.trans s8D))
    refine k.put I s0D eD (fun y hy=>?_) (by simp) (by omega) fun G=>?_
    · rcases List.mem_cons.mp hy with rfl | hy
      · exact ⟨c1,c2,wn,hg,(s6.trans (s7.trans (s8.trans s8D))) _ _ e5,(g1.up s0D).mono2,(g2.up s0D).mono2,fw.up s2D,fh.up s2D⟩
      · obtain rfl:=List.mem_singleton.mp hy
        exact ⟨wn,hg,a3,a4,s8D _ _ e8,fw.up s2D,fh.up s2D,(f3.up s0D).mono2,(f4.up s0D).mono2⟩
    · have hF:=I.fl
      rw [split_at gp,take_prev gpp,List.append_assoc,List.singleton_append] at hF
      exact bad_moved I.ris rfl hF G hor
  · walk_at "v"
    refine r_l (s1 _ _ S.at_) (atI_nat (j:=5) rfl) ?_
    walk_at "v"
    by_cases c5:k5=0
    · rw [decide_eq_true c5]
      refine iteT ?_
      walk_at "v"
      refine ⟨a1,_,_,3,rfl,f1.up s1,ht,by decide,by decide,fun r H2 s2 g2=>?_⟩
      exact hM _ _ ⟨r,a2,_,_,rfl,s1.trans s2,g2,(f2.up (s1.trans s2)).mono2,.inl ⟨_,ht,rfl⟩⟩
    · rw [decide_eq_false c5]
      refine iteF ?_
      walk_at "v"
      refine r_new (mk:=.lst) (by simp) fun l0 H2 s2 n2 e2=>?_
      walk_at "v"
      refine r_l ((s1.trans s2) _ _ S.at_) (atI_nat (j:=5) rfl) ?_
      have hk:∃b:Int,atI [V.int 1,.int 1,.int ((10:Int) ^ (9:Int).toNat)] k5=some (.int b)∧1≤b∧b≤10 ^ 9:=by
        rcases (show k5=1∨k5=2 by omega) with rfl | rfl
        · exact ⟨1,atI_nat (j:=1) rfl,by decide,by decide⟩
        · exact ⟨_,atI_nat (j:=2) rfl,by decide,by decide⟩
      obtain ⟨b,hb,hb1,hb2⟩:=hk
      refine r_l e2 hb ?_
      walk_at "v"
      refine ⟨a2,_,_,b,rfl,f2.up (s1.trans s2),ht,hb1,hb2,fun r H3 s3 g3=>?_⟩
      have s03:=s1.trans (s2.trans s3)
      exact hM _ _ ⟨a1,r,_,_,rfl,s03,(f1.up s03).mono2,g3,.inr ⟨rfl,up_ne ht hb1⟩⟩
end

theorem test_k {K:PySem.W.Frag} {H:Hp} {σ:L2.St} {lw:Addr} {k0:Int} {xs:List V} {B:Bool→Hp→Prop} {c:Int} (h:H lw=some (.lst (.int k0::xs))) (hσ:σ[3]?=some (some (.ref lw))) (k:B (decide (k0=c)) H):tTest (tOp rEq (tOp (rIxL K) (tVar 3) (tC (.int 0))) (tC (.int c))) σ H B:=by
  with_reducible refine r_test ?_
  with_reducible refine r_op ?_
  with_reducible refine r_op ?_
  refine r_var hσ ?_
  refine r_c ?_
  refine r_l h (atI_nat (j:=0) rfl) ?_
  refine r_c ?_
  refine r_eq rfl ?_
  exact ⟨_,rfl,k⟩
theorem and_k {K:PySem.W.Frag} {H:Hp} {σ:L2.St} {lw:Addr} {k0:Int} {xs:List V} {B:Bool→Hp→Prop} {c:Int} {d:TT} (h:H lw=some (.lst (.int k0::xs))) (hσ:σ[3]?=some (some (.ref lw))) (yes:d σ H B) (no:B false H):tAnd (tTest (tOp rEq (tOp (rIxL K) (tVar 3) (tC (.int 0))) (tC (.int c)))) d σ H B:=by
  refine r_and (test_k h hσ ?_)
  by_cases e:k0=c
  · rw [decide_eq_true e];exact iteT yes
  · rw [decide_eq_false e];exact iteF no
section
variable {P:Program} {w:World} {K:PySem.W.Frag} {mg:Str→Option Value} {base:Heap} {f:Addr} {fd:FuncData}
theorem sc_law_odd:FnScope ["_law_pieces","_law_at","_law_way","_law_some","_law_one","_law_back","_law_first"] ["_law_pieces","_law_at","_law_way","_law_some"] (defScope s_law_odd):=⟨rfl,rfl,rfl,by decide +kernel,rfl,by decide +kernel,by decide +kernel⟩
theorem ok_law_odd (F:Fun K "_law_odd" "_law_odd" s_law_odd f fd) (D_law_joint:Dn P w K mg base 1 "_law_joint" ["_law_pieces","_law_at","_law_way"] spJoint) (D_law_moved_turn:Dn P w K mg base 3 "_law_moved_turn" ["_law_pieces","_law_at","_law_some"] spMovedT) (D_law_changed:Dn P w K mg base 3 "_law_changed" ["_law_pieces","_law_at","_law_way","_law_some"] spChanged):FnOk P w K mg base CX0 4 f fd ["_law_pieces","_law_at","_law_way","_law_some"] spOdd:=by
  refine F.ok sc_law_odd (fun vs H Q E h=>?_) (fun cdv A outer s H vs Q E hr h=>?_)
  · obtain ⟨hung,tied,rs,lq,lw,pcs,i,pc,k0,k1,k2,k3,k4,k5,rfl,_⟩:=h
    rfl
  obtain ⟨hung,tied,rs,lq,lw,pcs,i,pc,k0,k1,k2,k3,k4,k5,rfl,I,gp,S,k⟩:=h
  have hu64:=hr.units
  have h24:=I.h24
  have hil:=(List.getElem?_eq_some_iff.mp gp).1
  have hF:=I.fl
  rw [split_at gp] at hF
  have hri:=I.ris
  obtain ⟨a1,a2,a3,a4,ea,f1,f2,f3,f4⟩:=I.hps pc (List.mem_of_getElem? gp)
  refine J.q ⟨_,(J.f (J.i (i:=4) sc_law_odd.nd rfl (Or.inl rfl) (J.e (ixL K) (J.a 0) (J.a 1) (fun _ _=>rfl)) (hs:=sw_S))
      (J.f (J.m (J.x (J.ad (J.j op_eq (J.e (ixL K) (J.a 3) J.c (fun _ _=>rfl)) J.c (nomark _)) (J.ai (J.j op_gt (J.a 1) J.c (nomark _)))))
      (J.f (J.i (i:=5) sc_law_odd.nd rfl (Or.inl rfl) (J.g (catT K) (J.t (slT K) (J.a 4) J.v (J.r J.c)) (J.t (slT K) (J.e (ixL K) (J.a 0) (J.g op_sub (J.a 1) J.c) (fun _ _=>rfl)) (J.r J.c) J.v)) (hs:=sw_B))
      (J.h (J.l (J.g op_cat (J.g op_cat (J.t (slL K) (J.a 0) J.v (J.r (J.a 1))) (J.s (J.b (J.a 5) J.d st_N))) (J.t (slL K) (J.a 0) (J.r (J.a 1)) J.v)))))
      J.n)
      (J.f (J.m (J.j op_eq (J.e (ixL K) (J.a 3) J.c (fun _ _=>rfl)) J.c (nomark _))
      (J.h (J.l (J.g op_cat (J.g op_cat (J.t (slL K) (J.a 0) J.v (J.r (J.a 1))) (J.s (J.b (J.g (catT K) (J.t (slT K) (J.a 4) J.v (J.r J.c)) (J.t (slT K) (J.a 4) J.v (J.r J.c))) J.d st_B))) (J.t (slL K) (J.a 0) (J.r (J.a 1)) J.v))))
      J.n)
      (J.f (J.m (J.x (J.ad (J.j op_eq (J.e (ixL K) (J.a 3) J.c (fun _ _=>rfl)) J.c (nomark _)) (J.ai (J.ak (J.k D_law_joint (hr.mono (by decide)) rfl (J.b (J.a 0) (J.b (J.a 1) (J.b (J.a 2) J.d st_N) st_N) st_N) (he:=st_N) (hpl:=(anyc st_N (anyc st_N any0))))))))
      (J.f (J.i (i:=6) sc_law_odd.nd rfl (Or.inl rfl) (J.t (slT K) (J.e (ixL K) (J.a 0) (J.g op_sub (J.a 1) J.c) (fun _ _=>rfl)) J.v (J.r J.c)) (hs:=sw_S))
      (J.h (J.l (J.g op_cat (J.g op_cat (J.t (slL K) (J.a 0) J.v (J.r (J.a 1))) (J.s (J.b (J.g (catT K) (J.t (slT K) (J.a 4) J.v (J.r J.c)) (J.a 6)) (J.b (J.g (catT K) (J.a 6) (J.t (slT K) (J.a 4) (J.r J.c) J.v)) J.d st_B) st_B))) (J.t (slL K) (J.a 0) (J.r (J.g op_add (J.a 1) J.c)) J.v)))))
      J.n)
      (J.f (J.m (J.x (J.ad (J.j op_eq (J.e (ixL K) (J.a 3) J.c (fun _ _=>rfl)) J.c (nomark _)) (J.ad (J.j op_eq (J.a 2) J.z (nomark _)) (J.ai (J.ak (J.k D_law_joint (hr.mono (by decide)) rfl (J.b (J.a 0) (J.b (J.a 1) (J.b (J.a 2) J.d st_N) st_N) st_N) (he:=st_N) (hpl:=(anyc st_N (anyc st_N any0)))))))))
      (J.h (J.l (J.k D_law_moved_turn (hr.mono (by decide)) rfl (J.b (J.a 0) (J.b (J.a 1) (J.b (J.a 3) J.d st_N) st_N) st_N) (he:=st_N) (hpl:=(anyc st_N (anyc st_N any0))))))
      J.n)
      (J.f (J.m (J.x (J.ad (J.j op_eq (J.e (ixL K) (J.a 3) J.c (fun _ _=>rfl)) J.c (nomark _)) (J.ad (J.j (inSeq K) (J.a 2) (J.o (J.b J.z (J.b J.z J.d st_C) st_C)) rfl) (J.ai (J.j (op_neD hu64) (J.e (ixT K) (J.a 4) J.c (fun _ _=>rfl)) (J.e (ixT K) (J.a 4) J.c (fun _ _=>rfl)) (nomark _))))))
      (J.h (J.l (J.g op_cat (J.g op_cat (J.t (slL K) (J.a 0) J.v (J.r (J.a 1))) (J.s (J.b (J.o (J.b (J.e (ixT K) (J.a 4) J.c (fun _ _=>rfl)) (J.b (J.e (ixT K) (J.a 4) J.c (fun _ _=>rfl)) (J.b (J.e (ixT K) (J.a 4) J.c (fun _ _=>rfl)) (J.b (J.e (ixT K) (J.a 4) J.c (fun _ _=>rfl)) J.d st_S) st_S) st_S) st_S)) J.d st_T))) (J.t (slL K) (J.a 0) (J.r (J.g op_add (J.a 1) J.c)) J.v))))
      J.n)
      (J.f (J.m (J.x (J.ad (J.j op_eq (J.e (ixL K) (J.a 3) J.c (fun _ _=>rfl)) J.c (nomark _)) (J.ad (J.j (inSeq K) (J.a 2) (J.o (J.b J.z (J.b J.z J.d st_C) st_C)) rfl) (J.ai (J.j op_gt (J.a 1) J.c (nomark _))))))
      (J.h (J.l (J.g op_cat (J.g op_cat (J.t (slL K) (J.a 0) J.v (J.r (J.a 1))) (J.s (J.b (J.g (catT K) (J.t (slT K) (J.e (ixL K) (J.a 0) (J.g op_sub (J.a 1) J.c) (fun _ _=>rfl)) (J.r J.c) J.v) (J.t (slT K) (J.a 4) (J.r J.c) J.v)) J.d st_B))) (J.t (slL K) (J.a 0) (J.r (J.g op_add (J.a 1) J.c)) J.v))))
      J.n)
      (J.h (J.l (J.g op_cat (J.g op_cat (J.t (slL K) (J.a 0) J.v (J.r (J.a 1))) (J.s (J.b (J.k D_law_changed (hr.mono (by decide)) rfl (J.b (J.a 0) (J.b (J.a 1) (J.b (J.a 2) (J.b (J.a 3) J.d st_N) st_N) st_N) st_N) (he:=st_N) (hpl:=(anyc st_N (anyc st_N (anyc st_N any0))))) J.d st_K))) (J.t (slL K) (J.a 0) (J.r (J.g op_add (J.a 1) J.c)) J.v))))))))))),?_⟩
  walk_at "v"
  refine r_l I.hq (prefs_at gp rfl) ?_
  have one1:∀{z:Pc} {H':Hp},PcAt H' z 200→AllP H' [z] 200:=fun hz y hy=>by rw [List.mem_singleton.mp hy];exact hz
  with_reducible refine r_seq ?_
  refine (if_by (fun r H1=>Same H H1∧(r=true→0<i)) (fun B hB=>?_) (fun H1 ⟨s1,hn⟩=>?_) (fun H1 ⟨s1,_⟩=>?_))
  · refine and_k S.at_ rfl ?_ (hB _ _ ⟨Same.refl _,fun z=>by cases z⟩)
    walk_at "v"
    exact hB _ _ ⟨Same.refl _,fun z=>by have:=of_decide_eq_true z;omega⟩
  · obtain ⟨j,rfl⟩:∃j,i=j+1:=⟨i-1,by have:=hn rfl;omega⟩
    obtain ⟨pp,gpp⟩:∃pp,pcs[j]?=some pp:=⟨_,List.getElem?_eq_getElem (by omega)⟩
    obtain ⟨c1,c2,c3,c4,ec,g1,g2,g3,g4⟩:=I.hps pp (List.mem_of_getElem? gpp)
    walk_at "vd"
    refine sl_2 (s1 _ _ ea) fun t1 H2 s2 e2=>?_
    walk_at "vd"
    refine r_l ((s1.trans s2) _ _ I.hq) (prefs_at gpp (by omega)) ?_
    walk_at "vd"
    refine sl_3 ((s1.trans s2) _ _ ec) fun t2 H3 s3 e3=>?_
    refine cat_22 (s3 _ _ e2) e3 fun x H4 s4 e4=>?_
    have s04:=s1.trans (s2.trans (s3.trans s4))
    walk_at "vd"
    refine sl_lo (j+1) (s04 _ _ I.hq) (by omega) fun l1 H5 s5 e5=>?_
    walk_at "vd"
    refine r_new (mk:=.lst) (by simp) fun l2 H6 s6 n6 e6=>?_
    refine cat_p (B:=[(x,pc.2.1,pc.2.2.1,pp.2.2.2.1,pp.2.2.2.2)]) (s6 _ _ e5) e6 (by rw [List.length_take];simp;omega) fun l3 H7 s7 e7=>?_
    have s47:=s5.trans (s6.trans s7)
    walk_at "vd"
    refine sl_hi (j+1) ((s04.trans s47) _ _ I.hq) (by omega) fun l4 H8 s8 e8=>?_
    refine cat_p (s8 _ _ e7) e8 (by rw [List.length_append,List.length_take,List.length_drop];simp;omega) fun R H9 s9 e9=>?_
    have s49:=s47.trans (s8.trans s9)
    have s09:=s04.trans s49
    refine k.put I s09 e9 (one1 ⟨a1,a2,c3,c4,s49 _ _ e4,(f1.up s09).mono2,(f2.up s09).mono2,(g3.up s09).mono2,(g4.up s09).mono2⟩) (by simp) (by omega) fun G=>?_
    rw [drop_next gp] at G
    exact bad_twin G Rat.le_refl
  with_reducible refine r_next ?_
  with_reducible refine r_seq ?_
  refine (if_by (fun r H2=>Same H H2) (fun B hB=>test_k (s1 _ _ S.at_) rfl (hB _ _ s1)) (fun H2 s2=>?_) (fun H2 s2=>?_))
  · walk_at "vd"
    refine sl_lo i (s2 _ _ I.hq) rfl fun l1 H3 s3 e3=>?_
    walk_at "vd"
    refine sl_2 ((s2.trans s3) _ _ ea) fun t1 H4 s4 e4=>?_
    walk_at "vd"
    refine sl_2 ((s2.trans (s3.trans s4)) _ _ ea) fun t2 H5 s5 e5=>?_
    refine cat_22 (s5 _ _ e4) e5 fun x H6 s6 e6=>?_
    walk_at "vd"
    refine r_new (mk:=.lst) (by simp) fun l2 H7 s7 n7 e7=>?_
    refine cat_p (B:=[(x,pc.2.1,pc.2.2.1,pc.2.1,pc.2.2.1)]) ((s4.trans (s5.trans (s6.trans s7))) _ _ e3) e7 (by rw [List.length_take];simp;omega) fun l3 H8 s8 e8=>?_
    have s68:=s7.trans s8
    have s08:=s2.trans (s3.trans (s4.trans (s5.trans (s6.trans s68))))
    walk_at "vd"
    refine sl_hi i (s08 _ _ I.hq) rfl fun l4 H9 s9 e9=>?_
    refine cat_p (s9 _ _ e8) e9 (by rw [List.length_append,List.length_take,List.length_drop];simp;omega) fun R HA sA eA=>?_
    have s0A:=s08.trans (s9.trans sA)
    refine k.put I s0A eA (one1 ⟨a1,a2,a1,a2,(s68.trans (s9.trans sA)) _ _ e6,(f1.up s0A).mono2,(f2.up s0A).mono2,(f1.up s0A).mono2,(f2.up s0A).mono2⟩) (by simp) (by omega) fun G=>?_
    rw [drop_next gp] at G
    exact bad_twin G Rat.le_refl
  with_reducible refine r_next ?_
  with_reducible refine r_seq ?_
  refine (if_by (fun r H3=>Same H H3∧(r=true→hung=true∧∃(j:Nat) (pp:Pc),i=j+1∧pcs[j]?=some pp∧pp.2.2.2.1=pc.2.1)) (fun B hB=>?_) (fun H3 ⟨s3,hn⟩=>?_) (fun H3 ⟨s3,_⟩=>?_))
  · refine and_k (s2 _ _ S.at_) rfl ?_ (hB _ _ ⟨s2,fun z=>by cases z⟩)
    walk_at "v"
    refine ⟨hung,tied,rs,lq,pcs,i,pc,rfl,I.up s2,gp,fun r H3 s3 hr3=>?_⟩
    exact ⟨_,rfl,hB _ _ ⟨s2.trans s3,hr3⟩⟩
  · obtain ⟨_,j,pp,rfl,gpp,_⟩:=hn rfl
    obtain ⟨c1,c2,c3,c4,ec,g1,g2,g3,g4⟩:=I.hps pp (List.mem_of_getElem? gpp)
    walk_at "vd"
    refine r_l (s3 _ _ I.hq) (prefs_at gpp (by omega)) ?_
    walk_at "vd"
    refine sl_2 (s3 _ _ ec) fun t1 H4 s4 e4=>?_
    walk_at "vd"
    refine sl_lo (j+1) ((s3.trans s4) _ _ I.hq) (by omega) fun l1 H5 s5 e5=>?_
    have s05:=s3.trans (s4.trans s5)
    walk_at "vd"
    refine sl_2 (s05 _ _ ea) fun t2 H6 s6 e6=>?_
    walk_at "vd"
    refine cat_22 e6 ((s5.trans s6) _ _ e4) fun x1 H7 s7 e7=>?_
    have s07:=s05.trans (s6.trans s7)
    walk_at "vd"
    refine sl_3 (s07 _ _ ea) fun t3 H8 s8 e8=>?_
    refine cat_22 ((s5.trans (s6.trans (s7.trans s8))) _ _ e4) e8 fun x2 H9 s9 e9=>?_
    walk_at "vd"
    refine r_new (mk:=.lst) (by simp) fun l2 HA sA nA eA=>?_
    refine cat_p (B:=[(x1,pc.2.1,pc.2.2.1,pp.2.1,pp.2.2.1),(x2,pp.2.1,pp.2.2.1,pc.2.2.2.1,pc.2.2.2.2)]) ((s6.trans (s7.trans (s8.trans (s9.trans sA)))) _ _ e5) eA (by rw [List.length_take];simp;omega) fun l3 HB sB eB=>?_
    have s9B:=sA.trans sB
    have s0B:=s07.trans (s8.trans (s9.trans s9B))
    walk_at "vd"
    refine sl_hi (j+2) (s0B _ _ I.hq) (by omega) fun l4 HC sC eC=>?_
    refine cat_p (sC _ _ eB) eC (by rw [List.length_append,List.length_take,List.length_drop];simp;omega) fun R HD sD eD=>?_
    have sBD:=sC.trans sD
    have s0D:=s0B.trans sBD
    refine k.put I s0D eD (fun y hy=>?_) (by simp) (by omega) fun G=>?_
    · rcases List.mem_cons.mp hy with rfl | hy
      · exact ⟨a1,a2,c1,c2,(s8.trans (s9.trans (s9B.trans sBD))) _ _ e7,(f1.up s0D).mono2,(f2.up s0D).mono2,(g1.up s0D).mono2,(g2.up s0D).mono2⟩
      · obtain rfl:=List.mem_singleton.mp hy
        exact ⟨c1,c2,a3,a4,(s9B.trans sBD) _ _ e9,(g1.up s0D).mono2,(g2.up s0D).mono2,(f3.up s0D).mono2,(f4.up s0D).mono2⟩
    · rw [take_prev gpp,List.append_assoc,List.singleton_append] at hF
      exact bad_twin G (Rat.le_of_lt hF.mid.s)
  with_reducible refine r_next ?_
  with_reducible refine r_seq ?_
  refine (if_by (fun r H4=>Same H H4∧(r=true→hung=true∧tied=true∧∃(j:Nat) (pp:Pc),i=j+1∧pcs[j]?=some pp)) (fun B hB=>?_) (fun H4 ⟨s4,hn⟩=>?_) (fun H4 ⟨s4,_⟩=>?_))
  · refine and_k (s3 _ _ S.at_) rfl ?_ (hB _ _ ⟨s3,fun z=>by cases z⟩)
    walk_at "v"
    refine r_eqS (c:=hung&&tied) (by cases hung <;> cases tied <;> decide +kernel) ?_
    refine ⟨_,rfl,?_⟩
    by_cases hht:(hung&&tied)=true
    · rw [if_pos hht]
      walk_at "v"
      refine ⟨hung,tied,rs,lq,pcs,i,pc,rfl,I.up s3,gp,fun r H4 s4 hr4=>?_⟩
      refine ⟨_,rfl,hB _ _ ⟨s3.trans s4,fun z=>?_⟩⟩
      obtain ⟨_,j,pp,h1,h2,_⟩:=hr4 z
      exact ⟨(Bool.and_eq_true_iff.mp hht).1,(Bool.and_eq_true_iff.mp hht).2,j,pp,h1,h2⟩
    · rw [if_neg hht]
      exact hB _ _ ⟨s3,fun z=>by cases z⟩
  · obtain ⟨rfl,rfl,j,pp,rfl,gpp⟩:=hn rfl
    walk_at "vd"
    refine ⟨rs,lq,lw,pcs,j,pp,pc,k0,k1,k2,k3,k4,k5,rfl,I.up s4,gpp,gp,S.up s4,fun R qcs H' s'=>?_⟩
    exact k R qcs H' (s4.trans s')
  with_reducible refine r_next ?_
  with_reducible refine r_seq ?_
  refine (if_by (fun r H5=>Same H H5∧(r=true→tied=true∧pc.2.2.1≠pc.2.2.2.2)) (fun B hB=>?_) (fun H5 ⟨s5,hn⟩=>?_) (fun H5 ⟨s5,_⟩=>?_))
  · refine and_k (s4 _ _ S.at_) rfl ?_ (hB _ _ ⟨s4,fun z=>by cases z⟩)
    walk_at "v"
    refine r_new (mk:=.tup) (by simp) fun tt H5 s5 n5 e5=>?_
    refine ⟨tt,_,rfl,.inr (SqT.of e5),rfl,rfl,?_⟩
    refine ⟨_,rfl,?_⟩
    rw [if_neg Bool.false_ne_true,inW1]
    have s05:=s4.trans s5
    have ea5:=s05 _ _ ea
    cases tied with
    | false=>exact iteF (hB _ _ ⟨s05,fun z=>by cases z⟩)
    | true=>
      refine iteT ?_
      walk_at "v"
      refine fr_neD (f2.up s05) (f4.up s05) ?_
      exact ⟨_,rfl,hB _ _ ⟨s05,fun z=>⟨rfl,of_decide_eq_false (by simpa using z)⟩⟩⟩
  · obtain ⟨hti,hne⟩:=hn rfl
    walk_at "vd"
    refine sl_lo i (s5 _ _ I.hq) rfl fun l1 H6 s6 e6=>?_
    have ea6:=(s5.trans s6) _ _ ea
    walk_at "vd"
    refine r_new (mk:=.tup) (by simp) fun x H7 s7 n7 e7=>?_
    walk_at "vd"
    refine r_new (mk:=.lst) (by simp) fun l2 H8 s8 n8 e8=>?_
    refine cat_p (B:=[(x,pc.2.1,pc.2.2.2.2,pc.2.2.2.1,pc.2.2.1)]) ((s7.trans s8) _ _ e6) e8 (by rw [List.length_take];simp;omega) fun l3 H9 s9 e9=>?_
    have s79:=s8.trans s9
    have s09:=s5.trans (s6.trans (s7.trans s79))
    walk_at "vd"
    refine sl_hi (i+1) (s09 _ _ I.hq) (by omega) fun l4 HA sA eA=>?_
    refine cat_p (sA _ _ e9) eA (by rw [List.length_append,List.length_take,List.length_drop];simp;omega) fun R HB sB eB=>?_
    have s0B:=s09.trans (sA.trans sB)
    refine k.put I s0B eB (one1 ⟨a1,a4,a3,a2,(s79.trans (sA.trans sB)) _ _ e7,(f1.up s0B).mono2,(f4.up s0B).mono2,(f3.up s0B).mono2,(f2.up s0B).mono2⟩) (by simp) (by omega) fun G=>?_
    exact bad_tie1 hri hti hF G rfl fun z=>hne z.symm
  with_reducible refine r_next ?_
  with_reducible refine r_seq ?_
  refine (if_by (fun r H6=>Same H H6∧(r=true→hung=false∧0<i)) (fun B hB=>?_) (fun H6 ⟨s6,hn⟩=>?_) (fun H6 ⟨s6,_⟩=>?_))
  · refine and_k (s5 _ _ S.at_) rfl ?_ (hB _ _ ⟨s5,fun z=>by cases z⟩)
    walk_at "v"
    refine r_new (mk:=.tup) (by simp) fun tt H6 s6 n6 e6=>?_
    refine ⟨tt,_,rfl,.inr (SqT.of e6),rfl,rfl,?_⟩
    refine ⟨_,rfl,?_⟩
    rw [if_neg Bool.false_ne_true,inW2]
    have s06:=s5.trans s6
    cases hung with
    | true=>exact iteF (hB _ _ ⟨s06,fun z=>by cases z⟩)
    | false=>
      refine iteT ?_
      walk_at "v"
      exact hB _ _ ⟨s06,fun z=>⟨rfl,by have:=of_decide_eq_true z;omega⟩⟩
  · obtain ⟨hhu,hi0⟩:=hn rfl
    obtain ⟨j,rfl⟩:∃j,i=j+1:=⟨i-1,by omega⟩
    obtain ⟨pp,gpp⟩:∃pp,pcs[j]?=some pp:=⟨_,List.getElem?_eq_getElem (by omega)⟩
    obtain ⟨c1,c2,c3,c4,ec,g1,g2,g3,g4⟩:=I.hps pp (List.mem_of_getElem? gpp)
    walk_at "vd"
    refine sl_lo (j+1) (s6 _ _ I.hq) (by omega) fun l1 H7 s7 e7=>?_
    have s07:=s6.trans s7
    walk_at "vd"
    refine r_l (s07 _ _ I.hq) (prefs_at gpp (by omega)) ?_
    walk_at "vd"
    refine sl_3 (s07 _ _ ec) fun t1 H8 s8 e8=>?_
    walk_at "vd"
    refine sl_3 ((s07.trans s8) _ _ ea) fun t2 H9 s9 e9=>?_
    refine cat_22 (s9 _ _ e8) e9 fun x HA sA eA=>?_
    walk_at "vd"
    refine r_new (mk:=.lst) (by simp) fun l2 HB sB nB eB=>?_
    refine cat_p (B:=[(x,pp.2.2.2.1,pp.2.2.2.2,pc.2.2.2.1,pc.2.2.2.2)]) ((s8.trans (s9.trans (sA.trans sB))) _ _ e7) eB (by rw [List.length_take];simp;omega) fun l3 HC sC eC=>?_
    have sAC:=sB.trans sC
    have s0C:=s07.trans (s8.trans (s9.trans (sA.trans sAC)))
    walk_at "vd"
    refine sl_hi (j+2) (s0C _ _ I.hq) (by omega) fun l4 HD sD eD=>?_
    refine cat_p (sD _ _ eC) eD (by rw [List.length_append,List.length_take,List.length_drop];simp;omega) fun R HE sE eE=>?_
    have s0E:=s0C.trans (sD.trans sE)
    refine k.put I s0E eE (one1 ⟨c3,c4,a3,a4,(sAC.trans (sD.trans sE)) _ _ eA,(g3.up s0E).mono2,(g4.up s0E).mono2,(f3.up s0E).mono2,(f4.up s0E).mono2⟩) (by simp) (by omega) fun G=>?_
    rw [take_prev gpp,List.append_assoc,List.singleton_append] at G
    exact bad_next hhu G rfl
  walk_at "vd"
  refine sl_lo i (s6 _ _ I.hq) rfl fun l1 H7 s7 e7=>?_
  have s07:=s6.trans s7
  walk_at "vd"
  refine ⟨hung,tied,rs,lq,lw,pcs,i,pc,k0,k1,k2,k3,k4,k5,rfl,I.up s07,gp,S.up s07,fun x H8 s8 hx hbad=>?_⟩
  walk_at "vd"
  refine r_new (mk:=.lst) (by simp) fun l2 H9 s9 n9 e9=>?_
  refine cat_p (B:=[x]) ((s8.trans s9) _ _ e7) e9 (by rw [List.length_take];simp;omega) fun l3 HA sA eA=>?_
  have s0A:=s07.trans (s8.trans (s9.trans sA))
  walk_at "vd"
  refine sl_hi (i+1) (s0A _ _ I.hq) (by omega) fun l4 HB sB eB=>?_
  refine cat_p (sB _ _ eA) eB (by rw [List.length_append,List.length_take,List.length_drop];simp;omega) fun R HC sC eC=>?_
  exact k.put I (s0A.trans (sB.trans sC)) eC (one1 (hx.up (s9.trans (sA.trans (sB.trans sC))))) (by simp) (by omega) hbad
end

theorem Flat.ends_lt {hung tied:Bool} {rs:List (List Pt)} {ps:List P4} (F:Flat hung tied rs ps):∀(i j:Nat) (p q:P4),i<j→ps[i]?=some p→ps[j]?=some q→p.2.2.1<q.2.2.1:=by
  intro i j
  induction j with
  | zero=>intro p q h;omega
  | succ j ih=>
    intro p q h hp hq
    have hj:j<ps.length:=by have:=(List.getElem?_eq_some_iff.mp hq).1;omega
    have g:ps[j]?=some ps[j]:=List.getElem?_eq_getElem hj
    have a:=(F.adj j _ _ g hq).e
    by_cases e:i=j
    · subst e;rw [hp] at g;cases g;exact a
    · have:=ih p _ (by omega) hp g
      grind
theorem bridge_at {hung tied:Bool} {rs:List (List Pt)} {ps:List P4} (F:Flat hung tied rs ps) (hr:prise rs.flatten) {x y:Rat} (hb:Bnd rs x y):∃(t:Nat) (p q:P4),ps[t]?=some p∧ps[t+1]?=some q∧p.2.2.1=x:=by
  obtain ⟨hxy,sep⟩:=hb.sep hr
  obtain ⟨k,r,r',a,b,g1,g2,g3,g4,ex,ey⟩:=id hb
  have ma:a∈rs.flatten:=List.mem_flatten.mpr ⟨r,List.mem_of_getElem? g1,List.mem_of_getElem? g3⟩
  have mb:b∈rs.flatten:=List.mem_flatten.mpr ⟨r',List.mem_of_getElem? g2,List.mem_of_getElem? g4⟩
  have hne:ps≠[]:=fun z=>by rw [F.emp.mp z] at ma;cases ma
  have hpos:=List.length_pos_iff.mpr hne
  have side:∀p∈ps,(p.2.2.1≤x)∨y≤p.1:=fun p hp=>by
    obtain ⟨_,r0,hr0,⟨a0,ha0,ea0⟩,⟨b0,hb0,eb0⟩⟩:=F.run p hp
    rcases sep r0 hr0 with z | z
    · have:=z b0 hb0;left;grind
    · have:=z a0 ha0;right;grind
  have key:∀n,n<ps.length→(∃p,ps[n]?=some p∧y≤p.1)→∃(t:Nat) (p q:P4),ps[t]?=some p∧ps[t+1]?=some q∧p.2.2.1≤x∧y≤q.1:=by
    intro n
    induction n with
    | zero=>
      rintro _ ⟨p,hp,hy⟩
      obtain ⟨f0,gf,ef⟩:=F.fst p hp
      obtain ⟨i,hi,ei⟩:=List.mem_iff_getElem.mp ma
      have:=prise_le hr (Nat.zero_le i) gf (by rw [List.getElem?_eq_getElem hi,ei])
      have:(f0.1:Rat)≤(a.1:Rat):=Rat.intCast_le_intCast.mpr this
      grind
    | succ n ih=>
      rintro hn ⟨p,hp,hy⟩
      have g:ps[n]?=some (ps[n]'(by omega)):=List.getElem?_eq_getElem (by omega)
      rcases side _ (List.mem_of_getElem? g) with z | z
      · exact ⟨n,_,p,g,hp,z,hy⟩
      · exact ih (by omega) ⟨_,g,z⟩
  have gl:ps[ps.length-1]?=some (ps[ps.length-1]'(by omega)):=List.getElem?_eq_getElem (by omega)
  obtain ⟨l0,gl0,el0⟩:=F.lst _ gl
  have ly:y≤(ps[ps.length-1]'(by omega)).2.2.1:=by
    obtain ⟨i,hi,ei⟩:=List.mem_iff_getElem.mp mb
    have:=prise_le hr (show i≤rs.flatten.length-1 by omega) (by rw [List.getElem?_eq_getElem hi,ei]) gl0
    have:(b.1:Rat)≤(l0.1:Rat):=Rat.intCast_le_intCast.mpr this
    grind
  have l2:y≤(ps[ps.length-1]'(by omega)).1:=by
    rcases side _ (List.mem_of_getElem? gl) with z | z
    · grind
    · exact z
  obtain ⟨t,p,q,gp,gq,hp,hq⟩:=key (ps.length-1) (by omega) ⟨_,gl,l2⟩
  refine ⟨t,p,q,gp,gq,?_⟩
  have A:=F.adj t p q gp gq
  cases hung with
  | false=>
    have:=(A.loose rfl).2 a ma
    grind
  | true=>
    rcases A.hang rfl with ⟨z,_⟩ | z
    · grind
    · rcases (z.sep hr).2 r (List.mem_of_getElem? g1) with w | w
      · have:=w a (List.mem_of_getElem? g3);grind
      · have:=w a (List.mem_of_getElem? g3);grind
noncomputable def Ph (pcs:List Pc) (t:Nat) (p q:Pc) (i:Nat) (qs:List Pc):Prop:=(i≤t+1∧qs=pcs.take i)∨(t+2≤i∧∃x:Pc,x.2=(p.2.1,p.2.2.1,q.2.2.2.1,q.2.2.2.2)∧qs=pcs.take t++x::(pcs.take i).drop (t+2))
theorem take_u {pcs:List Pc} {i:Nat} {u:Pc} (g:pcs[i]?=some u):pcs.take (i+1)=pcs.take i++[u]:=by rw [List.take_add_one,g];rfl
theorem drop_u {pcs:List Pc} {i n:Nat} {u:Pc} (g:pcs[i]?=some u) (h:n≤i):(pcs.take (i+1)).drop n=(pcs.take i).drop n++[u]:=by
  have:=(List.getElem?_eq_some_iff.mp g).1
  rw [take_u g,List.drop_append_of_le_length (by rw [List.length_take];omega)]
theorem Ph.last {pcs qs:List Pc} {t i:Nat} {p q u:Pc} (gp:pcs[t]?=some p) (gq:pcs[t+1]?=some q) (h:Ph pcs t p q (i+1) qs) (g:pcs[i]?=some u):∃(qs':List Pc) (l:Pc),qs=qs'++[l]∧l.2.2.2.1=u.2.2.2.1∧(i=t→l=p∧qs'=pcs.take t):=by
  rcases h with ⟨h1,rfl⟩ | ⟨h1,x,hx,rfl⟩
  · exact ⟨_,u,take_u g,rfl,fun e=>by subst e;rw [gp] at g;cases g;exact ⟨rfl,rfl⟩⟩
  · by_cases e:i=t+1
    · subst e
      rw [gq] at g
      cases g
      refine ⟨pcs.take t,x,?_,by rw [hx],fun z=>by omega⟩
      rw [List.drop_eq_nil_of_le (by rw [List.length_take];omega)]
    · refine ⟨pcs.take t++x::(pcs.take i).drop (t+2),u,?_,rfl,fun z=>by omega⟩
      rw [drop_u g (by omega),List.append_assoc,List.cons_append]
theorem Ph.keep {pcs qs:List Pc} {t i:Nat} {p q u:Pc} (h:Ph pcs t p q i qs) (g:pcs[i]?=some u) (hi:i≠t+1):Ph pcs t p q (i+1) (qs++[u]):=by
  rcases h with ⟨h1,rfl⟩ | ⟨h1,x,hx,rfl⟩
  · exact .inl ⟨by omega,(take_u g).symm⟩
  · refine .inr ⟨by omega,x,hx,?_⟩
    rw [drop_u g h1,List.append_assoc,List.cons_append]
theorem Ph.len {pcs qs:List Pc} {t i:Nat} {p q:Pc} (h:Ph pcs t p q i qs):qs.length≤pcs.length+1:=by
  rcases h with ⟨h1,rfl⟩ | ⟨h1,x,hx,rfl⟩
  · rw [List.length_take];omega
  · rw [List.length_append,List.length_cons,List.length_take,List.length_drop,List.length_take];omega
noncomputable def spBridged:Sp:=fun vs H Q _=>∃(hung tied:Bool) (lq lr:Addr) (pcs:List Pc) (ls:Nls) (b at_:Int),vs=[.ref lq,.ref lr,.int at_]∧SpIn H hung tied (ls.map fun x=>npts x.2 b) lq pcs∧H lr=some (.lst (ls.map fun x=>V.ref x.1))∧(∀x∈ls,RunAt H x)∧2≤ls.length∧0≤at_∧SpOut H hung tied (ls.map fun x=>npts x.2 b) Q
section
variable {P:Program} {w:World} {K:PySem.W.Frag} {mg:Str→Option Value} {base:Heap} {f:Addr} {fd:FuncData}
theorem sc_law_bridged:FnScope ["_law_pieces","_law_parts","_law_at","_law_goal","_law_some","_law_one"] ["_law_pieces","_law_parts","_law_at"] (defScope s_law_bridged):=⟨rfl,rfl,rfl,by decide +kernel,rfl,by decide +kernel,by decide +kernel⟩
theorem ok_law_bridged (F:Fun K "_law_bridged" "_law_bridged" s_law_bridged f fd) (T:Txt mg):FnOk P w K mg base CX0 1 f fd ["_law_pieces","_law_parts","_law_at"] spBridged:=by
  refine F.ok sc_law_bridged (fun vs H Q E h=>?_) (fun cdv A outer s H vs Q E hr h=>?_)
  · obtain ⟨hung,tied,lq,lr,pcs,ls,b,at_,rfl,_⟩:=h
    rfl
  obtain ⟨hung,tied,lq,lr,pcs,ls,b,at_,rfl,I,hlr,hls,h2,hat,k⟩:=h
  have hu64:=hr.units
  have h24:=I.h24
  refine J.q ⟨_,(J.f (J.i (i:=3) sc_law_bridged.nd rfl (Or.inl rfl) (J.o (J.b (J.e (ixT K) (J.e (ixL K) (J.e (ixL K) (J.a 1) (J.g op_mod (J.a 2) (J.g op_sub (J.p (lenC K) rfl T.len_ PySem.boot_len (J.b (J.a 1) J.d st_N) (he:=st_N) (hpl:=any0)) J.c)) (fun _ _=>rfl)) (J.ag un_neg J.c) (fun _ _=>rfl)) J.c (fun _ _=>rfl)) (J.b J.c J.d st_C) st_S)) (hs:=sw_T))
      (J.f (J.i (i:=4) sc_law_bridged.nd rfl (Or.inl rfl) (J.s J.d) (hs:=sw_L))
      (J.f (J.ae PassesOwn.never rfl (J.aa K (J.a 0)) (J.u (i:=5) sc_law_bridged.nd rfl (Or.inl rfl))
      (J.h (J.m (J.x (J.ad (J.j op_gt (J.p (lenC K) rfl T.len_ PySem.boot_len (J.b (J.a 4) J.d st_N) (he:=st_N) (hpl:=any0)) J.c (nomark _)) (J.ai (J.j (op_eqD hu64) (J.e (ixT K) (J.e (ixL K) (J.a 4) (J.ag un_neg J.c) (fun _ _=>rfl)) J.c (fun _ _=>rfl)) (J.a 3) (nomark _)))))
      (J.h (Jd.ps_asg (J.g (catT K) (J.t (slT K) (J.e (ixL K) (J.a 4) (J.ag un_neg J.c) (fun _ _=>rfl)) J.v (J.r J.c)) (J.t (slT K) (J.a 5) (J.r J.c) J.v)) (Jd.pg_sub (J.a 4) (J.ag un_neg J.c) set_list)))
      (J.h (J.y (J.ac K (J.a 4) (J.a 5)) (hs:=sw_K))))))
      (J.h (J.l (J.a 4)))))),?_⟩
  walk_at "v"
  refine r_len (.inl (SqL.of hlr)) ?_
  rw [List.length_map]
  walk_at "v"
  have hm0:0≤at_ % ((ls.length:Int)-1):=Int.emod_nonneg _ (by omega)
  have hm1:at_ % ((ls.length:Int)-1)<(ls.length:Int)-1:=Int.emod_lt_of_pos _ (by omega)
  generalize at_ % ((ls.length:Int)-1)=mm at hm0 hm1 ⊢
  obtain ⟨kk,rfl⟩:=Int.eq_ofNat_of_zero_le hm0
  have g0:ls[kk]?=some (ls[kk]'(by omega)):=List.getElem?_eq_getElem (by omega)
  have g1:ls[kk+1]?=some (ls[kk+1]'(by omega)):=List.getElem?_eq_getElem (by omega)
  generalize ls[kk]'(by omega)=x0 at g0
  generalize ls[kk+1]'(by omega)=x1 at g1
  have r0:=hls x0 (List.mem_of_getElem? g0)
  have r1:=hls x1 (List.mem_of_getElem? g1)
  have p0:=r0.pos
  have p1:=r1.pos
  obtain ⟨yl,gl⟩:∃yl,x0.2[x0.2.length-1]?=some yl:=⟨_,List.getElem?_eq_getElem (by omega)⟩
  obtain ⟨yf,gf⟩:∃yf,x1.2[0]?=some yf:=⟨_,List.getElem?_eq_getElem (by omega)⟩
  obtain ⟨zl,hzl⟩:=Option.isSome_iff_exists.mp (r0.all yl (List.mem_of_getElem? gl))
  obtain ⟨zf,hzf⟩:=Option.isSome_iff_exists.mp (r1.all yf (List.mem_of_getElem? gf))
  obtain ⟨ey,zy,_⟩:=r0.row yl (List.mem_of_getElem? gl)
  have hb:Bnd (ls.map fun x=>npts x.2 b) (yl.2.1:Rat) (yf.2.1:Rat):=⟨kk,npts x0.2 b,npts x1.2 b,_,_,by rw [List.getElem?_map,g0];rfl,by rw [List.getElem?_map,g1];rfl,by rw [npts_len];exact npts_at gl hzl,npts_at gf hzf,rfl,rfl⟩
  obtain ⟨t,p4,q4,gp4,gq4,hpx⟩:=bridge_at I.fl I.ris hb
  rw [List.getElem?_map] at gp4 gq4
  obtain ⟨p,gp,rfl⟩:=Option.map_eq_some_iff.mp gp4
  obtain ⟨q,gq,rfl⟩:=Option.map_eq_some_iff.mp gq4
  have htl:=(List.getElem?_eq_some_iff.mp gq).1
  have only:∀(j:Nat) (u:Pc),pcs[j]?=some u→(u.2.2.2.1=(yl.2.1:Rat)↔j=t):=fun j u g=>by
    have gu:(pcs.map (·.2))[j]?=some u.2:=by rw [List.getElem?_map,g];rfl
    have gt:(pcs.map (·.2))[t]?=some p.2:=by rw [List.getElem?_map,gp];rfl
    constructor
    · intro e
      rcases Nat.lt_trichotomy j t with z | z | z
      · have:=I.fl.ends_lt j t _ _ z gu gt;grind
      · exact z
      · have:=I.fl.ends_lt t j _ _ z gt gu;grind
    · rintro rfl
      rw [gp] at g
      cases g
      exact hpx
  refine r_l hlr (atI_nat (v:=.ref x0.1) (by rw [List.getElem?_map,g0];rfl)) ?_
  have atl:atI (nvals x0.2) (-1)=some (.ref yl.1):=by
    unfold atI
    rw [ix_last (m:=x0.2.length-1) (by rw [nvals_len];omega)]
    show (nvals x0.2)[x0.2.length-1]?=_
    unfold nvals
    rw [List.getElem?_map,gl]
    rfl
  walk_at "v"
  refine r_l r0.at_ atl ?_
  walk_at "v"
  refine r_new (mk:=.tup) (by simp) fun pg H1 s1 n1 e1=>?_
  have fg:FrAt H1 pg (yl.2.1:Rat) 45:=fr_mo e1 zy (by decide)
  walk_at "v"
  refine r_new (mk:=.lst) (by simp) fun R H2 s2 n2 e2=>?_
  walk_at "v"
  refine r_for (r_iL ?_)
  walk_at "v"
  refine ⟨lq,rfl,⟨_,SqL.of ((s1.trans s2) _ _ I.hq)⟩,for_list (xs:=prefs pcs) (fun i σ H3=>∃(qs:List Pc) (v5:Option V),σ=[some (.ref lq),some (.ref lr),some (.int at_),some (.ref pg),some (.ref R),v5]∧Same H1 H3∧H3 R=some (.lst (prefs qs))∧AllP H3 qs 200∧Ph pcs t p q i qs) ?_ ?_ ?_ ?_⟩
  · exact ⟨[],none,rfl,s2,e2,fun x hx=>absurd hx (by simp),.inl ⟨by omega,rfl⟩⟩
  · rintro i σ H3 _ ⟨qs,v5,rfl,s3,_⟩
    exact SqL.of (s3 _ _ (s1 _ _ I.hq))
  · rintro i v σ H3 hv ⟨qs,v5,rfl,s3,eR,hA,hP⟩
    refine body_cut fun M Bk RR hM _ hR=>?_
    have s03:=s1.trans s3
    obtain ⟨u,gu,rfl⟩:∃u,pcs[i]?=some u∧v=.ref u.1:=by
      unfold prefs at hv
      rw [List.getElem?_map] at hv
      obtain ⟨x,g,rfl⟩:=Option.map_eq_some_iff.mp hv
      exact ⟨x,g,rfl⟩
    have hql:=hP.len
    have hu:=I.hps u (List.mem_of_getElem? gu)
    refine r_g ?_
    refine (if_by (fun r H4=>H4=H3∧(r=true↔i=t+1)) (fun B hB=>?_) (fun H4 ⟨e4,hn⟩=>?_) (fun H4 ⟨e4,hn⟩=>?_))
    · walk_at "v"
      refine r_len (.inl (SqL.of eR)) ?_
      rw [prefs_len]
      walk_at "v"
      cases i with
      | zero=>
        have hq0:qs=[]:=by
          rcases hP with ⟨_,z⟩ | ⟨z,_⟩
          · exact z
          · omega
        subst hq0
        refine iteF ?_
        exact hB _ _ ⟨rfl,⟨fun z=>(by cases z),fun z=>(by omega)⟩⟩
      | succ i=>
        have hi:=(List.getElem?_eq_some_iff.mp gu).1
        have gw:pcs[i]?=some (pcs[i]'(by omega)):=List.getElem?_eq_getElem (by omega)
        obtain ⟨qs',l,rfl,hle,_⟩:=hP.last gp gq gw
        rw [decide_eq_true (by rw [List.length_append,List.length_singleton];omega)]
        refine iteT ?_
        obtain ⟨l1,l2,l3,l4,el,fl1,fl2,fl3,fl4⟩:=hA l (by simp)
        walk_at "v"
        refine r_l eR (by rw [← prefs_app];exact atI_last _ _) ?_
        walk_at "v"
        refine fr_eqD fl3 (fg.up s3) ?_
        refine ⟨_,rfl,hB _ _ ⟨rfl,?_⟩⟩
        rw [decide_eq_true_iff,hle,only i _ gw]
        omega
    · subst e4
      have hit:=hn.mp rfl
      subst hit
      obtain ⟨qs',l,rfl,_,hlp⟩:=hP.last gp gq gp
      obtain ⟨rfl,rfl⟩:=hlp rfl
      rw [gq] at gu
      cases gu
      obtain ⟨l1,l2,l3,l4,el,fl1,fl2,fl3,fl4⟩:=hA l (by simp)
      obtain ⟨u1,u2,u3,u4,eu,fu1,fu2,fu3,fu4⟩:=hu
      have hat1:atI (prefs (pcs.take t++[l])) (-1)=some (.ref l.1):=by rw [← prefs_app];exact atI_last _ _
      walk_at "vd"
      refine r_asg ?_
      walk_at "vd"
      refine r_l eR hat1 ?_
      walk_at "vd"
      refine sl_2 el fun t1 H5 s5 e5=>?_
      walk_at "vd"
      refine sl_3 ((s03.trans s5) _ _ eu) fun t2 H6 s6 e6=>?_
      refine cat_22 (s6 _ _ e5) e6 fun x H7 s7 e7=>?_
      have s47:=s5.trans (s6.trans s7)
      have eR7:=s47 _ _ eR
      walk_at "vd"
      refine r_setL eR7 (ix_last (m:=t) (by rw [prefs_len,List.length_append,List.length_take,List.length_singleton];omega)) ?_
      have hset:(prefs (pcs.take t++[l])).set t (.ref x)=prefs (pcs.take t++[(x,l.2.1,l.2.2.1,q.2.2.2.1,q.2.2.2.2)]):=by
        have hlt:(prefs (pcs.take t)).length=t:=by rw [prefs_len,List.length_take];omega
        rw [← prefs_app,← prefs_app,List.set_append_right _ _ (by omega),hlt,Nat.sub_self]
        rfl
      rw [hset]
      refine hM _ _ ⟨pcs.take t++[(x,l.2.1,l.2.2.1,q.2.2.2.1,q.2.2.2.2)],_,rfl,same_at (s3.trans s47) n2,upd_same,?_,.inr ⟨by omega,(x,l.2.1,l.2.2.1,q.2.2.2.1,q.2.2.2.2),rfl,?_⟩⟩
      · refine AllP.app (AllP.append (fun y hy=>(hA y (List.mem_append_left _ hy)).up s47) fun y hy=>?_) eR7
        rw [List.mem_singleton.mp hy]
        have s07:=s03.trans s47
        exact ⟨l1,l2,u3,u4,e7,fl1.up s47,fl2.up s47,(fu3.up s07).mono2,(fu4.up s07).mono2⟩
      · rw [List.drop_eq_nil_of_le (by rw [List.length_take];omega)]
    · subst e4
      have hit:i≠t+1:=fun z=>by cases hn.mpr z
      have eRn:=eR
      walk_at "v"
      refine ⟨.inl ⟨rfl,_,SqL.of eR⟩,?_⟩
      walk_at "v"
      refine r_app eR (by rw [prefs_len];exact small1000 (by omega)) ?_
      walk_at "v"
      refine hM _ _ ⟨qs++[u],_,rfl,same_at s3 n2,by rw [upd_same,← prefs_app];rfl,?_,hP.keep gu hit⟩
      refine AllP.app (hA.append fun y hy=>?_) eR
      rw [List.mem_singleton.mp hy]
      exact (hu.up s03).mono (by decide)
  · rintro σ H3 ⟨qs,v5,rfl,s3,eR,hA,hP⟩
    rw [prefs_len] at hP
    walk_at "v"
    have hql:=hP.len
    refine k R qs H3 (s1.trans s3) eR hA (by omega) fun G=>?_
    rcases hP with ⟨z,_⟩ | ⟨_,x,hx,rfl⟩
    · omega
    · have hF:=I.fl
      rw [split_at gp,drop_next gq] at hF
      rw [List.take_length,List.map_append,List.map_cons] at G
      refine bad_bridge I.ris hF G (y:=(yf.2.1:Rat)) ?_ ?_ ?_
      · rw [hpx];exact hb
      · rw [hx]
      · rw [hx]
end

theorem FnOk.or {P:Program} {w:World} {K:PySem.W.Frag} {mg:Str→Option Value} {base:Heap} {CX:CXT} {k:Nat} {f:Addr} {fd:FuncData} {ps:List Str} {sp sp':Sp} (F:FnOk P w K mg base CX k f fd ps sp) (F':FnOk P w K mg base CX k f fd ps sp'):FnOk P w K mg base CX k f fd ps (fun vs H Q E=>sp vs H Q E∨sp' vs H Q E):=
  ⟨fun vs H Q E q=>q.elim (F.len vs H Q E) (F'.len vs H Q E),fun A outer s H args us vs Q E hr he hb hv hs=>hs.elim (F.run A outer s H args us vs Q E hr he hb hv) (F'.run A outer s H args us vs Q E hr he hb hv)⟩
noncomputable def spMissB:Sp:=fun vs H Q E=>spMiss vs H Q E∨spMissN vs H Q E
noncomputable def spSpoilt:Sp:=fun vs H Q _=>∃(hung tied:Bool) (lq lr lw:Addr) (pcs:List Pc) (ls:Nls) (b k0 k1 k2 k3 k4 k5:Int),vs=[.ref lq,.ref lr,.str (wayS hung tied),.ref lw]∧SpIn H hung tied (ls.map fun x=>npts x.2 b) lq pcs∧H lr=some (.lst (ls.map fun x=>V.ref x.1))∧(∀x∈ls,RunAt H x)∧Sm H lw k0 k1 k2 k3 k4 k5∧SpOut H hung tied (ls.map fun x=>npts x.2 b) Q
section
variable {P:Program} {w:World} {K:PySem.W.Frag} {mg:Str→Option Value} {base:Heap} {f:Addr} {fd:FuncData}
theorem ok_missB (F:Fun K "miss" "miss" s_miss f fd) (D_parts_of_row:Dn P w K mg base 5 "parts_of_row" ["row","way","telling"] spPRow) (D_loose_misses:Dn P w K mg base 3 "loose_misses" ["part"] spLmiss) (D_greatest:Dn P w K mg base 2 "greatest" ["quotients"] spGreat) (D_reduced:Dn P w K mg base 4 "reduced" ["quotient"] spReduced) (D_parts_of_rowN:Dn P w K mg base 5 "parts_of_row" ["row","way","telling"] spPRowN):FnOk P w K mg base CX0 6 f fd ["row","way","telling"] spMissB:=
  FnOk.or (ok_miss F D_parts_of_row D_loose_misses D_greatest D_reduced) (ok_missN F D_parts_of_rowN D_loose_misses D_greatest D_reduced)
theorem sc_law_spoilt:FnScope ["_law_pieces","_law_parts","_law_way","_law_some","_law_at"] ["_law_pieces","_law_parts","_law_way","_law_some"] (defScope s_law_spoilt):=⟨rfl,rfl,rfl,by decide +kernel,rfl,by decide +kernel,by decide +kernel⟩
theorem ok_law_spoilt (F:Fun K "_law_spoilt" "_law_spoilt" s_law_spoilt f fd) (T:Txt mg) (D_law_behind:Dn P w K mg base 3 "_law_behind" ["_law_pieces"] spBehind) (D_law_bridged:Dn P w K mg base 1 "_law_bridged" ["_law_pieces","_law_parts","_law_at"] spBridged) (D_law_odd:Dn P w K mg base 4 "_law_odd" ["_law_pieces","_law_at","_law_way","_law_some"] spOdd):FnOk P w K mg base CX0 5 f fd ["_law_pieces","_law_parts","_law_way","_law_some"] spSpoilt:=by
  refine F.ok sc_law_spoilt (fun vs H Q E h=>?_) (fun cdv A outer s H vs Q E hr h=>?_)
  · obtain ⟨hung,tied,lq,lr,lw,pcs,ls,b,k0,k1,k2,k3,k4,k5,rfl,_⟩:=h
    rfl
  obtain ⟨hung,tied,lq,lr,lw,pcs,ls,b,k0,k1,k2,k3,k4,k5,rfl,I,hlr,hls,S,k⟩:=h
  have h24:=I.h24
  have b1:=S.b1
  have hri:=I.ris
  refine J.q ⟨_,(J.f (J.m (J.x (J.af (J.j op_eq (J.e (ixL K) (J.a 3) J.c (fun _ _=>rfl)) J.c (nomark _)) (J.ah (J.j op_eq (J.p (lenC K) rfl T.len_ PySem.boot_len (J.b (J.a 0) J.d st_N) (he:=st_N) (hpl:=any0)) J.c (nomark _)))))
      (J.h (J.l (J.k D_law_behind (hr.mono (by decide)) rfl (J.b (J.a 0) J.d st_N) (he:=st_N) (hpl:=any0))))
      J.n)
      (J.f (J.i (i:=4) sc_law_spoilt.nd rfl (Or.inl rfl) (J.g op_mod (J.e (ixL K) (J.a 3) J.c (fun _ _=>rfl)) (J.p (lenC K) rfl T.len_ PySem.boot_len (J.b (J.a 0) J.d st_N) (he:=st_N) (hpl:=any0))) (hs:=sw_B))
      (J.f (J.m (J.j op_eq (J.e (ixL K) (J.a 3) J.c (fun _ _=>rfl)) J.c (nomark _))
      (J.h (J.l (J.g op_cat (J.t (slL K) (J.a 0) J.v (J.r (J.a 4))) (J.t (slL K) (J.a 0) (J.r (J.g op_add (J.a 4) J.c)) J.v))))
      J.n)
      (J.f (J.m (J.j op_eq (J.e (ixL K) (J.a 3) J.c (fun _ _=>rfl)) J.c (nomark _))
      (J.h (J.l (J.g op_cat (J.t (slL K) (J.a 0) J.v (J.r (J.g op_add (J.a 4) J.c))) (J.t (slL K) (J.a 0) (J.r (J.a 4)) J.v))))
      J.n)
      (J.f (J.m (J.x (J.ad (J.j op_eq (J.e (ixL K) (J.a 3) J.c (fun _ _=>rfl)) J.c (nomark _)) (J.ai (J.j op_gt (J.a 4) J.c (nomark _)))))
      (J.h (J.l (J.g op_cat (J.g op_cat (J.t (slL K) (J.a 0) J.v (J.r (J.g op_sub (J.a 4) J.c))) (J.s (J.b (J.e (ixL K) (J.a 0) (J.a 4) (fun _ _=>rfl)) (J.b (J.e (ixL K) (J.a 0) (J.g op_sub (J.a 4) J.c) (fun _ _=>rfl)) J.d st_S) st_S))) (J.t (slL K) (J.a 0) (J.r (J.g op_add (J.a 4) J.c)) J.v))))
      J.n)
      (J.f (J.m (J.x (J.ad (J.j op_eq (J.e (ixL K) (J.a 3) J.c (fun _ _=>rfl)) J.c (nomark _)) (J.ai (J.j op_gt (J.p (lenC K) rfl T.len_ PySem.boot_len (J.b (J.a 1) J.d st_N) (he:=st_N) (hpl:=any0)) J.c (nomark _)))))
      (J.h (J.l (J.k D_law_bridged (hr.mono (by decide)) rfl (J.b (J.a 0) (J.b (J.a 1) (J.b (J.e (ixL K) (J.a 3) J.c (fun _ _=>rfl)) J.d st_S) st_N) st_N) (he:=st_N) (hpl:=(anyc st_N (anyc st_S any0))))))
      J.n)
      (J.h (J.l (J.k D_law_odd (hr.mono (by decide)) rfl (J.b (J.a 0) (J.b (J.a 4) (J.b (J.a 2) (J.b (J.a 3) J.d st_N) st_N) st_N) st_N) (he:=st_N) (hpl:=(anyc st_N (anyc st_N (anyc st_N any0))))))))))))),?_⟩
  with_reducible refine r_seq ?_
  refine (if_by (fun r H1=>H1=H∧(r=false→0<pcs.length)) (fun B hB=>?_) (fun H1 ⟨e1,_⟩=>?_) (fun H1 ⟨e1,hn⟩=>?_))
  · refine r_or (test_k S.at_ rfl ?_)
    refine ite2 (fun c=>hB _ _ ⟨rfl,fun z=>by cases z⟩) (fun c=>?_)
    walk_at "v"
    refine r_len (.inl (SqL.of I.hq)) ?_
    rw [prefs_len]
    walk_at "v"
    exact hB _ _ ⟨rfl,fun z=>by have:=of_decide_eq_false z;omega⟩
  · subst e1
    walk_at "v"
    exact ⟨hung,tied,_,lq,pcs,rfl,I,k⟩
  subst e1
  have hn:=hn rfl
  with_reducible refine r_next ?_
  with_reducible refine r_seq ?_
  with_reducible refine r_set ?_
  with_reducible refine r_op ?_
  with_reducible refine r_op ?_
  refine r_var rfl ?_
  refine r_c ?_
  refine r_l S.at_ (atI_nat (j:=1) rfl) ?_
  with_reducible refine r_cb ?_
  with_reducible refine r_cons ?_
  refine r_var rfl ?_
  with_reducible refine r_nil ?_
  refine r_len (.inl (SqL.of I.hq)) ?_
  rw [prefs_len]
  refine r_I (show (0:Int)<_ by omega) ?_
  have hm0:0≤k1 % (pcs.length:Int):=Int.emod_nonneg _ (by omega)
  have hm1:k1 % (pcs.length:Int)<(pcs.length:Int):=Int.emod_lt_of_pos _ (by omega)
  generalize k1 % (pcs.length:Int)=mm at hm0 hm1 ⊢
  obtain ⟨i,rfl⟩:=Int.eq_ofNat_of_zero_le hm0
  obtain ⟨pc,gp⟩:∃pc,pcs[i]?=some pc:=⟨_,List.getElem?_eq_getElem (by omega)⟩
  have hF:=I.fl
  rw [split_at gp] at hF
  have nilA:∀{H':Hp},AllP H' [] 200:=fun y hy=>absurd hy (by simp)
  with_reducible refine r_seq ?_
  refine (if_by (fun r H2=>H2=H1) (fun B hB=>test_k S.at_ rfl (hB _ _ rfl)) (fun H2 e2=>?_) (fun H2 e2=>?_)) <;> subst e2
  · walk_at "vd"
    refine sl_lo i I.hq rfl fun l1 H3 s3 e3=>?_
    walk_at "vd"
    refine sl_hi (i+1) (s3 _ _ I.hq) (by omega) fun l2 H4 s4 e4=>?_
    refine cat_p (s4 _ _ e3) e4 (by rw [List.length_take,List.length_drop];omega) fun R H5 s5 e5=>?_
    rw [← List.append_nil (pcs.take i)] at e5
    exact k.put I (s3.trans (s4.trans s5)) e5 nilA (by simp) (by omega) fun G=>bad_del hri hF G
  with_reducible refine r_next ?_
  with_reducible refine r_seq ?_
  refine (if_by (fun r H3=>H3=H2) (fun B hB=>test_k S.at_ rfl (hB _ _ rfl)) (fun H3 e3=>?_) (fun H3 e3=>?_)) <;> subst e3
  · walk_at "vd"
    refine sl_lo (i+1) I.hq (by omega) fun l1 H4 s4 e4=>?_
    walk_at "vd"
    refine sl_hi i (s4 _ _ I.hq) rfl fun l2 H5 s5 e5=>?_
    refine cat_p (s5 _ _ e4) e5 (by rw [List.length_take,List.length_drop];omega) fun R H6 s6 e6=>?_
    rw [← List.append_nil (pcs.take (i+1))] at e6
    refine k.put I (s4.trans (s5.trans s6)) e6 nilA (by simp) (by omega) fun G=>?_
    rw [take_prev gp,drop_next gp,List.append_assoc] at G
    exact bad_twin G Rat.le_refl
  with_reducible refine r_next ?_
  with_reducible refine r_seq ?_
  refine (if_by (fun r H4=>H4=H3∧(r=true→0<i)) (fun B hB=>?_) (fun H4 ⟨e4,hi⟩=>?_) (fun H4 ⟨e4,_⟩=>?_)) <;> try subst e4
  · refine and_k S.at_ rfl ?_ (hB _ _ ⟨rfl,fun z=>by cases z⟩)
    walk_at "v"
    exact hB _ _ ⟨rfl,fun z=>by have:=of_decide_eq_true z;omega⟩
  · obtain ⟨j,rfl⟩:∃j,i=j+1:=⟨i-1,by have:=hi rfl;omega⟩
    obtain ⟨pp,gpp⟩:∃pp,pcs[j]?=some pp:=⟨_,List.getElem?_eq_getElem (by omega)⟩
    walk_at "vd"
    refine sl_lo j I.hq (by omega) fun l1 H5 s5 e5=>?_
    walk_at "vd"
    refine r_l (s5 _ _ I.hq) (prefs_at gp rfl) ?_
    walk_at "vd"
    refine r_l (s5 _ _ I.hq) (prefs_at gpp (by omega)) ?_
    walk_at "vd"
    refine r_new (mk:=.lst) (by simp) fun l2 H6 s6 n6 e6=>?_
    refine cat_p (B:=[pc,pp]) (s6 _ _ e5) e6 (by rw [List.length_take];simp;omega) fun l3 H7 s7 e7=>?_
    have s07:=s5.trans (s6.trans s7)
    walk_at "vd"
    refine sl_hi (j+2) (s07 _ _ I.hq) (by omega) fun l4 H8 s8 e8=>?_
    refine cat_p (s8 _ _ e7) e8 (by rw [List.length_append,List.length_take,List.length_drop];simp;omega) fun R H9 s9 e9=>?_
    have s09:=s07.trans (s8.trans s9)
    refine k.put I s09 e9 (fun y hy=>?_) (by simp) (by omega) fun G=>?_
    · refine ((I.hps y ?_).up s09).mono (by decide)
      rcases List.mem_cons.mp hy with rfl | hy
      · exact List.mem_of_getElem? gp
      · rw [List.mem_singleton.mp hy];exact List.mem_of_getElem? gpp
    · rw [take_prev gpp,List.append_assoc,List.singleton_append] at hF
      exact bad_twin G (Rat.le_of_lt hF.mid.s)
  with_reducible refine r_next ?_
  with_reducible refine r_seq ?_
  refine (if_by (fun r H5=>H5=H4∧(r=true→2≤ls.length)) (fun B hB=>?_) (fun H5 ⟨e5,h2⟩=>?_) (fun H5 ⟨e5,_⟩=>?_)) <;> try subst e5
  · refine and_k S.at_ rfl ?_ (hB _ _ ⟨rfl,fun z=>by cases z⟩)
    walk_at "v"
    refine r_len (.inl (SqL.of hlr)) ?_
    rw [List.length_map]
    walk_at "v"
    exact hB _ _ ⟨rfl,fun z=>by have:=of_decide_eq_true z;omega⟩
  · walk_at "v"
    refine r_l S.at_ (atI_nat (j:=1) rfl) ?_
    walk_at "v"
    exact ⟨hung,tied,lq,lr,pcs,ls,b,k1,rfl,I,hlr,hls,h2 rfl,b1,k⟩
  walk_at "v"
  exact ⟨hung,tied,_,lq,lw,pcs,i,pc,k0,k1,k2,k3,k4,k5,rfl,I,gp,S,k⟩
end

noncomputable def spLaw (K:PySem.W.Frag):Sp:=fun vs H Q _=>∃(a:Addr) (ns:List Int),vs=[.ref a]∧SqL K H a (ns.map V.int)∧ns.length≤63∧∀H',Q (.bl true) H'
theorem each2_via {α β γ:Type} {J:α→β→Prop} {R:β→γ→Prop} {S:α→γ→Prop} (u:∀a b c,J a b→R b c→S a c):∀{as:List α} {bs:List β} {cs:List γ},Each2 J as bs→Each2 R bs cs→Each2 S as cs
  | [],[],[],_,_=>trivial
  | _::_,_::_,_::_,j,r=>⟨u _ _ _ j.1 r.1,each2_via u j.2 r.2⟩
  | [],_::_,_,j,_=>j.elim
  | _::_,[],_,j,_=>j.elim
  | [],[],_::_,_,r=>r.elim
  | _::_,_::_,[],_,r=>r.elim
theorem each2_eq {α β γ:Type} {J:α→β→Prop} {F:α→γ} {G:β→γ} (u:∀a b,J a b→F a=G b):∀{as:List α} {bs:List β},Each2 J as bs→as.map F=bs.map G
  | [],[],_=>rfl
  | _::_,_::_,j=>by rw [List.map_cons,List.map_cons,u _ _ j.1,each2_eq u j.2]
  | [],_::_,j=>j.elim
  | _::_,[],j=>j.elim
theorem npts_rise {hs:List Nn} {b:Int} (h:nrising hs):prise (npts hs b):=by
  unfold npts pts gh
  refine List.pairwise_map.mpr (List.pairwise_map.mpr ?_)
  exact h
theorem pieces_ne {H:Hp} {l l':Addr} {ps ps':List Pc} {n n':Nat} {Q:VK} (h:AllP H ps n) (h':AllP H ps' n') (hl:H l=some (.lst (prefs ps))) (hl':H l'=some (.lst (prefs ps'))) (e:ps.map (·.2)=ps'.map (·.2)) (q:Q (.bl false) H):rNeD (.ref l) (.ref l') H Q:=by
  have:=pieces_eq (Q:=fun v H'=>v=.bl true∧H'=H) h h' hl hl' e ⟨rfl,rfl⟩
  obtain ⟨d,d',a1,a2,a3,a4,a5,_⟩:=this
  refine ⟨d,d',a1,a2,a3,a4,?_⟩
  have:PyData.eqv d d'=true:=by injection a5
  rw [this]
  exact q
theorem six {H:Hp} {lw:Addr} {xs:List Int} (e:H lw=some (.lst (xs.map V.int))) (hl:xs.length=6) (h:∀(j:Nat) (x z:Int),xs[j]?=some x→[16,40,2,4,5,3][j]?=some z→0≤x∧x<z):∃k0 k1 k2 k3 k4 k5:Int,Sm H lw k0 k1 k2 k3 k4 k5∧0≤k3∧k3<4∧0≤k4∧k4<5:=by
  match xs,hl with
  | [k0,k1,k2,k3,k4,k5],_=>
    have a1:=h 1 k1 40 rfl rfl
    have a2:=h 2 k2 2 rfl rfl
    have a3:=h 3 k3 4 rfl rfl
    have a4:=h 4 k4 5 rfl rfl
    have a5:=h 5 k5 3 rfl rfl
    exact ⟨k0,k1,k2,k3,k4,k5,⟨e,a1.1,a2,a5⟩,a3.1,a3.2,a4.1,a4.2⟩
section
variable {P:Program} {w:World} {K:PySem.W.Frag} {mg:Str→Option Value} {base:Heap} {f:Addr} {fd:FuncData}
theorem sc_law:FnScope ["_law_script","_law_row_here","_law_bottom","_law_bound","_law_parts","_law_some","_law_way","_law_pieces","_law_spoilt_here","_law_handed_here","_law_told","_law_far"] ["_law_script"] (defScope s_law):=⟨rfl,rfl,rfl,by decide +kernel,rfl,by decide +kernel,by decide +kernel⟩
theorem ok_law (F:Fun K "law" "law" s_law f fd) (T:Txt mg) (D_law_drawn:Dn P w K mg base 4 "_law_drawn" ["_law_script","_law_place","_law_most","_law_share"] (spDrawn4 K)) (D_law_runs:Dn P w K mg base 1 "_law_runs" ["_law_row_here"] spNRuns) (D_law_row:Dn P w K mg base 3 "_law_row" ["_law_script","_law_place","_law_sizes"] (spRow K)) (D_law_own_telling:Dn P w K mg base 5 "_law_own_telling" ["_law_script","_law_place","_law_parts","_law_way","_law_bound","_law_bottom"] (spOwn K)) (D_law_spoilt:Dn P w K mg base 5 "_law_spoilt" ["_law_pieces","_law_parts","_law_way","_law_some"] spSpoilt) (D_law_handed:Dn P w K mg base 2 "_law_handed" ["_law_row_here","_law_bottom"] spHanded) (D_missB:Dn P w K mg base 6 "miss" ["row","way","telling"] spMissB) (D_law_is_ratio:Dn P w K mg base 3 "_law_is_ratio" ["_law_one"] spIs) (D_fitsN:Dn P w K mg base 7 "fits" ["row","way","bound","telling"] spFitsN):FnOk P w K mg base CX0 9 f fd ["_law_script"] (spLaw K):=by
  refine F.ok sc_law (fun vs H Q E h=>?_) (fun cdv A outer s H vs Q E hr h=>?_)
  · obtain ⟨a,ns,rfl,_⟩:=h
    rfl
  obtain ⟨a,ns,rfl,hS,hn,k⟩:=h
  have hu64:=hr.units
  refine J.q ⟨_,(J.f (Jd.ps_asg (J.k D_law_drawn (hr.mono (by decide)) rfl (J.b (J.a 0) (J.b J.c (J.b J.c (J.b J.c J.d st_C) st_C) st_C) st_N) (he:=st_N) (hpl:=(anyc st_C (anyc st_C (anyc st_C any0))))) (Jd.pgT K (n:=3) rfl (J.aj (J.u (i:=1) sc_law.nd rfl (Or.inl rfl)) (J.aj (J.u (i:=2) sc_law.nd rfl (Or.inl rfl)) (J.aj (J.u (i:=3) sc_law.nd rfl (Or.inl rfl)) Jd.pgs_nil)))))
      (J.f (J.i (i:=4) sc_law.nd rfl (Or.inl rfl) (J.k D_law_runs (hr.mono (by decide)) rfl (J.b (J.a 1) J.d st_N) (he:=st_N) (hpl:=any0)) (hs:=sw_K))
      (J.f (J.i (i:=5) sc_law.nd rfl (Or.inl rfl) (J.k D_law_row (hr.mono (by decide)) rfl (J.b (J.a 0) (J.b J.c (J.b (J.s (J.b J.c (J.b J.c (J.b J.c (J.b J.c (J.b J.c (J.b J.c J.d st_C) st_C) st_C) st_C) st_C) st_C)) J.d st_L) st_C) st_N) (he:=st_N) (hpl:=(anyc st_C (anyc st_L any0)))) (hs:=sw_K))
      (J.f (J.i (i:=6) sc_law.nd rfl (Or.inl rfl) (J.e (ixL K) (J.s (J.b J.z (J.b J.z (J.b J.z (J.b J.z J.d st_C) st_C) st_C) st_C)) (J.e (ixL K) (J.a 5) J.c (fun _ _=>rfl)) (fun _ _=>rfl)) (hs:=sw_S))
      (J.f (J.i (i:=7) sc_law.nd rfl (Or.inl rfl) (J.k D_law_own_telling (hr.mono (by decide)) rfl (J.b (J.a 0) (J.b J.c (J.b (J.a 4) (J.b (J.a 6) (J.b (J.a 3) (J.b (J.a 2) J.d st_N) st_N) st_N) st_N) st_C) st_N) (he:=st_N) (hpl:=(anyc st_C (anyc st_N (anyc st_N (anyc st_N (anyc st_N any0))))))) (hs:=sw_K))
      (J.f (J.i (i:=8) sc_law.nd rfl (Or.inl rfl) (J.k D_law_spoilt (hr.mono (by decide)) rfl (J.b (J.a 7) (J.b (J.a 4) (J.b (J.a 6) (J.b (J.a 5) J.d st_N) st_N) st_N) st_N) (he:=st_N) (hpl:=(anyc st_N (anyc st_N (anyc st_N any0))))) (hs:=sw_K))
      (J.f (J.i (i:=9) sc_law.nd rfl (Or.inl rfl) (J.k D_law_handed (hr.mono (by decide)) rfl (J.b (J.a 1) (J.b (J.a 2) J.d st_N) st_N) (he:=st_N) (hpl:=(anyc st_N any0))) (hs:=sw_K))
      (J.f (J.m (Jd.pt_not (J.ak (J.k D_law_is_ratio (hr.mono (by decide)) rfl (J.b (J.k D_missB (hr.mono (by decide)) rfl (J.b (J.a 9) (J.b (J.a 6) (J.b (Jd.pe_callTy call_list_of rfl T.list_ PyProof.Rows.boot_list (J.b (J.a 7) J.d st_N)) J.d st_K) st_N) st_N) (he:=st_N) (hpl:=(anyc st_N (anyc st_K any0)))) J.d st_K) (he:=st_K) (hpl:=any0))))
      (J.h (J.l Jd.pe_bl))
      J.n)
      (J.f (J.i (i:=10) sc_law.nd rfl (Or.inl rfl) (Jd.pe_callTy call_list_of rfl T.list_ PyProof.Rows.boot_list (J.b (J.a 8) J.d st_N)) (hs:=sw_K))
      (J.f (J.i (i:=11) sc_law.nd rfl (Or.inl rfl) (J.e (ixL K) (J.s (J.b (J.o (J.b J.c (J.b J.c J.d st_C) st_C)) (J.b (J.o (J.b J.c (J.b J.c J.d st_C) st_C)) (J.b (J.o (J.b (J.g op_pow J.c J.c) (J.b J.c J.d st_C) st_B)) (J.b (J.o (J.b (J.g op_pow J.c J.c) (J.b J.c J.d st_C) st_B)) (J.b (J.o (J.b J.c (J.b J.c J.d st_C) st_C)) J.d st_T) st_T) st_T) st_T) st_T)) (J.e (ixL K) (J.a 5) J.c (fun _ _=>rfl)) (fun _ _=>rfl)) (hs:=sw_S))
      (J.f (J.m (J.x (J.af (J.j op_notN (J.k D_missB (hr.mono (by decide)) rfl (J.b (J.a 9) (J.b (J.a 6) (J.b (J.a 10) J.d st_N) st_N) st_N) (he:=st_N) (hpl:=(anyc st_N (anyc st_N any0)))) J.w (nomark _)) (J.ah (J.j op_notB (J.k D_fitsN (hr.mono (by decide)) rfl (J.b (J.a 9) (J.b (J.a 6) (J.b (J.a 11) (J.b (J.a 10) J.d st_N) st_N) st_N) st_N) (he:=st_N) (hpl:=(anyc st_N (anyc st_N (anyc st_N any0))))) Jd.pe_bl (nomark _)))))
      (J.h (J.l Jd.pe_bl))
      J.n)
      (J.f (J.m (J.x (J.af (J.j (op_neD hu64) (J.a 10) (J.a 8) (nomark _)) (J.ah (J.j (op_neD hu64) (J.a 9) (J.k D_law_handed (hr.mono (by decide)) rfl (J.b (J.a 1) (J.b (J.a 2) J.d st_N) st_N) (he:=st_N) (hpl:=(anyc st_N any0))) (nomark _)))))
      (J.h (J.l Jd.pe_bl))
      J.n)
      (J.h (J.l (J.k D_law_is_ratio (hr.mono (by decide)) rfl (J.b (J.k D_missB (hr.mono (by decide)) rfl (J.b (J.a 9) (J.b (J.a 6) (J.b (Jd.pe_callTy call_list_of rfl T.list_ PyProof.Rows.boot_list (J.b (J.a 7) J.d st_N)) J.d st_K) st_N) st_N) (he:=st_N) (hpl:=(anyc st_N (anyc st_K any0)))) J.d st_K) (he:=st_K) (hpl:=any0)))))))))))))))),?_⟩
  walk_at "v"
  refine r_asg ?_
  walk_at "v"
  refine ⟨a,ns,0,12,2,rfl,hS,by decide,by decide,by decide,by decide,by decide,fun p R hs b c H1 s1 e1 nR eR hrow hle hri hb zb hc zc=>?_⟩
  refine r_unpack3 e1 ?_
  walk_at "v"
  refine ⟨R,hs,45,150,rfl,eR,hrow,by omega,fun D ls H2 s2 nD eD hls hmap=>?_⟩
  have hruns:∀x∈ls,RunAt H2 x:=fun x hx=>by
    have hm:x.2∈parts nsm hs hs.length:=by rw [← hmap];exact List.mem_map.mpr ⟨x,hx,rfl⟩
    obtain ⟨o1,o2,o3⟩:=parts_own hs.length x.2 hm
    rw [List.take_length] at o3
    exact ⟨(hls x hx).2,fun y hy=>(hrow y (o3.subset hy)).up s2,o2,hri.sublist o3,List.length_pos_iff.mpr o1⟩
  have hflat:(ls.map (·.2)).flatten=hs.filter nsm:=by rw [hmap,parts_flat,List.take_length]
  have h12:(ls.map (·.2)).flatten.length≤12:=by rw [hflat];exact Nat.le_trans (List.length_filter_le ..) hle
  walk_at "v"
  refine r_new (mk:=.lst) (by simp) fun lz H3 s3 n3 e3=>?_
  have s03:=s1.trans (s2.trans s3)
  walk_at "v"
  refine ⟨a,ns,1,lz,[16,40,2,4,5,3],rfl,s03.seq hS,by decide,by decide,e3,by decide,by decide,fun lw xs H4 s4 n4 e4 hlx hxs=>?_⟩
  obtain ⟨k0,k1,k2,k3,k4,k5,S,h30,h34,h40,h45⟩:=six e4 hlx hxs
  walk_at "v"
  refine r_new (mk:=.lst) (by simp) fun lv H5 s5 n5 e5=>?_
  walk_at "v"
  refine r_l (s5 _ _ S.at_) (atI_nat (j:=3) rfl) ?_
  have pick:∃hung tied:Bool,atI [V.str "apart",.str "joined",.str "spans",.str "chain"] k3=some (.str (wayS hung tied)):=by
    rcases (show k3=0∨k3=1∨k3=2∨k3=3 by omega) with rfl | rfl | rfl | rfl
    · exact ⟨false,false,atI_nat (j:=0) rfl⟩
    · exact ⟨true,false,atI_nat (j:=1) rfl⟩
    · exact ⟨false,true,atI_nat (j:=2) rfl⟩
    · exact ⟨true,true,atI_nat (j:=3) rfl⟩
  obtain ⟨hung,tied,hway⟩:=pick
  refine r_l e5 hway ?_
  have s25:=s3.trans (s4.trans s5)
  have s05:=s1.trans (s2.trans s25)
  walk_at "v"
  refine ⟨a,ns,2,D,ls,hung,tied,c,b,rfl,s05.seq hS,by decide,by decide,s25 _ _ eD,fun x hx=>(hruns x hx).up s25,h12,zc,hb,zb,fun Rp bs H6 s6 n6 e6 hP hE hbl=>?_⟩
  have s26:=s25.trans s6
  have hE':Each2 (fun r b'=>ShpW hung tied (npts r b) (b'.map (·.2))) (parts nsm hs hs.length) bs:=by rw [← hmap];exact hE
  have hV:Val hung tied (ls.map fun x=>npts x.2 b) (bs.flatten.map (·.2)):=by
    refine ⟨bs.map fun b'=>b'.map (·.2),?_,by rw [List.map_flatten]⟩
    have:=each2_map (R:=ShpW hung tied) (f:=fun r=>npts r b) (g:=fun b':List Pc=>b'.map (·.2)) hE
    rw [List.map_map] at this
    exact this
  have hfl:(ls.map fun x=>npts x.2 b).flatten=npts (hs.filter nsm) b:=by
    rw [← hflat]
    unfold npts pts gh
    rw [List.map_flatten,List.map_flatten,List.map_map,List.map_map]
    rfl
  have hpr:prise (ls.map fun x=>npts x.2 b).flatten:=by rw [hfl];exact npts_rise (hri.sublist List.filter_sublist)
  have hne:∀r∈ls.map fun x=>npts x.2 b,r≠[]:=fun r hr z=>by
    obtain ⟨x,hx,rfl⟩:=List.mem_map.mp hr
    have h0:=congrArg List.length z
    rw [npts_len,List.length_nil] at h0
    have:=(hruns x hx).pos
    omega
  have I:SpIn H6 hung tied (ls.map fun x=>npts x.2 b) Rp bs.flatten:=⟨e6,hP,hbl,hV.flat hpr hne,hpr⟩
  walk_at "v"
  refine ⟨hung,tied,Rp,D,lw,bs.flatten,ls,b,k0,k1,k2,k3,k4,k5,rfl,I,s26 _ _ eD,fun x hx=>(hruns x hx).up s26,S.up (s5.trans s6),fun Rs qcs H7 s7 e7 hQ h30 hbad=>?_⟩
  have s27:=s26.trans s7
  walk_at "v"
  refine ⟨R,hs,b,45,150,80,150,rfl,(s2.trans s27) _ _ eR,hrow.up (s2.trans s27),by omega,hb,zb,by decide,by decide,by decide,by decide,fun L es H8 s8 nL eL hR hmp=>?_⟩
  have hlen:=link_len hmp
  have hre:=link_rising hmp hri
  have hno:¬Val hung tied ((parts smp es es.length).map pts) (qcs.map (·.2)):=fun z=>by
    have e:(parts smp es es.length).map pts=ls.map fun x=>npts x.2 b:=by
      have e:=each2_eq (F:=pts) (G:=fun r=>npts r b) (fun r r' j=>pts_congr j) (runs_same hmp)
      rw [← hmap,List.map_map] at e
      exact e
    rw [e] at z
    exact hbad (z.flat hpr hne)
  have hshp:Each2 (fun r b'=>ShpW hung tied (pts r) (b'.map (·.2))) (parts smp es es.length) bs:=each2_via (fun a c d j r=>by rw [pts_congr j];exact r) (runs_same hmp) hE'
  walk_at "v"
  have s68:=s7.trans s8
  refine ⟨Rp,_,rfl,.inl (SqL.of (s68 _ _ e6)),fun lt nlt=>?_⟩
  have s9:Same H8 (upd H8 lt (.lst (prefs bs.flatten))):=same_new nlt _
  have e9:upd H8 lt (.lst (prefs bs.flatten)) lt=some (.lst (prefs bs.flatten)):=upd_same
  generalize upd H8 lt (.lst (prefs bs.flatten))=H9 at s9 e9 ⊢
  have MI:∀{H':Hp} {lt:Addr},Same H8 H'→H' lt=some (.lst (prefs bs.flatten))→MissIn H' hung tied L lt es bs.flatten bs 150 160:=fun s e=>⟨s _ _ eL,hR.up s,hre,by omega,by decide,e,hP.up (s68.trans s),rfl,by omega,by decide,hshp⟩
  walk_at "v"
  refine .inl ⟨hung,tied,L,lt,es,bs.flatten,bs,150,160,rfl,MI s9 e9,fun r M HA sA fA tA=>?_⟩
  walk_at "v"
  refine is_fr fA (by decide) fun HB sB=>?_
  have s8B:=s9.trans (sA.trans sB)
  walk_at "v"
  refine iteF ?_
  walk_at "v"
  refine ⟨Rs,_,rfl,.inl (SqL.of ((s8.trans s8B) _ _ e7)),fun ld nld=>?_⟩
  have sC:Same HB (upd HB ld (.lst (prefs qcs))):=same_new nld _
  have eC:upd HB ld (.lst (prefs qcs)) ld=some (.lst (prefs qcs)):=upd_same
  generalize upd HB ld (.lst (prefs qcs))=HC at sC eC ⊢
  have s8C:=s8B.trans sC
  walk_at "v"
  refine r_new (mk:=.tup) (by simp) fun w0 HD sD nD' eD'=>?_
  walk_at "v"
  refine r_new (mk:=.tup) (by simp) fun w1 HE sE nE eE=>?_
  walk_at "v"
  refine r_new (mk:=.tup) (by simp) fun w2 HF sF nF eF=>?_
  walk_at "v"
  refine r_new (mk:=.tup) (by simp) fun w3 HG sG nG eG=>?_
  walk_at "v"
  refine r_new (mk:=.tup) (by simp) fun w4 HI sI nI eI=>?_
  walk_at "v"
  refine r_new (mk:=.lst) (by simp) fun lf HJ sJ nJ eJ=>?_
  have sCJ:=sD.trans (sE.trans (sF.trans (sG.trans (sI.trans sJ))))
  have s8J:=s8C.trans sCJ
  have s4J:=s5.trans (s6.trans (s7.trans (s8.trans s8J)))
  walk_at "v"
  refine r_l (s4J _ _ S.at_) (atI_nat (j:=4) rfl) ?_
  have pickf:∃pf:Addr,atI [V.ref w0,.ref w1,.ref w2,.ref w3,.ref w4] k4=some (.ref pf):=by
    rcases (show k4=0∨k4=1∨k4=2∨k4=3∨k4=4 by omega) with rfl | rfl | rfl | rfl | rfl
    · exact ⟨w0,atI_nat (j:=0) rfl⟩
    · exact ⟨w1,atI_nat (j:=1) rfl⟩
    · exact ⟨w2,atI_nat (j:=2) rfl⟩
    · exact ⟨w3,atI_nat (j:=3) rfl⟩
    · exact ⟨w4,atI_nat (j:=4) rfl⟩
  obtain ⟨pf,hpf⟩:=pickf
  refine r_l eJ hpf ?_
  have NI:∀{H':Hp},Same HJ H'→NoIn H' hung tied L ld es qcs 150 200:=fun s=>⟨(s8J.trans s) _ _ eL,hR.up (s8J.trans s),hre,by omega,by decide,(sCJ.trans s) _ _ eC,hQ.up (s8.trans (s8J.trans s)),by omega,by decide,hno⟩
  walk_at "v"
  refine .inr ⟨hung,tied,L,ld,es,qcs,150,200,rfl,NI (Same.refl _),fun HK sK=>?_⟩
  refine ⟨rfl,?_⟩
  refine ⟨_,rfl,?_⟩
  refine iteF ?_
  walk_at "v"
  refine ⟨hung,tied,L,ld,pf,es,qcs,150,200,rfl,NI sK,fun HL sL=>?_⟩
  refine ⟨_,_,rfl,rfl,?_⟩
  refine ⟨_,rfl,?_⟩
  refine iteF ?_
  have sJL:=sK.trans sL
  have s8L:=s8J.trans sJL
  have s7L:=s8.trans s8L
  walk_at "v"
  refine pieces_ne (hQ.up s7L) (hQ.up s7L) ((sCJ.trans sJL) _ _ eC) (s7L _ _ e7) rfl ?_
  refine ⟨_,rfl,?_⟩
  refine iteF ?_
  have s2L:=s27.trans s7L
  walk_at "v"
  refine ⟨R,hs,b,45,150,80,150,rfl,(s2.trans s2L) _ _ eR,hrow.up (s2.trans s2L),by omega,hb,zb,by decide,by decide,by decide,by decide,fun L2 es2 HM sM nL2 eL2 hR2 hmp2=>?_⟩
  refine rows_ne (hR.up (s8L.trans sM)) hR2 ((s8L.trans sM) _ _ eL) eL2 (by rw [hmp,hmp2]) ?_
  refine ⟨_,rfl,?_⟩
  refine iteF ?_
  have s8M:=s8L.trans sM
  walk_at "v"
  refine ⟨Rp,_,rfl,.inl (SqL.of ((s68.trans s8M) _ _ e6)),fun lt2 nlt2=>?_⟩
  have sN:Same HM (upd HM lt2 (.lst (prefs bs.flatten))):=same_new nlt2 _
  have eN:upd HM lt2 (.lst (prefs bs.flatten)) lt2=some (.lst (prefs bs.flatten)):=upd_same
  generalize upd HM lt2 (.lst (prefs bs.flatten))=HN at sN eN ⊢
  walk_at "v"
  refine .inl ⟨hung,tied,L,lt2,es,bs.flatten,bs,150,160,rfl,MI (s8M.trans sN) eN,fun r2 M2 HO sO fO tO=>?_⟩
  walk_at "v"
  exact is_fr fO (by decide) fun HP sP=>k HP
end


theorem all_mk {l:PySem.W.OpenLaw} {w:World} {K:PySem.W.Frag} {h:Heap} {mg:Str→Option Value} {fa:Addr} (X:K.In h) (G:h.Ns mainGlobals mg) (hfa:mg "law"=some (.ref fa)) {tk_HEAD:Tok}
    (h_law_cell:Fx K "_law_cell" s_law_cell)
    (h_law_mix:Fx K "_law_mix" s_law_mix)
    (h_law_row:Fx K "_law_row" s_law_row)
    (h_law_ratio:Fx K "_law_ratio" s_law_ratio)
    (h_law_is_ratio:Fx K "_law_is_ratio" s_law_is_ratio)
    (h_plain_divisor:Fx K "plain_divisor" s_plain_divisor)
    (h_steps_of_heads:Fx K "steps_of_heads" s_steps_of_heads)
    (h_divisor:Fx K "divisor" s_divisor)
    (h_ratio:Fx K "ratio" s_ratio)
    (h_reduced:Fx K "reduced" s_reduced)
    (h_loose_plus:Fx K "loose_plus" s_loose_plus)
    (h_loose_minus:Fx K "loose_minus" s_loose_minus)
    (h_loose_times:Fx K "loose_times" s_loose_times)
    (h_order:Fx K "order" s_order)
    (h_size:Fx K "size" s_size)
    (h_runs:Fx K "runs" s_runs)
    (h_law_shaped:Fx K "_law_shaped" s_law_shaped)
    (h_law_times:Fx K "_law_times" s_law_times)
    (h_law_picked:Fx K "_law_picked" s_law_picked)
    (h_law_drawn:Fx K "_law_drawn" s_law_drawn)
    (h_law_handed:Fx K "_law_handed" s_law_handed)
    (h_greatest:Fx K "greatest" s_greatest)
    (h_law_runs:Fx K "_law_runs" s_law_runs)
    (h_moment_of:Fx K "moment_of" s_moment_of)
    (h_parts_lying_apart:Fx K "parts_lying_apart" s_parts_lying_apart)
    (h_part_of_one:Fx K "part_of_one" s_part_of_one)
    (h_held_by:Fx K "held_by" s_held_by)
    (h_parts_hanging_together:Fx K "parts_hanging_together" s_parts_hanging_together)
    (h_has_one_height:Fx K "has_one_height" s_has_one_height)
    (h_ends_on_samples:Fx K "ends_on_samples" s_ends_on_samples)
    (h_parts_of_run:Fx K "parts_of_run" s_parts_of_run)
    (h_parts_of_row:Fx K "parts_of_row" s_parts_of_row)
    (h_loose_height_on:Fx K "loose_height_on" s_loose_height_on)
    (h_loose_misses:Fx K "loose_misses" s_loose_misses)
    (h_miss:Fx K "miss" s_miss)
    (h_fits:Fx K "fits" s_fits)
    (h_law_put:Fx K "_law_put" s_law_put)
    (h_law_lone:Fx K "_law_lone" s_law_lone)
    (h_law_loose:Fx K "_law_loose" s_law_loose)
    (h_law_node:Fx K "_law_node" s_law_node)
    (h_law_hung:Fx K "_law_hung" s_law_hung)
    (h_law_own_telling:Fx K "_law_own_telling" s_law_own_telling)
    (h_law_added:Fx K "_law_added" s_law_added)
    (h_law_bound_first:Fx K "_law_bound_first" s_law_bound_first)
    (h_law_bound_last:Fx K "_law_bound_last" s_law_bound_last)
    (h_law_joint:Fx K "_law_joint" s_law_joint)
    (h_law_changed:Fx K "_law_changed" s_law_changed)
    (h_law_behind:Fx K "_law_behind" s_law_behind)
    (h_law_moved_turn:Fx K "_law_moved_turn" s_law_moved_turn)
    (h_law_odd:Fx K "_law_odd" s_law_odd)
    (h_law_bridged:Fx K "_law_bridged" s_law_bridged)
    (h_law_spoilt:Fx K "_law_spoilt" s_law_spoilt)
    (h_law:Fx K "law" s_law)
    (g_HEAD:PySem.W.nsIn K mainGlobals "HEAD"=some (some (.int 256 tk_HEAD)))
    (z_len:PySem.W.nsIn K mainGlobals "len"=some none)
    (z_abs:PySem.W.nsIn K mainGlobals "abs"=some none)
    (z_range:PySem.W.nsIn K mainGlobals "range"=some none)
    (z_isinstance:PySem.W.nsIn K mainGlobals "isinstance"=some none)
    (z_int:PySem.W.nsIn K mainGlobals "int"=some none)
    (z_bool:PySem.W.nsIn K mainGlobals "bool"=some none)
    (z_tuple:PySem.W.nsIn K mainGlobals "tuple"=some none)
    (z_list:PySem.W.nsIn K mainGlobals "list"=some none)
    (z_max:PySem.W.nsIn K mainGlobals "max"=some none)
    (z_min:PySem.W.nsIn K mainGlobals "min"=some none)
    (z_enumerate:PySem.W.nsIn K mainGlobals "enumerate"=some none)
    (z_zip:PySem.W.nsIn K mainGlobals "zip"=some none)
    (z_all:PySem.W.nsIn K mainGlobals "all"=some none)
    (z_any:PySem.W.nsIn K mainGlobals "any"=some none)
    (z_sum:PySem.W.nsIn K mainGlobals "sum"=some none)
    (z_sorted:PySem.W.nsIn K mainGlobals "sorted"=some none)
    (z_reversed:PySem.W.nsIn K mainGlobals "reversed"=some none)
    (z_str:PySem.W.nsIn K mainGlobals "str"=some none) :
    ∃fd:FuncData,(∀(s:Shared) (v:Value),BindsTo s fd ⟨[v],[]⟩ [("_law_script",v)])∧∀base:Heap,K.In base→base.Ns mainGlobals mg→FnOk l.prog w K mg base CX0 9 fa fd ["_law_script"] (spLaw K):=by
  obtain ⟨_,fd_law,a_law,F_law⟩:=h_law
  have e:=hfa.symm.trans (PySem.W.mg_of X G a_law)
  cases e
  have T:Txt mg:=⟨PySem.W.mg_none_of X G z_len,PySem.W.mg_none_of X G z_abs,PySem.W.mg_none_of X G z_range,PySem.W.mg_none_of X G z_isinstance,PySem.W.mg_none_of X G z_int,PySem.W.mg_none_of X G z_bool,PySem.W.mg_none_of X G z_tuple,PySem.W.mg_none_of X G z_list,PySem.W.mg_none_of X G z_max,PySem.W.mg_none_of X G z_min,PySem.W.mg_none_of X G z_enumerate,PySem.W.mg_none_of X G z_zip,PySem.W.mg_none_of X G z_all,PySem.W.mg_none_of X G z_any,PySem.W.mg_none_of X G z_sum,PySem.W.mg_none_of X G z_sorted,PySem.W.mg_none_of X G z_reversed,PySem.W.mg_none_of X G z_str⟩
  obtain ⟨_,_,a_law_cell,F_law_cell⟩:=h_law_cell
  obtain ⟨_,_,a_law_mix,F_law_mix⟩:=h_law_mix
  obtain ⟨_,_,a_law_row,F_law_row⟩:=h_law_row
  obtain ⟨_,_,a_law_ratio,F_law_ratio⟩:=h_law_ratio
  obtain ⟨_,_,a_law_is_ratio,F_law_is_ratio⟩:=h_law_is_ratio
  obtain ⟨_,_,a_plain_divisor,F_plain_divisor⟩:=h_plain_divisor
  obtain ⟨_,_,a_steps_of_heads,F_steps_of_heads⟩:=h_steps_of_heads
  obtain ⟨_,_,a_divisor,F_divisor⟩:=h_divisor
  obtain ⟨_,_,a_ratio,F_ratio⟩:=h_ratio
  obtain ⟨_,_,a_reduced,F_reduced⟩:=h_reduced
  obtain ⟨_,_,a_loose_plus,F_loose_plus⟩:=h_loose_plus
  obtain ⟨_,_,a_loose_minus,F_loose_minus⟩:=h_loose_minus
  obtain ⟨_,_,a_loose_times,F_loose_times⟩:=h_loose_times
  obtain ⟨_,_,a_order,F_order⟩:=h_order
  obtain ⟨_,_,a_size,F_size⟩:=h_size
  obtain ⟨_,_,a_runs,F_runs⟩:=h_runs
  obtain ⟨_,_,a_law_shaped,F_law_shaped⟩:=h_law_shaped
  obtain ⟨_,_,a_law_times,F_law_times⟩:=h_law_times
  obtain ⟨_,_,a_law_picked,F_law_picked⟩:=h_law_picked
  obtain ⟨_,_,a_law_drawn,F_law_drawn⟩:=h_law_drawn
  obtain ⟨_,_,a_law_handed,F_law_handed⟩:=h_law_handed
  obtain ⟨_,_,a_greatest,F_greatest⟩:=h_greatest
  obtain ⟨_,_,a_law_runs,F_law_runs⟩:=h_law_runs
  obtain ⟨_,_,a_moment_of,F_moment_of⟩:=h_moment_of
  obtain ⟨_,_,a_parts_lying_apart,F_parts_lying_apart⟩:=h_parts_lying_apart
  obtain ⟨_,_,a_part_of_one,F_part_of_one⟩:=h_part_of_one
  obtain ⟨_,_,a_held_by,F_held_by⟩:=h_held_by
  obtain ⟨_,_,a_parts_hanging_together,F_parts_hanging_together⟩:=h_parts_hanging_together
  obtain ⟨_,_,a_has_one_height,F_has_one_height⟩:=h_has_one_height
  obtain ⟨_,_,a_ends_on_samples,F_ends_on_samples⟩:=h_ends_on_samples
  obtain ⟨_,_,a_parts_of_run,F_parts_of_run⟩:=h_parts_of_run
  obtain ⟨_,_,a_parts_of_row,F_parts_of_row⟩:=h_parts_of_row
  obtain ⟨_,_,a_loose_height_on,F_loose_height_on⟩:=h_loose_height_on
  obtain ⟨_,_,a_loose_misses,F_loose_misses⟩:=h_loose_misses
  obtain ⟨_,_,a_miss,F_miss⟩:=h_miss
  obtain ⟨_,_,a_fits,F_fits⟩:=h_fits
  obtain ⟨_,_,a_law_put,F_law_put⟩:=h_law_put
  obtain ⟨_,_,a_law_lone,F_law_lone⟩:=h_law_lone
  obtain ⟨_,_,a_law_loose,F_law_loose⟩:=h_law_loose
  obtain ⟨_,_,a_law_node,F_law_node⟩:=h_law_node
  obtain ⟨_,_,a_law_hung,F_law_hung⟩:=h_law_hung
  obtain ⟨_,_,a_law_own_telling,F_law_own_telling⟩:=h_law_own_telling
  obtain ⟨_,_,a_law_added,F_law_added⟩:=h_law_added
  obtain ⟨_,_,a_law_bound_first,F_law_bound_first⟩:=h_law_bound_first
  obtain ⟨_,_,a_law_bound_last,F_law_bound_last⟩:=h_law_bound_last
  obtain ⟨_,_,a_law_joint,F_law_joint⟩:=h_law_joint
  obtain ⟨_,_,a_law_changed,F_law_changed⟩:=h_law_changed
  obtain ⟨_,_,a_law_behind,F_law_behind⟩:=h_law_behind
  obtain ⟨_,_,a_law_moved_turn,F_law_moved_turn⟩:=h_law_moved_turn
  obtain ⟨_,_,a_law_odd,F_law_odd⟩:=h_law_odd
  obtain ⟨_,_,a_law_bridged,F_law_bridged⟩:=h_law_bridged
  obtain ⟨_,_,a_law_spoilt,F_law_spoilt⟩:=h_law_spoilt
  have C_HEAD:Cn mg "HEAD" 256:=⟨_,PySem.W.mg_of X G g_HEAD⟩
  refine ⟨fd_law,fun s v=>?_,fun base _ _=>?_⟩
  · obtain ⟨_,_,_,_,_,_,_,_,_,rfl,_,_⟩:=F_law.ex
    exact .of_eq rfl
  have D_law_cell:=dnm l.prog w base X G a_law_cell F_law_cell (ok_law_cell F_law_cell T) (F_law_cell.binds2 fun _ _ _ _ _ _ _ _=>rfl)
  have D_law_mix:=dnm l.prog w base X G a_law_mix F_law_mix (ok_law_mix F_law_mix ) (F_law_mix.binds2 fun _ _ _ _ _ _ _ _=>rfl)
  have D_law_row:=dnm l.prog w base X G a_law_row F_law_row (ok_law_row F_law_row T D_law_cell D_law_mix) (F_law_row.binds3 fun _ _ _ _ _ _ _ _ _=>rfl)
  have D_law_ratio:=dnm l.prog w base X G a_law_ratio F_law_ratio (ok_law_ratio F_law_ratio T) (F_law_ratio.binds2 fun _ _ _ _ _ _ _ _=>rfl)
  have D_law_is_ratio:=dnm l.prog w base X G a_law_is_ratio F_law_is_ratio (ok_law_is_ratio F_law_is_ratio T D_law_ratio) (F_law_is_ratio.binds1 fun _ _ _ _ _ _ _=>rfl)
  have D_plain_divisor:=dnm l.prog w base X G a_plain_divisor F_plain_divisor (ok_plain_divisor F_plain_divisor T) (F_plain_divisor.binds2 fun _ _ _ _ _ _ _ _=>rfl)
  have D_steps_of_heads:=dnm l.prog w base X G a_steps_of_heads F_steps_of_heads (ok_steps_of_heads F_steps_of_heads C_HEAD) (F_steps_of_heads.binds2 fun _ _ _ _ _ _ _ _=>rfl)
  have D_divisor:=dnm l.prog w base X G a_divisor F_divisor (ok_divisor F_divisor T C_HEAD D_plain_divisor D_steps_of_heads) (F_divisor.binds2 fun _ _ _ _ _ _ _ _=>rfl)
  have D_ratio:=dnm l.prog w base X G a_ratio F_ratio (ok_ratio F_ratio T D_divisor) (F_ratio.binds2 fun _ _ _ _ _ _ _ _=>rfl)
  have D_reduced:=dnm l.prog w base X G a_reduced F_reduced (ok_reduced F_reduced D_ratio) (F_reduced.binds1 fun _ _ _ _ _ _ _=>rfl)
  have D_loose_plus:=dnm l.prog w base X G a_loose_plus F_loose_plus (ok_loose_plus F_loose_plus ) (F_loose_plus.binds2 fun _ _ _ _ _ _ _ _=>rfl)
  have D_loose_minus:=dnm l.prog w base X G a_loose_minus F_loose_minus (ok_loose_minus F_loose_minus ) (F_loose_minus.binds2 fun _ _ _ _ _ _ _ _=>rfl)
  have D_loose_times:=dnm l.prog w base X G a_loose_times F_loose_times (ok_loose_times F_loose_times ) (F_loose_times.binds2 fun _ _ _ _ _ _ _ _=>rfl)
  have D_order:=dnm l.prog w base X G a_order F_order (ok_order F_order ) (F_order.binds2 fun _ _ _ _ _ _ _ _=>rfl)
  have D_size:=dnm l.prog w base X G a_size F_size (ok_size F_size T) (F_size.binds1 fun _ _ _ _ _ _ _=>rfl)
  have D_runs:=dnm l.prog w base X G a_runs F_runs (ok_runs F_runs T) (F_runs.binds1 fun _ _ _ _ _ _ _=>rfl)
  have D_law_shaped:=dnm l.prog w base X G a_law_shaped F_law_shaped (ok_law_shaped F_law_shaped T) (F_law_shaped.binds3 fun _ _ _ _ _ _ _ _ _=>rfl)
  have D_law_times:=dnm l.prog w base X G a_law_times F_law_times (ok_law_times F_law_times ) (F_law_times.binds2 fun _ _ _ _ _ _ _ _=>rfl)
  have D_law_picked:=dnm l.prog w base X G a_law_picked F_law_picked (ok_law_picked F_law_picked T) (F_law_picked.binds2 fun _ _ _ _ _ _ _ _=>rfl)
  have D_law_drawn:=dnm l.prog w base X G a_law_drawn F_law_drawn (ok_law_drawn F_law_drawn T D_law_row D_law_shaped D_law_picked D_law_times) (F_law_drawn.binds4 fun _ _ _ _ _ _ _ _ _ _=>rfl)
  have D_law_handed:=dnm l.prog w base X G a_law_handed F_law_handed (ok_law_handed F_law_handed D_law_ratio) (F_law_handed.binds2 fun _ _ _ _ _ _ _ _=>rfl)
  have D_greatest:=dnm l.prog w base X G a_greatest F_greatest (ok_greatest F_greatest D_order) (F_greatest.binds1 fun _ _ _ _ _ _ _=>rfl)
  have D_law_runs:=dnm l.prog w base X G a_law_runs F_law_runs (ok_law_runs F_law_runs T) (F_law_runs.binds1 fun _ _ _ _ _ _ _=>rfl)
  have D_moment_of:=dnm l.prog w base X G a_moment_of F_moment_of (ok_moment_of F_moment_of ) (F_moment_of.binds1 fun _ _ _ _ _ _ _=>rfl)
  have D_parts_lying_apart:=dnm l.prog w base X G a_parts_lying_apart F_parts_lying_apart (ok_parts_lying_apart F_parts_lying_apart T D_moment_of) (F_parts_lying_apart.binds2 fun _ _ _ _ _ _ _ _=>rfl)
  have D_part_of_one:=dnm l.prog w base X G a_part_of_one F_part_of_one (ok_part_of_one F_part_of_one T D_moment_of) (F_part_of_one.binds2 fun _ _ _ _ _ _ _ _=>rfl)
  have D_held_by:=dnm l.prog w base X G a_held_by F_held_by (ok_held_by F_held_by D_order D_moment_of) (F_held_by.binds2 fun _ _ _ _ _ _ _ _=>rfl)
  have D_parts_hanging_together:=dnm l.prog w base X G a_parts_hanging_together F_parts_hanging_together (ok_parts_hanging_together F_parts_hanging_together T D_part_of_one D_moment_of D_order D_held_by) (F_parts_hanging_together.binds2 fun _ _ _ _ _ _ _ _=>rfl)
  have D_has_one_height:=dnm l.prog w base X G a_has_one_height F_has_one_height (ok_has_one_height F_has_one_height ) (F_has_one_height.binds1 fun _ _ _ _ _ _ _=>rfl)
  have D_ends_on_samples:=dnm l.prog w base X G a_ends_on_samples F_ends_on_samples (ok_ends_on_samples F_ends_on_samples D_moment_of) (F_ends_on_samples.binds2 fun _ _ _ _ _ _ _ _=>rfl)
  have D_parts_of_run:=dnm l.prog w base X G a_parts_of_run F_parts_of_run (ok_parts_of_run F_parts_of_run T D_parts_hanging_together D_parts_lying_apart D_has_one_height D_ends_on_samples) (F_parts_of_run.binds3 fun _ _ _ _ _ _ _ _ _=>rfl)
  have D_parts_of_row:=dnm l.prog w base X G a_parts_of_row F_parts_of_row (ok_parts_of_row F_parts_of_row T D_runs D_parts_of_run) (F_parts_of_row.binds3 fun _ _ _ _ _ _ _ _ _=>rfl)
  have D_loose_height_on:=dnm l.prog w base X G a_loose_height_on F_loose_height_on (ok_loose_height_on F_loose_height_on D_loose_minus D_loose_times D_loose_plus) (F_loose_height_on.binds2 fun _ _ _ _ _ _ _ _=>rfl)
  have D_loose_misses:=dnm l.prog w base X G a_loose_misses F_loose_misses (ok_loose_misses F_loose_misses D_size D_loose_minus D_loose_height_on D_moment_of) (F_loose_misses.binds1 fun _ _ _ _ _ _ _=>rfl)
  have D_miss:=dnm l.prog w base X G a_miss F_miss (ok_miss F_miss D_parts_of_row D_loose_misses D_greatest D_reduced) (F_miss.binds3 fun _ _ _ _ _ _ _ _ _=>rfl)
  have D_fits:=dnm l.prog w base X G a_fits F_fits (ok_fits F_fits D_miss D_order) (F_fits.binds4 fun _ _ _ _ _ _ _ _ _ _=>rfl)
  have D_law_put:=dnm l.prog w base X G a_law_put F_law_put (ok_law_put F_law_put D_law_ratio) (F_law_put.binds4 fun _ _ _ _ _ _ _ _ _ _=>rfl)
  have D_law_lone:=dnm l.prog w base X G a_law_lone F_law_lone (ok_law_lone F_law_lone D_law_put) (F_law_lone.binds4 fun _ _ _ _ _ _ _ _ _ _=>rfl)
  have D_law_loose:=dnm l.prog w base X G a_law_loose F_law_loose (ok_law_loose F_law_loose T D_law_put) (F_law_loose.binds4 fun _ _ _ _ _ _ _ _ _ _=>rfl)
  have D_law_node:=dnm l.prog w base X G a_law_node F_law_node (ok_law_node F_law_node D_law_ratio D_law_put) (F_law_node.binds6 fun _ _ _ _ _ _ _ _ _ _ _ _=>rfl)
  have D_law_hung:=dnm l.prog w base X G a_law_hung F_law_hung (ok_law_hung F_law_hung T D_law_lone D_law_put D_law_node) (F_law_hung.binds5 fun _ _ _ _ _ _ _ _ _ _ _=>rfl)
  have D_law_own_telling:=dnm l.prog w base X G a_law_own_telling F_law_own_telling (ok_law_own_telling F_law_own_telling D_law_row D_law_loose D_law_hung) (F_law_own_telling.binds6 fun _ _ _ _ _ _ _ _ _ _ _ _=>rfl)
  have D_has_one_heightN:=dnm l.prog w base X G a_has_one_height F_has_one_height (ok_has_one_heightN F_has_one_height ) (F_has_one_height.binds1 fun _ _ _ _ _ _ _=>rfl)
  have D_ends_on_samplesN:=dnm l.prog w base X G a_ends_on_samples F_ends_on_samples (ok_ends_on_samplesN F_ends_on_samples D_moment_of) (F_ends_on_samples.binds2 fun _ _ _ _ _ _ _ _=>rfl)
  have D_parts_lying_apartN:=dnm l.prog w base X G a_parts_lying_apart F_parts_lying_apart (ok_parts_lying_apartN F_parts_lying_apart T D_moment_of) (F_parts_lying_apart.binds2 fun _ _ _ _ _ _ _ _=>rfl)
  have D_part_of_oneN:=dnm l.prog w base X G a_part_of_one F_part_of_one (ok_part_of_oneN F_part_of_one T D_moment_of) (F_part_of_one.binds2 fun _ _ _ _ _ _ _ _=>rfl)
  have D_parts_hanging_togetherN:=dnm l.prog w base X G a_parts_hanging_together F_parts_hanging_together (ok_parts_hanging_togetherN F_parts_hanging_together T D_part_of_oneN D_moment_of D_order D_held_by) (F_parts_hanging_together.binds2 fun _ _ _ _ _ _ _ _=>rfl)
  have D_parts_of_runN:=dnm l.prog w base X G a_parts_of_run F_parts_of_run (ok_parts_of_runN F_parts_of_run T D_parts_hanging_togetherN D_parts_lying_apartN D_has_one_heightN D_ends_on_samplesN) (F_parts_of_run.binds3 fun _ _ _ _ _ _ _ _ _=>rfl)
  have D_parts_of_rowN:=dnm l.prog w base X G a_parts_of_row F_parts_of_row (ok_parts_of_rowN F_parts_of_row T D_runs D_parts_of_runN) (F_parts_of_row.binds3 fun _ _ _ _ _ _ _ _ _=>rfl)
  have D_missN:=dnm l.prog w base X G a_miss F_miss (ok_missN F_miss D_parts_of_rowN D_loose_misses D_greatest D_reduced) (F_miss.binds3 fun _ _ _ _ _ _ _ _ _=>rfl)
  have D_fitsN:=dnm l.prog w base X G a_fits F_fits (ok_fitsN F_fits D_missN D_order) (F_fits.binds4 fun _ _ _ _ _ _ _ _ _ _=>rfl)
  have D_law_added:=dnm l.prog w base X G a_law_added F_law_added (ok_law_added F_law_added D_law_ratio) (F_law_added.binds3 fun _ _ _ _ _ _ _ _ _=>rfl)
  have D_law_bound_first:=dnm l.prog w base X G a_law_bound_first F_law_bound_first (ok_law_bound_first F_law_bound_first ) (F_law_bound_first.binds3 fun _ _ _ _ _ _ _ _ _=>rfl)
  have D_law_bound_last:=dnm l.prog w base X G a_law_bound_last F_law_bound_last (ok_law_bound_last F_law_bound_last T) (F_law_bound_last.binds3 fun _ _ _ _ _ _ _ _ _=>rfl)
  have D_law_joint:=dnm l.prog w base X G a_law_joint F_law_joint (ok_law_joint F_law_joint ) (F_law_joint.binds3 fun _ _ _ _ _ _ _ _ _=>rfl)
  have D_law_changed:=dnm l.prog w base X G a_law_changed F_law_changed (ok_law_changed F_law_changed D_law_added D_law_bound_first D_law_bound_last) (F_law_changed.binds4 fun _ _ _ _ _ _ _ _ _ _=>rfl)
  have D_law_behind:=dnm l.prog w base X G a_law_behind F_law_behind (ok_law_behind F_law_behind T D_law_added) (F_law_behind.binds1 fun _ _ _ _ _ _ _=>rfl)
  have D_law_moved_turn:=dnm l.prog w base X G a_law_moved_turn F_law_moved_turn (ok_law_moved_turn F_law_moved_turn D_law_added) (F_law_moved_turn.binds3 fun _ _ _ _ _ _ _ _ _=>rfl)
  have D_law_odd:=dnm l.prog w base X G a_law_odd F_law_odd (ok_law_odd F_law_odd D_law_joint D_law_moved_turn D_law_changed) (F_law_odd.binds4 fun _ _ _ _ _ _ _ _ _ _=>rfl)
  have D_law_bridged:=dnm l.prog w base X G a_law_bridged F_law_bridged (ok_law_bridged F_law_bridged T) (F_law_bridged.binds3 fun _ _ _ _ _ _ _ _ _=>rfl)
  have D_missB:=dnm l.prog w base X G a_miss F_miss (ok_missB F_miss D_parts_of_row D_loose_misses D_greatest D_reduced D_parts_of_rowN) (F_miss.binds3 fun _ _ _ _ _ _ _ _ _=>rfl)
  have D_law_spoilt:=dnm l.prog w base X G a_law_spoilt F_law_spoilt (ok_law_spoilt F_law_spoilt T D_law_behind D_law_bridged D_law_odd) (F_law_spoilt.binds4 fun _ _ _ _ _ _ _ _ _ _=>rfl)
  have D_law:=dnm l.prog w base X G a_law F_law (ok_law F_law T D_law_drawn D_law_runs D_law_row D_law_own_telling D_law_spoilt D_law_handed D_missB D_law_is_ratio D_fitsN) (F_law.binds1 fun _ _ _ _ _ _ _=>rfl)
  exact ok_law F_law T D_law_drawn D_law_runs D_law_row D_law_own_telling D_law_spoilt D_law_handed D_missB D_law_is_ratio D_fitsN
theorem walk {l:PySem.W.OpenLaw} {q:Program} {loose:List Str} {XP:(Str→Option Value)→Heap→Prop} {YP:World→Heap→Prop} {d:DefRec} {K:Params→PySem.W.Frag} (hn:l.most=some 63) (hdf:d.params.defaults=[])
    (hY:∀(w:World) (h:Heap),YP w h→(K w.params).In h)
    (F:∀(w:World) (mg:Str→Option Value) (fa:Addr) (h:Heap),(K w.params).In h→h.Ns mainGlobals mg→mg d.name=some (.ref fa) →
      ∃fd:FuncData,(∀(s:Shared) (u:Value),BindsTo s fd ⟨[u],[]⟩ [("_law_script",u)])∧∀base:Heap,(K w.params).In base→base.Ns mainGlobals mg→FnOk l.prog w (K w.params) mg base CX0 9 fa fd ["_law_script"] (spLaw (K w.params))) :
    PySem.W.WalkO q loose XP YP l.row.toRowW d [] (fun f vs=>PySem.call f vs):=
  L2.walk_of (n:=63) (k:=9) (x := "_law_script") (CX:=fun _=>CX0) (sp:=fun w=>spLaw (K w.params)) hn (by decide) hdf ⟨rfl,by decide,by decide⟩ hY F (fun _ _ a ns hl _ hS=>⟨a,ns,rfl,hS,hl,fun _=>rfl⟩) fun _ _ _ _ _ z=>z
end Lw
open PySem PySem.W PyProof.Rows
set_option maxRecDepth 100000 in
set_option maxHeartbeats 0 in
theorem PySem.Challenge.cw_lath_k63_no_tellings_holds : PySem.Challenge.rw_lath_k63_no_tellings.Holds := by
  w_on;o_law;k_head;(case hw=>w_witness2)
  k_fill
  refine Lw.walk (l:=PySem.Challenge.rw_lath_k63_no_tellings) rfl rfl (fun w h Y=>PySem.W.kIn_of Y) ?F
  case F=>
    intro w mg fa h KX G hmg
    refine' Lw.all_mk KX G hmg ?a0 ?a1 ?a2 ?a3 ?a4 ?a5 ?a6 ?a7 ?a8 ?a9 ?a10 ?a11 ?a12 ?a13 ?a14 ?a15 ?a16 ?a17 ?a18 ?a19 ?a20 ?a21 ?a22 ?a23 ?a24 ?a25 ?a26 ?a27 ?a28 ?a29 ?a30 ?a31 ?a32 ?a33 ?a34 ?a35 ?a36 ?a37 ?a38 ?a39 ?a40 ?a41 ?a42 ?a43 ?a44 ?a45 ?a46 ?a47 ?a48 ?a49 ?a50 ?a51 ?a52 ?a53 ?a54 ?a55 ?a56 ?a57 ?a58 ?a59 ?a60 ?a61 ?a62 ?a63 ?a64 ?a65 ?a66 ?a67 ?a68 ?a69 ?a70 ?a71
    (case a0=>walk_at "fz");(case a1=>walk_at "fz");(case a2=>walk_at "fz");(case a3=>walk_at "fz");(case a4=>walk_at "fz");(case a5=>walk_at "fz");(case a6=>walk_at "fz");(case a7=>walk_at "fz");(case a8=>walk_at "fz");(case a9=>walk_at "fz");(case a10=>walk_at "fz");(case a11=>walk_at "fz");(case a12=>walk_at "fz");(case a13=>walk_at "fz");(case a14=>walk_at "fz");(case a15=>walk_at "fz");(case a16=>walk_at "fz");(case a17=>walk_at "fz");(case a18=>walk_at "fz");(case a19=>walk_at "fz");(case a20=>walk_at "fz");(case a21=>walk_at "fz");(case a22=>walk_at "fz");(case a23=>walk_at "fz");(case a24=>walk_at "fz");(case a25=>walk_at "fz");(case a26=>walk_at "fz");(case a27=>walk_at "fz");(case a28=>walk_at "fz");(case a29=>walk_at "fz");(case a30=>walk_at "fz");(case a31=>walk_at "fz");(case a32=>walk_at "fz");(case a33=>walk_at "fz");(case a34=>walk_at "fz");(case a35=>walk_at "fz");(case a36=>walk_at "fz");(case a37=>walk_at "fz");(case a38=>walk_at "fz");(case a39=>walk_at "fz");(case a40=>walk_at "fz");(case a41=>walk_at "fz");(case a42=>walk_at "fz");(case a43=>walk_at "fz");(case a44=>walk_at "fz");(case a45=>walk_at "fz");(case a46=>walk_at "fz");(case a47=>walk_at "fz");(case a48=>walk_at "fz");(case a49=>walk_at "fz");(case a50=>walk_at "fz");(case a51=>walk_at "fz");(case a52=>walk_at "fz");(case a53=>walk_at "fz");(case a54=>walk_at "fz");(case a55=>walk_at "fz");(case a56=>walk_at "fz");(case a57=>walk_at "fz");(case a58=>walk_at "fz");(case a59=>walk_at "fz");(case a60=>walk_at "fz");(case a61=>walk_at "fz");(case a62=>walk_at "fz");(case a63=>walk_at "fz");(case a64=>walk_at "fz");(case a65=>walk_at "fz");(case a66=>walk_at "fz");(case a67=>walk_at "fz");(case a68=>walk_at "fz");(case a69=>walk_at "fz");(case a70=>walk_at "fz");(case a71=>walk_at "fz")

