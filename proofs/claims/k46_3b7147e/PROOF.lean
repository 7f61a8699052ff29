import PyProof.Rows.All
import Wide.All
import OpenK.AllK
import Wide.FinOn
import Lean
import PyProof.EqAt
import PyProof.EqKinds
import PyProof.TupleCall
import PySem.Challenge.RW_lath_k46_apart_and_joined
set_option Elab.async false
set_option linter.all false
set_option maxRecDepth 100000
theorem au0_ (h:1=1:=by rfl):1=1:=h
theorem au1_ (h:1=1:=by decide):1=1:=h
theorem au2_ (h:1=1:=by intro _;rfl):1=1:=h
theorem au3_ (h:1=1:=by with_unfolding_all rfl):1=1:=h

namespace PySem.W.Fast
def tw10822879769508390051 := ()
def tw10440228830627611838 := ()
def tw18171289531645203456 := ()
def tw15573806337015380000 := ()
def tw8646714098894449760 := ()
def tw15487548087805273184 := ()
def tw1064421327607659648 := ()
def tw10528762558885635360 := ()
def tw11640793658232641824 := ()
def tw18104837884397124032 := ()
def tw2297771117819807200 := ()
def tw8103441315208364576 := ()
def tw5151251476527713856 := ()
def tw6331845775852339872 := ()
def tw14527042432429058784 := ()
def tw11575808606333240224 := ()
def tw16834256912923969472 := ()
def tw4963019143721910208 := ()
def tw9628564285428333601 := ()
def tw13985944878595784897 := ()
def tw4550800077055555809 := ()
def tw4980852343731551489 := ()
def tw7332938223918821697 := ()
def tw2485893362155389249 := ()
def tw2043954776488673633 := ()
def tw3001652398048081313 := ()
def tw16109647154085534209 := ()
def tw8007834952328429089 := ()
def tw3471391234604580385 := ()
def tw13033496336414761505 := ()
def tw8108219007398097569 := ()
def tw7246453692640559809 := ()
def tw6239038799880162113 := ()
def tw10840999012362875745 := ()
def tw13650281384175966081 := ()
def tw7769046771915455393 := ()
def tw9719025733085663234 := ()
def tw14597797700737643586 := ()
def tw6159291842203327618 := ()
def tw14707544390283105474 := ()
def tw14122214486877876642 := ()
def tw16486536801535612322 := ()
def tw3204945758315423266 := ()
def tw7848744273616069154 := ()
def tw14982492439066947266 := ()
def tw535531160923840354 := ()
def tw6152791570480510946 := ()
def tw16393576767954522211 := ()
def tw1318979196064241795 := ()
def tw13784005040640636067 := ()
def tw499492480454080675 := ()
def tw5958871958437132547 := ()
def tw12180043542340278595 := ()
def tw16226571656057917955 := ()
def tw8046372942915485379 := ()
def tw6015523952238202595 := ()
def tw6778889371051889571 := ()
def tw16927314382626037731 := ()
def tw11352172194217214980 := ()
def tw14611014701023867940 := ()
def tw2010414265885037636 := ()
def tw7544759189224141892 := ()
def tw10360457166485205092 := ()
def tw12931263575609310340 := ()
def tw10893875641307033828 := ()
def tw3776320819222158596 := ()
def tw17380654908040899940 := ()
def tw18184171115033175460 := ()
def tw11662283485142922820 := ()
def tw11588138236556419652 := ()
def tw13308804422112893540 := ()
def tw5428756244840832612 := ()
def tw14314668308149990084 := ()
def tw15160146470823388868 := ()
def tw8287404769814814436 := ()
def tw17519088863887710148 := ()
def tw8185803241028861957 := ()
def tw15301869578717287461 := ()
def tw14802675691593750661 := ()
def tw7411930033148764293 := ()
def tw9607448106365607109 := ()
def tw395729273460501797 := ()
def tw12262384264970025349 := ()
def tw3348790123070820773 := ()
def tw14748842576352240069 := ()
def tw12104916459966775749 := ()
def tw7492769253949470181 := ()
def tw4967855479593449989 := ()
def tw4014895971893784101 := ()
def tw12138119942862602821 := ()
def tw6438500604423942725 := ()
def tw15106819969031986757 := ()
def tw5967571350413856421 := ()
def tw18082730352698688421 := ()
def tw9739768533761469381 := ()
def tw802259498599117765 := ()
def tw5869032400764592101 := ()
def tw237495098291415110 := ()
def tw3304059845609944294 := ()
def tw12876529549537965318 := ()
def tw16770343891628819750 := ()
def tw2285919035895453990 := ()
def tw7531378101858149862 := ()
def tw5615665814438111750 := ()
def tw7133313381210229286 := ()
def tw5485747597099751974 := ()
def tw16402383710465667750 := ()
def tw14817288773187594022 := ()
def tw13560788821661925254 := ()
def tw16993301816216204198 := ()
def tw17271123243862204390 := ()
def tw4917823563660858342 := ()
def tw18269928630548767751 := ()
def tw14813297523902934023 := ()
def tw743340038334169191 := ()
def tw18361780044358528167 := ()
def tw18031450147013755079 := ()
def tw6698657608523930919 := ()
def tw2862272316782790983 := ()
def tw7277505216893077991 := ()
def tw4404734199807138311 := ()
def tw12951918914987798151 := ()
def tw130559347915834023 := ()
def tw2409765646628236007 := ()
def tw11962040052595927879 := ()
def tw9440541517454841671 := ()
def tw7066447187958618087 := ()
def tw761677117252157480 := ()
def tw6251723350233906344 := ()
def tw10892567375007002824 := ()
def tw3045898161581121736 := ()
def tw6939613222946542888 := ()
def tw4390098500608241960 := ()
def tw15535049595921131816 := ()
def tw8984951272835995016 := ()
def tw17320533902666853800 := ()
def tw10963127717301376456 := ()
def tw18098914678065063432 := ()
def tw2522427712138640136 := ()
def tw11527923893838774056 := ()
def tw4518365554879936296 := ()
def tw2677948661245007688 := ()
def tw13420418512777387944 := ()
def tw11075317945626250184 := ()
def tw9206918160648924136 := ()
def tw9425469038049802313 := ()
def tw5343388702407267465 := ()
def tw8216667470164626569 := ()
def tw10880051785698545897 := ()
def tw5361647901735054569 := ()
def tw3573719069450988777 := ()
def tw8205750755786096969 := ()
def tw2186063924257069641 := ()
def tw10769374454353654441 := ()
def tw17265130656691315433 := ()
def tw4594510839407255369 := ()
def tw16015349716136104841 := ()
def tw9791422267678786537 := ()
def tw8065664866389046249 := ()
def tw15211372466018762762 := ()
def tw9792928559969149002 := ()
def tw9444398238234969226 := ()
def tw5966501153081112746 := ()
def tw51480349051886922 := ()
def tw13520182385114639850 := ()
def tw11792698221970553354 := ()
def tw1101931949470423690 := ()
def tw18085836134774257322 := ()
def tw9817130367313458858 := ()
def tw1999241643738835690 := ()
def tw1562715072051657706 := ()
def tw8544877022307971050 := ()
def tw12825695902270554090 := ()
def tw1524672676520853547 := ()
def tw860153889116213483 := ()
def tw2608965002107264299 := ()
def tw17579939902014719403 := ()
def tw15842813059747951115 := ()
def tw17997525834552716971 := ()
def tw8640788968479211179 := ()
def tw8714545615561640619 := ()
def tw12960430181740196940 := ()
def tw8755814996840813644 := ()
def tw6998917697482341516 := ()
def tw13878128883553404108 := ()
def tw14879404642559721772 := ()
def tw13876027450186915148 := ()
def tw1100040630183288236 := ()
def tw4582951231688989100 := ()
def tw12219210157217282508 := ()
def tw17272903762702432844 := ()
def tw5810334886566883916 := ()
def tw11214833050259262092 := ()
def tw4672703179141400236 := ()
def tw13264070576858731212 := ()
def tw7011154350546866988 := ()
def tw935013640005480396 := ()
def tw10684676717536758764 := ()
def tw2210317832140286989 := ()
def tw5154805309178635341 := ()
def tw5776785699557241965 := ()
def tw797819550691262765 := ()
def tw2889100567044842957 := ()
def tw13000914315863619053 := ()
def tw4916548114675228173 := ()
def tw8314793314180166157 := ()
def tw699410074195878445 := ()
def tw13734537943519949421 := ()
def tw1502015806490835629 := ()
def tw12546689439457982253 := ()
def tw12908720103437511565 := ()
def tw7739854042615630894 := ()
def tw9528636274428996686 := ()
def tw7716155368177485966 := ()
def tw7877893967191898254 := ()
def tw3141421745346681102 := ()
def tw5774674537919109422 := ()
def tw6442699123121934670 := ()
def tw14065596849700014510 := ()
def tw3572188493391617710 := ()
def tw6193066116517178190 := ()
def tw7121933936987201358 := ()
def tw4031635639851817007 := ()
def tw9086917949340064815 := ()
def tw1277761079731070031 := ()
def tw12019186046919082095 := ()
def tw15287687341519528175 := ()
def tw4628137878813565231 := ()
def tw11165670336393175343 := ()
def tw323210744194201935 := ()
def tw353596696696293903 := ()
def tw2778800567777371695 := ()
def tw5831630669534396047 := ()
def tw11546538292954705583 := ()
def tw17873975206451171055 := ()
def tw3091261775038385935 := ()
def tw18371762330517326607 := ()
def tw373359453734188879 := ()
def tw341897892140205999 := ()
def tw9130878013461319631 := ()
def tw17357111665876078608 := ()
def tw14737235643116978192 := ()
def tw5000583416452230224 := ()
def tw4935438138448117872 := ()
def tw12977877951102622832 := ()
def tw18241523410852799696 := ()
def tw5880510531341615376 := ()
def tw16391855257832399216 := ()
def tw6068224379049901520 := ()
def tw3659152262911291856 := ()
def tw10322928299745489392 := ()
def tw4195731057920092688 := ()
def tw431416836985187888 := ()
def tw1127820944360672912 := ()
def tw1958596984931814160 := ()
def tw12740054017033251600 := ()
def tw5508745751087931248 := ()
def tw10585272994525892496 := ()
def tw1318674158482775984 := ()
def tw7497865666220741584 := ()
def tw6209083004796956656 := ()
def tw4990936529025941553 := ()
def tw18280391730298354801 := ()
def tw4561305766319477873 := ()
def tw2089221466578327697 := ()
def tw15591096102473461969 := ()
def tw11097991889396443377 := ()
def tw3883913091107845457 := ()
def tw7800979650908392881 := ()
def tw9975039528419866257 := ()
def tw2492436075668270769 := ()
def tw12887908425588199121 := ()
def tw14435766989388431153 := ()
def tw4272345192156882769 := ()
def tw4516484008853616497 := ()
def tw12454456128430115761 := ()
def tw7994587251919440817 := ()
def tw568354687294091410 := ()
def tw18098783727286269106 := ()
def tw18005178591033818610 := ()
def tw8290452134149205522 := ()
def tw11269566068633505330 := ()
def tw11447708978980216402 := ()
def tw664449884939293362 := ()
def tw12104325685222890162 := ()
def tw14127164926374093490 := ()
def tw15405116061404548818 := ()
def tw2339125664337509138 := ()
def tw1824058897852834578 := ()
def tw17328900464850952082 := ()
def tw12302925207348995026 := ()
def tw8841729928618334162 := ()
def tw4614027840341068786 := ()
def tw14749674470503196787 := ()
def tw4313492801671436403 := ()
def tw6520148611682763923 := ()
def tw17826724882046110867 := ()
def tw14925167679919959251 := ()
def tw5288480641331983955 := ()
def tw9604379446296195699 := ()
def tw17222514887871674995 := ()
def tw10262222016907437747 := ()
def tw11281432709080023827 := ()
def tw16507738418332958675 := ()
def tw15096328533849269235 := ()
def tw1993745478282133716 := ()
def tw12342657403472302356 := ()
def tw6072209960397002036 := ()
def tw2356787716052528468 := ()
def tw17020446001741852148 := ()
def tw4240363505103287828 := ()
def tw16370040113137205812 := ()
def tw1339232383421032020 := ()
def tw16392750737095985780 := ()
def tw3523961379341127284 := ()
def tw6232514989049936532 := ()
def tw13479731649537080020 := ()
def tw12750486971215994740 := ()
def tw3686603636821008340 := ()
def tw14628065199124234293 := ()
def tw14888117681364219957 := ()
def tw5334126983016985749 := ()
def tw15038821651171329205 := ()
def tw14950031111242501429 := ()
def tw18312190320808521109 := ()
def tw9672420149652110741 := ()
def tw11017808369519003125 := ()
def tw7597491050183518773 := ()
def tw17662691914400188021 := ()
def tw374061563169391638 := ()
def tw14951934225453564982 := ()
def tw14965666029397862486 := ()
def tw11215541218825559158 := ()
def tw16493692483322224822 := ()
def tw13195000281036331222 := ()
def tw51364092743566838 := ()
def tw2363264258351445558 := ()
def tw2934847583048771158 := ()
def tw8810080159755789910 := ()
def tw4069518727797797462 := ()
def tw6311638965663753910 := ()
def tw5357582354151883446 := ()
def tw11846134759323307862 := ()
def tw11549882601719082934 := ()
def tw7657326365227125686 := ()
def tw13480958289030214711 := ()
def tw2776566228932680823 := ()
def tw9455789449619774775 := ()
def tw11182453684393046487 := ()
def tw3471188451997059607 := ()
def tw16389056280671341111 := ()
def tw14016527706673401463 := ()
def tw18353812992557950615 := ()
def tw11195284330831678199 := ()
def tw7465451966360410903 := ()
def tw5074720914502637399 := ()
def tw3280343075759949719 := ()
def tw271998561698661400 := ()
def tw854773923498367064 := ()
def tw8952530700829121688 := ()
def tw8812088078657300664 := ()
def tw3904580227903296856 := ()
def tw6757082217944040824 := ()
def tw6620636170622731672 := ()
def tw9425543681021962744 := ()
def tw16301061722487053880 := ()
def tw3333171180477079128 := ()
def tw9773873335518630520 := ()
def tw10651359921076403960 := ()
def tw10877609699831566104 := ()
def tw5959886753935395672 := ()
def tw17116940468309017464 := ()
def tw5145157240289827704 := ()
def tw2497917738378139576 := ()
def tw2900314228043155416 := ()
def tw3118385573425066073 := ()
def tw16183358656635711577 := ()
def tw15497686746359306361 := ()
def tw9915088008657566937 := ()
def tw16266418929052530969 := ()
def tw2374278498073559353 := ()
def tw15200279792447643961 := ()
def tw14332035654977572281 := ()
def tw17403261651168673305 := ()
def tw9044219663483768377 := ()
def tw14213671992362190393 := ()
def tw10790423087024974457 := ()
def tw15983537546940309113 := ()
def tw10336439480627262073 := ()
def tw16796428503623018137 := ()
def tw11015888812830126745 := ()
def tw5410424099813692057 := ()
def tw4534606123957659353 := ()
def tw7132849076626198233 := ()
def tw5148227094665594617 := ()
def tw6894832078708517721 := ()
def tw9272573196711175033 := ()
def tw4586399634174128025 := ()
def tw11151115862067791801 := ()
def tw1860804223733243865 := ()
def tw15942713913954232281 := ()
def tw12239192560660343769 := ()
def tw3479025896171359322 := ()
def tw4034015551659886746 := ()
def tw8932008614556970138 := ()
def tw234481020269443290 := ()
def tw17791161151348476218 := ()
def tw13580242019821341050 := ()
def tw187200931186388474 := ()
def tw9650435860417382970 := ()
def tw16568211902560129594 := ()
def tw618887596422521434 := ()
def tw2958249757902996154 := ()
def tw6115005824013624026 := ()
def tw17938281308151261914 := ()
def tw13470741526598244090 := ()
def tw2412074726578999066 := ()
def tw18197065709319899962 := ()
def tw2692811635251509082 := ()
def tw7757822893370398618 := ()
def tw13429237260062996507 := ()
def tw8413551731356665915 := ()
def tw15414143709562592315 := ()
def tw6446232674187031643 := ()
def tw7938990949971409019 := ()
def tw1116433158690599099 := ()
def tw11493964791485061339 := ()
def tw11390837133284218107 := ()
def tw9469979435387761019 := ()
def tw4859059397609868731 := ()
def tw9212258255784089115 := ()
def tw2093720695066045051 := ()
def tw2118000751571377787 := ()
def tw16797833326077137563 := ()
def tw9133822783335015067 := ()
def tw9897397708607854331 := ()
def tw7735756713783319323 := ()
def tw1589746503469114203 := ()
def tw13280234112696781852 := ()
def tw68307848546122844 := ()
def tw3359904928076788860 := ()
def tw10050466255951686780 := ()
def tw17322428225087612252 := ()
def tw4157719330578187644 := ()
def tw2847815869490685436 := ()
def tw15487305824065418812 := ()
def tw3542876622310914652 := ()
def tw7496877135920525020 := ()
def tw16126420457750198044 := ()
def tw15342313843311659836 := ()
def tw7141558965250231132 := ()
def tw12114920049959050557 := ()
def tw7878620943321235805 := ()
def tw1697390616780153181 := ()
def tw3392881165754785213 := ()
def tw15018680370872304157 := ()
def tw16107106267315672733 := ()
def tw8540749334259220125 := ()
def tw13681141132327668445 := ()
def tw14642536114833540829 := ()
def tw14892250867170907869 := ()
def tw7618399006363884317 := ()
def tw4097082158692169661 := ()
def tw17850850108149729310 := ()
def tw635106810583364670 := ()
def tw4240678956718761214 := ()
def tw2119500360954164478 := ()
def tw5139696018029918 := ()
def tw3625896466695061854 := ()
def tw9900881395366366590 := ()
def tw4346537667617974686 := ()
def tw1346096742993010078 := ()
def tw1236762478534830622 := ()
def tw5371477292787320414 := ()
def tw15398983561499340446 := ()
def tw4781269560882608958 := ()
def tw3946476653745730494 := ()
def tw5235762853287532510 := ()
def tw2372595939519923198 := ()
def tw14694358541521879071 := ()
def tw2119304513730350175 := ()
def tw11641067172785459327 := ()
def tw18236759587706594463 := ()
def tw16795242936101336223 := ()
def tw9813985882053670175 := ()
def tw9619710905998508383 := ()
def tw6352361443288974687 := ()
def tw3751819566069166463 := ()
def tw2785001516909433311 := ()
def tw13888762064190184991 := ()
def tw18361385838765981279 := ()
def tw16717696154011267679 := ()
def tw14845025095836144287 := ()
def tw18020594439012967135 := ()
def tw8978450536289884927 := ()
def tw12425763422931766047 := ()
def tw1989852536533749663 := ()
def tw15039143169964516255 := ()
def tw7173586478846009311 := ()
end PySem.W.Fast

namespace L2
open PySem PySem.Spec PyProof.Rows

noncomputable abbrev Key:=Sum Int Str
noncomputable def keyIs:Key→Value→Bool
  | .inl k,v=>Value.isInt k v
  | .inr x,v=>Value.isStrOf x v
noncomputable def keyH (w:World):Key→Int
  | .inl k=>hashInt k
  | .inr x=>hashStr w x
theorem keyIs_shape:∀{k:Key} {v:Value},keyIs k v=true→(∃i t,k=Sum.inl i∧v=Value.int i t)∨(∃x t,k=Sum.inr x∧v=Value.str x t)
  | .inl i,v,h=>by
    obtain ⟨t,e⟩:=Value.isInt_shape (k:=i) (v:=v) h
    exact .inl ⟨i,t,rfl,e⟩
  | .inr x,v,h=>by
    obtain ⟨t,e⟩:=Value.isStrOf_shape (x:=x) (v:=v) h
    exact .inr ⟨x,t,rfl,e⟩
theorem key_ll (a b:Int):decide ((Sum.inl a:Key)=Sum.inl b)=(a==b):=by
  by_cases e:a=b
  · subst e;simp
  · have h:¬(Sum.inl a:Key)=Sum.inl b:=fun q=>e (Sum.inl.inj q)
    rw [decide_eq_false h]
    exact (beq_eq_false_iff_ne.mpr e).symm
theorem key_rr (a b:Str):decide ((Sum.inr a:Key)=Sum.inr b)=decide (a=b):=by
  by_cases e:a=b
  · subst e;simp
  · have h:¬(Sum.inr a:Key)=Sum.inr b:=fun q=>e (Sum.inr.inj q)
    rw [decide_eq_false h,decide_eq_false e]
theorem key_lr (a:Int) (b:Str):decide ((Sum.inl a:Key)=Sum.inr b)=false:=decide_eq_false (fun q=>nomatch q)
theorem key_rl (a:Str) (b:Int):decide ((Sum.inr a:Key)=Sum.inl b)=false:=decide_eq_false (fun q=>nomatch q)

noncomputable def mixKind (prog:Program) (w:World):PySem.KeyKind prog w Key where
  is:=keyIs
  hash:=keyH w
  inj:=fun v a b ha hb=>by
    rcases keyIs_shape ha with ⟨i,t,rfl,rfl⟩ | ⟨x,t,rfl,rfl⟩
    · rcases keyIs_shape hb with ⟨j,u,rfl,e⟩ | ⟨y,u,rfl,e⟩
      · injection e with e1 _;rw [e1]
      · exact nomatch e
    · rcases keyIs_shape hb with ⟨j,u,rfl,e⟩ | ⟨y,u,rfl,e⟩
      · exact nomatch e
      · injection e with e1 _;rw [e1]
  byValue:=fun k v h=>by
    rcases keyIs_shape h with ⟨i,t,rfl,rfl⟩ | ⟨x,t,rfl,rfl⟩ <;> rfl
  pyHash:=fun hv h=>by
    rcases keyIs_shape hv with ⟨i,t,rfl,rfl⟩ | ⟨x,t,rfl,rfl⟩
    · exact wpAny_pyHash_int h
    · exact wpAny_pyHash_str h
  eqBool:=fun hu hv h=>by
    rcases keyIs_shape hu with ⟨i,t,rfl,rfl⟩ | ⟨x,t,rfl,rfl⟩
    · rcases keyIs_shape hv with ⟨j,u,rfl,rfl⟩ | ⟨y,u,rfl,rfl⟩
      · rw [key_ll] at h;exact wpAny_eqBool_int h
      · rw [key_lr] at h;exact SeqAt.EqAt.int_str i t y u _ _ _ _ h
    · rcases keyIs_shape hv with ⟨j,u,rfl,rfl⟩ | ⟨y,u,rfl,rfl⟩
      · rw [key_rl] at h;exact SeqAt.EqAt.str_int x t j u _ _ _ _ h
      · rw [key_rr] at h;exact wpAny_eqBool_str h
  «strs»:=fun k x t v h=>by
    rcases keyIs_shape h with ⟨i,u,rfl,e⟩ | ⟨y,u,rfl,e⟩
    · exact nomatch e
    · injection e with e1 _
      subst e1
      cases v <;> rfl

end L2

namespace L2
open PySem PySem.Spec PyProof.Rows

inductive V where
  | non | bl (b:Bool) | int (i:Int) | str (x:Str) | byt (b:Array UInt8) | flt (b:UInt64) | ref (a:Addr) | ty (n:String)
  deriving DecidableEq

noncomputable def RelV:V→Value→Prop
  | .non,u=>u=Value.none
  | .bl b,u=>u=Value.bool b
  | .int i,u=>∃t,u=Value.int i t
  | .str x,u=>∃t,u=Value.str x t
  | .byt b,u=>∃t,u=Value.bytes b t
  | .flt b,u=>∃t,u=Value.float b t
  | .ref a,u=>u=Value.ref a
  | .ty n,u=>u=Value.type n

noncomputable abbrev Vals:List V→List Value→Prop:=Paired RelV
theorem Vals.length {xs:List V} {us:List Value} (r:Vals xs us):xs.length=us.length:=Paired.length r
theorem Vals.get:∀{xs:List V} {us:List Value} {i:Nat} {x:V},Vals xs us→xs[i]?=some x→∃u,us[i]?=some u∧RelV x u
  | _,_,_,_,.nil,e=>by simp at e
  | _,_,0,_,.cons r _,e=>by simp at e;subst e;exact ⟨_,rfl,r⟩
  | _,_,i+1,x,.cons _ t,e=>by
    obtain ⟨u,h1,h2⟩:=Vals.get (i:=i) (x:=x) t (by simpa using e)
    exact ⟨u,by simpa using h1,h2⟩
theorem Vals.append:∀{xs ys:List V} {us ws:List Value},Vals xs us→Vals ys ws→Vals (xs++ys) (us++ws)
  | _,_,_,_,.nil,s=>s
  | _,_,_,_,.cons r t,s=>.cons r (Vals.append t s)
theorem Vals.take:∀{xs:List V} {us:List Value} (n:Nat),Vals xs us→Vals (xs.take n) (us.take n)
  | _,_,0,_=>.nil
  | _,_,_+1,.nil=>.nil
  | _,_,n+1,.cons r t=>.cons r (Vals.take n t)
theorem Vals.drop:∀{xs:List V} {us:List Value} (n:Nat),Vals xs us→Vals (xs.drop n) (us.drop n)
  | _,_,0,r=>r
  | _,_,_+1,.nil=>.nil
  | _,_,n+1,.cons _ t=>Vals.drop n t
noncomputable def RelO:Option V→Option Value→Prop
  | some v,some u=>RelV v u
  | none,none=>True
  | _,_=>False
noncomputable def KV {κ:Type}:List (κ×V)→List (κ×Value)→Prop:=Paired fun (p:κ×V) (q:κ×Value)=>p.1=q.1∧RelV p.2 q.2

noncomputable def kV:Key→V
  | .inl i=>.int i
  | .inr x=>.str x

inductive HO where
  /-- a list -/
  | lst (xs:List V)
  /-- a tuple (never changes) -/
  | tup (xs:List V)
  /-- a dict whose keys are ints and texts;one whose keys are tuples of ints and texts (the empty one is both) -/
  | dK (kvs:List (Key×V)) | dT (kvs:List (List Key×V))
  /-- a set of ints: its members,its size -/
  | set (S:Int→Bool) (n:Nat)
  /-- an instance of the class at C,its dict at dx,its attributes -/
  | ins (C dx:Addr) (fs:List (Str×V))
  /-- the dict of the instance at x -/
  | own (x:Addr)
  /-- the dict of an exception -/
  | xd (fs:List (Str×V))
  /-- a bound method,f of x -/
  | met (f x:Addr)
  /-- a range object lo,lo+1,.. below hi -/
  | rng (lo hi:Int)
  /-- a thing that is known to the object (the script;a dict while a loop walks it): read,never written while it is so -/
  | frz (o:Obj) (u:HO)
  /-- a code object's table -/
  | tbl (ps:Array Value)
  /-- any other thing,by what is true of its one object (a def of one's own: SetO a S n:=HO.ext fun h=>..) -/
  | ext (φ:Heap→Prop)

noncomputable abbrev Hp:=Addr→Option HO
noncomputable def upd (H:Hp) (a:Addr) (o:HO):Hp:=fun b=>if b=a then some o else H b
theorem upd_same {H:Hp} {a:Addr} {o:HO}:upd H a o a=some o:=by unfold upd;rw [if_pos rfl]
theorem upd_ne {H:Hp} {a b:Addr} {o:HO} (h:b≠a):upd H a o b=H b:=by unfold upd;rw [if_neg h]
theorem upd_upd {H:Hp} {a:Addr} {o u:HO}:upd (upd H a o) a u=upd H a u:=by
  funext b;unfold upd;split <;> rfl
theorem ne_of_none {H:Hp} {a b:Addr} {o:HO} (h:H a=some o) (h':H b=none):a≠b:=by
  intro e;subst e;rw [h] at h';cases h'

section
variable (P:Program) (w:World)
noncomputable def ObjOk (H:Hp) (h:Heap) (a:Addr):HO→Prop
  | .lst xs=>xs.length≤sizeLine∧∃(its:List Value) (n:Nat),Vals xs its∧h.get? a=some { cls:=.type "list",data:=.seq its.toArray n }
  | .tup xs=>xs.length≤sizeLine∧∃its:List Value,Vals xs its∧IsTup h a its.toArray
  | .dK kvs=>kvs.length≤sizeLine∧(a==sysModules)=false∧∃vs,KV kvs vs∧h.DictOf (mixKind P w) a vs
  | .dT kvs=>kvs.length≤sizeLine∧(a==sysModules)=false∧∃xs:List (List Key×Addr×Value),
      Paired (fun (p:List Key×V) (q:List Key×Addr×Value)=>p.1=q.1∧H q.2.1=some (.tup (p.1.map kV))∧RelV p.2 q.2.2) kvs xs ∧
      ∃o es ep,h.get? a=some o∧o.ExactDict∧o.data=.dict es ep∧es.toList=xs.map (entryOfKey (tupleKind (mixKind P w)))∧(xs.map (·.1)).Nodup
  | .set S n=>h.SetOf (intKind P w) a S n
  | .ins C dx fs=>H dx=some (.own a)∧fs.length≤1000∧dx≠a∧h.get? a=some (PySem.W.instObj C dx) ∧
      ∃mA,h.Ns1 dx mA∧(∀f,RelO (fs.lookup f) (mA f))∧PySem.Within mA (fs.map (·.1))
  | .own _=>∃o,h.get? a=some o
  | .xd fs=>∃mA,h.Ns1 a mA∧∀f,RelO (fs.lookup f) (mA f)
  | .rng lo hi=>∃t u v,h.get? a=some { cls:=.type "range",data:=.fields #[.int lo t,.int hi u,.int 1 v] }
  | .frz o u=>h.get? a=some o∧ObjOk H h a u
  | .tbl ps=>h.get? a=some { cls:=.none,data:=.fields ps }
  | .met f x=>h.get? a=some (PySem.W.methodObj (.ref f) (.ref x))
  | .ext φ=>φ h∧(∃o,h.get? a=some o)∧∀h1 h2:Heap,φ h1→(∀o,h1.get? a=some o→h2.get? a=some o)→φ h2
noncomputable def HOk (H:Hp) (h:Heap):Prop:=∀a o,H a=some o→ObjOk P w H h a o
end

section
variable {P:Program} {w:World} {H H':Hp} {h h':Heap} {a:Addr} {o:HO}
theorem ObjOk.lt (x:ObjOk P w H h a o):a<h.objs.size:=by
  cases o with
  | lst xs=>obtain ⟨_,_,_,_,e⟩:=x;exact Heap.lt_size e
  | tup xs=>obtain ⟨_,_,_,p⟩:=x;exact p.lt
  | dK kvs=>obtain ⟨_,_,_,_,o,_,_,e,_⟩:=x;exact Heap.lt_size e
  | dT kvs=>obtain ⟨_,_,_,_,o,_,_,e,_⟩:=x;exact Heap.lt_size e
  | set S n=>obtain ⟨o,_,_,_,e,_⟩:=x;exact Heap.lt_size e
  | ins C dx fs=>obtain ⟨_,_,_,e,_⟩:=x;exact Heap.lt_size e
  | own y=>obtain ⟨_,e⟩:=x;exact Heap.lt_size e
  | xd fs=>obtain ⟨_,⟨_,_,_,e,_⟩,_⟩:=x;exact Heap.lt_size e
  | rng lo hi=>obtain ⟨_,_,_,e⟩:=x;exact Heap.lt_size e
  | frz ob u=>obtain ⟨e,_⟩:=x;exact Heap.lt_size e
  | tbl ps=>exact Heap.lt_size (show h.get? a=some _ from x)
  | met f y=>exact Heap.lt_size (show h.get? a=some _ from x)
  | ext φ=>obtain ⟨_,⟨_,e⟩,_⟩:=x;exact Heap.lt_size e
theorem Paired.mapP {α β:Type} {F G:α→β→Prop}:∀{l₁:List α} {l₂:List β},Paired F l₁ l₂→(∀a b,F a b→G a b)→Paired G l₁ l₂
  | _,_,.nil,_=>.nil
  | _,_,.cons r t,f=>.cons (f _ _ r) (Paired.mapP t f)
theorem ObjOk.stay (x:ObjOk P w H h a o) (k:∀b u,(b=a∨H b=some (.own a))→h.get? b=some u→h'.get? b=some u)
    (ho:∀b,H b=some (.own a)→H' b=some (.own a)) (ht:∀b xs,H b=some (.tup xs)→H' b=some (.tup xs)):ObjOk P w H' h' a o:=by
  induction o with
  | lst xs=>obtain ⟨z,its,n,r,e⟩:=x;exact ⟨z,its,n,r,k _ _ (.inl rfl) e⟩
  | tup xs=>obtain ⟨z,its,r,ob,e,c⟩:=x;exact ⟨z,its,r,ob,k _ _ (.inl rfl) e,c⟩
  | dK kvs=>obtain ⟨z,y,vs,r,ob,es,ep,e,c⟩:=x;exact ⟨z,y,vs,r,ob,es,ep,k _ _ (.inl rfl) e,c⟩
  | dT kvs=>
    obtain ⟨z,y,xs,r,ob,es,ep,e,c⟩:=x
    exact ⟨z,y,xs,Paired.mapP r fun p q z=>⟨z.1,ht _ _ z.2.1,z.2.2⟩,ob,es,ep,k _ _ (.inl rfl) e,c⟩
  | set S n=>obtain ⟨ob,es,ep,t,e,c⟩:=x;exact ⟨ob,es,ep,t,k _ _ (.inl rfl) e,c⟩
  | ins C dx fs=>
    obtain ⟨d,z,ne,e,mA,⟨od,es,ep,e2,c⟩,r⟩:=x
    exact ⟨ho _ d,z,ne,k _ _ (.inl rfl) e,mA,⟨od,es,ep,k _ _ (.inr d) e2,c⟩,r⟩
  | own y=>obtain ⟨ob,e⟩:=x;exact ⟨ob,k _ _ (.inl rfl) e⟩
  | xd fs=>obtain ⟨mA,⟨od,es,ep,e,c⟩,r⟩:=x;exact ⟨mA,⟨od,es,ep,k _ _ (.inl rfl) e,c⟩,r⟩
  | rng lo hi=>obtain ⟨t,u,v,e⟩:=x;exact ⟨t,u,v,k _ _ (.inl rfl) e⟩
  | frz ob u ih=>obtain ⟨e,q⟩:=x;exact ⟨k _ _ (.inl rfl) e,ih q⟩
  | tbl ps=>
    have e:h.get? a=some { cls:=.none,data:=.fields ps }:=x
    show h'.get? a=some { cls:=.none,data:=.fields ps }
    exact k a _ (.inl rfl) e
  | met f y=>
    have e:h.get? a=some (PySem.W.methodObj (.ref f) (.ref y)):=x
    show h'.get? a=some (PySem.W.methodObj (.ref f) (.ref y))
    exact k a _ (.inl rfl) e
  | ext φ=>obtain ⟨p,⟨o,e⟩,st⟩:=x;exact ⟨st _ _ p fun o q=>k _ _ (.inl rfl) q,⟨o,k _ _ (.inl rfl) e⟩,st⟩
theorem HOk.lt (x:HOk P w H h) (e:H a=some o):a<h.objs.size:=(x a o e).lt
theorem HOk.fresh (x:HOk P w H h) (e:h.objs.size≤a):H a=none:=by
  cases q:H a with
  | none=>rfl
  | some u=>exact absurd (Nat.lt_of_lt_of_le (x.lt q) e) (Nat.lt_irrefl _)
theorem HOk.kept (x:HOk P w H h) (k:∀b u,h.get? b=some u→h'.get? b=some u):HOk P w H h':=fun a o e=>
  (x a o e).stay (fun b u _ q=>k b u q) (fun _ q=>q) fun _ _ q=>q
theorem HOk.laid (x:HOk P w H h) (k:∀b u,h.get? b=some u→h'.get? b=some u) (hp:h.objs.size≤a) (new:ObjOk P w (upd H a o) h' a o):HOk P w (upd H a o) h':=fun b u e=>by
  have hn:=x.fresh hp
  by_cases hb:b=a
  · subst hb;rw [upd_same] at e;cases e;exact new
  · rw [upd_ne hb] at e
    exact (x b u e).stay (fun c v _ q=>k c v q) (fun c q=>by rw [upd_ne (ne_of_none q hn)];exact q) fun c xs q=>by rw [upd_ne (ne_of_none q hn)];exact q
end

noncomputable def Rd (H:Hp) (a:Addr) (u:HO):Prop:=H a=some u∨∃o,H a=some (.frz o u)
theorem Rd.ok {P:Program} {w:World} {H:Hp} {h:Heap} {a:Addr} {u:HO} (r:Rd H a u) (x:HOk P w H h):ObjOk P w H h a u:=by
  rcases r with r | ⟨o,r⟩
  · exact x a u r
  · obtain ⟨_,q⟩:=x a _ r
    exact q
noncomputable def Mut:Option HO→Prop
  | some (.lst _)=>True
  | some (.dK _)=>True
  | some (.dT _)=>True
  | some (.set _ _)=>True
  | some (.ins _ _ _)=>True
  | some (.ext _)=>True
  | _=>False
section
variable {P:Program} {w:World} {H:Hp} {h h':Heap} {x e:Addr} {o':HO}
theorem HOk.write (ok:HOk P w H h) (mu:Mut (H x)) (he:e=x∨H e=some (.own x)) (k:∀b u,b≠e→h.get? b=some u→h'.get? b=some u) (heo:∃u,h'.get? e=some u)
    (new:ObjOk P w (upd H x o') h' x o'):HOk P w (upd H x o') h':=fun b u q=>by
  have nown:∀c y,H c=some (.own y)→c≠x:=fun c y r z=>by subst z;rw [r] at mu;exact mu
  have ntup:∀c xs,H c=some (.tup xs)→c≠x:=fun c xs r z=>by subst z;rw [r] at mu;exact mu
  by_cases hb:b=x
  · subst hb;rw [upd_same] at q;cases q;exact new
  · rw [upd_ne hb] at q
    by_cases hbe:b=e
    · have q':H b=some (.own x):=by
        rcases he with z | z
        · exact absurd (hbe.trans z) hb
        · rw [hbe];exact z
      rw [q] at q';cases q'
      obtain ⟨v,hv⟩:=heo
      exact ⟨v,by rw [hbe];exact hv⟩
    · refine (ok b u q).stay (fun c v hc r=>k c v ?_ r) (fun c r=>by rw [upd_ne (nown c b r)];exact r) fun c xs r=>by rw [upd_ne (ntup c xs r)];exact r
      rcases hc with rfl | hc
      · exact hbe
      · rintro rfl
        rcases he with z | z
        · exact nown c b hc z
        · rw [hc] at z;cases z;exact hb rfl
end

structure Un (fs ex:List Addr) (H H':Hp) (h h':Heap):Prop where
  keep:∀b o,h.get? b=some o→H b=none→b∉fs→b∉ex→h'.get? b=some o
  slot:∀b o,h.get? b=some o→H b=none→b∈fs→b∉ex→∃sl,h'.get? b=some { o with slots:=sl }
  free:∀b o,h.get? b=some o→H b=none→b∉ex→H' b=none
  there:∀b o,h.get? b=some o→b∉ex→∃o',h'.get? b=some o'
  tups:∀b xs,H b=some (.tup xs)→H' b=some (.tup xs)
  frzs:∀b o u,H b=some (.frz o u)→H' b=some (.frz o u)
  tbls:∀b ps,H b=some (.tbl ps)→∃more,H' b=some (.tbl (ps++more))
section
variable {fs fs' ex ex':List Addr} {H H1 H2:Hp} {h h1 h2 h':Heap} {a x e:Addr} {o:HO}
theorem Un.any (u:Un fs ex H H1 h h1) {b:Addr} {ob:Obj} (q:h.get? b=some ob) (n:H b=none) (hx:b∉ex):∃sl,h1.get? b=some { ob with slots:=sl }:=by
  by_cases hb:b∈fs
  · exact u.slot b ob q n hb hx
  · exact ⟨ob.slots,u.keep b ob q n hb hx⟩
theorem Un.kept (k:∀b u,h.get? b=some u→h'.get? b=some u):Un fs ex H H h h':=
  ⟨fun b ob q _ _ _=>k b ob q,fun b ob q _ _ _=>⟨ob.slots,k b ob q⟩,fun _ _ _ n _=>n,fun b ob q _=>⟨ob,k b ob q⟩,fun _ _ q=>q,fun _ _ _ q=>q,fun _ ps q=>⟨#[],by rw [q];simp⟩⟩
theorem Un.refl:Un fs ex H H h h:=Un.kept fun _ _ q=>q
theorem Un.laid (k:∀b u,h.get? b=some u→h'.get? b=some u) (hp:h.objs.size≤a) (hn:H a=none):Un fs ex H (upd H a o) h h' where
  keep:=fun b u q _ _ _=>k b u q
  slot:=fun b u q _ _ _=>⟨u.slots,k b u q⟩
  free:=fun b u q n _=>by rw [upd_ne (Nat.ne_of_lt (Nat.lt_of_lt_of_le (Heap.lt_size q) hp))];exact n
  there:=fun b u q _=>⟨u,k b u q⟩
  tups:=fun b xs q=>by rw [upd_ne (ne_of_none q hn)];exact q
  frzs:=fun b u xs q=>by rw [upd_ne (ne_of_none q hn)];exact q
  tbls:=fun b ps q=>⟨#[],by rw [upd_ne (ne_of_none q hn),q];simp⟩
theorem Un.write (mu:Mut (H x)) (he:e=x∨H e=some (.own x)) (k:∀b u,b≠e→h.get? b=some u→h'.get? b=some u) (heo:∃u,h'.get? e=some u):Un fs ex H (upd H x o) h h':=by
  have hx:∀b,H b=none→b≠x:=fun b n z=>by subst z;rw [n] at mu;exact mu
  have hb:∀b,H b=none→b≠e:=fun b n z=>by
    subst z
    rcases he with r | r
    · exact hx b n r
    · rw [n] at r;cases r
  have hm:∀b u,H b=some u→¬Mut (some u)→b≠x:=fun b u q nm z=>by subst z;rw [q] at mu;exact nm mu
  refine ⟨fun b u q n _ _=>k b u (hb b n) q,fun b u q n _ _=>⟨u.slots,k b u (hb b n) q⟩,fun b u q n _=>by rw [upd_ne (hx b n)];exact n,fun b u q _=>?_,
    fun b xs q=>by rw [upd_ne (hm b _ q fun z=>z)];exact q,fun b u xs q=>by rw [upd_ne (hm b _ q fun z=>z)];exact q,fun b ps q=>⟨#[],by rw [upd_ne (hm b _ q fun z=>z),q];simp⟩⟩
  by_cases hbe:b=e
  · subst hbe;exact heo
  · exact ⟨u,k b u hbe q⟩
end

noncomputable def trk (h:Heap) (H:Hp):List Addr:=(List.range h.objs.size).filter fun a=>(H a).isSome
noncomputable def hidT (h:Heap) (H:Hp):Heap:=PySem.W.hideAll h (trk h H)
theorem hidT_size (h:Heap) (H:Hp):(hidT h H).objs.size=h.objs.size:=PySem.W.hideAll_size _ _
theorem hidT_get {h:Heap} {H:Hp} {b:Addr} {o:Obj} (e:h.get? b=some o) (n:H b=none):(hidT h H).get? b=some o:=
  PySem.W.hideAll_get _ e fun hm=>by
    have q:(H b).isSome=true:=(List.mem_filter.mp hm).2
    rw [n] at q;simp at q
theorem of_hidT {h:Heap} {H:Hp} {b:Addr} {o:Obj} (e:(hidT h H).get? b=some o):h.get? b=some o∧H b=none:=by
  have e':h.get? b=some o:=PySem.W.of_hideAll (trk h H) e
  refine ⟨e',?_⟩
  cases q:H b with
  | none=>rfl
  | some x=>
    have hm:b∈trk h H:=List.mem_filter.mpr ⟨List.mem_range.mpr (Heap.lt_size e'),by simp [q]⟩
    have z:(hidT h H).get? b=none:=PySem.W.hideAll_none (trk h H) hm
    rw [z] at e;cases e

end L2

namespace L2
open PySem PySem.Spec PyProof.Rows

structure Mod (K:PySem.W.Frag) (mg:Str→Option Value) (base:Heap):Prop where
  kin:K.In base
  glob:base.Ns mainGlobals mg
  blt:∃mb,base.Ns builtinsNs mb∧∀x:Str,x ≠ "__name__"→mb x=bootBuiltins x
  nolimit:base.NoLimit

structure Cx where
  prog:Program
  w:World
  K:PySem.W.Frag
  mg:Str→Option Value
  base:Heap
  A:Around
  N:List Str
  s₀:Shared
  H₀:Hp
  env:Env
  outer:List Env
  stack:List Env
  ex:List Addr
  fn:Str→Bool
  calm:Bool
  pn:List (Addr×Obj)
  xe:Value→Shared→Prop
noncomputable def frs (l:List Env):List Addr:=l.filterMap (·.frame)
noncomputable abbrev Cx.fs (X:Cx):List Addr:=frs X.outer

noncomputable def Vis (sc:Scope) (x:Str):Prop:=sc.names.lookup x=some .local∨sc.names.lookup x=some .cell∨sc.names.lookup x=some .free
noncomputable def Loc (sc:Scope) (x:Str):Prop:=sc.names.lookup x=some .local∨sc.names.lookup x=some .cell
noncomputable def Look (env:Env) (h:Heap) (m:Str→Option Value) (x:Str) (u:Value):Prop:=
  (env.kindOf x=some .local∧m x=some u)∨((env.kindOf x=some .cell∨env.kindOf x=some .free)∧∃c,env.cells.lookup x=some c∧h.IsCell c (some u))

structure Cx.Ok (X:Cx):Prop where
  mod:Mod X.K X.mg X.base
  kind:X.env.scope.kind=.function
  glob:X.env.globals=mainGlobals
  blt:X.env.builtins=builtinsNs
  above:X.s₀.heap.objs.size≤X.env.locals
  inj:∀x y c,X.env.cells.lookup x=some c→X.env.cells.lookup y=some c→x=y
  has:∀x,(X.env.kindOf x=some .cell∨X.env.kindOf x=some .free)→∃c,X.env.cells.lookup x=some c
  cab:∀x c,X.fn x=true→X.env.cells.lookup x=some c→X.s₀.heap.objs.size≤c
  hd:X.calm=true→X.A.handled=none
  frames:X.A.frames=some X.stack
  stk:X.stack=X.outer∨(X.stack=X.env::X.outer∧X.env.frame=some X.env.locals)
  exf:∀b∈X.ex,b≠X.env.locals∧∀x c,X.env.cells.lookup x=some c→c≠b
  bs:∀b o,X.base.get? b=some o→X.s₀.heap.get? b=some o∧X.H₀ b=none
  bsz:X.base.objs.size≤X.s₀.heap.objs.size
  noex:∀b o,X.base.get? b=some o→b∉X.ex
  exfs:∀b∈X.ex,b∉X.fs
  funs:X.s₀.heap.FunFrames X.base X.outer
  frf:∀b∈X.fs,X.H₀ b=none

structure Inv (X:Cx) (pins:List (Addr×Obj)) (σ:List (Option V)) (H:Hp) (s:Shared):Prop where
  ok:X.Ok
  os:s.os=X.s₀.os
  bare:AllBare s.gens
  base:Un X.fs X.ex X.H₀ H X.s₀.heap s.heap
  loc:∃m,s.heap.Ns X.env.locals m∧∀(i:Nat) (x:Str) (v:V),X.N[i]?=some x→σ[i]?=some (some v)→Vis X.env.scope x→∃u,RelV v u∧Look X.env s.heap m x u
  cell:∀x c,X.env.cells.lookup x=some c→∃v,s.heap.IsCell c v
  free:H X.env.locals=none
  freeC:∀x c,X.env.cells.lookup x=some c→H c=none
  pin:∀p∈X.pn++pins,s.heap.get? p.1=some p.2∧H p.1=none∧p.1≠X.env.locals∧p.1∉X.fs∧∀v,p.2.data≠.cell v
  hok:HOk X.prog X.w H s.heap
  len:σ.length=X.N.length

section
variable {X:Cx} {pins:List (Addr×Obj)} {σ:List (Option V)} {H H':Hp} {s:Shared} {h':Heap}

theorem Cx.Ok.nofr (ok:X.Ok) {b:Addr} {o:Obj} (e:X.base.get? b=some o):b∉X.fs:=fun hb=>by
  have:=(ok.funs.mem hb).1
  rw [e] at this;cases this
theorem Inv.bs (I:Inv X pins σ H s):∀b o,X.base.get? b=some o→s.heap.get? b=some o∧H b=none:=fun b o e=>
  ⟨I.base.keep b o (I.ok.bs b o e).1 (I.ok.bs b o e).2 (I.ok.nofr e) (I.ok.noex b o e),I.base.free b o (I.ok.bs b o e).1 (I.ok.bs b o e).2 (I.ok.noex b o e)⟩
theorem Inv.bk (I:Inv X pins σ H s):∀b o,X.base.get? b=some o→s.heap.get? b=some o:=fun b o e=>(I.bs b o e).1
theorem Inv.mod (I:Inv X pins σ H s):Mod X.K X.mg X.base:=I.ok.mod
theorem Inv.kIn (I:Inv X pins σ H s):X.K.In s.heap:=I.ok.mod.kin.keeps I.bk
theorem Inv.lt (I:Inv X pins σ H s):X.env.locals<s.heap.objs.size:=let ⟨_,hn,_⟩:=I.loc;hn.lt
theorem Inv.sz (I:Inv X pins σ H s):X.s₀.heap.objs.size≤s.heap.objs.size:=Nat.le_trans I.ok.above (Nat.le_of_lt I.lt)
theorem Inv.nofs (I:Inv X pins σ H s) {a:Addr} (h:s.heap.objs.size≤a):a∉X.fs:=fun hb=>by
  obtain ⟨_,o,ho,_⟩:=I.ok.funs.mem hb
  exact absurd (Nat.lt_of_lt_of_le (Heap.lt_size ho) (Nat.le_trans I.sz h)) (Nat.lt_irrefl _)
theorem Inv.cne (I:Inv X pins σ H s):∀x c,X.env.cells.lookup x=some c→c≠X.env.locals:=fun x c e z=>by
  obtain ⟨v,o,ho,hd⟩:=I.cell x c e
  obtain ⟨m,⟨o',es,ep,ho',hd',_⟩,_⟩:=I.loc
  rw [z,ho'] at ho;cases ho;rw [hd'] at hd;cases hd
theorem Inv.funs (I:Inv X pins σ H s):s.heap.FunFrames X.base X.outer:=by
  have all:∀(l:List Env),(∀b∈frs l,b∈X.fs)→X.s₀.heap.FunFrames X.base l→s.heap.FunFrames X.base l:=by
    intro l
    induction l with
    | nil=>intro _ _;trivial
    | cons env r ih=>
      intro hs hl
      obtain ⟨hk,⟨L,o,hf,hn,ho,hd⟩,hr⟩:=hl
      have hL:L∈X.fs:=hs L (by unfold frs;rw [List.filterMap_cons,hf];exact List.mem_cons_self)
      obtain ⟨sl,e⟩:=I.base.slot L o ho (I.ok.frf L hL) hL fun z=>I.ok.exfs L z hL
      exact ⟨hk,⟨L,_,hf,hn,e,hd⟩,ih (fun b hb=>hs b (by unfold frs;rw [List.filterMap_cons,hf];exact List.mem_cons_of_mem _ hb)) hr⟩
  exact all X.outer (fun _ hb=>hb) I.ok.funs

theorem Inv.stack (I:Inv X pins σ H s):s.heap.FunFrames X.base X.stack:=by
  rcases I.ok.stk with e | ⟨e,hf⟩
  · rw [e];exact I.funs
  · rw [e]
    obtain ⟨m,hn,_⟩:=I.loc
    refine .cons (by rw [I.ok.kind];decide) hf hn ?_ I.funs
    exact Heap.get?_none_of_le (Nat.le_trans I.ok.bsz I.ok.above)
theorem Inv.stkSub (I:Inv X pins σ H s):∀b∈frs X.stack,b∈X.env.locals::X.fs:=fun b hb=>by
  rcases I.ok.stk with e | ⟨e,hf⟩
  · rw [e] at hb;exact List.mem_cons_of_mem _ hb
  · rw [e] at hb
    unfold frs at hb
    rw [List.filterMap_cons,hf] at hb
    exact hb
theorem Inv.stkFree (I:Inv X pins σ H s):∀b∈frs X.stack,H b=none:=fun b hb=>by
  rcases List.mem_cons.mp (I.stkSub b hb) with e | hb
  · rw [e];exact I.free
  · obtain ⟨_,o,ho,_⟩:=I.ok.funs.mem hb
    exact I.base.free b o ho (I.ok.frf b hb) fun z=>I.ok.exfs b z hb

theorem Inv.step {g':Array GenState} {t':Nat} {d':Drawn} {ch:List Addr} (I:Inv X pins σ H s)
    (hch:∀b∈ch,(b∈X.ex∨X.s₀.heap.objs.size≤b)∧b≠X.env.locals∧(∀x c,X.env.cells.lookup x=some c→c≠b)∧∀p∈X.pn++pins,p.1≠b)
    (keep:∀b o,b≠X.env.locals→b∉X.fs→b∉ch→s.heap.get? b=some o→H b=none→h'.get? b=some o)
    (slot:∀b o,b≠X.env.locals→b∈X.fs→b∉ch→s.heap.get? b=some o→H b=none→∃sl,h'.get? b=some { o with slots:=sl }) (free:∀b o,b∉ch→s.heap.get? b=some o→H b=none→H' b=none)
    (there:∀b o,b∉ch→s.heap.get? b=some o→∃o',h'.get? b=some o')
    (tups:∀b xs,H b=some (.tup xs)→H' b=some (.tup xs)) (frzs:∀b o u,H b=some (.frz o u)→H' b=some (.frz o u)) (tbls:∀b ps,H b=some (.tbl ps)→∃more,H' b=some (.tbl (ps++more)))
    (ns:∀m,s.heap.Ns X.env.locals m→h'.Ns X.env.locals m) (hok:HOk X.prog X.w H' h') (hg:AllBare g') :
    Inv X pins σ H' { s with heap:=h',gens:=g',drawn:=d',toks:=t' }:=by
  have neL:∀b o,X.s₀.heap.get? b=some o→b≠X.env.locals:=fun b o e=>Nat.ne_of_lt (Nat.lt_of_lt_of_le (Heap.lt_size e) I.ok.above)
  have neC:∀b o,X.s₀.heap.get? b=some o→b∉X.ex→b∉ch:=fun b o e hx hb=>by
    rcases (hch b hb).1 with z | z
    · exact hx z
    · exact absurd (Nat.lt_of_lt_of_le (Heap.lt_size e) z) (Nat.lt_irrefl _)
  have cellK:∀x c,X.env.cells.lookup x=some c→∀v,s.heap.IsCell c v→h'.IsCell c v:=fun x c e v ⟨o,ho,hd⟩=>by
    have nch:c∉ch:=fun z=>(hch c z).2.2.1 x c e rfl
    by_cases hc:c∈X.fs
    · obtain ⟨sl,q⟩:=slot c o (I.cne x c e) hc nch ho (I.freeC x c e)
      exact ⟨_,q,hd⟩
    · exact ⟨o,keep c o (I.cne x c e) hc nch ho (I.freeC x c e),hd⟩
  refine ⟨I.ok,I.os,hg,⟨fun b o e n hb hx=>?_,fun b o e n hb hx=>?_,fun b o e n hx=>?_,fun b o e hx=>?_,fun b xs e=>tups b xs (I.base.tups b xs e),fun b o xs e=>frzs b o xs (I.base.frzs b o xs e),fun b ps e=>?_⟩,?_,fun x c e=>?_,?_,fun x c e=>?_,fun p hp=>?_,hok,I.len⟩
  · exact keep b o (neL b o e) hb (neC b o e hx) (I.base.keep b o e n hb hx) (I.base.free b o e n hx)
  · obtain ⟨sl,e1⟩:=I.base.slot b o e n hb hx
    obtain ⟨sl',e2⟩:=slot b _ (neL b o e) hb (neC b o e hx) e1 (I.base.free b o e n hx)
    exact ⟨sl',e2⟩
  · obtain ⟨o',e1⟩:=I.base.there b o e hx
    exact free b o' (neC b o e hx) e1 (I.base.free b o e n hx)
  · obtain ⟨o',e1⟩:=I.base.there b o e hx
    exact there b o' (neC b o e hx) e1
  · obtain ⟨m1,e1⟩:=I.base.tbls b ps e
    obtain ⟨m2,e2⟩:=tbls b _ e1
    exact ⟨m1++m2,by rw [e2,Array.append_assoc]⟩
  · obtain ⟨m,hn,hl⟩:=I.loc
    refine ⟨m,ns m hn,fun i x v e1 e2 e3=>?_⟩
    obtain ⟨u,r,l⟩:=hl i x v e1 e2 e3
    refine ⟨u,r,?_⟩
    rcases l with l | ⟨k,c,e,z⟩
    · exact .inl l
    · exact .inr ⟨k,c,e,cellK x c e _ z⟩
  · obtain ⟨v,z⟩:=I.cell x c e
    exact ⟨v,cellK x c e v z⟩
  · obtain ⟨m,⟨o,_,_,ho,_⟩,_⟩:=I.loc
    exact free _ o (fun z=>(hch _ z).2.1 rfl) ho I.free
  · obtain ⟨v,o,ho,hd⟩:=I.cell x c e
    exact free c o (fun z=>(hch c z).2.2.1 x c e rfl) ho (I.freeC x c e)
  · obtain ⟨e,n,ne,nf,d⟩:=I.pin p hp
    have nch:p.1∉ch:=fun z=>(hch p.1 z).2.2.2 p hp rfl
    exact ⟨keep p.1 p.2 ne nf nch e n,free p.1 p.2 nch e n,ne,nf,d⟩
theorem Inv.un {t':Nat} (I:Inv X pins σ H s) (u:Un X.fs [] H H' s.heap h') (hok:HOk X.prog X.w H' h'):Inv X pins σ H' { s with heap:=h',toks:=t' }:=by
  obtain ⟨m,⟨o,es,ep,ho,r⟩,_⟩:=id I.loc
  obtain ⟨sl,hL⟩:=u.any ho I.free (by simp)
  exact I.step (g':=s.gens) (d':=s.drawn) (ch:=[]) (fun _ z=>nomatch z) (fun b o _ hb _ e n=>u.keep b o e n hb (by simp)) (fun b o _ hb _ e n=>u.slot b o e n hb (by simp)) (fun b o _ e n=>u.free b o e n (by simp)) (fun b o _ e=>u.there b o e (by simp)) u.tups u.frzs u.tbls (fun m' hm=>by
    obtain ⟨o',es',ep',ho',r'⟩:=hm
    rw [ho] at ho';cases ho'
    exact ⟨_,es',ep',hL,r'⟩) hok I.bare
theorem Inv.call {g':Array GenState} {t':Nat} {d':Drawn} {ch:List Addr} (I:Inv X pins σ H s) (u:Un (frs X.stack) ch H H' s.heap h') (hok:HOk X.prog X.w H' h') (hg:AllBare g')
    (hch:∀b∈ch,(b∈X.ex∨X.s₀.heap.objs.size≤b)∧b≠X.env.locals∧(∀x c,X.env.cells.lookup x=some c→c≠b)∧∀p∈X.pn++pins,p.1≠b) :
    Inv X pins σ H' { s with heap:=h',gens:=g',drawn:=d',toks:=t' }:=by
  obtain ⟨m,⟨o,es,ep,ho,r⟩,_⟩:=id I.loc
  obtain ⟨sl,hL⟩:=u.any ho I.free fun z=>(hch _ z).2.1 rfl
  exact I.step (ch:=ch) hch (fun b o hL hb hc e n=>u.keep b o e n (fun z=>(List.mem_cons.mp (I.stkSub b z)).elim hL hb) hc) (fun b o _ _ hc e n=>u.any e n hc) (fun b o hc e n=>u.free b o e n hc) (fun b o hc e=>u.there b o e hc) u.tups u.frzs u.tbls (fun m' hm=>by
    obtain ⟨o',es',ep',ho',r'⟩:=hm
    rw [ho] at ho';cases ho'
    exact ⟨_,es',ep',hL,r'⟩) hok hg
theorem Inv.turned {t':Nat} {it:Addr} (I:Inv X pins σ H s) (k:∀b o,b≠it→s.heap.get? b=some o→h'.get? b=some o) (hn:H it=none) (hL:it≠X.env.locals)
    (h1:it∈X.ex∨X.s₀.heap.objs.size≤it) (h2:∀x c,X.env.cells.lookup x=some c→c≠it) (h3:∀p∈X.pn++pins,p.1≠it):Inv X pins σ H { s with heap:=h',toks:=t' }:=by
  have nit:∀b u,H b=some u→b≠it:=fun b u e z=>by rw [z,hn] at e;cases e
  refine I.step (g':=s.gens) (d':=s.drawn) (ch:=[it]) (fun b hb=>?_) (fun b o _ _ hc e _=>k b o (fun z=>hc (by simp [z])) e) (fun b o _ _ hc e _=>⟨o.slots,k b o (fun z=>hc (by simp [z])) e⟩) (fun _ _ _ _ n=>n)
    (fun b o hc e=>⟨o,k b o (fun z=>hc (by simp [z])) e⟩) (fun _ _ e=>e) (fun _ _ _ e=>e) (fun b ps e=>⟨#[],by rw [e];simp⟩) (fun m hm=>?_) (fun b u e=>?_) I.bare
  · have e:b=it:=by simpa using hb
    subst e
    exact ⟨h1,hL,h2,h3⟩
  · obtain ⟨o,es,ep,ho,r⟩:=hm
    exact ⟨o,es,ep,k _ o (Ne.symm hL) ho,r⟩
  · refine (I.hok b u e).stay (fun c v hc q=>k c v ?_ q) (fun _ q=>q) fun _ _ q=>q
    rcases hc with z | z
    · rw [z];exact nit b u e
    · exact nit c _ z
theorem Inv.tok (I:Inv X pins σ H s) (t:Nat):Inv X pins σ H { s with toks:=t }:=I.un (h':=s.heap) (t':=t) Un.refl I.hok
theorem Inv.kept {t':Nat} (I:Inv X pins σ H s) (k:∀b u,s.heap.get? b=some u→h'.get? b=some u):Inv X pins σ H { s with heap:=h',toks:=t' }:=I.un (Un.kept k) (I.hok.kept k)
theorem Inv.laid {a:Addr} {o:HO} {t':Nat} (I:Inv X pins σ H s) (k:∀b u,s.heap.get? b=some u→h'.get? b=some u) (hp:s.heap.objs.size≤a) (new:ObjOk X.prog X.w (upd H a o) h' a o) :
    Inv X pins σ (upd H a o) { s with heap:=h',toks:=t' }:=I.un (Un.laid k hp (I.hok.fresh hp)) (I.hok.laid k hp new)
theorem Inv.write {x e:Addr} {o:HO} {t':Nat} (I:Inv X pins σ H s) (mu:Mut (H x)) (he:e=x∨H e=some (.own x)) (k:∀b u,b≠e→s.heap.get? b=some u→h'.get? b=some u) (heo:∃u,h'.get? e=some u)
    (new:ObjOk X.prog X.w (upd H x o) h' x o):Inv X pins σ (upd H x o) { s with heap:=h',toks:=t' }:=I.un (Un.write mu he k heo) (I.hok.write mu he k heo new)
theorem Inv.pins_of {pins':List (Addr×Obj)} (I:Inv X pins σ H s) (h:∀p∈pins',s.heap.get? p.1=some p.2∧H p.1=none∧p.1≠X.env.locals∧p.1∉X.fs∧∀v,p.2.data≠.cell v):Inv X pins' σ H s:=
  ⟨I.ok,I.os,I.bare,I.base,I.loc,I.cell,I.free,I.freeC,fun p hp=>(List.mem_append.mp hp).elim (fun z=>I.pin p (List.mem_append_left _ z)) (h p),I.hok,I.len⟩

theorem nodup_ix {N:List Str} (hN:N.Nodup) {i j:Nat} {x:Str} (a:N[i]?=some x) (b:N[j]?=some x):i=j:=by
  obtain ⟨h1,e1⟩:=List.getElem?_eq_some_iff.mp a
  obtain ⟨h2,e2⟩:=List.getElem?_eq_some_iff.mp b
  exact (List.getElem_inj hN).mp (e1.trans e2.symm)

theorem store_ok2 {M:Model} {A:Around} {E:Value→Shared→Prop} {i:Nat} {x:Str} {v:V} {u:Value} {Q:Unit→Shared→Prop} (I:Inv X pins σ H s) (hN:X.N.Nodup) (hi:X.N[i]?=some x) (hx:Loc X.env.scope x) (r:RelV v u)
    (h:∀s',Inv X pins (σ.set i (some v)) H s'→(∃a,Heap.SameBut a s.heap s'.heap∧(a=X.env.locals∨X.env.cells.lookup x=some a))→Q () s') (hf:X.fn x=true∨X.env.scope.names.lookup x=some .local:=by first | exact .inl rfl | exact .inr rfl | assumption):wpAny M A (storeName X.env x u) Q E s:=by
  obtain ⟨m,hn,hl⟩:=id I.loc
  have hcls:(X.env.scope.kind==.class||(X.env.scope.kind==.module&&X.env.locals != X.env.globals))=false:=by rw [I.ok.kind];rfl
  have hiσ:i<σ.length:=by rw [I.len];exact (List.getElem?_eq_some_iff.mp hi).1
  have cne:=I.cne
  have tracked:∀{a:Addr} {h':Heap},(∃o,s.heap.get? a=some o∧H a=none)→Heap.SameBut a s.heap h'→HOk X.prog X.w H h':=fun {a h'} ha hs b ob e=>by
    obtain ⟨_,_,hfree⟩:=ha
    refine (I.hok b ob e).stay (fun c w' hc q=>(hs.2 c ?_).trans q) (fun _ q=>q) fun _ _ q=>q
    rintro rfl
    rcases hc with rfl | hc
    · rw [hfree] at e;cases e
    · rw [hfree] at hc;cases hc
  rcases hx with hk | hk
  · refine wpAny_storeName_local hk hn (fun h' hn' hs=>?_) hcls
    obtain ⟨oL,_,_,hoL,_⟩:=id hn
    refine h _ ⟨I.ok,I.os,I.bare,⟨fun b o e n hb hx=>?_,fun b o e n hb hx=>?_,I.base.free,fun b o e hx=>?_,I.base.tups,I.base.frzs,I.base.tbls⟩,⟨_,hn',fun j y v' e1 e2 e3=>?_⟩,fun y c e=>?_,I.free,I.freeC,fun p hp=>?_,tracked ⟨oL,hoL,I.free⟩ hs,by simpa using I.len⟩ ⟨_,hs,.inl rfl⟩
    · exact (hs.2 b (Nat.ne_of_lt (Nat.lt_of_lt_of_le (Heap.lt_size e) I.ok.above))).trans (I.base.keep b o e n hb hx)
    · obtain ⟨sl,e1⟩:=I.base.slot b o e n hb hx
      exact ⟨sl,(hs.2 b (Nat.ne_of_lt (Nat.lt_of_lt_of_le (Heap.lt_size e) I.ok.above))).trans e1⟩
    · obtain ⟨o',e1⟩:=I.base.there b o e hx
      exact ⟨o',(hs.2 b (Nat.ne_of_lt (Nat.lt_of_lt_of_le (Heap.lt_size e) I.ok.above))).trans e1⟩
    · by_cases hj:j=i
      · subst hj
        rw [hi] at e1;cases e1
        rw [List.getElem?_set_self hiσ] at e2
        cases e2
        exact ⟨u,r,.inl ⟨hk,by simp⟩⟩
      · rw [List.getElem?_set_ne (Ne.symm hj)] at e2
        obtain ⟨u',r',q⟩:=hl j y v' e1 e2 e3
        refine ⟨u',r',?_⟩
        rcases q with ⟨k,e⟩ | ⟨k,c,e,z⟩
        · refine .inl ⟨k,?_⟩
          have:y≠x:=fun e=>hj (nodup_ix hN e1 (e▸hi))
          simp [this,e]
        · exact .inr ⟨k,c,e,z.sameBut hs (cne y c e)⟩
    · obtain ⟨w',z⟩:=I.cell y c e
      exact ⟨w',z.sameBut hs (cne y c e)⟩
    · obtain ⟨e,n,ne,nf,d⟩:=I.pin p hp
      exact ⟨(hs.2 p.1 ne).trans e,n,ne,nf,d⟩
  · have hfn:X.fn x=true:=by
      rcases hf with z | z
      · exact z
      · rw [z] at hk;cases hk
    obtain ⟨c,hc⟩:=I.ok.has x (.inl hk)
    obtain ⟨w',z⟩:=I.cell x c hc
    refine wpAny_storeName_cell I.ok.kind hk hc z (fun h' hc' hs=>?_)
    obtain ⟨oc,hoc,hocd⟩:=id z
    refine h { s with heap:=h' } ⟨I.ok,I.os,I.bare,⟨fun b o e n hb hx=>?_,fun b o e n hb hx=>?_,I.base.free,fun b o e hx=>?_,I.base.tups,I.base.frzs,I.base.tbls⟩,⟨m,hn.sameBut hs (Ne.symm (cne x c hc)),fun j y v' e1 e2 e3=>?_⟩,fun y c' e=>?_,I.free,I.freeC,fun p hp=>?_,tracked ⟨oc,hoc,I.freeC x c hc⟩ hs,by simpa using I.len⟩ ⟨c,hs,.inr hc⟩
    · exact (hs.2 b (Nat.ne_of_lt (Nat.lt_of_lt_of_le (Heap.lt_size e) (I.ok.cab x c hfn hc)))).trans (I.base.keep b o e n hb hx)
    · obtain ⟨sl,e1⟩:=I.base.slot b o e n hb hx
      exact ⟨sl,(hs.2 b (Nat.ne_of_lt (Nat.lt_of_lt_of_le (Heap.lt_size e) (I.ok.cab x c hfn hc)))).trans e1⟩
    · obtain ⟨o',e1⟩:=I.base.there b o e hx
      exact ⟨o',(hs.2 b (Nat.ne_of_lt (Nat.lt_of_lt_of_le (Heap.lt_size e) (I.ok.cab x c hfn hc)))).trans e1⟩
    · by_cases hj:j=i
      · subst hj
        rw [hi] at e1;cases e1
        rw [List.getElem?_set_self hiσ] at e2
        cases e2
        exact ⟨u,r,.inr ⟨.inl hk,c,hc,hc'⟩⟩
      · rw [List.getElem?_set_ne (Ne.symm hj)] at e2
        obtain ⟨u',r',q⟩:=hl j y v' e1 e2 e3
        refine ⟨u',r',?_⟩
        rcases q with q | ⟨k,c',e,z'⟩
        · exact .inl q
        · refine .inr ⟨k,c',e,z'.sameBut hs ?_⟩
          rintro rfl
          exact hj (nodup_ix hN e1 (I.ok.inj _ _ _ e hc▸hi))
    · by_cases hcc:c'=c
      · subst hcc;exact ⟨_,hc'⟩
      · obtain ⟨w2,z2⟩:=I.cell y c' e
        exact ⟨w2,z2.sameBut hs hcc⟩
    · obtain ⟨e,n,ne,nf,d⟩:=I.pin p hp
      refine ⟨(hs.2 p.1 ?_).trans e,n,ne,nf,d⟩
      intro q
      rw [q,hoc] at e
      have q':oc=p.2:=Option.some.inj e
      exact d w' (by rw [← q'];exact hocd)
theorem store_ok {M:Model} {A:Around} {E:Value→Shared→Prop} {i:Nat} {x:Str} {v:V} {u:Value} {Q:Unit→Shared→Prop} (I:Inv X pins σ H s) (hN:X.N.Nodup) (hi:X.N[i]?=some x) (hx:Loc X.env.scope x) (r:RelV v u)
    (h:∀s',Inv X pins (σ.set i (some v)) H s'→Q () s') (hf:X.fn x=true∨X.env.scope.names.lookup x=some .local:=by first | exact .inl rfl | exact .inr rfl | assumption):wpAny M A (storeName X.env x u) Q E s:=
  store_ok2 I hN hi hx r (fun s' I' _=>h s' I') hf
theorem Inv.call' {s':Shared} {ch:List Addr} (I:Inv X pins σ H s) (ho:s'.os=s.os) (u:Un (frs X.stack) ch H H' s.heap s'.heap) (hok:HOk X.prog X.w H' s'.heap) (hg:AllBare s'.gens)
    (hch:∀b∈ch,(b∈X.ex∨X.s₀.heap.objs.size≤b)∧b≠X.env.locals∧(∀x c,X.env.cells.lookup x=some c→c≠b)∧∀p∈X.pn++pins,p.1≠b):Inv X pins σ H' s':=by
  obtain ⟨h',g',d',t',o'⟩:=s'
  have e:o'=s.os:=ho
  subst e
  exact I.call (g':=g') (t':=t') (d':=d') u hok hg hch
end

noncomputable abbrev XK:=Value→Option Addr→Hp→Prop
noncomputable abbrev St:=List (Option V)
noncomputable abbrev VK:=V→Hp→Prop
noncomputable abbrev TE:=St→Hp→VK→Prop
noncomputable abbrev TT:=St→Hp→(Bool→Hp→Prop)→Prop
noncomputable abbrev TA:=St→Hp→(List V→Hp→Prop)→Prop
structure Ends where
  nx:St→Hp→Prop
  rt:VK
  bk:St→Hp→Prop:=fun _ _=>False
  ct:St→Hp→Prop:=fun _ _=>False
noncomputable abbrev TS:=Ends→St→Hp→Prop

noncomputable def EP (X:Cx) (pins:List (Addr×Obj)) (σ:St) (Q:VK) (u:Value) (s':Shared):Prop:=∃v H',Inv X pins σ H' s'∧RelV v u∧Q v H'
noncomputable def TP (X:Cx) (pins:List (Addr×Obj)) (σ:St) (Q:Bool→Hp→Prop) (b:Bool) (s':Shared):Prop:=∃H',Inv X pins σ H' s'∧Q b H'
noncomputable def AP (X:Cx) (pins:List (Addr×Obj)) (σ:St) (Q:List V→Hp→Prop) (us:List Value) (s':Shared):Prop:=∃vs H',Inv X pins σ H' s'∧Vals vs us∧Q vs H'
noncomputable def SP (X:Cx) (pins:List (Addr×Obj)) (D:Ends) (f:Flow) (s':Shared):Prop:=
  match f with
  | .next=>∃σ' H',Inv X pins σ' H' s'∧D.nx σ' H'
  | .brk=>∃σ' H',Inv X pins σ' H' s'∧D.bk σ' H'
  | .cont=>∃σ' H',Inv X pins σ' H' s'∧D.ct σ' H'
  | .ret u=>∃v σ' H',Inv X pins σ' H' s'∧RelV v u∧D.rt v H'

noncomputable def PE (X:Cx) (e:Expr) (t:TE):Prop:=
  ∀(pins:List (Addr×Obj)) (s:Shared) (σ:St) (H:Hp) (Q:VK),Inv X pins σ H s→t σ H Q→wpAny (model X.prog X.w) X.A (eval e X.env) (EP X pins σ Q) X.xe s
noncomputable def PT (X:Cx) (e:Expr) (t:TT):Prop:=
  ∀(pins:List (Addr×Obj)) (s:Shared) (σ:St) (H:Hp) (Q:Bool→Hp→Prop),Inv X pins σ H s→t σ H Q→wpAny (model X.prog X.w) X.A (isTrue e X.env (eval e X.env)) (TP X pins σ Q) X.xe s
noncomputable def PW (X:Cx) (e:Expr) (t:TT):Prop:=
  ∀(whole:Sem Value) (pins:List (Addr×Obj)) (s:Shared) (σ:St) (H:Hp) (Q:Bool→Hp→Prop),Inv X pins σ H s→t σ H Q→wpAny (model X.prog X.w) X.A (isTrue e X.env whole) (TP X pins σ Q) X.xe s
theorem PW.pt {X:Cx} {e:Expr} {t:TT} (h:PW X e t):PT X e t:=h _
noncomputable def PA (X:Cx) (es:List Expr) (t:TA):Prop:=
  ∀(pos:Pos) (pins:List (Addr×Obj)) (s:Shared) (σ:St) (H:Hp) (Q:List V→Hp→Prop),Inv X pins σ H s→t σ H Q→wpAny (model X.prog X.w) X.A (spliced (backTo pos (starEach es X.env))) (AP X pins σ Q) X.xe s
noncomputable def PS (X:Cx) (st:Stmt) (t:TS):Prop:=
  ∀(pins:List (Addr×Obj)) (s:Shared) (σ:St) (H:Hp) (D:Ends),Inv X pins σ H s→t D σ H→wpAny (model X.prog X.w) X.A (exec st X.env) (SP X pins D) X.xe s
noncomputable def PSs (X:Cx) (st:List Stmt) (t:TS):Prop:=
  ∀(pins:List (Addr×Obj)) (s:Shared) (σ:St) (H:Hp) (D:Ends),Inv X pins σ H s→t D σ H→wpAny (model X.prog X.w) X.A (execs st X.env) (SP X pins D) X.xe s
theorem thn {α:Type} {t:Sem α} {Q Q':α→Shared→Prop} {M:Model} {A:Around} {E:Value→Shared→Prop} {s:Shared} (h:wpAny M A t Q E s) (hQ:∀a s,Q a s→Q' a s):wpAny M A t Q' E s:=wpAny_mono h hQ fun _ _ x=>x
end L2

namespace L2
open PySem PySem.Spec PyProof.Rows
section
variable {X:Cx}

noncomputable def tVar (i:Nat):TE:=fun σ H Q=>∃v,σ[i]?=some (some v)∧Q v H
noncomputable def tC (v:V):TE:=fun _ H Q=>Q v H
theorem pe_var {i:Nat} {x:Str} {pos:Pos} (hN:X.N[i]?=some x) (hv:Vis X.env.scope x) (hd:autoParam ((x==("__debug__":Str))=false) au1_._auto_1) (hcd:autoParam ((x==("__classdict__":Str))=false) au1_._auto_1):PE X (.Name x pos) (tVar i):=by
  intro pins s σ H Q I h
  obtain ⟨v,e,h⟩:=h
  obtain ⟨m,hn,hl⟩:=I.loc
  obtain ⟨u,r,l⟩:=hl i x v hN e hv
  have fin:EP X pins σ Q u s:=⟨v,H,I,r,h⟩
  rcases l with ⟨hk,hm⟩ | ⟨hk,c,hc,hcell⟩
  · exact wpAny_Name (wpAny_loadName_local I.ok.kind hk hn hm fin) hd
  · rcases hk with hk | hk
    · exact wpAny_Name (wpAny_loadName_cell I.ok.kind hk hc hcell fin) hd
    · exact wpAny_Name (wpAny_loadName_free I.ok.kind hk hc hcell fin hcd) hd
theorem pe_int {i j pos}:PE X (.Constant (.int i) j pos) (tC (.int i)):=fun _ _ _ H _ I h=>wpAny_Constant_int ⟨.int i,H,I.tok _,⟨_,rfl⟩,h⟩
theorem pe_bl {b j pos}:PE X (.Constant (.bool b) j pos) (tC (.bl b)):=fun _ _ _ H _ I h=>Constant_bool ⟨.bl b,H,I,rfl,h⟩
theorem pe_non {j pos}:PE X (.Constant .none j pos) (tC .non):=fun _ _ _ H _ I h=>Constant_none ⟨.non,H,I,rfl,h⟩
noncomputable def Gl (X:Cx) (x:Str):Prop:=X.env.kindOf x=some .globalImplicit
theorem ld_glob {E:Value→Shared→Prop} {pins:List (Addr×Obj)} {s:Shared} {σ:St} {H:Hp} {x:Str} {u:Value} {pos:Pos} {Q:Value→Shared→Prop} (I:Inv X pins σ H s) (hg:Gl X x) (hm:X.mg x=some u) (h:Q u s)
    (hd:autoParam ((x==("__debug__":Str))=false) au1_._auto_1):wpAny (model X.prog X.w) X.A (eval (.Name x pos) X.env) Q E s:=
  Calls.Name_function_global I.ok.kind hg (Calls.loadGlobal_global (by rw [I.ok.glob];exact I.mod.glob.keeps I.bk) hm h) hd
theorem ld_blt {E:Value→Shared→Prop} {pins:List (Addr×Obj)} {s:Shared} {σ:St} {H:Hp} {x:Str} {u:Value} {pos:Pos} {Q:Value→Shared→Prop} (I:Inv X pins σ H s) (hg:Gl X x) (hm:X.mg x=none) (hv:bootBuiltins x=some u) (h:Q u s)
    (hn:autoParam (x ≠ "__name__") au1_._auto_1) (hd:autoParam ((x==("__debug__":Str))=false) au1_._auto_1):wpAny (model X.prog X.w) X.A (eval (.Name x pos) X.env) Q E s:=by
  obtain ⟨mb,h1,h2⟩:=I.mod.blt
  exact Calls.Name_function_global I.ok.kind hg (Calls.loadGlobal_builtin (by rw [I.ok.glob];exact I.mod.glob.keeps I.bk) hm (by rw [I.ok.blt];exact h1.keeps I.bk) ((h2 x hn).trans hv) h) hd
theorem pe_glob {x:Str} {v:V} {u:Value} {pos:Pos} (hg:Gl X x) (hm:X.mg x=some u) (r:RelV v u) (hd:autoParam ((x==("__debug__":Str))=false) au1_._auto_1):PE X (.Name x pos) (tC v):=
  fun _ _ _ H _ I h=>ld_glob I hg hm ⟨v,H,I,r,h⟩ hd
variable {a b:Expr} {ta tb:TE} {pos:Pos}
noncomputable def tB (t:TE):TT:=fun σ H Q=>t σ H fun x H1=>∃c,x=.bl c∧Q c H1
theorem pt_val {e:Expr} {t:TE} (h:PE X e t) (he:autoParam (∀whole,isTrue e X.env whole=(do let v ← whole;standAt e.pos;holding [v] (truthy v))) au2_._auto_1):PT X e (tB t):=by
  intro pins s σ H Q I hw
  refine isTrue_plain (thn (h pins s σ H _ I hw) fun v s1 ⟨x,H1,I1,r1,q1⟩=>?_) (he _)
  obtain ⟨d,rfl,q⟩:=q1
  cases r1
  exact wpAny_truthy_bool ⟨H1,I1,q⟩

variable {tA tB':TT} {rest:List Expr}
noncomputable def tAnd (t u:TT):TT:=fun σ H Q=>t σ H fun c H1=>if c=true then u σ H1 Q else Q false H1
noncomputable def tNot (t:TT):TT:=fun σ H Q=>t σ H fun c H1=>Q (!c) H1
theorem pw_and1 (ha:PT X a tA):PW X (.BoolOp .And [a] pos) tA:=by
  intro wh pins s σ H Q I h
  refine isTrue_and (thn (ha pins s σ H Q I h) fun c s1 e=>?_)
  cases c with
  | true=>exact isTrue_and_nil e
  | false=>exact e
theorem pw_and (ha:PT X a tA) (hb:PW X (.BoolOp .And (b::rest) pos) tB'):PW X (.BoolOp .And (a::b::rest) pos) (tAnd tA tB'):=by
  intro wh pins s σ H Q I h
  refine isTrue_and (thn (ha pins s σ H _ I h) fun c s1 ⟨H1,I1,q1⟩=>?_)
  cases c with
  | true=>exact hb wh pins s1 σ H1 Q I1 q1
  | false=>exact ⟨H1,I1,q1⟩
theorem pt_not (ha:PT X a tA):PT X (.UnaryOp .Not a pos) (tNot tA):=by
  intro pins s σ H Q I h
  exact isTrue_not (ha pins s σ H (fun c H1=>Q (!c) H1) I h)
noncomputable def tAndV (ta tb:TE):TE:=fun σ H Q=>ta σ H fun x H1=>∃c,x=.bl c∧if c=true then tb σ H1 Q else Q (.bl false) H1
theorem pe_one {op} {t:TE} (h:PE X a t):PE X (.BoolOp op [a] pos) t:=fun pins s σ H Q I hw=>BoolOp_one (h pins s σ H Q I hw)
theorem pe_and (ha:PE X a ta) (hb:PE X (.BoolOp .And (b::rest) pos) tb):PE X (.BoolOp .And (a::b::rest) pos) (tAndV ta tb):=by
  intro pins s σ H Q I h
  refine BoolOp_and (thn (ha pins s σ H _ I h) fun v s1 ⟨x,H1,I1,r1,q1⟩=>?_)
  obtain ⟨c,rfl,q1⟩:=q1
  cases r1
  refine wpAny_truthy_bool ?_
  cases c with
  | true=>exact hb pins s1 σ H1 Q I1 q1
  | false=>exact ⟨.bl false,H1,I1,rfl,q1⟩
noncomputable def tIf (t:TT) (ta tb:TE):TE:=fun σ H Q=>t σ H fun c H1=>if c=true then ta σ H1 Q else tb σ H1 Q
theorem pe_ifExp {c:Expr} (hc:PT X c tA) (ha:PE X a ta) (hb:PE X b tb):PE X (.IfExp c a b pos) (tIf tA ta tb):=by
  intro pins s σ H Q I h
  refine wpAny_IfExp (thn (hc pins s σ H _ I h) fun d s1 ⟨H1,I1,q1⟩=>?_)
  cases d with
  | true=>exact ha pins s1 σ H1 Q I1 q1
  | false=>exact hb pins s1 σ H1 Q I1 q1
end
end L2

namespace L2
open PySem PySem.Spec PyProof.Rows

noncomputable def SqL (K:PySem.W.Frag) (H:Hp) (a:Addr) (xs:List V):Prop:=
  Rd H a (.lst xs) ∨
    ∃(o:Obj) (its:Array Value) (n:Nat),K.lookup a=some o∧o.cls=.type "list"∧o.dict=none∧o.data=.seq its n∧its.size≤sizeLine∧Vals xs its.toList
noncomputable def SqT (K:PySem.W.Frag) (H:Hp) (a:Addr) (xs:List V):Prop:=
  Rd H a (.tup xs) ∨
    ∃(o:Obj) (its:Array Value) (n:Nat),K.lookup a=some o∧o.cls=.type "tuple"∧o.data=.seq its n∧its.size≤sizeLine∧Vals xs its.toList
noncomputable def absV:Value→Option V
  | .none=>some .non
  | .bool b=>some (.bl b)
  | .int i _=>some (.int i)
  | .str x _=>some (.str x)
  | .bytes b _=>some (.byt b)
  | .float b _=>some (.flt b)
  | .ref a=>some (.ref a)
  | .type n=>some (.ty n)
  | _=>none
theorem RelV.abs {x:V} {u:Value} (r:RelV x u):absV u=some x:=by
  cases x with
  | non=>cases r;rfl
  | bl _=>cases r;rfl
  | int _=>obtain ⟨t,rfl⟩:=r;rfl
  | str _=>obtain ⟨t,rfl⟩:=r;rfl
  | byt _=>obtain ⟨t,rfl⟩:=r;rfl
  | flt _=>obtain ⟨t,rfl⟩:=r;rfl
  | ref _=>cases r;rfl
  | ty _=>cases r;rfl
theorem RelV.inj {x y:V} {u:Value} (r:RelV x u) (q:RelV y u):x=y:=Option.some.inj (r.abs.symm.trans q.abs)
theorem Vals.inj:∀{xs ys:List V} {us:List Value},Vals xs us→Vals ys us→xs=ys
  | _,_,_,.nil,.nil=>rfl
  | _,_,_,.cons r t,.cons r' t'=>by rw [r.inj r',Vals.inj t t']
section
variable {X:Cx} {pins:List (Addr×Obj)} {σ:St} {H:Hp} {s:Shared} {a:Addr} {xs ys:List V}
theorem SqL.of {K:PySem.W.Frag} (h:H a=some (.lst xs)):SqL K H a xs:=.inl (.inl h)
theorem SqT.of {K:PySem.W.Frag} (h:H a=some (.tup xs)):SqT K H a xs:=.inl (.inl h)
theorem Inv.list (I:Inv X pins σ H s) (h:SqL X.K H a xs):∃its:List Value,Vals xs its∧PlainL s.heap a its.toArray∧xs.length≤sizeLine:=by
  rcases h with h | ⟨o,its,n,hk,hc,hd,hs,hz,r⟩
  · obtain ⟨z,its,n,r,e⟩:=h.ok I.hok
    exact ⟨its,r,⟨_,n,e,rfl,rfl,rfl⟩,z⟩
  · refine ⟨its.toList,r,⟨o,n,I.kIn a o hk,hc,hd,by simpa using hs⟩,?_⟩
    have e:=r.length
    simp only [Array.length_toList] at e
    omega
theorem Inv.tuple (I:Inv X pins σ H s) (h:SqT X.K H a xs):∃its:List Value,Vals xs its∧IsTup s.heap a its.toArray∧xs.length≤sizeLine:=by
  rcases h with h | ⟨o,its,n,hk,hc,hs,hz,r⟩
  · obtain ⟨z,its,r,p⟩:=h.ok I.hok
    exact ⟨its,r,p,z⟩
  · refine ⟨its.toList,r,⟨o,I.kIn a o hk,hc,n,by simpa using hs⟩,?_⟩
    have e:=r.length
    simp only [Array.length_toList] at e
    omega
theorem Inv.list_inj (I:Inv X pins σ H s) (h:SqL X.K H a xs) (h':SqL X.K H a ys):xs=ys:=by
  obtain ⟨its,r,⟨o,n,e,_,_,d⟩,_⟩:=I.list h
  obtain ⟨its',r',⟨o',n',e',_,_,d'⟩,_⟩:=I.list h'
  rw [e] at e';cases e'
  rw [d] at d'
  injection d' with d1 _
  have:its=its':=by simpa using congrArg Array.toList d1
  subst this
  exact r.inj r'
theorem Inv.tuple_inj (I:Inv X pins σ H s) (h:SqT X.K H a xs) (h':SqT X.K H a ys):xs=ys:=by
  obtain ⟨its,r,⟨o,e,_,n,d⟩,_⟩:=I.tuple h
  obtain ⟨its',r',⟨o',e',_,n',d'⟩,_⟩:=I.tuple h'
  rw [e] at e';cases e'
  rw [d] at d'
  injection d' with d1 _
  have:its=its':=by simpa using congrArg Array.toList d1
  subst this
  exact r.inj r'
end

noncomputable abbrev Cx.wish (X:Cx) (E:Value→Shared→Prop):Cx:={ X with xe:=E }
noncomputable abbrev Cx.nox (X:Cx):Cx:=X.wish fun _ _=>False
theorem Cx.Ok.wish {X:Cx} (ok:X.Ok) (E:Value→Shared→Prop):(X.wish E).Ok:=
  ⟨ok.mod,ok.kind,ok.glob,ok.blt,ok.above,ok.inj,ok.has,ok.cab,ok.hd,ok.frames,ok.stk,ok.exf,ok.bs,ok.bsz,ok.noex,ok.exfs,ok.funs,ok.frf⟩
theorem Cx.Ok.unwish {X:Cx} {E:Value→Shared→Prop} (ok:(X.wish E).Ok):X.Ok:=
  ⟨ok.mod,ok.kind,ok.glob,ok.blt,ok.above,ok.inj,ok.has,ok.cab,ok.hd,ok.frames,ok.stk,ok.exf,ok.bs,ok.bsz,ok.noex,ok.exfs,ok.funs,ok.frf⟩
section
variable {X:Cx} {pins:List (Addr×Obj)} {σ:St} {H:Hp} {s:Shared} {E:Value→Shared→Prop}
theorem Inv.wish (I:Inv X pins σ H s) (E:Value→Shared→Prop):Inv (X.wish E) pins σ H s:=⟨I.ok.wish E,I.os,I.bare,I.base,I.loc,I.cell,I.free,I.freeC,I.pin,I.hok,I.len⟩
theorem Inv.unwish (I:Inv (X.wish E) pins σ H s):Inv X pins σ H s:=⟨I.ok.unwish,I.os,I.bare,I.base,I.loc,I.cell,I.free,I.freeC,I.pin,I.hok,I.len⟩
theorem SP.unwish {D:Ends} {f:Flow} {s':Shared} (h:SP (X.wish E) pins D f s'):SP X pins D f s':=by
  cases f with
  | next=>obtain ⟨σ',H',I,q⟩:=h;exact ⟨σ',H',I.unwish,q⟩
  | brk=>obtain ⟨σ',H',I,q⟩:=h;exact ⟨σ',H',I.unwish,q⟩
  | cont=>obtain ⟨σ',H',I,q⟩:=h;exact ⟨σ',H',I.unwish,q⟩
  | ret u=>obtain ⟨v,σ',H',I,r,q⟩:=h;exact ⟨v,σ',H',I.unwish,r,q⟩
theorem PSs.nox {st:List Stmt} {t:TS} (h:PSs X.nox st t):PSs X st t:=fun pins s σ H D I hw=>
  wpAny_mono (h pins s σ H D (I.wish _) hw) (fun _ _ q=>q.unwish) fun _ _ z=>False.elim z
end

section
variable {X:Cx} {st:Stmt} {rest:List Stmt} {t u:TS} {e:Expr} {te:TE} {pos:Pos}
noncomputable def tNext:TS:=fun D σ H=>D.nx σ H
noncomputable def tSeq (t u:TS):TS:=fun D σ H=>t { D with nx:=u D } σ H
theorem pss_nil:PSs X [] tNext:=fun _ _ σ H _ I h=>wpAny_execs_nil ⟨σ,H,I,h⟩
theorem pss_cons (h1:PS X st t) (h2:PSs X rest u):PSs X (st::rest) (tSeq t u):=by
  intro pins s σ H D I h
  refine wpAny_execs_cons (thn (h1 pins s σ H { D with nx:=u D } I h) fun f s1 q=>?_)
  cases f with
  | next=>
    obtain ⟨σ',H',I',q⟩:=q
    exact h2 pins s1 σ' H' D I' q
  | ret v=>exact q
  | brk=>exact q
  | cont=>exact q
theorem pss_one (h1:PS X st t):PSs X [st] t:=by
  intro pins s σ H D I h
  refine wpAny_execs_cons (thn (h1 pins s σ H D I h) fun f s1 q=>?_)
  cases f with
  | next=>exact wpAny_execs_nil q
  | ret v=>exact q
  | brk=>exact q
  | cont=>exact q
theorem Inv.quiet {pins:List (Addr×Obj)} {σ:St} {H:Hp} {s:Shared} (I:Inv X pins σ H s):interactive X.env=false:=by simp [interactive,I.ok.kind]
noncomputable def tDrop (te:TE):TS:=fun D σ H=>te σ H fun _ H1=>D.nx σ H1
theorem ps_expr (he:PE X e te) (hs:autoParam (swapsWith e none pos.line X.env=pure false) au0_._auto_1):PS X (.Expr e pos) (tDrop te):=by
  intro pins s σ H D I h
  exact wpAny_Expr_any (thn (he pins s σ H _ I h) fun v s1 ⟨x,H1,I1,r1,q1⟩=>⟨σ,H1,I1,q1⟩) I.quiet hs
noncomputable def tRet (te:TE):TS:=fun D σ H=>te σ H D.rt
theorem ps_ret (he:PE X e te):PS X (.Return (some e) pos) (tRet te):=by
  intro pins s σ H D I h
  exact wpAny_Return_some (thn (he pins s σ H _ I h) fun v s1 ⟨x,H1,I1,r1,q1⟩=>⟨x,σ,H1,I1,r1,q1⟩)
noncomputable def tIfS (c:TT) (t u:TS):TS:=fun D σ H=>c σ H fun b H1=>if b=true then t D σ H1 else u D σ H1
theorem ps_if {c:Expr} {a b:List Stmt} {tc:TT} (hc:PT X c tc) (ha:PSs X a t) (hb:PSs X b u):PS X (.If c a b pos) (tIfS tc t u):=by
  intro pins s σ H D I h
  refine wpAny_If (thn (hc pins s σ H _ I h) fun d s1 ⟨H1,I1,q1⟩=>?_)
  cases d with
  | true=>exact ha pins s1 σ H1 D I1 q1
  | false=>exact hb pins s1 σ H1 D I1 q1
noncomputable def tNever:TS:=fun _ _ _=>False
theorem ps_never:PS X st tNever:=fun _ _ _ _ _ _ h=>h.elim
end

noncomputable abbrev TG:=V→St→Hp→(St→Hp→Prop)→Prop
noncomputable abbrev TGs:=List V→St→Hp→(St→Hp→Prop)→Prop
noncomputable def PG (X:Cx) (target:Expr) (t:TG):Prop:=
  ∀(pins:List (Addr×Obj)) (s:Shared) (σ:St) (H:Hp) (v:V) (u:Value) (Q:St→Hp→Prop),Inv X pins σ H s→RelV v u→t v σ H Q →
    wpAny (model X.prog X.w) X.A (assign target X.env u) (fun _ s'=>∃σ' H',Inv X pins σ' H' s'∧Q σ' H') X.xe s
noncomputable def PGs (X:Cx) (ts:List Expr) (t:TGs):Prop:=
  ∀(pins:List (Addr×Obj)) (s:Shared) (σ:St) (H:Hp) (vs:List V) (us:List Value) (Q:St→Hp→Prop),Inv X pins σ H s→Vals vs us→t vs σ H Q →
    wpAny (model X.prog X.w) X.A (assignInOrder ((assignEach ts X.env).map (·.2)) us) (fun _ s'=>∃σ' H',Inv X pins σ' H' s'∧Q σ' H') X.xe s
section
variable {X:Cx} {pos:Pos}
noncomputable def gName (i:Nat):TG:=fun v σ H Q=>Q (σ.set i (some v)) H
theorem pg_name {i:Nat} {x:Str} (hN:X.N.Nodup) (hi:X.N[i]?=some x) (hx:Loc X.env.scope x) (hf:X.fn x=true∨X.env.scope.names.lookup x=some .local:=by first | exact .inl rfl | exact .inr rfl | assumption):PG X (.Name x pos) (gName i):=by
  intro pins s σ H v u Q I r h
  exact wpAny_assign_Name (store_ok I hN hi hx r (fun s' I'=>⟨_,H,I',h⟩) hf)
noncomputable def gNil:TGs:=fun vs σ H Q=>vs=[]∧Q σ H
noncomputable def gCons (t:TG) (u:TGs):TGs:=fun vs σ H Q=>∃v r,vs=v::r∧t v σ H fun σ' H'=>u r σ' H' Q
theorem pgs_nil:PGs X [] gNil:=by
  intro pins s σ H vs us Q I r h
  obtain ⟨e,h⟩:=h
  subst e
  cases r
  exact assignInOrder_nil ⟨σ,H,I,h⟩
theorem pgs_cons {e:Expr} {es:List Expr} {t:TG} {u:TGs} (h1:PG X e t) (h2:PGs X es u)
    (hs:autoParam ((assignEach (e::es) X.env).map (·.2)=assign e X.env::(assignEach es X.env).map (·.2)) au0_._auto_1):PGs X (e::es) (gCons t u):=by
  intro pins s σ H vs us Q I r h
  obtain ⟨v,vr,e1,h⟩:=h
  subst e1
  cases r with
  | cons r rr=>
    rw [hs]
    refine assignInOrder_cons (thn (h1 pins s σ H _ _ _ I r h) fun _ s1 ⟨σ1,H1,I1,q1⟩=>?_)
    exact h2 pins s1 σ1 H1 _ _ Q I1 rr q1
noncomputable def gTup (K:PySem.W.Frag) (n:Nat) (t:TGs):TG:=fun v σ H Q=>∃a xs,v=.ref a∧SqT K H a xs∧xs.length=n∧t xs σ H Q
theorem pg_tup {es:List Expr} {k:Nat} {t:TGs} {n:Nat} (hc:X.calm=true) (h:PGs X es t)
    (hn:autoParam ((assignEach es X.env).length=n) au0_._auto_1) (hst:autoParam ((assignEach es X.env).findIdx? (·.1)=none) au0_._auto_1):PG X (.Tuple es k pos) (gTup X.K n t):=by
  intro pins s σ H v u Q I r hw
  obtain ⟨a,xs,e1,hq,hl,hw⟩:=hw
  subst e1
  cases r
  obtain ⟨its,rv,ht,hz⟩:=I.tuple hq
  refine assign_Tuple_tuple (I.ok.hd hc) ht (by simp [hn,← hl,rv.length]) hst fun h' hx=>?_
  have I1:Inv X pins σ H { s with heap:=h' }:=I.kept (t':=s.toks) fun b o e=>hx b o (Nat.ne_of_lt (Heap.lt_size e)) e
  exact h pins _ σ H xs _ Q I1 (by simpa using rv) hw
noncomputable def tAsg (te:TE) (g:TG):TS:=fun D σ H=>te σ H fun x H1=>g x σ H1 D.nx
theorem ps_asg {tg e:Expr} {te:TE} {g:TG} (he:PE X e te) (hg:PG X tg g) (hs:autoParam (swapsWithSole [tg] e pos.line X.env=pure false) au0_._auto_1) (hw:autoParam (swappedStores [tg] e X.env=pure none) au0_._auto_1)
    (h1:autoParam ((assignEach [tg] X.env).map (·.2)=[assign tg X.env]) au0_._auto_1):PS X (.Assign [tg] e pos) (tAsg te g):=by
  intro pins s σ H D I h
  refine wpAny_Assign_stores (thn (he pins s σ H _ I h) fun v s1 ⟨x,H1,I1,r1,q1⟩=>?_) hs hw
  rw [h1]
  exact thn (hg pins s1 σ H1 x v _ I1 r1 q1) fun _ s2 q=>q
theorem ps_set {i:Nat} {x:Str} {e:Expr} {te:TE} {pos':Pos} (hN:X.N.Nodup) (hi:X.N[i]?=some x) (hx:Loc X.env.scope x) (he:PE X e te) (hs:autoParam (swapsWith e (some (.Name x pos')) pos.line X.env=pure false) au0_._auto_1) (hf:X.fn x=true∨X.env.scope.names.lookup x=some .local:=by first | exact .inl rfl | exact .inr rfl | assumption) :
    PS X (.Assign [.Name x pos'] e pos) (tAsg te (gName i)):=by
  intro pins s σ H D I h
  refine wpAny_Assign_Name (thn (he pins s σ H _ I h) fun v s1 ⟨y,H1,I1,r1,q1⟩=>?_) hs
  exact store_ok I1 hN hi hx r1 (fun s2 I2=>⟨_,H1,I2,q1⟩) hf
noncomputable def tPar (i j:Nat) (ta:TA):TS:=fun D σ H=>ta σ H fun vs H1=>∃v w,vs=[v,w]∧D.nx ((σ.set i (some v)).set j (some w)) H1
theorem ps_par {i j:Nat} {x y:Str} {a b:Expr} {ta:TA} {px py pt:Pos} {kt k2 pt2} (hc:X.calm=true) (hN:X.N.Nodup) (hi:X.N[i]?=some x) (hj:X.N[j]?=some y) (hij:i≠j)
    (hx:X.env.scope.names.lookup x=some .local) (hy:X.env.scope.names.lookup y=some .local) (ha:PA X [a,b] ta)
    (hw:swappedStores [.Tuple [.Name x px,.Name y py] kt pt] (.Tuple [a,b] k2 pt2) X.env=pure (some [x,y]))
    (hs:autoParam (swapsWithSole [.Tuple [.Name x px,.Name y py] kt pt] (.Tuple [a,b] k2 pt2) pos.line X.env=pure false) au0_._auto_1) :
    PS X (.Assign [.Tuple [.Name x px,.Name y py] kt pt] (.Tuple [a,b] k2 pt2) pos) (tPar i j ta):=by
  intro pins s σ H D I h
  rw [exec_Assign_arm]
  refine wpAny_bind (wpAny_standAt ?_)
  rw [hs]
  refine wpAny_bind (wpAny_pure ?_)
  rw [if_neg (by decide)]
  refine wpAny_bind (Tuple_ (thn (ha _ pins s σ H _ I h) fun us s1 ⟨vs,H1,I1,r1,q1⟩=>?_))
  obtain ⟨v,w,e1,q1⟩:=q1
  subst e1
  obtain ⟨u1,u2,rfl,rv,rw'⟩:∃u1 u2,us=[u1,u2]∧RelV v u1∧RelV w u2:=by
    cases r1 with
    | cons p q=>
      cases q with
      | cons p' q'=>
        cases q'
        exact ⟨_,_,rfl,p,p'⟩
  refine wpAny_newObj_type ?_ (by show 2≤sizeLine;decide)
  have I2:Inv X pins σ H1 { s1 with heap:=s1.heap.push { cls:=.type "tuple",data:=.seq [u1,u2].toArray } }:=I1.kept (t':=s1.toks) fun b o e=>Heap.get?_push_of_some _ e
  rw [hw]
  refine wpAny_bind (wpAny_pure ?_)
  show wpAny (model X.prog X.w) X.A (do rule "assign.swapped-stores";let items ← unpackItems (.ref s1.heap.objs.size) 2 none;assignInOrder [fun v=>bindName X.env y v,fun v=>bindName X.env x v] items.reverse;pure Flow.next) _ _ _
  refine wpAny_bind (wpAny_rule (wpAny_bind (unpackItems_tuple (items:=#[u1,u2]) (I.ok.hd hc) (IsTup.new s1.heap _) fun h' hx'=>?_)))
  have I3:=I2.kept (h':=h') (t':=s1.toks) fun b o e=>hx' b o (Nat.ne_of_lt (Heap.lt_size e)) e
  show wpAny _ _ (assignInOrder [fun v=>bindName X.env y v,fun v=>bindName X.env x v] [u2,u1] >>= fun _=>pure Flow.next) _ _ _
  refine wpAny_bind (assignInOrder_cons (wpAny_bindName (store_ok I3 hN hj (.inl hy) rw' (fun s2 I4=>?_) (.inr hy))))
  refine assignInOrder_cons (wpAny_bindName (store_ok I4 hN hi (.inl hx) rv (fun s3 I5=>assignInOrder_nil (wpAny_pure ?_)) (.inr hx)))
  rw [List.set_comm _ _ (Ne.symm hij)] at I5
  exact ⟨_,H1,I5,q1⟩
end

section
variable {X:Cx} {pos:Pos}
noncomputable def tWhile (c:TT) (tb:TS):TS:=fun D σ H=>∃W:Nat→St→Hp→Prop,(∃m,W m σ H)∧∀m σ H,W m σ H →
  c σ H fun b H1=>if b=true then ∃N:St→Hp→Prop,(∀σ' H',N σ' H'→∃m',m'<m∧W m' σ' H')∧tb { D with nx:=N,ct:=N,bk:=D.nx } σ H1 else D.nx σ H1
theorem ps_while {c:Expr} {body:List Stmt} {tc:TT} {tb:TS} (hp:PassesOwn (model X.prog X.w) X.A X.env X.xe) (hc:PT X c tc) (hb:PSs X body tb):PS X (.While c body [] pos) (tWhile tc tb):=by
  intro pins s σ H D I h
  obtain ⟨W,⟨m0,w0⟩,turn⟩:=h
  refine wpAny_While (codeAny_whileLoop (fun n s'=>∃σ' H',Inv X pins σ' H' s'∧W n σ' H') ?_ m0 ⟨σ,H,I,w0⟩)
  rintro n s1 ⟨σ1,H1,I1,w1⟩
  refine wpAny_passesOwn hp (thn (hc pins s1 σ1 H1 _ I1 (turn n σ1 H1 w1)) fun b s2 ⟨H2,I2,q2⟩=>?_)
  cases b with
  | true=>
    obtain ⟨N,hN,q2⟩:=q2
    rw [if_pos rfl]
    refine wpAny_passesOwn hp (thn (hb pins s2 σ1 H2 _ I2 q2) fun f s3 q3=>?_)
    cases f with
    | next=>
      obtain ⟨σ3,H3,I3,n3⟩:=q3
      obtain ⟨m',hm,w3⟩:=hN σ3 H3 n3
      exact ⟨m',hm,σ3,H3,I3,w3⟩
    | cont=>
      obtain ⟨σ3,H3,I3,n3⟩:=q3
      obtain ⟨m',hm,w3⟩:=hN σ3 H3 n3
      exact ⟨m',hm,σ3,H3,I3,w3⟩
    | brk=>exact q3
    | ret v=>exact q3
  | false=>
    rw [if_neg Bool.false_ne_true]
    exact wpAny_execs_nil ⟨σ1,H2,I2,q2⟩
end

structure It where
  go:Nat→Hp→Prop
  yld:Nat→Hp→V→Hp→Prop
  stop:Nat→Hp→Prop
noncomputable def FpOk (X:Cx) (pins:List (Addr×Obj)) (H:Hp) (b:Addr):Prop:=
  H b=none∧b≠X.env.locals∧b∉X.fs∧(b∈X.ex∨X.s₀.heap.objs.size≤b)∧(∀x c,X.env.cells.lookup x=some c→c≠b)∧∀p∈X.pn++pins,p.1≠b
theorem Inv.fpOk {X:Cx} {pins:List (Addr×Obj)} {σ:St} {H H':Hp} {s:Shared} {b:Addr} (I:Inv X pins σ H s) (hb:s.heap.objs.size≤b) (hn:H' b=none):FpOk X pins H' b:=by
  refine ⟨hn,Nat.ne_of_gt (Nat.lt_of_lt_of_le I.lt hb),I.nofs hb,.inr (Nat.le_trans I.sz hb),fun x c e z=>?_,fun p hp z=>?_⟩
  · obtain ⟨v,q⟩:=I.cell x c e
    exact absurd (Nat.lt_of_lt_of_le q.lt (by rw [z];exact hb)) (Nat.lt_irrefl _)
  · exact absurd (Nat.lt_of_lt_of_le (Heap.lt_size (I.pin p hp).1) (by rw [z];exact hb)) (Nat.lt_irrefl _)
structure Turn (P:Program) (w:World) (K:PySem.W.Frag) (tg:Expr) (J:It) (fp:List Addr) (it:Addr) (tn:Nat→Heap→Prop):Prop where
  mem:it∈fp
  obj:∀i h,tn i h→∀b∈fp,∃o,h.get? b=some o∧∀v,o.data≠.cell v
  keep:∀i h h',tn i h→(∀b∈fp,∀o,h.get? b=some o→h'.get? b=some o)→tn i h'
  item:∀(X:Cx),X.prog=P→X.w=w→X.K=K→X.calm=true→∀(i:Nat) (pins:List (Addr×Obj)) (s:Shared) (σ:St) (H:Hp) (E:Value→Shared→Prop),Inv X pins σ H s→(∀b∈fp,FpOk X pins H b)→tn i s.heap→J.go i H →
    wpAny (model P w) X.A (pyNext (.ref it)) (fun r s1=>∃u,r=some u ∧
      wpAny (model P w) X.A (letOwnedTupleGo tg (.ref it) u) (fun _ s2=>∃x H',Inv X pins σ H' s2∧RelV x u∧J.yld i H x H'∧tn (i+1) s2.heap∧∀b∈fp,H' b=none) E s1) E s
  done:∀(X:Cx),X.prog=P→X.w=w→X.K=K→X.calm=true→∀(i:Nat) (pins:List (Addr×Obj)) (s:Shared) (σ:St) (H:Hp) (E:Value→Shared→Prop),Inv X pins σ H s→(∀b∈fp,FpOk X pins H b)→tn i s.heap→J.stop i H →
    wpAny (model P w) X.A (pyNext (.ref it)) (fun r s1=>r=none∧Inv X pins σ H s1) E s
  self:∀(A:Around) (i:Nat) (s:Shared) (Q:Value→Shared→Prop) (E:Value→Shared→Prop),tn i s.heap→Q (.ref it) s→wpAny (model P w) A (pyIter (.ref it)) Q E s
noncomputable abbrev TI:=St→Hp→(It→Hp→Prop)→Prop
noncomputable def PIE (X:Cx) (pins:List (Addr×Obj)) (σ:St) (tg:Expr) (R:It→Hp→Prop) (itv:Value) (s2:Shared):Prop:=
  ∃(it:Addr) (fp:List Addr) (tn:Nat→Heap→Prop) (J:It) (H':Hp),itv=.ref it∧Inv X pins σ H' s2∧Turn X.prog X.w X.K tg J fp it tn∧tn 0 s2.heap∧(∀b∈fp,FpOk X pins H' b)∧R J H'
noncomputable def PI (X:Cx) (tg iter:Expr) (wi:TI):Prop:=
  ∀(pins:List (Addr×Obj)) (s:Shared) (σ:St) (H:Hp) (R:It→Hp→Prop),Inv X pins σ H s→wi σ H R →
    wpAny (model X.prog X.w) X.A (eval iter X.env) (fun v s1=>wpAny (model X.prog X.w) X.A (pyIter v) (PIE X pins σ tg R) X.xe s1) X.xe s

theorem go_of {M:Model} {A:Around} {E:Value→Shared→Prop} {s:Shared} {tg:Expr} {it:Addr} {u:Value} {o:Obj} {n:String} {vs:Array Value} {Q:Unit→Shared→Prop} (ho:s.heap.get? it=some o) (hc:o.cls=.type n) (hd:o.data=.fields vs)
    (hn:["enumerate","zip","dict_itemiterator","dict_reverseitemiterator","odict_iterator","itertools.zip_longest","itertools.pairwise"].contains n=false) (hQ:Q () s):wpAny M A (letOwnedTupleGo tg (.ref it) u) Q E s:=by
  unfold letOwnedTupleGo
  cases tg <;> first
    | exact wpAny_pure hQ
    | (cases u <;> first
        | exact wpAny_pure hQ
        | (refine wpAny_bind (wpAny_load ho ?_)
           rw [hc,hd]
           show wpAny M A (if (["enumerate","zip","dict_itemiterator","dict_reverseitemiterator","odict_iterator","itertools.zip_longest","itertools.pairwise"].contains n&&vs[0]?==some (rawInt _))=true then _ else _) Q E s
           rw [if_neg (by intro h;rw [hn,Bool.false_and] at h;cases h)]
           exact wpAny_pure hQ))

noncomputable def Itl (K:PySem.W.Frag) (a:Addr):It:=
  ⟨fun i H=>∃xs x,SqL K H a xs∧xs[i]?=some x,fun i H x H'=>H'=H∧∀xs,SqL K H a xs→xs[i]?=some x,fun i H=>∃xs,SqL K H a xs∧xs.length≤i⟩
noncomputable def Itt (K:PySem.W.Frag) (a:Addr):It:=
  ⟨fun i H=>∃xs x,SqT K H a xs∧xs[i]?=some x,fun i H x H'=>H'=H∧∀xs,SqT K H a xs→xs[i]?=some x,fun i H=>∃xs,SqT K H a xs∧xs.length≤i⟩
noncomputable def Itr (lo:Int) (n:Nat):It:=⟨fun i _=>i<n,fun i H x H'=>H'=H∧x=.int (lo+i),fun i _=>n≤i⟩
theorem turn_list {P:Program} {w:World} {K:PySem.W.Frag} {tg:Expr} (a it:Addr):Turn P w K tg (Itl K a) [it] it (fun i h=>h.IsListIter it a i) where
  mem:=by simp
  obj:=fun i h st b hb=>by
    have e:b=it:=by simpa using hb
    subst e
    obtain ⟨o,e,c,d⟩:=st
    exact ⟨o,e,fun v z=>by rw [d] at z;cases z⟩
  keep:=fun i h h' st k=>st.at fun o e=>k it (by simp) o e
  item:=by
    intro X hP hw hK hc i pins s σ H E I hf st hg
    subst hP hw hK
    obtain ⟨xs,x,hq,hx⟩:=hg
    obtain ⟨its,rv,p,hz⟩:=I.list hq
    obtain ⟨u,hu,ru⟩:=rv.get hx
    obtain ⟨f0,f1,f2,f3,f4,f5⟩:=hf it (by simp)
    refine wpAny_pyNext_list_item st p.isList (x:=u) (by simpa using hu) fun h' st' sb=>?_
    have I1:Inv X pins σ H { s with heap:=h' }:=I.turned (t':=s.toks) (fun b o hb e=>(sb.2 b hb).trans e) f0 f1 f3 f4 f5
    obtain ⟨o,e,c,d⟩:=id st'
    exact ⟨u,rfl,go_of (s:={ s with heap:=h' }) e c d (by decide) ⟨x,H,I1,ru,⟨rfl,fun ys hy=>by rw [I.list_inj hy hq];exact hx⟩,st',fun b hb=>(hf b hb).1⟩⟩
  done:=by
    intro X hP hw hK hc i pins s σ H E I hf st hg
    subst hP hw hK
    obtain ⟨xs,hq,hx⟩:=hg
    obtain ⟨its,rv,p,hz⟩:=I.list hq
    obtain ⟨f0,f1,f2,f3,f4,f5⟩:=hf it (by simp)
    have hl:=rv.length
    exact wpAny_pyNext_list_end (I.ok.hd hc) st p.isList (by simp;omega) fun h' eb=>⟨rfl,I.turned (t':=s.toks) (fun b o hb e=>eb b o hb e) f0 f1 f3 f4 f5⟩
  self:=fun _ _ _ _ _ st h=>wpAny_pyIter_listiter st h
theorem turn_tuple {P:Program} {w:World} {K:PySem.W.Frag} {tg:Expr} (a it:Addr):Turn P w K tg (Itt K a) [it] it (fun i h=>h.IsTupleIter it a i) where
  mem:=by simp
  obj:=fun i h st b hb=>by
    have e:b=it:=by simpa using hb
    subst e
    obtain ⟨o,e,c,d⟩:=st
    exact ⟨o,e,fun v z=>by rw [d] at z;cases z⟩
  keep:=fun i h h' st k=>st.at fun o e=>k it (by simp) o e
  item:=by
    intro X hP hw hK hc i pins s σ H E I hf st hg
    subst hP hw hK
    obtain ⟨xs,x,hq,hx⟩:=hg
    obtain ⟨its,rv,p,hz⟩:=I.tuple hq
    obtain ⟨u,hu,ru⟩:=rv.get hx
    obtain ⟨f0,f1,f2,f3,f4,f5⟩:=hf it (by simp)
    refine wpAny_pyNext_tuple_item st (show s.heap.IsTuple a its.toArray from p) (x:=u) (by simpa using hu) fun h' st' sb=>?_
    have I1:Inv X pins σ H { s with heap:=h' }:=I.turned (t':=s.toks) (fun b o hb e=>(sb.2 b hb).trans e) f0 f1 f3 f4 f5
    obtain ⟨o,e,c,d⟩:=id st'
    exact ⟨u,rfl,go_of (s:={ s with heap:=h' }) e c d (by decide) ⟨x,H,I1,ru,⟨rfl,fun ys hy=>by rw [I.tuple_inj hy hq];exact hx⟩,st',fun b hb=>(hf b hb).1⟩⟩
  done:=by
    intro X hP hw hK hc i pins s σ H E I hf st hg
    subst hP hw hK
    obtain ⟨xs,hq,hx⟩:=hg
    obtain ⟨its,rv,p,hz⟩:=I.tuple hq
    obtain ⟨f0,f1,f2,f3,f4,f5⟩:=hf it (by simp)
    have hl:=rv.length
    exact wpAny_pyNext_tuple_end (I.ok.hd hc) st (show s.heap.IsTuple a its.toArray from p) (by simp;omega) fun h' eb=>⟨rfl,I.turned (t':=s.toks) (fun b o hb e=>eb b o hb e) f0 f1 f3 f4 f5⟩
  self:=fun _ _ _ _ _ st h=>wpAny_pyIter_tupleiter st h
theorem turn_range {P:Program} {w:World} {K:PySem.W.Frag} {tg:Expr} (it:Addr) (lo:Int) (n:Nat):Turn P w K tg (Itr lo n) [it] it (fun i h=>IsRangeIter h it (lo+(i:Nat)*1) ((n:Int)-(i:Nat)) 1) where
  mem:=by simp
  obj:=fun i h st b hb=>by
    have e:b=it:=by simpa using hb
    subst e
    exact ⟨_,st,fun v z=>by
      have z':Data.fields _=Data.cell v:=z
      cases z'⟩
  keep:=fun i h h' st k=>k it (by simp) _ st
  item:=by
    intro X hP hw hK hc i pins s σ H E I hf st hg
    subst hP hw hK
    obtain ⟨f0,f1,f2,f3,f4,f5⟩:=hf it (by simp)
    have W:=Walks.range (prog:=X.prog) (w:=X.w) (I.ok.hd hc) it lo 1 n
    refine W.item i s _ _ hg st fun v h' tk hv st' kk=>?_
    obtain ⟨t,rfl⟩:=hv
    have I1:Inv X pins σ H { s with heap:=h',toks:=tk }:=I.turned (fun b o hb e=>kk b o (by simpa using hb) e) f0 f1 f3 f4 f5
    refine ⟨_,rfl,go_of (s:={ s with heap:=h',toks:=tk }) (n := "range_iterator") st' rfl rfl (by decide) ⟨.int (lo+i),H,I1,⟨t,?_⟩,⟨rfl,rfl⟩,st',fun b hb=>(hf b hb).1⟩⟩
    rw [Int.mul_one]
  done:=by
    intro X hP hw hK hc i pins s σ H E I hf st hg
    subst hP hw hK
    obtain ⟨f0,f1,f2,f3,f4,f5⟩:=hf it (by simp)
    exact wpAny_pyNext_range_end (I.ok.hd hc) st (by have:n≤i:=hg;omega) fun h' eb=>⟨rfl,I.turned (t':=s.toks) (fun b o hb e=>eb b o hb e) f0 f1 f3 f4 f5⟩
  self:=fun _ _ _ _ _ st h=>wpAny_pyIter_rangeiter st h
end L2

namespace L2
open PySem PySem.Spec PyProof.Rows
section
variable {X:Cx} {tg:Expr}
noncomputable def iList (K:PySem.W.Frag) (tl:TE):TI:=fun σ H R=>tl σ H fun x H1=>∃a,x=.ref a∧(∃xs,SqL K H1 a xs)∧R (Itl K a) H1
noncomputable def iTup (K:PySem.W.Frag) (tl:TE):TI:=fun σ H R=>tl σ H fun x H1=>∃a,x=.ref a∧(∃xs,SqT K H1 a xs)∧R (Itt K a) H1
theorem pi_list {l:Expr} {tl:TE} (hl:PE X l tl):PI X tg l (iList X.K tl):=by
  intro pins s σ H R I h
  refine thn (hl pins s σ H _ I h) fun v s1 ⟨x,H1,I1,r1,q1⟩=>?_
  obtain ⟨a,e,⟨xs,hq⟩,q⟩:=q1
  subst e
  cases r1
  obtain ⟨its,rv,p,hz⟩:=I1.list hq
  refine wpAny_pyIter_list p.isList ?_
  refine ⟨s1.heap.objs.size,[s1.heap.objs.size],_,_,H1,rfl,I1.kept (t':=s1.toks) fun b o e=>Heap.get?_push_of_some _ e,turn_list a _,⟨_,Heap.get?_push_size _ rfl,rfl,rfl⟩,fun b hb=>?_,q⟩
  have e:b=s1.heap.objs.size:=by simpa using hb
  subst e
  exact I1.fpOk (Nat.le_refl _) (I1.hok.fresh (Nat.le_refl _))
theorem pi_tup {l:Expr} {tl:TE} (hl:PE X l tl):PI X tg l (iTup X.K tl):=by
  intro pins s σ H R I h
  refine thn (hl pins s σ H _ I h) fun v s1 ⟨x,H1,I1,r1,q1⟩=>?_
  obtain ⟨a,e,⟨xs,hq⟩,q⟩:=q1
  subst e
  cases r1
  obtain ⟨its,rv,p,hz⟩:=I1.tuple hq
  refine wpAny_pyIter_tuple (show s1.heap.IsTuple a its.toArray from p) ?_
  refine ⟨s1.heap.objs.size,[s1.heap.objs.size],_,_,H1,rfl,I1.kept (t':=s1.toks) fun b o e=>Heap.get?_push_of_some _ e,turn_tuple a _,⟨_,Heap.get?_push_size _ rfl,rfl,rfl⟩,fun b hb=>?_,q⟩
  have e:b=s1.heap.objs.size:=by simpa using hb
  subst e
  exact I1.fpOk (Nat.le_refl _) (I1.hok.fresh (Nat.le_refl _))
theorem range_it {pins:List (Addr×Obj)} {σ:St} {H:Hp} {s:Shared} {R:It→Hp→Prop} {E:Value→Shared→Prop} {lo hi:Int} {t u v:Tok} {tk:Nat} (I:Inv X pins σ H s) (h1:-(2 ^ 62)≤lo) (h2:lo<2 ^ 62) (h3:-(2 ^ 62)≤hi) (h4:hi<2 ^ 62)
    (q:R (Itr lo (hi-lo).toNat) H):wpAny (model X.prog X.w) X.A (pyIter (.ref s.heap.objs.size)) (PIE X pins σ tg R) E { s with heap:=s.heap.push { cls:=.type "range",data:=.fields #[.int lo t,.int hi u,.int 1 v] },toks:=tk }:=by
  refine wpAny_pyIter_range (IsRange.new ..) (small_one h1 h2 h3 h4) ?_
  have I1:Inv X pins σ H { s with heap:=s.heap.push { cls:=.type "range",data:=.fields #[.int lo t,.int hi u,.int 1 v] },toks:=tk }:=I.kept fun b o e=>Heap.get?_push_of_some _ e
  refine ⟨(s.heap.push { cls:=.type "range",data:=.fields #[.int lo t,.int hi u,.int 1 v] }).objs.size,[(s.heap.push { cls:=.type "range",data:=.fields #[.int lo t,.int hi u,.int 1 v] }).objs.size],_,_,H,rfl,
    I1.kept (t':=tk) fun b o e=>Heap.get?_push_of_some _ e,turn_range _ lo (hi-lo).toNat,?_,fun b hb=>?_,q⟩
  · have e1:lo+((0:Nat):Int)*1=lo:=by simp
    have e2:(((hi-lo).toNat:Nat):Int)-((0:Nat):Int)=Builtin.Range.rangeSize lo hi 1:=by rw [rangeSize_one];split <;> omega
    show IsRangeIter _ _ (lo+((0:Nat):Int)*1) ((((hi-lo).toNat:Nat):Int)-((0:Nat):Int)) 1
    rw [e1,e2]
    exact Heap.get?_push_size _ rfl
  · have e:b=(s.heap.push { cls:=.type "range",data:=.fields #[.int lo t,.int hi u,.int 1 v] }).objs.size:=by simpa using hb
    subst e
    exact I1.fpOk (Nat.le_refl _) (I1.hok.fresh (Nat.le_refl _))
noncomputable def iRng1 (ta:TA):TI:=fun σ H R=>ta σ H fun vs H1=>∃j:Int,vs=[.int j]∧-(2 ^ 62)≤j∧j<2 ^ 62∧R (Itr 0 j.toNat) H1
noncomputable def iRng2 (ta:TA):TI:=fun σ H R=>ta σ H fun vs H1=>∃i j:Int,vs=[.int i,.int j]∧(-(2 ^ 62)≤i∧i<2 ^ 62∧-(2 ^ 62)≤j∧j<2 ^ 62)∧R (Itr i (j-i).toNat) H1
theorem pi_range1 {a:Expr} {ta:TA} {p pos:Pos} (hg:Gl X "range") (hm:X.mg "range"=none) (ha:PA X [a] ta) (hs:autoParam (starEach [a] X.env=[(false,eval a X.env)]) au0_._auto_1):PI X tg (.Call (.Name "range" p) [a] [] pos) (iRng1 ta):=by
  intro pins s σ H R I h
  refine Call_ (ld_blt I hg hm boot_range (PyProof.Rows.callWith_type1 (thn (ha pos pins s σ H _ I h) fun us s1 ⟨vs,H1,I1,r1,q1⟩=>?_) hs rfl))
  obtain ⟨j,e,q1,q2,q⟩:=q1
  subst e
  cases r1 with
  | cons r rr=>
    cases rr
    obtain ⟨t,rfl⟩:=r
    exact call_range_1 (range_it I1 (by omega) (by omega) q1 q2 (by simpa using q))
theorem pi_range2 {a b:Expr} {ta:TA} {p pos:Pos} (hg:Gl X "range") (hm:X.mg "range"=none) (ha:PA X [a,b] ta) (hs:autoParam (starEach [a,b] X.env=[(false,eval a X.env),(false,eval b X.env)]) au0_._auto_1) (hs2:autoParam (starEach [b] X.env=[(false,eval b X.env)]) au0_._auto_1) :
    PI X tg (.Call (.Name "range" p) [a,b] [] pos) (iRng2 ta):=by
  intro pins s σ H R I h
  refine Call_ (ld_blt I hg hm boot_range (PyProof.Rows.callWith_type1 (thn (ha pos pins s σ H _ I h) fun us s1 ⟨vs,H1,I1,r1,q1⟩=>?_) (by rw [hs,hs2]) (by rw [hs2];rfl)))
  obtain ⟨i,j,e,⟨q1,q2,q3,q4⟩,q⟩:=q1
  subst e
  cases r1 with
  | cons r rr=>
    cases rr with
    | cons r' rr=>
      cases rr
      obtain ⟨t,rfl⟩:=r
      obtain ⟨t',rfl⟩:=r'
      exact call_range_2 (range_it I1 q1 q2 q3 q4 q)

noncomputable def tFor (wi:TI) (g:TG) (tb:TS):TS:=fun D σ H=>wi σ H fun J H1=>∃W:Nat→Nat→St→Hp→Prop,(∃m,W 0 m σ H1)∧∀i m σ H,W i m σ H →
  (J.stop i H∧D.nx σ H)∨(J.go i H∧∃N:St→Hp→Prop,(∀σ' H',N σ' H'→∃m',m'<m∧W (i+1) m' σ' H')∧∀x H',J.yld i H x H'→g x σ H' fun σ2 H2=>tb { D with nx:=N,ct:=N,bk:=D.nx } σ2 H2)
noncomputable def pinsAt (fp:List Addr) (h:Heap):List (Addr×Obj):=fp.filterMap fun b=>(h.get? b).map fun o=>(b,o)
theorem mem_pinsAt {fp:List Addr} {h:Heap} {b:Addr} {o:Obj} (hb:b∈fp) (e:h.get? b=some o):(b,o)∈pinsAt fp h:=List.mem_filterMap.mpr ⟨b,hb,by rw [e];rfl⟩
theorem of_pinsAt {fp:List Addr} {h:Heap} {p:Addr×Obj} (hp:p∈pinsAt fp h):p.1∈fp∧h.get? p.1=some p.2:=by
  obtain ⟨b,hb,e⟩:=List.mem_filterMap.mp hp
  cases q:h.get? b with
  | none=>rw [q] at e;cases e
  | some o=>
    rw [q] at e
    have e':(b,o)=p:=Option.some.inj e
    subst e'
    exact ⟨hb,q⟩
theorem Inv.pinned {pins:List (Addr×Obj)} {σ:St} {H:Hp} {s:Shared} {fp:List Addr} (I:Inv X pins σ H s) (hf:∀b∈fp,FpOk X pins H b) (ho:∀b∈fp,∃o,s.heap.get? b=some o∧∀v,o.data≠.cell v):Inv X (pins++pinsAt fp s.heap) σ H s:=
  I.pins_of fun p hp=>(List.mem_append.mp hp).elim (fun z=>I.pin p (List.mem_append_right _ z)) fun z=>by
    obtain ⟨hb,e⟩:=of_pinsAt z
    obtain ⟨f0,f1,f2,_⟩:=hf p.1 hb
    obtain ⟨o,e',d⟩:=ho p.1 hb
    rw [e] at e';cases e'
    exact ⟨e,f0,f1,f2,d⟩
theorem Inv.unpinned {pins pl:List (Addr×Obj)} {σ:St} {H:Hp} {s:Shared} (I:Inv X (pins++pl) σ H s):Inv X pins σ H s:=I.pins_of fun p hp=>I.pin p (List.mem_append_right _ (List.mem_append_left _ hp))
theorem ps_for {iter:Expr} {body:List Stmt} {wi:TI} {g:TG} {tb:TS} {pos:Pos} (hp:PassesOwn (model X.prog X.w) X.A X.env X.xe) (hc:X.calm=true) (hi:PI X tg iter wi) (hg:PG X tg g) (hb:PSs X body tb)
    (hs:autoParam (∀x,foldedSetIterable iter X.env x=pure x) au2_._auto_1):PS X (.For tg iter body [] pos) (tFor wi g tb):=by
  intro pins s σ H D I h
  refine wpAny_For (thn (hi pins s σ H _ I h) fun v s1 h1=>thn h1 fun itv s2 h2=>?_) hs
  obtain ⟨it,fp,tn,J,H2,e,I2,T,st2,f2,W,⟨m0,w0⟩,turn⟩:=h2
  subst e
  -- what stays true of the iterator's objects through the loop
  have stat:∀{H':Hp},(∀b∈fp,H' b=none)→∀b∈fp,FpOk X pins H' b:=fun hn b hb=>⟨hn b hb,(f2 b hb).2⟩
  refine codeAny_forLoop_any (fun n s'=>∃i σ' H',Inv X pins σ' H' s'∧tn i s'.heap∧(∀b∈fp,H' b=none)∧W i n σ' H') ?_ m0 ⟨0,σ,H2,I2,st2,fun b hb=>(f2 b hb).1,w0⟩
  rintro n s3 ⟨i,σ3,H3,I3,st3,fr3,w3⟩
  rcases turn i n σ3 H3 w3 with ⟨stop,qn⟩ | ⟨go,N,hN,step⟩
  · refine wpAny_passesOwn hp (thn (T.done X rfl rfl rfl hc i pins s3 σ3 H3 X.xe I3 (stat fr3) st3 stop) fun r s4 ⟨hr,I4⟩=>?_)
    subst hr
    exact wpAny_execs_nil ⟨σ3,H3,I4,qn⟩
  · refine wpAny_passesOwn hp (thn (T.item X rfl rfl rfl hc i pins s3 σ3 H3 X.xe I3 (stat fr3) st3 go) fun r s4 ⟨u,hr,h4⟩=>?_)
    subst hr
    refine wpAny_passesOwn hp (thn h4 fun _ s5 ⟨x,H5,I5,r5,y5,st5,fr5⟩=>?_)
    have I5':=I5.pinned (stat fr5) (T.obj _ _ st5)
    refine wpAny_passesOwn hp (thn (hg _ s5 σ3 H5 x u _ I5' r5 (step x H5 y5)) fun _ s6 ⟨σ6,H6,I6,q6⟩=>?_)
    refine wpAny_passesOwn hp (thn (hb _ s6 σ6 H6 _ I6 q6) fun f s7 q7=>?_)
    have again:∀{σ7:St} {H7:Hp},Inv X (pins++pinsAt fp s5.heap) σ7 H7 s7→N σ7 H7→∃m,m<n∧∃i σ' H',Inv X pins σ' H' s7∧tn i s7.heap∧(∀b∈fp,H' b=none)∧W i m σ' H':=fun {σ7 H7} I7 n7=>by
      obtain ⟨m',hm,w7⟩:=hN σ7 H7 n7
      refine ⟨m',hm,i+1,σ7,H7,I7.unpinned,T.keep _ _ _ st5 fun b hb o e=>(I7.pin (b,o) (List.mem_append_right _ (List.mem_append_right _ (mem_pinsAt hb e)))).1,fun b hb=>?_,w7⟩
      obtain ⟨o,e,d⟩:=T.obj _ _ st5 b hb
      exact (I7.pin (b,o) (List.mem_append_right _ (List.mem_append_right _ (mem_pinsAt hb e)))).2.1
    cases f with
    | next=>obtain ⟨σ7,H7,I7,n7⟩:=q7;exact again I7 n7
    | cont=>obtain ⟨σ7,H7,I7,n7⟩:=q7;exact again I7 n7
    | brk=>obtain ⟨σ7,H7,I7,q7⟩:=q7;exact ⟨σ7,H7,I7.unpinned,q7⟩
    | ret v=>obtain ⟨x7,σ7,H7,I7,r7,q7⟩:=q7;exact ⟨x7,σ7,H7,I7.unpinned,r7,q7⟩
end

theorem for_list {K:PySem.W.Frag} {a:Addr} {xs:List V} {g:TG} {tb:TS} {D:Ends} {σ:St} {H:Hp} (Pv:Nat→St→Hp→Prop) (h0:Pv 0 σ H) (hl:∀i σ H,i≤xs.length→Pv i σ H→SqL K H a xs)
    (hs:∀i x σ H,xs[i]?=some x→Pv i σ H→g x σ H fun σ2 H2=>tb { D with nx:=Pv (i+1),ct:=Pv (i+1),bk:=D.nx } σ2 H2) (hd:∀σ H,Pv xs.length σ H→D.nx σ H) :
    ∃W:Nat→Nat→St→Hp→Prop,(∃m,W 0 m σ H)∧∀i m σ H,W i m σ H →
      ((Itl K a).stop i H∧D.nx σ H)∨((Itl K a).go i H∧∃N:St→Hp→Prop,(∀σ' H',N σ' H'→∃m',m'<m∧W (i+1) m' σ' H')∧∀x H',(Itl K a).yld i H x H'→g x σ H' fun σ2 H2=>tb { D with nx:=N,ct:=N,bk:=D.nx } σ2 H2):=by
  refine ⟨fun i m σ H=>m=xs.length-i∧i≤xs.length∧Pv i σ H,⟨xs.length,by simp,Nat.zero_le _,h0⟩,?_⟩
  rintro i m σ H ⟨rfl,hi,p⟩
  have q:=hl i σ H hi p
  by_cases hlt:i<xs.length
  · refine .inr ⟨⟨xs,xs[i],q,by simp [hlt]⟩,Pv (i+1),fun σ' H' p'=>⟨xs.length-(i+1),by omega,rfl,hlt,p'⟩,fun x H' y=>?_⟩
    obtain ⟨e,y⟩:=y
    subst e
    exact hs i x σ _ (y xs q) p
  · have e:i=xs.length:=by omega
    subst e
    exact .inl ⟨⟨xs,q,Nat.le_refl _⟩,hd σ H p⟩
theorem for_range {lo:Int} {n:Nat} {g:TG} {tb:TS} {D:Ends} {σ:St} {H:Hp} (Pv:Nat→St→Hp→Prop) (h0:Pv 0 σ H)
    (hs:∀i σ H,i<n→Pv i σ H→g (.int (lo+i)) σ H fun σ2 H2=>tb { D with nx:=Pv (i+1),ct:=Pv (i+1),bk:=D.nx } σ2 H2) (hd:∀σ H,Pv n σ H→D.nx σ H) :
    ∃W:Nat→Nat→St→Hp→Prop,(∃m,W 0 m σ H)∧∀i m σ H,W i m σ H →
      ((Itr lo n).stop i H∧D.nx σ H)∨((Itr lo n).go i H∧∃N:St→Hp→Prop,(∀σ' H',N σ' H'→∃m',m'<m∧W (i+1) m' σ' H')∧∀x H',(Itr lo n).yld i H x H'→g x σ H' fun σ2 H2=>tb { D with nx:=N,ct:=N,bk:=D.nx } σ2 H2):=by
  refine ⟨fun i m σ H=>m=n-i∧i≤n∧Pv i σ H,⟨n,by simp,Nat.zero_le _,h0⟩,?_⟩
  rintro i m σ H ⟨rfl,hi,p⟩
  by_cases hlt:i<n
  · refine .inr ⟨hlt,Pv (i+1),fun σ' H' p'=>⟨n-(i+1),by omega,rfl,hlt,p'⟩,fun x H' y=>?_⟩
    obtain ⟨e,y⟩:=y
    subst e y
    exact hs i σ _ hlt p
  · have e:i=n:=by omega
    subst e
    exact .inl ⟨Nat.le_refl _,hd σ H p⟩
theorem while_by {c:TT} {tb:TS} {D:Ends} {σ:St} {H:Hp} (Pv:St→Hp→Prop) (μ:St→Hp→Nat) (h0:Pv σ H)
    (hs:∀σ H,Pv σ H→c σ H fun b H1=>if b=true then tb { D with nx:=fun σ' H'=>Pv σ' H'∧μ σ' H'<μ σ H,ct:=fun σ' H'=>Pv σ' H'∧μ σ' H'<μ σ H,bk:=D.nx } σ H1 else D.nx σ H1)
    (mono:∀σ H Q Q',(∀b H1,Q b H1→Q' b H1)→c σ H Q→c σ H Q'):tWhile c tb D σ H:=by
  refine ⟨fun m σ H=>m=μ σ H∧Pv σ H,⟨_,rfl,h0⟩,?_⟩
  rintro m σ H ⟨rfl,p⟩
  refine mono σ H _ _ (fun b H1 q=>?_) (hs σ H p)
  cases b with
  | true=>exact ⟨_,fun σ' H' ⟨p',l⟩=>⟨_,l,rfl,p'⟩,q⟩
  | false=>exact q
end L2

namespace L2
open PySem PySem.Spec PyProof.Rows

noncomputable abbrev R2:=V→V→Hp→VK→Prop
noncomputable def OpR (X:Cx) (f:Value→Value→Sem Value) (r:R2):Prop:=
  ∀(pins:List (Addr×Obj)) (s:Shared) (σ:St) (H:Hp) (x y:V) (v u:Value) (Q:VK),Inv X pins σ H s→RelV x v→RelV y u→r x y H Q →
    wpAny (model X.prog X.w) X.A (f v u) (EP X pins σ Q) X.xe s
noncomputable def UnR (X:Cx) (f:Value→Sem Value) (r:V→Hp→VK→Prop):Prop:=
  ∀(pins:List (Addr×Obj)) (s:Shared) (σ:St) (H:Hp) (x:V) (v:Value) (Q:VK),Inv X pins σ H s→RelV x v→r x H Q →
    wpAny (model X.prog X.w) X.A (f v) (EP X pins σ Q) X.xe s
noncomputable def CallR (X:Cx) (f:Value) (r:List V→Hp→VK→Prop):Prop:=
  ∀(pins:List (Addr×Obj)) (s:Shared) (σ:St) (H:Hp) (xs:List V) (us:List Value) (Q:VK),Inv X pins σ H s→Vals xs us→r xs H Q →
    wpAny (model X.prog X.w) X.A (call f us) (EP X pins σ Q) X.xe s
noncomputable def tOp (r:R2) (ta tb:TE):TE:=fun σ H Q=>ta σ H fun x H1=>tb σ H1 fun y H2=>r x y H2 Q
noncomputable def tUn (r:V→Hp→VK→Prop) (ta:TE):TE:=fun σ H Q=>ta σ H fun x H1=>r x H1 Q
noncomputable def rI (C:Int→Int→Prop) (g:Int→Int→V):R2:=fun x y H Q=>∃i j,x=.int i∧y=.int j∧C i j∧Q (g i j) H
noncomputable def rI0 (g:Int→Int→V):R2:=fun x y H Q=>∃i j,x=.int i∧y=.int j∧Q (g i j) H
noncomputable def rU (g:Int→V):V→Hp→VK→Prop:=fun x H Q=>∃i,x=.int i∧Q (g i) H

section
variable {X:Cx} {a b c:Expr} {ta tb tc:TE} {pos:Pos}

theorem binT (ha:PE X a ta) (hb:PE X b tb) {pins:List (Addr×Obj)} {s:Shared} {σ:St} {H:Hp} {R:V→V→Hp→Prop} (I:Inv X pins σ H s)
    (h:ta σ H fun x H1=>tb σ H1 fun y H2=>R x y H2) {Q:Value→Shared→Prop} {f:Value→Value→Sem Value}
    (hf:∀v u s2 x y H2,Inv X pins σ H2 s2→RelV x v→RelV y u→R x y H2→wpAny (model X.prog X.w) X.A (f v u) Q X.xe s2) :
    wpAny (model X.prog X.w) X.A (eval a X.env) (fun v s₁=>wpAny (model X.prog X.w) X.A (eval b X.env) (fun u s₂=>wpAny (model X.prog X.w) X.A (f v u) Q X.xe s₂) X.xe s₁) X.xe s:=by
  refine thn (ha pins s σ H _ I h) fun v s1 ⟨x,H1,I1,r1,q1⟩=>?_
  refine thn (hb pins s1 σ H1 _ I1 q1) fun u s2 ⟨y,H2,I2,r2,q2⟩=>?_
  exact hf v u s2 x y H2 I2 r1 r2 q2

theorem pe_op {op:Operator} {r:R2} (ho:OpR X (binaryOp op) r) (ha:PE X a ta) (hb:PE X b tb):PE X (.BinOp a op b pos) (tOp r ta tb):=by
  intro pins s σ H Q I h
  exact wpAny_BinOp (binT ha hb I h fun v u s2 x y H2 I2 rx ry q=>ho pins s2 σ H2 x y v u Q I2 rx ry q)
theorem pe_un {op:UnaryOp} {r:V→Hp→VK→Prop} (ho:UnR X (unaryOp op) r) (ha:PE X a ta):PE X (.UnaryOp op a pos) (tUn r ta):=by
  intro pins s σ H Q I h
  exact UnaryOp_ (thn (ha pins s σ H _ I h) fun v s1 ⟨x,H1,I1,r1,q1⟩=>ho pins s1 σ H1 x v Q I1 r1 q1)
theorem opI {f:Value→Value→Sem Value} {C:Int→Int→Prop} {g:Int→Int→Int}
    (rule:∀(i j:Int) (t u:Tok) (s:Shared) (Q:Value→Shared→Prop) (E:Value→Shared→Prop),C i j→Q (.int (g i j) s.toks) { s with toks:=s.toks+1 }→wpAny (model X.prog X.w) X.A (f (.int i t) (.int j u)) Q E s) :
    OpR X f (rI C fun i j=>.int (g i j)):=by
  intro pins s σ H x y v u Q I rx ry h
  obtain ⟨i,j,rfl,rfl,hc,q⟩:=h
  obtain ⟨t,rfl⟩:=rx
  obtain ⟨t',rfl⟩:=ry
  exact rule i j t t' s _ _ hc ⟨.int (g i j),H,I.tok _,⟨_,rfl⟩,q⟩
theorem opI0 {f:Value→Value→Sem Value} {g:Int→Int→Int}
    (rule:∀(i j:Int) (t u:Tok) (s:Shared) (Q:Value→Shared→Prop) (E:Value→Shared→Prop),Q (.int (g i j) s.toks) { s with toks:=s.toks+1 }→wpAny (model X.prog X.w) X.A (f (.int i t) (.int j u)) Q E s) :
    OpR X f (rI0 fun i j=>.int (g i j)):=by
  intro pins s σ H x y v u Q I rx ry h
  obtain ⟨i,j,rfl,rfl,q⟩:=h
  obtain ⟨t,rfl⟩:=rx
  obtain ⟨t',rfl⟩:=ry
  exact rule i j t t' s _ _ ⟨.int (g i j),H,I.tok _,⟨_,rfl⟩,q⟩
theorem opB0 {f:Value→Value→Sem Value} {g:Int→Int→Bool}
    (rule:∀(i j:Int) (t u:Tok) (s:Shared) (Q:Value→Shared→Prop) (E:Value→Shared→Prop),Q (.bool (g i j)) s→wpAny (model X.prog X.w) X.A (f (.int i t) (.int j u)) Q E s) :
    OpR X f (rI0 fun i j=>.bl (g i j)):=by
  intro pins s σ H x y v u Q I rx ry h
  obtain ⟨i,j,rfl,rfl,q⟩:=h
  obtain ⟨t,rfl⟩:=rx
  obtain ⟨t',rfl⟩:=ry
  exact rule i j t t' s _ _ ⟨.bl (g i j),H,I,rfl,q⟩

noncomputable def CPow (i j:Int):Prop:=0≤j∧j≤1000000∧i.natAbs<2 ^ 64
noncomputable def CMul (i j:Int):Prop:=(-(2 ^ 64)<i∧i<2 ^ 64)∨(-(2 ^ 64)<j∧j<2 ^ 64)
theorem CMul.ok {i j:Int} (h:CMul i j):IntMulOk i j:=by
  rcases h with ⟨h1,h2⟩ | ⟨h1,h2⟩
  · exact .of_left (intBits_le_64 h1 h2)
  · exact .of_right (intBits_le_64 h1 h2)
theorem two_pow_nn (k:Nat):(0:Int)≤2 ^ k:=by
  rw [two_pow_cast]
  exact Int.natCast_nonneg _

theorem op_add:OpR X (binaryOp .Add) (rI0 fun i j=>.int (i+j)):=opI0 fun _ _ _ _ _ _ _ q=>add_int q
theorem op_sub:OpR X (binaryOp .Sub) (rI0 fun i j=>.int (i-j)):=opI0 fun _ _ _ _ _ _ _ q=>sub_int q
theorem op_mod:OpR X (binaryOp .Mod) (rI (fun _ j=>0<j) fun i j=>.int (i % j)):=opI fun i j _ _ _ _ _ hc q=>by
  have h1:(0:Int)<j:=hc
  exact mod_int' (by omega) (by rw [Int.fmod_eq_emod_of_nonneg i (by omega)];exact q)
theorem op_pow:OpR X (binaryOp .Pow) (rI CPow fun i j=>.int (i ^ j.toNat)):=opI fun _ _ _ _ _ _ _ hc q=>pow_int_small hc.1 hc.2.1 hc.2.2 q
theorem op_shr:OpR X (binaryOp .RShift) (rI (fun _ j=>0≤j) fun i j=>.int (i/2 ^ j.toNat)):=opI fun i j _ _ _ _ _ hc q=>
  rshift_int hc (by rw [Int.fdiv_eq_ediv_of_nonneg i (two_pow_nn _)];exact q)
theorem unI {f:Value→Sem Value} {g:Int→Int}
    (rule:∀(i:Int) (t:Tok) (s:Shared) (Q:Value→Shared→Prop) (E:Value→Shared→Prop),Q (.int (g i) s.toks) { s with toks:=s.toks+1 }→wpAny (model X.prog X.w) X.A (f (.int i t)) Q E s) :
    UnR X f (rU fun i=>.int (g i)):=by
  intro pins s σ H x v Q I rx h
  obtain ⟨i,rfl,q⟩:=h
  obtain ⟨t,rfl⟩:=rx
  exact rule i t s _ _ ⟨.int (g i),H,I.tok _,⟨_,rfl⟩,q⟩
theorem un_neg:UnR X (unaryOp .USub) (rU fun i=>.int (-i)):=unI fun _ _ _ _ _ q=>neg_int q
end

noncomputable def scal:V→V→Bool
  | .non,.non=>true | .non,.int _=>true | .int _,.non=>true | .non,.bl _=>true | .bl _,.non=>true | .non,.str _=>true | .str _,.non=>true
  | .int _,.int _=>true | .bl _,.bl _=>true | .str _,.str _=>true | .byt _,.byt _=>true
  | .int _,.str _=>true | .str _,.int _=>true | .bl _,.str _=>true | .str _,.bl _=>true
  | _,_=>false
noncomputable def rEq:R2:=fun x y H Q=>scal x y=true∧Q (.bl (decide (x=y))) H
noncomputable def rNe:R2:=fun x y H Q=>scal x y=true∧Q (.bl (!decide (x=y))) H

theorem dec_int {i j:Int}:decide (V.int i=V.int j)=(i==j):=by
  rw [Bool.eq_iff_iff]
  simp
theorem dec_bl {i j:Bool}:decide (V.bl i=V.bl j)=(i==j):=by
  rw [Bool.eq_iff_iff]
  simp
theorem dec_str {i j:Str}:decide (V.str i=V.str j)=(i==j):=by
  rw [Bool.eq_iff_iff]
  simp
theorem dec_byt {i j:Array UInt8}:decide (V.byt i=V.byt j)=(i.toList==j.toList):=by
  rw [Bool.eq_iff_iff]
  cases i
  cases j
  simp

section
variable {X:Cx} {a b c:Expr} {ta tb tc:TE} {pos:Pos}
theorem fin_bl {pins:List (Addr×Obj)} {σ:St} {H:Hp} {s:Shared} {Q:VK} {k k':Bool} (I:Inv X pins σ H s) (q:Q (.bl k) H) (e:k=k'):EP X pins σ Q (.bool k') s:=by
  subst e
  exact ⟨.bl k,H,I,rfl,q⟩
theorem op_eq:OpR X (compareOp .Eq) rEq:=by
  intro pins s σ H x y v u Q I rx ry h
  obtain ⟨hs,q⟩:=h
  cases x with
  | non=>
    cases rx
    cases y with
    | non=>cases ry;exact PySem.EqNone.eq_none_none (fin_bl I q (by simp))
    | bl j=>cases ry;exact PySem.EqNone.eq_none_bool (fin_bl I q (by simp))
    | int j=>obtain ⟨t',rfl⟩:=ry;exact PySem.EqNone.eq_none_int (fin_bl I q (by simp))
    | str j=>obtain ⟨t',rfl⟩:=ry;exact PySem.EqNone.eq_none_str (fin_bl I q (by simp))
    | _=>exact absurd (show false=true from hs) Bool.false_ne_true
  | bl i=>
    cases rx
    cases y with
    | non=>cases ry;exact PySem.EqNone.eq_bool_none (fin_bl I q (by simp))
    | bl j=>cases ry;exact eq_bool (fin_bl I q dec_bl)
    | str j=>obtain ⟨t',rfl⟩:=ry;exact PySem.EqMixed.eq_bool_str (fin_bl I q (by simp))
    | _=>exact absurd (show false=true from hs) Bool.false_ne_true
  | int i=>
    obtain ⟨t,rfl⟩:=rx
    cases y with
    | non=>cases ry;exact PySem.EqNone.eq_int_none (fin_bl I q (by simp))
    | int j=>obtain ⟨t',rfl⟩:=ry;exact eq_int (fin_bl I q dec_int)
    | str j=>obtain ⟨t',rfl⟩:=ry;exact PySem.EqMixed.eq_int_str (fin_bl I q (by simp))
    | _=>exact absurd (show false=true from hs) Bool.false_ne_true
  | str i=>
    obtain ⟨t,rfl⟩:=rx
    cases y with
    | non=>cases ry;exact PySem.EqNone.eq_str_none (fin_bl I q (by simp))
    | bl j=>cases ry;exact PySem.EqMixed.eq_str_bool (fin_bl I q (by simp))
    | int j=>obtain ⟨t',rfl⟩:=ry;exact PySem.EqMixed.eq_str_int (fin_bl I q (by simp))
    | str j=>obtain ⟨t',rfl⟩:=ry;exact eq_str (fin_bl I q dec_str)
    | _=>exact absurd (show false=true from hs) Bool.false_ne_true
  | byt i=>
    obtain ⟨t,rfl⟩:=rx
    cases y with
    | byt j=>obtain ⟨t',rfl⟩:=ry;exact PySem.W.eq_bytes (fin_bl I q dec_byt)
    | _=>exact absurd (show false=true from hs) Bool.false_ne_true
  | _=>cases y <;> exact absurd (show false=true from hs) Bool.false_ne_true
theorem op_ne:OpR X (compareOp .NotEq) rNe:=by
  intro pins s σ H x y v u Q I rx ry h
  obtain ⟨hs,q⟩:=h
  cases x with
  | non=>
    cases rx
    cases y with
    | non=>cases ry;exact PySem.EqNone.ne_none_none (fin_bl I q (by simp))
    | bl j=>cases ry;exact PySem.EqNone.ne_none_bool (fin_bl I q (by simp))
    | int j=>obtain ⟨t',rfl⟩:=ry;exact PySem.EqNone.ne_none_int (fin_bl I q (by simp))
    | str j=>obtain ⟨t',rfl⟩:=ry;exact PySem.EqNone.ne_none_str (fin_bl I q (by simp))
    | _=>exact absurd (show false=true from hs) Bool.false_ne_true
  | bl i=>
    cases rx
    cases y with
    | non=>cases ry;exact PySem.EqNone.ne_bool_none (fin_bl I q (by simp))
    | bl j=>cases ry;exact ne_bool (fin_bl I q (congrArg not dec_bl))
    | str j=>obtain ⟨t',rfl⟩:=ry;exact PySem.EqMixed.ne_bool_str (fin_bl I q (by simp))
    | _=>exact absurd (show false=true from hs) Bool.false_ne_true
  | int i=>
    obtain ⟨t,rfl⟩:=rx
    cases y with
    | non=>cases ry;exact PySem.EqNone.ne_int_none (fin_bl I q (by simp))
    | int j=>obtain ⟨t',rfl⟩:=ry;exact ne_int (fin_bl I q (congrArg not dec_int))
    | str j=>obtain ⟨t',rfl⟩:=ry;exact PySem.EqMixed.ne_int_str (fin_bl I q (by simp))
    | _=>exact absurd (show false=true from hs) Bool.false_ne_true
  | str i=>
    obtain ⟨t,rfl⟩:=rx
    cases y with
    | non=>cases ry;exact PySem.EqNone.ne_str_none (fin_bl I q (by simp))
    | bl j=>cases ry;exact PySem.EqMixed.ne_str_bool (fin_bl I q (by simp))
    | int j=>obtain ⟨t',rfl⟩:=ry;exact PySem.EqMixed.ne_str_int (fin_bl I q (by simp))
    | str j=>obtain ⟨t',rfl⟩:=ry;exact ne_str (fin_bl I q (congrArg not dec_str))
    | _=>exact absurd (show false=true from hs) Bool.false_ne_true
  | byt i=>
    obtain ⟨t,rfl⟩:=rx
    cases y with
    | byt j=>obtain ⟨t',rfl⟩:=ry;exact PySem.W.ne_bytes (fin_bl I q (congrArg not dec_byt))
    | _=>exact absurd (show false=true from hs) Bool.false_ne_true
  | _=>cases y <;> exact absurd (show false=true from hs) Bool.false_ne_true

theorem op_lt:OpR X (compareOp .Lt) (rI0 fun i j=>.bl (decide (i<j))):=opB0 fun _ _ _ _ _ _ _ q=>lt_int q
theorem op_le:OpR X (compareOp .LtE) (rI0 fun i j=>.bl (decide (i≤j))):=opB0 fun _ _ _ _ _ _ _ q=>le_int q
theorem op_gt:OpR X (compareOp .Gt) (rI0 fun i j=>.bl (decide (j<i))):=opB0 fun _ _ _ _ _ _ _ q=>gt_int q
theorem op_ge:OpR X (compareOp .GtE) (rI0 fun i j=>.bl (decide (j≤i))):=opB0 fun _ _ _ _ _ _ _ q=>ge_int q
theorem op_isN:OpR X (compareOp .Is) (fun x y H Q=>y=.non∧Q (.bl (decide (x=.non))) H):=by
  intro pins s σ H x y v u Q I rx ry h
  obtain ⟨rfl,q⟩:=h
  cases ry
  refine is_none_gen (fin_bl I q ?_)
  cases x <;> first
    | (cases rx;rfl)
    | (obtain ⟨t,rfl⟩:=rx;rfl)
theorem op_notN:OpR X (compareOp .IsNot) (fun x y H Q=>y=.non∧Q (.bl (!decide (x=.non))) H):=by
  intro pins s σ H x y v u Q I rx ry h
  obtain ⟨rfl,q⟩:=h
  cases ry
  refine isnot_none_gen (fin_bl I q ?_)
  cases x <;> first
    | (cases rx;rfl)
    | (obtain ⟨t,rfl⟩:=rx;rfl)

theorem nomark (b:Expr) {op:CmpOp} (h:autoParam (op≠.In) au1_._auto_1) (h2:autoParam (op≠.NotIn) au1_._auto_1):behindInMarks op b=false:=by
  have e1:(op==CmpOp.In)=false:=by cases op <;> first | rfl | exact absurd rfl h
  have e2:(op==CmpOp.NotIn)=false:=by cases op <;> first | rfl | exact absurd rfl h2
  cases b <;> simp [behindInMarks,e1,e2]
theorem pe_cmpR {op:CmpOp} {r:R2} (ho:OpR X (compareOp op) r) (ha:PE X a ta) (hb:PE X b tb) (hm:behindInMarks op b=false):PE X (.Compare a [op] [b] pos) (tOp r ta tb):=by
  intro pins s σ H Q I h
  exact wpAny_Compare1 (binT ha hb I h fun v u s2 x y H2 I2 rx ry q=>ho pins s2 σ H2 x y v u Q I2 rx ry q) hm
noncomputable def tTest (t:TE):TT:=fun σ H Q=>t σ H fun x H'=>∃k,x=.bl k∧Q k H'
theorem pt_cmpR {op:CmpOp} {r:R2} (ho:OpR X (compareOp op) r) (ha:PE X a ta) (hb:PE X b tb) (hm:behindInMarks op b=false):PT X (.Compare a [op] [b] pos) (tTest (tOp r ta tb)):=by
  intro pins s σ H Q I h
  refine wpAny_isTrue_Compare1 (thn (ha pins s σ H _ I h) fun v s1 ⟨x,H1,I1,r1,q1⟩=>thn (hb pins s1 σ H1 _ I1 q1) fun u s2 ⟨y,H2,I2,r2,q2⟩=>
    thn (ho pins s2 σ H2 x y v u _ I2 r1 r2 q2) fun c s3 ⟨z,H3,I3,r3,k,e,q3⟩=>?_) hm
  subst e
  cases r3
  exact wpAny_truthy_bool ⟨H3,I3,q3⟩
noncomputable def tChain (r r':R2) (ta tb tc:TE):TE:=fun σ H Q=>ta σ H fun x H1=>tb σ H1 fun y H2=>r x y H2 fun z H3=>∃k,z=.bl k ∧
  (if k=true then tc σ H3 fun w' H4=>r' y w' H4 Q else Q (.bl false) H3)
theorem pe_chain {op op':CmpOp} {r r':R2} (ho:OpR X (compareOp op) r) (ho':OpR X (compareOp op') r') (ha:PE X a ta) (hb:PE X b tb) (hc:PE X c tc)
    (hm:autoParam (lastMarks [op,op'] [b,c]=false) au3_._auto_1):PE X (.Compare a [op,op'] [b,c] pos) (tChain r r' ta tb tc):=by
  intro pins s σ H Q I h
  refine Compare_chain (thn (ha pins s σ H _ I h) fun v s1 ⟨x,H1,I1,r1,q1⟩=>chain_link (thn (hb pins s1 σ H1 _ I1 q1) fun u s2 ⟨y,H2,I2,r2,q2⟩=>
    thn (ho pins s2 σ H2 x y v u _ I2 r1 r2 q2) fun d s3 ⟨z,H3,I3,r3,k,e,q3⟩=>?_)) hm
  subst e
  cases r3
  refine wpAny_truthy_bool ?_
  cases k with
  | false=>exact ite_ff ⟨.bl false,H3,I3,rfl,q3⟩
  | true=>exact ite_tt (chain_last (thn (hc pins s3 σ H3 _ I3 q3) fun w' s4 ⟨z',H4,I4,r4,q4⟩=>ho' pins s4 σ H4 y z' u w' Q I4 r2 r4 q4))
theorem pt_chain {op op':CmpOp} {r r':R2} (ho:OpR X (compareOp op) r) (ho':OpR X (compareOp op') r') (ha:PE X a ta) (hb:PE X b tb) (hc:PE X c tc)
    (hm:autoParam (lastMarks [op,op'] [b,c]=false) au3_._auto_1):PT X (.Compare a [op,op'] [b,c] pos) (tTest (tChain r r' ta tb tc)):=by
  intro pins s σ H Q I h
  refine isTrue_chain (thn (ha pins s σ H _ I h) fun v s1 ⟨x,H1,I1,r1,q1⟩=>test_link (thn (hb pins s1 σ H1 _ I1 q1) fun u s2 ⟨y,H2,I2,r2,q2⟩=>
    thn (ho pins s2 σ H2 x y v u _ I2 r1 r2 q2) fun d s3 ⟨z,H3,I3,r3,k,e,q3⟩=>?_)) hm
  subst e
  cases r3
  refine wpAny_truthy_bool ?_
  cases k with
  | false=>
    obtain ⟨k',e',q'⟩:=q3
    cases e'
    exact ite_ff ⟨H3,I3,q'⟩
  | true=>
    refine ite_tt (test_last (thn (hc pins s3 σ H3 _ I3 q3) fun w' s4 ⟨z',H4,I4,r4,q4⟩=>thn (ho' pins s4 σ H4 y z' u w' _ I4 r2 r4 q4) fun d' s5 ⟨z2,H5,I5,r5,k2,e2,q5⟩=>?_))
    subst e2
    cases r5
    exact wpAny_truthy_bool ⟨H5,I5,q5⟩

theorem line63:(sizeLine:Nat)<2 ^ 63:=by rw [sizeLine_eq];decide
theorem vals1 {x:V} {us:List Value} (r:Vals [x] us):∃u,us=[u]∧RelV x u:=by
  cases r with
  | cons r1 r2=>cases r2;exact ⟨_,rfl,r1⟩
theorem vals2 {x y:V} {us:List Value} (r:Vals [x,y] us):∃u w',us=[u,w']∧RelV x u∧RelV y w':=by
  cases r with
  | cons r1 r2=>
    cases r2 with
    | cons r3 r4=>cases r4;exact ⟨_,_,rfl,r1,r3⟩
theorem call_abs:CallR X (.builtin "abs") (fun xs H Q=>∃i,xs=[.int i]∧Q (.int (if i<0 then -i else i)) H):=by
  intro pins s σ H xs us Q I r h
  obtain ⟨i,rfl,q⟩:=h
  obtain ⟨u,rfl,t,rfl⟩:=vals1 r
  exact call_abs_int fun u tk=>⟨.int (if i<0 then -i else i),H,I.tok _,⟨_,rfl⟩,q⟩
theorem call_max2 (hc:X.calm=true):CallR X (.builtin "max") (fun xs H Q=>∃i j,xs=[.int i,.int j]∧Q (.int (if j>i then j else i)) H):=by
  intro pins s σ H xs us Q I r h
  obtain ⟨i,j,rfl,q⟩:=h
  obtain ⟨u,w',rfl,⟨t,rfl⟩,⟨t',rfl⟩⟩:=vals2 r
  refine max_two_ints (I.ok.hd hc) fun h' tk k=>⟨_,H,I.kept k,?_,q⟩
  by_cases hj:j>i
  · rw [if_pos hj,if_pos hj];exact ⟨_,rfl⟩
  · rw [if_neg hj,if_neg hj];exact ⟨_,rfl⟩
theorem call_min2 (hc:X.calm=true):CallR X (.builtin "min") (fun xs H Q=>∃i j,xs=[.int i,.int j]∧Q (.int (if j<i then j else i)) H):=by
  intro pins s σ H xs us Q I r h
  obtain ⟨i,j,rfl,q⟩:=h
  obtain ⟨u,w',rfl,⟨t,rfl⟩,⟨t',rfl⟩⟩:=vals2 r
  refine min_two_ints (I.ok.hd hc) fun h' tk k=>⟨_,H,I.kept k,?_,q⟩
  by_cases hj:j<i
  · rw [if_pos hj,if_pos hj];exact ⟨_,rfl⟩
  · rw [if_neg hj,if_neg hj];exact ⟨_,rfl⟩
end
end L2

namespace L2
open PySem PySem.Spec PyProof.Rows

structure ObjM (h:Heap) (x dx C:Addr) (mA:Str→Option Value):Prop where
  obj:h.get? x=some (PySem.W.instObj C dx)
  ns:h.Ns1 dx mA
  ne:dx≠x

theorem lookIn_ns {h:Heap} {dx:Addr} {mA:Str→Option Value} (n:h.Ns1 dx mA):∃od,h.get? dx=some od∧∀name,PySem.W.lookIn name od=some (mA name):=by
  obtain ⟨o,es,ep,ho,hd,hk,_,hm⟩:=n
  refine ⟨o,ho,fun name=>?_⟩
  have e:=hm name
  unfold nsFind findBy at e
  rw [← Array.find?_toList] at e
  unfold PySem.W.lookIn
  rw [hd]
  dsimp only
  split
  · rename_i y q
    rw [q] at e
    exact congrArg some e
  · rename_i q
    rw [q] at e
    have a:es.toList.any (·.refKey)=false:=by
      rw [List.any_eq_false]
      intro y hy
      obtain ⟨z,t,hkey⟩:=hk y (Array.mem_toList_iff.mp hy)
      simp [DictEntry.refKey,hkey]
    have a':¬es.toList.any (·.refKey)=true:=by rw [a];exact Bool.false_ne_true
    rw [if_neg a']
    exact congrArg some e

theorem ObjM.look {h:Heap} {x dx C:Addr} {mA:Str→Option Value} (I:ObjM h x dx C mA):∃od,PySem.W.InstAt h x (PySem.W.instObj C dx) C (some od)∧∀name,PySem.W.lookIn name od=some (mA name):=
  let ⟨od,ho,hl⟩:=lookIn_ns I.ns
  ⟨od,⟨I.obj,rfl,rfl,ho⟩,hl⟩

section
variable {prog:Program} {w:World} {A:Around} {E:Value→Shared→Prop} {s:Shared} {K:PySem.W.Frag} {x dx C f:Addr} {mA:Str→Option Value} {name:Str} {v:Value}

theorem get_map {expr:Bool} {Q:Value→Shared→Prop} (X:K.In s.heap) (I:ObjM s.heap x dx C mA) (hg:PySem.W.plainGet K C name=true) (hh:PySem.W.hasDictIn K C=true)
    (ha:PySem.W.findIn K (.ref C) name=some none) (hv:mA name=some v) (hv':PySem.W.handedIn v=true) (h:Q v { s with toks:=s.toks+1 }) :
    wpAny (model prog w) A (getAttr (.ref x) name expr) Q E s:=by
  obtain ⟨od,J,hl⟩:=I.look
  exact PySem.W.get_value X J (PySem.W.plainGet_of hg).1 (PySem.W.findObj_own hh ha rfl (by rw [hl,hv])) hv' h

theorem get_meth {pl:Sem Bool} {Q:Value×List Value→Shared→Prop} (X:K.In s.heap) (I:ObjM s.heap x dx C mA) (hg:PySem.W.plainGet K C name=true)
    (hf:PySem.W.findIn K (.ref C) name=some (some (.ref f))) (ht:PySem.W.isFn K (.ref f)=true) (hv:mA name=none) (h:Q (.ref f,[.ref x]) s) :
    wpAny (model prog w) A (getMethod (.ref x) name pl) Q E s:=by
  obtain ⟨od,J,hl⟩:=I.look
  exact PySem.W.method_fn X J (PySem.W.plainGet_of hg).1 (PySem.W.plainGet_of hg).2 hf (beq_iff_eq.mp ht) (by show (PySem.W.lookIn name od).map (·.isSome)=some false;rw [hl,hv];rfl) h

theorem set_map {ns:List Str} {Q:Unit→Shared→Prop} (X:K.In s.heap) (I:ObjM s.heap x dx C mA)
    (hs:PySem.W.findIn K (.ref C) "__setattr__"=some (some (.builtin "object.__setattr__"))) (hp:PySem.W.plainOver K C=true) (ht:PySem.W.takerIn K C name=some none) (hh:PySem.W.hasDictIn K C=true)
    (hw:PySem.Within mA ns) (hsz:ns.length≤sizeLine)
    (h:∀h',ObjM h' x dx C (fun y=>if y=name then some v else mA y)→Heap.SameBut dx s.heap h'→Q () { s with heap:=h',toks:=s.toks+2 }) :
    wpAny (model prog w) A (setAttr (.ref x) name v) Q E s:=by
  obtain ⟨od,J,hl⟩:=I.look
  refine PySem.W.set_plain X J hs (PySem.W.osa_open (s:={ s with toks:=s.toks+1 }) (r:=none) X J hp ht fun b=>?_)
  obtain ⟨cd,hc,hd'⟩:=PySem.W.any_some hh
  have hx:s.heap.get? x=some ⟨.ref C,some dx,.plain,#[]⟩:=I.obj
  refine wpAny_bind (wpAny_pure (wpAny_bind (wpAny_bind (wpAny_loadPart hx (wpAny_bind (PySem.W.Looks.here (s:={ s with toks:=s.toks+1 }) (PySem.W.looks_clsIn X hc) ?_))))))
  rw [hd']
  refine wpAny_pure (a:=some dx) (wpAny_bind (wpAny_pure (wpAny_bind ?_)))
  refine wpAny_nsSet1 (s:={ s with toks:=s.toks+1 }) I.ns fun h' hn2 hs2=>?_
  obtain ⟨oD,esD,epD,hoD,hdD,hcD⟩:=hn2.count (PySem.Within.cons name v hw)
  refine wpAny_bind (wpAny_lookBehind hoD (by rw [hdD];exact pastItsLine_dict (Nat.le_trans hcD (by rw [List.length_cons];omega))) ?_)
  exact wpAny_pure (h _ ⟨(hs2.2 _ (Ne.symm I.ne)).trans I.obj,hn2,I.ne⟩ hs2)

theorem make_map {R:Result→Shared→Prop} {vs:List Value} {kw:List (Str×Value)} (X:K.In s.heap) (hm:PySem.W.makesIn K C=true)
    (hi:PySem.W.findIn K (.ref C) "__init__"=some (some (.ref f))) (hf:PySem.W.typeIn K (.ref f)=some (.type "function"))
    (h:codeAny (model prog w) (A.under (.builtin "type.__call__" ⟨.ref C::vs,kw⟩)) (.call (.ref f) ⟨.ref (s.heap.objs.size+1)::vs,kw⟩) (PySem.W.InitBack (s.heap.objs.size+1) R)
      { s with heap:=(s.heap.push PySem.W.emptyDict).push (PySem.W.instObj C s.heap.objs.size) }) :
    codeAny (model prog w) A (.call (.ref C) ⟨vs,kw⟩) R s:=by
  obtain ⟨hh,g,d,t,os⟩:=s
  exact PySem.W.make_core (PySem.W.makes_of X hm) (PySem.W.looks_findIn X hi) (fun self=>PySem.W.bind_fn X self hf) (.inl rfl) h
end

noncomputable def putF (f:Str) (v:V):List (Str×V)→List (Str×V)
  | []=>[(f,v)]
  | (g,x)::r=>if g=f then (g,v)::r else (g,x)::putF f v r
theorem lookup_putF (f g:Str) (v:V):∀fs:List (Str×V),(putF f v fs).lookup g=if g=f then some v else fs.lookup g
  | []=>by
    show List.lookup g [(f,v)]=_
    by_cases h:g=f
    · have hb:(g==f)=true:=beq_iff_eq.mpr h
      simp only [List.lookup,hb,if_pos h]
    · have hb:(g==f)=false:=beq_eq_false_iff_ne.mpr h
      simp only [List.lookup,hb,if_neg h]
  | (k,x)::r=>by
    have ih:=lookup_putF f g v r
    rw [show putF f v ((k,x)::r)=(if k=f then (k,v)::r else (k,x)::putF f v r) from rfl]
    by_cases hk:k=f
    · rw [if_pos hk]
      by_cases h:g=k
      · have hb:(g==k)=true:=beq_iff_eq.mpr h
        simp only [List.lookup,hb,if_pos (h.trans hk)]
      · have hb:(g==k)=false:=beq_eq_false_iff_ne.mpr h
        simp only [List.lookup,hb,if_neg (fun e:g=f=>h (e.trans hk.symm))]
    · rw [if_neg hk]
      by_cases h:g=k
      · have hb:(g==k)=true:=beq_iff_eq.mpr h
        simp only [List.lookup,hb,if_neg (fun e:g=f=>hk (h.symm.trans e))]
      · have hb:(g==k)=false:=beq_eq_false_iff_ne.mpr h
        simp only [List.lookup,hb]
        exact ih
theorem keys_putF (f:Str) (v:V):∀fs:List (Str×V),f∈(putF f v fs).map (·.1)∧∀g,g∈fs.map (·.1)→g∈(putF f v fs).map (·.1)
  | []=>⟨by simp [putF],fun g h=>by simp at h⟩
  | (k,x)::r=>by
    obtain ⟨i1,i2⟩:=keys_putF f v r
    rw [show putF f v ((k,x)::r)=(if k=f then (k,v)::r else (k,x)::putF f v r) from rfl]
    by_cases hk:k=f
    · rw [if_pos hk]
      subst hk
      exact ⟨by simp,fun g h=>by simpa using h⟩
    · rw [if_neg hk]
      refine ⟨?_,fun g h=>?_⟩
      · rw [List.map_cons]
        exact List.mem_cons_of_mem _ i1
      · rw [List.map_cons] at h ⊢
        rcases List.mem_cons.mp h with e | e
        · exact List.mem_cons.mpr (.inl e)
        · exact List.mem_cons_of_mem _ (i2 g e)
theorem length_putF (f:Str) (v:V):∀fs:List (Str×V),(putF f v fs).length≤fs.length+1
  | []=>by simp [putF]
  | (k,x)::r=>by
    have ih:=length_putF f v r
    rw [show putF f v ((k,x)::r)=(if k=f then (k,v)::r else (k,x)::putF f v r) from rfl]
    by_cases hk:k=f
    · rw [if_pos hk,List.length_cons,List.length_cons];omega
    · rw [if_neg hk,List.length_cons,List.length_cons];omega

theorem RelO.some_of {v:V} {o:Option Value} (r:RelO (some v) o):∃u,o=some u∧RelV v u:=by
  cases o with
  | none=>exact (show False from r).elim
  | some u=>exact ⟨u,rfl,r⟩
theorem RelO.none_of {o:Option Value} (r:RelO none o):o=none:=by
  cases o with
  | none=>rfl
  | some u=>exact (show False from r).elim
theorem handed_of {v:V} {u:Value} (r:RelV v u):PySem.W.handedIn u=true:=by
  cases v with
  | non=>cases (show u=Value.none from r);rfl
  | bl b=>cases (show u=Value.bool b from r);rfl
  | int i=>obtain ⟨t,e⟩:=(show ∃t,u=Value.int i t from r);cases e;rfl
  | str x=>obtain ⟨t,e⟩:=(show ∃t,u=Value.str x t from r);cases e;rfl
  | byt b=>obtain ⟨t,e⟩:=(show ∃t,u=Value.bytes b t from r);cases e;rfl
  | flt b=>obtain ⟨t,e⟩:=(show ∃t,u=Value.float b t from r);cases e;rfl
  | ref a=>cases (show u=Value.ref a from r);rfl
  | ty n=>cases (show u=Value.type n from r);rfl

section
variable {P:Program} {w:World} {H H':Hp} {h h':Heap} {a C dx:Addr} {fs fs':List (Str×V)}
theorem ins_get (hok:HOk P w H h) (e:H a=some (.ins C dx fs)):∃mA,ObjM h a dx C mA∧(∀f,RelO (fs.lookup f) (mA f))∧PySem.Within mA (fs.map (·.1))∧fs.length≤1000∧H dx=some (.own a):=by
  obtain ⟨d,z,ne,ob,mA,n,r,q⟩:=(show ObjOk P w H h a (.ins C dx fs) from hok a _ e)
  exact ⟨mA,⟨ob,n,ne⟩,r,q,z,d⟩
end

structure Cls (K:PySem.W.Frag) (C:Addr):Prop where
  pg:PySem.W.plainGet K C Str.empty=true
  hd:PySem.W.hasDictIn K C=true
  po:PySem.W.plainOver K C=true
  sa:PySem.W.findIn K (.ref C) "__setattr__"=some (some (.builtin "object.__setattr__"))
theorem Cls.get {K:PySem.W.Frag} {C:Addr} (c:Cls K C) (f:Str):PySem.W.plainGet K C f=true:=c.pg
noncomputable def NoAttr (K:PySem.W.Frag) (C:Addr) (f:Str):Prop:=PySem.W.findIn K (.ref C) f=some none
theorem NoAttr.taker {K:PySem.W.Frag} {C:Addr} {f:Str} (n:NoAttr K C f):PySem.W.takerIn K C f=some none:=by
  unfold PySem.W.takerIn
  rw [show PySem.W.findIn K (.ref C) f=some none from n]
  rfl
structure Meth (K:PySem.W.Frag) (C:Addr) (m:Str) (f:Addr):Prop where
  at_:PySem.W.findIn K (.ref C) m=some (some (.ref f))
  fn:PySem.W.isFn K (.ref f)=true
  kp:PySem.W.keepIn K (.ref f)=true

section
variable {X:Cx} {pins:List (Addr×Obj)} {σ:St} {H:Hp} {s:Shared} {a C dx:Addr} {fs:List (Str×V)} {f:Str} {v:V} {A:Around} {E:Value→Shared→Prop}

theorem getattr_ok {b:Bool} {Q:Value→Shared→Prop} (I:Inv X pins σ H s) (e:H a=some (.ins C dx fs)) (c:Cls X.K C) (n:NoAttr X.K C f) (l:fs.lookup f=some v)
    (h:∀u s',Inv X pins σ H s'→RelV v u→Q u s'):wpAny (model X.prog X.w) A (getAttr (.ref a) f b) Q E s:=by
  obtain ⟨mA,O,r,_,_,_⟩:=ins_get I.hok e
  obtain ⟨u,hu,ru⟩:=RelO.some_of (v:=v) (o:=mA f) (by rw [← l];exact r f)
  exact get_map I.kIn O (c.get f) c.hd n hu (handed_of ru) (h u _ (I.tok _) ru)

theorem getmeth_ok {m:Str} {g:Addr} {pl:Sem Bool} {Q:Value×List Value→Shared→Prop} (I:Inv X pins σ H s) (e:H a=some (.ins C dx fs)) (c:Cls X.K C) (k:Meth X.K C m g) (l:fs.lookup m=none)
    (h:Q (.ref g,[.ref a]) s):wpAny (model X.prog X.w) A (getMethod (.ref a) m pl) Q E s:=by
  obtain ⟨mA,O,r,_,_,_⟩:=ins_get I.hok e
  have hn:mA m=none:=RelO.none_of (by rw [← l];exact r m)
  exact get_meth I.kIn O (c.get m) k.at_ k.fn hn h

theorem setattr_ok {y:V} {u:Value} {Q:Unit→Shared→Prop} (I:Inv X pins σ H s) (e:H a=some (.ins C dx fs)) (c:Cls X.K C) (n:NoAttr X.K C f) (hl:fs.length<1000) (ry:RelV y u)
    (h:∀s',Inv X pins σ (upd H a (.ins C dx (putF f y fs))) s'→Q () s'):wpAny (model X.prog X.w) A (setAttr (.ref a) f u) Q E s:=by
  obtain ⟨mA,O,r,wi,_,ho⟩:=ins_get I.hok e
  have hz:(fs.map (·.1)).length≤sizeLine:=by rw [List.length_map,sizeLine_eq];omega
  refine set_map I.kIn O c.sa c.po n.taker c.hd wi hz fun h' O' sb=>h _ ?_
  have hd:∃o,h'.get? dx=some o:=let ⟨o,_,_,e',_⟩:=O'.ns;⟨o,e'⟩
  refine I.write (x:=a) (e:=dx) (by rw [e];exact True.intro) (.inr ho) (fun b q hb z=>(sb.2 b hb).trans z) hd ?_
  refine ⟨by rw [upd_ne O.ne];exact ho,?_,O.ne,O'.obj,_,O'.ns,fun g=>?_,fun g hg=>?_⟩
  · have:=length_putF f y fs;omega
  · show RelO ((putF f y fs).lookup g) (if g=f then some u else mA g)
    rw [lookup_putF]
    by_cases q:g=f
    · rw [if_pos q,if_pos q];exact ry
    · rw [if_neg q,if_neg q];exact r g
  · by_cases q:g=f
    · rw [q];exact (keys_putF f y fs).1
    · refine (keys_putF f y fs).2 g (wi g fun z=>hg ?_)
      show (if g=f then some u else mA g)=none
      rw [if_neg q];exact z

theorem Inv.made (I:Inv X pins σ H s):Inv X pins σ (upd (upd H s.heap.objs.size (.own (s.heap.objs.size+1))) (s.heap.objs.size+1) (.ins C s.heap.objs.size []))
    { s with heap:=(s.heap.push PySem.W.emptyDict).push (PySem.W.instObj C s.heap.objs.size) }:=by
  have e1:(s.heap.push PySem.W.emptyDict).get? s.heap.objs.size=some PySem.W.emptyDict:=Heap.get?_push_size s.heap rfl
  have e2:((s.heap.push PySem.W.emptyDict).push (PySem.W.instObj C s.heap.objs.size)).get? (s.heap.objs.size+1)=some (PySem.W.instObj C s.heap.objs.size):=by
    have:=Heap.get?_push_size (s.heap.push PySem.W.emptyDict) (o:=PySem.W.instObj C s.heap.objs.size) rfl
    rwa [Heap.size_push] at this
  have e3:(s.heap.push PySem.W.emptyDict).Ns s.heap.objs.size (fun _=>none):=⟨PySem.W.emptyDict,#[],_,e1,rfl,(fun e he=>absurd he (by simp)),fun _=>rfl⟩
  have I1:=I.laid (a:=s.heap.objs.size) (o:=.own (s.heap.objs.size+1)) (h':=s.heap.push PySem.W.emptyDict) (t':=s.toks) (fun b u q=>Heap.get?_push_of_some _ q) (Nat.le_refl _) ⟨_,e1⟩
  refine I1.laid (a:=s.heap.objs.size+1) (o:=.ins C s.heap.objs.size []) (t':=s.toks) (fun b u q=>Heap.get?_push_of_some _ q) (Nat.le_of_eq (Heap.size_push _ _)) ?_
  have ne:s.heap.objs.size≠s.heap.objs.size+1:=Nat.ne_of_lt (Nat.lt_succ_self _)
  refine ⟨by rw [upd_ne ne,upd_same],Nat.zero_le _,ne,e2,fun _=>none,(Heap.Ns1.of_empty e3).at fun o q=>Heap.get?_push_of_some _ q,fun _=>True.intro,fun y hy=>absurd rfl hy⟩

theorem attr_of {prog:Program} {w:World} {env:Env} {e:Expr} {f:Str} {pos:Pos} {s:Shared} {Q:Value→Shared→Prop} (hb:attributeBase e f env (eval e env)=eval e env)
    (h:wpAny (model prog w) A (eval e env) (fun o s₁=>wpAny (model prog w) A (getAttr o f true) Q E s₁) E s):wpAny (model prog w) A (eval (.Attribute e f pos) env) Q E s:=
  Attribute_any_ h (by rw [arm_eval_Attribute,hb])
end

noncomputable def tFld (K:PySem.W.Frag) (ta:TE) (f:Str):TE:=fun σ H Q=>ta σ H fun x H1=>∃a C dx fs v,x=.ref a∧H1 a=some (.ins C dx fs)∧Cls K C∧NoAttr K C f∧fs.lookup f=some v∧Q v H1
noncomputable def sFld (K:PySem.W.Frag) (ta tv:TE) (f:Str):TS:=fun D σ H=>tv σ H fun y H1=>ta σ H1 fun x H2=>∃a C dx fs,x=.ref a∧H2 a=some (.ins C dx fs)∧Cls K C∧NoAttr K C f∧fs.length<1000 ∧
  D.nx σ (upd H2 a (.ins C dx (putF f y fs)))
section
variable {X:Cx} {o e value:Expr} {f:Str} {pos pos' tpos:Pos} {ta tv:TE}
theorem pe_fld (he:PE X e ta) (hb:attributeBase e f X.env (eval e X.env)=eval e X.env):PE X (.Attribute e f pos) (tFld X.K ta f):=by
  intro pins s σ H Q I h
  refine attr_of hb (thn (he pins s σ H _ I h) fun u s1 ⟨x,H1,I1,rx,a,C,dx,fs,v,ex,ea,c,n,l,q⟩=>?_)
  subst ex
  obtain rfl:u=Value.ref a:=rx
  exact getattr_ok I1 ea c n l fun u' s2 I2 ru=>⟨v,H1,I2,ru,q⟩
theorem ps_fld (ha:PE X o ta) (hv:PE X value tv) (hs:swapsWith value (some (.Attribute o f pos')) pos.line X.env=pure false):PS X (.Assign [.Attribute o f pos'] value pos) (sFld X.K ta tv f):=by
  intro pins s σ H D I h
  refine plainObj_wpAny_Assign_Attribute (thn (hv pins s σ H _ I h) fun u s1 ⟨y,H1,I1,ry,q⟩=>thn (ha pins s1 σ H1 _ I1 q) fun ov s2 ⟨x,H2,I2,rx,a,C,dx,fs,ex,ea,c,n,l,q2⟩=>?_) hs
  subst ex
  obtain rfl:ov=Value.ref a:=rx
  exact setattr_ok I2 ea c n l ry fun s3 I3=>⟨σ,_,I3,q2⟩
end

section
variable {X:Cx} {pins:List (Addr×Obj)} {σ:St} {H:Hp} {s:Shared} {A:Around} {E:Value→Shared→Prop} {Q:Value→Shared→Prop} {c:Value} {b:Bool}
end
end L2

namespace L2
open PySem PySem.Spec PyProof.Rows

structure Room (k:Nat) (A:Around):Prop where
  hd:A.handled=none
  dp:A.depth+3*k+5<recursionLimit
  un:A.units+16*k+200<cLine
theorem Room.mono {j k:Nat} {A:Around} (r:Room k A) (h:j≤k):Room j A:=⟨r.hd,by have:=r.dp;omega,by have:=r.un;omega⟩
theorem Room.deeper {k:Nat} {A:Around} (r:Room (k+1) A) (env:Env):Room k (A.deeper env):=
  ⟨r.hd,by have:=r.dp;show A.depth+1+3*k+5<_;omega,by have:=r.un;show A.units+3+16*k+200<_;omega⟩
theorem make_depth {A:Around} {C:Addr} {us:List Value} {kw:List (Str×Value)}:(A.under (.builtin "type.__call__" ⟨.ref C::us,kw⟩)).depth=A.depth+1:=by
  first | rfl | simp [Around.under,Code.weight,Code.isCreation,Code.isGuard,Code.isCaller,Code.frames,Code.isFrame,guardIds]
theorem make_units {A:Around} {C:Addr} {us:List Value} {kw:List (Str×Value)}:(A.under (.builtin "type.__call__" ⟨.ref C::us,kw⟩)).units=A.units+1:=by
  first | rfl | simp [Around.under,Code.cUnits,Code.frames,Code.isFrame]
theorem Room.make {k:Nat} {A:Around} (r:Room (k+1) A) (C:Addr) (us:List Value) (kw:List (Str×Value)):Room k (A.under (.builtin "type.__call__" ⟨.ref C::us,kw⟩)):=
  ⟨r.hd,by have:=r.dp;rw [make_depth];omega,by have:=r.un;rw [make_units];omega⟩
theorem Room.depth {k:Nat} {A:Around} (r:Room k A):A.depth<recursionLimit:=by have:=r.dp;omega
theorem Room.units {k:Nat} {A:Around} (r:Room k A):A.units+64<cLine:=by have:=r.un;omega
noncomputable def tNil:TA:=fun _ H Q=>Q [] H
noncomputable def tCons (ta:TE) (tr:TA):TA:=fun σ H Q=>ta σ H fun x H1=>tr σ H1 fun xs H2=>Q (x::xs) H2
section
variable {X:Cx} {e:Expr} {es:List Expr} {te:TE} {t:TA} {pos:Pos}
theorem pa_nil:PA X [] tNil:=fun _ _ _ _ H Q I h=>Calls.spliced_nil ⟨[],H,I,.nil,h⟩
theorem pa_cons (ha:PE X e te) (hr:PA X es t) (hs:autoParam (starEach (e::es) X.env=(false,eval e X.env)::starEach es X.env) au0_._auto_1):PA X (e::es) (tCons te t):=by
  intro pos pins s σ H Q I h
  rw [hs]
  show wpAny _ _ (spliced ((false,eval e X.env)::backTo pos (starEach es X.env))) _ _ s
  refine Calls.spliced_cons (thn (ha pins s σ H _ I h) fun u s1 ⟨x,H1,I1,r1,q1⟩=>?_)
  exact thn (hr pos pins s1 σ H1 _ I1 q1) fun us s2 ⟨xs,H2,I2,r2,q2⟩=>⟨x::xs,H2,I2,.cons r1 r2,q2⟩

noncomputable def tTup (t:TA):TE:=fun σ H Q=>t σ H fun xs H1=>xs.length≤sizeLine∧∀p,H1 p=none→Q (.ref p) (upd H1 p (.tup xs))
noncomputable def tLst (t:TA):TE:=fun σ H Q=>t σ H fun xs H1=>xs.length≤sizeLine∧∀p,H1 p=none→Q (.ref p) (upd H1 p (.lst xs))
theorem pe_tup {x1} (h:PA X es t):PE X (.Tuple es x1 pos) (tTup t):=by
  intro pins s σ H Q I hq
  refine wpAny_Tuple_spliced (thn (h pos pins s σ H _ I hq) fun us s1 ⟨xs,H1,I1,r,z,q⟩=>⟨by rw [← r.length];exact z,?_⟩)
  have hf:H1 s1.heap.objs.size=none:=I1.hok.fresh (Nat.le_refl _)
  refine ⟨.ref s1.heap.objs.size,upd H1 s1.heap.objs.size (.tup xs),I1.laid (t':=s1.toks) (fun b u e=>Heap.get?_push_of_some _ e) (Nat.le_refl _) ?_,rfl,q _ hf⟩
  exact ⟨z,us,r,⟨_,Heap.get?_push_size _ rfl,rfl,_,rfl⟩⟩
theorem pe_lst (h:PA X es t):PE X (.List es pos) (tLst t):=by
  intro pins s σ H Q I hq
  refine wpAny_List_spliced (thn (h pos pins s σ H _ I hq) fun us s1 ⟨xs,H1,I1,r,z,q⟩=>⟨by rw [← r.length];exact z,?_⟩)
  have hf:H1 s1.heap.objs.size=none:=I1.hok.fresh (Nat.le_refl _)
  refine ⟨.ref s1.heap.objs.size,upd H1 s1.heap.objs.size (.lst xs),I1.laid (t':=s1.toks) (fun b u e=>Heap.get?_push_of_some _ e) (Nat.le_refl _) ?_,rfl,q _ hf⟩
  exact ⟨z,us,0,r,Heap.get?_push_size _ rfl⟩
end

noncomputable abbrev Sp:=List V→Hp→VK→XK→Prop
noncomputable abbrev CXT:=List Env→Hp→Shared→XK→Value→Shared→Prop

structure Env0 (P:Program) (w:World) (K:PySem.W.Frag) (mg:Str→Option Value) (base:Heap) (A:Around) (outer:List Env) (s:Shared) (H:Hp):Prop where
  frames:A.frames=some outer
  mod:Mod K mg base
  bs:∀b o,base.get? b=some o→s.heap.get? b=some o∧H b=none
  bsz:base.objs.size≤s.heap.objs.size
  funs:s.heap.FunFrames base outer
  frf:∀b∈frs outer,H b=none
  hok:HOk P w H s.heap
  bare:AllBare s.gens
noncomputable def CE (outer:List Env) (P:Program) (w:World) (H:Hp) (s:Shared) (Q:VK) (u:Value) (s':Shared):Prop:=
  ∃v H',s'.os=s.os∧AllBare s'.gens∧Un (frs outer) [] H H' s.heap s'.heap∧HOk P w H' s'.heap∧RelV v u∧Q v H'
noncomputable def CR (CX:CXT) (outer:List Env) (P:Program) (w:World) (H:Hp) (s:Shared) (Q:VK) (E:XK) (r:Result) (s':Shared):Prop:=
  match r with
  | .ok (.ret u)=>CE outer P w H s Q u s'
  | .ok _=>False
  | .error e=>CX outer H s E e s'
structure FnOk (P:Program) (w:World) (K:PySem.W.Frag) (mg:Str→Option Value) (base:Heap) (CX:CXT) (k:Nat) (f:Addr) (fd:FuncData) (ps:List Str) (sp:Sp):Prop where
  len:∀vs H Q E,sp vs H Q E→vs.length=ps.length
  run:∀(A:Around) (outer:List Env) (s:Shared) (H:Hp) (args:Args) (us:List Value) (vs:List V) (Q:VK) (E:XK),Room k A→Env0 P w K mg base A outer s H→BindsTo s fd args (ps.zip us)→Vals vs us→sp vs H Q E →
    codeAny (model P w) A (.call (.ref f) args) (CR CX outer P w H s Q E) s
theorem Env0.make {P:Program} {w:World} {K:PySem.W.Frag} {mg:Str→Option Value} {base:Heap} {A:Around} {outer:List Env} {s:Shared} {H:Hp} (e:Env0 P w K mg base A outer s H) (C:Addr) (us:List Value) (kw:List (Str×Value)) :
    Env0 P w K mg base (A.under (.builtin "type.__call__" ⟨.ref C::us,kw⟩)) outer s H:=⟨by first | exact e.frames | (simpa [Around.under,Code.envs,Code.isFrame,pushEnvs] using e.frames),e.mod,e.bs,e.bsz,e.funs,e.frf,e.hok,e.bare⟩
section
variable {X:Cx} {pins:List (Addr×Obj)} {σ:St} {H:Hp} {s s':Shared}
theorem Inv.env0 (I:Inv X pins σ H s):Env0 X.prog X.w X.K X.mg X.base X.A X.stack s H:=
  ⟨I.ok.frames,I.ok.mod,I.bs,Nat.le_trans I.ok.bsz I.sz,I.stack,I.stkFree,I.hok,I.bare⟩
theorem Inv.after {Q:VK} {u:Value} (I:Inv X pins σ H s) (h:CE X.stack X.prog X.w H s Q u s'):EP X pins σ Q u s':=by
  obtain ⟨v,H',os,bare,un,hok,r,q⟩:=h
  obtain ⟨hh,g,d,t,os'⟩:=s'
  obtain rfl:os'=s.os:=os
  exact ⟨v,H',I.call (h':=hh) (g':=g) (d':=d) (t':=t) (ch:=[]) un hok bare (fun b z=>absurd z (by simp)),r,q⟩
end

noncomputable def tCall (sp:Sp) (dvs:List V) (E:XK) (t:TA):TE:=fun σ H Q=>t σ H fun vs H1=>sp (vs++dvs) H1 Q E
noncomputable def tMeth (C:Addr) (m:Str) (sp:Sp) (dvs:List V) (E:XK) (ta:TE) (t:TA):TE:=fun σ H Q=>ta σ H fun x H1=>∃a dx fs,x=.ref a∧H1 a=some (.ins C dx fs)∧fs.lookup m=none ∧
  t σ H1 fun vs H2=>sp (x::(vs++dvs)) H2 Q E
noncomputable def tMake (C:Addr) (sp:Sp) (dvs:List V) (E:XK) (t:TA):TE:=fun σ H Q=>t σ H fun vs H1=>∀x dx,H1 x=none→H1 dx=none→dx≠x →
  sp (.ref x::(vs++dvs)) (upd (upd H1 dx (.own x)) x (.ins C dx [])) (fun v H2=>v=.non∧Q (.ref x) H2) E

noncomputable def Binds (K:PySem.W.Frag) (fd:FuncData) (ps:List Str) (ds:List Value):Prop:=
  ∀(s:Shared) (us:List Value),K.In s.heap→(us++ds).length=ps.length→BindsTo s fd ⟨us,[]⟩ (ps.zip (us++ds))
theorem Binds.all {K:PySem.W.Frag} {fd:FuncData} {ps:List Str} (h:∀us:List Value,us.length=ps.length→bindArgs fd ⟨us,[]⟩=pure (ps.zip us)):Binds K fd ps []:=fun s us _ hl=>by
  rw [List.append_nil] at hl ⊢
  exact .of_eq (h us hl)

noncomputable def Passes (CX:CXT) (X:Cx) (E:XK):Prop:=∀(pins:List (Addr×Obj)) (σ:St) (H:Hp) (s:Shared) (e:Value) (s':Shared),Inv X pins σ H s→CX X.stack H s E e s'→X.xe e s'

section
variable {X:Cx} {CX:CXT} {k:Nat} {f C:Addr} {fd:FuncData} {ps:List Str} {sp:Sp} {dvs:List V} {ds:List Value} {E:XK} {x m:Str} {p pos apos:Pos} {e o:Expr} {es:List Expr} {ta:TE} {t:TA}

theorem run_fn {pins:List (Addr×Obj)} {σ:St} {H:Hp} {s:Shared} {Q:VK} {us:List Value} {vs:List V} (F:FnOk X.prog X.w X.K X.mg X.base CX k f fd ps sp) (hr:Room k X.A) (hb:Binds X.K fd ps ds) (hd:Vals dvs ds) (hx:Passes CX X E)
    (I:Inv X pins σ H s) (r:Vals vs us) (h:sp (vs++dvs) H Q E):wpAny (model X.prog X.w) X.A (call (.ref f) us) (EP X pins σ Q) X.xe s:=by
  have r2:Vals (vs++dvs) (us++ds):=r.append hd
  have hl:(us++ds).length=ps.length:=by rw [← r2.length];exact F.len _ _ _ _ h
  refine wpAny_call (codeAny_mono (F.run X.A X.stack s H ⟨us,[]⟩ (us++ds) (vs++dvs) Q E hr I.env0 (hb s us I.kIn hl) r2 h) fun r s' hq=>?_)
  cases r with
  | error e=>exact hx pins σ H s e s' I hq
  | ok fl=>
    cases fl with
    | ret u=>exact I.after hq
    | next=>exact False.elim hq
    | brk=>exact False.elim hq
    | cont=>exact False.elim hq

theorem pe_call (F:FnOk X.prog X.w X.K X.mg X.base CX k f fd ps sp) (hr:Room k X.A) (hg:Gl X x) (hm:X.mg x=some (.ref f)) (hk:PySem.W.keepIn X.K (.ref f)=true) (hb:Binds X.K fd ps ds) (hd:Vals dvs ds) (hx:Passes CX X E)
    (ha:PA X (e::es) t) (hdb:autoParam ((x==("__debug__":Str))=false) au1_._auto_1) (he:autoParam (starEach (e::es) X.env=(false,eval e X.env)::starEach es X.env) au0_._auto_1) (hpl:autoParam ((backTo pos (starEach es X.env)).any (·.1)=false) au0_._auto_1) :
    PE X (.Call (.Name x p) (e::es) [] pos) (tCall sp dvs E t):=by
  intro pins s σ H Q I h
  refine wpAny_Call_Name_kw (ld_glob I hg hm ?_ hdb)
  refine PySem.W.callWith_K (h₀:=X.base) I.ok.mod.kin hk (thn (ha pos pins s σ H _ I h) fun us s1 ⟨vs,H1,I1,r,q⟩=>⟨I1.kIn,?_⟩) he hpl
  exact run_fn F hr hb hd hx I1 r q
theorem pe_meth {pl:Sem Bool} (he:PE X o ta) (c:Cls X.K C) (hm:Meth X.K C m f) (F:FnOk X.prog X.w X.K X.mg X.base CX k f fd ps sp) (hr:Room k X.A) (hb:Binds X.K fd ps ds) (hd:Vals dvs ds) (hx:Passes CX X E) (ha:PA X (e::es) t)
    (hst:autoParam (starEach (e::es) X.env=(false,eval e X.env)::starEach es X.env) au0_._auto_1) (hpl:autoParam ((backTo pos (starEach es X.env)).any (·.1)=false) au0_._auto_1)
    (ht:autoParam (eval (.Call (.Attribute o m apos) (e::es) [] pos) X.env=(do
      let ov ← eval o X.env
      standAt apos.atName
      let (f,first) ← holding [ov] (getMethod ov m pl)
      callWith pos f first (backTo pos (starEach (e::es) X.env)) (backToKw pos (keywordEach [] X.env)))) au0_._auto_1) :
    PE X (.Call (.Attribute o m apos) (e::es) [] pos) (tMeth C m sp dvs E ta t):=by
  intro pins s σ H Q I h
  refine PySem.W.methodCall_KW (pl:=pl) (thn (he pins s σ H _ I h) fun u s1 ⟨x,H1,I1,rx,a,dx,fs,ex,ea,l,q⟩=>?_) ht
  subst ex
  obtain rfl:u=Value.ref a:=rx
  refine getmeth_ok I1 ea c hm l ?_
  refine PySem.W.callWith_K (first:=[.ref a]) (h₀:=X.base) I.ok.mod.kin hm.kp (thn (ha pos pins s1 σ H1 _ I1 q) fun us s2 ⟨vs,H2,I2,r,q2⟩=>⟨I2.kIn,?_⟩) hst hpl
  exact run_fn (us:=.ref a::us) (vs:=.ref a::vs) F hr hb hd hx I2 (.cons rfl r) q2
theorem pe_meth0 {pl:Sem Bool} (he:PE X o ta) (c:Cls X.K C) (hm:Meth X.K C m f) (F:FnOk X.prog X.w X.K X.mg X.base CX k f fd ps sp) (hr:Room k X.A) (hb:Binds X.K fd ps ds) (hd:Vals dvs ds) (hx:Passes CX X E)
    (ht:autoParam (eval (.Call (.Attribute o m apos) [] [] pos) X.env=(do
      let ov ← eval o X.env
      standAt apos.atName
      let (f,first) ← holding [ov] (getMethod ov m pl)
      callWith pos f first (backTo pos (starEach [] X.env)) (backToKw pos (keywordEach [] X.env)))) au0_._auto_1) :
    PE X (.Call (.Attribute o m apos) [] [] pos) (tMeth C m sp dvs E ta tNil):=by
  intro pins s σ H Q I h
  refine PySem.W.methodCall_KW (pl:=pl) (thn (he pins s σ H _ I h) fun u s1 ⟨x,H1,I1,rx,a,dx,fs,ex,ea,l,q⟩=>?_) ht
  subst ex
  obtain rfl:u=Value.ref a:=rx
  refine getmeth_ok I1 ea c hm l ?_
  exact PySem.W.callWith_K0 (first:=[.ref a]) I1.kIn hm.kp (run_fn (us:=[.ref a]) (vs:=[.ref a]) F hr hb hd hx I1 (.cons rfl .nil) q)

structure Mk (K:PySem.W.Frag) (C f:Addr):Prop where
  makes:PySem.W.makesIn K C=true
  init:PySem.W.findIn K (.ref C) "__init__"=some (some (.ref f))
  fn:PySem.W.isFn K (.ref f)=true
  kp:PySem.W.keepIn K (.ref C)=true

theorem run_make {pins:List (Addr×Obj)} {σ:St} {H:Hp} {s:Shared} {Q:VK} {us:List Value} {vs:List V} (M:Mk X.K C f) (F:FnOk X.prog X.w X.K X.mg X.base CX k f fd ps sp) (hr:Room (k+1) X.A) (hb:Binds X.K fd ps ds) (hd:Vals dvs ds)
    (hx:Passes CX X E) (I:Inv X pins σ H s) (r:Vals vs us)
    (h:∀x dx,H x=none→H dx=none→dx≠x→sp (.ref x::(vs++dvs)) (upd (upd H dx (.own x)) x (.ins C dx [])) (fun v H2=>v=.non∧Q (.ref x) H2) E) :
    wpAny (model X.prog X.w) X.A (call (.ref C) us) (EP X pins σ Q) X.xe s:=by
  have hq:=h (s.heap.objs.size+1) s.heap.objs.size (I.hok.fresh (Nat.le_succ _)) (I.hok.fresh (Nat.le_refl _)) (Nat.ne_of_lt (Nat.lt_succ_self _))
  have I2:=Inv.made (C:=C) I
  have r2:Vals (V.ref (s.heap.objs.size+1)::(vs++dvs)) (Value.ref (s.heap.objs.size+1)::(us++ds)):=.cons rfl (r.append hd)
  have hl:(Value.ref (s.heap.objs.size+1)::us++ds).length=ps.length:=by
    have e:=r2.length
    rw [F.len _ _ _ _ hq] at e
    exact e.symm
  refine wpAny_call (make_map (f:=f) I.kIn M.makes M.init (beq_iff_eq.mp M.fn) (codeAny_mono (F.run _ X.stack _ _ ⟨Value.ref (s.heap.objs.size+1)::us,[]⟩ (Value.ref (s.heap.objs.size+1)::(us++ds)) _ _ E (hr.make C us [])
    (I2.env0.make C us []) (hb _ (Value.ref (s.heap.objs.size+1)::us) I2.kIn hl) r2 hq) fun r s' hq'=>?_))
  cases r with
  | error e=>exact hx pins σ _ _ e s' I2 hq'
  | ok fl=>
    cases fl with
    | ret u=>
      obtain ⟨v,H',I3,rv,ev,q3⟩:=I2.after hq'
      subst ev
      exact ⟨rv,⟨V.ref (s.heap.objs.size+1),H',I3,rfl,q3⟩⟩
    | next=>exact False.elim hq'
    | brk=>exact False.elim hq'
    | cont=>exact False.elim hq'
theorem pe_make (M:Mk X.K C f) (F:FnOk X.prog X.w X.K X.mg X.base CX k f fd ps sp) (hr:Room (k+1) X.A) (hg:Gl X x) (hm:X.mg x=some (.ref C)) (hb:Binds X.K fd ps ds) (hd:Vals dvs ds) (hx:Passes CX X E)
    (ha:PA X (e::es) t) (hdb:autoParam ((x==("__debug__":Str))=false) au1_._auto_1) (he:autoParam (starEach (e::es) X.env=(false,eval e X.env)::starEach es X.env) au0_._auto_1) (hpl:autoParam ((backTo pos (starEach es X.env)).any (·.1)=false) au0_._auto_1) :
    PE X (.Call (.Name x p) (e::es) [] pos) (tMake C sp dvs E t):=by
  intro pins s σ H Q I h
  refine wpAny_Call_Name_kw (ld_glob I hg hm ?_ hdb)
  refine PySem.W.callWith_K (h₀:=X.base) I.ok.mod.kin M.kp (thn (ha pos pins s σ H _ I h) fun us s1 ⟨vs,H1,I1,r,q⟩=>⟨I1.kIn,?_⟩) he hpl
  exact run_make M F hr hb hd hx I1 r q
end

section
variable {X:Cx} {CX:CXT} {k:Nat} {f C:Addr} {fd:FuncData} {ps ks:List Str} {sp:Sp} {E:XK} {x m:Str} {p pos apos kpos:Pos} {e o:Expr} {es:List Expr} {kws:List Keyword} {te ta:TE} {t tk:TA} {nm:Option Str}
variable {g:List Value→List Value→List Value} {gV:List V→List V→List V}
end

structure FnScope (N P:List Str) (sc:Scope):Prop where
  kind:sc.kind=.function
  co:sc.isCoroutine=false
  gen:sc.isGenerator=false
  nd:N.Nodup
  pre:N.take P.length=P
  par:∀x∈P,sc.names.lookup x=some .local∨sc.names.lookup x=some .cell
  nofree:∀y∈sc.names,y.2≠.free

theorem bindL_out {kindOf:Str→Option NameKind} {x:Str}:∀{binds:List (Str×Value)} {m:Str→Option Value},(∀v,(x,v)∉binds)→bindL kindOf binds m x=m x
  | [],_,_=>rfl
  | (n,v)::r,m,h=>by
    unfold bindL
    rw [bindL_out fun w hw=>h w (List.mem_cons_of_mem _ hw)]
    split
    · have:x≠n:=by rintro rfl;exact h v List.mem_cons_self
      simp [this]
    · rfl
theorem bindC_out {kindOf:Str→Option NameKind} {x:Str}:∀{binds:List (Str×Value)} {m:Str→Option Value},(∀v,(x,v)∉binds)→bindC kindOf binds m x=m x
  | [],_,_=>rfl
  | (n,v)::r,m,h=>by
    unfold bindC
    rw [bindC_out fun w hw=>h w (List.mem_cons_of_mem _ hw)]
    split
    · rfl
    · have:x≠n:=by rintro rfl;exact h v List.mem_cons_self
      simp [this]
theorem bindL_get {kindOf:Str→Option NameKind} {x:Str} {v:Value}:∀{P:List Str} {vs:List Value} {i:Nat} {m:Str→Option Value},P.Nodup→P[i]?=some x→vs[i]?=some v→kindOf x=some .local →
    bindL kindOf (P.zip vs) m x=some v
  | [],_,_,_,_,h,_,_=>by simp at h
  | _::_,[],_,_,_,_,h,_=>by simp at h
  | p::P,w::vs,0,m,nd,h1,h2,hk=>by
    simp at h1 h2;subst h1;subst h2
    show bindL kindOf ((p,w)::P.zip vs) m p=_
    unfold bindL
    rw [bindL_out fun v hv=>(List.nodup_cons.mp nd).1 (List.of_mem_zip hv).1,if_pos hk]
    simp
  | p::P,w::vs,i+1,m,nd,h1,h2,hk=>by
    show bindL kindOf ((p,w)::P.zip vs) m x=_
    unfold bindL
    exact bindL_get (i:=i) (List.nodup_cons.mp nd).2 (by simpa using h1) (by simpa using h2) hk
theorem bindC_get {kindOf:Str→Option NameKind} {x:Str} {v:Value}:∀{P:List Str} {vs:List Value} {i:Nat} {m:Str→Option Value},P.Nodup→P[i]?=some x→vs[i]?=some v→kindOf x≠some .local →
    bindC kindOf (P.zip vs) m x=some v
  | [],_,_,_,_,h,_,_=>by simp at h
  | _::_,[],_,_,_,_,h,_=>by simp at h
  | p::P,w::vs,0,m,nd,h1,h2,hk=>by
    simp at h1 h2;subst h1;subst h2
    show bindC kindOf ((p,w)::P.zip vs) m p=_
    unfold bindC
    rw [bindC_out fun v hv=>(List.nodup_cons.mp nd).1 (List.of_mem_zip hv).1,if_neg hk]
    simp
  | p::P,w::vs,i+1,m,nd,h1,h2,hk=>by
    show bindC kindOf ((p,w)::P.zip vs) m x=_
    unfold bindC
    exact bindC_get (i:=i) (List.nodup_cons.mp nd).2 (by simpa using h1) (by simpa using h2) hk

noncomputable def start (N:List Str) (vs:List V):St:=vs.map some++List.replicate (N.length-vs.length) none

noncomputable def cxOf (CX:CXT) (P:Program) (w:World) (K:PySem.W.Frag) (mg:Str→Option Value) (base:Heap) (N:List Str) (qual:Str) (scope:Scope) (f:Addr) (cd:Value) (A:Around) (outer:List Env) (s:Shared) (H:Hp) (E:XK):Cx where
  prog:=P
  w:=w
  K:=K
  mg:=mg
  base:=base
  A:=A.deeper (envOfC qual scope s.heap.objs.size f cd)
  N:=N
  s₀:=s
  H₀:=H
  env:=envOfC qual scope s.heap.objs.size f cd
  outer:=outer
  stack:=envOfC qual scope s.heap.objs.size f cd::outer
  ex:=[]
  calm:=true
  fn:=fun _=>true
  pn:=[]
  xe:=fun e s'=>wpAny (model P w) (A.deeper (envOfC qual scope s.heap.objs.size f cd)) (leaving (envOfC qual scope s.heap.objs.size f cd) e) (fun _ s''=>CX outer H s E e s'') (fun e' s''=>CX outer H s E e' s'') s'

theorem cell_has {sc:Scope} {n:Nat} {x:Str} (h:sc.names.lookup x=some .cell):∃c,(cellsFrom n sc.names []).lookup x=some c:=by
  have q:=PySem.W.cellsFrom_some sc.names n [] (.inl h)
  exact Option.isSome_iff_exists.mp q

theorem inv_start {CX:CXT} {P:Program} {w:World} {K:PySem.W.Frag} {mg:Str→Option Value} {base:Heap} {N ps:List Str} {qual:Str} {scope:Scope} {f:Addr} {cd:Value} {A:Around} {outer:List Env} {s s1:Shared} {H:Hp} {E:XK} {us:List Value} {vs:List V}
    (S:FnScope N ps scope) (hd:A.handled=none) (e0:Env0 P w K mg base A outer s H) (hl:vs.length=ps.length) (r:Vals vs us)
    (x:InCallC s s.heap.objs.size (bindL (envOfC qual scope s.heap.objs.size f cd).kindOf (ps.zip us) fun _=>none) (cellsFrom (s.heap.objs.size+1) scope.names []) (bindC (envOfC qual scope s.heap.objs.size f cd).kindOf (ps.zip us) fun _=>none) s1) :
    Inv (cxOf CX P w K mg base N qual scope f cd A outer s H E) [] (start N vs) H s1:=by
  have hpl:ps.length≤N.length:=by have:=congrArg List.length S.pre;rw [List.length_take] at this;omega
  obtain ⟨h1,tk,rfl,hk⟩:=x.done
  have noA:∀b:Addr,b∉(cxOf CX P w K mg base N qual scope f cd A outer s H E).ex:=fun b z=>absurd (show b∈([]:List Addr) from z) (by simp)
  refine ⟨⟨e0.mod,S.kind,rfl,rfl,Nat.le_refl _,fun y z c h1 h2=>?_,fun y hy=>?_,fun y c _ h=>?_,fun _=>hd,Around.frames_deeper e0.frames,.inr ⟨rfl,rfl⟩,fun b z=>absurd z (noA b),e0.bs,e0.bsz,fun b _ _=>noA b,fun b z=>absurd z (noA b),e0.funs,e0.frf⟩,
    rfl,e0.bare,Un.kept hk,⟨_,x.toInCall.ns,fun i y v h1 h2 h3=>?_⟩,fun y c h=>⟨_,x.cell y c h⟩,e0.hok.fresh (Nat.le_refl _),fun y c h=>?_,fun p hp=>absurd (show p∈([]:List (Addr×Obj)) from hp) (by simp),e0.hok.kept hk,?_⟩
  · exact name_of_addr x.apart (PySem.mem_of_lookup h1) (PySem.mem_of_lookup h2)
  · have hy:scope.names.lookup y=some .cell∨scope.names.lookup y=some .free:=hy
    rcases hy with hy | hy
    · exact cell_has hy
    · exact absurd rfl (S.nofree _ (PySem.mem_of_lookup hy))
  · exact Nat.le_of_lt (x.above y c (PySem.mem_of_lookup h))
  · have hi:i<vs.length:=by
      unfold start at h2
      by_cases hi:i<vs.length
      · exact hi
      · rw [List.getElem?_append_right (by simpa using hi)] at h2
        rw [List.getElem?_replicate] at h2
        split at h2 <;> cases h2
    have ha:vs[i]?=some v:=by
      unfold start at h2
      rw [List.getElem?_append_left (by simpa using hi),List.getElem?_map] at h2
      cases e:vs[i]? with
      | none=>rw [e] at h2;cases h2
      | some a=>rw [e] at h2;cases h2;rfl
    obtain ⟨u,hu,rv⟩:=r.get ha
    have hp:ps[i]?=some y:=by
      rw [← S.pre,List.getElem?_take_of_lt (by omega)];exact h1
    have ndP:ps.Nodup:=by rw [← S.pre];exact S.nd.sublist (List.take_sublist _ _)
    refine ⟨u,rv,?_⟩
    rcases S.par y (List.mem_of_getElem? hp) with k | k
    · exact .inl ⟨k,bindL_get ndP hp hu k⟩
    · obtain ⟨c,e⟩:=cell_has (n:=s.heap.objs.size+1) k
      refine .inr ⟨.inl k,c,e,?_⟩
      have q:=x.cell y c e
      rw [bindC_get ndP hp hu (by show scope.names.lookup y≠_;rw [k];decide)] at q
      exact q
  · exact e0.hok.fresh (Nat.le_of_lt (x.above y c (PySem.mem_of_lookup h)))
  · unfold start
    show _=N.length
    rw [List.length_append,List.length_map,List.length_replicate]
    omega

theorem fn_of {CX:CXT} {P:Program} {w:World} {K:PySem.W.Frag} {mg:Str→Option Value} {base:Heap} {k:Nat} {f:Addr} {name qual:Str} {params:Arguments} {body:List Stmt} {scope:Scope} {dV kV doc pm cdv ct oc:Value} {an od:Option Addr}
    {osl:Array (Option Value)} {N ps:List Str} {sp:Sp} (lk:K.lookup f=some ⟨oc,od,.func (PySem.W.fnOf name qual params body scope dV kV doc pm an cdv ct),osl⟩) (hcd:PySem.W.codeIn K cdv qual=true) (S:FnScope N ps scope)
    (len:∀vs H Q E,sp vs H Q E→vs.length=ps.length)
    (hbody:∀(A:Around) (outer:List Env) (s:Shared) (H:Hp) (vs:List V) (Q:VK) (E:XK),Room k (A.deeper (envOfC qual scope s.heap.objs.size f cdv))→sp vs H Q E →
      ∃t,PSs (cxOf CX P w K mg base N qual scope f cdv A outer s H E) body t∧t { nx:=fun _ H'=>Q .non H',rt:=Q } (start N vs) H) :
    FnOk P w K mg base CX (k+1) f (PySem.W.fnOf name qual params body scope dV kV doc pm an cdv ct) ps sp:=by
  refine ⟨len,fun A outer s H args us vs Q E hr e0 hb r hsp=>?_⟩
  have hl:=len _ _ _ _ hsp
  have KX:K.In s.heap:=e0.mod.kin.keeps fun b o e=>(e0.bs b o e).1
  have lim:s.heap.NoLimit:=e0.mod.nolimit.keeps fun b o e=>(e0.bs b o e).1
  have hkind:∀y∈ps.zip us,scope.names.lookup y.1=some .local∨(scope.names.lookup y.1=some .cell∧((cellsFrom (s.heap.objs.size+1) scope.names []).lookup y.1).isSome=true):=fun ⟨n,v⟩ hy=>by
    rcases S.par n (List.of_mem_zip hy).1 with q | q
    · exact .inl q
    · exact .inr ⟨q,PySem.W.cellsFrom_some _ _ _ (.inl q)⟩
  refine codeAny_call_function hr.depth (KX _ _ lk) rfl S.co S.gen rfl (PySem.W.codeRec_of KX hcd) (hb _ _ _ _ ?_)
  refine wpAny_newFunctionEnv_cells S.kind hkind fun env he s1 x=>?_
  subst he
  refine ⟨lim.keeps x.toInCall.keep,codeAny_func ?_⟩
  obtain ⟨t,ht,hq⟩:=hbody A outer s H vs Q E (hr.deeper _) hsp
  have I:Inv (cxOf CX P w K mg base N qual scope f cdv A outer s H E) [] (start N vs) H s1:=inv_start S hr.hd e0 hl r x
  refine wpAny_mono (ht [] s1 (start N vs) H _ I hq) (fun fl s' hs=>?_) fun e s' hs=>hs
  have fin:∀{σ':St} {H':Hp} {v:V} {u:Value},Inv (cxOf CX P w K mg base N qual scope f cdv A outer s H E) [] σ' H' s'→RelV v u→Q v H'→CE outer P w H s Q u s':=
    fun {σ' H' v u} J rv q=>⟨v,H',J.os,J.bare,J.base,J.hok,rv,q⟩
  cases fl with
  | ret u=>
    obtain ⟨v,σ',H',J,rv,q⟩:=hs
    exact fin J rv q
  | next=>
    obtain ⟨σ',H',J,q⟩:=hs
    exact fin (v:=V.non) (u:=Value.none) J rfl q
  | brk=>
    obtain ⟨_,_,_,q⟩:=hs
    exact False.elim q
  | cont=>
    obtain ⟨_,_,_,q⟩:=hs
    exact False.elim q
end L2

namespace L2
open PySem PySem.Spec PyProof.Rows
section
variable {X:Cx} {x:Str} {p pos:Pos} {e:Expr} {es:List Expr} {t:TA} {id T:String} {r:List V→Hp→VK→Prop}

noncomputable def tCB (r:List V→Hp→VK→Prop) (t:TA):TE:=fun σ H Q=>t σ H fun vs H1=>r vs H1 Q
theorem pe_callB (hc:CallR X (.builtin id) r) (hg:Gl X x) (hm:X.mg x=none) (hv:bootBuiltins x=some (.builtin id)) (ha:PA X (e::es) t) (hn:autoParam (x ≠ "__name__") au1_._auto_1) (hdb:autoParam ((x==("__debug__":Str))=false) au1_._auto_1)
    (he:autoParam (starEach (e::es) X.env=(false,eval e X.env)::starEach es X.env) au0_._auto_1) (hpl:autoParam ((backTo pos (starEach es X.env)).any (·.1)=false) au0_._auto_1):PE X (.Call (.Name x p) (e::es) [] pos) (tCB r t):=by
  intro pins s σ H Q I h
  refine wpAny_Call_Name_kw (ld_blt I hg hm hv ?_ hn hdb)
  exact PyProof.Rows.callWith_builtin1 (thn (ha pos pins s σ H _ I h) fun us s1 ⟨vs,H1,I1,r1,q1⟩=>hc pins s1 σ H1 vs us Q I1 r1 q1) he hpl
theorem pe_callTy (hc:CallR X (.type T) r) (hg:Gl X x) (hm:X.mg x=none) (hv:bootBuiltins x=some (.type T)) (ha:PA X (e::es) t) (hn:autoParam (x ≠ "__name__") au1_._auto_1) (hdb:autoParam ((x==("__debug__":Str))=false) au1_._auto_1)
    (he:autoParam (starEach (e::es) X.env=(false,eval e X.env)::starEach es X.env) au0_._auto_1) (hpl:autoParam ((backTo pos (starEach es X.env)).any (·.1)=false) au0_._auto_1):PE X (.Call (.Name x p) (e::es) [] pos) (tCB r t):=by
  intro pins s σ H Q I h
  refine wpAny_Call_Name_kw (ld_blt I hg hm hv ?_ hn hdb)
  exact PyProof.Rows.callWith_type1 (thn (ha pos pins s σ H _ I h) fun us s1 ⟨vs,H1,I1,r1,q1⟩=>hc pins s1 σ H1 vs us Q I1 r1 q1) he hpl
end
end L2

namespace HT
open PySem PyProof.Rows

section
open PySem.SeqAt
open PySem.AutoSeq1 (wpAny_loadPart')
open PySem.MeetsSeq PySem.MeetsSeq2 PySem.MeetsSeq3

end

section
variable {prog:Program} {w:World} {A:Around} {E:Value→Shared→Prop} {s:Shared}

theorem cat_tup {t b:Addr} {vs ws:List Value} {Q:Value→Shared→Prop} (ht:IsTup s.heap t vs.toArray) (hb:IsTup s.heap b ws.toArray) (hv:vs≠[])
    (h1:ws=[]→Q (.ref t) s) (h2:ws≠[]→Q (.ref s.heap.objs.size) { s with heap:=s.heap.push { cls:=.type "tuple",data:=.seq (vs++ws).toArray } })
    (hsz:vs.length+ws.length≤sizeLine):wpAny (model prog w) A (binaryOp .Add (.ref t) (.ref b)) Q E s:=by
  obtain ⟨⟨cls,dd,data,sl⟩,ho,hc,n,hd⟩:=id ht
  obtain ⟨⟨cls2,dd2,data2,sl2⟩,ho2,hc2,n2,hd2⟩:=id hb
  simp only at hc hd hc2 hd2
  subst hc hd hc2 hd2
  have e:vs.toArray++ws.toArray=(vs++ws).toArray:=by simp
  by_cases hw:ws=[]
  · exact concat_meets ⟨_,ho,rfl⟩ ⟨_,ho2,rfl⟩ noFill_tuple_add seq_tuple_add PySem.F.slot_tuple_add PySem.F.entry_tuple_add (PySem.F.args_tuple_add_2 _ _)
      (tuple_addW1 t b vs.toArray ws.toArray n n2 dd dd2 sl sl2 (by simpa using hv) (by simp [hw])) ⟨ho,ho2,h1 hw⟩
  · refine concat_meets ⟨_,ho,rfl⟩ ⟨_,ho2,rfl⟩ noFill_tuple_add seq_tuple_add PySem.F.slot_tuple_add PySem.F.entry_tuple_add (PySem.F.args_tuple_add_2 _ _)
      (tuple_addW2 t b vs.toArray ws.toArray n n2 dd dd2 sl sl2 (by simpa using hv) (by simpa using hw) (by rw [List.size_toArray,List.size_toArray];exact hsz)) ⟨ho,ho2,?_⟩
    rw [e]
    exact h2 hw

noncomputable def sIx (n d:Nat):Option Int→Nat
  | none=>d
  | some v=>if v<0 then (v+(n:Int)).toNat else min v.toNat n
theorem sIx_nat (n d k:Nat):sIx n d (some (k:Int))=min k n:=by
  show (if (k:Int)<0 then ((k:Int)+(n:Int)).toNat else min (k:Int).toNat n)=min k n
  rw [if_neg (by omega),Int.toNat_natCast]
end
end HT

namespace L2
open PySem PySem.Spec PyProof.Rows

noncomputable abbrev TO:=St→Hp→(Option Int→Hp→Prop)→Prop
noncomputable def PO (X:Cx) (e:Option Expr) (t:TO):Prop:=
  ∀(pins:List (Addr×Obj)) (s:Shared) (σ:St) (H:Hp) (Q:Option Int→Hp→Prop),Inv X pins σ H s→t σ H Q →
    wpAny (model X.prog X.w) X.A (evalPart e X.env) (fun u s'=>∃o H',Inv X pins σ H' s'∧IsPart u o∧Q o H') X.xe s
noncomputable def tNoPart:TO:=fun _ H Q=>Q none H
noncomputable def tPart (t:TE):TO:=fun σ H Q=>t σ H fun x H1=>∃i,x=.int i∧Q (some i) H1

theorem intsAre_of {ns:List Int}:∀{us:List Value},Vals (ns.map V.int) us→IntsAre us ns:=by
  induction ns with
  | nil=>intro us r;rw [List.map_nil] at r;cases r;exact .nil
  | cons n ns ih=>
    intro us r
    rw [List.map_cons] at r
    cases r with
    | cons r1 r2=>
      obtain ⟨t,e⟩:=r1
      subst e
      exact .cons n t (ih r2)

section
variable {X:Cx} {e:Expr} {te:TE} {lo hi:Option Expr} {tl th:TO} {pos p2:Pos}

theorem po_none:PO X none tNoPart:=by
  intro pins s σ H Q I h
  rw [evalPart_none]
  exact wpAny_pure ⟨none,H,I,.none,h⟩
theorem po_some (h:PE X e te):PO X (some e) (tPart te):=by
  intro pins s σ H Q I hw
  rw [evalPart_some]
  refine thn (h pins s σ H _ I hw) fun u s1 ⟨x,H1,I1,r1,q1⟩=>?_
  obtain ⟨i,rfl,q⟩:=q1
  obtain ⟨t,rfl⟩:=r1
  exact ⟨some i,H1,I1,.int i t,q⟩

noncomputable def SlR (X:Cx) (r:V→Option Int→Option Int→Hp→VK→Prop):Prop:=
  ∀(pins:List (Addr×Obj)) (s:Shared) (σ:St) (H:Hp) (x:V) (v vl vu:Value) (lo hi:Option Int) (sl:Addr) (Q:VK),Inv X pins σ H s→RelV x v→s.heap.IsSliceOf sl vl vu .none→IsPart vl lo→IsPart vu hi→r x lo hi H Q →
    ∃T id,typeLookup (.type T) "__getitem__"=pure (some (.builtin id))∧s.TypeIs v T∧wpAny (model X.prog X.w) X.A (getItem v (.ref sl)) (EP X pins σ Q) X.xe s
noncomputable def tSl (r:V→Option Int→Option Int→Hp→VK→Prop) (te:TE) (tl th:TO):TE:=fun σ H Q=>te σ H fun x H1=>tl σ H1 fun l H2=>th σ H2 fun u H3=>r x l u H3 Q
theorem pe_slice {r:V→Option Int→Option Int→Hp→VK→Prop} (hr:SlR X r) (he:PE X e te) (hl:PO X lo tl) (hu:PO X hi th):PE X (.Subscript e (.Slice lo hi none p2) pos) (tSl r te tl th):=by
  intro pins s σ H Q I h
  refine Subscript_ (thn (he pins s σ H _ I h) fun v s1 ⟨x,H1,I1,r1,q1⟩=>?_)
  refine wpAny_Slice (thn (hl pins s1 σ H1 _ I1 q1) fun vl s2 ⟨l,H2,I2,pl,q2⟩=>thn (hu pins s2 σ H2 _ I2 q2) fun vu s3 ⟨u,H3,I3,pu,q3⟩=>?_)
  rw [evalPart_none]
  refine wpAny_pure ?_
  have I4:Inv X pins σ H3 { s3 with heap:=s3.heap.push { cls:=.type "slice",data:=.fields #[vl,vu,.none] } }:=I3.kept (t':=s3.toks) fun b ob q=>Heap.get?_push_of_some _ q
  obtain ⟨T,id,hT,ht,hg⟩:=hr pins { s3 with heap:=s3.heap.push { cls:=.type "slice",data:=.fields #[vl,vu,.none] } } σ H3 x v vl vu l u s3.heap.objs.size Q I4 r1 (Heap.IsSliceOf.new ..) pl pu q3
  show wpAny (model X.prog X.w) X.A (subscriptTail e (.Slice lo hi none p2) v (.ref s3.heap.objs.size)) (EP X pins σ Q) X.xe { s3 with heap:=s3.heap.push { cls:=.type "slice",data:=.fields #[vl,vu,.none] } }
  exact tail_any (ops:=[.ref s3.heap.objs.size,v]) ht hT hg (by with_unfolding_all rfl)

noncomputable def cutV (xs:List V) (lo hi:Option Int):List V:=(xs.drop (HT.sIx xs.length 0 lo)).take (HT.sIx xs.length xs.length hi-HT.sIx xs.length 0 lo)
theorem cutV_length (xs:List V) (lo hi:Option Int):(cutV xs lo hi).length≤xs.length:=by
  unfold cutV
  rw [List.length_take,List.length_drop]
  omega
noncomputable def rCatT (K:PySem.W.Frag):R2:=fun x y H Q=>∃a b xs ys,x=.ref a∧y=.ref b∧SqT K H a xs∧SqT K H b ys∧xs≠[]∧xs.length+ys.length≤sizeLine ∧
  (ys=[]→Q (.ref a) H)∧(ys≠[]→∀p,H p=none→Q (.ref p) (upd H p (.tup (xs++ys))))
theorem Vals.nil_iff {xs:List V} {us:List Value} (r:Vals xs us):us=[]↔xs=[]:=by
  cases r with
  | nil=>simp
  | cons _ _=>simp
theorem op_catT:OpR X (binaryOp .Add) (rCatT X.K):=by
  intro pins s σ H x y v u Q I rx ry h
  obtain ⟨a,b,xs,ys,rfl,rfl,ha,hb,hx,hz,q1,q2⟩:=h
  cases rx
  cases ry
  obtain ⟨its,r1,p1,_⟩:=I.tuple ha
  obtain ⟨its2,r2,p2,_⟩:=I.tuple hb
  refine HT.cat_tup p1 p2 (fun z=>hx (r1.nil_iff.mp z)) (fun z=>⟨.ref a,H,I,rfl,q1 (r2.nil_iff.mp z)⟩) (fun z=>?_) (by rw [← r1.length,← r2.length];exact hz)
  refine ⟨.ref s.heap.objs.size,_,I.laid (t':=s.toks) (o:=.tup (xs++ys)) (fun b ob q=>Heap.get?_push_of_some _ q) (Nat.le_refl _) ?_,rfl,q2 (fun w=>z (r2.nil_iff.mpr w)) _ (I.hok.fresh (Nat.le_refl _))⟩
  exact ⟨by rw [List.length_append];exact hz,_,r1.append r2,IsTup.new _ _⟩
end
end L2

namespace L2
open PySem PySem.Spec PyProof.Rows

noncomputable def ixN (n:Nat) (i:Int):Option Nat:=if 0≤i then (if i<n then some i.toNat else none) else if -(n:Int)≤i then some (i+n).toNat else none
noncomputable def atI {α:Type} (xs:List α) (i:Int):Option α:=(ixN xs.length i).bind fun j=>xs[j]?
theorem ixN_seq {n:Nat} {i:Int} {j:Nat} (h:ixN n i=some j):seqIndex? i n=some j∧j<n∧-(n:Int)≤i∧i<n:=by
  unfold ixN at h
  by_cases h0:0≤i
  · rw [if_pos h0] at h
    by_cases h1:i<n
    · rw [if_pos h1] at h
      have e:i.toNat=j:=Option.some.inj h
      exact ⟨by rw [seqIndex_of h0 h1,e],by omega,by omega,h1⟩
    · rw [if_neg h1] at h;cases h
  · rw [if_neg h0] at h
    by_cases h1:-(n:Int)≤i
    · rw [if_pos h1] at h
      have e:(i+n).toNat=j:=Option.some.inj h
      exact ⟨by rw [seqIndex_neg (by omega) h1,e],by omega,h1,by omega⟩
    · rw [if_neg h1] at h;cases h
theorem atI_get {α:Type} {xs:List α} {i:Int} {v:α} (h:atI xs i=some v):∃j,seqIndex? i xs.length=some j∧xs[j]?=some v∧j<xs.length∧-(xs.length:Int)≤i∧i<xs.length:=by
  unfold atI at h
  cases e:ixN xs.length i with
  | none=>rw [e] at h;cases h
  | some j=>
    rw [e] at h
    obtain ⟨h1,h2,h3,h4⟩:=ixN_seq e
    exact ⟨j,h1,h,h2,h3,h4⟩
theorem atI_nat {α:Type} {xs:List α} {j:Nat} {v:α} (h:xs[j]?=some v):atI xs (j:Int)=some v:=by
  have hj:j<xs.length:=(List.getElem?_eq_some_iff.mp h).1
  have e:ixN xs.length (j:Int)=some j:=by
    unfold ixN
    rw [if_pos (by omega),if_pos (by omega)];simp
  unfold atI;rw [e];exact h
noncomputable def PlainIx (b:Expr):Prop:=∀o i,subscripted b false o i=operate [o,i] (getItem o i)
noncomputable def IxR (X:Cx) (r:R2):Prop:=
  ∀(value slice:Expr) (pins:List (Addr×Obj)) (s:Shared) (σ:St) (H:Hp) (x y:V) (v u:Value) (Q:VK),Inv X pins σ H s→RelV x v→RelV y u→r x y H Q →
    subscripted slice false v u=operate [v,u] (getItem v u)→wpAny (model X.prog X.w) X.A (subscriptTail value slice v u) (EP X pins σ Q) X.xe s
noncomputable def MtR (X:Cx) (id:String) (r:V→List V→Hp→VK→Prop):Prop:=
  ∀(pins:List (Addr×Obj)) (s:Shared) (σ:St) (H:Hp) (x:V) (xs:List V) (v:Value) (us:List Value) (Q:VK),Inv X pins σ H s→RelV x v→Vals xs us→r x xs H Q →
    wpAny (model X.prog X.w) X.A (call (.builtin id) (v::us)) (EP X pins σ Q) X.xe s
section
variable {X:Cx} {a b:Expr} {ta tb:TE} {pos:Pos}
theorem pe_ix {r:R2} (hr:IxR X r) (ha:PE X a ta) (hb:PE X b tb) (hs:PlainIx b):PE X (.Subscript a b pos) (tOp r ta tb):=by
  intro pins s σ H Q I h
  exact Subscript_ (binT ha hb I h fun v u s2 x y H2 I2 rx ry q=>hr a b pins s2 σ H2 x y v u Q I2 rx ry q (hs _ _))

noncomputable def rIxL (K:PySem.W.Frag):R2:=fun x y H Q=>∃p xs i v,x=.ref p∧y=.int i∧SqL K H p xs∧atI xs i=some v∧Q v H
noncomputable def rIxT (K:PySem.W.Frag):R2:=fun x y H Q=>∃p xs i v,x=.ref p∧y=.int i∧SqT K H p xs∧atI xs i=some v∧Q v H
theorem ix_list:IxR X (rIxL X.K):=by
  intro value slice pins s σ H x y v u Q I rx ry h hs
  obtain ⟨p,xs,i,z,rfl,rfl,hq,he,q⟩:=h
  cases rx
  obtain ⟨t,rfl⟩:=ry
  obtain ⟨its,r,pl,hz⟩:=I.list hq
  obtain ⟨j,h1,h2,h3,h4,h5⟩:=atI_get he
  obtain ⟨w,ew,rw'⟩:=r.get h2
  have hl:=r.length
  have hn:=line63
  have fin:EP X pins σ Q w s:=⟨z,H,I,rw',q⟩
  by_cases h0:0≤i
  · have hj:i.toNat=j:=by
      rw [seqIndex_of h0 h5] at h1
      exact Option.some.inj h1
    exact item_listR pl.isList h0 (by omega) (by rw [hj];simpa using ew) fin hs
  · have hj:(i+(its.toArray.size:Int)).toNat=j:=by
      rw [seqIndex_neg (by omega) h4] at h1
      rw [List.size_toArray,← hl]
      exact Option.some.inj h1
    exact subscriptTail_builtinR (x:=w) pl.isList.typeIs slot_list_getitem.lookup
      (wpAny_getItem_list_neg (Q:=fun r s'=>r=w∧EP X pins σ Q r s') pl.isList (by omega) (by rw [List.size_toArray] <;> omega) (by omega) (by rw [hj];simpa using ew) ⟨rfl,fin⟩) hs
theorem ix_tup:IxR X (rIxT X.K):=by
  intro value slice pins s σ H x y v u Q I rx ry h hs
  obtain ⟨p,xs,i,z,rfl,rfl,hq,he,q⟩:=h
  cases rx
  obtain ⟨t,rfl⟩:=ry
  obtain ⟨its,r,pl,hz⟩:=I.tuple hq
  obtain ⟨j,h1,h2,h3,h4,h5⟩:=atI_get he
  obtain ⟨w,ew,rw'⟩:=r.get h2
  have hl:=r.length
  have hn:=line63
  have fin:EP X pins σ Q w s:=⟨z,H,I,rw',q⟩
  exact subscriptTail_builtinR (x:=w) pl.typeIs slot_tuple_getitem.lookup
    (getItem_tuple (j:=j) (Q:=fun r s'=>r=w∧EP X pins σ Q r s') pl (by omega) (by omega) (by rw [List.size_toArray,← hl];exact h1) (by simpa using ew) ⟨rfl,fin⟩) hs
theorem slice_bounds (lo hi:Option Int) (n:Nat):(sliceBounds lo hi none n).1=((HT.sIx n 0 lo:Nat):Int)∧(sliceBounds lo hi none n).2.1=((HT.sIx n n hi:Nat):Int)∧(sliceBounds lo hi none n).2.2=1:=by
  refine ⟨?_,?_,rfl⟩
  · cases lo with
    | none=>simp [sliceBounds,HT.sIx]
    | some i=>
      simp only [sliceBounds,HT.sIx,Option.getD_none,show (1:Int)>0 by decide,if_true]
      by_cases h:i<0
      · simp only [h,if_true] <;> omega
      · simp only [h,if_false] <;> omega
  · cases hi with
    | none=>simp [sliceBounds,HT.sIx]
    | some i=>
      simp only [sliceBounds,HT.sIx,Option.getD_none,show (1:Int)>0 by decide,if_true]
      by_cases h:i<0
      · simp only [h,if_true] <;> omega
      · simp only [h,if_false] <;> omega
theorem slicePick_cut (its:List Value) (lo hi:Option Int):slicePick its.toArray lo hi none=((its.drop (HT.sIx its.length 0 lo)).take (HT.sIx its.length its.length hi-HT.sIx its.length 0 lo)).toArray:=by
  obtain ⟨h1,h2,h3⟩:=slice_bounds lo hi its.toArray.size
  unfold slicePick
  rw [h1,h2,h3]
  simp only [sliceRange_one,pick_run,List.size_toArray] <;> rfl
noncomputable def rSlL (K:PySem.W.Frag):V→Option Int→Option Int→Hp→VK→Prop:=fun x lo hi H Q=>∃a xs,x=.ref a∧SqL K H a xs∧∀p,H p=none→Q (.ref p) (upd H p (.lst (cutV xs lo hi)))
theorem sl_list:SlR X (rSlL X.K):=by
  intro pins s σ H x v vl vu lo hi sl Q I rx hs pl pu h
  obtain ⟨a,xs,rfl,hx,q⟩:=h
  cases rx
  obtain ⟨its,r,ht,hz⟩:=I.list hx
  have hlen:=r.length
  refine ⟨"list",_,slot_list_getitem.lookup,ht.isList.typeIs,?_⟩
  refine wpAny_getItem_list_slice ht.isList hs pl pu .none (by simp) ?_ (by rw [List.size_toArray] <;> omega)
  rw [slicePick_cut,← hlen]
  refine ⟨.ref s.heap.objs.size,_,I.laid (t':=s.toks) (o:=.lst (cutV xs lo hi)) (fun b ob q=>Heap.get?_push_of_some _ q) (Nat.le_refl _) ?_,rfl,q _ (I.hok.fresh (Nat.le_refl _))⟩
  exact ⟨Nat.le_trans (cutV_length xs lo hi) hz,_,0,(r.drop (HT.sIx xs.length 0 lo)).take (HT.sIx xs.length xs.length hi-HT.sIx xs.length 0 lo),Heap.get?_push_size _ rfl⟩

theorem call_len_seq:CallR X (.builtin "len") (fun xs H Q=>∃p ys,xs=[.ref p]∧(SqL X.K H p ys∨SqT X.K H p ys)∧Q (.int ys.length) H):=by
  intro pins s σ H xs us Q I r h
  obtain ⟨p,ys,rfl,hq,q⟩:=h
  obtain ⟨u,rfl,rx⟩:=vals1 r
  cases rx
  have hn:=line63
  rcases hq with hq | hq
  · obtain ⟨its,r',pl,hz⟩:=I.list hq
    have hlen:=r'.length
    exact Calls.call_len_list pl.isList (by simp only [List.size_toArray] <;> omega) ⟨.int ys.length,H,I.tok _,⟨s.toks+1,by rw [List.size_toArray,hlen]⟩,q⟩
  · obtain ⟨its,r',pl,hz⟩:=I.tuple hq
    have hlen:=r'.length
    exact len_tuple pl (by simp only [List.size_toArray] <;> omega) ⟨.int ys.length,H,I.tok _,⟨s.toks+1,by rw [List.size_toArray,hlen]⟩,q⟩
theorem call_list_of:CallR X (.type "list") (fun xs H Q=>∃p ys,xs=[.ref p]∧(SqL X.K H p ys∨SqT X.K H p ys)∧∀l,H l=none→Q (.ref l) (upd H l (.lst ys))):=by
  intro pins s σ H xs us Q I r h
  obtain ⟨p,ys,rfl,hq,q⟩:=h
  obtain ⟨u,rfl,rx⟩:=vals1 r
  cases rx
  have fin:∀(its:List Value),Vals ys its→ys.length≤sizeLine→∀(h':Heap) (c':Nat),(∀b o',s.heap.get? b=some o'→h'.get? b=some o') →
      h'.get? s.heap.objs.size=some { cls:=.type "list",dict:=none,data:=.seq its.toArray c',slots:=#[] }→EP X pins σ Q (.ref s.heap.objs.size) { s with heap:=h' }:=fun its r' hz h' c' kp e=>
    ⟨.ref s.heap.objs.size,_,I.laid (t':=s.toks) kp (Nat.le_refl _) (show ObjOk X.prog X.w _ h' _ (.lst ys) from ⟨hz,its,c',r',e⟩),rfl,q _ (I.hok.fresh (Nat.le_refl _))⟩
  rcases hq with hq | hq
  · obtain ⟨its,r',pl,hz⟩:=I.list hq
    have hlen:=r'.length
    obtain ⟨o,ho,hc,n,hd⟩:=pl.isList
    exact call_list_seq p (.inl rfl) ho hc hd (fun h' c' kp e=>fin its r' hz h' c' kp e) (by simp only [List.size_toArray] <;> omega)
  · obtain ⟨its,r',pl,hz⟩:=I.tuple hq
    have hlen:=r'.length
    obtain ⟨o,ho,hc,n,hd⟩:=pl
    exact call_list_seq p (.inr rfl) ho hc hd (fun h' c' kp e=>fin its r' hz h' c' kp e) (by simp only [List.size_toArray] <;> omega)
theorem call_tuple_of:CallR X (.type "tuple") (fun xs H Q=>∃p ys,xs=[.ref p]∧((SqL X.K H p ys∧∀l,H l=none→Q (.ref l) (upd H l (.tup ys)))∨(SqT X.K H p ys∧Q (.ref p) H))):=by
  intro pins s σ H xs us Q I r h
  obtain ⟨p,ys,rfl,h⟩:=h
  obtain ⟨u,rfl,rx⟩:=vals1 r
  cases rx
  rcases h with ⟨hq,q⟩ | ⟨hq,q⟩
  · obtain ⟨its,r',pl,hz⟩:=I.list hq
    have hlen:=r'.length
    refine call_tuple_list pl.isList (fun h' kp=>?_) (by simp only [List.size_toArray] <;> omega)
    have I1:Inv X pins σ H { s with heap:=h' }:=I.kept (t':=s.toks) kp
    have I2:Inv X pins σ (upd H h'.objs.size (.tup ys)) { s with heap:=h'.push { cls:=.type "tuple",data:=.seq its.toArray } }:=
      I1.laid (t':=s.toks) (fun b o e=>Heap.get?_push_of_some _ e) (Nat.le_refl _) (show ObjOk X.prog X.w _ _ _ (.tup ys) from ⟨hz,its,r',IsTup.new _ _⟩)
    exact ⟨.ref h'.objs.size,_,I2,rfl,q _ (I1.hok.fresh (Nat.le_refl _))⟩
  · obtain ⟨its,r',pl,hz⟩:=I.tuple hq
    exact call_tuple_same pl ⟨.ref p,H,I,rfl,q⟩

noncomputable def tyV (K:PySem.W.Frag) (T:String) (x:V) (H:Hp):Prop:=match x with
  | .str _=>T = "str"
  | .int _=>T = "int"
  | .ref p=>(T = "list"∧∃xs,SqL K H p xs)∨(T = "tuple"∧∃o,K.lookup p=some o∧o.cls=.type "tuple"∧o.dict=none) ∨
      (T = "dict"∧((∃kvs,H p=some (.dK kvs))∨∃kvs,H p=some (.dT kvs)))∨(T = "set"∧∃S n,H p=some (.set S n))
  | _=>False
theorem tyV_is {pins:List (Addr×Obj)} {σ:St} {H:Hp} {s:Shared} {T:String} {x:V} {v:Value} (I:Inv X pins σ H s) (r:RelV x v) (ty:tyV X.K T x H) :
    s.TypeIs v T∧∀a,v=.ref a→∃ob,s.heap.get? a=some ob∧ob.dict=none:=by
  cases x with
  | str z=>
    obtain ⟨t,rfl⟩:=r
    cases (show T = "str" from ty)
    exact ⟨typeIs_str s z t,fun _ e=>nomatch e⟩
  | int i=>
    obtain ⟨t,rfl⟩:=r
    cases (show T = "int" from ty)
    exact ⟨typeIs_int s i t,fun _ e=>nomatch e⟩
  | ref p=>
    cases r
    rcases ty with ⟨rfl,xs,hq⟩ | ⟨rfl,o,hk,hc,hd⟩ | ⟨rfl,hk⟩ | ⟨rfl,S,n,hk⟩
    · obtain ⟨its,_,pl,_⟩:=I.list hq
      refine ⟨pl.isList.typeIs,fun a e=>?_⟩
      cases e
      obtain ⟨o,n,e,c,hd,_⟩:=pl
      exact ⟨o,e,hd⟩
    · refine ⟨⟨o,I.kIn p o hk,hc⟩,fun a e=>?_⟩
      cases e
      exact ⟨o,I.kIn _ o hk,hd⟩
    · have z:∃o,s.heap.get? p=some o∧o.ExactDict:=by
        rcases hk with ⟨kvs,hk⟩ | ⟨kvs,hk⟩
        · obtain ⟨_,_,_,_,o,_,_,e,ex,_⟩:=I.hok p _ hk
          exact ⟨o,e,ex⟩
        · obtain ⟨_,_,_,_,o,_,_,e,ex,_⟩:=I.hok p _ hk
          exact ⟨o,e,ex⟩
      obtain ⟨o,e,ex⟩:=z
      refine ⟨⟨o,e,ex.1⟩,fun a e2=>?_⟩
      cases e2
      exact ⟨o,e,ex.2.1⟩
    · obtain ⟨o,_,_,_,e,ex,_⟩:=I.hok p _ hk
      refine ⟨⟨o,e,ex.1⟩,fun a e2=>?_⟩
      cases e2
      exact ⟨o,e,ex.2.1⟩
  | _=>exact False.elim ty
noncomputable def tBM0 (K:PySem.W.Frag) (T:String) (r:V→List V→Hp→VK→Prop) (to:TE):TE:=fun σ H Q=>to σ H fun x H1=>tyV K T x H1∧r x [] H1 Q
noncomputable def tBM (K:PySem.W.Frag) (T:String) (r:V→List V→Hp→VK→Prop) (to:TE) (t:TA):TE:=fun σ H Q=>to σ H fun x H1=>tyV K T x H1∧t σ H1 fun xs H2=>r x xs H2 Q
variable {o e:Expr} {es:List Expr} {to:TE} {t:TA} {name:Str} {apos cpos:Pos} {T id:String} {r:V→List V→Hp→VK→Prop}
theorem pe_bm0 (pa:PlainAttrs T) (slot:Slot T name id) (hty:typeOf (.builtin id)=pure (.type "method_descriptor")) (hm:MtR X id r) (ho:PE X o to)
    (hbase:autoParam (attributeBase o name X.env (eval o X.env)=eval o X.env) au0_._auto_1) (hline:autoParam ((apos.endLine==cpos.line)=true) au0_._auto_1):PE X (.Call (.Attribute o name apos) [] [] cpos) (tBM0 X.K T r to):=by
  intro pins s σ H Q I h
  refine wpAny_Call_method0_late hbase hline (thn (ho pins s σ H _ I h) fun v s1 ⟨x,H1,I1,r1,ty,q1⟩=>?_)
  obtain ⟨h1,h2⟩:=tyV_is I1 r1 ty
  exact ⟨T,id,pa,slot,hty,h1,h2,Calls.callWith_builtin rfl (PySem.evalArgs_none (hm pins s1 σ H1 x [] v [] Q I1 r1 .nil q1))⟩
theorem pe_bm (pa:PlainAttrs T) (slot:Slot T name id) (hty:typeOf (.builtin id)=pure (.type "method_descriptor")) (hm:MtR X id r) (ho:PE X o to) (ha:PA X (e::es) t)
    (hbase:autoParam (attributeBase o name X.env (eval o X.env)=eval o X.env) au0_._auto_1)
    (hfew:autoParam (((backTo cpos (starEach (e::es) X.env)).all (fun x=>!x.1)&&(backToKw cpos (keywordEach [] X.env)).all (fun x=>x.1.isSome)
      && decide ((e::es).length+([]:List Keyword).length+(if ([]:List Keyword).isEmpty then 0 else 1)<30))=true) au0_._auto_1)
    (hline:autoParam ((apos.endLine==cpos.line)=true) au0_._auto_1) (hs:autoParam (starEach (e::es) X.env=(false,eval e X.env)::starEach es X.env) au0_._auto_1) (hplain:autoParam ((backTo cpos (starEach es X.env)).any (·.1)=false) au0_._auto_1) :
    PE X (.Call (.Attribute o name apos) (e::es) [] cpos) (tBM X.K T r to t):=by
  intro pins s σ H Q I h
  refine wpAny_Call_method_late hbase hfew hline rfl (thn (ho pins s σ H _ I h) fun v s1 ⟨x,H1,I1,r1,ty,q1⟩=>?_)
  obtain ⟨h1,h2⟩:=tyV_is I1 r1 ty
  refine ⟨T,id,pa,slot,hty,h1,h2,?_⟩
  have hA:=ha cpos pins s1 σ H1 _ I1 q1
  rw [hs] at hA ⊢
  refine Calls.callWith_builtin (by show (false||(backTo cpos (starEach es X.env)).any (·.1))=false;rw [hplain] <;> rfl) (Calls.evalArgs_plain ?_)
  exact thn hA fun us s2 ⟨vs,H2,I2,r2,q2⟩=>hm pins s2 σ H2 x vs v us Q I2 r1 r2 q2
/- xs.append(e),list.index on a module's tuple .. are MtR facts of 06m -/
end
end L2

namespace L2
open PySem PySem.Spec PyProof.Rows

noncomputable def MtM (X:Cx) (id:String) (r:V→List V→Hp→VK→Prop):Prop:=
  ∀(pins:List (Addr×Obj)) (s:Shared) (σ:St) (H:Hp) (x:V) (xs:List V) (v:Value) (us:List Value) (Q:VK),Inv X pins σ H s→RelV x v→Vals xs us→r x xs H Q →
    wpAny (model X.prog X.w) X.A (call (.builtin id) (v::us)) (EP X pins σ Q) X.xe s

theorem Vals.one:∀{x:V} {us:List Value},Vals [x] us→∃u,us=[u]∧RelV x u
  | _,_,.cons r .nil=>⟨_,rfl,r⟩
theorem Vals.rep {xs:List V} {us:List Value} (h:Vals xs us):∀k:Nat,Vals (List.replicate k xs).flatten (List.replicate k us).flatten
  | 0=>.nil
  | k+1=>by
    rw [List.replicate_succ,List.replicate_succ,List.flatten_cons,List.flatten_cons]
    exact Vals.append h (Vals.rep h k)
theorem foldl_rep (its:List Value):∀(k:Nat) (acc:List Value),
    List.foldl (fun x1 x2=>x1++x2) acc.toArray (List.replicate k its.toArray)=(acc++(List.replicate k its).flatten).toArray
  | 0,acc=>by simp
  | k+1,acc=>by
    have e:acc.toArray++its.toArray=(acc++its).toArray:=by simp
    have e2:(acc++its)++(List.replicate k its).flatten=acc++(List.replicate (k+1) its).flatten:=by
      rw [List.replicate_succ,List.flatten_cons,List.append_assoc]
    rw [← e2,← foldl_rep its k (acc++its),← e,List.replicate_succ,List.foldl_cons]

section
variable {X:Cx} {pins:List (Addr×Obj)} {σ:St} {H:Hp} {s:Shared} {l b:Addr} {xs ys zs:List V}

theorem Inv.lset {its its':List Value} {n:Nat} {f:Array Value→Array Value} {t':Nat} (I:Inv X pins σ H s) (hH:H l=some (.lst xs))
    (e:s.heap.get? l=some { cls:=.type "list",data:=.seq its.toArray n }) (hf:f its.toArray=its'.toArray) (hv:Vals ys its') (hz:ys.length≤sizeLine) :
    Inv X pins σ (upd H l (.lst ys)) { s with heap:=s.heap.update l (Obj.mapSeq f),toks:=t' }:=by
  have q:=PySem.IsL.update e f
  rw [hf] at q
  refine I.write (x:=l) (e:=l) (by rw [hH];exact trivial) (.inl rfl) (fun b' u hb hu=>(Heap.get?_update_other s.heap (Obj.mapSeq f) (Ne.symm hb)).trans hu) ⟨_,q⟩ ?_
  exact ⟨hz,its',_,hv,q⟩
theorem Inv.lnew {its:List Value} {t':Nat} (I:Inv X pins σ H s) (hv:Vals ys its) (hz:ys.length≤sizeLine) :
    Inv X pins σ (upd H s.heap.objs.size (.lst ys)) { s with heap:=s.heap.push { cls:=.type "list",data:=.seq its.toArray },toks:=t' }:=
  I.laid (fun _ _ q=>Heap.get?_push_of_some _ q) (Nat.le_refl _) ⟨hz,its,0,hv,Heap.get?_push_size _ rfl⟩
theorem Inv.fresh (I:Inv X pins σ H s):H s.heap.objs.size=none:=I.hok.fresh (Nat.le_refl _)
theorem Inv.lstM (I:Inv X pins σ H s) (hH:H l=some (.lst xs)):xs.length≤sizeLine∧∃(its:List Value) (n:Nat),Vals xs its∧xs.length=its.length∧s.heap.get? l=some { cls:=.type "list",data:=.seq its.toArray n }:=by
  obtain ⟨z,its,n,r,e⟩:=I.hok l _ hH
  exact ⟨z,its,n,r,r.length,e⟩

theorem notLongL {n:Nat} (h:n≤sizeLine):Builtin.List.listTooLong n=false:=by
  unfold Builtin.List.listTooLong
  exact decide_eq_false (by omega)
end

section
variable {X:Cx}

noncomputable def rAppend:V→List V→Hp→VK→Prop:=fun x vs H Q=>∃l xs y,x=.ref l∧vs=[y]∧H l=some (.lst xs)∧xs.length<sizeLine∧Q .non (upd H l (.lst (xs++[y])))
theorem mt_append:MtM X "list.append" rAppend:=by
  intro pins s σ H x vs v us Q I rx rv h
  obtain ⟨l,xs,y,rfl,rfl,hH,hz,q⟩:=h
  cases rx
  obtain ⟨u,rfl,ru⟩:=rv.one
  obtain ⟨z,its,n,r,hl,e⟩:=I.lstM hH
  refine call_meets F.slot_list_append ⟨_,e,rfl⟩ F.entry_list_append (F.args_list_append_2 _ _) (PySem.list_append l its.toArray n u (by rw [List.size_toArray];omega)) ⟨e,?_⟩
  refine ⟨.non,_,I.lset (its':=its++[u]) hH e (by simp) (r.append (.cons ru .nil)) ?_,rfl,q⟩
  rw [List.length_append,List.length_singleton]
  omega

noncomputable def rExtend:V→List V→Hp→VK→Prop:=fun x vs H Q=>∃l b xs zs,x=.ref l∧vs=[.ref b]∧H l=some (.lst xs)∧H b=some (.lst zs)∧xs.length+zs.length≤sizeLine∧Q .non (upd H l (.lst (xs++zs)))
theorem mt_extend:MtM X "list.extend" rExtend:=by
  intro pins s σ H x vs v us Q I rx rv h
  obtain ⟨l,b,xs,zs,rfl,rfl,hH,hB,hz,q⟩:=h
  cases rx
  obtain ⟨u,rfl,ru⟩:=rv.one
  cases ru
  obtain ⟨z,its,n,r,hl,e⟩:=I.lstM hH
  obtain ⟨z2,its2,n2,r2,hl2,e2⟩:=I.lstM hB
  have hsz:its.toArray.size+its2.toArray.size≤sizeLine:=by rw [List.size_toArray,List.size_toArray];omega
  have hlong:¬(!its.toArray.isEmpty&&Builtin.List.listTooLong (its.toArray.size+its2.toArray.size))=true:=by
    rw [notLongL hsz,Bool.and_false]
    exact Bool.false_ne_true
  refine call_meets F.slot_list_extend ⟨_,e,rfl⟩ F.entry_list_extend (F.args_list_extend_2 _ _)
    (AutoSeq1.list_extend_list_list_0 l its.toArray n b its2.toArray n2 hlong (by rw [List.size_toArray];omega) (by omega)) ⟨e,e2,?_⟩
  refine ⟨.non,_,I.lset (its':=its++its2) hH e (by simp) (r.append r2) ?_,rfl,q⟩
  rw [List.length_append]
  omega

noncomputable def rCat:R2:=fun x y H Q=>∃l b xs zs,x=.ref l∧y=.ref b∧H l=some (.lst xs)∧H b=some (.lst zs)∧xs.length+zs.length≤sizeLine∧∀p,H p=none→Q (.ref p) (upd H p (.lst (xs++zs)))
theorem op_cat:OpR X (binaryOp .Add) rCat:=by
  intro pins s σ H x y v u Q I rx ry h
  obtain ⟨l,b,xs,zs,rfl,rfl,hH,hB,hz,q⟩:=h
  cases rx
  cases ry
  obtain ⟨z,its,n,r,hl,e⟩:=I.lstM hH
  obtain ⟨z2,its2,n2,r2,hl2,e2⟩:=I.lstM hB
  refine PySem.P.add_list e e2 ?_ (by rw [List.size_toArray,List.size_toArray];omega)
  have ea:its.toArray++its2.toArray=(its++its2).toArray:=by simp
  rw [ea]
  exact ⟨.ref _,_,I.lnew (t':=s.toks) (r.append r2) (by rw [List.length_append];omega),rfl,q _ I.fresh⟩
noncomputable def rRep:R2:=fun x y H Q=>∃l k xs,x=.ref l∧y=.int k∧H l=some (.lst xs)∧-(2 ^ 63)≤k∧k<2 ^ 63∧xs.length*k.toNat≤sizeLine ∧
  ∀p,H p=none→Q (.ref p) (upd H p (.lst (List.replicate k.toNat xs).flatten))
theorem len_rep {α:Type} (xs:List α) (k:Nat):(List.replicate k xs).flatten.length=k*xs.length:=by
  induction k with
  | zero=>simp
  | succ k ih=>rw [List.replicate_succ,List.flatten_cons,List.length_append,ih,Nat.succ_mul,Nat.add_comm]
theorem op_rep:OpR X (binaryOp .Mult) rRep:=by
  intro pins s σ H x y v u Q I rx ry h
  obtain ⟨l,k,xs,rfl,rfl,hH,h1,h2,hz,q⟩:=h
  cases rx
  obtain ⟨t,rfl⟩:=ry
  obtain ⟨z,its,n,r,hl,e⟩:=I.lstM hH
  have hlen:its.toArray.size*k.toNat≤sizeLine:=by rw [List.size_toArray,← hl];exact hz
  have hcap:¬its.toArray.size*k.toNat>(2 ^ 63-1)/8:=by
    have:(sizeLine:Nat)≤(2 ^ 63-1)/8:=by decide
    omega
  have hfit:¬(!Builtin.List.listFitsIndex k)=true:=by
    rw [fitsIndex_both h1 h2]
    exact Bool.false_ne_true
  have hlong:¬Builtin.List.listTooLong (its.toArray.size*k.toNat)=true:=by
    rw [notLongL hlen]
    exact Bool.false_ne_true
  have hnew:List.foldl (fun x1 x2=>x1++x2) #[] (List.replicate (if its.toArray.isEmpty=true then 0 else k.toNat) its.toArray)=(List.replicate k.toNat its).flatten.toArray:=by
    have f0:∀m:Nat,List.foldl (fun x1 x2=>x1++x2) #[] (List.replicate m its.toArray)=(List.replicate m its).flatten.toArray:=fun m=>by
      have:=foldl_rep its m []
      rw [List.nil_append] at this
      exact this
    rw [f0]
    cases its with
    | nil=>simp
    | cons a r'=>rw [if_neg (by simp)]
  refine wpAny_binaryOp_repeat_ref (T := "list") (U := "int") (by decide) ⟨_,e,rfl⟩ (fun s'=>typeIs_int s' k t) noFill_list_mul F.fills_int_mul F.slot_int_rmul repeat_list F.slot_int_index.lookup
    (call_meets F.slot_int_rmul (typeIs_int s k t) F.entry_int_rmul (F.args_int_rmul_2 _ _) (int___rmul___int_list k t l its.toArray n)
      ⟨e,rfl,⟨_,e,rfl⟩,call_meets F.slot_list_mul ⟨_,e,rfl⟩ F.entry_list_mul (F.args_list_mul_2 _ _) (AutoListH.list___mul___list_int_3 l its.toArray n k t hfit hcap hlong) ⟨e,?_⟩⟩)
  rw [hnew]
  exact ⟨.ref _,_,I.lnew (t':=s.toks) (r.rep k.toNat) (by rw [len_rep,Nat.mul_comm];exact hz),rfl,q _ I.fresh⟩

end

section
variable {prog:Program} {w:World} {A:Around} {E:Value→Shared→Prop} {s:Shared}
set_option maxRecDepth 100000 in
end

section
variable {X:Cx}
end
end L2

namespace Att
open PySem PySem.W PySem.Calls PyProof.Rows

theorem ints_of_wellAll {P:Params} {h:Heap}:∀(ns:List Int) (vs:List Value),WellAll P h vs (ns.map WData.int)→IntsAre vs ns:=by
  intro ns
  induction ns with
  | nil=>
    intro vs w
    rw [List.map_nil] at w
    cases w
    exact .nil
  | cons n ns ih=>
    intro vs w
    rw [List.map_cons] at w
    cases w with
    | cons a b=>
      cases a
      exact .cons _ _ (ih _ b)

theorem script_of {l:OpenLaw} {n:Nat} (hn:l.most=some n) {P:Params} {h:Heap} {args:List WData} {vals:List Value}
    (hpre:l.row.toRowW.claim.pre args=true) (hwl:WellAll P h vals args) :
    ∃a vs ns,vals=[Value.ref a]∧args=[WData.list (ns.map WData.int)]∧h.get? a=some { cls:=.type "list",data:=.seq vs.toArray }∧IntsAre vs ns∧ns.length≤n:=by
  have hsh:WShape.hasAll [] args [.list .int]=true:=(pre_splitW hpre).1
  have hc:l.pre.holds [] { args:=args }=true:=(pre_splitW hpre).2
  obtain ⟨d,r,rfl,h1,h2⟩:=hasAllW_cons hsh
  obtain rfl:=hasAllW_nil h2
  obtain ⟨xs,rfl,h3⟩:=hasW_list h1
  obtain ⟨ns,rfl⟩:=items_int h3
  have hlen:ns.length≤n:=by
    unfold OpenLaw.pre at hc
    have h4:(WTm.not (.lt (.lit (.int (n:Int))) (.len (.arg 0)))).holds [] { args:=[.list (ns.map .int)] }=true:=by
      have h4:=(holds_andW hc).1
      rw [hn] at h4
      exact h4
    have h5:=condW_of h4 (w_not (w_lt w_lit (w_len_list (w_arg rfl))))
    rw [List.length_map] at h5
    refine Nat.le_of_not_lt fun q=>?_
    have q':(n:Int)<((ns.length:Nat):Int):=by omega
    first
      | (rw [decide_eq_true q'] at h5;exact absurd h5 (by decide))
      | (simp at h5;omega)
  cases hwl with
  | cons w1 w2=>
    cases w2
    cases w1 with
    | list ho hall=>exact ⟨_,_,ns,rfl,rfl,ho,ints_of_wellAll ns _ hall,hlen⟩

theorem post_true (l:OpenLaw) (args:List WData):l.row.toRowW.claim.post args (.bool true) args=true:=
  postW_of (r:=l.row.toRowW) (X:=(true==true))
    (show WShape.has [] (.bool true) .bool=true by first | rfl | decide | simp [WShape.has,WShape.arms,WShape.armsAll])
    (show (WTm.eq .res (.lit (.bool true))).value [] { args:=args,res:=some (.bool true),after:=args }=some (.bool (true==true)) from w_eq_bool (w_res rfl) w_lit) rfl

theorem attach_call {l:OpenLaw} {n:Nat} {q:Program} {loose:List Str} {XP:(Str→Option Value)→Heap→Prop} {YP:World→Heap→Prop} {d:DefRec}
    (hn:l.most=some n) (hdf:d.params.defaults=[])
    (call:∀(w:World) (s₀ s₁:Shared) (mg mb:Str→Option Value) (fa:Addr) (o:Obj) (pm cd doc:Value) (a:Addr) (vs:List Value) (ns:List Int),
      Ground q loose [] XP w s₀ mg mb s₁.heap→YP w s₁.heap →
      s₁.heap.get? fa=some o→o.data=.func (docDef d.name d.params d.body d.scope pm cd doc)→s₁.heap.CodeRec cd d.name→mg d.name=some (.ref fa) →
      s₁.heap.get? a=some { cls:=.type "list",data:=.seq vs.toArray }→IntsAre vs ns→ns.length≤n→s₁.gens=#[] →
      codeAny (model l.prog w) callerA (.call (.ref fa) ⟨[.ref a],[]⟩) (fun r s'=>r=.ok (.ret (.bool true))∧OldK s₁.heap s'.heap∧s'.os=s₁.os∧AllBare s'.gens) s₁) :
    WalkO q loose XP YP l.row.toRowW d [] (fun f vs=>PySem.call f vs):=by
  intro w s₀ s₁ mg mb G Y fa o pm cd doc dV kV ho hd hcd hD hmg hg args vals as hpre hlay hrd hwl hlo
  obtain rfl:dV=.none:=Dflts.none hD hdf
  obtain rfl:kV=.none:=Dflts.noKw hD
  obtain ⟨a,vs,ns,rfl,rfl,hobj,hints,hlen⟩:=script_of hn hpre hwl
  refine enter_call (codeAny_mono (call w s₀ s₁ mg mb fa o pm cd doc a vs ns G Y ho (fd_plain hd) hcd hmg hobj hints hlen hg) fun r s' hq=>?_)
  obtain ⟨rfl,h2,h3,h4⟩:=hq
  exact ⟨.inl ⟨.bool true,.bool true,[],rfl,fun _=>rfl,.bool true,post_true l _,fun _=>⟨List.Pairwise.nil,fun _ hm=>(nomatch hm)⟩⟩,h2,h3,h4⟩

section
variable {prog:Program} {w:World} {A:Around} {E:Value→Shared→Prop} {s:Shared} {K:Frag}

end
end Att

namespace L2
open PySem PySem.Spec PyProof.Rows

theorem vals_ints:∀{vs:List Value} {ns:List Int},IntsAre vs ns→Vals (ns.map V.int) vs
  | _,_,.nil=>.nil
  | _,_,.cons n t h=>.cons ⟨t,rfl⟩ (vals_ints h)

noncomputable def Only (H:Hp):Prop:=∀b,H b=none∨∃o xs,H b=some (.frz o (.lst xs))

theorem law_call {P:Program} {w:World} {K:PySem.W.Frag} {mg mb:Str→Option Value} {CX:CXT} {k:Nat} {fa a:Addr} {fd:FuncData} {x:Str} {sp:Sp} {s₁:Shared} {vs:List Value} {ns:List Int}
    (KX:K.In s₁.heap) (hns:s₁.heap.Ns mainGlobals mg) (hb:s₁.heap.Ns builtinsNs mb) (hbb:∀x:Str,x ≠ "__name__"→mb x=bootBuiltins x) (hlim:s₁.heap.NoLimit) (hg:s₁.gens=#[])
    (ha:s₁.heap.get? a=some { cls:=.type "list",data:=.seq vs.toArray }) (hi:IntsAre vs ns) (hl:ns.length≤sizeLine) (hr:Room k callerA)
    (F:∀base:Heap,K.In base→base.Ns mainGlobals mg→FnOk P w K mg base CX k fa fd [x] sp) (hbind:∀(s:Shared) (u:Value),BindsTo s fd ⟨[u],[]⟩ [(x,u)])
    (hsp:∀H:Hp,Only H→SqL K H a (ns.map V.int)→sp [.ref a] H (fun v _=>v=.bl true) fun _ _ _=>False)
    (hCX:∀H e s',CX [] H s₁ (fun _ _ _=>False) e s'→False) :
    codeAny (model P w) callerA (.call (.ref fa) ⟨[.ref a],[]⟩) (fun r s'=>r=.ok (.ret (.bool true))∧OldK s₁.heap s'.heap∧s'.os=s₁.os∧AllBare s'.gens) s₁:=by
  have rv:=vals_ints hi
  have lenV:=hi.length
  -- from an abstract heap in which nothing but the script may be tracked
  have core:∀H:Hp,Only H→SqL K H a (ns.map V.int)→HOk P w H s₁.heap→(∀b,H b≠none→b=a)→(H a≠none→K.lookup a=none) →
      codeAny (model P w) callerA (.call (.ref fa) ⟨[.ref a],[]⟩) (fun r s'=>r=.ok (.ret (.bool true))∧OldK s₁.heap s'.heap∧s'.os=s₁.os∧AllBare s'.gens) s₁:=by
    intro H hO hS hok hA hK
    have base_of:∀{b:Addr} {o:Obj},s₁.heap.get? b=some o→H b=none→(hidT s₁.heap H).get? b=some o:=fun e n=>hidT_get e n
    have noA:∀{b:Addr} {o:Obj} {es:Array DictEntry} {ep:Nat},s₁.heap.get? b=some o→o.data=.dict es ep→H b=none:=fun {b o es ep} e d=>by
      cases q:H b with
      | none=>rfl
      | some u=>
        have e':b=a:=hA b (by rw [q];simp)
        subst e'
        rw [ha] at e;cases e
        have d':Data.seq vs.toArray _=Data.dict es ep:=d
        cases d'
    have nsK:∀{b:Addr} {m:Str→Option Value},s₁.heap.Ns b m→(hidT s₁.heap H).Ns b m:=fun {b m} ⟨o,es,ep,e,d,r⟩=>⟨o,es,ep,base_of e (noA e d),d,r⟩
    have hKb:K.In (hidT s₁.heap H):=fun b o e=>base_of (KX b o e) (by
      cases q:H b with
      | none=>rfl
      | some u=>
        have e':b=a:=hA b (by rw [q];simp)
        subst e'
        rw [hK (by rw [q];simp)] at e;cases e)
    have hM:Mod K mg (hidT s₁.heap H):=⟨hKb,nsK hns,⟨mb,nsK hb,hbb⟩,let ⟨mc,h1,h2⟩:=hlim;⟨mc,nsK h1,h2⟩⟩
    have e0:Env0 P w K mg (hidT s₁.heap H) callerA [] s₁ H:=⟨rfl,hM,fun b o e=>of_hidT e,Nat.le_of_eq (hidT_size _ _),trivial,fun b hb=>absurd (show b∈([]:List Addr) from hb) (by simp),hok,.of_eq hg⟩
    refine codeAny_mono ((F _ hKb (nsK hns)).run callerA [] s₁ H ⟨[.ref a],[]⟩ [.ref a] [.ref a] _ _ hr e0 (hbind s₁ (.ref a)) (.cons rfl .nil) (hsp H hO hS)) fun r s' h=>?_
    cases r with
    | error e=>exact (hCX H e s' h).elim
    | ok fl=>
      cases fl with
      | next=>exact False.elim h
      | brk=>exact False.elim h
      | cont=>exact False.elim h
      | ret u=>
        obtain ⟨v,H',os,bare,un,hok',r',q⟩:=h
        have q':v=.bl true:=q
        subst q'
        obtain rfl:u=Value.bool true:=r'
        refine ⟨rfl,OldK.of_keep fun b o e=>?_,os,bare⟩
        cases q:H b with
        | none=>exact un.keep b o e q (by intro z;exact absurd (show b∈([]:List Addr) from z) (by simp)) (by simp)
        | some u=>
          rcases hO b with z | ⟨ob,xs,z⟩
          · rw [q] at z;cases z
          · have z2:=un.frzs b ob _ z
            obtain ⟨e1,_⟩:=hok b _ z
            obtain ⟨e2,_⟩:=hok' b _ z2
            rw [e] at e1;cases e1
            exact e2
  cases hk:K.lookup a with
  | some o=>
    -- the script is one of the module's own objects
    have e:=KX a o hk
    rw [ha] at e
    cases e
    refine core (fun _=>none) (fun _=>.inl rfl) (.inr ⟨_,vs.toArray,_,hk,rfl,rfl,rfl,by rw [List.size_toArray,lenV];exact hl,by simpa using rv⟩) (fun b u z=>by have z':(none:Option HO)=some u:=z;cases z') (fun b z=>absurd rfl z) fun z=>absurd rfl z
  | none=>
    refine core (fun b=>if b=a then some (.frz { cls:=.type "list",data:=.seq vs.toArray } (.lst (ns.map V.int))) else none) (fun b=>?_) (.inl (.inr ⟨{ cls:=.type "list",data:=.seq vs.toArray },if_pos rfl⟩)) (fun b u z=>?_) (fun b z=>?_) fun _=>hk
    · by_cases hb:b=a
      · exact .inr ⟨_,_,if_pos hb⟩
      · exact .inl (if_neg hb)
    · by_cases hb:b=a
      · have z':=(if_pos hb).symm.trans z
        cases z'
        subst hb
        exact ⟨ha,by rw [List.length_map];exact hl,vs,_,rv,ha⟩
      · have z':=(if_neg hb).symm.trans z
        cases z'
    · by_cases hb:b=a
      · exact hb
      · exact absurd (if_neg hb) z
end L2

namespace L2
open PySem PySem.Spec PyProof.Rows

theorem walk_of {l:PySem.W.OpenLaw} {n k:Nat} {q:Program} {loose:List Str} {XP:(Str→Option Value)→Heap→Prop} {YP:World→Heap→Prop} {d:DefRec} {K:Params→PySem.W.Frag} {CX:World→CXT} {sp:World→Sp} {x:Str}
    (hn:l.most=some n) (hn2:n≤sizeLine) (hdf:d.params.defaults=[]) (hr:Room k callerA)
    (hY:∀(w:World) (h:Heap),YP w h→(K w.params).In h)
    (F:∀(w:World) (mg:Str→Option Value) (fa:Addr) (h:Heap),(K w.params).In h→h.Ns mainGlobals mg→mg d.name=some (.ref fa) →
      ∃fd:FuncData,(∀(s:Shared) (u:Value),BindsTo s fd ⟨[u],[]⟩ [(x,u)]) ∧
        ∀base:Heap,(K w.params).In base→base.Ns mainGlobals mg→FnOk l.prog w (K w.params) mg base (CX w) k fa fd [x] (sp w))
    (hsp:∀(w:World) (H:Hp) (a:Addr) (ns:List Int),ns.length≤n→Only H→SqL (K w.params) H a (ns.map V.int)→sp w [.ref a] H (fun v _=>v=.bl true) fun _ _ _=>False)
    (hCX:∀(w:World) (H:Hp) (s:Shared) (e:Value) (s':Shared),CX w [] H s (fun _ _ _=>False) e s'→False) :
    PySem.W.WalkO q loose XP YP l.row.toRowW d [] (fun f vs=>PySem.call f vs):=by
  refine Att.attach_call hn hdf fun w s₀ s₁ mg mb fa o pm cd doc a vs ns G Y ho hd hcd hmg hobj hints hlen hg=>?_
  have KX:=hY w _ Y
  obtain ⟨fd,hb,hF⟩:=F w mg fa _ KX G.T.g hmg
  exact law_call KX G.T.g G.T.b G.T.builtins G.T.nolimit hg hobj hints (Nat.le_trans hlen hn2) hr hF hb (fun H hO hS=>hsp w H a ns hlen hO hS) fun H e s'=>hCX w H s₁ e s'
end L2



namespace L2
open PySem PySem.Spec PyProof.Rows

noncomputable def inClass (s:Stmt) (j:Nat):Stmt:=match s with
  | .ClassDef _ _ _ body _ _ _ _ _ _ _=>body.getD j (.Pass ⟨0,0,0,0⟩)
  | _=>.Pass ⟨0,0,0,0⟩
noncomputable def defArgs (s:Stmt):Arguments:=match s with
  | .FunctionDef _ a _ _ _ _ _ _ _ _=>a
  | _=>{ posonlyargs:=[],args:=[],vararg:=none,kwonlyargs:=[],kw_defaults:=[],kwarg:=none,defaults:=[] }
noncomputable def defBody (s:Stmt):List Stmt:=match s with
  | .FunctionDef _ _ b _ _ _ _ _ _ _=>b
  | _=>[]
noncomputable def defScope (s:Stmt):Scope:=match s with
  | .FunctionDef _ _ _ _ _ _ sc _ _ _=>sc
  | _=>{ kind:=.function,names:=[],isGenerator:=false,isCoroutine:=false }

noncomputable abbrev CX0:CXT:=fun _ _ _ _ _ _=>False
noncomputable abbrev E0:XK:=fun _ _ _=>False
theorem pass0 {X:Cx}:Passes CX0 X E0:=fun _ _ _ _ _ _ _ h=>h.elim

structure Fun (K:PySem.W.Frag) (x qual:Str) (st:Stmt) (f:Addr) (fd:FuncData):Prop where
  ex:∃(oc:Value) (od:Option Addr) (kV doc pm:Value) (an:Option Addr) (cdv ct:Value) (osl:Array (Option Value)),
    fd=PySem.W.fnOf x qual (defArgs st) (defBody st) (defScope st) .none kV doc pm an cdv ct∧K.lookup f=some ⟨oc,od,.func fd,osl⟩∧PySem.W.codeIn K cdv qual=true
  kp:PySem.W.keepIn K (.ref f)=true
section
variable {P:Program} {w:World} {K:PySem.W.Frag} {mg:Str→Option Value} {base:Heap}
theorem Fun.ok {x qual:Str} {st:Stmt} {f:Addr} {fd:FuncData} {N ps:List Str} {k:Nat} {sp:Sp} (F:Fun K x qual st f fd) (S:FnScope N ps (defScope st)) (len:∀vs H Q E,sp vs H Q E→vs.length=ps.length)
    (hbody:∀(cdv:Value) (A:Around) (outer:List Env) (s:Shared) (H:Hp) (vs:List V) (Q:VK) (E:XK),Room k (A.deeper (envOfC qual (defScope st) s.heap.objs.size f cdv))→sp vs H Q E →
      ∃t,PSs (cxOf CX0 P w K mg base N qual (defScope st) f cdv A outer s H E).nox (defBody st) t∧t { nx:=fun _ H'=>Q .non H',rt:=Q } (start N vs) H):FnOk P w K mg base CX0 (k+1) f fd ps sp:=by
  obtain ⟨oc,od,kV,doc,pm,an,cdv,ct,osl,rfl,lk,hcd⟩:=F.ex
  refine fn_of lk hcd S len fun A outer s H vs Q E hr hsp=>?_
  obtain ⟨t,h,q⟩:=hbody cdv A outer s H vs Q E hr hsp
  exact ⟨t,h.nox,q⟩
theorem Fun.binds {x qual:Str} {st:Stmt} {f:Addr} {fd:FuncData} {ps:List Str} (F:Fun K x qual st f fd)
    (h:∀(kV doc pm:Value) (an:Option Addr) (cdv ct:Value) (us:List Value),us.length=ps.length→bindArgs (PySem.W.fnOf x qual (defArgs st) (defBody st) (defScope st) .none kV doc pm an cdv ct) ⟨us,[]⟩=pure (ps.zip us)):Binds K fd ps []:=by
  obtain ⟨oc,od,kV,doc,pm,an,cdv,ct,osl,rfl,lk,hcd⟩:=F.ex
  exact .all (h kV doc pm an cdv ct)
theorem fun_mk {x qual:Str} {st:Stmt} {f:Addr} {oc:Value} {od an:Option Addr} {osl:Array (Option Value)} {kV doc pm cdv ct:Value} (l:K.lookup f=some ⟨oc,od,.func (PySem.W.fnOf x qual (defArgs st) (defBody st) (defScope st) .none kV doc pm an cdv ct),osl⟩)
    (c:PySem.W.codeIn K cdv qual=true) (k:PySem.W.keepIn K (.ref f)=true):Fun K x qual st f (PySem.W.fnOf x qual (defArgs st) (defBody st) (defScope st) .none kV doc pm an cdv ct):=⟨⟨oc,od,kV,doc,pm,an,cdv,ct,osl,rfl,l,c⟩,k⟩
end
theorem small1000 {n:Nat} (h:n≤1000):n<sizeLine:=Nat.lt_of_le_of_lt h (by decide)

section
variable {X:Cx}
theorem pv (i:Nat) {x:Str} {pos:Pos} (hN:autoParam (X.N[i]?=some x) au0_._auto_1) (hv:Vis X.env.scope x:=by first | exact Or.inl rfl | exact Or.inr (Or.inl rfl) | exact Or.inr (Or.inr rfl)) (hd:autoParam ((x==("__debug__":Str))=false) au1_._auto_1)
    (hcd:autoParam ((x==("__classdict__":Str))=false) au1_._auto_1):PE X (.Name x pos) (tVar i):=pe_var hN hv hd hcd
end

theorem iteF {A B:Prop} (h:B):if false=true then A else B:=by
  rw [if_neg Bool.false_ne_true]
  exact h
theorem iteT {A B:Prop} (h:A):if true=true then A else B:=by
  rw [if_pos rfl]
  exact h
theorem ite2 {c A B:Prop} [Decidable c] (h1:c→A) (h2:¬c→B):if c then A else B:=by
  by_cases h:c
  · rw [if_pos h]
    exact h1 h
  · rw [if_neg h]
    exact h2 h
noncomputable def Same (H H':Hp):Prop:=∀b o,H b=some o→H' b=some o
theorem Same.refl (H:Hp):Same H H:=fun _ _ h=>h
theorem Same.trans {H H1 H2:Hp} (a:Same H H1) (b:Same H1 H2):Same H H2:=fun c o h=>b c o (a c o h)
theorem Same.free {H H':Hp} (e:Same H H') {l:Addr} (h:H' l=Option.none):H l=Option.none:=by
  cases q:H l with
  | none=>rfl
  | some o=>
    rw [e l o q] at h
    cases h
theorem Same.seq {K:PySem.W.Frag} {H H':Hp} {a:Addr} {xs:List V} (e:Same H H') (h:SqL K H a xs):SqL K H' a xs:=by
  rcases h with (h | ⟨o,h⟩) | h
  · exact .inl (.inl (e _ _ h))
  · exact .inl (.inr ⟨o,e _ _ h⟩)
  · exact .inr h

end L2

set_option maxHeartbeats 4000000
namespace Mth

noncomputable def Sz (n:Nat) (x:Int):Prop:=x.natAbs<2 ^ n
noncomputable instance {n:Nat} {x:Int}:Decidable (Sz n x):=inferInstanceAs (Decidable (x.natAbs<2 ^ n))
theorem Sz.mono {m n:Nat} {x:Int} (h:Sz m x) (hm:m≤n):Sz n x:=
  Nat.lt_of_lt_of_le h (Nat.pow_le_pow_right (by decide) hm)
theorem Sz.mul {m n:Nat} {x y:Int} (hx:Sz m x) (hy:Sz n y):Sz (m+n) (x*y):=by
  unfold Sz at *
  rw [Int.natAbs_mul,Nat.pow_add]
  exact Nat.mul_lt_mul'' hx hy
theorem Sz.add {m:Nat} {x y:Int} (hx:Sz m x) (hy:Sz m y):Sz (m+1) (x+y):=by
  unfold Sz at *
  rw [Nat.pow_succ]
  have:=Int.natAbs_add_le x y
  (first | lia | omega)
theorem Sz.neg {m:Nat} {x:Int} (hx:Sz m x):Sz m (-x):=by
  unfold Sz at *
  rw [Int.natAbs_neg];exact hx
theorem Sz.sub {m:Nat} {x y:Int} (hx:Sz m x) (hy:Sz m y):Sz (m+1) (x-y):=by
  rw [Int.sub_eq_add_neg];exact hx.add hy.neg
theorem Sz.of_le {m:Nat} {x y:Int} (hx:Sz m x) (h:y.natAbs≤x.natAbs):Sz m y:=Nat.lt_of_le_of_lt h hx
theorem Sz.log {m:Nat} {x:Int} (hx:Sz m x) (hm:m≤9000) (h0:0<m):x.natAbs.log2<9000:=by
  by_cases h:x.natAbs=0
  · rw [h];decide
  · have:=(Nat.log2_lt h).mpr hx
    (first | lia | omega)
theorem Sz.of_lt {m k:Nat} {x:Int} (h:x.natAbs<k) (hk:k≤2 ^ m):Sz m x:=Nat.lt_of_lt_of_le h hk

structure Low (t b t' b':Int):Prop where
  pos:1≤b'
  co:Int.gcd t' b'=1
  eq:t'*b=t*b'
  tb:t'.natAbs≤t.natAbs
  bb:b'.natAbs≤b.natAbs

theorem gcd_step (x y:Nat):Nat.gcd y (x % y)=Nat.gcd x y:=by
  rw [Nat.gcd_comm y,← Nat.gcd_rec,Nat.gcd_comm]

theorem ediv_gcd {t b:Int} (hb:b≠0):Int.gcd (t/(Int.gcd t b:Int)) (b/(Int.gcd t b:Int))=1:=by
  have hp:0<Int.gcd t b:=Int.gcd_pos_of_ne_zero_right t hb
  rw [Int.gcd_ediv (Int.gcd_dvd_left ..) (Int.gcd_dvd_right ..)]
  rw [Int.natAbs_natCast]
  exact Nat.div_self hp
theorem le_of_mul {a:Int} {g:Nat} {c:Int} (hg:0<g) (e:a*(g:Int)=c):a.natAbs≤c.natAbs:=by
  subst e
  rw [Int.natAbs_mul,Int.natAbs_natCast]
  exact Nat.le_mul_of_pos_right _ hg

theorem low_mk {t b t' b':Int} {g:Nat} (hg:0<g) (e1:t'*(g:Int)=t) (e2:b'*(g:Int)=b) (hb:0<b) (hc:Int.gcd t' b'=1):Low t b t' b':=by
  refine ⟨?_,hc,?_,le_of_mul hg e1,le_of_mul hg e2⟩
  · have:0<b':=Int.pos_of_mul_pos_left (b:=(g:Int)) (by rw [e2];exact hb) (by (first | lia | omega))
    (first | lia | omega)
  · rw [← e1,← e2,Int.mul_assoc,Int.mul_comm (g:Int) b']

theorem low_pos {t b:Int} (hb:0<b):Low t b (t.fdiv (Int.gcd t b:Int)) (b.fdiv (Int.gcd t b:Int)):=by
  have hp:0<Int.gcd t b:=Int.gcd_pos_of_ne_zero_right t (by (first | lia | omega))
  have h1:(Int.gcd t b:Int)∣t:=Int.gcd_dvd_left ..
  have h2:(Int.gcd t b:Int)∣b:=Int.gcd_dvd_right ..
  rw [Int.fdiv_eq_ediv_of_nonneg _ (by (first | lia | omega)),Int.fdiv_eq_ediv_of_nonneg _ (by (first | lia | omega))]
  exact low_mk hp (Int.ediv_mul_cancel h1) (Int.ediv_mul_cancel h2) hb (ediv_gcd (by (first | lia | omega)))

theorem fdiv_neg_neg (a:Int) (g:Nat):a.fdiv (-(g:Int))=(-a).fdiv (g:Int):=by
  have:=Int.neg_fdiv_neg a (-(g:Int))
  rw [Int.neg_neg] at this
  exact this.symm

theorem low_neg {t b:Int} (hb:b<0):Low (-t) (-b) (t.fdiv (-(Int.gcd t b:Int))) (b.fdiv (-(Int.gcd t b:Int))):=by
  have e:Int.gcd t b=Int.gcd (-t) (-b):=by rw [Int.gcd_neg,Int.neg_gcd]
  rw [fdiv_neg_neg,fdiv_neg_neg,e]
  exact low_pos (by (first | lia | omega))

theorem co_dvd {b a d:Int} (hc:Int.gcd b a=1) (h:b∣a*d):b∣d:=by
  have h':b.natAbs∣a.natAbs*d.natAbs:=by rw [← Int.natAbs_mul];exact Int.natAbs_dvd_natAbs.mpr h
  have hc':Nat.Coprime b.natAbs a.natAbs:=hc
  exact Int.natAbs_dvd_natAbs.mp (hc'.dvd_of_dvd_mul_left h')
theorem low_unique {a b c d:Int} (hb:1≤b) (hd:1≤d) (h1:Int.gcd a b=1) (h2:Int.gcd c d=1) (e:a*d=c*b):a=c∧b=d:=by
  have k1:b∣d:=by
    have:b∣a*d:=⟨c,by rw [e,Int.mul_comm]⟩
    exact co_dvd (by rw [Int.gcd_comm];exact h1) this
  have k2:d∣b:=by
    have:d∣c*b:=⟨a,by rw [← e,Int.mul_comm]⟩
    exact co_dvd (by rw [Int.gcd_comm];exact h2) this
  have hbd:b=d:=Int.dvd_antisymm (by (first | lia | omega)) (by (first | lia | omega)) k1 k2
  subst hbd
  exact ⟨Int.eq_of_mul_eq_mul_right (by (first | lia | omega)) e,rfl⟩

end Mth

namespace Mth
structure Steps (H L high low x0 y0 x1 y1:Int):Prop where
  sg:(x0*y1-x1*y0=1∧0≤x0∧y0≤0∧x1≤0∧1≤y1)∨(x0*y1-x1*y0=-1∧x0≤0∧0≤y0∧0≤x1∧y1≤-1)
  eh:x0*H+y0*L=high
  el:x1*H+y1*L=low
  l0:0≤low
  lh:low≤high
  st:(x0=1∧y0=0∧x1=0∧y1=1)∨(y0≠0∧high≤L∧340282366920938463463374607431768211456≤high∧x0.natAbs≤x1.natAbs∧y0.natAbs≤y1.natAbs)

theorem Steps.init {H L:Int} (h0:0≤L) (h:L≤H):Steps H L H L 1 0 0 1:=⟨.inl (by (first | lia | omega)),by (first | lia | omega),by (first | lia | omega),h0,h,.inl (by (first | lia | omega))⟩

theorem div_le {x y:Int} (hx:0≤x) (hy:0≤y):(x/y).natAbs≤x.natAbs:=by
  have h1:=Int.ediv_le_self (a:=x) y hx
  have h2:=Int.ediv_nonneg hx hy
  (first | lia | omega)

theorem mul_ge {q z:Int} (hq:1≤q) (hz:0≤z):z≤q*z:=by
  have:=Int.mul_le_mul_of_nonneg_right hq hz
  (first | lia | omega)

theorem Steps.step {H L high low x0 y0 x1 y1 q:Int} (h:Steps H L high low x0 y0 x1 y1) (hl:340282366920938463463374607431768211456≤low) (hq:q=high/low) :
    Steps H L low (high-q*low) x1 y1 (x0-q*x1) (y0-q*y1):=by
  obtain ⟨sg,eh,el,l0,lh,st⟩:=h
  have q1:1≤q:=by
    rw [hq];exact (Int.le_ediv_iff_mul_le (by (first | lia | omega))).mpr (by (first | lia | omega))
  have em:high-q*low=high % low:=by
    have:=Int.mul_ediv_add_emod high low
    rw [hq,Int.mul_comm];(first | lia | omega)
  have m0:0≤high % low:=Int.emod_nonneg _ (by (first | lia | omega))
  have m1:high % low<low:=Int.emod_lt_of_pos _ (by (first | lia | omega))
  have hlL:low≤L:=by
    rcases st with ⟨a,b,c,d⟩ | ⟨_,a,_⟩
    · subst a b c d;(first | lia | omega)
    · (first | lia | omega)
  have det:x1*(y0-q*y1)-(x0-q*x1)*y1=-(x0*y1-x1*y0):=by grind
  have hel:(x0-q*x1)*H+(y0-q*y1)*L=high-q*low:=by rw [← eh,← el];grind
  refine ⟨?_,el,hel,by (first | lia | omega),by (first | lia | omega),.inr ⟨?_,hlL,hl,?_,?_⟩⟩
  · rcases sg with ⟨d,a,b,c,e⟩ | ⟨d,a,b,c,e⟩
    · right
      have k1:=mul_ge q1 (z:=-x1) (by (first | lia | omega))
      have k2:=mul_ge q1 (z:=y1) (by (first | lia | omega))
      rw [Int.mul_neg] at k1
      exact ⟨by (first | lia | omega),by (first | lia | omega),by (first | lia | omega),by (first | lia | omega),by (first | lia | omega)⟩
    · left
      have k1:=mul_ge q1 (z:=x1) (by (first | lia | omega))
      have k2:=mul_ge q1 (z:=-y1) (by (first | lia | omega))
      rw [Int.mul_neg] at k2
      exact ⟨by (first | lia | omega),by (first | lia | omega),by (first | lia | omega),by (first | lia | omega),by (first | lia | omega)⟩
  · rcases sg with ⟨d,a,b,c,e⟩ | ⟨d,a,b,c,e⟩ <;> (first | lia | omega)
  · rcases sg with ⟨d,a,b,c,e⟩ | ⟨d,a,b,c,e⟩
    · have k1:=mul_ge q1 (z:=-x1) (by (first | lia | omega))
      rw [Int.mul_neg] at k1
      (first | lia | omega)
    · have k1:=mul_ge q1 (z:=x1) (by (first | lia | omega))
      (first | lia | omega)
  · rcases sg with ⟨d,a,b,c,e⟩ | ⟨d,a,b,c,e⟩
    · have k1:=mul_ge q1 (z:=y1) (by (first | lia | omega))
      (first | lia | omega)
    · have k1:=mul_ge q1 (z:=-y1) (by (first | lia | omega))
      rw [Int.mul_neg] at k1
      (first | lia | omega)

theorem Steps.high_le {H L high low x0 y0 x1 y1:Int} (h:Steps H L high low x0 y0 x1 y1) (h1:L≤H):high≤H:=by
  obtain ⟨sg,eh,el,l0,lh,st⟩:=h
  rcases st with ⟨a,b,c,d⟩ | ⟨_,a,_⟩
  · subst a b c d;(first | lia | omega)
  · (first | lia | omega)

theorem Steps.now_le {H L high low x0 y0 x1 y1:Int} (h:Steps H L high low x0 y0 x1 y1) (hh:1≤high):x1.natAbs≤L.natAbs∧y1.natAbs≤H.natAbs:=by
  obtain ⟨sg,eh,el,l0,lh,st⟩:=h
  rcases sg with ⟨d,a,b,c,e⟩ | ⟨d,a,b,c,e⟩
  · have e1:y1*high+(-y0)*low=H:=by
      have:y1*high+(-y0)*low=(x0*y1-x1*y0)*H:=by rw [← eh,← el];grind
      rw [this,d];(first | lia | omega)
    have e2:(-x1)*high+x0*low=L:=by
      have:(-x1)*high+x0*low=(x0*y1-x1*y0)*L:=by rw [← eh,← el];grind
      rw [this,d];(first | lia | omega)
    have n1:0≤(-y0)*low:=Int.mul_nonneg (by (first | lia | omega)) l0
    have n2:0≤x0*low:=Int.mul_nonneg (by (first | lia | omega)) l0
    have k1:y1≤y1*high:=by rw [Int.mul_comm];exact mul_ge hh (by (first | lia | omega))
    have k2:-x1≤(-x1)*high:=by rw [Int.mul_comm];exact mul_ge hh (by (first | lia | omega))
    (first | lia | omega)
  · have e1:(-y1)*high+y0*low=H:=by
      have:(-y1)*high+y0*low=-(x0*y1-x1*y0)*H:=by rw [← eh,← el];grind
      rw [this,d];(first | lia | omega)
    have e2:x1*high+(-x0)*low=L:=by
      have:x1*high+(-x0)*low=-(x0*y1-x1*y0)*L:=by rw [← eh,← el];grind
      rw [this,d];(first | lia | omega)
    have n1:0≤y0*low:=Int.mul_nonneg (by (first | lia | omega)) l0
    have n2:0≤(-x0)*low:=Int.mul_nonneg (by (first | lia | omega)) l0
    have k1:-y1≤(-y1)*high:=by rw [Int.mul_comm];exact mul_ge hh (by (first | lia | omega))
    have k2:x1≤x1*high:=by rw [Int.mul_comm];exact mul_ge hh (by (first | lia | omega))
    (first | lia | omega)

theorem small_of_mul {y h B:Int} (hy:0≤y) (hh:340282366920938463463374607431768211456≤h) (hm:y*h≤B) (hB:B<115792089237316195423570985008687907853269984665640564039457584007913129639936):y≤340282366920938463463374607431768211456:=by
  by_cases c:y≤340282366920938463463374607431768211456
  · exact c
  · have:=Int.mul_le_mul (a:=340282366920938463463374607431768211456) (c:=y) (b:=340282366920938463463374607431768211456) (d:=h) (by (first | lia | omega)) hh (by (first | lia | omega)) hy
    (first | lia | omega)

theorem Steps.small {H L high low x0 y0 x1 y1:Int} (h:Steps H L high low x0 y0 x1 y1) (hy:y0≠0) (hL:L≤H) (hH:H<115792089237316195423570985008687907853269984665640564039457584007913129639936) :
    x0.natAbs≤340282366920938463463374607431768211456∧y0.natAbs≤340282366920938463463374607431768211456∧x1.natAbs≤340282366920938463463374607431768211456∧y1.natAbs≤340282366920938463463374607431768211456:=by
  obtain ⟨sg,eh,el,l0,lh,st⟩:=h
  rcases st with ⟨_,z,_⟩ | ⟨_,hl,hh,ax,ay⟩
  · exact absurd z hy
  rcases sg with ⟨d,a,b,c,e⟩ | ⟨d,a,b,c,e⟩
  · have e1:y1*high+(-y0)*low=H:=by
      have:y1*high+(-y0)*low=(x0*y1-x1*y0)*H:=by rw [← eh,← el];grind
      rw [this,d];(first | lia | omega)
    have e2:(-x1)*high+x0*low=L:=by
      have:(-x1)*high+x0*low=(x0*y1-x1*y0)*L:=by rw [← eh,← el];grind
      rw [this,d];(first | lia | omega)
    have n1:0≤(-y0)*low:=Int.mul_nonneg (by (first | lia | omega)) l0
    have n2:0≤x0*low:=Int.mul_nonneg (by (first | lia | omega)) l0
    have k1:=small_of_mul (y:=y1) (B:=H) (by (first | lia | omega)) hh (by (first | lia | omega)) hH
    have k2:=small_of_mul (y:=-x1) (B:=H) (by (first | lia | omega)) hh (by (first | lia | omega)) hH
    (first | lia | omega)
  · have e1:(-y1)*high+y0*low=H:=by
      have:(-y1)*high+y0*low=-(x0*y1-x1*y0)*H:=by rw [← eh,← el];grind
      rw [this,d];(first | lia | omega)
    have e2:x1*high+(-x0)*low=L:=by
      have:x1*high+(-x0)*low=-(x0*y1-x1*y0)*L:=by rw [← eh,← el];grind
      rw [this,d];(first | lia | omega)
    have n1:0≤y0*low:=Int.mul_nonneg (by (first | lia | omega)) l0
    have n2:0≤(-x0)*low:=Int.mul_nonneg (by (first | lia | omega)) l0
    have k1:=small_of_mul (y:=-y1) (B:=H) (by (first | lia | omega)) hh (by (first | lia | omega)) hH
    have k2:=small_of_mul (y:=x1) (B:=H) (by (first | lia | omega)) hh (by (first | lia | omega)) hH
    (first | lia | omega)

theorem mix_le {x y f r T M:Int} (hx:x.natAbs≤M) (hy:y.natAbs≤M) (f0:0≤f) (f1:f≤T) (r0:0≤r) (r1:r≤T) (hs:(0≤x∧y≤0)∨(x≤0∧0≤y)):(x*f+y*r).natAbs≤M*T:=by
  rcases hs with ⟨a,b⟩ | ⟨a,b⟩
  · have k1:=Int.mul_le_mul (a:=x) (c:=M) (b:=f) (d:=T) (by (first | lia | omega)) f1 f0 (by (first | lia | omega))
    have k2:=Int.mul_le_mul (a:=-y) (c:=M) (b:=r) (d:=T) (by (first | lia | omega)) r1 r0 (by (first | lia | omega))
    have k3:=Int.mul_nonneg a f0
    have k4:=Int.mul_nonneg (a:=-y) (b:=r) (by (first | lia | omega)) r0
    rw [Int.neg_mul] at k2 k4
    (first | lia | omega)
  · have k1:=Int.mul_le_mul (a:=-x) (c:=M) (b:=f) (d:=T) (by (first | lia | omega)) f1 f0 (by (first | lia | omega))
    have k2:=Int.mul_le_mul (a:=y) (c:=M) (b:=r) (d:=T) (by (first | lia | omega)) r1 r0 (by (first | lia | omega))
    have k3:=Int.mul_nonneg (a:=-x) (b:=f) (by (first | lia | omega)) f0
    have k4:=Int.mul_nonneg (a:=y) (b:=r) (by (first | lia | omega)) r0
    rw [Int.neg_mul] at k1 k3
    (first | lia | omega)

theorem Steps.less {H L high low x0 y0 x1 y1 T f r:Int} (h:Steps H L high low x0 y0 x1 y1) (hy:y0≠0) (hL:L≤H) (h1:57896044618658097711785492504343953926634992332820282019728792003956564819968≤H)
    (hH:H<115792089237316195423570985008687907853269984665640564039457584007913129639936) (hl:low≤340282366920938463463374607431768211456) (f0:0≤f) (f1:f<T) (r0:0≤r) (r1:r<T) :
    (x0*(H*T+f)+y0*(L*T+r)).natAbs+(x1*(H*T+f)+y1*(L*T+r)).natAbs<(H*T+f).natAbs+(L*T+r).natAbs:=by
  obtain ⟨sx0,sy0,sx1,sy1⟩:=h.small hy hL hH
  obtain ⟨sg,eh,el,l0,lh,st⟩:=h
  rcases st with ⟨_,z,_⟩ | ⟨_,hhL,hh,ax,ay⟩
  · exact absurd z hy
  have A:x0*(H*T+f)+y0*(L*T+r)=high*T+(x0*f+y0*r):=by rw [← eh];grind
  have B:x1*(H*T+f)+y1*(L*T+r)=low*T+(x1*f+y1*r):=by rw [← el];grind
  have mA:=mix_le (x:=x0) (y:=y0) (f:=f) (r:=r) (T:=T) (M:=340282366920938463463374607431768211456) (by (first | lia | omega)) (by (first | lia | omega)) f0 (by (first | lia | omega)) r0 (by (first | lia | omega)) (by rcases sg with ⟨d,a,b,c,e⟩ | ⟨d,a,b,c,e⟩ <;> (first | lia | omega))
  have mB:=mix_le (x:=x1) (y:=y1) (f:=f) (r:=r) (T:=T) (M:=340282366920938463463374607431768211456) (by (first | lia | omega)) (by (first | lia | omega)) f0 (by (first | lia | omega)) r0 (by (first | lia | omega)) (by rcases sg with ⟨d,a,b,c,e⟩ | ⟨d,a,b,c,e⟩ <;> (first | lia | omega))
  have t1:0≤high*T:=Int.mul_nonneg (by (first | lia | omega)) (by (first | lia | omega))
  have t2:0≤low*T:=Int.mul_nonneg l0 (by (first | lia | omega))
  have t3:high*T≤L*T:=Int.mul_le_mul_of_nonneg_right hhL (by (first | lia | omega))
  have t4:low*T≤340282366920938463463374607431768211456*T:=Int.mul_le_mul_of_nonneg_right hl (by (first | lia | omega))
  have t5:57896044618658097711785492504343953926634992332820282019728792003956564819968*T≤H*T:=Int.mul_le_mul_of_nonneg_right h1 (by (first | lia | omega))
  rw [A,B]
  (first | lia | omega)

theorem gcd_mix {a b x0 y0 x1 y1:Int} (d:x0*y1-x1*y0=1∨x0*y1-x1*y0=-1):Int.gcd (x0*a+y0*b) (x1*a+y1*b)=Int.gcd a b:=by
  refine Nat.dvd_antisymm ?_ ?_
  · have h1:(Int.gcd (x0*a+y0*b) (x1*a+y1*b):Int)∣x0*a+y0*b:=Int.gcd_dvd_left ..
    have h2:(Int.gcd (x0*a+y0*b) (x1*a+y1*b):Int)∣x1*a+y1*b:=Int.gcd_dvd_right ..
    generalize (Int.gcd (x0*a+y0*b) (x1*a+y1*b))=g at h1 h2
    obtain ⟨u,hu⟩:=h1
    obtain ⟨v,hv⟩:=h2
    refine Int.dvd_gcd ?_ ?_
    · rcases d with d | d
      · exact ⟨y1*u-y0*v,by
          have:(x0*y1-x1*y0)*a=g*(y1*u-y0*v):=by grind
          rw [d] at this;(first | lia | omega)⟩
      · exact ⟨-(y1*u-y0*v),by
          have:-(x0*y1-x1*y0)*a=g*(-(y1*u-y0*v)):=by grind
          rw [d] at this;(first | lia | omega)⟩
    · rcases d with d | d
      · exact ⟨x0*v-x1*u,by
          have:(x0*y1-x1*y0)*b=g*(x0*v-x1*u):=by grind
          rw [d] at this;(first | lia | omega)⟩
      · exact ⟨-(x0*v-x1*u),by
          have:-(x0*y1-x1*y0)*b=g*(-(x0*v-x1*u)):=by grind
          rw [d] at this;(first | lia | omega)⟩
  · have h1:(Int.gcd a b:Int)∣a:=Int.gcd_dvd_left ..
    have h2:(Int.gcd a b:Int)∣b:=Int.gcd_dvd_right ..
    exact Int.dvd_gcd (Int.dvd_add (Int.dvd_mul_of_dvd_right h1) (Int.dvd_mul_of_dvd_right h2)) (Int.dvd_add (Int.dvd_mul_of_dvd_right h1) (Int.dvd_mul_of_dvd_right h2))
theorem Steps.gcd {H L high low x0 y0 x1 y1 a b:Int} (h:Steps H L high low x0 y0 x1 y1):Int.gcd (x0*a+y0*b) (x1*a+y1*b)=Int.gcd a b:=
  gcd_mix (h.sg.imp (·.1) (·.1))

theorem head_of {x:Int} {t:Nat} (lo:(2:Int) ^ (255+t)≤x) (hi:x<(2:Int) ^ (256+t)) :
    57896044618658097711785492504343953926634992332820282019728792003956564819968≤x/2 ^ t∧x/2 ^ t<115792089237316195423570985008687907853269984665640564039457584007913129639936:=by
  have tp:(0:Int)<2 ^ t:=Int.pow_pos (by decide)
  refine ⟨(Int.le_ediv_iff_mul_le tp).mpr ?_,(Int.ediv_lt_iff_lt_mul tp).mpr ?_⟩
  · rw [Int.pow_add] at lo;exact lo
  · rw [Int.pow_add] at hi;exact hi

theorem heads_less {x y H L high low x0 y0 x1 y1:Int} {t:Nat} (h:Steps H L high low x0 y0 x1 y1) (hy:y0≠0) (yx:y≤x) (lo:(2:Int) ^ (255+t)≤x) (hi:x<(2:Int) ^ (256+t))
    (eH:H=x/2 ^ t) (eL:L=y/2 ^ t) (hl:low≤340282366920938463463374607431768211456) :
    (x0*x+y0*y).natAbs+(x1*x+y1*y).natAbs<x.natAbs+y.natAbs:=by
  have tp:(0:Int)<2 ^ t:=Int.pow_pos (by decide)
  have hd:=head_of lo hi
  have e1:=Int.mul_ediv_add_emod x (2 ^ t)
  have e2:=Int.mul_ediv_add_emod y (2 ^ t)
  have m1:=Int.emod_nonneg x (b:=2 ^ t) (by (first | lia | omega))
  have m2:=Int.emod_nonneg y (b:=2 ^ t) (by (first | lia | omega))
  have l1:=Int.emod_lt_of_pos x tp
  have l2:=Int.emod_lt_of_pos y tp
  have hLH:L≤H:=by rw [eH,eL];exact Int.ediv_le_ediv tp yx
  have:=h.less hy hLH (by rw [eH];exact hd.1) (by rw [eH];exact hd.2) hl m1 l1 m2 l2
  rw [eH,eL,Int.mul_comm (x/2 ^ t),Int.mul_comm (y/2 ^ t),e1,e2] at this
  exact this

theorem gcd_maxmin {a b:Int} {p q:Int} (hp:p=if b>a then b else a) (hq:q=if b<a then b else a):Int.gcd p q=Int.gcd a b:=by
  subst hp hq
  by_cases h:b>a
  · rw [if_pos h,if_neg (by (first | lia | omega))];exact Int.gcd_comm b a
  · by_cases k:b<a
    · rw [if_neg h,if_pos k]
    · have:a=b:=by (first | lia | omega)
      subst this;simp
theorem mm_nn (A B:Nat):0≤(if (B:Int)<(A:Int) then (B:Int) else (A:Int)):=by
  split
  · exact Int.natCast_nonneg _
  · exact Int.natCast_nonneg _
theorem mm_two (A B:Nat):((if (B:Int)>(A:Int) then (B:Int) else (A:Int))=(B:Int)∧(if (B:Int)<(A:Int) then (B:Int) else (A:Int))=(A:Int)∧(A:Int)≤(B:Int))∨((if (B:Int)>(A:Int) then (B:Int) else (A:Int))=(A:Int)∧(if (B:Int)<(A:Int) then (B:Int) else (A:Int))=(B:Int)∧(B:Int)≤(A:Int)):=by
  rcases Int.lt_or_le (A:Int) (B:Int) with h | h
  · exact .inl ⟨if_pos h,if_neg (Int.not_lt.mpr (Int.le_of_lt h)),Int.le_of_lt h⟩
  · refine .inr ⟨if_neg (Int.not_lt.mpr h),?_,h⟩
    split
    · rfl
    · rename_i h2
      exact Int.le_antisymm (Int.not_lt.mp h2) h
theorem mm_le (A B:Nat):(if (B:Int)<(A:Int) then (B:Int) else (A:Int))≤(if (B:Int)>(A:Int) then (B:Int) else (A:Int)):=by
  rcases mm_two A B with ⟨e1,e2,h⟩ | ⟨e1,e2,h⟩ <;> rw [e1,e2] <;> exact h
theorem mm_sum {A B:Nat} {z:Int} (h:A+B≤z.natAbs):((if (B:Int)>(A:Int) then (B:Int) else (A:Int))+(if (B:Int)<(A:Int) then (B:Int) else (A:Int))).natAbs≤z.natAbs:=by
  rcases mm_two A B with ⟨e1,e2,_⟩ | ⟨e1,e2,_⟩ <;> rw [e1,e2]
  · exact Nat.le_trans (Int.natAbs_add_le _ _) (by rw [Nat.add_comm];exact h)
  · exact Nat.le_trans (Int.natAbs_add_le _ _) h
theorem mm_to {A B:Nat} {x y:Int} (ls:A+B<x.natAbs+y.natAbs) (y0:0≤y) (yx:y≤x):Int.toNat (if (B:Int)>(A:Int) then (B:Int) else (A:Int))+Int.toNat (if (B:Int)<(A:Int) then (B:Int) else (A:Int))<Int.toNat x+Int.toNat y:=by
  have ex:x.toNat=x.natAbs:=Int.toNat_of_nonneg (Int.le_trans y0 yx) |> fun e=>Int.ofNat.inj (e.trans (Int.natAbs_of_nonneg (Int.le_trans y0 yx)).symm)
  have ey:y.toNat=y.natAbs:=Int.toNat_of_nonneg y0 |> fun e=>Int.ofNat.inj (e.trans (Int.natAbs_of_nonneg y0).symm)
  rw [ex,ey]
  rcases mm_two A B with ⟨e1,e2,_⟩ | ⟨e1,e2,_⟩ <;> rw [e1,e2,Int.toNat_natCast,Int.toNat_natCast]
  · rw [Nat.add_comm]
    exact ls
  · exact ls
theorem nab {a b:Int} {p q r:Nat} (ha:a.natAbs≤p) (hb:b.natAbs≤q) (h:p+q≤r):(a+b).natAbs≤r:=Nat.le_trans (Int.natAbs_add_le a b) (Nat.le_trans (Nat.add_le_add ha hb) h)
theorem nab5 {w:Int} (h0:0≤w) (h5:w<5):(w-1).natAbs≤3:=by lia
theorem nabz {z:Int} (h0:0≤z) (h:z<25):(z-12).natAbs≤12:=by lia
theorem nab3 {w:Int} (h0:0≤w) (h5:w<3):w.natAbs≤12:=by lia
theorem nabm {st:Int} (h0:0≤st) (h:st≤2*1009):(1+st).natAbs≤2100:=by lia
theorem mm_xy {A B:Nat} {x y:Int} (ls:A+B<x.natAbs+y.natAbs) (y0:0≤y) (yx:y≤x):A+B≤(x+y).natAbs:=by (first | lia | omega)
theorem fd_mod {x y:Int} (y0:0≤y):1*x+-(x.fdiv y)*y=x % y:=by
  have em:=Int.mul_ediv_add_emod x y
  rw [Int.mul_comm] at em
  rw [Int.fdiv_eq_ediv_of_nonneg _ y0,Int.neg_mul]
  (first | lia | omega)
theorem fd_less {x y:Int} (y1:1≤y) (yx:y≤x):(0*x+1*y).natAbs+(1*x+-(x.fdiv y)*y).natAbs<x.natAbs+y.natAbs:=by
  have m0:=Int.emod_nonneg x (b:=y) (by (first | lia | omega))
  have m1:=Int.emod_lt_of_pos x (b:=y) (by (first | lia | omega))
  rw [fd_mod (by (first | lia | omega))]
  (first | lia | omega)
end Mth

namespace Mth
structure Qt (t b:Int) (q:Rat):Prop where
  pos:1≤b
  eq:(t:Rat)=q*(b:Rat)
structure Fr (t b:Int) (q:Rat):Prop where
  pos:1≤b
  co:Int.gcd t b=1
  eq:(t:Rat)=q*(b:Rat)
theorem Fr.qt {t b:Int} {q:Rat} (h:Fr t b q):Qt t b q:=⟨h.pos,h.eq⟩
theorem cast_ne {b:Int} (h:b≠0):(b:Rat)≠0:=by
  intro e
  apply h
  have:((b:Int):Rat)=((0:Int):Rat):=by rw [e];rfl
  exact Rat.intCast_inj.mp this
theorem Fr.of_low {T B t b:Int} {q:Rat} (h:Low T B t b) (hB:B≠0) (e:(T:Rat)=q*(B:Rat)):Fr t b q:=by
  refine ⟨h.pos,h.co,?_⟩
  have k:=congrArg (fun x:Int=>(x:Rat)) h.eq
  simp only [Rat.intCast_mul] at k
  have hB':=cast_ne hB
  grind
theorem Fr.unique {t b t' b':Int} {q:Rat} (h:Fr t b q) (h':Fr t' b' q):t=t'∧b=b':=by
  refine low_unique h.pos h'.pos h.co h'.co ?_
  have e:((t*b':Int):Rat)=((t'*b:Int):Rat):=by
    have e1:=h.eq
    have e2:=h'.eq
    simp only [Rat.intCast_mul]
    grind
  exact Rat.intCast_inj.mp e
theorem Fr.worth {t b t' b':Int} {q q':Rat} (h:Fr t b q) (h':Fr t' b' q') (e:t=t') (e':b=b'):q=q':=by
  subst e e'
  have hb:=cast_ne (b:=b) (by have:=h.pos;(first | lia | omega))
  have e1:=h.eq
  have e2:=h'.eq
  grind
theorem mul_pos1 {b d:Int} (hb:1≤b) (hd:1≤d):1≤b*d:=by
  have:=Int.mul_pos (show 0<b by (first | lia | omega)) (show 0<d by (first | lia | omega))
  (first | lia | omega)
theorem Qt.plus {a b c d:Int} {q r:Rat} (h:Qt a b q) (k:Qt c d r):Qt (a*d+c*b) (b*d) (q+r):=by
  refine ⟨mul_pos1 h.pos k.pos,?_⟩
  have e1:=h.eq
  have e2:=k.eq
  simp only [Rat.intCast_mul,Rat.intCast_add]
  grind
theorem Qt.minus {a b c d:Int} {q r:Rat} (h:Qt a b q) (k:Qt c d r):Qt (a*d-c*b) (b*d) (q-r):=by
  refine ⟨mul_pos1 h.pos k.pos,?_⟩
  have e1:=h.eq
  have e2:=k.eq
  simp only [Rat.intCast_mul,Rat.intCast_sub]
  grind
theorem Qt.times {a b c d:Int} {q r:Rat} (h:Qt a b q) (k:Qt c d r):Qt (a*c) (b*d) (q*r):=by
  refine ⟨mul_pos1 h.pos k.pos,?_⟩
  have e1:=h.eq
  have e2:=k.eq
  simp only [Rat.intCast_mul]
  grind
theorem Qt.neg {a b:Int} {q:Rat} (h:Qt a b q):Qt (-a) b (-q):=by
  refine ⟨h.pos,?_⟩
  have e1:=h.eq
  simp only [Rat.intCast_neg]
  grind
theorem Qt.whole (m:Int):Qt m 1 (m:Rat):=⟨by (first | lia | omega),by simp⟩
theorem Fr.whole (m:Int):Fr m 1 (m:Rat):=⟨by (first | lia | omega),by simp,by simp⟩
theorem Qt.div {a b s:Int} {q:Rat} (h:Qt a b q) (hs:0<s):Qt a (b*s) (q/(s:Rat)):=by
  refine ⟨mul_pos1 h.pos (by (first | lia | omega)),?_⟩
  have e1:=h.eq
  have hs':=cast_ne (b:=s) (by (first | lia | omega))
  simp only [Rat.intCast_mul]
  grind
theorem Qt.divN {a b s:Int} {q:Rat} (h:Qt a b q) (hs:s<0):Qt (-a) (b*-s) (q/(s:Rat)):=by
  have k:=h.neg.div (s:=-s) (by (first | lia | omega))
  have hs':=cast_ne (b:=s) (by (first | lia | omega))
  have e:-q/((-s:Int):Rat)=q/(s:Rat):=by
    simp only [Rat.intCast_neg]
    grind
  rw [e] at k
  exact k
theorem over_eq {a b c d:Int} {q r:Rat} (h:Qt a b q) (k:Qt c d r) (hc:c≠0):b*c≠0∧((a*d:Int):Rat)=q/r*((b*c:Int):Rat):=by
  have hb:=h.pos
  have hd:=k.pos
  refine ⟨Int.mul_ne_zero (by (first | lia | omega)) hc,?_⟩
  have e1:=h.eq
  have e2:=k.eq
  have hc':=cast_ne hc
  have hd':=cast_ne (b:=d) (by (first | lia | omega))
  have hr:r≠0:=by
    intro z
    rw [z] at e2
    apply hc'
    grind
  simp only [Rat.intCast_mul]
  grind
theorem Qt.zero_iff {a b:Int} {q:Rat} (h:Qt a b q):a=0↔q=0:=by
  have e:=h.eq
  have hb:=cast_ne (b:=b) (by have:=h.pos;(first | lia | omega))
  constructor
  · intro z
    subst z
    have:(0:Rat)=q*(b:Rat):=by rw [← e];rfl
    grind
  · intro z
    subst z
    have:((a:Int):Rat)=((0:Int):Rat):=by rw [e];grind
    exact Rat.intCast_inj.mp this
theorem Qt.lt_iff {a b c d:Int} {q r:Rat} (h:Qt a b q) (k:Qt c d r):a*d<c*b↔q<r:=by
  have e1:=h.eq
  have e2:=k.eq
  have hb:(0:Rat)<(b:Rat):=by have:=h.pos;exact Rat.intCast_pos.mpr (by (first | lia | omega))
  have hd:(0:Rat)<(d:Rat):=by have:=k.pos;exact Rat.intCast_pos.mpr (by (first | lia | omega))
  have hbd:(0:Rat)<(b:Rat)*(d:Rat):=Rat.mul_pos hb hd
  have l:((a*d:Int):Rat)=q*((b:Rat)*(d:Rat)):=by simp only [Rat.intCast_mul];grind
  have m:((c*b:Int):Rat)=r*((b:Rat)*(d:Rat)):=by simp only [Rat.intCast_mul];grind
  rw [← Rat.intCast_lt_intCast,l,m]
  exact Rat.mul_lt_mul_right hbd
end Mth

namespace Mth
noncomputable def rabs (q:Rat):Rat:=if q<0 then -q else q
theorem rabs_nn (q:Rat):0≤rabs q:=by unfold rabs;split <;> grind
theorem rabs_le {q w:Rat}:rabs q≤w↔-w≤q∧q≤w:=by unfold rabs;split <;> grind
theorem Qt.abs {a b:Int} {q:Rat} (h:Qt a b q):Qt (a.natAbs:Int) b (rabs q):=by
  have hb:(0:Rat)<(b:Rat):=by have:=h.pos;exact Rat.intCast_pos.mpr (by (first | lia | omega))
  have z:a<0↔q<0:=by
    have l:=Qt.lt_iff h (Qt.whole 0)
    simp at l
    exact l
  unfold rabs
  by_cases h0:a<0
  · rw [if_pos (z.mp h0)]
    have e:(a.natAbs:Int)=-a:=by (first | lia | omega)
    rw [e]
    exact h.neg
  · rw [if_neg (fun q=>h0 (z.mpr q))]
    have e:(a.natAbs:Int)=a:=by (first | lia | omega)
    rw [e]
    exact h
noncomputable def chord (t:Rat) (q:Rat) (u:Rat) (t':Rat) (q':Rat):Rat:=(q*(t'-u)+q'*(u-t))/(t'-t)
theorem chord_along {t q u t' q':Rat} (h:t≠t'):q+(q'-q)/(t'-t)*(u-t)=chord t q u t' q':=by
  unfold chord
  have:t'-t≠0:=by grind
  grind
end Mth

namespace Mth
theorem Fr.own (q:Rat):Fr q.num (q.den:Int) q:=by
  have hp:=q.den_pos
  have hd:((q.den:Int):Rat)≠0:=cast_ne (by (first | lia | omega))
  refine ⟨by (first | lia | omega),?_,?_⟩
  · have:=q.reduced
    exact this
  · have h:=Rat.num_divInt_den q
    rw [Rat.divInt_eq_div] at h
    grind
theorem Fr.num_den {t b:Int} {q:Rat} (h:Fr t b q):t=q.num∧b=(q.den:Int):=h.unique (Fr.own q)
noncomputable def inRun {α:Type} (s:α→Bool) (es:List α) (i:Nat):Bool:=decide (0<i)&&((es[i-1]?).map s).getD false
noncomputable def parts {α:Type} (s:α→Bool) (es:List α):Nat→List (List α)
  | 0=>[]
  | i+1=>match es[i]? with
    | none=>parts s es i
    | some e=>if s e=true then (if inRun s es i=true then (parts s es i).dropLast++[((parts s es i).getLast?.getD [])++[e]] else parts s es i++[[e]]) else parts s es i
section
variable {α:Type} {s:α→Bool} {es:List α} {i:Nat} {e:α}
theorem parts_gap (h:es[i]?=some e) (hs:s e=false):parts s es (i+1)=parts s es i:=by
  show (match es[i]? with | none=>_ | some e=>_)=_
  rw [h]
  show (if s e=true then _ else _)=_
  rw [hs]
  rfl
theorem parts_new (h:es[i]?=some e) (hs:s e=true) (hi:inRun s es i=false):parts s es (i+1)=parts s es i++[[e]]:=by
  show (match es[i]? with | none=>_ | some e=>_)=_
  rw [h]
  show (if s e=true then (if inRun s es i=true then _ else _) else _)=_
  rw [hs,hi]
  rfl
theorem parts_on {t:List (List α)} {r:List α} (h:es[i]?=some e) (hs:s e=true) (hi:inRun s es i=true) (hp:parts s es i=t++[r]):parts s es (i+1)=t++[r++[e]]:=by
  show (match es[i]? with | none=>_ | some e=>_)=_
  rw [h]
  show (if s e=true then (if inRun s es i=true then _ else _) else _)=_
  rw [hs,hi,hp]
  simp
theorem parts_len:∀i:Nat,(parts s es i).length≤i
  | 0=>Nat.le_refl _
  | i+1=>by
    have ih:=parts_len i
    show (match es[i]? with | none=>_ | some e=>_:List (List α)).length≤i+1
    cases es[i]? with
    | none=>exact Nat.le_succ_of_le ih
    | some e=>
      show (if s e=true then (if inRun s es i=true then _ else _) else _:List (List α)).length≤i+1
      split
      · split
        · rw [List.length_append,List.length_dropLast]
          simp
          (first | lia | omega)
        · rw [List.length_append]
          simp
          (first | lia | omega)
      · exact Nat.le_succ_of_le ih
theorem parts_ne (h:inRun s es i=true):∃t r,parts s es i=t++[r]:=by
  unfold inRun at h
  rw [Bool.and_eq_true] at h
  obtain ⟨h0,h1⟩:=h
  have h0:=of_decide_eq_true h0
  obtain ⟨j,rfl⟩:∃j,i=j+1:=⟨i-1,by (first | lia | omega)⟩
  rw [Nat.add_sub_cancel] at h1
  cases e:es[j]? with
  | none=>rw [e] at h1;simp at h1
  | some d=>
    rw [e] at h1
    have hd:s d=true:=by simpa using h1
    cases hr:inRun s es j with
    | true=>
      refine ⟨(parts s es j).dropLast,((parts s es j).getLast?.getD [])++[d],?_⟩
      show (match es[j]? with | none=>_ | some e=>_)=_
      rw [e]
      show (if s d=true then (if inRun s es j=true then _ else _) else _)=_
      rw [hd,hr]
      rfl
    | false=>exact ⟨_,_,parts_new e hd hr⟩
theorem inRun_succ (h:es[i]?=some e):inRun s es (i+1)=s e:=by
  unfold inRun
  rw [Nat.add_sub_cancel,h]
  simp
end
end Mth

namespace Mth
theorem rabs_mul {q s:Rat} (h:0<s):rabs (q*s)=rabs q*s:=by
  unfold rabs
  by_cases h0:q<0
  · have:q*s<0:=by
      have:=Rat.mul_lt_mul_of_pos_right h0 h
      grind
    rw [if_pos h0,if_pos this]
    grind
  · have:¬q*s<0:=by
      have h1:0≤q:=by grind
      have:=Rat.mul_nonneg h1 (show 0≤s by grind)
      grind
    rw [if_neg h0,if_neg this]
theorem cast_pos {b:Int} (h:0<b):(0:Rat)<(b:Rat):=Rat.intCast_pos.mpr h
theorem chord_mul {t q u t' q':Rat} (h:t'-t≠0):chord t q u t' q'*(t'-t)=q*(t'-u)+q'*(u-t):=by
  unfold chord
  grind
section
variable {s s':Nat→Rat} {i m k k':Nat} {c:Rat}
end
end Mth

namespace Mth
section
variable {L:Nat→Nat→Prop} {N f:Nat} {t u:Nat→Int}
end
theorem rdiv_le {a b c:Rat} (h:0<c):a/c≤b↔a≤b*c:=by
  have e:a/c*c=a:=by grind
  constructor
  · intro z
    have:=Rat.mul_le_mul_of_nonneg_right z (show 0≤c by grind)
    rw [e] at this
    exact this
  · intro z
    exact Rat.le_of_mul_le_mul_right (by rw [e];exact z) h
theorem rle_div {a b c:Rat} (h:0<c):a≤b/c↔a*c≤b:=by
  have e:b/c*c=b:=by grind
  constructor
  · intro z
    have:=Rat.mul_le_mul_of_nonneg_right z (show 0≤c by grind)
    rw [e] at this
    exact this
  · intro z
    exact Rat.le_of_mul_le_mul_right (by rw [e];exact z) h
end Mth

namespace Mth
section
variable {t v:Nat→Rat} {B s:Rat} {n i j k l:Nat}
noncomputable def loP (t v:Nat→Rat) (B:Rat) (i j:Nat):Rat:=(v j-B-v i)/(t j-t i)
noncomputable def hiP (t v:Nat→Rat) (B:Rat) (i j:Nat):Rat:=(v j+B-v i)/(t j-t i)
noncomputable def stP (t v:Nat→Rat) (i j k:Nat):Rat:=v j-chord (t i) (v i) (t j) (t k) (v k)
noncomputable def Rise (t:Nat→Rat) (n:Nat):Prop:=∀i j,i<j→j<n→t i<t j
theorem chord_shear {ta tb tc x y:Rat} (s:Rat) (h:ta<tc):chord ta (x-s*ta) tb tc (y-s*tc)=chord ta x tb tc y-s*tb:=by
  have h1:=chord_mul (t:=ta) (q:=x-s*ta) (u:=tb) (t':=tc) (q':=y-s*tc) (by grind)
  have h2:=chord_mul (t:=ta) (q:=x) (u:=tb) (t':=tc) (q':=y) (by grind)
  have h0:tc-ta≠0:=by grind
  have e:(chord ta (x-s*ta) tb tc (y-s*tc)-(chord ta x tb tc y-s*tb))*(tc-ta)=0:=by grind
  rcases Rat.mul_eq_zero.mp e with z | z
  · grind
  · exact absurd z h0
theorem chord_lt {ta tb tc x y M:Rat} (h1:ta<tb) (h2:tb<tc) (hx:x<M) (hy:y<M):chord ta x tb tc y<M:=by
  have e:=chord_mul (t:=ta) (q:=x) (u:=tb) (t':=tc) (q':=y) (by grind)
  have p1:=(Rat.mul_lt_mul_right (show 0<tc-tb by grind)).mpr hx
  have p2:=(Rat.mul_lt_mul_right (show 0<tb-ta by grind)).mpr hy
  refine (Rat.mul_lt_mul_right (show 0<tc-ta by grind)).mp ?_
  rw [e]
  grind
theorem chord_gt {ta tb tc x y M:Rat} (h1:ta<tb) (h2:tb<tc) (hx:M<x) (hy:M<y):M<chord ta x tb tc y:=by
  have e:=chord_mul (t:=ta) (q:=x) (u:=tb) (t':=tc) (q':=y) (by grind)
  have p1:=(Rat.mul_lt_mul_right (show 0<tc-tb by grind)).mpr hx
  have p2:=(Rat.mul_lt_mul_right (show 0<tb-ta by grind)).mpr hy
  refine (Rat.mul_lt_mul_right (show 0<tc-ta by grind)).mp ?_
  rw [e]
  grind
theorem cap_big (h1:t i<t j) (h2:t j<t k) (a:B<(v j-s*t j)-(v i-s*t i)) (b:B<(v j-s*t j)-(v k-s*t k)):B<stP t v i j k:=by
  have c:=chord_lt (M:=v j-s*t j-B) h1 h2 (show v i-s*t i<_ by grind) (show v k-s*t k<_ by grind)
  rw [chord_shear s (by grind)] at c
  unfold stP
  grind
theorem cup_big (h1:t i<t j) (h2:t j<t k) (a:B<(v i-s*t i)-(v j-s*t j)) (b:B<(v k-s*t k)-(v j-s*t j)):B < -stP t v i j k:=by
  have c:=chord_gt (M:=v j-s*t j+B) h1 h2 (show _<v i-s*t i by grind) (show _<v k-s*t k by grind)
  rw [chord_shear s (by grind)] at c
  unfold stP
  grind
theorem rabs_gt {q w:Rat} (h:w<q∨w < -q):w<rabs q:=by
  unfold rabs
  split <;> grind
theorem helly (hr:Rise t n) (hp:∀i j k,i<j→j<k→k<n→rabs (stP t v i j k)≤B) (hB:0≤B) (hij:i<j) (hj:j<n) (hkl:k<l) (hl:l<n):loP t v B i j≤hiP t v B k l:=by
  apply Rat.not_lt.mp
  intro hlt
  have dj:=hr i j hij hj
  have dl:=hr k l hkl hl
  obtain ⟨s,s1,s2⟩:∃s,hiP t v B k l<s∧s<loP t v B i j:=⟨(hiP t v B k l+loP t v B i j)/2,by grind,by grind⟩
  have e1:B<(v j-s*t j)-(v i-s*t i):=by
    have h:=(rle_div (a:=s) (b:=v j-B-v i) (c:=t j-t i) (by grind))
    have:¬(v j-B-v i)/(t j-t i)≤s:=by unfold loP at s2;grind
    rw [rdiv_le (by grind)] at this
    grind
  have e2:B<(v k-s*t k)-(v l-s*t l):=by
    have:¬s≤(v l+B-v k)/(t l-t k):=by unfold hiP at s1;grind
    rw [rle_div (by grind)] at this
    grind
  have bad:∀a b c,a<b→b<c→c<n→(B<stP t v a b c∨B < -stP t v a b c)→False:=fun a b c h1 h2 h3 h4=>by
    have g1:=hp a b c h1 h2 h3
    have g2:=rabs_gt h4
    grind
  by_cases hc:v k-s*t k≤v j-s*t j
  · by_cases hjl:j<l
    · exact bad i j l hij hjl hl (.inl (cap_big dj (hr j l hjl hl) e1 (by grind)))
    · have hne:j≠l:=fun z=>by subst z;grind
      have hlj:l<j:=by (first | lia | omega)
      exact bad k l j hkl hlj hj (.inr (cup_big dl (hr l j hlj hj) e2 (by grind)))
  · by_cases hik:i<k
    · exact bad i k l hik hkl hl (.inl (cap_big (hr i k hik (by (first | lia | omega))) dl (by grind) e2))
    · have hne:i≠k:=fun z=>by subst z;grind
      have hki:k<i:=by (first | lia | omega)
      exact bad k i j hki hij hj (.inr (cup_big (hr k i hki (by (first | lia | omega))) dj (by grind) e1))
theorem three_of (h1:t i<t j) (h2:t j<t k) (a1:loP t v B i j≤s) (a2:s≤hiP t v B i j) (b1:loP t v B j k≤s) (b2:s≤hiP t v B j k):rabs (stP t v i j k)≤B:=by
  have h3:t i<t k:=by grind
  unfold loP at a1 b1
  unfold hiP at a2 b2
  rw [rdiv_le (by grind)] at a1 b1
  rw [rle_div (by grind)] at a2 b2
  rw [rabs_le]
  unfold stP
  have e:=chord_shear (ta:=t i) (tb:=t j) (tc:=t k) (x:=v i) (y:=v k) s h3
  constructor
  · apply Rat.not_lt.mp
    intro z
    have c:=chord_lt (M:=v j-s*t j-(v j-chord (t i) (v i) (t j) (t k) (v k))) (x:=v i-s*t i) (y:=v k-s*t k) h1 h2 (by grind) (by grind)
    rw [e] at c
    grind
  · apply Rat.not_lt.mp
    intro z
    have c:=chord_gt (M:=v j-s*t j-(v j-chord (t i) (v i) (t j) (t k) (v k))) (x:=v i-s*t i) (y:=v k-s*t k) h1 h2 (by grind) (by grind)
    rw [e] at c
    grind
end
end Mth

namespace My
open PySem PySem.Spec PyProof.Rows L2 Mth

theorem mulOk {m n:Nat} {x y:Int} (hx:Sz m x) (hy:Sz n y) (h:autoParam (m+n≤134217728) au1_._auto_1):IntMulOk x y:=
  IntMulOk.of_le (intBits_le_iff.mpr hx) (intBits_le_iff.mpr hy) h
theorem mulR {x y:Int} (h1:-(2 ^ 64)<y) (h2:y<2 ^ 64):IntMulOk x y:=CMul.ok (.inr ⟨h1,h2⟩)
theorem mulL {x y:Int} (h1:-(2 ^ 64)<x) (h2:x<2 ^ 64):IntMulOk x y:=CMul.ok (.inl ⟨h1,h2⟩)
noncomputable def CDivB (_ j:Int):Prop:=j≠0∧j.natAbs.log2<9000

section
variable {X:Cx}
theorem op_mulB:OpR X (binaryOp .Mult) (rI IntMulOk fun i j=>.int (i*j)):=opI fun _ _ _ _ _ _ _ hc q=>mul_int q hc
theorem op_fdivB:OpR X (binaryOp .FloorDiv) (rI CDivB fun i j=>.int (i.fdiv j)):=opI fun _ _ _ _ _ _ _ hc q=>floordiv_int hc.1 q (.inl (PyProof.noPylong_of_log2 hc.2))
end

mutual
inductive Den (H:Hp):V→PyData→Prop where
  | non:Den H .non .none
  | bl (b:Bool):Den H (.bl b) (.bool b)
  | int (i:Int):Den H (.int i) (.int i)
  | str (x:Str):Den H (.str x) (.str x)
  | tup {a:Addr} {xs:List V} {ds:List PyData}:H a=some (.tup xs)→Dens H xs ds→Den H (.ref a) (.tuple ds)
  | lst {a:Addr} {xs:List V} {ds:List PyData}:H a=some (.lst xs)→Dens H xs ds→Den H (.ref a) (.list ds)
inductive Dens (H:Hp):List V→List PyData→Prop where
  | nil:Dens H [] []
  | cons {x:V} {xs:List V} {d:PyData} {ds:List PyData}:Den H x d→Dens H xs ds→Dens H (x::xs) (d::ds)
end
section
variable {P:Program} {w:World} {H:Hp} {h:Heap}
mutual
theorem Den.reads (ok:HOk P w H h):∀{v:V} {d:PyData},Den H v d→∀{u:Value},RelV v u→∃as,Reads h u d as
  | _,_,.non,u,r=>by cases (show u=Value.none from r);exact ⟨_,Reads.none⟩
  | _,_,.bl b,u,r=>by cases (show u=Value.bool b from r);exact ⟨_,Reads.bool b⟩
  | _,_,.int i,u,r=>by obtain ⟨t,q⟩:=(show ∃t,u=Value.int i t from r);cases q;exact ⟨_,Reads.int i t⟩
  | _,_,.str x,u,r=>by obtain ⟨t,q⟩:=(show ∃t,u=Value.str x t from r);cases q;exact ⟨_,Reads.str x t⟩
  | _,_,@Den.tup _ a xs ds e dd,u,r=>by
    cases (show u=Value.ref a from r)
    obtain ⟨_,its,rv,o,h1,h2,n,h3⟩:=(show ObjOk P w H h a (.tup xs) from ok a _ e)
    obtain ⟨as,q⟩:=Dens.reads ok dd rv
    exact ⟨as,reads_tuple_at h1 h2 h3 (by simpa using q)⟩
  | _,_,@Den.lst _ a xs ds e dd,u,r=>by
    cases (show u=Value.ref a from r)
    obtain ⟨_,its,n,rv,h1⟩:=(show ObjOk P w H h a (.lst xs) from ok a _ e)
    obtain ⟨as,q⟩:=Dens.reads ok dd rv
    exact ⟨_,reads_list_at h1 rfl rfl (by simpa using q)⟩
theorem Dens.reads (ok:HOk P w H h):∀{vs:List V} {ds:List PyData},Dens H vs ds→∀{us:List Value},Vals vs us→∃as,ReadsAll h us ds as
  | _,_,.nil,_,.nil=>⟨_,ReadsAll.nil⟩
  | _,_,.cons d dd,_,.cons r rr=>by
    obtain ⟨as,q⟩:=Den.reads ok d r
    obtain ⟨bs,p⟩:=Dens.reads ok dd rr
    exact ⟨_,ReadsAll.cons q p⟩
end
end
noncomputable def rEqD:R2:=fun x y H Q=>∃d e,Den H x d∧Den H y e∧SeqAt.shaped d=true∧SeqAt.shaped e=true∧Q (.bl (PyData.eqv d e)) H
section
variable {X:Cx}
theorem op_eqD (hu:X.A.units+64<cLine):OpR X (compareOp .Eq) rEqD:=by
  intro pins s σ H x y v u Q I rx ry h
  obtain ⟨d,e,hd,he,s1,s2,q⟩:=h
  obtain ⟨as,r1⟩:=hd.reads I.hok rx
  obtain ⟨bs,r2⟩:=he.reads I.hok ry
  exact eq_dataH r1 r2 s1 s2 hu ⟨.bl _,H,I,rfl,q⟩
end
section
variable {K:PySem.W.Frag}
end

section
variable {es:List Expr} {env:Env} {pos:Pos}
theorem any0:(backTo pos (starEach [] env)).any (·.1)=false:=by rfl
theorem anyc {e:Expr} (h:starEach (e::es) env=(false,eval e env)::starEach es env) (k:(backTo pos (starEach es env)).any (·.1)=false):(backTo pos (starEach (e::es) env)).any (·.1)=false:=by
  rw [h]
  exact k
theorem st_C {c:Const} {k:Nat}:starEach (.Constant c k pos::es) env=(false,eval (.Constant c k pos) env)::starEach es env:=by rfl
theorem st_N {x:Str}:starEach (.Name x pos::es) env=(false,eval (.Name x pos) env)::starEach es env:=by rfl
theorem st_B {a b:Expr} {op:Operator}:starEach (.BinOp a op b pos::es) env=(false,eval (.BinOp a op b pos) env)::starEach es env:=by rfl
theorem st_S {a b:Expr}:starEach (.Subscript a b pos::es) env=(false,eval (.Subscript a b pos) env)::starEach es env:=by rfl
theorem st_K {f:Expr} {as:List Expr} {kw:List Keyword}:starEach (.Call f as kw pos::es) env=(false,eval (.Call f as kw pos) env)::starEach es env:=by rfl
theorem st_T {as:List Expr} {k:Nat}:starEach (.Tuple as k pos::es) env=(false,eval (.Tuple as k pos) env)::starEach es env:=by rfl
theorem st_L {as:List Expr}:starEach (.List as pos::es) env=(false,eval (.List as pos) env)::starEach es env:=by rfl
theorem st_U {a:Expr} {op:UnaryOp}:starEach (.UnaryOp op a pos::es) env=(false,eval (.UnaryOp op a pos) env)::starEach es env:=by rfl
theorem st_G {e:Expr} {gs:List Comprehension} {sc:Scope}:starEach (.ListComp e gs sc pos::es) env=(false,eval (.ListComp e gs sc pos) env)::starEach es env:=by rfl
end

section
variable {tg:Option Expr} {l:Nat} {env:Env} {pos:Pos}
theorem sw_C {c:Const} {k:Nat}:swapsWith (.Constant c k pos) tg l env=pure false:=by rfl
theorem sw_N {x:Str}:swapsWith (.Name x pos) tg l env=pure false:=by rfl
theorem sw_B {a b:Expr} {op:Operator}:swapsWith (.BinOp a op b pos) tg l env=pure false:=by rfl
theorem sw_S {a b:Expr}:swapsWith (.Subscript a b pos) tg l env=pure false:=by rfl
theorem sw_K {f:Expr} {as:List Expr} {kw:List Keyword}:swapsWith (.Call f as kw pos) tg l env=pure false:=by rfl
theorem sw_T {as:List Expr} {k:Nat}:swapsWith (.Tuple as k pos) tg l env=pure false:=by rfl
theorem sw_L {as:List Expr}:swapsWith (.List as pos) tg l env=pure false:=by rfl
theorem sw_U {a:Expr} {op:UnaryOp}:swapsWith (.UnaryOp op a pos) tg l env=pure false:=by rfl
theorem sw_I {a b c:Expr}:swapsWith (.IfExp a b c pos) tg l env=pure false:=by rfl
end
structure Dn (P:Program) (w:World) (K:PySem.W.Frag) (mg:Str→Option Value) (base:Heap) (k:Nat) (x:Str) (ps:List Str) (sp:Sp):Prop where
  ex:∃(f:Addr) (fd:FuncData),FnOk P w K mg base CX0 k f fd ps sp∧mg x=some (.ref f)∧PySem.W.keepIn K (.ref f)=true∧Binds K fd ps []
section
variable {X:Cx} {k:Nat} {x:Str} {ps:List Str} {sp:Sp} {p pos:Pos} {e:Expr} {es:List Expr} {t:TA}
theorem pe_dn (D:Dn X.prog X.w X.K X.mg X.base k x ps sp) (hr:Room k X.A) (hg:Gl X x) (ha:PA X (e::es) t) (hdb:autoParam ((x==("__debug__":Str))=false) au1_._auto_1)
    (he:autoParam (starEach (e::es) X.env=(false,eval e X.env)::starEach es X.env) au0_._auto_1) (hpl:autoParam ((backTo pos (starEach es X.env)).any (·.1)=false) au0_._auto_1):PE X (.Call (.Name x p) (e::es) [] pos) (tCall sp [] E0 t):=by
  obtain ⟨f,fd,ok,hm,hk,hb⟩:=D.ex
  exact pe_call ok hr hg hm hk hb .nil pass0 ha hdb he hpl
end
theorem dn_mk {P:Program} {w:World} {K:PySem.W.Frag} {mg:Str→Option Value} {base:Heap} {k:Nat} {x qual:Str} {ps:List Str} {sp:Sp} {st:Stmt} {f:Addr} {fd:FuncData} (F:Fun K x qual st f fd) (ok:FnOk P w K mg base CX0 k f fd ps sp)
    (hm:mg x=some (.ref f)) (hb:Binds K fd ps []):Dn P w K mg base k x ps sp:=⟨f,fd,ok,hm,F.kp,hb⟩

section
variable {σ:L2.St} {H:Hp} {Q:VK} {D:Ends} {te ta tb:TE} {t u:TS} {c:TT} {B:Bool→Hp→Prop} {i:Nat} {v:V} {m n:Int} {K:PySem.W.Frag}
theorem r_seq (h:t { D with nx:=u D } σ H):tSeq t u D σ H:=h
theorem r_set (h:te σ H fun x H1=>D.nx (σ.set i (some x)) H1):tAsg te (gName i) D σ H:=h
theorem r_ret (h:te σ H D.rt):tRet te D σ H:=h
theorem r_drop (h:te σ H fun _ H1=>D.nx σ H1):tDrop te D σ H:=h
theorem r_if (h:c σ H fun b H1=>if b=true then t D σ H1 else u D σ H1):tIfS c t u D σ H:=h
theorem r_next (h:D.nx σ H):tNext D σ H:=h
theorem r_var (e:σ[i]?=some (some v)) (q:Q v H):tVar i σ H Q:=⟨v,e,q⟩
theorem r_c (q:Q v H):tC v σ H Q:=q
theorem r_op {r:R2} (h:ta σ H fun x H1=>tb σ H1 fun y H2=>r x y H2 Q):tOp r ta tb σ H Q:=h
theorem r_un {r:V→Hp→VK→Prop} (h:ta σ H fun x H1=>r x H1 Q):tUn r ta σ H Q:=h
theorem r_I0 {g:Int→Int→V} (q:Q (g m n) H):rI0 g (.int m) (.int n) H Q:=⟨m,n,rfl,rfl,q⟩
theorem r_I {C:Int→Int→Prop} {g:Int→Int→V} (hc:C m n) (q:Q (g m n) H):rI C g (.int m) (.int n) H Q:=⟨m,n,rfl,rfl,hc,q⟩
theorem r_U {g:Int→V} (q:Q (g m) H):rU g (.int m) H Q:=⟨m,rfl,q⟩
theorem r_test (h:te σ H fun x H'=>∃k,x=.bl k∧B k H'):tTest te σ H B:=h
theorem r_B (h:te σ H fun x H'=>∃k,x=.bl k∧B k H'):tB te σ H B:=h
theorem r_bl {b:Bool} {R:Bool→Prop} (h:R b):∃k,V.bl b=.bl k∧R k:=⟨b,rfl,h⟩
theorem r_cb {r:List V→Hp→VK→Prop} {ts:TA} (h:ts σ H fun vs H1=>r vs H1 Q):tCB r ts σ H Q:=h
theorem r_cons {ts:TA} {R:List V→Hp→Prop} (h:te σ H fun x H1=>ts σ H1 fun xs H2=>R (x::xs) H2):tCons te ts σ H R:=h
theorem r_nil {R:List V→Hp→Prop} (h:R [] H):tNil σ H R:=h
noncomputable def Nw (mk:List V→HO) (xs:List V) (H:Hp) (Q:VK):Prop:=xs.length≤sizeLine∧∀p,H p=none→Q (.ref p) (upd H p (mk xs))
theorem r_tup {ts:TA} (h:ts σ H fun xs H1=>Nw .tup xs H1 Q):tTup ts σ H Q:=h
theorem r_lst {ts:TA} (h:ts σ H fun xs H1=>Nw .lst xs H1 Q):tLst ts σ H Q:=h
theorem r_call {sp:Sp} {ts:TA} (h:ts σ H fun vs H1=>sp (vs++[]) H1 Q E0):tCall sp [] E0 ts σ H Q:=h
theorem r_par {a b:Nat} {ts:TA} (h:ts σ H fun vs H1=>∃v w,vs=[v,w]∧D.nx ((σ.set a (some v)).set b (some w)) H1):tPar a b ts D σ H:=h
theorem r_not (h:c σ H fun b H1=>B (!b) H1):tNot c σ H B:=h
theorem r_and {d:TT} (h:c σ H fun b H1=>if b=true then d σ H1 B else B false H1):tAnd c d σ H B:=h
theorem r_andV (h:ta σ H fun x H1=>∃k,x=.bl k∧if k=true then tb σ H1 Q else Q (.bl false) H1):tAndV ta tb σ H Q:=h
theorem r_ife (h:c σ H fun b H1=>if b=true then ta σ H1 Q else tb σ H1 Q):tIf c ta tb σ H Q:=h
theorem r_eq (hs:scal (.int m) (.int n)=true) (q:Q (.bl (decide (m=n))) H):rEq (.int m) (.int n) H Q:=⟨hs,by
  have e:decide (V.int m=V.int n)=decide (m=n):=by simp
  rw [e];exact q⟩
theorem r_ne (hs:scal (.int m) (.int n)=true) (q:Q (.bl (!decide (m=n))) H):rNe (.int m) (.int n) H Q:=⟨hs,by
  have e:decide (V.int m=V.int n)=decide (m=n):=by simp
  rw [e];exact q⟩
theorem at0 {x:V} {xs:List V}:atI (x::xs) 0=some x:=atI_nat (j:=0) rfl
theorem at1 {x y:V} {xs:List V}:atI (x::y::xs) 1=some y:=atI_nat (j:=1) rfl
theorem at2 {x y z:V} {xs:List V}:atI (x::y::z::xs) 2=some z:=atI_nat (j:=2) rfl
theorem r_t0 {p:Addr} {x:V} {xs:List V} (h:H p=some (.tup (x::xs))) (q:Q x H):rIxT K (.ref p) (.int 0) H Q:=⟨p,_,0,x,rfl,rfl,SqT.of h,at0,q⟩
theorem r_t1 {p:Addr} {x y:V} {xs:List V} (h:H p=some (.tup (x::y::xs))) (q:Q y H):rIxT K (.ref p) (.int 1) H Q:=⟨p,_,1,y,rfl,rfl,SqT.of h,at1,q⟩
theorem r_t2 {p:Addr} {x y z:V} {xs:List V} (h:H p=some (.tup (x::y::z::xs))) (q:Q z H):rIxT K (.ref p) (.int 2) H Q:=⟨p,_,2,z,rfl,rfl,SqT.of h,at2,q⟩
noncomputable def rLen (K:PySem.W.Frag):List V→Hp→VK→Prop:=fun xs H Q=>∃p ys,xs=[.ref p]∧(SqL K H p ys∨SqT K H p ys)∧Q (.int ys.length) H
theorem r_len {p:Addr} {ys:List V} (h:SqL K H p ys∨SqT K H p ys) (q:Q (.int ys.length) H):rLen K [.ref p] H Q:=⟨p,ys,rfl,h,q⟩
noncomputable def rAbs:List V→Hp→VK→Prop:=fun xs H Q=>∃i,xs=[.int i]∧Q (.int (if i<0 then -i else i)) H
theorem r_absC (q:Q (.int (if m<0 then -m else m)) H):rAbs [.int m] H Q:=⟨m,rfl,q⟩
section
variable {X:Cx} (K:PySem.W.Frag)
theorem ixL (h:autoParam (X.K=K) au0_._auto_1):IxR X (rIxL K):=h▸ix_list
theorem ixT (h:autoParam (X.K=K) au0_._auto_1):IxR X (rIxT K):=h▸ix_tup
theorem slL (h:autoParam (X.K=K) au0_._auto_1):SlR X (rSlL K):=h▸sl_list
theorem lenC (h:autoParam (X.K=K) au0_._auto_1):CallR X (.builtin "len") (rLen K):=h▸call_len_seq
theorem absC:CallR X (.builtin "abs") rAbs:=call_abs
theorem piL {tg l:Expr} {tl:TE} (hl:PE X l tl) (h:autoParam (X.K=K) au0_._auto_1):PI X tg l (iList K tl):=h▸pi_list hl
theorem piT {tg l:Expr} {tl:TE} (hl:PE X l tl) (h:autoParam (X.K=K) au0_._auto_1):PI X tg l (iTup K tl):=h▸pi_tup hl
theorem pgT {es:List Expr} {k:Nat} {t:TGs} {n:Nat} {pos:Pos} (hc:X.calm=true) (g:PGs X es t)
    (hn:autoParam ((assignEach es X.env).length=n) au0_._auto_1) (hst:autoParam ((assignEach es X.env).findIdx? (·.1)=none) au0_._auto_1) (h:autoParam (X.K=K) au0_._auto_1):PG X (.Tuple es k pos) (gTup K n t):=h▸pg_tup hc g hn hst
theorem appC {o e:Expr} {to te:TE} {apos cpos:Pos} (ho:PE X o to) (he:PE X e te) (h:autoParam (X.K=K) au0_._auto_1)
    (hbase:autoParam (attributeBase o "append" X.env (eval o X.env)=eval o X.env) au0_._auto_1)
    (hfew:autoParam (((backTo cpos (starEach (e::[]) X.env)).all (fun x=>!x.1)&&(backToKw cpos (keywordEach [] X.env)).all (fun x=>x.1.isSome)
      && decide ((e::([]:List Expr)).length+([]:List Keyword).length+(if ([]:List Keyword).isEmpty then 0 else 1)<30))=true) au0_._auto_1)
    (hline:autoParam ((apos.endLine==cpos.line)=true) au0_._auto_1) (hs:autoParam (starEach (e::[]) X.env=(false,eval e X.env)::starEach [] X.env) au0_._auto_1) (hplain:autoParam ((backTo cpos (starEach [] X.env)).any (·.1)=false) au0_._auto_1) :
    PE X (.Call (.Attribute o "append" apos) [e] [] cpos) (tBM K "list" rAppend to (tCons te tNil)):=
  h▸pe_bm PySem.F.plainAttrs_list PySem.F.slot_list_append PySem.F.type_list_append mt_append ho (pa_cons he pa_nil hs) hbase hfew hline hs hplain
end
theorem same_new {p:Addr} (h:H p=none) (o:HO):Same H (upd H p o):=fun b u q=>by rw [upd_ne (ne_of_none q h)];exact q
theorem r_new {xs:List V} {mk:List V→HO} (hl:xs.length≤1000) (h:∀p H1,Same H H1→H p=none→H1 p=some (mk xs)→Q (.ref p) H1):Nw mk xs H Q:=
  ⟨Nat.le_of_lt (small1000 hl),fun p hp=>h p _ (same_new hp _) hp upd_same⟩
theorem r_g {R:L2.St→Hp→Prop} (h:R (σ.set i (some v)) H):gName i v σ H R:=h
theorem r_l {p:Addr} {xs:List V} {j:Int} (h:H p=some (.lst xs)) (e:atI xs j=some v) (q:Q v H):rIxL K (.ref p) (.int j) H Q:=⟨p,_,j,v,rfl,rfl,SqL.of h,e,q⟩
theorem r_bm {T:String} {r:V→List V→Hp→VK→Prop} {ts:TA} (h:te σ H fun x H1=>tyV K T x H1∧ts σ H1 fun xs H2=>r x xs H2 Q):tBM K T r te ts σ H Q:=h
theorem r_app {p:Addr} {xs:List V} (h:H p=some (.lst xs)) (hl:xs.length<sizeLine) (q:Q .non (upd H p (.lst (xs++[v])))):rAppend (.ref p) [v] H Q:=⟨p,xs,v,rfl,rfl,h,hl,q⟩
theorem same_at {H1 H2:Hp} {p:Addr} {o:HO} (s:Same H1 H2) (n:H1 p=none):Same H1 (upd H2 p o):=fun b x e=>by rw [upd_ne (ne_of_none e n)];exact s b x e
theorem at_ints {xs:List Int} {j:Nat} {x k:Int} (h:xs[j]?=some x) (hk:k=(j:Int)):atI (xs.map V.int) k=some (.int x):=by
  subst hk
  exact atI_nat (by rw [List.getElem?_map,h];rfl)
theorem r_two {R:V→V→Prop} {x y:V} (h:R x y):∃v w,[x,y]=[v,w]∧R v w:=⟨x,y,rfl,h⟩
theorem r_for {wi:TI} {g:TG} {tb:TS} (h:wi σ H fun J H1=>∃W:Nat→Nat→L2.St→Hp→Prop,(∃m,W 0 m σ H1)∧∀i m σ H,W i m σ H →
  (J.stop i H∧D.nx σ H)∨(J.go i H∧∃N:L2.St→Hp→Prop,(∀σ' H',N σ' H'→∃m',m'<m∧W (i+1) m' σ' H')∧∀x H',J.yld i H x H'→g x σ H' fun σ2 H2=>tb { D with nx:=N,ct:=N,bk:=D.nx } σ2 H2)):tFor wi g tb D σ H:=h
theorem r_iL {R:It→Hp→Prop} (h:te σ H fun x H1=>∃a,x=.ref a∧(∃xs,SqL K H1 a xs)∧R (Itl K a) H1):iList K te σ H R:=h
end
end My

namespace My
open PySem PySem.Spec PyProof.Rows L2 Mth
section
variable {prog:Program} {w:World} {A:Around} {E:Value→Shared→Prop} {s:Shared}
theorem draw_list {it l:Addr} {items:Array Value} (hne:l≠it):∀(n i:Nat) (s:Shared) (Q:List Value→Shared→Prop),s.heap.IsListIter it l i→s.heap.IsList l items→i+n≤items.size →
    (∀h',h'.IsListIter it l (i+n)→Heap.SameBut it s.heap h'→Q ((items.toList.drop i).take n) { s with heap:=h' })→wpAny (model prog w) A (draw (.ref it) n) Q E s
  | 0,i,s,Q,hit,_,_,hQ=>by
    show wpAny _ _ (pure []) Q E s
    exact wpAny_pure (by simpa using hQ s.heap hit (Heap.SameBut.refl ..))
  | n+1,i,s,Q,hit,ht,hle,hQ=>by
    have hlt:i<items.size:=by (first | lia | omega)
    show wpAny _ _ (pyNext (.ref it) >>= _) Q E s
    refine wpAny_bind (wpAny_pyNext_list_item hit ht (x:=items[i]) (by simp [hlt]) fun h₁ hit₁ hs₁=>?_)
    refine wpAny_bind (wpAny_holding (draw_list hne n (i+1) _ _ hit₁ (ht.extBut hs₁.extBut hne) (by (first | lia | omega)) fun h₂ hit₂ hs₂=>wpAny_pure ?_))
    have hd:items.toList.drop i=items[i]::items.toList.drop (i+1):=by simp [List.drop_eq_getElem_cons,hlt]
    have:=hQ h₂ (by rw [show i+(n+1)=i+1+n by (first | lia | omega)];exact hit₂) (hs₁.trans hs₂)
    rw [hd,List.take_succ_cons] at this
    exact this
theorem unpackItems_list {t:Addr} {items:Array Value} {Q:List Value→Shared→Prop} (hh:A.handled=none) (ht:s.heap.IsList t items)
    (hQ:∀h',Heap.ExtBut s.heap.objs.size s.heap h'→Q items.toList { s with heap:=h' }):wpAny (model prog w) A (unpackItems (.ref t) items.size none) Q E s:=by
  have hlt:t≠s.heap.objs.size:=by obtain ⟨o,ho,_⟩:=id ht;exact Nat.ne_of_lt (Heap.lt_size ho)
  unfold unpackItems
  refine wpAny_bind ?_
  · unfold notIterableAtAll
    refine wpAny_bind (wpAny_specialOf ht.typeIs PySem.slot_list_iter.lookup ?_)
    refine wpAny_pure ?_
    simp only [Bool.false_eq_true,if_false]
    refine wpAny_bind (wpAny_holding (wpAny_pyIter_list ht ?_))
    have hp:(s.heap.push { cls:=.type "list_iterator",data:=.fields #[.ref t,.int 0 0] }).IsList t items:=ht.extBut (b:=s.heap.objs.size) (fun b o _ e=>Heap.get?_push_of_some _ e) hlt
    refine wpAny_bind (wpAny_holding (draw_list hlt items.size 0 _ _ ⟨_,Heap.get?_push_size _ rfl,rfl,rfl⟩ hp (by (first | lia | omega)) fun h₁ hit₁ hs₁=>?_))
    have hall:List.take items.size (List.drop 0 items.toList)=items.toList:=by
      rw [List.drop_zero];exact List.take_of_length_le (by simp)
    rw [hall]
    rw [if_neg (by simp)]
    have ht₁:h₁.IsList t items:=hp.extBut hs₁.extBut hlt
    refine wpAny_bind (wpAny_holding (wpAny_pyNext_list_end hh hit₁ ht₁ (by simp) fun h₂ he₂=>?_))
    simp only [Option.isSome_none,Bool.false_eq_true,if_false]
    refine wpAny_pure (hQ h₂ fun b o hb e=>he₂ b o hb (hs₁.extBut b o hb (Heap.get?_push_of_some _ e)))
theorem assign_Tuple_list {env:Env} {elts:List Expr} {x1} {pos:Pos} {t:Addr} {items:Array Value} {Q:Unit→Shared→Prop} (hh:A.handled=none) (ht:s.heap.IsList t items)
    (hn:(assignEach elts env).length=items.size) (hstar:(assignEach elts env).findIdx? (·.1)=none)
    (h:∀h',Heap.ExtBut s.heap.objs.size s.heap h'→wpAny (model prog w) A (assignInOrder ((assignEach elts env).map (·.2)) items.toList) Q E { s with heap:=h' }) :
    wpAny (model prog w) A (assign (.Tuple elts x1 pos) env (.ref t)) Q E s:=by
  rw [assign_Tuple]
  refine wpAny_bind (wpAny_standAt ?_)
  unfold unpack
  rw [hn,hstar]
  exact wpAny_bind (wpAny_holding (unpackItems_list hh ht h))
end
section
variable {X:Cx} {pos:Pos}
noncomputable def gLst (K:PySem.W.Frag) (n:Nat) (t:TGs):TG:=fun v σ H Q=>∃a xs,v=.ref a∧SqL K H a xs∧xs.length=n∧t xs σ H Q
theorem pg_lst {es:List Expr} {k:Nat} {t:TGs} {n:Nat} (hc:X.calm=true) (h:PGs X es t)
    (hn:autoParam ((assignEach es X.env).length=n) au0_._auto_1) (hst:autoParam ((assignEach es X.env).findIdx? (·.1)=none) au0_._auto_1):PG X (.Tuple es k pos) (gLst X.K n t):=by
  intro pins s σ H v u Q I r hw
  obtain ⟨a,xs,e1,hq,hl,hw⟩:=hw
  subst e1
  cases r
  obtain ⟨its,rv,ht,hz⟩:=I.list hq
  refine assign_Tuple_list (I.ok.hd hc) ht.isList (by simp [hn,← hl,rv.length]) hst fun h' hx=>?_
  have I1:Inv X pins σ H { s with heap:=h' }:=I.kept (t':=s.toks) fun b o e=>hx b o (Nat.ne_of_lt (Heap.lt_size e)) e
  exact h pins _ σ H xs _ Q I1 (by simpa using rv) hw
theorem pgL (K:PySem.W.Frag) {es:List Expr} {k:Nat} {t:TGs} {n:Nat} (hc:X.calm=true) (g:PGs X es t)
    (hn:autoParam ((assignEach es X.env).length=n) au0_._auto_1) (hst:autoParam ((assignEach es X.env).findIdx? (·.1)=none) au0_._auto_1) (h:autoParam (X.K=K) au0_._auto_1):PG X (.Tuple es k pos) (gLst K n t):=h▸pg_lst hc g hn hst
end
section
variable {σ:L2.St} {H:Hp} {Q:VK} {a b:Bool} {K:PySem.W.Frag}
theorem r_eqB (q:Q (.bl (a==b)) H):rEq (.bl a) (.bl b) H Q:=⟨rfl,by
  have e:decide (V.bl a=V.bl b)=(a==b):=by cases a <;> cases b <;> rfl
  rw [e];exact q⟩
theorem r_unlist3 {p:Addr} {x y z:V} {i j k:Nat} {R:L2.St→Hp→Prop} (h:H p=some (.lst [x,y,z])) (q:R (((σ.set i (some x)).set j (some y)).set k (some z)) H):gLst K 3 (gCons (gName i) (gCons (gName j) (gCons (gName k) gNil))) (.ref p) σ H R:=
  ⟨p,_,rfl,SqL.of h,rfl,x,_,rfl,y,_,rfl,z,_,rfl,rfl,q⟩
end
end My

namespace My
open PySem PySem.Spec PyProof.Rows L2 Mth
noncomputable def cxComp (X:Cx) (N':List Str) (scope:Scope) (cl:List (Str×Addr)) (C:Addr) (s0:Shared) (H0:Hp) (ex':List Addr) (pn':List (Addr×Obj)):Cx:=
  { X with N:=N',s₀:=s0,H₀:=H0,env:=compEnvC scope cl C X.env,outer:=X.stack,ex:=ex',fn:=fun _=>false,pn:=pn',xe:=fun _ _=>False }
noncomputable def capV (cap:List Nat) (σ:L2.St):L2.St:=cap.map fun j=>(σ[j]?).getD none
theorem hok_but {P:Program} {w:World} {H:Hp} {h h':Heap} {C:Addr} (x:HOk P w H h) (n:H C=none) (k:∀b o,b≠C→h.get? b=some o→h'.get? b=some o):HOk P w H h':=fun b u e=>
  (x b u e).stay (fun c v hc q=>k c v (by
    rcases hc with z | z
    · rw [z];exact ne_of_none e n
    · exact ne_of_none z n) q) (fun _ q=>q) fun _ _ q=>q
theorem compLoop_gen {prog:Program} {w:World} {A:Around} {R:Result→Shared→Prop} {s:Shared} {elt iter tg:Expr} {ifs:List Expr} {scope:Scope} {pos:Pos} {it acc:Value} {env:Env} (I:Nat→Shared→Prop)
    (turn:∀n s,I n s→wpAny (model prog w) A (pyNext it) (fun r s₁=>match r with
      | none=>R (.ok .next) s₁
      | some v=>wpAny (model prog w) A (letOwnedTupleGo tg it v) (fun _ s₁'=>wpAny (model prog w) A (assign tg env v) (fun _ s₂=>
          wpAny (model prog w) A (forIn ifs true fun c r=>if r=true then do let ok ← isTrue c env (eval c env);pure (ForInStep.yield ok) else pure (ForInStep.yield r)) (fun ok s₃=>
            if ok=true then wpAny (model prog w) A (eval elt env) (fun x s₄=>
              wpAny (model prog w) A (call (.builtin "list.append") [acc,x]) (fun _ s₅=>∃m,m<n∧I m s₅) (notedBy (model prog w) A env fun e s'=>R (.error e) s') s₄) (notedBy (model prog w) A env fun e s'=>R (.error e) s') s₃
            else ∃m,m<n∧I m s₃) (notedBy (model prog w) A env fun e s'=>R (.error e) s') s₂) (notedBy (model prog w) A env fun e s'=>R (.error e) s') s₁') (notedBy (model prog w) A env fun e s'=>R (.error e) s') s₁) (notedBy (model prog w) A env fun e s'=>R (.error e) s') s)
    (n:Nat) (h:I n s):codeAny (model prog w) A (.compLoop (.ListComp elt [⟨tg,iter,ifs,0⟩] scope pos) 0 it acc env) R s:=by
  refine codeAny_loop rfl I (fun n s hI=>?_) n h
  show wpAny _ A ((compTurn (.ListComp elt [⟨tg,iter,ifs,0⟩] scope pos) 0 it acc env).onRaise (fun x=>do noteFrame x env;theTreesLotGoes x)) _ _ s
  refine wpAny_noted ?_
  rw [compTurn_list]
  refine wpAny_bind (wpAny_standAt (wpAny_bind (wpAny_mono (turn n s hI) (fun r s₁ h₁=>?_) fun _ _ h'=>h')))
  cases r with
  | none=>exact wpAny_pure h₁
  | some v=>
    refine wpAny_bind (wpAny_mono h₁ (fun _ s₂ h₂=>wpAny_bind (wpAny_mono h₂ (fun _ s₃ h₃=>wpAny_bind (wpAny_mono h₃ (fun ok s₄ h₄=>?_) fun _ _ h'=>h')) fun _ _ h'=>h')) fun _ _ h'=>h')
    cases ok with
    | false=>exact wpAny_pure ⟨rfl,h₄⟩
    | true=>
      exact wpAny_bind (wpAny_bind (wpAny_mono h₄ (fun x s₄ h₄=>wpAny_bind (wpAny_mono h₄ (fun _ s₅ h₅=>wpAny_pure (wpAny_pure ⟨rfl,h₅⟩)) fun _ _ h'=>h')) fun _ _ h'=>h'))
noncomputable def PTs (X:Cx) (ifs:List Expr) (t:TT):Prop:=
  ∀(pins:List (Addr×Obj)) (s:Shared) (σ:L2.St) (H:Hp) (Q:Bool→Hp→Prop),Inv X pins σ H s→t σ H Q →
    wpAny (model X.prog X.w) X.A (forIn ifs true fun c r=>if r=true then do let ok ← isTrue c X.env (eval c X.env);pure (ForInStep.yield ok) else pure (ForInStep.yield r)) (TP X pins σ Q) X.xe s
noncomputable def tYes:TT:=fun _ H B=>B true H
theorem pts_nil {X:Cx}:PTs X [] tYes:=fun _ _ _ H _ I h=>wpAny_tests_nil ⟨H,I,h⟩
theorem pts_one {X:Cx} {c:Expr} {t:TT} (h:PT X c t):PTs X [c] t:=fun pins s σ H Q I q=>wpAny_tests_one (h pins s σ H Q I q)
noncomputable def CapOk (X:Cx) (scope:Scope) (cl:List (Str×Addr)):List Str→List Nat→Prop
  | [],[]=>True
  | y::ys,j::js=>(X.N[j]?=some y∧X.env.kindOf y=some .cell∧(relabel scope X.env).names.lookup y=some .cell∧cl.lookup y=X.env.cells.lookup y)∧CapOk X scope cl ys js
  | _,_=>False
theorem CapOk.len {X:Cx} {scope:Scope} {cl:List (Str×Addr)}:∀{ys:List Str} {js:List Nat},CapOk X scope cl ys js→ys.length=js.length
  | [],[],_=>rfl
  | _::_,_::_,h=>congrArg (·+1) h.2.len
theorem CapOk.at {X:Cx} {scope:Scope} {cl:List (Str×Addr)}:∀{ys:List Str} {js:List Nat},CapOk X scope cl ys js→∀(i j:Nat) (y:Str),ys[i]?=some y→js[i]?=some j →
    X.N[j]?=some y∧X.env.kindOf y=some .cell∧(relabel scope X.env).names.lookup y=some .cell∧cl.lookup y=X.env.cells.lookup y
  | [],[],_,i,_,_,e,_=>by simp at e
  | _::_,_::_,h,0,j,y,e1,e2=>by
    simp at e1 e2
    subst e1 e2
    exact h.1
  | _::_,_::_,h,i+1,j,y,e1,e2=>h.2.at i j y (by simpa using e1) (by simpa using e2)
noncomputable def tComp (wi:TI) (n:Nat) (cap:List Nat) (g:TG) (tt:TT) (te:TE):TE:=fun σ H Q=>wi σ H fun J H1=>∀D,H1 D=none→∃W:Nat→Nat→List V→Hp→Prop,(∃m,W 0 m [] (upd H1 D (.lst []))) ∧
  ∀i m xs H2,W i m xs H2→H2 D=some (.lst xs)∧((J.stop i H2∧Q (.ref D) H2)∨(J.go i H2∧xs.length<sizeLine∧∀x H3 σ0,σ0.length=n→J.yld i H2 x H3 →
    g x (σ0++capV cap σ) H3 fun σ2 H4=>(∃σ1,σ1.length=n∧σ2=σ1++capV cap σ)∧tt σ2 H4 fun b H5=>if b=true then te σ2 H5 fun y H6=>H6 D=some (.lst xs)∧∃m',m'<m∧W (i+1) m' (xs++[y]) (upd H6 D (.lst (xs++[y])))
      else ∃m',m'<m∧W (i+1) m' xs H5))
section
variable {X:Cx} {elt iter tg:Expr} {ifs:List Expr} {pos:Pos} {scope:Scope} {cl:List (Str×Addr)} {wi:TI} {te:TE} {tt:TT} {g:TG} {O N':List Str} {cap:List Nat} {n:Nat}
theorem inv_but {pins:List (Addr×Obj)} {σ:L2.St} {H:Hp} {s:Shared} {C:Addr} {h':Heap} (I:L2.Inv X pins σ H s) (hC:FpOk X pins H C) (sb:Heap.SameBut C s.heap h'):L2.Inv X pins σ H { s with heap:=h' }:=by
  have k:∀b o,s.heap.get? b=some o→b∉[C]→h'.get? b=some o:=fun b o e hb=>(sb.2 b (fun z=>hb (by rw [z];exact List.mem_singleton.mpr rfl))).trans e
  refine I.call' (s':={ s with heap:=h' }) (ch:=[C]) rfl ⟨fun b o e _ _ hb=>k b o e hb,fun b o e _ _ hb=>⟨o.slots,k b o e hb⟩,fun b o _ n _=>n,fun b o e hb=>⟨o,k b o e hb⟩,fun _ _ q=>q,fun _ _ _ q=>q,fun _ ps q=>⟨#[],by simpa using q⟩⟩
    (hok_but I.hok hC.1 fun b o hb e=>(sb.2 b hb).trans e) I.bare fun b hb=>?_
  obtain rfl:b=C:=List.mem_singleton.mp hb
  exact ⟨hC.2.2.2.1,hC.2.1,hC.2.2.2.2.1,hC.2.2.2.2.2⟩
theorem comp_gen {pins:List (Addr×Obj)} {s:Shared} {σ:L2.St} {H:Hp} {Q:VK} {cpos:Pos} (use:Option (Value→Sem Unit)) (Q':Value→Shared→Prop) (hc:X.calm=true) (hi:PI X tg iter wi)
    (hg:∀(C:Addr) (s0:Shared) (H0:Hp) (ex':List Addr) (pn':List (Addr×Obj)),PG (cxComp X (O++N') scope cl C s0 H0 ex' pn') tg g)
    (htt:∀(C:Addr) (s0:Shared) (H0:Hp) (ex':List Addr) (pn':List (Addr×Obj)),PTs (cxComp X (O++N') scope cl C s0 H0 ex' pn') ifs tt)
    (helt:∀(C:Addr) (s0:Shared) (H0:Hp) (ex':List Addr) (pn':List (Addr×Obj)),PE (cxComp X (O++N') scope cl C s0 H0 ex' pn') elt te)
    (hO:O.length=n) (hcap:CapOk X scope cl N' cap)
    (hclos:closureFor scope X.env=pure cl) (hcell:∀y∈scope.names,y.2≠.cell) (hkind:scope.kind=.function) (hnames:∀y∈scope.names,y.2=.local→scope.names.lookup y.1=some .local)
    (hclx:∀y c,cl.lookup y=some c→X.env.cells.lookup y=some c) (hhas:∀y,((relabel scope X.env).names.lookup y=some .cell∨(relabel scope X.env).names.lookup y=some .free)→∃c,cl.lookup y=some c)
    (hs:∀z,foldedSetIterable iter X.env z=pure z)
    (I:L2.Inv X pins σ H s) (h:tComp wi n cap g tt te σ H Q)
    (fin:∀(D:Addr) (H5:Hp) (s6:Shared) (C:Addr),L2.Inv X pins σ H5 s6→FpOk X pins H5 C→(∃m,s6.heap.Ns C m)→Q (.ref D) H5→compPost (model X.prog X.w) X.A X.xe use Q' (.ref D) C (.ok .next) s6) :
    wpAny (model X.prog X.w) X.A (comprehension (.ListComp elt [⟨tg,iter,ifs,0⟩] scope pos) scope X.env cpos (newList []) false (eval iter X.env) use) Q' X.xe s:=by
  refine wpAny_comprehension_free (use:=use) rfl hs hclos hkind hnames (thn (hi pins s σ H _ I h) fun v s1 h1=>thn h1 fun itv s2 h2=>?_)
  obtain ⟨it,fp,tn,J,H2,e,I2,T,st2,f2,q2⟩:=h2
  subst e
  refine wpAny_newObj_type (wpAny_newFunctionEnv hcell (by intro y hy;simp at hy) (fun h₁ hns₁ hsb₁=>?_) hkind)
  dsimp only at hns₁ hsb₁ ⊢
  -- the list, then the block's own names
  have I3:Inv X pins σ (upd H2 s2.heap.objs.size (.lst [])) { s2 with heap:=s2.heap.push { cls:=.type "list",data:=.seq ([]:List Value).toArray },toks:=s2.toks }:=I2.lnew (its:=[]) (t':=s2.toks) .nil (Nat.zero_le _)
  generalize hH3:s2.heap.push { cls:=.type "list",dict:=none,data:=.seq ([]:List Value).toArray }=h3 at hns₁ hsb₁ I3 ⊢
  have q3:=q2 s2.heap.objs.size (I2.hok.fresh (Nat.le_refl _))
  generalize hD:s2.heap.objs.size=D at I3 q3 hns₁ hsb₁ ⊢
  obtain ⟨W,⟨m0,w0⟩,turn⟩:=q3
  have hC:∀b o,h3.get? b=some o→b≠h3.objs.size:=fun b o e=>Nat.ne_of_lt (Heap.lt_size e)
  have old:∀b o,h3.get? b=some o→h₁.get? b=some o:=fun b o e=>hsb₁.extBut b o (hC b o e) (Heap.get?_push_of_some _ e)
  have fpThere:∀b∈fp,∃o,h3.get? b=some o:=fun b hb=>by
    obtain ⟨o,e,_⟩:=T.obj _ _ st2 b hb
    exact ⟨o,by rw [← hH3];exact Heap.get?_push_of_some _ e⟩
  have fp3:∀b∈fp,upd H2 D (.lst []) b=none:=fun b hb=>by
    have n:=(f2 b hb).1
    obtain ⟨o,e,_⟩:=T.obj _ _ st2 b hb
    rw [upd_ne (by rw [← hD];exact Nat.ne_of_lt (Heap.lt_size e))]
    exact n
  have stk:∀b∈fp,b∉frs X.stack:=fun b hb z=>by
    rcases List.mem_cons.mp (I3.stkSub b z) with e | e
    · exact (f2 b hb).2.1 e
    · exact (f2 b hb).2.2.1 e
  have ok:(cxComp X (O++N') scope cl h3.objs.size { s2 with heap:=h3,toks:=s2.toks } (upd H2 D (.lst [])) fp (X.pn++pins)).Ok:=
    ⟨I.ok.mod,hkind,I.ok.glob,I.ok.blt,Nat.le_refl _,fun y z c a b=>I.ok.inj y z c (hclx y c a) (hclx z c b),hhas,fun _ _ z=>absurd z Bool.false_ne_true,I.ok.hd,I.ok.frames,.inl rfl,
      fun b hb=>⟨by obtain ⟨o,e⟩:=fpThere b hb;exact hC b o e,fun y c a=>(f2 b hb).2.2.2.2.1 y c (hclx y c a)⟩,I3.bs,Nat.le_trans I3.ok.bsz I3.sz,
      fun b o e hb=>by
        rcases (f2 b hb).2.2.2.1 with z | z
        · exact I.ok.noex b o e z
        · exact absurd (Nat.lt_of_lt_of_le (Heap.lt_size (I.ok.bs b o e).1) z) (Nat.lt_irrefl _),
      stk,I3.stack,I3.stkFree⟩
  have I4:Inv (cxComp X (O++N') scope cl h3.objs.size { s2 with heap:=h3,toks:=s2.toks } (upd H2 D (.lst [])) fp (X.pn++pins)) [] (List.replicate n none++capV cap σ) (upd H2 D (.lst [])) { s2 with heap:=h₁,toks:=s2.toks+([]:List (Str×Value)).length }:=by
    refine ⟨ok,rfl,I3.bare,Un.kept old,⟨_,hns₁,fun i y v e1 e2 e3=>?_⟩,fun y c a=>?_,I3.hok.fresh (Nat.le_refl _),fun y c a=>I3.freeC y c (hclx y c a),fun p hp=>?_,I3.hok.kept old,?_⟩
    · by_cases hin:i<n
      · rw [List.getElem?_append_left (by rw [List.length_replicate];exact hin),List.getElem?_replicate,if_pos hin] at e2
        cases e2
      · have e1':N'[i-n]?=some y:=by
          have z:(O++N')[i]?=some y:=e1
          rw [List.getElem?_append_right (by (first | lia | omega)),hO] at z
          exact z
        have hi':i-n<cap.length:=by rw [← hcap.len];exact (List.getElem?_eq_some_iff.mp e1').1
        obtain ⟨j,ej⟩:∃j,cap[i-n]?=some j:=⟨_,List.getElem?_eq_getElem hi'⟩
        obtain ⟨a1,a2,a3,a4⟩:=hcap.at (i-n) j y e1' ej
        have e2':σ[j]?=some (some v):=by
          have z:(capV cap σ)[i-n]?=some (some v):=by
            rw [List.getElem?_append_right (by rw [List.length_replicate];(first | lia | omega)),List.length_replicate] at e2
            exact e2
          unfold capV at z
          rw [List.getElem?_map,ej] at z
          have z2:(σ[j]?).getD none=some v:=by simpa using z
          cases q:σ[j]? with
          | none=>rw [q] at z2;cases z2
          | some o=>rw [q] at z2;exact congrArg some z2
        obtain ⟨m,hn,hl⟩:=I3.loc
        obtain ⟨u,r,l⟩:=hl j y v a1 e2' (.inr (.inl a2))
        refine ⟨u,r,.inr ⟨.inl a3,?_⟩⟩
        rcases l with ⟨k,_⟩ | ⟨_,c,ec,o,ho,hd⟩
        · rw [a2] at k;cases k
        · exact ⟨c,a4.trans ec,o,old c o ho,hd⟩
    · obtain ⟨v,o,ho,hd⟩:=I3.cell y c (hclx y c a)
      exact ⟨v,o,old c o ho,hd⟩
    · have hp':p∈X.pn++pins:=by simpa [cxComp] using hp
      obtain ⟨e,n,ne,nf,d⟩:=I3.pin p hp'
      refine ⟨old _ _ e,n,hC _ _ e,fun z=>?_,d⟩
      rcases List.mem_cons.mp (I3.stkSub p.1 z) with e | e
      · exact ne e
      · exact nf e
    · show (List.replicate n none++capV cap σ).length=(O++N').length
      unfold capV
      rw [List.length_append,List.length_append,List.length_replicate,List.length_map,hcap.len,hO]
  have loop:codeAny (model X.prog X.w) X.A (.compLoop (.ListComp elt [⟨tg,iter,ifs,0⟩] scope pos) 0 (.ref it) (.ref D) (compEnvC scope cl h3.objs.size X.env))
      (compPost (model X.prog X.w) X.A X.xe use Q' (.ref D) h3.objs.size) { s2 with heap:=h₁,toks:=s2.toks+([]:List (Str×Value)).length }:=by
    have fpk:∀{H':Hp},(∀b∈fp,H' b=none)→∀b∈fp,FpOk (cxComp X (O++N') scope cl h3.objs.size { s2 with heap:=h3,toks:=s2.toks } (upd H2 D (.lst [])) fp (X.pn++pins)) [] H' b:=fun hn b hb=>by
      obtain ⟨o,e⟩:=fpThere b hb
      refine ⟨hn b hb,hC b o e,stk b hb,.inl hb,fun y c a=>(f2 b hb).2.2.2.2.1 y c (hclx y c a),fun p hp=>?_⟩
      have hp':p∈X.pn++pins:=by simpa [cxComp] using hp
      exact (f2 b hb).2.2.2.2.2 p hp'
    refine compLoop_gen (fun mm s'=>∃(i:Nat) (xs:List V) (H':Hp) (σ0:L2.St),σ0.length=n∧Inv (cxComp X (O++N') scope cl h3.objs.size { s2 with heap:=h3,toks:=s2.toks } (upd H2 D (.lst [])) fp (X.pn++pins)) [] (σ0++capV cap σ) H' s'∧tn i s'.heap∧(∀b∈fp,H' b=none)∧W i mm xs H') ?_ m0
      ⟨0,[],_,List.replicate n none,List.length_replicate,I4,T.keep _ _ _ st2 fun b hb o e=>old b o (by rw [← hH3];exact Heap.get?_push_of_some _ e),fp3,w0⟩
    rintro mm s5 ⟨i,xs,H5,σ0,hσ0,I5,st5,fr5,w5⟩
    obtain ⟨e5,tw⟩:=turn i mm xs H5 w5
    rcases tw with ⟨stop,qn⟩ | ⟨go,hz,step⟩
    · refine thn (T.done (cxComp X (O++N') scope cl h3.objs.size { s2 with heap:=h3,toks:=s2.toks } (upd H2 D (.lst [])) fp (X.pn++pins)) rfl rfl rfl hc i [] s5 _ H5 _ I5 (fpk fr5) st5 stop) fun r s6 ⟨hr,I6⟩=>?_
      subst hr
      obtain ⟨m,hn,_⟩:=id I6.loc
      have J6:L2.Inv X pins σ H5 s6:=I3.call' (s':=s6) (ch:=fp) I6.os I6.base I6.hok I6.bare fun b hb=>by
        obtain ⟨_,g1,_,g3,g4,g5⟩:=f2 b hb
        exact ⟨g3,g1,g4,g5⟩
      exact fin D H5 s6 _ J6 (I3.fpOk (Nat.le_refl _) I6.free) ⟨m,hn⟩ qn
    · refine thn (T.item (cxComp X (O++N') scope cl h3.objs.size { s2 with heap:=h3,toks:=s2.toks } (upd H2 D (.lst [])) fp (X.pn++pins)) rfl rfl rfl hc i [] s5 _ H5 _ I5 (fpk fr5) st5 go) fun r s6 ⟨u,hr,h6⟩=>?_
      subst hr
      refine thn h6 fun _ s7 ⟨xv,H7,I7,r7,y7,st7,fr7⟩=>?_
      have I7':=I7.pinned (fpk fr7) (T.obj _ _ st7)
      refine wpAny_mono (hg _ _ _ _ _ _ s7 _ H7 xv u _ I7' r7 (step xv H7 σ0 hσ0 y7)) (fun _ s8 ⟨σ2,H8,I8,⟨σ1,hσ1,e2⟩,q8⟩=>?_) fun _ _ z=>z.elim
      refine wpAny_mono (htt _ _ _ _ _ _ s8 σ2 H8 _ I8 q8) (fun ok s9 ⟨H9,I9,q9⟩=>?_) fun _ _ z=>z.elim
      subst e2
      have keep:∀{s':Shared} {σ':L2.St} {H':Hp},Inv (cxComp X (O++N') scope cl h3.objs.size { s2 with heap:=h3,toks:=s2.toks } (upd H2 D (.lst [])) fp (X.pn++pins)) ([]++pinsAt fp s7.heap) σ' H' s'→tn (i+1) s'.heap∧∀b∈fp,H' b=none:=fun {s' σ' H'} J=>
        ⟨T.keep _ _ _ st7 fun b hb o e=>(J.pin (b,o) (List.mem_append_right _ (List.mem_append_right _ (mem_pinsAt hb e)))).1,fun b hb=>by
          obtain ⟨o,e,d⟩:=T.obj _ _ st7 b hb
          exact (J.pin (b,o) (List.mem_append_right _ (List.mem_append_right _ (mem_pinsAt hb e)))).2.1⟩
      cases ok with
      | false=>
        rw [if_neg Bool.false_ne_true] at q9 ⊢
        obtain ⟨m',hm,w9⟩:=q9
        exact ⟨m',hm,i+1,xs,H9,σ1,hσ1,I9.unpinned,(keep I9).1,(keep I9).2,w9⟩
      | true=>
        rw [if_pos rfl] at q9 ⊢
        refine wpAny_mono (helt _ _ _ _ _ _ s9 _ H9 _ I9 q9) (fun yv s10 ⟨y,H10,I10,r10,e10,m',hm,w10⟩=>?_) fun _ _ z=>z.elim
        refine wpAny_mono (mt_append (X:=cxComp X (O++N') scope cl h3.objs.size { s2 with heap:=h3,toks:=s2.toks } (upd H2 D (.lst [])) fp (X.pn++pins)) _ s10 _ H10 (.ref D) [y] (.ref D) [yv] (fun _ H'=>H'=upd H10 D (.lst (xs++[y]))) I10 rfl (.cons r10 .nil) ⟨D,xs,y,rfl,rfl,e10,hz,rfl⟩) (fun _ s11 ⟨_,H11,I11,_,e11⟩=>?_) fun _ _ z=>z.elim
        subst e11
        exact ⟨m',hm,i+1,xs++[y],_,σ1,hσ1,I11.unpinned,(keep I11).1,(keep I11).2,w10⟩
  exact codeAny_compStart_list loop (T.self _ 0 _ _ _ (T.keep _ _ _ st2 fun b hb o e=>old b o (by rw [← hH3];exact Heap.get?_push_of_some _ e)) loop)
theorem pe_comp (hc:X.calm=true) (hi:PI X tg iter wi)
    (hg:∀(C:Addr) (s0:Shared) (H0:Hp) (ex':List Addr) (pn':List (Addr×Obj)),PG (cxComp X (O++N') scope cl C s0 H0 ex' pn') tg g)
    (htt:∀(C:Addr) (s0:Shared) (H0:Hp) (ex':List Addr) (pn':List (Addr×Obj)),PTs (cxComp X (O++N') scope cl C s0 H0 ex' pn') ifs tt)
    (helt:∀(C:Addr) (s0:Shared) (H0:Hp) (ex':List Addr) (pn':List (Addr×Obj)),PE (cxComp X (O++N') scope cl C s0 H0 ex' pn') elt te)
    (hO:O.length=n) (hcap:CapOk X scope cl N' cap)
    (hclos:closureFor scope X.env=pure cl) (hcell:∀y∈scope.names,y.2≠.cell) (hkind:scope.kind=.function) (hnames:∀y∈scope.names,y.2=.local→scope.names.lookup y.1=some .local)
    (hclx:∀y c,cl.lookup y=some c→X.env.cells.lookup y=some c) (hhas:∀y,((relabel scope X.env).names.lookup y=some .cell∨(relabel scope X.env).names.lookup y=some .free)→∃c,cl.lookup y=some c)
    (hs:autoParam (∀z,foldedSetIterable iter X.env z=pure z) au2_._auto_1) :
    PE X (.ListComp elt [⟨tg,iter,ifs,0⟩] scope pos) (tComp wi n cap g tt te):=by
  intro pins s σ H Q I h
  rw [eval_ListComp]
  exact comp_gen none (EP X pins σ Q) hc hi hg htt helt hO hcap hclos hcell hkind hnames hclx hhas hs I h fun D H5 s6 C J fC ⟨m,hn⟩ q=>⟨m,hn,fun h' sb=>⟨.ref D,H5,inv_but J fC sb,rfl,q⟩⟩
theorem ps_comp {i:Nat} {x:Str} {pos' spos:Pos} (hN:X.N.Nodup) (hix:X.N[i]?=some x) (hx:Loc X.env.scope x) (hc:X.calm=true) (hi:PI X tg iter wi)
    (hg:∀(C:Addr) (s0:Shared) (H0:Hp) (ex':List Addr) (pn':List (Addr×Obj)),PG (cxComp X (O++N') scope cl C s0 H0 ex' pn') tg g)
    (htt:∀(C:Addr) (s0:Shared) (H0:Hp) (ex':List Addr) (pn':List (Addr×Obj)),PTs (cxComp X (O++N') scope cl C s0 H0 ex' pn') ifs tt)
    (helt:∀(C:Addr) (s0:Shared) (H0:Hp) (ex':List Addr) (pn':List (Addr×Obj)),PE (cxComp X (O++N') scope cl C s0 H0 ex' pn') elt te)
    (hO:O.length=n) (hcap:CapOk X scope cl N' cap)
    (hclos:closureFor scope X.env=pure cl) (hcell:∀y∈scope.names,y.2≠.cell) (hkind:scope.kind=.function) (hnames:∀y∈scope.names,y.2=.local→scope.names.lookup y.1=some .local)
    (hclx:∀y c,cl.lookup y=some c→X.env.cells.lookup y=some c) (hhas:∀y,((relabel scope X.env).names.lookup y=some .cell∨(relabel scope X.env).names.lookup y=some .free)→∃c,cl.lookup y=some c)
    (hsw:swapsWith (.ListComp elt [⟨tg,iter,ifs,0⟩] scope pos) (some (.Name x pos')) spos.line X.env=pure true)
    (hs:autoParam (∀z,foldedSetIterable iter X.env z=pure z) au2_._auto_1) (hf:X.fn x=true∨X.env.scope.names.lookup x=some .local:=by first | exact .inl rfl | exact .inr rfl | assumption) :
    PS X (.Assign [.Name x pos'] (.ListComp elt [⟨tg,iter,ifs,0⟩] scope pos) spos) (tAsg (tComp wi n cap g tt te) (gName i)):=by
  intro pins s σ H D I h
  rw [exec_Assign_Name_used _ _ _ _ hsw]
  refine wpAny_bind (wpAny_standAt (wpAny_bind ?_))
  show wpAny _ _ (comprehension (.ListComp elt [⟨tg,iter,ifs,0⟩] scope pos) scope X.env _ (newList []) false (eval iter X.env) (some (assign (.Name x pos') X.env)) >>= fun _=>pure ()) _ _ s
  refine wpAny_bind (comp_gen (some (assign (.Name x pos') X.env)) (fun _ s'=>wpAny _ _ (pure ()) _ _ s') hc hi hg htt helt hO hcap hclos hcell hkind hnames hclx hhas hs I h fun Dl H5 s6 C J fC ⟨m,hn⟩ q=>?_)
  refine wpAny_assign_Name (store_ok2 J hN hix hx (show RelV (.ref Dl) (.ref Dl) from rfl) (fun s7 I7 ⟨a,sb,ha⟩=>⟨m,hn.sameBut sb ?_,fun h' sb'=>wpAny_pure (wpAny_pure ⟨_,H5,inv_but I7 fC sb',q⟩)⟩) hf)
  rcases ha with rfl | e
  · exact fC.2.1
  · exact fun z=>fC.2.2.2.2.1 x a e z.symm
end
end My

namespace My
open PySem PySem.Spec PyProof.Rows L2 Mth
structure Cn (mg:Str→Option Value) (x:Str) (n:Int):Prop where
  ex:∃t,mg x=some (.int n t)
section
variable {X:Cx} {x:Str} {n:Int} {pos apos cpos:Pos} {o:Expr} {to:TE}
theorem pe_cn (hg:Gl X x) (C:Cn X.mg x n) (hd:autoParam ((x==("__debug__":Str))=false) au1_._auto_1):PE X (.Name x pos) (tC (.int n)):=by
  obtain ⟨t,h⟩:=C.ex
  exact L2.pe_glob hg h ⟨t,rfl⟩ hd
noncomputable def rBits:V→Hp→VK→Prop:=fun x H Q=>∃i:Int,x=.int i∧Q (.int ((Builtin.Int.intBits i:Nat):Int)) H
theorem mt_bits:MtR X "int.bit_length" (fun x vs H Q=>vs=[]∧rBits x H Q):=by
  intro pins s σ H x vs v us Q I rx rv h
  obtain ⟨rfl,i,rfl,q⟩:=h
  cases rv
  obtain ⟨t,rfl⟩:=rx
  exact call_int_bit_length ⟨.int ((Builtin.Int.intBits i:Nat):Int),H,I.tok _,⟨_,rfl⟩,q⟩
theorem pe_bits (ho:PE X o to) (hbase:autoParam (attributeBase o "bit_length" X.env (eval o X.env)=eval o X.env) au0_._auto_1) (hline:autoParam ((apos.endLine==cpos.line)=true) au0_._auto_1) :
    PE X (.Call (.Attribute o "bit_length" apos) [] [] cpos) (tUn (fun x H Q=>tyV X.K "int" x H∧([]:List V)=[]∧rBits x H Q) to):=
  pe_bm0 PySem.F.plainAttrs_int slot_int_bit_length type_int_bit_length mt_bits ho hbase hline
end
section
variable {σ:L2.St} {H:Hp} {Q:VK} {m n:Int} {K:PySem.W.Frag} {X:Cx}
theorem r_bits (q:Q (.int ((Builtin.Int.intBits m:Nat):Int)) H):tyV K "int" (.int m) H∧([]:List V)=[]∧rBits (.int m) H Q:=⟨rfl,rfl,m,rfl,q⟩
noncomputable def rMax:List V→Hp→VK→Prop:=fun xs H Q=>∃i j:Int,xs=[.int i,.int j]∧Q (.int (if j>i then j else i)) H
noncomputable def rMin:List V→Hp→VK→Prop:=fun xs H Q=>∃i j:Int,xs=[.int i,.int j]∧Q (.int (if j<i then j else i)) H
theorem maxC (hc:X.calm=true):CallR X (.builtin "max") rMax:=call_max2 hc
theorem minC (hc:X.calm=true):CallR X (.builtin "min") rMin:=call_min2 hc
theorem r_max (q:Q (.int (if n>m then n else m)) H):rMax [.int m,.int n] H Q:=⟨m,n,rfl,q⟩
theorem r_min (q:Q (.int (if n<m then n else m)) H):rMin [.int m,.int n] H Q:=⟨m,n,rfl,q⟩
theorem catT (K:PySem.W.Frag) (h:autoParam (X.K=K) au0_._auto_1):OpR X (binaryOp .Add) (rCatT K):=h▸op_catT
theorem r_catT {p r:Addr} {x y:V} {xs ys:List V} (hp:H p=some (.tup (x::xs))) (hr:H r=some (.tup (y::ys))) (h:Nw .tup (x::xs++y::ys) H Q):rCatT K (.ref p) (.ref r) H Q:=
  ⟨p,r,_,_,rfl,rfl,SqT.of hp,SqT.of hr,by simp,by have:=h.1;rw [List.length_append] at this;exact this,fun e=>by simp at e,fun _=>h.2⟩
theorem r_cat {p r:Addr} {xs ys:List V} (hp:H p=some (.lst xs)) (hr:H r=some (.lst ys)) (h:Nw .lst (xs++ys) H Q):rCat (.ref p) (.ref r) H Q:=⟨p,r,_,_,rfl,rfl,hp,hr,by have:=h.1;rw [List.length_append] at this;exact this,h.2⟩
theorem r_rep {p:Addr} {xs:List V} {k:Int} (hp:H p=some (.lst xs)) (h1:-(2 ^ 63)≤k) (h2:k<2 ^ 63) (h:Nw .lst (List.replicate k.toNat xs).flatten H Q):rRep (.ref p) (.int k) H Q:=
  ⟨p,k,xs,rfl,rfl,hp,h1,h2,by have:=h.1;rw [len_rep] at this;rw [Nat.mul_comm];exact this,h.2⟩
theorem at3 {x y z u:V} {xs:List V}:atI (x::y::z::u::xs) 3=some u:=atI_nat (j:=3) rfl
theorem r_t3 {p:Addr} {x y z u:V} {xs:List V} (h:H p=some (.tup (x::y::z::u::xs))) (q:Q u H):rIxT K (.ref p) (.int 3) H Q:=⟨p,_,3,u,rfl,rfl,SqT.of h,at3,q⟩
end
section
variable {σ:L2.St} {H:Hp} {to ti:TE} {ts:TSet} {R:L2.St→Hp→Prop} {v:V}
theorem r_asg {te:TE} {g:TG} {D:Ends} (h:te σ H fun x H1=>g x σ H1 D.nx):tAsg te g D σ H:=h
end
theorem heads_big {low:Int} (c:((Builtin.Int.intBits low:Nat):Int)>128) (h0:0≤low):340282366920938463463374607431768211456≤low:=by
  have h:¬Builtin.Int.intBits low≤128:=by (first | lia | omega)
  have k:¬low.natAbs<2 ^ 128:=fun q=>h (intBits_le_iff.mpr q)
  have e:(2:Nat) ^ 128=340282366920938463463374607431768211456:=by decide
  (first | lia | omega)
theorem heads_small {low:Int} (c:¬((Builtin.Int.intBits low:Nat):Int)>128):low≤340282366920938463463374607431768211456:=by
  have h:Builtin.Int.intBits low≤128:=by (first | lia | omega)
  have k:low.natAbs<2 ^ 128:=intBits_le_iff.mp h
  have e:(2:Nat) ^ 128=340282366920938463463374607431768211456:=by decide
  (first | lia | omega)
theorem heads_tail {x y:Int} (c:((Builtin.Int.intBits y:Nat):Int)>256) (y0:0≤y) (yx:y≤x) :
    ∃t:Nat,((Builtin.Int.intBits x:Nat):Int)-256=(t:Int)∧(2:Int) ^ (255+t)≤x∧x<(2:Int) ^ (256+t):=by
  have hb:Builtin.Int.intBits y≤Builtin.Int.intBits x:=intBits_le_of_natAbs (by (first | lia | omega)) (Nat.le_refl _)
  obtain ⟨t,ht⟩:∃t,Builtin.Int.intBits x=256+t:=⟨Builtin.Int.intBits x-256,by (first | lia | omega)⟩
  have h1:x.natAbs<2 ^ (256+t):=intBits_le_iff.mp (by (first | lia | omega))
  have h2:¬x.natAbs<2 ^ (255+t):=fun q=>by have:=intBits_le_iff.mpr q;(first | lia | omega)
  refine ⟨t,by (first | lia | omega),?_,?_⟩
  · have:(((2:Nat) ^ (255+t):Nat):Int)=(2:Int) ^ (255+t):=by simp
    rw [← this];(first | lia | omega)
  · have:(((2:Nat) ^ (256+t):Nat):Int)=(2:Int) ^ (256+t):=by simp
    rw [← this];(first | lia | omega)
end My

namespace Jd
open PySem PySem.Spec PyProof.Rows L2 My
structure QE (X:Cx) (e:Expr) (t:TE):Prop where
  h:PE X e t
structure QT (X:Cx) (e:Expr) (t:TT):Prop where
  h:PT X e t
structure QW (X:Cx) (e:Expr) (t:TT):Prop where
  h:PW X e t
structure QA (X:Cx) (es:List Expr) (t:TA):Prop where
  h:PA X es t
structure QS (X:Cx) (st:Stmt) (t:TS):Prop where
  h:PS X st t
structure QSs (X:Cx) (st:List Stmt) (t:TS):Prop where
  h:PSs X st t
structure QG (X:Cx) (e:Expr) (t:TG):Prop where
  h:PG X e t
structure QGs (X:Cx) (es:List Expr) (t:TGs):Prop where
  h:PGs X es t
structure QI (X:Cx) (tg e:Expr) (t:TI):Prop where
  h:PI X tg e t
structure QO (X:Cx) (e:Option Expr) (t:TO):Prop where
  h:PO X e t
section
variable {X:Cx} {e a b c o:Expr} {es:List Expr} {te ta tb tc to:TE} {t:TA} {pos p p2 apos cpos:Pos} {x:Str} {tA tB':TT} {st:Stmt} {sts rest:List Stmt} {s1 s2:TS} {K:PySem.W.Frag}
theorem go {body:List Stmt} {D:Ends} {σ:L2.St} {H:Hp} (h:∃t,QSs X body t∧t D σ H):∃t,PSs X body t∧t D σ H:=let ⟨t,h,k⟩:=h;⟨t,h.h,k⟩
theorem cut {body:List Stmt} {D:Ends} {σ:L2.St} {H:Hp} (n:Nat) (Pv:L2.St→Hp→Prop) (tail:∃t,QSs X (body.drop n) t∧∀σ H,Pv σ H→t D σ H)
    (main:∀u,QSs X (body.drop n) u→(∀σ H,Pv σ H→u D σ H)→∃t,QSs X body t∧t D σ H):∃t,QSs X body t∧t D σ H:=
  let ⟨u,h1,h2⟩:=tail
  main u h1 h2
theorem pv (i:Nat) (hN:autoParam (X.N[i]?=some x) au0_._auto_1) (hv:Vis X.env.scope x:=by first | exact Or.inl rfl | exact Or.inr (Or.inl rfl) | exact Or.inr (Or.inr rfl)) (hd:autoParam ((x==("__debug__":Str))=false) au1_._auto_1)
    (hcd:autoParam ((x==("__classdict__":Str))=false) au1_._auto_1):QE X (.Name x pos) (tVar i):=⟨L2.pv i hN hv hd hcd⟩
theorem pe_int {i j}:QE X (.Constant (.int i) j pos) (tC (.int i)):=⟨L2.pe_int⟩
theorem pe_bl {i j}:QE X (.Constant (.bool i) j pos) (tC (.bl i)):=⟨L2.pe_bl⟩
theorem pe_non {j}:QE X (.Constant .none j pos) (tC .non):=⟨L2.pe_non⟩
theorem pe_op {op:Operator} {r:R2} (ho:OpR X (binaryOp op) r) (ha:QE X a ta) (hb:QE X b tb):QE X (.BinOp a op b pos) (tOp r ta tb):=⟨L2.pe_op ho ha.h hb.h⟩
theorem pe_un {op:UnaryOp} {r:V→Hp→VK→Prop} (ho:UnR X (unaryOp op) r) (ha:QE X a ta):QE X (.UnaryOp op a pos) (tUn r ta):=⟨L2.pe_un ho ha.h⟩
theorem pe_cmpR {op:CmpOp} {r:R2} (ho:OpR X (compareOp op) r) (ha:QE X a ta) (hb:QE X b tb) (hm:behindInMarks op b=false):QE X (.Compare a [op] [b] pos) (tOp r ta tb):=⟨L2.pe_cmpR ho ha.h hb.h hm⟩
theorem pt_cmpR {op:CmpOp} {r:R2} (ho:OpR X (compareOp op) r) (ha:QE X a ta) (hb:QE X b tb) (hm:behindInMarks op b=false):QT X (.Compare a [op] [b] pos) (tTest (tOp r ta tb)):=⟨L2.pt_cmpR ho ha.h hb.h hm⟩
theorem pt_not (ha:QT X a tA):QT X (.UnaryOp .Not a pos) (tNot tA):=⟨L2.pt_not ha.h⟩
theorem pt_val (h:QE X e te) (he:autoParam (∀whole,isTrue e X.env whole=(do let v ← whole;standAt e.pos;holding [v] (truthy v))) au2_._auto_1):QT X e (tB te):=⟨L2.pt_val h.h he⟩
theorem PWpt (h:QW X e tA):QT X e tA:=⟨h.h.pt⟩
theorem pw_and1 (ha:QT X a tA):QW X (.BoolOp .And [a] pos) tA:=⟨L2.pw_and1 ha.h⟩
theorem pw_and (ha:QT X a tA) (hb:QW X (.BoolOp .And (b::es) pos) tB'):QW X (.BoolOp .And (a::b::es) pos) (tAnd tA tB'):=⟨L2.pw_and ha.h hb.h⟩
theorem pe_one {op} (h:QE X a te):QE X (.BoolOp op [a] pos) te:=⟨L2.pe_one h.h⟩
theorem pe_and (ha:QE X a ta) (hb:QE X (.BoolOp .And (b::es) pos) tb):QE X (.BoolOp .And (a::b::es) pos) (tAndV ta tb):=⟨L2.pe_and ha.h hb.h⟩
theorem pe_ifExp (hc:QT X c tA) (ha:QE X a ta) (hb:QE X b tb):QE X (.IfExp c a b pos) (tIf tA ta tb):=⟨L2.pe_ifExp hc.h ha.h hb.h⟩
theorem pa_nil:QA X [] tNil:=⟨L2.pa_nil⟩
theorem pa_cons (ha:QE X e te) (hr:QA X es t) (hs:autoParam (starEach (e::es) X.env=(false,eval e X.env)::starEach es X.env) au0_._auto_1):QA X (e::es) (tCons te t):=⟨L2.pa_cons ha.h hr.h hs⟩
theorem pe_tup {k:Nat} (h:QA X es t):QE X (.Tuple es k pos) (tTup t):=⟨L2.pe_tup h.h⟩
theorem pe_lst (h:QA X es t):QE X (.List es pos) (tLst t):=⟨L2.pe_lst h.h⟩
theorem po_none:QO X none tNoPart:=⟨L2.po_none⟩
theorem po_some (h:QE X e te):QO X (some e) (tPart te):=⟨L2.po_some h.h⟩
theorem pe_slice {r:V→Option Int→Option Int→Hp→VK→Prop} {lo hi:Option Expr} {tl th:TO} (hr:SlR X r) (he:QE X e te) (hl:QO X lo tl) (hu:QO X hi th):QE X (.Subscript e (.Slice lo hi none p2) pos) (tSl r te tl th):=⟨L2.pe_slice hr he.h hl.h hu.h⟩
theorem pe_ix {r:R2} (hr:IxR X r) (ha:QE X a ta) (hb:QE X b tb) (hs:PlainIx b):QE X (.Subscript a b pos) (tOp r ta tb):=⟨L2.pe_ix hr ha.h hb.h hs⟩
theorem pe_callB {id:String} {r:List V→Hp→VK→Prop} (hc:CallR X (.builtin id) r) (hg:Gl X x) (hm:X.mg x=none) (hv:bootBuiltins x=some (.builtin id)) (ha:QA X (e::es) t) (hn:autoParam (x ≠ "__name__") au1_._auto_1) (hdb:autoParam ((x==("__debug__":Str))=false) au1_._auto_1)
    (he:autoParam (starEach (e::es) X.env=(false,eval e X.env)::starEach es X.env) au0_._auto_1) (hpl:autoParam ((backTo pos (starEach es X.env)).any (·.1)=false) au0_._auto_1):QE X (.Call (.Name x p) (e::es) [] pos) (tCB r t):=⟨L2.pe_callB hc hg hm hv ha.h hn hdb he hpl⟩
theorem pe_callTy {T:String} {r:List V→Hp→VK→Prop} (hc:CallR X (.type T) r) (hg:Gl X x) (hm:X.mg x=none) (hv:bootBuiltins x=some (.type T)) (ha:QA X (e::es) t) (hn:autoParam (x ≠ "__name__") au1_._auto_1) (hdb:autoParam ((x==("__debug__":Str))=false) au1_._auto_1)
    (he:autoParam (starEach (e::es) X.env=(false,eval e X.env)::starEach es X.env) au0_._auto_1) (hpl:autoParam ((backTo pos (starEach es X.env)).any (·.1)=false) au0_._auto_1):QE X (.Call (.Name x p) (e::es) [] pos) (tCB r t):=⟨L2.pe_callTy hc hg hm hv ha.h hn hdb he hpl⟩
theorem pe_dn {k:Nat} {ps:List Str} {sp:Sp} (D:Dn X.prog X.w X.K X.mg X.base k x ps sp) (hr:Room k X.A) (hg:Gl X x) (ha:QA X (e::es) t) (hdb:autoParam ((x==("__debug__":Str))=false) au1_._auto_1)
    (he:autoParam (starEach (e::es) X.env=(false,eval e X.env)::starEach es X.env) au0_._auto_1) (hpl:autoParam ((backTo pos (starEach es X.env)).any (·.1)=false) au0_._auto_1):QE X (.Call (.Name x p) (e::es) [] pos) (tCall sp [] E0 t):=⟨My.pe_dn D hr hg ha.h hdb he hpl⟩
theorem appC (K:PySem.W.Frag) (ho:QE X o to) (he:QE X e te) (h:autoParam (X.K=K) au0_._auto_1)
    (hbase:autoParam (attributeBase o "append" X.env (eval o X.env)=eval o X.env) au0_._auto_1)
    (hfew:autoParam (((backTo cpos (starEach (e::[]) X.env)).all (fun x=>!x.1)&&(backToKw cpos (keywordEach [] X.env)).all (fun x=>x.1.isSome)
      && decide ((e::([]:List Expr)).length+([]:List Keyword).length+(if ([]:List Keyword).isEmpty then 0 else 1)<30))=true) au0_._auto_1)
    (hline:autoParam ((apos.endLine==cpos.line)=true) au0_._auto_1) (hs:autoParam (starEach (e::[]) X.env=(false,eval e X.env)::starEach [] X.env) au0_._auto_1) (hplain:autoParam ((backTo cpos (starEach [] X.env)).any (·.1)=false) au0_._auto_1) :
    QE X (.Call (.Attribute o "append" apos) [e] [] cpos) (tBM K "list" rAppend to (tCons te tNil)):=⟨My.appC K ho.h he.h h hbase hfew hline hs hplain⟩
theorem pss_nil:QSs X [] tNext:=⟨L2.pss_nil⟩
theorem pss_cons (h1:QS X st s1) (h2:QSs X rest s2):QSs X (st::rest) (tSeq s1 s2):=⟨L2.pss_cons h1.h h2.h⟩
theorem pss_one (h1:QS X st s1):QSs X [st] s1:=⟨L2.pss_one h1.h⟩
theorem ps_never:QS X st tNever:=⟨L2.ps_never⟩
theorem ps_ret (he:QE X e te):QS X (.Return (some e) pos) (tRet te):=⟨L2.ps_ret he.h⟩
theorem ps_expr (he:QE X e te) (hs:autoParam (swapsWith e none pos.line X.env=pure false) au0_._auto_1):QS X (.Expr e pos) (tDrop te):=⟨L2.ps_expr he.h hs⟩
theorem ps_set {i:Nat} {pos':Pos} (hN:X.N.Nodup) (hi:X.N[i]?=some x) (hx:Loc X.env.scope x) (he:QE X e te) (hs:autoParam (swapsWith e (some (.Name x pos')) pos.line X.env=pure false) au0_._auto_1) (hf:X.fn x=true∨X.env.scope.names.lookup x=some .local:=by first | exact .inl rfl | exact .inr rfl | assumption) :
    QS X (.Assign [.Name x pos'] e pos) (tAsg te (gName i)):=⟨L2.ps_set hN hi hx he.h hs hf⟩
theorem ps_asg {tg:Expr} {g:TG} (he:QE X e te) (hg:QG X tg g) (hs:autoParam (swapsWithSole [tg] e pos.line X.env=pure false) au0_._auto_1) (hw:autoParam (swappedStores [tg] e X.env=pure none) au0_._auto_1)
    (h1:autoParam ((assignEach [tg] X.env).map (·.2)=[assign tg X.env]) au0_._auto_1):QS X (.Assign [tg] e pos) (tAsg te g):=⟨L2.ps_asg he.h hg.h hs hw h1⟩
theorem ps_par {i j:Nat} {y:Str} {ta:TA} {px py pt:Pos} {kt k2 pt2} (hc:X.calm=true) (hN:X.N.Nodup) (hi:X.N[i]?=some x) (hj:X.N[j]?=some y) (hij:i≠j)
    (hx:X.env.scope.names.lookup x=some .local) (hy:X.env.scope.names.lookup y=some .local) (ha:QA X [a,b] ta)
    (hw:swappedStores [.Tuple [.Name x px,.Name y py] kt pt] (.Tuple [a,b] k2 pt2) X.env=pure (some [x,y]))
    (hs:autoParam (swapsWithSole [.Tuple [.Name x px,.Name y py] kt pt] (.Tuple [a,b] k2 pt2) pos.line X.env=pure false) au0_._auto_1) :
    QS X (.Assign [.Tuple [.Name x px,.Name y py] kt pt] (.Tuple [a,b] k2 pt2) pos) (tPar i j ta):=⟨L2.ps_par hc hN hi hj hij hx hy ha.h hw hs⟩
theorem ps_if {ss ss':List Stmt} {tc:TT} (hc:QT X c tc) (ha:QSs X ss s1) (hb:QSs X ss' s2):QS X (.If c ss ss' pos) (tIfS tc s1 s2):=⟨L2.ps_if hc.h ha.h hb.h⟩
theorem ps_while {tc:TT} (hp:PassesOwn (model X.prog X.w) X.A X.env X.xe) (hc:QT X c tc) (hb:QSs X sts s1):QS X (.While c sts [] pos) (tWhile tc s1):=⟨L2.ps_while hp hc.h hb.h⟩
theorem ps_for {tg:Expr} {wi:TI} {g:TG} (hp:PassesOwn (model X.prog X.w) X.A X.env X.xe) (hc:X.calm=true) (hi:QI X tg e wi) (hg:QG X tg g) (hb:QSs X sts s1)
    (hs:autoParam (∀x,foldedSetIterable e X.env x=pure x) au2_._auto_1):QS X (.For tg e sts [] pos) (tFor wi g s1):=⟨L2.ps_for hp hc hi.h hg.h hb.h hs⟩
theorem pg_name {i:Nat} (hN:X.N.Nodup) (hi:X.N[i]?=some x) (hx:Loc X.env.scope x) (hf:X.fn x=true∨X.env.scope.names.lookup x=some .local:=by first | exact .inl rfl | exact .inr rfl | assumption):QG X (.Name x pos) (gName i):=⟨L2.pg_name hN hi hx hf⟩
theorem pgs_nil:QGs X [] gNil:=⟨L2.pgs_nil⟩
theorem pgs_cons {g:TG} {u:TGs} (h1:QG X e g) (h2:QGs X es u) (hs:autoParam ((assignEach (e::es) X.env).map (·.2)=assign e X.env::(assignEach es X.env).map (·.2)) au0_._auto_1):QGs X (e::es) (gCons g u):=⟨L2.pgs_cons h1.h h2.h hs⟩
theorem pgT (K:PySem.W.Frag) {k:Nat} {g:TGs} {n:Nat} (hc:X.calm=true) (h2:QGs X es g) (hn:autoParam ((assignEach es X.env).length=n) au0_._auto_1) (hst:autoParam ((assignEach es X.env).findIdx? (·.1)=none) au0_._auto_1) (h:autoParam (X.K=K) au0_._auto_1):QG X (.Tuple es k pos) (gTup K n g):=⟨My.pgT K hc h2.h hn hst h⟩
theorem pgL (K:PySem.W.Frag) {k:Nat} {g:TGs} {n:Nat} (hc:X.calm=true) (h2:QGs X es g) (hn:autoParam ((assignEach es X.env).length=n) au0_._auto_1) (hst:autoParam ((assignEach es X.env).findIdx? (·.1)=none) au0_._auto_1) (h:autoParam (X.K=K) au0_._auto_1):QG X (.Tuple es k pos) (gLst K n g):=⟨My.pgL K hc h2.h hn hst h⟩
theorem piL (K:PySem.W.Frag) {tg:Expr} (hl:QE X e te) (h:autoParam (X.K=K) au0_._auto_1):QI X tg e (iList K te):=⟨My.piL K hl.h h⟩
theorem piT (K:PySem.W.Frag) {tg:Expr} (hl:QE X e te) (h:autoParam (X.K=K) au0_._auto_1):QI X tg e (iTup K te):=⟨My.piT K hl.h h⟩
theorem pi_range1 {tg:Expr} (hg:Gl X "range") (hm:X.mg "range"=none) (ha:QA X [a] t) (hs:autoParam (starEach [a] X.env=[(false,eval a X.env)]) au0_._auto_1):QI X tg (.Call (.Name "range" p) [a] [] pos) (iRng1 t):=⟨L2.pi_range1 hg hm ha.h hs⟩
end
end Jd

namespace Jd
open PySem PySem.Spec PyProof.Rows L2 My
section
variable {X:Cx} {x:Str} {n:Int} {pos apos cpos:Pos} {o:Expr} {to:TE}
theorem pe_cn (hg:Gl X x) (C:Cn X.mg x n) (hd:autoParam ((x==("__debug__":Str))=false) au1_._auto_1):QE X (.Name x pos) (tC (.int n)):=⟨My.pe_cn hg C hd⟩
theorem pe_bits (ho:QE X o to) (hbase:autoParam (attributeBase o "bit_length" X.env (eval o X.env)=eval o X.env) au0_._auto_1) (hline:autoParam ((apos.endLine==cpos.line)=true) au0_._auto_1) :
    QE X (.Call (.Attribute o "bit_length" apos) [] [] cpos) (tUn (fun x H Q=>tyV X.K "int" x H∧([]:List V)=[]∧rBits x H Q) to):=⟨My.pe_bits ho.h hbase hline⟩
theorem pe_chain {a b c:Expr} {ta tb tc:TE} {op op':CmpOp} {r r':R2} (ho:OpR X (compareOp op) r) (ho':OpR X (compareOp op') r') (ha:QE X a ta) (hb:QE X b tb) (hc:QE X c tc)
    (hm:autoParam (lastMarks [op,op'] [b,c]=false) au3_._auto_1):QE X (.Compare a [op,op'] [b,c] pos) (tChain r r' ta tb tc):=⟨L2.pe_chain ho ho' ha.h hb.h hc.h hm⟩
theorem pt_chain {a b c:Expr} {ta tb tc:TE} {op op':CmpOp} {r r':R2} (ho:OpR X (compareOp op) r) (ho':OpR X (compareOp op') r') (ha:QE X a ta) (hb:QE X b tb) (hc:QE X c tc)
    (hm:autoParam (lastMarks [op,op'] [b,c]=false) au3_._auto_1):QT X (.Compare a [op,op'] [b,c] pos) (tTest (tChain r r' ta tb tc)):=⟨L2.pt_chain ho ho' ha.h hb.h hc.h hm⟩
end
end Jd

namespace My
open PySem PySem.Spec PyProof.Rows L2 Mth
noncomputable def closL (cells:List (Str×Addr)):List (Str×NameKind)→List (Str×Addr)→List (Str×Addr)
  | [],cs=>cs
  | (y,k)::r,cs=>closL cells r (if k=.free then ((cells.lookup y).map fun c=>(y,c)).toList++cs else cs)
noncomputable def freeHas (cells:List (Str×Addr)) (names:List (Str×NameKind)):Bool:=names.all fun p=>!(p.2==NameKind.free)||(cells.lookup p.1).isSome
theorem closure_go {env:Env}:∀(names:List (Str×NameKind)) (cs:List (Str×Addr)),freeHas env.cells names=true →
    (forIn (m:=Sem) names cs fun x r=>match x with | (name,kind)=>if (kind==NameKind.free)=true then do let a ← cellOf env name;pure (ForInStep.yield ((name,a)::r)) else pure (ForInStep.yield r))=pure (closL env.cells names cs)
  | [],cs,_=>rfl
  | (y,k)::r,cs,h=>by
    have h2:freeHas env.cells r=true:=by
      unfold freeHas at h ⊢
      rw [List.all_cons,Bool.and_eq_true] at h
      exact h.2
    rw [List.forIn_cons]
    by_cases hk:k=.free
    · subst hk
      have h1:(env.cells.lookup y).isSome=true:=by
        unfold freeHas at h
        rw [List.all_cons,Bool.and_eq_true] at h
        simpa using h.1
      obtain ⟨c,hc⟩:=Option.isSome_iff_exists.mp h1
      have ih:=closure_go r ((y,c)::cs) h2
      have e:cellOf env y=pure c:=by unfold cellOf;rw [hc]
      show (((if (NameKind.free==NameKind.free)=true then do let a ← cellOf env y;pure (ForInStep.yield ((y,a)::cs)) else pure (ForInStep.yield cs)):Sem _) >>= _)=_
      rw [if_pos (by rfl),e,pure_bind,pure_bind]
      show forIn (m:=Sem) r ((y,c)::cs) _=_
      rw [ih]
      show _=pure (closL env.cells r (if NameKind.free=.free then ((env.cells.lookup y).map fun c=>(y,c)).toList++cs else cs))
      rw [if_pos rfl,hc]
      rfl
    · have ih:=closure_go r cs h2
      have hk':(k==NameKind.free)=false:=by simpa using hk
      show (((if (k==NameKind.free)=true then do let a ← cellOf env y;pure (ForInStep.yield ((y,a)::cs)) else pure (ForInStep.yield cs)):Sem _) >>= _)=_
      rw [hk',if_neg Bool.false_ne_true,pure_bind]
      show forIn (m:=Sem) r cs _=_
      rw [ih]
      show _=pure (closL env.cells r (if k=.free then _ else cs))
      rw [if_neg hk]
theorem closure_of {scope:Scope} {env:Env} (h:freeHas env.cells scope.names=true):closureFor scope env=pure (closL env.cells scope.names []):=by
  have e:=closure_go (env:=env) scope.names [] h
  show (forIn (m:=Sem) scope.names [] _ >>= fun cs=>pure cs)=_
  exact (congrArg (· >>= fun cs=>pure cs) e).trans (pure_bind _ _)
theorem closL_mem {cells:List (Str×Addr)}:∀(names:List (Str×NameKind)) (cs:List (Str×Addr)) (p:Str×Addr),p∈closL cells names cs→p∈cs∨cells.lookup p.1=some p.2
  | [],_,_,h=>.inl h
  | (y,k)::r,cs,p,h=>by
    rcases closL_mem r _ p h with q | q
    · by_cases hk:k=.free
      · rw [if_pos hk] at q
        rcases List.mem_append.mp q with z | z
        · cases e:cells.lookup y with
          | none=>rw [e] at z;simp at z
          | some c=>rw [e] at z;simp at z;subst z;exact .inr e
        · exact .inl z
      · rw [if_neg hk] at q
        exact .inl q
    · exact .inr q
theorem closL_has {cells:List (Str×Addr)}:∀(names:List (Str×NameKind)) (cs:List (Str×Addr)) (y:Str) (c:Addr),((y,NameKind.free)∈names∧cells.lookup y=some c)∨(y,c)∈cs→(y,c)∈closL cells names cs
  | [],_,_,_,h=>h.elim (fun z=>by simp at z) id
  | (z,k)::r,cs,y,c,h=>by
    refine closL_has r _ y c ?_
    rcases h with ⟨m,e⟩ | m
    · rcases List.mem_cons.mp m with q | q
      · cases q
        right
        rw [if_pos rfl,e]
        simp
      · exact .inl ⟨q,e⟩
    · right
      by_cases hk:k=.free
      · rw [if_pos hk];exact List.mem_append_right _ m
      · rw [if_neg hk];exact m
theorem lookup_in {α:Type}:∀{l:List (Str×α)} {x:Str} {v:α},l.lookup x=some v→(x,v)∈l
  | (y,u)::r,x,v,h=>by
    rw [List.lookup_cons] at h
    cases e:x==y with
    | true=>
      rw [e] at h
      cases h
      have:x=y:=by simpa using e
      subst this
      exact List.mem_cons_self
    | false=>
      rw [e] at h
      exact List.mem_cons_of_mem _ (lookup_in h)
theorem lookup_ex {α:Type}:∀{l:List (Str×α)} {x:Str} {v:α},(x,v)∈l→∃u,l.lookup x=some u
  | (y,u)::r,x,v,h=>by
    rw [List.lookup_cons]
    cases e:x==y with
    | true=>exact ⟨_,rfl⟩
    | false=>
      rcases List.mem_cons.mp h with q | q
      · cases q;simp at e
      · exact lookup_ex q
theorem closL_look {cells:List (Str×Addr)} {names:List (Str×NameKind)} {y:Str} {c:Addr} (h:(closL cells names []).lookup y=some c):cells.lookup y=some c:=
  (closL_mem names [] (y,c) (lookup_in h)).elim (fun z=>by simp at z) id
theorem closL_some {cells:List (Str×Addr)} {names:List (Str×NameKind)} {y:Str} {c:Addr} (h:(y,NameKind.free)∈names) (e:cells.lookup y=some c):(closL cells names []).lookup y=some c:=by
  obtain ⟨u,q⟩:=lookup_ex (closL_has names [] y c (.inl ⟨h,e⟩))
  rw [q]
  rw [closL_look q] at e
  exact e
noncomputable def Caps (X:Cx) (scope:Scope):List Str→List Nat→Prop
  | [],[]=>True
  | y::ys,j::js=>(X.N[j]?=some y∧X.env.kindOf y=some .cell∧scope.names.lookup y=some .free∧(relabel scope X.env).names.lookup y=some .cell)∧Caps X scope ys js
  | _,_=>False
theorem free_cell {cells:List (Str×Addr)} {names:List (Str×NameKind)} {y:Str} (h:freeHas cells names=true) (m:(y,NameKind.free)∈names):∃c,cells.lookup y=some c:=by
  unfold freeHas at h
  have q:=List.all_eq_true.mp h _ m
  exact Option.isSome_iff_exists.mp (by simpa using q)
theorem Caps.ok {X:Cx} {scope:Scope} (h:freeHas X.env.cells scope.names=true):∀{ys:List Str} {js:List Nat},Caps X scope ys js→CapOk X scope (closL X.env.cells scope.names []) ys js
  | [],[],_=>trivial
  | y::ys,j::js,⟨⟨a,b,c,d⟩,r⟩=>by
    have m:=lookup_in c
    obtain ⟨e,he⟩:=free_cell h m
    exact ⟨⟨a,b,d,by rw [closL_some m he,he]⟩,Caps.ok h r⟩
theorem relabel_has {scope:Scope} {env:Env} (h:freeHas env.cells scope.names=true) (hcell:∀y∈scope.names,y.2≠.cell) (y:Str)
    (q:(relabel scope env).names.lookup y=some .cell∨(relabel scope env).names.lookup y=some .free):∃c,(closL env.cells scope.names []).lookup y=some c:=by
  have m:(y,NameKind.free)∈scope.names:=by
    rcases q with q | q
    all_goals
      have m:=lookup_in q
      unfold relabel at m
      obtain ⟨⟨n,k⟩,hm,e⟩:=List.mem_map.mp m
      dsimp only at e
      split at e
      · rename_i hc
        rw [Bool.and_eq_true,Bool.and_eq_true] at hc
        have hk:k=.free:=by simpa using hc.1.1
        subst hk
        cases e
        first | exact hm | done
      · cases e
        first | exact hm | exact absurd rfl (hcell _ hm)
  obtain ⟨c,hc⟩:=free_cell h m
  exact ⟨c,closL_some m hc⟩
section
variable {X:Cx} {elt iter tg:Expr} {ifs:List Expr} {pos:Pos} {scope:Scope} {wi:TI} {te:TE} {tt:TT} {g:TG} {O N':List Str} {cap:List Nat} {n:Nat}
theorem pe_compC (hc:X.calm=true) (hi:PI X tg iter wi)
    (hg:∀(C:Addr) (s0:Shared) (H0:Hp) (ex':List Addr) (pn':List (Addr×Obj)),PG (cxComp X (O++N') scope (closL X.env.cells scope.names []) C s0 H0 ex' pn') tg g)
    (htt:∀(C:Addr) (s0:Shared) (H0:Hp) (ex':List Addr) (pn':List (Addr×Obj)),PTs (cxComp X (O++N') scope (closL X.env.cells scope.names []) C s0 H0 ex' pn') ifs tt)
    (helt:∀(C:Addr) (s0:Shared) (H0:Hp) (ex':List Addr) (pn':List (Addr×Obj)),PE (cxComp X (O++N') scope (closL X.env.cells scope.names []) C s0 H0 ex' pn') elt te)
    (hO:O.length=n) (hcap:Caps X scope N' cap) (hf:freeHas X.env.cells scope.names=true) (hcell:∀y∈scope.names,y.2≠.cell) (hkind:scope.kind=.function) (hnames:∀y∈scope.names,y.2=.local→scope.names.lookup y.1=some .local)
    (hs:autoParam (∀z,foldedSetIterable iter X.env z=pure z) au2_._auto_1) :
    PE X (.ListComp elt [⟨tg,iter,ifs,0⟩] scope pos) (tComp wi n cap g tt te):=
  pe_comp hc hi hg htt helt hO (hcap.ok hf) (closure_of hf) hcell hkind hnames (fun _ _=>closL_look) (relabel_has hf hcell) hs
end
section
variable {X:Cx} {elt iter tg:Expr} {ifs:List Expr} {pos:Pos} {scope:Scope} {wi:TI} {te:TE} {tt:TT} {g:TG} {O N':List Str} {cap:List Nat} {n:Nat}
theorem ps_compC {i:Nat} {x:Str} {pos' spos:Pos} (hN:X.N.Nodup) (hix:X.N[i]?=some x) (hx:Loc X.env.scope x) (hc:X.calm=true) (hi:PI X tg iter wi)
    (hg:∀(C:Addr) (s0:Shared) (H0:Hp) (ex':List Addr) (pn':List (Addr×Obj)),PG (cxComp X (O++N') scope (closL X.env.cells scope.names []) C s0 H0 ex' pn') tg g)
    (htt:∀(C:Addr) (s0:Shared) (H0:Hp) (ex':List Addr) (pn':List (Addr×Obj)),PTs (cxComp X (O++N') scope (closL X.env.cells scope.names []) C s0 H0 ex' pn') ifs tt)
    (helt:∀(C:Addr) (s0:Shared) (H0:Hp) (ex':List Addr) (pn':List (Addr×Obj)),PE (cxComp X (O++N') scope (closL X.env.cells scope.names []) C s0 H0 ex' pn') elt te)
    (hO:O.length=n) (hcap:Caps X scope N' cap) (hf:freeHas X.env.cells scope.names=true) (hcell:∀y∈scope.names,y.2≠.cell) (hkind:scope.kind=.function) (hnames:∀y∈scope.names,y.2=.local→scope.names.lookup y.1=some .local)
    (hsw:swapsWith (.ListComp elt [⟨tg,iter,ifs,0⟩] scope pos) (some (.Name x pos')) spos.line X.env=pure true)
    (hs:autoParam (∀z,foldedSetIterable iter X.env z=pure z) au2_._auto_1) (hfn:X.fn x=true∨X.env.scope.names.lookup x=some .local:=by first | exact .inl rfl | exact .inr rfl | assumption) :
    PS X (.Assign [.Name x pos'] (.ListComp elt [⟨tg,iter,ifs,0⟩] scope pos) spos) (tAsg (tComp wi n cap g tt te) (gName i)):=
  ps_comp hN hix hx hc hi hg htt helt hO (hcap.ok hf) (closure_of hf) hcell hkind hnames (fun _ _=>closL_look) (relabel_has hf hcell) hsw hs hfn
end
noncomputable def rm (D:Addr) (H:Hp):Hp:=fun b=>if b=D then none else H b
theorem rm_at {D:Addr} {H:Hp} {b:Addr} (h:b≠D):rm D H b=H b:=if_neg h
theorem rm_same {D:Addr} {H:Hp}:Same (rm D H) H:=fun b o e=>by
  unfold rm at e
  by_cases h:b=D
  · rw [if_pos h] at e;cases e
  · rw [if_neg h] at e;exact e
theorem rm_rm {D:Addr} {H H':Hp} (s:Same H H'):Same (rm D H) (rm D H'):=fun b o e=>by
  unfold rm at e ⊢
  by_cases h:b=D
  · rw [if_pos h] at e;cases e
  · rw [if_neg h] at e ⊢;exact s b o e
theorem rm_upd {D:Addr} {H:Hp} {o:HO}:rm D (upd H D o)=rm D H:=by
  funext b
  unfold rm
  by_cases h:b=D
  · rw [if_pos h,if_pos h]
  · rw [if_neg h,if_neg h,upd_ne h]
theorem rm_tup {D p:Addr} {H:Hp} {xs ys:List V} (hD:H D=some (.lst ys)) (h:H p=some (.tup xs)):rm D H p=some (.tup xs):=by
  rw [rm_at (fun e=>by rw [e,hD] at h;cases h)];exact h
theorem rm_up (D:Addr) (H:Hp) (o:HO):Same (rm D H) (upd H D o):=fun b u e=>by
  unfold rm at e
  by_cases h:b=D
  · rw [if_pos h] at e;cases e
  · rw [if_neg h] at e;rw [upd_ne h];exact e
theorem ix_last {n m:Nat} (h:n=m+1):ixN n (-1)=some m:=by
  subst h
  unfold ixN
  rw [if_neg (by (first | lia | omega)),if_pos (by (first | lia | omega))]
  congr 1
  (first | lia | omega)
structure Tells (J:It) (ok:Hp→Prop) (xs:List V):Prop where
  go:∀i H,ok H→i<xs.length→J.go i H∧∀x H',J.yld i H x H'→H'=H∧xs[i]?=some x
  stop:∀H,ok H→J.stop xs.length H
theorem tells_list {K:PySem.W.Frag} {a:Addr} {xs:List V}:Tells (Itl K a) (fun H=>SqL K H a xs) xs:=
  ⟨fun i H h hi=>⟨⟨xs,xs[i],h,by simp [hi]⟩,fun x H' y=>⟨y.1,y.2 xs h⟩⟩,fun H h=>⟨xs,h,Nat.le_refl _⟩⟩
theorem tells_tup {K:PySem.W.Frag} {a:Addr} {xs:List V}:Tells (Itt K a) (fun H=>SqT K H a xs) xs:=
  ⟨fun i H h hi=>⟨⟨xs,xs[i],h,by simp [hi]⟩,fun x H' y=>⟨y.1,y.2 xs h⟩⟩,fun H h=>⟨xs,h,Nat.le_refl _⟩⟩
noncomputable def CompB (n:Nat) (cap:List Nat) (g:TG) (tt:TT) (te:TE) (σ:L2.St) (Q:VK) (J:It) (H1:Hp):Prop:=∀D,H1 D=none→∃W:Nat→Nat→List V→Hp→Prop,(∃m,W 0 m [] (upd H1 D (.lst []))) ∧
  ∀i m xs H2,W i m xs H2→H2 D=some (.lst xs)∧((J.stop i H2∧Q (.ref D) H2)∨(J.go i H2∧xs.length<sizeLine∧∀x H3 σ0,σ0.length=n→J.yld i H2 x H3 →
    g x (σ0++capV cap σ) H3 fun σ2 H4=>(∃σ1,σ1.length=n∧σ2=σ1++capV cap σ)∧tt σ2 H4 fun b H5=>if b=true then te σ2 H5 fun y H6=>H6 D=some (.lst xs)∧∃m',m'<m∧W (i+1) m' (xs++[y]) (upd H6 D (.lst (xs++[y])))
      else ∃m',m'<m∧W (i+1) m' xs H5))
section
variable {wi:TI} {n:Nat} {cap:List Nat} {g:TG} {tt:TT} {te:TE} {σ:L2.St} {H:Hp} {Q:VK} {K:PySem.W.Frag}
theorem r_comp (h:wi σ H fun J H1=>CompB n cap g tt te σ Q J H1):tComp wi n cap g tt te σ H Q:=h
theorem r_rng1 {ta:TA} {R:It→Hp→Prop} (h:ta σ H fun vs H1=>∃j:Int,vs=[.int j]∧-(2 ^ 62)≤j∧j<2 ^ 62∧R (Itr 0 j.toNat) H1):iRng1 ta σ H R:=h
theorem r_yes {B:Bool→Hp→Prop} (h:B true H):tYes σ H B:=h
theorem compB_of {J:It} {ok:Hp→Prop} {xs:List V} (T:Tells J ok xs) (hok:∀H2,Same H H2→ok H2) (hl:xs.length≤1000) (P:Nat→List V→Hp→Prop) (h0:P 0 [] H)
    (step:∀(D:Addr) (i:Nat) (x:V) (ys:List V) (H2:Hp) (σ0:L2.St) (N:VK) (N0:Hp→Prop),σ0.length=n→H D=none→H2 D=some (.lst ys)→Same H H2→xs[i]?=some x→ys.length≤i→P i ys (rm D H2) →
      (∀y H6,Same H2 H6→P (i+1) (ys++[y]) (rm D H6)→N y H6)→(∀H5,Same H2 H5→P (i+1) ys (rm D H5)→N0 H5) →
      g x (σ0++capV cap σ) H2 fun σ2 H4=>(∃σ1,σ1.length=n∧σ2=σ1++capV cap σ)∧tt σ2 H4 fun b H5=>if b=true then te σ2 H5 N else N0 H5)
    (done:∀(D:Addr) (ys:List V) (H2:Hp),H D=none→H2 D=some (.lst ys)→Same H H2→ys.length≤xs.length→P xs.length ys (rm D H2)→Q (.ref D) H2):CompB n cap g tt te σ Q J H:=by
  intro D hD
  refine ⟨fun i m ys H2=>H2 D=some (.lst ys)∧Same H H2∧ys.length≤i∧i≤xs.length∧m=xs.length-i∧P i ys (rm D H2),⟨xs.length,upd_same,same_at (Same.refl _) hD,Nat.zero_le _,Nat.zero_le _,rfl,?_⟩,?_⟩
  · rw [rm_upd]
    have e:rm D H=H:=by
      funext b
      by_cases h:b=D
      · rw [h,hD];exact if_pos rfl
      · exact rm_at h
    rw [e];exact h0
  · rintro i m ys H2 ⟨e,s,hy,hi,rfl,p⟩
    refine ⟨e,?_⟩
    by_cases hlt:i<xs.length
    · obtain ⟨go,yld⟩:=T.go i H2 (hok H2 s) hlt
      refine .inr ⟨go,Nat.lt_of_le_of_lt (Nat.le_trans hy hi) (small1000 hl),fun x H3 σ0 h0 y=>?_⟩
      obtain ⟨rfl,hx⟩:=yld x H3 y
      refine step D i x ys _ σ0 _ _ h0 hD e s hx hy p (fun y H6 s6 p6=>?_) fun H5 s5 p5=>?_
      · refine ⟨s6 _ _ e,xs.length-(i+1),by (first | lia | omega),upd_same,same_at (s.trans s6) hD,?_,by (first | lia | omega),rfl,?_⟩
        · rw [List.length_append,List.length_singleton];(first | lia | omega)
        · rw [rm_upd];exact p6
      · exact ⟨xs.length-(i+1),by (first | lia | omega),s5 _ _ e,s.trans s5,by (first | lia | omega),by (first | lia | omega),rfl,p5⟩
    · have ei:i=xs.length:=by (first | lia | omega)
      subst ei
      exact .inl ⟨T.stop H2 (hok H2 s),done D ys H2 hD e s hy p⟩
theorem r_own1 {x:V} {σ0:L2.St} {R:L2.St→Hp→Prop} (h0:σ0.length=1) (h:R (some x::capV cap σ) H):gName 0 x (σ0++capV cap σ) H fun σ2 H4=>(∃σ1,σ1.length=1∧σ2=σ1++capV cap σ)∧R σ2 H4:=by
  match σ0,h0 with
  | [v],_=>exact ⟨⟨[some x],rfl,rfl⟩,h⟩
theorem r_own2 {p:Addr} {x y:V} {σ0:L2.St} {R:L2.St→Hp→Prop} (h0:σ0.length=2) (hp:H p=some (.tup [x,y])) (h:R (some x::some y::capV cap σ) H) :
    gTup K 2 (gCons (gName 0) (gCons (gName 1) gNil)) (.ref p) (σ0++capV cap σ) H fun σ2 H4=>(∃σ1,σ1.length=2∧σ2=σ1++capV cap σ)∧R σ2 H4:=by
  match σ0,h0 with
  | [v,u],_=>exact ⟨p,_,rfl,SqT.of hp,rfl,x,_,rfl,y,_,rfl,rfl,⟨[some x,some y],rfl,rfl⟩,h⟩
end
end My
namespace Jd
open PySem PySem.Spec PyProof.Rows L2 My
structure QTs (X:Cx) (ifs:List Expr) (t:TT):Prop where
  h:PTs X ifs t
section
variable {X:Cx} {c elt iter tg:Expr} {ifs:List Expr} {pos:Pos} {scope:Scope} {wi:TI} {te:TE} {tt:TT} {g:TG} {O N':List Str} {cap:List Nat} {n:Nat}
theorem pts_nil:QTs X [] tYes:=⟨My.pts_nil⟩
theorem pts_one (h:QT X c tt):QTs X [c] tt:=⟨My.pts_one h.h⟩
theorem pe_comp (hc:X.calm=true) (hi:QI X tg iter wi)
    (hg:∀(C:Addr) (s0:Shared) (H0:Hp) (ex':List Addr) (pn':List (Addr×Obj)),QG (cxComp X (O++N') scope (closL X.env.cells scope.names []) C s0 H0 ex' pn') tg g)
    (htt:∀(C:Addr) (s0:Shared) (H0:Hp) (ex':List Addr) (pn':List (Addr×Obj)),QTs (cxComp X (O++N') scope (closL X.env.cells scope.names []) C s0 H0 ex' pn') ifs tt)
    (helt:∀(C:Addr) (s0:Shared) (H0:Hp) (ex':List Addr) (pn':List (Addr×Obj)),QE (cxComp X (O++N') scope (closL X.env.cells scope.names []) C s0 H0 ex' pn') elt te)
    (hO:O.length=n) (hcap:Caps X scope N' cap) (hf:freeHas X.env.cells scope.names=true) (hcell:∀y∈scope.names,y.2≠.cell) (hkind:scope.kind=.function) (hnames:∀y∈scope.names,y.2=.local→scope.names.lookup y.1=some .local)
    (hs:autoParam (∀z,foldedSetIterable iter X.env z=pure z) au2_._auto_1) :
    QE X (.ListComp elt [⟨tg,iter,ifs,0⟩] scope pos) (tComp wi n cap g tt te):=
  ⟨My.pe_compC hc hi.h (fun C s0 H0 ex' pn'=>(hg C s0 H0 ex' pn').h) (fun C s0 H0 ex' pn'=>(htt C s0 H0 ex' pn').h) (fun C s0 H0 ex' pn'=>(helt C s0 H0 ex' pn').h) hO hcap hf hcell hkind hnames hs⟩
theorem ps_comp {i:Nat} {x:Str} {pos' spos:Pos} (hN:X.N.Nodup) (hix:X.N[i]?=some x) (hx:Loc X.env.scope x) (hc:X.calm=true) (hi:QI X tg iter wi)
    (hg:∀(C:Addr) (s0:Shared) (H0:Hp) (ex':List Addr) (pn':List (Addr×Obj)),QG (cxComp X (O++N') scope (closL X.env.cells scope.names []) C s0 H0 ex' pn') tg g)
    (htt:∀(C:Addr) (s0:Shared) (H0:Hp) (ex':List Addr) (pn':List (Addr×Obj)),QTs (cxComp X (O++N') scope (closL X.env.cells scope.names []) C s0 H0 ex' pn') ifs tt)
    (helt:∀(C:Addr) (s0:Shared) (H0:Hp) (ex':List Addr) (pn':List (Addr×Obj)),QE (cxComp X (O++N') scope (closL X.env.cells scope.names []) C s0 H0 ex' pn') elt te)
    (hO:O.length=n) (hcap:Caps X scope N' cap) (hf:freeHas X.env.cells scope.names=true) (hcell:∀y∈scope.names,y.2≠.cell) (hkind:scope.kind=.function) (hnames:∀y∈scope.names,y.2=.local→scope.names.lookup y.1=some .local)
    (hsw:swapsWith (.ListComp elt [⟨tg,iter,ifs,0⟩] scope pos) (some (.Name x pos')) spos.line X.env=pure true)
    (hs:autoParam (∀z,foldedSetIterable iter X.env z=pure z) au2_._auto_1) (hfn:X.fn x=true∨X.env.scope.names.lookup x=some .local:=by first | exact .inl rfl | exact .inr rfl | assumption) :
    QS X (.Assign [.Name x pos'] (.ListComp elt [⟨tg,iter,ifs,0⟩] scope pos) spos) (tAsg (tComp wi n cap g tt te) (gName i)):=
  ⟨My.ps_compC hN hix hx hc hi.h (fun C s0 H0 ex' pn'=>(hg C s0 H0 ex' pn').h) (fun C s0 H0 ex' pn'=>(htt C s0 H0 ex' pn').h) (fun C s0 H0 ex' pn'=>(helt C s0 H0 ex' pn').h) hO hcap hf hcell hkind hnames hsw hs hfn⟩
end
end Jd

namespace My
open PySem PySem.Spec PyProof.Rows L2 Mth
theorem vals_ints:∀{us:List Value} {ns:List Int},IntsAre us ns→Vals (ns.map V.int) us
  | _,_,.nil=>.nil
  | _,_,.cons n t r=>.cons ⟨t,rfl⟩ (vals_ints r)
noncomputable def rSorted (K:PySem.W.Frag):List V→Hp→VK→Prop:=fun xs H Q=>∃(l:Addr) (ns:List Int),xs=[.ref l]∧SqL K H l (ns.map V.int)∧ns.length<64 ∧
  ∀(p:Addr) (ns':List Int),H p=none→ns'.Perm ns→ns'.Pairwise (·≤·)→Q (.ref p) (upd H p (.lst (ns'.map V.int)))
theorem sortedC {X:Cx} (K:PySem.W.Frag) (hK:autoParam (X.K=K) au0_._auto_1):CallR X (.builtin "sorted") (rSorted K):=by
  subst hK
  intro pins s σ H xs us Q I r h
  obtain ⟨l,ns,rfl,hq,h64,q⟩:=h
  obtain ⟨u,rfl,rx⟩:=vals1 r
  cases rx
  obtain ⟨its,rv,p,hz⟩:=I.list hq
  have hl:=rv.length
  rw [List.length_map] at hl
  refine sorted_ints p.isList (intsAre_of rv) (by (first | lia | omega)) fun out ns' a1 a2 a3=>?_
  obtain ⟨e,he⟩:=sortedAll_at s.heap its out
  have hn:H (s.heap.objs.size+1)=none:=I.hok.fresh (Nat.le_succ _)
  refine ⟨.ref (s.heap.objs.size+1),_,I.laid (t':=s.toks) (o:=.lst (ns'.map V.int)) (fun b o z=>sortedAll_old z) (Nat.le_succ _) ?_,rfl,q _ ns' hn a2 a3⟩
  refine ⟨?_,out.toList,e,vals_ints a1,?_⟩
  · rw [List.length_map,a2.length_eq]
    exact Nat.le_of_lt (small1000 (by (first | lia | omega)))
  · rw [he]
theorem r_sorted {K:PySem.W.Frag} {H:Hp} {Q:VK} {l:Addr} {ns:List Int} (h:SqL K H l (ns.map V.int)) (h64:ns.length<64) (q:∀(p:Addr) (ns':List Int) (H':Hp),Same H H'→H p=none→H' p=some (.lst (ns'.map V.int))→ns'.Perm ns→ns'.Pairwise (·≤·)→Q (.ref p) H'):rSorted K [.ref l] H Q:=
  ⟨l,ns,rfl,h,h64,fun p ns' hp h1 h2=>q p ns' _ (same_at (Same.refl _) hp) hp upd_same h1 h2⟩
section
variable {σ:L2.St} {H:Hp} {R:It→Hp→Prop}
theorem r_chain {r r':R2} {ta tb tc:TE} {Q:VK} (h:ta σ H fun x H1=>tb σ H1 fun y H2=>r x y H2 fun z H3=>∃k,z=.bl k∧(if k=true then tc σ H3 fun w' H4=>r' y w' H4 Q else Q (.bl false) H3)):tChain r r' ta tb tc σ H Q:=h
theorem r_rng2 {ta:TA} (h:ta σ H fun vs H1=>∃i j:Int,vs=[.int i,.int j]∧(-(2 ^ 62)≤i∧i<2 ^ 62∧-(2 ^ 62)≤j∧j<2 ^ 62)∧R (Itr i (j-i).toNat) H1):iRng2 ta σ H R:=h
end
end My
namespace Jd
open PySem PySem.Spec PyProof.Rows L2 My
theorem pi_range2 {X:Cx} {a b tg:Expr} {t:TA} {p pos:Pos} (hg:Gl X "range") (hm:X.mg "range"=none) (ha:QA X [a,b] t) (hs:autoParam (starEach [a,b] X.env=[(false,eval a X.env),(false,eval b X.env)]) au0_._auto_1) (hs2:autoParam (starEach [b] X.env=[(false,eval b X.env)]) au0_._auto_1) :
    QI X tg (.Call (.Name "range" p) [a,b] [] pos) (iRng2 t):=⟨L2.pi_range2 hg hm ha.h hs hs2⟩
end Jd

namespace My
open PySem PySem.Spec PyProof.Rows L2 Mth
theorem inv_turned_new {X:Cx} {pins:List (Addr×Obj)} {σ:L2.St} {H:Hp} {s:Shared} {h':Heap} {t':Nat} {T:Addr} {o:HO} (ch:List Addr) (I:L2.Inv X pins σ H s) (k:∀b u,b∉ch→s.heap.get? b=some u→h'.get? b=some u)
    (hf:∀b∈ch,FpOk X pins H b) (hT:s.heap.objs.size≤T) (new:ObjOk X.prog X.w (upd H T o) h' T o):L2.Inv X pins σ (upd H T o) { s with heap:=h',toks:=t' }:=by
  have hn:H T=none:=I.hok.fresh hT
  have out:∀b u,H b=some u→b∉ch:=fun b u e z=>by rw [(hf b z).1] at e;cases e
  have old:∀b u,H b=some u→upd H T o b=some u:=fun b u e=>by rw [upd_ne (ne_of_none e hn)];exact e
  refine I.step (g':=s.gens) (d':=s.drawn) (ch:=ch) (fun b hb=>?_) (fun b u _ _ hc e _=>k b u hc e) (fun b u _ _ hc e _=>⟨u.slots,k b u hc e⟩) (fun b u hc e z=>?_) (fun b u hc e=>⟨u,k b u hc e⟩)
    (fun b xs e=>old b _ e) (fun b u v e=>old b _ e) (fun b ps e=>⟨#[],by rw [old b _ e];simp⟩) (fun m hm=>?_) (fun b u e=>?_) I.bare
  · obtain ⟨_,f1,_,f3,f4,f5⟩:=hf b hb
    exact ⟨f3,f1,f4,f5⟩
  · have hb:b≠T:=Nat.ne_of_lt (Nat.lt_of_lt_of_le (Heap.lt_size e) hT)
    rw [upd_ne hb]
    exact z
  · obtain ⟨u,es,ep,hu,r⟩:=hm
    exact ⟨u,es,ep,k _ u (fun z=>(hf _ z).2.1 rfl) hu,r⟩
  · by_cases hb:b=T
    · subst hb
      rw [upd_same] at e
      cases e
      exact new
    · rw [upd_ne hb] at e
      exact ObjOk.stay (I.hok b u e) (fun c v hc q=>k c v (hc.elim (fun z=>z▸out b u e) fun z=>out c _ z) q) (fun c q=>old c _ q) fun c xs q=>old c _ q
section
variable {X:Cx} {a:Expr} {ta:TA} {p pos:Pos} {elts:List Expr} {kt:Nat} {tpos:Pos}
end
section
variable {σ:L2.St} {H:Hp} {K:PySem.W.Frag}
end
section
variable {σ:L2.St} {H:Hp} {D:Ends}
end
section
variable {X:Cx}
end
end My
namespace Jd
open PySem PySem.Spec PyProof.Rows L2 My
end Jd

namespace My
open PySem PySem.Spec PyProof.Rows L2 Mth
noncomputable def NoAttrs (K:PySem.W.Frag) (C:Addr):List Str→Prop
  | []=>True
  | f::fs=>NoAttr K C f∧NoAttrs K C fs
theorem NoAttrs.of {K:PySem.W.Frag} {C:Addr} {f:Str}:∀{fs:List Str},NoAttrs K C fs→f∈fs→NoAttr K C f
  | g::fs,h,hm=>by
    rcases List.mem_cons.mp hm with z | z
    · rw [z];exact h.1
    · exact NoAttrs.of h.2 z
structure Cl (K:PySem.W.Frag) (mg:Str→Option Value) (x:Str) (C:Addr) (fs:List Str):Prop where
  cl:Cls K C
  at_:mg x=some (.ref C)
  no:NoAttrs K C fs
structure Dm (P:Program) (w:World) (K:PySem.W.Frag) (mg:Str→Option Value) (base:Heap) (k:Nat) (C:Addr) (m:Str) (ps:List Str) (sp:Sp):Prop where
  ex:∃(f:Addr) (fd:FuncData),FnOk P w K mg base CX0 k f fd ps sp∧Meth K C m f∧Binds K fd ps []
structure Dk (P:Program) (w:World) (K:PySem.W.Frag) (mg:Str→Option Value) (base:Heap) (k:Nat) (x:Str) (C:Addr) (ps:List Str) (sp:Sp):Prop where
  ex:∃(f:Addr) (fd:FuncData),FnOk P w K mg base CX0 k f fd ps sp∧Mk K C f∧Binds K fd ps []∧mg x=some (.ref C)
noncomputable def rFld (K:PySem.W.Frag) (f:Str):V→Hp→VK→Prop:=fun x H Q=>∃a C dx fs v,x=.ref a∧H a=some (.ins C dx fs)∧Cls K C∧NoAttr K C f∧fs.lookup f=some v∧Q v H
noncomputable def rFldS (K:PySem.W.Frag) (f:Str) (y:V) (N:Hp→Prop):V→Hp→Prop:=fun x H=>∃a C dx fs,x=.ref a∧H a=some (.ins C dx fs)∧Cls K C∧NoAttr K C f∧fs.length<1000∧N (upd H a (.ins C dx (putF f y fs)))
noncomputable def rMeth (C:Addr) (m:Str) (sp:Sp) (σ:L2.St) (t:TA):V→Hp→VK→Prop:=fun x H1 Q=>∃a dx fs,x=.ref a∧H1 a=some (.ins C dx fs)∧fs.lookup m=none∧t σ H1 fun vs H2=>sp (x::(vs++[])) H2 Q E0
section
variable {σ:L2.St} {H:Hp} {Q:VK} {K:PySem.W.Frag} {f m x:Str} {to tv:TE} {t:TA} {D:Ends} {C a dx:Addr} {fs:List (Str×V)} {fn:List Str} {mg:Str→Option Value} {v y:V} {N:Hp→Prop} {sp:Sp}
theorem r_fld (h:to σ H fun x H1=>rFld K f x H1 Q):tFld K to f σ H Q:=h
theorem r_sfld (h:tv σ H fun y H1=>to σ H1 fun x H2=>rFldS K f y (fun H3=>D.nx σ H3) x H2):sFld K to tv f D σ H:=h
theorem r_meth (h:to σ H fun x H1=>rMeth C m sp σ t x H1 Q):tMeth C m sp [] E0 to t σ H Q:=h
theorem r_make (h:t σ H fun vs H1=>∀x dx,H1 x=none→H1 dx=none→dx≠x→sp (.ref x::(vs++[])) (upd (upd H1 dx (.own x)) x (.ins C dx [])) (fun v H2=>v=.non∧Q (.ref x) H2) E0):tMake C sp [] E0 t σ H Q:=h
theorem r_f (k:Cl K mg x C fn) (ha:H a=some (.ins C dx fs)) (hl:fs.lookup f=some v) (q:Q v H) (hf:autoParam (f∈fn) au1_._auto_1):rFld K f (.ref a) H Q:=⟨a,C,dx,fs,v,rfl,ha,k.cl,k.no.of hf,hl,q⟩
theorem r_s (k:Cl K mg x C fn) (ha:H a=some (.ins C dx fs)) (hn:fs.length<1000) (q:N (upd H a (.ins C dx (putF f y fs)))) (hf:autoParam (f∈fn) au1_._auto_1):rFldS K f y N (.ref a) H:=⟨a,C,dx,fs,rfl,ha,k.cl,k.no.of hf,hn,q⟩
theorem r_m (ha:H a=some (.ins C dx fs)) (hm:fs.lookup m=none) (q:t σ H fun vs H2=>sp (.ref a::(vs++[])) H2 Q E0):rMeth C m sp σ t (.ref a) H Q:=⟨a,dx,fs,rfl,ha,hm,q⟩
end
end My
namespace Jd
open PySem PySem.Spec PyProof.Rows L2 My
section
variable {X:Cx} {k:Nat} {x m f:Str} {ps:List Str} {sp:Sp} {p pos apos:Pos} {o e value:Expr} {es:List Expr} {to tv:TE} {t:TA} {C:Addr}
theorem pe_fld (K:PySem.W.Frag) (he:QE X e to) (hb:autoParam (attributeBase e f X.env (eval e X.env)=eval e X.env) au0_._auto_1) (hK:autoParam (X.K=K) au0_._auto_1):QE X (.Attribute e f pos) (tFld K to f):=⟨hK▸L2.pe_fld he.h hb⟩
theorem ps_fld (K:PySem.W.Frag) {pos':Pos} (ha:QE X o to) (hv:QE X value tv) (hs:autoParam (swapsWith value (some (.Attribute o f pos')) pos.line X.env=pure false) au0_._auto_1) (hK:autoParam (X.K=K) au0_._auto_1):QS X (.Assign [.Attribute o f pos'] value pos) (sFld K to tv f):=⟨hK▸L2.ps_fld ha.h hv.h hs⟩
theorem pe_dk (D:Dk X.prog X.w X.K X.mg X.base k x C ps sp) (hr:Room (k+1) X.A) (hg:Gl X x) (ha:QA X (e::es) t) (hdb:autoParam ((x==("__debug__":Str))=false) au1_._auto_1)
    (he:autoParam (starEach (e::es) X.env=(false,eval e X.env)::starEach es X.env) au0_._auto_1) (hpl:autoParam ((backTo pos (starEach es X.env)).any (·.1)=false) au0_._auto_1):QE X (.Call (.Name x p) (e::es) [] pos) (tMake C sp [] E0 t):=by
  obtain ⟨fa,fd,ok,hk,hb,hm⟩:=D.ex
  exact ⟨pe_make hk ok hr hg hm hb .nil pass0 ha.h hdb he hpl⟩
theorem pe_dm (D:Dm X.prog X.w X.K X.mg X.base k C m ps sp) (c:Cls X.K C) (hr:Room k X.A) (ho:QE X o to) (ha:QA X (e::es) t) {pl:Sem Bool}
    (he:autoParam (starEach (e::es) X.env=(false,eval e X.env)::starEach es X.env) au0_._auto_1) (hpl:autoParam ((backTo pos (starEach es X.env)).any (·.1)=false) au0_._auto_1)
    (ht:autoParam (eval (.Call (.Attribute o m apos) (e::es) [] pos) X.env=(do
      let ov ← eval o X.env
      standAt apos.atName
      let (g,first) ← holding [ov] (getMethod ov m pl)
      callWith pos g first (backTo pos (starEach (e::es) X.env)) (backToKw pos (keywordEach [] X.env)))) au0_._auto_1):QE X (.Call (.Attribute o m apos) (e::es) [] pos) (tMeth C m sp [] E0 to t):=by
  obtain ⟨fa,fd,ok,hm,hb⟩:=D.ex
  exact ⟨pe_meth ho.h c hm ok hr hb .nil pass0 ha.h he hpl ht⟩
theorem pe_dm0 (D:Dm X.prog X.w X.K X.mg X.base k C m ps sp) (c:Cls X.K C) (hr:Room k X.A) (ho:QE X o to) {pl:Sem Bool}
    (ht:autoParam (eval (.Call (.Attribute o m apos) [] [] pos) X.env=(do
      let ov ← eval o X.env
      standAt apos.atName
      let (g,first) ← holding [ov] (getMethod ov m pl)
      callWith pos g first (backTo pos (starEach [] X.env)) (backToKw pos (keywordEach [] X.env)))) au0_._auto_1):QE X (.Call (.Attribute o m apos) [] [] pos) (tMeth C m sp [] E0 to tNil):=by
  obtain ⟨fa,fd,ok,hm,hb⟩:=D.ex
  exact ⟨pe_meth0 ho.h c hm ok hr hb .nil pass0 ht⟩
end
end Jd

namespace My
open PySem PySem.Spec PyProof.Rows L2 Mth
theorem extC {X:Cx} (K:PySem.W.Frag) {o e:Expr} {to te:TE} {apos cpos:Pos} (ho:PE X o to) (he:PE X e te) (h:autoParam (X.K=K) au0_._auto_1)
    (hbase:autoParam (attributeBase o "extend" X.env (eval o X.env)=eval o X.env) au0_._auto_1)
    (hfew:autoParam (((backTo cpos (starEach (e::[]) X.env)).all (fun x=>!x.1)&&(backToKw cpos (keywordEach [] X.env)).all (fun x=>x.1.isSome)
      && decide ((e::([]:List Expr)).length+([]:List Keyword).length+(if ([]:List Keyword).isEmpty then 0 else 1)<30))=true) au0_._auto_1)
    (hline:autoParam ((apos.endLine==cpos.line)=true) au0_._auto_1) (hs:autoParam (starEach (e::[]) X.env=(false,eval e X.env)::starEach [] X.env) au0_._auto_1) (hplain:autoParam ((backTo cpos (starEach [] X.env)).any (·.1)=false) au0_._auto_1) :
    PE X (.Call (.Attribute o "extend" apos) [e] [] cpos) (tBM K "list" rExtend to (tCons te tNil)):=
  h▸pe_bm PySem.F.plainAttrs_list PySem.F.slot_list_extend PySem.F.type_list_extend mt_extend ho (pa_cons he pa_nil hs) hbase hfew hline hs hplain
theorem r_ext {p b:Addr} {xs zs:List V} {H:Hp} {Q:VK} (h:H p=some (.lst xs)) (hb:H b=some (.lst zs)) (hl:xs.length+zs.length≤sizeLine) (q:Q .non (upd H p (.lst (xs++zs)))):rExtend (.ref p) [.ref b] H Q:=⟨p,b,xs,zs,rfl,rfl,h,hb,hl,q⟩
end My
namespace Jd
open PySem PySem.Spec PyProof.Rows L2 Mth
theorem extC {X:Cx} (K:PySem.W.Frag) {o e:Expr} {to te:TE} {apos cpos:Pos} (ho:QE X o to) (he:QE X e te) (h:autoParam (X.K=K) au0_._auto_1)
    (hbase:autoParam (attributeBase o "extend" X.env (eval o X.env)=eval o X.env) au0_._auto_1)
    (hfew:autoParam (((backTo cpos (starEach (e::[]) X.env)).all (fun x=>!x.1)&&(backToKw cpos (keywordEach [] X.env)).all (fun x=>x.1.isSome)
      && decide ((e::([]:List Expr)).length+([]:List Keyword).length+(if ([]:List Keyword).isEmpty then 0 else 1)<30))=true) au0_._auto_1)
    (hline:autoParam ((apos.endLine==cpos.line)=true) au0_._auto_1) (hs:autoParam (starEach (e::[]) X.env=(false,eval e X.env)::starEach [] X.env) au0_._auto_1) (hplain:autoParam ((backTo cpos (starEach [] X.env)).any (·.1)=false) au0_._auto_1) :
    QE X (.Call (.Attribute o "extend" apos) [e] [] cpos) (tBM K "list" rExtend to (tCons te tNil)):=⟨My.extC K ho.h he.h h hbase hfew hline hs hplain⟩
end Jd
namespace L2
open PySem PySem.Spec PyProof.Rows
theorem lenS {α:Type} {n:Nat}:∀{us:List α},us.length=n+1→∃(a:α) (as:List α),us=a::as∧as.length=n
  | [],h=>nomatch h
  | a::as,h=>⟨a,as,rfl,Nat.succ.inj h⟩
theorem len0 {α:Type}:∀{us:List α},us.length=0→us=[]
  | [],_=>rfl
  | _::_,h=>nomatch h
theorem Fun.binds1 {K:PySem.W.Frag} {x qual:Str} {st:Stmt} {f:Addr} {fd:FuncData} {pa:Str} (F:Fun K x qual st f fd) (h:∀(kV doc pm:Value) (an:Option Addr) (cdv ct ua:Value),bindArgs (PySem.W.fnOf x qual (defArgs st) (defBody st) (defScope st) .none kV doc pm an cdv ct) ⟨[ua],[]⟩=pure [(pa,ua)]):Binds K fd [pa] []:=
  F.binds fun kV doc pm an cdv ct us hl=>by
    obtain ⟨ua,us0,rfl,hl0⟩:=lenS (n:=0) hl
    obtain rfl:=len0 hl0
    exact h kV doc pm an cdv ct ua
theorem Fun.binds2 {K:PySem.W.Frag} {x qual:Str} {st:Stmt} {f:Addr} {fd:FuncData} {pa pb:Str} (F:Fun K x qual st f fd) (h:∀(kV doc pm:Value) (an:Option Addr) (cdv ct ua ub:Value),bindArgs (PySem.W.fnOf x qual (defArgs st) (defBody st) (defScope st) .none kV doc pm an cdv ct) ⟨[ua,ub],[]⟩=pure [(pa,ua),(pb,ub)]):Binds K fd [pa,pb] []:=
  F.binds fun kV doc pm an cdv ct us hl=>by
    obtain ⟨ua,us1,rfl,hl1⟩:=lenS (n:=1) hl
    obtain ⟨ub,us0,rfl,hl0⟩:=lenS (n:=0) hl1
    obtain rfl:=len0 hl0
    exact h kV doc pm an cdv ct ua ub
theorem Fun.binds3 {K:PySem.W.Frag} {x qual:Str} {st:Stmt} {f:Addr} {fd:FuncData} {pa pb pc:Str} (F:Fun K x qual st f fd) (h:∀(kV doc pm:Value) (an:Option Addr) (cdv ct ua ub uc:Value),bindArgs (PySem.W.fnOf x qual (defArgs st) (defBody st) (defScope st) .none kV doc pm an cdv ct) ⟨[ua,ub,uc],[]⟩=pure [(pa,ua),(pb,ub),(pc,uc)]):Binds K fd [pa,pb,pc] []:=
  F.binds fun kV doc pm an cdv ct us hl=>by
    obtain ⟨ua,us2,rfl,hl2⟩:=lenS (n:=2) hl
    obtain ⟨ub,us1,rfl,hl1⟩:=lenS (n:=1) hl2
    obtain ⟨uc,us0,rfl,hl0⟩:=lenS (n:=0) hl1
    obtain rfl:=len0 hl0
    exact h kV doc pm an cdv ct ua ub uc
theorem Fun.binds4 {K:PySem.W.Frag} {x qual:Str} {st:Stmt} {f:Addr} {fd:FuncData} {pa pb pc pd:Str} (F:Fun K x qual st f fd) (h:∀(kV doc pm:Value) (an:Option Addr) (cdv ct ua ub uc ud:Value),bindArgs (PySem.W.fnOf x qual (defArgs st) (defBody st) (defScope st) .none kV doc pm an cdv ct) ⟨[ua,ub,uc,ud],[]⟩=pure [(pa,ua),(pb,ub),(pc,uc),(pd,ud)]):Binds K fd [pa,pb,pc,pd] []:=
  F.binds fun kV doc pm an cdv ct us hl=>by
    obtain ⟨ua,us3,rfl,hl3⟩:=lenS (n:=3) hl
    obtain ⟨ub,us2,rfl,hl2⟩:=lenS (n:=2) hl3
    obtain ⟨uc,us1,rfl,hl1⟩:=lenS (n:=1) hl2
    obtain ⟨ud,us0,rfl,hl0⟩:=lenS (n:=0) hl1
    obtain rfl:=len0 hl0
    exact h kV doc pm an cdv ct ua ub uc ud
end L2
namespace My
open PySem PySem.Spec PyProof.Rows L2
theorem seq_cut {t u:TS} {D:Ends} {σ:L2.St} {H:Hp} (Pv:L2.St→Hp→Prop) (rest:∀σ' H',Pv σ' H'→u D σ' H') (h:∀N:L2.St→Hp→Prop,(∀σ' H',Pv σ' H'→N σ' H')→t { D with nx:=N } σ H):tSeq t u D σ H:=h (u D) rest
theorem seq_cut4 {a b c d u:TS} {D:Ends} {σ:L2.St} {H:Hp} (Pv:L2.St→Hp→Prop) (rest:∀σ' H',Pv σ' H'→u D σ' H') (h:∀N:L2.St→Hp→Prop,(∀σ' H',Pv σ' H'→N σ' H')→tSeq a (tSeq b (tSeq c d)) { D with nx:=N } σ H):tSeq a (tSeq b (tSeq c (tSeq d u))) D σ H:=h (u D) rest
theorem nx_of {N:L2.St→Hp→Prop} {rt:VK} {bk ct:L2.St→Hp→Prop} {σ:L2.St} {H:Hp} (h:N σ H):(Ends.mk N rt bk ct).nx σ H:=h
theorem body_cut {g:TG} {tb:TS} {x:V} {σ:L2.St} {H:Hp} {Pv bk:L2.St→Hp→Prop} {rt:VK} (h:∀(M B:L2.St→Hp→Prop) (R:VK),(∀σ H,Pv σ H→M σ H)→(∀σ H,bk σ H→B σ H)→(∀v H,rt v H→R v H)→g x σ H fun σ2 H2=>tb (Ends.mk M R B M) σ2 H2):g x σ H fun σ2 H2=>tb (Ends.mk Pv rt bk Pv) σ2 H2:=h Pv bk rt (fun _ _ z=>z) (fun _ _ z=>z) (fun _ _ z=>z)
end My

namespace My
open PySem PySem.Spec PyProof.Rows L2 Mth
noncomputable def rMaxL (K:PySem.W.Frag):List V→Hp→VK→Prop:=fun xs H Q=>∃(l:Addr) (ns:List Int),xs=[.ref l]∧SqL K H l (ns.map V.int)∧0<ns.length∧∀M:Int,M∈ns→(∀a∈ns,a≤M)→Q (.int M) H
theorem maxL {X:Cx} (K:PySem.W.Frag) (hc:X.calm=true) (hK:autoParam (X.K=K) au0_._auto_1):CallR X (.builtin "max") (rMaxL K):=by
  subst hK
  intro pins s σ H xs us Q I r h
  obtain ⟨l,ns,rfl,hq,hpos,q⟩:=h
  obtain ⟨u,rfl,rx⟩:=vals1 r
  cases rx
  obtain ⟨its,rv,p,hz⟩:=I.list hq
  have hi:=intsAre_of rv
  obtain ⟨ys,e⟩:=hi.allInts.items
  have hns:ns=ys.toList.map (·.1):=by
    have h2:=nums_intItems ys
    rw [← e] at h2
    exact hi.numsOf.symm.trans h2
  have hp':s.heap.IsList l (intItems ys):=by rw [← e];exact p.isList
  have hlen:ns.length=ys.size:=by rw [hns,List.length_map,Array.length_toList]
  refine max_intList (I.ok.hd hc) hp' (by (first | lia | omega)) fun v h' tk hv hk=>?_
  obtain ⟨t,rfl⟩:=intItems_at hv
  obtain ⟨h1,h2⟩:=argBest_gt (numAt ys) (ys.size-1)
  refine ⟨.int _,H,I.kept hk,⟨t,rfl⟩,q _ ?_ fun a ha=>?_⟩
  · rw [numAt_eq,← hns]
    exact PySem.getD_mem (by (first | lia | omega))
  · obtain ⟨j,hj,rfl⟩:=PySem.mem_getD ha
    have:=h2 j (by (first | lia | omega))
    rw [numAt_eq ys j,← hns] at this
    exact this
theorem r_maxL {K:PySem.W.Frag} {H:Hp} {Q:VK} {l:Addr} {ns:List Int} (h:SqL K H l (ns.map V.int)) (hp:0<ns.length) (q:∀M:Int,M∈ns→(∀a∈ns,a≤M)→Q (.int M) H):rMaxL K [.ref l] H Q:=⟨l,ns,rfl,h,hp,q⟩
noncomputable def rIndex:V→List V→Hp→VK→Prop:=fun x vs H Q=>∃(l:Addr) (ns:List Int) (k:Int),x=.ref l∧vs=[.int k]∧H l=some (.lst (ns.map V.int))∧ns.length≤1000∧k∈ns∧∀j:Nat,ns[j]?=some k→Q (.int (j:Int)) H
theorem index_of {k:Int}:∀{ns:List Int},k∈ns→∃j:Nat,ns[j]?=some k∧∀i:Nat,i<j→ns[i]?≠some k
  | a::ns,h=>by
    by_cases e:a=k
    · exact ⟨0,by rw [e];rfl,fun i hi=>absurd hi (Nat.not_lt_zero _)⟩
    · rcases List.mem_cons.mp h with z | z
      · exact absurd z.symm e
      · obtain ⟨j,h1,h2⟩:=index_of z
        refine ⟨j+1,h1,fun i hi=>?_⟩
        cases i with
        | zero=>exact fun q=>e (Option.some.inj q)
        | succ i=>exact h2 i (Nat.lt_of_succ_lt_succ hi)
theorem mt_index {X:Cx}:MtM X "list.index" rIndex:=by
  intro pins s σ H x vs v us Q I rx rv h
  obtain ⟨l,ns,k,rfl,rfl,hH,h1000,hk,q⟩:=h
  cases rx
  obtain ⟨u,rfl,ru⟩:=rv.one
  obtain ⟨t,rfl⟩:=ru
  obtain ⟨j,hj,hno⟩:=index_of hk
  obtain ⟨z,its,n,r,hl,e⟩:=I.lstM hH
  have hlen:its.length=ns.length:=by rw [← hl,List.length_map]
  have hjn:j<ns.length:=(List.getElem?_eq_some_iff.mp hj).1
  have at_:∀(i:Nat) (a:Int),ns[i]?=some a→∃t',its[i]?=some (Value.int a t'):=fun i a ha=>by
    obtain ⟨u,hu,ru⟩:=Vals.get r (i:=i) (x:=.int a) (by rw [List.getElem?_map,ha];rfl)
    obtain ⟨t',rfl⟩:=ru
    exact ⟨t',hu⟩
  have at2:∀(i:Nat) (hi:i<its.length),∃(a:Int) (t':Nat),ns[i]?=some a∧its[i]=Value.int a t':=fun i hi=>by
    have ha:ns[i]?=some ns[i]:=List.getElem?_eq_getElem (by omega)
    obtain ⟨t',h'⟩:=at_ i _ ha
    rw [List.getElem?_eq_getElem hi] at h'
    exact ⟨_,t',ha,Option.some.inj h'⟩
  refine call_meets F.slot_list_index ⟨_,e,rfl⟩ F.entry_list_index (F.args_list_index_2 _ _)
    (MeetsSeq.list_index l its.toArray n (.int k t) (isInt k) (fun y hy=>?_) j (by rw [List.size_toArray];omega) (by omega) ?_ (fun m hm hlt=>?_)) ⟨e,?_⟩
  · obtain ⟨i,hi,rfl⟩:=List.mem_iff_getElem.mp (List.mem_toArray.mp hy)
    obtain ⟨a,t',_,h'⟩:=at2 i hi
    rw [h']
    exact MeetsSeq.EqGives.int a k t' t
  · obtain ⟨a,t',ha,h'⟩:=at2 j (by omega)
    rw [hj] at ha
    cases ha
    show isInt k its[j]=true
    rw [h']
    simp [isInt]
  · obtain ⟨a,t',ha,h'⟩:=at2 m (by rw [List.size_toArray] at hm;exact hm)
    show isInt k (its[m]'(by rw [List.size_toArray] at hm;exact hm))=false
    rw [h']
    have:a≠k:=fun q=>hno m hlt (by rw [ha,q])
    simp [isInt,this]
  · exact ⟨.int (j:Int),H,I.tok _,⟨_,rfl⟩,q j hj⟩
theorem idxC {X:Cx} (K:PySem.W.Frag) {o e:Expr} {to te:TE} {apos cpos:Pos} (ho:PE X o to) (he:PE X e te) (h:autoParam (X.K=K) au0_._auto_1)
    (hbase:autoParam (attributeBase o "index" X.env (eval o X.env)=eval o X.env) au0_._auto_1)
    (hfew:autoParam (((backTo cpos (starEach (e::[]) X.env)).all (fun x=>!x.1)&&(backToKw cpos (keywordEach [] X.env)).all (fun x=>x.1.isSome)
      && decide ((e::([]:List Expr)).length+([]:List Keyword).length+(if ([]:List Keyword).isEmpty then 0 else 1)<30))=true) au0_._auto_1)
    (hline:autoParam ((apos.endLine==cpos.line)=true) au0_._auto_1) (hs:autoParam (starEach (e::[]) X.env=(false,eval e X.env)::starEach [] X.env) au0_._auto_1) (hplain:autoParam ((backTo cpos (starEach [] X.env)).any (·.1)=false) au0_._auto_1) :
    PE X (.Call (.Attribute o "index" apos) [e] [] cpos) (tBM K "list" rIndex to (tCons te tNil)):=
  h▸pe_bm PySem.F.plainAttrs_list PySem.F.slot_list_index PySem.F.type_list_index mt_index ho (pa_cons he pa_nil hs) hbase hfew hline hs hplain
theorem r_idx {p:Addr} {ns:List Int} {k:Int} {H:Hp} {Q:VK} (h:H p=some (.lst (ns.map V.int))) (hl:ns.length≤1000) (hk:k∈ns) (q:∀j:Nat,ns[j]?=some k→Q (.int (j:Int)) H):rIndex (.ref p) [.int k] H Q:=⟨p,ns,k,rfl,rfl,h,hl,hk,q⟩
end My
namespace Jd
open PySem PySem.Spec PyProof.Rows L2 Mth
theorem idxC {X:Cx} (K:PySem.W.Frag) {o e:Expr} {to te:TE} {apos cpos:Pos} (ho:QE X o to) (he:QE X e te) (h:autoParam (X.K=K) au0_._auto_1)
    (hbase:autoParam (attributeBase o "index" X.env (eval o X.env)=eval o X.env) au0_._auto_1)
    (hfew:autoParam (((backTo cpos (starEach (e::[]) X.env)).all (fun x=>!x.1)&&(backToKw cpos (keywordEach [] X.env)).all (fun x=>x.1.isSome)
      && decide ((e::([]:List Expr)).length+([]:List Keyword).length+(if ([]:List Keyword).isEmpty then 0 else 1)<30))=true) au0_._auto_1)
    (hline:autoParam ((apos.endLine==cpos.line)=true) au0_._auto_1) (hs:autoParam (starEach (e::[]) X.env=(false,eval e X.env)::starEach [] X.env) au0_._auto_1) (hplain:autoParam ((backTo cpos (starEach [] X.env)).any (·.1)=false) au0_._auto_1) :
    QE X (.Call (.Attribute o "index" apos) [e] [] cpos) (tBM K "list" My.rIndex to (tCons te tNil)):=⟨My.idxC K ho.h he.h h hbase hfew hline hs hplain⟩
end Jd

namespace My
open PySem PySem.Spec PyProof.Rows L2 Mth
theorem inv_turned {X:Cx} {pins:List (Addr×Obj)} {σ:L2.St} {H:Hp} {s:Shared} {h':Heap} {t':Nat} (ch:List Addr) (I:L2.Inv X pins σ H s) (k:∀b u,b∉ch→s.heap.get? b=some u→h'.get? b=some u)
    (hf:∀b∈ch,FpOk X pins H b):L2.Inv X pins σ H { s with heap:=h',toks:=t' }:=by
  have out:∀b u,H b=some u→b∉ch:=fun b u e z=>by rw [(hf b z).1] at e;cases e
  refine I.step (g':=s.gens) (d':=s.drawn) (ch:=ch) (fun b hb=>?_) (fun b u _ _ hc e _=>k b u hc e) (fun b u _ _ hc e _=>⟨u.slots,k b u hc e⟩) (fun b u hc e z=>z) (fun b u hc e=>⟨u,k b u hc e⟩)
    (fun b xs e=>e) (fun b u v e=>e) (fun b ps e=>⟨#[],by rw [e];simp⟩) (fun m hm=>?_) (fun b u e=>?_) I.bare
  · obtain ⟨_,f1,_,f3,f4,f5⟩:=hf b hb
    exact ⟨f3,f1,f4,f5⟩
  · obtain ⟨u,es,ep,hu,r⟩:=hm
    exact ⟨u,es,ep,k _ u (fun z=>(hf _ z).2.1 rfl) hu,r⟩
  · exact ObjOk.stay (I.hok b u e) (fun c v hc q=>k c v (hc.elim (fun z=>z▸out b u e) fun z=>out c _ z) q) (fun c q=>q) fun c xs q=>q
noncomputable def Itz (K:PySem.W.Frag) (a b:Addr):It:=
  ⟨fun i H=>∃xs ys x y,SqL K H a xs∧SqL K H b ys∧xs[i]?=some x∧ys[i]?=some y,
   fun i H v H'=>∃(p:Addr) (x y:V),H p=none∧v=.ref p∧H'=upd H p (.tup [x,y])∧(∀xs,SqL K H a xs→xs[i]?=some x)∧∀ys,SqL K H b ys→ys[i]?=some y,
   fun i H=>∃xs ys,SqL K H a xs∧SqL K H b ys∧(xs.length≤i∨ys.length≤i)⟩
theorem turn_zip {P:Program} {w:World} {K:PySem.W.Frag} {elts:List Expr} {kt:Nat} {tpos:Pos} (z TI TO i1 i2 a b:Addr) (D:ZipApart z TI TO i1 i2 a b) :
    Turn P w K (.Tuple elts kt tpos) (Itz K a b) [z,TI,TO,i1,i2] z (fun i h=>IsZip h z TI TO .none∧IsPair h TI (.ref i1) (.ref i2)∧(∃u v,IsPair h TO u v)∧h.IsListIter i1 a i∧h.IsListIter i2 b i) where
  mem:=by simp
  obj:=fun i h st c hc=>by
    obtain ⟨hz,hTI,⟨u,v,hTO⟩,⟨o1,e1,_,d1⟩,⟨o2,e2,_,d2⟩⟩:=st
    rcases (show c=z∨c=TI∨c=TO∨c=i1∨c=i2 by simpa using hc) with rfl | rfl | rfl | rfl | rfl
    · exact ⟨_,hz,fun v q=>by cases q⟩
    · exact ⟨_,hTI,fun v q=>by cases q⟩
    · exact ⟨_,hTO,fun v q=>by cases q⟩
    · exact ⟨o1,e1,fun v q=>by rw [d1] at q;cases q⟩
    · exact ⟨o2,e2,fun v q=>by rw [d2] at q;cases q⟩
  keep:=fun i h h' st k=>by
    obtain ⟨hz,hTI,⟨u,v,hTO⟩,h1,h2⟩:=st
    exact ⟨k z (by simp) _ hz,k TI (by simp) _ hTI,⟨u,v,k TO (by simp) _ hTO⟩,h1.at fun o q=>k i1 (by simp) o q,h2.at fun o q=>k i2 (by simp) o q⟩
  item:=by
    intro X hP hw hK hc i pins s σ H E I hf st hg
    subst hP hw hK
    obtain ⟨hz,hTI,⟨u0,v0,hTO⟩,h1,h2⟩:=st
    obtain ⟨xs,ys,x,y,hq,hq',hx,hy⟩:=hg
    obtain ⟨its,rv,p,_⟩:=I.list hq
    obtain ⟨its',rv',p',_⟩:=I.list hq'
    obtain ⟨u,hu,ru⟩:=rv.get hx
    obtain ⟨v,hv,ru'⟩:=rv'.get hy
    refine wpAny_pyNext_zip_item D hz hTI hTO h1 h2 p.isList p'.isList (x:=u) (y:=v) (by simpa using hu) (by simpa using hv) fun h' a1 a2 a3 a4 a5 a6 hk=>?_
    refine ⟨_,rfl,wpAny_letOwnedTupleGo_zip (s:={ s with heap:=h' }) a1 fun h3 hz3 hs3=>?_⟩
    have hs3':Heap.SameBut z h' h3:=hs3
    have ke:∀c o,c∉[z,TI,TO,i1,i2]→s.heap.get? c=some o→h3.get? c=some o:=fun c o hc' q=>by
      have c1:c≠z:=fun e=>hc' (by simp [e])
      exact (hs3'.2 c c1).trans (hk c o c1 (fun e=>hc' (by simp [e])) (fun e=>hc' (by simp [e])) (fun e=>hc' (by simp [e])) q)
    have zlt:z<s.heap.objs.size:=Heap.lt_size hz
    have TOlt:TO<s.heap.objs.size:=Heap.lt_size hTO
    have TIlt:TI<s.heap.objs.size:=Heap.lt_size hTI
    have i1lt:i1<s.heap.objs.size:=by obtain ⟨_,e,_⟩:=h1;exact Heap.lt_size e
    have i2lt:i2<s.heap.objs.size:=by obtain ⟨_,e,_⟩:=h2;exact Heap.lt_size e
    have hT3:h3.get? s.heap.objs.size=some { cls:=.type "tuple",data:=.seq #[u,v] }:=(hs3'.2 _ (Nat.ne_of_gt zlt)).trans a5
    have hn:H s.heap.objs.size=none:=I.hok.fresh (Nat.le_refl _)
    have I2:L2.Inv X pins σ (upd H s.heap.objs.size (.tup [x,y])) { s with heap:=h3 }:=by
      refine inv_turned_new (t':=s.toks) [z,TI,TO,i1,i2] I ke hf (Nat.le_refl _) ?_
      exact ⟨by show 2≤sizeLine;decide,[u,v],.cons ru (.cons ru' .nil),_,hT3,rfl,_,rfl⟩
    refine ⟨.ref s.heap.objs.size,upd H s.heap.objs.size (.tup [x,y]),I2,rfl,⟨s.heap.objs.size,x,y,hn,rfl,rfl,fun zs hz'=>by rw [I.list_inj hz' hq];exact hx,fun zs hz'=>by rw [I.list_inj hz' hq'];exact hy⟩,⟨hz3,?_,⟨u,v,(hs3'.2 TO D.TOz).trans a2⟩,a3.at fun o q=>(hs3'.2 i1 D.i1z).trans q,a4.at fun o q=>(hs3'.2 i2 D.i2z).trans q⟩,fun c hc'=>?_⟩
    · exact (hs3'.2 TI D.TIz).trans (hk TI _ D.TIz D.TITO D.TIi1 D.TIi2 hTI)
    · have hc1:=(hf c hc').1
      have hc2:c≠s.heap.objs.size:=by
        rcases (show c=z∨c=TI∨c=TO∨c=i1∨c=i2 by simpa using hc') with rfl | rfl | rfl | rfl | rfl
        · exact Nat.ne_of_lt zlt
        · exact Nat.ne_of_lt TIlt
        · exact Nat.ne_of_lt TOlt
        · exact Nat.ne_of_lt i1lt
        · exact Nat.ne_of_lt i2lt
      rw [upd_ne hc2]
      exact hc1
  done:=by
    intro X hP hw hK hc i pins s σ H E I hf st hg
    subst hP hw hK
    obtain ⟨hz,hTI,⟨u0,v0,hTO⟩,h1,h2⟩:=st
    obtain ⟨xs,ys,hq,hq',hx⟩:=hg
    obtain ⟨its,rv,p,_⟩:=I.list hq
    obtain ⟨its',rv',p',_⟩:=I.list hq'
    have hl:=rv.length
    have hl':=rv'.length
    refine wpAny_pyNext_zip_end (I.ok.hd hc) D hz hTI hTO h1 h2 p.isList p'.isList ?_ fun h' hk=>⟨rfl,?_⟩
    · rcases hx with q | q
      · exact .inl (by simp;(first | lia | omega))
      · exact .inr (by simp;(first | lia | omega))
    · exact inv_turned (t':=s.toks) [z,TI,TO,i1,i2] I (fun c o hc' q=>hk c o (fun e=>hc' (by simp [e])) (fun e=>hc' (by simp [e])) (fun e=>hc' (by simp [e])) (fun e=>hc' (by simp [e])) q) hf
  self:=fun _ _ _ _ _ st h=>wpAny_pyIter_zip st.1 h
noncomputable def iZip (K:PySem.W.Frag) (ta:TA):TI:=fun σ H R=>ta σ H fun vs H1=>∃a b xs ys,vs=[.ref a,.ref b]∧SqL K H1 a xs∧SqL K H1 b ys∧R (Itz K a b) H1
section
variable {X:Cx} {a b:Expr} {ta:TA} {p pos:Pos} {elts:List Expr} {kt:Nat} {tpos:Pos}
theorem pi_zip (K:PySem.W.Frag) (hg:Gl X "zip") (hm:X.mg "zip"=none) (ha:PA X [a,b] ta) (hs:autoParam (starEach [a,b] X.env=(false,eval a X.env)::starEach [b] X.env) au0_._auto_1) (hs2:autoParam (starEach [b] X.env=[(false,eval b X.env)]) au0_._auto_1) (hK:autoParam (X.K=K) au0_._auto_1) :
    PI X (.Tuple elts kt tpos) (.Call (.Name "zip" p) [a,b] [] pos) (iZip K ta):=by
  subst hK
  intro pins s σ H R I h
  refine Call_ (ld_blt I hg hm boot_zip (PyProof.Rows.callWith_type1 (thn (ha pos pins s σ H _ I h) fun us s1 ⟨vs,H1,I1,r1,q1⟩=>?_) hs (by rw [hs2];rfl)))
  obtain ⟨l,l',xs,ys,e,hq,hq',q⟩:=q1
  subst e
  cases r1 with
  | cons r rr=>
    cases rr with
    | cons r' rr'=>
      cases rr'
      cases r
      cases r'
      obtain ⟨its,rv,pl,_⟩:=I1.list hq
      obtain ⟨its',rv',pl',_⟩:=I1.list hq'
      have a1:l<s1.heap.objs.size:=by obtain ⟨_,e,_⟩:=pl.isList;exact Heap.lt_size e
      have a2:l'<s1.heap.objs.size:=by obtain ⟨_,e,_⟩:=pl'.isList;exact Heap.lt_size e
      refine call_zip_2 pl.isList pl'.isList fun h' hz hTI hTO hi1 hi2 hsz hk=>?_
      have I2:L2.Inv X pins σ H1 { s1 with heap:=h' }:=I1.kept (t':=s1.toks) hk
      refine wpAny_pyIter_zip (s:={ s1 with heap:=h' }) hz ?_
      refine ⟨s1.heap.objs.size+4,[s1.heap.objs.size+4,s1.heap.objs.size+2,s1.heap.objs.size+3,s1.heap.objs.size,s1.heap.objs.size+1],_,_,H1,rfl,I2,turn_zip _ _ _ _ _ l l' (zipApart_new a1 a2),⟨hz,hTI,⟨_,_,hTO⟩,hi1,hi2⟩,fun c hc=>?_,q⟩
      have fp:∀k,FpOk X pins H1 (s1.heap.objs.size+k):=fun k=>I1.fpOk (Nat.le_add_right _ _) (I1.hok.fresh (Nat.le_add_right _ _))
      rcases (show c=s1.heap.objs.size+4∨c=s1.heap.objs.size+2∨c=s1.heap.objs.size+3∨c=s1.heap.objs.size∨c=s1.heap.objs.size+1 by simpa using hc) with rfl | rfl | rfl | rfl | rfl
      · exact fp 4
      · exact fp 2
      · exact fp 3
      · exact fp 0
      · exact fp 1
end
section
variable {σ:L2.St} {H:Hp} {K:PySem.W.Frag}
theorem r_zip {ta:TA} {R:It→Hp→Prop} (h:ta σ H fun vs H1=>∃a b xs ys,vs=[.ref a,.ref b]∧SqL K H1 a xs∧SqL K H1 b ys∧R (Itz K a b) H1):iZip K ta σ H R:=h
end
section
variable {n:Nat} {cap:List Nat} {g:TG} {tt:TT} {te:TE} {σ:L2.St} {H:Hp} {Q:VK} {K:PySem.W.Frag}
theorem compB_zip {a b:Addr} {xs ys:List V} {N0':Nat} (hn1:N0'≤xs.length) (hn2:N0'≤ys.length) (hn:xs.length≤N0'∨ys.length≤N0') (hok:∀H2,Same H H2→SqL K H2 a xs∧SqL K H2 b ys) (hl:N0'≤1000) (P:Nat→List V→Hp→Prop) (h0:P 0 [] H)
    (step:∀(D:Addr) (i:Nat) (x y:V) (us:List V) (H2 H3:Hp) (p:Addr) (σ0:L2.St) (N:VK) (N0:Hp→Prop),σ0.length=n→H D=none→H2 D=some (.lst us)→Same H H2→Same H2 H3→H3 p=some (.tup [x,y])→i<N0'→xs[i]?=some x→ys[i]?=some y→us.length≤i→P i us (rm D H2) →
      (∀v H6,Same H3 H6→P (i+1) (us++[v]) (rm D H6)→N v H6)→(∀H5,Same H3 H5→P (i+1) us (rm D H5)→N0 H5) →
      g (.ref p) (σ0++capV cap σ) H3 fun σ2 H4=>(∃σ1,σ1.length=n∧σ2=σ1++capV cap σ)∧tt σ2 H4 fun b H5=>if b=true then te σ2 H5 N else N0 H5)
    (done:∀(D:Addr) (us:List V) (H2:Hp),H D=none→H2 D=some (.lst us)→Same H H2→us.length≤N0'→P N0' us (rm D H2)→Q (.ref D) H2):CompB n cap g tt te σ Q (Itz K a b) H:=by
  intro D hD
  refine ⟨fun i m us H2=>H2 D=some (.lst us)∧Same H H2∧us.length≤i∧i≤N0'∧m=N0'-i∧P i us (rm D H2),⟨N0',upd_same,same_at (Same.refl _) hD,Nat.zero_le _,Nat.zero_le _,rfl,?_⟩,?_⟩
  · rw [rm_upd]
    have e:rm D H=H:=by
      funext b
      by_cases h:b=D
      · rw [h,hD];exact if_pos rfl
      · exact rm_at h
    rw [e];exact h0
  · rintro i m us H2 ⟨e,s,hu,hi,rfl,p⟩
    refine ⟨e,?_⟩
    obtain ⟨q,q'⟩:=hok H2 s
    by_cases hlt:i<N0'
    · refine .inr ⟨⟨xs,ys,xs[i],ys[i],q,q',List.getElem?_eq_getElem _,List.getElem?_eq_getElem _⟩,Nat.lt_of_le_of_lt (Nat.le_trans hu hi) (small1000 hl),fun v H3 σ0 h0 y=>?_⟩
      obtain ⟨pt,x',y',hnp,rfl,rfl,hx,hy⟩:=y
      have s3:=same_new hnp (.tup [x',y'])
      refine step D i x' y' us H2 _ pt σ0 _ _ h0 hD e s s3 upd_same hlt (hx xs q) (hy ys q') hu p (fun v H6 s6 p6=>?_) fun H5 s5 p5=>?_
      · refine ⟨(s3.trans s6) _ _ e,N0'-(i+1),by (first | lia | omega),upd_same,same_at (s.trans (s3.trans s6)) hD,?_,by (first | lia | omega),rfl,?_⟩
        · rw [List.length_append,List.length_singleton];(first | lia | omega)
        · rw [rm_upd];exact p6
      · exact ⟨N0'-(i+1),by (first | lia | omega),(s3.trans s5) _ _ e,s.trans (s3.trans s5),by (first | lia | omega),by (first | lia | omega),rfl,p5⟩
    · have ei:i=N0':=by (first | lia | omega)
      subst ei
      exact .inl ⟨⟨xs,ys,q,q',hn⟩,done D us H2 hD e s hu p⟩
end
end My
namespace Jd
open PySem PySem.Spec PyProof.Rows L2 My
theorem pi_zip {X:Cx} (K:PySem.W.Frag) {a b:Expr} {ta:TA} {p pos:Pos} {elts:List Expr} {kt:Nat} {tpos:Pos} (hg:Gl X "zip") (hm:X.mg "zip"=none) (ha:QA X [a,b] ta) (hs:autoParam (starEach [a,b] X.env=(false,eval a X.env)::starEach [b] X.env) au0_._auto_1) (hs2:autoParam (starEach [b] X.env=[(false,eval b X.env)]) au0_._auto_1) (hK:autoParam (X.K=K) au0_._auto_1) :
    QI X (.Tuple elts kt tpos) (.Call (.Name "zip" p) [a,b] [] pos) (iZip K ta):=⟨My.pi_zip K hg hm ha.h hs hs2 hK⟩
end Jd

namespace My
open PySem PySem.Spec PyProof.Rows L2 Mth
noncomputable def Fx (K:PySem.W.Frag) (x:Str) (st:Stmt):Prop:=∃(f:Addr) (fd:FuncData),PySem.W.nsIn K mainGlobals x=some (some (.ref f))∧Fun K x x st f fd
noncomputable def Fm (K:PySem.W.Frag) (C:Addr) (m q:Str) (st:Stmt):Prop:=∃(f:Addr) (fd:FuncData),PySem.W.findIn K (.ref C) m=some (some (.ref f))∧PySem.W.isFn K (.ref f)=true∧Fun K m q st f fd
section
variable {K:PySem.W.Frag} {x m q:Str} {st:Stmt} {f C:Addr} {oc:Value} {od an:Option Addr} {osl:Array (Option Value)} {kV doc pm cdv ct:Value}
theorem fx_mk (a:PySem.W.nsIn K mainGlobals x=some (some (.ref f))) (l:K.lookup f=some ⟨oc,od,.func (PySem.W.fnOf x x (defArgs st) (defBody st) (defScope st) .none kV doc pm an cdv ct),osl⟩) (c:PySem.W.codeIn K cdv x=true) (k:PySem.W.keepIn K (.ref f)=true):Fx K x st:=⟨f,_,a,fun_mk l c k⟩
theorem fm_mk (a:PySem.W.findIn K (.ref C) m=some (some (.ref f))) (i:PySem.W.isFn K (.ref f)=true) (l:K.lookup f=some ⟨oc,od,.func (PySem.W.fnOf m q (defArgs st) (defBody st) (defScope st) .none kV doc pm an cdv ct),osl⟩) (c:PySem.W.codeIn K cdv q=true) (k:PySem.W.keepIn K (.ref f)=true):Fm K C m q st:=⟨f,_,a,i,fun_mk l c k⟩
end
section
variable (P:Program) (w:World) (base:Heap) {K:PySem.W.Frag} {mg:Str→Option Value} {h:Heap} {k:Nat} {x m q:Str} {ps:List Str} {sp:Sp} {st:Stmt} {f C:Addr} {fd:FuncData}
theorem dnm (X:K.In h) (G:h.Ns mainGlobals mg) (a:PySem.W.nsIn K mainGlobals x=some (some (.ref f))) (F:Fun K x x st f fd) (ok:FnOk P w K mg base CX0 k f fd ps sp) (b:Binds K fd ps []):Dn P w K mg base k x ps sp:=dn_mk F ok (PySem.W.mg_of X G a) b
theorem dmm (a:PySem.W.findIn K (.ref C) m=some (some (.ref f))) (i:PySem.W.isFn K (.ref f)=true) (F:Fun K m q st f fd) (ok:FnOk P w K mg base CX0 k f fd ps sp) (b:Binds K fd ps []):Dm P w K mg base k C m ps sp:=⟨f,fd,ok,⟨a,i,F.kp⟩,b⟩
end
end My

namespace My
open PySem PySem.Spec PyProof.Rows L2 Mth
end My
namespace Jd
open PySem PySem.Spec PyProof.Rows L2 Mth
end Jd
noncomputable abbrev J.a:=@Jd.pv
noncomputable abbrev J.b:=@Jd.pa_cons
noncomputable abbrev J.c:=@Jd.pe_int
noncomputable abbrev J.d:=@Jd.pa_nil
noncomputable abbrev J.e:=@Jd.pss_cons
noncomputable abbrev J.f:=@Jd.pe_ix
noncomputable abbrev J.g:=@Jd.pss_one
noncomputable abbrev J.h:=@Jd.pe_op
noncomputable abbrev J.i:=@Jd.ps_set
noncomputable abbrev J.j:=@Jd.pe_dn
noncomputable abbrev J.k:=@Jd.ps_ret
noncomputable abbrev J.l:=@Jd.go
noncomputable abbrev J.m:=@Jd.pe_tup
noncomputable abbrev J.n:=@Jd.pt_cmpR
noncomputable abbrev J.o:=@Jd.ps_if
noncomputable abbrev J.p:=@Jd.pe_fld
noncomputable abbrev J.q:=@Jd.pg_name
noncomputable abbrev J.r:=@Jd.pe_callB
noncomputable abbrev J.s:=@Jd.pss_nil
noncomputable abbrev J.t:=@Jd.pe_lst
noncomputable abbrev J.u:=@Jd.ps_expr
noncomputable abbrev J.v:=@Jd.pe_non
noncomputable abbrev J.w:=@Jd.appC
noncomputable abbrev J.x:=@Jd.piL
noncomputable abbrev J.y:=@Jd.ps_fld
noncomputable abbrev J.z:=@Jd.pe_un
noncomputable abbrev J.aa:=@Jd.pgs_cons
noncomputable abbrev J.ab:=@Jd.ps_for
noncomputable abbrev J.ac:=@Jd.pe_comp
noncomputable abbrev J.ad:=@Jd.pts_nil
namespace My
open PySem PySem.Spec PyProof.Rows L2 Mth
section
variable {σ:L2.St} {H:Hp} {Q:VK} {K:PySem.W.Frag}
end
mutual
theorem Den.up {H H':Hp} (s:Same H H'):∀{v:V} {d:PyData},Den H v d→Den H' v d
  | _,_,.non=>.non
  | _,_,.bl b=>.bl b
  | _,_,.int i=>.int i
  | _,_,.str x=>.str x
  | _,_,.tup e dd=>.tup (s _ _ e) (Dens.up s dd)
  | _,_,.lst e dd=>.lst (s _ _ e) (Dens.up s dd)
theorem Dens.up {H H':Hp} (s:Same H H'):∀{vs:List V} {ds:List PyData},Dens H vs ds→Dens H' vs ds
  | _,_,.nil=>.nil
  | _,_,.cons d dd=>.cons (Den.up s d) (Dens.up s dd)
end
end My

local macro_rules | `(tactic| walk_at "v") => `(tactic| repeat (first
  | with_reducible refine My.r_seq ?_
  | with_reducible refine My.r_set ?_
  | with_reducible refine My.r_ret ?_
  | with_reducible refine My.r_drop ?_
  | with_reducible refine My.r_if ?_
  | with_reducible refine My.r_next ?_
  | with_reducible refine My.r_cont ?_
  | with_reducible refine My.r_break ?_
  | with_reducible refine My.r_chain ?_
  | with_reducible refine My.r_chain4 ?_
  | with_reducible refine My.r_link ?_
  | with_reducible refine My.r_end ?_
  | with_reducible refine My.r_fld ?_
  | with_reducible refine My.r_sfld ?_
  | with_reducible refine My.r_meth ?_
  | with_reducible refine My.r_make ?_
  | ((with_reducible refine' My.r_var ?e1 ?_); (case e1 => rfl))
  | with_reducible refine My.r_c ?_
  | with_reducible refine My.r_op ?_
  | with_reducible refine My.r_un ?_
  | with_reducible refine My.r_I0 ?_
  | with_reducible refine My.r_U ?_
  | with_reducible refine My.r_test ?_
  | with_reducible refine My.r_B ?_
  | with_reducible refine My.r_bl ?_
  | with_reducible refine My.r_cb ?_
  | with_reducible refine My.r_cons ?_
  | with_reducible refine My.r_nil ?_
  | with_reducible refine My.r_tup ?_
  | with_reducible refine My.r_lst ?_
  | with_reducible refine My.r_call ?_
  | with_reducible refine My.r_try ?_
  | with_reducible refine My.r_tryAs ?_
  | with_reducible refine My.r_callX ?_
  | with_reducible refine My.r_raise ?_
  | with_reducible refine My.r_par ?_
  | with_reducible refine My.r_g ?_
  | with_reducible refine My.r_absC ?_
  | with_reducible refine My.r_bits ?_
  | with_reducible refine My.r_comp ?_
  | with_reducible refine My.r_yes ?_
  | with_reducible refine My.r_gsub ?_
  | with_reducible refine My.r_rev ?_
  | with_reducible refine My.r_max ?_
  | with_reducible refine My.r_min ?_
  | with_reducible refine My.r_two ?_
  | with_reducible refine My.r_bm ?_
  | ((with_reducible refine My.r_I ?e7 ?_); (case e7 => first | decide | assumption | exact ⟨by decide, by decide, by decide⟩ | (show (0 : Int) < _; first | decide | omega) | exact My.mulR (by decide) (by decide) | exact My.mulL (by decide) (by decide)))
  | with_reducible refine My.r_not ?_
  | with_reducible refine My.r_and ?_
  | with_reducible refine My.r_or ?_
  | with_reducible refine My.r_andV ?_
  | with_reducible refine My.r_orV ?_
  | with_reducible refine My.r_notV ?_
  | with_reducible refine My.r_ife ?_
  | ((with_reducible refine My.r_eq ?e2 ?_); (case e2 => rfl))
  | ((with_reducible refine My.r_ne ?e3 ?_); (case e3 => rfl))
  | ((with_reducible refine' My.r_t0 ?e4 ?_); (case e4 => assumption))
  | ((with_reducible refine' My.r_t1 ?e5 ?_); (case e5 => assumption))
  | ((with_reducible refine' My.r_t2 ?e6 ?_); (case e6 => assumption))
  | ((with_reducible refine' My.r_t3 ?e8 ?_); (case e8 => assumption))))
local macro_rules | `(tactic| walk_at "o") => `(tactic| first
  | assumption
  | exact Nat.le_of_lt (by assumption)
  | exact Nat.lt_trans (by assumption) (by assumption)
  | exact Nat.lt_of_lt_of_le (by assumption) (by assumption)
  | exact Nat.le_trans (by assumption) (by assumption)
  | exact Int.le_of_lt (by assumption)
  | exact Int.ne_of_gt (by assumption)
  | exact Int.ne_of_lt (by assumption)
  | exact Int.natCast_nonneg _
  | lia
  | omega)
local macro_rules | `(tactic| walk_at "fx") => `(tactic| (refine' My.fx_mk ?a ?l ?c ?k; (case a => k_is); (case l => k_is); (case c => k_is); (case k => k_is)))
local macro_rules | `(tactic| walk_at "fm") => `(tactic| (refine' My.fm_mk ?a ?i ?l ?c ?k; (case a => k_is); (case i => k_is); (case l => k_is); (case c => k_is); (case k => k_is)))
local macro_rules | `(tactic| walk_at "fz") => `(tactic| first | walk_at "fx" | walk_at "fm" | k_is | k_exc | kts_exm)
local macro_rules | `(tactic| walk_at "vs") => `(tactic| first
  | with_reducible refine My.r_sl ?_
  | with_reducible refine My.r_part ?_
  | with_reducible refine My.r_nopart ?_
  | with_reducible refine My.r_pi ?_)
local macro_rules | `(tactic| walk_at "vd") => `(tactic| ((walk_at "v"); (repeat ((walk_at "vs"); (walk_at "v")))))
--@squeeze
--@without 02x_exc.lean 02y_excas.lean 02h_rev.lean 02i_revit.lean
namespace Lw
open PySem L2 Mth My
noncomputable def top (i:Nat):Stmt:=PySem.Challenge.pw_lath_k46_apart_and_joined.main.body.getD i (.Pass ⟨0,0,0,0⟩)
noncomputable abbrev s_law_cell:Stmt:=top 64
noncomputable abbrev s_law_mix:Stmt:=top 65
noncomputable abbrev s_law_row:Stmt:=top 66
noncomputable abbrev s_law_ratio:Stmt:=top 67
noncomputable abbrev s_plain_divisor:Stmt:=top 6
noncomputable abbrev s_steps_of_heads:Stmt:=top 7
noncomputable abbrev s_divisor:Stmt:=top 8
noncomputable abbrev s_ratio:Stmt:=top 9
noncomputable abbrev s_reduced:Stmt:=top 10
noncomputable abbrev s_loose_plus:Stmt:=top 11
noncomputable abbrev s_loose_minus:Stmt:=top 12
noncomputable abbrev s_loose_times:Stmt:=top 13
noncomputable abbrev s_minus:Stmt:=top 15
noncomputable abbrev s_plus:Stmt:=top 14
noncomputable abbrev s_over:Stmt:=top 17
noncomputable abbrev s_loose_slope:Stmt:=top 24
noncomputable abbrev s_loose_along:Stmt:=top 25
noncomputable abbrev s_loose_height:Stmt:=top 26
noncomputable abbrev s_loose_off:Stmt:=top 27
noncomputable abbrev s_slope:Stmt:=top 28
noncomputable abbrev s_line_by:Stmt:=top 29
noncomputable abbrev s_height:Stmt:=top 30
noncomputable abbrev s_meet:Stmt:=top 31
noncomputable abbrev s_order:Stmt:=top 18
noncomputable abbrev s_size:Stmt:=top 19
noncomputable abbrev s_loose_stand:Stmt:=top 49
noncomputable abbrev s_runs:Stmt:=top 42
noncomputable abbrev s_law_shaped:Stmt:=top 68
noncomputable abbrev s_law_times:Stmt:=top 69
noncomputable abbrev s_law_picked:Stmt:=top 70
noncomputable abbrev s_law_drawn:Stmt:=top 71
noncomputable abbrev s_law_handed:Stmt:=top 72
noncomputable abbrev s_greatest:Stmt:=top 21
noncomputable abbrev s_smallest:Stmt:=top 22
noncomputable abbrev s_Stretch_init:Stmt:=inClass (top 35) 0
noncomputable abbrev s_gentlest_with:Stmt:=top 33
noncomputable abbrev s_steepest_with:Stmt:=top 34
noncomputable abbrev s_Stretch_takes:Stmt:=inClass (top 35) 1
noncomputable abbrev s_Stretch_kept:Stmt:=inClass (top 35) 2
noncomputable abbrev s_stretches:Stmt:=top 36
noncomputable abbrev s_whole_points:Stmt:=top 52
noncomputable abbrev s_above_chord:Stmt:=top 53
noncomputable abbrev s_scaled_offs:Stmt:=top 54
noncomputable abbrev s_exchanged:Stmt:=top 55
noncomputable abbrev s_forcing_three:Stmt:=top 56
noncomputable abbrev s_stand:Stmt:=top 50
noncomputable abbrev s_times:Stmt:=top 16
noncomputable abbrev s_best:Stmt:=top 57
noncomputable abbrev s_piece_along:Stmt:=top 59
noncomputable abbrev s_best_piece:Stmt:=top 60
noncomputable abbrev s_ending_three:Stmt:=top 61
noncomputable abbrev s_apart:Stmt:=top 62
noncomputable abbrev s_opposite:Stmt:=top 20
noncomputable abbrev s_is_steeper:Stmt:=top 38
noncomputable abbrev s_touched:Stmt:=top 39
noncomputable abbrev s_Bend_init:Stmt:=inClass (top 40) 0
noncomputable abbrev s_Bend_line_of:Stmt:=inClass (top 40) 4
noncomputable abbrev s_Bend_ended_in_cap:Stmt:=inClass (top 40) 2
noncomputable abbrev s_Bend_ended_in_cup:Stmt:=inClass (top 40) 3
noncomputable abbrev s_Bend_take:Stmt:=inClass (top 40) 1
noncomputable abbrev s_Bend_line_now:Stmt:=inClass (top 40) 5
noncomputable abbrev s_links_of:Stmt:=top 44
noncomputable abbrev s_point_on:Stmt:=top 45
noncomputable abbrev s_pieces_along:Stmt:=top 46
noncomputable abbrev s_joined:Stmt:=top 47
noncomputable abbrev s_law_runs:Stmt:=top 73
noncomputable abbrev s_law:Stmt:=top 74
noncomputable def spCell (K:PySem.W.Frag):Sp:=fun vs H Q _=>∃(a:Addr) (ns:List Int) (i:Int),vs=[.ref a,.int i]∧SqL K H a (ns.map V.int)∧0≤i∧i<1000∧∀(c:Int) (H':Hp),Same H H'→Q (.int c) H'
noncomputable def spMix:Sp:=fun vs H Q _=>∃(c k:Int),vs=[.int c,.int k]∧0≤k∧k<1000∧∀z:Int,Q (.int z) H
noncomputable def spRow (K:PySem.W.Frag):Sp:=fun vs H Q _=>∃(a:Addr) (ns:List Int) (i:Int) (l:Addr) (zs:List Int),vs=[.ref a,.int i,.ref l]∧SqL K H a (ns.map V.int)∧0≤i∧i<900∧H l=some (.lst (zs.map V.int))∧zs.length≤900∧(∀z∈zs,0<z∧z<2 ^ 60) ∧
  ∀(p:Addr) (xs:List Int) (H':Hp),Same H H'→H p=none→H' p=some (.lst (xs.map V.int))→xs.length=zs.length→(∀(j:Nat) (x z:Int),xs[j]?=some x→zs[j]?=some z→0≤x∧x<z)→Q (.ref p) H'
noncomputable def spRatio:Sp:=fun vs H Q _=>∃(t b:Int),vs=[.int t,.int b]∧0<b∧Sz 8000 b∧∀(p:Addr) (t' b':Int) (H':Hp),Same H H'→H' p=some (.tup [.int t',.int b'])→Low t b t' b'→Q (.ref p) H'
structure Txt (mg:Str→Option Value):Prop where
  len_:mg "len"=none
  abs_:mg "abs"=none
  range:mg "range"=none
  isinstance_:mg "isinstance"=none
  int_:mg "int"=none
  bool_:mg "bool"=none
  tuple_:mg "tuple"=none
  list_:mg "list"=none
  max_:mg "max"=none
  min_:mg "min"=none
  enumerate_:mg "enumerate"=none
  zip_:mg "zip"=none
  all_:mg "all"=none
  any_:mg "any"=none
  sum_:mg "sum"=none
  sorted_:mg "sorted"=none
  reversed_:mg "reversed"=none
  str_:mg "str"=none
theorem ints_at {ns:List Int} {i:Int} (h0:0≤i) (h:i<(ns.length:Int)):∃v:Int,atI (ns.map V.int) i=some (.int v):=by
  have hk:i.toNat<ns.length:=by walk_at "o"
  exact ⟨ns[i.toNat],at_ints (List.getElem?_eq_getElem hk) (by walk_at "o")⟩
theorem cut_int {ns:List Int} {lo hi:Option Int} {i:Nat} {y:V} (h:(cutV (ns.map V.int) lo hi)[i]?=some y):∃m:Int,y=.int m:=by
  have hm:y∈cutV (ns.map V.int) lo hi:=List.mem_of_getElem? h
  unfold cutV at hm
  obtain ⟨m,_,e⟩:=List.mem_map.mp (List.mem_of_mem_drop (List.mem_of_mem_take hm))
  exact ⟨m,e.symm⟩
theorem mcast (x y:Nat):((x:Int) % (y:Int))=((x % y:Nat):Int):=(Int.natCast_emod x y).symm
theorem abs_cast (t:Int):(if t<0 then -t else t)=(t.natAbs:Int):=by split <;> walk_at "o"
noncomputable def cellN (i:Nat) (σ:St):Nat:=match σ[i]? with | some (some (V.int n))=>n.toNat | _=>0
noncomputable def third (σ:St):Nat:=match σ[3]? with | some (some (V.int n))=>n.toNat | _=>0
section
variable {P:Program} {w:World} {K:PySem.W.Frag} {mg:Str→Option Value} {base:Heap} {f:Addr} {fd:FuncData}
theorem sc_law_cell:FnScope ["_law_script","_law_place","_law_seed","_law_cell_here"] ["_law_script","_law_place"] (defScope s_law_cell):=⟨rfl,rfl,rfl,by decide +kernel,rfl,by decide +kernel,by decide +kernel⟩
theorem ok_law_cell (F:Fun K "_law_cell" "_law_cell" s_law_cell f fd) (T:Txt mg):FnOk P w K mg base CX0 1 f fd ["_law_script","_law_place"] (spCell K):=by
  refine F.ok sc_law_cell (fun vs H Q E h=>?_) (fun cdv A outer s H vs Q E hr h=>?_)
  · obtain ⟨a,ns,i,rfl,_⟩:=h
    rfl
  obtain ⟨a,ns,i,rfl,hS,h0,h1,k⟩:=h
  refine J.l ⟨_,(J.e (J.o (J.n op_lt (J.a 1) (J.r (lenC K) rfl T.len_ PySem.boot_len (J.b (J.a 0) J.d st_N) (he:=st_N) (hpl:=any0)) (nomark _))
      (J.g (J.k (J.f (ixL K) (J.a 0) (J.a 1) (fun _ _=>rfl))))
      J.s)
      (J.e (J.i (i:=2) sc_law_cell.nd rfl (Or.inl rfl) J.c (hs:=sw_C))
      (J.e (J.ab PassesOwn.never rfl (J.x K (Jd.pe_slice (slL K) (J.a 0) Jd.po_none (Jd.po_some J.c))) (J.q (i:=3) sc_law_cell.nd rfl (Or.inl rfl))
      (J.g (J.i (i:=2) sc_law_cell.nd rfl (Or.inl rfl) (J.h op_mod (J.h op_add (J.h op_add (J.h op_mulB (J.a 2) J.c) (J.h op_mod (J.a 3) J.c)) J.c) J.c) (hs:=sw_B))))
      (J.g (J.k (J.h op_mod (J.h op_add (J.a 2) (J.h op_mulB J.c (J.a 1))) J.c)))))),?_⟩
  walk_at "v"
  refine r_len (.inl hS) ?_
  walk_at "v"
  refine ite2 (fun c=>?_) (fun c=>?_)
  · have c':=of_decide_eq_true c
    rw [List.length_map] at c'
    obtain ⟨v,hv⟩:=ints_at (ns:=ns) h0 c'
    walk_at "v"
    exact ⟨a,_,i,_,rfl,rfl,hS,hv,k v H (Same.refl _)⟩
  · walk_at "v"
    refine ⟨_,rfl,_,rfl,a,_,rfl,hS,fun p hp=>?_⟩
    have s1:Same H (upd H p (.lst (cutV (ns.map V.int) none (some 63)))):=same_new hp _
    have e1:upd H p (.lst (cutV (ns.map V.int) none (some 63))) p=some (.lst (cutV (ns.map V.int) none (some 63))):=upd_same
    refine ⟨p,rfl,⟨_,SqL.of e1⟩,for_list (K:=K) (a:=p) (xs:=cutV (ns.map V.int) none (some 63)) (fun _ σ H2=>∃(z:Int) (v:Option V),σ=[some (.ref a),some (.int i),some (.int z),v]∧0≤z∧z<2147483647∧Same (upd H p (.lst (cutV (ns.map V.int) none (some 63)))) H2)
      ⟨5,none,rfl,by decide,by decide,Same.refl _⟩ (fun _ σ H2 _ ⟨_,_,_,_,_,s2⟩=>SqL.of (s2 _ _ e1)) ?_ ?_⟩
    · rintro j y σ H2 hj ⟨z,v,rfl,z0,z1,s2⟩
      obtain ⟨m,rfl⟩:=cut_int hj
      walk_at "v"
      exact ⟨_,_,rfl,Int.emod_nonneg _ (by decide),Int.emod_lt_of_pos _ (by decide),s2⟩
    · rintro σ H2 ⟨z,v,rfl,z0,z1,s2⟩
      walk_at "v"
      exact k _ _ (s1.trans s2)
theorem sc_law_mix:FnScope ["_law_cell_here","_law_k","_law_one","_law_two"] ["_law_cell_here","_law_k"] (defScope s_law_mix):=⟨rfl,rfl,rfl,by decide +kernel,rfl,by decide +kernel,by decide +kernel⟩
theorem ok_law_mix (F:Fun K "_law_mix" "_law_mix" s_law_mix f fd):FnOk P w K mg base CX0 1 f fd ["_law_cell_here","_law_k"] spMix:=by
  refine F.ok sc_law_mix (fun vs H Q E h=>?_) (fun cdv A outer s H vs Q E hr h=>?_)
  · obtain ⟨c,k,rfl,_⟩:=h
    rfl
  obtain ⟨c,j,rfl,h0,h1,k⟩:=h
  refine J.l ⟨_,(J.e (J.i (i:=2) sc_law_mix.nd rfl (Or.inl rfl) (J.h op_mod (J.h op_pow (J.h op_add (J.h op_add (J.h op_mod (J.a 0) J.c) (J.h op_mulB J.c (J.a 1))) J.c) J.c) J.c) (hs:=sw_B))
      (J.e (J.i (i:=3) sc_law_mix.nd rfl (Or.inl rfl) (J.h op_mod (J.h op_add (J.h op_add (J.h op_mulB (J.a 2) J.c) (J.h op_mulB (J.h op_mulB J.c (J.a 1)) (J.a 1))) J.c) J.c) (hs:=sw_B))
      (J.g (J.k (J.h op_fdivB (J.a 3) J.c))))),?_⟩
  have b0:0≤c % 2147483629:=Int.emod_nonneg _ (by decide)
  have b1:c % 2147483629<2147483629:=Int.emod_lt_of_pos _ (by decide)
  walk_at "v"
  refine r_I (show CPow _ _ from ⟨by decide,by decide,by walk_at "o"⟩) ?_
  walk_at "v"
  refine r_I (mulR (by walk_at "o") (by walk_at "o")) ?_
  walk_at "v"
  refine r_I (show CDivB _ _ from ⟨by decide,by decide +kernel⟩) ?_
  exact k _
theorem sc_law_row:FnScope ["_law_script","_law_place","_law_sizes","_law_cell_here","_law_left","_law_some","_law_k","_law_other"] ["_law_script","_law_place","_law_sizes"] (defScope s_law_row):=⟨rfl,rfl,rfl,by decide +kernel,rfl,by decide +kernel,by decide +kernel⟩
theorem ok_law_row (F:Fun K "_law_row" "_law_row" s_law_row f fd) (T:Txt mg) (D_law_cell:Dn P w K mg base 1 "_law_cell" ["_law_script","_law_place"] (spCell K)) (D_law_mix:Dn P w K mg base 1 "_law_mix" ["_law_cell_here","_law_k"] spMix) :
    FnOk P w K mg base CX0 3 f fd ["_law_script","_law_place","_law_sizes"] (spRow K):=by
  refine F.ok sc_law_row (fun vs H Q E h=>?_) (fun cdv A outer s H vs Q E hr h=>?_)
  · obtain ⟨a,ns,i,l,zs,rfl,_⟩:=h
    rfl
  obtain ⟨a,ns,i,l,zs,rfl,hS,h0,h1,hl,hz,hzs,k⟩:=h
  refine J.l ⟨_,(J.e (J.i (i:=3) sc_law_row.nd rfl (Or.inl rfl) (J.j D_law_cell (hr.mono (by decide)) rfl (J.b (J.a 0) (J.b (J.a 1) J.d st_N) st_N) (he:=st_N) (hpl:=(anyc st_N any0))) (hs:=sw_K))
      (J.e (J.i (i:=4) sc_law_row.nd rfl (Or.inl rfl) (J.a 3) (hs:=sw_N))
      (J.e (J.i (i:=5) sc_law_row.nd rfl (Or.inl rfl) (J.t J.d) (hs:=sw_L))
      (J.e (J.ab PassesOwn.never rfl (Jd.pi_range1 rfl T.range (J.b (J.r (lenC K) rfl T.len_ PySem.boot_len (J.b (J.a 2) J.d st_N) (he:=st_N) (hpl:=any0)) J.d st_K)) (J.q (i:=6) sc_law_row.nd rfl (Or.inl rfl))
      (J.g (J.o (J.n op_lt (J.a 3) (J.h op_pow J.c J.c) (nomark _))
      (J.g (J.u (J.w K (J.a 5) (J.h op_mod (J.j D_law_mix (hr.mono (by decide)) rfl (J.b (J.a 3) (J.b (J.a 6) J.d st_N) st_N) (he:=st_N) (hpl:=(anyc st_N any0))) (J.f (ixL K) (J.a 2) (J.a 6) (fun _ _=>rfl)))) (hs:=sw_K)))
      (J.g (J.o (J.n op_gt (J.a 4) J.c (nomark _))
      (J.e (J.u (J.w K (J.a 5) (J.h op_mod (J.a 4) (J.f (ixL K) (J.a 2) (J.a 6) (fun _ _=>rfl)))) (hs:=sw_K))
      (J.g (J.i (i:=4) sc_law_row.nd rfl (Or.inl rfl) (J.h op_fdivB (J.a 4) (J.f (ixL K) (J.a 2) (J.a 6) (fun _ _=>rfl))) (hs:=sw_B))))
      (J.e (J.i (i:=7) sc_law_row.nd rfl (Or.inl rfl) (J.j D_law_cell (hr.mono (by decide)) rfl (J.b (J.a 0) (J.b (J.h op_mod (J.h op_add (J.h op_add (J.a 1) J.c) (J.a 6)) J.c) J.d st_B) st_N) (he:=st_N) (hpl:=(anyc st_B any0))) (hs:=sw_K))
      (J.g (J.u (J.w K (J.a 5) (J.h op_mod (J.j D_law_mix (hr.mono (by decide)) rfl (J.b (J.a 7) (J.b (J.a 6) J.d st_N) st_N) (he:=st_N) (hpl:=(anyc st_N any0))) (J.f (ixL K) (J.a 2) (J.a 6) (fun _ _=>rfl)))) (hs:=sw_K)))))))))
      (J.g (J.k (J.a 5))))))),?_⟩
  walk_at "v"
  refine ⟨a,ns,i,rfl,hS,h0,by walk_at "o",fun c H1 s1=>?_⟩
  walk_at "v"
  refine r_new (mk:=.lst) (by simp) fun p H2 s2 n2 e2=>?_
  walk_at "v"
  have hl2:H2 l=some (.lst (zs.map V.int)):=s2 _ _ (s1 _ _ hl)
  refine ⟨_,rfl,l,_,rfl,.inl (SqL.of hl2),_,rfl,by lia,by rw [List.length_map];lia,for_range (fun j σ H3=>∃(left:Int) (xs:List Int) (v6 v7:Option V),
    σ=[some (.ref a),some (.int i),some (.ref l),some (.int c),some (.int left),some (.ref p),v6,v7]∧Same H1 H3∧H3 p=some (.lst (xs.map V.int))∧xs.length=j∧(∀(j:Nat) (x z:Int),xs[j]?=some x→zs[j]?=some z→0≤x∧x<z)) ?_ ?_ ?_⟩
  · exact ⟨c,[],none,none,rfl,s2,e2,rfl,fun j x z e _=>by simp at e⟩
  · rintro j σ H3 hj ⟨left,xs,v6,v7,rfl,s3,e3,hx,hxs⟩
    have hj':j<zs.length:=by simpa using hj
    obtain ⟨z,ez⟩:∃z,zs[j]?=some z:=⟨_,List.getElem?_eq_getElem hj'⟩
    obtain ⟨zp,zq⟩:=hzs z (List.mem_of_getElem? ez)
    have hl3:H3 l=some (.lst (zs.map V.int)):=s3 _ _ (s1 _ _ hl)
    have ea:atI (zs.map V.int) (0+(j:Int))=some (.int z):=at_ints ez (by walk_at "o")
    have hS3:SqL K H3 a (ns.map V.int):=(s1.trans s3).seq hS
    -- one more item
    have fin:∀(y left':Int) (v6 v7:Option V) (H4:Hp),Same H3 H4→H4 p=some (.lst (xs.map V.int))→∃(left:Int) (xs':List Int) (v6' v7':Option V),
        [some (.ref a),some (.int i),some (.ref l),some (.int c),some (.int left'),some (.ref p),v6,v7]=[some (.ref a),some (.int i),some (.ref l),some (.int c),some (.int left),some (.ref p),v6',v7'] ∧
        Same H1 (upd H4 p (.lst (xs.map V.int++[.int (y % z)])))∧upd H4 p (.lst (xs.map V.int++[.int (y % z)])) p=some (.lst (xs'.map V.int))∧xs'.length=j+1∧(∀(j:Nat) (x z:Int),xs'[j]?=some x→zs[j]?=some z→0≤x∧x<z):=by
      intro y left' v6 v7 H4 s4 e4
      refine ⟨left',xs++[y % z],v6,v7,rfl,same_at (s3.trans s4) n2,?_,by rw [List.length_append,hx];rfl,fun m x z' e1 e2=>?_⟩
      · rw [upd_same,List.map_append];rfl
      · by_cases hm:m<xs.length
        · rw [List.getElem?_append_left hm] at e1
          exact hxs m x z' e1 e2
        · have hm2:m=j:=by
            have:=(List.getElem?_eq_some_iff.mp e1).1
            rw [List.length_append] at this
            simp at this
            walk_at "o"
          subst hm2
          rw [List.getElem?_append_right (by walk_at "o"),hx] at e1
          simp at e1
          rw [ez] at e2
          cases e2
          subst e1
          exact ⟨Int.emod_nonneg _ (by walk_at "o"),Int.emod_lt_of_pos _ zp⟩
    have small3:(xs.map V.int).length<sizeLine:=by rw [List.length_map];exact small1000 (by walk_at "o")
    walk_at "v"
    refine ite2 (fun _=>?_) (fun _=>?_)
    · walk_at "v"
      refine ⟨.inl ⟨rfl,_,SqL.of e3⟩,?_⟩
      walk_at "v"
      refine ⟨_,_,rfl,by walk_at "o",by walk_at "o",fun y=>?_⟩
      walk_at "v"
      refine r_l hl3 ea ?_
      refine r_I (show (0:Int)<z from zp) ?_
      walk_at "v"
      refine r_app e3 small3 ?_
      exact fin y _ _ _ _ (Same.refl _) e3
    · walk_at "v"
      refine ite2 (fun _=>?_) (fun _=>?_)
      · walk_at "v"
        refine ⟨.inl ⟨rfl,_,SqL.of e3⟩,?_⟩
        walk_at "v"
        refine r_l hl3 ea ?_
        refine r_I (show (0:Int)<z from zp) ?_
        walk_at "v"
        refine r_app e3 small3 ?_
        walk_at "v"
        refine r_l (by rw [upd_ne (ne_of_none (s1 _ _ hl) n2)];exact hl3) ea ?_
        refine r_I (show CDivB _ _ from ⟨by walk_at "o",Sz.log (m:=60) (Sz.of_lt (k:=2 ^ 60) (by walk_at "o") (Nat.le_refl _)) (by decide) (by decide)⟩) ?_
        exact fin left _ _ _ _ (Same.refl _) e3
      · walk_at "v"
        have q0:0≤(i+1+(0+(j:Int))) % 63:=Int.emod_nonneg _ (by decide)
        have q1:(i+1+(0+(j:Int))) % 63<63:=Int.emod_lt_of_pos _ (by decide)
        refine ⟨a,ns,_,rfl,hS3,q0,by walk_at "o",fun c2 H4 s4=>?_⟩
        walk_at "v"
        refine ⟨.inl ⟨rfl,_,SqL.of (s4 _ _ e3)⟩,?_⟩
        walk_at "v"
        refine ⟨_,_,rfl,by walk_at "o",by walk_at "o",fun y=>?_⟩
        walk_at "v"
        refine r_l (s4 _ _ hl3) ea ?_
        refine r_I (show (0:Int)<z from zp) ?_
        walk_at "v"
        refine r_app (s4 _ _ e3) small3 ?_
        exact fin y _ _ _ _ s4 (s4 _ _ e3)
  · rintro σ H3 ⟨left,xs,v6,v7,rfl,s3,e3,hx,hxs⟩
    walk_at "v"
    exact k p xs H3 (s1.trans s3) (s1.free n2) e3 (by simpa using hx) hxs
theorem sc_law_ratio:FnScope ["_law_top","_law_bottom","_law_one","_law_two"] ["_law_top","_law_bottom"] (defScope s_law_ratio):=⟨rfl,rfl,rfl,by decide +kernel,rfl,by decide +kernel,by decide +kernel⟩
theorem ok_law_ratio (F:Fun K "_law_ratio" "_law_ratio" s_law_ratio f fd) (T:Txt mg):FnOk P w K mg base CX0 1 f fd ["_law_top","_law_bottom"] spRatio:=by
  refine F.ok sc_law_ratio (fun vs H Q E h=>?_) (fun cdv A outer s H vs Q E hr h=>?_)
  · obtain ⟨t,b,rfl,_⟩:=h
    rfl
  obtain ⟨t,b,rfl,hb,hz,k⟩:=h
  refine J.l ⟨_,(J.e (Jd.ps_par (i:=2) (j:=3) rfl sc_law_ratio.nd rfl rfl (by decide) rfl rfl (J.b (J.r absC rfl T.abs_ PyProof.Rows.boot_abs (J.b (J.a 0) J.d st_N) (he:=st_N) (hpl:=any0)) (J.b (J.a 1) J.d st_N) st_K) rfl)
      (J.e (Jd.ps_while PassesOwn.never (J.n op_gt (J.a 3) J.c (nomark _))
      (J.g (Jd.ps_par (i:=2) (j:=3) rfl sc_law_ratio.nd rfl rfl (by decide) rfl rfl (J.b (J.a 3) (J.b (J.h op_mod (J.a 2) (J.a 3)) J.d st_B) st_N) rfl)))
      (J.g (J.k (J.m (J.b (J.h op_fdivB (J.a 0) (J.a 2)) (J.b (J.h op_fdivB (J.a 1) (J.a 2)) J.d st_B) st_B)))))),?_⟩
  walk_at "v"
  have hgb:Int.gcd t b≤b.natAbs:=by
    have:=Int.gcd_le_right (a:=t) (b:=b) (by walk_at "o")
    walk_at "o"
  refine while_by (fun σ H'=>H'=H∧∃x y:Nat,σ=[some (.int t),some (.int b),some (.int x),some (.int y)]∧Nat.gcd x y=Int.gcd t b) (fun σ _=>third σ) ?_ ?_ ?_
  · refine ⟨rfl,t.natAbs,b.natAbs,?_,rfl⟩
    rw [abs_cast]
    have e:b=((b.natAbs:Nat):Int):=by walk_at "o"
    rw [← e]
    rfl
  · rintro σ H' ⟨rfl,x,y,rfl,hg⟩
    walk_at "v"
    refine ite2 (fun c=>?_) (fun c=>?_)
    · have c':(0:Int)<(y:Int):=of_decide_eq_true c
      walk_at "v"
      refine ⟨⟨rfl,y,x % y,?_,by rw [gcd_step];exact hg⟩,?_⟩
      · rw [← mcast];rfl
      · show ((x:Int) % (y:Int)).toNat<(y:Int).toNat
        rw [mcast]
        have:=Nat.mod_lt x (y:=y) (by walk_at "o")
        walk_at "o"
    · have c':¬(0:Int)<(y:Int):=of_decide_eq_false (Bool.eq_false_iff.mpr c)
      have y0:y=0:=by walk_at "o"
      subst y0
      rw [Nat.gcd_zero_right] at hg
      subst hg
      have gp:0<Int.gcd t b:=Int.gcd_pos_of_ne_zero_right t (by walk_at "o")
      have cd:CDivB t ((Int.gcd t b:Nat):Int):=⟨by walk_at "o",Sz.log (m:=8000) (Sz.of_le hz (by walk_at "o")) (by decide) (by decide)⟩
      walk_at "v"
      refine r_new (mk:=.tup) (by simp) fun p H1 s1 n1 e1=>?_
      exact k p _ _ H1 s1 e1 (low_pos hb)
  · intro σ H Q Q' h q
    obtain ⟨v,e,i,j,e1,e2,b,e3,q⟩:=q
    exact ⟨v,e,i,j,e1,e2,b,e3,h _ _ q⟩
end

noncomputable def QtAt (H:Hp) (p:Addr) (q:Rat) (n:Nat):Prop:=∃t b:Int,H p=some (.tup [.int t,.int b])∧Qt t b q∧Sz n t∧Sz n b
noncomputable def FrAt (H:Hp) (p:Addr) (q:Rat) (n:Nat):Prop:=∃t b:Int,H p=some (.tup [.int t,.int b])∧Fr t b q∧Sz n t∧Sz n b
noncomputable def SaAt (H:Hp) (p:Addr) (m:Int) (q:Rat) (n:Nat):Prop:=∃v:Addr,H p=some (.tup [.int m,.ref v])∧FrAt H v q n∧Sz n m
noncomputable def LnAt (H:Hp) (p:Addr) (s h:Rat) (n:Nat):Prop:=∃a b:Addr,H p=some (.tup [.ref a,.ref b])∧FrAt H a s n∧FrAt H b h n
section
variable {H H':Hp} {p:Addr} {q h:Rat} {m n:Nat} {t:Int}
theorem FrAt.qt (f:FrAt H p q n):QtAt H p q n:=let ⟨t,b,e,f,z⟩:=f;⟨t,b,e,f.qt,z⟩
theorem QtAt.mono (f:QtAt H p q m) (h:m≤n):QtAt H p q n:=let ⟨t,b,e,f,z1,z2⟩:=f;⟨t,b,e,f,z1.mono h,z2.mono h⟩
theorem FrAt.mono (f:FrAt H p q m) (h:m≤n):FrAt H p q n:=let ⟨t,b,e,f,z1,z2⟩:=f;⟨t,b,e,f,z1.mono h,z2.mono h⟩
theorem QtAt.up (f:QtAt H p q n) (s:Same H H'):QtAt H' p q n:=let ⟨t,b,e,f⟩:=f;⟨t,b,s _ _ e,f⟩
theorem FrAt.up (f:FrAt H p q n) (s:Same H H'):FrAt H' p q n:=let ⟨t,b,e,f⟩:=f;⟨t,b,s _ _ e,f⟩
theorem SaAt.up (f:SaAt H p t q n) (s:Same H H'):SaAt H' p t q n:=let ⟨v,e,f,z⟩:=f;⟨v,s _ _ e,f.up s,z⟩
theorem LnAt.up (f:LnAt H p q h n) (s:Same H H'):LnAt H' p q h n:=let ⟨a,b,e,f,g⟩:=f;⟨a,b,s _ _ e,f.up s,g.up s⟩
theorem FrAt.den (f:FrAt H p q n):∃t b:Int,Den H (.ref p) (.tuple [.int t,.int b])∧Fr t b q:=let ⟨t,b,e,f,_⟩:=f;⟨t,b,.tup e (.cons (.int _) (.cons (.int _) .nil)),f⟩
end
noncomputable def spPlain:Sp:=fun vs H Q _=>∃(m n:Int),vs=[.int m,.int n]∧0≤m∧0≤n∧Q (.int (Int.gcd m n:Nat)) H
noncomputable def spSteps:Sp:=fun vs H Q _=>∃(m n:Int),vs=[.int m,.int n]∧0≤n∧n≤m∧m<115792089237316195423570985008687907853269984665640564039457584007913129639936 ∧
  ∀(p:Addr) (x0 y0 x1 y1 high low:Int) (H':Hp),Same H H'→H' p=some (.tup [.int x0,.int y0,.int x1,.int y1])→Steps m n high low x0 y0 x1 y1→low≤340282366920938463463374607431768211456→Q (.ref p) H'
noncomputable def spDivisor:Sp:=fun vs H Q _=>∃(m n:Int),vs=[.int m,.int n]∧Sz 8000 m∧Sz 8000 n∧∀H',Same H H'→Q (.int (Int.gcd m n:Nat)) H'
noncomputable def spRatioP:Sp:=fun vs H Q _=>∃(t b:Int),vs=[.int t,.int b]∧b≠0∧Sz 8000 t∧Sz 8000 b∧∀(p:Addr) (t' b':Int) (H':Hp),Same H H'→H' p=some (.tup [.int t',.int b'])→Low t b t' b'→Q (.ref p) H'
noncomputable def spReduced:Sp:=fun vs H Q _=>∃(p:Addr) (q:Rat) (n:Nat),vs=[.ref p]∧QtAt H p q n∧n≤8000∧∀(r:Addr) (H':Hp),Same H H'→FrAt H' r q n→Q (.ref r) H'
noncomputable def spTwo (f:Rat→Rat→Rat) (k:Nat):Sp:=fun vs H Q _=>∃(p r:Addr) (q q':Rat) (m n:Nat),vs=[.ref p,.ref r]∧QtAt H p q m∧QtAt H r q' n∧m+n≤100000∧∀(s:Addr) (H':Hp),Same H H'→QtAt H' s (f q q') (m+n+k)→Q (.ref s) H'
noncomputable def spTwoF (f:Rat→Rat→Rat) (k:Nat):Sp:=fun vs H Q _=>∃(p r:Addr) (q q':Rat) (m n:Nat),vs=[.ref p,.ref r]∧QtAt H p q m∧QtAt H r q' n∧m+n+k≤8000∧∀(s:Addr) (H':Hp),Same H H'→FrAt H' s (f q q') (m+n+k)→Q (.ref s) H'
noncomputable def spOver:Sp:=fun vs H Q _=>∃(p r:Addr) (q q':Rat) (m n:Nat),vs=[.ref p,.ref r]∧QtAt H p q m∧QtAt H r q' n∧m+n≤8000∧q'≠0∧∀(s:Addr) (H':Hp),Same H H'→FrAt H' s (q/q') (m+n)→Q (.ref s) H'
noncomputable def spLslope:Sp:=fun vs H Q _=>∃(p r:Addr) (t t':Int) (q q':Rat) (n:Nat),vs=[.ref p,.ref r]∧SaAt H p t q n∧SaAt H r t' q' n∧t≠t'∧n≤2000∧∀(s:Addr) (H':Hp),Same H H'→QtAt H' s ((q'-q)/((t'-t:Int):Rat)) (4*n+3)→Q (.ref s) H'
noncomputable def spSlope:Sp:=fun vs H Q _=>∃(p r:Addr) (t t':Int) (q q':Rat) (n:Nat),vs=[.ref p,.ref r]∧SaAt H p t q n∧SaAt H r t' q' n∧t≠t'∧n≤1000∧∀(s:Addr) (H':Hp),Same H H'→FrAt H' s ((q'-q)/((t'-t:Int):Rat)) (4*n+3)→Q (.ref s) H'
noncomputable def spLalong:Sp:=fun vs H Q _=>∃(p r:Addr) (s q:Rat) (t u:Int) (m n:Nat),vs=[.ref p,.ref r,.int u]∧QtAt H p s m∧SaAt H r t q n∧Sz n u∧m≤20000∧n≤20000∧∀(x:Addr) (H':Hp),Same H H'→QtAt H' x (q+s*((u-t:Int):Rat)) (m+2*n+2)→Q (.ref x) H'
section
variable {P:Program} {w:World} {K:PySem.W.Frag} {mg:Str→Option Value} {base:Heap} {f:Addr} {fd:FuncData}
theorem sc_plain_divisor:FnScope ["one","other","found","rest","left"] ["one","other"] (defScope s_plain_divisor):=⟨rfl,rfl,rfl,by decide +kernel,rfl,by decide +kernel,by decide +kernel⟩
theorem ok_plain_divisor (F:Fun K "plain_divisor" "plain_divisor" s_plain_divisor f fd) (T:Txt mg):FnOk P w K mg base CX0 1 f fd ["one","other"] spPlain:=by
  refine F.ok sc_plain_divisor (fun vs H Q E h=>?_) (fun cdv A outer s H vs Q E hr h=>?_)
  · obtain ⟨m,n,rfl,_⟩:=h
    rfl
  obtain ⟨m,n,rfl,hm,hn,k⟩:=h
  refine J.l ⟨_,(J.e (J.i (i:=2) sc_plain_divisor.nd rfl (Or.inl rfl) (J.a 0) (hs:=sw_N))
      (J.e (J.i (i:=3) sc_plain_divisor.nd rfl (Or.inl rfl) (J.a 1) (hs:=sw_N))
      (J.e (Jd.ps_while PassesOwn.never (J.n op_ne (J.a 3) J.c (nomark _))
      (J.e (J.i (i:=4) sc_plain_divisor.nd rfl (Or.inl rfl) (J.h op_mod (J.a 2) (J.a 3)) (hs:=sw_B))
      (J.e (J.i (i:=2) sc_plain_divisor.nd rfl (Or.inl rfl) (J.a 3) (hs:=sw_N))
      (J.g (J.i (i:=3) sc_plain_divisor.nd rfl (Or.inl rfl) (J.a 4) (hs:=sw_N))))))
      (J.g (J.k (J.a 2)))))),?_⟩
  walk_at "v"
  refine while_by (fun σ H'=>H'=H∧∃(x y:Nat) (v:Option V),σ=[some (.int m),some (.int n),some (.int x),some (.int y),v]∧Nat.gcd x y=Int.gcd m n) (fun σ _=>third σ) ?_ ?_ ?_
  · refine ⟨rfl,m.natAbs,n.natAbs,none,?_,rfl⟩
    rw [show ((m.natAbs:Nat):Int)=m by walk_at "o",show ((n.natAbs:Nat):Int)=n by walk_at "o"]
    rfl
  · rintro σ H' ⟨rfl,x,y,v,rfl,hg⟩
    walk_at "v"
    refine ite2 (fun c=>?_) (fun c=>?_)
    · have c':¬(y:Int)=0:=by simpa using c
      walk_at "v"
      refine ⟨⟨rfl,y,x % y,some (.int ((x % y:Nat):Int)),?_,by rw [gcd_step];exact hg⟩,?_⟩
      · rw [mcast];rfl
      · show ((x:Int) % (y:Int)).toNat<(y:Int).toNat
        rw [mcast]
        have:=Nat.mod_lt x (y:=y) (by walk_at "o")
        walk_at "o"
    · have c':(y:Int)=0:=by simpa using c
      have y0:y=0:=by walk_at "o"
      subst y0
      rw [Nat.gcd_zero_right] at hg
      subst hg
      walk_at "v"
      exact k
  · intro σ H Q Q' h q
    obtain ⟨v,e,hs,b,e3,q⟩:=q
    exact ⟨v,e,hs,b,e3,h _ _ q⟩
theorem sc_steps_of_heads:FnScope ["high","low","ahead","now","many","left","behind"] ["high","low"] (defScope s_steps_of_heads):=⟨rfl,rfl,rfl,by decide +kernel,rfl,by decide +kernel,by decide +kernel⟩
theorem ok_steps_of_heads (F:Fun K "steps_of_heads" "steps_of_heads" s_steps_of_heads f fd) (C_HEAD:Cn mg "HEAD" 256):FnOk P w K mg base CX0 1 f fd ["high","low"] spSteps:=by
  refine F.ok sc_steps_of_heads (fun vs H Q E h=>?_) (fun cdv A outer s H vs Q E hr h=>?_)
  · obtain ⟨m,n,rfl,_⟩:=h
    rfl
  obtain ⟨hd,ld,rfl,h0,h1,h2,k⟩:=h
  refine J.l ⟨_,(J.e (J.i (i:=2) sc_steps_of_heads.nd rfl (Or.inl rfl) (J.m (J.b J.c (J.b J.c J.d st_C) st_C)) (hs:=sw_T))
      (J.e (J.i (i:=3) sc_steps_of_heads.nd rfl (Or.inl rfl) (J.m (J.b J.c (J.b J.c J.d st_C) st_C)) (hs:=sw_T))
      (J.e (Jd.ps_while PassesOwn.never (J.n op_gt (Jd.pe_bits (J.a 1)) (J.h op_fdivB (Jd.pe_cn rfl C_HEAD) J.c) (nomark _))
      (J.e (J.i (i:=4) sc_steps_of_heads.nd rfl (Or.inl rfl) (J.h op_fdivB (J.a 0) (J.a 1)) (hs:=sw_B))
      (J.e (J.i (i:=5) sc_steps_of_heads.nd rfl (Or.inl rfl) (J.h op_sub (J.a 0) (J.h op_mulB (J.a 4) (J.a 1))) (hs:=sw_B))
      (J.e (J.i (i:=0) sc_steps_of_heads.nd rfl (Or.inl rfl) (J.a 1) (hs:=sw_N))
      (J.e (J.i (i:=1) sc_steps_of_heads.nd rfl (Or.inl rfl) (J.a 5) (hs:=sw_N))
      (J.e (J.i (i:=6) sc_steps_of_heads.nd rfl (Or.inl rfl) (J.m (J.b (J.h op_sub (J.f (ixT K) (J.a 2) J.c (fun _ _=>rfl)) (J.h op_mulB (J.a 4) (J.f (ixT K) (J.a 3) J.c (fun _ _=>rfl)))) (J.b (J.h op_sub (J.f (ixT K) (J.a 2) J.c (fun _ _=>rfl)) (J.h op_mulB (J.a 4) (J.f (ixT K) (J.a 3) J.c (fun _ _=>rfl)))) J.d st_B) st_B)) (hs:=sw_T))
      (J.e (J.i (i:=2) sc_steps_of_heads.nd rfl (Or.inl rfl) (J.a 3) (hs:=sw_N))
      (J.g (J.i (i:=3) sc_steps_of_heads.nd rfl (Or.inl rfl) (J.a 6) (hs:=sw_N))))))))))
      (J.g (J.k (J.h (catT K) (J.a 2) (J.a 3))))))),?_⟩
  walk_at "v"
  refine r_new (mk:=.tup) (by simp) fun pa Ha sa na ea=>?_
  walk_at "v"
  refine r_new (mk:=.tup) (by simp) fun pn Hn sn nn en=>?_
  walk_at "v"
  refine while_by (fun σ H'=>Same H H'∧∃(high low x0 y0 x1 y1:Int) (pa pn:Addr) (v4 v5 v6:Option V),σ=[some (.int high),some (.int low),some (.ref pa),some (.ref pn),v4,v5,v6] ∧
    H' pa=some (.tup [.int x0,.int y0])∧H' pn=some (.tup [.int x1,.int y1])∧Steps hd ld high low x0 y0 x1 y1) (fun σ _=>cellN 1 σ) ?_ ?_ ?_
  · exact ⟨sa.trans sn,hd,ld,1,0,0,1,pa,pn,none,none,none,rfl,sn _ _ ea,en,Steps.init h0 h1⟩
  · rintro σ H' ⟨sH,high,low,x0,y0,x1,y1,pa,pn,v4,v5,v6,rfl,ea,en,S⟩
    walk_at "v"
    refine r_I ⟨by decide,by decide⟩ ?_
    walk_at "v"
    refine ite2 (fun c=>?_) (fun c=>?_)
    · have c':=of_decide_eq_true c
      rw [show Int.fdiv 256 2=128 by decide] at c'
      have hlow:=heads_big c' S.l0
      have hq:=S.step hlow rfl
      have hH:hd.natAbs<2 ^ 256:=by
        have:(2:Nat) ^ 256=115792089237316195423570985008687907853269984665640564039457584007913129639936:=by decide
        walk_at "o"
      have zl:Sz 256 ld:=Sz.of_le (m:=256) (x:=hd) hH (by walk_at "o")
      have zh:Sz 256 high:=Sz.of_le (m:=256) (x:=hd) hH (by have:=S.high_le h1;have:=S.lh;have:=S.l0;walk_at "o")
      have nb:=S.now_le (by have:=S.lh;walk_at "o")
      have zx:Sz 256 x1:=Sz.of_le zl nb.1
      have zy:Sz 256 y1:=Sz.of_le (m:=256) (x:=hd) hH nb.2
      have zlo:Sz 256 low:=zh.of_le (by have:=S.lh;have:=S.l0;walk_at "o")
      have eq:high.fdiv low=high/low:=Int.fdiv_eq_ediv_of_nonneg _ S.l0
      have zq:Sz 256 (high/low):=zh.of_le (div_le (by have:=S.lh;have:=S.l0;walk_at "o") S.l0)
      walk_at "v"
      refine r_I ⟨by walk_at "o",zlo.log (by decide) (by decide)⟩ ?_
      rw [eq]
      walk_at "v"
      refine r_I (mulOk zq zlo) ?_
      walk_at "v"
      refine r_I (mulOk zq zx) ?_
      walk_at "v"
      refine r_I (mulOk zq zy) ?_
      walk_at "v"
      refine r_new (mk:=.tup) (by simp) fun pb Hb sb nb eb=>?_
      walk_at "v"
      refine ⟨⟨sH.trans sb,low,high-high/low*low,x1,y1,x0-high/low*x1,y0-high/low*y1,pn,pb,_,_,_,rfl,sb _ _ en,eb,hq⟩,?_⟩
      show (high-high/low*low).toNat<low.toNat
      have e:=Int.mul_ediv_add_emod high low
      rw [Int.mul_comm] at e
      have:=Int.emod_lt_of_pos high (b:=low) (by walk_at "o")
      walk_at "o"
    · have c':=of_decide_eq_false (Bool.eq_false_iff.mpr c)
      rw [show Int.fdiv 256 2=128 by decide] at c'
      have hlow:=heads_small c'
      walk_at "v"
      refine r_catT ea en ?_
      refine r_new (mk:=.tup) (by simp) fun pb Hb sb nb eb=>?_
      exact k pb x0 y0 x1 y1 high low Hb (sH.trans sb) eb S (by walk_at "o")
  · intro σ H Q Q' h q
    obtain ⟨v,e,a1,a2,i,a3,m,n,e1,e2,hc,m',n',e3,e4,b,e5,q⟩:=q
    exact ⟨v,e,a1,a2,i,a3,m,n,e1,e2,hc,m',n',e3,e4,b,e5,h _ _ q⟩
theorem sc_divisor:FnScope ["one","other","found","rest","tail","steps","ahead","now"] ["one","other"] (defScope s_divisor):=⟨rfl,rfl,rfl,by decide +kernel,rfl,by decide +kernel,by decide +kernel⟩
theorem ok_divisor (F:Fun K "divisor" "divisor" s_divisor f fd) (T:Txt mg) (C_HEAD:Cn mg "HEAD" 256) (D_plain_divisor:Dn P w K mg base 1 "plain_divisor" ["one","other"] spPlain) (D_steps_of_heads:Dn P w K mg base 1 "steps_of_heads" ["high","low"] spSteps) :
    FnOk P w K mg base CX0 2 f fd ["one","other"] spDivisor:=by
  refine F.ok sc_divisor (fun vs H Q E h=>?_) (fun cdv A outer s H vs Q E hr h=>?_)
  · obtain ⟨m,n,rfl,_⟩:=h
    rfl
  obtain ⟨m,n,rfl,zm,zn,k⟩:=h
  refine J.l ⟨_,(J.e (J.i (i:=2) sc_divisor.nd rfl (Or.inl rfl) (J.r (maxC rfl) rfl T.max_ PyProof.Rows.boot_max (J.b (J.r absC rfl T.abs_ PyProof.Rows.boot_abs (J.b (J.a 0) J.d st_N) (he:=st_N) (hpl:=any0)) (J.b (J.r absC rfl T.abs_ PyProof.Rows.boot_abs (J.b (J.a 1) J.d st_N) (he:=st_N) (hpl:=any0)) J.d st_K) st_K) (he:=st_K) (hpl:=(anyc st_K any0))) (hs:=sw_K))
      (J.e (J.i (i:=3) sc_divisor.nd rfl (Or.inl rfl) (J.r (minC rfl) rfl T.min_ PyProof.Rows.boot_min (J.b (J.r absC rfl T.abs_ PyProof.Rows.boot_abs (J.b (J.a 0) J.d st_N) (he:=st_N) (hpl:=any0)) (J.b (J.r absC rfl T.abs_ PyProof.Rows.boot_abs (J.b (J.a 1) J.d st_N) (he:=st_N) (hpl:=any0)) J.d st_K) st_K) (he:=st_K) (hpl:=(anyc st_K any0))) (hs:=sw_K))
      (J.e (Jd.ps_while PassesOwn.never (J.n op_gt (Jd.pe_bits (J.a 3)) (Jd.pe_cn rfl C_HEAD) (nomark _))
      (J.e (J.i (i:=4) sc_divisor.nd rfl (Or.inl rfl) (J.h op_sub (Jd.pe_bits (J.a 2)) (Jd.pe_cn rfl C_HEAD)) (hs:=sw_B))
      (J.e (J.i (i:=5) sc_divisor.nd rfl (Or.inl rfl) (J.j D_steps_of_heads (hr.mono (by decide)) rfl (J.b (J.h op_shr (J.a 2) (J.a 4)) (J.b (J.h op_shr (J.a 3) (J.a 4)) J.d st_B) st_B) (he:=st_B) (hpl:=(anyc st_B any0))) (hs:=sw_K))
      (J.e (J.o (J.n op_eq (J.f (ixT K) (J.a 5) J.c (fun _ _=>rfl)) J.c (nomark _))
      (J.g (J.i (i:=5) sc_divisor.nd rfl (Or.inl rfl) (J.m (J.b J.c (J.b J.c (J.b J.c (J.b (J.z un_neg (J.h op_fdivB (J.a 2) (J.a 3))) J.d st_U) st_C) st_C) st_C)) (hs:=sw_T)))
      J.s)
      (J.e (J.i (i:=6) sc_divisor.nd rfl (Or.inl rfl) (J.r absC rfl T.abs_ PyProof.Rows.boot_abs (J.b (J.h op_add (J.h op_mulB (J.f (ixT K) (J.a 5) J.c (fun _ _=>rfl)) (J.a 2)) (J.h op_mulB (J.f (ixT K) (J.a 5) J.c (fun _ _=>rfl)) (J.a 3))) J.d st_B) (he:=st_B) (hpl:=any0)) (hs:=sw_K))
      (J.e (J.i (i:=7) sc_divisor.nd rfl (Or.inl rfl) (J.r absC rfl T.abs_ PyProof.Rows.boot_abs (J.b (J.h op_add (J.h op_mulB (J.f (ixT K) (J.a 5) J.c (fun _ _=>rfl)) (J.a 2)) (J.h op_mulB (J.f (ixT K) (J.a 5) J.c (fun _ _=>rfl)) (J.a 3))) J.d st_B) (he:=st_B) (hpl:=any0)) (hs:=sw_K))
      (J.e (J.i (i:=2) sc_divisor.nd rfl (Or.inl rfl) (J.r (maxC rfl) rfl T.max_ PyProof.Rows.boot_max (J.b (J.a 6) (J.b (J.a 7) J.d st_N) st_N) (he:=st_N) (hpl:=(anyc st_N any0))) (hs:=sw_K))
      (J.g (J.i (i:=3) sc_divisor.nd rfl (Or.inl rfl) (J.r (minC rfl) rfl T.min_ PyProof.Rows.boot_min (J.b (J.a 6) (J.b (J.a 7) J.d st_N) st_N) (he:=st_N) (hpl:=(anyc st_N any0))) (hs:=sw_K))))))))))
      (J.g (J.k (J.j D_plain_divisor (hr.mono (by decide)) rfl (J.b (J.a 2) (J.b (J.a 3) J.d st_N) st_N) (he:=st_N) (hpl:=(anyc st_N any0)))))))),?_⟩
  walk_at "v"
  rw [abs_cast,abs_cast]
  refine while_by (fun σ H'=>Same H H'∧∃(x y:Int) (v4 v5 v6 v7:Option V),σ=[some (.int m),some (.int n),some (.int x),some (.int y),v4,v5,v6,v7] ∧
    0≤y∧y≤x∧Int.gcd x y=Int.gcd m n∧Sz 8001 (x+y)) (fun σ _=>cellN 2 σ+cellN 3 σ) ?_ ?_ ?_
  · refine ⟨Same.refl _,_,_,none,none,none,none,rfl,?_,?_,(gcd_maxmin rfl rfl).trans ?_,?_⟩
    · exact mm_nn _ _
    · exact mm_le _ _
    · rfl
    · have z:=(zm.of_le (y:=(m.natAbs:Int)) (by simp)).add (zn.of_le (y:=(n.natAbs:Int)) (by simp))
      exact z.of_le (mm_sum (by walk_at "o"))
  · rintro σ H' ⟨sH,x,y,v4,v5,v6,v7,rfl,y0,yx,hg,zs⟩
    have zx:Sz 8001 x:=zs.of_le (by walk_at "o")
    have zy:Sz 8001 y:=zs.of_le (by walk_at "o")
    walk_at "v"
    refine ite2 (fun c=>?_) (fun c=>?_)
    · have c':=of_decide_eq_true c
      obtain ⟨t,ht,lo,hi⟩:=heads_tail c' y0 yx
      have tp:(0:Int)<2 ^ t:=Int.pow_pos (by decide)
      have hd:=head_of lo hi
      have ypos:1≤y:=by
        have:(256:Int)<(Builtin.Int.intBits y:Nat):=c'
        by_cases e:y=0
        · subst e;simp [Builtin.Int.intBits] at this
        · walk_at "o"
      walk_at "v"
      refine r_I (show (0:Int)≤_ by walk_at "o") ?_
      walk_at "v"
      refine r_I (show (0:Int)≤_ by walk_at "o") ?_
      walk_at "v"
      rw [show ((Builtin.Int.intBits x:Nat)-256:Int).toNat=t by walk_at "o"]
      refine ⟨x/2 ^ t,y/2 ^ t,rfl,Int.ediv_nonneg y0 (by walk_at "o"),Int.ediv_le_ediv tp yx,hd.2,fun ps x0 y0' x1 y1 high low H1 s1 e1 S hl=>?_⟩
      walk_at "v"
      refine ite2 (fun c2=>?_) (fun c2=>?_)
      · have c3:y0'=0:=of_decide_eq_true c2
        have zq:Sz 8001 (x.fdiv y):=by
          rw [Int.fdiv_eq_ediv_of_nonneg _ y0]
          exact zx.of_le (div_le (by walk_at "o") y0)
        walk_at "v"
        refine r_I ⟨by walk_at "o",zy.log (by decide) (by decide)⟩ ?_
        walk_at "v"
        refine r_new (mk:=.tup) (by simp) fun p2 H2 s2 n2 e2=>?_
        have sH2:=(sH.trans s1).trans s2
        have za:Sz 8001 (0:Int):=by decide
        have zb:Sz 8001 (1:Int):=by decide
        have zc:Sz 8001 (1:Int):=zb
        have zd:Sz 8001 (-(x.fdiv y)):=zq.neg
        have gg:Int.gcd (0*x+1*y) (1*x+-(x.fdiv y)*y)=Int.gcd x y:=gcd_mix (.inr (by walk_at "o"))
        have ls:=fd_less ypos yx
        walk_at "v"
        refine r_I (mulOk zd zy) ?_
        walk_at "v"
        simp only [abs_cast]
        refine ⟨⟨sH2,_,_,_,_,_,_,rfl,?_,?_,(gcd_maxmin rfl rfl).trans (gg.trans hg),?_⟩,?_⟩
        · exact mm_nn _ _
        · exact mm_le _ _
        · exact zs.of_le (mm_sum (mm_xy ls y0 yx))
        · exact mm_to ls y0 yx
      · have c3:y0'≠0:=of_decide_eq_false (Bool.eq_false_iff.mpr c2)
        have sH2:=sH.trans s1
        have sm:=S.small c3 (Int.ediv_le_ediv tp yx) hd.2
        have k128:(340282366920938463463374607431768211456:Nat)<2 ^ 8001:=by decide +kernel
        have za:Sz 8001 x0:=Nat.lt_of_le_of_lt sm.1 k128
        have zb:Sz 8001 y0':=Nat.lt_of_le_of_lt sm.2.1 k128
        have zc:Sz 8001 x1:=Nat.lt_of_le_of_lt sm.2.2.1 k128
        have zd:Sz 8001 y1:=Nat.lt_of_le_of_lt sm.2.2.2 k128
        have gg:Int.gcd (x0*x+y0'*y) (x1*x+y1*y)=Int.gcd x y:=S.gcd
        have ls:=heads_less S c3 yx lo hi rfl rfl hl
        walk_at "v"
        refine r_I (mulOk za zx) ?_
        walk_at "v"
        refine r_I (mulOk zb zy) ?_
        walk_at "v"
        refine r_I (mulOk zc zx) ?_
        walk_at "v"
        refine r_I (mulOk zd zy) ?_
        walk_at "v"
        simp only [abs_cast]
        refine ⟨⟨sH2,_,_,_,_,_,_,rfl,?_,?_,(gcd_maxmin rfl rfl).trans (gg.trans hg),?_⟩,?_⟩
        · exact mm_nn _ _
        · exact mm_le _ _
        · exact zs.of_le (mm_sum (mm_xy ls y0 yx))
        · exact mm_to ls y0 yx
    · walk_at "v"
      refine ⟨x,y,rfl,by walk_at "o",y0,?_⟩
      rw [hg]
      exact k H' sH
  · intro σ H Q Q' h q
    obtain ⟨v,e,a1,a2,i,a3,m',n',e3,e4,b,e5,q⟩:=q
    exact ⟨v,e,a1,a2,i,a3,m',n',e3,e4,b,e5,h _ _ q⟩
theorem sc_ratio:FnScope ["top","bottom","shared"] ["top","bottom"] (defScope s_ratio):=⟨rfl,rfl,rfl,by decide +kernel,rfl,by decide +kernel,by decide +kernel⟩
theorem low_ratio {t b:Int} (hb:b≠0):Low t b (t.fdiv (if b<0 then -(Int.gcd t b:Int) else (Int.gcd t b:Int))) (b.fdiv (if b<0 then -(Int.gcd t b:Int) else (Int.gcd t b:Int))):=by
  by_cases h:b<0
  · rw [if_pos h]
    have l:=low_neg (t:=t) h
    exact ⟨l.pos,l.co,by have:=l.eq;rw [Int.mul_neg,Int.neg_mul] at this;walk_at "o",by rw [← Int.natAbs_neg t];exact l.tb,by rw [← Int.natAbs_neg b];exact l.bb⟩
  · rw [if_neg h]
    exact low_pos (by walk_at "o")
theorem ok_ratio (F:Fun K "ratio" "ratio" s_ratio f fd) (T:Txt mg) (D_divisor:Dn P w K mg base 2 "divisor" ["one","other"] spDivisor):FnOk P w K mg base CX0 3 f fd ["top","bottom"] spRatioP:=by
  refine F.ok sc_ratio (fun vs H Q E h=>?_) (fun cdv A outer s H vs Q E hr h=>?_)
  · obtain ⟨t,b,rfl,_⟩:=h
    rfl
  obtain ⟨t,b,rfl,hb,hzt,hz,k⟩:=h
  refine J.l ⟨_,(J.e (J.o (J.n op_eq (J.a 1) J.c (nomark _))
      (J.g Jd.ps_never)
      J.s)
      (J.e (J.i (i:=2) sc_ratio.nd rfl (Or.inl rfl) (J.j D_divisor (hr.mono (by decide)) rfl (J.b (J.a 0) (J.b (J.a 1) J.d st_N) st_N) (he:=st_N) (hpl:=(anyc st_N any0))) (hs:=sw_K))
      (J.e (J.o (J.n op_lt (J.a 1) J.c (nomark _))
      (J.g (J.i (i:=2) sc_ratio.nd rfl (Or.inl rfl) (J.z un_neg (J.a 2)) (hs:=sw_U)))
      J.s)
      (J.g (J.k (J.m (J.b (J.h op_fdivB (J.a 0) (J.a 2)) (J.b (J.h op_fdivB (J.a 1) (J.a 2)) J.d st_B) st_B))))))),?_⟩
  walk_at "v"
  rw [decide_eq_false hb]
  refine iteF ?_
  walk_at "v"
  refine ⟨t,b,rfl,hzt,hz,fun H0 s0=>?_⟩
  have gp:0<Int.gcd t b:=Int.gcd_pos_of_ne_zero_right t hb
  have hgb:Int.gcd t b≤b.natAbs:=Nat.le_of_dvd (by walk_at "o") (Nat.gcd_dvd_right _ _)
  have cd:∀x:Int,CDivB x (if b<0 then -(Int.gcd t b:Int) else (Int.gcd t b:Int)):=fun x=>by
    refine ⟨by split <;> walk_at "o",Sz.log (m:=8000) (Sz.of_le hz ?_) (by decide) (by decide)⟩
    split <;> walk_at "o"
  have lo:=low_ratio (t:=t) hb
  walk_at "v"
  refine ite2 (fun c=>?_) (fun c=>?_)
  · have c':=of_decide_eq_true c
    rw [if_pos c'] at lo
    simp only [if_pos c'] at cd
    walk_at "v"
    refine r_I (cd t) ?_
    walk_at "v"
    refine r_I (cd b) ?_
    walk_at "v"
    refine r_new (mk:=.tup) (by simp) fun p H1 s1 n1 e1=>?_
    exact k p _ _ H1 (s0.trans s1) e1 lo
  · have c':=of_decide_eq_false (Bool.eq_false_iff.mpr c)
    rw [if_neg c'] at lo
    simp only [if_neg c'] at cd
    walk_at "v"
    refine r_I (cd t) ?_
    walk_at "v"
    refine r_I (cd b) ?_
    walk_at "v"
    refine r_new (mk:=.tup) (by simp) fun p H1 s1 n1 e1=>?_
    exact k p _ _ H1 (s0.trans s1) e1 lo
theorem sc_reduced:FnScope ["quotient"] ["quotient"] (defScope s_reduced):=⟨rfl,rfl,rfl,by decide +kernel,rfl,by decide +kernel,by decide +kernel⟩
theorem ok_reduced (F:Fun K "reduced" "reduced" s_reduced f fd) (D_ratio:Dn P w K mg base 3 "ratio" ["top","bottom"] spRatioP):FnOk P w K mg base CX0 4 f fd ["quotient"] spReduced:=by
  refine F.ok sc_reduced (fun vs H Q E h=>?_) (fun cdv A outer s H vs Q E hr h=>?_)
  · obtain ⟨p,q,n,rfl,_⟩:=h
    rfl
  obtain ⟨p,q,n,rfl,⟨t,b,hp,hq,zt,zb⟩,hn,k⟩:=h
  refine J.l ⟨_,(J.g (J.k (J.j D_ratio (hr.mono (by decide)) rfl (J.b (J.f (ixT K) (J.a 0) J.c (fun _ _=>rfl)) (J.b (J.f (ixT K) (J.a 0) J.c (fun _ _=>rfl)) J.d st_S) st_S) (he:=st_S) (hpl:=(anyc st_S any0))))),?_⟩
  have hb:=hq.pos
  walk_at "v"
  refine ⟨t,b,rfl,by walk_at "o",zt.mono hn,zb.mono hn,fun r t' b' H1 s1 e1 lo=>?_⟩
  exact k r H1 s1 ⟨t',b',e1,Fr.of_low lo (by walk_at "o") hq.eq,zt.of_le lo.tb,zb.of_le lo.bb⟩
theorem sc_loose_plus:FnScope ["one","other"] ["one","other"] (defScope s_loose_plus):=⟨rfl,rfl,rfl,by decide +kernel,rfl,by decide +kernel,by decide +kernel⟩
theorem ok_loose_plus (F:Fun K "loose_plus" "loose_plus" s_loose_plus f fd):FnOk P w K mg base CX0 1 f fd ["one","other"] (spTwo (·+·) 1):=by
  refine F.ok sc_loose_plus (fun vs H Q E h=>?_) (fun cdv A outer s H vs Q E hr h=>?_)
  · obtain ⟨p,r,q,q',m,n,rfl,_⟩:=h
    rfl
  obtain ⟨p,r,q,q',m,n,rfl,⟨a,b,hp,hq,za,zb⟩,⟨c,d,hr',hq',zc,zd⟩,hn,k⟩:=h
  refine J.l ⟨_,(J.g (J.k (J.m (J.b (J.h op_add (J.h op_mulB (J.f (ixT K) (J.a 0) J.c (fun _ _=>rfl)) (J.f (ixT K) (J.a 1) J.c (fun _ _=>rfl))) (J.h op_mulB (J.f (ixT K) (J.a 1) J.c (fun _ _=>rfl)) (J.f (ixT K) (J.a 0) J.c (fun _ _=>rfl)))) (J.b (J.h op_mulB (J.f (ixT K) (J.a 0) J.c (fun _ _=>rfl)) (J.f (ixT K) (J.a 1) J.c (fun _ _=>rfl))) J.d st_B) st_B)))),?_⟩
  walk_at "v"
  refine r_I (mulOk za zd (by walk_at "o")) ?_
  walk_at "v"
  refine r_I (mulOk zc zb (by walk_at "o")) ?_
  walk_at "v"
  refine r_I (mulOk zb zd (by walk_at "o")) ?_
  walk_at "v"
  refine r_new (mk:=.tup) (by simp) fun x H1 s1 n1 e1=>?_
  exact k x H1 s1 ⟨_,_,e1,hq.plus hq',(za.mul zd).add ((zc.mul zb).mono (by walk_at "o")),(zb.mul zd).mono (by walk_at "o")⟩
theorem sc_loose_minus:FnScope ["one","other"] ["one","other"] (defScope s_loose_minus):=⟨rfl,rfl,rfl,by decide +kernel,rfl,by decide +kernel,by decide +kernel⟩
theorem ok_loose_minus (F:Fun K "loose_minus" "loose_minus" s_loose_minus f fd):FnOk P w K mg base CX0 1 f fd ["one","other"] (spTwo (·-·) 1):=by
  refine F.ok sc_loose_minus (fun vs H Q E h=>?_) (fun cdv A outer s H vs Q E hr h=>?_)
  · obtain ⟨p,r,q,q',m,n,rfl,_⟩:=h
    rfl
  obtain ⟨p,r,q,q',m,n,rfl,⟨a,b,hp,hq,za,zb⟩,⟨c,d,hr',hq',zc,zd⟩,hn,k⟩:=h
  refine J.l ⟨_,(J.g (J.k (J.m (J.b (J.h op_sub (J.h op_mulB (J.f (ixT K) (J.a 0) J.c (fun _ _=>rfl)) (J.f (ixT K) (J.a 1) J.c (fun _ _=>rfl))) (J.h op_mulB (J.f (ixT K) (J.a 1) J.c (fun _ _=>rfl)) (J.f (ixT K) (J.a 0) J.c (fun _ _=>rfl)))) (J.b (J.h op_mulB (J.f (ixT K) (J.a 0) J.c (fun _ _=>rfl)) (J.f (ixT K) (J.a 1) J.c (fun _ _=>rfl))) J.d st_B) st_B)))),?_⟩
  walk_at "v"
  refine r_I (mulOk za zd (by walk_at "o")) ?_
  walk_at "v"
  refine r_I (mulOk zc zb (by walk_at "o")) ?_
  walk_at "v"
  refine r_I (mulOk zb zd (by walk_at "o")) ?_
  walk_at "v"
  refine r_new (mk:=.tup) (by simp) fun x H1 s1 n1 e1=>?_
  exact k x H1 s1 ⟨_,_,e1,hq.minus hq',(za.mul zd).sub ((zc.mul zb).mono (by walk_at "o")),(zb.mul zd).mono (by walk_at "o")⟩
theorem sc_loose_times:FnScope ["one","other"] ["one","other"] (defScope s_loose_times):=⟨rfl,rfl,rfl,by decide +kernel,rfl,by decide +kernel,by decide +kernel⟩
theorem ok_loose_times (F:Fun K "loose_times" "loose_times" s_loose_times f fd):FnOk P w K mg base CX0 1 f fd ["one","other"] (spTwo (·*·) 0):=by
  refine F.ok sc_loose_times (fun vs H Q E h=>?_) (fun cdv A outer s H vs Q E hr h=>?_)
  · obtain ⟨p,r,q,q',m,n,rfl,_⟩:=h
    rfl
  obtain ⟨p,r,q,q',m,n,rfl,⟨a,b,hp,hq,za,zb⟩,⟨c,d,hr',hq',zc,zd⟩,hn,k⟩:=h
  refine J.l ⟨_,(J.g (J.k (J.m (J.b (J.h op_mulB (J.f (ixT K) (J.a 0) J.c (fun _ _=>rfl)) (J.f (ixT K) (J.a 1) J.c (fun _ _=>rfl))) (J.b (J.h op_mulB (J.f (ixT K) (J.a 0) J.c (fun _ _=>rfl)) (J.f (ixT K) (J.a 1) J.c (fun _ _=>rfl))) J.d st_B) st_B)))),?_⟩
  walk_at "v"
  refine r_I (mulOk za zc (by walk_at "o")) ?_
  walk_at "v"
  refine r_I (mulOk zb zd (by walk_at "o")) ?_
  walk_at "v"
  refine r_new (mk:=.tup) (by simp) fun x H1 s1 n1 e1=>?_
  exact k x H1 s1 ⟨_,_,e1,hq.times hq',za.mul zc,zb.mul zd⟩
end

noncomputable def spLheight:Sp:=fun vs H Q _=>∃(p r:Addr) (s h x:Rat) (m n:Nat),vs=[.ref p,.ref r]∧LnAt H p s h n∧QtAt H r x m∧m≤20000∧n≤20000∧∀(z:Addr) (H':Hp),Same H H'→QtAt H' z (s*x+h) (m+2*n+1)→Q (.ref z) H'
noncomputable def spHeight:Sp:=fun vs H Q _=>∃(p r:Addr) (s h x:Rat) (m n:Nat),vs=[.ref p,.ref r]∧LnAt H p s h n∧QtAt H r x m∧m+2*n+1≤8000∧∀(z:Addr) (H':Hp),Same H H'→FrAt H' z (s*x+h) (m+2*n+1)→Q (.ref z) H'
noncomputable def spLoff:Sp:=fun vs H Q _=>∃(p r:Addr) (s h q:Rat) (t:Int) (m n:Nat),vs=[.ref p,.ref r]∧LnAt H p s h n∧SaAt H r t q m∧1≤m∧m≤20000∧n≤20000∧∀(z:Addr) (H':Hp),Same H H'→QtAt H' z (q-(s*(t:Rat)+h)) (2*m+2*n+2)→Q (.ref z) H'
noncomputable def spLineBy:Sp:=fun vs H Q _=>∃(p r:Addr) (s q:Rat) (t:Int) (m n:Nat),vs=[.ref p,.ref r]∧FrAt H p s m∧SaAt H r t q n∧1≤n∧m+2*n+2≤8000 ∧
  ∀(z r':Addr) (H':Hp),Same H H'→H' z=some (.tup [.ref p,.ref r'])→FrAt H' r' (q-s*(t:Rat)) (m+2*n+2)→Q (.ref z) H'
noncomputable def spMeet:Sp:=fun vs H Q _=>∃(p r:Addr) (s h s' h':Rat) (n:Nat),vs=[.ref p,.ref r]∧LnAt H p s h n∧LnAt H r s' h' n∧1≤n∧n≤1300∧(s=s'→∀H',Same H H'→Q .non H') ∧
  (s≠s'→∀(z a b:Addr) (H':Hp),Same H H'→H' z=some (.tup [.ref a,.ref b])→FrAt H' a ((h'-h)/(s-s')) (4*n+2)→FrAt H' b (s*((h'-h)/(s-s'))+h) (6*n+3)→Q (.ref z) H')
theorem fr_eqv {t b t' b':Int} {q q':Rat} (h:Fr t b q) (h':Fr t' b' q'):PyData.eqv (.tuple [.int t,.int b]) (.tuple [.int t',.int b'])=decide (q=q'):=by
  have e:PyData.eqv (.tuple [.int t,.int b]) (.tuple [.int t',.int b'])=(t==t'&&(b==b'&&true)):=rfl
  rw [e]
  by_cases hq:q=q'
  · subst hq
    obtain ⟨rfl,rfl⟩:=h.unique h'
    simp
  · rw [decide_eq_false hq]
    by_cases e1:t=t'
    · by_cases e2:b=b'
      · exact absurd (h.worth h' e1 e2) hq
      · simp [e2]
    · simp [e1]
theorem one_sz {n:Nat} (h:1≤n):Sz n 1:=by
  have:(2:Nat) ^ 1≤2 ^ n:=Nat.pow_le_pow_right (by decide) h
  show Int.natAbs 1<2 ^ n
  have e:Int.natAbs 1=1:=rfl
  walk_at "o"
theorem whole_at {H:Hp} {p:Addr} {m:Int} {n:Nat} (h:H p=some (.tup [.int m,.int 1])) (z:Sz n m) (hn:1≤n):QtAt H p (m:Rat) n:=⟨m,1,h,Qt.whole m,z,one_sz hn⟩
section
variable {P:Program} {w:World} {K:PySem.W.Frag} {mg:Str→Option Value} {base:Heap} {f:Addr} {fd:FuncData}
theorem sc_minus:FnScope ["one","other"] ["one","other"] (defScope s_minus):=⟨rfl,rfl,rfl,by decide +kernel,rfl,by decide +kernel,by decide +kernel⟩
theorem ok_minus (F:Fun K "minus" "minus" s_minus f fd) (D_loose_minus:Dn P w K mg base 1 "loose_minus" ["one","other"] (spTwo (·-·) 1)) (D_reduced:Dn P w K mg base 4 "reduced" ["quotient"] spReduced):FnOk P w K mg base CX0 5 f fd ["one","other"] (spTwoF (·-·) 1):=by
  refine F.ok sc_minus (fun vs H Q E h=>?_) (fun cdv A outer s H vs Q E hr h=>?_)
  · obtain ⟨p,r,q,q',m,n,rfl,_⟩:=h
    rfl
  obtain ⟨p,r,q,q',m,n,rfl,h1,h2,hn,k⟩:=h
  refine J.l ⟨_,(J.g (J.k (J.j D_reduced (hr.mono (by decide)) rfl (J.b (J.j D_loose_minus (hr.mono (by decide)) rfl (J.b (J.a 0) (J.b (J.a 1) J.d st_N) st_N) (he:=st_N) (hpl:=(anyc st_N any0))) J.d st_K) (he:=st_K) (hpl:=any0)))),?_⟩
  walk_at "v"
  refine ⟨p,r,q,q',m,n,rfl,h1,h2,by walk_at "o",fun x H1 s1 e1=>?_⟩
  walk_at "v"
  refine ⟨x,_,_,rfl,e1,hn,fun y H2 s2 e2=>?_⟩
  exact k y H2 (s1.trans s2) e2
theorem sc_plus:FnScope ["one","other"] ["one","other"] (defScope s_plus):=⟨rfl,rfl,rfl,by decide +kernel,rfl,by decide +kernel,by decide +kernel⟩
theorem ok_plus (F:Fun K "plus" "plus" s_plus f fd) (D_loose_plus:Dn P w K mg base 1 "loose_plus" ["one","other"] (spTwo (·+·) 1)) (D_reduced:Dn P w K mg base 4 "reduced" ["quotient"] spReduced):FnOk P w K mg base CX0 5 f fd ["one","other"] (spTwoF (·+·) 1):=by
  refine F.ok sc_plus (fun vs H Q E h=>?_) (fun cdv A outer s H vs Q E hr h=>?_)
  · obtain ⟨p,r,q,q',m,n,rfl,_⟩:=h
    rfl
  obtain ⟨p,r,q,q',m,n,rfl,h1,h2,hn,k⟩:=h
  refine J.l ⟨_,(J.g (J.k (J.j D_reduced (hr.mono (by decide)) rfl (J.b (J.j D_loose_plus (hr.mono (by decide)) rfl (J.b (J.a 0) (J.b (J.a 1) J.d st_N) st_N) (he:=st_N) (hpl:=(anyc st_N any0))) J.d st_K) (he:=st_K) (hpl:=any0)))),?_⟩
  walk_at "v"
  refine ⟨p,r,q,q',m,n,rfl,h1,h2,by walk_at "o",fun x H1 s1 e1=>?_⟩
  walk_at "v"
  refine ⟨x,_,_,rfl,e1,hn,fun y H2 s2 e2=>?_⟩
  exact k y H2 (s1.trans s2) e2
theorem sc_over:FnScope ["one","other"] ["one","other"] (defScope s_over):=⟨rfl,rfl,rfl,by decide +kernel,rfl,by decide +kernel,by decide +kernel⟩
theorem ok_over (F:Fun K "over" "over" s_over f fd) (D_ratio:Dn P w K mg base 3 "ratio" ["top","bottom"] spRatioP):FnOk P w K mg base CX0 4 f fd ["one","other"] spOver:=by
  refine F.ok sc_over (fun vs H Q E h=>?_) (fun cdv A outer s H vs Q E hr h=>?_)
  · obtain ⟨p,r,q,q',m,n,rfl,_⟩:=h
    rfl
  obtain ⟨p,r,q,q',m,n,rfl,⟨a,b,hp,hq,za,zb⟩,⟨c,d,hr',hq',zc,zd⟩,hn,h0,k⟩:=h
  have hc:c≠0:=fun z=>h0 (hq'.zero_iff.mp z)
  obtain ⟨o1,o2⟩:=over_eq hq hq' hc
  refine J.l ⟨_,(J.g (J.k (J.j D_ratio (hr.mono (by decide)) rfl (J.b (J.h op_mulB (J.f (ixT K) (J.a 0) J.c (fun _ _=>rfl)) (J.f (ixT K) (J.a 1) J.c (fun _ _=>rfl))) (J.b (J.h op_mulB (J.f (ixT K) (J.a 0) J.c (fun _ _=>rfl)) (J.f (ixT K) (J.a 1) J.c (fun _ _=>rfl))) J.d st_B) st_B) (he:=st_B) (hpl:=(anyc st_B any0))))),?_⟩
  walk_at "v"
  refine r_I (mulOk za zd (by walk_at "o")) ?_
  walk_at "v"
  refine r_I (mulOk zb zc (by walk_at "o")) ?_
  walk_at "v"
  refine ⟨_,_,rfl,o1,(za.mul zd).mono hn,(zb.mul zc).mono hn,fun x t' b' H1 s1 e1 lo=>?_⟩
  exact k x H1 s1 ⟨t',b',e1,Fr.of_low lo o1 o2,(za.mul zd).of_le lo.tb,(zb.mul zc).of_le lo.bb⟩
theorem sc_loose_slope:FnScope ["one","other","rise","step"] ["one","other"] (defScope s_loose_slope):=⟨rfl,rfl,rfl,by decide +kernel,rfl,by decide +kernel,by decide +kernel⟩
theorem ok_loose_slope (F:Fun K "loose_slope" "loose_slope" s_loose_slope f fd) (D_loose_minus:Dn P w K mg base 1 "loose_minus" ["one","other"] (spTwo (·-·) 1)):FnOk P w K mg base CX0 3 f fd ["one","other"] spLslope:=by
  refine F.ok sc_loose_slope (fun vs H Q E h=>?_) (fun cdv A outer s H vs Q E hr h=>?_)
  · obtain ⟨p,r,t,t',q,q',n,rfl,_⟩:=h
    rfl
  obtain ⟨p,r,t,t',q,q',n,rfl,⟨v,hp,hv,zt⟩,⟨v',hr',hv',zt'⟩,ht,hn,k⟩:=h
  refine J.l ⟨_,(J.e (J.i (i:=2) sc_loose_slope.nd rfl (Or.inl rfl) (J.j D_loose_minus (hr.mono (by decide)) rfl (J.b (J.f (ixT K) (J.a 1) J.c (fun _ _=>rfl)) (J.b (J.f (ixT K) (J.a 0) J.c (fun _ _=>rfl)) J.d st_S) st_S) (he:=st_S) (hpl:=(anyc st_S any0))) (hs:=sw_K))
      (J.e (J.i (i:=3) sc_loose_slope.nd rfl (Or.inl rfl) (J.h op_sub (J.f (ixT K) (J.a 1) J.c (fun _ _=>rfl)) (J.f (ixT K) (J.a 0) J.c (fun _ _=>rfl))) (hs:=sw_B))
      (J.e (J.o (J.n op_lt (J.a 3) J.c (nomark _))
      (J.g (J.k (J.m (J.b (J.z un_neg (J.f (ixT K) (J.a 2) J.c (fun _ _=>rfl))) (J.b (J.h op_mulB (J.f (ixT K) (J.a 2) J.c (fun _ _=>rfl)) (J.z un_neg (J.a 3))) J.d st_B) st_U))))
      J.s)
      (J.g (J.k (J.m (J.b (J.f (ixT K) (J.a 2) J.c (fun _ _=>rfl)) (J.b (J.h op_mulB (J.f (ixT K) (J.a 2) J.c (fun _ _=>rfl)) (J.a 3)) J.d st_B) st_S))))))),?_⟩
  walk_at "v"
  refine ⟨v',v,q',q,n,n,rfl,hv'.qt,hv.qt,by walk_at "o",fun x H1 s1 e1=>?_⟩
  obtain ⟨a,b,hx,hq,za,zb⟩:=e1
  have hp1:=s1 _ _ hp
  have hr1:=s1 _ _ hr'
  have zs:Sz (n+1) (t'-t):=zt'.sub zt
  walk_at "v"
  refine ite2 (fun c=>?_) (fun c=>?_)
  · have c':t'-t<0:=of_decide_eq_true c
    walk_at "v"
    refine r_I (mulOk zb zs.neg (by walk_at "o")) ?_
    walk_at "v"
    refine r_new (mk:=.tup) (by simp) fun y H2 s2 n2 e2=>?_
    exact k y H2 (s1.trans s2) ⟨_,_,e2,hq.divN c',za.neg.mono (by walk_at "o"),(zb.mul zs.neg).mono (by walk_at "o")⟩
  · have c':¬t'-t<0:=of_decide_eq_false (Bool.eq_false_iff.mpr c)
    walk_at "v"
    refine r_I (mulOk zb zs (by walk_at "o")) ?_
    walk_at "v"
    refine r_new (mk:=.tup) (by simp) fun y H2 s2 n2 e2=>?_
    exact k y H2 (s1.trans s2) ⟨_,_,e2,hq.div (by walk_at "o"),za.mono (by walk_at "o"),(zb.mul zs).mono (by walk_at "o")⟩
theorem sc_loose_along:FnScope ["steep","sample","moment"] ["steep","sample","moment"] (defScope s_loose_along):=⟨rfl,rfl,rfl,by decide +kernel,rfl,by decide +kernel,by decide +kernel⟩
theorem ok_loose_along (F:Fun K "loose_along" "loose_along" s_loose_along f fd) (D_loose_plus:Dn P w K mg base 1 "loose_plus" ["one","other"] (spTwo (·+·) 1)) (D_loose_times:Dn P w K mg base 1 "loose_times" ["one","other"] (spTwo (·*·) 0)) :
    FnOk P w K mg base CX0 3 f fd ["steep","sample","moment"] spLalong:=by
  refine F.ok sc_loose_along (fun vs H Q E h=>?_) (fun cdv A outer s H vs Q E hr h=>?_)
  · obtain ⟨p,r,s',q,t,u,m,n,rfl,_⟩:=h
    rfl
  obtain ⟨p,r,s',q,t,u,m,n,rfl,hp,⟨v,hr',hv,zt⟩,zu,hm,hn,k⟩:=h
  refine J.l ⟨_,(J.g (J.k (J.j D_loose_plus (hr.mono (by decide)) rfl (J.b (J.f (ixT K) (J.a 1) J.c (fun _ _=>rfl)) (J.b (J.j D_loose_times (hr.mono (by decide)) rfl (J.b (J.a 0) (J.b (J.m (J.b (J.h op_sub (J.a 2) (J.f (ixT K) (J.a 1) J.c (fun _ _=>rfl))) (J.b J.c J.d st_C) st_B)) J.d st_T) st_N) (he:=st_N) (hpl:=(anyc st_T any0))) J.d st_K) st_S) (he:=st_S) (hpl:=(anyc st_K any0))))),?_⟩
  walk_at "v"
  refine r_new (mk:=.tup) (by simp) fun y H1 s1 n1 e1=>?_
  refine ⟨p,y,s',_,m,n+1,rfl,hp.up s1,whole_at e1 (zu.sub zt) (by walk_at "o"),by walk_at "o",fun x H2 s2 e2=>?_⟩
  walk_at "v"
  refine ⟨v,x,q,_,n,_,rfl,(hv.up (s1.trans s2)).qt,e2,by walk_at "o",fun z H3 s3 e3=>?_⟩
  exact k z H3 (s1.trans (s2.trans s3)) (e3.mono (by walk_at "o"))
theorem sc_loose_height:FnScope ["line","when"] ["line","when"] (defScope s_loose_height):=⟨rfl,rfl,rfl,by decide +kernel,rfl,by decide +kernel,by decide +kernel⟩
theorem ok_loose_height (F:Fun K "loose_height" "loose_height" s_loose_height f fd) (D_loose_plus:Dn P w K mg base 1 "loose_plus" ["one","other"] (spTwo (·+·) 1)) (D_loose_times:Dn P w K mg base 1 "loose_times" ["one","other"] (spTwo (·*·) 0)) :
    FnOk P w K mg base CX0 3 f fd ["line","when"] spLheight:=by
  refine F.ok sc_loose_height (fun vs H Q E h=>?_) (fun cdv A outer s H vs Q E hr h=>?_)
  · obtain ⟨p,r,s',h',x,m,n,rfl,_⟩:=h
    rfl
  obtain ⟨p,r,s',h',x,m,n,rfl,⟨a,b,hp,ha,hb⟩,hx,hm,hn,k⟩:=h
  refine J.l ⟨_,(J.g (J.k (J.j D_loose_plus (hr.mono (by decide)) rfl (J.b (J.j D_loose_times (hr.mono (by decide)) rfl (J.b (J.f (ixT K) (J.a 0) J.c (fun _ _=>rfl)) (J.b (J.a 1) J.d st_N) st_S) (he:=st_S) (hpl:=(anyc st_N any0))) (J.b (J.f (ixT K) (J.a 0) J.c (fun _ _=>rfl)) J.d st_S) st_K) (he:=st_K) (hpl:=(anyc st_S any0))))),?_⟩
  walk_at "v"
  refine ⟨a,r,_,_,n,m,rfl,ha.qt,hx,by walk_at "o",fun y H1 s1 e1=>?_⟩
  have hp1:=s1 _ _ hp
  walk_at "v"
  refine ⟨y,b,_,_,_,n,rfl,e1,(hb.up s1).qt,by walk_at "o",fun z H2 s2 e2=>?_⟩
  exact k z H2 (s1.trans s2) (e2.mono (by walk_at "o"))
theorem sc_loose_off:FnScope ["line","sample"] ["line","sample"] (defScope s_loose_off):=⟨rfl,rfl,rfl,by decide +kernel,rfl,by decide +kernel,by decide +kernel⟩
theorem ok_loose_off (F:Fun K "loose_off" "loose_off" s_loose_off f fd) (D_loose_minus:Dn P w K mg base 1 "loose_minus" ["one","other"] (spTwo (·-·) 1)) (D_loose_height:Dn P w K mg base 3 "loose_height" ["line","when"] spLheight) :
    FnOk P w K mg base CX0 4 f fd ["line","sample"] spLoff:=by
  refine F.ok sc_loose_off (fun vs H Q E h=>?_) (fun cdv A outer s H vs Q E hr h=>?_)
  · obtain ⟨p,r,s',h',q,t,m,n,rfl,_⟩:=h
    rfl
  obtain ⟨p,r,s',h',q,t,m,n,rfl,hl,⟨v,hr',hv,zt⟩,h1,hm,hn,k⟩:=h
  refine J.l ⟨_,(J.g (J.k (J.j D_loose_minus (hr.mono (by decide)) rfl (J.b (J.f (ixT K) (J.a 1) J.c (fun _ _=>rfl)) (J.b (J.j D_loose_height (hr.mono (by decide)) rfl (J.b (J.a 0) (J.b (J.m (J.b (J.f (ixT K) (J.a 1) J.c (fun _ _=>rfl)) (J.b J.c J.d st_C) st_S)) J.d st_T) st_N) (he:=st_N) (hpl:=(anyc st_T any0))) J.d st_K) st_S) (he:=st_S) (hpl:=(anyc st_K any0))))),?_⟩
  walk_at "v"
  refine r_new (mk:=.tup) (by simp) fun y H1 s1 n1 e1=>?_
  refine ⟨p,y,s',h',_,m,n,rfl,hl.up s1,whole_at e1 zt h1,by walk_at "o",by walk_at "o",fun x H2 s2 e2=>?_⟩
  walk_at "v"
  refine ⟨v,x,q,_,m,_,rfl,(hv.up (s1.trans s2)).qt,e2,by walk_at "o",fun z H3 s3 e3=>?_⟩
  exact k z H3 (s1.trans (s2.trans s3)) (e3.mono (by walk_at "o"))
theorem sc_slope:FnScope ["one","other"] ["one","other"] (defScope s_slope):=⟨rfl,rfl,rfl,by decide +kernel,rfl,by decide +kernel,by decide +kernel⟩
theorem ok_slope (F:Fun K "slope" "slope" s_slope f fd) (D_loose_slope:Dn P w K mg base 3 "loose_slope" ["one","other"] spLslope) (D_reduced:Dn P w K mg base 4 "reduced" ["quotient"] spReduced):FnOk P w K mg base CX0 5 f fd ["one","other"] spSlope:=by
  refine F.ok sc_slope (fun vs H Q E h=>?_) (fun cdv A outer s H vs Q E hr h=>?_)
  · obtain ⟨p,r,t,t',q,q',n,rfl,_⟩:=h
    rfl
  obtain ⟨p,r,t,t',q,q',n,rfl,hp,hr',ht,hn,k⟩:=h
  refine J.l ⟨_,(J.g (J.k (J.j D_reduced (hr.mono (by decide)) rfl (J.b (J.j D_loose_slope (hr.mono (by decide)) rfl (J.b (J.a 0) (J.b (J.a 1) J.d st_N) st_N) (he:=st_N) (hpl:=(anyc st_N any0))) J.d st_K) (he:=st_K) (hpl:=any0)))),?_⟩
  walk_at "v"
  refine ⟨p,r,t,t',q,q',n,rfl,hp,hr',ht,by walk_at "o",fun x H1 s1 e1=>?_⟩
  walk_at "v"
  refine ⟨x,_,_,rfl,e1,by walk_at "o",fun y H2 s2 e2=>?_⟩
  exact k y H2 (s1.trans s2) e2
theorem sc_line_by:FnScope ["steep","sample"] ["steep","sample"] (defScope s_line_by):=⟨rfl,rfl,rfl,by decide +kernel,rfl,by decide +kernel,by decide +kernel⟩
theorem ok_line_by (F:Fun K "line_by" "line_by" s_line_by f fd) (D_loose_along:Dn P w K mg base 3 "loose_along" ["steep","sample","moment"] spLalong) (D_reduced:Dn P w K mg base 4 "reduced" ["quotient"] spReduced):FnOk P w K mg base CX0 5 f fd ["steep","sample"] spLineBy:=by
  refine F.ok sc_line_by (fun vs H Q E h=>?_) (fun cdv A outer s H vs Q E hr h=>?_)
  · obtain ⟨p,r,s',q,t,m,n,rfl,_⟩:=h
    rfl
  obtain ⟨p,r,s',q,t,m,n,rfl,hp,hr',h1,hn,k⟩:=h
  refine J.l ⟨_,(J.g (J.k (J.m (J.b (J.a 0) (J.b (J.j D_reduced (hr.mono (by decide)) rfl (J.b (J.j D_loose_along (hr.mono (by decide)) rfl (J.b (J.a 0) (J.b (J.a 1) (J.b J.c J.d st_C) st_N) st_N) (he:=st_N) (hpl:=(anyc st_N (anyc st_C any0)))) J.d st_K) (he:=st_K) (hpl:=any0)) J.d st_K) st_N)))),?_⟩
  walk_at "v"
  refine ⟨p,r,s',q,t,0,m,n,rfl,hp.qt,hr',Nat.two_pow_pos n,by walk_at "o",by walk_at "o",fun x H1 s1 e1=>?_⟩
  walk_at "v"
  refine ⟨x,_,_,rfl,e1,by walk_at "o",fun y H2 s2 e2=>?_⟩
  walk_at "v"
  refine r_new (mk:=.tup) (by simp) fun z H3 s3 n3 e3=>?_
  refine k z y H3 (s1.trans (s2.trans s3)) e3 ?_
  have e:q+s'*((0-t:Int):Rat)=q-s'*(t:Rat):=by
    simp only [Rat.intCast_sub]
    grind
  rw [e] at e2
  exact e2.up s3
theorem sc_height:FnScope ["line","when"] ["line","when"] (defScope s_height):=⟨rfl,rfl,rfl,by decide +kernel,rfl,by decide +kernel,by decide +kernel⟩
theorem ok_height (F:Fun K "height" "height" s_height f fd) (D_loose_height:Dn P w K mg base 3 "loose_height" ["line","when"] spLheight) (D_reduced:Dn P w K mg base 4 "reduced" ["quotient"] spReduced):FnOk P w K mg base CX0 5 f fd ["line","when"] spHeight:=by
  refine F.ok sc_height (fun vs H Q E h=>?_) (fun cdv A outer s H vs Q E hr h=>?_)
  · obtain ⟨p,r,s',h',x,m,n,rfl,_⟩:=h
    rfl
  obtain ⟨p,r,s',h',x,m,n,rfl,hl,hx,hn,k⟩:=h
  refine J.l ⟨_,(J.g (J.k (J.j D_reduced (hr.mono (by decide)) rfl (J.b (J.j D_loose_height (hr.mono (by decide)) rfl (J.b (J.a 0) (J.b (J.a 1) J.d st_N) st_N) (he:=st_N) (hpl:=(anyc st_N any0))) J.d st_K) (he:=st_K) (hpl:=any0)))),?_⟩
  walk_at "v"
  refine ⟨p,r,s',h',x,m,n,rfl,hl,hx,by walk_at "o",by walk_at "o",fun y H1 s1 e1=>?_⟩
  walk_at "v"
  refine ⟨y,_,_,rfl,e1,hn,fun z H2 s2 e2=>?_⟩
  exact k z H2 (s1.trans s2) e2
theorem sc_meet:FnScope ["line","other","when"] ["line","other"] (defScope s_meet):=⟨rfl,rfl,rfl,by decide +kernel,rfl,by decide +kernel,by decide +kernel⟩
theorem ok_meet (F:Fun K "meet" "meet" s_meet f fd) (D_over:Dn P w K mg base 4 "over" ["one","other"] spOver) (D_minus:Dn P w K mg base 5 "minus" ["one","other"] (spTwoF (·-·) 1)) (D_height:Dn P w K mg base 5 "height" ["line","when"] spHeight):FnOk P w K mg base CX0 6 f fd ["line","other"] spMeet:=by
  refine F.ok sc_meet (fun vs H Q E h=>?_) (fun cdv A outer s H vs Q E hr h=>?_)
  · obtain ⟨p,r,s',h',s2',h2',n,rfl,_⟩:=h
    rfl
  obtain ⟨p,r,sl,ht,sl',ht',n,rfl,hl,hl',h1,hn,k1,k2⟩:=h
  obtain ⟨a,b,hp,ha,hb⟩:=id hl
  obtain ⟨a',b',hp',ha',hb'⟩:=id hl'
  have hu64:=hr.units
  refine J.l ⟨_,(J.e (J.o (J.n (op_eqD hu64) (J.f (ixT K) (J.a 0) J.c (fun _ _=>rfl)) (J.f (ixT K) (J.a 1) J.c (fun _ _=>rfl)) (nomark _))
      (J.g (J.k J.v))
      J.s)
      (J.e (J.i (i:=2) sc_meet.nd rfl (Or.inl rfl) (J.j D_over (hr.mono (by decide)) rfl (J.b (J.j D_minus (hr.mono (by decide)) rfl (J.b (J.f (ixT K) (J.a 1) J.c (fun _ _=>rfl)) (J.b (J.f (ixT K) (J.a 0) J.c (fun _ _=>rfl)) J.d st_S) st_S) (he:=st_S) (hpl:=(anyc st_S any0))) (J.b (J.j D_minus (hr.mono (by decide)) rfl (J.b (J.f (ixT K) (J.a 0) J.c (fun _ _=>rfl)) (J.b (J.f (ixT K) (J.a 1) J.c (fun _ _=>rfl)) J.d st_S) st_S) (he:=st_S) (hpl:=(anyc st_S any0))) J.d st_K) st_K) (he:=st_K) (hpl:=(anyc st_K any0))) (hs:=sw_K))
      (J.g (J.k (J.m (J.b (J.a 2) (J.b (J.j D_height (hr.mono (by decide)) rfl (J.b (J.a 0) (J.b (J.a 2) J.d st_N) st_N) (he:=st_N) (hpl:=(anyc st_N any0))) J.d st_K) st_N)))))),?_⟩
  walk_at "v"
  obtain ⟨t1,d1,D1,F1⟩:=ha.den
  obtain ⟨t2,d2,D2,F2⟩:=ha'.den
  refine ⟨_,_,D1,D2,rfl,rfl,?_⟩
  rw [fr_eqv F1 F2]
  walk_at "v"
  refine ite2 (fun c=>?_) (fun c=>?_)
  · have c':=of_decide_eq_true c
    walk_at "v"
    exact k1 c' H (Same.refl _)
  · have c':=of_decide_eq_false (Bool.eq_false_iff.mpr c)
    walk_at "v"
    refine ⟨b',b,_,_,n,n,rfl,hb'.qt,hb.qt,by walk_at "o",fun x H1 s1 e1=>?_⟩
    have hp1:=s1 _ _ hp
    have hp1':=s1 _ _ hp'
    walk_at "v"
    refine ⟨a,a',_,_,n,n,rfl,(ha.up s1).qt,(ha'.up s1).qt,by walk_at "o",fun y H2 s2 e2=>?_⟩
    walk_at "v"
    refine ⟨x,y,_,_,_,_,rfl,(e1.up s2).qt,e2.qt,by walk_at "o",by grind,fun z H3 s3 e3=>?_⟩
    walk_at "v"
    refine ⟨p,z,_,_,_,_,n,rfl,hl.up (s1.trans (s2.trans s3)),e3.qt,by walk_at "o",fun v H4 s4 e4=>?_⟩
    walk_at "v"
    refine r_new (mk:=.tup) (by simp) fun g H5 s5 n5 e5=>?_
    exact k2 c' g z v H5 (s1.trans (s2.trans (s3.trans (s4.trans s5)))) e5 ((e3.up (s4.trans s5)).mono (by walk_at "o")) ((e4.up s5).mono (by walk_at "o"))
end

noncomputable def spOrderQ:Sp:=fun vs H Q _=>∃(p r:Addr) (q q':Rat) (m n:Nat),vs=[.ref p,.ref r]∧QtAt H p q m∧QtAt H r q' n∧m+n≤100000∧∀o:Int,(0<o↔q'<q)→(o<0↔q<q')→Q (.int o) H
noncomputable def spSizeQ:Sp:=fun vs H Q _=>∃(p:Addr) (q:Rat) (n:Nat),vs=[.ref p]∧QtAt H p q n∧∀(r:Addr) (H':Hp),Same H H'→QtAt H' r (rabs q) n→Q (.ref r) H'
noncomputable def spLstand:Sp:=fun vs H Q _=>∃(p1 p2 p3:Addr) (t1 t2 t3:Int) (q1 q2 q3:Rat) (n:Nat),vs=[.ref p1,.ref p2,.ref p3]∧SaAt H p1 t1 q1 n∧SaAt H p2 t2 q2 n∧SaAt H p3 t3 q3 n∧t1<t3∧n≤2000 ∧
  ∀(z:Addr) (H':Hp),Same H H'→QtAt H' z (q2-chord t1 q1 t2 t3 q3) (7*n+7)→Q (.ref z) H'
section
variable {P:Program} {w:World} {K:PySem.W.Frag} {mg:Str→Option Value} {base:Heap} {f:Addr} {fd:FuncData}
theorem sc_order:FnScope ["one","other","left","right"] ["one","other"] (defScope s_order):=⟨rfl,rfl,rfl,by decide +kernel,rfl,by decide +kernel,by decide +kernel⟩
theorem ok_order (F:Fun K "order" "order" s_order f fd):FnOk P w K mg base CX0 1 f fd ["one","other"] spOrderQ:=by
  refine F.ok sc_order (fun vs H Q E h=>?_) (fun cdv A outer s H vs Q E hr h=>?_)
  · obtain ⟨p,r,q,q',m,n,rfl,_⟩:=h
    rfl
  obtain ⟨p,r,q,q',m,n,rfl,⟨a,b,hp,hq,za,zb⟩,⟨c,d,hr',hq',zc,zd⟩,hn,k⟩:=h
  have l1:=hq.lt_iff hq'
  have l2:=hq'.lt_iff hq
  refine J.l ⟨_,(J.e (J.i (i:=2) sc_order.nd rfl (Or.inl rfl) (J.h op_mulB (J.f (ixT K) (J.a 0) J.c (fun _ _=>rfl)) (J.f (ixT K) (J.a 1) J.c (fun _ _=>rfl))) (hs:=sw_B))
      (J.e (J.i (i:=3) sc_order.nd rfl (Or.inl rfl) (J.h op_mulB (J.f (ixT K) (J.a 1) J.c (fun _ _=>rfl)) (J.f (ixT K) (J.a 0) J.c (fun _ _=>rfl))) (hs:=sw_B))
      (J.e (J.o (J.n op_lt (J.a 2) (J.a 3) (nomark _))
      (J.g (J.k (J.z un_neg J.c)))
      J.s)
      (J.e (J.o (J.n op_gt (J.a 2) (J.a 3) (nomark _))
      (J.g (J.k J.c))
      J.s)
      (J.g (J.k J.c)))))),?_⟩
  walk_at "v"
  refine r_I (mulOk za zd (by walk_at "o")) ?_
  walk_at "v"
  refine r_I (mulOk zc zb (by walk_at "o")) ?_
  walk_at "v"
  refine ite2 (fun c1=>?_) (fun c1=>?_)
  · have c':=of_decide_eq_true c1
    walk_at "v"
    have x1:=l1.mp c'
    exact k _ ⟨fun z=>absurd z (by decide),fun z=>by grind⟩ ⟨fun _=>x1,fun _=>by decide⟩
  · have c':=of_decide_eq_false (Bool.eq_false_iff.mpr c1)
    walk_at "v"
    refine ite2 (fun c2=>?_) (fun c2=>?_)
    · have c'':=of_decide_eq_true c2
      walk_at "v"
      have x1:=l2.mp c''
      exact k _ ⟨fun _=>x1,fun _=>by decide⟩ ⟨fun z=>absurd z (by decide),fun z=>by grind⟩
    · have c'':=of_decide_eq_false (Bool.eq_false_iff.mpr c2)
      walk_at "v"
      exact k _ ⟨fun z=>absurd z (by decide),fun z=>absurd (l2.mpr z) c''⟩ ⟨fun z=>absurd z (by decide),fun z=>absurd (l1.mpr z) c'⟩
theorem sc_size:FnScope ["one"] ["one"] (defScope s_size):=⟨rfl,rfl,rfl,by decide +kernel,rfl,by decide +kernel,by decide +kernel⟩
theorem ok_size (F:Fun K "size" "size" s_size f fd) (T:Txt mg):FnOk P w K mg base CX0 1 f fd ["one"] spSizeQ:=by
  refine F.ok sc_size (fun vs H Q E h=>?_) (fun cdv A outer s H vs Q E hr h=>?_)
  · obtain ⟨p,q,n,rfl,_⟩:=h
    rfl
  obtain ⟨p,q,n,rfl,⟨a,b,hp,hq,za,zb⟩,k⟩:=h
  refine J.l ⟨_,(J.g (J.k (J.m (J.b (J.r absC rfl T.abs_ PyProof.Rows.boot_abs (J.b (J.f (ixT K) (J.a 0) J.c (fun _ _=>rfl)) J.d st_S) (he:=st_S) (hpl:=any0)) (J.b (J.f (ixT K) (J.a 0) J.c (fun _ _=>rfl)) J.d st_S) st_K)))),?_⟩
  walk_at "v"
  rw [abs_cast]
  refine r_new (mk:=.tup) (by simp) fun p1 H1 s1 n1 e1=>?_
  exact k p1 H1 s1 ⟨_,_,e1,hq.abs,za.of_le (by walk_at "o"),zb⟩
theorem sc_loose_stand:FnScope ["one","mid","last"] ["one","mid","last"] (defScope s_loose_stand):=⟨rfl,rfl,rfl,by decide +kernel,rfl,by decide +kernel,by decide +kernel⟩
theorem ok_loose_stand (F:Fun K "loose_stand" "loose_stand" s_loose_stand f fd) (D_loose_minus:Dn P w K mg base 1 "loose_minus" ["one","other"] (spTwo (·-·) 1)) (D_loose_along:Dn P w K mg base 3 "loose_along" ["steep","sample","moment"] spLalong) (D_loose_slope:Dn P w K mg base 3 "loose_slope" ["one","other"] spLslope) :
    FnOk P w K mg base CX0 4 f fd ["one","mid","last"] spLstand:=by
  refine F.ok sc_loose_stand (fun vs H Q E h=>?_) (fun cdv A outer s H vs Q E hr h=>?_)
  · obtain ⟨p1,p2,p3,t1,t2,t3,q1,q2,q3,n,rfl,_⟩:=h
    rfl
  obtain ⟨p1,p2,p3,t1,t2,t3,q1,q2,q3,n,rfl,h1,h2,h3,ht,hn,k⟩:=h
  obtain ⟨v2,e2,f2,z2⟩:=id h2
  refine J.l ⟨_,(J.g (J.k (J.j D_loose_minus (hr.mono (by decide)) rfl (J.b (J.f (ixT K) (J.a 1) J.c (fun _ _=>rfl)) (J.b (J.j D_loose_along (hr.mono (by decide)) rfl (J.b (J.j D_loose_slope (hr.mono (by decide)) rfl (J.b (J.a 0) (J.b (J.a 2) J.d st_N) st_N) (he:=st_N) (hpl:=(anyc st_N any0))) (J.b (J.a 0) (J.b (J.f (ixT K) (J.a 1) J.c (fun _ _=>rfl)) J.d st_S) st_N) st_K) (he:=st_K) (hpl:=(anyc st_N (anyc st_S any0)))) J.d st_K) st_S) (he:=st_S) (hpl:=(anyc st_K any0))))),?_⟩
  walk_at "v"
  refine ⟨p1,p3,t1,t3,q1,q3,n,rfl,h1,h3,by walk_at "o",hn,fun x H1 s1 e1=>?_⟩
  have e21:=s1 _ _ e2
  walk_at "v"
  refine ⟨x,p1,_,q1,t1,t2,_,n,rfl,e1,h1.up s1,z2,by walk_at "o",by walk_at "o",fun y H2 s2 e22=>?_⟩
  walk_at "v"
  refine ⟨v2,y,q2,_,n,_,rfl,(f2.up (s1.trans s2)).qt,e22,by walk_at "o",fun z H3 s3 e3=>?_⟩
  refine k z H3 (s1.trans (s2.trans s3)) ?_
  have hne:(t1:Rat)≠(t3:Rat):=fun z=>by
    have:=Rat.intCast_inj.mp z
    walk_at "o"
  have e:q1+(q3-q1)/((t3-t1:Int):Rat)*((t2-t1:Int):Rat)=chord t1 q1 t2 t3 q3:=by
    rw [Rat.intCast_sub,Rat.intCast_sub]
    exact chord_along hne
  rw [e] at e3
  exact e3.mono (by walk_at "o")
end
noncomputable def spSizeF:Sp:=fun vs H Q _=>∃(p:Addr) (q:Rat) (n:Nat),vs=[.ref p]∧FrAt H p q n∧∀(r:Addr) (H':Hp),Same H H'→FrAt H' r (rabs q) n→Q (.ref r) H'
section
variable {P:Program} {w:World} {K:PySem.W.Frag} {mg:Str→Option Value} {base:Heap} {f:Addr} {fd:FuncData}
end

theorem pickP {zs:List Int} {i:Int} (P:Int→Prop) (hz:∀z∈zs,P z) (h0:0≤i) (h1:i<(zs.length:Int)):∃v:Int,atI (zs.map V.int) i=some (.int v)∧P v:=by
  have hk:i.toNat<zs.length:=by walk_at "o"
  exact ⟨zs[i.toNat],at_ints (List.getElem?_eq_getElem hk) (by walk_at "o"),hz _ (List.getElem_mem hk)⟩
theorem row_get {xs zs:List Int} (hlen:xs.length=zs.length) (hxs:∀(j:Nat) (x z:Int),xs[j]?=some x→zs[j]?=some z→0≤x∧x<z) (j:Nat) {z:Int} (ez:zs[j]?=some z):∃x,xs[j]?=some x∧0≤x∧x<z:=by
  have hj:=(List.getElem?_eq_some_iff.mp ez).1
  rw [← hlen] at hj
  exact ⟨xs[j],List.getElem?_eq_getElem hj,hxs j _ z (List.getElem?_eq_getElem hj) ez⟩
theorem of_low' {T B t b:Int} (h:Low T B t b) (hB:B≠0):Fr t b ((T:Rat)/(B:Rat)):=by
  refine Fr.of_low h hB ?_
  have:=cast_ne hB
  grind
theorem r_unpack2 {σ:St} {H:Hp} {K:PySem.W.Frag} {p:Addr} {x y:V} {i j:Nat} {R:St→Hp→Prop} (h:H p=some (.tup [x,y])) (q:R ((σ.set i (some x)).set j (some y)) H):gTup K 2 (gCons (gName i) (gCons (gName j) gNil)) (.ref p) σ H R:=
  ⟨p,_,rfl,SqT.of h,rfl,x,_,rfl,y,_,rfl,rfl,q⟩

noncomputable abbrev En:=Addr×Int×Option Rat
noncomputable def EnAt (H:Hp) (x:En) (n:Nat):Prop:=Sz n x.2.1∧match x.2.2 with
  | none=>H x.1=some (.tup [.int x.2.1,.non])
  | some q=>∃p,H x.1=some (.tup [.int x.2.1,.ref p])∧FrAt H p q n
theorem EnAt.up {H H':Hp} {x:En} {n:Nat} (f:EnAt H x n) (s:Same H H'):EnAt H' x n:=by
  obtain ⟨a,m,v⟩:=x
  cases v with
  | none=>exact ⟨f.1,s _ _ f.2⟩
  | some q=>exact ⟨f.1,let ⟨p,e,g⟩:=f.2;⟨p,s _ _ e,g.up s⟩⟩
theorem EnAt.rm {H:Hp} {D:Addr} {x:En} {n:Nat} {ys:List V} (hD:H D=some (.lst ys)) (f:EnAt H x n):EnAt (rm D H) x n:=by
  obtain ⟨a,m,v⟩:=x
  cases v with
  | none=>exact ⟨f.1,rm_tup hD f.2⟩
  | some q=>
    obtain ⟨z,p,e,t,b,et,g⟩:=f
    exact ⟨z,p,rm_tup hD e,t,b,rm_tup hD et,g⟩
theorem EnAt.obj {H:Hp} {x:En} {n:Nat} (f:EnAt H x n):∃v,H x.1=some (.tup [.int x.2.1,v])∧(decide (v=.non)=!x.2.2.isSome)∧(v=.non∨∃p q,v=.ref p∧x.2.2=some q∧FrAt H p q n):=by
  obtain ⟨a,m,v⟩:=x
  cases v with
  | none=>exact ⟨.non,f.2,rfl,.inl rfl⟩
  | some q=>
    obtain ⟨z,p,e,g⟩:=f
    exact ⟨.ref p,e,rfl,.inr ⟨p,q,rfl,rfl,g⟩⟩
noncomputable def Row (H:Hp) (es:List En) (n:Nat):Prop:=∀x∈es,EnAt H x n
theorem Row.up {H H':Hp} {es:List En} {n:Nat} (h:Row H es n) (s:Same H H'):Row H' es n:=fun x hx=>(h x hx).up s
theorem Row.rm {H:Hp} {D:Addr} {es:List En} {n:Nat} {ys:List V} (hD:H D=some (.lst ys)) (h:Row H es n):Row (rm D H) es n:=fun x hx=>(h x hx).rm hD
theorem Row.snoc {H:Hp} {es:List En} {x:En} {n:Nat} (h:Row H es n) (hx:EnAt H x n):Row H (es++[x]) n:=fun y hy=>by
  rcases List.mem_append.mp hy with z | z
  · exact h y z
  · obtain rfl:y=x:=by simpa using z
    exact hx
noncomputable def vals (es:List En):List V:=es.map fun x=>V.ref x.1
theorem vals_at {es:List En} {i:Nat} {v:V} (h:(vals es)[i]?=some v):∃x,es[i]?=some x∧v=.ref x.1:=by
  unfold vals at h
  rw [List.getElem?_map] at h
  cases e:es[i]? with
  | none=>rw [e] at h;cases h
  | some x=>rw [e] at h;cases h;exact ⟨x,rfl,rfl⟩
theorem vals_get {es:List En} {i:Nat} {x:En} (h:es[i]?=some x):(vals es)[i]?=some (.ref x.1):=by
  unfold vals
  rw [List.getElem?_map,h]
  rfl
theorem vals_len (es:List En):(vals es).length=es.length:=List.length_map ..
theorem vals_snoc (es:List En) (x:En):vals es++[.ref x.1]=vals (es++[x]):=by simp [vals]
theorem Row.app {H:Hp} {R:Addr} {es:List En} {n:Nat} {ys:List V} {o:HO} (f:Row H es n) (h:H R=some (.lst ys)):Row (upd H R o) es n:=(f.rm h).up (rm_up R H o)
theorem lst_app {H:Hp} {R L:Addr} {o o':HO} (h:H L=some o') (ne:L≠R):upd H R o L=some o':=by
  rw [upd_ne ne];exact h
noncomputable def rising (es:List En):Prop:=es.Pairwise fun a b=>a.2.1<b.2.1
theorem frac_gen {T B:Int} {n:Nat} {H:Hp} {Q:VK} (hB:0<B) (zT:Sz n T) (zB:Sz n B) (hn:n≤8000) (kk:∀(p:Addr) (H':Hp),Same H H'→FrAt H' p ((T:Rat)/(B:Rat)) n→Q (.ref p) H'):spRatio ([.int T,.int B]++[]) H Q E0:=
  ⟨_,_,rfl,hB,zB.mono hn,fun p t b H' s e lo=>kk p H' s ⟨t,b,e,of_low' lo (by walk_at "o"),zT.of_le lo.tb,zB.of_le lo.bb⟩⟩
section
variable {P:Program} {w:World} {K:PySem.W.Frag} {mg:Str→Option Value} {base:Heap} {f:Addr} {fd:FuncData}
end

noncomputable def smp (x:En):Bool:=x.2.2.isSome
noncomputable abbrev Ls:=List (Addr×List En)
noncomputable def lrefs (ls:Ls):List V:=ls.map fun x=>V.ref x.1
theorem lrefs_at {ls:Ls} {i:Nat} {v:V} (h:(lrefs ls)[i]?=some v):∃x,ls[i]?=some x∧v=.ref x.1:=by
  unfold lrefs at h
  rw [List.getElem?_map] at h
  cases e:ls[i]? with
  | none=>rw [e] at h;cases h
  | some x=>rw [e] at h;cases h;exact ⟨x,rfl,rfl⟩
theorem lrefs_len (ls:Ls):(lrefs ls).length=ls.length:=List.length_map ..
structure LL (H H2:Hp) (T:Addr) (ls:Ls):Prop where
  new:H T=none
  at_:H2 T=some (.lst (lrefs ls))
  each:∀x∈ls,H x.1=none∧H2 x.1=some (.lst (vals x.2))∧x.1≠T
  nd:(ls.map (·.1)).Nodup
section
variable {H H2 H3:Hp} {T R:Addr} {ls:Ls} {o:HO} {rn:List En}
theorem LL.up (h:LL H H2 T ls) (s:Same H2 H3):LL H H3 T ls:=⟨h.new,s _ _ h.at_,fun x hx=>let ⟨a,b,c⟩:=h.each x hx;⟨a,s _ _ b,c⟩,h.nd⟩
theorem LL.other (h:LL H H2 T ls) (hT:R≠T) (hl:∀x∈ls,x.1≠R):LL H (upd H2 R o) T ls:=
  ⟨h.new,by rw [upd_ne (Ne.symm hT)];exact h.at_,fun x hx=>let ⟨a,b,c⟩:=h.each x hx;⟨a,by rw [upd_ne (hl x hx)];exact b,c⟩,h.nd⟩
theorem LL.push (h:LL H H2 T ls) (hR:H R=none) (eR:H2 R=some (.lst (vals rn))) (hT:R≠T) (hl:∀x∈ls,x.1≠R):LL H (upd H2 T (.lst (lrefs ls++[.ref R]))) T (ls++[(R,rn)]):=by
  refine ⟨h.new,by rw [upd_same];simp [lrefs],fun x hx=>?_,?_⟩
  · rcases List.mem_append.mp hx with z | z
    · obtain ⟨a,b,c⟩:=h.each x z
      exact ⟨a,by rw [upd_ne c];exact b,c⟩
    · obtain rfl:x=(R,rn):=by simpa using z
      exact ⟨hR,by rw [upd_ne hT];exact eR,hT⟩
  · rw [List.map_append]
    refine List.nodup_append.mpr ⟨h.nd,by simp,fun a ha b hb=>?_⟩
    obtain ⟨x,hx,rfl⟩:=List.mem_map.mp ha
    obtain rfl:b=R:=by simpa using hb
    exact hl x hx
end
theorem at_last {α:Type} {xs:List α} {x:α}:atI (xs++[x]) (-1)=some x:=by
  unfold atI
  rw [ix_last (m:=xs.length) (by simp)]
  simp
noncomputable def spRuns:Sp:=fun vs H Q _=>∃(l:Addr) (es:List En) (n:Nat),vs=[.ref l]∧H l=some (.lst (vals es))∧Row H es n∧es.length≤40 ∧
  ∀(T:Addr) (ls:Ls) (H':Hp),Same H H'→LL H H' T ls→ls.map (·.2)=parts smp es es.length→ls.length≤40→(∀x∈ls,x.2.length≤40)→Q (.ref T) H'
section
variable {P:Program} {w:World} {K:PySem.W.Frag} {mg:Str→Option Value} {base:Heap} {f:Addr} {fd:FuncData}
theorem sc_runs:FnScope ["row","told","run","entry"] ["row"] (defScope s_runs):=⟨rfl,rfl,rfl,by decide +kernel,rfl,by decide +kernel,by decide +kernel⟩
theorem ok_runs (F:Fun K "runs" "runs" s_runs f fd) (T:Txt mg):FnOk P w K mg base CX0 1 f fd ["row"] spRuns:=by
  refine F.ok sc_runs (fun vs H Q E h=>?_) (fun cdv A outer s H vs Q E hr h=>?_)
  · obtain ⟨l,es,n,rfl,_⟩:=h
    rfl
  obtain ⟨l,es,n,rfl,hl,hes,hn,k⟩:=h
  refine J.l ⟨_,(J.e (J.i (i:=1) sc_runs.nd rfl (Or.inl rfl) (J.t J.d) (hs:=sw_L))
      (J.e (J.i (i:=2) sc_runs.nd rfl (Or.inl rfl) (J.t J.d) (hs:=sw_L))
      (J.e (J.ab PassesOwn.never rfl (J.x K (J.a 0)) (J.q (i:=3) sc_runs.nd rfl (Or.inl rfl))
      (J.g (J.o (J.n op_notN (J.f (ixT K) (J.a 3) J.c (fun _ _=>rfl)) J.v (nomark _))
      (J.g (J.u (J.w K (J.a 2) (J.a 3)) (hs:=sw_K)))
      (J.g (J.o (J.n op_gt (J.r (lenC K) rfl T.len_ PySem.boot_len (J.b (J.a 2) J.d st_N) (he:=st_N) (hpl:=any0)) J.c (nomark _))
      (J.e (J.u (J.w K (J.a 1) (J.a 2)) (hs:=sw_K))
      (J.g (J.i (i:=2) sc_runs.nd rfl (Or.inl rfl) (J.t J.d) (hs:=sw_L))))
      J.s)))))
      (J.e (J.o (J.n op_gt (J.r (lenC K) rfl T.len_ PySem.boot_len (J.b (J.a 2) J.d st_N) (he:=st_N) (hpl:=any0)) J.c (nomark _))
      (J.g (J.u (J.w K (J.a 1) (J.a 2)) (hs:=sw_K)))
      J.s)
      (J.g (J.k (J.a 1))))))),?_⟩
  walk_at "v"
  refine r_new (mk:=.lst) (by simp) fun TT H1 s1 n1 e1=>?_
  walk_at "v"
  refine r_new (mk:=.lst) (by simp) fun R0 H2 s2 n2 e2=>?_
  walk_at "v"
  refine r_for (r_iL ?_)
  walk_at "v"
  have s02:=s1.trans s2
  refine ⟨l,rfl,⟨_,SqL.of (s02 _ _ hl)⟩,for_list (xs:=vals es) (fun i σ H3=>∃(R:Addr) (ls:Ls) (rn:List En) (v:Option V),σ=[some (.ref l),some (.ref TT),some (.ref R),v]∧Same H H3∧LL H H3 TT ls∧H R=none∧H3 R=some (.lst (vals rn))∧R≠TT∧(∀x∈ls,x.1≠R) ∧
    (inRun smp es i=true→parts smp es i=ls.map (·.2)++[rn]∧rn≠[])∧(inRun smp es i=false→parts smp es i=ls.map (·.2)∧rn=[])∧rn.length≤i∧ls.length≤i∧(∀x∈ls,x.2.length≤40)) ?_ ?_ ?_ ?_⟩
  · refine ⟨R0,[],[],none,rfl,s02,⟨n1,s2 _ _ e1,fun x hx=>absurd hx (by simp),List.nodup_nil⟩,s1.free n2,e2,fun z=>?_,fun x hx=>absurd hx (by simp),fun z=>absurd z (by simp [inRun]),fun _=>⟨rfl,rfl⟩,Nat.le_refl _,Nat.le_refl _,fun x hx=>absurd hx (by simp)⟩
    rw [z] at n2
    rw [e1] at n2
    cases n2
  · rintro i σ H3 _ ⟨R,ls,rn,v,rfl,s3,_⟩
    exact SqL.of (s3 _ _ hl)
  · rintro i x σ H3 hx ⟨R,ls,rn,v,rfl,s3,hL,hR,eR,nR,hne,hp1,hp2,lr,ll,lx⟩
    obtain ⟨e,he,rfl⟩:=vals_at hx
    have hi:i<es.length:=(List.getElem?_eq_some_iff.mp he).1
    obtain ⟨u,ee,du,_⟩:=((hes e (List.mem_of_getElem? he)).up s3).obj
    have hsu:inRun smp es (i+1)=smp e:=inRun_succ he
    walk_at "v"
    refine ⟨rfl,?_⟩
    walk_at "v"
    rw [du]
    cases hs:e.2.2.isSome with
    | true=>
      have hs':smp e=true:=hs
      refine iteT ?_
      walk_at "v"
      refine ⟨.inl ⟨rfl,_,SqL.of eR⟩,?_⟩
      walk_at "v"
      refine r_app eR (by rw [vals_len];exact small1000 (by walk_at "o")) ?_
      refine ⟨R,ls,rn++[e],_,rfl,same_at s3 hR,hL.other nR (fun x hx=>hne x hx),hR,by rw [upd_same,vals_snoc],nR,hne,fun _=>?_,fun z=>absurd (hsu.symm.trans z) (by rw [hs'];decide),by rw [List.length_append];exact Nat.succ_le_succ lr,by walk_at "o",lx⟩
      refine ⟨?_,by simp⟩
      cases hir:inRun smp es i with
      | true=>exact parts_on he hs' hir (hp1 hir).1
      | false=>
        obtain ⟨a,rfl⟩:=hp2 hir
        rw [parts_new he hs' hir,a]
        rfl
    | false=>
      have hs':smp e=false:=hs
      refine iteF ?_
      walk_at "v"
      refine r_len (.inl (SqL.of eR)) ?_
      walk_at "v"
      refine ite2 (fun c=>?_) (fun c=>?_)
      · have c':=of_decide_eq_true c
        rw [vals_len] at c'
        have hir:inRun smp es i=true:=by
          cases hir:inRun smp es i with
          | true=>rfl
          | false=>
            obtain ⟨_,rfl⟩:=hp2 hir
            simp at c'
        walk_at "v"
        refine ⟨.inl ⟨rfl,_,SqL.of hL.at_⟩,?_⟩
        walk_at "v"
        refine r_app hL.at_ (by rw [lrefs_len];exact small1000 (by walk_at "o")) ?_
        walk_at "v"
        have hL2:=hL.push hR eR nR hne
        refine r_new (mk:=.lst) (by simp) fun R2 H4 s4 n4 e4=>?_
        have sH:Same H H4:=(same_at s3 hL.new).trans s4
        walk_at "v"
        refine ⟨R2,ls++[(R,rn)],[],_,rfl,sH,hL2.up s4,(same_at s3 hL.new).free n4,e4,fun z=>?_,fun x hx z=>?_,fun z=>absurd (hsu.symm.trans z) (by rw [hs'];decide),fun _=>⟨?_,rfl⟩,Nat.zero_le _,by rw [List.length_append];exact Nat.succ_le_succ ll,fun x hx=>?_⟩
        · rw [z,hL2.at_] at n4
          cases n4
        · rw [← z,(hL2.each x hx).2.1] at n4
          cases n4
        · rw [parts_gap he hs',(hp1 hir).1,List.map_append]
          rfl
        · rcases List.mem_append.mp hx with z | z
          · exact lx x z
          · obtain rfl:x=(R,rn):=by simpa using z
            show rn.length≤40
            walk_at "o"
      · have c':=of_decide_eq_false (Bool.eq_false_iff.mpr c)
        rw [vals_len] at c'
        have hir:inRun smp es i=false:=by
          cases hir:inRun smp es i with
          | false=>rfl
          | true=>
            have:=List.length_pos_iff.mpr (hp1 hir).2
            walk_at "o"
        obtain ⟨a,rfl⟩:=hp2 hir
        walk_at "v"
        exact ⟨R,ls,[],_,rfl,s3,hL,hR,eR,nR,hne,fun z=>absurd (hsu.symm.trans z) (by rw [hs'];decide),fun _=>⟨by rw [parts_gap he hs',a],rfl⟩,Nat.zero_le _,by walk_at "o",lx⟩
  · rintro σ H3 ⟨R,ls,rn,v,rfl,s3,hL,hR,eR,nR,hne,hp1,hp2,lr,ll,lx⟩
    rw [vals_len] at hp1 hp2 lr ll
    walk_at "v"
    refine r_len (.inl (SqL.of eR)) ?_
    walk_at "v"
    refine ite2 (fun c=>?_) (fun c=>?_)
    · have c':=of_decide_eq_true c
      rw [vals_len] at c'
      have hir:inRun smp es es.length=true:=by
        cases hir:inRun smp es es.length with
        | true=>rfl
        | false=>
          obtain ⟨_,rfl⟩:=hp2 hir
          simp at c'
      have hlen:(ls++[(R,rn)]).length≤40:=by
        have e:=parts_len (s:=smp) (es:=es) es.length
        rw [(hp1 hir).1,List.length_append,List.length_map] at e
        rw [List.length_append]
        simp at e ⊢
        walk_at "o"
      walk_at "v"
      refine ⟨.inl ⟨rfl,_,SqL.of hL.at_⟩,?_⟩
      walk_at "v"
      refine r_app hL.at_ (by rw [lrefs_len];exact small1000 (by walk_at "o")) ?_
      walk_at "v"
      refine k TT (ls++[(R,rn)]) _ (same_at s3 hL.new) (hL.push hR eR nR hne) ?_ hlen fun x hx=>?_
      · rw [(hp1 hir).1,List.map_append]
        rfl
      · rcases List.mem_append.mp hx with z | z
        · exact lx x z
        · obtain rfl:x=(R,rn):=by simpa using z
          show rn.length≤40
          walk_at "o"
    · have c':=of_decide_eq_false (Bool.eq_false_iff.mpr c)
      rw [vals_len] at c'
      have hir:inRun smp es es.length=false:=by
        cases hir:inRun smp es es.length with
        | false=>rfl
        | true=>
          have:=List.length_pos_iff.mpr (hp1 hir).2
          walk_at "o"
      walk_at "v"
      exact k TT ls H3 s3 hL (hp2 hir).1.symm (by walk_at "o") lx
end

noncomputable abbrev Nn:=Addr×Int×Option Int
noncomputable def nnv:Option Int→V
  | none=>.non
  | some n=>.int n
noncomputable def NnAt (H:Hp) (x:Nn) (m n:Nat):Prop:=H x.1=some (.tup [.int x.2.1,nnv x.2.2])∧Sz m x.2.1∧∀z,x.2.2=some z→Sz n z
theorem NnAt.up {H H':Hp} {x:Nn} {m n:Nat} (f:NnAt H x m n) (s:Same H H'):NnAt H' x m n:=⟨s _ _ f.1,f.2⟩
theorem NnAt.rm {H:Hp} {D:Addr} {x:Nn} {m n:Nat} {ys:List V} (hD:H D=some (.lst ys)) (f:NnAt H x m n):NnAt (rm D H) x m n:=⟨rm_tup hD f.1,f.2⟩
noncomputable def NRow (H:Hp) (es:List Nn) (m n:Nat):Prop:=∀x∈es,NnAt H x m n
theorem NRow.up {H H':Hp} {es:List Nn} {m n:Nat} (h:NRow H es m n) (s:Same H H'):NRow H' es m n:=fun x hx=>(h x hx).up s
theorem NRow.app {H:Hp} {R:Addr} {es:List Nn} {m n:Nat} {ys:List V} {o:HO} (f:NRow H es m n) (h:H R=some (.lst ys)):NRow (upd H R o) es m n:=fun x hx=>((f x hx).rm h).up (rm_up R H o)
theorem NRow.snoc {H:Hp} {es:List Nn} {x:Nn} {m n:Nat} (h:NRow H es m n) (hx:NnAt H x m n):NRow H (es++[x]) m n:=fun y hy=>by
  rcases List.mem_append.mp hy with z | z
  · exact h y z
  · obtain rfl:y=x:=by simpa using z
    exact hx
noncomputable def nvals (es:List Nn):List V:=es.map fun x=>V.ref x.1
theorem nvals_len (es:List Nn):(nvals es).length=es.length:=List.length_map ..
theorem nvals_snoc (es:List Nn) (x:Nn):nvals es++[.ref x.1]=nvals (es++[x]):=by simp [nvals]
theorem nvals_at {es:List Nn} {i:Nat} {v:V} (h:(nvals es)[i]?=some v):∃x,es[i]?=some x∧v=.ref x.1:=by
  unfold nvals at h
  rw [List.getElem?_map] at h
  cases e:es[i]? with
  | none=>rw [e] at h;cases h
  | some x=>rw [e] at h;cases h;exact ⟨x,rfl,rfl⟩
noncomputable def nrising (es:List Nn):Prop:=es.Pairwise fun a b=>a.2.1<b.2.1
structure Shp (xs:List Int) (c:Nat):Prop where
  x0:xs[0]?=some (c:Int)
  x1:∃x,xs[1]?=some x∧0≤x∧x<4
  x4:∃x,xs[4]?=some x∧0≤x∧x<3
  x5:∃x,xs[5]?=some x∧0≤x∧x<4
  x12:∃x,xs[12]?=some x∧0≤x∧x<3
  each:∀k,k<c→∃x y z,xs[3*k+13]?=some x∧xs[3*k+14]?=some y∧xs[3*k+15]?=some z∧0≤x∧x<3∧0≤y∧y<9∧0≤z∧z<25
noncomputable def spShaped:Sp:=fun vs H Q _=>∃(lw tl:Addr) (xs:List Int) (c:Nat) (sc t0 t1:Int),vs=[.ref lw,.int sc,.ref tl]∧H lw=some (.lst (xs.map V.int))∧Shp xs c∧c≤40∧H tl=some (.tup [.int t0,.int t1])∧Sz 45 sc∧Sz 45 t0∧Sz 45 t1 ∧
  ∀(R:Addr) (es:List Nn) (H':Hp),Same H H'→H R=none→H' R=some (.lst (nvals es))→NRow H' es 45 100→es.length=c→nrising es→Q (.ref R) H'
section
variable {P:Program} {w:World} {K:PySem.W.Frag} {mg:Str→Option Value} {base:Heap} {f:Addr} {fd:FuncData}
theorem sc_law_shaped:FnScope ["_law_some","_law_scale","_law_tilt","_law_moment","_law_up","_law_rise","_law_row_here","_law_k","_law_at","_law_high","_law_lean"] ["_law_some","_law_scale","_law_tilt"] (defScope s_law_shaped):=⟨rfl,rfl,rfl,by decide +kernel,rfl,by decide +kernel,by decide +kernel⟩
theorem ok_law_shaped (F:Fun K "_law_shaped" "_law_shaped" s_law_shaped f fd) (T:Txt mg):FnOk P w K mg base CX0 1 f fd ["_law_some","_law_scale","_law_tilt"] spShaped:=by
  refine F.ok sc_law_shaped (fun vs H Q E h=>?_) (fun cdv A outer s H vs Q E hr h=>?_)
  · obtain ⟨lw,tl,xs,c,sc,t0,t1,rfl,_⟩:=h
    rfl
  obtain ⟨lw,tl,xs,c,sc,t0,t1,rfl,e0,S,hc,et,zsc,zt0,zt1,k⟩:=h
  obtain ⟨x1,g1,a1,b1⟩:=S.x1
  obtain ⟨x4,g4,a4,b4⟩:=S.x4
  obtain ⟨x5,g5,a5,b5⟩:=S.x5
  obtain ⟨x12,g12,a12,b12⟩:=S.x12
  have w:∀{H':Hp},Same H H'→H' lw=some (.lst (xs.map V.int)):=fun s=>s _ _ e0
  refine J.l ⟨_,(J.e (J.i (i:=3) sc_law_shaped.nd rfl (Or.inl rfl) (J.f (ixL K) (J.t (J.b (J.z un_neg J.c) (J.b (J.z un_neg J.c) (J.b J.c (J.b (J.z un_neg (J.h op_pow J.c J.c)) J.d st_U) st_C) st_U) st_U)) (J.f (ixL K) (J.a 0) J.c (fun _ _=>rfl)) (fun _ _=>rfl)) (hs:=sw_S))
      (J.e (J.i (i:=4) sc_law_shaped.nd rfl (Or.inl rfl) J.c (hs:=sw_C))
      (J.e (J.i (i:=5) sc_law_shaped.nd rfl (Or.inl rfl) J.c (hs:=sw_C))
      (J.e (J.i (i:=6) sc_law_shaped.nd rfl (Or.inl rfl) (J.t J.d) (hs:=sw_L))
      (J.e (J.ab PassesOwn.never rfl (Jd.pi_range1 rfl T.range (J.b (J.f (ixL K) (J.a 0) J.c (fun _ _=>rfl)) J.d st_S)) (J.q (i:=7) sc_law_shaped.nd rfl (Or.inl rfl))
      (J.e (J.i (i:=8) sc_law_shaped.nd rfl (Or.inl rfl) (J.h op_add (J.h op_mulB J.c (J.a 7)) J.c) (hs:=sw_B))
      (J.e (J.i (i:=3) sc_law_shaped.nd rfl (Or.inl rfl) (J.h op_add (J.h op_add (J.a 3) J.c) (J.h op_mulB (J.f (ixL K) (J.a 0) (J.a 8) (fun _ _=>rfl)) (J.f (ixL K) (J.t (J.b J.c (J.b J.c (J.b J.c J.d st_C) st_C) st_C)) (J.f (ixL K) (J.a 0) J.c (fun _ _=>rfl)) (fun _ _=>rfl)))) (hs:=sw_B))
      (J.e (J.i (i:=9) sc_law_shaped.nd rfl (Or.inl rfl) (J.h op_sub (J.f (ixL K) (J.a 0) (J.h op_add (J.a 8) J.c) (fun _ _=>rfl)) J.c) (hs:=sw_B))
      (J.e (J.o (J.n op_eq (J.f (ixL K) (J.a 0) J.c (fun _ _=>rfl)) J.c (nomark _))
      (J.g (J.i (i:=4) sc_law_shaped.nd rfl (Or.inl rfl) (J.a 9) (hs:=sw_N)))
      J.s)
      (J.e (J.o (J.n op_eq (J.f (ixL K) (J.a 0) J.c (fun _ _=>rfl)) J.c (nomark _))
      (J.e (J.i (i:=5) sc_law_shaped.nd rfl (Or.inl rfl) (J.h op_sub (J.h op_add (J.a 5) (J.h op_mod (J.a 9) J.c)) J.c) (hs:=sw_B))
      (J.g (J.i (i:=4) sc_law_shaped.nd rfl (Or.inl rfl) (J.h op_add (J.a 4) (J.a 5)) (hs:=sw_B))))
      J.s)
      (J.e (J.o (J.n op_eq (J.f (ixL K) (J.a 0) J.c (fun _ _=>rfl)) J.c (nomark _))
      (J.g (J.i (i:=4) sc_law_shaped.nd rfl (Or.inl rfl) (J.h op_add (J.a 4) (J.a 9)) (hs:=sw_B)))
      J.s)
      (J.e (J.o (J.n op_eq (J.f (ixL K) (J.a 0) J.c (fun _ _=>rfl)) J.c (nomark _))
      (J.g (J.i (i:=4) sc_law_shaped.nd rfl (Or.inl rfl) (J.h op_mod (J.a 9) J.c) (hs:=sw_B)))
      J.s)
      (J.g (J.o (J.n op_lt (J.f (ixL K) (J.a 0) (J.h op_add (J.a 8) J.c) (fun _ _=>rfl)) (J.f (ixL K) (J.t (J.b J.c (J.b J.c (J.b J.c J.d st_C) st_C) st_C)) (J.f (ixL K) (J.a 0) J.c (fun _ _=>rfl)) (fun _ _=>rfl)) (nomark _))
      (J.g (J.u (J.w K (J.a 6) (J.m (J.b (J.a 3) (J.b J.v J.d st_C) st_N))) (hs:=sw_K)))
      (J.e (J.i (i:=10) sc_law_shaped.nd rfl (Or.inl rfl) (J.h op_add (J.h op_mulB (J.f (ixT K) (J.a 2) J.c (fun _ _=>rfl)) (J.a 3)) (J.f (ixT K) (J.a 2) J.c (fun _ _=>rfl))) (hs:=sw_B))
      (J.g (J.u (J.w K (J.a 6) (J.m (J.b (J.a 3) (J.b (J.h op_add (J.h op_mulB (J.a 4) (J.a 1)) (J.a 10)) J.d st_B) st_N))) (hs:=sw_K))))))))))))))
      (J.g (J.k (J.a 6)))))))),?_⟩
  walk_at "v"
  refine r_new (mk:=.lst) (by simp) fun l1 H1 s1 n1 e1=>?_
  walk_at "v"
  refine r_l (w s1) (at_ints g1 rfl) ?_
  obtain ⟨mo,emo,zmo⟩:=pickP (zs:=[-1,-5,1000003,-(10 ^ (12:Int).toNat)]) (fun z=>z.natAbs≤10 ^ 12) (by decide +kernel) a1 b1
  refine r_l e1 emo ?_
  walk_at "v"
  refine r_new (mk:=.lst) (by simp) fun R H2 s2 n2 e2=>?_
  have s02:=s1.trans s2
  walk_at "v"
  refine r_for (r_rng1 ?_)
  walk_at "v"
  refine r_l (w s02) (at_ints S.x0 rfl) ?_
  walk_at "v"
  refine ⟨c,rfl,by lia,by lia,for_range (fun j σ H3=>∃(m up rise:Int) (es:List Nn) (v7 v8 v9 v10:Option V),σ=[some (.ref lw),some (.int sc),some (.ref tl),some (.int m),some (.int up),some (.int rise),some (.ref R),v7,v8,v9,v10] ∧
    Same H1 H3∧H3 R=some (.lst (nvals es))∧NRow H3 es 45 100∧es.length=j∧m.natAbs≤10 ^ 12+3000*j∧rise.natAbs≤3*j∧up.natAbs≤130*j+12∧nrising es∧∀x∈es,x.2.1≤m) ?_ ?_ ?_⟩
  · exact ⟨mo,0,0,[],none,none,none,none,rfl,s2,e2,fun x hx=>absurd hx (by simp),rfl,by simpa using zmo,by decide,by decide,List.Pairwise.nil,fun x hx=>absurd hx (by simp)⟩
  · rintro j σ H3 hj ⟨m,up,rise,es,v7,v8,v9,v10,rfl,s3,e3,hes,hl,hm,hri,hup,hrs,hle⟩
    have hj':j<c:=by simpa using hj
    obtain ⟨x,y,z,gx,gy,gz,ax,bx,ay,by',az,bz⟩:=S.each j hj'
    have s13:=s1.trans s3
    have w3:=w s13
    walk_at "v"
    refine r_l w3 (at_ints gx (by walk_at "o")) ?_
    walk_at "v"
    refine r_new (mk:=.lst) (by simp) fun l4 H4 s4 n4 e4=>?_
    walk_at "v"
    refine r_l (s4 _ _ w3) (at_ints g4 rfl) ?_
    obtain ⟨wd,ewd,zwd⟩:=pickP (zs:=[1,1,1009]) (fun z=>1≤z∧z≤1009) (by decide +kernel) a4 b4
    refine r_l e4 ewd ?_
    walk_at "v"
    refine r_I (mulL (by walk_at "o") (by walk_at "o")) ?_
    have p5:0≤x*wd:=Int.mul_nonneg ax (by walk_at "o")
    have q5:x*wd≤2*1009:=Int.mul_le_mul (by walk_at "o") zwd.2 (by walk_at "o") (by walk_at "o")
    generalize x*wd=st at p5 q5 ⊢
    have ten:(10:Nat) ^ 12+3000*41<2 ^ 44:=by decide +kernel
    have bm:(m+1+st).natAbs≤10 ^ 12+3000*(j+1):=by
      rw [Int.add_assoc]
      exact nab hm (nabm p5 q5) (by lia)
    have zm:Sz 44 (m+1+st):=Nat.lt_of_le_of_lt bm (by lia)
    have w4:=s4 _ _ w3
    walk_at "v"
    refine r_l w4 (at_ints gz (by walk_at "o")) ?_
    have hj40:j<40:=by walk_at "o"
    have s14:=s3.trans s4
    -- the row's next entry
    have fin:∀(u:Nn) (H5:Hp) (up' rise':Int) (v7 v8 v9 v10:Option V),u.2.1=m+1+st→Same H4 H5→NnAt H5 u 45 100→rise'.natAbs≤3*(j+1)→up'.natAbs≤130*(j+1)+12 →
        ∃(m' up2 rise2:Int) (es':List Nn) (v7' v8' v9' v10':Option V),[some (.ref lw),some (.int sc),some (.ref tl),some (.int (m+1+st)),some (.int up'),some (.int rise'),some (.ref R),v7,v8,v9,v10]=[some (.ref lw),some (.int sc),some (.ref tl),some (.int m'),some (.int up2),some (.int rise2),some (.ref R),v7',v8',v9',v10'] ∧
          Same H1 (upd H5 R (.lst (nvals es++[.ref u.1])))∧upd H5 R (.lst (nvals es++[.ref u.1])) R=some (.lst (nvals es'))∧NRow (upd H5 R (.lst (nvals es++[.ref u.1]))) es' 45 100∧es'.length=j+1∧m'.natAbs≤10 ^ 12+3000*(j+1)∧rise2.natAbs≤3*(j+1)∧up2.natAbs≤130*(j+1)+12∧nrising es'∧∀x∈es',x.2.1≤m':=by
      intro u H5 up' rise' v7 v8 v9 v10 hu s5 f5 h1 h2
      have s35:=s4.trans s5
      have eR:=s35 _ _ e3
      refine ⟨m+1+st,up',rise',es++[u],v7,v8,v9,v10,rfl,same_at (s3.trans s35) n2,by rw [upd_same,nvals_snoc],((hes.up s35).snoc f5).app eR,by rw [List.length_append,hl];rfl,bm,h1,h2,?_,fun y hy=>?_⟩
      · refine List.pairwise_append.mpr ⟨hrs,List.pairwise_singleton _ _,fun y hy z hz=>?_⟩
        obtain rfl:z=u:=by simpa using hz
        have:=hle y hy
        walk_at "o"
      · rcases List.mem_append.mp hy with z | z
        · have:=hle y z
          walk_at "o"
        · obtain rfl:y=u:=by simpa using z
          walk_at "o"
    obtain ⟨th,eth,zth⟩:=pickP (zs:=[0,1,3]) (fun z=>0≤z) (by decide +kernel) a12 b12
    have et4:=(s13.trans s4) _ _ et
    have m5a:0≤(z-12) % 5:=Int.emod_nonneg _ (by decide)
    have m5b:(z-12) % 5<5:=Int.emod_lt_of_pos _ (by decide)
    have m3a:0≤(z-12) % 3:=Int.emod_nonneg _ (by decide)
    have m3b:(z-12) % 3<3:=Int.emod_lt_of_pos _ (by decide)
    refine r_c ?_
    refine r_I0 ?_
    refine r_g ?_
    refine nx_of ?_
    refine seq_cut4 (fun σ' H'=>H'=H4∧∃up' rise':Int,σ'=[some (.ref lw),some (.int sc),some (.ref tl),some (.int (m+1+st)),some (.int up'),some (.int rise'),some (.ref R),some (.int (0+(j:Int))),some (.int (3*(0+(j:Int))+13)),some (.int (z-12)),v10]∧rise'.natAbs≤3*(j+1)∧up'.natAbs≤130*(j+1)+12) (fun σ' H' hP=>?_) (fun N rest=>?_)
    rotate_left
    · walk_at "v"
      refine r_l w4 (at_ints g5 rfl) ?_
      walk_at "v"
      rcases (show x5=0∨x5=1∨x5=2∨x5=3 by walk_at "o") with rfl | rfl | rfl | rfl
      · refine iteT ?_
        walk_at "v"
        refine r_l w4 (at_ints g5 rfl) ?_
        walk_at "v"
        refine iteF ?_
        walk_at "v"
        refine r_l w4 (at_ints g5 rfl) ?_
        walk_at "v"
        refine iteF ?_
        walk_at "v"
        refine r_l w4 (at_ints g5 rfl) ?_
        walk_at "v"
        refine iteF ?_
        walk_at "v"
        exact rest _ _ ⟨rfl,_,_,rfl,Nat.le_trans hri (by lia),Nat.le_trans (nabz az bz) (by lia)⟩
      · refine iteF ?_
        walk_at "v"
        refine r_l w4 (at_ints g5 rfl) ?_
        walk_at "v"
        refine iteT ?_
        walk_at "v"
        refine r_l w4 (at_ints g5 rfl) ?_
        walk_at "v"
        refine iteF ?_
        walk_at "v"
        refine r_l w4 (at_ints g5 rfl) ?_
        walk_at "v"
        refine iteF ?_
        walk_at "v"
        have r1:(rise+(z-12) % 5-1).natAbs≤3*(j+1):=by
          rw [Int.add_sub_assoc]
          exact nab hri (nab5 m5a m5b) (by lia)
        exact rest _ _ ⟨rfl,_,_,rfl,r1,nab hup r1 (by lia)⟩
      · refine iteF ?_
        walk_at "v"
        refine r_l w4 (at_ints g5 rfl) ?_
        walk_at "v"
        refine iteF ?_
        walk_at "v"
        refine r_l w4 (at_ints g5 rfl) ?_
        walk_at "v"
        refine iteT ?_
        walk_at "v"
        refine r_l w4 (at_ints g5 rfl) ?_
        walk_at "v"
        refine iteF ?_
        walk_at "v"
        exact rest _ _ ⟨rfl,_,_,rfl,Nat.le_trans hri (by lia),nab hup (nabz az bz) (by lia)⟩
      · refine iteF ?_
        walk_at "v"
        refine r_l w4 (at_ints g5 rfl) ?_
        walk_at "v"
        refine iteF ?_
        walk_at "v"
        refine r_l w4 (at_ints g5 rfl) ?_
        walk_at "v"
        refine iteF ?_
        walk_at "v"
        refine r_l w4 (at_ints g5 rfl) ?_
        walk_at "v"
        refine iteT ?_
        walk_at "v"
        exact rest _ _ ⟨rfl,_,_,rfl,Nat.le_trans hri (by lia),Nat.le_trans (nab3 m3a m3b) (by lia)⟩
    obtain ⟨rfl,up',rise',rfl,br,bu⟩:=hP
    walk_at "v"
    refine r_l w4 (at_ints gy (by walk_at "o")) ?_
    walk_at "v"
    refine r_new (mk:=.lst) (by simp) fun l6 H6 s6 n6 e6=>?_
    walk_at "v"
    refine r_l (s6 _ _ w4) (at_ints g12 rfl) ?_
    refine r_l e6 eth ?_
    walk_at "v"
    have e36:=s6 _ _ (s4 _ _ e3)
    refine ite2 (fun c=>?_) (fun c=>?_)
    · walk_at "v"
      refine ⟨.inl ⟨rfl,_,SqL.of e36⟩,?_⟩
      walk_at "v"
      refine r_new (mk:=.tup) (by simp) fun pe H7 s7 n7 e7=>?_
      walk_at "v"
      refine r_app (s7 _ _ e36) (by rw [nvals_len];exact small1000 (by walk_at "o")) ?_
      exact fin (pe,m+1+st,none) H7 _ _ _ _ _ _ rfl (s6.trans s7) ⟨e7,zm.mono (by decide),fun z q=>by cases q⟩ br bu
    · have et6:=s6 _ _ et4
      walk_at "v"
      refine r_I (mulOk zt0 zm) ?_
      walk_at "v"
      refine ⟨.inl ⟨rfl,_,SqL.of e36⟩,?_⟩
      walk_at "v"
      have zu:Sz 14 up':=show up'.natAbs<2 ^ 14 by walk_at "o"
      refine r_I (mulOk zu zsc) ?_
      walk_at "v"
      refine r_new (mk:=.tup) (by simp) fun pe H7 s7 n7 e7=>?_
      walk_at "v"
      refine r_app (s7 _ _ e36) (by rw [nvals_len];exact small1000 (by walk_at "o")) ?_
      exact fin (pe,m+1+st,some _) H7 _ _ _ _ _ _ rfl (s6.trans s7) ⟨e7,zm.mono (by decide),fun z q=>by
        cases q
        exact (((zu.mul zsc).mono (show 14+45≤90 by decide)).add (((zt0.mul zm).mono (show 45+44≤89 by decide)).add (zt1.mono (by decide)))).mono (by decide)⟩ br bu
  · rintro σ H3 ⟨m,up,rise,es,v7,v8,v9,v10,rfl,s3,e3,hes,hl,hm,hri,hup,hrs,hle⟩
    walk_at "v"
    exact k R es H3 (s1.trans s3) (s1.free n2) e3 hes (by simpa using hl) hrs
noncomputable def spTimes:Sp:=fun vs H Q _=>∃(l:Addr) (es:List Nn) (b:Int) (n nb:Nat),vs=[.ref l,.int b]∧H l=some (.lst (nvals es))∧NRow H es 45 n∧es.length≤40∧Sz nb b∧n+nb≤8000 ∧
  ∀(R:Addr) (es':List Nn) (H':Hp),Same H H'→H R=none→H' R=some (.lst (nvals es'))→NRow H' es' 45 (n+nb)→es'.map (·.2)=es.map (fun x=>(x.2.1,x.2.2.map (·*b)))→Q (.ref R) H'
theorem sc_law_times:FnScope ["_law_row_here","_law_by","_law_some","_law_moment","_law_number"] ["_law_row_here","_law_by"] (defScope s_law_times):=⟨rfl,rfl,rfl,by decide +kernel,rfl,by decide +kernel,by decide +kernel⟩
theorem ok_law_times (F:Fun K "_law_times" "_law_times" s_law_times f fd):FnOk P w K mg base CX0 1 f fd ["_law_row_here","_law_by"] spTimes:=by
  refine F.ok sc_law_times (fun vs H Q E h=>?_) (fun cdv A outer s H vs Q E hr h=>?_)
  · obtain ⟨l,es,b,n,nb,rfl,_⟩:=h
    rfl
  obtain ⟨l,es,b,n,nb,rfl,hl,hes,h40,zb,hn,k⟩:=h
  refine J.l ⟨_,(J.e (J.i (i:=2) sc_law_times.nd rfl (Or.inl rfl) (J.t J.d) (hs:=sw_L))
      (J.e (J.ab PassesOwn.never rfl (J.x K (J.a 0)) (Jd.pgT K (n:=2) rfl (J.aa (J.q (i:=3) sc_law_times.nd rfl (Or.inl rfl)) (J.aa (J.q (i:=4) sc_law_times.nd rfl (Or.inl rfl)) Jd.pgs_nil)))
      (J.g (J.o (J.n op_isN (J.a 4) J.v (nomark _))
      (J.g (J.u (J.w K (J.a 2) (J.m (J.b (J.a 3) (J.b J.v J.d st_C) st_N))) (hs:=sw_K)))
      (J.g (J.u (J.w K (J.a 2) (J.m (J.b (J.a 3) (J.b (J.h op_mulB (J.a 4) (J.a 1)) J.d st_B) st_N))) (hs:=sw_K))))))
      (J.g (J.k (J.a 2))))),?_⟩
  walk_at "v"
  refine r_new (mk:=.lst) (by simp) fun R H1 s1 n1 e1=>?_
  walk_at "v"
  refine r_for (r_iL ?_)
  walk_at "v"
  refine ⟨l,rfl,⟨_,SqL.of (s1 _ _ hl)⟩,for_list (xs:=nvals es) (fun i σ H3=>∃(es':List Nn) (v3 v4:Option V),σ=[some (.ref l),some (.int b),some (.ref R),v3,v4]∧Same H H3∧H3 R=some (.lst (nvals es'))∧NRow H3 es' 45 (n+nb)∧es'.length=i∧es'.map (·.2)=(es.take i).map (fun x=>(x.2.1,x.2.2.map (·*b)))) ?_ ?_ ?_ ?_⟩
  · exact ⟨[],none,none,rfl,s1,e1,fun x hx=>absurd hx (by simp),rfl,rfl⟩
  · rintro i σ H3 _ ⟨es',v3,v4,rfl,s3,_⟩
    exact SqL.of (s3 _ _ hl)
  · rintro i x σ H3 hx ⟨es',v3,v4,rfl,s3,e3,hes',hl',hmap⟩
    obtain ⟨e,he,rfl⟩:=nvals_at hx
    have hi:i<es.length:=(List.getElem?_eq_some_iff.mp he).1
    have fe:=(hes e (List.mem_of_getElem? he)).up s3
    have tk:es.take (i+1)=es.take i++[e]:=by rw [List.take_add_one,he];rfl
    have fin:∀(y:Addr) (H4:Hp) (v3 v4:Option V),Same H3 H4→NnAt H4 (y,e.2.1,e.2.2.map (·*b)) 45 (n+nb)→∃(es'':List Nn) (v3' v4':Option V),[some (.ref l),some (.int b),some (.ref R),v3,v4]=[some (.ref l),some (.int b),some (.ref R),v3',v4'] ∧
        Same H (upd H4 R (.lst (nvals es'++[.ref y])))∧upd H4 R (.lst (nvals es'++[.ref y])) R=some (.lst (nvals es''))∧NRow (upd H4 R (.lst (nvals es'++[.ref y]))) es'' 45 (n+nb)∧es''.length=i+1∧es''.map (·.2)=(es.take (i+1)).map (fun x=>(x.2.1,x.2.2.map (·*b))):=by
      intro y H4 v3 v4 s4 f4
      have e4:=s4 _ _ e3
      refine ⟨es'++[(y,e.2.1,e.2.2.map (·*b))],v3,v4,rfl,same_at (s3.trans s4) n1,by rw [upd_same];exact congrArg (fun z=>some (HO.lst z)) (nvals_snoc es' (y,e.2.1,e.2.2.map (·*b))),((hes'.up s4).snoc f4).app e4,by rw [List.length_append,hl'];rfl,?_⟩
      rw [tk,List.map_append,List.map_append,hmap]
      rfl
    obtain ⟨a,m,v⟩:=e
    cases v with
    | none=>
      refine r_unpack2 fe.1 ?_
      walk_at "v"
      refine ⟨rfl,?_⟩
      walk_at "v"
      refine iteT ?_
      walk_at "v"
      refine ⟨.inl ⟨rfl,_,SqL.of e3⟩,?_⟩
      walk_at "v"
      refine r_new (mk:=.tup) (by simp) fun y H4 s4 n4 e4=>?_
      walk_at "v"
      refine r_app (s4 _ _ e3) (by rw [nvals_len];exact small1000 (by walk_at "o")) ?_
      exact fin y H4 _ _ s4 ⟨e4,fe.2.1,fun z q=>by cases q⟩
    | some z=>
      have zz:=fe.2.2 z rfl
      refine r_unpack2 fe.1 ?_
      walk_at "v"
      refine ⟨rfl,?_⟩
      walk_at "v"
      refine iteF ?_
      walk_at "v"
      refine ⟨.inl ⟨rfl,_,SqL.of e3⟩,?_⟩
      walk_at "v"
      refine r_I (mulOk zz zb (by walk_at "o")) ?_
      walk_at "v"
      refine r_new (mk:=.tup) (by simp) fun y H4 s4 n4 e4=>?_
      walk_at "v"
      refine r_app (s4 _ _ e3) (by rw [nvals_len];exact small1000 (by walk_at "o")) ?_
      exact fin y H4 _ _ s4 ⟨e4,fe.2.1,fun z' q=>by
        cases q
        exact zz.mul zb⟩
  · rintro σ H3 ⟨es',v3,v4,rfl,s3,e3,hes',hl',hmap⟩
    rw [nvals_len,List.take_length] at hmap
    walk_at "v"
    exact k R es' H3 s3 n1 e3 hes' hmap
end

noncomputable def nsm (x:Nn):Bool:=x.2.2.isSome
theorem nvals_get {es:List Nn} {i:Nat} {x:Nn} (h:es[i]?=some x):(nvals es)[i]?=some (.ref x.1):=by
  unfold nvals
  rw [List.getElem?_map,h]
  rfl
theorem at_nval {es:List Nn} {i:Nat} {j:Int} {x:Nn} (h:es[i]?=some x) (hj:j=(i:Int)):atI (nvals es) j=some (.ref x.1):=by
  subst hj
  exact atI_nat (nvals_get h)
theorem at_nvals {es:List Nn} {i:Int} (h0:0≤i) (h1:i<(es.length:Int)):∃x,x∈es∧es[i.toNat]?=some x∧atI (nvals es) i=some (.ref x.1):=by
  have hk:i.toNat<es.length:=by walk_at "o"
  exact ⟨es[i.toNat],List.getElem_mem hk,List.getElem?_eq_getElem hk,at_nval (List.getElem?_eq_getElem hk) (by walk_at "o")⟩
theorem nrising_of {es es':List Nn} (h:es'.map (fun x=>x.2.1)=es.map (fun x=>x.2.1)) (hr:nrising es):nrising es':=by
  have k:(es.map fun x=>x.2.1).Pairwise (·<·):=List.pairwise_map.mpr hr
  rw [← h] at k
  exact List.pairwise_map.mp k
theorem nsm_some {x:Nn} (h:nsm x=true):∃z,x.2.2=some z:=Option.isSome_iff_exists.mp h
noncomputable def dsz (m:Nat):List Int:=[(m:Int)+1,4,5,12,3,4,7,3,40,40,40,4,3]++(List.replicate m [3,9,25]).flatten
theorem reps_map (m:Nat) (xs:List Int):(List.replicate m (xs.map V.int)).flatten=((List.replicate m xs).flatten).map V.int:=by
  induction m with
  | zero=>rfl
  | succ m ih=>rw [List.replicate_succ,List.flatten_cons,ih,List.replicate_succ,List.flatten_cons,List.map_append]
theorem reps_get {xs:List Int} {n:Nat} (hn:xs.length=n):∀{m k j:Nat},k<m→j<n→(List.replicate m xs).flatten[n*k+j]?=xs[j]?
  | 0,_,_,hk,_=>absurd hk (Nat.not_lt_zero _)
  | m+1,0,j,_,hj=>by
    rw [List.replicate_succ,List.flatten_cons,Nat.mul_zero,Nat.zero_add,List.getElem?_append_left (by walk_at "o")]
  | m+1,k+1,j,hk,hj=>by
    have e:n*(k+1)+j=n+(n*k+j):=by rw [Nat.mul_add];walk_at "o"
    rw [List.replicate_succ,List.flatten_cons,e,List.getElem?_append_right (by walk_at "o"),hn,Nat.add_sub_cancel_left]
    exact reps_get hn (by walk_at "o") hj
theorem dsz_map (m:Nat):[V.int ((m:Int)+1),.int 4,.int 5,.int 12,.int 3,.int 4,.int 7,.int 3,.int 40,.int 40,.int 40,.int 4,.int 3]++(List.replicate m [V.int 3,.int 9,.int 25]).flatten=(dsz m).map V.int:=by
  unfold dsz
  rw [List.map_append,← reps_map]
  rfl
theorem dsz_len (m:Nat):(dsz m).length=13+3*m:=by
  unfold dsz
  rw [List.length_append,List.length_flatten,List.map_replicate,List.sum_replicate_nat]
  simp
  walk_at "o"
theorem dsz_pos {m:Nat} (hm:m≤40):∀z∈dsz m,0<z∧z<2 ^ 60:=by
  intro z hz
  unfold dsz at hz
  rcases List.mem_append.mp hz with h | h
  · simp at h
    walk_at "o"
  · obtain ⟨l,hl,hzl⟩:=List.mem_flatten.mp h
    rw [(List.mem_replicate.mp hl).2] at hzl
    simp at hzl
    walk_at "o"
theorem dsz_at {m k j:Nat} (hk:k<m) (hj:j<3):(dsz m)[3*k+(13+j)]?=[(3:Int),9,25][j]?:=by
  unfold dsz
  rw [List.getElem?_append_right (by simp;walk_at "o")]
  have e:3*k+(13+j)-[(m:Int)+1,4,5,12,3,4,7,3,40,40,40,4,3].length=3*k+j:=by simp;walk_at "o"
  rw [e]
  exact reps_get rfl hk hj
theorem dsz_shp {m:Nat} {xs:List Int} (hlen:xs.length=(dsz m).length) (hxs:∀(j:Nat) (x z:Int),xs[j]?=some x→(dsz m)[j]?=some z→0≤x∧x<z):∃c,c≤m∧Shp xs c:=by
  obtain ⟨x0,g0,a0,b0⟩:=row_get hlen hxs 0 (z:=(m:Int)+1) rfl
  refine ⟨x0.toNat,by walk_at "o",⟨by rw [g0];congr 1;walk_at "o",row_get hlen hxs 1 rfl,row_get hlen hxs 4 rfl,row_get hlen hxs 5 rfl,row_get hlen hxs 12 rfl,fun k hk=>?_⟩⟩
  have hk':k<m:=by walk_at "o"
  obtain ⟨x,gx,ax,bx⟩:=row_get hlen hxs _ (z:=3) ((dsz_at hk' (j:=0) (by decide)).trans rfl)
  obtain ⟨y,gy,ay,by'⟩:=row_get hlen hxs _ (z:=9) ((dsz_at hk' (j:=1) (by decide)).trans rfl)
  obtain ⟨z,gz,az,bz⟩:=row_get hlen hxs _ (z:=25) ((dsz_at hk' (j:=2) (by decide)).trans rfl)
  exact ⟨x,y,z,gx,gy,gz,ax,bx,ay,by',az,bz⟩
noncomputable def spPicked:Sp:=fun vs H Q _=>∃(l lw:Addr) (es:List Nn) (xs:List Int),vs=[.ref l,.ref lw]∧H l=some (.lst (nvals es))∧H lw=some (.lst (xs.map V.int))∧1≤es.length∧es.length≤40∧(∀k,k<3→∃x,xs[k+8]?=some x) ∧
  ∀(R:Addr) (a b c:Nn) (H':Hp),Same H H'→a∈es→b∈es→c∈es→H' R=some (.lst [.ref a.1,.ref b.1,.ref c.1])→Q (.ref R) H'
noncomputable def spDrawn4 (K:PySem.W.Frag):Sp:=fun vs H Q _=>∃(a:Addr) (ns:List Int) (i:Int) (most:Nat) (share:Int),vs=[.ref a,.int i,.int (most:Int),.int share]∧SqL K H a (ns.map V.int)∧0≤i∧i<800∧most≤40∧0≤share∧share≤2 ∧
  ∀(p R:Addr) (es:List Nn) (b c:Int) (H':Hp),Same H H'→H' p=some (.tup [.ref R,.int b,.int c])→H R=none→H' R=some (.lst (nvals es))→NRow H' es 45 150→es.length≤most→nrising es→1≤b→Sz 80 b→0≤c→Sz 150 c→Q (.ref p) H'
section
variable {P:Program} {w:World} {K:PySem.W.Frag} {mg:Str→Option Value} {base:Heap} {f:Addr} {fd:FuncData}
theorem sc_law_picked:FnScope ["_law_held","_law_some","_law_places","_law_k"] ["_law_held","_law_some"] (defScope s_law_picked):=⟨rfl,rfl,rfl,by decide +kernel,rfl,by decide +kernel,by decide +kernel⟩
theorem ok_law_picked (F:Fun K "_law_picked" "_law_picked" s_law_picked f fd) (T:Txt mg):FnOk P w K mg base CX0 1 f fd ["_law_held","_law_some"] spPicked:=by
  refine F.ok sc_law_picked (fun vs H Q E h=>?_) (fun cdv A outer s H vs Q E hr h=>?_)
  · obtain ⟨l,lw,es,xs,rfl,_⟩:=h
    rfl
  obtain ⟨l,lw,es,xs,rfl,hl,hw,h1,h40,hx,k⟩:=h
  refine J.l ⟨_,(J.e (J.i (i:=2) sc_law_picked.nd rfl (Or.inl rfl) (J.t J.d) (hs:=sw_L))
      (J.e (J.ab PassesOwn.never rfl (Jd.pi_range2 rfl T.range (J.b J.c (J.b J.c J.d st_C) st_C)) (J.q (i:=3) sc_law_picked.nd rfl (Or.inl rfl))
      (J.g (J.u (J.w K (J.a 2) (J.h op_mod (J.f (ixL K) (J.a 1) (J.a 3) (fun _ _=>rfl)) (J.r (lenC K) rfl T.len_ PySem.boot_len (J.b (J.a 0) J.d st_N) (he:=st_N) (hpl:=any0)))) (hs:=sw_K))))
      (J.e (J.i (i:=2) sc_law_picked.nd rfl (Or.inl rfl) (J.r (sortedC K) rfl T.sorted_ PyProof.Rows.boot_sorted (J.b (J.a 2) J.d st_N) (he:=st_N) (hpl:=any0)) (hs:=sw_K))
      (J.g (J.k (J.ac (O:=["_law_at"]) (N':=["_law_held"]) (cap:=[0]) rfl (J.x K (J.a 2)) (fun _ _ _ _ _=>(J.q (i:=0) (show List.Nodup [("_law_at":Str),("_law_held":Str)] by decide +kernel) rfl (Or.inl rfl))) (fun _ _ _ _ _=>J.ad) (fun _ _ _ _ _=>(J.f (ixL K) (J.a 1) (J.a 0) (fun _ _=>rfl))) rfl ⟨⟨rfl,rfl,rfl,rfl⟩,trivial⟩ rfl (by decide +kernel) rfl (by decide +kernel))))))),?_⟩
  walk_at "v"
  refine r_new (mk:=.lst) (by simp) fun pl H1 s1 n1 e1=>?_
  walk_at "v"
  refine r_for (r_rng2 ?_)
  walk_at "v"
  refine ⟨8,11,rfl,by decide,for_range (n:=3) (fun j σ H3=>∃(ys:List Int) (v:Option V),σ=[some (.ref l),some (.ref lw),some (.ref pl),v]∧Same H H3∧H3 pl=some (.lst (ys.map V.int))∧ys.length=j∧∀y∈ys,0≤y∧y<(es.length:Int)) ?_ ?_ ?_⟩
  · exact ⟨[],none,rfl,s1,e1,rfl,fun y hy=>absurd hy (by simp)⟩
  · rintro j σ H3 hj ⟨ys,v,rfl,s3,e3,hy,hys⟩
    obtain ⟨x,gx⟩:=hx j hj
    walk_at "v"
    refine ⟨.inl ⟨rfl,_,SqL.of e3⟩,?_⟩
    walk_at "v"
    refine r_l (s3 _ _ hw) (at_ints gx (by walk_at "o")) ?_
    walk_at "v"
    refine r_len (.inl (SqL.of (s3 _ _ hl))) ?_
    rw [nvals_len]
    refine r_I (show (0:Int)<_ by walk_at "o") ?_
    walk_at "v"
    refine r_app e3 (by rw [List.length_map];exact small1000 (by walk_at "o")) ?_
    refine ⟨ys++[x % (es.length:Int)],_,rfl,same_at s3 n1,by rw [upd_same,List.map_append];rfl,by rw [List.length_append,hy];rfl,fun y hy=>?_⟩
    rcases List.mem_append.mp hy with z | z
    · exact hys y z
    · obtain rfl:y=x % (es.length:Int):=by simpa using z
      exact ⟨Int.emod_nonneg _ (by walk_at "o"),Int.emod_lt_of_pos _ (by walk_at "o")⟩
  · rintro σ H3 ⟨ys,v,rfl,s3,e3,hy,hys⟩
    walk_at "v"
    refine r_sorted (SqL.of e3) (by walk_at "o") fun p ns' H4 s4 n4 e4 hp hs=>?_
    walk_at "v"
    refine r_iL ?_
    walk_at "v"
    refine ⟨p,rfl,⟨_,SqL.of e4⟩,?_⟩
    have hl':ns'.length=3:=by rw [hp.length_eq,hy]
    refine compB_of (xs:=ns'.map V.int) tells_list (fun H5 s5=>SqL.of (s5 _ _ e4)) (by rw [List.length_map];walk_at "o") (fun i ys G=>∃zs:List Nn,ys=nvals zs∧zs.length=i∧∀z∈zs,z∈es) ⟨[],rfl,rfl,fun x hx=>absurd hx (by simp)⟩ ?_ ?_
    · rintro D i x ys' H5 σ0 N N0 h0 hD eD s5 hx hy' ⟨zs,rfl,hz,hm⟩ kY kN
      rw [List.getElem?_map] at hx
      obtain ⟨y,gy,rfl⟩:=Option.map_eq_some_iff.mp hx
      obtain ⟨y0,y1⟩:=hys y (hp.mem_iff.mp (List.mem_of_getElem? gy))
      obtain ⟨e,he,_,ea⟩:=at_nvals y0 y1
      refine r_own1 h0 ?_
      walk_at "v"
      refine iteT ?_
      walk_at "v"
      refine r_l ((s3.trans (s4.trans s5)) _ _ hl) ea ?_
      refine kY _ H5 (Same.refl _) ⟨zs++[e],nvals_snoc zs e,by rw [List.length_append,hz];rfl,fun z hz=>?_⟩
      rcases List.mem_append.mp hz with q | q
      · exact hm z q
      · obtain rfl:z=e:=by simpa using q
        exact he
    · rintro D ys' H5 hD eD s5 hy' ⟨zs,rfl,hz,hm⟩
      rw [List.length_map,hl'] at hz
      match zs,hz with
      | [x,y,z],_=>exact k D x y z H5 (s3.trans (s4.trans s5)) (hm x (by simp)) (hm y (by simp)) (hm z (by simp)) eD
theorem sc_law_drawn:FnScope ["_law_script","_law_place","_law_most","_law_share","_law_sizes","_law_some","_law_bottom","_law_scale","_law_tilt","_law_far","_law_row_here","_law_held","_law_one","_law_mid","_law_last","_law_span","_law_stood","_law_by"] ["_law_script","_law_place","_law_most","_law_share"] (defScope s_law_drawn):=⟨rfl,rfl,rfl,by decide +kernel,rfl,by decide +kernel,by decide +kernel⟩
theorem ok_law_drawn (F:Fun K "_law_drawn" "_law_drawn" s_law_drawn f fd) (T:Txt mg) (D_law_row:Dn P w K mg base 3 "_law_row" ["_law_script","_law_place","_law_sizes"] (spRow K)) (D_law_shaped:Dn P w K mg base 1 "_law_shaped" ["_law_some","_law_scale","_law_tilt"] spShaped)
    (D_law_picked:Dn P w K mg base 1 "_law_picked" ["_law_held","_law_some"] spPicked) (D_law_times:Dn P w K mg base 1 "_law_times" ["_law_row_here","_law_by"] spTimes):FnOk P w K mg base CX0 4 f fd ["_law_script","_law_place","_law_most","_law_share"] (spDrawn4 K):=by
  refine F.ok sc_law_drawn (fun vs H Q E h=>?_) (fun cdv A outer s H vs Q E hr h=>?_)
  · obtain ⟨a,ns,i,most,share,rfl,_⟩:=h
    rfl
  obtain ⟨a,ns,i,most,share,rfl,hS,h0,h1,hm,hs0,hs2,k⟩:=h
  refine J.l (Jd.cut 6 (fun σ H'=>∃(lw tl:Addr) (xs:List Int) (c:Nat) (b sc t0 t1 x6 x7:Int) (v4 v9:Option V),σ=[some (.ref a),some (.int i),some (.int most),some (.int share),v4,some (.ref lw),some (.int b),some (.int sc),some (.ref tl),v9,none,none,none,none,none,none,none,none] ∧
    Same H H'∧H' lw=some (.lst (xs.map V.int))∧c≤most∧Shp xs c∧xs[6]?=some x6∧0≤x6∧x6<7∧xs[7]?=some x7∧(∀k,k<3→∃x,xs[k+8]?=some x)∧1≤b∧Sz 30 b∧0≤sc∧Sz 45 sc∧H' tl=some (.tup [.int t0,.int t1])∧Sz 45 t0∧Sz 45 t1) ?_ fun u hu hR=>?_)
  · refine ⟨_,(J.e (J.i (i:=10) sc_law_drawn.nd rfl (Or.inl rfl) (J.j D_law_shaped (hr.mono (by decide)) rfl (J.b (J.a 5) (J.b (J.a 7) (J.b (J.a 8) J.d st_N) st_N) st_N) (he:=st_N) (hpl:=(anyc st_N (anyc st_N any0)))) (hs:=sw_K))
      (J.e (Jd.ps_comp (O:=["_law_one"]) (N':=[]) (cap:=[]) (i:=11) sc_law_drawn.nd rfl (Or.inl rfl) rfl (J.x K (J.a 10)) (fun _ _ _ _ _=>(J.q (i:=0) (show List.Nodup [("_law_one":Str)] by decide +kernel) rfl (Or.inl rfl))) (fun _ _ _ _ _=>(Jd.pts_one (J.n op_notN (J.f (ixT K) (J.a 0) J.c (fun _ _=>rfl)) J.v (nomark _)))) (fun _ _ _ _ _=>(J.a 0)) rfl trivial rfl (by decide +kernel) rfl (by decide +kernel) (by rfl))
      (J.e (J.o (Jd.PWpt (Jd.pw_and (J.n op_gt (J.a 3) J.c (nomark _)) (Jd.pw_and (J.n op_eq (J.f (ixL K) (J.a 5) J.c (fun _ _=>rfl)) J.c (nomark _)) (Jd.pw_and1 (J.n op_gt (J.r (lenC K) rfl T.len_ PySem.boot_len (J.b (J.a 11) J.d st_N) (he:=st_N) (hpl:=any0)) J.c (nomark _))))))
      (J.e (Jd.ps_asg (J.j D_law_picked (hr.mono (by decide)) rfl (J.b (J.a 11) (J.b (J.a 5) J.d st_N) st_N) (he:=st_N) (hpl:=(anyc st_N any0))) (Jd.pgL K (n:=3) rfl (J.aa (J.q (i:=12) sc_law_drawn.nd rfl (Or.inl rfl)) (J.aa (J.q (i:=13) sc_law_drawn.nd rfl (Or.inl rfl)) (J.aa (J.q (i:=14) sc_law_drawn.nd rfl (Or.inl rfl)) Jd.pgs_nil)))))
      (J.g (J.o (Jd.pt_chain op_lt op_lt (J.f (ixT K) (J.a 12) J.c (fun _ _=>rfl)) (J.f (ixT K) (J.a 13) J.c (fun _ _=>rfl)) (J.f (ixT K) (J.a 14) J.c (fun _ _=>rfl)))
      (J.e (J.i (i:=15) sc_law_drawn.nd rfl (Or.inl rfl) (J.h op_sub (J.f (ixT K) (J.a 14) J.c (fun _ _=>rfl)) (J.f (ixT K) (J.a 12) J.c (fun _ _=>rfl))) (hs:=sw_B))
      (J.e (J.i (i:=16) sc_law_drawn.nd rfl (Or.inl rfl) (J.h op_sub (J.h op_mulB (J.f (ixT K) (J.a 13) J.c (fun _ _=>rfl)) (J.a 15)) (J.h op_mulB (J.f (ixT K) (J.a 12) J.c (fun _ _=>rfl)) (J.h op_sub (J.f (ixT K) (J.a 14) J.c (fun _ _=>rfl)) (J.f (ixT K) (J.a 13) J.c (fun _ _=>rfl))))) (hs:=sw_B))
      (J.e (J.i (i:=16) sc_law_drawn.nd rfl (Or.inl rfl) (J.r absC rfl T.abs_ PyProof.Rows.boot_abs (J.b (J.h op_sub (J.a 16) (J.h op_mulB (J.f (ixT K) (J.a 14) J.c (fun _ _=>rfl)) (J.h op_sub (J.f (ixT K) (J.a 13) J.c (fun _ _=>rfl)) (J.f (ixT K) (J.a 12) J.c (fun _ _=>rfl))))) J.d st_B) (he:=st_B) (hpl:=any0)) (hs:=sw_K))
      (J.e (J.i (i:=17) sc_law_drawn.nd rfl (Or.inl rfl) (J.h op_mulB (J.a 3) (J.a 15)) (hs:=sw_B))
      (J.g (J.k (J.m (J.b (J.j D_law_times (hr.mono (by decide)) rfl (J.b (J.a 10) (J.b (J.a 17) J.d st_N) st_N) (he:=st_N) (hpl:=(anyc st_N any0))) (J.b (J.h op_mulB (J.a 6) (J.a 17)) (J.b (J.a 16) J.d st_N) st_B) st_K))))))))
      J.s)))
      J.s)
      (J.g (J.k (J.m (J.b (J.a 10) (J.b (J.a 6) (J.b (J.h op_mulB (J.f (ixL K) (J.a 5) J.c (fun _ _=>rfl)) (J.a 7)) J.d st_B) st_N) st_N))))))),?_⟩
    rintro σ H1 ⟨lw,tl,xs,c,b,sc,t0,t1,x6,x7,v4,v9,rfl,s1,ew,hc,S,g6,a6,b6,g7,g8,b1,zb,sc0,zsc,et,zt0,zt1⟩
    walk_at "v"
    refine ⟨lw,tl,xs,c,sc,t0,t1,rfl,ew,S,by walk_at "o",et,zsc,zt0,zt1,fun R es H2 s2 nR eR hes hlen hri=>?_⟩
    have ew2:=s2 _ _ ew
    walk_at "v"
    refine r_iL ?_
    walk_at "v"
    refine ⟨R,rfl,⟨_,SqL.of eR⟩,?_⟩
    refine compB_of (xs:=nvals es) tells_list (fun H3 s3=>SqL.of (s3 _ _ eR)) (by rw [nvals_len];walk_at "o") (fun i ys G=>ys=nvals ((es.take i).filter nsm)) rfl ?_ ?_
    · rintro D i x ys H3 σ0 N N0 h0 hD eD s3 hx hy rfl kY kN
      obtain ⟨e,he,rfl⟩:=nvals_at hx
      obtain ⟨ee,_⟩:=(hes e (List.mem_of_getElem? he)).up s3
      have ts:=PySem.take_succ_filter nsm es i e he
      obtain ⟨ae,me,ve⟩:=e
      refine r_own1 h0 ?_
      cases ve with
      | none=>
        walk_at "v"
        refine ⟨rfl,?_⟩
        walk_at "v"
        refine iteF ?_
        rw [show nsm (ae,me,none)=false from rfl,if_neg Bool.false_ne_true,List.append_nil] at ts
        exact kN H3 (Same.refl _) (by rw [ts])
      | some z=>
        walk_at "v"
        refine ⟨rfl,?_⟩
        walk_at "v"
        refine iteT ?_
        walk_at "v"
        rw [show nsm (ae,me,some z)=true from rfl,if_pos rfl] at ts
        exact kY _ H3 (Same.refl _) (by rw [ts,← nvals_snoc])
    · rintro D ys H3 hD eD s3 hy rfl
      rw [nvals_len,List.take_length] at eD
      have s13:=s1.trans (s2.trans s3)
      have eR3:=s3 _ _ eR
      have ew3:=s3 _ _ ew2
      have plain:∀(p:Addr) (H4:Hp),Same H3 H4→H4 p=some (.tup [.ref R,.int b,.int (x6*sc)])→Q (.ref p) H4:=fun p H4 s4 e4=>
        k p R es b (x6*sc) H4 (s13.trans s4) e4 (s1.free nR) (s4 _ _ eR3) (fun x hx=>let ⟨q1,q2,q3⟩:=(hes x hx).up (s3.trans s4);⟨q1,q2,fun z hz=>(q3 z hz).mono (by decide)⟩) (by walk_at "o") hri b1 (zb.mono (by decide)) (Int.mul_nonneg a6 sc0) (((show Sz 3 x6 from by show x6.natAbs<2 ^ 3;walk_at "o").mul zsc).mono (by decide))
      walk_at "v"
      refine ite2 (fun c1=>?_) (fun c1=>?_)
      · have c1':0<share:=of_decide_eq_true c1
        walk_at "v"
        refine r_l ew3 (at_ints g7 rfl) ?_
        walk_at "v"
        refine ite2 (fun c2=>?_) (fun c2=>?_)
        · walk_at "v"
          refine r_len (.inl (SqL.of eD)) ?_
          walk_at "v"
          rw [nvals_len]
          refine ite2 (fun c3=>?_) (fun c3=>?_)
          · have c3':=of_decide_eq_true c3
            have hfl:(es.filter nsm).length≤es.length:=List.length_filter_le ..
            walk_at "v"
            refine r_asg ?_
            walk_at "v"
            refine ⟨D,lw,es.filter nsm,xs,rfl,eD,ew3,by walk_at "o",by walk_at "o",g8,fun R3 x y z H4 s4 hx hy hz e4=>?_⟩
            refine r_unlist3 e4 ?_
            obtain ⟨hx1,hx2⟩:=List.mem_filter.mp hx
            obtain ⟨hy1,hy2⟩:=List.mem_filter.mp hy
            obtain ⟨hz1,hz2⟩:=List.mem_filter.mp hz
            obtain ⟨fx1,fx2,fx3⟩:=(hes x hx1).up (s3.trans s4)
            obtain ⟨fy1,fy2,fy3⟩:=(hes y hy1).up (s3.trans s4)
            obtain ⟨fz1,fz2,fz3⟩:=(hes z hz1).up (s3.trans s4)
            obtain ⟨nx,ex⟩:=nsm_some hx2
            obtain ⟨ny,ey⟩:=nsm_some hy2
            obtain ⟨nz,ez⟩:=nsm_some hz2
            have zx:=fx3 nx ex
            have zy:=fy3 ny ey
            have zz:=fz3 nz ez
            rw [ex] at fx1
            rw [ey] at fy1
            rw [ez] at fz1
            simp only [nnv] at fx1 fy1 fz1
            walk_at "v"
            have ew4:=s4 _ _ ew3
            refine ite2 (fun c4=>?_) (fun c4=>?_)
            · have c4':=of_decide_eq_true c4
              walk_at "v"
              refine ite2 (fun c5=>?_) (fun c5=>?_)
              · have c5':=of_decide_eq_true c5
                have zs1:Sz 46 (z.2.1-x.2.1):=fz2.sub fx2
                have zs2:Sz 46 (z.2.1-y.2.1):=fz2.sub fy2
                have zs3:Sz 46 (y.2.1-x.2.1):=fy2.sub fx2
                have zsh:Sz 2 share:=show share.natAbs<2 ^ 2 by walk_at "o"
                have m1:Sz 146 (ny*(z.2.1-x.2.1)):=zy.mul zs1
                have m2:Sz 146 (nx*(z.2.1-y.2.1)):=zx.mul zs2
                have m3:Sz 146 (nz*(y.2.1-x.2.1)):=zz.mul zs3
                walk_at "v"
                refine r_I (mulOk zy zs1) ?_
                walk_at "v"
                refine r_I (mulOk zx zs2) ?_
                walk_at "v"
                refine r_I (mulOk zz zs3) ?_
                walk_at "v"
                refine r_I (mulOk zsh zs1) ?_
                walk_at "v"
                have zby:Sz 48 (share*(z.2.1-x.2.1)):=zsh.mul zs1
                refine ⟨R,es,share*(z.2.1-x.2.1),100,48,rfl,s4 _ _ eR3,fun u hu=>(hes u hu).up (s3.trans s4),by walk_at "o",zby,by decide,fun R5 es5 H5 s5 n5 e5 hes5 hmap=>?_⟩
                walk_at "v"
                refine r_I (mulOk zb zby) ?_
                walk_at "v"
                rw [abs_cast]
                refine r_new (mk:=.tup) (by simp) fun p6 H6 s6 n6 e6=>?_
                have hle:es5.length=es.length:=by
                  have:=congrArg List.length hmap
                  simpa using this
                have p1:1≤share*(z.2.1-x.2.1):=mul_pos1 (by walk_at "o") (by walk_at "o")
                have zst:Sz 148 (ny*(z.2.1-x.2.1)-nx*(z.2.1-y.2.1)-nz*(y.2.1-x.2.1)):=(m1.sub m2).sub (m3.mono (by decide))
                refine k p6 R5 es5 _ _ H6 ((s13.trans s4).trans (s5.trans s6)) e6 ((s13.trans s4).free n5) (s6 _ _ e5) (fun x hx=>let ⟨q1,q2,q3⟩:=(hes5 x hx).up s6;⟨q1,q2,fun z hz=>(q3 z hz).mono (by decide)⟩) (by walk_at "o") ?_ (mul_pos1 b1 p1) ((zb.mul zby).mono (by decide)) (by walk_at "o") ((zst.of_le (by simp)).mono (by decide))
                refine nrising_of ?_ hri
                have e:=congrArg (List.map Prod.fst) hmap
                rw [List.map_map,List.map_map] at e
                exact e
              · walk_at "v"
                refine r_l ew4 (at_ints g6 rfl) ?_
                walk_at "v"
                refine r_I (mulOk (show Sz 3 x6 from by show x6.natAbs<2 ^ 3;walk_at "o") zsc) ?_
                walk_at "v"
                refine r_new (mk:=.tup) (by simp) fun p6 H6 s6 n6 e6=>?_
                exact plain p6 H6 (s4.trans s6) e6
            · walk_at "v"
              refine iteF ?_
              walk_at "v"
              refine r_l ew4 (at_ints g6 rfl) ?_
              walk_at "v"
              refine r_I (mulOk (show Sz 3 x6 from by show x6.natAbs<2 ^ 3;walk_at "o") zsc) ?_
              walk_at "v"
              refine r_new (mk:=.tup) (by simp) fun p6 H6 s6 n6 e6=>?_
              exact plain p6 H6 (s4.trans s6) e6
          · walk_at "v"
            refine r_l ew3 (at_ints g6 rfl) ?_
            walk_at "v"
            refine r_I (mulOk (show Sz 3 x6 from by show x6.natAbs<2 ^ 3;walk_at "o") zsc) ?_
            walk_at "v"
            refine r_new (mk:=.tup) (by simp) fun p6 H6 s6 n6 e6=>?_
            exact plain p6 H6 s6 e6
        · refine iteF ?_
          walk_at "v"
          refine r_l ew3 (at_ints g6 rfl) ?_
          walk_at "v"
          refine r_I (mulOk (show Sz 3 x6 from by show x6.natAbs<2 ^ 3;walk_at "o") zsc) ?_
          walk_at "v"
          refine r_new (mk:=.tup) (by simp) fun p6 H6 s6 n6 e6=>?_
          exact plain p6 H6 s6 e6
      · refine iteF ?_
        walk_at "v"
        refine r_l ew3 (at_ints g6 rfl) ?_
        walk_at "v"
        refine r_I (mulOk (show Sz 3 x6 from by show x6.natAbs<2 ^ 3;walk_at "o") zsc) ?_
        walk_at "v"
        refine r_new (mk:=.tup) (by simp) fun p6 H6 s6 n6 e6=>?_
        exact plain p6 H6 s6 e6
  refine ⟨_,(J.e (J.i (i:=4) sc_law_drawn.nd rfl (Or.inl rfl) (J.t (J.b (J.h op_add (J.a 2) J.c) (J.b J.c (J.b J.c (J.b J.c (J.b J.c (J.b J.c (J.b J.c (J.b J.c (J.b J.c (J.b J.c (J.b J.c (J.b J.c (J.b J.c J.d st_C) st_C) st_C) st_C) st_C) st_C) st_C) st_C) st_C) st_C) st_C) st_C) st_B)) (hs:=sw_L))
      (J.e (J.i (i:=5) sc_law_drawn.nd rfl (Or.inl rfl) (J.j D_law_row (hr.mono (by decide)) rfl (J.b (J.a 0) (J.b (J.a 1) (J.b (J.h op_cat (J.a 4) (J.h op_rep (J.t (J.b J.c (J.b J.c (J.b J.c J.d st_C) st_C) st_C)) (J.a 2))) J.d st_B) st_N) st_N) (he:=st_N) (hpl:=(anyc st_N (anyc st_B any0)))) (hs:=sw_K))
      (J.e (J.i (i:=6) sc_law_drawn.nd rfl (Or.inl rfl) (J.f (ixL K) (J.t (J.b J.c (J.b J.c (J.b J.c (J.b J.c (J.b J.c (J.b J.c (J.b J.c (J.b J.c (J.b J.c (J.b J.c (J.b J.c (J.b (J.h op_add (J.h op_pow J.c J.c) J.c) J.d st_B) st_C) st_C) st_C) st_C) st_C) st_C) st_C) st_C) st_C) st_C) st_C)) (J.f (ixL K) (J.a 5) J.c (fun _ _=>rfl)) (fun _ _=>rfl)) (hs:=sw_S))
      (J.e (J.i (i:=7) sc_law_drawn.nd rfl (Or.inl rfl) (J.f (ixL K) (J.t (J.b J.c (J.b J.c (J.b J.c (J.b (J.h op_pow J.c J.c) (J.b (J.h op_add (J.h op_pow J.c J.c) J.c) J.d st_B) st_B) st_C) st_C) st_C)) (J.f (ixL K) (J.a 5) J.c (fun _ _=>rfl)) (fun _ _=>rfl)) (hs:=sw_S))
      (J.e (J.i (i:=8) sc_law_drawn.nd rfl (Or.inl rfl) (J.m (J.b J.c (J.b J.c J.d st_C) st_C)) (hs:=sw_T))
      (J.e (J.o (J.n op_gt (J.a 3) J.c (nomark _))
      (J.e (J.i (i:=9) sc_law_drawn.nd rfl (Or.inl rfl) (J.h op_sub (J.z un_neg (J.h op_pow J.c J.c)) J.c) (hs:=sw_B))
      (J.g (J.i (i:=8) sc_law_drawn.nd rfl (Or.inl rfl) (J.f (ixL K) (J.t (J.b (J.m (J.b J.c (J.b J.c J.d st_C) st_C)) (J.b (J.m (J.b J.c (J.b J.c J.d st_C) st_C)) (J.b (J.m (J.b J.c (J.b (J.z un_neg J.c) J.d st_U) st_C)) (J.b (J.m (J.b (J.a 9) (J.b (J.h op_pow J.c J.c) J.d st_B) st_N)) J.d st_T) st_T) st_T) st_T)) (J.f (ixL K) (J.a 5) J.c (fun _ _=>rfl)) (fun _ _=>rfl)) (hs:=sw_S))))
      J.s)
      hu)))))),?_⟩
  walk_at "v"
  refine r_new (mk:=.lst) (by simp) fun l1 H1 s1 n1 e1=>?_
  walk_at "v"
  refine r_new (mk:=.lst) (by simp) fun l2 H2 s2 n2 e2=>?_
  walk_at "v"
  refine r_rep e2 (by omega) (by omega) ?_
  refine r_new (mk:=.lst) (by rw [len_rep];simp;walk_at "o") fun l3 H3 s3 n3 e3=>?_
  walk_at "v"
  refine r_cat (s3 _ _ (s2 _ _ e1)) e3 ?_
  refine r_new (mk:=.lst) (by rw [List.length_append,len_rep];simp;walk_at "o") fun l4 H4 s4 n4 e4=>?_
  have s04:=s1.trans (s2.trans (s3.trans s4))
  walk_at "v"
  refine ⟨a,ns,i,l4,dsz most,rfl,s04.seq hS,h0,by walk_at "o",by rw [e4];exact congrArg (fun z=>some (HO.lst z)) (dsz_map most),by rw [dsz_len];walk_at "o",dsz_pos hm,fun lw xs H5 s5 n5 e5 hlen hxs=>?_⟩
  obtain ⟨c,hc,S⟩:=dsz_shp hlen hxs
  obtain ⟨x2,g2,a2,b2⟩:=row_get hlen hxs 2 (z:=5) rfl
  obtain ⟨x3,g3,a3,b3⟩:=row_get hlen hxs 3 (z:=12) rfl
  obtain ⟨x6,g6,a6,b6⟩:=row_get hlen hxs 6 (z:=7) rfl
  obtain ⟨x7,g7,a7,b7⟩:=row_get hlen hxs 7 (z:=3) rfl
  obtain ⟨x8,g8,_⟩:=row_get hlen hxs 8 (z:=40) rfl
  obtain ⟨x9,g9,_⟩:=row_get hlen hxs 9 (z:=40) rfl
  obtain ⟨x10,g10,_⟩:=row_get hlen hxs 10 (z:=40) rfl
  obtain ⟨x11,g11,a11,b11⟩:=row_get hlen hxs 11 (z:=4) rfl
  have g8':∀k,k<3→∃x,xs[k+8]?=some x:=fun k hk=>by
    rcases (show k=0∨k=1∨k=2 by walk_at "o") with rfl | rfl | rfl
    · exact ⟨_,g8⟩
    · exact ⟨_,g9⟩
    · exact ⟨_,g10⟩
  walk_at "v"
  refine r_new (mk:=.lst) (by simp) fun l6 H6 s6 n6 e6=>?_
  walk_at "v"
  refine r_l (s6 _ _ e5) (at_ints g3 rfl) ?_
  obtain ⟨b,eb,hb1,hb2⟩:=pickP (zs:=[1,2,3,4,5,6,12,30,60,1001,9699690,10 ^ (9:Int).toNat+7]) (fun z=>1≤z∧Sz 30 z) (by decide +kernel) a3 b3
  refine r_l e6 eb ?_
  walk_at "v"
  refine r_new (mk:=.lst) (by simp) fun l7 H7 s7 n7 e7=>?_
  walk_at "v"
  refine r_l (s7 _ _ (s6 _ _ e5)) (at_ints g2 rfl) ?_
  obtain ⟨sc,esc,hsc0,hsc⟩:=pickP (zs:=[1,1,7,10 ^ (6:Int).toNat,10 ^ (12:Int).toNat+39]) (fun z=>0≤z∧Sz 45 z) (by decide +kernel) a2 b2
  refine r_l e7 esc ?_
  walk_at "v"
  refine r_new (mk:=.tup) (by simp) fun t0 H8 s8 n8 e8=>?_
  have s58:=s6.trans (s7.trans s8)
  have s08:=(s04.trans s5).trans s58
  have e58:=s58 _ _ e5
  walk_at "v"
  refine ite2 (fun c1=>?_) (fun c1=>?_)
  · walk_at "v"
    refine r_new (mk:=.tup) (by simp) fun p1 H9 s9 n9 e9=>?_
    walk_at "v"
    refine r_new (mk:=.tup) (by simp) fun p2 H10 s10 n10 e10=>?_
    walk_at "v"
    refine r_new (mk:=.tup) (by simp) fun p3 H11 s11 n11 e11=>?_
    walk_at "v"
    refine r_new (mk:=.tup) (by simp) fun p4 H12 s12 n12 e12=>?_
    walk_at "v"
    refine r_new (mk:=.lst) (by simp) fun l8 H13 s13 n13 e13=>?_
    have s813:=s9.trans (s10.trans (s11.trans (s12.trans s13)))
    walk_at "v"
    refine r_l (s813 _ _ e58) (at_ints g11 rfl) ?_
    have s1213:=s12.trans s13
    rcases (show x11=0∨x11=1∨x11=2∨x11=3 by walk_at "o") with rfl | rfl | rfl | rfl
    · refine r_l e13 at0 ?_
      exact hR _ _ ⟨lw,p1,xs,c,b,sc,0,0,x6,x7,_,_,rfl,s08.trans s813,s813 _ _ e58,hc,S,g6,a6,b6,g7,g8',hb1,hb2,hsc0,hsc,(s10.trans (s11.trans s1213)) _ _ e9,by decide,by decide⟩
    · refine r_l e13 at1 ?_
      exact hR _ _ ⟨lw,p2,xs,c,b,sc,0,0,x6,x7,_,_,rfl,s08.trans s813,s813 _ _ e58,hc,S,g6,a6,b6,g7,g8',hb1,hb2,hsc0,hsc,(s11.trans s1213) _ _ e10,by decide,by decide⟩
    · refine r_l e13 at2 ?_
      exact hR _ _ ⟨lw,p3,xs,c,b,sc,7,-3,x6,x7,_,_,rfl,s08.trans s813,s813 _ _ e58,hc,S,g6,a6,b6,g7,g8',hb1,hb2,hsc0,hsc,s1213 _ _ e11,by decide,by decide⟩
    · refine r_l e13 at3 ?_
      exact hR _ _ ⟨lw,p4,xs,c,b,sc,_,_,x6,x7,_,_,rfl,s08.trans s813,s813 _ _ e58,hc,S,g6,a6,b6,g7,g8',hb1,hb2,hsc0,hsc,s13 _ _ e12,by decide +kernel,by decide +kernel⟩
  · walk_at "v"
    exact hR _ _ ⟨lw,t0,xs,c,b,sc,0,0,x6,x7,_,_,rfl,s08,e58,hc,S,g6,a6,b6,g7,g8',hb1,hb2,hsc0,hsc,e8,by decide,by decide⟩
end

noncomputable def mo (es:List En) (k:Nat):Int:=((es[k]?).map (·.2.1)).getD 0
noncomputable def wo (es:List En) (k:Nat):Rat:=((es[k]?).bind (·.2.2)).getD 0
noncomputable def sd (es:List En) (i k j:Nat):Rat:=wo es k-chord (mo es i) (wo es i) (mo es k) (mo es j) (wo es j)
noncomputable def AllS (es:List En):Prop:=∀x∈es,smp x=true
theorem sa_at {H:Hp} {es:List En} {n k:Nat} (hR:Row H es n) (hS:AllS es) (hk:k<es.length):∃x,es[k]?=some x∧SaAt H x.1 (mo es k) (wo es k) n:=by
  have g:es[k]?=some es[k]:=List.getElem?_eq_getElem hk
  have hm:es[k]∈es:=List.getElem_mem hk
  refine ⟨es[k],g,?_⟩
  have h1:=hR _ hm
  have h2:(es[k]).2.2.isSome=true:=hS _ hm
  unfold mo wo
  rw [g]
  generalize es[k]=x at *
  obtain ⟨a,m,v⟩:=x
  cases v with
  | none=>cases h2
  | some q=>
    obtain ⟨z,p,e,f⟩:=h1
    exact ⟨p,e,f,z⟩
theorem mo_lt {es:List En} {i j:Nat} (h:rising es) (hij:i<j) (hj:j<es.length):mo es i<mo es j:=by
  have hi:i<es.length:=by walk_at "o"
  unfold mo
  rw [List.getElem?_eq_getElem hi,List.getElem?_eq_getElem hj]
  exact List.pairwise_iff_getElem.mp h i j hi hj hij
theorem at_val {es:List En} {i:Nat} {j:Int} {x:En} (h:es[i]?=some x) (hj:j=(i:Int)):atI (vals es) j=some (.ref x.1):=by
  subst hj
  exact atI_nat (vals_get h)
section
variable {P:Program} {w:World} {K:PySem.W.Frag} {mg:Str→Option Value} {base:Heap} {f:Addr} {fd:FuncData}
end

noncomputable def nworth (b:Int) (x:Int×Option Int):Int×Option Rat:=(x.1,x.2.map fun z:Int=>(z:Rat)/(b:Rat))
noncomputable def spHanded:Sp:=fun vs H Q _=>∃(l:Addr) (es:List Nn) (b:Int) (m n nb N:Nat),vs=[.ref l,.int b]∧H l=some (.lst (nvals es))∧NRow H es m n∧es.length≤900∧1≤b∧Sz nb b∧m≤N∧n≤N∧nb≤N∧N≤8000 ∧
  ∀(R:Addr) (es':List En) (H':Hp),Same H H'→H R=none→H' R=some (.lst (vals es'))→Row H' es' N→es'.map (·.2)=es.map (fun x=>nworth b x.2)→Q (.ref R) H'
theorem r_unpack3 {σ:St} {H:Hp} {K:PySem.W.Frag} {p:Addr} {x y z:V} {i j k:Nat} {R:St→Hp→Prop} (h:H p=some (.tup [x,y,z])) (q:R (((σ.set i (some x)).set j (some y)).set k (some z)) H):gTup K 3 (gCons (gName i) (gCons (gName j) (gCons (gName k) gNil))) (.ref p) σ H R:=
  ⟨p,_,rfl,SqT.of h,rfl,x,_,rfl,y,_,rfl,z,_,rfl,rfl,q⟩
section
variable {P:Program} {w:World} {K:PySem.W.Frag} {mg:Str→Option Value} {base:Heap} {f:Addr} {fd:FuncData}
theorem sc_law_handed:FnScope ["_law_row_here","_law_bottom","_law_handed_here","_law_moment","_law_number"] ["_law_row_here","_law_bottom"] (defScope s_law_handed):=⟨rfl,rfl,rfl,by decide +kernel,rfl,by decide +kernel,by decide +kernel⟩
theorem ok_law_handed (F:Fun K "_law_handed" "_law_handed" s_law_handed f fd) (D_law_ratio:Dn P w K mg base 1 "_law_ratio" ["_law_top","_law_bottom"] spRatio):FnOk P w K mg base CX0 2 f fd ["_law_row_here","_law_bottom"] spHanded:=by
  refine F.ok sc_law_handed (fun vs H Q E h=>?_) (fun cdv A outer s H vs Q E hr h=>?_)
  · obtain ⟨l,es,b,m,n,nb,N,rfl,_⟩:=h
    rfl
  obtain ⟨l,es,b,m,n,nb,N,rfl,hl,hes,h40,hb,zb,hmN,hnN,hbN,hN,k⟩:=h
  refine J.l ⟨_,(J.e (J.i (i:=2) sc_law_handed.nd rfl (Or.inl rfl) (J.t J.d) (hs:=sw_L))
      (J.e (J.ab PassesOwn.never rfl (J.x K (J.a 0)) (Jd.pgT K (n:=2) rfl (J.aa (J.q (i:=3) sc_law_handed.nd rfl (Or.inl rfl)) (J.aa (J.q (i:=4) sc_law_handed.nd rfl (Or.inl rfl)) Jd.pgs_nil)))
      (J.g (J.o (J.n op_isN (J.a 4) J.v (nomark _))
      (J.g (J.u (J.w K (J.a 2) (J.m (J.b (J.a 3) (J.b J.v J.d st_C) st_N))) (hs:=sw_K)))
      (J.g (J.u (J.w K (J.a 2) (J.m (J.b (J.a 3) (J.b (J.j D_law_ratio (hr.mono (by decide)) rfl (J.b (J.a 4) (J.b (J.a 1) J.d st_N) st_N) (he:=st_N) (hpl:=(anyc st_N any0))) J.d st_K) st_N))) (hs:=sw_K))))))
      (J.g (J.k (J.a 2))))),?_⟩
  walk_at "v"
  refine r_new (mk:=.lst) (by simp) fun R H1 s1 n1 e1=>?_
  walk_at "v"
  refine r_for (r_iL ?_)
  walk_at "v"
  refine ⟨l,rfl,⟨_,SqL.of (s1 _ _ hl)⟩,for_list (xs:=nvals es) (fun i σ H3=>∃(es':List En) (v3 v4:Option V),σ=[some (.ref l),some (.int b),some (.ref R),v3,v4]∧Same H H3∧H3 R=some (.lst (vals es'))∧Row H3 es' N∧es'.length=i∧es'.map (·.2)=(es.take i).map (fun x=>nworth b x.2)) ?_ ?_ ?_ ?_⟩
  · exact ⟨[],none,none,rfl,s1,e1,fun x hx=>absurd hx (by simp),rfl,rfl⟩
  · rintro i σ H3 _ ⟨es',v3,v4,rfl,s3,_⟩
    exact SqL.of (s3 _ _ hl)
  · rintro i x σ H3 hx ⟨es',v3,v4,rfl,s3,e3,hes',hl',hmap⟩
    obtain ⟨e,he,rfl⟩:=nvals_at hx
    have hi:i<es.length:=(List.getElem?_eq_some_iff.mp he).1
    have fe:=(hes e (List.mem_of_getElem? he)).up s3
    have tk:es.take (i+1)=es.take i++[e]:=by rw [List.take_add_one,he];rfl
    have fin:∀(y:Addr) (H4:Hp) (v3 v4:Option V),Same H3 H4→EnAt H4 (y,nworth b e.2) N→∃(es'':List En) (v3' v4':Option V),[some (.ref l),some (.int b),some (.ref R),v3,v4]=[some (.ref l),some (.int b),some (.ref R),v3',v4'] ∧
        Same H (upd H4 R (.lst (vals es'++[.ref y])))∧upd H4 R (.lst (vals es'++[.ref y])) R=some (.lst (vals es''))∧Row (upd H4 R (.lst (vals es'++[.ref y]))) es'' N∧es''.length=i+1∧es''.map (·.2)=(es.take (i+1)).map (fun x=>nworth b x.2):=by
      intro y H4 v3 v4 s4 f4
      have e4:=s4 _ _ e3
      refine ⟨es'++[(y,nworth b e.2)],v3,v4,rfl,same_at (s3.trans s4) n1,by rw [upd_same];exact congrArg (fun z=>some (HO.lst z)) (vals_snoc es' (y,nworth b e.2)),((hes'.up s4).snoc f4).app e4,by rw [List.length_append,hl'];rfl,?_⟩
      rw [tk,List.map_append,List.map_append,hmap]
      rfl
    obtain ⟨a,mm,v⟩:=e
    cases v with
    | none=>
      refine r_unpack2 fe.1 ?_
      walk_at "v"
      refine ⟨rfl,?_⟩
      walk_at "v"
      refine iteT ?_
      walk_at "v"
      refine ⟨.inl ⟨rfl,_,SqL.of e3⟩,?_⟩
      walk_at "v"
      refine r_new (mk:=.tup) (by simp) fun y H4 s4 n4 e4=>?_
      walk_at "v"
      refine r_app (s4 _ _ e3) (by rw [vals_len];exact small1000 (by walk_at "o")) ?_
      exact fin y H4 _ _ s4 ⟨fe.2.1.mono hmN,e4⟩
    | some z=>
      have zz:=fe.2.2 z rfl
      refine r_unpack2 fe.1 ?_
      walk_at "v"
      refine ⟨rfl,?_⟩
      walk_at "v"
      refine iteF ?_
      walk_at "v"
      refine ⟨.inl ⟨rfl,_,SqL.of e3⟩,?_⟩
      walk_at "v"
      refine frac_gen (n:=N) (by walk_at "o") (zz.mono hnN) (zb.mono hbN) hN fun p H4 s4 f4=>?_
      walk_at "v"
      refine r_new (mk:=.tup) (by simp) fun y H5 s5 n5 e5=>?_
      walk_at "v"
      refine r_app ((s4.trans s5) _ _ e3) (by rw [vals_len];exact small1000 (by walk_at "o")) ?_
      exact fin y H5 _ _ (s4.trans s5) ⟨fe.2.1.mono hmN,p,e5,f4.up s5⟩
  · rintro σ H3 ⟨es',v3,v4,rfl,s3,e3,hes',hl',hmap⟩
    rw [nvals_len,List.take_length] at hmap
    walk_at "v"
    exact k R es' H3 s3 n1 e3 hes' hmap
end
section
variable {es:List En} {hs:List Nn} {b:Int} (h:es.map (·.2)=hs.map (fun x=>nworth b x.2))
include h
theorem link_len:es.length=hs.length:=by
  have:=congrArg List.length h
  simpa using this
theorem link_rising (hr:nrising hs):rising es:=by
  have k:(hs.map fun x=>x.2.1).Pairwise (·<·):=List.pairwise_map.mpr hr
  have e:=congrArg (List.map Prod.fst) h
  rw [List.map_map,List.map_map] at e
  have e':es.map (fun x=>x.2.1)=hs.map (fun x=>x.2.1):=e
  rw [← e'] at k
  exact List.pairwise_map.mp k
end
noncomputable abbrev Qs:=List (Addr×Rat)
noncomputable def qrefs (rs:Qs):List V:=rs.map fun x=>V.ref x.1
theorem qrefs_at {rs:Qs} {i:Nat} {v:V} (h:(qrefs rs)[i]?=some v):∃x,rs[i]?=some x∧v=.ref x.1:=by
  unfold qrefs at h
  rw [List.getElem?_map] at h
  cases e:rs[i]? with
  | none=>rw [e] at h;cases h
  | some x=>rw [e] at h;cases h;exact ⟨x,rfl,rfl⟩
noncomputable def AllQ (H:Hp) (rs:Qs) (n:Nat):Prop:=∀x∈rs,QtAt H x.1 x.2 n
theorem QtAt.app {H:Hp} {R p:Addr} {q:Rat} {n:Nat} {ys:List V} {o:HO} (f:QtAt H p q n) (h:H R=some (.lst ys)):QtAt (upd H R o) p q n:=
  let ⟨t,b,e,f⟩:=f
  ⟨t,b,(rm_up R H o) _ _ (rm_tup h e),f⟩
noncomputable def SaQ (H:Hp) (p:Addr) (t:Int) (q:Rat) (n m:Nat):Prop:=∃v:Addr,H p=some (.tup [.int t,.ref v])∧QtAt H v q n∧Sz m t
theorem SaQ.up {H H':Hp} {p:Addr} {t:Int} {q:Rat} {n m:Nat} (f:SaQ H p t q n m) (s:Same H H'):SaQ H' p t q n m:=let ⟨v,e,f,z⟩:=f;⟨v,s _ _ e,f.up s,z⟩
theorem SaAt.saq {H:Hp} {p:Addr} {t:Int} {q:Rat} {n:Nat} (f:SaAt H p t q n):SaQ H p t q n n:=let ⟨v,e,f,z⟩:=f;⟨v,e,f.qt,z⟩
noncomputable def lowS (es:List En) (β:Rat) (i k:Nat):Rat:=(wo es k-β-wo es i)/((mo es k:Rat)-(mo es i:Rat))
noncomputable def highS (es:List En) (β:Rat) (i k:Nat):Rat:=(wo es k+β-wo es i)/((mo es k:Rat)-(mo es i:Rat))
noncomputable def spLslopeQ:Sp:=fun vs H Q _=>∃(p r:Addr) (t t':Int) (q q':Rat) (n n' m:Nat),vs=[.ref p,.ref r]∧SaQ H p t q n m∧SaQ H r t' q' n' m∧t<t'∧n+n'+m≤20000 ∧
  ∀(s:Addr) (H':Hp),Same H H'→QtAt H' s ((q'-q)/((t':Rat)-(t:Rat))) (n+n'+m+2)→Q (.ref s) H'
noncomputable def spGreat:Sp:=fun vs H Q _=>∃(l:Addr) (rs:Qs) (n:Nat),vs=[.ref l]∧H l=some (.lst (qrefs rs))∧AllQ H rs n∧n≤20000∧0<rs.length∧∀x∈rs,(∀y∈rs,y.2≤x.2)→Q (.ref x.1) H
noncomputable def spSmall:Sp:=fun vs H Q _=>∃(l:Addr) (rs:Qs) (n:Nat),vs=[.ref l]∧H l=some (.lst (qrefs rs))∧AllQ H rs n∧n≤20000∧0<rs.length∧∀x∈rs,(∀y∈rs,x.2≤y.2)→Q (.ref x.1) H
section
variable {P:Program} {w:World} {K:PySem.W.Frag} {mg:Str→Option Value} {base:Heap} {f:Addr} {fd:FuncData}
theorem sc_greatest:FnScope ["quotients","found","quotient"] ["quotients"] (defScope s_greatest):=⟨rfl,rfl,rfl,by decide +kernel,rfl,by decide +kernel,by decide +kernel⟩
theorem ok_greatest (F:Fun K "greatest" "greatest" s_greatest f fd) (D_order:Dn P w K mg base 1 "order" ["one","other"] spOrderQ):FnOk P w K mg base CX0 2 f fd ["quotients"] spGreat:=by
  refine F.ok sc_greatest (fun vs H Q E h=>?_) (fun cdv A outer s H vs Q E hr h=>?_)
  · obtain ⟨l,rs,n,rfl,_⟩:=h
    rfl
  obtain ⟨l,rs,n,rfl,hl,hq,hn,hp,k⟩:=h
  have g0:rs[0]?=some rs[0]:=List.getElem?_eq_getElem hp
  refine J.l ⟨_,(J.e (J.i (i:=1) sc_greatest.nd rfl (Or.inl rfl) (J.f (ixL K) (J.a 0) J.c (fun _ _=>rfl)) (hs:=sw_S))
      (J.e (J.ab PassesOwn.never rfl (J.x K (J.a 0)) (J.q (i:=2) sc_greatest.nd rfl (Or.inl rfl))
      (J.g (J.o (J.n op_gt (J.j D_order (hr.mono (by decide)) rfl (J.b (J.a 2) (J.b (J.a 1) J.d st_N) st_N) (he:=st_N) (hpl:=(anyc st_N any0))) J.c (nomark _))
      (J.g (J.i (i:=1) sc_greatest.nd rfl (Or.inl rfl) (J.a 2) (hs:=sw_N)))
      J.s)))
      (J.g (J.k (J.a 1))))),?_⟩
  walk_at "v"
  refine r_l hl (v:=.ref (rs[0]).1) (atI_nat (j:=0) (by unfold qrefs;rw [List.getElem?_map,g0];rfl)) ?_
  walk_at "v"
  refine r_for (r_iL ?_)
  walk_at "v"
  refine ⟨l,rfl,⟨_,SqL.of hl⟩,for_list (xs:=qrefs rs) (fun i σ H3=>H3=H∧∃(x:Addr×Rat) (v:Option V),x∈rs∧σ=[some (.ref l),some (.ref x.1),v]∧∀y∈rs.take i,y.2≤x.2) ?_ ?_ ?_ ?_⟩
  · exact ⟨rfl,rs[0],none,List.getElem_mem hp,rfl,fun y hy=>by simp at hy⟩
  · rintro i σ H3 _ ⟨rfl,_⟩
    exact SqL.of hl
  · rintro i v σ H3 hx ⟨rfl,x,v2,hm,rfl,hle⟩
    obtain ⟨y,gy,rfl⟩:=qrefs_at hx
    have hy:=List.mem_of_getElem? gy
    have tk:rs.take (i+1)=rs.take i++[y]:=by rw [List.take_add_one,gy];rfl
    walk_at "v"
    refine ⟨y.1,x.1,y.2,x.2,n,n,rfl,hq y hy,hq x hm,by walk_at "o",fun o ho1 ho2=>?_⟩
    walk_at "v"
    refine ite2 (fun c=>?_) (fun c=>?_)
    · have c':=ho1.mp (of_decide_eq_true c)
      walk_at "v"
      refine ⟨rfl,y,_,hy,rfl,fun z hz=>?_⟩
      rw [tk] at hz
      rcases List.mem_append.mp hz with q | q
      · have:=hle z q
        grind
      · obtain rfl:z=y:=by simpa using q
        exact Rat.le_refl
    · have c':¬x.2<y.2:=fun z=>of_decide_eq_false (Bool.eq_false_iff.mpr c) (ho1.mpr z)
      walk_at "v"
      refine ⟨rfl,x,_,hm,rfl,fun z hz=>?_⟩
      rw [tk] at hz
      rcases List.mem_append.mp hz with q | q
      · exact hle z q
      · obtain rfl:z=y:=by simpa using q
        exact Rat.not_lt.mp c'
  · rintro σ H3 ⟨rfl,x,v2,hm,rfl,hle⟩
    walk_at "v"
    refine k x hm fun y hy=>hle y ?_
    have e:(qrefs rs).length=rs.length:=List.length_map ..
    rw [e,List.take_length]
    exact hy
theorem sc_smallest:FnScope ["quotients","found","quotient"] ["quotients"] (defScope s_smallest):=⟨rfl,rfl,rfl,by decide +kernel,rfl,by decide +kernel,by decide +kernel⟩
theorem ok_smallest (F:Fun K "smallest" "smallest" s_smallest f fd) (D_order:Dn P w K mg base 1 "order" ["one","other"] spOrderQ):FnOk P w K mg base CX0 2 f fd ["quotients"] spSmall:=by
  refine F.ok sc_smallest (fun vs H Q E h=>?_) (fun cdv A outer s H vs Q E hr h=>?_)
  · obtain ⟨l,rs,n,rfl,_⟩:=h
    rfl
  obtain ⟨l,rs,n,rfl,hl,hq,hn,hp,k⟩:=h
  have g0:rs[0]?=some rs[0]:=List.getElem?_eq_getElem hp
  refine J.l ⟨_,(J.e (J.i (i:=1) sc_smallest.nd rfl (Or.inl rfl) (J.f (ixL K) (J.a 0) J.c (fun _ _=>rfl)) (hs:=sw_S))
      (J.e (J.ab PassesOwn.never rfl (J.x K (J.a 0)) (J.q (i:=2) sc_smallest.nd rfl (Or.inl rfl))
      (J.g (J.o (J.n op_lt (J.j D_order (hr.mono (by decide)) rfl (J.b (J.a 2) (J.b (J.a 1) J.d st_N) st_N) (he:=st_N) (hpl:=(anyc st_N any0))) J.c (nomark _))
      (J.g (J.i (i:=1) sc_smallest.nd rfl (Or.inl rfl) (J.a 2) (hs:=sw_N)))
      J.s)))
      (J.g (J.k (J.a 1))))),?_⟩
  walk_at "v"
  refine r_l hl (v:=.ref (rs[0]).1) (atI_nat (j:=0) (by unfold qrefs;rw [List.getElem?_map,g0];rfl)) ?_
  walk_at "v"
  refine r_for (r_iL ?_)
  walk_at "v"
  refine ⟨l,rfl,⟨_,SqL.of hl⟩,for_list (xs:=qrefs rs) (fun i σ H3=>H3=H∧∃(x:Addr×Rat) (v:Option V),x∈rs∧σ=[some (.ref l),some (.ref x.1),v]∧∀y∈rs.take i,x.2≤y.2) ?_ ?_ ?_ ?_⟩
  · exact ⟨rfl,rs[0],none,List.getElem_mem hp,rfl,fun y hy=>by simp at hy⟩
  · rintro i σ H3 _ ⟨rfl,_⟩
    exact SqL.of hl
  · rintro i v σ H3 hx ⟨rfl,x,v2,hm,rfl,hle⟩
    obtain ⟨y,gy,rfl⟩:=qrefs_at hx
    have hy:=List.mem_of_getElem? gy
    have tk:rs.take (i+1)=rs.take i++[y]:=by rw [List.take_add_one,gy];rfl
    walk_at "v"
    refine ⟨y.1,x.1,y.2,x.2,n,n,rfl,hq y hy,hq x hm,by walk_at "o",fun o ho1 ho2=>?_⟩
    walk_at "v"
    refine ite2 (fun c=>?_) (fun c=>?_)
    · have c':=ho2.mp (of_decide_eq_true c)
      walk_at "v"
      refine ⟨rfl,y,_,hy,rfl,fun z hz=>?_⟩
      rw [tk] at hz
      rcases List.mem_append.mp hz with q | q
      · have:=hle z q
        grind
      · obtain rfl:z=y:=by simpa using q
        exact Rat.le_refl
    · have c':¬y.2<x.2:=fun z=>of_decide_eq_false (Bool.eq_false_iff.mpr c) (ho2.mpr z)
      walk_at "v"
      refine ⟨rfl,x,_,hm,rfl,fun z hz=>?_⟩
      rw [tk] at hz
      rcases List.mem_append.mp hz with q | q
      · exact hle z q
      · obtain rfl:z=y:=by simpa using q
        exact Rat.not_lt.mp c'
  · rintro σ H3 ⟨rfl,x,v2,hm,rfl,hle⟩
    walk_at "v"
    refine k x hm fun y hy=>hle y ?_
    have e:(qrefs rs).length=rs.length:=List.length_map ..
    rw [e,List.take_length]
    exact hy
theorem ok_loose_slopeQ (F:Fun K "loose_slope" "loose_slope" s_loose_slope f fd) (D_loose_minus:Dn P w K mg base 1 "loose_minus" ["one","other"] (spTwo (·-·) 1)):FnOk P w K mg base CX0 3 f fd ["one","other"] spLslopeQ:=by
  refine F.ok sc_loose_slope (fun vs H Q E h=>?_) (fun cdv A outer s H vs Q E hr h=>?_)
  · obtain ⟨p,r,t,t',q,q',n,n',m,rfl,_⟩:=h
    rfl
  obtain ⟨p,r,t,t',q,q',n,n',m,rfl,⟨v,hp,hv,zt⟩,⟨v',hr',hv',zt'⟩,ht,hn,k⟩:=h
  refine J.l ⟨_,(J.e (J.i (i:=2) sc_loose_slope.nd rfl (Or.inl rfl) (J.j D_loose_minus (hr.mono (by decide)) rfl (J.b (J.f (ixT K) (J.a 1) J.c (fun _ _=>rfl)) (J.b (J.f (ixT K) (J.a 0) J.c (fun _ _=>rfl)) J.d st_S) st_S) (he:=st_S) (hpl:=(anyc st_S any0))) (hs:=sw_K))
      (J.e (J.i (i:=3) sc_loose_slope.nd rfl (Or.inl rfl) (J.h op_sub (J.f (ixT K) (J.a 1) J.c (fun _ _=>rfl)) (J.f (ixT K) (J.a 0) J.c (fun _ _=>rfl))) (hs:=sw_B))
      (J.e (J.o (J.n op_lt (J.a 3) J.c (nomark _))
      (J.g (J.k (J.m (J.b (J.z un_neg (J.f (ixT K) (J.a 2) J.c (fun _ _=>rfl))) (J.b (J.h op_mulB (J.f (ixT K) (J.a 2) J.c (fun _ _=>rfl)) (J.z un_neg (J.a 3))) J.d st_B) st_U))))
      J.s)
      (J.g (J.k (J.m (J.b (J.f (ixT K) (J.a 2) J.c (fun _ _=>rfl)) (J.b (J.h op_mulB (J.f (ixT K) (J.a 2) J.c (fun _ _=>rfl)) (J.a 3)) J.d st_B) st_S))))))),?_⟩
  walk_at "v"
  refine ⟨v',v,q',q,n',n,rfl,hv',hv,by walk_at "o",fun x H1 s1 e1=>?_⟩
  obtain ⟨a,b,hx,hq,za,zb⟩:=e1
  have hp1:=s1 _ _ hp
  have hr1:=s1 _ _ hr'
  have zs:Sz (m+1) (t'-t):=zt'.sub zt
  walk_at "v"
  refine ite2 (fun c=>?_) (fun c=>?_)
  · have c':t'-t<0:=of_decide_eq_true c
    walk_at "o"
  · walk_at "v"
    refine r_I (mulOk zb zs (by walk_at "o")) ?_
    walk_at "v"
    refine r_new (mk:=.tup) (by simp) fun y H2 s2 n2 e2=>?_
    have q2:=hq.div (s:=t'-t) (by walk_at "o")
    rw [Rat.intCast_sub] at q2
    exact k y H2 (s1.trans s2) ⟨_,_,e2,q2,za.mono (by walk_at "o"),(zb.mul zs).mono (by walk_at "o")⟩
end

theorem putF_len {f:Str} {v:V}:∀{fs:List (Str×V)} {x:V},fs.lookup f=some x→(putF f v fs).length=fs.length
  | [],_,h=>by cases h
  | (g,y)::r,x,h=>by
    unfold putF
    by_cases e:g=f
    · rw [if_pos e];rfl
    · rw [if_neg e]
      have e':(f==g)=false:=by
        have:¬f=g:=fun z=>e z.symm
        simpa using this
      rw [List.lookup_cons,e'] at h
      show (putF f v r).length+1=r.length+1
      rw [putF_len h]
structure Fds (fs:List (Str×V)) (tw sl:Addr) (g s:V):Prop where
  len:fs.length≤10
  tw:fs.lookup ("twice":Str)=some (.ref tw)
  sl:fs.lookup ("samples":Str)=some (.ref sl)
  g:fs.lookup ("gentlest":Str)=some g
  s:fs.lookup ("steepest":Str)=some s
  no:∀m:Str,m ≠ "twice"→m ≠ "samples"→m ≠ "gentlest"→m ≠ "steepest"→fs.lookup m=none
theorem Fds.init (tw sl:Addr) (g s:V):Fds (putF "steepest" s (putF "gentlest" g (putF "samples" (.ref sl) (putF "twice" (.ref tw) [])))) tw sl g s:=by
  have a1:¬(("twice":Str) = "steepest"):=by decide +kernel
  have a2:¬(("twice":Str) = "gentlest"):=by decide +kernel
  have a3:¬(("twice":Str) = "samples"):=by decide +kernel
  have a4:¬(("samples":Str) = "steepest"):=by decide +kernel
  have a5:¬(("samples":Str) = "gentlest"):=by decide +kernel
  have a6:¬(("gentlest":Str) = "steepest"):=by decide +kernel
  refine ⟨?_,?_,?_,?_,?_,fun m m1 m2 m3 m4=>?_⟩
  · have l:∀(f:Str) (v:V) (fs:List (Str×V)),(putF f v fs).length≤fs.length+1:=by
      intro f v fs
      induction fs with
      | nil=>exact Nat.le_refl _
      | cons x r ih=>
        obtain ⟨g,y⟩:=x
        unfold putF
        split
        · exact Nat.le_succ _
        · exact Nat.succ_le_succ ih
    have l1:=l "steepest" s (putF "gentlest" g (putF "samples" (.ref sl) (putF "twice" (.ref tw) [])))
    have l2:=l "gentlest" g (putF "samples" (.ref sl) (putF "twice" (.ref tw) []))
    have l3:=l "samples" (.ref sl) (putF "twice" (.ref tw) [])
    have l4:=l "twice" (.ref tw) []
    simp only [List.length_nil] at l4
    walk_at "o"
  · rw [lookup_putF,if_neg a1,lookup_putF,if_neg a2,lookup_putF,if_neg a3,lookup_putF,if_pos rfl]
  · rw [lookup_putF,if_neg a4,lookup_putF,if_neg a5,lookup_putF,if_pos rfl]
  · rw [lookup_putF,if_neg a6,lookup_putF,if_pos rfl]
  · rw [lookup_putF,if_pos rfl]
  · rw [lookup_putF,if_neg m4,lookup_putF,if_neg m3,lookup_putF,if_neg m2,lookup_putF,if_neg m1]
    rfl
theorem Fds.setG {fs:List (Str×V)} {tw sl:Addr} {g s y:V} (h:Fds fs tw sl g s):Fds (putF "gentlest" y fs) tw sl y s:=by
  have a2:¬(("twice":Str) = "gentlest"):=by decide +kernel
  have a5:¬(("samples":Str) = "gentlest"):=by decide +kernel
  have a6:¬(("steepest":Str) = "gentlest"):=by decide +kernel
  refine ⟨by rw [putF_len h.g];exact h.len,?_,?_,?_,?_,fun m m1 m2 m3 m4=>?_⟩
  · rw [lookup_putF,if_neg a2];exact h.tw
  · rw [lookup_putF,if_neg a5];exact h.sl
  · rw [lookup_putF,if_pos rfl]
  · rw [lookup_putF,if_neg a6];exact h.s
  · rw [lookup_putF,if_neg m3];exact h.no m m1 m2 m3 m4
theorem Fds.setS {fs:List (Str×V)} {tw sl:Addr} {g s y:V} (h:Fds fs tw sl g s):Fds (putF "steepest" y fs) tw sl g y:=by
  have a2:¬(("twice":Str) = "steepest"):=by decide +kernel
  have a5:¬(("samples":Str) = "steepest"):=by decide +kernel
  have a6:¬(("gentlest":Str) = "steepest"):=by decide +kernel
  refine ⟨by rw [putF_len h.s];exact h.len,?_,?_,?_,?_,fun m m1 m2 m3 m4=>?_⟩
  · rw [lookup_putF,if_neg a2];exact h.tw
  · rw [lookup_putF,if_neg a5];exact h.sl
  · rw [lookup_putF,if_neg a6];exact h.g
  · rw [lookup_putF,if_pos rfl]
  · rw [lookup_putF,if_neg m4];exact h.no m m1 m2 m3 m4
theorem Fds.meth {fs:List (Str×V)} {tw sl:Addr} {g s:V} (h:Fds fs tw sl g s) (m:Str) (m1:m ≠ "twice":=by decide +kernel) (m2:m ≠ "samples":=by decide +kernel) (m3:m ≠ "gentlest":=by decide +kernel) (m4:m ≠ "steepest":=by decide +kernel):fs.lookup m=none:=h.no m m1 m2 m3 m4
noncomputable def rm2 (p L:Addr) (H:Hp):Hp:=rm p (rm L H)
theorem rm2_at {p L b:Addr} {H:Hp} (h1:b≠p) (h2:b≠L):rm2 p L H b=H b:=by unfold rm2;rw [rm_at h1,rm_at h2]
theorem rm2_same {p L:Addr} {H:Hp}:Same (rm2 p L H) H:=fun b o e=>rm_same _ _ (rm_same _ _ e)
section
variable {H H':Hp} {p L:Addr} {C dx:Addr} {fs:List (Str×V)} {ys:List V}
theorem rm2_tup {b:Addr} {xs:List V} (hp:H p=some (.ins C dx fs)) (hL:H L=some (.lst ys)) (h:H b=some (.tup xs)):rm2 p L H b=some (.tup xs):=by
  rw [rm2_at (fun e=>by rw [e,hp] at h;cases h) (fun e=>by rw [e,hL] at h;cases h)]
  exact h
theorem QtAt.out {b:Addr} {q:Rat} {n:Nat} (hp:H p=some (.ins C dx fs)) (hL:H L=some (.lst ys)) (f:QtAt H b q n):QtAt (rm2 p L H) b q n:=let ⟨t,d,e,f⟩:=f;⟨t,d,rm2_tup hp hL e,f⟩
theorem FrAt.out {b:Addr} {q:Rat} {n:Nat} (hp:H p=some (.ins C dx fs)) (hL:H L=some (.lst ys)) (f:FrAt H b q n):FrAt (rm2 p L H) b q n:=let ⟨t,d,e,f⟩:=f;⟨t,d,rm2_tup hp hL e,f⟩
theorem EnAt.out {x:En} {n:Nat} (hp:H p=some (.ins C dx fs)) (hL:H L=some (.lst ys)) (f:EnAt H x n):EnAt (rm2 p L H) x n:=by
  obtain ⟨a,m,v⟩:=x
  cases v with
  | none=>exact ⟨f.1,rm2_tup hp hL f.2⟩
  | some q=>
    obtain ⟨z,r,e,g⟩:=f
    exact ⟨z,r,rm2_tup hp hL e,g.out hp hL⟩
theorem Row.out {es:List En} {n:Nat} (hp:H p=some (.ins C dx fs)) (hL:H L=some (.lst ys)) (f:Row H es n):Row (rm2 p L H) es n:=fun x hx=>(f x hx).out hp hL
end
theorem SaAt.en {H:Hp} {b:Addr} {t:Int} {q:Rat} {n:Nat} (f:SaAt H b t q n):EnAt H (b,t,some q) n:=let ⟨v,e,f,z⟩:=f;⟨z,v,e,f⟩
theorem EnAt.sa {H:Hp} {b:Addr} {t:Int} {q:Rat} {n:Nat} (f:EnAt H (b,t,some q) n):SaAt H b t q n:=let ⟨z,v,e,f⟩:=f;⟨v,e,f,z⟩
noncomputable def Fit (es:List En) (B:Rat):Prop:=∀i j k l,i<j→j<es.length→k<l→l<es.length→lowS es B i j≤highS es B k l
noncomputable def IsG (es:List En) (B G:Rat):Prop:=(∀i j,i<j→j<es.length→lowS es B i j≤G)∧∃i j,i<j∧j<es.length∧lowS es B i j=G
noncomputable def IsS (es:List En) (B S:Rat):Prop:=(∀i j,i<j→j<es.length→S≤highS es B i j)∧∃i j,i<j∧j<es.length∧highS es B i j=S
theorem fit_iff {es:List En} {B G S:Rat} (g:IsG es B G) (s:IsS es B S):Fit es B↔G≤S:=by
  constructor
  · intro h
    obtain ⟨i,j,a1,a2,a3⟩:=g.2
    obtain ⟨k,l,b1,b2,b3⟩:=s.2
    rw [← a3,← b3]
    exact h i j k l a1 a2 b1 b2
  · intro h i j k l a1 a2 b1 b2
    have:=g.1 i j a1 a2
    have:=s.1 k l b1 b2
    grind
noncomputable def StOk (C:Addr) (H:Hp) (p L:Addr) (es:List En) (B:Rat) (n nb:Nat):Prop:=∃(dx tw:Addr) (fs:List (Str×V)) (g s:V),H p=some (.ins C dx fs)∧Fds fs tw L g s∧H L=some (.lst (vals es))∧Row H es n∧AllS es∧rising es∧QtAt H tw B nb ∧
  ((es.length<2∧g=.non∧s=.non)∨(2≤es.length∧∃(pg ps:Addr) (G S:Rat),g=.ref pg∧s=.ref ps∧QtAt H pg G (3*n+nb+3)∧QtAt H ps S (3*n+nb+3)∧IsG es B G∧IsS es B S∧G≤S))
theorem StOk.up {C:Addr} {H H':Hp} {p L:Addr} {es:List En} {B:Rat} {n nb:Nat} (h:StOk C H p L es B n nb) (s:Same H H'):StOk C H' p L es B n nb:=by
  obtain ⟨dx,tw,fs,g,s',h1,h2,h3,h4,h5,h6,h7,h8⟩:=h
  refine ⟨dx,tw,fs,g,s',s _ _ h1,h2,s _ _ h3,h4.up s,h5,h6,h7.up s,?_⟩
  rcases h8 with z | ⟨z,pg,ps,G,S,e1,e2,q1,q2,r⟩
  · exact .inl z
  · exact .inr ⟨z,pg,ps,G,S,e1,e2,q1.up s,q2.up s,r⟩
noncomputable def spInit (C:Addr):Sp:=fun vs H Q _=>∃(p dx pb:Addr) (β:Rat) (n:Nat),vs=[.ref p,.ref pb]∧H p=some (.ins C dx [])∧QtAt H pb β n∧n≤1000∧∀(L:Addr) (H':Hp) (k:Nat),Same (rm p H) H'→H L=none→StOk C H' p L [] (2*β) k (2*n+1)→Q .non H'
noncomputable def toNew (es:List En) (B:Rat) (m:Int) (q:Rat) (i:Nat):Rat:=(q+B-wo es i)/((m:Rat)-(mo es i:Rat))
noncomputable def spGentle:Sp:=fun vs H Q _=>∃(kv:V) (l x tw:Addr) (es:List En) (m:Int) (q B:Rat) (n nb:Nat),vs=[kv,.ref l,.ref x,.ref tw]∧H l=some (.lst (vals es))∧Row H es n∧AllS es∧SaAt H x m q n∧QtAt H tw B nb∧es.length≤900∧n≤1500∧nb≤3000∧(∀i,i<es.length→mo es i<m) ∧
  (kv=.non∨(0<es.length∧∃pk Kq,kv=.ref pk∧QtAt H pk Kq (3*n+nb+3)))∧(es.length=0→kv=.non→∀H',Same H H'→Q .non H') ∧
  (0<es.length→∀(pg:Addr) (G:Rat) (H':Hp),Same H H'→QtAt H' pg G (3*n+nb+3)→(∀pk Kq,kv=.ref pk→QtAt H pk Kq (3*n+nb+3)→Kq≤G)→(∀i,i<es.length→toNew es (-B) m q i≤G)→((∃i,i<es.length∧toNew es (-B) m q i=G)∨∃pk,kv=.ref pk∧QtAt H pk G (3*n+nb+3))→Q (.ref pg) H')
noncomputable def spSteep:Sp:=fun vs H Q _=>∃(kv:V) (l x tw:Addr) (es:List En) (m:Int) (q B:Rat) (n nb:Nat),vs=[kv,.ref l,.ref x,.ref tw]∧H l=some (.lst (vals es))∧Row H es n∧AllS es∧SaAt H x m q n∧QtAt H tw B nb∧es.length≤900∧n≤1500∧nb≤3000∧(∀i,i<es.length→mo es i<m) ∧
  (kv=.non∨(0<es.length∧∃pk Kq,kv=.ref pk∧QtAt H pk Kq (3*n+nb+3)))∧(es.length=0→kv=.non→∀H',Same H H'→Q .non H') ∧
  (0<es.length→∀(pg:Addr) (G:Rat) (H':Hp),Same H H'→QtAt H' pg G (3*n+nb+3)→(∀pk Kq,kv=.ref pk→QtAt H pk Kq (3*n+nb+3)→G≤Kq)→(∀i,i<es.length→G≤toNew es B m q i)→((∃i,i<es.length∧toNew es B m q i=G)∨∃pk,kv=.ref pk∧QtAt H pk G (3*n+nb+3))→Q (.ref pg) H')
noncomputable def spTakes (C:Addr):Sp:=fun vs H Q _=>∃(p L x:Addr) (es:List En) (m:Int) (q B:Rat) (n nb:Nat),vs=[.ref p,.ref x]∧StOk C H p L es B n nb∧SaAt H x m q n∧(∀i,i<es.length→mo es i<m)∧es.length≤900∧n≤1000∧nb≤3000∧0≤B ∧
  ∀(r:Bool) (H':Hp),Same (rm2 p L H) H'→(r=true↔Fit (es++[(x,m,some q)]) B)→StOk C H' p L (if r=true then es++[(x,m,some q)] else es) B n nb→Q (.bl r) H'
noncomputable def spKept (C:Addr):Sp:=fun vs H Q _=>∃(p L:Addr) (es:List En) (B:Rat) (n nb:Nat),vs=[.ref p]∧StOk C H p L es B n nb∧∀(R:Addr) (H':Hp),Same H H'→H R=none→H' R=some (.lst (vals es))→Q (.ref R) H'
theorem qt_eq {H:Hp} {p:Addr} {q r:Rat} {n m:Nat} (a:QtAt H p q n) (b:QtAt H p r m):q=r:=by
  obtain ⟨t,d,e,f,_⟩:=a
  obtain ⟨t',d',e',f',_⟩:=b
  rw [e] at e'
  cases e'
  have h1:=f.eq
  have h2:=f'.eq
  have hd:=cast_ne (b:=d) (by have:=f.pos;walk_at "o")
  grind
section
variable {P:Program} {w:World} {K:PySem.W.Frag} {mg:Str→Option Value} {base:Heap} {f c_Stretch:Addr} {fd:FuncData}
theorem sc_Stretch_init:FnScope ["self","bound"] ["self","bound"] (defScope s_Stretch_init):=⟨rfl,rfl,rfl,by decide +kernel,rfl,by decide +kernel,by decide +kernel⟩
theorem ok_Stretch_init (F:Fun K "__init__" "Stretch.__init__" s_Stretch_init f fd) (K_Stretch:Cl K mg "Stretch" c_Stretch ["twice","samples","gentlest","steepest"]) (D_plus:Dn P w K mg base 5 "plus" ["one","other"] (spTwoF (·+·) 1)):FnOk P w K mg base CX0 6 f fd ["self","bound"] (spInit c_Stretch):=by
  refine F.ok sc_Stretch_init (fun vs H Q E h=>?_) (fun cdv A outer s H vs Q E hr h=>?_)
  · obtain ⟨p,dx,pb,β,n,rfl,_⟩:=h
    rfl
  obtain ⟨p,dx,pb,β,n,rfl,hp,hb,hn,k⟩:=h
  refine J.l ⟨_,(J.e (J.y K (J.a 0) (J.j D_plus (hr.mono (by decide)) rfl (J.b (J.a 1) (J.b (J.a 1) J.d st_N) st_N) (he:=st_N) (hpl:=(anyc st_N any0))))
      (J.e (J.y K (J.a 0) (J.t J.d))
      (J.e (J.y K (J.a 0) J.v)
      (J.g (J.y K (J.a 0) J.v))))),?_⟩
  walk_at "v"
  refine ⟨pb,pb,β,β,n,n,rfl,hb,hb,by walk_at "o",fun tw H1 s1 f1=>?_⟩
  walk_at "v"
  have hp1:=s1 _ _ hp
  refine r_s K_Stretch hp1 (by show 0<1000;decide) ?_
  walk_at "v"
  refine r_new (mk:=.lst) (by simp) fun L H2 s2 n2 e2=>?_
  have nLp:L≠p:=fun z=>by
    rw [z,upd_same] at n2
    cases n2
  have hp2:=s2 _ _ (upd_same (H:=H1) (a:=p) (o:=.ins c_Stretch dx (putF "twice" (.ref tw) [])))
  walk_at "v"
  refine r_s K_Stretch hp2 (by have:(putF "twice" (.ref tw) ([]:List (Str×V))).length=1:=rfl;walk_at "o") ?_
  walk_at "v"
  refine r_s K_Stretch upd_same (by
    have h3:=(Fds.init tw L .non .non).len
    have l:∀(f:Str) (v:V) (fs:List (Str×V)),fs.length≤(putF f v fs).length:=by
      intro f v fs
      induction fs with
      | nil=>exact Nat.zero_le _
      | cons x r ih=>
        obtain ⟨g,y⟩:=x
        unfold putF
        split
        · exact Nat.le_refl _
        · exact Nat.succ_le_succ ih
    have l1:=l "steepest" .non (putF "gentlest" .non (putF "samples" (.ref L) (putF "twice" (.ref tw) [])))
    have l2:=l "gentlest" .non (putF "samples" (.ref L) (putF "twice" (.ref tw) []))
    walk_at "o") ?_
  walk_at "v"
  refine r_s K_Stretch upd_same (by
    have h3:=(Fds.init tw L .non .non).len
    have l:∀(f:Str) (v:V) (fs:List (Str×V)),fs.length≤(putF f v fs).length:=by
      intro f v fs
      induction fs with
      | nil=>exact Nat.zero_le _
      | cons x r ih=>
        obtain ⟨g,y⟩:=x
        unfold putF
        split
        · exact Nat.le_refl _
        · exact Nat.succ_le_succ ih
    have l1:=l "steepest" .non (putF "gentlest" .non (putF "samples" (.ref L) (putF "twice" (.ref tw) [])))
    walk_at "o") ?_
  walk_at "v"
  rw [upd_upd,upd_upd]
  have n0:H L=none:=by
    cases g:H L with
    | none=>rfl
    | some o=>
      have:=s1 _ _ g
      rw [upd_ne nLp,this] at n2
      cases n2
  have sH:Same (rm p H) (upd H2 p (.ins c_Stretch dx (putF "steepest" .non (putF "gentlest" .non (putF "samples" (.ref L) (putF "twice" (.ref tw) [])))))):=fun b o e=>by
    by_cases hb:b=p
    · rw [hb] at e
      unfold rm at e
      rw [if_pos rfl] at e
      cases e
    · rw [rm_at hb] at e
      rw [upd_ne hb]
      refine s2 _ _ ?_
      rw [upd_ne hb]
      exact s1 _ _ e
  have sH1:Same (rm p H1) (upd H2 p (.ins c_Stretch dx (putF "steepest" .non (putF "gentlest" .non (putF "samples" (.ref L) (putF "twice" (.ref tw) [])))))):=fun b o e=>by
    by_cases hb:b=p
    · rw [hb] at e
      unfold rm at e
      rw [if_pos rfl] at e
      cases e
    · rw [rm_at hb] at e
      rw [upd_ne hb]
      refine s2 _ _ ?_
      rw [upd_ne hb]
      exact e
  refine k L _ 0 sH n0 ⟨dx,tw,_,.non,.non,upd_same,Fds.init tw L .non .non,by rw [upd_ne nLp];exact e2,fun x hx=>absurd hx (by simp),fun x hx=>absurd hx (by simp),List.Pairwise.nil,?_,.inl ⟨by decide,rfl,rfl⟩⟩
  obtain ⟨t,d,e,ff,z1,z2⟩:=f1
  have etw:rm p H1 tw=some (.tup [.int t,.int d]):=by
    rw [rm_at (fun z=>by rw [z,hp1] at e;cases e)]
    exact e
  refine QtAt.mono (n:=2*n+1) ⟨t,d,sH1 _ _ etw,?_,z1,z2⟩ (by walk_at "o")
  have e2':(2*β:Rat)=β+β:=by grind
  rw [e2']
  exact ff.qt
theorem sc_gentlest_with:FnScope ["known","earlier","sample","twice","lowered","found"] ["known","earlier","sample","twice"] (defScope s_gentlest_with):=⟨rfl,rfl,rfl,by decide +kernel,rfl,by decide +kernel,by decide +kernel⟩
theorem ok_gentlest_with (F:Fun K "gentlest_with" "gentlest_with" s_gentlest_with f fd) (T:Txt mg) (D_loose_minus:Dn P w K mg base 1 "loose_minus" ["one","other"] (spTwo (·-·) 1)) (D_loose_slopeQ:Dn P w K mg base 3 "loose_slope" ["one","other"] spLslopeQ) (D_greatest:Dn P w K mg base 2 "greatest" ["quotients"] spGreat) :
    FnOk P w K mg base CX0 4 f fd ["known","earlier","sample","twice"] spGentle:=by
  refine F.ok sc_gentlest_with (fun vs H Q E h=>?_) (fun cdv A outer s H vs Q E hr h=>?_)
  · obtain ⟨kv,l,x,tw,es,m,q,B,n,nb,rfl,_⟩:=h
    rfl
  obtain ⟨kv,l,x,tw,es,m,q,B,n,nb,rfl,hl,hR,hS,hx,htw,h900,hn,hnb,hm,hkv,k0,k1⟩:=h
  obtain ⟨vx,ex,fx,zm⟩:=hx
  refine J.l ⟨_,(J.e (J.i (i:=4) sc_gentlest_with.nd rfl (Or.inr rfl) (J.m (J.b (J.f (ixT K) (J.a 2) J.c (fun _ _=>rfl)) (J.b (J.j D_loose_minus (hr.mono (by decide)) rfl (J.b (J.f (ixT K) (J.a 2) J.c (fun _ _=>rfl)) (J.b (J.a 3) J.d st_N) st_S) (he:=st_S) (hpl:=(anyc st_N any0))) J.d st_K) st_S)) (hs:=sw_T))
      (J.e (Jd.ps_comp (O:=["one"]) (N':=["lowered"]) (cap:=[4]) (i:=5) sc_gentlest_with.nd rfl (Or.inl rfl) rfl (J.x K (J.a 1)) (fun _ _ _ _ _=>(J.q (i:=0) (show List.Nodup [("one":Str),("lowered":Str)] by decide +kernel) rfl (Or.inl rfl))) (fun _ _ _ _ _=>J.ad) (fun _ _ _ _ _=>(J.j D_loose_slopeQ (hr.mono (by decide)) rfl (J.b (J.a 0) (J.b (J.a 1) J.d st_N) st_N) (he:=st_N) (hpl:=(anyc st_N any0)))) rfl ⟨⟨rfl,rfl,rfl,rfl⟩,trivial⟩ rfl (by decide +kernel) rfl (by decide +kernel) (by rfl))
      (J.e (J.o (J.n op_notN (J.a 0) J.v (nomark _))
      (J.g (J.u (J.w K (J.a 5) (J.a 0)) (hs:=sw_K)))
      J.s)
      (J.g (J.k (Jd.pe_ifExp (J.n op_gt (J.r (lenC K) rfl T.len_ PySem.boot_len (J.b (J.a 5) J.d st_N) (he:=st_N) (hpl:=any0)) J.c (nomark _)) (J.j D_greatest (hr.mono (by decide)) rfl (J.b (J.a 5) J.d st_N) (he:=st_N) (hpl:=any0)) J.v)))))),?_⟩
  walk_at "v"
  refine ⟨vx,tw,q,B,n,nb,rfl,fx.qt,htw,by walk_at "o",fun y1 H1 s1 f1=>?_⟩
  walk_at "v"
  refine r_new (mk:=.tup) (by simp) fun lo H2 s2 n2 e2=>?_
  have s02:=s1.trans s2
  have flo:SaQ H2 lo m (q-B) (n+nb+1) n:=⟨y1,e2,f1.up s2,zm⟩
  walk_at "v"
  refine r_iL ?_
  walk_at "v"
  refine ⟨l,rfl,⟨_,SqL.of (s02 _ _ hl)⟩,?_⟩
  refine compB_of (xs:=vals es) tells_list (fun H3 s3=>SqL.of (s3 _ _ (s02 _ _ hl))) (by rw [vals_len];walk_at "o") (fun i ys G=>∃rs:Qs,ys=qrefs rs∧AllQ G rs (3*n+nb+3)∧rs.map (·.2)=(List.range i).map (fun j=>toNew es (-B) m q j)) ⟨[],rfl,fun z hz=>absurd hz (by simp),rfl⟩ ?_ ?_
  · rintro D i v ys H3 σ0 N N0 h0 hD eD s3 hv hy ⟨rs,rfl,hrs,hmap⟩ kY kN
    obtain ⟨e,he,rfl⟩:=vals_at hv
    have hi:i<es.length:=(List.getElem?_eq_some_iff.mp he).1
    obtain ⟨xi,gi,fi⟩:=sa_at (hR.up (s02.trans s3)) hS hi
    rw [he] at gi
    cases gi
    refine r_own1 h0 ?_
    walk_at "v"
    refine iteT ?_
    walk_at "v"
    refine ⟨e.1,lo,_,_,_,_,n,n+nb+1,n,rfl,fi.saq,flo.up s3,hm i hi,by walk_at "o",fun z H4 s4 f4=>?_⟩
    refine kY _ H4 s4 ⟨rs++[(z,toNew es (-B) m q i)],by simp [qrefs],fun u hu=>?_,?_⟩
    · rcases List.mem_append.mp hu with w | w
      · exact (hrs u w).up (rm_rm s4)
      · obtain rfl:u=(z,toNew es (-B) m q i):=by simpa using w
        obtain ⟨t,d,e',ff⟩:=f4.mono (show n+(n+nb+1)+n+2≤3*n+nb+3 by walk_at "o")
        refine ⟨t,d,rm_tup (s4 _ _ eD) e',?_⟩
        have eq:(q-B-wo es i)/((m:Rat)-(mo es i:Rat))=toNew es (-B) m q i:=by
          unfold toNew
          rw [show q+-B-wo es i=q-B-wo es i by grind]
        rw [← eq]
        exact ff
    · rw [List.map_append,hmap,List.range_succ,List.map_append]
      rfl
  · rintro D ys H3 hD eD s3 hy ⟨rs,rfl,hrs,hmap⟩
    rw [vals_len] at hmap
    have hrs3:AllQ H3 rs (3*n+nb+3):=fun u hu=>(hrs u hu).up rm_same
    have s03:=s02.trans s3
    have hlen:rs.length=es.length:=by
      have:=congrArg List.length hmap
      simpa using this
    have inR:∀i,i<es.length→∃u∈rs,u.2=toNew es (-B) m q i:=fun i hi=>by
      have:toNew es (-B) m q i∈rs.map (·.2):=by rw [hmap];exact List.mem_map.mpr ⟨i,List.mem_range.mpr hi,rfl⟩
      obtain ⟨u,hu,e⟩:=List.mem_map.mp this
      exact ⟨u,hu,e⟩
    have ofR:∀u∈rs,∃i,i<es.length∧toNew es (-B) m q i=u.2:=fun u hu=>by
      have:u.2∈rs.map (·.2):=List.mem_map.mpr ⟨u,hu,rfl⟩
      rw [hmap] at this
      obtain ⟨i,hi,e⟩:=List.mem_map.mp this
      exact ⟨i,List.mem_range.mp hi,e⟩
    walk_at "v"
    rcases hkv with rfl | ⟨hpos,pk,Kq,rfl,hK⟩
    · refine ⟨rfl,?_⟩
      walk_at "v"
      refine iteF ?_
      walk_at "v"
      refine r_len (.inl (SqL.of eD)) ?_
      walk_at "v"
      refine ite2 (fun c=>?_) (fun c=>?_)
      · have c':=of_decide_eq_true c
        have hpos:0<rs.length:=by
          have e:(qrefs rs).length=rs.length:=List.length_map ..
          rw [e] at c'
          walk_at "o"
        walk_at "v"
        refine ⟨D,rs,3*n+nb+3,rfl,eD,hrs3,by walk_at "o",hpos,fun u hu hmax=>?_⟩
        walk_at "v"
        refine k1 (by walk_at "o") u.1 u.2 H3 s03 (hrs3 u hu) (fun pk Kq e=>by cases e) (fun i hi=>?_) (.inl (ofR u hu))
        obtain ⟨z,hz,e⟩:=inR i hi
        rw [← e]
        exact hmax z hz
      · have c':=of_decide_eq_false (Bool.eq_false_iff.mpr c)
        walk_at "v"
        refine k0 ?_ rfl H3 s03
        have e:(qrefs rs).length=rs.length:=List.length_map ..
        rw [e] at c'
        walk_at "o"
    · refine ⟨rfl,?_⟩
      walk_at "v"
      refine iteT ?_
      walk_at "v"
      refine ⟨.inl ⟨rfl,_,SqL.of eD⟩,?_⟩
      walk_at "v"
      have e:(qrefs rs).length=rs.length:=List.length_map ..
      refine r_app eD (by rw [e];exact small1000 (by walk_at "o")) ?_
      have e4:upd H3 D (.lst (qrefs rs++[.ref pk])) D=some (.lst (qrefs (rs++[(pk,Kq)]))):=by rw [upd_same];simp [qrefs]
      have hK3:=hK.up s03
      generalize hG:upd H3 D (.lst (qrefs rs++[.ref pk]))=H4 at *
      have s04:Same H2 H4:=by rw [← hG];exact same_at s3 hD
      have hq4:AllQ H4 (rs++[(pk,Kq)]) (3*n+nb+3):=fun u hu=>by
        rcases List.mem_append.mp hu with w | w
        · rw [← hG];exact (hrs3 u w).app eD
        · obtain rfl:u=(pk,Kq):=by simpa using w
          rw [← hG];exact hK3.app eD
      walk_at "v"
      refine r_len (.inl (SqL.of e4)) ?_
      walk_at "v"
      have e':(qrefs (rs++[(pk,Kq)])).length=rs.length+1:=by simp [qrefs]
      rw [e',show decide ((((rs.length+1:Nat):Int))>0)=true from decide_eq_true (by walk_at "o")]
      refine iteT ?_
      walk_at "v"
      refine ⟨D,rs++[(pk,Kq)],3*n+nb+3,rfl,e4,hq4,by walk_at "o",by simp,fun u hu hmax=>?_⟩
      walk_at "v"
      refine k1 hpos u.1 u.2 H4 (s02.trans s04) (hq4 u hu) (fun pk' Kq' e1 q1=>?_) (fun i hi=>?_) ?_
      · cases e1
        rw [qt_eq q1 hK]
        exact hmax (pk,Kq) (by simp)
      · obtain ⟨z,hz,e1⟩:=inR i hi
        rw [← e1]
        exact hmax z (List.mem_append_left _ hz)
      · rcases List.mem_append.mp hu with w | w
        · exact .inl (ofR u w)
        · obtain rfl:u=(pk,Kq):=by simpa using w
          exact .inr ⟨pk,rfl,hK⟩
theorem sc_steepest_with:FnScope ["known","earlier","sample","twice","raised","found"] ["known","earlier","sample","twice"] (defScope s_steepest_with):=⟨rfl,rfl,rfl,by decide +kernel,rfl,by decide +kernel,by decide +kernel⟩
theorem ok_steepest_with (F:Fun K "steepest_with" "steepest_with" s_steepest_with f fd) (T:Txt mg) (D_loose_plus:Dn P w K mg base 1 "loose_plus" ["one","other"] (spTwo (·+·) 1)) (D_loose_slopeQ:Dn P w K mg base 3 "loose_slope" ["one","other"] spLslopeQ) (D_smallest:Dn P w K mg base 2 "smallest" ["quotients"] spSmall) :
    FnOk P w K mg base CX0 4 f fd ["known","earlier","sample","twice"] spSteep:=by
  refine F.ok sc_steepest_with (fun vs H Q E h=>?_) (fun cdv A outer s H vs Q E hr h=>?_)
  · obtain ⟨kv,l,x,tw,es,m,q,B,n,nb,rfl,_⟩:=h
    rfl
  obtain ⟨kv,l,x,tw,es,m,q,B,n,nb,rfl,hl,hR,hS,hx,htw,h900,hn,hnb,hm,hkv,k0,k1⟩:=h
  obtain ⟨vx,ex,fx,zm⟩:=hx
  refine J.l ⟨_,(J.e (J.i (i:=4) sc_steepest_with.nd rfl (Or.inr rfl) (J.m (J.b (J.f (ixT K) (J.a 2) J.c (fun _ _=>rfl)) (J.b (J.j D_loose_plus (hr.mono (by decide)) rfl (J.b (J.f (ixT K) (J.a 2) J.c (fun _ _=>rfl)) (J.b (J.a 3) J.d st_N) st_S) (he:=st_S) (hpl:=(anyc st_N any0))) J.d st_K) st_S)) (hs:=sw_T))
      (J.e (Jd.ps_comp (O:=["one"]) (N':=["raised"]) (cap:=[4]) (i:=5) sc_steepest_with.nd rfl (Or.inl rfl) rfl (J.x K (J.a 1)) (fun _ _ _ _ _=>(J.q (i:=0) (show List.Nodup [("one":Str),("raised":Str)] by decide +kernel) rfl (Or.inl rfl))) (fun _ _ _ _ _=>J.ad) (fun _ _ _ _ _=>(J.j D_loose_slopeQ (hr.mono (by decide)) rfl (J.b (J.a 0) (J.b (J.a 1) J.d st_N) st_N) (he:=st_N) (hpl:=(anyc st_N any0)))) rfl ⟨⟨rfl,rfl,rfl,rfl⟩,trivial⟩ rfl (by decide +kernel) rfl (by decide +kernel) (by rfl))
      (J.e (J.o (J.n op_notN (J.a 0) J.v (nomark _))
      (J.g (J.u (J.w K (J.a 5) (J.a 0)) (hs:=sw_K)))
      J.s)
      (J.g (J.k (Jd.pe_ifExp (J.n op_gt (J.r (lenC K) rfl T.len_ PySem.boot_len (J.b (J.a 5) J.d st_N) (he:=st_N) (hpl:=any0)) J.c (nomark _)) (J.j D_smallest (hr.mono (by decide)) rfl (J.b (J.a 5) J.d st_N) (he:=st_N) (hpl:=any0)) J.v)))))),?_⟩
  walk_at "v"
  refine ⟨vx,tw,q,B,n,nb,rfl,fx.qt,htw,by walk_at "o",fun y1 H1 s1 f1=>?_⟩
  walk_at "v"
  refine r_new (mk:=.tup) (by simp) fun lo H2 s2 n2 e2=>?_
  have s02:=s1.trans s2
  have flo:SaQ H2 lo m (q+B) (n+nb+1) n:=⟨y1,e2,f1.up s2,zm⟩
  walk_at "v"
  refine r_iL ?_
  walk_at "v"
  refine ⟨l,rfl,⟨_,SqL.of (s02 _ _ hl)⟩,?_⟩
  refine compB_of (xs:=vals es) tells_list (fun H3 s3=>SqL.of (s3 _ _ (s02 _ _ hl))) (by rw [vals_len];walk_at "o") (fun i ys G=>∃rs:Qs,ys=qrefs rs∧AllQ G rs (3*n+nb+3)∧rs.map (·.2)=(List.range i).map (fun j=>toNew es B m q j)) ⟨[],rfl,fun z hz=>absurd hz (by simp),rfl⟩ ?_ ?_
  · rintro D i v ys H3 σ0 N N0 h0 hD eD s3 hv hy ⟨rs,rfl,hrs,hmap⟩ kY kN
    obtain ⟨e,he,rfl⟩:=vals_at hv
    have hi:i<es.length:=(List.getElem?_eq_some_iff.mp he).1
    obtain ⟨xi,gi,fi⟩:=sa_at (hR.up (s02.trans s3)) hS hi
    rw [he] at gi
    cases gi
    refine r_own1 h0 ?_
    walk_at "v"
    refine iteT ?_
    walk_at "v"
    refine ⟨e.1,lo,_,_,_,_,n,n+nb+1,n,rfl,fi.saq,flo.up s3,hm i hi,by walk_at "o",fun z H4 s4 f4=>?_⟩
    refine kY _ H4 s4 ⟨rs++[(z,toNew es B m q i)],by simp [qrefs],fun u hu=>?_,?_⟩
    · rcases List.mem_append.mp hu with w | w
      · exact (hrs u w).up (rm_rm s4)
      · obtain rfl:u=(z,toNew es B m q i):=by simpa using w
        obtain ⟨t,d,e',ff⟩:=f4.mono (show n+(n+nb+1)+n+2≤3*n+nb+3 by walk_at "o")
        refine ⟨t,d,rm_tup (s4 _ _ eD) e',?_⟩
        have eq:(q+B-wo es i)/((m:Rat)-(mo es i:Rat))=toNew es B m q i:=by
          rfl
        rw [← eq]
        exact ff
    · rw [List.map_append,hmap,List.range_succ,List.map_append]
      rfl
  · rintro D ys H3 hD eD s3 hy ⟨rs,rfl,hrs,hmap⟩
    rw [vals_len] at hmap
    have hrs3:AllQ H3 rs (3*n+nb+3):=fun u hu=>(hrs u hu).up rm_same
    have s03:=s02.trans s3
    have hlen:rs.length=es.length:=by
      have:=congrArg List.length hmap
      simpa using this
    have inR:∀i,i<es.length→∃u∈rs,u.2=toNew es B m q i:=fun i hi=>by
      have:toNew es B m q i∈rs.map (·.2):=by rw [hmap];exact List.mem_map.mpr ⟨i,List.mem_range.mpr hi,rfl⟩
      obtain ⟨u,hu,e⟩:=List.mem_map.mp this
      exact ⟨u,hu,e⟩
    have ofR:∀u∈rs,∃i,i<es.length∧toNew es B m q i=u.2:=fun u hu=>by
      have:u.2∈rs.map (·.2):=List.mem_map.mpr ⟨u,hu,rfl⟩
      rw [hmap] at this
      obtain ⟨i,hi,e⟩:=List.mem_map.mp this
      exact ⟨i,List.mem_range.mp hi,e⟩
    walk_at "v"
    rcases hkv with rfl | ⟨hpos,pk,Kq,rfl,hK⟩
    · refine ⟨rfl,?_⟩
      walk_at "v"
      refine iteF ?_
      walk_at "v"
      refine r_len (.inl (SqL.of eD)) ?_
      walk_at "v"
      refine ite2 (fun c=>?_) (fun c=>?_)
      · have c':=of_decide_eq_true c
        have hpos:0<rs.length:=by
          have e:(qrefs rs).length=rs.length:=List.length_map ..
          rw [e] at c'
          walk_at "o"
        walk_at "v"
        refine ⟨D,rs,3*n+nb+3,rfl,eD,hrs3,by walk_at "o",hpos,fun u hu hmax=>?_⟩
        walk_at "v"
        refine k1 (by walk_at "o") u.1 u.2 H3 s03 (hrs3 u hu) (fun pk Kq e=>by cases e) (fun i hi=>?_) (.inl (ofR u hu))
        obtain ⟨z,hz,e⟩:=inR i hi
        rw [← e]
        exact hmax z hz
      · have c':=of_decide_eq_false (Bool.eq_false_iff.mpr c)
        walk_at "v"
        refine k0 ?_ rfl H3 s03
        have e:(qrefs rs).length=rs.length:=List.length_map ..
        rw [e] at c'
        walk_at "o"
    · refine ⟨rfl,?_⟩
      walk_at "v"
      refine iteT ?_
      walk_at "v"
      refine ⟨.inl ⟨rfl,_,SqL.of eD⟩,?_⟩
      walk_at "v"
      have e:(qrefs rs).length=rs.length:=List.length_map ..
      refine r_app eD (by rw [e];exact small1000 (by walk_at "o")) ?_
      have e4:upd H3 D (.lst (qrefs rs++[.ref pk])) D=some (.lst (qrefs (rs++[(pk,Kq)]))):=by rw [upd_same];simp [qrefs]
      have hK3:=hK.up s03
      generalize hG:upd H3 D (.lst (qrefs rs++[.ref pk]))=H4 at *
      have s04:Same H2 H4:=by rw [← hG];exact same_at s3 hD
      have hq4:AllQ H4 (rs++[(pk,Kq)]) (3*n+nb+3):=fun u hu=>by
        rcases List.mem_append.mp hu with w | w
        · rw [← hG];exact (hrs3 u w).app eD
        · obtain rfl:u=(pk,Kq):=by simpa using w
          rw [← hG];exact hK3.app eD
      walk_at "v"
      refine r_len (.inl (SqL.of e4)) ?_
      walk_at "v"
      have e':(qrefs (rs++[(pk,Kq)])).length=rs.length+1:=by simp [qrefs]
      rw [e',show decide ((((rs.length+1:Nat):Int))>0)=true from decide_eq_true (by walk_at "o")]
      refine iteT ?_
      walk_at "v"
      refine ⟨D,rs++[(pk,Kq)],3*n+nb+3,rfl,e4,hq4,by walk_at "o",by simp,fun u hu hmax=>?_⟩
      walk_at "v"
      refine k1 hpos u.1 u.2 H4 (s02.trans s04) (hq4 u hu) (fun pk' Kq' e1 q1=>?_) (fun i hi=>?_) ?_
      · cases e1
        rw [qt_eq q1 hK]
        exact hmax (pk,Kq) (by simp)
      · obtain ⟨z,hz,e1⟩:=inR i hi
        rw [← e1]
        exact hmax z (List.mem_append_left _ hz)
      · rcases List.mem_append.mp hu with w | w
        · exact .inl (ofR u w)
        · obtain rfl:u=(pk,Kq):=by simpa using w
          exact .inr ⟨pk,rfl,hK⟩
theorem mo_left {es fs:List En} {i:Nat} (h:i<es.length):mo (es++fs) i=mo es i:=by unfold mo;rw [List.getElem?_append_left h]
theorem wo_left {es fs:List En} {i:Nat} (h:i<es.length):wo (es++fs) i=wo es i:=by unfold wo;rw [List.getElem?_append_left h]
theorem mo_last {es:List En} {a:Addr} {m:Int} {q:Rat}:mo (es++[(a,m,some q)]) es.length=m:=by unfold mo;simp
theorem wo_last {es:List En} {a:Addr} {m:Int} {q:Rat}:wo (es++[(a,m,some q)]) es.length=q:=by unfold wo;simp
section
variable {es:List En} {a:Addr} {m:Int} {q B G S:Rat} {i j:Nat}
theorem low_left (hij:i<j) (hj:j<es.length):lowS (es++[(a,m,some q)]) B i j=lowS es B i j:=by
  unfold lowS
  rw [mo_left hj,wo_left hj,mo_left (by walk_at "o"),wo_left (by walk_at "o")]
theorem high_left (hij:i<j) (hj:j<es.length):highS (es++[(a,m,some q)]) B i j=highS es B i j:=by
  unfold highS
  rw [mo_left hj,wo_left hj,mo_left (by walk_at "o"),wo_left (by walk_at "o")]
theorem low_new (hi:i<es.length):lowS (es++[(a,m,some q)]) B i es.length=toNew es (-B) m q i:=by
  unfold lowS toNew
  rw [mo_last,wo_last,mo_left hi,wo_left hi,show q+-B=q-B by grind]
theorem high_new (hi:i<es.length):highS (es++[(a,m,some q)]) B i es.length=toNew es B m q i:=by
  unfold highS toNew
  rw [mo_last,wo_last,mo_left hi,wo_left hi]
theorem isG_new (h0:0<es.length) (h1:2≤es.length→∃G0,IsG es B G0∧G0≤G) (hall:∀i,i<es.length→toNew es (-B) m q i≤G) (hex:(∃i,i<es.length∧toNew es (-B) m q i=G)∨(2≤es.length∧IsG es B G)):IsG (es++[(a,m,some q)]) B G:=by
  refine ⟨fun i j hij hj=>?_,?_⟩
  · rw [List.length_append] at hj
    have hj':j<es.length+1:=hj
    by_cases e:j=es.length
    · subst e
      rw [low_new hij]
      exact hall i hij
    · rw [low_left hij (by walk_at "o")]
      obtain ⟨G0,g,le⟩:=h1 (by walk_at "o")
      have:=g.1 i j hij (by walk_at "o")
      grind
  · rcases hex with ⟨i,hi,e⟩ | ⟨h2,g⟩
    · exact ⟨i,es.length,hi,by rw [List.length_append];show _<es.length+1;walk_at "o",by rw [low_new hi];exact e⟩
    · obtain ⟨i,j,a1,a2,a3⟩:=g.2
      exact ⟨i,j,a1,by rw [List.length_append];show _<es.length+1;walk_at "o",by rw [low_left a1 a2];exact a3⟩
theorem isS_new (h0:0<es.length) (h1:2≤es.length→∃S0,IsS es B S0∧S≤S0) (hall:∀i,i<es.length→S≤toNew es B m q i) (hex:(∃i,i<es.length∧toNew es B m q i=S)∨(2≤es.length∧IsS es B S)):IsS (es++[(a,m,some q)]) B S:=by
  refine ⟨fun i j hij hj=>?_,?_⟩
  · rw [List.length_append] at hj
    have hj':j<es.length+1:=hj
    by_cases e:j=es.length
    · subst e
      rw [high_new hij]
      exact hall i hij
    · rw [high_left hij (by walk_at "o")]
      obtain ⟨S0,g,le⟩:=h1 (by walk_at "o")
      have:=g.1 i j hij (by walk_at "o")
      grind
  · rcases hex with ⟨i,hi,e⟩ | ⟨h2,g⟩
    · exact ⟨i,es.length,hi,by rw [List.length_append];show _<es.length+1;walk_at "o",by rw [high_new hi];exact e⟩
    · obtain ⟨i,j,a1,a2,a3⟩:=g.2
      exact ⟨i,j,a1,by rw [List.length_append];show _<es.length+1;walk_at "o",by rw [high_left a1 a2];exact a3⟩
theorem rising_new (h:rising es) (hm:∀i,i<es.length→mo es i<m):rising (es++[(a,m,some q)]):=by
  refine List.pairwise_append.mpr ⟨h,List.pairwise_singleton _ _,fun x hx y hy=>?_⟩
  obtain rfl:y=(a,m,some q):=by simpa using hy
  obtain ⟨i,hi,rfl⟩:=List.getElem_of_mem hx
  have:=hm i hi
  unfold mo at this
  rw [List.getElem?_eq_getElem hi] at this
  exact this
theorem allS_new (h:AllS es):AllS (es++[(a,m,some q)]):=fun x hx=>by
  rcases List.mem_append.mp hx with z | z
  · exact h x z
  · obtain rfl:x=(a,m,some q):=by simpa using z
    rfl
end
theorem keep3 {p L:Addr} {H H2:Hp} {o1 o2 o3:HO} (s:Same H H2):Same (rm2 p L H) (upd (upd (upd H2 p o1) p o2) L o3):=fun b o e=>by
  unfold rm2 rm at e
  by_cases h1:b=p
  · rw [if_pos h1] at e;cases e
  · rw [if_neg h1] at e
    by_cases h2:b=L
    · rw [if_pos h2] at e;cases e
    · rw [if_neg h2] at e
      rw [upd_ne h2,upd_ne h1,upd_ne h1]
      exact s _ _ e
theorem sc_Stretch_takes:FnScope ["self","sample","gentlest","steepest"] ["self","sample"] (defScope s_Stretch_takes):=⟨rfl,rfl,rfl,by decide +kernel,rfl,by decide +kernel,by decide +kernel⟩
theorem ok_Stretch_takes (F:Fun K "takes" "Stretch.takes" s_Stretch_takes f fd) (T:Txt mg) (K_Stretch:Cl K mg "Stretch" c_Stretch ["twice","samples","gentlest","steepest"]) (D_gentlest_with:Dn P w K mg base 4 "gentlest_with" ["known","earlier","sample","twice"] spGentle) (D_steepest_with:Dn P w K mg base 4 "steepest_with" ["known","earlier","sample","twice"] spSteep)
    (D_order:Dn P w K mg base 1 "order" ["one","other"] spOrderQ):FnOk P w K mg base CX0 5 f fd ["self","sample"] (spTakes c_Stretch):=by
  refine F.ok sc_Stretch_takes (fun vs H Q E h=>?_) (fun cdv A outer s H vs Q E hr h=>?_)
  · obtain ⟨p,L,x,es,m,q,B,n,nb,rfl,_⟩:=h
    rfl
  obtain ⟨p,L,x,es,m,q,B,n,nb,rfl,hSt,hx,hm,h900,hn,hnb,hB,k⟩:=h
  obtain ⟨dx,tw,fs,g,s',ep,hF,eL,hR,hS,hri,htw,hI⟩:=id hSt
  have nLp:L≠p:=fun z=>by rw [z,ep] at eL;cases eL
  have fl:=hF.len
  -- the sample is taken: the two slopes stand at gv, sv
  have take:∀(gv sv:V) (H2:Hp),Same H H2→Fit (es++[(x,m,some q)]) B →
      ((es.length=0∧gv=.non∧sv=.non)∨(0<es.length∧∃(pg ps:Addr) (G S:Rat),gv=.ref pg∧sv=.ref ps∧QtAt H2 pg G (3*n+nb+3)∧QtAt H2 ps S (3*n+nb+3)∧IsG (es++[(x,m,some q)]) B G∧IsS (es++[(x,m,some q)]) B S∧G≤S)) →
      Q (.bl true) (upd (upd (upd H2 p (.ins c_Stretch dx (putF "gentlest" gv fs))) p (.ins c_Stretch dx (putF "steepest" sv (putF "gentlest" gv fs)))) L (.lst (vals es++[.ref x]))):=by
    intro gv sv H2 s2 hfit hcase
    have ep2:=s2 _ _ ep
    have eL2:=s2 _ _ eL
    have k3:=keep3 (p:=p) (L:=L) (o1:=.ins c_Stretch dx (putF "gentlest" gv fs)) (o2:=.ins c_Stretch dx (putF "steepest" sv (putF "gentlest" gv fs))) (o3:=.lst (vals es++[.ref x])) (Same.refl H2)
    refine k true _ (keep3 s2) ⟨fun _=>hfit,fun _=>rfl⟩ ?_
    rw [if_pos rfl]
    refine ⟨dx,tw,_,gv,sv,by rw [upd_ne (Ne.symm nLp),upd_same],hF.setG.setS,by rw [upd_same];exact congrArg (fun z=>some (HO.lst z)) (vals_snoc es (x,m,some q)),?_,allS_new hS,rising_new hri hm,((htw.up s2).out ep2 eL2).up k3,?_⟩
    · exact Row.up ((Row.out ep2 eL2 (hR.up s2)).snoc (EnAt.out ep2 eL2 (hx.up s2).en)) k3
    · rw [List.length_append]
      rcases hcase with ⟨h0,e1,e2⟩ | ⟨h0,pg,ps,G,S,e1,e2,q1,q2,g1,g2,g3⟩
      · exact .inl ⟨by show es.length+1<2;walk_at "o",e1,e2⟩
      · exact .inr ⟨by show 2≤es.length+1;walk_at "o",pg,ps,G,S,e1,e2,(q1.out ep2 eL2).up k3,(q2.out ep2 eL2).up k3,g1,g2,g3⟩
  refine J.l ⟨_,(J.e (J.i (i:=2) sc_Stretch_takes.nd rfl (Or.inl rfl) (J.j D_gentlest_with (hr.mono (by decide)) rfl (J.b (J.p K (J.a 0)) (J.b (J.p K (J.a 0)) (J.b (J.a 1) (J.b (J.p K (J.a 0)) J.d) st_N))) (he:=(by rfl)) (hpl:=(anyc (by rfl) (anyc st_N (anyc (by rfl) any0))))) (hs:=sw_K))
      (J.e (J.i (i:=3) sc_Stretch_takes.nd rfl (Or.inl rfl) (J.j D_steepest_with (hr.mono (by decide)) rfl (J.b (J.p K (J.a 0)) (J.b (J.p K (J.a 0)) (J.b (J.a 1) (J.b (J.p K (J.a 0)) J.d) st_N))) (he:=(by rfl)) (hpl:=(anyc (by rfl) (anyc st_N (anyc (by rfl) any0))))) (hs:=sw_K))
      (J.e (J.o (Jd.PWpt (Jd.pw_and (J.n op_gt (J.r (lenC K) rfl T.len_ PySem.boot_len (J.b (J.p K (J.a 0)) J.d) (he:=(by rfl)) (hpl:=any0)) J.c (nomark _)) (Jd.pw_and1 (J.n op_gt (J.j D_order (hr.mono (by decide)) rfl (J.b (J.a 2) (J.b (J.a 3) J.d st_N) st_N) (he:=st_N) (hpl:=(anyc st_N any0))) J.c (nomark _)))))
      (J.g (J.k Jd.pe_bl))
      J.s)
      (J.e (J.y K (J.a 0) (J.a 2))
      (J.e (J.y K (J.a 0) (J.a 3))
      (J.e (J.u (J.w K (J.p K (J.a 0)) (J.a 1)) (hs:=sw_K))
      (J.g (J.k Jd.pe_bl)))))))),?_⟩
  walk_at "v"
  refine r_f K_Stretch ep hF.g ?_
  walk_at "v"
  refine r_f K_Stretch ep hF.sl ?_
  walk_at "v"
  refine r_f K_Stretch ep hF.tw ?_
  walk_at "v"
  refine ⟨g,L,x,tw,es,m,q,B,n,nb,rfl,eL,hR,hS,hx,htw,h900,Nat.le_trans hn (by decide),Nat.le_trans hnb (by decide),hm,?_,fun h0 hg H1 s1=>?_,fun hpos pg G H1 s1 f1 hK hall hex=>?_⟩
  · rcases hI with ⟨_,z,_⟩ | ⟨z,pg,ps,G,S,e1,_,q1,_⟩
    · exact .inl z
    · exact .inr ⟨by walk_at "o",pg,G,e1,q1⟩
  · have ep1:=s1 _ _ ep
    have hs':s'=.non:=by
      rcases hI with ⟨_,_,z⟩ | ⟨z,_⟩
      · exact z
      · walk_at "o"
    walk_at "v"
    refine r_f K_Stretch ep1 hF.s ?_
    walk_at "v"
    refine r_f K_Stretch ep1 hF.sl ?_
    walk_at "v"
    refine r_f K_Stretch ep1 hF.tw ?_
    walk_at "v"
    refine ⟨s',L,x,tw,es,m,q,B,n,nb,rfl,s1 _ _ eL,hR.up s1,hS,hx.up s1,htw.up s1,h900,Nat.le_trans hn (by decide),Nat.le_trans hnb (by decide),hm,.inl hs',fun _ _ H2 s2=>?_,fun hpos=>absurd hpos (by walk_at "o")⟩
    have s02:=s1.trans s2
    have ep2:=s02 _ _ ep
    walk_at "v"
    refine r_f K_Stretch ep2 hF.sl ?_
    walk_at "v"
    refine r_len (.inl (SqL.of (s02 _ _ eL))) ?_
    rw [vals_len]
    walk_at "v"
    rw [show decide (((es.length:Nat):Int)>0)=false from decide_eq_false (by walk_at "o")]
    refine iteF ?_
    refine iteF ?_
    walk_at "v"
    refine r_s K_Stretch ep2 (by walk_at "o") ?_
    walk_at "v"
    refine r_s K_Stretch upd_same (by rw [putF_len hF.g];walk_at "o") ?_
    walk_at "v"
    refine r_f K_Stretch upd_same hF.setG.setS.sl ?_
    walk_at "v"
    have eL4:upd (upd H2 p (.ins c_Stretch dx (putF "gentlest" .non fs))) p (.ins c_Stretch dx (putF "steepest" .non (putF "gentlest" .non fs))) L=some (.lst (vals es)):=by
      rw [upd_ne nLp,upd_ne nLp]
      exact s02 _ _ eL
    refine ⟨.inl ⟨rfl,_,SqL.of eL4⟩,?_⟩
    walk_at "v"
    refine r_app eL4 (by rw [vals_len];exact small1000 (by walk_at "o")) ?_
    walk_at "v"
    refine take .non .non H2 s02 (fun i j k l a1 a2 b1 b2=>?_) (.inl ⟨h0,rfl,rfl⟩)
    rw [List.length_append,h0] at a2
    have a2':j<0+1:=a2
    walk_at "o"
  · have ep1:=s1 _ _ ep
    walk_at "v"
    refine r_f K_Stretch ep1 hF.s ?_
    walk_at "v"
    refine r_f K_Stretch ep1 hF.sl ?_
    walk_at "v"
    refine r_f K_Stretch ep1 hF.tw ?_
    walk_at "v"
    refine ⟨s',L,x,tw,es,m,q,B,n,nb,rfl,s1 _ _ eL,hR.up s1,hS,hx.up s1,htw.up s1,h900,Nat.le_trans hn (by decide),Nat.le_trans hnb (by decide),hm,?_,fun h0=>absurd h0 (by walk_at "o"),fun _ ps S H2 s2 f2 hK2 hall2 hex2=>?_⟩
    · rcases hI with ⟨_,_,z⟩ | ⟨z,pg,ps,G,S,_,e1,_,q1,_⟩
      · exact .inl z
      · exact .inr ⟨by walk_at "o",ps,S,e1,q1.up s1⟩
    have s02:=s1.trans s2
    have ep2:=s02 _ _ ep
    have gG:IsG (es++[(x,m,some q)]) B G:=by
      refine isG_new hpos (fun h2=>?_) hall ?_
      · rcases hI with ⟨z,_⟩ | ⟨_,pg0,ps0,G0,S0,e1,e2,q1,q2,g1,g2,g3⟩
        · walk_at "o"
        · exact ⟨G0,g1,hK pg0 G0 e1 q1⟩
      · rcases hex with z | ⟨pk,e,qk⟩
        · exact .inl z
        · rcases hI with ⟨_,z,_⟩ | ⟨z,pg0,ps0,G0,S0,e1,e2,q1,q2,g1,g2,g3⟩
          · rw [z] at e;cases e
          · rw [e1] at e
            cases e
            rw [qt_eq qk q1]
            exact .inr ⟨z,g1⟩
    have gS:IsS (es++[(x,m,some q)]) B S:=by
      refine isS_new hpos (fun h2=>?_) hall2 ?_
      · rcases hI with ⟨z,_⟩ | ⟨_,pg0,ps0,G0,S0,e1,e2,q1,q2,g1,g2,g3⟩
        · walk_at "o"
        · exact ⟨S0,g2,hK2 ps0 S0 e2 (q2.up s1)⟩
      · rcases hex2 with z | ⟨pk,e,qk⟩
        · exact .inl z
        · rcases hI with ⟨_,_,z⟩ | ⟨z,pg0,ps0,G0,S0,e1,e2,q1,q2,g1,g2,g3⟩
          · rw [z] at e;cases e
          · rw [e2] at e
            cases e
            rw [qt_eq qk (q2.up s1)]
            exact .inr ⟨z,g2⟩
    have fit:=fit_iff gG gS
    walk_at "v"
    refine r_f K_Stretch ep2 hF.sl ?_
    walk_at "v"
    refine r_len (.inl (SqL.of (s02 _ _ eL))) ?_
    rw [vals_len]
    walk_at "v"
    rw [show decide (((es.length:Nat):Int)>0)=true from decide_eq_true (by walk_at "o")]
    refine iteT ?_
    walk_at "v"
    refine ⟨pg,ps,G,S,_,_,rfl,f1.up s2,f2,by walk_at "o",fun o ho1 ho2=>?_⟩
    walk_at "v"
    refine ite2 (fun c=>?_) (fun c=>?_)
    · have c':S<G:=ho1.mp (of_decide_eq_true c)
      walk_at "v"
      refine k false H2 (fun b o e=>s02 _ _ (rm2_same _ _ e)) ⟨fun z=>absurd z (by decide),fun z=>?_⟩ ?_
      · have:=fit.mp z
        grind
      · rw [if_neg Bool.false_ne_true]
        exact hSt.up s02
    · have c':G≤S:=Rat.not_lt.mp fun z=>of_decide_eq_false (Bool.eq_false_iff.mpr c) (ho1.mpr z)
      walk_at "v"
      refine r_s K_Stretch ep2 (by walk_at "o") ?_
      walk_at "v"
      refine r_s K_Stretch upd_same (by rw [putF_len hF.g];walk_at "o") ?_
      walk_at "v"
      refine r_f K_Stretch upd_same hF.setG.setS.sl ?_
      walk_at "v"
      have eL4:upd (upd H2 p (.ins c_Stretch dx (putF "gentlest" (.ref pg) fs))) p (.ins c_Stretch dx (putF "steepest" (.ref ps) (putF "gentlest" (.ref pg) fs))) L=some (.lst (vals es)):=by
        rw [upd_ne nLp,upd_ne nLp]
        exact s02 _ _ eL
      refine ⟨.inl ⟨rfl,_,SqL.of eL4⟩,?_⟩
      walk_at "v"
      refine r_app eL4 (by rw [vals_len];exact small1000 (by walk_at "o")) ?_
      walk_at "v"
      exact take (.ref pg) (.ref ps) H2 s02 (fit.mpr c') (.inr ⟨hpos,pg,ps,G,S,rfl,rfl,f1.up s2,f2,gG,gS,c'⟩)
theorem sc_Stretch_kept:FnScope ["self"] ["self"] (defScope s_Stretch_kept):=⟨rfl,rfl,rfl,by decide +kernel,rfl,by decide +kernel,by decide +kernel⟩
theorem ok_Stretch_kept (F:Fun K "kept" "Stretch.kept" s_Stretch_kept f fd) (T:Txt mg) (K_Stretch:Cl K mg "Stretch" c_Stretch ["twice","samples","gentlest","steepest"]):FnOk P w K mg base CX0 1 f fd ["self"] (spKept c_Stretch):=by
  refine F.ok sc_Stretch_kept (fun vs H Q E h=>?_) (fun cdv A outer s H vs Q E hr h=>?_)
  · obtain ⟨p,L,es,B,n,nb,rfl,_⟩:=h
    rfl
  obtain ⟨p,L,es,B,n,nb,rfl,⟨dx,tw,fs,g,s',ep,hF,eL,_⟩,k⟩:=h
  refine J.l ⟨_,(J.g (J.k (Jd.pe_callTy call_list_of rfl T.list_ PyProof.Rows.boot_list (J.b (J.p K (J.a 0)) J.d)))),?_⟩
  walk_at "v"
  refine r_f K_Stretch ep hF.sl ?_
  walk_at "v"
  exact ⟨L,_,rfl,.inl (SqL.of eL),fun R nR=>k R _ (same_new nR _) nR upd_same⟩
end
theorem StOk.fresh {C:Addr} {H:Hp} {p L:Addr} {B:Rat} {n n' nb nb':Nat} (h:StOk C H p L [] B n nb) (hn:nb≤nb'):StOk C H p L [] B n' nb':=by
  obtain ⟨dx',tw,fs,g,s',h1,h2,h3,h4,h5,h6,h7,h8⟩:=h
  refine ⟨dx',tw,fs,g,s',h1,h2,h3,fun x hx=>absurd hx (by simp),h5,h6,h7.mono hn,?_⟩
  rcases h8 with z | ⟨z,_⟩
  · exact .inl z
  · exact absurd z (by decide)
theorem StOk.fit {C:Addr} {H:Hp} {p L:Addr} {es:List En} {B:Rat} {n nb:Nat} (h:StOk C H p L es B n nb):Fit es B:=by
  obtain ⟨dx,tw,fs,g,s',h1,h2,h3,h4,h5,h6,h7,h8⟩:=h
  rcases h8 with ⟨z,_⟩ | ⟨z,pg,ps,G,S,e1,e2,q1,q2,g1,g2,g3⟩
  · intro i j k l a1 a2 b1 b2
    walk_at "o"
  · exact (fit_iff g1 g2).mpr g3
section
variable {P:Program} {w:World} {K:PySem.W.Frag} {mg:Str→Option Value} {base:Heap} {f:Addr} {fd:FuncData}
end

noncomputable def piece (es:List En) (n m:Nat):List En:=(es.drop n).take (m-n)
noncomputable def Cut (es:List En) (B:Rat) (qs:List (List En)) (n:Nat):Prop:=∃pos:Nat→Nat,pos 0=0∧pos qs.length=n∧∀i q,qs[i]?=some q→pos i<pos (i+1)∧pos (i+1)≤es.length∧q=piece es (pos i) (pos (i+1))∧Fit q B∧(pos (i+1)<es.length→¬Fit (piece es (pos i) (pos (i+1)+1)) B)
theorem Cut.nil {es:List En} {B:Rat}:Cut es B [] 0:=⟨fun _=>0,rfl,rfl,fun i q h=>by simp at h⟩
theorem Cut.snoc {es:List En} {B:Rat} {qs:List (List En)} {n n':Nat} (h:Cut es B qs n) (h1:n<n') (h2:n'≤es.length) (hf:Fit (piece es n n') B) (hn:n'<es.length→¬Fit (piece es n (n'+1)) B):Cut es B (qs++[piece es n n']) n':=by
  obtain ⟨pos,p0,pn,h⟩:=h
  refine ⟨fun j=>if j≤qs.length then pos j else n',?_,?_,fun i q hi=>?_⟩
  · show (if 0≤qs.length then pos 0 else n')=0
    rw [if_pos (Nat.zero_le _)]
    exact p0
  · show (if (qs++[piece es n n']).length≤qs.length then pos (qs++[piece es n n']).length else n')=n'
    rw [if_neg (by rw [List.length_append];show ¬qs.length+1≤qs.length;walk_at "o")]
  · by_cases hi':i<qs.length
    · rw [List.getElem?_append_left hi'] at hi
      simp only [if_pos (show i≤qs.length by walk_at "o"),if_pos (show i+1≤qs.length by walk_at "o")]
      exact h i q hi
    · have hi2:=(List.getElem?_eq_some_iff.mp hi).1
      rw [List.length_append] at hi2
      have hi3:i<qs.length+1:=hi2
      obtain rfl:i=qs.length:=by walk_at "o"
      rw [List.getElem?_append_right (Nat.le_refl _),Nat.sub_self] at hi
      obtain rfl:piece es n n'=q:=by simpa using hi
      simp only [if_pos (Nat.le_refl _),if_neg (show ¬qs.length+1≤qs.length by walk_at "o"),pn]
      exact ⟨h1,h2,trivial,hf,hn⟩
theorem piece_get {es:List En} {n m j:Nat} (h:j<m-n):(piece es n m)[j]?=es[n+j]?:=by
  unfold piece
  rw [List.getElem?_take,if_pos h,List.getElem?_drop]
theorem piece_len {es:List En} {n m:Nat} (h:m≤es.length):(piece es n m).length=m-n:=by
  unfold piece
  rw [List.length_take,List.length_drop]
  walk_at "o"
theorem piece_next {es:List En} {n i:Nat} {e:En} (h:n≤i) (he:es[i]?=some e):piece es n (i+1)=piece es n i++[e]:=by
  unfold piece
  rw [show i+1-n=(i-n)+1 by walk_at "o",List.take_add_one,List.getElem?_drop,show n+(i-n)=i by walk_at "o",he]
  rfl
theorem piece_nil {es:List En} {n:Nat}:piece es n n=[]:=by unfold piece;simp
theorem mo_piece {es:List En} {n m j:Nat} (h:j<m-n):mo (piece es n m) j=mo es (n+j):=by unfold mo;rw [piece_get h]
theorem fit_one {es:List En} {B:Rat} (h:es.length≤1):Fit es B:=fun i j k l a1 a2 b1 b2=>by walk_at "o"
theorem LL.mv {H H2 H3:Hp} {T p L C dx:Addr} {fs:List (Str×V)} {ls:Ls} (h:LL H H2 T ls) (ep:H2 p=some (.ins C dx fs)) (nT:T≠L) (nl:∀x∈ls,x.1≠L) (s:Same (rm2 p L H2) H3):LL H H3 T ls:=by
  have e:=h.at_
  refine ⟨h.new,s _ _ (by rw [rm2_at (fun q=>by rw [q,ep] at e;cases e) nT];exact e),fun x hx=>?_,h.nd⟩
  obtain ⟨a,b,c⟩:=h.each x hx
  exact ⟨a,s _ _ (by rw [rm2_at (fun q=>by rw [q,ep] at b;cases b) (nl x hx)];exact b),c⟩
noncomputable def spStretches (C:Addr):Sp:=fun vs H Q _=>∃(l pb:Addr) (es:List En) (β:Rat) (N n:Nat),vs=[.ref l,.ref pb]∧H l=some (.lst (vals es))∧Row H es N∧AllS es∧rising es∧QtAt H pb β n∧0≤β∧N≤1000∧n≤1000∧es.length≤40 ∧
  ∀(T:Addr) (ls:Ls) (H':Hp),Same H H'→LL H H' T ls→Cut es (2*β) (ls.map (·.2)) es.length→ls.length≤40→Q (.ref T) H'
section
variable {P:Program} {w:World} {K:PySem.W.Frag} {mg:Str→Option Value} {base:Heap} {f c_Stretch:Addr} {fd:FuncData}
theorem sc_stretches:FnScope ["samples","bound","told","stretch","sample"] ["samples","bound"] (defScope s_stretches):=⟨rfl,rfl,rfl,by decide +kernel,rfl,by decide +kernel,by decide +kernel⟩
theorem ok_stretches (F:Fun K "stretches" "stretches" s_stretches f fd) (T:Txt mg) (K_Stretch:Cl K mg "Stretch" c_Stretch ["twice","samples","gentlest","steepest"]) (D_Stretch:Dk P w K mg base 6 "Stretch" c_Stretch ["self","bound"] (spInit c_Stretch)) (D_Stretch_takes:Dm P w K mg base 5 c_Stretch "takes" ["self","sample"] (spTakes c_Stretch)) (D_Stretch_kept:Dm P w K mg base 1 c_Stretch "kept" ["self"] (spKept c_Stretch)) :
    FnOk P w K mg base CX0 8 f fd ["samples","bound"] (spStretches c_Stretch):=by
  refine F.ok sc_stretches (fun vs H Q E h=>?_) (fun cdv A outer s H vs Q E hr h=>?_)
  · obtain ⟨l,pb,es,β,N,n,rfl,_⟩:=h
    rfl
  obtain ⟨l,pb,es,β,N,n,rfl,hl,hes,hS,hri,hpb,hβ,hN,hn,h40,k⟩:=h
  have hB0:(0:Rat)≤2*β:=by grind
  -- a new Stretch
  have fresh:∀{G:Hp} {QQ:Hp→Prop} {p dx:Addr},Same H G→G p=none→G dx=none→(∀(L:Addr) (G':Hp),Same G G'→G L=none→StOk c_Stretch G' p L [] (2*β) N (2*n+1)→QQ G') →
      spInit c_Stretch [.ref p,.ref pb] (upd (upd G dx (.own p)) p (.ins c_Stretch dx [])) (fun v G'=>v=.non∧QQ G') E0:=fun {G QQ p dx} s np ndx kk=>by
    have s1:Same G (upd (upd G dx (.own p)) p (.ins c_Stretch dx [])):=fun b' o e=>by
      rw [upd_ne (ne_of_none e np),upd_ne (ne_of_none e ndx)]
      exact e
    refine ⟨p,dx,pb,β,n,rfl,upd_same,hpb.up (s.trans s1),hn,fun L G' kn s2 nL hst=>⟨rfl,?_⟩⟩
    exact kk L G' (fun b' o e=>s2 _ _ (by rw [rm_at (ne_of_none e np)];exact s1 _ _ e)) (s1.free nL) (StOk.fresh hst (Nat.le_refl _))
  refine J.l ⟨_,(J.e (J.i (i:=2) sc_stretches.nd rfl (Or.inl rfl) (J.t J.d) (hs:=sw_L))
      (J.e (J.i (i:=3) sc_stretches.nd rfl (Or.inl rfl) (Jd.pe_dk D_Stretch (hr.mono (by decide)) rfl (J.b (J.a 1) J.d st_N) (he:=st_N) (hpl:=any0)) (hs:=sw_K))
      (J.e (J.ab PassesOwn.never rfl (J.x K (J.a 0)) (J.q (i:=4) sc_stretches.nd rfl (Or.inl rfl))
      (J.g (J.o (Jd.pt_not (Jd.pt_val (Jd.pe_dm D_Stretch_takes K_Stretch.cl (hr.mono (by decide)) (J.a 3) (J.b (J.a 4) J.d st_N) (he:=st_N) (hpl:=any0))))
      (J.e (J.u (J.w K (J.a 2) (Jd.pe_dm0 D_Stretch_kept K_Stretch.cl (hr.mono (by decide)) (J.a 3))) (hs:=sw_K))
      (J.e (J.i (i:=3) sc_stretches.nd rfl (Or.inl rfl) (Jd.pe_dk D_Stretch (hr.mono (by decide)) rfl (J.b (J.a 1) J.d st_N) (he:=st_N) (hpl:=any0)) (hs:=sw_K))
      (J.g (J.u (Jd.pe_dm D_Stretch_takes K_Stretch.cl (hr.mono (by decide)) (J.a 3) (J.b (J.a 4) J.d st_N) (he:=st_N) (hpl:=any0)) (hs:=sw_K)))))
      J.s)))
      (J.e (J.o (J.n op_gt (J.r (lenC K) rfl T.len_ PySem.boot_len (J.b (J.a 0) J.d st_N) (he:=st_N) (hpl:=any0)) J.c (nomark _))
      (J.g (J.u (J.w K (J.a 2) (Jd.pe_dm0 D_Stretch_kept K_Stretch.cl (hr.mono (by decide)) (J.a 3))) (hs:=sw_K)))
      J.s)
      (J.g (J.k (J.a 2))))))),?_⟩
  walk_at "v"
  refine r_new (mk:=.lst) (by simp) fun TT H1 s1 n1 e1=>?_
  walk_at "v"
  refine fun p dx np ndx _=>fresh s1 np ndx fun L H2 s2 nL hst=>?_
  have s02:=s1.trans s2
  walk_at "v"
  refine r_for (r_iL ?_)
  walk_at "v"
  refine ⟨l,rfl,⟨_,SqL.of (s02 _ _ hl)⟩,for_list (xs:=vals es) (fun i σ H3=>∃(p L:Addr) (ls:Ls) (n0:Nat) (v:Option V),σ=[some (.ref l),some (.ref pb),some (.ref TT),some (.ref p),v]∧Same H H3∧LL H H3 TT ls∧Cut es (2*β) (ls.map (·.2)) n0∧n0≤i∧(0<i→n0<i)∧ls.length≤n0∧StOk c_Stretch H3 p L (piece es n0 i) (2*β) N (2*n+1)∧H p=none∧H L=none∧TT≠L∧∀x∈ls,x.1≠L) ?_ ?_ ?_ ?_⟩
  · refine ⟨p,L,[],0,none,rfl,s02,⟨n1,s2 _ _ e1,fun x hx=>absurd hx (by simp),by simp⟩,Cut.nil,Nat.le_refl _,fun h=>absurd h (by decide),Nat.le_refl _,?_,s1.free np,s1.free nL,fun q=>?_,fun x hx=>absurd hx (by simp)⟩
    · rw [piece_nil];exact hst
    · rw [← q,e1] at nL;cases nL
  · rintro i σ H3 _ ⟨p,L,ls,n0,v,rfl,s3,_⟩
    exact SqL.of (s3 _ _ hl)
  · rintro i x σ H3 hx ⟨p,L,ls,n0,v,rfl,s3,hLL,hC,h0i,h0i',hlsn,hst,np,nL,nTL,nlL⟩
    obtain ⟨e,he,rfl⟩:=vals_at hx
    have hi:i<es.length:=(List.getElem?_eq_some_iff.mp he).1
    obtain ⟨e',he',hsa⟩:=sa_at (hes.up s3) hS hi
    rw [he] at he'
    cases he'
    have ee:e=(e.1,mo es i,some (wo es i)):=by
      have hs:=hS e (List.mem_of_getElem? he)
      obtain ⟨a,m,v⟩:=e
      cases v with
      | none=>cases hs
      | some q=>
        unfold mo wo
        rw [he]
        rfl
    have hlen:(piece es n0 i).length=i-n0:=piece_len (by walk_at "o")
    have hm:∀j,j<(piece es n0 i).length→mo (piece es n0 i) j<mo es i:=fun j hj=>by
      rw [hlen] at hj
      rw [mo_piece hj]
      exact mo_lt hri (by walk_at "o") hi
    have hnext:=piece_next h0i he
    rw [ee] at hnext
    obtain ⟨dx3,tw,fs,g,s',ep,hF,eL,_⟩:=id hst
    walk_at "v"
    refine r_m ep (hF.meth "takes") ?_
    walk_at "v"
    refine ⟨p,L,e.1,piece es n0 i,mo es i,wo es i,_,N,2*n+1,rfl,hst,hsa,hm,by walk_at "o",hN,by walk_at "o",hB0,fun r H4 s4 hfit hst4=>?_⟩
    rw [← hnext] at hfit hst4
    have s04:Same H H4:=fun b' o q=>s4 _ _ (by rw [rm2_at (ne_of_none q np) (ne_of_none q nL)];exact s3 _ _ q)
    have hLL4:=hLL.mv ep nTL nlL s4
    cases r with
    | true=>
      rw [if_pos rfl] at hst4
      walk_at "v"
      refine iteF ?_
      walk_at "v"
      exact ⟨p,L,ls,n0,_,rfl,s04,hLL4,hC,by walk_at "o",fun _=>by walk_at "o",hlsn,hst4,np,nL,nTL,nlL⟩
    | false=>
      rw [if_neg Bool.false_ne_true] at hst4
      have nf:¬Fit (piece es n0 (i+1)) (2*β):=fun q=>absurd (hfit.mpr q) (by decide)
      have h0lt:n0<i:=by
        apply Classical.byContradiction
        intro q
        exact nf (fit_one (by rw [piece_len (by walk_at "o")];walk_at "o"))
      have hC':Cut es (2*β) (ls.map (·.2)++[piece es n0 i]) i:=hC.snoc h0lt (by walk_at "o") hst.fit fun _=>nf
      obtain ⟨dx4,tw4,fs4,g4,s4',ep4,hF4,eL4,_⟩:=id hst4
      walk_at "v"
      refine iteT ?_
      walk_at "v"
      refine ⟨.inl ⟨rfl,_,SqL.of hLL4.at_⟩,?_⟩
      walk_at "v"
      refine r_m ep4 (hF4.meth "kept") ?_
      walk_at "v"
      refine ⟨p,L,_,_,_,_,rfl,hst4,fun R H5 s5 nR eR=>?_⟩
      have hLL5:=hLL4.up s5
      have hRT:R≠TT:=fun q=>by rw [q,hLL4.at_] at nR;cases nR
      have hRl:∀x∈ls,x.1≠R:=fun x hx q=>by
        have:=(hLL4.each x hx).2.1
        rw [q,nR] at this
        cases this
      walk_at "v"
      refine r_app hLL5.at_ (by rw [lrefs_len];exact small1000 (by walk_at "o")) ?_
      have hLL6:=hLL5.push (s04.free nR) eR hRT hRl
      have s06:Same H (upd H5 TT (.lst (lrefs ls++[.ref R]))):=same_at (s04.trans s5) n1
      generalize upd H5 TT (.lst (lrefs ls++[.ref R]))=H6 at hLL6 s06 ⊢
      walk_at "v"
      refine fun p' dx' np' ndx' _=>fresh s06 np' ndx' fun L' H7 s7 nL' hst7=>?_
      have s07:=s06.trans s7
      have hLL7:=hLL6.up s7
      obtain ⟨dx7,tw7,fs7,g7,s7',ep7,hF7,eL7,_⟩:=id hst7
      walk_at "v"
      refine r_m ep7 (hF7.meth "takes") ?_
      walk_at "v"
      refine ⟨p',L',e.1,[],mo es i,wo es i,_,N,2*n+1,rfl,hst7,?_,fun j hj=>absurd hj (Nat.not_lt_zero _),Nat.zero_le _,hN,by walk_at "o",hB0,fun r2 H8 s8 hfit8 hst8=>?_⟩
      · obtain ⟨e2,he2,hsa2⟩:=sa_at (hes.up s07) hS hi
        rw [he] at he2
        cases he2
        exact hsa2
      have hr2:r2=true:=hfit8.mpr (fit_one (by simp))
      rw [if_pos hr2,List.nil_append,← ee] at hst8
      have nTL':TT≠L':=fun q=>by rw [← q,hLL6.at_] at nL';cases nL'
      have nlL':∀x∈ls++[(R,piece es n0 i)],x.1≠L':=fun x hx q=>by
        have:=(hLL6.each x hx).2.1
        rw [q,nL'] at this
        cases this
      have hLL8:=hLL7.mv ep7 nTL' nlL' s8
      walk_at "v"
      refine ⟨p',L',ls++[(R,piece es n0 i)],i,_,rfl,fun b' o q=>s8 _ _ (by rw [rm2_at (ne_of_none q (s06.free np')) (ne_of_none q (s06.free nL'))];exact s07 _ _ q),hLL8,?_,by walk_at "o",fun _=>by walk_at "o",by rw [List.length_append];show ls.length+1≤i;walk_at "o",?_,s06.free np',s06.free nL',nTL',nlL'⟩
      · rw [List.map_append]
        exact hC'
      · rw [piece_next (Nat.le_refl _) he,piece_nil]
        exact hst8
  · rintro σ H3 ⟨p,L,ls,n0,v,rfl,s3,hLL,hC,h0i,h0i',hlsn,hst,np,nL,nTL,nlL⟩
    rw [vals_len] at h0i h0i' hst
    walk_at "v"
    refine r_len (.inl (SqL.of (s3 _ _ hl))) ?_
    rw [vals_len]
    walk_at "v"
    refine ite2 (fun c=>?_) (fun c=>?_)
    · have c':=of_decide_eq_true c
      obtain ⟨dx4,tw4,fs4,g4,s4',ep4,hF4,eL4,_⟩:=id hst
      walk_at "v"
      refine ⟨.inl ⟨rfl,_,SqL.of hLL.at_⟩,?_⟩
      walk_at "v"
      refine r_m ep4 (hF4.meth "kept") ?_
      walk_at "v"
      refine ⟨p,L,_,_,_,_,rfl,hst,fun R H5 s5 nR eR=>?_⟩
      have hLL5:=hLL.up s5
      have hRT:R≠TT:=fun q=>by rw [q,hLL.at_] at nR;cases nR
      have hRl:∀x∈ls,x.1≠R:=fun x hx q=>by
        have:=(hLL.each x hx).2.1
        rw [q,nR] at this
        cases this
      have hlt:n0<es.length:=h0i' (by walk_at "o")
      walk_at "v"
      refine r_app hLL5.at_ (by rw [lrefs_len];exact small1000 (by walk_at "o")) ?_
      have hLL6:=hLL5.push (s3.free nR) eR hRT hRl
      walk_at "v"
      refine k TT _ _ (same_at (s3.trans s5) n1) hLL6 ?_ (by rw [List.length_append];show ls.length+1≤40;walk_at "o")
      rw [List.map_append]
      exact hC.snoc hlt (Nat.le_refl _) hst.fit fun q=>absurd q (Nat.lt_irrefl _)
    · have c':=of_decide_eq_false (Bool.eq_false_iff.mpr c)
      walk_at "v"
      refine k TT ls H3 s3 hLL ?_ (by walk_at "o")
      rw [show es.length=n0 by walk_at "o"]
      exact hC
end

section
variable (t y:Nat→Int)
noncomputable def ab (i k p:Nat):Int:=y p*(t k-t i)-y i*(t k-t p)-y k*(t p-t i)
noncomputable def offI (i j k p:Nat):Int:=2*ab t y i k p-ab t y i k j
noncomputable def devOf (i j k:Nat):Rat:=((ab t y i k j).natAbs:Int)/((t k-t i:Int):Rat)
end
section
variable {t y:Nat→Int} {n i j k p a b c:Nat}
theorem ab_off:2*(t k-t i)*ab t y a c b=offI t y i j k b*(t c-t a)-offI t y i j k a*(t c-t b)-offI t y i j k c*(t b-t a):=by
  unfold offI ab
  grind
theorem off_first:offI t y i j k i=- ab t y i k j:=by
  unfold offI ab
  grind
theorem off_last:offI t y i j k k=- ab t y i k j:=by
  unfold offI ab
  grind
theorem off_mid:offI t y i j k j=ab t y i k j:=by
  unfold offI
  walk_at "o"
theorem alt_gt {x u z m q r:Int} (hx:m≤x) (hu:m≤u) (hz:m≤z) (h:m<x∨m<u∨m<z) (hq:0<q) (hr:0<r):2*m*(q+r)<u*(q+r)+x*q+z*r:=by
  have e:u*(q+r)+x*q+z*r-2*m*(q+r)=(u-m)*(q+r)+(x-m)*q+(z-m)*r:=by grind
  have h1:0≤(u-m)*(q+r):=Int.mul_nonneg (by walk_at "o") (by walk_at "o")
  have h2:0≤(x-m)*q:=Int.mul_nonneg (by walk_at "o") (by walk_at "o")
  have h3:0≤(z-m)*r:=Int.mul_nonneg (by walk_at "o") (by walk_at "o")
  rcases h with h | h | h
  · have:0<(x-m)*q:=Int.mul_pos (by walk_at "o") hq
    walk_at "o"
  · have:0<(u-m)*(q+r):=Int.mul_pos (by walk_at "o") (by walk_at "o")
    walk_at "o"
  · have:0<(z-m)*r:=Int.mul_pos (by walk_at "o") hr
    walk_at "o"
noncomputable def Alt (O:Nat→Int) (m:Int) (a b c:Nat):Prop:=((m≤O b∧m≤- O a∧m≤- O c)∨(m≤- O b∧m≤O a∧m≤O c))∧((m<O a∨m < - O a)∨(m<O b∨m < - O b)∨(m<O c∨m < - O c))
theorem dev_lt (hik:t i<t k) (hab:t a<t b) (hbc:t b<t c) (h:Alt (offI t y i j k) ((ab t y i k j).natAbs:Int) a b c):devOf t y i j k<devOf t y a b c:=by
  have key:((ab t y i k j).natAbs:Int)*(t c-t a)<((ab t y a c b).natAbs:Int)*(t k-t i):=by
    have id:=ab_off (t:=t) (y:=y) (i:=i) (j:=j) (k:=k) (a:=a) (b:=b) (c:=c)
    generalize offI t y i j k=O at *
    generalize hm:((ab t y i k j).natAbs:Int)=m at *
    have hm0:0≤m:=by walk_at "o"
    obtain ⟨h1,h2⟩:=h
    rcases h1 with ⟨u1,u2,u3⟩ | ⟨u1,u2,u3⟩
    · have g:=alt_gt (x:=- O a) (u:=O b) (z:=- O c) (q:=t c-t b) (r:=t b-t a) u2 u1 u3 (by walk_at "o") (by walk_at "o") (by walk_at "o")
      have e1:O b*(t c-t b+(t b-t a))+- O a*(t c-t b)+- O c*(t b-t a)=O b*(t c-t a)-O a*(t c-t b)-O c*(t b-t a):=by grind
      rw [e1,← id] at g
      have e2:2*m*(t c-t b+(t b-t a))=2*(m*(t c-t a)):=by grind
      rw [e2] at g
      have e3:2*(t k-t i)*ab t y a c b=2*(ab t y a c b*(t k-t i)):=by grind
      rw [e3] at g
      have g2:m*(t c-t a)<ab t y a c b*(t k-t i):=by walk_at "o"
      exact Int.lt_of_lt_of_le g2 (Int.mul_le_mul_of_nonneg_right (by walk_at "o") (by walk_at "o"))
    · have g:=alt_gt (x:=O a) (u:=- O b) (z:=O c) (q:=t c-t b) (r:=t b-t a) u2 u1 u3 (by walk_at "o") (by walk_at "o") (by walk_at "o")
      have e1:- O b*(t c-t b+(t b-t a))+O a*(t c-t b)+O c*(t b-t a)=- (O b*(t c-t a)-O a*(t c-t b)-O c*(t b-t a)):=by grind
      rw [e1,← id] at g
      have e2:2*m*(t c-t b+(t b-t a))=2*(m*(t c-t a)):=by grind
      rw [e2] at g
      have e3:- (2*(t k-t i)*ab t y a c b)=2*(- ab t y a c b*(t k-t i)):=by grind
      rw [e3] at g
      have g2:m*(t c-t a) < - ab t y a c b*(t k-t i):=by walk_at "o"
      exact Int.lt_of_lt_of_le g2 (Int.mul_le_mul_of_nonneg_right (by walk_at "o") (by walk_at "o"))
  unfold devOf
  have hT:=cast_pos (b:=t k-t i) (by walk_at "o")
  have hp:=cast_pos (b:=t c-t a) (by walk_at "o")
  rw [Rat.div_lt_iff hT]
  have e:(((ab t y a c b).natAbs:Int):Rat)/((t c-t a:Int):Rat)*((t k-t i:Int):Rat)=((((ab t y a c b).natAbs:Int)*(t k-t i):Int):Rat)/((t c-t a:Int):Rat):=by
    rw [Rat.intCast_mul]
    grind
  rw [e,Rat.lt_div_iff hp,← Rat.intCast_mul]
  exact Rat.intCast_lt_intCast.mpr key
end
noncomputable def tris (n:Nat):List (Nat×Nat×Nat):=(List.range n).flatMap fun a=>(List.range n).flatMap fun b=>(List.range n).map fun c=>(a,b,c)
theorem mem_tris {n a b c:Nat} (ha:a<n) (hb:b<n) (hc:c<n):(a,b,c)∈tris n:=by
  unfold tris
  exact List.mem_flatMap.mpr ⟨a,List.mem_range.mpr ha,List.mem_flatMap.mpr ⟨b,List.mem_range.mpr hb,List.mem_map.mpr ⟨c,List.mem_range.mpr hc,rfl⟩⟩⟩
open Classical in
noncomputable def beyond (t y:Nat→Int) (n:Nat) (d:Rat):Nat:=((tris n).filter fun x=>decide (d<devOf t y x.1 x.2.1 x.2.2)).length
theorem filter_lt {α:Type} {p q:α→Bool}:∀{l:List α},(∀x,q x=true→p x=true)→(∃x,x∈l∧p x=true∧q x=false)→(l.filter q).length<(l.filter p).length
  | [],_,h=>by obtain ⟨x,hx,_⟩:=h;exact absurd hx (by simp)
  | a::l,hq,h=>by
    have le:∀l:List α,(l.filter q).length≤(l.filter p).length:=fun l=>by
      induction l with
      | nil=>exact Nat.le_refl _
      | cons b l ih=>
        rw [List.filter_cons,List.filter_cons]
        cases hb:q b with
        | true=>rw [hq b hb,if_pos rfl,if_pos rfl];exact Nat.succ_le_succ ih
        | false=>
          rw [if_neg Bool.false_ne_true]
          split
          · exact Nat.le_succ_of_le ih
          · exact ih
    obtain ⟨x,hx,hp,hqx⟩:=h
    rw [List.filter_cons,List.filter_cons]
    rcases List.mem_cons.mp hx with rfl | hx
    · rw [hqx,hp,if_neg Bool.false_ne_true,if_pos rfl]
      exact Nat.lt_succ_of_le (le l)
    · have ih:=filter_lt (l:=l) hq ⟨x,hx,hp,hqx⟩
      cases hb:q a with
      | true=>rw [hq a hb,if_pos rfl,if_pos rfl];exact Nat.succ_lt_succ ih
      | false=>
        rw [if_neg Bool.false_ne_true]
        split
        · exact Nat.lt_succ_of_lt ih
        · exact ih
open Classical in
theorem beyond_lt {t y:Nat→Int} {n a b c:Nat} {d:Rat} (ha:a<n) (hb:b<n) (hc:c<n) (h:d<devOf t y a b c):beyond t y n (devOf t y a b c)<beyond t y n d:=by
  unfold beyond
  refine filter_lt (fun x hx=>decide_eq_true (by have:=of_decide_eq_true hx;grind)) ⟨(a,b,c),mem_tris ha hb hc,decide_eq_true h,decide_eq_false (Rat.lt_irrefl)⟩
theorem lcm_step {C b:Int} (hC:1≤C) (hb:1≤b):1≤C.fdiv (Int.gcd C b:Nat)*b∧C.fdiv (Int.gcd C b:Nat)*b≤C*b∧C∣C.fdiv (Int.gcd C b:Nat)*b∧b∣C.fdiv (Int.gcd C b:Nat)*b:=by
  have gp:0<Int.gcd C b:=Int.gcd_pos_of_ne_zero_right C (by walk_at "o")
  obtain ⟨c,hc⟩:=Int.gcd_dvd_left (a:=C) (b:=b)
  obtain ⟨d,hd⟩:=Int.gcd_dvd_right (a:=C) (b:=b)
  generalize hg:((Int.gcd C b:Nat):Int)=g at *
  have g1:0<g:=by walk_at "o"
  have e:C.fdiv g=c:=by
    conv=>lhs;rw [hc]
    exact Int.mul_fdiv_cancel_left c (by walk_at "o")
  rw [e]
  have hc1:1≤c:=by
    rcases Int.lt_or_le c 1 with z | z
    · have:g*c≤0:=Int.mul_nonpos_of_nonneg_of_nonpos (by walk_at "o") (by walk_at "o")
      walk_at "o"
    · exact z
  have hcC:c≤C:=by
    rw [hc]
    have:=Int.mul_le_mul_of_nonneg_right (show 1≤g by walk_at "o") (show 0≤c by walk_at "o")
    walk_at "o"
  refine ⟨?_,Int.mul_le_mul_of_nonneg_right hcC (by walk_at "o"),⟨d,?_⟩,⟨c,Int.mul_comm _ _⟩⟩
  · have:=Int.mul_le_mul hc1 hb (by walk_at "o") (by walk_at "o")
    walk_at "o"
  · rw [hc]
    conv=>lhs;rw [hd]
    grind
structure Pts (H:Hp) (L:Addr) (ps:List Addr) (t y:Nat→Int):Prop where
  at_:H L=some (.lst (ps.map V.ref))
  each:∀i a,ps[i]?=some a→H a=some (.tup [.int (t i),.int (y i)])
theorem Pts.up {H H':Hp} {L:Addr} {ps:List Addr} {t y:Nat→Int} (h:Pts H L ps t y) (s:Same H H'):Pts H' L ps t y:=⟨s _ _ h.at_,fun i a e=>s _ _ (h.each i a e)⟩
theorem pts_at {ps:List Addr} {i:Nat} {j:Int} (h:i<ps.length) (hj:j=(i:Int)):∃a,ps[i]?=some a∧atI (ps.map V.ref) j=some (.ref a):=⟨ps[i],List.getElem?_eq_getElem h,by
  subst hj
  exact atI_nat (by rw [List.getElem?_map,List.getElem?_eq_getElem h];rfl)⟩
noncomputable def spPoints:Sp:=fun vs H Q _=>∃(l:Addr) (es:List En) (n:Nat),vs=[.ref l]∧H l=some (.lst (vals es))∧Row H es n∧AllS es∧1≤n∧es.length*n+n≤7000∧es.length≤40 ∧
  ∀(L:Addr) (ps:List Addr) (y:Nat→Int) (C:Int) (H':Hp),Same H H'→H L=none→Pts H' L ps (mo es) y→ps.length=es.length→1≤C→(∀i,i<es.length→(y i:Rat)=wo es i*(C:Rat)∧Sz 8000 (y i))→Q (.ref L) H'
noncomputable def spAbove:Sp:=fun vs H Q _=>∃(p1 p2 p3:Addr) (m1 n1 m2 n2 m3 n3:Int),vs=[.ref p1,.ref p2,.ref p3]∧H p1=some (.tup [.int m1,.int n1])∧H p2=some (.tup [.int m2,.int n2])∧H p3=some (.tup [.int m3,.int n3]) ∧
  Sz 8000 m1∧Sz 8000 m2∧Sz 8000 m3∧Sz 8000 n1∧Sz 8000 n2∧Sz 8000 n3∧Q (.int (n3*(m2-m1)-n1*(m2-m3)-n2*(m3-m1))) H
noncomputable def spOffs:Sp:=fun vs H Q _=>∃(L r:Addr) (ps:List Addr) (t y:Nat→Int) (i j k:Nat),vs=[.ref L,.ref r]∧Pts H L ps t y∧ps.length≤40∧H r=some (.tup [.int (i:Int),.int (j:Int),.int (k:Int)])∧i<ps.length∧j<ps.length∧k<ps.length∧(∀q,q<ps.length→Sz 8000 (t q)∧Sz 8000 (y q)) ∧
  ∀(D:Addr) (H':Hp),Same H H'→H D=none→H' D=some (.lst (((List.range ps.length).map (offI t y i j k)).map V.int))→Q (.ref D) H'
noncomputable def spExch:Sp:=fun vs H Q _=>∃(r D:Addr) (i j k p n:Nat) (O:Nat→Int) (m:Int),vs=[.ref r,.int (p:Int),.ref D]∧H r=some (.tup [.int (i:Int),.int (j:Int),.int (k:Int)])∧H D=some (.lst (((List.range n).map O).map V.int))∧i<j∧j<k∧k<n∧p<n∧0≤m∧((m=O j∧O i=- O j∧O k=- O j)∨(m=- O j∧O i=- O j∧O k=- O j))∧(m<O p∨m < - O p) ∧
  ∀(r':Addr) (a b c:Nat) (H':Hp),Same H H'→H' r'=some (.tup [.int (a:Int),.int (b:Int),.int (c:Int)])→a<b→b<c→c<n→Alt O m a b c→Q (.ref r') H'
noncomputable def Flat (t y:Nat→Int) (n i j k:Nat):Prop:=i<j∧j<k∧k<n∧∀p,p<n→(offI t y i j k p).natAbs≤(ab t y i k j).natAbs
noncomputable def spForcing:Sp:=fun vs H Q _=>∃(l:Addr) (es:List En) (n:Nat),vs=[.ref l]∧H l=some (.lst (vals es))∧Row H es n∧AllS es∧rising es∧1≤n∧es.length*n+n≤7000∧3≤es.length∧es.length≤40 ∧
  ∀(r:Addr) (i j k:Nat) (y:Nat→Int) (C:Int) (H':Hp),Same H H'→H' r=some (.tup [.int (i:Int),.int (j:Int),.int (k:Int)])→1≤C→(∀i,i<es.length→(y i:Rat)=wo es i*(C:Rat))→Flat (mo es) y es.length i j k→Q (.ref r) H'
section
variable {P:Program} {w:World} {K:PySem.W.Frag} {mg:Str→Option Value} {base:Heap} {f:Addr} {fd:FuncData}
theorem sc_whole_points:FnScope ["samples","common","sample","bottom"] ["samples"] (defScope s_whole_points):=⟨rfl,rfl,rfl,by decide +kernel,rfl,by decide +kernel,by decide +kernel⟩
theorem ok_whole_points (F:Fun K "whole_points" "whole_points" s_whole_points f fd) (D_divisor:Dn P w K mg base 2 "divisor" ["one","other"] spDivisor):FnOk P w K mg base CX0 3 f fd ["samples"] spPoints:=by
  refine F.ok sc_whole_points (fun vs H Q E h=>?_) (fun cdv A outer s H vs Q E hr h=>?_)
  · obtain ⟨l,es,n,rfl,_⟩:=h
    rfl
  obtain ⟨l,es,n,rfl,hl,hR,hS,hn1,hn,h40,k⟩:=h
  have hin:∀i,i<es.length→i*n+n≤es.length*n:=fun i hi=>by
    have:=Nat.mul_le_mul_right n (show i+1≤es.length by walk_at "o")
    rw [Nat.add_mul,Nat.one_mul] at this
    exact this
  have cd:∀{x d:Int},1≤d→Sz 8000 d→CDivB x d:=fun hd hz=>⟨by walk_at "o",Sz.log (m:=8000) hz (by decide) (by decide)⟩
  refine J.l ⟨_,(J.e (J.i (i:=1) sc_whole_points.nd rfl (Or.inr rfl) J.c (hs:=sw_C))
      (J.e (J.ab PassesOwn.never rfl (J.x K (J.a 0)) (J.q (i:=2) sc_whole_points.nd rfl (Or.inl rfl))
      (J.e (J.i (i:=3) sc_whole_points.nd rfl (Or.inl rfl) (J.f (ixT K) (J.f (ixT K) (J.a 2) J.c (fun _ _=>rfl)) J.c (fun _ _=>rfl)) (hs:=sw_S))
      (J.g (J.i (i:=1) sc_whole_points.nd rfl (Or.inr rfl) (J.h op_mulB (J.h op_fdivB (J.a 1) (J.j D_divisor (hr.mono (by decide)) rfl (J.b (J.a 1) (J.b (J.a 3) J.d st_N) st_N) (he:=st_N) (hpl:=(anyc st_N any0)))) (J.a 3)) (hs:=sw_B)))))
      (J.g (J.k (J.ac (O:=["sample"]) (N':=["common"]) (cap:=[1]) rfl (J.x K (J.a 0)) (fun _ _ _ _ _=>(J.q (i:=0) (show List.Nodup [("sample":Str),("common":Str)] by decide +kernel) rfl (Or.inl rfl))) (fun _ _ _ _ _=>J.ad) (fun _ _ _ _ _=>(J.m (J.b (J.f (ixT K) (J.a 0) J.c (fun _ _=>rfl)) (J.b (J.h op_mulB (J.f (ixT K) (J.f (ixT K) (J.a 0) J.c (fun _ _=>rfl)) J.c (fun _ _=>rfl)) (J.h op_fdivB (J.a 1) (J.f (ixT K) (J.f (ixT K) (J.a 0) J.c (fun _ _=>rfl)) J.c (fun _ _=>rfl)))) J.d st_B) st_S))) rfl ⟨⟨rfl,rfl,rfl,rfl⟩,trivial⟩ rfl (by decide +kernel) rfl (by decide +kernel)))))),?_⟩
  walk_at "v"
  refine r_for (r_iL ?_)
  walk_at "v"
  refine ⟨l,rfl,⟨_,SqL.of hl⟩,for_list (xs:=vals es) (fun i σ H3=>∃(C:Int) (v2 v3:Option V),σ=[some (.ref l),some (.int C),v2,v3]∧Same H H3∧1≤C∧Sz (i*n+1) C∧∀j,j<i→((wo es j).den:Int)∣C) ?_ ?_ ?_ ?_⟩
  · exact ⟨1,none,none,rfl,Same.refl _,Int.le_refl _,by rw [Nat.zero_mul];exact one_sz (by walk_at "o"),fun j hj=>by walk_at "o"⟩
  · rintro i σ H3 _ ⟨C,v2,v3,rfl,s3,_⟩
    exact SqL.of (s3 _ _ hl)
  · rintro i x σ H3 hx ⟨C,v2,v3,rfl,s3,hC,zC,hdv⟩
    refine body_cut fun M B RR hM _ _=>?_
    obtain ⟨e,he,rfl⟩:=vals_at hx
    have hi:i<es.length:=(List.getElem?_eq_some_iff.mp he).1
    obtain ⟨e',he',v,ev,⟨tp,b,eb,hfr,zt,zb⟩,zm⟩:=sa_at (hR.up s3) hS hi
    rw [he] at he'
    cases he'
    have hb:=hfr.pos
    obtain ⟨_,hbd⟩:=hfr.num_den
    have hin':=hin i hi
    walk_at "v"
    refine ⟨C,b,rfl,zC.mono (by walk_at "o"),zb.mono (by walk_at "o"),fun H4 s4=>?_⟩
    obtain ⟨u1,u2,u3,u4⟩:=lcm_step hC hb
    have zg:Sz 8000 ((Int.gcd C b:Nat):Int):=by
      have:Int.gcd C b≤b.natAbs:=Nat.le_of_dvd (by walk_at "o") (Nat.gcd_dvd_right _ _)
      exact Sz.of_le (zb.mono (by walk_at "o")) (by walk_at "o")
    have gp:0<Int.gcd C b:=Int.gcd_pos_of_ne_zero_right C (by walk_at "o")
    have zC':Sz ((i+1)*n+1) (C.fdiv (Int.gcd C b:Nat)*b):=by
      have e1:(i+1)*n+1=i*n+1+n:=by rw [Nat.add_mul,Nat.one_mul];walk_at "o"
      rw [e1]
      refine Sz.of_le (zC.mul zb) ?_
      generalize C.fdiv (Int.gcd C b:Nat)*b=A at *
      generalize C*b=B at *
      walk_at "o"
    have zq:Sz 8000 (C.fdiv (Int.gcd C b:Nat)):=by
      refine Sz.of_le (zC.mono (show i*n+1≤8000 by walk_at "o")) ?_
      have h0:0≤C.fdiv (Int.gcd C b:Nat):=Int.fdiv_nonneg (by walk_at "o") (by walk_at "o")
      have:C.fdiv (Int.gcd C b:Nat)≤C:=by
        rw [Int.fdiv_eq_ediv_of_nonneg _ (by walk_at "o")]
        exact Int.ediv_le_self _ (by walk_at "o")
      walk_at "o"
    walk_at "v"
    refine r_I (cd (by walk_at "o") zg) ?_
    walk_at "v"
    refine r_I (mulOk zq (zb.mono (show n≤8000 by walk_at "o")) (by decide)) ?_
    walk_at "v"
    refine hM _ _ ⟨_,_,_,rfl,s3.trans s4,u1,zC',fun j hj=>?_⟩
    by_cases e:j=i
    · rw [e,← hbd];exact u4
    · exact Int.dvd_trans (hdv j (by walk_at "o")) u3
  · rintro σ H3 ⟨C,v2,v3,rfl,s3,hC,zC,hdv⟩
    rw [vals_len] at zC hdv
    have hl3:=s3 _ _ hl
    walk_at "v"
    refine r_iL ?_
    walk_at "v"
    refine ⟨l,rfl,⟨_,SqL.of hl3⟩,?_⟩
    refine compB_of (xs:=vals es) tells_list (fun H4 s4=>SqL.of (s4 _ _ hl3)) (by rw [vals_len];walk_at "o") (fun i ys G=>∃(ps:List Addr),ys=ps.map V.ref∧ps.length=i∧∀q a,ps[q]?=some a→G a=some (.tup [.int (mo es q),.int ((wo es q).num*(C.fdiv ((wo es q).den:Int)))])) ⟨[],rfl,rfl,fun q a h=>by simp at h⟩ ?_ ?_
    · rintro D i x ys H4 σ0 NN N0 h0 hD eD s4 hx hy ⟨ps,rfl,hps,hat⟩ kY kN
      obtain ⟨e,he,rfl⟩:=vals_at hx
      have hi:i<es.length:=(List.getElem?_eq_some_iff.mp he).1
      obtain ⟨e',he',v,ev,⟨tp,b,eb,hfr,zt,zb⟩,zm⟩:=sa_at (hR.up (s3.trans s4)) hS hi
      rw [he] at he'
      cases he'
      have hb:=hfr.pos
      obtain ⟨htn,hbd⟩:=hfr.num_den
      refine r_own1 h0 ?_
      walk_at "v"
      refine iteT ?_
      walk_at "v"
      refine r_I (cd hb (zb.mono (by walk_at "o"))) ?_
      walk_at "v"
      have zq:Sz 8000 (C.fdiv b):=by
        refine Sz.of_le (zC.mono (show es.length*n+1≤8000 by walk_at "o")) ?_
        have h0:0≤C.fdiv b:=Int.fdiv_nonneg (by walk_at "o") (by walk_at "o")
        have:C.fdiv b≤C:=by
          rw [Int.fdiv_eq_ediv_of_nonneg _ (by walk_at "o")]
          exact Int.ediv_le_self _ (by walk_at "o")
        walk_at "o"
      refine r_I (mulOk (zt.mono (show n≤8000 by walk_at "o")) zq (by decide)) ?_
      walk_at "v"
      refine r_new (mk:=.tup) (by simp) fun p H5 s5 n5 e5=>?_
      refine kY _ H5 s5 ⟨ps++[p],by simp,by simp [hps],fun q a hq=>?_⟩
      by_cases hqi:q<ps.length
      · rw [List.getElem?_append_left hqi] at hq
        exact (rm_rm s5) _ _ (hat q a hq)
      · rw [List.getElem?_append_right (by walk_at "o")] at hq
        have hq0:q=i:=by
          have:=(List.getElem?_eq_some_iff.mp hq).1
          simp at this
          walk_at "o"
        subst hq0
        rw [hps,Nat.sub_self] at hq
        obtain rfl:p=a:=by simpa using hq
        rw [← htn,← hbd]
        exact rm_tup (s5 _ _ eD) e5
    · rintro D ys H4 hD eD s4 hy ⟨ps,rfl,hps,hat⟩
      rw [vals_len] at hps
      refine k D ps (fun q=>(wo es q).num*(C.fdiv ((wo es q).den:Int))) C H4 (s3.trans s4) (s3.free hD) ⟨eD,fun q a h=>rm_same _ _ (hat q a h)⟩ hps hC (fun i hi=>?_)
      obtain ⟨e',he',v,ev,⟨tp,b,eb,hfr,zt,zb⟩,zm⟩:=sa_at hR hS hi
      obtain ⟨htn,hbd⟩:=hfr.num_den
      have hb:=hfr.pos
      obtain ⟨c,hc⟩:=hdv i hi
      rw [← hbd] at hc
      have e1:C.fdiv b=c:=by
        conv=>lhs;rw [hc]
        exact Int.mul_fdiv_cancel_left c (by walk_at "o")
      have hbne:=cast_ne (b:=b) (by walk_at "o")
      have hin':=hin i hi
      refine ⟨?_,?_⟩
      · show (((wo es i).num*(C.fdiv ((wo es i).den:Int)):Int):Rat)=_
        rw [← hbd,← htn,e1,hc,Rat.intCast_mul,Rat.intCast_mul]
        have:=hfr.eq
        grind
      · show Sz 8000 ((wo es i).num*(C.fdiv ((wo es i).den:Int)))
        rw [← hbd,← htn]
        have zq:Sz (es.length*n+1) (C.fdiv b):=by
          refine Sz.of_le zC ?_
          have h0:0≤C.fdiv b:=Int.fdiv_nonneg (by walk_at "o") (by walk_at "o")
          have:C.fdiv b≤C:=by
            rw [Int.fdiv_eq_ediv_of_nonneg _ (by walk_at "o")]
            exact Int.ediv_le_self _ (by walk_at "o")
          walk_at "o"
        exact (zt.mul zq).mono (by walk_at "o")
end
section
variable {P:Program} {w:World} {K:PySem.W.Frag} {mg:Str→Option Value} {base:Heap} {f:Addr} {fd:FuncData}
theorem sc_above_chord:FnScope ["one","last","point","ahead","behind"] ["one","last","point"] (defScope s_above_chord):=⟨rfl,rfl,rfl,by decide +kernel,rfl,by decide +kernel,by decide +kernel⟩
theorem ok_above_chord (F:Fun K "above_chord" "above_chord" s_above_chord f fd):FnOk P w K mg base CX0 1 f fd ["one","last","point"] spAbove:=by
  refine F.ok sc_above_chord (fun vs H Q E h=>?_) (fun cdv A outer s H vs Q E hr h=>?_)
  · obtain ⟨p1,p2,p3,m1,n1,m2,n2,m3,n3,rfl,_⟩:=h
    rfl
  obtain ⟨p1,p2,p3,m1,n1,m2,n2,m3,n3,rfl,e1,e2,e3,a1,a2,a3,b1,b2,b3,k⟩:=h
  refine J.l ⟨_,(J.e (J.i (i:=3) sc_above_chord.nd rfl (Or.inl rfl) (J.h op_mulB (J.f (ixT K) (J.a 0) J.c (fun _ _=>rfl)) (J.h op_sub (J.f (ixT K) (J.a 1) J.c (fun _ _=>rfl)) (J.f (ixT K) (J.a 2) J.c (fun _ _=>rfl)))) (hs:=sw_B))
      (J.e (J.i (i:=4) sc_above_chord.nd rfl (Or.inl rfl) (J.h op_mulB (J.f (ixT K) (J.a 1) J.c (fun _ _=>rfl)) (J.h op_sub (J.f (ixT K) (J.a 2) J.c (fun _ _=>rfl)) (J.f (ixT K) (J.a 0) J.c (fun _ _=>rfl)))) (hs:=sw_B))
      (J.g (J.k (J.h op_sub (J.h op_sub (J.h op_mulB (J.f (ixT K) (J.a 2) J.c (fun _ _=>rfl)) (J.h op_sub (J.f (ixT K) (J.a 1) J.c (fun _ _=>rfl)) (J.f (ixT K) (J.a 0) J.c (fun _ _=>rfl)))) (J.a 3)) (J.a 4)))))),?_⟩
  walk_at "v"
  refine r_I (mulOk b1 (a2.sub a3) (by decide)) ?_
  walk_at "v"
  refine r_I (mulOk b2 (a3.sub a1) (by decide)) ?_
  walk_at "v"
  refine r_I (mulOk b3 (a2.sub a1) (by decide)) ?_
  walk_at "v"
  exact k
theorem sc_scaled_offs:FnScope ["points","three","one","last","lift"] ["points","three"] (defScope s_scaled_offs):=⟨rfl,rfl,rfl,by decide +kernel,rfl,by decide +kernel,by decide +kernel⟩
theorem ok_scaled_offs (F:Fun K "scaled_offs" "scaled_offs" s_scaled_offs f fd) (D_above_chord:Dn P w K mg base 1 "above_chord" ["one","last","point"] spAbove):FnOk P w K mg base CX0 2 f fd ["points","three"] spOffs:=by
  refine F.ok sc_scaled_offs (fun vs H Q E h=>?_) (fun cdv A outer s H vs Q E hr h=>?_)
  · obtain ⟨L,r,ps,t,y,i,j,k,rfl,_⟩:=h
    rfl
  obtain ⟨L,r,ps,t,y,i,j,kk,rfl,hP,h40,er,hi,hj,hk,hz,k⟩:=h
  obtain ⟨ai,gi,ti⟩:=pts_at hi (j:=(i:Int)) rfl
  obtain ⟨aj,gj,tj⟩:=pts_at hj (j:=(j:Int)) rfl
  obtain ⟨ak,gk,tk⟩:=pts_at hk (j:=(kk:Int)) rfl
  have ei:=hP.each _ _ gi
  have ej:=hP.each _ _ gj
  have ek:=hP.each _ _ gk
  refine J.l ⟨_,(J.e (J.i (i:=2) sc_scaled_offs.nd rfl (Or.inr rfl) (J.f (ixL K) (J.a 0) (J.f (ixT K) (J.a 1) J.c (fun _ _=>rfl)) (fun _ _=>rfl)) (hs:=sw_S))
      (J.e (J.i (i:=3) sc_scaled_offs.nd rfl (Or.inr rfl) (J.f (ixL K) (J.a 0) (J.f (ixT K) (J.a 1) J.c (fun _ _=>rfl)) (fun _ _=>rfl)) (hs:=sw_S))
      (J.e (J.i (i:=4) sc_scaled_offs.nd rfl (Or.inr rfl) (J.j D_above_chord (hr.mono (by decide)) rfl (J.b (J.a 2) (J.b (J.a 3) (J.b (J.f (ixL K) (J.a 0) (J.f (ixT K) (J.a 1) J.c (fun _ _=>rfl)) (fun _ _=>rfl)) J.d st_S) st_N) st_N) (he:=st_N) (hpl:=(anyc st_N (anyc st_S any0)))) (hs:=sw_K))
      (J.g (J.k (J.ac (O:=["point"]) (N':=["lift","one","last"]) (cap:=[4,2,3]) rfl (J.x K (J.a 0)) (fun _ _ _ _ _=>(J.q (i:=0) (show List.Nodup [("point":Str),("lift":Str),("one":Str),("last":Str)] by decide +kernel) rfl (Or.inl rfl))) (fun _ _ _ _ _=>J.ad) (fun _ _ _ _ _=>(J.h op_sub (J.h op_mulB J.c (J.j D_above_chord (hr.mono (by decide)) rfl (J.b (J.a 2) (J.b (J.a 3) (J.b (J.a 0) J.d st_N) st_N) st_N) (he:=st_N) (hpl:=(anyc st_N (anyc st_N any0))))) (J.a 1))) rfl ⟨⟨rfl,rfl,rfl,rfl⟩,⟨⟨rfl,rfl,rfl,rfl⟩,⟨⟨rfl,rfl,rfl,rfl⟩,trivial⟩⟩⟩ rfl (by decide +kernel) rfl (by decide +kernel))))))),?_⟩
  walk_at "v"
  refine r_l hP.at_ ti ?_
  walk_at "v"
  refine r_l hP.at_ tk ?_
  walk_at "v"
  refine r_l hP.at_ tj ?_
  walk_at "v"
  refine ⟨ai,ak,aj,_,_,_,_,_,_,rfl,ei,ek,ej,(hz i hi).1,(hz kk hk).1,(hz j hj).1,(hz i hi).2,(hz kk hk).2,(hz j hj).2,?_⟩
  walk_at "v"
  refine r_iL ?_
  walk_at "v"
  refine ⟨L,rfl,⟨_,SqL.of hP.at_⟩,?_⟩
  refine compB_of (xs:=ps.map V.ref) tells_list (fun H4 s4=>SqL.of (s4 _ _ hP.at_)) (by rw [List.length_map];walk_at "o") (fun q ys G=>ys=((List.range q).map (offI t y i j kk)).map V.int) rfl ?_ ?_
  · rintro D q x ys H4 σ0 NN N0 h0 hD eD s4 hx hy rfl kY kN
    rw [List.getElem?_map] at hx
    obtain ⟨a,ga,rfl⟩:=Option.map_eq_some_iff.mp hx
    have hq:q<ps.length:=(List.getElem?_eq_some_iff.mp ga).1
    refine r_own1 h0 ?_
    walk_at "v"
    refine iteT ?_
    walk_at "v"
    refine ⟨ai,ak,a,_,_,_,_,_,_,rfl,s4 _ _ ei,s4 _ _ ek,s4 _ _ (hP.each _ _ ga),(hz i hi).1,(hz kk hk).1,(hz q hq).1,(hz i hi).2,(hz kk hk).2,(hz q hq).2,?_⟩
    walk_at "v"
    refine kY _ H4 (Same.refl _) ?_
    rw [List.range_succ,List.map_append,List.map_append]
    rfl
  · rintro D ys H4 hD eD s4 hy rfl
    rw [List.length_map] at eD
    exact k D H4 s4 hD eD
theorem ex_same {m oj op oi:Int} (h0:0≤m) (hm:m=oj∨m=-oj) (hi:oi=-oj) (hp:m<op∨m < -op) (hs:0<op↔0<oi):(m≤oj∧m≤-op)∨(m≤-oj∧m≤op):=by
  have:(0<op∧0<oi)∨(op≤0∧oi≤0):=by
    by_cases z:0<op
    · exact .inl ⟨z,hs.mp z⟩
    · exact .inr ⟨Int.not_lt.mp z,Int.not_lt.mp fun q=>z (hs.mpr q)⟩
  lia
theorem ex_opp {m oj op oi:Int} (h0:0≤m) (hm:m=oj∨m=-oj) (hi:oi=-oj) (hp:m<op∨m < -op) (hs:(0<op∧oi≤0)∨(op≤0∧0<oi)):(m≤op∧m≤oj)∨(m≤-op∧m≤-oj):=by
  lia
theorem at_offs {n q:Nat} {O:Nat→Int} (h:q<n):atI (((List.range n).map O).map V.int) (q:Int)=some (.int (O q)):=atI_nat (by rw [List.getElem?_map,List.getElem?_map,List.getElem?_range h];rfl)
theorem sc_exchanged:FnScope ["three","far","offs","first","mid","last"] ["three","far","offs"] (defScope s_exchanged):=⟨rfl,rfl,rfl,by decide +kernel,rfl,by decide +kernel,by decide +kernel⟩
theorem ok_exchanged (F:Fun K "exchanged" "exchanged" s_exchanged f fd):FnOk P w K mg base CX0 1 f fd ["three","far","offs"] spExch:=by
  refine F.ok sc_exchanged (fun vs H Q E h=>?_) (fun cdv A outer s H vs Q E hr h=>?_)
  · obtain ⟨r,D,i,j,k,p,n,O,m,rfl,_⟩:=h
    rfl
  obtain ⟨r,D,i,j,kk,p,n,O,m,rfl,er,eD,hij,hjk,hkn,hpn,hm0,hm,hp,k⟩:=h
  have tell:∀{a b c:Nat} {H1:Hp} {r':Addr},Same H H1→H1 r'=some (.tup [.int (a:Int),.int (b:Int),.int (c:Int)])→a<b→b<c→c<n→((m≤O b∧m≤- O a∧m≤- O c)∨(m≤- O b∧m≤O a∧m≤O c))→(a=p∨b=p∨c=p)→Q (.ref r') H1:=fun s1 e1 h1 h2 h3 h4 h5=>k _ _ _ _ _ s1 e1 h1 h2 h3 ⟨h4,by
    rcases h5 with rfl | rfl | rfl
    · exact .inl hp
    · exact .inr (.inl hp)
    · exact .inr (.inr hp)⟩
  obtain ⟨hmj,oi,ok⟩:(m=O j∨m=-O j)∧O i=-O j∧O kk=-O j:=by
    rcases hm with ⟨m1,m2,m3⟩ | ⟨m1,m2,m3⟩
    · exact ⟨.inl m1,m2,m3⟩
    · exact ⟨.inr m1,m2,m3⟩
  have oi':-O i=O j:=by rw [oi,Int.neg_neg]
  have ok':-O kk=O j:=by rw [ok,Int.neg_neg]
  have hpi:p≠i:=fun z=>by subst z;lia
  have hpj:p≠j:=fun z=>by subst z;lia
  have hpk:p≠kk:=fun z=>by subst z;lia
  refine J.l ⟨_,(J.e (J.i (i:=3) sc_exchanged.nd rfl (Or.inl rfl) (J.f (ixT K) (J.a 0) J.c (fun _ _=>rfl)) (hs:=sw_S))
      (J.e (J.i (i:=4) sc_exchanged.nd rfl (Or.inl rfl) (J.f (ixT K) (J.a 0) J.c (fun _ _=>rfl)) (hs:=sw_S))
      (J.e (J.i (i:=5) sc_exchanged.nd rfl (Or.inl rfl) (J.f (ixT K) (J.a 0) J.c (fun _ _=>rfl)) (hs:=sw_S))
      (J.e (J.o (Jd.PWpt (Jd.pw_and (J.n op_lt (J.a 1) (J.a 4) (nomark _)) (Jd.pw_and1 (J.n op_eq (Jd.pe_cmpR op_gt (J.f (ixL K) (J.a 2) (J.a 1) (fun _ _=>rfl)) J.c (nomark _)) (Jd.pe_cmpR op_gt (J.f (ixL K) (J.a 2) (J.a 3) (fun _ _=>rfl)) J.c (nomark _)) (nomark _)))))
      (J.g (J.k (J.m (J.b (J.a 1) (J.b (J.a 4) (J.b (J.a 5) J.d st_N) st_N) st_N))))
      J.s)
      (J.e (J.o (Jd.PWpt (Jd.pw_and (J.n op_gt (J.a 1) (J.a 4) (nomark _)) (Jd.pw_and1 (J.n op_eq (Jd.pe_cmpR op_gt (J.f (ixL K) (J.a 2) (J.a 1) (fun _ _=>rfl)) J.c (nomark _)) (Jd.pe_cmpR op_gt (J.f (ixL K) (J.a 2) (J.a 5) (fun _ _=>rfl)) J.c (nomark _)) (nomark _)))))
      (J.g (J.k (J.m (J.b (J.a 3) (J.b (J.a 4) (J.b (J.a 1) J.d st_N) st_N) st_N))))
      J.s)
      (J.e (J.o (J.n op_lt (J.a 1) (J.a 3) (nomark _))
      (J.g (J.k (J.m (J.b (J.a 1) (J.b (J.a 3) (J.b (J.a 4) J.d st_N) st_N) st_N))))
      J.s)
      (J.e (J.o (J.n op_gt (J.a 1) (J.a 5) (nomark _))
      (J.g (J.k (J.m (J.b (J.a 4) (J.b (J.a 5) (J.b (J.a 1) J.d st_N) st_N) st_N))))
      J.s)
      (J.g (J.k (J.m (J.b (J.a 3) (J.b (J.a 1) (J.b (J.a 5) J.d st_N) st_N) st_N))))))))))),?_⟩
  refine seq_cut4 (fun σ' H'=>H'=H∧σ'=[some (.ref r),some (.int (p:Int)),some (.ref D),some (.int (i:Int)),some (.int (j:Int)),some (.int (kk:Int))]∧(p<j→¬(0<O p↔0<O i))) (fun σ' H' hP=>?_) (fun N rest=>?_)
  rotate_left
  · walk_at "v"
    refine ite2 (fun c1=>?_) (fun c1=>?_)
    · have c1':=of_decide_eq_true c1
      walk_at "v"
      refine r_l eD (at_offs hpn) ?_
      walk_at "v"
      refine r_l eD (at_offs (show i<n by lia)) ?_
      walk_at "v"
      refine r_eqB ?_
      walk_at "v"
      refine ite2 (fun c2=>?_) (fun c2=>?_)
      · have c2':(0<O p↔0<O i):=by
          have:=beq_iff_eq.mp c2
          exact decide_eq_decide.mp this
        walk_at "v"
        refine r_new (mk:=.tup) (by simp) fun r' H1 s1 n1 e1=>?_
        refine tell s1 e1 (by lia) hjk hkn ?_ (.inl rfl)
        rcases ex_same hm0 hmj oi hp c2' with ⟨u,v⟩ | ⟨u,v⟩
        · exact .inl ⟨u,v,by rw [ok'];exact u⟩
        · exact .inr ⟨u,v,by rw [ok];exact u⟩
      · walk_at "v"
        refine rest _ _ ⟨rfl,rfl,fun _ z=>c2 (beq_iff_eq.mpr (decide_eq_decide.mpr z))⟩
    · have c1':¬(p:Int)<(j:Int):=fun z=>c1 (decide_eq_true z)
      refine iteF ?_
      walk_at "v"
      exact rest _ _ ⟨rfl,rfl,fun z=>absurd (by lia) c1'⟩
  obtain ⟨rfl,rfl,h1⟩:=hP
  refine seq_cut (fun σ' H''=>H''=H'∧σ'=[some (.ref r),some (.int (p:Int)),some (.ref D),some (.int (i:Int)),some (.int (j:Int)),some (.int (kk:Int))]∧(j<p→¬(0<O p↔0<O kk))) (fun σ' H'' hP=>?_) (fun N rest=>?_)
  rotate_left
  · walk_at "v"
    refine ite2 (fun c1=>?_) (fun c1=>?_)
    · have c1':=of_decide_eq_true c1
      walk_at "v"
      refine r_l eD (at_offs hpn) ?_
      walk_at "v"
      refine r_l eD (at_offs hkn) ?_
      walk_at "v"
      refine r_eqB ?_
      walk_at "v"
      refine ite2 (fun c2=>?_) (fun c2=>?_)
      · have c2':(0<O p↔0<O kk):=decide_eq_decide.mp (beq_iff_eq.mp c2)
        walk_at "v"
        refine r_new (mk:=.tup) (by simp) fun r' H1 s1 n1 e1=>?_
        refine tell s1 e1 hij (by lia) hpn ?_ (.inr (.inr rfl))
        rcases ex_same hm0 hmj ok hp c2' with ⟨u,v⟩ | ⟨u,v⟩
        · exact .inl ⟨u,by rw [oi'];exact u,v⟩
        · exact .inr ⟨u,by rw [oi];exact u,v⟩
      · walk_at "v"
        refine rest _ _ ⟨rfl,rfl,fun _ z=>c2 (beq_iff_eq.mpr (decide_eq_decide.mpr z))⟩
    · have c1':¬(j:Int)<(p:Int):=fun z=>c1 (decide_eq_true z)
      refine iteF ?_
      walk_at "v"
      exact rest _ _ ⟨rfl,rfl,fun z=>absurd (by lia) c1'⟩
  obtain ⟨rfl,rfl,h2⟩:=hP
  have far:∀{q:Nat},¬(0<O p↔0<O q)→(0<O p∧O q≤0)∨(O p≤0∧0<O q):=fun {q} z=>by
    by_cases a1:0<O p
    · exact .inl ⟨a1,Int.not_lt.mp fun b1=>z ⟨fun _=>b1,fun _=>a1⟩⟩
    · exact .inr ⟨Int.not_lt.mp a1,Classical.byContradiction fun b1=>z ⟨fun c=>absurd c a1,fun c=>absurd c b1⟩⟩
  walk_at "v"
  refine ite2 (fun c1=>?_) (fun c1=>?_)
  · have c1':=of_decide_eq_true c1
    have hf:=far (h1 (by lia))
    walk_at "v"
    refine r_new (mk:=.tup) (by simp) fun r' H1 s1 n1 e1=>?_
    refine tell s1 e1 (by lia) hij (by lia) ?_ (.inl rfl)
    rcases ex_opp hm0 hmj oi hp hf with ⟨u,v⟩ | ⟨u,v⟩
    · exact .inr ⟨by rw [oi'];exact v,u,v⟩
    · exact .inl ⟨by rw [oi];exact v,u,v⟩
  · have c1':¬(p:Int)<(i:Int):=fun z=>c1 (decide_eq_true z)
    walk_at "v"
    refine ite2 (fun c2=>?_) (fun c2=>?_)
    · have c2':=of_decide_eq_true c2
      have hf:=far (h2 (by lia))
      walk_at "v"
      refine r_new (mk:=.tup) (by simp) fun r' H1 s1 n1 e1=>?_
      refine tell s1 e1 hjk (by lia) hpn ?_ (.inr (.inr rfl))
      rcases ex_opp hm0 hmj ok hp hf with ⟨u,v⟩ | ⟨u,v⟩
      · exact .inr ⟨by rw [ok'];exact v,v,u⟩
      · exact .inl ⟨by rw [ok];exact v,v,u⟩
    · have c2':¬(kk:Int)<(p:Int):=fun z=>c2 (decide_eq_true z)
      walk_at "v"
      refine r_new (mk:=.tup) (by simp) fun r' H1 s1 n1 e1=>?_
      refine tell s1 e1 (by lia) (by lia) hkn ?_ (.inr (.inl rfl))
      have hf:(m≤O p∧m≤O j)∨(m≤-O p∧m≤-O j):=by
        rcases Nat.lt_or_ge p j with z | z
        · exact ex_opp hm0 hmj oi hp (far (h1 z))
        · exact ex_opp hm0 hmj ok hp (far (h2 (by lia)))
      rcases hf with ⟨u,v⟩ | ⟨u,v⟩
      · exact .inl ⟨u,by rw [oi'];exact v,by rw [ok'];exact v⟩
      · exact .inr ⟨u,by rw [oi];exact v,by rw [ok];exact v⟩
end
theorem while_rel {c:TT} {tb:TS} {D:Ends} {σ:St} {H:Hp} (W:Nat→St→Hp→Prop) (h0:∃m,W m σ H)
    (hs:∀m σ H,W m σ H→∀R:Bool→Hp→Prop,(∀H1,(∀M:St→Hp→Prop,(∀σ' H' m',W m' σ' H'→m'<m→M σ' H')→tb { D with nx:=M,ct:=M,bk:=D.nx } σ H1)→R true H1)→(∀H1,D.nx σ H1→R false H1)→c σ H R):tWhile c tb D σ H:=by
  refine ⟨W,h0,?_⟩
  intro m σ H p
  refine hs m σ H p _ (fun H1 q=>?_) (fun H1 q=>?_)
  · rw [if_pos rfl]
    exact ⟨fun σ' H'=>∃m',m'<m∧W m' σ' H',fun σ' H' ⟨m',l,z⟩=>⟨m',l,z⟩,q _ fun _ _ m' a b=>⟨m',b,a⟩⟩
  · rw [if_neg Bool.false_ne_true]
    exact q
section
variable {P:Program} {w:World} {K:PySem.W.Frag} {mg:Str→Option Value} {base:Heap} {f:Addr} {fd:FuncData}
theorem sc_forcing_three:FnScope ["samples","points","three","offs","misses","worst"] ["samples"] (defScope s_forcing_three):=⟨rfl,rfl,rfl,by decide +kernel,rfl,by decide +kernel,by decide +kernel⟩
theorem ok_forcing_three (F:Fun K "forcing_three" "forcing_three" s_forcing_three f fd) (T:Txt mg) (D_whole_points:Dn P w K mg base 3 "whole_points" ["samples"] spPoints) (D_scaled_offs:Dn P w K mg base 2 "scaled_offs" ["points","three"] spOffs) (D_exchanged:Dn P w K mg base 1 "exchanged" ["three","far","offs"] spExch):FnOk P w K mg base CX0 4 f fd ["samples"] spForcing:=by
  refine F.ok sc_forcing_three (fun vs H Q E h=>?_) (fun cdv A outer s H vs Q E hr h=>?_)
  · obtain ⟨l,es,n,rfl,_⟩:=h
    rfl
  obtain ⟨l,es,n,rfl,hl,hR,hS,hri,hn1,hn,h3,h40,k⟩:=h
  refine J.l ⟨_,(J.e (J.i (i:=1) sc_forcing_three.nd rfl (Or.inl rfl) (J.j D_whole_points (hr.mono (by decide)) rfl (J.b (J.a 0) J.d st_N) (he:=st_N) (hpl:=any0)) (hs:=sw_K))
      (J.e (J.i (i:=2) sc_forcing_three.nd rfl (Or.inl rfl) (J.m (J.b J.c (J.b (J.h op_fdivB (J.r (lenC K) rfl T.len_ PySem.boot_len (J.b (J.a 1) J.d st_N) (he:=st_N) (hpl:=any0)) J.c) (J.b (J.h op_sub (J.r (lenC K) rfl T.len_ PySem.boot_len (J.b (J.a 1) J.d st_N) (he:=st_N) (hpl:=any0)) J.c) J.d st_B) st_B) st_C)) (hs:=sw_T))
      (J.g (Jd.ps_while PassesOwn.never (Jd.pt_val Jd.pe_bl)
      (J.e (J.i (i:=3) sc_forcing_three.nd rfl (Or.inl rfl) (J.j D_scaled_offs (hr.mono (by decide)) rfl (J.b (J.a 1) (J.b (J.a 2) J.d st_N) st_N) (he:=st_N) (hpl:=(anyc st_N any0))) (hs:=sw_K))
      (J.e (Jd.ps_comp (O:=["scaled"]) (N':=[]) (cap:=[]) (i:=4) sc_forcing_three.nd rfl (Or.inl rfl) rfl (J.x K (J.a 3)) (fun _ _ _ _ _=>(J.q (i:=0) (show List.Nodup [("scaled":Str)] by decide +kernel) rfl (Or.inl rfl))) (fun _ _ _ _ _=>J.ad) (fun _ _ _ _ _=>(J.r absC rfl T.abs_ PyProof.Rows.boot_abs (J.b (J.a 0) J.d st_N) (he:=st_N) (hpl:=any0))) rfl trivial rfl (by decide +kernel) rfl (by decide +kernel) (by rfl))
      (J.e (J.i (i:=5) sc_forcing_three.nd rfl (Or.inl rfl) (J.r (maxL K rfl) rfl T.max_ PyProof.Rows.boot_max (J.b (J.a 4) J.d st_N) (he:=st_N) (hpl:=any0)) (hs:=sw_K))
      (J.e (J.o (J.n op_eq (J.a 5) (J.f (ixL K) (J.a 4) (J.f (ixT K) (J.a 2) J.c (fun _ _=>rfl)) (fun _ _=>rfl)) (nomark _))
      (J.g (J.k (J.a 2)))
      J.s)
      (J.g (J.i (i:=2) sc_forcing_three.nd rfl (Or.inl rfl) (J.j D_exchanged (hr.mono (by decide)) rfl (J.b (J.a 2) (J.b (Jd.idxC K (J.a 4) (J.a 5)) (J.b (J.a 3) J.d st_N) st_K) st_N) (he:=st_N) (hpl:=(anyc st_K (anyc st_N any0)))) (hs:=sw_K))))))))))),?_⟩
  walk_at "v"
  refine ⟨l,es,n,rfl,hl,hR,hS,hn1,hn,h40,fun L ps y C H1 s1 nL hP hpl hC hy=>?_⟩
  have hz:∀q,q<ps.length→Sz 8000 (mo es q)∧Sz 8000 (y q):=fun q hq=>by
    obtain ⟨_,_,_,_,_,zm⟩:=sa_at hR hS (show q<es.length by walk_at "o")
    exact ⟨zm.mono (by walk_at "o"),(hy q (by walk_at "o")).2⟩
  have hlt:∀{a b:Nat},a<b→b<ps.length→mo es a<mo es b:=fun h1 h2=>mo_lt hri h1 (by walk_at "o")
  rw [← hpl] at h3 h40
  walk_at "v"
  refine r_len (.inl (SqL.of hP.at_)) ?_
  rw [List.length_map]
  walk_at "v"
  refine r_I ⟨by decide,by decide⟩ ?_
  walk_at "v"
  refine r_len (.inl (SqL.of hP.at_)) ?_
  rw [List.length_map]
  walk_at "v"
  refine r_new (mk:=.tup) (by simp) fun r0 H2 s2 n2 e2=>?_
  have e2':H2 r0=some (.tup [.int ((0:Nat):Int),.int ((ps.length/2:Nat):Int),.int ((ps.length-1:Nat):Int)]):=by
    rw [e2]
    have a1:(ps.length:Int).fdiv 2=((ps.length/2:Nat):Int):=by
      rw [Int.fdiv_eq_ediv_of_nonneg _ (by walk_at "o")]
      rfl
    have a2:(ps.length:Int)-1=((ps.length-1:Nat):Int):=by walk_at "o"
    rw [a1,a2]
    rfl
  walk_at "v"
  refine while_rel (fun m σ H3=>∃(i j kk:Nat) (r:Addr) (v3 v4 v5:Option V),σ=[some (.ref l),some (.ref L),some (.ref r),v3,v4,v5]∧Same H1 H3∧H3 r=some (.tup [.int (i:Int),.int (j:Int),.int (kk:Int)])∧i<j∧j<kk∧kk<ps.length∧m=beyond (mo es) y ps.length (devOf (mo es) y i j kk)) ⟨_,0,ps.length/2,ps.length-1,r0,none,none,none,rfl,s2,e2',by walk_at "o",by walk_at "o",by walk_at "o",rfl⟩ ?_
  rintro m σ H3 ⟨i,j,kk,r,v3,v4,v5,rfl,s3,er,hij,hjk,hkn,rfl⟩ RR hyes hno
  walk_at "v"
  refine hyes _ fun M hM=>?_
  walk_at "v"
  refine ⟨L,r,ps,mo es,y,i,j,kk,rfl,hP.up s3,h40,er,by walk_at "o",by walk_at "o",hkn,hz,fun D H4 s4 nD eD=>?_⟩
  have er4:=s4 _ _ er
  generalize hO:offI (mo es) y i j kk=O at *
  have o1:O i=- O j:=by rw [← hO,off_first,off_mid]
  have o2:O kk=- O j:=by rw [← hO,off_last,off_mid]
  have o3:O j=ab (mo es) y i kk j:=by rw [← hO,off_mid]
  walk_at "v"
  refine r_iL ?_
  walk_at "v"
  refine ⟨D,rfl,⟨_,SqL.of eD⟩,?_⟩
  refine compB_of (xs:=((List.range ps.length).map O).map V.int) tells_list (fun H5 s5=>SqL.of (s5 _ _ eD)) (by simp;walk_at "o") (fun q ys G=>ys=((List.range q).map fun q=>((O q).natAbs:Int)).map V.int) rfl ?_ ?_
  · rintro D' q x ys H5 σ0 NN N0 h0 hD' eD' s5 hx hyl rfl kY kN
    rw [List.getElem?_map,List.getElem?_map] at hx
    obtain ⟨z,gz,rfl⟩:=Option.map_eq_some_iff.mp hx
    obtain ⟨q',gq,rfl⟩:=Option.map_eq_some_iff.mp gz
    obtain ⟨hq1,hq2⟩:=List.getElem?_eq_some_iff.mp gq
    obtain rfl:q=q':=by simpa using hq2
    refine r_own1 h0 ?_
    walk_at "v"
    refine iteT ?_
    walk_at "v"
    refine kY _ H5 (Same.refl _) ?_
    rw [List.range_succ,List.map_append,List.map_append,abs_cast]
    rfl
  · rintro D' ys H5 hD' eD' s5 hyl rfl
    rw [List.length_map,List.length_map,List.length_range] at eD'
    have er5:=s5 _ _ er4
    walk_at "v"
    refine r_maxL (SqL.of eD') (by simp;walk_at "o") fun M' hM1 hM2=>?_
    walk_at "v"
    refine r_l eD' (at_offs (O:=fun q=>((O q).natAbs:Int)) (show j<ps.length by walk_at "o")) ?_
    walk_at "v"
    refine ite2 (fun c1=>?_) (fun c1=>?_)
    · have c1':M'=((O j).natAbs:Int):=of_decide_eq_true c1
      walk_at "v"
      refine k r i j kk y C H5 (s1.trans (s3.trans (s4.trans s5))) er5 hC (fun i hi=>(hy i hi).1) ⟨hij,hjk,by walk_at "o",fun p hp=>?_⟩
      have:=hM2 ((O p).natAbs:Int) (List.mem_map.mpr ⟨p,List.mem_range.mpr (by walk_at "o"),rfl⟩)
      rw [hO,← o3]
      walk_at "o"
    · have c1':¬M'=((O j).natAbs:Int):=fun z=>c1 (decide_eq_true z)
      have hjle:=hM2 ((O j).natAbs:Int) (List.mem_map.mpr ⟨j,List.mem_range.mpr (by walk_at "o"),rfl⟩)
      walk_at "v"
      refine ⟨.inl ⟨rfl,_,SqL.of eD'⟩,?_⟩
      walk_at "v"
      refine r_idx eD' (by simp;walk_at "o") hM1 fun p gp=>?_
      rw [List.getElem?_map] at gp
      obtain ⟨p',gp',hpe⟩:=Option.map_eq_some_iff.mp gp
      obtain ⟨hp1,hp2⟩:=List.getElem?_eq_some_iff.mp gp'
      obtain rfl:p=p':=by simpa using hp2
      have hpn:p<ps.length:=by simpa using hp1
      walk_at "v"
      refine ⟨r,D,i,j,kk,p,ps.length,O,((O j).natAbs:Int),rfl,er5,s5 _ _ eD,hij,hjk,hkn,hpn,by walk_at "o",by walk_at "o",by walk_at "o",fun r' a b c H6 s6 e6 hab hbc hcn halt=>?_⟩
      walk_at "v"
      refine hM _ _ _ ⟨a,b,c,r',_,_,_,rfl,s3.trans (s4.trans (s5.trans s6)),e6,hab,hbc,hcn,rfl⟩ ?_
      refine beyond_lt (by walk_at "o") (by walk_at "o") hcn (dev_lt (j:=j) (hlt (by walk_at "o") hkn) (hlt hab (by walk_at "o")) (hlt hbc hcn) ?_)
      rw [hO,← o3]
      exact halt
end
noncomputable def offR (es:List En) (s h:Rat) (p:Nat):Rat:=wo es p-(s*(mo es p:Rat)+h)
structure Best (es:List En) (s h w:Rat) (F:Option (Nat×Nat×Nat)):Prop where
  nn:0≤w
  le:∀p,p<es.length→rabs (offR es s h p)≤w
  none_:F=none→w=0
  some_:∀i j k,F=some (i,j,k)→w≠0∧i<j∧j<k∧k<es.length∧((offR es s h i=-w∧offR es s h j=w∧offR es s h k=-w)∨(offR es s h i=w∧offR es s h j=-w∧offR es s h k=w))
noncomputable def Lin (es:List En) (s h:Rat):Prop:=(es.length=1∧s=0∧h=wo es 0)∨∃i j k,i<k∧k<es.length∧j<es.length∧s=(wo es k-wo es i)/((mo es k-mo es i:Int):Rat)∧(h=wo es i-s*(mo es i:Rat)∨h=wo es i-s*(mo es i:Rat)+sd es i j k*(1/2))
noncomputable def FoAt (H:Hp) (F:Option (Nat×Nat×Nat)) (v:V):Prop:=match F with
  | none=>v=.non
  | some (i,j,k)=>∃r,v=.ref r∧H r=some (.tup [.int (i:Int),.int (j:Int),.int (k:Int)])
theorem flat_off {es:List En} {y:Nat→Int} {C:Int} {i j k p:Nat} (hC:1≤C) (ht:mo es i<mo es k) (hy:∀q,q<es.length→(y q:Rat)=wo es q*(C:Rat)) (hi:i<es.length) (hj:j<es.length) (hk:k<es.length) (hp:p<es.length) :
    (offI (mo es) y i j k p:Rat)=2*(C:Rat)*((mo es k:Rat)-(mo es i:Rat))*(offR es ((wo es k-wo es i)/((mo es k:Rat)-(mo es i:Rat))) (wo es i-(wo es k-wo es i)/((mo es k:Rat)-(mo es i:Rat))*(mo es i:Rat)+(wo es j-chord (mo es i) (wo es i) (mo es j) (mo es k) (wo es k))/2) p):=by
  have hT:((mo es k:Rat)-(mo es i:Rat))≠0:=by
    have:=cast_ne (b:=mo es k-mo es i) (by walk_at "o")
    rw [Rat.intCast_sub] at this
    exact this
  unfold offI ab offR chord
  simp only [Rat.intCast_mul,Rat.intCast_sub,hy i hi,hy j hj,hy k hk,hy p hp]
  generalize (mo es k:Rat)=tk at *
  generalize (mo es i:Rat)=ti at *
  generalize (mo es j:Rat)=tj at *
  generalize (mo es p:Rat)=tp at *
  generalize (C:Rat)=c at *
  have e2:((2:Int):Rat)=2:=rfl
  rw [e2]
  grind
theorem flat_best {es:List En} {y:Nat→Int} {C:Int} {i j k:Nat} (hC:1≤C) (hri:rising es) (hy:∀q,q<es.length→(y q:Rat)=wo es q*(C:Rat)) (hf:Flat (mo es) y es.length i j k) {s h d:Rat} (hs:s=(wo es k-wo es i)/((mo es k:Rat)-(mo es i:Rat))) (hd:d=(wo es j-chord (mo es i) (wo es i) (mo es j) (mo es k) (wo es k))/2) (hh:h=wo es i-s*(mo es i:Rat)+d) :
    Best es s h (rabs d) (if d=0 then none else some (i,j,k)):=by
  obtain ⟨hij,hjk,hkn,hle⟩:=hf
  have ht:mo es i<mo es k:=mo_lt hri (by walk_at "o") hkn
  have hp0:(0:Rat)<2*(C:Rat)*((mo es k:Rat)-(mo es i:Rat)):=by
    have a:=cast_pos (b:=C) (by walk_at "o")
    have b:=cast_pos (b:=mo es k-mo es i) (by walk_at "o")
    rw [Rat.intCast_sub] at b
    exact Rat.mul_pos (by grind) b
  generalize hS:2*(C:Rat)*((mo es k:Rat)-(mo es i:Rat))=S at hp0
  have off:∀p,p<es.length→(offI (mo es) y i j k p:Rat)=S*offR es s h p:=fun p hp=>by
    rw [flat_off hC ht hy (by walk_at "o") (by walk_at "o") hkn hp,hS,hh,hd,hs]
  have oj:offR es s h j=d∧offR es s h i=-d∧offR es s h k=-d:=by
    have hT:((mo es k:Rat)-(mo es i:Rat))≠0:=by
      have:=cast_ne (b:=mo es k-mo es i) (by walk_at "o")
      rw [Rat.intCast_sub] at this
      exact this
    unfold offR
    rw [hh]
    unfold chord at hd
    generalize (mo es k:Rat)=tk at *
    generalize (mo es i:Rat)=ti at *
    generalize (mo es j:Rat)=tj at *
    refine ⟨?_,?_,?_⟩
    · rw [hs,hd]
      grind
    · rw [hs,hd]
      grind
    · rw [hs,hd]
      grind
  have cab:∀x:Int,(((x.natAbs:Nat):Int):Rat)=rabs (x:Rat):=fun x=>by
    unfold rabs
    by_cases e:x<0
    · rw [if_pos (by have:=Rat.intCast_lt_intCast.mpr e;simpa using this),show ((x.natAbs:Nat):Int)=-x by walk_at "o",Rat.intCast_neg]
    · rw [if_neg (by have:=Rat.intCast_le_intCast.mpr (Int.not_lt.mp e);grind),show ((x.natAbs:Nat):Int)=x by walk_at "o"]
  have le:∀p,p<es.length→rabs (offR es s h p)≤rabs d:=fun p hp=>by
    have h1:=hle p hp
    have h2:((((offI (mo es) y i j k p).natAbs:Nat):Int):Rat)≤((((ab (mo es) y i k j).natAbs:Nat):Int):Rat):=Rat.intCast_le_intCast.mpr (by walk_at "o")
    rw [cab,cab,← off_mid (t:=mo es) (y:=y) (i:=i) (j:=j) (k:=k),off p hp,off j (by walk_at "o"),oj.1,Rat.mul_comm S,Rat.mul_comm S,rabs_mul hp0,rabs_mul hp0] at h2
    exact Rat.le_of_mul_le_mul_right h2 hp0
  refine ⟨rabs_nn d,le,fun e=>?_,fun i' j' k' e=>?_⟩
  · by_cases z:d=0
    · rw [z];rfl
    · rw [if_neg z] at e;cases e
  · by_cases z:d=0
    · rw [if_pos z] at e;cases e
    · rw [if_neg z] at e
      cases e
      obtain ⟨o1,o2,o3⟩:=oj
      refine ⟨fun q=>z ?_,hij,hjk,hkn,?_⟩
      · unfold rabs at q
        split at q <;> grind
      · rw [o1,o2,o3]
        unfold rabs
        split
        · exact .inr ⟨rfl,by grind,rfl⟩
        · exact .inl ⟨rfl,rfl,rfl⟩
noncomputable def spBest:Sp:=fun vs H Q _=>∃(l:Addr) (es:List En) (n:Nat),vs=[.ref l]∧H l=some (.lst (vals es))∧Row H es n∧AllS es∧rising es∧1≤n∧n≤600∧es.length*n+n≤7000∧1≤es.length∧es.length≤40 ∧
  ∀(z zl zw:Addr) (F:V) (s h w:Rat) (Fo:Option (Nat×Nat×Nat)) (H':Hp),Same H H'→H' z=some (.tup [.ref zl,.ref zw,F])→LnAt H' zl s h (13*n+15)→FrAt H' zw w (7*n+9)→FoAt H' Fo F→Best es s h w Fo→Lin es s h→Q (.ref z) H'
noncomputable def spStandF:Sp:=fun vs H Q _=>∃(p1 p2 p3:Addr) (t1 t2 t3:Int) (q1 q2 q3:Rat) (n:Nat),vs=[.ref p1,.ref p2,.ref p3]∧SaAt H p1 t1 q1 n∧SaAt H p2 t2 q2 n∧SaAt H p3 t3 q3 n∧t1<t3∧7*n+7≤8000 ∧
  ∀(z:Addr) (H':Hp),Same H H'→FrAt H' z (q2-chord t1 q1 t2 t3 q3) (7*n+7)→Q (.ref z) H'
section
variable {P:Program} {w:World} {K:PySem.W.Frag} {mg:Str→Option Value} {base:Heap} {f:Addr} {fd:FuncData}
theorem sc_stand:FnScope ["one","mid","last"] ["one","mid","last"] (defScope s_stand):=⟨rfl,rfl,rfl,by decide +kernel,rfl,by decide +kernel,by decide +kernel⟩
theorem ok_stand (F:Fun K "stand" "stand" s_stand f fd) (D_reduced:Dn P w K mg base 4 "reduced" ["quotient"] spReduced) (D_loose_stand:Dn P w K mg base 4 "loose_stand" ["one","mid","last"] spLstand):FnOk P w K mg base CX0 5 f fd ["one","mid","last"] spStandF:=by
  refine F.ok sc_stand (fun vs H Q E h=>?_) (fun cdv A outer s H vs Q E hr h=>?_)
  · obtain ⟨p1,p2,p3,t1,t2,t3,q1,q2,q3,n,rfl,_⟩:=h
    rfl
  obtain ⟨p1,p2,p3,t1,t2,t3,q1,q2,q3,n,rfl,h1,h2,h3,ht,hn,k⟩:=h
  refine J.l ⟨_,(J.g (J.k (J.j D_reduced (hr.mono (by decide)) rfl (J.b (J.j D_loose_stand (hr.mono (by decide)) rfl (J.b (J.a 0) (J.b (J.a 1) (J.b (J.a 2) J.d st_N) st_N) st_N) (he:=st_N) (hpl:=(anyc st_N (anyc st_N any0)))) J.d st_K) (he:=st_K) (hpl:=any0)))),?_⟩
  walk_at "v"
  refine ⟨p1,p2,p3,t1,t2,t3,q1,q2,q3,n,rfl,h1,h2,h3,ht,by walk_at "o",fun x H1 s1 e1=>?_⟩
  walk_at "v"
  refine ⟨x,_,_,rfl,e1,hn,fun z H2 s2 e2=>?_⟩
  exact k z H2 (s1.trans s2) e2
theorem sc_times:FnScope ["one","other"] ["one","other"] (defScope s_times):=⟨rfl,rfl,rfl,by decide +kernel,rfl,by decide +kernel,by decide +kernel⟩
theorem ok_times (F:Fun K "times" "times" s_times f fd) (D_loose_times:Dn P w K mg base 1 "loose_times" ["one","other"] (spTwo (·*·) 0)) (D_reduced:Dn P w K mg base 4 "reduced" ["quotient"] spReduced):FnOk P w K mg base CX0 5 f fd ["one","other"] (spTwoF (·*·) 0):=by
  refine F.ok sc_times (fun vs H Q E h=>?_) (fun cdv A outer s H vs Q E hr h=>?_)
  · obtain ⟨p,r,q,q',m,n,rfl,_⟩:=h
    rfl
  obtain ⟨p,r,q,q',m,n,rfl,hp,hr',hn,k⟩:=h
  refine J.l ⟨_,(J.g (J.k (J.j D_reduced (hr.mono (by decide)) rfl (J.b (J.j D_loose_times (hr.mono (by decide)) rfl (J.b (J.a 0) (J.b (J.a 1) J.d st_N) st_N) (he:=st_N) (hpl:=(anyc st_N any0))) J.d st_K) (he:=st_K) (hpl:=any0)))),?_⟩
  walk_at "v"
  refine ⟨p,r,q,q',m,n,rfl,hp,hr',by walk_at "o",fun x H1 s1 e1=>?_⟩
  walk_at "v"
  refine ⟨x,_,_,rfl,e1,hn,fun y H2 s2 e2=>?_⟩
  exact k y H2 (s1.trans s2) e2
theorem ok_sizeF (F:Fun K "size" "size" s_size f fd) (T:Txt mg):FnOk P w K mg base CX0 1 f fd ["one"] spSizeF:=by
  refine F.ok sc_size (fun vs H Q E h=>?_) (fun cdv A outer s H vs Q E hr h=>?_)
  · obtain ⟨p,q,n,rfl,_⟩:=h
    rfl
  obtain ⟨p,q,n,rfl,⟨a,b,hp,hq,za,zb⟩,k⟩:=h
  refine J.l ⟨_,(J.g (J.k (J.m (J.b (J.r absC rfl T.abs_ PyProof.Rows.boot_abs (J.b (J.f (ixT K) (J.a 0) J.c (fun _ _=>rfl)) J.d st_S) (he:=st_S) (hpl:=any0)) (J.b (J.f (ixT K) (J.a 0) J.c (fun _ _=>rfl)) J.d st_S) st_K)))),?_⟩
  walk_at "v"
  rw [abs_cast]
  refine r_new (mk:=.tup) (by simp) fun p1 H1 s1 n1 e1=>?_
  refine k p1 H1 s1 ⟨_,_,e1,?_,za.of_le (by walk_at "o"),zb⟩
  have:=hq.qt.abs
  exact ⟨hq.pos,by show Nat.gcd ((a.natAbs:Int).natAbs) b.natAbs=1;rw [Int.natAbs_natCast];exact hq.co,this.eq⟩
theorem sc_best:FnScope ["samples","first","three","one","last","half","chord","forced"] ["samples"] (defScope s_best):=⟨rfl,rfl,rfl,by decide +kernel,rfl,by decide +kernel,by decide +kernel⟩
theorem ok_best (F:Fun K "best" "best" s_best f fd) (T:Txt mg) (D_slope:Dn P w K mg base 5 "slope" ["one","other"] spSlope) (D_line_by:Dn P w K mg base 5 "line_by" ["steep","sample"] spLineBy) (D_forcing_three:Dn P w K mg base 4 "forcing_three" ["samples"] spForcing) (D_times:Dn P w K mg base 5 "times" ["one","other"] (spTwoF (·*·) 0)) (D_stand:Dn P w K mg base 5 "stand" ["one","mid","last"] spStandF) (D_plus:Dn P w K mg base 5 "plus" ["one","other"] (spTwoF (·+·) 1)) (D_sizeF:Dn P w K mg base 1 "size" ["one"] spSizeF):FnOk P w K mg base CX0 6 f fd ["samples"] spBest:=by
  refine F.ok sc_best (fun vs H Q E h=>?_) (fun cdv A outer s H vs Q E hr h=>?_)
  · obtain ⟨l,es,n,rfl,_⟩:=h
    rfl
  obtain ⟨l,es,n,rfl,hl,hR,hS,hri,hn1,hn6,hn,h1,h40,k⟩:=h
  obtain ⟨x0,g0,sa0⟩:=sa_at hR hS (show 0<es.length by walk_at "o")
  obtain ⟨v0,ev0,fv0,zm0⟩:=id sa0
  have z1:∀{m:Nat},1≤m→Sz m 1:=fun h=>one_sz h
  have zero:∀{G:Hp} {p:Addr} {m:Nat},G p=some (.tup [.int 0,.int 1])→1≤m→FrAt G p 0 m:=fun e h=>⟨0,1,e,by have:=Fr.whole 0;simpa using this,Sz.of_le (z1 h) (by decide),z1 h⟩
  refine J.l ⟨_,(J.e (J.i (i:=1) sc_best.nd rfl (Or.inl rfl) (J.f (ixL K) (J.a 0) J.c (fun _ _=>rfl)) (hs:=sw_S))
      (J.e (J.o (J.n op_eq (J.r (lenC K) rfl T.len_ PySem.boot_len (J.b (J.a 0) J.d st_N) (he:=st_N) (hpl:=any0)) J.c (nomark _))
      (J.g (J.k (J.m (J.b (J.m (J.b (J.m (J.b J.c (J.b J.c J.d st_C) st_C)) (J.b (J.f (ixT K) (J.a 1) J.c (fun _ _=>rfl)) J.d st_S) st_T)) (J.b (J.m (J.b J.c (J.b J.c J.d st_C) st_C)) (J.b J.v J.d st_C) st_T) st_T))))
      J.s)
      (J.e (J.o (J.n op_eq (J.r (lenC K) rfl T.len_ PySem.boot_len (J.b (J.a 0) J.d st_N) (he:=st_N) (hpl:=any0)) J.c (nomark _))
      (J.g (J.k (J.m (J.b (J.j D_line_by (hr.mono (by decide)) rfl (J.b (J.j D_slope (hr.mono (by decide)) rfl (J.b (J.a 1) (J.b (J.f (ixL K) (J.a 0) J.c (fun _ _=>rfl)) J.d st_S) st_N) (he:=st_N) (hpl:=(anyc st_S any0))) (J.b (J.a 1) J.d st_N) st_K) (he:=st_K) (hpl:=(anyc st_N any0))) (J.b (J.m (J.b J.c (J.b J.c J.d st_C) st_C)) (J.b J.v J.d st_C) st_T) st_K))))
      J.s)
      (J.e (J.i (i:=2) sc_best.nd rfl (Or.inl rfl) (J.j D_forcing_three (hr.mono (by decide)) rfl (J.b (J.a 0) J.d st_N) (he:=st_N) (hpl:=any0)) (hs:=sw_K))
      (J.e (J.i (i:=3) sc_best.nd rfl (Or.inl rfl) (J.f (ixL K) (J.a 0) (J.f (ixT K) (J.a 2) J.c (fun _ _=>rfl)) (fun _ _=>rfl)) (hs:=sw_S))
      (J.e (J.i (i:=4) sc_best.nd rfl (Or.inl rfl) (J.f (ixL K) (J.a 0) (J.f (ixT K) (J.a 2) J.c (fun _ _=>rfl)) (fun _ _=>rfl)) (hs:=sw_S))
      (J.e (J.i (i:=5) sc_best.nd rfl (Or.inl rfl) (J.j D_times (hr.mono (by decide)) rfl (J.b (J.j D_stand (hr.mono (by decide)) rfl (J.b (J.a 3) (J.b (J.f (ixL K) (J.a 0) (J.f (ixT K) (J.a 2) J.c (fun _ _=>rfl)) (fun _ _=>rfl)) (J.b (J.a 4) J.d st_N) st_S) st_N) (he:=st_N) (hpl:=(anyc st_S (anyc st_N any0)))) (J.b (J.m (J.b J.c (J.b J.c J.d st_C) st_C)) J.d st_T) st_K) (he:=st_K) (hpl:=(anyc st_T any0))) (hs:=sw_K))
      (J.e (J.i (i:=6) sc_best.nd rfl (Or.inl rfl) (J.j D_line_by (hr.mono (by decide)) rfl (J.b (J.j D_slope (hr.mono (by decide)) rfl (J.b (J.a 3) (J.b (J.a 4) J.d st_N) st_N) (he:=st_N) (hpl:=(anyc st_N any0))) (J.b (J.a 3) J.d st_N) st_K) (he:=st_K) (hpl:=(anyc st_N any0))) (hs:=sw_K))
      (J.e (J.i (i:=7) sc_best.nd rfl (Or.inl rfl) (Jd.pe_ifExp (J.n op_eq (J.f (ixT K) (J.a 5) J.c (fun _ _=>rfl)) J.c (nomark _)) J.v (J.a 2)) (hs:=sw_I))
      (J.g (J.k (J.m (J.b (J.m (J.b (J.f (ixT K) (J.a 6) J.c (fun _ _=>rfl)) (J.b (J.j D_plus (hr.mono (by decide)) rfl (J.b (J.f (ixT K) (J.a 6) J.c (fun _ _=>rfl)) (J.b (J.a 5) J.d st_N) st_S) (he:=st_S) (hpl:=(anyc st_N any0))) J.d st_K) st_S)) (J.b (J.j D_sizeF (hr.mono (by decide)) rfl (J.b (J.a 5) J.d st_N) (he:=st_N) (hpl:=any0)) (J.b (J.a 7) J.d st_N) st_K) st_T))))))))))))),?_⟩
  refine seq_cut (fun σ' H'=>H'=H∧σ'=[some (.ref l),some (.ref x0.1),none,none,none,none,none,none]) (fun σ' H' hP=>?_) (fun N rest=>?_)
  rotate_left
  · walk_at "v"
    refine r_l hl (at_val (i:=0) g0 rfl) ?_
    walk_at "v"
    exact rest _ _ ⟨rfl,rfl⟩
  obtain ⟨rfl,rfl⟩:=hP
  refine seq_cut (fun σ' H''=>H''=H'∧σ'=[some (.ref l),some (.ref x0.1),none,none,none,none,none,none]∧es.length≠1) (fun σ' H'' hP=>?_) (fun N rest=>?_)
  rotate_left
  · walk_at "v"
    refine r_len (.inl (SqL.of hl)) ?_
    rw [vals_len]
    walk_at "v"
    refine ite2 (fun c1=>?_) (fun c1=>?_)
    · have c1':(es.length:Int)=1:=of_decide_eq_true c1
      walk_at "v"
      refine r_new (mk:=.tup) (by simp) fun p1 H1 s1 n1 e1=>?_
      have ev1:=s1 _ _ ev0
      walk_at "v"
      refine r_new (mk:=.tup) (by simp) fun p2 H2 s2 n2 e2=>?_
      walk_at "v"
      refine r_new (mk:=.tup) (by simp) fun p3 H3 s3 n3 e3=>?_
      walk_at "v"
      refine r_new (mk:=.tup) (by simp) fun p4 H4 s4 n4 e4=>?_
      have s24:=s3.trans s4
      have s14:=s2.trans s24
      refine k p4 p2 p3 .non 0 (wo es 0) 0 none H4 (s1.trans s14) e4 ⟨p1,v0,s24 _ _ e2,zero (s14 _ _ e1) (by walk_at "o"),(fv0.up (s1.trans s14)).mono (by walk_at "o")⟩ (zero (s4 _ _ e3) (by walk_at "o")) rfl ⟨Rat.le_refl,fun p hp=>?_,fun _=>rfl,fun _ _ _ e=>nomatch e⟩ (.inl ⟨by walk_at "o",rfl,rfl⟩)
      obtain rfl:p=0:=by walk_at "o"
      unfold offR
      rw [show wo es 0-(0*(mo es 0:Rat)+wo es 0)=0 by grind]
      exact Rat.le_refl
    · walk_at "v"
      exact rest _ _ ⟨rfl,rfl,fun z=>c1 (decide_eq_true (by walk_at "o"))⟩
  obtain ⟨rfl,rfl,hne1⟩:=hP
  refine seq_cut (fun σ' H'=>H'=H''∧σ'=[some (.ref l),some (.ref x0.1),none,none,none,none,none,none]∧3≤es.length) (fun σ' H' hP=>?_) (fun N rest=>?_)
  rotate_left
  · walk_at "v"
    refine r_len (.inl (SqL.of hl)) ?_
    rw [vals_len]
    walk_at "v"
    refine ite2 (fun c1=>?_) (fun c1=>?_)
    · have c1':(es.length:Int)=2:=of_decide_eq_true c1
      obtain ⟨x1,g1,sa1⟩:=sa_at hR hS (show 1<es.length by walk_at "o")
      have hlt:=mo_lt hri (show 0<1 by decide) (show 1<es.length by walk_at "o")
      walk_at "v"
      refine r_l hl (at_val (i:=1) g1 rfl) ?_
      walk_at "v"
      refine ⟨x0.1,x1.1,_,_,_,_,n,rfl,sa0,sa1,by walk_at "o",by walk_at "o",fun p1 H1 s1 f1=>?_⟩
      walk_at "v"
      refine ⟨p1,x0.1,_,_,_,_,n,rfl,f1,sa0.up s1,hn1,by walk_at "o",fun zl r' H2 s2 ez fr=>?_⟩
      walk_at "v"
      refine r_new (mk:=.tup) (by simp) fun p3 H3 s3 n3 e3=>?_
      walk_at "v"
      refine r_new (mk:=.tup) (by simp) fun p4 H4 s4 n4 e4=>?_
      have s24:=s3.trans s4
      refine k p4 zl p3 .non _ _ 0 none H4 (s1.trans (s2.trans s24)) e4 ⟨p1,r',s24 _ _ ez,(f1.up (s2.trans s24)).mono (by walk_at "o"),(fr.up s24).mono (by walk_at "o")⟩ (zero (s4 _ _ e3) (by walk_at "o")) rfl ⟨Rat.le_refl,fun p hp=>?_,fun _=>rfl,fun _ _ _ e=>nomatch e⟩ (.inr ⟨0,0,1,by decide,by walk_at "o",by walk_at "o",rfl,.inl rfl⟩)
      have hT:=cast_ne (b:=mo es 1-mo es 0) (by walk_at "o")
      rw [Rat.intCast_sub] at hT
      have:offR es ((wo es 1-wo es 0)/((mo es 1-mo es 0:Int):Rat)) (wo es 0-(wo es 1-wo es 0)/((mo es 1-mo es 0:Int):Rat)*(mo es 0:Rat)) p=0:=by
        unfold offR
        rw [Rat.intCast_sub]
        rcases (show p=0∨p=1 by walk_at "o") with rfl | rfl
        · grind
        · grind
      rw [this]
      exact Rat.le_refl
    · walk_at "v"
      exact rest _ _ ⟨rfl,rfl,by
        have:¬(es.length:Int)=2:=fun z=>c1 (decide_eq_true z)
        walk_at "o"⟩
  obtain ⟨rfl,rfl,h3⟩:=hP
  walk_at "v"
  refine ⟨l,es,n,rfl,hl,hR,hS,hri,hn1,hn,h3,h40,fun r i j kk y C H1 s1 er hC hy hflat=>?_⟩
  obtain ⟨hij,hjk,hkn,_⟩:=id hflat
  have hlt:=mo_lt hri (show i<kk by walk_at "o") hkn
  have hl1:=s1 _ _ hl
  obtain ⟨xi,gi,si⟩:=sa_at (hR.up s1) hS (show i<es.length by walk_at "o")
  obtain ⟨xj,gj,sj⟩:=sa_at (hR.up s1) hS (show j<es.length by walk_at "o")
  obtain ⟨xk,gk,sk⟩:=sa_at (hR.up s1) hS hkn
  walk_at "v"
  refine r_l hl1 (at_val gi rfl) ?_
  walk_at "v"
  refine r_l hl1 (at_val gk rfl) ?_
  walk_at "v"
  refine r_l hl1 (at_val gj rfl) ?_
  walk_at "v"
  refine ⟨xi.1,xj.1,xk.1,_,_,_,_,_,_,n,rfl,si,sj,sk,hlt,by walk_at "o",fun p2 H2 s2 f2=>?_⟩
  walk_at "v"
  refine r_new (mk:=.tup) (by simp) fun p3 H3 s3 n3 e3=>?_
  walk_at "v"
  refine ⟨p2,p3,_,1/2,_,2,rfl,(f2.up s3).qt,⟨1,2,e3,⟨by decide,by decide +kernel⟩,by decide,by decide⟩,by walk_at "o",fun p4 H4 s4 f4=>?_⟩
  have s14:=s2.trans (s3.trans s4)
  walk_at "v"
  refine ⟨xi.1,xk.1,_,_,_,_,n,rfl,si.up s14,sk.up s14,by walk_at "o",by walk_at "o",fun p5 H5 s5 f5=>?_⟩
  walk_at "v"
  refine ⟨p5,xi.1,_,_,_,_,n,rfl,f5,si.up (s14.trans s5),hn1,by walk_at "o",fun zc rc H6 s6 ec fc=>?_⟩
  have s46:=s5.trans s6
  dsimp only at f4
  generalize hd:(wo es j-chord (mo es i) (wo es i) (mo es j) (mo es kk) (wo es kk))*(1/2)=d at f4
  generalize hs:(wo es kk-wo es i)/((mo es kk-mo es i:Int):Rat)=sl at f5 fc
  have hB:=flat_best hC hri hy hflat (s:=sl) (d:=d) (h:=wo es i-sl*(mo es i:Rat)+d) (by rw [← hs,Rat.intCast_sub]) (by rw [← hd];grind) rfl
  have f46:=f4.up s46
  obtain ⟨tp,bt,e6,fr6,zt6,zb6⟩:=id f46
  have er6:=(s14.trans s46) _ _ er
  have ht0:tp=0↔d=0:=by
    have hbne:=cast_ne (b:=bt) (by have:=fr6.pos;walk_at "o")
    have he:=fr6.eq
    constructor
    · intro z
      rw [z] at he
      have:((0:Int):Rat)=0:=rfl
      rw [this] at he
      rcases Rat.mul_eq_zero.mp he.symm with q | q
      · exact q
      · exact absurd q hbne
    · intro z
      rw [z,Rat.zero_mul] at he
      exact Rat.intCast_inj.mp he
  refine nx_of ?_
  refine seq_cut (fun σ' H'=>H'=H6∧∃v,σ'=[some (.ref l),some (.ref x0.1),some (.ref r),some (.ref xi.1),some (.ref xk.1),some (.ref p4),some (.ref zc),some v]∧FoAt H6 (if d=0 then none else some (i,j,kk)) v) (fun σ' H' hP=>?_) (fun N rest=>?_)
  rotate_left
  · walk_at "v"
    refine ite2 (fun c1=>?_) (fun c1=>?_)
    · have c1':=ht0.mp (of_decide_eq_true c1)
      walk_at "v"
      exact rest _ _ ⟨rfl,.non,rfl,by rw [if_pos c1'];rfl⟩
    · have c1':¬d=0:=fun z=>c1 (decide_eq_true (ht0.mpr z))
      walk_at "v"
      exact rest _ _ ⟨rfl,.ref r,rfl,by rw [if_neg c1'];exact ⟨r,rfl,er6⟩⟩
  obtain ⟨rfl,v,rfl,hv⟩:=hP
  walk_at "v"
  refine ⟨rc,p4,_,_,_,_,rfl,fc.qt,f46.qt,by walk_at "o",fun p7 H7 s7 f7=>?_⟩
  walk_at "v"
  refine r_new (mk:=.tup) (by simp) fun p8 H8 s8 n8 e8=>?_
  have s68:=s7.trans s8
  walk_at "v"
  refine ⟨p4,_,_,rfl,f46.up s68,fun p9 H9 s9 f9=>?_⟩
  walk_at "v"
  refine r_new (mk:=.tup) (by simp) fun p10 H10 s10 n10 e10=>?_
  have s810:=s9.trans s10
  have s610:=s68.trans s810
  refine k p10 p8 p9 v sl _ _ _ H10 (s1.trans (s14.trans (s46.trans s610))) e10 ⟨p5,p7,s810 _ _ e8,(f5.up (s6.trans s610)).mono (by walk_at "o"),(f7.up (s8.trans s810)).mono (by walk_at "o")⟩ ((f9.up s10).mono (by walk_at "o")) ?_ hB (.inr ⟨i,j,kk,by walk_at "o",hkn,by walk_at "o",hs.symm,.inr (by rw [← hd];rfl)⟩)
  by_cases z:d=0
  · rw [if_pos z] at hv ⊢
    exact hv
  · rw [if_neg z] at hv ⊢
    obtain ⟨r',e1,e2⟩:=hv
    exact ⟨r',e1,s610 _ _ e2⟩
end

noncomputable def halfS (es:List En) (a b c:Nat):Rat:=rabs (sd es a b c)/2
theorem sd_off {es:List En} {s h:Rat} {a b c:Nat} (hac:mo es a<mo es c):sd es a b c=offR es s h b-chord (mo es a) (offR es s h a) (mo es b) (mo es c) (offR es s h c):=by
  have hT:((mo es c:Rat)-(mo es a:Rat))≠0:=by
    have:=cast_ne (b:=mo es c-mo es a) (by walk_at "o")
    rw [Rat.intCast_sub] at this
    exact this
  unfold sd offR chord
  generalize (mo es a:Rat)=ta at *
  generalize (mo es b:Rat)=tb at *
  generalize (mo es c:Rat)=tc at *
  grind
theorem chord_le {ta tb tc x y M:Rat} (h1:ta<tb) (h2:tb<tc) (hx:x≤M) (hy:y≤M):chord ta x tb tc y≤M:=by
  have a:=Rat.mul_le_mul_of_nonneg_right hx (show 0≤tc-tb by grind)
  have b:=Rat.mul_le_mul_of_nonneg_right hy (show 0≤tb-ta by grind)
  refine Rat.not_lt.mp fun z=>?_
  unfold chord at z
  rw [Rat.lt_div_iff (by grind)] at z
  grind
theorem chord_ge {ta tb tc x y M:Rat} (h1:ta<tb) (h2:tb<tc) (hx:M≤x) (hy:M≤y):M≤chord ta x tb tc y:=by
  have a:=Rat.mul_le_mul_of_nonneg_right hx (show 0≤tc-tb by grind)
  have b:=Rat.mul_le_mul_of_nonneg_right hy (show 0≤tb-ta by grind)
  refine Rat.not_lt.mp fun z=>?_
  unfold chord at z
  rw [Rat.div_lt_iff (by grind)] at z
  grind
theorem half_le {es:List En} {s h w:Rat} (hri:rising es) (hle:∀p,p<es.length→rabs (offR es s h p)≤w) {a b c:Nat} (hab:a<b) (hbc:b<c) (hc:c<es.length):halfS es a b c≤w:=by
  have t1:(mo es a:Rat)<(mo es b:Rat):=Rat.intCast_lt_intCast.mpr (mo_lt hri hab (by walk_at "o"))
  have t2:(mo es b:Rat)<(mo es c:Rat):=Rat.intCast_lt_intCast.mpr (mo_lt hri hbc hc)
  have e:=sd_off (es:=es) (s:=s) (h:=h) (a:=a) (b:=b) (c:=c) (mo_lt hri (by walk_at "o") hc)
  obtain ⟨a1,a2⟩:=rabs_le.mp (hle a (by walk_at "o"))
  obtain ⟨b1,b2⟩:=rabs_le.mp (hle b (by walk_at "o"))
  obtain ⟨c1,c2⟩:=rabs_le.mp (hle c hc)
  have u1:=chord_le t1 t2 a2 c2
  have u2:=chord_ge t1 t2 a1 c1
  have:rabs (sd es a b c)≤2*w:=rabs_le.mpr (by rw [e];constructor <;> grind)
  unfold halfS
  grind
theorem best_three {es:List En} {s h w:Rat} {i j k:Nat} (hri:rising es) (hB:Best es s h w (some (i,j,k))):i<j∧j<k∧k<es.length∧halfS es i j k=w∧w≠0:=by
  obtain ⟨hw,hij,hjk,hk,ho⟩:=hB.some_ i j k rfl
  have t1:(mo es i:Rat)<(mo es j:Rat):=Rat.intCast_lt_intCast.mpr (mo_lt hri hij (by walk_at "o"))
  have t2:(mo es j:Rat)<(mo es k:Rat):=Rat.intCast_lt_intCast.mpr (mo_lt hri hjk hk)
  have e:=sd_off (es:=es) (s:=s) (h:=h) (a:=i) (b:=j) (c:=k) (mo_lt hri (by walk_at "o") hk)
  have hn:=hB.nn
  refine ⟨hij,hjk,hk,?_,hw⟩
  unfold halfS
  have one:∀x:Rat,chord (mo es i) x (mo es j) (mo es k) x=x:=fun x=>by
    unfold chord
    generalize (mo es i:Rat)=ta at *
    generalize (mo es j:Rat)=tb at *
    generalize (mo es k:Rat)=tc at *
    grind
  rcases ho with ⟨o1,o2,o3⟩ | ⟨o1,o2,o3⟩
  · rw [e,o1,o2,o3,one]
    unfold rabs
    split <;> grind
  · rw [e,o1,o2,o3,one]
    unfold rabs
    split <;> grind

noncomputable def Each2 {α β:Type} (R:α→β→Prop):List α→List β→Prop
  | [],[]=>True
  | a::as,b::bs=>R a b∧Each2 R as bs
  | _,_=>False
theorem each2_snoc {α β:Type} {R:α→β→Prop} {a:α} {b:β}:∀{as:List α} {bs:List β},Each2 R as bs→R a b→Each2 R (as++[a]) (bs++[b])
  | [],[],_,r=>⟨r,trivial⟩
  | _::_,_::_,h,r=>⟨h.1,each2_snoc h.2 r⟩
  | [],_::_,h,_=>h.elim
  | _::_,[],h,_=>h.elim
theorem each2_imp {α β:Type} {R S:α→β→Prop}:∀{as:List α} {bs:List β},(∀a b,a∈as→R a b→S a b)→Each2 R as bs→Each2 S as bs
  | [],[],_,_=>trivial
  | _::_,_::_,u,r=>⟨u _ _ (by simp) r.1,each2_imp (fun a b ha=>u a b (by simp [ha])) r.2⟩
  | [],_::_,_,r=>r.elim
  | _::_,[],_,r=>r.elim
theorem parts_own {α:Type} {s:α→Bool} {es:List α}:∀(i:Nat) (r:List α),r∈parts s es i→r≠[]∧(∀x∈r,s x=true)∧r.Sublist (es.take i)
  | 0,r,h=>absurd h (by simp [parts])
  | i+1,r,h=>by
    have ih:=parts_own (s:=s) (es:=es) i
    have up:∀r:List α,r.Sublist (es.take i)→r.Sublist (es.take (i+1)):=fun r q=>q.trans (List.take_sublist_take_left (Nat.le_succ _))
    unfold parts at h
    cases e:es[i]? with
    | none=>rw [e] at h;exact ⟨(ih r h).1,(ih r h).2.1,up r (ih r h).2.2⟩
    | some y=>
      rw [e] at h
      have tk:es.take (i+1)=es.take i++[y]:=by rw [List.take_add_one,e];rfl
      dsimp only at h
      split at h
      · rename_i hs
        split at h
        · rename_i hr
          obtain ⟨t,r',hp⟩:=parts_ne hr
          have hm:r'∈parts s es i:=by rw [hp];simp
          have hgl:(parts s es i).getLast?.getD []=r':=by rw [hp];simp
          rcases List.mem_append.mp h with z | z
          · have q:=ih r (List.dropLast_sublist _ |>.subset z)
            exact ⟨q.1,q.2.1,up r q.2.2⟩
          · obtain rfl:r=((parts s es i).getLast?.getD [])++[y]:=by simpa using z
            rw [hgl]
            refine ⟨by simp,fun x hx=>?_,by rw [tk];exact List.Sublist.append (ih r' hm).2.2 (List.Sublist.refl _)⟩
            rcases List.mem_append.mp hx with q | q
            · exact (ih r' hm).2.1 x q
            · obtain rfl:x=y:=by simpa using q
              exact hs
        · rcases List.mem_append.mp h with z | z
          · exact ⟨(ih r z).1,(ih r z).2.1,up r (ih r z).2.2⟩
          · obtain rfl:r=[y]:=by simpa using z
            refine ⟨by simp,fun x hx=>?_,by rw [tk];exact List.sublist_append_right _ _⟩
            obtain rfl:x=y:=by simpa using hx
            exact hs
      · exact ⟨(ih r h).1,(ih r h).2.1,up r (ih r h).2.2⟩
noncomputable abbrev Pc:=Addr×(Rat×Rat×Rat×Rat)
noncomputable def PcAt (H:Hp) (x:Pc) (n:Nat):Prop:=∃a b c d:Addr,H x.1=some (.tup [.ref a,.ref b,.ref c,.ref d])∧FrAt H a x.2.1 n∧FrAt H b x.2.2.1 n∧FrAt H c x.2.2.2.1 n∧FrAt H d x.2.2.2.2 n
theorem PcAt.mv {H H':Hp} {x:Pc} {n:Nat} (t:∀{b:Addr} {xs:List V},H b=some (.tup xs)→H' b=some (.tup xs)) (f:PcAt H x n):PcAt H' x n:=by
  obtain ⟨a,b,c,d,e,f1,f2,f3,f4⟩:=f
  have m:∀{b:Addr} {q:Rat},FrAt H b q n→FrAt H' b q n:=fun f=>let ⟨x,d,e,f⟩:=f;⟨x,d,t e,f⟩
  exact ⟨a,b,c,d,t e,m f1,m f2,m f3,m f4⟩
noncomputable def AllP (H:Hp) (ps:List Pc) (n:Nat):Prop:=∀x∈ps,PcAt H x n
theorem fit_threes {es:List En} {B:Rat} (hri:rising es) (hB:0≤B):Fit es B↔∀i j k,i<j→j<k→k<es.length→rabs (sd es i j k)≤B:=by
  have hr:Rise (fun i=>(mo es i:Rat)) es.length:=fun i j hij hj=>Rat.intCast_lt_intCast.mpr (mo_lt hri hij hj)
  constructor
  · intro hF i j k hij hjk hk
    have hj:j<es.length:=Nat.lt_trans hjk hk
    have d1:=hr i j hij hj
    have d2:=hr j k hjk hk
    have q1:=hF i j i j hij hj hij hj
    have q2:=hF i j j k hij hj hjk hk
    have q3:=hF j k i j hjk hk hij hj
    have q4:=hF j k j k hjk hk hjk hk
    by_cases hc:lowS es B i j≤lowS es B j k
    · exact three_of (s:=lowS es B j k) (t:=fun i=>(mo es i:Rat)) (v:=wo es) d1 d2 hc q3 Rat.le_refl q4
    · exact three_of (s:=lowS es B i j) (t:=fun i=>(mo es i:Rat)) (v:=wo es) d1 d2 Rat.le_refl q1 (Rat.le_of_lt (Rat.not_le.mp hc)) q2
  · intro hp i j k l hij hj hkl hl
    exact helly (t:=fun i=>(mo es i:Rat)) (v:=wo es) hr (fun a b c h1 h2 h3=>hp a b c h1 h2 h3) hB hij hj hkl hl
theorem best_fit {es:List En} {s h w β:Rat} {F:Option (Nat×Nat×Nat)} (hri:rising es) (hB:Best es s h w F) (hβ:0≤β):Fit es (2*β)↔w≤β:=by
  rw [fit_threes hri (by grind)]
  constructor
  · intro hp
    cases F with
    | none=>rw [hB.none_ rfl];exact hβ
    | some x=>
      obtain ⟨i,j,k⟩:=x
      obtain ⟨q1,q2,q3,q4,_⟩:=best_three hri hB
      have:=hp i j k q1 q2 q3
      unfold halfS at q4
      grind
  · intro hw i j k hij hjk hk
    have:=half_le hri hB.le hij hjk hk
    unfold halfS at this
    grind
noncomputable def BpAt (H:Hp) (p:Addr) (q:List En) (N:Nat):Prop:=∃(s h w:Rat) (Fo:Option (Nat×Nat×Nat)),PcAt H (p,(mo q 0:Rat),s*(mo q 0:Rat)+h,(mo q (q.length-1):Rat),s*(mo q (q.length-1):Rat)+h) N∧Best q s h w Fo∧Lin q s h
theorem BpAt.mv {H H':Hp} {p:Addr} {q:List En} {N:Nat} (t:∀{b:Addr} {xs:List V},H b=some (.tup xs)→H' b=some (.tup xs)) (f:BpAt H p q N):BpAt H' p q N:=by
  obtain ⟨s,h,w,Fo,f,b⟩:=f
  exact ⟨s,h,w,Fo,f.mv t,b⟩
noncomputable def ThAt (H:Hp) (t:Addr) (es:List En) (β:Rat):Prop:=∃i j:Nat,i<j∧j+1<es.length∧H t=some (.tup [.int (mo es i),.int (mo es j),.int (mo es (es.length-1))])∧β<halfS es i j (es.length-1)
theorem ThAt.mv {H H':Hp} {p:Addr} {q:List En} {β:Rat} (t:∀{b:Addr} {xs:List V},H b=some (.tup xs)→H' b=some (.tup xs)) (f:ThAt H p q β):ThAt H' p q β:=by
  obtain ⟨i,j,a,b,e,g⟩:=f
  exact ⟨i,j,a,b,t e,g⟩
structure ApRun (H:Hp) (run:List En) (β:Rat) (N:Nat) (qs:List (List En)) (ps ts:List Addr):Prop where
  cut:Cut run (2*β) qs run.length
  lp:ps.length=qs.length
  lt:ts.length+1=qs.length
  pc:∀(i:Nat) (q:List En) (p:Addr),qs[i]?=some q→ps[i]?=some p→BpAt H p q N
  th:∀(i:Nat) (q q':List En) (x:En) (t:Addr),qs[i]?=some q→qs[i+1]?=some q'→q'[0]?=some x→ts[i]?=some t→ThAt H t (q++[x]) β
theorem ApRun.mv {H H':Hp} {run:List En} {β:Rat} {N:Nat} {qs:List (List En)} {ps ts:List Addr} (t:∀{b:Addr} {xs:List V},H b=some (.tup xs)→H' b=some (.tup xs)) (f:ApRun H run β N qs ps ts):ApRun H' run β N qs ps ts:=
  ⟨f.cut,f.lp,f.lt,fun i q p h1 h2=>(f.pc i q p h1 h2).mv t,fun i q q' x t' h1 h2 h3 h4=>(f.th i q q' x t' h1 h2 h3 h4).mv t⟩
noncomputable def ApRuns (H:Hp) (β:Rat) (N:Nat) (rs:List (List En)) (zs:List (List (List En)×List Addr×List Addr)):Prop:=Each2 (fun r z=>ApRun H r β N z.1 z.2.1 z.2.2) rs zs
theorem ApRuns.mv {H H':Hp} {β:Rat} {N:Nat} {rs:List (List En)} {zs:List (List (List En)×List Addr×List Addr)} (t:∀{b:Addr} {xs:List V},H b=some (.tup xs)→H' b=some (.tup xs)) (f:ApRuns H β N rs zs):ApRuns H' β N rs zs:=each2_imp (fun _ _ _ r=>r.mv t) f
noncomputable def telOf (zs:List (List (List En)×List Addr×List Addr)):List Addr:=zs.flatMap (·.2.1)
noncomputable def papOf (zs:List (List (List En)×List Addr×List Addr)):List Addr:=zs.flatMap (·.2.2)
theorem cut1 (xs:List V):cutV xs (some 1) none=xs.drop 1:=by
  unfold cutV HT.sIx
  cases xs with
  | nil=>rfl
  | cons x xs=>simp
theorem Cut.qlen {es:List En} {B:Rat} {qs:List (List En)} {n:Nat} (h:Cut es B qs n) {i:Nat} {q:List En} (hq:qs[i]?=some q):1≤q.length∧q.length≤es.length:=by
  obtain ⟨pos,_,_,h⟩:=h
  obtain ⟨h1,h2,rfl,_⟩:=h i q hq
  rw [piece_len h2]
  walk_at "o"
theorem Cut.len {es:List En} {B:Rat} {qs:List (List En)} {n:Nat} (h:Cut es B qs n):qs.length≤n:=by
  obtain ⟨pos,p0,pn,h⟩:=h
  have st:∀i,i≤qs.length→i≤pos i:=by
    intro i
    induction i with
    | zero=>intro _;exact Nat.zero_le _
    | succ i ih=>
      intro hi
      have a:=ih (by walk_at "o")
      obtain ⟨h1,_⟩:=h i _ (List.getElem?_eq_getElem (show i<qs.length by walk_at "o"))
      walk_at "o"
  have:=st qs.length (Nat.le_refl _)
  walk_at "o"
theorem parts_flat {α:Type} {s:α→Bool} {es:List α}:∀i:Nat,(parts s es i).flatten=(es.take i).filter s
  | 0=>by simp [parts]
  | i+1=>by
    have ih:=parts_flat (s:=s) (es:=es) i
    unfold parts
    cases e:es[i]? with
    | none=>
      rw [List.take_add_one,e]
      simpa using ih
    | some y=>
      have tk:es.take (i+1)=es.take i++[y]:=by rw [List.take_add_one,e];rfl
      rw [tk,List.filter_append]
      dsimp only
      split
      · rename_i hs
        split
        · rename_i hr
          obtain ⟨t,r',hp⟩:=parts_ne hr
          rw [hp] at ih ⊢
          rw [← ih]
          simp [hs]
        · rw [List.flatten_append,ih]
          simp [hs]
      · rename_i hs
        rw [ih]
        simp [hs]
theorem flat_take {α:Type} {l:List (List α)} (i:Nat):(l.take i).flatten.length≤l.flatten.length:=by
  have e:l.flatten=(l.take i).flatten++(l.drop i).flatten:=by rw [← List.flatten_append,List.take_append_drop]
  rw [e,List.length_append]
  exact Nat.le_add_right _ _
theorem Cut.sub {es:List En} {B:Rat} {qs:List (List En)} {n:Nat} (h:Cut es B qs n) {i:Nat} {q:List En} (hq:qs[i]?=some q):q.Sublist es∧Fit q B:=by
  obtain ⟨pos,_,_,h⟩:=h
  obtain ⟨h1,h2,rfl,hf,_⟩:=h i q hq
  exact ⟨(List.take_sublist _ _).trans (List.drop_sublist _ _),hf⟩
theorem Cut.next {es:List En} {B:Rat} {qs:List (List En)} {n:Nat} (h:Cut es B qs n) {i:Nat} {q q':List En} (hq:qs[i]?=some q) (hq':qs[i+1]?=some q'):∃x,q'[0]?=some x∧(q++[x]).Sublist es∧¬Fit (q++[x]) B:=by
  obtain ⟨pos,_,_,h⟩:=h
  obtain ⟨h1,h2,rfl,hf,hn⟩:=h i q hq
  obtain ⟨k1,k2,rfl,_,_⟩:=h (i+1) q' hq'
  have hlt:pos (i+1)<es.length:=by walk_at "o"
  have hx:es[pos (i+1)]?=some es[pos (i+1)]:=List.getElem?_eq_getElem hlt
  refine ⟨es[pos (i+1)],by rw [piece_get (by walk_at "o"),Nat.add_zero];exact hx,?_,?_⟩
  · rw [← piece_next (by walk_at "o") hx]
    exact (List.take_sublist _ _).trans (List.drop_sublist _ _)
  · rw [← piece_next (by walk_at "o") hx]
    exact hn hlt
theorem at_neg1A {es:List En} {x:En} (h:es[es.length-1]?=some x):atI (vals es) (-1)=some (.ref x.1):=by
  have hl:=(List.getElem?_eq_some_iff.mp h).1
  unfold atI
  rw [vals_len,ix_last (m:=es.length-1) (by walk_at "o")]
  exact vals_get h
noncomputable def spAlongA:Sp:=fun vs H Q _=>∃(p:Addr) (s h:Rat) (a b:Int) (m n:Nat),vs=[.ref p,.int a,.int b]∧LnAt H p s h n∧Sz m a∧Sz m b∧1≤m∧m+2*n+1≤8000∧∀(z:Addr) (H':Hp),Same H H'→PcAt H' (z,(a:Rat),s*(a:Rat)+h,(b:Rat),s*(b:Rat)+h) (m+2*n+1)→Q (.ref z) H'
noncomputable def spBestPiece:Sp:=fun vs H Q _=>∃(l:Addr) (es:List En) (n:Nat),vs=[.ref l]∧H l=some (.lst (vals es))∧Row H es n∧AllS es∧rising es∧1≤n∧n≤200∧es.length*n+n≤7000∧1≤es.length∧es.length≤40∧∀(p:Addr) (H':Hp),Same H H'→BpAt H' p es 6000→Q (.ref p) H'
noncomputable def spEndThree:Sp:=fun vs H Q _=>∃(l x:Addr) (es:List En) (m:Int) (q β:Rat) (n:Nat),vs=[.ref l,.ref x]∧H l=some (.lst (vals es))∧Row H es n∧SaAt H x m q n∧AllS es∧rising (es++[(x,m,some q)])∧1≤n∧n≤200∧(es.length+1)*n+n≤7000∧es.length<40∧0≤β∧Fit es (2*β)∧¬Fit (es++[(x,m,some q)]) (2*β) ∧
  ∀(t:Addr) (H':Hp),Same H H'→ThAt H' t (es++[(x,m,some q)]) β→Q (.ref t) H'
noncomputable def spApart:Sp:=fun vs H Q _=>∃(l pb:Addr) (es:List En) (β:Rat) (n nb:Nat),vs=[.ref l,.ref pb]∧H l=some (.lst (vals es))∧Row H es n∧rising es∧es.length≤40∧QtAt H pb β nb∧0≤β∧1≤n∧n≤165∧nb≤1000 ∧
  ∀(y X Z:Addr) (zs:List (List (List En)×List Addr×List Addr)) (H':Hp),Same H H'→H' y=some (.tup [.ref X,.ref Z])→H X=none→H Z=none→X≠Z→H' X=some (.lst ((telOf zs).map V.ref))→H' Z=some (.lst ((papOf zs).map V.ref))→ApRuns H' β 6000 (parts smp es es.length) zs→Q (.ref y) H'
section
variable {P:Program} {w:World} {K:PySem.W.Frag} {mg:Str→Option Value} {base:Heap} {f c_Stretch:Addr} {fd:FuncData}
theorem sc_piece_along:FnScope ["line","first","last"] ["line","first","last"] (defScope s_piece_along):=⟨rfl,rfl,rfl,by decide +kernel,rfl,by decide +kernel,by decide +kernel⟩
theorem ok_piece_along (F:Fun K "piece_along" "piece_along" s_piece_along f fd) (D_height:Dn P w K mg base 5 "height" ["line","when"] spHeight):FnOk P w K mg base CX0 6 f fd ["line","first","last"] spAlongA:=by
  refine F.ok sc_piece_along (fun vs H Q E h=>?_) (fun cdv A outer s H vs Q E hr h=>?_)
  · obtain ⟨p,s,h,a,b,m,n,rfl,_⟩:=h
    rfl
  obtain ⟨p,s,h,a,b,m,n,rfl,hln,za,zb,hm,hmn,k⟩:=h
  refine J.l ⟨_,(J.g (J.k (J.m (J.b (J.m (J.b (J.a 1) (J.b J.c J.d st_C) st_N)) (J.b (J.j D_height (hr.mono (by decide)) rfl (J.b (J.a 0) (J.b (J.m (J.b (J.a 1) (J.b J.c J.d st_C) st_N)) J.d st_T) st_N) (he:=st_N) (hpl:=(anyc st_T any0))) (J.b (J.m (J.b (J.a 2) (J.b J.c J.d st_C) st_N)) (J.b (J.j D_height (hr.mono (by decide)) rfl (J.b (J.a 0) (J.b (J.m (J.b (J.a 2) (J.b J.c J.d st_C) st_N)) J.d st_T) st_N) (he:=st_N) (hpl:=(anyc st_T any0))) J.d st_K) st_T) st_K) st_T)))),?_⟩
  walk_at "v"
  refine r_new (mk:=.tup) (by simp) fun p1 H1 s1 n1 e1=>?_
  walk_at "v"
  refine r_new (mk:=.tup) (by simp) fun p2 H2 s2 n2 e2=>?_
  have s02:=s1.trans s2
  walk_at "v"
  refine ⟨p,p2,s,h,_,m,n,rfl,LnAt.up hln s02,whole_at e2 za hm,hmn,fun p3 H3 s3 f3=>?_⟩
  have s03:=s02.trans s3
  walk_at "v"
  refine r_new (mk:=.tup) (by simp) fun p4 H4 s4 n4 e4=>?_
  walk_at "v"
  refine r_new (mk:=.tup) (by simp) fun p5 H5 s5 n5 e5=>?_
  have s05:=s03.trans (s4.trans s5)
  walk_at "v"
  refine ⟨p,p5,s,h,_,m,n,rfl,LnAt.up hln s05,whole_at e5 zb hm,hmn,fun p6 H6 s6 f6=>?_⟩
  walk_at "v"
  refine r_new (mk:=.tup) (by simp) fun z H7 s7 n7 e7=>?_
  have s47:=s5.trans (s6.trans s7)
  have s37:=s4.trans s47
  have one:∀{y:Int},Sz m y→Sz (m+2*n+1) y:=fun z=>z.mono (by walk_at "o")
  exact k z H7 (s03.trans s37) ⟨p1,p3,p4,p6,e7,⟨a,1,(s2.trans (s3.trans s37)) _ _ e1,Fr.whole a,one za,one_sz (by walk_at "o")⟩,f3.up s37,⟨b,1,s47 _ _ e4,Fr.whole b,one zb,one_sz (by walk_at "o")⟩,f6.up s7⟩
theorem sc_best_piece:FnScope ["stretch"] ["stretch"] (defScope s_best_piece):=⟨rfl,rfl,rfl,by decide +kernel,rfl,by decide +kernel,by decide +kernel⟩
theorem ok_best_piece (F:Fun K "best_piece" "best_piece" s_best_piece f fd) (D_piece_along:Dn P w K mg base 6 "piece_along" ["line","first","last"] spAlongA) (D_best:Dn P w K mg base 6 "best" ["samples"] spBest):FnOk P w K mg base CX0 7 f fd ["stretch"] spBestPiece:=by
  refine F.ok sc_best_piece (fun vs H Q E h=>?_) (fun cdv A outer s H vs Q E hr h=>?_)
  · obtain ⟨l,es,n,rfl,_⟩:=h
    rfl
  obtain ⟨l,es,n,rfl,hl,hR,hA,hri,hn1,hn,hln,h1,h40,k⟩:=h
  refine J.l ⟨_,(J.g (J.k (J.j D_piece_along (hr.mono (by decide)) rfl (J.b (J.f (ixT K) (J.j D_best (hr.mono (by decide)) rfl (J.b (J.a 0) J.d st_N) (he:=st_N) (hpl:=any0)) J.c (fun _ _=>rfl)) (J.b (J.f (ixT K) (J.f (ixL K) (J.a 0) J.c (fun _ _=>rfl)) J.c (fun _ _=>rfl)) (J.b (J.f (ixT K) (J.f (ixL K) (J.a 0) (J.z un_neg J.c) (fun _ _=>rfl)) J.c (fun _ _=>rfl)) J.d st_S) st_S) st_S) (he:=st_S) (hpl:=(anyc st_S (anyc st_S any0)))))),?_⟩
  walk_at "v"
  refine ⟨l,es,n,rfl,hl,hR,hA,hri,hn1,by walk_at "o",hln,h1,h40,fun z zl zw Fv sl ht w' Fo H1 s1 ez hL _ _ hB hLin=>?_⟩
  obtain ⟨e0,g0,v0,ev0,fv0,zt0⟩:=sa_at (hR.up s1) hA (show 0<es.length by walk_at "o")
  obtain ⟨e1,g1,v1,ev1,fv1,zt1⟩:=sa_at (hR.up s1) hA (show es.length-1<es.length by walk_at "o")
  have hl1:=s1 _ _ hl
  walk_at "v"
  refine r_l hl1 (at_val g0 rfl) ?_
  walk_at "v"
  refine r_l hl1 (at_neg1A g1) ?_
  walk_at "v"
  refine ⟨zl,sl,ht,_,_,n,13*n+15,rfl,hL,zt0,zt1,hn1,by walk_at "o",fun p H2 s2 f2=>?_⟩
  refine k p H2 (s1.trans s2) ⟨sl,ht,w',Fo,?_,hB,hLin⟩
  obtain ⟨a,b,c,d,e,f1,f2,f3,f4⟩:=f2
  exact ⟨a,b,c,d,e,f1.mono (by walk_at "o"),f2.mono (by walk_at "o"),f3.mono (by walk_at "o"),f4.mono (by walk_at "o")⟩
theorem r_iT {K:PySem.W.Frag} {te:TE} {σ:L2.St} {H:Hp} {R:It→Hp→Prop} (h:te σ H fun x H1=>∃a,x=.ref a∧(∃xs,SqT K H1 a xs)∧R (Itt K a) H1):iTup K te σ H R:=h
theorem sc_ending_three:FnScope ["stretch","behind","samples"] ["stretch","behind"] (defScope s_ending_three):=⟨rfl,rfl,rfl,by decide +kernel,rfl,by decide +kernel,by decide +kernel⟩
theorem ok_ending_three (F:Fun K "ending_three" "ending_three" s_ending_three f fd) (T:Txt mg) (D_best:Dn P w K mg base 6 "best" ["samples"] spBest):FnOk P w K mg base CX0 7 f fd ["stretch","behind"] spEndThree:=by
  refine F.ok sc_ending_three (fun vs H Q E h=>?_) (fun cdv A outer s H vs Q E hr h=>?_)
  · obtain ⟨l,x,es,m,q,β,n,rfl,_⟩:=h
    rfl
  obtain ⟨l,x,es,m,q,β,n,rfl,hl,hR,hx,hA,hri,hn1,hn,hln,h40,hβ,hf,hnf,k⟩:=h
  generalize hes:es++[(x,m,some q)]=fs at *
  have hlf:fs.length=es.length+1:=by rw [← hes];simp
  have hRf:Row H fs n:=by rw [← hes];exact hR.snoc hx.en
  have hAf:AllS fs:=by rw [← hes];exact allS_new hA
  have hrs:rising es:=by rw [← hes] at hri;exact hri.sublist (List.sublist_append_left _ _)
  refine J.l ⟨_,(J.e (J.i (i:=2) sc_ending_three.nd rfl (Or.inr rfl) (J.h op_cat (J.a 0) (J.t (J.b (J.a 1) J.d st_N))) (hs:=sw_B))
      (J.g (J.k (Jd.pe_callTy call_tuple_of rfl T.tuple_ PyProof.Rows.boot_tuple (J.b (J.ac (O:=["place"]) (N':=["samples"]) (cap:=[2]) rfl (Jd.piT K (J.f (ixT K) (J.j D_best (hr.mono (by decide)) rfl (J.b (J.a 2) J.d st_N) (he:=st_N) (hpl:=any0)) J.c (fun _ _=>rfl))) (fun _ _ _ _ _=>(J.q (i:=0) (show List.Nodup [("place":Str),("samples":Str)] by decide +kernel) rfl (Or.inl rfl))) (fun _ _ _ _ _=>J.ad) (fun _ _ _ _ _=>(J.f (ixT K) (J.f (ixL K) (J.a 1) (J.a 0) (fun _ _=>rfl)) J.c (fun _ _=>rfl))) rfl ⟨⟨rfl,rfl,rfl,rfl⟩,trivial⟩ rfl (by decide +kernel) rfl (by decide +kernel)) J.d st_G))))),?_⟩
  walk_at "v"
  refine r_new (mk:=.lst) (by simp) fun l1 H1 s1 n1 e1=>?_
  walk_at "v"
  refine r_cat (s1 _ _ hl) e1 ?_
  refine r_new (mk:=.lst) (by rw [List.length_append,vals_len];simp;walk_at "o") fun L H2 s2 n2 e2=>?_
  have eL:H2 L=some (.lst (vals fs)):=by rw [e2,← hes];simp [vals]
  have s02:=s1.trans s2
  walk_at "v"
  refine r_iT ?_
  walk_at "v"
  refine ⟨L,fs,n,rfl,eL,hRf.up s02,hAf,hri,hn1,by walk_at "o",by rw [hlf];exact hln,by walk_at "o",by walk_at "o",fun z zl zw Fv sl ht w' Fo H3 s3 ez _ _ hFo hB _=>?_⟩
  have hw:β<w':=Rat.not_le.mp fun z=>hnf ((best_fit hri hB hβ).mpr z)
  cases Fo with
  | none=>exact absurd (hB.none_ rfl) (by grind)
  | some y=>
    obtain ⟨i,j,kk⟩:=y
    obtain ⟨q1,q2,q3,q4,_⟩:=best_three hri hB
    have hk:kk=es.length:=by
      refine Classical.byContradiction fun hne=>?_
      have hkl:kk<es.length:=by walk_at "o"
      have h1:=(fit_threes hrs (show (0:Rat)≤2*β by grind)).mp hf i j kk q1 q2 hkl
      have e:sd es i j kk=sd fs i j kk:=by
        unfold sd
        rw [← hes,mo_left (show i<es.length by walk_at "o"),wo_left (show i<es.length by walk_at "o"),mo_left (show j<es.length by walk_at "o"),wo_left (show j<es.length by walk_at "o"),mo_left hkl,wo_left hkl]
      unfold halfS at q4
      rw [e] at h1
      grind
    subst hk
    obtain ⟨r,rfl,er⟩:=hFo
    have s03:=s02.trans s3
    have eL3:=s3 _ _ eL
    walk_at "v"
    refine ⟨r,rfl,⟨_,SqT.of er⟩,?_⟩
    refine compB_of (xs:=[.int (i:Int),.int (j:Int),.int (es.length:Int)]) tells_tup (fun H4 s4=>SqT.of (s4 _ _ er)) (by simp) (fun c ys G=>ys=([i,j,es.length].take c).map fun p=>V.int (mo fs p)) rfl ?_ ?_
    · rintro D c v ys H4 σ0 NN N0 h0 hD eD s4 hv hy rfl kY kN
      obtain ⟨pq,gpq,rfl,hpq⟩:∃pq:Nat,[i,j,es.length][c]?=some pq∧v=.int (pq:Int)∧pq<fs.length:=by
        have hq:c<3:=(List.getElem?_eq_some_iff.mp hv).1
        rcases (show c=0∨c=1∨c=2 by walk_at "o") with rfl | rfl | rfl
        · exact ⟨i,rfl,by cases hv;rfl,by walk_at "o"⟩
        · exact ⟨j,rfl,by cases hv;rfl,by walk_at "o"⟩
        · exact ⟨es.length,rfl,by cases hv;rfl,by walk_at "o"⟩
      obtain ⟨e,ge,v',ev,fv,zv⟩:=sa_at (hRf.up (s03.trans s4)) hAf hpq
      refine r_own1 h0 ?_
      walk_at "v"
      refine iteT ?_
      walk_at "v"
      refine r_l (s4 _ _ eL3) (at_val ge rfl) ?_
      walk_at "v"
      refine kY _ H4 (Same.refl _) ?_
      rw [List.take_add_one,gpq,List.map_append]
      rfl
    · rintro D ys H4 hD eD s4 hy rfl
      walk_at "v"
      refine ⟨D,_,rfl,.inl ⟨SqL.of eD,fun t nt=>?_⟩⟩
      refine k t _ ((s03.trans s4).trans (same_new nt _)) ⟨i,j,q1,by walk_at "o",?_,?_⟩
      · rw [upd_same,hlf]
        rfl
      · rw [hlf,show es.length+1-1=es.length by walk_at "o",q4]
        exact hw
theorem sc_apart:FnScope ["row","bound","telling","paper","run","parts"] ["row","bound"] (defScope s_apart):=⟨rfl,rfl,rfl,by decide +kernel,rfl,by decide +kernel,by decide +kernel⟩
theorem ok_apart (F:Fun K "apart" "apart" s_apart f fd) (T:Txt mg) (D_runs:Dn P w K mg base 1 "runs" ["row"] spRuns) (D_stretches:Dn P w K mg base 8 "stretches" ["samples","bound"] (spStretches c_Stretch)) (D_best_piece:Dn P w K mg base 7 "best_piece" ["stretch"] spBestPiece) (D_ending_three:Dn P w K mg base 7 "ending_three" ["stretch","behind"] spEndThree):FnOk P w K mg base CX0 9 f fd ["row","bound"] spApart:=by
  refine F.ok sc_apart (fun vs H Q E h=>?_) (fun cdv A outer s H vs Q E hr h=>?_)
  · obtain ⟨l,pb,es,β,n,nb,rfl,_⟩:=h
    rfl
  obtain ⟨l,pb,es,β,n,nb,rfl,hl,hR,hri,h40,hb,hβ,hn1,hn,hnb,k⟩:=h
  refine J.l ⟨_,(J.e (J.i (i:=2) sc_apart.nd rfl (Or.inl rfl) (J.t J.d) (hs:=sw_L))
      (J.e (J.i (i:=3) sc_apart.nd rfl (Or.inl rfl) (J.t J.d) (hs:=sw_L))
      (J.e (J.ab PassesOwn.never rfl (J.x K (J.j D_runs (hr.mono (by decide)) rfl (J.b (J.a 0) J.d st_N) (he:=st_N) (hpl:=any0))) (J.q (i:=4) sc_apart.nd rfl (Or.inl rfl))
      (J.e (J.i (i:=5) sc_apart.nd rfl (Or.inl rfl) (J.j D_stretches (hr.mono (by decide)) rfl (J.b (J.a 4) (J.b (J.a 1) J.d st_N) st_N) (he:=st_N) (hpl:=(anyc st_N any0))) (hs:=sw_K))
      (J.e (J.u (Jd.extC K (J.a 2) (J.ac (O:=["stretch"]) (N':=[]) (cap:=[]) rfl (J.x K (J.a 5)) (fun _ _ _ _ _=>(J.q (i:=0) (show List.Nodup [("stretch":Str)] by decide +kernel) rfl (Or.inl rfl))) (fun _ _ _ _ _=>J.ad) (fun _ _ _ _ _=>(J.j D_best_piece (hr.mono (by decide)) rfl (J.b (J.a 0) J.d st_N) (he:=st_N) (hpl:=any0))) rfl trivial rfl (by decide +kernel) rfl (by decide +kernel))) (hs:=sw_K))
      (J.g (J.u (Jd.extC K (J.a 3) (J.ac (O:=["stretch","behind"]) (N':=[]) (cap:=[]) rfl (Jd.pi_zip K rfl T.zip_ (J.b (J.a 5) (J.b (Jd.pe_slice (slL K) (J.a 5) (Jd.po_some J.c) Jd.po_none) J.d st_S) st_N)) (fun _ _ _ _ _=>(Jd.pgT K (n:=2) rfl (J.aa (J.q (i:=0) (show List.Nodup [("stretch":Str),("behind":Str)] by decide +kernel) rfl (Or.inl rfl)) (J.aa (J.q (i:=1) (show List.Nodup [("stretch":Str),("behind":Str)] by decide +kernel) rfl (Or.inl rfl)) Jd.pgs_nil)))) (fun _ _ _ _ _=>J.ad) (fun _ _ _ _ _=>(J.j D_ending_three (hr.mono (by decide)) rfl (J.b (J.a 0) (J.b (J.f (ixL K) (J.a 1) J.c (fun _ _=>rfl)) J.d st_S) st_N) (he:=st_N) (hpl:=(anyc st_S any0)))) rfl trivial rfl (by decide +kernel) rfl (by decide +kernel))) (hs:=sw_K))))))
      (J.g (J.k (J.m (J.b (J.a 2) (J.b (J.a 3) J.d st_N) st_N))))))),?_⟩
  walk_at "v"
  refine r_new (mk:=.lst) (by simp) fun X H1 s1 n1 e1=>?_
  walk_at "v"
  refine r_new (mk:=.lst) (by simp) fun Z H2 s2 n2 e2=>?_
  have s02:=s1.trans s2
  have nXZ:X≠Z:=fun z=>by rw [← z,e1] at n2;cases n2
  walk_at "v"
  refine r_for (r_iL ?_)
  walk_at "v"
  refine ⟨l,es,n,rfl,s02 _ _ hl,hR.up s02,h40,fun TT ls H3 s3 hLL hls hl40 _=>?_⟩
  have hll:ls.length=(parts smp es es.length).length:=by rw [← hls,List.length_map]
  have own:∀{G:Hp} {R:Addr} {v:List V},LL H2 G TT ls→H2 R=some (.lst v)→R≠TT∧∀x∈ls,x.1≠R:=fun hG e=>⟨(fun z=>by rw [z,hG.new] at e;cases e),(fun x hx z=>by rw [← z,(hG.each x hx).1] at e;cases e)⟩
  obtain ⟨a1,a2⟩:=own hLL (s2 _ _ e1)
  obtain ⟨b1,b2⟩:=own hLL e2
  have hF:∀i,((parts smp es es.length).take i).flatten.length≤40:=fun i=>by
    have q1:=flat_take (l:=parts smp es es.length) i
    rw [parts_flat,List.take_length] at q1
    have q2:(es.filter smp).length≤es.length:=List.length_filter_le ..
    walk_at "o"
  refine ⟨TT,rfl,⟨_,SqL.of hLL.at_⟩,for_list (xs:=lrefs ls) (fun i σ H4=>∃(zs:List (List (List En)×List Addr×List Addr)) (v5 v6:Option V),σ=[some (.ref l),some (.ref pb),some (.ref X),some (.ref Z),v5,v6]∧Same H H4∧LL H2 H4 TT ls∧H4 X=some (.lst ((telOf zs).map V.ref))∧H4 Z=some (.lst ((papOf zs).map V.ref))∧(telOf zs).length≤((parts smp es es.length).take i).flatten.length∧(papOf zs).length≤((parts smp es es.length).take i).flatten.length∧ApRuns H4 β 6000 ((parts smp es es.length).take i) zs) ?_ ?_ ?_ ?_⟩
  · exact ⟨[],none,none,rfl,s02.trans s3,hLL,(s2.trans s3) _ _ e1,s3 _ _ e2,Nat.le_refl _,Nat.le_refl _,trivial⟩
  · rintro i σ H4 _ ⟨zs,v5,v6,rfl,s4,hL4,_⟩
    exact SqL.of hL4.at_
  · rintro i x σ H4 hx ⟨zs,v5,v6,rfl,s4,hL4,eX,eZ,hz1,hz2,hAp⟩
    refine body_cut fun M B RR hM _ _=>?_
    obtain ⟨x,gx,rfl⟩:=lrefs_at hx
    have hi:i<ls.length:=(List.getElem?_eq_some_iff.mp gx).1
    have hmx:=List.mem_of_getElem? gx
    have hp:(parts smp es es.length)[i]?=some x.2:=by rw [← hls,List.getElem?_map,gx];rfl
    obtain ⟨o1,o2,o3⟩:=parts_own es.length x.2 (List.mem_of_getElem? hp)
    rw [List.take_length] at o3
    obtain ⟨_,ex,_⟩:=hL4.each x hmx
    have hx1:1≤x.2.length:=List.length_pos_iff.mpr o1
    have hx40:x.2.length≤40:=Nat.le_trans o3.length_le h40
    have hRx:Row H4 x.2 n:=fun z hz=>hR.up s4 z (o3.subset hz)
    have hrx:rising x.2:=hri.sublist o3
    have eX0:=eX
    have eZ0:=eZ
    walk_at "v"
    refine ⟨x.1,pb,x.2,β,n,nb,rfl,ex,hRx,o2,hrx,hb.up s4,hβ,by walk_at "o",hnb,hx40,fun PT ls' H5 s5 hLL' hC hl5=>?_⟩
    generalize hqs:ls'.map (·.2)=qs at *
    have hql:qs.length=ls'.length:=by rw [← hqs,List.length_map]
    have hq1:1≤qs.length:=by
      obtain ⟨pos,p0,pn,_⟩:=hC
      rcases Nat.eq_zero_or_pos qs.length with z | z
      · rw [z,p0] at pn;walk_at "o"
      · exact z
    have gq:∀{c:Nat} {y:Addr×List En},ls'[c]?=some y→qs[c]?=some y.2:=fun {c y} g=>by rw [← hqs,List.getElem?_map,g];rfl
    have hmul:∀{c:Nat},c≤41→c*n+n≤7000:=fun {c} hc=>by
      have:=Nat.mul_le_mul hc hn
      walk_at "o"
    walk_at "v"
    refine ⟨.inl ⟨rfl,_,SqL.of (s5 _ _ eX)⟩,?_⟩
    walk_at "v"
    refine r_iL ?_
    walk_at "v"
    refine ⟨PT,rfl,⟨_,SqL.of hLL'.at_⟩,?_⟩
    refine compB_of (xs:=lrefs ls') tells_list (fun H6 s6=>SqL.of (s6 _ _ hLL'.at_)) (by rw [lrefs_len];walk_at "o") (fun c ys G=>∃ps:List Addr,ys=ps.map V.ref∧ps.length=c∧∀(d:Nat) (q:List En) (p:Addr),qs[d]?=some q→ps[d]?=some p→BpAt G p q 6000) ⟨[],rfl,rfl,fun d q p _ h=>by simp at h⟩ ?_ ?_
    · rintro D c v ys H6 σ0 NN N0 h0 hD eD s6 hv hy ⟨ps,rfl,hpl,hps⟩ kY kN
      obtain ⟨y,gy,rfl⟩:=lrefs_at hv
      obtain ⟨_,ey,_⟩:=(hLL'.up s6).each y (List.mem_of_getElem? gy)
      obtain ⟨l1,l2⟩:=hC.qlen (gq gy)
      obtain ⟨u1,u2⟩:=hC.sub (gq gy)
      refine r_own1 h0 ?_
      walk_at "v"
      refine iteT ?_
      walk_at "v"
      refine ⟨y.1,y.2,n,rfl,ey,fun z hz=>(hRx.up (s5.trans s6)) z (u1.subset hz),fun z hz=>o2 z (u1.subset hz),hrx.sublist u1,hn1,by walk_at "o",hmul (by walk_at "o"),l1,by walk_at "o",fun p H7 s7 f7=>?_⟩
      refine kY _ H7 s7 ⟨ps++[p],by simp,by simp [hpl],fun d q p' hd hp'=>?_⟩
      by_cases hdc:d<ps.length
      · rw [List.getElem?_append_left hdc] at hp'
        exact (hps d q p' hd hp').mv fun {b xs} z=>(rm_rm s7) _ _ z
      · rw [List.getElem?_append_right (by walk_at "o")] at hp'
        have hd0:d-ps.length=0:=by
          have:=(List.getElem?_eq_some_iff.mp hp').1
          simp at this
          walk_at "o"
        rw [hd0] at hp'
        obtain rfl:p=p':=by simpa using hp'
        have hdc':d=c:=by walk_at "o"
        subst hdc'
        cases (gq gy).symm.trans hd
        exact f7.mv fun {b xs} z=>rm_tup (s7 _ _ eD) z
    · rintro D ys H6 hD eD s6 hy ⟨ps,rfl,hpl,hps⟩
      rw [lrefs_len] at hpl
      have s46:=s5.trans s6
      have eX6:=s46 _ _ eX
      have eZ6:=s46 _ _ eZ
      have hps6:∀(d:Nat) (q:List En) (p:Addr),qs[d]?=some q→ps[d]?=some p→BpAt H6 p q 6000:=fun d q p hd hp'=>(hps d q p hd hp').mv fun {b xs} z=>rm_same _ _ z
      walk_at "v"
      refine r_ext eX6 eD (by rw [List.length_map,List.length_map];exact Nat.le_of_lt (small1000 (by have:=hF i;walk_at "o"))) ?_
      generalize hH7:upd H6 X (.lst ((telOf zs).map V.ref++ps.map V.ref))=H7
      have tup7:∀{b:Addr} {xs:List V},H6 b=some (.tup xs)→H7 b=some (.tup xs):=fun {b xs} e=>by
        rw [← hH7]
        exact rm_up X H6 _ _ _ (rm_tup eX6 e)
      have lst7:∀{b:Addr} {o:HO},H6 b=some o→b≠X→H7 b=some o:=fun {b o} e ne=>by
        rw [← hH7]
        exact lst_app e ne
      have eX7:H7 X=some (.lst ((telOf zs++ps).map V.ref)):=by rw [← hH7,upd_same,List.map_append]
      have eZ7:=lst7 eZ6 (Ne.symm nXZ)
      have nPX:PT≠X:=fun z=>by rw [z] at hLL';have:=hLL'.new;rw [eX] at this;cases this
      have nlX:∀y∈ls',y.1≠X:=fun y hy z=>by have:=(hLL'.each y hy).1;rw [z,eX] at this;cases this
      have hLL7:LL H4 H7 PT ls':=by rw [← hH7];exact (hLL'.up s6).other (Ne.symm nPX) nlX
      have hR7:Row H7 x.2 n:=by rw [← hH7];exact (hRx.up s46).app eX6
      have s07:Same H H7:=by rw [← hH7];exact same_at (s4.trans s46) n1
      walk_at "v"
      refine ⟨.inl ⟨rfl,_,SqL.of eZ7⟩,?_⟩
      walk_at "v"
      refine r_zip ?_
      walk_at "v"
      refine ⟨_,rfl,1,rfl,PT,_,rfl,SqL.of hLL7.at_,fun P1 nP1=>?_⟩
      rw [cut1]
      have s8:Same H7 (upd H7 P1 (.lst ((lrefs ls').drop 1))):=same_at (Same.refl _) nP1
      have e8:upd H7 P1 (.lst ((lrefs ls').drop 1)) P1=some (.lst ((lrefs ls').drop 1)):=upd_same
      generalize upd H7 P1 (.lst ((lrefs ls').drop 1))=H8 at *
      walk_at "v"
      refine ⟨PT,P1,_,_,rfl,SqL.of (s8 _ _ hLL7.at_),SqL.of e8,?_⟩
      refine compB_zip (N0':=ls'.length-1) (by rw [lrefs_len];walk_at "o") (by rw [List.length_drop,lrefs_len];walk_at "o") (.inr (by rw [List.length_drop,lrefs_len];walk_at "o")) (fun H9 s9=>⟨SqL.of ((s8.trans s9) _ _ hLL7.at_),SqL.of (s9 _ _ e8)⟩) (by walk_at "o") (fun c ys G=>∃ts:List Addr,ys=ts.map V.ref∧ts.length=c∧∀(d:Nat) (q q':List En) (y:En) (t:Addr),qs[d]?=some q→qs[d+1]?=some q'→q'[0]?=some y→ts[d]?=some t→ThAt G t (q++[y]) β) ⟨[],rfl,rfl,fun d q q' y t _ _ _ h=>by simp at h⟩ ?_ ?_
      · rintro D' c v v' ys H9 H10 pp σ0 NN N0 h0 hD' eD' s9 s10 epp hc hv hv' hy ⟨ts,rfl,htl,hts⟩ kY kN
        obtain ⟨y,gy,rfl⟩:=lrefs_at hv
        rw [List.getElem?_drop,Nat.add_comm] at hv'
        obtain ⟨y',gy',rfl⟩:=lrefs_at hv'
        have s810:=s8.trans (s9.trans s10)
        obtain ⟨_,ey,_⟩:=(hLL7.up s810).each y (List.mem_of_getElem? gy)
        obtain ⟨_,ey',_⟩:=(hLL7.up s810).each y' (List.mem_of_getElem? gy')
        obtain ⟨l1,l2⟩:=hC.qlen (gq gy)
        obtain ⟨u1,u2⟩:=hC.sub (gq gy)
        obtain ⟨z,gz,w1,w2⟩:=hC.next (gq gy) (gq gy')
        have hRs:=hR7.up s810
        have hzm:z∈x.2:=w1.subset (by simp)
        have ez:z=(z.1,z.2.1,some (z.2.2.getD 0)):=by
          have:=o2 z hzm
          obtain ⟨za,zm,zv⟩:=z
          cases zv with
          | none=>cases this
          | some q=>rfl
        have hz:=hRs z hzm
        rw [ez] at w1 w2 hz
        have hlen2:y.2.length+1≤40:=by
          have:=w1.length_le
          simp at this
          walk_at "o"
        refine r_own2 h0 epp ?_
        walk_at "v"
        refine iteT ?_
        walk_at "v"
        refine r_l ey' (at_val gz rfl) ?_
        walk_at "v"
        refine ⟨y.1,z.1,y.2,_,_,β,n,rfl,ey,fun u hu=>hRs u (u1.subset hu),hz.sa,fun u hu=>o2 u (u1.subset hu),hrx.sublist w1,hn1,by walk_at "o",hmul (by walk_at "o"),by walk_at "o",hβ,u2,w2,fun t H11 s11 f11=>?_⟩
        rw [← ez] at f11
        have s911:=s10.trans s11
        refine kY _ H11 s11 ⟨ts++[t],by simp,by simp [htl],fun d q q' y0 t' hd hd' hy0 ht'=>?_⟩
        by_cases hdc:d<ts.length
        · rw [List.getElem?_append_left hdc] at ht'
          exact (hts d q q' y0 t' hd hd' hy0 ht').mv fun {b xs} z=>(rm_rm s911) _ _ z
        · rw [List.getElem?_append_right (by walk_at "o")] at ht'
          have hd0:d-ts.length=0:=by
            have:=(List.getElem?_eq_some_iff.mp ht').1
            simp at this
            walk_at "o"
          rw [hd0] at ht'
          obtain rfl:t=t':=by simpa using ht'
          have hdc':d=c:=by walk_at "o"
          subst hdc'
          cases (gq gy).symm.trans hd
          cases (gq gy').symm.trans hd'
          cases gz.symm.trans hy0
          exact f11.mv fun {b xs} z=>rm_tup (s911 _ _ eD') z
      · rintro D' ys H9 hD' eD' s9 hy ⟨ts,rfl,htl,hts⟩
        have s79:=s8.trans s9
        have eX9:=s79 _ _ eX7
        have eZ9:=s79 _ _ eZ7
        walk_at "v"
        refine r_ext eZ9 eD' (by rw [List.length_map,List.length_map];exact Nat.le_of_lt (small1000 (by have:=hF i;walk_at "o"))) ?_
        have hflat:((parts smp es es.length).take (i+1)).flatten.length=((parts smp es es.length).take i).flatten.length+x.2.length:=by
          rw [List.take_add_one,hp,List.flatten_append,List.length_append]
          simp
        have hcl:=hC.len
        refine hM _ _ ⟨zs++[(qs,ps,ts)],_,_,rfl,same_at (s07.trans s79) (s1.free n2),?_,?_,?_,?_,?_,?_⟩
        · have h6:LL H2 H7 TT ls:=by rw [← hH7];exact (hL4.up s46).other a1 a2
          exact (h6.up s79).other b1 b2
        · rw [upd_ne nXZ,eX9]
          simp [telOf]
        · rw [upd_same]
          simp [papOf]
        · have e:telOf (zs++[(qs,ps,ts)])=telOf zs++ps:=by simp [telOf]
          rw [hflat,e,List.length_append]
          walk_at "o"
        · have e:papOf (zs++[(qs,ps,ts)])=papOf zs++ts:=by simp [papOf]
          rw [hflat,e,List.length_append]
          walk_at "o"
        · have mvZ:∀{b:Addr} {xs:List V},H9 b=some (.tup xs)→upd H9 Z (.lst ((papOf zs).map V.ref++ts.map V.ref)) b=some (.tup xs):=fun {b xs} e=>rm_up Z H9 _ _ _ (rm_tup eZ9 e)
          rw [List.take_add_one,hp]
          refine each2_snoc (hAp.mv fun {b xs} e=>mvZ (s79 _ _ (tup7 (s46 _ _ e)))) ?_
          refine ⟨hC,by rw [hpl,hql],by show ts.length+1=qs.length;walk_at "o",fun d q p hd hp'=>(hps6 d q p hd hp').mv fun {b xs} e=>mvZ (s79 _ _ (tup7 e)),fun d q q' y t hd hd' hy0 ht'=>(hts d q q' y t hd hd' hy0 ht').mv fun {b xs} e=>mvZ (rm_same _ _ e)⟩
  · rintro σ H4 ⟨zs,v5,v6,rfl,s4,hL4,eX,eZ,hz1,hz2,hAp⟩
    rw [lrefs_len,hll,List.take_length] at hAp
    walk_at "v"
    refine r_new (mk:=.tup) (by simp) fun y H5 s5 n5 e5=>?_
    exact k y X Z zs H5 (s4.trans s5) e5 n1 (s1.free n2) nXZ (s5 _ _ eX) (s5 _ _ eZ) (hAp.mv fun {b xs} e=>s5 _ _ e)
end

noncomputable def LoP (ss:List En) (B:Rat) (fl ro:Nat) (G:Rat):Prop:=∀q p,ro≤q→q<p→fl≤p→p<ss.length→lowS ss B q p≤G
noncomputable def HiP (ss:List En) (B:Rat) (fl ro:Nat) (S:Rat):Prop:=∀q p,fl≤q→q<p→ro≤p→p<ss.length→S≤highS ss B q p
noncomputable def GF (ss:List En) (B:Rat) (fl ro:Nat) (G:Rat):Prop:=LoP ss B fl ro G∧∃q p,ro≤q∧q<p∧fl≤p∧p<ss.length∧lowS ss B q p=G
noncomputable def SF (ss:List En) (B:Rat) (fl ro:Nat) (S:Rat):Prop:=HiP ss B fl ro S∧∃q p,fl≤q∧q<p∧ro≤p∧p<ss.length∧highS ss B q p=S
noncomputable def lev (ss:List En) (T:Rat) (i:Nat):Rat:=wo ss i-T*(mo ss i:Rat)
theorem rle_eq {a b:Rat} (h:a=b):a≤b:=h▸Rat.le_refl
section
variable {ss:List En} {B G S T β:Rat} {fl ro i j a b:Nat} {x:Addr} {m:Int} {q:Rat}
theorem mo_pos (h:rising ss) (hij:i<j) (hj:j<ss.length):(0:Rat)<(mo ss j:Rat)-(mo ss i:Rat):=by
  have:=Rat.intCast_lt_intCast.mpr (mo_lt h hij hj)
  grind
theorem low_lev (h:rising ss) (hij:i<j) (hj:j<ss.length):lowS ss B i j≤G↔lev ss G j≤lev ss G i+B:=by
  unfold lowS lev
  rw [rdiv_le (mo_pos h hij hj)]
  constructor
  · intro _;grind
  · intro _;grind
theorem lev_low (h:rising ss) (hij:i<j) (hj:j<ss.length):G≤lowS ss B i j↔lev ss G i+B≤lev ss G j:=by
  unfold lowS lev
  rw [rle_div (mo_pos h hij hj)]
  constructor
  · intro _;grind
  · intro _;grind
theorem high_lev (h:rising ss) (hij:i<j) (hj:j<ss.length):S≤highS ss B i j↔lev ss S i≤lev ss S j+B:=by
  unfold highS lev
  rw [rle_div (mo_pos h hij hj)]
  constructor
  · intro _;grind
  · intro _;grind
theorem lev_high (h:rising ss) (hij:i<j) (hj:j<ss.length):highS ss B i j≤S↔lev ss S j+B≤lev ss S i:=by
  unfold highS lev
  rw [rdiv_le (mo_pos h hij hj)]
  constructor
  · intro _;grind
  · intro _;grind
theorem low_is (h:rising ss) (hij:i<j) (hj:j<ss.length):lowS ss B i j=G↔lev ss G j=lev ss G i+B:=
  ⟨fun e=>Rat.le_antisymm ((low_lev h hij hj).mp (rle_eq e)) ((lev_low h hij hj).mp (rle_eq e.symm)),fun e=>Rat.le_antisymm ((low_lev h hij hj).mpr (rle_eq e)) ((lev_low h hij hj).mpr (rle_eq e.symm))⟩
theorem high_is (h:rising ss) (hij:i<j) (hj:j<ss.length):highS ss B i j=S↔lev ss S i=lev ss S j+B:=
  ⟨fun e=>Rat.le_antisymm ((high_lev h hij hj).mp (rle_eq e.symm)) ((lev_high h hij hj).mp (rle_eq e)),fun e=>Rat.le_antisymm ((lev_high h hij hj).mpr (rle_eq e.symm)) ((high_lev h hij hj).mpr (rle_eq e))⟩
theorem LoP.mono (h:LoP ss B fl ro G) (g:G≤T):LoP ss B fl ro T:=fun q p a1 a2 a3 a4=>Rat.le_trans (h q p a1 a2 a3 a4) g
theorem HiP.mono (h:HiP ss B fl ro S) (g:T≤S):HiP ss B fl ro T:=fun q p a1 a2 a3 a4=>Rat.le_trans g (h q p a1 a2 a3 a4)
theorem bear (hB:0≤B) (hr:rising ss) (hL:LoP ss B fl ro T) (hH:HiP ss B fl ro T) (ha:ro≤a) (hb:fl≤b) (la:a<ss.length) (lb:b<ss.length):lev ss T b≤lev ss T a+B:=by
  rcases Nat.lt_trichotomy a b with z | z | z
  · exact (low_lev hr z lb).mp (hL a b ha z hb lb)
  · subst z;grind
  · exact (high_lev hr z la).mp (hH b a hb z ha la)
theorem lev_left {ys:List En} (hi:i<ss.length):lev (ss++ys) T i=lev ss T i:=by
  unfold lev
  rw [mo_left hi,wo_left hi]
theorem lev_last:lev (ss++[(x,m,some q)]) T ss.length=q-T*(m:Rat):=by
  unfold lev
  rw [mo_last,wo_last]
theorem mo_drop:mo (ss.drop j) i=mo ss (j+i):=by unfold mo;rw [List.getElem?_drop]
theorem wo_drop:wo (ss.drop j) i=wo ss (j+i):=by unfold wo;rw [List.getElem?_drop]
theorem drop_rising (h:rising ss):rising (ss.drop j):=h.sublist (List.drop_sublist ..)
theorem lev_drop:lev (ss.drop j) T i=lev ss T (j+i):=by unfold lev;rw [mo_drop,wo_drop]
theorem toNew_drop:toNew (ss.drop j) B m q i=toNew ss B m q (j+i):=by unfold toNew;rw [mo_drop,wo_drop]
theorem gf_new {g:Option Rat} (h1:∀G0,g=some G0→GF ss B fl ro G0∧G0≤G) (hN:g=none→∀q p,ro≤q→q<p→fl≤p→¬p<ss.length) (hfl:fl≤ss.length) (hall:∀i,i<(ss.drop ro).length→toNew (ss.drop ro) (-B) m q i≤G) (hex:(∃i,i<(ss.drop ro).length∧toNew (ss.drop ro) (-B) m q i=G)∨g=some G):GF (ss++[(x,m,some q)]) B fl ro G:=by
  have ld:(ss.drop ro).length=ss.length-ro:=List.length_drop ..
  rw [ld] at hall hex
  refine ⟨fun i j hi hij hkj hj=>?_,?_⟩
  · rw [List.length_append] at hj
    have hj':j<ss.length+1:=hj
    by_cases e:j=ss.length
    · subst e
      rw [low_new hij]
      have:=hall (i-ro) (by omega)
      rw [toNew_drop,show ro+(i-ro)=i by omega] at this
      exact this
    · rw [low_left hij (by omega)]
      cases hg:g with
      | none=>exact absurd (show j<ss.length by omega) (hN hg i j hi hij hkj)
      | some G0=>
        obtain ⟨g1,le⟩:=h1 G0 hg
        exact Rat.le_trans (g1.1 i j hi hij hkj (by omega)) le
  · rcases hex with ⟨i,hi,e⟩ | e
    · refine ⟨ro+i,ss.length,by omega,by omega,hfl,by rw [List.length_append];show _<ss.length+1;omega,?_⟩
      rw [low_new (by omega),← toNew_drop]
      exact e
    · obtain ⟨i,j,a0,a1,a2,a3,a4⟩:=(h1 G e).1.2
      exact ⟨i,j,a0,a1,a2,by rw [List.length_append];show _<ss.length+1;omega,by rw [low_left a1 a3];exact a4⟩
theorem sf_new {s:Option Rat} (h1:∀S0,s=some S0→SF ss B fl ro S0∧S≤S0) (hN:s=none→∀q p,fl≤q→q<p→ro≤p→¬p<ss.length) (hro:ro≤ss.length) (hall:∀i,i<(ss.drop fl).length→S≤toNew (ss.drop fl) B m q i) (hex:(∃i,i<(ss.drop fl).length∧toNew (ss.drop fl) B m q i=S)∨s=some S):SF (ss++[(x,m,some q)]) B fl ro S:=by
  have ld:(ss.drop fl).length=ss.length-fl:=List.length_drop ..
  rw [ld] at hall hex
  refine ⟨fun i j hi hij hkj hj=>?_,?_⟩
  · rw [List.length_append] at hj
    have hj':j<ss.length+1:=hj
    by_cases e:j=ss.length
    · subst e
      rw [high_new hij]
      have:=hall (i-fl) (by omega)
      rw [toNew_drop,show fl+(i-fl)=i by omega] at this
      exact this
    · rw [high_left hij (by omega)]
      cases hg:s with
      | none=>exact absurd (show j<ss.length by omega) (hN hg i j hi hij hkj)
      | some S0=>
        obtain ⟨g1,le⟩:=h1 S0 hg
        exact Rat.le_trans le (g1.1 i j hi hij hkj (by omega))
  · rcases hex with ⟨i,hi,e⟩ | e
    · refine ⟨fl+i,ss.length,by omega,by omega,hro,by rw [List.length_append];show _<ss.length+1;omega,?_⟩
      rw [high_new (by omega),← toNew_drop]
      exact e
    · obtain ⟨i,j,a0,a1,a2,a3,a4⟩:=(h1 S e).1.2
      exact ⟨i,j,a0,a1,a2,by rw [List.length_append];show _<ss.length+1;omega,by rw [high_left a1 a3];exact a4⟩
theorem len1:(ss++[(x,m,some q)]).length=ss.length+1:=by simp
theorem cap_iff (hr:rising (ss++[(x,m,some q)])) (s:SF (ss++[(x,m,some q)]) B fl ro S) (hG:HiP ss B fl ro G) (hro:ro≤ss.length):S<G↔∃i,fl≤i∧i<ss.length∧q-G*(m:Rat)+B<lev ss G i:=by
  constructor
  · intro h
    obtain ⟨i,j,a0,a1,a2,a3,a4⟩:=s.2
    rw [len1] at a3
    by_cases e:j=ss.length
    · subst e
      refine ⟨i,a0,a1,Rat.not_le.mp fun z=>?_⟩
      have:=(high_lev (B:=B) (S:=G) hr a1 (by rw [len1];omega)).mpr (by rw [lev_last,lev_left a1];exact z)
      rw [a4] at this
      exact absurd h (Rat.not_lt.mpr this)
    · have:=hG i j a0 a1 a2 (by omega)
      rw [high_left a1 (by omega)] at a4
      rw [a4] at this
      exact absurd h (Rat.not_lt.mpr this)
  · rintro ⟨i,a0,a1,h⟩
    refine Rat.not_le.mp fun z=>?_
    have:=s.1 i ss.length a0 a1 hro (by rw [len1];omega)
    have:=(high_lev hr a1 (by rw [len1];omega)).mp (Rat.le_trans z this)
    rw [lev_last,lev_left a1] at this
    exact absurd h (Rat.not_lt.mpr this)
theorem cup_iff (hr:rising (ss++[(x,m,some q)])) (g:GF (ss++[(x,m,some q)]) B fl ro G) (hS:LoP ss B fl ro S) (hfl:fl≤ss.length):S<G↔∃i,ro≤i∧i<ss.length∧lev ss S i+B<q-S*(m:Rat):=by
  constructor
  · intro h
    obtain ⟨i,j,a0,a1,a2,a3,a4⟩:=g.2
    rw [len1] at a3
    by_cases e:j=ss.length
    · subst e
      refine ⟨i,a0,a1,Rat.not_le.mp fun z=>?_⟩
      have:=(low_lev (B:=B) (G:=S) hr a1 (by rw [len1];omega)).mpr (by rw [lev_last,lev_left a1];exact z)
      rw [a4] at this
      exact absurd h (Rat.not_lt.mpr this)
    · have:=hS i j a0 a1 a2 (by omega)
      rw [low_left a1 (by omega)] at a4
      rw [a4] at this
      exact absurd h (Rat.not_lt.mpr this)
  · rintro ⟨i,a0,a1,h⟩
    refine Rat.not_le.mp fun z=>?_
    have:=g.1 i ss.length a0 a1 hfl (by rw [len1];omega)
    have:=(low_lev hr a1 (by rw [len1];omega)).mp (Rat.le_trans this z)
    rw [lev_last,lev_left a1] at this
    exact absurd h (Rat.not_lt.mpr this)
theorem cross_up {va ma vb mb v m B G S:Rat} (hB:0≤B) (hb:mb<m) (ea:v-G*m=va-G*ma+B) (eb:vb-S*mb=v-S*m+B) (h:vb-G*mb≤va-G*ma+B):G≤S:=by
  refine Rat.not_lt.mp fun hlt=>?_
  have p:(0:Rat)<m-mb:=by grind
  have:=Rat.mul_lt_mul_of_pos_right hlt p
  grind
theorem cross_down {va ma vb mb v m B G S:Rat} (hB:0≤B) (ha:ma<m) (ea:v-G*m=va-G*ma+B) (eb:vb-S*mb=v-S*m+B) (h:vb-S*mb≤va-S*ma+B):G≤S:=by
  refine Rat.not_lt.mp fun hlt=>?_
  have p:(0:Rat)<m-ma:=by grind
  have:=Rat.mul_lt_mul_of_pos_right hlt p
  grind
theorem both_le (hB:0≤B) (hr:rising (ss++[(x,m,some q)])) (g:GF (ss++[(x,m,some q)]) B fl ro G) (s:SF (ss++[(x,m,some q)]) B fl ro S)
    (h1:∀i j,ro≤i→i<j→fl≤j→j<ss.length→lowS ss B i j≤S) (h2:∀i j,fl≤i→i<j→ro≤j→j<ss.length→G≤highS ss B i j):G≤S:=by
  obtain ⟨i,j,a0,a1,a2,a3,a4⟩:=g.2
  obtain ⟨k,l,b0,b1,b2,b3,b4⟩:=s.2
  rw [len1] at a3 b3
  by_cases e:j=ss.length
  · by_cases e':l=ss.length
    · subst e
      subst e'
      have ea:=(low_is hr a1 (by rw [len1];omega)).mp a4
      have eb:=(high_is hr b1 (by rw [len1];omega)).mp b4
      have mi:=mo_pos hr a1 (by rw [len1];omega)
      have mk:=mo_pos hr b1 (by rw [len1];omega)
      unfold lev at ea eb
      rcases Nat.lt_trichotomy i k with z | z | z
      · have:=(low_lev hr z (by rw [len1];omega)).mp (g.1 i k a0 z (by omega) (by rw [len1];omega))
        unfold lev at this
        exact cross_up hB (by grind) ea eb this
      · subst z
        exact cross_up hB (by grind) ea eb (by grind)
      · have:=(high_lev hr z (by rw [len1];omega)).mp (s.1 k i b0 z (by omega) (by rw [len1];omega))
        unfold lev at this
        exact cross_down hB (by grind) ea eb this
    · rw [high_left b1 (by omega)] at b4
      rw [← b4]
      exact h2 k l b0 b1 b2 (by omega)
  · rw [low_left a1 (by omega)] at a4
    rw [← a4]
    exact h1 i j a0 a1 a2 (by omega)
end
structure CapAt (ss:List En) (β:Rat) (fl ro:Nat) (m:Int) (q G f:Rat) (a b:Nat):Prop where
  gf:GF ss (2*β) fl ro G
  off:∃i,fl≤i∧i<ss.length∧q-G*(m:Rat)+2*β<lev ss G i
  lo:∀i,fl≤i→i<ss.length→lev ss G i-β≤f
  hi:∀i,ro≤i→i<ss.length→f≤lev ss G i+β
  ha:ro≤a
  ea:lev ss G a+β=f
  hb:fl≤b
  lb:b<ss.length
  eb:lev ss G b-β=f
  fb:∀i,b<i→i<ss.length→lev ss G i-β≠f
  hab:a<b
structure CupAt (ss:List En) (β:Rat) (fl ro:Nat) (m:Int) (q S f:Rat) (a b:Nat):Prop where
  sf:SF ss (2*β) fl ro S
  off:∃i,ro≤i∧i<ss.length∧lev ss S i+2*β<q-S*(m:Rat)
  lo:∀i,fl≤i→i<ss.length→lev ss S i-β≤f
  hi:∀i,ro≤i→i<ss.length→f≤lev ss S i+β
  ha:fl≤a
  ea:lev ss S a-β=f
  hb:ro≤b
  lb:b<ss.length
  eb:lev ss S b+β=f
  fb:∀i,b<i→i<ss.length→lev ss S i+β≠f
  hab:a<b
theorem first_of {α:Type} (P:α→Bool):∀(l:List α),(∃x∈l,P x=true)→∃(a:Nat) (x:α),l[a]?=some x∧P x=true∧(l.filter P)[0]?=some x∧∀(i:Nat) y,i<a→l[i]?=some y→P y=false
  | [],h=>by obtain ⟨x,hx,_⟩:=h;cases hx
  | y::r,h=>by
    by_cases hy:P y=true
    · exact ⟨0,y,rfl,hy,by rw [List.filter_cons_of_pos hy];rfl,fun i _ hi=>absurd hi (Nat.not_lt_zero _)⟩
    · obtain ⟨x,hx,px⟩:=h
      have hr:x∈r:=by
        rcases List.mem_cons.mp hx with e | e
        · rw [e] at px;exact absurd px hy
        · exact e
      obtain ⟨a,z,g,pz,e0,hn⟩:=first_of P r ⟨x,hr,px⟩
      refine ⟨a+1,z,g,pz,by rw [List.filter_cons_of_neg hy];exact e0,fun i u hi gu=>?_⟩
      cases i with
      | zero=>cases gu;exact Bool.eq_false_iff.mpr hy
      | succ i=>exact hn i u (by omega) gu
theorem last_of {α:Type} (P:α→Bool):∀(l:List α),(∃x∈l,P x=true)→∃(b:Nat) (x:α),l[b]?=some x∧P x=true∧(l.filter P)[(l.filter P).length-1]?=some x∧∀(i:Nat) y,b<i→l[i]?=some y→P y=false
  | [],h=>by obtain ⟨x,hx,_⟩:=h;cases hx
  | y::r,h=>by
    by_cases hr:∃x∈r,P x=true
    · obtain ⟨b,z,g,pz,e0,hn⟩:=last_of P r hr
      refine ⟨b+1,z,g,pz,?_,fun i u hi gu=>?_⟩
      · by_cases hy:P y=true
        · rw [List.filter_cons_of_pos hy]
          have hl:0<(r.filter P).length:=by
            cases e:r.filter P with
            | nil=>rw [e] at e0;cases e0
            | cons c d=>exact Nat.succ_pos _
          show (y::r.filter P)[(r.filter P).length+1-1]?=some z
          rw [show (r.filter P).length+1-1=((r.filter P).length-1)+1 by omega,List.getElem?_cons_succ]
          exact e0
        · rw [List.filter_cons_of_neg hy];exact e0
      · cases i with
        | zero=>omega
        | succ i=>exact hn i u (by omega) gu
    · have hy:P y=true:=by
        obtain ⟨x,hx,px⟩:=h
        rcases List.mem_cons.mp hx with e | e
        · rw [e] at px;exact px
        · exact absurd ⟨x,e,px⟩ hr
      have e0:r.filter P=[]:=List.filter_eq_nil_iff.mpr fun x hx px=>hr ⟨x,hx,px⟩
      refine ⟨0,y,rfl,hy,by rw [List.filter_cons_of_pos hy,e0];rfl,fun i u hi gu=>?_⟩
      cases i with
      | zero=>omega
      | succ i=>exact Bool.eq_false_iff.mpr fun z=>hr ⟨u,List.mem_of_getElem? gu,z⟩
theorem drop_of {es:List En} (h:rising es) {k:Nat} {x:En} (hk:es[k]?=some x):es.filter (fun y=>decide (x.2.1≤y.2.1))=es.drop k:=by
  have hl:k<es.length:=(List.getElem?_eq_some_iff.mp hk).1
  have mk:∀i y,es[i]?=some y→(k≤i↔x.2.1≤y.2.1):=fun i y hy=>by
    have hi:i<es.length:=(List.getElem?_eq_some_iff.mp hy).1
    have e1:mo es k=x.2.1:=by unfold mo;rw [hk];rfl
    have e2:mo es i=y.2.1:=by unfold mo;rw [hy];rfl
    rcases Nat.lt_trichotomy i k with z | z | z
    · have:=mo_lt h z hl;omega
    · subst z;omega
    · have:=mo_lt h z hi;omega
  conv=>lhs;rw [← List.take_append_drop k es]
  rw [List.filter_append]
  have h1:(es.take k).filter (fun y=>decide (x.2.1≤y.2.1))=[]:=List.filter_eq_nil_iff.mpr fun y hy=>by
    obtain ⟨i,hi⟩:=List.getElem?_of_mem hy
    rw [List.getElem?_take] at hi
    split at hi
    · have:=mk i y hi
      rw [decide_eq_true_iff]
      omega
    · cases hi
  have h2:(es.drop k).filter (fun y=>decide (x.2.1≤y.2.1))=es.drop k:=List.filter_eq_self.mpr fun y hy=>by
    obtain ⟨i,hi⟩:=List.getElem?_of_mem hy
    rw [List.getElem?_drop] at hi
    exact decide_eq_true ((mk _ y hi).mp (Nat.le_add_right _ _))
  rw [h1,h2]
  rfl

structure Fb (fs:List (Str×V)) (bd tw bl ab:Addr) (g s:V):Prop where
  len:fs.length≤10
  bd:fs.lookup ("bound":Str)=some (.ref bd)
  tw:fs.lookup ("twice":Str)=some (.ref tw)
  bl:fs.lookup ("below":Str)=some (.ref bl)
  ab:fs.lookup ("above":Str)=some (.ref ab)
  g:fs.lookup ("gentlest":Str)=some g
  s:fs.lookup ("steepest":Str)=some s
  no:∀m:Str,m ≠ "bound"→m ≠ "twice"→m ≠ "below"→m ≠ "above"→m ≠ "gentlest"→m ≠ "steepest"→fs.lookup m=none
theorem Fb.init (bd tw bl ab:Addr) (g s:V):Fb (putF "steepest" s (putF "gentlest" g (putF "above" (.ref ab) (putF "below" (.ref bl) (putF "twice" (.ref tw) (putF "bound" (.ref bd) [])))))) bd tw bl ab g s:=by
  have n_bd_tw:¬(("bound":Str) = "twice"):=by decide +kernel
  have n_bd_bl:¬(("bound":Str) = "below"):=by decide +kernel
  have n_bd_ab:¬(("bound":Str) = "above"):=by decide +kernel
  have n_bd_g:¬(("bound":Str) = "gentlest"):=by decide +kernel
  have n_bd_s:¬(("bound":Str) = "steepest"):=by decide +kernel
  have n_tw_bl:¬(("twice":Str) = "below"):=by decide +kernel
  have n_tw_ab:¬(("twice":Str) = "above"):=by decide +kernel
  have n_tw_g:¬(("twice":Str) = "gentlest"):=by decide +kernel
  have n_tw_s:¬(("twice":Str) = "steepest"):=by decide +kernel
  have n_bl_ab:¬(("below":Str) = "above"):=by decide +kernel
  have n_bl_g:¬(("below":Str) = "gentlest"):=by decide +kernel
  have n_bl_s:¬(("below":Str) = "steepest"):=by decide +kernel
  have n_ab_g:¬(("above":Str) = "gentlest"):=by decide +kernel
  have n_ab_s:¬(("above":Str) = "steepest"):=by decide +kernel
  have n_g_s:¬(("gentlest":Str) = "steepest"):=by decide +kernel
  have l:∀(f:Str) (v:V) (fs:List (Str×V)),(putF f v fs).length≤fs.length+1:=by
    intro f v fs
    induction fs with
    | nil=>exact Nat.le_refl _
    | cons x r ih=>
      obtain ⟨g,y⟩:=x
      unfold putF
      split
      · exact Nat.le_succ _
      · exact Nat.succ_le_succ ih
  refine ⟨?_,?_,?_,?_,?_,?_,?_,fun m m1 m2 m3 m4 m5 m6=>?_⟩
  · have l0:=l "bound" (.ref bd) []
    have l1:=l "twice" (.ref tw) (putF "bound" (.ref bd) [])
    have l2:=l "below" (.ref bl) (putF "twice" (.ref tw) (putF "bound" (.ref bd) []))
    have l3:=l "above" (.ref ab) (putF "below" (.ref bl) (putF "twice" (.ref tw) (putF "bound" (.ref bd) [])))
    have l4:=l "gentlest" g (putF "above" (.ref ab) (putF "below" (.ref bl) (putF "twice" (.ref tw) (putF "bound" (.ref bd) []))))
    have l5:=l "steepest" s (putF "gentlest" g (putF "above" (.ref ab) (putF "below" (.ref bl) (putF "twice" (.ref tw) (putF "bound" (.ref bd) [])))))
    simp only [List.length_nil] at l0
    omega
  · rw [lookup_putF,if_neg n_bd_s,lookup_putF,if_neg n_bd_g,lookup_putF,if_neg n_bd_ab,lookup_putF,if_neg n_bd_bl,lookup_putF,if_neg n_bd_tw,lookup_putF,if_pos rfl]
  · rw [lookup_putF,if_neg n_tw_s,lookup_putF,if_neg n_tw_g,lookup_putF,if_neg n_tw_ab,lookup_putF,if_neg n_tw_bl,lookup_putF,if_pos rfl]
  · rw [lookup_putF,if_neg n_bl_s,lookup_putF,if_neg n_bl_g,lookup_putF,if_neg n_bl_ab,lookup_putF,if_pos rfl]
  · rw [lookup_putF,if_neg n_ab_s,lookup_putF,if_neg n_ab_g,lookup_putF,if_pos rfl]
  · rw [lookup_putF,if_neg n_g_s,lookup_putF,if_pos rfl]
  · rw [lookup_putF,if_pos rfl]
  · rw [lookup_putF,if_neg m6,lookup_putF,if_neg m5,lookup_putF,if_neg m4,lookup_putF,if_neg m3,lookup_putF,if_neg m2,lookup_putF,if_neg m1]
    rfl
theorem Fb.set_bl {fs:List (Str×V)} {bd tw bl ab:Addr} {g s:V} {y:Addr} (h:Fb fs bd tw bl ab g s):Fb (putF "below" (.ref y) fs) bd tw y ab g s:=by
  have n_bd_bl:¬(("bound":Str) = "below"):=by decide +kernel
  have n_tw_bl:¬(("twice":Str) = "below"):=by decide +kernel
  have n_ab_bl:¬(("above":Str) = "below"):=by decide +kernel
  have n_g_bl:¬(("gentlest":Str) = "below"):=by decide +kernel
  have n_s_bl:¬(("steepest":Str) = "below"):=by decide +kernel
  refine ⟨by rw [putF_len h.bl];exact h.len,?_,?_,?_,?_,?_,?_,fun m m1 m2 m3 m4 m5 m6=>?_⟩
  · rw [lookup_putF,if_neg n_bd_bl];exact h.bd
  · rw [lookup_putF,if_neg n_tw_bl];exact h.tw
  · rw [lookup_putF,if_pos rfl]
  · rw [lookup_putF,if_neg n_ab_bl];exact h.ab
  · rw [lookup_putF,if_neg n_g_bl];exact h.g
  · rw [lookup_putF,if_neg n_s_bl];exact h.s
  · rw [lookup_putF,if_neg m3];exact h.no m m1 m2 m3 m4 m5 m6
theorem Fb.set_ab {fs:List (Str×V)} {bd tw bl ab:Addr} {g s:V} {y:Addr} (h:Fb fs bd tw bl ab g s):Fb (putF "above" (.ref y) fs) bd tw bl y g s:=by
  have n_bd_ab:¬(("bound":Str) = "above"):=by decide +kernel
  have n_tw_ab:¬(("twice":Str) = "above"):=by decide +kernel
  have n_bl_ab:¬(("below":Str) = "above"):=by decide +kernel
  have n_g_ab:¬(("gentlest":Str) = "above"):=by decide +kernel
  have n_s_ab:¬(("steepest":Str) = "above"):=by decide +kernel
  refine ⟨by rw [putF_len h.ab];exact h.len,?_,?_,?_,?_,?_,?_,fun m m1 m2 m3 m4 m5 m6=>?_⟩
  · rw [lookup_putF,if_neg n_bd_ab];exact h.bd
  · rw [lookup_putF,if_neg n_tw_ab];exact h.tw
  · rw [lookup_putF,if_neg n_bl_ab];exact h.bl
  · rw [lookup_putF,if_pos rfl]
  · rw [lookup_putF,if_neg n_g_ab];exact h.g
  · rw [lookup_putF,if_neg n_s_ab];exact h.s
  · rw [lookup_putF,if_neg m4];exact h.no m m1 m2 m3 m4 m5 m6
theorem Fb.set_g {fs:List (Str×V)} {bd tw bl ab:Addr} {g s:V} {y:V} (h:Fb fs bd tw bl ab g s):Fb (putF "gentlest" y fs) bd tw bl ab y s:=by
  have n_bd_g:¬(("bound":Str) = "gentlest"):=by decide +kernel
  have n_tw_g:¬(("twice":Str) = "gentlest"):=by decide +kernel
  have n_bl_g:¬(("below":Str) = "gentlest"):=by decide +kernel
  have n_ab_g:¬(("above":Str) = "gentlest"):=by decide +kernel
  have n_s_g:¬(("steepest":Str) = "gentlest"):=by decide +kernel
  refine ⟨by rw [putF_len h.g];exact h.len,?_,?_,?_,?_,?_,?_,fun m m1 m2 m3 m4 m5 m6=>?_⟩
  · rw [lookup_putF,if_neg n_bd_g];exact h.bd
  · rw [lookup_putF,if_neg n_tw_g];exact h.tw
  · rw [lookup_putF,if_neg n_bl_g];exact h.bl
  · rw [lookup_putF,if_neg n_ab_g];exact h.ab
  · rw [lookup_putF,if_pos rfl]
  · rw [lookup_putF,if_neg n_s_g];exact h.s
  · rw [lookup_putF,if_neg m5];exact h.no m m1 m2 m3 m4 m5 m6
theorem Fb.set_s {fs:List (Str×V)} {bd tw bl ab:Addr} {g s:V} {y:V} (h:Fb fs bd tw bl ab g s):Fb (putF "steepest" y fs) bd tw bl ab g y:=by
  have n_bd_s:¬(("bound":Str) = "steepest"):=by decide +kernel
  have n_tw_s:¬(("twice":Str) = "steepest"):=by decide +kernel
  have n_bl_s:¬(("below":Str) = "steepest"):=by decide +kernel
  have n_ab_s:¬(("above":Str) = "steepest"):=by decide +kernel
  have n_g_s:¬(("gentlest":Str) = "steepest"):=by decide +kernel
  refine ⟨by rw [putF_len h.s];exact h.len,?_,?_,?_,?_,?_,?_,fun m m1 m2 m3 m4 m5 m6=>?_⟩
  · rw [lookup_putF,if_neg n_bd_s];exact h.bd
  · rw [lookup_putF,if_neg n_tw_s];exact h.tw
  · rw [lookup_putF,if_neg n_bl_s];exact h.bl
  · rw [lookup_putF,if_neg n_ab_s];exact h.ab
  · rw [lookup_putF,if_neg n_g_s];exact h.g
  · rw [lookup_putF,if_pos rfl]
  · rw [lookup_putF,if_neg m6];exact h.no m m1 m2 m3 m4 m5 m6
theorem Fb.meth {fs:List (Str×V)} {bd tw bl ab:Addr} {g s:V} (h:Fb fs bd tw bl ab g s) (m:Str) (m1:m ≠ "bound":=by decide +kernel) (m2:m ≠ "twice":=by decide +kernel) (m3:m ≠ "below":=by decide +kernel) (m4:m ≠ "above":=by decide +kernel) (m5:m ≠ "gentlest":=by decide +kernel) (m6:m ≠ "steepest":=by decide +kernel):fs.lookup m=none:=h.no m m1 m2 m3 m4 m5 m6

noncomputable def rmB (p L M:Addr) (H:Hp):Hp:=rm p (rm L (rm M H))
theorem rmB_at {p L M b:Addr} {H:Hp} (h1:b≠p) (h2:b≠L) (h3:b≠M):rmB p L M H b=H b:=by unfold rmB;rw [rm_at h1,rm_at h2,rm_at h3]
theorem rmB_of {p L M b:Addr} {H:Hp} {o:HO} (h:rmB p L M H b=some o):b≠p∧b≠L∧b≠M∧H b=some o:=by
  have h1:b≠p:=fun q=>by rw [q] at h;unfold rmB rm at h;simp at h
  have h2:b≠L:=fun q=>by rw [q] at h;unfold rmB rm at h;simp at h
  have h3:b≠M:=fun q=>by rw [q] at h;unfold rmB rm at h;simp at h
  rw [rmB_at h1 h2 h3] at h
  exact ⟨h1,h2,h3,h⟩
section
variable {H H':Hp}
theorem QtAt.tv {b:Addr} {q:Rat} {n:Nat} (t:∀{b:Addr} {xs:List V},H b=some (.tup xs)→H' b=some (.tup xs)) (f:QtAt H b q n):QtAt H' b q n:=let ⟨x,d,e,f⟩:=f;⟨x,d,t e,f⟩
theorem FrAt.tv {b:Addr} {q:Rat} {n:Nat} (t:∀{b:Addr} {xs:List V},H b=some (.tup xs)→H' b=some (.tup xs)) (f:FrAt H b q n):FrAt H' b q n:=let ⟨x,d,e,f⟩:=f;⟨x,d,t e,f⟩
theorem LnAt.tv {b:Addr} {q h:Rat} {n:Nat} (t:∀{b:Addr} {xs:List V},H b=some (.tup xs)→H' b=some (.tup xs)) (f:LnAt H b q h n):LnAt H' b q h n:=let ⟨x,d,e,f1,f2⟩:=f;⟨x,d,t e,f1.tv t,f2.tv t⟩
theorem EnAt.tv {x:En} {n:Nat} (t:∀{b:Addr} {xs:List V},H b=some (.tup xs)→H' b=some (.tup xs)) (f:EnAt H x n):EnAt H' x n:=by
  obtain ⟨a,m,v⟩:=x
  cases v with
  | none=>exact ⟨f.1,t f.2⟩
  | some q=>
    obtain ⟨z,r,e,x,d,g,f⟩:=f
    exact ⟨z,r,t e,x,d,t g,f⟩
theorem Row.tv {es:List En} {n:Nat} (t:∀{b:Addr} {xs:List V},H b=some (.tup xs)→H' b=some (.tup xs)) (f:Row H es n):Row H' es n:=fun x hx=>(f x hx).tv t
end
noncomputable def OQ (H:Hp) (v:V) (N:Nat):Option Rat→Prop
  | none=>v=.non
  | some G=>∃p,v=.ref p∧QtAt H p G N
theorem OQ.tv {H H':Hp} {v:V} {N:Nat} {g:Option Rat} (t:∀{b:Addr} {xs:List V},H b=some (.tup xs)→H' b=some (.tup xs)) (f:OQ H v N g):OQ H' v N g:=by
  cases g with
  | none=>exact f
  | some G=>exact let ⟨p,e,f⟩:=f;⟨p,e,f.tv t⟩
noncomputable def GO (ss:List En) (B:Rat) (fl ro:Nat):Option Rat→Prop
  | none=>∀q p,ro≤q→q<p→fl≤p→¬p<ss.length
  | some G=>GF ss B fl ro G
noncomputable def SO (ss:List En) (B:Rat) (fl ro:Nat):Option Rat→Prop
  | none=>∀q p,fl≤q→q<p→ro≤p→¬p<ss.length
  | some S=>SF ss B fl ro S
structure BdP (ss:List En) (fl ro:Nat) (β:Rat) (g s:Option Rat):Prop where
  all:AllS ss
  ris:rising ss
  hfl:fl≤ss.length
  hro:ro≤ss.length
  lt:0<ss.length→fl<ss.length∧ro<ss.length
  go:GO ss (2*β) fl ro g
  so:SO ss (2*β) fl ro s
  le:∀G S,g=some G→s=some S→G≤S
  df:fl=ro→fl=0
structure Bd0 (C:Addr) (H:Hp) (p Lb La:Addr) (ss:List En) (fl ro:Nat) (β:Rat) (n nb:Nat) (g s:Option Rat) (dx bd tw:Addr) (fs:List (Str×V)) (gv sv:V):Prop where
  at_:H p=some (.ins C dx fs)
  F:Fb fs bd tw Lb La gv sv
  eb:H Lb=some (.lst (vals (ss.drop fl)))
  ea:H La=some (.lst (vals (ss.drop ro)))
  ne:Lb≠La
  row:Row H ss n
  fbd:FrAt H bd β nb
  ftw:QtAt H tw (2*β) (2*nb+1)
  G:OQ H gv (3*n+(2*nb+1)+3) g
  S:OQ H sv (3*n+(2*nb+1)+3) s
  P:BdP ss fl ro β g s
noncomputable def BdOk (C:Addr) (H:Hp) (p Lb La:Addr) (ss:List En) (fl ro:Nat) (β:Rat) (n nb:Nat) (g s:Option Rat):Prop:=∃dx bd tw fs gv sv,Bd0 C H p Lb La ss fl ro β n nb g s dx bd tw fs gv sv
theorem Bd0.mv {C:Addr} {H H':Hp} {p Lb La:Addr} {ss:List En} {fl ro:Nat} {β:Rat} {n nb:Nat} {g s:Option Rat} {dx bd tw:Addr} {fs:List (Str×V)} {gv sv:V} (h:Bd0 C H p Lb La ss fl ro β n nb g s dx bd tw fs gv sv) (t:∀{b:Addr} {xs:List V},H b=some (.tup xs)→H' b=some (.tup xs)) (hp:H' p=H p) (h1:H' Lb=H Lb) (h2:H' La=H La):Bd0 C H' p Lb La ss fl ro β n nb g s dx bd tw fs gv sv:=
  ⟨hp.trans h.at_,h.F,h1.trans h.eb,h2.trans h.ea,h.ne,h.row.tv t,h.fbd.tv t,h.ftw.tv t,h.G.tv t,h.S.tv t,h.P⟩
theorem Bd0.up {C:Addr} {H H':Hp} {p Lb La:Addr} {ss:List En} {fl ro:Nat} {β:Rat} {n nb:Nat} {g s:Option Rat} {dx bd tw:Addr} {fs:List (Str×V)} {gv sv:V} (h:Bd0 C H p Lb La ss fl ro β n nb g s dx bd tw fs gv sv) (k:Same H H'):Bd0 C H' p Lb La ss fl ro β n nb g s dx bd tw fs gv sv:=
  h.mv (fun {b xs} e=>k _ _ e) ((k _ _ h.at_).trans h.at_.symm) ((k _ _ h.eb).trans h.eb.symm) ((k _ _ h.ea).trans h.ea.symm)
theorem BdOk.up {C:Addr} {H H':Hp} {p Lb La:Addr} {ss:List En} {fl ro:Nat} {β:Rat} {n nb:Nat} {g s:Option Rat} (h:BdOk C H p Lb La ss fl ro β n nb g s) (k:Same H H'):BdOk C H' p Lb La ss fl ro β n nb g s:=
  let ⟨dx,bd,tw,fs,gv,sv,h⟩:=h;⟨dx,bd,tw,fs,gv,sv,h.up k⟩
theorem BdP.hiG {ss:List En} {fl ro:Nat} {β G:Rat} {g s:Option Rat} (h:BdP ss fl ro β g s) (e:g=some G):GF ss (2*β) fl ro G∧HiP ss (2*β) fl ro G:=by
  have go:=h.go
  have so:=h.so
  rw [e] at go
  refine ⟨go,?_⟩
  cases hs:s with
  | none=>
    rw [hs] at so
    exact fun q p a b c d=>absurd d (so q p a b c)
  | some S=>
    rw [hs] at so
    exact HiP.mono so.1 (h.le G S e hs)
theorem BdP.loS {ss:List En} {fl ro:Nat} {β S:Rat} {g s:Option Rat} (h:BdP ss fl ro β g s) (e:s=some S):SF ss (2*β) fl ro S∧LoP ss (2*β) fl ro S:=by
  have go:=h.go
  have so:=h.so
  rw [e] at so
  refine ⟨so,?_⟩
  cases hs:g with
  | none=>
    rw [hs] at go
    exact fun q p a b c d=>absurd d (go q p a b c)
  | some G=>
    rw [hs] at go
    exact LoP.mono go.1 (h.le G S hs e)
noncomputable def spOpp:Sp:=fun vs H Q _=>∃(p:Addr) (q:Rat) (n:Nat),vs=[.ref p]∧QtAt H p q n∧∀(r:Addr) (H':Hp),Same H H'→QtAt H' r (-q) n→Q (.ref r) H'
noncomputable def spSteeper:Sp:=fun vs H Q _=>∃(a b:V) (g s:Option Rat) (m n:Nat),vs=[a,b]∧OQ H a m g∧OQ H b n s∧m+n≤100000∧∀r:Bool,(r=true↔∃G S,g=some G∧s=some S∧S<G)→Q (.bl r) H
noncomputable def onL (T f l:Rat) (x:En):Bool:=decide (x.2.2.getD 0-(T*(x.2.1:Rat)+f)=l)
theorem onL_at {es:List En} {T f l:Rat} {i:Nat} {x:En} (h:es[i]?=some x):onL T f l x=true↔lev es T i-f=l:=by
  unfold onL lev mo wo
  rw [decide_eq_true_iff,h]
  show x.2.2.getD 0-(T*(x.2.1:Rat)+f)=l↔x.2.2.getD 0-T*(x.2.1:Rat)-f=l
  constructor
  · intro h;rw [← h];grind
  · intro h;rw [← h];grind
noncomputable def spTouched:Sp:=fun vs H Q _=>∃(l ln pb:Addr) (es:List En) (T f lam:Rat) (n M nb:Nat),vs=[.ref l,.ref ln,.ref pb]∧H l=some (.lst (vals es))∧Row H es n∧AllS es∧LnAt H ln T f M∧QtAt H pb lam nb∧1≤n∧n≤10000∧M≤10000∧nb≤10000∧es.length≤900 ∧
  ∀(R:Addr) (H':Hp),Same H H'→H R=none→H' R=some (.lst (vals (es.filter (onL T f lam))))→Q (.ref R) H'
section
variable {P:Program} {w:World} {K:PySem.W.Frag} {mg:Str→Option Value} {base:Heap} {f c_Bend:Addr} {fd:FuncData}
theorem sc_opposite:FnScope ["one"] ["one"] (defScope s_opposite):=⟨rfl,rfl,rfl,by decide +kernel,rfl,by decide +kernel,by decide +kernel⟩
theorem ok_opposite (F:Fun K "opposite" "opposite" s_opposite f fd):FnOk P w K mg base CX0 1 f fd ["one"] spOpp:=by
  refine F.ok sc_opposite (fun vs H Q E h=>?_) (fun cdv A outer s H vs Q E hr h=>?_)
  · obtain ⟨p,q,n,rfl,_⟩:=h
    rfl
  obtain ⟨p,q,n,rfl,⟨a,b,hp,hq,za,zb⟩,k⟩:=h
  refine J.l ⟨_,(J.g (J.k (J.m (J.b (J.z un_neg (J.f (ixT K) (J.a 0) J.c (fun _ _=>rfl))) (J.b (J.f (ixT K) (J.a 0) J.c (fun _ _=>rfl)) J.d st_S) st_U)))),?_⟩
  walk_at "v"
  refine r_new (mk:=.tup) (by simp) fun p1 H1 s1 n1 e1=>?_
  exact k p1 H1 s1 ⟨_,_,e1,hq.neg,by unfold Sz at *;rw [Int.natAbs_neg];exact za,zb⟩
theorem sc_is_steeper:FnScope ["one","other"] ["one","other"] (defScope s_is_steeper):=⟨rfl,rfl,rfl,by decide +kernel,rfl,by decide +kernel,by decide +kernel⟩
theorem ok_is_steeper (F:Fun K "is_steeper" "is_steeper" s_is_steeper f fd) (D_order:Dn P w K mg base 1 "order" ["one","other"] spOrderQ):FnOk P w K mg base CX0 2 f fd ["one","other"] spSteeper:=by
  refine F.ok sc_is_steeper (fun vs H Q E h=>?_) (fun cdv A outer s H vs Q E hr h=>?_)
  · obtain ⟨a,b,g,s,m,n,rfl,_⟩:=h
    rfl
  obtain ⟨a,b,g,s',m,n,rfl,ha,hb,hmn,k⟩:=h
  refine J.l ⟨_,(J.g (J.k (Jd.pe_and (Jd.pe_cmpR op_notN (J.a 0) J.v (nomark _)) (Jd.pe_and (Jd.pe_cmpR op_notN (J.a 1) J.v (nomark _)) (Jd.pe_one (Jd.pe_cmpR op_gt (J.j D_order (hr.mono (by decide)) rfl (J.b (J.a 0) (J.b (J.a 1) J.d st_N) st_N) (he:=st_N) (hpl:=(anyc st_N any0))) J.c (nomark _))))))),?_⟩
  cases g with
  | none=>
    obtain rfl:a=.non:=ha
    walk_at "v"
    refine ⟨rfl,_,rfl,iteF ?_⟩
    exact k false ⟨fun z=>absurd z (by decide),fun ⟨_,_,e,_⟩=>by cases e⟩
  | some G=>
    obtain ⟨pa,rfl,fa⟩:=ha
    cases s' with
    | none=>
      obtain rfl:b=.non:=hb
      walk_at "v"
      refine ⟨rfl,_,rfl,iteT ?_⟩
      walk_at "v"
      refine ⟨rfl,_,rfl,iteF ?_⟩
      exact k false ⟨fun z=>absurd z (by decide),fun ⟨_,_,_,e,_⟩=>by cases e⟩
    | some S=>
      obtain ⟨pb,rfl,fb⟩:=hb
      walk_at "v"
      refine ⟨rfl,_,rfl,iteT ?_⟩
      walk_at "v"
      refine ⟨rfl,_,rfl,iteT ?_⟩
      walk_at "v"
      refine ⟨pa,pb,G,S,m,n,rfl,fa,fb,hmn,fun o h1 h2=>?_⟩
      walk_at "v"
      refine k _ ⟨fun z=>⟨G,S,rfl,rfl,h1.mp (of_decide_eq_true z)⟩,fun ⟨_,_,e1,e2,z⟩=>?_⟩
      cases e1
      cases e2
      exact decide_eq_true (h1.mpr z)
theorem sc_touched:FnScope ["samples","line","lift"] ["samples","line","lift"] (defScope s_touched):=⟨rfl,rfl,rfl,by decide +kernel,rfl,by decide +kernel,by decide +kernel⟩
theorem ok_touched (F:Fun K "touched" "touched" s_touched f fd) (D_order:Dn P w K mg base 1 "order" ["one","other"] spOrderQ) (D_loose_off:Dn P w K mg base 4 "loose_off" ["line","sample"] spLoff):FnOk P w K mg base CX0 5 f fd ["samples","line","lift"] spTouched:=by
  refine F.ok sc_touched (fun vs H Q E h=>?_) (fun cdv A outer s H vs Q E hr h=>?_)
  · obtain ⟨l,ln,pb,es,T,f,lam,n,M,nb,rfl,_⟩:=h
    rfl
  obtain ⟨l,ln,pb,es,T,fo,lam,n,M,nb,rfl,hl,hR,hS,hln,hpb,h1,hn,hM,hnb,h900,k⟩:=h
  refine J.l ⟨_,(J.g (J.k (J.ac (O:=["sample"]) (N':=["lift","line"]) (cap:=[2,1]) rfl (J.x K (J.a 0)) (fun _ _ _ _ _=>(J.q (i:=0) (show List.Nodup [("sample":Str),("lift":Str),("line":Str)] by decide +kernel) rfl (Or.inl rfl))) (fun _ _ _ _ _=>(Jd.pts_one (J.n op_eq (J.j D_order (hr.mono (by decide)) rfl (J.b (J.j D_loose_off (hr.mono (by decide)) rfl (J.b (J.a 2) (J.b (J.a 0) J.d st_N) st_N) (he:=st_N) (hpl:=(anyc st_N any0))) (J.b (J.a 1) J.d st_N) st_K) (he:=st_K) (hpl:=(anyc st_N any0))) J.c (nomark _)))) (fun _ _ _ _ _=>(J.a 0)) rfl ⟨⟨rfl,rfl,rfl,rfl⟩,⟨⟨rfl,rfl,rfl,rfl⟩,trivial⟩⟩ rfl (by decide +kernel) rfl (by decide +kernel)))),?_⟩
  walk_at "v"
  refine r_iL ?_
  walk_at "v"
  refine ⟨l,rfl,⟨_,SqL.of hl⟩,?_⟩
  refine compB_of (xs:=vals es) tells_list (fun H3 s3=>SqL.of (s3 _ _ hl)) (by rw [vals_len];walk_at "o") (fun i ys G=>ys=vals ((es.take i).filter (onL T fo lam))) rfl ?_ ?_
  · rintro D i x ys H3 σ0 N N0 h0 hD eD s3 hx hy rfl kY kN
    obtain ⟨e,he,rfl⟩:=vals_at hx
    have hi:i<es.length:=(List.getElem?_eq_some_iff.mp he).1
    obtain ⟨xi,gi,fi⟩:=sa_at (hR.up s3) hS hi
    rw [he] at gi
    cases gi
    have ts:=PySem.take_succ_filter (onL T fo lam) es i e he
    refine r_own1 h0 ?_
    walk_at "v"
    refine ⟨ln,e.1,T,fo,_,_,n,M,rfl,hln.up s3,fi,h1,by walk_at "o",by walk_at "o",fun z H4 s4 f4=>?_⟩
    walk_at "v"
    refine ⟨z,pb,_,lam,_,nb,rfl,f4,hpb.up (s3.trans s4),by walk_at "o",fun o o1 o2=>?_⟩
    have key:o=0↔lev es T i-fo=lam:=by
      have e1:wo es i-(T*(mo es i:Rat)+fo)=lev es T i-fo:=by unfold lev;grind
      rw [e1] at o1 o2
      constructor
      · intro h
        refine Rat.le_antisymm (Rat.not_lt.mp fun z=>?_) (Rat.not_lt.mp fun z=>?_)
        · have:=o1.mpr z;omega
        · have:=o2.mpr z;omega
      · intro h
        rw [h] at o1 o2
        have p1:¬0<o:=fun z=>Rat.lt_irrefl (o1.mp z)
        have p2:¬o<0:=fun z=>Rat.lt_irrefl (o2.mp z)
        omega
    walk_at "v"
    cases hs:decide (o=0) with
    | true=>
      rw [(onL_at he).mpr (key.mp (of_decide_eq_true hs)),if_pos rfl] at ts
      refine iteT ?_
      walk_at "v"
      exact kY _ H4 s4 (by rw [ts,← vals_snoc])
    | false=>
      have:onL T fo lam e=false:=Bool.eq_false_iff.mpr fun z=>of_decide_eq_false hs (key.mpr ((onL_at he).mp z))
      rw [this,if_neg Bool.false_ne_true,List.append_nil] at ts
      refine iteF ?_
      exact kN H4 s4 (by rw [ts])
  · rintro D ys H3 hD eD s3 hy rfl
    rw [vals_len,List.take_length] at eD
    walk_at "v"
    exact k D H3 s3 hD eD
end

noncomputable def Kp (F:Addr→Prop) (H H':Hp):Prop:=∀b o,¬F b→H b=some o→H' b=some o
theorem Kp.of {F:Addr→Prop} {H H':Hp} (s:Same H H'):Kp F H H':=fun b o _ e=>s b o e
theorem Kp.trans {F:Addr→Prop} {H H' H2:Hp} (h:Kp F H H') (h':Kp F H' H2):Kp F H H2:=fun b o n e=>h' b o n (h b o n e)
theorem Kp.upd {F:Addr→Prop} {H H':Hp} {a:Addr} {o:HO} (h:Kp F H H') (hF:F a):Kp F H (upd H' a o):=fun b u n e=>by
  rw [upd_ne (show b≠a from fun q=>n (by rw [q];exact hF))]
  exact h b u n e
theorem Kp.sm {F:Addr→Prop} {H H' H2:Hp} (h:Kp F H H') (s:Same H' H2):Kp F H H2:=h.trans (.of s)
theorem putF_le (f:Str) (v:V):∀fs:List (Str×V),(putF f v fs).length≤fs.length+1
  | []=>Nat.le_refl _
  | (g,y)::r=>by
    unfold putF
    split
    · exact Nat.le_succ _
    · exact Nat.succ_le_succ (putF_le f v r)
noncomputable def NowAt (ss:List En) (β:Rat) (fl:Nat) (g s:Option Rat) (T f:Rat):Prop:=
  ((g=some T∨(g=none∧s=some T))∧(∀i,fl≤i→i<ss.length→lev ss T i-β≤f)∧∃i,fl≤i∧i<ss.length∧lev ss T i-β=f)∨(g=none∧s=none∧T=0∧f=wo ss fl)
noncomputable def spBInit (C:Addr):Sp:=fun vs H Q _=>∃(p dx pb:Addr) (β:Rat) (n:Nat),vs=[.ref p,.ref pb]∧H p=some (.ins C dx [])∧FrAt H pb β n∧n≤1000∧∀(Lb La:Addr) (H':Hp) (k:Nat),Same (rm p H) H'→H Lb=none→H La=none→BdOk C H' p Lb La [] 0 0 β k n none none→Q .non H'
noncomputable def spLineOf (C:Addr):Sp:=fun vs H Q _=>∃(p Lb La pt:Addr) (ss:List En) (fl ro:Nat) (β T:Rat) (n nb:Nat) (g s:Option Rat),vs=[.ref p,.ref pt]∧BdOk C H p Lb La ss fl ro β n nb g s∧QtAt H pt T (3*n+(2*nb+1)+3)∧0<ss.length∧ss.length≤900∧n≤1500∧(5*n+4*nb≤7900∧nb≤1000) ∧
  ∀(r:Addr) (f:Rat) (H':Hp),Same H H'→LnAt H' r T f (5*n+3*nb+7)→(∀i,fl≤i→i<ss.length→lev ss T i-β≤f)→(∃i,fl≤i∧i<ss.length∧lev ss T i-β=f)→Q (.ref r) H'
noncomputable def spCap (C:Addr):Sp:=fun vs H Q _=>∃(p Lb La x:Addr) (ss:List En) (fl ro:Nat) (m:Int) (q β G:Rat) (n nb:Nat) (s:Option Rat),vs=[.ref p,.ref x]∧BdOk C H p Lb La ss fl ro β n nb (some G) s∧SaAt H x m q n∧(∀i,i<ss.length→mo ss i<m)∧ss.length≤900∧1≤n∧n≤1500∧(5*n+4*nb≤7900∧nb≤1000)∧0≤β∧(∃i,fl≤i∧i<ss.length∧q-G*(m:Rat)+2*β<lev ss G i) ∧
  ∀(r ln th Lb' La':Addr) (f:Rat) (a b:Nat) (s':Option Rat) (H':Hp),Same (rmB p Lb La H) H'→CapAt ss β fl ro m q G f a b→H' r=some (.tup [.ref ln,.ref th])→LnAt H' ln G f (5*n+3*nb+7)→H' th=some (.tup [.int (mo ss a),.int (mo ss b),.int m])→BdOk C H' p Lb' La' (ss++[(x,m,some q)]) b ss.length β n nb none s'→H Lb'=none→H La'=none→Q (.ref r) H'
noncomputable def spCup (C:Addr):Sp:=fun vs H Q _=>∃(p Lb La x:Addr) (ss:List En) (fl ro:Nat) (m:Int) (q β S:Rat) (n nb:Nat) (g:Option Rat),vs=[.ref p,.ref x]∧BdOk C H p Lb La ss fl ro β n nb g (some S)∧SaAt H x m q n∧(∀i,i<ss.length→mo ss i<m)∧ss.length≤900∧1≤n∧n≤1500∧(5*n+4*nb≤7900∧nb≤1000)∧0≤β∧(∃i,ro≤i∧i<ss.length∧lev ss S i+2*β<q-S*(m:Rat)) ∧
  ∀(r ln th Lb' La':Addr) (f:Rat) (a b:Nat) (g':Option Rat) (H':Hp),Same (rmB p Lb La H) H'→CupAt ss β fl ro m q S f a b→H' r=some (.tup [.ref ln,.ref th])→LnAt H' ln S f (5*n+3*nb+7)→H' th=some (.tup [.int (mo ss a),.int (mo ss b),.int m])→BdOk C H' p Lb' La' (ss++[(x,m,some q)]) ss.length b β n nb g' none→H Lb'=none→H La'=none→Q (.ref r) H'
noncomputable def NoTurn (ss:List En) (β:Rat) (fl ro:Nat) (g s:Option Rat) (m:Int) (q:Rat):Prop:=(∀G,g=some G→∀i,fl≤i→i<ss.length→lev ss G i≤q-G*(m:Rat)+2*β)∧(∀S,s=some S→∀i,ro≤i→i<ss.length→q-S*(m:Rat)≤lev ss S i+2*β)
noncomputable def spTake (C:Addr):Sp:=fun vs H Q _=>∃(p Lb La x:Addr) (ss:List En) (fl ro:Nat) (m:Int) (q β:Rat) (n nb:Nat) (g s:Option Rat),vs=[.ref p,.ref x]∧BdOk C H p Lb La ss fl ro β n nb g s∧SaAt H x m q n∧(∀i,i<ss.length→mo ss i<m)∧ss.length≤900∧1≤n∧n≤1500∧(5*n+4*nb≤7900∧nb≤1000)∧0≤β ∧
  (∀(g' s':Option Rat) (H':Hp),Same (rmB p Lb La H) H'→NoTurn ss β fl ro g s m q→BdOk C H' p Lb La (ss++[(x,m,some q)]) fl ro β n nb g' s'→Q .non H') ∧
  (∀(r ln th Lb' La':Addr) (G f:Rat) (a b:Nat) (s':Option Rat) (H':Hp),Same (rmB p Lb La H) H'→g=some G→CapAt ss β fl ro m q G f a b→H' r=some (.tup [.ref ln,.ref th])→LnAt H' ln G f (5*n+3*nb+7)→H' th=some (.tup [.int (mo ss a),.int (mo ss b),.int m])→BdOk C H' p Lb' La' (ss++[(x,m,some q)]) b ss.length β n nb none s'→H Lb'=none→H La'=none→Q (.ref r) H') ∧
  (∀(r ln th Lb' La':Addr) (S f:Rat) (a b:Nat) (g':Option Rat) (H':Hp),Same (rmB p Lb La H) H'→s=some S→¬(∃G,g=some G∧∃i,fl≤i∧i<ss.length∧q-G*(m:Rat)+2*β<lev ss G i)→CupAt ss β fl ro m q S f a b→H' r=some (.tup [.ref ln,.ref th])→LnAt H' ln S f (5*n+3*nb+7)→H' th=some (.tup [.int (mo ss a),.int (mo ss b),.int m])→BdOk C H' p Lb' La' (ss++[(x,m,some q)]) ss.length b β n nb g' none→H Lb'=none→H La'=none→Q (.ref r) H')
noncomputable def spNow (C:Addr):Sp:=fun vs H Q _=>∃(p Lb La:Addr) (ss:List En) (fl ro:Nat) (β:Rat) (n nb:Nat) (g s:Option Rat),vs=[.ref p]∧BdOk C H p Lb La ss fl ro β n nb g s∧ss.length≤900∧1≤n∧n≤1500∧(5*n+4*nb≤7900∧nb≤1000) ∧
  (ss=[]→Q .non H)∧(0<ss.length→∀(r:Addr) (T f:Rat) (H':Hp),Same H H'→LnAt H' r T f (5*n+3*nb+7)→NowAt ss β fl g s T f→Q (.ref r) H')
theorem LnAt.up2 {H H':Hp} {p:Addr} {s h:Rat} {n:Nat} (f:LnAt H p s h n) (k:Same H H'):LnAt H' p s h n:=f.tv fun {b xs} e=>k _ _ e
theorem cap_touch {ss:List En} {fl ro:Nat} {β G f:Rat} (hβ:0≤β) (hr:rising ss) (g:GF ss (2*β) fl ro G) (hH:HiP ss (2*β) fl ro G) (lo:∀i,fl≤i→i<ss.length→lev ss G i-β≤f) (ex:∃i,fl≤i∧i<ss.length∧lev ss G i-β=f) :
    (∀i,ro≤i→i<ss.length→f≤lev ss G i+β)∧∃q p,ro≤q∧q<p∧fl≤p∧p<ss.length∧lev ss G q+β=f∧lev ss G p-β=f:=by
  obtain ⟨b,hb,lb,eb⟩:=ex
  have hi:∀i,ro≤i→i<ss.length→f≤lev ss G i+β:=fun i h l=>by
    have:=bear (by grind) hr g.1 hH h hb l lb
    grind
  refine ⟨hi,?_⟩
  obtain ⟨q,p,a1,a2,a3,a4,e⟩:=g.2
  have e':=(low_is hr a2 a4).mp e
  have l1:=lo p a3 a4
  have l2:=hi q a1 (by omega)
  exact ⟨q,p,a1,a2,a3,a4,by grind,by grind⟩
theorem cup_touch {ss:List En} {fl ro:Nat} {β S f:Rat} (hβ:0≤β) (hr:rising ss) (g:SF ss (2*β) fl ro S) (hL:LoP ss (2*β) fl ro S) (lo:∀i,fl≤i→i<ss.length→lev ss S i-β≤f) (ex:∃i,fl≤i∧i<ss.length∧lev ss S i-β=f) :
    (∀i,ro≤i→i<ss.length→f≤lev ss S i+β)∧∃q p,fl≤q∧q<p∧ro≤p∧p<ss.length∧lev ss S q-β=f∧lev ss S p+β=f:=by
  obtain ⟨b,hb,lb,eb⟩:=ex
  have hi:∀i,ro≤i→i<ss.length→f≤lev ss S i+β:=fun i h l=>by
    have:=bear (by grind) hr hL g.1 h hb l lb
    grind
  refine ⟨hi,?_⟩
  obtain ⟨q,p,a1,a2,a3,a4,e⟩:=g.2
  have e':=(high_is hr a2 a4).mp e
  have l1:=lo q a1 (by omega)
  have l2:=hi p a3 a4
  exact ⟨q,p,a1,a2,a3,a4,by grind,by grind⟩
theorem drop_at {es:List En} {j i:Nat} {x:En} (h:(es.drop j)[i]?=some x):es[j+i]?=some x:=by rw [← List.getElem?_drop];exact h
theorem touch_first {es:List En} {T f l:Rat} {lo q:Nat} (h1:lo≤q) (h2:q<es.length) (e:lev es T q-f=l):∃a x,lo≤a∧a≤q∧es[a]?=some x∧((es.drop lo).filter (onL T f l))[0]?=some x∧lev es T a-f=l:=by
  have gq:(es.drop lo)[q-lo]?=some es[q]:=by rw [List.getElem?_drop,show lo+(q-lo)=q by omega,List.getElem?_eq_getElem h2]
  have pq:onL T f l es[q]=true:=(onL_at (List.getElem?_eq_getElem h2)).mpr e
  obtain ⟨a,x,g,px,e0,hn⟩:=first_of (onL T f l) (es.drop lo) ⟨_,List.mem_of_getElem? gq,pq⟩
  have g':=drop_at g
  refine ⟨lo+a,x,by omega,?_,g',e0,(onL_at g').mp px⟩
  by_cases z:q-lo<a
  · have:=hn _ _ z gq
    rw [pq] at this
    cases this
  · omega
theorem touch_last {es:List En} {T f l:Rat} {lo q:Nat} (h1:lo≤q) (h2:q<es.length) (e:lev es T q-f=l):∃a x,q≤a∧a<es.length∧es[a]?=some x∧((es.drop lo).filter (onL T f l))[((es.drop lo).filter (onL T f l)).length-1]?=some x∧lev es T a-f=l∧∀i,a<i→i<es.length→lev es T i-f≠l:=by
  have gq:(es.drop lo)[q-lo]?=some es[q]:=by rw [List.getElem?_drop,show lo+(q-lo)=q by omega,List.getElem?_eq_getElem h2]
  have pq:onL T f l es[q]=true:=(onL_at (List.getElem?_eq_getElem h2)).mpr e
  obtain ⟨a,x,g,px,e0,hn⟩:=last_of (onL T f l) (es.drop lo) ⟨_,List.mem_of_getElem? gq,pq⟩
  have g':=drop_at g
  refine ⟨lo+a,x,?_,(List.getElem?_eq_some_iff.mp g').1,g',e0,(onL_at g').mp px,fun i hi hl ei=>?_⟩
  · by_cases z:a<q-lo
    · have:=hn _ _ z gq
      rw [pq] at this
      cases this
    · omega
  · have gi:(es.drop lo)[i-lo]?=some es[i]:=by rw [List.getElem?_drop,show lo+(i-lo)=i by omega,List.getElem?_eq_getElem hl]
    have:=hn (i-lo) _ (by omega) gi
    rw [(onL_at (List.getElem?_eq_getElem hl)).mpr ei] at this
    cases this
theorem at_neg1 {es:List En} {x:En} (h:es[es.length-1]?=some x):atI (vals es) (-1)=some (.ref x.1):=by
  have hl:=(List.getElem?_eq_some_iff.mp h).1
  unfold atI
  rw [vals_len,ix_last (m:=es.length-1) (by walk_at "o")]
  exact vals_get h
theorem at_zero {es:List En} {x:En} (h:es[0]?=some x):atI (vals es) 0=some (.ref x.1):=atI_nat (j:=0) (vals_get h)
theorem rising1 {ss:List En} {x:Addr} {m:Int} {q:Rat} (h:rising ss) (hm:∀i,i<ss.length→mo ss i<m):rising (ss++[(x,m,some q)]):=rising_new h hm
theorem BdP.next {ss:List En} {fl ro:Nat} {β G' S':Rat} {g s:Option Rat} {x:Addr} {m:Int} {q:Rat} (h:BdP ss fl ro β g s) (hβ:0≤β) (hm:∀i,i<ss.length→mo ss i<m) (gG:GF (ss++[(x,m,some q)]) (2*β) fl ro G') (sS:SF (ss++[(x,m,some q)]) (2*β) fl ro S')
    (n1:¬ ∃G S,g=some G∧some S'=some S∧S<G) (n2:¬ ∃G S,some G'=some G∧s=some S∧S<G):BdP (ss++[(x,m,some q)]) fl ro β (some G') (some S')∧NoTurn ss β fl ro g s m q:=by
  have hr:=rising1 (x:=x) (q:=q) h.ris hm
  have k1:∀G,g=some G→G≤S':=fun G e=>Rat.not_lt.mp fun z=>n1 ⟨G,S',e,rfl,z⟩
  have k2:∀S,s=some S→G'≤S:=fun S e=>Rat.not_lt.mp fun z=>n2 ⟨G',S,rfl,e,z⟩
  have hfl:=h.hfl
  have hro:=h.hro
  refine ⟨⟨allS_new h.all,hr,by rw [len1];omega,by rw [len1];omega,fun _=>by rw [len1];omega,gG,sS,?_,h.df⟩,fun G e i hi hl=>?_,fun S e i hi hl=>?_⟩
  · intro G S e1 e2
    cases e1
    cases e2
    refine both_le (by grind) hr gG sS (fun i j a b c d=>?_) (fun i j a b c d=>?_)
    · have go:=h.go
      cases hg:g with
      | none=>rw [hg] at go;exact absurd d (go i j a b c)
      | some G0=>rw [hg] at go;exact Rat.le_trans (go.1 i j a b c d) (k1 G0 hg)
    · have so:=h.so
      cases hs:s with
      | none=>rw [hs] at so;exact absurd d (so i j a b c)
      | some S0=>rw [hs] at so;exact Rat.le_trans (k2 S0 hs) (so.1 i j a b c d)
  · refine Rat.not_lt.mp fun z=>?_
    exact absurd ((cap_iff hr sS (h.hiG e).2 hro).mpr ⟨i,hi,hl,z⟩) (Rat.not_lt.mpr (k1 G e))
  · refine Rat.not_lt.mp fun z=>?_
    exact absurd ((cup_iff hr gG (h.loS e).2 hfl).mpr ⟨i,hi,hl,z⟩) (Rat.not_lt.mpr (k2 S e))
section
variable {P:Program} {w:World} {K:PySem.W.Frag} {mg:Str→Option Value} {base:Heap} {f c_Bend:Addr} {fd:FuncData}
theorem sc_Bend_init:FnScope ["self","bound"] ["self","bound"] (defScope s_Bend_init):=⟨rfl,rfl,rfl,by decide +kernel,rfl,by decide +kernel,by decide +kernel⟩
theorem ok_Bend_init (F:Fun K "__init__" "Bend.__init__" s_Bend_init f fd) (K_Bend:Cl K mg "Bend" c_Bend ["bound","twice","below","above","gentlest","steepest"]) (D_plus:Dn P w K mg base 5 "plus" ["one","other"] (spTwoF (·+·) 1)):FnOk P w K mg base CX0 6 f fd ["self","bound"] (spBInit c_Bend):=by
  refine F.ok sc_Bend_init (fun vs H Q E h=>?_) (fun cdv A outer s H vs Q E hr h=>?_)
  · obtain ⟨p,dx,pb,β,n,rfl,_⟩:=h
    rfl
  obtain ⟨p,dx,pb,β,n,rfl,hp,hb,hn,k⟩:=h
  have lp:∀(f:Str) (v:V) (fs:List (Str×V)),fs.length≤(putF f v fs).length:=by
    intro f v fs
    induction fs with
    | nil=>exact Nat.zero_le _
    | cons x r ih=>
      obtain ⟨g,y⟩:=x
      unfold putF
      split
      · exact Nat.le_refl _
      · exact Nat.succ_le_succ ih
  have Fp:∀{H H':Hp} {fs:List (Str×V)} {b:Addr} {xs:List V},Kp (·=p) H H'→H p=some (.ins c_Bend dx fs)→H b=some (.tup xs)→H' b=some (.tup xs):=fun h hp e=>h _ _ (fun z=>by rw [z,hp] at e;cases e) e
  refine J.l ⟨_,(J.e (J.y K (J.a 0) (J.a 1))
      (J.e (J.y K (J.a 0) (J.j D_plus (hr.mono (by decide)) rfl (J.b (J.a 1) (J.b (J.a 1) J.d st_N) st_N) (he:=st_N) (hpl:=(anyc st_N any0))))
      (J.e (J.y K (J.a 0) (J.t J.d))
      (J.e (J.y K (J.a 0) (J.t J.d))
      (J.e (J.y K (J.a 0) J.v)
      (J.g (J.y K (J.a 0) J.v))))))),?_⟩
  walk_at "v"
  refine r_s K_Bend hp (by show 0<1000;decide) ?_
  have k1:Kp (·=p) H (upd H p (.ins c_Bend dx (putF "bound" (.ref pb) []))):=(Kp.of (Same.refl _)).upd rfl
  have hb1:=hb.tv (Fp k1 hp)
  have hp1:upd H p (.ins c_Bend dx (putF "bound" (.ref pb) [])) p=some (.ins c_Bend dx (putF "bound" (.ref pb) [])):=upd_same
  generalize upd H p (.ins c_Bend dx (putF "bound" (.ref pb) []))=H1 at *
  walk_at "v"
  refine ⟨pb,pb,β,β,n,n,rfl,hb1.qt,hb1.qt,by walk_at "o",fun tw H2 s2 f2=>?_⟩
  have k2:=k1.sm s2
  have hp2:=s2 _ _ hp1
  have hb2:=hb1.up s2
  walk_at "v"
  have F6:=fun Lb La=>(Fb.init pb tw Lb La .non .non).len
  refine r_s K_Bend hp2 (by have:=F6 pb pb;have:=lp "twice" (.ref tw) (putF "bound" (.ref pb) []);have:(putF "bound" (.ref pb) ([]:List (Str×V))).length=1:=rfl;walk_at "o") ?_
  have k3:Kp (·=p) H (upd H2 p (.ins c_Bend dx (putF "twice" (.ref tw) (putF "bound" (.ref pb) [])))):=k2.upd rfl
  have k23:Kp (·=p) H2 (upd H2 p (.ins c_Bend dx (putF "twice" (.ref tw) (putF "bound" (.ref pb) [])))):=(Kp.of (Same.refl _)).upd rfl
  have hb3:=hb2.tv (Fp k23 hp2)
  have f3:=f2.tv (Fp k23 hp2)
  have hp3:upd H2 p (.ins c_Bend dx (putF "twice" (.ref tw) (putF "bound" (.ref pb) []))) p=some (.ins c_Bend dx (putF "twice" (.ref tw) (putF "bound" (.ref pb) []))):=upd_same
  generalize upd H2 p (.ins c_Bend dx (putF "twice" (.ref tw) (putF "bound" (.ref pb) [])))=H3 at *
  walk_at "v"
  refine r_new (mk:=.lst) (by simp) fun Lb H4 s4 n4 e4=>?_
  have k4:=k3.sm s4
  have hp4:=s4 _ _ hp3
  have nb0:H Lb=none:=by
    cases g:H Lb with
    | none=>rfl
    | some o=>
      by_cases z:Lb=p
      · rw [z,hp3] at n4;cases n4
      · rw [k3 _ _ z g] at n4;cases n4
  have nLp:Lb≠p:=fun z=>by rw [z,hp3] at n4;cases n4
  walk_at "v"
  refine r_s K_Bend hp4 (by have z1:=putF_le "twice" (.ref tw) (putF "bound" (.ref pb) []);have z2:(putF "bound" (.ref pb) ([]:List (Str×V))).length=1:=rfl;walk_at "o") ?_
  have k45:Kp (·=p) H4 (upd H4 p (.ins c_Bend dx (putF "below" (.ref Lb) (putF "twice" (.ref tw) (putF "bound" (.ref pb) []))))):=(Kp.of (Same.refl _)).upd rfl
  have hb5:=(hb3.up s4).tv (Fp k45 hp4)
  have f5:=(f3.up s4).tv (Fp k45 hp4)
  have e5:=k45 _ _ nLp e4
  have k5:=k4.trans k45
  have hp5:upd H4 p (.ins c_Bend dx (putF "below" (.ref Lb) (putF "twice" (.ref tw) (putF "bound" (.ref pb) [])))) p=some (.ins c_Bend dx (putF "below" (.ref Lb) (putF "twice" (.ref tw) (putF "bound" (.ref pb) [])))):=upd_same
  generalize upd H4 p (.ins c_Bend dx (putF "below" (.ref Lb) (putF "twice" (.ref tw) (putF "bound" (.ref pb) []))))=H5 at *
  walk_at "v"
  refine r_new (mk:=.lst) (by simp) fun La H6 s6 n6 e6=>?_
  have k6:=k5.sm s6
  have hp6:=s6 _ _ hp5
  have na0:H La=none:=by
    cases g:H La with
    | none=>rfl
    | some o=>
      by_cases z:La=p
      · rw [z,hp5] at n6;cases n6
      · rw [k5 _ _ z g] at n6;cases n6
  have nMp:La≠p:=fun z=>by rw [z,hp5] at n6;cases n6
  have ne:Lb≠La:=fun z=>by rw [← z,e5] at n6;cases n6
  have F:=Fb.init pb tw Lb La .non .non
  have l0:=F.len
  have l1:=lp "steepest" .non (putF "gentlest" .non (putF "above" (.ref La) (putF "below" (.ref Lb) (putF "twice" (.ref tw) (putF "bound" (.ref pb) [])))))
  have l2:=lp "gentlest" .non (putF "above" (.ref La) (putF "below" (.ref Lb) (putF "twice" (.ref tw) (putF "bound" (.ref pb) []))))
  have l3:=lp "above" (.ref La) (putF "below" (.ref Lb) (putF "twice" (.ref tw) (putF "bound" (.ref pb) [])))
  walk_at "v"
  refine r_s K_Bend hp6 (by walk_at "o") ?_
  walk_at "v"
  refine r_s K_Bend upd_same (by walk_at "o") ?_
  walk_at "v"
  refine r_s K_Bend upd_same (by walk_at "o") ?_
  walk_at "v"
  rw [upd_upd,upd_upd]
  have k67:Kp (·=p) H6 (upd H6 p (.ins c_Bend dx (putF "steepest" .non (putF "gentlest" .non (putF "above" (.ref La) (putF "below" (.ref Lb) (putF "twice" (.ref tw) (putF "bound" (.ref pb) [])))))))):=(Kp.of (Same.refl _)).upd rfl
  have k7:=k6.trans k67
  refine k Lb La _ 0 (fun b o e=>?_) nb0 na0 ⟨dx,pb,tw,_,.non,.non,upd_same,F,k67 _ _ nLp (s6 _ _ e5),k67 _ _ nMp e6,ne,fun x hx=>absurd hx (by simp),(hb5.up s6).tv (Fp k67 hp6),?_,rfl,rfl,⟨fun x hx=>absurd hx (by simp),List.Pairwise.nil,Nat.le_refl _,Nat.le_refl _,fun z=>absurd z (by simp),fun q p _ _ _ z=>absurd z (by simp),fun q p _ _ _ z=>absurd z (by simp),fun _ _ e=>(by cases e),fun _=>rfl⟩⟩
  · by_cases hb':b=p
    · rw [hb'] at e
      unfold rm at e
      rw [if_pos rfl] at e
      cases e
    · rw [rm_at hb'] at e
      exact k7 _ _ hb' e
  · have:=((f5.up s6).tv (Fp k67 hp6)).qt
    have e2':(2*β:Rat)=β+β:=by grind
    rw [e2']
    exact this.mono (by walk_at "o")
theorem in_of {rs:Qs} {N:Nat} {h:Nat→Rat} (hm:rs.map (·.2)=(List.range N).map h):(∀i,i<N→∃x∈rs,x.2=h i)∧(∀x∈rs,∃i,i<N∧h i=x.2):=by
  constructor
  · intro i hi
    have:h i∈rs.map (·.2):=by rw [hm];exact List.mem_map.mpr ⟨i,List.mem_range.mpr hi,rfl⟩
    obtain ⟨x,hx,e⟩:=List.mem_map.mp this
    exact ⟨x,hx,e⟩
  · intro x hx
    have:x.2∈rs.map (·.2):=List.mem_map.mpr ⟨x,hx,rfl⟩
    rw [hm] at this
    obtain ⟨i,hi,e⟩:=List.mem_map.mp this
    exact ⟨i,List.mem_range.mp hi,e⟩
theorem allS_drop {es:List En} {j:Nat} (h:AllS es):AllS (es.drop j):=fun x hx=>h x (List.mem_of_mem_drop hx)
theorem row_drop {H:Hp} {es:List En} {j n:Nat} (h:Row H es n):Row H (es.drop j) n:=fun x hx=>h x (List.mem_of_mem_drop hx)
theorem zero_sz {n:Nat}:Sz n 0:=Nat.two_pow_pos n
theorem sc_Bend_line_of:FnScope ["self","steep","told","lows"] ["self","steep"] (defScope s_Bend_line_of):=⟨rfl,rfl,rfl,by decide +kernel,rfl,by decide +kernel,by decide +kernel⟩
theorem ok_Bend_line_of (F:Fun K "line_of" "Bend.line_of" s_Bend_line_of f fd) (K_Bend:Cl K mg "Bend" c_Bend ["bound","twice","below","above","gentlest","steepest"]) (D_reduced:Dn P w K mg base 4 "reduced" ["quotient"] spReduced) (D_loose_along:Dn P w K mg base 3 "loose_along" ["steep","sample","moment"] spLalong) (D_loose_minus:Dn P w K mg base 1 "loose_minus" ["one","other"] (spTwo (·-·) 1)) (D_greatest:Dn P w K mg base 2 "greatest" ["quotients"] spGreat):FnOk P w K mg base CX0 5 f fd ["self","steep"] (spLineOf c_Bend):=by
  refine F.ok sc_Bend_line_of (fun vs H Q E h=>?_) (fun cdv A outer s H vs Q E hr h=>?_)
  · obtain ⟨p,Lb,La,pt,ss,fl,ro,β,T,n,nb,g,s,rfl,_⟩:=h
    rfl
  obtain ⟨p,Lb,La,pt,ss,fl,ro,β,T,n,nb,g,s',rfl,⟨dx,bd,tw,fs,gv,sv,hB⟩,ht,h0,h900,hn,hnb,k⟩:=h
  have hlt:=(hB.P.lt h0).1
  have ld:(ss.drop fl).length=ss.length-fl:=List.length_drop ..
  refine J.l ⟨_,(J.e (J.i (i:=2) sc_Bend_line_of.nd rfl (Or.inr rfl) (J.j D_reduced (hr.mono (by decide)) rfl (J.b (J.a 1) J.d st_N) (he:=st_N) (hpl:=any0)) (hs:=sw_K))
      (J.e (Jd.ps_comp (O:=["sample"]) (N':=["told","self"]) (cap:=[2,0]) (i:=3) sc_Bend_line_of.nd rfl (Or.inl rfl) rfl (J.x K (J.p K (J.a 0))) (fun _ _ _ _ _=>(J.q (i:=0) (show List.Nodup [("sample":Str),("told":Str),("self":Str)] by decide +kernel) rfl (Or.inl rfl))) (fun _ _ _ _ _=>J.ad) (fun _ _ _ _ _=>(J.j D_loose_minus (hr.mono (by decide)) rfl (J.b (J.j D_loose_along (hr.mono (by decide)) rfl (J.b (J.a 1) (J.b (J.a 0) (J.b J.c J.d st_C) st_N) st_N) (he:=st_N) (hpl:=(anyc st_N (anyc st_C any0)))) (J.b (J.p K (J.a 2)) J.d) st_K) (he:=st_K) (hpl:=(anyc (by rfl) any0)))) rfl ⟨⟨rfl,rfl,rfl,rfl⟩,⟨⟨rfl,rfl,rfl,rfl⟩,trivial⟩⟩ rfl (by decide +kernel) rfl (by decide +kernel) (by rfl))
      (J.g (J.k (J.m (J.b (J.a 2) (J.b (J.j D_reduced (hr.mono (by decide)) rfl (J.b (J.j D_greatest (hr.mono (by decide)) rfl (J.b (J.a 3) J.d st_N) (he:=st_N) (hpl:=any0)) J.d st_K) (he:=st_K) (hpl:=any0)) J.d st_K) st_N)))))),?_⟩
  walk_at "v"
  refine ⟨pt,T,_,rfl,ht,by walk_at "o",fun to H1 s1 f1=>?_⟩
  walk_at "v"
  refine r_iL ?_
  walk_at "v"
  refine r_f K_Bend (s1 _ _ hB.at_) hB.F.bl ?_
  refine ⟨Lb,rfl,⟨_,SqL.of (s1 _ _ hB.eb)⟩,?_⟩
  refine compB_of (xs:=vals (ss.drop fl)) tells_list (fun H3 s3=>SqL.of (s3 _ _ (s1 _ _ hB.eb))) (by rw [vals_len];walk_at "o") (fun i ys G'=>∃rs:Qs,ys=qrefs rs∧AllQ G' rs (5*n+3*nb+7)∧rs.map (·.2)=(List.range i).map (fun j=>lev (ss.drop fl) T j-β)) ⟨[],rfl,fun z hz=>absurd hz (by simp),rfl⟩ ?_ ?_
  · rintro D i v ys H3 σ0 N N0 h0' hD eD s3 hv hy ⟨rs,rfl,hrs,hmap⟩ kY kN
    obtain ⟨e,he,rfl⟩:=vals_at hv
    have hi:i<(ss.drop fl).length:=(List.getElem?_eq_some_iff.mp he).1
    obtain ⟨xi,gi,fi⟩:=sa_at (row_drop (hB.row.up (s1.trans s3))) (allS_drop hB.P.all) hi
    rw [he] at gi
    cases gi
    refine r_own1 h0' ?_
    walk_at "v"
    refine iteT ?_
    walk_at "v"
    refine ⟨to,e.1,T,_,_,0,_,n,rfl,(f1.up s3).qt,fi,zero_sz,by walk_at "o",by walk_at "o",fun x H4 s4 f4=>?_⟩
    walk_at "v"
    refine r_f K_Bend ((s1.trans (s3.trans s4)) _ _ hB.at_) hB.F.bd ?_
    walk_at "v"
    refine ⟨x,bd,_,β,_,nb,rfl,f4,(hB.fbd.up (s1.trans (s3.trans s4))).qt,by walk_at "o",fun x5 H5 s5 f5=>?_⟩
    refine kY _ H5 (s4.trans s5) ⟨rs++[(x5,lev (ss.drop fl) T i-β)],by simp [qrefs],fun y hy'=>?_,?_⟩
    · rcases List.mem_append.mp hy' with w | w
      · exact (hrs y w).up (rm_rm (s4.trans s5))
      · obtain rfl:y=(x5,lev (ss.drop fl) T i-β):=by simpa using w
        have e1:wo (ss.drop fl) i+T*((0-mo (ss.drop fl) i:Int):Rat)-β=lev (ss.drop fl) T i-β:=by
          unfold lev
          rw [Rat.intCast_sub]
          grind
        have f5:QtAt H5 x5 (wo (ss.drop fl) i+T*((0-mo (ss.drop fl) i:Int):Rat)-β) _:=f5
        rw [e1] at f5
        obtain ⟨t,d,e',ff⟩:=f5.mono (show 3*n+(2*nb+1)+3+2*n+2+nb+1≤5*n+3*nb+7 by walk_at "o")
        exact ⟨t,d,rm_tup ((s4.trans s5) _ _ eD) e',ff⟩
    · rw [List.map_append,hmap,List.range_succ,List.map_append]
      rfl
  rintro D ys H3 hD eD s3 hy ⟨rs,rfl,hrs,hmap⟩
  rw [vals_len] at hmap
  have hlen:rs.length=(ss.drop fl).length:=by
    have:=congrArg List.length hmap
    simpa using this
  obtain ⟨inR,ofR⟩:=in_of hmap
  walk_at "v"
  refine ⟨D,rs,5*n+3*nb+7,rfl,eD,fun x hx=>(hrs x hx).up rm_same,by walk_at "o",by walk_at "o",fun mx hmx hmax=>?_⟩
  walk_at "v"
  refine ⟨mx.1,mx.2,_,rfl,(hrs mx hmx).up rm_same,by walk_at "o",fun r4 H4 s4 f4=>?_⟩
  walk_at "v"
  refine r_new (mk:=.tup) (by simp) fun y H5 s5 n5 e5=>?_
  refine k y mx.2 H5 (s1.trans (s3.trans (s4.trans s5))) ⟨to,r4,e5,(f1.up (s3.trans (s4.trans s5))).mono (by walk_at "o"),f4.up s5⟩ (fun i hi hl=>?_) ?_
  · obtain ⟨x,hx,e⟩:=inR (i-fl) (by walk_at "o")
    have:=hmax x hx
    rw [e,lev_drop,show fl+(i-fl)=i by walk_at "o"] at this
    exact this
  · obtain ⟨i,hi,e⟩:=ofR mx hmx
    exact ⟨fl+i,by walk_at "o",by walk_at "o",by rw [← lev_drop];exact e⟩
theorem sc_Bend_ended_in_cap:FnScope ["self","sample","line","first","mid"] ["self","sample"] (defScope s_Bend_ended_in_cap):=⟨rfl,rfl,rfl,by decide +kernel,rfl,by decide +kernel,by decide +kernel⟩
theorem ok_Bend_ended_in_cap (F:Fun K "ended_in_cap" "Bend.ended_in_cap" s_Bend_ended_in_cap f fd) (K_Bend:Cl K mg "Bend" c_Bend ["bound","twice","below","above","gentlest","steepest"]) (D_Bend_line_of:Dm P w K mg base 5 c_Bend "line_of" ["self","steep"] (spLineOf c_Bend)) (D_touched:Dn P w K mg base 5 "touched" ["samples","line","lift"] spTouched) (D_opposite:Dn P w K mg base 1 "opposite" ["one"] spOpp) (D_steepest_with:Dn P w K mg base 4 "steepest_with" ["known","earlier","sample","twice"] spSteep):FnOk P w K mg base CX0 6 f fd ["self","sample"] (spCap c_Bend):=by
  refine F.ok sc_Bend_ended_in_cap (fun vs H Q E h=>?_) (fun cdv A outer s H vs Q E hr h=>?_)
  · obtain ⟨p,Lb,La,x,ss,fl,ro,m,q,β,G,n,nb,s,rfl,_⟩:=h
    rfl
  obtain ⟨p,Lb,La,x,ss,fl,ro,m,q,β,G,n,nb,s',rfl,⟨dx,bd,tw,fs,gv,sv,hB⟩,hx,hm,h900,h1,hn,hnb,hβ,hoff,k⟩:=h
  have h0:0<ss.length:=by obtain ⟨i,_,hi,_⟩:=hoff;walk_at "o"
  obtain ⟨hfl,hro⟩:=hB.P.lt h0
  obtain ⟨pg,rfl,fg⟩:=id hB.G
  obtain ⟨gG,hG⟩:=hB.P.hiG rfl
  have ris:=hB.P.ris
  refine J.l ⟨_,(J.e (J.i (i:=2) sc_Bend_ended_in_cap.nd rfl (Or.inl rfl) (Jd.pe_dm D_Bend_line_of K_Bend.cl (hr.mono (by decide)) (J.a 0) (J.b (J.p K (J.a 0)) J.d) (he:=(by rfl)) (hpl:=any0)) (hs:=sw_K))
      (J.e (J.i (i:=3) sc_Bend_ended_in_cap.nd rfl (Or.inl rfl) (J.f (ixL K) (J.j D_touched (hr.mono (by decide)) rfl (J.b (J.p K (J.a 0)) (J.b (J.a 2) (J.b (J.j D_opposite (hr.mono (by decide)) rfl (J.b (J.p K (J.a 0)) J.d) (he:=(by rfl)) (hpl:=any0)) J.d st_K) st_N)) (he:=(by rfl)) (hpl:=(anyc st_N (anyc st_K any0)))) J.c (fun _ _=>rfl)) (hs:=sw_S))
      (J.e (J.i (i:=4) sc_Bend_ended_in_cap.nd rfl (Or.inr rfl) (J.f (ixL K) (J.j D_touched (hr.mono (by decide)) rfl (J.b (J.p K (J.a 0)) (J.b (J.a 2) (J.b (J.p K (J.a 0)) J.d) st_N)) (he:=(by rfl)) (hpl:=(anyc st_N (anyc (by rfl) any0)))) (J.z un_neg J.c) (fun _ _=>rfl)) (hs:=sw_S))
      (J.e (J.y K (J.a 0) (J.ac (O:=["other"]) (N':=["mid"]) (cap:=[4]) rfl (J.x K (J.p K (J.a 0))) (fun _ _ _ _ _=>(J.q (i:=0) (show List.Nodup [("other":Str),("mid":Str)] by decide +kernel) rfl (Or.inl rfl))) (fun _ _ _ _ _=>(Jd.pts_one (J.n op_ge (J.f (ixT K) (J.a 0) J.c (fun _ _=>rfl)) (J.f (ixT K) (J.a 1) J.c (fun _ _=>rfl)) (nomark _)))) (fun _ _ _ _ _=>(J.a 0)) rfl ⟨⟨rfl,rfl,rfl,rfl⟩,trivial⟩ rfl (by decide +kernel) rfl (by decide +kernel)))
      (J.e (J.y K (J.a 0) (J.j D_steepest_with (hr.mono (by decide)) rfl (J.b J.v (J.b (J.p K (J.a 0)) (J.b (J.a 1) (J.b (J.p K (J.a 0)) J.d) st_N)) st_C) (he:=st_C) (hpl:=(anyc (by rfl) (anyc st_N (anyc (by rfl) any0))))))
      (J.e (J.y K (J.a 0) J.v)
      (J.e (J.u (J.w K (J.p K (J.a 0)) (J.a 1)) (hs:=sw_K))
      (J.e (J.y K (J.a 0) (J.t (J.b (J.a 1) J.d st_N)))
      (J.g (J.k (J.m (J.b (J.a 2) (J.b (J.m (J.b (J.f (ixT K) (J.a 3) J.c (fun _ _=>rfl)) (J.b (J.f (ixT K) (J.a 4) J.c (fun _ _=>rfl)) (J.b (J.f (ixT K) (J.a 1) J.c (fun _ _=>rfl)) J.d st_S) st_S) st_S)) J.d st_T) st_N)))))))))))),?_⟩
  walk_at "v"
  refine r_m hB.at_ (hB.F.meth "line_of") ?_
  walk_at "v"
  refine r_f K_Bend hB.at_ hB.F.g ?_
  walk_at "v"
  refine ⟨p,Lb,La,pg,ss,fl,ro,β,G,n,nb,some G,s',rfl,⟨dx,bd,tw,fs,_,sv,hB⟩,fg,h0,h900,hn,hnb,fun ln fo H1 s1 f1 lo ex=>?_⟩
  obtain ⟨hi,q0,p0,a1,a2,a3,a4,eq0,ep0⟩:=cap_touch hβ ris gG hG lo ex
  have hB1:=hB.up s1
  walk_at "v"
  refine r_f K_Bend hB1.at_ hB.F.ab ?_
  walk_at "v"
  refine r_f K_Bend hB1.at_ hB.F.bd ?_
  walk_at "v"
  refine ⟨bd,β,nb,rfl,hB1.fbd.qt,fun ob H2 s2 f2=>?_⟩
  have hB2:=hB1.up s2
  walk_at "v"
  refine ⟨La,ln,ob,ss.drop ro,G,fo,-β,n,_,nb,rfl,hB2.ea,row_drop hB2.row,allS_drop hB.P.all,f1.up2 s2,f2,h1,by walk_at "o",by walk_at "o",by walk_at "o",by rw [List.length_drop];walk_at "o",fun R3 H3 s3 n3 e3=>?_⟩
  have hB3:=hB2.up s3
  obtain ⟨a,xa,b1,b2,ga,g0,ea⟩:=touch_first (l:=-β) (f:=fo) a1 (by walk_at "o") (show lev ss G q0-fo=-β by grind)
  obtain ⟨xa',ga',fa⟩:=sa_at (hB3.row) hB.P.all (show a<ss.length by walk_at "o")
  rw [ga] at ga'
  cases ga'
  walk_at "v"
  refine r_l e3 (at_zero g0) ?_
  walk_at "v"
  refine r_f K_Bend hB3.at_ hB.F.bl ?_
  walk_at "v"
  refine r_f K_Bend hB3.at_ hB.F.bd ?_
  walk_at "v"
  refine ⟨Lb,ln,bd,ss.drop fl,G,fo,β,n,_,nb,rfl,hB3.eb,row_drop hB3.row,allS_drop hB.P.all,f1.up2 (s2.trans s3),hB3.fbd.qt,h1,by walk_at "o",by walk_at "o",by walk_at "o",by rw [List.length_drop];walk_at "o",fun R4 H4 s4 n4 e4=>?_⟩
  have hB4:=hB3.up s4
  have s04:=s1.trans (s2.trans (s3.trans s4))
  obtain ⟨b,xb,c1,c2,gb,g1,eb,fb⟩:=touch_last (l:=β) (f:=fo) a3 a4 (show lev ss G p0-fo=β by grind)
  obtain ⟨xb',gb',fxb⟩:=sa_at hB4.row hB.P.all c2
  rw [gb] at gb'
  cases gb'
  obtain ⟨vb,evb,_⟩:=id fxb
  obtain ⟨va,eva,_⟩:=id (fa.up s4)
  have mb:xb.2.1=mo ss b:=by unfold mo;rw [gb];rfl
  have gdb:(ss.drop fl)[b-fl]?=some xb:=by rw [List.getElem?_drop,show fl+(b-fl)=b by walk_at "o"];exact gb
  have edb:(ss.drop fl).filter (fun y=>decide (xb.2.1≤y.2.1))=ss.drop b:=by
    rw [drop_of (drop_rising ris) gdb,List.drop_drop,show fl+(b-fl)=b by walk_at "o"]
  walk_at "v"
  refine r_l e4 (at_neg1 g1) ?_
  walk_at "v"
  refine r_iL ?_
  walk_at "v"
  refine r_f K_Bend hB4.at_ hB.F.bl ?_
  refine ⟨Lb,rfl,⟨_,SqL.of hB4.eb⟩,?_⟩
  refine compB_of (xs:=vals (ss.drop fl)) tells_list (fun H5 s5=>SqL.of (s5 _ _ hB4.eb)) (by rw [vals_len,List.length_drop];walk_at "o") (fun i ys _=>ys=vals (((ss.drop fl).take i).filter (fun y=>decide (xb.2.1≤y.2.1)))) rfl ?_ ?_
  · rintro D i v ys H5 σ0 N N0 h0' hD eD s5 hv hy rfl kY kN
    obtain ⟨e,he,rfl⟩:=vals_at hv
    have hi:i<(ss.drop fl).length:=(List.getElem?_eq_some_iff.mp he).1
    obtain ⟨xi,gi,⟨vi,ei,_⟩⟩:=sa_at (row_drop (hB4.row.up s5)) (allS_drop hB.P.all) hi
    rw [he] at gi
    cases gi
    have me:mo (ss.drop fl) i=e.2.1:=by unfold mo;rw [he];rfl
    have ts:=PySem.take_succ_filter (fun y:En=>decide (xb.2.1≤y.2.1)) (ss.drop fl) i e he
    have evb5:=s5 _ _ evb
    refine r_own1 h0' ?_
    walk_at "v"
    cases hs:decide (xb.2.1≤e.2.1) with
    | true=>
      rw [hs,if_pos rfl] at ts
      have hs':=of_decide_eq_true hs
      rw [show decide (mo ss b≤mo (ss.drop fl) i)=true from decide_eq_true (by rw [me,← mb];exact hs')]
      refine iteT ?_
      walk_at "v"
      exact kY _ H5 (Same.refl _) (by rw [ts,← vals_snoc])
    | false=>
      rw [hs,if_neg Bool.false_ne_true,List.append_nil] at ts
      have hs':=of_decide_eq_false hs
      rw [show decide (mo ss b≤mo (ss.drop fl) i)=false from decide_eq_false (by rw [me,← mb];exact hs')]
      refine iteF ?_
      exact kN H5 (Same.refl _) (by rw [ts])
  rintro D ys H5 hD eD s5 hy rfl
  rw [vals_len,List.take_length,edb] at eD
  have hB5:=hB4.up s5
  have s05:=s04.trans s5
  have nD:H D=none:=by
    cases g:H D with
    | none=>rfl
    | some o=>rw [s04 _ _ g] at hD;cases hD
  have nDp:D≠p:=fun z=>by rw [z,hB.at_] at nD;cases nD
  have fl0:=hB.F.len
  walk_at "v"
  refine r_s K_Bend hB5.at_ (by walk_at "o") ?_
  have kd:Kp (fun b=>b=p) H5 (upd H5 p (.ins c_Bend dx (putF "below" (.ref D) fs))):=(Kp.of (Same.refl _)).upd rfl
  have ep6:upd H5 p (.ins c_Bend dx (putF "below" (.ref D) fs)) p=some (.ins c_Bend dx (putF "below" (.ref D) fs)):=upd_same
  have k6:Kp (fun b=>b=p∨b=D) H (upd H5 p (.ins c_Bend dx (putF "below" (.ref D) fs))):=(Kp.of s05).upd (.inl rfl)
  have eD6:=kd _ _ nDp eD
  have tp:∀{b:Addr} {xs:List V},H5 b=some (.tup xs)→upd H5 p (.ins c_Bend dx (putF "below" (.ref D) fs)) b=some (.tup xs):=fun e=>kd _ _ (fun z=>by rw [z,hB5.at_] at e;cases e) e
  have row6:=(hB5.row).tv tp
  have hx6:=((hx.up s05).en.tv tp).sa
  have ftw6:=hB5.ftw.tv tp
  have fbd6:=hB5.fbd.tv tp
  have fln6:=(f1.up2 (s2.trans (s3.trans (s4.trans s5)))).tv tp
  have eva6:=tp (s5 _ _ eva)
  have evb6:=tp (s5 _ _ evb)
  generalize upd H5 p (.ins c_Bend dx (putF "below" (.ref D) fs))=H6 at *
  have F6:=hB.F.set_bl (y:=D)
  have l6:=F6.len
  walk_at "v"
  refine r_f K_Bend ep6 F6.bl ?_
  walk_at "v"
  refine r_f K_Bend ep6 F6.tw ?_
  walk_at "v"
  have ldb:(ss.drop b).length=ss.length-b:=List.length_drop ..
  refine ⟨.non,D,x,tw,ss.drop b,m,q,2*β,n,2*nb+1,rfl,eD6,row_drop row6,allS_drop hB.P.all,hx6,ftw6,by walk_at "o",by walk_at "o",by walk_at "o",fun i hi=>by rw [mo_drop];exact hm _ (by walk_at "o"),.inl rfl,fun z=>absurd z (by walk_at "o"),fun _ ps S H7 s7 f7 _ hall hex=>?_⟩
  have sS:SF (ss++[(x,m,some q)]) (2*β) b ss.length S:=sf_new (s:=none) (fun _ e=>by cases e) (fun _ i j _ _ z=>by walk_at "o") (Nat.le_refl _) hall (by
    rcases hex with z | ⟨pk,e,_⟩
    · exact .inl z
    · cases e)
  walk_at "v"
  have ep7:=s7 _ _ ep6
  refine r_s K_Bend ep7 (by walk_at "o") ?_
  walk_at "v"
  refine r_s K_Bend upd_same (by rw [putF_len F6.s];walk_at "o") ?_
  walk_at "v"
  refine r_f K_Bend upd_same F6.set_s.set_g.bl ?_
  walk_at "v"
  rw [upd_upd]
  have k8:Kp (fun b=>b=p∨b=D) H (upd H7 p (.ins c_Bend dx (putF "gentlest" .non (putF "steepest" (.ref ps) (putF "below" (.ref D) fs))))):=(k6.sm s7).upd (.inl rfl)
  have ep8:upd H7 p (.ins c_Bend dx (putF "gentlest" .non (putF "steepest" (.ref ps) (putF "below" (.ref D) fs)))) p=some (.ins c_Bend dx (putF "gentlest" .non (putF "steepest" (.ref ps) (putF "below" (.ref D) fs)))):=upd_same
  have k78:Kp (fun b=>b=p) H7 (upd H7 p (.ins c_Bend dx (putF "gentlest" .non (putF "steepest" (.ref ps) (putF "below" (.ref D) fs))))):=(Kp.of (Same.refl _)).upd rfl
  have eD8:=k78 _ _ nDp (s7 _ _ eD6)
  have tp8:∀{b:Addr} {xs:List V},H6 b=some (.tup xs)→upd H7 p (.ins c_Bend dx (putF "gentlest" .non (putF "steepest" (.ref ps) (putF "below" (.ref D) fs)))) b=some (.tup xs):=fun e=>k78 _ _ (fun z=>by rw [z,ep6] at e;cases e) (s7 _ _ e)
  have f8:QtAt (upd H7 p (.ins c_Bend dx (putF "gentlest" .non (putF "steepest" (.ref ps) (putF "below" (.ref D) fs))))) ps S (3*n+(2*nb+1)+3):=f7.tv fun {b xs} e=>k78 _ _ (fun z=>by rw [z,ep7] at e;cases e) e
  generalize upd H7 p (.ins c_Bend dx (putF "gentlest" .non (putF "steepest" (.ref ps) (putF "below" (.ref D) fs))))=H8 at *
  have F8:=F6.set_s (y:=.ref ps) |>.set_g (y:=.non)
  refine ⟨.inl ⟨rfl,_,SqL.of eD8⟩,?_⟩
  walk_at "v"
  refine r_app eD8 (by rw [vals_len];exact small1000 (by walk_at "o")) ?_
  have k9:Kp (fun b=>b=p∨b=D) H (upd H8 D (.lst (vals (ss.drop b)++[.ref x]))):=k8.upd (.inr rfl)
  have ep9:upd H8 D (.lst (vals (ss.drop b)++[.ref x])) p=some (.ins c_Bend dx (putF "gentlest" .non (putF "steepest" (.ref ps) (putF "below" (.ref D) fs)))):=by rw [upd_ne (Ne.symm nDp)];exact ep8
  have eD9:upd H8 D (.lst (vals (ss.drop b)++[.ref x])) D=some (.lst (vals ((ss++[(x,m,some q)]).drop b))):=by
    rw [upd_same,List.drop_append_of_le_length (by walk_at "o"),← vals_snoc]
  have tp9:∀{b':Addr} {xs:List V},H8 b'=some (.tup xs)→upd H8 D (.lst (vals (ss.drop b)++[.ref x])) b'=some (.tup xs):=fun e=>by rw [upd_ne (fun z=>by rw [z,eD8] at e;cases e)];exact e
  generalize upd H8 D (.lst (vals (ss.drop b)++[.ref x]))=H9 at *
  walk_at "v"
  refine r_new (mk:=.lst) (by simp) fun M H10 s10 n10 e10=>?_
  have nM:H M=none:=by
    cases g:H M with
    | none=>rfl
    | some o=>
      by_cases z:M=p
      · rw [z,ep9] at n10;cases n10
      · by_cases z2:M=D
        · rw [z2,eD9] at n10;cases n10
        · rw [k9 _ _ (fun u=>by rcases u with u | u;exact z u;exact z2 u) g] at n10;cases n10
  have nMp:M≠p:=fun z=>by rw [z,hB.at_] at nM;cases nM
  have nMD:D≠M:=fun z=>by rw [← z,eD9] at n10;cases n10
  walk_at "v"
  have l8:=F8.len
  refine r_s K_Bend (s10 _ _ ep9) (by walk_at "o") ?_
  have F11:=F8.set_ab (y:=M)
  have k11:Kp (fun b=>b=p∨b=D) H (upd H10 p (.ins c_Bend dx (putF "above" (.ref M) (putF "gentlest" .non (putF "steepest" (.ref ps) (putF "below" (.ref D) fs)))))):=(k9.sm s10).upd (.inl rfl)
  have ep11:upd H10 p (.ins c_Bend dx (putF "above" (.ref M) (putF "gentlest" .non (putF "steepest" (.ref ps) (putF "below" (.ref D) fs))))) p=some (.ins c_Bend dx (putF "above" (.ref M) (putF "gentlest" .non (putF "steepest" (.ref ps) (putF "below" (.ref D) fs))))):=upd_same
  have k1011:Kp (fun b=>b=p) H10 (upd H10 p (.ins c_Bend dx (putF "above" (.ref M) (putF "gentlest" .non (putF "steepest" (.ref ps) (putF "below" (.ref D) fs)))))):=(Kp.of (Same.refl _)).upd rfl
  have eD11:=k1011 _ _ nDp (s10 _ _ eD9)
  have eM11:=k1011 _ _ nMp e10
  have tp11:∀{b:Addr} {xs:List V},H9 b=some (.tup xs)→upd H10 p (.ins c_Bend dx (putF "above" (.ref M) (putF "gentlest" .non (putF "steepest" (.ref ps) (putF "below" (.ref D) fs))))) b=some (.tup xs):=fun e=>k1011 _ _ (fun z=>by rw [z,ep9] at e;cases e) (s10 _ _ e)
  generalize upd H10 p (.ins c_Bend dx (putF "above" (.ref M) (putF "gentlest" .non (putF "steepest" (.ref ps) (putF "below" (.ref D) fs)))))=H11 at *
  have t11:∀{b:Addr} {xs:List V},H6 b=some (.tup xs)→H11 b=some (.tup xs):=fun e=>tp11 (tp9 (tp8 e))
  have eva11:=t11 eva6
  have evb11:=t11 evb6
  obtain ⟨vx,evx,_⟩:=id hx6
  have evx11:=t11 evx
  walk_at "v"
  refine r_new (mk:=.tup) (by simp) fun th H12 s12 n12 e12=>?_
  walk_at "v"
  refine r_new (mk:=.tup) (by simp) fun r H13 s13 n13 e13=>?_
  have s113:=s12.trans s13
  refine k r ln th D M fo a b (some S) H13 (fun b' o e=>?_) ⟨gG,hoff,lo,hi,b1,by grind,by walk_at "o",c2,by grind,fun i hi hl z=>fb i hi hl (by grind),by walk_at "o"⟩ e13 ((fln6.tv t11).up2 s113) (s13 _ _ e12) ⟨dx,bd,tw,_,.non,.ref ps,Bd0.up ⟨ep11,F11,eD11,?_,nMD,?_,fbd6.tv t11,ftw6.tv t11,rfl,⟨ps,rfl,(f8.tv fun e=>tp11 (tp9 e))⟩,?_⟩ s113⟩ nD nM
  · obtain ⟨n1,n2,n3,e⟩:=rmB_of e
    refine s113 _ _ (k11 _ _ (fun z=>?_) e)
    rcases z with z | z
    · exact n1 z
    · rw [z,nD] at e;cases e
  · rw [List.drop_append_of_le_length (Nat.le_refl _),List.drop_length]
    exact eM11
  · exact (row6.tv t11).snoc (hx6.en.tv t11)
  · refine ⟨allS_new hB.P.all,rising1 ris hm,by rw [len1];walk_at "o",by rw [len1];walk_at "o",fun _=>by rw [len1];walk_at "o",fun i j hi hij _ hj=>?_,sS,fun _ _ e=>(by cases e),fun z=>absurd z (by walk_at "o")⟩
    rw [len1] at hj
    walk_at "o"
theorem sc_Bend_ended_in_cup:FnScope ["self","sample","line","first","mid"] ["self","sample"] (defScope s_Bend_ended_in_cup):=⟨rfl,rfl,rfl,by decide +kernel,rfl,by decide +kernel,by decide +kernel⟩
theorem ok_Bend_ended_in_cup (F:Fun K "ended_in_cup" "Bend.ended_in_cup" s_Bend_ended_in_cup f fd) (K_Bend:Cl K mg "Bend" c_Bend ["bound","twice","below","above","gentlest","steepest"]) (D_Bend_line_of:Dm P w K mg base 5 c_Bend "line_of" ["self","steep"] (spLineOf c_Bend)) (D_touched:Dn P w K mg base 5 "touched" ["samples","line","lift"] spTouched) (D_opposite:Dn P w K mg base 1 "opposite" ["one"] spOpp) (D_gentlest_with:Dn P w K mg base 4 "gentlest_with" ["known","earlier","sample","twice"] spGentle):FnOk P w K mg base CX0 6 f fd ["self","sample"] (spCup c_Bend):=by
  refine F.ok sc_Bend_ended_in_cup (fun vs H Q E h=>?_) (fun cdv A outer s H vs Q E hr h=>?_)
  · obtain ⟨p,Lb,La,x,ss,fl,ro,m,q,β,G,n,nb,s,rfl,_⟩:=h
    rfl
  obtain ⟨p,Lb,La,x,ss,fl,ro,m,q,β,G,n,nb,s',rfl,⟨dx,bd,tw,fs,gv,sv,hB⟩,hx,hm,h900,h1,hn,hnb,hβ,hoff,k⟩:=h
  have h0:0<ss.length:=by obtain ⟨i,_,hi,_⟩:=hoff;walk_at "o"
  obtain ⟨hfl,hro⟩:=hB.P.lt h0
  obtain ⟨pg,rfl,fg⟩:=id hB.S
  obtain ⟨gG,hG⟩:=hB.P.loS rfl
  have ris:=hB.P.ris
  refine J.l ⟨_,(J.e (J.i (i:=2) sc_Bend_ended_in_cup.nd rfl (Or.inl rfl) (Jd.pe_dm D_Bend_line_of K_Bend.cl (hr.mono (by decide)) (J.a 0) (J.b (J.p K (J.a 0)) J.d) (he:=(by rfl)) (hpl:=any0)) (hs:=sw_K))
      (J.e (J.i (i:=3) sc_Bend_ended_in_cup.nd rfl (Or.inl rfl) (J.f (ixL K) (J.j D_touched (hr.mono (by decide)) rfl (J.b (J.p K (J.a 0)) (J.b (J.a 2) (J.b (J.p K (J.a 0)) J.d) st_N)) (he:=(by rfl)) (hpl:=(anyc st_N (anyc (by rfl) any0)))) J.c (fun _ _=>rfl)) (hs:=sw_S))
      (J.e (J.i (i:=4) sc_Bend_ended_in_cup.nd rfl (Or.inr rfl) (J.f (ixL K) (J.j D_touched (hr.mono (by decide)) rfl (J.b (J.p K (J.a 0)) (J.b (J.a 2) (J.b (J.j D_opposite (hr.mono (by decide)) rfl (J.b (J.p K (J.a 0)) J.d) (he:=(by rfl)) (hpl:=any0)) J.d st_K) st_N)) (he:=(by rfl)) (hpl:=(anyc st_N (anyc st_K any0)))) (J.z un_neg J.c) (fun _ _=>rfl)) (hs:=sw_S))
      (J.e (J.y K (J.a 0) (J.ac (O:=["other"]) (N':=["mid"]) (cap:=[4]) rfl (J.x K (J.p K (J.a 0))) (fun _ _ _ _ _=>(J.q (i:=0) (show List.Nodup [("other":Str),("mid":Str)] by decide +kernel) rfl (Or.inl rfl))) (fun _ _ _ _ _=>(Jd.pts_one (J.n op_ge (J.f (ixT K) (J.a 0) J.c (fun _ _=>rfl)) (J.f (ixT K) (J.a 1) J.c (fun _ _=>rfl)) (nomark _)))) (fun _ _ _ _ _=>(J.a 0)) rfl ⟨⟨rfl,rfl,rfl,rfl⟩,trivial⟩ rfl (by decide +kernel) rfl (by decide +kernel)))
      (J.e (J.y K (J.a 0) (J.j D_gentlest_with (hr.mono (by decide)) rfl (J.b J.v (J.b (J.p K (J.a 0)) (J.b (J.a 1) (J.b (J.p K (J.a 0)) J.d) st_N)) st_C) (he:=st_C) (hpl:=(anyc (by rfl) (anyc st_N (anyc (by rfl) any0))))))
      (J.e (J.y K (J.a 0) J.v)
      (J.e (J.u (J.w K (J.p K (J.a 0)) (J.a 1)) (hs:=sw_K))
      (J.e (J.y K (J.a 0) (J.t (J.b (J.a 1) J.d st_N)))
      (J.g (J.k (J.m (J.b (J.a 2) (J.b (J.m (J.b (J.f (ixT K) (J.a 3) J.c (fun _ _=>rfl)) (J.b (J.f (ixT K) (J.a 4) J.c (fun _ _=>rfl)) (J.b (J.f (ixT K) (J.a 1) J.c (fun _ _=>rfl)) J.d st_S) st_S) st_S)) J.d st_T) st_N)))))))))))),?_⟩
  walk_at "v"
  refine r_m hB.at_ (hB.F.meth "line_of") ?_
  walk_at "v"
  refine r_f K_Bend hB.at_ hB.F.s ?_
  walk_at "v"
  refine ⟨p,Lb,La,pg,ss,fl,ro,β,G,n,nb,s',some G,rfl,⟨dx,bd,tw,fs,gv,_,hB⟩,fg,h0,h900,hn,hnb,fun ln fo H1 s1 f1 lo ex=>?_⟩
  obtain ⟨hi,q0,p0,a1,a2,a3,a4,eq0,ep0⟩:=cup_touch hβ ris gG hG lo ex
  have hB1:=hB.up s1
  walk_at "v"
  refine r_f K_Bend hB1.at_ hB.F.bl ?_
  walk_at "v"
  refine r_f K_Bend hB1.at_ hB.F.bd ?_
  walk_at "v"
  refine ⟨Lb,ln,bd,ss.drop fl,G,fo,β,n,_,nb,rfl,hB1.eb,row_drop hB1.row,allS_drop hB.P.all,f1,hB1.fbd.qt,h1,by walk_at "o",by walk_at "o",by walk_at "o",by rw [List.length_drop];walk_at "o",fun R3 H3 s3 n3 e3=>?_⟩
  have hB3:=hB1.up s3
  obtain ⟨a,xa,b1,b2,ga,g0,ea⟩:=touch_first (l:=β) (f:=fo) a1 (by walk_at "o") (show lev ss G q0-fo=β by grind)
  obtain ⟨xa',ga',fa⟩:=sa_at (hB3.row) hB.P.all (show a<ss.length by walk_at "o")
  rw [ga] at ga'
  cases ga'
  walk_at "v"
  refine r_l e3 (at_zero g0) ?_
  walk_at "v"
  refine r_f K_Bend hB3.at_ hB.F.ab ?_
  walk_at "v"
  refine r_f K_Bend hB3.at_ hB.F.bd ?_
  walk_at "v"
  refine ⟨bd,β,nb,rfl,hB3.fbd.qt,fun ob H2 s2 f2=>?_⟩
  have hB2:=hB3.up s2
  walk_at "v"
  refine ⟨La,ln,ob,ss.drop ro,G,fo,-β,n,_,nb,rfl,hB2.ea,row_drop hB2.row,allS_drop hB.P.all,f1.up2 (s3.trans s2),f2,h1,by walk_at "o",by walk_at "o",by walk_at "o",by rw [List.length_drop];walk_at "o",fun R4 H4 s4 n4 e4=>?_⟩
  have hB4:=hB2.up s4
  have s04:=s1.trans (s3.trans (s2.trans s4))
  obtain ⟨b,xb,c1,c2,gb,g1,eb,fb⟩:=touch_last (l:=-β) (f:=fo) a3 a4 (show lev ss G p0-fo=-β by grind)
  obtain ⟨xb',gb',fxb⟩:=sa_at hB4.row hB.P.all c2
  rw [gb] at gb'
  cases gb'
  obtain ⟨vb,evb,_⟩:=id fxb
  obtain ⟨va,eva,_⟩:=id (fa.up (s2.trans s4))
  have mb:xb.2.1=mo ss b:=by unfold mo;rw [gb];rfl
  have gdb:(ss.drop ro)[b-ro]?=some xb:=by rw [List.getElem?_drop,show ro+(b-ro)=b by walk_at "o"];exact gb
  have edb:(ss.drop ro).filter (fun y=>decide (xb.2.1≤y.2.1))=ss.drop b:=by
    rw [drop_of (drop_rising ris) gdb,List.drop_drop,show ro+(b-ro)=b by walk_at "o"]
  walk_at "v"
  refine r_l e4 (at_neg1 g1) ?_
  walk_at "v"
  refine r_iL ?_
  walk_at "v"
  refine r_f K_Bend hB4.at_ hB.F.ab ?_
  refine ⟨La,rfl,⟨_,SqL.of hB4.ea⟩,?_⟩
  refine compB_of (xs:=vals (ss.drop ro)) tells_list (fun H5 s5=>SqL.of (s5 _ _ hB4.ea)) (by rw [vals_len,List.length_drop];walk_at "o") (fun i ys _=>ys=vals (((ss.drop ro).take i).filter (fun y=>decide (xb.2.1≤y.2.1)))) rfl ?_ ?_
  · rintro D i v ys H5 σ0 N N0 h0' hD eD s5 hv hy rfl kY kN
    obtain ⟨e,he,rfl⟩:=vals_at hv
    have hi:i<(ss.drop ro).length:=(List.getElem?_eq_some_iff.mp he).1
    obtain ⟨xi,gi,⟨vi,ei,_⟩⟩:=sa_at (row_drop (hB4.row.up s5)) (allS_drop hB.P.all) hi
    rw [he] at gi
    cases gi
    have me:mo (ss.drop ro) i=e.2.1:=by unfold mo;rw [he];rfl
    have ts:=PySem.take_succ_filter (fun y:En=>decide (xb.2.1≤y.2.1)) (ss.drop ro) i e he
    have evb5:=s5 _ _ evb
    refine r_own1 h0' ?_
    walk_at "v"
    cases hs:decide (xb.2.1≤e.2.1) with
    | true=>
      rw [hs,if_pos rfl] at ts
      have hs':=of_decide_eq_true hs
      rw [show decide (mo ss b≤mo (ss.drop ro) i)=true from decide_eq_true (by rw [me,← mb];exact hs')]
      refine iteT ?_
      walk_at "v"
      exact kY _ H5 (Same.refl _) (by rw [ts,← vals_snoc])
    | false=>
      rw [hs,if_neg Bool.false_ne_true,List.append_nil] at ts
      have hs':=of_decide_eq_false hs
      rw [show decide (mo ss b≤mo (ss.drop ro) i)=false from decide_eq_false (by rw [me,← mb];exact hs')]
      refine iteF ?_
      exact kN H5 (Same.refl _) (by rw [ts])
  rintro D ys H5 hD eD s5 hy rfl
  rw [vals_len,List.take_length,edb] at eD
  have hB5:=hB4.up s5
  have s05:=s04.trans s5
  have nD:H D=none:=by
    cases g:H D with
    | none=>rfl
    | some o=>rw [s04 _ _ g] at hD;cases hD
  have nDp:D≠p:=fun z=>by rw [z,hB.at_] at nD;cases nD
  have fl0:=hB.F.len
  walk_at "v"
  refine r_s K_Bend hB5.at_ (by walk_at "o") ?_
  have kd:Kp (fun b=>b=p) H5 (upd H5 p (.ins c_Bend dx (putF "above" (.ref D) fs))):=(Kp.of (Same.refl _)).upd rfl
  have ep6:upd H5 p (.ins c_Bend dx (putF "above" (.ref D) fs)) p=some (.ins c_Bend dx (putF "above" (.ref D) fs)):=upd_same
  have k6:Kp (fun b=>b=p∨b=D) H (upd H5 p (.ins c_Bend dx (putF "above" (.ref D) fs))):=(Kp.of s05).upd (.inl rfl)
  have eD6:=kd _ _ nDp eD
  have tp:∀{b:Addr} {xs:List V},H5 b=some (.tup xs)→upd H5 p (.ins c_Bend dx (putF "above" (.ref D) fs)) b=some (.tup xs):=fun e=>kd _ _ (fun z=>by rw [z,hB5.at_] at e;cases e) e
  have row6:=(hB5.row).tv tp
  have hx6:=((hx.up s05).en.tv tp).sa
  have ftw6:=hB5.ftw.tv tp
  have fbd6:=hB5.fbd.tv tp
  have fln6:=(f1.up2 (s3.trans (s2.trans (s4.trans s5)))).tv tp
  have eva6:=tp (s5 _ _ eva)
  have evb6:=tp (s5 _ _ evb)
  generalize upd H5 p (.ins c_Bend dx (putF "above" (.ref D) fs))=H6 at *
  have F6:=hB.F.set_ab (y:=D)
  have l6:=F6.len
  walk_at "v"
  refine r_f K_Bend ep6 F6.ab ?_
  walk_at "v"
  refine r_f K_Bend ep6 F6.tw ?_
  walk_at "v"
  have ldb:(ss.drop b).length=ss.length-b:=List.length_drop ..
  refine ⟨.non,D,x,tw,ss.drop b,m,q,2*β,n,2*nb+1,rfl,eD6,row_drop row6,allS_drop hB.P.all,hx6,ftw6,by walk_at "o",by walk_at "o",by walk_at "o",fun i hi=>by rw [mo_drop];exact hm _ (by walk_at "o"),.inl rfl,fun z=>absurd z (by walk_at "o"),fun _ ps S H7 s7 f7 _ hall hex=>?_⟩
  have sS:GF (ss++[(x,m,some q)]) (2*β) ss.length b S:=gf_new (g:=none) (fun _ e=>by cases e) (fun _ i j _ _ z=>by walk_at "o") (Nat.le_refl _) hall (by
    rcases hex with z | ⟨pk,e,_⟩
    · exact .inl z
    · cases e)
  walk_at "v"
  have ep7:=s7 _ _ ep6
  refine r_s K_Bend ep7 (by walk_at "o") ?_
  walk_at "v"
  refine r_s K_Bend upd_same (by rw [putF_len F6.g];walk_at "o") ?_
  walk_at "v"
  refine r_f K_Bend upd_same F6.set_g.set_s.ab ?_
  walk_at "v"
  rw [upd_upd]
  have k8:Kp (fun b=>b=p∨b=D) H (upd H7 p (.ins c_Bend dx (putF "steepest" .non (putF "gentlest" (.ref ps) (putF "above" (.ref D) fs))))):=(k6.sm s7).upd (.inl rfl)
  have ep8:upd H7 p (.ins c_Bend dx (putF "steepest" .non (putF "gentlest" (.ref ps) (putF "above" (.ref D) fs)))) p=some (.ins c_Bend dx (putF "steepest" .non (putF "gentlest" (.ref ps) (putF "above" (.ref D) fs)))):=upd_same
  have k78:Kp (fun b=>b=p) H7 (upd H7 p (.ins c_Bend dx (putF "steepest" .non (putF "gentlest" (.ref ps) (putF "above" (.ref D) fs))))):=(Kp.of (Same.refl _)).upd rfl
  have eD8:=k78 _ _ nDp (s7 _ _ eD6)
  have tp8:∀{b:Addr} {xs:List V},H6 b=some (.tup xs)→upd H7 p (.ins c_Bend dx (putF "steepest" .non (putF "gentlest" (.ref ps) (putF "above" (.ref D) fs)))) b=some (.tup xs):=fun e=>k78 _ _ (fun z=>by rw [z,ep6] at e;cases e) (s7 _ _ e)
  have f8:QtAt (upd H7 p (.ins c_Bend dx (putF "steepest" .non (putF "gentlest" (.ref ps) (putF "above" (.ref D) fs))))) ps S (3*n+(2*nb+1)+3):=f7.tv fun {b xs} e=>k78 _ _ (fun z=>by rw [z,ep7] at e;cases e) e
  generalize upd H7 p (.ins c_Bend dx (putF "steepest" .non (putF "gentlest" (.ref ps) (putF "above" (.ref D) fs))))=H8 at *
  have F8:=F6.set_g (y:=.ref ps) |>.set_s (y:=.non)
  refine ⟨.inl ⟨rfl,_,SqL.of eD8⟩,?_⟩
  walk_at "v"
  refine r_app eD8 (by rw [vals_len];exact small1000 (by walk_at "o")) ?_
  have k9:Kp (fun b=>b=p∨b=D) H (upd H8 D (.lst (vals (ss.drop b)++[.ref x]))):=k8.upd (.inr rfl)
  have ep9:upd H8 D (.lst (vals (ss.drop b)++[.ref x])) p=some (.ins c_Bend dx (putF "steepest" .non (putF "gentlest" (.ref ps) (putF "above" (.ref D) fs)))):=by rw [upd_ne (Ne.symm nDp)];exact ep8
  have eD9:upd H8 D (.lst (vals (ss.drop b)++[.ref x])) D=some (.lst (vals ((ss++[(x,m,some q)]).drop b))):=by
    rw [upd_same,List.drop_append_of_le_length (by walk_at "o"),← vals_snoc]
  have tp9:∀{b':Addr} {xs:List V},H8 b'=some (.tup xs)→upd H8 D (.lst (vals (ss.drop b)++[.ref x])) b'=some (.tup xs):=fun e=>by rw [upd_ne (fun z=>by rw [z,eD8] at e;cases e)];exact e
  generalize upd H8 D (.lst (vals (ss.drop b)++[.ref x]))=H9 at *
  walk_at "v"
  refine r_new (mk:=.lst) (by simp) fun M H10 s10 n10 e10=>?_
  have nM:H M=none:=by
    cases g:H M with
    | none=>rfl
    | some o=>
      by_cases z:M=p
      · rw [z,ep9] at n10;cases n10
      · by_cases z2:M=D
        · rw [z2,eD9] at n10;cases n10
        · rw [k9 _ _ (fun u=>by rcases u with u | u;exact z u;exact z2 u) g] at n10;cases n10
  have nMp:M≠p:=fun z=>by rw [z,hB.at_] at nM;cases nM
  have nMD:D≠M:=fun z=>by rw [← z,eD9] at n10;cases n10
  walk_at "v"
  have l8:=F8.len
  refine r_s K_Bend (s10 _ _ ep9) (by walk_at "o") ?_
  have F11:=F8.set_bl (y:=M)
  have k11:Kp (fun b=>b=p∨b=D) H (upd H10 p (.ins c_Bend dx (putF "below" (.ref M) (putF "steepest" .non (putF "gentlest" (.ref ps) (putF "above" (.ref D) fs)))))):=(k9.sm s10).upd (.inl rfl)
  have ep11:upd H10 p (.ins c_Bend dx (putF "below" (.ref M) (putF "steepest" .non (putF "gentlest" (.ref ps) (putF "above" (.ref D) fs))))) p=some (.ins c_Bend dx (putF "below" (.ref M) (putF "steepest" .non (putF "gentlest" (.ref ps) (putF "above" (.ref D) fs))))):=upd_same
  have k1011:Kp (fun b=>b=p) H10 (upd H10 p (.ins c_Bend dx (putF "below" (.ref M) (putF "steepest" .non (putF "gentlest" (.ref ps) (putF "above" (.ref D) fs)))))):=(Kp.of (Same.refl _)).upd rfl
  have eD11:=k1011 _ _ nDp (s10 _ _ eD9)
  have eM11:=k1011 _ _ nMp e10
  have tp11:∀{b:Addr} {xs:List V},H9 b=some (.tup xs)→upd H10 p (.ins c_Bend dx (putF "below" (.ref M) (putF "steepest" .non (putF "gentlest" (.ref ps) (putF "above" (.ref D) fs))))) b=some (.tup xs):=fun e=>k1011 _ _ (fun z=>by rw [z,ep9] at e;cases e) (s10 _ _ e)
  generalize upd H10 p (.ins c_Bend dx (putF "below" (.ref M) (putF "steepest" .non (putF "gentlest" (.ref ps) (putF "above" (.ref D) fs)))))=H11 at *
  have t11:∀{b:Addr} {xs:List V},H6 b=some (.tup xs)→H11 b=some (.tup xs):=fun e=>tp11 (tp9 (tp8 e))
  have eva11:=t11 eva6
  have evb11:=t11 evb6
  obtain ⟨vx,evx,_⟩:=id hx6
  have evx11:=t11 evx
  walk_at "v"
  refine r_new (mk:=.tup) (by simp) fun th H12 s12 n12 e12=>?_
  walk_at "v"
  refine r_new (mk:=.tup) (by simp) fun r H13 s13 n13 e13=>?_
  have s113:=s12.trans s13
  refine k r ln th M D fo a b (some S) H13 (fun b' o e=>?_) ⟨gG,hoff,lo,hi,b1,by grind,by walk_at "o",c2,by grind,fun i hi hl z=>fb i hi hl (by grind),by walk_at "o"⟩ e13 ((fln6.tv t11).up2 s113) (s13 _ _ e12) ⟨dx,bd,tw,_,.ref ps,.non,Bd0.up ⟨ep11,F11,?_,eD11,Ne.symm nMD,?_,fbd6.tv t11,ftw6.tv t11,⟨ps,rfl,(f8.tv fun e=>tp11 (tp9 e))⟩,rfl,?_⟩ s113⟩ nM nD
  · obtain ⟨n1,n2,n3,e⟩:=rmB_of e
    refine s113 _ _ (k11 _ _ (fun z=>?_) e)
    rcases z with z | z
    · exact n1 z
    · rw [z,nD] at e;cases e
  · rw [List.drop_append_of_le_length (Nat.le_refl _),List.drop_length]
    exact eM11
  · exact (row6.tv t11).snoc (hx6.en.tv t11)
  · refine ⟨allS_new hB.P.all,rising1 ris hm,by rw [len1];walk_at "o",by rw [len1];walk_at "o",fun _=>by rw [len1];walk_at "o",sS,fun i j hi hij _ hj=>?_,fun _ _ _ e=>(by cases e),fun z=>absurd z (by walk_at "o")⟩
    rw [len1] at hj
    walk_at "o"
end

theorem BdP.none0 {ss:List En} {fl ro:Nat} {β:Rat} {g s:Option Rat} (h:BdP ss fl ro β g s) (h0:ss.length=0):g=none∧s=none:=by
  have go:=h.go
  have so:=h.so
  constructor
  · cases g with
    | none=>rfl
    | some G=>
      obtain ⟨q,p,_,_,_,z,_⟩:=go.2
      omega
  · cases s with
    | none=>rfl
    | some S=>
      obtain ⟨q,p,_,_,_,z,_⟩:=so.2
      omega
section
variable {P:Program} {w:World} {K:PySem.W.Frag} {mg:Str→Option Value} {base:Heap} {f c_Bend:Addr} {fd:FuncData}
theorem sc_Bend_take:FnScope ["self","sample","gentlest","steepest"] ["self","sample"] (defScope s_Bend_take):=⟨rfl,rfl,rfl,by decide +kernel,rfl,by decide +kernel,by decide +kernel⟩
theorem ok_Bend_take (F:Fun K "take" "Bend.take" s_Bend_take f fd) (K_Bend:Cl K mg "Bend" c_Bend ["bound","twice","below","above","gentlest","steepest"]) (D_gentlest_with:Dn P w K mg base 4 "gentlest_with" ["known","earlier","sample","twice"] spGentle) (D_steepest_with:Dn P w K mg base 4 "steepest_with" ["known","earlier","sample","twice"] spSteep) (D_is_steeper:Dn P w K mg base 2 "is_steeper" ["one","other"] spSteeper)
    (D_Bend_ended_in_cap:Dm P w K mg base 6 c_Bend "ended_in_cap" ["self","sample"] (spCap c_Bend)) (D_Bend_ended_in_cup:Dm P w K mg base 6 c_Bend "ended_in_cup" ["self","sample"] (spCup c_Bend)):FnOk P w K mg base CX0 7 f fd ["self","sample"] (spTake c_Bend):=by
  refine F.ok sc_Bend_take (fun vs H Q E h=>?_) (fun cdv A outer s H vs Q E hr h=>?_)
  · obtain ⟨p,Lb,La,x,ss,fl,ro,m,q,β,n,nb,g,s,rfl,_⟩:=h
    rfl
  obtain ⟨p,Lb,La,x,ss,fl,ro,m,q,β,n,nb,g,s',rfl,⟨dx,bd,tw,fs,gv,sv,hB⟩,hx,hm,h900,h1,hn,hnb,hβ,kN,kC,kU⟩:=h
  have fl0:=hB.F.len
  have hfl:=hB.P.hfl
  have hro:=hB.P.hro
  have lda:(ss.drop ro).length=ss.length-ro:=List.length_drop ..
  have ldb:(ss.drop fl).length=ss.length-fl:=List.length_drop ..
  have nbp:Lb≠p:=fun z=>by have:=hB.eb;rw [z,hB.at_] at this;cases this
  have nap:La≠p:=fun z=>by have:=hB.ea;rw [z,hB.at_] at this;cases this
  -- the sample is taken
  have stay:∀(gv' sv':V) (g' s2:Option Rat) (H2:Hp),Same H H2→OQ H2 gv' (3*n+(2*nb+1)+3) g'→OQ H2 sv' (3*n+(2*nb+1)+3) s2→BdP (ss++[(x,m,some q)]) fl ro β g' s2→NoTurn ss β fl ro g s' m q →
      Q .non (upd (upd (upd (upd H2 p (.ins c_Bend dx (putF "gentlest" gv' fs))) p (.ins c_Bend dx (putF "steepest" sv' (putF "gentlest" gv' fs)))) Lb (.lst (vals (ss.drop fl)++[.ref x]))) La (.lst (vals (ss.drop ro)++[.ref x]))):=by
    intro gv' sv' g' s2 H2 s02 og os hP hN
    rw [upd_upd]
    have hB2:=hB.up s02
    have kk:Kp (fun b=>b=p∨b=Lb∨b=La) H2 (upd (upd (upd H2 p (.ins c_Bend dx (putF "steepest" sv' (putF "gentlest" gv' fs)))) Lb (.lst (vals (ss.drop fl)++[.ref x]))) La (.lst (vals (ss.drop ro)++[.ref x]))):=((((Kp.of (Same.refl _)).upd (.inl rfl)).upd (.inr (.inl rfl))).upd (.inr (.inr rfl)))
    have tp:∀{b:Addr} {xs:List V},H2 b=some (.tup xs)→upd (upd (upd H2 p (.ins c_Bend dx (putF "steepest" sv' (putF "gentlest" gv' fs)))) Lb (.lst (vals (ss.drop fl)++[.ref x]))) La (.lst (vals (ss.drop ro)++[.ref x])) b=some (.tup xs):=fun e=>kk _ _ (fun z=>by
      rcases z with z | z | z
      · rw [z,hB2.at_] at e;cases e
      · rw [z,hB2.eb] at e;cases e
      · rw [z,hB2.ea] at e;cases e) e
    refine kN g' s2 _ (fun b o e=>?_) hN ⟨dx,bd,tw,_,gv',sv',?_,hB.F.set_g.set_s,?_,?_,hB.ne,?_,hB2.fbd.tv tp,hB2.ftw.tv tp,og.tv tp,os.tv tp,hP⟩
    · obtain ⟨n1,n2,n3,e⟩:=rmB_of e
      exact kk _ _ (fun z=>by rcases z with z | z | z;exact n1 z;exact n2 z;exact n3 z) (s02 _ _ e)
    · rw [upd_ne (Ne.symm nap),upd_ne (Ne.symm nbp),upd_same]
    · rw [upd_ne hB.ne,upd_same,List.drop_append_of_le_length hfl,← vals_snoc]
    · rw [upd_same,List.drop_append_of_le_length hro,← vals_snoc]
    · exact (hB2.row.tv tp).snoc ((hx.up s02).en.tv tp)
  refine J.l ⟨_,(J.e (J.i (i:=2) sc_Bend_take.nd rfl (Or.inl rfl) (J.j D_gentlest_with (hr.mono (by decide)) rfl (J.b (J.p K (J.a 0)) (J.b (J.p K (J.a 0)) (J.b (J.a 1) (J.b (J.p K (J.a 0)) J.d) st_N))) (he:=(by rfl)) (hpl:=(anyc (by rfl) (anyc st_N (anyc (by rfl) any0))))) (hs:=sw_K))
      (J.e (J.i (i:=3) sc_Bend_take.nd rfl (Or.inl rfl) (J.j D_steepest_with (hr.mono (by decide)) rfl (J.b (J.p K (J.a 0)) (J.b (J.p K (J.a 0)) (J.b (J.a 1) (J.b (J.p K (J.a 0)) J.d) st_N))) (he:=(by rfl)) (hpl:=(anyc (by rfl) (anyc st_N (anyc (by rfl) any0))))) (hs:=sw_K))
      (J.e (J.o (Jd.pt_val (J.j D_is_steeper (hr.mono (by decide)) rfl (J.b (J.p K (J.a 0)) (J.b (J.a 3) J.d st_N)) (he:=(by rfl)) (hpl:=(anyc st_N any0))))
      (J.g (J.k (Jd.pe_dm D_Bend_ended_in_cap K_Bend.cl (hr.mono (by decide)) (J.a 0) (J.b (J.a 1) J.d st_N) (he:=st_N) (hpl:=any0))))
      J.s)
      (J.e (J.o (Jd.pt_val (J.j D_is_steeper (hr.mono (by decide)) rfl (J.b (J.a 2) (J.b (J.p K (J.a 0)) J.d) st_N) (he:=st_N) (hpl:=(anyc (by rfl) any0))))
      (J.g (J.k (Jd.pe_dm D_Bend_ended_in_cup K_Bend.cl (hr.mono (by decide)) (J.a 0) (J.b (J.a 1) J.d st_N) (he:=st_N) (hpl:=any0))))
      J.s)
      (J.e (J.y K (J.a 0) (J.a 2))
      (J.e (J.y K (J.a 0) (J.a 3))
      (J.e (J.u (J.w K (J.p K (J.a 0)) (J.a 1)) (hs:=sw_K))
      (J.e (J.u (J.w K (J.p K (J.a 0)) (J.a 1)) (hs:=sw_K))
      (J.g (J.k J.v)))))))))),?_⟩
  walk_at "v"
  refine r_f K_Bend hB.at_ hB.F.g ?_
  walk_at "v"
  refine r_f K_Bend hB.at_ hB.F.ab ?_
  walk_at "v"
  refine r_f K_Bend hB.at_ hB.F.tw ?_
  walk_at "v"
  by_cases h0:ss.length=0
  · obtain ⟨rfl,rfl⟩:=hB.P.none0 h0
    obtain rfl:gv=.non:=hB.G
    obtain rfl:sv=.non:=hB.S
    refine ⟨.non,La,x,tw,ss.drop ro,m,q,2*β,n,2*nb+1,rfl,hB.ea,row_drop hB.row,allS_drop hB.P.all,hx,hB.ftw,by walk_at "o",by walk_at "o",by walk_at "o",fun i hi=>by rw [mo_drop];exact hm _ (by walk_at "o"),.inl rfl,fun _ _ H1 s1=>?_,fun z=>absurd z (by walk_at "o")⟩
    have hB1:=hB.up s1
    walk_at "v"
    refine r_f K_Bend hB1.at_ hB.F.s ?_
    walk_at "v"
    refine r_f K_Bend hB1.at_ hB.F.bl ?_
    walk_at "v"
    refine r_f K_Bend hB1.at_ hB.F.tw ?_
    walk_at "v"
    refine ⟨.non,Lb,x,tw,ss.drop fl,m,q,2*β,n,2*nb+1,rfl,hB1.eb,row_drop hB1.row,allS_drop hB.P.all,hx.up s1,hB1.ftw,by walk_at "o",by walk_at "o",by walk_at "o",fun i hi=>by rw [mo_drop];exact hm _ (by walk_at "o"),.inl rfl,fun _ _ H2 s2=>?_,fun z=>absurd z (by walk_at "o")⟩
    have s02:=s1.trans s2
    have hB2:=hB.up s02
    walk_at "v"
    refine r_f K_Bend hB2.at_ hB.F.g ?_
    walk_at "v"
    refine ⟨.non,.non,none,none,0,0,rfl,rfl,rfl,by decide,fun r hr'=>?_⟩
    obtain rfl:r=false:=Bool.eq_false_iff.mpr fun z=>by obtain ⟨_,_,e,_⟩:=hr'.mp z;cases e
    walk_at "v"
    refine iteF ?_
    walk_at "v"
    refine r_f K_Bend hB2.at_ hB.F.s ?_
    walk_at "v"
    refine ⟨.non,.non,none,none,0,0,rfl,rfl,rfl,by decide,fun r hr2=>?_⟩
    obtain rfl:r=false:=Bool.eq_false_iff.mpr fun z=>by obtain ⟨_,_,e,_⟩:=hr2.mp z;cases e
    walk_at "v"
    refine iteF ?_
    walk_at "v"
    refine r_s K_Bend hB2.at_ (by walk_at "o") ?_
    walk_at "v"
    refine r_s K_Bend upd_same (by rw [putF_len hB.F.g];walk_at "o") ?_
    walk_at "v"
    refine r_f K_Bend upd_same hB.F.set_g.set_s.bl ?_
    walk_at "v"
    have eb4:upd (upd H2 p (.ins c_Bend dx (putF "gentlest" .non fs))) p (.ins c_Bend dx (putF "steepest" .non (putF "gentlest" .non fs))) Lb=some (.lst (vals (ss.drop fl))):=by
      rw [upd_ne nbp,upd_ne nbp]
      exact hB2.eb
    refine ⟨.inl ⟨rfl,_,SqL.of eb4⟩,?_⟩
    walk_at "v"
    refine r_app eb4 (by rw [vals_len];exact small1000 (by walk_at "o")) ?_
    walk_at "v"
    refine r_f K_Bend (by rw [upd_ne (Ne.symm nbp)];exact upd_same) hB.F.set_g.set_s.ab ?_
    walk_at "v"
    have ea5:upd (upd (upd H2 p (.ins c_Bend dx (putF "gentlest" .non fs))) p (.ins c_Bend dx (putF "steepest" .non (putF "gentlest" .non fs)))) Lb (.lst (vals (ss.drop fl)++[.ref x])) La=some (.lst (vals (ss.drop ro))):=by
      rw [upd_ne (Ne.symm hB.ne),upd_ne nap,upd_ne nap]
      exact hB2.ea
    refine ⟨.inl ⟨rfl,_,SqL.of ea5⟩,?_⟩
    walk_at "v"
    refine r_app ea5 (by rw [vals_len];exact small1000 (by walk_at "o")) ?_
    walk_at "v"
    refine stay .non .non none none H2 s02 rfl rfl ?_ ⟨fun _ e=>(by cases e),fun _ e=>(by cases e)⟩
    refine ⟨allS_new hB.P.all,rising1 hB.P.ris hm,by rw [len1];walk_at "o",by rw [len1];walk_at "o",fun _=>by rw [len1];walk_at "o",fun i j _ hij _ hj=>?_,fun i j _ hij _ hj=>?_,fun _ _ e=>(by cases e),hB.P.df⟩
    · rw [len1] at hj
      walk_at "o"
    · rw [len1] at hj
      walk_at "o"
  · obtain ⟨hfl',hro'⟩:=hB.P.lt (by walk_at "o")
    refine ⟨gv,La,x,tw,ss.drop ro,m,q,2*β,n,2*nb+1,rfl,hB.ea,row_drop hB.row,allS_drop hB.P.all,hx,hB.ftw,by walk_at "o",by walk_at "o",by walk_at "o",fun i hi=>by rw [mo_drop];exact hm _ (by walk_at "o"),?_,fun z=>absurd z (by walk_at "o"),fun _ pg G1 H1 s1 f1 hK1 hall1 hex1=>?_⟩
    · have hG:=hB.G
      cases g with
      | none=>exact .inl hG
      | some G=>exact let ⟨pk,e,fk⟩:=hG;.inr ⟨by walk_at "o",pk,G,e,fk⟩
    have gG:GF (ss++[(x,m,some q)]) (2*β) fl ro G1:=by
      have hG:=hB.G
      refine gf_new (g:=g) (fun G0 e=>?_) (fun e=>?_) hfl hall1 ?_
      · rw [e] at hG
        obtain ⟨pk,e',fk⟩:=hG
        exact ⟨(hB.P.hiG e).1,hK1 pk G0 e' fk⟩
      · have go:=hB.P.go
        rw [e] at go
        exact go
      · rcases hex1 with z | ⟨pk,e,fk⟩
        · exact .inl z
        · refine .inr ?_
          cases g with
          | none=>rw [show gv=.non from hG] at e;cases e
          | some G0=>
            obtain ⟨pk',e',fk'⟩:=hG
            rw [e] at e'
            cases e'
            rw [qt_eq fk fk']
    have hB1:=hB.up s1
    walk_at "v"
    refine r_f K_Bend hB1.at_ hB.F.s ?_
    walk_at "v"
    refine r_f K_Bend hB1.at_ hB.F.bl ?_
    walk_at "v"
    refine r_f K_Bend hB1.at_ hB.F.tw ?_
    walk_at "v"
    refine ⟨sv,Lb,x,tw,ss.drop fl,m,q,2*β,n,2*nb+1,rfl,hB1.eb,row_drop hB1.row,allS_drop hB.P.all,hx.up s1,hB1.ftw,by walk_at "o",by walk_at "o",by walk_at "o",fun i hi=>by rw [mo_drop];exact hm _ (by walk_at "o"),?_,fun z=>absurd z (by walk_at "o"),fun _ ps S1 H2 s2 f2 hK2 hall2 hex2=>?_⟩
    · have hS:=hB1.S
      cases s' with
      | none=>exact .inl hS
      | some S=>exact let ⟨pk,e,fk⟩:=hS;.inr ⟨by walk_at "o",pk,S,e,fk⟩
    have sS:SF (ss++[(x,m,some q)]) (2*β) fl ro S1:=by
      have hS:=hB1.S
      refine sf_new (s:=s') (fun S0 e=>?_) (fun e=>?_) hro hall2 ?_
      · rw [e] at hS
        obtain ⟨pk,e',fk⟩:=hS
        exact ⟨(hB.P.loS e).1,hK2 pk S0 e' fk⟩
      · have so:=hB.P.so
        rw [e] at so
        exact so
      · rcases hex2 with z | ⟨pk,e,fk⟩
        · exact .inl z
        · refine .inr ?_
          cases s' with
          | none=>rw [show sv=.non from hS] at e;cases e
          | some S0=>
            obtain ⟨pk',e',fk'⟩:=hS
            rw [e] at e'
            cases e'
            rw [qt_eq fk fk']
    have s02:=s1.trans s2
    have hB2:=hB.up s02
    have hri:=rising1 (x:=x) (q:=q) hB.P.ris hm
    walk_at "v"
    refine r_f K_Bend hB2.at_ hB.F.g ?_
    walk_at "v"
    refine ⟨gv,.ref ps,g,some S1,_,_,rfl,hB2.G,⟨ps,rfl,f2⟩,by walk_at "o",fun r hr1=>?_⟩
    walk_at "v"
    refine ite2 (fun c=>?_) (fun c=>?_)
    · obtain ⟨G,S,rfl,e2,lt⟩:=hr1.mp c
      cases e2
      walk_at "v"
      refine r_m hB2.at_ (hB.F.meth "ended_in_cap") ?_
      walk_at "v"
      refine ⟨p,Lb,La,x,ss,fl,ro,m,q,β,G,n,nb,s',rfl,⟨dx,bd,tw,fs,gv,sv,hB2⟩,hx.up s02,hm,h900,h1,hn,hnb,hβ,(cap_iff hri sS (hB.P.hiG rfl).2 hro).mp lt,fun r ln th Lb' La' fo a b s2' H' k1 k2 k3 k4 k5 k6 k7 k8=>?_⟩
      refine kC r ln th Lb' La' G fo a b s2' H' (fun b' o e=>k1 _ _ ?_) rfl k2 k3 k4 k5 k6 (s02.free k7) (s02.free k8)
      obtain ⟨n1,n2,n3,e⟩:=rmB_of e
      rw [rmB_at n1 n2 n3]
      exact s02 _ _ e
    · have nc:¬ ∃G S,g=some G∧some S1=some S∧S<G:=fun z=>c (hr1.mpr z)
      have ncap:¬ ∃G,g=some G∧∃i,fl≤i∧i<ss.length∧q-G*(m:Rat)+2*β<lev ss G i:=fun ⟨G,e,z⟩=>nc ⟨G,S1,e,rfl,(cap_iff hri sS (hB.P.hiG e).2 hro).mpr z⟩
      walk_at "v"
      refine r_f K_Bend hB2.at_ hB.F.s ?_
      walk_at "v"
      refine ⟨.ref pg,sv,some G1,s',_,_,rfl,⟨pg,rfl,f1.up s2⟩,hB2.S,by walk_at "o",fun r2 hr2=>?_⟩
      walk_at "v"
      refine ite2 (fun c2=>?_) (fun c2=>?_)
      · obtain ⟨G,S,e1,rfl,lt⟩:=hr2.mp c2
        cases e1
        walk_at "v"
        refine r_m hB2.at_ (hB.F.meth "ended_in_cup") ?_
        walk_at "v"
        refine ⟨p,Lb,La,x,ss,fl,ro,m,q,β,S,n,nb,g,rfl,⟨dx,bd,tw,fs,gv,sv,hB2⟩,hx.up s02,hm,h900,h1,hn,hnb,hβ,(cup_iff hri gG (hB.P.loS rfl).2 hfl).mp lt,fun r ln th Lb' La' fo a b s2' H' k1 k2 k3 k4 k5 k6 k7 k8=>?_⟩
        refine kU r ln th Lb' La' S fo a b s2' H' (fun b' o e=>k1 _ _ ?_) rfl ncap k2 k3 k4 k5 k6 (s02.free k7) (s02.free k8)
        obtain ⟨n1,n2,n3,e⟩:=rmB_of e
        rw [rmB_at n1 n2 n3]
        exact s02 _ _ e
      · have nu:¬ ∃G S,some G1=some G∧s'=some S∧S<G:=fun z=>c2 (hr2.mpr z)
        obtain ⟨hP,hN⟩:=hB.P.next hβ hm gG sS nc nu
        walk_at "v"
        refine r_s K_Bend hB2.at_ (by walk_at "o") ?_
        walk_at "v"
        refine r_s K_Bend upd_same (by rw [putF_len hB.F.g];walk_at "o") ?_
        walk_at "v"
        refine r_f K_Bend upd_same hB.F.set_g.set_s.bl ?_
        walk_at "v"
        have eb4:upd (upd H2 p (.ins c_Bend dx (putF "gentlest" (.ref pg) fs))) p (.ins c_Bend dx (putF "steepest" (.ref ps) (putF "gentlest" (.ref pg) fs))) Lb=some (.lst (vals (ss.drop fl))):=by
          rw [upd_ne nbp,upd_ne nbp]
          exact hB2.eb
        refine ⟨.inl ⟨rfl,_,SqL.of eb4⟩,?_⟩
        walk_at "v"
        refine r_app eb4 (by rw [vals_len];exact small1000 (by walk_at "o")) ?_
        walk_at "v"
        refine r_f K_Bend (by rw [upd_ne (Ne.symm nbp)];exact upd_same) hB.F.set_g.set_s.ab ?_
        walk_at "v"
        have ea5:upd (upd (upd H2 p (.ins c_Bend dx (putF "gentlest" (.ref pg) fs))) p (.ins c_Bend dx (putF "steepest" (.ref ps) (putF "gentlest" (.ref pg) fs)))) Lb (.lst (vals (ss.drop fl)++[.ref x])) La=some (.lst (vals (ss.drop ro))):=by
          rw [upd_ne (Ne.symm hB.ne),upd_ne nap,upd_ne nap]
          exact hB2.ea
        refine ⟨.inl ⟨rfl,_,SqL.of ea5⟩,?_⟩
        walk_at "v"
        refine r_app ea5 (by rw [vals_len];exact small1000 (by walk_at "o")) ?_
        walk_at "v"
        exact stay (.ref pg) (.ref ps) (some G1) (some S1) H2 s02 ⟨pg,rfl,f1.up s2⟩ ⟨ps,rfl,f2⟩ hP hN
theorem sc_Bend_line_now:FnScope ["self"] ["self"] (defScope s_Bend_line_now):=⟨rfl,rfl,rfl,by decide +kernel,rfl,by decide +kernel,by decide +kernel⟩
theorem ok_Bend_line_now (F:Fun K "line_now" "Bend.line_now" s_Bend_line_now f fd) (T:Txt mg) (K_Bend:Cl K mg "Bend" c_Bend ["bound","twice","below","above","gentlest","steepest"]) (D_line_by:Dn P w K mg base 5 "line_by" ["steep","sample"] spLineBy) (D_Bend_line_of:Dm P w K mg base 5 c_Bend "line_of" ["self","steep"] (spLineOf c_Bend)):FnOk P w K mg base CX0 6 f fd ["self"] (spNow c_Bend):=by
  refine F.ok sc_Bend_line_now (fun vs H Q E h=>?_) (fun cdv A outer s H vs Q E hr h=>?_)
  · obtain ⟨p,Lb,La,ss,fl,ro,β,n,nb,g,s,rfl,_⟩:=h
    rfl
  obtain ⟨p,Lb,La,ss,fl,ro,β,n,nb,g,s',rfl,⟨dx,bd,tw,fs,gv,sv,hB⟩,h900,h1,hn,hnb,k0,k1⟩:=h
  have ld:(ss.drop fl).length=ss.length-fl:=List.length_drop ..
  refine J.l ⟨_,(J.e (J.o (J.n op_eq (J.r (lenC K) rfl T.len_ PySem.boot_len (J.b (J.p K (J.a 0)) J.d) (he:=(by rfl)) (hpl:=any0)) J.c (nomark _))
      (J.g (J.k J.v))
      J.s)
      (J.e (J.o (J.n op_notN (J.p K (J.a 0)) J.v (nomark _))
      (J.g (J.k (Jd.pe_dm D_Bend_line_of K_Bend.cl (hr.mono (by decide)) (J.a 0) (J.b (J.p K (J.a 0)) J.d) (he:=(by rfl)) (hpl:=any0))))
      J.s)
      (J.e (J.o (J.n op_notN (J.p K (J.a 0)) J.v (nomark _))
      (J.g (J.k (Jd.pe_dm D_Bend_line_of K_Bend.cl (hr.mono (by decide)) (J.a 0) (J.b (J.p K (J.a 0)) J.d) (he:=(by rfl)) (hpl:=any0))))
      J.s)
      (J.g (J.k (J.j D_line_by (hr.mono (by decide)) rfl (J.b (J.m (J.b J.c (J.b J.c J.d st_C) st_C)) (J.b (J.f (ixL K) (J.p K (J.a 0)) J.c (fun _ _=>rfl)) J.d st_S) st_T) (he:=st_T) (hpl:=(anyc st_S any0)))))))),?_⟩
  walk_at "v"
  refine r_f K_Bend hB.at_ hB.F.bl ?_
  walk_at "v"
  refine r_len (.inl (SqL.of hB.eb)) ?_
  rw [vals_len]
  walk_at "v"
  refine ite2 (fun c=>?_) (fun c=>?_)
  · have c':=of_decide_eq_true c
    walk_at "v"
    refine k0 (List.length_eq_zero_iff.mp ?_)
    by_cases z:0<ss.length
    · have:=(hB.P.lt z).1
      walk_at "o"
    · walk_at "o"
  · have c':=of_decide_eq_false (Bool.eq_false_iff.mpr c)
    have h0:0<ss.length:=by walk_at "o"
    obtain ⟨hfl,hro⟩:=hB.P.lt h0
    walk_at "v"
    refine r_f K_Bend hB.at_ hB.F.g ?_
    cases g with
    | some G=>
      obtain ⟨pg,rfl,fg⟩:=id hB.G
      walk_at "v"
      refine ⟨rfl,?_⟩
      walk_at "v"
      refine iteT ?_
      walk_at "v"
      refine r_m hB.at_ (hB.F.meth "line_of") ?_
      walk_at "v"
      refine r_f K_Bend hB.at_ hB.F.g ?_
      walk_at "v"
      refine ⟨p,Lb,La,pg,ss,fl,ro,β,G,n,nb,some G,s',rfl,⟨dx,bd,tw,fs,_,sv,hB⟩,fg,h0,h900,hn,hnb,fun ln fo H1 s1 f1 lo ex=>?_⟩
      exact k1 h0 ln G fo H1 s1 f1 (.inl ⟨.inl rfl,lo,ex⟩)
    | none=>
      obtain rfl:gv=.non:=hB.G
      walk_at "v"
      refine ⟨rfl,?_⟩
      walk_at "v"
      refine iteF ?_
      walk_at "v"
      refine r_f K_Bend hB.at_ hB.F.s ?_
      cases s' with
      | some S=>
        obtain ⟨pg,rfl,fg⟩:=id hB.S
        walk_at "v"
        refine ⟨rfl,?_⟩
        walk_at "v"
        refine iteT ?_
        walk_at "v"
        refine r_m hB.at_ (hB.F.meth "line_of") ?_
        walk_at "v"
        refine r_f K_Bend hB.at_ hB.F.s ?_
        walk_at "v"
        refine ⟨p,Lb,La,pg,ss,fl,ro,β,S,n,nb,none,some S,rfl,⟨dx,bd,tw,fs,_,_,hB⟩,fg,h0,h900,hn,hnb,fun ln fo H1 s1 f1 lo ex=>?_⟩
        exact k1 h0 ln S fo H1 s1 f1 (.inl ⟨.inr ⟨rfl,rfl⟩,lo,ex⟩)
      | none=>
        obtain rfl:sv=.non:=hB.S
        walk_at "v"
        refine ⟨rfl,?_⟩
        walk_at "v"
        refine iteF ?_
        walk_at "v"
        refine r_new (mk:=.tup) (by simp) fun z1 H1 s1 n1 e1=>?_
        have hB1:=hB.up s1
        obtain ⟨xa,ga,fa⟩:=sa_at hB1.row hB.P.all hfl
        walk_at "v"
        refine r_f K_Bend hB1.at_ hB.F.bl ?_
        walk_at "v"
        refine r_l hB1.eb (at_zero (x:=xa) (by rw [List.getElem?_drop,Nat.add_zero];exact ga)) ?_
        walk_at "v"
        have f0:FrAt H1 z1 0 1:=⟨0,1,e1,⟨by decide,by decide,by grind⟩,by decide,by decide⟩
        refine ⟨z1,xa.1,0,_,_,1,n,rfl,f0,fa,h1,by walk_at "o",fun z r' H2 s2 e2 f2=>?_⟩
        refine k1 h0 z 0 (wo ss fl) H2 (s1.trans s2) ⟨z1,r',e2,(f0.up s2).mono (by walk_at "o"),?_⟩ (.inr ⟨rfl,rfl,rfl,rfl⟩)
        have e3:wo ss fl-0*(mo ss fl:Rat)=wo ss fl:=by grind
        rw [e3] at f2
        exact f2.mono (by walk_at "o")
end

theorem BdOk.fresh {C:Addr} {H:Hp} {p Lb La:Addr} {β:Rat} {n n' nb:Nat} (h:BdOk C H p Lb La [] 0 0 β n nb none none):BdOk C H p Lb La [] 0 0 β n' nb none none:=
  let ⟨dx,bd,tw,fs,gv,sv,h⟩:=h;⟨dx,bd,tw,fs,gv,sv,h.at_,h.F,h.eb,h.ea,h.ne,fun x hx=>absurd hx (by simp),h.fbd,h.ftw,h.G,h.S,h.P⟩
theorem keepB {H0 H H':Hp} {p Lb La:Addr} (s:Same H0 H) (np:H0 p=none) (nb:H0 Lb=none) (na:H0 La=none) (k:Same (rmB p Lb La H) H'):Same H0 H':=fun b o e=>k _ _ (by
  rw [rmB_at (ne_of_none e np) (ne_of_none e nb) (ne_of_none e na)]
  exact s _ _ e)
theorem BdP.two {ss:List En} {fl ro:Nat} {β:Rat} {g s:Option Rat} (h:BdP ss fl ro β g s):(ss.length<2↔g=none∧s=none):=by
  constructor
  · intro h2
    have go:=h.go
    have so:=h.so
    constructor
    · cases g with
      | none=>rfl
      | some G=>
        obtain ⟨q,p,_,_,_,z,_⟩:=go.2
        omega
    · cases s with
      | none=>rfl
      | some S=>
        obtain ⟨q,p,_,_,_,z,_⟩:=so.2
        omega
  · rintro ⟨rfl,rfl⟩
    refine Nat.lt_of_not_le fun h2=>?_
    obtain ⟨l1,l2⟩:=h.lt (by omega)
    have df:=h.df
    have go:∀q p,ro≤q→q<p→fl≤p→¬p<ss.length:=h.go
    have so:∀q p,fl≤q→q<p→ro≤p→¬p<ss.length:=h.so
    have g1:=go ro (ss.length-1) (by omega)
    have s1:=so fl (ss.length-1) (by omega)
    by_cases e:ro<ss.length-1
    · exact g1 e (by omega) (by omega)
    · by_cases e2:fl<ss.length-1
      · exact s1 e2 (by omega) (by omega)
      · have:=df (by omega)
        omega
theorem sd_hi {ss:List En} {T f β:Rat} {a b k:Nat} (hr:rising ss) (hab:a<b) (hbk:b<k) (hk:k<ss.length) (ea:lev ss T a+β=f) (eb:lev ss T b-β=f) (ek:lev ss T k+β<f):2*β<sd ss a b k:=by
  have d1:=mo_pos hr hab (by omega)
  have d2:=mo_pos hr hbk hk
  have d3:=mo_pos hr (Nat.lt_trans hab hbk) hk
  unfold lev at ea eb ek
  unfold sd chord
  refine Rat.not_le.mp fun z=>?_
  have z':wo ss b-2*β≤(wo ss a*((mo ss k:Rat)-(mo ss b:Rat))+wo ss k*((mo ss b:Rat)-(mo ss a:Rat)))/((mo ss k:Rat)-(mo ss a:Rat)):=by grind
  rw [rle_div d3] at z'
  have l:wo ss k<T*(mo ss k:Rat)+f-β:=by grind
  have:=Rat.mul_lt_mul_of_pos_right l d1
  have e1:wo ss a=T*(mo ss a:Rat)+f-β:=by grind
  have e2:wo ss b=T*(mo ss b:Rat)+f+β:=by grind
  rw [e1,e2] at z'
  grind
theorem sd_lo {ss:List En} {T f β:Rat} {a b k:Nat} (hr:rising ss) (hab:a<b) (hbk:b<k) (hk:k<ss.length) (ea:lev ss T a-β=f) (eb:lev ss T b+β=f) (ek:f<lev ss T k-β):sd ss a b k < -(2*β):=by
  have d1:=mo_pos hr hab (by omega)
  have d2:=mo_pos hr hbk hk
  have d3:=mo_pos hr (Nat.lt_trans hab hbk) hk
  unfold lev at ea eb ek
  unfold sd chord
  refine Rat.not_le.mp fun z=>?_
  have z':(wo ss a*((mo ss k:Rat)-(mo ss b:Rat))+wo ss k*((mo ss b:Rat)-(mo ss a:Rat)))/((mo ss k:Rat)-(mo ss a:Rat))≤wo ss b+2*β:=by grind
  rw [rdiv_le d3] at z'
  have l:T*(mo ss k:Rat)+f+β<wo ss k:=by grind
  have:=Rat.mul_lt_mul_of_pos_right l d1
  have e1:wo ss a=T*(mo ss a:Rat)+f+β:=by grind
  have e2:wo ss b=T*(mo ss b:Rat)+f-β:=by grind
  rw [e1,e2] at z'
  grind
section
variable {P:Program} {w:World} {K:PySem.W.Frag} {mg:Str→Option Value} {base:Heap} {f:Addr} {fd:FuncData}
end

inductive Tr (es:List En) (β:Rat):Nat→Nat→Nat→List (Rat×Rat)→List (Bool×Nat×Nat×Nat)→Prop where
  | nil:Tr es β 0 0 0 [] []
  | stay {k fl ro:Nat} {ls:List (Rat×Rat)} {ts:List (Bool×Nat×Nat×Nat)} {g s g' s':Option Rat} (h:Tr es β k fl ro ls ts) (hk:k<es.length) (hP:BdP (es.take k) fl ro β g s) (hP':BdP (es.take (k+1)) fl ro β g' s') (hN:NoTurn (es.take k) β fl ro g s (mo es k) (wo es k)):Tr es β (k+1) fl ro ls ts
  | cap {k fl ro a b:Nat} {ls:List (Rat×Rat)} {ts:List (Bool×Nat×Nat×Nat)} {s:Option Rat} {G f:Rat} (h:Tr es β k fl ro ls ts) (hk:k<es.length) (hP:BdP (es.take k) fl ro β (some G) s) (hC:CapAt (es.take k) β fl ro (mo es k) (wo es k) G f a b):Tr es β (k+1) b k (ls++[(G,f)]) (ts++[(true,a,b,k)])
  | cup {k fl ro a b:Nat} {ls:List (Rat×Rat)} {ts:List (Bool×Nat×Nat×Nat)} {g:Option Rat} {S f:Rat} (h:Tr es β k fl ro ls ts) (hk:k<es.length) (hP:BdP (es.take k) fl ro β g (some S)) (hn:¬ ∃G,g=some G∧∃i,fl≤i∧i<(es.take k).length∧wo es k-G*(mo es k:Rat)+2*β<lev (es.take k) G i) (hC:CupAt (es.take k) β fl ro (mo es k) (wo es k) S f a b):Tr es β (k+1) k b (ls++[(S,f)]) (ts++[(false,a,b,k)])
noncomputable abbrev Ln:=Addr×Rat×Rat
noncomputable def lnv (ls:List Ln):List V:=ls.map fun x=>V.ref x.1
noncomputable def AllL (H:Hp) (ls:List Ln) (n:Nat):Prop:=∀x∈ls,LnAt H x.1 x.2.1 x.2.2 n
noncomputable abbrev Th:=Addr×(Bool×Nat×Nat×Nat)
noncomputable def ThrAt (H:Hp) (es:List En) (x:Th):Prop:=H x.1=some (.tup [.int (mo es x.2.2.1),.int (mo es x.2.2.2.1),.int (mo es x.2.2.2.2)])
theorem AllL.tv {H H':Hp} {ls:List Ln} {n:Nat} (t:∀{b:Addr} {xs:List V},H b=some (.tup xs)→H' b=some (.tup xs)) (h:AllL H ls n):AllL H' ls n:=fun x hx=>(h x hx).tv t
theorem AllL.snoc {H:Hp} {ls:List Ln} {x:Ln} {n:Nat} (h:AllL H ls n) (hx:LnAt H x.1 x.2.1 x.2.2 n):AllL H (ls++[x]) n:=fun y hy=>by
  rcases List.mem_append.mp hy with z | z
  · exact h y z
  · obtain rfl:y=x:=by simpa using z
    exact hx
theorem tup_app {H:Hp} {L:Addr} {ys zs:List V} (e:H L=some (.lst ys)) {b:Addr} {xs:List V} (h:H b=some (.tup xs)):upd H L (.lst zs) b=some (.tup xs):=by
  rw [upd_ne (fun q=>by rw [q,e] at h;cases h)]
  exact h
theorem BdOk.app {C:Addr} {H:Hp} {p Lb La L:Addr} {ss:List En} {fl ro:Nat} {β:Rat} {n nb:Nat} {g s:Option Rat} {ys zs:List V} (h:BdOk C H p Lb La ss fl ro β n nb g s) (e:H L=some (.lst ys)) (n1:L≠Lb) (n2:L≠La):BdOk C (upd H L (.lst zs)) p Lb La ss fl ro β n nb g s:=by
  obtain ⟨dx,bd,tw,fs,gv,sv,h⟩:=h
  exact ⟨dx,bd,tw,fs,gv,sv,h.mv (fun {b xs} z=>tup_app e z) (upd_ne (fun q=>by have:=h.at_;rw [q,e] at this;cases this)) (upd_ne (Ne.symm n1)) (upd_ne (Ne.symm n2))⟩
theorem BdOk.ats {C:Addr} {H:Hp} {p Lb La:Addr} {ss:List En} {fl ro:Nat} {β:Rat} {n nb:Nat} {g s:Option Rat} (h:BdOk C H p Lb La ss fl ro β n nb g s):(∃dx fs,H p=some (.ins C dx fs)∧(fs.lookup ("take":Str)=none∧fs.lookup ("line_now":Str)=none))∧(∃ys,H Lb=some (.lst ys))∧(∃ys,H La=some (.lst ys))∧BdP ss fl ro β g s:=
  let ⟨_,_,_,_,_,_,h⟩:=h;⟨⟨_,_,h.at_,h.F.meth "take",h.F.meth "line_now"⟩,⟨_,h.eb⟩,⟨_,h.ea⟩,h.P⟩
theorem take_snoc {es:List En} {j:Nat} {x:En} (hS:AllS es) (gx:es[j]?=some x):es.take (j+1)=es.take j++[(x.1,mo es j,some (wo es j))]:=by
  have xe:x=(x.1,mo es j,some (wo es j)):=by
    have:=hS x (List.mem_of_getElem? gx)
    obtain ⟨ax,mx,vx⟩:=x
    unfold mo wo
    rw [gx]
    cases vx with
    | none=>cases this
    | some q=>rfl
  rw [← xe,List.take_succ,gx]
  rfl
theorem mo_take {es:List En} {j i:Nat} (h:i<j):mo (es.take j) i=mo es i:=by unfold mo;rw [List.getElem?_take,if_pos h]
theorem wo_take {es:List En} {j i:Nat} (h:i<j):wo (es.take j) i=wo es i:=by unfold wo;rw [List.getElem?_take,if_pos h]
theorem lev_take {es:List En} {T:Rat} {j i:Nat} (h:i<j):lev (es.take j) T i=lev es T i:=by unfold lev;rw [mo_take h,wo_take h]
noncomputable def spLinks (C:Addr):Sp:=fun vs H Q _=>∃(l pb:Addr) (es:List En) (β:Rat) (n nb:Nat),vs=[.ref l,.ref pb]∧H l=some (.lst (vals es))∧Row H es n∧AllS es∧rising es∧0<es.length∧es.length≤800∧FrAt H pb β nb∧0≤β∧1≤n∧n≤1500∧(5*n+4*nb≤7900∧nb≤1000) ∧
  ∀(y Ll Lt:Addr) (ls:List Ln) (ths:List Th) (ks:List (Rat×Rat)) (fl ro:Nat) (g s:Option Rat) (T f:Rat) (H':Hp),Same H H'→H' y=some (.tup [.ref Ll,.ref Lt])→H Ll=none→H Lt=none→H' Ll=some (.lst (lnv ls))→AllL H' ls (5*n+3*nb+7)→ls.map (·.2)=ks++[(T,f)]→H' Lt=some (.lst (ths.map fun x=>V.ref x.1))→(∀x∈ths,ThrAt H' es x)→Tr es β es.length fl ro ks (ths.map (·.2))→BdP es fl ro β g s→NowAt es β fl g s T f→ks.length≤es.length→ths.length≤es.length→Q (.ref y) H'
section
variable {P:Program} {w:World} {K:PySem.W.Frag} {mg:Str→Option Value} {base:Heap} {f c_Bend:Addr} {fd:FuncData}
theorem sc_links_of:FnScope ["run","bound","bend","links","threes","sample","ended"] ["run","bound"] (defScope s_links_of):=⟨rfl,rfl,rfl,by decide +kernel,rfl,by decide +kernel,by decide +kernel⟩
theorem ok_links_of (F:Fun K "links_of" "links_of" s_links_of f fd) (T:Txt mg) (K_Bend:Cl K mg "Bend" c_Bend ["bound","twice","below","above","gentlest","steepest"]) (D_Bend:Dk P w K mg base 6 "Bend" c_Bend ["self","bound"] (spBInit c_Bend)) (D_Bend_take:Dm P w K mg base 7 c_Bend "take" ["self","sample"] (spTake c_Bend)) (D_Bend_line_now:Dm P w K mg base 6 c_Bend "line_now" ["self"] (spNow c_Bend)):FnOk P w K mg base CX0 8 f fd ["run","bound"] (spLinks c_Bend):=by
  refine F.ok sc_links_of (fun vs H Q E h=>?_) (fun cdv A outer s H vs Q E hr h=>?_)
  · obtain ⟨l,pb,es,β,n,nb,rfl,_⟩:=h
    rfl
  obtain ⟨l,pb,es,β,n,nb,rfl,hl,hR,hS,hri,h0,h800,hb,hβ,h1,hn,hnb,k⟩:=h
  refine J.l ⟨_,(J.e (J.i (i:=2) sc_links_of.nd rfl (Or.inl rfl) (Jd.pe_dk D_Bend (hr.mono (by decide)) rfl (J.b (J.a 1) J.d st_N) (he:=st_N) (hpl:=any0)) (hs:=sw_K))
      (J.e (J.i (i:=3) sc_links_of.nd rfl (Or.inl rfl) (J.t J.d) (hs:=sw_L))
      (J.e (J.i (i:=4) sc_links_of.nd rfl (Or.inl rfl) (J.t J.d) (hs:=sw_L))
      (J.e (J.ab PassesOwn.never rfl (J.x K (J.a 0)) (J.q (i:=5) sc_links_of.nd rfl (Or.inl rfl))
      (J.e (J.i (i:=6) sc_links_of.nd rfl (Or.inl rfl) (Jd.pe_dm D_Bend_take K_Bend.cl (hr.mono (by decide)) (J.a 2) (J.b (J.a 5) J.d st_N) (he:=st_N) (hpl:=any0)) (hs:=sw_K))
      (J.g (J.o (J.n op_notN (J.a 6) J.v (nomark _))
      (J.e (J.u (J.w K (J.a 3) (J.f (ixT K) (J.a 6) J.c (fun _ _=>rfl))) (hs:=sw_K))
      (J.g (J.u (J.w K (J.a 4) (J.f (ixT K) (J.a 6) J.c (fun _ _=>rfl))) (hs:=sw_K))))
      J.s))))
      (J.e (J.u (J.w K (J.a 3) (Jd.pe_dm0 D_Bend_line_now K_Bend.cl (hr.mono (by decide)) (J.a 2))) (hs:=sw_K))
      (J.g (J.k (J.m (J.b (J.a 3) (J.b (J.a 4) J.d st_N) st_N))))))))),?_⟩
  walk_at "v"
  intro p dx np ndx nedx
  have hp7:upd (upd H dx (.own p)) p (.ins c_Bend dx []) p=some (.ins c_Bend dx []):=upd_same
  have s7:Same H (upd (upd H dx (.own p)) p (.ins c_Bend dx [])):=fun b' o e=>by
    rw [upd_ne (ne_of_none e np),upd_ne (ne_of_none e ndx)]
    exact e
  generalize upd (upd H dx (.own p)) p (.ins c_Bend dx [])=H7 at *
  refine ⟨p,dx,pb,β,nb,rfl,hp7,hb.up s7,by walk_at "o",fun Lb La H8 kk s8 nb8 na8 hB8=>⟨rfl,?_⟩⟩
  have s08:Same H H8:=fun b' o e=>s8 _ _ (by rw [rm_at (ne_of_none e np)];exact s7 _ _ e)
  have nb0:H Lb=none:=s7.free nb8
  have na0:H La=none:=s7.free na8
  have hB0:BdOk c_Bend H8 p Lb La [] 0 0 β n nb none none:=hB8.fresh
  walk_at "v"
  refine r_new (mk:=.lst) (by simp) fun Ll H9 s9 n9 e9=>?_
  walk_at "v"
  refine r_new (mk:=.lst) (by simp) fun Lt H10 s10 n10 e10=>?_
  have s810:=s9.trans s10
  have s010:=s08.trans s810
  have nl0:H Ll=none:=s08.free n9
  have nt0:H Lt=none:=(s08.trans s9).free n10
  have nlt:Ll≠Lt:=fun z=>by rw [← z,e9] at n10;cases n10
  obtain ⟨_,⟨_,eb0⟩,⟨_,ea0⟩,_⟩:=hB0.ats
  walk_at "v"
  refine r_for (r_iL ?_)
  walk_at "v"
  refine ⟨l,rfl,⟨_,SqL.of (s010 _ _ hl)⟩,for_list (xs:=vals es) (fun i σ H3=>∃(v5 v6:Option V) (Lb La:Addr) (fl ro:Nat) (g s:Option Rat) (ls:List Ln) (ths:List Th),σ=[some (.ref l),some (.ref pb),some (.ref p),some (.ref Ll),some (.ref Lt),v5,v6]∧Same H H3∧H Lb=none∧H La=none∧Ll≠Lb∧Ll≠La∧Lt≠Lb∧Lt≠La∧BdOk c_Bend H3 p Lb La (es.take i) fl ro β n nb g s∧H3 Ll=some (.lst (lnv ls))∧H3 Lt=some (.lst (ths.map fun x=>V.ref x.1))∧AllL H3 ls (5*n+3*nb+7)∧(∀x∈ths,ThrAt H3 es x)∧Tr es β i fl ro (ls.map (·.2)) (ths.map (·.2))∧ls.length≤i∧ths.length≤i) ?_ ?_ ?_ ?_⟩
  · refine ⟨none,none,Lb,La,0,0,none,none,[],[],rfl,s010,nb0,na0,fun z=>?_,fun z=>?_,fun z=>?_,fun z=>?_,hB0.up s810,s10 _ _ e9,e10,fun x hx=>absurd hx (by simp),fun x hx=>absurd hx (by simp),.nil,Nat.le_refl _,Nat.le_refl _⟩
    · rw [z,eb0] at n9;cases n9
    · rw [z,ea0] at n9;cases n9
    · rw [z,s9 _ _ eb0] at n10;cases n10
    · rw [z,s9 _ _ ea0] at n10;cases n10
  · rintro i σ H3 _ ⟨v5,v6,Lb,La,fl,ro,g,s,ls,ths,rfl,s3,_⟩
    exact SqL.of (s3 _ _ hl)
  · rintro i v σ H3 hv ⟨v5,v6,Lb,La,fl,ro,g,s,ls,ths,rfl,s3,nb3,na3,q1,q2,q3,q4,hB3,el3,et3,hL3,hT3,hTr,ll,lt⟩
    obtain ⟨x,gx,rfl⟩:=vals_at hv
    have hi:i<es.length:=(List.getElem?_eq_some_iff.mp gx).1
    obtain ⟨x',gx',fx⟩:=sa_at (hR.up s3) hS hi
    rw [gx] at gx'
    cases gx'
    have tl:(es.take i).length=i:=by rw [List.length_take];walk_at "o"
    have tk:=take_snoc hS gx
    obtain ⟨⟨dx3,fs3,ep3,mt3,_⟩,⟨_,eb3⟩,⟨_,ea3⟩,hP3⟩:=hB3.ats
    have npl:Ll≠p:=fun z=>by rw [z,ep3] at el3;cases el3
    have npt:Lt≠p:=fun z=>by rw [z,ep3] at et3;cases et3
    have hm:∀c,c<(es.take i).length→mo (es.take i) c<mo es i:=fun c hc=>by
      rw [tl] at hc
      rw [mo_take hc]
      exact mo_lt hri hc hi
    refine body_cut fun M B RR hM hB hR'=>?_
    walk_at "v"
    refine r_m ep3 mt3 ?_
    walk_at "v"
    have tup:∀{H4:Hp},Same (rmB p Lb La H3) H4→(∀{b:Addr} {xs:List V},H3 b=some (.tup xs)→H4 b=some (.tup xs))∧Same H H4∧H4 Ll=some (.lst (lnv ls))∧H4 Lt=some (.lst (ths.map fun x=>V.ref x.1)):=fun {H4} ks=>by
      refine ⟨fun {b xs} e=>ks _ _ ?_,keepB s3 np nb3 na3 ks,ks _ _ ?_,ks _ _ ?_⟩
      · rw [rmB_at (fun z=>by rw [z,ep3] at e;cases e) (fun z=>by rw [z,eb3] at e;cases e) (fun z=>by rw [z,ea3] at e;cases e)]
        exact e
      · rw [rmB_at npl q1 q2]
        exact el3
      · rw [rmB_at npt q3 q4]
        exact et3
    refine ⟨p,Lb,La,x.1,es.take i,fl,ro,mo es i,wo es i,β,n,nb,g,s,rfl,hB3,fx,hm,by walk_at "o",h1,hn,hnb,hβ,fun g' s' H4 ks hN hB4=>?_,fun r ln th Lb' La' G fo a b s2' H4 ks eg hC er fl4 eth hB4 n1 n2=>?_,fun r ln th Lb' La' S fo a b g2' H4 ks es' hno hC er fl4 eth hB4 n1 n2=>?_⟩
    · obtain ⟨tp,sH,eL4,eT4⟩:=tup ks
      walk_at "v"
      refine ⟨rfl,?_⟩
      walk_at "v"
      refine iteF ?_
      walk_at "v"
      exact hM _ _ ⟨_,_,Lb,La,fl,ro,g',s',ls,ths,rfl,sH,nb3,na3,q1,q2,q3,q4,by rw [tk];exact hB4,eL4,eT4,hL3.tv tp,fun x hx=>tp (hT3 x hx),.stay hTr hi hP3 (by rw [tk];exact hB4.ats.2.2.2) hN,by walk_at "o",by walk_at "o"⟩
    · subst eg
      obtain ⟨tp,sH,eL4,eT4⟩:=tup ks
      have hbl:=hC.lb
      have hab:=hC.hab
      rw [tl] at hbl
      walk_at "v"
      refine ⟨rfl,?_⟩
      walk_at "v"
      refine iteT ?_
      walk_at "v"
      refine ⟨.inl ⟨rfl,_,SqL.of eL4⟩,?_⟩
      walk_at "v"
      refine r_app eL4 (by unfold lnv;rw [List.length_map];exact small1000 (by walk_at "o")) ?_
      have nl1:Ll≠Lb':=fun z=>by rw [← z,el3] at n1;cases n1
      have nl2:Ll≠La':=fun z=>by rw [← z,el3] at n2;cases n2
      have nt1:Lt≠Lb':=fun z=>by rw [← z,et3] at n1;cases n1
      have nt2:Lt≠La':=fun z=>by rw [← z,et3] at n2;cases n2
      have hB5:=hB4.app (zs:=lnv ls++[.ref ln]) eL4 nl1 nl2
      have tp5:∀{b:Addr} {xs:List V},H4 b=some (.tup xs)→upd H4 Ll (.lst (lnv ls++[.ref ln])) b=some (.tup xs):=fun e=>tup_app eL4 e
      have eL5:upd H4 Ll (.lst (lnv ls++[.ref ln])) Ll=some (.lst (lnv (ls++[(ln,G,fo)]))):=by rw [upd_same];simp [lnv]
      have eT5:upd H4 Ll (.lst (lnv ls++[.ref ln])) Lt=some (.lst (ths.map fun x=>V.ref x.1)):=by rw [upd_ne (Ne.symm nlt)];exact eT4
      have sH5:Same H (upd H4 Ll (.lst (lnv ls++[.ref ln]))):=same_at sH nl0
      have er5:=tp5 er
      generalize upd H4 Ll (.lst (lnv ls++[.ref ln]))=H5 at *
      walk_at "v"
      refine ⟨.inl ⟨rfl,_,SqL.of eT5⟩,?_⟩
      walk_at "v"
      refine r_app eT5 (by rw [List.length_map];exact small1000 (by walk_at "o")) ?_
      have tp6:∀{b:Addr} {xs:List V},H5 b=some (.tup xs)→upd H5 Lt (.lst ((ths.map fun x=>V.ref x.1)++[.ref th])) b=some (.tup xs):=fun e=>tup_app eT5 e
      refine hM _ _ ⟨_,_,Lb',La',b,(es.take i).length,none,s2',ls++[(ln,G,fo)],ths++[(th,(true,a,b,i))],rfl,same_at sH5 nt0,s3.free n1,s3.free n2,nl1,nl2,nt1,nt2,by rw [tk];exact hB5.app eT5 nt1 nt2,by rw [upd_ne nlt];exact eL5,by rw [upd_same];simp,?_,fun z hz=>?_,?_,by rw [List.length_append];show _+1≤i+1;walk_at "o",by rw [List.length_append];show _+1≤i+1;walk_at "o"⟩
      · exact (((hL3.tv tp).snoc fl4).tv tp5).tv tp6
      · rcases List.mem_append.mp hz with z | z
        · exact tp6 (tp5 (tp (hT3 _ z)))
        · obtain rfl:_=(th,(true,a,b,i)):=by simpa using z
          refine tp6 (tp5 ?_)
          show H4 th=_
          rw [eth,mo_take (show a<i by walk_at "o"),mo_take hbl]
      · rw [tl,List.map_append,List.map_append]
        exact .cap hTr hi hP3 hC
    · subst es'
      obtain ⟨tp,sH,eL4,eT4⟩:=tup ks
      have hbl:=hC.lb
      have hab:=hC.hab
      rw [tl] at hbl
      walk_at "v"
      refine ⟨rfl,?_⟩
      walk_at "v"
      refine iteT ?_
      walk_at "v"
      refine ⟨.inl ⟨rfl,_,SqL.of eL4⟩,?_⟩
      walk_at "v"
      refine r_app eL4 (by unfold lnv;rw [List.length_map];exact small1000 (by walk_at "o")) ?_
      have nl1:Ll≠Lb':=fun z=>by rw [← z,el3] at n1;cases n1
      have nl2:Ll≠La':=fun z=>by rw [← z,el3] at n2;cases n2
      have nt1:Lt≠Lb':=fun z=>by rw [← z,et3] at n1;cases n1
      have nt2:Lt≠La':=fun z=>by rw [← z,et3] at n2;cases n2
      have hB5:=hB4.app (zs:=lnv ls++[.ref ln]) eL4 nl1 nl2
      have tp5:∀{b:Addr} {xs:List V},H4 b=some (.tup xs)→upd H4 Ll (.lst (lnv ls++[.ref ln])) b=some (.tup xs):=fun e=>tup_app eL4 e
      have eL5:upd H4 Ll (.lst (lnv ls++[.ref ln])) Ll=some (.lst (lnv (ls++[(ln,S,fo)]))):=by rw [upd_same];simp [lnv]
      have eT5:upd H4 Ll (.lst (lnv ls++[.ref ln])) Lt=some (.lst (ths.map fun x=>V.ref x.1)):=by rw [upd_ne (Ne.symm nlt)];exact eT4
      have sH5:Same H (upd H4 Ll (.lst (lnv ls++[.ref ln]))):=same_at sH nl0
      have er5:=tp5 er
      generalize upd H4 Ll (.lst (lnv ls++[.ref ln]))=H5 at *
      walk_at "v"
      refine ⟨.inl ⟨rfl,_,SqL.of eT5⟩,?_⟩
      walk_at "v"
      refine r_app eT5 (by rw [List.length_map];exact small1000 (by walk_at "o")) ?_
      have tp6:∀{b:Addr} {xs:List V},H5 b=some (.tup xs)→upd H5 Lt (.lst ((ths.map fun x=>V.ref x.1)++[.ref th])) b=some (.tup xs):=fun e=>tup_app eT5 e
      refine hM _ _ ⟨_,_,Lb',La',(es.take i).length,b,g2',none,ls++[(ln,S,fo)],ths++[(th,(false,a,b,i))],rfl,same_at sH5 nt0,s3.free n1,s3.free n2,nl1,nl2,nt1,nt2,by rw [tk];exact hB5.app eT5 nt1 nt2,by rw [upd_ne nlt];exact eL5,by rw [upd_same];simp,?_,fun z hz=>?_,?_,by rw [List.length_append];show _+1≤i+1;walk_at "o",by rw [List.length_append];show _+1≤i+1;walk_at "o"⟩
      · exact (((hL3.tv tp).snoc fl4).tv tp5).tv tp6
      · rcases List.mem_append.mp hz with z | z
        · exact tp6 (tp5 (tp (hT3 _ z)))
        · obtain rfl:_=(th,(false,a,b,i)):=by simpa using z
          refine tp6 (tp5 ?_)
          show H4 th=_
          rw [eth,mo_take (show a<i by walk_at "o"),mo_take hbl]
      · rw [tl,List.map_append,List.map_append]
        exact .cup hTr hi hP3 hno hC
  · rintro σ H3 ⟨v5,v6,Lb,La,fl,ro,g,s,ls,ths,rfl,s3,nb3,na3,q1,q2,q3,q4,hB3,el3,et3,hL3,hT3,hTr,ll,lt⟩
    rw [vals_len] at *
    rw [List.take_length] at hB3
    obtain ⟨⟨dx3,fs3,ep3,_,mn3⟩,_,_,hP3⟩:=hB3.ats
    walk_at "v"
    refine ⟨.inl ⟨rfl,_,SqL.of el3⟩,?_⟩
    walk_at "v"
    refine r_m ep3 mn3 ?_
    walk_at "v"
    refine ⟨p,Lb,La,es,fl,ro,β,n,nb,g,s,rfl,hB3,by walk_at "o",h1,hn,hnb,fun z=>absurd h0 (by rw [z];decide),fun _ ln TT fo H4 s4 f4 hNow=>?_⟩
    have el4:=s4 _ _ el3
    walk_at "v"
    refine r_app el4 (by unfold lnv;rw [List.length_map];exact small1000 (by walk_at "o")) ?_
    walk_at "v"
    have tp5:∀{b:Addr} {xs:List V},H4 b=some (.tup xs)→upd H4 Ll (.lst (lnv ls++[.ref ln])) b=some (.tup xs):=fun e=>tup_app el4 e
    refine r_new (mk:=.tup) (by simp) fun y H6 s6 n6 e6=>?_
    refine k y Ll Lt (ls++[(ln,TT,fo)]) ths (ls.map (·.2)) fl ro g s TT fo H6 (fun b o e=>s6 _ _ (same_at (s3.trans s4) nl0 _ _ e)) e6 nl0 nt0 (s6 _ _ ?_) (AllL.tv (fun {b xs} e=>s6 _ _ e) (((hL3.tv fun {b xs} e=>s4 _ _ e).snoc f4).tv tp5)) (by simp) (s6 _ _ ?_) (fun x hx=>s6 _ _ (tp5 (s4 _ _ (hT3 x hx)))) hTr hP3 hNow (by rw [List.length_map];exact ll) lt
    · rw [upd_same];simp [lnv]
    · rw [upd_ne (Ne.symm nlt)];exact s4 _ _ et3
end

noncomputable def lsl (ks:List (Rat×Rat)) (i:Nat):Rat:=((ks[i]?).map (·.1)).getD 0
noncomputable def lhl (ks:List (Rat×Rat)) (i:Nat):Rat:=((ks[i]?).map (·.2)).getD 0
noncomputable def xAt (ks:List (Rat×Rat)) (i:Nat):Rat:=(lhl ks (i+1)-lhl ks i)/(lsl ks i-lsl ks (i+1))
noncomputable def ptOf (ks:List (Rat×Rat)) (t0 t1:Int) (i:Nat):Rat×Rat:=
  if i=0 then ((t0:Rat),lsl ks 0*(t0:Rat)+lhl ks 0) else if i<ks.length then (xAt ks (i-1),lsl ks (i-1)*xAt ks (i-1)+lhl ks (i-1)) else ((t1:Rat),lsl ks (ks.length-1)*(t1:Rat)+lhl ks (ks.length-1))
noncomputable def pcOf (ks:List (Rat×Rat)) (t0 t1:Int) (i:Nat):Rat×Rat×Rat×Rat:=((ptOf ks t0 t1 i).1,(ptOf ks t0 t1 i).2,(ptOf ks t0 t1 (i+1)).1,(ptOf ks t0 t1 (i+1)).2)
theorem lnv_len (ls:List Ln):(lnv ls).length=ls.length:=List.length_map ..
theorem lnv_at {ls:List Ln} {i:Nat} {v:V} (h:(lnv ls)[i]?=some v):∃x,ls[i]?=some x∧v=.ref x.1:=by
  unfold lnv at h
  rw [List.getElem?_map] at h
  cases e:ls[i]? with
  | none=>rw [e] at h;cases h
  | some x=>rw [e] at h;cases h;exact ⟨x,rfl,rfl⟩
theorem lnv_get {ls:List Ln} {i:Nat} {x:Ln} (h:ls[i]?=some x):(lnv ls)[i]?=some (.ref x.1):=by
  unfold lnv
  rw [List.getElem?_map,h]
  rfl
theorem ls_at {ls:List Ln} {i:Nat} {x:Ln} (h:ls[i]?=some x):lsl (ls.map (·.2)) i=x.2.1∧lhl (ls.map (·.2)) i=x.2.2:=by
  unfold lsl lhl
  rw [List.getElem?_map,h]
  exact ⟨rfl,rfl⟩
theorem cutOne (xs:List V):cutV xs (some 1) none=xs.drop 1:=by
  unfold cutV
  rw [show (1:Int)=((1:Nat):Int) from rfl,HT.sIx_nat,show HT.sIx xs.length xs.length none=xs.length from rfl]
  rcases Nat.le_total 1 xs.length with z | z
  · rw [Nat.min_eq_left z]
    exact List.take_of_length_le (by rw [List.length_drop];exact Nat.le_refl _)
  · rw [Nat.min_eq_right z,List.drop_of_length_le z,List.drop_of_length_le (Nat.le_refl _)]
    simp
noncomputable def spPoint:Sp:=fun vs H Q _=>∃(p:Addr) (T f:Rat) (t:Int) (n:Nat),vs=[.ref p,.int t]∧LnAt H p T f n∧Sz n t∧1≤n∧n≤1300∧∀(y:Addr) (H':Hp),Same H H'→LnAt H' y (t:Rat) (T*(t:Rat)+f) (6*n+3)→Q (.ref y) H'
noncomputable def spAlong:Sp:=fun vs H Q _=>∃(l:Addr) (ls:List Ln) (t0 t1:Int) (n:Nat),vs=[.ref l,.int t0,.int t1]∧H l=some (.lst (lnv ls))∧AllL H ls n∧0<ls.length∧ls.length≤900∧Sz n t0∧Sz n t1∧1≤n∧n≤1300∧(∀i,i+1<ls.length→lsl (ls.map (·.2)) i≠lsl (ls.map (·.2)) (i+1)) ∧
  ∀(R:Addr) (ps:List Pc) (H':Hp),Same H H'→H R=none→H' R=some (.lst (ps.map fun x=>V.ref x.1))→AllP H' ps (6*n+3)→ps.map (·.2)=(List.range ls.length).map (pcOf (ls.map (·.2)) t0 t1)→Q (.ref R) H'
section
variable {P:Program} {w:World} {K:PySem.W.Frag} {mg:Str→Option Value} {base:Heap} {f c_Bend:Addr} {fd:FuncData}
theorem sc_point_on:FnScope ["line","moment"] ["line","moment"] (defScope s_point_on):=⟨rfl,rfl,rfl,by decide +kernel,rfl,by decide +kernel,by decide +kernel⟩
theorem ok_point_on (F:Fun K "point_on" "point_on" s_point_on f fd) (D_height:Dn P w K mg base 5 "height" ["line","when"] spHeight):FnOk P w K mg base CX0 6 f fd ["line","moment"] spPoint:=by
  refine F.ok sc_point_on (fun vs H Q E h=>?_) (fun cdv A outer s H vs Q E hr h=>?_)
  · obtain ⟨p,T,f,t,n,rfl,_⟩:=h
    rfl
  obtain ⟨p,TT,fo,t,n,rfl,hL,zt,h1,hn,k⟩:=h
  refine J.l ⟨_,(J.g (J.k (J.m (J.b (J.m (J.b (J.a 1) (J.b J.c J.d st_C) st_N)) (J.b (J.j D_height (hr.mono (by decide)) rfl (J.b (J.a 0) (J.b (J.m (J.b (J.a 1) (J.b J.c J.d st_C) st_N)) J.d st_T) st_N) (he:=st_N) (hpl:=(anyc st_T any0))) J.d st_K) st_T)))),?_⟩
  walk_at "v"
  refine r_new (mk:=.tup) (by simp) fun a H1 s1 n1 e1=>?_
  have fa:FrAt H1 a (t:Rat) n:=⟨t,1,e1,⟨by decide,by simp,by grind⟩,zt,one_sz h1⟩
  walk_at "v"
  refine r_new (mk:=.tup) (by simp) fun b H2 s2 n2 e2=>?_
  walk_at "v"
  refine ⟨p,b,TT,fo,(t:Rat),n,n,rfl,hL.up2 (s1.trans s2),whole_at e2 zt h1,by walk_at "o",fun z H3 s3 f3=>?_⟩
  walk_at "v"
  refine r_new (mk:=.tup) (by simp) fun y H4 s4 n4 e4=>?_
  exact k y H4 (s1.trans (s2.trans (s3.trans s4))) ⟨a,z,e4,(fa.up (s2.trans (s3.trans s4))).mono (by walk_at "o"),(f3.up s4).mono (by walk_at "o")⟩
theorem sc_pieces_along:FnScope ["links","first","last","points"] ["links","first","last"] (defScope s_pieces_along):=⟨rfl,rfl,rfl,by decide +kernel,rfl,by decide +kernel,by decide +kernel⟩
theorem ok_pieces_along (F:Fun K "pieces_along" "pieces_along" s_pieces_along f fd) (T:Txt mg) (D_point_on:Dn P w K mg base 6 "point_on" ["line","moment"] spPoint) (D_meet:Dn P w K mg base 6 "meet" ["line","other"] spMeet):FnOk P w K mg base CX0 7 f fd ["links","first","last"] spAlong:=by
  refine F.ok sc_pieces_along (fun vs H Q E h=>?_) (fun cdv A outer s H vs Q E hr h=>?_)
  · obtain ⟨l,ls,t0,t1,n,rfl,_⟩:=h
    rfl
  obtain ⟨l,ls,t0,t1,n,rfl,hl,hL,h0,h900,z0,z1,h1,hn,hne,k⟩:=h
  generalize hks:ls.map (·.2)=ks at *
  have hkl:ks.length=ls.length:=by rw [← hks,List.length_map]
  have lat:∀{i:Nat} {x:Ln},ls[i]?=some x→lsl ks i=x.2.1∧lhl ks i=x.2.2:=fun {i x} h=>by rw [← hks];exact ls_at h
  obtain ⟨x0,g0⟩:∃x,ls[0]?=some x:=⟨ls[0],List.getElem?_eq_getElem h0⟩
  obtain ⟨xl,gl⟩:∃x,ls[ls.length-1]?=some x:=⟨ls[ls.length-1],List.getElem?_eq_getElem (by walk_at "o")⟩
  refine J.l ⟨_,(J.e (J.i (i:=3) sc_pieces_along.nd rfl (Or.inl rfl) (J.t (J.b (J.j D_point_on (hr.mono (by decide)) rfl (J.b (J.f (ixL K) (J.a 0) J.c (fun _ _=>rfl)) (J.b (J.a 1) J.d st_N) st_S) (he:=st_S) (hpl:=(anyc st_N any0))) J.d st_K)) (hs:=sw_L))
      (J.e (J.u (Jd.extC K (J.a 3) (J.ac (O:=["line","behind"]) (N':=[]) (cap:=[]) rfl (Jd.pi_zip K rfl T.zip_ (J.b (J.a 0) (J.b (Jd.pe_slice (slL K) (J.a 0) (Jd.po_some J.c) Jd.po_none) J.d st_S) st_N)) (fun _ _ _ _ _=>(Jd.pgT K (n:=2) rfl (J.aa (J.q (i:=0) (show List.Nodup [("line":Str),("behind":Str)] by decide +kernel) rfl (Or.inl rfl)) (J.aa (J.q (i:=1) (show List.Nodup [("line":Str),("behind":Str)] by decide +kernel) rfl (Or.inl rfl)) Jd.pgs_nil)))) (fun _ _ _ _ _=>J.ad) (fun _ _ _ _ _=>(J.j D_meet (hr.mono (by decide)) rfl (J.b (J.a 0) (J.b (J.a 1) J.d st_N) st_N) (he:=st_N) (hpl:=(anyc st_N any0)))) rfl trivial rfl (by decide +kernel) rfl (by decide +kernel))) (hs:=sw_K))
      (J.e (J.u (J.w K (J.a 3) (J.j D_point_on (hr.mono (by decide)) rfl (J.b (J.f (ixL K) (J.a 0) (J.z un_neg J.c) (fun _ _=>rfl)) (J.b (J.a 2) J.d st_N) st_S) (he:=st_S) (hpl:=(anyc st_N any0)))) (hs:=sw_K))
      (J.g (J.k (J.ac (O:=["start","end"]) (N':=[]) (cap:=[]) rfl (Jd.pi_zip K rfl T.zip_ (J.b (J.a 3) (J.b (Jd.pe_slice (slL K) (J.a 3) (Jd.po_some J.c) Jd.po_none) J.d st_S) st_N)) (fun _ _ _ _ _=>(Jd.pgT K (n:=2) rfl (J.aa (J.q (i:=0) (show List.Nodup [("start":Str),("end":Str)] by decide +kernel) rfl (Or.inl rfl)) (J.aa (J.q (i:=1) (show List.Nodup [("start":Str),("end":Str)] by decide +kernel) rfl (Or.inl rfl)) Jd.pgs_nil)))) (fun _ _ _ _ _=>J.ad) (fun _ _ _ _ _=>(J.h (catT K) (J.a 0) (J.a 1))) rfl trivial rfl (by decide +kernel) rfl (by decide +kernel))))))),?_⟩
  walk_at "v"
  refine r_l hl (atI_nat (j:=0) (lnv_get g0)) ?_
  walk_at "v"
  refine ⟨x0.1,x0.2.1,x0.2.2,t0,n,rfl,hL x0 (List.mem_of_getElem? g0),z0,h1,hn,fun y0 H1 s1 f1=>?_⟩
  walk_at "v"
  refine r_new (mk:=.lst) (by simp) fun PT H2 s2 n2 e2=>?_
  have s02:=s1.trans s2
  have nPT:H PT=none:=s1.free n2
  walk_at "v"
  refine ⟨.inl ⟨rfl,_,SqL.of e2⟩,?_⟩
  walk_at "v"
  refine r_zip ?_
  walk_at "v"
  refine ⟨_,rfl,1,rfl,l,_,rfl,SqL.of (s02 _ _ hl),fun P1 nP1=>?_⟩
  rw [cutOne]
  have s3:Same H2 (upd H2 P1 (.lst ((lnv ls).drop 1))):=same_at (Same.refl _) nP1
  have e3:upd H2 P1 (.lst ((lnv ls).drop 1)) P1=some (.lst ((lnv ls).drop 1)):=upd_same
  generalize upd H2 P1 (.lst ((lnv ls).drop 1))=H3 at *
  have s03:=s02.trans s3
  walk_at "v"
  refine ⟨l,P1,_,_,rfl,SqL.of (s03 _ _ hl),SqL.of e3,?_⟩
  refine compB_zip (N0':=ls.length-1) (by rw [lnv_len];walk_at "o") (by rw [List.length_drop,lnv_len];walk_at "o") (.inr (by rw [List.length_drop,lnv_len];walk_at "o")) (fun H9 s9=>⟨SqL.of ((s03.trans s9) _ _ hl),SqL.of (s9 _ _ e3)⟩) (by walk_at "o") (fun c ys G=>∃qs:List Ln,ys=lnv qs∧AllL G qs (6*n+3)∧qs.map (·.2)=(List.range c).map fun i=>ptOf ks t0 t1 (i+1)) ⟨[],rfl,fun x hx=>absurd hx (by simp),rfl⟩ ?_ ?_
  · rintro D c v v' ys H9 H10 pp σ0 NN N0 hh0 hD eD s9 s10 epp hc hv hv' hy ⟨qs,rfl,hqs,hmap⟩ kY kN
    obtain ⟨x,gx,rfl⟩:=lnv_at hv
    rw [List.getElem?_drop,Nat.add_comm] at hv'
    obtain ⟨x',gx',rfl⟩:=lnv_at hv'
    have s010:=s03.trans (s9.trans s10)
    obtain ⟨l1,l2⟩:=lat gx
    obtain ⟨l3,l4⟩:=lat gx'
    have hc':c+1<ls.length:=(List.getElem?_eq_some_iff.mp gx').1
    have ne:x.2.1≠x'.2.1:=by rw [← l1,← l3];exact hne c hc'
    refine r_own2 hh0 epp ?_
    walk_at "v"
    refine iteT ?_
    walk_at "v"
    refine ⟨x.1,x'.1,_,_,_,_,n,rfl,(hL x (List.mem_of_getElem? gx)).up2 s010,(hL x' (List.mem_of_getElem? gx')).up2 s010,h1,hn,fun z=>absurd z ne,fun _ z a b H11 s11 e11 fa fb=>?_⟩
    have pe:ptOf ks t0 t1 (c+1)=((x'.2.2-x.2.2)/(x.2.1-x'.2.1),x.2.1*((x'.2.2-x.2.2)/(x.2.1-x'.2.1))+x.2.2):=by
      unfold ptOf xAt
      rw [if_neg (by omega),if_pos (by omega),Nat.add_sub_cancel,l1,l2,l3,l4]
    refine kY _ H11 s11 ⟨qs++[(z,ptOf ks t0 t1 (c+1))],by simp [lnv],fun y hy'=>?_,?_⟩
    · rcases List.mem_append.mp hy' with w | w
      · exact (hqs y w).tv fun {b xs} e=>(rm_rm (s10.trans s11)) _ _ e
      · obtain rfl:y=(z,ptOf ks t0 t1 (c+1)):=by simpa using w
        rw [pe]
        have ln:LnAt H11 z ((x'.2.2-x.2.2)/(x.2.1-x'.2.1)) (x.2.1*((x'.2.2-x.2.2)/(x.2.1-x'.2.1))+x.2.2) (6*n+3):=⟨a,b,e11,fa.mono (by walk_at "o"),fb⟩
        exact ln.tv fun {b xs} e=>rm_tup ((s10.trans s11) _ _ eD) e
    · rw [List.map_append,hmap,List.range_succ,List.map_append]
      rfl
  rintro D ys H4 hD eD s4 hy ⟨qs,rfl,hqs,hmap⟩
  have s04:=s03.trans s4
  have e24:=(s3.trans s4) _ _ e2
  have f14:=f1.up2 (s2.trans (s3.trans s4))
  have hqs4:AllL H4 qs (6*n+3):=hqs.tv fun {b xs} e=>rm_same _ _ e
  have hql:qs.length=ls.length-1:=by
    have:=congrArg List.length hmap
    simpa using this
  walk_at "v"
  refine r_ext e24 eD (by rw [lnv_len];exact Nat.le_of_lt (small1000 (by show 1+qs.length≤1000;walk_at "o"))) ?_
  have t5:∀{b:Addr} {xs:List V},H4 b=some (.tup xs)→upd H4 PT (.lst ([.ref y0]++lnv qs)) b=some (.tup xs):=fun e=>tup_app e24 e
  have e5:upd H4 PT (.lst ([.ref y0]++lnv qs)) PT=some (.lst (lnv ((y0,ptOf ks t0 t1 0)::qs))):=by rw [upd_same];rfl
  have s5:Same H (upd H4 PT (.lst ([.ref y0]++lnv qs))):=same_at s04 nPT
  have p0:ptOf ks t0 t1 0=((t0:Rat),x0.2.1*(t0:Rat)+x0.2.2):=by
    unfold ptOf
    rw [if_pos rfl,(lat g0).1,(lat g0).2]
  have hA5:AllL (upd H4 PT (.lst ([.ref y0]++lnv qs))) ((y0,ptOf ks t0 t1 0)::qs) (6*n+3):=fun y hy'=>by
    rcases List.mem_cons.mp hy' with w | w
    · subst w
      rw [p0]
      exact f14.tv t5
    · exact (hqs4 y w).tv t5
  generalize upd H4 PT (.lst ([.ref y0]++lnv qs))=H5 at *
  walk_at "v"
  refine ⟨.inl ⟨rfl,_,SqL.of e5⟩,?_⟩
  walk_at "v"
  refine r_l (s5 _ _ hl) (v:=.ref xl.1) ?_ ?_
  · unfold atI
    rw [ix_last (m:=ls.length-1) (by rw [lnv_len];walk_at "o")]
    exact lnv_get gl
  walk_at "v"
  refine ⟨xl.1,xl.2.1,xl.2.2,t1,n,rfl,(hL xl (List.mem_of_getElem? gl)).up2 s5,z1,h1,hn,fun yl H6 s6 f6=>?_⟩
  have e6:=s6 _ _ e5
  walk_at "v"
  refine r_app e6 (by rw [lnv_len];exact small1000 (by show qs.length+1≤1000;walk_at "o")) ?_
  have pn:ptOf ks t0 t1 ls.length=((t1:Rat),xl.2.1*(t1:Rat)+xl.2.2):=by
    unfold ptOf
    rw [if_neg (by omega),if_neg (by omega),hkl,(lat gl).1,(lat gl).2]
  have t7:∀{b:Addr} {xs:List V},H6 b=some (.tup xs)→upd H6 PT (.lst (lnv ((y0,ptOf ks t0 t1 0)::qs)++[.ref yl])) b=some (.tup xs):=fun e=>tup_app e6 e
  have e7:upd H6 PT (.lst (lnv ((y0,ptOf ks t0 t1 0)::qs)++[.ref yl])) PT=some (.lst (lnv ((y0,ptOf ks t0 t1 0)::qs++[(yl,ptOf ks t0 t1 ls.length)]))):=by rw [upd_same];simp [lnv]
  have s7:Same H (upd H6 PT (.lst (lnv ((y0,ptOf ks t0 t1 0)::qs)++[.ref yl]))):=same_at (s5.trans s6) nPT
  have hA7:AllL (upd H6 PT (.lst (lnv ((y0,ptOf ks t0 t1 0)::qs)++[.ref yl]))) ((y0,ptOf ks t0 t1 0)::qs++[(yl,ptOf ks t0 t1 ls.length)]) (6*n+3):=by
    refine AllL.snoc ((hA5.tv fun {b xs} e=>s6 _ _ e).tv t7) ?_
    show LnAt _ yl _ _ _
    rw [pn]
    exact f6.tv t7
  have hm7:((y0,ptOf ks t0 t1 0)::qs++[(yl,ptOf ks t0 t1 ls.length)]).map (·.2)=(List.range (ls.length+1)).map (ptOf ks t0 t1):=by
    rw [List.map_append,List.map_cons,hmap,List.range_succ,List.map_append]
    congr 1
    rw [show ls.length=(ls.length-1)+1 by walk_at "o",List.range_succ_eq_map,List.map_cons,List.map_map,Nat.add_sub_cancel]
    rfl
  generalize hpts:(y0,ptOf ks t0 t1 0)::qs++[(yl,ptOf ks t0 t1 ls.length)]=pts at *
  generalize upd H6 PT (.lst (lnv ((y0,ptOf ks t0 t1 0)::qs)++[.ref yl]))=H7 at *
  have hpl:pts.length=ls.length+1:=by
    have:=congrArg List.length hm7
    simpa using this
  have pat:∀{i:Nat} {x:Ln},pts[i]?=some x→x.2=ptOf ks t0 t1 i:=fun {i x} h=>by
    have hi:i<pts.length:=(List.getElem?_eq_some_iff.mp h).1
    have e1:(pts.map (·.2))[i]?=some x.2:=by rw [List.getElem?_map,h];rfl
    rw [hm7,List.getElem?_map,List.getElem?_range (by walk_at "o")] at e1
    exact (Option.some.inj e1).symm
  walk_at "v"
  refine r_zip ?_
  walk_at "v"
  refine ⟨_,rfl,1,rfl,PT,_,rfl,SqL.of e7,fun P8 nP8=>?_⟩
  rw [cutOne]
  have s8:Same H7 (upd H7 P8 (.lst ((lnv pts).drop 1))):=same_at (Same.refl _) nP8
  have e8:upd H7 P8 (.lst ((lnv pts).drop 1)) P8=some (.lst ((lnv pts).drop 1)):=upd_same
  generalize upd H7 P8 (.lst ((lnv pts).drop 1))=H8 at *
  walk_at "v"
  refine ⟨PT,P8,_,_,rfl,SqL.of (s8 _ _ e7),SqL.of e8,?_⟩
  refine compB_zip (N0':=ls.length) (by rw [lnv_len];walk_at "o") (by rw [List.length_drop,lnv_len];walk_at "o") (.inr (by rw [List.length_drop,lnv_len];walk_at "o")) (fun H9 s9=>⟨SqL.of ((s8.trans s9) _ _ e7),SqL.of (s9 _ _ e8)⟩) (by walk_at "o") (fun c ys G=>∃ps:List Pc,ys=(ps.map fun x=>V.ref x.1)∧AllP G ps (6*n+3)∧ps.map (·.2)=(List.range c).map (pcOf ks t0 t1)) ⟨[],rfl,fun x hx=>absurd hx (by simp),rfl⟩ ?_ ?_
  · rintro D' c v v' ys H9 H10 pp σ0 NN N0 hh0 hD' eD' s9 s10 epp hc hv hv' hy ⟨ps,rfl,hps,hmp⟩ kY kN
    obtain ⟨x,gx,rfl⟩:=lnv_at hv
    rw [List.getElem?_drop,Nat.add_comm] at hv'
    obtain ⟨x',gx',rfl⟩:=lnv_at hv'
    have s710:=s8.trans (s9.trans s10)
    obtain ⟨a1,b1,ex,fa1,fb1⟩:=(hA7 x (List.mem_of_getElem? gx)).up2 s710
    obtain ⟨a2,b2,ex',fa2,fb2⟩:=(hA7 x' (List.mem_of_getElem? gx')).up2 s710
    refine r_own2 hh0 epp ?_
    walk_at "v"
    refine iteT ?_
    walk_at "v"
    refine r_catT ex ex' ?_
    refine r_new (mk:=.tup) (by simp) fun z H11 s11 n11 e11=>?_
    refine kY _ H11 s11 ⟨ps++[(z,pcOf ks t0 t1 c)],by simp,fun y hy'=>?_,?_⟩
    · rcases List.mem_append.mp hy' with w | w
      · exact (hps y w).mv fun {b xs} e=>(rm_rm (s10.trans s11)) _ _ e
      · obtain rfl:y=(z,pcOf ks t0 t1 c):=by simpa using w
        have q1:=pat gx
        have q2:=pat gx'
        have pc:PcAt H11 (z,pcOf ks t0 t1 c) (6*n+3):=by
          unfold pcOf
          rw [← q1,← q2]
          exact ⟨a1,b1,a2,b2,e11,fa1.up s11,fb1.up s11,fa2.up s11,fb2.up s11⟩
        exact pc.mv fun {b xs} e=>rm_tup ((s10.trans s11) _ _ eD') e
    · rw [List.map_append,hmp,List.range_succ,List.map_append]
      rfl
  rintro D' ys H9 hD' eD' s9 hy ⟨ps,rfl,hps,hmp⟩
  walk_at "v"
  exact k D' ps H9 (s7.trans (s8.trans s9)) ((s7.trans s8).free hD') eD' (fun x hx=>(hps x hx).mv fun {b xs} e=>rm_same _ _ e) hmp
end

noncomputable def Feas (es:List En) (β:Rat) (k fl ro:Nat) (L:Rat×Rat):Prop:=(∀i,fl≤i→i<k→lev es L.1 i-β≤L.2)∧∀i,ro≤i→i<k→L.2≤lev es L.1 i+β
theorem CapAt.feas {es:List En} {β:Rat} {fl ro k:Nat} {m:Int} {q G f:Rat} {a b:Nat} (hk:k≤es.length) (h:CapAt (es.take k) β fl ro m q G f a b):Feas es β k fl ro (G,f):=by
  have tl:(es.take k).length=k:=by rw [List.length_take];omega
  refine ⟨fun i h1 h2=>?_,fun i h1 h2=>?_⟩
  · have:=h.lo i h1 (by rw [tl];exact h2)
    rw [lev_take h2] at this
    exact this
  · have:=h.hi i h1 (by rw [tl];exact h2)
    rw [lev_take h2] at this
    exact this
theorem CupAt.feas {es:List En} {β:Rat} {fl ro k:Nat} {m:Int} {q S f:Rat} {a b:Nat} (hk:k≤es.length) (h:CupAt (es.take k) β fl ro m q S f a b):Feas es β k fl ro (S,f):=by
  have tl:(es.take k).length=k:=by rw [List.length_take];omega
  refine ⟨fun i h1 h2=>?_,fun i h1 h2=>?_⟩
  · have:=h.lo i h1 (by rw [tl];exact h2)
    rw [lev_take h2] at this
    exact this
  · have:=h.hi i h1 (by rw [tl];exact h2)
    rw [lev_take h2] at this
    exact this
theorem NowAt.feas {es:List En} {β T f:Rat} {fl ro:Nat} {g s:Option Rat} (h:BdP es fl ro β g s) (hβ:0≤β) (hN:NowAt es β fl g s T f):Feas es β es.length fl ro (T,f):=by
  rcases hN with ⟨hc,lo,ex⟩ | ⟨eg,es',eT,ef⟩
  · refine ⟨lo,?_⟩
    rcases hc with eg | ⟨eg,es'⟩
    · obtain ⟨g1,g2⟩:=h.hiG eg
      exact (cap_touch hβ h.ris g1 g2 lo ex).1
    · obtain ⟨g1,g2⟩:=h.loS es'
      exact (cup_touch hβ h.ris g1 g2 lo ex).1
  · have h2:=h.two.mpr ⟨eg,es'⟩
    refine ⟨fun i h1 hi=>?_,fun i h1 hi=>?_⟩
    · obtain rfl:i=fl:=by have:=h.lt (by omega);omega
      show lev es T i-β≤f
      unfold lev
      rw [eT,ef]
      grind
    · have:=h.lt (by omega)
      obtain rfl:i=fl:=by omega
      show f≤lev es T i+β
      unfold lev
      rw [eT,ef]
      grind
noncomputable def Rel (es:List En) (z:Bool×Nat×Nat×Nat) (L0 L1:Rat×Rat):Prop:=z.2.2.1<z.2.2.2∧z.2.2.2<es.length ∧
  if z.1=true then L0.1*(mo es z.2.2.1:Rat)+L0.2≤L1.1*(mo es z.2.2.1:Rat)+L1.2∧L1.1*(mo es z.2.2.2:Rat)+L1.2<L0.1*(mo es z.2.2.2:Rat)+L0.2
  else L1.1*(mo es z.2.2.1:Rat)+L1.2≤L0.1*(mo es z.2.2.1:Rat)+L0.2∧L0.1*(mo es z.2.2.2:Rat)+L0.2<L1.1*(mo es z.2.2.2:Rat)+L1.2
inductive Ch (es:List En):List (Rat×Rat)→List (Bool×Nat×Nat×Nat)→Rat×Rat→Prop where
  | one {L:Rat×Rat}:Ch es [] [] L
  | more {ks:List (Rat×Rat)} {ts:List (Bool×Nat×Nat×Nat)} {L0 L1:Rat×Rat} {z:Bool×Nat×Nat×Nat} (h:Ch es ks ts L0) (hR:Rel es z L0 L1):Ch es (ks++[L0]) (ts++[z]) L1
theorem cap_rel {es:List En} {β:Rat} {fl ro k:Nat} {G f:Rat} {a b:Nat} {L:Rat×Rat} (hk:k<es.length) (h:CapAt (es.take k) β fl ro (mo es k) (wo es k) G f a b) (hF:Feas es β (k+1) b k L):Rel es (true,a,b,k) (G,f) L:=by
  have tl:(es.take k).length=k:=by rw [List.length_take];omega
  have hb:=h.lb
  rw [tl] at hb
  have eb:=h.eb
  rw [lev_take hb] at eb
  obtain ⟨i,i1,i2,ei⟩:=h.off
  have li:=h.lo i i1 i2
  have f1:=hF.1 b (Nat.le_refl _) (by omega)
  have f2:=hF.2 k (Nat.le_refl _) (by omega)
  unfold lev at eb f1 f2
  refine ⟨hb,hk,?_⟩
  rw [if_pos rfl]
  refine ⟨by show G*(mo es b:Rat)+f≤L.1*(mo es b:Rat)+L.2;grind,?_⟩
  show L.1*(mo es k:Rat)+L.2<G*(mo es k:Rat)+f
  grind
theorem cup_rel {es:List En} {β:Rat} {fl ro k:Nat} {S f:Rat} {a b:Nat} {L:Rat×Rat} (hk:k<es.length) (h:CupAt (es.take k) β fl ro (mo es k) (wo es k) S f a b) (hF:Feas es β (k+1) k b L):Rel es (false,a,b,k) (S,f) L:=by
  have tl:(es.take k).length=k:=by rw [List.length_take];omega
  have hb:=h.lb
  rw [tl] at hb
  have eb:=h.eb
  rw [lev_take hb] at eb
  obtain ⟨i,i1,i2,ei⟩:=h.off
  have li:=h.hi i i1 i2
  have f1:=hF.2 b (Nat.le_refl _) (by omega)
  have f2:=hF.1 k (Nat.le_refl _) (by omega)
  unfold lev at eb f1 f2
  refine ⟨hb,hk,?_⟩
  rw [if_neg Bool.false_ne_true]
  refine ⟨by show L.1*(mo es b:Rat)+L.2≤S*(mo es b:Rat)+f;grind,?_⟩
  show S*(mo es k:Rat)+f<L.1*(mo es k:Rat)+L.2
  grind
theorem Tr.ch {es:List En} {β:Rat} {k fl ro:Nat} {ks:List (Rat×Rat)} {ts:List (Bool×Nat×Nat×Nat)} (h:Tr es β k fl ro ks ts):∀L,Feas es β k fl ro L→Ch es ks ts L:=by
  induction h with
  | nil=>exact fun L _=>.one
  | stay h hk hP hP' hN ih=>exact fun L hF=>ih L ⟨fun i a b=>hF.1 i a (by omega),fun i a b=>hF.2 i a (by omega)⟩
  | cap h hk hP hC ih=>exact fun L hF=>.more (ih _ (hC.feas (Nat.le_of_lt hk))) (cap_rel hk hC hF)
  | cup h hk hP hn hC ih=>exact fun L hF=>.more (ih _ (hC.feas (Nat.le_of_lt hk))) (cup_rel hk hC hF)
theorem Rel.ne {es:List En} (hr:rising es) {z:Bool×Nat×Nat×Nat} {L0 L1:Rat×Rat} (h:Rel es z L0 L1):L0.1≠L1.1:=by
  obtain ⟨h1,h2,h3⟩:=h
  intro e
  split at h3
  · rw [e] at h3
    grind
  · rw [e] at h3
    grind
theorem lsl_left {ks:List (Rat×Rat)} {L:Rat×Rat} {i:Nat} (h:i<ks.length):lsl (ks++[L]) i=lsl ks i∧lhl (ks++[L]) i=lhl ks i:=by
  unfold lsl lhl
  rw [List.getElem?_append_left h]
  exact ⟨rfl,rfl⟩
theorem lsl_last {ks:List (Rat×Rat)} {L:Rat×Rat}:lsl (ks++[L]) ks.length=L.1∧lhl (ks++[L]) ks.length=L.2:=by
  unfold lsl lhl
  simp
theorem Ch.sep {es:List En} (hr:rising es) {ks:List (Rat×Rat)} {ts:List (Bool×Nat×Nat×Nat)} {L:Rat×Rat} (h:Ch es ks ts L):∀i,i<ks.length→lsl (ks++[L]) i≠lsl (ks++[L]) (i+1):=by
  induction h with
  | one=>exact fun i hi=>absurd hi (Nat.not_lt_zero _)
  | @more ks ts L0 L1 z h hR ih=>
    intro i hi
    rw [List.length_append] at hi
    have hi':i<ks.length+1:=hi
    by_cases e:i=ks.length
    · subst e
      have e1:lsl (ks++[L0]++[L1]) (ks.length+1)=L1.1:=by
        have:=(lsl_last (ks:=ks++[L0]) (L:=L1)).1
        rw [List.length_append] at this
        exact this
      rw [e1,(lsl_left (by rw [List.length_append];show ks.length<ks.length+1;omega)).1,(lsl_last).1]
      exact hR.ne hr
    · have q1:=(lsl_left (ks:=ks++[L0]) (L:=L1) (i:=i) (by rw [List.length_append];exact hi')).1
      have q2:=(lsl_left (ks:=ks++[L0]) (L:=L1) (i:=i+1) (by rw [List.length_append];show i+1<ks.length+1;omega)).1
      rw [q1,q2]
      exact ih i (by omega)
noncomputable def JRun (H:Hp) (β:Rat) (N:Nat) (r:List En) (z:List Pc×List Th):Prop:=AllP H z.1 N∧(∀x∈z.2,ThrAt H r x)∧∃(ks:List (Rat×Rat)) (L:Rat×Rat) (fl ro:Nat) (g s:Option Rat),Tr r β r.length fl ro ks (z.2.map (·.2))∧BdP r fl ro β g s∧NowAt r β fl g s L.1 L.2∧z.1.map (·.2)=(List.range (ks.length+1)).map (pcOf (ks++[L]) (mo r 0) (mo r (r.length-1)))
theorem JRun.tv {H H':Hp} {β:Rat} {N:Nat} {r:List En} {z:List Pc×List Th} (t:∀{b:Addr} {xs:List V},H b=some (.tup xs)→H' b=some (.tup xs)) (h:JRun H β N r z):JRun H' β N r z:=⟨fun x hx=>(h.1 x hx).mv t,fun x hx=>t (h.2.1 x hx),h.2.2⟩
noncomputable def jtel (zs:List (List Pc×List Th)):List V:=(zs.map fun z=>z.1.map fun x=>V.ref x.1).flatten
noncomputable def jpap (zs:List (List Pc×List Th)):List V:=(zs.map fun z=>z.2.map fun x=>V.ref x.1).flatten
noncomputable def spJoined (C:Addr):Sp:=fun vs H Q _=>∃(l pb:Addr) (es:List En) (β:Rat) (n nb:Nat),vs=[.ref l,.ref pb]∧H l=some (.lst (vals es))∧Row H es n∧rising es∧es.length≤40∧FrAt H pb β nb∧0≤β∧1≤n∧n≤1500∧(5*n+4*nb≤7900∧nb≤1000)∧5*n+3*nb+7≤1300 ∧
  ∀(y X Z:Addr) (zs:List (List Pc×List Th)) (H':Hp),Same H H'→H' y=some (.tup [.ref X,.ref Z])→H X=none→H Z=none→X≠Z→H' X=some (.lst (jtel zs))→H' Z=some (.lst (jpap zs))→Each2 (JRun H' β (6*(5*n+3*nb+7)+3)) (parts smp es es.length) zs→Q (.ref y) H'
section
variable {P:Program} {w:World} {K:PySem.W.Frag} {mg:Str→Option Value} {base:Heap} {f c_Bend:Addr} {fd:FuncData}
theorem parts_flatB {α:Type} {s:α→Bool} {es:List α}:∀i:Nat,(parts s es i).flatten=(es.take i).filter s
  | 0=>by simp [parts]
  | i+1=>by
    have ih:=parts_flatB (s:=s) (es:=es) i
    unfold parts
    cases e:es[i]? with
    | none=>
      dsimp only
      rw [ih,List.take_add_one,e]
      simp
    | some x=>
      have tk:es.take (i+1)=es.take i++[x]:=by rw [List.take_add_one,e];rfl
      rw [tk,List.filter_append]
      dsimp only
      split
      · rename_i hs
        split
        · rename_i hr
          obtain ⟨t,r,hp⟩:=parts_ne hr
          rw [← ih,hp]
          simp [hs]
        · rw [List.flatten_append,ih]
          simp [hs]
      · rename_i hs
        rw [ih]
        simp [hs]
theorem flat_takeB {α:Type} {l:List (List α)} (i:Nat):(l.take i).flatten.length≤l.flatten.length:=by
  conv=>rhs;rw [← List.take_append_drop i l]
  rw [List.flatten_append,List.length_append]
  omega
theorem sc_joined:FnScope ["row","bound","telling","paper","run","found"] ["row","bound"] (defScope s_joined):=⟨rfl,rfl,rfl,by decide +kernel,rfl,by decide +kernel,by decide +kernel⟩
theorem ok_joined (F:Fun K "joined" "joined" s_joined f fd) (T:Txt mg) (D_runs:Dn P w K mg base 1 "runs" ["row"] spRuns) (D_links_of:Dn P w K mg base 8 "links_of" ["run","bound"] (spLinks c_Bend)) (D_pieces_along:Dn P w K mg base 7 "pieces_along" ["links","first","last"] spAlong):FnOk P w K mg base CX0 9 f fd ["row","bound"] (spJoined c_Bend):=by
  refine F.ok sc_joined (fun vs H Q E h=>?_) (fun cdv A outer s H vs Q E hr h=>?_)
  · obtain ⟨l,pb,es,β,n,nb,rfl,_⟩:=h
    rfl
  obtain ⟨l,pb,es,β,n,nb,rfl,hl,hR,hri,h40,hb,hβ,h1,hn,hnb,hM,k⟩:=h
  refine J.l ⟨_,(J.e (J.i (i:=2) sc_joined.nd rfl (Or.inl rfl) (J.t J.d) (hs:=sw_L))
      (J.e (J.i (i:=3) sc_joined.nd rfl (Or.inl rfl) (J.t J.d) (hs:=sw_L))
      (J.e (J.ab PassesOwn.never rfl (J.x K (J.j D_runs (hr.mono (by decide)) rfl (J.b (J.a 0) J.d st_N) (he:=st_N) (hpl:=any0))) (J.q (i:=4) sc_joined.nd rfl (Or.inl rfl))
      (J.e (J.i (i:=5) sc_joined.nd rfl (Or.inl rfl) (J.j D_links_of (hr.mono (by decide)) rfl (J.b (J.a 4) (J.b (J.a 1) J.d st_N) st_N) (he:=st_N) (hpl:=(anyc st_N any0))) (hs:=sw_K))
      (J.e (J.u (Jd.extC K (J.a 2) (J.j D_pieces_along (hr.mono (by decide)) rfl (J.b (J.f (ixT K) (J.a 5) J.c (fun _ _=>rfl)) (J.b (J.f (ixT K) (J.f (ixL K) (J.a 4) J.c (fun _ _=>rfl)) J.c (fun _ _=>rfl)) (J.b (J.f (ixT K) (J.f (ixL K) (J.a 4) (J.z un_neg J.c) (fun _ _=>rfl)) J.c (fun _ _=>rfl)) J.d st_S) st_S) st_S) (he:=st_S) (hpl:=(anyc st_S (anyc st_S any0))))) (hs:=sw_K))
      (J.g (J.u (Jd.extC K (J.a 3) (J.f (ixT K) (J.a 5) J.c (fun _ _=>rfl))) (hs:=sw_K))))))
      (J.g (J.k (J.m (J.b (J.a 2) (J.b (J.a 3) J.d st_N) st_N))))))),?_⟩
  walk_at "v"
  refine r_new (mk:=.lst) (by simp) fun X H1 s1 n1 e1=>?_
  walk_at "v"
  refine r_new (mk:=.lst) (by simp) fun Z H2 s2 n2 e2=>?_
  have s02:=s1.trans s2
  have nXZ:X≠Z:=fun z=>by rw [← z,e1] at n2;cases n2
  have nZ0:H Z=none:=s1.free n2
  walk_at "v"
  refine r_for (r_iL ?_)
  walk_at "v"
  refine ⟨l,es,n,rfl,s02 _ _ hl,hR.up s02,h40,fun TT ls H3 s3 hLL hls hl40 _=>?_⟩
  have hll:ls.length=(parts smp es es.length).length:=by rw [← hls,List.length_map]
  have own:∀{G:Hp} {R:Addr} {v:List V},LL H2 G TT ls→H2 R=some (.lst v)→R≠TT∧∀x∈ls,x.1≠R:=fun hG e=>⟨(fun z=>by rw [z,hG.new] at e;cases e),(fun x hx z=>by rw [← z,(hG.each x hx).1] at e;cases e)⟩
  obtain ⟨a1,a2⟩:=own hLL (s2 _ _ e1)
  obtain ⟨b1,b2⟩:=own hLL e2
  have hF:∀i,((parts smp es es.length).take i).flatten.length≤40:=fun i=>by
    have q1:=flat_takeB (l:=parts smp es es.length) i
    rw [parts_flatB,List.take_length] at q1
    have q2:(es.filter smp).length≤es.length:=List.length_filter_le ..
    walk_at "o"
  refine ⟨TT,rfl,⟨_,SqL.of hLL.at_⟩,for_list (xs:=lrefs ls) (fun i σ H4=>∃(zs:List (List Pc×List Th)) (v5 v6:Option V),σ=[some (.ref l),some (.ref pb),some (.ref X),some (.ref Z),v5,v6]∧Same H H4∧LL H2 H4 TT ls∧H4 X=some (.lst (jtel zs))∧H4 Z=some (.lst (jpap zs))∧(jtel zs).length≤2*((parts smp es es.length).take i).flatten.length∧(jpap zs).length≤((parts smp es es.length).take i).flatten.length∧Each2 (JRun H4 β (6*(5*n+3*nb+7)+3)) ((parts smp es es.length).take i) zs) ?_ ?_ ?_ ?_⟩
  · exact ⟨[],none,none,rfl,s02.trans s3,hLL,(s2.trans s3) _ _ e1,s3 _ _ e2,Nat.zero_le _,Nat.le_refl _,trivial⟩
  · rintro i σ H4 _ ⟨zs,v5,v6,rfl,s4,hL4,_⟩
    exact SqL.of hL4.at_
  · rintro i x σ H4 hx ⟨zs,v5,v6,rfl,s4,hL4,eX,eZ,hz1,hz2,hJ⟩
    refine body_cut fun M B RR hM' _ _=>?_
    obtain ⟨x,gx,rfl⟩:=lrefs_at hx
    have hi:i<ls.length:=(List.getElem?_eq_some_iff.mp gx).1
    have hmx:=List.mem_of_getElem? gx
    have hp:(parts smp es es.length)[i]?=some x.2:=by rw [← hls,List.getElem?_map,gx];rfl
    obtain ⟨o1,o2,o3⟩:=parts_own es.length x.2 (List.mem_of_getElem? hp)
    rw [List.take_length] at o3
    obtain ⟨_,ex,_⟩:=hL4.each x hmx
    have hx1:1≤x.2.length:=List.length_pos_iff.mpr o1
    have hx40:x.2.length≤40:=Nat.le_trans o3.length_le h40
    have hRx:Row H4 x.2 n:=fun z hz=>hR.up s4 z (o3.subset hz)
    have hrx:rising x.2:=hri.sublist o3
    have tkF:((parts smp es es.length).take (i+1)).flatten.length=((parts smp es es.length).take i).flatten.length+x.2.length:=by
      rw [List.take_succ,hp,List.flatten_append,List.length_append]
      simp
    have hF1:=hF (i+1)
    walk_at "v"
    refine ⟨x.1,pb,x.2,β,n,nb,rfl,ex,hRx,o2,hrx,hx1,by walk_at "o",hb.up s4,hβ,h1,hn,hnb,fun y5 Ll Lt ln ths ks fl ro g s T5 f5 H5 s5 e5 nl5 nt5 eL5 hA5 hmap eT5 hT5 hTr hP hNow hk5 ht5=>?_⟩
    have hch:=hTr.ch (T5,f5) (hNow.feas hP hβ)
    have hsep:=hch.sep hrx
    have hlnl:ln.length=ks.length+1:=by
      have:=congrArg List.length hmap
      simpa using this
    have s05:=s4.trans s5
    have hL5:=hL4.up s5
    obtain ⟨_,ex5,_⟩:=hL5.each x hmx
    obtain ⟨xa,ga,fa⟩:=sa_at (hRx.up s5) o2 (show 0<x.2.length by walk_at "o")
    obtain ⟨xb,gb,fb⟩:=sa_at (hRx.up s5) o2 (show x.2.length-1<x.2.length by walk_at "o")
    obtain ⟨va,ea,_,zma⟩:=id fa
    obtain ⟨vb,eb,_,zmb⟩:=id fb
    walk_at "v"
    refine ⟨.inl ⟨rfl,_,SqL.of (s5 _ _ eX)⟩,?_⟩
    walk_at "v"
    refine r_l ex5 (at_zero ga) ?_
    walk_at "v"
    refine r_l ex5 (at_neg1 gb) ?_
    walk_at "v"
    refine ⟨Ll,ln,mo x.2 0,mo x.2 (x.2.length-1),5*n+3*nb+7,rfl,eL5,hA5,by walk_at "o",by walk_at "o",zma.mono (by walk_at "o"),zmb.mono (by walk_at "o"),by walk_at "o",hM,?_,fun R6 ps H6 s6 nR6 eR6 hP6 hm6=>?_⟩
    · intro j hj
      rw [hmap]
      exact hsep j (by walk_at "o")
    rw [hmap,hlnl] at hm6
    have s56:=s5.trans s6
    have eX6:=s56 _ _ eX
    have hpsl:ps.length=ks.length+1:=by
      have:=congrArg List.length hm6
      simpa using this
    have e56:=s6 _ _ e5
    walk_at "v"
    refine r_ext eX6 eR6 (by rw [List.length_map];exact Nat.le_of_lt (small1000 (by walk_at "o"))) ?_
    have tp7:∀{b:Addr} {xs:List V},H6 b=some (.tup xs)→upd H6 X (.lst (jtel zs++ps.map fun x=>V.ref x.1)) b=some (.tup xs):=fun e=>tup_app eX6 e
    have eX7:upd H6 X (.lst (jtel zs++ps.map fun x=>V.ref x.1)) X=some (.lst (jtel (zs++[(ps,ths)]))):=by rw [upd_same];simp [jtel]
    have nZX:Z≠X:=Ne.symm nXZ
    have eZ7:upd H6 X (.lst (jtel zs++ps.map fun x=>V.ref x.1)) Z=some (.lst (jpap zs)):=by rw [upd_ne nZX];exact s56 _ _ eZ
    have nLtX:Lt≠X:=fun z=>by rw [z,eX] at nt5;cases nt5
    have eT7:upd H6 X (.lst (jtel zs++ps.map fun x=>V.ref x.1)) Lt=some (.lst (ths.map fun x=>V.ref x.1)):=by rw [upd_ne nLtX];exact s6 _ _ eT5
    have hL7:LL H2 (upd H6 X (.lst (jtel zs++ps.map fun x=>V.ref x.1))) TT ls:=(hL4.up s56).other a1 a2
    have s07:Same H (upd H6 X (.lst (jtel zs++ps.map fun x=>V.ref x.1))):=same_at (s4.trans s56) n1
    have e57:=tp7 e56
    generalize upd H6 X (.lst (jtel zs++ps.map fun x=>V.ref x.1))=H7 at *
    walk_at "v"
    refine ⟨.inl ⟨rfl,_,SqL.of eZ7⟩,?_⟩
    walk_at "v"
    refine r_ext eZ7 eT7 (by rw [List.length_map];exact Nat.le_of_lt (small1000 (by walk_at "o"))) ?_
    have tp8:∀{b:Addr} {xs:List V},H7 b=some (.tup xs)→upd H7 Z (.lst (jpap zs++ths.map fun x=>V.ref x.1)) b=some (.tup xs):=fun e=>tup_app eZ7 e
    have l1:(jtel (zs++[(ps,ths)])).length=(jtel zs).length+ps.length:=by simp [jtel]
    have l2:(jpap (zs++[(ps,ths)])).length=(jpap zs).length+ths.length:=by simp [jpap]
    refine hM' _ _ ⟨zs++[(ps,ths)],_,_,rfl,same_at s07 nZ0,hL7.other b1 b2,by rw [upd_ne nXZ];exact eX7,by rw [upd_same];simp [jpap],by rw [l1,tkF];walk_at "o",by rw [l2,tkF];walk_at "o",?_⟩
    rw [List.take_succ,hp]
    refine each2_snoc (each2_imp (fun a b _ h=>h.tv fun {b xs} e=>tp8 (tp7 (s56 _ _ e))) hJ) ⟨fun z hz=>((hP6 z hz).mv tp7).mv tp8,fun z hz=>tp8 (tp7 (s6 _ _ (hT5 z hz))),ks,(T5,f5),fl,ro,g,s,hTr,hP,hNow,hm6⟩
  · rintro σ H4 ⟨zs,v5,v6,rfl,s4,hL4,eX,eZ,_,_,hJ⟩
    rw [lrefs_len,hll,List.take_length] at hJ
    walk_at "v"
    refine r_new (mk:=.tup) (by simp) fun y H5 s5 n5 e5=>?_
    exact k y X Z zs H5 (s4.trans s5) e5 n1 nZ0 nXZ (s5 _ _ eX) (s5 _ _ eZ) (each2_imp (fun a b _ h=>h.tv fun {b xs} e=>s5 _ _ e) hJ)
end

noncomputable def LGood (es:List En) (β:Rat) (k:Nat) (Ls:List (Rat×Rat)):Prop:=∀j,j<Ls.length→∀i,i<k→(j=0∨xAt Ls (j-1)≤(mo es i:Rat))→(j+1=Ls.length∨(mo es i:Rat)≤xAt Ls j)→rabs (wo es i-(lsl Ls j*(mo es i:Rat)+lhl Ls j))≤β
structure Ord (es:List En) (mx:Nat) (Ls:List (Rat×Rat)):Prop where
  up:∀j,j+2<Ls.length→xAt Ls j<xAt Ls (j+1)
  fst:1<Ls.length→(mo es 0:Rat)<xAt Ls 0
  lst:1<Ls.length→xAt Ls (Ls.length-2)<(mo es mx:Rat)
theorem xAt_left {ks:List (Rat×Rat)} {L:Rat×Rat} {j:Nat} (h:j+1<ks.length):xAt (ks++[L]) j=xAt ks j:=by
  unfold xAt
  rw [(lsl_left (ks:=ks) (L:=L) (i:=j) (by omega)).1,(lsl_left (ks:=ks) (L:=L) (i:=j) (by omega)).2,(lsl_left (ks:=ks) (L:=L) (i:=j+1) h).1,(lsl_left (ks:=ks) (L:=L) (i:=j+1) h).2]
theorem xAt_last {ks:List (Rat×Rat)} {L0 L1:Rat×Rat}:xAt (ks++[L0]++[L1]) ks.length=(L1.2-L0.2)/(L0.1-L1.1):=by
  have h1:=lsl_left (ks:=ks++[L0]) (L:=L1) (i:=ks.length) (by rw [List.length_append];show ks.length<ks.length+1;omega)
  have h2:=lsl_last (ks:=ks++[L0]) (L:=L1)
  have h3:=lsl_last (ks:=ks) (L:=L0)
  rw [List.length_append] at h2
  unfold xAt
  rw [h1.1,h1.2,h3.1,h3.2]
  have e1:lhl (ks++[L0]++[L1]) (ks.length+1)=L1.2:=h2.2
  have e2:lsl (ks++[L0]++[L1]) (ks.length+1)=L1.1:=h2.1
  rw [e1,e2]
theorem Rel.joint {es:List En} (hr:rising es) {z:Bool×Nat×Nat×Nat} {L0 L1:Rat×Rat} (h:Rel es z L0 L1):(mo es z.2.2.1:Rat)≤(L1.2-L0.2)/(L0.1-L1.1)∧(L1.2-L0.2)/(L0.1-L1.1)<(mo es z.2.2.2:Rat)∧(if z.1=true then L1.1<L0.1 else L0.1<L1.1)∧L0.1*((L1.2-L0.2)/(L0.1-L1.1))+L0.2=L1.1*((L1.2-L0.2)/(L0.1-L1.1))+L1.2:=by
  have hne:=h.ne hr
  obtain ⟨h1,h2,h3⟩:=h
  have d:=mo_pos hr h1 h2
  have hd:L0.1-L1.1≠0:=by grind
  have meet:L0.1*((L1.2-L0.2)/(L0.1-L1.1))+L0.2=L1.1*((L1.2-L0.2)/(L0.1-L1.1))+L1.2:=by
    generalize hD:L0.1-L1.1=D at *
    have:L0.1=D+L1.1:=by grind
    rw [this]
    grind
  generalize hx:(L1.2-L0.2)/(L0.1-L1.1)=x at *
  split at h3
  · rename_i hc
    have lt:L1.1<L0.1:=by
      refine Rat.not_le.mp fun z=>?_
      have:=Rat.mul_le_mul_of_nonneg_right z (Rat.le_of_lt d)
      grind
    refine ⟨?_,?_,by rw [if_pos hc];exact lt,meet⟩
    · refine Rat.not_lt.mp fun z=>?_
      have:=Rat.mul_lt_mul_of_pos_right z (show 0<L0.1-L1.1 by grind)
      grind
    · refine Rat.not_le.mp fun z=>?_
      have:=Rat.mul_le_mul_of_nonneg_right z (show 0≤L0.1-L1.1 by grind)
      grind
  · rename_i hc
    have lt:L0.1<L1.1:=by
      refine Rat.not_le.mp fun z=>?_
      have:=Rat.mul_le_mul_of_nonneg_right z (Rat.le_of_lt d)
      grind
    refine ⟨?_,?_,by rw [if_neg hc];exact lt,meet⟩
    · refine Rat.not_lt.mp fun z=>?_
      have:=Rat.mul_lt_mul_of_pos_right z (show 0<L1.1-L0.1 by grind)
      grind
    · refine Rat.not_le.mp fun z=>?_
      have:=Rat.mul_le_mul_of_nonneg_right z (show 0≤L1.1-L0.1 by grind)
      grind
theorem mo_le {es:List En} (hr:rising es) {i j:Nat} (h:i≤j) (hj:j<es.length):(mo es i:Rat)≤(mo es j:Rat):=by
  rcases Nat.lt_or_eq_of_le h with z | z
  · have:=mo_pos hr z hj;grind
  · rw [z];exact Rat.le_refl
theorem mo_back {es:List En} (hr:rising es) {i j:Nat} (hi:i<es.length) (h:(mo es i:Rat)≤(mo es j:Rat)):i≤j:=by
  refine Nat.le_of_not_lt fun z=>?_
  have:=mo_pos hr z hi
  grind
theorem good_more {es:List En} {β:Rat} (hr:rising es) {k mx fl' ro':Nat} {ks:List (Rat×Rat)} {L0 L1:Rat×Rat} {z:Bool×Nat×Nat×Nat} (hk:k<es.length) (hg:LGood es β k (ks++[L0])) (ho:Ord es mx (ks++[L0])) (hR:Rel es z L0 L1) (ez:z.2.2.2=k) (hb:mx≤z.2.2.1) (hb0:0<z.2.2.1) (hF:Feas es β (k+1) fl' ro' L1) (hs:if z.1=true then fl'=z.2.2.1∧ro'=k else fl'=k∧ro'=z.2.2.1):LGood es β (k+1) (ks++[L0]++[L1])∧Ord es k (ks++[L0]++[L1]):=by
  have hz1:=hR.1
  have hlt:(ks++[L0]).length=ks.length+1:=by simp
  obtain ⟨j1,j2,j3,j4⟩:=hR.joint hr
  rw [← xAt_last (ks:=ks)] at j1 j2 j4
  have xl:∀j,j<ks.length→xAt (ks++[L0]++[L1]) j=xAt (ks++[L0]) j:=fun j hj=>xAt_left (by rw [hlt];omega)
  rw [ez] at j2
  have len2:(ks++[L0]++[L1]).length=ks.length+2:=by simp
  refine ⟨fun j hj i hi h1 h2=>?_,⟨fun j hj=>?_,fun _=>?_,fun _=>?_⟩⟩
  · rw [len2] at hj h2
    by_cases e:j=ks.length+1
    · subst e
      have h1':xAt (ks++[L0]++[L1]) ks.length≤(mo es i:Rat):=by
        rcases h1 with q | q
        · omega
        · exact q
      have es1:lsl (ks++[L0]++[L1]) (ks.length+1)=L1.1∧lhl (ks++[L0]++[L1]) (ks.length+1)=L1.2:=by
        have:=lsl_last (ks:=ks++[L0]) (L:=L1)
        rw [hlt] at this
        exact this
      rw [es1.1,es1.2]
      have hib:z.2.2.1≤i:=mo_back hr (by omega) (Rat.le_trans j1 h1')
      by_cases ei:i=k
      · subst ei
        have f1:=hF.1 i (by split at hs <;> omega) (by omega)
        have f2:=hF.2 i (by split at hs <;> omega) (by omega)
        unfold lev at f1 f2
        rw [rabs_le]
        exact ⟨by grind,by grind⟩
      · have old:=hg ks.length (by rw [hlt];omega) i (by omega) (by
          by_cases k0:ks.length=0
          · exact .inl k0
          · refine .inr ?_
            have:=xl (ks.length-1) (by omega)
            rw [← this]
            by_cases k1:ks.length=1
            · have l:=ho.lst (by rw [hlt];omega)
              rw [hlt,show ks.length+1-2=ks.length-1 by omega,← this] at l
              have m1:=mo_le hr hb (show z.2.2.1<es.length by omega)
              grind
            · have l:=ho.lst (by rw [hlt];omega)
              rw [hlt,show ks.length+1-2=ks.length-1 by omega,← this] at l
              have m1:=mo_le hr hb (show z.2.2.1<es.length by omega)
              grind) (.inl (by rw [hlt]))
        have eo:=lsl_last (ks:=ks) (L:=L0)
        rw [eo.1,eo.2,rabs_le] at old
        obtain ⟨o1,o2⟩:=old
        rw [rabs_le]
        split at hs
        · rename_i hc
          rw [if_pos hc] at j3
          have f1:=hF.1 i (by omega) (by omega)
          unfold lev at f1
          have:=Rat.mul_le_mul_of_nonneg_right (Rat.le_of_lt j3) (show 0≤(mo es i:Rat)-xAt (ks++[L0]++[L1]) ks.length by grind)
          exact ⟨by grind,by grind⟩
        · rename_i hc
          rw [if_neg hc] at j3
          have f1:=hF.2 i (by omega) (by omega)
          unfold lev at f1
          have:=Rat.mul_le_mul_of_nonneg_right (Rat.le_of_lt j3) (show 0≤(mo es i:Rat)-xAt (ks++[L0]++[L1]) ks.length by grind)
          exact ⟨by grind,by grind⟩
    · have hj':j<ks.length+1:=by omega
      have h2':(mo es i:Rat)≤xAt (ks++[L0]++[L1]) j:=by
        rcases h2 with q | q
        · omega
        · exact q
      have el:=lsl_left (ks:=ks++[L0]) (L:=L1) (i:=j) (by rw [hlt];exact hj')
      rw [el.1,el.2]
      have hik:i<k:=by
        refine Nat.lt_of_le_of_ne (by omega) fun ei=>?_
        subst ei
        by_cases ej:j=ks.length
        · subst ej
          grind
        · rw [xl j (by omega)] at h2'
          have chain:∀d j,j+d+1=ks.length→xAt (ks++[L0]) j≤xAt (ks++[L0]) (ks.length-1):=fun d=>by
            induction d with
            | zero=>intro j hj;rw [show ks.length-1=j by omega];exact Rat.le_refl
            | succ d ih=>
              intro j hj
              have q1:=ho.up j (by rw [hlt];omega)
              have q2:=ih (j+1) (by omega)
              grind
          have q1:=chain (ks.length-1-j) j (by omega)
          have l:=ho.lst (by rw [hlt];omega)
          rw [hlt,show ks.length+1-2=ks.length-1 by omega] at l
          have m1:=mo_le hr hb (show z.2.2.1<es.length by omega)
          have m2:=mo_pos hr hz1 (by rw [ez];exact hk)
          rw [ez] at m2
          grind
      refine hg j (by rw [hlt];exact hj') i hik ?_ ?_
      · rcases h1 with q | q
        · exact .inl q
        · by_cases j0:j=0
          · exact .inl j0
          · rw [xl (j-1) (by omega)] at q
            exact .inr q
      · by_cases ej:j=ks.length
        · exact .inl (by rw [hlt,ej])
        · rw [xl j (by omega)] at h2'
          exact .inr h2'
  · rw [len2] at hj
    by_cases e:j+1=ks.length
    · have l:=ho.lst (by rw [hlt];omega)
      rw [hlt,show ks.length+1-2=j by omega] at l
      rw [xl j (by omega),e]
      have m1:=mo_le hr hb (show z.2.2.1<es.length by omega)
      grind
    · rw [xl j (by omega),xl (j+1) (by omega)]
      exact ho.up j (by rw [hlt];omega)
  · by_cases k0:ks.length=0
    · have:=mo_pos hr hb0 (show z.2.2.1<es.length by omega)
      rw [k0] at j1
      grind
    · rw [xl 0 (by omega)]
      exact ho.fst (by rw [hlt];omega)
  · rw [len2,show ks.length+2-2=ks.length by omega]
    exact j2
theorem Tr.good {es:List En} {β:Rat} (hr:rising es) {k fl ro:Nat} {ks:List (Rat×Rat)} {ts:List (Bool×Nat×Nat×Nat)} (h:Tr es β k fl ro ks ts):∀L,Feas es β k fl ro L→LGood es β k (ks++[L])∧Ord es (max fl ro) (ks++[L]):=by
  induction h with
  | nil=>exact fun L _=>⟨fun j _ i hi=>absurd hi (Nat.not_lt_zero _),⟨fun j hj=>absurd hj (by simp),fun z=>absurd z (by simp),fun z=>absurd z (by simp)⟩⟩
  | @stay k fl ro ls ts g s g' s' h hk hP hP' hN ih=>
    intro L hF
    obtain ⟨hg,ho⟩:=ih L ⟨fun i a b=>hF.1 i a (by omega),fun i a b=>hF.2 i a (by omega)⟩
    refine ⟨fun j hj i hi h1 h2=>?_,ho⟩
    by_cases ei:i=k
    · subst ei
      have tl:(es.take i).length=i:=by rw [List.length_take];omega
      have hfl:=hP.hfl
      have hro:=hP.hro
      rw [tl] at hfl hro
      have hlt:(ls++[L]).length=ls.length+1:=by simp
      rw [hlt] at hj h2
      by_cases ej:j=ls.length
      · subst ej
        have el:=lsl_last (ks:=ls) (L:=L)
        rw [el.1,el.2,rabs_le]
        have f1:=hF.1 i hfl (by omega)
        have f2:=hF.2 i hro (by omega)
        unfold lev at f1 f2
        exact ⟨by grind,by grind⟩
      · exfalso
        have h2':(mo es i:Rat)≤xAt (ls++[L]) j:=by
          rcases h2 with q | q
          · omega
          · exact q
        have chain:∀d j,j+d+1=ls.length→xAt (ls++[L]) j≤xAt (ls++[L]) (ls.length-1):=fun d=>by
          induction d with
          | zero=>intro j hj;rw [show ls.length-1=j by omega];exact Rat.le_refl
          | succ d ih=>
            intro j hj
            have q1:=ho.up j (by rw [hlt];omega)
            have q2:=ih (j+1) (by omega)
            grind
        have q1:=chain (ls.length-1-j) j (by omega)
        have l:=ho.lst (by rw [hlt];omega)
        rw [hlt,show ls.length+1-2=ls.length-1 by omega] at l
        have m1:=mo_le hr (show max fl ro≤i by omega) hk
        grind
    · exact hg j hj i (by omega) h1 h2
  | @cap k fl ro a b ls ts s G f h hk hP hC ih=>
    intro L hF
    obtain ⟨hg,ho⟩:=ih _ (hC.feas (Nat.le_of_lt hk))
    have hb:=hC.lb
    have hab:=hC.hab
    have ha:=hC.ha
    have hfb:=hC.hb
    rw [List.length_take] at hb
    have:=good_more hr hk hg ho (cap_rel hk hC hF) rfl (show max fl ro≤b by omega) (show 0<b by omega) hF (by rw [if_pos rfl];exact ⟨rfl,rfl⟩)
    rw [show max b k=k by omega]
    exact this
  | @cup k fl ro a b ls ts g S f h hk hP hn hC ih=>
    intro L hF
    obtain ⟨hg,ho⟩:=ih _ (hC.feas (Nat.le_of_lt hk))
    have hb:=hC.lb
    have hab:=hC.hab
    have ha:=hC.ha
    have hfb:=hC.hb
    rw [List.length_take] at hb
    have:=good_more hr hk hg ho (cup_rel hk hC hF) rfl (show max fl ro≤b by omega) (show 0<b by omega) hF (by rw [if_neg Bool.false_ne_true];exact ⟨rfl,rfl⟩)
    rw [show max k b=k by omega]
    exact this

noncomputable def Seg (es:List Nn) (i:Nat) (ls:List (List Nn)) (c:List Nn):Prop:=(ls++[c]).filter (fun r=>!r.isEmpty)=parts nsm es i∧(inRun nsm es i=true↔c≠[])
theorem seg_gap {es:List Nn} {i:Nat} {ls:List (List Nn)} {c:List Nn} {e:Nn} (h:Seg es i ls c) (he:es[i]?=some e) (hs:nsm e=false):Seg es (i+1) (ls++[c]) []:=by
  obtain ⟨h1,h2⟩:=h
  refine ⟨?_,?_⟩
  · rw [parts_gap he hs,← h1,List.filter_append (l₁:=ls++[c])]
    simp
  · rw [inRun_succ he,hs]
    simp
theorem seg_on {es:List Nn} {i:Nat} {ls:List (List Nn)} {c:List Nn} {e:Nn} (h:Seg es i ls c) (he:es[i]?=some e) (hs:nsm e=true):Seg es (i+1) ls (c++[e]):=by
  obtain ⟨h1,h2⟩:=h
  refine ⟨?_,?_⟩
  · rw [List.filter_append] at h1 ⊢
    cases hi:inRun nsm es i with
    | true=>
      have hc:=h2.mp hi
      have:(!c.isEmpty)=true:=by cases c with | nil=>exact absurd rfl hc | cons a b=>rfl
      rw [List.filter_cons,this,if_pos rfl,List.filter_nil] at h1
      rw [parts_on he hs hi h1.symm]
      simp
    | false=>
      have hc:c=[]:=Classical.byContradiction fun z=>by rw [h2.mpr z] at hi;cases hi
      subst hc
      rw [parts_new he hs hi,← h1]
      simp
  · rw [inRun_succ he,hs]
    simp
structure VL (H H2:Hp) (T:Addr) (ls:List (Addr×List V)):Prop where
  new:H T=none
  at_:H2 T=some (.lst (ls.map fun x=>V.ref x.1))
  each:∀x∈ls,H x.1=none∧H2 x.1=some (.lst x.2)∧x.1≠T
  nd:(ls.map (·.1)).Nodup
section
variable {H H2 H3:Hp} {T R:Addr} {ls:List (Addr×List V)} {rn:List V}
theorem VL.up (h:VL H H2 T ls) (s:Same H2 H3):VL H H3 T ls:=⟨h.new,s _ _ h.at_,fun x hx=>let ⟨a,b,c⟩:=h.each x hx;⟨a,s _ _ b,c⟩,h.nd⟩
theorem VL.push (h:VL H H2 T ls) (hR:H R=none) (eR:H2 R=some (.lst rn)) (hT:R≠T) (hl:∀x∈ls,x.1≠R):VL H (upd H2 T (.lst (ls.map (fun x=>V.ref x.1)++[.ref R]))) T (ls++[(R,rn)]):=by
  refine ⟨h.new,by rw [upd_same];simp,fun x hx=>?_,?_⟩
  · rcases List.mem_append.mp hx with z | z
    · obtain ⟨a,b,c⟩:=h.each x z
      exact ⟨a,by rw [upd_ne c];exact b,c⟩
    · obtain rfl:x=(R,rn):=by simpa using z
      exact ⟨hR,by rw [upd_ne hT];exact eR,hT⟩
  · rw [List.map_append]
    refine List.nodup_append.mpr ⟨h.nd,by simp,fun a ha b hb=>?_⟩
    obtain ⟨x,hx,rfl⟩:=List.mem_map.mp ha
    obtain rfl:b=R:=by simpa using hb
    exact hl x hx
theorem VL.last {L:Addr} {c:List V} {x:V} (h:VL H H2 T (ls++[(L,c)])):VL H (upd H2 L (.lst (c++[x]))) T (ls++[(L,c++[x])]):=by
  obtain ⟨hL,eL,nL⟩:=h.each (L,c) (by simp)
  have hnd:=h.nd
  rw [List.map_append] at hnd
  have hne:∀y∈ls,y.1≠L:=fun y hy z=>(List.nodup_append.mp hnd).2.2 y.1 (List.mem_map.mpr ⟨y,hy,rfl⟩) L (by simp) z
  refine ⟨h.new,?_,fun y hy=>?_,by rw [List.map_append];exact hnd⟩
  · rw [upd_ne (Ne.symm nL)]
    have:=h.at_
    simpa using this
  · rcases List.mem_append.mp hy with z | z
    · obtain ⟨a,b,c'⟩:=h.each y (List.mem_append_left _ z)
      exact ⟨a,by rw [upd_ne (hne y z)];exact b,c'⟩
    · obtain rfl:y=(L,c++[x]):=by simpa using z
      exact ⟨hL,upd_same,nL⟩
end
noncomputable abbrev Nls:=List (Addr×List Nn)
noncomputable def nvl (ls:Nls):List (Addr×List V):=ls.map fun x=>(x.1,nvals x.2)
noncomputable def spNRuns:Sp:=fun vs H Q _=>∃(l:Addr) (es:List Nn) (m n:Nat),vs=[.ref l]∧H l=some (.lst (nvals es))∧NRow H es m n∧es.length≤40 ∧
  ∀(D:Addr) (ls:Nls) (H':Hp),Same H H'→H D=none→H' D=some (.lst (ls.map fun x=>V.ref x.1))→(∀x∈ls,H x.1=none∧H' x.1=some (.lst (nvals x.2)))→ls.map (·.2)=parts nsm es es.length→Q (.ref D) H'
section
variable {P:Program} {w:World} {K:PySem.W.Frag} {mg:Str→Option Value} {base:Heap} {f:Addr} {fd:FuncData}
theorem sc_law_runs:FnScope ["_law_row_here","_law_parts","_law_one"] ["_law_row_here"] (defScope s_law_runs):=⟨rfl,rfl,rfl,by decide +kernel,rfl,by decide +kernel,by decide +kernel⟩
theorem ok_law_runs (F:Fun K "_law_runs" "_law_runs" s_law_runs f fd) (T:Txt mg):FnOk P w K mg base CX0 1 f fd ["_law_row_here"] spNRuns:=by
  refine F.ok sc_law_runs (fun vs H Q E h=>?_) (fun cdv A outer s H vs Q E hr h=>?_)
  · obtain ⟨l,es,m,n,rfl,_⟩:=h
    rfl
  obtain ⟨l,es,m,n,rfl,hl,hes,hn,k⟩:=h
  refine J.l ⟨_,(J.e (J.i (i:=1) sc_law_runs.nd rfl (Or.inl rfl) (J.t (J.b (J.t J.d) J.d st_L)) (hs:=sw_L))
      (J.e (J.ab PassesOwn.never rfl (J.x K (J.a 0)) (J.q (i:=2) sc_law_runs.nd rfl (Or.inl rfl))
      (J.g (J.o (J.n op_isN (J.f (ixT K) (J.a 2) J.c (fun _ _=>rfl)) J.v (nomark _))
      (J.g (J.u (J.w K (J.a 1) (J.t J.d)) (hs:=sw_K)))
      (J.g (J.u (J.w K (J.f (ixL K) (J.a 1) (J.z un_neg J.c) (fun _ _=>rfl)) (J.a 2)) (hs:=sw_K))))))
      (J.g (J.k (J.ac (O:=["_law_part"]) (N':=[]) (cap:=[]) rfl (J.x K (J.a 1)) (fun _ _ _ _ _=>(J.q (i:=0) (show List.Nodup [("_law_part":Str)] by decide +kernel) rfl (Or.inl rfl))) (fun _ _ _ _ _=>(Jd.pts_one (J.n op_gt (J.r (lenC K) rfl T.len_ PySem.boot_len (J.b (J.a 0) J.d st_N) (he:=st_N) (hpl:=any0)) J.c (nomark _)))) (fun _ _ _ _ _=>(J.a 0)) rfl trivial rfl (by decide +kernel) rfl (by decide +kernel)))))),?_⟩
  walk_at "v"
  refine r_new (mk:=.lst) (by simp) fun L0 H1 s1 n1 e1=>?_
  walk_at "v"
  refine r_new (mk:=.lst) (by simp) fun TT H2 s2 n2 e2=>?_
  have s02:=s1.trans s2
  walk_at "v"
  refine r_for (r_iL ?_)
  walk_at "v"
  refine ⟨l,rfl,⟨_,SqL.of (s02 _ _ hl)⟩,for_list (xs:=nvals es) (fun i σ H3=>∃(ls:Nls) (L:Addr) (c:List Nn) (v:Option V),σ=[some (.ref l),some (.ref TT),v]∧Same H H3∧VL H H3 TT (nvl ls++[(L,nvals c)])∧ls.length≤i∧c.length≤i∧Seg es i (ls.map (·.2)) c) ?_ ?_ ?_ ?_⟩
  · refine ⟨[],L0,[],none,rfl,s02,⟨s1.free n2,e2,fun x hx=>?_,by simp [nvl]⟩,Nat.le_refl _,Nat.le_refl _,rfl,by simp [inRun]⟩
    obtain rfl:x=(L0,[]):=by simpa [nvl,nvals] using hx
    exact ⟨n1,s2 _ _ e1,fun z=>by rw [← z] at n2;exact absurd (n2.symm.trans e1) (by simp)⟩
  · rintro i σ H3 _ ⟨ls,L,c,v,rfl,s3,_⟩
    exact SqL.of (s3 _ _ hl)
  · rintro i x σ H3 hx ⟨ls,L,c,v,rfl,s3,hV,hls,hc,hseg⟩
    refine body_cut fun M B R hM _ _=>?_
    obtain ⟨e,he,rfl⟩:=nvals_at hx
    have hi:i<es.length:=(List.getElem?_eq_some_iff.mp he).1
    have fe:=((hes e (List.mem_of_getElem? he)).up s3).1
    have hat:=hV.at_
    walk_at "v"
    refine ⟨rfl,?_⟩
    walk_at "v"
    cases hs:e.2.2 with
    | none=>
      have hs':nsm e=false:=by unfold nsm;rw [hs];rfl
      refine iteT ?_
      walk_at "v"
      refine ⟨.inl ⟨rfl,_,SqL.of hat⟩,?_⟩
      walk_at "v"
      refine r_new (mk:=.lst) (by simp) fun R2 H4 s4 n4 e4=>?_
      walk_at "v"
      have hV4:=hV.up s4
      refine r_app hV4.at_ (by simp [nvl];exact small1000 (by walk_at "o")) ?_
      have hold:∀x∈nvl ls++[(L,nvals c)],x.1≠R2:=fun x hx z=>by
        rw [← z,(hV.each x hx).2.1] at n4
        cases n4
      refine hM _ _ ⟨ls++[(L,c)],R2,[],_,rfl,same_at (s3.trans s4) hV.new,?_,by simp;walk_at "o",Nat.zero_le _,?_⟩
      · have:=hV4.push (s3.free n4) e4 (fun z=>by rw [z,hat] at n4;cases n4) hold
        rw [show nvl (ls++[(L,c)])=nvl ls++[(L,nvals c)] by simp [nvl]]
        exact this
      · rw [List.map_append]
        exact seg_gap hseg he hs'
    | some z=>
      have hs':nsm e=true:=by unfold nsm;rw [hs];rfl
      refine iteF ?_
      walk_at "v"
      refine r_l hat (v:=.ref L) (by rw [List.map_append];exact at_last) ?_
      have eL:=(hV.each (L,nvals c) (by simp)).2.1
      refine ⟨.inl ⟨rfl,_,SqL.of eL⟩,?_⟩
      walk_at "v"
      refine r_app eL (by rw [nvals_len];exact small1000 (by walk_at "o")) ?_
      refine hM _ _ ⟨ls,L,c++[e],_,rfl,same_at s3 (hV.each (L,nvals c) (by simp)).1,?_,by walk_at "o",by simp;walk_at "o",seg_on hseg he hs'⟩
      rw [← nvals_snoc]
      exact hV.last
  · rintro σ H3 ⟨ls,L,c,v,rfl,s3,hV,hls,hc,hseg⟩
    walk_at "v"
    refine r_iL ?_
    walk_at "v"
    rw [nvals_len] at hls hc hseg
    have hall:(nvl ls++[(L,nvals c)])=nvl (ls++[(L,c)]):=by simp [nvl]
    rw [hall] at hV
    have hat:=hV.at_
    generalize hus:ls++[(L,c)]=us at *
    have hul:us.length≤41:=by rw [← hus];simp;walk_at "o"
    have eu:(nvl us).map (fun x=>V.ref x.1)=us.map fun x=>V.ref x.1:=by unfold nvl;rw [List.map_map];rfl
    rw [eu] at hat
    refine ⟨TT,rfl,⟨_,SqL.of hat⟩,?_⟩
    refine compB_of (xs:=us.map fun x=>V.ref x.1) tells_list (fun H4 s4=>SqL.of (s4 _ _ hat)) (by rw [List.length_map];walk_at "o") (fun i ys G=>ys=((us.take i).filter fun x=>!x.2.isEmpty).map fun x=>V.ref x.1) rfl ?_ ?_
    · rintro D i x ys H4 σ0 NN N0 h0 hD eD s4 hx hy rfl kY kN
      rw [List.getElem?_map] at hx
      obtain ⟨x,gx,rfl⟩:=Option.map_eq_some_iff.mp hx
      have ex:=(hV.each (x.1,nvals x.2) (List.mem_map.mpr ⟨x,List.mem_of_getElem? gx,rfl⟩)).2.1
      have ts:=PySem.take_succ_filter (fun x:Addr×List Nn=>!x.2.isEmpty) us i x gx
      refine r_own1 h0 ?_
      walk_at "v"
      refine r_len (.inl (SqL.of (s4 _ _ ex))) ?_
      rw [nvals_len]
      walk_at "v"
      refine ite2 (fun c1=>?_) (fun c1=>?_)
      · have c1':=of_decide_eq_true c1
        walk_at "v"
        refine kY _ H4 (Same.refl _) ?_
        have:(!x.2.isEmpty)=true:=by cases hx2:x.2 with | nil=>rw [hx2] at c1';exact absurd c1' (by simp) | cons a b=>rfl
        rw [ts,this,if_pos rfl,List.map_append]
        rfl
      · refine kN H4 (Same.refl _) ?_
        have:(!x.2.isEmpty)=false:=by cases hx2:x.2 with | nil=>rfl | cons a b=>rw [hx2] at c1;exact absurd (decide_eq_true (show (0:Int)<(((a::b).length:Nat):Int) by rw [List.length_cons];omega)) c1
        rw [ts,this,if_neg Bool.false_ne_true,List.append_nil]
    · rintro D ys H4 hD eD s4 hy rfl
      rw [List.length_map,List.take_length] at eD
      refine k D _ H4 (s3.trans s4) (s3.free hD) eD (fun x hx=>?_) ?_
      · have hx':=hV.each (x.1,nvals x.2) (List.mem_map.mpr ⟨x,(List.mem_filter.mp hx).1,rfl⟩)
        exact ⟨hx'.1,s4 _ _ hx'.2.1⟩
      · have e:=hseg.1
        rw [← e,show ls.map (·.2)++[c]=us.map (·.2) by rw [← hus];simp,List.filter_map]
        rfl
end
noncomputable def gh (hs:List Nn) (b:Int):List En:=hs.map fun x=>(x.1,nworth b x.2)
theorem gh_map (hs:List Nn) (b:Int):(gh hs b).map (·.2)=hs.map (fun x=>nworth b x.2):=by unfold gh;rw [List.map_map];rfl
theorem parts_map {α β:Type} (f:α→β) (s:β→Bool) (es:List α):∀i,(parts (fun x=>s (f x)) es i).map (List.map f)=parts s (es.map f) i
  | 0=>rfl
  | i+1=>by
    have ih:=parts_map f s es i
    have hr:inRun s (es.map f) i=inRun (fun x=>s (f x)) es i:=by
      unfold inRun
      rw [List.getElem?_map]
      cases es[i-1]? <;> rfl
    cases e:es[i]? with
    | none=>
      have e':(es.map f)[i]?=none:=by rw [List.getElem?_map,e];rfl
      unfold parts
      rw [e,e']
      exact ih
    | some x=>
      have e':(es.map f)[i]?=some (f x):=by rw [List.getElem?_map,e];rfl
      cases hs:s (f x) with
      | false=>rw [parts_gap (s:=fun x=>s (f x)) e hs,parts_gap e' hs,ih]
      | true=>
        cases hi:inRun (fun x=>s (f x)) es i with
        | false=>rw [parts_new (s:=fun x=>s (f x)) e hs hi,parts_new e' hs (hr.trans hi),List.map_append,ih];rfl
        | true=>
          obtain ⟨t,r,hp⟩:=parts_ne hi
          rw [parts_on (s:=fun x=>s (f x)) e hs hi hp,parts_on e' hs (hr.trans hi) (t:=t.map (List.map f)) (r:=r.map f) (by rw [← ih,hp,List.map_append];rfl)]
          simp
theorem each2_of {α β γ:Type} {f:α→γ} {g:β→γ}:∀{as:List α} {bs:List β},as.map f=bs.map g→Each2 (fun a b=>f a=g b) as bs
  | [],[],_=>trivial
  | _::_,_::_,h=>⟨(List.cons.inj h).1,each2_of (List.cons.inj h).2⟩
  | [],_::_,h=>nomatch h
  | _::_,[],h=>nomatch h
theorem runs_same {es:List En} {hs:List Nn} {b:Int} (h:es.map (·.2)=hs.map (fun x=>nworth b x.2)):Each2 (fun r r'=>r.map (·.2)=(gh r' b).map (·.2)) (parts smp es es.length) (parts nsm hs hs.length):=by
  have hl:es.length=hs.length:=link_len h
  refine each2_imp (R:=fun r r'=>r.map (·.2)=r'.map fun x=>nworth b x.2) (fun r r' _ e=>by rw [gh_map];exact e) (each2_of ?_)
  have a:=parts_map (fun x:En=>x.2) (fun v:Int×Option Rat=>v.2.isSome) es es.length
  have c:=parts_map (fun x:Nn=>nworth b x.2) (fun v:Int×Option Rat=>v.2.isSome) hs hs.length
  have e2:(fun x:Nn=>(nworth b x.2).2.isSome)=nsm:=funext fun x=>by unfold nworth nsm;simp
  rw [show (fun x:Nn=>(fun v:Int×Option Rat=>v.2.isSome) (nworth b x.2))=nsm from e2] at c
  have a':(parts smp es es.length).map (List.map fun x:En=>x.2)=parts (fun v:Int×Option Rat=>v.2.isSome) (es.map fun x=>x.2) es.length:=a
  rw [a',c,h,hl]

section
variable {p q:Nat→Bool} {js:List Nat} {a k t:Nat}
noncomputable def below (p:Nat→Bool) (js:List Nat) (a:Nat):Nat:=(js.filter fun t=>decide (t<a)&&p t).length
theorem below_cons (p:Nat→Bool) (x:Nat) (js:List Nat) (a:Nat):below p (x::js) a=(if x<a∧p x=true then 1 else 0)+below p js a:=by
  unfold below
  by_cases h:x<a∧p x=true
  · rw [List.filter_cons_of_pos (by simp [h.1,h.2]),if_pos h,List.length_cons]
    omega
  · rw [List.filter_cons_of_neg (by simpa using h),if_neg h]
    omega
theorem below_le (h:a≤k):below p js a≤below p js k:=by
  induction js with
  | nil=>exact Nat.le_refl _
  | cons x js ih=>
    rw [below_cons,below_cons]
    split <;> split <;> first | omega | (rename_i u1 u2;exact absurd ⟨by omega,u1.2⟩ u2)
theorem below_lt (m:t∈js) (h1:a≤t) (h2:t<k) (hp:p t=true):below p js a+1≤below p js k:=by
  induction js with
  | nil=>cases m
  | cons x js ih=>
    rw [below_cons,below_cons]
    rcases List.mem_cons.mp m with rfl | m
    · rw [if_neg (by omega),if_pos ⟨h2,hp⟩]
      have:=below_le (p:=p) (js:=js) (show a≤k by omega)
      omega
    · have:=ih m
      split <;> split <;> first | omega | (rename_i u1 u2;exact absurd ⟨by omega,u1.2⟩ u2)
end
section
variable {F sg:Nat→Int} {S a b k:Nat}
end
theorem Tr.few {es:List En} {β:Rat} (hr:rising es) {C W:Nat→Nat} (hC:∀a b k,a<b→b<k→k<es.length→2*β<sd es a b k→C a+1≤C k) (hW:∀a b k,a<b→b<k→k<es.length→sd es a b k < -(2*β)→W a+1≤W k) (mC:∀i j,i≤j→j<es.length→C i≤C j) (mW:∀i j,i≤j→j<es.length→W i≤W j)
    {k fl ro:Nat} {ks:List (Rat×Rat)} {ts:List (Bool×Nat×Nat×Nat)} (h:Tr es β k fl ro ks ts):ks.length≤C ro+W fl:=by
  induction h with
  | nil=>exact Nat.zero_le _
  | stay h hk hP hP' hN ih=>exact ih
  | @cap k fl ro a b ls ts s G f h hk hP hC' ih=>
    have tl:(es.take k).length=k:=by rw [List.length_take];omega
    have hb:=hC'.lb
    have hab:=hC'.hab
    rw [tl] at hb
    have eb:=hC'.eb
    rw [lev_take hb] at eb
    obtain ⟨i,j1,j2,ej⟩:=hC'.off
    have lj:=hC'.lo i j1 j2
    have sdk:2*β<sd es a b k:=by
      refine sd_hi (T:=G) (f:=f) hr hab hb hk ?_ eb ?_
      · have:=hC'.ea
        rw [lev_take (by omega)] at this
        exact this
      · unfold lev
        grind
    have q1:=hC a b k hab hb hk sdk
    have q2:=mC ro a hC'.ha (by omega)
    have q3:=mW fl b hC'.hb (by omega)
    rw [List.length_append]
    simp only [List.length_cons,List.length_nil]
    omega
  | @cup k fl ro a b ls ts g S f h hk hP hn hC' ih=>
    have tl:(es.take k).length=k:=by rw [List.length_take];omega
    have hb:=hC'.lb
    have hab:=hC'.hab
    rw [tl] at hb
    have eb:=hC'.eb
    rw [lev_take hb] at eb
    obtain ⟨i,j1,j2,ej⟩:=hC'.off
    have lj:=hC'.hi i j1 j2
    have sdk:sd es a b k < -(2*β):=by
      refine sd_lo (T:=S) (f:=f) hr hab hb hk ?_ eb ?_
      · have:=hC'.ea
        rw [lev_take (by omega)] at this
        exact this
      · unfold lev
        grind
    have q1:=hW a b k hab hb hk sdk
    have q2:=mW fl a hC'.ha (by omega)
    have q3:=mC ro b hC'.hb (by omega)
    rw [List.length_append]
    simp only [List.length_cons,List.length_nil]
    omega
theorem nn_pos {b c:Int} (hb:1≤b) (hc:0≤c):(0:Rat)≤(c:Rat)/(b:Rat):=by
  have h1:(0:Rat)<(b:Rat):=cast_pos (by omega)
  have h2:(0:Rat)≤(c:Rat):=by
    have:=Rat.intCast_le_intCast.mpr hc
    simpa using this
  exact (rle_div h1).mpr (by grind)
theorem line_fit {q:List En} {β s h:Rat} (hr:rising q) (hl:∀i,i<q.length→rabs (wo q i-(s*(mo q i:Rat)+h))≤β):Fit q (2*β):=fun i j k l hij hj hkl hll=>by
  have d1:(0:Rat)<(mo q j:Rat)-(mo q i:Rat):=by have:=Rat.intCast_lt_intCast.mpr (mo_lt hr hij hj);grind
  have d2:(0:Rat)<(mo q l:Rat)-(mo q k:Rat):=by have:=Rat.intCast_lt_intCast.mpr (mo_lt hr hkl hll);grind
  have a1:=rabs_le.mp (hl i (by omega))
  have a2:=rabs_le.mp (hl j hj)
  have a3:=rabs_le.mp (hl k (by omega))
  have a4:=rabs_le.mp (hl l hll)
  have lo:lowS q (2*β) i j≤s:=by
    unfold lowS
    refine Classical.byContradiction fun z=>?_
    have z':s<(wo q j-2*β-wo q i)/((mo q j:Rat)-(mo q i:Rat)):=by grind
    have:=(Rat.mul_lt_mul_right d1).mpr z'
    rw [Rat.div_mul_cancel (by grind)] at this
    grind
  have hi:s≤highS q (2*β) k l:=by
    unfold highS
    refine Classical.byContradiction fun z=>?_
    have z':(wo q l+2*β-wo q k)/((mo q l:Rat)-(mo q k:Rat))<s:=by grind
    have:=(Rat.mul_lt_mul_right d2).mpr z'
    rw [Rat.div_mul_cancel (by grind)] at this
    grind
  exact Rat.le_trans lo hi
theorem wo_piece {es:List En} {n m j:Nat} (h:j<m-n):wo (piece es n m) j=wo es (n+j):=by unfold wo;rw [piece_get h]
theorem piece_rise {es:List En} {n m:Nat} (h:rising es):rising (piece es n m):=h.sublist ((List.take_sublist _ _).trans (List.drop_sublist _ _))
theorem Cut.few {es:List En} {β:Rat} {Ls:List (Rat×Rat)} {qs:List (List En)} (hr:rising es) (hg:LGood es β es.length Ls) (hL:1≤Ls.length) (hC:Cut es (2*β) qs es.length):qs.length≤Ls.length:=by
  obtain ⟨pos,p0,pn,hp⟩:=hC
  refine Classical.byContradiction fun z=>?_
  have z:Ls.length<qs.length:=by omega
  have st:∀j,j<qs.length→pos j<pos (j+1)∧pos (j+1)≤es.length∧(pos (j+1)<es.length→¬Fit (piece es (pos j) (pos (j+1)+1)) (2*β)):=fun j hj=>by
    obtain ⟨a,b,_,_,e⟩:=hp j _ (List.getElem?_eq_getElem hj)
    exact ⟨a,b,e⟩
  have bear:∀j m,j<Ls.length→m≤es.length→(∀i,pos j≤i→i<m→(j=0∨xAt Ls (j-1)≤(mo es i:Rat))∧(j+1=Ls.length∨(mo es i:Rat)≤xAt Ls j))→Fit (piece es (pos j) m) (2*β):=fun j m hj hm h=>by
    refine line_fit (s:=lsl Ls j) (h:=lhl Ls j) (piece_rise hr) fun i hi=>?_
    rw [piece_len hm] at hi
    rw [mo_piece hi,wo_piece hi]
    obtain ⟨h1,h2⟩:=h (pos j+i) (by omega) (by omega)
    exact hg j hj (pos j+i) (by omega) h1 h2
  have claim:∀j,j<Ls.length→∀i,pos j≤i→i<es.length→(j=0∨xAt Ls (j-1)≤(mo es i:Rat)):=fun j=>by
    induction j with
    | zero=>exact fun _ i _ _=>.inl rfl
    | succ j ih=>
      intro hj i hi hil
      right
      refine Classical.byContradiction fun hn=>?_
      obtain ⟨s1,s2,s3⟩:=st j (by omega)
      refine s3 (by omega) (bear j (pos (j+1)+1) (by omega) (by omega) fun i' h1 h2=>⟨ih (by omega) i' h1 (by omega),.inr ?_⟩)
      have:=mo_le hr (show i'≤i by omega) hil
      rw [Nat.add_sub_cancel] at hn
      grind
  obtain ⟨s1,s2,s3⟩:=st (Ls.length-1) (by omega)
  obtain ⟨t1,t2,_⟩:=st (Ls.length-1+1) (by omega)
  exact s3 (by omega) (bear (Ls.length-1) _ (by omega) (by omega) fun i h1 h2=>⟨claim _ (by omega) i h1 (by omega),.inl (by omega)⟩)
theorem Cut.twice {es:List En} {β:Rat} (hr:rising es) (hβ:0≤β) {qs:List (List En)} (hC:Cut es (2*β) qs es.length) {k fl ro:Nat} {ks:List (Rat×Rat)} {ts:List (Bool×Nat×Nat×Nat)} (hT:Tr es β k fl ro ks ts):ks.length≤2*(qs.length-1):=by
  obtain ⟨pos,p0,pn,hp⟩:=hC
  have hB:(0:Rat)≤2*β:=by grind
  have mono:∀i j,i≤j→j≤qs.length→pos i≤pos j:=fun i j hij=>by
    induction j with
    | zero=>
      intro _
      obtain rfl:i=0:=by omega
      exact Nat.le_refl _
    | succ j ih=>
      intro hj
      rcases Nat.lt_or_ge i (j+1) with z | z
      · have:=ih (by omega) (by omega)
        have:=(hp j _ (List.getElem?_eq_getElem (by omega))).1
        omega
      · obtain rfl:i=j+1:=by omega
        exact Nat.le_refl _
  have find:∀n a,n≤qs.length→a<pos n→∃j,j<n∧pos j≤a∧a<pos (j+1):=fun n a=>by
    induction n with
    | zero=>intro _ h;omega
    | succ n ih=>
      intro hn ha
      by_cases c:pos n≤a
      · exact ⟨n,by omega,c,ha⟩
      · obtain ⟨j,h1,h2,h3⟩:=ih (by omega) (by omega)
        exact ⟨j,by omega,h2,h3⟩
  have big:∀a b k,a<b→b<k→k<es.length→2*β<rabs (sd es a b k)→∃j,j+1<qs.length∧a<pos (j+1)∧pos (j+1)≤k:=fun a b k hab hbk hk hs=>by
    obtain ⟨j,hj,h1,h2⟩:=find qs.length a (Nat.le_refl _) (by omega)
    obtain ⟨s1,s2,s3,s4,_⟩:=hp j _ (List.getElem?_eq_getElem hj)
    rcases Nat.lt_or_ge k (pos (j+1)) with z | z
    · rw [s3] at s4
      have:=(fit_threes (piece_rise hr) hB).mp s4 (a-pos j) (b-pos j) (k-pos j) (by omega) (by omega) (by rw [piece_len s2];omega)
      unfold sd at this hs
      rw [mo_piece (by omega),mo_piece (by omega),mo_piece (by omega),wo_piece (by omega),wo_piece (by omega),wo_piece (by omega),show pos j+(a-pos j)=a by omega,show pos j+(b-pos j)=b by omega,show pos j+(k-pos j)=k by omega] at this
      grind
    · refine ⟨j,?_,h2,z⟩
      rcases Nat.lt_or_ge (j+1) qs.length with y | y
      · exact y
      · have:=mono qs.length (j+1) y (by omega)
        omega
  have js:∃js:List Nat,js.length=qs.length-1∧∀j,j+1<qs.length→pos (j+1)-1∈js:=⟨(List.range (qs.length-1)).map fun j=>pos (j+1)-1,by simp,fun j hj=>List.mem_map.mpr ⟨j,List.mem_range.mpr (by omega),rfl⟩⟩
  obtain ⟨js,hjl,hjm⟩:=js
  have key:∀a b k,a<b→b<k→k<es.length→2*β<rabs (sd es a b k)→below (fun _=>true) js a+1≤below (fun _=>true) js k:=fun a b k h1 h2 h3 h4=>by
    obtain ⟨j,hj,ha,hk⟩:=big a b k h1 h2 h3 h4
    exact below_lt (hjm j hj) (by omega) (by omega) rfl
  have:=hT.few hr (C:=below (fun _=>true) js) (W:=below (fun _=>true) js) (fun a b k h1 h2 h3 h4=>key a b k h1 h2 h3 (rabs_gt (.inl h4))) (fun a b k h1 h2 h3 h4=>key a b k h1 h2 h3 (rabs_gt (.inr (by grind)))) (fun i j h _=>below_le h) (fun i j h _=>below_le h)
  have l:∀a,below (fun _=>true) js a≤js.length:=fun a=>List.length_filter_le _ _
  have:=l ro
  have:=l fl
  omega
theorem each_sums {H:Hp} {β:Rat} {N M:Nat} (hβ:0≤β):∀{rs:List (List En)} {zs:List (List (List En)×List Addr×List Addr)} {ws:List (List Pc×List Th)},(∀r∈rs,rising r)→ApRuns H β N rs zs→Each2 (JRun H β M) rs ws→(telOf zs).length≤(jtel ws).length∧(jtel ws).length+rs.length≤2*(telOf zs).length
  | [],[],[],_,_,_=>⟨Nat.le_refl _,Nat.le_refl _⟩
  | r::rs,z::zs,w::ws,hr,ha,hj=>by
    obtain ⟨i1,i2⟩:=each_sums hβ (fun q hq=>hr q (List.mem_cons_of_mem _ hq)) ha.2 hj.2
    have ra:=ha.1
    obtain ⟨_,_,ks,L,fl,ro,g,s,hT,hB,hN,hm⟩:=hj.1
    have hrr:=hr r List.mem_cons_self
    have hF:Feas r β r.length fl ro L:=NowAt.feas hB hβ hN
    have f1:=Cut.few hrr (hT.good hrr L hF).1 (by rw [List.length_append];simp) ra.cut
    have f2:=Cut.twice hrr hβ ra.cut hT
    have l1:z.2.1.length=z.1.length:=ra.lp
    have l2:w.1.length=ks.length+1:=by have:=congrArg List.length hm;simpa using this
    have l3:=ra.lt
    rw [List.length_append] at f1
    simp only [List.length_cons,List.length_nil] at f1
    have e1:(telOf (z::zs)).length=z.2.1.length+(telOf zs).length:=by unfold telOf;rw [List.flatMap_cons,List.length_append]
    have e2:(jtel (w::ws)).length=w.1.length+(jtel ws).length:=by unfold jtel;rw [List.map_cons,List.flatten_cons,List.length_append,List.length_map]
    rw [e1,e2,List.length_cons]
    omega
  | [],_::_,_,_,ha,_=>ha.elim
  | _::_,[],_,_,ha,_=>ha.elim
  | [],[],_::_,_,_,hj=>hj.elim
  | _::_,_::_,[],_,_,hj=>hj.elim
noncomputable def spLaw (K:PySem.W.Frag):Sp:=fun vs H Q _=>∃(a:Addr) (ns:List Int),vs=[.ref a]∧SqL K H a (ns.map V.int)∧ns.length≤63∧∀H',Q (.bl true) H'
theorem each2_ln {α β:Type} {R:α→β→Prop}:∀{as:List α} {bs:List β},Each2 R as bs→as.length=bs.length
  | [],[],_=>rfl
  | _::_,_::_,h=>by rw [List.length_cons,List.length_cons,each2_ln h.2]
  | [],_::_,h=>h.elim
  | _::_,[],h=>h.elim
section
variable {P:Program} {w:World} {K:PySem.W.Frag} {mg:Str→Option Value} {base:Heap} {f c_Bend c_Stretch:Addr} {fd:FuncData}
theorem sc_law:FnScope ["_law_script","_law_row_here","_law_bottom","_law_bound","_law_width","_law_handed_here","_law_hung","_law_loose"] ["_law_script"] (defScope s_law):=⟨rfl,rfl,rfl,by decide +kernel,rfl,by decide +kernel,by decide +kernel⟩
theorem ok_law (F:Fun K "law" "law" s_law f fd) (T:Txt mg) (D_law_drawn:Dn P w K mg base 4 "_law_drawn" ["_law_script","_law_place","_law_most","_law_share"] (spDrawn4 K)) (D_law_ratio:Dn P w K mg base 1 "_law_ratio" ["_law_top","_law_bottom"] spRatio) (D_law_handed:Dn P w K mg base 2 "_law_handed" ["_law_row_here","_law_bottom"] spHanded) (D_law_row:Dn P w K mg base 3 "_law_row" ["_law_script","_law_place","_law_sizes"] (spRow K)) (D_joined:Dn P w K mg base 9 "joined" ["row","bound"] (spJoined c_Bend)) (D_apart:Dn P w K mg base 9 "apart" ["row","bound"] spApart) (D_law_runs:Dn P w K mg base 1 "_law_runs" ["_law_row_here"] spNRuns):FnOk P w K mg base CX0 10 f fd ["_law_script"] (spLaw K):=by
  refine F.ok sc_law (fun vs H Q E h=>?_) (fun cdv A outer s H vs Q E hr h=>?_)
  · obtain ⟨a,ns,rfl,_⟩:=h
    rfl
  obtain ⟨a,ns,rfl,hS,hn,k⟩:=h
  refine J.l ⟨_,(J.e (Jd.ps_asg (J.j D_law_drawn (hr.mono (by decide)) rfl (J.b (J.a 0) (J.b J.c (J.b J.c (J.b J.c J.d st_C) st_C) st_C) st_N) (he:=st_N) (hpl:=(anyc st_C (anyc st_C (anyc st_C any0))))) (Jd.pgT K (n:=3) rfl (J.aa (J.q (i:=1) sc_law.nd rfl (Or.inl rfl)) (J.aa (J.q (i:=2) sc_law.nd rfl (Or.inl rfl)) (J.aa (J.q (i:=3) sc_law.nd rfl (Or.inl rfl)) Jd.pgs_nil)))))
      (J.e (J.i (i:=4) sc_law.nd rfl (Or.inl rfl) (J.j D_law_ratio (hr.mono (by decide)) rfl (J.b (J.a 3) (J.b (J.a 2) J.d st_N) st_N) (he:=st_N) (hpl:=(anyc st_N any0))) (hs:=sw_K))
      (J.e (J.i (i:=5) sc_law.nd rfl (Or.inl rfl) (J.j D_law_handed (hr.mono (by decide)) rfl (J.b (J.a 1) (J.b (J.a 2) J.d st_N) st_N) (he:=st_N) (hpl:=(anyc st_N any0))) (hs:=sw_K))
      (J.e (J.o (J.n op_eq (J.f (ixL K) (J.j D_law_row (hr.mono (by decide)) rfl (J.b (J.a 0) (J.b J.c (J.b (J.t (J.b J.c J.d st_C)) J.d st_L) st_C) st_N) (he:=st_N) (hpl:=(anyc st_C (anyc st_L any0)))) J.c (fun _ _=>rfl)) J.c (nomark _))
      (J.e (J.i (i:=6) sc_law.nd rfl (Or.inl rfl) (J.r (lenC K) rfl T.len_ PySem.boot_len (J.b (J.f (ixT K) (J.j D_joined (hr.mono (by decide)) rfl (J.b (J.a 5) (J.b (J.a 4) J.d st_N) st_N) (he:=st_N) (hpl:=(anyc st_N any0))) J.c (fun _ _=>rfl)) J.d st_S) (he:=st_S) (hpl:=any0)) (hs:=sw_K))
      (J.g (J.i (i:=7) sc_law.nd rfl (Or.inl rfl) (J.r (lenC K) rfl T.len_ PySem.boot_len (J.b (J.f (ixT K) (J.j D_apart (hr.mono (by decide)) rfl (J.b (J.a 5) (J.b (J.a 4) J.d st_N) st_N) (he:=st_N) (hpl:=(anyc st_N any0))) J.c (fun _ _=>rfl)) J.d st_S) (he:=st_S) (hpl:=any0)) (hs:=sw_K))))
      (J.e (J.i (i:=7) sc_law.nd rfl (Or.inl rfl) (J.r (lenC K) rfl T.len_ PySem.boot_len (J.b (J.f (ixT K) (J.j D_apart (hr.mono (by decide)) rfl (J.b (J.a 5) (J.b (J.a 4) J.d st_N) st_N) (he:=st_N) (hpl:=(anyc st_N any0))) J.c (fun _ _=>rfl)) J.d st_S) (he:=st_S) (hpl:=any0)) (hs:=sw_K))
      (J.g (J.i (i:=6) sc_law.nd rfl (Or.inl rfl) (J.r (lenC K) rfl T.len_ PySem.boot_len (J.b (J.f (ixT K) (J.j D_joined (hr.mono (by decide)) rfl (J.b (J.a 5) (J.b (J.a 4) J.d st_N) st_N) (he:=st_N) (hpl:=(anyc st_N any0))) J.c (fun _ _=>rfl)) J.d st_S) (he:=st_S) (hpl:=any0)) (hs:=sw_K)))))
      (J.g (J.k (Jd.pe_chain op_le op_le (J.a 7) (J.a 6) (J.h op_sub (J.h op_mulB J.c (J.a 7)) (J.r (lenC K) rfl T.len_ PySem.boot_len (J.b (J.j D_law_runs (hr.mono (by decide)) rfl (J.b (J.a 1) J.d st_N) (he:=st_N) (hpl:=any0)) J.d st_K) (he:=st_K) (hpl:=any0)))))))))),?_⟩
  walk_at "v"
  refine r_asg ?_
  walk_at "v"
  refine ⟨a,ns,0,14,2,rfl,hS,by decide,by decide,by decide,by decide,by decide,fun p R hs b c H1 s1 e1 nR eR hrow hle hri hb zb hc zc=>?_⟩
  refine r_unpack3 e1 ?_
  walk_at "v"
  refine frac_gen (n:=150) (by omega) zc (zb.mono (by decide)) (by decide) fun pb H2 s2 f2=>?_
  have hβ:=nn_pos hb hc
  walk_at "v"
  refine ⟨R,hs,b,45,150,80,150,rfl,s2 _ _ eR,hrow.up s2,by omega,hb,zb,by decide,by decide,by decide,by decide,fun L es H3 s3 nL eL hR hmap=>?_⟩
  have hlen:=link_len hmap
  have hre:=link_rising hmap hri
  have s13:=s2.trans s3
  have hrr:∀r∈parts smp es es.length,rising r:=fun r hr=>hre.sublist (by have:=(parts_own es.length r hr).2.2;rwa [List.take_length] at this)
  have hrl:(parts smp es es.length).length=(parts nsm hs hs.length).length:=each2_ln (runs_same hmap)
  refine nx_of ?_
  refine seq_cut (fun σ' H'=>∃(x y:Nat) (v8:Option V),σ'=[some (.ref a),some (.ref R),some (.int b),some (.int c),some (.ref pb),some (.ref L),some (.int (y:Int)),some (.int (x:Int))]∧Same H3 H'∧x≤y∧y+(parts smp es es.length).length≤2*x) (fun σ' H' hP=>?_) (fun N hN=>?_)
  rotate_left
  · walk_at "v"
    refine r_new (mk:=.lst) (by simp) fun l4 H4 s4 n4 e4=>?_
    walk_at "v"
    refine ⟨a,ns,1,l4,[2],rfl,(s1.trans (s13.trans s4)).seq hS,by decide,by decide,by rw [e4];rfl,by decide,by decide,fun lw xs H5 s5 n5 e5 hlen' hxs=>?_⟩
    obtain ⟨d0,g0,a0,b0⟩:=row_get hlen' hxs 0 (z:=2) rfl
    walk_at "v"
    refine r_l e5 (at_ints g0 rfl) ?_
    walk_at "v"
    have s35:=s4.trans s5
    have fb:=f2.up (s3.trans s35)
    refine ite2 (fun c5=>?_) (fun c5=>?_)
    · walk_at "v"
      refine ⟨L,pb,es,_,150,150,rfl,s35 _ _ eL,hR.up s35,hre,by omega,fb,hβ,by decide,by decide,by decide,by decide,fun y X Z zs H6 s6 ey nX nZ nXZ eX eZ hJ=>?_⟩
      walk_at "v"
      refine r_len (.inl (SqL.of eX)) ?_
      walk_at "v"
      have s36:=s35.trans s6
      refine ⟨L,pb,es,_,150,150,rfl,s36 _ _ eL,hR.up s36,hre,by omega,(fb.up s6).qt,hβ,by decide,by decide,by decide,fun y' X' Z' zs' H7 s7 ey' nX' nZ' nXZ' eX' eZ' hA=>?_⟩
      walk_at "v"
      refine r_len (.inl (SqL.of eX')) ?_
      walk_at "v"
      have hJ7:Each2 (JRun H7 _ _) (parts smp es es.length) zs:=each2_imp (fun _ _ _ q=>q.tv fun e=>s7 _ _ e) hJ
      obtain ⟨q1,q2⟩:=each_sums hβ hrr hA hJ7
      refine hN _ _ ⟨_,_,none,rfl,s36.trans s7,by rw [List.length_map];exact q1,by rw [List.length_map];exact q2⟩
    · walk_at "v"
      refine ⟨L,pb,es,_,150,150,rfl,s35 _ _ eL,hR.up s35,hre,by omega,fb.qt,hβ,by decide,by decide,by decide,fun y' X' Z' zs' H6 s6 ey' nX' nZ' nXZ' eX' eZ' hA=>?_⟩
      walk_at "v"
      refine r_len (.inl (SqL.of eX')) ?_
      walk_at "v"
      have s36:=s35.trans s6
      refine ⟨L,pb,es,_,150,150,rfl,s36 _ _ eL,hR.up s36,hre,by omega,fb.up s6,hβ,by decide,by decide,by decide,by decide,fun y X Z zs H7 s7 ey nX nZ nXZ eX eZ hJ=>?_⟩
      walk_at "v"
      refine r_len (.inl (SqL.of eX)) ?_
      walk_at "v"
      have hA7:ApRuns H7 _ 6000 (parts smp es es.length) zs':=ApRuns.mv (fun e=>s7 _ _ e) hA
      obtain ⟨q1,q2⟩:=each_sums hβ hrr hA7 hJ
      refine hN _ _ ⟨_,_,none,rfl,s36.trans s7,by rw [List.length_map];exact q1,by rw [List.length_map];exact q2⟩
  obtain ⟨x,y,v8,rfl,s4,h1,h2⟩:=hP
  walk_at "v"
  rw [decide_eq_true (show (x:Int)≤(y:Int) by omega)]
  refine iteT ?_
  walk_at "v"
  refine ⟨R,hs,45,150,rfl,(s13.trans s4) _ _ eR,hrow.up (s13.trans s4),by omega,fun D ls H5 s5 nD eD hls hmp=>?_⟩
  walk_at "v"
  refine r_len (.inl (SqL.of eD)) ?_
  walk_at "v"
  have hll:ls.length=(parts smp es es.length).length:=by rw [hrl,← hmp,List.length_map]
  rw [decide_eq_true (show (y:Int)≤2*(x:Int)-((ls.map fun x=>V.ref x.1).length:Int) by rw [List.length_map,hll];omega)]
  exact k H5
end


theorem all_mk {l:PySem.W.OpenLaw} {w:World} {K:PySem.W.Frag} {h:Heap} {mg:Str→Option Value} {fa:Addr} (X:K.In h) (G:h.Ns mainGlobals mg) (hfa:mg "law"=some (.ref fa)) {tk_HEAD:Tok} {c_Stretch:Addr} {c_Bend:Addr}
    (a_Stretch:PySem.W.nsIn K mainGlobals "Stretch"=some (some (.ref c_Stretch))) (pg_Stretch:PySem.W.plainGet K c_Stretch Str.empty=true) (hd_Stretch:PySem.W.hasDictIn K c_Stretch=true) (po_Stretch:PySem.W.plainOver K c_Stretch=true) (sa_Stretch:PySem.W.findIn K (.ref c_Stretch) "__setattr__"=some (some (.builtin "object.__setattr__"))) (mk_Stretch:PySem.W.makesIn K c_Stretch=true) (kc_Stretch:PySem.W.keepIn K (.ref c_Stretch)=true)
    (nf_Stretch_twice:PySem.W.findIn K (.ref c_Stretch) "twice"=some none)
    (nf_Stretch_samples:PySem.W.findIn K (.ref c_Stretch) "samples"=some none)
    (nf_Stretch_gentlest:PySem.W.findIn K (.ref c_Stretch) "gentlest"=some none)
    (nf_Stretch_steepest:PySem.W.findIn K (.ref c_Stretch) "steepest"=some none)
    (a_Bend:PySem.W.nsIn K mainGlobals "Bend"=some (some (.ref c_Bend))) (pg_Bend:PySem.W.plainGet K c_Bend Str.empty=true) (hd_Bend:PySem.W.hasDictIn K c_Bend=true) (po_Bend:PySem.W.plainOver K c_Bend=true) (sa_Bend:PySem.W.findIn K (.ref c_Bend) "__setattr__"=some (some (.builtin "object.__setattr__"))) (mk_Bend:PySem.W.makesIn K c_Bend=true) (kc_Bend:PySem.W.keepIn K (.ref c_Bend)=true)
    (nf_Bend_bound:PySem.W.findIn K (.ref c_Bend) "bound"=some none)
    (nf_Bend_twice:PySem.W.findIn K (.ref c_Bend) "twice"=some none)
    (nf_Bend_below:PySem.W.findIn K (.ref c_Bend) "below"=some none)
    (nf_Bend_above:PySem.W.findIn K (.ref c_Bend) "above"=some none)
    (nf_Bend_gentlest:PySem.W.findIn K (.ref c_Bend) "gentlest"=some none)
    (nf_Bend_steepest:PySem.W.findIn K (.ref c_Bend) "steepest"=some none)
    (h_law_cell:Fx K "_law_cell" s_law_cell)
    (h_law_mix:Fx K "_law_mix" s_law_mix)
    (h_law_row:Fx K "_law_row" s_law_row)
    (h_law_ratio:Fx K "_law_ratio" s_law_ratio)
    (h_plain_divisor:Fx K "plain_divisor" s_plain_divisor)
    (h_steps_of_heads:Fx K "steps_of_heads" s_steps_of_heads)
    (h_divisor:Fx K "divisor" s_divisor)
    (h_ratio:Fx K "ratio" s_ratio)
    (h_reduced:Fx K "reduced" s_reduced)
    (h_loose_plus:Fx K "loose_plus" s_loose_plus)
    (h_loose_minus:Fx K "loose_minus" s_loose_minus)
    (h_loose_times:Fx K "loose_times" s_loose_times)
    (h_minus:Fx K "minus" s_minus)
    (h_plus:Fx K "plus" s_plus)
    (h_over:Fx K "over" s_over)
    (h_loose_slope:Fx K "loose_slope" s_loose_slope)
    (h_loose_along:Fx K "loose_along" s_loose_along)
    (h_loose_height:Fx K "loose_height" s_loose_height)
    (h_loose_off:Fx K "loose_off" s_loose_off)
    (h_slope:Fx K "slope" s_slope)
    (h_line_by:Fx K "line_by" s_line_by)
    (h_height:Fx K "height" s_height)
    (h_meet:Fx K "meet" s_meet)
    (h_order:Fx K "order" s_order)
    (h_size:Fx K "size" s_size)
    (h_loose_stand:Fx K "loose_stand" s_loose_stand)
    (h_runs:Fx K "runs" s_runs)
    (h_law_shaped:Fx K "_law_shaped" s_law_shaped)
    (h_law_times:Fx K "_law_times" s_law_times)
    (h_law_picked:Fx K "_law_picked" s_law_picked)
    (h_law_drawn:Fx K "_law_drawn" s_law_drawn)
    (h_law_handed:Fx K "_law_handed" s_law_handed)
    (h_greatest:Fx K "greatest" s_greatest)
    (h_smallest:Fx K "smallest" s_smallest)
    (h_Stretch_init:Fm K c_Stretch "__init__" "Stretch.__init__" s_Stretch_init)
    (h_gentlest_with:Fx K "gentlest_with" s_gentlest_with)
    (h_steepest_with:Fx K "steepest_with" s_steepest_with)
    (h_Stretch_takes:Fm K c_Stretch "takes" "Stretch.takes" s_Stretch_takes)
    (h_Stretch_kept:Fm K c_Stretch "kept" "Stretch.kept" s_Stretch_kept)
    (h_stretches:Fx K "stretches" s_stretches)
    (h_whole_points:Fx K "whole_points" s_whole_points)
    (h_above_chord:Fx K "above_chord" s_above_chord)
    (h_scaled_offs:Fx K "scaled_offs" s_scaled_offs)
    (h_exchanged:Fx K "exchanged" s_exchanged)
    (h_forcing_three:Fx K "forcing_three" s_forcing_three)
    (h_stand:Fx K "stand" s_stand)
    (h_times:Fx K "times" s_times)
    (h_best:Fx K "best" s_best)
    (h_piece_along:Fx K "piece_along" s_piece_along)
    (h_best_piece:Fx K "best_piece" s_best_piece)
    (h_ending_three:Fx K "ending_three" s_ending_three)
    (h_apart:Fx K "apart" s_apart)
    (h_opposite:Fx K "opposite" s_opposite)
    (h_is_steeper:Fx K "is_steeper" s_is_steeper)
    (h_touched:Fx K "touched" s_touched)
    (h_Bend_init:Fm K c_Bend "__init__" "Bend.__init__" s_Bend_init)
    (h_Bend_line_of:Fm K c_Bend "line_of" "Bend.line_of" s_Bend_line_of)
    (h_Bend_ended_in_cap:Fm K c_Bend "ended_in_cap" "Bend.ended_in_cap" s_Bend_ended_in_cap)
    (h_Bend_ended_in_cup:Fm K c_Bend "ended_in_cup" "Bend.ended_in_cup" s_Bend_ended_in_cup)
    (h_Bend_take:Fm K c_Bend "take" "Bend.take" s_Bend_take)
    (h_Bend_line_now:Fm K c_Bend "line_now" "Bend.line_now" s_Bend_line_now)
    (h_links_of:Fx K "links_of" s_links_of)
    (h_point_on:Fx K "point_on" s_point_on)
    (h_pieces_along:Fx K "pieces_along" s_pieces_along)
    (h_joined:Fx K "joined" s_joined)
    (h_law_runs:Fx K "_law_runs" s_law_runs)
    (h_law:Fx K "law" s_law)
    (g_HEAD:PySem.W.nsIn K mainGlobals "HEAD"=some (some (.int 256 tk_HEAD)))
    (z_len:PySem.W.nsIn K mainGlobals "len"=some none)
    (z_abs:PySem.W.nsIn K mainGlobals "abs"=some none)
    (z_range:PySem.W.nsIn K mainGlobals "range"=some none)
    (z_isinstance:PySem.W.nsIn K mainGlobals "isinstance"=some none)
    (z_int:PySem.W.nsIn K mainGlobals "int"=some none)
    (z_bool:PySem.W.nsIn K mainGlobals "bool"=some none)
    (z_tuple:PySem.W.nsIn K mainGlobals "tuple"=some none)
    (z_list:PySem.W.nsIn K mainGlobals "list"=some none)
    (z_max:PySem.W.nsIn K mainGlobals "max"=some none)
    (z_min:PySem.W.nsIn K mainGlobals "min"=some none)
    (z_enumerate:PySem.W.nsIn K mainGlobals "enumerate"=some none)
    (z_zip:PySem.W.nsIn K mainGlobals "zip"=some none)
    (z_all:PySem.W.nsIn K mainGlobals "all"=some none)
    (z_any:PySem.W.nsIn K mainGlobals "any"=some none)
    (z_sum:PySem.W.nsIn K mainGlobals "sum"=some none)
    (z_sorted:PySem.W.nsIn K mainGlobals "sorted"=some none)
    (z_reversed:PySem.W.nsIn K mainGlobals "reversed"=some none)
    (z_str:PySem.W.nsIn K mainGlobals "str"=some none) :
    ∃fd:FuncData,(∀(s:Shared) (v:Value),BindsTo s fd ⟨[v],[]⟩ [("_law_script",v)])∧∀base:Heap,K.In base→base.Ns mainGlobals mg→FnOk l.prog w K mg base CX0 10 fa fd ["_law_script"] (spLaw K):=by
  obtain ⟨_,fd_law,a_law,F_law⟩:=h_law
  have e:=hfa.symm.trans (PySem.W.mg_of X G a_law)
  cases e
  have T:Txt mg:=⟨PySem.W.mg_none_of X G z_len,PySem.W.mg_none_of X G z_abs,PySem.W.mg_none_of X G z_range,PySem.W.mg_none_of X G z_isinstance,PySem.W.mg_none_of X G z_int,PySem.W.mg_none_of X G z_bool,PySem.W.mg_none_of X G z_tuple,PySem.W.mg_none_of X G z_list,PySem.W.mg_none_of X G z_max,PySem.W.mg_none_of X G z_min,PySem.W.mg_none_of X G z_enumerate,PySem.W.mg_none_of X G z_zip,PySem.W.mg_none_of X G z_all,PySem.W.mg_none_of X G z_any,PySem.W.mg_none_of X G z_sum,PySem.W.mg_none_of X G z_sorted,PySem.W.mg_none_of X G z_reversed,PySem.W.mg_none_of X G z_str⟩
  obtain ⟨_,_,a_law_cell,F_law_cell⟩:=h_law_cell
  obtain ⟨_,_,a_law_mix,F_law_mix⟩:=h_law_mix
  obtain ⟨_,_,a_law_row,F_law_row⟩:=h_law_row
  obtain ⟨_,_,a_law_ratio,F_law_ratio⟩:=h_law_ratio
  obtain ⟨_,_,a_plain_divisor,F_plain_divisor⟩:=h_plain_divisor
  obtain ⟨_,_,a_steps_of_heads,F_steps_of_heads⟩:=h_steps_of_heads
  obtain ⟨_,_,a_divisor,F_divisor⟩:=h_divisor
  obtain ⟨_,_,a_ratio,F_ratio⟩:=h_ratio
  obtain ⟨_,_,a_reduced,F_reduced⟩:=h_reduced
  obtain ⟨_,_,a_loose_plus,F_loose_plus⟩:=h_loose_plus
  obtain ⟨_,_,a_loose_minus,F_loose_minus⟩:=h_loose_minus
  obtain ⟨_,_,a_loose_times,F_loose_times⟩:=h_loose_times
  obtain ⟨_,_,a_minus,F_minus⟩:=h_minus
  obtain ⟨_,_,a_plus,F_plus⟩:=h_plus
  obtain ⟨_,_,a_over,F_over⟩:=h_over
  obtain ⟨_,_,a_loose_slope,F_loose_slope⟩:=h_loose_slope
  obtain ⟨_,_,a_loose_along,F_loose_along⟩:=h_loose_along
  obtain ⟨_,_,a_loose_height,F_loose_height⟩:=h_loose_height
  obtain ⟨_,_,a_loose_off,F_loose_off⟩:=h_loose_off
  obtain ⟨_,_,a_slope,F_slope⟩:=h_slope
  obtain ⟨_,_,a_line_by,F_line_by⟩:=h_line_by
  obtain ⟨_,_,a_height,F_height⟩:=h_height
  obtain ⟨_,_,a_meet,F_meet⟩:=h_meet
  obtain ⟨_,_,a_order,F_order⟩:=h_order
  obtain ⟨_,_,a_size,F_size⟩:=h_size
  obtain ⟨_,_,a_loose_stand,F_loose_stand⟩:=h_loose_stand
  obtain ⟨_,_,a_runs,F_runs⟩:=h_runs
  obtain ⟨_,_,a_law_shaped,F_law_shaped⟩:=h_law_shaped
  obtain ⟨_,_,a_law_times,F_law_times⟩:=h_law_times
  obtain ⟨_,_,a_law_picked,F_law_picked⟩:=h_law_picked
  obtain ⟨_,_,a_law_drawn,F_law_drawn⟩:=h_law_drawn
  obtain ⟨_,_,a_law_handed,F_law_handed⟩:=h_law_handed
  obtain ⟨_,_,a_greatest,F_greatest⟩:=h_greatest
  obtain ⟨_,_,a_smallest,F_smallest⟩:=h_smallest
  obtain ⟨_,_,a_Stretch_init,i_Stretch_init,F_Stretch_init⟩:=h_Stretch_init
  obtain ⟨_,_,a_gentlest_with,F_gentlest_with⟩:=h_gentlest_with
  obtain ⟨_,_,a_steepest_with,F_steepest_with⟩:=h_steepest_with
  obtain ⟨_,_,a_Stretch_takes,i_Stretch_takes,F_Stretch_takes⟩:=h_Stretch_takes
  obtain ⟨_,_,a_Stretch_kept,i_Stretch_kept,F_Stretch_kept⟩:=h_Stretch_kept
  obtain ⟨_,_,a_stretches,F_stretches⟩:=h_stretches
  obtain ⟨_,_,a_whole_points,F_whole_points⟩:=h_whole_points
  obtain ⟨_,_,a_above_chord,F_above_chord⟩:=h_above_chord
  obtain ⟨_,_,a_scaled_offs,F_scaled_offs⟩:=h_scaled_offs
  obtain ⟨_,_,a_exchanged,F_exchanged⟩:=h_exchanged
  obtain ⟨_,_,a_forcing_three,F_forcing_three⟩:=h_forcing_three
  obtain ⟨_,_,a_stand,F_stand⟩:=h_stand
  obtain ⟨_,_,a_times,F_times⟩:=h_times
  obtain ⟨_,_,a_best,F_best⟩:=h_best
  obtain ⟨_,_,a_piece_along,F_piece_along⟩:=h_piece_along
  obtain ⟨_,_,a_best_piece,F_best_piece⟩:=h_best_piece
  obtain ⟨_,_,a_ending_three,F_ending_three⟩:=h_ending_three
  obtain ⟨_,_,a_apart,F_apart⟩:=h_apart
  obtain ⟨_,_,a_opposite,F_opposite⟩:=h_opposite
  obtain ⟨_,_,a_is_steeper,F_is_steeper⟩:=h_is_steeper
  obtain ⟨_,_,a_touched,F_touched⟩:=h_touched
  obtain ⟨_,_,a_Bend_init,i_Bend_init,F_Bend_init⟩:=h_Bend_init
  obtain ⟨_,_,a_Bend_line_of,i_Bend_line_of,F_Bend_line_of⟩:=h_Bend_line_of
  obtain ⟨_,_,a_Bend_ended_in_cap,i_Bend_ended_in_cap,F_Bend_ended_in_cap⟩:=h_Bend_ended_in_cap
  obtain ⟨_,_,a_Bend_ended_in_cup,i_Bend_ended_in_cup,F_Bend_ended_in_cup⟩:=h_Bend_ended_in_cup
  obtain ⟨_,_,a_Bend_take,i_Bend_take,F_Bend_take⟩:=h_Bend_take
  obtain ⟨_,_,a_Bend_line_now,i_Bend_line_now,F_Bend_line_now⟩:=h_Bend_line_now
  obtain ⟨_,_,a_links_of,F_links_of⟩:=h_links_of
  obtain ⟨_,_,a_point_on,F_point_on⟩:=h_point_on
  obtain ⟨_,_,a_pieces_along,F_pieces_along⟩:=h_pieces_along
  obtain ⟨_,_,a_joined,F_joined⟩:=h_joined
  obtain ⟨_,_,a_law_runs,F_law_runs⟩:=h_law_runs
  have C_HEAD:Cn mg "HEAD" 256:=⟨_,PySem.W.mg_of X G g_HEAD⟩
  have K_Stretch:Cl K mg "Stretch" c_Stretch ["twice","samples","gentlest","steepest"]:=⟨⟨pg_Stretch,hd_Stretch,po_Stretch,sa_Stretch⟩,PySem.W.mg_of X G a_Stretch,⟨nf_Stretch_twice,nf_Stretch_samples,nf_Stretch_gentlest,nf_Stretch_steepest,trivial⟩⟩
  have K_Bend:Cl K mg "Bend" c_Bend ["bound","twice","below","above","gentlest","steepest"]:=⟨⟨pg_Bend,hd_Bend,po_Bend,sa_Bend⟩,PySem.W.mg_of X G a_Bend,⟨nf_Bend_bound,nf_Bend_twice,nf_Bend_below,nf_Bend_above,nf_Bend_gentlest,nf_Bend_steepest,trivial⟩⟩
  refine ⟨fd_law,fun s v=>?_,fun base _ _=>?_⟩
  · obtain ⟨_,_,_,_,_,_,_,_,_,rfl,_,_⟩:=F_law.ex
    exact .of_eq rfl
  have D_law_cell:=dnm l.prog w base X G a_law_cell F_law_cell (ok_law_cell F_law_cell T) (F_law_cell.binds2 fun _ _ _ _ _ _ _ _=>rfl)
  have D_law_mix:=dnm l.prog w base X G a_law_mix F_law_mix (ok_law_mix F_law_mix ) (F_law_mix.binds2 fun _ _ _ _ _ _ _ _=>rfl)
  have D_law_row:=dnm l.prog w base X G a_law_row F_law_row (ok_law_row F_law_row T D_law_cell D_law_mix) (F_law_row.binds3 fun _ _ _ _ _ _ _ _ _=>rfl)
  have D_law_ratio:=dnm l.prog w base X G a_law_ratio F_law_ratio (ok_law_ratio F_law_ratio T) (F_law_ratio.binds2 fun _ _ _ _ _ _ _ _=>rfl)
  have D_plain_divisor:=dnm l.prog w base X G a_plain_divisor F_plain_divisor (ok_plain_divisor F_plain_divisor T) (F_plain_divisor.binds2 fun _ _ _ _ _ _ _ _=>rfl)
  have D_steps_of_heads:=dnm l.prog w base X G a_steps_of_heads F_steps_of_heads (ok_steps_of_heads F_steps_of_heads C_HEAD) (F_steps_of_heads.binds2 fun _ _ _ _ _ _ _ _=>rfl)
  have D_divisor:=dnm l.prog w base X G a_divisor F_divisor (ok_divisor F_divisor T C_HEAD D_plain_divisor D_steps_of_heads) (F_divisor.binds2 fun _ _ _ _ _ _ _ _=>rfl)
  have D_ratio:=dnm l.prog w base X G a_ratio F_ratio (ok_ratio F_ratio T D_divisor) (F_ratio.binds2 fun _ _ _ _ _ _ _ _=>rfl)
  have D_reduced:=dnm l.prog w base X G a_reduced F_reduced (ok_reduced F_reduced D_ratio) (F_reduced.binds1 fun _ _ _ _ _ _ _=>rfl)
  have D_loose_plus:=dnm l.prog w base X G a_loose_plus F_loose_plus (ok_loose_plus F_loose_plus ) (F_loose_plus.binds2 fun _ _ _ _ _ _ _ _=>rfl)
  have D_loose_minus:=dnm l.prog w base X G a_loose_minus F_loose_minus (ok_loose_minus F_loose_minus ) (F_loose_minus.binds2 fun _ _ _ _ _ _ _ _=>rfl)
  have D_loose_times:=dnm l.prog w base X G a_loose_times F_loose_times (ok_loose_times F_loose_times ) (F_loose_times.binds2 fun _ _ _ _ _ _ _ _=>rfl)
  have D_minus:=dnm l.prog w base X G a_minus F_minus (ok_minus F_minus D_loose_minus D_reduced) (F_minus.binds2 fun _ _ _ _ _ _ _ _=>rfl)
  have D_plus:=dnm l.prog w base X G a_plus F_plus (ok_plus F_plus D_loose_plus D_reduced) (F_plus.binds2 fun _ _ _ _ _ _ _ _=>rfl)
  have D_over:=dnm l.prog w base X G a_over F_over (ok_over F_over D_ratio) (F_over.binds2 fun _ _ _ _ _ _ _ _=>rfl)
  have D_loose_slope:=dnm l.prog w base X G a_loose_slope F_loose_slope (ok_loose_slope F_loose_slope D_loose_minus) (F_loose_slope.binds2 fun _ _ _ _ _ _ _ _=>rfl)
  have D_loose_along:=dnm l.prog w base X G a_loose_along F_loose_along (ok_loose_along F_loose_along D_loose_plus D_loose_times) (F_loose_along.binds3 fun _ _ _ _ _ _ _ _ _=>rfl)
  have D_loose_height:=dnm l.prog w base X G a_loose_height F_loose_height (ok_loose_height F_loose_height D_loose_plus D_loose_times) (F_loose_height.binds2 fun _ _ _ _ _ _ _ _=>rfl)
  have D_loose_off:=dnm l.prog w base X G a_loose_off F_loose_off (ok_loose_off F_loose_off D_loose_minus D_loose_height) (F_loose_off.binds2 fun _ _ _ _ _ _ _ _=>rfl)
  have D_slope:=dnm l.prog w base X G a_slope F_slope (ok_slope F_slope D_loose_slope D_reduced) (F_slope.binds2 fun _ _ _ _ _ _ _ _=>rfl)
  have D_line_by:=dnm l.prog w base X G a_line_by F_line_by (ok_line_by F_line_by D_loose_along D_reduced) (F_line_by.binds2 fun _ _ _ _ _ _ _ _=>rfl)
  have D_height:=dnm l.prog w base X G a_height F_height (ok_height F_height D_loose_height D_reduced) (F_height.binds2 fun _ _ _ _ _ _ _ _=>rfl)
  have D_meet:=dnm l.prog w base X G a_meet F_meet (ok_meet F_meet D_over D_minus D_height) (F_meet.binds2 fun _ _ _ _ _ _ _ _=>rfl)
  have D_order:=dnm l.prog w base X G a_order F_order (ok_order F_order ) (F_order.binds2 fun _ _ _ _ _ _ _ _=>rfl)
  have D_size:=dnm l.prog w base X G a_size F_size (ok_size F_size T) (F_size.binds1 fun _ _ _ _ _ _ _=>rfl)
  have D_loose_stand:=dnm l.prog w base X G a_loose_stand F_loose_stand (ok_loose_stand F_loose_stand D_loose_minus D_loose_along D_loose_slope) (F_loose_stand.binds3 fun _ _ _ _ _ _ _ _ _=>rfl)
  have D_runs:=dnm l.prog w base X G a_runs F_runs (ok_runs F_runs T) (F_runs.binds1 fun _ _ _ _ _ _ _=>rfl)
  have D_law_shaped:=dnm l.prog w base X G a_law_shaped F_law_shaped (ok_law_shaped F_law_shaped T) (F_law_shaped.binds3 fun _ _ _ _ _ _ _ _ _=>rfl)
  have D_law_times:=dnm l.prog w base X G a_law_times F_law_times (ok_law_times F_law_times ) (F_law_times.binds2 fun _ _ _ _ _ _ _ _=>rfl)
  have D_law_picked:=dnm l.prog w base X G a_law_picked F_law_picked (ok_law_picked F_law_picked T) (F_law_picked.binds2 fun _ _ _ _ _ _ _ _=>rfl)
  have D_law_drawn:=dnm l.prog w base X G a_law_drawn F_law_drawn (ok_law_drawn F_law_drawn T D_law_row D_law_shaped D_law_picked D_law_times) (F_law_drawn.binds4 fun _ _ _ _ _ _ _ _ _ _=>rfl)
  have D_law_handed:=dnm l.prog w base X G a_law_handed F_law_handed (ok_law_handed F_law_handed D_law_ratio) (F_law_handed.binds2 fun _ _ _ _ _ _ _ _=>rfl)
  have D_greatest:=dnm l.prog w base X G a_greatest F_greatest (ok_greatest F_greatest D_order) (F_greatest.binds1 fun _ _ _ _ _ _ _=>rfl)
  have D_smallest:=dnm l.prog w base X G a_smallest F_smallest (ok_smallest F_smallest D_order) (F_smallest.binds1 fun _ _ _ _ _ _ _=>rfl)
  have D_loose_slopeQ:=dnm l.prog w base X G a_loose_slope F_loose_slope (ok_loose_slopeQ F_loose_slope D_loose_minus) (F_loose_slope.binds2 fun _ _ _ _ _ _ _ _=>rfl)
  have D_Stretch:Dk l.prog w K mg base 6 "Stretch" c_Stretch ["self","bound"] (spInit c_Stretch):=⟨_,_,ok_Stretch_init F_Stretch_init K_Stretch D_plus,⟨mk_Stretch,a_Stretch_init,i_Stretch_init,kc_Stretch⟩,(F_Stretch_init.binds2 fun _ _ _ _ _ _ _ _=>rfl),K_Stretch.at_⟩
  have D_gentlest_with:=dnm l.prog w base X G a_gentlest_with F_gentlest_with (ok_gentlest_with F_gentlest_with T D_loose_minus D_loose_slopeQ D_greatest) (F_gentlest_with.binds4 fun _ _ _ _ _ _ _ _ _ _=>rfl)
  have D_steepest_with:=dnm l.prog w base X G a_steepest_with F_steepest_with (ok_steepest_with F_steepest_with T D_loose_plus D_loose_slopeQ D_smallest) (F_steepest_with.binds4 fun _ _ _ _ _ _ _ _ _ _=>rfl)
  have D_Stretch_takes:=dmm l.prog w base (mg:=mg) a_Stretch_takes i_Stretch_takes F_Stretch_takes (ok_Stretch_takes F_Stretch_takes T K_Stretch D_gentlest_with D_steepest_with D_order) (F_Stretch_takes.binds2 fun _ _ _ _ _ _ _ _=>rfl)
  have D_Stretch_kept:=dmm l.prog w base (mg:=mg) a_Stretch_kept i_Stretch_kept F_Stretch_kept (ok_Stretch_kept F_Stretch_kept T K_Stretch) (F_Stretch_kept.binds1 fun _ _ _ _ _ _ _=>rfl)
  have D_stretches:=dnm l.prog w base X G a_stretches F_stretches (ok_stretches F_stretches T K_Stretch D_Stretch D_Stretch_takes D_Stretch_kept) (F_stretches.binds2 fun _ _ _ _ _ _ _ _=>rfl)
  have D_whole_points:=dnm l.prog w base X G a_whole_points F_whole_points (ok_whole_points F_whole_points D_divisor) (F_whole_points.binds1 fun _ _ _ _ _ _ _=>rfl)
  have D_above_chord:=dnm l.prog w base X G a_above_chord F_above_chord (ok_above_chord F_above_chord ) (F_above_chord.binds3 fun _ _ _ _ _ _ _ _ _=>rfl)
  have D_scaled_offs:=dnm l.prog w base X G a_scaled_offs F_scaled_offs (ok_scaled_offs F_scaled_offs D_above_chord) (F_scaled_offs.binds2 fun _ _ _ _ _ _ _ _=>rfl)
  have D_exchanged:=dnm l.prog w base X G a_exchanged F_exchanged (ok_exchanged F_exchanged ) (F_exchanged.binds3 fun _ _ _ _ _ _ _ _ _=>rfl)
  have D_forcing_three:=dnm l.prog w base X G a_forcing_three F_forcing_three (ok_forcing_three F_forcing_three T D_whole_points D_scaled_offs D_exchanged) (F_forcing_three.binds1 fun _ _ _ _ _ _ _=>rfl)
  have D_stand:=dnm l.prog w base X G a_stand F_stand (ok_stand F_stand D_reduced D_loose_stand) (F_stand.binds3 fun _ _ _ _ _ _ _ _ _=>rfl)
  have D_times:=dnm l.prog w base X G a_times F_times (ok_times F_times D_loose_times D_reduced) (F_times.binds2 fun _ _ _ _ _ _ _ _=>rfl)
  have D_sizeF:=dnm l.prog w base X G a_size F_size (ok_sizeF F_size T) (F_size.binds1 fun _ _ _ _ _ _ _=>rfl)
  have D_best:=dnm l.prog w base X G a_best F_best (ok_best F_best T D_slope D_line_by D_forcing_three D_times D_stand D_plus D_sizeF) (F_best.binds1 fun _ _ _ _ _ _ _=>rfl)
  have D_piece_along:=dnm l.prog w base X G a_piece_along F_piece_along (ok_piece_along F_piece_along D_height) (F_piece_along.binds3 fun _ _ _ _ _ _ _ _ _=>rfl)
  have D_best_piece:=dnm l.prog w base X G a_best_piece F_best_piece (ok_best_piece F_best_piece D_piece_along D_best) (F_best_piece.binds1 fun _ _ _ _ _ _ _=>rfl)
  have D_ending_three:=dnm l.prog w base X G a_ending_three F_ending_three (ok_ending_three F_ending_three T D_best) (F_ending_three.binds2 fun _ _ _ _ _ _ _ _=>rfl)
  have D_apart:=dnm l.prog w base X G a_apart F_apart (ok_apart F_apart T D_runs D_stretches D_best_piece D_ending_three) (F_apart.binds2 fun _ _ _ _ _ _ _ _=>rfl)
  have D_opposite:=dnm l.prog w base X G a_opposite F_opposite (ok_opposite F_opposite ) (F_opposite.binds1 fun _ _ _ _ _ _ _=>rfl)
  have D_is_steeper:=dnm l.prog w base X G a_is_steeper F_is_steeper (ok_is_steeper F_is_steeper D_order) (F_is_steeper.binds2 fun _ _ _ _ _ _ _ _=>rfl)
  have D_touched:=dnm l.prog w base X G a_touched F_touched (ok_touched F_touched D_order D_loose_off) (F_touched.binds3 fun _ _ _ _ _ _ _ _ _=>rfl)
  have D_Bend:Dk l.prog w K mg base 6 "Bend" c_Bend ["self","bound"] (spBInit c_Bend):=⟨_,_,ok_Bend_init F_Bend_init K_Bend D_plus,⟨mk_Bend,a_Bend_init,i_Bend_init,kc_Bend⟩,(F_Bend_init.binds2 fun _ _ _ _ _ _ _ _=>rfl),K_Bend.at_⟩
  have D_Bend_line_of:=dmm l.prog w base (mg:=mg) a_Bend_line_of i_Bend_line_of F_Bend_line_of (ok_Bend_line_of F_Bend_line_of K_Bend D_reduced D_loose_along D_loose_minus D_greatest) (F_Bend_line_of.binds2 fun _ _ _ _ _ _ _ _=>rfl)
  have D_Bend_ended_in_cap:=dmm l.prog w base (mg:=mg) a_Bend_ended_in_cap i_Bend_ended_in_cap F_Bend_ended_in_cap (ok_Bend_ended_in_cap F_Bend_ended_in_cap K_Bend D_Bend_line_of D_touched D_opposite D_steepest_with) (F_Bend_ended_in_cap.binds2 fun _ _ _ _ _ _ _ _=>rfl)
  have D_Bend_ended_in_cup:=dmm l.prog w base (mg:=mg) a_Bend_ended_in_cup i_Bend_ended_in_cup F_Bend_ended_in_cup (ok_Bend_ended_in_cup F_Bend_ended_in_cup K_Bend D_Bend_line_of D_touched D_opposite D_gentlest_with) (F_Bend_ended_in_cup.binds2 fun _ _ _ _ _ _ _ _=>rfl)
  have D_Bend_take:=dmm l.prog w base (mg:=mg) a_Bend_take i_Bend_take F_Bend_take (ok_Bend_take F_Bend_take K_Bend D_gentlest_with D_steepest_with D_is_steeper D_Bend_ended_in_cap D_Bend_ended_in_cup) (F_Bend_take.binds2 fun _ _ _ _ _ _ _ _=>rfl)
  have D_Bend_line_now:=dmm l.prog w base (mg:=mg) a_Bend_line_now i_Bend_line_now F_Bend_line_now (ok_Bend_line_now F_Bend_line_now T K_Bend D_line_by D_Bend_line_of) (F_Bend_line_now.binds1 fun _ _ _ _ _ _ _=>rfl)
  have D_links_of:=dnm l.prog w base X G a_links_of F_links_of (ok_links_of F_links_of T K_Bend D_Bend D_Bend_take D_Bend_line_now) (F_links_of.binds2 fun _ _ _ _ _ _ _ _=>rfl)
  have D_point_on:=dnm l.prog w base X G a_point_on F_point_on (ok_point_on F_point_on D_height) (F_point_on.binds2 fun _ _ _ _ _ _ _ _=>rfl)
  have D_pieces_along:=dnm l.prog w base X G a_pieces_along F_pieces_along (ok_pieces_along F_pieces_along T D_point_on D_meet) (F_pieces_along.binds3 fun _ _ _ _ _ _ _ _ _=>rfl)
  have D_joined:=dnm l.prog w base X G a_joined F_joined (ok_joined F_joined T D_runs D_links_of D_pieces_along) (F_joined.binds2 fun _ _ _ _ _ _ _ _=>rfl)
  have D_law_runs:=dnm l.prog w base X G a_law_runs F_law_runs (ok_law_runs F_law_runs T) (F_law_runs.binds1 fun _ _ _ _ _ _ _=>rfl)
  have D_law:=dnm l.prog w base X G a_law F_law (ok_law F_law T D_law_drawn D_law_ratio D_law_handed D_law_row D_joined D_apart D_law_runs) (F_law.binds1 fun _ _ _ _ _ _ _=>rfl)
  exact ok_law F_law T D_law_drawn D_law_ratio D_law_handed D_law_row D_joined D_apart D_law_runs
theorem walk {l:PySem.W.OpenLaw} {q:Program} {loose:List Str} {XP:(Str→Option Value)→Heap→Prop} {YP:World→Heap→Prop} {d:DefRec} {K:Params→PySem.W.Frag} (hn:l.most=some 63) (hdf:d.params.defaults=[])
    (hY:∀(w:World) (h:Heap),YP w h→(K w.params).In h)
    (F:∀(w:World) (mg:Str→Option Value) (fa:Addr) (h:Heap),(K w.params).In h→h.Ns mainGlobals mg→mg d.name=some (.ref fa) →
      ∃fd:FuncData,(∀(s:Shared) (u:Value),BindsTo s fd ⟨[u],[]⟩ [("_law_script",u)])∧∀base:Heap,(K w.params).In base→base.Ns mainGlobals mg→FnOk l.prog w (K w.params) mg base CX0 10 fa fd ["_law_script"] (spLaw (K w.params))) :
    PySem.W.WalkO q loose XP YP l.row.toRowW d [] (fun f vs=>PySem.call f vs):=
  L2.walk_of (n:=63) (k:=10) (x := "_law_script") (CX:=fun _=>CX0) (sp:=fun w=>spLaw (K w.params)) hn (by decide) hdf ⟨rfl,by decide,by decide⟩ hY F (fun _ _ a ns hl _ hS=>⟨a,ns,rfl,hS,hl,fun _=>rfl⟩) fun _ _ _ _ _ z=>z
end Lw
open PySem PySem.W PyProof.Rows
set_option maxRecDepth 100000 in
set_option maxHeartbeats 0 in
theorem PySem.Challenge.cw_lath_k46_apart_and_joined_holds : PySem.Challenge.rw_lath_k46_apart_and_joined.Holds := by
  w_on;o_law;k_head;(case hw=>w_witness2)
  k_fill
  refine Lw.walk (l:=PySem.Challenge.rw_lath_k46_apart_and_joined) rfl rfl (fun w h Y=>PySem.W.kIn_of Y) ?F
  case F=>
    intro w mg fa h KX G hmg
    refine' Lw.all_mk KX G hmg ?a0 ?a1 ?a2 ?a3 ?a4 ?a5 ?a6 ?a7 ?a8 ?a9 ?a10 ?a11 ?a12 ?a13 ?a14 ?a15 ?a16 ?a17 ?a18 ?a19 ?a20 ?a21 ?a22 ?a23 ?a24 ?a25 ?a26 ?a27 ?a28 ?a29 ?a30 ?a31 ?a32 ?a33 ?a34 ?a35 ?a36 ?a37 ?a38 ?a39 ?a40 ?a41 ?a42 ?a43 ?a44 ?a45 ?a46 ?a47 ?a48 ?a49 ?a50 ?a51 ?a52 ?a53 ?a54 ?a55 ?a56 ?a57 ?a58 ?a59 ?a60 ?a61 ?a62 ?a63 ?a64 ?a65 ?a66 ?a67 ?a68 ?a69 ?a70 ?a71 ?a72 ?a73 ?a74 ?a75 ?a76 ?a77 ?a78 ?a79 ?a80 ?a81 ?a82 ?a83 ?a84 ?a85 ?a86 ?a87 ?a88 ?a89 ?a90 ?a91 ?a92 ?a93 ?a94 ?a95 ?a96 ?a97 ?a98 ?a99 ?a100 ?a101 ?a102 ?a103 ?a104 ?a105 ?a106 ?a107 ?a108 ?a109
    (case a0=>walk_at "fz");(case a1=>walk_at "fz");(case a2=>walk_at "fz");(case a3=>walk_at "fz");(case a4=>walk_at "fz");(case a5=>walk_at "fz");(case a6=>walk_at "fz");(case a7=>walk_at "fz");(case a8=>walk_at "fz");(case a9=>walk_at "fz");(case a10=>walk_at "fz");(case a11=>walk_at "fz");(case a12=>walk_at "fz");(case a13=>walk_at "fz");(case a14=>walk_at "fz");(case a15=>walk_at "fz");(case a16=>walk_at "fz");(case a17=>walk_at "fz");(case a18=>walk_at "fz");(case a19=>walk_at "fz");(case a20=>walk_at "fz");(case a21=>walk_at "fz");(case a22=>walk_at "fz");(case a23=>walk_at "fz");(case a24=>walk_at "fz");(case a25=>walk_at "fz");(case a26=>walk_at "fz");(case a27=>walk_at "fz");(case a28=>walk_at "fz");(case a29=>walk_at "fz");(case a30=>walk_at "fz");(case a31=>walk_at "fz");(case a32=>walk_at "fz");(case a33=>walk_at "fz");(case a34=>walk_at "fz");(case a35=>walk_at "fz");(case a36=>walk_at "fz");(case a37=>walk_at "fz");(case a38=>walk_at "fz");(case a39=>walk_at "fz");(case a40=>walk_at "fz");(case a41=>walk_at "fz");(case a42=>walk_at "fz");(case a43=>walk_at "fz");(case a44=>walk_at "fz");(case a45=>walk_at "fz");(case a46=>walk_at "fz");(case a47=>walk_at "fz");(case a48=>walk_at "fz");(case a49=>walk_at "fz");(case a50=>walk_at "fz");(case a51=>walk_at "fz");(case a52=>walk_at "fz");(case a53=>walk_at "fz");(case a54=>walk_at "fz");(case a55=>walk_at "fz");(case a56=>walk_at "fz");(case a57=>walk_at "fz");(case a58=>walk_at "fz");(case a59=>walk_at "fz");(case a60=>walk_at "fz");(case a61=>walk_at "fz");(case a62=>walk_at "fz");(case a63=>walk_at "fz");(case a64=>walk_at "fz");(case a65=>walk_at "fz");(case a66=>walk_at "fz");(case a67=>walk_at "fz");(case a68=>walk_at "fz");(case a69=>walk_at "fz");(case a70=>walk_at "fz");(case a71=>walk_at "fz");(case a72=>walk_at "fz");(case a73=>walk_at "fz");(case a74=>walk_at "fz");(case a75=>walk_at "fz");(case a76=>walk_at "fz");(case a77=>walk_at "fz");(case a78=>walk_at "fz");(case a79=>walk_at "fz");(case a80=>walk_at "fz");(case a81=>walk_at "fz");(case a82=>walk_at "fz");(case a83=>walk_at "fz");(case a84=>walk_at "fz");(case a85=>walk_at "fz");(case a86=>walk_at "fz");(case a87=>walk_at "fz");(case a88=>walk_at "fz");(case a89=>walk_at "fz");(case a90=>walk_at "fz");(case a91=>walk_at "fz");(case a92=>walk_at "fz");(case a93=>walk_at "fz");(case a94=>walk_at "fz");(case a95=>walk_at "fz");(case a96=>walk_at "fz");(case a97=>walk_at "fz");(case a98=>walk_at "fz");(case a99=>walk_at "fz");(case a100=>walk_at "fz");(case a101=>walk_at "fz");(case a102=>walk_at "fz");(case a103=>walk_at "fz");(case a104=>walk_at "fz");(case a105=>walk_at "fz");(case a106=>walk_at "fz");(case a107=>walk_at "fz");(case a108=>walk_at "fz");(case a109=>walk_at "fz")

