import PyProof.Rows.All
import Wide.All
import OpenK.AllK
import Wide.FinOn
import Lean
import PyProof.EqAt
import PyProof.EqKinds
import PyProof.TupleCall
import PySem.Challenge.RW_lath_k65_labels_that_show
set_option Elab.async false
set_option linter.all false
set_option maxRecDepth 100000
theorem au0_ (h:1=1:=by rfl):1=1:=h
theorem au1_ (h:1=1:=by decide):1=1:=h
theorem au2_ (h:1=1:=by intro _;rfl):1=1:=h
theorem au3_ (h:1=1:=by with_unfolding_all rfl):1=1:=h

namespace PySem.W.Fast
def tw6400451556004333264 := ()
def tw7074405332309785584 := ()
def tw5329407200669392960 := ()
def tw10768499423323426976 := ()
def tw13483641771786637504 := ()
def tw2598898319476893024 := ()
def tw16790064072694895040 := ()
def tw10427167179864875456 := ()
def tw8270400449326698048 := ()
def tw8546981663745692288 := ()
def tw17458214729465317024 := ()
def tw3523604033981978432 := ()
def tw17376801272675393440 := ()
def tw17472488050304770976 := ()
def tw1547085920327996384 := ()
def tw6167553474702157792 := ()
def tw12671306485477996512 := ()
def tw6699190341745048577 := ()
def tw5300147517158358049 := ()
def tw15526089183959789633 := ()
def tw14911326892823906401 := ()
def tw7039372160675723361 := ()
def tw7355139739475495041 := ()
def tw14405455753108295937 := ()
def tw723293449884991777 := ()
def tw13480902254201157921 := ()
def tw13115437840165343617 := ()
def tw15498720877258032545 := ()
def tw4447031354518936033 := ()
def tw1194961661159655905 := ()
def tw6058350516495217121 := ()
def tw9301110540012231233 := ()
def tw12487271955100744257 := ()
def tw5607467353427865185 := ()
def tw14394884949834742401 := ()
def tw7195120815040036673 := ()
def tw1287826120192066433 := ()
def tw13821215159810626465 := ()
def tw12765442063275765665 := ()
def tw12492947208387035073 := ()
def tw14155356326066269153 := ()
def tw1245024838395059169 := ()
def tw9705571321859728353 := ()
def tw6051658878562998306 := ()
def tw5024221954263916642 := ()
def tw1678464739542442082 := ()
def tw4056840037047952482 := ()
def tw2215548564765144258 := ()
def tw3252306300239150274 := ()
def tw16712413643014151458 := ()
def tw2921178834488507746 := ()
def tw17459841040972976514 := ()
def tw799801619220043202 := ()
def tw13572380770859809218 := ()
def tw17594645186042373666 := ()
def tw13642654227455671906 := ()
def tw7929189210554014434 := ()
def tw6180785282349642530 := ()
def tw1812710889718277922 := ()
def tw12201073877348385602 := ()
def tw9036676681474684770 := ()
def tw17776450460533756802 := ()
def tw7154538870551233603 := ()
def tw2357493579739313251 := ()
def tw3147839983172384867 := ()
def tw15905107187143682243 := ()
def tw11421812095793051875 := ()
def tw6535948585154298083 := ()
def tw14361750212722146723 := ()
def tw1505423738769593827 := ()
def tw17942355662751065603 := ()
def tw9716685762452019811 := ()
def tw14719396585613485731 := ()
def tw9247858284128594595 := ()
def tw7454401333155925731 := ()
def tw14628983312869889987 := ()
def tw1811249128947637316 := ()
def tw16045884205959454820 := ()
def tw3345621198879992964 := ()
def tw1171751584591170692 := ()
def tw17321841405542958244 := ()
def tw11658722133504334148 := ()
def tw12387435817425560932 := ()
def tw8006958130140497284 := ()
def tw17226278420289029540 := ()
def tw691182413775890884 := ()
def tw18189780423536317924 := ()
def tw14627256676981212644 := ()
def tw9570900799350371844 := ()
def tw7832678914521778788 := ()
def tw7964157183401777764 := ()
def tw2562653913243818628 := ()
def tw1658334001625901700 := ()
def tw14505987474143993476 := ()
def tw6416365270173889188 := ()
def tw14549839482441486020 := ()
def tw1923307032359160548 := ()
def tw17039576991378444068 := ()
def tw11052859200433428292 := ()
def tw552035139034830692 := ()
def tw6481930030854135684 := ()
def tw6328875134530311108 := ()
def tw3076973056703168484 := ()
def tw13911122916501708805 := ()
def tw4977672963020799077 := ()
def tw2854925510882157733 := ()
def tw10299316209930424517 := ()
def tw17547032228316010693 := ()
def tw1743272005555049765 := ()
def tw16808046543552302405 := ()
def tw17877591579304082789 := ()
def tw6490879092840514917 := ()
def tw9942684717998858629 := ()
def tw8245570636927430085 := ()
def tw4821743490205602277 := ()
def tw9859955030927114821 := ()
def tw8530072049331359333 := ()
def tw8808384405356845701 := ()
def tw4092821537595498117 := ()
def tw4041508098676070085 := ()
def tw2949723222698799909 := ()
def tw2729583749037005669 := ()
def tw5871455758346440742 := ()
def tw6716073557368762406 := ()
def tw2445698327730268262 := ()
def tw827189191494610118 := ()
def tw9713542230193120550 := ()
def tw6782184791229551942 := ()
def tw15620389777029493094 := ()
def tw8229647630953862534 := ()
def tw14212006655771233734 := ()
def tw14563285163468915174 := ()
def tw7247363664911266310 := ()
def tw10812051101992879654 := ()
def tw6016630082714790470 := ()
def tw4602614120044338790 := ()
def tw17733925932191441574 := ()
def tw5840612246131180262 := ()
def tw6144047056675289830 := ()
def tw12217714677286711110 := ()
def tw16055341354811108198 := ()
def tw14057324471306895206 := ()
def tw12164891379869574054 := ()
def tw15957910472255611846 := ()
def tw6429818725416010791 := ()
def tw14739514742753606727 := ()
def tw385204486323193927 := ()
def tw13172704804849177671 := ()
def tw17806893233136197767 := ()
def tw13491936651227988135 := ()
def tw10741218964071720135 := ()
def tw12539928262884935879 := ()
def tw18355145228666587399 := ()
def tw7752772369913836839 := ()
def tw3526781986983600455 := ()
def tw2940433581721402727 := ()
def tw1608665193724613991 := ()
def tw4306007799999026599 := ()
def tw3212406194307417639 := ()
def tw12558428586813652519 := ()
def tw2251092590407750215 := ()
def tw12380747719808229991 := ()
def tw3432641624394622567 := ()
def tw17104191819593618055 := ()
def tw12540284656802829991 := ()
def tw8554820934334679751 := ()
def tw10380143441248479047 := ()
def tw8208803886571905895 := ()
def tw11815448417816363911 := ()
def tw5105255879368309671 := ()
def tw12391890866829743047 := ()
def tw952654089498592264 := ()
def tw10486127963276617736 := ()
def tw10319948386845749384 := ()
def tw766668039669182600 := ()
def tw12991269197131746504 := ()
def tw5986262482136688904 := ()
def tw12552261603852694824 := ()
def tw5158992258759194952 := ()
def tw11504745831868991848 := ()
def tw9780815228201176424 := ()
def tw16207735035454570856 := ()
def tw1012361439170940264 := ()
def tw12477532406969715080 := ()
def tw16284277456244438408 := ()
def tw2613981182258690632 := ()
def tw17042616062011439720 := ()
def tw1722064258884770536 := ()
def tw7509092267963045608 := ()
def tw969443442313643784 := ()
def tw10211769214245055272 := ()
def tw12667445037015137064 := ()
def tw16137762975800678216 := ()
def tw1767014719001545576 := ()
def tw6894500235315539816 := ()
def tw14621641555355398024 := ()
def tw17060388336857417608 := ()
def tw10710485215706027017 := ()
def tw338939868706920457 := ()
def tw14691448525318294601 := ()
def tw11106261291392851113 := ()
def tw4478955668809416937 := ()
def tw18000172297290240233 := ()
def tw14056093350054615273 := ()
def tw16549792891494956265 := ()
def tw8718467581162703177 := ()
def tw12462715039954265417 := ()
def tw7201338666113205705 := ()
def tw5929254671467219497 := ()
def tw4069793186297201225 := ()
def tw5880713409665452649 := ()
def tw8744273722530036361 := ()
def tw11919077961287769769 := ()
def tw5011291298203732713 := ()
def tw5431395483026425577 := ()
def tw3406199387249176329 := ()
def tw8105756411980890921 := ()
def tw12510842861008312105 := ()
def tw7372314826616884073 := ()
def tw1585030491145943945 := ()
def tw17962927475494481833 := ()
def tw15270181433824932809 := ()
def tw15656199220962990057 := ()
def tw14156968664807872489 := ()
def tw11230368232802271242 := ()
def tw17154634014299695114 := ()
def tw6688109301268117546 := ()
def tw7259153217532898410 := ()
def tw17286404386909140202 := ()
def tw14667083625609394538 := ()
def tw4098165036065258858 := ()
def tw3631404042249266570 := ()
def tw2163548446308454794 := ()
def tw5227307893548814762 := ()
def tw6776821077252927914 := ()
def tw4891988568243896778 := ()
def tw12835728397854384586 := ()
def tw3837543023756434890 := ()
def tw15601149245274616266 := ()
def tw13603583243761327594 := ()
def tw10919727315356838410 := ()
def tw1395145064963351114 := ()
def tw1829697986426536714 := ()
def tw4259050543610965802 := ()
def tw16467409680930062122 := ()
def tw18415835392569917226 := ()
def tw7468058919890345770 := ()
def tw6977569558948522826 := ()
def tw13929421659110702986 := ()
def tw15291434866102076330 := ()
def tw14028989280776548266 := ()
def tw16116259774834896810 := ()
def tw8829641008288225226 := ()
def tw3150986108993128459 := ()
def tw130682620624979115 := ()
def tw14067991611504914667 := ()
def tw15181027104541184267 := ()
def tw13984159191224359179 := ()
def tw925583467195625739 := ()
def tw12040818760960094667 := ()
def tw10460233619193753067 := ()
def tw9969805504940862955 := ()
def tw8915719733489148427 := ()
def tw13594947492079750699 := ()
def tw536842274269666891 := ()
def tw12661688440028513867 := ()
def tw13022123255560164939 := ()
def tw9999133197535403659 := ()
def tw5088269283607469739 := ()
def tw5959894785668626155 := ()
def tw10243415628400598827 := ()
def tw1283617041036259179 := ()
def tw1120480991525783435 := ()
def tw6831473474963098507 := ()
def tw1127015903748389771 := ()
def tw13150170280793953195 := ()
def tw4734270342054472651 := ()
def tw11109102023192811628 := ()
def tw1400178404878475500 := ()
def tw3969033533469925644 := ()
def tw9723831666329803020 := ()
def tw16826055722241986828 := ()
def tw16129000956549274956 := ()
def tw4640605809557897580 := ()
def tw81951629270615468 := ()
def tw888785808074408460 := ()
def tw15820213034187369004 := ()
def tw10598250172910822988 := ()
def tw16264028723981720172 := ()
def tw11846708890704945836 := ()
def tw2191552515445039820 := ()
def tw6309896155417736908 := ()
def tw12584030402745450220 := ()
def tw9998272445420175116 := ()
def tw14874867251805881132 := ()
def tw10945081568060959564 := ()
def tw14475249494876052332 := ()
def tw11567012928189622124 := ()
def tw2400580901847366540 := ()
def tw7432217072939560908 := ()
def tw2743978434245542860 := ()
def tw14441415273756669005 := ()
def tw12109311095554434125 := ()
def tw3189483748536388717 := ()
def tw1131209274378771565 := ()
def tw3120180820448012397 := ()
def tw17609935418471239821 := ()
def tw16502674504914257069 := ()
def tw6565102513300832461 := ()
def tw8956335918661543117 := ()
def tw13291323128863459629 := ()
def tw5998932468151805229 := ()
def tw4960595085345580365 := ()
def tw612565312274949453 := ()
def tw16735358580892154253 := ()
def tw6697351644737486253 := ()
def tw8024612375864644077 := ()
def tw3096678880399023629 := ()
def tw7273733965337987629 := ()
def tw9484668122167719469 := ()
def tw16306540751159281261 := ()
def tw11534453260209376877 := ()
def tw10356497579672251053 := ()
def tw9560577330818139853 := ()
def tw9288892256626680557 := ()
def tw5071771228797335309 := ()
def tw15236611145782520717 := ()
def tw9145776857639209901 := ()
def tw4668954407996894157 := ()
def tw7490373006943995885 := ()
def tw3801569502848977934 := ()
def tw15889830128301425678 := ()
def tw15057554371987278894 := ()
def tw6074738165104907342 := ()
def tw17578867419314566222 := ()
def tw9541654827518250062 := ()
def tw180304178999212142 := ()
def tw1898678567258138798 := ()
def tw8612521703250260142 := ()
def tw33802880332300494 := ()
def tw4255399157643316430 := ()
def tw7384721320323936526 := ()
def tw11983530851139725678 := ()
def tw15076191576241869198 := ()
def tw14182024095448034734 := ()
def tw17648874970361958894 := ()
def tw11193967199837166158 := ()
def tw13951289133537284782 := ()
def tw15370383697932875438 := ()
def tw12633664546364367694 := ()
def tw3561580656641231694 := ()
def tw13484274290872583022 := ()
def tw3853576091049897870 := ()
def tw9392709793826028462 := ()
def tw4137122853550446542 := ()
def tw15000573372490368015 := ()
def tw16900912441298108463 := ()
def tw11652902658478500943 := ()
def tw6694539229216827503 := ()
def tw2201364630512460943 := ()
def tw8587304559683267727 := ()
def tw14973776957238146351 := ()
def tw11346838988730680623 := ()
def tw15977176002692131151 := ()
def tw14677724661225175535 := ()
def tw12794048476133383695 := ()
def tw12348261011144086063 := ()
def tw14088579979801802287 := ()
def tw2366796727416239663 := ()
def tw144656312756289103 := ()
def tw2413702341817912911 := ()
def tw8214463662600276623 := ()
def tw11510407551023448815 := ()
def tw10664748905609628495 := ()
def tw2403545344759536463 := ()
def tw12138848485741924239 := ()
def tw11441230823100091311 := ()
def tw10271616670086139823 := ()
def tw4046491813948100527 := ()
def tw279907094957966287 := ()
def tw17558523275891001360 := ()
def tw5514904223970658320 := ()
def tw7328726975544006768 := ()
def tw6419940757449819248 := ()
def tw6226485124365015184 := ()
def tw1882511249378212080 := ()
def tw13405919372749630736 := ()
def tw12311000401212781872 := ()
def tw12589324101277539632 := ()
def tw6646978526648632688 := ()
def tw18253964811770830288 := ()
def tw13824965470390342096 := ()
def tw8906044255062139376 := ()
def tw1980235445638686256 := ()
def tw9746011251028603472 := ()
def tw1929429486892967504 := ()
def tw7578825583104173744 := ()
def tw4573896125337161424 := ()
def tw3409784758596044528 := ()
def tw12591193010808396528 := ()
def tw3063111375858969328 := ()
def tw8273534501890765552 := ()
def tw975251177145398032 := ()
def tw15719044220171317008 := ()
def tw16260247388754298672 := ()
def tw4762962314099846960 := ()
def tw6182595183493232464 := ()
def tw9661912689366806416 := ()
def tw6583369459148506064 := ()
def tw9290966184562424784 := ()
def tw14721322430450944049 := ()
def tw10600821344271335537 := ()
def tw17770761891942506641 := ()
def tw15093391235393270993 := ()
def tw9124191725307133137 := ()
def tw16961111925395946705 := ()
def tw5618116831417179409 := ()
def tw12323638213945675025 := ()
def tw16984450938295846193 := ()
def tw17109612034957243697 := ()
def tw4176344011242570193 := ()
def tw16039583563756401201 := ()
def tw13105131287502039633 := ()
def tw13648565484086736465 := ()
def tw14066499902988553841 := ()
def tw1597912646577619601 := ()
def tw15229216285457991313 := ()
def tw11657182987708742417 := ()
def tw17807930981806816017 := ()
def tw5771387930611344145 := ()
def tw2794994197154391921 := ()
def tw14858621689061424017 := ()
def tw15954430400024902641 := ()
def tw14593077787724512338 := ()
def tw1781139835492884626 := ()
def tw6252942374081570994 := ()
def tw14804910642441440498 := ()
def tw13915881879361923378 := ()
def tw4216476704369974610 := ()
def tw12558741265391715698 := ()
def tw16034484594623412594 := ()
def tw10592462717965510034 := ()
def tw16543724998674273810 := ()
def tw6460880012290906642 := ()
def tw4938821341047141010 := ()
def tw11870213898578266866 := ()
def tw14927500404933012210 := ()
def tw17559511057134076690 := ()
def tw9473870933922644850 := ()
def tw659254418249314162 := ()
def tw16619119178014690290 := ()
def tw15965584620288653298 := ()
def tw17513173505634235635 := ()
def tw8039144057898733811 := ()
def tw3188371150012677363 := ()
def tw14307447313721342227 := ()
def tw3398598313538759987 := ()
def tw11892541021201360211 := ()
def tw6323733184106763635 := ()
def tw795533254819193203 := ()
def tw15936354599286569395 := ()
def tw10783709041214826963 := ()
def tw2222847599008984531 := ()
def tw7978306408275163603 := ()
def tw17774470991961571795 := ()
def tw6867596356418533843 := ()
def tw13150497292902066675 := ()
def tw9901807761258939987 := ()
def tw11984392214241018515 := ()
def tw13605199109080959635 := ()
def tw10366690300116883123 := ()
def tw2913566458975086291 := ()
def tw12048490629537218323 := ()
def tw16981113925059625779 := ()
def tw14679496575611604819 := ()
def tw2160815897042250579 := ()
def tw12908078309536362355 := ()
def tw4344218590250647443 := ()
def tw13195833781398383539 := ()
def tw4829378106705087443 := ()
def tw3421799967725530067 := ()
def tw12106614725431647219 := ()
def tw16600040752287069236 := ()
def tw8634459891043094740 := ()
def tw13354624860321648948 := ()
def tw10347717082856590740 := ()
def tw12368424466065453492 := ()
def tw5486450605484483060 := ()
def tw12385019514114706964 := ()
def tw12724829447125201428 := ()
def tw945124962098781748 := ()
def tw11813012873600460340 := ()
def tw76905552598257236 := ()
def tw16428503507560838836 := ()
def tw11437462431045237460 := ()
def tw15280951834832164564 := ()
def tw6704284268884479732 := ()
def tw9267900805259338516 := ()
def tw89594735804469044 := ()
def tw970728318324672340 := ()
def tw16925407329784898388 := ()
def tw16558561989846362996 := ()
def tw4858657882374879124 := ()
def tw5204999853694162868 := ()
def tw14123190161565832277 := ()
def tw3048770812253115509 := ()
def tw3329404667016745141 := ()
def tw16750898011776038133 := ()
def tw12699747045789022453 := ()
def tw5991091920863394037 := ()
def tw2052967561948172565 := ()
def tw16190279659067595029 := ()
def tw11782383473679663477 := ()
def tw12813566809111322037 := ()
def tw17292648708951452085 := ()
def tw157991724393465301 := ()
def tw527205133924421109 := ()
def tw4907446265996634677 := ()
def tw10981197263241393717 := ()
def tw16122062933597076021 := ()
def tw8327139258627492501 := ()
def tw4018420081789222549 := ()
def tw266460216804262581 := ()
def tw11626193161525716757 := ()
def tw8131331072071726933 := ()
def tw5118620558150742005 := ()
def tw14437332535789338646 := ()
def tw14127442576312829974 := ()
def tw3075026177939245174 := ()
def tw13763082897693128822 := ()
def tw1121275731683043446 := ()
def tw11076490027297248470 := ()
def tw14950908328874387734 := ()
def tw7934190807233816950 := ()
def tw16973085528120655222 := ()
def tw7109866722190969238 := ()
def tw7768667382414839318 := ()
def tw1581838721725344278 := ()
def tw17800779251377133078 := ()
def tw15367642284252651062 := ()
def tw391800689577453110 := ()
def tw1763567991221746230 := ()
def tw13924990285784171094 := ()
def tw11745598779822916214 := ()
def tw16643690797580173974 := ()
def tw2649352106493513398 := ()
def tw10695566356697793430 := ()
def tw15323441464157655958 := ()
def tw3022183848485452694 := ()
def tw711095642211444726 := ()
def tw7101977121944566839 := ()
def tw10146250226326308983 := ()
def tw14949796326874940599 := ()
def tw374613520567403831 := ()
def tw15612605097939488183 := ()
def tw6467173058244737495 := ()
def tw9129469078903330327 := ()
def tw2477912114252244503 := ()
def tw9806123610350825015 := ()
def tw13403881905438662231 := ()
def tw13290910691347170999 := ()
def tw12112754315936089783 := ()
def tw6577709173554586423 := ()
def tw17223386526887072567 := ()
def tw939334389732233079 := ()
def tw14005053931754246007 := ()
def tw8985995319011149719 := ()
def tw6247675241805268887 := ()
def tw3798910215799299031 := ()
def tw11367297025117369335 := ()
def tw13419233838733681688 := ()
def tw4703018195568487448 := ()
def tw1481505588663473208 := ()
def tw17882597382604059704 := ()
def tw13951584534675852440 := ()
def tw16807097886073920696 := ()
def tw3123082165394483416 := ()
def tw620369911474946296 := ()
def tw5619851136191649016 := ()
def tw17160543532738884888 := ()
def tw14636043555527648536 := ()
def tw17590011798445241752 := ()
def tw1002169081971108312 := ()
def tw285407469711226328 := ()
def tw10726501672740493816 := ()
def tw4453770209361691160 := ()
def tw7435705922672774680 := ()
def tw3196222458113012312 := ()
def tw14099393311837928024 := ()
def tw12277818960116308568 := ()
def tw1174083666264038072 := ()
def tw7160937649822514872 := ()
def tw9567288361854724792 := ()
def tw4705282668003507928 := ()
def tw12360104598853203768 := ()
def tw9384898548618208152 := ()
def tw13846773955817807800 := ()
def tw10105661600292044760 := ()
def tw8620334885426159608 := ()
def tw1119381041786841080 := ()
def tw14904851163269020697 := ()
def tw7046703744781533241 := ()
def tw9600459023702784121 := ()
def tw14884047825592758457 := ()
def tw16825534543661687993 := ()
def tw16873224780642616537 := ()
def tw9243856141733106905 := ()
def tw6211850763787612409 := ()
def tw13369500728414345529 := ()
def tw5207071932497030521 := ()
def tw17063933252098304377 := ()
def tw9725132226026795385 := ()
def tw9382420215096441241 := ()
def tw9216012318429797881 := ()
def tw17629469207586492025 := ()
def tw1093072536663069337 := ()
def tw15267668955949423289 := ()
def tw16112844439203041017 := ()
def tw10957974345626672889 := ()
def tw6706718974542689049 := ()
def tw7369331520374447897 := ()
def tw10521942393749104441 := ()
def tw12620243585985892217 := ()
def tw13124013201547065241 := ()
def tw1883912932249531321 := ()
def tw8258302986504861625 := ()
def tw13943512471732563994 := ()
def tw10204356843093406746 := ()
def tw7886444954525811738 := ()
def tw14192663740101356666 := ()
def tw2944554857282617466 := ()
def tw8627433019560492218 := ()
def tw8712628223465359610 := ()
def tw4013221788662097178 := ()
def tw12765139736800085306 := ()
def tw83832770127317338 := ()
def tw8648980385180451194 := ()
def tw9715601590787589498 := ()
def tw4002957160815484282 := ()
def tw2065533695590029722 := ()
def tw11528652976896860666 := ()
def tw1535969488735776314 := ()
def tw6007237288982180410 := ()
def tw7268729671037303386 := ()
def tw18254498686833369754 := ()
def tw9435113089962105498 := ()
def tw3243464284916772538 := ()
def tw2128207507126102810 := ()
def tw12581406235764305690 := ()
def tw14515475595893953402 := ()
def tw12443453666927583194 := ()
def tw1483762476545187802 := ()
def tw10750216860279206874 := ()
def tw7718485180827110394 := ()
def tw14761373013892313147 := ()
def tw5797312999893135419 := ()
def tw6536766287072801883 := ()
def tw13551555006592163931 := ()
def tw6712091689993901179 := ()
def tw16329942464893950139 := ()
def tw17945013918966128827 := ()
def tw3082245191466540219 := ()
def tw11319370921003999451 := ()
def tw7410476048146149627 := ()
def tw10477917801505562907 := ()
def tw12180420541816767803 := ()
def tw4645662929312275835 := ()
def tw9321852188873100731 := ()
def tw15183012922195420763 := ()
def tw15766994531174322811 := ()
def tw17128341440982786715 := ()
def tw14064518474455246555 := ()
def tw2994711387153295099 := ()
def tw5463518796094356283 := ()
def tw9350485132675094459 := ()
def tw4346172502024838075 := ()
def tw7522770467852380091 := ()
def tw7746261148463862876 := ()
def tw9911731541150946428 := ()
def tw7622096015043818620 := ()
def tw11425605406508920988 := ()
def tw15178421003463053500 := ()
def tw5034495172008349020 := ()
def tw16433222635292796284 := ()
def tw7390746757539971452 := ()
def tw9546309961202952604 := ()
def tw8594749782631430780 := ()
def tw10769926521382406908 := ()
def tw564343045055055644 := ()
def tw8040551969861550876 := ()
def tw13266014556876183356 := ()
def tw9662036491407288188 := ()
def tw16029031344475677628 := ()
def tw15624416673530500028 := ()
def tw13151044495890578396 := ()
def tw2187937218718712861 := ()
def tw10204775542999505949 := ()
def tw4137113209870012477 := ()
def tw7688205710962551901 := ()
def tw12767627163960501405 := ()
def tw17920328673094974717 := ()
def tw12737175127699382685 := ()
def tw10965882378024553917 := ()
def tw830433714462719421 := ()
def tw9945280481763463741 := ()
def tw1612221124173531741 := ()
def tw4252733394614966013 := ()
def tw13536608677663970077 := ()
def tw1074969701818809117 := ()
def tw18307468957405486909 := ()
def tw15210140730788455325 := ()
def tw6978304794271501277 := ()
def tw14412646810791316477 := ()
def tw11064434887973185566 := ()
def tw2050571884088898590 := ()
def tw11309212073488297022 := ()
def tw3173089964416856158 := ()
def tw7636038946855841918 := ()
def tw16532308342736470174 := ()
def tw9052821823096426686 := ()
def tw16498877894109403486 := ()
def tw8765542453076115806 := ()
def tw2890059838837769566 := ()
def tw7595018795942298974 := ()
def tw2263461194212959582 := ()
def tw3761471467543143806 := ()
def tw2627898087801948542 := ()
def tw12169418139798648318 := ()
def tw15360158513746631166 := ()
def tw373534189691589150 := ()
def tw13110235120323664446 := ()
def tw17047674469247126110 := ()
def tw15619728027566250590 := ()
def tw3309985732240644734 := ()
def tw14803920811059704446 := ()
def tw9100781392206340798 := ()
def tw15077900117956774622 := ()
def tw13006788016690490142 := ()
def tw14686406041836218206 := ()
def tw13615576196234080094 := ()
def tw4106943526910501790 := ()
def tw8150185594415838206 := ()
def tw3983119940688435231 := ()
def tw17225078542838469695 := ()
def tw6657250807503482943 := ()
def tw4411306169722600511 := ()
def tw12992493418505573567 := ()
def tw3870892472733316287 := ()
def tw18226459982908704959 := ()
def tw11236697095756236991 := ()
def tw13195393296775877855 := ()
def tw849817571954187487 := ()
def tw16087362713086564639 := ()
def tw11086724913786886431 := ()
def tw11491325246246342943 := ()
def tw1330337994535920927 := ()
def tw3788290271468784959 := ()
def tw1435004375857828159 := ()
def tw11011267104524254527 := ()
def tw977411712124999999 := ()
def tw9830910841959820639 := ()
def tw16706419678511673695 := ()
def tw2482816462213390783 := ()
def tw4220275347703033279 := ()
def tw1732911526378981919 := ()
def tw16730015506877690399 := ()
def tw8676028458926384703 := ()
def tw3947290589886960191 := ()
def tw17498289526965808735 := ()
def tw14641110414342097535 := ()
def tw10929049699385186943 := ()
def tw11135586386900275903 := ()
def tw11643669102354157279 := ()
def tw9455006165525022463 := ()
def tw10231019693255908095 := ()
def tw6329004496942234367 := ()
def tw3702934082374729471 := ()
def tw14777700477246979871 := ()
def tw12090543523385787199 := ()
def tw1514218194599848799 := ()
def tw15988395997553962879 := ()
def tw3155098121994570655 := ()
def tw1970738385195629471 := ()
def tw11697561997461321663 := ()
def tw3846261480676300767 := ()
def tw11434602269479614431 := ()
def tw13653781375542269951 := ()
end PySem.W.Fast

namespace L2
open PySem PySem.Spec PyProof.Rows

noncomputable abbrev Key:=Sum Int Str
noncomputable def keyIs:Key→Value→Bool
 | .inl k,v=>Value.isInt k v
 | .inr x,v=>Value.isStrOf x v
noncomputable def keyH (w:World):Key→Int
 | .inl k=>hashInt k
 | .inr x=>hashStr w x
theorem keyIs_shape:∀{k:Key} {v:Value},keyIs k v=true→(∃i t,k=Sum.inl i∧v=Value.int i t)∨(∃x t,k=Sum.inr x∧v=Value.str x t)
 | .inl i,v,h=>by
   obtain ⟨t,e⟩:=Value.isInt_shape (k:=i) (v:=v) h
   exact .inl ⟨i,t,rfl,e⟩
 | .inr x,v,h=>by
   obtain ⟨t,e⟩:=Value.isStrOf_shape (x:=x) (v:=v) h
   exact .inr ⟨x,t,rfl,e⟩
theorem keyIs_int (i:Int) (t:Tok):keyIs (.inl i) (.int i t)=true:=by simp [keyIs,Value.isInt]
theorem keyIs_str (x:Str) (t:Tok):keyIs (.inr x) (.str x t)=true:=by simp [keyIs,Value.isStrOf]
theorem key_ll (a b:Int):decide ((Sum.inl a:Key)=Sum.inl b)=(a==b):=by
 by_cases e:a=b
 ·subst e;simp
 ·have h:¬(Sum.inl a:Key)=Sum.inl b:=fun q=>e (Sum.inl.inj q)
  rw [decide_eq_false h]
  exact (beq_eq_false_iff_ne.mpr e).symm
theorem key_rr (a b:Str):decide ((Sum.inr a:Key)=Sum.inr b)=decide (a=b):=by
 by_cases e:a=b
 ·subst e;simp
 ·have h:¬(Sum.inr a:Key)=Sum.inr b:=fun q=>e (Sum.inr.inj q)
  rw [decide_eq_false h,decide_eq_false e]
theorem key_lr (a:Int) (b:Str):decide ((Sum.inl a:Key)=Sum.inr b)=false:=decide_eq_false (fun q=>nomatch q)
theorem key_rl (a:Str) (b:Int):decide ((Sum.inr a:Key)=Sum.inl b)=false:=decide_eq_false (fun q=>nomatch q)

noncomputable def mixKind (prog:Program) (w:World):PySem.KeyKind prog w Key where
 is:=keyIs
 hash:=keyH w
 inj:=fun v a b ha hb=>by
  rcases keyIs_shape ha with ⟨i,t,rfl,rfl⟩ | ⟨x,t,rfl,rfl⟩
  ·rcases keyIs_shape hb with ⟨j,u,rfl,e⟩ | ⟨y,u,rfl,e⟩
   ·injection e with e1 _;rw [e1]
   ·exact nomatch e
  ·rcases keyIs_shape hb with ⟨j,u,rfl,e⟩ | ⟨y,u,rfl,e⟩
   ·exact nomatch e
   ·injection e with e1 _;rw [e1]
 byValue:=fun k v h=>by
  rcases keyIs_shape h with ⟨i,t,rfl,rfl⟩ | ⟨x,t,rfl,rfl⟩ <;> rfl
 pyHash:=fun hv h=>by
  rcases keyIs_shape hv with ⟨i,t,rfl,rfl⟩ | ⟨x,t,rfl,rfl⟩
  ·exact wpAny_pyHash_int h
  ·exact wpAny_pyHash_str h
 eqBool:=fun hu hv h=>by
  rcases keyIs_shape hu with ⟨i,t,rfl,rfl⟩ | ⟨x,t,rfl,rfl⟩
  ·rcases keyIs_shape hv with ⟨j,u,rfl,rfl⟩ | ⟨y,u,rfl,rfl⟩
   ·rw [key_ll] at h;exact wpAny_eqBool_int h
   ·rw [key_lr] at h;exact SeqAt.EqAt.int_str i t y u _ _ _ _ h
  ·rcases keyIs_shape hv with ⟨j,u,rfl,rfl⟩ | ⟨y,u,rfl,rfl⟩
   ·rw [key_rl] at h;exact SeqAt.EqAt.str_int x t j u _ _ _ _ h
   ·rw [key_rr] at h;exact wpAny_eqBool_str h
 «strs»:=fun k x t v h=>by
  rcases keyIs_shape h with ⟨i,u,rfl,e⟩ | ⟨y,u,rfl,e⟩
  ·exact nomatch e
  ·injection e with e1 _
   subst e1
   cases v <;> rfl

theorem mixKind_int (prog:Program) (w:World) (i:Int) (t:Tok):(mixKind prog w).is (.inl i) (.int i t)=true:=keyIs_int i t
theorem mixKind_str (prog:Program) (w:World) (x:Str) (t:Tok):(mixKind prog w).is (.inr x) (.str x t)=true:=keyIs_str x t
end L2

namespace L2
open PySem PySem.Spec PyProof.Rows

inductive V where
 | non | bl (b:Bool) | int (i:Int) | str (x:Str) | byt (b:Array UInt8) | flt (b:UInt64) | ref (a:Addr) | ty (n:String)
 deriving DecidableEq

noncomputable def RelV:V→Value→Prop
 | .non,u=>u=Value.none
 | .bl b,u=>u=Value.bool b
 | .int i,u=>∃t,u=Value.int i t
 | .str x,u=>∃t,u=Value.str x t
 | .byt b,u=>∃t,u=Value.bytes b t
 | .flt b,u=>∃t,u=Value.float b t
 | .ref a,u=>u=Value.ref a
 | .ty n,u=>u=Value.type n

noncomputable abbrev Vals:List V→List Value→Prop:=Paired RelV
theorem Vals.length {xs:List V} {us:List Value} (r:Vals xs us):xs.length=us.length:=Paired.length r
theorem Vals.get:∀{xs:List V} {us:List Value} {i:Nat} {x:V},Vals xs us→xs[i]?=some x→∃u,us[i]?=some u∧RelV x u
 | _,_,_,_,.nil,e=>by simp at e
 | _,_,0,_,.cons r _,e=>by simp at e;subst e;exact ⟨_,rfl,r⟩
 | _,_,i+1,x,.cons _ t,e=>by
   obtain ⟨u,h1,h2⟩:=Vals.get (i:=i) (x:=x) t (by simpa using e)
   exact ⟨u,by simpa using h1,h2⟩
theorem Vals.set {x:V} {u:Value} (r:RelV x u):∀{xs:List V} {us:List Value} (i:Nat),Vals xs us→Vals (xs.set i x) (us.set i u)
 | _,_,_,.nil=>.nil
 | _,_,0,.cons _ t=>.cons r t
 | _,_,i+1,.cons q t=>.cons q (Vals.set r i t)
theorem Vals.append:∀{xs ys:List V} {us ws:List Value},Vals xs us→Vals ys ws→Vals (xs++ys) (us++ws)
 | _,_,_,_,.nil,s=>s
 | _,_,_,_,.cons r t,s=>.cons r (Vals.append t s)
theorem Vals.take:∀{xs:List V} {us:List Value} (n:Nat),Vals xs us→Vals (xs.take n) (us.take n)
 | _,_,0,_=>.nil
 | _,_,_+1,.nil=>.nil
 | _,_,n+1,.cons r t=>.cons r (Vals.take n t)
theorem Vals.drop:∀{xs:List V} {us:List Value} (n:Nat),Vals xs us→Vals (xs.drop n) (us.drop n)
 | _,_,0,r=>r
 | _,_,_+1,.nil=>.nil
 | _,_,n+1,.cons _ t=>Vals.drop n t
noncomputable def RelO:Option V→Option Value→Prop
 | some v,some u=>RelV v u
 | none,none=>True
 | _,_=>False
noncomputable def KV {κ:Type}:List (κ×V)→List (κ×Value)→Prop:=Paired fun (p:κ×V) (q:κ×Value)=>p.1=q.1∧RelV p.2 q.2

noncomputable def kV:Key→V
 | .inl i=>.int i
 | .inr x=>.str x

inductive HO where
 /-- a list -/
 | lst (xs:List V)
 /-- a tuple (never changes) -/
 | tup (xs:List V)
 /-- a dict whose keys are ints and texts;one whose keys are tuples of ints and texts (the empty one is both) -/
 | dK (kvs:List (Key×V)) | dT (kvs:List (List Key×V))
 /-- a set of ints: its members,its size -/
 | set (S:Int→Bool) (n:Nat)
 /-- an instance of the class at C,its dict at dx,its attributes -/
 | ins (C dx:Addr) (fs:List (Str×V))
 /-- the dict of the instance at x -/
 | own (x:Addr)
 /-- the dict of an exception -/
 | xd (fs:List (Str×V))
 /-- a bound method,f of x -/
 | met (f x:Addr)
 /-- a range object lo,lo+1,.. below hi -/
 | rng (lo hi:Int)
 /-- a thing that is known to the object (the script;a dict while a loop walks it): read,never written while it is so -/
 | frz (o:Obj) (u:HO)
 /-- a code object's table -/
 | tbl (ps:Array Value)
 /-- any other thing,by what is true of its one object (a def of one's own: SetO a S n:=HO.ext fun h=>..) -/
 | ext (φ:Heap→Prop)

noncomputable abbrev Hp:=Addr→Option HO
noncomputable def upd (H:Hp) (a:Addr) (o:HO):Hp:=fun b=>if b=a then some o else H b
theorem upd_same {H:Hp} {a:Addr} {o:HO}:upd H a o a=some o:=by unfold upd;rw [if_pos rfl]
theorem upd_ne {H:Hp} {a b:Addr} {o:HO} (h:b≠a):upd H a o b=H b:=by unfold upd;rw [if_neg h]
theorem ne_of {H:Hp} {a b:Addr} {o u:HO} (h:H a=some o) (h':H b=some u) (d:o≠u):a≠b:=by
 intro e;subst e;rw [h] at h';exact d (Option.some.inj h')
theorem ne_of_none {H:Hp} {a b:Addr} {o:HO} (h:H a=some o) (h':H b=none):a≠b:=by
 intro e;subst e;rw [h] at h';cases h'

section
variable (P:Program) (w:World)
noncomputable def ObjOk (H:Hp) (h:Heap) (a:Addr):HO→Prop
 | .lst xs=>xs.length≤sizeLine∧∃(its:List Value) (n:Nat),Vals xs its∧h.get? a=some { cls:=.type "list",data:=.seq its.toArray n }
 | .tup xs=>xs.length≤sizeLine∧∃its:List Value,Vals xs its∧IsTup h a its.toArray
 | .dK kvs=>kvs.length≤sizeLine∧(a==sysModules)=false∧∃vs,KV kvs vs∧h.DictOf (mixKind P w) a vs
 | .dT kvs=>kvs.length≤sizeLine∧(a==sysModules)=false∧∃xs:List (List Key×Addr×Value),
  Paired (fun (p:List Key×V) (q:List Key×Addr×Value)=>p.1=q.1∧H q.2.1=some (.tup (p.1.map kV))∧RelV p.2 q.2.2) kvs xs ∧
  ∃o es ep,h.get? a=some o∧o.ExactDict∧o.data=.dict es ep∧es.toList=xs.map (entryOfKey (tupleKind (mixKind P w)))∧(xs.map (·.1)).Nodup
 | .set S n=>h.SetOf (intKind P w) a S n
 | .ins C dx fs=>H dx=some (.own a)∧fs.length≤1000∧dx≠a∧h.get? a=some (PySem.W.instObj C dx) ∧
  ∃mA,h.Ns1 dx mA∧(∀f,RelO (fs.lookup f) (mA f))∧PySem.Within mA (fs.map (·.1))
 | .own _=>∃o,h.get? a=some o
 | .xd fs=>∃mA,h.Ns1 a mA∧∀f,RelO (fs.lookup f) (mA f)
 | .rng lo hi=>∃t u v,h.get? a=some { cls:=.type "range",data:=.fields #[.int lo t,.int hi u,.int 1 v] }
 | .frz o u=>h.get? a=some o∧ObjOk H h a u
 | .tbl ps=>h.get? a=some { cls:=.none,data:=.fields ps }
 | .met f x=>h.get? a=some (PySem.W.methodObj (.ref f) (.ref x))
 | .ext φ=>φ h∧(∃o,h.get? a=some o)∧∀h1 h2:Heap,φ h1→(∀o,h1.get? a=some o→h2.get? a=some o)→φ h2
noncomputable def HOk (H:Hp) (h:Heap):Prop:=∀a o,H a=some o→ObjOk P w H h a o
end

section
variable {P:Program} {w:World} {H H':Hp} {h h':Heap} {a:Addr} {o:HO}
theorem ObjOk.lt (x:ObjOk P w H h a o):a<h.objs.size:=by
 cases o with
 | lst xs=>obtain ⟨_,_,_,_,e⟩:=x;exact Heap.lt_size e
 | tup xs=>obtain ⟨_,_,_,p⟩:=x;exact p.lt
 | dK kvs=>obtain ⟨_,_,_,_,o,_,_,e,_⟩:=x;exact Heap.lt_size e
 | dT kvs=>obtain ⟨_,_,_,_,o,_,_,e,_⟩:=x;exact Heap.lt_size e
 | set S n=>obtain ⟨o,_,_,_,e,_⟩:=x;exact Heap.lt_size e
 | ins C dx fs=>obtain ⟨_,_,_,e,_⟩:=x;exact Heap.lt_size e
 | own y=>obtain ⟨_,e⟩:=x;exact Heap.lt_size e
 | xd fs=>obtain ⟨_,⟨_,_,_,e,_⟩,_⟩:=x;exact Heap.lt_size e
 | rng lo hi=>obtain ⟨_,_,_,e⟩:=x;exact Heap.lt_size e
 | frz ob u=>obtain ⟨e,_⟩:=x;exact Heap.lt_size e
 | tbl ps=>exact Heap.lt_size (show h.get? a=some _ from x)
 | met f y=>exact Heap.lt_size (show h.get? a=some _ from x)
 | ext φ=>obtain ⟨_,⟨_,e⟩,_⟩:=x;exact Heap.lt_size e
theorem Paired.mapP {α β:Type} {F G:α→β→Prop}:∀{l₁:List α} {l₂:List β},Paired F l₁ l₂→(∀a b,F a b→G a b)→Paired G l₁ l₂
 | _,_,.nil,_=>.nil
 | _,_,.cons r t,f=>.cons (f _ _ r) (Paired.mapP t f)
theorem ObjOk.stay (x:ObjOk P w H h a o) (k:∀b u,(b=a∨H b=some (.own a))→h.get? b=some u→h'.get? b=some u)
 (ho:∀b,H b=some (.own a)→H' b=some (.own a)) (ht:∀b xs,H b=some (.tup xs)→H' b=some (.tup xs)):ObjOk P w H' h' a o:=by
 induction o with
 | lst xs=>obtain ⟨z,its,n,r,e⟩:=x;exact ⟨z,its,n,r,k _ _ (.inl rfl) e⟩
 | tup xs=>obtain ⟨z,its,r,ob,e,c⟩:=x;exact ⟨z,its,r,ob,k _ _ (.inl rfl) e,c⟩
 | dK kvs=>obtain ⟨z,y,vs,r,ob,es,ep,e,c⟩:=x;exact ⟨z,y,vs,r,ob,es,ep,k _ _ (.inl rfl) e,c⟩
 | dT kvs=>
   obtain ⟨z,y,xs,r,ob,es,ep,e,c⟩:=x
   exact ⟨z,y,xs,Paired.mapP r fun p q z=>⟨z.1,ht _ _ z.2.1,z.2.2⟩,ob,es,ep,k _ _ (.inl rfl) e,c⟩
 | set S n=>obtain ⟨ob,es,ep,t,e,c⟩:=x;exact ⟨ob,es,ep,t,k _ _ (.inl rfl) e,c⟩
 | ins C dx fs=>
   obtain ⟨d,z,ne,e,mA,⟨od,es,ep,e2,c⟩,r⟩:=x
   exact ⟨ho _ d,z,ne,k _ _ (.inl rfl) e,mA,⟨od,es,ep,k _ _ (.inr d) e2,c⟩,r⟩
 | own y=>obtain ⟨ob,e⟩:=x;exact ⟨ob,k _ _ (.inl rfl) e⟩
 | xd fs=>obtain ⟨mA,⟨od,es,ep,e,c⟩,r⟩:=x;exact ⟨mA,⟨od,es,ep,k _ _ (.inl rfl) e,c⟩,r⟩
 | rng lo hi=>obtain ⟨t,u,v,e⟩:=x;exact ⟨t,u,v,k _ _ (.inl rfl) e⟩
 | frz ob u ih=>obtain ⟨e,q⟩:=x;exact ⟨k _ _ (.inl rfl) e,ih q⟩
 | tbl ps=>
   have e:h.get? a=some { cls:=.none,data:=.fields ps }:=x
   show h'.get? a=some { cls:=.none,data:=.fields ps }
   exact k a _ (.inl rfl) e
 | met f y=>
   have e:h.get? a=some (PySem.W.methodObj (.ref f) (.ref y)):=x
   show h'.get? a=some (PySem.W.methodObj (.ref f) (.ref y))
   exact k a _ (.inl rfl) e
 | ext φ=>obtain ⟨p,⟨o,e⟩,st⟩:=x;exact ⟨st _ _ p fun o q=>k _ _ (.inl rfl) q,⟨o,k _ _ (.inl rfl) e⟩,st⟩
theorem HOk.lt (x:HOk P w H h) (e:H a=some o):a<h.objs.size:=(x a o e).lt
theorem HOk.fresh (x:HOk P w H h) (e:h.objs.size≤a):H a=none:=by
 cases q:H a with
 | none=>rfl
 | some u=>exact absurd (Nat.lt_of_lt_of_le (x.lt q) e) (Nat.lt_irrefl _)
theorem HOk.kept (x:HOk P w H h) (k:∀b u,h.get? b=some u→h'.get? b=some u):HOk P w H h':=fun a o e=>
 (x a o e).stay (fun b u _ q=>k b u q) (fun _ q=>q) fun _ _ q=>q
theorem HOk.laid (x:HOk P w H h) (k:∀b u,h.get? b=some u→h'.get? b=some u) (hp:h.objs.size≤a) (new:ObjOk P w (upd H a o) h' a o):HOk P w (upd H a o) h':=fun b u e=>by
 have hn:=x.fresh hp
 by_cases hb:b=a
 ·subst hb;rw [upd_same] at e;cases e;exact new
 ·rw [upd_ne hb] at e
  exact (x b u e).stay (fun c v _ q=>k c v q) (fun c q=>by rw [upd_ne (ne_of_none q hn)];exact q) fun c xs q=>by rw [upd_ne (ne_of_none q hn)];exact q
end

noncomputable def Rd (H:Hp) (a:Addr) (u:HO):Prop:=H a=some u∨∃o,H a=some (.frz o u)
theorem Rd.ok {P:Program} {w:World} {H:Hp} {h:Heap} {a:Addr} {u:HO} (r:Rd H a u) (x:HOk P w H h):ObjOk P w H h a u:=by
 rcases r with r | ⟨o,r⟩
 ·exact x a u r
 ·obtain ⟨_,q⟩:=x a _ r
  exact q
noncomputable def Mut:Option HO→Prop
 | some (.lst _)=>True
 | some (.dK _)=>True
 | some (.dT _)=>True
 | some (.set _ _)=>True
 | some (.ins _ _ _)=>True
 | some (.ext _)=>True
 | _=>False
section
variable {P:Program} {w:World} {H:Hp} {h h':Heap} {x e:Addr} {o':HO}
theorem HOk.write (ok:HOk P w H h) (mu:Mut (H x)) (he:e=x∨H e=some (.own x)) (k:∀b u,b≠e→h.get? b=some u→h'.get? b=some u) (heo:∃u,h'.get? e=some u)
 (new:ObjOk P w (upd H x o') h' x o'):HOk P w (upd H x o') h':=fun b u q=>by
 have nown:∀c y,H c=some (.own y)→c≠x:=fun c y r z=>by subst z;rw [r] at mu;exact mu
 have ntup:∀c xs,H c=some (.tup xs)→c≠x:=fun c xs r z=>by subst z;rw [r] at mu;exact mu
 by_cases hb:b=x
 ·subst hb;rw [upd_same] at q;cases q;exact new
 ·rw [upd_ne hb] at q
  by_cases hbe:b=e
  ·have q':H b=some (.own x):=by
    rcases he with z | z
    ·exact absurd (hbe.trans z) hb
    ·rw [hbe];exact z
   rw [q] at q';cases q'
   obtain ⟨v,hv⟩:=heo
   exact ⟨v,by rw [hbe];exact hv⟩
  ·refine (ok b u q).stay (fun c v hc r=>k c v ?_ r) (fun c r=>by rw [upd_ne (nown c b r)];exact r) fun c xs r=>by rw [upd_ne (ntup c xs r)];exact r
   rcases hc with rfl | hc
   ·exact hbe
   ·rintro rfl
    rcases he with z | z
    ·exact nown c b hc z
    ·rw [hc] at z;cases z;exact hb rfl
end

structure Un (fs ex:List Addr) (H H':Hp) (h h':Heap):Prop where
 keep:∀b o,h.get? b=some o→H b=none→b∉fs→b∉ex→h'.get? b=some o
 slot:∀b o,h.get? b=some o→H b=none→b∈fs→b∉ex→∃sl,h'.get? b=some { o with slots:=sl }
 free:∀b o,h.get? b=some o→H b=none→b∉ex→H' b=none
 there:∀b o,h.get? b=some o→b∉ex→∃o',h'.get? b=some o'
 tups:∀b xs,H b=some (.tup xs)→H' b=some (.tup xs)
 frzs:∀b o u,H b=some (.frz o u)→H' b=some (.frz o u)
 tbls:∀b ps,H b=some (.tbl ps)→∃more,H' b=some (.tbl (ps++more))
section
variable {fs fs' ex ex':List Addr} {H H1 H2:Hp} {h h1 h2 h':Heap} {a x e:Addr} {o:HO}
theorem Un.any (u:Un fs ex H H1 h h1) {b:Addr} {ob:Obj} (q:h.get? b=some ob) (n:H b=none) (hx:b∉ex):∃sl,h1.get? b=some { ob with slots:=sl }:=by
 by_cases hb:b∈fs
 ·exact u.slot b ob q n hb hx
 ·exact ⟨ob.slots,u.keep b ob q n hb hx⟩
theorem Un.kept (k:∀b u,h.get? b=some u→h'.get? b=some u):Un fs ex H H h h':=
 ⟨fun b ob q _ _ _=>k b ob q,fun b ob q _ _ _=>⟨ob.slots,k b ob q⟩,fun _ _ _ n _=>n,fun b ob q _=>⟨ob,k b ob q⟩,fun _ _ q=>q,fun _ _ _ q=>q,fun _ ps q=>⟨#[],by rw [q];simp⟩⟩
theorem Un.refl:Un fs ex H H h h:=Un.kept fun _ _ q=>q
theorem Un.laid (k:∀b u,h.get? b=some u→h'.get? b=some u) (hp:h.objs.size≤a) (hn:H a=none):Un fs ex H (upd H a o) h h' where
 keep:=fun b u q _ _ _=>k b u q
 slot:=fun b u q _ _ _=>⟨u.slots,k b u q⟩
 free:=fun b u q n _=>by rw [upd_ne (Nat.ne_of_lt (Nat.lt_of_lt_of_le (Heap.lt_size q) hp))];exact n
 there:=fun b u q _=>⟨u,k b u q⟩
 tups:=fun b xs q=>by rw [upd_ne (ne_of_none q hn)];exact q
 frzs:=fun b u xs q=>by rw [upd_ne (ne_of_none q hn)];exact q
 tbls:=fun b ps q=>⟨#[],by rw [upd_ne (ne_of_none q hn),q];simp⟩
theorem Un.write (mu:Mut (H x)) (he:e=x∨H e=some (.own x)) (k:∀b u,b≠e→h.get? b=some u→h'.get? b=some u) (heo:∃u,h'.get? e=some u):Un fs ex H (upd H x o) h h':=by
 have hx:∀b,H b=none→b≠x:=fun b n z=>by subst z;rw [n] at mu;exact mu
 have hb:∀b,H b=none→b≠e:=fun b n z=>by
  subst z
  rcases he with r | r
  ·exact hx b n r
  ·rw [n] at r;cases r
 have hm:∀b u,H b=some u→¬Mut (some u)→b≠x:=fun b u q nm z=>by subst z;rw [q] at mu;exact nm mu
 refine ⟨fun b u q n _ _=>k b u (hb b n) q,fun b u q n _ _=>⟨u.slots,k b u (hb b n) q⟩,fun b u q n _=>by rw [upd_ne (hx b n)];exact n,fun b u q _=>?_,
  fun b xs q=>by rw [upd_ne (hm b _ q fun z=>z)];exact q,fun b u xs q=>by rw [upd_ne (hm b _ q fun z=>z)];exact q,fun b ps q=>⟨#[],by rw [upd_ne (hm b _ q fun z=>z),q];simp⟩⟩
 by_cases hbe:b=e
 ·subst hbe;exact heo
 ·exact ⟨u,k b u hbe q⟩
end

noncomputable def trk (h:Heap) (H:Hp):List Addr:=(List.range h.objs.size).filter fun a=>(H a).isSome
noncomputable def hidT (h:Heap) (H:Hp):Heap:=PySem.W.hideAll h (trk h H)
theorem hidT_size (h:Heap) (H:Hp):(hidT h H).objs.size=h.objs.size:=PySem.W.hideAll_size _ _
theorem hidT_get {h:Heap} {H:Hp} {b:Addr} {o:Obj} (e:h.get? b=some o) (n:H b=none):(hidT h H).get? b=some o:=
 PySem.W.hideAll_get _ e fun hm=>by
  have q:(H b).isSome=true:=(List.mem_filter.mp hm).2
  rw [n] at q;simp at q
theorem of_hidT {h:Heap} {H:Hp} {b:Addr} {o:Obj} (e:(hidT h H).get? b=some o):h.get? b=some o∧H b=none:=by
 have e':h.get? b=some o:=PySem.W.of_hideAll (trk h H) e
 refine ⟨e',?_⟩
 cases q:H b with
 | none=>rfl
 | some x=>
   have hm:b∈trk h H:=List.mem_filter.mpr ⟨List.mem_range.mpr (Heap.lt_size e'),by simp [q]⟩
   have z:(hidT h H).get? b=none:=PySem.W.hideAll_none (trk h H) hm
   rw [z] at e;cases e

end L2

namespace L2
open PySem PySem.Spec PyProof.Rows

structure Mod (K:PySem.W.Frag) (mg:Str→Option Value) (base:Heap):Prop where
 kin:K.In base
 glob:base.Ns mainGlobals mg
 blt:∃mb,base.Ns builtinsNs mb∧∀x:Str,x ≠ "__name__"→mb x=bootBuiltins x
 nolimit:base.NoLimit

structure Cx where
 prog:Program
 w:World
 K:PySem.W.Frag
 mg:Str→Option Value
 base:Heap
 A:Around
 N:List Str
 s₀:Shared
 H₀:Hp
 env:Env
 outer:List Env
 stack:List Env
 ex:List Addr
 fn:Str→Bool
 calm:Bool
 pn:List (Addr×Obj)
 xe:Value→Shared→Prop
noncomputable def frs (l:List Env):List Addr:=l.filterMap (·.frame)
noncomputable abbrev Cx.fs (X:Cx):List Addr:=frs X.outer

noncomputable def Vis (sc:Scope) (x:Str):Prop:=sc.names.lookup x=some .local∨sc.names.lookup x=some .cell∨sc.names.lookup x=some .free
noncomputable def Loc (sc:Scope) (x:Str):Prop:=sc.names.lookup x=some .local∨sc.names.lookup x=some .cell
noncomputable def Look (env:Env) (h:Heap) (m:Str→Option Value) (x:Str) (u:Value):Prop:=
 (env.kindOf x=some .local∧m x=some u)∨((env.kindOf x=some .cell∨env.kindOf x=some .free)∧∃c,env.cells.lookup x=some c∧h.IsCell c (some u))

structure Cx.Ok (X:Cx):Prop where
 mod:Mod X.K X.mg X.base
 kind:X.env.scope.kind=.function
 glob:X.env.globals=mainGlobals
 blt:X.env.builtins=builtinsNs
 above:X.s₀.heap.objs.size≤X.env.locals
 inj:∀x y c,X.env.cells.lookup x=some c→X.env.cells.lookup y=some c→x=y
 has:∀x,(X.env.kindOf x=some .cell∨X.env.kindOf x=some .free)→∃c,X.env.cells.lookup x=some c
 cab:∀x c,X.fn x=true→X.env.cells.lookup x=some c→X.s₀.heap.objs.size≤c
 hd:X.calm=true→X.A.handled=none
 frames:X.A.frames=some X.stack
 stk:X.stack=X.outer∨(X.stack=X.env::X.outer∧X.env.frame=some X.env.locals)
 exf:∀b∈X.ex,b≠X.env.locals∧∀x c,X.env.cells.lookup x=some c→c≠b
 bs:∀b o,X.base.get? b=some o→X.s₀.heap.get? b=some o∧X.H₀ b=none
 bsz:X.base.objs.size≤X.s₀.heap.objs.size
 noex:∀b o,X.base.get? b=some o→b∉X.ex
 exfs:∀b∈X.ex,b∉X.fs
 funs:X.s₀.heap.FunFrames X.base X.outer
 frf:∀b∈X.fs,X.H₀ b=none

structure Inv (X:Cx) (pins:List (Addr×Obj)) (σ:List (Option V)) (H:Hp) (s:Shared):Prop where
 ok:X.Ok
 os:s.os=X.s₀.os
 bare:AllBare s.gens
 base:Un X.fs X.ex X.H₀ H X.s₀.heap s.heap
 loc:∃m,s.heap.Ns X.env.locals m∧∀(i:Nat) (x:Str) (v:V),X.N[i]?=some x→σ[i]?=some (some v)→Vis X.env.scope x→∃u,RelV v u∧Look X.env s.heap m x u
 cell:∀x c,X.env.cells.lookup x=some c→∃v,s.heap.IsCell c v
 free:H X.env.locals=none
 freeC:∀x c,X.env.cells.lookup x=some c→H c=none
 pin:∀p∈X.pn++pins,s.heap.get? p.1=some p.2∧H p.1=none∧p.1≠X.env.locals∧p.1∉X.fs∧∀v,p.2.data≠.cell v
 hok:HOk X.prog X.w H s.heap
 len:σ.length=X.N.length

section
variable {X:Cx} {pins:List (Addr×Obj)} {σ:List (Option V)} {H H':Hp} {s:Shared} {h':Heap}

theorem Cx.Ok.nofr (ok:X.Ok) {b:Addr} {o:Obj} (e:X.base.get? b=some o):b∉X.fs:=fun hb=>by
 have:=(ok.funs.mem hb).1
 rw [e] at this;cases this
theorem Inv.bs (I:Inv X pins σ H s):∀b o,X.base.get? b=some o→s.heap.get? b=some o∧H b=none:=fun b o e=>
 ⟨I.base.keep b o (I.ok.bs b o e).1 (I.ok.bs b o e).2 (I.ok.nofr e) (I.ok.noex b o e),I.base.free b o (I.ok.bs b o e).1 (I.ok.bs b o e).2 (I.ok.noex b o e)⟩
theorem Inv.bk (I:Inv X pins σ H s):∀b o,X.base.get? b=some o→s.heap.get? b=some o:=fun b o e=>(I.bs b o e).1
theorem Inv.mod (I:Inv X pins σ H s):Mod X.K X.mg X.base:=I.ok.mod
theorem Inv.kIn (I:Inv X pins σ H s):X.K.In s.heap:=I.ok.mod.kin.keeps I.bk
theorem Inv.lt (I:Inv X pins σ H s):X.env.locals<s.heap.objs.size:=let ⟨_,hn,_⟩:=I.loc;hn.lt
theorem Inv.sz (I:Inv X pins σ H s):X.s₀.heap.objs.size≤s.heap.objs.size:=Nat.le_trans I.ok.above (Nat.le_of_lt I.lt)
theorem Inv.nofs (I:Inv X pins σ H s) {a:Addr} (h:s.heap.objs.size≤a):a∉X.fs:=fun hb=>by
 obtain ⟨_,o,ho,_⟩:=I.ok.funs.mem hb
 exact absurd (Nat.lt_of_lt_of_le (Heap.lt_size ho) (Nat.le_trans I.sz h)) (Nat.lt_irrefl _)
theorem Inv.cne (I:Inv X pins σ H s):∀x c,X.env.cells.lookup x=some c→c≠X.env.locals:=fun x c e z=>by
 obtain ⟨v,o,ho,hd⟩:=I.cell x c e
 obtain ⟨m,⟨o',es,ep,ho',hd',_⟩,_⟩:=I.loc
 rw [z,ho'] at ho;cases ho;rw [hd'] at hd;cases hd
theorem Inv.funs (I:Inv X pins σ H s):s.heap.FunFrames X.base X.outer:=by
 have all:∀(l:List Env),(∀b∈frs l,b∈X.fs)→X.s₀.heap.FunFrames X.base l→s.heap.FunFrames X.base l:=by
  intro l
  induction l with
  | nil=>intro _ _;trivial
  | cons env r ih=>
    intro hs hl
    obtain ⟨hk,⟨L,o,hf,hn,ho,hd⟩,hr⟩:=hl
    have hL:L∈X.fs:=hs L (by unfold frs;rw [List.filterMap_cons,hf];exact List.mem_cons_self)
    obtain ⟨sl,e⟩:=I.base.slot L o ho (I.ok.frf L hL) hL fun z=>I.ok.exfs L z hL
    exact ⟨hk,⟨L,_,hf,hn,e,hd⟩,ih (fun b hb=>hs b (by unfold frs;rw [List.filterMap_cons,hf];exact List.mem_cons_of_mem _ hb)) hr⟩
 exact all X.outer (fun _ hb=>hb) I.ok.funs

theorem Inv.stack (I:Inv X pins σ H s):s.heap.FunFrames X.base X.stack:=by
 rcases I.ok.stk with e | ⟨e,hf⟩
 ·rw [e];exact I.funs
 ·rw [e]
  obtain ⟨m,hn,_⟩:=I.loc
  refine .cons (by rw [I.ok.kind];decide) hf hn ?_ I.funs
  exact Heap.get?_none_of_le (Nat.le_trans I.ok.bsz I.ok.above)
theorem Inv.stkSub (I:Inv X pins σ H s):∀b∈frs X.stack,b∈X.env.locals::X.fs:=fun b hb=>by
 rcases I.ok.stk with e | ⟨e,hf⟩
 ·rw [e] at hb;exact List.mem_cons_of_mem _ hb
 ·rw [e] at hb
  unfold frs at hb
  rw [List.filterMap_cons,hf] at hb
  exact hb
theorem Inv.stkFree (I:Inv X pins σ H s):∀b∈frs X.stack,H b=none:=fun b hb=>by
 rcases List.mem_cons.mp (I.stkSub b hb) with e | hb
 ·rw [e];exact I.free
 ·obtain ⟨_,o,ho,_⟩:=I.ok.funs.mem hb
  exact I.base.free b o ho (I.ok.frf b hb) fun z=>I.ok.exfs b z hb

theorem Inv.step {g':Array GenState} {t':Nat} {d':Drawn} {ch:List Addr} (I:Inv X pins σ H s)
 (hch:∀b∈ch,(b∈X.ex∨X.s₀.heap.objs.size≤b)∧b≠X.env.locals∧(∀x c,X.env.cells.lookup x=some c→c≠b)∧∀p∈X.pn++pins,p.1≠b)
 (keep:∀b o,b≠X.env.locals→b∉X.fs→b∉ch→s.heap.get? b=some o→H b=none→h'.get? b=some o)
 (slot:∀b o,b≠X.env.locals→b∈X.fs→b∉ch→s.heap.get? b=some o→H b=none→∃sl,h'.get? b=some { o with slots:=sl }) (free:∀b o,b∉ch→s.heap.get? b=some o→H b=none→H' b=none)
 (there:∀b o,b∉ch→s.heap.get? b=some o→∃o',h'.get? b=some o')
 (tups:∀b xs,H b=some (.tup xs)→H' b=some (.tup xs)) (frzs:∀b o u,H b=some (.frz o u)→H' b=some (.frz o u)) (tbls:∀b ps,H b=some (.tbl ps)→∃more,H' b=some (.tbl (ps++more)))
 (ns:∀m,s.heap.Ns X.env.locals m→h'.Ns X.env.locals m) (hok:HOk X.prog X.w H' h') (hg:AllBare g') :
 Inv X pins σ H' { s with heap:=h',gens:=g',drawn:=d',toks:=t' }:=by
 have neL:∀b o,X.s₀.heap.get? b=some o→b≠X.env.locals:=fun b o e=>Nat.ne_of_lt (Nat.lt_of_lt_of_le (Heap.lt_size e) I.ok.above)
 have neC:∀b o,X.s₀.heap.get? b=some o→b∉X.ex→b∉ch:=fun b o e hx hb=>by
  rcases (hch b hb).1 with z | z
  ·exact hx z
  ·exact absurd (Nat.lt_of_lt_of_le (Heap.lt_size e) z) (Nat.lt_irrefl _)
 have cellK:∀x c,X.env.cells.lookup x=some c→∀v,s.heap.IsCell c v→h'.IsCell c v:=fun x c e v ⟨o,ho,hd⟩=>by
  have nch:c∉ch:=fun z=>(hch c z).2.2.1 x c e rfl
  by_cases hc:c∈X.fs
  ·obtain ⟨sl,q⟩:=slot c o (I.cne x c e) hc nch ho (I.freeC x c e)
   exact ⟨_,q,hd⟩
  ·exact ⟨o,keep c o (I.cne x c e) hc nch ho (I.freeC x c e),hd⟩
 refine ⟨I.ok,I.os,hg,⟨fun b o e n hb hx=>?_,fun b o e n hb hx=>?_,fun b o e n hx=>?_,fun b o e hx=>?_,fun b xs e=>tups b xs (I.base.tups b xs e),fun b o xs e=>frzs b o xs (I.base.frzs b o xs e),fun b ps e=>?_⟩,?_,fun x c e=>?_,?_,fun x c e=>?_,fun p hp=>?_,hok,I.len⟩
 ·exact keep b o (neL b o e) hb (neC b o e hx) (I.base.keep b o e n hb hx) (I.base.free b o e n hx)
 ·obtain ⟨sl,e1⟩:=I.base.slot b o e n hb hx
  obtain ⟨sl',e2⟩:=slot b _ (neL b o e) hb (neC b o e hx) e1 (I.base.free b o e n hx)
  exact ⟨sl',e2⟩
 ·obtain ⟨o',e1⟩:=I.base.there b o e hx
  exact free b o' (neC b o e hx) e1 (I.base.free b o e n hx)
 ·obtain ⟨o',e1⟩:=I.base.there b o e hx
  exact there b o' (neC b o e hx) e1
 ·obtain ⟨m1,e1⟩:=I.base.tbls b ps e
  obtain ⟨m2,e2⟩:=tbls b _ e1
  exact ⟨m1++m2,by rw [e2,Array.append_assoc]⟩
 ·obtain ⟨m,hn,hl⟩:=I.loc
  refine ⟨m,ns m hn,fun i x v e1 e2 e3=>?_⟩
  obtain ⟨u,r,l⟩:=hl i x v e1 e2 e3
  refine ⟨u,r,?_⟩
  rcases l with l | ⟨k,c,e,z⟩
  ·exact .inl l
  ·exact .inr ⟨k,c,e,cellK x c e _ z⟩
 ·obtain ⟨v,z⟩:=I.cell x c e
  exact ⟨v,cellK x c e v z⟩
 ·obtain ⟨m,⟨o,_,_,ho,_⟩,_⟩:=I.loc
  exact free _ o (fun z=>(hch _ z).2.1 rfl) ho I.free
 ·obtain ⟨v,o,ho,hd⟩:=I.cell x c e
  exact free c o (fun z=>(hch c z).2.2.1 x c e rfl) ho (I.freeC x c e)
 ·obtain ⟨e,n,ne,nf,d⟩:=I.pin p hp
  have nch:p.1∉ch:=fun z=>(hch p.1 z).2.2.2 p hp rfl
  exact ⟨keep p.1 p.2 ne nf nch e n,free p.1 p.2 nch e n,ne,nf,d⟩
theorem Inv.un {t':Nat} (I:Inv X pins σ H s) (u:Un X.fs [] H H' s.heap h') (hok:HOk X.prog X.w H' h'):Inv X pins σ H' { s with heap:=h',toks:=t' }:=by
 obtain ⟨m,⟨o,es,ep,ho,r⟩,_⟩:=id I.loc
 obtain ⟨sl,hL⟩:=u.any ho I.free (by simp)
 exact I.step (g':=s.gens) (d':=s.drawn) (ch:=[]) (fun _ z=>nomatch z) (fun b o _ hb _ e n=>u.keep b o e n hb (by simp)) (fun b o _ hb _ e n=>u.slot b o e n hb (by simp)) (fun b o _ e n=>u.free b o e n (by simp)) (fun b o _ e=>u.there b o e (by simp)) u.tups u.frzs u.tbls (fun m' hm=>by
  obtain ⟨o',es',ep',ho',r'⟩:=hm
  rw [ho] at ho';cases ho'
  exact ⟨_,es',ep',hL,r'⟩) hok I.bare
theorem Inv.call {g':Array GenState} {t':Nat} {d':Drawn} {ch:List Addr} (I:Inv X pins σ H s) (u:Un (frs X.stack) ch H H' s.heap h') (hok:HOk X.prog X.w H' h') (hg:AllBare g')
 (hch:∀b∈ch,(b∈X.ex∨X.s₀.heap.objs.size≤b)∧b≠X.env.locals∧(∀x c,X.env.cells.lookup x=some c→c≠b)∧∀p∈X.pn++pins,p.1≠b) :
 Inv X pins σ H' { s with heap:=h',gens:=g',drawn:=d',toks:=t' }:=by
 obtain ⟨m,⟨o,es,ep,ho,r⟩,_⟩:=id I.loc
 obtain ⟨sl,hL⟩:=u.any ho I.free fun z=>(hch _ z).2.1 rfl
 exact I.step (ch:=ch) hch (fun b o hL hb hc e n=>u.keep b o e n (fun z=>(List.mem_cons.mp (I.stkSub b z)).elim hL hb) hc) (fun b o _ _ hc e n=>u.any e n hc) (fun b o hc e n=>u.free b o e n hc) (fun b o hc e=>u.there b o e hc) u.tups u.frzs u.tbls (fun m' hm=>by
  obtain ⟨o',es',ep',ho',r'⟩:=hm
  rw [ho] at ho';cases ho'
  exact ⟨_,es',ep',hL,r'⟩) hok hg
theorem Inv.turned {t':Nat} {it:Addr} (I:Inv X pins σ H s) (k:∀b o,b≠it→s.heap.get? b=some o→h'.get? b=some o) (hn:H it=none) (hL:it≠X.env.locals)
 (h1:it∈X.ex∨X.s₀.heap.objs.size≤it) (h2:∀x c,X.env.cells.lookup x=some c→c≠it) (h3:∀p∈X.pn++pins,p.1≠it):Inv X pins σ H { s with heap:=h',toks:=t' }:=by
 have nit:∀b u,H b=some u→b≠it:=fun b u e z=>by rw [z,hn] at e;cases e
 refine I.step (g':=s.gens) (d':=s.drawn) (ch:=[it]) (fun b hb=>?_) (fun b o _ _ hc e _=>k b o (fun z=>hc (by simp [z])) e) (fun b o _ _ hc e _=>⟨o.slots,k b o (fun z=>hc (by simp [z])) e⟩) (fun _ _ _ _ n=>n)
  (fun b o hc e=>⟨o,k b o (fun z=>hc (by simp [z])) e⟩) (fun _ _ e=>e) (fun _ _ _ e=>e) (fun b ps e=>⟨#[],by rw [e];simp⟩) (fun m hm=>?_) (fun b u e=>?_) I.bare
 ·have e:b=it:=by simpa using hb
  subst e
  exact ⟨h1,hL,h2,h3⟩
 ·obtain ⟨o,es,ep,ho,r⟩:=hm
  exact ⟨o,es,ep,k _ o (Ne.symm hL) ho,r⟩
 ·refine (I.hok b u e).stay (fun c v hc q=>k c v ?_ q) (fun _ q=>q) fun _ _ q=>q
  rcases hc with z | z
  ·rw [z];exact nit b u e
  ·exact nit c _ z
theorem Inv.tok (I:Inv X pins σ H s) (t:Nat):Inv X pins σ H { s with toks:=t }:=I.un (h':=s.heap) (t':=t) Un.refl I.hok
theorem Inv.kept {t':Nat} (I:Inv X pins σ H s) (k:∀b u,s.heap.get? b=some u→h'.get? b=some u):Inv X pins σ H { s with heap:=h',toks:=t' }:=I.un (Un.kept k) (I.hok.kept k)
theorem Inv.laid {a:Addr} {o:HO} {t':Nat} (I:Inv X pins σ H s) (k:∀b u,s.heap.get? b=some u→h'.get? b=some u) (hp:s.heap.objs.size≤a) (new:ObjOk X.prog X.w (upd H a o) h' a o) :
 Inv X pins σ (upd H a o) { s with heap:=h',toks:=t' }:=I.un (Un.laid k hp (I.hok.fresh hp)) (I.hok.laid k hp new)
theorem Inv.write {x e:Addr} {o:HO} {t':Nat} (I:Inv X pins σ H s) (mu:Mut (H x)) (he:e=x∨H e=some (.own x)) (k:∀b u,b≠e→s.heap.get? b=some u→h'.get? b=some u) (heo:∃u,h'.get? e=some u)
 (new:ObjOk X.prog X.w (upd H x o) h' x o):Inv X pins σ (upd H x o) { s with heap:=h',toks:=t' }:=I.un (Un.write mu he k heo) (I.hok.write mu he k heo new)
theorem Inv.pins_of {pins':List (Addr×Obj)} (I:Inv X pins σ H s) (h:∀p∈pins',s.heap.get? p.1=some p.2∧H p.1=none∧p.1≠X.env.locals∧p.1∉X.fs∧∀v,p.2.data≠.cell v):Inv X pins' σ H s:=
 ⟨I.ok,I.os,I.bare,I.base,I.loc,I.cell,I.free,I.freeC,fun p hp=>(List.mem_append.mp hp).elim (fun z=>I.pin p (List.mem_append_left _ z)) (h p),I.hok,I.len⟩

theorem nodup_ix {N:List Str} (hN:N.Nodup) {i j:Nat} {x:Str} (a:N[i]?=some x) (b:N[j]?=some x):i=j:=by
 obtain ⟨h1,e1⟩:=List.getElem?_eq_some_iff.mp a
 obtain ⟨h2,e2⟩:=List.getElem?_eq_some_iff.mp b
 exact (List.getElem_inj hN).mp (e1.trans e2.symm)

theorem store_ok2 {M:Model} {A:Around} {E:Value→Shared→Prop} {i:Nat} {x:Str} {v:V} {u:Value} {Q:Unit→Shared→Prop} (I:Inv X pins σ H s) (hN:X.N.Nodup) (hi:X.N[i]?=some x) (hx:Loc X.env.scope x) (r:RelV v u)
 (h:∀s',Inv X pins (σ.set i (some v)) H s'→(∃a,Heap.SameBut a s.heap s'.heap∧(a=X.env.locals∨X.env.cells.lookup x=some a))→Q () s') (hf:X.fn x=true∨X.env.scope.names.lookup x=some .local:=by first | exact .inl rfl | exact .inr rfl | assumption):wpAny M A (storeName X.env x u) Q E s:=by
 obtain ⟨m,hn,hl⟩:=id I.loc
 have hcls:(X.env.scope.kind==.class||(X.env.scope.kind==.module&&X.env.locals != X.env.globals))=false:=by rw [I.ok.kind];rfl
 have hiσ:i<σ.length:=by rw [I.len];exact (List.getElem?_eq_some_iff.mp hi).1
 have cne:=I.cne
 have tracked:∀{a:Addr} {h':Heap},(∃o,s.heap.get? a=some o∧H a=none)→Heap.SameBut a s.heap h'→HOk X.prog X.w H h':=fun {a h'} ha hs b ob e=>by
  obtain ⟨_,_,hfree⟩:=ha
  refine (I.hok b ob e).stay (fun c w' hc q=>(hs.2 c ?_).trans q) (fun _ q=>q) fun _ _ q=>q
  rintro rfl
  rcases hc with rfl | hc
  ·rw [hfree] at e;cases e
  ·rw [hfree] at hc;cases hc
 rcases hx with hk | hk
 ·refine wpAny_storeName_local hk hn (fun h' hn' hs=>?_) hcls
  obtain ⟨oL,_,_,hoL,_⟩:=id hn
  refine h _ ⟨I.ok,I.os,I.bare,⟨fun b o e n hb hx=>?_,fun b o e n hb hx=>?_,I.base.free,fun b o e hx=>?_,I.base.tups,I.base.frzs,I.base.tbls⟩,⟨_,hn',fun j y v' e1 e2 e3=>?_⟩,fun y c e=>?_,I.free,I.freeC,fun p hp=>?_,tracked ⟨oL,hoL,I.free⟩ hs,by simpa using I.len⟩ ⟨_,hs,.inl rfl⟩
  ·exact (hs.2 b (Nat.ne_of_lt (Nat.lt_of_lt_of_le (Heap.lt_size e) I.ok.above))).trans (I.base.keep b o e n hb hx)
  ·obtain ⟨sl,e1⟩:=I.base.slot b o e n hb hx
   exact ⟨sl,(hs.2 b (Nat.ne_of_lt (Nat.lt_of_lt_of_le (Heap.lt_size e) I.ok.above))).trans e1⟩
  ·obtain ⟨o',e1⟩:=I.base.there b o e hx
   exact ⟨o',(hs.2 b (Nat.ne_of_lt (Nat.lt_of_lt_of_le (Heap.lt_size e) I.ok.above))).trans e1⟩
  ·by_cases hj:j=i
   ·subst hj
    rw [hi] at e1;cases e1
    rw [List.getElem?_set_self hiσ] at e2
    cases e2
    exact ⟨u,r,.inl ⟨hk,by simp⟩⟩
   ·rw [List.getElem?_set_ne (Ne.symm hj)] at e2
    obtain ⟨u',r',q⟩:=hl j y v' e1 e2 e3
    refine ⟨u',r',?_⟩
    rcases q with ⟨k,e⟩ | ⟨k,c,e,z⟩
    ·refine .inl ⟨k,?_⟩
     have:y≠x:=fun e=>hj (nodup_ix hN e1 (e▸hi))
     simp [this,e]
    ·exact .inr ⟨k,c,e,z.sameBut hs (cne y c e)⟩
  ·obtain ⟨w',z⟩:=I.cell y c e
   exact ⟨w',z.sameBut hs (cne y c e)⟩
  ·obtain ⟨e,n,ne,nf,d⟩:=I.pin p hp
   exact ⟨(hs.2 p.1 ne).trans e,n,ne,nf,d⟩
 ·have hfn:X.fn x=true:=by
   rcases hf with z | z
   ·exact z
   ·rw [z] at hk;cases hk
  obtain ⟨c,hc⟩:=I.ok.has x (.inl hk)
  obtain ⟨w',z⟩:=I.cell x c hc
  refine wpAny_storeName_cell I.ok.kind hk hc z (fun h' hc' hs=>?_)
  obtain ⟨oc,hoc,hocd⟩:=id z
  refine h { s with heap:=h' } ⟨I.ok,I.os,I.bare,⟨fun b o e n hb hx=>?_,fun b o e n hb hx=>?_,I.base.free,fun b o e hx=>?_,I.base.tups,I.base.frzs,I.base.tbls⟩,⟨m,hn.sameBut hs (Ne.symm (cne x c hc)),fun j y v' e1 e2 e3=>?_⟩,fun y c' e=>?_,I.free,I.freeC,fun p hp=>?_,tracked ⟨oc,hoc,I.freeC x c hc⟩ hs,by simpa using I.len⟩ ⟨c,hs,.inr hc⟩
  ·exact (hs.2 b (Nat.ne_of_lt (Nat.lt_of_lt_of_le (Heap.lt_size e) (I.ok.cab x c hfn hc)))).trans (I.base.keep b o e n hb hx)
  ·obtain ⟨sl,e1⟩:=I.base.slot b o e n hb hx
   exact ⟨sl,(hs.2 b (Nat.ne_of_lt (Nat.lt_of_lt_of_le (Heap.lt_size e) (I.ok.cab x c hfn hc)))).trans e1⟩
  ·obtain ⟨o',e1⟩:=I.base.there b o e hx
   exact ⟨o',(hs.2 b (Nat.ne_of_lt (Nat.lt_of_lt_of_le (Heap.lt_size e) (I.ok.cab x c hfn hc)))).trans e1⟩
  ·by_cases hj:j=i
   ·subst hj
    rw [hi] at e1;cases e1
    rw [List.getElem?_set_self hiσ] at e2
    cases e2
    exact ⟨u,r,.inr ⟨.inl hk,c,hc,hc'⟩⟩
   ·rw [List.getElem?_set_ne (Ne.symm hj)] at e2
    obtain ⟨u',r',q⟩:=hl j y v' e1 e2 e3
    refine ⟨u',r',?_⟩
    rcases q with q | ⟨k,c',e,z'⟩
    ·exact .inl q
    ·refine .inr ⟨k,c',e,z'.sameBut hs ?_⟩
     rintro rfl
     exact hj (nodup_ix hN e1 (I.ok.inj _ _ _ e hc▸hi))
  ·by_cases hcc:c'=c
   ·subst hcc;exact ⟨_,hc'⟩
   ·obtain ⟨w2,z2⟩:=I.cell y c' e
    exact ⟨w2,z2.sameBut hs hcc⟩
  ·obtain ⟨e,n,ne,nf,d⟩:=I.pin p hp
   refine ⟨(hs.2 p.1 ?_).trans e,n,ne,nf,d⟩
   intro q
   rw [q,hoc] at e
   have q':oc=p.2:=Option.some.inj e
   exact d w' (by rw [← q'];exact hocd)
theorem store_ok {M:Model} {A:Around} {E:Value→Shared→Prop} {i:Nat} {x:Str} {v:V} {u:Value} {Q:Unit→Shared→Prop} (I:Inv X pins σ H s) (hN:X.N.Nodup) (hi:X.N[i]?=some x) (hx:Loc X.env.scope x) (r:RelV v u)
 (h:∀s',Inv X pins (σ.set i (some v)) H s'→Q () s') (hf:X.fn x=true∨X.env.scope.names.lookup x=some .local:=by first | exact .inl rfl | exact .inr rfl | assumption):wpAny M A (storeName X.env x u) Q E s:=
 store_ok2 I hN hi hx r (fun s' I' _=>h s' I') hf
theorem Inv.call' {s':Shared} {ch:List Addr} (I:Inv X pins σ H s) (ho:s'.os=s.os) (u:Un (frs X.stack) ch H H' s.heap s'.heap) (hok:HOk X.prog X.w H' s'.heap) (hg:AllBare s'.gens)
 (hch:∀b∈ch,(b∈X.ex∨X.s₀.heap.objs.size≤b)∧b≠X.env.locals∧(∀x c,X.env.cells.lookup x=some c→c≠b)∧∀p∈X.pn++pins,p.1≠b):Inv X pins σ H' s':=by
 obtain ⟨h',g',d',t',o'⟩:=s'
 have e:o'=s.os:=ho
 subst e
 exact I.call (g':=g') (t':=t') (d':=d') u hok hg hch
end

noncomputable abbrev XK:=Value→Option Addr→Hp→Prop
noncomputable abbrev St:=List (Option V)
noncomputable abbrev VK:=V→Hp→Prop
noncomputable abbrev TE:=St→Hp→VK→Prop
noncomputable abbrev TT:=St→Hp→(Bool→Hp→Prop)→Prop
noncomputable abbrev TA:=St→Hp→(List V→Hp→Prop)→Prop
structure Ends where
 nx:St→Hp→Prop
 rt:VK
 bk:St→Hp→Prop:=fun _ _=>False
 ct:St→Hp→Prop:=fun _ _=>False
noncomputable abbrev TS:=Ends→St→Hp→Prop

noncomputable def EP (X:Cx) (pins:List (Addr×Obj)) (σ:St) (Q:VK) (u:Value) (s':Shared):Prop:=∃v H',Inv X pins σ H' s'∧RelV v u∧Q v H'
noncomputable def TP (X:Cx) (pins:List (Addr×Obj)) (σ:St) (Q:Bool→Hp→Prop) (b:Bool) (s':Shared):Prop:=∃H',Inv X pins σ H' s'∧Q b H'
noncomputable def AP (X:Cx) (pins:List (Addr×Obj)) (σ:St) (Q:List V→Hp→Prop) (us:List Value) (s':Shared):Prop:=∃vs H',Inv X pins σ H' s'∧Vals vs us∧Q vs H'
noncomputable def SP (X:Cx) (pins:List (Addr×Obj)) (D:Ends) (f:Flow) (s':Shared):Prop:=
 match f with
 | .next=>∃σ' H',Inv X pins σ' H' s'∧D.nx σ' H'
 | .brk=>∃σ' H',Inv X pins σ' H' s'∧D.bk σ' H'
 | .cont=>∃σ' H',Inv X pins σ' H' s'∧D.ct σ' H'
 | .ret u=>∃v σ' H',Inv X pins σ' H' s'∧RelV v u∧D.rt v H'

noncomputable def PE (X:Cx) (e:Expr) (t:TE):Prop:=
 ∀(pins:List (Addr×Obj)) (s:Shared) (σ:St) (H:Hp) (Q:VK),Inv X pins σ H s→t σ H Q→wpAny (model X.prog X.w) X.A (eval e X.env) (EP X pins σ Q) X.xe s
noncomputable def PT (X:Cx) (e:Expr) (t:TT):Prop:=
 ∀(pins:List (Addr×Obj)) (s:Shared) (σ:St) (H:Hp) (Q:Bool→Hp→Prop),Inv X pins σ H s→t σ H Q→wpAny (model X.prog X.w) X.A (isTrue e X.env (eval e X.env)) (TP X pins σ Q) X.xe s
noncomputable def PW (X:Cx) (e:Expr) (t:TT):Prop:=
 ∀(whole:Sem Value) (pins:List (Addr×Obj)) (s:Shared) (σ:St) (H:Hp) (Q:Bool→Hp→Prop),Inv X pins σ H s→t σ H Q→wpAny (model X.prog X.w) X.A (isTrue e X.env whole) (TP X pins σ Q) X.xe s
theorem PW.pt {X:Cx} {e:Expr} {t:TT} (h:PW X e t):PT X e t:=h _
noncomputable def PA (X:Cx) (es:List Expr) (t:TA):Prop:=
 ∀(pos:Pos) (pins:List (Addr×Obj)) (s:Shared) (σ:St) (H:Hp) (Q:List V→Hp→Prop),Inv X pins σ H s→t σ H Q→wpAny (model X.prog X.w) X.A (spliced (backTo pos (starEach es X.env))) (AP X pins σ Q) X.xe s
noncomputable def PS (X:Cx) (st:Stmt) (t:TS):Prop:=
 ∀(pins:List (Addr×Obj)) (s:Shared) (σ:St) (H:Hp) (D:Ends),Inv X pins σ H s→t D σ H→wpAny (model X.prog X.w) X.A (exec st X.env) (SP X pins D) X.xe s
noncomputable def PSs (X:Cx) (st:List Stmt) (t:TS):Prop:=
 ∀(pins:List (Addr×Obj)) (s:Shared) (σ:St) (H:Hp) (D:Ends),Inv X pins σ H s→t D σ H→wpAny (model X.prog X.w) X.A (execs st X.env) (SP X pins D) X.xe s
theorem thn {α:Type} {t:Sem α} {Q Q':α→Shared→Prop} {M:Model} {A:Around} {E:Value→Shared→Prop} {s:Shared} (h:wpAny M A t Q E s) (hQ:∀a s,Q a s→Q' a s):wpAny M A t Q' E s:=wpAny_mono h hQ fun _ _ x=>x
end L2

namespace L2
open PySem PySem.Spec PyProof.Rows
section
variable {X:Cx}

noncomputable def tVar (i:Nat):TE:=fun σ H Q=>∃v,σ[i]?=some (some v)∧Q v H
noncomputable def tC (v:V):TE:=fun _ H Q=>Q v H
theorem pe_var {i:Nat} {x:Str} {pos:Pos} (hN:X.N[i]?=some x) (hv:Vis X.env.scope x) (hd:autoParam ((x==("__debug__":Str))=false) au1_._auto_1) (hcd:autoParam ((x==("__classdict__":Str))=false) au1_._auto_1):PE X (.Name x pos) (tVar i):=by
 intro pins s σ H Q I h
 obtain ⟨v,e,h⟩:=h
 obtain ⟨m,hn,hl⟩:=I.loc
 obtain ⟨u,r,l⟩:=hl i x v hN e hv
 have fin:EP X pins σ Q u s:=⟨v,H,I,r,h⟩
 rcases l with ⟨hk,hm⟩ | ⟨hk,c,hc,hcell⟩
 ·exact wpAny_Name (wpAny_loadName_local I.ok.kind hk hn hm fin) hd
 ·rcases hk with hk | hk
  ·exact wpAny_Name (wpAny_loadName_cell I.ok.kind hk hc hcell fin) hd
  ·exact wpAny_Name (wpAny_loadName_free I.ok.kind hk hc hcell fin hcd) hd
theorem pe_int {i j pos}:PE X (.Constant (.int i) j pos) (tC (.int i)):=fun _ _ _ H _ I h=>wpAny_Constant_int ⟨.int i,H,I.tok _,⟨_,rfl⟩,h⟩
theorem pe_bl {b j pos}:PE X (.Constant (.bool b) j pos) (tC (.bl b)):=fun _ _ _ H _ I h=>Constant_bool ⟨.bl b,H,I,rfl,h⟩
theorem pe_non {j pos}:PE X (.Constant .none j pos) (tC .non):=fun _ _ _ H _ I h=>Constant_none ⟨.non,H,I,rfl,h⟩
theorem pe_str {x j pos}:PE X (.Constant (.str x) j pos) (tC (.str x)):=fun _ _ _ H _ I h=>Calls.Constant_str ⟨.str x,H,I.tok _,⟨_,rfl⟩,h⟩

noncomputable def Gl (X:Cx) (x:Str):Prop:=X.env.kindOf x=some .globalImplicit
theorem ld_glob {E:Value→Shared→Prop} {pins:List (Addr×Obj)} {s:Shared} {σ:St} {H:Hp} {x:Str} {u:Value} {pos:Pos} {Q:Value→Shared→Prop} (I:Inv X pins σ H s) (hg:Gl X x) (hm:X.mg x=some u) (h:Q u s)
 (hd:autoParam ((x==("__debug__":Str))=false) au1_._auto_1):wpAny (model X.prog X.w) X.A (eval (.Name x pos) X.env) Q E s:=
 Calls.Name_function_global I.ok.kind hg (Calls.loadGlobal_global (by rw [I.ok.glob];exact I.mod.glob.keeps I.bk) hm h) hd
theorem ld_blt {E:Value→Shared→Prop} {pins:List (Addr×Obj)} {s:Shared} {σ:St} {H:Hp} {x:Str} {u:Value} {pos:Pos} {Q:Value→Shared→Prop} (I:Inv X pins σ H s) (hg:Gl X x) (hm:X.mg x=none) (hv:bootBuiltins x=some u) (h:Q u s)
 (hn:autoParam (x ≠ "__name__") au1_._auto_1) (hd:autoParam ((x==("__debug__":Str))=false) au1_._auto_1):wpAny (model X.prog X.w) X.A (eval (.Name x pos) X.env) Q E s:=by
 obtain ⟨mb,h1,h2⟩:=I.mod.blt
 exact Calls.Name_function_global I.ok.kind hg (Calls.loadGlobal_builtin (by rw [I.ok.glob];exact I.mod.glob.keeps I.bk) hm (by rw [I.ok.blt];exact h1.keeps I.bk) ((h2 x hn).trans hv) h) hd
theorem pe_glob {x:Str} {v:V} {u:Value} {pos:Pos} (hg:Gl X x) (hm:X.mg x=some u) (r:RelV v u) (hd:autoParam ((x==("__debug__":Str))=false) au1_._auto_1):PE X (.Name x pos) (tC v):=
 fun _ _ _ H _ I h=>ld_glob I hg hm ⟨v,H,I,r,h⟩ hd
theorem pe_bltn {x:Str} {v:V} {u:Value} {pos:Pos} (hg:Gl X x) (hm:X.mg x=none) (hv:bootBuiltins x=some u) (r:RelV v u) (hn:autoParam (x ≠ "__name__") au1_._auto_1) (hd:autoParam ((x==("__debug__":Str))=false) au1_._auto_1):PE X (.Name x pos) (tC v):=
 fun _ _ _ H _ I h=>ld_blt I hg hm hv ⟨v,H,I,r,h⟩ hn hd

variable {a b:Expr} {ta tb:TE} {pos:Pos}
noncomputable def tB (t:TE):TT:=fun σ H Q=>t σ H fun x H1=>∃c,x=.bl c∧Q c H1
theorem pt_val {e:Expr} {t:TE} (h:PE X e t) (he:autoParam (∀whole,isTrue e X.env whole=(do let v ← whole;standAt e.pos;holding [v] (truthy v))) au2_._auto_1):PT X e (tB t):=by
 intro pins s σ H Q I hw
 refine isTrue_plain (thn (h pins s σ H _ I hw) fun v s1 ⟨x,H1,I1,r1,q1⟩=>?_) (he _)
 obtain ⟨d,rfl,q⟩:=q1
 cases r1
 exact wpAny_truthy_bool ⟨H1,I1,q⟩

variable {tA tB':TT} {rest:List Expr}
noncomputable def tAnd (t u:TT):TT:=fun σ H Q=>t σ H fun c H1=>if c=true then u σ H1 Q else Q false H1
noncomputable def tOr (t u:TT):TT:=fun σ H Q=>t σ H fun c H1=>if c=true then Q true H1 else u σ H1 Q
noncomputable def tNot (t:TT):TT:=fun σ H Q=>t σ H fun c H1=>Q (!c) H1
theorem pw_and1 (ha:PT X a tA):PW X (.BoolOp .And [a] pos) tA:=by
 intro wh pins s σ H Q I h
 refine isTrue_and (thn (ha pins s σ H Q I h) fun c s1 e=>?_)
 cases c with
 | true=>exact isTrue_and_nil e
 | false=>exact e
theorem pw_or1 (ha:PT X a tA):PW X (.BoolOp .Or [a] pos) tA:=by
 intro wh pins s σ H Q I h
 refine isTrue_or (thn (ha pins s σ H Q I h) fun c s1 e=>?_)
 cases c with
 | false=>exact isTrue_or_nil e
 | true=>exact e
theorem pw_and (ha:PT X a tA) (hb:PW X (.BoolOp .And (b::rest) pos) tB'):PW X (.BoolOp .And (a::b::rest) pos) (tAnd tA tB'):=by
 intro wh pins s σ H Q I h
 refine isTrue_and (thn (ha pins s σ H _ I h) fun c s1 ⟨H1,I1,q1⟩=>?_)
 cases c with
 | true=>exact hb wh pins s1 σ H1 Q I1 q1
 | false=>exact ⟨H1,I1,q1⟩
theorem pw_or (ha:PT X a tA) (hb:PW X (.BoolOp .Or (b::rest) pos) tB'):PW X (.BoolOp .Or (a::b::rest) pos) (tOr tA tB'):=by
 intro wh pins s σ H Q I h
 refine isTrue_or (thn (ha pins s σ H _ I h) fun c s1 ⟨H1,I1,q1⟩=>?_)
 cases c with
 | true=>exact ⟨H1,I1,q1⟩
 | false=>exact hb wh pins s1 σ H1 Q I1 q1
theorem pt_not (ha:PT X a tA):PT X (.UnaryOp .Not a pos) (tNot tA):=by
 intro pins s σ H Q I h
 exact isTrue_not (ha pins s σ H (fun c H1=>Q (!c) H1) I h)
noncomputable def tAndV (ta tb:TE):TE:=fun σ H Q=>ta σ H fun x H1=>∃c,x=.bl c∧if c=true then tb σ H1 Q else Q (.bl false) H1
noncomputable def tOrV (ta tb:TE):TE:=fun σ H Q=>ta σ H fun x H1=>∃c,x=.bl c∧if c=true then Q (.bl true) H1 else tb σ H1 Q
noncomputable def tNotV (ta:TE):TE:=fun σ H Q=>ta σ H fun x H1=>∃c,x=.bl c∧Q (.bl (!c)) H1
theorem pe_one {op} {t:TE} (h:PE X a t):PE X (.BoolOp op [a] pos) t:=fun pins s σ H Q I hw=>BoolOp_one (h pins s σ H Q I hw)
theorem pe_and (ha:PE X a ta) (hb:PE X (.BoolOp .And (b::rest) pos) tb):PE X (.BoolOp .And (a::b::rest) pos) (tAndV ta tb):=by
 intro pins s σ H Q I h
 refine BoolOp_and (thn (ha pins s σ H _ I h) fun v s1 ⟨x,H1,I1,r1,q1⟩=>?_)
 obtain ⟨c,rfl,q1⟩:=q1
 cases r1
 refine wpAny_truthy_bool ?_
 cases c with
 | true=>exact hb pins s1 σ H1 Q I1 q1
 | false=>exact ⟨.bl false,H1,I1,rfl,q1⟩
theorem pe_or (ha:PE X a ta) (hb:PE X (.BoolOp .Or (b::rest) pos) tb):PE X (.BoolOp .Or (a::b::rest) pos) (tOrV ta tb):=by
 intro pins s σ H Q I h
 refine BoolOp_or (thn (ha pins s σ H _ I h) fun v s1 ⟨x,H1,I1,r1,q1⟩=>?_)
 obtain ⟨c,rfl,q1⟩:=q1
 cases r1
 refine wpAny_truthy_bool ?_
 cases c with
 | false=>exact hb pins s1 σ H1 Q I1 q1
 | true=>exact ⟨.bl true,H1,I1,rfl,q1⟩
theorem pe_not (ha:PE X a ta):PE X (.UnaryOp .Not a pos) (tNotV ta):=by
 intro pins s σ H Q I h
 refine UnaryOp_ (thn (ha pins s σ H _ I h) fun v s1 ⟨x,H1,I1,r1,q1⟩=>?_)
 obtain ⟨c,rfl,q1⟩:=q1
 cases r1
 exact not_of (wpAny_truthy_bool ⟨.bl (!c),H1,I1,rfl,q1⟩)
noncomputable def tIf (t:TT) (ta tb:TE):TE:=fun σ H Q=>t σ H fun c H1=>if c=true then ta σ H1 Q else tb σ H1 Q
theorem pe_ifExp {c:Expr} (hc:PT X c tA) (ha:PE X a ta) (hb:PE X b tb):PE X (.IfExp c a b pos) (tIf tA ta tb):=by
 intro pins s σ H Q I h
 refine wpAny_IfExp (thn (hc pins s σ H _ I h) fun d s1 ⟨H1,I1,q1⟩=>?_)
 cases d with
 | true=>exact ha pins s1 σ H1 Q I1 q1
 | false=>exact hb pins s1 σ H1 Q I1 q1
end
end L2

namespace L2
open PySem PySem.Spec PyProof.Rows

noncomputable def SqL (K:PySem.W.Frag) (H:Hp) (a:Addr) (xs:List V):Prop:=
 Rd H a (.lst xs) ∨
  ∃(o:Obj) (its:Array Value) (n:Nat),K.lookup a=some o∧o.cls=.type "list"∧o.dict=none∧o.data=.seq its n∧its.size≤sizeLine∧Vals xs its.toList
noncomputable def SqT (K:PySem.W.Frag) (H:Hp) (a:Addr) (xs:List V):Prop:=
 Rd H a (.tup xs) ∨
  ∃(o:Obj) (its:Array Value) (n:Nat),K.lookup a=some o∧o.cls=.type "tuple"∧o.data=.seq its n∧its.size≤sizeLine∧Vals xs its.toList
noncomputable def absV:Value→Option V
 | .none=>some .non
 | .bool b=>some (.bl b)
 | .int i _=>some (.int i)
 | .str x _=>some (.str x)
 | .bytes b _=>some (.byt b)
 | .float b _=>some (.flt b)
 | .ref a=>some (.ref a)
 | .type n=>some (.ty n)
 | _=>none
theorem RelV.abs {x:V} {u:Value} (r:RelV x u):absV u=some x:=by
 cases x with
 | non=>cases r;rfl
 | bl _=>cases r;rfl
 | int _=>obtain ⟨t,rfl⟩:=r;rfl
 | str _=>obtain ⟨t,rfl⟩:=r;rfl
 | byt _=>obtain ⟨t,rfl⟩:=r;rfl
 | flt _=>obtain ⟨t,rfl⟩:=r;rfl
 | ref _=>cases r;rfl
 | ty _=>cases r;rfl
theorem RelV.inj {x y:V} {u:Value} (r:RelV x u) (q:RelV y u):x=y:=Option.some.inj (r.abs.symm.trans q.abs)
theorem Vals.inj:∀{xs ys:List V} {us:List Value},Vals xs us→Vals ys us→xs=ys
 | _,_,_,.nil,.nil=>rfl
 | _,_,_,.cons r t,.cons r' t'=>by rw [r.inj r',Vals.inj t t']
section
variable {X:Cx} {pins:List (Addr×Obj)} {σ:St} {H:Hp} {s:Shared} {a:Addr} {xs ys:List V}
theorem SqL.of {K:PySem.W.Frag} (h:H a=some (.lst xs)):SqL K H a xs:=.inl (.inl h)
theorem SqT.of {K:PySem.W.Frag} (h:H a=some (.tup xs)):SqT K H a xs:=.inl (.inl h)
theorem Inv.list (I:Inv X pins σ H s) (h:SqL X.K H a xs):∃its:List Value,Vals xs its∧PlainL s.heap a its.toArray∧xs.length≤sizeLine:=by
 rcases h with h | ⟨o,its,n,hk,hc,hd,hs,hz,r⟩
 ·obtain ⟨z,its,n,r,e⟩:=h.ok I.hok
  exact ⟨its,r,⟨_,n,e,rfl,rfl,rfl⟩,z⟩
 ·refine ⟨its.toList,r,⟨o,n,I.kIn a o hk,hc,hd,by simpa using hs⟩,?_⟩
  have e:=r.length
  simp only [Array.length_toList] at e
  omega
theorem Inv.tuple (I:Inv X pins σ H s) (h:SqT X.K H a xs):∃its:List Value,Vals xs its∧IsTup s.heap a its.toArray∧xs.length≤sizeLine:=by
 rcases h with h | ⟨o,its,n,hk,hc,hs,hz,r⟩
 ·obtain ⟨z,its,r,p⟩:=h.ok I.hok
  exact ⟨its,r,p,z⟩
 ·refine ⟨its.toList,r,⟨o,I.kIn a o hk,hc,n,by simpa using hs⟩,?_⟩
  have e:=r.length
  simp only [Array.length_toList] at e
  omega
theorem Inv.list_inj (I:Inv X pins σ H s) (h:SqL X.K H a xs) (h':SqL X.K H a ys):xs=ys:=by
 obtain ⟨its,r,⟨o,n,e,_,_,d⟩,_⟩:=I.list h
 obtain ⟨its',r',⟨o',n',e',_,_,d'⟩,_⟩:=I.list h'
 rw [e] at e';cases e'
 rw [d] at d'
 injection d' with d1 _
 have:its=its':=by simpa using congrArg Array.toList d1
 subst this
 exact r.inj r'
theorem Inv.tuple_inj (I:Inv X pins σ H s) (h:SqT X.K H a xs) (h':SqT X.K H a ys):xs=ys:=by
 obtain ⟨its,r,⟨o,e,_,n,d⟩,_⟩:=I.tuple h
 obtain ⟨its',r',⟨o',e',_,n',d'⟩,_⟩:=I.tuple h'
 rw [e] at e';cases e'
 rw [d] at d'
 injection d' with d1 _
 have:its=its':=by simpa using congrArg Array.toList d1
 subst this
 exact r.inj r'
end

noncomputable abbrev Cx.wish (X:Cx) (E:Value→Shared→Prop):Cx:={ X with xe:=E }
noncomputable abbrev Cx.nox (X:Cx):Cx:=X.wish fun _ _=>False
theorem Cx.Ok.wish {X:Cx} (ok:X.Ok) (E:Value→Shared→Prop):(X.wish E).Ok:=
 ⟨ok.mod,ok.kind,ok.glob,ok.blt,ok.above,ok.inj,ok.has,ok.cab,ok.hd,ok.frames,ok.stk,ok.exf,ok.bs,ok.bsz,ok.noex,ok.exfs,ok.funs,ok.frf⟩
theorem Cx.Ok.unwish {X:Cx} {E:Value→Shared→Prop} (ok:(X.wish E).Ok):X.Ok:=
 ⟨ok.mod,ok.kind,ok.glob,ok.blt,ok.above,ok.inj,ok.has,ok.cab,ok.hd,ok.frames,ok.stk,ok.exf,ok.bs,ok.bsz,ok.noex,ok.exfs,ok.funs,ok.frf⟩
section
variable {X:Cx} {pins:List (Addr×Obj)} {σ:St} {H:Hp} {s:Shared} {E:Value→Shared→Prop}
theorem Inv.wish (I:Inv X pins σ H s) (E:Value→Shared→Prop):Inv (X.wish E) pins σ H s:=⟨I.ok.wish E,I.os,I.bare,I.base,I.loc,I.cell,I.free,I.freeC,I.pin,I.hok,I.len⟩
theorem Inv.unwish (I:Inv (X.wish E) pins σ H s):Inv X pins σ H s:=⟨I.ok.unwish,I.os,I.bare,I.base,I.loc,I.cell,I.free,I.freeC,I.pin,I.hok,I.len⟩
theorem SP.unwish {D:Ends} {f:Flow} {s':Shared} (h:SP (X.wish E) pins D f s'):SP X pins D f s':=by
 cases f with
 | next=>obtain ⟨σ',H',I,q⟩:=h;exact ⟨σ',H',I.unwish,q⟩
 | brk=>obtain ⟨σ',H',I,q⟩:=h;exact ⟨σ',H',I.unwish,q⟩
 | cont=>obtain ⟨σ',H',I,q⟩:=h;exact ⟨σ',H',I.unwish,q⟩
 | ret u=>obtain ⟨v,σ',H',I,r,q⟩:=h;exact ⟨v,σ',H',I.unwish,r,q⟩
theorem PSs.nox {st:List Stmt} {t:TS} (h:PSs X.nox st t):PSs X st t:=fun pins s σ H D I hw=>
 wpAny_mono (h pins s σ H D (I.wish _) hw) (fun _ _ q=>q.unwish) fun _ _ z=>False.elim z
end

section
variable {X:Cx} {st:Stmt} {rest:List Stmt} {t u:TS} {e:Expr} {te:TE} {pos:Pos}
noncomputable def tNext:TS:=fun D σ H=>D.nx σ H
noncomputable def tSeq (t u:TS):TS:=fun D σ H=>t { D with nx:=u D } σ H
theorem pss_nil:PSs X [] tNext:=fun _ _ σ H _ I h=>wpAny_execs_nil ⟨σ,H,I,h⟩
theorem pss_cons (h1:PS X st t) (h2:PSs X rest u):PSs X (st::rest) (tSeq t u):=by
 intro pins s σ H D I h
 refine wpAny_execs_cons (thn (h1 pins s σ H { D with nx:=u D } I h) fun f s1 q=>?_)
 cases f with
 | next=>
   obtain ⟨σ',H',I',q⟩:=q
   exact h2 pins s1 σ' H' D I' q
 | ret v=>exact q
 | brk=>exact q
 | cont=>exact q
theorem pss_one (h1:PS X st t):PSs X [st] t:=by
 intro pins s σ H D I h
 refine wpAny_execs_cons (thn (h1 pins s σ H D I h) fun f s1 q=>?_)
 cases f with
 | next=>exact wpAny_execs_nil q
 | ret v=>exact q
 | brk=>exact q
 | cont=>exact q
noncomputable def tCont:TS:=fun D σ H=>D.ct σ H
theorem ps_continue:PS X (.Continue pos) tCont:=fun _ _ σ H _ I h=>wpAny_Continue ⟨σ,H,I,h⟩
theorem Inv.quiet {pins:List (Addr×Obj)} {σ:St} {H:Hp} {s:Shared} (I:Inv X pins σ H s):interactive X.env=false:=by simp [interactive,I.ok.kind]
noncomputable def tDrop (te:TE):TS:=fun D σ H=>te σ H fun _ H1=>D.nx σ H1
theorem ps_expr (he:PE X e te) (hs:autoParam (swapsWith e none pos.line X.env=pure false) au0_._auto_1):PS X (.Expr e pos) (tDrop te):=by
 intro pins s σ H D I h
 exact wpAny_Expr_any (thn (he pins s σ H _ I h) fun v s1 ⟨x,H1,I1,r1,q1⟩=>⟨σ,H1,I1,q1⟩) I.quiet hs
noncomputable def tRet (te:TE):TS:=fun D σ H=>te σ H D.rt
theorem ps_ret (he:PE X e te):PS X (.Return (some e) pos) (tRet te):=by
 intro pins s σ H D I h
 exact wpAny_Return_some (thn (he pins s σ H _ I h) fun v s1 ⟨x,H1,I1,r1,q1⟩=>⟨x,σ,H1,I1,r1,q1⟩)
noncomputable def tIfS (c:TT) (t u:TS):TS:=fun D σ H=>c σ H fun b H1=>if b=true then t D σ H1 else u D σ H1
theorem ps_if {c:Expr} {a b:List Stmt} {tc:TT} (hc:PT X c tc) (ha:PSs X a t) (hb:PSs X b u):PS X (.If c a b pos) (tIfS tc t u):=by
 intro pins s σ H D I h
 refine wpAny_If (thn (hc pins s σ H _ I h) fun d s1 ⟨H1,I1,q1⟩=>?_)
 cases d with
 | true=>exact ha pins s1 σ H1 D I1 q1
 | false=>exact hb pins s1 σ H1 D I1 q1
noncomputable def tNever:TS:=fun _ _ _=>False
theorem ps_never:PS X st tNever:=fun _ _ _ _ _ _ h=>h.elim
end

noncomputable abbrev TG:=V→St→Hp→(St→Hp→Prop)→Prop
noncomputable abbrev TGs:=List V→St→Hp→(St→Hp→Prop)→Prop
noncomputable def PG (X:Cx) (target:Expr) (t:TG):Prop:=
 ∀(pins:List (Addr×Obj)) (s:Shared) (σ:St) (H:Hp) (v:V) (u:Value) (Q:St→Hp→Prop),Inv X pins σ H s→RelV v u→t v σ H Q →
  wpAny (model X.prog X.w) X.A (assign target X.env u) (fun _ s'=>∃σ' H',Inv X pins σ' H' s'∧Q σ' H') X.xe s
noncomputable def PGs (X:Cx) (ts:List Expr) (t:TGs):Prop:=
 ∀(pins:List (Addr×Obj)) (s:Shared) (σ:St) (H:Hp) (vs:List V) (us:List Value) (Q:St→Hp→Prop),Inv X pins σ H s→Vals vs us→t vs σ H Q →
  wpAny (model X.prog X.w) X.A (assignInOrder ((assignEach ts X.env).map (·.2)) us) (fun _ s'=>∃σ' H',Inv X pins σ' H' s'∧Q σ' H') X.xe s
noncomputable abbrev TSet:=V→V→V→Hp→(Hp→Prop)→Prop
noncomputable def PSet (X:Cx) (t:TSet):Prop:=
 ∀(pins:List (Addr×Obj)) (s:Shared) (σ:St) (H:Hp) (o i v:V) (ov iv u:Value) (Q:Hp→Prop),Inv X pins σ H s→RelV o ov→RelV i iv→RelV v u→t o i v H Q →
  wpAny (model X.prog X.w) X.A (setItem ov iv u) (fun _ s'=>∃H',Inv X pins σ H' s'∧Q H') X.xe s
section
variable {X:Cx} {pos:Pos}
noncomputable def gName (i:Nat):TG:=fun v σ H Q=>Q (σ.set i (some v)) H
theorem pg_name {i:Nat} {x:Str} (hN:X.N.Nodup) (hi:X.N[i]?=some x) (hx:Loc X.env.scope x) (hf:X.fn x=true∨X.env.scope.names.lookup x=some .local:=by first | exact .inl rfl | exact .inr rfl | assumption):PG X (.Name x pos) (gName i):=by
 intro pins s σ H v u Q I r h
 exact wpAny_assign_Name (store_ok I hN hi hx r (fun s' I'=>⟨_,H,I',h⟩) hf)
noncomputable def gNil:TGs:=fun vs σ H Q=>vs=[]∧Q σ H
noncomputable def gCons (t:TG) (u:TGs):TGs:=fun vs σ H Q=>∃v r,vs=v::r∧t v σ H fun σ' H'=>u r σ' H' Q
theorem pgs_nil:PGs X [] gNil:=by
 intro pins s σ H vs us Q I r h
 obtain ⟨e,h⟩:=h
 subst e
 cases r
 exact assignInOrder_nil ⟨σ,H,I,h⟩
theorem pgs_cons {e:Expr} {es:List Expr} {t:TG} {u:TGs} (h1:PG X e t) (h2:PGs X es u)
 (hs:autoParam ((assignEach (e::es) X.env).map (·.2)=assign e X.env::(assignEach es X.env).map (·.2)) au0_._auto_1):PGs X (e::es) (gCons t u):=by
 intro pins s σ H vs us Q I r h
 obtain ⟨v,vr,e1,h⟩:=h
 subst e1
 cases r with
 | cons r rr=>
   rw [hs]
   refine assignInOrder_cons (thn (h1 pins s σ H _ _ _ I r h) fun _ s1 ⟨σ1,H1,I1,q1⟩=>?_)
   exact h2 pins s1 σ1 H1 _ _ Q I1 rr q1
noncomputable def gTup (K:PySem.W.Frag) (n:Nat) (t:TGs):TG:=fun v σ H Q=>∃a xs,v=.ref a∧SqT K H a xs∧xs.length=n∧t xs σ H Q
theorem pg_tup {es:List Expr} {k:Nat} {t:TGs} {n:Nat} (hc:X.calm=true) (h:PGs X es t)
 (hn:autoParam ((assignEach es X.env).length=n) au0_._auto_1) (hst:autoParam ((assignEach es X.env).findIdx? (·.1)=none) au0_._auto_1):PG X (.Tuple es k pos) (gTup X.K n t):=by
 intro pins s σ H v u Q I r hw
 obtain ⟨a,xs,e1,hq,hl,hw⟩:=hw
 subst e1
 cases r
 obtain ⟨its,rv,ht,hz⟩:=I.tuple hq
 refine assign_Tuple_tuple (I.ok.hd hc) ht (by simp [hn,← hl,rv.length]) hst fun h' hx=>?_
 have I1:Inv X pins σ H { s with heap:=h' }:=I.kept (t':=s.toks) fun b o e=>hx b o (Nat.ne_of_lt (Heap.lt_size e)) e
 exact h pins _ σ H xs _ Q I1 (by simpa using rv) hw
noncomputable def gSub (to ti:TE) (t:TSet):TG:=fun v σ H Q=>to σ H fun o H1=>ti σ H1 fun i H2=>t o i v H2 fun H3=>Q σ H3
theorem pg_sub {o i:Expr} {to ti:TE} {t:TSet} (ho:PE X o to) (hi:PE X i ti) (hs:PSet X t)
 (ha:autoParam (∀v,assign (.Subscript o i pos) X.env v=(do
   let ov ← holding [v] (eval o X.env)
   let iv ← holding [v,ov] (eval i X.env)
   standAt pos
   holding [v,ov,iv] (setItem ov iv v)
   release [v,ov,iv] [])) au2_._auto_1):PG X (.Subscript o i pos) (gSub to ti t):=by
 intro pins s σ H v u Q I r h
 rw [ha]
 refine wpAny_bind (wpAny_holding (thn (ho pins s σ H _ I h) fun ov s1 ⟨x,H1,I1,r1,q1⟩=>?_))
 refine wpAny_bind (wpAny_holding (thn (hi pins s1 σ H1 _ I1 q1) fun iv s2 ⟨y,H2,I2,r2,q2⟩=>?_))
 refine wpAny_bind (wpAny_standAt (wpAny_bind (wpAny_holding (thn (hs pins s2 σ H2 x y v ov iv u _ I2 r1 r2 r q2) fun _ s3 ⟨H3,I3,q3⟩=>?_))))
 exact wpAny_release ⟨σ,H3,I3,q3⟩
noncomputable def tAsg (te:TE) (g:TG):TS:=fun D σ H=>te σ H fun x H1=>g x σ H1 D.nx
theorem ps_asg {tg e:Expr} {te:TE} {g:TG} (he:PE X e te) (hg:PG X tg g) (hs:autoParam (swapsWithSole [tg] e pos.line X.env=pure false) au0_._auto_1) (hw:autoParam (swappedStores [tg] e X.env=pure none) au0_._auto_1)
 (h1:autoParam ((assignEach [tg] X.env).map (·.2)=[assign tg X.env]) au0_._auto_1):PS X (.Assign [tg] e pos) (tAsg te g):=by
 intro pins s σ H D I h
 refine wpAny_Assign_stores (thn (he pins s σ H _ I h) fun v s1 ⟨x,H1,I1,r1,q1⟩=>?_) hs hw
 rw [h1]
 exact thn (hg pins s1 σ H1 x v _ I1 r1 q1) fun _ s2 q=>q
theorem ps_set {i:Nat} {x:Str} {e:Expr} {te:TE} {pos':Pos} (hN:X.N.Nodup) (hi:X.N[i]?=some x) (hx:Loc X.env.scope x) (he:PE X e te) (hs:autoParam (swapsWith e (some (.Name x pos')) pos.line X.env=pure false) au0_._auto_1) (hf:X.fn x=true∨X.env.scope.names.lookup x=some .local:=by first | exact .inl rfl | exact .inr rfl | assumption) :
 PS X (.Assign [.Name x pos'] e pos) (tAsg te (gName i)):=by
 intro pins s σ H D I h
 refine wpAny_Assign_Name (thn (he pins s σ H _ I h) fun v s1 ⟨y,H1,I1,r1,q1⟩=>?_) hs
 exact store_ok I1 hN hi hx r1 (fun s2 I2=>⟨_,H1,I2,q1⟩) hf
noncomputable def tPar (i j:Nat) (ta:TA):TS:=fun D σ H=>ta σ H fun vs H1=>∃v w,vs=[v,w]∧D.nx ((σ.set i (some v)).set j (some w)) H1
theorem ps_par {i j:Nat} {x y:Str} {a b:Expr} {ta:TA} {px py pt:Pos} {kt k2 pt2} (hc:X.calm=true) (hN:X.N.Nodup) (hi:X.N[i]?=some x) (hj:X.N[j]?=some y) (hij:i≠j)
 (hx:X.env.scope.names.lookup x=some .local) (hy:X.env.scope.names.lookup y=some .local) (ha:PA X [a,b] ta)
 (hw:swappedStores [.Tuple [.Name x px,.Name y py] kt pt] (.Tuple [a,b] k2 pt2) X.env=pure (some [x,y]))
 (hs:autoParam (swapsWithSole [.Tuple [.Name x px,.Name y py] kt pt] (.Tuple [a,b] k2 pt2) pos.line X.env=pure false) au0_._auto_1) :
 PS X (.Assign [.Tuple [.Name x px,.Name y py] kt pt] (.Tuple [a,b] k2 pt2) pos) (tPar i j ta):=by
 intro pins s σ H D I h
 rw [exec_Assign_arm]
 refine wpAny_bind (wpAny_standAt ?_)
 rw [hs]
 refine wpAny_bind (wpAny_pure ?_)
 rw [if_neg (by decide)]
 refine wpAny_bind (Tuple_ (thn (ha _ pins s σ H _ I h) fun us s1 ⟨vs,H1,I1,r1,q1⟩=>?_))
 obtain ⟨v,w,e1,q1⟩:=q1
 subst e1
 obtain ⟨u1,u2,rfl,rv,rw'⟩:∃u1 u2,us=[u1,u2]∧RelV v u1∧RelV w u2:=by
  cases r1 with
  | cons p q=>
    cases q with
    | cons p' q'=>
      cases q'
      exact ⟨_,_,rfl,p,p'⟩
 refine wpAny_newObj_type ?_ (by show 2≤sizeLine;decide)
 have I2:Inv X pins σ H1 { s1 with heap:=s1.heap.push { cls:=.type "tuple",data:=.seq [u1,u2].toArray } }:=I1.kept (t':=s1.toks) fun b o e=>Heap.get?_push_of_some _ e
 rw [hw]
 refine wpAny_bind (wpAny_pure ?_)
 show wpAny (model X.prog X.w) X.A (do rule "assign.swapped-stores";let items ← unpackItems (.ref s1.heap.objs.size) 2 none;assignInOrder [fun v=>bindName X.env y v,fun v=>bindName X.env x v] items.reverse;pure Flow.next) _ _ _
 refine wpAny_bind (wpAny_rule (wpAny_bind (unpackItems_tuple (items:=#[u1,u2]) (I.ok.hd hc) (IsTup.new s1.heap _) fun h' hx'=>?_)))
 have I3:=I2.kept (h':=h') (t':=s1.toks) fun b o e=>hx' b o (Nat.ne_of_lt (Heap.lt_size e)) e
 show wpAny _ _ (assignInOrder [fun v=>bindName X.env y v,fun v=>bindName X.env x v] [u2,u1] >>= fun _=>pure Flow.next) _ _ _
 refine wpAny_bind (assignInOrder_cons (wpAny_bindName (store_ok I3 hN hj (.inl hy) rw' (fun s2 I4=>?_) (.inr hy))))
 refine assignInOrder_cons (wpAny_bindName (store_ok I4 hN hi (.inl hx) rv (fun s3 I5=>assignInOrder_nil (wpAny_pure ?_)) (.inr hx)))
 rw [List.set_comm _ _ (Ne.symm hij)] at I5
 exact ⟨_,H1,I5,q1⟩
end

section
variable {X:Cx} {pos:Pos}
noncomputable def tWhile (c:TT) (tb:TS):TS:=fun D σ H=>∃W:Nat→St→Hp→Prop,(∃m,W m σ H)∧∀m σ H,W m σ H →
 c σ H fun b H1=>if b=true then ∃N:St→Hp→Prop,(∀σ' H',N σ' H'→∃m',m'<m∧W m' σ' H')∧tb { D with nx:=N,ct:=N,bk:=D.nx } σ H1 else D.nx σ H1
theorem ps_while {c:Expr} {body:List Stmt} {tc:TT} {tb:TS} (hp:PassesOwn (model X.prog X.w) X.A X.env X.xe) (hc:PT X c tc) (hb:PSs X body tb):PS X (.While c body [] pos) (tWhile tc tb):=by
 intro pins s σ H D I h
 obtain ⟨W,⟨m0,w0⟩,turn⟩:=h
 refine wpAny_While (codeAny_whileLoop (fun n s'=>∃σ' H',Inv X pins σ' H' s'∧W n σ' H') ?_ m0 ⟨σ,H,I,w0⟩)
 rintro n s1 ⟨σ1,H1,I1,w1⟩
 refine wpAny_passesOwn hp (thn (hc pins s1 σ1 H1 _ I1 (turn n σ1 H1 w1)) fun b s2 ⟨H2,I2,q2⟩=>?_)
 cases b with
 | true=>
   obtain ⟨N,hN,q2⟩:=q2
   rw [if_pos rfl]
   refine wpAny_passesOwn hp (thn (hb pins s2 σ1 H2 _ I2 q2) fun f s3 q3=>?_)
   cases f with
   | next=>
     obtain ⟨σ3,H3,I3,n3⟩:=q3
     obtain ⟨m',hm,w3⟩:=hN σ3 H3 n3
     exact ⟨m',hm,σ3,H3,I3,w3⟩
   | cont=>
     obtain ⟨σ3,H3,I3,n3⟩:=q3
     obtain ⟨m',hm,w3⟩:=hN σ3 H3 n3
     exact ⟨m',hm,σ3,H3,I3,w3⟩
   | brk=>exact q3
   | ret v=>exact q3
 | false=>
   rw [if_neg Bool.false_ne_true]
   exact wpAny_execs_nil ⟨σ1,H2,I2,q2⟩
end

structure It where
 go:Nat→Hp→Prop
 yld:Nat→Hp→V→Hp→Prop
 stop:Nat→Hp→Prop
noncomputable def FpOk (X:Cx) (pins:List (Addr×Obj)) (H:Hp) (b:Addr):Prop:=
 H b=none∧b≠X.env.locals∧b∉X.fs∧(b∈X.ex∨X.s₀.heap.objs.size≤b)∧(∀x c,X.env.cells.lookup x=some c→c≠b)∧∀p∈X.pn++pins,p.1≠b
theorem Inv.fpOk {X:Cx} {pins:List (Addr×Obj)} {σ:St} {H H':Hp} {s:Shared} {b:Addr} (I:Inv X pins σ H s) (hb:s.heap.objs.size≤b) (hn:H' b=none):FpOk X pins H' b:=by
 refine ⟨hn,Nat.ne_of_gt (Nat.lt_of_lt_of_le I.lt hb),I.nofs hb,.inr (Nat.le_trans I.sz hb),fun x c e z=>?_,fun p hp z=>?_⟩
 ·obtain ⟨v,q⟩:=I.cell x c e
  exact absurd (Nat.lt_of_lt_of_le q.lt (by rw [z];exact hb)) (Nat.lt_irrefl _)
 ·exact absurd (Nat.lt_of_lt_of_le (Heap.lt_size (I.pin p hp).1) (by rw [z];exact hb)) (Nat.lt_irrefl _)
structure Turn (P:Program) (w:World) (K:PySem.W.Frag) (tg:Expr) (J:It) (fp:List Addr) (it:Addr) (tn:Nat→Heap→Prop):Prop where
 mem:it∈fp
 obj:∀i h,tn i h→∀b∈fp,∃o,h.get? b=some o∧∀v,o.data≠.cell v
 keep:∀i h h',tn i h→(∀b∈fp,∀o,h.get? b=some o→h'.get? b=some o)→tn i h'
 item:∀(X:Cx),X.prog=P→X.w=w→X.K=K→X.calm=true→∀(i:Nat) (pins:List (Addr×Obj)) (s:Shared) (σ:St) (H:Hp) (E:Value→Shared→Prop),Inv X pins σ H s→(∀b∈fp,FpOk X pins H b)→tn i s.heap→J.go i H →
  wpAny (model P w) X.A (pyNext (.ref it)) (fun r s1=>∃u,r=some u ∧
   wpAny (model P w) X.A (letOwnedTupleGo tg (.ref it) u) (fun _ s2=>∃x H',Inv X pins σ H' s2∧RelV x u∧J.yld i H x H'∧tn (i+1) s2.heap∧∀b∈fp,H' b=none) E s1) E s
 done:∀(X:Cx),X.prog=P→X.w=w→X.K=K→X.calm=true→∀(i:Nat) (pins:List (Addr×Obj)) (s:Shared) (σ:St) (H:Hp) (E:Value→Shared→Prop),Inv X pins σ H s→(∀b∈fp,FpOk X pins H b)→tn i s.heap→J.stop i H →
  wpAny (model P w) X.A (pyNext (.ref it)) (fun r s1=>r=none∧Inv X pins σ H s1) E s
 self:∀(A:Around) (i:Nat) (s:Shared) (Q:Value→Shared→Prop) (E:Value→Shared→Prop),tn i s.heap→Q (.ref it) s→wpAny (model P w) A (pyIter (.ref it)) Q E s
noncomputable abbrev TI:=St→Hp→(It→Hp→Prop)→Prop
noncomputable def PIE (X:Cx) (pins:List (Addr×Obj)) (σ:St) (tg:Expr) (R:It→Hp→Prop) (itv:Value) (s2:Shared):Prop:=
 ∃(it:Addr) (fp:List Addr) (tn:Nat→Heap→Prop) (J:It) (H':Hp),itv=.ref it∧Inv X pins σ H' s2∧Turn X.prog X.w X.K tg J fp it tn∧tn 0 s2.heap∧(∀b∈fp,FpOk X pins H' b)∧R J H'
noncomputable def PI (X:Cx) (tg iter:Expr) (wi:TI):Prop:=
 ∀(pins:List (Addr×Obj)) (s:Shared) (σ:St) (H:Hp) (R:It→Hp→Prop),Inv X pins σ H s→wi σ H R →
  wpAny (model X.prog X.w) X.A (eval iter X.env) (fun v s1=>wpAny (model X.prog X.w) X.A (pyIter v) (PIE X pins σ tg R) X.xe s1) X.xe s

theorem go_of {M:Model} {A:Around} {E:Value→Shared→Prop} {s:Shared} {tg:Expr} {it:Addr} {u:Value} {o:Obj} {n:String} {vs:Array Value} {Q:Unit→Shared→Prop} (ho:s.heap.get? it=some o) (hc:o.cls=.type n) (hd:o.data=.fields vs)
 (hn:["enumerate","zip","dict_itemiterator","dict_reverseitemiterator","odict_iterator","itertools.zip_longest","itertools.pairwise"].contains n=false) (hQ:Q () s):wpAny M A (letOwnedTupleGo tg (.ref it) u) Q E s:=by
 unfold letOwnedTupleGo
 cases tg <;> first
  | exact wpAny_pure hQ
  | (cases u <;> first
      | exact wpAny_pure hQ
      | (refine wpAny_bind (wpAny_load ho ?_)
         rw [hc,hd]
         show wpAny M A (if (["enumerate","zip","dict_itemiterator","dict_reverseitemiterator","odict_iterator","itertools.zip_longest","itertools.pairwise"].contains n&&vs[0]?==some (rawInt _))=true then _ else _) Q E s
         rw [if_neg (by intro h;rw [hn,Bool.false_and] at h;cases h)]
         exact wpAny_pure hQ))

noncomputable def Itl (K:PySem.W.Frag) (a:Addr):It:=
 ⟨fun i H=>∃xs x,SqL K H a xs∧xs[i]?=some x,fun i H x H'=>H'=H∧∀xs,SqL K H a xs→xs[i]?=some x,fun i H=>∃xs,SqL K H a xs∧xs.length≤i⟩
noncomputable def Itt (K:PySem.W.Frag) (a:Addr):It:=
 ⟨fun i H=>∃xs x,SqT K H a xs∧xs[i]?=some x,fun i H x H'=>H'=H∧∀xs,SqT K H a xs→xs[i]?=some x,fun i H=>∃xs,SqT K H a xs∧xs.length≤i⟩
noncomputable def Itr (lo:Int) (n:Nat):It:=⟨fun i _=>i<n,fun i H x H'=>H'=H∧x=.int (lo+i),fun i _=>n≤i⟩
theorem turn_list {P:Program} {w:World} {K:PySem.W.Frag} {tg:Expr} (a it:Addr):Turn P w K tg (Itl K a) [it] it (fun i h=>h.IsListIter it a i) where
 mem:=by simp
 obj:=fun i h st b hb=>by
  have e:b=it:=by simpa using hb
  subst e
  obtain ⟨o,e,c,d⟩:=st
  exact ⟨o,e,fun v z=>by rw [d] at z;cases z⟩
 keep:=fun i h h' st k=>st.at fun o e=>k it (by simp) o e
 item:=by
  intro X hP hw hK hc i pins s σ H E I hf st hg
  subst hP hw hK
  obtain ⟨xs,x,hq,hx⟩:=hg
  obtain ⟨its,rv,p,hz⟩:=I.list hq
  obtain ⟨u,hu,ru⟩:=rv.get hx
  obtain ⟨f0,f1,f2,f3,f4,f5⟩:=hf it (by simp)
  refine wpAny_pyNext_list_item st p.isList (x:=u) (by simpa using hu) fun h' st' sb=>?_
  have I1:Inv X pins σ H { s with heap:=h' }:=I.turned (t':=s.toks) (fun b o hb e=>(sb.2 b hb).trans e) f0 f1 f3 f4 f5
  obtain ⟨o,e,c,d⟩:=id st'
  exact ⟨u,rfl,go_of (s:={ s with heap:=h' }) e c d (by decide) ⟨x,H,I1,ru,⟨rfl,fun ys hy=>by rw [I.list_inj hy hq];exact hx⟩,st',fun b hb=>(hf b hb).1⟩⟩
 done:=by
  intro X hP hw hK hc i pins s σ H E I hf st hg
  subst hP hw hK
  obtain ⟨xs,hq,hx⟩:=hg
  obtain ⟨its,rv,p,hz⟩:=I.list hq
  obtain ⟨f0,f1,f2,f3,f4,f5⟩:=hf it (by simp)
  have hl:=rv.length
  exact wpAny_pyNext_list_end (I.ok.hd hc) st p.isList (by simp;omega) fun h' eb=>⟨rfl,I.turned (t':=s.toks) (fun b o hb e=>eb b o hb e) f0 f1 f3 f4 f5⟩
 self:=fun _ _ _ _ _ st h=>wpAny_pyIter_listiter st h
theorem turn_tuple {P:Program} {w:World} {K:PySem.W.Frag} {tg:Expr} (a it:Addr):Turn P w K tg (Itt K a) [it] it (fun i h=>h.IsTupleIter it a i) where
 mem:=by simp
 obj:=fun i h st b hb=>by
  have e:b=it:=by simpa using hb
  subst e
  obtain ⟨o,e,c,d⟩:=st
  exact ⟨o,e,fun v z=>by rw [d] at z;cases z⟩
 keep:=fun i h h' st k=>st.at fun o e=>k it (by simp) o e
 item:=by
  intro X hP hw hK hc i pins s σ H E I hf st hg
  subst hP hw hK
  obtain ⟨xs,x,hq,hx⟩:=hg
  obtain ⟨its,rv,p,hz⟩:=I.tuple hq
  obtain ⟨u,hu,ru⟩:=rv.get hx
  obtain ⟨f0,f1,f2,f3,f4,f5⟩:=hf it (by simp)
  refine wpAny_pyNext_tuple_item st (show s.heap.IsTuple a its.toArray from p) (x:=u) (by simpa using hu) fun h' st' sb=>?_
  have I1:Inv X pins σ H { s with heap:=h' }:=I.turned (t':=s.toks) (fun b o hb e=>(sb.2 b hb).trans e) f0 f1 f3 f4 f5
  obtain ⟨o,e,c,d⟩:=id st'
  exact ⟨u,rfl,go_of (s:={ s with heap:=h' }) e c d (by decide) ⟨x,H,I1,ru,⟨rfl,fun ys hy=>by rw [I.tuple_inj hy hq];exact hx⟩,st',fun b hb=>(hf b hb).1⟩⟩
 done:=by
  intro X hP hw hK hc i pins s σ H E I hf st hg
  subst hP hw hK
  obtain ⟨xs,hq,hx⟩:=hg
  obtain ⟨its,rv,p,hz⟩:=I.tuple hq
  obtain ⟨f0,f1,f2,f3,f4,f5⟩:=hf it (by simp)
  have hl:=rv.length
  exact wpAny_pyNext_tuple_end (I.ok.hd hc) st (show s.heap.IsTuple a its.toArray from p) (by simp;omega) fun h' eb=>⟨rfl,I.turned (t':=s.toks) (fun b o hb e=>eb b o hb e) f0 f1 f3 f4 f5⟩
 self:=fun _ _ _ _ _ st h=>wpAny_pyIter_tupleiter st h
theorem turn_range {P:Program} {w:World} {K:PySem.W.Frag} {tg:Expr} (it:Addr) (lo:Int) (n:Nat):Turn P w K tg (Itr lo n) [it] it (fun i h=>IsRangeIter h it (lo+(i:Nat)*1) ((n:Int)-(i:Nat)) 1) where
 mem:=by simp
 obj:=fun i h st b hb=>by
  have e:b=it:=by simpa using hb
  subst e
  exact ⟨_,st,fun v z=>by
   have z':Data.fields _=Data.cell v:=z
   cases z'⟩
 keep:=fun i h h' st k=>k it (by simp) _ st
 item:=by
  intro X hP hw hK hc i pins s σ H E I hf st hg
  subst hP hw hK
  obtain ⟨f0,f1,f2,f3,f4,f5⟩:=hf it (by simp)
  have W:=Walks.range (prog:=X.prog) (w:=X.w) (I.ok.hd hc) it lo 1 n
  refine W.item i s _ _ hg st fun v h' tk hv st' kk=>?_
  obtain ⟨t,rfl⟩:=hv
  have I1:Inv X pins σ H { s with heap:=h',toks:=tk }:=I.turned (fun b o hb e=>kk b o (by simpa using hb) e) f0 f1 f3 f4 f5
  refine ⟨_,rfl,go_of (s:={ s with heap:=h',toks:=tk }) (n := "range_iterator") st' rfl rfl (by decide) ⟨.int (lo+i),H,I1,⟨t,?_⟩,⟨rfl,rfl⟩,st',fun b hb=>(hf b hb).1⟩⟩
  rw [Int.mul_one]
 done:=by
  intro X hP hw hK hc i pins s σ H E I hf st hg
  subst hP hw hK
  obtain ⟨f0,f1,f2,f3,f4,f5⟩:=hf it (by simp)
  exact wpAny_pyNext_range_end (I.ok.hd hc) st (by have:n≤i:=hg;omega) fun h' eb=>⟨rfl,I.turned (t':=s.toks) (fun b o hb e=>eb b o hb e) f0 f1 f3 f4 f5⟩
 self:=fun _ _ _ _ _ st h=>wpAny_pyIter_rangeiter st h
end L2

namespace L2
open PySem PySem.Spec PyProof.Rows
section
variable {X:Cx} {tg:Expr}
noncomputable def iList (K:PySem.W.Frag) (tl:TE):TI:=fun σ H R=>tl σ H fun x H1=>∃a,x=.ref a∧(∃xs,SqL K H1 a xs)∧R (Itl K a) H1
noncomputable def iTup (K:PySem.W.Frag) (tl:TE):TI:=fun σ H R=>tl σ H fun x H1=>∃a,x=.ref a∧(∃xs,SqT K H1 a xs)∧R (Itt K a) H1
theorem pi_list {l:Expr} {tl:TE} (hl:PE X l tl):PI X tg l (iList X.K tl):=by
 intro pins s σ H R I h
 refine thn (hl pins s σ H _ I h) fun v s1 ⟨x,H1,I1,r1,q1⟩=>?_
 obtain ⟨a,e,⟨xs,hq⟩,q⟩:=q1
 subst e
 cases r1
 obtain ⟨its,rv,p,hz⟩:=I1.list hq
 refine wpAny_pyIter_list p.isList ?_
 refine ⟨s1.heap.objs.size,[s1.heap.objs.size],_,_,H1,rfl,I1.kept (t':=s1.toks) fun b o e=>Heap.get?_push_of_some _ e,turn_list a _,⟨_,Heap.get?_push_size _ rfl,rfl,rfl⟩,fun b hb=>?_,q⟩
 have e:b=s1.heap.objs.size:=by simpa using hb
 subst e
 exact I1.fpOk (Nat.le_refl _) (I1.hok.fresh (Nat.le_refl _))
theorem pi_tup {l:Expr} {tl:TE} (hl:PE X l tl):PI X tg l (iTup X.K tl):=by
 intro pins s σ H R I h
 refine thn (hl pins s σ H _ I h) fun v s1 ⟨x,H1,I1,r1,q1⟩=>?_
 obtain ⟨a,e,⟨xs,hq⟩,q⟩:=q1
 subst e
 cases r1
 obtain ⟨its,rv,p,hz⟩:=I1.tuple hq
 refine wpAny_pyIter_tuple (show s1.heap.IsTuple a its.toArray from p) ?_
 refine ⟨s1.heap.objs.size,[s1.heap.objs.size],_,_,H1,rfl,I1.kept (t':=s1.toks) fun b o e=>Heap.get?_push_of_some _ e,turn_tuple a _,⟨_,Heap.get?_push_size _ rfl,rfl,rfl⟩,fun b hb=>?_,q⟩
 have e:b=s1.heap.objs.size:=by simpa using hb
 subst e
 exact I1.fpOk (Nat.le_refl _) (I1.hok.fresh (Nat.le_refl _))
theorem range_it {pins:List (Addr×Obj)} {σ:St} {H:Hp} {s:Shared} {R:It→Hp→Prop} {E:Value→Shared→Prop} {lo hi:Int} {t u v:Tok} {tk:Nat} (I:Inv X pins σ H s) (h1:-(2 ^ 62)≤lo) (h2:lo<2 ^ 62) (h3:-(2 ^ 62)≤hi) (h4:hi<2 ^ 62)
 (q:R (Itr lo (hi-lo).toNat) H):wpAny (model X.prog X.w) X.A (pyIter (.ref s.heap.objs.size)) (PIE X pins σ tg R) E { s with heap:=s.heap.push { cls:=.type "range",data:=.fields #[.int lo t,.int hi u,.int 1 v] },toks:=tk }:=by
 refine wpAny_pyIter_range (IsRange.new ..) (small_one h1 h2 h3 h4) ?_
 have I1:Inv X pins σ H { s with heap:=s.heap.push { cls:=.type "range",data:=.fields #[.int lo t,.int hi u,.int 1 v] },toks:=tk }:=I.kept fun b o e=>Heap.get?_push_of_some _ e
 refine ⟨(s.heap.push { cls:=.type "range",data:=.fields #[.int lo t,.int hi u,.int 1 v] }).objs.size,[(s.heap.push { cls:=.type "range",data:=.fields #[.int lo t,.int hi u,.int 1 v] }).objs.size],_,_,H,rfl,
  I1.kept (t':=tk) fun b o e=>Heap.get?_push_of_some _ e,turn_range _ lo (hi-lo).toNat,?_,fun b hb=>?_,q⟩
 ·have e1:lo+((0:Nat):Int)*1=lo:=by simp
  have e2:(((hi-lo).toNat:Nat):Int)-((0:Nat):Int)=Builtin.Range.rangeSize lo hi 1:=by rw [rangeSize_one];split <;> omega
  show IsRangeIter _ _ (lo+((0:Nat):Int)*1) ((((hi-lo).toNat:Nat):Int)-((0:Nat):Int)) 1
  rw [e1,e2]
  exact Heap.get?_push_size _ rfl
 ·have e:b=(s.heap.push { cls:=.type "range",data:=.fields #[.int lo t,.int hi u,.int 1 v] }).objs.size:=by simpa using hb
  subst e
  exact I1.fpOk (Nat.le_refl _) (I1.hok.fresh (Nat.le_refl _))
noncomputable def iRng1 (ta:TA):TI:=fun σ H R=>ta σ H fun vs H1=>∃j:Int,vs=[.int j]∧-(2 ^ 62)≤j∧j<2 ^ 62∧R (Itr 0 j.toNat) H1
noncomputable def iRng2 (ta:TA):TI:=fun σ H R=>ta σ H fun vs H1=>∃i j:Int,vs=[.int i,.int j]∧(-(2 ^ 62)≤i∧i<2 ^ 62∧-(2 ^ 62)≤j∧j<2 ^ 62)∧R (Itr i (j-i).toNat) H1
theorem pi_range1 {a:Expr} {ta:TA} {p pos:Pos} (hg:Gl X "range") (hm:X.mg "range"=none) (ha:PA X [a] ta) (hs:autoParam (starEach [a] X.env=[(false,eval a X.env)]) au0_._auto_1):PI X tg (.Call (.Name "range" p) [a] [] pos) (iRng1 ta):=by
 intro pins s σ H R I h
 refine Call_ (ld_blt I hg hm boot_range (PyProof.Rows.callWith_type1 (thn (ha pos pins s σ H _ I h) fun us s1 ⟨vs,H1,I1,r1,q1⟩=>?_) hs rfl))
 obtain ⟨j,e,q1,q2,q⟩:=q1
 subst e
 cases r1 with
 | cons r rr=>
   cases rr
   obtain ⟨t,rfl⟩:=r
   exact call_range_1 (range_it I1 (by omega) (by omega) q1 q2 (by simpa using q))
theorem pi_range2 {a b:Expr} {ta:TA} {p pos:Pos} (hg:Gl X "range") (hm:X.mg "range"=none) (ha:PA X [a,b] ta) (hs:autoParam (starEach [a,b] X.env=[(false,eval a X.env),(false,eval b X.env)]) au0_._auto_1) (hs2:autoParam (starEach [b] X.env=[(false,eval b X.env)]) au0_._auto_1) :
 PI X tg (.Call (.Name "range" p) [a,b] [] pos) (iRng2 ta):=by
 intro pins s σ H R I h
 refine Call_ (ld_blt I hg hm boot_range (PyProof.Rows.callWith_type1 (thn (ha pos pins s σ H _ I h) fun us s1 ⟨vs,H1,I1,r1,q1⟩=>?_) (by rw [hs,hs2]) (by rw [hs2];rfl)))
 obtain ⟨i,j,e,⟨q1,q2,q3,q4⟩,q⟩:=q1
 subst e
 cases r1 with
 | cons r rr=>
   cases rr with
   | cons r' rr=>
     cases rr
     obtain ⟨t,rfl⟩:=r
     obtain ⟨t',rfl⟩:=r'
     exact call_range_2 (range_it I1 q1 q2 q3 q4 q)

noncomputable def tFor (wi:TI) (g:TG) (tb:TS):TS:=fun D σ H=>wi σ H fun J H1=>∃W:Nat→Nat→St→Hp→Prop,(∃m,W 0 m σ H1)∧∀i m σ H,W i m σ H →
 (J.stop i H∧D.nx σ H)∨(J.go i H∧∃N:St→Hp→Prop,(∀σ' H',N σ' H'→∃m',m'<m∧W (i+1) m' σ' H')∧∀x H',J.yld i H x H'→g x σ H' fun σ2 H2=>tb { D with nx:=N,ct:=N,bk:=D.nx } σ2 H2)
noncomputable def pinsAt (fp:List Addr) (h:Heap):List (Addr×Obj):=fp.filterMap fun b=>(h.get? b).map fun o=>(b,o)
theorem mem_pinsAt {fp:List Addr} {h:Heap} {b:Addr} {o:Obj} (hb:b∈fp) (e:h.get? b=some o):(b,o)∈pinsAt fp h:=List.mem_filterMap.mpr ⟨b,hb,by rw [e];rfl⟩
theorem of_pinsAt {fp:List Addr} {h:Heap} {p:Addr×Obj} (hp:p∈pinsAt fp h):p.1∈fp∧h.get? p.1=some p.2:=by
 obtain ⟨b,hb,e⟩:=List.mem_filterMap.mp hp
 cases q:h.get? b with
 | none=>rw [q] at e;cases e
 | some o=>
   rw [q] at e
   have e':(b,o)=p:=Option.some.inj e
   subst e'
   exact ⟨hb,q⟩
theorem Inv.pinned {pins:List (Addr×Obj)} {σ:St} {H:Hp} {s:Shared} {fp:List Addr} (I:Inv X pins σ H s) (hf:∀b∈fp,FpOk X pins H b) (ho:∀b∈fp,∃o,s.heap.get? b=some o∧∀v,o.data≠.cell v):Inv X (pins++pinsAt fp s.heap) σ H s:=
 I.pins_of fun p hp=>(List.mem_append.mp hp).elim (fun z=>I.pin p (List.mem_append_right _ z)) fun z=>by
  obtain ⟨hb,e⟩:=of_pinsAt z
  obtain ⟨f0,f1,f2,_⟩:=hf p.1 hb
  obtain ⟨o,e',d⟩:=ho p.1 hb
  rw [e] at e';cases e'
  exact ⟨e,f0,f1,f2,d⟩
theorem Inv.unpinned {pins pl:List (Addr×Obj)} {σ:St} {H:Hp} {s:Shared} (I:Inv X (pins++pl) σ H s):Inv X pins σ H s:=I.pins_of fun p hp=>I.pin p (List.mem_append_right _ (List.mem_append_left _ hp))
theorem ps_for {iter:Expr} {body:List Stmt} {wi:TI} {g:TG} {tb:TS} {pos:Pos} (hp:PassesOwn (model X.prog X.w) X.A X.env X.xe) (hc:X.calm=true) (hi:PI X tg iter wi) (hg:PG X tg g) (hb:PSs X body tb)
 (hs:autoParam (∀x,foldedSetIterable iter X.env x=pure x) au2_._auto_1):PS X (.For tg iter body [] pos) (tFor wi g tb):=by
 intro pins s σ H D I h
 refine wpAny_For (thn (hi pins s σ H _ I h) fun v s1 h1=>thn h1 fun itv s2 h2=>?_) hs
 obtain ⟨it,fp,tn,J,H2,e,I2,T,st2,f2,W,⟨m0,w0⟩,turn⟩:=h2
 subst e
  -- what stays true of the iterator's objects through the loop
 have stat:∀{H':Hp},(∀b∈fp,H' b=none)→∀b∈fp,FpOk X pins H' b:=fun hn b hb=>⟨hn b hb,(f2 b hb).2⟩
 refine codeAny_forLoop_any (fun n s'=>∃i σ' H',Inv X pins σ' H' s'∧tn i s'.heap∧(∀b∈fp,H' b=none)∧W i n σ' H') ?_ m0 ⟨0,σ,H2,I2,st2,fun b hb=>(f2 b hb).1,w0⟩
 rintro n s3 ⟨i,σ3,H3,I3,st3,fr3,w3⟩
 rcases turn i n σ3 H3 w3 with ⟨stop,qn⟩ | ⟨go,N,hN,step⟩
 ·refine wpAny_passesOwn hp (thn (T.done X rfl rfl rfl hc i pins s3 σ3 H3 X.xe I3 (stat fr3) st3 stop) fun r s4 ⟨hr,I4⟩=>?_)
  subst hr
  exact wpAny_execs_nil ⟨σ3,H3,I4,qn⟩
 ·refine wpAny_passesOwn hp (thn (T.item X rfl rfl rfl hc i pins s3 σ3 H3 X.xe I3 (stat fr3) st3 go) fun r s4 ⟨u,hr,h4⟩=>?_)
  subst hr
  refine wpAny_passesOwn hp (thn h4 fun _ s5 ⟨x,H5,I5,r5,y5,st5,fr5⟩=>?_)
  have I5':=I5.pinned (stat fr5) (T.obj _ _ st5)
  refine wpAny_passesOwn hp (thn (hg _ s5 σ3 H5 x u _ I5' r5 (step x H5 y5)) fun _ s6 ⟨σ6,H6,I6,q6⟩=>?_)
  refine wpAny_passesOwn hp (thn (hb _ s6 σ6 H6 _ I6 q6) fun f s7 q7=>?_)
  have again:∀{σ7:St} {H7:Hp},Inv X (pins++pinsAt fp s5.heap) σ7 H7 s7→N σ7 H7→∃m,m<n∧∃i σ' H',Inv X pins σ' H' s7∧tn i s7.heap∧(∀b∈fp,H' b=none)∧W i m σ' H':=fun {σ7 H7} I7 n7=>by
   obtain ⟨m',hm,w7⟩:=hN σ7 H7 n7
   refine ⟨m',hm,i+1,σ7,H7,I7.unpinned,T.keep _ _ _ st5 fun b hb o e=>(I7.pin (b,o) (List.mem_append_right _ (List.mem_append_right _ (mem_pinsAt hb e)))).1,fun b hb=>?_,w7⟩
   obtain ⟨o,e,d⟩:=T.obj _ _ st5 b hb
   exact (I7.pin (b,o) (List.mem_append_right _ (List.mem_append_right _ (mem_pinsAt hb e)))).2.1
  cases f with
  | next=>obtain ⟨σ7,H7,I7,n7⟩:=q7;exact again I7 n7
  | cont=>obtain ⟨σ7,H7,I7,n7⟩:=q7;exact again I7 n7
  | brk=>obtain ⟨σ7,H7,I7,q7⟩:=q7;exact ⟨σ7,H7,I7.unpinned,q7⟩
  | ret v=>obtain ⟨x7,σ7,H7,I7,r7,q7⟩:=q7;exact ⟨x7,σ7,H7,I7.unpinned,r7,q7⟩
end

theorem for_list {K:PySem.W.Frag} {a:Addr} {xs:List V} {g:TG} {tb:TS} {D:Ends} {σ:St} {H:Hp} (Pv:Nat→St→Hp→Prop) (h0:Pv 0 σ H) (hl:∀i σ H,i≤xs.length→Pv i σ H→SqL K H a xs)
 (hs:∀i x σ H,xs[i]?=some x→Pv i σ H→g x σ H fun σ2 H2=>tb { D with nx:=Pv (i+1),ct:=Pv (i+1),bk:=D.nx } σ2 H2) (hd:∀σ H,Pv xs.length σ H→D.nx σ H) :
 ∃W:Nat→Nat→St→Hp→Prop,(∃m,W 0 m σ H)∧∀i m σ H,W i m σ H →
  ((Itl K a).stop i H∧D.nx σ H)∨((Itl K a).go i H∧∃N:St→Hp→Prop,(∀σ' H',N σ' H'→∃m',m'<m∧W (i+1) m' σ' H')∧∀x H',(Itl K a).yld i H x H'→g x σ H' fun σ2 H2=>tb { D with nx:=N,ct:=N,bk:=D.nx } σ2 H2):=by
 refine ⟨fun i m σ H=>m=xs.length-i∧i≤xs.length∧Pv i σ H,⟨xs.length,by simp,Nat.zero_le _,h0⟩,?_⟩
 rintro i m σ H ⟨rfl,hi,p⟩
 have q:=hl i σ H hi p
 by_cases hlt:i<xs.length
 ·refine .inr ⟨⟨xs,xs[i],q,by simp [hlt]⟩,Pv (i+1),fun σ' H' p'=>⟨xs.length-(i+1),by omega,rfl,hlt,p'⟩,fun x H' y=>?_⟩
  obtain ⟨e,y⟩:=y
  subst e
  exact hs i x σ _ (y xs q) p
 ·have e:i=xs.length:=by omega
  subst e
  exact .inl ⟨⟨xs,q,Nat.le_refl _⟩,hd σ H p⟩
theorem for_tup {K:PySem.W.Frag} {a:Addr} {xs:List V} {g:TG} {tb:TS} {D:Ends} {σ:St} {H:Hp} (Pv:Nat→St→Hp→Prop) (h0:Pv 0 σ H) (hl:∀i σ H,i≤xs.length→Pv i σ H→SqT K H a xs)
 (hs:∀i x σ H,xs[i]?=some x→Pv i σ H→g x σ H fun σ2 H2=>tb { D with nx:=Pv (i+1),ct:=Pv (i+1),bk:=D.nx } σ2 H2) (hd:∀σ H,Pv xs.length σ H→D.nx σ H) :
 ∃W:Nat→Nat→St→Hp→Prop,(∃m,W 0 m σ H)∧∀i m σ H,W i m σ H →
  ((Itt K a).stop i H∧D.nx σ H)∨((Itt K a).go i H∧∃N:St→Hp→Prop,(∀σ' H',N σ' H'→∃m',m'<m∧W (i+1) m' σ' H')∧∀x H',(Itt K a).yld i H x H'→g x σ H' fun σ2 H2=>tb { D with nx:=N,ct:=N,bk:=D.nx } σ2 H2):=by
 refine ⟨fun i m σ H=>m=xs.length-i∧i≤xs.length∧Pv i σ H,⟨xs.length,by simp,Nat.zero_le _,h0⟩,?_⟩
 rintro i m σ H ⟨rfl,hi,p⟩
 have q:=hl i σ H hi p
 by_cases hlt:i<xs.length
 ·refine .inr ⟨⟨xs,xs[i],q,by simp [hlt]⟩,Pv (i+1),fun σ' H' p'=>⟨xs.length-(i+1),by omega,rfl,hlt,p'⟩,fun x H' y=>?_⟩
  obtain ⟨e,y⟩:=y
  subst e
  exact hs i x σ _ (y xs q) p
 ·have e:i=xs.length:=by omega
  subst e
  exact .inl ⟨⟨xs,q,Nat.le_refl _⟩,hd σ H p⟩
theorem for_range {lo:Int} {n:Nat} {g:TG} {tb:TS} {D:Ends} {σ:St} {H:Hp} (Pv:Nat→St→Hp→Prop) (h0:Pv 0 σ H)
 (hs:∀i σ H,i<n→Pv i σ H→g (.int (lo+i)) σ H fun σ2 H2=>tb { D with nx:=Pv (i+1),ct:=Pv (i+1),bk:=D.nx } σ2 H2) (hd:∀σ H,Pv n σ H→D.nx σ H) :
 ∃W:Nat→Nat→St→Hp→Prop,(∃m,W 0 m σ H)∧∀i m σ H,W i m σ H →
  ((Itr lo n).stop i H∧D.nx σ H)∨((Itr lo n).go i H∧∃N:St→Hp→Prop,(∀σ' H',N σ' H'→∃m',m'<m∧W (i+1) m' σ' H')∧∀x H',(Itr lo n).yld i H x H'→g x σ H' fun σ2 H2=>tb { D with nx:=N,ct:=N,bk:=D.nx } σ2 H2):=by
 refine ⟨fun i m σ H=>m=n-i∧i≤n∧Pv i σ H,⟨n,by simp,Nat.zero_le _,h0⟩,?_⟩
 rintro i m σ H ⟨rfl,hi,p⟩
 by_cases hlt:i<n
 ·refine .inr ⟨hlt,Pv (i+1),fun σ' H' p'=>⟨n-(i+1),by omega,rfl,hlt,p'⟩,fun x H' y=>?_⟩
  obtain ⟨e,y⟩:=y
  subst e y
  exact hs i σ _ hlt p
 ·have e:i=n:=by omega
  subst e
  exact .inl ⟨Nat.le_refl _,hd σ H p⟩
theorem while_by {c:TT} {tb:TS} {D:Ends} {σ:St} {H:Hp} (Pv:St→Hp→Prop) (μ:St→Hp→Nat) (h0:Pv σ H)
 (hs:∀σ H,Pv σ H→c σ H fun b H1=>if b=true then tb { D with nx:=fun σ' H'=>Pv σ' H'∧μ σ' H'<μ σ H,ct:=fun σ' H'=>Pv σ' H'∧μ σ' H'<μ σ H,bk:=D.nx } σ H1 else D.nx σ H1)
 (mono:∀σ H Q Q',(∀b H1,Q b H1→Q' b H1)→c σ H Q→c σ H Q'):tWhile c tb D σ H:=by
 refine ⟨fun m σ H=>m=μ σ H∧Pv σ H,⟨_,rfl,h0⟩,?_⟩
 rintro m σ H ⟨rfl,p⟩
 refine mono σ H _ _ (fun b H1 q=>?_) (hs σ H p)
 cases b with
 | true=>exact ⟨_,fun σ' H' ⟨p',l⟩=>⟨_,l,rfl,p'⟩,q⟩
 | false=>exact q
end L2

namespace L2
open PySem PySem.Spec PyProof.Rows

noncomputable abbrev R2:=V→V→Hp→VK→Prop
noncomputable def OpR (X:Cx) (f:Value→Value→Sem Value) (r:R2):Prop:=
 ∀(pins:List (Addr×Obj)) (s:Shared) (σ:St) (H:Hp) (x y:V) (v u:Value) (Q:VK),Inv X pins σ H s→RelV x v→RelV y u→r x y H Q →
  wpAny (model X.prog X.w) X.A (f v u) (EP X pins σ Q) X.xe s
noncomputable def UnR (X:Cx) (f:Value→Sem Value) (r:V→Hp→VK→Prop):Prop:=
 ∀(pins:List (Addr×Obj)) (s:Shared) (σ:St) (H:Hp) (x:V) (v:Value) (Q:VK),Inv X pins σ H s→RelV x v→r x H Q →
  wpAny (model X.prog X.w) X.A (f v) (EP X pins σ Q) X.xe s
noncomputable def CallR (X:Cx) (f:Value) (r:List V→Hp→VK→Prop):Prop:=
 ∀(pins:List (Addr×Obj)) (s:Shared) (σ:St) (H:Hp) (xs:List V) (us:List Value) (Q:VK),Inv X pins σ H s→Vals xs us→r xs H Q →
  wpAny (model X.prog X.w) X.A (call f us) (EP X pins σ Q) X.xe s
noncomputable def tOp (r:R2) (ta tb:TE):TE:=fun σ H Q=>ta σ H fun x H1=>tb σ H1 fun y H2=>r x y H2 Q
noncomputable def tUn (r:V→Hp→VK→Prop) (ta:TE):TE:=fun σ H Q=>ta σ H fun x H1=>r x H1 Q
noncomputable def rI (C:Int→Int→Prop) (g:Int→Int→V):R2:=fun x y H Q=>∃i j,x=.int i∧y=.int j∧C i j∧Q (g i j) H
noncomputable def rI0 (g:Int→Int→V):R2:=fun x y H Q=>∃i j,x=.int i∧y=.int j∧Q (g i j) H
noncomputable def rU (g:Int→V):V→Hp→VK→Prop:=fun x H Q=>∃i,x=.int i∧Q (g i) H

section
variable {X:Cx} {a b c:Expr} {ta tb tc:TE} {pos:Pos}

theorem binT (ha:PE X a ta) (hb:PE X b tb) {pins:List (Addr×Obj)} {s:Shared} {σ:St} {H:Hp} {R:V→V→Hp→Prop} (I:Inv X pins σ H s)
 (h:ta σ H fun x H1=>tb σ H1 fun y H2=>R x y H2) {Q:Value→Shared→Prop} {f:Value→Value→Sem Value}
 (hf:∀v u s2 x y H2,Inv X pins σ H2 s2→RelV x v→RelV y u→R x y H2→wpAny (model X.prog X.w) X.A (f v u) Q X.xe s2) :
 wpAny (model X.prog X.w) X.A (eval a X.env) (fun v s₁=>wpAny (model X.prog X.w) X.A (eval b X.env) (fun u s₂=>wpAny (model X.prog X.w) X.A (f v u) Q X.xe s₂) X.xe s₁) X.xe s:=by
 refine thn (ha pins s σ H _ I h) fun v s1 ⟨x,H1,I1,r1,q1⟩=>?_
 refine thn (hb pins s1 σ H1 _ I1 q1) fun u s2 ⟨y,H2,I2,r2,q2⟩=>?_
 exact hf v u s2 x y H2 I2 r1 r2 q2

theorem pe_op {op:Operator} {r:R2} (ho:OpR X (binaryOp op) r) (ha:PE X a ta) (hb:PE X b tb):PE X (.BinOp a op b pos) (tOp r ta tb):=by
 intro pins s σ H Q I h
 exact wpAny_BinOp (binT ha hb I h fun v u s2 x y H2 I2 rx ry q=>ho pins s2 σ H2 x y v u Q I2 rx ry q)
theorem pe_un {op:UnaryOp} {r:V→Hp→VK→Prop} (ho:UnR X (unaryOp op) r) (ha:PE X a ta):PE X (.UnaryOp op a pos) (tUn r ta):=by
 intro pins s σ H Q I h
 exact UnaryOp_ (thn (ha pins s σ H _ I h) fun v s1 ⟨x,H1,I1,r1,q1⟩=>ho pins s1 σ H1 x v Q I1 r1 q1)
theorem opI {f:Value→Value→Sem Value} {C:Int→Int→Prop} {g:Int→Int→Int}
 (rule:∀(i j:Int) (t u:Tok) (s:Shared) (Q:Value→Shared→Prop) (E:Value→Shared→Prop),C i j→Q (.int (g i j) s.toks) { s with toks:=s.toks+1 }→wpAny (model X.prog X.w) X.A (f (.int i t) (.int j u)) Q E s) :
 OpR X f (rI C fun i j=>.int (g i j)):=by
 intro pins s σ H x y v u Q I rx ry h
 obtain ⟨i,j,rfl,rfl,hc,q⟩:=h
 obtain ⟨t,rfl⟩:=rx
 obtain ⟨t',rfl⟩:=ry
 exact rule i j t t' s _ _ hc ⟨.int (g i j),H,I.tok _,⟨_,rfl⟩,q⟩
theorem opI0 {f:Value→Value→Sem Value} {g:Int→Int→Int}
 (rule:∀(i j:Int) (t u:Tok) (s:Shared) (Q:Value→Shared→Prop) (E:Value→Shared→Prop),Q (.int (g i j) s.toks) { s with toks:=s.toks+1 }→wpAny (model X.prog X.w) X.A (f (.int i t) (.int j u)) Q E s) :
 OpR X f (rI0 fun i j=>.int (g i j)):=by
 intro pins s σ H x y v u Q I rx ry h
 obtain ⟨i,j,rfl,rfl,q⟩:=h
 obtain ⟨t,rfl⟩:=rx
 obtain ⟨t',rfl⟩:=ry
 exact rule i j t t' s _ _ ⟨.int (g i j),H,I.tok _,⟨_,rfl⟩,q⟩
theorem opB0 {f:Value→Value→Sem Value} {g:Int→Int→Bool}
 (rule:∀(i j:Int) (t u:Tok) (s:Shared) (Q:Value→Shared→Prop) (E:Value→Shared→Prop),Q (.bool (g i j)) s→wpAny (model X.prog X.w) X.A (f (.int i t) (.int j u)) Q E s) :
 OpR X f (rI0 fun i j=>.bl (g i j)):=by
 intro pins s σ H x y v u Q I rx ry h
 obtain ⟨i,j,rfl,rfl,q⟩:=h
 obtain ⟨t,rfl⟩:=rx
 obtain ⟨t',rfl⟩:=ry
 exact rule i j t t' s _ _ ⟨.bl (g i j),H,I,rfl,q⟩

noncomputable def CPow (i j:Int):Prop:=0≤j∧j≤1000000∧i.natAbs<2 ^ 64
noncomputable def CMul (i j:Int):Prop:=(-(2 ^ 64)<i∧i<2 ^ 64)∨(-(2 ^ 64)<j∧j<2 ^ 64)
theorem CMul.ok {i j:Int} (h:CMul i j):IntMulOk i j:=by
 rcases h with ⟨h1,h2⟩ | ⟨h1,h2⟩
 ·exact .of_left (intBits_le_64 h1 h2)
 ·exact .of_right (intBits_le_64 h1 h2)
theorem two_pow_nn (k:Nat):(0:Int)≤2 ^ k:=by
 rw [two_pow_cast]
 exact Int.natCast_nonneg _

theorem op_add:OpR X (binaryOp .Add) (rI0 fun i j=>.int (i+j)):=opI0 fun _ _ _ _ _ _ _ q=>add_int q
theorem op_sub:OpR X (binaryOp .Sub) (rI0 fun i j=>.int (i-j)):=opI0 fun _ _ _ _ _ _ _ q=>sub_int q
theorem op_mod:OpR X (binaryOp .Mod) (rI (fun _ j=>0<j) fun i j=>.int (i % j)):=opI fun i j _ _ _ _ _ hc q=>by
 have h1:(0:Int)<j:=hc
 exact mod_int' (by omega) (by rw [Int.fmod_eq_emod_of_nonneg i (by omega)];exact q)
theorem op_pow:OpR X (binaryOp .Pow) (rI CPow fun i j=>.int (i ^ j.toNat)):=opI fun _ _ _ _ _ _ _ hc q=>pow_int_small hc.1 hc.2.1 hc.2.2 q
theorem op_shr:OpR X (binaryOp .RShift) (rI (fun _ j=>0≤j) fun i j=>.int (i/2 ^ j.toNat)):=opI fun i j _ _ _ _ _ hc q=>
 rshift_int hc (by rw [Int.fdiv_eq_ediv_of_nonneg i (two_pow_nn _)];exact q)
theorem unI {f:Value→Sem Value} {g:Int→Int}
 (rule:∀(i:Int) (t:Tok) (s:Shared) (Q:Value→Shared→Prop) (E:Value→Shared→Prop),Q (.int (g i) s.toks) { s with toks:=s.toks+1 }→wpAny (model X.prog X.w) X.A (f (.int i t)) Q E s) :
 UnR X f (rU fun i=>.int (g i)):=by
 intro pins s σ H x v Q I rx h
 obtain ⟨i,rfl,q⟩:=h
 obtain ⟨t,rfl⟩:=rx
 exact rule i t s _ _ ⟨.int (g i),H,I.tok _,⟨_,rfl⟩,q⟩
theorem un_neg:UnR X (unaryOp .USub) (rU fun i=>.int (-i)):=unI fun _ _ _ _ _ q=>neg_int q
end

noncomputable def scal:V→V→Bool
 | .non,.non=>true | .non,.int _=>true | .int _,.non=>true | .non,.bl _=>true | .bl _,.non=>true | .non,.str _=>true | .str _,.non=>true
 | .int _,.int _=>true | .bl _,.bl _=>true | .str _,.str _=>true | .byt _,.byt _=>true
 | .int _,.str _=>true | .str _,.int _=>true | .bl _,.str _=>true | .str _,.bl _=>true
 | _,_=>false
noncomputable def rEq:R2:=fun x y H Q=>scal x y=true∧Q (.bl (decide (x=y))) H
noncomputable def rNe:R2:=fun x y H Q=>scal x y=true∧Q (.bl (!decide (x=y))) H

theorem dec_int {i j:Int}:decide (V.int i=V.int j)=(i==j):=by
 rw [Bool.eq_iff_iff]
 simp
theorem dec_bl {i j:Bool}:decide (V.bl i=V.bl j)=(i==j):=by
 rw [Bool.eq_iff_iff]
 simp
theorem dec_str {i j:Str}:decide (V.str i=V.str j)=(i==j):=by
 rw [Bool.eq_iff_iff]
 simp
theorem dec_byt {i j:Array UInt8}:decide (V.byt i=V.byt j)=(i.toList==j.toList):=by
 rw [Bool.eq_iff_iff]
 cases i
 cases j
 simp

section
variable {X:Cx} {a b c:Expr} {ta tb tc:TE} {pos:Pos}
theorem fin_bl {pins:List (Addr×Obj)} {σ:St} {H:Hp} {s:Shared} {Q:VK} {k k':Bool} (I:Inv X pins σ H s) (q:Q (.bl k) H) (e:k=k'):EP X pins σ Q (.bool k') s:=by
 subst e
 exact ⟨.bl k,H,I,rfl,q⟩
theorem op_eq:OpR X (compareOp .Eq) rEq:=by
 intro pins s σ H x y v u Q I rx ry h
 obtain ⟨hs,q⟩:=h
 cases x with
 | non=>
   cases rx
   cases y with
   | non=>cases ry;exact PySem.EqNone.eq_none_none (fin_bl I q (by simp))
   | bl j=>cases ry;exact PySem.EqNone.eq_none_bool (fin_bl I q (by simp))
   | int j=>obtain ⟨t',rfl⟩:=ry;exact PySem.EqNone.eq_none_int (fin_bl I q (by simp))
   | str j=>obtain ⟨t',rfl⟩:=ry;exact PySem.EqNone.eq_none_str (fin_bl I q (by simp))
   | _=>exact absurd (show false=true from hs) Bool.false_ne_true
 | bl i=>
   cases rx
   cases y with
   | non=>cases ry;exact PySem.EqNone.eq_bool_none (fin_bl I q (by simp))
   | bl j=>cases ry;exact eq_bool (fin_bl I q dec_bl)
   | str j=>obtain ⟨t',rfl⟩:=ry;exact PySem.EqMixed.eq_bool_str (fin_bl I q (by simp))
   | _=>exact absurd (show false=true from hs) Bool.false_ne_true
 | int i=>
   obtain ⟨t,rfl⟩:=rx
   cases y with
   | non=>cases ry;exact PySem.EqNone.eq_int_none (fin_bl I q (by simp))
   | int j=>obtain ⟨t',rfl⟩:=ry;exact eq_int (fin_bl I q dec_int)
   | str j=>obtain ⟨t',rfl⟩:=ry;exact PySem.EqMixed.eq_int_str (fin_bl I q (by simp))
   | _=>exact absurd (show false=true from hs) Bool.false_ne_true
 | str i=>
   obtain ⟨t,rfl⟩:=rx
   cases y with
   | non=>cases ry;exact PySem.EqNone.eq_str_none (fin_bl I q (by simp))
   | bl j=>cases ry;exact PySem.EqMixed.eq_str_bool (fin_bl I q (by simp))
   | int j=>obtain ⟨t',rfl⟩:=ry;exact PySem.EqMixed.eq_str_int (fin_bl I q (by simp))
   | str j=>obtain ⟨t',rfl⟩:=ry;exact eq_str (fin_bl I q dec_str)
   | _=>exact absurd (show false=true from hs) Bool.false_ne_true
 | byt i=>
   obtain ⟨t,rfl⟩:=rx
   cases y with
   | byt j=>obtain ⟨t',rfl⟩:=ry;exact PySem.W.eq_bytes (fin_bl I q dec_byt)
   | _=>exact absurd (show false=true from hs) Bool.false_ne_true
 | _=>cases y <;> exact absurd (show false=true from hs) Bool.false_ne_true
theorem op_ne:OpR X (compareOp .NotEq) rNe:=by
 intro pins s σ H x y v u Q I rx ry h
 obtain ⟨hs,q⟩:=h
 cases x with
 | non=>
   cases rx
   cases y with
   | non=>cases ry;exact PySem.EqNone.ne_none_none (fin_bl I q (by simp))
   | bl j=>cases ry;exact PySem.EqNone.ne_none_bool (fin_bl I q (by simp))
   | int j=>obtain ⟨t',rfl⟩:=ry;exact PySem.EqNone.ne_none_int (fin_bl I q (by simp))
   | str j=>obtain ⟨t',rfl⟩:=ry;exact PySem.EqNone.ne_none_str (fin_bl I q (by simp))
   | _=>exact absurd (show false=true from hs) Bool.false_ne_true
 | bl i=>
   cases rx
   cases y with
   | non=>cases ry;exact PySem.EqNone.ne_bool_none (fin_bl I q (by simp))
   | bl j=>cases ry;exact ne_bool (fin_bl I q (congrArg not dec_bl))
   | str j=>obtain ⟨t',rfl⟩:=ry;exact PySem.EqMixed.ne_bool_str (fin_bl I q (by simp))
   | _=>exact absurd (show false=true from hs) Bool.false_ne_true
 | int i=>
   obtain ⟨t,rfl⟩:=rx
   cases y with
   | non=>cases ry;exact PySem.EqNone.ne_int_none (fin_bl I q (by simp))
   | int j=>obtain ⟨t',rfl⟩:=ry;exact ne_int (fin_bl I q (congrArg not dec_int))
   | str j=>obtain ⟨t',rfl⟩:=ry;exact PySem.EqMixed.ne_int_str (fin_bl I q (by simp))
   | _=>exact absurd (show false=true from hs) Bool.false_ne_true
 | str i=>
   obtain ⟨t,rfl⟩:=rx
   cases y with
   | non=>cases ry;exact PySem.EqNone.ne_str_none (fin_bl I q (by simp))
   | bl j=>cases ry;exact PySem.EqMixed.ne_str_bool (fin_bl I q (by simp))
   | int j=>obtain ⟨t',rfl⟩:=ry;exact PySem.EqMixed.ne_str_int (fin_bl I q (by simp))
   | str j=>obtain ⟨t',rfl⟩:=ry;exact ne_str (fin_bl I q (congrArg not dec_str))
   | _=>exact absurd (show false=true from hs) Bool.false_ne_true
 | byt i=>
   obtain ⟨t,rfl⟩:=rx
   cases y with
   | byt j=>obtain ⟨t',rfl⟩:=ry;exact PySem.W.ne_bytes (fin_bl I q (congrArg not dec_byt))
   | _=>exact absurd (show false=true from hs) Bool.false_ne_true
 | _=>cases y <;> exact absurd (show false=true from hs) Bool.false_ne_true

theorem op_lt:OpR X (compareOp .Lt) (rI0 fun i j=>.bl (decide (i<j))):=opB0 fun _ _ _ _ _ _ _ q=>lt_int q
theorem op_le:OpR X (compareOp .LtE) (rI0 fun i j=>.bl (decide (i≤j))):=opB0 fun _ _ _ _ _ _ _ q=>le_int q
theorem op_gt:OpR X (compareOp .Gt) (rI0 fun i j=>.bl (decide (j<i))):=opB0 fun _ _ _ _ _ _ _ q=>gt_int q
theorem op_ge:OpR X (compareOp .GtE) (rI0 fun i j=>.bl (decide (j≤i))):=opB0 fun _ _ _ _ _ _ _ q=>ge_int q
theorem op_isN:OpR X (compareOp .Is) (fun x y H Q=>y=.non∧Q (.bl (decide (x=.non))) H):=by
 intro pins s σ H x y v u Q I rx ry h
 obtain ⟨rfl,q⟩:=h
 cases ry
 refine is_none_gen (fin_bl I q ?_)
 cases x <;> first
  | (cases rx;rfl)
  | (obtain ⟨t,rfl⟩:=rx;rfl)
theorem op_notN:OpR X (compareOp .IsNot) (fun x y H Q=>y=.non∧Q (.bl (!decide (x=.non))) H):=by
 intro pins s σ H x y v u Q I rx ry h
 obtain ⟨rfl,q⟩:=h
 cases ry
 refine isnot_none_gen (fin_bl I q ?_)
 cases x <;> first
  | (cases rx;rfl)
  | (obtain ⟨t,rfl⟩:=rx;rfl)

theorem nomark (b:Expr) {op:CmpOp} (h:autoParam (op≠.In) au1_._auto_1) (h2:autoParam (op≠.NotIn) au1_._auto_1):behindInMarks op b=false:=by
 have e1:(op==CmpOp.In)=false:=by cases op <;> first | rfl | exact absurd rfl h
 have e2:(op==CmpOp.NotIn)=false:=by cases op <;> first | rfl | exact absurd rfl h2
 cases b <;> simp [behindInMarks,e1,e2]
theorem pe_cmpR {op:CmpOp} {r:R2} (ho:OpR X (compareOp op) r) (ha:PE X a ta) (hb:PE X b tb) (hm:behindInMarks op b=false):PE X (.Compare a [op] [b] pos) (tOp r ta tb):=by
 intro pins s σ H Q I h
 exact wpAny_Compare1 (binT ha hb I h fun v u s2 x y H2 I2 rx ry q=>ho pins s2 σ H2 x y v u Q I2 rx ry q) hm
noncomputable def tTest (t:TE):TT:=fun σ H Q=>t σ H fun x H'=>∃k,x=.bl k∧Q k H'
theorem pt_cmpR {op:CmpOp} {r:R2} (ho:OpR X (compareOp op) r) (ha:PE X a ta) (hb:PE X b tb) (hm:behindInMarks op b=false):PT X (.Compare a [op] [b] pos) (tTest (tOp r ta tb)):=by
 intro pins s σ H Q I h
 refine wpAny_isTrue_Compare1 (thn (ha pins s σ H _ I h) fun v s1 ⟨x,H1,I1,r1,q1⟩=>thn (hb pins s1 σ H1 _ I1 q1) fun u s2 ⟨y,H2,I2,r2,q2⟩=>
  thn (ho pins s2 σ H2 x y v u _ I2 r1 r2 q2) fun c s3 ⟨z,H3,I3,r3,k,e,q3⟩=>?_) hm
 subst e
 cases r3
 exact wpAny_truthy_bool ⟨H3,I3,q3⟩
noncomputable def tChain (r r':R2) (ta tb tc:TE):TE:=fun σ H Q=>ta σ H fun x H1=>tb σ H1 fun y H2=>r x y H2 fun z H3=>∃k,z=.bl k ∧
 (if k=true then tc σ H3 fun w' H4=>r' y w' H4 Q else Q (.bl false) H3)
theorem pt_chain {op op':CmpOp} {r r':R2} (ho:OpR X (compareOp op) r) (ho':OpR X (compareOp op') r') (ha:PE X a ta) (hb:PE X b tb) (hc:PE X c tc)
 (hm:autoParam (lastMarks [op,op'] [b,c]=false) au3_._auto_1):PT X (.Compare a [op,op'] [b,c] pos) (tTest (tChain r r' ta tb tc)):=by
 intro pins s σ H Q I h
 refine isTrue_chain (thn (ha pins s σ H _ I h) fun v s1 ⟨x,H1,I1,r1,q1⟩=>test_link (thn (hb pins s1 σ H1 _ I1 q1) fun u s2 ⟨y,H2,I2,r2,q2⟩=>
  thn (ho pins s2 σ H2 x y v u _ I2 r1 r2 q2) fun d s3 ⟨z,H3,I3,r3,k,e,q3⟩=>?_)) hm
 subst e
 cases r3
 refine wpAny_truthy_bool ?_
 cases k with
 | false=>
   obtain ⟨k',e',q'⟩:=q3
   cases e'
   exact ite_ff ⟨H3,I3,q'⟩
 | true=>
   refine ite_tt (test_last (thn (hc pins s3 σ H3 _ I3 q3) fun w' s4 ⟨z',H4,I4,r4,q4⟩=>thn (ho' pins s4 σ H4 y z' u w' _ I4 r2 r4 q4) fun d' s5 ⟨z2,H5,I5,r5,k2,e2,q5⟩=>?_))
   subst e2
   cases r5
   exact wpAny_truthy_bool ⟨H5,I5,q5⟩

theorem line63:(sizeLine:Nat)<2 ^ 63:=by rw [sizeLine_eq];decide
theorem vals1 {x:V} {us:List Value} (r:Vals [x] us):∃u,us=[u]∧RelV x u:=by
 cases r with
 | cons r1 r2=>cases r2;exact ⟨_,rfl,r1⟩
theorem vals2 {x y:V} {us:List Value} (r:Vals [x,y] us):∃u w',us=[u,w']∧RelV x u∧RelV y w':=by
 cases r with
 | cons r1 r2=>
   cases r2 with
   | cons r3 r4=>cases r4;exact ⟨_,_,rfl,r1,r3⟩
theorem call_abs:CallR X (.builtin "abs") (fun xs H Q=>∃i,xs=[.int i]∧Q (.int (if i<0 then -i else i)) H):=by
 intro pins s σ H xs us Q I r h
 obtain ⟨i,rfl,q⟩:=h
 obtain ⟨u,rfl,t,rfl⟩:=vals1 r
 exact call_abs_int fun u tk=>⟨.int (if i<0 then -i else i),H,I.tok _,⟨_,rfl⟩,q⟩
theorem call_max2 (hc:X.calm=true):CallR X (.builtin "max") (fun xs H Q=>∃i j,xs=[.int i,.int j]∧Q (.int (if j>i then j else i)) H):=by
 intro pins s σ H xs us Q I r h
 obtain ⟨i,j,rfl,q⟩:=h
 obtain ⟨u,w',rfl,⟨t,rfl⟩,⟨t',rfl⟩⟩:=vals2 r
 refine max_two_ints (I.ok.hd hc) fun h' tk k=>⟨_,H,I.kept k,?_,q⟩
 by_cases hj:j>i
 ·rw [if_pos hj,if_pos hj];exact ⟨_,rfl⟩
 ·rw [if_neg hj,if_neg hj];exact ⟨_,rfl⟩
theorem call_min2 (hc:X.calm=true):CallR X (.builtin "min") (fun xs H Q=>∃i j,xs=[.int i,.int j]∧Q (.int (if j<i then j else i)) H):=by
 intro pins s σ H xs us Q I r h
 obtain ⟨i,j,rfl,q⟩:=h
 obtain ⟨u,w',rfl,⟨t,rfl⟩,⟨t',rfl⟩⟩:=vals2 r
 refine min_two_ints (I.ok.hd hc) fun h' tk k=>⟨_,H,I.kept k,?_,q⟩
 by_cases hj:j<i
 ·rw [if_pos hj,if_pos hj];exact ⟨_,rfl⟩
 ·rw [if_neg hj,if_neg hj];exact ⟨_,rfl⟩
theorem call_int1:CallR X (.type "int") (fun xs H Q=>(∃i,xs=[.int i]∧Q (.int i) H)∨∃k,xs=[.bl k]∧Q (.int (if k then 1 else 0)) H):=by
 intro pins s σ H xs us Q I r h
 rcases h with ⟨i,rfl,q⟩ | ⟨k,rfl,q⟩
 ·obtain ⟨u,rfl,t,rfl⟩:=vals1 r
  exact call_int_int ⟨.int i,H,I,⟨_,rfl⟩,q⟩
 ·obtain ⟨u,rfl,r1⟩:=vals1 r
  cases r1
  exact call_int_bool ⟨.int (if k then 1 else 0),H,I.tok _,⟨_,rfl⟩,q⟩
end
end L2

namespace L2
open PySem PySem.Spec PyProof.Rows

structure ObjM (h:Heap) (x dx C:Addr) (mA:Str→Option Value):Prop where
 obj:h.get? x=some (PySem.W.instObj C dx)
 ns:h.Ns1 dx mA
 ne:dx≠x

theorem lookIn_ns {h:Heap} {dx:Addr} {mA:Str→Option Value} (n:h.Ns1 dx mA):∃od,h.get? dx=some od∧∀name,PySem.W.lookIn name od=some (mA name):=by
 obtain ⟨o,es,ep,ho,hd,hk,_,hm⟩:=n
 refine ⟨o,ho,fun name=>?_⟩
 have e:=hm name
 unfold nsFind findBy at e
 rw [← Array.find?_toList] at e
 unfold PySem.W.lookIn
 rw [hd]
 dsimp only
 split
 ·rename_i y q
  rw [q] at e
  exact congrArg some e
 ·rename_i q
  rw [q] at e
  have a:es.toList.any (·.refKey)=false:=by
   rw [List.any_eq_false]
   intro y hy
   obtain ⟨z,t,hkey⟩:=hk y (Array.mem_toList_iff.mp hy)
   simp [DictEntry.refKey,hkey]
  have a':¬es.toList.any (·.refKey)=true:=by rw [a];exact Bool.false_ne_true
  rw [if_neg a']
  exact congrArg some e

theorem ObjM.look {h:Heap} {x dx C:Addr} {mA:Str→Option Value} (I:ObjM h x dx C mA):∃od,PySem.W.InstAt h x (PySem.W.instObj C dx) C (some od)∧∀name,PySem.W.lookIn name od=some (mA name):=
 let ⟨od,ho,hl⟩:=lookIn_ns I.ns
 ⟨od,⟨I.obj,rfl,rfl,ho⟩,hl⟩

section
variable {prog:Program} {w:World} {A:Around} {E:Value→Shared→Prop} {s:Shared} {K:PySem.W.Frag} {x dx C f:Addr} {mA:Str→Option Value} {name:Str} {v:Value}

end

theorem RelO.some_of {v:V} {o:Option Value} (r:RelO (some v) o):∃u,o=some u∧RelV v u:=by
 cases o with
 | none=>exact (show False from r).elim
 | some u=>exact ⟨u,rfl,r⟩
section
variable {P:Program} {w:World} {H H':Hp} {h h':Heap} {a C dx:Addr} {fs fs':List (Str×V)}
theorem ins_get (hok:HOk P w H h) (e:H a=some (.ins C dx fs)):∃mA,ObjM h a dx C mA∧(∀f,RelO (fs.lookup f) (mA f))∧PySem.Within mA (fs.map (·.1))∧fs.length≤1000∧H dx=some (.own a):=by
 obtain ⟨d,z,ne,ob,mA,n,r,q⟩:=(show ObjOk P w H h a (.ins C dx fs) from hok a _ e)
 exact ⟨mA,⟨ob,n,ne⟩,r,q,z,d⟩
end

structure Cls (K:PySem.W.Frag) (C:Addr):Prop where
 pg:PySem.W.plainGet K C Str.empty=true
 hd:PySem.W.hasDictIn K C=true
 po:PySem.W.plainOver K C=true
 sa:PySem.W.findIn K (.ref C) "__setattr__"=some (some (.builtin "object.__setattr__"))
theorem Cls.get {K:PySem.W.Frag} {C:Addr} (c:Cls K C) (f:Str):PySem.W.plainGet K C f=true:=c.pg
section
variable {X:Cx} {pins:List (Addr×Obj)} {σ:St} {H:Hp} {s:Shared} {a C dx:Addr} {fs:List (Str×V)} {f:Str} {v:V} {A:Around} {E:Value→Shared→Prop}

end

section
variable {X:Cx} {o e value:Expr} {f:Str} {pos pos' tpos:Pos} {ta tv:TE}
end

section
variable {X:Cx} {pins:List (Addr×Obj)} {σ:St} {H:Hp} {s:Shared} {A:Around} {E:Value→Shared→Prop} {Q:Value→Shared→Prop} {c:Value} {b:Bool}
inductive TyOf (K:PySem.W.Frag) (H:Hp):V→Value→Prop where
 | non:TyOf K H .non (.type "NoneType")
 | bl (x:Bool):TyOf K H (.bl x) (.type "bool")
 | int (i:Int):TyOf K H (.int i) (.type "int")
 | str (x:Str):TyOf K H (.str x) (.type "str")
 | flt (x:UInt64):TyOf K H (.flt x) (.type "float")
 | lst {a:Addr} {xs:List V} (e:H a=some (.lst xs)):TyOf K H (.ref a) (.type "list")
 | frz {a:Addr} {o:Obj} {xs:List V} (e:H a=some (.frz o (.lst xs))):TyOf K H (.ref a) (.type "list")
 | tup {a:Addr} {xs:List V} (e:H a=some (.tup xs)):TyOf K H (.ref a) (.type "tuple")
 | dK {a:Addr} {kvs:List (Key×V)} (e:H a=some (.dK kvs)):TyOf K H (.ref a) (.type "dict")
 | dT {a:Addr} {kvs:List (List Key×V)} (e:H a=some (.dT kvs)):TyOf K H (.ref a) (.type "dict")
 | ins {a C dx:Addr} {fs:List (Str×V)} (e:H a=some (.ins C dx fs)) (cl:Cls K C) (ha:PySem.W.findIn K (.ref C) "__class__"=some (some (.builtin "object.__class__")))
  (hn:PySem.W.specialIn K (.builtin "object.__class__") "__get__"=some (some (.builtin "getset_descriptor.__get__"))) (htk:PySem.W.takesIn K (.builtin "object.__class__")=some true)
  (hm:PySem.W.mroIn K C (.type "object")=some true):TyOf K H (.ref a) (.ref C)
theorem isinst_ok {x:V} {u t:Value} (I:Inv X pins σ H s) (rx:RelV x u) (ty:TyOf X.K H x t) (e:PySem.W.kitOne X.K t c=some b) (h:∀tk,Q (.bool b) { s with toks:=tk }) :
 wpAny (model X.prog X.w) A (call (.builtin "isinstance") [u,c]) Q E s:=by
 cases ty with
 | non=>cases (show u=Value.none from rx);exact PySem.W.kia_one PySem.W.kitx_none I.kIn True.intro e (fun z=>nomatch z) h
 | bl y=>cases (show u=Value.bool y from rx);exact PySem.W.kia_one PySem.W.kitx_bool I.kIn True.intro e (fun z=>nomatch z) h
 | int i=>obtain ⟨t,q⟩:=(show ∃t,u=Value.int i t from rx);cases q;exact PySem.W.kia_one PySem.W.kitx_int I.kIn True.intro e (fun z=>nomatch z) h
 | str y=>obtain ⟨t,q⟩:=(show ∃t,u=Value.str y t from rx);cases q;exact PySem.W.kia_one PySem.W.kitx_str I.kIn True.intro e (fun z=>nomatch z) h
 | flt y=>obtain ⟨t,q⟩:=(show ∃t,u=Value.float y t from rx);cases q;exact PySem.W.kia_one PySem.W.kitx_float I.kIn True.intro e (fun z=>nomatch z) h
 | @lst a xs ea=>
   cases (show u=Value.ref a from rx)
   obtain ⟨_,_,n,_,h1⟩:=(show ObjOk X.prog X.w H s.heap a (.lst xs) from I.hok a _ ea)
   exact PySem.W.kia_one PySem.W.kitx_list I.kIn ⟨_,h1,rfl⟩ e (fun z=>nomatch z) h
 | @frz a ob xs ea=>
   cases (show u=Value.ref a from rx)
   obtain ⟨_,_,_,n,_,h1⟩:=(show ObjOk X.prog X.w H s.heap a (.frz ob (.lst xs)) from I.hok a _ ea)
   exact PySem.W.kia_one PySem.W.kitx_list I.kIn ⟨_,h1,rfl⟩ e (fun z=>nomatch z) h
 | @tup a xs ea=>
   cases (show u=Value.ref a from rx)
   obtain ⟨_,_,_,p⟩:=(show ObjOk X.prog X.w H s.heap a (.tup xs) from I.hok a _ ea)
   obtain ⟨o,h1,h2,_⟩:=p
   exact PySem.W.kia_one PySem.W.kitx_tuple I.kIn ⟨o,h1,h2⟩ e (fun z=>nomatch z) h
 | @dK a kvs ea=>
   cases (show u=Value.ref a from rx)
   obtain ⟨_,_,vs,_,p⟩:=(show ObjOk X.prog X.w H s.heap a (.dK kvs) from I.hok a _ ea)
   obtain ⟨o,es,ep,h1,h2,_⟩:=p
   exact PySem.W.kia_one PySem.W.kitx_dict I.kIn ⟨o,h1,h2.1⟩ e (fun z=>nomatch z) h
 | @dT a kvs ea=>
   cases (show u=Value.ref a from rx)
   obtain ⟨_,_,xs,_,o,es,ep,h1,h2,_⟩:=(show ObjOk X.prog X.w H s.heap a (.dT kvs) from I.hok a _ ea)
   exact PySem.W.kia_one PySem.W.kitx_dict I.kIn ⟨o,h1,h2.1⟩ e (fun z=>nomatch z) h
 | @ins a C dx fs ea cl ha hn htk hm=>
   cases (show u=Value.ref a from rx)
   obtain ⟨mA,O,_⟩:=ins_get I.hok ea
   obtain ⟨od,J,_⟩:=O.look
   exact PySem.W.kia_one (PySem.W.kitx_own (cl.get _) cl.hd ha hn htk hm) I.kIn J e (fun z=>nomatch z) h
end
end L2

namespace L2
open PySem PySem.Spec PyProof.Rows

structure Room (k:Nat) (A:Around):Prop where
 hd:A.handled=none
 dp:A.depth+3*k+5<recursionLimit
 un:A.units+16*k+200<cLine
theorem Room.mono {j k:Nat} {A:Around} (r:Room k A) (h:j≤k):Room j A:=⟨r.hd,by have:=r.dp;omega,by have:=r.un;omega⟩
theorem Room.deeper {k:Nat} {A:Around} (r:Room (k+1) A) (env:Env):Room k (A.deeper env):=
 ⟨r.hd,by have:=r.dp;show A.depth+1+3*k+5<_;omega,by have:=r.un;show A.units+3+16*k+200<_;omega⟩
theorem Room.depth {k:Nat} {A:Around} (r:Room k A):A.depth<recursionLimit:=by have:=r.dp;omega
theorem Room.units {k:Nat} {A:Around} (r:Room k A):A.units+64<cLine:=by have:=r.un;omega
noncomputable def tNil:TA:=fun _ H Q=>Q [] H
noncomputable def tCons (ta:TE) (tr:TA):TA:=fun σ H Q=>ta σ H fun x H1=>tr σ H1 fun xs H2=>Q (x::xs) H2
section
variable {X:Cx} {e:Expr} {es:List Expr} {te:TE} {t:TA} {pos:Pos}
theorem pa_nil:PA X [] tNil:=fun _ _ _ _ H Q I h=>Calls.spliced_nil ⟨[],H,I,.nil,h⟩
theorem pa_cons (ha:PE X e te) (hr:PA X es t) (hs:autoParam (starEach (e::es) X.env=(false,eval e X.env)::starEach es X.env) au0_._auto_1):PA X (e::es) (tCons te t):=by
 intro pos pins s σ H Q I h
 rw [hs]
 show wpAny _ _ (spliced ((false,eval e X.env)::backTo pos (starEach es X.env))) _ _ s
 refine Calls.spliced_cons (thn (ha pins s σ H _ I h) fun u s1 ⟨x,H1,I1,r1,q1⟩=>?_)
 exact thn (hr pos pins s1 σ H1 _ I1 q1) fun us s2 ⟨xs,H2,I2,r2,q2⟩=>⟨x::xs,H2,I2,.cons r1 r2,q2⟩

noncomputable def tTup (t:TA):TE:=fun σ H Q=>t σ H fun xs H1=>xs.length≤sizeLine∧∀p,H1 p=none→Q (.ref p) (upd H1 p (.tup xs))
noncomputable def tLst (t:TA):TE:=fun σ H Q=>t σ H fun xs H1=>xs.length≤sizeLine∧∀p,H1 p=none→Q (.ref p) (upd H1 p (.lst xs))
theorem pe_tup {x1} (h:PA X es t):PE X (.Tuple es x1 pos) (tTup t):=by
 intro pins s σ H Q I hq
 refine wpAny_Tuple_spliced (thn (h pos pins s σ H _ I hq) fun us s1 ⟨xs,H1,I1,r,z,q⟩=>⟨by rw [← r.length];exact z,?_⟩)
 have hf:H1 s1.heap.objs.size=none:=I1.hok.fresh (Nat.le_refl _)
 refine ⟨.ref s1.heap.objs.size,upd H1 s1.heap.objs.size (.tup xs),I1.laid (t':=s1.toks) (fun b u e=>Heap.get?_push_of_some _ e) (Nat.le_refl _) ?_,rfl,q _ hf⟩
 exact ⟨z,us,r,⟨_,Heap.get?_push_size _ rfl,rfl,_,rfl⟩⟩
theorem pe_lst (h:PA X es t):PE X (.List es pos) (tLst t):=by
 intro pins s σ H Q I hq
 refine wpAny_List_spliced (thn (h pos pins s σ H _ I hq) fun us s1 ⟨xs,H1,I1,r,z,q⟩=>⟨by rw [← r.length];exact z,?_⟩)
 have hf:H1 s1.heap.objs.size=none:=I1.hok.fresh (Nat.le_refl _)
 refine ⟨.ref s1.heap.objs.size,upd H1 s1.heap.objs.size (.lst xs),I1.laid (t':=s1.toks) (fun b u e=>Heap.get?_push_of_some _ e) (Nat.le_refl _) ?_,rfl,q _ hf⟩
 exact ⟨z,us,0,r,Heap.get?_push_size _ rfl⟩
end

noncomputable abbrev Sp:=List V→Hp→VK→XK→Prop
noncomputable abbrev CXT:=List Env→Hp→Shared→XK→Value→Shared→Prop

structure Env0 (P:Program) (w:World) (K:PySem.W.Frag) (mg:Str→Option Value) (base:Heap) (A:Around) (outer:List Env) (s:Shared) (H:Hp):Prop where
 frames:A.frames=some outer
 mod:Mod K mg base
 bs:∀b o,base.get? b=some o→s.heap.get? b=some o∧H b=none
 bsz:base.objs.size≤s.heap.objs.size
 funs:s.heap.FunFrames base outer
 frf:∀b∈frs outer,H b=none
 hok:HOk P w H s.heap
 bare:AllBare s.gens
noncomputable def CE (outer:List Env) (P:Program) (w:World) (H:Hp) (s:Shared) (Q:VK) (u:Value) (s':Shared):Prop:=
 ∃v H',s'.os=s.os∧AllBare s'.gens∧Un (frs outer) [] H H' s.heap s'.heap∧HOk P w H' s'.heap∧RelV v u∧Q v H'
noncomputable def CR (CX:CXT) (outer:List Env) (P:Program) (w:World) (H:Hp) (s:Shared) (Q:VK) (E:XK) (r:Result) (s':Shared):Prop:=
 match r with
 | .ok (.ret u)=>CE outer P w H s Q u s'
 | .ok _=>False
 | .error e=>CX outer H s E e s'
structure FnOk (P:Program) (w:World) (K:PySem.W.Frag) (mg:Str→Option Value) (base:Heap) (CX:CXT) (k:Nat) (f:Addr) (fd:FuncData) (ps:List Str) (sp:Sp):Prop where
 len:∀vs H Q E,sp vs H Q E→vs.length=ps.length
 run:∀(A:Around) (outer:List Env) (s:Shared) (H:Hp) (args:Args) (us:List Value) (vs:List V) (Q:VK) (E:XK),Room k A→Env0 P w K mg base A outer s H→BindsTo s fd args (ps.zip us)→Vals vs us→sp vs H Q E →
  codeAny (model P w) A (.call (.ref f) args) (CR CX outer P w H s Q E) s
section
variable {X:Cx} {pins:List (Addr×Obj)} {σ:St} {H:Hp} {s s':Shared}
theorem Inv.env0 (I:Inv X pins σ H s):Env0 X.prog X.w X.K X.mg X.base X.A X.stack s H:=
 ⟨I.ok.frames,I.ok.mod,I.bs,Nat.le_trans I.ok.bsz I.sz,I.stack,I.stkFree,I.hok,I.bare⟩
theorem Inv.after {Q:VK} {u:Value} (I:Inv X pins σ H s) (h:CE X.stack X.prog X.w H s Q u s'):EP X pins σ Q u s':=by
 obtain ⟨v,H',os,bare,un,hok,r,q⟩:=h
 obtain ⟨hh,g,d,t,os'⟩:=s'
 obtain rfl:os'=s.os:=os
 exact ⟨v,H',I.call (h':=hh) (g':=g) (d':=d) (t':=t) (ch:=[]) un hok bare (fun b z=>absurd z (by simp)),r,q⟩
end

noncomputable def tCall (sp:Sp) (dvs:List V) (E:XK) (t:TA):TE:=fun σ H Q=>t σ H fun vs H1=>sp (vs++dvs) H1 Q E
noncomputable def Binds (K:PySem.W.Frag) (fd:FuncData) (ps:List Str) (ds:List Value):Prop:=
 ∀(s:Shared) (us:List Value),K.In s.heap→(us++ds).length=ps.length→BindsTo s fd ⟨us,[]⟩ (ps.zip (us++ds))
theorem Binds.all {K:PySem.W.Frag} {fd:FuncData} {ps:List Str} (h:∀us:List Value,us.length=ps.length→bindArgs fd ⟨us,[]⟩=pure (ps.zip us)):Binds K fd ps []:=fun s us _ hl=>by
 rw [List.append_nil] at hl ⊢
 exact .of_eq (h us hl)

noncomputable def Passes (CX:CXT) (X:Cx) (E:XK):Prop:=∀(pins:List (Addr×Obj)) (σ:St) (H:Hp) (s:Shared) (e:Value) (s':Shared),Inv X pins σ H s→CX X.stack H s E e s'→X.xe e s'

section
variable {X:Cx} {CX:CXT} {k:Nat} {f C:Addr} {fd:FuncData} {ps:List Str} {sp:Sp} {dvs:List V} {ds:List Value} {E:XK} {x m:Str} {p pos apos:Pos} {e o:Expr} {es:List Expr} {ta:TE} {t:TA}

theorem run_fn {pins:List (Addr×Obj)} {σ:St} {H:Hp} {s:Shared} {Q:VK} {us:List Value} {vs:List V} (F:FnOk X.prog X.w X.K X.mg X.base CX k f fd ps sp) (hr:Room k X.A) (hb:Binds X.K fd ps ds) (hd:Vals dvs ds) (hx:Passes CX X E)
 (I:Inv X pins σ H s) (r:Vals vs us) (h:sp (vs++dvs) H Q E):wpAny (model X.prog X.w) X.A (call (.ref f) us) (EP X pins σ Q) X.xe s:=by
 have r2:Vals (vs++dvs) (us++ds):=r.append hd
 have hl:(us++ds).length=ps.length:=by rw [← r2.length];exact F.len _ _ _ _ h
 refine wpAny_call (codeAny_mono (F.run X.A X.stack s H ⟨us,[]⟩ (us++ds) (vs++dvs) Q E hr I.env0 (hb s us I.kIn hl) r2 h) fun r s' hq=>?_)
 cases r with
 | error e=>exact hx pins σ H s e s' I hq
 | ok fl=>
   cases fl with
   | ret u=>exact I.after hq
   | next=>exact False.elim hq
   | brk=>exact False.elim hq
   | cont=>exact False.elim hq

theorem pe_call (F:FnOk X.prog X.w X.K X.mg X.base CX k f fd ps sp) (hr:Room k X.A) (hg:Gl X x) (hm:X.mg x=some (.ref f)) (hk:PySem.W.keepIn X.K (.ref f)=true) (hb:Binds X.K fd ps ds) (hd:Vals dvs ds) (hx:Passes CX X E)
 (ha:PA X (e::es) t) (hdb:autoParam ((x==("__debug__":Str))=false) au1_._auto_1) (he:autoParam (starEach (e::es) X.env=(false,eval e X.env)::starEach es X.env) au0_._auto_1) (hpl:autoParam ((backTo pos (starEach es X.env)).any (·.1)=false) au0_._auto_1) :
 PE X (.Call (.Name x p) (e::es) [] pos) (tCall sp dvs E t):=by
 intro pins s σ H Q I h
 refine wpAny_Call_Name_kw (ld_glob I hg hm ?_ hdb)
 refine PySem.W.callWith_K (h₀:=X.base) I.ok.mod.kin hk (thn (ha pos pins s σ H _ I h) fun us s1 ⟨vs,H1,I1,r,q⟩=>⟨I1.kIn,?_⟩) he hpl
 exact run_fn F hr hb hd hx I1 r q
end

section
variable {X:Cx} {CX:CXT} {k:Nat} {f C:Addr} {fd:FuncData} {ps ks:List Str} {sp:Sp} {E:XK} {x m:Str} {p pos apos kpos:Pos} {e o:Expr} {es:List Expr} {kws:List Keyword} {te ta:TE} {t tk:TA} {nm:Option Str}
variable {g:List Value→List Value→List Value} {gV:List V→List V→List V}
end

structure FnScope (N P:List Str) (sc:Scope):Prop where
 kind:sc.kind=.function
 co:sc.isCoroutine=false
 gen:sc.isGenerator=false
 nd:N.Nodup
 pre:N.take P.length=P
 par:∀x∈P,sc.names.lookup x=some .local∨sc.names.lookup x=some .cell
 nofree:∀y∈sc.names,y.2≠.free

theorem bindL_out {kindOf:Str→Option NameKind} {x:Str}:∀{binds:List (Str×Value)} {m:Str→Option Value},(∀v,(x,v)∉binds)→bindL kindOf binds m x=m x
 | [],_,_=>rfl
 | (n,v)::r,m,h=>by
   unfold bindL
   rw [bindL_out fun w hw=>h w (List.mem_cons_of_mem _ hw)]
   split
   ·have:x≠n:=by rintro rfl;exact h v List.mem_cons_self
    simp [this]
   ·rfl
theorem bindC_out {kindOf:Str→Option NameKind} {x:Str}:∀{binds:List (Str×Value)} {m:Str→Option Value},(∀v,(x,v)∉binds)→bindC kindOf binds m x=m x
 | [],_,_=>rfl
 | (n,v)::r,m,h=>by
   unfold bindC
   rw [bindC_out fun w hw=>h w (List.mem_cons_of_mem _ hw)]
   split
   ·rfl
   ·have:x≠n:=by rintro rfl;exact h v List.mem_cons_self
    simp [this]
theorem bindL_get {kindOf:Str→Option NameKind} {x:Str} {v:Value}:∀{P:List Str} {vs:List Value} {i:Nat} {m:Str→Option Value},P.Nodup→P[i]?=some x→vs[i]?=some v→kindOf x=some .local →
 bindL kindOf (P.zip vs) m x=some v
 | [],_,_,_,_,h,_,_=>by simp at h
 | _::_,[],_,_,_,_,h,_=>by simp at h
 | p::P,w::vs,0,m,nd,h1,h2,hk=>by
   simp at h1 h2;subst h1;subst h2
   show bindL kindOf ((p,w)::P.zip vs) m p=_
   unfold bindL
   rw [bindL_out fun v hv=>(List.nodup_cons.mp nd).1 (List.of_mem_zip hv).1,if_pos hk]
   simp
 | p::P,w::vs,i+1,m,nd,h1,h2,hk=>by
   show bindL kindOf ((p,w)::P.zip vs) m x=_
   unfold bindL
   exact bindL_get (i:=i) (List.nodup_cons.mp nd).2 (by simpa using h1) (by simpa using h2) hk
theorem bindC_get {kindOf:Str→Option NameKind} {x:Str} {v:Value}:∀{P:List Str} {vs:List Value} {i:Nat} {m:Str→Option Value},P.Nodup→P[i]?=some x→vs[i]?=some v→kindOf x≠some .local →
 bindC kindOf (P.zip vs) m x=some v
 | [],_,_,_,_,h,_,_=>by simp at h
 | _::_,[],_,_,_,_,h,_=>by simp at h
 | p::P,w::vs,0,m,nd,h1,h2,hk=>by
   simp at h1 h2;subst h1;subst h2
   show bindC kindOf ((p,w)::P.zip vs) m p=_
   unfold bindC
   rw [bindC_out fun v hv=>(List.nodup_cons.mp nd).1 (List.of_mem_zip hv).1,if_neg hk]
   simp
 | p::P,w::vs,i+1,m,nd,h1,h2,hk=>by
   show bindC kindOf ((p,w)::P.zip vs) m x=_
   unfold bindC
   exact bindC_get (i:=i) (List.nodup_cons.mp nd).2 (by simpa using h1) (by simpa using h2) hk

noncomputable def start (N:List Str) (vs:List V):St:=vs.map some++List.replicate (N.length-vs.length) none

noncomputable def cxOf (CX:CXT) (P:Program) (w:World) (K:PySem.W.Frag) (mg:Str→Option Value) (base:Heap) (N:List Str) (qual:Str) (scope:Scope) (f:Addr) (cd:Value) (A:Around) (outer:List Env) (s:Shared) (H:Hp) (E:XK):Cx where
 prog:=P
 w:=w
 K:=K
 mg:=mg
 base:=base
 A:=A.deeper (envOfC qual scope s.heap.objs.size f cd)
 N:=N
 s₀:=s
 H₀:=H
 env:=envOfC qual scope s.heap.objs.size f cd
 outer:=outer
 stack:=envOfC qual scope s.heap.objs.size f cd::outer
 ex:=[]
 calm:=true
 fn:=fun _=>true
 pn:=[]
 xe:=fun e s'=>wpAny (model P w) (A.deeper (envOfC qual scope s.heap.objs.size f cd)) (leaving (envOfC qual scope s.heap.objs.size f cd) e) (fun _ s''=>CX outer H s E e s'') (fun e' s''=>CX outer H s E e' s'') s'

theorem cell_has {sc:Scope} {n:Nat} {x:Str} (h:sc.names.lookup x=some .cell):∃c,(cellsFrom n sc.names []).lookup x=some c:=by
 have q:=PySem.W.cellsFrom_some sc.names n [] (.inl h)
 exact Option.isSome_iff_exists.mp q

theorem inv_start {CX:CXT} {P:Program} {w:World} {K:PySem.W.Frag} {mg:Str→Option Value} {base:Heap} {N ps:List Str} {qual:Str} {scope:Scope} {f:Addr} {cd:Value} {A:Around} {outer:List Env} {s s1:Shared} {H:Hp} {E:XK} {us:List Value} {vs:List V}
 (S:FnScope N ps scope) (hd:A.handled=none) (e0:Env0 P w K mg base A outer s H) (hl:vs.length=ps.length) (r:Vals vs us)
 (x:InCallC s s.heap.objs.size (bindL (envOfC qual scope s.heap.objs.size f cd).kindOf (ps.zip us) fun _=>none) (cellsFrom (s.heap.objs.size+1) scope.names []) (bindC (envOfC qual scope s.heap.objs.size f cd).kindOf (ps.zip us) fun _=>none) s1) :
 Inv (cxOf CX P w K mg base N qual scope f cd A outer s H E) [] (start N vs) H s1:=by
 have hpl:ps.length≤N.length:=by have:=congrArg List.length S.pre;rw [List.length_take] at this;omega
 obtain ⟨h1,tk,rfl,hk⟩:=x.done
 have noA:∀b:Addr,b∉(cxOf CX P w K mg base N qual scope f cd A outer s H E).ex:=fun b z=>absurd (show b∈([]:List Addr) from z) (by simp)
 refine ⟨⟨e0.mod,S.kind,rfl,rfl,Nat.le_refl _,fun y z c h1 h2=>?_,fun y hy=>?_,fun y c _ h=>?_,fun _=>hd,Around.frames_deeper e0.frames,.inr ⟨rfl,rfl⟩,fun b z=>absurd z (noA b),e0.bs,e0.bsz,fun b _ _=>noA b,fun b z=>absurd z (noA b),e0.funs,e0.frf⟩,
  rfl,e0.bare,Un.kept hk,⟨_,x.toInCall.ns,fun i y v h1 h2 h3=>?_⟩,fun y c h=>⟨_,x.cell y c h⟩,e0.hok.fresh (Nat.le_refl _),fun y c h=>?_,fun p hp=>absurd (show p∈([]:List (Addr×Obj)) from hp) (by simp),e0.hok.kept hk,?_⟩
 ·exact name_of_addr x.apart (PySem.mem_of_lookup h1) (PySem.mem_of_lookup h2)
 ·have hy:scope.names.lookup y=some .cell∨scope.names.lookup y=some .free:=hy
  rcases hy with hy | hy
  ·exact cell_has hy
  ·exact absurd rfl (S.nofree _ (PySem.mem_of_lookup hy))
 ·exact Nat.le_of_lt (x.above y c (PySem.mem_of_lookup h))
 ·have hi:i<vs.length:=by
   unfold start at h2
   by_cases hi:i<vs.length
   ·exact hi
   ·rw [List.getElem?_append_right (by simpa using hi)] at h2
    rw [List.getElem?_replicate] at h2
    split at h2 <;> cases h2
  have ha:vs[i]?=some v:=by
   unfold start at h2
   rw [List.getElem?_append_left (by simpa using hi),List.getElem?_map] at h2
   cases e:vs[i]? with
   | none=>rw [e] at h2;cases h2
   | some a=>rw [e] at h2;cases h2;rfl
  obtain ⟨u,hu,rv⟩:=r.get ha
  have hp:ps[i]?=some y:=by
   rw [← S.pre,List.getElem?_take_of_lt (by omega)];exact h1
  have ndP:ps.Nodup:=by rw [← S.pre];exact S.nd.sublist (List.take_sublist _ _)
  refine ⟨u,rv,?_⟩
  rcases S.par y (List.mem_of_getElem? hp) with k | k
  ·exact .inl ⟨k,bindL_get ndP hp hu k⟩
  ·obtain ⟨c,e⟩:=cell_has (n:=s.heap.objs.size+1) k
   refine .inr ⟨.inl k,c,e,?_⟩
   have q:=x.cell y c e
   rw [bindC_get ndP hp hu (by show scope.names.lookup y≠_;rw [k];decide)] at q
   exact q
 ·exact e0.hok.fresh (Nat.le_of_lt (x.above y c (PySem.mem_of_lookup h)))
 ·unfold start
  show _=N.length
  rw [List.length_append,List.length_map,List.length_replicate]
  omega

theorem fn_of {CX:CXT} {P:Program} {w:World} {K:PySem.W.Frag} {mg:Str→Option Value} {base:Heap} {k:Nat} {f:Addr} {name qual:Str} {params:Arguments} {body:List Stmt} {scope:Scope} {dV kV doc pm cdv ct oc:Value} {an od:Option Addr}
 {osl:Array (Option Value)} {N ps:List Str} {sp:Sp} (lk:K.lookup f=some ⟨oc,od,.func (PySem.W.fnOf name qual params body scope dV kV doc pm an cdv ct),osl⟩) (hcd:PySem.W.codeIn K cdv qual=true) (S:FnScope N ps scope)
 (len:∀vs H Q E,sp vs H Q E→vs.length=ps.length)
 (hbody:∀(A:Around) (outer:List Env) (s:Shared) (H:Hp) (vs:List V) (Q:VK) (E:XK),Room k (A.deeper (envOfC qual scope s.heap.objs.size f cdv))→sp vs H Q E →
   ∃t,PSs (cxOf CX P w K mg base N qual scope f cdv A outer s H E) body t∧t { nx:=fun _ H'=>Q .non H',rt:=Q } (start N vs) H) :
 FnOk P w K mg base CX (k+1) f (PySem.W.fnOf name qual params body scope dV kV doc pm an cdv ct) ps sp:=by
 refine ⟨len,fun A outer s H args us vs Q E hr e0 hb r hsp=>?_⟩
 have hl:=len _ _ _ _ hsp
 have KX:K.In s.heap:=e0.mod.kin.keeps fun b o e=>(e0.bs b o e).1
 have lim:s.heap.NoLimit:=e0.mod.nolimit.keeps fun b o e=>(e0.bs b o e).1
 have hkind:∀y∈ps.zip us,scope.names.lookup y.1=some .local∨(scope.names.lookup y.1=some .cell∧((cellsFrom (s.heap.objs.size+1) scope.names []).lookup y.1).isSome=true):=fun ⟨n,v⟩ hy=>by
  rcases S.par n (List.of_mem_zip hy).1 with q | q
  ·exact .inl q
  ·exact .inr ⟨q,PySem.W.cellsFrom_some _ _ _ (.inl q)⟩
 refine codeAny_call_function hr.depth (KX _ _ lk) rfl S.co S.gen rfl (PySem.W.codeRec_of KX hcd) (hb _ _ _ _ ?_)
 refine wpAny_newFunctionEnv_cells S.kind hkind fun env he s1 x=>?_
 subst he
 refine ⟨lim.keeps x.toInCall.keep,codeAny_func ?_⟩
 obtain ⟨t,ht,hq⟩:=hbody A outer s H vs Q E (hr.deeper _) hsp
 have I:Inv (cxOf CX P w K mg base N qual scope f cdv A outer s H E) [] (start N vs) H s1:=inv_start S hr.hd e0 hl r x
 refine wpAny_mono (ht [] s1 (start N vs) H _ I hq) (fun fl s' hs=>?_) fun e s' hs=>hs
 have fin:∀{σ':St} {H':Hp} {v:V} {u:Value},Inv (cxOf CX P w K mg base N qual scope f cdv A outer s H E) [] σ' H' s'→RelV v u→Q v H'→CE outer P w H s Q u s':=
  fun {σ' H' v u} J rv q=>⟨v,H',J.os,J.bare,J.base,J.hok,rv,q⟩
 cases fl with
 | ret u=>
   obtain ⟨v,σ',H',J,rv,q⟩:=hs
   exact fin J rv q
 | next=>
   obtain ⟨σ',H',J,q⟩:=hs
   exact fin (v:=V.non) (u:=Value.none) J rfl q
 | brk=>
   obtain ⟨_,_,_,q⟩:=hs
   exact False.elim q
 | cont=>
   obtain ⟨_,_,_,q⟩:=hs
   exact False.elim q
end L2

namespace L2
open PySem PySem.Spec PyProof.Rows
section
variable {X:Cx} {x:Str} {p pos:Pos} {e:Expr} {es:List Expr} {t:TA} {id T:String} {r:List V→Hp→VK→Prop}

noncomputable def tCB (r:List V→Hp→VK→Prop) (t:TA):TE:=fun σ H Q=>t σ H fun vs H1=>r vs H1 Q
theorem pe_callB (hc:CallR X (.builtin id) r) (hg:Gl X x) (hm:X.mg x=none) (hv:bootBuiltins x=some (.builtin id)) (ha:PA X (e::es) t) (hn:autoParam (x ≠ "__name__") au1_._auto_1) (hdb:autoParam ((x==("__debug__":Str))=false) au1_._auto_1)
 (he:autoParam (starEach (e::es) X.env=(false,eval e X.env)::starEach es X.env) au0_._auto_1) (hpl:autoParam ((backTo pos (starEach es X.env)).any (·.1)=false) au0_._auto_1):PE X (.Call (.Name x p) (e::es) [] pos) (tCB r t):=by
 intro pins s σ H Q I h
 refine wpAny_Call_Name_kw (ld_blt I hg hm hv ?_ hn hdb)
 exact PyProof.Rows.callWith_builtin1 (thn (ha pos pins s σ H _ I h) fun us s1 ⟨vs,H1,I1,r1,q1⟩=>hc pins s1 σ H1 vs us Q I1 r1 q1) he hpl
theorem pe_callTy (hc:CallR X (.type T) r) (hg:Gl X x) (hm:X.mg x=none) (hv:bootBuiltins x=some (.type T)) (ha:PA X (e::es) t) (hn:autoParam (x ≠ "__name__") au1_._auto_1) (hdb:autoParam ((x==("__debug__":Str))=false) au1_._auto_1)
 (he:autoParam (starEach (e::es) X.env=(false,eval e X.env)::starEach es X.env) au0_._auto_1) (hpl:autoParam ((backTo pos (starEach es X.env)).any (·.1)=false) au0_._auto_1):PE X (.Call (.Name x p) (e::es) [] pos) (tCB r t):=by
 intro pins s σ H Q I h
 refine wpAny_Call_Name_kw (ld_blt I hg hm hv ?_ hn hdb)
 exact PyProof.Rows.callWith_type1 (thn (ha pos pins s σ H _ I h) fun us s1 ⟨vs,H1,I1,r1,q1⟩=>hc pins s1 σ H1 vs us Q I1 r1 q1) he hpl
end
end L2

namespace HT
open PySem PyProof.Rows

section
open PySem.SeqAt
open PySem.AutoSeq1 (wpAny_loadPart')
open PySem.MeetsSeq PySem.MeetsSeq2 PySem.MeetsSeq3

end

section
variable {prog:Program} {w:World} {A:Around} {E:Value→Shared→Prop} {s:Shared}

theorem cat_tup {t b:Addr} {vs ws:List Value} {Q:Value→Shared→Prop} (ht:IsTup s.heap t vs.toArray) (hb:IsTup s.heap b ws.toArray) (hv:vs≠[])
 (h1:ws=[]→Q (.ref t) s) (h2:ws≠[]→Q (.ref s.heap.objs.size) { s with heap:=s.heap.push { cls:=.type "tuple",data:=.seq (vs++ws).toArray } })
 (hsz:vs.length+ws.length≤sizeLine):wpAny (model prog w) A (binaryOp .Add (.ref t) (.ref b)) Q E s:=by
 obtain ⟨⟨cls,dd,data,sl⟩,ho,hc,n,hd⟩:=id ht
 obtain ⟨⟨cls2,dd2,data2,sl2⟩,ho2,hc2,n2,hd2⟩:=id hb
 simp only at hc hd hc2 hd2
 subst hc hd hc2 hd2
 have e:vs.toArray++ws.toArray=(vs++ws).toArray:=by simp
 by_cases hw:ws=[]
 ·exact concat_meets ⟨_,ho,rfl⟩ ⟨_,ho2,rfl⟩ noFill_tuple_add seq_tuple_add PySem.F.slot_tuple_add PySem.F.entry_tuple_add (PySem.F.args_tuple_add_2 _ _)
   (tuple_addW1 t b vs.toArray ws.toArray n n2 dd dd2 sl sl2 (by simpa using hv) (by simp [hw])) ⟨ho,ho2,h1 hw⟩
 ·refine concat_meets ⟨_,ho,rfl⟩ ⟨_,ho2,rfl⟩ noFill_tuple_add seq_tuple_add PySem.F.slot_tuple_add PySem.F.entry_tuple_add (PySem.F.args_tuple_add_2 _ _)
   (tuple_addW2 t b vs.toArray ws.toArray n n2 dd dd2 sl sl2 (by simpa using hv) (by simpa using hw) (by rw [List.size_toArray,List.size_toArray];exact hsz)) ⟨ho,ho2,?_⟩
  rw [e]
  exact h2 hw

noncomputable def sIx (n d:Nat):Option Int→Nat
 | none=>d
 | some v=>if v<0 then (v+(n:Int)).toNat else min v.toNat n
theorem sIx_nat (n d k:Nat):sIx n d (some (k:Int))=min k n:=by
 show (if (k:Int)<0 then ((k:Int)+(n:Int)).toNat else min (k:Int).toNat n)=min k n
 rw [if_neg (by omega),Int.toNat_natCast]
end
end HT

namespace L2
open PySem PySem.Spec PyProof.Rows

noncomputable abbrev TO:=St→Hp→(Option Int→Hp→Prop)→Prop
noncomputable def PO (X:Cx) (e:Option Expr) (t:TO):Prop:=
 ∀(pins:List (Addr×Obj)) (s:Shared) (σ:St) (H:Hp) (Q:Option Int→Hp→Prop),Inv X pins σ H s→t σ H Q →
  wpAny (model X.prog X.w) X.A (evalPart e X.env) (fun u s'=>∃o H',Inv X pins σ H' s'∧IsPart u o∧Q o H') X.xe s
noncomputable def tNoPart:TO:=fun _ H Q=>Q none H
noncomputable def tPart (t:TE):TO:=fun σ H Q=>t σ H fun x H1=>∃i,x=.int i∧Q (some i) H1

theorem intsAre_of {ns:List Int}:∀{us:List Value},Vals (ns.map V.int) us→IntsAre us ns:=by
 induction ns with
 | nil=>intro us r;rw [List.map_nil] at r;cases r;exact .nil
 | cons n ns ih=>
   intro us r
   rw [List.map_cons] at r
   cases r with
   | cons r1 r2=>
     obtain ⟨t,e⟩:=r1
     subst e
     exact .cons n t (ih r2)

section
variable {X:Cx} {e:Expr} {te:TE} {lo hi:Option Expr} {tl th:TO} {pos p2:Pos}

theorem po_none:PO X none tNoPart:=by
 intro pins s σ H Q I h
 rw [evalPart_none]
 exact wpAny_pure ⟨none,H,I,.none,h⟩
theorem po_some (h:PE X e te):PO X (some e) (tPart te):=by
 intro pins s σ H Q I hw
 rw [evalPart_some]
 refine thn (h pins s σ H _ I hw) fun u s1 ⟨x,H1,I1,r1,q1⟩=>?_
 obtain ⟨i,rfl,q⟩:=q1
 obtain ⟨t,rfl⟩:=r1
 exact ⟨some i,H1,I1,.int i t,q⟩

noncomputable def SlR (X:Cx) (r:V→Option Int→Option Int→Hp→VK→Prop):Prop:=
 ∀(pins:List (Addr×Obj)) (s:Shared) (σ:St) (H:Hp) (x:V) (v vl vu:Value) (lo hi:Option Int) (sl:Addr) (Q:VK),Inv X pins σ H s→RelV x v→s.heap.IsSliceOf sl vl vu .none→IsPart vl lo→IsPart vu hi→r x lo hi H Q →
  ∃T id,typeLookup (.type T) "__getitem__"=pure (some (.builtin id))∧s.TypeIs v T∧wpAny (model X.prog X.w) X.A (getItem v (.ref sl)) (EP X pins σ Q) X.xe s
noncomputable def tSl (r:V→Option Int→Option Int→Hp→VK→Prop) (te:TE) (tl th:TO):TE:=fun σ H Q=>te σ H fun x H1=>tl σ H1 fun l H2=>th σ H2 fun u H3=>r x l u H3 Q
theorem pe_slice {r:V→Option Int→Option Int→Hp→VK→Prop} (hr:SlR X r) (he:PE X e te) (hl:PO X lo tl) (hu:PO X hi th):PE X (.Subscript e (.Slice lo hi none p2) pos) (tSl r te tl th):=by
 intro pins s σ H Q I h
 refine Subscript_ (thn (he pins s σ H _ I h) fun v s1 ⟨x,H1,I1,r1,q1⟩=>?_)
 refine wpAny_Slice (thn (hl pins s1 σ H1 _ I1 q1) fun vl s2 ⟨l,H2,I2,pl,q2⟩=>thn (hu pins s2 σ H2 _ I2 q2) fun vu s3 ⟨u,H3,I3,pu,q3⟩=>?_)
 rw [evalPart_none]
 refine wpAny_pure ?_
 have I4:Inv X pins σ H3 { s3 with heap:=s3.heap.push { cls:=.type "slice",data:=.fields #[vl,vu,.none] } }:=I3.kept (t':=s3.toks) fun b ob q=>Heap.get?_push_of_some _ q
 obtain ⟨T,id,hT,ht,hg⟩:=hr pins { s3 with heap:=s3.heap.push { cls:=.type "slice",data:=.fields #[vl,vu,.none] } } σ H3 x v vl vu l u s3.heap.objs.size Q I4 r1 (Heap.IsSliceOf.new ..) pl pu q3
 show wpAny (model X.prog X.w) X.A (subscriptTail e (.Slice lo hi none p2) v (.ref s3.heap.objs.size)) (EP X pins σ Q) X.xe { s3 with heap:=s3.heap.push { cls:=.type "slice",data:=.fields #[vl,vu,.none] } }
 exact tail_any (ops:=[.ref s3.heap.objs.size,v]) ht hT hg (by with_unfolding_all rfl)

noncomputable def cutV (xs:List V) (lo hi:Option Int):List V:=(xs.drop (HT.sIx xs.length 0 lo)).take (HT.sIx xs.length xs.length hi-HT.sIx xs.length 0 lo)
theorem cutV_length (xs:List V) (lo hi:Option Int):(cutV xs lo hi).length≤xs.length:=by
 unfold cutV
 rw [List.length_take,List.length_drop]
 omega
noncomputable def rCatT (K:PySem.W.Frag):R2:=fun x y H Q=>∃a b xs ys,x=.ref a∧y=.ref b∧SqT K H a xs∧SqT K H b ys∧xs≠[]∧xs.length+ys.length≤sizeLine ∧
 (ys=[]→Q (.ref a) H)∧(ys≠[]→∀p,H p=none→Q (.ref p) (upd H p (.tup (xs++ys))))
theorem Vals.nil_iff {xs:List V} {us:List Value} (r:Vals xs us):us=[]↔xs=[]:=by
 cases r with
 | nil=>simp
 | cons _ _=>simp
theorem op_catT:OpR X (binaryOp .Add) (rCatT X.K):=by
 intro pins s σ H x y v u Q I rx ry h
 obtain ⟨a,b,xs,ys,rfl,rfl,ha,hb,hx,hz,q1,q2⟩:=h
 cases rx
 cases ry
 obtain ⟨its,r1,p1,_⟩:=I.tuple ha
 obtain ⟨its2,r2,p2,_⟩:=I.tuple hb
 refine HT.cat_tup p1 p2 (fun z=>hx (r1.nil_iff.mp z)) (fun z=>⟨.ref a,H,I,rfl,q1 (r2.nil_iff.mp z)⟩) (fun z=>?_) (by rw [← r1.length,← r2.length];exact hz)
 refine ⟨.ref s.heap.objs.size,_,I.laid (t':=s.toks) (o:=.tup (xs++ys)) (fun b ob q=>Heap.get?_push_of_some _ q) (Nat.le_refl _) ?_,rfl,q2 (fun w=>z (r2.nil_iff.mpr w)) _ (I.hok.fresh (Nat.le_refl _))⟩
 exact ⟨by rw [List.length_append];exact hz,_,r1.append r2,IsTup.new _ _⟩
end
end L2

namespace L2
open PySem PySem.Spec PyProof.Rows

noncomputable def ixN (n:Nat) (i:Int):Option Nat:=if 0≤i then (if i<n then some i.toNat else none) else if -(n:Int)≤i then some (i+n).toNat else none
noncomputable def atI {α:Type} (xs:List α) (i:Int):Option α:=(ixN xs.length i).bind fun j=>xs[j]?
theorem ixN_seq {n:Nat} {i:Int} {j:Nat} (h:ixN n i=some j):seqIndex? i n=some j∧j<n∧-(n:Int)≤i∧i<n:=by
 unfold ixN at h
 by_cases h0:0≤i
 ·rw [if_pos h0] at h
  by_cases h1:i<n
  ·rw [if_pos h1] at h
   have e:i.toNat=j:=Option.some.inj h
   exact ⟨by rw [seqIndex_of h0 h1,e],by omega,by omega,h1⟩
  ·rw [if_neg h1] at h;cases h
 ·rw [if_neg h0] at h
  by_cases h1:-(n:Int)≤i
  ·rw [if_pos h1] at h
   have e:(i+n).toNat=j:=Option.some.inj h
   exact ⟨by rw [seqIndex_neg (by omega) h1,e],by omega,h1,by omega⟩
  ·rw [if_neg h1] at h;cases h
theorem atI_get {α:Type} {xs:List α} {i:Int} {v:α} (h:atI xs i=some v):∃j,seqIndex? i xs.length=some j∧xs[j]?=some v∧j<xs.length∧-(xs.length:Int)≤i∧i<xs.length:=by
 unfold atI at h
 cases e:ixN xs.length i with
 | none=>rw [e] at h;cases h
 | some j=>
   rw [e] at h
   obtain ⟨h1,h2,h3,h4⟩:=ixN_seq e
   exact ⟨j,h1,h,h2,h3,h4⟩
theorem atI_nat {α:Type} {xs:List α} {j:Nat} {v:α} (h:xs[j]?=some v):atI xs (j:Int)=some v:=by
 have hj:j<xs.length:=(List.getElem?_eq_some_iff.mp h).1
 have e:ixN xs.length (j:Int)=some j:=by
  unfold ixN
  rw [if_pos (by omega),if_pos (by omega)];simp
 unfold atI;rw [e];exact h
noncomputable def PlainIx (b:Expr):Prop:=∀o i,subscripted b false o i=operate [o,i] (getItem o i)
noncomputable def IxR (X:Cx) (r:R2):Prop:=
 ∀(value slice:Expr) (pins:List (Addr×Obj)) (s:Shared) (σ:St) (H:Hp) (x y:V) (v u:Value) (Q:VK),Inv X pins σ H s→RelV x v→RelV y u→r x y H Q →
  subscripted slice false v u=operate [v,u] (getItem v u)→wpAny (model X.prog X.w) X.A (subscriptTail value slice v u) (EP X pins σ Q) X.xe s
noncomputable def MtR (X:Cx) (id:String) (r:V→List V→Hp→VK→Prop):Prop:=
 ∀(pins:List (Addr×Obj)) (s:Shared) (σ:St) (H:Hp) (x:V) (xs:List V) (v:Value) (us:List Value) (Q:VK),Inv X pins σ H s→RelV x v→Vals xs us→r x xs H Q →
  wpAny (model X.prog X.w) X.A (call (.builtin id) (v::us)) (EP X pins σ Q) X.xe s
section
variable {X:Cx} {a b:Expr} {ta tb:TE} {pos:Pos}
theorem pe_ix {r:R2} (hr:IxR X r) (ha:PE X a ta) (hb:PE X b tb) (hs:PlainIx b):PE X (.Subscript a b pos) (tOp r ta tb):=by
 intro pins s σ H Q I h
 exact Subscript_ (binT ha hb I h fun v u s2 x y H2 I2 rx ry q=>hr a b pins s2 σ H2 x y v u Q I2 rx ry q (hs _ _))

noncomputable def rIxL (K:PySem.W.Frag):R2:=fun x y H Q=>∃p xs i v,x=.ref p∧y=.int i∧SqL K H p xs∧atI xs i=some v∧Q v H
noncomputable def rIxT (K:PySem.W.Frag):R2:=fun x y H Q=>∃p xs i v,x=.ref p∧y=.int i∧SqT K H p xs∧atI xs i=some v∧Q v H
theorem ix_list:IxR X (rIxL X.K):=by
 intro value slice pins s σ H x y v u Q I rx ry h hs
 obtain ⟨p,xs,i,z,rfl,rfl,hq,he,q⟩:=h
 cases rx
 obtain ⟨t,rfl⟩:=ry
 obtain ⟨its,r,pl,hz⟩:=I.list hq
 obtain ⟨j,h1,h2,h3,h4,h5⟩:=atI_get he
 obtain ⟨w,ew,rw'⟩:=r.get h2
 have hl:=r.length
 have hn:=line63
 have fin:EP X pins σ Q w s:=⟨z,H,I,rw',q⟩
 by_cases h0:0≤i
 ·have hj:i.toNat=j:=by
   rw [seqIndex_of h0 h5] at h1
   exact Option.some.inj h1
  exact item_listR pl.isList h0 (by omega) (by rw [hj];simpa using ew) fin hs
 ·have hj:(i+(its.toArray.size:Int)).toNat=j:=by
   rw [seqIndex_neg (by omega) h4] at h1
   rw [List.size_toArray,← hl]
   exact Option.some.inj h1
  exact subscriptTail_builtinR (x:=w) pl.isList.typeIs slot_list_getitem.lookup
   (wpAny_getItem_list_neg (Q:=fun r s'=>r=w∧EP X pins σ Q r s') pl.isList (by omega) (by rw [List.size_toArray] <;> omega) (by omega) (by rw [hj];simpa using ew) ⟨rfl,fin⟩) hs
theorem ix_tup:IxR X (rIxT X.K):=by
 intro value slice pins s σ H x y v u Q I rx ry h hs
 obtain ⟨p,xs,i,z,rfl,rfl,hq,he,q⟩:=h
 cases rx
 obtain ⟨t,rfl⟩:=ry
 obtain ⟨its,r,pl,hz⟩:=I.tuple hq
 obtain ⟨j,h1,h2,h3,h4,h5⟩:=atI_get he
 obtain ⟨w,ew,rw'⟩:=r.get h2
 have hl:=r.length
 have hn:=line63
 have fin:EP X pins σ Q w s:=⟨z,H,I,rw',q⟩
 exact subscriptTail_builtinR (x:=w) pl.typeIs slot_tuple_getitem.lookup
  (getItem_tuple (j:=j) (Q:=fun r s'=>r=w∧EP X pins σ Q r s') pl (by omega) (by omega) (by rw [List.size_toArray,← hl];exact h1) (by simpa using ew) ⟨rfl,fin⟩) hs
theorem mapSeq_set (its:List Value) (n j:Nat) (u:Value):Obj.mapSeq (·.setIfInBounds j u) { cls:=.type "list",data:=.seq its.toArray n }={ cls:=.type "list",data:=.seq (its.set j u).toArray n }:=by
 simp [Obj.mapSeq]
theorem Inv.lst {pins:List (Addr×Obj)} {σ:St} {H:Hp} {s:Shared} {p:Addr} {xs:List V} (I:Inv X pins σ H s) (h:H p=some (.lst xs)) :
 ∃(its:List Value) (n:Nat),Vals xs its∧s.heap.get? p=some { cls:=.type "list",data:=.seq its.toArray n }∧xs.length≤sizeLine:=by
 obtain ⟨z,its,n,r,e⟩:=I.hok p _ h
 exact ⟨its,n,r,e,z⟩
theorem Inv.lstUpd {pins:List (Addr×Obj)} {σ:St} {H:Hp} {s:Shared} {p:Addr} {xs ys:List V} {its its':List Value} {n n':Nat} {f:Obj→Obj} (I:Inv X pins σ H s) (h:H p=some (.lst xs))
 (ho:s.heap.get? p=some { cls:=.type "list",data:=.seq its.toArray n }) (hf:f { cls:=.type "list",data:=.seq its.toArray n }={ cls:=.type "list",data:=.seq its'.toArray n' }) (r:Vals ys its') (hz:ys.length≤sizeLine) (t:Nat) :
 Inv X pins σ (upd H p (.lst ys)) { s with heap:=s.heap.update p f,toks:=t }:=by
 have e:(s.heap.update p f).get? p=some { cls:=.type "list",data:=.seq its'.toArray n' }:=by
  rw [Heap.get?_update_self f ho (by rw [hf] <;> rfl),hf]
 refine I.write (x:=p) (e:=p) (by rw [h];trivial) (.inl rfl) (fun b u hb q=>(Heap.get?_update_other _ _ (Ne.symm hb)).trans q) ⟨_,e⟩ ?_
 exact ⟨hz,its',n',r,e⟩
noncomputable def rSetL:V→V→V→Hp→(Hp→Prop)→Prop:=fun o i v H Q=>∃p xs k j,o=.ref p∧i=.int k∧H p=some (.lst xs)∧ixN xs.length k=some j∧Q (upd H p (.lst (xs.set j v)))
theorem set_list:PSet X rSetL:=by
 intro pins s σ H o i v ov iv u Q I ro ri rv h
 obtain ⟨p,xs,k,j,rfl,rfl,hp,hj,q⟩:=h
 cases ro
 obtain ⟨t,rfl⟩:=ri
 obtain ⟨its,n,r,ho,hz⟩:=I.lst hp
 obtain ⟨h1,h2,h3,h4⟩:=ixN_seq hj
 have hl:=r.length
 have hn:=line63
 have I':Inv X pins σ (upd H p (.lst (xs.set j v))) { s with heap:=s.heap.update p (Obj.mapSeq (·.setIfInBounds j u)) }:=
  I.lstUpd hp ho (mapSeq_set its n j u) (r.set rv j) (by rw [List.length_set];exact hz) s.toks
 by_cases h0:0≤k
 ·have hk:k.toNat=j:=by
   rw [seqIndex_of h0 h4] at h1
   exact Option.some.inj h1
  exact PySem.W.ki_setAt ho h0 (by omega) (by rw [List.size_toArray,← hl];exact h4) (by rw [hk];exact ⟨_,I',q⟩)
 ·have hk:(k+(its.toArray.size:Int)).toNat=j:=by
   rw [seqIndex_neg (by omega) h3] at h1
   rw [List.size_toArray,← hl]
   exact Option.some.inj h1
  exact PySem.W.ki_setBack ho (by omega) (by rw [List.size_toArray,← hl];exact h3) (by omega) (by rw [hk];exact ⟨_,I',q⟩)

theorem slice_bounds (lo hi:Option Int) (n:Nat):(sliceBounds lo hi none n).1=((HT.sIx n 0 lo:Nat):Int)∧(sliceBounds lo hi none n).2.1=((HT.sIx n n hi:Nat):Int)∧(sliceBounds lo hi none n).2.2=1:=by
 refine ⟨?_,?_,rfl⟩
 ·cases lo with
  | none=>simp [sliceBounds,HT.sIx]
  | some i=>
    simp only [sliceBounds,HT.sIx,Option.getD_none,show (1:Int)>0 by decide,if_true]
    by_cases h:i<0
    ·simp only [h,if_true] <;> omega
    ·simp only [h,if_false] <;> omega
 ·cases hi with
  | none=>simp [sliceBounds,HT.sIx]
  | some i=>
    simp only [sliceBounds,HT.sIx,Option.getD_none,show (1:Int)>0 by decide,if_true]
    by_cases h:i<0
    ·simp only [h,if_true] <;> omega
    ·simp only [h,if_false] <;> omega
theorem slicePick_cut (its:List Value) (lo hi:Option Int):slicePick its.toArray lo hi none=((its.drop (HT.sIx its.length 0 lo)).take (HT.sIx its.length its.length hi-HT.sIx its.length 0 lo)).toArray:=by
 obtain ⟨h1,h2,h3⟩:=slice_bounds lo hi its.toArray.size
 unfold slicePick
 rw [h1,h2,h3]
 simp only [sliceRange_one,pick_run,List.size_toArray] <;> rfl
noncomputable def rSlL (K:PySem.W.Frag):V→Option Int→Option Int→Hp→VK→Prop:=fun x lo hi H Q=>∃a xs,x=.ref a∧SqL K H a xs∧∀p,H p=none→Q (.ref p) (upd H p (.lst (cutV xs lo hi)))
theorem sl_list:SlR X (rSlL X.K):=by
 intro pins s σ H x v vl vu lo hi sl Q I rx hs pl pu h
 obtain ⟨a,xs,rfl,hx,q⟩:=h
 cases rx
 obtain ⟨its,r,ht,hz⟩:=I.list hx
 have hlen:=r.length
 refine ⟨"list",_,slot_list_getitem.lookup,ht.isList.typeIs,?_⟩
 refine wpAny_getItem_list_slice ht.isList hs pl pu .none (by simp) ?_ (by rw [List.size_toArray] <;> omega)
 rw [slicePick_cut,← hlen]
 refine ⟨.ref s.heap.objs.size,_,I.laid (t':=s.toks) (o:=.lst (cutV xs lo hi)) (fun b ob q=>Heap.get?_push_of_some _ q) (Nat.le_refl _) ?_,rfl,q _ (I.hok.fresh (Nat.le_refl _))⟩
 exact ⟨Nat.le_trans (cutV_length xs lo hi) hz,_,0,(r.drop (HT.sIx xs.length 0 lo)).take (HT.sIx xs.length xs.length hi-HT.sIx xs.length 0 lo),Heap.get?_push_size _ rfl⟩

noncomputable def flatV:V→Bool
 | .non=>true
 | .bl _=>true
 | .int _=>true
 | .str _=>true
 | _=>false
noncomputable def eqV:V→V→Bool
 | .non,.non=>true
 | .bl a,.bl b=>a==b
 | .bl a,.int b=>(if a then 1 else 0)==b
 | .int a,.bl b=>a==(if b then 1 else 0)
 | .int a,.int b=>a==b
 | .str a,.str b=>a==b
 | _,_=>false
theorem eqAt_V {A:Around} {s:Shared} {y x:V} {u v:Value} (ry:RelV y u) (rx:RelV x v) (fy:flatV y=true) (fx:flatV x=true):SeqAt.EqAt A s u v (eqV y x):=by
 cases y with
 | non=>
   cases ry
   cases x with
   | non=>cases rx;exact SeqAt.EqAt.same _
   | bl b=>cases rx;exact SeqAt.EqAt.none_bool b
   | int b=>obtain ⟨t,rfl⟩:=rx;exact SeqAt.EqAt.none_int b t
   | str b=>obtain ⟨t,rfl⟩:=rx;exact SeqAt.EqAt.none_str b t
   | _=>exact absurd (show false=true from fx) Bool.false_ne_true
 | bl a=>
   cases ry
   cases x with
   | non=>cases rx;exact SeqAt.EqAt.bool_none a
   | bl b=>cases rx;exact SeqAt.EqAt.bool_bool a b
   | int b=>obtain ⟨t,rfl⟩:=rx;exact SeqAt.EqAt.bool_int a b t
   | str b=>obtain ⟨t,rfl⟩:=rx;exact SeqAt.EqAt.bool_str a b t
   | _=>exact absurd (show false=true from fx) Bool.false_ne_true
 | int a=>
   obtain ⟨t',rfl⟩:=ry
   cases x with
   | non=>cases rx;exact SeqAt.EqAt.int_none a t'
   | bl b=>cases rx;exact SeqAt.EqAt.int_bool a t' b
   | int b=>obtain ⟨t,rfl⟩:=rx;exact SeqAt.EqAt.int_int a t' b t
   | str b=>obtain ⟨t,rfl⟩:=rx;exact SeqAt.EqAt.int_str a t' b t
   | _=>exact absurd (show false=true from fx) Bool.false_ne_true
 | str a=>
   obtain ⟨t',rfl⟩:=ry
   cases x with
   | non=>cases rx;exact SeqAt.EqAt.str_none a t'
   | bl b=>cases rx;exact SeqAt.EqAt.str_bool a t' b
   | int b=>obtain ⟨t,rfl⟩:=rx;exact SeqAt.EqAt.str_int a t' b t
   | str b=>obtain ⟨t,rfl⟩:=rx;exact SeqAt.EqAt.str_str a t' b t
   | _=>exact absurd (show false=true from fx) Bool.false_ne_true
 | _=>exact absurd (show false=true from fy) Bool.false_ne_true
noncomputable def eqU (x:V) (u:Value):Bool:=match u with
 | .none=>eqV .non x
 | .bool b=>eqV (.bl b) x
 | .int i _=>eqV (.int i) x
 | .str z _=>eqV (.str z) x
 | _=>false
theorem eqU_of {x y:V} {u:Value} (r:RelV y u) (f:flatV y=true):eqU x u=eqV y x:=by
 cases y with
 | non=>cases r;rfl
 | bl b=>cases r;rfl
 | int i=>obtain ⟨t,rfl⟩:=r;rfl
 | str z=>obtain ⟨t,rfl⟩:=r;rfl
 | _=>exact absurd (show false=true from f) Bool.false_ne_true
theorem any_eqU {x:V}:∀{xs:List V} {us:List Value},Vals xs us→xs.all flatV=true→us.any (eqU x)=xs.any fun y=>eqV y x
 | _,_,.nil,_=>rfl
 | y::xs,u::us,.cons r t,f=>by
   rw [List.all_cons,Bool.and_eq_true] at f
   rw [List.any_cons,List.any_cons,eqU_of r f.1,any_eqU t f.2]
theorem mem_eqAt {A:Around} {s:Shared} {x:V} {v:Value} (rx:RelV x v) (fx:flatV x=true):∀{xs:List V} {us:List Value},Vals xs us→xs.all flatV=true→∀u∈us,SeqAt.EqAt A s u v (eqU x u)
 | _,_,.nil,_=>fun u hu=>by cases hu
 | y::xs,u::us,.cons r t,f=>fun u' hu=>by
   rw [List.all_cons,Bool.and_eq_true] at f
   rcases List.mem_cons.mp hu with rfl | hu
   ·rw [eqU_of r f.1];exact eqAt_V r rx f.1 fx
   ·exact mem_eqAt rx fx t f.2 u' hu
noncomputable def inV (x:V) (xs:List V):Bool:=xs.any fun y=>eqV y x
noncomputable def rIn (K:PySem.W.Frag) (neg:Bool):R2:=fun x y H Q=>∃p xs,y=.ref p∧(SqL K H p xs∨SqT K H p xs)∧flatV x=true∧xs.all flatV=true∧Q (.bl (if neg then !inV x xs else inV x xs)) H
theorem op_in_seq:OpR X (compareOp .In) (rIn X.K false):=by
 intro pins s σ H x y v u Q I rx ry h
 obtain ⟨p,xs,rfl,hq,fx,fs,q⟩:=h
 cases ry
 rcases hq with hq | hq
 ·obtain ⟨its,r,pl,hz⟩:=I.list hq
  refine SeqAt.in_listAt (eqU x) pl.isList (fun w hw=>mem_eqAt rx fx r fs w (by simpa using hw)) ⟨.bl _,H,I,rfl,?_⟩
  rw [show its.toArray.any (eqU x)=its.any (eqU x) by simp,any_eqU r fs]
  exact q
 ·obtain ⟨its,r,pl,hz⟩:=I.tuple hq
  refine SeqAt.in_tupleAt (eqU x) pl (fun w hw=>mem_eqAt rx fx r fs w (by simpa using hw)) ⟨.bl _,H,I,rfl,?_⟩
  rw [show its.toArray.any (eqU x)=its.any (eqU x) by simp,any_eqU r fs]
  exact q
theorem op_notIn_seq:OpR X (compareOp .NotIn) (rIn X.K true):=by
 intro pins s σ H x y v u Q I rx ry h
 obtain ⟨p,xs,rfl,hq,fx,fs,q⟩:=h
 cases ry
 rcases hq with hq | hq
 ·obtain ⟨its,r,pl,hz⟩:=I.list hq
  refine SeqAt.notIn_listAt (eqU x) pl.isList (fun w hw=>mem_eqAt rx fx r fs w (by simpa using hw)) ⟨.bl _,H,I,rfl,?_⟩
  rw [show its.toArray.any (eqU x)=its.any (eqU x) by simp,any_eqU r fs]
  exact q
 ·obtain ⟨its,r,pl,hz⟩:=I.tuple hq
  refine SeqAt.notIn_tupleAt (eqU x) pl (fun w hw=>mem_eqAt rx fx r fs w (by simpa using hw)) ⟨.bl _,H,I,rfl,?_⟩
  rw [show its.toArray.any (eqU x)=its.any (eqU x) by simp,any_eqU r fs]
  exact q
theorem call_len_seq:CallR X (.builtin "len") (fun xs H Q=>∃p ys,xs=[.ref p]∧(SqL X.K H p ys∨SqT X.K H p ys)∧Q (.int ys.length) H):=by
 intro pins s σ H xs us Q I r h
 obtain ⟨p,ys,rfl,hq,q⟩:=h
 obtain ⟨u,rfl,rx⟩:=vals1 r
 cases rx
 have hn:=line63
 rcases hq with hq | hq
 ·obtain ⟨its,r',pl,hz⟩:=I.list hq
  have hlen:=r'.length
  exact Calls.call_len_list pl.isList (by simp only [List.size_toArray] <;> omega) ⟨.int ys.length,H,I.tok _,⟨s.toks+1,by rw [List.size_toArray,hlen]⟩,q⟩
 ·obtain ⟨its,r',pl,hz⟩:=I.tuple hq
  have hlen:=r'.length
  exact len_tuple pl (by simp only [List.size_toArray] <;> omega) ⟨.int ys.length,H,I.tok _,⟨s.toks+1,by rw [List.size_toArray,hlen]⟩,q⟩
theorem call_list_of:CallR X (.type "list") (fun xs H Q=>∃p ys,xs=[.ref p]∧(SqL X.K H p ys∨SqT X.K H p ys)∧∀l,H l=none→Q (.ref l) (upd H l (.lst ys))):=by
 intro pins s σ H xs us Q I r h
 obtain ⟨p,ys,rfl,hq,q⟩:=h
 obtain ⟨u,rfl,rx⟩:=vals1 r
 cases rx
 have fin:∀(its:List Value),Vals ys its→ys.length≤sizeLine→∀(h':Heap) (c':Nat),(∀b o',s.heap.get? b=some o'→h'.get? b=some o') →
  h'.get? s.heap.objs.size=some { cls:=.type "list",dict:=none,data:=.seq its.toArray c',slots:=#[] }→EP X pins σ Q (.ref s.heap.objs.size) { s with heap:=h' }:=fun its r' hz h' c' kp e=>
  ⟨.ref s.heap.objs.size,_,I.laid (t':=s.toks) kp (Nat.le_refl _) (show ObjOk X.prog X.w _ h' _ (.lst ys) from ⟨hz,its,c',r',e⟩),rfl,q _ (I.hok.fresh (Nat.le_refl _))⟩
 rcases hq with hq | hq
 ·obtain ⟨its,r',pl,hz⟩:=I.list hq
  have hlen:=r'.length
  obtain ⟨o,ho,hc,n,hd⟩:=pl.isList
  exact call_list_seq p (.inl rfl) ho hc hd (fun h' c' kp e=>fin its r' hz h' c' kp e) (by simp only [List.size_toArray] <;> omega)
 ·obtain ⟨its,r',pl,hz⟩:=I.tuple hq
  have hlen:=r'.length
  obtain ⟨o,ho,hc,n,hd⟩:=pl
  exact call_list_seq p (.inr rfl) ho hc hd (fun h' c' kp e=>fin its r' hz h' c' kp e) (by simp only [List.size_toArray] <;> omega)
theorem call_tuple_of:CallR X (.type "tuple") (fun xs H Q=>∃p ys,xs=[.ref p]∧((SqL X.K H p ys∧∀l,H l=none→Q (.ref l) (upd H l (.tup ys)))∨(SqT X.K H p ys∧Q (.ref p) H))):=by
 intro pins s σ H xs us Q I r h
 obtain ⟨p,ys,rfl,h⟩:=h
 obtain ⟨u,rfl,rx⟩:=vals1 r
 cases rx
 rcases h with ⟨hq,q⟩ | ⟨hq,q⟩
 ·obtain ⟨its,r',pl,hz⟩:=I.list hq
  have hlen:=r'.length
  refine call_tuple_list pl.isList (fun h' kp=>?_) (by simp only [List.size_toArray] <;> omega)
  have I1:Inv X pins σ H { s with heap:=h' }:=I.kept (t':=s.toks) kp
  have I2:Inv X pins σ (upd H h'.objs.size (.tup ys)) { s with heap:=h'.push { cls:=.type "tuple",data:=.seq its.toArray } }:=
   I1.laid (t':=s.toks) (fun b o e=>Heap.get?_push_of_some _ e) (Nat.le_refl _) (show ObjOk X.prog X.w _ _ _ (.tup ys) from ⟨hz,its,r',IsTup.new _ _⟩)
  exact ⟨.ref h'.objs.size,_,I2,rfl,q _ (I1.hok.fresh (Nat.le_refl _))⟩
 ·obtain ⟨its,r',pl,hz⟩:=I.tuple hq
  exact call_tuple_same pl ⟨.ref p,H,I,rfl,q⟩

noncomputable def tyV (K:PySem.W.Frag) (T:String) (x:V) (H:Hp):Prop:=match x with
 | .str _=>T = "str"
 | .int _=>T = "int"
 | .ref p=>(T = "list"∧∃xs,SqL K H p xs)∨(T = "tuple"∧∃o,K.lookup p=some o∧o.cls=.type "tuple"∧o.dict=none) ∨
  (T = "dict"∧((∃kvs,H p=some (.dK kvs))∨∃kvs,H p=some (.dT kvs)))∨(T = "set"∧∃S n,H p=some (.set S n))
 | _=>False
theorem tyV_is {pins:List (Addr×Obj)} {σ:St} {H:Hp} {s:Shared} {T:String} {x:V} {v:Value} (I:Inv X pins σ H s) (r:RelV x v) (ty:tyV X.K T x H) :
 s.TypeIs v T∧∀a,v=.ref a→∃ob,s.heap.get? a=some ob∧ob.dict=none:=by
 cases x with
 | str z=>
   obtain ⟨t,rfl⟩:=r
   cases (show T = "str" from ty)
   exact ⟨typeIs_str s z t,fun _ e=>nomatch e⟩
 | int i=>
   obtain ⟨t,rfl⟩:=r
   cases (show T = "int" from ty)
   exact ⟨typeIs_int s i t,fun _ e=>nomatch e⟩
 | ref p=>
   cases r
   rcases ty with ⟨rfl,xs,hq⟩ | ⟨rfl,o,hk,hc,hd⟩ | ⟨rfl,hk⟩ | ⟨rfl,S,n,hk⟩
   ·obtain ⟨its,_,pl,_⟩:=I.list hq
    refine ⟨pl.isList.typeIs,fun a e=>?_⟩
    cases e
    obtain ⟨o,n,e,c,hd,_⟩:=pl
    exact ⟨o,e,hd⟩
   ·refine ⟨⟨o,I.kIn p o hk,hc⟩,fun a e=>?_⟩
    cases e
    exact ⟨o,I.kIn _ o hk,hd⟩
   ·have z:∃o,s.heap.get? p=some o∧o.ExactDict:=by
     rcases hk with ⟨kvs,hk⟩ | ⟨kvs,hk⟩
     ·obtain ⟨_,_,_,_,o,_,_,e,ex,_⟩:=I.hok p _ hk
      exact ⟨o,e,ex⟩
     ·obtain ⟨_,_,_,_,o,_,_,e,ex,_⟩:=I.hok p _ hk
      exact ⟨o,e,ex⟩
    obtain ⟨o,e,ex⟩:=z
    refine ⟨⟨o,e,ex.1⟩,fun a e2=>?_⟩
    cases e2
    exact ⟨o,e,ex.2.1⟩
   ·obtain ⟨o,_,_,_,e,ex,_⟩:=I.hok p _ hk
    refine ⟨⟨o,e,ex.1⟩,fun a e2=>?_⟩
    cases e2
    exact ⟨o,e,ex.2.1⟩
 | _=>exact False.elim ty
noncomputable def tBM0 (K:PySem.W.Frag) (T:String) (r:V→List V→Hp→VK→Prop) (to:TE):TE:=fun σ H Q=>to σ H fun x H1=>tyV K T x H1∧r x [] H1 Q
noncomputable def tBM (K:PySem.W.Frag) (T:String) (r:V→List V→Hp→VK→Prop) (to:TE) (t:TA):TE:=fun σ H Q=>to σ H fun x H1=>tyV K T x H1∧t σ H1 fun xs H2=>r x xs H2 Q
variable {o e:Expr} {es:List Expr} {to:TE} {t:TA} {name:Str} {apos cpos:Pos} {T id:String} {r:V→List V→Hp→VK→Prop}
theorem pe_bm0 (pa:PlainAttrs T) (slot:Slot T name id) (hty:typeOf (.builtin id)=pure (.type "method_descriptor")) (hm:MtR X id r) (ho:PE X o to)
 (hbase:autoParam (attributeBase o name X.env (eval o X.env)=eval o X.env) au0_._auto_1) (hline:autoParam ((apos.endLine==cpos.line)=true) au0_._auto_1):PE X (.Call (.Attribute o name apos) [] [] cpos) (tBM0 X.K T r to):=by
 intro pins s σ H Q I h
 refine wpAny_Call_method0_late hbase hline (thn (ho pins s σ H _ I h) fun v s1 ⟨x,H1,I1,r1,ty,q1⟩=>?_)
 obtain ⟨h1,h2⟩:=tyV_is I1 r1 ty
 exact ⟨T,id,pa,slot,hty,h1,h2,Calls.callWith_builtin rfl (PySem.evalArgs_none (hm pins s1 σ H1 x [] v [] Q I1 r1 .nil q1))⟩
theorem pe_bm (pa:PlainAttrs T) (slot:Slot T name id) (hty:typeOf (.builtin id)=pure (.type "method_descriptor")) (hm:MtR X id r) (ho:PE X o to) (ha:PA X (e::es) t)
 (hbase:autoParam (attributeBase o name X.env (eval o X.env)=eval o X.env) au0_._auto_1)
 (hfew:autoParam (((backTo cpos (starEach (e::es) X.env)).all (fun x=>!x.1)&&(backToKw cpos (keywordEach [] X.env)).all (fun x=>x.1.isSome)
   && decide ((e::es).length+([]:List Keyword).length+(if ([]:List Keyword).isEmpty then 0 else 1)<30))=true) au0_._auto_1)
 (hline:autoParam ((apos.endLine==cpos.line)=true) au0_._auto_1) (hs:autoParam (starEach (e::es) X.env=(false,eval e X.env)::starEach es X.env) au0_._auto_1) (hplain:autoParam ((backTo cpos (starEach es X.env)).any (·.1)=false) au0_._auto_1) :
 PE X (.Call (.Attribute o name apos) (e::es) [] cpos) (tBM X.K T r to t):=by
 intro pins s σ H Q I h
 refine wpAny_Call_method_late hbase hfew hline rfl (thn (ho pins s σ H _ I h) fun v s1 ⟨x,H1,I1,r1,ty,q1⟩=>?_)
 obtain ⟨h1,h2⟩:=tyV_is I1 r1 ty
 refine ⟨T,id,pa,slot,hty,h1,h2,?_⟩
 have hA:=ha cpos pins s1 σ H1 _ I1 q1
 rw [hs] at hA ⊢
 refine Calls.callWith_builtin (by show (false||(backTo cpos (starEach es X.env)).any (·.1))=false;rw [hplain] <;> rfl) (Calls.evalArgs_plain ?_)
 exact thn hA fun us s2 ⟨vs,H2,I2,r2,q2⟩=>hm pins s2 σ H2 x vs v us Q I2 r1 r2 q2
/- xs.append(e),list.index on a module's tuple .. are MtR facts of 06m -/
end
end L2

namespace L2
open PySem PySem.Spec PyProof.Rows

noncomputable def MtM (X:Cx) (id:String) (r:V→List V→Hp→VK→Prop):Prop:=
 ∀(pins:List (Addr×Obj)) (s:Shared) (σ:St) (H:Hp) (x:V) (xs:List V) (v:Value) (us:List Value) (Q:VK),Inv X pins σ H s→RelV x v→Vals xs us→r x xs H Q →
  wpAny (model X.prog X.w) X.A (call (.builtin id) (v::us)) (EP X pins σ Q) X.xe s

theorem Vals.one:∀{x:V} {us:List Value},Vals [x] us→∃u,us=[u]∧RelV x u
 | _,_,.cons r .nil=>⟨_,rfl,r⟩
theorem Vals.zero:∀{us:List Value},Vals [] us→us=[]
 | _,.nil=>rfl
theorem Vals.reverse {xs:List V} {us:List Value} (h:Vals xs us):Vals xs.reverse us.reverse:=by
 induction h with
 | nil=>exact .nil
 | cons r t ih=>rw [List.reverse_cons,List.reverse_cons];exact Vals.append ih (.cons r .nil)
theorem Vals.rep {xs:List V} {us:List Value} (h:Vals xs us):∀k:Nat,Vals (List.replicate k xs).flatten (List.replicate k us).flatten
 | 0=>.nil
 | k+1=>by
   rw [List.replicate_succ,List.replicate_succ,List.flatten_cons,List.flatten_cons]
   exact Vals.append h (Vals.rep h k)
theorem foldl_rep (its:List Value):∀(k:Nat) (acc:List Value),
 List.foldl (fun x1 x2=>x1++x2) acc.toArray (List.replicate k its.toArray)=(acc++(List.replicate k its).flatten).toArray
 | 0,acc=>by simp
 | k+1,acc=>by
   have e:acc.toArray++its.toArray=(acc++its).toArray:=by simp
   have e2:(acc++its)++(List.replicate k its).flatten=acc++(List.replicate (k+1) its).flatten:=by
    rw [List.replicate_succ,List.flatten_cons,List.append_assoc]
   rw [← e2,← foldl_rep its k (acc++its),← e,List.replicate_succ,List.foldl_cons]

section
variable {X:Cx} {pins:List (Addr×Obj)} {σ:St} {H:Hp} {s:Shared} {l b:Addr} {xs ys zs:List V}

theorem Inv.lset {its its':List Value} {n:Nat} {f:Array Value→Array Value} {t':Nat} (I:Inv X pins σ H s) (hH:H l=some (.lst xs))
 (e:s.heap.get? l=some { cls:=.type "list",data:=.seq its.toArray n }) (hf:f its.toArray=its'.toArray) (hv:Vals ys its') (hz:ys.length≤sizeLine) :
 Inv X pins σ (upd H l (.lst ys)) { s with heap:=s.heap.update l (Obj.mapSeq f),toks:=t' }:=by
 have q:=PySem.IsL.update e f
 rw [hf] at q
 refine I.write (x:=l) (e:=l) (by rw [hH];exact trivial) (.inl rfl) (fun b' u hb hu=>(Heap.get?_update_other s.heap (Obj.mapSeq f) (Ne.symm hb)).trans hu) ⟨_,q⟩ ?_
 exact ⟨hz,its',_,hv,q⟩
theorem Inv.lnew {its:List Value} {t':Nat} (I:Inv X pins σ H s) (hv:Vals ys its) (hz:ys.length≤sizeLine) :
 Inv X pins σ (upd H s.heap.objs.size (.lst ys)) { s with heap:=s.heap.push { cls:=.type "list",data:=.seq its.toArray },toks:=t' }:=
 I.laid (fun _ _ q=>Heap.get?_push_of_some _ q) (Nat.le_refl _) ⟨hz,its,0,hv,Heap.get?_push_size _ rfl⟩
theorem Inv.fresh (I:Inv X pins σ H s):H s.heap.objs.size=none:=I.hok.fresh (Nat.le_refl _)
theorem Inv.lstM (I:Inv X pins σ H s) (hH:H l=some (.lst xs)):xs.length≤sizeLine∧∃(its:List Value) (n:Nat),Vals xs its∧xs.length=its.length∧s.heap.get? l=some { cls:=.type "list",data:=.seq its.toArray n }:=by
 obtain ⟨z,its,n,r,e⟩:=I.hok l _ hH
 exact ⟨z,its,n,r,r.length,e⟩

theorem notLongL {n:Nat} (h:n≤sizeLine):Builtin.List.listTooLong n=false:=by
 unfold Builtin.List.listTooLong
 exact decide_eq_false (by omega)
end

section
variable {X:Cx}

noncomputable def rAppend:V→List V→Hp→VK→Prop:=fun x vs H Q=>∃l xs y,x=.ref l∧vs=[y]∧H l=some (.lst xs)∧xs.length<sizeLine∧Q .non (upd H l (.lst (xs++[y])))
theorem mt_append:MtM X "list.append" rAppend:=by
 intro pins s σ H x vs v us Q I rx rv h
 obtain ⟨l,xs,y,rfl,rfl,hH,hz,q⟩:=h
 cases rx
 obtain ⟨u,rfl,ru⟩:=rv.one
 obtain ⟨z,its,n,r,hl,e⟩:=I.lstM hH
 refine call_meets F.slot_list_append ⟨_,e,rfl⟩ F.entry_list_append (F.args_list_append_2 _ _) (PySem.list_append l its.toArray n u (by rw [List.size_toArray];omega)) ⟨e,?_⟩
 refine ⟨.non,_,I.lset (its':=its++[u]) hH e (by simp) (r.append (.cons ru .nil)) ?_,rfl,q⟩
 rw [List.length_append,List.length_singleton]
 omega

noncomputable def rExtend:V→List V→Hp→VK→Prop:=fun x vs H Q=>∃l b xs zs,x=.ref l∧vs=[.ref b]∧H l=some (.lst xs)∧H b=some (.lst zs)∧xs.length+zs.length≤sizeLine∧Q .non (upd H l (.lst (xs++zs)))
theorem mt_extend:MtM X "list.extend" rExtend:=by
 intro pins s σ H x vs v us Q I rx rv h
 obtain ⟨l,b,xs,zs,rfl,rfl,hH,hB,hz,q⟩:=h
 cases rx
 obtain ⟨u,rfl,ru⟩:=rv.one
 cases ru
 obtain ⟨z,its,n,r,hl,e⟩:=I.lstM hH
 obtain ⟨z2,its2,n2,r2,hl2,e2⟩:=I.lstM hB
 have hsz:its.toArray.size+its2.toArray.size≤sizeLine:=by rw [List.size_toArray,List.size_toArray];omega
 have hlong:¬(!its.toArray.isEmpty&&Builtin.List.listTooLong (its.toArray.size+its2.toArray.size))=true:=by
  rw [notLongL hsz,Bool.and_false]
  exact Bool.false_ne_true
 refine call_meets F.slot_list_extend ⟨_,e,rfl⟩ F.entry_list_extend (F.args_list_extend_2 _ _)
  (AutoSeq1.list_extend_list_list_0 l its.toArray n b its2.toArray n2 hlong (by rw [List.size_toArray];omega) (by omega)) ⟨e,e2,?_⟩
 refine ⟨.non,_,I.lset (its':=its++its2) hH e (by simp) (r.append r2) ?_,rfl,q⟩
 rw [List.length_append]
 omega

noncomputable def rReverse:V→List V→Hp→VK→Prop:=fun x vs H Q=>∃l xs,x=.ref l∧vs=[]∧H l=some (.lst xs)∧Q .non (upd H l (.lst xs.reverse))
theorem mt_reverse:MtM X "list.reverse" rReverse:=by
 intro pins s σ H x vs v us Q I rx rv h
 obtain ⟨l,xs,rfl,rfl,hH,q⟩:=h
 cases rx
 have hus:=rv.zero
 subst hus
 obtain ⟨z,its,n,r,hl,e⟩:=I.lstM hH
 refine call_meets F.slot_list_reverse ⟨_,e,rfl⟩ F.entry_list_reverse (F.args_list_reverse_1 _) (AutoSeq1.list_reverse_list_0 l its.toArray n (by rw [List.size_toArray];omega)) ⟨e,?_⟩
 refine ⟨.non,_,I.lset (its':=its.reverse) hH e (by simp) r.reverse ?_,rfl,q⟩
 rw [List.length_reverse]
 omega

noncomputable def rCat:R2:=fun x y H Q=>∃l b xs zs,x=.ref l∧y=.ref b∧H l=some (.lst xs)∧H b=some (.lst zs)∧xs.length+zs.length≤sizeLine∧∀p,H p=none→Q (.ref p) (upd H p (.lst (xs++zs)))
theorem op_cat:OpR X (binaryOp .Add) rCat:=by
 intro pins s σ H x y v u Q I rx ry h
 obtain ⟨l,b,xs,zs,rfl,rfl,hH,hB,hz,q⟩:=h
 cases rx
 cases ry
 obtain ⟨z,its,n,r,hl,e⟩:=I.lstM hH
 obtain ⟨z2,its2,n2,r2,hl2,e2⟩:=I.lstM hB
 refine PySem.P.add_list e e2 ?_ (by rw [List.size_toArray,List.size_toArray];omega)
 have ea:its.toArray++its2.toArray=(its++its2).toArray:=by simp
 rw [ea]
 exact ⟨.ref _,_,I.lnew (t':=s.toks) (r.append r2) (by rw [List.length_append];omega),rfl,q _ I.fresh⟩
noncomputable def rRep:R2:=fun x y H Q=>∃l k xs,x=.ref l∧y=.int k∧H l=some (.lst xs)∧-(2 ^ 63)≤k∧k<2 ^ 63∧xs.length*k.toNat≤sizeLine ∧
 ∀p,H p=none→Q (.ref p) (upd H p (.lst (List.replicate k.toNat xs).flatten))
theorem len_rep {α:Type} (xs:List α) (k:Nat):(List.replicate k xs).flatten.length=k*xs.length:=by
 induction k with
 | zero=>simp
 | succ k ih=>rw [List.replicate_succ,List.flatten_cons,List.length_append,ih,Nat.succ_mul,Nat.add_comm]
theorem op_rep:OpR X (binaryOp .Mult) rRep:=by
 intro pins s σ H x y v u Q I rx ry h
 obtain ⟨l,k,xs,rfl,rfl,hH,h1,h2,hz,q⟩:=h
 cases rx
 obtain ⟨t,rfl⟩:=ry
 obtain ⟨z,its,n,r,hl,e⟩:=I.lstM hH
 have hlen:its.toArray.size*k.toNat≤sizeLine:=by rw [List.size_toArray,← hl];exact hz
 have hcap:¬its.toArray.size*k.toNat>(2 ^ 63-1)/8:=by
  have:(sizeLine:Nat)≤(2 ^ 63-1)/8:=by decide
  omega
 have hfit:¬(!Builtin.List.listFitsIndex k)=true:=by
  rw [fitsIndex_both h1 h2]
  exact Bool.false_ne_true
 have hlong:¬Builtin.List.listTooLong (its.toArray.size*k.toNat)=true:=by
  rw [notLongL hlen]
  exact Bool.false_ne_true
 have hnew:List.foldl (fun x1 x2=>x1++x2) #[] (List.replicate (if its.toArray.isEmpty=true then 0 else k.toNat) its.toArray)=(List.replicate k.toNat its).flatten.toArray:=by
  have f0:∀m:Nat,List.foldl (fun x1 x2=>x1++x2) #[] (List.replicate m its.toArray)=(List.replicate m its).flatten.toArray:=fun m=>by
   have:=foldl_rep its m []
   rw [List.nil_append] at this
   exact this
  rw [f0]
  cases its with
  | nil=>simp
  | cons a r'=>rw [if_neg (by simp)]
 refine wpAny_binaryOp_repeat_ref (T := "list") (U := "int") (by decide) ⟨_,e,rfl⟩ (fun s'=>typeIs_int s' k t) noFill_list_mul F.fills_int_mul F.slot_int_rmul repeat_list F.slot_int_index.lookup
  (call_meets F.slot_int_rmul (typeIs_int s k t) F.entry_int_rmul (F.args_int_rmul_2 _ _) (int___rmul___int_list k t l its.toArray n)
    ⟨e,rfl,⟨_,e,rfl⟩,call_meets F.slot_list_mul ⟨_,e,rfl⟩ F.entry_list_mul (F.args_list_mul_2 _ _) (AutoListH.list___mul___list_int_3 l its.toArray n k t hfit hcap hlong) ⟨e,?_⟩⟩)
 rw [hnew]
 exact ⟨.ref _,_,I.lnew (t':=s.toks) (r.rep k.toNat) (by rw [len_rep,Nat.mul_comm];exact hz),rfl,q _ I.fresh⟩

end

section
variable {prog:Program} {w:World} {A:Around} {E:Value→Shared→Prop} {s:Shared}
end

section
variable {X:Cx}
end
end L2

namespace Att
open PySem PySem.W PySem.Calls PyProof.Rows

theorem ints_of_wellAll {P:Params} {h:Heap}:∀(ns:List Int) (vs:List Value),WellAll P h vs (ns.map WData.int)→IntsAre vs ns:=by
 intro ns
 induction ns with
 | nil=>
   intro vs w
   rw [List.map_nil] at w
   cases w
   exact .nil
 | cons n ns ih=>
   intro vs w
   rw [List.map_cons] at w
   cases w with
   | cons a b=>
     cases a
     exact .cons _ _ (ih _ b)

theorem script_of {l:OpenLaw} {n:Nat} (hn:l.most=some n) {P:Params} {h:Heap} {args:List WData} {vals:List Value}
 (hpre:l.row.toRowW.claim.pre args=true) (hwl:WellAll P h vals args) :
 ∃a vs ns,vals=[Value.ref a]∧args=[WData.list (ns.map WData.int)]∧h.get? a=some { cls:=.type "list",data:=.seq vs.toArray }∧IntsAre vs ns∧ns.length≤n:=by
 have hsh:WShape.hasAll [] args [.list .int]=true:=(pre_splitW hpre).1
 have hc:l.pre.holds [] { args:=args }=true:=(pre_splitW hpre).2
 obtain ⟨d,r,rfl,h1,h2⟩:=hasAllW_cons hsh
 obtain rfl:=hasAllW_nil h2
 obtain ⟨xs,rfl,h3⟩:=hasW_list h1
 obtain ⟨ns,rfl⟩:=items_int h3
 have hlen:ns.length≤n:=by
  unfold OpenLaw.pre at hc
  have h4:(WTm.not (.lt (.lit (.int (n:Int))) (.len (.arg 0)))).holds [] { args:=[.list (ns.map .int)] }=true:=by
   have h4:=(holds_andW hc).1
   rw [hn] at h4
   exact h4
  have h5:=condW_of h4 (w_not (w_lt w_lit (w_len_list (w_arg rfl))))
  rw [List.length_map] at h5
  refine Nat.le_of_not_lt fun q=>?_
  have q':(n:Int)<((ns.length:Nat):Int):=by omega
  first
   | (rw [decide_eq_true q'] at h5;exact absurd h5 (by decide))
   | (simp at h5;omega)
 cases hwl with
 | cons w1 w2=>
   cases w2
   cases w1 with
   | list ho hall=>exact ⟨_,_,ns,rfl,rfl,ho,ints_of_wellAll ns _ hall,hlen⟩

theorem post_true (l:OpenLaw) (args:List WData):l.row.toRowW.claim.post args (.bool true) args=true:=
 postW_of (r:=l.row.toRowW) (X:=(true==true))
  (show WShape.has [] (.bool true) .bool=true by first | rfl | decide | simp [WShape.has,WShape.arms,WShape.armsAll])
  (show (WTm.eq .res (.lit (.bool true))).value [] { args:=args,res:=some (.bool true),after:=args }=some (.bool (true==true)) from w_eq_bool (w_res rfl) w_lit) rfl

theorem attach_call {l:OpenLaw} {n:Nat} {q:Program} {loose:List Str} {XP:(Str→Option Value)→Heap→Prop} {YP:World→Heap→Prop} {d:DefRec}
 (hn:l.most=some n) (hdf:d.params.defaults=[])
 (call:∀(w:World) (s₀ s₁:Shared) (mg mb:Str→Option Value) (fa:Addr) (o:Obj) (pm cd doc:Value) (a:Addr) (vs:List Value) (ns:List Int),
   Ground q loose [] XP w s₀ mg mb s₁.heap→YP w s₁.heap →
   s₁.heap.get? fa=some o→o.data=.func (docDef d.name d.params d.body d.scope pm cd doc)→s₁.heap.CodeRec cd d.name→mg d.name=some (.ref fa) →
   s₁.heap.get? a=some { cls:=.type "list",data:=.seq vs.toArray }→IntsAre vs ns→ns.length≤n→s₁.gens=#[] →
   codeAny (model l.prog w) callerA (.call (.ref fa) ⟨[.ref a],[]⟩) (fun r s'=>r=.ok (.ret (.bool true))∧OldK s₁.heap s'.heap∧s'.os=s₁.os∧AllBare s'.gens) s₁) :
 WalkO q loose XP YP l.row.toRowW d [] (fun f vs=>PySem.call f vs):=by
 intro w s₀ s₁ mg mb G Y fa o pm cd doc dV kV ho hd hcd hD hmg hg args vals as hpre hlay hrd hwl hlo
 obtain rfl:dV=.none:=Dflts.none hD hdf
 obtain rfl:kV=.none:=Dflts.noKw hD
 obtain ⟨a,vs,ns,rfl,rfl,hobj,hints,hlen⟩:=script_of hn hpre hwl
 refine enter_call (codeAny_mono (call w s₀ s₁ mg mb fa o pm cd doc a vs ns G Y ho (fd_plain hd) hcd hmg hobj hints hlen hg) fun r s' hq=>?_)
 obtain ⟨rfl,h2,h3,h4⟩:=hq
 exact ⟨.inl ⟨.bool true,.bool true,[],rfl,fun _=>rfl,.bool true,post_true l _,fun _=>⟨List.Pairwise.nil,fun _ hm=>(nomatch hm)⟩⟩,h2,h3,h4⟩

section
variable {prog:Program} {w:World} {A:Around} {E:Value→Shared→Prop} {s:Shared} {K:Frag}

end
end Att

namespace L2
open PySem PySem.Spec PyProof.Rows

theorem vals_ints:∀{vs:List Value} {ns:List Int},IntsAre vs ns→Vals (ns.map V.int) vs
 | _,_,.nil=>.nil
 | _,_,.cons n t h=>.cons ⟨t,rfl⟩ (vals_ints h)

noncomputable def Only (H:Hp):Prop:=∀b,H b=none∨∃o xs,H b=some (.frz o (.lst xs))

theorem law_call {P:Program} {w:World} {K:PySem.W.Frag} {mg mb:Str→Option Value} {CX:CXT} {k:Nat} {fa a:Addr} {fd:FuncData} {x:Str} {sp:Sp} {s₁:Shared} {vs:List Value} {ns:List Int}
 (KX:K.In s₁.heap) (hns:s₁.heap.Ns mainGlobals mg) (hb:s₁.heap.Ns builtinsNs mb) (hbb:∀x:Str,x ≠ "__name__"→mb x=bootBuiltins x) (hlim:s₁.heap.NoLimit) (hg:s₁.gens=#[])
 (ha:s₁.heap.get? a=some { cls:=.type "list",data:=.seq vs.toArray }) (hi:IntsAre vs ns) (hl:ns.length≤sizeLine) (hr:Room k callerA)
 (F:∀base:Heap,K.In base→base.Ns mainGlobals mg→FnOk P w K mg base CX k fa fd [x] sp) (hbind:∀(s:Shared) (u:Value),BindsTo s fd ⟨[u],[]⟩ [(x,u)])
 (hsp:∀H:Hp,Only H→SqL K H a (ns.map V.int)→sp [.ref a] H (fun v _=>v=.bl true) fun _ _ _=>False)
 (hCX:∀H e s',CX [] H s₁ (fun _ _ _=>False) e s'→False) :
 codeAny (model P w) callerA (.call (.ref fa) ⟨[.ref a],[]⟩) (fun r s'=>r=.ok (.ret (.bool true))∧OldK s₁.heap s'.heap∧s'.os=s₁.os∧AllBare s'.gens) s₁:=by
 have rv:=vals_ints hi
 have lenV:=hi.length
  -- from an abstract heap in which nothing but the script may be tracked
 have core:∀H:Hp,Only H→SqL K H a (ns.map V.int)→HOk P w H s₁.heap→(∀b,H b≠none→b=a)→(H a≠none→K.lookup a=none) →
  codeAny (model P w) callerA (.call (.ref fa) ⟨[.ref a],[]⟩) (fun r s'=>r=.ok (.ret (.bool true))∧OldK s₁.heap s'.heap∧s'.os=s₁.os∧AllBare s'.gens) s₁:=by
  intro H hO hS hok hA hK
  have base_of:∀{b:Addr} {o:Obj},s₁.heap.get? b=some o→H b=none→(hidT s₁.heap H).get? b=some o:=fun e n=>hidT_get e n
  have noA:∀{b:Addr} {o:Obj} {es:Array DictEntry} {ep:Nat},s₁.heap.get? b=some o→o.data=.dict es ep→H b=none:=fun {b o es ep} e d=>by
   cases q:H b with
   | none=>rfl
   | some u=>
     have e':b=a:=hA b (by rw [q];simp)
     subst e'
     rw [ha] at e;cases e
     have d':Data.seq vs.toArray _=Data.dict es ep:=d
     cases d'
  have nsK:∀{b:Addr} {m:Str→Option Value},s₁.heap.Ns b m→(hidT s₁.heap H).Ns b m:=fun {b m} ⟨o,es,ep,e,d,r⟩=>⟨o,es,ep,base_of e (noA e d),d,r⟩
  have hKb:K.In (hidT s₁.heap H):=fun b o e=>base_of (KX b o e) (by
   cases q:H b with
   | none=>rfl
   | some u=>
     have e':b=a:=hA b (by rw [q];simp)
     subst e'
     rw [hK (by rw [q];simp)] at e;cases e)
  have hM:Mod K mg (hidT s₁.heap H):=⟨hKb,nsK hns,⟨mb,nsK hb,hbb⟩,let ⟨mc,h1,h2⟩:=hlim;⟨mc,nsK h1,h2⟩⟩
  have e0:Env0 P w K mg (hidT s₁.heap H) callerA [] s₁ H:=⟨rfl,hM,fun b o e=>of_hidT e,Nat.le_of_eq (hidT_size _ _),trivial,fun b hb=>absurd (show b∈([]:List Addr) from hb) (by simp),hok,.of_eq hg⟩
  refine codeAny_mono ((F _ hKb (nsK hns)).run callerA [] s₁ H ⟨[.ref a],[]⟩ [.ref a] [.ref a] _ _ hr e0 (hbind s₁ (.ref a)) (.cons rfl .nil) (hsp H hO hS)) fun r s' h=>?_
  cases r with
  | error e=>exact (hCX H e s' h).elim
  | ok fl=>
    cases fl with
    | next=>exact False.elim h
    | brk=>exact False.elim h
    | cont=>exact False.elim h
    | ret u=>
      obtain ⟨v,H',os,bare,un,hok',r',q⟩:=h
      have q':v=.bl true:=q
      subst q'
      obtain rfl:u=Value.bool true:=r'
      refine ⟨rfl,OldK.of_keep fun b o e=>?_,os,bare⟩
      cases q:H b with
      | none=>exact un.keep b o e q (by intro z;exact absurd (show b∈([]:List Addr) from z) (by simp)) (by simp)
      | some u=>
        rcases hO b with z | ⟨ob,xs,z⟩
        ·rw [q] at z;cases z
        ·have z2:=un.frzs b ob _ z
         obtain ⟨e1,_⟩:=hok b _ z
         obtain ⟨e2,_⟩:=hok' b _ z2
         rw [e] at e1;cases e1
         exact e2
 cases hk:K.lookup a with
 | some o=>
    -- the script is one of the module's own objects
   have e:=KX a o hk
   rw [ha] at e
   cases e
   refine core (fun _=>none) (fun _=>.inl rfl) (.inr ⟨_,vs.toArray,_,hk,rfl,rfl,rfl,by rw [List.size_toArray,lenV];exact hl,by simpa using rv⟩) (fun b u z=>by have z':(none:Option HO)=some u:=z;cases z') (fun b z=>absurd rfl z) fun z=>absurd rfl z
 | none=>
   refine core (fun b=>if b=a then some (.frz { cls:=.type "list",data:=.seq vs.toArray } (.lst (ns.map V.int))) else none) (fun b=>?_) (.inl (.inr ⟨{ cls:=.type "list",data:=.seq vs.toArray },if_pos rfl⟩)) (fun b u z=>?_) (fun b z=>?_) fun _=>hk
   ·by_cases hb:b=a
    ·exact .inr ⟨_,_,if_pos hb⟩
    ·exact .inl (if_neg hb)
   ·by_cases hb:b=a
    ·have z':=(if_pos hb).symm.trans z
     cases z'
     subst hb
     exact ⟨ha,by rw [List.length_map];exact hl,vs,_,rv,ha⟩
    ·have z':=(if_neg hb).symm.trans z
     cases z'
   ·by_cases hb:b=a
    ·exact hb
    ·exact absurd (if_neg hb) z
end L2

namespace L2
open PySem PySem.Spec PyProof.Rows

theorem walk_of {l:PySem.W.OpenLaw} {n k:Nat} {q:Program} {loose:List Str} {XP:(Str→Option Value)→Heap→Prop} {YP:World→Heap→Prop} {d:DefRec} {K:Params→PySem.W.Frag} {CX:World→CXT} {sp:World→Sp} {x:Str}
 (hn:l.most=some n) (hn2:n≤sizeLine) (hdf:d.params.defaults=[]) (hr:Room k callerA)
 (hY:∀(w:World) (h:Heap),YP w h→(K w.params).In h)
 (F:∀(w:World) (mg:Str→Option Value) (fa:Addr) (h:Heap),(K w.params).In h→h.Ns mainGlobals mg→mg d.name=some (.ref fa) →
   ∃fd:FuncData,(∀(s:Shared) (u:Value),BindsTo s fd ⟨[u],[]⟩ [(x,u)]) ∧
    ∀base:Heap,(K w.params).In base→base.Ns mainGlobals mg→FnOk l.prog w (K w.params) mg base (CX w) k fa fd [x] (sp w))
 (hsp:∀(w:World) (H:Hp) (a:Addr) (ns:List Int),ns.length≤n→Only H→SqL (K w.params) H a (ns.map V.int)→sp w [.ref a] H (fun v _=>v=.bl true) fun _ _ _=>False)
 (hCX:∀(w:World) (H:Hp) (s:Shared) (e:Value) (s':Shared),CX w [] H s (fun _ _ _=>False) e s'→False) :
 PySem.W.WalkO q loose XP YP l.row.toRowW d [] (fun f vs=>PySem.call f vs):=by
 refine Att.attach_call hn hdf fun w s₀ s₁ mg mb fa o pm cd doc a vs ns G Y ho hd hcd hmg hobj hints hlen hg=>?_
 have KX:=hY w _ Y
 obtain ⟨fd,hb,hF⟩:=F w mg fa _ KX G.T.g hmg
 exact law_call KX G.T.g G.T.b G.T.builtins G.T.nolimit hg hobj hints (Nat.le_trans hlen hn2) hr hF hb (fun H hO hS=>hsp w H a ns hlen hO hS) fun H e s'=>hCX w H s₁ e s'
end L2



namespace L2
open PySem PySem.Spec PyProof.Rows

noncomputable def defArgs (s:Stmt):Arguments:=match s with
 | .FunctionDef _ a _ _ _ _ _ _ _ _=>a
 | _=>{ posonlyargs:=[],args:=[],vararg:=none,kwonlyargs:=[],kw_defaults:=[],kwarg:=none,defaults:=[] }
noncomputable def defBody (s:Stmt):List Stmt:=match s with
 | .FunctionDef _ _ b _ _ _ _ _ _ _=>b
 | _=>[]
noncomputable def defScope (s:Stmt):Scope:=match s with
 | .FunctionDef _ _ _ _ _ _ sc _ _ _=>sc
 | _=>{ kind:=.function,names:=[],isGenerator:=false,isCoroutine:=false }

noncomputable abbrev CX0:CXT:=fun _ _ _ _ _ _=>False
noncomputable abbrev E0:XK:=fun _ _ _=>False
theorem pass0 {X:Cx}:Passes CX0 X E0:=fun _ _ _ _ _ _ _ h=>h.elim

structure Fun (K:PySem.W.Frag) (x qual:Str) (st:Stmt) (f:Addr) (fd:FuncData):Prop where
 ex:∃(oc:Value) (od:Option Addr) (kV doc pm:Value) (an:Option Addr) (cdv ct:Value) (osl:Array (Option Value)),
  fd=PySem.W.fnOf x qual (defArgs st) (defBody st) (defScope st) .none kV doc pm an cdv ct∧K.lookup f=some ⟨oc,od,.func fd,osl⟩∧PySem.W.codeIn K cdv qual=true
 kp:PySem.W.keepIn K (.ref f)=true
section
variable {P:Program} {w:World} {K:PySem.W.Frag} {mg:Str→Option Value} {base:Heap}
theorem Fun.ok {x qual:Str} {st:Stmt} {f:Addr} {fd:FuncData} {N ps:List Str} {k:Nat} {sp:Sp} (F:Fun K x qual st f fd) (S:FnScope N ps (defScope st)) (len:∀vs H Q E,sp vs H Q E→vs.length=ps.length)
 (hbody:∀(cdv:Value) (A:Around) (outer:List Env) (s:Shared) (H:Hp) (vs:List V) (Q:VK) (E:XK),Room k (A.deeper (envOfC qual (defScope st) s.heap.objs.size f cdv))→sp vs H Q E →
   ∃t,PSs (cxOf CX0 P w K mg base N qual (defScope st) f cdv A outer s H E).nox (defBody st) t∧t { nx:=fun _ H'=>Q .non H',rt:=Q } (start N vs) H):FnOk P w K mg base CX0 (k+1) f fd ps sp:=by
 obtain ⟨oc,od,kV,doc,pm,an,cdv,ct,osl,rfl,lk,hcd⟩:=F.ex
 refine fn_of lk hcd S len fun A outer s H vs Q E hr hsp=>?_
 obtain ⟨t,h,q⟩:=hbody cdv A outer s H vs Q E hr hsp
 exact ⟨t,h.nox,q⟩
theorem Fun.binds {x qual:Str} {st:Stmt} {f:Addr} {fd:FuncData} {ps:List Str} (F:Fun K x qual st f fd)
 (h:∀(kV doc pm:Value) (an:Option Addr) (cdv ct:Value) (us:List Value),us.length=ps.length→bindArgs (PySem.W.fnOf x qual (defArgs st) (defBody st) (defScope st) .none kV doc pm an cdv ct) ⟨us,[]⟩=pure (ps.zip us)):Binds K fd ps []:=by
 obtain ⟨oc,od,kV,doc,pm,an,cdv,ct,osl,rfl,lk,hcd⟩:=F.ex
 exact .all (h kV doc pm an cdv ct)
theorem fun_mk {x qual:Str} {st:Stmt} {f:Addr} {oc:Value} {od an:Option Addr} {osl:Array (Option Value)} {kV doc pm cdv ct:Value} (l:K.lookup f=some ⟨oc,od,.func (PySem.W.fnOf x qual (defArgs st) (defBody st) (defScope st) .none kV doc pm an cdv ct),osl⟩)
 (c:PySem.W.codeIn K cdv qual=true) (k:PySem.W.keepIn K (.ref f)=true):Fun K x qual st f (PySem.W.fnOf x qual (defArgs st) (defBody st) (defScope st) .none kV doc pm an cdv ct):=⟨⟨oc,od,kV,doc,pm,an,cdv,ct,osl,rfl,l,c⟩,k⟩
end
theorem small1000 {n:Nat} (h:n≤1000):n<sizeLine:=Nat.lt_of_le_of_lt h (by decide)

section
variable {X:Cx}
theorem pv (i:Nat) {x:Str} {pos:Pos} (hN:autoParam (X.N[i]?=some x) au0_._auto_1) (hv:Vis X.env.scope x:=by first | exact Or.inl rfl | exact Or.inr (Or.inl rfl) | exact Or.inr (Or.inr rfl)) (hd:autoParam ((x==("__debug__":Str))=false) au1_._auto_1)
 (hcd:autoParam ((x==("__classdict__":Str))=false) au1_._auto_1):PE X (.Name x pos) (tVar i):=pe_var hN hv hd hcd
end

theorem iteF {A B:Prop} (h:B):if false=true then A else B:=by
 rw [if_neg Bool.false_ne_true]
 exact h
theorem iteT {A B:Prop} (h:A):if true=true then A else B:=by
 rw [if_pos rfl]
 exact h
theorem ite2 {c A B:Prop} [Decidable c] (h1:c→A) (h2:¬c→B):if c then A else B:=by
 by_cases h:c
 ·rw [if_pos h]
  exact h1 h
 ·rw [if_neg h]
  exact h2 h
noncomputable def Same (H H':Hp):Prop:=∀b o,H b=some o→H' b=some o
theorem Same.refl (H:Hp):Same H H:=fun _ _ h=>h
theorem Same.trans {H H1 H2:Hp} (a:Same H H1) (b:Same H1 H2):Same H H2:=fun c o h=>b c o (a c o h)
theorem Same.free {H H':Hp} (e:Same H H') {l:Addr} (h:H' l=Option.none):H l=Option.none:=by
 cases q:H l with
 | none=>rfl
 | some o=>
   rw [e l o q] at h
   cases h
theorem Same.seq {K:PySem.W.Frag} {H H':Hp} {a:Addr} {xs:List V} (e:Same H H') (h:SqL K H a xs):SqL K H' a xs:=by
 rcases h with (h | ⟨o,h⟩) | h
 ·exact .inl (.inl (e _ _ h))
 ·exact .inl (.inr ⟨o,e _ _ h⟩)
 ·exact .inr h

end L2

namespace L2
open PySem PySem.Spec PyProof.Rows
section
variable {κ:Type} [DecidableEq κ]
noncomputable def valV (kvs:List (κ×V)) (k:κ):Option V:=(kvs.find? fun kv=>decide (kv.1=k)).map (·.2)
noncomputable def putK (kvs:List (κ×V)) (k:κ) (v:V):List (κ×V):=
 if (kvs.any fun kv=>decide (kv.1=k))=true then kvs.map (fun kv=>if kv.1=k then (kv.1,v) else kv) else kvs++[(k,v)]
theorem valV_pos {p:κ×V} {r:List (κ×V)} {k:κ} (e:p.1=k):valV (p::r) k=some p.2:=by simp [valV,List.find?_cons,e]
theorem valV_neg {p:κ×V} {r:List (κ×V)} {k:κ} (e:¬p.1=k):valV (p::r) k=valV r k:=by simp [valV,List.find?_cons,e]
theorem valV_any (k:κ):∀kvs:List (κ×V),(kvs.any fun kv=>decide (kv.1=k))=(valV kvs k).isSome
 | []=>rfl
 | p::r=>by
   rw [List.any_cons]
   by_cases e:p.1=k
   ·simp only [valV_pos e,decide_eq_true e,Bool.true_or,Option.isSome_some]
   ·rw [valV_neg e,decide_eq_false e,Bool.false_or];exact valV_any k r
theorem valV_map (k j:κ) (y:V):∀kvs:List (κ×V),valV (kvs.map fun kv=>if kv.1=k then (kv.1,y) else kv) j=(valV kvs j).map fun x=>if j=k then y else x
 | []=>rfl
 | p::r=>by
   have ih:=valV_map k j y r
   rw [List.map_cons]
   by_cases h:p.1=k
   ·rw [if_pos h]
    by_cases e:p.1=j
    ·rw [valV_pos (p:=(p.1,y)) e,valV_pos e,Option.map_some,if_pos (e.symm.trans h)]
    ·rw [valV_neg (p:=(p.1,y)) e,valV_neg e,ih]
   ·rw [if_neg h]
    by_cases e:p.1=j
    ·rw [valV_pos (p:=p) e,valV_pos e,Option.map_some,if_neg (fun z=>h (e.trans z))]
    ·rw [valV_neg (p:=p) e,valV_neg e,ih]
theorem valV_snoc (k j:κ) (y:V):∀kvs:List (κ×V),valV kvs k=none→valV (kvs++[(k,y)]) j=if j=k then some y else valV kvs j
 | [],_=>by
   by_cases e:k=j
   ·rw [if_pos e.symm];exact valV_pos (p:=(k,y)) e
   ·rw [if_neg (fun z=>e z.symm)];exact valV_neg (p:=(k,y)) e
 | p::r,hn=>by
   rw [List.cons_append]
   have hk:¬p.1=k:=fun z=>by rw [valV_pos z] at hn;cases hn
   rw [valV_neg hk] at hn
   have ih:=valV_snoc k j y r hn
   by_cases e:p.1=j
   ·rw [valV_pos e,valV_pos e,if_neg (fun z=>hk (e.trans z))]
   ·rw [valV_neg e,valV_neg e,ih]
theorem valV_put (kvs:List (κ×V)) (k j:κ) (y:V):valV (putK kvs k y) j=if j=k then some y else valV kvs j:=by
 unfold putK
 by_cases a:(kvs.any fun kv=>decide (kv.1=k))=true
 ·rw [if_pos a,valV_map]
  rw [valV_any] at a
  by_cases e:j=k
  ·obtain ⟨x,hx⟩:=Option.isSome_iff_exists.mp a
   rw [if_pos e,e,hx,Option.map_some,if_pos rfl]
  ·rw [if_neg e]
   cases valV kvs j with
   | none=>rfl
   | some x=>rw [Option.map_some,if_neg e]
 ·rw [if_neg a]
  refine valV_snoc k j y kvs ?_
  rw [valV_any] at a
  cases q:valV kvs k with
  | none=>rfl
  | some x=>rw [q] at a;exact (a rfl).elim
theorem length_putK (kvs:List (κ×V)) (k:κ) (v:V):(putK kvs k v).length≤kvs.length+1:=by
 unfold putK
 split
 ·rw [List.length_map];omega
 ·rw [List.length_append,List.length_cons,List.length_nil];omega
theorem RelO.isSome_eq {o:Option V} {u:Option Value} (r:RelO o u):o.isSome=u.isSome:=by
 cases o with
 | none=>cases u with
   | none=>rfl
   | some _=>exact (show False from r).elim
 | some _=>cases u with
   | none=>exact (show False from r).elim
   | some _=>rfl
theorem KV.val {kvs:List (κ×V)} {vs:List (κ×Value)} (r:KV kvs vs) (k:κ):RelO (valV kvs k) (valueAt vs k):=by
 unfold KV at r
 induction r with
 | nil=>exact True.intro
 | @cons p q ps qs h t ih=>
   obtain ⟨h1,h2⟩:=h
   by_cases e:p.1=k
   ·have e':q.1=k:=h1.symm.trans e
    have b:valueAt (q::qs) k=some q.2:=by simp [valueAt,List.find?_cons,e']
    rw [valV_pos e,b];exact h2
   ·have e':¬q.1=k:=fun z=>e (h1.trans z)
    have b:valueAt (q::qs) k=valueAt qs k:=by simp [valueAt,List.find?_cons,e']
    rw [valV_neg e,b];exact ih
theorem KV.any {kvs:List (κ×V)} {vs:List (κ×Value)} (r:KV kvs vs) (k:κ):(kvs.any fun kv=>decide (kv.1=k))=vs.any fun kv=>decide (kv.1=k):=by
 unfold KV at r
 induction r with
 | nil=>rfl
 | cons h t ih=>rw [List.any_cons,List.any_cons,ih,h.1]
theorem KV.repl {kvs:List (κ×V)} {vs:List (κ×Value)} (r:KV kvs vs) (k:κ) {y:V} {u:Value} (ry:RelV y u) :
 KV (kvs.map fun kv=>if kv.1=k then (kv.1,y) else kv) (vs.map fun kv=>if kv.1=k then (kv.1,u) else kv):=by
 unfold KV at r ⊢
 induction r with
 | nil=>exact .nil
 | @cons p q ps qs h t ih=>
   rw [List.map_cons,List.map_cons]
   refine .cons ?_ ih
   obtain ⟨h1,h2⟩:=h
   by_cases e:p.1=k
   ·rw [if_pos e,if_pos (h1.symm.trans e)];exact ⟨h1,ry⟩
   ·rw [if_neg e,if_neg (fun z=>e (h1.trans z))];exact ⟨h1,h2⟩
theorem KV.put {kvs:List (κ×V)} {vs:List (κ×Value)} (r:KV kvs vs) (k:κ) {y:V} {u:Value} (ry:RelV y u):KV (putK kvs k y) (stored vs k u):=by
 unfold putK stored
 rw [r.any k]
 by_cases e:(vs.any fun kv=>decide (kv.1=k))=true
 ·rw [if_pos e,if_pos e];exact r.repl k ry
 ·rw [if_neg e,if_neg e];exact Paired.snoc r ⟨rfl,ry⟩
theorem KV.length {kvs:List (κ×V)} {vs:List (κ×Value)} (r:KV kvs vs):kvs.length=vs.length:=Paired.length r
end


theorem kV_is {P:Program} {w:World} {k:Key} {u:Value} (r:RelV (kV k) u):(mixKind P w).is k u=true:=by
 cases k with
 | inl i=>obtain ⟨t,e⟩:=(show ∃t,u=Value.int i t from r);subst e;exact mixKind_int P w i t
 | inr x=>obtain ⟨t,e⟩:=(show ∃t,u=Value.str x t from r);subst e;exact mixKind_str P w x t
theorem items_are {P:Program} {w:World}:∀{ks:List Key} {us:List Value},Vals (ks.map kV) us→ItemsAre (mixKind P w) ks us
 | [],_,r=>by rw [List.map_nil] at r;cases r;exact .nil
 | k::ks,_,r=>by
   rw [List.map_cons] at r
   cases r with
   | cons h t=>exact .cons (kV_is h) (items_are t)

noncomputable abbrev KT (H:Hp):List (List Key×V)→List (List Key×Addr×Value)→Prop:=Paired fun p q=>p.1=q.1∧H q.2.1=some (.tup (p.1.map kV))∧RelV p.2 q.2.2
theorem KT.val {H:Hp} {kvs:List (List Key×V)} {xs:List (List Key×Addr×Value)} (r:KT H kvs xs) (k:List Key):RelO (valV kvs k) ((atKey xs k).map (·.2)):=by
 induction r with
 | nil=>exact True.intro
 | @cons p q ps qs h t ih=>
   obtain ⟨h1,_,h2⟩:=h
   by_cases e:p.1=k
   ·have e':q.1=k:=h1.symm.trans e
    have b:atKey (q::qs) k=some q.2:=by simp [atKey,List.find?_cons,e']
    rw [valV_pos e,b];exact h2
   ·have e':¬q.1=k:=fun z=>e (h1.trans z)
    have b:atKey (q::qs) k=atKey qs k:=by simp [atKey,List.find?_cons,e']
    rw [valV_neg e,b];exact ih
theorem KT.repl {H:Hp} {kvs:List (List Key×V)} {xs:List (List Key×Addr×Value)} (r:KT H kvs xs) (k:List Key) {y:V} {u:Value} (ry:RelV y u) :
 KT H (kvs.map fun kv=>if kv.1=k then (kv.1,y) else kv) (xs.map (putAt k u)):=by
 induction r with
 | nil=>exact .nil
 | @cons p q ps qs h t ih=>
   rw [List.map_cons,List.map_cons]
   refine .cons ?_ ih
   obtain ⟨h1,h2,h3⟩:=h
   unfold putAt
   by_cases e:p.1=k
   ·rw [if_pos e,if_pos (h1.symm.trans e)];exact ⟨h1,h2,ry⟩
   ·rw [if_neg e,if_neg (fun z=>e (h1.trans z))];exact ⟨h1,h2,h3⟩
theorem KT.put {H:Hp} {kvs:List (List Key×V)} {xs:List (List Key×Addr×Value)} (r:KT H kvs xs) (k:List Key) {b:Addr} {y:V} {u:Value} (hb:H b=some (.tup (k.map kV))) (ry:RelV y u) :
 KT H (putK kvs k y) (storedH xs k b u):=by
 have e:(kvs.any fun kv=>decide (kv.1=k))=(atKey xs k).isSome:=by
  rw [valV_any,(r.val k).isSome_eq,Option.isSome_map]
 unfold putK storedH
 rw [e]
 by_cases q:(atKey xs k).isSome=true
 ·rw [if_pos q,if_pos q];exact r.repl k ry
 ·rw [if_neg q,if_neg q];exact Paired.snoc r ⟨rfl,hb,ry⟩
theorem KT.keeps {H H':Hp} {kvs:List (List Key×V)} {xs:List (List Key×Addr×Value)} (r:KT H kvs xs) (ht:∀b ys,H b=some (.tup ys)→H' b=some (.tup ys)):KT H' kvs xs:=
 Paired.mapP r fun _ _ z=>⟨z.1,ht _ _ z.2.1,z.2.2⟩

section
variable {P:Program} {w:World} {H:Hp} {h:Heap} {a:Addr}
theorem rd_of {u:HO} (ok:HOk P w H h) (e:Rd H a u):ObjOk P w H h a u:=e.ok ok
theorem dk_rd {kvs:List (Key×V)} (ok:HOk P w H h) (e:Rd H a (.dK kvs)):kvs.length≤sizeLine∧(a==sysModules)=false∧∃vs,KV kvs vs∧h.DictOf (mixKind P w) a vs:=
 show ObjOk P w H h a (.dK kvs) from rd_of ok e
theorem dk_of {kvs:List (Key×V)} (ok:HOk P w H h) (e:H a=some (.dK kvs)):kvs.length≤sizeLine∧(a==sysModules)=false∧∃vs,KV kvs vs∧h.DictOf (mixKind P w) a vs:=dk_rd ok (.inl e)
theorem key_of {ks:List Key} (ok:HOk P w H h) (e:H a=some (.tup (ks.map kV))):(tupleKind (mixKind P w)).is h ks a:=by
 obtain ⟨_,its,r,o,h1,h2,n,h3⟩:=(show ObjOk P w H h a (.tup (ks.map kV)) from ok a _ e)
 exact ⟨o,its.toArray,n,h1,h2,h3,by simpa using items_are r⟩
theorem dt_rd {kvs:List (List Key×V)} (ok:HOk P w H h) (e:Rd H a (.dT kvs)):kvs.length≤sizeLine∧(a==sysModules)=false ∧
 ∃xs,KT H kvs xs∧h.DictOfH (tupleKind (mixKind P w)) a xs:=by
 obtain ⟨z,y,xs,r,o,es,ep,h1,h2,h3,h4,h5⟩:=(show ObjOk P w H h a (.dT kvs) from rd_of ok e)
 refine ⟨z,y,xs,r,o,es,ep,h1,h2,h3,h4,fun x hx=>?_,h5⟩
 have all:∀{l:List (List Key×V)} {m:List (List Key×Addr×Value)},KT H l m→∀x∈m,(tupleKind (mixKind P w)).is h x.1 x.2.1:=by
  intro l m q
  induction q with
  | nil=>intro x hx;exact nomatch hx
  | @cons p q ps qs hq t ih=>
    intro x hx
    rcases List.mem_cons.mp hx with e | hx
    ·subst e
     exact key_of ok (by rw [← hq.1];exact hq.2.1)
    ·exact ih x hx
 exact all r x hx
theorem dt_of {kvs:List (List Key×V)} (ok:HOk P w H h) (e:H a=some (.dT kvs)):kvs.length≤sizeLine∧(a==sysModules)=false ∧
 ∃xs,KT H kvs xs∧h.DictOfH (tupleKind (mixKind P w)) a xs:=dt_rd ok (.inl e)
end

noncomputable def DGet (H:Hp) (a:Addr) (y:V) (r:Option V):Prop:=
 (∃kvs k,Rd H a (.dK kvs)∧y=kV k∧r=valV kvs k)∨∃kvs k b,Rd H a (.dT kvs)∧y=.ref b∧H b=some (.tup (k.map kV))∧r=valV kvs k
noncomputable def DPut (H:Hp) (a:Addr) (y v:V) (H':Hp):Prop:=
 (∃kvs k,H a=some (.dK kvs)∧y=kV k∧kvs.length<sizeLine∧H'=upd H a (.dK (putK kvs k v))) ∨
 ∃kvs k b,H a=some (.dT kvs)∧y=.ref b∧H b=some (.tup (k.map kV))∧kvs.length<sizeLine∧H'=upd H a (.dT (putK kvs k v))
theorem DGet.k {H:Hp} {a:Addr} {kvs:List (Key×V)} {k:Key} (e:H a=some (.dK kvs)):DGet H a (kV k) (valV kvs k):=.inl ⟨kvs,k,.inl e,rfl,rfl⟩
theorem DGet.t {H:Hp} {a b:Addr} {kvs:List (List Key×V)} {k:List Key} (e:H a=some (.dT kvs)) (eb:H b=some (.tup (k.map kV))):DGet H a (.ref b) (valV kvs k):=.inr ⟨kvs,k,b,.inl e,rfl,eb,rfl⟩
theorem DPut.k {H:Hp} {a:Addr} {kvs:List (Key×V)} {k:Key} {v:V} (e:H a=some (.dK kvs)) (hl:kvs.length<sizeLine):DPut H a (kV k) v (upd H a (.dK (putK kvs k v))):=.inl ⟨kvs,k,e,rfl,hl,rfl⟩
theorem DPut.t {H:Hp} {a b:Addr} {kvs:List (List Key×V)} {k:List Key} {v:V} (e:H a=some (.dT kvs)) (eb:H b=some (.tup (k.map kV))) (hl:kvs.length<sizeLine) :
 DPut H a (.ref b) v (upd H a (.dT (putK kvs k v))):=.inr ⟨kvs,k,b,e,rfl,eb,hl,rfl⟩


section
variable {X:Cx} {pins:List (Addr×Obj)} {σ:St} {H:Hp} {s:Shared} {a:Addr} {y v:V} {u r:Value} {o:Option V} {A:Around} {E:Value→Shared→Prop}

theorem Inv.big (I:Inv X pins σ H s):sysModules<s.heap.objs.size:=by
 have h:mainGlobals<s.heap.objs.size:=(I.mod.glob.keeps I.bk).lt
 exact Nat.lt_trans (by decide) h

theorem d_getItem {Q:Value→Shared→Prop} (hu:A.units+1<cLine) (I:Inv X pins σ H s) (g:DGet H a y (some v)) (ry:RelV y u) (h:∀w' s',Inv X pins σ H s'→RelV v w'→Q w' s') :
 wpAny (model X.prog X.w) A (getItem (.ref a) u) Q E s:=by
 rcases g with ⟨kvs,k,e,ey,l⟩ | ⟨kvs,k,b,e,ey,eb,l⟩
 ·subst ey
  obtain ⟨z,hd,vs,rel,dd⟩:=dk_rd I.hok e
  obtain ⟨w',hw,rw'⟩:=RelO.some_of (v:=v) (o:=valueAt vs k) (by rw [l];exact rel.val k)
  exact wpAny_getItem_of (kV_is ry) dd.mapOf hw (h w' _ (I.tok _) rw')
 ·subst ey
  cases (show u=Value.ref b from ry)
  obtain ⟨z,hd,xs,rel,dd⟩:=dt_rd I.hok e
  obtain ⟨w',hw,rw'⟩:=RelO.some_of (v:=v) (o:=(atKey xs k).map (·.2)) (by rw [l];exact rel.val k)
  obtain ⟨p,hp,hp2⟩:=Option.map_eq_some_iff.mp hw
  refine wpAny_getItem_heap (tupleKind_room_in1 hu) (key_of I.hok eb) dd hp ?_
  rw [hp2]
  exact h w' _ (I.tok _) rw'
theorem d_in {Q:Value→Shared→Prop} (hu:A.units+1<cLine) (I:Inv X pins σ H s) (g:DGet H a y o) (ry:RelV y u) (h:∀s',Inv X pins σ H s'→Q (.bool o.isSome) s') :
 wpAny (model X.prog X.w) A (compareOp .In u (.ref a)) Q E s:=by
 rcases g with ⟨kvs,k,e,ey,l⟩ | ⟨kvs,k,b,e,ey,eb,l⟩
 ·subst ey
  obtain ⟨z,hd,vs,rel,dd⟩:=dk_rd I.hok e
  refine wpAny_in_of (kV_is ry) hd dd.mapOf ?_
  rw [← (rel.val k).isSome_eq,← l]
  exact h _ (I.tok _)
 ·subst ey
  cases (show u=Value.ref b from ry)
  obtain ⟨z,hd,xs,rel,dd⟩:=dt_rd I.hok e
  refine wpAny_in_heap (tupleKind_room_in1 hu) (key_of I.hok eb) hd dd ?_
  have q:=(rel.val k).isSome_eq
  rw [Option.isSome_map] at q
  rw [← q,← l]
  exact h _ (I.tok _)
theorem d_notIn {Q:Value→Shared→Prop} (hu:A.units+1<cLine) (I:Inv X pins σ H s) (g:DGet H a y o) (ry:RelV y u) (h:∀s',Inv X pins σ H s'→Q (.bool (!o.isSome)) s') :
 wpAny (model X.prog X.w) A (compareOp .NotIn u (.ref a)) Q E s:=by
 rcases g with ⟨kvs,k,e,ey,l⟩ | ⟨kvs,k,b,e,ey,eb,l⟩
 ·subst ey
  obtain ⟨z,hd,vs,rel,dd⟩:=dk_rd I.hok e
  refine wpAny_notIn_of (kV_is ry) hd dd.mapOf ?_
  rw [← (rel.val k).isSome_eq,← l]
  exact h _ (I.tok _)
 ·subst ey
  cases (show u=Value.ref b from ry)
  obtain ⟨z,hd,xs,rel,dd⟩:=dt_rd I.hok e
  refine wpAny_notIn_heap (tupleKind_room_in1 hu) (key_of I.hok eb) hd dd ?_
  have q:=(rel.val k).isSome_eq
  rw [Option.isSome_map] at q
  rw [← q,← l]
  exact h _ (I.tok _)
theorem d_write {h':Heap} {t':Nat} {ob:HO} (I:Inv X pins σ H s) (mu:Mut (H a)) (hs:Heap.SameBut a s.heap h') (he:∃q,h'.get? a=some q) (new:ObjOk X.prog X.w (upd H a ob) h' a ob) :
 Inv X pins σ (upd H a ob) { s with heap:=h',toks:=t' }:=
 I.write (x:=a) (e:=a) mu (.inl rfl) (fun b q hb z=>(hs.2 b hb).trans z) he new
theorem dk_new {P:Program} {w:World} {H':Hp} {h':Heap} {kvs:List (Key×V)} {vs:List (Key×Value)} (z:kvs.length≤sizeLine) (hd:(a==sysModules)=false) (rel:KV kvs vs) (dd:h'.DictOf (mixKind P w) a vs) :
 ObjOk P w H' h' a (.dK kvs):=⟨z,hd,vs,rel,dd⟩
theorem d_setItem {H':Hp} {Q:Unit→Shared→Prop} (hu:A.units+1<cLine) (I:Inv X pins σ H s) (g:DPut H a y v H') (ry:RelV y u) (rv:RelV v r) (h:∀s',Inv X pins σ H' s'→Q () s') :
 wpAny (model X.prog X.w) A (setItem (.ref a) u r) Q E s:=by
 rcases g with ⟨kvs,k,e,ey,l,eH⟩ | ⟨kvs,k,b,e,ey,eb,l,eH⟩
 ·subst ey eH
  obtain ⟨z,hd,vs,rel,dd⟩:=dk_of I.hok e
  have hz:vs.length≤sizeLine:=by rw [← rel.length];exact z
  have hl:(putK kvs k v).length≤sizeLine:=by have:=length_putK kvs k v;omega
  refine wpAny_setItem_pairs (hsz:=hz) (kV_is ry) dd fun h' dd' hs=>h _ ?_
  have he:∃q,h'.get? a=some q:=let ⟨q,_,_,hq,_⟩:=dd';⟨q,hq⟩
  exact d_write I (by rw [e];exact True.intro) hs he (dk_new hl hd (rel.put k rv) dd')
 ·subst ey eH
  cases (show u=Value.ref b from ry)
  obtain ⟨z,hd,xs,rel,dd⟩:=dt_of I.hok e
  have hz:xs.length≤sizeLine:=by rw [← Paired.length rel];exact z
  have hl:(putK kvs k v).length≤sizeLine:=by have:=length_putK kvs k v;omega
  refine wpAny_setItem_heap (hsz:=hz) (tupleKind_room_in1 hu) (key_of I.hok eb) dd fun h' dd' hs=>h _ ?_
  obtain ⟨q,es,ep,hq,h2,h3,h4,_,h5⟩:=dd'
  refine d_write I (by rw [e];exact True.intro) hs ⟨q,hq⟩ ⟨hl,hd,_,(rel.put k eb rv).keeps fun c ys ec=>?_,q,es,ep,hq,h2,h3,h4,h5⟩
  rw [upd_ne (ne_of ec e (fun z=>nomatch z))]
  exact ec
end

section
variable {X:Cx} {pins:List (Addr×Obj)} {σ:St} {H:Hp} {s:Shared} {a:Addr} {kvs:List (Key×V)} {k:Key} {u:Value} {A:Around} {E:Value→Shared→Prop}
end


noncomputable def NoSl (i:Expr):Prop:=∀ov iv,subscripted i false ov iv=operate [ov,iv] (getItem ov iv)
theorem subD_of {prog:Program} {w:World} {A:Around} {E:Value→Shared→Prop} {s:Shared} {env:Env} {value slice:Expr} {pos:Pos} {T id:String} {Q:Value→Shared→Prop}
 (hl:typeLookup (.type T) "__getitem__"=pure (some (.builtin id))) (hs:NoSl slice)
 (h:wpAny (model prog w) A (eval value env) (fun o s₁=>wpAny (model prog w) A (eval slice env) (fun i s₂=>s₂.TypeIs o T∧wpAny (model prog w) A (getItem o i) Q E s₂) E s₁) E s) :
 wpAny (model prog w) A (eval (.Subscript value slice pos) env) Q E s:=by
 refine Subscript_ (wpAny_mono h (fun o s₁ h₁=>wpAny_mono h₁ (fun i s₂ h₂=>?_) fun _ _ x=>x) fun _ _ x=>x)
 obtain ⟨hT,h₂⟩:=h₂
 unfold subscriptTail
 refine wpAny_bind ?_
 rw [getitemInPython_of_ne hT.not_modules]
 refine wpAny_bind (wpAny_specialOf hT hl ?_)
 have fin:wpAny (model prog w) A (subscripted slice false o i) (fun r s₃=>wpAny (model prog w) A (letTemporaryGo value o r >>= fun _=>pure r) Q E s₃) E s₂:=by
  rw [hs o i]
  exact wpAny_operating (wpAny_mono h₂ (fun r s₃ h₃=>wpAny_bind (wpAny_letTemporaryGo (wpAny_pure h₃))) fun _ _ x=>x)
 first
  | exact wpAny_pure (wpAny_bind fin)
  | exact wpAny_bind (wpAny_pure (wpAny_bind fin))
  | exact wpAny_bind fin

theorem dict_typeIs {X:Cx} {pins:List (Addr×Obj)} {σ:St} {H:Hp} {s:Shared} {a:Addr} {y:V} {o:Option V} (I:Inv X pins σ H s) (g:DGet H a y o):s.TypeIs (.ref a) "dict":=by
 rcases g with ⟨kvs,k,e,_,_⟩ | ⟨kvs,k,b,e,_,_,_⟩
 ·obtain ⟨_,_,vs,_,dd⟩:=dk_rd I.hok e
  exact dd.typeIs
 ·obtain ⟨_,_,xs,_,dd⟩:=dt_rd I.hok e
  exact dd.typeIs
noncomputable def tDGet (td ty:TE):TE:=fun σ H Q=>td σ H fun x H1=>ty σ H1 fun y H2=>∃a v,x=.ref a∧DGet H2 a y (some v)∧Q v H2
noncomputable def sDPut (td ty tv:TE):TS:=fun D σ H=>tv σ H fun v H1=>td σ H1 fun x H2=>ty σ H2 fun y H3=>∃a H4,x=.ref a∧DPut H3 a y v H4∧D.nx σ H4
section
variable {X:Cx} {o i e value:Expr} {pos pos' tpos:Pos} {td ty tv:TE}
theorem pe_dget (hu:X.A.units+1<cLine) (ho:PE X o td) (hi:PE X i ty) (hs:NoSl i):PE X (.Subscript o i pos) (tDGet td ty):=by
 intro pins s σ H Q I h
 refine subD_of PySem.F.slot_dict_getitem.lookup hs (thn (ho pins s σ H _ I h) fun u s1 ⟨x,H1,I1,rx,q1⟩=>thn (hi pins s1 σ H1 _ I1 q1) fun iv s2 ⟨y,H2,I2,ry,a,v,ex,g,q2⟩=>?_)
 subst ex
 obtain rfl:u=Value.ref a:=rx
 exact ⟨dict_typeIs I2 g,d_getItem hu I2 g ry fun w' s3 I3 rw'=>⟨v,H2,I3,rw',q2⟩⟩
theorem ps_dput (hu:X.A.units+1<cLine) (ho:PE X o td) (hi:PE X i ty) (hv:PE X value tv) (hs:swapsWith value (some (.Subscript o i pos')) pos.line X.env=pure false) :
 PS X (.Assign [.Subscript o i pos'] value pos) (sDPut td ty tv):=by
 intro pins s σ H D I h
 refine wpAny_Assign_Subscript (thn (hv pins s σ H _ I h) fun r s1 ⟨v,H1,I1,rv,q1⟩=>thn (ho pins s1 σ H1 _ I1 q1) fun u s2 ⟨x,H2,I2,rx,q2⟩=>thn (hi pins s2 σ H2 _ I2 q2) fun iv s3 ⟨y,H3,I3,ry,a,H4,ex,g,q3⟩=>?_) hs
 subst ex
 obtain rfl:u=Value.ref a:=rx
 exact d_setItem hu I3 g ry rv fun s4 I4=>⟨σ,H4,I4,q3⟩
end


theorem dk_empty {P:Program} {w:World} {H:Hp} (h:Heap) (hb:sysModules<h.objs.size):ObjOk P w H (h.push { cls:=.type "dict",data:=.dict #[] }) h.objs.size (.dK []):=
 ⟨Nat.zero_le _,beq_eq_false_iff_ne.mpr (Ne.symm (Nat.ne_of_lt hb)),[],.nil,Heap.DictOf.new h⟩
theorem dt_empty {P:Program} {w:World} {H:Hp} (h:Heap) (hb:sysModules<h.objs.size):ObjOk P w H (h.push { cls:=.type "dict",data:=.dict #[] }) h.objs.size (.dT []):=
 ⟨Nat.zero_le _,beq_eq_false_iff_ne.mpr (Ne.symm (Nat.ne_of_lt hb)),[],.nil,_,#[],0,Heap.get?_push_size _ rfl,⟨rfl,rfl,rfl⟩,rfl,rfl,List.nodup_nil⟩
noncomputable def tDNewK:TE:=fun _ H Q=>∀p,H p=none→Q (.ref p) (upd H p (.dK []))
noncomputable def tDNewT:TE:=fun _ H Q=>∀p,H p=none→Q (.ref p) (upd H p (.dT []))
section
variable {X:Cx} {pos:Pos}
theorem pe_dnewK:PE X (.Dict [] [] pos) tDNewK:=fun pins s σ H Q I h=>
 wpAny_Dict_empty ⟨.ref s.heap.objs.size,_,I.laid (a:=s.heap.objs.size) (o:=.dK []) (t':=s.toks) (fun _ _ q=>Heap.get?_push_of_some _ q) (Nat.le_refl _) (dk_empty s.heap I.big),rfl,h _ (I.hok.fresh (Nat.le_refl _))⟩
theorem pe_dnewT:PE X (.Dict [] [] pos) tDNewT:=fun pins s σ H Q I h=>
 wpAny_Dict_empty ⟨.ref s.heap.objs.size,_,I.laid (a:=s.heap.objs.size) (o:=.dT []) (t':=s.toks) (fun _ _ q=>Heap.get?_push_of_some _ q) (Nat.le_refl _) (dt_empty s.heap I.big),rfl,h _ (I.hok.fresh (Nat.le_refl _))⟩
end

section
variable {X:Cx} {pins:List (Addr×Obj)} {σ:St} {H:Hp} {s:Shared} {a:Addr} {y d:V} {u r:Value} {o:Option V} {A:Around} {E:Value→Shared→Prop}
end

section
variable {X:Cx} {o e f:Expr} {apos cpos:Pos} {td ty tx:TE}
end
end L2

set_option maxHeartbeats 4000000
namespace Mth

noncomputable def Sz (n:Nat) (x:Int):Prop:=x.natAbs<2 ^ n
noncomputable instance {n:Nat} {x:Int}:Decidable (Sz n x):=inferInstanceAs (Decidable (x.natAbs<2 ^ n))
theorem Sz.mono {m n:Nat} {x:Int} (h:Sz m x) (hm:m≤n):Sz n x:=
 Nat.lt_of_lt_of_le h (Nat.pow_le_pow_right (by decide) hm)
theorem Sz.mul {m n:Nat} {x y:Int} (hx:Sz m x) (hy:Sz n y):Sz (m+n) (x*y):=by
 unfold Sz at *
 rw [Int.natAbs_mul,Nat.pow_add]
 exact Nat.mul_lt_mul'' hx hy
theorem Sz.add {m:Nat} {x y:Int} (hx:Sz m x) (hy:Sz m y):Sz (m+1) (x+y):=by
 unfold Sz at *
 rw [Nat.pow_succ]
 have:=Int.natAbs_add_le x y
 (first | lia | omega)
theorem Sz.neg {m:Nat} {x:Int} (hx:Sz m x):Sz m (-x):=by
 unfold Sz at *
 rw [Int.natAbs_neg];exact hx
theorem Sz.sub {m:Nat} {x y:Int} (hx:Sz m x) (hy:Sz m y):Sz (m+1) (x-y):=by
 rw [Int.sub_eq_add_neg];exact hx.add hy.neg
theorem Sz.of_le {m:Nat} {x y:Int} (hx:Sz m x) (h:y.natAbs≤x.natAbs):Sz m y:=Nat.lt_of_le_of_lt h hx
theorem Sz.log {m:Nat} {x:Int} (hx:Sz m x) (hm:m≤9000) (h0:0<m):x.natAbs.log2<9000:=by
 by_cases h:x.natAbs=0
 ·rw [h];decide
 ·have:=(Nat.log2_lt h).mpr hx
  (first | lia | omega)
theorem Sz.of_lt {m k:Nat} {x:Int} (h:x.natAbs<k) (hk:k≤2 ^ m):Sz m x:=Nat.lt_of_lt_of_le h hk

structure Low (t b t' b':Int):Prop where
 pos:1≤b'
 co:Int.gcd t' b'=1
 eq:t'*b=t*b'
 tb:t'.natAbs≤t.natAbs
 bb:b'.natAbs≤b.natAbs

theorem gcd_step (x y:Nat):Nat.gcd y (x % y)=Nat.gcd x y:=by
 rw [Nat.gcd_comm y,← Nat.gcd_rec,Nat.gcd_comm]

theorem ediv_gcd {t b:Int} (hb:b≠0):Int.gcd (t/(Int.gcd t b:Int)) (b/(Int.gcd t b:Int))=1:=by
 have hp:0<Int.gcd t b:=Int.gcd_pos_of_ne_zero_right t hb
 rw [Int.gcd_ediv (Int.gcd_dvd_left ..) (Int.gcd_dvd_right ..)]
 rw [Int.natAbs_natCast]
 exact Nat.div_self hp
theorem le_of_mul {a:Int} {g:Nat} {c:Int} (hg:0<g) (e:a*(g:Int)=c):a.natAbs≤c.natAbs:=by
 subst e
 rw [Int.natAbs_mul,Int.natAbs_natCast]
 exact Nat.le_mul_of_pos_right _ hg

theorem low_mk {t b t' b':Int} {g:Nat} (hg:0<g) (e1:t'*(g:Int)=t) (e2:b'*(g:Int)=b) (hb:0<b) (hc:Int.gcd t' b'=1):Low t b t' b':=by
 refine ⟨?_,hc,?_,le_of_mul hg e1,le_of_mul hg e2⟩
 ·have:0<b':=Int.pos_of_mul_pos_left (b:=(g:Int)) (by rw [e2];exact hb) (by (first | lia | omega))
  (first | lia | omega)
 ·rw [← e1,← e2,Int.mul_assoc,Int.mul_comm (g:Int) b']

theorem low_pos {t b:Int} (hb:0<b):Low t b (t.fdiv (Int.gcd t b:Int)) (b.fdiv (Int.gcd t b:Int)):=by
 have hp:0<Int.gcd t b:=Int.gcd_pos_of_ne_zero_right t (by (first | lia | omega))
 have h1:(Int.gcd t b:Int)∣t:=Int.gcd_dvd_left ..
 have h2:(Int.gcd t b:Int)∣b:=Int.gcd_dvd_right ..
 rw [Int.fdiv_eq_ediv_of_nonneg _ (by (first | lia | omega)),Int.fdiv_eq_ediv_of_nonneg _ (by (first | lia | omega))]
 exact low_mk hp (Int.ediv_mul_cancel h1) (Int.ediv_mul_cancel h2) hb (ediv_gcd (by (first | lia | omega)))

theorem co_dvd {b a d:Int} (hc:Int.gcd b a=1) (h:b∣a*d):b∣d:=by
 have h':b.natAbs∣a.natAbs*d.natAbs:=by rw [← Int.natAbs_mul];exact Int.natAbs_dvd_natAbs.mpr h
 have hc':Nat.Coprime b.natAbs a.natAbs:=hc
 exact Int.natAbs_dvd_natAbs.mp (hc'.dvd_of_dvd_mul_left h')
theorem low_unique {a b c d:Int} (hb:1≤b) (hd:1≤d) (h1:Int.gcd a b=1) (h2:Int.gcd c d=1) (e:a*d=c*b):a=c∧b=d:=by
 have k1:b∣d:=by
  have:b∣a*d:=⟨c,by rw [e,Int.mul_comm]⟩
  exact co_dvd (by rw [Int.gcd_comm];exact h1) this
 have k2:d∣b:=by
  have:d∣c*b:=⟨a,by rw [← e,Int.mul_comm]⟩
  exact co_dvd (by rw [Int.gcd_comm];exact h2) this
 have hbd:b=d:=Int.dvd_antisymm (by (first | lia | omega)) (by (first | lia | omega)) k1 k2
 subst hbd
 exact ⟨Int.eq_of_mul_eq_mul_right (by (first | lia | omega)) e,rfl⟩

end Mth

namespace Mth
structure Steps (H L high low x0 y0 x1 y1:Int):Prop where
 sg:(x0*y1-x1*y0=1∧0≤x0∧y0≤0∧x1≤0∧1≤y1)∨(x0*y1-x1*y0=-1∧x0≤0∧0≤y0∧0≤x1∧y1≤-1)
 eh:x0*H+y0*L=high
 el:x1*H+y1*L=low
 l0:0≤low
 lh:low≤high
 st:(x0=1∧y0=0∧x1=0∧y1=1)∨(y0≠0∧high≤L∧340282366920938463463374607431768211456≤high∧x0.natAbs≤x1.natAbs∧y0.natAbs≤y1.natAbs)

theorem Steps.init {H L:Int} (h0:0≤L) (h:L≤H):Steps H L H L 1 0 0 1:=⟨.inl (by (first | lia | omega)),by (first | lia | omega),by (first | lia | omega),h0,h,.inl (by (first | lia | omega))⟩

theorem div_le {x y:Int} (hx:0≤x) (hy:0≤y):(x/y).natAbs≤x.natAbs:=by
 have h1:=Int.ediv_le_self (a:=x) y hx
 have h2:=Int.ediv_nonneg hx hy
 (first | lia | omega)

theorem mul_ge {q z:Int} (hq:1≤q) (hz:0≤z):z≤q*z:=by
 have:=Int.mul_le_mul_of_nonneg_right hq hz
 (first | lia | omega)

theorem Steps.step {H L high low x0 y0 x1 y1 q:Int} (h:Steps H L high low x0 y0 x1 y1) (hl:340282366920938463463374607431768211456≤low) (hq:q=high/low) :
 Steps H L low (high-q*low) x1 y1 (x0-q*x1) (y0-q*y1):=by
 obtain ⟨sg,eh,el,l0,lh,st⟩:=h
 have q1:1≤q:=by
  rw [hq];exact (Int.le_ediv_iff_mul_le (by (first | lia | omega))).mpr (by (first | lia | omega))
 have em:high-q*low=high % low:=by
  have:=Int.mul_ediv_add_emod high low
  rw [hq,Int.mul_comm];(first | lia | omega)
 have m0:0≤high % low:=Int.emod_nonneg _ (by (first | lia | omega))
 have m1:high % low<low:=Int.emod_lt_of_pos _ (by (first | lia | omega))
 have hlL:low≤L:=by
  rcases st with ⟨a,b,c,d⟩ | ⟨_,a,_⟩
  ·subst a b c d;(first | lia | omega)
  ·(first | lia | omega)
 have det:x1*(y0-q*y1)-(x0-q*x1)*y1=-(x0*y1-x1*y0):=by grind
 have hel:(x0-q*x1)*H+(y0-q*y1)*L=high-q*low:=by rw [← eh,← el];grind
 refine ⟨?_,el,hel,by (first | lia | omega),by (first | lia | omega),.inr ⟨?_,hlL,hl,?_,?_⟩⟩
 ·rcases sg with ⟨d,a,b,c,e⟩ | ⟨d,a,b,c,e⟩
  ·right
   have k1:=mul_ge q1 (z:=-x1) (by (first | lia | omega))
   have k2:=mul_ge q1 (z:=y1) (by (first | lia | omega))
   rw [Int.mul_neg] at k1
   exact ⟨by (first | lia | omega),by (first | lia | omega),by (first | lia | omega),by (first | lia | omega),by (first | lia | omega)⟩
  ·left
   have k1:=mul_ge q1 (z:=x1) (by (first | lia | omega))
   have k2:=mul_ge q1 (z:=-y1) (by (first | lia | omega))
   rw [Int.mul_neg] at k2
   exact ⟨by (first | lia | omega),by (first | lia | omega),by (first | lia | omega),by (first | lia | omega),by (first | lia | omega)⟩
 ·rcases sg with ⟨d,a,b,c,e⟩ | ⟨d,a,b,c,e⟩ <;> (first | lia | omega)
 ·rcases sg with ⟨d,a,b,c,e⟩ | ⟨d,a,b,c,e⟩
  ·have k1:=mul_ge q1 (z:=-x1) (by (first | lia | omega))
   rw [Int.mul_neg] at k1
   (first | lia | omega)
  ·have k1:=mul_ge q1 (z:=x1) (by (first | lia | omega))
   (first | lia | omega)
 ·rcases sg with ⟨d,a,b,c,e⟩ | ⟨d,a,b,c,e⟩
  ·have k1:=mul_ge q1 (z:=y1) (by (first | lia | omega))
   (first | lia | omega)
  ·have k1:=mul_ge q1 (z:=-y1) (by (first | lia | omega))
   rw [Int.mul_neg] at k1
   (first | lia | omega)

theorem Steps.high_le {H L high low x0 y0 x1 y1:Int} (h:Steps H L high low x0 y0 x1 y1) (h1:L≤H):high≤H:=by
 obtain ⟨sg,eh,el,l0,lh,st⟩:=h
 rcases st with ⟨a,b,c,d⟩ | ⟨_,a,_⟩
 ·subst a b c d;(first | lia | omega)
 ·(first | lia | omega)

theorem Steps.now_le {H L high low x0 y0 x1 y1:Int} (h:Steps H L high low x0 y0 x1 y1) (hh:1≤high):x1.natAbs≤L.natAbs∧y1.natAbs≤H.natAbs:=by
 obtain ⟨sg,eh,el,l0,lh,st⟩:=h
 rcases sg with ⟨d,a,b,c,e⟩ | ⟨d,a,b,c,e⟩
 ·have e1:y1*high+(-y0)*low=H:=by
   have:y1*high+(-y0)*low=(x0*y1-x1*y0)*H:=by rw [← eh,← el];grind
   rw [this,d];(first | lia | omega)
  have e2:(-x1)*high+x0*low=L:=by
   have:(-x1)*high+x0*low=(x0*y1-x1*y0)*L:=by rw [← eh,← el];grind
   rw [this,d];(first | lia | omega)
  have n1:0≤(-y0)*low:=Int.mul_nonneg (by (first | lia | omega)) l0
  have n2:0≤x0*low:=Int.mul_nonneg (by (first | lia | omega)) l0
  have k1:y1≤y1*high:=by rw [Int.mul_comm];exact mul_ge hh (by (first | lia | omega))
  have k2:-x1≤(-x1)*high:=by rw [Int.mul_comm];exact mul_ge hh (by (first | lia | omega))
  (first | lia | omega)
 ·have e1:(-y1)*high+y0*low=H:=by
   have:(-y1)*high+y0*low=-(x0*y1-x1*y0)*H:=by rw [← eh,← el];grind
   rw [this,d];(first | lia | omega)
  have e2:x1*high+(-x0)*low=L:=by
   have:x1*high+(-x0)*low=-(x0*y1-x1*y0)*L:=by rw [← eh,← el];grind
   rw [this,d];(first | lia | omega)
  have n1:0≤y0*low:=Int.mul_nonneg (by (first | lia | omega)) l0
  have n2:0≤(-x0)*low:=Int.mul_nonneg (by (first | lia | omega)) l0
  have k1:-y1≤(-y1)*high:=by rw [Int.mul_comm];exact mul_ge hh (by (first | lia | omega))
  have k2:x1≤x1*high:=by rw [Int.mul_comm];exact mul_ge hh (by (first | lia | omega))
  (first | lia | omega)

theorem small_of_mul {y h B:Int} (hy:0≤y) (hh:340282366920938463463374607431768211456≤h) (hm:y*h≤B) (hB:B<115792089237316195423570985008687907853269984665640564039457584007913129639936):y≤340282366920938463463374607431768211456:=by
 by_cases c:y≤340282366920938463463374607431768211456
 ·exact c
 ·have:=Int.mul_le_mul (a:=340282366920938463463374607431768211456) (c:=y) (b:=340282366920938463463374607431768211456) (d:=h) (by (first | lia | omega)) hh (by (first | lia | omega)) hy
  (first | lia | omega)

theorem Steps.small {H L high low x0 y0 x1 y1:Int} (h:Steps H L high low x0 y0 x1 y1) (hy:y0≠0) (hL:L≤H) (hH:H<115792089237316195423570985008687907853269984665640564039457584007913129639936) :
 x0.natAbs≤340282366920938463463374607431768211456∧y0.natAbs≤340282366920938463463374607431768211456∧x1.natAbs≤340282366920938463463374607431768211456∧y1.natAbs≤340282366920938463463374607431768211456:=by
 obtain ⟨sg,eh,el,l0,lh,st⟩:=h
 rcases st with ⟨_,z,_⟩ | ⟨_,hl,hh,ax,ay⟩
 ·exact absurd z hy
 rcases sg with ⟨d,a,b,c,e⟩ | ⟨d,a,b,c,e⟩
 ·have e1:y1*high+(-y0)*low=H:=by
   have:y1*high+(-y0)*low=(x0*y1-x1*y0)*H:=by rw [← eh,← el];grind
   rw [this,d];(first | lia | omega)
  have e2:(-x1)*high+x0*low=L:=by
   have:(-x1)*high+x0*low=(x0*y1-x1*y0)*L:=by rw [← eh,← el];grind
   rw [this,d];(first | lia | omega)
  have n1:0≤(-y0)*low:=Int.mul_nonneg (by (first | lia | omega)) l0
  have n2:0≤x0*low:=Int.mul_nonneg (by (first | lia | omega)) l0
  have k1:=small_of_mul (y:=y1) (B:=H) (by (first | lia | omega)) hh (by (first | lia | omega)) hH
  have k2:=small_of_mul (y:=-x1) (B:=H) (by (first | lia | omega)) hh (by (first | lia | omega)) hH
  (first | lia | omega)
 ·have e1:(-y1)*high+y0*low=H:=by
   have:(-y1)*high+y0*low=-(x0*y1-x1*y0)*H:=by rw [← eh,← el];grind
   rw [this,d];(first | lia | omega)
  have e2:x1*high+(-x0)*low=L:=by
   have:x1*high+(-x0)*low=-(x0*y1-x1*y0)*L:=by rw [← eh,← el];grind
   rw [this,d];(first | lia | omega)
  have n1:0≤y0*low:=Int.mul_nonneg (by (first | lia | omega)) l0
  have n2:0≤(-x0)*low:=Int.mul_nonneg (by (first | lia | omega)) l0
  have k1:=small_of_mul (y:=-y1) (B:=H) (by (first | lia | omega)) hh (by (first | lia | omega)) hH
  have k2:=small_of_mul (y:=x1) (B:=H) (by (first | lia | omega)) hh (by (first | lia | omega)) hH
  (first | lia | omega)

theorem mix_le {x y f r T M:Int} (hx:x.natAbs≤M) (hy:y.natAbs≤M) (f0:0≤f) (f1:f≤T) (r0:0≤r) (r1:r≤T) (hs:(0≤x∧y≤0)∨(x≤0∧0≤y)):(x*f+y*r).natAbs≤M*T:=by
 rcases hs with ⟨a,b⟩ | ⟨a,b⟩
 ·have k1:=Int.mul_le_mul (a:=x) (c:=M) (b:=f) (d:=T) (by (first | lia | omega)) f1 f0 (by (first | lia | omega))
  have k2:=Int.mul_le_mul (a:=-y) (c:=M) (b:=r) (d:=T) (by (first | lia | omega)) r1 r0 (by (first | lia | omega))
  have k3:=Int.mul_nonneg a f0
  have k4:=Int.mul_nonneg (a:=-y) (b:=r) (by (first | lia | omega)) r0
  rw [Int.neg_mul] at k2 k4
  (first | lia | omega)
 ·have k1:=Int.mul_le_mul (a:=-x) (c:=M) (b:=f) (d:=T) (by (first | lia | omega)) f1 f0 (by (first | lia | omega))
  have k2:=Int.mul_le_mul (a:=y) (c:=M) (b:=r) (d:=T) (by (first | lia | omega)) r1 r0 (by (first | lia | omega))
  have k3:=Int.mul_nonneg (a:=-x) (b:=f) (by (first | lia | omega)) f0
  have k4:=Int.mul_nonneg (a:=y) (b:=r) (by (first | lia | omega)) r0
  rw [Int.neg_mul] at k1 k3
  (first | lia | omega)

theorem Steps.less {H L high low x0 y0 x1 y1 T f r:Int} (h:Steps H L high low x0 y0 x1 y1) (hy:y0≠0) (hL:L≤H) (h1:57896044618658097711785492504343953926634992332820282019728792003956564819968≤H)
 (hH:H<115792089237316195423570985008687907853269984665640564039457584007913129639936) (hl:low≤340282366920938463463374607431768211456) (f0:0≤f) (f1:f<T) (r0:0≤r) (r1:r<T) :
 (x0*(H*T+f)+y0*(L*T+r)).natAbs+(x1*(H*T+f)+y1*(L*T+r)).natAbs<(H*T+f).natAbs+(L*T+r).natAbs:=by
 obtain ⟨sx0,sy0,sx1,sy1⟩:=h.small hy hL hH
 obtain ⟨sg,eh,el,l0,lh,st⟩:=h
 rcases st with ⟨_,z,_⟩ | ⟨_,hhL,hh,ax,ay⟩
 ·exact absurd z hy
 have A:x0*(H*T+f)+y0*(L*T+r)=high*T+(x0*f+y0*r):=by rw [← eh];grind
 have B:x1*(H*T+f)+y1*(L*T+r)=low*T+(x1*f+y1*r):=by rw [← el];grind
 have mA:=mix_le (x:=x0) (y:=y0) (f:=f) (r:=r) (T:=T) (M:=340282366920938463463374607431768211456) (by (first | lia | omega)) (by (first | lia | omega)) f0 (by (first | lia | omega)) r0 (by (first | lia | omega)) (by rcases sg with ⟨d,a,b,c,e⟩ | ⟨d,a,b,c,e⟩ <;> (first | lia | omega))
 have mB:=mix_le (x:=x1) (y:=y1) (f:=f) (r:=r) (T:=T) (M:=340282366920938463463374607431768211456) (by (first | lia | omega)) (by (first | lia | omega)) f0 (by (first | lia | omega)) r0 (by (first | lia | omega)) (by rcases sg with ⟨d,a,b,c,e⟩ | ⟨d,a,b,c,e⟩ <;> (first | lia | omega))
 have t1:0≤high*T:=Int.mul_nonneg (by (first | lia | omega)) (by (first | lia | omega))
 have t2:0≤low*T:=Int.mul_nonneg l0 (by (first | lia | omega))
 have t3:high*T≤L*T:=Int.mul_le_mul_of_nonneg_right hhL (by (first | lia | omega))
 have t4:low*T≤340282366920938463463374607431768211456*T:=Int.mul_le_mul_of_nonneg_right hl (by (first | lia | omega))
 have t5:57896044618658097711785492504343953926634992332820282019728792003956564819968*T≤H*T:=Int.mul_le_mul_of_nonneg_right h1 (by (first | lia | omega))
 rw [A,B]
 (first | lia | omega)

theorem gcd_mix {a b x0 y0 x1 y1:Int} (d:x0*y1-x1*y0=1∨x0*y1-x1*y0=-1):Int.gcd (x0*a+y0*b) (x1*a+y1*b)=Int.gcd a b:=by
 refine Nat.dvd_antisymm ?_ ?_
 ·have h1:(Int.gcd (x0*a+y0*b) (x1*a+y1*b):Int)∣x0*a+y0*b:=Int.gcd_dvd_left ..
  have h2:(Int.gcd (x0*a+y0*b) (x1*a+y1*b):Int)∣x1*a+y1*b:=Int.gcd_dvd_right ..
  generalize (Int.gcd (x0*a+y0*b) (x1*a+y1*b))=g at h1 h2
  obtain ⟨u,hu⟩:=h1
  obtain ⟨v,hv⟩:=h2
  refine Int.dvd_gcd ?_ ?_
  ·rcases d with d | d
   ·exact ⟨y1*u-y0*v,by
     have:(x0*y1-x1*y0)*a=g*(y1*u-y0*v):=by grind
     rw [d] at this;(first | lia | omega)⟩
   ·exact ⟨-(y1*u-y0*v),by
     have:-(x0*y1-x1*y0)*a=g*(-(y1*u-y0*v)):=by grind
     rw [d] at this;(first | lia | omega)⟩
  ·rcases d with d | d
   ·exact ⟨x0*v-x1*u,by
     have:(x0*y1-x1*y0)*b=g*(x0*v-x1*u):=by grind
     rw [d] at this;(first | lia | omega)⟩
   ·exact ⟨-(x0*v-x1*u),by
     have:-(x0*y1-x1*y0)*b=g*(-(x0*v-x1*u)):=by grind
     rw [d] at this;(first | lia | omega)⟩
 ·have h1:(Int.gcd a b:Int)∣a:=Int.gcd_dvd_left ..
  have h2:(Int.gcd a b:Int)∣b:=Int.gcd_dvd_right ..
  exact Int.dvd_gcd (Int.dvd_add (Int.dvd_mul_of_dvd_right h1) (Int.dvd_mul_of_dvd_right h2)) (Int.dvd_add (Int.dvd_mul_of_dvd_right h1) (Int.dvd_mul_of_dvd_right h2))
theorem Steps.gcd {H L high low x0 y0 x1 y1 a b:Int} (h:Steps H L high low x0 y0 x1 y1):Int.gcd (x0*a+y0*b) (x1*a+y1*b)=Int.gcd a b:=
 gcd_mix (h.sg.imp (·.1) (·.1))

theorem head_of {x:Int} {t:Nat} (lo:(2:Int) ^ (255+t)≤x) (hi:x<(2:Int) ^ (256+t)) :
 57896044618658097711785492504343953926634992332820282019728792003956564819968≤x/2 ^ t∧x/2 ^ t<115792089237316195423570985008687907853269984665640564039457584007913129639936:=by
 have tp:(0:Int)<2 ^ t:=Int.pow_pos (by decide)
 refine ⟨(Int.le_ediv_iff_mul_le tp).mpr ?_,(Int.ediv_lt_iff_lt_mul tp).mpr ?_⟩
 ·rw [Int.pow_add] at lo;exact lo
 ·rw [Int.pow_add] at hi;exact hi

theorem heads_less {x y H L high low x0 y0 x1 y1:Int} {t:Nat} (h:Steps H L high low x0 y0 x1 y1) (hy:y0≠0) (yx:y≤x) (lo:(2:Int) ^ (255+t)≤x) (hi:x<(2:Int) ^ (256+t))
 (eH:H=x/2 ^ t) (eL:L=y/2 ^ t) (hl:low≤340282366920938463463374607431768211456) :
 (x0*x+y0*y).natAbs+(x1*x+y1*y).natAbs<x.natAbs+y.natAbs:=by
 have tp:(0:Int)<2 ^ t:=Int.pow_pos (by decide)
 have hd:=head_of lo hi
 have e1:=Int.mul_ediv_add_emod x (2 ^ t)
 have e2:=Int.mul_ediv_add_emod y (2 ^ t)
 have m1:=Int.emod_nonneg x (b:=2 ^ t) (by (first | lia | omega))
 have m2:=Int.emod_nonneg y (b:=2 ^ t) (by (first | lia | omega))
 have l1:=Int.emod_lt_of_pos x tp
 have l2:=Int.emod_lt_of_pos y tp
 have hLH:L≤H:=by rw [eH,eL];exact Int.ediv_le_ediv tp yx
 have:=h.less hy hLH (by rw [eH];exact hd.1) (by rw [eH];exact hd.2) hl m1 l1 m2 l2
 rw [eH,eL,Int.mul_comm (x/2 ^ t),Int.mul_comm (y/2 ^ t),e1,e2] at this
 exact this

theorem gcd_maxmin {a b:Int} {p q:Int} (hp:p=if b>a then b else a) (hq:q=if b<a then b else a):Int.gcd p q=Int.gcd a b:=by
 subst hp hq
 by_cases h:b>a
 ·rw [if_pos h,if_neg (by (first | lia | omega))];exact Int.gcd_comm b a
 ·by_cases k:b<a
  ·rw [if_neg h,if_pos k]
  ·have:a=b:=by (first | lia | omega)
   subst this;simp
theorem mm_nn (A B:Nat):0≤(if (B:Int)<(A:Int) then (B:Int) else (A:Int)):=by
 split
 ·exact Int.natCast_nonneg _
 ·exact Int.natCast_nonneg _
theorem mm_two (A B:Nat):((if (B:Int)>(A:Int) then (B:Int) else (A:Int))=(B:Int)∧(if (B:Int)<(A:Int) then (B:Int) else (A:Int))=(A:Int)∧(A:Int)≤(B:Int))∨((if (B:Int)>(A:Int) then (B:Int) else (A:Int))=(A:Int)∧(if (B:Int)<(A:Int) then (B:Int) else (A:Int))=(B:Int)∧(B:Int)≤(A:Int)):=by
 rcases Int.lt_or_le (A:Int) (B:Int) with h | h
 ·exact .inl ⟨if_pos h,if_neg (Int.not_lt.mpr (Int.le_of_lt h)),Int.le_of_lt h⟩
 ·refine .inr ⟨if_neg (Int.not_lt.mpr h),?_,h⟩
  split
  ·rfl
  ·rename_i h2
   exact Int.le_antisymm (Int.not_lt.mp h2) h
theorem mm_le (A B:Nat):(if (B:Int)<(A:Int) then (B:Int) else (A:Int))≤(if (B:Int)>(A:Int) then (B:Int) else (A:Int)):=by
 rcases mm_two A B with ⟨e1,e2,h⟩ | ⟨e1,e2,h⟩ <;> rw [e1,e2] <;> exact h
theorem mm_sum {A B:Nat} {z:Int} (h:A+B≤z.natAbs):((if (B:Int)>(A:Int) then (B:Int) else (A:Int))+(if (B:Int)<(A:Int) then (B:Int) else (A:Int))).natAbs≤z.natAbs:=by
 rcases mm_two A B with ⟨e1,e2,_⟩ | ⟨e1,e2,_⟩ <;> rw [e1,e2]
 ·exact Nat.le_trans (Int.natAbs_add_le _ _) (by rw [Nat.add_comm];exact h)
 ·exact Nat.le_trans (Int.natAbs_add_le _ _) h
theorem mm_to {A B:Nat} {x y:Int} (ls:A+B<x.natAbs+y.natAbs) (y0:0≤y) (yx:y≤x):Int.toNat (if (B:Int)>(A:Int) then (B:Int) else (A:Int))+Int.toNat (if (B:Int)<(A:Int) then (B:Int) else (A:Int))<Int.toNat x+Int.toNat y:=by
 have ex:x.toNat=x.natAbs:=Int.toNat_of_nonneg (Int.le_trans y0 yx) |> fun e=>Int.ofNat.inj (e.trans (Int.natAbs_of_nonneg (Int.le_trans y0 yx)).symm)
 have ey:y.toNat=y.natAbs:=Int.toNat_of_nonneg y0 |> fun e=>Int.ofNat.inj (e.trans (Int.natAbs_of_nonneg y0).symm)
 rw [ex,ey]
 rcases mm_two A B with ⟨e1,e2,_⟩ | ⟨e1,e2,_⟩ <;> rw [e1,e2,Int.toNat_natCast,Int.toNat_natCast]
 ·rw [Nat.add_comm]
  exact ls
 ·exact ls
theorem nab {a b:Int} {p q r:Nat} (ha:a.natAbs≤p) (hb:b.natAbs≤q) (h:p+q≤r):(a+b).natAbs≤r:=Nat.le_trans (Int.natAbs_add_le a b) (Nat.le_trans (Nat.add_le_add ha hb) h)
theorem nab5 {w:Int} (h0:0≤w) (h5:w<5):(w-1).natAbs≤3:=by lia
theorem nabz {z:Int} (h0:0≤z) (h:z<25):(z-12).natAbs≤12:=by lia
theorem nab3 {w:Int} (h0:0≤w) (h5:w<3):w.natAbs≤12:=by lia
theorem nabm {st:Int} (h0:0≤st) (h:st≤2*1009):(1+st).natAbs≤2100:=by lia
theorem mm_xy {A B:Nat} {x y:Int} (ls:A+B<x.natAbs+y.natAbs) (y0:0≤y) (yx:y≤x):A+B≤(x+y).natAbs:=by (first | lia | omega)
theorem fd_mod {x y:Int} (y0:0≤y):1*x+-(x.fdiv y)*y=x % y:=by
 have em:=Int.mul_ediv_add_emod x y
 rw [Int.mul_comm] at em
 rw [Int.fdiv_eq_ediv_of_nonneg _ y0,Int.neg_mul]
 (first | lia | omega)
theorem fd_less {x y:Int} (y1:1≤y) (yx:y≤x):(0*x+1*y).natAbs+(1*x+-(x.fdiv y)*y).natAbs<x.natAbs+y.natAbs:=by
 have m0:=Int.emod_nonneg x (b:=y) (by (first | lia | omega))
 have m1:=Int.emod_lt_of_pos x (b:=y) (by (first | lia | omega))
 rw [fd_mod (by (first | lia | omega))]
 (first | lia | omega)
end Mth

namespace Mth
structure Qt (t b:Int) (q:Rat):Prop where
 pos:1≤b
 eq:(t:Rat)=q*(b:Rat)
structure Fr (t b:Int) (q:Rat):Prop where
 pos:1≤b
 co:Int.gcd t b=1
 eq:(t:Rat)=q*(b:Rat)
theorem Fr.qt {t b:Int} {q:Rat} (h:Fr t b q):Qt t b q:=⟨h.pos,h.eq⟩
theorem cast_ne {b:Int} (h:b≠0):(b:Rat)≠0:=by
 intro e
 apply h
 have:((b:Int):Rat)=((0:Int):Rat):=by rw [e];rfl
 exact Rat.intCast_inj.mp this
theorem Fr.of_low {T B t b:Int} {q:Rat} (h:Low T B t b) (hB:B≠0) (e:(T:Rat)=q*(B:Rat)):Fr t b q:=by
 refine ⟨h.pos,h.co,?_⟩
 have k:=congrArg (fun x:Int=>(x:Rat)) h.eq
 simp only [Rat.intCast_mul] at k
 have hB':=cast_ne hB
 grind
theorem Fr.unique {t b t' b':Int} {q:Rat} (h:Fr t b q) (h':Fr t' b' q):t=t'∧b=b':=by
 refine low_unique h.pos h'.pos h.co h'.co ?_
 have e:((t*b':Int):Rat)=((t'*b:Int):Rat):=by
  have e1:=h.eq
  have e2:=h'.eq
  simp only [Rat.intCast_mul]
  grind
 exact Rat.intCast_inj.mp e
theorem mul_pos1 {b d:Int} (hb:1≤b) (hd:1≤d):1≤b*d:=by
 have:=Int.mul_pos (show 0<b by (first | lia | omega)) (show 0<d by (first | lia | omega))
 (first | lia | omega)
theorem Qt.plus {a b c d:Int} {q r:Rat} (h:Qt a b q) (k:Qt c d r):Qt (a*d+c*b) (b*d) (q+r):=by
 refine ⟨mul_pos1 h.pos k.pos,?_⟩
 have e1:=h.eq
 have e2:=k.eq
 simp only [Rat.intCast_mul,Rat.intCast_add]
 grind
theorem Qt.minus {a b c d:Int} {q r:Rat} (h:Qt a b q) (k:Qt c d r):Qt (a*d-c*b) (b*d) (q-r):=by
 refine ⟨mul_pos1 h.pos k.pos,?_⟩
 have e1:=h.eq
 have e2:=k.eq
 simp only [Rat.intCast_mul,Rat.intCast_sub]
 grind
theorem Qt.times {a b c d:Int} {q r:Rat} (h:Qt a b q) (k:Qt c d r):Qt (a*c) (b*d) (q*r):=by
 refine ⟨mul_pos1 h.pos k.pos,?_⟩
 have e1:=h.eq
 have e2:=k.eq
 simp only [Rat.intCast_mul]
 grind
theorem Qt.neg {a b:Int} {q:Rat} (h:Qt a b q):Qt (-a) b (-q):=by
 refine ⟨h.pos,?_⟩
 have e1:=h.eq
 simp only [Rat.intCast_neg]
 grind
theorem Qt.whole (m:Int):Qt m 1 (m:Rat):=⟨by (first | lia | omega),by simp⟩
theorem Fr.whole (m:Int):Fr m 1 (m:Rat):=⟨by (first | lia | omega),by simp,by simp⟩
theorem Qt.div {a b s:Int} {q:Rat} (h:Qt a b q) (hs:0<s):Qt a (b*s) (q/(s:Rat)):=by
 refine ⟨mul_pos1 h.pos (by (first | lia | omega)),?_⟩
 have e1:=h.eq
 have hs':=cast_ne (b:=s) (by (first | lia | omega))
 simp only [Rat.intCast_mul]
 grind
theorem Qt.divN {a b s:Int} {q:Rat} (h:Qt a b q) (hs:s<0):Qt (-a) (b*-s) (q/(s:Rat)):=by
 have k:=h.neg.div (s:=-s) (by (first | lia | omega))
 have hs':=cast_ne (b:=s) (by (first | lia | omega))
 have e:-q/((-s:Int):Rat)=q/(s:Rat):=by
  simp only [Rat.intCast_neg]
  grind
 rw [e] at k
 exact k
theorem Qt.lt_iff {a b c d:Int} {q r:Rat} (h:Qt a b q) (k:Qt c d r):a*d<c*b↔q<r:=by
 have e1:=h.eq
 have e2:=k.eq
 have hb:(0:Rat)<(b:Rat):=by have:=h.pos;exact Rat.intCast_pos.mpr (by (first | lia | omega))
 have hd:(0:Rat)<(d:Rat):=by have:=k.pos;exact Rat.intCast_pos.mpr (by (first | lia | omega))
 have hbd:(0:Rat)<(b:Rat)*(d:Rat):=Rat.mul_pos hb hd
 have l:((a*d:Int):Rat)=q*((b:Rat)*(d:Rat)):=by simp only [Rat.intCast_mul];grind
 have m:((c*b:Int):Rat)=r*((b:Rat)*(d:Rat)):=by simp only [Rat.intCast_mul];grind
 rw [← Rat.intCast_lt_intCast,l,m]
 exact Rat.mul_lt_mul_right hbd
end Mth

namespace Mth
noncomputable def rabs (q:Rat):Rat:=if q<0 then -q else q
theorem rabs_le {q w:Rat}:rabs q≤w↔-w≤q∧q≤w:=by unfold rabs;split <;> grind
theorem Qt.abs {a b:Int} {q:Rat} (h:Qt a b q):Qt (a.natAbs:Int) b (rabs q):=by
 have hb:(0:Rat)<(b:Rat):=by have:=h.pos;exact Rat.intCast_pos.mpr (by (first | lia | omega))
 have z:a<0↔q<0:=by
  have l:=Qt.lt_iff h (Qt.whole 0)
  simp at l
  exact l
 unfold rabs
 by_cases h0:a<0
 ·rw [if_pos (z.mp h0)]
  have e:(a.natAbs:Int)=-a:=by (first | lia | omega)
  rw [e]
  exact h.neg
 ·rw [if_neg (fun q=>h0 (z.mpr q))]
  have e:(a.natAbs:Int)=a:=by (first | lia | omega)
  rw [e]
  exact h
noncomputable def chord (t:Rat) (q:Rat) (u:Rat) (t':Rat) (q':Rat):Rat:=(q*(t'-u)+q'*(u-t))/(t'-t)
theorem chord_along {t q u t' q':Rat} (h:t≠t'):q+(q'-q)/(t'-t)*(u-t)=chord t q u t' q':=by
 unfold chord
 have:t'-t≠0:=by grind
 grind
end Mth

namespace Mth
theorem Fr.own (q:Rat):Fr q.num (q.den:Int) q:=by
 have hp:=q.den_pos
 have hd:((q.den:Int):Rat)≠0:=cast_ne (by (first | lia | omega))
 refine ⟨by (first | lia | omega),?_,?_⟩
 ·have:=q.reduced
  exact this
 ·have h:=Rat.num_divInt_den q
  rw [Rat.divInt_eq_div] at h
  grind
theorem Fr.num_den {t b:Int} {q:Rat} (h:Fr t b q):t=q.num∧b=(q.den:Int):=h.unique (Fr.own q)
noncomputable def inRun {α:Type} (s:α→Bool) (es:List α) (i:Nat):Bool:=decide (0<i)&&((es[i-1]?).map s).getD false
noncomputable def parts {α:Type} (s:α→Bool) (es:List α):Nat→List (List α)
 | 0=>[]
 | i+1=>match es[i]? with
   | none=>parts s es i
   | some e=>if s e=true then (if inRun s es i=true then (parts s es i).dropLast++[((parts s es i).getLast?.getD [])++[e]] else parts s es i++[[e]]) else parts s es i
section
variable {α:Type} {s:α→Bool} {es:List α} {i:Nat} {e:α}
theorem parts_gap (h:es[i]?=some e) (hs:s e=false):parts s es (i+1)=parts s es i:=by
 show (match es[i]? with | none=>_ | some e=>_)=_
 rw [h]
 show (if s e=true then _ else _)=_
 rw [hs]
 rfl
theorem parts_new (h:es[i]?=some e) (hs:s e=true) (hi:inRun s es i=false):parts s es (i+1)=parts s es i++[[e]]:=by
 show (match es[i]? with | none=>_ | some e=>_)=_
 rw [h]
 show (if s e=true then (if inRun s es i=true then _ else _) else _)=_
 rw [hs,hi]
 rfl
theorem parts_on {t:List (List α)} {r:List α} (h:es[i]?=some e) (hs:s e=true) (hi:inRun s es i=true) (hp:parts s es i=t++[r]):parts s es (i+1)=t++[r++[e]]:=by
 show (match es[i]? with | none=>_ | some e=>_)=_
 rw [h]
 show (if s e=true then (if inRun s es i=true then _ else _) else _)=_
 rw [hs,hi,hp]
 simp
theorem parts_len:∀i:Nat,(parts s es i).length≤i
 | 0=>Nat.le_refl _
 | i+1=>by
   have ih:=parts_len i
   show (match es[i]? with | none=>_ | some e=>_:List (List α)).length≤i+1
   cases es[i]? with
   | none=>exact Nat.le_succ_of_le ih
   | some e=>
     show (if s e=true then (if inRun s es i=true then _ else _) else _:List (List α)).length≤i+1
     split
     ·split
      ·rw [List.length_append,List.length_dropLast]
       simp
       (first | lia | omega)
      ·rw [List.length_append]
       simp
       (first | lia | omega)
     ·exact Nat.le_succ_of_le ih
theorem parts_ne (h:inRun s es i=true):∃t r,parts s es i=t++[r]:=by
 unfold inRun at h
 rw [Bool.and_eq_true] at h
 obtain ⟨h0,h1⟩:=h
 have h0:=of_decide_eq_true h0
 obtain ⟨j,rfl⟩:∃j,i=j+1:=⟨i-1,by (first | lia | omega)⟩
 rw [Nat.add_sub_cancel] at h1
 cases e:es[j]? with
 | none=>rw [e] at h1;simp at h1
 | some d=>
   rw [e] at h1
   have hd:s d=true:=by simpa using h1
   cases hr:inRun s es j with
   | true=>
     refine ⟨(parts s es j).dropLast,((parts s es j).getLast?.getD [])++[d],?_⟩
     show (match es[j]? with | none=>_ | some e=>_)=_
     rw [e]
     show (if s d=true then (if inRun s es j=true then _ else _) else _)=_
     rw [hd,hr]
     rfl
   | false=>exact ⟨_,_,parts_new e hd hr⟩
theorem parts_item:∀(i:Nat) (r:List α),r∈parts s es i→r.length≤i
 | 0,r,h=>absurd h (by simp [parts])
 | i+1,r,h=>by
   have ih:=parts_item i
   unfold parts at h
   cases e:es[i]? with
   | none=>rw [e] at h;exact Nat.le_succ_of_le (ih r h)
   | some y=>
     rw [e] at h
     dsimp only at h
     split at h
     ·split at h
      ·rcases List.mem_append.mp h with z | z
       ·exact Nat.le_succ_of_le (ih r (List.dropLast_sublist _ |>.subset z))
       ·obtain rfl:r=((parts s es i).getLast?.getD [])++[y]:=by simpa using z
        rw [List.length_append]
        cases g:(parts s es i).getLast? with
        | none=>simp
        | some r'=>
          have:=ih r' (List.mem_of_getLast? g)
          simp
          (first | lia | omega)
      ·rcases List.mem_append.mp h with z | z
       ·exact Nat.le_succ_of_le (ih r z)
       ·obtain rfl:r=[y]:=by simpa using z
        simp
     ·exact Nat.le_succ_of_le (ih r h)
theorem inRun_succ (h:es[i]?=some e):inRun s es (i+1)=s e:=by
 unfold inRun
 rw [Nat.add_sub_cancel,h]
 simp
end
end Mth

namespace Mth
theorem rabs_mul {q s:Rat} (h:0<s):rabs (q*s)=rabs q*s:=by
 unfold rabs
 by_cases h0:q<0
 ·have:q*s<0:=by
   have:=Rat.mul_lt_mul_of_pos_right h0 h
   grind
  rw [if_pos h0,if_pos this]
  grind
 ·have:¬q*s<0:=by
   have h1:0≤q:=by grind
   have:=Rat.mul_nonneg h1 (show 0≤s by grind)
   grind
  rw [if_neg h0,if_neg this]
theorem cast_pos {b:Int} (h:0<b):(0:Rat)<(b:Rat):=Rat.intCast_pos.mpr h
theorem cast_sub_ne {t t':Int} (h:t<t'):((t':Rat)-(t:Rat))≠0:=by
 have:(t:Rat)<(t':Rat):=Rat.intCast_lt_intCast.mpr h
 grind
theorem chord_mul {t q u t' q':Rat} (h:t'-t≠0):chord t q u t' q'*(t'-t)=q*(t'-u)+q'*(u-t):=by
 unfold chord
 grind
theorem far_qt {a b a' b' c e ti tj tp:Int} {qi qj qp:Rat} (hi:Fr a b qi) (hj:Fr a' b' qj) (hp:Fr c e qp) (h:ti<tj) :
 Qt (c*(b'*b*(tj-ti))-e*(a*(b'*(tj-ti))+(a'*b-a*b')*(tp-ti))) e ((qp-chord ti qi tp tj qj)*((b'*b*(tj-ti):Int):Rat)):=by
 refine ⟨hp.pos,?_⟩
 have e1:=hi.eq
 have e2:=hj.eq
 have e3:=hp.eq
 have hX:=chord_mul (t:=(ti:Rat)) (q:=qi) (u:=(tp:Rat)) (t':=(tj:Rat)) (q':=qj) (cast_sub_ne h)
 simp only [Rat.intCast_mul,Rat.intCast_sub,Rat.intCast_add]
 generalize chord (ti:Rat) qi (tp:Rat) (tj:Rat) qj=X at *
 grind
structure FarTo (s:Nat→Rat) (i m k:Nat):Prop where
 lo:i<k
 hi:k<m
 top:∀k',i<k'→k'<m→s k'≤s k
 fst:∀k',i<k'→k'<k→s k'<s k
section
variable {s s':Nat→Rat} {i m k k':Nat} {c:Rat}
theorem FarTo.first:FarTo s i (i+2) (i+1):=⟨by (first | lia | omega),by (first | lia | omega),fun k' h1 h2=>by
 obtain rfl:k'=i+1:=by (first | lia | omega)
 exact Rat.le_refl,fun k' h1 h2=>by (first | lia | omega)⟩
theorem FarTo.keep (h:FarTo s i m k) (h1:s m≤s k):FarTo s i (m+1) k:=⟨h.lo,by have:=h.hi;(first | lia | omega),fun k' h2 h3=>by
 by_cases e:k'=m
 ·subst e;exact h1
 ·exact h.top k' h2 (by (first | lia | omega)),h.fst⟩
theorem FarTo.next (h:FarTo s i m k) (h1:s k<s m):FarTo s i (m+1) m:=⟨by have:=h.lo;have:=h.hi;(first | lia | omega),by (first | lia | omega),fun k' h2 h3=>by
 by_cases e:k'=m
 ·subst e;exact Rat.le_refl
 ·have:=h.top k' h2 (by (first | lia | omega))
  grind,fun k' h2 h3=>by
 have:=h.top k' h2 (by (first | lia | omega))
 grind⟩
theorem FarTo.unique (h:FarTo s i m k) (h':FarTo s i m k'):k=k':=by
 by_cases e:k<k'
 ·have h1:=h'.fst k h.lo e
  have h2:=h.top k' h'.lo h'.hi
  grind
 ·by_cases e':k'<k
  ·have h1:=h.fst k' h'.lo e'
   have h2:=h'.top k h.lo h.hi
   grind
  ·(first | lia | omega)
end
theorem far_ex {s:Nat→Rat} {i j:Nat} (h:i+1<j):∃k,FarTo s i j k:=by
 obtain ⟨m,rfl⟩:∃m,j=i+2+m:=⟨j-(i+2),by (first | lia | omega)⟩
 clear h
 induction m with
 | zero=>exact ⟨i+1,FarTo.first⟩
 | succ m ih=>
   obtain ⟨k,hk⟩:=ih
   by_cases hl:s (i+2+m)≤s k
   ·exact ⟨k,hk.keep hl⟩
   ·exact ⟨i+2+m,hk.next (Rat.not_le.mp hl)⟩
end Mth

namespace Mth
structure Fair (L:Nat→Nat→Prop) (N:Nat) (t:Nat→Int):Prop where
 first:t 0=0
 le:∀i j,i<j→j<N→L i j→t j≤t i+1
 ex:∀j,0<j→j<N→∃i,i<j∧L i j∧t j=t i+1
structure FairTo (L:Nat→Nat→Prop) (N f:Nat) (t:Nat→Int):Prop where
 first:t 0=0
 le:∀i j,i<f→i<j→j<N→L i j→t j≤t i+1
 ex:∀j,0<j→j<N→t j=(N:Int)∨∃i,i<f∧i<j∧L i j∧t j=t i+1
 lo:∀j,j<N→0≤t j
 hi:∀j,j<N→t j≤(N:Int)
section
variable {L:Nat→Nat→Prop} {N f:Nat} {t u:Nat→Int}
theorem FairTo.start:FairTo L N 0 (fun j=>if j=0 then 0 else (N:Int)):=by
 refine ⟨rfl,fun i j h=>absurd h (Nat.not_lt_zero _),fun j h0 _=>.inl (if_neg (by (first | lia | omega))),fun j _=>?_,fun j _=>?_⟩ <;> (show _≤_;split <;> (first | lia | omega))
theorem FairTo.step (h:FairTo L N f t) (hL:∀j,L f j→f<j) (e:∀j,j<N→(L f j→u j=if t f+1<t j then t f+1 else t j)∧(¬L f j→u j=t j)) (hf:f<N):FairTo L N (f+1) u:=by
 have same:∀i,i≤f→i<N→u i=t i:=fun i hi hN=>(e i hN).2 fun z=>by have:=hL i z;(first | lia | omega)
 have h0:u 0=0:=by rw [same 0 (by (first | lia | omega)) (by (first | lia | omega))];exact h.first
 have hl:=h.lo f hf
 refine ⟨h0,fun i j hi hij hj hLij=>?_,fun j h0j hj=>?_,fun j hj=>?_,fun j hj=>?_⟩
 ·rw [same i (by (first | lia | omega)) (by (first | lia | omega))]
  by_cases hi':i=f
  ·subst hi'
   rw [(e j hj).1 hLij]
   split <;> (first | lia | omega)
  ·have h1:=h.le i j (by (first | lia | omega)) hij hj hLij
   by_cases hLf:L f j
   ·rw [(e j hj).1 hLf]
    split <;> (first | lia | omega)
   ·rw [(e j hj).2 hLf]
    exact h1
 ·by_cases hLf:L f j
  ·have hfj:=hL j hLf
   have ej:=(e j hj).1 hLf
   by_cases hc:t f+1<t j
   ·rw [if_pos hc] at ej
    exact .inr ⟨f,by (first | lia | omega),hfj,hLf,by rw [ej,same f (by (first | lia | omega)) hf]⟩
   ·rw [if_neg hc] at ej
    rcases h.ex j h0j hj with z | ⟨i,i1,i2,i3,i4⟩
    ·exact .inl (ej.trans z)
    ·exact .inr ⟨i,by (first | lia | omega),i2,i3,by rw [ej,same i (by (first | lia | omega)) (by (first | lia | omega))];exact i4⟩
  ·have ej:=(e j hj).2 hLf
   rcases h.ex j h0j hj with z | ⟨i,i1,i2,i3,i4⟩
   ·exact .inl (ej.trans z)
   ·exact .inr ⟨i,by (first | lia | omega),i2,i3,by rw [ej,same i (by (first | lia | omega)) (by (first | lia | omega))];exact i4⟩
 ·have h1:=h.lo j hj
  by_cases hLf:L f j
  ·rw [(e j hj).1 hLf]
   split <;> (first | lia | omega)
  ·rw [(e j hj).2 hLf]
   exact h1
 ·have h1:=h.hi j hj
  by_cases hLf:L f j
  ·rw [(e j hj).1 hLf]
   split <;> (first | lia | omega)
  ·rw [(e j hj).2 hLf]
   exact h1
theorem FairTo.done (h:FairTo L N f t) (hs:∀j,0<j→j<N→L (j-1) j) (hf:N≤f+1):Fair L N t:=by
 have up:∀j,j<N→t j≤(j:Int):=by
  intro j
  induction j with
  | zero=>intro _;rw [h.first];(first | lia | omega)
  | succ j ih=>
    intro hj
    have h1:=ih (by (first | lia | omega))
    have h2:=h.le j (j+1) (by (first | lia | omega)) (by (first | lia | omega)) hj (hs (j+1) (by (first | lia | omega)) hj)
    (first | lia | omega)
 refine ⟨h.first,fun i j hij hj hL=>h.le i j (by (first | lia | omega)) hij hj hL,fun j h0 hj=>?_⟩
 rcases h.ex j h0 hj with z | ⟨i,i1,i2,i3,i4⟩
 ·have:=up j hj
  (first | lia | omega)
 ·exact ⟨i,i2,i3,i4⟩
end
theorem map_range_set {α:Type} (N:Nat) (f:Nat→α) (j:Nat) (v:α):((List.range N).map f).set j v=(List.range N).map (fun i=>if i=j then v else f i):=by
 apply List.ext_getElem?
 intro i
 rw [List.getElem?_set]
 by_cases hi:i<N
 ·rw [List.getElem?_map,List.getElem?_range hi,List.getElem?_map,List.getElem?_range hi]
  by_cases e:j=i
  ·subst e
   simp [hi]
  ·have e':¬i=j:=fun z=>e z.symm
   simp [e,e']
 ·have h1:(List.range N)[i]?=none:=by simp;(first | lia | omega)
  rw [List.getElem?_map,List.getElem?_map,h1]
  by_cases e:j=i
  ·subst e
   simp;(first | lia | omega)
  ·simp [e]
theorem map_range_at {α:Type} {N j:Nat} {f:Nat→α} (h:j<N):((List.range N).map f)[j]?=some (f j):=by
 rw [List.getElem?_map,List.getElem?_range h]
 rfl
theorem rdiv_le {a b c:Rat} (h:0<c):a/c≤b↔a≤b*c:=by
 have e:a/c*c=a:=by grind
 constructor
 ·intro z
  have:=Rat.mul_le_mul_of_nonneg_right z (show 0≤c by grind)
  rw [e] at this
  exact this
 ·intro z
  exact Rat.le_of_mul_le_mul_right (by rw [e];exact z) h
theorem rle_div {a b c:Rat} (h:0<c):a≤b/c↔a*c≤b:=by
 have e:b/c*c=b:=by grind
 constructor
 ·intro z
  have:=Rat.mul_le_mul_of_nonneg_right z (show 0≤c by grind)
  rw [e] at this
  exact this
 ·intro z
  exact Rat.le_of_mul_le_mul_right (by rw [e];exact z) h
theorem chord_slopes {ti tk tj:Rat} {qi qk qj β:Rat} (h1:ti<tk) (h2:tk<tj) :
 rabs (qk-chord ti qi tk tj qj)≤β↔(qk-β-qi)/(tk-ti)≤(qj-qi)/(tj-ti)∧(qj-qi)/(tj-ti)≤(qk+β-qi)/(tk-ti):=by
 rw [← chord_along (u:=tk) (show ti≠tj by grind)]
 have hd:0<tk-ti:=by grind
 generalize (qj-qi)/(tj-ti)=s
 rw [rabs_le,rdiv_le hd,rle_div hd]
 constructor <;> rintro ⟨a,b⟩ <;> constructor <;> grind
end Mth

namespace Mth
section
variable {t v:Nat→Rat} {B s:Rat} {n i j k l:Nat}
end
end Mth

namespace My
open PySem PySem.Spec PyProof.Rows L2 Mth

theorem mulOk {m n:Nat} {x y:Int} (hx:Sz m x) (hy:Sz n y) (h:autoParam (m+n≤134217728) au1_._auto_1):IntMulOk x y:=
 IntMulOk.of_le (intBits_le_iff.mpr hx) (intBits_le_iff.mpr hy) h
theorem mulR {x y:Int} (h1:-(2 ^ 64)<y) (h2:y<2 ^ 64):IntMulOk x y:=CMul.ok (.inr ⟨h1,h2⟩)
theorem mulL {x y:Int} (h1:-(2 ^ 64)<x) (h2:x<2 ^ 64):IntMulOk x y:=CMul.ok (.inl ⟨h1,h2⟩)
noncomputable def CDivB (_ j:Int):Prop:=j≠0∧j.natAbs.log2<9000

section
variable {X:Cx}
theorem op_mulB:OpR X (binaryOp .Mult) (rI IntMulOk fun i j=>.int (i*j)):=opI fun _ _ _ _ _ _ _ hc q=>mul_int q hc
theorem op_fdivB:OpR X (binaryOp .FloorDiv) (rI CDivB fun i j=>.int (i.fdiv j)):=opI fun _ _ _ _ _ _ _ hc q=>floordiv_int hc.1 q (.inl (PyProof.noPylong_of_log2 hc.2))
end

mutual
inductive Den (H:Hp):V→PyData→Prop where
 | non:Den H .non .none
 | bl (b:Bool):Den H (.bl b) (.bool b)
 | int (i:Int):Den H (.int i) (.int i)
 | str (x:Str):Den H (.str x) (.str x)
 | tup {a:Addr} {xs:List V} {ds:List PyData}:H a=some (.tup xs)→Dens H xs ds→Den H (.ref a) (.tuple ds)
 | lst {a:Addr} {xs:List V} {ds:List PyData}:H a=some (.lst xs)→Dens H xs ds→Den H (.ref a) (.list ds)
inductive Dens (H:Hp):List V→List PyData→Prop where
 | nil:Dens H [] []
 | cons {x:V} {xs:List V} {d:PyData} {ds:List PyData}:Den H x d→Dens H xs ds→Dens H (x::xs) (d::ds)
end
section
variable {P:Program} {w:World} {H:Hp} {h:Heap}
mutual
theorem Den.reads (ok:HOk P w H h):∀{v:V} {d:PyData},Den H v d→∀{u:Value},RelV v u→∃as,Reads h u d as
 | _,_,.non,u,r=>by cases (show u=Value.none from r);exact ⟨_,Reads.none⟩
 | _,_,.bl b,u,r=>by cases (show u=Value.bool b from r);exact ⟨_,Reads.bool b⟩
 | _,_,.int i,u,r=>by obtain ⟨t,q⟩:=(show ∃t,u=Value.int i t from r);cases q;exact ⟨_,Reads.int i t⟩
 | _,_,.str x,u,r=>by obtain ⟨t,q⟩:=(show ∃t,u=Value.str x t from r);cases q;exact ⟨_,Reads.str x t⟩
 | _,_,@Den.tup _ a xs ds e dd,u,r=>by
   cases (show u=Value.ref a from r)
   obtain ⟨_,its,rv,o,h1,h2,n,h3⟩:=(show ObjOk P w H h a (.tup xs) from ok a _ e)
   obtain ⟨as,q⟩:=Dens.reads ok dd rv
   exact ⟨as,reads_tuple_at h1 h2 h3 (by simpa using q)⟩
 | _,_,@Den.lst _ a xs ds e dd,u,r=>by
   cases (show u=Value.ref a from r)
   obtain ⟨_,its,n,rv,h1⟩:=(show ObjOk P w H h a (.lst xs) from ok a _ e)
   obtain ⟨as,q⟩:=Dens.reads ok dd rv
   exact ⟨_,reads_list_at h1 rfl rfl (by simpa using q)⟩
theorem Dens.reads (ok:HOk P w H h):∀{vs:List V} {ds:List PyData},Dens H vs ds→∀{us:List Value},Vals vs us→∃as,ReadsAll h us ds as
 | _,_,.nil,_,.nil=>⟨_,ReadsAll.nil⟩
 | _,_,.cons d dd,_,.cons r rr=>by
   obtain ⟨as,q⟩:=Den.reads ok d r
   obtain ⟨bs,p⟩:=Dens.reads ok dd rr
   exact ⟨_,ReadsAll.cons q p⟩
end
end
noncomputable def rEqD:R2:=fun x y H Q=>∃d e,Den H x d∧Den H y e∧SeqAt.shaped d=true∧SeqAt.shaped e=true∧Q (.bl (PyData.eqv d e)) H
noncomputable def rNeD:R2:=fun x y H Q=>∃d e,Den H x d∧Den H y e∧SeqAt.shaped d=true∧SeqAt.shaped e=true∧Q (.bl (!PyData.eqv d e)) H
section
variable {X:Cx}
theorem op_eqD (hu:X.A.units+64<cLine):OpR X (compareOp .Eq) rEqD:=by
 intro pins s σ H x y v u Q I rx ry h
 obtain ⟨d,e,hd,he,s1,s2,q⟩:=h
 obtain ⟨as,r1⟩:=hd.reads I.hok rx
 obtain ⟨bs,r2⟩:=he.reads I.hok ry
 exact eq_dataH r1 r2 s1 s2 hu ⟨.bl _,H,I,rfl,q⟩
theorem op_neD (hu:X.A.units+64<cLine):OpR X (compareOp .NotEq) rNeD:=by
 intro pins s σ H x y v u Q I rx ry h
 obtain ⟨d,e,hd,he,s1,s2,q⟩:=h
 obtain ⟨as,r1⟩:=hd.reads I.hok rx
 obtain ⟨bs,r2⟩:=he.reads I.hok ry
 exact ne_dataH r1 r2 s1 s2 hu ⟨.bl _,H,I,rfl,q⟩
noncomputable def rIsi (K:PySem.W.Frag):List V→Hp→VK→Prop:=fun xs H Q=>∃x n t b,xs=[x,.ty n]∧TyOf K H x t∧PySem.W.kitOne K t (.type n)=some b∧Q (.bl b) H
theorem call_isi:CallR X (.builtin "isinstance") (rIsi X.K):=by
 intro pins s σ H xs us Q I r h
 obtain ⟨x,n,t,b,rfl,ty,e,q⟩:=h
 obtain ⟨u,u2,rfl,rx,rn⟩:=vals2 r
 cases (show u2=Value.type n from rn)
 exact isinst_ok I rx ty e fun tk=>⟨.bl b,H,I.tok tk,rfl,q⟩
end
section
variable {K:PySem.W.Frag}
theorem kit_tt:PySem.W.kitOne K (.type "tuple") (.type "tuple")=some true:=by rfl
theorem kit_ii:PySem.W.kitOne K (.type "int") (.type "int")=some true:=by rfl
theorem kit_ib:PySem.W.kitOne K (.type "int") (.type "bool")=some false:=by rfl
end

section
variable {es:List Expr} {env:Env} {pos:Pos}
theorem any0:(backTo pos (starEach [] env)).any (·.1)=false:=by rfl
theorem anyc {e:Expr} (h:starEach (e::es) env=(false,eval e env)::starEach es env) (k:(backTo pos (starEach es env)).any (·.1)=false):(backTo pos (starEach (e::es) env)).any (·.1)=false:=by
 rw [h]
 exact k
theorem st_C {c:Const} {k:Nat}:starEach (.Constant c k pos::es) env=(false,eval (.Constant c k pos) env)::starEach es env:=by rfl
theorem st_N {x:Str}:starEach (.Name x pos::es) env=(false,eval (.Name x pos) env)::starEach es env:=by rfl
theorem st_B {a b:Expr} {op:Operator}:starEach (.BinOp a op b pos::es) env=(false,eval (.BinOp a op b pos) env)::starEach es env:=by rfl
theorem st_S {a b:Expr}:starEach (.Subscript a b pos::es) env=(false,eval (.Subscript a b pos) env)::starEach es env:=by rfl
theorem st_K {f:Expr} {as:List Expr} {kw:List Keyword}:starEach (.Call f as kw pos::es) env=(false,eval (.Call f as kw pos) env)::starEach es env:=by rfl
theorem st_T {as:List Expr} {k:Nat}:starEach (.Tuple as k pos::es) env=(false,eval (.Tuple as k pos) env)::starEach es env:=by rfl
theorem st_L {as:List Expr}:starEach (.List as pos::es) env=(false,eval (.List as pos) env)::starEach es env:=by rfl
theorem st_U {a:Expr} {op:UnaryOp}:starEach (.UnaryOp op a pos::es) env=(false,eval (.UnaryOp op a pos) env)::starEach es env:=by rfl
theorem st_G {e:Expr} {gs:List Comprehension} {sc:Scope}:starEach (.ListComp e gs sc pos::es) env=(false,eval (.ListComp e gs sc pos) env)::starEach es env:=by rfl
theorem st_Q {a:Expr} {ops:List CmpOp} {bs:List Expr}:starEach (.Compare a ops bs pos::es) env=(false,eval (.Compare a ops bs pos) env)::starEach es env:=by rfl
end

section
variable {tg:Option Expr} {l:Nat} {env:Env} {pos:Pos}
theorem sw_C {c:Const} {k:Nat}:swapsWith (.Constant c k pos) tg l env=pure false:=by rfl
theorem sw_N {x:Str}:swapsWith (.Name x pos) tg l env=pure false:=by rfl
theorem sw_B {a b:Expr} {op:Operator}:swapsWith (.BinOp a op b pos) tg l env=pure false:=by rfl
theorem sw_S {a b:Expr}:swapsWith (.Subscript a b pos) tg l env=pure false:=by rfl
theorem sw_K {f:Expr} {as:List Expr} {kw:List Keyword}:swapsWith (.Call f as kw pos) tg l env=pure false:=by rfl
theorem sw_T {as:List Expr} {k:Nat}:swapsWith (.Tuple as k pos) tg l env=pure false:=by rfl
theorem sw_L {as:List Expr}:swapsWith (.List as pos) tg l env=pure false:=by rfl
theorem sw_Q {a:Expr} {ops:List CmpOp} {bs:List Expr}:swapsWith (.Compare a ops bs pos) tg l env=pure false:=by rfl
theorem sw_I {a b c:Expr}:swapsWith (.IfExp a b c pos) tg l env=pure false:=by rfl
end
structure Dn (P:Program) (w:World) (K:PySem.W.Frag) (mg:Str→Option Value) (base:Heap) (k:Nat) (x:Str) (ps:List Str) (sp:Sp):Prop where
 ex:∃(f:Addr) (fd:FuncData),FnOk P w K mg base CX0 k f fd ps sp∧mg x=some (.ref f)∧PySem.W.keepIn K (.ref f)=true∧Binds K fd ps []
section
variable {X:Cx} {k:Nat} {x:Str} {ps:List Str} {sp:Sp} {p pos:Pos} {e:Expr} {es:List Expr} {t:TA}
theorem pe_dn (D:Dn X.prog X.w X.K X.mg X.base k x ps sp) (hr:Room k X.A) (hg:Gl X x) (ha:PA X (e::es) t) (hdb:autoParam ((x==("__debug__":Str))=false) au1_._auto_1)
 (he:autoParam (starEach (e::es) X.env=(false,eval e X.env)::starEach es X.env) au0_._auto_1) (hpl:autoParam ((backTo pos (starEach es X.env)).any (·.1)=false) au0_._auto_1):PE X (.Call (.Name x p) (e::es) [] pos) (tCall sp [] E0 t):=by
 obtain ⟨f,fd,ok,hm,hk,hb⟩:=D.ex
 exact pe_call ok hr hg hm hk hb .nil pass0 ha hdb he hpl
end
theorem dn_mk {P:Program} {w:World} {K:PySem.W.Frag} {mg:Str→Option Value} {base:Heap} {k:Nat} {x qual:Str} {ps:List Str} {sp:Sp} {st:Stmt} {f:Addr} {fd:FuncData} (F:Fun K x qual st f fd) (ok:FnOk P w K mg base CX0 k f fd ps sp)
 (hm:mg x=some (.ref f)) (hb:Binds K fd ps []):Dn P w K mg base k x ps sp:=⟨f,fd,ok,hm,F.kp,hb⟩

section
variable {σ:L2.St} {H:Hp} {Q:VK} {D:Ends} {te ta tb:TE} {t u:TS} {c:TT} {B:Bool→Hp→Prop} {i:Nat} {v:V} {m n:Int} {K:PySem.W.Frag}
theorem r_seq (h:t { D with nx:=u D } σ H):tSeq t u D σ H:=h
theorem r_set (h:te σ H fun x H1=>D.nx (σ.set i (some x)) H1):tAsg te (gName i) D σ H:=h
theorem r_ret (h:te σ H D.rt):tRet te D σ H:=h
theorem r_drop (h:te σ H fun _ H1=>D.nx σ H1):tDrop te D σ H:=h
theorem r_if (h:c σ H fun b H1=>if b=true then t D σ H1 else u D σ H1):tIfS c t u D σ H:=h
theorem r_next (h:D.nx σ H):tNext D σ H:=h
theorem r_var (e:σ[i]?=some (some v)) (q:Q v H):tVar i σ H Q:=⟨v,e,q⟩
theorem r_c (q:Q v H):tC v σ H Q:=q
theorem r_op {r:R2} (h:ta σ H fun x H1=>tb σ H1 fun y H2=>r x y H2 Q):tOp r ta tb σ H Q:=h
theorem r_un {r:V→Hp→VK→Prop} (h:ta σ H fun x H1=>r x H1 Q):tUn r ta σ H Q:=h
theorem r_I0 {g:Int→Int→V} (q:Q (g m n) H):rI0 g (.int m) (.int n) H Q:=⟨m,n,rfl,rfl,q⟩
theorem r_I {C:Int→Int→Prop} {g:Int→Int→V} (hc:C m n) (q:Q (g m n) H):rI C g (.int m) (.int n) H Q:=⟨m,n,rfl,rfl,hc,q⟩
theorem r_U {g:Int→V} (q:Q (g m) H):rU g (.int m) H Q:=⟨m,rfl,q⟩
theorem r_test (h:te σ H fun x H'=>∃k,x=.bl k∧B k H'):tTest te σ H B:=h
theorem r_B (h:te σ H fun x H'=>∃k,x=.bl k∧B k H'):tB te σ H B:=h
theorem r_bl {b:Bool} {R:Bool→Prop} (h:R b):∃k,V.bl b=.bl k∧R k:=⟨b,rfl,h⟩
theorem r_cb {r:List V→Hp→VK→Prop} {ts:TA} (h:ts σ H fun vs H1=>r vs H1 Q):tCB r ts σ H Q:=h
theorem r_cons {ts:TA} {R:List V→Hp→Prop} (h:te σ H fun x H1=>ts σ H1 fun xs H2=>R (x::xs) H2):tCons te ts σ H R:=h
theorem r_nil {R:List V→Hp→Prop} (h:R [] H):tNil σ H R:=h
noncomputable def Nw (mk:List V→HO) (xs:List V) (H:Hp) (Q:VK):Prop:=xs.length≤sizeLine∧∀p,H p=none→Q (.ref p) (upd H p (mk xs))
theorem r_tup {ts:TA} (h:ts σ H fun xs H1=>Nw .tup xs H1 Q):tTup ts σ H Q:=h
theorem r_lst {ts:TA} (h:ts σ H fun xs H1=>Nw .lst xs H1 Q):tLst ts σ H Q:=h
theorem r_call {sp:Sp} {ts:TA} (h:ts σ H fun vs H1=>sp (vs++[]) H1 Q E0):tCall sp [] E0 ts σ H Q:=h
theorem r_par {a b:Nat} {ts:TA} (h:ts σ H fun vs H1=>∃v w,vs=[v,w]∧D.nx ((σ.set a (some v)).set b (some w)) H1):tPar a b ts D σ H:=h
theorem r_not (h:c σ H fun b H1=>B (!b) H1):tNot c σ H B:=h
theorem r_and {d:TT} (h:c σ H fun b H1=>if b=true then d σ H1 B else B false H1):tAnd c d σ H B:=h
theorem r_or {d:TT} (h:c σ H fun b H1=>if b=true then B true H1 else d σ H1 B):tOr c d σ H B:=h
theorem r_andV (h:ta σ H fun x H1=>∃k,x=.bl k∧if k=true then tb σ H1 Q else Q (.bl false) H1):tAndV ta tb σ H Q:=h
theorem r_orV (h:ta σ H fun x H1=>∃k,x=.bl k∧if k=true then Q (.bl true) H1 else tb σ H1 Q):tOrV ta tb σ H Q:=h
theorem r_notV (h:ta σ H fun x H1=>∃k,x=.bl k∧Q (.bl (!k)) H1):tNotV ta σ H Q:=h
theorem r_ife (h:c σ H fun b H1=>if b=true then ta σ H1 Q else tb σ H1 Q):tIf c ta tb σ H Q:=h
theorem r_eq (hs:scal (.int m) (.int n)=true) (q:Q (.bl (decide (m=n))) H):rEq (.int m) (.int n) H Q:=⟨hs,by
 have e:decide (V.int m=V.int n)=decide (m=n):=by simp
 rw [e];exact q⟩
theorem r_ne (hs:scal (.int m) (.int n)=true) (q:Q (.bl (!decide (m=n))) H):rNe (.int m) (.int n) H Q:=⟨hs,by
 have e:decide (V.int m=V.int n)=decide (m=n):=by simp
 rw [e];exact q⟩
theorem at0 {x:V} {xs:List V}:atI (x::xs) 0=some x:=atI_nat (j:=0) rfl
theorem at1 {x y:V} {xs:List V}:atI (x::y::xs) 1=some y:=atI_nat (j:=1) rfl
theorem at2 {x y z:V} {xs:List V}:atI (x::y::z::xs) 2=some z:=atI_nat (j:=2) rfl
theorem r_t0 {p:Addr} {x:V} {xs:List V} (h:H p=some (.tup (x::xs))) (q:Q x H):rIxT K (.ref p) (.int 0) H Q:=⟨p,_,0,x,rfl,rfl,SqT.of h,at0,q⟩
theorem r_t1 {p:Addr} {x y:V} {xs:List V} (h:H p=some (.tup (x::y::xs))) (q:Q y H):rIxT K (.ref p) (.int 1) H Q:=⟨p,_,1,y,rfl,rfl,SqT.of h,at1,q⟩
theorem r_t2 {p:Addr} {x y z:V} {xs:List V} (h:H p=some (.tup (x::y::z::xs))) (q:Q z H):rIxT K (.ref p) (.int 2) H Q:=⟨p,_,2,z,rfl,rfl,SqT.of h,at2,q⟩
noncomputable def rLen (K:PySem.W.Frag):List V→Hp→VK→Prop:=fun xs H Q=>∃p ys,xs=[.ref p]∧(SqL K H p ys∨SqT K H p ys)∧Q (.int ys.length) H
theorem r_len {p:Addr} {ys:List V} (h:SqL K H p ys∨SqT K H p ys) (q:Q (.int ys.length) H):rLen K [.ref p] H Q:=⟨p,ys,rfl,h,q⟩
noncomputable def rAbs:List V→Hp→VK→Prop:=fun xs H Q=>∃i,xs=[.int i]∧Q (.int (if i<0 then -i else i)) H
theorem r_absC (q:Q (.int (if m<0 then -m else m)) H):rAbs [.int m] H Q:=⟨m,rfl,q⟩
section
variable {X:Cx} (K:PySem.W.Frag)
theorem ixL (h:autoParam (X.K=K) au0_._auto_1):IxR X (rIxL K):=h▸ix_list
theorem ixT (h:autoParam (X.K=K) au0_._auto_1):IxR X (rIxT K):=h▸ix_tup
theorem slL (h:autoParam (X.K=K) au0_._auto_1):SlR X (rSlL K):=h▸sl_list
theorem lenC (h:autoParam (X.K=K) au0_._auto_1):CallR X (.builtin "len") (rLen K):=h▸call_len_seq
theorem isiC (h:autoParam (X.K=K) au0_._auto_1):CallR X (.builtin "isinstance") (rIsi K):=h▸call_isi
theorem pe_ty {X:Cx} {x:Str} {n:String} {pos:Pos} (hg:Gl X x) (hm:X.mg x=none) (hv:bootBuiltins x=some (.type n)) (hn:autoParam (x ≠ "__name__") au1_._auto_1) (hd:autoParam ((x==("__debug__":Str))=false) au1_._auto_1):PE X (.Name x pos) (tC (.ty n)):=
 pe_bltn hg hm hv (show RelV (.ty n) (.type n) from rfl) hn hd
theorem absC:CallR X (.builtin "abs") rAbs:=call_abs
theorem piL {tg l:Expr} {tl:TE} (hl:PE X l tl) (h:autoParam (X.K=K) au0_._auto_1):PI X tg l (iList K tl):=h▸pi_list hl
theorem piT {tg l:Expr} {tl:TE} (hl:PE X l tl) (h:autoParam (X.K=K) au0_._auto_1):PI X tg l (iTup K tl):=h▸pi_tup hl
theorem pgT {es:List Expr} {k:Nat} {t:TGs} {n:Nat} {pos:Pos} (hc:X.calm=true) (g:PGs X es t)
 (hn:autoParam ((assignEach es X.env).length=n) au0_._auto_1) (hst:autoParam ((assignEach es X.env).findIdx? (·.1)=none) au0_._auto_1) (h:autoParam (X.K=K) au0_._auto_1):PG X (.Tuple es k pos) (gTup K n t):=h▸pg_tup hc g hn hst
theorem appC {o e:Expr} {to te:TE} {apos cpos:Pos} (ho:PE X o to) (he:PE X e te) (h:autoParam (X.K=K) au0_._auto_1)
 (hbase:autoParam (attributeBase o "append" X.env (eval o X.env)=eval o X.env) au0_._auto_1)
 (hfew:autoParam (((backTo cpos (starEach (e::[]) X.env)).all (fun x=>!x.1)&&(backToKw cpos (keywordEach [] X.env)).all (fun x=>x.1.isSome)
   && decide ((e::([]:List Expr)).length+([]:List Keyword).length+(if ([]:List Keyword).isEmpty then 0 else 1)<30))=true) au0_._auto_1)
 (hline:autoParam ((apos.endLine==cpos.line)=true) au0_._auto_1) (hs:autoParam (starEach (e::[]) X.env=(false,eval e X.env)::starEach [] X.env) au0_._auto_1) (hplain:autoParam ((backTo cpos (starEach [] X.env)).any (·.1)=false) au0_._auto_1) :
 PE X (.Call (.Attribute o "append" apos) [e] [] cpos) (tBM K "list" rAppend to (tCons te tNil)):=
 h▸pe_bm PySem.F.plainAttrs_list PySem.F.slot_list_append PySem.F.type_list_append mt_append ho (pa_cons he pa_nil hs) hbase hfew hline hs hplain
end
theorem same_new {p:Addr} (h:H p=none) (o:HO):Same H (upd H p o):=fun b u q=>by rw [upd_ne (ne_of_none q h)];exact q
theorem r_new {xs:List V} {mk:List V→HO} (hl:xs.length≤1000) (h:∀p H1,Same H H1→H p=none→H1 p=some (mk xs)→Q (.ref p) H1):Nw mk xs H Q:=
 ⟨Nat.le_of_lt (small1000 hl),fun p hp=>h p _ (same_new hp _) hp upd_same⟩
theorem r_g {R:L2.St→Hp→Prop} (h:R (σ.set i (some v)) H):gName i v σ H R:=h
theorem r_l {p:Addr} {xs:List V} {j:Int} (h:H p=some (.lst xs)) (e:atI xs j=some v) (q:Q v H):rIxL K (.ref p) (.int j) H Q:=⟨p,_,j,v,rfl,rfl,SqL.of h,e,q⟩
theorem r_bm {T:String} {r:V→List V→Hp→VK→Prop} {ts:TA} (h:te σ H fun x H1=>tyV K T x H1∧ts σ H1 fun xs H2=>r x xs H2 Q):tBM K T r te ts σ H Q:=h
theorem r_app {p:Addr} {xs:List V} (h:H p=some (.lst xs)) (hl:xs.length<sizeLine) (q:Q .non (upd H p (.lst (xs++[v])))):rAppend (.ref p) [v] H Q:=⟨p,xs,v,rfl,rfl,h,hl,q⟩
theorem same_at {H1 H2:Hp} {p:Addr} {o:HO} (s:Same H1 H2) (n:H1 p=none):Same H1 (upd H2 p o):=fun b x e=>by rw [upd_ne (ne_of_none e n)];exact s b x e
theorem at_ints {xs:List Int} {j:Nat} {x k:Int} (h:xs[j]?=some x) (hk:k=(j:Int)):atI (xs.map V.int) k=some (.int x):=by
 subst hk
 exact atI_nat (by rw [List.getElem?_map,h];rfl)
theorem r_two {R:V→V→Prop} {x y:V} (h:R x y):∃v w,[x,y]=[v,w]∧R v w:=⟨x,y,rfl,h⟩
theorem r_for {wi:TI} {g:TG} {tb:TS} (h:wi σ H fun J H1=>∃W:Nat→Nat→L2.St→Hp→Prop,(∃m,W 0 m σ H1)∧∀i m σ H,W i m σ H →
 (J.stop i H∧D.nx σ H)∨(J.go i H∧∃N:L2.St→Hp→Prop,(∀σ' H',N σ' H'→∃m',m'<m∧W (i+1) m' σ' H')∧∀x H',J.yld i H x H'→g x σ H' fun σ2 H2=>tb { D with nx:=N,ct:=N,bk:=D.nx } σ2 H2)):tFor wi g tb D σ H:=h
theorem r_iL {R:It→Hp→Prop} (h:te σ H fun x H1=>∃a,x=.ref a∧(∃xs,SqL K H1 a xs)∧R (Itl K a) H1):iList K te σ H R:=h
theorem r_isi {x:V} {ty:String} {tv:Value} {b:Bool} (h:TyOf K H x tv) (e:PySem.W.kitOne K tv (.type ty)=some b) (q:Q (.bl b) H):rIsi K [x,.ty ty] H Q:=⟨x,ty,tv,b,rfl,h,e,q⟩
end
end My

namespace My
open PySem PySem.Spec PyProof.Rows L2 Mth
section
variable {prog:Program} {w:World} {A:Around} {E:Value→Shared→Prop} {s:Shared}
theorem draw_list {it l:Addr} {items:Array Value} (hne:l≠it):∀(n i:Nat) (s:Shared) (Q:List Value→Shared→Prop),s.heap.IsListIter it l i→s.heap.IsList l items→i+n≤items.size →
 (∀h',h'.IsListIter it l (i+n)→Heap.SameBut it s.heap h'→Q ((items.toList.drop i).take n) { s with heap:=h' })→wpAny (model prog w) A (draw (.ref it) n) Q E s
 | 0,i,s,Q,hit,_,_,hQ=>by
   show wpAny _ _ (pure []) Q E s
   exact wpAny_pure (by simpa using hQ s.heap hit (Heap.SameBut.refl ..))
 | n+1,i,s,Q,hit,ht,hle,hQ=>by
   have hlt:i<items.size:=by (first | lia | omega)
   show wpAny _ _ (pyNext (.ref it) >>= _) Q E s
   refine wpAny_bind (wpAny_pyNext_list_item hit ht (x:=items[i]) (by simp [hlt]) fun h₁ hit₁ hs₁=>?_)
   refine wpAny_bind (wpAny_holding (draw_list hne n (i+1) _ _ hit₁ (ht.extBut hs₁.extBut hne) (by (first | lia | omega)) fun h₂ hit₂ hs₂=>wpAny_pure ?_))
   have hd:items.toList.drop i=items[i]::items.toList.drop (i+1):=by simp [List.drop_eq_getElem_cons,hlt]
   have:=hQ h₂ (by rw [show i+(n+1)=i+1+n by (first | lia | omega)];exact hit₂) (hs₁.trans hs₂)
   rw [hd,List.take_succ_cons] at this
   exact this
theorem unpackItems_list {t:Addr} {items:Array Value} {Q:List Value→Shared→Prop} (hh:A.handled=none) (ht:s.heap.IsList t items)
 (hQ:∀h',Heap.ExtBut s.heap.objs.size s.heap h'→Q items.toList { s with heap:=h' }):wpAny (model prog w) A (unpackItems (.ref t) items.size none) Q E s:=by
 have hlt:t≠s.heap.objs.size:=by obtain ⟨o,ho,_⟩:=id ht;exact Nat.ne_of_lt (Heap.lt_size ho)
 unfold unpackItems
 refine wpAny_bind ?_
 ·unfold notIterableAtAll
  refine wpAny_bind (wpAny_specialOf ht.typeIs PySem.slot_list_iter.lookup ?_)
  refine wpAny_pure ?_
  simp only [Bool.false_eq_true,if_false]
  refine wpAny_bind (wpAny_holding (wpAny_pyIter_list ht ?_))
  have hp:(s.heap.push { cls:=.type "list_iterator",data:=.fields #[.ref t,.int 0 0] }).IsList t items:=ht.extBut (b:=s.heap.objs.size) (fun b o _ e=>Heap.get?_push_of_some _ e) hlt
  refine wpAny_bind (wpAny_holding (draw_list hlt items.size 0 _ _ ⟨_,Heap.get?_push_size _ rfl,rfl,rfl⟩ hp (by (first | lia | omega)) fun h₁ hit₁ hs₁=>?_))
  have hall:List.take items.size (List.drop 0 items.toList)=items.toList:=by
   rw [List.drop_zero];exact List.take_of_length_le (by simp)
  rw [hall]
  rw [if_neg (by simp)]
  have ht₁:h₁.IsList t items:=hp.extBut hs₁.extBut hlt
  refine wpAny_bind (wpAny_holding (wpAny_pyNext_list_end hh hit₁ ht₁ (by simp) fun h₂ he₂=>?_))
  simp only [Option.isSome_none,Bool.false_eq_true,if_false]
  refine wpAny_pure (hQ h₂ fun b o hb e=>he₂ b o hb (hs₁.extBut b o hb (Heap.get?_push_of_some _ e)))
theorem assign_Tuple_list {env:Env} {elts:List Expr} {x1} {pos:Pos} {t:Addr} {items:Array Value} {Q:Unit→Shared→Prop} (hh:A.handled=none) (ht:s.heap.IsList t items)
 (hn:(assignEach elts env).length=items.size) (hstar:(assignEach elts env).findIdx? (·.1)=none)
 (h:∀h',Heap.ExtBut s.heap.objs.size s.heap h'→wpAny (model prog w) A (assignInOrder ((assignEach elts env).map (·.2)) items.toList) Q E { s with heap:=h' }) :
 wpAny (model prog w) A (assign (.Tuple elts x1 pos) env (.ref t)) Q E s:=by
 rw [assign_Tuple]
 refine wpAny_bind (wpAny_standAt ?_)
 unfold unpack
 rw [hn,hstar]
 exact wpAny_bind (wpAny_holding (unpackItems_list hh ht h))
end
section
variable {X:Cx} {pos:Pos}
noncomputable def gLst (K:PySem.W.Frag) (n:Nat) (t:TGs):TG:=fun v σ H Q=>∃a xs,v=.ref a∧SqL K H a xs∧xs.length=n∧t xs σ H Q
theorem pg_lst {es:List Expr} {k:Nat} {t:TGs} {n:Nat} (hc:X.calm=true) (h:PGs X es t)
 (hn:autoParam ((assignEach es X.env).length=n) au0_._auto_1) (hst:autoParam ((assignEach es X.env).findIdx? (·.1)=none) au0_._auto_1):PG X (.Tuple es k pos) (gLst X.K n t):=by
 intro pins s σ H v u Q I r hw
 obtain ⟨a,xs,e1,hq,hl,hw⟩:=hw
 subst e1
 cases r
 obtain ⟨its,rv,ht,hz⟩:=I.list hq
 refine assign_Tuple_list (I.ok.hd hc) ht.isList (by simp [hn,← hl,rv.length]) hst fun h' hx=>?_
 have I1:Inv X pins σ H { s with heap:=h' }:=I.kept (t':=s.toks) fun b o e=>hx b o (Nat.ne_of_lt (Heap.lt_size e)) e
 exact h pins _ σ H xs _ Q I1 (by simpa using rv) hw
theorem pgL (K:PySem.W.Frag) {es:List Expr} {k:Nat} {t:TGs} {n:Nat} (hc:X.calm=true) (g:PGs X es t)
 (hn:autoParam ((assignEach es X.env).length=n) au0_._auto_1) (hst:autoParam ((assignEach es X.env).findIdx? (·.1)=none) au0_._auto_1) (h:autoParam (X.K=K) au0_._auto_1):PG X (.Tuple es k pos) (gLst K n t):=h▸pg_lst hc g hn hst
end
section
variable {σ:L2.St} {H:Hp} {Q:VK} {a b:Bool} {K:PySem.W.Frag}
theorem r_unlist3 {p:Addr} {x y z:V} {i j k:Nat} {R:L2.St→Hp→Prop} (h:H p=some (.lst [x,y,z])) (q:R (((σ.set i (some x)).set j (some y)).set k (some z)) H):gLst K 3 (gCons (gName i) (gCons (gName j) (gCons (gName k) gNil))) (.ref p) σ H R:=
 ⟨p,_,rfl,SqL.of h,rfl,x,_,rfl,y,_,rfl,z,_,rfl,rfl,q⟩
end
end My

namespace My
open PySem PySem.Spec PyProof.Rows L2 Mth
noncomputable def cxComp (X:Cx) (N':List Str) (scope:Scope) (cl:List (Str×Addr)) (C:Addr) (s0:Shared) (H0:Hp) (ex':List Addr) (pn':List (Addr×Obj)):Cx:=
 { X with N:=N',s₀:=s0,H₀:=H0,env:=compEnvC scope cl C X.env,outer:=X.stack,ex:=ex',fn:=fun _=>false,pn:=pn',xe:=fun _ _=>False }
noncomputable def capV (cap:List Nat) (σ:L2.St):L2.St:=cap.map fun j=>(σ[j]?).getD none
theorem hok_but {P:Program} {w:World} {H:Hp} {h h':Heap} {C:Addr} (x:HOk P w H h) (n:H C=none) (k:∀b o,b≠C→h.get? b=some o→h'.get? b=some o):HOk P w H h':=fun b u e=>
 (x b u e).stay (fun c v hc q=>k c v (by
   rcases hc with z | z
   ·rw [z];exact ne_of_none e n
   ·exact ne_of_none z n) q) (fun _ q=>q) fun _ _ q=>q
theorem compLoop_gen {prog:Program} {w:World} {A:Around} {R:Result→Shared→Prop} {s:Shared} {elt iter tg:Expr} {ifs:List Expr} {scope:Scope} {pos:Pos} {it acc:Value} {env:Env} (I:Nat→Shared→Prop)
 (turn:∀n s,I n s→wpAny (model prog w) A (pyNext it) (fun r s₁=>match r with
   | none=>R (.ok .next) s₁
   | some v=>wpAny (model prog w) A (letOwnedTupleGo tg it v) (fun _ s₁'=>wpAny (model prog w) A (assign tg env v) (fun _ s₂=>
    wpAny (model prog w) A (forIn ifs true fun c r=>if r=true then do let ok ← isTrue c env (eval c env);pure (ForInStep.yield ok) else pure (ForInStep.yield r)) (fun ok s₃=>
     if ok=true then wpAny (model prog w) A (eval elt env) (fun x s₄=>
      wpAny (model prog w) A (call (.builtin "list.append") [acc,x]) (fun _ s₅=>∃m,m<n∧I m s₅) (notedBy (model prog w) A env fun e s'=>R (.error e) s') s₄) (notedBy (model prog w) A env fun e s'=>R (.error e) s') s₃
     else ∃m,m<n∧I m s₃) (notedBy (model prog w) A env fun e s'=>R (.error e) s') s₂) (notedBy (model prog w) A env fun e s'=>R (.error e) s') s₁') (notedBy (model prog w) A env fun e s'=>R (.error e) s') s₁) (notedBy (model prog w) A env fun e s'=>R (.error e) s') s)
 (n:Nat) (h:I n s):codeAny (model prog w) A (.compLoop (.ListComp elt [⟨tg,iter,ifs,0⟩] scope pos) 0 it acc env) R s:=by
 refine codeAny_loop rfl I (fun n s hI=>?_) n h
 show wpAny _ A ((compTurn (.ListComp elt [⟨tg,iter,ifs,0⟩] scope pos) 0 it acc env).onRaise (fun x=>do noteFrame x env;theTreesLotGoes x)) _ _ s
 refine wpAny_noted ?_
 rw [compTurn_list]
 refine wpAny_bind (wpAny_standAt (wpAny_bind (wpAny_mono (turn n s hI) (fun r s₁ h₁=>?_) fun _ _ h'=>h')))
 cases r with
 | none=>exact wpAny_pure h₁
 | some v=>
   refine wpAny_bind (wpAny_mono h₁ (fun _ s₂ h₂=>wpAny_bind (wpAny_mono h₂ (fun _ s₃ h₃=>wpAny_bind (wpAny_mono h₃ (fun ok s₄ h₄=>?_) fun _ _ h'=>h')) fun _ _ h'=>h')) fun _ _ h'=>h')
   cases ok with
   | false=>exact wpAny_pure ⟨rfl,h₄⟩
   | true=>
     exact wpAny_bind (wpAny_bind (wpAny_mono h₄ (fun x s₄ h₄=>wpAny_bind (wpAny_mono h₄ (fun _ s₅ h₅=>wpAny_pure (wpAny_pure ⟨rfl,h₅⟩)) fun _ _ h'=>h')) fun _ _ h'=>h'))
noncomputable def PTs (X:Cx) (ifs:List Expr) (t:TT):Prop:=
 ∀(pins:List (Addr×Obj)) (s:Shared) (σ:L2.St) (H:Hp) (Q:Bool→Hp→Prop),Inv X pins σ H s→t σ H Q →
  wpAny (model X.prog X.w) X.A (forIn ifs true fun c r=>if r=true then do let ok ← isTrue c X.env (eval c X.env);pure (ForInStep.yield ok) else pure (ForInStep.yield r)) (TP X pins σ Q) X.xe s
noncomputable def tYes:TT:=fun _ H B=>B true H
theorem pts_nil {X:Cx}:PTs X [] tYes:=fun _ _ _ H _ I h=>wpAny_tests_nil ⟨H,I,h⟩
theorem pts_one {X:Cx} {c:Expr} {t:TT} (h:PT X c t):PTs X [c] t:=fun pins s σ H Q I q=>wpAny_tests_one (h pins s σ H Q I q)
noncomputable def CapOk (X:Cx) (scope:Scope) (cl:List (Str×Addr)):List Str→List Nat→Prop
 | [],[]=>True
 | y::ys,j::js=>(X.N[j]?=some y∧X.env.kindOf y=some .cell∧(relabel scope X.env).names.lookup y=some .cell∧cl.lookup y=X.env.cells.lookup y)∧CapOk X scope cl ys js
 | _,_=>False
theorem CapOk.len {X:Cx} {scope:Scope} {cl:List (Str×Addr)}:∀{ys:List Str} {js:List Nat},CapOk X scope cl ys js→ys.length=js.length
 | [],[],_=>rfl
 | _::_,_::_,h=>congrArg (·+1) h.2.len
theorem CapOk.at {X:Cx} {scope:Scope} {cl:List (Str×Addr)}:∀{ys:List Str} {js:List Nat},CapOk X scope cl ys js→∀(i j:Nat) (y:Str),ys[i]?=some y→js[i]?=some j →
 X.N[j]?=some y∧X.env.kindOf y=some .cell∧(relabel scope X.env).names.lookup y=some .cell∧cl.lookup y=X.env.cells.lookup y
 | [],[],_,i,_,_,e,_=>by simp at e
 | _::_,_::_,h,0,j,y,e1,e2=>by
   simp at e1 e2
   subst e1 e2
   exact h.1
 | _::_,_::_,h,i+1,j,y,e1,e2=>h.2.at i j y (by simpa using e1) (by simpa using e2)
noncomputable def tComp (wi:TI) (n:Nat) (cap:List Nat) (g:TG) (tt:TT) (te:TE):TE:=fun σ H Q=>wi σ H fun J H1=>∀D,H1 D=none→∃W:Nat→Nat→List V→Hp→Prop,(∃m,W 0 m [] (upd H1 D (.lst []))) ∧
 ∀i m xs H2,W i m xs H2→H2 D=some (.lst xs)∧((J.stop i H2∧Q (.ref D) H2)∨(J.go i H2∧xs.length<sizeLine∧∀x H3 σ0,σ0.length=n→J.yld i H2 x H3 →
  g x (σ0++capV cap σ) H3 fun σ2 H4=>(∃σ1,σ1.length=n∧σ2=σ1++capV cap σ)∧tt σ2 H4 fun b H5=>if b=true then te σ2 H5 fun y H6=>H6 D=some (.lst xs)∧∃m',m'<m∧W (i+1) m' (xs++[y]) (upd H6 D (.lst (xs++[y])))
    else ∃m',m'<m∧W (i+1) m' xs H5))
section
variable {X:Cx} {elt iter tg:Expr} {ifs:List Expr} {pos:Pos} {scope:Scope} {cl:List (Str×Addr)} {wi:TI} {te:TE} {tt:TT} {g:TG} {O N':List Str} {cap:List Nat} {n:Nat}
theorem inv_but {pins:List (Addr×Obj)} {σ:L2.St} {H:Hp} {s:Shared} {C:Addr} {h':Heap} (I:L2.Inv X pins σ H s) (hC:FpOk X pins H C) (sb:Heap.SameBut C s.heap h'):L2.Inv X pins σ H { s with heap:=h' }:=by
 have k:∀b o,s.heap.get? b=some o→b∉[C]→h'.get? b=some o:=fun b o e hb=>(sb.2 b (fun z=>hb (by rw [z];exact List.mem_singleton.mpr rfl))).trans e
 refine I.call' (s':={ s with heap:=h' }) (ch:=[C]) rfl ⟨fun b o e _ _ hb=>k b o e hb,fun b o e _ _ hb=>⟨o.slots,k b o e hb⟩,fun b o _ n _=>n,fun b o e hb=>⟨o,k b o e hb⟩,fun _ _ q=>q,fun _ _ _ q=>q,fun _ ps q=>⟨#[],by simpa using q⟩⟩
  (hok_but I.hok hC.1 fun b o hb e=>(sb.2 b hb).trans e) I.bare fun b hb=>?_
 obtain rfl:b=C:=List.mem_singleton.mp hb
 exact ⟨hC.2.2.2.1,hC.2.1,hC.2.2.2.2.1,hC.2.2.2.2.2⟩
theorem comp_gen {pins:List (Addr×Obj)} {s:Shared} {σ:L2.St} {H:Hp} {Q:VK} {cpos:Pos} (use:Option (Value→Sem Unit)) (Q':Value→Shared→Prop) (hc:X.calm=true) (hi:PI X tg iter wi)
 (hg:∀(C:Addr) (s0:Shared) (H0:Hp) (ex':List Addr) (pn':List (Addr×Obj)),PG (cxComp X (O++N') scope cl C s0 H0 ex' pn') tg g)
 (htt:∀(C:Addr) (s0:Shared) (H0:Hp) (ex':List Addr) (pn':List (Addr×Obj)),PTs (cxComp X (O++N') scope cl C s0 H0 ex' pn') ifs tt)
 (helt:∀(C:Addr) (s0:Shared) (H0:Hp) (ex':List Addr) (pn':List (Addr×Obj)),PE (cxComp X (O++N') scope cl C s0 H0 ex' pn') elt te)
 (hO:O.length=n) (hcap:CapOk X scope cl N' cap)
 (hclos:closureFor scope X.env=pure cl) (hcell:∀y∈scope.names,y.2≠.cell) (hkind:scope.kind=.function) (hnames:∀y∈scope.names,y.2=.local→scope.names.lookup y.1=some .local)
 (hclx:∀y c,cl.lookup y=some c→X.env.cells.lookup y=some c) (hhas:∀y,((relabel scope X.env).names.lookup y=some .cell∨(relabel scope X.env).names.lookup y=some .free)→∃c,cl.lookup y=some c)
 (hs:∀z,foldedSetIterable iter X.env z=pure z)
 (I:L2.Inv X pins σ H s) (h:tComp wi n cap g tt te σ H Q)
 (fin:∀(D:Addr) (H5:Hp) (s6:Shared) (C:Addr),L2.Inv X pins σ H5 s6→FpOk X pins H5 C→(∃m,s6.heap.Ns C m)→Q (.ref D) H5→compPost (model X.prog X.w) X.A X.xe use Q' (.ref D) C (.ok .next) s6) :
 wpAny (model X.prog X.w) X.A (comprehension (.ListComp elt [⟨tg,iter,ifs,0⟩] scope pos) scope X.env cpos (newList []) false (eval iter X.env) use) Q' X.xe s:=by
 refine wpAny_comprehension_free (use:=use) rfl hs hclos hkind hnames (thn (hi pins s σ H _ I h) fun v s1 h1=>thn h1 fun itv s2 h2=>?_)
 obtain ⟨it,fp,tn,J,H2,e,I2,T,st2,f2,q2⟩:=h2
 subst e
 refine wpAny_newObj_type (wpAny_newFunctionEnv hcell (by intro y hy;simp at hy) (fun h₁ hns₁ hsb₁=>?_) hkind)
 dsimp only at hns₁ hsb₁ ⊢
  -- the list, then the block's own names
 have I3:Inv X pins σ (upd H2 s2.heap.objs.size (.lst [])) { s2 with heap:=s2.heap.push { cls:=.type "list",data:=.seq ([]:List Value).toArray },toks:=s2.toks }:=I2.lnew (its:=[]) (t':=s2.toks) .nil (Nat.zero_le _)
 generalize hH3:s2.heap.push { cls:=.type "list",dict:=none,data:=.seq ([]:List Value).toArray }=h3 at hns₁ hsb₁ I3 ⊢
 have q3:=q2 s2.heap.objs.size (I2.hok.fresh (Nat.le_refl _))
 generalize hD:s2.heap.objs.size=D at I3 q3 hns₁ hsb₁ ⊢
 obtain ⟨W,⟨m0,w0⟩,turn⟩:=q3
 have hC:∀b o,h3.get? b=some o→b≠h3.objs.size:=fun b o e=>Nat.ne_of_lt (Heap.lt_size e)
 have old:∀b o,h3.get? b=some o→h₁.get? b=some o:=fun b o e=>hsb₁.extBut b o (hC b o e) (Heap.get?_push_of_some _ e)
 have fpThere:∀b∈fp,∃o,h3.get? b=some o:=fun b hb=>by
  obtain ⟨o,e,_⟩:=T.obj _ _ st2 b hb
  exact ⟨o,by rw [← hH3];exact Heap.get?_push_of_some _ e⟩
 have fp3:∀b∈fp,upd H2 D (.lst []) b=none:=fun b hb=>by
  have n:=(f2 b hb).1
  obtain ⟨o,e,_⟩:=T.obj _ _ st2 b hb
  rw [upd_ne (by rw [← hD];exact Nat.ne_of_lt (Heap.lt_size e))]
  exact n
 have stk:∀b∈fp,b∉frs X.stack:=fun b hb z=>by
  rcases List.mem_cons.mp (I3.stkSub b z) with e | e
  ·exact (f2 b hb).2.1 e
  ·exact (f2 b hb).2.2.1 e
 have ok:(cxComp X (O++N') scope cl h3.objs.size { s2 with heap:=h3,toks:=s2.toks } (upd H2 D (.lst [])) fp (X.pn++pins)).Ok:=
  ⟨I.ok.mod,hkind,I.ok.glob,I.ok.blt,Nat.le_refl _,fun y z c a b=>I.ok.inj y z c (hclx y c a) (hclx z c b),hhas,fun _ _ z=>absurd z Bool.false_ne_true,I.ok.hd,I.ok.frames,.inl rfl,
   fun b hb=>⟨by obtain ⟨o,e⟩:=fpThere b hb;exact hC b o e,fun y c a=>(f2 b hb).2.2.2.2.1 y c (hclx y c a)⟩,I3.bs,Nat.le_trans I3.ok.bsz I3.sz,
   fun b o e hb=>by
    rcases (f2 b hb).2.2.2.1 with z | z
    ·exact I.ok.noex b o e z
    ·exact absurd (Nat.lt_of_lt_of_le (Heap.lt_size (I.ok.bs b o e).1) z) (Nat.lt_irrefl _),
   stk,I3.stack,I3.stkFree⟩
 have I4:Inv (cxComp X (O++N') scope cl h3.objs.size { s2 with heap:=h3,toks:=s2.toks } (upd H2 D (.lst [])) fp (X.pn++pins)) [] (List.replicate n none++capV cap σ) (upd H2 D (.lst [])) { s2 with heap:=h₁,toks:=s2.toks+([]:List (Str×Value)).length }:=by
  refine ⟨ok,rfl,I3.bare,Un.kept old,⟨_,hns₁,fun i y v e1 e2 e3=>?_⟩,fun y c a=>?_,I3.hok.fresh (Nat.le_refl _),fun y c a=>I3.freeC y c (hclx y c a),fun p hp=>?_,I3.hok.kept old,?_⟩
  ·by_cases hin:i<n
   ·rw [List.getElem?_append_left (by rw [List.length_replicate];exact hin),List.getElem?_replicate,if_pos hin] at e2
    cases e2
   ·have e1':N'[i-n]?=some y:=by
     have z:(O++N')[i]?=some y:=e1
     rw [List.getElem?_append_right (by (first | lia | omega)),hO] at z
     exact z
    have hi':i-n<cap.length:=by rw [← hcap.len];exact (List.getElem?_eq_some_iff.mp e1').1
    obtain ⟨j,ej⟩:∃j,cap[i-n]?=some j:=⟨_,List.getElem?_eq_getElem hi'⟩
    obtain ⟨a1,a2,a3,a4⟩:=hcap.at (i-n) j y e1' ej
    have e2':σ[j]?=some (some v):=by
     have z:(capV cap σ)[i-n]?=some (some v):=by
      rw [List.getElem?_append_right (by rw [List.length_replicate];(first | lia | omega)),List.length_replicate] at e2
      exact e2
     unfold capV at z
     rw [List.getElem?_map,ej] at z
     have z2:(σ[j]?).getD none=some v:=by simpa using z
     cases q:σ[j]? with
     | none=>rw [q] at z2;cases z2
     | some o=>rw [q] at z2;exact congrArg some z2
    obtain ⟨m,hn,hl⟩:=I3.loc
    obtain ⟨u,r,l⟩:=hl j y v a1 e2' (.inr (.inl a2))
    refine ⟨u,r,.inr ⟨.inl a3,?_⟩⟩
    rcases l with ⟨k,_⟩ | ⟨_,c,ec,o,ho,hd⟩
    ·rw [a2] at k;cases k
    ·exact ⟨c,a4.trans ec,o,old c o ho,hd⟩
  ·obtain ⟨v,o,ho,hd⟩:=I3.cell y c (hclx y c a)
   exact ⟨v,o,old c o ho,hd⟩
  ·have hp':p∈X.pn++pins:=by simpa [cxComp] using hp
   obtain ⟨e,n,ne,nf,d⟩:=I3.pin p hp'
   refine ⟨old _ _ e,n,hC _ _ e,fun z=>?_,d⟩
   rcases List.mem_cons.mp (I3.stkSub p.1 z) with e | e
   ·exact ne e
   ·exact nf e
  ·show (List.replicate n none++capV cap σ).length=(O++N').length
   unfold capV
   rw [List.length_append,List.length_append,List.length_replicate,List.length_map,hcap.len,hO]
 have loop:codeAny (model X.prog X.w) X.A (.compLoop (.ListComp elt [⟨tg,iter,ifs,0⟩] scope pos) 0 (.ref it) (.ref D) (compEnvC scope cl h3.objs.size X.env))
  (compPost (model X.prog X.w) X.A X.xe use Q' (.ref D) h3.objs.size) { s2 with heap:=h₁,toks:=s2.toks+([]:List (Str×Value)).length }:=by
  have fpk:∀{H':Hp},(∀b∈fp,H' b=none)→∀b∈fp,FpOk (cxComp X (O++N') scope cl h3.objs.size { s2 with heap:=h3,toks:=s2.toks } (upd H2 D (.lst [])) fp (X.pn++pins)) [] H' b:=fun hn b hb=>by
   obtain ⟨o,e⟩:=fpThere b hb
   refine ⟨hn b hb,hC b o e,stk b hb,.inl hb,fun y c a=>(f2 b hb).2.2.2.2.1 y c (hclx y c a),fun p hp=>?_⟩
   have hp':p∈X.pn++pins:=by simpa [cxComp] using hp
   exact (f2 b hb).2.2.2.2.2 p hp'
  refine compLoop_gen (fun mm s'=>∃(i:Nat) (xs:List V) (H':Hp) (σ0:L2.St),σ0.length=n∧Inv (cxComp X (O++N') scope cl h3.objs.size { s2 with heap:=h3,toks:=s2.toks } (upd H2 D (.lst [])) fp (X.pn++pins)) [] (σ0++capV cap σ) H' s'∧tn i s'.heap∧(∀b∈fp,H' b=none)∧W i mm xs H') ?_ m0
   ⟨0,[],_,List.replicate n none,List.length_replicate,I4,T.keep _ _ _ st2 fun b hb o e=>old b o (by rw [← hH3];exact Heap.get?_push_of_some _ e),fp3,w0⟩
  rintro mm s5 ⟨i,xs,H5,σ0,hσ0,I5,st5,fr5,w5⟩
  obtain ⟨e5,tw⟩:=turn i mm xs H5 w5
  rcases tw with ⟨stop,qn⟩ | ⟨go,hz,step⟩
  ·refine thn (T.done (cxComp X (O++N') scope cl h3.objs.size { s2 with heap:=h3,toks:=s2.toks } (upd H2 D (.lst [])) fp (X.pn++pins)) rfl rfl rfl hc i [] s5 _ H5 _ I5 (fpk fr5) st5 stop) fun r s6 ⟨hr,I6⟩=>?_
   subst hr
   obtain ⟨m,hn,_⟩:=id I6.loc
   have J6:L2.Inv X pins σ H5 s6:=I3.call' (s':=s6) (ch:=fp) I6.os I6.base I6.hok I6.bare fun b hb=>by
    obtain ⟨_,g1,_,g3,g4,g5⟩:=f2 b hb
    exact ⟨g3,g1,g4,g5⟩
   exact fin D H5 s6 _ J6 (I3.fpOk (Nat.le_refl _) I6.free) ⟨m,hn⟩ qn
  ·refine thn (T.item (cxComp X (O++N') scope cl h3.objs.size { s2 with heap:=h3,toks:=s2.toks } (upd H2 D (.lst [])) fp (X.pn++pins)) rfl rfl rfl hc i [] s5 _ H5 _ I5 (fpk fr5) st5 go) fun r s6 ⟨u,hr,h6⟩=>?_
   subst hr
   refine thn h6 fun _ s7 ⟨xv,H7,I7,r7,y7,st7,fr7⟩=>?_
   have I7':=I7.pinned (fpk fr7) (T.obj _ _ st7)
   refine wpAny_mono (hg _ _ _ _ _ _ s7 _ H7 xv u _ I7' r7 (step xv H7 σ0 hσ0 y7)) (fun _ s8 ⟨σ2,H8,I8,⟨σ1,hσ1,e2⟩,q8⟩=>?_) fun _ _ z=>z.elim
   refine wpAny_mono (htt _ _ _ _ _ _ s8 σ2 H8 _ I8 q8) (fun ok s9 ⟨H9,I9,q9⟩=>?_) fun _ _ z=>z.elim
   subst e2
   have keep:∀{s':Shared} {σ':L2.St} {H':Hp},Inv (cxComp X (O++N') scope cl h3.objs.size { s2 with heap:=h3,toks:=s2.toks } (upd H2 D (.lst [])) fp (X.pn++pins)) ([]++pinsAt fp s7.heap) σ' H' s'→tn (i+1) s'.heap∧∀b∈fp,H' b=none:=fun {s' σ' H'} J=>
    ⟨T.keep _ _ _ st7 fun b hb o e=>(J.pin (b,o) (List.mem_append_right _ (List.mem_append_right _ (mem_pinsAt hb e)))).1,fun b hb=>by
     obtain ⟨o,e,d⟩:=T.obj _ _ st7 b hb
     exact (J.pin (b,o) (List.mem_append_right _ (List.mem_append_right _ (mem_pinsAt hb e)))).2.1⟩
   cases ok with
   | false=>
     rw [if_neg Bool.false_ne_true] at q9 ⊢
     obtain ⟨m',hm,w9⟩:=q9
     exact ⟨m',hm,i+1,xs,H9,σ1,hσ1,I9.unpinned,(keep I9).1,(keep I9).2,w9⟩
   | true=>
     rw [if_pos rfl] at q9 ⊢
     refine wpAny_mono (helt _ _ _ _ _ _ s9 _ H9 _ I9 q9) (fun yv s10 ⟨y,H10,I10,r10,e10,m',hm,w10⟩=>?_) fun _ _ z=>z.elim
     refine wpAny_mono (mt_append (X:=cxComp X (O++N') scope cl h3.objs.size { s2 with heap:=h3,toks:=s2.toks } (upd H2 D (.lst [])) fp (X.pn++pins)) _ s10 _ H10 (.ref D) [y] (.ref D) [yv] (fun _ H'=>H'=upd H10 D (.lst (xs++[y]))) I10 rfl (.cons r10 .nil) ⟨D,xs,y,rfl,rfl,e10,hz,rfl⟩) (fun _ s11 ⟨_,H11,I11,_,e11⟩=>?_) fun _ _ z=>z.elim
     subst e11
     exact ⟨m',hm,i+1,xs++[y],_,σ1,hσ1,I11.unpinned,(keep I11).1,(keep I11).2,w10⟩
 exact codeAny_compStart_list loop (T.self _ 0 _ _ _ (T.keep _ _ _ st2 fun b hb o e=>old b o (by rw [← hH3];exact Heap.get?_push_of_some _ e)) loop)
theorem pe_comp (hc:X.calm=true) (hi:PI X tg iter wi)
 (hg:∀(C:Addr) (s0:Shared) (H0:Hp) (ex':List Addr) (pn':List (Addr×Obj)),PG (cxComp X (O++N') scope cl C s0 H0 ex' pn') tg g)
 (htt:∀(C:Addr) (s0:Shared) (H0:Hp) (ex':List Addr) (pn':List (Addr×Obj)),PTs (cxComp X (O++N') scope cl C s0 H0 ex' pn') ifs tt)
 (helt:∀(C:Addr) (s0:Shared) (H0:Hp) (ex':List Addr) (pn':List (Addr×Obj)),PE (cxComp X (O++N') scope cl C s0 H0 ex' pn') elt te)
 (hO:O.length=n) (hcap:CapOk X scope cl N' cap)
 (hclos:closureFor scope X.env=pure cl) (hcell:∀y∈scope.names,y.2≠.cell) (hkind:scope.kind=.function) (hnames:∀y∈scope.names,y.2=.local→scope.names.lookup y.1=some .local)
 (hclx:∀y c,cl.lookup y=some c→X.env.cells.lookup y=some c) (hhas:∀y,((relabel scope X.env).names.lookup y=some .cell∨(relabel scope X.env).names.lookup y=some .free)→∃c,cl.lookup y=some c)
 (hs:autoParam (∀z,foldedSetIterable iter X.env z=pure z) au2_._auto_1) :
 PE X (.ListComp elt [⟨tg,iter,ifs,0⟩] scope pos) (tComp wi n cap g tt te):=by
 intro pins s σ H Q I h
 rw [eval_ListComp]
 exact comp_gen none (EP X pins σ Q) hc hi hg htt helt hO hcap hclos hcell hkind hnames hclx hhas hs I h fun D H5 s6 C J fC ⟨m,hn⟩ q=>⟨m,hn,fun h' sb=>⟨.ref D,H5,inv_but J fC sb,rfl,q⟩⟩
theorem ps_comp {i:Nat} {x:Str} {pos' spos:Pos} (hN:X.N.Nodup) (hix:X.N[i]?=some x) (hx:Loc X.env.scope x) (hc:X.calm=true) (hi:PI X tg iter wi)
 (hg:∀(C:Addr) (s0:Shared) (H0:Hp) (ex':List Addr) (pn':List (Addr×Obj)),PG (cxComp X (O++N') scope cl C s0 H0 ex' pn') tg g)
 (htt:∀(C:Addr) (s0:Shared) (H0:Hp) (ex':List Addr) (pn':List (Addr×Obj)),PTs (cxComp X (O++N') scope cl C s0 H0 ex' pn') ifs tt)
 (helt:∀(C:Addr) (s0:Shared) (H0:Hp) (ex':List Addr) (pn':List (Addr×Obj)),PE (cxComp X (O++N') scope cl C s0 H0 ex' pn') elt te)
 (hO:O.length=n) (hcap:CapOk X scope cl N' cap)
 (hclos:closureFor scope X.env=pure cl) (hcell:∀y∈scope.names,y.2≠.cell) (hkind:scope.kind=.function) (hnames:∀y∈scope.names,y.2=.local→scope.names.lookup y.1=some .local)
 (hclx:∀y c,cl.lookup y=some c→X.env.cells.lookup y=some c) (hhas:∀y,((relabel scope X.env).names.lookup y=some .cell∨(relabel scope X.env).names.lookup y=some .free)→∃c,cl.lookup y=some c)
 (hsw:swapsWith (.ListComp elt [⟨tg,iter,ifs,0⟩] scope pos) (some (.Name x pos')) spos.line X.env=pure true)
 (hs:autoParam (∀z,foldedSetIterable iter X.env z=pure z) au2_._auto_1) (hf:X.fn x=true∨X.env.scope.names.lookup x=some .local:=by first | exact .inl rfl | exact .inr rfl | assumption) :
 PS X (.Assign [.Name x pos'] (.ListComp elt [⟨tg,iter,ifs,0⟩] scope pos) spos) (tAsg (tComp wi n cap g tt te) (gName i)):=by
 intro pins s σ H D I h
 rw [exec_Assign_Name_used _ _ _ _ hsw]
 refine wpAny_bind (wpAny_standAt (wpAny_bind ?_))
 show wpAny _ _ (comprehension (.ListComp elt [⟨tg,iter,ifs,0⟩] scope pos) scope X.env _ (newList []) false (eval iter X.env) (some (assign (.Name x pos') X.env)) >>= fun _=>pure ()) _ _ s
 refine wpAny_bind (comp_gen (some (assign (.Name x pos') X.env)) (fun _ s'=>wpAny _ _ (pure ()) _ _ s') hc hi hg htt helt hO hcap hclos hcell hkind hnames hclx hhas hs I h fun Dl H5 s6 C J fC ⟨m,hn⟩ q=>?_)
 refine wpAny_assign_Name (store_ok2 J hN hix hx (show RelV (.ref Dl) (.ref Dl) from rfl) (fun s7 I7 ⟨a,sb,ha⟩=>⟨m,hn.sameBut sb ?_,fun h' sb'=>wpAny_pure (wpAny_pure ⟨_,H5,inv_but I7 fC sb',q⟩)⟩) hf)
 rcases ha with rfl | e
 ·exact fC.2.1
 ·exact fun z=>fC.2.2.2.2.1 x a e z.symm
end
end My

namespace My
open PySem PySem.Spec PyProof.Rows L2 Mth
structure Cn (mg:Str→Option Value) (x:Str) (n:Int):Prop where
 ex:∃t,mg x=some (.int n t)
section
variable {X:Cx} {x:Str} {n:Int} {pos apos cpos:Pos} {o:Expr} {to:TE}
theorem pe_cn (hg:Gl X x) (C:Cn X.mg x n) (hd:autoParam ((x==("__debug__":Str))=false) au1_._auto_1):PE X (.Name x pos) (tC (.int n)):=by
 obtain ⟨t,h⟩:=C.ex
 exact L2.pe_glob hg h ⟨t,rfl⟩ hd
noncomputable def rBits:V→Hp→VK→Prop:=fun x H Q=>∃i:Int,x=.int i∧Q (.int ((Builtin.Int.intBits i:Nat):Int)) H
theorem mt_bits:MtR X "int.bit_length" (fun x vs H Q=>vs=[]∧rBits x H Q):=by
 intro pins s σ H x vs v us Q I rx rv h
 obtain ⟨rfl,i,rfl,q⟩:=h
 cases rv
 obtain ⟨t,rfl⟩:=rx
 exact call_int_bit_length ⟨.int ((Builtin.Int.intBits i:Nat):Int),H,I.tok _,⟨_,rfl⟩,q⟩
theorem pe_bits (ho:PE X o to) (hbase:autoParam (attributeBase o "bit_length" X.env (eval o X.env)=eval o X.env) au0_._auto_1) (hline:autoParam ((apos.endLine==cpos.line)=true) au0_._auto_1) :
 PE X (.Call (.Attribute o "bit_length" apos) [] [] cpos) (tUn (fun x H Q=>tyV X.K "int" x H∧([]:List V)=[]∧rBits x H Q) to):=
 pe_bm0 PySem.F.plainAttrs_int slot_int_bit_length type_int_bit_length mt_bits ho hbase hline
end
section
variable {σ:L2.St} {H:Hp} {Q:VK} {m n:Int} {K:PySem.W.Frag} {X:Cx}
theorem r_bits (q:Q (.int ((Builtin.Int.intBits m:Nat):Int)) H):tyV K "int" (.int m) H∧([]:List V)=[]∧rBits (.int m) H Q:=⟨rfl,rfl,m,rfl,q⟩
noncomputable def rMax:List V→Hp→VK→Prop:=fun xs H Q=>∃i j:Int,xs=[.int i,.int j]∧Q (.int (if j>i then j else i)) H
noncomputable def rMin:List V→Hp→VK→Prop:=fun xs H Q=>∃i j:Int,xs=[.int i,.int j]∧Q (.int (if j<i then j else i)) H
theorem maxC (hc:X.calm=true):CallR X (.builtin "max") rMax:=call_max2 hc
theorem minC (hc:X.calm=true):CallR X (.builtin "min") rMin:=call_min2 hc
theorem r_max (q:Q (.int (if n>m then n else m)) H):rMax [.int m,.int n] H Q:=⟨m,n,rfl,q⟩
theorem r_min (q:Q (.int (if n<m then n else m)) H):rMin [.int m,.int n] H Q:=⟨m,n,rfl,q⟩
theorem catT (K:PySem.W.Frag) (h:autoParam (X.K=K) au0_._auto_1):OpR X (binaryOp .Add) (rCatT K):=h▸op_catT
theorem r_catT {p r:Addr} {x y:V} {xs ys:List V} (hp:H p=some (.tup (x::xs))) (hr:H r=some (.tup (y::ys))) (h:Nw .tup (x::xs++y::ys) H Q):rCatT K (.ref p) (.ref r) H Q:=
 ⟨p,r,_,_,rfl,rfl,SqT.of hp,SqT.of hr,by simp,by have:=h.1;rw [List.length_append] at this;exact this,fun e=>by simp at e,fun _=>h.2⟩
theorem r_cat {p r:Addr} {xs ys:List V} (hp:H p=some (.lst xs)) (hr:H r=some (.lst ys)) (h:Nw .lst (xs++ys) H Q):rCat (.ref p) (.ref r) H Q:=⟨p,r,_,_,rfl,rfl,hp,hr,by have:=h.1;rw [List.length_append] at this;exact this,h.2⟩
theorem r_rep {p:Addr} {xs:List V} {k:Int} (hp:H p=some (.lst xs)) (h1:-(2 ^ 63)≤k) (h2:k<2 ^ 63) (h:Nw .lst (List.replicate k.toNat xs).flatten H Q):rRep (.ref p) (.int k) H Q:=
 ⟨p,k,xs,rfl,rfl,hp,h1,h2,by have:=h.1;rw [len_rep] at this;rw [Nat.mul_comm];exact this,h.2⟩
theorem at3 {x y z u:V} {xs:List V}:atI (x::y::z::u::xs) 3=some u:=atI_nat (j:=3) rfl
theorem r_t3 {p:Addr} {x y z u:V} {xs:List V} (h:H p=some (.tup (x::y::z::u::xs))) (q:Q u H):rIxT K (.ref p) (.int 3) H Q:=⟨p,_,3,u,rfl,rfl,SqT.of h,at3,q⟩
end
section
variable {σ:L2.St} {H:Hp} {to ti:TE} {ts:TSet} {R:L2.St→Hp→Prop} {v:V}
theorem r_asg {te:TE} {g:TG} {D:Ends} (h:te σ H fun x H1=>g x σ H1 D.nx):tAsg te g D σ H:=h
theorem r_gsub (h:to σ H fun o H1=>ti σ H1 fun i H2=>ts o i v H2 fun H3=>R σ H3):gSub to ti ts v σ H R:=h
theorem r_setL {p:Addr} {xs:List V} {k:Int} {j:Nat} {Q:Hp→Prop} (h:H p=some (.lst xs)) (e:ixN xs.length k=some j) (q:Q (upd H p (.lst (xs.set j v)))):rSetL (.ref p) (.int k) v H Q:=⟨p,xs,k,j,rfl,rfl,h,e,q⟩
end
theorem heads_big {low:Int} (c:((Builtin.Int.intBits low:Nat):Int)>128) (h0:0≤low):340282366920938463463374607431768211456≤low:=by
 have h:¬Builtin.Int.intBits low≤128:=by (first | lia | omega)
 have k:¬low.natAbs<2 ^ 128:=fun q=>h (intBits_le_iff.mpr q)
 have e:(2:Nat) ^ 128=340282366920938463463374607431768211456:=by decide
 (first | lia | omega)
theorem heads_small {low:Int} (c:¬((Builtin.Int.intBits low:Nat):Int)>128):low≤340282366920938463463374607431768211456:=by
 have h:Builtin.Int.intBits low≤128:=by (first | lia | omega)
 have k:low.natAbs<2 ^ 128:=intBits_le_iff.mp h
 have e:(2:Nat) ^ 128=340282366920938463463374607431768211456:=by decide
 (first | lia | omega)
theorem heads_tail {x y:Int} (c:((Builtin.Int.intBits y:Nat):Int)>256) (y0:0≤y) (yx:y≤x) :
 ∃t:Nat,((Builtin.Int.intBits x:Nat):Int)-256=(t:Int)∧(2:Int) ^ (255+t)≤x∧x<(2:Int) ^ (256+t):=by
 have hb:Builtin.Int.intBits y≤Builtin.Int.intBits x:=intBits_le_of_natAbs (by (first | lia | omega)) (Nat.le_refl _)
 obtain ⟨t,ht⟩:∃t,Builtin.Int.intBits x=256+t:=⟨Builtin.Int.intBits x-256,by (first | lia | omega)⟩
 have h1:x.natAbs<2 ^ (256+t):=intBits_le_iff.mp (by (first | lia | omega))
 have h2:¬x.natAbs<2 ^ (255+t):=fun q=>by have:=intBits_le_iff.mpr q;(first | lia | omega)
 refine ⟨t,by (first | lia | omega),?_,?_⟩
 ·have:(((2:Nat) ^ (255+t):Nat):Int)=(2:Int) ^ (255+t):=by simp
  rw [← this];(first | lia | omega)
 ·have:(((2:Nat) ^ (256+t):Nat):Int)=(2:Int) ^ (256+t):=by simp
  rw [← this];(first | lia | omega)
end My

namespace Jd
open PySem PySem.Spec PyProof.Rows L2 My
structure QE (X:Cx) (e:Expr) (t:TE):Prop where
 h:PE X e t
structure QT (X:Cx) (e:Expr) (t:TT):Prop where
 h:PT X e t
structure QW (X:Cx) (e:Expr) (t:TT):Prop where
 h:PW X e t
structure QA (X:Cx) (es:List Expr) (t:TA):Prop where
 h:PA X es t
structure QS (X:Cx) (st:Stmt) (t:TS):Prop where
 h:PS X st t
structure QSs (X:Cx) (st:List Stmt) (t:TS):Prop where
 h:PSs X st t
structure QG (X:Cx) (e:Expr) (t:TG):Prop where
 h:PG X e t
structure QGs (X:Cx) (es:List Expr) (t:TGs):Prop where
 h:PGs X es t
structure QI (X:Cx) (tg e:Expr) (t:TI):Prop where
 h:PI X tg e t
structure QO (X:Cx) (e:Option Expr) (t:TO):Prop where
 h:PO X e t
section
variable {X:Cx} {e a b c o:Expr} {es:List Expr} {te ta tb tc to:TE} {t:TA} {pos p p2 apos cpos:Pos} {x:Str} {tA tB':TT} {st:Stmt} {sts rest:List Stmt} {s1 s2:TS} {K:PySem.W.Frag}
theorem go {body:List Stmt} {D:Ends} {σ:L2.St} {H:Hp} (h:∃t,QSs X body t∧t D σ H):∃t,PSs X body t∧t D σ H:=let ⟨t,h,k⟩:=h;⟨t,h.h,k⟩
theorem cut {body:List Stmt} {D:Ends} {σ:L2.St} {H:Hp} (n:Nat) (Pv:L2.St→Hp→Prop) (tail:∃t,QSs X (body.drop n) t∧∀σ H,Pv σ H→t D σ H)
 (main:∀u,QSs X (body.drop n) u→(∀σ H,Pv σ H→u D σ H)→∃t,QSs X body t∧t D σ H):∃t,QSs X body t∧t D σ H:=
 let ⟨u,h1,h2⟩:=tail
 main u h1 h2
theorem pv (i:Nat) (hN:autoParam (X.N[i]?=some x) au0_._auto_1) (hv:Vis X.env.scope x:=by first | exact Or.inl rfl | exact Or.inr (Or.inl rfl) | exact Or.inr (Or.inr rfl)) (hd:autoParam ((x==("__debug__":Str))=false) au1_._auto_1)
 (hcd:autoParam ((x==("__classdict__":Str))=false) au1_._auto_1):QE X (.Name x pos) (tVar i):=⟨L2.pv i hN hv hd hcd⟩
theorem pe_int {i j}:QE X (.Constant (.int i) j pos) (tC (.int i)):=⟨L2.pe_int⟩
theorem pe_bl {i j}:QE X (.Constant (.bool i) j pos) (tC (.bl i)):=⟨L2.pe_bl⟩
theorem pe_non {j}:QE X (.Constant .none j pos) (tC .non):=⟨L2.pe_non⟩
theorem pe_str {i j}:QE X (.Constant (.str i) j pos) (tC (.str i)):=⟨L2.pe_str⟩
theorem pe_ty {n:String} (hg:Gl X x) (hm:X.mg x=none) (hv:bootBuiltins x=some (.type n)) (hn:autoParam (x ≠ "__name__") au1_._auto_1) (hd:autoParam ((x==("__debug__":Str))=false) au1_._auto_1):QE X (.Name x pos) (tC (.ty n)):=⟨My.pe_ty hg hm hv hn hd⟩
theorem pe_op {op:Operator} {r:R2} (ho:OpR X (binaryOp op) r) (ha:QE X a ta) (hb:QE X b tb):QE X (.BinOp a op b pos) (tOp r ta tb):=⟨L2.pe_op ho ha.h hb.h⟩
theorem pe_un {op:UnaryOp} {r:V→Hp→VK→Prop} (ho:UnR X (unaryOp op) r) (ha:QE X a ta):QE X (.UnaryOp op a pos) (tUn r ta):=⟨L2.pe_un ho ha.h⟩
theorem pe_not (ha:QE X a ta):QE X (.UnaryOp .Not a pos) (tNotV ta):=⟨L2.pe_not ha.h⟩
theorem pe_cmpR {op:CmpOp} {r:R2} (ho:OpR X (compareOp op) r) (ha:QE X a ta) (hb:QE X b tb) (hm:behindInMarks op b=false):QE X (.Compare a [op] [b] pos) (tOp r ta tb):=⟨L2.pe_cmpR ho ha.h hb.h hm⟩
theorem pt_cmpR {op:CmpOp} {r:R2} (ho:OpR X (compareOp op) r) (ha:QE X a ta) (hb:QE X b tb) (hm:behindInMarks op b=false):QT X (.Compare a [op] [b] pos) (tTest (tOp r ta tb)):=⟨L2.pt_cmpR ho ha.h hb.h hm⟩
theorem pt_not (ha:QT X a tA):QT X (.UnaryOp .Not a pos) (tNot tA):=⟨L2.pt_not ha.h⟩
theorem pt_val (h:QE X e te) (he:autoParam (∀whole,isTrue e X.env whole=(do let v ← whole;standAt e.pos;holding [v] (truthy v))) au2_._auto_1):QT X e (tB te):=⟨L2.pt_val h.h he⟩
theorem PWpt (h:QW X e tA):QT X e tA:=⟨h.h.pt⟩
theorem pw_and1 (ha:QT X a tA):QW X (.BoolOp .And [a] pos) tA:=⟨L2.pw_and1 ha.h⟩
theorem pw_or1 (ha:QT X a tA):QW X (.BoolOp .Or [a] pos) tA:=⟨L2.pw_or1 ha.h⟩
theorem pw_and (ha:QT X a tA) (hb:QW X (.BoolOp .And (b::es) pos) tB'):QW X (.BoolOp .And (a::b::es) pos) (tAnd tA tB'):=⟨L2.pw_and ha.h hb.h⟩
theorem pw_or (ha:QT X a tA) (hb:QW X (.BoolOp .Or (b::es) pos) tB'):QW X (.BoolOp .Or (a::b::es) pos) (tOr tA tB'):=⟨L2.pw_or ha.h hb.h⟩
theorem pe_one {op} (h:QE X a te):QE X (.BoolOp op [a] pos) te:=⟨L2.pe_one h.h⟩
theorem pe_and (ha:QE X a ta) (hb:QE X (.BoolOp .And (b::es) pos) tb):QE X (.BoolOp .And (a::b::es) pos) (tAndV ta tb):=⟨L2.pe_and ha.h hb.h⟩
theorem pe_or (ha:QE X a ta) (hb:QE X (.BoolOp .Or (b::es) pos) tb):QE X (.BoolOp .Or (a::b::es) pos) (tOrV ta tb):=⟨L2.pe_or ha.h hb.h⟩
theorem pe_ifExp (hc:QT X c tA) (ha:QE X a ta) (hb:QE X b tb):QE X (.IfExp c a b pos) (tIf tA ta tb):=⟨L2.pe_ifExp hc.h ha.h hb.h⟩
theorem pa_nil:QA X [] tNil:=⟨L2.pa_nil⟩
theorem pa_cons (ha:QE X e te) (hr:QA X es t) (hs:autoParam (starEach (e::es) X.env=(false,eval e X.env)::starEach es X.env) au0_._auto_1):QA X (e::es) (tCons te t):=⟨L2.pa_cons ha.h hr.h hs⟩
theorem pe_tup {k:Nat} (h:QA X es t):QE X (.Tuple es k pos) (tTup t):=⟨L2.pe_tup h.h⟩
theorem pe_lst (h:QA X es t):QE X (.List es pos) (tLst t):=⟨L2.pe_lst h.h⟩
theorem po_none:QO X none tNoPart:=⟨L2.po_none⟩
theorem po_some (h:QE X e te):QO X (some e) (tPart te):=⟨L2.po_some h.h⟩
theorem pe_slice {r:V→Option Int→Option Int→Hp→VK→Prop} {lo hi:Option Expr} {tl th:TO} (hr:SlR X r) (he:QE X e te) (hl:QO X lo tl) (hu:QO X hi th):QE X (.Subscript e (.Slice lo hi none p2) pos) (tSl r te tl th):=⟨L2.pe_slice hr he.h hl.h hu.h⟩
theorem pe_ix {r:R2} (hr:IxR X r) (ha:QE X a ta) (hb:QE X b tb) (hs:PlainIx b):QE X (.Subscript a b pos) (tOp r ta tb):=⟨L2.pe_ix hr ha.h hb.h hs⟩
theorem pe_callB {id:String} {r:List V→Hp→VK→Prop} (hc:CallR X (.builtin id) r) (hg:Gl X x) (hm:X.mg x=none) (hv:bootBuiltins x=some (.builtin id)) (ha:QA X (e::es) t) (hn:autoParam (x ≠ "__name__") au1_._auto_1) (hdb:autoParam ((x==("__debug__":Str))=false) au1_._auto_1)
 (he:autoParam (starEach (e::es) X.env=(false,eval e X.env)::starEach es X.env) au0_._auto_1) (hpl:autoParam ((backTo pos (starEach es X.env)).any (·.1)=false) au0_._auto_1):QE X (.Call (.Name x p) (e::es) [] pos) (tCB r t):=⟨L2.pe_callB hc hg hm hv ha.h hn hdb he hpl⟩
theorem pe_callTy {T:String} {r:List V→Hp→VK→Prop} (hc:CallR X (.type T) r) (hg:Gl X x) (hm:X.mg x=none) (hv:bootBuiltins x=some (.type T)) (ha:QA X (e::es) t) (hn:autoParam (x ≠ "__name__") au1_._auto_1) (hdb:autoParam ((x==("__debug__":Str))=false) au1_._auto_1)
 (he:autoParam (starEach (e::es) X.env=(false,eval e X.env)::starEach es X.env) au0_._auto_1) (hpl:autoParam ((backTo pos (starEach es X.env)).any (·.1)=false) au0_._auto_1):QE X (.Call (.Name x p) (e::es) [] pos) (tCB r t):=⟨L2.pe_callTy hc hg hm hv ha.h hn hdb he hpl⟩
theorem pe_dn {k:Nat} {ps:List Str} {sp:Sp} (D:Dn X.prog X.w X.K X.mg X.base k x ps sp) (hr:Room k X.A) (hg:Gl X x) (ha:QA X (e::es) t) (hdb:autoParam ((x==("__debug__":Str))=false) au1_._auto_1)
 (he:autoParam (starEach (e::es) X.env=(false,eval e X.env)::starEach es X.env) au0_._auto_1) (hpl:autoParam ((backTo pos (starEach es X.env)).any (·.1)=false) au0_._auto_1):QE X (.Call (.Name x p) (e::es) [] pos) (tCall sp [] E0 t):=⟨My.pe_dn D hr hg ha.h hdb he hpl⟩
theorem appC (K:PySem.W.Frag) (ho:QE X o to) (he:QE X e te) (h:autoParam (X.K=K) au0_._auto_1)
 (hbase:autoParam (attributeBase o "append" X.env (eval o X.env)=eval o X.env) au0_._auto_1)
 (hfew:autoParam (((backTo cpos (starEach (e::[]) X.env)).all (fun x=>!x.1)&&(backToKw cpos (keywordEach [] X.env)).all (fun x=>x.1.isSome)
   && decide ((e::([]:List Expr)).length+([]:List Keyword).length+(if ([]:List Keyword).isEmpty then 0 else 1)<30))=true) au0_._auto_1)
 (hline:autoParam ((apos.endLine==cpos.line)=true) au0_._auto_1) (hs:autoParam (starEach (e::[]) X.env=(false,eval e X.env)::starEach [] X.env) au0_._auto_1) (hplain:autoParam ((backTo cpos (starEach [] X.env)).any (·.1)=false) au0_._auto_1) :
 QE X (.Call (.Attribute o "append" apos) [e] [] cpos) (tBM K "list" rAppend to (tCons te tNil)):=⟨My.appC K ho.h he.h h hbase hfew hline hs hplain⟩
theorem pss_nil:QSs X [] tNext:=⟨L2.pss_nil⟩
theorem pss_cons (h1:QS X st s1) (h2:QSs X rest s2):QSs X (st::rest) (tSeq s1 s2):=⟨L2.pss_cons h1.h h2.h⟩
theorem pss_one (h1:QS X st s1):QSs X [st] s1:=⟨L2.pss_one h1.h⟩
theorem ps_never:QS X st tNever:=⟨L2.ps_never⟩
theorem ps_ret (he:QE X e te):QS X (.Return (some e) pos) (tRet te):=⟨L2.ps_ret he.h⟩
theorem ps_expr (he:QE X e te) (hs:autoParam (swapsWith e none pos.line X.env=pure false) au0_._auto_1):QS X (.Expr e pos) (tDrop te):=⟨L2.ps_expr he.h hs⟩
theorem ps_set {i:Nat} {pos':Pos} (hN:X.N.Nodup) (hi:X.N[i]?=some x) (hx:Loc X.env.scope x) (he:QE X e te) (hs:autoParam (swapsWith e (some (.Name x pos')) pos.line X.env=pure false) au0_._auto_1) (hf:X.fn x=true∨X.env.scope.names.lookup x=some .local:=by first | exact .inl rfl | exact .inr rfl | assumption) :
 QS X (.Assign [.Name x pos'] e pos) (tAsg te (gName i)):=⟨L2.ps_set hN hi hx he.h hs hf⟩
theorem ps_asg {tg:Expr} {g:TG} (he:QE X e te) (hg:QG X tg g) (hs:autoParam (swapsWithSole [tg] e pos.line X.env=pure false) au0_._auto_1) (hw:autoParam (swappedStores [tg] e X.env=pure none) au0_._auto_1)
 (h1:autoParam ((assignEach [tg] X.env).map (·.2)=[assign tg X.env]) au0_._auto_1):QS X (.Assign [tg] e pos) (tAsg te g):=⟨L2.ps_asg he.h hg.h hs hw h1⟩
theorem ps_par {i j:Nat} {y:Str} {ta:TA} {px py pt:Pos} {kt k2 pt2} (hc:X.calm=true) (hN:X.N.Nodup) (hi:X.N[i]?=some x) (hj:X.N[j]?=some y) (hij:i≠j)
 (hx:X.env.scope.names.lookup x=some .local) (hy:X.env.scope.names.lookup y=some .local) (ha:QA X [a,b] ta)
 (hw:swappedStores [.Tuple [.Name x px,.Name y py] kt pt] (.Tuple [a,b] k2 pt2) X.env=pure (some [x,y]))
 (hs:autoParam (swapsWithSole [.Tuple [.Name x px,.Name y py] kt pt] (.Tuple [a,b] k2 pt2) pos.line X.env=pure false) au0_._auto_1) :
 QS X (.Assign [.Tuple [.Name x px,.Name y py] kt pt] (.Tuple [a,b] k2 pt2) pos) (tPar i j ta):=⟨L2.ps_par hc hN hi hj hij hx hy ha.h hw hs⟩
theorem ps_if {ss ss':List Stmt} {tc:TT} (hc:QT X c tc) (ha:QSs X ss s1) (hb:QSs X ss' s2):QS X (.If c ss ss' pos) (tIfS tc s1 s2):=⟨L2.ps_if hc.h ha.h hb.h⟩
theorem ps_while {tc:TT} (hp:PassesOwn (model X.prog X.w) X.A X.env X.xe) (hc:QT X c tc) (hb:QSs X sts s1):QS X (.While c sts [] pos) (tWhile tc s1):=⟨L2.ps_while hp hc.h hb.h⟩
theorem ps_for {tg:Expr} {wi:TI} {g:TG} (hp:PassesOwn (model X.prog X.w) X.A X.env X.xe) (hc:X.calm=true) (hi:QI X tg e wi) (hg:QG X tg g) (hb:QSs X sts s1)
 (hs:autoParam (∀x,foldedSetIterable e X.env x=pure x) au2_._auto_1):QS X (.For tg e sts [] pos) (tFor wi g s1):=⟨L2.ps_for hp hc hi.h hg.h hb.h hs⟩
theorem pg_name {i:Nat} (hN:X.N.Nodup) (hi:X.N[i]?=some x) (hx:Loc X.env.scope x) (hf:X.fn x=true∨X.env.scope.names.lookup x=some .local:=by first | exact .inl rfl | exact .inr rfl | assumption):QG X (.Name x pos) (gName i):=⟨L2.pg_name hN hi hx hf⟩
theorem pgs_nil:QGs X [] gNil:=⟨L2.pgs_nil⟩
theorem pgs_cons {g:TG} {u:TGs} (h1:QG X e g) (h2:QGs X es u) (hs:autoParam ((assignEach (e::es) X.env).map (·.2)=assign e X.env::(assignEach es X.env).map (·.2)) au0_._auto_1):QGs X (e::es) (gCons g u):=⟨L2.pgs_cons h1.h h2.h hs⟩
theorem pgT (K:PySem.W.Frag) {k:Nat} {g:TGs} {n:Nat} (hc:X.calm=true) (h2:QGs X es g) (hn:autoParam ((assignEach es X.env).length=n) au0_._auto_1) (hst:autoParam ((assignEach es X.env).findIdx? (·.1)=none) au0_._auto_1) (h:autoParam (X.K=K) au0_._auto_1):QG X (.Tuple es k pos) (gTup K n g):=⟨My.pgT K hc h2.h hn hst h⟩
theorem pgL (K:PySem.W.Frag) {k:Nat} {g:TGs} {n:Nat} (hc:X.calm=true) (h2:QGs X es g) (hn:autoParam ((assignEach es X.env).length=n) au0_._auto_1) (hst:autoParam ((assignEach es X.env).findIdx? (·.1)=none) au0_._auto_1) (h:autoParam (X.K=K) au0_._auto_1):QG X (.Tuple es k pos) (gLst K n g):=⟨My.pgL K hc h2.h hn hst h⟩
theorem piL (K:PySem.W.Frag) {tg:Expr} (hl:QE X e te) (h:autoParam (X.K=K) au0_._auto_1):QI X tg e (iList K te):=⟨My.piL K hl.h h⟩
theorem piT (K:PySem.W.Frag) {tg:Expr} (hl:QE X e te) (h:autoParam (X.K=K) au0_._auto_1):QI X tg e (iTup K te):=⟨My.piT K hl.h h⟩
theorem pi_range1 {tg:Expr} (hg:Gl X "range") (hm:X.mg "range"=none) (ha:QA X [a] t) (hs:autoParam (starEach [a] X.env=[(false,eval a X.env)]) au0_._auto_1):QI X tg (.Call (.Name "range" p) [a] [] pos) (iRng1 t):=⟨L2.pi_range1 hg hm ha.h hs⟩
end
end Jd

namespace Jd
open PySem PySem.Spec PyProof.Rows L2 My
section
variable {X:Cx} {x:Str} {n:Int} {pos apos cpos:Pos} {o:Expr} {to:TE}
theorem pe_cn (hg:Gl X x) (C:Cn X.mg x n) (hd:autoParam ((x==("__debug__":Str))=false) au1_._auto_1):QE X (.Name x pos) (tC (.int n)):=⟨My.pe_cn hg C hd⟩
theorem pe_bits (ho:QE X o to) (hbase:autoParam (attributeBase o "bit_length" X.env (eval o X.env)=eval o X.env) au0_._auto_1) (hline:autoParam ((apos.endLine==cpos.line)=true) au0_._auto_1) :
 QE X (.Call (.Attribute o "bit_length" apos) [] [] cpos) (tUn (fun x H Q=>tyV X.K "int" x H∧([]:List V)=[]∧rBits x H Q) to):=⟨My.pe_bits ho.h hbase hline⟩
theorem pg_sub {i:Expr} {ti:TE} {ts:TSet} (ho:QE X o to) (hi:QE X i ti) (hs:PSet X ts)
 (ha:autoParam (∀v,assign (.Subscript o i pos) X.env v=(holding [v] (eval o X.env) >>= fun ov=>holding [v,ov] (eval i X.env) >>= fun iv=>standAt pos >>= fun _=>holding [v,ov,iv] (setItem ov iv v) >>= fun _=>release [v,ov,iv] [])) au2_._auto_1) :
 QG X (.Subscript o i pos) (gSub to ti ts):=⟨L2.pg_sub ho.h hi.h hs ha⟩
theorem pt_chain {a b c:Expr} {ta tb tc:TE} {op op':CmpOp} {r r':R2} (ho:OpR X (compareOp op) r) (ho':OpR X (compareOp op') r') (ha:QE X a ta) (hb:QE X b tb) (hc:QE X c tc)
 (hm:autoParam (lastMarks [op,op'] [b,c]=false) au3_._auto_1):QT X (.Compare a [op,op'] [b,c] pos) (tTest (tChain r r' ta tb tc)):=⟨L2.pt_chain ho ho' ha.h hb.h hc.h hm⟩
end
end Jd

namespace My
open PySem PySem.Spec PyProof.Rows L2 Mth
noncomputable def closL (cells:List (Str×Addr)):List (Str×NameKind)→List (Str×Addr)→List (Str×Addr)
 | [],cs=>cs
 | (y,k)::r,cs=>closL cells r (if k=.free then ((cells.lookup y).map fun c=>(y,c)).toList++cs else cs)
noncomputable def freeHas (cells:List (Str×Addr)) (names:List (Str×NameKind)):Bool:=names.all fun p=>!(p.2==NameKind.free)||(cells.lookup p.1).isSome
theorem closure_go {env:Env}:∀(names:List (Str×NameKind)) (cs:List (Str×Addr)),freeHas env.cells names=true →
 (forIn (m:=Sem) names cs fun x r=>match x with | (name,kind)=>if (kind==NameKind.free)=true then do let a ← cellOf env name;pure (ForInStep.yield ((name,a)::r)) else pure (ForInStep.yield r))=pure (closL env.cells names cs)
 | [],cs,_=>rfl
 | (y,k)::r,cs,h=>by
   have h2:freeHas env.cells r=true:=by
    unfold freeHas at h ⊢
    rw [List.all_cons,Bool.and_eq_true] at h
    exact h.2
   rw [List.forIn_cons]
   by_cases hk:k=.free
   ·subst hk
    have h1:(env.cells.lookup y).isSome=true:=by
     unfold freeHas at h
     rw [List.all_cons,Bool.and_eq_true] at h
     simpa using h.1
    obtain ⟨c,hc⟩:=Option.isSome_iff_exists.mp h1
    have ih:=closure_go r ((y,c)::cs) h2
    have e:cellOf env y=pure c:=by unfold cellOf;rw [hc]
    show (((if (NameKind.free==NameKind.free)=true then do let a ← cellOf env y;pure (ForInStep.yield ((y,a)::cs)) else pure (ForInStep.yield cs)):Sem _) >>= _)=_
    rw [if_pos (by rfl),e,pure_bind,pure_bind]
    show forIn (m:=Sem) r ((y,c)::cs) _=_
    rw [ih]
    show _=pure (closL env.cells r (if NameKind.free=.free then ((env.cells.lookup y).map fun c=>(y,c)).toList++cs else cs))
    rw [if_pos rfl,hc]
    rfl
   ·have ih:=closure_go r cs h2
    have hk':(k==NameKind.free)=false:=by simpa using hk
    show (((if (k==NameKind.free)=true then do let a ← cellOf env y;pure (ForInStep.yield ((y,a)::cs)) else pure (ForInStep.yield cs)):Sem _) >>= _)=_
    rw [hk',if_neg Bool.false_ne_true,pure_bind]
    show forIn (m:=Sem) r cs _=_
    rw [ih]
    show _=pure (closL env.cells r (if k=.free then _ else cs))
    rw [if_neg hk]
theorem closure_of {scope:Scope} {env:Env} (h:freeHas env.cells scope.names=true):closureFor scope env=pure (closL env.cells scope.names []):=by
 have e:=closure_go (env:=env) scope.names [] h
 show (forIn (m:=Sem) scope.names [] _ >>= fun cs=>pure cs)=_
 exact (congrArg (· >>= fun cs=>pure cs) e).trans (pure_bind _ _)
theorem closL_mem {cells:List (Str×Addr)}:∀(names:List (Str×NameKind)) (cs:List (Str×Addr)) (p:Str×Addr),p∈closL cells names cs→p∈cs∨cells.lookup p.1=some p.2
 | [],_,_,h=>.inl h
 | (y,k)::r,cs,p,h=>by
   rcases closL_mem r _ p h with q | q
   ·by_cases hk:k=.free
    ·rw [if_pos hk] at q
     rcases List.mem_append.mp q with z | z
     ·cases e:cells.lookup y with
      | none=>rw [e] at z;simp at z
      | some c=>rw [e] at z;simp at z;subst z;exact .inr e
     ·exact .inl z
    ·rw [if_neg hk] at q
     exact .inl q
   ·exact .inr q
theorem closL_has {cells:List (Str×Addr)}:∀(names:List (Str×NameKind)) (cs:List (Str×Addr)) (y:Str) (c:Addr),((y,NameKind.free)∈names∧cells.lookup y=some c)∨(y,c)∈cs→(y,c)∈closL cells names cs
 | [],_,_,_,h=>h.elim (fun z=>by simp at z) id
 | (z,k)::r,cs,y,c,h=>by
   refine closL_has r _ y c ?_
   rcases h with ⟨m,e⟩ | m
   ·rcases List.mem_cons.mp m with q | q
    ·cases q
     right
     rw [if_pos rfl,e]
     simp
    ·exact .inl ⟨q,e⟩
   ·right
    by_cases hk:k=.free
    ·rw [if_pos hk];exact List.mem_append_right _ m
    ·rw [if_neg hk];exact m
theorem lookup_in {α:Type}:∀{l:List (Str×α)} {x:Str} {v:α},l.lookup x=some v→(x,v)∈l
 | (y,u)::r,x,v,h=>by
   rw [List.lookup_cons] at h
   cases e:x==y with
   | true=>
     rw [e] at h
     cases h
     have:x=y:=by simpa using e
     subst this
     exact List.mem_cons_self
   | false=>
     rw [e] at h
     exact List.mem_cons_of_mem _ (lookup_in h)
theorem lookup_ex {α:Type}:∀{l:List (Str×α)} {x:Str} {v:α},(x,v)∈l→∃u,l.lookup x=some u
 | (y,u)::r,x,v,h=>by
   rw [List.lookup_cons]
   cases e:x==y with
   | true=>exact ⟨_,rfl⟩
   | false=>
     rcases List.mem_cons.mp h with q | q
     ·cases q;simp at e
     ·exact lookup_ex q
theorem closL_look {cells:List (Str×Addr)} {names:List (Str×NameKind)} {y:Str} {c:Addr} (h:(closL cells names []).lookup y=some c):cells.lookup y=some c:=
 (closL_mem names [] (y,c) (lookup_in h)).elim (fun z=>by simp at z) id
theorem closL_some {cells:List (Str×Addr)} {names:List (Str×NameKind)} {y:Str} {c:Addr} (h:(y,NameKind.free)∈names) (e:cells.lookup y=some c):(closL cells names []).lookup y=some c:=by
 obtain ⟨u,q⟩:=lookup_ex (closL_has names [] y c (.inl ⟨h,e⟩))
 rw [q]
 rw [closL_look q] at e
 exact e
noncomputable def Caps (X:Cx) (scope:Scope):List Str→List Nat→Prop
 | [],[]=>True
 | y::ys,j::js=>(X.N[j]?=some y∧X.env.kindOf y=some .cell∧scope.names.lookup y=some .free∧(relabel scope X.env).names.lookup y=some .cell)∧Caps X scope ys js
 | _,_=>False
theorem free_cell {cells:List (Str×Addr)} {names:List (Str×NameKind)} {y:Str} (h:freeHas cells names=true) (m:(y,NameKind.free)∈names):∃c,cells.lookup y=some c:=by
 unfold freeHas at h
 have q:=List.all_eq_true.mp h _ m
 exact Option.isSome_iff_exists.mp (by simpa using q)
theorem Caps.ok {X:Cx} {scope:Scope} (h:freeHas X.env.cells scope.names=true):∀{ys:List Str} {js:List Nat},Caps X scope ys js→CapOk X scope (closL X.env.cells scope.names []) ys js
 | [],[],_=>trivial
 | y::ys,j::js,⟨⟨a,b,c,d⟩,r⟩=>by
   have m:=lookup_in c
   obtain ⟨e,he⟩:=free_cell h m
   exact ⟨⟨a,b,d,by rw [closL_some m he,he]⟩,Caps.ok h r⟩
theorem relabel_has {scope:Scope} {env:Env} (h:freeHas env.cells scope.names=true) (hcell:∀y∈scope.names,y.2≠.cell) (y:Str)
 (q:(relabel scope env).names.lookup y=some .cell∨(relabel scope env).names.lookup y=some .free):∃c,(closL env.cells scope.names []).lookup y=some c:=by
 have m:(y,NameKind.free)∈scope.names:=by
  rcases q with q | q
  all_goals
   have m:=lookup_in q
   unfold relabel at m
   obtain ⟨⟨n,k⟩,hm,e⟩:=List.mem_map.mp m
   dsimp only at e
   split at e
   ·rename_i hc
    rw [Bool.and_eq_true,Bool.and_eq_true] at hc
    have hk:k=.free:=by simpa using hc.1.1
    subst hk
    cases e
    first | exact hm | done
   ·cases e
    first | exact hm | exact absurd rfl (hcell _ hm)
 obtain ⟨c,hc⟩:=free_cell h m
 exact ⟨c,closL_some m hc⟩
section
variable {X:Cx} {elt iter tg:Expr} {ifs:List Expr} {pos:Pos} {scope:Scope} {wi:TI} {te:TE} {tt:TT} {g:TG} {O N':List Str} {cap:List Nat} {n:Nat}
theorem pe_compC (hc:X.calm=true) (hi:PI X tg iter wi)
 (hg:∀(C:Addr) (s0:Shared) (H0:Hp) (ex':List Addr) (pn':List (Addr×Obj)),PG (cxComp X (O++N') scope (closL X.env.cells scope.names []) C s0 H0 ex' pn') tg g)
 (htt:∀(C:Addr) (s0:Shared) (H0:Hp) (ex':List Addr) (pn':List (Addr×Obj)),PTs (cxComp X (O++N') scope (closL X.env.cells scope.names []) C s0 H0 ex' pn') ifs tt)
 (helt:∀(C:Addr) (s0:Shared) (H0:Hp) (ex':List Addr) (pn':List (Addr×Obj)),PE (cxComp X (O++N') scope (closL X.env.cells scope.names []) C s0 H0 ex' pn') elt te)
 (hO:O.length=n) (hcap:Caps X scope N' cap) (hf:freeHas X.env.cells scope.names=true) (hcell:∀y∈scope.names,y.2≠.cell) (hkind:scope.kind=.function) (hnames:∀y∈scope.names,y.2=.local→scope.names.lookup y.1=some .local)
 (hs:autoParam (∀z,foldedSetIterable iter X.env z=pure z) au2_._auto_1) :
 PE X (.ListComp elt [⟨tg,iter,ifs,0⟩] scope pos) (tComp wi n cap g tt te):=
 pe_comp hc hi hg htt helt hO (hcap.ok hf) (closure_of hf) hcell hkind hnames (fun _ _=>closL_look) (relabel_has hf hcell) hs
end
section
variable {X:Cx} {elt iter tg:Expr} {ifs:List Expr} {pos:Pos} {scope:Scope} {wi:TI} {te:TE} {tt:TT} {g:TG} {O N':List Str} {cap:List Nat} {n:Nat}
theorem ps_compC {i:Nat} {x:Str} {pos' spos:Pos} (hN:X.N.Nodup) (hix:X.N[i]?=some x) (hx:Loc X.env.scope x) (hc:X.calm=true) (hi:PI X tg iter wi)
 (hg:∀(C:Addr) (s0:Shared) (H0:Hp) (ex':List Addr) (pn':List (Addr×Obj)),PG (cxComp X (O++N') scope (closL X.env.cells scope.names []) C s0 H0 ex' pn') tg g)
 (htt:∀(C:Addr) (s0:Shared) (H0:Hp) (ex':List Addr) (pn':List (Addr×Obj)),PTs (cxComp X (O++N') scope (closL X.env.cells scope.names []) C s0 H0 ex' pn') ifs tt)
 (helt:∀(C:Addr) (s0:Shared) (H0:Hp) (ex':List Addr) (pn':List (Addr×Obj)),PE (cxComp X (O++N') scope (closL X.env.cells scope.names []) C s0 H0 ex' pn') elt te)
 (hO:O.length=n) (hcap:Caps X scope N' cap) (hf:freeHas X.env.cells scope.names=true) (hcell:∀y∈scope.names,y.2≠.cell) (hkind:scope.kind=.function) (hnames:∀y∈scope.names,y.2=.local→scope.names.lookup y.1=some .local)
 (hsw:swapsWith (.ListComp elt [⟨tg,iter,ifs,0⟩] scope pos) (some (.Name x pos')) spos.line X.env=pure true)
 (hs:autoParam (∀z,foldedSetIterable iter X.env z=pure z) au2_._auto_1) (hfn:X.fn x=true∨X.env.scope.names.lookup x=some .local:=by first | exact .inl rfl | exact .inr rfl | assumption) :
 PS X (.Assign [.Name x pos'] (.ListComp elt [⟨tg,iter,ifs,0⟩] scope pos) spos) (tAsg (tComp wi n cap g tt te) (gName i)):=
 ps_comp hN hix hx hc hi hg htt helt hO (hcap.ok hf) (closure_of hf) hcell hkind hnames (fun _ _=>closL_look) (relabel_has hf hcell) hsw hs hfn
end
noncomputable def rm (D:Addr) (H:Hp):Hp:=fun b=>if b=D then none else H b
theorem rm_at {D:Addr} {H:Hp} {b:Addr} (h:b≠D):rm D H b=H b:=if_neg h
theorem rm_same {D:Addr} {H:Hp}:Same (rm D H) H:=fun b o e=>by
 unfold rm at e
 by_cases h:b=D
 ·rw [if_pos h] at e;cases e
 ·rw [if_neg h] at e;exact e
theorem rm_rm {D:Addr} {H H':Hp} (s:Same H H'):Same (rm D H) (rm D H'):=fun b o e=>by
 unfold rm at e ⊢
 by_cases h:b=D
 ·rw [if_pos h] at e;cases e
 ·rw [if_neg h] at e ⊢;exact s b o e
theorem rm_upd {D:Addr} {H:Hp} {o:HO}:rm D (upd H D o)=rm D H:=by
 funext b
 unfold rm
 by_cases h:b=D
 ·rw [if_pos h,if_pos h]
 ·rw [if_neg h,if_neg h,upd_ne h]
theorem rm_tup {D p:Addr} {H:Hp} {xs ys:List V} (hD:H D=some (.lst ys)) (h:H p=some (.tup xs)):rm D H p=some (.tup xs):=by
 rw [rm_at (fun e=>by rw [e,hD] at h;cases h)];exact h
theorem rm_up (D:Addr) (H:Hp) (o:HO):Same (rm D H) (upd H D o):=fun b u e=>by
 unfold rm at e
 by_cases h:b=D
 ·rw [if_pos h] at e;cases e
 ·rw [if_neg h] at e;rw [upd_ne h];exact e
theorem ix_last {n m:Nat} (h:n=m+1):ixN n (-1)=some m:=by
 subst h
 unfold ixN
 rw [if_neg (by (first | lia | omega)),if_pos (by (first | lia | omega))]
 congr 1
 (first | lia | omega)
theorem ix_nat {n:Nat} {i:Int} (h0:0≤i) (h:i<(n:Int)):ixN n i=some i.toNat:=by
 unfold ixN
 rw [if_pos h0,if_pos h]
structure Tells (J:It) (ok:Hp→Prop) (xs:List V):Prop where
 go:∀i H,ok H→i<xs.length→J.go i H∧∀x H',J.yld i H x H'→H'=H∧xs[i]?=some x
 stop:∀H,ok H→J.stop xs.length H
theorem tells_list {K:PySem.W.Frag} {a:Addr} {xs:List V}:Tells (Itl K a) (fun H=>SqL K H a xs) xs:=
 ⟨fun i H h hi=>⟨⟨xs,xs[i],h,by simp [hi]⟩,fun x H' y=>⟨y.1,y.2 xs h⟩⟩,fun H h=>⟨xs,h,Nat.le_refl _⟩⟩
theorem tells_tup {K:PySem.W.Frag} {a:Addr} {xs:List V}:Tells (Itt K a) (fun H=>SqT K H a xs) xs:=
 ⟨fun i H h hi=>⟨⟨xs,xs[i],h,by simp [hi]⟩,fun x H' y=>⟨y.1,y.2 xs h⟩⟩,fun H h=>⟨xs,h,Nat.le_refl _⟩⟩
theorem tells_rng {lo:Int} {n:Nat}:Tells (Itr lo n) (fun _=>True) ((List.range n).map fun (i:Nat)=>V.int (lo+(i:Int))):=
 ⟨fun i H h hi=>⟨show i<n by simpa using hi,fun x H' y=>⟨y.1,by
  have hi':i<n:=by simpa using hi
  rw [List.getElem?_map,List.getElem?_range hi']
  exact congrArg some y.2.symm⟩⟩,fun H h=>by show n≤_;simp⟩
noncomputable def CompB (n:Nat) (cap:List Nat) (g:TG) (tt:TT) (te:TE) (σ:L2.St) (Q:VK) (J:It) (H1:Hp):Prop:=∀D,H1 D=none→∃W:Nat→Nat→List V→Hp→Prop,(∃m,W 0 m [] (upd H1 D (.lst []))) ∧
 ∀i m xs H2,W i m xs H2→H2 D=some (.lst xs)∧((J.stop i H2∧Q (.ref D) H2)∨(J.go i H2∧xs.length<sizeLine∧∀x H3 σ0,σ0.length=n→J.yld i H2 x H3 →
  g x (σ0++capV cap σ) H3 fun σ2 H4=>(∃σ1,σ1.length=n∧σ2=σ1++capV cap σ)∧tt σ2 H4 fun b H5=>if b=true then te σ2 H5 fun y H6=>H6 D=some (.lst xs)∧∃m',m'<m∧W (i+1) m' (xs++[y]) (upd H6 D (.lst (xs++[y])))
    else ∃m',m'<m∧W (i+1) m' xs H5))
section
variable {wi:TI} {n:Nat} {cap:List Nat} {g:TG} {tt:TT} {te:TE} {σ:L2.St} {H:Hp} {Q:VK} {K:PySem.W.Frag}
theorem r_comp (h:wi σ H fun J H1=>CompB n cap g tt te σ Q J H1):tComp wi n cap g tt te σ H Q:=h
theorem r_rng1 {ta:TA} {R:It→Hp→Prop} (h:ta σ H fun vs H1=>∃j:Int,vs=[.int j]∧-(2 ^ 62)≤j∧j<2 ^ 62∧R (Itr 0 j.toNat) H1):iRng1 ta σ H R:=h
theorem r_yes {B:Bool→Hp→Prop} (h:B true H):tYes σ H B:=h
theorem compB_of {J:It} {ok:Hp→Prop} {xs:List V} (T:Tells J ok xs) (hok:∀H2,Same H H2→ok H2) (hl:xs.length≤1000000) (P:Nat→List V→Hp→Prop) (h0:P 0 [] H)
 (step:∀(D:Addr) (i:Nat) (x:V) (ys:List V) (H2:Hp) (σ0:L2.St) (N:VK) (N0:Hp→Prop),σ0.length=n→H D=none→H2 D=some (.lst ys)→Same H H2→xs[i]?=some x→ys.length≤i→P i ys (rm D H2) →
   (∀y H6,Same H2 H6→P (i+1) (ys++[y]) (rm D H6)→N y H6)→(∀H5,Same H2 H5→P (i+1) ys (rm D H5)→N0 H5) →
   g x (σ0++capV cap σ) H2 fun σ2 H4=>(∃σ1,σ1.length=n∧σ2=σ1++capV cap σ)∧tt σ2 H4 fun b H5=>if b=true then te σ2 H5 N else N0 H5)
 (done:∀(D:Addr) (ys:List V) (H2:Hp),H D=none→H2 D=some (.lst ys)→Same H H2→ys.length≤xs.length→P xs.length ys (rm D H2)→Q (.ref D) H2):CompB n cap g tt te σ Q J H:=by
 intro D hD
 refine ⟨fun i m ys H2=>H2 D=some (.lst ys)∧Same H H2∧ys.length≤i∧i≤xs.length∧m=xs.length-i∧P i ys (rm D H2),⟨xs.length,upd_same,same_at (Same.refl _) hD,Nat.zero_le _,Nat.zero_le _,rfl,?_⟩,?_⟩
 ·rw [rm_upd]
  have e:rm D H=H:=by
   funext b
   by_cases h:b=D
   ·rw [h,hD];exact if_pos rfl
   ·exact rm_at h
  rw [e];exact h0
 ·rintro i m ys H2 ⟨e,s,hy,hi,rfl,p⟩
  refine ⟨e,?_⟩
  by_cases hlt:i<xs.length
  ·obtain ⟨go,yld⟩:=T.go i H2 (hok H2 s) hlt
   refine .inr ⟨go,Nat.lt_of_le_of_lt (Nat.le_trans (Nat.le_trans hy hi) hl) (by decide),fun x H3 σ0 h0 y=>?_⟩
   obtain ⟨rfl,hx⟩:=yld x H3 y
   refine step D i x ys _ σ0 _ _ h0 hD e s hx hy p (fun y H6 s6 p6=>?_) fun H5 s5 p5=>?_
   ·refine ⟨s6 _ _ e,xs.length-(i+1),by (first | lia | omega),upd_same,same_at (s.trans s6) hD,?_,by (first | lia | omega),rfl,?_⟩
    ·rw [List.length_append,List.length_singleton];(first | lia | omega)
    ·rw [rm_upd];exact p6
   ·exact ⟨xs.length-(i+1),by (first | lia | omega),s5 _ _ e,s.trans s5,by (first | lia | omega),by (first | lia | omega),rfl,p5⟩
  ·have ei:i=xs.length:=by (first | lia | omega)
   subst ei
   exact .inl ⟨T.stop H2 (hok H2 s),done D ys H2 hD e s hy p⟩
theorem r_own1 {x:V} {σ0:L2.St} {R:L2.St→Hp→Prop} (h0:σ0.length=1) (h:R (some x::capV cap σ) H):gName 0 x (σ0++capV cap σ) H fun σ2 H4=>(∃σ1,σ1.length=1∧σ2=σ1++capV cap σ)∧R σ2 H4:=by
 match σ0,h0 with
 | [v],_=>exact ⟨⟨[some x],rfl,rfl⟩,h⟩
theorem r_own2 {p:Addr} {x y:V} {σ0:L2.St} {R:L2.St→Hp→Prop} (h0:σ0.length=2) (hp:H p=some (.tup [x,y])) (h:R (some x::some y::capV cap σ) H) :
 gTup K 2 (gCons (gName 0) (gCons (gName 1) gNil)) (.ref p) (σ0++capV cap σ) H fun σ2 H4=>(∃σ1,σ1.length=2∧σ2=σ1++capV cap σ)∧R σ2 H4:=by
 match σ0,h0 with
 | [v,u],_=>exact ⟨p,_,rfl,SqT.of hp,rfl,x,_,rfl,y,_,rfl,rfl,⟨[some x,some y],rfl,rfl⟩,h⟩
end
end My
namespace Jd
open PySem PySem.Spec PyProof.Rows L2 My
structure QTs (X:Cx) (ifs:List Expr) (t:TT):Prop where
 h:PTs X ifs t
section
variable {X:Cx} {c elt iter tg:Expr} {ifs:List Expr} {pos:Pos} {scope:Scope} {wi:TI} {te:TE} {tt:TT} {g:TG} {O N':List Str} {cap:List Nat} {n:Nat}
theorem pts_nil:QTs X [] tYes:=⟨My.pts_nil⟩
theorem pts_one (h:QT X c tt):QTs X [c] tt:=⟨My.pts_one h.h⟩
theorem pe_comp (hc:X.calm=true) (hi:QI X tg iter wi)
 (hg:∀(C:Addr) (s0:Shared) (H0:Hp) (ex':List Addr) (pn':List (Addr×Obj)),QG (cxComp X (O++N') scope (closL X.env.cells scope.names []) C s0 H0 ex' pn') tg g)
 (htt:∀(C:Addr) (s0:Shared) (H0:Hp) (ex':List Addr) (pn':List (Addr×Obj)),QTs (cxComp X (O++N') scope (closL X.env.cells scope.names []) C s0 H0 ex' pn') ifs tt)
 (helt:∀(C:Addr) (s0:Shared) (H0:Hp) (ex':List Addr) (pn':List (Addr×Obj)),QE (cxComp X (O++N') scope (closL X.env.cells scope.names []) C s0 H0 ex' pn') elt te)
 (hO:O.length=n) (hcap:Caps X scope N' cap) (hf:freeHas X.env.cells scope.names=true) (hcell:∀y∈scope.names,y.2≠.cell) (hkind:scope.kind=.function) (hnames:∀y∈scope.names,y.2=.local→scope.names.lookup y.1=some .local)
 (hs:autoParam (∀z,foldedSetIterable iter X.env z=pure z) au2_._auto_1) :
 QE X (.ListComp elt [⟨tg,iter,ifs,0⟩] scope pos) (tComp wi n cap g tt te):=
 ⟨My.pe_compC hc hi.h (fun C s0 H0 ex' pn'=>(hg C s0 H0 ex' pn').h) (fun C s0 H0 ex' pn'=>(htt C s0 H0 ex' pn').h) (fun C s0 H0 ex' pn'=>(helt C s0 H0 ex' pn').h) hO hcap hf hcell hkind hnames hs⟩
theorem ps_comp {i:Nat} {x:Str} {pos' spos:Pos} (hN:X.N.Nodup) (hix:X.N[i]?=some x) (hx:Loc X.env.scope x) (hc:X.calm=true) (hi:QI X tg iter wi)
 (hg:∀(C:Addr) (s0:Shared) (H0:Hp) (ex':List Addr) (pn':List (Addr×Obj)),QG (cxComp X (O++N') scope (closL X.env.cells scope.names []) C s0 H0 ex' pn') tg g)
 (htt:∀(C:Addr) (s0:Shared) (H0:Hp) (ex':List Addr) (pn':List (Addr×Obj)),QTs (cxComp X (O++N') scope (closL X.env.cells scope.names []) C s0 H0 ex' pn') ifs tt)
 (helt:∀(C:Addr) (s0:Shared) (H0:Hp) (ex':List Addr) (pn':List (Addr×Obj)),QE (cxComp X (O++N') scope (closL X.env.cells scope.names []) C s0 H0 ex' pn') elt te)
 (hO:O.length=n) (hcap:Caps X scope N' cap) (hf:freeHas X.env.cells scope.names=true) (hcell:∀y∈scope.names,y.2≠.cell) (hkind:scope.kind=.function) (hnames:∀y∈scope.names,y.2=.local→scope.names.lookup y.1=some .local)
 (hsw:swapsWith (.ListComp elt [⟨tg,iter,ifs,0⟩] scope pos) (some (.Name x pos')) spos.line X.env=pure true)
 (hs:autoParam (∀z,foldedSetIterable iter X.env z=pure z) au2_._auto_1) (hfn:X.fn x=true∨X.env.scope.names.lookup x=some .local:=by first | exact .inl rfl | exact .inr rfl | assumption) :
 QS X (.Assign [.Name x pos'] (.ListComp elt [⟨tg,iter,ifs,0⟩] scope pos) spos) (tAsg (tComp wi n cap g tt te) (gName i)):=
 ⟨My.ps_compC hN hix hx hc hi.h (fun C s0 H0 ex' pn'=>(hg C s0 H0 ex' pn').h) (fun C s0 H0 ex' pn'=>(htt C s0 H0 ex' pn').h) (fun C s0 H0 ex' pn'=>(helt C s0 H0 ex' pn').h) hO hcap hf hcell hkind hnames hsw hs hfn⟩
end
end Jd

namespace My
open PySem PySem.Spec PyProof.Rows L2 Mth
theorem fm_congr {α β:Type} {f g:α→Option β}:∀(l:List α),(∀x∈l,f x=g x)→l.filterMap f=l.filterMap g
 | [],_=>rfl
 | x::l,h=>by
   rw [List.filterMap_cons,List.filterMap_cons,h x List.mem_cons_self,fm_congr l fun y hy=>h y (List.mem_cons_of_mem _ hy)]
theorem pick_rev (its:List Value):slicePick its.toArray none none (some (-1))=its.reverse.toArray:=by
 have hb:sliceBounds none none (some (-1)) its.toArray.size=((its.length:Int)-1,-1,-1):=by
  simp [sliceBounds]
 unfold slicePick
 rw [hb]
 show (List.filterMap (fun x=>its.toArray[x]?) (sliceRange ((its.length:Int)-1) (-1) (-1))).toArray=_
 congr 1
 have hr:sliceRange ((its.length:Int)-1) (-1) (-1)=(List.range its.length).map fun k=>its.length-1-k:=by
  unfold sliceRange
  by_cases h0:its.length=0
  ·rw [h0];rfl
  ·have hc:(if (-1:Int)>0 then (if ((its.length:Int)-1) < -1 then (-1-((its.length:Int)-1)+-1-1) / -1 else 0) else (if ((its.length:Int)-1)>-1 then (((its.length:Int)-1) - -1 - -1-1)/(- -1) else 0))=(its.length:Int):=by
    rw [if_neg (by decide),if_pos (by (first | lia | omega))]
    have:(((its.length:Int)-1) - -1 - -1-1)=its.length:=by (first | lia | omega)
    rw [this]
    show (its.length:Int)/1=_
    exact Int.ediv_one _
   simp only [hc,Int.toNat_natCast]
   refine List.map_congr_left fun k hk=>?_
   have:=List.mem_range.mp hk
   (first | lia | omega)
 rw [hr]
 refine List.ext_getElem? fun i=>?_
 rw [List.filterMap_map]
 have hall:List.filterMap ((fun x=>its.toArray[x]?) ∘ fun k=>its.length-1-k) (List.range its.length)=(List.range its.length).map fun k=>its.getD (its.length-1-k) .none:=by
  rw [← List.filterMap_eq_map]
  refine fm_congr _ fun k hk=>?_
  have hk':=List.mem_range.mp hk
  have:its.length-1-k<its.length:=by (first | lia | omega)
  simp [this]
 rw [hall]
 by_cases hi:i<its.length
 ·rw [List.getElem?_map,List.getElem?_range hi,List.getElem?_reverse hi]
  have:its.length-1-i<its.length:=by (first | lia | omega)
  simp [this]
 ·rw [List.getElem?_eq_none (by simpa using hi),List.getElem?_eq_none (by simpa using hi)]
noncomputable def tRev (K:PySem.W.Frag) (te ts:TE):TE:=fun σ H Q=>te σ H fun x H1=>ts σ H1 fun z H2=>∃a xs,x=.ref a∧z=.int (-1)∧SqL K H2 a xs∧Nw .lst xs.reverse H2 Q
section
variable {X:Cx} {e st:Expr} {te ts:TE} {pos p2:Pos}
theorem pe_rev (K:PySem.W.Frag) (he:PE X e te) (hst:PE X st ts) (hK:autoParam (X.K=K) au0_._auto_1):PE X (.Subscript e (.Slice none none (some st) p2) pos) (tRev K te ts):=by
 subst hK
 intro pins s σ H Q I h
 refine Subscript_ (thn (he pins s σ H _ I h) fun v s1 ⟨x,H1,I1,r1,q1⟩=>?_)
 refine wpAny_Slice ?_
 rw [evalPart_none]
 refine wpAny_pure ?_
 refine wpAny_pure ?_
 rw [evalPart_some]
 refine thn (hst pins s1 σ H1 _ I1 q1) fun vs s3 ⟨z,H3,I3,rz,q3⟩=>?_
 obtain ⟨a,xs,rfl,rfl,hq,hz,hn⟩:=q3
 obtain ⟨t,rfl⟩:=rz
 cases r1
 have I4:Inv X pins σ H3 { s3 with heap:=s3.heap.push { cls:=.type "slice",data:=.fields #[.none,.none,.int (-1) t] } }:=I3.kept (t':=s3.toks) fun b ob q=>Heap.get?_push_of_some _ q
 obtain ⟨its,r,ht,hsz⟩:=I4.list hq
 have hlen:=r.length
 show wpAny (model X.prog X.w) X.A (subscriptTail e (.Slice none none (some st) p2) (.ref a) (.ref s3.heap.objs.size)) (EP X pins σ Q) X.xe { s3 with heap:=s3.heap.push { cls:=.type "slice",data:=.fields #[.none,.none,.int (-1) t] } }
 refine tail_any (ops:=[.ref a,.ref s3.heap.objs.size]) ht.isList.typeIs slot_list_getitem.lookup ?_ (by with_unfolding_all rfl)
 refine wpAny_getItem_list_slice ht.isList (Heap.IsSliceOf.new ..) .none .none (.int (-1) t) (by decide) ?_ (by rw [List.size_toArray] <;> (first | lia | omega))
 rw [pick_rev]
 refine ⟨.ref _,_,I4.laid (t':=s3.toks) (o:=.lst xs.reverse) (fun b ob q=>Heap.get?_push_of_some _ q) (Nat.le_refl _) ?_,rfl,hn _ (I4.hok.fresh (Nat.le_refl _))⟩
 exact ⟨hz,_,0,r.reverse,Heap.get?_push_size _ rfl⟩
end
section
variable {σ:L2.St} {H:Hp} {Q:VK} {K:PySem.W.Frag} {te ts:TE} {x z:V}
theorem r_rev (h:te σ H fun x H1=>ts σ H1 fun z H2=>∃a xs,x=.ref a∧z=.int (-1)∧SqL K H2 a xs∧Nw .lst xs.reverse H2 Q):tRev K te ts σ H Q:=h
end
end My
namespace Jd
open PySem PySem.Spec PyProof.Rows L2 My
theorem pe_rev {X:Cx} {e st:Expr} {te ts:TE} {pos p2:Pos} (K:PySem.W.Frag) (he:QE X e te) (hst:QE X st ts) (hK:autoParam (X.K=K) au0_._auto_1):QE X (.Subscript e (.Slice none none (some st) p2) pos) (tRev K te ts):=⟨My.pe_rev K he.h hst.h hK⟩
end Jd

namespace My
open PySem PySem.Spec PyProof.Rows L2 Mth
section
variable {X:Cx} {tg a:Expr} {ta:TA} {p pos:Pos}
end
end My
namespace Jd
open PySem PySem.Spec PyProof.Rows L2 My
end Jd

namespace My
open PySem PySem.Spec PyProof.Rows L2 Mth
end My

namespace My
open PySem PySem.Spec PyProof.Rows L2 Mth
section
variable {P:Program} {w:World} {K:PySem.W.Frag} {mg:Str→Option Value} {base:Heap} {N:List Str} {qual:Str} {scope:Scope} {f:Addr} {cd:Value} {A:Around} {outer:List Env} {s0:Shared} {H0:Hp} {E:XK}
end
section
variable {P:Program} {w:World} {K:PySem.W.Frag} {mg:Str→Option Value} {base:Heap} {N:List Str} {qual:Str} {scope:Scope} {f:Addr} {cd:Value} {A:Around} {outer:List Env} {s0:Shared} {H0:Hp} {E:XK}
end
section
variable {X:Cx} {k:Nat} {x:Str} {ps:List Str} {sp:Sp} {p pos:Pos} {e:Expr} {es:List Expr} {t:TA} {E:XK}
end
section
variable {X:Cx} {pins:List (Addr×Obj)} {σ:L2.St} {H:Hp} {s:Shared}
end
section
variable {X:Cx} {body suite:List Stmt} {b0:Stmt} {tb:XK→TS} {ts:TS} {x:Str} {Cc:Addr} {np hpos pos:Pos}
end
section
variable {σ:L2.St} {H:Hp} {Q:VK} {D:Ends}
end
end My
namespace Jd
open PySem PySem.Spec PyProof.Rows L2 My
section
variable {P:Program} {w:World} {K:PySem.W.Frag} {mg:Str→Option Value} {base:Heap} {N:List Str} {qual:Str} {scope:Scope} {f:Addr} {cd:Value} {A:Around} {outer:List Env} {s0:Shared} {H0:Hp} {E:XK}
end
section
variable {X:Cx} {k:Nat} {x:Str} {ps:List Str} {sp:Sp} {p pos:Pos} {e:Expr} {es:List Expr} {t:TA} {E:XK}
end
section
variable {X:Cx} {body suite:List Stmt} {b0:Stmt} {tb:XK→TS} {ts:TS} {x:Str} {Cc:Addr} {np hpos pos:Pos}
end
end Jd

namespace My
open PySem PySem.Spec PyProof.Rows L2 Mth
section
variable {X:Cx} {body suite:List Stmt} {b0:Stmt} {tb:XK→TS} {ts:Addr→Value→Option Addr→TS} {x nm:Str} {j:Nat} {Cc:Addr} {np hpos pos:Pos}
end
section
variable {X:Cx} {body suite:List Stmt} {b0:Stmt} {tb:XK→TS} {ts:Addr→Value→TS} {x nm:Str} {j:Nat} {Cc:Addr} {np hpos pos:Pos}
end
section
variable {σ:L2.St} {H:Hp} {Q:VK} {D:Ends}
end
end My
namespace Jd
open PySem PySem.Spec PyProof.Rows L2 My
section
variable {X:Cx} {body suite:List Stmt} {b0:Stmt} {tb:XK→TS} {ts:Addr→Value→TS} {x nm:Str} {j:Nat} {Cc:Addr} {np hpos pos:Pos}
end
end Jd

namespace My
open PySem PySem.Spec PyProof.Rows L2 Mth
section
variable {X:Cx}
end
section
variable {prog:Program} {w:World} {A:Around} {E:Value→Shared→Prop} {h:Heap} {g:Array GenState} {d:Drawn} {tk:Nat} {os:OsState}
variable {nm q:Str} {C N e t0:Addr} {dx:Option Addr} {bs bm bmB:List Value} {hdct:Bool} {sn:List Str} {sub:List Value} {ab:Bool} {col:Option Bool} {dd:Option Addr} {k0 k1 k2 k3 k5:Option Value} {B newId initId:String}
end
section
variable {prog:Program} {w:World} {A:Around} {E:Value→Shared→Prop} {s:Shared} {env:Env}
variable {nm q:Str} {C N:Addr} {bs bm bmB:List Value} {hdct:Bool} {sn:List Str} {sub:List Value} {ab:Bool} {col:Option Bool} {dd:Option Addr} {k0 k1 k2 k3 k5:Option Value} {B newId initId:String}
end
end My

namespace My
open PySem PySem.Spec PyProof.Rows L2 Mth
section
variable {prog:Program} {w:World} {A:Around} {E:Value→Shared→Prop} {h:Heap} {g:Array GenState} {d:Drawn} {tk:Nat} {os:OsState} {K:PySem.W.Frag}
variable {nm q:Str} {C N e t0:Addr} {bs bm bmB:List Value} {sn:List Str} {sub:List Value} {ab:Bool} {col:Option Bool} {dd:Option Addr} {k0 k1 k2 k3 k5:Option Value} {B newId owner:String} {name:Str} {v:Value}
end
end My

namespace My
open PySem PySem.Spec PyProof.Rows L2 Mth
noncomputable def ownInit (K:PySem.W.Frag) (C fI:Addr):Bool:=match K.lookup C with
 | some ⟨.type "type",_,.cls cd,sl⟩=>(match cd.mro,sl.toList with
   | .ref C'::bm,[_,_,_,_,some (.builtin n),_]=>C'==C&&n == "ValueError.__new__"&&!cd.hasDel&&cd.hasDict&&PySem.W.tailIn K [.type "ValueError",.type "Exception",.type "BaseException",.type "object"] bm&&PySem.W.nsOkIn K cd.ns&&PySem.W.nsIn K cd.ns "__init__"==some (some (.ref fI))
   | _,_=>false)
 | _=>false
section
variable {X:Cx}
end
end My

namespace My
open PySem PySem.Spec PyProof.Rows L2 Mth
section
variable {X:Cx}
end
section
variable {P:Program} {w:World} {K:PySem.W.Frag} {mg:Str→Option Value} {base:Heap} {N:List Str} {qual:Str} {scope:Scope} {f:Addr} {cd:Value} {A:Around} {outer:List Env} {s0:Shared} {H0:Hp} {E:XK}
end
end My

namespace My
open PySem PySem.Spec PyProof.Rows PySem.W
section
variable {prog:Program} {w:World} {A:Around} {E:Value→Shared→Prop} {s:Shared} {K:PySem.W.Frag} {x C:Addr} {ox:Obj} {od:Option Obj} {name:Str} {expr:Bool} {Q:Value→Shared→Prop} {v:Value}
end
end My
namespace My
open PySem PySem.Spec PyProof.Rows L2 Mth
section
variable {X:Cx}
end
end My
namespace My
open PySem PySem.Spec PyProof.Rows L2 Mth
section
open PySem.W
variable {prog:Program} {w:World} {A:Around} {E:Value→Shared→Prop} {s:Shared} {K:PySem.W.Frag} {x C:Addr} {ox:Obj} {od:Option Obj}
end
end My

namespace Jd
open PySem PySem.Spec PyProof.Rows L2 My
section
variable {X:Cx}
end
section
variable {P:Program} {w:World} {K:PySem.W.Frag} {mg:Str→Option Value} {base:Heap} {N:List Str} {qual:Str} {scope:Scope} {f:Addr} {cd:Value} {A:Around} {outer:List Env} {s0:Shared} {H0:Hp} {E:XK}
end
section
variable {X:Cx} {body suite:List Stmt} {b0:Stmt} {tb:XK→TS} {ts:Addr→Value→Option Addr→TS} {x nm:Str} {j:Nat} {Cc:Addr} {np hpos pos:Pos}
end
end Jd
namespace My
open PySem PySem.Spec PyProof.Rows L2 Mth
section
variable {σ:L2.St} {H:Hp} {Q:VK} {K:PySem.W.Frag} {ta:TA} {te to:TE}
end
end My

namespace My
open PySem PySem.Spec PyProof.Rows L2 Mth
section
variable {X:Cx} {Xe:Value→Shared→Prop} {pins pins':List (Addr×Obj)} {σ:L2.St} {H:Hp} {B:Heap} {e t Cc:Addr} {C:Value} {dx:Option Addr} {s:Shared} {suite:List Stmt} {b0:Stmt} {x nm:Str} {j:Nat} {np hpos:Pos} {rest:List ExceptHandler} {D:Ends} {ts:Addr→Value→Option Addr→TS} {nmo:Option Str}
end
section
variable {X:Cx} {k:Nat} {xf:Str} {ps:List Str} {sp:Sp} {p pos epos:Pos} {ae:Expr} {es:List Expr} {ta:TA} {x1 x2 nm:Str} {j:Nat} {C1 C2:Addr} {b1 b2:Stmt} {su1 su2:List Stmt} {np1 hp1 np2 hp2 tpos:Pos} {t1 t2:Addr→Value→Option Addr→TS}
end
end My
namespace Jd
open PySem PySem.Spec PyProof.Rows L2 My
section
variable {X:Cx} {k:Nat} {xf:Str} {ps:List Str} {sp:Sp} {p pos epos:Pos} {ae:Expr} {es:List Expr} {ta:TA} {x1 x2 nm:Str} {j:Nat} {C1 C2:Addr} {b1 b2:Stmt} {su1 su2:List Stmt} {np1 hp1 np2 hp2 tpos:Pos} {t1 t2:Addr→Value→Option Addr→TS}
theorem pe_xi {x:Str} {pos:Pos} {C:Addr} (hg:Gl X x) (hm:X.mg x=some (.ref C)) (hd:autoParam ((x==("__debug__":Str))=false) au1_._auto_1):QE X (.Name x pos) (tC (.ref C)):=⟨L2.pe_glob hg hm (show RelV (.ref C) (.ref C) from rfl) hd⟩
end
end Jd
namespace My
open PySem PySem.Spec PyProof.Rows L2 Mth
end My

namespace My
open PySem PySem.Spec PyProof.Rows L2 Mth
theorem vals_ints:∀{us:List Value} {ns:List Int},IntsAre us ns→Vals (ns.map V.int) us
 | _,_,.nil=>.nil
 | _,_,.cons n t r=>.cons ⟨t,rfl⟩ (vals_ints r)
noncomputable def rSorted (K:PySem.W.Frag):List V→Hp→VK→Prop:=fun xs H Q=>∃(l:Addr) (ns:List Int),xs=[.ref l]∧SqL K H l (ns.map V.int)∧ns.length<64 ∧
 ∀(p:Addr) (ns':List Int),H p=none→ns'.Perm ns→ns'.Pairwise (·≤·)→Q (.ref p) (upd H p (.lst (ns'.map V.int)))
theorem sortedC {X:Cx} (K:PySem.W.Frag) (hK:autoParam (X.K=K) au0_._auto_1):CallR X (.builtin "sorted") (rSorted K):=by
 subst hK
 intro pins s σ H xs us Q I r h
 obtain ⟨l,ns,rfl,hq,h64,q⟩:=h
 obtain ⟨u,rfl,rx⟩:=vals1 r
 cases rx
 obtain ⟨its,rv,p,hz⟩:=I.list hq
 have hl:=rv.length
 rw [List.length_map] at hl
 refine sorted_ints p.isList (intsAre_of rv) (by (first | lia | omega)) fun out ns' a1 a2 a3=>?_
 obtain ⟨e,he⟩:=sortedAll_at s.heap its out
 have hn:H (s.heap.objs.size+1)=none:=I.hok.fresh (Nat.le_succ _)
 refine ⟨.ref (s.heap.objs.size+1),_,I.laid (t':=s.toks) (o:=.lst (ns'.map V.int)) (fun b o z=>sortedAll_old z) (Nat.le_succ _) ?_,rfl,q _ ns' hn a2 a3⟩
 refine ⟨?_,out.toList,e,vals_ints a1,?_⟩
 ·rw [List.length_map,a2.length_eq]
  exact Nat.le_of_lt (small1000 (by (first | lia | omega)))
 ·rw [he]
theorem r_sorted {K:PySem.W.Frag} {H:Hp} {Q:VK} {l:Addr} {ns:List Int} (h:SqL K H l (ns.map V.int)) (h64:ns.length<64) (q:∀(p:Addr) (ns':List Int) (H':Hp),Same H H'→H p=none→H' p=some (.lst (ns'.map V.int))→ns'.Perm ns→ns'.Pairwise (·≤·)→Q (.ref p) H'):rSorted K [.ref l] H Q:=
 ⟨l,ns,rfl,h,h64,fun p ns' hp h1 h2=>q p ns' _ (same_at (Same.refl _) hp) hp upd_same h1 h2⟩
section
variable {σ:L2.St} {H:Hp} {R:It→Hp→Prop}
theorem r_chain {r r':R2} {ta tb tc:TE} {Q:VK} (h:ta σ H fun x H1=>tb σ H1 fun y H2=>r x y H2 fun z H3=>∃k,z=.bl k∧(if k=true then tc σ H3 fun w' H4=>r' y w' H4 Q else Q (.bl false) H3)):tChain r r' ta tb tc σ H Q:=h
theorem r_rng2 {ta:TA} (h:ta σ H fun vs H1=>∃i j:Int,vs=[.int i,.int j]∧(-(2 ^ 62)≤i∧i<2 ^ 62∧-(2 ^ 62)≤j∧j<2 ^ 62)∧R (Itr i (j-i).toNat) H1):iRng2 ta σ H R:=h
end
end My
namespace Jd
open PySem PySem.Spec PyProof.Rows L2 My
theorem pi_range2 {X:Cx} {a b tg:Expr} {t:TA} {p pos:Pos} (hg:Gl X "range") (hm:X.mg "range"=none) (ha:QA X [a,b] t) (hs:autoParam (starEach [a,b] X.env=[(false,eval a X.env),(false,eval b X.env)]) au0_._auto_1) (hs2:autoParam (starEach [b] X.env=[(false,eval b X.env)]) au0_._auto_1) :
 QI X tg (.Call (.Name "range" p) [a,b] [] pos) (iRng2 t):=⟨L2.pi_range2 hg hm ha.h hs hs2⟩
end Jd

namespace My
open PySem PySem.Spec PyProof.Rows L2 Mth
theorem inv_turned_new {X:Cx} {pins:List (Addr×Obj)} {σ:L2.St} {H:Hp} {s:Shared} {h':Heap} {t':Nat} {T:Addr} {o:HO} (ch:List Addr) (I:L2.Inv X pins σ H s) (k:∀b u,b∉ch→s.heap.get? b=some u→h'.get? b=some u)
 (hf:∀b∈ch,FpOk X pins H b) (hT:s.heap.objs.size≤T) (new:ObjOk X.prog X.w (upd H T o) h' T o):L2.Inv X pins σ (upd H T o) { s with heap:=h',toks:=t' }:=by
 have hn:H T=none:=I.hok.fresh hT
 have out:∀b u,H b=some u→b∉ch:=fun b u e z=>by rw [(hf b z).1] at e;cases e
 have old:∀b u,H b=some u→upd H T o b=some u:=fun b u e=>by rw [upd_ne (ne_of_none e hn)];exact e
 refine I.step (g':=s.gens) (d':=s.drawn) (ch:=ch) (fun b hb=>?_) (fun b u _ _ hc e _=>k b u hc e) (fun b u _ _ hc e _=>⟨u.slots,k b u hc e⟩) (fun b u hc e z=>?_) (fun b u hc e=>⟨u,k b u hc e⟩)
  (fun b xs e=>old b _ e) (fun b u v e=>old b _ e) (fun b ps e=>⟨#[],by rw [old b _ e];simp⟩) (fun m hm=>?_) (fun b u e=>?_) I.bare
 ·obtain ⟨_,f1,_,f3,f4,f5⟩:=hf b hb
  exact ⟨f3,f1,f4,f5⟩
 ·have hb:b≠T:=Nat.ne_of_lt (Nat.lt_of_lt_of_le (Heap.lt_size e) hT)
  rw [upd_ne hb]
  exact z
 ·obtain ⟨u,es,ep,hu,r⟩:=hm
  exact ⟨u,es,ep,k _ u (fun z=>(hf _ z).2.1 rfl) hu,r⟩
 ·by_cases hb:b=T
  ·subst hb
   rw [upd_same] at e
   cases e
   exact new
  ·rw [upd_ne hb] at e
   exact ObjOk.stay (I.hok b u e) (fun c v hc q=>k c v (hc.elim (fun z=>z▸out b u e) fun z=>out c _ z) q) (fun c q=>old c _ q) fun c xs q=>old c _ q
noncomputable def Ite (K:PySem.W.Frag) (a:Addr):It:=
 ⟨fun i H=>∃xs x,SqL K H a xs∧xs[i]?=some x,fun i H v H'=>∃(p:Addr) (x:V),H p=none∧v=.ref p∧H'=upd H p (.tup [.int (i:Int),x])∧∀xs,SqL K H a xs→xs[i]?=some x,fun i H=>∃xs,SqL K H a xs∧xs.length≤i⟩
theorem turn_enum {P:Program} {w:World} {K:PySem.W.Frag} {elts:List Expr} {kt:Nat} {tpos:Pos} (a e it:Addr) (hei:e≠it) :
 Turn P w K (.Tuple elts kt tpos) (Ite K a) [e,it] e (fun i h=>(∃old,IsEnum h e it (i:Int) old)∧h.IsListIter it a i) where
 mem:=by simp
 obj:=fun i h st b hb=>by
  obtain ⟨⟨old,he⟩,o,eo,c,d⟩:=st
  rcases (show b=e∨b=it by simpa using hb) with rfl | rfl
  ·exact ⟨_,he,fun v z=>by cases z⟩
  ·exact ⟨o,eo,fun v z=>by rw [d] at z;cases z⟩
 keep:=fun i h h' st k=>⟨let ⟨old,he⟩:=st.1;⟨old,k e (by simp) _ he⟩,st.2.at fun o q=>k it (by simp) o q⟩
 item:=by
  intro X hP hw hK hc i pins s σ H E I hf st hg
  subst hP hw hK
  obtain ⟨⟨old,he⟩,hit⟩:=st
  obtain ⟨xs,x,hq,hx⟩:=hg
  obtain ⟨its,rv,p,hz⟩:=I.list hq
  obtain ⟨u,hu,ru⟩:=rv.get hx
  refine wpAny_pyNext_enum_item he hit p.isList (x:=u) (by simpa using hu) hei fun h1 ho hit1 hT hsz hk=>?_
  refine ⟨_,rfl,wpAny_letOwnedTupleGo_enum (s:={ s with heap:=h1,toks:=s.toks+1 }) ho fun h2 he2 hs2=>?_⟩
  have hs2':Heap.SameBut e h1 h2:=hs2
  have ke:∀b o,b∉[e,it]→s.heap.get? b=some o→h2.get? b=some o:=fun b o hb q=>by
   have hb1:b≠e:=fun z=>hb (by simp [z])
   have hb2:b≠it:=fun z=>hb (by simp [z])
   exact (hs2'.2 b hb1).trans (hk b o hb1 hb2 q)
  have elt:e<s.heap.objs.size:=Heap.lt_size he
  have hT2:h2.get? s.heap.objs.size=some { cls:=.type "tuple",data:=.seq #[.int i s.toks,u] }:=(hs2'.2 _ (Nat.ne_of_gt elt)).trans hT
  have hn:H s.heap.objs.size=none:=I.hok.fresh (Nat.le_refl _)
  have I2:L2.Inv X pins σ (upd H s.heap.objs.size (.tup [.int (i:Int),x])) { s with heap:=h2,toks:=s.toks+1 }:=by
   refine inv_turned_new [e,it] I ke hf (Nat.le_refl _) ?_
   exact ⟨by show 2≤sizeLine;decide,[.int (i:Int) s.toks,u],.cons ⟨_,rfl⟩ (.cons ru .nil),_,hT2,rfl,_,rfl⟩
  refine ⟨.ref s.heap.objs.size,upd H s.heap.objs.size (.tup [.int (i:Int),x]),I2,rfl,⟨s.heap.objs.size,x,hn,rfl,rfl,fun ys hy=>by rw [I.list_inj hy hq];exact hx⟩,⟨⟨u,?_⟩,hit1.at fun o q=>(hs2'.2 it (Ne.symm hei)).trans q⟩,fun b hb=>?_⟩
  ·have:=he2
   simpa using this
  ·have hb1:=(hf b hb).1
   have ilt:it<s.heap.objs.size:=by
    obtain ⟨o,eo,_⟩:=hit
    exact Heap.lt_size eo
   have hb2:b≠s.heap.objs.size:=by
    rcases (show b=e∨b=it by simpa using hb) with rfl | rfl
    ·exact Nat.ne_of_lt elt
    ·exact Nat.ne_of_lt ilt
   rw [upd_ne hb2]
   exact hb1
 done:=by
  intro X hP hw hK hc i pins s σ H E I hf st hg
  subst hP hw hK
  obtain ⟨⟨old,he⟩,hit⟩:=st
  obtain ⟨xs,hq,hx⟩:=hg
  obtain ⟨its,rv,p,hz⟩:=I.list hq
  have hl:=rv.length
  obtain ⟨f0,f1,f2,f3,f4,f5⟩:=hf it (by simp)
  exact wpAny_pyNext_enum_end (I.ok.hd hc) he hit p.isList (by simp;(first | lia | omega)) fun h' eb=>⟨rfl,I.turned (t':=s.toks) (fun b o hb q=>eb b o hb q) f0 f1 f3 f4 f5⟩
 self:=fun _ _ _ _ _ st h=>let ⟨_,he⟩:=st.1;wpAny_pyIter_enum he h
noncomputable def iEnum (K:PySem.W.Frag) (ta:TA):TI:=fun σ H R=>ta σ H fun vs H1=>∃a xs,vs=[.ref a]∧SqL K H1 a xs∧R (Ite K a) H1
section
variable {X:Cx} {a:Expr} {ta:TA} {p pos:Pos} {elts:List Expr} {kt:Nat} {tpos:Pos}
theorem pi_enum (K:PySem.W.Frag) (hg:Gl X "enumerate") (hm:X.mg "enumerate"=none) (ha:PA X [a] ta) (hs:autoParam (starEach [a] X.env=[(false,eval a X.env)]) au0_._auto_1) (hK:autoParam (X.K=K) au0_._auto_1) :
 PI X (.Tuple elts kt tpos) (.Call (.Name "enumerate" p) [a] [] pos) (iEnum K ta):=by
 subst hK
 intro pins s σ H R I h
 refine Call_ (ld_blt I hg hm boot_enumerate (PyProof.Rows.callWith_type1 (thn (ha pos pins s σ H _ I h) fun us s1 ⟨vs,H1,I1,r1,q1⟩=>?_) hs rfl))
 obtain ⟨l,xs,e,hq,q⟩:=q1
 subst e
 cases r1 with
 | cons r rr=>
   cases rr
   cases r
   obtain ⟨its,rv,pl,hz⟩:=I1.list hq
   refine call_enumerate_list pl.isList fun h' he hit hsz hk=>?_
   have I2:L2.Inv X pins σ H1 { s1 with heap:=h' }:=I1.kept (t':=s1.toks) hk
   refine wpAny_pyIter_enum (s:={ s1 with heap:=h' }) he ?_
   refine ⟨s1.heap.objs.size+1,[s1.heap.objs.size+1,s1.heap.objs.size],_,_,H1,rfl,I2,turn_enum l (s1.heap.objs.size+1) s1.heap.objs.size (Nat.succ_ne_self _),⟨⟨_,he⟩,hit⟩,fun b hb=>?_,q⟩
   rcases (show b=s1.heap.objs.size+1∨b=s1.heap.objs.size by simpa using hb) with rfl | rfl
   ·exact I1.fpOk (Nat.le_succ _) (I1.hok.fresh (Nat.le_succ _))
   ·exact I1.fpOk (Nat.le_refl _) (I1.hok.fresh (Nat.le_refl _))
end
section
variable {σ:L2.St} {H:Hp} {K:PySem.W.Frag}
theorem r_enum {ta:TA} {R:It→Hp→Prop} (h:ta σ H fun vs H1=>∃a xs,vs=[.ref a]∧SqL K H1 a xs∧R (Ite K a) H1):iEnum K ta σ H R:=h
theorem for_enum {a:Addr} {xs:List V} {g:TG} {tb:TS} {D:Ends} (Pv:Nat→L2.St→Hp→Prop) (h0:Pv 0 σ H) (hl:∀i σ H,i≤xs.length→Pv i σ H→SqL K H a xs)
 (hs:∀(i:Nat) (x:V) (σ:L2.St) (H:Hp) (p:Addr) (H':Hp),xs[i]?=some x→Pv i σ H→Same H H'→H p=none→H' p=some (.tup [.int (i:Int),x])→g (.ref p) σ H' fun σ2 H2=>tb { D with nx:=Pv (i+1),ct:=Pv (i+1),bk:=D.nx } σ2 H2)
 (hd:∀σ H,Pv xs.length σ H→D.nx σ H) :
 ∃W:Nat→Nat→L2.St→Hp→Prop,(∃m,W 0 m σ H)∧∀i m σ H,W i m σ H →
  ((Ite K a).stop i H∧D.nx σ H)∨((Ite K a).go i H∧∃N:L2.St→Hp→Prop,(∀σ' H',N σ' H'→∃m',m'<m∧W (i+1) m' σ' H')∧∀x H',(Ite K a).yld i H x H'→g x σ H' fun σ2 H2=>tb { D with nx:=N,ct:=N,bk:=D.nx } σ2 H2):=by
 refine ⟨fun i m σ H=>m=xs.length-i∧i≤xs.length∧Pv i σ H,⟨xs.length,rfl,Nat.zero_le _,h0⟩,?_⟩
 rintro i m σ H ⟨rfl,hi,p⟩
 have q:=hl i σ H hi p
 rcases Nat.lt_or_ge i xs.length with hlt | hge
 ·refine .inr ⟨⟨xs,xs[i],q,List.getElem?_eq_getElem hlt⟩,Pv (i+1),fun σ' H' p'=>⟨xs.length-(i+1),by (first | lia | omega),rfl,hlt,p'⟩,fun x H' y=>?_⟩
  obtain ⟨pt,y',hn,rfl,rfl,hy⟩:=y
  exact hs i y' σ H pt _ (hy xs q) p (same_new hn _) hn upd_same
 ·have ei:i=xs.length:=by (first | lia | omega)
  subst ei
  exact .inl ⟨⟨xs,q,Nat.le_refl _⟩,hd σ H p⟩
end
section
variable {σ:L2.St} {H:Hp} {D:Ends}
theorem r_cont (h:D.ct σ H):tCont D σ H:=h
end
section
variable {X:Cx}
theorem inSeq (K:PySem.W.Frag) (h:autoParam (X.K=K) au0_._auto_1):OpR X (compareOp .In) (rIn K false):=h▸op_in_seq
theorem op_notB:OpR X (compareOp .IsNot) (fun x y H Q=>∃a b,x=.bl a∧y=.bl b∧Q (.bl (a != b)) H):=by
 intro pins s σ H x y v u Q I rx ry h
 obtain ⟨a,b,rfl,rfl,q⟩:=h
 cases rx
 cases ry
 exact isnot_bool ⟨.bl (a != b),H,I,rfl,q⟩
theorem notInSeq (K:PySem.W.Frag) (h:autoParam (X.K=K) au0_._auto_1):OpR X (compareOp .NotIn) (rIn K true):=h▸op_notIn_seq
end
end My
namespace Jd
open PySem PySem.Spec PyProof.Rows L2 My
theorem ps_continue {X:Cx} {pos:Pos}:QS X (.Continue pos) tCont:=⟨L2.ps_continue⟩
theorem pi_enum {X:Cx} (K:PySem.W.Frag) {a:Expr} {ta:TA} {p pos:Pos} {elts:List Expr} {kt:Nat} {tpos:Pos} (hg:Gl X "enumerate") (hm:X.mg "enumerate"=none) (ha:QA X [a] ta) (hs:autoParam (starEach [a] X.env=[(false,eval a X.env)]) au0_._auto_1) (hK:autoParam (X.K=K) au0_._auto_1) :
 QI X (.Tuple elts kt tpos) (.Call (.Name "enumerate" p) [a] [] pos) (iEnum K ta):=⟨My.pi_enum K hg hm ha.h hs hK⟩
end Jd

namespace My
open PySem PySem.Spec PyProof.Rows L2 Mth
section
variable {σ:L2.St} {H:Hp} {Q:VK} {K:PySem.W.Frag} {f m x:Str} {to tv:TE} {t:TA} {D:Ends} {C a dx:Addr} {fs:List (Str×V)} {fn:List Str} {mg:Str→Option Value} {v y:V} {N:Hp→Prop} {sp:Sp}
end
end My
namespace Jd
open PySem PySem.Spec PyProof.Rows L2 My
section
variable {X:Cx} {k:Nat} {x m f:Str} {ps:List Str} {sp:Sp} {p pos apos:Pos} {o e value:Expr} {es:List Expr} {to tv:TE} {t:TA} {C:Addr}
end
end Jd

namespace My
open PySem PySem.Spec PyProof.Rows L2 Mth
theorem rvsC {X:Cx} (K:PySem.W.Frag) {o:Expr} {to:TE} {apos cpos:Pos} (ho:PE X o to) (h:autoParam (X.K=K) au0_._auto_1) (hbase:autoParam (attributeBase o "reverse" X.env (eval o X.env)=eval o X.env) au0_._auto_1) (hline:autoParam ((apos.endLine==cpos.line)=true) au0_._auto_1) :
 PE X (.Call (.Attribute o "reverse" apos) [] [] cpos) (tUn (fun x H Q=>tyV K "list" x H∧rReverse x [] H Q) to):=
 h▸pe_bm0 PySem.F.plainAttrs_list PySem.F.slot_list_reverse PySem.F.type_list_reverse mt_reverse ho hbase hline
theorem r_rvs {p:Addr} {xs:List V} {H:Hp} {Q:VK} (h:H p=some (.lst xs)) (q:Q .non (upd H p (.lst xs.reverse))):rReverse (.ref p) [] H Q:=⟨p,xs,rfl,rfl,h,q⟩
theorem extC {X:Cx} (K:PySem.W.Frag) {o e:Expr} {to te:TE} {apos cpos:Pos} (ho:PE X o to) (he:PE X e te) (h:autoParam (X.K=K) au0_._auto_1)
 (hbase:autoParam (attributeBase o "extend" X.env (eval o X.env)=eval o X.env) au0_._auto_1)
 (hfew:autoParam (((backTo cpos (starEach (e::[]) X.env)).all (fun x=>!x.1)&&(backToKw cpos (keywordEach [] X.env)).all (fun x=>x.1.isSome)
   && decide ((e::([]:List Expr)).length+([]:List Keyword).length+(if ([]:List Keyword).isEmpty then 0 else 1)<30))=true) au0_._auto_1)
 (hline:autoParam ((apos.endLine==cpos.line)=true) au0_._auto_1) (hs:autoParam (starEach (e::[]) X.env=(false,eval e X.env)::starEach [] X.env) au0_._auto_1) (hplain:autoParam ((backTo cpos (starEach [] X.env)).any (·.1)=false) au0_._auto_1) :
 PE X (.Call (.Attribute o "extend" apos) [e] [] cpos) (tBM K "list" rExtend to (tCons te tNil)):=
 h▸pe_bm PySem.F.plainAttrs_list PySem.F.slot_list_extend PySem.F.type_list_extend mt_extend ho (pa_cons he pa_nil hs) hbase hfew hline hs hplain
theorem r_ext {p b:Addr} {xs zs:List V} {H:Hp} {Q:VK} (h:H p=some (.lst xs)) (hb:H b=some (.lst zs)) (hl:xs.length+zs.length≤sizeLine) (q:Q .non (upd H p (.lst (xs++zs)))):rExtend (.ref p) [.ref b] H Q:=⟨p,b,xs,zs,rfl,rfl,h,hb,hl,q⟩
end My
namespace Jd
open PySem PySem.Spec PyProof.Rows L2 Mth
theorem rvsC {X:Cx} (K:PySem.W.Frag) {o:Expr} {to:TE} {apos cpos:Pos} (ho:QE X o to) (h:autoParam (X.K=K) au0_._auto_1) (hbase:autoParam (attributeBase o "reverse" X.env (eval o X.env)=eval o X.env) au0_._auto_1) (hline:autoParam ((apos.endLine==cpos.line)=true) au0_._auto_1) :
 QE X (.Call (.Attribute o "reverse" apos) [] [] cpos) (tUn (fun x H Q=>tyV K "list" x H∧rReverse x [] H Q) to):=⟨My.rvsC K ho.h h hbase hline⟩
theorem extC {X:Cx} (K:PySem.W.Frag) {o e:Expr} {to te:TE} {apos cpos:Pos} (ho:QE X o to) (he:QE X e te) (h:autoParam (X.K=K) au0_._auto_1)
 (hbase:autoParam (attributeBase o "extend" X.env (eval o X.env)=eval o X.env) au0_._auto_1)
 (hfew:autoParam (((backTo cpos (starEach (e::[]) X.env)).all (fun x=>!x.1)&&(backToKw cpos (keywordEach [] X.env)).all (fun x=>x.1.isSome)
   && decide ((e::([]:List Expr)).length+([]:List Keyword).length+(if ([]:List Keyword).isEmpty then 0 else 1)<30))=true) au0_._auto_1)
 (hline:autoParam ((apos.endLine==cpos.line)=true) au0_._auto_1) (hs:autoParam (starEach (e::[]) X.env=(false,eval e X.env)::starEach [] X.env) au0_._auto_1) (hplain:autoParam ((backTo cpos (starEach [] X.env)).any (·.1)=false) au0_._auto_1) :
 QE X (.Call (.Attribute o "extend" apos) [e] [] cpos) (tBM K "list" rExtend to (tCons te tNil)):=⟨My.extC K ho.h he.h h hbase hfew hline hs hplain⟩
end Jd
namespace L2
open PySem PySem.Spec PyProof.Rows
theorem lenS {α:Type} {n:Nat}:∀{us:List α},us.length=n+1→∃(a:α) (as:List α),us=a::as∧as.length=n
 | [],h=>nomatch h
 | a::as,h=>⟨a,as,rfl,Nat.succ.inj h⟩
theorem len0 {α:Type}:∀{us:List α},us.length=0→us=[]
 | [],_=>rfl
 | _::_,h=>nomatch h
theorem Fun.binds1 {K:PySem.W.Frag} {x qual:Str} {st:Stmt} {f:Addr} {fd:FuncData} {pa:Str} (F:Fun K x qual st f fd) (h:∀(kV doc pm:Value) (an:Option Addr) (cdv ct ua:Value),bindArgs (PySem.W.fnOf x qual (defArgs st) (defBody st) (defScope st) .none kV doc pm an cdv ct) ⟨[ua],[]⟩=pure [(pa,ua)]):Binds K fd [pa] []:=
 F.binds fun kV doc pm an cdv ct us hl=>by
  obtain ⟨ua,us0,rfl,hl0⟩:=lenS (n:=0) hl
  obtain rfl:=len0 hl0
  exact h kV doc pm an cdv ct ua
theorem Fun.binds2 {K:PySem.W.Frag} {x qual:Str} {st:Stmt} {f:Addr} {fd:FuncData} {pa pb:Str} (F:Fun K x qual st f fd) (h:∀(kV doc pm:Value) (an:Option Addr) (cdv ct ua ub:Value),bindArgs (PySem.W.fnOf x qual (defArgs st) (defBody st) (defScope st) .none kV doc pm an cdv ct) ⟨[ua,ub],[]⟩=pure [(pa,ua),(pb,ub)]):Binds K fd [pa,pb] []:=
 F.binds fun kV doc pm an cdv ct us hl=>by
  obtain ⟨ua,us1,rfl,hl1⟩:=lenS (n:=1) hl
  obtain ⟨ub,us0,rfl,hl0⟩:=lenS (n:=0) hl1
  obtain rfl:=len0 hl0
  exact h kV doc pm an cdv ct ua ub
theorem Fun.binds3 {K:PySem.W.Frag} {x qual:Str} {st:Stmt} {f:Addr} {fd:FuncData} {pa pb pc:Str} (F:Fun K x qual st f fd) (h:∀(kV doc pm:Value) (an:Option Addr) (cdv ct ua ub uc:Value),bindArgs (PySem.W.fnOf x qual (defArgs st) (defBody st) (defScope st) .none kV doc pm an cdv ct) ⟨[ua,ub,uc],[]⟩=pure [(pa,ua),(pb,ub),(pc,uc)]):Binds K fd [pa,pb,pc] []:=
 F.binds fun kV doc pm an cdv ct us hl=>by
  obtain ⟨ua,us2,rfl,hl2⟩:=lenS (n:=2) hl
  obtain ⟨ub,us1,rfl,hl1⟩:=lenS (n:=1) hl2
  obtain ⟨uc,us0,rfl,hl0⟩:=lenS (n:=0) hl1
  obtain rfl:=len0 hl0
  exact h kV doc pm an cdv ct ua ub uc
theorem Fun.binds4 {K:PySem.W.Frag} {x qual:Str} {st:Stmt} {f:Addr} {fd:FuncData} {pa pb pc pd:Str} (F:Fun K x qual st f fd) (h:∀(kV doc pm:Value) (an:Option Addr) (cdv ct ua ub uc ud:Value),bindArgs (PySem.W.fnOf x qual (defArgs st) (defBody st) (defScope st) .none kV doc pm an cdv ct) ⟨[ua,ub,uc,ud],[]⟩=pure [(pa,ua),(pb,ub),(pc,uc),(pd,ud)]):Binds K fd [pa,pb,pc,pd] []:=
 F.binds fun kV doc pm an cdv ct us hl=>by
  obtain ⟨ua,us3,rfl,hl3⟩:=lenS (n:=3) hl
  obtain ⟨ub,us2,rfl,hl2⟩:=lenS (n:=2) hl3
  obtain ⟨uc,us1,rfl,hl1⟩:=lenS (n:=1) hl2
  obtain ⟨ud,us0,rfl,hl0⟩:=lenS (n:=0) hl1
  obtain rfl:=len0 hl0
  exact h kV doc pm an cdv ct ua ub uc ud
theorem Fun.binds5 {K:PySem.W.Frag} {x qual:Str} {st:Stmt} {f:Addr} {fd:FuncData} {pa pb pc pd pe:Str} (F:Fun K x qual st f fd) (h:∀(kV doc pm:Value) (an:Option Addr) (cdv ct ua ub uc ud ue:Value),bindArgs (PySem.W.fnOf x qual (defArgs st) (defBody st) (defScope st) .none kV doc pm an cdv ct) ⟨[ua,ub,uc,ud,ue],[]⟩=pure [(pa,ua),(pb,ub),(pc,uc),(pd,ud),(pe,ue)]):Binds K fd [pa,pb,pc,pd,pe] []:=
 F.binds fun kV doc pm an cdv ct us hl=>by
  obtain ⟨ua,us4,rfl,hl4⟩:=lenS (n:=4) hl
  obtain ⟨ub,us3,rfl,hl3⟩:=lenS (n:=3) hl4
  obtain ⟨uc,us2,rfl,hl2⟩:=lenS (n:=2) hl3
  obtain ⟨ud,us1,rfl,hl1⟩:=lenS (n:=1) hl2
  obtain ⟨ue,us0,rfl,hl0⟩:=lenS (n:=0) hl1
  obtain rfl:=len0 hl0
  exact h kV doc pm an cdv ct ua ub uc ud ue
theorem Fun.binds6 {K:PySem.W.Frag} {x qual:Str} {st:Stmt} {f:Addr} {fd:FuncData} {pa pb pc pd pe pf:Str} (F:Fun K x qual st f fd) (h:∀(kV doc pm:Value) (an:Option Addr) (cdv ct ua ub uc ud ue uf:Value),bindArgs (PySem.W.fnOf x qual (defArgs st) (defBody st) (defScope st) .none kV doc pm an cdv ct) ⟨[ua,ub,uc,ud,ue,uf],[]⟩=pure [(pa,ua),(pb,ub),(pc,uc),(pd,ud),(pe,ue),(pf,uf)]):Binds K fd [pa,pb,pc,pd,pe,pf] []:=
 F.binds fun kV doc pm an cdv ct us hl=>by
  obtain ⟨ua,us5,rfl,hl5⟩:=lenS (n:=5) hl
  obtain ⟨ub,us4,rfl,hl4⟩:=lenS (n:=4) hl5
  obtain ⟨uc,us3,rfl,hl3⟩:=lenS (n:=3) hl4
  obtain ⟨ud,us2,rfl,hl2⟩:=lenS (n:=2) hl3
  obtain ⟨ue,us1,rfl,hl1⟩:=lenS (n:=1) hl2
  obtain ⟨uf,us0,rfl,hl0⟩:=lenS (n:=0) hl1
  obtain rfl:=len0 hl0
  exact h kV doc pm an cdv ct ua ub uc ud ue uf
theorem Fun.binds7 {K:PySem.W.Frag} {x qual:Str} {st:Stmt} {f:Addr} {fd:FuncData} {pa pb pc pd pe pf pg:Str} (F:Fun K x qual st f fd) (h:∀(kV doc pm:Value) (an:Option Addr) (cdv ct ua ub uc ud ue uf ug:Value),bindArgs (PySem.W.fnOf x qual (defArgs st) (defBody st) (defScope st) .none kV doc pm an cdv ct) ⟨[ua,ub,uc,ud,ue,uf,ug],[]⟩=pure [(pa,ua),(pb,ub),(pc,uc),(pd,ud),(pe,ue),(pf,uf),(pg,ug)]):Binds K fd [pa,pb,pc,pd,pe,pf,pg] []:=
 F.binds fun kV doc pm an cdv ct us hl=>by
  obtain ⟨ua,us6,rfl,hl6⟩:=lenS (n:=6) hl
  obtain ⟨ub,us5,rfl,hl5⟩:=lenS (n:=5) hl6
  obtain ⟨uc,us4,rfl,hl4⟩:=lenS (n:=4) hl5
  obtain ⟨ud,us3,rfl,hl3⟩:=lenS (n:=3) hl4
  obtain ⟨ue,us2,rfl,hl2⟩:=lenS (n:=2) hl3
  obtain ⟨uf,us1,rfl,hl1⟩:=lenS (n:=1) hl2
  obtain ⟨ug,us0,rfl,hl0⟩:=lenS (n:=0) hl1
  obtain rfl:=len0 hl0
  exact h kV doc pm an cdv ct ua ub uc ud ue uf ug
end L2
namespace My
open PySem PySem.Spec PyProof.Rows L2
theorem seq_cut {t u:TS} {D:Ends} {σ:L2.St} {H:Hp} (Pv:L2.St→Hp→Prop) (rest:∀σ' H',Pv σ' H'→u D σ' H') (h:∀N:L2.St→Hp→Prop,(∀σ' H',Pv σ' H'→N σ' H')→t { D with nx:=N } σ H):tSeq t u D σ H:=h (u D) rest
theorem seq_cut4 {a b c d u:TS} {D:Ends} {σ:L2.St} {H:Hp} (Pv:L2.St→Hp→Prop) (rest:∀σ' H',Pv σ' H'→u D σ' H') (h:∀N:L2.St→Hp→Prop,(∀σ' H',Pv σ' H'→N σ' H')→tSeq a (tSeq b (tSeq c d)) { D with nx:=N } σ H):tSeq a (tSeq b (tSeq c (tSeq d u))) D σ H:=h (u D) rest
theorem nx_of {N:L2.St→Hp→Prop} {rt:VK} {bk ct:L2.St→Hp→Prop} {σ:L2.St} {H:Hp} (h:N σ H):(Ends.mk N rt bk ct).nx σ H:=h
theorem body_cut {g:TG} {tb:TS} {x:V} {σ:L2.St} {H:Hp} {Pv bk:L2.St→Hp→Prop} {rt:VK} (h:∀(M B:L2.St→Hp→Prop) (R:VK),(∀σ H,Pv σ H→M σ H)→(∀σ H,bk σ H→B σ H)→(∀v H,rt v H→R v H)→g x σ H fun σ2 H2=>tb (Ends.mk M R B M) σ2 H2):g x σ H fun σ2 H2=>tb (Ends.mk Pv rt bk Pv) σ2 H2:=h Pv bk rt (fun _ _ z=>z) (fun _ _ z=>z) (fun _ _ z=>z)
end My

namespace My
open PySem PySem.Spec PyProof.Rows L2 Mth
end My
namespace Jd
open PySem PySem.Spec PyProof.Rows L2 Mth
end Jd

namespace My
open PySem PySem.Spec PyProof.Rows L2 Mth
theorem inv_turned {X:Cx} {pins:List (Addr×Obj)} {σ:L2.St} {H:Hp} {s:Shared} {h':Heap} {t':Nat} (ch:List Addr) (I:L2.Inv X pins σ H s) (k:∀b u,b∉ch→s.heap.get? b=some u→h'.get? b=some u)
 (hf:∀b∈ch,FpOk X pins H b):L2.Inv X pins σ H { s with heap:=h',toks:=t' }:=by
 have out:∀b u,H b=some u→b∉ch:=fun b u e z=>by rw [(hf b z).1] at e;cases e
 refine I.step (g':=s.gens) (d':=s.drawn) (ch:=ch) (fun b hb=>?_) (fun b u _ _ hc e _=>k b u hc e) (fun b u _ _ hc e _=>⟨u.slots,k b u hc e⟩) (fun b u hc e z=>z) (fun b u hc e=>⟨u,k b u hc e⟩)
  (fun b xs e=>e) (fun b u v e=>e) (fun b ps e=>⟨#[],by rw [e];simp⟩) (fun m hm=>?_) (fun b u e=>?_) I.bare
 ·obtain ⟨_,f1,_,f3,f4,f5⟩:=hf b hb
  exact ⟨f3,f1,f4,f5⟩
 ·obtain ⟨u,es,ep,hu,r⟩:=hm
  exact ⟨u,es,ep,k _ u (fun z=>(hf _ z).2.1 rfl) hu,r⟩
 ·exact ObjOk.stay (I.hok b u e) (fun c v hc q=>k c v (hc.elim (fun z=>z▸out b u e) fun z=>out c _ z) q) (fun c q=>q) fun c xs q=>q
noncomputable def Itz (K:PySem.W.Frag) (a b:Addr):It:=
 ⟨fun i H=>∃xs ys x y,SqL K H a xs∧SqL K H b ys∧xs[i]?=some x∧ys[i]?=some y,
  fun i H v H'=>∃(p:Addr) (x y:V),H p=none∧v=.ref p∧H'=upd H p (.tup [x,y])∧(∀xs,SqL K H a xs→xs[i]?=some x)∧∀ys,SqL K H b ys→ys[i]?=some y,
  fun i H=>∃xs ys,SqL K H a xs∧SqL K H b ys∧(xs.length≤i∨ys.length≤i)⟩
theorem turn_zip {P:Program} {w:World} {K:PySem.W.Frag} {elts:List Expr} {kt:Nat} {tpos:Pos} (z TI TO i1 i2 a b:Addr) (D:ZipApart z TI TO i1 i2 a b) :
 Turn P w K (.Tuple elts kt tpos) (Itz K a b) [z,TI,TO,i1,i2] z (fun i h=>IsZip h z TI TO .none∧IsPair h TI (.ref i1) (.ref i2)∧(∃u v,IsPair h TO u v)∧h.IsListIter i1 a i∧h.IsListIter i2 b i) where
 mem:=by simp
 obj:=fun i h st c hc=>by
  obtain ⟨hz,hTI,⟨u,v,hTO⟩,⟨o1,e1,_,d1⟩,⟨o2,e2,_,d2⟩⟩:=st
  rcases (show c=z∨c=TI∨c=TO∨c=i1∨c=i2 by simpa using hc) with rfl | rfl | rfl | rfl | rfl
  ·exact ⟨_,hz,fun v q=>by cases q⟩
  ·exact ⟨_,hTI,fun v q=>by cases q⟩
  ·exact ⟨_,hTO,fun v q=>by cases q⟩
  ·exact ⟨o1,e1,fun v q=>by rw [d1] at q;cases q⟩
  ·exact ⟨o2,e2,fun v q=>by rw [d2] at q;cases q⟩
 keep:=fun i h h' st k=>by
  obtain ⟨hz,hTI,⟨u,v,hTO⟩,h1,h2⟩:=st
  exact ⟨k z (by simp) _ hz,k TI (by simp) _ hTI,⟨u,v,k TO (by simp) _ hTO⟩,h1.at fun o q=>k i1 (by simp) o q,h2.at fun o q=>k i2 (by simp) o q⟩
 item:=by
  intro X hP hw hK hc i pins s σ H E I hf st hg
  subst hP hw hK
  obtain ⟨hz,hTI,⟨u0,v0,hTO⟩,h1,h2⟩:=st
  obtain ⟨xs,ys,x,y,hq,hq',hx,hy⟩:=hg
  obtain ⟨its,rv,p,_⟩:=I.list hq
  obtain ⟨its',rv',p',_⟩:=I.list hq'
  obtain ⟨u,hu,ru⟩:=rv.get hx
  obtain ⟨v,hv,ru'⟩:=rv'.get hy
  refine wpAny_pyNext_zip_item D hz hTI hTO h1 h2 p.isList p'.isList (x:=u) (y:=v) (by simpa using hu) (by simpa using hv) fun h' a1 a2 a3 a4 a5 a6 hk=>?_
  refine ⟨_,rfl,wpAny_letOwnedTupleGo_zip (s:={ s with heap:=h' }) a1 fun h3 hz3 hs3=>?_⟩
  have hs3':Heap.SameBut z h' h3:=hs3
  have ke:∀c o,c∉[z,TI,TO,i1,i2]→s.heap.get? c=some o→h3.get? c=some o:=fun c o hc' q=>by
   have c1:c≠z:=fun e=>hc' (by simp [e])
   exact (hs3'.2 c c1).trans (hk c o c1 (fun e=>hc' (by simp [e])) (fun e=>hc' (by simp [e])) (fun e=>hc' (by simp [e])) q)
  have zlt:z<s.heap.objs.size:=Heap.lt_size hz
  have TOlt:TO<s.heap.objs.size:=Heap.lt_size hTO
  have TIlt:TI<s.heap.objs.size:=Heap.lt_size hTI
  have i1lt:i1<s.heap.objs.size:=by obtain ⟨_,e,_⟩:=h1;exact Heap.lt_size e
  have i2lt:i2<s.heap.objs.size:=by obtain ⟨_,e,_⟩:=h2;exact Heap.lt_size e
  have hT3:h3.get? s.heap.objs.size=some { cls:=.type "tuple",data:=.seq #[u,v] }:=(hs3'.2 _ (Nat.ne_of_gt zlt)).trans a5
  have hn:H s.heap.objs.size=none:=I.hok.fresh (Nat.le_refl _)
  have I2:L2.Inv X pins σ (upd H s.heap.objs.size (.tup [x,y])) { s with heap:=h3 }:=by
   refine inv_turned_new (t':=s.toks) [z,TI,TO,i1,i2] I ke hf (Nat.le_refl _) ?_
   exact ⟨by show 2≤sizeLine;decide,[u,v],.cons ru (.cons ru' .nil),_,hT3,rfl,_,rfl⟩
  refine ⟨.ref s.heap.objs.size,upd H s.heap.objs.size (.tup [x,y]),I2,rfl,⟨s.heap.objs.size,x,y,hn,rfl,rfl,fun zs hz'=>by rw [I.list_inj hz' hq];exact hx,fun zs hz'=>by rw [I.list_inj hz' hq'];exact hy⟩,⟨hz3,?_,⟨u,v,(hs3'.2 TO D.TOz).trans a2⟩,a3.at fun o q=>(hs3'.2 i1 D.i1z).trans q,a4.at fun o q=>(hs3'.2 i2 D.i2z).trans q⟩,fun c hc'=>?_⟩
  ·exact (hs3'.2 TI D.TIz).trans (hk TI _ D.TIz D.TITO D.TIi1 D.TIi2 hTI)
  ·have hc1:=(hf c hc').1
   have hc2:c≠s.heap.objs.size:=by
    rcases (show c=z∨c=TI∨c=TO∨c=i1∨c=i2 by simpa using hc') with rfl | rfl | rfl | rfl | rfl
    ·exact Nat.ne_of_lt zlt
    ·exact Nat.ne_of_lt TIlt
    ·exact Nat.ne_of_lt TOlt
    ·exact Nat.ne_of_lt i1lt
    ·exact Nat.ne_of_lt i2lt
   rw [upd_ne hc2]
   exact hc1
 done:=by
  intro X hP hw hK hc i pins s σ H E I hf st hg
  subst hP hw hK
  obtain ⟨hz,hTI,⟨u0,v0,hTO⟩,h1,h2⟩:=st
  obtain ⟨xs,ys,hq,hq',hx⟩:=hg
  obtain ⟨its,rv,p,_⟩:=I.list hq
  obtain ⟨its',rv',p',_⟩:=I.list hq'
  have hl:=rv.length
  have hl':=rv'.length
  refine wpAny_pyNext_zip_end (I.ok.hd hc) D hz hTI hTO h1 h2 p.isList p'.isList ?_ fun h' hk=>⟨rfl,?_⟩
  ·rcases hx with q | q
   ·exact .inl (by simp;(first | lia | omega))
   ·exact .inr (by simp;(first | lia | omega))
  ·exact inv_turned (t':=s.toks) [z,TI,TO,i1,i2] I (fun c o hc' q=>hk c o (fun e=>hc' (by simp [e])) (fun e=>hc' (by simp [e])) (fun e=>hc' (by simp [e])) (fun e=>hc' (by simp [e])) q) hf
 self:=fun _ _ _ _ _ st h=>wpAny_pyIter_zip st.1 h
noncomputable def iZip (K:PySem.W.Frag) (ta:TA):TI:=fun σ H R=>ta σ H fun vs H1=>∃a b xs ys,vs=[.ref a,.ref b]∧SqL K H1 a xs∧SqL K H1 b ys∧R (Itz K a b) H1
section
variable {X:Cx} {a b:Expr} {ta:TA} {p pos:Pos} {elts:List Expr} {kt:Nat} {tpos:Pos}
theorem pi_zip (K:PySem.W.Frag) (hg:Gl X "zip") (hm:X.mg "zip"=none) (ha:PA X [a,b] ta) (hs:autoParam (starEach [a,b] X.env=(false,eval a X.env)::starEach [b] X.env) au0_._auto_1) (hs2:autoParam (starEach [b] X.env=[(false,eval b X.env)]) au0_._auto_1) (hK:autoParam (X.K=K) au0_._auto_1) :
 PI X (.Tuple elts kt tpos) (.Call (.Name "zip" p) [a,b] [] pos) (iZip K ta):=by
 subst hK
 intro pins s σ H R I h
 refine Call_ (ld_blt I hg hm boot_zip (PyProof.Rows.callWith_type1 (thn (ha pos pins s σ H _ I h) fun us s1 ⟨vs,H1,I1,r1,q1⟩=>?_) hs (by rw [hs2];rfl)))
 obtain ⟨l,l',xs,ys,e,hq,hq',q⟩:=q1
 subst e
 cases r1 with
 | cons r rr=>
   cases rr with
   | cons r' rr'=>
     cases rr'
     cases r
     cases r'
     obtain ⟨its,rv,pl,_⟩:=I1.list hq
     obtain ⟨its',rv',pl',_⟩:=I1.list hq'
     have a1:l<s1.heap.objs.size:=by obtain ⟨_,e,_⟩:=pl.isList;exact Heap.lt_size e
     have a2:l'<s1.heap.objs.size:=by obtain ⟨_,e,_⟩:=pl'.isList;exact Heap.lt_size e
     refine call_zip_2 pl.isList pl'.isList fun h' hz hTI hTO hi1 hi2 hsz hk=>?_
     have I2:L2.Inv X pins σ H1 { s1 with heap:=h' }:=I1.kept (t':=s1.toks) hk
     refine wpAny_pyIter_zip (s:={ s1 with heap:=h' }) hz ?_
     refine ⟨s1.heap.objs.size+4,[s1.heap.objs.size+4,s1.heap.objs.size+2,s1.heap.objs.size+3,s1.heap.objs.size,s1.heap.objs.size+1],_,_,H1,rfl,I2,turn_zip _ _ _ _ _ l l' (zipApart_new a1 a2),⟨hz,hTI,⟨_,_,hTO⟩,hi1,hi2⟩,fun c hc=>?_,q⟩
     have fp:∀k,FpOk X pins H1 (s1.heap.objs.size+k):=fun k=>I1.fpOk (Nat.le_add_right _ _) (I1.hok.fresh (Nat.le_add_right _ _))
     rcases (show c=s1.heap.objs.size+4∨c=s1.heap.objs.size+2∨c=s1.heap.objs.size+3∨c=s1.heap.objs.size∨c=s1.heap.objs.size+1 by simpa using hc) with rfl | rfl | rfl | rfl | rfl
     ·exact fp 4
     ·exact fp 2
     ·exact fp 3
     ·exact fp 0
     ·exact fp 1
end
section
variable {σ:L2.St} {H:Hp} {K:PySem.W.Frag}
theorem r_zip {ta:TA} {R:It→Hp→Prop} (h:ta σ H fun vs H1=>∃a b xs ys,vs=[.ref a,.ref b]∧SqL K H1 a xs∧SqL K H1 b ys∧R (Itz K a b) H1):iZip K ta σ H R:=h
end
section
variable {n:Nat} {cap:List Nat} {g:TG} {tt:TT} {te:TE} {σ:L2.St} {H:Hp} {Q:VK} {K:PySem.W.Frag}
theorem compB_zip {a b:Addr} {xs ys:List V} {N0':Nat} (hn1:N0'≤xs.length) (hn2:N0'≤ys.length) (hn:xs.length≤N0'∨ys.length≤N0') (hok:∀H2,Same H H2→SqL K H2 a xs∧SqL K H2 b ys) (hl:N0'≤1000) (P:Nat→List V→Hp→Prop) (h0:P 0 [] H)
 (step:∀(D:Addr) (i:Nat) (x y:V) (us:List V) (H2 H3:Hp) (p:Addr) (σ0:L2.St) (N:VK) (N0:Hp→Prop),σ0.length=n→H D=none→H2 D=some (.lst us)→Same H H2→Same H2 H3→H3 p=some (.tup [x,y])→i<N0'→xs[i]?=some x→ys[i]?=some y→us.length≤i→P i us (rm D H2) →
   (∀v H6,Same H3 H6→P (i+1) (us++[v]) (rm D H6)→N v H6)→(∀H5,Same H3 H5→P (i+1) us (rm D H5)→N0 H5) →
   g (.ref p) (σ0++capV cap σ) H3 fun σ2 H4=>(∃σ1,σ1.length=n∧σ2=σ1++capV cap σ)∧tt σ2 H4 fun b H5=>if b=true then te σ2 H5 N else N0 H5)
 (done:∀(D:Addr) (us:List V) (H2:Hp),H D=none→H2 D=some (.lst us)→Same H H2→us.length≤N0'→P N0' us (rm D H2)→Q (.ref D) H2):CompB n cap g tt te σ Q (Itz K a b) H:=by
 intro D hD
 refine ⟨fun i m us H2=>H2 D=some (.lst us)∧Same H H2∧us.length≤i∧i≤N0'∧m=N0'-i∧P i us (rm D H2),⟨N0',upd_same,same_at (Same.refl _) hD,Nat.zero_le _,Nat.zero_le _,rfl,?_⟩,?_⟩
 ·rw [rm_upd]
  have e:rm D H=H:=by
   funext b
   by_cases h:b=D
   ·rw [h,hD];exact if_pos rfl
   ·exact rm_at h
  rw [e];exact h0
 ·rintro i m us H2 ⟨e,s,hu,hi,rfl,p⟩
  refine ⟨e,?_⟩
  obtain ⟨q,q'⟩:=hok H2 s
  by_cases hlt:i<N0'
  ·refine .inr ⟨⟨xs,ys,xs[i],ys[i],q,q',List.getElem?_eq_getElem _,List.getElem?_eq_getElem _⟩,Nat.lt_of_le_of_lt (Nat.le_trans hu hi) (small1000 hl),fun v H3 σ0 h0 y=>?_⟩
   obtain ⟨pt,x',y',hnp,rfl,rfl,hx,hy⟩:=y
   have s3:=same_new hnp (.tup [x',y'])
   refine step D i x' y' us H2 _ pt σ0 _ _ h0 hD e s s3 upd_same hlt (hx xs q) (hy ys q') hu p (fun v H6 s6 p6=>?_) fun H5 s5 p5=>?_
   ·refine ⟨(s3.trans s6) _ _ e,N0'-(i+1),by (first | lia | omega),upd_same,same_at (s.trans (s3.trans s6)) hD,?_,by (first | lia | omega),rfl,?_⟩
    ·rw [List.length_append,List.length_singleton];(first | lia | omega)
    ·rw [rm_upd];exact p6
   ·exact ⟨N0'-(i+1),by (first | lia | omega),(s3.trans s5) _ _ e,s.trans (s3.trans s5),by (first | lia | omega),by (first | lia | omega),rfl,p5⟩
  ·have ei:i=N0':=by (first | lia | omega)
   subst ei
   exact .inl ⟨⟨xs,ys,q,q',hn⟩,done D us H2 hD e s hu p⟩
end
end My
namespace Jd
open PySem PySem.Spec PyProof.Rows L2 My
theorem pi_zip {X:Cx} (K:PySem.W.Frag) {a b:Expr} {ta:TA} {p pos:Pos} {elts:List Expr} {kt:Nat} {tpos:Pos} (hg:Gl X "zip") (hm:X.mg "zip"=none) (ha:QA X [a,b] ta) (hs:autoParam (starEach [a,b] X.env=(false,eval a X.env)::starEach [b] X.env) au0_._auto_1) (hs2:autoParam (starEach [b] X.env=[(false,eval b X.env)]) au0_._auto_1) (hK:autoParam (X.K=K) au0_._auto_1) :
 QI X (.Tuple elts kt tpos) (.Call (.Name "zip" p) [a,b] [] pos) (iZip K ta):=⟨My.pi_zip K hg hm ha.h hs hs2 hK⟩
end Jd

namespace My
open PySem PySem.Spec PyProof.Rows L2 Mth
noncomputable def Fx (K:PySem.W.Frag) (x:Str) (st:Stmt):Prop:=∃(f:Addr) (fd:FuncData),PySem.W.nsIn K mainGlobals x=some (some (.ref f))∧Fun K x x st f fd
noncomputable def Fm (K:PySem.W.Frag) (C:Addr) (m q:Str) (st:Stmt):Prop:=∃(f:Addr) (fd:FuncData),PySem.W.findIn K (.ref C) m=some (some (.ref f))∧PySem.W.isFn K (.ref f)=true∧Fun K m q st f fd
noncomputable def Fi (K:PySem.W.Frag) (C:Addr) (q:Str) (st:Stmt):Prop:=∃(f:Addr) (fd:FuncData),PySem.W.findIn K (.ref C) "__init__"=some (some (.ref f))∧ownInit K C f=true∧PySem.W.isFn K (.ref f)=true∧Fun K "__init__" q st f fd
section
variable {K:PySem.W.Frag} {x m q:Str} {st:Stmt} {f C:Addr} {oc:Value} {od an:Option Addr} {osl:Array (Option Value)} {kV doc pm cdv ct:Value}
theorem fx_mk (a:PySem.W.nsIn K mainGlobals x=some (some (.ref f))) (l:K.lookup f=some ⟨oc,od,.func (PySem.W.fnOf x x (defArgs st) (defBody st) (defScope st) .none kV doc pm an cdv ct),osl⟩) (c:PySem.W.codeIn K cdv x=true) (k:PySem.W.keepIn K (.ref f)=true):Fx K x st:=⟨f,_,a,fun_mk l c k⟩
theorem fi_mk (a:PySem.W.findIn K (.ref C) "__init__"=some (some (.ref f))) (o:ownInit K C f=true) (i:PySem.W.isFn K (.ref f)=true) (l:K.lookup f=some ⟨oc,od,.func (PySem.W.fnOf "__init__" q (defArgs st) (defBody st) (defScope st) .none kV doc pm an cdv ct),osl⟩) (c:PySem.W.codeIn K cdv q=true) (k:PySem.W.keepIn K (.ref f)=true):Fi K C q st:=⟨f,_,a,o,i,fun_mk l c k⟩
theorem fm_mk (a:PySem.W.findIn K (.ref C) m=some (some (.ref f))) (i:PySem.W.isFn K (.ref f)=true) (l:K.lookup f=some ⟨oc,od,.func (PySem.W.fnOf m q (defArgs st) (defBody st) (defScope st) .none kV doc pm an cdv ct),osl⟩) (c:PySem.W.codeIn K cdv q=true) (k:PySem.W.keepIn K (.ref f)=true):Fm K C m q st:=⟨f,_,a,i,fun_mk l c k⟩
end
section
variable (P:Program) (w:World) (base:Heap) {K:PySem.W.Frag} {mg:Str→Option Value} {h:Heap} {k:Nat} {x m q:Str} {ps:List Str} {sp:Sp} {st:Stmt} {f C:Addr} {fd:FuncData}
theorem dnm (X:K.In h) (G:h.Ns mainGlobals mg) (a:PySem.W.nsIn K mainGlobals x=some (some (.ref f))) (F:Fun K x x st f fd) (ok:FnOk P w K mg base CX0 k f fd ps sp) (b:Binds K fd ps []):Dn P w K mg base k x ps sp:=dn_mk F ok (PySem.W.mg_of X G a) b
end
end My

namespace My
open PySem PySem.Spec PyProof.Rows L2 Mth
noncomputable def bls (bs:List Bool):List V:=bs.map V.bl
noncomputable def rAll (K:PySem.W.Frag):List V→Hp→VK→Prop:=fun xs H Q=>∃(l:Addr) (bs:List Bool),xs=[.ref l]∧SqL K H l (bls bs)∧Q (.bl (bs.all id)) H
theorem bools_of:∀{bs:List Bool} {its:List Value},Vals (bls bs) its→PyProof.Rows.LSm.BoolsAre its bs
 | [],_,.nil=>.nil
 | b::_,_,.cons r rr=>by
   cases (show _=Value.bool b from r)
   exact .cons b (bools_of rr)
theorem allC {X:Cx} (K:PySem.W.Frag) (hc:X.calm=true) (hK:autoParam (X.K=K) au0_._auto_1):CallR X (.builtin "all") (rAll K):=by
 subst hK
 intro pins s σ H xs us Q I r h
 obtain ⟨l,bs,rfl,hq,q⟩:=h
 obtain ⟨u,rfl,rx⟩:=vals1 r
 cases rx
 obtain ⟨its,rv,p,hz⟩:=I.list hq
 have hb:=bools_of rv
 have hl:=p.isList
 have hlt:l<s.heap.objs.size:=by obtain ⟨_,e,_⟩:=hl;exact Heap.lt_size e
 refine call_all_walk (wpAny_pyIter_list hl ⟨s.heap.objs.size,[s.heap.objs.size,l],[s.heap.objs.size],its.toArray.size,_,_,fun i=>(bs[i]?).getD true,rfl,
  Walks.list (A:=X.A.in1) (I.ok.hd hc) _ l (Nat.ne_of_lt hlt) its.toArray,⟨⟨_,Heap.get?_push_size _ rfl,rfl,rfl⟩,hl.push _⟩,fun i v s' Q' E' hP hQ=>?_,fun h' tk hk=>?_⟩)
 ·obtain ⟨b,e,rfl⟩:=hb.get i v (by simpa using hP)
  simp only [e,Option.getD_some] at hQ
  exact wpAny_truthy_bool hQ
 ·have e:((List.range its.toArray.size).all fun i=>(bs[i]?).getD true)=bs.all id:=by
   rw [List.size_toArray,hb.length];exact PyProof.Rows.LSm.range_all bs
  rw [e]
  exact ⟨.bl _,H,I.kept (t':=tk) (PyProof.Rows.LSm.kept_iter hk),rfl,q⟩
end My
namespace Jd
open PySem PySem.Spec PyProof.Rows L2 Mth
end Jd
namespace My
open PySem PySem.Spec PyProof.Rows L2 Mth
section
variable {σ:L2.St} {H:Hp} {Q:VK} {K:PySem.W.Frag}
theorem r_sl {r:V→Option Int→Option Int→Hp→VK→Prop} {te:L2.TE} {tl th:L2.TO} (h:te σ H fun x H1=>tl σ H1 fun l H2=>th σ H2 fun u H3=>r x l u H3 Q):tSl r te tl th σ H Q:=h
theorem r_part {t:L2.TE} {R:Option Int→Hp→Prop} (h:t σ H fun x H1=>∃i,x=.int i∧R (some i) H1):tPart t σ H R:=h
theorem r_nopart {R:Option Int→Hp→Prop} (h:R none H):tNoPart σ H R:=h
theorem r_pi {i:Int} {R:Int→Prop} (h:R i):∃j,V.int i=V.int j∧R j:=⟨i,rfl,h⟩
theorem cutk (xs:List V) (n:Nat):cutV xs (some (n:Int)) none=xs.drop n:=by
 unfold cutV
 rw [HT.sIx_nat,show HT.sIx xs.length xs.length none=xs.length from rfl]
 rcases Nat.le_total n xs.length with z | z
 ·rw [Nat.min_eq_left z]
  exact List.take_of_length_le (by rw [List.length_drop];exact Nat.le_refl _)
 ·rw [Nat.min_eq_right z,List.drop_of_length_le z,List.drop_of_length_le (Nat.le_refl _)]
  simp
theorem r_slL {a:Addr} {xs:List V} {lo hi:Option Int} (h:H a=some (.lst xs)) (k:∀(p:Addr) (H':Hp),Same H H'→H p=none→H' p=some (.lst (cutV xs lo hi))→Q (.ref p) H'):rSlL K (.ref a) lo hi H Q:=
 ⟨a,xs,rfl,SqL.of h,fun p hp=>k p _ (same_new hp _) hp upd_same⟩
theorem r_all {l:Addr} {bs:List Bool} (h:H l=some (.lst (bls bs))) (q:Q (.bl (bs.all id)) H):rAll K [.ref l] H Q:=⟨l,bs,rfl,SqL.of h,q⟩
end
mutual
theorem Den.up {H H':Hp} (s:Same H H'):∀{v:V} {d:PyData},Den H v d→Den H' v d
 | _,_,.non=>.non
 | _,_,.bl b=>.bl b
 | _,_,.int i=>.int i
 | _,_,.str x=>.str x
 | _,_,.tup e dd=>.tup (s _ _ e) (Dens.up s dd)
 | _,_,.lst e dd=>.lst (s _ _ e) (Dens.up s dd)
theorem Dens.up {H H':Hp} (s:Same H H'):∀{vs:List V} {ds:List PyData},Dens H vs ds→Dens H' vs ds
 | _,_,.nil=>.nil
 | _,_,.cons d dd=>.cons (Den.up s d) (Dens.up s dd)
end
end My

namespace My
open PySem PySem.Spec PySem.Calls PyProof.Rows L2 Mth
end My
namespace My
open PySem PySem.Spec PySem.Calls PyProof.Rows L2 Mth
end My

namespace My
open PySem PySem.Spec PySem.Calls PySem.NumText PyProof.Rows PySem.W
end My
namespace My
open PySem PySem.Spec PySem.Calls PyProof.Rows L2 Mth
end My

namespace My
open PySem PySem.Spec PySem.Calls PyProof.Rows L2 Mth
structure FunD (K:PySem.W.Frag) (x qual:Str) (st:Stmt) (f:Addr) (fd:FuncData) (d:Value):Prop where
 ex:∃(T:Addr) (oc:Value) (od:Option Addr) (kV doc pm:Value) (an:Option Addr) (cdv ct:Value) (osl:Array (Option Value)) (tc:Value) (td:Option Addr) (tn:Nat) (tsl:Array (Option Value)),
  fd=PySem.W.fnOf x qual (defArgs st) (defBody st) (defScope st) (.ref T) kV doc pm an cdv ct∧K.lookup f=some ⟨oc,od,.func fd,osl⟩∧PySem.W.codeIn K cdv qual=true∧K.lookup T=some ⟨tc,td,.seq #[d] tn,tsl⟩
 kp:PySem.W.keepIn K (.ref f)=true
section
variable {P:Program} {w:World} {K:PySem.W.Frag} {mg:Str→Option Value} {base:Heap} {x qual:Str} {st:Stmt} {f:Addr} {fd:FuncData} {d:Value} {N ps:List Str} {k:Nat} {sp:Sp}
theorem FunD.ok (F:FunD K x qual st f fd d) (S:FnScope N ps (defScope st)) (len:∀vs H Q E,sp vs H Q E→vs.length=ps.length)
 (hbody:∀(cdv:Value) (A:Around) (outer:List Env) (s:Shared) (H:Hp) (vs:List V) (Q:VK) (E:XK),Room k (A.deeper (envOfC qual (defScope st) s.heap.objs.size f cdv))→sp vs H Q E →
   ∃t,PSs (cxOf CX0 P w K mg base N qual (defScope st) f cdv A outer s H E).nox (defBody st) t∧t { nx:=fun _ H'=>Q .non H',rt:=Q } (start N vs) H):FnOk P w K mg base CX0 (k+1) f fd ps sp:=by
 obtain ⟨T,oc,od,kV,doc,pm,an,cdv,ct,osl,tc,td,tn,tsl,rfl,lk,hcd,_⟩:=F.ex
 refine fn_of lk hcd S len fun A outer s H vs Q E hr hsp=>?_
 obtain ⟨t,h,q⟩:=hbody cdv A outer s H vs Q E hr hsp
 exact ⟨t,h.nox,q⟩
end
noncomputable def Fxd (K:PySem.W.Frag) (x:Str) (st:Stmt) (i:Int):Prop:=∃(f:Addr) (fd:FuncData) (tk:Tok),PySem.W.nsIn K mainGlobals x=some (some (.ref f))∧FunD K x x st f fd (.int i tk)
theorem fxd_mk {K:PySem.W.Frag} {x:Str} {st:Stmt} {i:Int} {f T:Addr} {oc tc:Value} {od an td:Option Addr} {osl tsl:Array (Option Value)} {kV doc pm cdv ct:Value} {tk:Tok} {tn:Nat} (a:PySem.W.nsIn K mainGlobals x=some (some (.ref f)))
 (l:K.lookup f=some ⟨oc,od,.func (PySem.W.fnOf x x (defArgs st) (defBody st) (defScope st) (.ref T) kV doc pm an cdv ct),osl⟩) (t:K.lookup T=some ⟨tc,td,.seq #[.int i tk] tn,tsl⟩) (c:PySem.W.codeIn K cdv x=true) (k:PySem.W.keepIn K (.ref f)=true):Fxd K x st i:=
 ⟨f,_,tk,a,⟨T,oc,od,kV,doc,pm,an,cdv,ct,osl,tc,td,tn,tsl,rfl,l,c,t⟩,k⟩
section
variable {X:Cx} {k:Nat} {x:Str} {ps:List Str} {sp:Sp} {i:Int} {p pos:Pos} {e:Expr} {es:List Expr} {t:TA} {E:XK}
theorem r_callD {σ:L2.St} {H:Hp} {Q:VK} {ts:TA} {v:V} (h:ts σ H fun vs H1=>sp (vs++[v]) H1 Q E):tCall sp [v] E ts σ H Q:=h
end
end My
namespace Jd
open PySem PySem.Spec PyProof.Rows L2 My
section
variable {X:Cx} {k:Nat} {x:Str} {ps:List Str} {sp:Sp} {i:Int} {p pos:Pos} {e:Expr} {es:List Expr} {t:TA} {E:XK} {tg l:Expr} {tl:TE}
end
section
variable {X:Cx} (K:PySem.W.Frag) {o e:Expr} {to te:TE} {apos cpos:Pos} {name:Str} {id:String} {r:V→List V→Hp→VK→Prop}
end
end Jd

namespace My
open PySem PySem.Spec PySem.Calls PyProof.Rows L2 Mth
section
variable {X:Cx} {k:Nat} {xf:Str} {ps:List Str} {sp:Sp} {p pos epos:Pos} {ae:Expr} {es:List Expr} {ta:TA} {x1 nm:Str} {j:Nat} {C1:Addr} {b1:Stmt} {su1:List Stmt} {np1 hp1 tpos:Pos} {t1:Addr→Value→Option Addr→TS}
end
end My
namespace Jd
open PySem PySem.Spec PyProof.Rows L2 My
section
variable {X:Cx} {k:Nat} {xf:Str} {ps:List Str} {sp:Sp} {p pos epos:Pos} {ae:Expr} {es:List Expr} {ta:TA} {x1 nm:Str} {j:Nat} {C1:Addr} {b1:Stmt} {su1:List Stmt} {np1 hp1 tpos:Pos} {t1:Addr→Value→Option Addr→TS}
end
end Jd

namespace My
open PySem PySem.Spec PyProof.Rows L2 Mth
end My
namespace Jd
open PySem PySem.Spec PyProof.Rows L2 Mth My
end Jd

namespace My
open PySem PySem.Spec PyProof.Rows L2 Mth
section
variable {M:Model} {A:Around} {E:Value→Shared→Prop} {s:Shared}
end
section
variable {X:Cx} {body suite:List Stmt} {b0:Stmt} {tb:XK→TS} {ts:TS} {x:Str} {Cc:Addr} {np hpos pos:Pos}
end
section
variable {X:Cx} {scope:Scope} {cl:List (Str×Addr)} {NN:List Str} {E:XK}
end
section
variable {X:Cx} {E:XK} {elt iter tg:Expr} {ifs:List Expr} {pos:Pos} {scope:Scope} {cl:List (Str×Addr)} {wi:TI} {te:TE} {tt:TT} {g:TG} {O N':List Str} {cap:List Nat} {n:Nat}
end
section
variable {X:Cx} {E:XK} {c elt iter tg:Expr} {ifs:List Expr} {pos:Pos} {scope:Scope} {wi:TI} {te:TE} {tt:TT} {g:TG} {O N':List Str} {cap:List Nat} {n:Nat}
end
end My
namespace Jd
open PySem PySem.Spec PyProof.Rows L2 My
section
variable {X:Cx} {E:XK} {c elt iter tg:Expr} {ifs:List Expr} {pos:Pos} {scope:Scope} {wi:TI} {te:TE} {tt:TT} {g:TG} {O N':List Str} {cap:List Nat} {n:Nat}
end
section
variable {X:Cx} {body suite:List Stmt} {b0:Stmt} {tb:XK→TS} {ts:TS} {x:Str} {Cc:Addr} {np hpos pos:Pos}
end
end Jd

namespace My
open PySem PySem.Spec PySem.Calls PyProof.Rows L2 Mth
noncomputable def rSum (K:PySem.W.Frag):List V→Hp→VK→Prop:=fun xs H Q=>∃(l:Addr) (ns:List Int),xs=[.ref l]∧SqL K H l (ns.map V.int)∧Q (.int ns.sum) H
theorem sumL {X:Cx} (K:PySem.W.Frag) (hc:X.calm=true) (hK:autoParam (X.K=K) au0_._auto_1):CallR X (.builtin "sum") (rSum K):=by
 subst hK
 intro pins s σ H xs us Q I r h
 obtain ⟨l,ns,rfl,hq,q⟩:=h
 obtain ⟨u,rfl,rx⟩:=vals1 r
 cases rx
 obtain ⟨its,rv,p,hz⟩:=I.list hq
 have hi:=intsAre_of rv
 obtain ⟨ys,e⟩:=hi.allInts.items
 have hns:ns=ys.toList.map (·.1):=by
  have h2:=nums_intItems ys
  rw [← e] at h2
  exact hi.numsOf.symm.trans h2
 have hp':s.heap.IsList l (intItems ys):=by rw [← e];exact p.isList
 refine sum_intListG (I.ok.hd hc) hp' fun h' tk t' hk=>?_
 rw [preSum_eq,List.take_of_length_le (by simp),← hns]
 exact ⟨.int _,H,I.kept hk,⟨t',rfl⟩,q⟩
theorem r_sum {K:PySem.W.Frag} {H:Hp} {Q:VK} {l:Addr} {ns:List Int} (h:H l=some (.lst (ns.map V.int))) (q:Q (.int ns.sum) H):rSum K [.ref l] H Q:=⟨l,ns,rfl,SqL.of h,q⟩
noncomputable def Gt (K:PySem.W.Frag) (x:Str) (a:Addr) (z1 z2 z3 z4:Str):Prop:=PySem.W.nsIn K mainGlobals x=some (some (.ref a))∧∀H,SqT K H a [.str z1,.str z2,.str z3,.str z4]
theorem gt_mk {K:PySem.W.Frag} {x z1 z2 z3 z4:Str} {a:Addr} {td:Option Addr} {t1 t2 t3 t4:Tok} {n:Nat} {sl:Array (Option Value)} (h:PySem.W.nsIn K mainGlobals x=some (some (.ref a)))
 (l:K.lookup a=some ⟨.type "tuple",td,.seq #[.str z1 t1,.str z2 t2,.str z3 t3,.str z4 t4] n,sl⟩):Gt K x a z1 z2 z3 z4:=
 ⟨h,fun _=>.inr ⟨_,_,_,l,rfl,rfl,by show 4≤sizeLine;decide,.cons ⟨t1,rfl⟩ (.cons ⟨t2,rfl⟩ (.cons ⟨t3,rfl⟩ (.cons ⟨t4,rfl⟩ .nil)))⟩⟩
noncomputable def Fxb (K:PySem.W.Frag) (x:Str) (st:Stmt) (b:Bool):Prop:=∃(f:Addr) (fd:FuncData),PySem.W.nsIn K mainGlobals x=some (some (.ref f))∧FunD K x x st f fd (.bool b)
theorem fxb_mk {K:PySem.W.Frag} {x:Str} {st:Stmt} {b:Bool} {f T:Addr} {oc tc:Value} {od an td:Option Addr} {osl tsl:Array (Option Value)} {kV doc pm cdv ct:Value} {tn:Nat} (a:PySem.W.nsIn K mainGlobals x=some (some (.ref f)))
 (l:K.lookup f=some ⟨oc,od,.func (PySem.W.fnOf x x (defArgs st) (defBody st) (defScope st) (.ref T) kV doc pm an cdv ct),osl⟩) (t:K.lookup T=some ⟨tc,td,.seq #[.bool b] tn,tsl⟩) (c:PySem.W.codeIn K cdv x=true) (k:PySem.W.keepIn K (.ref f)=true):Fxb K x st b:=
 ⟨f,_,a,⟨T,oc,od,kV,doc,pm,an,cdv,ct,osl,tc,td,tn,tsl,rfl,l,c,t⟩,k⟩
structure DnB (P:Program) (w:World) (K:PySem.W.Frag) (mg:Str→Option Value) (base:Heap) (k:Nat) (x:Str) (ps:List Str) (sp:Sp) (b:Bool):Prop where
 ex:∃(f:Addr) (fd:FuncData),FnOk P w K mg base CX0 k f fd ps sp∧mg x=some (.ref f)∧PySem.W.keepIn K (.ref f)=true∧Binds K fd ps []∧Binds K fd ps [.bool b]
theorem DnB.two {P:Program} {w:World} {K:PySem.W.Frag} {mg:Str→Option Value} {base:Heap} {k:Nat} {x:Str} {ps:List Str} {sp:Sp} {b:Bool} (D:DnB P w K mg base k x ps sp b):Dn P w K mg base k x ps sp:=
 let ⟨f,fd,a,b,c,d,_⟩:=D.ex;⟨f,fd,a,b,c,d⟩
theorem FunD.binds6 {K:PySem.W.Frag} {x qual:Str} {st:Stmt} {f:Addr} {fd:FuncData} {d:Value} (F:FunD K x qual st f fd d) {p1 p2 p3 p4 p5 p6:Str}
 (h2:∀(T:Addr) (kV doc pm:Value) (an:Option Addr) (cdv ct a b c e g i:Value),∃k,bindArgs (PySem.W.fnOf x qual (defArgs st) (defBody st) (defScope st) (.ref T) kV doc pm an cdv ct) ⟨[a,b,c,e,g,i],[]⟩=seqItems? (.ref T) >>= k∧k (some #[d])=pure [(p1,a),(p2,b),(p3,c),(p4,e),(p5,g),(p6,i)])
 (h1:∀(T:Addr) (kV doc pm:Value) (an:Option Addr) (cdv ct a b c e g:Value),∃k,bindArgs (PySem.W.fnOf x qual (defArgs st) (defBody st) (defScope st) (.ref T) kV doc pm an cdv ct) ⟨[a,b,c,e,g],[]⟩=seqItems? (.ref T) >>= k∧k (some #[d])=pure [(p1,a),(p2,b),(p3,c),(p4,e),(p5,g),(p6,d)]) :
 Binds K fd [p1,p2,p3,p4,p5,p6] []∧Binds K fd [p1,p2,p3,p4,p5,p6] [d]:=by
 obtain ⟨T,oc,od,kV,doc,pm,an,cdv,ct,osl,tc,td,tn,tsl,rfl,lk,hcd,ht⟩:=F.ex
 constructor
 ·intro s us X hl
  have hl:us.length=6:=by rw [List.append_nil] at hl;exact hl
  match us,hl with
  | [a,b,c,e,g,i],_=>
    obtain ⟨k,q,r⟩:=h2 T kV doc pm an cdv ct a b c e g i
    exact BindsTo.of_defaults rfl (X _ _ ht) rfl q r
 ·intro s us X hl
  have hl:us.length=5:=by
   rw [List.length_append] at hl
   have:us.length+1=6:=hl
   omega
  match us,hl with
  | [a,b,c,e,g],_=>
    obtain ⟨k,q,r⟩:=h1 T kV doc pm an cdv ct a b c e g
    exact BindsTo.of_defaults rfl (X _ _ ht) rfl q r
theorem pe_db {X:Cx} {k:Nat} {x:Str} {ps:List Str} {sp:Sp} {b:Bool} {p pos:Pos} {e:Expr} {es:List Expr} {t:TA} (D:DnB X.prog X.w X.K X.mg X.base k x ps sp b) (hr:Room k X.A) (hg:Gl X x) (ha:PA X (e::es) t) (hdb:autoParam ((x==("__debug__":Str))=false) au1_._auto_1)
 (he:autoParam (starEach (e::es) X.env=(false,eval e X.env)::starEach es X.env) au0_._auto_1) (hpl:autoParam ((backTo pos (starEach es X.env)).any (·.1)=false) au0_._auto_1):PE X (.Call (.Name x p) (e::es) [] pos) (tCall sp [.bl b] E0 t):=by
 obtain ⟨f,fd,ok,hm,hk,_,hb⟩:=D.ex
 exact pe_call ok hr hg hm hk hb (.cons rfl .nil) pass0 ha hdb he hpl
end My
namespace Jd
open PySem PySem.Spec PyProof.Rows L2 My
theorem pe_db {X:Cx} {k:Nat} {x:Str} {ps:List Str} {sp:Sp} {b:Bool} {p pos:Pos} {e:Expr} {es:List Expr} {t:TA} (D:DnB X.prog X.w X.K X.mg X.base k x ps sp b) (hr:Room k X.A) (hg:Gl X x) (ha:QA X (e::es) t) (hdb:autoParam ((x==("__debug__":Str))=false) au1_._auto_1)
 (he:autoParam (starEach (e::es) X.env=(false,eval e X.env)::starEach es X.env) au0_._auto_1) (hpl:autoParam ((backTo pos (starEach es X.env)).any (·.1)=false) au0_._auto_1):QE X (.Call (.Name x p) (e::es) [] pos) (tCall sp [.bl b] E0 t):=⟨My.pe_db D hr hg ha.h hdb he hpl⟩
end Jd

namespace My
open PySem PySem.Spec PyProof.Rows L2 Mth
end My
namespace Jd
open PySem PySem.Spec PyProof.Rows L2 Mth
end Jd
namespace My
open PySem PySem.Spec PyProof.Rows L2 Mth
noncomputable def rDIn (n:Bool):R2:=fun y x H Q=>∃a o,x=.ref a∧DGet H a y o∧Q (.bl (if n then !o.isSome else o.isSome)) H
theorem op_dIn {X:Cx} (hu:X.A.units+64<cLine):OpR X (compareOp .In) (rDIn false):=by
 intro pins s σ H y x v u Q I ry rx h
 obtain ⟨a,o,rfl,g,q⟩:=h
 cases rx
 exact d_in (by omega) I g ry fun s3 I3=>⟨.bl o.isSome,H,I3,rfl,q⟩
theorem op_dNin {X:Cx} (hu:X.A.units+64<cLine):OpR X (compareOp .NotIn) (rDIn true):=by
 intro pins s σ H y x v u Q I ry rx h
 obtain ⟨a,o,rfl,g,q⟩:=h
 cases rx
 exact d_notIn (by omega) I g ry fun s3 I3=>⟨.bl (!o.isSome),H,I3,rfl,q⟩
theorem r_dget {td ty:TE} {σ:L2.St} {H:Hp} {Q:VK} (h:td σ H fun x H1=>ty σ H1 fun y H2=>∃a v,x=.ref a∧DGet H2 a y (some v)∧Q v H2):tDGet td ty σ H Q:=h
theorem r_dput {td ty tv:TE} {σ:L2.St} {H:Hp} {D:Ends} (h:tv σ H fun v H1=>td σ H1 fun x H2=>ty σ H2 fun y H3=>∃a H4,x=.ref a∧DPut H3 a y v H4∧D.nx σ H4):sDPut td ty tv D σ H:=h
theorem r_dnewK {σ:L2.St} {H:Hp} {Q:VK} (h:∀(p:Addr) (H':Hp),Same H H'→H p=none→H' p=some (.dK [])→Q (.ref p) H'):tDNewK σ H Q:=fun p np=>h p _ (same_new np _) np upd_same
theorem r_dnewT {σ:L2.St} {H:Hp} {Q:VK} (h:∀(p:Addr) (H':Hp),Same H H'→H p=none→H' p=some (.dT [])→Q (.ref p) H'):tDNewT σ H Q:=fun p np=>h p _ (same_new np _) np upd_same
end My
namespace Jd
open PySem PySem.Spec PyProof.Rows L2 My
theorem pe_dnewK {X:Cx} {pos:Pos}:QE X (.Dict [] [] pos) tDNewK:=⟨L2.pe_dnewK⟩
theorem pe_dnewT {X:Cx} {pos:Pos}:QE X (.Dict [] [] pos) tDNewT:=⟨L2.pe_dnewT⟩
theorem pe_dget {X:Cx} {o i:Expr} {pos:Pos} {td ty:TE} (hu:X.A.units+64<cLine) (ho:QE X o td) (hi:QE X i ty) (hs:NoSl i):QE X (.Subscript o i pos) (tDGet td ty):=⟨L2.pe_dget (by omega) ho.h hi.h hs⟩
theorem ps_dput {X:Cx} {o i value:Expr} {pos pos':Pos} {td ty tv:TE} (hu:X.A.units+64<cLine) (ho:QE X o td) (hi:QE X i ty) (hv:QE X value tv) (hs:autoParam (swapsWith value (some (.Subscript o i pos')) pos.line X.env=pure false) au0_._auto_1) :
 QS X (.Assign [.Subscript o i pos'] value pos) (sDPut td ty tv):=⟨L2.ps_dput (by omega) ho.h hi.h hv.h hs⟩
end Jd
noncomputable abbrev J.a:=@Jd.pv
noncomputable abbrev J.b:=@Jd.pa_cons
noncomputable abbrev J.c:=@Jd.pe_int
noncomputable abbrev J.d:=@Jd.pa_nil
noncomputable abbrev J.e:=@Jd.pe_ix
noncomputable abbrev J.f:=@Jd.pss_cons
noncomputable abbrev J.g:=@Jd.pe_op
noncomputable abbrev J.h:=@Jd.pss_one
noncomputable abbrev J.i:=@Jd.ps_set
noncomputable abbrev J.j:=@Jd.pt_cmpR
noncomputable abbrev J.k:=@Jd.ps_ret
noncomputable abbrev J.l:=@Jd.pe_dn
noncomputable abbrev J.m:=@Jd.ps_if
noncomputable abbrev J.n:=@Jd.pg_name
noncomputable abbrev J.o:=@Jd.pss_nil
noncomputable abbrev J.p:=@Jd.pe_callB
noncomputable abbrev J.q:=@Jd.go
noncomputable abbrev J.r:=@Jd.pe_tup
noncomputable abbrev J.s:=@Jd.pe_lst
noncomputable abbrev J.t:=@Jd.ps_for
noncomputable abbrev J.u:=@Jd.pe_non
noncomputable abbrev J.v:=@Jd.pgs_cons
noncomputable abbrev J.w:=@Jd.piL
noncomputable abbrev J.x:=@Jd.ps_expr
noncomputable abbrev J.y:=@Jd.appC
noncomputable abbrev J.z:=@Jd.pe_un
noncomputable abbrev J.aa:=@Jd.PWpt
noncomputable abbrev J.ab:=@Jd.pe_bl
noncomputable abbrev J.ac:=@Jd.pe_cmpR
noncomputable abbrev J.ad:=@Jd.pt_val
noncomputable abbrev J.ae:=@Jd.pgs_nil
noncomputable abbrev J.af:=@Jd.pe_callTy
noncomputable abbrev J.ag:=@Jd.pts_nil
noncomputable abbrev J.ah:=@Jd.ps_asg
noncomputable abbrev J.ai:=@Jd.pe_slice
noncomputable abbrev J.aj:=@Jd.po_none
noncomputable abbrev J.ak:=@Jd.po_some
noncomputable abbrev J.al:=@Jd.pi_range1
noncomputable abbrev J.am:=@Jd.pw_and
noncomputable abbrev J.an:=@Jd.ps_comp
noncomputable abbrev J.ao:=@Jd.pw_and1
noncomputable abbrev J.ap:=@Jd.pi_range2
noncomputable abbrev J.aq:=@Jd.pe_ifExp
local macro_rules | `(tactic| walk_at "v") => `(tactic| repeat (first
  | with_reducible refine My.r_seq ?_
  | with_reducible refine My.r_set ?_
  | with_reducible refine My.r_ret ?_
  | with_reducible refine My.r_drop ?_
  | with_reducible refine My.r_if ?_
  | with_reducible refine My.r_next ?_
  | with_reducible refine My.r_cont ?_
  | with_reducible refine My.r_break ?_
  | with_reducible refine My.r_chain ?_
  | with_reducible refine My.r_chain4 ?_
  | with_reducible refine My.r_link ?_
  | with_reducible refine My.r_end ?_
  | with_reducible refine My.r_fld ?_
  | with_reducible refine My.r_sfld ?_
  | with_reducible refine My.r_meth ?_
  | with_reducible refine My.r_make ?_
  | ((with_reducible refine' My.r_var ?e1 ?_); (case e1 => rfl))
  | with_reducible refine My.r_c ?_
  | with_reducible refine My.r_op ?_
  | with_reducible refine My.r_un ?_
  | with_reducible refine My.r_I0 ?_
  | with_reducible refine My.r_U ?_
  | with_reducible refine My.r_test ?_
  | with_reducible refine My.r_B ?_
  | with_reducible refine My.r_bl ?_
  | with_reducible refine My.r_cb ?_
  | with_reducible refine My.r_cons ?_
  | with_reducible refine My.r_nil ?_
  | with_reducible refine My.r_tup ?_
  | with_reducible refine My.r_lst ?_
  | with_reducible refine My.r_call ?_
  | with_reducible refine My.r_try ?_
  | with_reducible refine My.r_tryAs ?_
  | with_reducible refine My.r_tryAsD ?_
  | with_reducible refine My.r_try2 ?_
  | with_reducible refine My.r_try1 ?_
  | with_reducible refine My.r_atx ?_
  | with_reducible refine My.r_raiseI ?_
  | with_reducible refine My.r_callX ?_
  | with_reducible refine My.r_callD ?_
  | with_reducible refine My.r_raise ?_
  | with_reducible refine My.r_par ?_
  | with_reducible refine My.r_g ?_
  | with_reducible refine My.r_absC ?_
  | with_reducible refine My.r_bits ?_
  | with_reducible refine My.r_comp ?_
  | with_reducible refine My.r_yes ?_
  | with_reducible refine My.r_gsub ?_
  | with_reducible refine My.r_rev ?_
  | with_reducible refine My.r_max ?_
  | with_reducible refine My.r_min ?_
  | with_reducible refine My.r_two ?_
  | with_reducible refine My.r_bm ?_
  | ((with_reducible refine My.r_I ?e7 ?_); (case e7 => first | decide | assumption | exact ⟨by decide, by decide, by decide⟩ | (show (0 : Int) < _; first | decide | omega) | exact My.mulR (by decide) (by decide) | exact My.mulL (by decide) (by decide)))
  | with_reducible refine My.r_not ?_
  | with_reducible refine My.r_and ?_
  | with_reducible refine My.r_or ?_
  | with_reducible refine My.r_andV ?_
  | with_reducible refine My.r_orV ?_
  | with_reducible refine My.r_notV ?_
  | with_reducible refine My.r_ife ?_
  | ((with_reducible refine My.r_eq ?e2 ?_); (case e2 => rfl))
  | ((with_reducible refine My.r_ne ?e3 ?_); (case e3 => rfl))
  | ((with_reducible refine' My.r_t0 ?e4 ?_); (case e4 => assumption))
  | ((with_reducible refine' My.r_t1 ?e5 ?_); (case e5 => assumption))
  | ((with_reducible refine' My.r_t2 ?e6 ?_); (case e6 => assumption))
  | ((with_reducible refine' My.r_t3 ?e8 ?_); (case e8 => assumption))))
local macro_rules | `(tactic| walk_at "o") => `(tactic| first
 | assumption
 | exact Nat.le_of_lt (by assumption)
 | exact Nat.lt_trans (by assumption) (by assumption)
 | exact Nat.lt_of_lt_of_le (by assumption) (by assumption)
 | exact Nat.le_trans (by assumption) (by assumption)
 | exact Int.le_of_lt (by assumption)
 | exact Int.ne_of_gt (by assumption)
 | exact Int.ne_of_lt (by assumption)
 | exact Int.natCast_nonneg _
 | lia
 | omega)
local macro_rules | `(tactic| walk_at "fx") => `(tactic| (refine' My.fx_mk ?a ?l ?c ?k; (case a => k_is); (case l => k_is); (case c => k_is); (case k => k_is)))
local macro_rules | `(tactic| walk_at "fm") => `(tactic| (refine' My.fm_mk ?a ?i ?l ?c ?k; (case a => k_is); (case i => k_is); (case l => k_is); (case c => k_is); (case k => k_is)))
local macro_rules | `(tactic| walk_at "fi") => `(tactic| (refine' My.fi_mk ?a ?o ?i ?l ?c ?k; (case a => k_is); (case o => kernel_rfl); (case i => k_is); (case l => k_is); (case c => k_is); (case k => k_is)))
local macro_rules | `(tactic| walk_at "fd") => `(tactic| (refine' My.fxd_mk ?a ?l ?t ?c ?k; (case a => k_is); (case l => k_is); (case t => k_is); (case c => k_is); (case k => k_is)))
local macro_rules | `(tactic| walk_at "fb") => `(tactic| (refine' My.fxb_mk ?a ?l ?t ?c ?k; (case a => k_is); (case l => k_is); (case t => k_is); (case c => k_is); (case k => k_is)))
local macro_rules | `(tactic| walk_at "fg") => `(tactic| (refine' My.gt_mk ?h ?l; (case h => k_is); (case l => k_is)))
local macro_rules | `(tactic| walk_at "fz") => `(tactic| first | walk_at "fx" | walk_at "fd" | walk_at "fb" | walk_at "fg" | walk_at "fm" | walk_at "fi" | k_is | k_exc | kts_exm | kit_is)
local macro_rules | `(tactic| walk_at "vs") => `(tactic| first
  | with_reducible refine My.r_sl ?_
  | with_reducible refine My.r_part ?_
  | with_reducible refine My.r_nopart ?_
  | with_reducible refine My.r_pi ?_)
local macro_rules | `(tactic| walk_at "vd") => `(tactic| ((walk_at "v"); (repeat ((walk_at "vs"); (walk_at "v")))))
local macro_rules | `(tactic| walk_at "ve") => `(tactic| ((walk_at "v"); (repeat ((first | with_reducible refine My.r_dget ?_ | with_reducible refine My.r_dput ?_); (walk_at "v")))))
--@dict
--@skip _law_spots
namespace Lw
open PySem L2 Mth My
noncomputable def top (i:Nat):Stmt:=PySem.Challenge.pw_lath_k65_labels_that_show.main.body.getD i (.Pass ⟨0,0,0,0⟩)
noncomputable abbrev s_law_cell:Stmt:=top 102
noncomputable abbrev s_law_mix:Stmt:=top 103
noncomputable abbrev s_law_row:Stmt:=top 104
noncomputable abbrev s_law_ratio:Stmt:=top 105
noncomputable abbrev s_plain_divisor:Stmt:=top 9
noncomputable abbrev s_steps_of_heads:Stmt:=top 10
noncomputable abbrev s_divisor:Stmt:=top 11
noncomputable abbrev s_loose_plus:Stmt:=top 15
noncomputable abbrev s_loose_minus:Stmt:=top 16
noncomputable abbrev s_loose_times:Stmt:=top 17
noncomputable abbrev s_loose_slope:Stmt:=top 33
noncomputable abbrev s_loose_along:Stmt:=top 34
noncomputable abbrev s_order:Stmt:=top 22
noncomputable abbrev s_size:Stmt:=top 23
noncomputable abbrev s_loose_stand:Stmt:=top 42
noncomputable abbrev s_runs:Stmt:=top 31
noncomputable abbrev s_law_shaped:Stmt:=top 106
noncomputable abbrev s_law_times:Stmt:=top 107
noncomputable abbrev s_law_picked:Stmt:=top 108
noncomputable abbrev s_law_drawn:Stmt:=top 109
noncomputable abbrev s_loose_farthest:Stmt:=top 83
noncomputable abbrev s_law_handed:Stmt:=top 110
noncomputable abbrev s_law_stand:Stmt:=top 111
noncomputable abbrev s_greatest:Stmt:=top 25
noncomputable abbrev s_smallest:Stmt:=top 26
noncomputable abbrev s_good_behind:Stmt:=top 84
noncomputable abbrev s_leaps:Stmt:=top 85
noncomputable abbrev s_labels_by:Stmt:=top 86
noncomputable abbrev s_bars_by:Stmt:=top 87
noncomputable abbrev s_places_of_pieces:Stmt:=top 89
noncomputable abbrev s_piece_between:Stmt:=top 90
noncomputable abbrev s_tied_run:Stmt:=top 91
noncomputable abbrev s_tied_row:Stmt:=top 92
noncomputable abbrev s_spans:Stmt:=top 93
noncomputable abbrev s_chain:Stmt:=top 94
noncomputable abbrev s_law_runs:Stmt:=top 112
noncomputable abbrev s_is_fraction:Stmt:=top 12
noncomputable abbrev s_is_wrong:Stmt:=top 29
noncomputable abbrev s_checked:Stmt:=top 30
noncomputable abbrev s_check_way:Stmt:=top 97
noncomputable abbrev s_check_bound:Stmt:=top 98
noncomputable abbrev s_told_by:Stmt:=top 99
noncomputable abbrev s_fewest:Stmt:=top 100
noncomputable abbrev s_known_of:Stmt:=top 46
noncomputable abbrev s_samples_of_three:Stmt:=top 47
noncomputable abbrev s_is_good:Stmt:=top 48
noncomputable abbrev s_barred_pairs:Stmt:=top 52
noncomputable abbrev s_pieces_of_run:Stmt:=top 53
noncomputable abbrev s_pieces_by_numbers:Stmt:=top 54
noncomputable abbrev s_shows:Stmt:=top 55
noncomputable abbrev s_law_spots:Stmt:=top 113
noncomputable abbrev s_law_worthy:Stmt:=top 114
noncomputable abbrev s_law_shut:Stmt:=top 115
noncomputable abbrev s_law_numbers:Stmt:=top 116
noncomputable abbrev s_law_claim:Stmt:=top 117
noncomputable abbrev s_law_shown_run:Stmt:=top 118
noncomputable abbrev s_law_shown_tied:Stmt:=top 119
noncomputable abbrev s_law_bent_numbers:Stmt:=top 120
noncomputable abbrev s_law_bent_bars:Stmt:=top 121
noncomputable abbrev s_law_copied:Stmt:=top 123
noncomputable abbrev s_law_bent:Stmt:=top 122
noncomputable abbrev s_law_asks:Stmt:=top 124
noncomputable abbrev s_law:Stmt:=top 125
noncomputable def spCell (K:PySem.W.Frag):Sp:=fun vs H Q _=>∃(a:Addr) (ns:List Int) (i:Int),vs=[.ref a,.int i]∧SqL K H a (ns.map V.int)∧0≤i∧i<1000∧∀(c:Int) (H':Hp),Same H H'→Q (.int c) H'
noncomputable def spMix:Sp:=fun vs H Q _=>∃(c k:Int),vs=[.int c,.int k]∧0≤k∧k<1000∧∀z:Int,Q (.int z) H
noncomputable def spRow (K:PySem.W.Frag):Sp:=fun vs H Q _=>∃(a:Addr) (ns:List Int) (i:Int) (l:Addr) (zs:List Int),vs=[.ref a,.int i,.ref l]∧SqL K H a (ns.map V.int)∧0≤i∧i<900∧H l=some (.lst (zs.map V.int))∧zs.length≤900∧(∀z∈zs,0<z∧z<2 ^ 60) ∧
 ∀(p:Addr) (xs:List Int) (H':Hp),Same H H'→H p=none→H' p=some (.lst (xs.map V.int))→xs.length=zs.length→(∀(j:Nat) (x z:Int),xs[j]?=some x→zs[j]?=some z→0≤x∧x<z)→Q (.ref p) H'
noncomputable def spRatio:Sp:=fun vs H Q _=>∃(t b:Int),vs=[.int t,.int b]∧0<b∧Sz 8000 b∧∀(p:Addr) (t' b':Int) (H':Hp),Same H H'→H' p=some (.tup [.int t',.int b'])→Low t b t' b'→Q (.ref p) H'
structure Txt (mg:Str→Option Value):Prop where
 len_:mg "len"=none
 abs_:mg "abs"=none
 range:mg "range"=none
 isinstance_:mg "isinstance"=none
 int_:mg "int"=none
 bool_:mg "bool"=none
 tuple_:mg "tuple"=none
 list_:mg "list"=none
 max_:mg "max"=none
 min_:mg "min"=none
 enumerate_:mg "enumerate"=none
 zip_:mg "zip"=none
 all_:mg "all"=none
 any_:mg "any"=none
 sum_:mg "sum"=none
 sorted_:mg "sorted"=none
 reversed_:mg "reversed"=none
 str_:mg "str"=none
theorem ints_at {ns:List Int} {i:Int} (h0:0≤i) (h:i<(ns.length:Int)):∃v:Int,atI (ns.map V.int) i=some (.int v):=by
 have hk:i.toNat<ns.length:=by walk_at "o"
 exact ⟨ns[i.toNat],at_ints (List.getElem?_eq_getElem hk) (by walk_at "o")⟩
theorem cut_int {ns:List Int} {lo hi:Option Int} {i:Nat} {y:V} (h:(cutV (ns.map V.int) lo hi)[i]?=some y):∃m:Int,y=.int m:=by
 have hm:y∈cutV (ns.map V.int) lo hi:=List.mem_of_getElem? h
 unfold cutV at hm
 obtain ⟨m,_,e⟩:=List.mem_map.mp (List.mem_of_mem_drop (List.mem_of_mem_take hm))
 exact ⟨m,e.symm⟩
theorem mcast (x y:Nat):((x:Int) % (y:Int))=((x % y:Nat):Int):=(Int.natCast_emod x y).symm
theorem abs_cast (t:Int):(if t<0 then -t else t)=(t.natAbs:Int):=by split <;> walk_at "o"
noncomputable def cellN (i:Nat) (σ:St):Nat:=match σ[i]? with | some (some (V.int n))=>n.toNat | _=>0
noncomputable def third (σ:St):Nat:=match σ[3]? with | some (some (V.int n))=>n.toNat | _=>0
section
variable {P:Program} {w:World} {K:PySem.W.Frag} {mg:Str→Option Value} {base:Heap} {f:Addr} {fd:FuncData}
theorem sc_law_cell:FnScope ["_law_script","_law_place","_law_seed","_law_cell_here"] ["_law_script","_law_place"] (defScope s_law_cell):=⟨rfl,rfl,rfl,by decide +kernel,rfl,by decide +kernel,by decide +kernel⟩
theorem ok_law_cell (F:Fun K "_law_cell" "_law_cell" s_law_cell f fd) (T:Txt mg):FnOk P w K mg base CX0 1 f fd ["_law_script","_law_place"] (spCell K):=by
 refine F.ok sc_law_cell (fun vs H Q E h=>?_) (fun cdv A outer s H vs Q E hr h=>?_)
 ·obtain ⟨a,ns,i,rfl,_⟩:=h
  rfl
 obtain ⟨a,ns,i,rfl,hS,h0,h1,k⟩:=h
 refine J.q ⟨_,(J.f (J.m (J.j op_lt (J.a 1) (J.p (lenC K) rfl T.len_ PySem.boot_len (J.b (J.a 0) J.d st_N) (he:=st_N) (hpl:=any0)) (nomark _))
  (J.h (J.k (J.e (ixL K) (J.a 0) (J.a 1) (fun _ _=>rfl))))
  J.o)
  (J.f (J.i (i:=2) sc_law_cell.nd rfl (Or.inl rfl) J.c (hs:=sw_C))
  (J.f (J.t PassesOwn.never rfl (J.w K (J.ai (slL K) (J.a 0) J.aj (J.ak J.c))) (J.n (i:=3) sc_law_cell.nd rfl (Or.inl rfl))
  (J.h (J.i (i:=2) sc_law_cell.nd rfl (Or.inl rfl) (J.g op_mod (J.g op_add (J.g op_add (J.g op_mulB (J.a 2) J.c) (J.g op_mod (J.a 3) J.c)) J.c) J.c) (hs:=sw_B))))
  (J.h (J.k (J.g op_mod (J.g op_add (J.a 2) (J.g op_mulB J.c (J.a 1))) J.c)))))),?_⟩
 walk_at "v"
 refine r_len (.inl hS) ?_
 walk_at "v"
 refine ite2 (fun c=>?_) (fun c=>?_)
 ·have c':=of_decide_eq_true c
  rw [List.length_map] at c'
  obtain ⟨v,hv⟩:=ints_at (ns:=ns) h0 c'
  walk_at "v"
  exact ⟨a,_,i,_,rfl,rfl,hS,hv,k v H (Same.refl _)⟩
 ·walk_at "v"
  refine ⟨_,rfl,_,rfl,a,_,rfl,hS,fun p hp=>?_⟩
  have s1:Same H (upd H p (.lst (cutV (ns.map V.int) none (some 63)))):=same_new hp _
  have e1:upd H p (.lst (cutV (ns.map V.int) none (some 63))) p=some (.lst (cutV (ns.map V.int) none (some 63))):=upd_same
  refine ⟨p,rfl,⟨_,SqL.of e1⟩,for_list (K:=K) (a:=p) (xs:=cutV (ns.map V.int) none (some 63)) (fun _ σ H2=>∃(z:Int) (v:Option V),σ=[some (.ref a),some (.int i),some (.int z),v]∧0≤z∧z<2147483647∧Same (upd H p (.lst (cutV (ns.map V.int) none (some 63)))) H2)
   ⟨5,none,rfl,by decide,by decide,Same.refl _⟩ (fun _ σ H2 _ ⟨_,_,_,_,_,s2⟩=>SqL.of (s2 _ _ e1)) ?_ ?_⟩
  ·rintro j y σ H2 hj ⟨z,v,rfl,z0,z1,s2⟩
   obtain ⟨m,rfl⟩:=cut_int hj
   walk_at "v"
   exact ⟨_,_,rfl,Int.emod_nonneg _ (by decide),Int.emod_lt_of_pos _ (by decide),s2⟩
  ·rintro σ H2 ⟨z,v,rfl,z0,z1,s2⟩
   walk_at "v"
   exact k _ _ (s1.trans s2)
theorem sc_law_mix:FnScope ["_law_cell_here","_law_k","_law_one","_law_two"] ["_law_cell_here","_law_k"] (defScope s_law_mix):=⟨rfl,rfl,rfl,by decide +kernel,rfl,by decide +kernel,by decide +kernel⟩
theorem ok_law_mix (F:Fun K "_law_mix" "_law_mix" s_law_mix f fd):FnOk P w K mg base CX0 1 f fd ["_law_cell_here","_law_k"] spMix:=by
 refine F.ok sc_law_mix (fun vs H Q E h=>?_) (fun cdv A outer s H vs Q E hr h=>?_)
 ·obtain ⟨c,k,rfl,_⟩:=h
  rfl
 obtain ⟨c,j,rfl,h0,h1,k⟩:=h
 refine J.q ⟨_,(J.f (J.i (i:=2) sc_law_mix.nd rfl (Or.inl rfl) (J.g op_mod (J.g op_pow (J.g op_add (J.g op_add (J.g op_mod (J.a 0) J.c) (J.g op_mulB J.c (J.a 1))) J.c) J.c) J.c) (hs:=sw_B))
  (J.f (J.i (i:=3) sc_law_mix.nd rfl (Or.inl rfl) (J.g op_mod (J.g op_add (J.g op_add (J.g op_mulB (J.a 2) J.c) (J.g op_mulB (J.g op_mulB J.c (J.a 1)) (J.a 1))) J.c) J.c) (hs:=sw_B))
  (J.h (J.k (J.g op_fdivB (J.a 3) J.c))))),?_⟩
 have b0:0≤c % 2147483629:=Int.emod_nonneg _ (by decide)
 have b1:c % 2147483629<2147483629:=Int.emod_lt_of_pos _ (by decide)
 walk_at "v"
 refine r_I (show CPow _ _ from ⟨by decide,by decide,by walk_at "o"⟩) ?_
 walk_at "v"
 refine r_I (mulR (by walk_at "o") (by walk_at "o")) ?_
 walk_at "v"
 refine r_I (show CDivB _ _ from ⟨by decide,by decide +kernel⟩) ?_
 exact k _
theorem sc_law_row:FnScope ["_law_script","_law_place","_law_sizes","_law_cell_here","_law_left","_law_some","_law_k","_law_other"] ["_law_script","_law_place","_law_sizes"] (defScope s_law_row):=⟨rfl,rfl,rfl,by decide +kernel,rfl,by decide +kernel,by decide +kernel⟩
theorem ok_law_row (F:Fun K "_law_row" "_law_row" s_law_row f fd) (T:Txt mg) (D_law_cell:Dn P w K mg base 1 "_law_cell" ["_law_script","_law_place"] (spCell K)) (D_law_mix:Dn P w K mg base 1 "_law_mix" ["_law_cell_here","_law_k"] spMix) :
 FnOk P w K mg base CX0 3 f fd ["_law_script","_law_place","_law_sizes"] (spRow K):=by
 refine F.ok sc_law_row (fun vs H Q E h=>?_) (fun cdv A outer s H vs Q E hr h=>?_)
 ·obtain ⟨a,ns,i,l,zs,rfl,_⟩:=h
  rfl
 obtain ⟨a,ns,i,l,zs,rfl,hS,h0,h1,hl,hz,hzs,k⟩:=h
 refine J.q ⟨_,(J.f (J.i (i:=3) sc_law_row.nd rfl (Or.inl rfl) (J.l D_law_cell (hr.mono (by decide)) rfl (J.b (J.a 0) (J.b (J.a 1) J.d st_N) st_N) (he:=st_N) (hpl:=(anyc st_N any0))) (hs:=sw_K))
  (J.f (J.i (i:=4) sc_law_row.nd rfl (Or.inl rfl) (J.a 3) (hs:=sw_N))
  (J.f (J.i (i:=5) sc_law_row.nd rfl (Or.inl rfl) (J.s J.d) (hs:=sw_L))
  (J.f (J.t PassesOwn.never rfl (J.al rfl T.range (J.b (J.p (lenC K) rfl T.len_ PySem.boot_len (J.b (J.a 2) J.d st_N) (he:=st_N) (hpl:=any0)) J.d st_K)) (J.n (i:=6) sc_law_row.nd rfl (Or.inl rfl))
  (J.h (J.m (J.j op_lt (J.a 3) (J.g op_pow J.c J.c) (nomark _))
  (J.h (J.x (J.y K (J.a 5) (J.g op_mod (J.l D_law_mix (hr.mono (by decide)) rfl (J.b (J.a 3) (J.b (J.a 6) J.d st_N) st_N) (he:=st_N) (hpl:=(anyc st_N any0))) (J.e (ixL K) (J.a 2) (J.a 6) (fun _ _=>rfl)))) (hs:=sw_K)))
  (J.h (J.m (J.j op_gt (J.a 4) J.c (nomark _))
  (J.f (J.x (J.y K (J.a 5) (J.g op_mod (J.a 4) (J.e (ixL K) (J.a 2) (J.a 6) (fun _ _=>rfl)))) (hs:=sw_K))
  (J.h (J.i (i:=4) sc_law_row.nd rfl (Or.inl rfl) (J.g op_fdivB (J.a 4) (J.e (ixL K) (J.a 2) (J.a 6) (fun _ _=>rfl))) (hs:=sw_B))))
  (J.f (J.i (i:=7) sc_law_row.nd rfl (Or.inl rfl) (J.l D_law_cell (hr.mono (by decide)) rfl (J.b (J.a 0) (J.b (J.g op_mod (J.g op_add (J.g op_add (J.a 1) J.c) (J.a 6)) J.c) J.d st_B) st_N) (he:=st_N) (hpl:=(anyc st_B any0))) (hs:=sw_K))
  (J.h (J.x (J.y K (J.a 5) (J.g op_mod (J.l D_law_mix (hr.mono (by decide)) rfl (J.b (J.a 7) (J.b (J.a 6) J.d st_N) st_N) (he:=st_N) (hpl:=(anyc st_N any0))) (J.e (ixL K) (J.a 2) (J.a 6) (fun _ _=>rfl)))) (hs:=sw_K)))))))))
  (J.h (J.k (J.a 5))))))),?_⟩
 walk_at "v"
 refine ⟨a,ns,i,rfl,hS,h0,by walk_at "o",fun c H1 s1=>?_⟩
 walk_at "v"
 refine r_new (mk:=.lst) (by simp) fun p H2 s2 n2 e2=>?_
 walk_at "v"
 have hl2:H2 l=some (.lst (zs.map V.int)):=s2 _ _ (s1 _ _ hl)
 refine ⟨_,rfl,l,_,rfl,.inl (SqL.of hl2),_,rfl,by lia,by rw [List.length_map];lia,for_range (fun j σ H3=>∃(left:Int) (xs:List Int) (v6 v7:Option V),
  σ=[some (.ref a),some (.int i),some (.ref l),some (.int c),some (.int left),some (.ref p),v6,v7]∧Same H1 H3∧H3 p=some (.lst (xs.map V.int))∧xs.length=j∧(∀(j:Nat) (x z:Int),xs[j]?=some x→zs[j]?=some z→0≤x∧x<z)) ?_ ?_ ?_⟩
 ·exact ⟨c,[],none,none,rfl,s2,e2,rfl,fun j x z e _=>by simp at e⟩
 ·rintro j σ H3 hj ⟨left,xs,v6,v7,rfl,s3,e3,hx,hxs⟩
  have hj':j<zs.length:=by simpa using hj
  obtain ⟨z,ez⟩:∃z,zs[j]?=some z:=⟨_,List.getElem?_eq_getElem hj'⟩
  obtain ⟨zp,zq⟩:=hzs z (List.mem_of_getElem? ez)
  have hl3:H3 l=some (.lst (zs.map V.int)):=s3 _ _ (s1 _ _ hl)
  have ea:atI (zs.map V.int) (0+(j:Int))=some (.int z):=at_ints ez (by walk_at "o")
  have hS3:SqL K H3 a (ns.map V.int):=(s1.trans s3).seq hS
    -- one more item
  have fin:∀(y left':Int) (v6 v7:Option V) (H4:Hp),Same H3 H4→H4 p=some (.lst (xs.map V.int))→∃(left:Int) (xs':List Int) (v6' v7':Option V),
   [some (.ref a),some (.int i),some (.ref l),some (.int c),some (.int left'),some (.ref p),v6,v7]=[some (.ref a),some (.int i),some (.ref l),some (.int c),some (.int left),some (.ref p),v6',v7'] ∧
   Same H1 (upd H4 p (.lst (xs.map V.int++[.int (y % z)])))∧upd H4 p (.lst (xs.map V.int++[.int (y % z)])) p=some (.lst (xs'.map V.int))∧xs'.length=j+1∧(∀(j:Nat) (x z:Int),xs'[j]?=some x→zs[j]?=some z→0≤x∧x<z):=by
   intro y left' v6 v7 H4 s4 e4
   refine ⟨left',xs++[y % z],v6,v7,rfl,same_at (s3.trans s4) n2,?_,by rw [List.length_append,hx];rfl,fun m x z' e1 e2=>?_⟩
   ·rw [upd_same,List.map_append];rfl
   ·by_cases hm:m<xs.length
    ·rw [List.getElem?_append_left hm] at e1
     exact hxs m x z' e1 e2
    ·have hm2:m=j:=by
      have:=(List.getElem?_eq_some_iff.mp e1).1
      rw [List.length_append] at this
      simp at this
      walk_at "o"
     subst hm2
     rw [List.getElem?_append_right (by walk_at "o"),hx] at e1
     simp at e1
     rw [ez] at e2
     cases e2
     subst e1
     exact ⟨Int.emod_nonneg _ (by walk_at "o"),Int.emod_lt_of_pos _ zp⟩
  have small3:(xs.map V.int).length<sizeLine:=by rw [List.length_map];exact small1000 (by walk_at "o")
  walk_at "v"
  refine ite2 (fun _=>?_) (fun _=>?_)
  ·walk_at "v"
   refine ⟨.inl ⟨rfl,_,SqL.of e3⟩,?_⟩
   walk_at "v"
   refine ⟨_,_,rfl,by walk_at "o",by walk_at "o",fun y=>?_⟩
   walk_at "v"
   refine r_l hl3 ea ?_
   refine r_I (show (0:Int)<z from zp) ?_
   walk_at "v"
   refine r_app e3 small3 ?_
   exact fin y _ _ _ _ (Same.refl _) e3
  ·walk_at "v"
   refine ite2 (fun _=>?_) (fun _=>?_)
   ·walk_at "v"
    refine ⟨.inl ⟨rfl,_,SqL.of e3⟩,?_⟩
    walk_at "v"
    refine r_l hl3 ea ?_
    refine r_I (show (0:Int)<z from zp) ?_
    walk_at "v"
    refine r_app e3 small3 ?_
    walk_at "v"
    refine r_l (by rw [upd_ne (ne_of_none (s1 _ _ hl) n2)];exact hl3) ea ?_
    refine r_I (show CDivB _ _ from ⟨by walk_at "o",Sz.log (m:=60) (Sz.of_lt (k:=2 ^ 60) (by walk_at "o") (Nat.le_refl _)) (by decide) (by decide)⟩) ?_
    exact fin left _ _ _ _ (Same.refl _) e3
   ·walk_at "v"
    have q0:0≤(i+1+(0+(j:Int))) % 63:=Int.emod_nonneg _ (by decide)
    have q1:(i+1+(0+(j:Int))) % 63<63:=Int.emod_lt_of_pos _ (by decide)
    refine ⟨a,ns,_,rfl,hS3,q0,by walk_at "o",fun c2 H4 s4=>?_⟩
    walk_at "v"
    refine ⟨.inl ⟨rfl,_,SqL.of (s4 _ _ e3)⟩,?_⟩
    walk_at "v"
    refine ⟨_,_,rfl,by walk_at "o",by walk_at "o",fun y=>?_⟩
    walk_at "v"
    refine r_l (s4 _ _ hl3) ea ?_
    refine r_I (show (0:Int)<z from zp) ?_
    walk_at "v"
    refine r_app (s4 _ _ e3) small3 ?_
    exact fin y _ _ _ _ s4 (s4 _ _ e3)
 ·rintro σ H3 ⟨left,xs,v6,v7,rfl,s3,e3,hx,hxs⟩
  walk_at "v"
  exact k p xs H3 (s1.trans s3) (s1.free n2) e3 (by simpa using hx) hxs
theorem sc_law_ratio:FnScope ["_law_top","_law_bottom","_law_one","_law_two"] ["_law_top","_law_bottom"] (defScope s_law_ratio):=⟨rfl,rfl,rfl,by decide +kernel,rfl,by decide +kernel,by decide +kernel⟩
theorem ok_law_ratio (F:Fun K "_law_ratio" "_law_ratio" s_law_ratio f fd) (T:Txt mg):FnOk P w K mg base CX0 1 f fd ["_law_top","_law_bottom"] spRatio:=by
 refine F.ok sc_law_ratio (fun vs H Q E h=>?_) (fun cdv A outer s H vs Q E hr h=>?_)
 ·obtain ⟨t,b,rfl,_⟩:=h
  rfl
 obtain ⟨t,b,rfl,hb,hz,k⟩:=h
 refine J.q ⟨_,(J.f (Jd.ps_par (i:=2) (j:=3) rfl sc_law_ratio.nd rfl rfl (by decide) rfl rfl (J.b (J.p absC rfl T.abs_ PyProof.Rows.boot_abs (J.b (J.a 0) J.d st_N) (he:=st_N) (hpl:=any0)) (J.b (J.a 1) J.d st_N) st_K) rfl)
  (J.f (Jd.ps_while PassesOwn.never (J.j op_gt (J.a 3) J.c (nomark _))
  (J.h (Jd.ps_par (i:=2) (j:=3) rfl sc_law_ratio.nd rfl rfl (by decide) rfl rfl (J.b (J.a 3) (J.b (J.g op_mod (J.a 2) (J.a 3)) J.d st_B) st_N) rfl)))
  (J.h (J.k (J.r (J.b (J.g op_fdivB (J.a 0) (J.a 2)) (J.b (J.g op_fdivB (J.a 1) (J.a 2)) J.d st_B) st_B)))))),?_⟩
 walk_at "v"
 have hgb:Int.gcd t b≤b.natAbs:=by
  have:=Int.gcd_le_right (a:=t) (b:=b) (by walk_at "o")
  walk_at "o"
 refine while_by (fun σ H'=>H'=H∧∃x y:Nat,σ=[some (.int t),some (.int b),some (.int x),some (.int y)]∧Nat.gcd x y=Int.gcd t b) (fun σ _=>third σ) ?_ ?_ ?_
 ·refine ⟨rfl,t.natAbs,b.natAbs,?_,rfl⟩
  rw [abs_cast]
  have e:b=((b.natAbs:Nat):Int):=by walk_at "o"
  rw [← e]
  rfl
 ·rintro σ H' ⟨rfl,x,y,rfl,hg⟩
  walk_at "v"
  refine ite2 (fun c=>?_) (fun c=>?_)
  ·have c':(0:Int)<(y:Int):=of_decide_eq_true c
   walk_at "v"
   refine ⟨⟨rfl,y,x % y,?_,by rw [gcd_step];exact hg⟩,?_⟩
   ·rw [← mcast];rfl
   ·show ((x:Int) % (y:Int)).toNat<(y:Int).toNat
    rw [mcast]
    have:=Nat.mod_lt x (y:=y) (by walk_at "o")
    walk_at "o"
  ·have c':¬(0:Int)<(y:Int):=of_decide_eq_false (Bool.eq_false_iff.mpr c)
   have y0:y=0:=by walk_at "o"
   subst y0
   rw [Nat.gcd_zero_right] at hg
   subst hg
   have gp:0<Int.gcd t b:=Int.gcd_pos_of_ne_zero_right t (by walk_at "o")
   have cd:CDivB t ((Int.gcd t b:Nat):Int):=⟨by walk_at "o",Sz.log (m:=8000) (Sz.of_le hz (by walk_at "o")) (by decide) (by decide)⟩
   walk_at "v"
   refine r_new (mk:=.tup) (by simp) fun p H1 s1 n1 e1=>?_
   exact k p _ _ H1 s1 e1 (low_pos hb)
 ·intro σ H Q Q' h q
  obtain ⟨v,e,i,j,e1,e2,b,e3,q⟩:=q
  exact ⟨v,e,i,j,e1,e2,b,e3,h _ _ q⟩
end

noncomputable def QtAt (H:Hp) (p:Addr) (q:Rat) (n:Nat):Prop:=∃t b:Int,H p=some (.tup [.int t,.int b])∧Qt t b q∧Sz n t∧Sz n b
noncomputable def FrAt (H:Hp) (p:Addr) (q:Rat) (n:Nat):Prop:=∃t b:Int,H p=some (.tup [.int t,.int b])∧Fr t b q∧Sz n t∧Sz n b
noncomputable def SaAt (H:Hp) (p:Addr) (m:Int) (q:Rat) (n:Nat):Prop:=∃v:Addr,H p=some (.tup [.int m,.ref v])∧FrAt H v q n∧Sz n m
section
variable {H H':Hp} {p:Addr} {q h:Rat} {m n:Nat} {t:Int}
theorem FrAt.qt (f:FrAt H p q n):QtAt H p q n:=let ⟨t,b,e,f,z⟩:=f;⟨t,b,e,f.qt,z⟩
theorem QtAt.mono (f:QtAt H p q m) (h:m≤n):QtAt H p q n:=let ⟨t,b,e,f,z1,z2⟩:=f;⟨t,b,e,f,z1.mono h,z2.mono h⟩
theorem QtAt.up (f:QtAt H p q n) (s:Same H H'):QtAt H' p q n:=let ⟨t,b,e,f⟩:=f;⟨t,b,s _ _ e,f⟩
theorem FrAt.up (f:FrAt H p q n) (s:Same H H'):FrAt H' p q n:=let ⟨t,b,e,f⟩:=f;⟨t,b,s _ _ e,f⟩
theorem SaAt.up (f:SaAt H p t q n) (s:Same H H'):SaAt H' p t q n:=let ⟨v,e,f,z⟩:=f;⟨v,s _ _ e,f.up s,z⟩
end
noncomputable def spPlain:Sp:=fun vs H Q _=>∃(m n:Int),vs=[.int m,.int n]∧0≤m∧0≤n∧Q (.int (Int.gcd m n:Nat)) H
noncomputable def spSteps:Sp:=fun vs H Q _=>∃(m n:Int),vs=[.int m,.int n]∧0≤n∧n≤m∧m<115792089237316195423570985008687907853269984665640564039457584007913129639936 ∧
 ∀(p:Addr) (x0 y0 x1 y1 high low:Int) (H':Hp),Same H H'→H' p=some (.tup [.int x0,.int y0,.int x1,.int y1])→Steps m n high low x0 y0 x1 y1→low≤340282366920938463463374607431768211456→Q (.ref p) H'
noncomputable def spDivisor:Sp:=fun vs H Q _=>∃(m n:Int),vs=[.int m,.int n]∧Sz 8000 m∧Sz 8000 n∧∀H',Same H H'→Q (.int (Int.gcd m n:Nat)) H'
noncomputable def spTwo (f:Rat→Rat→Rat) (k:Nat):Sp:=fun vs H Q _=>∃(p r:Addr) (q q':Rat) (m n:Nat),vs=[.ref p,.ref r]∧QtAt H p q m∧QtAt H r q' n∧m+n≤100000∧∀(s:Addr) (H':Hp),Same H H'→QtAt H' s (f q q') (m+n+k)→Q (.ref s) H'
noncomputable def spLslope:Sp:=fun vs H Q _=>∃(p r:Addr) (t t':Int) (q q':Rat) (n:Nat),vs=[.ref p,.ref r]∧SaAt H p t q n∧SaAt H r t' q' n∧t≠t'∧n≤2000∧∀(s:Addr) (H':Hp),Same H H'→QtAt H' s ((q'-q)/((t'-t:Int):Rat)) (4*n+3)→Q (.ref s) H'
noncomputable def spLalong:Sp:=fun vs H Q _=>∃(p r:Addr) (s q:Rat) (t u:Int) (m n:Nat),vs=[.ref p,.ref r,.int u]∧QtAt H p s m∧SaAt H r t q n∧Sz n u∧m≤20000∧n≤20000∧∀(x:Addr) (H':Hp),Same H H'→QtAt H' x (q+s*((u-t:Int):Rat)) (m+2*n+2)→Q (.ref x) H'
section
variable {P:Program} {w:World} {K:PySem.W.Frag} {mg:Str→Option Value} {base:Heap} {f:Addr} {fd:FuncData}
theorem sc_plain_divisor:FnScope ["one","other","found","rest","left"] ["one","other"] (defScope s_plain_divisor):=⟨rfl,rfl,rfl,by decide +kernel,rfl,by decide +kernel,by decide +kernel⟩
theorem ok_plain_divisor (F:Fun K "plain_divisor" "plain_divisor" s_plain_divisor f fd) (T:Txt mg):FnOk P w K mg base CX0 1 f fd ["one","other"] spPlain:=by
 refine F.ok sc_plain_divisor (fun vs H Q E h=>?_) (fun cdv A outer s H vs Q E hr h=>?_)
 ·obtain ⟨m,n,rfl,_⟩:=h
  rfl
 obtain ⟨m,n,rfl,hm,hn,k⟩:=h
 refine J.q ⟨_,(J.f (J.i (i:=2) sc_plain_divisor.nd rfl (Or.inl rfl) (J.a 0) (hs:=sw_N))
  (J.f (J.i (i:=3) sc_plain_divisor.nd rfl (Or.inl rfl) (J.a 1) (hs:=sw_N))
  (J.f (Jd.ps_while PassesOwn.never (J.j op_ne (J.a 3) J.c (nomark _))
  (J.f (J.i (i:=4) sc_plain_divisor.nd rfl (Or.inl rfl) (J.g op_mod (J.a 2) (J.a 3)) (hs:=sw_B))
  (J.f (J.i (i:=2) sc_plain_divisor.nd rfl (Or.inl rfl) (J.a 3) (hs:=sw_N))
  (J.h (J.i (i:=3) sc_plain_divisor.nd rfl (Or.inl rfl) (J.a 4) (hs:=sw_N))))))
  (J.h (J.k (J.a 2)))))),?_⟩
 walk_at "v"
 refine while_by (fun σ H'=>H'=H∧∃(x y:Nat) (v:Option V),σ=[some (.int m),some (.int n),some (.int x),some (.int y),v]∧Nat.gcd x y=Int.gcd m n) (fun σ _=>third σ) ?_ ?_ ?_
 ·refine ⟨rfl,m.natAbs,n.natAbs,none,?_,rfl⟩
  rw [show ((m.natAbs:Nat):Int)=m by walk_at "o",show ((n.natAbs:Nat):Int)=n by walk_at "o"]
  rfl
 ·rintro σ H' ⟨rfl,x,y,v,rfl,hg⟩
  walk_at "v"
  refine ite2 (fun c=>?_) (fun c=>?_)
  ·have c':¬(y:Int)=0:=by simpa using c
   walk_at "v"
   refine ⟨⟨rfl,y,x % y,some (.int ((x % y:Nat):Int)),?_,by rw [gcd_step];exact hg⟩,?_⟩
   ·rw [mcast];rfl
   ·show ((x:Int) % (y:Int)).toNat<(y:Int).toNat
    rw [mcast]
    have:=Nat.mod_lt x (y:=y) (by walk_at "o")
    walk_at "o"
  ·have c':(y:Int)=0:=by simpa using c
   have y0:y=0:=by walk_at "o"
   subst y0
   rw [Nat.gcd_zero_right] at hg
   subst hg
   walk_at "v"
   exact k
 ·intro σ H Q Q' h q
  obtain ⟨v,e,hs,b,e3,q⟩:=q
  exact ⟨v,e,hs,b,e3,h _ _ q⟩
theorem sc_steps_of_heads:FnScope ["high","low","ahead","now","many","left","behind"] ["high","low"] (defScope s_steps_of_heads):=⟨rfl,rfl,rfl,by decide +kernel,rfl,by decide +kernel,by decide +kernel⟩
theorem ok_steps_of_heads (F:Fun K "steps_of_heads" "steps_of_heads" s_steps_of_heads f fd) (C_HEAD:Cn mg "HEAD" 256):FnOk P w K mg base CX0 1 f fd ["high","low"] spSteps:=by
 refine F.ok sc_steps_of_heads (fun vs H Q E h=>?_) (fun cdv A outer s H vs Q E hr h=>?_)
 ·obtain ⟨m,n,rfl,_⟩:=h
  rfl
 obtain ⟨hd,ld,rfl,h0,h1,h2,k⟩:=h
 refine J.q ⟨_,(J.f (J.i (i:=2) sc_steps_of_heads.nd rfl (Or.inl rfl) (J.r (J.b J.c (J.b J.c J.d st_C) st_C)) (hs:=sw_T))
  (J.f (J.i (i:=3) sc_steps_of_heads.nd rfl (Or.inl rfl) (J.r (J.b J.c (J.b J.c J.d st_C) st_C)) (hs:=sw_T))
  (J.f (Jd.ps_while PassesOwn.never (J.j op_gt (Jd.pe_bits (J.a 1)) (J.g op_fdivB (Jd.pe_cn rfl C_HEAD) J.c) (nomark _))
  (J.f (J.i (i:=4) sc_steps_of_heads.nd rfl (Or.inl rfl) (J.g op_fdivB (J.a 0) (J.a 1)) (hs:=sw_B))
  (J.f (J.i (i:=5) sc_steps_of_heads.nd rfl (Or.inl rfl) (J.g op_sub (J.a 0) (J.g op_mulB (J.a 4) (J.a 1))) (hs:=sw_B))
  (J.f (J.i (i:=0) sc_steps_of_heads.nd rfl (Or.inl rfl) (J.a 1) (hs:=sw_N))
  (J.f (J.i (i:=1) sc_steps_of_heads.nd rfl (Or.inl rfl) (J.a 5) (hs:=sw_N))
  (J.f (J.i (i:=6) sc_steps_of_heads.nd rfl (Or.inl rfl) (J.r (J.b (J.g op_sub (J.e (ixT K) (J.a 2) J.c (fun _ _=>rfl)) (J.g op_mulB (J.a 4) (J.e (ixT K) (J.a 3) J.c (fun _ _=>rfl)))) (J.b (J.g op_sub (J.e (ixT K) (J.a 2) J.c (fun _ _=>rfl)) (J.g op_mulB (J.a 4) (J.e (ixT K) (J.a 3) J.c (fun _ _=>rfl)))) J.d st_B) st_B)) (hs:=sw_T))
  (J.f (J.i (i:=2) sc_steps_of_heads.nd rfl (Or.inl rfl) (J.a 3) (hs:=sw_N))
  (J.h (J.i (i:=3) sc_steps_of_heads.nd rfl (Or.inl rfl) (J.a 6) (hs:=sw_N))))))))))
  (J.h (J.k (J.g (catT K) (J.a 2) (J.a 3))))))),?_⟩
 walk_at "v"
 refine r_new (mk:=.tup) (by simp) fun pa Ha sa na ea=>?_
 walk_at "v"
 refine r_new (mk:=.tup) (by simp) fun pn Hn sn nn en=>?_
 walk_at "v"
 refine while_by (fun σ H'=>Same H H'∧∃(high low x0 y0 x1 y1:Int) (pa pn:Addr) (v4 v5 v6:Option V),σ=[some (.int high),some (.int low),some (.ref pa),some (.ref pn),v4,v5,v6] ∧
  H' pa=some (.tup [.int x0,.int y0])∧H' pn=some (.tup [.int x1,.int y1])∧Steps hd ld high low x0 y0 x1 y1) (fun σ _=>cellN 1 σ) ?_ ?_ ?_
 ·exact ⟨sa.trans sn,hd,ld,1,0,0,1,pa,pn,none,none,none,rfl,sn _ _ ea,en,Steps.init h0 h1⟩
 ·rintro σ H' ⟨sH,high,low,x0,y0,x1,y1,pa,pn,v4,v5,v6,rfl,ea,en,S⟩
  walk_at "v"
  refine r_I ⟨by decide,by decide⟩ ?_
  walk_at "v"
  refine ite2 (fun c=>?_) (fun c=>?_)
  ·have c':=of_decide_eq_true c
   rw [show Int.fdiv 256 2=128 by decide] at c'
   have hlow:=heads_big c' S.l0
   have hq:=S.step hlow rfl
   have hH:hd.natAbs<2 ^ 256:=by
    have:(2:Nat) ^ 256=115792089237316195423570985008687907853269984665640564039457584007913129639936:=by decide
    walk_at "o"
   have zl:Sz 256 ld:=Sz.of_le (m:=256) (x:=hd) hH (by walk_at "o")
   have zh:Sz 256 high:=Sz.of_le (m:=256) (x:=hd) hH (by have:=S.high_le h1;have:=S.lh;have:=S.l0;walk_at "o")
   have nb:=S.now_le (by have:=S.lh;walk_at "o")
   have zx:Sz 256 x1:=Sz.of_le zl nb.1
   have zy:Sz 256 y1:=Sz.of_le (m:=256) (x:=hd) hH nb.2
   have zlo:Sz 256 low:=zh.of_le (by have:=S.lh;have:=S.l0;walk_at "o")
   have eq:high.fdiv low=high/low:=Int.fdiv_eq_ediv_of_nonneg _ S.l0
   have zq:Sz 256 (high/low):=zh.of_le (div_le (by have:=S.lh;have:=S.l0;walk_at "o") S.l0)
   walk_at "v"
   refine r_I ⟨by walk_at "o",zlo.log (by decide) (by decide)⟩ ?_
   rw [eq]
   walk_at "v"
   refine r_I (mulOk zq zlo) ?_
   walk_at "v"
   refine r_I (mulOk zq zx) ?_
   walk_at "v"
   refine r_I (mulOk zq zy) ?_
   walk_at "v"
   refine r_new (mk:=.tup) (by simp) fun pb Hb sb nb eb=>?_
   walk_at "v"
   refine ⟨⟨sH.trans sb,low,high-high/low*low,x1,y1,x0-high/low*x1,y0-high/low*y1,pn,pb,_,_,_,rfl,sb _ _ en,eb,hq⟩,?_⟩
   show (high-high/low*low).toNat<low.toNat
   have e:=Int.mul_ediv_add_emod high low
   rw [Int.mul_comm] at e
   have:=Int.emod_lt_of_pos high (b:=low) (by walk_at "o")
   walk_at "o"
  ·have c':=of_decide_eq_false (Bool.eq_false_iff.mpr c)
   rw [show Int.fdiv 256 2=128 by decide] at c'
   have hlow:=heads_small c'
   walk_at "v"
   refine r_catT ea en ?_
   refine r_new (mk:=.tup) (by simp) fun pb Hb sb nb eb=>?_
   exact k pb x0 y0 x1 y1 high low Hb (sH.trans sb) eb S (by walk_at "o")
 ·intro σ H Q Q' h q
  obtain ⟨v,e,a1,a2,i,a3,m,n,e1,e2,hc,m',n',e3,e4,b,e5,q⟩:=q
  exact ⟨v,e,a1,a2,i,a3,m,n,e1,e2,hc,m',n',e3,e4,b,e5,h _ _ q⟩
theorem sc_divisor:FnScope ["one","other","found","rest","tail","steps","ahead","now"] ["one","other"] (defScope s_divisor):=⟨rfl,rfl,rfl,by decide +kernel,rfl,by decide +kernel,by decide +kernel⟩
theorem ok_divisor (F:Fun K "divisor" "divisor" s_divisor f fd) (T:Txt mg) (C_HEAD:Cn mg "HEAD" 256) (D_plain_divisor:Dn P w K mg base 1 "plain_divisor" ["one","other"] spPlain) (D_steps_of_heads:Dn P w K mg base 1 "steps_of_heads" ["high","low"] spSteps) :
 FnOk P w K mg base CX0 2 f fd ["one","other"] spDivisor:=by
 refine F.ok sc_divisor (fun vs H Q E h=>?_) (fun cdv A outer s H vs Q E hr h=>?_)
 ·obtain ⟨m,n,rfl,_⟩:=h
  rfl
 obtain ⟨m,n,rfl,zm,zn,k⟩:=h
 refine J.q ⟨_,(J.f (J.i (i:=2) sc_divisor.nd rfl (Or.inl rfl) (J.p (maxC rfl) rfl T.max_ PyProof.Rows.boot_max (J.b (J.p absC rfl T.abs_ PyProof.Rows.boot_abs (J.b (J.a 0) J.d st_N) (he:=st_N) (hpl:=any0)) (J.b (J.p absC rfl T.abs_ PyProof.Rows.boot_abs (J.b (J.a 1) J.d st_N) (he:=st_N) (hpl:=any0)) J.d st_K) st_K) (he:=st_K) (hpl:=(anyc st_K any0))) (hs:=sw_K))
  (J.f (J.i (i:=3) sc_divisor.nd rfl (Or.inl rfl) (J.p (minC rfl) rfl T.min_ PyProof.Rows.boot_min (J.b (J.p absC rfl T.abs_ PyProof.Rows.boot_abs (J.b (J.a 0) J.d st_N) (he:=st_N) (hpl:=any0)) (J.b (J.p absC rfl T.abs_ PyProof.Rows.boot_abs (J.b (J.a 1) J.d st_N) (he:=st_N) (hpl:=any0)) J.d st_K) st_K) (he:=st_K) (hpl:=(anyc st_K any0))) (hs:=sw_K))
  (J.f (Jd.ps_while PassesOwn.never (J.j op_gt (Jd.pe_bits (J.a 3)) (Jd.pe_cn rfl C_HEAD) (nomark _))
  (J.f (J.i (i:=4) sc_divisor.nd rfl (Or.inl rfl) (J.g op_sub (Jd.pe_bits (J.a 2)) (Jd.pe_cn rfl C_HEAD)) (hs:=sw_B))
  (J.f (J.i (i:=5) sc_divisor.nd rfl (Or.inl rfl) (J.l D_steps_of_heads (hr.mono (by decide)) rfl (J.b (J.g op_shr (J.a 2) (J.a 4)) (J.b (J.g op_shr (J.a 3) (J.a 4)) J.d st_B) st_B) (he:=st_B) (hpl:=(anyc st_B any0))) (hs:=sw_K))
  (J.f (J.m (J.j op_eq (J.e (ixT K) (J.a 5) J.c (fun _ _=>rfl)) J.c (nomark _))
  (J.h (J.i (i:=5) sc_divisor.nd rfl (Or.inl rfl) (J.r (J.b J.c (J.b J.c (J.b J.c (J.b (J.z un_neg (J.g op_fdivB (J.a 2) (J.a 3))) J.d st_U) st_C) st_C) st_C)) (hs:=sw_T)))
  J.o)
  (J.f (J.i (i:=6) sc_divisor.nd rfl (Or.inl rfl) (J.p absC rfl T.abs_ PyProof.Rows.boot_abs (J.b (J.g op_add (J.g op_mulB (J.e (ixT K) (J.a 5) J.c (fun _ _=>rfl)) (J.a 2)) (J.g op_mulB (J.e (ixT K) (J.a 5) J.c (fun _ _=>rfl)) (J.a 3))) J.d st_B) (he:=st_B) (hpl:=any0)) (hs:=sw_K))
  (J.f (J.i (i:=7) sc_divisor.nd rfl (Or.inl rfl) (J.p absC rfl T.abs_ PyProof.Rows.boot_abs (J.b (J.g op_add (J.g op_mulB (J.e (ixT K) (J.a 5) J.c (fun _ _=>rfl)) (J.a 2)) (J.g op_mulB (J.e (ixT K) (J.a 5) J.c (fun _ _=>rfl)) (J.a 3))) J.d st_B) (he:=st_B) (hpl:=any0)) (hs:=sw_K))
  (J.f (J.i (i:=2) sc_divisor.nd rfl (Or.inl rfl) (J.p (maxC rfl) rfl T.max_ PyProof.Rows.boot_max (J.b (J.a 6) (J.b (J.a 7) J.d st_N) st_N) (he:=st_N) (hpl:=(anyc st_N any0))) (hs:=sw_K))
  (J.h (J.i (i:=3) sc_divisor.nd rfl (Or.inl rfl) (J.p (minC rfl) rfl T.min_ PyProof.Rows.boot_min (J.b (J.a 6) (J.b (J.a 7) J.d st_N) st_N) (he:=st_N) (hpl:=(anyc st_N any0))) (hs:=sw_K))))))))))
  (J.h (J.k (J.l D_plain_divisor (hr.mono (by decide)) rfl (J.b (J.a 2) (J.b (J.a 3) J.d st_N) st_N) (he:=st_N) (hpl:=(anyc st_N any0)))))))),?_⟩
 walk_at "v"
 rw [abs_cast,abs_cast]
 refine while_by (fun σ H'=>Same H H'∧∃(x y:Int) (v4 v5 v6 v7:Option V),σ=[some (.int m),some (.int n),some (.int x),some (.int y),v4,v5,v6,v7] ∧
  0≤y∧y≤x∧Int.gcd x y=Int.gcd m n∧Sz 8001 (x+y)) (fun σ _=>cellN 2 σ+cellN 3 σ) ?_ ?_ ?_
 ·refine ⟨Same.refl _,_,_,none,none,none,none,rfl,?_,?_,(gcd_maxmin rfl rfl).trans ?_,?_⟩
  ·exact mm_nn _ _
  ·exact mm_le _ _
  ·rfl
  ·have z:=(zm.of_le (y:=(m.natAbs:Int)) (by simp)).add (zn.of_le (y:=(n.natAbs:Int)) (by simp))
   exact z.of_le (mm_sum (by walk_at "o"))
 ·rintro σ H' ⟨sH,x,y,v4,v5,v6,v7,rfl,y0,yx,hg,zs⟩
  have zx:Sz 8001 x:=zs.of_le (by walk_at "o")
  have zy:Sz 8001 y:=zs.of_le (by walk_at "o")
  walk_at "v"
  refine ite2 (fun c=>?_) (fun c=>?_)
  ·have c':=of_decide_eq_true c
   obtain ⟨t,ht,lo,hi⟩:=heads_tail c' y0 yx
   have tp:(0:Int)<2 ^ t:=Int.pow_pos (by decide)
   have hd:=head_of lo hi
   have ypos:1≤y:=by
    have:(256:Int)<(Builtin.Int.intBits y:Nat):=c'
    by_cases e:y=0
    ·subst e;simp [Builtin.Int.intBits] at this
    ·walk_at "o"
   walk_at "v"
   refine r_I (show (0:Int)≤_ by walk_at "o") ?_
   walk_at "v"
   refine r_I (show (0:Int)≤_ by walk_at "o") ?_
   walk_at "v"
   rw [show ((Builtin.Int.intBits x:Nat)-256:Int).toNat=t by walk_at "o"]
   refine ⟨x/2 ^ t,y/2 ^ t,rfl,Int.ediv_nonneg y0 (by walk_at "o"),Int.ediv_le_ediv tp yx,hd.2,fun ps x0 y0' x1 y1 high low H1 s1 e1 S hl=>?_⟩
   walk_at "v"
   refine ite2 (fun c2=>?_) (fun c2=>?_)
   ·have c3:y0'=0:=of_decide_eq_true c2
    have zq:Sz 8001 (x.fdiv y):=by
     rw [Int.fdiv_eq_ediv_of_nonneg _ y0]
     exact zx.of_le (div_le (by walk_at "o") y0)
    walk_at "v"
    refine r_I ⟨by walk_at "o",zy.log (by decide) (by decide)⟩ ?_
    walk_at "v"
    refine r_new (mk:=.tup) (by simp) fun p2 H2 s2 n2 e2=>?_
    have sH2:=(sH.trans s1).trans s2
    have za:Sz 8001 (0:Int):=by decide
    have zb:Sz 8001 (1:Int):=by decide
    have zc:Sz 8001 (1:Int):=zb
    have zd:Sz 8001 (-(x.fdiv y)):=zq.neg
    have gg:Int.gcd (0*x+1*y) (1*x+-(x.fdiv y)*y)=Int.gcd x y:=gcd_mix (.inr (by walk_at "o"))
    have ls:=fd_less ypos yx
    walk_at "v"
    refine r_I (mulOk zd zy) ?_
    walk_at "v"
    simp only [abs_cast]
    refine ⟨⟨sH2,_,_,_,_,_,_,rfl,?_,?_,(gcd_maxmin rfl rfl).trans (gg.trans hg),?_⟩,?_⟩
    ·exact mm_nn _ _
    ·exact mm_le _ _
    ·exact zs.of_le (mm_sum (mm_xy ls y0 yx))
    ·exact mm_to ls y0 yx
   ·have c3:y0'≠0:=of_decide_eq_false (Bool.eq_false_iff.mpr c2)
    have sH2:=sH.trans s1
    have sm:=S.small c3 (Int.ediv_le_ediv tp yx) hd.2
    have k128:(340282366920938463463374607431768211456:Nat)<2 ^ 8001:=by decide +kernel
    have za:Sz 8001 x0:=Nat.lt_of_le_of_lt sm.1 k128
    have zb:Sz 8001 y0':=Nat.lt_of_le_of_lt sm.2.1 k128
    have zc:Sz 8001 x1:=Nat.lt_of_le_of_lt sm.2.2.1 k128
    have zd:Sz 8001 y1:=Nat.lt_of_le_of_lt sm.2.2.2 k128
    have gg:Int.gcd (x0*x+y0'*y) (x1*x+y1*y)=Int.gcd x y:=S.gcd
    have ls:=heads_less S c3 yx lo hi rfl rfl hl
    walk_at "v"
    refine r_I (mulOk za zx) ?_
    walk_at "v"
    refine r_I (mulOk zb zy) ?_
    walk_at "v"
    refine r_I (mulOk zc zx) ?_
    walk_at "v"
    refine r_I (mulOk zd zy) ?_
    walk_at "v"
    simp only [abs_cast]
    refine ⟨⟨sH2,_,_,_,_,_,_,rfl,?_,?_,(gcd_maxmin rfl rfl).trans (gg.trans hg),?_⟩,?_⟩
    ·exact mm_nn _ _
    ·exact mm_le _ _
    ·exact zs.of_le (mm_sum (mm_xy ls y0 yx))
    ·exact mm_to ls y0 yx
  ·walk_at "v"
   refine ⟨x,y,rfl,by walk_at "o",y0,?_⟩
   rw [hg]
   exact k H' sH
 ·intro σ H Q Q' h q
  obtain ⟨v,e,a1,a2,i,a3,m',n',e3,e4,b,e5,q⟩:=q
  exact ⟨v,e,a1,a2,i,a3,m',n',e3,e4,b,e5,h _ _ q⟩
theorem sc_loose_plus:FnScope ["one","other"] ["one","other"] (defScope s_loose_plus):=⟨rfl,rfl,rfl,by decide +kernel,rfl,by decide +kernel,by decide +kernel⟩
theorem ok_loose_plus (F:Fun K "loose_plus" "loose_plus" s_loose_plus f fd):FnOk P w K mg base CX0 1 f fd ["one","other"] (spTwo (·+·) 1):=by
 refine F.ok sc_loose_plus (fun vs H Q E h=>?_) (fun cdv A outer s H vs Q E hr h=>?_)
 ·obtain ⟨p,r,q,q',m,n,rfl,_⟩:=h
  rfl
 obtain ⟨p,r,q,q',m,n,rfl,⟨a,b,hp,hq,za,zb⟩,⟨c,d,hr',hq',zc,zd⟩,hn,k⟩:=h
 refine J.q ⟨_,(J.h (J.k (J.r (J.b (J.g op_add (J.g op_mulB (J.e (ixT K) (J.a 0) J.c (fun _ _=>rfl)) (J.e (ixT K) (J.a 1) J.c (fun _ _=>rfl))) (J.g op_mulB (J.e (ixT K) (J.a 1) J.c (fun _ _=>rfl)) (J.e (ixT K) (J.a 0) J.c (fun _ _=>rfl)))) (J.b (J.g op_mulB (J.e (ixT K) (J.a 0) J.c (fun _ _=>rfl)) (J.e (ixT K) (J.a 1) J.c (fun _ _=>rfl))) J.d st_B) st_B)))),?_⟩
 walk_at "v"
 refine r_I (mulOk za zd (by walk_at "o")) ?_
 walk_at "v"
 refine r_I (mulOk zc zb (by walk_at "o")) ?_
 walk_at "v"
 refine r_I (mulOk zb zd (by walk_at "o")) ?_
 walk_at "v"
 refine r_new (mk:=.tup) (by simp) fun x H1 s1 n1 e1=>?_
 exact k x H1 s1 ⟨_,_,e1,hq.plus hq',(za.mul zd).add ((zc.mul zb).mono (by walk_at "o")),(zb.mul zd).mono (by walk_at "o")⟩
theorem sc_loose_minus:FnScope ["one","other"] ["one","other"] (defScope s_loose_minus):=⟨rfl,rfl,rfl,by decide +kernel,rfl,by decide +kernel,by decide +kernel⟩
theorem ok_loose_minus (F:Fun K "loose_minus" "loose_minus" s_loose_minus f fd):FnOk P w K mg base CX0 1 f fd ["one","other"] (spTwo (·-·) 1):=by
 refine F.ok sc_loose_minus (fun vs H Q E h=>?_) (fun cdv A outer s H vs Q E hr h=>?_)
 ·obtain ⟨p,r,q,q',m,n,rfl,_⟩:=h
  rfl
 obtain ⟨p,r,q,q',m,n,rfl,⟨a,b,hp,hq,za,zb⟩,⟨c,d,hr',hq',zc,zd⟩,hn,k⟩:=h
 refine J.q ⟨_,(J.h (J.k (J.r (J.b (J.g op_sub (J.g op_mulB (J.e (ixT K) (J.a 0) J.c (fun _ _=>rfl)) (J.e (ixT K) (J.a 1) J.c (fun _ _=>rfl))) (J.g op_mulB (J.e (ixT K) (J.a 1) J.c (fun _ _=>rfl)) (J.e (ixT K) (J.a 0) J.c (fun _ _=>rfl)))) (J.b (J.g op_mulB (J.e (ixT K) (J.a 0) J.c (fun _ _=>rfl)) (J.e (ixT K) (J.a 1) J.c (fun _ _=>rfl))) J.d st_B) st_B)))),?_⟩
 walk_at "v"
 refine r_I (mulOk za zd (by walk_at "o")) ?_
 walk_at "v"
 refine r_I (mulOk zc zb (by walk_at "o")) ?_
 walk_at "v"
 refine r_I (mulOk zb zd (by walk_at "o")) ?_
 walk_at "v"
 refine r_new (mk:=.tup) (by simp) fun x H1 s1 n1 e1=>?_
 exact k x H1 s1 ⟨_,_,e1,hq.minus hq',(za.mul zd).sub ((zc.mul zb).mono (by walk_at "o")),(zb.mul zd).mono (by walk_at "o")⟩
theorem sc_loose_times:FnScope ["one","other"] ["one","other"] (defScope s_loose_times):=⟨rfl,rfl,rfl,by decide +kernel,rfl,by decide +kernel,by decide +kernel⟩
theorem ok_loose_times (F:Fun K "loose_times" "loose_times" s_loose_times f fd):FnOk P w K mg base CX0 1 f fd ["one","other"] (spTwo (·*·) 0):=by
 refine F.ok sc_loose_times (fun vs H Q E h=>?_) (fun cdv A outer s H vs Q E hr h=>?_)
 ·obtain ⟨p,r,q,q',m,n,rfl,_⟩:=h
  rfl
 obtain ⟨p,r,q,q',m,n,rfl,⟨a,b,hp,hq,za,zb⟩,⟨c,d,hr',hq',zc,zd⟩,hn,k⟩:=h
 refine J.q ⟨_,(J.h (J.k (J.r (J.b (J.g op_mulB (J.e (ixT K) (J.a 0) J.c (fun _ _=>rfl)) (J.e (ixT K) (J.a 1) J.c (fun _ _=>rfl))) (J.b (J.g op_mulB (J.e (ixT K) (J.a 0) J.c (fun _ _=>rfl)) (J.e (ixT K) (J.a 1) J.c (fun _ _=>rfl))) J.d st_B) st_B)))),?_⟩
 walk_at "v"
 refine r_I (mulOk za zc (by walk_at "o")) ?_
 walk_at "v"
 refine r_I (mulOk zb zd (by walk_at "o")) ?_
 walk_at "v"
 refine r_new (mk:=.tup) (by simp) fun x H1 s1 n1 e1=>?_
 exact k x H1 s1 ⟨_,_,e1,hq.times hq',za.mul zc,zb.mul zd⟩
end

theorem one_sz {n:Nat} (h:1≤n):Sz n 1:=by
 have:(2:Nat) ^ 1≤2 ^ n:=Nat.pow_le_pow_right (by decide) h
 show Int.natAbs 1<2 ^ n
 have e:Int.natAbs 1=1:=rfl
 walk_at "o"
theorem whole_at {H:Hp} {p:Addr} {m:Int} {n:Nat} (h:H p=some (.tup [.int m,.int 1])) (z:Sz n m) (hn:1≤n):QtAt H p (m:Rat) n:=⟨m,1,h,Qt.whole m,z,one_sz hn⟩
section
variable {P:Program} {w:World} {K:PySem.W.Frag} {mg:Str→Option Value} {base:Heap} {f:Addr} {fd:FuncData}
theorem sc_loose_slope:FnScope ["one","other","rise","step"] ["one","other"] (defScope s_loose_slope):=⟨rfl,rfl,rfl,by decide +kernel,rfl,by decide +kernel,by decide +kernel⟩
theorem ok_loose_slope (F:Fun K "loose_slope" "loose_slope" s_loose_slope f fd) (D_loose_minus:Dn P w K mg base 1 "loose_minus" ["one","other"] (spTwo (·-·) 1)):FnOk P w K mg base CX0 3 f fd ["one","other"] spLslope:=by
 refine F.ok sc_loose_slope (fun vs H Q E h=>?_) (fun cdv A outer s H vs Q E hr h=>?_)
 ·obtain ⟨p,r,t,t',q,q',n,rfl,_⟩:=h
  rfl
 obtain ⟨p,r,t,t',q,q',n,rfl,⟨v,hp,hv,zt⟩,⟨v',hr',hv',zt'⟩,ht,hn,k⟩:=h
 refine J.q ⟨_,(J.f (J.i (i:=2) sc_loose_slope.nd rfl (Or.inl rfl) (J.l D_loose_minus (hr.mono (by decide)) rfl (J.b (J.e (ixT K) (J.a 1) J.c (fun _ _=>rfl)) (J.b (J.e (ixT K) (J.a 0) J.c (fun _ _=>rfl)) J.d st_S) st_S) (he:=st_S) (hpl:=(anyc st_S any0))) (hs:=sw_K))
  (J.f (J.i (i:=3) sc_loose_slope.nd rfl (Or.inl rfl) (J.g op_sub (J.e (ixT K) (J.a 1) J.c (fun _ _=>rfl)) (J.e (ixT K) (J.a 0) J.c (fun _ _=>rfl))) (hs:=sw_B))
  (J.f (J.m (J.j op_lt (J.a 3) J.c (nomark _))
  (J.h (J.k (J.r (J.b (J.z un_neg (J.e (ixT K) (J.a 2) J.c (fun _ _=>rfl))) (J.b (J.g op_mulB (J.e (ixT K) (J.a 2) J.c (fun _ _=>rfl)) (J.z un_neg (J.a 3))) J.d st_B) st_U))))
  J.o)
  (J.h (J.k (J.r (J.b (J.e (ixT K) (J.a 2) J.c (fun _ _=>rfl)) (J.b (J.g op_mulB (J.e (ixT K) (J.a 2) J.c (fun _ _=>rfl)) (J.a 3)) J.d st_B) st_S))))))),?_⟩
 walk_at "v"
 refine ⟨v',v,q',q,n,n,rfl,hv'.qt,hv.qt,by walk_at "o",fun x H1 s1 e1=>?_⟩
 obtain ⟨a,b,hx,hq,za,zb⟩:=e1
 have hp1:=s1 _ _ hp
 have hr1:=s1 _ _ hr'
 have zs:Sz (n+1) (t'-t):=zt'.sub zt
 walk_at "v"
 refine ite2 (fun c=>?_) (fun c=>?_)
 ·have c':t'-t<0:=of_decide_eq_true c
  walk_at "v"
  refine r_I (mulOk zb zs.neg (by walk_at "o")) ?_
  walk_at "v"
  refine r_new (mk:=.tup) (by simp) fun y H2 s2 n2 e2=>?_
  exact k y H2 (s1.trans s2) ⟨_,_,e2,hq.divN c',za.neg.mono (by walk_at "o"),(zb.mul zs.neg).mono (by walk_at "o")⟩
 ·have c':¬t'-t<0:=of_decide_eq_false (Bool.eq_false_iff.mpr c)
  walk_at "v"
  refine r_I (mulOk zb zs (by walk_at "o")) ?_
  walk_at "v"
  refine r_new (mk:=.tup) (by simp) fun y H2 s2 n2 e2=>?_
  exact k y H2 (s1.trans s2) ⟨_,_,e2,hq.div (by walk_at "o"),za.mono (by walk_at "o"),(zb.mul zs).mono (by walk_at "o")⟩
theorem sc_loose_along:FnScope ["steep","sample","moment"] ["steep","sample","moment"] (defScope s_loose_along):=⟨rfl,rfl,rfl,by decide +kernel,rfl,by decide +kernel,by decide +kernel⟩
theorem ok_loose_along (F:Fun K "loose_along" "loose_along" s_loose_along f fd) (D_loose_plus:Dn P w K mg base 1 "loose_plus" ["one","other"] (spTwo (·+·) 1)) (D_loose_times:Dn P w K mg base 1 "loose_times" ["one","other"] (spTwo (·*·) 0)) :
 FnOk P w K mg base CX0 3 f fd ["steep","sample","moment"] spLalong:=by
 refine F.ok sc_loose_along (fun vs H Q E h=>?_) (fun cdv A outer s H vs Q E hr h=>?_)
 ·obtain ⟨p,r,s',q,t,u,m,n,rfl,_⟩:=h
  rfl
 obtain ⟨p,r,s',q,t,u,m,n,rfl,hp,⟨v,hr',hv,zt⟩,zu,hm,hn,k⟩:=h
 refine J.q ⟨_,(J.h (J.k (J.l D_loose_plus (hr.mono (by decide)) rfl (J.b (J.e (ixT K) (J.a 1) J.c (fun _ _=>rfl)) (J.b (J.l D_loose_times (hr.mono (by decide)) rfl (J.b (J.a 0) (J.b (J.r (J.b (J.g op_sub (J.a 2) (J.e (ixT K) (J.a 1) J.c (fun _ _=>rfl))) (J.b J.c J.d st_C) st_B)) J.d st_T) st_N) (he:=st_N) (hpl:=(anyc st_T any0))) J.d st_K) st_S) (he:=st_S) (hpl:=(anyc st_K any0))))),?_⟩
 walk_at "v"
 refine r_new (mk:=.tup) (by simp) fun y H1 s1 n1 e1=>?_
 refine ⟨p,y,s',_,m,n+1,rfl,hp.up s1,whole_at e1 (zu.sub zt) (by walk_at "o"),by walk_at "o",fun x H2 s2 e2=>?_⟩
 walk_at "v"
 refine ⟨v,x,q,_,n,_,rfl,(hv.up (s1.trans s2)).qt,e2,by walk_at "o",fun z H3 s3 e3=>?_⟩
 exact k z H3 (s1.trans (s2.trans s3)) (e3.mono (by walk_at "o"))
end

noncomputable def spOrderQ:Sp:=fun vs H Q _=>∃(p r:Addr) (q q':Rat) (m n:Nat),vs=[.ref p,.ref r]∧QtAt H p q m∧QtAt H r q' n∧m+n≤100000∧∀o:Int,(0<o↔q'<q)→(o<0↔q<q')→Q (.int o) H
noncomputable def spSizeQ:Sp:=fun vs H Q _=>∃(p:Addr) (q:Rat) (n:Nat),vs=[.ref p]∧QtAt H p q n∧∀(r:Addr) (H':Hp),Same H H'→QtAt H' r (rabs q) n→Q (.ref r) H'
noncomputable def spLstand:Sp:=fun vs H Q _=>∃(p1 p2 p3:Addr) (t1 t2 t3:Int) (q1 q2 q3:Rat) (n:Nat),vs=[.ref p1,.ref p2,.ref p3]∧SaAt H p1 t1 q1 n∧SaAt H p2 t2 q2 n∧SaAt H p3 t3 q3 n∧t1<t3∧n≤2000 ∧
 ∀(z:Addr) (H':Hp),Same H H'→QtAt H' z (q2-chord t1 q1 t2 t3 q3) (7*n+7)→Q (.ref z) H'
section
variable {P:Program} {w:World} {K:PySem.W.Frag} {mg:Str→Option Value} {base:Heap} {f:Addr} {fd:FuncData}
theorem sc_order:FnScope ["one","other","left","right"] ["one","other"] (defScope s_order):=⟨rfl,rfl,rfl,by decide +kernel,rfl,by decide +kernel,by decide +kernel⟩
theorem ok_order (F:Fun K "order" "order" s_order f fd):FnOk P w K mg base CX0 1 f fd ["one","other"] spOrderQ:=by
 refine F.ok sc_order (fun vs H Q E h=>?_) (fun cdv A outer s H vs Q E hr h=>?_)
 ·obtain ⟨p,r,q,q',m,n,rfl,_⟩:=h
  rfl
 obtain ⟨p,r,q,q',m,n,rfl,⟨a,b,hp,hq,za,zb⟩,⟨c,d,hr',hq',zc,zd⟩,hn,k⟩:=h
 have l1:=hq.lt_iff hq'
 have l2:=hq'.lt_iff hq
 refine J.q ⟨_,(J.f (J.i (i:=2) sc_order.nd rfl (Or.inl rfl) (J.g op_mulB (J.e (ixT K) (J.a 0) J.c (fun _ _=>rfl)) (J.e (ixT K) (J.a 1) J.c (fun _ _=>rfl))) (hs:=sw_B))
  (J.f (J.i (i:=3) sc_order.nd rfl (Or.inl rfl) (J.g op_mulB (J.e (ixT K) (J.a 1) J.c (fun _ _=>rfl)) (J.e (ixT K) (J.a 0) J.c (fun _ _=>rfl))) (hs:=sw_B))
  (J.f (J.m (J.j op_lt (J.a 2) (J.a 3) (nomark _))
  (J.h (J.k (J.z un_neg J.c)))
  J.o)
  (J.f (J.m (J.j op_gt (J.a 2) (J.a 3) (nomark _))
  (J.h (J.k J.c))
  J.o)
  (J.h (J.k J.c)))))),?_⟩
 walk_at "v"
 refine r_I (mulOk za zd (by walk_at "o")) ?_
 walk_at "v"
 refine r_I (mulOk zc zb (by walk_at "o")) ?_
 walk_at "v"
 refine ite2 (fun c1=>?_) (fun c1=>?_)
 ·have c':=of_decide_eq_true c1
  walk_at "v"
  have x1:=l1.mp c'
  exact k _ ⟨fun z=>absurd z (by decide),fun z=>by grind⟩ ⟨fun _=>x1,fun _=>by decide⟩
 ·have c':=of_decide_eq_false (Bool.eq_false_iff.mpr c1)
  walk_at "v"
  refine ite2 (fun c2=>?_) (fun c2=>?_)
  ·have c'':=of_decide_eq_true c2
   walk_at "v"
   have x1:=l2.mp c''
   exact k _ ⟨fun _=>x1,fun _=>by decide⟩ ⟨fun z=>absurd z (by decide),fun z=>by grind⟩
  ·have c'':=of_decide_eq_false (Bool.eq_false_iff.mpr c2)
   walk_at "v"
   exact k _ ⟨fun z=>absurd z (by decide),fun z=>absurd (l2.mpr z) c''⟩ ⟨fun z=>absurd z (by decide),fun z=>absurd (l1.mpr z) c'⟩
theorem sc_size:FnScope ["one"] ["one"] (defScope s_size):=⟨rfl,rfl,rfl,by decide +kernel,rfl,by decide +kernel,by decide +kernel⟩
theorem ok_size (F:Fun K "size" "size" s_size f fd) (T:Txt mg):FnOk P w K mg base CX0 1 f fd ["one"] spSizeQ:=by
 refine F.ok sc_size (fun vs H Q E h=>?_) (fun cdv A outer s H vs Q E hr h=>?_)
 ·obtain ⟨p,q,n,rfl,_⟩:=h
  rfl
 obtain ⟨p,q,n,rfl,⟨a,b,hp,hq,za,zb⟩,k⟩:=h
 refine J.q ⟨_,(J.h (J.k (J.r (J.b (J.p absC rfl T.abs_ PyProof.Rows.boot_abs (J.b (J.e (ixT K) (J.a 0) J.c (fun _ _=>rfl)) J.d st_S) (he:=st_S) (hpl:=any0)) (J.b (J.e (ixT K) (J.a 0) J.c (fun _ _=>rfl)) J.d st_S) st_K)))),?_⟩
 walk_at "v"
 rw [abs_cast]
 refine r_new (mk:=.tup) (by simp) fun p1 H1 s1 n1 e1=>?_
 exact k p1 H1 s1 ⟨_,_,e1,hq.abs,za.of_le (by walk_at "o"),zb⟩
theorem sc_loose_stand:FnScope ["one","mid","last"] ["one","mid","last"] (defScope s_loose_stand):=⟨rfl,rfl,rfl,by decide +kernel,rfl,by decide +kernel,by decide +kernel⟩
theorem ok_loose_stand (F:Fun K "loose_stand" "loose_stand" s_loose_stand f fd) (D_loose_minus:Dn P w K mg base 1 "loose_minus" ["one","other"] (spTwo (·-·) 1)) (D_loose_along:Dn P w K mg base 3 "loose_along" ["steep","sample","moment"] spLalong) (D_loose_slope:Dn P w K mg base 3 "loose_slope" ["one","other"] spLslope) :
 FnOk P w K mg base CX0 4 f fd ["one","mid","last"] spLstand:=by
 refine F.ok sc_loose_stand (fun vs H Q E h=>?_) (fun cdv A outer s H vs Q E hr h=>?_)
 ·obtain ⟨p1,p2,p3,t1,t2,t3,q1,q2,q3,n,rfl,_⟩:=h
  rfl
 obtain ⟨p1,p2,p3,t1,t2,t3,q1,q2,q3,n,rfl,h1,h2,h3,ht,hn,k⟩:=h
 obtain ⟨v2,e2,f2,z2⟩:=id h2
 refine J.q ⟨_,(J.h (J.k (J.l D_loose_minus (hr.mono (by decide)) rfl (J.b (J.e (ixT K) (J.a 1) J.c (fun _ _=>rfl)) (J.b (J.l D_loose_along (hr.mono (by decide)) rfl (J.b (J.l D_loose_slope (hr.mono (by decide)) rfl (J.b (J.a 0) (J.b (J.a 2) J.d st_N) st_N) (he:=st_N) (hpl:=(anyc st_N any0))) (J.b (J.a 0) (J.b (J.e (ixT K) (J.a 1) J.c (fun _ _=>rfl)) J.d st_S) st_N) st_K) (he:=st_K) (hpl:=(anyc st_N (anyc st_S any0)))) J.d st_K) st_S) (he:=st_S) (hpl:=(anyc st_K any0))))),?_⟩
 walk_at "v"
 refine ⟨p1,p3,t1,t3,q1,q3,n,rfl,h1,h3,by walk_at "o",hn,fun x H1 s1 e1=>?_⟩
 have e21:=s1 _ _ e2
 walk_at "v"
 refine ⟨x,p1,_,q1,t1,t2,_,n,rfl,e1,h1.up s1,z2,by walk_at "o",by walk_at "o",fun y H2 s2 e22=>?_⟩
 walk_at "v"
 refine ⟨v2,y,q2,_,n,_,rfl,(f2.up (s1.trans s2)).qt,e22,by walk_at "o",fun z H3 s3 e3=>?_⟩
 refine k z H3 (s1.trans (s2.trans s3)) ?_
 have hne:(t1:Rat)≠(t3:Rat):=fun z=>by
  have:=Rat.intCast_inj.mp z
  walk_at "o"
 have e:q1+(q3-q1)/((t3-t1:Int):Rat)*((t2-t1:Int):Rat)=chord t1 q1 t2 t3 q3:=by
  rw [Rat.intCast_sub,Rat.intCast_sub]
  exact chord_along hne
 rw [e] at e3
 exact e3.mono (by walk_at "o")
end
section
variable {P:Program} {w:World} {K:PySem.W.Frag} {mg:Str→Option Value} {base:Heap} {f:Addr} {fd:FuncData}
end

theorem pickP {zs:List Int} {i:Int} (P:Int→Prop) (hz:∀z∈zs,P z) (h0:0≤i) (h1:i<(zs.length:Int)):∃v:Int,atI (zs.map V.int) i=some (.int v)∧P v:=by
 have hk:i.toNat<zs.length:=by walk_at "o"
 exact ⟨zs[i.toNat],at_ints (List.getElem?_eq_getElem hk) (by walk_at "o"),hz _ (List.getElem_mem hk)⟩
theorem row_get {xs zs:List Int} (hlen:xs.length=zs.length) (hxs:∀(j:Nat) (x z:Int),xs[j]?=some x→zs[j]?=some z→0≤x∧x<z) (j:Nat) {z:Int} (ez:zs[j]?=some z):∃x,xs[j]?=some x∧0≤x∧x<z:=by
 have hj:=(List.getElem?_eq_some_iff.mp ez).1
 rw [← hlen] at hj
 exact ⟨xs[j],List.getElem?_eq_getElem hj,hxs j _ z (List.getElem?_eq_getElem hj) ez⟩
theorem of_low' {T B t b:Int} (h:Low T B t b) (hB:B≠0):Fr t b ((T:Rat)/(B:Rat)):=by
 refine Fr.of_low h hB ?_
 have:=cast_ne hB
 grind
theorem r_unpack2 {σ:St} {H:Hp} {K:PySem.W.Frag} {p:Addr} {x y:V} {i j:Nat} {R:St→Hp→Prop} (h:H p=some (.tup [x,y])) (q:R ((σ.set i (some x)).set j (some y)) H):gTup K 2 (gCons (gName i) (gCons (gName j) gNil)) (.ref p) σ H R:=
 ⟨p,_,rfl,SqT.of h,rfl,x,_,rfl,y,_,rfl,rfl,q⟩

noncomputable abbrev En:=Addr×Int×Option Rat
noncomputable def EnAt (H:Hp) (x:En) (n:Nat):Prop:=Sz n x.2.1∧match x.2.2 with
 | none=>H x.1=some (.tup [.int x.2.1,.non])
 | some q=>∃p,H x.1=some (.tup [.int x.2.1,.ref p])∧FrAt H p q n
theorem EnAt.up {H H':Hp} {x:En} {n:Nat} (f:EnAt H x n) (s:Same H H'):EnAt H' x n:=by
 obtain ⟨a,m,v⟩:=x
 cases v with
 | none=>exact ⟨f.1,s _ _ f.2⟩
 | some q=>exact ⟨f.1,let ⟨p,e,g⟩:=f.2;⟨p,s _ _ e,g.up s⟩⟩
theorem EnAt.rm {H:Hp} {D:Addr} {x:En} {n:Nat} {ys:List V} (hD:H D=some (.lst ys)) (f:EnAt H x n):EnAt (rm D H) x n:=by
 obtain ⟨a,m,v⟩:=x
 cases v with
 | none=>exact ⟨f.1,rm_tup hD f.2⟩
 | some q=>
   obtain ⟨z,p,e,t,b,et,g⟩:=f
   exact ⟨z,p,rm_tup hD e,t,b,rm_tup hD et,g⟩
theorem EnAt.obj {H:Hp} {x:En} {n:Nat} (f:EnAt H x n):∃v,H x.1=some (.tup [.int x.2.1,v])∧(decide (v=.non)=!x.2.2.isSome)∧(v=.non∨∃p q,v=.ref p∧x.2.2=some q∧FrAt H p q n):=by
 obtain ⟨a,m,v⟩:=x
 cases v with
 | none=>exact ⟨.non,f.2,rfl,.inl rfl⟩
 | some q=>
   obtain ⟨z,p,e,g⟩:=f
   exact ⟨.ref p,e,rfl,.inr ⟨p,q,rfl,rfl,g⟩⟩
noncomputable def Row (H:Hp) (es:List En) (n:Nat):Prop:=∀x∈es,EnAt H x n
theorem Row.up {H H':Hp} {es:List En} {n:Nat} (h:Row H es n) (s:Same H H'):Row H' es n:=fun x hx=>(h x hx).up s
theorem Row.rm {H:Hp} {D:Addr} {es:List En} {n:Nat} {ys:List V} (hD:H D=some (.lst ys)) (h:Row H es n):Row (rm D H) es n:=fun x hx=>(h x hx).rm hD
theorem Row.snoc {H:Hp} {es:List En} {x:En} {n:Nat} (h:Row H es n) (hx:EnAt H x n):Row H (es++[x]) n:=fun y hy=>by
 rcases List.mem_append.mp hy with z | z
 ·exact h y z
 ·obtain rfl:y=x:=by simpa using z
  exact hx
noncomputable def vals (es:List En):List V:=es.map fun x=>V.ref x.1
theorem vals_at {es:List En} {i:Nat} {v:V} (h:(vals es)[i]?=some v):∃x,es[i]?=some x∧v=.ref x.1:=by
 unfold vals at h
 rw [List.getElem?_map] at h
 cases e:es[i]? with
 | none=>rw [e] at h;cases h
 | some x=>rw [e] at h;cases h;exact ⟨x,rfl,rfl⟩
theorem vals_get {es:List En} {i:Nat} {x:En} (h:es[i]?=some x):(vals es)[i]?=some (.ref x.1):=by
 unfold vals
 rw [List.getElem?_map,h]
 rfl
theorem vals_len (es:List En):(vals es).length=es.length:=List.length_map ..
theorem vals_snoc (es:List En) (x:En):vals es++[.ref x.1]=vals (es++[x]):=by simp [vals]
noncomputable def dat (v:Int×Option Rat):PyData:=.tuple [.int v.1,match v.2 with | none=>.none | some q=>.tuple [.int q.num,.int (q.den:Int)]]
theorem EnAt.den {H:Hp} {x:En} {n:Nat} (f:EnAt H x n):Den H (.ref x.1) (dat x.2):=by
 obtain ⟨a,m,v⟩:=x
 cases v with
 | none=>exact .tup f.2 (.cons (.int _) (.cons .non .nil))
 | some q=>
   obtain ⟨z,p,e,t,b,et,g,_⟩:=f
   obtain ⟨rfl,rfl⟩:=g.num_den
   exact .tup e (.cons (.int _) (.cons (.tup et (.cons (.int _) (.cons (.int _) .nil))) .nil))
theorem Row.dens {H:Hp}:∀{es:List En} {n:Nat},Row H es n→Dens H (vals es) (es.map fun x=>dat x.2)
 | [],_,_=>.nil
 | x::es,n,h=>.cons (h x List.mem_cons_self).den (Row.dens fun y hy=>h y (List.mem_cons_of_mem _ hy))
theorem dat_eqv (v:Int×Option Rat):PyData.eqv (dat v) (dat v)=true:=by
 obtain ⟨m,v⟩:=v
 cases v with
 | none=>
   show (m==m&&(true&&true))=true
   simp
 | some q=>
   show (m==m&&((q.num==q.num&&((q.den:Int)==(q.den:Int)&&true))&&true))=true
   simp
theorem dats_eqv:∀vs:List (Int×Option Rat),PyData.eqvAll (vs.map dat) (vs.map dat)=true
 | []=>rfl
 | v::vs=>by
   show (PyData.eqv (dat v) (dat v)&&PyData.eqvAll (vs.map dat) (vs.map dat))=true
   rw [dat_eqv,dats_eqv vs];rfl
theorem dat_shape:∀v:Int×Option Rat,(dat v).canLay0=true∧(dat v).depth≤3:=by
 intro ⟨m,v⟩
 cases v with
 | none=>exact ⟨by rfl,by show _≤_;simp [dat,PyData.depth,PyData.depthAll]⟩
 | some q=>exact ⟨by rfl,by show _≤_;simp [dat,PyData.depth,PyData.depthAll]⟩
theorem dats_shape:∀vs:List (Int×Option Rat),PyData.canLayAll0 (vs.map dat)=true∧PyData.depthAll (vs.map dat)≤3
 | []=>⟨rfl,by decide⟩
 | v::vs=>by
   obtain ⟨a,b⟩:=dat_shape v
   obtain ⟨c,d⟩:=dats_shape vs
   refine ⟨?_,?_⟩
   ·show ((dat v).canLay0&&PyData.canLayAll0 (vs.map dat))=true
    rw [a,c];rfl
   ·show max (dat v).depth (PyData.depthAll (vs.map dat))≤3
    walk_at "o"
theorem row_shaped (vs:List (Int×Option Rat)):SeqAt.shaped (.list (vs.map dat))=true:=by
 obtain ⟨a,b⟩:=dats_shape vs
 unfold SeqAt.shaped
 rw [Bool.and_eq_true]
 refine ⟨a,decide_eq_true ?_⟩
 show PyData.depthAll (vs.map dat)+1≤64
 walk_at "o"
theorem Row.list_den {H:Hp} {l:Addr} {es:List En} {n:Nat} (h:Row H es n) (hl:H l=some (.lst (vals es))):Den H (.ref l) (.list ((es.map (·.2)).map dat)):=by
 have:=h.dens
 rw [show (es.map fun x=>dat x.2)=(es.map (·.2)).map dat by rw [List.map_map];rfl] at this
 exact .lst hl this
theorem rows_ne {H:Hp} {l l':Addr} {es es':List En} {n n':Nat} {Q:VK} (h:Row H es n) (h':Row H es' n') (hl:H l=some (.lst (vals es))) (hl':H l'=some (.lst (vals es'))) (e:es.map (·.2)=es'.map (·.2)) (q:Q (.bl false) H) :
 rNeD (.ref l) (.ref l') H Q:=by
 refine ⟨_,_,h.list_den hl,h'.list_den hl',row_shaped _,row_shaped _,?_⟩
 rw [e]
 have:PyData.eqv (.list ((es'.map (·.2)).map dat)) (.list ((es'.map (·.2)).map dat))=true:=dats_eqv _
 rw [this]
 exact q
theorem Row.app {H:Hp} {R:Addr} {es:List En} {n:Nat} {ys:List V} {o:HO} (f:Row H es n) (h:H R=some (.lst ys)):Row (upd H R o) es n:=(f.rm h).up (rm_up R H o)
noncomputable def rising (es:List En):Prop:=es.Pairwise fun a b=>a.2.1<b.2.1
theorem frac_gen {T B:Int} {n:Nat} {H:Hp} {Q:VK} (hB:0<B) (zT:Sz n T) (zB:Sz n B) (hn:n≤8000) (kk:∀(p:Addr) (H':Hp),Same H H'→FrAt H' p ((T:Rat)/(B:Rat)) n→Q (.ref p) H'):spRatio ([.int T,.int B]++[]) H Q E0:=
 ⟨_,_,rfl,hB,zB.mono hn,fun p t b H' s e lo=>kk p H' s ⟨t,b,e,of_low' lo (by walk_at "o"),zT.of_le lo.tb,zB.of_le lo.bb⟩⟩
section
variable {P:Program} {w:World} {K:PySem.W.Frag} {mg:Str→Option Value} {base:Heap} {f:Addr} {fd:FuncData}
end

noncomputable def smp (x:En):Bool:=x.2.2.isSome
noncomputable abbrev Ls:=List (Addr×List En)
noncomputable def lrefs (ls:Ls):List V:=ls.map fun x=>V.ref x.1
theorem lrefs_at {ls:Ls} {i:Nat} {v:V} (h:(lrefs ls)[i]?=some v):∃x,ls[i]?=some x∧v=.ref x.1:=by
 unfold lrefs at h
 rw [List.getElem?_map] at h
 cases e:ls[i]? with
 | none=>rw [e] at h;cases h
 | some x=>rw [e] at h;cases h;exact ⟨x,rfl,rfl⟩
theorem lrefs_len (ls:Ls):(lrefs ls).length=ls.length:=List.length_map ..
structure LL (H H2:Hp) (T:Addr) (ls:Ls):Prop where
 new:H T=none
 at_:H2 T=some (.lst (lrefs ls))
 each:∀x∈ls,H x.1=none∧H2 x.1=some (.lst (vals x.2))∧x.1≠T
 nd:(ls.map (·.1)).Nodup
section
variable {H H2 H3:Hp} {T R:Addr} {ls:Ls} {o:HO} {rn:List En}
theorem LL.up (h:LL H H2 T ls) (s:Same H2 H3):LL H H3 T ls:=⟨h.new,s _ _ h.at_,fun x hx=>let ⟨a,b,c⟩:=h.each x hx;⟨a,s _ _ b,c⟩,h.nd⟩
theorem LL.other (h:LL H H2 T ls) (hT:R≠T) (hl:∀x∈ls,x.1≠R):LL H (upd H2 R o) T ls:=
 ⟨h.new,by rw [upd_ne (Ne.symm hT)];exact h.at_,fun x hx=>let ⟨a,b,c⟩:=h.each x hx;⟨a,by rw [upd_ne (hl x hx)];exact b,c⟩,h.nd⟩
theorem LL.push (h:LL H H2 T ls) (hR:H R=none) (eR:H2 R=some (.lst (vals rn))) (hT:R≠T) (hl:∀x∈ls,x.1≠R):LL H (upd H2 T (.lst (lrefs ls++[.ref R]))) T (ls++[(R,rn)]):=by
 refine ⟨h.new,by rw [upd_same];simp [lrefs],fun x hx=>?_,?_⟩
 ·rcases List.mem_append.mp hx with z | z
  ·obtain ⟨a,b,c⟩:=h.each x z
   exact ⟨a,by rw [upd_ne c];exact b,c⟩
  ·obtain rfl:x=(R,rn):=by simpa using z
   exact ⟨hR,by rw [upd_ne hT];exact eR,hT⟩
 ·rw [List.map_append]
  refine List.nodup_append.mpr ⟨h.nd,by simp,fun a ha b hb=>?_⟩
  obtain ⟨x,hx,rfl⟩:=List.mem_map.mp ha
  obtain rfl:b=R:=by simpa using hb
  exact hl x hx
end
theorem at_last {α:Type} {xs:List α} {x:α}:atI (xs++[x]) (-1)=some x:=by
 unfold atI
 rw [ix_last (m:=xs.length) (by simp)]
 simp
noncomputable def spRuns:Sp:=fun vs H Q _=>∃(l:Addr) (es:List En) (n:Nat),vs=[.ref l]∧H l=some (.lst (vals es))∧Row H es n∧es.length≤40 ∧
 ∀(T:Addr) (ls:Ls) (H':Hp),Same H H'→LL H H' T ls→ls.map (·.2)=parts smp es es.length→ls.length≤40→(∀x∈ls,x.2.length≤40)→Q (.ref T) H'
section
variable {P:Program} {w:World} {K:PySem.W.Frag} {mg:Str→Option Value} {base:Heap} {f:Addr} {fd:FuncData}
theorem sc_runs:FnScope ["row","told","run","entry"] ["row"] (defScope s_runs):=⟨rfl,rfl,rfl,by decide +kernel,rfl,by decide +kernel,by decide +kernel⟩
theorem ok_runs (F:Fun K "runs" "runs" s_runs f fd) (T:Txt mg):FnOk P w K mg base CX0 1 f fd ["row"] spRuns:=by
 refine F.ok sc_runs (fun vs H Q E h=>?_) (fun cdv A outer s H vs Q E hr h=>?_)
 ·obtain ⟨l,es,n,rfl,_⟩:=h
  rfl
 obtain ⟨l,es,n,rfl,hl,hes,hn,k⟩:=h
 refine J.q ⟨_,(J.f (J.i (i:=1) sc_runs.nd rfl (Or.inl rfl) (J.s J.d) (hs:=sw_L))
  (J.f (J.i (i:=2) sc_runs.nd rfl (Or.inl rfl) (J.s J.d) (hs:=sw_L))
  (J.f (J.t PassesOwn.never rfl (J.w K (J.a 0)) (J.n (i:=3) sc_runs.nd rfl (Or.inl rfl))
  (J.h (J.m (J.j op_notN (J.e (ixT K) (J.a 3) J.c (fun _ _=>rfl)) J.u (nomark _))
  (J.h (J.x (J.y K (J.a 2) (J.a 3)) (hs:=sw_K)))
  (J.h (J.m (J.j op_gt (J.p (lenC K) rfl T.len_ PySem.boot_len (J.b (J.a 2) J.d st_N) (he:=st_N) (hpl:=any0)) J.c (nomark _))
  (J.f (J.x (J.y K (J.a 1) (J.a 2)) (hs:=sw_K))
  (J.h (J.i (i:=2) sc_runs.nd rfl (Or.inl rfl) (J.s J.d) (hs:=sw_L))))
  J.o)))))
  (J.f (J.m (J.j op_gt (J.p (lenC K) rfl T.len_ PySem.boot_len (J.b (J.a 2) J.d st_N) (he:=st_N) (hpl:=any0)) J.c (nomark _))
  (J.h (J.x (J.y K (J.a 1) (J.a 2)) (hs:=sw_K)))
  J.o)
  (J.h (J.k (J.a 1))))))),?_⟩
 walk_at "v"
 refine r_new (mk:=.lst) (by simp) fun TT H1 s1 n1 e1=>?_
 walk_at "v"
 refine r_new (mk:=.lst) (by simp) fun R0 H2 s2 n2 e2=>?_
 walk_at "v"
 refine r_for (r_iL ?_)
 walk_at "v"
 have s02:=s1.trans s2
 refine ⟨l,rfl,⟨_,SqL.of (s02 _ _ hl)⟩,for_list (xs:=vals es) (fun i σ H3=>∃(R:Addr) (ls:Ls) (rn:List En) (v:Option V),σ=[some (.ref l),some (.ref TT),some (.ref R),v]∧Same H H3∧LL H H3 TT ls∧H R=none∧H3 R=some (.lst (vals rn))∧R≠TT∧(∀x∈ls,x.1≠R) ∧
  (inRun smp es i=true→parts smp es i=ls.map (·.2)++[rn]∧rn≠[])∧(inRun smp es i=false→parts smp es i=ls.map (·.2)∧rn=[])∧rn.length≤i∧ls.length≤i∧(∀x∈ls,x.2.length≤40)) ?_ ?_ ?_ ?_⟩
 ·refine ⟨R0,[],[],none,rfl,s02,⟨n1,s2 _ _ e1,fun x hx=>absurd hx (by simp),List.nodup_nil⟩,s1.free n2,e2,fun z=>?_,fun x hx=>absurd hx (by simp),fun z=>absurd z (by simp [inRun]),fun _=>⟨rfl,rfl⟩,Nat.le_refl _,Nat.le_refl _,fun x hx=>absurd hx (by simp)⟩
  rw [z] at n2
  rw [e1] at n2
  cases n2
 ·rintro i σ H3 _ ⟨R,ls,rn,v,rfl,s3,_⟩
  exact SqL.of (s3 _ _ hl)
 ·rintro i x σ H3 hx ⟨R,ls,rn,v,rfl,s3,hL,hR,eR,nR,hne,hp1,hp2,lr,ll,lx⟩
  obtain ⟨e,he,rfl⟩:=vals_at hx
  have hi:i<es.length:=(List.getElem?_eq_some_iff.mp he).1
  obtain ⟨u,ee,du,_⟩:=((hes e (List.mem_of_getElem? he)).up s3).obj
  have hsu:inRun smp es (i+1)=smp e:=inRun_succ he
  walk_at "v"
  refine ⟨rfl,?_⟩
  walk_at "v"
  rw [du]
  cases hs:e.2.2.isSome with
  | true=>
    have hs':smp e=true:=hs
    refine iteT ?_
    walk_at "v"
    refine ⟨.inl ⟨rfl,_,SqL.of eR⟩,?_⟩
    walk_at "v"
    refine r_app eR (by rw [vals_len];exact small1000 (by walk_at "o")) ?_
    refine ⟨R,ls,rn++[e],_,rfl,same_at s3 hR,hL.other nR (fun x hx=>hne x hx),hR,by rw [upd_same,vals_snoc],nR,hne,fun _=>?_,fun z=>absurd (hsu.symm.trans z) (by rw [hs'];decide),by rw [List.length_append];exact Nat.succ_le_succ lr,by walk_at "o",lx⟩
    refine ⟨?_,by simp⟩
    cases hir:inRun smp es i with
    | true=>exact parts_on he hs' hir (hp1 hir).1
    | false=>
      obtain ⟨a,rfl⟩:=hp2 hir
      rw [parts_new he hs' hir,a]
      rfl
  | false=>
    have hs':smp e=false:=hs
    refine iteF ?_
    walk_at "v"
    refine r_len (.inl (SqL.of eR)) ?_
    walk_at "v"
    refine ite2 (fun c=>?_) (fun c=>?_)
    ·have c':=of_decide_eq_true c
     rw [vals_len] at c'
     have hir:inRun smp es i=true:=by
      cases hir:inRun smp es i with
      | true=>rfl
      | false=>
        obtain ⟨_,rfl⟩:=hp2 hir
        simp at c'
     walk_at "v"
     refine ⟨.inl ⟨rfl,_,SqL.of hL.at_⟩,?_⟩
     walk_at "v"
     refine r_app hL.at_ (by rw [lrefs_len];exact small1000 (by walk_at "o")) ?_
     walk_at "v"
     have hL2:=hL.push hR eR nR hne
     refine r_new (mk:=.lst) (by simp) fun R2 H4 s4 n4 e4=>?_
     have sH:Same H H4:=(same_at s3 hL.new).trans s4
     walk_at "v"
     refine ⟨R2,ls++[(R,rn)],[],_,rfl,sH,hL2.up s4,(same_at s3 hL.new).free n4,e4,fun z=>?_,fun x hx z=>?_,fun z=>absurd (hsu.symm.trans z) (by rw [hs'];decide),fun _=>⟨?_,rfl⟩,Nat.zero_le _,by rw [List.length_append];exact Nat.succ_le_succ ll,fun x hx=>?_⟩
     ·rw [z,hL2.at_] at n4
      cases n4
     ·rw [← z,(hL2.each x hx).2.1] at n4
      cases n4
     ·rw [parts_gap he hs',(hp1 hir).1,List.map_append]
      rfl
     ·rcases List.mem_append.mp hx with z | z
      ·exact lx x z
      ·obtain rfl:x=(R,rn):=by simpa using z
       show rn.length≤40
       walk_at "o"
    ·have c':=of_decide_eq_false (Bool.eq_false_iff.mpr c)
     rw [vals_len] at c'
     have hir:inRun smp es i=false:=by
      cases hir:inRun smp es i with
      | false=>rfl
      | true=>
        have:=List.length_pos_iff.mpr (hp1 hir).2
        walk_at "o"
     obtain ⟨a,rfl⟩:=hp2 hir
     walk_at "v"
     exact ⟨R,ls,[],_,rfl,s3,hL,hR,eR,nR,hne,fun z=>absurd (hsu.symm.trans z) (by rw [hs'];decide),fun _=>⟨by rw [parts_gap he hs',a],rfl⟩,Nat.zero_le _,by walk_at "o",lx⟩
 ·rintro σ H3 ⟨R,ls,rn,v,rfl,s3,hL,hR,eR,nR,hne,hp1,hp2,lr,ll,lx⟩
  rw [vals_len] at hp1 hp2 lr ll
  walk_at "v"
  refine r_len (.inl (SqL.of eR)) ?_
  walk_at "v"
  refine ite2 (fun c=>?_) (fun c=>?_)
  ·have c':=of_decide_eq_true c
   rw [vals_len] at c'
   have hir:inRun smp es es.length=true:=by
    cases hir:inRun smp es es.length with
    | true=>rfl
    | false=>
      obtain ⟨_,rfl⟩:=hp2 hir
      simp at c'
   have hlen:(ls++[(R,rn)]).length≤40:=by
    have e:=parts_len (s:=smp) (es:=es) es.length
    rw [(hp1 hir).1,List.length_append,List.length_map] at e
    rw [List.length_append]
    simp at e ⊢
    walk_at "o"
   walk_at "v"
   refine ⟨.inl ⟨rfl,_,SqL.of hL.at_⟩,?_⟩
   walk_at "v"
   refine r_app hL.at_ (by rw [lrefs_len];exact small1000 (by walk_at "o")) ?_
   walk_at "v"
   refine k TT (ls++[(R,rn)]) _ (same_at s3 hL.new) (hL.push hR eR nR hne) ?_ hlen fun x hx=>?_
   ·rw [(hp1 hir).1,List.map_append]
    rfl
   ·rcases List.mem_append.mp hx with z | z
    ·exact lx x z
    ·obtain rfl:x=(R,rn):=by simpa using z
     show rn.length≤40
     walk_at "o"
  ·have c':=of_decide_eq_false (Bool.eq_false_iff.mpr c)
   rw [vals_len] at c'
   have hir:inRun smp es es.length=false:=by
    cases hir:inRun smp es es.length with
    | false=>rfl
    | true=>
      have:=List.length_pos_iff.mpr (hp1 hir).2
      walk_at "o"
   walk_at "v"
   exact k TT ls H3 s3 hL (hp2 hir).1.symm (by walk_at "o") lx
end

noncomputable abbrev Nn:=Addr×Int×Option Int
noncomputable def nnv:Option Int→V
 | none=>.non
 | some n=>.int n
noncomputable def NnAt (H:Hp) (x:Nn) (m n:Nat):Prop:=H x.1=some (.tup [.int x.2.1,nnv x.2.2])∧Sz m x.2.1∧∀z,x.2.2=some z→Sz n z
theorem NnAt.up {H H':Hp} {x:Nn} {m n:Nat} (f:NnAt H x m n) (s:Same H H'):NnAt H' x m n:=⟨s _ _ f.1,f.2⟩
theorem NnAt.rm {H:Hp} {D:Addr} {x:Nn} {m n:Nat} {ys:List V} (hD:H D=some (.lst ys)) (f:NnAt H x m n):NnAt (rm D H) x m n:=⟨rm_tup hD f.1,f.2⟩
noncomputable def NRow (H:Hp) (es:List Nn) (m n:Nat):Prop:=∀x∈es,NnAt H x m n
theorem NRow.up {H H':Hp} {es:List Nn} {m n:Nat} (h:NRow H es m n) (s:Same H H'):NRow H' es m n:=fun x hx=>(h x hx).up s
theorem NRow.app {H:Hp} {R:Addr} {es:List Nn} {m n:Nat} {ys:List V} {o:HO} (f:NRow H es m n) (h:H R=some (.lst ys)):NRow (upd H R o) es m n:=fun x hx=>((f x hx).rm h).up (rm_up R H o)
theorem NRow.snoc {H:Hp} {es:List Nn} {x:Nn} {m n:Nat} (h:NRow H es m n) (hx:NnAt H x m n):NRow H (es++[x]) m n:=fun y hy=>by
 rcases List.mem_append.mp hy with z | z
 ·exact h y z
 ·obtain rfl:y=x:=by simpa using z
  exact hx
noncomputable def nvals (es:List Nn):List V:=es.map fun x=>V.ref x.1
theorem nvals_len (es:List Nn):(nvals es).length=es.length:=List.length_map ..
theorem nvals_snoc (es:List Nn) (x:Nn):nvals es++[.ref x.1]=nvals (es++[x]):=by simp [nvals]
theorem nvals_at {es:List Nn} {i:Nat} {v:V} (h:(nvals es)[i]?=some v):∃x,es[i]?=some x∧v=.ref x.1:=by
 unfold nvals at h
 rw [List.getElem?_map] at h
 cases e:es[i]? with
 | none=>rw [e] at h;cases h
 | some x=>rw [e] at h;cases h;exact ⟨x,rfl,rfl⟩
noncomputable def nrising (es:List Nn):Prop:=es.Pairwise fun a b=>a.2.1<b.2.1
structure Shp (xs:List Int) (c:Nat):Prop where
 x0:xs[0]?=some (c:Int)
 x1:∃x,xs[1]?=some x∧0≤x∧x<4
 x4:∃x,xs[4]?=some x∧0≤x∧x<3
 x5:∃x,xs[5]?=some x∧0≤x∧x<4
 x12:∃x,xs[12]?=some x∧0≤x∧x<3
 each:∀k,k<c→∃x y z,xs[3*k+13]?=some x∧xs[3*k+14]?=some y∧xs[3*k+15]?=some z∧0≤x∧x<3∧0≤y∧y<9∧0≤z∧z<25
noncomputable def spShaped:Sp:=fun vs H Q _=>∃(lw tl:Addr) (xs:List Int) (c:Nat) (sc t0 t1:Int),vs=[.ref lw,.int sc,.ref tl]∧H lw=some (.lst (xs.map V.int))∧Shp xs c∧c≤40∧H tl=some (.tup [.int t0,.int t1])∧Sz 45 sc∧Sz 45 t0∧Sz 45 t1 ∧
 ∀(R:Addr) (es:List Nn) (H':Hp),Same H H'→H R=none→H' R=some (.lst (nvals es))→NRow H' es 45 100→es.length=c→nrising es→Q (.ref R) H'
section
variable {P:Program} {w:World} {K:PySem.W.Frag} {mg:Str→Option Value} {base:Heap} {f:Addr} {fd:FuncData}
theorem sc_law_shaped:FnScope ["_law_some","_law_scale","_law_tilt","_law_moment","_law_up","_law_rise","_law_row_here","_law_k","_law_at","_law_high","_law_lean"] ["_law_some","_law_scale","_law_tilt"] (defScope s_law_shaped):=⟨rfl,rfl,rfl,by decide +kernel,rfl,by decide +kernel,by decide +kernel⟩
theorem ok_law_shaped (F:Fun K "_law_shaped" "_law_shaped" s_law_shaped f fd) (T:Txt mg):FnOk P w K mg base CX0 1 f fd ["_law_some","_law_scale","_law_tilt"] spShaped:=by
 refine F.ok sc_law_shaped (fun vs H Q E h=>?_) (fun cdv A outer s H vs Q E hr h=>?_)
 ·obtain ⟨lw,tl,xs,c,sc,t0,t1,rfl,_⟩:=h
  rfl
 obtain ⟨lw,tl,xs,c,sc,t0,t1,rfl,e0,S,hc,et,zsc,zt0,zt1,k⟩:=h
 obtain ⟨x1,g1,a1,b1⟩:=S.x1
 obtain ⟨x4,g4,a4,b4⟩:=S.x4
 obtain ⟨x5,g5,a5,b5⟩:=S.x5
 obtain ⟨x12,g12,a12,b12⟩:=S.x12
 have w:∀{H':Hp},Same H H'→H' lw=some (.lst (xs.map V.int)):=fun s=>s _ _ e0
 refine J.q ⟨_,(J.f (J.i (i:=3) sc_law_shaped.nd rfl (Or.inl rfl) (J.e (ixL K) (J.s (J.b (J.z un_neg J.c) (J.b (J.z un_neg J.c) (J.b J.c (J.b (J.z un_neg (J.g op_pow J.c J.c)) J.d st_U) st_C) st_U) st_U)) (J.e (ixL K) (J.a 0) J.c (fun _ _=>rfl)) (fun _ _=>rfl)) (hs:=sw_S))
  (J.f (J.i (i:=4) sc_law_shaped.nd rfl (Or.inl rfl) J.c (hs:=sw_C))
  (J.f (J.i (i:=5) sc_law_shaped.nd rfl (Or.inl rfl) J.c (hs:=sw_C))
  (J.f (J.i (i:=6) sc_law_shaped.nd rfl (Or.inl rfl) (J.s J.d) (hs:=sw_L))
  (J.f (J.t PassesOwn.never rfl (J.al rfl T.range (J.b (J.e (ixL K) (J.a 0) J.c (fun _ _=>rfl)) J.d st_S)) (J.n (i:=7) sc_law_shaped.nd rfl (Or.inl rfl))
  (J.f (J.i (i:=8) sc_law_shaped.nd rfl (Or.inl rfl) (J.g op_add (J.g op_mulB J.c (J.a 7)) J.c) (hs:=sw_B))
  (J.f (J.i (i:=3) sc_law_shaped.nd rfl (Or.inl rfl) (J.g op_add (J.g op_add (J.a 3) J.c) (J.g op_mulB (J.e (ixL K) (J.a 0) (J.a 8) (fun _ _=>rfl)) (J.e (ixL K) (J.s (J.b J.c (J.b J.c (J.b J.c J.d st_C) st_C) st_C)) (J.e (ixL K) (J.a 0) J.c (fun _ _=>rfl)) (fun _ _=>rfl)))) (hs:=sw_B))
  (J.f (J.i (i:=9) sc_law_shaped.nd rfl (Or.inl rfl) (J.g op_sub (J.e (ixL K) (J.a 0) (J.g op_add (J.a 8) J.c) (fun _ _=>rfl)) J.c) (hs:=sw_B))
  (J.f (J.m (J.j op_eq (J.e (ixL K) (J.a 0) J.c (fun _ _=>rfl)) J.c (nomark _))
  (J.h (J.i (i:=4) sc_law_shaped.nd rfl (Or.inl rfl) (J.a 9) (hs:=sw_N)))
  J.o)
  (J.f (J.m (J.j op_eq (J.e (ixL K) (J.a 0) J.c (fun _ _=>rfl)) J.c (nomark _))
  (J.f (J.i (i:=5) sc_law_shaped.nd rfl (Or.inl rfl) (J.g op_sub (J.g op_add (J.a 5) (J.g op_mod (J.a 9) J.c)) J.c) (hs:=sw_B))
  (J.h (J.i (i:=4) sc_law_shaped.nd rfl (Or.inl rfl) (J.g op_add (J.a 4) (J.a 5)) (hs:=sw_B))))
  J.o)
  (J.f (J.m (J.j op_eq (J.e (ixL K) (J.a 0) J.c (fun _ _=>rfl)) J.c (nomark _))
  (J.h (J.i (i:=4) sc_law_shaped.nd rfl (Or.inl rfl) (J.g op_add (J.a 4) (J.a 9)) (hs:=sw_B)))
  J.o)
  (J.f (J.m (J.j op_eq (J.e (ixL K) (J.a 0) J.c (fun _ _=>rfl)) J.c (nomark _))
  (J.h (J.i (i:=4) sc_law_shaped.nd rfl (Or.inl rfl) (J.g op_mod (J.a 9) J.c) (hs:=sw_B)))
  J.o)
  (J.h (J.m (J.j op_lt (J.e (ixL K) (J.a 0) (J.g op_add (J.a 8) J.c) (fun _ _=>rfl)) (J.e (ixL K) (J.s (J.b J.c (J.b J.c (J.b J.c J.d st_C) st_C) st_C)) (J.e (ixL K) (J.a 0) J.c (fun _ _=>rfl)) (fun _ _=>rfl)) (nomark _))
  (J.h (J.x (J.y K (J.a 6) (J.r (J.b (J.a 3) (J.b J.u J.d st_C) st_N))) (hs:=sw_K)))
  (J.f (J.i (i:=10) sc_law_shaped.nd rfl (Or.inl rfl) (J.g op_add (J.g op_mulB (J.e (ixT K) (J.a 2) J.c (fun _ _=>rfl)) (J.a 3)) (J.e (ixT K) (J.a 2) J.c (fun _ _=>rfl))) (hs:=sw_B))
  (J.h (J.x (J.y K (J.a 6) (J.r (J.b (J.a 3) (J.b (J.g op_add (J.g op_mulB (J.a 4) (J.a 1)) (J.a 10)) J.d st_B) st_N))) (hs:=sw_K))))))))))))))
  (J.h (J.k (J.a 6)))))))),?_⟩
 walk_at "v"
 refine r_new (mk:=.lst) (by simp) fun l1 H1 s1 n1 e1=>?_
 walk_at "v"
 refine r_l (w s1) (at_ints g1 rfl) ?_
 obtain ⟨mo,emo,zmo⟩:=pickP (zs:=[-1,-5,1000003,-(10 ^ (12:Int).toNat)]) (fun z=>z.natAbs≤10 ^ 12) (by decide +kernel) a1 b1
 refine r_l e1 emo ?_
 walk_at "v"
 refine r_new (mk:=.lst) (by simp) fun R H2 s2 n2 e2=>?_
 have s02:=s1.trans s2
 walk_at "v"
 refine r_for (r_rng1 ?_)
 walk_at "v"
 refine r_l (w s02) (at_ints S.x0 rfl) ?_
 walk_at "v"
 refine ⟨c,rfl,by lia,by lia,for_range (fun j σ H3=>∃(m up rise:Int) (es:List Nn) (v7 v8 v9 v10:Option V),σ=[some (.ref lw),some (.int sc),some (.ref tl),some (.int m),some (.int up),some (.int rise),some (.ref R),v7,v8,v9,v10] ∧
  Same H1 H3∧H3 R=some (.lst (nvals es))∧NRow H3 es 45 100∧es.length=j∧m.natAbs≤10 ^ 12+3000*j∧rise.natAbs≤3*j∧up.natAbs≤130*j+12∧nrising es∧∀x∈es,x.2.1≤m) ?_ ?_ ?_⟩
 ·exact ⟨mo,0,0,[],none,none,none,none,rfl,s2,e2,fun x hx=>absurd hx (by simp),rfl,by simpa using zmo,by decide,by decide,List.Pairwise.nil,fun x hx=>absurd hx (by simp)⟩
 ·rintro j σ H3 hj ⟨m,up,rise,es,v7,v8,v9,v10,rfl,s3,e3,hes,hl,hm,hri,hup,hrs,hle⟩
  have hj':j<c:=by simpa using hj
  obtain ⟨x,y,z,gx,gy,gz,ax,bx,ay,by',az,bz⟩:=S.each j hj'
  have s13:=s1.trans s3
  have w3:=w s13
  walk_at "v"
  refine r_l w3 (at_ints gx (by walk_at "o")) ?_
  walk_at "v"
  refine r_new (mk:=.lst) (by simp) fun l4 H4 s4 n4 e4=>?_
  walk_at "v"
  refine r_l (s4 _ _ w3) (at_ints g4 rfl) ?_
  obtain ⟨wd,ewd,zwd⟩:=pickP (zs:=[1,1,1009]) (fun z=>1≤z∧z≤1009) (by decide +kernel) a4 b4
  refine r_l e4 ewd ?_
  walk_at "v"
  refine r_I (mulL (by walk_at "o") (by walk_at "o")) ?_
  have p5:0≤x*wd:=Int.mul_nonneg ax (by walk_at "o")
  have q5:x*wd≤2*1009:=Int.mul_le_mul (by walk_at "o") zwd.2 (by walk_at "o") (by walk_at "o")
  generalize x*wd=st at p5 q5 ⊢
  have ten:(10:Nat) ^ 12+3000*41<2 ^ 44:=by decide +kernel
  have bm:(m+1+st).natAbs≤10 ^ 12+3000*(j+1):=by
   rw [Int.add_assoc]
   exact nab hm (nabm p5 q5) (by lia)
  have zm:Sz 44 (m+1+st):=Nat.lt_of_le_of_lt bm (by lia)
  have w4:=s4 _ _ w3
  walk_at "v"
  refine r_l w4 (at_ints gz (by walk_at "o")) ?_
  have hj40:j<40:=by walk_at "o"
  have s14:=s3.trans s4
    -- the row's next entry
  have fin:∀(u:Nn) (H5:Hp) (up' rise':Int) (v7 v8 v9 v10:Option V),u.2.1=m+1+st→Same H4 H5→NnAt H5 u 45 100→rise'.natAbs≤3*(j+1)→up'.natAbs≤130*(j+1)+12 →
   ∃(m' up2 rise2:Int) (es':List Nn) (v7' v8' v9' v10':Option V),[some (.ref lw),some (.int sc),some (.ref tl),some (.int (m+1+st)),some (.int up'),some (.int rise'),some (.ref R),v7,v8,v9,v10]=[some (.ref lw),some (.int sc),some (.ref tl),some (.int m'),some (.int up2),some (.int rise2),some (.ref R),v7',v8',v9',v10'] ∧
    Same H1 (upd H5 R (.lst (nvals es++[.ref u.1])))∧upd H5 R (.lst (nvals es++[.ref u.1])) R=some (.lst (nvals es'))∧NRow (upd H5 R (.lst (nvals es++[.ref u.1]))) es' 45 100∧es'.length=j+1∧m'.natAbs≤10 ^ 12+3000*(j+1)∧rise2.natAbs≤3*(j+1)∧up2.natAbs≤130*(j+1)+12∧nrising es'∧∀x∈es',x.2.1≤m':=by
   intro u H5 up' rise' v7 v8 v9 v10 hu s5 f5 h1 h2
   have s35:=s4.trans s5
   have eR:=s35 _ _ e3
   refine ⟨m+1+st,up',rise',es++[u],v7,v8,v9,v10,rfl,same_at (s3.trans s35) n2,by rw [upd_same,nvals_snoc],((hes.up s35).snoc f5).app eR,by rw [List.length_append,hl];rfl,bm,h1,h2,?_,fun y hy=>?_⟩
   ·refine List.pairwise_append.mpr ⟨hrs,List.pairwise_singleton _ _,fun y hy z hz=>?_⟩
    obtain rfl:z=u:=by simpa using hz
    have:=hle y hy
    walk_at "o"
   ·rcases List.mem_append.mp hy with z | z
    ·have:=hle y z
     walk_at "o"
    ·obtain rfl:y=u:=by simpa using z
     walk_at "o"
  obtain ⟨th,eth,zth⟩:=pickP (zs:=[0,1,3]) (fun z=>0≤z) (by decide +kernel) a12 b12
  have et4:=(s13.trans s4) _ _ et
  have m5a:0≤(z-12) % 5:=Int.emod_nonneg _ (by decide)
  have m5b:(z-12) % 5<5:=Int.emod_lt_of_pos _ (by decide)
  have m3a:0≤(z-12) % 3:=Int.emod_nonneg _ (by decide)
  have m3b:(z-12) % 3<3:=Int.emod_lt_of_pos _ (by decide)
  refine r_c ?_
  refine r_I0 ?_
  refine r_g ?_
  refine nx_of ?_
  refine seq_cut4 (fun σ' H'=>H'=H4∧∃up' rise':Int,σ'=[some (.ref lw),some (.int sc),some (.ref tl),some (.int (m+1+st)),some (.int up'),some (.int rise'),some (.ref R),some (.int (0+(j:Int))),some (.int (3*(0+(j:Int))+13)),some (.int (z-12)),v10]∧rise'.natAbs≤3*(j+1)∧up'.natAbs≤130*(j+1)+12) (fun σ' H' hP=>?_) (fun N rest=>?_)
  rotate_left
  ·walk_at "v"
   refine r_l w4 (at_ints g5 rfl) ?_
   walk_at "v"
   rcases (show x5=0∨x5=1∨x5=2∨x5=3 by walk_at "o") with rfl | rfl | rfl | rfl
   ·refine iteT ?_
    walk_at "v"
    refine r_l w4 (at_ints g5 rfl) ?_
    walk_at "v"
    refine iteF ?_
    walk_at "v"
    refine r_l w4 (at_ints g5 rfl) ?_
    walk_at "v"
    refine iteF ?_
    walk_at "v"
    refine r_l w4 (at_ints g5 rfl) ?_
    walk_at "v"
    refine iteF ?_
    walk_at "v"
    exact rest _ _ ⟨rfl,_,_,rfl,Nat.le_trans hri (by lia),Nat.le_trans (nabz az bz) (by lia)⟩
   ·refine iteF ?_
    walk_at "v"
    refine r_l w4 (at_ints g5 rfl) ?_
    walk_at "v"
    refine iteT ?_
    walk_at "v"
    refine r_l w4 (at_ints g5 rfl) ?_
    walk_at "v"
    refine iteF ?_
    walk_at "v"
    refine r_l w4 (at_ints g5 rfl) ?_
    walk_at "v"
    refine iteF ?_
    walk_at "v"
    have r1:(rise+(z-12) % 5-1).natAbs≤3*(j+1):=by
     rw [Int.add_sub_assoc]
     exact nab hri (nab5 m5a m5b) (by lia)
    exact rest _ _ ⟨rfl,_,_,rfl,r1,nab hup r1 (by lia)⟩
   ·refine iteF ?_
    walk_at "v"
    refine r_l w4 (at_ints g5 rfl) ?_
    walk_at "v"
    refine iteF ?_
    walk_at "v"
    refine r_l w4 (at_ints g5 rfl) ?_
    walk_at "v"
    refine iteT ?_
    walk_at "v"
    refine r_l w4 (at_ints g5 rfl) ?_
    walk_at "v"
    refine iteF ?_
    walk_at "v"
    exact rest _ _ ⟨rfl,_,_,rfl,Nat.le_trans hri (by lia),nab hup (nabz az bz) (by lia)⟩
   ·refine iteF ?_
    walk_at "v"
    refine r_l w4 (at_ints g5 rfl) ?_
    walk_at "v"
    refine iteF ?_
    walk_at "v"
    refine r_l w4 (at_ints g5 rfl) ?_
    walk_at "v"
    refine iteF ?_
    walk_at "v"
    refine r_l w4 (at_ints g5 rfl) ?_
    walk_at "v"
    refine iteT ?_
    walk_at "v"
    exact rest _ _ ⟨rfl,_,_,rfl,Nat.le_trans hri (by lia),Nat.le_trans (nab3 m3a m3b) (by lia)⟩
  obtain ⟨rfl,up',rise',rfl,br,bu⟩:=hP
  walk_at "v"
  refine r_l w4 (at_ints gy (by walk_at "o")) ?_
  walk_at "v"
  refine r_new (mk:=.lst) (by simp) fun l6 H6 s6 n6 e6=>?_
  walk_at "v"
  refine r_l (s6 _ _ w4) (at_ints g12 rfl) ?_
  refine r_l e6 eth ?_
  walk_at "v"
  have e36:=s6 _ _ (s4 _ _ e3)
  refine ite2 (fun c=>?_) (fun c=>?_)
  ·walk_at "v"
   refine ⟨.inl ⟨rfl,_,SqL.of e36⟩,?_⟩
   walk_at "v"
   refine r_new (mk:=.tup) (by simp) fun pe H7 s7 n7 e7=>?_
   walk_at "v"
   refine r_app (s7 _ _ e36) (by rw [nvals_len];exact small1000 (by walk_at "o")) ?_
   exact fin (pe,m+1+st,none) H7 _ _ _ _ _ _ rfl (s6.trans s7) ⟨e7,zm.mono (by decide),fun z q=>by cases q⟩ br bu
  ·have et6:=s6 _ _ et4
   walk_at "v"
   refine r_I (mulOk zt0 zm) ?_
   walk_at "v"
   refine ⟨.inl ⟨rfl,_,SqL.of e36⟩,?_⟩
   walk_at "v"
   have zu:Sz 14 up':=show up'.natAbs<2 ^ 14 by walk_at "o"
   refine r_I (mulOk zu zsc) ?_
   walk_at "v"
   refine r_new (mk:=.tup) (by simp) fun pe H7 s7 n7 e7=>?_
   walk_at "v"
   refine r_app (s7 _ _ e36) (by rw [nvals_len];exact small1000 (by walk_at "o")) ?_
   exact fin (pe,m+1+st,some _) H7 _ _ _ _ _ _ rfl (s6.trans s7) ⟨e7,zm.mono (by decide),fun z q=>by
    cases q
    exact (((zu.mul zsc).mono (show 14+45≤90 by decide)).add (((zt0.mul zm).mono (show 45+44≤89 by decide)).add (zt1.mono (by decide)))).mono (by decide)⟩ br bu
 ·rintro σ H3 ⟨m,up,rise,es,v7,v8,v9,v10,rfl,s3,e3,hes,hl,hm,hri,hup,hrs,hle⟩
  walk_at "v"
  exact k R es H3 (s1.trans s3) (s1.free n2) e3 hes (by simpa using hl) hrs
noncomputable def spTimes:Sp:=fun vs H Q _=>∃(l:Addr) (es:List Nn) (b:Int) (n nb:Nat),vs=[.ref l,.int b]∧H l=some (.lst (nvals es))∧NRow H es 45 n∧es.length≤40∧Sz nb b∧n+nb≤8000 ∧
 ∀(R:Addr) (es':List Nn) (H':Hp),Same H H'→H R=none→H' R=some (.lst (nvals es'))→NRow H' es' 45 (n+nb)→es'.map (·.2)=es.map (fun x=>(x.2.1,x.2.2.map (·*b)))→Q (.ref R) H'
theorem sc_law_times:FnScope ["_law_row_here","_law_by","_law_some","_law_moment","_law_number"] ["_law_row_here","_law_by"] (defScope s_law_times):=⟨rfl,rfl,rfl,by decide +kernel,rfl,by decide +kernel,by decide +kernel⟩
theorem ok_law_times (F:Fun K "_law_times" "_law_times" s_law_times f fd):FnOk P w K mg base CX0 1 f fd ["_law_row_here","_law_by"] spTimes:=by
 refine F.ok sc_law_times (fun vs H Q E h=>?_) (fun cdv A outer s H vs Q E hr h=>?_)
 ·obtain ⟨l,es,b,n,nb,rfl,_⟩:=h
  rfl
 obtain ⟨l,es,b,n,nb,rfl,hl,hes,h40,zb,hn,k⟩:=h
 refine J.q ⟨_,(J.f (J.i (i:=2) sc_law_times.nd rfl (Or.inl rfl) (J.s J.d) (hs:=sw_L))
  (J.f (J.t PassesOwn.never rfl (J.w K (J.a 0)) (Jd.pgT K (n:=2) rfl (J.v (J.n (i:=3) sc_law_times.nd rfl (Or.inl rfl)) (J.v (J.n (i:=4) sc_law_times.nd rfl (Or.inl rfl)) J.ae)))
  (J.h (J.m (J.j op_isN (J.a 4) J.u (nomark _))
  (J.h (J.x (J.y K (J.a 2) (J.r (J.b (J.a 3) (J.b J.u J.d st_C) st_N))) (hs:=sw_K)))
  (J.h (J.x (J.y K (J.a 2) (J.r (J.b (J.a 3) (J.b (J.g op_mulB (J.a 4) (J.a 1)) J.d st_B) st_N))) (hs:=sw_K))))))
  (J.h (J.k (J.a 2))))),?_⟩
 walk_at "v"
 refine r_new (mk:=.lst) (by simp) fun R H1 s1 n1 e1=>?_
 walk_at "v"
 refine r_for (r_iL ?_)
 walk_at "v"
 refine ⟨l,rfl,⟨_,SqL.of (s1 _ _ hl)⟩,for_list (xs:=nvals es) (fun i σ H3=>∃(es':List Nn) (v3 v4:Option V),σ=[some (.ref l),some (.int b),some (.ref R),v3,v4]∧Same H H3∧H3 R=some (.lst (nvals es'))∧NRow H3 es' 45 (n+nb)∧es'.length=i∧es'.map (·.2)=(es.take i).map (fun x=>(x.2.1,x.2.2.map (·*b)))) ?_ ?_ ?_ ?_⟩
 ·exact ⟨[],none,none,rfl,s1,e1,fun x hx=>absurd hx (by simp),rfl,rfl⟩
 ·rintro i σ H3 _ ⟨es',v3,v4,rfl,s3,_⟩
  exact SqL.of (s3 _ _ hl)
 ·rintro i x σ H3 hx ⟨es',v3,v4,rfl,s3,e3,hes',hl',hmap⟩
  obtain ⟨e,he,rfl⟩:=nvals_at hx
  have hi:i<es.length:=(List.getElem?_eq_some_iff.mp he).1
  have fe:=(hes e (List.mem_of_getElem? he)).up s3
  have tk:es.take (i+1)=es.take i++[e]:=by rw [List.take_add_one,he];rfl
  have fin:∀(y:Addr) (H4:Hp) (v3 v4:Option V),Same H3 H4→NnAt H4 (y,e.2.1,e.2.2.map (·*b)) 45 (n+nb)→∃(es'':List Nn) (v3' v4':Option V),[some (.ref l),some (.int b),some (.ref R),v3,v4]=[some (.ref l),some (.int b),some (.ref R),v3',v4'] ∧
   Same H (upd H4 R (.lst (nvals es'++[.ref y])))∧upd H4 R (.lst (nvals es'++[.ref y])) R=some (.lst (nvals es''))∧NRow (upd H4 R (.lst (nvals es'++[.ref y]))) es'' 45 (n+nb)∧es''.length=i+1∧es''.map (·.2)=(es.take (i+1)).map (fun x=>(x.2.1,x.2.2.map (·*b))):=by
   intro y H4 v3 v4 s4 f4
   have e4:=s4 _ _ e3
   refine ⟨es'++[(y,e.2.1,e.2.2.map (·*b))],v3,v4,rfl,same_at (s3.trans s4) n1,by rw [upd_same];exact congrArg (fun z=>some (HO.lst z)) (nvals_snoc es' (y,e.2.1,e.2.2.map (·*b))),((hes'.up s4).snoc f4).app e4,by rw [List.length_append,hl'];rfl,?_⟩
   rw [tk,List.map_append,List.map_append,hmap]
   rfl
  obtain ⟨a,m,v⟩:=e
  cases v with
  | none=>
    refine r_unpack2 fe.1 ?_
    walk_at "v"
    refine ⟨rfl,?_⟩
    walk_at "v"
    refine iteT ?_
    walk_at "v"
    refine ⟨.inl ⟨rfl,_,SqL.of e3⟩,?_⟩
    walk_at "v"
    refine r_new (mk:=.tup) (by simp) fun y H4 s4 n4 e4=>?_
    walk_at "v"
    refine r_app (s4 _ _ e3) (by rw [nvals_len];exact small1000 (by walk_at "o")) ?_
    exact fin y H4 _ _ s4 ⟨e4,fe.2.1,fun z q=>by cases q⟩
  | some z=>
    have zz:=fe.2.2 z rfl
    refine r_unpack2 fe.1 ?_
    walk_at "v"
    refine ⟨rfl,?_⟩
    walk_at "v"
    refine iteF ?_
    walk_at "v"
    refine ⟨.inl ⟨rfl,_,SqL.of e3⟩,?_⟩
    walk_at "v"
    refine r_I (mulOk zz zb (by walk_at "o")) ?_
    walk_at "v"
    refine r_new (mk:=.tup) (by simp) fun y H4 s4 n4 e4=>?_
    walk_at "v"
    refine r_app (s4 _ _ e3) (by rw [nvals_len];exact small1000 (by walk_at "o")) ?_
    exact fin y H4 _ _ s4 ⟨e4,fe.2.1,fun z' q=>by
     cases q
     exact zz.mul zb⟩
 ·rintro σ H3 ⟨es',v3,v4,rfl,s3,e3,hes',hl',hmap⟩
  rw [nvals_len,List.take_length] at hmap
  walk_at "v"
  exact k R es' H3 s3 n1 e3 hes' hmap
end

noncomputable def nsm (x:Nn):Bool:=x.2.2.isSome
theorem nvals_get {es:List Nn} {i:Nat} {x:Nn} (h:es[i]?=some x):(nvals es)[i]?=some (.ref x.1):=by
 unfold nvals
 rw [List.getElem?_map,h]
 rfl
theorem at_nval {es:List Nn} {i:Nat} {j:Int} {x:Nn} (h:es[i]?=some x) (hj:j=(i:Int)):atI (nvals es) j=some (.ref x.1):=by
 subst hj
 exact atI_nat (nvals_get h)
theorem at_nvals {es:List Nn} {i:Int} (h0:0≤i) (h1:i<(es.length:Int)):∃x,x∈es∧es[i.toNat]?=some x∧atI (nvals es) i=some (.ref x.1):=by
 have hk:i.toNat<es.length:=by walk_at "o"
 exact ⟨es[i.toNat],List.getElem_mem hk,List.getElem?_eq_getElem hk,at_nval (List.getElem?_eq_getElem hk) (by walk_at "o")⟩
theorem nrising_of {es es':List Nn} (h:es'.map (fun x=>x.2.1)=es.map (fun x=>x.2.1)) (hr:nrising es):nrising es':=by
 have k:(es.map fun x=>x.2.1).Pairwise (·<·):=List.pairwise_map.mpr hr
 rw [← h] at k
 exact List.pairwise_map.mp k
theorem nsm_some {x:Nn} (h:nsm x=true):∃z,x.2.2=some z:=Option.isSome_iff_exists.mp h
noncomputable def dsz (m:Nat):List Int:=[(m:Int)+1,4,5,12,3,4,7,3,40,40,40,4,3]++(List.replicate m [3,9,25]).flatten
theorem reps_map (m:Nat) (xs:List Int):(List.replicate m (xs.map V.int)).flatten=((List.replicate m xs).flatten).map V.int:=by
 induction m with
 | zero=>rfl
 | succ m ih=>rw [List.replicate_succ,List.flatten_cons,ih,List.replicate_succ,List.flatten_cons,List.map_append]
theorem reps_get {xs:List Int} {n:Nat} (hn:xs.length=n):∀{m k j:Nat},k<m→j<n→(List.replicate m xs).flatten[n*k+j]?=xs[j]?
 | 0,_,_,hk,_=>absurd hk (Nat.not_lt_zero _)
 | m+1,0,j,_,hj=>by
   rw [List.replicate_succ,List.flatten_cons,Nat.mul_zero,Nat.zero_add,List.getElem?_append_left (by walk_at "o")]
 | m+1,k+1,j,hk,hj=>by
   have e:n*(k+1)+j=n+(n*k+j):=by rw [Nat.mul_add];walk_at "o"
   rw [List.replicate_succ,List.flatten_cons,e,List.getElem?_append_right (by walk_at "o"),hn,Nat.add_sub_cancel_left]
   exact reps_get hn (by walk_at "o") hj
theorem dsz_map (m:Nat):[V.int ((m:Int)+1),.int 4,.int 5,.int 12,.int 3,.int 4,.int 7,.int 3,.int 40,.int 40,.int 40,.int 4,.int 3]++(List.replicate m [V.int 3,.int 9,.int 25]).flatten=(dsz m).map V.int:=by
 unfold dsz
 rw [List.map_append,← reps_map]
 rfl
theorem dsz_len (m:Nat):(dsz m).length=13+3*m:=by
 unfold dsz
 rw [List.length_append,List.length_flatten,List.map_replicate,List.sum_replicate_nat]
 simp
 walk_at "o"
theorem dsz_pos {m:Nat} (hm:m≤40):∀z∈dsz m,0<z∧z<2 ^ 60:=by
 intro z hz
 unfold dsz at hz
 rcases List.mem_append.mp hz with h | h
 ·simp at h
  walk_at "o"
 ·obtain ⟨l,hl,hzl⟩:=List.mem_flatten.mp h
  rw [(List.mem_replicate.mp hl).2] at hzl
  simp at hzl
  walk_at "o"
theorem dsz_at {m k j:Nat} (hk:k<m) (hj:j<3):(dsz m)[3*k+(13+j)]?=[(3:Int),9,25][j]?:=by
 unfold dsz
 rw [List.getElem?_append_right (by simp;walk_at "o")]
 have e:3*k+(13+j)-[(m:Int)+1,4,5,12,3,4,7,3,40,40,40,4,3].length=3*k+j:=by simp;walk_at "o"
 rw [e]
 exact reps_get rfl hk hj
theorem dsz_shp {m:Nat} {xs:List Int} (hlen:xs.length=(dsz m).length) (hxs:∀(j:Nat) (x z:Int),xs[j]?=some x→(dsz m)[j]?=some z→0≤x∧x<z):∃c,c≤m∧Shp xs c:=by
 obtain ⟨x0,g0,a0,b0⟩:=row_get hlen hxs 0 (z:=(m:Int)+1) rfl
 refine ⟨x0.toNat,by walk_at "o",⟨by rw [g0];congr 1;walk_at "o",row_get hlen hxs 1 rfl,row_get hlen hxs 4 rfl,row_get hlen hxs 5 rfl,row_get hlen hxs 12 rfl,fun k hk=>?_⟩⟩
 have hk':k<m:=by walk_at "o"
 obtain ⟨x,gx,ax,bx⟩:=row_get hlen hxs _ (z:=3) ((dsz_at hk' (j:=0) (by decide)).trans rfl)
 obtain ⟨y,gy,ay,by'⟩:=row_get hlen hxs _ (z:=9) ((dsz_at hk' (j:=1) (by decide)).trans rfl)
 obtain ⟨z,gz,az,bz⟩:=row_get hlen hxs _ (z:=25) ((dsz_at hk' (j:=2) (by decide)).trans rfl)
 exact ⟨x,y,z,gx,gy,gz,ax,bx,ay,by',az,bz⟩
noncomputable def spPicked:Sp:=fun vs H Q _=>∃(l lw:Addr) (es:List Nn) (xs:List Int),vs=[.ref l,.ref lw]∧H l=some (.lst (nvals es))∧H lw=some (.lst (xs.map V.int))∧1≤es.length∧es.length≤40∧(∀k,k<3→∃x,xs[k+8]?=some x) ∧
 ∀(R:Addr) (a b c:Nn) (H':Hp),Same H H'→a∈es→b∈es→c∈es→H' R=some (.lst [.ref a.1,.ref b.1,.ref c.1])→Q (.ref R) H'
noncomputable def spDrawn4 (K:PySem.W.Frag):Sp:=fun vs H Q _=>∃(a:Addr) (ns:List Int) (i:Int) (most:Nat) (share:Int),vs=[.ref a,.int i,.int (most:Int),.int share]∧SqL K H a (ns.map V.int)∧0≤i∧i<800∧most≤40∧0≤share∧share≤2 ∧
 ∀(p R:Addr) (es:List Nn) (b c:Int) (H':Hp),Same H H'→H' p=some (.tup [.ref R,.int b,.int c])→H R=none→H' R=some (.lst (nvals es))→NRow H' es 45 150→es.length≤most→nrising es→1≤b→Sz 80 b→0≤c→Sz 150 c→Q (.ref p) H'
section
variable {P:Program} {w:World} {K:PySem.W.Frag} {mg:Str→Option Value} {base:Heap} {f:Addr} {fd:FuncData}
theorem sc_law_picked:FnScope ["_law_held","_law_some","_law_places","_law_k"] ["_law_held","_law_some"] (defScope s_law_picked):=⟨rfl,rfl,rfl,by decide +kernel,rfl,by decide +kernel,by decide +kernel⟩
theorem ok_law_picked (F:Fun K "_law_picked" "_law_picked" s_law_picked f fd) (T:Txt mg):FnOk P w K mg base CX0 1 f fd ["_law_held","_law_some"] spPicked:=by
 refine F.ok sc_law_picked (fun vs H Q E h=>?_) (fun cdv A outer s H vs Q E hr h=>?_)
 ·obtain ⟨l,lw,es,xs,rfl,_⟩:=h
  rfl
 obtain ⟨l,lw,es,xs,rfl,hl,hw,h1,h40,hx,k⟩:=h
 refine J.q ⟨_,(J.f (J.i (i:=2) sc_law_picked.nd rfl (Or.inl rfl) (J.s J.d) (hs:=sw_L))
  (J.f (J.t PassesOwn.never rfl (J.ap rfl T.range (J.b J.c (J.b J.c J.d st_C) st_C)) (J.n (i:=3) sc_law_picked.nd rfl (Or.inl rfl))
  (J.h (J.x (J.y K (J.a 2) (J.g op_mod (J.e (ixL K) (J.a 1) (J.a 3) (fun _ _=>rfl)) (J.p (lenC K) rfl T.len_ PySem.boot_len (J.b (J.a 0) J.d st_N) (he:=st_N) (hpl:=any0)))) (hs:=sw_K))))
  (J.f (J.i (i:=2) sc_law_picked.nd rfl (Or.inl rfl) (J.p (sortedC K) rfl T.sorted_ PyProof.Rows.boot_sorted (J.b (J.a 2) J.d st_N) (he:=st_N) (hpl:=any0)) (hs:=sw_K))
  (J.h (J.k (Jd.pe_comp (O:=["_law_at"]) (N':=["_law_held"]) (cap:=[0]) rfl (J.w K (J.a 2)) (fun _ _ _ _ _=>(J.n (i:=0) (show List.Nodup [("_law_at":Str),("_law_held":Str)] by decide +kernel) rfl (Or.inl rfl))) (fun _ _ _ _ _=>J.ag) (fun _ _ _ _ _=>(J.e (ixL K) (J.a 1) (J.a 0) (fun _ _=>rfl))) rfl ⟨⟨rfl,rfl,rfl,rfl⟩,trivial⟩ rfl (by decide +kernel) rfl (by decide +kernel))))))),?_⟩
 walk_at "v"
 refine r_new (mk:=.lst) (by simp) fun pl H1 s1 n1 e1=>?_
 walk_at "v"
 refine r_for (r_rng2 ?_)
 walk_at "v"
 refine ⟨8,11,rfl,by decide,for_range (n:=3) (fun j σ H3=>∃(ys:List Int) (v:Option V),σ=[some (.ref l),some (.ref lw),some (.ref pl),v]∧Same H H3∧H3 pl=some (.lst (ys.map V.int))∧ys.length=j∧∀y∈ys,0≤y∧y<(es.length:Int)) ?_ ?_ ?_⟩
 ·exact ⟨[],none,rfl,s1,e1,rfl,fun y hy=>absurd hy (by simp)⟩
 ·rintro j σ H3 hj ⟨ys,v,rfl,s3,e3,hy,hys⟩
  obtain ⟨x,gx⟩:=hx j hj
  walk_at "v"
  refine ⟨.inl ⟨rfl,_,SqL.of e3⟩,?_⟩
  walk_at "v"
  refine r_l (s3 _ _ hw) (at_ints gx (by walk_at "o")) ?_
  walk_at "v"
  refine r_len (.inl (SqL.of (s3 _ _ hl))) ?_
  rw [nvals_len]
  refine r_I (show (0:Int)<_ by walk_at "o") ?_
  walk_at "v"
  refine r_app e3 (by rw [List.length_map];exact small1000 (by walk_at "o")) ?_
  refine ⟨ys++[x % (es.length:Int)],_,rfl,same_at s3 n1,by rw [upd_same,List.map_append];rfl,by rw [List.length_append,hy];rfl,fun y hy=>?_⟩
  rcases List.mem_append.mp hy with z | z
  ·exact hys y z
  ·obtain rfl:y=x % (es.length:Int):=by simpa using z
   exact ⟨Int.emod_nonneg _ (by walk_at "o"),Int.emod_lt_of_pos _ (by walk_at "o")⟩
 ·rintro σ H3 ⟨ys,v,rfl,s3,e3,hy,hys⟩
  walk_at "v"
  refine r_sorted (SqL.of e3) (by walk_at "o") fun p ns' H4 s4 n4 e4 hp hs=>?_
  walk_at "v"
  refine r_iL ?_
  walk_at "v"
  refine ⟨p,rfl,⟨_,SqL.of e4⟩,?_⟩
  have hl':ns'.length=3:=by rw [hp.length_eq,hy]
  refine compB_of (xs:=ns'.map V.int) tells_list (fun H5 s5=>SqL.of (s5 _ _ e4)) (by rw [List.length_map];walk_at "o") (fun i ys G=>∃zs:List Nn,ys=nvals zs∧zs.length=i∧∀z∈zs,z∈es) ⟨[],rfl,rfl,fun x hx=>absurd hx (by simp)⟩ ?_ ?_
  ·rintro D i x ys' H5 σ0 N N0 h0 hD eD s5 hx hy' ⟨zs,rfl,hz,hm⟩ kY kN
   rw [List.getElem?_map] at hx
   obtain ⟨y,gy,rfl⟩:=Option.map_eq_some_iff.mp hx
   obtain ⟨y0,y1⟩:=hys y (hp.mem_iff.mp (List.mem_of_getElem? gy))
   obtain ⟨e,he,_,ea⟩:=at_nvals y0 y1
   refine r_own1 h0 ?_
   walk_at "v"
   refine iteT ?_
   walk_at "v"
   refine r_l ((s3.trans (s4.trans s5)) _ _ hl) ea ?_
   refine kY _ H5 (Same.refl _) ⟨zs++[e],nvals_snoc zs e,by rw [List.length_append,hz];rfl,fun z hz=>?_⟩
   rcases List.mem_append.mp hz with q | q
   ·exact hm z q
   ·obtain rfl:z=e:=by simpa using q
    exact he
  ·rintro D ys' H5 hD eD s5 hy' ⟨zs,rfl,hz,hm⟩
   rw [List.length_map,hl'] at hz
   match zs,hz with
   | [x,y,z],_=>exact k D x y z H5 (s3.trans (s4.trans s5)) (hm x (by simp)) (hm y (by simp)) (hm z (by simp)) eD
theorem sc_law_drawn:FnScope ["_law_script","_law_place","_law_most","_law_share","_law_sizes","_law_some","_law_bottom","_law_scale","_law_tilt","_law_far","_law_row_here","_law_held","_law_one","_law_mid","_law_last","_law_span","_law_stood","_law_by"] ["_law_script","_law_place","_law_most","_law_share"] (defScope s_law_drawn):=⟨rfl,rfl,rfl,by decide +kernel,rfl,by decide +kernel,by decide +kernel⟩
theorem ok_law_drawn (F:Fun K "_law_drawn" "_law_drawn" s_law_drawn f fd) (T:Txt mg) (D_law_row:Dn P w K mg base 3 "_law_row" ["_law_script","_law_place","_law_sizes"] (spRow K)) (D_law_shaped:Dn P w K mg base 1 "_law_shaped" ["_law_some","_law_scale","_law_tilt"] spShaped)
 (D_law_picked:Dn P w K mg base 1 "_law_picked" ["_law_held","_law_some"] spPicked) (D_law_times:Dn P w K mg base 1 "_law_times" ["_law_row_here","_law_by"] spTimes):FnOk P w K mg base CX0 4 f fd ["_law_script","_law_place","_law_most","_law_share"] (spDrawn4 K):=by
 refine F.ok sc_law_drawn (fun vs H Q E h=>?_) (fun cdv A outer s H vs Q E hr h=>?_)
 ·obtain ⟨a,ns,i,most,share,rfl,_⟩:=h
  rfl
 obtain ⟨a,ns,i,most,share,rfl,hS,h0,h1,hm,hs0,hs2,k⟩:=h
 refine J.q (Jd.cut 6 (fun σ H'=>∃(lw tl:Addr) (xs:List Int) (c:Nat) (b sc t0 t1 x6 x7:Int) (v4 v9:Option V),σ=[some (.ref a),some (.int i),some (.int most),some (.int share),v4,some (.ref lw),some (.int b),some (.int sc),some (.ref tl),v9,none,none,none,none,none,none,none,none] ∧
  Same H H'∧H' lw=some (.lst (xs.map V.int))∧c≤most∧Shp xs c∧xs[6]?=some x6∧0≤x6∧x6<7∧xs[7]?=some x7∧(∀k,k<3→∃x,xs[k+8]?=some x)∧1≤b∧Sz 30 b∧0≤sc∧Sz 45 sc∧H' tl=some (.tup [.int t0,.int t1])∧Sz 45 t0∧Sz 45 t1) ?_ fun u hu hR=>?_)
 ·refine ⟨_,(J.f (J.i (i:=10) sc_law_drawn.nd rfl (Or.inl rfl) (J.l D_law_shaped (hr.mono (by decide)) rfl (J.b (J.a 5) (J.b (J.a 7) (J.b (J.a 8) J.d st_N) st_N) st_N) (he:=st_N) (hpl:=(anyc st_N (anyc st_N any0)))) (hs:=sw_K))
   (J.f (J.an (O:=["_law_one"]) (N':=[]) (cap:=[]) (i:=11) sc_law_drawn.nd rfl (Or.inl rfl) rfl (J.w K (J.a 10)) (fun _ _ _ _ _=>(J.n (i:=0) (show List.Nodup [("_law_one":Str)] by decide +kernel) rfl (Or.inl rfl))) (fun _ _ _ _ _=>(Jd.pts_one (J.j op_notN (J.e (ixT K) (J.a 0) J.c (fun _ _=>rfl)) J.u (nomark _)))) (fun _ _ _ _ _=>(J.a 0)) rfl trivial rfl (by decide +kernel) rfl (by decide +kernel) (by rfl))
   (J.f (J.m (J.aa (J.am (J.j op_gt (J.a 3) J.c (nomark _)) (J.am (J.j op_eq (J.e (ixL K) (J.a 5) J.c (fun _ _=>rfl)) J.c (nomark _)) (J.ao (J.j op_gt (J.p (lenC K) rfl T.len_ PySem.boot_len (J.b (J.a 11) J.d st_N) (he:=st_N) (hpl:=any0)) J.c (nomark _))))))
   (J.f (J.ah (J.l D_law_picked (hr.mono (by decide)) rfl (J.b (J.a 11) (J.b (J.a 5) J.d st_N) st_N) (he:=st_N) (hpl:=(anyc st_N any0))) (Jd.pgL K (n:=3) rfl (J.v (J.n (i:=12) sc_law_drawn.nd rfl (Or.inl rfl)) (J.v (J.n (i:=13) sc_law_drawn.nd rfl (Or.inl rfl)) (J.v (J.n (i:=14) sc_law_drawn.nd rfl (Or.inl rfl)) J.ae)))))
   (J.h (J.m (Jd.pt_chain op_lt op_lt (J.e (ixT K) (J.a 12) J.c (fun _ _=>rfl)) (J.e (ixT K) (J.a 13) J.c (fun _ _=>rfl)) (J.e (ixT K) (J.a 14) J.c (fun _ _=>rfl)))
   (J.f (J.i (i:=15) sc_law_drawn.nd rfl (Or.inl rfl) (J.g op_sub (J.e (ixT K) (J.a 14) J.c (fun _ _=>rfl)) (J.e (ixT K) (J.a 12) J.c (fun _ _=>rfl))) (hs:=sw_B))
   (J.f (J.i (i:=16) sc_law_drawn.nd rfl (Or.inl rfl) (J.g op_sub (J.g op_mulB (J.e (ixT K) (J.a 13) J.c (fun _ _=>rfl)) (J.a 15)) (J.g op_mulB (J.e (ixT K) (J.a 12) J.c (fun _ _=>rfl)) (J.g op_sub (J.e (ixT K) (J.a 14) J.c (fun _ _=>rfl)) (J.e (ixT K) (J.a 13) J.c (fun _ _=>rfl))))) (hs:=sw_B))
   (J.f (J.i (i:=16) sc_law_drawn.nd rfl (Or.inl rfl) (J.p absC rfl T.abs_ PyProof.Rows.boot_abs (J.b (J.g op_sub (J.a 16) (J.g op_mulB (J.e (ixT K) (J.a 14) J.c (fun _ _=>rfl)) (J.g op_sub (J.e (ixT K) (J.a 13) J.c (fun _ _=>rfl)) (J.e (ixT K) (J.a 12) J.c (fun _ _=>rfl))))) J.d st_B) (he:=st_B) (hpl:=any0)) (hs:=sw_K))
   (J.f (J.i (i:=17) sc_law_drawn.nd rfl (Or.inl rfl) (J.g op_mulB (J.a 3) (J.a 15)) (hs:=sw_B))
   (J.h (J.k (J.r (J.b (J.l D_law_times (hr.mono (by decide)) rfl (J.b (J.a 10) (J.b (J.a 17) J.d st_N) st_N) (he:=st_N) (hpl:=(anyc st_N any0))) (J.b (J.g op_mulB (J.a 6) (J.a 17)) (J.b (J.a 16) J.d st_N) st_B) st_K))))))))
   J.o)))
   J.o)
   (J.h (J.k (J.r (J.b (J.a 10) (J.b (J.a 6) (J.b (J.g op_mulB (J.e (ixL K) (J.a 5) J.c (fun _ _=>rfl)) (J.a 7)) J.d st_B) st_N) st_N))))))),?_⟩
  rintro σ H1 ⟨lw,tl,xs,c,b,sc,t0,t1,x6,x7,v4,v9,rfl,s1,ew,hc,S,g6,a6,b6,g7,g8,b1,zb,sc0,zsc,et,zt0,zt1⟩
  walk_at "v"
  refine ⟨lw,tl,xs,c,sc,t0,t1,rfl,ew,S,by walk_at "o",et,zsc,zt0,zt1,fun R es H2 s2 nR eR hes hlen hri=>?_⟩
  have ew2:=s2 _ _ ew
  walk_at "v"
  refine r_iL ?_
  walk_at "v"
  refine ⟨R,rfl,⟨_,SqL.of eR⟩,?_⟩
  refine compB_of (xs:=nvals es) tells_list (fun H3 s3=>SqL.of (s3 _ _ eR)) (by rw [nvals_len];walk_at "o") (fun i ys G=>ys=nvals ((es.take i).filter nsm)) rfl ?_ ?_
  ·rintro D i x ys H3 σ0 N N0 h0 hD eD s3 hx hy rfl kY kN
   obtain ⟨e,he,rfl⟩:=nvals_at hx
   obtain ⟨ee,_⟩:=(hes e (List.mem_of_getElem? he)).up s3
   have ts:=PySem.take_succ_filter nsm es i e he
   obtain ⟨ae,me,ve⟩:=e
   refine r_own1 h0 ?_
   cases ve with
   | none=>
     walk_at "v"
     refine ⟨rfl,?_⟩
     walk_at "v"
     refine iteF ?_
     rw [show nsm (ae,me,none)=false from rfl,if_neg Bool.false_ne_true,List.append_nil] at ts
     exact kN H3 (Same.refl _) (by rw [ts])
   | some z=>
     walk_at "v"
     refine ⟨rfl,?_⟩
     walk_at "v"
     refine iteT ?_
     walk_at "v"
     rw [show nsm (ae,me,some z)=true from rfl,if_pos rfl] at ts
     exact kY _ H3 (Same.refl _) (by rw [ts,← nvals_snoc])
  ·rintro D ys H3 hD eD s3 hy rfl
   rw [nvals_len,List.take_length] at eD
   have s13:=s1.trans (s2.trans s3)
   have eR3:=s3 _ _ eR
   have ew3:=s3 _ _ ew2
   have plain:∀(p:Addr) (H4:Hp),Same H3 H4→H4 p=some (.tup [.ref R,.int b,.int (x6*sc)])→Q (.ref p) H4:=fun p H4 s4 e4=>
    k p R es b (x6*sc) H4 (s13.trans s4) e4 (s1.free nR) (s4 _ _ eR3) (fun x hx=>let ⟨q1,q2,q3⟩:=(hes x hx).up (s3.trans s4);⟨q1,q2,fun z hz=>(q3 z hz).mono (by decide)⟩) (by walk_at "o") hri b1 (zb.mono (by decide)) (Int.mul_nonneg a6 sc0) (((show Sz 3 x6 from by show x6.natAbs<2 ^ 3;walk_at "o").mul zsc).mono (by decide))
   walk_at "v"
   refine ite2 (fun c1=>?_) (fun c1=>?_)
   ·have c1':0<share:=of_decide_eq_true c1
    walk_at "v"
    refine r_l ew3 (at_ints g7 rfl) ?_
    walk_at "v"
    refine ite2 (fun c2=>?_) (fun c2=>?_)
    ·walk_at "v"
     refine r_len (.inl (SqL.of eD)) ?_
     walk_at "v"
     rw [nvals_len]
     refine ite2 (fun c3=>?_) (fun c3=>?_)
     ·have c3':=of_decide_eq_true c3
      have hfl:(es.filter nsm).length≤es.length:=List.length_filter_le ..
      walk_at "v"
      refine r_asg ?_
      walk_at "v"
      refine ⟨D,lw,es.filter nsm,xs,rfl,eD,ew3,by walk_at "o",by walk_at "o",g8,fun R3 x y z H4 s4 hx hy hz e4=>?_⟩
      refine r_unlist3 e4 ?_
      obtain ⟨hx1,hx2⟩:=List.mem_filter.mp hx
      obtain ⟨hy1,hy2⟩:=List.mem_filter.mp hy
      obtain ⟨hz1,hz2⟩:=List.mem_filter.mp hz
      obtain ⟨fx1,fx2,fx3⟩:=(hes x hx1).up (s3.trans s4)
      obtain ⟨fy1,fy2,fy3⟩:=(hes y hy1).up (s3.trans s4)
      obtain ⟨fz1,fz2,fz3⟩:=(hes z hz1).up (s3.trans s4)
      obtain ⟨nx,ex⟩:=nsm_some hx2
      obtain ⟨ny,ey⟩:=nsm_some hy2
      obtain ⟨nz,ez⟩:=nsm_some hz2
      have zx:=fx3 nx ex
      have zy:=fy3 ny ey
      have zz:=fz3 nz ez
      rw [ex] at fx1
      rw [ey] at fy1
      rw [ez] at fz1
      simp only [nnv] at fx1 fy1 fz1
      walk_at "v"
      have ew4:=s4 _ _ ew3
      refine ite2 (fun c4=>?_) (fun c4=>?_)
      ·have c4':=of_decide_eq_true c4
       walk_at "v"
       refine ite2 (fun c5=>?_) (fun c5=>?_)
       ·have c5':=of_decide_eq_true c5
        have zs1:Sz 46 (z.2.1-x.2.1):=fz2.sub fx2
        have zs2:Sz 46 (z.2.1-y.2.1):=fz2.sub fy2
        have zs3:Sz 46 (y.2.1-x.2.1):=fy2.sub fx2
        have zsh:Sz 2 share:=show share.natAbs<2 ^ 2 by walk_at "o"
        have m1:Sz 146 (ny*(z.2.1-x.2.1)):=zy.mul zs1
        have m2:Sz 146 (nx*(z.2.1-y.2.1)):=zx.mul zs2
        have m3:Sz 146 (nz*(y.2.1-x.2.1)):=zz.mul zs3
        walk_at "v"
        refine r_I (mulOk zy zs1) ?_
        walk_at "v"
        refine r_I (mulOk zx zs2) ?_
        walk_at "v"
        refine r_I (mulOk zz zs3) ?_
        walk_at "v"
        refine r_I (mulOk zsh zs1) ?_
        walk_at "v"
        have zby:Sz 48 (share*(z.2.1-x.2.1)):=zsh.mul zs1
        refine ⟨R,es,share*(z.2.1-x.2.1),100,48,rfl,s4 _ _ eR3,fun u hu=>(hes u hu).up (s3.trans s4),by walk_at "o",zby,by decide,fun R5 es5 H5 s5 n5 e5 hes5 hmap=>?_⟩
        walk_at "v"
        refine r_I (mulOk zb zby) ?_
        walk_at "v"
        rw [abs_cast]
        refine r_new (mk:=.tup) (by simp) fun p6 H6 s6 n6 e6=>?_
        have hle:es5.length=es.length:=by
         have:=congrArg List.length hmap
         simpa using this
        have p1:1≤share*(z.2.1-x.2.1):=mul_pos1 (by walk_at "o") (by walk_at "o")
        have zst:Sz 148 (ny*(z.2.1-x.2.1)-nx*(z.2.1-y.2.1)-nz*(y.2.1-x.2.1)):=(m1.sub m2).sub (m3.mono (by decide))
        refine k p6 R5 es5 _ _ H6 ((s13.trans s4).trans (s5.trans s6)) e6 ((s13.trans s4).free n5) (s6 _ _ e5) (fun x hx=>let ⟨q1,q2,q3⟩:=(hes5 x hx).up s6;⟨q1,q2,fun z hz=>(q3 z hz).mono (by decide)⟩) (by walk_at "o") ?_ (mul_pos1 b1 p1) ((zb.mul zby).mono (by decide)) (by walk_at "o") ((zst.of_le (by simp)).mono (by decide))
        refine nrising_of ?_ hri
        have e:=congrArg (List.map Prod.fst) hmap
        rw [List.map_map,List.map_map] at e
        exact e
       ·walk_at "v"
        refine r_l ew4 (at_ints g6 rfl) ?_
        walk_at "v"
        refine r_I (mulOk (show Sz 3 x6 from by show x6.natAbs<2 ^ 3;walk_at "o") zsc) ?_
        walk_at "v"
        refine r_new (mk:=.tup) (by simp) fun p6 H6 s6 n6 e6=>?_
        exact plain p6 H6 (s4.trans s6) e6
      ·walk_at "v"
       refine iteF ?_
       walk_at "v"
       refine r_l ew4 (at_ints g6 rfl) ?_
       walk_at "v"
       refine r_I (mulOk (show Sz 3 x6 from by show x6.natAbs<2 ^ 3;walk_at "o") zsc) ?_
       walk_at "v"
       refine r_new (mk:=.tup) (by simp) fun p6 H6 s6 n6 e6=>?_
       exact plain p6 H6 (s4.trans s6) e6
     ·walk_at "v"
      refine r_l ew3 (at_ints g6 rfl) ?_
      walk_at "v"
      refine r_I (mulOk (show Sz 3 x6 from by show x6.natAbs<2 ^ 3;walk_at "o") zsc) ?_
      walk_at "v"
      refine r_new (mk:=.tup) (by simp) fun p6 H6 s6 n6 e6=>?_
      exact plain p6 H6 s6 e6
    ·refine iteF ?_
     walk_at "v"
     refine r_l ew3 (at_ints g6 rfl) ?_
     walk_at "v"
     refine r_I (mulOk (show Sz 3 x6 from by show x6.natAbs<2 ^ 3;walk_at "o") zsc) ?_
     walk_at "v"
     refine r_new (mk:=.tup) (by simp) fun p6 H6 s6 n6 e6=>?_
     exact plain p6 H6 s6 e6
   ·refine iteF ?_
    walk_at "v"
    refine r_l ew3 (at_ints g6 rfl) ?_
    walk_at "v"
    refine r_I (mulOk (show Sz 3 x6 from by show x6.natAbs<2 ^ 3;walk_at "o") zsc) ?_
    walk_at "v"
    refine r_new (mk:=.tup) (by simp) fun p6 H6 s6 n6 e6=>?_
    exact plain p6 H6 s6 e6
 refine ⟨_,(J.f (J.i (i:=4) sc_law_drawn.nd rfl (Or.inl rfl) (J.s (J.b (J.g op_add (J.a 2) J.c) (J.b J.c (J.b J.c (J.b J.c (J.b J.c (J.b J.c (J.b J.c (J.b J.c (J.b J.c (J.b J.c (J.b J.c (J.b J.c (J.b J.c J.d st_C) st_C) st_C) st_C) st_C) st_C) st_C) st_C) st_C) st_C) st_C) st_C) st_B)) (hs:=sw_L))
  (J.f (J.i (i:=5) sc_law_drawn.nd rfl (Or.inl rfl) (J.l D_law_row (hr.mono (by decide)) rfl (J.b (J.a 0) (J.b (J.a 1) (J.b (J.g op_cat (J.a 4) (J.g op_rep (J.s (J.b J.c (J.b J.c (J.b J.c J.d st_C) st_C) st_C)) (J.a 2))) J.d st_B) st_N) st_N) (he:=st_N) (hpl:=(anyc st_N (anyc st_B any0)))) (hs:=sw_K))
  (J.f (J.i (i:=6) sc_law_drawn.nd rfl (Or.inl rfl) (J.e (ixL K) (J.s (J.b J.c (J.b J.c (J.b J.c (J.b J.c (J.b J.c (J.b J.c (J.b J.c (J.b J.c (J.b J.c (J.b J.c (J.b J.c (J.b (J.g op_add (J.g op_pow J.c J.c) J.c) J.d st_B) st_C) st_C) st_C) st_C) st_C) st_C) st_C) st_C) st_C) st_C) st_C)) (J.e (ixL K) (J.a 5) J.c (fun _ _=>rfl)) (fun _ _=>rfl)) (hs:=sw_S))
  (J.f (J.i (i:=7) sc_law_drawn.nd rfl (Or.inl rfl) (J.e (ixL K) (J.s (J.b J.c (J.b J.c (J.b J.c (J.b (J.g op_pow J.c J.c) (J.b (J.g op_add (J.g op_pow J.c J.c) J.c) J.d st_B) st_B) st_C) st_C) st_C)) (J.e (ixL K) (J.a 5) J.c (fun _ _=>rfl)) (fun _ _=>rfl)) (hs:=sw_S))
  (J.f (J.i (i:=8) sc_law_drawn.nd rfl (Or.inl rfl) (J.r (J.b J.c (J.b J.c J.d st_C) st_C)) (hs:=sw_T))
  (J.f (J.m (J.j op_gt (J.a 3) J.c (nomark _))
  (J.f (J.i (i:=9) sc_law_drawn.nd rfl (Or.inl rfl) (J.g op_sub (J.z un_neg (J.g op_pow J.c J.c)) J.c) (hs:=sw_B))
  (J.h (J.i (i:=8) sc_law_drawn.nd rfl (Or.inl rfl) (J.e (ixL K) (J.s (J.b (J.r (J.b J.c (J.b J.c J.d st_C) st_C)) (J.b (J.r (J.b J.c (J.b J.c J.d st_C) st_C)) (J.b (J.r (J.b J.c (J.b (J.z un_neg J.c) J.d st_U) st_C)) (J.b (J.r (J.b (J.a 9) (J.b (J.g op_pow J.c J.c) J.d st_B) st_N)) J.d st_T) st_T) st_T) st_T)) (J.e (ixL K) (J.a 5) J.c (fun _ _=>rfl)) (fun _ _=>rfl)) (hs:=sw_S))))
  J.o)
  hu)))))),?_⟩
 walk_at "v"
 refine r_new (mk:=.lst) (by simp) fun l1 H1 s1 n1 e1=>?_
 walk_at "v"
 refine r_new (mk:=.lst) (by simp) fun l2 H2 s2 n2 e2=>?_
 walk_at "v"
 refine r_rep e2 (by omega) (by omega) ?_
 refine r_new (mk:=.lst) (by rw [len_rep];simp;walk_at "o") fun l3 H3 s3 n3 e3=>?_
 walk_at "v"
 refine r_cat (s3 _ _ (s2 _ _ e1)) e3 ?_
 refine r_new (mk:=.lst) (by rw [List.length_append,len_rep];simp;walk_at "o") fun l4 H4 s4 n4 e4=>?_
 have s04:=s1.trans (s2.trans (s3.trans s4))
 walk_at "v"
 refine ⟨a,ns,i,l4,dsz most,rfl,s04.seq hS,h0,by walk_at "o",by rw [e4];exact congrArg (fun z=>some (HO.lst z)) (dsz_map most),by rw [dsz_len];walk_at "o",dsz_pos hm,fun lw xs H5 s5 n5 e5 hlen hxs=>?_⟩
 obtain ⟨c,hc,S⟩:=dsz_shp hlen hxs
 obtain ⟨x2,g2,a2,b2⟩:=row_get hlen hxs 2 (z:=5) rfl
 obtain ⟨x3,g3,a3,b3⟩:=row_get hlen hxs 3 (z:=12) rfl
 obtain ⟨x6,g6,a6,b6⟩:=row_get hlen hxs 6 (z:=7) rfl
 obtain ⟨x7,g7,a7,b7⟩:=row_get hlen hxs 7 (z:=3) rfl
 obtain ⟨x8,g8,_⟩:=row_get hlen hxs 8 (z:=40) rfl
 obtain ⟨x9,g9,_⟩:=row_get hlen hxs 9 (z:=40) rfl
 obtain ⟨x10,g10,_⟩:=row_get hlen hxs 10 (z:=40) rfl
 obtain ⟨x11,g11,a11,b11⟩:=row_get hlen hxs 11 (z:=4) rfl
 have g8':∀k,k<3→∃x,xs[k+8]?=some x:=fun k hk=>by
  rcases (show k=0∨k=1∨k=2 by walk_at "o") with rfl | rfl | rfl
  ·exact ⟨_,g8⟩
  ·exact ⟨_,g9⟩
  ·exact ⟨_,g10⟩
 walk_at "v"
 refine r_new (mk:=.lst) (by simp) fun l6 H6 s6 n6 e6=>?_
 walk_at "v"
 refine r_l (s6 _ _ e5) (at_ints g3 rfl) ?_
 obtain ⟨b,eb,hb1,hb2⟩:=pickP (zs:=[1,2,3,4,5,6,12,30,60,1001,9699690,10 ^ (9:Int).toNat+7]) (fun z=>1≤z∧Sz 30 z) (by decide +kernel) a3 b3
 refine r_l e6 eb ?_
 walk_at "v"
 refine r_new (mk:=.lst) (by simp) fun l7 H7 s7 n7 e7=>?_
 walk_at "v"
 refine r_l (s7 _ _ (s6 _ _ e5)) (at_ints g2 rfl) ?_
 obtain ⟨sc,esc,hsc0,hsc⟩:=pickP (zs:=[1,1,7,10 ^ (6:Int).toNat,10 ^ (12:Int).toNat+39]) (fun z=>0≤z∧Sz 45 z) (by decide +kernel) a2 b2
 refine r_l e7 esc ?_
 walk_at "v"
 refine r_new (mk:=.tup) (by simp) fun t0 H8 s8 n8 e8=>?_
 have s58:=s6.trans (s7.trans s8)
 have s08:=(s04.trans s5).trans s58
 have e58:=s58 _ _ e5
 walk_at "v"
 refine ite2 (fun c1=>?_) (fun c1=>?_)
 ·walk_at "v"
  refine r_new (mk:=.tup) (by simp) fun p1 H9 s9 n9 e9=>?_
  walk_at "v"
  refine r_new (mk:=.tup) (by simp) fun p2 H10 s10 n10 e10=>?_
  walk_at "v"
  refine r_new (mk:=.tup) (by simp) fun p3 H11 s11 n11 e11=>?_
  walk_at "v"
  refine r_new (mk:=.tup) (by simp) fun p4 H12 s12 n12 e12=>?_
  walk_at "v"
  refine r_new (mk:=.lst) (by simp) fun l8 H13 s13 n13 e13=>?_
  have s813:=s9.trans (s10.trans (s11.trans (s12.trans s13)))
  walk_at "v"
  refine r_l (s813 _ _ e58) (at_ints g11 rfl) ?_
  have s1213:=s12.trans s13
  rcases (show x11=0∨x11=1∨x11=2∨x11=3 by walk_at "o") with rfl | rfl | rfl | rfl
  ·refine r_l e13 at0 ?_
   exact hR _ _ ⟨lw,p1,xs,c,b,sc,0,0,x6,x7,_,_,rfl,s08.trans s813,s813 _ _ e58,hc,S,g6,a6,b6,g7,g8',hb1,hb2,hsc0,hsc,(s10.trans (s11.trans s1213)) _ _ e9,by decide,by decide⟩
  ·refine r_l e13 at1 ?_
   exact hR _ _ ⟨lw,p2,xs,c,b,sc,0,0,x6,x7,_,_,rfl,s08.trans s813,s813 _ _ e58,hc,S,g6,a6,b6,g7,g8',hb1,hb2,hsc0,hsc,(s11.trans s1213) _ _ e10,by decide,by decide⟩
  ·refine r_l e13 at2 ?_
   exact hR _ _ ⟨lw,p3,xs,c,b,sc,7,-3,x6,x7,_,_,rfl,s08.trans s813,s813 _ _ e58,hc,S,g6,a6,b6,g7,g8',hb1,hb2,hsc0,hsc,s1213 _ _ e11,by decide,by decide⟩
  ·refine r_l e13 at3 ?_
   exact hR _ _ ⟨lw,p4,xs,c,b,sc,_,_,x6,x7,_,_,rfl,s08.trans s813,s813 _ _ e58,hc,S,g6,a6,b6,g7,g8',hb1,hb2,hsc0,hsc,s13 _ _ e12,by decide +kernel,by decide +kernel⟩
 ·walk_at "v"
  exact hR _ _ ⟨lw,t0,xs,c,b,sc,0,0,x6,x7,_,_,rfl,s08,e58,hc,S,g6,a6,b6,g7,g8',hb1,hb2,hsc0,hsc,e8,by decide,by decide⟩
end

noncomputable def mo (es:List En) (k:Nat):Int:=((es[k]?).map (·.2.1)).getD 0
noncomputable def wo (es:List En) (k:Nat):Rat:=((es[k]?).bind (·.2.2)).getD 0
noncomputable def sd (es:List En) (i k j:Nat):Rat:=wo es k-chord (mo es i) (wo es i) (mo es k) (mo es j) (wo es j)
noncomputable def AllS (es:List En):Prop:=∀x∈es,smp x=true
theorem sa_at {H:Hp} {es:List En} {n k:Nat} (hR:Row H es n) (hS:AllS es) (hk:k<es.length):∃x,es[k]?=some x∧SaAt H x.1 (mo es k) (wo es k) n:=by
 have g:es[k]?=some es[k]:=List.getElem?_eq_getElem hk
 have hm:es[k]∈es:=List.getElem_mem hk
 refine ⟨es[k],g,?_⟩
 have h1:=hR _ hm
 have h2:(es[k]).2.2.isSome=true:=hS _ hm
 unfold mo wo
 rw [g]
 generalize es[k]=x at *
 obtain ⟨a,m,v⟩:=x
 cases v with
 | none=>cases h2
 | some q=>
   obtain ⟨z,p,e,f⟩:=h1
   exact ⟨p,e,f,z⟩
theorem mo_lt {es:List En} {i j:Nat} (h:rising es) (hij:i<j) (hj:j<es.length):mo es i<mo es j:=by
 have hi:i<es.length:=by walk_at "o"
 unfold mo
 rw [List.getElem?_eq_getElem hi,List.getElem?_eq_getElem hj]
 exact List.pairwise_iff_getElem.mp h i j hi hj hij
theorem at_val {es:List En} {i:Nat} {j:Int} {x:En} (h:es[i]?=some x) (hj:j=(i:Int)):atI (vals es) j=some (.ref x.1):=by
 subst hj
 exact atI_nat (vals_get h)
noncomputable def spLminusE:Sp:=fun vs H Q _=>∃(p r:Addr) (a b c d:Int) (n:Nat),vs=[.ref p,.ref r]∧H p=some (.tup [.int a,.int b])∧H r=some (.tup [.int c,.int d])∧Sz n a∧Sz n b∧Sz n c∧Sz n d∧n≤10000 ∧
 ∀(s:Addr) (H':Hp),Same H H'→H' s=some (.tup [.int (a*d-c*b),.int (b*d)])→Q (.ref s) H'
noncomputable def spLslopeE:Sp:=fun vs H Q _=>∃(p r v v':Addr) (t t' a b a' b':Int) (n:Nat),vs=[.ref p,.ref r]∧H p=some (.tup [.int t,.ref v])∧H v=some (.tup [.int a,.int b])∧H r=some (.tup [.int t',.ref v'])∧H v'=some (.tup [.int a',.int b'])∧t<t' ∧
 Sz n t∧Sz n a∧Sz n b∧Sz n t'∧Sz n a'∧Sz n b'∧n≤10000∧∀(s:Addr) (H':Hp),Same H H'→H' s=some (.tup [.int (a'*b-a*b'),.int (b'*b*(t'-t))])→Q (.ref s) H'
noncomputable def spLfar:Sp:=fun vs H Q _=>∃(l:Addr) (es:List En) (i j n:Nat),vs=[.ref l,.int (i:Int),.int (j:Int)]∧H l=some (.lst (vals es))∧Row H es n∧AllS es∧rising es∧i<j∧j<es.length∧es.length≤1000∧n≤900∧(j=i+1→∀H',Same H H'→Q .non H') ∧
 (i+1<j→∀(z p:Addr) (k:Nat) (H':Hp),Same H H'→H' z=some (.tup [.int (k:Int),.ref p])→QtAt H' p (rabs (sd es i k j)) (8*n+5)→FarTo (fun k=>rabs (sd es i k j)) i j k→Q (.ref z) H')
section
variable {P:Program} {w:World} {K:PySem.W.Frag} {mg:Str→Option Value} {base:Heap} {f:Addr} {fd:FuncData}
theorem ok_loose_minusE (F:Fun K "loose_minus" "loose_minus" s_loose_minus f fd):FnOk P w K mg base CX0 1 f fd ["one","other"] spLminusE:=by
 refine F.ok sc_loose_minus (fun vs H Q E h=>?_) (fun cdv A outer s H vs Q E hr h=>?_)
 ·obtain ⟨p,r,a,b,c,d,n,rfl,_⟩:=h
  rfl
 obtain ⟨p,r,a,b,c,d,n,rfl,hp,hr',za,zb,zc,zd,hn,k⟩:=h
 refine J.q ⟨_,(J.h (J.k (J.r (J.b (J.g op_sub (J.g op_mulB (J.e (ixT K) (J.a 0) J.c (fun _ _=>rfl)) (J.e (ixT K) (J.a 1) J.c (fun _ _=>rfl))) (J.g op_mulB (J.e (ixT K) (J.a 1) J.c (fun _ _=>rfl)) (J.e (ixT K) (J.a 0) J.c (fun _ _=>rfl)))) (J.b (J.g op_mulB (J.e (ixT K) (J.a 0) J.c (fun _ _=>rfl)) (J.e (ixT K) (J.a 1) J.c (fun _ _=>rfl))) J.d st_B) st_B)))),?_⟩
 walk_at "v"
 refine r_I (mulOk za zd (by walk_at "o")) ?_
 walk_at "v"
 refine r_I (mulOk zc zb (by walk_at "o")) ?_
 walk_at "v"
 refine r_I (mulOk zb zd (by walk_at "o")) ?_
 walk_at "v"
 refine r_new (mk:=.tup) (by simp) fun x H1 s1 n1 e1=>?_
 exact k x H1 s1 e1
theorem ok_loose_slopeE (F:Fun K "loose_slope" "loose_slope" s_loose_slope f fd) (D_loose_minusE:Dn P w K mg base 1 "loose_minus" ["one","other"] spLminusE):FnOk P w K mg base CX0 3 f fd ["one","other"] spLslopeE:=by
 refine F.ok sc_loose_slope (fun vs H Q E h=>?_) (fun cdv A outer s H vs Q E hr h=>?_)
 ·obtain ⟨p,r,v,v',t,t',a,b,a',b',n,rfl,_⟩:=h
  rfl
 obtain ⟨p,r,v,v',t,t',a,b,a',b',n,rfl,hp,hv,hr',hv',ht,zt,za,zb,zt',za',zb',hn,k⟩:=h
 refine J.q ⟨_,(J.f (J.i (i:=2) sc_loose_slope.nd rfl (Or.inl rfl) (J.l D_loose_minusE (hr.mono (by decide)) rfl (J.b (J.e (ixT K) (J.a 1) J.c (fun _ _=>rfl)) (J.b (J.e (ixT K) (J.a 0) J.c (fun _ _=>rfl)) J.d st_S) st_S) (he:=st_S) (hpl:=(anyc st_S any0))) (hs:=sw_K))
  (J.f (J.i (i:=3) sc_loose_slope.nd rfl (Or.inl rfl) (J.g op_sub (J.e (ixT K) (J.a 1) J.c (fun _ _=>rfl)) (J.e (ixT K) (J.a 0) J.c (fun _ _=>rfl))) (hs:=sw_B))
  (J.f (J.m (J.j op_lt (J.a 3) J.c (nomark _))
  (J.h (J.k (J.r (J.b (J.z un_neg (J.e (ixT K) (J.a 2) J.c (fun _ _=>rfl))) (J.b (J.g op_mulB (J.e (ixT K) (J.a 2) J.c (fun _ _=>rfl)) (J.z un_neg (J.a 3))) J.d st_B) st_U))))
  J.o)
  (J.h (J.k (J.r (J.b (J.e (ixT K) (J.a 2) J.c (fun _ _=>rfl)) (J.b (J.g op_mulB (J.e (ixT K) (J.a 2) J.c (fun _ _=>rfl)) (J.a 3)) J.d st_B) st_S))))))),?_⟩
 walk_at "v"
 refine ⟨v',v,a',b',a,b,n,rfl,hv',hv,za',zb',za,zb,hn,fun x H1 s1 e1=>?_⟩
 have hp1:=s1 _ _ hp
 have hr1:=s1 _ _ hr'
 have zs:Sz (n+1) (t'-t):=zt'.sub zt
 walk_at "v"
 refine ite2 (fun c=>?_) (fun c=>?_)
 ·have c':t'-t<0:=of_decide_eq_true c
  walk_at "o"
 ·walk_at "v"
  refine r_I (mulOk (zb'.mul zb) zs (by walk_at "o")) ?_
  walk_at "v"
  refine r_new (mk:=.tup) (by simp) fun y H2 s2 n2 e2=>?_
  exact k y H2 (s1.trans s2) e2
theorem sc_loose_farthest:FnScope ["samples","first","last","start","steep","base","found","miss","place","moment","value","along","stood"] ["samples","first","last"] (defScope s_loose_farthest):=⟨rfl,rfl,rfl,by decide +kernel,rfl,by decide +kernel,by decide +kernel⟩
theorem ok_loose_farthest (F:Fun K "loose_farthest" "loose_farthest" s_loose_farthest f fd) (T:Txt mg) (D_order:Dn P w K mg base 1 "order" ["one","other"] spOrderQ) (D_loose_slopeE:Dn P w K mg base 3 "loose_slope" ["one","other"] spLslopeE) :
 FnOk P w K mg base CX0 4 f fd ["samples","first","last"] spLfar:=by
 refine F.ok sc_loose_farthest (fun vs H Q E h=>?_) (fun cdv A outer s H vs Q E hr h=>?_)
 ·obtain ⟨l,es,i,j,n,rfl,_⟩:=h
  rfl
 obtain ⟨l,es,i,j,n,rfl,hl,hR,hS,hri,hij,hj,h40,hn,k0,k1⟩:=h
 obtain ⟨xi,gi,vi,ei,⟨a,b,eb,fb,za,zb⟩,zti⟩:=sa_at hR hS (show i<es.length by walk_at "o")
 obtain ⟨xj,gj,vj,ej,⟨a',b',eb',fb',za',zb'⟩,ztj⟩:=sa_at hR hS hj
 have ht:=mo_lt hri hij hj
 have hb1:=fb.pos
 have hb2:=fb'.pos
 have zd:Sz (n+1) (mo es j-mo es i):=ztj.sub zti
 have zS:Sz (3*n+1) (b'*b*(mo es j-mo es i)):=((zb'.mul zb).mul zd).mono (by walk_at "o")
 have zS2:Sz (2*n+1) (b'*(mo es j-mo es i)):=(zb'.mul zd).mono (by walk_at "o")
 have zT:Sz (2*n+1) (a'*b-a*b'):=((za'.mul zb).sub (za.mul zb')).mono (by walk_at "o")
 have hdv:(b'*b*(mo es j-mo es i)).fdiv b=b'*(mo es j-mo es i):=by
  rw [Int.fdiv_eq_ediv_of_nonneg _ (by walk_at "o"),Int.mul_right_comm]
  exact Int.mul_ediv_cancel _ (by walk_at "o")
 have Spos:0<b'*b*(mo es j-mo es i):=Int.mul_pos (Int.mul_pos (by walk_at "o") (by walk_at "o")) (by walk_at "o")
 refine J.q ⟨_,(J.f (J.i (i:=3) sc_loose_farthest.nd rfl (Or.inl rfl) (J.e (ixL K) (J.a 0) (J.a 1) (fun _ _=>rfl)) (hs:=sw_S))
  (J.f (J.i (i:=4) sc_loose_farthest.nd rfl (Or.inl rfl) (J.l D_loose_slopeE (hr.mono (by decide)) rfl (J.b (J.a 3) (J.b (J.e (ixL K) (J.a 0) (J.a 2) (fun _ _=>rfl)) J.d st_S) st_N) (he:=st_N) (hpl:=(anyc st_S any0))) (hs:=sw_K))
  (J.f (J.i (i:=5) sc_loose_farthest.nd rfl (Or.inl rfl) (J.g op_mulB (J.e (ixT K) (J.e (ixT K) (J.a 3) J.c (fun _ _=>rfl)) J.c (fun _ _=>rfl)) (J.g op_fdivB (J.e (ixT K) (J.a 4) J.c (fun _ _=>rfl)) (J.e (ixT K) (J.e (ixT K) (J.a 3) J.c (fun _ _=>rfl)) J.c (fun _ _=>rfl)))) (hs:=sw_B))
  (J.f (J.i (i:=6) sc_loose_farthest.nd rfl (Or.inl rfl) J.u (hs:=sw_C))
  (J.f (J.i (i:=7) sc_loose_farthest.nd rfl (Or.inl rfl) (J.r (J.b J.c (J.b J.c J.d st_C) st_C)) (hs:=sw_T))
  (J.f (J.t PassesOwn.never rfl (J.ap rfl T.range (J.b (J.g op_add (J.a 1) J.c) (J.b (J.a 2) J.d st_N) st_B)) (J.n (i:=8) sc_loose_farthest.nd rfl (Or.inl rfl))
  (J.f (J.i (i:=9) sc_loose_farthest.nd rfl (Or.inl rfl) (J.e (ixT K) (J.e (ixL K) (J.a 0) (J.a 8) (fun _ _=>rfl)) J.c (fun _ _=>rfl)) (hs:=sw_S))
  (J.f (J.i (i:=10) sc_loose_farthest.nd rfl (Or.inl rfl) (J.e (ixT K) (J.e (ixL K) (J.a 0) (J.a 8) (fun _ _=>rfl)) J.c (fun _ _=>rfl)) (hs:=sw_S))
  (J.f (J.i (i:=11) sc_loose_farthest.nd rfl (Or.inl rfl) (J.g op_add (J.a 5) (J.g op_mulB (J.e (ixT K) (J.a 4) J.c (fun _ _=>rfl)) (J.g op_sub (J.a 9) (J.e (ixT K) (J.a 3) J.c (fun _ _=>rfl))))) (hs:=sw_B))
  (J.f (J.i (i:=12) sc_loose_farthest.nd rfl (Or.inl rfl) (J.r (J.b (J.p absC rfl T.abs_ PyProof.Rows.boot_abs (J.b (J.g op_sub (J.g op_mulB (J.e (ixT K) (J.a 10) J.c (fun _ _=>rfl)) (J.e (ixT K) (J.a 4) J.c (fun _ _=>rfl))) (J.g op_mulB (J.e (ixT K) (J.a 10) J.c (fun _ _=>rfl)) (J.a 11))) J.d st_B) (he:=st_B) (hpl:=any0)) (J.b (J.e (ixT K) (J.a 10) J.c (fun _ _=>rfl)) J.d st_S) st_K)) (hs:=sw_T))
  (J.h (J.m (J.aa (Jd.pw_or (J.j op_isN (J.a 6) J.u (nomark _)) (Jd.pw_or1 (J.j op_gt (J.l D_order (hr.mono (by decide)) rfl (J.b (J.a 12) (J.b (J.a 7) J.d st_N) st_N) (he:=st_N) (hpl:=(anyc st_N any0))) J.c (nomark _)))))
  (J.f (J.i (i:=6) sc_loose_farthest.nd rfl (Or.inl rfl) (J.a 8) (hs:=sw_N))
  (J.h (J.i (i:=7) sc_loose_farthest.nd rfl (Or.inl rfl) (J.a 12) (hs:=sw_N))))
  J.o)))))))
  (J.h (J.k (J.aq (J.j op_isN (J.a 6) J.u (nomark _)) J.u (J.r (J.b (J.a 6) (J.b (J.r (J.b (J.e (ixT K) (J.a 7) J.c (fun _ _=>rfl)) (J.b (J.g op_mulB (J.e (ixT K) (J.a 7) J.c (fun _ _=>rfl)) (J.e (ixT K) (J.a 4) J.c (fun _ _=>rfl))) J.d st_B) st_S)) J.d st_T) st_N))))))))))),?_⟩
 walk_at "v"
 refine r_l hl (at_val gi rfl) ?_
 walk_at "v"
 refine r_l hl (at_val gj rfl) ?_
 walk_at "v"
 refine ⟨xi.1,xj.1,vi,vj,mo es i,mo es j,a,b,a',b',n,rfl,ei,eb,ej,eb',ht,zti,za,zb,ztj,za',zb',by walk_at "o",fun ps H1 s1 e1=>?_⟩
 have ei1:=s1 _ _ ei
 have eb1:=s1 _ _ eb
 walk_at "v"
 refine r_I ⟨by walk_at "o",zb.log (by walk_at "o") ?_⟩ ?_
 ·rcases Nat.eq_zero_or_pos n with z | z
  ·subst z
   have:b.natAbs<2 ^ 0:=zb
   walk_at "o"
  ·exact z
 rw [hdv]
 refine r_I (mulOk za zS2 (by walk_at "o")) ?_
 walk_at "v"
 refine r_new (mk:=.tup) (by simp) fun pm0 H2 s2 n2 e2=>?_
 walk_at "v"
 refine r_for (r_rng2 ?_)
 walk_at "v"
 have one1:Sz (5*n+4) 1:=one_sz (by walk_at "o")
 have zer:Sz (5*n+4) 0:=Nat.two_pow_pos _
 refine ⟨_,_,rfl,⟨by lia,by lia,by lia,by lia⟩,for_range (fun m σ H3=>∃(fv:V) (pm:Addr) (v8 v9 v10 v11 v12:Option V),σ=[some (.ref l),some (.int i),some (.int j),some (.ref xi.1),some (.ref ps),some (.int (a*(b'*(mo es j-mo es i)))),some fv,some (.ref pm),v8,v9,v10,v11,v12] ∧
  Same H1 H3∧((m=0∧fv=.non∧QtAt H3 pm 0 (5*n+4))∨∃k:Nat,fv=.int (k:Int)∧QtAt H3 pm (rabs (sd es i k j)*((b'*b*(mo es j-mo es i):Int):Rat)) (5*n+4)∧FarTo (fun k=>rabs (sd es i k j)) i (i+1+m) k)) ?_ ?_ ?_⟩
 ·exact ⟨.non,pm0,none,none,none,none,none,rfl,s2,.inl ⟨rfl,rfl,0,1,e2,Qt.whole 0,zer,one1⟩⟩
 ·rintro m σ H3 hm ⟨fv,pm,v8,v9,v10,v11,v12,rfl,s3,hI⟩
  have hp:i+1+m<j:=by walk_at "o"
  have s03:=s1.trans s3
  obtain ⟨xp,gp,vp,ep,⟨c,e,ec,fc,zc,ze⟩,ztp⟩:=sa_at (hR.up s03) hS (show i+1+m<es.length by walk_at "o")
  have ei3:=s03 _ _ ei
  have e13:=s3 _ _ e1
  have qt:=far_qt fb fb' fc (tp:=mo es (i+1+m)) ht
  have qa:=qt.abs
  rw [rabs_mul (cast_pos Spos)] at qa
  have ztt:Sz (n+1) (mo es (i+1+m)-mo es i):=ztp.sub zti
  have zbase:Sz (4*n+2) (a*(b'*(mo es j-mo es i))):=(za.mul zS2).mono (by walk_at "o")
  have zst:Sz (4*n+2) ((a'*b-a*b')*(mo es (i+1+m)-mo es i)):=(zT.mul ztt).mono (by walk_at "o")
  have zal:Sz (4*n+3) (a*(b'*(mo es j-mo es i))+(a'*b-a*b')*(mo es (i+1+m)-mo es i)):=zbase.add zst
  have zcS:Sz (5*n+3) (c*(b'*b*(mo es j-mo es i))):=(zc.mul zS).mono (by walk_at "o")
  have zea:Sz (5*n+3) (e*(a*(b'*(mo es j-mo es i))+(a'*b-a*b')*(mo es (i+1+m)-mo es i))):=(ze.mul zal).mono (by walk_at "o")
  walk_at "v"
  refine r_l (s03 _ _ hl) (at_val gp (by walk_at "o")) ?_
  walk_at "v"
  refine r_l (s03 _ _ hl) (at_val gp (by walk_at "o")) ?_
  walk_at "v"
  refine r_I (mulOk zT ztt (by walk_at "o")) ?_
  walk_at "v"
  refine r_I (mulOk zc zS (by walk_at "o")) ?_
  walk_at "v"
  refine r_I (mulOk ze zal (by walk_at "o")) ?_
  walk_at "v"
  rw [abs_cast]
  refine r_new (mk:=.tup) (by simp) fun pst H4 s4 n4 e4=>?_
  have qs:QtAt H4 pst (rabs (sd es i (i+1+m) j)*((b'*b*(mo es j-mo es i):Int):Rat)) (5*n+4):=
   ⟨_,_,e4,qa,(zcS.sub zea).of_le (by simp),ze.mono (by walk_at "o")⟩
  walk_at "v"
  rcases hI with ⟨rfl,rfl,hq⟩ | ⟨kk,rfl,hq,hF⟩
  ·refine ⟨rfl,?_⟩
   walk_at "v"
   refine iteT ?_
   refine iteT ?_
   walk_at "v"
   exact ⟨_,_,_,_,_,_,_,rfl,s3.trans s4,.inr ⟨i+1,by simp,qs,FarTo.first⟩⟩
  ·refine ⟨rfl,?_⟩
   walk_at "v"
   refine iteF ?_
   walk_at "v"
   refine ⟨pst,pm,_,_,_,_,rfl,qs,hq.up s4,by walk_at "o",fun o ho1 ho2=>?_⟩
   walk_at "v"
   refine ite2 (fun c1=>?_) (fun c1=>?_)
   ·have c':0<o:=of_decide_eq_true c1
    have l1:=(Rat.mul_lt_mul_right (cast_pos Spos)).mp (ho1.mp c')
    walk_at "v"
    refine ⟨_,_,_,_,_,_,_,rfl,s3.trans s4,.inr ⟨i+1+m,by simp,qs,?_⟩⟩
    exact hF.next l1
   ·have c':¬0<o:=of_decide_eq_false (Bool.eq_false_iff.mpr c1)
    have l1:¬rabs (sd es i kk j)<rabs (sd es i (i+1+m) j):=fun z=>c' (ho1.mpr ((Rat.mul_lt_mul_right (cast_pos Spos)).mpr z))
    walk_at "v"
    refine ⟨_,_,_,_,_,_,_,rfl,s3.trans s4,.inr ⟨kk,rfl,hq.up s4,?_⟩⟩
    exact hF.keep (Rat.not_lt.mp l1)
 ·rintro σ H3 ⟨fv,pm,v8,v9,v10,v11,v12,rfl,s3,hI⟩
  have e13:=s3 _ _ e1
  walk_at "v"
  rcases hI with ⟨hm,rfl,hq⟩ | ⟨kk,rfl,⟨x,y,exy,qxy,zx,zy⟩,hF⟩
  ·refine ⟨rfl,?_⟩
   walk_at "v"
   refine iteT ?_
   walk_at "v"
   exact k0 (by walk_at "o") H3 (s1.trans s3)
  ·refine ⟨rfl,?_⟩
   walk_at "v"
   refine iteF ?_
   walk_at "v"
   refine r_I (mulOk zy zS (by walk_at "o")) ?_
   walk_at "v"
   refine r_new (mk:=.tup) (by simp) fun p4 H4 s4 n4 e4=>?_
   walk_at "v"
   refine r_new (mk:=.tup) (by simp) fun p5 H5 s5 n5 e5=>?_
   have hF':FarTo (fun k=>rabs (sd es i k j)) i j kk:=by
    have e:i+1+((j:Int)-((i:Int)+1)).toNat=j:=by walk_at "o"
    rw [e] at hF
    exact hF
   have hlo:=hF'.lo
   have hhi:=hF'.hi
   refine k1 (by walk_at "o") p5 p4 kk H5 ((s1.trans s3).trans (s4.trans s5)) e5 ?_ hF'
   have q:=qxy.div (s:=b'*b*(mo es j-mo es i)) Spos
   have hne:=cast_ne (b:=b'*b*(mo es j-mo es i)) (by walk_at "o")
   rw [show rabs (sd es i kk j)*((b'*b*(mo es j-mo es i):Int):Rat)/((b'*b*(mo es j-mo es i):Int):Rat)=rabs (sd es i kk j) by generalize ((b'*b*(mo es j-mo es i):Int):Rat)=S at hne;grind] at q
   exact ⟨_,_,s5 _ _ e4,q,zx.mono (by walk_at "o"),(zy.mul zS).mono (by walk_at "o")⟩
end

noncomputable def nworth (b:Int) (x:Int×Option Int):Int×Option Rat:=(x.1,x.2.map fun z:Int=>(z:Rat)/(b:Rat))
noncomputable def nst (m1 n1 m2 n2 m3 n3:Int):Int:=n2*(m3-m1)-n1*(m3-m2)-n3*(m2-m1)
noncomputable def spHanded:Sp:=fun vs H Q _=>∃(l:Addr) (es:List Nn) (b:Int) (m n nb N:Nat),vs=[.ref l,.int b]∧H l=some (.lst (nvals es))∧NRow H es m n∧es.length≤900∧1≤b∧Sz nb b∧m≤N∧n≤N∧nb≤N∧N≤8000 ∧
 ∀(R:Addr) (es':List En) (H':Hp),Same H H'→H R=none→H' R=some (.lst (vals es'))→Row H' es' N→es'.map (·.2)=es.map (fun x=>nworth b x.2)→Q (.ref R) H'
noncomputable def spStandN:Sp:=fun vs H Q _=>∃(p1 p2 p3:Addr) (m1 n1 m2 n2 m3 n3:Int) (m n:Nat),vs=[.ref p1,.ref p2,.ref p3]∧H p1=some (.tup [.int m1,.int n1])∧H p2=some (.tup [.int m2,.int n2])∧H p3=some (.tup [.int m3,.int n3]) ∧
 Sz m m1∧Sz m m2∧Sz m m3∧Sz n n1∧Sz n n2∧Sz n n3∧m+n≤100000∧Q (.int (nst m1 n1 m2 n2 m3 n3)) H
theorem r_unpack3 {σ:St} {H:Hp} {K:PySem.W.Frag} {p:Addr} {x y z:V} {i j k:Nat} {R:St→Hp→Prop} (h:H p=some (.tup [x,y,z])) (q:R (((σ.set i (some x)).set j (some y)).set k (some z)) H):gTup K 3 (gCons (gName i) (gCons (gName j) (gCons (gName k) gNil))) (.ref p) σ H R:=
 ⟨p,_,rfl,SqT.of h,rfl,x,_,rfl,y,_,rfl,z,_,rfl,rfl,q⟩
section
variable {P:Program} {w:World} {K:PySem.W.Frag} {mg:Str→Option Value} {base:Heap} {f:Addr} {fd:FuncData}
theorem sc_law_handed:FnScope ["_law_row_here","_law_bottom","_law_handed_here","_law_moment","_law_number"] ["_law_row_here","_law_bottom"] (defScope s_law_handed):=⟨rfl,rfl,rfl,by decide +kernel,rfl,by decide +kernel,by decide +kernel⟩
theorem ok_law_handed (F:Fun K "_law_handed" "_law_handed" s_law_handed f fd) (D_law_ratio:Dn P w K mg base 1 "_law_ratio" ["_law_top","_law_bottom"] spRatio):FnOk P w K mg base CX0 2 f fd ["_law_row_here","_law_bottom"] spHanded:=by
 refine F.ok sc_law_handed (fun vs H Q E h=>?_) (fun cdv A outer s H vs Q E hr h=>?_)
 ·obtain ⟨l,es,b,m,n,nb,N,rfl,_⟩:=h
  rfl
 obtain ⟨l,es,b,m,n,nb,N,rfl,hl,hes,h40,hb,zb,hmN,hnN,hbN,hN,k⟩:=h
 refine J.q ⟨_,(J.f (J.i (i:=2) sc_law_handed.nd rfl (Or.inl rfl) (J.s J.d) (hs:=sw_L))
  (J.f (J.t PassesOwn.never rfl (J.w K (J.a 0)) (Jd.pgT K (n:=2) rfl (J.v (J.n (i:=3) sc_law_handed.nd rfl (Or.inl rfl)) (J.v (J.n (i:=4) sc_law_handed.nd rfl (Or.inl rfl)) J.ae)))
  (J.h (J.m (J.j op_isN (J.a 4) J.u (nomark _))
  (J.h (J.x (J.y K (J.a 2) (J.r (J.b (J.a 3) (J.b J.u J.d st_C) st_N))) (hs:=sw_K)))
  (J.h (J.x (J.y K (J.a 2) (J.r (J.b (J.a 3) (J.b (J.l D_law_ratio (hr.mono (by decide)) rfl (J.b (J.a 4) (J.b (J.a 1) J.d st_N) st_N) (he:=st_N) (hpl:=(anyc st_N any0))) J.d st_K) st_N))) (hs:=sw_K))))))
  (J.h (J.k (J.a 2))))),?_⟩
 walk_at "v"
 refine r_new (mk:=.lst) (by simp) fun R H1 s1 n1 e1=>?_
 walk_at "v"
 refine r_for (r_iL ?_)
 walk_at "v"
 refine ⟨l,rfl,⟨_,SqL.of (s1 _ _ hl)⟩,for_list (xs:=nvals es) (fun i σ H3=>∃(es':List En) (v3 v4:Option V),σ=[some (.ref l),some (.int b),some (.ref R),v3,v4]∧Same H H3∧H3 R=some (.lst (vals es'))∧Row H3 es' N∧es'.length=i∧es'.map (·.2)=(es.take i).map (fun x=>nworth b x.2)) ?_ ?_ ?_ ?_⟩
 ·exact ⟨[],none,none,rfl,s1,e1,fun x hx=>absurd hx (by simp),rfl,rfl⟩
 ·rintro i σ H3 _ ⟨es',v3,v4,rfl,s3,_⟩
  exact SqL.of (s3 _ _ hl)
 ·rintro i x σ H3 hx ⟨es',v3,v4,rfl,s3,e3,hes',hl',hmap⟩
  obtain ⟨e,he,rfl⟩:=nvals_at hx
  have hi:i<es.length:=(List.getElem?_eq_some_iff.mp he).1
  have fe:=(hes e (List.mem_of_getElem? he)).up s3
  have tk:es.take (i+1)=es.take i++[e]:=by rw [List.take_add_one,he];rfl
  have fin:∀(y:Addr) (H4:Hp) (v3 v4:Option V),Same H3 H4→EnAt H4 (y,nworth b e.2) N→∃(es'':List En) (v3' v4':Option V),[some (.ref l),some (.int b),some (.ref R),v3,v4]=[some (.ref l),some (.int b),some (.ref R),v3',v4'] ∧
   Same H (upd H4 R (.lst (vals es'++[.ref y])))∧upd H4 R (.lst (vals es'++[.ref y])) R=some (.lst (vals es''))∧Row (upd H4 R (.lst (vals es'++[.ref y]))) es'' N∧es''.length=i+1∧es''.map (·.2)=(es.take (i+1)).map (fun x=>nworth b x.2):=by
   intro y H4 v3 v4 s4 f4
   have e4:=s4 _ _ e3
   refine ⟨es'++[(y,nworth b e.2)],v3,v4,rfl,same_at (s3.trans s4) n1,by rw [upd_same];exact congrArg (fun z=>some (HO.lst z)) (vals_snoc es' (y,nworth b e.2)),((hes'.up s4).snoc f4).app e4,by rw [List.length_append,hl'];rfl,?_⟩
   rw [tk,List.map_append,List.map_append,hmap]
   rfl
  obtain ⟨a,mm,v⟩:=e
  cases v with
  | none=>
    refine r_unpack2 fe.1 ?_
    walk_at "v"
    refine ⟨rfl,?_⟩
    walk_at "v"
    refine iteT ?_
    walk_at "v"
    refine ⟨.inl ⟨rfl,_,SqL.of e3⟩,?_⟩
    walk_at "v"
    refine r_new (mk:=.tup) (by simp) fun y H4 s4 n4 e4=>?_
    walk_at "v"
    refine r_app (s4 _ _ e3) (by rw [vals_len];exact small1000 (by walk_at "o")) ?_
    exact fin y H4 _ _ s4 ⟨fe.2.1.mono hmN,e4⟩
  | some z=>
    have zz:=fe.2.2 z rfl
    refine r_unpack2 fe.1 ?_
    walk_at "v"
    refine ⟨rfl,?_⟩
    walk_at "v"
    refine iteF ?_
    walk_at "v"
    refine ⟨.inl ⟨rfl,_,SqL.of e3⟩,?_⟩
    walk_at "v"
    refine frac_gen (n:=N) (by walk_at "o") (zz.mono hnN) (zb.mono hbN) hN fun p H4 s4 f4=>?_
    walk_at "v"
    refine r_new (mk:=.tup) (by simp) fun y H5 s5 n5 e5=>?_
    walk_at "v"
    refine r_app ((s4.trans s5) _ _ e3) (by rw [vals_len];exact small1000 (by walk_at "o")) ?_
    exact fin y H5 _ _ (s4.trans s5) ⟨fe.2.1.mono hmN,p,e5,f4.up s5⟩
 ·rintro σ H3 ⟨es',v3,v4,rfl,s3,e3,hes',hl',hmap⟩
  rw [nvals_len,List.take_length] at hmap
  walk_at "v"
  exact k R es' H3 s3 n1 e3 hes' hmap
theorem sc_law_stand:FnScope ["_law_one","_law_mid","_law_last","_law_up"] ["_law_one","_law_mid","_law_last"] (defScope s_law_stand):=⟨rfl,rfl,rfl,by decide +kernel,rfl,by decide +kernel,by decide +kernel⟩
theorem ok_law_stand (F:Fun K "_law_stand" "_law_stand" s_law_stand f fd):FnOk P w K mg base CX0 1 f fd ["_law_one","_law_mid","_law_last"] spStandN:=by
 refine F.ok sc_law_stand (fun vs H Q E h=>?_) (fun cdv A outer s H vs Q E hr h=>?_)
 ·obtain ⟨p1,p2,p3,m1,n1,m2,n2,m3,n3,m,n,rfl,_⟩:=h
  rfl
 obtain ⟨p1,p2,p3,m1,n1,m2,n2,m3,n3,m,n,rfl,e1,e2,e3,a1,a2,a3,b1,b2,b3,hmn,k⟩:=h
 refine J.q ⟨_,(J.f (J.i (i:=3) sc_law_stand.nd rfl (Or.inl rfl) (J.g op_mulB (J.e (ixT K) (J.a 1) J.c (fun _ _=>rfl)) (J.g op_sub (J.e (ixT K) (J.a 2) J.c (fun _ _=>rfl)) (J.e (ixT K) (J.a 0) J.c (fun _ _=>rfl)))) (hs:=sw_B))
  (J.h (J.k (J.g op_sub (J.g op_sub (J.a 3) (J.g op_mulB (J.e (ixT K) (J.a 0) J.c (fun _ _=>rfl)) (J.g op_sub (J.e (ixT K) (J.a 2) J.c (fun _ _=>rfl)) (J.e (ixT K) (J.a 1) J.c (fun _ _=>rfl))))) (J.g op_mulB (J.e (ixT K) (J.a 2) J.c (fun _ _=>rfl)) (J.g op_sub (J.e (ixT K) (J.a 1) J.c (fun _ _=>rfl)) (J.e (ixT K) (J.a 0) J.c (fun _ _=>rfl)))))))),?_⟩
 walk_at "v"
 refine r_I (mulOk b2 (a3.sub a1) (by walk_at "o")) ?_
 walk_at "v"
 refine r_I (mulOk b1 (a3.sub a2) (by walk_at "o")) ?_
 walk_at "v"
 refine r_I (mulOk b3 (a2.sub a1) (by walk_at "o")) ?_
 walk_at "v"
 exact k
end
theorem kit_bb {K:PySem.W.Frag}:PySem.W.kitOne K (.type "bool") (.type "bool")=some true:=by rfl

noncomputable def nmo (hs:List Nn) (k:Nat):Int:=((hs[k]?).map (·.2.1)).getD 0
noncomputable def nno (hs:List Nn) (k:Nat):Int:=((hs[k]?).bind (·.2.2)).getD 0
noncomputable def nsd (hs:List Nn) (i k j:Nat):Int:=nst (nmo hs i) (nno hs i) (nmo hs k) (nno hs k) (nmo hs j) (nno hs j)
noncomputable def AllN (hs:List Nn):Prop:=∀x∈hs,nsm x=true
theorem nn_at {H:Hp} {hs:List Nn} {m n k:Nat} (hR:NRow H hs m n) (hS:AllN hs) (hk:k<hs.length):∃x,hs[k]?=some x∧H x.1=some (.tup [.int (nmo hs k),.int (nno hs k)])∧Sz m (nmo hs k)∧Sz n (nno hs k):=by
 have g:hs[k]?=some hs[k]:=List.getElem?_eq_getElem hk
 have hm:hs[k]∈hs:=List.getElem_mem hk
 refine ⟨hs[k],g,?_⟩
 have h1:=hR _ hm
 have h2:(hs[k]).2.2.isSome=true:=hS _ hm
 unfold nmo nno
 rw [g]
 generalize hs[k]=x at *
 obtain ⟨a,m,v⟩:=x
 cases v with
 | none=>cases h2
 | some q=>exact ⟨h1.1,h1.2.1,h1.2.2 q rfl⟩
theorem nmo_lt {hs:List Nn} {i j:Nat} (h:nrising hs) (hij:i<j) (hj:j<hs.length):nmo hs i<nmo hs j:=by
 have hi:i<hs.length:=by walk_at "o"
 unfold nmo
 rw [List.getElem?_eq_getElem hi,List.getElem?_eq_getElem hj]
 exact List.pairwise_iff_getElem.mp h i j hi hj hij
section
variable {es:List En} {hs:List Nn} {b:Int} (h:es.map (·.2)=hs.map (fun x=>nworth b x.2))
include h
theorem link_at (k:Nat):mo es k=nmo hs k∧wo es k=(nno hs k:Rat)/(b:Rat):=by
 have e:(es.map (·.2))[k]?=(hs.map (fun x=>nworth b x.2))[k]?:=by rw [h]
 rw [List.getElem?_map,List.getElem?_map] at e
 unfold mo nmo wo nno
 have z:(0:Rat)=((0:Int):Rat)/(b:Rat):=by
  rw [show ((0:Int):Rat)=0 from rfl,Rat.div_def,Rat.zero_mul]
 cases e1:es[k]? with
 | none=>
   rw [e1] at e
   cases e2:hs[k]? with
   | none=>exact ⟨rfl,z⟩
   | some y=>rw [e2] at e;cases e
 | some x=>
   rw [e1] at e
   cases e2:hs[k]? with
   | none=>rw [e2] at e;cases e
   | some y=>
     rw [e2] at e
     have q:x.2=nworth b y.2:=Option.some.inj e
     obtain ⟨ax,tx,vx⟩:=x
     obtain ⟨ay,ty,vy⟩:=y
     cases vy with
     | none=>
       cases q
       exact ⟨rfl,z⟩
     | some w=>
       cases q
       exact ⟨rfl,rfl⟩
theorem link_len:es.length=hs.length:=by
 have:=congrArg List.length h
 simpa using this
theorem link_rising (hr:nrising hs):rising es:=by
 have k:(hs.map fun x=>x.2.1).Pairwise (·<·):=List.pairwise_map.mpr hr
 have e:=congrArg (List.map Prod.fst) h
 rw [List.map_map,List.map_map] at e
 have e':es.map (fun x=>x.2.1)=hs.map (fun x=>x.2.1):=e
 rw [← e'] at k
 exact List.pairwise_map.mp k
theorem link_sd {i k j:Nat} (hb:1≤b) (ht:nmo hs i<nmo hs j):((nsd hs i k j:Int):Rat)=sd es i k j*(((nmo hs j-nmo hs i)*b:Int):Rat):=by
 obtain ⟨i1,i2⟩:=link_at h i
 obtain ⟨j1,j2⟩:=link_at h j
 obtain ⟨k1,k2⟩:=link_at h k
 unfold sd nsd nst
 rw [i1,i2,j1,j2,k1,k2]
 have hX:=chord_mul (t:=(nmo hs i:Rat)) (q:=(nno hs i:Rat)/(b:Rat)) (u:=(nmo hs k:Rat)) (t':=(nmo hs j:Rat)) (q':=(nno hs j:Rat)/(b:Rat)) (cast_sub_ne ht)
 have hb':=cast_ne (b:=b) (by walk_at "o")
 simp only [Rat.intCast_mul,Rat.intCast_sub]
 generalize chord (nmo hs i:Rat) ((nno hs i:Rat)/(b:Rat)) (nmo hs k:Rat) (nmo hs j:Rat) ((nno hs j:Rat)/(b:Rat))=X at *
 generalize (nmo hs i:Rat)=ti at *
 generalize (nmo hs j:Rat)=tj at *
 generalize (nmo hs k:Rat)=tk at *
 generalize (nno hs i:Rat)=ni at *
 generalize (nno hs j:Rat)=nj at *
 generalize (nno hs k:Rat)=nk at *
 grind
end
theorem natAbs_rat (x:Int):((x.natAbs:Int):Rat)=rabs (x:Rat):=by
 have:=(Qt.whole x).abs.eq
 simpa using this
theorem link_abs {es:List En} {hs:List Nn} {b:Int} (h:es.map (·.2)=hs.map (fun x=>nworth b x.2)) {i k j:Nat} (hb:1≤b) (ht:nmo hs i<nmo hs j):(((nsd hs i k j).natAbs:Int):Rat)=rabs (sd es i k j)*(((nmo hs j-nmo hs i)*b:Int):Rat):=by
 rw [natAbs_rat,link_sd h hb ht,rabs_mul (cast_pos (Int.mul_pos (by walk_at "o") (by walk_at "o")))]
theorem mo_congr {es es':List En} (h:es.map (·.2)=es'.map (·.2)) (k:Nat):mo es k=mo es' k∧wo es k=wo es' k:=by
 have e:(es.map (·.2))[k]?=(es'.map (·.2))[k]?:=by rw [h]
 rw [List.getElem?_map,List.getElem?_map] at e
 unfold mo wo
 cases h1:es[k]? with
 | none=>
   cases h2:es'[k]? with
   | none=>exact ⟨rfl,rfl⟩
   | some y=>rw [h1,h2] at e;cases e
 | some x=>
   cases h2:es'[k]? with
   | none=>rw [h1,h2] at e;cases e
   | some y=>
     rw [h1,h2] at e
     have e':x.2=y.2:=by simpa using e
     simp only [Option.map_some,Option.bind_some,e',Option.getD_some,and_self]

noncomputable abbrev Qs:=List (Addr×Rat)
noncomputable def qrefs (rs:Qs):List V:=rs.map fun x=>V.ref x.1
theorem qrefs_at {rs:Qs} {i:Nat} {v:V} (h:(qrefs rs)[i]?=some v):∃x,rs[i]?=some x∧v=.ref x.1:=by
 unfold qrefs at h
 rw [List.getElem?_map] at h
 cases e:rs[i]? with
 | none=>rw [e] at h;cases h
 | some x=>rw [e] at h;cases h;exact ⟨x,rfl,rfl⟩
noncomputable def AllQ (H:Hp) (rs:Qs) (n:Nat):Prop:=∀x∈rs,QtAt H x.1 x.2 n
noncomputable def natsV (js:List Nat):List V:=js.map fun j:Nat=>V.int (j:Int)
theorem natsV_len (js:List Nat):(natsV js).length=js.length:=List.length_map ..
theorem natsV_snoc (js:List Nat) (j:Nat):natsV js++[.int (j:Int)]=natsV (js++[j]):=by simp [natsV]
theorem natsV_at {js:List Nat} {i:Nat} {v:V} (h:(natsV js)[i]?=some v):∃j,js[i]?=some j∧v=.int (j:Int):=by
 unfold natsV at h
 rw [List.getElem?_map] at h
 cases e:js[i]? with
 | none=>rw [e] at h;cases h
 | some x=>rw [e] at h;cases h;exact ⟨x,rfl,rfl⟩
theorem QtAt.app {H:Hp} {R p:Addr} {q:Rat} {n:Nat} {ys:List V} {o:HO} (f:QtAt H p q n) (h:H R=some (.lst ys)):QtAt (upd H R o) p q n:=
 let ⟨t,b,e,f⟩:=f
 ⟨t,b,(rm_up R H o) _ _ (rm_tup h e),f⟩
noncomputable def SaQ (H:Hp) (p:Addr) (t:Int) (q:Rat) (n m:Nat):Prop:=∃v:Addr,H p=some (.tup [.int t,.ref v])∧QtAt H v q n∧Sz m t
theorem SaAt.saq {H:Hp} {p:Addr} {t:Int} {q:Rat} {n:Nat} (f:SaAt H p t q n):SaQ H p t q n n:=let ⟨v,e,f,z⟩:=f;⟨v,e,f.qt,z⟩
noncomputable def Good (es:List En) (β:Rat) (i j:Nat):Prop:=∀k,i<k→k<j→rabs (sd es i k j)≤β
noncomputable def Lead (es:List En) (β:Rat) (tied:Bool) (i j:Nat):Prop:=if tied=true then i<j∧j<es.length∧Good es β i j else i<es.length∧(j=i+1∨(i+1<j∧j≤es.length∧Good es β i (j-1)))
noncomputable def slo (es:List En) (i j:Nat):Rat:=(wo es j-wo es i)/((mo es j:Rat)-(mo es i:Rat))
noncomputable def lowS (es:List En) (β:Rat) (i k:Nat):Rat:=(wo es k-β-wo es i)/((mo es k:Rat)-(mo es i:Rat))
noncomputable def highS (es:List En) (β:Rat) (i k:Nat):Rat:=(wo es k+β-wo es i)/((mo es k:Rat)-(mo es i:Rat))
theorem good_iff {es:List En} {β:Rat} {i k j:Nat} (h:rising es) (hik:i<k) (hkj:k<j) (hj:j<es.length):rabs (sd es i k j)≤β↔lowS es β i k≤slo es i j∧slo es i j≤highS es β i k:=
 chord_slopes (Rat.intCast_lt_intCast.mpr (mo_lt h hik (by walk_at "o"))) (Rat.intCast_lt_intCast.mpr (mo_lt h hkj hj))
noncomputable def spLslopeQ:Sp:=fun vs H Q _=>∃(p r:Addr) (t t':Int) (q q':Rat) (n n' m:Nat),vs=[.ref p,.ref r]∧SaQ H p t q n m∧SaQ H r t' q' n' m∧t<t'∧n+n'+m≤20000 ∧
 ∀(s:Addr) (H':Hp),Same H H'→QtAt H' s ((q'-q)/((t':Rat)-(t:Rat))) (n+n'+m+2)→Q (.ref s) H'
noncomputable def spGreat:Sp:=fun vs H Q _=>∃(l:Addr) (rs:Qs) (n:Nat),vs=[.ref l]∧H l=some (.lst (qrefs rs))∧AllQ H rs n∧n≤20000∧0<rs.length∧∀x∈rs,(∀y∈rs,y.2≤x.2)→Q (.ref x.1) H
noncomputable def spSmall:Sp:=fun vs H Q _=>∃(l:Addr) (rs:Qs) (n:Nat),vs=[.ref l]∧H l=some (.lst (qrefs rs))∧AllQ H rs n∧n≤20000∧0<rs.length∧∀x∈rs,(∀y∈rs,x.2≤y.2)→Q (.ref x.1) H
noncomputable def spGoodB:Sp:=fun vs H Q _=>∃(l pb:Addr) (es:List En) (i n nb:Nat) (β:Rat),vs=[.ref l,.int (i:Int),.ref pb]∧H l=some (.lst (vals es))∧Row H es n∧AllS es∧rising es∧i<es.length∧es.length≤900∧QtAt H pb β nb∧n≤1000∧nb≤1000 ∧
 ∀(R:Addr) (js:List Nat) (H':Hp),Same H H'→H R=none→H' R=some (.lst (natsV js))→js.length≤es.length→(∀j,j∈js↔i<j∧j<es.length∧Good es β i j)→Q (.ref R) H'
structure Ls2 (H:Hp) (F:Addr) (rs:List (Addr×List Nat)):Prop where
 at_:H F=some (.lst (rs.map fun x=>V.ref x.1))
 each:∀x∈rs,H x.1=some (.lst (natsV x.2))∧x.1≠F
theorem Ls2.up {H H':Hp} {F:Addr} {rs:List (Addr×List Nat)} (h:Ls2 H F rs) (s:Same H H'):Ls2 H' F rs:=⟨s _ _ h.at_,fun x hx=>⟨s _ _ (h.each x hx).1,(h.each x hx).2⟩⟩
theorem Ls2.push {H:Hp} {F R:Addr} {rs:List (Addr×List Nat)} {js:List Nat} (h:Ls2 H F rs) (hR:H R=some (.lst (natsV js))) (ne:R≠F):Ls2 (upd H F (.lst (rs.map (fun x=>V.ref x.1)++[.ref R]))) F (rs++[(R,js)]):=by
 refine ⟨by rw [upd_same,List.map_append];rfl,fun x hx=>?_⟩
 rcases List.mem_append.mp hx with z | z
 ·exact ⟨by rw [upd_ne (h.each x z).2];exact (h.each x z).1,(h.each x z).2⟩
 ·obtain rfl:x=(R,js):=by simpa using z
  exact ⟨by rw [upd_ne ne];exact hR,ne⟩
noncomputable def LeadsAre (es:List En) (β:Rat) (tied:Bool) (rs:List (Addr×List Nat)):Prop:=∀i x,rs[i]?=some x→(x.2.length≤es.length+1)∧∀j,j∈x.2↔Lead es β tied i j
noncomputable def spLeaps:Sp:=fun vs H Q _=>∃(l pb:Addr) (es:List En) (n nb:Nat) (β:Rat) (tied:Bool),vs=[.ref l,.ref pb,.bl tied]∧H l=some (.lst (vals es))∧Row H es n∧AllS es∧rising es∧es.length≤900∧QtAt H pb β nb∧n≤1000∧nb≤1000 ∧
 ∀(F:Addr) (rs:List (Addr×List Nat)) (H':Hp),Same H H'→H F=none→Ls2 H' F rs→rs.length=es.length→LeadsAre es β tied rs→Q (.ref F) H'
noncomputable def intsV (N:Nat) (t:Nat→Int):List V:=(List.range N).map fun j=>V.int (t j)
theorem intsV_len (N:Nat) (t:Nat→Int):(intsV N t).length=N:=by simp [intsV]
theorem at_intsV {N j:Nat} {t:Nat→Int} {i:Int} (h:j<N) (hi:i=(j:Int)):atI (intsV N t) i=some (.int (t j)):=by
 subst hi
 exact atI_nat (map_range_at h)
noncomputable def spLabBy:Sp:=fun vs H Q _=>∃(F:Addr) (rs:List (Addr×List Nat)) (N:Nat) (L:Nat→Nat→Prop),vs=[.ref F,.int (N:Int)]∧Ls2 H F rs∧1≤N∧N≤900∧N≤rs.length+1∧rs.length≤N∧(∀i x,rs[i]?=some x→∀j,j∈x.2↔L i j)∧(∀i j,L i j→i<j∧j<N)∧(∀j,0<j→j<N→L (j-1) j) ∧
 ∀(R:Addr) (t:Nat→Int) (H':Hp),Same H H'→H R=none→H' R=some (.lst (intsV N t))→Fair L N t→Q (.ref R) H'
section
variable {P:Program} {w:World} {K:PySem.W.Frag} {mg:Str→Option Value} {base:Heap} {f:Addr} {fd:FuncData}
theorem sc_greatest:FnScope ["quotients","found","quotient"] ["quotients"] (defScope s_greatest):=⟨rfl,rfl,rfl,by decide +kernel,rfl,by decide +kernel,by decide +kernel⟩
theorem ok_greatest (F:Fun K "greatest" "greatest" s_greatest f fd) (D_order:Dn P w K mg base 1 "order" ["one","other"] spOrderQ):FnOk P w K mg base CX0 2 f fd ["quotients"] spGreat:=by
 refine F.ok sc_greatest (fun vs H Q E h=>?_) (fun cdv A outer s H vs Q E hr h=>?_)
 ·obtain ⟨l,rs,n,rfl,_⟩:=h
  rfl
 obtain ⟨l,rs,n,rfl,hl,hq,hn,hp,k⟩:=h
 have g0:rs[0]?=some rs[0]:=List.getElem?_eq_getElem hp
 refine J.q ⟨_,(J.f (J.i (i:=1) sc_greatest.nd rfl (Or.inl rfl) (J.e (ixL K) (J.a 0) J.c (fun _ _=>rfl)) (hs:=sw_S))
  (J.f (J.t PassesOwn.never rfl (J.w K (J.a 0)) (J.n (i:=2) sc_greatest.nd rfl (Or.inl rfl))
  (J.h (J.m (J.j op_gt (J.l D_order (hr.mono (by decide)) rfl (J.b (J.a 2) (J.b (J.a 1) J.d st_N) st_N) (he:=st_N) (hpl:=(anyc st_N any0))) J.c (nomark _))
  (J.h (J.i (i:=1) sc_greatest.nd rfl (Or.inl rfl) (J.a 2) (hs:=sw_N)))
  J.o)))
  (J.h (J.k (J.a 1))))),?_⟩
 walk_at "v"
 refine r_l hl (v:=.ref (rs[0]).1) (atI_nat (j:=0) (by unfold qrefs;rw [List.getElem?_map,g0];rfl)) ?_
 walk_at "v"
 refine r_for (r_iL ?_)
 walk_at "v"
 refine ⟨l,rfl,⟨_,SqL.of hl⟩,for_list (xs:=qrefs rs) (fun i σ H3=>H3=H∧∃(x:Addr×Rat) (v:Option V),x∈rs∧σ=[some (.ref l),some (.ref x.1),v]∧∀y∈rs.take i,y.2≤x.2) ?_ ?_ ?_ ?_⟩
 ·exact ⟨rfl,rs[0],none,List.getElem_mem hp,rfl,fun y hy=>by simp at hy⟩
 ·rintro i σ H3 _ ⟨rfl,_⟩
  exact SqL.of hl
 ·rintro i v σ H3 hx ⟨rfl,x,v2,hm,rfl,hle⟩
  obtain ⟨y,gy,rfl⟩:=qrefs_at hx
  have hy:=List.mem_of_getElem? gy
  have tk:rs.take (i+1)=rs.take i++[y]:=by rw [List.take_add_one,gy];rfl
  walk_at "v"
  refine ⟨y.1,x.1,y.2,x.2,n,n,rfl,hq y hy,hq x hm,by walk_at "o",fun o ho1 ho2=>?_⟩
  walk_at "v"
  refine ite2 (fun c=>?_) (fun c=>?_)
  ·have c':=ho1.mp (of_decide_eq_true c)
   walk_at "v"
   refine ⟨rfl,y,_,hy,rfl,fun z hz=>?_⟩
   rw [tk] at hz
   rcases List.mem_append.mp hz with q | q
   ·have:=hle z q
    grind
   ·obtain rfl:z=y:=by simpa using q
    exact Rat.le_refl
  ·have c':¬x.2<y.2:=fun z=>of_decide_eq_false (Bool.eq_false_iff.mpr c) (ho1.mpr z)
   walk_at "v"
   refine ⟨rfl,x,_,hm,rfl,fun z hz=>?_⟩
   rw [tk] at hz
   rcases List.mem_append.mp hz with q | q
   ·exact hle z q
   ·obtain rfl:z=y:=by simpa using q
    exact Rat.not_lt.mp c'
 ·rintro σ H3 ⟨rfl,x,v2,hm,rfl,hle⟩
  walk_at "v"
  refine k x hm fun y hy=>hle y ?_
  have e:(qrefs rs).length=rs.length:=List.length_map ..
  rw [e,List.take_length]
  exact hy
theorem sc_smallest:FnScope ["quotients","found","quotient"] ["quotients"] (defScope s_smallest):=⟨rfl,rfl,rfl,by decide +kernel,rfl,by decide +kernel,by decide +kernel⟩
theorem ok_smallest (F:Fun K "smallest" "smallest" s_smallest f fd) (D_order:Dn P w K mg base 1 "order" ["one","other"] spOrderQ):FnOk P w K mg base CX0 2 f fd ["quotients"] spSmall:=by
 refine F.ok sc_smallest (fun vs H Q E h=>?_) (fun cdv A outer s H vs Q E hr h=>?_)
 ·obtain ⟨l,rs,n,rfl,_⟩:=h
  rfl
 obtain ⟨l,rs,n,rfl,hl,hq,hn,hp,k⟩:=h
 have g0:rs[0]?=some rs[0]:=List.getElem?_eq_getElem hp
 refine J.q ⟨_,(J.f (J.i (i:=1) sc_smallest.nd rfl (Or.inl rfl) (J.e (ixL K) (J.a 0) J.c (fun _ _=>rfl)) (hs:=sw_S))
  (J.f (J.t PassesOwn.never rfl (J.w K (J.a 0)) (J.n (i:=2) sc_smallest.nd rfl (Or.inl rfl))
  (J.h (J.m (J.j op_lt (J.l D_order (hr.mono (by decide)) rfl (J.b (J.a 2) (J.b (J.a 1) J.d st_N) st_N) (he:=st_N) (hpl:=(anyc st_N any0))) J.c (nomark _))
  (J.h (J.i (i:=1) sc_smallest.nd rfl (Or.inl rfl) (J.a 2) (hs:=sw_N)))
  J.o)))
  (J.h (J.k (J.a 1))))),?_⟩
 walk_at "v"
 refine r_l hl (v:=.ref (rs[0]).1) (atI_nat (j:=0) (by unfold qrefs;rw [List.getElem?_map,g0];rfl)) ?_
 walk_at "v"
 refine r_for (r_iL ?_)
 walk_at "v"
 refine ⟨l,rfl,⟨_,SqL.of hl⟩,for_list (xs:=qrefs rs) (fun i σ H3=>H3=H∧∃(x:Addr×Rat) (v:Option V),x∈rs∧σ=[some (.ref l),some (.ref x.1),v]∧∀y∈rs.take i,x.2≤y.2) ?_ ?_ ?_ ?_⟩
 ·exact ⟨rfl,rs[0],none,List.getElem_mem hp,rfl,fun y hy=>by simp at hy⟩
 ·rintro i σ H3 _ ⟨rfl,_⟩
  exact SqL.of hl
 ·rintro i v σ H3 hx ⟨rfl,x,v2,hm,rfl,hle⟩
  obtain ⟨y,gy,rfl⟩:=qrefs_at hx
  have hy:=List.mem_of_getElem? gy
  have tk:rs.take (i+1)=rs.take i++[y]:=by rw [List.take_add_one,gy];rfl
  walk_at "v"
  refine ⟨y.1,x.1,y.2,x.2,n,n,rfl,hq y hy,hq x hm,by walk_at "o",fun o ho1 ho2=>?_⟩
  walk_at "v"
  refine ite2 (fun c=>?_) (fun c=>?_)
  ·have c':=ho2.mp (of_decide_eq_true c)
   walk_at "v"
   refine ⟨rfl,y,_,hy,rfl,fun z hz=>?_⟩
   rw [tk] at hz
   rcases List.mem_append.mp hz with q | q
   ·have:=hle z q
    grind
   ·obtain rfl:z=y:=by simpa using q
    exact Rat.le_refl
  ·have c':¬y.2<x.2:=fun z=>of_decide_eq_false (Bool.eq_false_iff.mpr c) (ho2.mpr z)
   walk_at "v"
   refine ⟨rfl,x,_,hm,rfl,fun z hz=>?_⟩
   rw [tk] at hz
   rcases List.mem_append.mp hz with q | q
   ·exact hle z q
   ·obtain rfl:z=y:=by simpa using q
    exact Rat.not_lt.mp c'
 ·rintro σ H3 ⟨rfl,x,v2,hm,rfl,hle⟩
  walk_at "v"
  refine k x hm fun y hy=>hle y ?_
  have e:(qrefs rs).length=rs.length:=List.length_map ..
  rw [e,List.take_length]
  exact hy
theorem ok_loose_slopeQ (F:Fun K "loose_slope" "loose_slope" s_loose_slope f fd) (D_loose_minus:Dn P w K mg base 1 "loose_minus" ["one","other"] (spTwo (·-·) 1)):FnOk P w K mg base CX0 3 f fd ["one","other"] spLslopeQ:=by
 refine F.ok sc_loose_slope (fun vs H Q E h=>?_) (fun cdv A outer s H vs Q E hr h=>?_)
 ·obtain ⟨p,r,t,t',q,q',n,n',m,rfl,_⟩:=h
  rfl
 obtain ⟨p,r,t,t',q,q',n,n',m,rfl,⟨v,hp,hv,zt⟩,⟨v',hr',hv',zt'⟩,ht,hn,k⟩:=h
 refine J.q ⟨_,(J.f (J.i (i:=2) sc_loose_slope.nd rfl (Or.inl rfl) (J.l D_loose_minus (hr.mono (by decide)) rfl (J.b (J.e (ixT K) (J.a 1) J.c (fun _ _=>rfl)) (J.b (J.e (ixT K) (J.a 0) J.c (fun _ _=>rfl)) J.d st_S) st_S) (he:=st_S) (hpl:=(anyc st_S any0))) (hs:=sw_K))
  (J.f (J.i (i:=3) sc_loose_slope.nd rfl (Or.inl rfl) (J.g op_sub (J.e (ixT K) (J.a 1) J.c (fun _ _=>rfl)) (J.e (ixT K) (J.a 0) J.c (fun _ _=>rfl))) (hs:=sw_B))
  (J.f (J.m (J.j op_lt (J.a 3) J.c (nomark _))
  (J.h (J.k (J.r (J.b (J.z un_neg (J.e (ixT K) (J.a 2) J.c (fun _ _=>rfl))) (J.b (J.g op_mulB (J.e (ixT K) (J.a 2) J.c (fun _ _=>rfl)) (J.z un_neg (J.a 3))) J.d st_B) st_U))))
  J.o)
  (J.h (J.k (J.r (J.b (J.e (ixT K) (J.a 2) J.c (fun _ _=>rfl)) (J.b (J.g op_mulB (J.e (ixT K) (J.a 2) J.c (fun _ _=>rfl)) (J.a 3)) J.d st_B) st_S))))))),?_⟩
 walk_at "v"
 refine ⟨v',v,q',q,n',n,rfl,hv',hv,by walk_at "o",fun x H1 s1 e1=>?_⟩
 obtain ⟨a,b,hx,hq,za,zb⟩:=e1
 have hp1:=s1 _ _ hp
 have hr1:=s1 _ _ hr'
 have zs:Sz (m+1) (t'-t):=zt'.sub zt
 walk_at "v"
 refine ite2 (fun c=>?_) (fun c=>?_)
 ·have c':t'-t<0:=of_decide_eq_true c
  walk_at "o"
 ·walk_at "v"
  refine r_I (mulOk zb zs (by walk_at "o")) ?_
  walk_at "v"
  refine r_new (mk:=.tup) (by simp) fun y H2 s2 n2 e2=>?_
  have q2:=hq.div (s:=t'-t) (by walk_at "o")
  rw [Rat.intCast_sub] at q2
  exact k y H2 (s1.trans s2) ⟨_,_,e2,q2,za.mono (by walk_at "o"),(zb.mul zs).mono (by walk_at "o")⟩
theorem sc_good_behind:FnScope ["samples","first","bound","start","found","gentlest","steepest","place","moment","value","steep","gentle","steeper"] ["samples","first","bound"] (defScope s_good_behind):=⟨rfl,rfl,rfl,by decide +kernel,rfl,by decide +kernel,by decide +kernel⟩
theorem ok_good_behind (F:Fun K "good_behind" "good_behind" s_good_behind f fd) (T:Txt mg) (D_order:Dn P w K mg base 1 "order" ["one","other"] spOrderQ) (D_loose_plus:Dn P w K mg base 1 "loose_plus" ["one","other"] (spTwo (·+·) 1)) (D_loose_minus:Dn P w K mg base 1 "loose_minus" ["one","other"] (spTwo (·-·) 1))
 (D_loose_slopeQ:Dn P w K mg base 3 "loose_slope" ["one","other"] spLslopeQ) (D_greatest:Dn P w K mg base 2 "greatest" ["quotients"] spGreat) (D_smallest:Dn P w K mg base 2 "smallest" ["quotients"] spSmall):FnOk P w K mg base CX0 4 f fd ["samples","first","bound"] spGoodB:=by
 refine F.ok sc_good_behind (fun vs H Q E h=>?_) (fun cdv A outer s H vs Q E hr h=>?_)
 ·obtain ⟨l,pb,es,i,n,nb,β,rfl,_⟩:=h
  rfl
 obtain ⟨l,pb,es,i,n,nb,β,rfl,hl,hR,hS,hri,hi,h900,hb,hn,hnb,k⟩:=h
 obtain ⟨xi,gi,fi⟩:=sa_at hR hS hi
 refine J.q ⟨_,(J.f (J.i (i:=3) sc_good_behind.nd rfl (Or.inl rfl) (J.e (ixL K) (J.a 0) (J.a 1) (fun _ _=>rfl)) (hs:=sw_S))
  (J.f (J.i (i:=4) sc_good_behind.nd rfl (Or.inl rfl) (J.s J.d) (hs:=sw_L))
  (J.f (J.i (i:=5) sc_good_behind.nd rfl (Or.inl rfl) J.u (hs:=sw_C))
  (J.f (J.i (i:=6) sc_good_behind.nd rfl (Or.inl rfl) J.u (hs:=sw_C))
  (J.f (J.t PassesOwn.never rfl (J.ap rfl T.range (J.b (J.g op_add (J.a 1) J.c) (J.b (J.p (lenC K) rfl T.len_ PySem.boot_len (J.b (J.a 0) J.d st_N) (he:=st_N) (hpl:=any0)) J.d st_K) st_B)) (J.n (i:=7) sc_good_behind.nd rfl (Or.inl rfl))
  (J.f (J.i (i:=8) sc_good_behind.nd rfl (Or.inl rfl) (J.e (ixT K) (J.e (ixL K) (J.a 0) (J.a 7) (fun _ _=>rfl)) J.c (fun _ _=>rfl)) (hs:=sw_S))
  (J.f (J.i (i:=9) sc_good_behind.nd rfl (Or.inl rfl) (J.e (ixT K) (J.e (ixL K) (J.a 0) (J.a 7) (fun _ _=>rfl)) J.c (fun _ _=>rfl)) (hs:=sw_S))
  (J.f (J.i (i:=10) sc_good_behind.nd rfl (Or.inl rfl) (J.l D_loose_slopeQ (hr.mono (by decide)) rfl (J.b (J.a 3) (J.b (J.e (ixL K) (J.a 0) (J.a 7) (fun _ _=>rfl)) J.d st_S) st_N) (he:=st_N) (hpl:=(anyc st_S any0))) (hs:=sw_K))
  (J.f (J.i (i:=11) sc_good_behind.nd rfl (Or.inl rfl) (J.l D_loose_slopeQ (hr.mono (by decide)) rfl (J.b (J.a 3) (J.b (J.r (J.b (J.a 8) (J.b (J.l D_loose_minus (hr.mono (by decide)) rfl (J.b (J.a 9) (J.b (J.a 2) J.d st_N) st_N) (he:=st_N) (hpl:=(anyc st_N any0))) J.d st_K) st_N)) J.d st_T) st_N) (he:=st_N) (hpl:=(anyc st_T any0))) (hs:=sw_K))
  (J.f (J.i (i:=12) sc_good_behind.nd rfl (Or.inl rfl) (J.l D_loose_slopeQ (hr.mono (by decide)) rfl (J.b (J.a 3) (J.b (J.r (J.b (J.a 8) (J.b (J.l D_loose_plus (hr.mono (by decide)) rfl (J.b (J.a 9) (J.b (J.a 2) J.d st_N) st_N) (he:=st_N) (hpl:=(anyc st_N any0))) J.d st_K) st_N)) J.d st_T) st_N) (he:=st_N) (hpl:=(anyc st_T any0))) (hs:=sw_K))
  (J.f (J.m (J.j op_isN (J.a 5) J.u (nomark _))
  (J.f (J.i (i:=5) sc_good_behind.nd rfl (Or.inl rfl) (J.a 11) (hs:=sw_N))
  (J.f (J.i (i:=6) sc_good_behind.nd rfl (Or.inl rfl) (J.a 12) (hs:=sw_N))
  (J.f (J.x (J.y K (J.a 4) (J.a 7)) (hs:=sw_K))
  (J.h Jd.ps_continue))))
  J.o)
  (J.f (J.m (J.aa (J.am (J.j op_le (J.l D_order (hr.mono (by decide)) rfl (J.b (J.a 5) (J.b (J.a 10) J.d st_N) st_N) (he:=st_N) (hpl:=(anyc st_N any0))) J.c (nomark _)) (J.ao (J.j op_le (J.l D_order (hr.mono (by decide)) rfl (J.b (J.a 10) (J.b (J.a 6) J.d st_N) st_N) (he:=st_N) (hpl:=(anyc st_N any0))) J.c (nomark _)))))
  (J.h (J.x (J.y K (J.a 4) (J.a 7)) (hs:=sw_K)))
  J.o)
  (J.f (J.i (i:=5) sc_good_behind.nd rfl (Or.inl rfl) (J.l D_greatest (hr.mono (by decide)) rfl (J.b (J.s (J.b (J.a 5) (J.b (J.a 11) J.d st_N) st_N)) J.d st_L) (he:=st_L) (hpl:=any0)) (hs:=sw_K))
  (J.h (J.i (i:=6) sc_good_behind.nd rfl (Or.inl rfl) (J.l D_smallest (hr.mono (by decide)) rfl (J.b (J.s (J.b (J.a 6) (J.b (J.a 12) J.d st_N) st_N)) J.d st_L) (he:=st_L) (hpl:=any0)) (hs:=sw_K))))))))))))
  (J.h (J.k (J.a 4)))))))),?_⟩
 walk_at "v"
 refine r_l hl (at_val gi rfl) ?_
 walk_at "v"
 refine r_new (mk:=.lst) (by simp) fun R H1 s1 n1 e1=>?_
 walk_at "v"
 refine r_for (r_rng2 ?_)
 walk_at "v"
 refine r_len (.inl (SqL.of (s1 _ _ hl))) ?_
 rw [vals_len]
 walk_at "v"
 refine ⟨_,_,rfl,⟨by lia,by lia,by lia,by lia⟩,for_range (fun m σ H3=>∃(js:List Nat) (gv sv:V) (v7 v8 v9 v10 v11 v12:Option V),σ=[some (.ref l),some (.int i),some (.ref pb),some (.ref xi.1),some (.ref R),some gv,some sv,v7,v8,v9,v10,v11,v12] ∧
  Same H H3∧H3 R=some (.lst (natsV js))∧js.length≤m∧(∀j,j∈js↔i<j∧j<i+1+m∧Good es β i j)∧((m=0∧gv=.non)∨(0<m∧∃(pg ps:Addr) (G S:Rat),gv=.ref pg∧sv=.ref ps∧QtAt H3 pg G (3*n+nb+3)∧QtAt H3 ps S (3*n+nb+3) ∧
   (∀k,i<k→k<i+1+m→lowS es β i k≤G∧S≤highS es β i k)∧(∃k,i<k∧k<i+1+m∧lowS es β i k=G)∧∃k,i<k∧k<i+1+m∧highS es β i k=S))) ?_ ?_ ?_⟩
 ·exact ⟨[],.non,.non,none,none,none,none,none,none,rfl,s1,e1,Nat.zero_le _,fun j=>⟨fun z=>absurd z (by simp),fun z=>absurd z (by walk_at "o")⟩,.inl ⟨rfl,rfl⟩⟩
 ·rintro m σ H3 hm ⟨js,gv,sv,v7,v8,v9,v10,v11,v12,rfl,s3,e3,hlen,hjs,hI⟩
  have hp:i+1+m<es.length:=by walk_at "o"
  obtain ⟨xp,gp,fp⟩:=sa_at (hR.up s3) hS hp
  obtain ⟨vp,ep,fvp,ztp⟩:=id fp
  have ht:=mo_lt hri (show i<i+1+m by walk_at "o") hp
  have hl3:=s3 _ _ hl
  walk_at "v"
  refine r_l hl3 (at_val gp (by walk_at "o")) ?_
  walk_at "v"
  refine r_l hl3 (at_val gp (by walk_at "o")) ?_
  walk_at "v"
  refine r_l hl3 (at_val gp (by walk_at "o")) ?_
  walk_at "v"
  refine ⟨xi.1,xp.1,_,_,_,_,n,n,n,rfl,(fi.up s3).saq,fp.saq,ht,by walk_at "o",fun ps4 H4 s4 f4=>?_⟩
  walk_at "v"
  refine ⟨vp,pb,_,_,n,nb,rfl,(fvp.up s4).qt,hb.up (s3.trans s4),by walk_at "o",fun y5 H5 s5 f5=>?_⟩
  walk_at "v"
  refine r_new (mk:=.tup) (by simp) fun y6 H6 s6 n6 e6=>?_
  have s36:=s4.trans (s5.trans s6)
  refine ⟨xi.1,y6,_,_,_,_,n,n+nb+1,n,rfl,(fi.up (s3.trans s36)).saq,⟨y5,e6,f5.up s6,ztp⟩,ht,by walk_at "o",fun pg7 H7 s7 f7=>?_⟩
  walk_at "v"
  have s37:=s36.trans s7
  refine ⟨vp,pb,_,_,n,nb,rfl,(fvp.up s37).qt,hb.up (s3.trans s37),by walk_at "o",fun y8 H8 s8 f8=>?_⟩
  walk_at "v"
  refine r_new (mk:=.tup) (by simp) fun y9 H9 s9 n9 e9=>?_
  have s39:=s37.trans (s8.trans s9)
  refine ⟨xi.1,y9,_,_,_,_,n,n+nb+1,n,rfl,(fi.up (s3.trans s39)).saq,⟨y8,e9,f8.up s9,ztp⟩,ht,by walk_at "o",fun ps10 H10 s10 f10=>?_⟩
  have s310:=s39.trans s10
  have s710:=s8.trans (s9.trans s10)
  have e10:=s310 _ _ e3
  have lowq:QtAt H10 pg7 (lowS es β i (i+1+m)) (3*n+nb+3):=(f7.up s710).mono (by walk_at "o")
  have highq:QtAt H10 ps10 (highS es β i (i+1+m)) (3*n+nb+3):=f10.mono (by walk_at "o")
  have sloq:QtAt H10 ps4 (slo es i (i+1+m)) (3*n+2):=(f4.up ((s5.trans (s6.trans s7)).trans s710)).mono (by walk_at "o")
  have spot:((i:Int)+1+(m:Int))=((i+1+m:Nat):Int):=by walk_at "o"
  walk_at "v"
  rcases hI with ⟨rfl,rfl⟩ | ⟨hm0,pg,ps,G,S,rfl,rfl,hG,hS2,hall,hexG,hexS⟩
  ·refine ⟨rfl,?_⟩
   walk_at "v"
   refine iteT ?_
   walk_at "v"
   refine ⟨.inl ⟨rfl,_,SqL.of e10⟩,?_⟩
   walk_at "v"
   rw [spot]
   refine r_app e10 (by rw [natsV_len];exact small1000 (by walk_at "o")) ?_
   walk_at "v"
   refine ⟨js++[i+1+0],_,_,_,_,_,_,_,_,rfl,same_at (s3.trans s310) n1,by rw [upd_same,← natsV_snoc],by rw [List.length_append];show js.length+1≤1;walk_at "o",fun j=>?_,.inr ⟨by walk_at "o",pg7,ps10,_,_,rfl,rfl,lowq.app e10,highq.app e10,fun k h1 h2=>?_,⟨i+1+0,by walk_at "o",by walk_at "o",rfl⟩,⟨i+1+0,by walk_at "o",by walk_at "o",rfl⟩⟩⟩
   ·have hj0:js=[]:=List.length_eq_zero_iff.mp (by walk_at "o")
    rw [hj0]
    constructor
    ·intro z
     obtain rfl:j=i+1+0:=by simpa using z
     exact ⟨by walk_at "o",by walk_at "o",fun k h1 h2=>by walk_at "o"⟩
    ·rintro ⟨h1,h2,_⟩
     have:j=i+1+0:=by walk_at "o"
     simp [this]
   ·obtain rfl:k=i+1+0:=by walk_at "o"
    exact ⟨Rat.le_refl,Rat.le_refl⟩
  ·refine ⟨rfl,?_⟩
   walk_at "v"
   refine iteF ?_
   walk_at "v"
   refine ⟨pg,ps4,_,_,_,_,rfl,hG.up s310,sloq,by walk_at "o",fun o ho1 ho2=>?_⟩
   have hgood:∀{P:Prop},(G≤slo es i (i+1+m)∧slo es i (i+1+m)≤S)=P→(Good es β i (i+1+m)↔P):=fun e=>by
    rw [← e]
    constructor
    ·intro g
     obtain ⟨k1,a1,b1,c1⟩:=hexG
     obtain ⟨k2,a2,b2,c2⟩:=hexS
     exact ⟨by rw [← c1];exact ((good_iff hri a1 b1 hp).mp (g k1 a1 b1)).1,by rw [← c2];exact ((good_iff hri a2 b2 hp).mp (g k2 a2 b2)).2⟩
    ·rintro ⟨g1,g2⟩ k h1 h2
     obtain ⟨l1,l2⟩:=hall k h1 h2
     exact (good_iff hri h1 h2 hp).mpr ⟨by grind,by grind⟩
      -- the end of the turn: the list js' stands at R in H11
   have fin:∀(js':List Nat) (H11 H12:Hp) (pg' ps':Addr) (G' S':Rat) (v7 v8 v9 v10 v11 v12:Option V),Same H H12→H12 R=some (.lst (natsV js'))→js'.length≤m+1→(∀j,j∈js'↔i<j∧j<i+1+(m+1)∧Good es β i j) →
    QtAt H12 pg' G' (3*n+nb+3)→QtAt H12 ps' S' (3*n+nb+3)→(G'=G∧lowS es β i (i+1+m)≤G∨G'=lowS es β i (i+1+m)∧G≤lowS es β i (i+1+m))→(S'=S∧S≤highS es β i (i+1+m)∨S'=highS es β i (i+1+m)∧highS es β i (i+1+m)≤S) →
    ∃(js:List Nat) (gv sv:V) (w7 w8 w9 w10 w11 w12:Option V),[some (.ref l),some (.int (i:Int)),some (.ref pb),some (.ref xi.1),some (.ref R),some (.ref pg'),some (.ref ps'),v7,v8,v9,v10,v11,v12]=[some (.ref l),some (.int (i:Int)),some (.ref pb),some (.ref xi.1),some (.ref R),some gv,some sv,w7,w8,w9,w10,w11,w12] ∧
    Same H H12∧H12 R=some (.lst (natsV js))∧js.length≤m+1∧(∀j,j∈js↔i<j∧j<i+1+(m+1)∧Good es β i j)∧((m+1=0∧gv=.non)∨(0<m+1∧∃(pg ps:Addr) (G S:Rat),gv=.ref pg∧sv=.ref ps∧QtAt H12 pg G (3*n+nb+3)∧QtAt H12 ps S (3*n+nb+3) ∧
     (∀k,i<k→k<i+1+(m+1)→lowS es β i k≤G∧S≤highS es β i k)∧(∃k,i<k∧k<i+1+(m+1)∧lowS es β i k=G)∧∃k,i<k∧k<i+1+(m+1)∧highS es β i k=S)):=by
    intro js' H11 H12 pg' ps' G' S' v7 v8 v9 v10 v11 v12 sH eR12 hl' hjs' qG qS hG' hS'
    refine ⟨js',_,_,v7,v8,v9,v10,v11,v12,rfl,sH,eR12,hl',hjs',.inr ⟨by walk_at "o",pg',ps',G',S',rfl,rfl,qG,qS,fun k h1 h2=>?_,?_,?_⟩⟩
    ·by_cases hk:k=i+1+m
     ·subst hk
      exact ⟨by rcases hG' with ⟨a,b⟩ | ⟨a,b⟩ <;> grind,by rcases hS' with ⟨a,b⟩ | ⟨a,b⟩ <;> grind⟩
     ·obtain ⟨l1,l2⟩:=hall k h1 (by walk_at "o")
      exact ⟨by rcases hG' with ⟨a,b⟩ | ⟨a,b⟩ <;> grind,by rcases hS' with ⟨a,b⟩ | ⟨a,b⟩ <;> grind⟩
    ·rcases hG' with ⟨a,b⟩ | ⟨a,b⟩
     ·obtain ⟨k1,a1,b1,c1⟩:=hexG
      exact ⟨k1,a1,by walk_at "o",by rw [c1,a]⟩
     ·exact ⟨i+1+m,by walk_at "o",by walk_at "o",a.symm⟩
    ·rcases hS' with ⟨a,b⟩ | ⟨a,b⟩
     ·obtain ⟨k1,a1,b1,c1⟩:=hexS
      exact ⟨k1,a1,by walk_at "o",by rw [c1,a]⟩
     ·exact ⟨i+1+m,by walk_at "o",by walk_at "o",a.symm⟩
   have keep:¬Good es β i (i+1+m)→∀j,j∈js↔i<j∧j<i+1+(m+1)∧Good es β i j:=fun ng j=>by
    rw [hjs j]
    constructor
    ·rintro ⟨a,b,c⟩
     exact ⟨a,by walk_at "o",c⟩
    ·rintro ⟨a,b,c⟩
     refine ⟨a,?_,c⟩
     by_cases hj:j=i+1+m
     ·subst hj
      exact absurd c ng
     ·walk_at "o"
   have more:Good es β i (i+1+m)→∀j,j∈js++[i+1+m]↔i<j∧j<i+1+(m+1)∧Good es β i j:=fun g j=>by
    rw [List.mem_append,hjs j,List.mem_singleton]
    constructor
    ·rintro (⟨a,b,c⟩ | rfl)
     ·exact ⟨a,by walk_at "o",c⟩
     ·exact ⟨by walk_at "o",by walk_at "o",g⟩
    ·rintro ⟨a,b,c⟩
     by_cases hj:j=i+1+m
     ·exact .inr hj
     ·exact .inl ⟨a,by walk_at "o",c⟩
      -- greatest and smallest of two
   walk_at "v"
   refine ite2 (fun c1=>?_) (fun c1=>?_)
   ·have c1':G≤slo es i (i+1+m):=Rat.not_lt.mp fun z=>by
     have:=ho1.mpr z
     have:=of_decide_eq_true c1
     walk_at "o"
    walk_at "v"
    refine ⟨ps4,ps,_,_,_,_,rfl,sloq,hS2.up s310,by walk_at "o",fun o2 ho3 ho4=>?_⟩
    walk_at "v"
    refine ite2 (fun c2=>?_) (fun c2=>?_)
    ·have c2':slo es i (i+1+m)≤S:=Rat.not_lt.mp fun z=>by
      have:=ho3.mpr z
      have:=of_decide_eq_true c2
      walk_at "o"
     walk_at "v"
     refine ⟨.inl ⟨rfl,_,SqL.of e10⟩,?_⟩
     walk_at "v"
     rw [spot]
     refine r_app e10 (by rw [natsV_len];exact small1000 (by walk_at "o")) ?_
     generalize hH11:upd H10 R (.lst (natsV js++[.int ((i+1+m:Nat):Int)]))=H11
     have e11:H11 R=some (.lst (natsV (js++[i+1+m]))):=by rw [← hH11,upd_same,natsV_snoc]
     have s011:Same H H11:=by rw [← hH11];exact same_at (s3.trans s310) n1
     have lq:∀{p:Addr} {q:Rat},QtAt H10 p q (3*n+nb+3)→QtAt H11 p q (3*n+nb+3):=fun f=>by rw [← hH11];exact f.app e10
     have g:=(hgood rfl).mpr ⟨c1',c2'⟩
     walk_at "v"
     refine r_new (mk:=.lst) (by simp) fun l12 H12 s12 n12 e12=>?_
     walk_at "v"
     refine ⟨l12,[(pg,G),(pg7,lowS es β i (i+1+m))],3*n+nb+3,rfl,e12,fun x hx=>?_,by walk_at "o",Nat.succ_pos _,fun x hx hmax=>?_⟩
     ·rcases (show x=(pg,G)∨x=(pg7,lowS es β i (i+1+m)) by simpa using hx) with rfl | rfl
      ·exact (lq (hG.up s310)).up s12
      ·exact (lq lowq).up s12
     walk_at "v"
     refine r_new (mk:=.lst) (by simp) fun l13 H13 s13 n13 e13=>?_
     walk_at "v"
     refine ⟨l13,[(ps,S),(ps10,highS es β i (i+1+m))],3*n+nb+3,rfl,e13,fun y hy=>?_,by walk_at "o",Nat.succ_pos _,fun y hy hmin=>?_⟩
     ·rcases (show y=(ps,S)∨y=(ps10,highS es β i (i+1+m)) by simpa using hy) with rfl | rfl
      ·exact (lq (hS2.up s310)).up (s12.trans s13)
      ·exact (lq highq).up (s12.trans s13)
     walk_at "v"
     have qx:QtAt H13 x.1 x.2 (3*n+nb+3)∧(x.2=G∧lowS es β i (i+1+m)≤G∨x.2=lowS es β i (i+1+m)∧G≤lowS es β i (i+1+m)):=by
      rcases (show x=(pg,G)∨x=(pg7,lowS es β i (i+1+m)) by simpa using hx) with rfl | rfl
      ·exact ⟨(lq (hG.up s310)).up (s12.trans s13),.inl ⟨rfl,hmax (pg7,lowS es β i (i+1+m)) (by simp)⟩⟩
      ·exact ⟨(lq lowq).up (s12.trans s13),.inr ⟨rfl,hmax (pg,G) (by simp)⟩⟩
     have qy:QtAt H13 y.1 y.2 (3*n+nb+3)∧(y.2=S∧S≤highS es β i (i+1+m)∨y.2=highS es β i (i+1+m)∧highS es β i (i+1+m)≤S):=by
      rcases (show y=(ps,S)∨y=(ps10,highS es β i (i+1+m)) by simpa using hy) with rfl | rfl
      ·exact ⟨(lq (hS2.up s310)).up (s12.trans s13),.inl ⟨rfl,hmin (ps10,highS es β i (i+1+m)) (by simp)⟩⟩
      ·exact ⟨(lq highq).up (s12.trans s13),.inr ⟨rfl,hmin (ps,S) (by simp)⟩⟩
     exact fin (js++[i+1+m]) H11 H13 x.1 y.1 x.2 y.2 _ _ _ _ _ _ (s011.trans (s12.trans s13)) ((s12.trans s13) _ _ e11) (by rw [List.length_append];show js.length+1≤m+1;walk_at "o") (more g) qx.1 qy.1 qx.2 qy.2
    ·have c2':¬slo es i (i+1+m)≤S:=fun z=>by
      have h1:¬0<o2:=fun q=>by
       have:=ho3.mp q
       grind
      have h2:=of_decide_eq_false (Bool.eq_false_iff.mpr c2)
      walk_at "o"
     have ng:¬Good es β i (i+1+m):=fun g=>c2' ((hgood rfl).mp g).2
     walk_at "v"
     refine r_new (mk:=.lst) (by simp) fun l12 H12 s12 n12 e12=>?_
     walk_at "v"
     refine ⟨l12,[(pg,G),(pg7,lowS es β i (i+1+m))],3*n+nb+3,rfl,e12,fun x hx=>?_,by walk_at "o",Nat.succ_pos _,fun x hx hmax=>?_⟩
     ·rcases (show x=(pg,G)∨x=(pg7,lowS es β i (i+1+m)) by simpa using hx) with rfl | rfl
      ·exact (hG.up s310).up s12
      ·exact lowq.up s12
     walk_at "v"
     refine r_new (mk:=.lst) (by simp) fun l13 H13 s13 n13 e13=>?_
     walk_at "v"
     refine ⟨l13,[(ps,S),(ps10,highS es β i (i+1+m))],3*n+nb+3,rfl,e13,fun y hy=>?_,by walk_at "o",Nat.succ_pos _,fun y hy hmin=>?_⟩
     ·rcases (show y=(ps,S)∨y=(ps10,highS es β i (i+1+m)) by simpa using hy) with rfl | rfl
      ·exact (hS2.up s310).up (s12.trans s13)
      ·exact highq.up (s12.trans s13)
     walk_at "v"
     have qx:QtAt H13 x.1 x.2 (3*n+nb+3)∧(x.2=G∧lowS es β i (i+1+m)≤G∨x.2=lowS es β i (i+1+m)∧G≤lowS es β i (i+1+m)):=by
      rcases (show x=(pg,G)∨x=(pg7,lowS es β i (i+1+m)) by simpa using hx) with rfl | rfl
      ·exact ⟨(hG.up s310).up (s12.trans s13),.inl ⟨rfl,hmax (pg7,lowS es β i (i+1+m)) (by simp)⟩⟩
      ·exact ⟨lowq.up (s12.trans s13),.inr ⟨rfl,hmax (pg,G) (by simp)⟩⟩
     have qy:QtAt H13 y.1 y.2 (3*n+nb+3)∧(y.2=S∧S≤highS es β i (i+1+m)∨y.2=highS es β i (i+1+m)∧highS es β i (i+1+m)≤S):=by
      rcases (show y=(ps,S)∨y=(ps10,highS es β i (i+1+m)) by simpa using hy) with rfl | rfl
      ·exact ⟨(hS2.up s310).up (s12.trans s13),.inl ⟨rfl,hmin (ps10,highS es β i (i+1+m)) (by simp)⟩⟩
      ·exact ⟨highq.up (s12.trans s13),.inr ⟨rfl,hmin (ps,S) (by simp)⟩⟩
     exact fin js H10 H13 x.1 y.1 x.2 y.2 _ _ _ _ _ _ ((s3.trans s310).trans (s12.trans s13)) ((s12.trans s13) _ _ e10) (by walk_at "o") (keep ng) qx.1 qy.1 qx.2 qy.2
   ·have c1':¬G≤slo es i (i+1+m):=fun z=>by
     have h1:¬0<o:=fun q=>by
      have:=ho1.mp q
      grind
     have h2:=of_decide_eq_false (Bool.eq_false_iff.mpr c1)
     walk_at "o"
    have ng:¬Good es β i (i+1+m):=fun g=>c1' ((hgood rfl).mp g).1
    refine iteF ?_
    walk_at "v"
    refine r_new (mk:=.lst) (by simp) fun l12 H12 s12 n12 e12=>?_
    walk_at "v"
    refine ⟨l12,[(pg,G),(pg7,lowS es β i (i+1+m))],3*n+nb+3,rfl,e12,fun x hx=>?_,by walk_at "o",Nat.succ_pos _,fun x hx hmax=>?_⟩
    ·rcases (show x=(pg,G)∨x=(pg7,lowS es β i (i+1+m)) by simpa using hx) with rfl | rfl
     ·exact (hG.up s310).up s12
     ·exact lowq.up s12
    walk_at "v"
    refine r_new (mk:=.lst) (by simp) fun l13 H13 s13 n13 e13=>?_
    walk_at "v"
    refine ⟨l13,[(ps,S),(ps10,highS es β i (i+1+m))],3*n+nb+3,rfl,e13,fun y hy=>?_,by walk_at "o",Nat.succ_pos _,fun y hy hmin=>?_⟩
    ·rcases (show y=(ps,S)∨y=(ps10,highS es β i (i+1+m)) by simpa using hy) with rfl | rfl
     ·exact (hS2.up s310).up (s12.trans s13)
     ·exact highq.up (s12.trans s13)
    walk_at "v"
    have qx:QtAt H13 x.1 x.2 (3*n+nb+3)∧(x.2=G∧lowS es β i (i+1+m)≤G∨x.2=lowS es β i (i+1+m)∧G≤lowS es β i (i+1+m)):=by
     rcases (show x=(pg,G)∨x=(pg7,lowS es β i (i+1+m)) by simpa using hx) with rfl | rfl
     ·exact ⟨(hG.up s310).up (s12.trans s13),.inl ⟨rfl,hmax (pg7,lowS es β i (i+1+m)) (by simp)⟩⟩
     ·exact ⟨lowq.up (s12.trans s13),.inr ⟨rfl,hmax (pg,G) (by simp)⟩⟩
    have qy:QtAt H13 y.1 y.2 (3*n+nb+3)∧(y.2=S∧S≤highS es β i (i+1+m)∨y.2=highS es β i (i+1+m)∧highS es β i (i+1+m)≤S):=by
     rcases (show y=(ps,S)∨y=(ps10,highS es β i (i+1+m)) by simpa using hy) with rfl | rfl
     ·exact ⟨(hS2.up s310).up (s12.trans s13),.inl ⟨rfl,hmin (ps10,highS es β i (i+1+m)) (by simp)⟩⟩
     ·exact ⟨highq.up (s12.trans s13),.inr ⟨rfl,hmin (ps,S) (by simp)⟩⟩
    exact fin js H10 H13 x.1 y.1 x.2 y.2 _ _ _ _ _ _ ((s3.trans s310).trans (s12.trans s13)) ((s12.trans s13) _ _ e10) (by walk_at "o") (keep ng) qx.1 qy.1 qx.2 qy.2
 ·rintro σ H3 ⟨js,gv,sv,v7,v8,v9,v10,v11,v12,rfl,s3,e3,hlen,hjs,hI⟩
  walk_at "v"
  have hjl:js.length≤es.length:=by
   clear hI hjs
   walk_at "o"
  refine k R js H3 s3 n1 e3 hjl fun j=>?_
  rw [hjs j]
  have e:i+1+((es.length:Int)-((i:Int)+1)).toNat=es.length:=by
   clear hI hjs
   walk_at "o"
  rw [e]
theorem sc_leaps:FnScope ["samples","bound","tied","found","first","good"] ["samples","bound","tied"] (defScope s_leaps):=⟨rfl,rfl,rfl,by decide +kernel,rfl,by decide +kernel,by decide +kernel⟩
theorem ok_leaps (F:Fun K "leaps" "leaps" s_leaps f fd) (T:Txt mg) (D_good_behind:Dn P w K mg base 4 "good_behind" ["samples","first","bound"] spGoodB):FnOk P w K mg base CX0 5 f fd ["samples","bound","tied"] spLeaps:=by
 refine F.ok sc_leaps (fun vs H Q E h=>?_) (fun cdv A outer s H vs Q E hr h=>?_)
 ·obtain ⟨l,pb,es,n,nb,β,tied,rfl,_⟩:=h
  rfl
 obtain ⟨l,pb,es,n,nb,β,tied,rfl,hl,hR,hS,hri,h900,hb,hn,hnb,k⟩:=h
 refine J.q ⟨_,(J.f (J.i (i:=3) sc_leaps.nd rfl (Or.inl rfl) (J.s J.d) (hs:=sw_L))
  (J.f (J.t PassesOwn.never rfl (J.al rfl T.range (J.b (J.p (lenC K) rfl T.len_ PySem.boot_len (J.b (J.a 0) J.d st_N) (he:=st_N) (hpl:=any0)) J.d st_K)) (J.n (i:=4) sc_leaps.nd rfl (Or.inl rfl))
  (J.f (J.i (i:=5) sc_leaps.nd rfl (Or.inl rfl) (J.l D_good_behind (hr.mono (by decide)) rfl (J.b (J.a 0) (J.b (J.a 4) (J.b (J.a 1) J.d st_N) st_N) st_N) (he:=st_N) (hpl:=(anyc st_N (anyc st_N any0)))) (hs:=sw_K))
  (J.h (J.x (J.y K (J.a 3) (J.aq (J.ad (J.a 2)) (J.a 5) (J.g op_cat (J.s (J.b (J.g op_add (J.a 4) J.c) J.d st_B)) (Jd.pe_comp (O:=["last"]) (N':=[]) (cap:=[]) rfl (J.w K (J.a 5)) (fun _ _ _ _ _=>(J.n (i:=0) (show List.Nodup [("last":Str)] by decide +kernel) rfl (Or.inl rfl))) (fun _ _ _ _ _=>J.ag) (fun _ _ _ _ _=>(J.g op_add (J.a 0) J.c)) rfl trivial rfl (by decide +kernel) rfl (by decide +kernel))))) (hs:=sw_K)))))
  (J.h (J.k (J.a 3))))),?_⟩
 walk_at "v"
 refine r_new (mk:=.lst) (by simp) fun FF H1 s1 n1 e1=>?_
 walk_at "v"
 refine r_for (r_rng1 ?_)
 walk_at "v"
 refine r_len (.inl (SqL.of (s1 _ _ hl))) ?_
 rw [vals_len]
 walk_at "v"
 refine ⟨_,rfl,by lia,by lia,for_range (fun m σ H3=>∃(rs:List (Addr×List Nat)) (v4 v5:Option V),σ=[some (.ref l),some (.ref pb),some (.bl tied),some (.ref FF),v4,v5]∧Same H H3∧Ls2 H3 FF rs∧rs.length=m∧LeadsAre es β tied rs) ?_ ?_ ?_⟩
 ·exact ⟨[],none,none,rfl,s1,⟨e1,fun x hx=>absurd hx (by simp)⟩,rfl,fun i x hx=>by simp at hx⟩
 ·rintro m σ H3 hm ⟨rs,v4,v5,rfl,s3,hL,hlen,hle⟩
  have hm':m<es.length:=by walk_at "o"
  rw [show (0:Int)+(m:Int)=(m:Int) by walk_at "o"]
  walk_at "v"
  refine ⟨l,pb,es,m,n,nb,β,rfl,s3 _ _ hl,hR.up s3,hS,hri,hm',h900,hb.up s3,hn,hnb,fun R js H4 s4 nR eR hjl hjs=>?_⟩
  have hL4:=hL.up s4
  have nRF:R≠FF:=fun z=>by
   rw [z,hL.at_] at nR
   cases nR
  have small:(rs.map fun x=>V.ref x.1).length<sizeLine:=by rw [List.length_map];exact small1000 (by walk_at "o")
    -- one list more
  have fin:∀(R':Addr) (js':List Nat) (H5:Hp) (v4 v5:Option V),Same H4 H5→H5 R'=some (.lst (natsV js'))→R'≠FF→js'.length≤es.length+1→(∀j,j∈js'↔Lead es β tied m j) →
   ∃(rs':List (Addr×List Nat)) (w4 w5:Option V),[some (.ref l),some (.ref pb),some (.bl tied),some (.ref FF),v4,v5]=[some (.ref l),some (.ref pb),some (.bl tied),some (.ref FF),w4,w5]∧Same H (upd H5 FF (.lst (rs.map (fun x=>V.ref x.1)++[.ref R'])))∧Ls2 (upd H5 FF (.lst (rs.map (fun x=>V.ref x.1)++[.ref R']))) FF rs'∧rs'.length=m+1∧LeadsAre es β tied rs':=by
   intro R' js' H5 v4 v5 s5 eR' nR' hl' hj'
   refine ⟨rs++[(R',js')],v4,v5,rfl,same_at ((s3.trans s4).trans s5) n1,(hL4.up s5).push eR' nR',by rw [List.length_append,hlen];rfl,fun i x hx=>?_⟩
   by_cases hi:i<rs.length
   ·rw [List.getElem?_append_left hi] at hx
    exact hle i x hx
   ·rw [List.getElem?_append_right (by walk_at "o")] at hx
    have hi2:i-rs.length=0:=by
     have:=(List.getElem?_eq_some_iff.mp hx).1
     simp at this
     walk_at "o"
    rw [hi2] at hx
    obtain rfl:(R',js')=x:=by simpa using hx
    have:i=m:=by walk_at "o"
    subst this
    exact ⟨hl',hj'⟩
  walk_at "v"
  refine ⟨.inl ⟨rfl,_,SqL.of hL4.at_⟩,?_⟩
  walk_at "v"
  cases tied with
  | true=>
    refine iteT ?_
    walk_at "v"
    refine r_app hL4.at_ small ?_
    exact fin R js H4 _ _ (Same.refl _) eR nRF (by walk_at "o") fun j=>by
     unfold Lead
     rw [if_pos rfl]
     exact hjs j
  | false=>
    refine iteF ?_
    walk_at "v"
    refine r_new (mk:=.lst) (by simp) fun l5 H5 s5 n5 e5=>?_
    walk_at "v"
    refine r_iL ?_
    walk_at "v"
    refine ⟨R,rfl,⟨_,SqL.of (s5 _ _ eR)⟩,?_⟩
    refine compB_of (xs:=natsV js) tells_list (fun H6 s6=>SqL.of (s6 _ _ (s5 _ _ eR))) (by rw [natsV_len];walk_at "o") (fun i ys G=>ys=natsV ((js.take i).map (·+1))) rfl ?_ ?_
    ·rintro D i x ys H6 σ0 N N0 h0 hD eD s6 hx hy rfl kY kN
     obtain ⟨j,gj,rfl⟩:=natsV_at hx
     have tk:js.take (i+1)=js.take i++[j]:=by rw [List.take_add_one,gj];rfl
     refine r_own1 h0 ?_
     walk_at "v"
     refine iteT ?_
     walk_at "v"
     refine kY _ H6 (Same.refl _) ?_
     rw [tk,List.map_append]
     exact natsV_snoc _ (j+1)
    ·rintro D ys H6 hD eD s6 hy rfl
     rw [natsV_len,List.take_length] at eD
     refine r_cat (s6 _ _ e5) eD ?_
     refine r_new (mk:=.lst) (by rw [List.length_append,natsV_len,List.length_map];simp;walk_at "o") fun R7 H7 s7 n7 e7=>?_
     have s47:=s5.trans (s6.trans s7)
     have e7':H7 R7=some (.lst (natsV ((m+1)::js.map (·+1)))):=e7
     walk_at "v"
     refine r_app (hL4.up s47).at_ small ?_
     refine fin R7 ((m+1)::js.map (·+1)) H7 _ _ s47 e7' (fun z=>?_) (by simp;walk_at "o") fun j=>?_
     ·rw [z,((hL4.up s5).up s6).at_] at n7
      cases n7
     ·unfold Lead
      rw [if_neg Bool.false_ne_true,List.mem_cons,List.mem_map]
      constructor
      ·rintro (rfl | ⟨j',hj',rfl⟩)
       ·exact ⟨hm',.inl rfl⟩
       ·obtain ⟨a,b,c⟩:=(hjs j').mp hj'
        exact ⟨hm',.inr ⟨by walk_at "o",by walk_at "o",c⟩⟩
      ·rintro ⟨_,rfl | ⟨a,b,c⟩⟩
       ·exact .inl rfl
       ·exact .inr ⟨j-1,(hjs (j-1)).mpr ⟨by walk_at "o",by walk_at "o",c⟩,by walk_at "o"⟩
 ·rintro σ H3 ⟨rs,v4,v5,rfl,s3,hL,hlen,hle⟩
  walk_at "v"
  exact k FF rs H3 s3 n1 hL (by walk_at "o") hle
theorem told0 (N:Nat) (h:1≤N):[V.int 0]++(List.replicate ((N:Int)-1).toNat [V.int (N:Int)]).flatten=intsV N (fun j=>if j=0 then 0 else (N:Int)):=by
 obtain ⟨m,rfl⟩:∃m,N=m+1:=⟨N-1,by walk_at "o"⟩
 have e:(((m+1:Nat):Int)-1).toNat=m:=by walk_at "o"
 rw [e]
 unfold intsV
 apply List.ext_getElem?
 intro i
 by_cases hi:i<m+1
 ·rw [map_range_at hi]
  cases i with
  | zero=>rfl
  | succ i=>
    show ((List.replicate m [V.int ((m+1:Nat):Int)]).flatten)[i]?=_
    rw [show (List.replicate m [V.int ((m+1:Nat):Int)]).flatten=List.replicate m (V.int ((m+1:Nat):Int)) from List.flatten_replicate_singleton]
    rw [List.getElem?_replicate,if_pos (by walk_at "o")]
    rfl
 ·rw [List.getElem?_eq_none (by rw [List.length_append,len_rep];simp;walk_at "o"),List.getElem?_eq_none (by simp;walk_at "o")]
theorem sc_labels_by:FnScope ["found","many","told","first","behind","last"] ["found","many"] (defScope s_labels_by):=⟨rfl,rfl,rfl,by decide +kernel,rfl,by decide +kernel,by decide +kernel⟩
theorem ok_labels_by (F:Fun K "labels_by" "labels_by" s_labels_by f fd) (T:Txt mg):FnOk P w K mg base CX0 1 f fd ["found","many"] spLabBy:=by
 refine F.ok sc_labels_by (fun vs H Q E h=>?_) (fun cdv A outer s H vs Q E hr h=>?_)
 ·obtain ⟨FF,rs,N,L,rfl,_⟩:=h
  rfl
 obtain ⟨FF,rs,N,L,rfl,hF,h1,h900,hNr,hrN,hrs,hLlt,hs,k⟩:=h
 refine J.q ⟨_,(J.f (J.i (i:=2) sc_labels_by.nd rfl (Or.inl rfl) (J.g op_cat (J.s (J.b J.c J.d st_C)) (J.g op_rep (J.s (J.b (J.a 1) J.d st_N)) (J.g op_sub (J.a 1) J.c))) (hs:=sw_B))
  (J.f (J.t PassesOwn.never rfl (Jd.pi_enum K rfl T.enumerate_ (J.b (J.a 0) J.d st_N)) (Jd.pgT K (n:=2) rfl (J.v (J.n (i:=3) sc_labels_by.nd rfl (Or.inl rfl)) (J.v (J.n (i:=4) sc_labels_by.nd rfl (Or.inl rfl)) J.ae)))
  (J.h (J.t PassesOwn.never rfl (J.w K (J.a 4)) (J.n (i:=5) sc_labels_by.nd rfl (Or.inl rfl))
  (J.h (J.ah (J.p (minC rfl) rfl T.min_ PyProof.Rows.boot_min (J.b (J.e (ixL K) (J.a 2) (J.a 5) (fun _ _=>rfl)) (J.b (J.g op_add (J.e (ixL K) (J.a 2) (J.a 3) (fun _ _=>rfl)) J.c) J.d st_B) st_S) (he:=st_S) (hpl:=(anyc st_B any0))) (Jd.pg_sub (J.a 2) (J.a 5) set_list))))))
  (J.h (J.k (J.a 2))))),?_⟩
 walk_at "v"
 refine r_new (mk:=.lst) (by simp) fun l1 H1 s1 n1 e1=>?_
 walk_at "v"
 refine r_new (mk:=.lst) (by simp) fun l2 H2 s2 n2 e2=>?_
 walk_at "v"
 refine r_rep e2 (by omega) (by omega) ?_
 refine r_new (mk:=.lst) (by rw [len_rep];simp;walk_at "o") fun l3 H3 s3 n3 e3=>?_
 walk_at "v"
 refine r_cat (s3 _ _ (s2 _ _ e1)) e3 ?_
 refine r_new (mk:=.lst) (by rw [List.length_append,len_rep];simp;walk_at "o") fun R H4 s4 n4 e4=>?_
 rw [told0 N h1] at e4
 have s03:=s1.trans (s2.trans s3)
 have nR:H R=none:=s03.free n4
 have s04:=s03.trans s4
 walk_at "v"
 refine r_for (r_enum ?_)
 walk_at "v"
 refine ⟨FF,_,rfl,SqL.of (hF.up s04).at_,for_enum (xs:=rs.map fun x=>V.ref x.1) (fun g σ H5=>∃(t:Nat→Int) (v3 v4 v5:Option V),σ=[some (.ref FF),some (.int (N:Int)),some (.ref R),v3,v4,v5]∧Same H H5∧H5 R=some (.lst (intsV N t))∧FairTo L N g t) ?_ ?_ ?_ ?_⟩
 ·exact ⟨_,none,none,none,rfl,s04,e4,FairTo.start⟩
 ·rintro g σ H5 _ ⟨t,v3,v4,v5,rfl,s5,_⟩
  exact SqL.of (hF.up s5).at_
 ·rintro g v σ H5 p H6 hx ⟨t,v3,v4,v5,rfl,s5,e5,hT⟩ s6 np ep
  rw [List.getElem?_map] at hx
  obtain ⟨x,gx,rfl⟩:=Option.map_eq_some_iff.mp hx
  have hg:g<rs.length:=(List.getElem?_eq_some_iff.mp gx).1
  have hgN:g<N:=by walk_at "o"
  have hx2:=hrs g x gx
  have ex:=(hF.each x (List.mem_of_getElem? gx)).1
  have s06:=s5.trans s6
  have tf0:=hT.lo g hgN
  have tf1:=hT.hi g hgN
  refine r_unpack2 ep ?_
  walk_at "v"
  refine r_for (r_iL ?_)
  walk_at "v"
  refine ⟨x.1,rfl,⟨_,SqL.of (s06 _ _ ex)⟩,for_list (xs:=natsV x.2) (fun m σ H7=>∃(u:Nat→Int) (w5:Option V),σ=[some (.ref FF),some (.int (N:Int)),some (.ref R),some (.int (g:Int)),some (.ref x.1),w5]∧Same H H7∧H7 R=some (.lst (intsV N u)) ∧
   ∀j,j<N→(j∈x.2.take m→u j=if t g+1<t j then t g+1 else t j)∧(j∉x.2.take m→u j=t j)) ?_ ?_ ?_ ?_⟩
  ·exact ⟨t,_,rfl,s06,s6 _ _ e5,fun j _=>⟨fun z=>by simp at z,fun _=>rfl⟩⟩
  ·rintro m σ H7 _ ⟨u,w5,rfl,s7,_⟩
   exact SqL.of (s7 _ _ ex)
  ·rintro m v σ H7 hv ⟨u,w5,rfl,s7,e7,hu⟩
   obtain ⟨j,gj,rfl⟩:=natsV_at hv
   have hj:=(hx2 j).mp (List.mem_of_getElem? gj)
   obtain ⟨hgj,hjN⟩:=hLlt g j hj
   have tk:x.2.take (m+1)=x.2.take m++[j]:=by rw [List.take_add_one,gj];rfl
   have ng:g∉x.2.take m:=fun z=>by
    have:=hLlt g g ((hx2 g).mp (List.mem_of_mem_take z))
    walk_at "o"
   have ug:=(hu g hgN).2 ng
   walk_at "v"
   refine r_asg ?_
   walk_at "v"
   refine r_l e7 (at_intsV hjN rfl) ?_
   walk_at "v"
   refine r_l e7 (at_intsV hgN rfl) ?_
   walk_at "v"
   refine r_setL e7 (j:=j) (by rw [intsV_len];exact ix_nat (by walk_at "o") (by walk_at "o")) ?_
   refine ⟨fun i=>if i=j then (if u g+1<u j then u g+1 else u j) else u i,_,rfl,same_at s7 nR,?_,fun i hi=>?_⟩
   ·rw [upd_same]
    unfold intsV
    rw [map_range_set]
    refine congrArg (fun z=>some (HO.lst z)) (List.map_congr_left fun i _=>?_)
    by_cases e:i=j
    ·simp [e]
    ·simp [e]
   ·rw [tk,ug]
    obtain ⟨hu1,hu2⟩:=hu i hi
    refine ⟨fun z=>?_,fun z=>?_⟩
    ·by_cases e:i=j
     ·subst e
      show (if i=i then _ else _)=_
      rw [if_pos rfl]
      by_cases hm:i∈x.2.take m
      ·rw [hu1 hm]
       by_cases q:t g+1<t i
       ·rw [if_pos q,if_neg (by walk_at "o")]
       ·rw [if_neg q,if_neg q]
      ·rw [hu2 hm]
     ·show (if i=j then _ else _)=_
      rw [if_neg e]
      rcases List.mem_append.mp z with q | q
      ·exact hu1 q
      ·exact absurd (by simpa using q) e
    ·have e:i≠j:=fun q=>z (by rw [q];simp)
     show (if i=j then _ else _)=_
     rw [if_neg e]
     exact hu2 fun q=>z (List.mem_append_left _ q)
  ·rintro σ H7 ⟨u,w5,rfl,s7,e7,hu⟩
   rw [natsV_len,List.take_length] at hu
   refine ⟨u,_,_,_,rfl,s7,e7,hT.step (fun j hj=>(hLlt g j hj).1) (fun j hj=>⟨fun z=>(hu j hj).1 ((hx2 j).mpr z),fun z=>(hu j hj).2 fun q=>z ((hx2 j).mp q)⟩) hgN⟩
 ·rintro σ H5 ⟨t,v3,v4,v5,rfl,s5,e5,hT⟩
  rw [List.length_map] at hT
  walk_at "v"
  exact k R t H5 s5 nR e5 (hT.done hs (by walk_at "o"))
end

noncomputable def shft (tied:Bool):Nat:=if tied=true then 0 else 1
theorem lead_good {es:List En} {β:Rat} {tied:Bool} {k a:Nat} (hk:k<a) (ha:a<es.length+shft tied):Lead es β tied k a↔Good es β k (a-shft tied):=by
 unfold Lead shft at *
 cases tied with
 | true=>
   rw [if_pos rfl] at ha ⊢
   rw [if_pos rfl]
   exact ⟨fun z=>z.2.2,fun z=>⟨hk,by walk_at "o",z⟩⟩
 | false=>
   rw [if_neg Bool.false_ne_true] at ha ⊢
   rw [if_neg Bool.false_ne_true]
   constructor
   ·rintro ⟨_,rfl | ⟨_,_,g⟩⟩
    ·exact fun k' h1 h2=>by walk_at "o"
    ·exact g
   ·intro g
    refine ⟨by walk_at "o",?_⟩
    by_cases e:a=k+1
    ·exact .inl e
    ·exact .inr ⟨by walk_at "o",by walk_at "o",g⟩
section
variable {P:Program} {w:World} {K:PySem.W.Frag} {mg:Str→Option Value} {base:Heap} {f:Addr} {fd:FuncData}
end

noncomputable def jin {α:Type} (c:Nat→Nat→Bool) (v:Nat→Nat→α) (i m:Nat):List α:=((List.range m).filter fun q=>c i (i+1+q)).map fun q=>v i (i+1+q)
noncomputable def jout {α:Type} (c:Nat→Nat→Bool) (v:Nat→Nat→α) (N n:Nat):List α:=(List.range n).flatMap fun i=>jin c v i (N-(i+1))
theorem jin_succ {α:Type} (c:Nat→Nat→Bool) (v:Nat→Nat→α) (i m:Nat):jin c v i (m+1)=jin c v i m++(if c i (i+1+m)=true then [v i (i+1+m)] else []):=by
 unfold jin
 rw [List.range_succ,List.filter_append,List.map_append]
 congr 1
 by_cases h:c i (i+1+m)=true
 ·simp [h]
 ·simp [h]
theorem jout_succ {α:Type} (c:Nat→Nat→Bool) (v:Nat→Nat→α) (N n:Nat):jout c v N (n+1)=jout c v N n++jin c v n (N-(n+1)):=by
 unfold jout
 rw [List.range_succ,List.flatMap_append]
 simp
theorem jin_len {α:Type} (c:Nat→Nat→Bool) (v:Nat→Nat→α) (i m:Nat):(jin c v i m).length≤m:=by
 unfold jin
 rw [List.length_map]
 exact Nat.le_trans (List.length_filter_le ..) (by simp)
theorem jout_len {α:Type} (c:Nat→Nat→Bool) (v:Nat→Nat→α) (N:Nat):∀n,(jout c v N n).length≤n*N
 | 0=>by simp [jout]
 | n+1=>by
   rw [jout_succ,List.length_append]
   have h1:=jout_len c v N n
   have h2:=jin_len c v n (N-(n+1))
   have e:(n+1)*N=n*N+N:=by rw [Nat.add_mul,Nat.one_mul]
   walk_at "o"
theorem mem_jin {α:Type} {c:Nat→Nat→Bool} {v:Nat→Nat→α} {i m:Nat} {x:α} (h:x∈jin c v i m):∃j,i<j∧j<i+1+m∧c i j=true∧x=v i j:=by
 unfold jin at h
 obtain ⟨q,hq,rfl⟩:=List.mem_map.mp h
 obtain ⟨h1,h2⟩:=List.mem_filter.mp hq
 have:=List.mem_range.mp h1
 exact ⟨i+1+q,by walk_at "o",by walk_at "o",h2,rfl⟩
theorem mem_jout {α:Type} {c:Nat→Nat→Bool} {v:Nat→Nat→α} {N n:Nat} {x:α} (h:x∈jout c v N n):∃i j,i<n∧i<j∧j<N∧c i j=true∧x=v i j:=by
 unfold jout at h
 obtain ⟨i,hi,hx⟩:=List.mem_flatMap.mp h
 obtain ⟨j,h1,h2,h3,h4⟩:=mem_jin hx
 have:=List.mem_range.mp hi
 exact ⟨i,j,this,h1,by walk_at "o",h3,h4⟩
open Classical in
noncomputable def farOf (s:Nat→Rat) (i j:Nat):Nat:=if h:∃k,FarTo s i j k then Classical.choose h else 0
theorem farOf_eq {s:Nat→Rat} {i j k:Nat} (h:FarTo s i j k):farOf s i j=k:=by
 unfold farOf
 rw [dif_pos ⟨k,h⟩]
 exact (Classical.choose_spec (⟨k,h⟩:∃k,FarTo s i j k)).unique h
noncomputable def jmp (t:Nat→Int) (i j:Nat):Bool:=decide (t j>t i+1)
noncomputable def three (es:List En) (sh i j:Nat):Int×Int×Int:=(mo es i,mo es (farOf (fun k=>rabs (sd es i k (j-sh))) i (j-sh)),mo es (j-sh))
noncomputable abbrev Th:=Addr×Int×Int×Int
noncomputable def ThAt (H:Hp) (x:Th):Prop:=H x.1=some (.tup [.int x.2.1,.int x.2.2.1,.int x.2.2.2])
noncomputable def threfs (ts:List Th):List V:=ts.map fun x=>V.ref x.1
theorem threfs_snoc (ts:List Th) (x:Th):threfs ts++[.ref x.1]=threfs (ts++[x]):=by simp [threfs]
theorem threfs_len (ts:List Th):(threfs ts).length=ts.length:=List.length_map ..
theorem threfs_at {ts:List Th} {i:Nat} {v:V} (h:(threfs ts)[i]?=some v):∃x,ts[i]?=some x∧v=.ref x.1:=by
 unfold threfs at h
 rw [List.getElem?_map] at h
 cases e:ts[i]? with
 | none=>rw [e] at h;cases h
 | some x=>rw [e] at h;cases h;exact ⟨x,rfl,rfl⟩
noncomputable def AllT (H:Hp) (ts:List Th):Prop:=∀x∈ts,ThAt H x
theorem AllT.up {H H':Hp} {ts:List Th} (h:AllT H ts) (s:Same H H'):AllT H' ts:=fun x hx=>s _ _ (h x hx)
theorem AllT.app {H:Hp} {R:Addr} {ts:List Th} {ys:List V} {o:HO} (f:AllT H ts) (h:H R=some (.lst ys)):AllT (upd H R o) ts:=fun x hx=>(rm_up R H o) _ _ (rm_tup h (f x hx))
theorem AllT.snoc {H:Hp} {ts:List Th} {x:Th} (h:AllT H ts) (hx:ThAt H x):AllT H (ts++[x]):=fun y hy=>by
 rcases List.mem_append.mp hy with z | z
 ·exact h y z
 ·obtain rfl:y=x:=by simpa using z
  exact hx
noncomputable def tdat (v:Int×Int×Int):PyData:=.tuple [.int v.1,.int v.2.1,.int v.2.2]
theorem AllT.dens {H:Hp}:∀{ts:List Th},AllT H ts→Dens H (threfs ts) (ts.map fun x=>tdat x.2)
 | [],_=>.nil
 | x::ts,h=>.cons (.tup (h x List.mem_cons_self) (.cons (.int _) (.cons (.int _) (.cons (.int _) .nil)))) (AllT.dens fun y hy=>h y (List.mem_cons_of_mem _ hy))
theorem tdats_eqv:∀vs:List (Int×Int×Int),PyData.eqvAll (vs.map tdat) (vs.map tdat)=true
 | []=>rfl
 | v::vs=>by
   show (PyData.eqv (tdat v) (tdat v)&&PyData.eqvAll (vs.map tdat) (vs.map tdat))=true
   rw [tdats_eqv vs]
   show ((v.1==v.1&&(v.2.1==v.2.1&&(v.2.2==v.2.2&&true)))&&true)=true
   simp
theorem tdats_shape:∀vs:List (Int×Int×Int),PyData.canLayAll0 (vs.map tdat)=true∧PyData.depthAll (vs.map tdat)≤2
 | []=>⟨rfl,by decide⟩
 | v::vs=>by
   obtain ⟨c,d⟩:=tdats_shape vs
   refine ⟨?_,?_⟩
   ·show ((tdat v).canLay0&&PyData.canLayAll0 (vs.map tdat))=true
    rw [c];rfl
   ·show max (tdat v).depth (PyData.depthAll (vs.map tdat))≤2
    have:(tdat v).depth≤2:=by simp [tdat,PyData.depth,PyData.depthAll]
    walk_at "o"
noncomputable def spBarsBy:Sp:=fun vs H Q _=>∃(l T:Addr) (es:List En) (n:Nat) (β:Rat) (tied:Bool) (t:Nat→Int),vs=[.ref l,.ref T,.bl tied]∧H l=some (.lst (vals es))∧Row H es n∧AllS es∧rising es∧1≤es.length∧es.length≤30∧n≤900∧H T=some (.lst (intsV (es.length+shft tied) t))∧Fair (Lead es β tied) (es.length+shft tied) t ∧
 ∀(R:Addr) (ts:List Th) (H':Hp),Same H H'→H R=none→H' R=some (.lst (threfs ts))→AllT H' ts→ts.map (·.2)=jout (jmp t) (three es (shft tied)) (es.length+shft tied) (es.length+shft tied)→Q (.ref R) H'
theorem jump_far {es:List En} {β:Rat} {tied:Bool} {t:Nat→Int} {i j:Nat} (hF:Fair (Lead es β tied) (es.length+shft tied) t) (hij:i<j) (hj:j<es.length+shft tied) (hjmp:t j>t i+1):i+1<j-shft tied∧j-shft tied<es.length∧∃k,i<k∧k<j-shft tied∧β<rabs (sd es i k (j-shft tied)):=by
 have hsh:shft tied≤1:=by unfold shft;split <;> walk_at "o"
 have nL:¬Lead es β tied i j:=fun z=>by
  have:=hF.le i j hij hj z
  walk_at "o"
 rw [lead_good hij hj] at nL
 have:∃k,i<k∧k<j-shft tied∧β<rabs (sd es i k (j-shft tied)):=by
  apply Classical.byContradiction
  intro z
  apply nL
  intro k h1 h2
  apply Rat.not_lt.mp
  intro q
  exact z ⟨k,h1,h2,q⟩
 obtain ⟨k,h1,h2,h3⟩:=this
 exact ⟨by walk_at "o",by walk_at "o",k,h1,h2,h3⟩
section
variable {P:Program} {w:World} {K:PySem.W.Frag} {mg:Str→Option Value} {base:Heap} {f:Addr} {fd:FuncData}
theorem sc_bars_by:FnScope ["samples","told","tied","found","first","last","end","mid"] ["samples","told","tied"] (defScope s_bars_by):=⟨rfl,rfl,rfl,by decide +kernel,rfl,by decide +kernel,by decide +kernel⟩
theorem ok_bars_by (F:Fun K "bars_by" "bars_by" s_bars_by f fd) (T:Txt mg) (D_loose_farthest:Dn P w K mg base 4 "loose_farthest" ["samples","first","last"] spLfar):FnOk P w K mg base CX0 5 f fd ["samples","told","tied"] spBarsBy:=by
 refine F.ok sc_bars_by (fun vs H Q E h=>?_) (fun cdv A outer s H vs Q E hr h=>?_)
 ·obtain ⟨l,TT,es,n,β,tied,t,rfl,_⟩:=h
  rfl
 obtain ⟨l,TT,es,n,β,tied,t,rfl,hl,hR,hS,hri,h1,h30,hn,eT,hF,k⟩:=h
 have hsh:shft tied≤1:=by unfold shft;split <;> walk_at "o"
 generalize hN:es.length+shft tied=N at *
 refine J.q ⟨_,(J.f (J.i (i:=3) sc_bars_by.nd rfl (Or.inl rfl) (J.s J.d) (hs:=sw_L))
  (J.f (J.t PassesOwn.never rfl (J.al rfl T.range (J.b (J.p (lenC K) rfl T.len_ PySem.boot_len (J.b (J.a 1) J.d st_N) (he:=st_N) (hpl:=any0)) J.d st_K)) (J.n (i:=4) sc_bars_by.nd rfl (Or.inl rfl))
  (J.h (J.t PassesOwn.never rfl (J.ap rfl T.range (J.b (J.g op_add (J.a 4) J.c) (J.b (J.p (lenC K) rfl T.len_ PySem.boot_len (J.b (J.a 1) J.d st_N) (he:=st_N) (hpl:=any0)) J.d st_K) st_B)) (J.n (i:=5) sc_bars_by.nd rfl (Or.inl rfl))
  (J.h (J.m (J.j op_gt (J.e (ixL K) (J.a 1) (J.a 5) (fun _ _=>rfl)) (J.g op_add (J.e (ixL K) (J.a 1) (J.a 4) (fun _ _=>rfl)) J.c) (nomark _))
  (J.f (J.i (i:=6) sc_bars_by.nd rfl (Or.inl rfl) (J.aq (J.ad (J.a 2)) (J.a 5) (J.g op_sub (J.a 5) J.c)) (hs:=sw_I))
  (J.f (J.i (i:=7) sc_bars_by.nd rfl (Or.inl rfl) (J.e (ixT K) (J.l D_loose_farthest (hr.mono (by decide)) rfl (J.b (J.a 0) (J.b (J.a 4) (J.b (J.a 6) J.d st_N) st_N) st_N) (he:=st_N) (hpl:=(anyc st_N (anyc st_N any0)))) J.c (fun _ _=>rfl)) (hs:=sw_S))
  (J.h (J.x (J.y K (J.a 3) (J.r (J.b (J.e (ixT K) (J.e (ixL K) (J.a 0) (J.a 4) (fun _ _=>rfl)) J.c (fun _ _=>rfl)) (J.b (J.e (ixT K) (J.e (ixL K) (J.a 0) (J.a 7) (fun _ _=>rfl)) J.c (fun _ _=>rfl)) (J.b (J.e (ixT K) (J.e (ixL K) (J.a 0) (J.a 6) (fun _ _=>rfl)) J.c (fun _ _=>rfl)) J.d st_S) st_S) st_S))) (hs:=sw_K)))))
  J.o)))))
  (J.h (J.k (J.a 3))))),?_⟩
 walk_at "v"
 refine r_new (mk:=.lst) (by simp) fun R H1 s1 n1 e1=>?_
 walk_at "v"
 refine r_for (r_rng1 ?_)
 walk_at "v"
 refine r_len (.inl (SqL.of (s1 _ _ eT))) ?_
 rw [intsV_len]
 walk_at "v"
 refine ⟨_,rfl,by lia,by lia,for_range (fun i σ H3=>∃(ts:List Th) (v4 v5 v6 v7:Option V),σ=[some (.ref l),some (.ref TT),some (.bl tied),some (.ref R),v4,v5,v6,v7]∧Same H H3∧H3 R=some (.lst (threfs ts))∧AllT H3 ts∧ts.map (·.2)=jout (jmp t) (three es (shft tied)) N i) ?_ ?_ ?_⟩
 ·exact ⟨[],none,none,none,none,rfl,s1,e1,fun x hx=>absurd hx (by simp),rfl⟩
 ·rintro i σ H3 hi ⟨ts,v4,v5,v6,v7,rfl,s3,e3,hts,hmap⟩
  have hi':i<N:=by walk_at "o"
  rw [show (0:Int)+(i:Int)=(i:Int) by walk_at "o"]
  walk_at "v"
  refine r_for (r_rng2 ?_)
  walk_at "v"
  refine r_len (.inl (SqL.of (s3 _ _ eT))) ?_
  rw [intsV_len]
  walk_at "v"
  refine ⟨_,_,rfl,⟨by lia,by lia,by lia,by lia⟩,for_range (fun m σ H4=>∃(us:List Th) (w5 w6 w7:Option V),σ=[some (.ref l),some (.ref TT),some (.bl tied),some (.ref R),some (.int (i:Int)),w5,w6,w7]∧Same H H4∧H4 R=some (.lst (threfs us))∧AllT H4 us∧us.map (·.2)=jout (jmp t) (three es (shft tied)) N i++jin (jmp t) (three es (shft tied)) i m) ?_ ?_ ?_⟩
  ·exact ⟨ts,_,_,_,rfl,s3,e3,hts,by rw [hmap];simp [jin]⟩
  ·rintro m σ H4 hm ⟨us,w5,w6,w7,rfl,s4,e4,hus,humap⟩
   have hp:i+1+m<N:=by walk_at "o"
   rw [show (i:Int)+1+(m:Int)=((i+1+m:Nat):Int) by walk_at "o"]
   have eT4:=s4 _ _ eT
   have hl4:=s4 _ _ hl
   walk_at "v"
   refine r_l eT4 (at_intsV hp rfl) ?_
   walk_at "v"
   refine r_l eT4 (at_intsV hi' rfl) ?_
   walk_at "v"
   refine ite2 (fun c1=>?_) (fun c1=>?_)
   ·have c1':t (i+1+m)>t i+1:=of_decide_eq_true c1
    obtain ⟨q1,q2,_⟩:=jump_far (by rw [hN];exact hF) (show i<i+1+m by walk_at "o") (by rw [hN];exact hp) c1'
    have hlen2:us.length≤950:=by
     have e:=congrArg List.length humap
     rw [List.length_map,List.length_append] at e
     have j1:=jout_len (jmp t) (three es (shft tied)) N i
     have j2:=jin_len (jmp t) (three es (shft tied)) i m
     have:i*N≤29*31:=Nat.mul_le_mul (by walk_at "o") (by walk_at "o")
     walk_at "o"
    have done:∀(a b cc:Int) (y:Addr) (H6:Hp) (w5 w6 w7:Option V),Same H4 H6→H6 y=some (.tup [.int a,.int b,.int cc])→(a,b,cc)=three es (shft tied) i (i+1+m) →
     ∃(us':List Th) (x5 x6 x7:Option V),[some (.ref l),some (.ref TT),some (.bl tied),some (.ref R),some (.int (i:Int)),w5,w6,w7]=[some (.ref l),some (.ref TT),some (.bl tied),some (.ref R),some (.int (i:Int)),x5,x6,x7]∧Same H (upd H6 R (.lst (threfs us++[.ref y])))∧upd H6 R (.lst (threfs us++[.ref y])) R=some (.lst (threfs us'))∧AllT (upd H6 R (.lst (threfs us++[.ref y]))) us'∧us'.map (·.2)=jout (jmp t) (three es (shft tied)) N i++jin (jmp t) (three es (shft tied)) i (m+1):=by
     intro a b cc y H6 w5 w6 w7 s6 ey e3'
     refine ⟨us++[(y,a,b,cc)],w5,w6,w7,rfl,same_at (s4.trans s6) n1,by rw [upd_same];exact congrArg (fun z=>some (HO.lst z)) (threfs_snoc us (y,a,b,cc)),(AllT.snoc (x:=(y,a,b,cc)) (hus.up s6) ey).app (s6 _ _ e4),?_⟩
     rw [List.map_append,humap,jin_succ,if_pos (show jmp t i (i+1+m)=true from decide_eq_true c1'),List.append_assoc]
     congr 2
     show [(a,b,cc)]=_
     rw [e3']
    obtain ⟨xi,gi,vi,ei,_⟩:=sa_at (hR.up s4) hS (show i<es.length by walk_at "o")
    obtain ⟨xj,gj,vj,ej,_⟩:=sa_at (hR.up s4) hS q2
    walk_at "v"
    cases tied with
    | true=>
      refine iteT ?_
      walk_at "v"
      rw [show ((i+1+m:Nat):Int)=((i+1+m-shft true:Nat):Int) from rfl]
      refine ⟨l,es,i,i+1+m-shft true,n,rfl,hl4,hR.up s4,hS,hri,by walk_at "o",q2,by walk_at "o",hn,fun z=>absurd z (by walk_at "o"),fun _ z p kk H5 s5 e5 f5 hfar=>?_⟩
      obtain ⟨xk,gk,vk,ek,_⟩:=sa_at (hR.up (s4.trans s5)) hS (show kk<es.length by have:=hfar.hi;walk_at "o")
      have ei5:=s5 _ _ ei
      have ej5:=s5 _ _ ej
      walk_at "v"
      refine ⟨.inl ⟨rfl,_,SqL.of (s5 _ _ e4)⟩,?_⟩
      walk_at "v"
      refine r_l (s5 _ _ hl4) (at_val gi rfl) ?_
      walk_at "v"
      refine r_l (s5 _ _ hl4) (at_val gk rfl) ?_
      walk_at "v"
      refine r_l (s5 _ _ hl4) (at_val gj rfl) ?_
      walk_at "v"
      refine r_new (mk:=.tup) (by simp) fun y H6 s6 n6 e6=>?_
      walk_at "v"
      refine r_app ((s5.trans s6) _ _ e4) (by rw [threfs_len];exact small1000 (by walk_at "o")) ?_
      refine done _ _ _ y H6 _ _ _ (s5.trans s6) e6 ?_
      unfold three
      rw [farOf_eq hfar]
    | false=>
      refine iteF ?_
      walk_at "v"
      rw [show ((i+1+m:Nat):Int)-1=((i+1+m-shft false:Nat):Int) by (have:shft false=1:=rfl);walk_at "o"]
      refine ⟨l,es,i,i+1+m-shft false,n,rfl,hl4,hR.up s4,hS,hri,by walk_at "o",q2,by walk_at "o",hn,fun z=>absurd z (by walk_at "o"),fun _ z p kk H5 s5 e5 f5 hfar=>?_⟩
      obtain ⟨xk,gk,vk,ek,_⟩:=sa_at (hR.up (s4.trans s5)) hS (show kk<es.length by have:=hfar.hi;walk_at "o")
      have ei5:=s5 _ _ ei
      have ej5:=s5 _ _ ej
      walk_at "v"
      refine ⟨.inl ⟨rfl,_,SqL.of (s5 _ _ e4)⟩,?_⟩
      walk_at "v"
      refine r_l (s5 _ _ hl4) (at_val gi rfl) ?_
      walk_at "v"
      refine r_l (s5 _ _ hl4) (at_val gk rfl) ?_
      walk_at "v"
      refine r_l (s5 _ _ hl4) (at_val gj rfl) ?_
      walk_at "v"
      refine r_new (mk:=.tup) (by simp) fun y H6 s6 n6 e6=>?_
      walk_at "v"
      refine r_app ((s5.trans s6) _ _ e4) (by rw [threfs_len];exact small1000 (by walk_at "o")) ?_
      refine done _ _ _ y H6 _ _ _ (s5.trans s6) e6 ?_
      unfold three
      rw [farOf_eq hfar]
   ·walk_at "v"
    refine ⟨us,_,_,_,rfl,s4,e4,hus,?_⟩
    have c1':¬(jmp t i (i+1+m)=true):=fun z=>c1 z
    rw [humap,jin_succ,if_neg c1',List.append_nil]
  ·rintro σ H4 ⟨us,w5,w6,w7,rfl,s4,e4,hus,humap⟩
   refine ⟨us,_,_,_,_,rfl,s4,e4,hus,?_⟩
   rw [humap,jout_succ]
   congr 2
   walk_at "o"
 ·rintro σ H3 ⟨ts,v4,v5,v6,v7,rfl,s3,e3,hts,hmap⟩
  walk_at "v"
  refine k R ts H3 s3 n1 e3 hts ?_
  rw [hmap]
  congr 1
end

noncomputable def Each2 {α β:Type} (R:α→β→Prop):List α→List β→Prop
 | [],[]=>True
 | a::as,b::bs=>R a b∧Each2 R as bs
 | _,_=>False
theorem each2_snoc {α β:Type} {R:α→β→Prop} {a:α} {b:β}:∀{as:List α} {bs:List β},Each2 R as bs→R a b→Each2 R (as++[a]) (bs++[b])
 | [],[],_,r=>⟨r,trivial⟩
 | _::_,_::_,h,r=>⟨h.1,each2_snoc h.2 r⟩
 | [],_::_,h,_=>h.elim
 | _::_,[],h,_=>h.elim
theorem each2_imp {α β:Type} {R S:α→β→Prop}:∀{as:List α} {bs:List β},(∀a b,a∈as→R a b→S a b)→Each2 R as bs→Each2 S as bs
 | [],[],_,_=>trivial
 | _::_,_::_,u,r=>⟨u _ _ (by simp) r.1,each2_imp (fun a b ha=>u a b (by simp [ha])) r.2⟩
 | [],_::_,_,r=>r.elim
 | _::_,[],_,r=>r.elim
theorem parts_own {α:Type} {s:α→Bool} {es:List α}:∀(i:Nat) (r:List α),r∈parts s es i→r≠[]∧(∀x∈r,s x=true)∧r.Sublist (es.take i)
 | 0,r,h=>absurd h (by simp [parts])
 | i+1,r,h=>by
   have ih:=parts_own (s:=s) (es:=es) i
   have up:∀r:List α,r.Sublist (es.take i)→r.Sublist (es.take (i+1)):=fun r q=>q.trans (List.take_sublist_take_left (Nat.le_succ _))
   unfold parts at h
   cases e:es[i]? with
   | none=>rw [e] at h;exact ⟨(ih r h).1,(ih r h).2.1,up r (ih r h).2.2⟩
   | some y=>
     rw [e] at h
     have tk:es.take (i+1)=es.take i++[y]:=by rw [List.take_add_one,e];rfl
     dsimp only at h
     split at h
     ·rename_i hs
      split at h
      ·rename_i hr
       obtain ⟨t,r',hp⟩:=parts_ne hr
       have hm:r'∈parts s es i:=by rw [hp];simp
       have hgl:(parts s es i).getLast?.getD []=r':=by rw [hp];simp
       rcases List.mem_append.mp h with z | z
       ·have q:=ih r (List.dropLast_sublist _ |>.subset z)
        exact ⟨q.1,q.2.1,up r q.2.2⟩
       ·obtain rfl:r=((parts s es i).getLast?.getD [])++[y]:=by simpa using z
        rw [hgl]
        refine ⟨by simp,fun x hx=>?_,by rw [tk];exact List.Sublist.append (ih r' hm).2.2 (List.Sublist.refl _)⟩
        rcases List.mem_append.mp hx with q | q
        ·exact (ih r' hm).2.1 x q
        ·obtain rfl:x=y:=by simpa using q
         exact hs
      ·rcases List.mem_append.mp h with z | z
       ·exact ⟨(ih r z).1,(ih r z).2.1,up r (ih r z).2.2⟩
       ·obtain rfl:r=[y]:=by simpa using z
        refine ⟨by simp,fun x hx=>?_,by rw [tk];exact List.sublist_append_right _ _⟩
        obtain rfl:x=y:=by simpa using hx
        exact hs
     ·exact ⟨(ih r h).1,(ih r h).2.1,up r (ih r h).2.2⟩
noncomputable abbrev Pc:=Addr×(Rat×Rat×Rat×Rat)
noncomputable def PcAt (H:Hp) (x:Pc) (n:Nat):Prop:=∃a b c d:Addr,H x.1=some (.tup [.ref a,.ref b,.ref c,.ref d])∧FrAt H a x.2.1 n∧FrAt H b x.2.2.1 n∧FrAt H c x.2.2.2.1 n∧FrAt H d x.2.2.2.2 n
theorem PcAt.mv {H H':Hp} {x:Pc} {n:Nat} (t:∀{b:Addr} {xs:List V},H b=some (.tup xs)→H' b=some (.tup xs)) (f:PcAt H x n):PcAt H' x n:=by
 obtain ⟨a,b,c,d,e,f1,f2,f3,f4⟩:=f
 have m:∀{b:Addr} {q:Rat},FrAt H b q n→FrAt H' b q n:=fun f=>let ⟨x,d,e,f⟩:=f;⟨x,d,t e,f⟩
 exact ⟨a,b,c,d,t e,m f1,m f2,m f3,m f4⟩
theorem PcAt.up {H H':Hp} {x:Pc} {n:Nat} (f:PcAt H x n) (s:Same H H'):PcAt H' x n:=f.mv fun e=>s _ _ e
noncomputable def prefs (ps:List Pc):List V:=ps.map fun x=>V.ref x.1
theorem prefs_len (ps:List Pc):(prefs ps).length=ps.length:=List.length_map ..
noncomputable def AllP (H:Hp) (ps:List Pc) (n:Nat):Prop:=∀x∈ps,PcAt H x n
theorem AllP.up {H H':Hp} {ps:List Pc} {n:Nat} (h:AllP H ps n) (s:Same H H'):AllP H' ps n:=fun x hx=>(h x hx).up s
theorem AllP.app {H:Hp} {R:Addr} {ps:List Pc} {n:Nat} {ys:List V} {o:HO} (h:AllP H ps n) (e:H R=some (.lst ys)):AllP (upd H R o) ps n:=fun x hx=>(h x hx).mv fun {b xs} z=>by
 rw [upd_ne (fun q=>by rw [q,e] at z;cases z)]
 exact z
theorem AllP.append {H:Hp} {ps qs:List Pc} {n:Nat} (h:AllP H ps n) (h':AllP H qs n):AllP H (ps++qs) n:=fun x hx=>by
 rcases List.mem_append.mp hx with z | z
 ·exact h x z
 ·exact h' x z
theorem while_of {c:TT} {tb:TS} {D:Ends} {σ:St} {H:Hp} (Pv:St→Hp→Prop) (μ:St→Hp→Nat) (h0:Pv σ H)
 (hs:∀σ H,Pv σ H→∀R:Bool→Hp→Prop,(∀H1,(∀M:St→Hp→Prop,(∀σ' H',Pv σ' H'→μ σ' H'<μ σ H→M σ' H')→tb { D with nx:=M,ct:=M,bk:=D.nx } σ H1)→R true H1)→(∀H1,D.nx σ H1→R false H1)→c σ H R):tWhile c tb D σ H:=by
 refine ⟨fun m σ H=>m=μ σ H∧Pv σ H,⟨_,rfl,h0⟩,?_⟩
 rintro m σ H ⟨rfl,p⟩
 refine hs σ H p _ (fun H1 q=>?_) (fun H1 q=>?_)
 ·rw [if_pos rfl]
  exact ⟨fun σ' H'=>Pv σ' H'∧μ σ' H'<μ σ H,fun σ' H' ⟨p',l⟩=>⟨_,l,rfl,p'⟩,q _ fun _ _ a b=>⟨a,b⟩⟩
 ·rw [if_neg Bool.false_ne_true]
  exact q

noncomputable def First (L:Nat→Nat→Prop) (t:Nat→Int) (a p:Nat):Prop:=a<p∧L a p∧t a+1=t p∧∀k,k<a→¬(L k p∧t k+1=t p)
inductive Way (L:Nat→Nat→Prop) (t:Nat→Int):Nat→List (Nat×Nat)→Prop
 | nil:Way L t 0 []
 | cons {a p:Nat} {ps:List (Nat×Nat)}:First L t a p→Way L t a ps→Way L t p (ps++[(a,p)])
section
variable {L:Nat→Nat→Prop} {t t':Nat→Int} {a b p N:Nat} {ps:List (Nat×Nat)}
theorem Way.lt (h:Way L t p ps):∀x∈ps,x.1<x.2∧x.2≤p:=by
 induction h with
 | nil=>intro x hx;exact absurd hx (by simp)
 | @cons a p ps f w ih=>
   intro x hx
   rcases List.mem_append.mp hx with z | z
   ·have:=ih x z
    have:=f.1
    walk_at "o"
   ·obtain rfl:x=(a,p):=by simpa using z
    exact ⟨f.1,Nat.le_refl _⟩
theorem Way.len (h:Way L t p ps):ps.length≤p:=by
 induction h with
 | nil=>exact Nat.le_refl _
 | cons f w ih=>
   rw [List.length_append,List.length_singleton]
   have:=f.1
   walk_at "o"
theorem fair_eq (h:Fair L N t) (h':Fair L N t'):∀j,j<N→t j=t' j:=by
 intro j
 induction j using Nat.strongRecOn with
 | ind j ih=>
   intro hj
   by_cases h0:j=0
   ·subst h0
    rw [h.first,h'.first]
   ·obtain ⟨i,i1,i2,i3⟩:=h.ex j (by walk_at "o") hj
    obtain ⟨k,k1,k2,k3⟩:=h'.ex j (by walk_at "o") hj
    have a1:=h'.le i j i1 hj i2
    have a2:=h.le k j k1 hj k2
    have b1:=ih i i1 (by walk_at "o")
    have b2:=ih k k1 (by walk_at "o")
    walk_at "o"
end
noncomputable def quad (es:List En) (i j:Nat):Rat×Rat×Rat×Rat:=((mo es i:Rat),wo es i,(mo es j:Rat),wo es j)
noncomputable def Told (es:List En) (β:Rat) (tied:Bool) (l:List (Rat×Rat×Rat×Rat)):Prop:=∃(t:Nat→Int) (ps:List (Nat×Nat)),Fair (Lead es β tied) (es.length+shft tied) t∧Way (Lead es β tied) t (es.length+shft tied-1) ps∧l=(if es.length+shft tied=1 then [(0,0)] else ps).map (fun x=>quad es x.1 (x.2-shft tied))
noncomputable abbrev Pr:=Addr×Nat×Nat
noncomputable def prsV (ps:List Pr):List V:=ps.map fun x=>V.ref x.1
theorem prsV_len (ps:List Pr):(prsV ps).length=ps.length:=List.length_map ..
noncomputable def AllPr (H:Hp) (ps:List Pr):Prop:=∀x∈ps,H x.1=some (.tup [.int (x.2.1:Int),.int (x.2.2:Int)])
theorem filter_first {p a:Nat} {f:Nat→Bool} {r:List Nat} (h:(List.range p).filter f=a::r):f a=true∧a<p∧∀k,k<a→f k=false:=by
 have hm:a∈(List.range p).filter f:=by rw [h];simp
 have hm':=List.mem_filter.mp hm
 have ha:=List.mem_range.mp hm'.1
 refine ⟨hm'.2,ha,fun k hk=>?_⟩
 cases e:f k with
 | false=>rfl
 | true=>
   have hk':k∈(List.range p).filter f:=List.mem_filter.mpr ⟨List.mem_range.mpr (by walk_at "o"),e⟩
   have hp:((List.range p).filter f).Pairwise (·<·):=List.Pairwise.filter _ List.pairwise_lt_range
   rw [h] at hk' hp
   rcases List.mem_cons.mp hk' with z | z
   ·walk_at "o"
   ·have:=(List.pairwise_cons.mp hp).1 k z
    walk_at "o"
open Classical in
noncomputable def goes (L:Nat→Nat→Prop) (t:Nat→Int) (p k:Nat):Bool:=decide (L k p∧t k+1=t p)
theorem inV_nats {j:Nat} {js:List Nat}:inV (.int (j:Int)) (natsV js)=true↔j∈js:=by
 unfold inV natsV
 rw [List.any_eq_true]
 constructor
 ·rintro ⟨v,hv,e⟩
  obtain ⟨k,hk,rfl⟩:=List.mem_map.mp hv
  have:(k:Int)=(j:Int):=by simpa [eqV] using e
  rw [show j=k by walk_at "o"]
  exact hk
 ·intro h
  exact ⟨_,List.mem_map.mpr ⟨j,h,rfl⟩,by simp [eqV]⟩
noncomputable def spPlaces:Sp:=fun vs H Q _=>∃(F T:Addr) (rs:List (Addr×List Nat)) (N:Nat) (L:Nat→Nat→Prop) (t:Nat→Int),vs=[.ref F,.ref T]∧Ls2 H F rs∧H T=some (.lst (intsV N t))∧1≤N∧N≤900∧N≤rs.length+1∧(∀i x,rs[i]?=some x→∀j,j∈x.2↔L i j)∧Fair L N t ∧
 ∀(R:Addr) (ps:List Pr) (H':Hp),Same H H'→H R=none→H' R=some (.lst (prsV ps))→AllPr H' ps→Way L t (N-1) (ps.map (·.2))→Q (.ref R) H'
noncomputable def spBetween:Sp:=fun vs H Q _=>∃(x y:Addr) (m m':Int) (q q':Rat) (n:Nat),vs=[.ref x,.ref y]∧SaAt H x m q n∧SaAt H y m' q' n∧1≤n∧∀(p:Addr) (H':Hp),Same H H'→PcAt H' (p,(m:Rat),q,(m':Rat),q') n→Q (.ref p) H'
noncomputable abbrev Ent:=Addr×Addr×Addr
noncomputable def EntAt (H:Hp) (x:Ent) (es:List En) (β:Rat) (tied:Bool):Prop:=∃(t:Nat→Int) (ts:List Th),H x.1=some (.tup [.ref x.2.1,.ref x.2.2])∧H x.2.1=some (.lst (intsV (es.length+shft tied) t))∧Fair (Lead es β tied) (es.length+shft tied) t∧H x.2.2=some (.lst (threfs ts))∧AllT H ts∧ts.map (·.2)=jout (jmp t) (three es (shft tied)) (es.length+shft tied) (es.length+shft tied)
theorem EntAt.up {H H':Hp} {x:Ent} {es:List En} {β:Rat} {tied:Bool} (f:EntAt H x es β tied) (s:Same H H'):EntAt H' x es β tied:=by
 obtain ⟨t,ts,e1,e2,f,e3,e4,e5⟩:=f
 exact ⟨t,ts,s _ _ e1,s _ _ e2,f,s _ _ e3,fun x hx=>s _ _ (e4 x hx),e5⟩
theorem EntAt.put {H:Hp} {x:Ent} {es:List En} {β:Rat} {tied:Bool} {X:Addr} {xs:List V} {o:HO} (f:EntAt H x es β tied) (hX:H X=some (.lst xs)) (h1:x.2.1≠X) (h2:x.2.2≠X):EntAt (upd H X o) x es β tied:=by
 obtain ⟨t,ts,e1,e2,f,e3,e4,e5⟩:=f
 have tup:∀{b:Addr} {ys:List V},H b=some (.tup ys)→upd H X o b=some (.tup ys):=fun {b ys} e=>rm_up X H _ _ _ (rm_tup hX e)
 exact ⟨t,ts,tup e1,by rw [upd_ne h1];exact e2,f,by rw [upd_ne h2];exact e3,fun x hx=>tup (e4 x hx),e5⟩
structure Own (H:Hp) (xs:List Ent):Prop where
 new:∀x∈xs,H x.2.1=none∧H x.2.2=none
 nd:(xs.flatMap fun x=>[x.2.1,x.2.2]).Nodup
noncomputable def spTiedRun:Sp:=fun vs H Q _=>∃(l pb:Addr) (es:List En) (n nb:Nat) (β:Rat) (tied:Bool),vs=[.ref l,.ref pb,.bl tied]∧H l=some (.lst (vals es))∧Row H es n∧AllS es∧rising es∧1≤es.length∧es.length≤30∧QtAt H pb β nb∧1≤n∧n≤900∧nb≤1000 ∧
 ∀(y X Z:Addr) (ps:List Pc) (H':Hp),Same H H'→H' y=some (.tup [.ref X,.ref Z])→H X=none→H' X=some (.lst (prefs ps))→AllP H' ps n→Told es β tied (ps.map (·.2))→∀TT RR:Addr,EntAt H' (Z,TT,RR) es β tied→H TT=none→H RR=none→TT≠RR→Q (.ref y) H'
section
variable {P:Program} {w:World} {K:PySem.W.Frag} {mg:Str→Option Value} {base:Heap} {f:Addr} {fd:FuncData}
open Classical in
theorem goes_iff {L:Nat→Nat→Prop} {t:Nat→Int} {p k:Nat}:goes L t p k=true↔L k p∧t k+1=t p:=by unfold goes;exact decide_eq_true_iff
theorem at_nat {xs:List V} {i:Nat} {v:V} (h:xs[i]?=some v):atI xs (i:Int)=some v:=by
 unfold atI
 rw [ix_nat (by omega) (by have:=(List.getElem?_eq_some_iff.mp h).1;omega)]
 exact h
noncomputable def intAt (σ:St) (i:Nat):Nat:=match σ.getD i none with | some (.int i)=>i.toNat | _=>0
theorem range_take_filter {p i:Nat} {f:Nat→Bool} (h:i<p):((List.range p).take (i+1)).filter f=((List.range p).take i).filter f++(if f i=true then [i] else []):=PySem.take_succ_filter f (List.range p) i i (by rw [List.getElem?_range h])
theorem natsV_snoc' (js:List Nat) (j:Nat):natsV js++[.int (j:Int)]=natsV (js++[j]):=by simp [natsV]
theorem sc_places_of_pieces:FnScope ["found","told","pairs","place","ahead"] ["found","told"] (defScope s_places_of_pieces):=⟨rfl,rfl,rfl,by decide +kernel,rfl,by decide +kernel,by decide +kernel⟩
theorem ok_places_of_pieces (F:Fun K "places_of_pieces" "places_of_pieces" s_places_of_pieces f fd) (T:Txt mg):FnOk P w K mg base CX0 1 f fd ["found","told"] spPlaces:=by
 refine F.ok sc_places_of_pieces (fun vs H Q E h=>?_) (fun cdv A outer s H vs Q E hr h=>?_)
 ·obtain ⟨FF,TT,rs,N,L,t,rfl,_⟩:=h
  rfl
 obtain ⟨FF,TT,rs,N,L,t,rfl,hF,eT,h1,h900,hNr,hrs,hfair,k⟩:=h
 refine J.q ⟨_,(J.f (J.i (i:=2) sc_places_of_pieces.nd rfl (Or.inl rfl) (J.s J.d) (hs:=sw_L))
  (J.f (J.i (i:=3) sc_places_of_pieces.nd rfl (Or.inr rfl) (J.g op_sub (J.p (lenC K) rfl T.len_ PySem.boot_len (J.b (J.a 1) J.d st_N) (he:=st_N) (hpl:=any0)) J.c) (hs:=sw_B))
  (J.f (Jd.ps_while PassesOwn.never (J.j op_gt (J.a 3) J.c (nomark _))
  (J.f (J.an (O:=["first"]) (N':=["place","told","found"]) (cap:=[3,1,0]) (i:=4) sc_places_of_pieces.nd rfl (Or.inl rfl) rfl (J.al rfl T.range (J.b (J.a 3) J.d st_N)) (fun _ _ _ _ _=>(J.n (i:=0) (show List.Nodup [("first":Str),("place":Str),("told":Str),("found":Str)] by decide +kernel) rfl (Or.inl rfl))) (fun _ _ _ _ _=>(Jd.pts_one (J.aa (J.am (J.j op_eq (J.g op_add (J.e (ixL K) (J.a 2) (J.a 0) (fun _ _=>rfl)) J.c) (J.e (ixL K) (J.a 2) (J.a 1) (fun _ _=>rfl)) (nomark _)) (J.ao (J.j (inSeq K) (J.a 1) (J.e (ixL K) (J.a 3) (J.a 0) (fun _ _=>rfl)) rfl)))))) (fun _ _ _ _ _=>(J.a 0)) rfl ⟨⟨rfl,rfl,rfl,rfl⟩,⟨⟨rfl,rfl,rfl,rfl⟩,⟨⟨rfl,rfl,rfl,rfl⟩,trivial⟩⟩⟩ rfl (by decide +kernel) rfl (by decide +kernel) (by rfl))
  (J.f (J.x (J.y K (J.a 2) (J.r (J.b (J.e (ixL K) (J.a 4) J.c (fun _ _=>rfl)) (J.b (J.a 3) J.d st_N) st_S))) (hs:=sw_K))
  (J.h (J.i (i:=3) sc_places_of_pieces.nd rfl (Or.inr rfl) (J.e (ixL K) (J.a 4) J.c (fun _ _=>rfl)) (hs:=sw_S))))))
  (J.f (J.x (Jd.rvsC K (J.a 2)) (hs:=sw_K))
  (J.h (J.k (J.a 2))))))),?_⟩
 walk_at "v"
 refine r_new (mk:=.lst) (by simp) fun R H1 s1 n1 e1=>?_
 walk_at "v"
 refine r_len (.inl (SqL.of (s1 _ _ eT))) ?_
 rw [intsV_len]
 walk_at "v"
 refine while_of (fun σ H3=>∃(p:Nat) (ps:List Pr) (v4:Option V),σ=[some (.ref FF),some (.ref TT),some (.ref R),some (.int (p:Int)),v4]∧Same H H3∧H3 R=some (.lst (prsV ps))∧AllPr H3 ps∧p<N∧ps.length+p≤N∧∀qs,Way L t p qs→Way L t (N-1) (qs++(ps.map (·.2)).reverse)) (fun σ _=>intAt σ 3) ?_ ?_
 ·exact ⟨N-1,[],none,by rw [show (N:Int)-1=((N-1:Nat):Int) by omega];rfl,s1,e1,fun x hx=>absurd hx (by simp),by omega,by simp,fun qs h=>by simpa using h⟩
 rintro σ H3 ⟨p,ps,v4,rfl,s3,e3,hps,hp,hlen,hway⟩ RR hy hn
 walk_at "v"
 by_cases h0:0<(p:Int)
 ·rw [decide_eq_true h0]
  refine hy _ fun M hM=>?_
  have eT3:=s3 _ _ eT
  walk_at "v"
  refine r_rng1 ?_
  walk_at "v"
  refine ⟨_,rfl,by lia,by lia,?_⟩
  refine compB_of tells_rng (fun _ _=>trivial) (by simp;lia) (fun i zs G=>zs=natsV (((List.range p).take i).filter (goes L t p))) rfl ?_ ?_
  ·rintro D i x zs H4 σ0 NN N0 hσ hD eD s4 hx hz rfl kY kN
   have hi:i<p:=by
    have:=(List.getElem?_eq_some_iff.mp hx).1
    simpa using this
   obtain rfl:x=.int (0+(i:Int)):=by
    rw [List.getElem?_map,List.getElem?_range (by simpa using hi)] at hx
    exact (Option.some.inj hx).symm
   rw [show (0:Int)+(i:Int)=(i:Int) by omega]
   have tk:=range_take_filter (f:=goes L t p) hi
   refine r_own1 hσ ?_
   have eT4:=s4 _ _ eT3
   walk_at "v"
   refine r_l eT4 (at_intsV (show i<N by omega) rfl) ?_
   walk_at "v"
   refine r_l eT4 (at_intsV hp rfl) ?_
   walk_at "v"
   have no:¬(L i p∧t i+1=t p)→N0 H4:=fun z=>by
    refine kN H4 (Same.refl _) ?_
    rw [tk,if_neg (fun q=>z (goes_iff.mp q)),List.append_nil]
   refine ite2 (fun c1=>?_) (fun c1=>?_)
   ·have hir:i<rs.length:=by omega
    have gx:rs[i]?=some rs[i]:=List.getElem?_eq_getElem hir
    have ex:=((hF.up (s3.trans s4)).each _ (List.mem_of_getElem? gx)).1
    walk_at "v"
    refine r_l (hF.up (s3.trans s4)).at_ (at_nat (by rw [List.getElem?_map,gx];rfl)) ?_
    walk_at "v"
    refine ⟨_,_,rfl,.inl (SqL.of ex),rfl,?_,?_⟩
    ·exact List.all_eq_true.mpr fun v hv=>by
      obtain ⟨j,_,rfl⟩:=List.mem_map.mp hv
      rfl
    ·walk_at "v"
     show if inV (.int (p:Int)) (natsV rs[i].2)=true then _ else _
     refine ite2 (fun c2=>?_) (fun c2=>?_)
     ·walk_at "v"
      refine kY _ H4 (Same.refl _) ?_
      rw [tk,if_pos (goes_iff.mpr ⟨(hrs i _ gx p).mp (inV_nats.mp c2),of_decide_eq_true c1⟩)]
      exact natsV_snoc' _ _
     ·exact no fun z=>c2 (inV_nats.mpr ((hrs i _ gx p).mpr z.1))
   ·refine iteF ?_
    exact no fun z=>c1 (decide_eq_true z.2)
  ·rintro D zs H4 hD eD s4 hz rfl
   rw [List.length_map,List.length_range,show (p:Int).toNat=p by omega,List.take_of_length_le (by simp)] at eD
   obtain ⟨i0,hi0,hL0,ht0⟩:=hfair.ex p (by omega) hp
   have hm:i0∈(List.range p).filter (goes L t p):=List.mem_filter.mpr ⟨List.mem_range.mpr hi0,goes_iff.mpr ⟨hL0,by omega⟩⟩
   obtain ⟨a,r,har⟩:∃a r,(List.range p).filter (goes L t p)=a::r:=by
    cases e:(List.range p).filter (goes L t p) with
    | nil=>rw [e] at hm;exact absurd hm (by simp)
    | cons a r=>exact ⟨a,r,rfl⟩
   obtain ⟨ha,hap,hno⟩:=filter_first har
   obtain ⟨hLa,hta⟩:=goes_iff.mp ha
   rw [har] at eD
   have e4:=s4 _ _ e3
   walk_at "v"
   refine ⟨.inl ⟨rfl,_,SqL.of e4⟩,?_⟩
   walk_at "v"
   refine r_l eD (at_nat (i:=0) rfl) ?_
   walk_at "v"
   refine r_new (mk:=.tup) (by simp) fun y H5 s5 n5 e5=>?_
   walk_at "v"
   refine r_app (s5 _ _ e4) (by rw [prsV_len];exact small1000 (by omega)) ?_
   walk_at "v"
   have nD:D≠R:=fun z=>by rw [z,e3] at hD;cases hD
   refine r_l (by rw [upd_ne nD];exact s5 _ _ eD) (at_nat (i:=0) rfl) ?_
   walk_at "v"
   refine hM _ _ ⟨a,ps++[(y,a,p)],_,rfl,same_at ((s3.trans s4).trans s5) n1,by rw [upd_same];simp [prsV],fun x hx=>?_,by omega,by simp;omega,fun qs hq=>?_⟩ ?_
   ·refine rm_up R H5 _ _ _ (rm_tup (s5 _ _ e4) ?_)
    rcases List.mem_append.mp hx with z | z
    ·exact (s4.trans s5) _ _ (hps x z)
    ·obtain rfl:x=(y,a,p):=by simpa using z
     exact e5
   ·rw [List.map_append,List.reverse_append]
    have:=hway (qs++[(a,p)]) (.cons ⟨hap,hLa,hta,fun k hk z=>absurd ((hno k hk).symm.trans (goes_iff.mpr z)) (by decide)⟩ hq)
    simpa using this
   ·show (a:Int).toNat<(p:Int).toNat
    omega
 ·rw [decide_eq_false h0]
  refine hn _ ?_
  have hp0:p=0:=by omega
  subst hp0
  walk_at "v"
  refine ⟨.inl ⟨rfl,_,SqL.of e3⟩,?_⟩
  refine r_rvs e3 ?_
  walk_at "v"
  refine k R ps.reverse _ (same_at s3 n1) n1 (by rw [upd_same,prsV,prsV,List.map_reverse]) (fun x hx=>rm_up R H3 _ _ _ (rm_tup e3 (hps x (List.mem_reverse.mp hx)))) ?_
  rw [List.map_reverse]
  exact hway [] .nil
theorem sc_piece_between:FnScope ["one","other"] ["one","other"] (defScope s_piece_between):=⟨rfl,rfl,rfl,by decide +kernel,rfl,by decide +kernel,by decide +kernel⟩
theorem ok_piece_between (F:Fun K "piece_between" "piece_between" s_piece_between f fd) (T:Txt mg):FnOk P w K mg base CX0 1 f fd ["one","other"] spBetween:=by
 refine F.ok sc_piece_between (fun vs H Q E h=>?_) (fun cdv A outer s H vs Q E hr h=>?_)
 ·obtain ⟨x,y,m,m',q,q',n,rfl,_⟩:=h
  rfl
 obtain ⟨x,y,m,m',q,q',n,rfl,⟨v,ex,fv,zm⟩,⟨v',ey,fv',zm'⟩,hn,k⟩:=h
 refine J.q ⟨_,(J.h (J.k (J.r (J.b (J.r (J.b (J.e (ixT K) (J.a 0) J.c (fun _ _=>rfl)) (J.b J.c J.d st_C) st_S)) (J.b (J.e (ixT K) (J.a 0) J.c (fun _ _=>rfl)) (J.b (J.r (J.b (J.e (ixT K) (J.a 1) J.c (fun _ _=>rfl)) (J.b J.c J.d st_C) st_S)) (J.b (J.e (ixT K) (J.a 1) J.c (fun _ _=>rfl)) J.d st_S) st_T) st_S) st_T)))),?_⟩
 walk_at "v"
 refine r_new (mk:=.tup) (by simp) fun a H1 s1 n1 e1=>?_
 have ex1:=s1 _ _ ex
 have ey1:=s1 _ _ ey
 walk_at "v"
 refine r_new (mk:=.tup) (by simp) fun b H2 s2 n2 e2=>?_
 have ey2:=s2 _ _ ey1
 walk_at "v"
 refine r_new (mk:=.tup) (by simp) fun c H3 s3 n3 e3=>?_
 have s13:=s2.trans s3
 have s03:=s1.trans s13
 exact k c H3 s03 ⟨a,v,b,v',e3,⟨m,1,s13 _ _ e1,Fr.whole m,zm,one_sz hn⟩,fv.up s03,⟨m',1,s3 _ _ e2,Fr.whole m',zm',one_sz hn⟩,fv'.up s03⟩
theorem lead_lt {es:List En} {β:Rat} {tied:Bool} {i j:Nat} (hL:Lead es β tied i j):i<j∧j<es.length+shft tied:=by
 unfold Lead at hL
 unfold shft
 cases tied with
 | true=>
   rw [if_pos rfl] at *
   exact ⟨hL.1,hL.2.1⟩
 | false=>
   rw [if_neg Bool.false_ne_true] at *
   rcases hL with ⟨a,rfl | ⟨b,c,_⟩⟩
   ·exact ⟨by walk_at "o",by walk_at "o"⟩
   ·exact ⟨by walk_at "o",by walk_at "o"⟩
theorem lead_step {es:List En} {β:Rat} {tied:Bool} {j:Nat} (h0:0<j) (hj:j<es.length+shft tied):Lead es β tied (j-1) j:=by
 unfold Lead
 unfold shft at hj
 cases tied with
 | true=>
   rw [if_pos rfl] at *
   exact ⟨by walk_at "o",hj,fun k h1 h2=>by walk_at "o"⟩
 | false=>
   rw [if_neg Bool.false_ne_true] at *
   exact ⟨by walk_at "o",.inl (by walk_at "o")⟩
theorem sc_tied_run:FnScope ["run","bound","tied","found","told","pairs","back","pieces"] ["run","bound","tied"] (defScope s_tied_run):=⟨rfl,rfl,rfl,by decide +kernel,rfl,by decide +kernel,by decide +kernel⟩
theorem ok_tied_run (F:Fun K "tied_run" "tied_run" s_tied_run f fd) (T:Txt mg) (D_leaps:Dn P w K mg base 5 "leaps" ["samples","bound","tied"] spLeaps) (D_labels_by:Dn P w K mg base 1 "labels_by" ["found","many"] spLabBy) (D_places_of_pieces:Dn P w K mg base 1 "places_of_pieces" ["found","told"] spPlaces) (D_piece_between:Dn P w K mg base 1 "piece_between" ["one","other"] spBetween) (D_bars_by:Dn P w K mg base 5 "bars_by" ["samples","told","tied"] spBarsBy):FnOk P w K mg base CX0 6 f fd ["run","bound","tied"] spTiedRun:=by
 refine F.ok sc_tied_run (fun vs H Q E h=>?_) (fun cdv A outer s H vs Q E hr h=>?_)
 ·obtain ⟨l,pb,es,n,nb,β,tied,rfl,_⟩:=h
  rfl
 obtain ⟨l,pb,es,n,nb,β,tied,rfl,hl,hR,hS,hri,h1,h30,hb,hn1,hn,hnb,k⟩:=h
 have hsh:shft tied≤1:=by unfold shft;split <;> walk_at "o"
 refine J.q ⟨_,(J.f (J.i (i:=3) sc_tied_run.nd rfl (Or.inl rfl) (J.l D_leaps (hr.mono (by decide)) rfl (J.b (J.a 0) (J.b (J.a 1) (J.b (J.a 2) J.d st_N) st_N) st_N) (he:=st_N) (hpl:=(anyc st_N (anyc st_N any0)))) (hs:=sw_K))
  (J.f (J.i (i:=4) sc_tied_run.nd rfl (Or.inl rfl) (J.l D_labels_by (hr.mono (by decide)) rfl (J.b (J.a 3) (J.b (J.aq (J.ad (J.a 2)) (J.p (lenC K) rfl T.len_ PySem.boot_len (J.b (J.a 0) J.d st_N) (he:=st_N) (hpl:=any0)) (J.g op_add (J.p (lenC K) rfl T.len_ PySem.boot_len (J.b (J.a 0) J.d st_N) (he:=st_N) (hpl:=any0)) J.c)) J.d) st_N) (he:=st_N) (hpl:=(anyc (by rfl) any0))) (hs:=sw_K))
  (J.f (J.i (i:=5) sc_tied_run.nd rfl (Or.inl rfl) (J.l D_places_of_pieces (hr.mono (by decide)) rfl (J.b (J.a 3) (J.b (J.a 4) J.d st_N) st_N) (he:=st_N) (hpl:=(anyc st_N any0))) (hs:=sw_K))
  (J.f (J.m (J.aa (J.am (J.ad (J.a 2)) (J.ao (J.j op_eq (J.p (lenC K) rfl T.len_ PySem.boot_len (J.b (J.a 0) J.d st_N) (he:=st_N) (hpl:=any0)) J.c (nomark _)))))
  (J.h (J.i (i:=5) sc_tied_run.nd rfl (Or.inl rfl) (J.s (J.b (J.r (J.b J.c (J.b J.c J.d st_C) st_C)) J.d st_T)) (hs:=sw_L)))
  J.o)
  (J.f (J.i (i:=6) sc_tied_run.nd rfl (Or.inr rfl) (J.aq (J.ad (J.a 2)) J.c J.c) (hs:=sw_I))
  (J.f (J.an (O:=["first","last"]) (N':=["run","back"]) (cap:=[0,6]) (i:=7) sc_tied_run.nd rfl (Or.inl rfl) rfl (J.w K (J.a 5)) (fun _ _ _ _ _=>(Jd.pgT K (n:=2) rfl (J.v (J.n (i:=0) (show List.Nodup [("first":Str),("last":Str),("run":Str),("back":Str)] by decide +kernel) rfl (Or.inl rfl)) (J.v (J.n (i:=1) (show List.Nodup [("first":Str),("last":Str),("run":Str),("back":Str)] by decide +kernel) rfl (Or.inl rfl)) J.ae)))) (fun _ _ _ _ _=>J.ag) (fun _ _ _ _ _=>(J.l D_piece_between (hr.mono (by decide)) rfl (J.b (J.e (ixL K) (J.a 2) (J.a 0) (fun _ _=>rfl)) (J.b (J.e (ixL K) (J.a 2) (J.g op_sub (J.a 1) (J.a 3)) (fun _ _=>rfl)) J.d st_S) st_S) (he:=st_S) (hpl:=(anyc st_S any0)))) rfl ⟨⟨rfl,rfl,rfl,rfl⟩,⟨⟨rfl,rfl,rfl,rfl⟩,trivial⟩⟩ rfl (by decide +kernel) rfl (by decide +kernel) (by rfl))
  (J.h (J.k (J.r (J.b (J.a 7) (J.b (J.r (J.b (J.a 4) (J.b (J.l D_bars_by (hr.mono (by decide)) rfl (J.b (J.a 0) (J.b (J.a 4) (J.b (J.a 2) J.d st_N) st_N) st_N) (he:=st_N) (hpl:=(anyc st_N (anyc st_N any0)))) J.d st_K) st_N)) J.d st_T) st_N)))))))))),?_⟩
 walk_at "v"
 refine ⟨l,pb,es,n,nb,β,tied,rfl,hl,hR,hS,hri,by walk_at "o",hb,by walk_at "o",hnb,fun FF rs H1 s1 nF hF hlen hle=>?_⟩
 refine nx_of ?_
 refine seq_cut (fun σ' H2=>∃(TT:Addr) (t:Nat→Int),σ'=[some (.ref l),some (.ref pb),some (.bl tied),some (.ref FF),some (.ref TT),none,none,none]∧Same H1 H2∧H2 TT=some (.lst (intsV (es.length+shft tied) t))∧Fair (Lead es β tied) (es.length+shft tied) t∧H1 TT=none) (fun σ' H2 hP=>?_) (fun N rest=>?_)
 rotate_left
 ·have go:∀(Q':VK) (E':XK),(∀(TT:Addr) (t:Nat→Int) (H2:Hp),Same H1 H2→H1 TT=none→H2 TT=some (.lst (intsV (es.length+shft tied) t))→Fair (Lead es β tied) (es.length+shft tied) t→Q' (.ref TT) H2)→spLabBy [.ref FF,.int ((es.length+shft tied:Nat):Int)] H1 Q' E':=fun Q' E' kk=>⟨FF,rs,_,Lead es β tied,rfl,hF,by walk_at "o",by walk_at "o",by walk_at "o",by walk_at "o",fun i x hx=>(hle i x hx).2,fun i j hL=>lead_lt hL,fun j h0 hj=>lead_step h0 hj,fun R t H2 s2 nR eR hf=>kk R t H2 s2 nR eR hf⟩
  walk_at "v"
  have s1l:=s1 _ _ hl
  cases tied with
  | true=>
    refine iteT ?_
    walk_at "v"
    refine r_len (.inl (SqL.of s1l)) ?_
    rw [vals_len]
    walk_at "v"
    exact go _ _ fun TT t H2 s2 nT e2 hf=>rest _ _ ⟨TT,t,rfl,s2,e2,hf,nT⟩
  | false=>
    refine iteF ?_
    walk_at "v"
    refine r_len (.inl (SqL.of s1l)) ?_
    rw [vals_len]
    walk_at "v"
    exact go _ _ fun TT t H2 s2 nT e2 hf=>rest _ _ ⟨TT,t,rfl,s2,e2,hf,nT⟩
 obtain ⟨TT,t,rfl,s2,eT,hf,nTT⟩:=hP
 refine seq_cut (fun σ' H3=>∃(PP:Addr) (ps:List Pr),σ'=[some (.ref l),some (.ref pb),some (.bl tied),some (.ref FF),some (.ref TT),some (.ref PP),none,none]∧Same H2 H3∧H3 PP=some (.lst (prsV ps))∧AllPr H3 ps∧Way (Lead es β tied) t (es.length+shft tied-1) (ps.map (·.2))) (fun σ' H3 hP=>?_) (fun N rest=>?_)
 rotate_left
 ·walk_at "v"
  exact ⟨FF,TT,rs,_,_,t,rfl,hF.up s2,eT,by walk_at "o",by walk_at "o",by walk_at "o",fun i x hx=>(hle i x hx).2,hf,fun PP ps H3 s3 nP eP hps hw=>rest _ _ ⟨PP,ps,rfl,s3,eP,hps,hw⟩⟩
 obtain ⟨PP,ps,rfl,s3,eP,hps,hw⟩:=hP
 refine seq_cut (fun σ' H4=>∃(PP:Addr) (ps':List Pr),σ'=[some (.ref l),some (.ref pb),some (.bl tied),some (.ref FF),some (.ref TT),some (.ref PP),none,none]∧Same H3 H4∧H4 PP=some (.lst (prsV ps'))∧AllPr H4 ps'∧ps'.length≤31∧ps'.map (·.2)=if es.length+shft tied=1 then [(0,0)] else ps.map (·.2)) (fun σ' H4 hP=>?_) (fun N rest=>?_)
 rotate_left
 ·have hwl:=hw.len
  rw [List.length_map] at hwl
  have s13:=(s1.trans s2).trans s3
  have keep:es.length+shft tied≠1→N [some (.ref l),some (.ref pb),some (.bl tied),some (.ref FF),some (.ref TT),some (.ref PP),none,none] H3:=fun z=>rest _ _ ⟨PP,ps,rfl,Same.refl _,eP,hps,by walk_at "o",by rw [if_neg z]⟩
  walk_at "v"
  cases tied with
  | true=>
    refine iteT ?_
    walk_at "v"
    refine r_len (.inl (SqL.of (s13 _ _ hl))) ?_
    rw [vals_len]
    walk_at "v"
    refine ite2 (fun c1=>?_) (fun c1=>?_)
    ·have c1':(es.length:Int)=1:=of_decide_eq_true c1
     walk_at "v"
     refine r_new (mk:=.tup) (by simp) fun y H4 s4 n4 e4=>?_
     walk_at "v"
     refine r_new (mk:=.lst) (by simp) fun y' H5 s5 n5 e5=>?_
     walk_at "v"
     refine rest _ _ ⟨y',[(y,0,0)],rfl,s4.trans s5,e5,fun x hx=>?_,by simp,?_⟩
     ·obtain rfl:x=(y,0,0):=by simpa using hx
      exact s5 _ _ e4
     ·rw [if_pos (show es.length+shft true=1 by show es.length+0=1;walk_at "o")]
      rfl
    ·walk_at "v"
     exact keep fun z=>c1 (decide_eq_true (by have:es.length+0=1:=z;walk_at "o"))
  | false=>
    refine iteF ?_
    refine iteF ?_
    walk_at "v"
    exact keep fun z=>by have:es.length+1=1:=z;walk_at "o"
 obtain ⟨PP,ps',rfl,s4,eP,hps',hl',hm'⟩:=hP
 refine seq_cut (fun σ' H5=>H5=H4∧σ'=[some (.ref l),some (.ref pb),some (.bl tied),some (.ref FF),some (.ref TT),some (.ref PP),some (.int (shft tied:Int)),none]) (fun σ' H5 hP=>?_) (fun N rest=>?_)
 rotate_left
 ·walk_at "v"
  cases tied with
  | true=>
    refine iteT ?_
    walk_at "v"
    exact rest _ _ ⟨rfl,rfl⟩
  | false=>
    refine iteF ?_
    walk_at "v"
    exact rest _ _ ⟨rfl,rfl⟩
 obtain ⟨rfl,rfl⟩:=hP
 have s05:=((s1.trans s2).trans s3).trans s4
 have inb:∀x∈ps',x.2.1<es.length∧x.2.2-shft tied<es.length∧((x.2.2:Int)-(shft tied:Int)=((x.2.2-shft tied:Nat):Int)):=fun x hx=>by
  have hx':x.2∈ps'.map (·.2):=List.mem_map.mpr ⟨x,hx,rfl⟩
  rw [hm'] at hx'
  by_cases hN:es.length+shft tied=1
  ·rw [if_pos hN] at hx'
   have:x.2=(0,0):=by simpa using hx'
   rw [this]
   exact ⟨by walk_at "o",by walk_at "o",by walk_at "o"⟩
  ·rw [if_neg hN] at hx'
   have:=hw.lt _ hx'
   exact ⟨by walk_at "o",by walk_at "o",by walk_at "o"⟩
 walk_at "v"
 refine r_iL ?_
 walk_at "v"
 refine ⟨PP,rfl,⟨_,SqL.of eP⟩,?_⟩
 refine compB_of (xs:=prsV ps') tells_list (fun H6 s6=>SqL.of (s6 _ _ eP)) (by rw [prsV_len];walk_at "o") (fun i ys G=>∃pcs:List Pc,ys=prefs pcs∧AllP G pcs n∧pcs.map (·.2)=(ps'.take i).map fun x=>quad es x.2.1 (x.2.2-shft tied)) ⟨[],rfl,fun x hx=>absurd hx (by simp),rfl⟩ ?_ ?_
 ·rintro D i x ys H6 σ0 NN N0 h0 hD eD s6 hx hy ⟨pcs,rfl,hpcs,hmap⟩ kY kN
  unfold prsV at hx
  rw [List.getElem?_map] at hx
  obtain ⟨x,gx,rfl⟩:=Option.map_eq_some_iff.mp hx
  have hmx:=List.mem_of_getElem? gx
  obtain ⟨b1,b2,b3⟩:=inb x hmx
  have tk:ps'.take (i+1)=ps'.take i++[x]:=by rw [List.take_add_one,gx];rfl
  refine r_own2 h0 (s6 _ _ (hps' x hmx)) ?_
  have s06:=s05.trans s6
  obtain ⟨xi,gi,si⟩:=sa_at (hR.up s06) hS b1
  obtain ⟨xj,gj,sj⟩:=sa_at (hR.up s06) hS b2
  walk_at "v"
  refine iteT ?_
  walk_at "v"
  refine r_l (s06 _ _ hl) (at_val gi rfl) ?_
  walk_at "v"
  refine r_l (s06 _ _ hl) (at_val gj b3) ?_
  walk_at "v"
  refine ⟨xi.1,xj.1,_,_,_,_,n,rfl,si,sj,hn1,fun p H7 s7 f7=>?_⟩
  refine kY _ H7 s7 ⟨pcs++[(p,quad es x.2.1 (x.2.2-shft tied))],by simp [prefs],?_,by rw [tk,List.map_append,List.map_append,hmap];rfl⟩
  refine (hpcs.up (rm_rm s7)).append fun z hz=>?_
  obtain rfl:z=(p,quad es x.2.1 (x.2.2-shft tied)):=by simpa using hz
  exact f7.mv fun {b xs} z=>rm_tup (s7 _ _ eD) z
 ·rintro D ys H6 hD eD s6 hy ⟨pcs,rfl,hpcs,hmap⟩
  rw [prsV_len,List.take_length] at hmap
  have s06:=s05.trans s6
  walk_at "v"
  refine ⟨l,TT,es,n,β,tied,t,rfl,s06 _ _ hl,hR.up s06,hS,hri,h1,h30,hn,(s3.trans (s4.trans s6)) _ _ eT,hf,fun R ts H7 s7 nR eR hts hmts=>?_⟩
  walk_at "v"
  refine r_new (mk:=.tup) (by simp) fun z H8 s8 n8 e8=>?_
  walk_at "v"
  refine r_new (mk:=.tup) (by simp) fun y H9 s9 n9 e9=>?_
  have s79:=s8.trans s9
  have s69:=s7.trans s79
  refine k y D z pcs H9 (s06.trans s69) e9 (s05.free hD) (s69 _ _ eD) (fun x hx=>(hpcs x hx).mv fun {b xs} q=>s69 _ _ (rm_same _ _ q)) ⟨t,ps.map (·.2),hf,hw,?_⟩ TT R ⟨t,ts,s9 _ _ e8,(s3.trans (s4.trans (s6.trans s69))) _ _ eT,hf,s79 _ _ eR,hts.up s79,hmts⟩ (s1.free nTT) (s06.free nR) (fun z=>by rw [← z,(s3.trans (s4.trans s6)) _ _ eT] at nR;cases nR)
  rw [hmap,← hm',List.map_map]
  rfl
end
noncomputable def TiedAt (es:List En) (β:Rat) (tied:Bool) (m:Nat) (q:List (Rat×Rat×Rat×Rat)):Prop:=∃qss:List (List (Rat×Rat×Rat×Rat)),Each2 (fun r l=>Told r β tied l) ((parts smp es es.length).take m) qss∧q=qss.flatten
theorem TiedAt.snoc {es:List En} {β:Rat} {tied:Bool} {m:Nat} {q l:List (Rat×Rat×Rat×Rat)} {r:List En} (h:TiedAt es β tied m q) (hr:(parts smp es es.length)[m]?=some r) (hl:Told r β tied l):TiedAt es β tied (m+1) (q++l):=by
 obtain ⟨qss,h1,rfl⟩:=h
 refine ⟨qss++[l],?_,by simp⟩
 rw [List.take_add_one,hr]
 exact each2_snoc h1 hl
theorem Told.len {es:List En} {β:Rat} {tied:Bool} {l:List (Rat×Rat×Rat×Rat)} (h:Told es β tied l) (h1:1≤es.length):l.length≤es.length:=by
 obtain ⟨t,ps,_,w,rfl⟩:=h
 have hsh:shft tied≤1:=by unfold shft;split <;> walk_at "o"
 have:=w.len
 rw [List.length_map]
 split
 ·exact h1
 ·walk_at "o"
noncomputable def spTiedRow:Sp:=fun vs H Q _=>∃(l pb:Addr) (es:List En) (n nb:Nat) (β:Rat) (tied:Bool),vs=[.ref l,.ref pb,.bl tied]∧H l=some (.lst (vals es))∧Row H es n∧rising es∧es.length≤40∧(parts smp es es.length).length≤33∧(∀r∈parts smp es es.length,r.length≤30)∧QtAt H pb β nb∧1≤n∧n≤900∧nb≤1000 ∧
 ∀(y X Z:Addr) (ps:List Pc) (H':Hp),Same H H'→H' y=some (.tup [.ref X,.ref Z])→H X=none→H' X=some (.lst (prefs ps))→AllP H' ps n→ps.length≤990→TiedAt es β tied (parts smp es es.length).length (ps.map (·.2))→∀ents:List Ent,H Z=none→X≠Z→H' Z=some (.lst (ents.map fun x=>V.ref x.1))→Each2 (fun r x=>EntAt H' x r β tied) (parts smp es es.length) ents→Own H ents→(∀x∈ents,x.2.1≠X∧x.2.1≠Z∧x.2.2≠X∧x.2.2≠Z)→Q (.ref y) H'
noncomputable def spTold (tied:Bool):Sp:=fun vs H Q E=>∃(l pb:Addr),vs=[.ref l,.ref pb]∧spTiedRow [.ref l,.ref pb,.bl tied] H Q E
theorem each2_impR {α β:Type} {R S:α→β→Prop}:∀{as:List α} {bs:List β},(∀a b,b∈bs→R a b→S a b)→Each2 R as bs→Each2 S as bs
 | [],[],_,_=>trivial
 | _::_,_::_,h,g=>⟨h _ _ (by simp) g.1,each2_impR (fun a b hb=>h a b (by simp [hb])) g.2⟩
 | [],_::_,_,g=>g.elim
 | _::_,[],_,g=>g.elim
theorem each2_memR {α β:Type} {R:α→β→Prop}:∀{as:List α} {bs:List β},Each2 R as bs→∀b∈bs,∃a,R a b
 | [],[],_,b,h=>absurd h (by simp)
 | x::_,y::_,h,b,hb=>by
   rcases List.mem_cons.mp hb with rfl | z
   ·exact ⟨x,h.1⟩
   ·exact each2_memR h.2 b z
 | [],_::_,h,_,_=>h.elim
 | _::_,[],h,_,_=>h.elim
theorem Own.snoc {H H4:Hp} {xs:List Ent} {x:Ent} (h:Own H xs) (s:Same H H4) (hin:∀y∈xs,H4 y.2.1≠none∧H4 y.2.2≠none) (n1:H4 x.2.1=none) (n2:H4 x.2.2=none) (ne:x.2.1≠x.2.2):Own H (xs++[x]):=by
 refine ⟨fun y hy=>?_,?_⟩
 ·rcases List.mem_append.mp hy with z | z
  ·exact h.new y z
  ·obtain rfl:y=x:=by simpa using z
   exact ⟨s.free n1,s.free n2⟩
 ·rw [List.flatMap_append]
  refine List.nodup_append.mpr ⟨h.nd,by simp [ne],fun a ha b hb=>?_⟩
  obtain ⟨y,hy,hya⟩:=List.mem_flatMap.mp ha
  have hb':b=x.2.1∨b=x.2.2:=by simpa using hb
  have hnb:H4 b=none:=by rcases hb' with z | z <;> rw [z] <;> assumption
  intro e
  subst e
  have:a=y.2.1∨a=y.2.2:=by simpa using hya
  rcases this with z | z
  ·exact (hin y hy).1 (by rw [← z];exact hnb)
  ·exact (hin y hy).2 (by rw [← z];exact hnb)
section
variable {P:Program} {w:World} {K:PySem.W.Frag} {mg:Str→Option Value} {base:Heap} {f:Addr} {fd:FuncData}
theorem sc_tied_row:FnScope ["row","bound","tied","telling","paper","run","told"] ["row","bound","tied"] (defScope s_tied_row):=⟨rfl,rfl,rfl,by decide +kernel,rfl,by decide +kernel,by decide +kernel⟩
theorem ok_tied_row (F:Fun K "tied_row" "tied_row" s_tied_row f fd) (T:Txt mg) (D_runs:Dn P w K mg base 1 "runs" ["row"] spRuns) (D_tied_run:Dn P w K mg base 6 "tied_run" ["run","bound","tied"] spTiedRun):FnOk P w K mg base CX0 7 f fd ["row","bound","tied"] spTiedRow:=by
 refine F.ok sc_tied_row (fun vs H Q E h=>?_) (fun cdv A outer s H vs Q E hr h=>?_)
 ·obtain ⟨l,pb,es,n,nb,β,tied,rfl,_⟩:=h
  rfl
 obtain ⟨l,pb,es,n,nb,β,tied,rfl,hl,hR,hri,h30,h33,hrun,hb,hn1,hn,hnb,k⟩:=h
 refine J.q ⟨_,(J.f (J.i (i:=3) sc_tied_row.nd rfl (Or.inl rfl) (J.s J.d) (hs:=sw_L))
  (J.f (J.i (i:=4) sc_tied_row.nd rfl (Or.inl rfl) (J.s J.d) (hs:=sw_L))
  (J.f (J.t PassesOwn.never rfl (J.w K (J.l D_runs (hr.mono (by decide)) rfl (J.b (J.a 0) J.d st_N) (he:=st_N) (hpl:=any0))) (J.n (i:=5) sc_tied_row.nd rfl (Or.inl rfl))
  (J.f (J.i (i:=6) sc_tied_row.nd rfl (Or.inl rfl) (J.l D_tied_run (hr.mono (by decide)) rfl (J.b (J.a 5) (J.b (J.a 1) (J.b (J.a 2) J.d st_N) st_N) st_N) (he:=st_N) (hpl:=(anyc st_N (anyc st_N any0)))) (hs:=sw_K))
  (J.f (J.x (Jd.extC K (J.a 3) (J.e (ixT K) (J.a 6) J.c (fun _ _=>rfl))) (hs:=sw_K))
  (J.h (J.x (J.y K (J.a 4) (J.e (ixT K) (J.a 6) J.c (fun _ _=>rfl))) (hs:=sw_K))))))
  (J.h (J.k (J.r (J.b (J.a 3) (J.b (J.a 4) J.d st_N) st_N))))))),?_⟩
 walk_at "v"
 refine r_new (mk:=.lst) (by simp) fun X H1 s1 n1 e1=>?_
 walk_at "v"
 refine r_new (mk:=.lst) (by simp) fun Z H2 s2 n2 e2=>?_
 have s02:=s1.trans s2
 have nXZ:X≠Z:=fun z=>by rw [← z,e1] at n2;cases n2
 walk_at "v"
 refine r_for (r_iL ?_)
 walk_at "v"
 refine ⟨l,es,n,rfl,s02 _ _ hl,hR.up s02,by walk_at "o",fun TT ls H3 s3 hLL hls _ _=>?_⟩
 have hpl:=parts_len (s:=smp) (es:=es) es.length
 have hll:ls.length=(parts smp es es.length).length:=by rw [← hls,List.length_map]
 have own:∀{G:Hp} {R:Addr} {v:List V},LL H2 G TT ls→H2 R=some (.lst v)→R≠TT∧∀x∈ls,x.1≠R:=fun hG e=>⟨(fun z=>by rw [z,hG.new] at e;cases e),(fun x hx z=>by rw [← z,(hG.each x hx).1] at e;cases e)⟩
 refine ⟨TT,rfl,⟨_,SqL.of hLL.at_⟩,for_list (xs:=lrefs ls) (fun i σ H4=>∃(ps:List Pc) (ents:List Ent) (v5 v6:Option V),σ=[some (.ref l),some (.ref pb),some (.bl tied),some (.ref X),some (.ref Z),v5,v6]∧Same H H4∧LL H2 H4 TT ls∧H4 X=some (.lst (prefs ps))∧H4 Z=some (.lst (ents.map fun x=>V.ref x.1))∧ents.length≤i∧AllP H4 ps n∧ps.length≤30*i∧TiedAt es β tied i (ps.map (·.2))∧Each2 (fun r x=>EntAt H4 x r β tied) ((parts smp es es.length).take i) ents∧Own H ents∧(∀x∈ents,x.2.1≠X∧x.2.1≠Z∧x.2.2≠X∧x.2.2≠Z)) ?_ ?_ ?_ ?_⟩
 ·exact ⟨[],[],none,none,rfl,s02.trans s3,hLL,(s2.trans s3) _ _ e1,s3 _ _ e2,Nat.le_refl _,fun x hx=>absurd hx (by simp),Nat.le_refl _,⟨[],trivial,rfl⟩,trivial,⟨fun x hx=>absurd hx (by simp),by simp⟩,fun x hx=>absurd hx (by simp)⟩
 ·rintro i σ H4 _ ⟨ps,ents,v5,v6,rfl,s4,hL4,_⟩
  exact SqL.of hL4.at_
 ·rintro i x σ H4 hx ⟨ps,ents,v5,v6,rfl,s4,hL4,eX,eZ,hz,hps,hpl4,hti,hE,hO,hne⟩
  refine body_cut fun M B R hM _ _=>?_
  obtain ⟨x,gx,rfl⟩:=lrefs_at hx
  have hi:i<ls.length:=(List.getElem?_eq_some_iff.mp gx).1
  have hmx:=List.mem_of_getElem? gx
  have hp:(parts smp es es.length)[i]?=some x.2:=by rw [← hls,List.getElem?_map,gx];rfl
  obtain ⟨o1,o2,o3⟩:=parts_own es.length x.2 (List.mem_of_getElem? hp)
  rw [List.take_length] at o3
  obtain ⟨_,ex,_⟩:=hL4.each x hmx
  have hx1:1≤x.2.length:=List.length_pos_iff.mpr o1
  have hx30:=hrun _ (List.mem_of_getElem? hp)
  walk_at "v"
  refine ⟨x.1,pb,x.2,n,nb,β,tied,rfl,ex,fun z hz=>hR.up s4 z (o3.subset hz),o2,hri.sublist o3,hx1,by walk_at "o",hb.up s4,hn1,hn,hnb,fun y X' Z' pcs H5 s5 ey nX' eX' hpc htold TT' RR' hEn nT' nR' nTR'=>?_⟩
  have hpc30:=htold.len hx1
  rw [List.length_map] at hpc30
  have eX5:=s5 _ _ eX
  have eZ5:=s5 _ _ eZ
  have hL5:=hL4.up s5
  obtain ⟨a1,a2⟩:=own hLL (s2 _ _ e1)
  obtain ⟨b1,b2⟩:=own hLL e2
  walk_at "v"
  refine ⟨.inl ⟨rfl,_,SqL.of eX5⟩,?_⟩
  walk_at "v"
  refine r_ext eX5 eX' (by rw [prefs_len,prefs_len];exact Nat.le_of_lt (small1000 (by walk_at "o"))) ?_
  have eZ6:upd H5 X (.lst (prefs ps++prefs pcs)) Z=some (.lst (ents.map fun x=>V.ref x.1)):=by rw [upd_ne (Ne.symm nXZ)];exact eZ5
  have ey6:upd H5 X (.lst (prefs ps++prefs pcs)) y=some (.tup [.ref X',.ref Z']):=rm_up X H5 _ _ _ (rm_tup eX5 ey)
  walk_at "v"
  refine ⟨.inl ⟨rfl,_,SqL.of eZ6⟩,?_⟩
  walk_at "v"
  refine r_app eZ6 (by rw [List.length_map];exact small1000 (by walk_at "o")) ?_
  have nq:∀{A B:Addr} {v:List V},H4 A=none→H4 B=some (.lst v)→A≠B:=fun h1 h2 z=>by rw [z,h2] at h1;cases h1
  refine hM _ _ ⟨ps++pcs,ents++[(Z',TT',RR')],_,_,rfl,same_at (same_at (s4.trans s5) (n1)) (s1.free n2),(hL5.other a1 a2).other b1 b2,?_,by rw [upd_same,List.map_append];rfl,by simp;walk_at "o",((hps.up s5).append hpc).app eX5 |>.app eZ6,by simp;walk_at "o",?_,?_,hO.snoc s4 (fun y hy=>?_) nT' nR' nTR',fun y hy=>?_⟩
  ·rw [upd_ne nXZ,upd_same,prefs,prefs,prefs,List.map_append]
  ·rw [List.map_append]
   exact hti.snoc hp htold
  ·rw [List.take_add_one,hp]
   refine each2_snoc (each2_impR (fun r x hx f=>?_) hE) ?_
   ·obtain ⟨c1,c2,c3,c4⟩:=hne x hx
    exact ((f.up s5).put eX5 c1 c3).put eZ6 c2 c4
   ·exact (hEn.put eX5 (nq nT' eX) (nq nR' eX)).put eZ6 (nq nT' eZ) (nq nR' eZ)
  ·obtain ⟨r,t',ts',_,q2,_,q3,_⟩:=each2_memR hE y hy
   exact ⟨by rw [q2];simp,by rw [q3];simp⟩
  ·rcases List.mem_append.mp hy with z | z
   ·exact hne y z
   ·obtain rfl:y=(Z',TT',RR'):=by simpa using z
    exact ⟨nq nT' eX,nq nT' eZ,nq nR' eX,nq nR' eZ⟩
 ·rintro σ H4 ⟨ps,ents,v5,v6,rfl,s4,hL4,eX,eZ,hz,hps,hpl4,hti,hE,hO,hne⟩
  rw [lrefs_len] at hpl4 hti
  walk_at "v"
  refine r_new (mk:=.tup) (by simp) fun y H5 s5 n5 e5=>?_
  rw [hll] at hti
  rw [lrefs_len,hll,List.take_length] at hE
  exact k y X Z ps H5 (s4.trans s5) e5 n1 (s5 _ _ eX) (hps.up s5) (by walk_at "o") hti ents (s1.free n2) nXZ (s5 _ _ eZ) (each2_impR (fun _ _ _ f=>f.up s5) hE) hO hne
theorem sc_spans:FnScope ["row","bound"] ["row","bound"] (defScope s_spans):=⟨rfl,rfl,rfl,by decide +kernel,rfl,by decide +kernel,by decide +kernel⟩
theorem ok_spans (F:Fun K "spans" "spans" s_spans f fd) (T:Txt mg) (D_tied_row:Dn P w K mg base 7 "tied_row" ["row","bound","tied"] spTiedRow):FnOk P w K mg base CX0 8 f fd ["row","bound"] (spTold false):=by
 refine F.ok sc_spans (fun vs H Q E h=>?_) (fun cdv A outer s H vs Q E hr h=>?_)
 ·obtain ⟨l,pb,rfl,_⟩:=h
  rfl
 obtain ⟨l,pb,rfl,h⟩:=h
 refine J.q ⟨_,(J.h (J.k (J.l D_tied_row (hr.mono (by decide)) rfl (J.b (J.a 0) (J.b (J.a 1) (J.b J.ab J.d st_C) st_N) st_N) (he:=st_N) (hpl:=(anyc st_N (anyc st_C any0)))))),?_⟩
 walk_at "v"
 exact h
theorem sc_chain:FnScope ["row","bound"] ["row","bound"] (defScope s_chain):=⟨rfl,rfl,rfl,by decide +kernel,rfl,by decide +kernel,by decide +kernel⟩
theorem ok_chain (F:Fun K "chain" "chain" s_chain f fd) (T:Txt mg) (D_tied_row:Dn P w K mg base 7 "tied_row" ["row","bound","tied"] spTiedRow):FnOk P w K mg base CX0 8 f fd ["row","bound"] (spTold true):=by
 refine F.ok sc_chain (fun vs H Q E h=>?_) (fun cdv A outer s H vs Q E hr h=>?_)
 ·obtain ⟨l,pb,rfl,_⟩:=h
  rfl
 obtain ⟨l,pb,rfl,h⟩:=h
 refine J.q ⟨_,(J.h (J.k (J.l D_tied_row (hr.mono (by decide)) rfl (J.b (J.a 0) (J.b (J.a 1) (J.b J.ab J.d st_C) st_N) st_N) (he:=st_N) (hpl:=(anyc st_N (anyc st_C any0)))))),?_⟩
 walk_at "v"
 exact h
end

noncomputable def Seg (es:List Nn) (i:Nat) (ls:List (List Nn)) (c:List Nn):Prop:=(ls++[c]).filter (fun r=>!r.isEmpty)=parts nsm es i∧(inRun nsm es i=true↔c≠[])
theorem seg_gap {es:List Nn} {i:Nat} {ls:List (List Nn)} {c:List Nn} {e:Nn} (h:Seg es i ls c) (he:es[i]?=some e) (hs:nsm e=false):Seg es (i+1) (ls++[c]) []:=by
 obtain ⟨h1,h2⟩:=h
 refine ⟨?_,?_⟩
 ·rw [parts_gap he hs,← h1,List.filter_append (l₁:=ls++[c])]
  simp
 ·rw [inRun_succ he,hs]
  simp
theorem seg_on {es:List Nn} {i:Nat} {ls:List (List Nn)} {c:List Nn} {e:Nn} (h:Seg es i ls c) (he:es[i]?=some e) (hs:nsm e=true):Seg es (i+1) ls (c++[e]):=by
 obtain ⟨h1,h2⟩:=h
 refine ⟨?_,?_⟩
 ·rw [List.filter_append] at h1 ⊢
  cases hi:inRun nsm es i with
  | true=>
    have hc:=h2.mp hi
    have:(!c.isEmpty)=true:=by cases c with | nil=>exact absurd rfl hc | cons a b=>rfl
    rw [List.filter_cons,this,if_pos rfl,List.filter_nil] at h1
    rw [parts_on he hs hi h1.symm]
    simp
  | false=>
    have hc:c=[]:=Classical.byContradiction fun z=>by rw [h2.mpr z] at hi;cases hi
    subst hc
    rw [parts_new he hs hi,← h1]
    simp
 ·rw [inRun_succ he,hs]
  simp
structure VL (H H2:Hp) (T:Addr) (ls:List (Addr×List V)):Prop where
 new:H T=none
 at_:H2 T=some (.lst (ls.map fun x=>V.ref x.1))
 each:∀x∈ls,H x.1=none∧H2 x.1=some (.lst x.2)∧x.1≠T
 nd:(ls.map (·.1)).Nodup
section
variable {H H2 H3:Hp} {T R:Addr} {ls:List (Addr×List V)} {rn:List V}
theorem VL.up (h:VL H H2 T ls) (s:Same H2 H3):VL H H3 T ls:=⟨h.new,s _ _ h.at_,fun x hx=>let ⟨a,b,c⟩:=h.each x hx;⟨a,s _ _ b,c⟩,h.nd⟩
theorem VL.push (h:VL H H2 T ls) (hR:H R=none) (eR:H2 R=some (.lst rn)) (hT:R≠T) (hl:∀x∈ls,x.1≠R):VL H (upd H2 T (.lst (ls.map (fun x=>V.ref x.1)++[.ref R]))) T (ls++[(R,rn)]):=by
 refine ⟨h.new,by rw [upd_same];simp,fun x hx=>?_,?_⟩
 ·rcases List.mem_append.mp hx with z | z
  ·obtain ⟨a,b,c⟩:=h.each x z
   exact ⟨a,by rw [upd_ne c];exact b,c⟩
  ·obtain rfl:x=(R,rn):=by simpa using z
   exact ⟨hR,by rw [upd_ne hT];exact eR,hT⟩
 ·rw [List.map_append]
  refine List.nodup_append.mpr ⟨h.nd,by simp,fun a ha b hb=>?_⟩
  obtain ⟨x,hx,rfl⟩:=List.mem_map.mp ha
  obtain rfl:b=R:=by simpa using hb
  exact hl x hx
theorem VL.last {L:Addr} {c:List V} {x:V} (h:VL H H2 T (ls++[(L,c)])):VL H (upd H2 L (.lst (c++[x]))) T (ls++[(L,c++[x])]):=by
 obtain ⟨hL,eL,nL⟩:=h.each (L,c) (by simp)
 have hnd:=h.nd
 rw [List.map_append] at hnd
 have hne:∀y∈ls,y.1≠L:=fun y hy z=>(List.nodup_append.mp hnd).2.2 y.1 (List.mem_map.mpr ⟨y,hy,rfl⟩) L (by simp) z
 refine ⟨h.new,?_,fun y hy=>?_,by rw [List.map_append];exact hnd⟩
 ·rw [upd_ne (Ne.symm nL)]
  have:=h.at_
  simpa using this
 ·rcases List.mem_append.mp hy with z | z
  ·obtain ⟨a,b,c'⟩:=h.each y (List.mem_append_left _ z)
   exact ⟨a,by rw [upd_ne (hne y z)];exact b,c'⟩
  ·obtain rfl:y=(L,c++[x]):=by simpa using z
   exact ⟨hL,upd_same,nL⟩
end
noncomputable abbrev Nls:=List (Addr×List Nn)
noncomputable def nvl (ls:Nls):List (Addr×List V):=ls.map fun x=>(x.1,nvals x.2)
noncomputable def spNRuns:Sp:=fun vs H Q _=>∃(l:Addr) (es:List Nn) (m n:Nat),vs=[.ref l]∧H l=some (.lst (nvals es))∧NRow H es m n∧es.length≤40 ∧
 ∀(D:Addr) (ls:Nls) (H':Hp),Same H H'→H D=none→H' D=some (.lst (ls.map fun x=>V.ref x.1))→(∀x∈ls,H x.1=none∧H' x.1=some (.lst (nvals x.2)))→ls.map (·.2)=parts nsm es es.length→Q (.ref D) H'
section
variable {P:Program} {w:World} {K:PySem.W.Frag} {mg:Str→Option Value} {base:Heap} {f:Addr} {fd:FuncData}
theorem sc_law_runs:FnScope ["_law_row_here","_law_parts","_law_one"] ["_law_row_here"] (defScope s_law_runs):=⟨rfl,rfl,rfl,by decide +kernel,rfl,by decide +kernel,by decide +kernel⟩
theorem ok_law_runs (F:Fun K "_law_runs" "_law_runs" s_law_runs f fd) (T:Txt mg):FnOk P w K mg base CX0 1 f fd ["_law_row_here"] spNRuns:=by
 refine F.ok sc_law_runs (fun vs H Q E h=>?_) (fun cdv A outer s H vs Q E hr h=>?_)
 ·obtain ⟨l,es,m,n,rfl,_⟩:=h
  rfl
 obtain ⟨l,es,m,n,rfl,hl,hes,hn,k⟩:=h
 refine J.q ⟨_,(J.f (J.i (i:=1) sc_law_runs.nd rfl (Or.inl rfl) (J.s (J.b (J.s J.d) J.d st_L)) (hs:=sw_L))
  (J.f (J.t PassesOwn.never rfl (J.w K (J.a 0)) (J.n (i:=2) sc_law_runs.nd rfl (Or.inl rfl))
  (J.h (J.m (J.j op_isN (J.e (ixT K) (J.a 2) J.c (fun _ _=>rfl)) J.u (nomark _))
  (J.h (J.x (J.y K (J.a 1) (J.s J.d)) (hs:=sw_K)))
  (J.h (J.x (J.y K (J.e (ixL K) (J.a 1) (J.z un_neg J.c) (fun _ _=>rfl)) (J.a 2)) (hs:=sw_K))))))
  (J.h (J.k (Jd.pe_comp (O:=["_law_part"]) (N':=[]) (cap:=[]) rfl (J.w K (J.a 1)) (fun _ _ _ _ _=>(J.n (i:=0) (show List.Nodup [("_law_part":Str)] by decide +kernel) rfl (Or.inl rfl))) (fun _ _ _ _ _=>(Jd.pts_one (J.j op_gt (J.p (lenC K) rfl T.len_ PySem.boot_len (J.b (J.a 0) J.d st_N) (he:=st_N) (hpl:=any0)) J.c (nomark _)))) (fun _ _ _ _ _=>(J.a 0)) rfl trivial rfl (by decide +kernel) rfl (by decide +kernel)))))),?_⟩
 walk_at "v"
 refine r_new (mk:=.lst) (by simp) fun L0 H1 s1 n1 e1=>?_
 walk_at "v"
 refine r_new (mk:=.lst) (by simp) fun TT H2 s2 n2 e2=>?_
 have s02:=s1.trans s2
 walk_at "v"
 refine r_for (r_iL ?_)
 walk_at "v"
 refine ⟨l,rfl,⟨_,SqL.of (s02 _ _ hl)⟩,for_list (xs:=nvals es) (fun i σ H3=>∃(ls:Nls) (L:Addr) (c:List Nn) (v:Option V),σ=[some (.ref l),some (.ref TT),v]∧Same H H3∧VL H H3 TT (nvl ls++[(L,nvals c)])∧ls.length≤i∧c.length≤i∧Seg es i (ls.map (·.2)) c) ?_ ?_ ?_ ?_⟩
 ·refine ⟨[],L0,[],none,rfl,s02,⟨s1.free n2,e2,fun x hx=>?_,by simp [nvl]⟩,Nat.le_refl _,Nat.le_refl _,rfl,by simp [inRun]⟩
  obtain rfl:x=(L0,[]):=by simpa [nvl,nvals] using hx
  exact ⟨n1,s2 _ _ e1,fun z=>by rw [← z] at n2;exact absurd (n2.symm.trans e1) (by simp)⟩
 ·rintro i σ H3 _ ⟨ls,L,c,v,rfl,s3,_⟩
  exact SqL.of (s3 _ _ hl)
 ·rintro i x σ H3 hx ⟨ls,L,c,v,rfl,s3,hV,hls,hc,hseg⟩
  refine body_cut fun M B R hM _ _=>?_
  obtain ⟨e,he,rfl⟩:=nvals_at hx
  have hi:i<es.length:=(List.getElem?_eq_some_iff.mp he).1
  have fe:=((hes e (List.mem_of_getElem? he)).up s3).1
  have hat:=hV.at_
  walk_at "v"
  refine ⟨rfl,?_⟩
  walk_at "v"
  cases hs:e.2.2 with
  | none=>
    have hs':nsm e=false:=by unfold nsm;rw [hs];rfl
    refine iteT ?_
    walk_at "v"
    refine ⟨.inl ⟨rfl,_,SqL.of hat⟩,?_⟩
    walk_at "v"
    refine r_new (mk:=.lst) (by simp) fun R2 H4 s4 n4 e4=>?_
    walk_at "v"
    have hV4:=hV.up s4
    refine r_app hV4.at_ (by simp [nvl];exact small1000 (by walk_at "o")) ?_
    have hold:∀x∈nvl ls++[(L,nvals c)],x.1≠R2:=fun x hx z=>by
     rw [← z,(hV.each x hx).2.1] at n4
     cases n4
    refine hM _ _ ⟨ls++[(L,c)],R2,[],_,rfl,same_at (s3.trans s4) hV.new,?_,by simp;walk_at "o",Nat.zero_le _,?_⟩
    ·have:=hV4.push (s3.free n4) e4 (fun z=>by rw [z,hat] at n4;cases n4) hold
     rw [show nvl (ls++[(L,c)])=nvl ls++[(L,nvals c)] by simp [nvl]]
     exact this
    ·rw [List.map_append]
     exact seg_gap hseg he hs'
  | some z=>
    have hs':nsm e=true:=by unfold nsm;rw [hs];rfl
    refine iteF ?_
    walk_at "v"
    refine r_l hat (v:=.ref L) (by rw [List.map_append];exact at_last) ?_
    have eL:=(hV.each (L,nvals c) (by simp)).2.1
    refine ⟨.inl ⟨rfl,_,SqL.of eL⟩,?_⟩
    walk_at "v"
    refine r_app eL (by rw [nvals_len];exact small1000 (by walk_at "o")) ?_
    refine hM _ _ ⟨ls,L,c++[e],_,rfl,same_at s3 (hV.each (L,nvals c) (by simp)).1,?_,by walk_at "o",by simp;walk_at "o",seg_on hseg he hs'⟩
    rw [← nvals_snoc]
    exact hV.last
 ·rintro σ H3 ⟨ls,L,c,v,rfl,s3,hV,hls,hc,hseg⟩
  walk_at "v"
  refine r_iL ?_
  walk_at "v"
  rw [nvals_len] at hls hc hseg
  have hall:(nvl ls++[(L,nvals c)])=nvl (ls++[(L,c)]):=by simp [nvl]
  rw [hall] at hV
  have hat:=hV.at_
  generalize hus:ls++[(L,c)]=us at *
  have hul:us.length≤41:=by rw [← hus];simp;walk_at "o"
  have eu:(nvl us).map (fun x=>V.ref x.1)=us.map fun x=>V.ref x.1:=by unfold nvl;rw [List.map_map];rfl
  rw [eu] at hat
  refine ⟨TT,rfl,⟨_,SqL.of hat⟩,?_⟩
  refine compB_of (xs:=us.map fun x=>V.ref x.1) tells_list (fun H4 s4=>SqL.of (s4 _ _ hat)) (by rw [List.length_map];walk_at "o") (fun i ys G=>ys=((us.take i).filter fun x=>!x.2.isEmpty).map fun x=>V.ref x.1) rfl ?_ ?_
  ·rintro D i x ys H4 σ0 NN N0 h0 hD eD s4 hx hy rfl kY kN
   rw [List.getElem?_map] at hx
   obtain ⟨x,gx,rfl⟩:=Option.map_eq_some_iff.mp hx
   have ex:=(hV.each (x.1,nvals x.2) (List.mem_map.mpr ⟨x,List.mem_of_getElem? gx,rfl⟩)).2.1
   have ts:=PySem.take_succ_filter (fun x:Addr×List Nn=>!x.2.isEmpty) us i x gx
   refine r_own1 h0 ?_
   walk_at "v"
   refine r_len (.inl (SqL.of (s4 _ _ ex))) ?_
   rw [nvals_len]
   walk_at "v"
   refine ite2 (fun c1=>?_) (fun c1=>?_)
   ·have c1':=of_decide_eq_true c1
    walk_at "v"
    refine kY _ H4 (Same.refl _) ?_
    have:(!x.2.isEmpty)=true:=by cases hx2:x.2 with | nil=>rw [hx2] at c1';exact absurd c1' (by simp) | cons a b=>rfl
    rw [ts,this,if_pos rfl,List.map_append]
    rfl
   ·refine kN H4 (Same.refl _) ?_
    have:(!x.2.isEmpty)=false:=by cases hx2:x.2 with | nil=>rfl | cons a b=>rw [hx2] at c1;exact absurd (decide_eq_true (show (0:Int)<(((a::b).length:Nat):Int) by rw [List.length_cons];omega)) c1
    rw [ts,this,if_neg Bool.false_ne_true,List.append_nil]
  ·rintro D ys H4 hD eD s4 hy rfl
   rw [List.length_map,List.take_length] at eD
   refine k D _ H4 (s3.trans s4) (s3.free hD) eD (fun x hx=>?_) ?_
   ·have hx':=hV.each (x.1,nvals x.2) (List.mem_map.mpr ⟨x,(List.mem_filter.mp hx).1,rfl⟩)
    exact ⟨hx'.1,s4 _ _ hx'.2.1⟩
   ·have e:=hseg.1
    rw [← e,show ls.map (·.2)++[c]=us.map (·.2) by rw [← hus];simp,List.filter_map]
    rfl
end
noncomputable def gh (hs:List Nn) (b:Int):List En:=hs.map fun x=>(x.1,nworth b x.2)
theorem gh_map (hs:List Nn) (b:Int):(gh hs b).map (·.2)=hs.map (fun x=>nworth b x.2):=by unfold gh;rw [List.map_map];rfl
theorem gh_len (hs:List Nn) (b:Int):(gh hs b).length=hs.length:=List.length_map ..
theorem parts_map {α β:Type} (f:α→β) (s:β→Bool) (es:List α):∀i,(parts (fun x=>s (f x)) es i).map (List.map f)=parts s (es.map f) i
 | 0=>rfl
 | i+1=>by
   have ih:=parts_map f s es i
   have hr:inRun s (es.map f) i=inRun (fun x=>s (f x)) es i:=by
    unfold inRun
    rw [List.getElem?_map]
    cases es[i-1]? <;> rfl
   cases e:es[i]? with
   | none=>
     have e':(es.map f)[i]?=none:=by rw [List.getElem?_map,e];rfl
     unfold parts
     rw [e,e']
     exact ih
   | some x=>
     have e':(es.map f)[i]?=some (f x):=by rw [List.getElem?_map,e];rfl
     cases hs:s (f x) with
     | false=>rw [parts_gap (s:=fun x=>s (f x)) e hs,parts_gap e' hs,ih]
     | true=>
       cases hi:inRun (fun x=>s (f x)) es i with
       | false=>rw [parts_new (s:=fun x=>s (f x)) e hs hi,parts_new e' hs (hr.trans hi),List.map_append,ih];rfl
       | true=>
         obtain ⟨t,r,hp⟩:=parts_ne hi
         rw [parts_on (s:=fun x=>s (f x)) e hs hi hp,parts_on e' hs (hr.trans hi) (t:=t.map (List.map f)) (r:=r.map f) (by rw [← ih,hp,List.map_append];rfl)]
         simp
theorem each2_of {α β γ:Type} {f:α→γ} {g:β→γ}:∀{as:List α} {bs:List β},as.map f=bs.map g→Each2 (fun a b=>f a=g b) as bs
 | [],[],_=>trivial
 | _::_,_::_,h=>⟨(List.cons.inj h).1,each2_of (List.cons.inj h).2⟩
 | [],_::_,h=>nomatch h
 | _::_,[],h=>nomatch h
theorem runs_same {es:List En} {hs:List Nn} {b:Int} (h:es.map (·.2)=hs.map (fun x=>nworth b x.2)):Each2 (fun r r'=>r.map (·.2)=(gh r' b).map (·.2)) (parts smp es es.length) (parts nsm hs hs.length):=by
 have hl:es.length=hs.length:=link_len h
 refine each2_imp (R:=fun r r'=>r.map (·.2)=r'.map fun x=>nworth b x.2) (fun r r' _ e=>by rw [gh_map];exact e) (each2_of ?_)
 have a:=parts_map (fun x:En=>x.2) (fun v:Int×Option Rat=>v.2.isSome) es es.length
 have c:=parts_map (fun x:Nn=>nworth b x.2) (fun v:Int×Option Rat=>v.2.isSome) hs hs.length
 have e2:(fun x:Nn=>(nworth b x.2).2.isSome)=nsm:=funext fun x=>by unfold nworth nsm;simp
 rw [show (fun x:Nn=>(fun v:Int×Option Rat=>v.2.isSome) (nworth b x.2))=nsm from e2] at c
 have a':(parts smp es es.length).map (List.map fun x:En=>x.2)=parts (fun v:Int×Option Rat=>v.2.isSome) (es.map fun x=>x.2) es.length:=a
 rw [a',c,h,hl]

theorem sorted_eq {α:Type} {f:α→Int}:∀{l l':List α},l.Pairwise (fun a b=>f a<f b)→l'.Pairwise (fun a b=>f a<f b)→(∀x,x∈l↔x∈l')→l=l'
 | [],[],_,_,_=>rfl
 | [],b::u,_,_,h=>absurd ((h b).mpr (List.mem_cons_self ..)) (by simp)
 | a::t,[],_,_,h=>absurd ((h a).mp (List.mem_cons_self ..)) (by simp)
 | a::t,b::u,h1,h2,h=>by
   obtain ⟨a1,a2⟩:=List.pairwise_cons.mp h1
   obtain ⟨b1,b2⟩:=List.pairwise_cons.mp h2
   have ha:=(h a).mp (List.mem_cons_self ..)
   have hb:=(h b).mpr (List.mem_cons_self ..)
   have e:a=b:=by
    rcases List.mem_cons.mp ha with z | z
    ·exact z
    ·rcases List.mem_cons.mp hb with y | y
     ·exact y.symm
     ·have:=a1 b y
      have:=b1 a z
      walk_at "o"
   subst e
   rw [sorted_eq a2 b2 fun x=>?_]
   constructor
   ·intro hx
    rcases List.mem_cons.mp ((h x).mp (List.mem_cons_of_mem _ hx)) with z | z
    ·have:=a1 x hx
     rw [z] at this
     exact absurd this (Int.lt_irrefl _)
    ·exact z
   ·intro hx
    rcases List.mem_cons.mp ((h x).mpr (List.mem_cons_of_mem _ hx)) with z | z
    ·have:=b1 x hx
     rw [z] at this
     exact absurd this (Int.lt_irrefl _)
    ·exact z
theorem nrising_inj {hs:List Nn} (h:nrising hs) {x y:Nn} (hx:x∈hs) (hy:y∈hs) (e:x.2.1=y.2.1):x=y:=by
 obtain ⟨i,hi,rfl⟩:=List.getElem_of_mem hx
 obtain ⟨j,hj,rfl⟩:=List.getElem_of_mem hy
 rcases Nat.lt_trichotomy i j with z | z | z
 ·have:=List.pairwise_iff_getElem.mp h i j hi hj z
  walk_at "o"
 ·subst z;rfl
 ·have:=List.pairwise_iff_getElem.mp h j i hj hi z
  walk_at "o"
noncomputable def mAt (a b c:Int) (x:Nn):Bool:=decide (x.2.1=a)||(decide (x.2.1=b)||decide (x.2.1=c))
theorem mAt_iff {a b c:Int} {x:Nn}:mAt a b c x=true↔x.2.1=a∨x.2.1=b∨x.2.1=c:=by
 unfold mAt
 simp
theorem spots_are {hs:List Nn} (h:nrising hs) {i j k:Nat} {x y z:Nn} (hij:i<j) (hjk:j<k) (gx:hs[i]?=some x) (gy:hs[j]?=some y) (gz:hs[k]?=some z):hs.filter (mAt x.2.1 y.2.1 z.2.1)=[x,y,z]:=by
 have mx:=List.mem_of_getElem? gx
 have my:=List.mem_of_getElem? gy
 have mz:=List.mem_of_getElem? gz
 obtain ⟨hi,ex⟩:=List.getElem?_eq_some_iff.mp gx
 obtain ⟨hj,ey⟩:=List.getElem?_eq_some_iff.mp gy
 obtain ⟨hk,ez⟩:=List.getElem?_eq_some_iff.mp gz
 have l1:=List.pairwise_iff_getElem.mp h i j hi hj hij
 have l2:=List.pairwise_iff_getElem.mp h j k hj hk hjk
 rw [ex,ey] at l1
 rw [ey,ez] at l2
 refine sorted_eq (f:=fun x:Nn=>x.2.1) (h.filter _) ?_ fun u=>?_
 ·simp only [List.pairwise_cons,List.mem_cons,List.not_mem_nil,or_false]
  refine ⟨fun v hv=>?_,fun v hv=>?_,fun v hv=>hv.elim,List.Pairwise.nil⟩
  ·rcases hv with rfl | rfl
   ·exact l1
   ·walk_at "o"
  ·subst hv;exact l2
 ·rw [List.mem_filter,mAt_iff]
  constructor
  ·rintro ⟨hu,e | e | e⟩
   ·rw [nrising_inj h hu mx e];simp
   ·rw [nrising_inj h hu my e];simp
   ·rw [nrising_inj h hu mz e];simp
  ·intro hu
   simp at hu
   rcases hu with rfl | rfl | rfl
   ·exact ⟨mx,.inl rfl⟩
   ·exact ⟨my,.inr (.inl rfl)⟩
   ·exact ⟨mz,.inr (.inr rfl)⟩
theorem ints_eqvAll:∀as bs:List Int,PyData.eqvAll (as.map PyData.int) (bs.map PyData.int)=decide (as=bs)
 | [],[]=>rfl
 | [],_::_=>rfl
 | _::_,[]=>rfl
 | a::as,b::bs=>by
   show (PyData.eqv (.int a) (.int b)&&PyData.eqvAll (as.map PyData.int) (bs.map PyData.int))=_
   rw [ints_eqvAll as bs]
   have:PyData.eqv (.int a) (.int b)=decide (a=b):=by
    show (a==b)=_
    exact Bool.eq_iff_iff.mpr (by simp)
   rw [this]
   by_cases h1:a=b <;> by_cases h2:as=bs <;> simp [h1,h2]
theorem ints_shape:∀as:List Int,PyData.canLayAll0 (as.map PyData.int)=true∧PyData.depthAll (as.map PyData.int)≤3
 | []=>⟨rfl,by decide⟩
 | a::as=>by
   obtain ⟨c,d⟩:=ints_shape as
   refine ⟨?_,?_⟩
   ·show ((PyData.int a).canLay0&&PyData.canLayAll0 (as.map PyData.int))=true
    rw [c];rfl
   ·show max (PyData.int a).depth (PyData.depthAll (as.map PyData.int))≤3
    have:(PyData.int a).depth≤3:=Nat.le_trans (Nat.le_of_eq (show (PyData.int a).depth=(PyData.int 0).depth from rfl)) (by decide)
    walk_at "o"
theorem ints_shaped (as:List Int):SeqAt.shaped (.tuple (as.map PyData.int))=true:=by
 obtain ⟨a,b⟩:=ints_shape as
 unfold SeqAt.shaped
 rw [Bool.and_eq_true]
 refine ⟨a,decide_eq_true ?_⟩
 show PyData.depthAll (as.map PyData.int)+1≤64
 walk_at "o"
theorem ints_dens {H:Hp}:∀as:List Int,Dens H (as.map V.int) (as.map PyData.int)
 | []=>.nil
 | a::as=>.cons (.int a) (ints_dens as)
theorem tups_eq {H:Hp} {p r:Addr} {as bs:List Int} {Q:VK} (hp:H p=some (.tup (as.map V.int))) (hr:H r=some (.tup (bs.map V.int))) (k:Q (.bl (decide (as=bs))) H):rEqD (.ref p) (.ref r) H Q:=by
 refine ⟨_,_,.tup hp (ints_dens as),.tup hr (ints_dens bs),ints_shaped as,ints_shaped bs,?_⟩
 have:PyData.eqv (.tuple (as.map PyData.int)) (.tuple (bs.map PyData.int))=PyData.eqvAll (as.map PyData.int) (bs.map PyData.int):=rfl
 rw [this,ints_eqvAll]
 exact k
theorem inV_three {m a b c:Int}:inV (.int m) [.int a,.int b,.int c]=(decide (m=a)||(decide (m=b)||decide (m=c))):=by
 have e:∀p q:Int,eqV (.int p) (.int q)=decide (p=q):=fun p q=>by show (p==q)=_;exact Bool.eq_iff_iff.mpr (by rw [beq_iff_eq,decide_eq_true_iff])
 have c':∀p q:Int,decide (p=q)=decide (q=p):=fun p q=>decide_eq_decide.mpr ⟨Eq.symm,Eq.symm⟩
 unfold inV
 simp only [List.any_cons,List.any_nil,e,Bool.or_false]
 first
  | rfl
  | rw [c' a m,c' b m,c' c m]
section
variable {P:Program} {w:World} {K:PySem.W.Frag} {mg:Str→Option Value} {base:Heap} {f:Addr} {fd:FuncData}
end

noncomputable def lgood (q:Int×Int):Bool:=decide (1≤q.2)&&decide (Int.gcd q.1 q.2=1)
noncomputable def spIsFr:Sp:=fun vs H Q _=>∃(p:Addr) (a b:Int),vs=[.ref p]∧H p=some (.tup [.int a,.int b])∧Sz 8000 a∧Sz 8000 b∧∀H',Same H H'→Q (.bl (lgood (a,b))) H'
section
variable {P:Program} {w:World} {K:PySem.W.Frag} {mg:Str→Option Value} {base:Heap} {f:Addr} {fd:FuncData}
theorem sc_is_fraction:FnScope ["pair"] ["pair"] (defScope s_is_fraction):=⟨rfl,rfl,rfl,by decide +kernel,rfl,by decide +kernel,by decide +kernel⟩
theorem ok_is_fraction (F:Fun K "is_fraction" "is_fraction" s_is_fraction f fd) (D_divisor:Dn P w K mg base 2 "divisor" ["one","other"] spDivisor):FnOk P w K mg base CX0 3 f fd ["pair"] spIsFr:=by
 refine F.ok sc_is_fraction (fun vs H Q E h=>?_) (fun cdv A outer s H vs Q E hr h=>?_)
 ·obtain ⟨p,a,b,rfl,_⟩:=h
  rfl
 obtain ⟨p,a,b,rfl,hp,za,zb,k⟩:=h
 refine J.q ⟨_,(J.h (J.k (Jd.pe_and (J.ac op_ge (J.e (ixT K) (J.a 0) J.c (fun _ _=>rfl)) J.c (nomark _)) (Jd.pe_one (J.ac op_eq (J.l D_divisor (hr.mono (by decide)) rfl (J.b (J.e (ixT K) (J.a 0) J.c (fun _ _=>rfl)) (J.b (J.e (ixT K) (J.a 0) J.c (fun _ _=>rfl)) J.d st_S) st_S) (he:=st_S) (hpl:=(anyc st_S any0))) J.c (nomark _)))))),?_⟩
 walk_at "v"
 unfold lgood at k
 refine ite2 (fun c=>?_) (fun c=>?_)
 ·rw [decide_eq_true (of_decide_eq_true c)] at k
  walk_at "v"
  refine ⟨a,b,rfl,za,zb,fun H1 s1=>?_⟩
  walk_at "v"
  have:=k H1 s1
  rw [Bool.true_and] at this
  have e:decide (((Int.gcd a b:Nat):Int)=1)=decide (Int.gcd a b=1):=decide_eq_decide.mpr (by walk_at "o")
  rw [e]
  exact this
 ·rw [decide_eq_false (of_decide_eq_false (Bool.eq_false_iff.mpr c))] at k
  exact k H (Same.refl _)
end

theorem call_listK {X:Cx} (K:PySem.W.Frag) (h:autoParam (X.K=K) au0_._auto_1):CallR X (.type "list") (fun xs H Q=>∃p ys,xs=[.ref p]∧(SqL K H p ys∨SqT K H p ys)∧∀l,H l=none→Q (.ref l) (upd H l (.lst ys))):=h▸call_list_of
theorem told_last {es:List En} {β:Rat} {tied:Bool} {t:Nat→Int} {l:List (Rat×Rat×Rat×Rat)} (h1:1≤es.length) (h:Told es β tied l) (hf:Fair (Lead es β tied) (es.length+shft tied) t):(l.length:Int)=if 1>t (es.length+shft tied-1) then 1 else t (es.length+shft tied-1):=by
 obtain ⟨t',ps,hf',hw,rfl⟩:=h
 have e:=fair_eq hf hf' (es.length+shft tied-1) (by walk_at "o")
 rw [List.length_map,e]
 have lab:∀{L:Nat→Nat→Prop} {p:Nat} {ps:List (Nat×Nat)},Way L t' p ps→(ps.length:Int)=t' p:=fun {L p ps} h=>by
  induction h with
  | nil=>rw [hf'.first];rfl
  | @cons a p ps f w ih=>
    rw [List.length_append,List.length_singleton]
    have:=f.2.2.1
    walk_at "o"
 have hl:=lab hw
 by_cases z:es.length+shft tied=1
 ·rw [if_pos z,z,Nat.sub_self,hf'.first]
  rfl
 ·rw [if_neg z,hl]
  have pos:∀{L:Nat→Nat→Prop} {p:Nat} {ps:List (Nat×Nat)},Way L t' p ps→0<p→1≤ps.length:=fun {L p ps} h hp=>by
   cases h with
   | nil=>walk_at "o"
   | cons f w=>
     rw [List.length_append,List.length_singleton]
     walk_at "o"
  have:=pos hw (by walk_at "o")
  rw [if_neg (by walk_at "o")]
theorem each2_len {α β:Type} {R:α→β→Prop}:∀{as:List α} {bs:List β},Each2 R as bs→as.length=bs.length
 | [],[],_=>rfl
 | _::_,_::_,h=>by rw [List.length_cons,List.length_cons,each2_len h.2]
 | [],_::_,h=>h.elim
 | _::_,[],h=>h.elim
theorem each2_get {α β:Type} {R:α→β→Prop}:∀{as:List α} {bs:List β} {i:Nat} {a:α},Each2 R as bs→as[i]?=some a→∃b,bs[i]?=some b∧R a b
 | _::_,b::_,0,a,h,e=>⟨b,rfl,by cases e;exact h.1⟩
 | _::_,_::_,i+1,a,h,e=>by
   obtain ⟨b,g,r⟩:=each2_get (i:=i) h.2 (by simpa using e)
   exact ⟨b,by simpa using g,r⟩
 | [],[],_,_,_,e=>by simp at e
 | [],_::_,_,_,h,_=>h.elim
 | _::_,[],_,_,h,_=>h.elim
noncomputable def edat (v:List Int×List (Int×Int×Int)):PyData:=.tuple [.list (v.1.map PyData.int),.list (v.2.map tdat)]
noncomputable def EntD (H:Hp) (x:Ent) (v:List Int×List (Int×Int×Int)):Prop:=H x.1=some (.tup [.ref x.2.1,.ref x.2.2])∧H x.2.1=some (.lst (v.1.map V.int))∧∃ts:List Th,H x.2.2=some (.lst (threfs ts))∧AllT H ts∧ts.map (·.2)=v.2
theorem EntD.den {H:Hp} {x:Ent} {v:List Int×List (Int×Int×Int)} (h:EntD H x v):Den H (.ref x.1) (edat v):=by
 obtain ⟨e1,e2,ts,e3,e4,e5⟩:=h
 have d:=e4.dens
 rw [show (ts.map fun x=>tdat x.2)=(ts.map (·.2)).map tdat by rw [List.map_map];rfl,e5] at d
 exact .tup e1 (.cons (.lst e2 (ints_dens v.1)) (.cons (.lst e3 d) .nil))
theorem ents_dens {H:Hp}:∀{xs:List Ent} {vs:List (List Int×List (Int×Int×Int))},Each2 (EntD H) xs vs→Dens H (xs.map fun x=>V.ref x.1) (vs.map edat)
 | [],[],_=>.nil
 | _::_,_::_,h=>.cons h.1.den (ents_dens h.2)
 | [],_::_,h=>h.elim
 | _::_,[],h=>h.elim
theorem edats_eqv:∀vs:List (List Int×List (Int×Int×Int)),PyData.eqvAll (vs.map edat) (vs.map edat)=true
 | []=>rfl
 | v::vs=>by
   show ((PyData.eqvAll (v.1.map PyData.int) (v.1.map PyData.int)&&(PyData.eqvAll (v.2.map tdat) (v.2.map tdat)&&true))&&PyData.eqvAll (vs.map edat) (vs.map edat))=true
   rw [ints_eqvAll,tdats_eqv,edats_eqv vs,decide_eq_true rfl]
   rfl
theorem edats_shape:∀vs:List (List Int×List (Int×Int×Int)),PyData.canLayAll0 (vs.map edat)=true∧PyData.depthAll (vs.map edat)≤8
 | []=>⟨rfl,by decide⟩
 | v::vs=>by
   obtain ⟨c,d⟩:=edats_shape vs
   obtain ⟨c1,d1⟩:=ints_shape v.1
   obtain ⟨c2,d2⟩:=tdats_shape v.2
   refine ⟨?_,?_⟩
   ·show ((PyData.canLayAll0 (v.1.map PyData.int)&&(PyData.canLayAll0 (v.2.map tdat)&&true))&&PyData.canLayAll0 (vs.map edat))=true
    rw [c,c1,c2];rfl
   ·show max (edat v).depth (PyData.depthAll (vs.map edat))≤8
    have:(edat v).depth≤8:=by
     show max (PyData.depthAll (v.1.map PyData.int)+1) (max (PyData.depthAll (v.2.map tdat)+1) 0)+1≤8
     walk_at "o"
    walk_at "o"
theorem ents_ne {H:Hp} {l l':Addr} {xs ys:List Ent} {vs:List (List Int×List (Int×Int×Int))} {Q:VK} (h:Each2 (EntD H) xs vs) (h':Each2 (EntD H) ys vs) (hl:H l=some (.lst (xs.map fun x=>V.ref x.1))) (hl':H l'=some (.lst (ys.map fun x=>V.ref x.1))) (q:Q (.bl false) H):rNeD (.ref l) (.ref l') H Q:=by
 have sh:SeqAt.shaped (.list (vs.map edat))=true:=by
  obtain ⟨a,b⟩:=edats_shape vs
  unfold SeqAt.shaped
  rw [Bool.and_eq_true]
  refine ⟨a,decide_eq_true ?_⟩
  show PyData.depthAll (vs.map edat)+1≤64
  walk_at "o"
 refine ⟨_,_,.lst hl (ents_dens h),.lst hl' (ents_dens h'),sh,sh,?_⟩
 have:PyData.eqv (.list (vs.map edat)) (.list (vs.map edat))=true:=edats_eqv _
 rw [this]
 exact q
theorem EntD.mv {H G:Hp} {x:Ent} {v:List Int×List (Int×Int×Int)} (h:EntD H x v) (tup:∀{b:Addr} {xs:List V},H b=some (.tup xs)→G b=some (.tup xs)) (h1:∀{v:List V},H x.2.1=some (.lst v)→G x.2.1=some (.lst v)) (h2:∀{v:List V},H x.2.2=some (.lst v)→G x.2.2=some (.lst v)):EntD G x v:=by
 obtain ⟨e1,e2,ts,e3,e4,e5⟩:=h
 exact ⟨tup e1,h1 e2,ts,h2 e3,fun u hu=>tup (e4 u hu),e5⟩
theorem cutl (xs:List V) (n:Nat):cutV xs none (some (n:Int))=xs.take n:=by
 unfold cutV
 rw [HT.sIx_nat,show HT.sIx xs.length 0 none=0 from rfl,List.drop_zero,Nat.sub_zero]
 rcases Nat.le_total n xs.length with z | z
 ·rw [Nat.min_eq_left z]
 ·rw [Nat.min_eq_right z,List.take_of_length_le z,List.take_of_length_le (Nat.le_refl _)]
theorem EntD.up {H H':Hp} {x:Ent} {v:List Int×List (Int×Int×Int)} (h:EntD H x v) (s:Same H H'):EntD H' x v:=h.mv (fun e=>s _ _ e) (fun e=>s _ _ e) (fun e=>s _ _ e)

noncomputable abbrev Pv2:=List Int×List (Int×Int×Int)
noncomputable def Gd (es:List En) (β:Rat) (at_:Bool) (t:Int×Int×Int):Prop:=∃i j k,i<j∧j<k∧k<es.length∧mo es i=t.1∧mo es j=t.2.1∧mo es k=t.2.2∧0<rabs (sd es i j k)∧(β<rabs (sd es i j k)∨(at_=true∧rabs (sd es i j k)=β))
noncomputable def OkP (es:List En) (β:Rat) (tied at_:Bool) (v:Pv2):Prop:=v.1.length=es.length+shft tied∧v.1.getD 0 0≤0∧∀i j,i<j→j<v.1.length→v.1.getD i 0+1<v.1.getD j 0→∃t∈v.2,Gd es β at_ t∧t.1=mo es i∧t.2.2=mo es (j-shft tied)
noncomputable def mx (ns:List Int):Int:=if ns.getD (ns.length-1) 0>1 then ns.getD (ns.length-1) 0 else 1
open Classical in
noncomputable def shO (es:List En) (β:Rat) (tied at_:Bool) (v:Pv2):Option Int:=if OkP es β tied at_ v then some (mx v.1) else none
noncomputable def dueV (o:Option Int):V:=match o with | none=>.non | some n=>.int n
noncomputable def allO (os:List (Option Int)):Option Int:=if os.any Option.isNone then none else some (os.map (·.getD 0)).sum
noncomputable def shT (rs:List (List En)) (β:Rat) (tied at_:Bool) (vs:List Pv2):Option Int:=if vs.length≠rs.length then none else allO (List.zipWith (fun r v=>shO r β tied at_ v) rs vs)
theorem sd_congr {es es':List En} (h:es.map (·.2)=es'.map (·.2)) (i j k:Nat):sd es i j k=sd es' i j k:=by
 unfold sd
 rw [(mo_congr h i).1,(mo_congr h i).2,(mo_congr h j).1,(mo_congr h j).2,(mo_congr h k).1,(mo_congr h k).2]
theorem len_congr {es es':List En} (h:es.map (·.2)=es'.map (·.2)):es.length=es'.length:=by
 have:=congrArg List.length h
 simpa using this
theorem gd_congr {es es':List En} (h:es.map (·.2)=es'.map (·.2)) {β:Rat} {at_:Bool} {t:Int×Int×Int} (g:Gd es β at_ t):Gd es' β at_ t:=by
 obtain ⟨i,j,k,h1,h2,h3,a,b,c,d,e⟩:=g
 rw [(mo_congr h i).1] at a
 rw [(mo_congr h j).1] at b
 rw [(mo_congr h k).1] at c
 rw [sd_congr h] at d e
 exact ⟨i,j,k,h1,h2,by rw [← len_congr h];exact h3,a,b,c,d,e⟩
theorem ok_congr {es es':List En} (h:es.map (·.2)=es'.map (·.2)) {β:Rat} {tied at_:Bool} {v:Pv2} (g:OkP es β tied at_ v):OkP es' β tied at_ v:=by
 obtain ⟨a,b,c⟩:=g
 refine ⟨by rw [← len_congr h];exact a,b,fun i j h1 h2 h3=>?_⟩
 obtain ⟨t,ht,g,e1,e2⟩:=c i j h1 h2 h3
 exact ⟨t,ht,gd_congr h g,by rw [← (mo_congr h i).1];exact e1,by rw [← (mo_congr h _).1];exact e2⟩
theorem shO_congr {es es':List En} (h:es.map (·.2)=es'.map (·.2)) {β:Rat} {tied at_:Bool} {v:Pv2}:shO es β tied at_ v=shO es' β tied at_ v:=by
 unfold shO
 by_cases g:OkP es β tied at_ v
 ·rw [if_pos g,if_pos (ok_congr h g)]
 ·rw [if_neg g,if_neg fun z=>g (ok_congr h.symm z)]
theorem shO_some {es:List En} {β:Rat} {tied at_:Bool} {v:Pv2} (h:OkP es β tied at_ v):shO es β tied at_ v=some (mx v.1):=by unfold shO;rw [if_pos h]
theorem shO_none {es:List En} {β:Rat} {tied at_:Bool} {v:Pv2} (h:¬OkP es β tied at_ v):shO es β tied at_ v=none:=by unfold shO;rw [if_neg h]
theorem zip_congr {β:Rat} {tied at_:Bool}:∀{rs rs':List (List En)} {vs:List Pv2},Each2 (fun r r'=>r.map (·.2)=r'.map (·.2)) rs rs'→List.zipWith (fun r v=>shO r β tied at_ v) rs vs=List.zipWith (fun r v=>shO r β tied at_ v) rs' vs
 | [],[],_,_=>rfl
 | _::_,_::_,[],_=>rfl
 | r::rs,r'::rs',v::vs,h=>by
   rw [List.zipWith_cons_cons,List.zipWith_cons_cons,shO_congr h.1,zip_congr h.2]
 | [],_::_,_,h=>h.elim
 | _::_,[],_,h=>h.elim
theorem shT_congr {rs rs':List (List En)} (h:Each2 (fun r r'=>r.map (·.2)=r'.map (·.2)) rs rs') {β:Rat} {tied at_:Bool} {vs:List Pv2}:shT rs β tied at_ vs=shT rs' β tied at_ vs:=by
 unfold shT
 rw [zip_congr h,each2_len h]
noncomputable def wy (hs:List Nn) (c:Int) (at_:Bool) (i j k:Nat):Bool:=decide (0<((nsd hs i j k).natAbs:Int))&&(decide (c*(nmo hs k-nmo hs i)<((nsd hs i j k).natAbs:Int))||(at_&&decide (((nsd hs i j k).natAbs:Int)=c*(nmo hs k-nmo hs i))))
theorem wy_iff {hs:List Nn} {b c:Int} {at_:Bool} {i j k:Nat} (hb:1≤b) (hri:nrising hs) (hik:i<k) (hk:k<hs.length):wy hs c at_ i j k=true↔0<rabs (sd (gh hs b) i j k)∧((c:Rat)/(b:Rat)<rabs (sd (gh hs b) i j k)∨(at_=true∧rabs (sd (gh hs b) i j k)=(c:Rat)/(b:Rat))):=by
 have ht:=nmo_lt hri hik hk
 have hp:=cast_pos (b:=(nmo hs k-nmo hs i)*b) (Int.mul_pos (by omega) (by omega))
 have hb':=cast_ne (b:=b) (by omega)
 have e1:((c:Rat)/(b:Rat))*(((nmo hs k-nmo hs i)*b:Int):Rat)=((c*(nmo hs k-nmo hs i):Int):Rat):=by
  simp only [Rat.intCast_mul,Rat.intCast_sub]
  grind
 have e2:=link_abs (gh_map hs b) (k:=j) hb ht
 generalize (((nmo hs k-nmo hs i)*b:Int):Rat)=D at *
 generalize rabs (sd (gh hs b) i j k)=S at *
 have f0:(0:Int)<((nsd hs i j k).natAbs:Int)↔0<S:=by
  rw [← Rat.intCast_lt_intCast,e2]
  exact ⟨fun z=>Rat.lt_of_mul_lt_mul_right (by grind) (Rat.le_of_lt hp),fun z=>by have:=Rat.mul_pos z hp;grind⟩
 have f1:c*(nmo hs k-nmo hs i)<((nsd hs i j k).natAbs:Int)↔(c:Rat)/(b:Rat)<S:=by
  rw [← Rat.intCast_lt_intCast,e2,← e1]
  exact ⟨fun z=>Rat.lt_of_mul_lt_mul_right z (Rat.le_of_lt hp),fun z=>Rat.mul_lt_mul_of_pos_right z hp⟩
 have f2:((nsd hs i j k).natAbs:Int)=c*(nmo hs k-nmo hs i)↔S=(c:Rat)/(b:Rat):=by
  rw [← Rat.intCast_inj,e2,← e1]
  have hD:D≠0:=by grind
  exact ⟨fun z=>by grind,fun z=>by rw [z]⟩
 unfold wy
 rw [Bool.and_eq_true,Bool.or_eq_true,Bool.and_eq_true,decide_eq_true_iff,decide_eq_true_iff,decide_eq_true_iff,f0,f1,f2]
theorem gh_mo (hs:List Nn) (b:Int) (k:Nat):mo (gh hs b) k=nmo hs k:=(link_at (gh_map hs b) k).1
noncomputable def GdN (hs:List Nn) (c:Int) (at_:Bool) (t:Int×Int×Int):Prop:=∃i j k,i<j∧j<k∧k<hs.length∧nmo hs i=t.1∧nmo hs j=t.2.1∧nmo hs k=t.2.2∧wy hs c at_ i j k=true
theorem gdN_iff {hs:List Nn} {b c:Int} {at_:Bool} {t:Int×Int×Int} (hb:1≤b) (hri:nrising hs):GdN hs c at_ t↔Gd (gh hs b) ((c:Rat)/(b:Rat)) at_ t:=by
 constructor
 ·rintro ⟨i,j,k,h1,h2,h3,a,b',c',d⟩
  obtain ⟨x,y⟩:=(wy_iff (b:=b) hb hri (by omega) h3).mp d
  exact ⟨i,j,k,h1,h2,by rw [gh_len];exact h3,by rw [gh_mo];exact a,by rw [gh_mo];exact b',by rw [gh_mo];exact c',x,y⟩
 ·rintro ⟨i,j,k,h1,h2,h3,a,b',c',d,e⟩
  rw [gh_mo] at a b' c'
  rw [gh_len] at h3
  exact ⟨i,j,k,h1,h2,h3,a,b',c',(wy_iff hb hri (by omega) h3).mpr ⟨d,e⟩⟩
theorem nmo_inj {hs:List Nn} (h:nrising hs) {i j:Nat} (hi:i<hs.length) (hj:j<hs.length) (e:nmo hs i=nmo hs j):i=j:=by
 rcases Nat.lt_trichotomy i j with z | z | z
 ·have:=nmo_lt h z hj;omega
 ·exact z
 ·have:=nmo_lt h z hi;omega
theorem mo_inj {es:List En} (h:rising es) {i j:Nat} (hi:i<es.length) (hj:j<es.length) (e:mo es i=mo es j):i=j:=by
 rcases Nat.lt_trichotomy i j with z | z | z
 ·have:=mo_lt h z hj;omega
 ·exact z
 ·have:=mo_lt h z hi;omega
theorem mem_jout' {α:Type} {c:Nat→Nat→Bool} {v:Nat→Nat→α} {N n i j:Nat} (hi:i<n) (hij:i<j) (hj:j<N) (hc:c i j=true):v i j∈jout c v N n:=by
 unfold jout
 refine List.mem_flatMap.mpr ⟨i,List.mem_range.mpr hi,?_⟩
 unfold jin
 refine List.mem_map.mpr ⟨j-(i+1),List.mem_filter.mpr ⟨List.mem_range.mpr (by omega),?_⟩,?_⟩
 ·rw [show i+1+(j-(i+1))=j by omega];exact hc
 ·rw [show i+1+(j-(i+1))=j by omega]
theorem shft_le (tied:Bool):shft tied≤1:=by unfold shft;split <;> omega
theorem getD_range {N j:Nat} {t:Nat→Int} (h:j<N):((List.range N).map t).getD j 0=t j:=by
 rw [List.getD_eq_getElem?_getD,List.getElem?_map,List.getElem?_range h]
 rfl
theorem ent_ok {H:Hp} {x:Ent} {es:List En} {β:Rat} {tied:Bool} {l:List (Rat×Rat×Rat×Rat)} (h:EntAt H x es β tied) (h1:1≤es.length) (hb:0≤β) (ht:Told es β tied l):∃v,EntD H x v∧(∀at_,OkP es β tied at_ v)∧mx v.1=(l.length:Int)∧v.1.length=es.length+shft tied∧v.2.length≤(es.length+shft tied)*(es.length+shft tied):=by
 obtain ⟨t,ts,e1,e2,hf,e3,e4,e5⟩:=h
 have hsh:=shft_le tied
 refine ⟨((List.range (es.length+shft tied)).map t,ts.map (·.2)),⟨e1,?_,ts,e3,e4,rfl⟩,fun at_=>⟨by rw [List.length_map,List.length_range],?_,fun i j hij hj hlt=>?_⟩,?_,by rw [List.length_map,List.length_range],?_⟩
 ·rw [e2]
  unfold intsV
  rw [List.map_map]
  rfl
 ·rw [getD_range (by omega),hf.first];exact Int.le_refl _
 ·rw [List.length_map,List.length_range] at hj
  rw [getD_range (by omega),getD_range hj] at hlt
  have hjm:jmp t i j=true:=by unfold jmp;exact decide_eq_true hlt
  have hm:=mem_jout' (v:=three es (shft tied)) (n:=es.length+shft tied) (by omega) hij hj hjm
  rw [← e5] at hm
  refine ⟨_,hm,?_,rfl,rfl⟩
  have hng:¬Good es β i (j-shft tied):=fun z=>by
   have:=hf.le i j hij hj ((lead_good hij hj).mpr z)
   omega
  unfold Good at hng
  rw [Classical.not_forall] at hng
  obtain ⟨q,hq⟩:=hng
  rw [Classical.not_imp] at hq
  obtain ⟨q1,hq⟩:=hq
  rw [Classical.not_imp] at hq
  obtain ⟨q2,hq⟩:=hq
  have hq:β<rabs (sd es i q (j-shft tied)):=by grind
  obtain ⟨k,hk⟩:=far_ex (s:=fun k=>rabs (sd es i k (j-shft tied))) (i:=i) (j:=j-shft tied) (by omega)
  have hkm:rabs (sd es i q (j-shft tied))≤rabs (sd es i k (j-shft tied)):=hk.top q q1 q2
  have hfk:=farOf_eq hk
  have l1:=hk.lo
  have l2:=hk.hi
  refine ⟨i,k,j-shft tied,l1,l2,by omega,rfl,?_,rfl,by grind,.inl (by grind)⟩
  show mo es k=mo es (farOf _ i (j-shft tied))
  rw [hfk]
 ·have:=told_last h1 ht hf
  rw [this]
  unfold mx
  rw [List.length_map,List.length_range,getD_range (by omega)]
  split <;> split <;> omega
 ·rw [e5]
  exact jout_len _ _ _ _
theorem zip_all {β:Rat} {tied:Bool} {at_:Bool}:∀{rs:List (List En)} {vs:List Pv2} {ls:List (List (Rat×Rat×Rat×Rat))},Each2 (fun r v=>OkP r β tied at_ v) rs vs→Each2 (fun v l=>mx v.1=(l.length:Int)) vs ls→List.zipWith (fun r v=>shO r β tied at_ v) rs vs=ls.map fun l=>some (l.length:Int)
 | [],[],[],_,_=>rfl
 | r::rs,v::vs,l::ls,h,g=>by
   rw [List.zipWith_cons_cons,shO_some h.1,zip_all h.2 g.2,g.1]
   rfl
 | [],_::_,_,h,_=>h.elim
 | _::_,[],_,h,_=>h.elim
 | [],[],_::_,_,g=>g.elim
 | _::_,_::_,[],_,g=>g.elim
theorem allO_lens (ls:List (List (Rat×Rat×Rat×Rat))):allO (ls.map fun l=>some (l.length:Int))=some (ls.flatten.length:Int):=by
 unfold allO
 rw [if_neg (by simp)]
 congr 1
 induction ls with
 | nil=>rfl
 | cons l ls ih=>
   rw [List.map_cons,List.map_cons,List.sum_cons,ih,List.flatten_cons,List.length_append]
   show (l.length:Int)+_=_
   omega

theorem d_str (a b:Str):decide (V.str a=V.str b)=decide (a=b):=decide_eq_decide.mpr ⟨fun z=>V.str.inj z,fun z=>by rw [z]⟩
theorem r_eqs {a b:Str} {H:Hp} {Q:VK} (q:Q (.bl (decide (a=b))) H):rEq (.str a) (.str b) H Q:=⟨rfl,by rw [d_str];exact q⟩
theorem qt_nn {t b:Int} {q:Rat} (h:Qt t b q) (hq:0≤q):0≤t:=by
 have hb:(0:Rat)≤(b:Rat):=by have:=cast_pos (b:=b) (by have:=h.pos;omega);grind
 have:((0:Int):Rat)≤(t:Rat):=by rw [h.eq];exact Rat.mul_nonneg hq hb
 exact Rat.intCast_le_intCast.mp this
noncomputable def wst (tied:Bool):Str:=if tied=true then "chain" else "spans"
theorem fr_lgood {t b:Int} {q:Rat} (h:Fr t b q):lgood (t,b)=true:=by
 unfold lgood
 rw [decide_eq_true (show (1:Int)≤b by have:=h.pos;omega),decide_eq_true h.co]
 rfl
theorem mo_at {es:List En} {i:Nat} {x:En} (h:es[i]?=some x):mo es i=x.2.1:=by unfold mo;rw [h];rfl
noncomputable def spWrongG:Sp:=fun vs H Q _=>∃(l:Addr) (es:List En) (n i:Nat),vs=[.ref l,.int (i:Int)]∧H l=some (.lst (vals es))∧Row H es n∧rising es∧i<es.length∧es.length≤40∧n≤8000∧∀H',Same H H'→Q (.bl false) H'
noncomputable def spCheckedG:Sp:=fun vs H Q _=>∃(l:Addr) (es:List En) (n:Nat),vs=[.ref l]∧H l=some (.lst (vals es))∧Row H es n∧rising es∧es.length≤40∧n≤8000∧∀(R:Addr) (H':Hp),Same H H'→H R=none→H' R=some (.lst (vals es))→Q (.ref R) H'
noncomputable def spWay4:Sp:=fun vs H Q _=>∃tied:Bool,vs=[.str (wst tied)]∧Q .non H
noncomputable def spBound:Sp:=fun vs H Q _=>∃(p:Addr) (t b:Int),vs=[.ref p]∧H p=some (.tup [.int t,.int b])∧0≤t∧Q .non H
noncomputable def spToldBy:Sp:=fun vs H Q E=>∃(l pb:Addr) (tied:Bool),vs=[.ref l,.str (wst tied),.ref pb]∧spTiedRow [.ref l,.ref pb,.bl tied] H Q E
noncomputable def spFewT:Sp:=fun vs H Q _=>∃(l pb:Addr) (es:List En) (n nb:Nat) (β:Rat) (tied:Bool),vs=[.ref l,.str (wst tied),.ref pb]∧H l=some (.lst (vals es))∧Row H es n∧rising es∧es.length≤40∧(parts smp es es.length).length≤33∧(∀r∈parts smp es es.length,r.length≤30)∧QtAt H pb β nb∧0≤β∧1≤n∧n≤900∧nb≤1000 ∧
 ∀(y X Z:Addr) (ps:List Pc) (H':Hp),Same H H'→H' y=some (.tup [.ref X,.ref Z])→H' X=some (.lst (prefs ps))→ps.length≤990→TiedAt es β tied (parts smp es es.length).length (ps.map (·.2))→∀ents:List Ent,H' Z=some (.lst (ents.map fun x=>V.ref x.1))→Each2 (fun r x=>EntAt H' x r β tied) (parts smp es es.length) ents→Q (.ref y) H'
section
variable {P:Program} {w:World} {K:PySem.W.Frag} {mg:Str→Option Value} {base:Heap} {f g_WAYS:Addr} {fd:FuncData}
theorem sc_is_wrong:FnScope ["row","place","value"] ["row","place"] (defScope s_is_wrong):=⟨rfl,rfl,rfl,by decide +kernel,rfl,by decide +kernel,by decide +kernel⟩
theorem ok_is_wrong (F:Fun K "is_wrong" "is_wrong" s_is_wrong f fd) (T:Txt mg) (C_MOST:Cn mg "MOST" 40) (D_is_fraction:Dn P w K mg base 3 "is_fraction" ["pair"] spIsFr):FnOk P w K mg base CX0 4 f fd ["row","place"] spWrongG:=by
 refine F.ok sc_is_wrong (fun vs H Q E h=>?_) (fun cdv A outer s H vs Q E hr h=>?_)
 ·obtain ⟨l,es,n,i,rfl,_⟩:=h
  rfl
 obtain ⟨l,es,n,i,rfl,hl,hR,hri,hi,h40,hn,k⟩:=h
 obtain ⟨x,hx⟩:∃x,es[i]?=some x:=⟨_,List.getElem?_eq_getElem hi⟩
 obtain ⟨v,ev,hv,hq⟩:=(hR x (List.mem_of_getElem? hx)).obj
 refine J.q (Jd.cut 2 (fun σ H'=>σ=[some (.ref l),some (.int (i:Int)),none]∧H'=H) ?_ fun u hu hR'=>?_)
 ·refine ⟨_,(J.f (J.i (i:=2) sc_is_wrong.nd rfl (Or.inl rfl) (J.e (ixT K) (J.e (ixL K) (J.a 0) (J.a 1) (fun _ _=>rfl)) J.c (fun _ _=>rfl)) (hs:=sw_S))
   (J.h (J.k (Jd.pe_and (J.ac op_notN (J.a 2) J.u (nomark _)) (Jd.pe_one (Jd.pe_not (J.l D_is_fraction (hr.mono (by decide)) rfl (J.b (J.a 2) J.d st_N) (he:=st_N) (hpl:=any0)))))))),?_⟩
  rintro σ H1 ⟨rfl,rfl⟩
  walk_at "v"
  refine r_l hl (at_val hx rfl) ?_
  walk_at "v"
  refine ⟨rfl,?_⟩
  walk_at "v"
  rcases hq with rfl | ⟨p,q,rfl,hq,t,b,ep,fr,zt,zb⟩
  ·refine iteF ?_
   exact k H1 (Same.refl _)
  ·refine iteT ?_
   walk_at "v"
   refine ⟨p,t,b,rfl,ep,zt.mono hn,zb.mono hn,fun H2 s2=>?_⟩
   rw [fr_lgood fr]
   walk_at "v"
   exact k H2 s2
 refine ⟨_,(J.f (J.m (J.j op_ge (J.a 1) (Jd.pe_cn rfl C_MOST) (nomark _))
  (J.h (J.k J.ab))
  J.o)
  (J.f (J.m (J.aa (J.am (J.j op_gt (J.a 1) J.c (nomark _)) (J.ao (J.j op_le (J.e (ixT K) (J.e (ixL K) (J.a 0) (J.a 1) (fun _ _=>rfl)) J.c (fun _ _=>rfl)) (J.e (ixT K) (J.e (ixL K) (J.a 0) (J.g op_sub (J.a 1) J.c) (fun _ _=>rfl)) J.c (fun _ _=>rfl)) (nomark _)))))
  (J.h (J.k J.ab))
  J.o)
  hu)),?_⟩
 walk_at "v"
 rw [decide_eq_false (show ¬(i:Int)≥40 by omega)]
 refine iteF ?_
 walk_at "v"
 refine ite2 (fun c=>?_) (fun c=>?_)
 ·have c:(i:Int)>0:=of_decide_eq_true c
  obtain ⟨y,hy⟩:∃y,es[i-1]?=some y:=⟨_,List.getElem?_eq_getElem (by omega)⟩
  obtain ⟨v',ev',_⟩:=(hR y (List.mem_of_getElem? hy)).obj
  have hlt:=mo_lt hri (show i-1<i by omega) hi
  rw [mo_at hx,mo_at hy] at hlt
  walk_at "v"
  refine r_l hl (at_val hx rfl) ?_
  walk_at "v"
  refine r_l hl (at_val hy (by omega)) ?_
  walk_at "v"
  rw [decide_eq_false (show ¬x.2.1≤y.2.1 by omega)]
  refine iteF ?_
  walk_at "v"
  exact hR' _ _ ⟨rfl,rfl⟩
 ·walk_at "v"
  refine iteF ?_
  walk_at "v"
  exact hR' _ _ ⟨rfl,rfl⟩
theorem sc_checked:FnScope ["row","place"] ["row"] (defScope s_checked):=⟨rfl,rfl,rfl,by decide +kernel,rfl,by decide +kernel,by decide +kernel⟩
theorem ok_checked (F:Fun K "checked" "checked" s_checked f fd) (T:Txt mg) (D_is_wrong:Dn P w K mg base 4 "is_wrong" ["row","place"] spWrongG):FnOk P w K mg base CX0 5 f fd ["row"] spCheckedG:=by
 refine F.ok sc_checked (fun vs H Q E h=>?_) (fun cdv A outer s H vs Q E hr h=>?_)
 ·obtain ⟨l,es,n,rfl,_⟩:=h
  rfl
 obtain ⟨l,es,n,rfl,hl,hR,hri,h40,hn,k⟩:=h
 refine J.q ⟨_,(J.f (J.t PassesOwn.never rfl (J.al rfl T.range (J.b (J.p (lenC K) rfl T.len_ PySem.boot_len (J.b (J.a 0) J.d st_N) (he:=st_N) (hpl:=any0)) J.d st_K)) (J.n (i:=1) sc_checked.nd rfl (Or.inl rfl))
  (J.h (J.m (J.ad (J.l D_is_wrong (hr.mono (by decide)) rfl (J.b (J.a 0) (J.b (J.a 1) J.d st_N) st_N) (he:=st_N) (hpl:=(anyc st_N any0))))
  (J.h Jd.ps_never)
  J.o)))
  (J.h (J.k (J.af (call_listK K) rfl T.list_ PyProof.Rows.boot_list (J.b (J.a 0) J.d st_N))))),?_⟩
 walk_at "v"
 refine r_for (r_rng1 ?_)
 walk_at "v"
 refine r_len (.inl (SqL.of hl)) ?_
 rw [vals_len]
 walk_at "v"
 refine ⟨_,rfl,by omega,by omega,for_range (fun i σ H3=>Same H H3∧∃v:Option V,σ=[some (.ref l),v]) ⟨Same.refl _,none,rfl⟩ ?_ ?_⟩
 ·rintro i σ H3 hi ⟨s3,v,rfl⟩
  have hi:i<es.length:=by simpa using hi
  rw [show (0:Int)+(i:Int)=(i:Int) by omega]
  walk_at "v"
  refine ⟨l,es,n,i,rfl,s3 _ _ hl,hR.up s3,hri,hi,h40,hn,fun H4 s4=>?_⟩
  walk_at "v"
  refine iteF ?_
  walk_at "v"
  exact ⟨s3.trans s4,_,rfl⟩
 ·rintro σ H3 ⟨s3,v,rfl⟩
  walk_at "v"
  refine ⟨l,_,rfl,.inl (SqL.of (s3 _ _ hl)),fun R nR=>?_⟩
  exact k R _ (s3.trans (same_new nR _)) (s3.free nR) upd_same
theorem sc_check_way:FnScope ["way"] ["way"] (defScope s_check_way):=⟨rfl,rfl,rfl,by decide +kernel,rfl,by decide +kernel,by decide +kernel⟩
theorem ok_check_way (F:Fun K "check_way" "check_way" s_check_way f fd) (W_WAYS:mg "WAYS"=some (.ref g_WAYS)) (hw:∀H,SqT K H g_WAYS [.str "apart",.str "joined",.str "spans",.str "chain"]):FnOk P w K mg base CX0 1 f fd ["way"] spWay4:=by
 refine F.ok sc_check_way (fun vs H Q E h=>?_) (fun cdv A outer s H vs Q E hr h=>?_)
 ·obtain ⟨tied,rfl,_⟩:=h
  rfl
 obtain ⟨tied,rfl,k⟩:=h
 refine J.q ⟨_,(J.h (J.m (J.j (notInSeq K) (J.a 0) (Jd.pe_xi rfl W_WAYS) rfl)
  (J.h Jd.ps_never)
  J.o)),?_⟩
 walk_at "v"
 refine ⟨g_WAYS,_,rfl,.inr (hw H),rfl,by decide,?_⟩
 have e:inV (.str (wst tied)) [V.str "apart",.str "joined",.str "spans",.str "chain"]=true:=by cases tied <;> decide
 rw [e]
 walk_at "v"
 refine iteF ?_
 walk_at "v"
 exact k
theorem sc_check_bound:FnScope ["bound"] ["bound"] (defScope s_check_bound):=⟨rfl,rfl,rfl,by decide +kernel,rfl,by decide +kernel,by decide +kernel⟩
theorem ok_check_bound (F:Fun K "check_bound" "check_bound" s_check_bound f fd):FnOk P w K mg base CX0 1 f fd ["bound"] spBound:=by
 refine F.ok sc_check_bound (fun vs H Q E h=>?_) (fun cdv A outer s H vs Q E hr h=>?_)
 ·obtain ⟨p,t,b,rfl,_⟩:=h
  rfl
 obtain ⟨p,t,b,rfl,hp,h0,k⟩:=h
 refine J.q ⟨_,(J.h (J.m (J.j op_lt (J.e (ixT K) (J.a 0) J.c (fun _ _=>rfl)) J.c (nomark _))
  (J.h Jd.ps_never)
  J.o)),?_⟩
 walk_at "v"
 rw [decide_eq_false (show ¬t<0 by omega)]
 refine iteF ?_
 walk_at "v"
 exact k
theorem sc_told_by:FnScope ["row","way","bound"] ["row","way","bound"] (defScope s_told_by):=⟨rfl,rfl,rfl,by decide +kernel,rfl,by decide +kernel,by decide +kernel⟩
theorem ok_told_by (F:Fun K "told_by" "told_by" s_told_by f fd) (D_spans:Dn P w K mg base 8 "spans" ["row","bound"] (spTold false)) (D_chain:Dn P w K mg base 8 "chain" ["row","bound"] (spTold true)):FnOk P w K mg base CX0 9 f fd ["row","way","bound"] spToldBy:=by
 refine F.ok sc_told_by (fun vs H Q E h=>?_) (fun cdv A outer s H vs Q E hr h=>?_)
 ·obtain ⟨l,pb,tied,rfl,_⟩:=h
  rfl
 obtain ⟨l,pb,tied,rfl,h⟩:=h
 refine J.q ⟨_,(J.f (J.m (J.j op_eq (J.a 1) Jd.pe_str (nomark _))
  (J.h Jd.ps_never)
  J.o)
  (J.f (J.m (J.j op_eq (J.a 1) Jd.pe_str (nomark _))
  (J.h Jd.ps_never)
  J.o)
  (J.f (J.m (J.j op_eq (J.a 1) Jd.pe_str (nomark _))
  (J.h (J.k (J.l D_spans (hr.mono (by decide)) rfl (J.b (J.a 0) (J.b (J.a 2) J.d st_N) st_N) (he:=st_N) (hpl:=(anyc st_N any0)))))
  J.o)
  (J.h (J.k (J.l D_chain (hr.mono (by decide)) rfl (J.b (J.a 0) (J.b (J.a 2) J.d st_N) st_N) (he:=st_N) (hpl:=(anyc st_N any0)))))))),?_⟩
 walk_at "v"
 refine r_eqs ?_
 walk_at "v"
 rw [show decide (wst tied=Str.ofString "apart")=false by cases tied <;> decide]
 refine iteF ?_
 walk_at "v"
 refine r_eqs ?_
 walk_at "v"
 rw [show decide (wst tied=Str.ofString "joined")=false by cases tied <;> decide]
 refine iteF ?_
 walk_at "v"
 refine r_eqs ?_
 walk_at "v"
 cases tied with
 | true=>
   rw [show decide (wst true=Str.ofString "spans")=false by decide]
   refine iteF ?_
   walk_at "v"
   exact ⟨l,pb,rfl,h⟩
 | false=>
   rw [show decide (wst false=Str.ofString "spans")=true by decide]
   refine iteT ?_
   walk_at "v"
   exact ⟨l,pb,rfl,h⟩
theorem sc_fewest:FnScope ["row","way","bound"] ["row","way","bound"] (defScope s_fewest):=⟨rfl,rfl,rfl,by decide +kernel,rfl,by decide +kernel,by decide +kernel⟩
theorem ok_fewest (F:Fun K "fewest" "fewest" s_fewest f fd) (D_check_way:Dn P w K mg base 1 "check_way" ["way"] spWay4) (D_check_bound:Dn P w K mg base 1 "check_bound" ["bound"] spBound) (D_checked:Dn P w K mg base 5 "checked" ["row"] spCheckedG) (D_told_by:Dn P w K mg base 9 "told_by" ["row","way","bound"] spToldBy):FnOk P w K mg base CX0 10 f fd ["row","way","bound"] spFewT:=by
 refine F.ok sc_fewest (fun vs H Q E h=>?_) (fun cdv A outer s H vs Q E hr h=>?_)
 ·obtain ⟨l,pb,es,n,nb,β,tied,rfl,_⟩:=h
  rfl
 obtain ⟨l,pb,es,n,nb,β,tied,rfl,hl,hR,hri,h40,h33,h30,hb,hβ,n1,n9,nbb,k⟩:=h
 obtain ⟨t,b,ep,fr,zt,zb⟩:=hb
 have ht:0≤t:=qt_nn fr hβ
 refine J.q ⟨_,(J.f (J.x (J.l D_check_way (hr.mono (by decide)) rfl (J.b (J.a 1) J.d st_N) (he:=st_N) (hpl:=any0)) (hs:=sw_K))
  (J.f (J.x (J.l D_check_bound (hr.mono (by decide)) rfl (J.b (J.a 2) J.d st_N) (he:=st_N) (hpl:=any0)) (hs:=sw_K))
  (J.h (J.k (J.l D_told_by (hr.mono (by decide)) rfl (J.b (J.l D_checked (hr.mono (by decide)) rfl (J.b (J.a 0) J.d st_N) (he:=st_N) (hpl:=any0)) (J.b (J.a 1) (J.b (J.a 2) J.d st_N) st_N) st_K) (he:=st_K) (hpl:=(anyc st_N (anyc st_N any0)))))))),?_⟩
 walk_at "v"
 refine ⟨tied,rfl,?_⟩
 walk_at "v"
 refine ⟨pb,t,b,rfl,ep,ht,?_⟩
 walk_at "v"
 refine ⟨l,es,n,rfl,hl,hR,hri,h40,by omega,fun R H1 s1 nR eR=>?_⟩
 walk_at "v"
 refine ⟨R,pb,tied,rfl,R,pb,es,n,nb,β,tied,rfl,eR,hR.up s1,hri,h40,h33,h30,⟨t,b,s1 _ _ ep,fr,zt,zb⟩,n1,n9,nbb,fun y X Z ps H2 s2 ey nX eX hP hpl hT ents nZ hXZ eZ hE _ _=>?_⟩
 exact k y X Z ps H2 (s1.trans s2) ey eX hpl hT ents eZ hE
end

noncomputable def KnI (H:Hp) (p:Addr) (es:List En) (m:Nat):Prop:=∃kvs:List (Key×V),H p=some (.dK kvs)∧kvs.length≤m∧(∀k x,k<m→es[k]?=some x→∃q,valV kvs (.inl (mo es k))=some (.ref q)∧H q=some (.tup [.int 0,.ref x.1]))∧∀t,(∀k,k<m→mo es k≠t)→valV kvs (.inl t)=none
theorem KnI.up {H H':Hp} {p:Addr} {es:List En} {m:Nat} (h:KnI H p es m) (s:Same H H'):KnI H' p es m:=by
 obtain ⟨kvs,e,l,a,b⟩:=h
 exact ⟨kvs,s _ _ e,l,fun k x hk hx=>let ⟨q,v,g⟩:=a k x hk hx;⟨q,v,s _ _ g⟩,b⟩
theorem r_iT {K:PySem.W.Frag} {te:TE} {σ:L2.St} {H:Hp} {R:It→Hp→Prop} (h:te σ H fun x H1=>∃a,x=.ref a∧(∃xs,SqT K H1 a xs)∧R (Itt K a) H1):iTup K te σ H R:=h
noncomputable def Spot (es:List En) (t:Int×Int×Int) (i j k:Nat):Prop:=i<j∧j<k∧k<es.length∧mo es i=t.1∧mo es j=t.2.1∧mo es k=t.2.2
noncomputable def spKnown1:Sp:=fun vs H Q _=>∃(F l:Addr) (es:List En) (n:Nat),vs=[.ref F]∧H F=some (.lst [.ref l])∧H l=some (.lst (vals es))∧Row H es n∧rising es∧es.length≤40∧∀(p:Addr) (H':Hp),Same H H'→H p=none→KnI H' p es es.length→Q (.ref p) H'
noncomputable def spSoT:Sp:=fun vs H Q _=>∃(p:Addr) (t:Th) (es:List En),vs=[.ref p,.ref t.1]∧KnI H p es es.length∧ThAt H t∧rising es ∧
 ((¬ ∃i j k,Spot es t.2 i j k)→∀H',Same H H'→Q .non H')∧∀(i j k:Nat) (x y z:En),Spot es t.2 i j k→es[i]?=some x→es[j]?=some y→es[k]?=some z→∀(R:Addr) (H':Hp),Same H H'→H' R=some (.lst [.ref x.1,.ref y.1,.ref z.1])→Q (.ref R) H'
noncomputable def spIsGood:Sp:=fun vs H Q _=>∃(p pl:Addr) (t:Th) (es:List En) (n nb:Nat) (β:Rat) (at_:Bool),vs=[.ref p,.ref t.1,.ref pl,.bl at_]∧KnI H p es es.length∧ThAt H t∧Row H es n∧AllS es∧rising es∧QtAt H pl β nb∧n≤900∧nb≤1000∧∀(r:Bool) (H':Hp),Same H H'→(r=true↔Gd es β at_ t.2)→Q (.bl r) H'
noncomputable abbrev Pr2:=Addr×Int×Int
noncomputable def AllPr2 (H:Hp) (ps:List Pr2):Prop:=∀x∈ps,H x.1=some (.tup [.int x.2.1,.int x.2.2])
noncomputable def jmpL (ns:List Int) (i j:Nat):Bool:=decide (ns.getD j 0>ns.getD i 0+1)
noncomputable def outr (es:List En) (sh i j:Nat):Int×Int:=(mo es i,mo es (j-sh))
noncomputable def spBarred:Sp:=fun vs H Q _=>∃(l L:Addr) (es:List En) (n:Nat) (ns:List Int) (tied:Bool),vs=[.ref l,.ref L,.bl tied]∧H l=some (.lst (vals es))∧Row H es n∧H L=some (.lst (ns.map V.int))∧ns.length=es.length+shft tied∧es.length≤30 ∧
 ∀(R:Addr) (ps:List Pr2) (H':Hp),Same H H'→H' R=some (.lst (ps.map fun x=>V.ref x.1))→AllPr2 H' ps→ps.map (·.2)=jout (jmpL ns) (outr es (shft tied)) ns.length ns.length→ps.length≤961→Q (.ref R) H'
noncomputable def spPor:Sp:=fun vs H Q _=>∃(l pb:Addr) (x:Ent) (es:List En) (v:Pv2) (n nb:Nat) (β:Rat) (tied at_:Bool),vs=[.ref l,.bl tied,.ref pb,.ref x.1,.bl at_]∧H l=some (.lst (vals es))∧Row H es n∧AllS es∧rising es∧1≤es.length∧es.length≤30∧QtAt H pb β nb∧n≤900∧nb≤1000∧EntD H x v∧v.1.length≤1000∧v.2.length≤1000∧∀H',Same H H'→Q (dueV (shO es β tied at_ v)) H'
noncomputable def pvOk (vs:List Pv2):Prop:=∀v∈vs,v.1.length≤1000∧v.2.length≤1000
noncomputable def spPbn:Sp:=fun vs H Q _=>∃(l pb Z:Addr) (xs:List Ent) (es:List En) (us:List Pv2) (n nb:Nat) (β:Rat) (tied at_:Bool),vs=[.ref l,.str (wst tied),.ref pb,.ref Z,.bl at_]∧H l=some (.lst (vals es))∧Row H es n∧rising es∧es.length≤40∧(∀r∈parts smp es es.length,r.length≤30)∧QtAt H pb β nb∧n≤900∧nb≤1000∧H Z=some (.lst (xs.map fun x=>V.ref x.1))∧Each2 (EntD H) xs us∧pvOk us∧us.length≤900∧∀H',Same H H'→Q (dueV (shT (parts smp es es.length) β tied at_ us)) H'
noncomputable def spShows:Sp:=fun vs H Q _=>∃(l pb Z:Addr) (xs:List Ent) (es:List En) (us:List Pv2) (n nb:Nat) (β:Rat) (tied at_:Bool) (num:Int),vs=[.ref l,.str (wst tied),.ref pb,.int num,.ref Z,.bl at_]∧H l=some (.lst (vals es))∧Row H es n∧rising es∧es.length≤40∧(∀r∈parts smp es es.length,r.length≤30)∧QtAt H pb β nb∧n≤900∧nb≤1000∧H Z=some (.lst (xs.map fun x=>V.ref x.1))∧Each2 (EntD H) xs us∧pvOk us∧us.length≤900 ∧
 ∀H',Same H H'→Q (.bl (match shT (parts smp es es.length) β tied at_ us with | none=>false | some m=>decide (num≤m))) H'
section
variable {P:Program} {w:World} {K:PySem.W.Frag} {mg:Str→Option Value} {base:Heap} {f:Addr} {fd:FuncData}
theorem sc_known_of:FnScope ["found","known","place","run","sample"] ["found"] (defScope s_known_of):=⟨rfl,rfl,rfl,by decide +kernel,rfl,by decide +kernel,by decide +kernel⟩
theorem ok_known_of (F:Fun K "known_of" "known_of" s_known_of f fd) (T:Txt mg):FnOk P w K mg base CX0 1 f fd ["found"] spKnown1:=by
 refine F.ok sc_known_of (fun vs H Q E h=>?_) (fun cdv A outer s H vs Q E hr h=>?_)
 ·obtain ⟨F,l,es,n,rfl,_⟩:=h
  rfl
 obtain ⟨F,l,es,n,rfl,hF,hl,hR,hri,h40,k⟩:=h
 have hu64:=hr.units
 refine J.q ⟨_,(J.f (J.i (i:=1) sc_known_of.nd rfl (Or.inl rfl) Jd.pe_dnewK)
  (J.f (J.t PassesOwn.never rfl (Jd.pi_enum K rfl T.enumerate_ (J.b (J.a 0) J.d st_N)) (Jd.pgT K (n:=2) rfl (J.v (J.n (i:=2) sc_known_of.nd rfl (Or.inl rfl)) (J.v (J.n (i:=3) sc_known_of.nd rfl (Or.inl rfl)) J.ae)))
  (J.h (J.t PassesOwn.never rfl (J.w K (J.a 3)) (J.n (i:=4) sc_known_of.nd rfl (Or.inl rfl))
  (J.h (Jd.ps_dput hu64 (J.a 1) (J.e (ixT K) (J.a 4) J.c (fun _ _=>rfl)) (J.r (J.b (J.a 2) (J.b (J.a 4) J.d st_N) st_N)))))))
  (J.h (J.k (J.a 1))))),?_⟩
 walk_at "v"
 refine r_dnewK fun p H1 s1 n1 e1=>?_
 walk_at "v"
 refine r_for (r_enum ?_)
 walk_at "v"
 refine ⟨F,_,rfl,SqL.of (s1 _ _ hF),for_enum (xs:=[.ref l]) (fun i σ H3=>∃(v2 v3 v4:Option V),σ=[some (.ref F),some (.ref p),v2,v3,v4]∧Same H H3∧KnI H3 p es (if i=0 then 0 else es.length)) ?_ ?_ ?_ ?_⟩
 ·exact ⟨none,none,none,rfl,s1,[],e1,Nat.le_refl _,fun k x hk=>absurd hk (by rw [if_pos rfl];omega),fun t _=>rfl⟩
 ·rintro i σ H3 _ ⟨v2,v3,v4,rfl,s3,_⟩
  exact SqL.of (s3 _ _ hF)
 ·rintro i v σ H3 q H4 hv ⟨v2,v3,v4,rfl,s3,I⟩ s4 nq eq
  obtain rfl:i=0:=by
   have:=(List.getElem?_eq_some_iff.mp hv).1
   simp at this
   exact this
  obtain rfl:v=.ref l:=by simpa using hv.symm
  have I4:=I.up s4
  rw [if_pos rfl] at I4
  refine r_unpack2 eq ?_
  walk_at "v"
  dsimp only
  refine r_for (r_iL ?_)
  walk_at "v"
  have s04:=s3.trans s4
  refine ⟨l,rfl,⟨_,SqL.of (s04 _ _ hl)⟩,for_list (xs:=vals es) (fun j σ H5=>∃v4:Option V,σ=[some (.ref F),some (.ref p),some (.int ((0:Nat):Int)),some (.ref l),v4]∧Same H H5∧KnI H5 p es j) ⟨_,rfl,s04,I4⟩ ?_ ?_ ?_⟩
  ·rintro j σ H5 _ ⟨v4,rfl,s5,_⟩
   exact SqL.of (s5 _ _ hl)
  ·rintro j v σ H5 hv ⟨v4,rfl,s5,kvs,eK,hlen,ha,hb⟩
   obtain ⟨x,hx,rfl⟩:=vals_at hv
   have hj:=(List.getElem?_eq_some_iff.mp hx).1
   obtain ⟨vv,ev,_,_⟩:=((hR.up s5) x (List.mem_of_getElem? hx)).obj
   walk_at "ve"
   refine r_new (mk:=.tup) (by simp) fun z H6 s6 n6 e6=>?_
   have ev6:=s6 _ _ ev
   walk_at "ve"
   have eK6:=s6 _ _ eK
   refine ⟨p,_,rfl,DPut.k (k:=Sum.inl x.2.1) eK6 (small1000 (by omega)),?_⟩
   have np:∀{a:Addr} {xs:List V},H6 a=some (.tup xs)→upd H6 p (.dK (putK kvs (Sum.inl x.2.1) (.ref z))) a=some (.tup xs):=fun {a xs} e=>by
    rw [upd_ne (fun q=>by rw [q,eK6] at e;cases e)];exact e
   refine ⟨_,rfl,same_at (s5.trans s6) n1,_,upd_same,Nat.le_trans (length_putK _ _ _) (by omega),fun k' x' hk hx'=>?_,fun t ht=>?_⟩
   ·rw [valV_put]
    by_cases e:k'=j
    ·subst e
     rw [hx] at hx'
     cases hx'
     rw [mo_at hx,if_pos rfl]
     exact ⟨z,rfl,np e6⟩
    ·have hne:mo es k'≠x.2.1:=fun z=>e (mo_inj hri (List.getElem?_eq_some_iff.mp hx').1 hj (by rw [z,mo_at hx]))
     rw [if_neg (fun z=>hne (Sum.inl.inj z))]
     obtain ⟨q',g1,g2⟩:=ha k' x' (by omega) hx'
     exact ⟨q',g1,np (s6 _ _ g2)⟩
   ·rw [valV_put,if_neg (fun z=>ht j (by omega) (by rw [mo_at hx];exact (Sum.inl.inj z).symm))]
    exact hb t fun k' hk=>ht k' (by omega)
  ·rintro σ H5 ⟨v4,rfl,s5,I5⟩
   rw [vals_len] at I5
   exact ⟨_,_,_,rfl,s5,by rw [if_neg (by omega)];exact I5⟩
 ·rintro σ H3 ⟨v2,v3,v4,rfl,s3,I⟩
  have I:KnI H3 p es es.length:=I
  walk_at "v"
  exact k p H3 s3 n1 I
theorem sc_samples_of_three:FnScope ["known","three","found"] ["known","three"] (defScope s_samples_of_three):=⟨rfl,rfl,rfl,by decide +kernel,rfl,by decide +kernel,by decide +kernel⟩
theorem ok_samples_of_three (F:Fun K "samples_of_three" "samples_of_three" s_samples_of_three f fd) (T:Txt mg):FnOk P w K mg base CX0 1 f fd ["known","three"] spSoT:=by
 refine F.ok sc_samples_of_three (fun vs H Q E h=>?_) (fun cdv A outer s H vs Q E hr h=>?_)
 ·obtain ⟨p,t,es,rfl,_⟩:=h
  rfl
 obtain ⟨p,⟨pt,t0,t1,t2⟩,es,rfl,⟨kvs,eK,_,ha,hb⟩,ht,hri,kn,ks⟩:=h
 have ht:H pt=some (.tup [.int t0,.int t1,.int t2]):=ht
 have hu64:=hr.units
 have no:∀(H':Hp),Same H H'→¬(t0<t1∧t1<t2)→Q .non H':=fun H' s' hn=>kn (fun ⟨i,j,kk,h1,h2,h3,e1,e2,e3⟩=>hn (by
  have a:=mo_lt hri h1 (by omega)
  have b:=mo_lt hri h2 h3
  have e1:mo es i=t0:=e1
  have e2:mo es j=t1:=e2
  have e3:mo es kk=t2:=e3
  omega)) H' s'
 refine J.q ⟨_,(J.f (J.m (J.aa (Jd.pw_or (J.j op_ge (J.e (ixT K) (J.a 1) J.c (fun _ _=>rfl)) (J.e (ixT K) (J.a 1) J.c (fun _ _=>rfl)) (nomark _)) (Jd.pw_or1 (J.j op_ge (J.e (ixT K) (J.a 1) J.c (fun _ _=>rfl)) (J.e (ixT K) (J.a 1) J.c (fun _ _=>rfl)) (nomark _)))))
  (J.h (J.k J.u))
  J.o)
  (J.f (J.an (O:=["moment"]) (N':=["known"]) (cap:=[0]) (i:=2) sc_samples_of_three.nd rfl (Or.inl rfl) rfl (Jd.piT K (J.a 1)) (fun _ _ _ _ _=>(J.n (i:=0) (show List.Nodup [("moment":Str),("known":Str)] by decide +kernel) rfl (Or.inl rfl))) (fun _ _ _ _ _=>(Jd.pts_one (J.j (op_dIn hu64) (J.a 0) (J.a 1) rfl))) (fun _ _ _ _ _=>(Jd.pe_dget hu64 (J.a 1) (J.a 0) (fun _ _=>rfl))) rfl ⟨⟨rfl,rfl,rfl,rfl⟩,trivial⟩ rfl (by decide +kernel) rfl (by decide +kernel) (by rfl))
  (J.f (J.m (J.aa (Jd.pw_or (J.j op_lt (J.p (lenC K) rfl T.len_ PySem.boot_len (J.b (J.a 2) J.d st_N) (he:=st_N) (hpl:=any0)) J.c (nomark _)) (Jd.pw_or (J.j op_ne (J.e (ixT K) (J.e (ixL K) (J.a 2) J.c (fun _ _=>rfl)) J.c (fun _ _=>rfl)) (J.e (ixT K) (J.e (ixL K) (J.a 2) J.c (fun _ _=>rfl)) J.c (fun _ _=>rfl)) (nomark _)) (Jd.pw_or1 (J.j op_ne (J.e (ixT K) (J.e (ixL K) (J.a 2) J.c (fun _ _=>rfl)) J.c (fun _ _=>rfl)) (J.e (ixT K) (J.e (ixL K) (J.a 2) J.c (fun _ _=>rfl)) J.c (fun _ _=>rfl)) (nomark _))))))
  (J.h (J.k J.u))
  J.o)
  (J.h (J.k (Jd.pe_comp (O:=["pair"]) (N':=[]) (cap:=[]) rfl (J.w K (J.a 2)) (fun _ _ _ _ _=>(J.n (i:=0) (show List.Nodup [("pair":Str)] by decide +kernel) rfl (Or.inl rfl))) (fun _ _ _ _ _=>J.ag) (fun _ _ _ _ _=>(J.e (ixT K) (J.a 0) J.c (fun _ _=>rfl))) rfl trivial rfl (by decide +kernel) rfl (by decide +kernel))))))),?_⟩
 walk_at "v"
 refine ite2 (fun c=>?_) (fun c=>?_)
 ·have c:t0≥t1:=of_decide_eq_true c
  walk_at "v"
  refine iteT ?_
  walk_at "v"
  exact no H (Same.refl _) (by omega)
 have c:¬t0≥t1:=of_decide_eq_false (Bool.eq_false_iff.mpr c)
 walk_at "v"
 refine ite2 (fun c2=>?_) (fun c2=>?_)
 ·have c2:t1≥t2:=of_decide_eq_true c2
  walk_at "v"
  exact no H (Same.refl _) (by omega)
 have c2:¬t1≥t2:=of_decide_eq_false (Bool.eq_false_iff.mpr c2)
 walk_at "v"
 refine r_iT ?_
 walk_at "v"
 refine ⟨pt,rfl,⟨_,SqT.of ht⟩,?_⟩
 refine compB_of (xs:=[t0,t1,t2].map V.int) tells_tup (fun H3 s3=>SqT.of (s3 _ _ ht)) (by show 3≤1000000;decide) (fun j ys G=>ys=(([t0,t1,t2].take j).filterMap fun m=>valV kvs (.inl m))) rfl ?_ ?_
 ·rintro D j v ys H3 σ1 NN N0 g0 hD eD s3 hv hy rfl kY kN
  rw [List.getElem?_map] at hv
  obtain ⟨m,hm,rfl⟩:=Option.map_eq_some_iff.mp hv
  have tk:([t0,t1,t2].take (j+1)).filterMap (fun m=>valV kvs (.inl m))=([t0,t1,t2].take j).filterMap (fun m=>valV kvs (.inl m))++(valV kvs (.inl m)).toList:=by
   rw [List.take_succ,hm,Option.toList_some,List.filterMap_append]
   congr 1
  refine r_own1 g0 ?_
  walk_at "v"
  refine ⟨p,_,rfl,DGet.k (k:=Sum.inl m) (s3 _ _ eK),?_⟩
  walk_at "v"
  cases hq:valV kvs (Sum.inl m) with
  | none=>
    rw [hq] at tk
    refine iteF ?_
    exact kN H3 (Same.refl _) (by rw [tk];simp)
  | some z=>
    rw [hq] at tk
    refine iteT ?_
    walk_at "ve"
    refine ⟨p,z,rfl,?_,?_⟩
    ·have:=DGet.k (k:=Sum.inl m) (s3 _ _ eK)
     rw [hq] at this
     exact this
    ·exact kY _ H3 (Same.refl _) (by rw [tk];rfl)
 rintro D ys H3 nD eD s3 hy rfl
 rw [List.length_map,List.take_length] at eD
 walk_at "v"
 refine r_len (.inl (SqL.of eD)) ?_
 walk_at "v"
 have miss:∀m,m∈[t0,t1,t2]→valV kvs (.inl m)=none→Q .non H3:=fun m hm hq=>kn (fun ⟨i,j,kk,h1,h2,h3,e1,e2,e3⟩=>by
  have e1:mo es i=t0:=e1
  have e2:mo es j=t1:=e2
  have e3:mo es kk=t2:=e3
  have some_:∀q,q<es.length→valV kvs (.inl (mo es q))≠none:=fun q hq'=>by
   obtain ⟨u,hu⟩:∃u,es[q]?=some u:=⟨_,List.getElem?_eq_getElem hq'⟩
   obtain ⟨_,g,_⟩:=ha q u hq' hu
   rw [g];simp
  simp only [List.mem_cons,List.not_mem_nil,or_false] at hm
  rcases hm with rfl | rfl | rfl
  ·exact some_ i (by omega) (by rw [e1];exact hq)
  ·exact some_ j (by omega) (by rw [e2];exact hq)
  ·exact some_ kk (by omega) (by rw [e3];exact hq)) H3 s3
 have find:∀m z,valV kvs (.inl m)=some z→∃q x u,q<es.length∧es[q]?=some x∧mo es q=m∧z=.ref u∧H u=some (.tup [.int 0,.ref x.1]):=fun m z hq=>by
  have:∃q,q<es.length∧mo es q=m:=Classical.byContradiction fun no=>by
   have:=hb m fun q hq' e=>no ⟨q,hq',e⟩
   rw [this] at hq
   cases hq
  obtain ⟨q,hq',e⟩:=this
  obtain ⟨x,hx⟩:∃x,es[q]?=some x:=⟨_,List.getElem?_eq_getElem hq'⟩
  obtain ⟨u,g1,g2⟩:=ha q x hq' hx
  rw [e,hq] at g1
  exact ⟨q,x,u,hq',hx,e,by cases g1;rfl,g2⟩
 cases q0:valV kvs (.inl t0) with
 | none=>
   have hlen:((([t0,t1,t2].filterMap fun m=>valV kvs (.inl m)).length:Nat):Int)<3:=by
    have:([t0,t1,t2].filterMap fun m=>valV kvs (.inl m))=[t1,t2].filterMap fun m=>valV kvs (.inl m):=by rw [List.filterMap_cons,q0]
    rw [this]
    have:=List.length_filterMap_le (fun m=>valV kvs (.inl m)) [t1,t2]
    simp only [List.length_cons,List.length_nil] at this
    omega
   rw [decide_eq_true hlen]
   refine iteT ?_
   walk_at "v"
   refine iteT ?_
   walk_at "v"
   exact miss t0 (by simp) q0
 | some z0=>
   cases q1:valV kvs (.inl t1) with
   | none=>
     have hlen:((([t0,t1,t2].filterMap fun m=>valV kvs (.inl m)).length:Nat):Int)<3:=by
      have:([t0,t1,t2].filterMap fun m=>valV kvs (.inl m))=z0::[t2].filterMap fun m=>valV kvs (.inl m):=by rw [List.filterMap_cons,q0,List.filterMap_cons,q1]
      rw [this]
      have:=List.length_filterMap_le (fun m=>valV kvs (.inl m)) [t2]
      simp only [List.length_cons,List.length_nil] at this ⊢
      omega
     rw [decide_eq_true hlen]
     refine iteT ?_
     walk_at "v"
     refine iteT ?_
     walk_at "v"
     exact miss t1 (by simp) q1
   | some z1=>
     cases q2:valV kvs (.inl t2) with
     | none=>
       have e:([t0,t1,t2].filterMap fun m=>valV kvs (.inl m))=[z0,z1]:=by rw [List.filterMap_cons,q0,List.filterMap_cons,q1,List.filterMap_cons,q2];rfl
       rw [e,decide_eq_true (show (([z0,z1].length:Nat):Int)<3 by show (2:Int)<3;decide)]
       refine iteT ?_
       walk_at "v"
       refine iteT ?_
       walk_at "v"
       exact miss t2 (by simp) q2
     | some z2=>
       have e:([t0,t1,t2].filterMap fun m=>valV kvs (.inl m))=[z0,z1,z2]:=by rw [List.filterMap_cons,q0,List.filterMap_cons,q1,List.filterMap_cons,q2];rfl
       rw [e] at eD ⊢
       obtain ⟨i,x,u0,hi,hx,ei,rfl,g0⟩:=find t0 z0 q0
       obtain ⟨j,y,u1,hj,hy',ej,rfl,g1⟩:=find t1 z1 q1
       obtain ⟨kk,z,u2,hk,hz,ek,rfl,g2⟩:=find t2 z2 q2
       have hij:i<j:=by
        rcases Nat.lt_trichotomy i j with q | q | q
        ·exact q
        ·subst q;omega
        ·have:=mo_lt hri q hi;omega
       have hjk:j<kk:=by
        rcases Nat.lt_trichotomy j kk with q | q | q
        ·exact q
        ·subst q;omega
        ·have:=mo_lt hri q hj;omega
       rw [decide_eq_false (show ¬((([V.ref u0,V.ref u1,V.ref u2]:List V).length:Nat):Int)<3 by show ¬(3:Int)<3;decide)]
       refine iteF ?_
       have g0':=s3 _ _ g0
       have g1':=s3 _ _ g1
       have g2':=s3 _ _ g2
       walk_at "v"
       refine r_l eD at0 ?_
       walk_at "v"
       refine r_l eD at1 ?_
       walk_at "v"
       rw [decide_eq_true rfl]
       refine iteF ?_
       walk_at "v"
       refine r_l eD at1 ?_
       walk_at "v"
       refine r_l eD at2 ?_
       walk_at "v"
       rw [decide_eq_true rfl]
       refine iteF ?_
       walk_at "v"
       refine r_iL ?_
       walk_at "v"
       refine ⟨D,rfl,⟨_,SqL.of eD⟩,?_⟩
       refine compB_of (xs:=[V.ref u0,V.ref u1,V.ref u2]) tells_list (fun H4 s4=>SqL.of (s4 _ _ eD)) (by show 3≤1000000;decide) (fun j ys G=>ys=([V.ref x.1,V.ref y.1,V.ref z.1].take j)) rfl ?_ ?_
       ·rintro D2 q v ys H4 σ1 NN N0 h0 hD2 eD2 s4 hv hy rfl kY kN
        have hq3:q<3:=by have:=(List.getElem?_eq_some_iff.mp hv).1;simpa using this
        have:q=0∨q=1∨q=2:=by omega
        refine r_own1 h0 ?_
        walk_at "v"
        refine iteT ?_
        walk_at "v"
        rcases this with rfl | rfl | rfl
        ·obtain rfl:V.ref u0=v:=by simpa using hv
         exact r_t1 (s4 _ _ g0') (kY _ H4 (Same.refl _) rfl)
        ·obtain rfl:V.ref u1=v:=by simpa using hv
         exact r_t1 (s4 _ _ g1') (kY _ H4 (Same.refl _) rfl)
        ·obtain rfl:V.ref u2=v:=by simpa using hv
         exact r_t1 (s4 _ _ g2') (kY _ H4 (Same.refl _) rfl)
       ·rintro D2 ys H4 nD2 eD2 s4 hy rfl
        exact ks i j kk x y z ⟨hij,hjk,hk,ei,ej,ek⟩ hx hy' hz D2 H4 (s3.trans s4) eD2
end

theorem qt_pos {t b:Int} {q:Rat} (h:Qt t b q):0<t↔0<q:=by
 have hb:(0:Rat)<(b:Rat):=cast_pos (b:=b) (by have:=h.pos;omega)
 rw [← Rat.intCast_lt_intCast,h.eq]
 exact ⟨fun z=>Rat.lt_of_mul_lt_mul_right (by grind) (Rat.le_of_lt hb),fun z=>by have:=Rat.mul_pos z hb;grind⟩
theorem getD_ints {ns:List Int} {i:Nat} (h:i<ns.length) {k:Int} (hk:k=(i:Int)):atI (ns.map V.int) k=some (.int (ns.getD i 0)):=at_ints (by rw [List.getD_eq_getElem?_getD,List.getElem?_eq_getElem h];rfl) hk
theorem getD_last {ns:List Int} (h:0<ns.length):atI (ns.map V.int) (-1)=some (.int (ns.getD (ns.length-1) 0)):=by
 unfold atI
 rw [List.length_map,ix_last (m:=ns.length-1) (by omega)]
 show (ns.map V.int)[ns.length-1]?=_
 rw [List.getElem?_map,List.getElem?_eq_getElem (by omega),List.getD_eq_getElem?_getD,List.getElem?_eq_getElem (by omega)]
 rfl
theorem Spot.uniq {es:List En} {t:Int×Int×Int} {i j k a b c:Nat} (hri:rising es) (h:Spot es t i j k) (g:Spot es t a b c):i=a∧j=b∧k=c:=by
 obtain ⟨h1,h2,h3,e1,e2,e3⟩:=h
 obtain ⟨g1,g2,g3,f1,f2,f3⟩:=g
 exact ⟨mo_inj hri (by omega) (by omega) (by rw [e1,f1]),mo_inj hri (by omega) (by omega) (by rw [e2,f2]),mo_inj hri h3 g3 (by rw [e3,f3])⟩
theorem jout_same {es:List En} {ns:List Int} {sh:Nat} {p:Int×Int}:p∈jout (jmpL ns) (outr es sh) ns.length ns.length↔∃i j,i<j∧j<ns.length∧ns.getD i 0+1<ns.getD j 0∧p=(mo es i,mo es (j-sh)):=by
 constructor
 ·intro h
  obtain ⟨i,j,_,h1,h2,h3,rfl⟩:=mem_jout h
  exact ⟨i,j,h1,h2,of_decide_eq_true h3,rfl⟩
 ·rintro ⟨i,j,h1,h2,h3,rfl⟩
  exact mem_jout' (v:=outr es sh) (by omega) h1 h2 (decide_eq_true h3)
theorem due_any (os:List (Option Int)):inV .non (os.map dueV)=os.any Option.isNone:=by
 unfold inV
 induction os with
 | nil=>rfl
 | cons o os ih=>
   rw [List.map_cons,List.any_cons,List.any_cons,ih]
   cases o <;> rfl
theorem due_flat (os:List (Option Int)):(os.map dueV).all flatV=true:=by
 induction os with
 | nil=>rfl
 | cons o os ih=>
   rw [List.map_cons,List.all_cons,ih]
   cases o <;> rfl
theorem due_ints:∀{os:List (Option Int)},os.any Option.isNone=false→os.map dueV=(os.map (·.getD 0)).map V.int
 | [],_=>rfl
 | none::_,h=>by cases h
 | some n::os,h=>by
   rw [List.map_cons,List.map_cons,List.map_cons,due_ints (os:=os) (by rw [List.any_cons] at h;exact h)]
   rfl
section
variable {P:Program} {w:World} {K:PySem.W.Frag} {mg:Str→Option Value} {base:Heap} {f:Addr} {fd:FuncData}
theorem sc_is_good:FnScope ["known","three","limit","at","found","stood","beyond"] ["known","three","limit","at"] (defScope s_is_good):=⟨rfl,rfl,rfl,by decide +kernel,rfl,by decide +kernel,by decide +kernel⟩
theorem ok_is_good (F:Fun K "is_good" "is_good" s_is_good f fd) (D_samples_of_three:Dn P w K mg base 1 "samples_of_three" ["known","three"] spSoT) (D_loose_stand:Dn P w K mg base 4 "loose_stand" ["one","mid","last"] spLstand) (D_size:Dn P w K mg base 1 "size" ["one"] spSizeQ) (D_order:Dn P w K mg base 1 "order" ["one","other"] spOrderQ):FnOk P w K mg base CX0 5 f fd ["known","three","limit","at"] spIsGood:=by
 refine F.ok sc_is_good (fun vs H Q E h=>?_) (fun cdv A outer s H vs Q E hr h=>?_)
 ·obtain ⟨p,pl,t,es,n,nb,β,at_,rfl,_⟩:=h
  rfl
 obtain ⟨p,pl,t,es,n,nb,β,at_,rfl,hK,ht,hR,hS,hri,hb,hn,hnb,k⟩:=h
 refine J.q ⟨_,(J.f (J.i (i:=4) sc_is_good.nd rfl (Or.inl rfl) (J.l D_samples_of_three (hr.mono (by decide)) rfl (J.b (J.a 0) (J.b (J.a 1) J.d st_N) st_N) (he:=st_N) (hpl:=(anyc st_N any0))) (hs:=sw_K))
  (J.f (J.m (J.j op_isN (J.a 4) J.u (nomark _))
  (J.h (J.k J.ab))
  J.o)
  (J.f (J.i (i:=5) sc_is_good.nd rfl (Or.inl rfl) (J.l D_size (hr.mono (by decide)) rfl (J.b (J.l D_loose_stand (hr.mono (by decide)) rfl (J.b (J.e (ixL K) (J.a 4) J.c (fun _ _=>rfl)) (J.b (J.e (ixL K) (J.a 4) J.c (fun _ _=>rfl)) (J.b (J.e (ixL K) (J.a 4) J.c (fun _ _=>rfl)) J.d st_S) st_S) st_S) (he:=st_S) (hpl:=(anyc st_S (anyc st_S any0)))) J.d st_K) (he:=st_K) (hpl:=any0)) (hs:=sw_K))
  (J.f (J.i (i:=6) sc_is_good.nd rfl (Or.inl rfl) (J.l D_order (hr.mono (by decide)) rfl (J.b (J.a 5) (J.b (J.a 2) J.d st_N) st_N) (he:=st_N) (hpl:=(anyc st_N any0))) (hs:=sw_K))
  (J.h (J.k (Jd.pe_and (J.ac op_gt (J.e (ixT K) (J.a 5) J.c (fun _ _=>rfl)) J.c (nomark _)) (Jd.pe_one (Jd.pe_or (J.ac op_gt (J.a 6) J.c (nomark _)) (Jd.pe_one (Jd.pe_and (J.a 3) (Jd.pe_one (J.ac op_eq (J.a 6) J.c (nomark _)))))))))))))),?_⟩
 walk_at "v"
 refine ⟨p,t,es,rfl,hK,ht,hri,fun hno H1 s1=>?_,fun i j kk x y z hsp hx hy hz R H1 s1 eR=>?_⟩
 ·walk_at "v"
  refine ⟨rfl,?_⟩
  walk_at "v"
  refine iteT ?_
  walk_at "v"
  refine k false H1 s1 ⟨fun z=>absurd z (by simp),fun ⟨i,j,kk,h1,h2,h3,e1,e2,e3,_⟩=>absurd ⟨i,j,kk,h1,h2,h3,e1,e2,e3⟩ hno⟩
 obtain ⟨h1,h2,h3,m1,m2,m3⟩:=hsp
 have hR1:=hR.up s1
 obtain ⟨x',hx',fx⟩:=sa_at hR1 hS (show i<es.length by omega)
 obtain ⟨y',hy',fy⟩:=sa_at hR1 hS (show j<es.length by omega)
 obtain ⟨z',hz',fz⟩:=sa_at hR1 hS h3
 rw [hx] at hx';cases hx'
 rw [hy] at hy';cases hy'
 rw [hz] at hz';cases hz'
 have hlt:=mo_lt hri (show i<kk by omega) h3
 have gd:Gd es β at_ t.2↔0<rabs (sd es i j kk)∧(β<rabs (sd es i j kk)∨(at_=true∧rabs (sd es i j kk)=β)):=by
  constructor
  ·rintro ⟨a,b,c,g1,g2,g3,e1,e2,e3,q⟩
   obtain ⟨rfl,rfl,rfl⟩:=Spot.uniq hri ⟨h1,h2,h3,m1,m2,m3⟩ ⟨g1,g2,g3,e1,e2,e3⟩
   exact q
  ·exact fun q=>⟨i,j,kk,h1,h2,h3,m1,m2,m3,q⟩
 walk_at "v"
 refine ⟨rfl,?_⟩
 walk_at "v"
 refine iteF ?_
 walk_at "v"
 refine r_l eR at0 ?_
 walk_at "v"
 refine r_l eR at1 ?_
 walk_at "v"
 refine r_l eR at2 ?_
 walk_at "v"
 refine ⟨x.1,y.1,z.1,_,_,_,_,_,_,n,rfl,fx,fy,fz,hlt,by omega,fun st H2 s2 e2=>?_⟩
 walk_at "v"
 refine ⟨st,_,_,rfl,e2,fun sz H3 s3 e3=>?_⟩
 have e3:QtAt H3 sz (rabs (sd es i j kk)) (7*n+7):=e3
 generalize rabs (sd es i j kk)=S at e3 gd
 have s13:=s2.trans s3
 walk_at "v"
 refine ⟨sz,pl,_,_,_,nb,rfl,e3,hb.up (s1.trans s13),by omega,fun o o1 o2=>?_⟩
 obtain ⟨a,b,es3,q3,_⟩:=e3
 have q3':=qt_pos q3
 have s03:=s1.trans s13
 have fin:∀r:Bool,(r=true↔0<S∧(β<S∨(at_=true∧S=β)))→Q (.bl r) H3:=fun r hr=>k r H3 s03 (hr.trans gd.symm)
 walk_at "v"
 by_cases c0:a>0
 ·rw [decide_eq_true c0]
  refine iteT ?_
  walk_at "v"
  by_cases c1:o>0
  ·rw [decide_eq_true c1]
   refine iteT ?_
   walk_at "v"
   exact fin true ⟨fun _=>⟨q3'.mp c0,.inl (o1.mp c1)⟩,fun _=>rfl⟩
  ·rw [decide_eq_false c1]
   refine iteF ?_
   walk_at "v"
   have hle:¬β<S:=fun z=>c1 (o1.mpr z)
   cases at_ with
   | true=>
     refine iteT ?_
     walk_at "v"
     refine fin _ ?_
     rw [decide_eq_true_iff]
     constructor
     ·intro z
      refine ⟨q3'.mp c0,.inr ⟨rfl,?_⟩⟩
      have:¬S<β:=fun z'=>by have:=o2.mpr z';omega
      grind
     ·rintro ⟨_,z | ⟨_,z⟩⟩
      ·exact absurd z hle
      ·have n1:¬0<o:=c1
       have n2:¬o<0:=fun z'=>by have:=o2.mp z';grind
       omega
   | false=>
     refine iteF ?_
     walk_at "v"
     refine fin false ⟨fun z=>absurd z (by simp),fun ⟨_,z⟩=>?_⟩
     rcases z with z | ⟨z,_⟩
     ·exact absurd z hle
     ·cases z
 ·rw [decide_eq_false c0]
  refine iteF ?_
  walk_at "v"
  exact fin false ⟨fun z=>absurd z (by simp),fun ⟨z,_⟩=>absurd (q3'.mpr z) c0⟩
theorem sc_barred_pairs:FnScope ["run","numbers","tied","found","first","last"] ["run","numbers","tied"] (defScope s_barred_pairs):=⟨rfl,rfl,rfl,by decide +kernel,rfl,by decide +kernel,by decide +kernel⟩
theorem ok_barred_pairs (F:Fun K "barred_pairs" "barred_pairs" s_barred_pairs f fd) (T:Txt mg):FnOk P w K mg base CX0 1 f fd ["run","numbers","tied"] spBarred:=by
 refine F.ok sc_barred_pairs (fun vs H Q E h=>?_) (fun cdv A outer s H vs Q E hr h=>?_)
 ·obtain ⟨l,L,es,n,ns,tied,rfl,_⟩:=h
  rfl
 obtain ⟨l,L,es,n,ns,tied,rfl,hl,hR,hL,hlen,h30,k⟩:=h
 have hsh:=shft_le tied
 generalize hN:ns.length=N at *
 refine J.q ⟨_,(J.f (J.i (i:=3) sc_barred_pairs.nd rfl (Or.inl rfl) (J.s J.d) (hs:=sw_L))
  (J.f (J.t PassesOwn.never rfl (J.al rfl T.range (J.b (J.p (lenC K) rfl T.len_ PySem.boot_len (J.b (J.a 1) J.d st_N) (he:=st_N) (hpl:=any0)) J.d st_K)) (J.n (i:=4) sc_barred_pairs.nd rfl (Or.inl rfl))
  (J.h (J.t PassesOwn.never rfl (J.ap rfl T.range (J.b (J.g op_add (J.a 4) J.c) (J.b (J.p (lenC K) rfl T.len_ PySem.boot_len (J.b (J.a 1) J.d st_N) (he:=st_N) (hpl:=any0)) J.d st_K) st_B)) (J.n (i:=5) sc_barred_pairs.nd rfl (Or.inl rfl))
  (J.h (J.m (J.j op_gt (J.e (ixL K) (J.a 1) (J.a 5) (fun _ _=>rfl)) (J.g op_add (J.e (ixL K) (J.a 1) (J.a 4) (fun _ _=>rfl)) J.c) (nomark _))
  (J.h (J.x (J.y K (J.a 3) (J.r (J.b (J.e (ixT K) (J.e (ixL K) (J.a 0) (J.a 4) (fun _ _=>rfl)) J.c (fun _ _=>rfl)) (J.b (J.e (ixT K) (J.e (ixL K) (J.a 0) (J.aq (J.ad (J.a 2)) (J.a 5) (J.g op_sub (J.a 5) J.c)) (fun _ _=>rfl)) J.c (fun _ _=>rfl)) J.d st_S) st_S))) (hs:=sw_K)))
  J.o)))))
  (J.h (J.k (J.a 3))))),?_⟩
 walk_at "v"
 refine r_new (mk:=.lst) (by simp) fun R H1 s1 n1 e1=>?_
 walk_at "v"
 refine r_for (r_rng1 ?_)
 walk_at "v"
 refine r_len (.inl (SqL.of (s1 _ _ hL))) ?_
 rw [List.length_map,hN]
 walk_at "v"
 refine ⟨_,rfl,by lia,by lia,for_range (fun i σ H3=>∃(ps:List Pr2) (v4 v5:Option V),σ=[some (.ref l),some (.ref L),some (.bl tied),some (.ref R),v4,v5]∧Same H H3∧H3 R=some (.lst (ps.map fun x=>V.ref x.1))∧AllPr2 H3 ps∧ps.map (·.2)=jout (jmpL ns) (outr es (shft tied)) N i) ?_ ?_ ?_⟩
 ·exact ⟨[],none,none,rfl,s1,e1,fun x hx=>absurd hx (by simp),rfl⟩
 ·rintro i σ H3 hi ⟨ps,v4,v5,rfl,s3,e3,hps,hmap⟩
  have hi':i<N:=by omega
  rw [show (0:Int)+(i:Int)=(i:Int) by omega]
  walk_at "v"
  refine r_for (r_rng2 ?_)
  walk_at "v"
  refine r_len (.inl (SqL.of (s3 _ _ hL))) ?_
  rw [List.length_map,hN]
  walk_at "v"
  refine ⟨_,_,rfl,⟨by lia,by lia,by lia,by lia⟩,for_range (fun m σ H4=>∃(us:List Pr2) (w5:Option V),σ=[some (.ref l),some (.ref L),some (.bl tied),some (.ref R),some (.int (i:Int)),w5]∧Same H H4∧H4 R=some (.lst (us.map fun x=>V.ref x.1))∧AllPr2 H4 us∧us.map (·.2)=jout (jmpL ns) (outr es (shft tied)) N i++jin (jmpL ns) (outr es (shft tied)) i m) ?_ ?_ ?_⟩
  ·exact ⟨ps,_,rfl,s3,e3,hps,by rw [hmap];simp [jin]⟩
  ·rintro m σ H4 hm ⟨us,w5,rfl,s4,e4,hus,humap⟩
   have hp:i+1+m<N:=by omega
   rw [show (i:Int)+1+(m:Int)=((i+1+m:Nat):Int) by omega]
   have hL4:=s4 _ _ hL
   have hl4:=s4 _ _ hl
   walk_at "v"
   refine r_l hL4 (getD_ints (by omega) rfl) ?_
   walk_at "v"
   refine r_l hL4 (getD_ints (by omega) rfl) ?_
   walk_at "v"
   refine ite2 (fun c1=>?_) (fun c1=>?_)
   ·have c1':ns.getD (i+1+m) 0>ns.getD i 0+1:=of_decide_eq_true c1
    have hlen2:us.length≤990:=by
     have e:=congrArg List.length humap
     rw [List.length_map,List.length_append] at e
     have j1:=jout_len (jmpL ns) (outr es (shft tied)) N i
     have j2:=jin_len (jmpL ns) (outr es (shft tied)) i m
     have:i*N≤30*31:=Nat.mul_le_mul (by omega) (by omega)
     omega
    obtain ⟨xi,gi⟩:∃x,es[i]?=some x:=⟨_,List.getElem?_eq_getElem (by omega)⟩
    obtain ⟨xj,gj⟩:∃x,es[i+1+m-shft tied]?=some x:=⟨_,List.getElem?_eq_getElem (by omega)⟩
    obtain ⟨vi,ei,_⟩:=((hR.up s4) xi (List.mem_of_getElem? gi)).obj
    obtain ⟨vj,ej,_⟩:=((hR.up s4) xj (List.mem_of_getElem? gj)).obj
    walk_at "v"
    refine ⟨.inl ⟨rfl,_,SqL.of e4⟩,?_⟩
    walk_at "v"
    refine r_l hl4 (at_val gi rfl) ?_
    walk_at "v"
    have done:∀(y:Addr) (H6:Hp),Same H4 H6→H6 y=some (.tup [.int xi.2.1,.int xj.2.1])→∃(us':List Pr2) (x5:Option V),[some (.ref l),some (.ref L),some (.bl tied),some (.ref R),some (.int (i:Int)),some (V.int ((i+1+m:Nat):Int))]=[some (.ref l),some (.ref L),some (.bl tied),some (.ref R),some (.int (i:Int)),x5]∧Same H (upd H6 R (.lst ((us.map fun x=>V.ref x.1)++[.ref y])))∧upd H6 R (.lst ((us.map fun x=>V.ref x.1)++[.ref y])) R=some (.lst (us'.map fun x=>V.ref x.1))∧AllPr2 (upd H6 R (.lst ((us.map fun x=>V.ref x.1)++[.ref y]))) us'∧us'.map (·.2)=jout (jmpL ns) (outr es (shft tied)) N i++jin (jmpL ns) (outr es (shft tied)) i (m+1):=by
     intro y H6 s6 ey
     have tup:∀{b:Addr} {ys:List V},H6 b=some (.tup ys)→upd H6 R (.lst ((us.map fun x=>V.ref x.1)++[.ref y])) b=some (.tup ys):=fun {b ys} e=>rm_up R H6 _ _ _ (rm_tup (s6 _ _ e4) e)
     refine ⟨us++[(y,xi.2.1,xj.2.1)],_,rfl,same_at (s4.trans s6) n1,by rw [upd_same,List.map_append];rfl,fun x hx=>?_,?_⟩
     ·rcases List.mem_append.mp hx with q | q
      ·exact tup (s6 _ _ (hus x q))
      ·obtain rfl:x=(y,xi.2.1,xj.2.1):=by simpa using q
       exact tup ey
     ·rw [List.map_append,humap,jin_succ,if_pos (show jmpL ns i (i+1+m)=true from decide_eq_true c1'),List.append_assoc]
      congr 2
      show [(xi.2.1,xj.2.1)]=[outr es (shft tied) i (i+1+m)]
      unfold outr
      rw [mo_at gi,mo_at gj]
    cases tied with
    | true=>
      refine iteT ?_
      walk_at "v"
      refine r_l hl4 (at_val gj (by show _=((i+1+m:Nat):Int);rfl)) ?_
      walk_at "v"
      refine r_new (mk:=.tup) (by simp) fun y H6 s6 n6 e6=>?_
      walk_at "v"
      refine r_app (s6 _ _ e4) (by rw [List.length_map];exact small1000 (by omega)) ?_
      exact done y H6 s6 e6
    | false=>
      refine iteF ?_
      walk_at "v"
      refine r_l hl4 (at_val gj (by (have:shft false=1:=rfl);omega)) ?_
      walk_at "v"
      refine r_new (mk:=.tup) (by simp) fun y H6 s6 n6 e6=>?_
      walk_at "v"
      refine r_app (s6 _ _ e4) (by rw [List.length_map];exact small1000 (by omega)) ?_
      exact done y H6 s6 e6
   ·walk_at "v"
    refine ⟨us,_,rfl,s4,e4,hus,?_⟩
    rw [humap,jin_succ,if_neg (show ¬jmpL ns i (i+1+m)=true from c1),List.append_nil]
  ·rintro σ H4 ⟨us,w5,rfl,s4,e4,hus,humap⟩
   refine ⟨us,_,_,rfl,s4,e4,hus,?_⟩
   rw [humap,jout_succ]
   congr 2
   omega
 ·rintro σ H3 ⟨ps,v4,v5,rfl,s3,e3,hps,hmap⟩
  rw [Int.toNat_natCast] at hmap
  walk_at "v"
  refine k R ps H3 s3 e3 hps hmap ?_
  have e:=congrArg List.length hmap
  rw [List.length_map] at e
  have j1:=jout_len (jmpL ns) (outr es (shft tied)) N N
  have:N*N≤31*31:=Nat.mul_le_mul (by omega) (by omega)
  omega
end

theorem parts_all {es:List En} {r:List En} (h:r∈parts smp es es.length) (hri:rising es):AllS r∧rising r∧1≤r.length∧∀x∈r,x∈es:=by
 obtain ⟨a,b,c⟩:=parts_own _ r h
 rw [List.take_length] at c
 exact ⟨b,hri.sublist c,List.length_pos_iff.mpr a,fun x hx=>c.subset hx⟩
section
variable {P:Program} {w:World} {K:PySem.W.Frag} {mg:Str→Option Value} {base:Heap} {f:Addr} {fd:FuncData}
theorem sc_pieces_of_run:FnScope ["run","tied","bound","part","at","numbers","known","good","three"] ["run","tied","bound","part","at"] (defScope s_pieces_of_run):=⟨rfl,rfl,rfl,by decide +kernel,rfl,by decide +kernel,by decide +kernel⟩
theorem ok_pieces_of_run (F:Fun K "pieces_of_run" "pieces_of_run" s_pieces_of_run f fd) (T:Txt mg) (D_known_of:Dn P w K mg base 1 "known_of" ["found"] spKnown1) (D_is_good:Dn P w K mg base 5 "is_good" ["known","three","limit","at"] spIsGood) (D_barred_pairs:Dn P w K mg base 1 "barred_pairs" ["run","numbers","tied"] spBarred):FnOk P w K mg base CX0 6 f fd ["run","tied","bound","part","at"] spPor:=by
 refine F.ok sc_pieces_of_run (fun vs H Q E h=>?_) (fun cdv A outer s H vs Q E hr h=>?_)
 ·obtain ⟨l,pb,x,es,v,n,nb,β,tied,at_,rfl,_⟩:=h
  rfl
 obtain ⟨l,pb,x,es,⟨ns,tv⟩,n,nb,β,tied,at_,rfl,hl,hR,hS,hri,h1,h30,hb,hn,hnb,⟨ex,eN,ts,eT,hts,htv⟩,hnl,htl,k⟩:=h
 have eN:H x.2.1=some (.lst (ns.map V.int)):=eN
 have htv:ts.map (·.2)=tv:=htv
 have hu64:=hr.units
 have hsh:=shft_le tied
 have htl:ts.length≤1000:=by have:tv.length≤1000:=htl;rw [← htv,List.length_map] at this;exact this
 have no:∀H',Same H H'→¬OkP es β tied at_ (ns,tv)→Q .non H':=fun H' s' z=>by
  have:=k H' s'
  rw [shO_none z] at this
  exact this
 refine J.q (Jd.cut 2 (fun σ H'=>σ=[some (.ref l),some (.bl tied),some (.ref pb),some (.ref x.1),some (.bl at_),some (.ref x.2.1),none,none,none]∧H'=H∧ns.length=es.length+shft tied∧ns.getD 0 0≤0) ?_ fun u hu hR'=>?_)
 ·refine ⟨_,(J.f (J.i (i:=6) sc_pieces_of_run.nd rfl (Or.inl rfl) (J.l D_known_of (hr.mono (by decide)) rfl (J.b (J.s (J.b (J.a 0) J.d st_N)) J.d st_L) (he:=st_L) (hpl:=any0)) (hs:=sw_K))
   (J.f (J.i (i:=7) sc_pieces_of_run.nd rfl (Or.inr rfl) Jd.pe_dnewT)
   (J.f (J.t PassesOwn.never rfl (J.w K (J.e (ixT K) (J.a 3) J.c (fun _ _=>rfl))) (J.n (i:=8) sc_pieces_of_run.nd rfl (Or.inl rfl))
   (J.h (J.m (J.ad (J.l D_is_good (hr.mono (by decide)) rfl (J.b (J.a 6) (J.b (J.a 8) (J.b (J.a 2) (J.b (J.a 4) J.d st_N) st_N) st_N) st_N) (he:=st_N) (hpl:=(anyc st_N (anyc st_N (anyc st_N any0))))))
   (J.h (Jd.ps_dput hu64 (J.a 7) (J.r (J.b (J.e (ixT K) (J.a 8) J.c (fun _ _=>rfl)) (J.b (J.e (ixT K) (J.a 8) J.c (fun _ _=>rfl)) J.d st_S) st_S)) J.ab))
   J.o)))
   (J.f (J.m (Jd.pt_not (J.ad (J.p (allC K rfl) rfl T.all_ PyProof.Rows.boot_all (J.b (Jd.pe_comp (O:=["outer"]) (N':=["good"]) (cap:=[7]) rfl (J.w K (J.l D_barred_pairs (hr.mono (by decide)) rfl (J.b (J.a 0) (J.b (J.a 5) (J.b (J.a 1) J.d st_N) st_N) st_N) (he:=st_N) (hpl:=(anyc st_N (anyc st_N any0))))) (fun _ _ _ _ _=>(J.n (i:=0) (show List.Nodup [("outer":Str),("good":Str)] by decide +kernel) rfl (Or.inl rfl))) (fun _ _ _ _ _=>J.ag) (fun _ _ _ _ _=>(J.ac (op_dIn hu64) (J.a 0) (J.a 1) rfl)) rfl ⟨⟨rfl,rfl,rfl,rfl⟩,trivial⟩ rfl (by decide +kernel) rfl (by decide +kernel)) J.d st_G) (he:=st_G) (hpl:=any0))))
   (J.h (J.k J.u))
   J.o)
   (J.h (J.k (J.p (maxC rfl) rfl T.max_ PyProof.Rows.boot_max (J.b J.c (J.b (J.e (ixL K) (J.a 5) (J.z un_neg J.c) (fun _ _=>rfl)) J.d st_S) st_C) (he:=st_C) (hpl:=(anyc st_S any0))))))))),?_⟩
  rintro σ H1 ⟨rfl,rfl,hlen,h0⟩
  walk_at "v"
  refine r_new (mk:=.lst) (by simp) fun F1 H2 s2 n2 e2=>?_
  walk_at "v"
  refine ⟨F1,l,es,n,rfl,e2,s2 _ _ hl,hR.up s2,hri,by omega,fun p H3 s3 n3 I3=>?_⟩
  have s03:=s2.trans s3
  walk_at "v"
  refine r_dnewT fun g H4 s4 n4 e4=>?_
  have s04:=s03.trans s4
  walk_at "v"
  dsimp only
  refine r_for (r_iL ?_)
  walk_at "v"
  refine r_t1 (s04 _ _ ex) ?_
  walk_at "v"
  have n4':H1 g=none:=s03.free n4
  refine ⟨x.2.2,rfl,⟨_,SqL.of (s04 _ _ eT)⟩,for_list (xs:=threfs ts) (fun i σ H5=>∃(v8:Option V) (kvs:List (List Key×V)),σ=[some (.ref l),some (.bl tied),some (.ref pb),some (.ref x.1),some (.bl at_),some (.ref x.2.1),some (.ref p),some (.ref g),v8]∧Same H1 H5∧KnI H5 p es es.length∧H5 g=some (.dT kvs)∧kvs.length≤i∧∀a z:Int,(valV kvs [.inl a,.inl z]).isSome=true↔∃t∈(ts.take i).map (·.2),Gd es β at_ t∧t.1=a∧t.2.2=z) ⟨none,[],rfl,s04,I3.up s4,e4,Nat.le_refl _,fun a z=>⟨fun q=>(by cases q),fun ⟨t,q,_⟩=>(by simp at q)⟩⟩ ?_ ?_ ?_⟩
  ·rintro i σ H5 _ ⟨v8,kvs,rfl,s5,_⟩
   exact SqL.of (s5 _ _ eT)
  ·rintro i v σ H5 hv ⟨v8,kvs,rfl,s5,I5,e5,hkl,hval⟩
   obtain ⟨t,ht,rfl⟩:=threfs_at hv
   have hi:=(List.getElem?_eq_some_iff.mp ht).1
   have mt:=List.mem_of_getElem? ht
   have tk:(ts.take (i+1)).map (·.2)=(ts.take i).map (·.2)++[t.2]:=by rw [List.take_succ,ht,Option.toList_some,List.map_append];rfl
   walk_at "v"
   refine ⟨p,pb,t,es,n,nb,β,at_,rfl,I5,hts.up s5 t mt,hR.up s5,hS,hri,hb.up s5,hn,hnb,fun r H6 s6 hr6=>?_⟩
   have s06:=s5.trans s6
   have e6:=s6 _ _ e5
   have et:H6 t.1=some (.tup [.int t.2.1,.int t.2.2.1,.int t.2.2.2]):=s06 _ _ (hts t mt)
   walk_at "v"
   cases r with
   | true=>
     have gd:=hr6.mp rfl
     refine iteT ?_
     walk_at "ve"
     refine r_new (mk:=.tup) (by simp) fun q H7 s7 n7 e7=>?_
     refine ⟨g,_,rfl,DPut.t (k:=[Sum.inl t.2.1,Sum.inl t.2.2.2]) (s7 _ _ e6) e7 (small1000 (by omega)),?_⟩
     have e7g:=s7 _ _ e6
     have I7:KnI (upd H7 g (.dT (putK kvs [Sum.inl t.2.1,Sum.inl t.2.2.2] (.bl true)))) p es es.length:=by
      obtain ⟨kk,a1,a2,a3,a4⟩:=I5.up (s6.trans s7)
      have ne:∀{b:Addr} {o:HO},H7 b=some o→(∀kv,o≠.dT kv)→upd H7 g (.dT (putK kvs [Sum.inl t.2.1,Sum.inl t.2.2.2] (.bl true))) b=some o:=fun {b o} e hne=>by
       rw [upd_ne (fun z=>by rw [z,e7g] at e;cases e;exact hne _ rfl)];exact e
      exact ⟨kk,ne a1 (fun _ z=>by cases z),a2,fun k' x' hk hx=>let ⟨q',v',g'⟩:=a3 k' x' hk hx;⟨q',v',ne g' (fun _ z=>by cases z)⟩,a4⟩
     refine ⟨_,_,rfl,same_at (s06.trans s7) n4',I7,upd_same,Nat.le_trans (length_putK _ _ _) (by omega),fun a z=>?_⟩
     rw [valV_put,tk]
     by_cases e:([Sum.inl a,Sum.inl z]:List Key)=[Sum.inl t.2.1,Sum.inl t.2.2.2]
     ·rw [if_pos e]
      have ea:a=t.2.1:=by injection e with e1 e2;exact Sum.inl.inj e1
      have ez:z=t.2.2.2:=by injection e with e1 e2;injection e2 with e2 e3;exact Sum.inl.inj e2
      exact ⟨fun _=>⟨t.2,List.mem_append_right _ (by simp),gd,ea.symm,ez.symm⟩,fun _=>rfl⟩
     ·rw [if_neg e,hval]
      constructor
      ·rintro ⟨u,hu,q⟩
       exact ⟨u,List.mem_append_left _ hu,q⟩
      ·rintro ⟨u,hu,q,q1,q2⟩
       rcases List.mem_append.mp hu with hu | hu
       ·exact ⟨u,hu,q,q1,q2⟩
       ·obtain rfl:u=t.2:=by simpa using hu
        exact absurd (by rw [q1,q2]) e
   | false=>
     have ng:¬Gd es β at_ t.2:=fun z=>by cases hr6.mpr z
     refine iteF ?_
     walk_at "v"
     refine ⟨_,kvs,rfl,s06,I5.up s6,e6,by omega,fun a z=>?_⟩
     rw [hval,tk]
     constructor
     ·rintro ⟨u,hu,q⟩
      exact ⟨u,List.mem_append_left _ hu,q⟩
     ·rintro ⟨u,hu,q,q1,q2⟩
      rcases List.mem_append.mp hu with hu | hu
      ·exact ⟨u,hu,q,q1,q2⟩
      ·obtain rfl:u=t.2:=by simpa using hu
       exact absurd q ng
  ·rintro σ H5 ⟨v8,kvs,rfl,s5,I5,e5,hkl,hval⟩
   rw [threfs_len,List.take_length,htv] at hval
   have okI:OkP es β tied at_ (ns,tv)↔∀p∈jout (jmpL ns) (outr es (shft tied)) ns.length ns.length,(valV kvs [.inl p.1,.inl p.2]).isSome=true:=by
    constructor
    ·rintro ⟨_,_,c⟩ p hp
     obtain ⟨i,j,h1,h2,h3,rfl⟩:=jout_same.mp hp
     obtain ⟨t,ht,g,q1,q2⟩:=c i j h1 h2 h3
     exact (hval _ _).mpr ⟨t,ht,g,q1,q2⟩
    ·intro c
     refine ⟨hlen,h0,fun i j h1 h2 h3=>?_⟩
     have:=c (mo es i,mo es (j-shft tied)) (jout_same.mpr ⟨i,j,h1,h2,h3,rfl⟩)
     obtain ⟨t,ht,g,q1,q2⟩:=(hval _ _).mp this
     exact ⟨t,ht,g,q1,q2⟩
   walk_at "v"
   refine r_iL ?_
   walk_at "v"
   refine ⟨l,x.2.1,es,n,ns,tied,rfl,s5 _ _ hl,hR.up s5,s5 _ _ eN,hlen,h30,fun B ps H6 s6 eB hps hpm hpl=>?_⟩
   have e6:=s6 _ _ e5
   refine ⟨B,rfl,⟨_,SqL.of eB⟩,?_⟩
   refine compB_of (xs:=ps.map fun x=>V.ref x.1) tells_list (fun H7 s7=>SqL.of (s7 _ _ eB)) (by rw [List.length_map];omega) (fun j ys G=>ys=bls ((ps.take j).map fun x=>(valV kvs [.inl x.2.1,.inl x.2.2]).isSome)) rfl ?_ ?_
   ·rintro D j v ys H7 σ1 NN N0 g0 hD eD s7 hv hy rfl kY kN
    rw [List.getElem?_map] at hv
    obtain ⟨y,hy',rfl⟩:=Option.map_eq_some_iff.mp hv
    refine r_own1 g0 ?_
    walk_at "v"
    refine iteT ?_
    walk_at "v"
    refine ⟨g,_,rfl,DGet.t (k:=[Sum.inl y.2.1,Sum.inl y.2.2]) (s7 _ _ e6) (s7 _ _ (hps y (List.mem_of_getElem? hy'))),?_⟩
    refine kY _ H7 (Same.refl _) ?_
    rw [List.take_succ,hy',Option.toList_some,List.map_append]
    unfold bls
    rw [List.map_append]
    rfl
   ·rintro D ys H7 nD eD s7 hy rfl
    rw [List.length_map,List.take_length] at eD
    have s07:=s5.trans (s6.trans s7)
    walk_at "v"
    refine r_all eD ?_
    walk_at "v"
    have hall:(ps.map fun x=>(valV kvs [.inl x.2.1,.inl x.2.2]).isSome).all id=true↔OkP es β tied at_ (ns,tv):=by
     rw [okI,← hpm,List.all_eq_true]
     constructor
     ·intro q p hp
      obtain ⟨y,hy,rfl⟩:=List.mem_map.mp hp
      exact q _ (List.mem_map.mpr ⟨y,hy,rfl⟩)
     ·intro q b hb'
      obtain ⟨y,hy,rfl⟩:=List.mem_map.mp hb'
      exact q y.2 (List.mem_map.mpr ⟨y,hy,rfl⟩)
    cases hq:(ps.map fun x=>(valV kvs [.inl x.2.1,.inl x.2.2]).isSome).all id with
    | true=>
      refine iteF ?_
      walk_at "v"
      refine r_l (s07 _ _ eN) (getD_last (by omega)) ?_
      walk_at "v"
      have:=k H7 s07
      rw [shO_some (hall.mp hq)] at this
      exact this
    | false=>
      refine iteT ?_
      walk_at "v"
      exact no H7 s07 fun z=>by rw [hall.mpr z] at hq;cases hq
 refine ⟨_,(J.f (J.i (i:=5) sc_pieces_of_run.nd rfl (Or.inl rfl) (J.e (ixT K) (J.a 3) J.c (fun _ _=>rfl)) (hs:=sw_S))
  (J.f (J.m (J.aa (Jd.pw_or (J.j op_ne (J.p (lenC K) rfl T.len_ PySem.boot_len (J.b (J.a 5) J.d st_N) (he:=st_N) (hpl:=any0)) (J.aq (J.ad (J.a 1)) (J.p (lenC K) rfl T.len_ PySem.boot_len (J.b (J.a 0) J.d st_N) (he:=st_N) (hpl:=any0)) (J.g op_add (J.p (lenC K) rfl T.len_ PySem.boot_len (J.b (J.a 0) J.d st_N) (he:=st_N) (hpl:=any0)) J.c)) (nomark _)) (Jd.pw_or1 (J.j op_gt (J.e (ixL K) (J.a 5) J.c (fun _ _=>rfl)) J.c (nomark _)))))
  (J.h (J.k J.u))
  J.o)
  hu)),?_⟩
 walk_at "v"
 refine r_len (.inl (SqL.of eN)) ?_
 rw [List.length_map]
 walk_at "v"
 cases tied with
 | true=>
   have hs0:shft true=0:=rfl
   refine iteT ?_
   walk_at "v"
   refine r_len (.inl (SqL.of hl)) ?_
   rw [vals_len]
   walk_at "v"
   by_cases hlen:ns.length=es.length+shft true
   ·rw [decide_eq_true (show (ns.length:Int)=(es.length:Int) by omega)]
    refine iteF ?_
    walk_at "v"
    refine r_l eN (getD_ints (i:=0) (by omega) rfl) ?_
    walk_at "v"
    by_cases h0:ns.getD 0 0>0
    ·rw [decide_eq_true h0]
     refine iteT ?_
     walk_at "v"
     exact no H (Same.refl _) fun z=>by (have:=z.2.1);(have:ns.getD 0 0≤0:=this);omega
    ·rw [decide_eq_false h0]
     refine iteF ?_
     walk_at "v"
     exact hR' _ _ ⟨rfl,rfl,hlen,by omega⟩
   ·rw [decide_eq_false (show ¬(ns.length:Int)=(es.length:Int) by omega)]
    refine iteT ?_
    walk_at "v"
    refine iteT ?_
    walk_at "v"
    exact no H (Same.refl _) fun z=>hlen z.1
 | false=>
   have hs0:shft false=1:=rfl
   refine iteF ?_
   walk_at "v"
   refine r_len (.inl (SqL.of hl)) ?_
   rw [vals_len]
   walk_at "v"
   by_cases hlen:ns.length=es.length+shft false
   ·rw [decide_eq_true (show (ns.length:Int)=(es.length:Int)+1 by omega)]
    refine iteF ?_
    walk_at "v"
    refine r_l eN (getD_ints (i:=0) (by omega) rfl) ?_
    walk_at "v"
    by_cases h0:ns.getD 0 0>0
    ·rw [decide_eq_true h0]
     refine iteT ?_
     walk_at "v"
     exact no H (Same.refl _) fun z=>by (have:=z.2.1);(have:ns.getD 0 0≤0:=this);omega
    ·rw [decide_eq_false h0]
     refine iteF ?_
     walk_at "v"
     exact hR' _ _ ⟨rfl,rfl,hlen,by omega⟩
   ·rw [decide_eq_false (show ¬(ns.length:Int)=(es.length:Int)+1 by omega)]
    refine iteT ?_
    walk_at "v"
    refine iteT ?_
    walk_at "v"
    exact no H (Same.refl _) fun z=>hlen z.1
theorem sc_pieces_by_numbers:FnScope ["row","way","bound","paper","at","found","shown"] ["row","way","bound","paper","at"] (defScope s_pieces_by_numbers):=⟨rfl,rfl,rfl,by decide +kernel,rfl,by decide +kernel,by decide +kernel⟩
theorem ok_pieces_by_numbers (F:Fun K "pieces_by_numbers" "pieces_by_numbers" s_pieces_by_numbers f fd) (T:Txt mg) (D_runs:Dn P w K mg base 1 "runs" ["row"] spRuns) (D_pieces_of_run:Dn P w K mg base 6 "pieces_of_run" ["run","tied","bound","part","at"] spPor):FnOk P w K mg base CX0 7 f fd ["row","way","bound","paper","at"] spPbn:=by
 refine F.ok sc_pieces_by_numbers (fun vs H Q E h=>?_) (fun cdv A outer s H vs Q E hr h=>?_)
 ·obtain ⟨l,pb,Z,xs,es,us,n,nb,β,tied,at_,rfl,_⟩:=h
  rfl
 obtain ⟨l,pb,Z,xs,es,us,n,nb,β,tied,at_,rfl,hl,hR,hri,h40,h30,hb,hn,hnb,hZ,hE,hok,hul,k⟩:=h
 have hxl:=each2_len hE
 refine J.q ⟨_,(J.f (J.i (i:=5) sc_pieces_by_numbers.nd rfl (Or.inl rfl) (J.l D_runs (hr.mono (by decide)) rfl (J.b (J.a 0) J.d st_N) (he:=st_N) (hpl:=any0)) (hs:=sw_K))
  (J.f (J.m (J.j op_ne (J.p (lenC K) rfl T.len_ PySem.boot_len (J.b (J.a 5) J.d st_N) (he:=st_N) (hpl:=any0)) (J.p (lenC K) rfl T.len_ PySem.boot_len (J.b (J.a 3) J.d st_N) (he:=st_N) (hpl:=any0)) (nomark _))
  (J.h (J.k J.u))
  J.o)
  (J.f (J.an (O:=["run","part"]) (N':=["bound","at","way"]) (cap:=[2,4,1]) (i:=6) sc_pieces_by_numbers.nd rfl (Or.inl rfl) rfl (Jd.pi_zip K rfl T.zip_ (J.b (J.a 5) (J.b (J.a 3) J.d st_N) st_N)) (fun _ _ _ _ _=>(Jd.pgT K (n:=2) rfl (J.v (J.n (i:=0) (show List.Nodup [("run":Str),("part":Str),("bound":Str),("at":Str),("way":Str)] by decide +kernel) rfl (Or.inl rfl)) (J.v (J.n (i:=1) (show List.Nodup [("run":Str),("part":Str),("bound":Str),("at":Str),("way":Str)] by decide +kernel) rfl (Or.inl rfl)) J.ae)))) (fun _ _ _ _ _=>J.ag) (fun _ _ _ _ _=>(J.l D_pieces_of_run (hr.mono (by decide)) rfl (J.b (J.a 0) (J.b (J.ac op_eq (J.a 4) Jd.pe_str (nomark _)) (J.b (J.a 2) (J.b (J.a 1) (J.b (J.a 3) J.d st_N) st_N) st_N) st_Q) st_N) (he:=st_N) (hpl:=(anyc st_Q (anyc st_N (anyc st_N (anyc st_N any0))))))) rfl ⟨⟨rfl,rfl,rfl,rfl⟩,⟨⟨rfl,rfl,rfl,rfl⟩,⟨⟨rfl,rfl,rfl,rfl⟩,trivial⟩⟩⟩ rfl (by decide +kernel) rfl (by decide +kernel) (by rfl))
  (J.h (J.k (J.aq (J.j (inSeq K) J.u (J.a 6) rfl) J.u (J.p (sumL K rfl) rfl T.sum_ PyProof.Rows.boot_sum (J.b (J.a 6) J.d st_N) (he:=st_N) (hpl:=any0)))))))),?_⟩
 walk_at "v"
 refine ⟨l,es,n,rfl,hl,hR,h40,fun TT ls H1 s1 hLL hmap hll hlx=>?_⟩
 have hpl:ls.length=(parts smp es es.length).length:=by rw [← hmap,List.length_map]
 walk_at "v"
 refine r_len (.inl (SqL.of hLL.at_)) ?_
 rw [lrefs_len]
 walk_at "v"
 refine r_len (.inl (SqL.of (s1 _ _ hZ))) ?_
 rw [List.length_map,hxl]
 walk_at "v"
 by_cases hlen:ls.length=us.length
 ·rw [decide_eq_true (show (ls.length:Int)=(us.length:Int) by omega)]
  refine iteF ?_
  walk_at "v"
  refine r_zip ?_
  walk_at "v"
  refine ⟨TT,Z,_,_,rfl,SqL.of hLL.at_,SqL.of (s1 _ _ hZ),?_⟩
  refine compB_zip (xs:=lrefs ls) (ys:=xs.map fun x=>V.ref x.1) (N0':=ls.length) (by rw [lrefs_len];omega) (by rw [List.length_map];omega) (.inl (by rw [lrefs_len];omega)) (fun H2 s2=>⟨SqL.of (s2 _ _ hLL.at_),SqL.of (s2 _ _ (s1 _ _ hZ))⟩) (by omega) (fun i ys G=>ys=((List.zipWith (fun r v=>shO r β tied at_ v) (parts smp es es.length) us).take i).map dueV) rfl ?_ ?_
  ·rintro D i v u ys H2 H3 q σ0 NN N0 g0 hD eD s2 s3 eq hi hv hu hy rfl kY kN
   obtain ⟨r,hr',rfl⟩:=lrefs_at hv
   rw [List.getElem?_map] at hu
   obtain ⟨x,hx,rfl⟩:=Option.map_eq_some_iff.mp hu
   have mr:=List.mem_of_getElem? hr'
   have hpr:(parts smp es es.length)[i]?=some r.2:=by rw [← hmap,List.getElem?_map,hr'];rfl
   obtain ⟨hS,hri',h1,hsub⟩:=parts_all (List.mem_of_getElem? hpr) hri
   obtain ⟨v,hv',hxv⟩:=each2_get hE hx
   have s13:=s2.trans s3
   have s03:=s1.trans s13
   refine r_own2 g0 eq ?_
   walk_at "v"
   refine iteT ?_
   walk_at "v"
   refine r_eqs ?_
   walk_at "v"
   rw [show decide (wst tied=Str.ofString "chain")=tied by cases tied <;> decide]
   refine ⟨r.1,pb,x,r.2,v,n,nb,β,tied,at_,rfl,s13 _ _ (hLL.each r mr).2.1,fun y hy=>(hR.up s03) y (hsub y hy),hS,hri',h1,h30 _ (List.mem_of_getElem? hpr),hb.up s03,hn,hnb,hxv.up s03,(hok v (List.mem_of_getElem? hv')).1,(hok v (List.mem_of_getElem? hv')).2,fun H4 s4=>?_⟩
   refine kY _ H4 s4 ?_
   have hz:(List.zipWith (fun r v=>shO r β tied at_ v) (parts smp es es.length) us)[i]?=some (shO r.2 β tied at_ v):=by rw [List.getElem?_zipWith,hpr,hv']
   rw [List.take_succ,hz,Option.toList_some,List.map_append]
   rfl
  ·rintro D ys H2 nD eD s2 hy rfl
   have hzl:(List.zipWith (fun r v=>shO r β tied at_ v) (parts smp es es.length) us).length=ls.length:=by rw [List.length_zipWith];omega
   rw [List.take_of_length_le (by omega)] at eD
   have s02:=s1.trans s2
   have kk:=k H2 s02
   unfold shT at kk
   rw [if_neg (by omega)] at kk
   unfold allO at kk
   walk_at "v"
   refine ⟨D,_,rfl,.inl (SqL.of eD),rfl,due_flat _,?_⟩
   rw [if_neg Bool.false_ne_true,due_any]
   walk_at "v"
   generalize List.zipWith (fun r v=>shO r β tied at_ v) (parts smp es es.length) us=os at *
   cases hq:os.any Option.isNone with
   | true=>
     rw [hq,if_pos rfl] at kk
     refine iteT ?_
     walk_at "v"
     exact kk
   | false=>
     rw [hq,if_neg Bool.false_ne_true] at kk
     rw [due_ints hq] at eD
     refine iteF ?_
     walk_at "v"
     refine r_sum eD ?_
     exact kk
 ·rw [decide_eq_false (show ¬(ls.length:Int)=(us.length:Int) by omega)]
  refine iteT ?_
  walk_at "v"
  have kk:=k H1 s1
  unfold shT at kk
  rw [if_pos (by omega)] at kk
  exact kk
theorem sc_shows:FnScope ["row","way","bound","number","paper","at","shown"] ["row","way","bound","number","paper","at"] (defScope s_shows):=⟨rfl,rfl,rfl,by decide +kernel,rfl,by decide +kernel,by decide +kernel⟩
theorem ok_shows (F:FunD K "shows" "shows" s_shows f fd (.bool false)) (D_pieces_by_numbers:Dn P w K mg base 7 "pieces_by_numbers" ["row","way","bound","paper","at"] spPbn):FnOk P w K mg base CX0 8 f fd ["row","way","bound","number","paper","at"] spShows:=by
 refine F.ok sc_shows (fun vs H Q E h=>?_) (fun cdv A outer s H vs Q E hr h=>?_)
 ·obtain ⟨l,pb,Z,xs,es,us,n,nb,β,tied,at_,num,rfl,_⟩:=h
  rfl
 obtain ⟨l,pb,Z,xs,es,us,n,nb,β,tied,at_,num,rfl,hl,hR,hri,h40,h30,hb,hn,hnb,hZ,hE,hok,hul,k⟩:=h
 refine J.q (Jd.cut 1 (fun σ H'=>σ=[some (.ref l),some (.str (wst tied)),some (.ref pb),some (.int num),some (.ref Z),some (.bl at_),some (dueV (shT (parts smp es es.length) β tied at_ us))]∧Same H H') ?_ fun u hu hR'=>?_)
 ·refine ⟨_,(J.h (J.k (Jd.pe_and (J.ac op_notN (J.a 6) J.u (nomark _)) (Jd.pe_one (J.ac op_ge (J.a 6) (J.a 3) (nomark _)))))),?_⟩
  rintro σ H1 ⟨rfl,s1⟩
  have kk:=k H1 s1
  walk_at "v"
  cases hq:shT (parts smp es es.length) β tied at_ us with
  | none=>
    rw [hq] at kk
    refine ⟨rfl,?_⟩
    walk_at "v"
    refine iteF ?_
    exact kk
  | some m=>
    rw [hq] at kk
    refine ⟨rfl,?_⟩
    walk_at "v"
    refine iteT ?_
    dsimp only [dueV]
    walk_at "v"
    exact kk
 refine ⟨_,(J.f (J.m (J.aa (Jd.pw_or (J.j op_eq (J.a 1) Jd.pe_str (nomark _)) (Jd.pw_or1 (J.j op_eq (J.a 1) Jd.pe_str (nomark _)))))
  (J.h (J.i (i:=6) sc_shows.nd rfl (Or.inl rfl) (J.l D_pieces_by_numbers (hr.mono (by decide)) rfl (J.b (J.a 0) (J.b (J.a 1) (J.b (J.a 2) (J.b (J.a 4) (J.b (J.a 5) J.d st_N) st_N) st_N) st_N) st_N) (he:=st_N) (hpl:=(anyc st_N (anyc st_N (anyc st_N (anyc st_N any0)))))) (hs:=sw_K)))
  (J.h Jd.ps_never))
  hu),?_⟩
 walk_at "v"
 refine r_eqs ?_
 walk_at "v"
 cases tied with
 | true=>
   rw [show decide (wst true=Str.ofString "spans")=false by decide]
   refine iteF ?_
   walk_at "v"
   refine r_eqs ?_
   walk_at "v"
   rw [show decide (wst true=Str.ofString "chain")=true by decide]
   refine iteT ?_
   walk_at "v"
   exact ⟨l,pb,Z,xs,es,us,n,nb,β,true,at_,rfl,hl,hR,hri,h40,h30,hb,hn,hnb,hZ,hE,hok,hul,fun H' s'=>hR' _ _ ⟨rfl,s'⟩⟩
 | false=>
   rw [show decide (wst false=Str.ofString "spans")=true by decide]
   refine iteT ?_
   walk_at "v"
   refine iteT ?_
   walk_at "v"
   exact ⟨l,pb,Z,xs,es,us,n,nb,β,false,at_,rfl,hl,hR,hri,h40,h30,hb,hn,hnb,hZ,hE,hok,hul,fun H' s'=>hR' _ _ ⟨rfl,s'⟩⟩
end

noncomputable def SpotN (hs:List Nn) (t:Int×Int×Int) (i j k:Nat):Prop:=i<j∧j<k∧k<hs.length∧nmo hs i=t.1∧nmo hs j=t.2.1∧nmo hs k=t.2.2
theorem nmo_at {hs:List Nn} {i:Nat} {x:Nn} (h:hs[i]?=some x):nmo hs i=x.2.1:=by unfold nmo;rw [h];rfl
structure NR (H:Hp) (L:Addr) (hs:List Nn):Prop where
 at_:H L=some (.lst (nvals hs))
 row:NRow H hs 46 150
 all:AllN hs
 ris:nrising hs
 len:hs.length≤30
theorem NR.up {H H':Hp} {L:Addr} {hs:List Nn} (h:NR H L hs) (s:Same H H'):NR H' L hs:=⟨s _ _ h.at_,h.row.up s,h.all,h.ris,h.len⟩
noncomputable def shF (hs:List Nn) (c:Int) (at_:Bool) (i l:Nat):List (Int×Int×Int):=jin (fun i j=>wy hs c at_ i j l) (fun i j=>(nmo hs i,nmo hs j,nmo hs l)) i (l-(i+1))
noncomputable def spSpot1:Sp:=fun vs H Q _=>∃(t:Th) (TT L:Addr) (hs:List Nn),vs=[.ref t.1,.ref TT]∧ThAt H t∧H TT=some (.lst [.ref L])∧NR H L hs∧((¬ ∃i j k,SpotN hs t.2 i j k)→∀H',Same H H'→Q .non H') ∧
 ∀(i j k:Nat) (x y z:Nn),SpotN hs t.2 i j k→hs[i]?=some x→hs[j]?=some y→hs[k]?=some z→∀(R:Addr) (H':Hp),Same H H'→H' R=some (.lst [.ref x.1,.ref y.1,.ref z.1])→Q (.ref R) H'
noncomputable def spWorthy:Sp:=fun vs H Q _=>∃(R pb L:Addr) (hs:List Nn) (i j k:Nat) (x y z:Nn) (c:Int) (at_:Bool),vs=[.ref R,.ref pb,.int 1,.bl at_]∧NR H L hs∧hs[i]?=some x∧hs[j]?=some y∧hs[k]?=some z∧H R=some (.lst [.ref x.1,.ref y.1,.ref z.1])∧H pb=some (.tup [.int c,.int 1])∧Sz 150 c∧Q (.bl (wy hs c at_ i j k)) H
noncomputable def spShut:Sp:=fun vs H Q _=>∃(L pb:Addr) (hs:List Nn) (i l:Nat) (c:Int) (at_:Bool),vs=[.ref L,.int (i:Int),.int (l:Int),.ref pb,.bl at_]∧NR H L hs∧i≤l∧l<hs.length∧H pb=some (.tup [.int c,.int 1])∧Sz 150 c∧∀(R:Addr) (ts:List Th) (H':Hp),Same H H'→H R=none→H' R=some (.lst (threfs ts))→AllT H' ts→ts.map (·.2)=shF hs c at_ i l→Q (.ref R) H'
noncomputable def NumOk (hs:List Nn) (c:Int) (sh:Nat) (ns:List Int):Prop:=∀s e,s<e→e<ns.length→shF hs c false s (e-sh)=[]→ns.getD e 0≤ns.getD s 0+1
noncomputable def spNumb:Sp:=fun vs H Q _=>∃(L pb:Addr) (hs:List Nn) (c:Int) (tied:Bool),vs=[.ref L,.ref pb,.bl tied]∧NR H L hs∧1≤hs.length∧H pb=some (.tup [.int c,.int 1])∧Sz 150 c∧∀(R:Addr) (ns:List Int) (H':Hp),Same H H'→H R=none→H' R=some (.lst (ns.map V.int))→ns.length=hs.length+shft tied→NumOk hs c (shft tied) ns→Q (.ref R) H'
noncomputable def spClaim:Sp:=fun vs H Q _=>∃(L pb:Addr) (hs:List Nn) (c pk:Int) (tied:Bool),vs=[.ref L,.ref pb,.bl tied,.int pk]∧NR H L hs∧1≤hs.length∧H pb=some (.tup [.int c,.int 1])∧Sz 150 c∧0≤pk∧∀(x:Ent) (v:Pv2) (H':Hp),Same H H'→EntD H' x v→H x.2.1=none→H x.2.2=none→v.1.length=hs.length+shft tied→v.2.length≤961→Q (.ref x.1) H'
section
variable {P:Program} {w:World} {K:PySem.W.Frag} {mg:Str→Option Value} {base:Heap} {f:Addr} {fd:FuncData}
theorem sc_law_spots:FnScope ["_law_three","_law_parts","_law_moment","_law_part","_law_held"] ["_law_three","_law_parts"] (defScope s_law_spots):=⟨rfl,rfl,rfl,by decide +kernel,rfl,by decide +kernel,by decide +kernel⟩
theorem ok_law_spots (F:Fun K "_law_spots" "_law_spots" s_law_spots f fd) (T:Txt mg):FnOk P w K mg base CX0 1 f fd ["_law_three","_law_parts"] spSpot1:=by
 refine F.ok sc_law_spots (fun vs H Q E h=>?_) (fun cdv A outer s H vs Q E hr h=>?_)
 ·obtain ⟨t,TT,L,hs,rfl,_⟩:=h
  rfl
 obtain ⟨⟨t,t0,t1,t2⟩,TT,L,hs,rfl,et,eT,hN,kn,ks⟩:=h
 have et:H t=some (.tup [.int t0,.int t1,.int t2]):=et
 have hri:=hN.ris
 have hu64:=hr.units
 refine J.q ⟨_,(J.f (J.m (J.aa (Jd.pw_or (Jd.pt_not (J.ad (J.p (isiC K) rfl T.isinstance_ PyProof.Rows.boot_isinstance (J.b (J.a 0) (J.b (Jd.pe_ty rfl T.tuple_ PyProof.Rows.boot_tuple) J.d st_N) st_N) (he:=st_N) (hpl:=(anyc st_N any0))))) (Jd.pw_or1 (J.j op_ne (J.p (lenC K) rfl T.len_ PySem.boot_len (J.b (J.a 0) J.d st_N) (he:=st_N) (hpl:=any0)) J.c (nomark _)))))
  (J.h (J.k J.u))
  J.o)
  (J.f (J.t PassesOwn.never rfl (Jd.piT K (J.a 0)) (J.n (i:=2) sc_law_spots.nd rfl (Or.inl rfl))
  (J.h (J.m (J.aa (Jd.pw_or (J.ad (J.p (isiC K) rfl T.isinstance_ PyProof.Rows.boot_isinstance (J.b (J.a 2) (J.b (Jd.pe_ty rfl T.bool_ PyProof.Rows.boot_bool) J.d st_N) st_N) (he:=st_N) (hpl:=(anyc st_N any0)))) (Jd.pw_or1 (Jd.pt_not (J.ad (J.p (isiC K) rfl T.isinstance_ PyProof.Rows.boot_isinstance (J.b (J.a 2) (J.b (Jd.pe_ty rfl T.int_ PyProof.Rows.boot_int) J.d st_N) st_N) (he:=st_N) (hpl:=(anyc st_N any0))))))))
  (J.h (J.k J.u))
  J.o)))
  (J.f (J.t PassesOwn.never rfl (J.w K (J.a 1)) (J.n (i:=3) sc_law_spots.nd rfl (Or.inl rfl))
  (J.f (J.an (O:=["_law_one"]) (N':=["_law_three"]) (cap:=[0]) (i:=4) sc_law_spots.nd rfl (Or.inl rfl) rfl (J.w K (J.a 3)) (fun _ _ _ _ _=>(J.n (i:=0) (show List.Nodup [("_law_one":Str),("_law_three":Str)] by decide +kernel) rfl (Or.inl rfl))) (fun _ _ _ _ _=>(Jd.pts_one (J.j (inSeq K) (J.e (ixT K) (J.a 0) J.c (fun _ _=>rfl)) (J.a 1) rfl))) (fun _ _ _ _ _=>(J.a 0)) rfl ⟨⟨rfl,rfl,rfl,rfl⟩,trivial⟩ rfl (by decide +kernel) rfl (by decide +kernel) (by rfl))
  (J.h (J.m (J.j (op_eqD hu64) (J.af call_tuple_of rfl T.tuple_ PyProof.Rows.boot_tuple (J.b (Jd.pe_comp (O:=["_law_one"]) (N':=[]) (cap:=[]) rfl (J.w K (J.a 4)) (fun _ _ _ _ _=>(J.n (i:=0) (show List.Nodup [("_law_one":Str)] by decide +kernel) rfl (Or.inl rfl))) (fun _ _ _ _ _=>J.ag) (fun _ _ _ _ _=>(J.e (ixT K) (J.a 0) J.c (fun _ _=>rfl))) rfl trivial rfl (by decide +kernel) rfl (by decide +kernel)) J.d st_G)) (J.a 0) (nomark _))
  (J.h (J.k (J.a 4)))
  J.o))))
  (J.h (J.k J.u))))),?_⟩
 walk_at "v"
 refine r_isi (.tup et) kit_tt ?_
 walk_at "v"
 refine iteF ?_
 walk_at "v"
 refine r_len (.inr (SqT.of et)) ?_
 walk_at "v"
 refine iteF ?_
 walk_at "v"
 refine ⟨_,rfl,t,rfl,⟨_,SqT.of et⟩,for_tup (K:=K) (a:=t) (xs:=[.int t0,.int t1,.int t2]) (fun _ σ H2=>H2=H∧∃v:Option V,σ=[some (.ref t),some (.ref TT),v,none,none]) ⟨rfl,none,rfl⟩ (fun _ σ H2 _ ⟨e,_⟩=>by rw [e];exact SqT.of et) ?_ ?_⟩
 ·rintro q y' σ H2 hj ⟨rfl,v,rfl⟩
  refine body_cut fun M Bk RR hM _ _=>?_
  obtain ⟨m',rfl⟩:∃m':Int,y'=.int m':=by
   have hm:=List.mem_of_getElem? hj
   simp at hm
   rcases hm with h | h | h
   ·exact ⟨_,h⟩
   ·exact ⟨_,h⟩
   ·exact ⟨_,h⟩
  walk_at "v"
  refine r_isi (.int m') kit_ib ?_
  walk_at "v"
  refine iteF ?_
  walk_at "v"
  refine r_isi (.int m') kit_ii ?_
  walk_at "v"
  refine iteF ?_
  walk_at "v"
  exact hM _ _ ⟨rfl,_,rfl⟩
 ·rintro σ H2 ⟨rfl,v,rfl⟩
  walk_at "v"
  refine r_for (r_iL ?_)
  walk_at "v"
  refine ⟨TT,rfl,⟨_,SqL.of eT⟩,for_list (xs:=[V.ref L]) (fun e σ H3=>Same H2 H3∧(0<e→¬ ∃i j k,SpotN hs (t0,t1,t2) i j k)∧∃v2 v3 v4:Option V,σ=[some (.ref t),some (.ref TT),v2,v3,v4]) ⟨Same.refl _,fun z=>absurd z (by omega),_,_,_,rfl⟩ ?_ ?_ ?_⟩
  ·rintro e σ H3 _ ⟨s3,_⟩
   exact SqL.of (s3 _ _ eT)
  ·rintro e v σ H3 hv ⟨s3,_,v2,v3,v4,rfl⟩
   refine body_cut fun M Bk RR hM _ hR=>?_
   obtain rfl:e=0:=by have:=(List.getElem?_eq_some_iff.mp hv).1;simpa using this
   obtain rfl:v=.ref L:=by simpa using hv.symm
   have N3:=hN.up s3
   walk_at "v"
   refine r_iL ?_
   walk_at "v"
   refine ⟨L,rfl,⟨_,SqL.of N3.at_⟩,?_⟩
   refine compB_of (xs:=nvals hs) tells_list (fun H4 s4=>SqL.of (s4 _ _ N3.at_)) (by rw [nvals_len];have:=hN.len;omega) (fun c ys G=>ys=nvals ((hs.take c).filter (mAt t0 t1 t2))) rfl ?_ ?_
   ·rintro D c v ys H4 σ0 NN N0 h0 hD eD s4 hv hy rfl kY kN
    obtain ⟨u,gu,rfl⟩:=nvals_at hv
    have eu:=((hN.row u (List.mem_of_getElem? gu)).up (s3.trans s4)).1
    have ts:=PySem.take_succ_filter (mAt t0 t1 t2) hs c u gu
    refine r_own1 h0 ?_
    walk_at "v"
    refine ⟨t,_,rfl,.inr (SqT.of ((s3.trans s4) _ _ et)),rfl,rfl,?_⟩
    walk_at "v"
    show if inV (.int u.2.1) [.int t0,.int t1,.int t2]=true then _ else _
    rw [inV_three,show (decide (u.2.1=t0)||(decide (u.2.1=t1)||decide (u.2.1=t2)))=mAt t0 t1 t2 u from rfl]
    cases hm:mAt t0 t1 t2 u with
    | true=>
      rw [hm,if_pos rfl] at ts
      refine iteT ?_
      walk_at "v"
      exact kY _ H4 (Same.refl _) (by rw [ts,← nvals_snoc])
    | false=>
      rw [hm,if_neg Bool.false_ne_true,List.append_nil] at ts
      refine iteF ?_
      exact kN H4 (Same.refl _) (by rw [ts])
   ·rintro D ys H4 hD eD s4 hy rfl
    rw [nvals_len,List.take_length] at eD
    have s34:=s3.trans s4
    have N4:=hN.up s34
    have hfl:(hs.filter (mAt t0 t1 t2)).length≤50:=Nat.le_trans (List.length_filter_le ..) (by have:=hN.len;omega)
    have hrf:NRow H4 (hs.filter (mAt t0 t1 t2)) 46 150:=fun u hu=>N4.row u (List.mem_filter.mp hu).1
    have hsub:(hs.filter (mAt t0 t1 t2)).Pairwise fun a b=>a.2.1<b.2.1:=hri.sublist List.filter_sublist
    generalize hF:hs.filter (mAt t0 t1 t2)=fs at *
    walk_at "v"
    refine r_iL ?_
    walk_at "v"
    refine ⟨D,rfl,⟨_,SqL.of eD⟩,?_⟩
    refine compB_of (xs:=nvals fs) tells_list (fun H5 s5=>SqL.of (s5 _ _ eD)) (by rw [nvals_len];omega) (fun c ys G=>ys=((fs.take c).map fun x=>x.2.1).map V.int) rfl ?_ ?_
    ·rintro D' c v ys H5 σ0 NN N0 h0 hD' eD' s5 hv hy rfl kY kN
     obtain ⟨u,gu,rfl⟩:=nvals_at hv
     have eu:=((hrf u (List.mem_of_getElem? gu)).up s5).1
     have tk:fs.take (c+1)=fs.take c++[u]:=by rw [List.take_add_one,gu];rfl
     refine r_own1 h0 ?_
     walk_at "v"
     refine iteT ?_
     walk_at "v"
     exact kY _ H5 (Same.refl _) (by rw [tk];simp)
    ·rintro D' ys H5 hD' eD' s5 hy rfl
     rw [nvals_len,List.take_length] at eD'
     walk_at "v"
     refine ⟨D',_,rfl,.inl ⟨SqL.of eD',fun tp ntp=>?_⟩⟩
     have s6:Same H5 (upd H5 tp (.tup ((fs.map fun x=>x.2.1).map V.int))):=same_new ntp _
     have e6:upd H5 tp (.tup ((fs.map fun x=>x.2.1).map V.int)) tp=some (.tup ((fs.map fun x=>x.2.1).map V.int)):=upd_same
     generalize upd H5 tp (.tup ((fs.map fun x=>x.2.1).map V.int))=H6 at *
     have s36:=s34.trans (s5.trans s6)
     walk_at "v"
     refine tups_eq (bs:=[t0,t1,t2]) e6 (s36 _ _ et) ?_
     walk_at "v"
     by_cases he:(fs.map fun x=>x.2.1)=[t0,t1,t2]
     ·rw [decide_eq_true he]
      refine iteT ?_
      walk_at "v"
      match fs,he with
      | [x,y,z],he=>
        have he:[x.2.1,y.2.1,z.2.1]=[t0,t1,t2]:=he
        injection he with a1 he
        injection he with a2 he
        injection he with a3 he
        have mem:∀u,u∈[x,y,z]→u∈hs:=fun u hu=>by rw [← hF] at hu;exact (List.mem_filter.mp hu).1
        obtain ⟨i,gi⟩:=List.mem_iff_getElem?.mp (mem x (by simp))
        obtain ⟨j,gj⟩:=List.mem_iff_getElem?.mp (mem y (by simp))
        obtain ⟨k,gk⟩:=List.mem_iff_getElem?.mp (mem z (by simp))
        have hxy:x.2.1<y.2.1:=by have:=(List.pairwise_cons.mp hsub).1;exact this y (by simp)
        have hyz:y.2.1<z.2.1:=by have:=(List.pairwise_cons.mp (List.pairwise_cons.mp hsub).2).1;exact this z (by simp)
        have li:=(List.getElem?_eq_some_iff.mp gi).1
        have lj:=(List.getElem?_eq_some_iff.mp gj).1
        have lk:=(List.getElem?_eq_some_iff.mp gk).1
        have ord:∀{p q:Nat} {u v:Nn},hs[p]?=some u→hs[q]?=some v→u.2.1<v.2.1→p<q:=fun {p q u v} gp gq huv=>by
         rcases Nat.lt_trichotomy p q with w | w | w
         ·exact w
         ·subst w;rw [gp] at gq;cases gq;omega
         ·have:=nmo_lt hri w (List.getElem?_eq_some_iff.mp gp).1
          rw [nmo_at gp,nmo_at gq] at this
          omega
        exact hR _ _ (ks i j k x y z ⟨ord gi gj hxy,ord gj gk hyz,lk,by rw [nmo_at gi];exact a1,by rw [nmo_at gj];exact a2,by rw [nmo_at gk];exact a3⟩ gi gj gk D H6 s36 ((s5.trans s6) _ _ eD))
     ·rw [decide_eq_false he]
      refine iteF ?_
      walk_at "v"
      refine hM _ _ ⟨s36,fun _ ⟨i,j,k,h1,h2,h3,e1,e2,e3⟩=>he ?_,_,_,_,rfl⟩
      obtain ⟨x,gx⟩:∃x,hs[i]?=some x:=⟨_,List.getElem?_eq_getElem (by omega)⟩
      obtain ⟨y,gy⟩:∃x,hs[j]?=some x:=⟨_,List.getElem?_eq_getElem (by omega)⟩
      obtain ⟨z,gz⟩:∃x,hs[k]?=some x:=⟨_,List.getElem?_eq_getElem h3⟩
      rw [nmo_at gx] at e1
      rw [nmo_at gy] at e2
      rw [nmo_at gz] at e3
      have e1:x.2.1=t0:=e1
      have e2:y.2.1=t1:=e2
      have e3:z.2.1=t2:=e3
      have:=spots_are hri h1 h2 gx gy gz
      rw [e1,e2,e3] at this
      rw [← hF,this]
      show [x.2.1,y.2.1,z.2.1]=_
      rw [e1,e2,e3]
  ·rintro σ H3 ⟨s3,hno,v2,v3,v4,rfl⟩
   walk_at "v"
   exact kn (hno (by show 0<1;decide)) H3 s3
theorem sc_law_worthy:FnScope ["_law_held","_law_bound","_law_by","_law_at","_law_one","_law_mid","_law_last","_law_stood","_law_limit"] ["_law_held","_law_bound","_law_by","_law_at"] (defScope s_law_worthy):=⟨rfl,rfl,rfl,by decide +kernel,rfl,by decide +kernel,by decide +kernel⟩
theorem ok_law_worthy (F:Fun K "_law_worthy" "_law_worthy" s_law_worthy f fd) (T:Txt mg) (D_law_stand:Dn P w K mg base 1 "_law_stand" ["_law_one","_law_mid","_law_last"] spStandN):FnOk P w K mg base CX0 2 f fd ["_law_held","_law_bound","_law_by","_law_at"] spWorthy:=by
 refine F.ok sc_law_worthy (fun vs H Q E h=>?_) (fun cdv A outer s H vs Q E hr h=>?_)
 ·obtain ⟨R,pb,L,hs,i,j,k,x,y,z,c,at_,rfl,_⟩:=h
  rfl
 obtain ⟨R,pb,L,hs,i,j,kk,x,y,z,c,at_,rfl,hN,gx,gy,gz,eR,eb,zc,k⟩:=h
 obtain ⟨x',hx',ex,zx1,zx2⟩:=nn_at hN.row hN.all (List.getElem?_eq_some_iff.mp gx).1
 obtain ⟨y',hy',ey,zy1,zy2⟩:=nn_at hN.row hN.all (List.getElem?_eq_some_iff.mp gy).1
 obtain ⟨z',hz',ez,zz1,zz2⟩:=nn_at hN.row hN.all (List.getElem?_eq_some_iff.mp gz).1
 rw [gx] at hx';cases hx'
 rw [gy] at hy';cases hy'
 rw [gz] at hz';cases hz'
 refine J.q ⟨_,(J.f (J.ah (J.a 0) (Jd.pgL K (n:=3) rfl (J.v (J.n (i:=4) sc_law_worthy.nd rfl (Or.inl rfl)) (J.v (J.n (i:=5) sc_law_worthy.nd rfl (Or.inl rfl)) (J.v (J.n (i:=6) sc_law_worthy.nd rfl (Or.inl rfl)) J.ae)))))
  (J.f (J.i (i:=7) sc_law_worthy.nd rfl (Or.inl rfl) (J.g op_mulB (J.p absC rfl T.abs_ PyProof.Rows.boot_abs (J.b (J.l D_law_stand (hr.mono (by decide)) rfl (J.b (J.a 4) (J.b (J.a 5) (J.b (J.a 6) J.d st_N) st_N) st_N) (he:=st_N) (hpl:=(anyc st_N (anyc st_N any0)))) J.d st_K) (he:=st_K) (hpl:=any0)) (J.e (ixT K) (J.a 1) J.c (fun _ _=>rfl))) (hs:=sw_B))
  (J.f (J.i (i:=8) sc_law_worthy.nd rfl (Or.inl rfl) (J.g op_mulB (J.g op_mulB (J.a 2) (J.e (ixT K) (J.a 1) J.c (fun _ _=>rfl))) (J.g op_sub (J.e (ixT K) (J.a 6) J.c (fun _ _=>rfl)) (J.e (ixT K) (J.a 4) J.c (fun _ _=>rfl)))) (hs:=sw_B))
  (J.h (J.k (Jd.pe_and (J.ac op_gt (J.a 7) J.c (nomark _)) (Jd.pe_one (Jd.pe_or (J.ac op_gt (J.a 7) (J.a 8) (nomark _)) (Jd.pe_one (Jd.pe_and (J.a 3) (Jd.pe_one (J.ac op_eq (J.a 7) (J.a 8) (nomark _))))))))))))),?_⟩
 walk_at "v"
 refine r_asg ?_
 walk_at "v"
 refine r_unlist3 eR ?_
 walk_at "v"
 refine ⟨x.1,y.1,z.1,_,_,_,_,_,_,46,150,rfl,ex,ey,ez,zx1,zy1,zz1,zx2,zy2,zz2,by decide,?_⟩
 walk_at "v"
 rw [abs_cast]
 walk_at "v"
 have hS:nst (nmo hs i) (nno hs i) (nmo hs j) (nno hs j) (nmo hs kk) (nno hs kk)=nsd hs i j kk:=rfl
 rw [hS,Int.one_mul,Int.mul_one]
 refine r_I (mulOk zc (zz1.sub zx1)) ?_
 unfold wy at k
 generalize ((nsd hs i j kk).natAbs:Int)=S at k ⊢
 generalize c*(nmo hs kk-nmo hs i)=D at k ⊢
 walk_at "v"
 by_cases c0:0<S
 ·rw [decide_eq_true c0] at k ⊢
  refine iteT ?_
  walk_at "v"
  by_cases c1:D<S
  ·rw [decide_eq_true c1] at k ⊢
   refine iteT ?_
   walk_at "v"
   exact k
  ·rw [decide_eq_false c1] at k ⊢
   refine iteF ?_
   walk_at "v"
   cases at_ with
   | true=>
     refine iteT ?_
     walk_at "v"
     rw [Bool.true_and,Bool.false_or,Bool.true_and] at k
     exact k
   | false=>
     refine iteF ?_
     walk_at "v"
     exact k
 ·rw [decide_eq_false c0] at k ⊢
  refine iteF ?_
  walk_at "v"
  exact k
theorem sc_law_shut:FnScope ["_law_part","_law_first","_law_last","_law_bound","_law_at","_law_some","_law_mid","_law_held"] ["_law_part","_law_first","_law_last","_law_bound","_law_at"] (defScope s_law_shut):=⟨rfl,rfl,rfl,by decide +kernel,rfl,by decide +kernel,by decide +kernel⟩
theorem ok_law_shut (F:Fun K "_law_shut" "_law_shut" s_law_shut f fd) (T:Txt mg) (D_law_worthy:Dn P w K mg base 2 "_law_worthy" ["_law_held","_law_bound","_law_by","_law_at"] spWorthy):FnOk P w K mg base CX0 3 f fd ["_law_part","_law_first","_law_last","_law_bound","_law_at"] spShut:=by
 refine F.ok sc_law_shut (fun vs H Q E h=>?_) (fun cdv A outer s H vs Q E hr h=>?_)
 ·obtain ⟨L,pb,hs,i,l,c,at_,rfl,_⟩:=h
  rfl
 obtain ⟨L,pb,hs,i,l,c,at_,rfl,hN,hil,hl,eb,zc,k⟩:=h
 have h30:=hN.len
 refine J.q ⟨_,(J.f (J.i (i:=5) sc_law_shut.nd rfl (Or.inl rfl) (J.s J.d) (hs:=sw_L))
  (J.f (J.t PassesOwn.never rfl (J.ap rfl T.range (J.b (J.g op_add (J.a 1) J.c) (J.b (J.a 2) J.d st_N) st_B)) (J.n (i:=6) sc_law_shut.nd rfl (Or.inl rfl))
  (J.f (J.i (i:=7) sc_law_shut.nd rfl (Or.inl rfl) (J.s (J.b (J.e (ixL K) (J.a 0) (J.a 1) (fun _ _=>rfl)) (J.b (J.e (ixL K) (J.a 0) (J.a 6) (fun _ _=>rfl)) (J.b (J.e (ixL K) (J.a 0) (J.a 2) (fun _ _=>rfl)) J.d st_S) st_S) st_S)) (hs:=sw_L))
  (J.h (J.m (J.ad (J.l D_law_worthy (hr.mono (by decide)) rfl (J.b (J.a 7) (J.b (J.a 3) (J.b J.c (J.b (J.a 4) J.d st_N) st_C) st_N) st_N) (he:=st_N) (hpl:=(anyc st_N (anyc st_C (anyc st_N any0))))))
  (J.h (J.x (J.y K (J.a 5) (J.r (J.b (J.e (ixT K) (J.e (ixL K) (J.a 7) J.c (fun _ _=>rfl)) J.c (fun _ _=>rfl)) (J.b (J.e (ixT K) (J.e (ixL K) (J.a 7) J.c (fun _ _=>rfl)) J.c (fun _ _=>rfl)) (J.b (J.e (ixT K) (J.e (ixL K) (J.a 7) J.c (fun _ _=>rfl)) J.c (fun _ _=>rfl)) J.d st_S) st_S) st_S))) (hs:=sw_K)))
  J.o))))
  (J.h (J.k (J.a 5))))),?_⟩
 walk_at "v"
 refine r_new (mk:=.lst) (by simp) fun R H1 s1 n1 e1=>?_
 walk_at "v"
 refine r_for (r_rng2 ?_)
 walk_at "v"
 refine ⟨_,_,rfl,⟨by lia,by lia,by lia,by lia⟩,for_range (fun m σ H3=>∃(ts:List Th) (v6 v7:Option V),σ=[some (.ref L),some (.int (i:Int)),some (.int (l:Int)),some (.ref pb),some (.bl at_),some (.ref R),v6,v7]∧Same H H3∧H3 R=some (.lst (threfs ts))∧AllT H3 ts∧ts.map (·.2)=jin (fun i j=>wy hs c at_ i j l) (fun i j=>(nmo hs i,nmo hs j,nmo hs l)) i m) ⟨[],none,none,rfl,s1,e1,fun x hx=>absurd hx (by simp),rfl⟩ ?_ ?_⟩
 ·rintro m σ H3 hm ⟨ts,v6,v7,rfl,s3,e3,hts,hmap⟩
  have hm':i+1+m<l:=by omega
  rw [show (i:Int)+1+(m:Int)=((i+1+m:Nat):Int) by omega]
  have N3:=hN.up s3
  obtain ⟨x,gx,ex,_⟩:=nn_at N3.row N3.all (show i<hs.length by omega)
  obtain ⟨y,gy,ey,_⟩:=nn_at N3.row N3.all (show i+1+m<hs.length by omega)
  obtain ⟨z,gz,ez,_⟩:=nn_at N3.row N3.all hl
  have htl:ts.length≤100:=by
   have e:=congrArg List.length hmap
   rw [List.length_map] at e
   have:=jin_len (fun i j=>wy hs c at_ i j l) (fun i j=>(nmo hs i,nmo hs j,nmo hs l)) i m
   omega
  walk_at "v"
  refine r_l N3.at_ (at_nval gx rfl) ?_
  walk_at "v"
  refine r_l N3.at_ (at_nval gy rfl) ?_
  walk_at "v"
  refine r_l N3.at_ (at_nval gz rfl) ?_
  walk_at "v"
  refine r_new (mk:=.lst) (by simp) fun D H4 s4 n4 e4=>?_
  have s04:=s3.trans s4
  walk_at "v"
  refine ⟨D,pb,L,hs,i,i+1+m,l,x,y,z,c,at_,rfl,hN.up s04,gx,gy,gz,e4,s04 _ _ eb,zc,?_⟩
  walk_at "v"
  have ex4:=s4 _ _ ex
  have ey4:=s4 _ _ ey
  have ez4:=s4 _ _ ez
  cases hw:wy hs c at_ i (i+1+m) l with
  | true=>
    refine iteT ?_
    walk_at "v"
    refine ⟨.inl ⟨rfl,_,SqL.of (s4 _ _ e3)⟩,?_⟩
    walk_at "v"
    refine r_l e4 at0 ?_
    walk_at "v"
    refine r_l e4 at1 ?_
    walk_at "v"
    refine r_l e4 at2 ?_
    walk_at "v"
    refine r_new (mk:=.tup) (by simp) fun t H5 s5 n5 e5=>?_
    have s45:=s4.trans s5
    walk_at "v"
    refine r_app (s45 _ _ e3) (by rw [threfs_len];exact small1000 (by omega)) ?_
    refine ⟨ts++[(t,nmo hs i,nmo hs (i+1+m),nmo hs l)],_,_,rfl,same_at (s3.trans s45) n1,by rw [upd_same,← threfs_snoc],(AllT.snoc (x:=(t,nmo hs i,nmo hs (i+1+m),nmo hs l)) (hts.up s45) e5).app (s45 _ _ e3),?_⟩
    rw [List.map_append,hmap,jin_succ,if_pos hw]
    rfl
  | false=>
    refine iteF ?_
    walk_at "v"
    refine ⟨ts,_,_,rfl,s04,s4 _ _ e3,hts.up s4,?_⟩
    rw [hmap,jin_succ,if_neg (by rw [hw];exact Bool.false_ne_true),List.append_nil]
 ·rintro σ H3 ⟨ts,v6,v7,rfl,s3,e3,hts,hmap⟩
  walk_at "v"
  refine k R ts H3 s3 n1 e3 hts ?_
  rw [hmap]
  unfold shF
  congr 1
  omega
theorem sc_law_numbers:FnScope ["_law_part","_law_bound","_law_tied","_law_some","_law_end","_law_last","_law_low","_law_start"] ["_law_part","_law_bound","_law_tied"] (defScope s_law_numbers):=⟨rfl,rfl,rfl,by decide +kernel,rfl,by decide +kernel,by decide +kernel⟩
theorem ok_law_numbers (F:Fun K "_law_numbers" "_law_numbers" s_law_numbers f fd) (T:Txt mg) (D_law_shut:Dn P w K mg base 3 "_law_shut" ["_law_part","_law_first","_law_last","_law_bound","_law_at"] spShut):FnOk P w K mg base CX0 4 f fd ["_law_part","_law_bound","_law_tied"] spNumb:=by
 refine F.ok sc_law_numbers (fun vs H Q E h=>?_) (fun cdv A outer s H vs Q E hr h=>?_)
 ·obtain ⟨L,pb,hs,c,tied,rfl,_⟩:=h
  rfl
 obtain ⟨L,pb,hs,c,tied,rfl,hN,h1,eb,zc,k⟩:=h
 have h30:=hN.len
 have hsh:=shft_le tied
 have hi:(if (!tied)=true then (1:Int) else 0)=(shft tied:Int):=by cases tied <;> rfl
 refine J.q ⟨_,(J.f (J.i (i:=3) sc_law_numbers.nd rfl (Or.inl rfl) (J.s (J.b J.c J.d st_C)) (hs:=sw_L))
  (J.f (J.t PassesOwn.never rfl (J.ap rfl T.range (J.b J.c (J.b (J.g op_add (J.p (lenC K) rfl T.len_ PySem.boot_len (J.b (J.a 0) J.d st_N) (he:=st_N) (hpl:=any0)) (J.af call_int1 rfl T.int_ PyProof.Rows.boot_int (J.b (Jd.pe_not (J.a 2)) J.d st_U))) J.d st_B) st_C)) (J.n (i:=4) sc_law_numbers.nd rfl (Or.inl rfl))
  (J.f (J.i (i:=5) sc_law_numbers.nd rfl (Or.inl rfl) (J.g op_sub (J.a 4) (J.af call_int1 rfl T.int_ PyProof.Rows.boot_int (J.b (Jd.pe_not (J.a 2)) J.d st_U))) (hs:=sw_B))
  (J.f (J.i (i:=6) sc_law_numbers.nd rfl (Or.inl rfl) (J.g op_add (J.e (ixL K) (J.a 3) (J.g op_sub (J.a 4) J.c) (fun _ _=>rfl)) J.c) (hs:=sw_B))
  (J.f (J.t PassesOwn.never rfl (J.al rfl T.range (J.b (J.a 4) J.d st_N)) (J.n (i:=7) sc_law_numbers.nd rfl (Or.inl rfl))
  (J.h (J.m (J.aa (J.am (J.j op_lt (J.g op_add (J.e (ixL K) (J.a 3) (J.a 7) (fun _ _=>rfl)) J.c) (J.a 6) (nomark _)) (J.ao (J.j op_eq (J.p (lenC K) rfl T.len_ PySem.boot_len (J.b (J.l D_law_shut (hr.mono (by decide)) rfl (J.b (J.a 0) (J.b (J.a 7) (J.b (J.a 5) (J.b (J.a 1) (J.b J.ab J.d st_C) st_N) st_N) st_N) st_N) (he:=st_N) (hpl:=(anyc st_N (anyc st_N (anyc st_N (anyc st_C any0)))))) J.d st_K) (he:=st_K) (hpl:=any0)) J.c (nomark _)))))
  (J.h (J.i (i:=6) sc_law_numbers.nd rfl (Or.inl rfl) (J.g op_add (J.e (ixL K) (J.a 3) (J.a 7) (fun _ _=>rfl)) J.c) (hs:=sw_B)))
  J.o)))
  (J.h (J.x (J.y K (J.a 3) (J.a 6)) (hs:=sw_K)))))))
  (J.h (J.k (J.a 3))))),?_⟩
 walk_at "v"
 refine r_new (mk:=.lst) (by simp) fun R H1 s1 n1 e1=>?_
 walk_at "v"
 refine r_for (r_rng2 ?_)
 walk_at "v"
 refine r_len (.inl (SqL.of (s1 _ _ hN.at_))) ?_
 rw [nvals_len]
 walk_at "v"
 refine .inr ⟨_,rfl,?_⟩
 rw [hi]
 walk_at "v"
 refine ⟨_,_,rfl,⟨by lia,by lia,by lia,by lia⟩,for_range (fun m σ H3=>∃(ns:List Int) (v4 v5 v6 v7:Option V),σ=[some (.ref L),some (.ref pb),some (.bl tied),some (.ref R),v4,v5,v6,v7]∧Same H H3∧H3 R=some (.lst (ns.map V.int))∧ns.length=m+1∧NumOk hs c (shft tied) ns) ⟨[0],none,none,none,none,rfl,s1,e1,rfl,fun s e h1 h2=>by simp at h2;omega⟩ ?_ ?_⟩
 ·rintro m σ H3 hm ⟨ns,v4,v5,v6,v7,rfl,s3,e3,hnl,hok⟩
  have hm':m+1<hs.length+shft tied:=by omega
  rw [show (1:Int)+(m:Int)=((m+1:Nat):Int) by omega]
  have N3:=hN.up s3
  refine body_cut fun MM B RR hMM _ _=>?_
  walk_at "v"
  refine .inr ⟨_,rfl,?_⟩
  rw [hi]
  walk_at "v"
  refine r_l e3 (getD_ints (i:=m) (by omega) (by omega)) ?_
  walk_at "v"
  dsimp only
  refine r_for (r_rng1 ?_)
  walk_at "v"
  have hlast:(((m+1:Nat):Int)-(shft tied:Int))=((m+1-shft tied:Nat):Int):=by omega
  rw [hlast]
  refine ⟨_,rfl,by omega,by omega,for_range (fun q σ H4=>∃(low:Int) (v7:Option V),σ=[some (.ref L),some (.ref pb),some (.bl tied),some (.ref R),some (.int ((m+1:Nat):Int)),some (.int ((m+1-shft tied:Nat):Int)),some (.int low),v7]∧Same H H4∧H4 R=some (.lst (ns.map V.int))∧∀s,s<q→shF hs c false s (m+1-shft tied)=[]→low≤ns.getD s 0+1) ⟨_,_,rfl,s3,e3,fun s hs=>absurd hs (by omega)⟩ ?_ ?_⟩
  ·rintro q σ H4 hq ⟨low,v7,rfl,s4,e4,hlow⟩
   have hq':q<m+1:=by omega
   have N4:=hN.up s4
   rw [show (0:Int)+(q:Int)=(q:Int) by omega]
   refine body_cut fun M2 B2 R2 hM2 _ _=>?_
   have nxt:∀(low':Int) (H5:Hp),Same H H5→H5 R=some (.lst (ns.map V.int))→low'≤low→(shF hs c false q (m+1-shft tied)=[]→low'≤ns.getD q 0+1)→M2 [some (.ref L),some (.ref pb),some (.bl tied),some (.ref R),some (.int ((m+1:Nat):Int)),some (.int ((m+1-shft tied:Nat):Int)),some (.int low'),some (.int (q:Int))] H5:=fun low' H5 s5 e5 hle hq2=>hM2 _ _ ⟨low',_,rfl,s5,e5,fun s hs hz=>by
    rcases Nat.lt_or_eq_of_le (Nat.le_of_lt_succ hs) with z | z
    ·have:=hlow s z hz;omega
    ·subst z;exact hq2 hz⟩
   walk_at "v"
   refine r_l e4 (getD_ints (i:=q) (by omega) rfl) ?_
   walk_at "v"
   refine ite2 (fun c1=>?_) (fun c1=>?_)
   ·have c1:ns.getD q 0+1<low:=of_decide_eq_true c1
    walk_at "v"
    refine ⟨L,pb,hs,q,m+1-shft tied,c,false,rfl,N4,by omega,by omega,s4 _ _ eb,zc,fun D ts H5 s5 n5 e5 hts hmap=>?_⟩
    have e45:=s5 _ _ e4
    walk_at "v"
    refine r_len (.inl (SqL.of e5)) ?_
    rw [threfs_len]
    walk_at "v"
    by_cases h0:ts.length=0
    ·rw [decide_eq_true (show (ts.length:Int)=0 by omega)]
     refine iteT ?_
     walk_at "v"
     refine r_l e45 (getD_ints (i:=q) (by omega) rfl) ?_
     walk_at "v"
     exact nxt _ H5 (s4.trans s5) e45 (by omega) fun _=>Int.le_refl _
    ·rw [decide_eq_false (show ¬(ts.length:Int)=0 by omega)]
     refine iteF ?_
     walk_at "v"
     refine nxt low H5 (s4.trans s5) e45 (Int.le_refl _) fun z=>absurd (congrArg List.length hmap) ?_
     rw [z,List.length_map]
     exact h0
   ·have c1:¬ns.getD q 0+1<low:=of_decide_eq_false (Bool.eq_false_iff.mpr c1)
    walk_at "v"
    refine iteF ?_
    walk_at "v"
    exact nxt low H4 s4 e4 (Int.le_refl _) fun _=>by omega
  ·rintro σ H4 ⟨low,v7,rfl,s4,e4,hlow⟩
   rw [Int.toNat_natCast] at hlow
   walk_at "v"
   refine ⟨.inl ⟨rfl,_,SqL.of e4⟩,?_⟩
   walk_at "v"
   refine r_app e4 (by rw [List.length_map];exact small1000 (by omega)) ?_
   have gd:∀j,j<m+1→(ns++[low]).getD j 0=ns.getD j 0:=fun j hj=>by rw [List.getD_eq_getElem?_getD,List.getD_eq_getElem?_getD,List.getElem?_append_left (by omega)]
   have gl:(ns++[low]).getD (m+1) 0=low:=by rw [List.getD_eq_getElem?_getD,List.getElem?_append_right (by omega),hnl,Nat.sub_self];rfl
   refine hMM _ _ ⟨ns++[low],_,_,_,_,rfl,same_at s4 n1,by rw [upd_same,List.map_append];rfl,by rw [List.length_append,hnl];rfl,fun s e h1 h2 hz=>?_⟩
   rw [List.length_append,List.length_singleton,hnl] at h2
   rcases Nat.lt_or_eq_of_le (Nat.le_of_lt_succ h2) with z | z
   ·rw [gd e z,gd s (by omega)]
    exact hok s e h1 (by omega) hz
   ·subst z
    rw [gl,gd s h1]
    exact hlow s h1 hz
 ·rintro σ H3 ⟨ns,v4,v5,v6,v7,rfl,s3,e3,hnl,hok⟩
  walk_at "v"
  exact k R ns H3 s3 n1 e3 (by omega) hok
theorem sc_law_claim:FnScope ["_law_part","_law_bound","_law_tied","_law_pick","_law_numbers_here","_law_threes","_law_start","_law_end","_law_shut_here"] ["_law_part","_law_bound","_law_tied","_law_pick"] (defScope s_law_claim):=⟨rfl,rfl,rfl,by decide +kernel,rfl,by decide +kernel,by decide +kernel⟩
theorem ok_law_claim (F:Fun K "_law_claim" "_law_claim" s_law_claim f fd) (T:Txt mg) (D_law_shut:Dn P w K mg base 3 "_law_shut" ["_law_part","_law_first","_law_last","_law_bound","_law_at"] spShut) (D_law_numbers:Dn P w K mg base 4 "_law_numbers" ["_law_part","_law_bound","_law_tied"] spNumb):FnOk P w K mg base CX0 5 f fd ["_law_part","_law_bound","_law_tied","_law_pick"] spClaim:=by
 refine F.ok sc_law_claim (fun vs H Q E h=>?_) (fun cdv A outer s H vs Q E hr h=>?_)
 ·obtain ⟨L,pb,hs,c,pk,tied,rfl,_⟩:=h
  rfl
 obtain ⟨L,pb,hs,c,pk,tied,rfl,hN,h1,eb,zc,hpk,k⟩:=h
 have h30:=hN.len
 have hsh:=shft_le tied
 have hi:(if (!tied)=true then (1:Int) else 0)=(shft tied:Int):=by cases tied <;> rfl
 refine J.q ⟨_,(J.f (J.i (i:=4) sc_law_claim.nd rfl (Or.inl rfl) (J.l D_law_numbers (hr.mono (by decide)) rfl (J.b (J.a 0) (J.b (J.a 1) (J.b (J.a 2) J.d st_N) st_N) st_N) (he:=st_N) (hpl:=(anyc st_N (anyc st_N any0)))) (hs:=sw_K))
  (J.f (J.i (i:=5) sc_law_claim.nd rfl (Or.inl rfl) (J.s J.d) (hs:=sw_L))
  (J.f (J.t PassesOwn.never rfl (J.al rfl T.range (J.b (J.p (lenC K) rfl T.len_ PySem.boot_len (J.b (J.a 4) J.d st_N) (he:=st_N) (hpl:=any0)) J.d st_K)) (J.n (i:=6) sc_law_claim.nd rfl (Or.inl rfl))
  (J.h (J.t PassesOwn.never rfl (J.ap rfl T.range (J.b (J.g op_add (J.a 6) J.c) (J.b (J.p (lenC K) rfl T.len_ PySem.boot_len (J.b (J.a 4) J.d st_N) (he:=st_N) (hpl:=any0)) J.d st_K) st_B)) (J.n (i:=7) sc_law_claim.nd rfl (Or.inl rfl))
  (J.h (J.m (J.j op_gt (J.e (ixL K) (J.a 4) (J.a 7) (fun _ _=>rfl)) (J.g op_add (J.e (ixL K) (J.a 4) (J.a 6) (fun _ _=>rfl)) J.c) (nomark _))
  (J.f (J.i (i:=8) sc_law_claim.nd rfl (Or.inl rfl) (J.l D_law_shut (hr.mono (by decide)) rfl (J.b (J.a 0) (J.b (J.a 6) (J.b (J.g op_sub (J.a 7) (J.af call_int1 rfl T.int_ PyProof.Rows.boot_int (J.b (Jd.pe_not (J.a 2)) J.d st_U))) (J.b (J.a 1) (J.b J.ab J.d st_C) st_N) st_B) st_N) st_N) (he:=st_N) (hpl:=(anyc st_N (anyc st_B (anyc st_N (anyc st_C any0)))))) (hs:=sw_K))
  (J.h (J.x (J.y K (J.a 5) (J.e (ixL K) (J.a 8) (J.g op_mod (J.a 3) (J.p (lenC K) rfl T.len_ PySem.boot_len (J.b (J.a 8) J.d st_N) (he:=st_N) (hpl:=any0))) (fun _ _=>rfl))) (hs:=sw_K))))
  J.o)))))
  (J.h (J.k (J.r (J.b (J.a 4) (J.b (J.a 5) J.d st_N) st_N))))))),?_⟩
 walk_at "v"
 refine ⟨L,pb,hs,c,tied,rfl,hN,h1,eb,zc,fun R ns H1 s1 n1 e1 hnl hok=>?_⟩
 walk_at "v"
 refine r_new (mk:=.lst) (by simp) fun T0 H2 s2 n2 e2=>?_
 have hTR:R≠T0:=fun z=>by rw [z,n2] at e1;cases e1
 have s02:=s1.trans s2
 have n2':H T0=none:=s1.free n2
 walk_at "v"
 refine r_for (r_rng1 ?_)
 walk_at "v"
 refine r_len (.inl (SqL.of (s2 _ _ e1))) ?_
 rw [List.length_map]
 walk_at "v"
 refine ⟨_,rfl,by lia,by lia,for_range (fun i σ H3=>∃(ts:List Th) (v6 v7 v8:Option V),σ=[some (.ref L),some (.ref pb),some (.bl tied),some (.int pk),some (.ref R),some (.ref T0),v6,v7,v8]∧Same H H3∧H3 R=some (.lst (ns.map V.int))∧H3 T0=some (.lst (threfs ts))∧AllT H3 ts∧ts.length≤i*ns.length) ⟨[],none,none,none,rfl,s02,s2 _ _ e1,e2,fun x hx=>absurd hx (by simp),Nat.zero_le _⟩ ?_ ?_⟩
 ·rintro i σ H3 hi3 ⟨ts,v6,v7,v8,rfl,s3,eR3,e3,hts,htl⟩
  have hi':i<ns.length:=by omega
  rw [show (0:Int)+(i:Int)=(i:Int) by omega]
  walk_at "v"
  refine r_for (r_rng2 ?_)
  walk_at "v"
  refine r_len (.inl (SqL.of eR3)) ?_
  rw [List.length_map]
  walk_at "v"
  refine ⟨_,_,rfl,⟨by lia,by lia,by lia,by lia⟩,for_range (fun m σ H4=>∃(us:List Th) (v7 v8:Option V),σ=[some (.ref L),some (.ref pb),some (.bl tied),some (.int pk),some (.ref R),some (.ref T0),some (.int (i:Int)),v7,v8]∧Same H H4∧H4 R=some (.lst (ns.map V.int))∧H4 T0=some (.lst (threfs us))∧AllT H4 us∧us.length≤i*ns.length+m) ⟨ts,_,_,rfl,s3,eR3,e3,hts,htl⟩ ?_ ?_⟩
  ·rintro m σ H4 hm ⟨us,v7,v8,rfl,s4,eR4,e4,hus,hul⟩
   have hp:i+1+m<ns.length:=by omega
   have hbig:i*ns.length≤30*31:=Nat.mul_le_mul (by omega) (by omega)
   rw [show (i:Int)+1+(m:Int)=((i+1+m:Nat):Int) by omega]
   walk_at "v"
   refine r_l eR4 (getD_ints (i:=i+1+m) hp rfl) ?_
   walk_at "v"
   refine r_l eR4 (getD_ints (i:=i) hi' rfl) ?_
   walk_at "v"
   refine ite2 (fun c1=>?_) (fun c1=>?_)
   ·have c1:ns.getD (i+1+m) 0>ns.getD i 0+1:=of_decide_eq_true c1
    walk_at "v"
    refine .inr ⟨_,rfl,?_⟩
    rw [hi]
    walk_at "v"
    rw [show (((i+1+m:Nat):Int)-(shft tied:Int))=((i+1+m-shft tied:Nat):Int) by omega]
    refine ⟨L,pb,hs,i,i+1+m-shft tied,c,false,rfl,hN.up s4,by omega,by omega,s4 _ _ eb,zc,fun D ds H5 s5 n5 e5 hds hmap=>?_⟩
    have hpos:0<ds.length:=by
     apply Nat.pos_of_ne_zero
     intro z
     have hz:shF hs c false i (i+1+m-shft tied)=[]:=by rw [← hmap,List.eq_nil_of_length_eq_zero z];rfl
     have:=hok i (i+1+m) (by omega) hp hz
     omega
    walk_at "v"
    refine ⟨.inl ⟨rfl,_,SqL.of (s5 _ _ e4)⟩,?_⟩
    walk_at "v"
    refine r_len (.inl (SqL.of e5)) ?_
    rw [threfs_len]
    refine r_I (show (0:Int)<(ds.length:Int) by omega) ?_
    have m0:0≤pk % (ds.length:Int):=Int.emod_nonneg _ (by omega)
    have m1:pk % (ds.length:Int)<(ds.length:Int):=Int.emod_lt_of_pos _ (by omega)
    obtain ⟨q,hq⟩:∃q:Nat,pk % (ds.length:Int)=(q:Int):=⟨(pk % (ds.length:Int)).toNat,by omega⟩
    rw [hq] at m0 m1 ⊢
    obtain ⟨d,gd⟩:∃d,ds[q]?=some d:=⟨_,List.getElem?_eq_getElem (by omega)⟩
    refine r_l e5 (atI_nat (by unfold threfs;rw [List.getElem?_map,gd];rfl)) ?_
    walk_at "v"
    refine r_app (s5 _ _ e4) (by rw [threfs_len];exact small1000 (by omega)) ?_
    refine ⟨us++[d],_,_,rfl,same_at (s4.trans s5) n2',by rw [upd_ne hTR];exact s5 _ _ eR4,by rw [upd_same,threfs_snoc],((hus.up s5).snoc (hds d (List.mem_of_getElem? gd))).app (s5 _ _ e4),by rw [List.length_append,List.length_singleton];omega⟩
   ·walk_at "v"
    exact ⟨us,_,_,rfl,s4,eR4,e4,hus,by omega⟩
  ·rintro σ H4 ⟨us,v7,v8,rfl,s4,eR4,e4,hus,hul⟩
   refine ⟨us,_,_,_,rfl,s4,eR4,e4,hus,?_⟩
   rw [Nat.succ_mul]
   omega
 ·rintro σ H3 ⟨ts,v6,v7,v8,rfl,s3,eR3,e3,hts,htl⟩
  rw [Int.toNat_natCast] at htl
  have hbig:ns.length*ns.length≤31*31:=Nat.mul_le_mul (by omega) (by omega)
  walk_at "v"
  refine r_new (mk:=.tup) (by simp) fun x H4 s4 n4 e4=>?_
  exact k (x,R,T0) (ns,ts.map (·.2)) H4 (s3.trans s4) ⟨e4,s4 _ _ eR3,ts,s4 _ _ e3,hts.up s4,rfl⟩ n1 n2' hnl (by rw [List.length_map];omega)
end

noncomputable def spShownRun:Sp:=fun vs H Q _=>∃(L pb N1 N2:Addr) (hs:List Nn) (ns:List Int) (ts:List Th) (b c:Int) (tied at_:Bool),vs=[.ref L,.ref N1,.ref N2,.ref pb,.bl tied,.bl at_]∧NR H L hs∧1≤hs.length∧H N1=some (.lst (ns.map V.int))∧H N2=some (.lst (threfs ts))∧AllT H ts∧H pb=some (.tup [.int c,.int 1])∧Sz 150 c∧1≤b∧ns.length≤1000∧ts.length≤1000∧∀H',Same H H'→Q (dueV (shO (gh hs b) ((c:Rat)/(b:Rat)) tied at_ (ns,ts.map (·.2)))) H'
noncomputable def spShownTied:Sp:=fun vs H Q _=>∃(D pb Z:Addr) (ls:Nls) (xs:List Ent) (us:List Pv2) (b c:Int) (tied at_:Bool),vs=[.ref D,.ref pb,.ref Z,.bl tied,.bl at_]∧H D=some (.lst (ls.map fun x=>V.ref x.1))∧(∀x∈ls,NR H x.1 x.2∧1≤x.2.length)∧ls.length≤40∧H Z=some (.lst (xs.map fun x=>V.ref x.1))∧Each2 (EntD H) xs us∧pvOk us∧us.length≤900∧H pb=some (.tup [.int c,.int 1])∧Sz 150 c∧1≤b∧∀H',Same H H'→Q (dueV (shT (ls.map fun x=>gh x.2 b) ((c:Rat)/(b:Rat)) tied at_ us)) H'
theorem spotN_iff {hs:List Nn} {b:Int} {t:Int×Int×Int} {i j k:Nat}:SpotN hs t i j k↔Spot (gh hs b) t i j k:=by
 unfold SpotN Spot
 rw [gh_len,gh_mo,gh_mo,gh_mo]
theorem allO_none {os:List (Option Int)} {i:Nat} (h:os[i]?=some none):allO os=none:=by
 unfold allO
 rw [if_pos (List.any_eq_true.mpr ⟨none,List.mem_of_getElem? h,rfl⟩)]
section
variable {P:Program} {w:World} {K:PySem.W.Frag} {mg:Str→Option Value} {base:Heap} {f:Addr} {fd:FuncData}
theorem sc_law_shown_run:FnScope ["_law_part","_law_numbers_here","_law_threes","_law_bound","_law_tied","_law_at","_law_shut_here","_law_three","_law_held","_law_start","_law_end","_law_ends"] ["_law_part","_law_numbers_here","_law_threes","_law_bound","_law_tied","_law_at"] (defScope s_law_shown_run):=⟨rfl,rfl,rfl,by decide +kernel,rfl,by decide +kernel,by decide +kernel⟩
theorem ok_law_shown_run (F:Fun K "_law_shown_run" "_law_shown_run" s_law_shown_run f fd) (T:Txt mg) (D_law_spots:Dn P w K mg base 1 "_law_spots" ["_law_three","_law_parts"] spSpot1) (D_law_worthy:Dn P w K mg base 2 "_law_worthy" ["_law_held","_law_bound","_law_by","_law_at"] spWorthy):FnOk P w K mg base CX0 3 f fd ["_law_part","_law_numbers_here","_law_threes","_law_bound","_law_tied","_law_at"] spShownRun:=by
 refine F.ok sc_law_shown_run (fun vs H Q E h=>?_) (fun cdv A outer s H vs Q E hr h=>?_)
 ·obtain ⟨L,pb,N1,N2,hs,ns,ts,b,c,tied,at_,rfl,_⟩:=h
  rfl
 obtain ⟨L,pb,N1,N2,hs,ns,ts,b,c,tied,at_,rfl,hN,h1,e1,e2,hts,eb,zc,hb,hnl,htl,k⟩:=h
 have hu64:=hr.units
 have h30:=hN.len
 have hri:=hN.ris
 have hsh:=shft_le tied
 have hi:(if (!tied)=true then (1:Int) else 0)=(shft tied:Int):=by cases tied <;> rfl
 have no:∀H',Same H H'→¬OkP (gh hs b) ((c:Rat)/(b:Rat)) tied at_ (ns,ts.map (·.2))→Q .non H':=fun H' s' z=>by
  have:=k H' s'
  rw [shO_none z] at this
  exact this
 refine J.q (Jd.cut 1 (fun σ H'=>σ=[some (.ref L),some (.ref N1),some (.ref N2),some (.ref pb),some (.bl tied),some (.bl at_)]++List.replicate 6 none∧H'=H∧ns.length=hs.length+shft tied∧ns.getD 0 0≤0) ?_ fun u hu hR'=>?_)
 ·refine ⟨_,(J.f (J.i (i:=6) sc_law_shown_run.nd rfl (Or.inl rfl) Jd.pe_dnewT)
   (J.f (J.t PassesOwn.never rfl (J.w K (J.a 2)) (J.n (i:=7) sc_law_shown_run.nd rfl (Or.inl rfl))
   (J.f (J.i (i:=8) sc_law_shown_run.nd rfl (Or.inl rfl) (J.l D_law_spots (hr.mono (by decide)) rfl (J.b (J.a 7) (J.b (J.s (J.b (J.a 0) J.d st_N)) J.d st_L) st_N) (he:=st_N) (hpl:=(anyc st_L any0))) (hs:=sw_K))
   (J.h (J.m (J.aa (J.am (J.j op_notN (J.a 8) J.u (nomark _)) (J.ao (J.ad (J.l D_law_worthy (hr.mono (by decide)) rfl (J.b (J.a 8) (J.b (J.a 3) (J.b J.c (J.b (J.a 5) J.d st_N) st_C) st_N) st_N) (he:=st_N) (hpl:=(anyc st_N (anyc st_C (anyc st_N any0)))))))))
   (J.h (Jd.ps_dput hu64 (J.a 6) (J.r (J.b (J.e (ixT K) (J.a 7) J.c (fun _ _=>rfl)) (J.b (J.e (ixT K) (J.a 7) J.c (fun _ _=>rfl)) J.d st_S) st_S)) J.ab))
   J.o))))
   (J.f (J.t PassesOwn.never rfl (J.al rfl T.range (J.b (J.p (lenC K) rfl T.len_ PySem.boot_len (J.b (J.a 1) J.d st_N) (he:=st_N) (hpl:=any0)) J.d st_K)) (J.n (i:=9) sc_law_shown_run.nd rfl (Or.inl rfl))
   (J.h (J.t PassesOwn.never rfl (J.ap rfl T.range (J.b (J.g op_add (J.a 9) J.c) (J.b (J.p (lenC K) rfl T.len_ PySem.boot_len (J.b (J.a 1) J.d st_N) (he:=st_N) (hpl:=any0)) J.d st_K) st_B)) (J.n (i:=10) sc_law_shown_run.nd rfl (Or.inl rfl))
   (J.f (J.i (i:=11) sc_law_shown_run.nd rfl (Or.inl rfl) (J.r (J.b (J.e (ixT K) (J.e (ixL K) (J.a 0) (J.a 9) (fun _ _=>rfl)) J.c (fun _ _=>rfl)) (J.b (J.e (ixT K) (J.e (ixL K) (J.a 0) (J.g op_sub (J.a 10) (J.af call_int1 rfl T.int_ PyProof.Rows.boot_int (J.b (Jd.pe_not (J.a 4)) J.d st_U))) (fun _ _=>rfl)) J.c (fun _ _=>rfl)) J.d st_S) st_S)) (hs:=sw_T))
   (J.h (J.m (J.aa (J.am (J.j op_gt (J.e (ixL K) (J.a 1) (J.a 10) (fun _ _=>rfl)) (J.g op_add (J.e (ixL K) (J.a 1) (J.a 9) (fun _ _=>rfl)) J.c) (nomark _)) (J.ao (J.j (op_dNin hu64) (J.a 11) (J.a 6) rfl))))
   (J.h (J.k J.u))
   J.o))))))
   (J.h (J.k (J.p (maxC rfl) rfl T.max_ PyProof.Rows.boot_max (J.b J.c (J.b (J.e (ixL K) (J.a 1) (J.z un_neg J.c) (fun _ _=>rfl)) J.d st_S) st_C) (he:=st_C) (hpl:=(anyc st_S any0)))))))),?_⟩
  rintro σ H1 ⟨rfl,rfl,hlen,h0⟩
  walk_at "v"
  refine r_dnewT fun g H4 s4 n4 e4=>?_
  walk_at "v"
  refine r_for (r_iL ?_)
  walk_at "v"
  refine ⟨N2,rfl,⟨_,SqL.of (s4 _ _ e2)⟩,for_list (xs:=threfs ts) (fun i σ H5=>∃(v7 v8:Option V) (kvs:List (List Key×V)),σ=[some (.ref L),some (.ref N1),some (.ref N2),some (.ref pb),some (.bl tied),some (.bl at_),some (.ref g),v7,v8,none,none,none]∧Same H1 H5∧H5 g=some (.dT kvs)∧kvs.length≤i∧∀a z:Int,(valV kvs [.inl a,.inl z]).isSome=true↔∃t∈(ts.take i).map (·.2),Gd (gh hs b) ((c:Rat)/(b:Rat)) at_ t∧t.1=a∧t.2.2=z) ⟨none,none,[],rfl,s4,e4,Nat.le_refl _,fun a z=>⟨fun q=>(by cases q),fun ⟨t,q,_⟩=>(by simp at q)⟩⟩ ?_ ?_ ?_⟩
  ·rintro i σ H5 _ ⟨v7,v8,kvs,rfl,s5,_⟩
   exact SqL.of (s5 _ _ e2)
  ·rintro i v σ H5 hv ⟨v7,v8,kvs,rfl,s5,e5,hkl,hval⟩
   obtain ⟨t,ht,rfl⟩:=threfs_at hv
   have hi':=(List.getElem?_eq_some_iff.mp ht).1
   have mt:=List.mem_of_getElem? ht
   have tk:(ts.take (i+1)).map (·.2)=(ts.take i).map (·.2)++[t.2]:=by rw [List.take_succ,ht,Option.toList_some,List.map_append];rfl
   have skip:∀(H6:Hp) (v8:Option V) (N:L2.St→Hp→Prop),Same H5 H6→¬Gd (gh hs b) ((c:Rat)/(b:Rat)) at_ t.2→(∀σ' H',(∃(v7 v8:Option V) (kvs:List (List Key×V)),σ'=[some (.ref L),some (.ref N1),some (.ref N2),some (.ref pb),some (.bl tied),some (.bl at_),some (.ref g),v7,v8,none,none,none]∧Same H1 H'∧H' g=some (.dT kvs)∧kvs.length≤i+1∧∀a z:Int,(valV kvs [.inl a,.inl z]).isSome=true↔∃t∈(ts.take (i+1)).map (·.2),Gd (gh hs b) ((c:Rat)/(b:Rat)) at_ t∧t.1=a∧t.2.2=z)→N σ' H')→N [some (.ref L),some (.ref N1),some (.ref N2),some (.ref pb),some (.bl tied),some (.bl at_),some (.ref g),some (.ref t.1),v8,none,none,none] H6:=fun H6 v8 N s6 ng kN=>kN _ _ ⟨_,v8,kvs,rfl,s5.trans s6,s6 _ _ e5,by omega,fun a z=>by
    rw [hval,tk]
    constructor
    ·rintro ⟨u,hu,q⟩
     exact ⟨u,List.mem_append_left _ hu,q⟩
    ·rintro ⟨u,hu,q,q1,q2⟩
     rcases List.mem_append.mp hu with hu | hu
     ·exact ⟨u,hu,q,q1,q2⟩
     ·obtain rfl:u=t.2:=by simpa using hu
      exact absurd q ng⟩
   refine body_cut fun MM BB RR hMM _ _=>?_
   walk_at "v"
   refine r_new (mk:=.lst) (by simp) fun T1 H6 s6 n6 e6=>?_
   walk_at "v"
   have s06:=s5.trans s6
   refine ⟨t,T1,L,hs,rfl,s06 _ _ (hts t mt),e6,hN.up s06,fun hno H7 s7=>?_,fun p q r x y z hsp gx gy gz R7 H7 s7 e7=>?_⟩
   ·walk_at "v"
    refine ⟨rfl,?_⟩
    walk_at "v"
    refine iteF ?_
    walk_at "v"
    refine iteF ?_
    walk_at "v"
    refine skip H7 _ MM (s6.trans s7) (fun ⟨p,q,r,a1,a2,a3,a4,a5,a6,_⟩=>hno ⟨p,q,r,spotN_iff.mpr ⟨a1,a2,a3,a4,a5,a6⟩⟩) hMM
   ·have s07:=s06.trans s7
    obtain ⟨p1,p2,p3,p4,p5,p6⟩:=hsp
    have gd:Gd (gh hs b) ((c:Rat)/(b:Rat)) at_ t.2↔wy hs c at_ p q r=true:=by
     rw [← gdN_iff hb hri]
     constructor
     ·rintro ⟨p',q',r',a1,a2,a3,a4,a5,a6,a7⟩
      have e1:=nmo_inj hri (show p<hs.length by omega) (show p'<hs.length by omega) (by rw [p4,a4])
      have e2:=nmo_inj hri (show q<hs.length by omega) (show q'<hs.length by omega) (by rw [p5,a5])
      have e3:=nmo_inj hri p3 a3 (by rw [p6,a6])
      subst e1 e2 e3
      exact a7
     ·exact fun z=>⟨p,q,r,p1,p2,p3,p4,p5,p6,z⟩
    walk_at "v"
    refine ⟨rfl,?_⟩
    walk_at "v"
    refine iteT ?_
    walk_at "v"
    refine ⟨R7,pb,L,hs,p,q,r,x,y,z,c,at_,rfl,hN.up s07,gx,gy,gz,e7,s07 _ _ eb,zc,?_⟩
    walk_at "v"
    cases hw:wy hs c at_ p q r with
    | true=>
      have gd:=gd.mpr hw
      have et:H7 t.1=some (.tup [.int t.2.1,.int t.2.2.1,.int t.2.2.2]):=s07 _ _ (hts t mt)
      refine iteT ?_
      walk_at "ve"
      refine r_new (mk:=.tup) (by simp) fun q' H8 s8 n8 e8=>?_
      have e8g:=(s6.trans (s7.trans s8)) _ _ e5
      refine ⟨g,_,rfl,DPut.t (k:=[Sum.inl t.2.1,Sum.inl t.2.2.2]) e8g e8 (small1000 (by omega)),?_⟩
      refine hMM _ _ ⟨_,_,_,rfl,same_at (s07.trans s8) n4,upd_same,Nat.le_trans (length_putK _ _ _) (by omega),fun a z=>?_⟩
      rw [valV_put,tk]
      by_cases e:([Sum.inl a,Sum.inl z]:List Key)=[Sum.inl t.2.1,Sum.inl t.2.2.2]
      ·rw [if_pos e]
       have ea:a=t.2.1:=by injection e with e1 e2;exact Sum.inl.inj e1
       have ez:z=t.2.2.2:=by injection e with e1 e2;injection e2 with e2 e3;exact Sum.inl.inj e2
       exact ⟨fun _=>⟨t.2,List.mem_append_right _ (by simp),gd,ea.symm,ez.symm⟩,fun _=>rfl⟩
      ·rw [if_neg e,hval]
       constructor
       ·rintro ⟨u,hu,q⟩
        exact ⟨u,List.mem_append_left _ hu,q⟩
       ·rintro ⟨u,hu,q,q1,q2⟩
        rcases List.mem_append.mp hu with hu | hu
        ·exact ⟨u,hu,q,q1,q2⟩
        ·obtain rfl:u=t.2:=by simpa using hu
         exact absurd (by rw [q1,q2]) e
    | false=>
      refine iteF ?_
      walk_at "v"
      exact skip H7 _ MM (s6.trans s7) (fun z=>by have:=gd.mp z;rw [hw] at this;cases this) hMM
  ·rintro σ H5 ⟨v7,v8,kvs,rfl,s5,e5,hkl,hval⟩
   rw [threfs_len,List.take_length] at hval
   have c2:∀i j,i<j→j<ns.length→ns.getD i 0+1<ns.getD j 0→(valV kvs [.inl (nmo hs i),.inl (nmo hs (j-shft tied))]).isSome=false→¬OkP (gh hs b) ((c:Rat)/(b:Rat)) tied at_ (ns,ts.map (·.2)):=fun i j h1 h2 h3 hv ok=>by
    obtain ⟨t,ht,gt,q1,q2⟩:=ok.2.2 i j h1 h2 h3
    rw [gh_mo] at q1 q2
    rw [(hval _ _).mpr ⟨t,ht,gt,q1,q2⟩] at hv
    cases hv
   walk_at "v"
   refine r_for (r_rng1 ?_)
   walk_at "v"
   refine r_len (.inl (SqL.of (s5 _ _ e1))) ?_
   rw [List.length_map]
   walk_at "v"
   refine ⟨_,rfl,by lia,by lia,for_range (fun i σ H6=>Same H5 H6∧(∃v9 v10 v11:Option V,σ=[some (.ref L),some (.ref N1),some (.ref N2),some (.ref pb),some (.bl tied),some (.bl at_),some (.ref g),v7,v8,v9,v10,v11])∧∀p q,p<i→p<q→q<ns.length→ns.getD p 0+1<ns.getD q 0→(valV kvs [.inl (nmo hs p),.inl (nmo hs (q-shft tied))]).isSome=true) ⟨Same.refl _,⟨none,none,none,rfl⟩,fun p q hp=>absurd hp (by omega)⟩ ?_ ?_⟩
   ·rintro i σ H6 hi6 ⟨s6,⟨v9,v10,v11,rfl⟩,hall⟩
    have hi':i<ns.length:=by omega
    rw [show (0:Int)+(i:Int)=(i:Int) by omega]
    refine body_cut fun MM BB RR hMM _ hRR=>?_
    walk_at "v"
    refine r_for (r_rng2 ?_)
    walk_at "v"
    have s16:=s5.trans s6
    refine r_len (.inl (SqL.of (s16 _ _ e1))) ?_
    rw [List.length_map]
    walk_at "v"
    refine ⟨_,_,rfl,⟨by lia,by lia,by lia,by lia⟩,for_range (fun m σ H7=>Same H5 H7∧(∃v10 v11:Option V,σ=[some (.ref L),some (.ref N1),some (.ref N2),some (.ref pb),some (.bl tied),some (.bl at_),some (.ref g),v7,v8,some (.int (i:Int)),v10,v11])∧∀q,i<q→q<i+1+m→ns.getD i 0+1<ns.getD q 0→(valV kvs [.inl (nmo hs i),.inl (nmo hs (q-shft tied))]).isSome=true) ⟨s6,⟨_,_,rfl⟩,fun q h1 h2=>absurd h2 (by omega)⟩ ?_ ?_⟩
    ·rintro m σ H7 hm ⟨s7,⟨v10,v11,rfl⟩,hin⟩
     have hp:i+1+m<ns.length:=by omega
     rw [show (i:Int)+1+(m:Int)=((i+1+m:Nat):Int) by omega]
     refine body_cut fun M2 B2 R2 hM2 _ hR2=>?_
     have s17:=s5.trans s7
     have N7:=hN.up s17
     obtain ⟨x,gx,ex,_⟩:=nn_at N7.row N7.all (show i<hs.length by omega)
     obtain ⟨y,gy,ey,_⟩:=nn_at N7.row N7.all (show i+1+m-shft tied<hs.length by omega)
     walk_at "v"
     refine r_l N7.at_ (at_nval gx rfl) ?_
     walk_at "v"
     refine .inr ⟨_,rfl,?_⟩
     rw [hi]
     walk_at "v"
     rw [show (((i+1+m:Nat):Int)-(shft tied:Int))=((i+1+m-shft tied:Nat):Int) by omega]
     refine r_l N7.at_ (at_nval gy rfl) ?_
     walk_at "v"
     refine r_new (mk:=.tup) (by simp) fun q H8 s8 n8 e8=>?_
     have s18:=s17.trans s8
     walk_at "v"
     refine r_l (s18 _ _ e1) (getD_ints (i:=i+1+m) hp rfl) ?_
     walk_at "v"
     refine r_l (s18 _ _ e1) (getD_ints (i:=i) hi' rfl) ?_
     walk_at "v"
     have go:(ns.getD i 0+1<ns.getD (i+1+m) 0→(valV kvs [.inl (nmo hs i),.inl (nmo hs (i+1+m-shft tied))]).isSome=true)→M2 [some (.ref L),some (.ref N1),some (.ref N2),some (.ref pb),some (.bl tied),some (.bl at_),some (.ref g),v7,v8,some (.int (i:Int)),some (.int ((i+1+m:Nat):Int)),some (.ref q)] H8:=fun hv=>hM2 _ _ ⟨s7.trans s8,⟨_,_,rfl⟩,fun q h1 h2 h3=>by
      rcases Nat.lt_or_eq_of_le (show q≤i+1+m by omega) with z | z
      ·exact hin q h1 z h3
      ·subst z;exact hv h3⟩
     refine ite2 (fun c1=>?_) (fun c1=>?_)
     ·have c1:ns.getD (i+1+m) 0>ns.getD i 0+1:=of_decide_eq_true c1
      walk_at "v"
      refine ⟨g,_,rfl,DGet.t (k:=[Sum.inl (nmo hs i),Sum.inl (nmo hs (i+1+m-shft tied))]) ((s7.trans s8) _ _ e5) e8,?_⟩
      walk_at "v"
      cases hv:(valV kvs [.inl (nmo hs i),.inl (nmo hs (i+1+m-shft tied))]).isSome with
      | true=>
        refine iteF ?_
        walk_at "v"
        exact go fun _=>hv
      | false=>
        refine iteT ?_
        walk_at "v"
        exact hR2 _ _ (hRR _ _ (no H8 s18 (c2 i (i+1+m) (by omega) hp c1 hv)))
     ·have c1:¬ns.getD (i+1+m) 0>ns.getD i 0+1:=of_decide_eq_false (Bool.eq_false_iff.mpr c1)
      walk_at "v"
      refine iteF ?_
      walk_at "v"
      exact go fun z=>absurd z (by omega)
    ·rintro σ H7 ⟨s7,⟨v10,v11,rfl⟩,hin⟩
     refine hMM _ _ ⟨s7,⟨_,_,_,rfl⟩,fun p q h1 h2 h3 h4=>?_⟩
     rcases Nat.lt_or_eq_of_le (Nat.le_of_lt_succ h1) with z | z
     ·exact hall p q z h2 h3 h4
     ·subst z
      exact hin q h2 (by omega) h4
   ·rintro σ H6 ⟨s6,⟨v9,v10,v11,rfl⟩,hall⟩
    rw [Int.toNat_natCast] at hall
    have s16:=s5.trans s6
    walk_at "v"
    refine r_l (s16 _ _ e1) (getD_last (by omega)) ?_
    walk_at "v"
    have:=k H6 s16
    rw [shO_some ⟨by rw [gh_len];exact hlen,h0,fun i j h1 h2 h3=>?_⟩] at this
    ·exact this
    ·have h2:j<ns.length:=h2
     obtain ⟨t,ht,gt,q1,q2⟩:=(hval _ _).mp (hall i j (by omega) h1 h2 h3)
     exact ⟨t,ht,gt,by rw [gh_mo];exact q1,by rw [gh_mo];exact q2⟩
 refine ⟨_,(J.f (J.m (J.aa (Jd.pw_or (J.j op_ne (J.p (lenC K) rfl T.len_ PySem.boot_len (J.b (J.a 1) J.d st_N) (he:=st_N) (hpl:=any0)) (J.g op_add (J.p (lenC K) rfl T.len_ PySem.boot_len (J.b (J.a 0) J.d st_N) (he:=st_N) (hpl:=any0)) (J.af call_int1 rfl T.int_ PyProof.Rows.boot_int (J.b (Jd.pe_not (J.a 4)) J.d st_U))) (nomark _)) (Jd.pw_or1 (J.j op_gt (J.e (ixL K) (J.a 1) J.c (fun _ _=>rfl)) J.c (nomark _)))))
  (J.h (J.k J.u))
  J.o)
  hu),?_⟩
 walk_at "v"
 refine r_len (.inl (SqL.of e1)) ?_
 rw [List.length_map]
 walk_at "v"
 refine r_len (.inl (SqL.of hN.at_)) ?_
 rw [nvals_len]
 walk_at "v"
 refine .inr ⟨_,rfl,?_⟩
 rw [hi]
 walk_at "v"
 by_cases hlen:ns.length=hs.length+shft tied
 ·rw [decide_eq_true (show (ns.length:Int)=(hs.length:Int)+(shft tied:Int) by omega)]
  refine iteF ?_
  walk_at "v"
  refine r_l e1 (getD_ints (i:=0) (by omega) rfl) ?_
  walk_at "v"
  by_cases h0:ns.getD 0 0>0
  ·rw [decide_eq_true h0]
   refine iteT ?_
   walk_at "v"
   exact no H (Same.refl _) fun z=>by (have:=z.2.1);(have:ns.getD 0 0≤0:=this);omega
  ·rw [decide_eq_false h0]
   refine iteF ?_
   walk_at "v"
   exact hR' _ _ ⟨rfl,rfl,hlen,by omega⟩
 ·rw [decide_eq_false (show ¬(ns.length:Int)=(hs.length:Int)+(shft tied:Int) by omega)]
  refine iteT ?_
  walk_at "v"
  refine iteT ?_
  walk_at "v"
  exact no H (Same.refl _) fun z=>hlen (by rw [← gh_len hs b];exact z.1)
theorem sc_law_shown_tied:FnScope ["_law_parts","_law_bound","_law_paper","_law_tied","_law_at","_law_count","_law_k","_law_found"] ["_law_parts","_law_bound","_law_paper","_law_tied","_law_at"] (defScope s_law_shown_tied):=⟨rfl,rfl,rfl,by decide +kernel,rfl,by decide +kernel,by decide +kernel⟩
theorem ok_law_shown_tied (F:Fun K "_law_shown_tied" "_law_shown_tied" s_law_shown_tied f fd) (T:Txt mg) (D_law_shown_run:Dn P w K mg base 3 "_law_shown_run" ["_law_part","_law_numbers_here","_law_threes","_law_bound","_law_tied","_law_at"] spShownRun):FnOk P w K mg base CX0 4 f fd ["_law_parts","_law_bound","_law_paper","_law_tied","_law_at"] spShownTied:=by
 refine F.ok sc_law_shown_tied (fun vs H Q E h=>?_) (fun cdv A outer s H vs Q E hr h=>?_)
 ·obtain ⟨D,pb,Z,ls,xs,us,b,c,tied,at_,rfl,_⟩:=h
  rfl
 obtain ⟨D,pb,Z,ls,xs,us,b,c,tied,at_,rfl,hD,hls,h40,hZ,hE,hok,hul,eb,zc,hb,k⟩:=h
 have hxl:=each2_len hE
 have hshT:us.length=ls.length→shT (ls.map fun x=>gh x.2 b) ((c:Rat)/(b:Rat)) tied at_ us=allO (List.zipWith (fun r v=>shO r ((c:Rat)/(b:Rat)) tied at_ v) (ls.map fun x=>gh x.2 b) us):=fun e=>by
  unfold shT
  rw [if_neg (by rw [List.length_map];omega)]
 refine J.q ⟨_,(J.f (J.m (J.j op_ne (J.p (lenC K) rfl T.len_ PySem.boot_len (J.b (J.a 2) J.d st_N) (he:=st_N) (hpl:=any0)) (J.p (lenC K) rfl T.len_ PySem.boot_len (J.b (J.a 0) J.d st_N) (he:=st_N) (hpl:=any0)) (nomark _))
  (J.h (J.k J.u))
  J.o)
  (J.f (J.i (i:=5) sc_law_shown_tied.nd rfl (Or.inl rfl) J.c (hs:=sw_C))
  (J.f (J.t PassesOwn.never rfl (J.al rfl T.range (J.b (J.p (lenC K) rfl T.len_ PySem.boot_len (J.b (J.a 0) J.d st_N) (he:=st_N) (hpl:=any0)) J.d st_K)) (J.n (i:=6) sc_law_shown_tied.nd rfl (Or.inl rfl))
  (J.f (J.i (i:=7) sc_law_shown_tied.nd rfl (Or.inl rfl) (J.l D_law_shown_run (hr.mono (by decide)) rfl (J.b (J.e (ixL K) (J.a 0) (J.a 6) (fun _ _=>rfl)) (J.b (J.e (ixT K) (J.e (ixL K) (J.a 2) (J.a 6) (fun _ _=>rfl)) J.c (fun _ _=>rfl)) (J.b (J.e (ixT K) (J.e (ixL K) (J.a 2) (J.a 6) (fun _ _=>rfl)) J.c (fun _ _=>rfl)) (J.b (J.a 1) (J.b (J.a 3) (J.b (J.a 4) J.d st_N) st_N) st_N) st_S) st_S) st_S) (he:=st_S) (hpl:=(anyc st_S (anyc st_S (anyc st_N (anyc st_N (anyc st_N any0))))))) (hs:=sw_K))
  (J.f (J.m (J.j op_isN (J.a 7) J.u (nomark _))
  (J.h (J.k J.u))
  J.o)
  (J.h (J.i (i:=5) sc_law_shown_tied.nd rfl (Or.inl rfl) (J.g op_add (J.a 5) (J.a 7)) (hs:=sw_B))))))
  (J.h (J.k (J.a 5)))))),?_⟩
 walk_at "v"
 refine r_len (.inl (SqL.of hZ)) ?_
 rw [List.length_map,hxl]
 walk_at "v"
 refine r_len (.inl (SqL.of hD)) ?_
 rw [List.length_map]
 walk_at "v"
 by_cases hlen:us.length=ls.length
 ·have hsh:=hshT hlen
  rw [decide_eq_true (show (us.length:Int)=(ls.length:Int) by omega)]
  refine iteF ?_
  walk_at "v"
  refine r_for (r_rng1 ?_)
  walk_at "v"
  refine r_len (.inl (SqL.of hD)) ?_
  rw [List.length_map]
  walk_at "v"
  generalize hos:List.zipWith (fun r v=>shO r ((c:Rat)/(b:Rat)) tied at_ v) (ls.map fun x=>gh x.2 b) us=os at hsh
  have hol:os.length=ls.length:=by rw [← hos,List.length_zipWith,List.length_map];omega
  refine ⟨_,rfl,by omega,by omega,for_range (fun i σ H3=>∃v6 v7:Option V,σ=[some (.ref D),some (.ref pb),some (.ref Z),some (.bl tied),some (.bl at_),some (.int ((os.take i).map (·.getD 0)).sum),v6,v7]∧Same H H3∧(os.take i).any Option.isNone=false) ⟨none,none,rfl,Same.refl _,rfl⟩ ?_ ?_⟩
  ·rintro i σ H3 hi ⟨v6,v7,rfl,s3,hno⟩
   have hi':i<ls.length:=by omega
   obtain ⟨r,gr⟩:∃r,ls[i]?=some r:=⟨_,List.getElem?_eq_getElem hi'⟩
   obtain ⟨x,gx⟩:∃x,xs[i]?=some x:=⟨_,List.getElem?_eq_getElem (by omega)⟩
   obtain ⟨v,gv,hxv⟩:=each2_get hE gx
   obtain ⟨N0,N1⟩:=hls r (List.mem_of_getElem? gr)
   have go:os[i]?=some (shO (gh r.2 b) ((c:Rat)/(b:Rat)) tied at_ v):=by rw [← hos,List.getElem?_zipWith,List.getElem?_map,gr,gv];rfl
   obtain ⟨ex,en,ts,et,hts,htv⟩:=hxv.up s3
   rw [show (0:Int)+(i:Int)=(i:Int) by omega]
   have aD:atI (ls.map fun x=>V.ref x.1) (i:Int)=some (.ref r.1):=atI_nat (by rw [List.getElem?_map,gr];rfl)
   have aZ:atI (xs.map fun x=>V.ref x.1) (i:Int)=some (.ref x.1):=atI_nat (by rw [List.getElem?_map,gx];rfl)
   walk_at "v"
   refine r_l (s3 _ _ hD) aD ?_
   walk_at "v"
   refine r_l (s3 _ _ hZ) aZ ?_
   walk_at "v"
   refine r_l (s3 _ _ hZ) aZ ?_
   walk_at "v"
   refine ⟨r.1,pb,x.2.1,x.2.2,r.2,v.1,ts,b,c,tied,at_,rfl,N0.up s3,N1,en,et,hts,s3 _ _ eb,zc,hb,(hok v (List.mem_of_getElem? gv)).1,by have:=(hok v (List.mem_of_getElem? gv)).2;rw [← htv,List.length_map] at this;exact this,fun H4 s4=>?_⟩
   rw [htv]
   have tk:os.take (i+1)=os.take i++[shO (gh r.2 b) ((c:Rat)/(b:Rat)) tied at_ v]:=by rw [List.take_succ,go];rfl
   walk_at "v"
   cases hq:shO (gh r.2 b) ((c:Rat)/(b:Rat)) tied at_ v with
   | none=>
     refine ⟨rfl,?_⟩
     walk_at "v"
     refine iteT ?_
     walk_at "v"
     have:=k H4 (s3.trans s4)
     rw [hsh,allO_none (i:=i) (by rw [go,hq])] at this
     exact this
   | some m=>
     rw [hq] at tk
     refine ⟨rfl,?_⟩
     walk_at "v"
     refine iteF ?_
     dsimp only [dueV]
     walk_at "v"
     have e:((os.take (i+1)).map (·.getD 0)).sum=((os.take i).map (·.getD 0)).sum+m:=by
      rw [tk,List.map_append,List.sum_append]
      simp
     exact ⟨some (.int (i:Int)),some (.int m),by rw [e];rfl,s3.trans s4,by rw [tk,List.any_append,hno];rfl⟩
  ·rintro σ H3 ⟨v6,v7,rfl,s3,hno⟩
   rw [Int.toNat_natCast] at hno
   rw [List.take_of_length_le (by omega)] at hno
   walk_at "v"
   have:=k H3 s3
   rw [hsh] at this
   unfold allO at this
   rw [hno,if_neg Bool.false_ne_true] at this
   rw [Int.toNat_natCast,List.take_of_length_le (by omega)]
   exact this
 ·rw [decide_eq_false (show ¬(us.length:Int)=(ls.length:Int) by omega)]
  refine iteT ?_
  walk_at "v"
  have:=k H (Same.refl _)
  unfold shT at this
  rw [if_pos (by rw [List.length_map];exact hlen)] at this
  exact this
end

noncomputable def szP:List Int:=[18,9,6,8,8,3,3,8]
structure Rw (H:Hp) (l:Addr) (xs:List Int):Prop where
 at_:H l=some (.lst (xs.map V.int))
 len:xs.length=szP.length
 bd:∀(j:Nat) (x z:Int),xs[j]?=some x→szP[j]?=some z→0≤x∧x<z
theorem Rw.up {H H':Hp} {l:Addr} {xs:List Int} (h:Rw H l xs) (s:Same H H'):Rw H' l xs:=⟨s _ _ h.at_,h.len,h.bd⟩
theorem cut_ints (ns:List Int) (lo hi:Option Int):∃ms:List Int,cutV (ns.map V.int) lo hi=ms.map V.int∧ms.length≤ns.length:=by
 unfold cutV
 rw [← List.map_drop,← List.map_take]
 exact ⟨_,rfl,by rw [List.length_take,List.length_drop];omega⟩
noncomputable def spBentN:Sp:=fun vs H Q _=>∃(N l:Addr) (ns xs:List Int),vs=[.ref N,.ref l]∧H N=some (.lst (ns.map V.int))∧1≤ns.length∧ns.length≤900∧Rw H l xs∧∀(R:Addr) (ms:List Int) (H':Hp),Same H H'→H R=none→H' R=some (.lst (ms.map V.int))→ms.length≤ns.length+1→Q (.ref R) H'
noncomputable def spBentB:Sp:=fun vs H Q _=>∃(B R l:Addr) (ts:List Th) (es:List Nn) (xs:List Int),vs=[.ref B,.ref R,.ref l]∧H B=some (.lst (threfs ts))∧AllT H ts∧ts.length≤970∧H R=some (.lst (nvals es))∧NRow H es 45 150∧1≤es.length∧es.length≤40∧Rw H l xs∧∀(D:Addr) (us:List Th) (H':Hp),Same H H'→H D=none→H' D=some (.lst (threfs us))→AllT H' us→us.length≤ts.length+2→Q (.ref D) H'
theorem threfs_cat (ts us:List Th):threfs ts++threfs us=threfs (ts++us):=by unfold threfs;rw [List.map_append]
section
variable {P:Program} {w:World} {K:PySem.W.Frag} {mg:Str→Option Value} {base:Heap} {f:Addr} {fd:FuncData}
theorem sc_law_bent_numbers:FnScope ["_law_numbers_here","_law_some","_law_told","_law_at"] ["_law_numbers_here","_law_some"] (defScope s_law_bent_numbers):=⟨rfl,rfl,rfl,by decide +kernel,rfl,by decide +kernel,by decide +kernel⟩
theorem ok_law_bent_numbers (F:Fun K "_law_bent_numbers" "_law_bent_numbers" s_law_bent_numbers f fd) (T:Txt mg):FnOk P w K mg base CX0 1 f fd ["_law_numbers_here","_law_some"] spBentN:=by
 refine F.ok sc_law_bent_numbers (fun vs H Q E h=>?_) (fun cdv A outer s H vs Q E hr h=>?_)
 ·obtain ⟨N,l,ns,xs,rfl,_⟩:=h
  rfl
 obtain ⟨N,l,ns,xs,rfl,hN,h1,h9,hW,k⟩:=h
 obtain ⟨x0,g0,a0,b0⟩:=row_get hW.len hW.bd 0 rfl
 obtain ⟨x1,g1,a1,b1⟩:=row_get hW.len hW.bd 1 rfl
 obtain ⟨x2,g2,a2,b2⟩:=row_get hW.len hW.bd 2 rfl
 have hl:=hW.at_
 have c0:∀{H':Hp},Same H H'→H' l=some (.lst (xs.map V.int)):=fun s=>s _ _ hl
 refine J.q (Jd.cut 2 (fun σ H'=>∃(R:Addr) (q:Nat),σ=[some (.ref N),some (.ref l),some (.ref R),some (.int (q:Int))]∧Same H H'∧H R=none∧H' R=some (.lst (ns.map V.int))∧q<ns.length) ?_ fun u hu hR=>?_)
 ·refine ⟨_,(J.f (J.m (J.j op_eq (J.e (ixL K) (J.a 1) J.c (fun _ _=>rfl)) J.c (nomark _))
   (J.h (J.ah (J.g op_add (J.e (ixL K) (J.a 2) (J.a 3) (fun _ _=>rfl)) J.c) (Jd.pg_sub (J.a 2) (J.a 3) set_list)))
   J.o)
   (J.f (J.m (J.j op_eq (J.e (ixL K) (J.a 1) J.c (fun _ _=>rfl)) J.c (nomark _))
   (J.h (J.ah (J.g op_sub (J.g op_sub (J.e (ixL K) (J.a 2) (J.a 3) (fun _ _=>rfl)) J.c) (J.g op_mod (J.e (ixL K) (J.a 1) J.c (fun _ _=>rfl)) J.c)) (Jd.pg_sub (J.a 2) (J.a 3) set_list)))
   J.o)
   (J.f (J.m (J.j op_eq (J.e (ixL K) (J.a 1) J.c (fun _ _=>rfl)) J.c (nomark _))
   (J.h (J.an (O:=["_law_one"]) (N':=["_law_some"]) (cap:=[1]) (i:=2) sc_law_bent_numbers.nd rfl (Or.inl rfl) rfl (J.w K (J.a 2)) (fun _ _ _ _ _=>(J.n (i:=0) (show List.Nodup [("_law_one":Str),("_law_some":Str)] by decide +kernel) rfl (Or.inl rfl))) (fun _ _ _ _ _=>J.ag) (fun _ _ _ _ _=>(J.g op_sub (J.g op_sub (J.a 0) J.c) (J.g op_mod (J.e (ixL K) (J.a 1) J.c (fun _ _=>rfl)) J.c))) rfl ⟨⟨rfl,rfl,rfl,rfl⟩,trivial⟩ rfl (by decide +kernel) rfl (by decide +kernel) (by rfl)))
   J.o)
   (J.f (J.m (J.j op_eq (J.e (ixL K) (J.a 1) J.c (fun _ _=>rfl)) J.c (nomark _))
   (J.h (J.an (O:=["_law_one"]) (N':=[]) (cap:=[]) (i:=2) sc_law_bent_numbers.nd rfl (Or.inl rfl) rfl (J.w K (J.a 2)) (fun _ _ _ _ _=>(J.n (i:=0) (show List.Nodup [("_law_one":Str)] by decide +kernel) rfl (Or.inl rfl))) (fun _ _ _ _ _=>J.ag) (fun _ _ _ _ _=>(J.g op_add (J.a 0) J.c)) rfl trivial rfl (by decide +kernel) rfl (by decide +kernel) (by rfl)))
   J.o)
   (J.f (J.m (J.j op_eq (J.e (ixL K) (J.a 1) J.c (fun _ _=>rfl)) J.c (nomark _))
   (J.h (J.i (i:=2) sc_law_bent_numbers.nd rfl (Or.inl rfl) (J.g op_cat (J.a 2) (J.s (J.b (J.e (ixL K) (J.a 2) (J.z un_neg J.c) (fun _ _=>rfl)) J.d st_S))) (hs:=sw_B)))
   J.o)
   (J.f (J.m (J.aa (J.am (J.j op_eq (J.e (ixL K) (J.a 1) J.c (fun _ _=>rfl)) J.c (nomark _)) (J.ao (J.j op_lt (J.e (ixL K) (J.a 1) J.c (fun _ _=>rfl)) J.c (nomark _)))))
   (J.h (J.i (i:=2) sc_law_bent_numbers.nd rfl (Or.inl rfl) (J.ai (slL K) (J.a 2) (J.ak J.c) J.aj) (hs:=sw_S)))
   J.o)
   (J.f (J.m (J.aa (J.am (J.j op_eq (J.e (ixL K) (J.a 1) J.c (fun _ _=>rfl)) J.c (nomark _)) (J.ao (J.j op_gt (J.e (ixL K) (J.a 1) J.c (fun _ _=>rfl)) J.c (nomark _)))))
   (J.h (J.i (i:=2) sc_law_bent_numbers.nd rfl (Or.inl rfl) (J.ai (slL K) (J.a 2) J.aj (J.ak (J.z un_neg J.c))) (hs:=sw_S)))
   J.o)
   (J.h (J.k (J.a 2)))))))))),?_⟩
  rintro σ H1 ⟨R,q,rfl,s1,nR,eR,hq⟩
  refine seq_cut (fun σ' H'=>∃ms:List Int,σ'=[some (.ref N),some (.ref l),some (.ref R),some (.int (q:Int))]∧Same H H'∧H' R=some (.lst (ms.map V.int))∧ms.length=ns.length) ?_ ?_
  ·rintro σ H2 ⟨ms,rfl,s2,e2,hm⟩
   refine seq_cut (fun σ' H'=>∃ms:List Int,σ'=[some (.ref N),some (.ref l),some (.ref R),some (.int (q:Int))]∧Same H H'∧H' R=some (.lst (ms.map V.int))∧ms.length=ns.length) ?_ ?_
   ·clear s2 e2 hm ms
    rintro σ H3 ⟨ms,rfl,s3,e3,hm⟩
    refine seq_cut (fun σ' H'=>∃(R:Addr) (ms:List Int),σ'=[some (.ref N),some (.ref l),some (.ref R),some (.int (q:Int))]∧Same H H'∧H R=none∧H' R=some (.lst (ms.map V.int))∧ms.length=ns.length) ?_ ?_
    ·clear s3 e3 hm ms
     rintro σ H4 ⟨R,ms,rfl,s4,nR,e4,hm⟩
     refine seq_cut (fun σ' H'=>∃(R:Addr) (ms:List Int),σ'=[some (.ref N),some (.ref l),some (.ref R),some (.int (q:Int))]∧Same H H'∧H R=none∧H' R=some (.lst (ms.map V.int))∧ms.length=ns.length) ?_ ?_
     ·clear s4 e4 hm ms nR
      rintro σ H5 ⟨R,ms,rfl,s5,nR,e5,hm⟩
      refine seq_cut (fun σ' H'=>∃(R:Addr) (ms:List Int),σ'=[some (.ref N),some (.ref l),some (.ref R),some (.int (q:Int))]∧Same H H'∧H R=none∧H' R=some (.lst (ms.map V.int))∧ms.length≤ns.length+1) ?_ ?_
      ·clear s5 e5 hm ms nR
       rintro σ H6 ⟨R,ms,rfl,s6,nR,e6,hm⟩
       refine seq_cut (fun σ' H'=>∃(R:Addr) (ms:List Int),σ'=[some (.ref N),some (.ref l),some (.ref R),some (.int (q:Int))]∧Same H H'∧H R=none∧H' R=some (.lst (ms.map V.int))∧ms.length≤ns.length+1) ?_ ?_
       ·clear s6 e6 hm ms nR
        rintro σ H7 ⟨R,ms,rfl,s7,nR,e7,hm⟩
        refine seq_cut (fun σ' H'=>∃(R:Addr) (ms:List Int),σ'=[some (.ref N),some (.ref l),some (.ref R),some (.int (q:Int))]∧Same H H'∧H R=none∧H' R=some (.lst (ms.map V.int))∧ms.length≤ns.length+1) ?_ ?_
        ·rintro σ H8 ⟨R,ms,rfl,s8,nR,e8,hm⟩
         walk_at "v"
         exact k R ms H8 s8 nR e8 hm
        ·intro NN kN
         walk_at "v"
         refine r_l (c0 s7) (at_ints g0 rfl) ?_
         walk_at "v"
         refine ite2 (fun _=>?_) (fun _=>?_)
         ·walk_at "v"
          refine r_l (c0 s7) (at_ints g2 rfl) ?_
          walk_at "v"
          refine ite2 (fun _=>?_) (fun _=>?_)
          ·walk_at "vd"
           refine r_slL e7 fun p H8 s8 n8 e8=>?_
           obtain ⟨ms',em,lm⟩:=cut_ints ms none (some (-1))
           rw [em] at e8
           exact kN _ _ ⟨p,ms',rfl,s7.trans s8,s7.free n8,e8,by omega⟩
          ·walk_at "v"
           exact kN _ _ ⟨R,ms,rfl,s7,nR,e7,hm⟩
         ·walk_at "v"
          refine iteF ?_
          walk_at "v"
          exact kN _ _ ⟨R,ms,rfl,s7,nR,e7,hm⟩
       ·intro NN kN
        walk_at "v"
        refine r_l (c0 s6) (at_ints g0 rfl) ?_
        walk_at "v"
        refine ite2 (fun _=>?_) (fun _=>?_)
        ·walk_at "v"
         refine r_l (c0 s6) (at_ints g2 rfl) ?_
         walk_at "v"
         refine ite2 (fun _=>?_) (fun _=>?_)
         ·walk_at "vd"
          refine r_slL e6 fun p H8 s8 n8 e8=>?_
          obtain ⟨ms',em,lm⟩:=cut_ints ms (some 1) none
          rw [em] at e8
          exact kN _ _ ⟨p,ms',rfl,s6.trans s8,s6.free n8,e8,by omega⟩
         ·walk_at "v"
          exact kN _ _ ⟨R,ms,rfl,s6,nR,e6,hm⟩
        ·walk_at "v"
         refine iteF ?_
         walk_at "v"
         exact kN _ _ ⟨R,ms,rfl,s6,nR,e6,hm⟩
      ·intro NN kN
       walk_at "v"
       refine r_l (c0 s5) (at_ints g0 rfl) ?_
       walk_at "v"
       refine ite2 (fun _=>?_) (fun _=>?_)
       ·walk_at "v"
        refine r_l e5 (getD_last (by omega)) ?_
        walk_at "v"
        refine r_new (mk:=.lst) (by simp) fun p1 H6 s6 n6 e6=>?_
        walk_at "v"
        refine r_cat (s6 _ _ e5) e6 ?_
        refine r_new (mk:=.lst) (by rw [List.length_append,List.length_map];simp only [List.length_cons,List.length_nil];omega) fun p2 H7 s7 n7 e7=>?_
        exact kN _ _ ⟨p2,ms++[ms.getD (ms.length-1) 0],rfl,s5.trans (s6.trans s7),(s5.trans s6).free n7,by rw [e7,List.map_append];rfl,by rw [List.length_append,List.length_singleton];omega⟩
       ·walk_at "v"
        exact kN _ _ ⟨R,ms,rfl,s5,nR,e5,by omega⟩
     ·intro NN kN
      walk_at "v"
      refine r_l (c0 s4) (at_ints g0 rfl) ?_
      walk_at "v"
      refine ite2 (fun _=>?_) (fun _=>?_)
      ·walk_at "v"
       refine r_iL ?_
       walk_at "v"
       refine ⟨R,rfl,⟨_,SqL.of e4⟩,?_⟩
       refine compB_of (xs:=ms.map V.int) tells_list (fun H5 s5=>SqL.of (s5 _ _ e4)) (by rw [List.length_map];omega) (fun j ys G=>∃us:List Int,ys=us.map V.int∧us.length=j) ⟨[],rfl,rfl⟩ ?_ ?_
       ·rintro D j v ys H5 σ1 NN N0 h0 hD eD s5 hv hy ⟨us,rfl,hu⟩ kY kN
        rw [List.getElem?_map] at hv
        obtain ⟨n,hn,rfl⟩:=Option.map_eq_some_iff.mp hv
        refine r_own1 h0 ?_
        walk_at "v"
        refine iteT ?_
        walk_at "v"
        exact kY _ H5 (Same.refl _) ⟨us++[n+1],by rw [List.map_append];rfl,by rw [List.length_append,hu];rfl⟩
       ·rintro D ys H5 nD eD s5 hy ⟨us,rfl,hu⟩
        exact kN _ _ ⟨D,us,rfl,s4.trans s5,s4.free nD,eD,by rw [hu,List.length_map];exact hm⟩
      ·walk_at "v"
       exact kN _ _ ⟨R,ms,rfl,s4,nR,e4,hm⟩
    ·intro NN kN
     walk_at "v"
     refine r_l (c0 s3) (at_ints g0 rfl) ?_
     walk_at "v"
     refine ite2 (fun _=>?_) (fun _=>?_)
     ·walk_at "v"
      refine r_iL ?_
      walk_at "v"
      refine ⟨R,rfl,⟨_,SqL.of e3⟩,?_⟩
      refine compB_of (xs:=ms.map V.int) tells_list (fun H5 s5=>SqL.of (s5 _ _ e3)) (by rw [List.length_map];omega) (fun j ys G=>∃us:List Int,ys=us.map V.int∧us.length=j) ⟨[],rfl,rfl⟩ ?_ ?_
      ·rintro D j v ys H5 σ1 NN N0 h0 hD eD s5 hv hy ⟨us,rfl,hu⟩ kY kN
       rw [List.getElem?_map] at hv
       obtain ⟨n,hn,rfl⟩:=Option.map_eq_some_iff.mp hv
       refine r_own1 h0 ?_
       walk_at "v"
       refine iteT ?_
       walk_at "v"
       refine r_l (c0 (s3.trans s5)) (at_ints g2 rfl) ?_
       walk_at "v"
       exact kY _ H5 (Same.refl _) ⟨us++[n-1-x2 % 3],by rw [List.map_append];rfl,by rw [List.length_append,hu];rfl⟩
      ·rintro D ys H5 nD eD s5 hy ⟨us,rfl,hu⟩
       exact kN _ _ ⟨D,us,rfl,s3.trans s5,s3.free nD,eD,by rw [hu,List.length_map];exact hm⟩
     ·walk_at "v"
      exact kN _ _ ⟨R,ms,rfl,s3,nR,e3,hm⟩
   ·intro NN kN
    walk_at "v"
    refine r_l (c0 s2) (at_ints g0 rfl) ?_
    walk_at "v"
    refine ite2 (fun _=>?_) (fun _=>?_)
    ·walk_at "v"
     dsimp only
     refine r_asg ?_
     walk_at "v"
     refine r_l e2 (getD_ints (i:=q) (by omega) rfl) ?_
     walk_at "v"
     refine r_l (c0 s2) (at_ints g2 rfl) ?_
     walk_at "v"
     refine r_setL e2 (j:=q) (by rw [List.length_map];exact ix_nat (by omega) (by omega)) ?_
     exact kN _ _ ⟨ms.set q (ms.getD q 0-1-x2 % 2),rfl,same_at s2 nR,by rw [upd_same,List.map_set],by rw [List.length_set];exact hm⟩
    ·walk_at "v"
     exact kN _ _ ⟨ms,rfl,s2,e2,hm⟩
  ·intro NN kN
   walk_at "v"
   refine r_l (c0 s1) (at_ints g0 rfl) ?_
   walk_at "v"
   refine ite2 (fun _=>?_) (fun _=>?_)
   ·walk_at "v"
    dsimp only
    refine r_asg ?_
    walk_at "v"
    refine r_l eR (getD_ints (i:=q) (by omega) rfl) ?_
    walk_at "v"
    refine r_setL eR (j:=q) (by rw [List.length_map];exact ix_nat (by omega) (by omega)) ?_
    exact kN _ _ ⟨ns.set q (ns.getD q 0+1),rfl,same_at s1 nR,by rw [upd_same,List.map_set],by rw [List.length_set]⟩
   ·walk_at "v"
    exact kN _ _ ⟨ns,rfl,s1,eR,rfl⟩
 refine ⟨_,(J.f (J.i (i:=2) sc_law_bent_numbers.nd rfl (Or.inl rfl) (J.af (call_listK K) rfl T.list_ PyProof.Rows.boot_list (J.b (J.a 0) J.d st_N)) (hs:=sw_K))
  (J.f (J.i (i:=3) sc_law_bent_numbers.nd rfl (Or.inl rfl) (J.g op_mod (J.e (ixL K) (J.a 1) J.c (fun _ _=>rfl)) (J.p (lenC K) rfl T.len_ PySem.boot_len (J.b (J.a 2) J.d st_N) (he:=st_N) (hpl:=any0))) (hs:=sw_B))
  hu)),?_⟩
 walk_at "v"
 refine ⟨N,_,rfl,.inl (SqL.of hN),fun R nR=>?_⟩
 have s1:Same H (upd H R (.lst (ns.map V.int))):=same_new nR _
 have e1:upd H R (.lst (ns.map V.int)) R=some (.lst (ns.map V.int)):=upd_same
 generalize upd H R (.lst (ns.map V.int))=H1 at s1 e1 ⊢
 walk_at "v"
 refine r_l (c0 s1) (at_ints g1 rfl) ?_
 walk_at "v"
 refine r_len (.inl (SqL.of e1)) ?_
 rw [List.length_map]
 refine r_I (show (0:Int)<(ns.length:Int) by omega) ?_
 have m0:0≤x1 % (ns.length:Int):=Int.emod_nonneg _ (by omega)
 have m1:x1 % (ns.length:Int)<(ns.length:Int):=Int.emod_lt_of_pos _ (by omega)
 obtain ⟨q,hq⟩:∃q:Nat,x1 % (ns.length:Int)=(q:Int):=⟨(x1 % (ns.length:Int)).toNat,by omega⟩
 rw [hq] at m0 m1 ⊢
 exact hR _ _ ⟨R,q,rfl,s1,nR,e1,by omega⟩
end

theorem threfs_cut (ts:List Th) (lo hi:Option Int):∃us:List Th,cutV (threfs ts) lo hi=threfs us∧us.length≤ts.length∧∀x∈us,x∈ts:=by
 unfold cutV threfs
 rw [← List.map_drop,← List.map_take]
 exact ⟨_,rfl,by rw [List.length_take,List.length_drop];omega,fun x hx=>List.mem_of_mem_drop (List.mem_of_mem_take hx)⟩
theorem each2_cut {α β:Type} {R:α→β→Prop}:∀{as:List α} {bs:List β} (n:Nat),Each2 R as bs→Each2 R (as.take n) (bs.take n)∧Each2 R (as.drop n) (bs.drop n)
 | [],[],n,_=>by rw [List.take_nil,List.take_nil,List.drop_nil,List.drop_nil];exact ⟨trivial,trivial⟩
 | _::_,_::_,0,h=>⟨trivial,h⟩
 | _::_,_::_,n+1,h=>⟨⟨h.1,(each2_cut n h.2).1⟩,(each2_cut n h.2).2⟩
 | [],_::_,_,h=>h.elim
 | _::_,[],_,h=>h.elim
theorem each2_app {α β:Type} {R:α→β→Prop}:∀{as cs:List α} {bs ds:List β},Each2 R as bs→Each2 R cs ds→Each2 R (as++cs) (bs++ds)
 | [],_,[],_,_,g=>g
 | _::_,_,_::_,_,h,g=>⟨h.1,each2_app h.2 g⟩
 | [],_,_::_,_,h,_=>h.elim
 | _::_,_,[],_,h,_=>h.elim
theorem each2_set {α β:Type} {R:α→β→Prop} {a:α} {b:β} (hab:R a b):∀{as:List α} {bs:List β} (n:Nat),Each2 R as bs→Each2 R (as.set n a) (bs.set n b)
 | [],[],_,_=>trivial
 | _::_,_::_,0,h=>⟨hab,h.2⟩
 | _::_,_::_,n+1,h=>⟨h.1,each2_set hab n h.2⟩
 | [],_::_,_,h=>h.elim
 | _::_,[],_,h=>h.elim
noncomputable def pvB (us:List Pv2) (a b:Nat):Prop:=∀v∈us,1≤v.1.length∧v.1.length≤a∧v.2.length≤b
noncomputable def pvC (us:List Pv2) (a b:Nat):Prop:=∀v∈us,v.1.length≤a∧v.2.length≤b
noncomputable abbrev erefs (xs:List Ent):List V:=xs.map fun x=>V.ref x.1
noncomputable def spCopied:Sp:=fun vs H Q _=>∃(Z:Addr) (xs:List Ent) (us:List Pv2),vs=[.ref Z]∧H Z=some (.lst (erefs xs))∧Each2 (EntD H) xs us∧us.length≤900∧∀(D:Addr) (ys:List Ent) (H':Hp),Same H H'→H D=none→H' D=some (.lst (erefs ys))→Each2 (EntD H') ys us→Q (.ref D) H'
noncomputable def spBent:Sp:=fun vs H Q _=>∃(Z R l:Addr) (xs:List Ent) (us:List Pv2) (es:List Nn) (ns:List Int),vs=[.ref Z,.ref R,.ref l]∧H Z=some (.lst (erefs xs))∧Each2 (EntD H) xs us∧us.length≤40∧pvB us 40 970∧H R=some (.lst (nvals es))∧NRow H es 45 150∧(us≠[]→1≤es.length)∧es.length≤40∧Rw H l ns∧∀(D:Addr) (ys:List Ent) (ws:List Pv2) (H':Hp),Same H H'→H' D=some (.lst (erefs ys))→Each2 (EntD H') ys ws→pvC ws 41 972→ws.length≤41→Q (.ref D) H'
noncomputable def rLst (K:PySem.W.Frag):List V→Hp→VK→Prop:=fun xs H Q=>∃p ys,xs=[V.ref p]∧(SqL K H p ys∨SqT K H p ys)∧∀l:Addr,H l=none→Q (V.ref l) (upd H l (HO.lst ys))
theorem comp_copy {K:PySem.W.Frag} {H:Hp} {Z:Addr} {xs:List Ent} {us:List Pv2} {σ:L2.St} {Q:VK} (hZ:H Z=some (.lst (erefs xs))) (hE:Each2 (EntD H) xs us) (hul:us.length≤900)
 (k:∀(D:Addr) (ys:List Ent) (H':Hp),Same H H'→H D=none→H' D=some (.lst (erefs ys))→Each2 (EntD H') ys us→(∀y∈ys,y.2.1≠D∧y.2.2≠D)→Q (.ref D) H') :
 CompB 2 [] (gTup K 2 (gCons (gName 0) (gCons (gName 1) gNil))) tYes (tTup (tCons (tCB (rLst K) (tCons (tVar 0) tNil)) (tCons (tCB (rLst K) (tCons (tVar 1) tNil)) tNil))) σ Q (Itl K Z) H:=by
 have hxl:=each2_len hE
 refine compB_of (xs:=erefs xs) tells_list (fun G' sG'=>SqL.of (sG' _ _ hZ)) (by rw [List.length_map];omega) (fun i ys G'=>∃ol:List Ent,ys=erefs ol∧Each2 (EntD G') ol (us.take i)) ⟨[],rfl,trivial⟩ ?_ ?_
 ·rintro D i v ys G1 σ0 NN N0 h0 hD eD sG1 hv hy ⟨ol,rfl,hol⟩ kY kN
  rw [List.getElem?_map] at hv
  obtain ⟨x,gx,rfl⟩:=Option.map_eq_some_iff.mp hv
  obtain ⟨u,gu,hu⟩:=each2_get hE gx
  obtain ⟨q1,q2,ts,q3,q4,q5⟩:=hu.up sG1
  refine r_own2 h0 q1 ?_
  walk_at "v"
  refine iteT ?_
  walk_at "v"
  refine ⟨x.2.1,_,rfl,.inl (SqL.of q2),fun o1 no1=>?_⟩
  have t1:Same G1 (upd G1 o1 (.lst (u.1.map V.int))):=same_new no1 _
  have f1:upd G1 o1 (.lst (u.1.map V.int)) o1=some (.lst (u.1.map V.int)):=upd_same
  generalize upd G1 o1 (.lst (u.1.map V.int))=G2 at *
  walk_at "v"
  refine ⟨x.2.2,_,rfl,.inl (SqL.of (t1 _ _ q3)),fun o2 no2=>?_⟩
  have t2:Same G2 (upd G2 o2 (.lst (threfs ts))):=same_new no2 _
  have f2:upd G2 o2 (.lst (threfs ts)) o2=some (.lst (threfs ts)):=upd_same
  generalize upd G2 o2 (.lst (threfs ts))=G3 at *
  walk_at "v"
  refine r_new (mk:=.tup) (by simp) fun o G4 t3 no f3=>?_
  have t14:=t1.trans (t2.trans t3)
  have eD4:=t14 _ _ eD
  have d1:o1≠D:=fun z=>by rw [z,eD] at no1;cases no1
  have d2:o2≠D:=fun z=>by rw [z,t1 _ _ eD] at no2;cases no2
  have tk:us.take (i+1)=us.take i++[u]:=by rw [List.take_add_one,gu];rfl
  refine kY _ G4 t14 ⟨ol++[(o,o1,o2)],by unfold erefs;rw [List.map_append];rfl,?_⟩
  rw [tk]
  refine each2_snoc (each2_imp (fun _ _ _ f=>f.mv (fun e=>rm_rm t14 _ _ e) (fun e=>rm_rm t14 _ _ e) (fun e=>rm_rm t14 _ _ e)) hol) ?_
  exact ⟨rm_tup eD4 f3,(rm_at d1).trans ((t2.trans t3) _ _ f1),ts,(rm_at d2).trans (t3 _ _ f2),fun z hz=>rm_tup eD4 (t14 _ _ (q4 z hz)),q5⟩
 ·rintro D ys G1 hD eD sG1 hy ⟨ol,rfl,hol⟩
  rw [List.length_map,hxl,List.take_length] at hol
  refine k D ol G1 sG1 hD eD (each2_imp (fun _ _ _ f=>f.mv (fun e=>rm_same _ _ e) (fun e=>rm_same _ _ e) (fun e=>rm_same _ _ e)) hol) fun y hy=>?_
  have z:rm D G1 D=none:=if_pos rfl
  have:∃v,EntD (rm D G1) y v:=by
   obtain ⟨i,hi⟩:=List.mem_iff_getElem?.mp hy
   obtain ⟨v,_,h⟩:=each2_get hol hi
   exact ⟨v,h⟩
  obtain ⟨v,_,b,ts,c,_⟩:=this
  exact ⟨(fun e=>by rw [e,z] at b;cases b),(fun e=>by rw [e,z] at c;cases c)⟩
section
variable {P:Program} {w:World} {K:PySem.W.Frag} {mg:Str→Option Value} {base:Heap} {f:Addr} {fd:FuncData}
theorem sc_law_bent_bars:FnScope ["_law_threes","_law_row_here","_law_some","_law_told","_law_near","_law_at","_law_one","_law_mid","_law_last"] ["_law_threes","_law_row_here","_law_some"] (defScope s_law_bent_bars):=⟨rfl,rfl,rfl,by decide +kernel,rfl,by decide +kernel,by decide +kernel⟩
theorem ok_law_bent_bars (F:Fun K "_law_bent_bars" "_law_bent_bars" s_law_bent_bars f fd) (T:Txt mg):FnOk P w K mg base CX0 1 f fd ["_law_threes","_law_row_here","_law_some"] spBentB:=by
 refine F.ok sc_law_bent_bars (fun vs H Q E h=>?_) (fun cdv A outer s H vs Q E hr h=>?_)
 ·obtain ⟨B,R,l,ts,es,xs,rfl,_⟩:=h
  rfl
 obtain ⟨B,R,l,ts,es,xs,rfl,hB,hts,htl,hR,hE,h1,h40,hW,k⟩:=h
 obtain ⟨x0,g0,a0,b0⟩:=row_get hW.len hW.bd 0 rfl
 obtain ⟨x1,g1,a1,b1⟩:=row_get hW.len hW.bd 1 rfl
 obtain ⟨x2,g2,a2,b2⟩:=row_get hW.len hW.bd 2 rfl
 obtain ⟨x3,g3,a3,b3⟩:=row_get hW.len hW.bd 3 rfl
 have c0:∀{H':Hp},Same H H'→H' l=some (.lst (xs.map V.int)):=fun s=>s _ _ hW.at_
 refine J.q ⟨_,(J.f (J.i (i:=3) sc_law_bent_bars.nd rfl (Or.inl rfl) (J.af (call_listK K) rfl T.list_ PyProof.Rows.boot_list (J.b (J.a 0) J.d st_N)) (hs:=sw_K))
  (J.f (J.i (i:=4) sc_law_bent_bars.nd rfl (Or.inl rfl) (J.e (ixT K) (J.e (ixL K) (J.a 1) (J.g op_mod (J.e (ixL K) (J.a 2) J.c (fun _ _=>rfl)) (J.p (lenC K) rfl T.len_ PySem.boot_len (J.b (J.a 1) J.d st_N) (he:=st_N) (hpl:=any0))) (fun _ _=>rfl)) J.c (fun _ _=>rfl)) (hs:=sw_S))
  (J.f (J.m (J.j op_eq (J.p (lenC K) rfl T.len_ PySem.boot_len (J.b (J.a 3) J.d st_N) (he:=st_N) (hpl:=any0)) J.c (nomark _))
  (J.h (J.k (J.s (J.b (J.r (J.b (J.a 4) (J.b (J.g op_add (J.a 4) J.c) (J.b (J.g op_add (J.a 4) J.c) J.d st_B) st_B) st_N)) J.d st_T))))
  J.o)
  (J.f (J.i (i:=5) sc_law_bent_bars.nd rfl (Or.inl rfl) (J.g op_mod (J.e (ixL K) (J.a 2) J.c (fun _ _=>rfl)) (J.p (lenC K) rfl T.len_ PySem.boot_len (J.b (J.a 3) J.d st_N) (he:=st_N) (hpl:=any0))) (hs:=sw_B))
  (J.f (J.ah (J.e (ixL K) (J.a 3) (J.a 5) (fun _ _=>rfl)) (Jd.pgT K (n:=3) rfl (J.v (J.n (i:=6) sc_law_bent_bars.nd rfl (Or.inl rfl)) (J.v (J.n (i:=7) sc_law_bent_bars.nd rfl (Or.inl rfl)) (J.v (J.n (i:=8) sc_law_bent_bars.nd rfl (Or.inl rfl)) J.ae)))))
  (J.f (J.m (J.j op_eq (J.e (ixL K) (J.a 2) J.c (fun _ _=>rfl)) J.c (nomark _))
  (J.h (J.k (J.g op_cat (J.g op_cat (J.s (J.b (J.r (J.b (J.a 6) (J.b (J.g op_add (J.a 6) J.c) (J.b (J.a 8) J.d st_N) st_B) st_N)) J.d st_T)) (Jd.pe_rev K (J.a 3) (J.z un_neg J.c))) (J.s (J.b (J.r (J.b (J.a 6) (J.b (J.g op_sub (J.a 8) J.c) (J.b (J.a 8) J.d st_N) st_B) st_N)) J.d st_T)))))
  J.o)
  (J.f (J.m (J.j op_eq (J.e (ixL K) (J.a 2) J.c (fun _ _=>rfl)) J.c (nomark _))
  (J.h (J.k (J.g op_cat (J.ai (slL K) (J.a 3) J.aj (J.ak (J.a 5))) (J.ai (slL K) (J.a 3) (J.ak (J.g op_add (J.a 5) J.c)) J.aj))))
  J.o)
  (J.f (J.m (J.j op_eq (J.e (ixL K) (J.a 2) J.c (fun _ _=>rfl)) J.c (nomark _))
  (J.h (J.ah (J.r (J.b (J.a 6) (J.b (J.a 4) (J.b (J.a 8) J.d st_N) st_N) st_N)) (Jd.pg_sub (J.a 3) (J.a 5) set_list)))
  J.o)
  (J.f (J.m (J.j op_eq (J.e (ixL K) (J.a 2) J.c (fun _ _=>rfl)) J.c (nomark _))
  (J.h (J.ah (J.e (ixL K) (J.s (J.b (J.r (J.b (J.a 4) (J.b (J.a 7) (J.b (J.a 8) J.d st_N) st_N) st_N)) (J.b (J.r (J.b (J.a 6) (J.b (J.a 7) (J.b (J.a 4) J.d st_N) st_N) st_N)) (J.b (J.r (J.b (J.a 8) (J.b (J.a 7) (J.b (J.a 6) J.d st_N) st_N) st_N)) J.d st_T) st_T) st_T)) (J.g op_mod (J.e (ixL K) (J.a 2) J.c (fun _ _=>rfl)) J.c) (fun _ _=>rfl)) (Jd.pg_sub (J.a 3) (J.a 5) set_list)))
  J.o)
  (J.h (J.k (J.a 3)))))))))))),?_⟩
 walk_at "v"
 refine ⟨B,_,rfl,.inl (SqL.of hB),fun D nD=>?_⟩
 have s1:Same H (upd H D (.lst (threfs ts))):=same_new nD _
 have e1:upd H D (.lst (threfs ts)) D=some (.lst (threfs ts)):=upd_same
 generalize upd H D (.lst (threfs ts))=H1 at s1 e1 ⊢
 walk_at "v"
 refine r_l (c0 s1) (at_ints g3 rfl) ?_
 walk_at "v"
 refine r_len (.inl (SqL.of (s1 _ _ hR))) ?_
 rw [nvals_len]
 refine r_I (show (0:Int)<(es.length:Int) by omega) ?_
 have m0:0≤x3 % (es.length:Int):=Int.emod_nonneg _ (by omega)
 have m1:x3 % (es.length:Int)<(es.length:Int):=Int.emod_lt_of_pos _ (by omega)
 obtain ⟨u,mu,_,au⟩:=at_nvals m0 m1
 have eu:=((hE u mu).up s1).1
 refine r_l (s1 _ _ hR) au ?_
 walk_at "v"
 refine r_len (.inl (SqL.of e1)) ?_
 rw [threfs_len]
 walk_at "v"
 by_cases h0:ts.length=0
 ·rw [decide_eq_true (show (ts.length:Int)=0 by omega)]
  refine iteT ?_
  walk_at "v"
  refine r_new (mk:=.tup) (by simp) fun t H2 s2 n2 e2=>?_
  walk_at "v"
  refine r_new (mk:=.lst) (by simp) fun D2 H3 s3 n3 e3=>?_
  refine k D2 [(t,u.2.1,u.2.1+1,u.2.1+2)] H3 (s1.trans (s2.trans s3)) ((s1.trans s2).free n3) e3 (fun x hx=>?_) (by simp)
  obtain rfl:x=(t,u.2.1,u.2.1+1,u.2.1+2):=by simpa using hx
  exact s3 _ _ e2
 rw [decide_eq_false (show ¬(ts.length:Int)=0 by omega)]
 refine iteF ?_
 walk_at "v"
 refine r_l (c0 s1) (at_ints g1 rfl) ?_
 walk_at "v"
 refine r_len (.inl (SqL.of e1)) ?_
 rw [threfs_len]
 refine r_I (show (0:Int)<(ts.length:Int) by omega) ?_
 have q0:0≤x1 % (ts.length:Int):=Int.emod_nonneg _ (by omega)
 have q1:x1 % (ts.length:Int)<(ts.length:Int):=Int.emod_lt_of_pos _ (by omega)
 obtain ⟨q,hq⟩:∃q:Nat,x1 % (ts.length:Int)=(q:Int):=⟨(x1 % (ts.length:Int)).toNat,by omega⟩
 rw [hq] at q0 q1 ⊢
 obtain ⟨t,gt⟩:∃t,ts[q]?=some t:=⟨_,List.getElem?_eq_getElem (by omega)⟩
 have ht1:=hts.up s1
 have et:H1 t.1=some (.tup [.int t.2.1,.int t.2.2.1,.int t.2.2.2]):=ht1 t (List.mem_of_getElem? gt)
 walk_at "v"
 dsimp only
 refine r_asg ?_
 walk_at "v"
 refine r_l e1 (atI_nat (by unfold threfs;rw [List.getElem?_map,gt];rfl)) ?_
 refine r_unpack3 et ?_
 obtain ⟨ta,t0,t1,t2⟩:=t
 dsimp only at et ⊢
 walk_at "v"
 refine r_l (c0 s1) (at_ints g0 rfl) ?_
 walk_at "v"
 refine ite2 (fun _=>?_) (fun _=>?_)
 ·walk_at "v"
  refine r_new (mk:=.tup) (by simp) fun p2 H2 s2 n2 e2=>?_
  walk_at "v"
  refine r_new (mk:=.lst) (by simp) fun p3 H3 s3 n3 e3=>?_
  walk_at "v"
  have s13:=s2.trans s3
  refine ⟨D,_,rfl,rfl,SqL.of (s13 _ _ e1),?_⟩
  refine r_new (mk:=.lst) (by rw [List.length_reverse,threfs_len];omega) fun p4 H4 s4 n4 e4=>?_
  have er:(threfs ts).reverse=threfs ts.reverse:=by unfold threfs;rw [List.map_reverse]
  rw [er] at e4
  refine r_cat (s4 _ _ e3) e4 ?_
  refine r_new (mk:=.lst) (by rw [List.length_append,threfs_len,List.length_reverse];simp only [List.length_cons,List.length_nil];omega) fun p5 H5 s5 n5 e5=>?_
  walk_at "v"
  refine r_new (mk:=.tup) (by simp) fun p6 H6 s6 n6 e6=>?_
  walk_at "v"
  refine r_new (mk:=.lst) (by simp) fun p7 H7 s7 n7 e7=>?_
  walk_at "v"
  refine r_cat ((s6.trans s7) _ _ e5) e7 ?_
  refine r_new (mk:=.lst) (by rw [List.length_append,List.length_append,threfs_len,List.length_reverse];simp only [List.length_cons,List.length_nil];omega) fun p8 H8 s8 n8 e8=>?_
  have s18:=s13.trans (s4.trans (s5.trans (s6.trans (s7.trans s8))))
  refine k p8 ([(p2,t0,t0+1,t2)]++ts.reverse++[(p6,t0,t2-1,t2)]) H8 (s1.trans s18) ((s1.trans (s13.trans (s4.trans (s5.trans (s6.trans s7))))).free n8) ?_ (fun x hx=>?_) ?_
  ·rw [e8]
   unfold threfs
   rw [List.map_append,List.map_append]
   rfl
  ·rcases List.mem_append.mp hx with hx | hx
   ·rcases List.mem_append.mp hx with hx | hx
    ·obtain rfl:x=(p2,t0,t0+1,t2):=by simpa using hx
     exact (s3.trans (s4.trans (s5.trans (s6.trans (s7.trans s8))))) _ _ e2
    ·exact s18 _ _ (ht1 x (List.mem_reverse.mp hx))
   ·obtain rfl:x=(p6,t0,t2-1,t2):=by simpa using hx
    exact (s7.trans s8) _ _ e6
  ·rw [List.length_append,List.length_append,List.length_reverse]
   simp only [List.length_cons,List.length_nil]
   omega
 walk_at "v"
 refine r_l (c0 s1) (at_ints g0 rfl) ?_
 walk_at "v"
 refine ite2 (fun _=>?_) (fun _=>?_)
 ·walk_at "vd"
  refine r_slL e1 fun p2 H2 s2 n2 e2=>?_
  walk_at "vd"
  refine r_slL (s2 _ _ e1) fun p3 H3 s3 n3 e3=>?_
  obtain ⟨ua,ea,la,ma⟩:=threfs_cut ts none (some (q:Int))
  obtain ⟨ub,eb,lb,mb⟩:=threfs_cut ts (some ((q:Int)+1)) none
  have ka:cutV (threfs ts) none (some (q:Int))=(threfs ts).take q:=cutl _ q
  have kb:cutV (threfs ts) (some ((q:Int)+1)) none=(threfs ts).drop (q+1):=by rw [show ((q:Int)+1)=((q+1:Nat):Int) by omega,cutk]
  have la:ua.length=q:=by have:=congrArg List.length (ea.symm.trans ka);rw [threfs_len,List.length_take,threfs_len] at this;omega
  have lb:ub.length=ts.length-(q+1):=by have:=congrArg List.length (eb.symm.trans kb);rw [threfs_len,List.length_drop,threfs_len] at this;omega
  rw [ea] at e2
  rw [eb] at e3
  refine r_cat (s3 _ _ e2) e3 ?_
  refine r_new (mk:=.lst) (by rw [List.length_append,threfs_len,threfs_len];omega) fun p4 H4 s4 n4 e4=>?_
  rw [threfs_cat] at e4
  have s14:=s2.trans (s3.trans s4)
  exact k p4 (ua++ub) H4 (s1.trans s14) ((s1.trans (s2.trans s3)).free n4) e4 (fun x hx=>s14 _ _ (ht1 x ((List.mem_append.mp hx).elim (ma x) (mb x)))) (by rw [List.length_append];omega)
 have put:∀(p:Addr) (a b c:Int) (H3:Hp),Same H1 H3→H3 p=some (.tup [.int a,.int b,.int c])→Same H (upd H3 D (.lst ((threfs ts).set q (.ref p))))∧upd H3 D (.lst ((threfs ts).set q (.ref p))) D=some (.lst (threfs (ts.set q (p,a,b,c))))∧AllT (upd H3 D (.lst ((threfs ts).set q (.ref p)))) (ts.set q (p,a,b,c)):=fun p a b c H3 s3 e3=>by
  refine ⟨same_at (s1.trans s3) nD,by rw [upd_same];unfold threfs;rw [List.map_set],fun x hx=>?_⟩
  have tup:∀{b:Addr} {ys:List V},H3 b=some (.tup ys)→upd H3 D (.lst ((threfs ts).set q (.ref p))) b=some (.tup ys):=fun {b ys} e=>rm_up D H3 _ _ _ (rm_tup (s3 _ _ e1) e)
  rcases List.mem_or_eq_of_mem_set hx with z | z
  ·exact tup (s3 _ _ (ht1 x z))
  ·subst z;exact tup e3
 walk_at "v"
 refine r_l (c0 s1) (at_ints g0 rfl) ?_
 walk_at "v"
 have hlD:l≠D:=fun z=>by have:=hW.at_;rw [z,nD] at this;cases this
 refine ite2 (fun c7=>?_) (fun c7=>?_)
 ·have c7:x0=7:=of_decide_eq_true c7
  walk_at "v"
  dsimp only
  refine r_asg ?_
  walk_at "v"
  refine r_new (mk:=.tup) (by simp) fun p H3 s3 n3 e3=>?_
  walk_at "v"
  refine r_setL (s3 _ _ e1) (j:=q) (by rw [threfs_len];exact ix_nat (by omega) (by omega)) ?_
  obtain ⟨z1,z2,z3⟩:=put p t0 u.2.1 t2 H3 s3 e3
  generalize upd H3 D (.lst ((threfs ts).set q (.ref p)))=H4 at z1 z2 z3 ⊢
  walk_at "v"
  refine r_l (c0 z1) (at_ints g0 rfl) ?_
  walk_at "v"
  rw [decide_eq_false (show ¬x0=8 by omega)]
  refine iteF ?_
  walk_at "v"
  exact k D _ H4 z1 nD z2 z3 (by rw [List.length_set];omega)
 ·walk_at "v"
  refine r_l (c0 s1) (at_ints g0 rfl) ?_
  walk_at "v"
  refine ite2 (fun _=>?_) (fun _=>?_)
  ·walk_at "v"
   dsimp only
   refine r_asg ?_
   walk_at "v"
   refine r_new (mk:=.tup) (by simp) fun p2 H2 s2 n2 e2=>?_
   walk_at "v"
   refine r_new (mk:=.tup) (by simp) fun p3 H3 s3 n3 e3=>?_
   walk_at "v"
   refine r_new (mk:=.tup) (by simp) fun p4 H4 s4 n4 e4=>?_
   walk_at "v"
   refine r_new (mk:=.lst) (by simp) fun p5 H5 s5 n5 e5=>?_
   have s15:=s2.trans (s3.trans (s4.trans s5))
   walk_at "v"
   refine r_l (c0 (s1.trans s15)) (at_ints g2 rfl) ?_
   walk_at "v"
   have w0:0≤x2 % 3:=Int.emod_nonneg _ (by decide)
   have w1:x2 % 3<3:=Int.emod_lt_of_pos _ (by decide)
   obtain ⟨p,a,b,c,ap,ep⟩:∃(p:Addr) (a b c:Int),atI [V.ref p2,V.ref p3,V.ref p4] (x2 % 3)=some (.ref p)∧H5 p=some (.tup [.int a,.int b,.int c]):=by
    have:x2 % 3=0∨x2 % 3=1∨x2 % 3=2:=by omega
    rcases this with e | e | e
    ·exact ⟨p2,_,_,_,by rw [e];exact at0,(s3.trans (s4.trans s5)) _ _ e2⟩
    ·exact ⟨p3,_,_,_,by rw [e];exact at1,(s4.trans s5) _ _ e3⟩
    ·exact ⟨p4,_,_,_,by rw [e];exact at2,s5 _ _ e4⟩
   refine r_l e5 ap ?_
   walk_at "v"
   refine r_setL (s15 _ _ e1) (j:=q) (by rw [threfs_len];exact ix_nat (by omega) (by omega)) ?_
   obtain ⟨z1,z2,z3⟩:=put p a b c H5 s15 ep
   generalize upd H5 D (.lst ((threfs ts).set q (.ref p)))=H6 at z1 z2 z3 ⊢
   walk_at "v"
   exact k D _ H6 z1 nD z2 z3 (by rw [List.length_set];omega)
  ·walk_at "v"
   exact k D ts H1 s1 nD e1 ht1 (by omega)
theorem sc_law_copied:FnScope ["_law_paper"] ["_law_paper"] (defScope s_law_copied):=⟨rfl,rfl,rfl,by decide +kernel,rfl,by decide +kernel,by decide +kernel⟩
theorem ok_law_copied (F:Fun K "_law_copied" "_law_copied" s_law_copied f fd) (T:Txt mg):FnOk P w K mg base CX0 1 f fd ["_law_paper"] spCopied:=by
 refine F.ok sc_law_copied (fun vs H Q E h=>?_) (fun cdv A outer s H vs Q E hr h=>?_)
 ·obtain ⟨Z,xs,us,rfl,_⟩:=h
  rfl
 obtain ⟨Z,xs,us,rfl,hZ,hE,hul,k⟩:=h
 have hxl:=each2_len hE
 refine J.q ⟨_,(J.h (J.k (Jd.pe_comp (O:=["_law_numbers_here","_law_threes"]) (N':=[]) (cap:=[]) rfl (J.w K (J.a 0)) (fun _ _ _ _ _=>(Jd.pgT K (n:=2) rfl (J.v (J.n (i:=0) (show List.Nodup [("_law_numbers_here":Str),("_law_threes":Str)] by decide +kernel) rfl (Or.inl rfl)) (J.v (J.n (i:=1) (show List.Nodup [("_law_numbers_here":Str),("_law_threes":Str)] by decide +kernel) rfl (Or.inl rfl)) J.ae)))) (fun _ _ _ _ _=>J.ag) (fun _ _ _ _ _=>(J.r (J.b (J.af (call_listK K) rfl T.list_ PyProof.Rows.boot_list (J.b (J.a 0) J.d st_N)) (J.b (J.af (call_listK K) rfl T.list_ PyProof.Rows.boot_list (J.b (J.a 1) J.d st_N)) J.d st_K) st_K))) rfl trivial rfl (by decide +kernel) rfl (by decide +kernel)))),?_⟩
 walk_at "v"
 refine r_iL ?_
 walk_at "v"
 refine ⟨Z,rfl,⟨_,SqL.of hZ⟩,?_⟩
 exact comp_copy hZ hE hul fun D ys H' a b c d _=>k D ys H' a b c d
theorem sc_law_bent:FnScope ["_law_paper","_law_row_here","_law_some","_law_told","_law_at","_law_numbers_here","_law_threes"] ["_law_paper","_law_row_here","_law_some"] (defScope s_law_bent):=⟨rfl,rfl,rfl,by decide +kernel,rfl,by decide +kernel,by decide +kernel⟩
theorem ok_law_bent (F:Fun K "_law_bent" "_law_bent" s_law_bent f fd) (T:Txt mg) (D_law_bent_numbers:Dn P w K mg base 1 "_law_bent_numbers" ["_law_numbers_here","_law_some"] spBentN) (D_law_bent_bars:Dn P w K mg base 1 "_law_bent_bars" ["_law_threes","_law_row_here","_law_some"] spBentB):FnOk P w K mg base CX0 2 f fd ["_law_paper","_law_row_here","_law_some"] spBent:=by
 refine F.ok sc_law_bent (fun vs H Q E h=>?_) (fun cdv A outer s H vs Q E hr h=>?_)
 ·obtain ⟨Z,R,l,xs,us,es,ns,rfl,_⟩:=h
  rfl
 obtain ⟨Z,R,l,xs,us,es,ns,rfl,hZ,hE,hul,hpv,hR,hes,h1,h40,hW,k⟩:=h
 obtain ⟨x0,g0,a0,b0⟩:=row_get hW.len hW.bd 0 rfl
 obtain ⟨x4,g4,a4,b4⟩:=row_get hW.len hW.bd 4 rfl
 have c0:∀{H':Hp},Same H H'→H' l=some (.lst (ns.map V.int)):=fun s=>s _ _ hW.at_
 have pvc:∀{ws:List Pv2},(∀v∈ws,v∈us)→pvC ws 41 972:=fun h v hv=>by have:=hpv v (h v hv);exact ⟨by omega,by omega⟩
 refine J.q ⟨_,(J.f (J.an (O:=["_law_numbers_here","_law_threes"]) (N':=[]) (cap:=[]) (i:=3) sc_law_bent.nd rfl (Or.inl rfl) rfl (J.w K (J.a 0)) (fun _ _ _ _ _=>(Jd.pgT K (n:=2) rfl (J.v (J.n (i:=0) (show List.Nodup [("_law_numbers_here":Str),("_law_threes":Str)] by decide +kernel) rfl (Or.inl rfl)) (J.v (J.n (i:=1) (show List.Nodup [("_law_numbers_here":Str),("_law_threes":Str)] by decide +kernel) rfl (Or.inl rfl)) J.ae)))) (fun _ _ _ _ _=>J.ag) (fun _ _ _ _ _=>(J.r (J.b (J.af (call_listK K) rfl T.list_ PyProof.Rows.boot_list (J.b (J.a 0) J.d st_N)) (J.b (J.af (call_listK K) rfl T.list_ PyProof.Rows.boot_list (J.b (J.a 1) J.d st_N)) J.d st_K) st_K))) rfl trivial rfl (by decide +kernel) rfl (by decide +kernel) (by rfl))
  (J.f (J.m (J.j op_eq (J.p (lenC K) rfl T.len_ PySem.boot_len (J.b (J.a 3) J.d st_N) (he:=st_N) (hpl:=any0)) J.c (nomark _))
  (J.h (J.k (J.a 3)))
  J.o)
  (J.f (J.i (i:=4) sc_law_bent.nd rfl (Or.inl rfl) (J.g op_mod (J.e (ixL K) (J.a 2) J.c (fun _ _=>rfl)) (J.p (lenC K) rfl T.len_ PySem.boot_len (J.b (J.a 3) J.d st_N) (he:=st_N) (hpl:=any0))) (hs:=sw_B))
  (J.f (J.ah (J.e (ixL K) (J.a 3) (J.a 4) (fun _ _=>rfl)) (Jd.pgT K (n:=2) rfl (J.v (J.n (i:=5) sc_law_bent.nd rfl (Or.inl rfl)) (J.v (J.n (i:=6) sc_law_bent.nd rfl (Or.inl rfl)) J.ae))))
  (J.f (J.m (J.j op_lt (J.e (ixL K) (J.a 2) J.c (fun _ _=>rfl)) J.c (nomark _))
  (J.h (J.ah (J.r (J.b (J.l D_law_bent_numbers (hr.mono (by decide)) rfl (J.b (J.a 5) (J.b (J.a 2) J.d st_N) st_N) (he:=st_N) (hpl:=(anyc st_N any0))) (J.b (J.l D_law_bent_bars (hr.mono (by decide)) rfl (J.b (J.a 6) (J.b (J.a 1) (J.b (J.a 2) J.d st_N) st_N) st_N) (he:=st_N) (hpl:=(anyc st_N (anyc st_N any0)))) J.d st_K) st_K)) (Jd.pg_sub (J.a 3) (J.a 4) set_list)))
  J.o)
  (J.f (J.m (J.j op_eq (J.e (ixL K) (J.a 2) J.c (fun _ _=>rfl)) J.c (nomark _))
  (J.h (J.i (i:=3) sc_law_bent.nd rfl (Or.inl rfl) (J.g op_cat (J.ai (slL K) (J.a 3) (J.ak J.c) J.aj) (J.ai (slL K) (J.a 3) J.aj (J.ak J.c))) (hs:=sw_B)))
  J.o)
  (J.f (J.m (J.j op_eq (J.e (ixL K) (J.a 2) J.c (fun _ _=>rfl)) J.c (nomark _))
  (J.h (J.i (i:=3) sc_law_bent.nd rfl (Or.inl rfl) (J.g op_cat (J.ai (slL K) (J.a 3) J.aj (J.ak (J.a 4))) (J.ai (slL K) (J.a 3) (J.ak (J.g op_add (J.a 4) J.c)) J.aj)) (hs:=sw_B)))
  J.o)
  (J.f (J.m (J.j op_eq (J.e (ixL K) (J.a 2) J.c (fun _ _=>rfl)) J.c (nomark _))
  (J.h (J.i (i:=3) sc_law_bent.nd rfl (Or.inl rfl) (J.g op_cat (J.ai (slL K) (J.a 3) J.aj (J.ak (J.g op_add (J.a 4) J.c))) (J.ai (slL K) (J.a 3) (J.ak (J.a 4)) J.aj)) (hs:=sw_B)))
  J.o)
  (J.h (J.k (J.a 3))))))))))),?_⟩
 walk_at "v"
 refine r_iL ?_
 walk_at "v"
 refine ⟨Z,rfl,⟨_,SqL.of hZ⟩,?_⟩
 refine comp_copy hZ hE (by omega) fun D ys H1 s1 nD e1 hE1 hnew=>?_
 have hyl:=each2_len hE1
 walk_at "v"
 refine r_len (.inl (SqL.of e1)) ?_
 rw [List.length_map,hyl]
 walk_at "v"
 by_cases hu0:us.length=0
 ·rw [decide_eq_true (show (us.length:Int)=0 by omega)]
  refine iteT ?_
  walk_at "v"
  exact k D ys us H1 s1 e1 hE1 (pvc fun v hv=>hv) (by omega)
 rw [decide_eq_false (show ¬(us.length:Int)=0 by omega)]
 refine iteF ?_
 walk_at "v"
 refine r_l (c0 s1) (at_ints g4 rfl) ?_
 walk_at "v"
 refine r_len (.inl (SqL.of e1)) ?_
 rw [List.length_map,hyl]
 refine r_I (show (0:Int)<(us.length:Int) by omega) ?_
 have q0:0≤x4 % (us.length:Int):=Int.emod_nonneg _ (by omega)
 have q1:x4 % (us.length:Int)<(us.length:Int):=Int.emod_lt_of_pos _ (by omega)
 obtain ⟨q,hq⟩:∃q:Nat,x4 % (us.length:Int)=(q:Int):=⟨(x4 % (us.length:Int)).toNat,by omega⟩
 rw [hq] at q0 q1 ⊢
 obtain ⟨y,gy⟩:∃y,ys[q]?=some y:=⟨_,List.getElem?_eq_getElem (by omega)⟩
 obtain ⟨v,gv,⟨ey,en,ts,et,hts,htv⟩⟩:=each2_get hE1 gy
 have hv:=hpv v (List.mem_of_getElem? gv)
 have htl:ts.length=v.2.length:=by rw [← htv,List.length_map]
 have hes1:1≤es.length:=h1 fun z=>hu0 (by rw [z];rfl)
 walk_at "v"
 dsimp only
 refine r_asg ?_
 walk_at "v"
 refine r_l e1 (atI_nat (by rw [List.getElem?_map,gy];rfl)) ?_
 refine r_unpack2 ey ?_
 walk_at "v"
 refine r_l (c0 s1) (at_ints g0 rfl) ?_
 walk_at "v"
 have hcut:∀(a:Nat),cutV (erefs ys) none (some (a:Int))=erefs (ys.take a)∧cutV (erefs ys) (some (a:Int)) none=erefs (ys.drop a):=fun a=>⟨by rw [cutl];unfold erefs;rw [List.map_take],by rw [cutk];unfold erefs;rw [List.map_drop]⟩
 have fin:∀(p:Addr) (zs:List Ent) (ws:List Pv2) (H4:Hp),Same H1 H4→H4 p=some (.lst (erefs zs))→Each2 (EntD H1) zs ws→(∀v∈ws,v∈us)→ws.length≤41→Q (.ref p) H4:=fun p zs ws H4 s4 e4 hz hm hl=>k p zs ws H4 (s1.trans s4) e4 (each2_imp (fun _ _ _ f=>f.up s4) hz) (pvc hm) hl
 have cat:∀(zs ws:List Ent),erefs zs++erefs ws=erefs (zs++ws):=fun zs ws=>by unfold erefs;rw [List.map_append]
 have el:∀zs:List Ent,(erefs zs).length=zs.length:=fun zs=>List.length_map ..
 refine ite2 (fun c10=>?_) (fun c10=>?_)
 ·have c10:x0<10:=of_decide_eq_true c10
  walk_at "v"
  dsimp only
  refine r_asg ?_
  walk_at "v"
  refine ⟨y.2.1,l,v.1,ns,rfl,en,hv.1,by omega,hW.up s1,fun N' ms H2 s2 n2 e2 hml=>?_⟩
  have s02:=s1.trans s2
  walk_at "v"
  refine ⟨y.2.2,R,l,ts,es,ns,rfl,s2 _ _ et,hts.up s2,by omega,s02 _ _ hR,hes.up s02,hes1,h40,hW.up s02,fun B' ws H3 s3 n3 e3 hws hwl=>?_⟩
  walk_at "v"
  refine r_new (mk:=.tup) (by simp) fun p H4 s4 n4 e4=>?_
  have s14:=s2.trans (s3.trans s4)
  walk_at "v"
  refine r_setL (s14 _ _ e1) (j:=q) (by rw [List.length_map];exact ix_nat (by omega) (by omega)) ?_
  have s05:Same H (upd H4 D (.lst ((erefs ys).set q (.ref p)))):=same_at (s1.trans s14) nD
  have hN':N'≠D:=fun z=>by rw [z,e1] at n2;cases n2
  have hB':B'≠D:=fun z=>by rw [z,s2 _ _ e1] at n3;cases n3
  have eD5:upd H4 D (.lst ((erefs ys).set q (.ref p))) D=some (.lst (erefs (ys.set q (p,N',B')))):=by rw [upd_same];unfold erefs;rw [List.map_set]
  have tup:∀{b:Addr} {zs:List V},H4 b=some (.tup zs)→upd H4 D (.lst ((erefs ys).set q (.ref p))) b=some (.tup zs):=fun {b zs} e=>rm_up D H4 _ _ _ (rm_tup (s14 _ _ e1) e)
  have hE5:Each2 (EntD (upd H4 D (.lst ((erefs ys).set q (.ref p))))) (ys.set q (p,N',B')) (us.set q (ms,ws.map (·.2))):=by
   refine each2_set ?_ q (each2_imp (fun z _ hz f=>?_) hE1)
   ·exact ⟨tup e4,by rw [upd_ne hN'];exact (s3.trans s4) _ _ e2,ws,by rw [upd_ne hB'];exact s4 _ _ e3,fun x hx=>tup ((s4 _ _ (hws x hx))),rfl⟩
   ·refine f.mv (fun e=>tup (s14 _ _ e)) (fun {w} e=>?_) (fun {w} e=>?_)
    ·rw [upd_ne (hnew z hz).1];exact s14 _ _ e
    ·rw [upd_ne (hnew z hz).2];exact s14 _ _ e
  generalize upd H4 D (.lst ((erefs ys).set q (.ref p)))=H5 at s05 eD5 hE5 ⊢
  walk_at "v"
  refine r_l (c0 s05) (at_ints g0 rfl) ?_
  walk_at "v"
  rw [decide_eq_false (show ¬x0=10 by omega)]
  refine iteF ?_
  walk_at "v"
  refine r_l (c0 s05) (at_ints g0 rfl) ?_
  walk_at "v"
  rw [decide_eq_false (show ¬x0=11 by omega)]
  refine iteF ?_
  walk_at "v"
  refine r_l (c0 s05) (at_ints g0 rfl) ?_
  walk_at "v"
  rw [decide_eq_false (show ¬x0=12 by omega)]
  refine iteF ?_
  walk_at "v"
  refine k D _ _ H5 s05 eD5 hE5 (fun v' hv'=>?_) (by rw [List.length_set];omega)
  rcases List.mem_or_eq_of_mem_set hv' with z | z
  ·exact pvc (fun v hv=>hv) v' z
  ·subst z
   exact ⟨by show ms.length≤41;omega,by show (ws.map (·.2)).length≤972;rw [List.length_map];omega⟩
 ·have c10:¬x0<10:=of_decide_eq_false (Bool.eq_false_iff.mpr c10)
  walk_at "v"
  refine r_l (c0 s1) (at_ints g0 rfl) ?_
  walk_at "v"
  refine ite2 (fun c=>?_) (fun c=>?_)
  ·have c:x0=10:=of_decide_eq_true c
   walk_at "vd"
   refine r_slL e1 fun pA H2 s2 n2 e2=>?_
   rw [show (some (1:Int))=some ((1:Nat):Int) from rfl,(hcut 1).2] at e2
   walk_at "vd"
   refine r_slL (s2 _ _ e1) fun pB H3 s3 n3 e3=>?_
   rw [show (some (1:Int))=some ((1:Nat):Int) from rfl,(hcut 1).1] at e3
   refine r_cat (s3 _ _ e2) e3 ?_
   refine r_new (mk:=.lst) (by rw [List.length_append,el,el,List.length_take,List.length_drop];omega) fun p H4 s4 n4 e4=>?_
   rw [cat] at e4
   have s14:=s2.trans (s3.trans s4)
   have s04:=s1.trans s14
   walk_at "v"
   refine r_l (c0 s04) (at_ints g0 rfl) ?_
   walk_at "v"
   rw [decide_eq_false (show ¬x0=11 by omega)]
   refine iteF ?_
   walk_at "v"
   refine r_l (c0 s04) (at_ints g0 rfl) ?_
   walk_at "v"
   rw [decide_eq_false (show ¬x0=12 by omega)]
   refine iteF ?_
   walk_at "v"
   exact fin p _ (us.drop 1++us.take 1) H4 s14 e4 (each2_app (each2_cut 1 hE1).2 (each2_cut 1 hE1).1) (fun v hv=>(List.mem_append.mp hv).elim List.mem_of_mem_drop List.mem_of_mem_take) (by rw [List.length_append,List.length_take,List.length_drop];omega)
  ·have c:¬x0=10:=of_decide_eq_false (Bool.eq_false_iff.mpr c)
   walk_at "v"
   refine r_l (c0 s1) (at_ints g0 rfl) ?_
   walk_at "v"
   refine ite2 (fun c=>?_) (fun c=>?_)
   ·have c:x0=11:=of_decide_eq_true c
    walk_at "vd"
    refine r_slL e1 fun pA H2 s2 n2 e2=>?_
    rw [(hcut q).1] at e2
    walk_at "vd"
    refine r_slL (s2 _ _ e1) fun pB H3 s3 n3 e3=>?_
    rw [show ((q:Int)+1)=((q+1:Nat):Int) by omega,(hcut (q+1)).2] at e3
    refine r_cat (s3 _ _ e2) e3 ?_
    refine r_new (mk:=.lst) (by rw [List.length_append,el,el,List.length_take,List.length_drop];omega) fun p H4 s4 n4 e4=>?_
    rw [cat] at e4
    have s14:=s2.trans (s3.trans s4)
    have s04:=s1.trans s14
    walk_at "v"
    refine r_l (c0 s04) (at_ints g0 rfl) ?_
    walk_at "v"
    rw [decide_eq_false (show ¬x0=12 by omega)]
    refine iteF ?_
    walk_at "v"
    exact fin p _ (us.take q++us.drop (q+1)) H4 s14 e4 (each2_app (each2_cut q hE1).1 (each2_cut (q+1) hE1).2) (fun v hv=>(List.mem_append.mp hv).elim List.mem_of_mem_take List.mem_of_mem_drop) (by rw [List.length_append,List.length_take,List.length_drop];omega)
   ·walk_at "v"
    refine r_l (c0 s1) (at_ints g0 rfl) ?_
    walk_at "v"
    refine ite2 (fun c=>?_) (fun c=>?_)
    ·walk_at "vd"
     refine r_slL e1 fun pA H2 s2 n2 e2=>?_
     rw [show ((q:Int)+1)=((q+1:Nat):Int) by omega,(hcut (q+1)).1] at e2
     walk_at "vd"
     refine r_slL (s2 _ _ e1) fun pB H3 s3 n3 e3=>?_
     rw [(hcut q).2] at e3
     refine r_cat (s3 _ _ e2) e3 ?_
     refine r_new (mk:=.lst) (by rw [List.length_append,el,el,List.length_take,List.length_drop];omega) fun p H4 s4 n4 e4=>?_
     rw [cat] at e4
     have s14:=s2.trans (s3.trans s4)
     walk_at "v"
     exact fin p _ (us.take (q+1)++us.drop q) H4 s14 e4 (each2_app (each2_cut (q+1) hE1).1 (each2_cut q hE1).2) (fun v hv=>(List.mem_append.mp hv).elim List.mem_of_mem_take List.mem_of_mem_drop) (by rw [List.length_append,List.length_take,List.length_drop];omega)
    ·walk_at "v"
     exact fin D ys us H1 (Same.refl _) e1 hE1 (fun v hv=>hv) (by omega)
end

--@squeeze
theorem each2_mapR {α β γ:Type} {R:α→γ→Prop} {g:β→γ}:∀{as:List α} {bs:List β},Each2 (fun a b=>R a (g b)) as bs→Each2 R as (bs.map g)
 | [],[],_=>trivial
 | _::_,_::_,h=>⟨h.1,each2_mapR h.2⟩
 | [],_::_,h=>h.elim
 | _::_,[],h=>h.elim
theorem ents_shown {H:Hp} {β:Rat} {tied:Bool} (hb:0≤β):∀{rs:List (List En)} {ents:List Ent} {qss:List (List (Rat×Rat×Rat×Rat))},Each2 (fun r x=>EntAt H x r β tied) rs ents→Each2 (fun r l=>Told r β tied l) rs qss→(∀r∈rs,1≤r.length∧r.length≤30)→∃us:List Pv2,Each2 (EntD H) ents us∧(∀at_,Each2 (fun r v=>OkP r β tied at_ v) rs us)∧Each2 (fun v l=>mx v.1=(l.length:Int)) us qss∧pvC us 31 961
 | [],[],[],_,_,_=>⟨[],trivial,fun _=>trivial,trivial,fun v hv=>absurd hv (by simp)⟩
 | r::rs,x::ents,l::qss,h,g,hr=>by
   obtain ⟨us,a1,a2,a3,a4⟩:=ents_shown hb h.2 g.2 fun r hr'=>hr r (List.mem_cons_of_mem _ hr')
   obtain ⟨q1,q2⟩:=hr r List.mem_cons_self
   obtain ⟨v,b1,b2,b3,b4,b5⟩:=ent_ok h.1 q1 hb g.1
   have hsh:=shft_le tied
   refine ⟨v::us,⟨b1,a1⟩,fun at_=>⟨b2 at_,a2 at_⟩,⟨b3,a3⟩,fun w hw=>?_⟩
   rcases List.mem_cons.mp hw with z | z
   ·subst z
    have:(r.length+shft tied)*(r.length+shft tied)≤31*31:=Nat.mul_le_mul (by omega) (by omega)
    exact ⟨by omega,by omega⟩
   ·exact a4 w z
 | [],_::_,_,h,_,_=>h.elim
 | _::_,[],_,h,_,_=>h.elim
 | [],[],_::_,_,g,_=>g.elim
 | _::_,_::_,[],_,g,_=>g.elim
theorem div_nn {c b:Int} (hc:0≤c) (hb:1≤b):(0:Rat)≤(c:Rat)/(b:Rat):=by
 have q1:((0:Int):Rat)≤(c:Rat):=Rat.intCast_le_intCast.mpr hc
 have q2:=cast_pos (b:=b) (by omega)
 apply Rat.not_lt.mp
 intro z
 have hb':=cast_ne (b:=b) (by omega)
 have e:(c:Rat)/(b:Rat)*(b:Rat)=(c:Rat):=by grind
 have:=Rat.mul_lt_mul_of_pos_right z q2
 rw [e,Rat.zero_mul] at this
 exact absurd this (Rat.not_lt.mpr q1)
noncomputable def ansB (rs:List (List En)) (β:Rat) (tied at_:Bool) (us:List Pv2) (num:Int):Bool:=match shT rs β tied at_ us with | none=>false | some m=>decide (num≤m)
noncomputable def spAsks:Sp:=fun vs H Q _=>∃(R Z pl:Addr) (es:List Nn) (xs:List Ent) (us:List Pv2) (b c num flag:Int) (tied:Bool),vs=[.ref R,.int b,.str (wst tied),.ref pl,.int num,.ref Z,.int flag]∧H R=some (.lst (nvals es))∧NRow H es 45 150∧nrising es∧es.length≤8∧1≤b∧Sz 80 b∧QtAt H pl ((c:Rat)/(b:Rat)) 150∧H Z=some (.lst (erefs xs))∧Each2 (EntD H) xs us∧pvC us 41 972∧us.length≤41∧∀H',Same H H'→Q (.bl (ansB ((parts nsm es es.length).map fun r=>gh r b) ((c:Rat)/(b:Rat)) tied (decide (flag=1)) us num)) H'
noncomputable def spLaw (K:PySem.W.Frag):Sp:=fun vs H Q _=>∃(a:Addr) (ns:List Int),vs=[.ref a]∧SqL K H a (ns.map V.int)∧ns.length≤63∧∀H',Q (.bl true) H'
theorem law_parts {es:List En} {hs:List Nn} {b:Int} (h:es.map (·.2)=hs.map (fun x=>nworth b x.2)):Each2 (fun r r'=>r.map (·.2)=r'.map (·.2)) (parts smp es es.length) ((parts nsm hs hs.length).map fun r=>gh r b):=each2_mapR (runs_same h)
section
variable {P:Program} {w:World} {K:PySem.W.Frag} {mg:Str→Option Value} {base:Heap} {f:Addr} {fd:FuncData}
theorem sc_law_asks:FnScope ["_law_row_here","_law_bottom","_law_way","_law_limit","_law_number","_law_paper","_law_flag","_law_handed_here","_law_told","_law_found"] ["_law_row_here","_law_bottom","_law_way","_law_limit","_law_number","_law_paper","_law_flag"] (defScope s_law_asks):=⟨rfl,rfl,rfl,by decide +kernel,rfl,by decide +kernel,by decide +kernel⟩
theorem ok_law_asks (F:Fun K "_law_asks" "_law_asks" s_law_asks f fd) (T:Txt mg) (D_law_handed:Dn P w K mg base 2 "_law_handed" ["_law_row_here","_law_bottom"] spHanded) (D_law_copied:Dn P w K mg base 1 "_law_copied" ["_law_paper"] spCopied) (DB_shows:DnB P w K mg base 8 "shows" ["row","way","bound","number","paper","at"] spShows false):FnOk P w K mg base CX0 9 f fd ["_law_row_here","_law_bottom","_law_way","_law_limit","_law_number","_law_paper","_law_flag"] spAsks:=by
 have D_shows:=DB_shows.two
 refine F.ok sc_law_asks (fun vs H Q E h=>?_) (fun cdv A outer s H vs Q E hr h=>?_)
 ·obtain ⟨R,Z,pl,es,xs,us,b,c,num,flag,tied,rfl,_⟩:=h
  rfl
 obtain ⟨R,Z,pl,es,xs,us,b,c,num,flag,tied,rfl,hR,hes,hri,h8,hb,zb,hq,hZ,hE,hpv,hul,k⟩:=h
 have hu64:=hr.units
 generalize hans:ansB ((parts nsm es es.length).map fun r=>gh r b) ((c:Rat)/(b:Rat)) tied (decide (flag=1)) us num=ans at k
 refine J.q (Jd.cut 3 (fun σ H'=>∃(R1 D:Addr) (e1:List En) (ys:List Ent),σ=[some (.ref R),some (.int b),some (.str (wst tied)),some (.ref pl),some (.int num),some (.ref Z),some (.int flag),some (.ref R1),some (.ref D),some (.bl ans)]∧Same H H'∧H' R1=some (.lst (vals e1))∧Row H' e1 150∧e1.map (·.2)=es.map (fun x=>nworth b x.2)∧H' D=some (.lst (erefs ys))∧Each2 (EntD H') ys us) ?_ fun u hu hR'=>?_)
 ·refine ⟨_,(J.f (J.m (J.aa (Jd.pw_or (Jd.pt_not (J.ad (J.p (isiC K) rfl T.isinstance_ PyProof.Rows.boot_isinstance (J.b (J.a 9) (J.b (Jd.pe_ty rfl T.bool_ PyProof.Rows.boot_bool) J.d st_N) st_N) (he:=st_N) (hpl:=(anyc st_N any0))))) (Jd.pw_or (J.j (op_neD hu64) (J.a 8) (J.a 5) (nomark _)) (Jd.pw_or1 (J.j (op_neD hu64) (J.a 7) (J.l D_law_handed (hr.mono (by decide)) rfl (J.b (J.a 0) (J.b (J.a 1) J.d st_N) st_N) (he:=st_N) (hpl:=(anyc st_N any0))) (nomark _))))))
   (J.h (J.k J.u))
   J.o)
   (J.h (J.k (J.a 9)))),?_⟩
  rintro σ H1 ⟨R1,D,e1,ys,rfl,s1,eR1,hr1,hm1,eD,hE1⟩
  walk_at "v"
  refine r_isi (.bl _) kit_bb ?_
  walk_at "v"
  refine iteF ?_
  walk_at "v"
  refine ents_ne hE1 (each2_imp (fun _ _ _ f=>f.up s1) hE) eD (s1 _ _ hZ) ?_
  walk_at "v"
  refine iteF ?_
  walk_at "v"
  refine ⟨R,es,b,45,150,80,150,rfl,s1 _ _ hR,hes.up s1,by omega,hb,zb,by decide,by decide,by decide,by decide,fun R2 e2 H2 s2 n2 eR2 hr2 hm2=>?_⟩
  walk_at "v"
  refine rows_ne (hr1.up s2) hr2 (s2 _ _ eR1) eR2 (hm1.trans hm2.symm) ?_
  walk_at "v"
  refine iteF ?_
  walk_at "v"
  exact k H2 (s1.trans s2)
 refine ⟨_,(J.f (J.i (i:=7) sc_law_asks.nd rfl (Or.inl rfl) (J.l D_law_handed (hr.mono (by decide)) rfl (J.b (J.a 0) (J.b (J.a 1) J.d st_N) st_N) (he:=st_N) (hpl:=(anyc st_N any0))) (hs:=sw_K))
  (J.f (J.i (i:=8) sc_law_asks.nd rfl (Or.inl rfl) (J.l D_law_copied (hr.mono (by decide)) rfl (J.b (J.a 5) J.d st_N) (he:=st_N) (hpl:=any0)) (hs:=sw_K))
  (J.f (J.m (J.j op_eq (J.a 6) J.c (nomark _))
  (J.h (J.i (i:=9) sc_law_asks.nd rfl (Or.inl rfl) (Jd.pe_db DB_shows (hr.mono (by decide)) rfl (J.b (J.a 7) (J.b (J.a 2) (J.b (J.a 3) (J.b (J.a 4) (J.b (J.a 8) J.d st_N) st_N) st_N) st_N) st_N) (he:=st_N) (hpl:=(anyc st_N (anyc st_N (anyc st_N (anyc st_N any0)))))) (hs:=sw_K)))
  (J.h (J.m (J.j op_eq (J.a 6) J.c (nomark _))
  (J.h (J.i (i:=9) sc_law_asks.nd rfl (Or.inl rfl) (J.l D_shows (hr.mono (by decide)) rfl (J.b (J.a 7) (J.b (J.a 2) (J.b (J.a 3) (J.b (J.a 4) (J.b (J.a 8) (J.b J.ab J.d st_C) st_N) st_N) st_N) st_N) st_N) (he:=st_N) (hpl:=(anyc st_N (anyc st_N (anyc st_N (anyc st_N (anyc st_C any0))))))) (hs:=sw_K)))
  (J.h (J.i (i:=9) sc_law_asks.nd rfl (Or.inl rfl) (J.l D_shows (hr.mono (by decide)) rfl (J.b (J.a 7) (J.b (J.a 2) (J.b (J.a 3) (J.b (J.a 4) (J.b (J.a 8) (J.b J.ab J.d st_C) st_N) st_N) st_N) st_N) st_N) (he:=st_N) (hpl:=(anyc st_N (anyc st_N (anyc st_N (anyc st_N (anyc st_C any0))))))) (hs:=sw_K))))))
  hu))),?_⟩
 walk_at "v"
 refine ⟨R,es,b,45,150,80,150,rfl,hR,hes,by omega,hb,zb,by decide,by decide,by decide,by decide,fun R1 e1 H1 s1 n1 eR1 hr1 hm1=>?_⟩
 have hel:e1.length=es.length:=link_len hm1
 have hri1:=link_rising hm1 hri
 walk_at "v"
 refine ⟨Z,xs,us,rfl,s1 _ _ hZ,each2_imp (fun _ _ _ f=>f.up s1) hE,by omega,fun D ys H2 s2 nD eD hE2=>?_⟩
 have s02:=s1.trans s2
 have cg:∀at_,ansB (parts smp e1 e1.length) ((c:Rat)/(b:Rat)) tied at_ us num=ansB ((parts nsm es es.length).map fun r=>gh r b) ((c:Rat)/(b:Rat)) tied at_ us num:=fun at_=>by unfold ansB;rw [shT_congr (law_parts hm1)]
 have hsh:∀(at_:Bool) (Q':VK),at_=decide (flag=1)→(∀H',Same H2 H'→Q' (.bl ans) H')→spShows [.ref R1,.str (wst tied),.ref pl,.int num,.ref D,.bl at_] H2 Q' E0:=fun at_ Q' ea k'=>⟨R1,pl,D,ys,e1,us,150,150,_,tied,at_,num,rfl,s2 _ _ eR1,hr1.up s2,hri1,by omega,fun r hr=>Nat.le_trans (parts_item _ r hr) (by omega),hq.up s02,by decide,by decide,eD,hE2,fun v hv=>by have:=hpv v hv;exact ⟨by omega,by omega⟩,by omega,fun H' s'=>by
  show Q' (.bl (ansB (parts smp e1 e1.length) ((c:Rat)/(b:Rat)) tied at_ us num)) H'
  rw [cg,ea,hans]
  exact k' H' s'⟩
 have fin:∀H3,Same H2 H3→u { nx:=fun _ H'=>Q .non H',rt:=Q } [some (.ref R),some (.int b),some (.str (wst tied)),some (.ref pl),some (.int num),some (.ref Z),some (.int flag),some (.ref R1),some (.ref D),some (.bl ans)] H3:=fun H3 s3=>hR' _ _ ⟨R1,D,e1,ys,rfl,s02.trans s3,(s2.trans s3) _ _ eR1,hr1.up (s2.trans s3),hm1,s3 _ _ eD,each2_imp (fun _ _ _ f=>f.up s3) hE2⟩
 walk_at "v"
 refine ite2 (fun c0=>?_) (fun c0=>?_)
 ·have c0:flag=0:=of_decide_eq_true c0
  walk_at "v"
  exact hsh false _ (by rw [decide_eq_false (by omega)]) fun H3 s3=>fin H3 s3
 ·walk_at "v"
  refine ite2 (fun c1=>?_) (fun c1=>?_)
  ·have c1:flag=1:=of_decide_eq_true c1
   walk_at "v"
   exact hsh true _ (by rw [decide_eq_true c1]) fun H3 s3=>fin H3 s3
  ·have c1:¬flag=1:=of_decide_eq_false (Bool.eq_false_iff.mpr c1)
   walk_at "v"
   exact hsh false _ (by rw [decide_eq_false c1]) fun H3 s3=>fin H3 s3
theorem sc_law:FnScope ["_law_script","_law_row_here","_law_bottom","_law_bound","_law_parts","_law_limit","_law_way","_law_tied","_law_some","_law_flag","_law_paper","_law_due","_law_last","_law_number","_law_right","_law_telling"] ["_law_script"] (defScope s_law):=⟨rfl,rfl,rfl,by decide +kernel,rfl,by decide +kernel,by decide +kernel⟩
theorem ok_law (F:Fun K "law" "law" s_law f fd) (T:Txt mg) (D_law_drawn:Dn P w K mg base 4 "_law_drawn" ["_law_script","_law_place","_law_most","_law_share"] (spDrawn4 K)) (D_law_runs:Dn P w K mg base 1 "_law_runs" ["_law_row_here"] spNRuns) (D_law_ratio:Dn P w K mg base 1 "_law_ratio" ["_law_top","_law_bottom"] spRatio) (D_law_row:Dn P w K mg base 3 "_law_row" ["_law_script","_law_place","_law_sizes"] (spRow K)) (D_law_claim:Dn P w K mg base 5 "_law_claim" ["_law_part","_law_bound","_law_tied","_law_pick"] spClaim) (D_law_bent:Dn P w K mg base 2 "_law_bent" ["_law_paper","_law_row_here","_law_some"] spBent)
 (D_law_shown_tied:Dn P w K mg base 4 "_law_shown_tied" ["_law_parts","_law_bound","_law_paper","_law_tied","_law_at"] spShownTied) (D_law_asks:Dn P w K mg base 9 "_law_asks" ["_law_row_here","_law_bottom","_law_way","_law_limit","_law_number","_law_paper","_law_flag"] spAsks) (D_law_handed:Dn P w K mg base 2 "_law_handed" ["_law_row_here","_law_bottom"] spHanded) (D_fewest:Dn P w K mg base 10 "fewest" ["row","way","bound"] spFewT):FnOk P w K mg base CX0 12 f fd ["_law_script"] (spLaw K):=by
 refine F.ok sc_law (fun vs H Q E h=>?_) (fun cdv A outer s H vs Q E hr h=>?_)
 ·obtain ⟨a,ns,rfl,_⟩:=h
  rfl
 obtain ⟨a,ns,rfl,hS,hn,k⟩:=h
 have hu64:=hr.units
 refine J.q ⟨_,(J.f (J.ah (J.l D_law_drawn (hr.mono (by decide)) rfl (J.b (J.a 0) (J.b J.c (J.b J.c (J.b J.c J.d st_C) st_C) st_C) st_N) (he:=st_N) (hpl:=(anyc st_C (anyc st_C (anyc st_C any0))))) (Jd.pgT K (n:=3) rfl (J.v (J.n (i:=1) sc_law.nd rfl (Or.inl rfl)) (J.v (J.n (i:=2) sc_law.nd rfl (Or.inl rfl)) (J.v (J.n (i:=3) sc_law.nd rfl (Or.inr rfl)) J.ae)))))
  (J.f (J.i (i:=4) sc_law.nd rfl (Or.inl rfl) (J.l D_law_runs (hr.mono (by decide)) rfl (J.b (J.a 1) J.d st_N) (he:=st_N) (hpl:=any0)) (hs:=sw_K))
  (J.f (J.i (i:=5) sc_law.nd rfl (Or.inl rfl) (J.l D_law_ratio (hr.mono (by decide)) rfl (J.b (J.a 3) (J.b (J.a 2) J.d st_N) st_N) (he:=st_N) (hpl:=(anyc st_N any0))) (hs:=sw_K))
  (J.f (J.t PassesOwn.never rfl (J.w K (J.s (J.b Jd.pe_str (J.b Jd.pe_str J.d st_C) st_C))) (J.n (i:=6) sc_law.nd rfl (Or.inl rfl))
  (J.f (J.i (i:=7) sc_law.nd rfl (Or.inr rfl) (J.ac op_eq (J.a 6) Jd.pe_str (nomark _)) (hs:=sw_Q))
  (J.f (J.i (i:=8) sc_law.nd rfl (Or.inr rfl) (J.l D_law_row (hr.mono (by decide)) rfl (J.b (J.a 0) (J.b (J.g op_add J.c (J.af call_int1 rfl T.int_ PyProof.Rows.boot_int (J.b (J.a 7) J.d st_N))) (J.b (J.s (J.b J.c (J.b J.c (J.b J.c (J.b J.c (J.b J.c (J.b J.c (J.b J.c (J.b J.c J.d st_C) st_C) st_C) st_C) st_C) st_C) st_C) st_C)) J.d st_L) st_B) st_N) (he:=st_N) (hpl:=(anyc st_B (anyc st_L any0)))) (hs:=sw_K))
  (J.f (J.i (i:=9) sc_law.nd rfl (Or.inl rfl) (J.e (ixL K) (J.a 8) J.c (fun _ _=>rfl)) (hs:=sw_S))
  (J.f (J.an (O:=["_law_part"]) (N':=["_law_tied","_law_bound","_law_some"]) (cap:=[7,3,8]) (i:=10) sc_law.nd rfl (Or.inl rfl) rfl (J.w K (J.a 4)) (fun _ _ _ _ _=>(J.n (i:=0) (show List.Nodup [("_law_part":Str),("_law_tied":Str),("_law_bound":Str),("_law_some":Str)] by decide +kernel) rfl (Or.inl rfl))) (fun _ _ _ _ _=>J.ag) (fun _ _ _ _ _=>(J.l D_law_claim (hr.mono (by decide)) rfl (J.b (J.a 0) (J.b (J.r (J.b (J.a 2) (J.b J.c J.d st_C) st_N)) (J.b (J.a 1) (J.b (J.e (ixL K) (J.a 3) J.c (fun _ _=>rfl)) J.d st_S) st_N) st_T) st_N) (he:=st_N) (hpl:=(anyc st_T (anyc st_N (anyc st_S any0)))))) rfl ⟨⟨rfl,rfl,rfl,rfl⟩,⟨⟨rfl,rfl,rfl,rfl⟩,⟨⟨rfl,rfl,rfl,rfl⟩,trivial⟩⟩⟩ rfl (by decide +kernel) rfl (by decide +kernel) (by rfl))
  (J.f (J.i (i:=10) sc_law.nd rfl (Or.inl rfl) (J.l D_law_bent (hr.mono (by decide)) rfl (J.b (J.a 10) (J.b (J.a 1) (J.b (J.a 8) J.d st_N) st_N) st_N) (he:=st_N) (hpl:=(anyc st_N (anyc st_N any0)))) (hs:=sw_K))
  (J.f (J.i (i:=11) sc_law.nd rfl (Or.inl rfl) (J.l D_law_shown_tied (hr.mono (by decide)) rfl (J.b (J.a 4) (J.b (J.r (J.b (J.a 3) (J.b J.c J.d st_C) st_N)) (J.b (J.a 10) (J.b (J.a 7) (J.b (J.ac op_eq (J.a 9) J.c (nomark _)) J.d st_Q) st_N) st_N) st_T) st_N) (he:=st_N) (hpl:=(anyc st_T (anyc st_N (anyc st_N (anyc st_Q any0)))))) (hs:=sw_K))
  (J.f (J.i (i:=12) sc_law.nd rfl (Or.inl rfl) (J.p (lenC K) rfl T.len_ PySem.boot_len (J.b (J.a 4) J.d st_N) (he:=st_N) (hpl:=any0)) (hs:=sw_K))
  (J.f (J.m (J.j op_notN (J.a 11) J.u (nomark _))
  (J.h (J.i (i:=12) sc_law.nd rfl (Or.inl rfl) (J.a 11) (hs:=sw_N)))
  J.o)
  (J.f (J.t PassesOwn.never rfl (J.w K (J.s (J.b (J.z un_neg J.c) (J.b (J.a 12) (J.b (J.g op_add (J.a 12) J.c) J.d st_B) st_N) st_U))) (J.n (i:=13) sc_law.nd rfl (Or.inl rfl))
  (J.f (J.i (i:=14) sc_law.nd rfl (Or.inl rfl) (Jd.pe_and (J.ac op_notN (J.a 11) J.u (nomark _)) (Jd.pe_one (J.ac op_le (J.a 13) (J.a 11) (nomark _)))))
  (J.h (J.m (J.j op_ne (J.l D_law_asks (hr.mono (by decide)) rfl (J.b (J.a 1) (J.b (J.a 2) (J.b (J.a 6) (J.b (J.a 5) (J.b (J.a 13) (J.b (J.a 10) (J.b (J.a 9) J.d st_N) st_N) st_N) st_N) st_N) st_N) st_N) (he:=st_N) (hpl:=(anyc st_N (anyc st_N (anyc st_N (anyc st_N (anyc st_N (anyc st_N any0)))))))) (J.a 14) (nomark _))
  (J.h (J.k J.ab))
  J.o))))
  (J.f (J.ah (J.l D_fewest (hr.mono (by decide)) rfl (J.b (J.l D_law_handed (hr.mono (by decide)) rfl (J.b (J.a 1) (J.b (J.a 2) J.d st_N) st_N) (he:=st_N) (hpl:=(anyc st_N any0))) (J.b (J.a 6) (J.b (J.a 5) J.d st_N) st_N) st_K) (he:=st_K) (hpl:=(anyc st_N (anyc st_N any0)))) (Jd.pgT K (n:=2) rfl (J.v (J.n (i:=15) sc_law.nd rfl (Or.inl rfl)) (J.v (J.n (i:=10) sc_law.nd rfl (Or.inl rfl)) J.ae))))
  (J.f (J.m (J.j op_ne (J.l D_law_shown_tied (hr.mono (by decide)) rfl (J.b (J.a 4) (J.b (J.r (J.b (J.a 3) (J.b J.c J.d st_C) st_N)) (J.b (J.a 10) (J.b (J.a 7) (J.b J.ab J.d st_C) st_N) st_N) st_T) st_N) (he:=st_N) (hpl:=(anyc st_T (anyc st_N (anyc st_N (anyc st_C any0)))))) (J.p (lenC K) rfl T.len_ PySem.boot_len (J.b (J.a 15) J.d st_N) (he:=st_N) (hpl:=any0)) (nomark _))
  (J.h (J.k J.ab))
  J.o)
  (J.f (J.m (J.j op_notB (J.l D_law_asks (hr.mono (by decide)) rfl (J.b (J.a 1) (J.b (J.a 2) (J.b (J.a 6) (J.b (J.a 5) (J.b (J.p (lenC K) rfl T.len_ PySem.boot_len (J.b (J.a 15) J.d st_N) (he:=st_N) (hpl:=any0)) (J.b (J.a 10) (J.b J.c J.d st_C) st_N) st_K) st_N) st_N) st_N) st_N) (he:=st_N) (hpl:=(anyc st_N (anyc st_N (anyc st_N (anyc st_K (anyc st_N (anyc st_C any0)))))))) J.ab (nomark _))
  (J.h (J.k J.ab))
  J.o)
  (J.h (J.m (J.j op_notB (J.l D_law_asks (hr.mono (by decide)) rfl (J.b (J.a 1) (J.b (J.a 2) (J.b (J.a 6) (J.b (J.a 5) (J.b (J.g op_add (J.p (lenC K) rfl T.len_ PySem.boot_len (J.b (J.a 15) J.d st_N) (he:=st_N) (hpl:=any0)) J.c) (J.b (J.a 10) (J.b (J.e (ixL K) (J.a 8) J.c (fun _ _=>rfl)) J.d st_S) st_N) st_B) st_N) st_N) st_N) st_N) (he:=st_N) (hpl:=(anyc st_N (anyc st_N (anyc st_N (anyc st_B (anyc st_N (anyc st_S any0)))))))) J.ab (nomark _))
  (J.h (J.k J.ab))
  J.o)))))))))))))))
  (J.h (J.k J.ab)))))),?_⟩
 walk_at "v"
 refine r_asg ?_
 walk_at "v"
 refine ⟨a,ns,0,8,1,rfl,hS,by decide,by decide,by decide,by decide,by decide,fun p R es b c H1 s1 e1 n1 eR hes h8 hri hb zb hc zc=>?_⟩
 refine r_unpack3 e1 ?_
 walk_at "v"
 refine ⟨R,es,45,150,rfl,eR,hes,by omega,fun D ls H2 s2 nD eD hls hmap=>?_⟩
 have hln:ls.length=(parts nsm es es.length).length:=by rw [← hmap,List.length_map]
 have hl8:ls.length≤8:=by rw [hln];exact Nat.le_trans (parts_len _) h8
 have hrn:∀x∈ls,x.2≠[]∧(∀y∈x.2,nsm y=true)∧x.2.Sublist es:=fun x hx=>by
  have hm:x.2∈parts nsm es es.length:=by rw [← hmap];exact List.mem_map.mpr ⟨x,hx,rfl⟩
  obtain ⟨q1,q2,q3⟩:=parts_own _ x.2 hm
  rw [List.take_length] at q3
  exact ⟨q1,q2,q3⟩
 have hNR:∀{H':Hp},Same H2 H'→∀x∈ls,NR H' x.1 x.2∧1≤x.2.length:=fun {H'} s' x hx=>by
  obtain ⟨q1,q2,q3⟩:=hrn x hx
  exact ⟨⟨s' _ _ (hls x hx).2,fun y hy=>let ⟨w1,w2,w3⟩:=(hes.up (s2.trans s')) y (q3.subset hy);⟨w1,w2.mono (by decide),w3⟩,q2,hri.sublist q3,by have:=q3.length_le;omega⟩,List.length_pos_iff.mpr q1⟩
 have s02:=s1.trans s2
 walk_at "v"
 refine ⟨c,b,rfl,by omega,zb.mono (by decide),fun pl t' b' H3 s3 e3 lo=>?_⟩
 have hfr:FrAt H3 pl ((c:Rat)/(b:Rat)) 150:=⟨t',b',e3,of_low' lo (by omega),Nat.lt_of_le_of_lt lo.tb zc,Nat.lt_of_le_of_lt lo.bb (zb.mono (by decide))⟩
 have hβ:=div_nn hc hb
 have s03:=s02.trans s3
 have s13:=s2.trans s3
 walk_at "v"
 refine r_for (r_iL ?_)
 walk_at "v"
 refine r_new (mk:=.lst) (by simp) fun W H4 s4 n4 e4=>?_
 have s04:=s03.trans s4
 have s24:=s3.trans s4
 have s14:=s2.trans s24
 refine ⟨W,rfl,⟨_,SqL.of e4⟩,for_list (xs:=[V.str (Str.ofString "spans"),V.str (Str.ofString "chain")]) (fun i σ H5=>Same H4 H5∧∃v6 v7 v8 v9 v10 v11 v12 v13 v14 v15:Option V,σ=[some (.ref a),some (.ref R),some (.int b),some (.int c),some (.ref D),some (.ref pl),v6,v7,v8,v9,v10,v11,v12,v13,v14,v15]) ⟨Same.refl _,none,none,none,none,none,none,none,none,none,none,rfl⟩ ?_ ?_ ?_⟩
 ·rintro i σ H5 _ ⟨s5,_⟩
  exact SqL.of (s5 _ _ e4)
 ·rintro i v σ H5 hv ⟨s5,v6,v7,v8,v9,v10,v11,v12,v13,v14,v15,rfl⟩
  obtain ⟨tied,rfl⟩:∃tied:Bool,v=.str (wst tied):=by
   have hi:i=0∨i=1:=by have:=(List.getElem?_eq_some_iff.mp hv).1;simp at this;omega
   rcases hi with rfl | rfl
   ·exact ⟨false,show v=V.str (Str.ofString "spans") by simpa using hv.symm⟩
   ·exact ⟨true,show v=V.str (Str.ofString "chain") by simpa using hv.symm⟩
  refine body_cut fun MM BB RR hMM _ _=>?_
  have s05:=s04.trans s5
  have s25:=s24.trans s5
  have s15:=s14.trans s5
  walk_at "v"
  refine r_eqs ?_
  rw [show decide (wst tied=Str.ofString "chain")=tied by cases tied <;> decide]
  walk_at "v"
  refine .inr ⟨_,rfl,?_⟩
  walk_at "v"
  refine r_new (mk:=.lst) (by simp) fun l6 H6 s6 n6 e6=>?_
  walk_at "v"
  refine ⟨a,ns,_,l6,szP,rfl,(s05.trans s6).seq hS,by split <;> omega,by split <;> omega,e6,by decide,by decide,fun lr xs H7 s7 n7 e7 hlen hxs=>?_⟩
  have hW:Rw H7 lr xs:=⟨e7,hlen,hxs⟩
  obtain ⟨x5,g5,a5,b5⟩:=row_get hlen hxs 5 rfl
  obtain ⟨x6,g6,a6,b6⟩:=row_get hlen hxs 6 rfl
  obtain ⟨x7,g7,a7,b7⟩:=row_get hlen hxs 7 rfl
  have s57:=s6.trans s7
  have s07:=s05.trans s57
  have s27:=s25.trans s57
  have s17:=s15.trans s57
  walk_at "v"
  refine r_l e7 (at_ints g5 rfl) ?_
  walk_at "v"
  refine r_iL ?_
  walk_at "v"
  have eD7:=s27 _ _ eD
  refine ⟨D,rfl,⟨_,SqL.of eD7⟩,?_⟩
  have hβs:(ls.map fun x=>gh x.2 b)=(parts nsm es es.length).map fun r=>gh r b:=by rw [← hmap,List.map_map];rfl
  generalize hrs:((parts nsm es es.length).map fun r=>gh r b)=rs at hβs
  refine compB_of (xs:=ls.map fun x=>V.ref x.1) tells_list (fun G' sG'=>SqL.of (sG' _ _ eD7)) (by rw [List.length_map];omega) (fun j ys G=>∃(ents:List Ent) (us:List Pv2),ys=erefs ents∧Each2 (EntD G) ents us∧us.length=j∧pvB us 40 970) ⟨[],[],rfl,trivial,rfl,fun v hv=>absurd hv (by simp)⟩ ?_ ?_
  ·rintro D' j v ys G1 σ0 NN N0 h0 hD' eD' sG1 hv hy ⟨ents,us,rfl,hE,hul,hpv⟩ kY kN
   rw [List.getElem?_map] at hv
   obtain ⟨x,gx,rfl⟩:=Option.map_eq_some_iff.mp hv
   refine r_own1 h0 ?_
   walk_at "v"
   refine iteT ?_
   walk_at "v"
   refine r_new (mk:=.tup) (by simp) fun pb G2 t2 n2' f2=>?_
   have sG2:=sG1.trans t2
   walk_at "v"
   refine r_l (sG2 _ _ e7) (at_ints g7 rfl) ?_
   walk_at "v"
   obtain ⟨N1,N2⟩:=hNR (s27.trans sG2) x (List.mem_of_getElem? gx)
   refine ⟨x.1,pb,x.2,c,x7,tied,rfl,N1,N2,f2,zc,a7,fun en v G3 t3 hen m1 m2 hvl hvt=>?_⟩
   have t13:=t2.trans t3
   have eD3:=t13 _ _ eD'
   have d1:en.2.1≠D':=fun z=>by rw [z,t2 _ _ eD'] at m1;cases m1
   have d2:en.2.2≠D':=fun z=>by rw [z,t2 _ _ eD'] at m2;cases m2
   have hsh:=shft_le tied
   have hxl:x.2.length≤8:=Nat.le_trans (hrn x (List.mem_of_getElem? gx)).2.2.length_le h8
   refine kY _ G3 t13 ⟨ents++[en],us++[v],by unfold erefs;rw [List.map_append];rfl,each2_snoc (each2_imp (fun _ _ _ f=>f.mv (fun e=>rm_rm t13 _ _ e) (fun e=>rm_rm t13 _ _ e) (fun e=>rm_rm t13 _ _ e)) hE) (hen.mv (fun e=>rm_tup eD3 e) (fun e=>(rm_at d1).trans e) (fun e=>(rm_at d2).trans e)),by rw [List.length_append,hul];rfl,fun w hw=>?_⟩
   rcases List.mem_append.mp hw with z | z
   ·exact hpv w z
   ·obtain rfl:w=v:=by simpa using z
    exact ⟨by omega,by omega,by omega⟩
  rintro P0 ys H8 nP eP s8 hy ⟨ents,us,rfl,hE,hul,hpv⟩
  rw [List.length_map] at hul
  have hE8:=each2_imp (S:=EntD H8) (fun _ _ _ f=>f.mv (fun e=>rm_same _ _ e) (fun e=>rm_same _ _ e) (fun e=>rm_same _ _ e)) hE
  have s18:=s17.trans s8
  have s28:=s27.trans s8
  walk_at "v"
  refine ⟨P0,R,lr,ents,us,es,xs,rfl,eP,hE8,by omega,hpv,s18 _ _ eR,hes.up s18,fun hne=>?_,by omega,hW.up s8,fun Z2 zs ws H9 s9 eZ2 hE9 hpv9 hwl=>?_⟩
  ·have:us.length≠0:=fun z=>hne (List.eq_nil_of_length_eq_zero z)
   have:=parts_len (s:=nsm) (es:=es) es.length
   omega
  have s19:=s18.trans s9
  have s29:=s28.trans s9
  walk_at "v"
  refine r_new (mk:=.tup) (by simp) fun pb H10 s10 n10 e10=>?_
  have s1a:=s19.trans s10
  have s2a:=s29.trans s10
  have hEa:=each2_imp (S:=EntD H10) (fun _ _ _ f=>f.up s10) hE9
  have eZa:=s10 _ _ eZ2
  walk_at "v"
  refine ⟨D,pb,Z2,ls,zs,ws,b,c,tied,decide (x5=1),rfl,s2a _ _ eD,hNR s2a,by omega,eZa,hEa,fun v hv=>by have:=hpv9 v hv;exact ⟨by omega,by omega⟩,by omega,e10,zc,hb,fun H11 s11=>?_⟩
  rw [hβs]
  have s1b:=s1a.trans s11
  have s2b:=s2a.trans s11
  have s5b:=s57.trans (s8.trans (s9.trans (s10.trans s11)))
  have hEb:=each2_imp (S:=EntD H11) (fun _ _ _ f=>f.up s11) hEa
  have eZb:=s11 _ _ eZa
  generalize ho:shT rs ((c:Rat)/(b:Rat)) tied (decide (x5=1)) ws=o
  have hasks:∀(num fl:Int) (Z:Addr) (xs:List Ent) (us:List Pv2) (H':Hp) (Q':VK),Same H11 H'→H' Z=some (.lst (erefs xs))→Each2 (EntD H') xs us→pvC us 41 972→us.length≤41→(∀H'',Same H' H''→Q' (.bl (ansB rs ((c:Rat)/(b:Rat)) tied (decide (fl=1)) us num)) H'')→spAsks ([.ref R,.int b,.str (wst tied),.ref pl,.int num,.ref Z,.int fl]++[]) H' Q' E0:=fun num fl Z xs us H' Q' s' eZ hE' hp' hl' k'=>⟨R,Z,pl,es,xs,us,b,c,num,fl,tied,rfl,(s1b.trans s') _ _ eR,hes.up (s1b.trans s'),hri,h8,hb,zb,(hfr.up (s4.trans (s5.trans (s5b.trans s')))).qt,eZ,hE',hp',hl',by rw [hrs];exact k'⟩
  walk_at "v"
  refine r_len (.inl (SqL.of (s2b _ _ eD))) ?_
  rw [List.length_map]
  dsimp only
  with_reducible refine seq_cut (fun σ' H'=>(∃q:Int,σ'=[some (.ref a),some (.ref R),some (.int b),some (.int c),some (.ref D),some (.ref pl),some (.str (wst tied)),some (.bl tied),some (.ref lr),some (.int x5),some (.ref Z2),some (dueV o),some (.int q),v13,v14,v15])∧H'=H11) ?_ ?_
  ·rintro σ' H' ⟨⟨q,rfl⟩,rfl⟩
   walk_at "v"
   refine r_for (r_iL ?_)
   walk_at "v"
   refine r_new (mk:=.lst) (by simp) fun W2 H12 s12 n12 e12=>?_
   refine ⟨W2,rfl,⟨_,SqL.of e12⟩,for_list (xs:=[V.int (-3),V.int q,V.int (q+1)]) (fun i σ H13=>Same H12 H13∧∃v13 v14:Option V,σ=[some (.ref a),some (.ref R),some (.int b),some (.int c),some (.ref D),some (.ref pl),some (.str (wst tied)),some (.bl tied),some (.ref lr),some (.int x5),some (.ref Z2),some (dueV o),some (.int q),v13,v14,v15]) ⟨Same.refl _,_,_,rfl⟩ ?_ ?_ ?_⟩
   ·rintro i σ H13 _ ⟨s13,_⟩
    exact SqL.of (s13 _ _ e12)
   ·rintro i v σ H13 hv ⟨s13',w13,w14,rfl⟩
    obtain ⟨num,rfl⟩:∃num:Int,v=.int num:=by
     have hm:=List.mem_of_getElem? hv
     simp only [List.mem_cons,List.not_mem_nil,or_false] at hm
     rcases hm with z | z | z <;> exact ⟨_,z⟩
    have sb13:=s12.trans s13'
    refine body_cut fun M2 B2 R2 hM2 _ _=>?_
    have sx:∀(Q':VK),(∀H'',Same H13 H''→Q' (.bl (ansB rs ((c:Rat)/(b:Rat)) tied (decide (x5=1)) ws num)) H'')→spAsks ([.ref R,.int b,.str (wst tied),.ref pl,.int num,.ref Z2,.int x5]++[]) H13 Q' E0:=fun Q' k'=>hasks num x5 Z2 zs ws H13 Q' sb13 (sb13 _ _ eZb) (each2_imp (fun _ _ _ f=>f.up sb13) hEb) hpv9 hwl k'
    cases o with
    | none=>
      walk_at "v"
      refine ⟨rfl,?_⟩
      walk_at "v"
      refine iteF ?_
      walk_at "v"
      refine sx _ fun H'' s''=>?_
      rw [show ansB rs ((c:Rat)/(b:Rat)) tied (decide (x5=1)) ws num=false by unfold ansB;rw [ho]]
      walk_at "v"
      refine ⟨rfl,?_⟩
      rw [decide_eq_true rfl]
      walk_at "v"
      refine iteF ?_
      walk_at "v"
      exact hM2 _ _ ⟨s13'.trans s'',_,_,rfl⟩
    | some m=>
      dsimp only [dueV]
      walk_at "v"
      refine ⟨rfl,?_⟩
      walk_at "v"
      refine iteT ?_
      walk_at "v"
      refine sx _ fun H'' s''=>?_
      rw [show ansB rs ((c:Rat)/(b:Rat)) tied (decide (x5=1)) ws num=decide (num≤m) by unfold ansB;rw [ho]]
      walk_at "v"
      refine ⟨rfl,?_⟩
      rw [decide_eq_true rfl]
      walk_at "v"
      refine iteF ?_
      walk_at "v"
      exact hM2 _ _ ⟨s13'.trans s'',_,_,rfl⟩
   ·rintro σ H13 ⟨s13',w13,w14,rfl⟩
    have sb13:=s12.trans s13'
    have s1c:=s1b.trans sb13
    have s2c:=s2b.trans sb13
    walk_at "v"
    refine r_asg ?_
    walk_at "v"
    refine ⟨R,es,b,45,150,80,150,rfl,s1c _ _ eR,hes.up s1c,by omega,hb,zb,by decide,by decide,by decide,by decide,fun R1 e1' H14 s14' n14 eR1 hr1 hm1=>?_⟩
    have hel:e1'.length=es.length:=link_len hm1
    have s1d:=s1c.trans s14'
    have s2d:=s2c.trans s14'
    have sbd:=sb13.trans s14'
    walk_at "v"
    refine ⟨R1,pl,e1',150,150,_,tied,rfl,eR1,hr1,link_rising hm1 hri,by omega,Nat.le_trans (parts_len _) (by omega),fun r hr'=>Nat.le_trans (parts_item _ r hr') (by omega),(hfr.up (s4.trans (s5.trans (s5b.trans sbd)))).qt,hβ,by decide,by decide,by decide,fun y X Z ps H15 s15' ey eX hpl hTi ents2 eZ hEn=>?_⟩
    obtain ⟨qss,hqs,hfl⟩:=hTi
    rw [List.take_of_length_le (Nat.le_refl _)] at hqs
    obtain ⟨us2,u1,u2,u3,u4⟩:=ents_shown hβ hEn hqs fun r hr'=>by
     obtain ⟨w1,w2,w3⟩:=parts_own _ r hr'
     exact ⟨List.length_pos_iff.mpr w1,Nat.le_trans (parts_item _ r hr') (by omega)⟩
    have hT2:∀at_,shT rs ((c:Rat)/(b:Rat)) tied at_ us2=some (ps.length:Int):=fun at_=>by
     rw [← hrs,← shT_congr (law_parts hm1)]
     unfold shT
     rw [if_neg (fun z=>z (each2_len (u2 at_)).symm),zip_all (u2 at_) u3,allO_lens,← hfl,List.length_map]
    have hul2:us2.length≤40:=by
     have w1:=each2_len (u2 false)
     have w2:=parts_len (s:=smp) (es:=e1') e1'.length
     omega
    have hpc:pvC us2 41 972:=fun v hv=>by have:=u4 v hv;exact ⟨by omega,by omega⟩
    have sbe:=sbd.trans s15'
    have s2e:=s2d.trans s15'
    refine r_unpack2 ey ?_
    walk_at "v"
    refine r_new (mk:=.tup) (by simp) fun pb2 H16 s16 n16 e16=>?_
    have u16:=each2_imp (S:=EntD H16) (fun _ _ _ f=>f.up s16) u1
    walk_at "v"
    refine ⟨D,pb2,Z,ls,ents2,us2,b,c,tied,false,rfl,(s2e.trans s16) _ _ eD,hNR (s2e.trans s16),by omega,s16 _ _ eZ,u16,fun v hv=>by have:=u4 v hv;exact ⟨by omega,by omega⟩,by omega,e16,zc,hb,fun H17 s17'=>?_⟩
    have s67:=s16.trans s17'
    have sbf:=sbe.trans s67
    have u17:=each2_imp (S:=EntD H17) (fun _ _ _ f=>f.up s67) u1
    rw [hβs,hT2]
    dsimp only [dueV]
    walk_at "v"
    refine r_len (.inl (SqL.of (s67 _ _ eX))) ?_
    rw [prefs_len]
    walk_at "v"
    rw [decide_eq_true rfl]
    refine iteF ?_
    walk_at "v"
    refine r_len (.inl (SqL.of (s67 _ _ eX))) ?_
    rw [prefs_len]
    walk_at "v"
    refine hasks _ 0 Z ents2 us2 H17 _ sbf (s67 _ _ eZ) u17 hpc (by omega) fun H18 s18'=>?_
    have a1:ansB rs ((c:Rat)/(b:Rat)) tied (decide ((0:Int)=1)) us2 (ps.length:Int)=true:=by
     unfold ansB
     rw [hT2]
     exact decide_eq_true (Int.le_refl _)
    rw [a1]
    walk_at "v"
    refine ⟨true,true,rfl,rfl,?_⟩
    walk_at "v"
    refine iteF ?_
    walk_at "v"
    have s68:=s67.trans s18'
    have sbg:=sbe.trans s68
    refine r_len (.inl (SqL.of (s68 _ _ eX))) ?_
    rw [prefs_len]
    walk_at "v"
    refine r_l ((s8.trans (s9.trans (s10.trans (s11.trans sbg)))) _ _ e7) (at_ints g6 rfl) ?_
    walk_at "v"
    refine hasks _ x6 Z ents2 us2 H18 _ sbg (s68 _ _ eZ) (each2_imp (fun _ _ _ f=>f.up s68) u1) hpc (by omega) fun H19 s19'=>?_
    have a2:ansB rs ((c:Rat)/(b:Rat)) tied (decide (x6=1)) us2 ((ps.length:Int)+1)=false:=by
     unfold ansB
     rw [hT2]
     exact decide_eq_false (by omega)
    rw [a2]
    walk_at "v"
    refine ⟨false,false,rfl,rfl,?_⟩
    walk_at "v"
    refine iteF ?_
    walk_at "v"
    exact hMM _ _ ⟨s5b.trans (sbg.trans s19') |> fun z=>s5.trans z,_,_,_,_,_,_,_,_,_,_,rfl⟩
  ·intro NN kN
   cases o with
   | none=>
     walk_at "v"
     refine ⟨rfl,?_⟩
     walk_at "v"
     refine iteF ?_
     walk_at "v"
     exact kN _ _ ⟨⟨_,rfl⟩,rfl⟩
   | some m=>
     dsimp only [dueV]
     walk_at "v"
     refine ⟨rfl,?_⟩
     walk_at "v"
     refine iteT ?_
     walk_at "v"
     exact kN _ _ ⟨⟨_,rfl⟩,rfl⟩
 ·rintro σ H5 ⟨s5,v6,v7,v8,v9,v10,v11,v12,v13,v14,v15,rfl⟩
  walk_at "v"
  exact k H5
end


theorem all_mk {l:PySem.W.OpenLaw} {w:World} {K:PySem.W.Frag} {h:Heap} {mg:Str→Option Value} {fa:Addr} (X:K.In h) (G:h.Ns mainGlobals mg) (hfa:mg "law"=some (.ref fa)) {tk_HEAD:Tok} {tk_MOST:Tok} {g_WAYS:Addr}
 (h_law_cell:Fx K "_law_cell" s_law_cell)
 (h_law_mix:Fx K "_law_mix" s_law_mix)
 (h_law_row:Fx K "_law_row" s_law_row)
 (h_law_ratio:Fx K "_law_ratio" s_law_ratio)
 (h_plain_divisor:Fx K "plain_divisor" s_plain_divisor)
 (h_steps_of_heads:Fx K "steps_of_heads" s_steps_of_heads)
 (h_divisor:Fx K "divisor" s_divisor)
 (h_loose_plus:Fx K "loose_plus" s_loose_plus)
 (h_loose_minus:Fx K "loose_minus" s_loose_minus)
 (h_loose_times:Fx K "loose_times" s_loose_times)
 (h_loose_slope:Fx K "loose_slope" s_loose_slope)
 (h_loose_along:Fx K "loose_along" s_loose_along)
 (h_order:Fx K "order" s_order)
 (h_size:Fx K "size" s_size)
 (h_loose_stand:Fx K "loose_stand" s_loose_stand)
 (h_runs:Fx K "runs" s_runs)
 (h_law_shaped:Fx K "_law_shaped" s_law_shaped)
 (h_law_times:Fx K "_law_times" s_law_times)
 (h_law_picked:Fx K "_law_picked" s_law_picked)
 (h_law_drawn:Fx K "_law_drawn" s_law_drawn)
 (h_loose_farthest:Fx K "loose_farthest" s_loose_farthest)
 (h_law_handed:Fx K "_law_handed" s_law_handed)
 (h_law_stand:Fx K "_law_stand" s_law_stand)
 (h_greatest:Fx K "greatest" s_greatest)
 (h_smallest:Fx K "smallest" s_smallest)
 (h_good_behind:Fx K "good_behind" s_good_behind)
 (h_leaps:Fx K "leaps" s_leaps)
 (h_labels_by:Fx K "labels_by" s_labels_by)
 (h_bars_by:Fx K "bars_by" s_bars_by)
 (h_places_of_pieces:Fx K "places_of_pieces" s_places_of_pieces)
 (h_piece_between:Fx K "piece_between" s_piece_between)
 (h_tied_run:Fx K "tied_run" s_tied_run)
 (h_tied_row:Fx K "tied_row" s_tied_row)
 (h_spans:Fx K "spans" s_spans)
 (h_chain:Fx K "chain" s_chain)
 (h_law_runs:Fx K "_law_runs" s_law_runs)
 (h_is_fraction:Fx K "is_fraction" s_is_fraction)
 (h_is_wrong:Fx K "is_wrong" s_is_wrong)
 (h_checked:Fx K "checked" s_checked)
 (h_check_way:Fx K "check_way" s_check_way)
 (h_check_bound:Fx K "check_bound" s_check_bound)
 (h_told_by:Fx K "told_by" s_told_by)
 (h_fewest:Fx K "fewest" s_fewest)
 (h_known_of:Fx K "known_of" s_known_of)
 (h_samples_of_three:Fx K "samples_of_three" s_samples_of_three)
 (h_is_good:Fx K "is_good" s_is_good)
 (h_barred_pairs:Fx K "barred_pairs" s_barred_pairs)
 (h_pieces_of_run:Fx K "pieces_of_run" s_pieces_of_run)
 (h_pieces_by_numbers:Fx K "pieces_by_numbers" s_pieces_by_numbers)
 (h_shows:Fxb K "shows" s_shows false)
 (h_law_spots:Fx K "_law_spots" s_law_spots)
 (h_law_worthy:Fx K "_law_worthy" s_law_worthy)
 (h_law_shut:Fx K "_law_shut" s_law_shut)
 (h_law_numbers:Fx K "_law_numbers" s_law_numbers)
 (h_law_claim:Fx K "_law_claim" s_law_claim)
 (h_law_shown_run:Fx K "_law_shown_run" s_law_shown_run)
 (h_law_shown_tied:Fx K "_law_shown_tied" s_law_shown_tied)
 (h_law_bent_numbers:Fx K "_law_bent_numbers" s_law_bent_numbers)
 (h_law_bent_bars:Fx K "_law_bent_bars" s_law_bent_bars)
 (h_law_copied:Fx K "_law_copied" s_law_copied)
 (h_law_bent:Fx K "_law_bent" s_law_bent)
 (h_law_asks:Fx K "_law_asks" s_law_asks)
 (h_law:Fx K "law" s_law)
 (g_HEAD:PySem.W.nsIn K mainGlobals "HEAD"=some (some (.int 256 tk_HEAD)))
 (g_MOST:PySem.W.nsIn K mainGlobals "MOST"=some (some (.int 40 tk_MOST)))
 (w_WAYS:Gt K "WAYS" g_WAYS "apart" "joined" "spans" "chain")
 (z_len:PySem.W.nsIn K mainGlobals "len"=some none)
 (z_abs:PySem.W.nsIn K mainGlobals "abs"=some none)
 (z_range:PySem.W.nsIn K mainGlobals "range"=some none)
 (z_isinstance:PySem.W.nsIn K mainGlobals "isinstance"=some none)
 (z_int:PySem.W.nsIn K mainGlobals "int"=some none)
 (z_bool:PySem.W.nsIn K mainGlobals "bool"=some none)
 (z_tuple:PySem.W.nsIn K mainGlobals "tuple"=some none)
 (z_list:PySem.W.nsIn K mainGlobals "list"=some none)
 (z_max:PySem.W.nsIn K mainGlobals "max"=some none)
 (z_min:PySem.W.nsIn K mainGlobals "min"=some none)
 (z_enumerate:PySem.W.nsIn K mainGlobals "enumerate"=some none)
 (z_zip:PySem.W.nsIn K mainGlobals "zip"=some none)
 (z_all:PySem.W.nsIn K mainGlobals "all"=some none)
 (z_any:PySem.W.nsIn K mainGlobals "any"=some none)
 (z_sum:PySem.W.nsIn K mainGlobals "sum"=some none)
 (z_sorted:PySem.W.nsIn K mainGlobals "sorted"=some none)
 (z_reversed:PySem.W.nsIn K mainGlobals "reversed"=some none)
 (z_str:PySem.W.nsIn K mainGlobals "str"=some none) :
 ∃fd:FuncData,(∀(s:Shared) (v:Value),BindsTo s fd ⟨[v],[]⟩ [("_law_script",v)])∧∀base:Heap,K.In base→base.Ns mainGlobals mg→FnOk l.prog w K mg base CX0 12 fa fd ["_law_script"] (spLaw K):=by
 obtain ⟨_,fd_law,a_law,F_law⟩:=h_law
 have e:=hfa.symm.trans (PySem.W.mg_of X G a_law)
 cases e
 have T:Txt mg:=⟨PySem.W.mg_none_of X G z_len,PySem.W.mg_none_of X G z_abs,PySem.W.mg_none_of X G z_range,PySem.W.mg_none_of X G z_isinstance,PySem.W.mg_none_of X G z_int,PySem.W.mg_none_of X G z_bool,PySem.W.mg_none_of X G z_tuple,PySem.W.mg_none_of X G z_list,PySem.W.mg_none_of X G z_max,PySem.W.mg_none_of X G z_min,PySem.W.mg_none_of X G z_enumerate,PySem.W.mg_none_of X G z_zip,PySem.W.mg_none_of X G z_all,PySem.W.mg_none_of X G z_any,PySem.W.mg_none_of X G z_sum,PySem.W.mg_none_of X G z_sorted,PySem.W.mg_none_of X G z_reversed,PySem.W.mg_none_of X G z_str⟩
 obtain ⟨_,_,a_law_cell,F_law_cell⟩:=h_law_cell
 obtain ⟨_,_,a_law_mix,F_law_mix⟩:=h_law_mix
 obtain ⟨_,_,a_law_row,F_law_row⟩:=h_law_row
 obtain ⟨_,_,a_law_ratio,F_law_ratio⟩:=h_law_ratio
 obtain ⟨_,_,a_plain_divisor,F_plain_divisor⟩:=h_plain_divisor
 obtain ⟨_,_,a_steps_of_heads,F_steps_of_heads⟩:=h_steps_of_heads
 obtain ⟨_,_,a_divisor,F_divisor⟩:=h_divisor
 obtain ⟨_,_,a_loose_plus,F_loose_plus⟩:=h_loose_plus
 obtain ⟨_,_,a_loose_minus,F_loose_minus⟩:=h_loose_minus
 obtain ⟨_,_,a_loose_times,F_loose_times⟩:=h_loose_times
 obtain ⟨_,_,a_loose_slope,F_loose_slope⟩:=h_loose_slope
 obtain ⟨_,_,a_loose_along,F_loose_along⟩:=h_loose_along
 obtain ⟨_,_,a_order,F_order⟩:=h_order
 obtain ⟨_,_,a_size,F_size⟩:=h_size
 obtain ⟨_,_,a_loose_stand,F_loose_stand⟩:=h_loose_stand
 obtain ⟨_,_,a_runs,F_runs⟩:=h_runs
 obtain ⟨_,_,a_law_shaped,F_law_shaped⟩:=h_law_shaped
 obtain ⟨_,_,a_law_times,F_law_times⟩:=h_law_times
 obtain ⟨_,_,a_law_picked,F_law_picked⟩:=h_law_picked
 obtain ⟨_,_,a_law_drawn,F_law_drawn⟩:=h_law_drawn
 obtain ⟨_,_,a_loose_farthest,F_loose_farthest⟩:=h_loose_farthest
 obtain ⟨_,_,a_law_handed,F_law_handed⟩:=h_law_handed
 obtain ⟨_,_,a_law_stand,F_law_stand⟩:=h_law_stand
 obtain ⟨_,_,a_greatest,F_greatest⟩:=h_greatest
 obtain ⟨_,_,a_smallest,F_smallest⟩:=h_smallest
 obtain ⟨_,_,a_good_behind,F_good_behind⟩:=h_good_behind
 obtain ⟨_,_,a_leaps,F_leaps⟩:=h_leaps
 obtain ⟨_,_,a_labels_by,F_labels_by⟩:=h_labels_by
 obtain ⟨_,_,a_bars_by,F_bars_by⟩:=h_bars_by
 obtain ⟨_,_,a_places_of_pieces,F_places_of_pieces⟩:=h_places_of_pieces
 obtain ⟨_,_,a_piece_between,F_piece_between⟩:=h_piece_between
 obtain ⟨_,_,a_tied_run,F_tied_run⟩:=h_tied_run
 obtain ⟨_,_,a_tied_row,F_tied_row⟩:=h_tied_row
 obtain ⟨_,_,a_spans,F_spans⟩:=h_spans
 obtain ⟨_,_,a_chain,F_chain⟩:=h_chain
 obtain ⟨_,_,a_law_runs,F_law_runs⟩:=h_law_runs
 obtain ⟨_,_,a_is_fraction,F_is_fraction⟩:=h_is_fraction
 obtain ⟨_,_,a_is_wrong,F_is_wrong⟩:=h_is_wrong
 obtain ⟨_,_,a_checked,F_checked⟩:=h_checked
 obtain ⟨_,_,a_check_way,F_check_way⟩:=h_check_way
 obtain ⟨_,_,a_check_bound,F_check_bound⟩:=h_check_bound
 obtain ⟨_,_,a_told_by,F_told_by⟩:=h_told_by
 obtain ⟨_,_,a_fewest,F_fewest⟩:=h_fewest
 obtain ⟨_,_,a_known_of,F_known_of⟩:=h_known_of
 obtain ⟨_,_,a_samples_of_three,F_samples_of_three⟩:=h_samples_of_three
 obtain ⟨_,_,a_is_good,F_is_good⟩:=h_is_good
 obtain ⟨_,_,a_barred_pairs,F_barred_pairs⟩:=h_barred_pairs
 obtain ⟨_,_,a_pieces_of_run,F_pieces_of_run⟩:=h_pieces_of_run
 obtain ⟨_,_,a_pieces_by_numbers,F_pieces_by_numbers⟩:=h_pieces_by_numbers
 obtain ⟨_,_,a_shows,F_shows⟩:=h_shows
 obtain ⟨_,_,a_law_spots,F_law_spots⟩:=h_law_spots
 obtain ⟨_,_,a_law_worthy,F_law_worthy⟩:=h_law_worthy
 obtain ⟨_,_,a_law_shut,F_law_shut⟩:=h_law_shut
 obtain ⟨_,_,a_law_numbers,F_law_numbers⟩:=h_law_numbers
 obtain ⟨_,_,a_law_claim,F_law_claim⟩:=h_law_claim
 obtain ⟨_,_,a_law_shown_run,F_law_shown_run⟩:=h_law_shown_run
 obtain ⟨_,_,a_law_shown_tied,F_law_shown_tied⟩:=h_law_shown_tied
 obtain ⟨_,_,a_law_bent_numbers,F_law_bent_numbers⟩:=h_law_bent_numbers
 obtain ⟨_,_,a_law_bent_bars,F_law_bent_bars⟩:=h_law_bent_bars
 obtain ⟨_,_,a_law_copied,F_law_copied⟩:=h_law_copied
 obtain ⟨_,_,a_law_bent,F_law_bent⟩:=h_law_bent
 obtain ⟨_,_,a_law_asks,F_law_asks⟩:=h_law_asks
 have C_HEAD:Cn mg "HEAD" 256:=⟨_,PySem.W.mg_of X G g_HEAD⟩
 have C_MOST:Cn mg "MOST" 40:=⟨_,PySem.W.mg_of X G g_MOST⟩
 have W_WAYS:mg "WAYS"=some (.ref g_WAYS):=PySem.W.mg_of X G w_WAYS.1
 refine ⟨fd_law,fun s v=>?_,fun base _ _=>?_⟩
 ·obtain ⟨_,_,_,_,_,_,_,_,_,rfl,_,_⟩:=F_law.ex
  exact .of_eq rfl
 have D_law_cell:=dnm l.prog w base X G a_law_cell F_law_cell (ok_law_cell F_law_cell T) (F_law_cell.binds2 fun _ _ _ _ _ _ _ _=>rfl)
 have D_law_mix:=dnm l.prog w base X G a_law_mix F_law_mix (ok_law_mix F_law_mix ) (F_law_mix.binds2 fun _ _ _ _ _ _ _ _=>rfl)
 have D_law_row:=dnm l.prog w base X G a_law_row F_law_row (ok_law_row F_law_row T D_law_cell D_law_mix) (F_law_row.binds3 fun _ _ _ _ _ _ _ _ _=>rfl)
 have D_law_ratio:=dnm l.prog w base X G a_law_ratio F_law_ratio (ok_law_ratio F_law_ratio T) (F_law_ratio.binds2 fun _ _ _ _ _ _ _ _=>rfl)
 have D_plain_divisor:=dnm l.prog w base X G a_plain_divisor F_plain_divisor (ok_plain_divisor F_plain_divisor T) (F_plain_divisor.binds2 fun _ _ _ _ _ _ _ _=>rfl)
 have D_steps_of_heads:=dnm l.prog w base X G a_steps_of_heads F_steps_of_heads (ok_steps_of_heads F_steps_of_heads C_HEAD) (F_steps_of_heads.binds2 fun _ _ _ _ _ _ _ _=>rfl)
 have D_divisor:=dnm l.prog w base X G a_divisor F_divisor (ok_divisor F_divisor T C_HEAD D_plain_divisor D_steps_of_heads) (F_divisor.binds2 fun _ _ _ _ _ _ _ _=>rfl)
 have D_loose_plus:=dnm l.prog w base X G a_loose_plus F_loose_plus (ok_loose_plus F_loose_plus ) (F_loose_plus.binds2 fun _ _ _ _ _ _ _ _=>rfl)
 have D_loose_minus:=dnm l.prog w base X G a_loose_minus F_loose_minus (ok_loose_minus F_loose_minus ) (F_loose_minus.binds2 fun _ _ _ _ _ _ _ _=>rfl)
 have D_loose_times:=dnm l.prog w base X G a_loose_times F_loose_times (ok_loose_times F_loose_times ) (F_loose_times.binds2 fun _ _ _ _ _ _ _ _=>rfl)
 have D_loose_slope:=dnm l.prog w base X G a_loose_slope F_loose_slope (ok_loose_slope F_loose_slope D_loose_minus) (F_loose_slope.binds2 fun _ _ _ _ _ _ _ _=>rfl)
 have D_loose_along:=dnm l.prog w base X G a_loose_along F_loose_along (ok_loose_along F_loose_along D_loose_plus D_loose_times) (F_loose_along.binds3 fun _ _ _ _ _ _ _ _ _=>rfl)
 have D_order:=dnm l.prog w base X G a_order F_order (ok_order F_order ) (F_order.binds2 fun _ _ _ _ _ _ _ _=>rfl)
 have D_size:=dnm l.prog w base X G a_size F_size (ok_size F_size T) (F_size.binds1 fun _ _ _ _ _ _ _=>rfl)
 have D_loose_stand:=dnm l.prog w base X G a_loose_stand F_loose_stand (ok_loose_stand F_loose_stand D_loose_minus D_loose_along D_loose_slope) (F_loose_stand.binds3 fun _ _ _ _ _ _ _ _ _=>rfl)
 have D_runs:=dnm l.prog w base X G a_runs F_runs (ok_runs F_runs T) (F_runs.binds1 fun _ _ _ _ _ _ _=>rfl)
 have D_law_shaped:=dnm l.prog w base X G a_law_shaped F_law_shaped (ok_law_shaped F_law_shaped T) (F_law_shaped.binds3 fun _ _ _ _ _ _ _ _ _=>rfl)
 have D_law_times:=dnm l.prog w base X G a_law_times F_law_times (ok_law_times F_law_times ) (F_law_times.binds2 fun _ _ _ _ _ _ _ _=>rfl)
 have D_law_picked:=dnm l.prog w base X G a_law_picked F_law_picked (ok_law_picked F_law_picked T) (F_law_picked.binds2 fun _ _ _ _ _ _ _ _=>rfl)
 have D_law_drawn:=dnm l.prog w base X G a_law_drawn F_law_drawn (ok_law_drawn F_law_drawn T D_law_row D_law_shaped D_law_picked D_law_times) (F_law_drawn.binds4 fun _ _ _ _ _ _ _ _ _ _=>rfl)
 have D_loose_minusE:=dnm l.prog w base X G a_loose_minus F_loose_minus (ok_loose_minusE F_loose_minus ) (F_loose_minus.binds2 fun _ _ _ _ _ _ _ _=>rfl)
 have D_loose_slopeE:=dnm l.prog w base X G a_loose_slope F_loose_slope (ok_loose_slopeE F_loose_slope D_loose_minusE) (F_loose_slope.binds2 fun _ _ _ _ _ _ _ _=>rfl)
 have D_loose_farthest:=dnm l.prog w base X G a_loose_farthest F_loose_farthest (ok_loose_farthest F_loose_farthest T D_order D_loose_slopeE) (F_loose_farthest.binds3 fun _ _ _ _ _ _ _ _ _=>rfl)
 have D_law_handed:=dnm l.prog w base X G a_law_handed F_law_handed (ok_law_handed F_law_handed D_law_ratio) (F_law_handed.binds2 fun _ _ _ _ _ _ _ _=>rfl)
 have D_law_stand:=dnm l.prog w base X G a_law_stand F_law_stand (ok_law_stand F_law_stand ) (F_law_stand.binds3 fun _ _ _ _ _ _ _ _ _=>rfl)
 have D_greatest:=dnm l.prog w base X G a_greatest F_greatest (ok_greatest F_greatest D_order) (F_greatest.binds1 fun _ _ _ _ _ _ _=>rfl)
 have D_smallest:=dnm l.prog w base X G a_smallest F_smallest (ok_smallest F_smallest D_order) (F_smallest.binds1 fun _ _ _ _ _ _ _=>rfl)
 have D_loose_slopeQ:=dnm l.prog w base X G a_loose_slope F_loose_slope (ok_loose_slopeQ F_loose_slope D_loose_minus) (F_loose_slope.binds2 fun _ _ _ _ _ _ _ _=>rfl)
 have D_good_behind:=dnm l.prog w base X G a_good_behind F_good_behind (ok_good_behind F_good_behind T D_order D_loose_plus D_loose_minus D_loose_slopeQ D_greatest D_smallest) (F_good_behind.binds3 fun _ _ _ _ _ _ _ _ _=>rfl)
 have D_leaps:=dnm l.prog w base X G a_leaps F_leaps (ok_leaps F_leaps T D_good_behind) (F_leaps.binds3 fun _ _ _ _ _ _ _ _ _=>rfl)
 have D_labels_by:=dnm l.prog w base X G a_labels_by F_labels_by (ok_labels_by F_labels_by T) (F_labels_by.binds2 fun _ _ _ _ _ _ _ _=>rfl)
 have D_bars_by:=dnm l.prog w base X G a_bars_by F_bars_by (ok_bars_by F_bars_by T D_loose_farthest) (F_bars_by.binds3 fun _ _ _ _ _ _ _ _ _=>rfl)
 have D_places_of_pieces:=dnm l.prog w base X G a_places_of_pieces F_places_of_pieces (ok_places_of_pieces F_places_of_pieces T) (F_places_of_pieces.binds2 fun _ _ _ _ _ _ _ _=>rfl)
 have D_piece_between:=dnm l.prog w base X G a_piece_between F_piece_between (ok_piece_between F_piece_between T) (F_piece_between.binds2 fun _ _ _ _ _ _ _ _=>rfl)
 have D_tied_run:=dnm l.prog w base X G a_tied_run F_tied_run (ok_tied_run F_tied_run T D_leaps D_labels_by D_places_of_pieces D_piece_between D_bars_by) (F_tied_run.binds3 fun _ _ _ _ _ _ _ _ _=>rfl)
 have D_tied_row:=dnm l.prog w base X G a_tied_row F_tied_row (ok_tied_row F_tied_row T D_runs D_tied_run) (F_tied_row.binds3 fun _ _ _ _ _ _ _ _ _=>rfl)
 have D_spans:=dnm l.prog w base X G a_spans F_spans (ok_spans F_spans T D_tied_row) (F_spans.binds2 fun _ _ _ _ _ _ _ _=>rfl)
 have D_chain:=dnm l.prog w base X G a_chain F_chain (ok_chain F_chain T D_tied_row) (F_chain.binds2 fun _ _ _ _ _ _ _ _=>rfl)
 have D_law_runs:=dnm l.prog w base X G a_law_runs F_law_runs (ok_law_runs F_law_runs T) (F_law_runs.binds1 fun _ _ _ _ _ _ _=>rfl)
 have D_is_fraction:=dnm l.prog w base X G a_is_fraction F_is_fraction (ok_is_fraction F_is_fraction D_divisor) (F_is_fraction.binds1 fun _ _ _ _ _ _ _=>rfl)
 have D_is_wrong:=dnm l.prog w base X G a_is_wrong F_is_wrong (ok_is_wrong F_is_wrong T C_MOST D_is_fraction) (F_is_wrong.binds2 fun _ _ _ _ _ _ _ _=>rfl)
 have D_checked:=dnm l.prog w base X G a_checked F_checked (ok_checked F_checked T D_is_wrong) (F_checked.binds1 fun _ _ _ _ _ _ _=>rfl)
 have D_check_way:=dnm l.prog w base X G a_check_way F_check_way (ok_check_way F_check_way W_WAYS w_WAYS.2) (F_check_way.binds1 fun _ _ _ _ _ _ _=>rfl)
 have D_check_bound:=dnm l.prog w base X G a_check_bound F_check_bound (ok_check_bound F_check_bound ) (F_check_bound.binds1 fun _ _ _ _ _ _ _=>rfl)
 have D_told_by:=dnm l.prog w base X G a_told_by F_told_by (ok_told_by F_told_by D_spans D_chain) (F_told_by.binds3 fun _ _ _ _ _ _ _ _ _=>rfl)
 have D_fewest:=dnm l.prog w base X G a_fewest F_fewest (ok_fewest F_fewest D_check_way D_check_bound D_checked D_told_by) (F_fewest.binds3 fun _ _ _ _ _ _ _ _ _=>rfl)
 have D_known_of:=dnm l.prog w base X G a_known_of F_known_of (ok_known_of F_known_of T) (F_known_of.binds1 fun _ _ _ _ _ _ _=>rfl)
 have D_samples_of_three:=dnm l.prog w base X G a_samples_of_three F_samples_of_three (ok_samples_of_three F_samples_of_three T) (F_samples_of_three.binds2 fun _ _ _ _ _ _ _ _=>rfl)
 have D_is_good:=dnm l.prog w base X G a_is_good F_is_good (ok_is_good F_is_good D_samples_of_three D_loose_stand D_size D_order) (F_is_good.binds4 fun _ _ _ _ _ _ _ _ _ _=>rfl)
 have D_barred_pairs:=dnm l.prog w base X G a_barred_pairs F_barred_pairs (ok_barred_pairs F_barred_pairs T) (F_barred_pairs.binds3 fun _ _ _ _ _ _ _ _ _=>rfl)
 have D_pieces_of_run:=dnm l.prog w base X G a_pieces_of_run F_pieces_of_run (ok_pieces_of_run F_pieces_of_run T D_known_of D_is_good D_barred_pairs) (F_pieces_of_run.binds5 fun _ _ _ _ _ _ _ _ _ _ _=>rfl)
 have D_pieces_by_numbers:=dnm l.prog w base X G a_pieces_by_numbers F_pieces_by_numbers (ok_pieces_by_numbers F_pieces_by_numbers T D_runs D_pieces_of_run) (F_pieces_by_numbers.binds5 fun _ _ _ _ _ _ _ _ _ _ _=>rfl)
 have BB_shows:=F_shows.binds6 (fun _ _ _ _ _ _ _ _ _ _ _ _ _=>⟨_,rfl,rfl⟩) (fun _ _ _ _ _ _ _ _ _ _ _ _=>⟨_,rfl,rfl⟩)
 have DB_shows:DnB l.prog w K mg base 8 "shows" ["row","way","bound","number","paper","at"] spShows false:=⟨_,_,ok_shows F_shows D_pieces_by_numbers,PySem.W.mg_of X G a_shows,F_shows.kp,BB_shows.1,BB_shows.2⟩
 have D_shows:=DB_shows.two
 have D_law_spots:=dnm l.prog w base X G a_law_spots F_law_spots (ok_law_spots F_law_spots T) (F_law_spots.binds2 fun _ _ _ _ _ _ _ _=>rfl)
 have D_law_worthy:=dnm l.prog w base X G a_law_worthy F_law_worthy (ok_law_worthy F_law_worthy T D_law_stand) (F_law_worthy.binds4 fun _ _ _ _ _ _ _ _ _ _=>rfl)
 have D_law_shut:=dnm l.prog w base X G a_law_shut F_law_shut (ok_law_shut F_law_shut T D_law_worthy) (F_law_shut.binds5 fun _ _ _ _ _ _ _ _ _ _ _=>rfl)
 have D_law_numbers:=dnm l.prog w base X G a_law_numbers F_law_numbers (ok_law_numbers F_law_numbers T D_law_shut) (F_law_numbers.binds3 fun _ _ _ _ _ _ _ _ _=>rfl)
 have D_law_claim:=dnm l.prog w base X G a_law_claim F_law_claim (ok_law_claim F_law_claim T D_law_shut D_law_numbers) (F_law_claim.binds4 fun _ _ _ _ _ _ _ _ _ _=>rfl)
 have D_law_shown_run:=dnm l.prog w base X G a_law_shown_run F_law_shown_run (ok_law_shown_run F_law_shown_run T D_law_spots D_law_worthy) (F_law_shown_run.binds6 fun _ _ _ _ _ _ _ _ _ _ _ _=>rfl)
 have D_law_shown_tied:=dnm l.prog w base X G a_law_shown_tied F_law_shown_tied (ok_law_shown_tied F_law_shown_tied T D_law_shown_run) (F_law_shown_tied.binds5 fun _ _ _ _ _ _ _ _ _ _ _=>rfl)
 have D_law_bent_numbers:=dnm l.prog w base X G a_law_bent_numbers F_law_bent_numbers (ok_law_bent_numbers F_law_bent_numbers T) (F_law_bent_numbers.binds2 fun _ _ _ _ _ _ _ _=>rfl)
 have D_law_bent_bars:=dnm l.prog w base X G a_law_bent_bars F_law_bent_bars (ok_law_bent_bars F_law_bent_bars T) (F_law_bent_bars.binds3 fun _ _ _ _ _ _ _ _ _=>rfl)
 have D_law_copied:=dnm l.prog w base X G a_law_copied F_law_copied (ok_law_copied F_law_copied T) (F_law_copied.binds1 fun _ _ _ _ _ _ _=>rfl)
 have D_law_bent:=dnm l.prog w base X G a_law_bent F_law_bent (ok_law_bent F_law_bent T D_law_bent_numbers D_law_bent_bars) (F_law_bent.binds3 fun _ _ _ _ _ _ _ _ _=>rfl)
 have D_law_asks:=dnm l.prog w base X G a_law_asks F_law_asks (ok_law_asks F_law_asks T D_law_handed D_law_copied DB_shows) (F_law_asks.binds7 fun _ _ _ _ _ _ _ _ _ _ _ _ _=>rfl)
 exact ok_law F_law T D_law_drawn D_law_runs D_law_ratio D_law_row D_law_claim D_law_bent D_law_shown_tied D_law_asks D_law_handed D_fewest
theorem walk {l:PySem.W.OpenLaw} {q:Program} {loose:List Str} {XP:(Str→Option Value)→Heap→Prop} {YP:World→Heap→Prop} {d:DefRec} {K:Params→PySem.W.Frag} (hn:l.most=some 63) (hdf:d.params.defaults=[])
 (hY:∀(w:World) (h:Heap),YP w h→(K w.params).In h)
 (F:∀(w:World) (mg:Str→Option Value) (fa:Addr) (h:Heap),(K w.params).In h→h.Ns mainGlobals mg→mg d.name=some (.ref fa) →
   ∃fd:FuncData,(∀(s:Shared) (u:Value),BindsTo s fd ⟨[u],[]⟩ [("_law_script",u)])∧∀base:Heap,(K w.params).In base→base.Ns mainGlobals mg→FnOk l.prog w (K w.params) mg base CX0 12 fa fd ["_law_script"] (spLaw (K w.params))) :
 PySem.W.WalkO q loose XP YP l.row.toRowW d [] (fun f vs=>PySem.call f vs):=
 L2.walk_of (n:=63) (k:=12) (x := "_law_script") (CX:=fun _=>CX0) (sp:=fun w=>spLaw (K w.params)) hn (by decide) hdf ⟨rfl,by decide,by decide⟩ hY F (fun _ _ a ns hl _ hS=>⟨a,ns,rfl,hS,hl,fun _=>rfl⟩) fun _ _ _ _ _ z=>z
end Lw
open PySem PySem.W PyProof.Rows
set_option maxRecDepth 100000 in
set_option maxHeartbeats 0 in
theorem PySem.Challenge.cw_lath_k65_labels_that_show_holds : PySem.Challenge.rw_lath_k65_labels_that_show.Holds := by
 w_on;o_law;k_head;(case hw=>w_witness2)
 k_fill
 refine Lw.walk (l:=PySem.Challenge.rw_lath_k65_labels_that_show) rfl rfl (fun w h Y=>PySem.W.kIn_of Y) ?F
 case F=>
  intro w mg fa h KX G hmg
  refine' Lw.all_mk KX G hmg ?a0 ?a1 ?a2 ?a3 ?a4 ?a5 ?a6 ?a7 ?a8 ?a9 ?a10 ?a11 ?a12 ?a13 ?a14 ?a15 ?a16 ?a17 ?a18 ?a19 ?a20 ?a21 ?a22 ?a23 ?a24 ?a25 ?a26 ?a27 ?a28 ?a29 ?a30 ?a31 ?a32 ?a33 ?a34 ?a35 ?a36 ?a37 ?a38 ?a39 ?a40 ?a41 ?a42 ?a43 ?a44 ?a45 ?a46 ?a47 ?a48 ?a49 ?a50 ?a51 ?a52 ?a53 ?a54 ?a55 ?a56 ?a57 ?a58 ?a59 ?a60 ?a61 ?a62 ?a63 ?a64 ?a65 ?a66 ?a67 ?a68 ?a69 ?a70 ?a71 ?a72 ?a73 ?a74 ?a75 ?a76 ?a77 ?a78 ?a79 ?a80 ?a81 ?a82 ?a83
  (case a0=>walk_at "fz");(case a1=>walk_at "fz");(case a2=>walk_at "fz");(case a3=>walk_at "fz");(case a4=>walk_at "fz");(case a5=>walk_at "fz");(case a6=>walk_at "fz");(case a7=>walk_at "fz");(case a8=>walk_at "fz");(case a9=>walk_at "fz");(case a10=>walk_at "fz");(case a11=>walk_at "fz");(case a12=>walk_at "fz");(case a13=>walk_at "fz");(case a14=>walk_at "fz");(case a15=>walk_at "fz");(case a16=>walk_at "fz");(case a17=>walk_at "fz");(case a18=>walk_at "fz");(case a19=>walk_at "fz");(case a20=>walk_at "fz");(case a21=>walk_at "fz");(case a22=>walk_at "fz");(case a23=>walk_at "fz");(case a24=>walk_at "fz");(case a25=>walk_at "fz");(case a26=>walk_at "fz");(case a27=>walk_at "fz");(case a28=>walk_at "fz");(case a29=>walk_at "fz");(case a30=>walk_at "fz");(case a31=>walk_at "fz");(case a32=>walk_at "fz");(case a33=>walk_at "fz");(case a34=>walk_at "fz");(case a35=>walk_at "fz");(case a36=>walk_at "fz");(case a37=>walk_at "fz");(case a38=>walk_at "fz");(case a39=>walk_at "fz");(case a40=>walk_at "fz");(case a41=>walk_at "fz");(case a42=>walk_at "fz");(case a43=>walk_at "fz");(case a44=>walk_at "fz");(case a45=>walk_at "fz");(case a46=>walk_at "fz");(case a47=>walk_at "fz");(case a48=>walk_at "fz");(case a49=>walk_at "fz");(case a50=>walk_at "fz");(case a51=>walk_at "fz");(case a52=>walk_at "fz");(case a53=>walk_at "fz");(case a54=>walk_at "fz");(case a55=>walk_at "fz");(case a56=>walk_at "fz");(case a57=>walk_at "fz");(case a58=>walk_at "fz");(case a59=>walk_at "fz");(case a60=>walk_at "fz");(case a61=>walk_at "fz");(case a62=>walk_at "fz");(case a63=>walk_at "fz");(case a64=>walk_at "fz");(case a65=>walk_at "fz");(case a66=>walk_at "fz");(case a67=>walk_at "fz");(case a68=>walk_at "fz");(case a69=>walk_at "fz");(case a70=>walk_at "fz");(case a71=>walk_at "fz");(case a72=>walk_at "fz");(case a73=>walk_at "fz");(case a74=>walk_at "fz");(case a75=>walk_at "fz");(case a76=>walk_at "fz");(case a77=>walk_at "fz");(case a78=>walk_at "fz");(case a79=>walk_at "fz");(case a80=>walk_at "fz");(case a81=>walk_at "fz");(case a82=>walk_at "fz");(case a83=>walk_at "fz")

