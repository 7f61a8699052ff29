import PyProof.Rows.All
import Wide.FinOn
import KE.KFromBytes
import KE.KIntText
import KE.KItem
import KE.KListMore
import KE.KRevIter
import KE.LcSums
import KE.RegKIsAll
import KE.RegKTryMore
import PySem.Challenge.RW_lath_k64_threes_that_show
set_option Elab.async false
set_option linter.all false
set_option maxRecDepth 100000
noncomputable section
set_option hygiene false
local macro_rules
|`(0#a)=>`(⟨rfl,rfl,rfl,by decide +kernel,rfl,by decide +kernel,by decide +kernel⟩)
local macro_rules
|`(0#b)=>`((fun cdv A outer s H vs Q E hr h=>?_))
local macro_rules
|`(0#c)=>`((by simp?))
local macro_rules
|`(0#d)=>`((by try?))
local macro_rules
|`(0#e)=>`((fun vs H Q E h=>?_))
local macro_rules
|`(0#f)=>`((by simp))
local macro_rules
|`(0#g)=>`((by decide +kernel))
local macro_rules
|`(0#h)=>`((by decide))
local macro_rules
|`(0#i)=>`((.ListComp elt [⟨tg,iter,ifs,0⟩] scope pos))
local macro_rules
|`(0#j)=>`((aA "steepest" .bC (aA "gentlest" (.ref ps) (aA "above" (.ref D) fs))))
local macro_rules
|`(0#k)=>`((aA "gentlest" .bC (aA "steepest" (.ref ps) (aA "below" (.ref D) fs))))
local macro_rules
|`(0#l)=>`((model X.prog X.w))
local macro_rules
|`(0#m)=>`((aa 0))
local macro_rules
|`(0#n)=>`((Or.inl rfl))
local macro_rules
|`(0#o)=>`((fun _ _=>rfl))
local macro_rules
|`(0#p)=>`((cF X (O++N') scope (dZ X.env.cells scope.names []) C s0 H0 ex' gm))
local macro_rules
|`(0#q)=>`((aA "twice" (.ref tw) (aA "bound" (.ref pb) [])))
local macro_rules
|`(0#r)=>`((dD X (O++N') scope z cl h3.objs.size { s2 with heap:=h3,toks:=s2.toks } (upd H2 D (.lst [])) fp (X.pn++pins)))
local macro_rules
|`(0#s)=>`((.tup xs))
local macro_rules
|`(0#t)=>`((cF X (O++N') scope cl h3.objs.size { s2 with heap:=h3,toks:=s2.toks } (upd H2 D (.lst [])) fp (X.pn++pins)))
local macro_rules
|`(0#u)=>`(⟨⟨rfl,rfl,rfl,rfl⟩,trivial⟩)
local macro_rules
|`(0#w)=>`((x==("__debug__":Str)))
local macro_rules
|`(0#x)=>`((aa 1))
local macro_rules
|`(0#y)=>`((oV x qual (dF st) (cV st) (ah st) .none kV doc pm an cdv ct))
local macro_rules
|`(0#z)=>`((ss++[(x,m,some q)]))
local macro_rules
|`(0#A)=>`((hr.mono 0#h))
local macro_rules
|`(0#B)=>`(((e::([]:List bf)).length+([]:List nF).length+(if ([]:List nF).isEmpty then 0 else 1)<30))
local macro_rules
|`(0#C)=>`((putK kvs (Sum.inr sh) (.int (fS q.2 kk))))
set_option hygiene true
open List renaming getElem?_eq_some_iff→fZ,length_append→cJ,getElem?_eq_getElem→je,length_map→eV,mem_of_getElem?→jL,getElem?_map→jQ,map_append→ju,mem_append→dH,getElem?_append_left→kZ,length_cons→iu,getElem?_append_right→pR,mem_map→eU,take_length→iV,size_toArray→jK,length_drop→jO,length_nil→kh,replicate→ko,mem_cons→lg,mem_append_right→vD,flatten_cons→qE,mem_cons_of_mem→vE,Nodup→iN,getElem?_drop→um,mem_cons_self→xB,range→kq,take_add_one→xC,length_replicate→C3,filterMap_cons→Av,map_cons→qU,mem_filter→vG,pairwise_iff_getElem→Kh,getElem_mem→yR,append_nil→yS,mem_range→xD,drop_append_of_le_length→QK,filter_append→DR,length_take→C4,filter_cons→C5,replicate_succ→HE,map_map→nC,take_succ→qO,getD_eq_getElem?_getD→EH,length→nE,length_filter_le→CH,range_succ→uy,getElem?_of_mem→CJ,mem_iff_getElem?→EK,pairwise_cons→CK,flatten_append→EL,take_of_length_le→JT,mem_append_left→JV,lookup_cons→EO,drop_of_length_le→OA,find?_cons→ER,take_append_drop→OC,take_sublist→J0,filter_congr→J2,mem_of_mem_drop→OD,length_pos_iff→OE,filter_sublist→OF,any_cons→EU,filter_map→J8,getElem?_take→OJ,lookup→CV,getElem?_replicate→Ur,filter_cons_of_pos→Ut,pairwise_map→ON,filter_eq_nil_iff→Uv,length_singleton→Uw,pairwise_flatten→Uy,mem_of_mem_take→UA,nodup_cons→OT,length_flatten→UE,getElem_of_mem→UG,filter_eq_self→UH,mem_singleton→UL,getLast?_eq_getElem?→Ys,nodup_append→UT,drop_sublist→UU,all_cons→OZ,length_filterMap_le→Yx,all_eq_true→UY,pairwise_singleton→Yz,filter_cons_of_neg→YA,getElem?_set_self→YB,of_mem_zip→U0,dropLast_sublist→YO,getElem?_set_ne→YS,pairwise_append→YV,getElem?_range→YY,mem_filterMap→Y3,map_nil→Vc,map→Ke,length_range→Zf,flatMap_cons→Zg,mem_flatMap→Zo,drop_length→Zp,not_mem_nil→Zq,nil_append→Zr,foldl→Vq,drop_zero→Zz,drop_drop→ZD,map_drop→ZQ,sum_cons→ZR
open PySem.W renaming Frag→bM,findIn→ki,nsIn→iW,mg_none_of→qT,fnOf→oV,keepIn→uq,kia_one→sP,emptyDict→xm,codeIn→xo,instObj→zL,mg_of→xq,plainGet→EN,kitOne→CN,isFn→zQ,hasDictIn→JZ,plainOver→OL,makesIn→OS,plainGet_of→UC,lookIn→OV,callWith_K→UJ,methodObj→UN,cellsFrom_some→YD,takerIn→UZ,OpenLaw→U1,methodCall_KW→YM,kitx_list→Y9,kitx_dict→Za,handedIn→Zi,WalkO→ZK
open PySem renaming Addr→ao,starEach→aY,Value→aH,Shared→aU,wpAny_bind→cX,mainGlobals→fE,Stmt→aQ,wpAny→bF,wpAny_pure→jx,Expr→bf,compareOp→kr,foldedSetIterable→Ay,assignEach→nK,keywordEach→qG,wpAny_mono→pT,backTo→gC,attributeBase→pP,swapsWith→jI,FuncData→iS,Program→gX,wpAny_truthy_bool→zJ,take_succ_filter→EJ,backToKw→jJ,World→di,bootBuiltins→uz,Heap→b8,wpAny_passesOwn→CM,wpAny_holding→zO,mem_of_lookup→JX,binaryOp→oh,wpAny_Call_Name_kw→JY,wpAny_standAt→CP,Keyword→nF,sysModules→xu,NameKind→qQ,intBits_le_iff→ET,bindArgs→sU,tupleKind_room_in1→OH,sliceBounds→CW,Around→nG,wpAny_execs_nil→OR,codeAny_mono→J9,cellsFrom→CZ,PyData→qR,boot_len→OY,standAt→xx,wpAny_assign_Name→UO,wpAny_newObj_type→UP,wpAny_pyIter_list→UQ,codeAny→xy,wpAny_comprehension_free→Yu,Scope→om,cLine→oq,wpAny_pyNext_list_item→YC,BindsTo→zV,call_meets→Kd,codeAny_compStart_list→YJ,wpAny_pyNext_list_end→YL,exec_Assign_Name_used→YQ,callerA→C1,valueAt→C2,Within→U8,seqIndex_neg→Vd,slot_list_getitem→Zb,wpAny_pyIter_enum→Zc,wpAny_execs_cons→Zh,PassesOwn→O6,noFill_tuple_add→Zj,wpAny_pyIter_zip→Zl,seqIndex_of→Vj,atKey→xA,wpAny_specialOf→Zs,wpAny_Name→Vm,wpAny_bindName→Zx,wpAny_call→Vn,bindL→zW,bindC→zX,typeIs_int→Vp,call→Vr,intBits_le_64→ZG,seq_tuple_add→ZH,evalPart_none→ZI,call_list_seq→ZJ
open Nat renaming le_refl→dm,le_trans→dI,lt_of_lt_of_le→pS,ne_of_lt→jP,zero_le→nH,lt_of_le_of_lt→Ax,le_of_lt→ur,succ_le_succ→C6,lt_trichotomy→ux,le_succ_of_le→zK,le_succ→sQ,lt_irrefl→zN,add_comm→CS,lt_trans→CT,sub_self→CU,not_lt_zero→J5,add_sub_cancel→OI,le_add_right→OP,lt_succ_self→UW,ne_of_gt→O0,lt_or_ge→O1,zero_add→O2,pow_le_pow_right→YT,gcd_zero_right→Y6,le_of_eq→U9,lt_succ_of_lt→Zd,gcd_dvd_right→Ze,add_zero→Vh,min_eq_right→Zn,min_eq_left→Zv,two_pow_pos→Zw,gcd→Kf,le_of_dvd→ZN,mul_comm→ZT,gcd_comm→ZU,le_total→ZX,add_mul→Z8,one_mul→Z9,mod_lt→aac
open Bool renaming false_ne_true→eO,eq_false_iff→iU,and_eq_true→vF,eq_iff_iff→zM,true_and→U7,false_eq_true→Y5,false_or→ZL
open PySem.Heap renaming get?_push_of_some→jN,lt_size→dY,get?_push_size→Aw,SameBut→zP,size_push→OW,get?_update_other→YG,ExtBut→Z7
open PySem.PassesOwn renaming never→iM
open Option renaming map_eq_some_iff→oU,isSome_iff_exists→JR,map_some→J4,toList_some→UM,isSome_map→US,isSome_some→Y4,getD_none→Zk,getD_some→Zm
open Classical renaming propDecidable→sV,byContradiction→EI
open Int renaming gcd→cj,emod_lt_of_pos→uh,fdiv_eq_ediv_of_nonneg→DQ,mul_nonneg→qF,mul_le_mul_of_nonneg_right→Kg,emod_nonneg→vH,gcd_pos_of_ne_zero_right→QL,mul_comm→pQ,mul_ediv_add_emod→JU,dvd_mul_of_dvd_right→Oz,mul_le_mul→CO,gcd_dvd_right→J1,gcd_dvd_left→J3,natCast_nonneg→OG,not_lt→zS,mul_pos→CY,natAbs_add_le→OM,le_of_lt→EV,ediv_le_self→OO,natAbs_neg→OX,natAbs_natCast→UK,toNat_natCast→UR,mul_neg→Ka,mul_fdiv_cancel_left→Yw,ediv_le_ediv→UX,le_ediv_iff_mul_le→YI,fdiv_nonneg→U4,natAbs_dvd_natAbs→YN,natAbs_mul→U5,neg_mul→O4,natAbs_of_nonneg→YU,le_refl→O5,ediv_mul_cancel→YW,toNat_of_nonneg→YX,lt_of_lt_of_le→Y7,gcd_comm→Ve,toNat→O7,neg_neg→Vk,pow_pos→Vl,ediv_nonneg→Zt,lt_irrefl→ZP,lt_or_le→ZV,le_trans→ZW,mul_one→Z1,dvd_gcd→Z4,dvd_add→Z5,pow_add→Z6,natAbs→aad
open Option.some renaming inj→lQ
open Rat renaming intCast_lt_intCast→vC,intCast_mul→sW,intCast_sub→uo,not_lt→lu,mul_lt_mul_of_pos_right→M8,mul_le_mul_of_nonneg_right→QJ,mul_lt_mul_right→CI,lt_of_mul_lt_mul_right→JQ,le_refl→xr,intCast_le_intCast→OB,le_trans→zR,intCast_inj→ES,le_of_mul_le_mul_right→Uq,le_antisymm→J7,not_le→zU,le_of_lt→EW,mul_pos→EX,intCast_pos→OU,intCast_neg→U3,lt_irrefl→U6,zero_mul→Vg,mul_eq_zero→Zu,mul_nonneg→Zy,div_lt_iff→ZA,lt_div_iff→ZC,mul_comm→ZY
open PySem.Builtin.Int renaming intBits→t9
open PyProof.Rows renaming boot_abs→Au,callWith_type1→JP,boot_tuple→JS,boot_isinstance→Ow,boot_list→Uu,boot_max→Ux,boot_all→Uz,assignInOrder_cons→UI,AllBare→xw,boot_sorted→Yv,envOfC→uB,subscriptTail_builtinR→YF,boot_bool→YK,boot_min→YR,IntsAre→C0,assignInOrder_nil→Y8,callWith_builtin1→aef,Subscript_→Vo,boot_int→aeG
open PySem.PyData renaming depthAll→Az,canLayAll0→EM,eqv→sR,eqvAll→CQ,depth→Vf
open List.Pairwise renaming sublist→zI
open Ne renaming symm→eG
open False renaming elim→lW
open PySem.SeqAt renaming shaped→uA,EqAt→aaa
open PySem.Builtin.List renaming listTooLong→Ox
open PySem.F renaming plainAttrs_list→Us,args_tuple_add_2→Yt,entry_tuple_add→Yy,slot_tuple_add→YE
open Array renaming length_toList→UB,toList→ZS
open PySem.BindsTo renaming of_defaults→UD
open PySem.Calls renaming Name_function_global→Yr,callWith_builtin→YH
open PySem.Obj renaming mapSeq→Kc
open PySem.Str renaming ofString→O3,empty→Vt
open PySem.SeqAt.EqAt renaming int_str→YZ,str_int→Y0,none_bool→aeH,bool_none→aeI,bool_bool→aeJ,none_int→aeL,none_str→aeM,bool_int→aeN,bool_str→aeO,int_none→aeP,int_bool→aeQ,str_none→aeR,str_bool→aeS,int_int→aeW,str_str→aeX,same→ae1
open PySem.Around renaming under→Va
open PySem.Code renaming isFrame→Vb,frames→Z3
open Sum.inl renaming inj→Vi
open PyProof.Rows.LSm renaming range_all→aeg,kept_iter→aeh,BoolsAre→aes
open PySem.EqNone renaming eq_none_none→aei,eq_none_bool→aej,eq_bool_none→aek,ne_none_none→aen,ne_none_bool→aeo,ne_bool_none→aep,eq_none_int→aet,eq_none_str→aeu,eq_int_none→aev,eq_str_none→aex,ne_none_int→aez,ne_none_str→aeA,ne_int_none→aeB,ne_str_none→aeD
open PySem.EqMixed renaming eq_bool_str→ael,eq_str_bool→aem,ne_bool_str→aeq,ne_str_bool→aer,eq_int_str→aew,eq_str_int→aey,ne_int_str→aeC,ne_str_int→aeE
open PySem.Value renaming isStrOf→ZF,isInt→ZZ
open Int.ofNat renaming inj→ZM
open List.cons renaming inj→ZO
open PyProof.Rows.IsTup renaming new→Vs
open PySem.Builtin.Range renaming rangeSize→aeF
open Sum.inr renaming inj→Z0
open PySem.MeetsSeq.EqGives renaming int→aeK
open List.Sublist renaming append→aeT,refl→ae0
open PySem.W.Looks renaming here→aeU
open PySem.Heap.IsSliceOf renaming new→aeV
open PySem.W.WShape renaming has→aab
open PySem.Within renaming cons→aeY
open PySem.Heap.SameBut renaming refl→aeZ
open PySem.Heap.DictOf renaming new→ae2
open Prod renaming fst→aae
abbrev c6:=@of_decide_eq_true
abbrev dz:=@decide_eq_true
abbrev gJ:=@decide_eq_false
abbrev jw:=@of_decide_eq_false
abbrev yQ:=@decide_eq_true_iff
abbrev CL:=@decide_eq_decide
abbrev qP:=@beq_iff_eq
abbrev JW:=@beq_eq_false_iff_ne
local macro_rules | `(tactic| simp?) => `(tactic| first | lia | omega)
set_option bootstrap.genMatcherCode false
namespace PySem.W.Fast
def tw12615771076968161073 := ()
def tw17138721012902117440 := ()
def tw6215950078585064512 := ()
def tw6677059236965102816 := ()
def tw6850275994975876352 := ()
def tw330897670204301632 := ()
def tw13764619641669618080 := ()
def tw14929020783861142976 := ()
def tw7769236289971760576 := ()
def tw13173191842404246176 := ()
def tw10617031615685662400 := ()
def tw8591047644520922816 := ()
def tw13513792287535392672 := ()
def tw16922026857383627680 := ()
def tw13473262918967718848 := ()
def tw7273604083589717057 := ()
def tw6517421626966063233 := ()
def tw10157657454836721921 := ()
def tw12580659122395270465 := ()
def tw7598189546655384001 := ()
def tw16585920088035453409 := ()
def tw11983534555889948193 := ()
def tw9930824077373885025 := ()
def tw8757457497275845249 := ()
def tw17858840391669667457 := ()
def tw4346765429631115905 := ()
def tw16423751385288152833 := ()
def tw15059219604329020161 := ()
def tw10388685895592526625 := ()
def tw13462675998607310625 := ()
def tw6593457101670798145 := ()
def tw4887468549833013121 := ()
def tw17531204331661552866 := ()
def tw15927005121358420354 := ()
def tw18258195328963929570 := ()
def tw12083307650684784130 := ()
def tw7575978369560259234 := ()
def tw13049395156190365410 := ()
def tw7243785381630778114 := ()
def tw3606855029505589058 := ()
def tw18188218737205642146 := ()
def tw15714518337127469986 := ()
def tw9795276906451637218 := ()
def tw8196182817347481603 := ()
def tw6233415794416504867 := ()
def tw9750923590574722179 := ()
def tw11949130321623170243 := ()
def tw17303664675896717507 := ()
def tw2176536975867601123 := ()
def tw6838194481622204835 := ()
def tw3033860698909543843 := ()
def tw10731185931175889347 := ()
def tw2988203471219506659 := ()
def tw12125565883528302115 := ()
def tw17517467147506391651 := ()
def tw14663708093071596355 := ()
def tw16173722891152510787 := ()
def tw13026250863942960067 := ()
def tw18428879120605617156 := ()
def tw15917253995111041092 := ()
def tw13622018300879772772 := ()
def tw5412471108193614948 := ()
def tw17436434884428508452 := ()
def tw11586039041996988868 := ()
def tw15972850121958603236 := ()
def tw2974896646326569444 := ()
def tw10385890598493888068 := ()
def tw17723002543083796036 := ()
def tw18052431508516691556 := ()
def tw11139541657491042916 := ()
def tw7193317993976027780 := ()
def tw11163632558105231268 := ()
def tw6410745075713118341 := ()
def tw13966345744529388677 := ()
def tw13110335963582902533 := ()
def tw1338740464065383717 := ()
def tw5233406569136986437 := ()
def tw11334315508713870693 := ()
def tw8566847956492178821 := ()
def tw5458074285519828389 := ()
def tw7403098860547332549 := ()
def tw3469960204818586085 := ()
def tw2641454435190675109 := ()
def tw14535067284870913701 := ()
def tw6605115867709921989 := ()
def tw15001259821735044837 := ()
def tw6804318379545319237 := ()
def tw7670870029276120933 := ()
def tw15575206202457983845 := ()
def tw11887514271580691333 := ()
def tw969256127334594501 := ()
def tw10888271484007850118 := ()
def tw11069431376218646694 := ()
def tw11084232124033143142 := ()
def tw1673082953444058470 := ()
def tw11360440582504783398 := ()
def tw12922500269397556774 := ()
def tw9423319679196112454 := ()
def tw6617691589823137350 := ()
def tw8889296975474450054 := ()
def tw2428453228451996358 := ()
def tw1894529394768194438 := ()
def tw6382227511493360518 := ()
def tw3203336763298040774 := ()
def tw4130230835415744615 := ()
def tw17691715331336582279 := ()
def tw16747290185952638183 := ()
def tw1768233324665923943 := ()
def tw17156571514177362311 := ()
def tw6121592969921695143 := ()
def tw1044740699465806375 := ()
def tw14083855744480510535 := ()
def tw126993074734441159 := ()
def tw5026052197477785319 := ()
def tw365331390699576135 := ()
def tw5546140329064509319 := ()
def tw3618385773149133735 := ()
def tw11374420064727951592 := ()
def tw10779193940930657512 := ()
def tw7391091180399856904 := ()
def tw18076166948535115016 := ()
def tw4435970189065002280 := ()
def tw12902385146300375432 := ()
def tw15039643324081851784 := ()
def tw14065653825468082664 := ()
def tw2566493876245092840 := ()
def tw771129813900272264 := ()
def tw2799944942589264776 := ()
def tw4219695766090664904 := ()
def tw3451935908600587240 := ()
def tw13252374433877035081 := ()
def tw240128504093336649 := ()
def tw9875096959318320201 := ()
def tw7158371601428610217 := ()
def tw14131117868577649833 := ()
def tw11220260848067264745 := ()
def tw3297798436036552009 := ()
def tw974711676284032329 := ()
def tw12713831050616205673 := ()
def tw8934773552933074377 := ()
def tw2956742512579016137 := ()
def tw10566719442027149769 := ()
def tw10517554307062387177 := ()
def tw18017214224585122281 := ()
def tw5370702128046824969 := ()
def tw2381707009946054185 := ()
def tw969999155298498281 := ()
def tw10402788504857862121 := ()
def tw9947595608079725674 := ()
def tw9785399748688149674 := ()
def tw5546524504582428938 := ()
def tw1702683270872747306 := ()
def tw9273779481789918634 := ()
def tw13809938115189977546 := ()
def tw660761232165704138 := ()
def tw15170068346097736298 := ()
def tw5544723989057418922 := ()
def tw15763475826907053770 := ()
def tw1718211898816691946 := ()
def tw16669671732751332234 := ()
def tw339640151074183082 := ()
def tw5063618916170893226 := ()
def tw18358984672072013770 := ()
def tw17917595250949116874 := ()
def tw2955891511448375339 := ()
def tw3287145200511118539 := ()
def tw18188545741878847819 := ()
def tw8703393695293341227 := ()
def tw14811716661087716939 := ()
def tw3367818937707283083 := ()
def tw13795478285837746859 := ()
def tw4489076308535499435 := ()
def tw6588695169004524363 := ()
def tw18325778498642506603 := ()
def tw15168092764383449003 := ()
def tw604670042920630187 := ()
def tw5633931498488006700 := ()
def tw5293702318376998348 := ()
def tw1466687696481738252 := ()
def tw16530448042835494444 := ()
def tw16470038215320752684 := ()
def tw956833020080113356 := ()
def tw8269176032495828748 := ()
def tw4498517935242158924 := ()
def tw14521762291853606828 := ()
def tw11127929780242758669 := ()
def tw2042679825210181837 := ()
def tw2894778380991218893 := ()
def tw14054452957713550541 := ()
def tw6671586004741943565 := ()
def tw14166835005327296845 := ()
def tw13395646635060431309 := ()
def tw14457184164154834381 := ()
def tw9806046620132632077 := ()
def tw151545933464201837 := ()
def tw12117248610181381741 := ()
def tw12882320481099895437 := ()
def tw11886722814604120749 := ()
def tw17232376875767856877 := ()
def tw7538473393311498061 := ()
def tw1707258754370808781 := ()
def tw3207710615361208398 := ()
def tw10577334211375656142 := ()
def tw18202513771550637390 := ()
def tw2641885542005875118 := ()
def tw15528923417287767502 := ()
def tw5213402639443436014 := ()
def tw5209570180665173614 := ()
def tw17143502757901552238 := ()
def tw15147963479522998958 := ()
def tw4633834844652830382 := ()
def tw9560690810518088398 := ()
def tw15023132745074293646 := ()
def tw12673825729586070575 := ()
def tw4806044795410199631 := ()
def tw13251361808581178447 := ()
def tw3476052700589163663 := ()
def tw1196656010477095183 := ()
def tw18286295767680081167 := ()
def tw10249439598773286191 := ()
def tw13577513297435349295 := ()
def tw4508727527063338415 := ()
def tw12063902881932244463 := ()
def tw12300348249593790991 := ()
def tw3900473949418786351 := ()
def tw10585458631598424687 := ()
def tw8523273113626678927 := ()
def tw343074549238470351 := ()
def tw7169903669994244943 := ()
def tw7396016046263291727 := ()
def tw2541047446029529935 := ()
def tw8140538537416076304 := ()
def tw4740408694707816464 := ()
def tw7791081595487632464 := ()
def tw13630609488383483120 := ()
def tw4618192960354665712 := ()
def tw1128547918248909328 := ()
def tw13033837285671482928 := ()
def tw15301924032900685456 := ()
def tw5787056006908446352 := ()
def tw9327173381589927600 := ()
def tw4962505498444256144 := ()
def tw15179658281836375952 := ()
def tw17118707849350664112 := ()
def tw9210497295011083216 := ()
def tw1728691455005512688 := ()
def tw6886652413477661809 := ()
def tw785046227002946897 := ()
def tw14060824778735038865 := ()
def tw17377211689318480305 := ()
def tw11635348402398804465 := ()
def tw424878826517874193 := ()
def tw14604298532061139537 := ()
def tw8391861906209450769 := ()
def tw14568874656024046353 := ()
def tw2587152440183761745 := ()
def tw7089999971933875153 := ()
def tw8240448373933474801 := ()
def tw7573773355896129586 := ()
def tw12876882633621011538 := ()
def tw16911620539219069042 := ()
def tw2152875216313135250 := ()
def tw8453992225416770834 := ()
def tw12513423245280190834 := ()
def tw4915154938475309554 := ()
def tw11444446565879083570 := ()
def tw7840113160772446898 := ()
def tw6016064504193284882 := ()
def tw15753213770672409394 := ()
def tw4510456001118987154 := ()
def tw2862084598697644179 := ()
def tw15664655916045544627 := ()
def tw2158215213495122227 := ()
def tw2264493239795718611 := ()
def tw14250709235363997299 := ()
def tw1740858450943187635 := ()
def tw17347248154580685523 := ()
def tw15043563286150157043 := ()
def tw6532335301021439731 := ()
def tw7705938647974582195 := ()
def tw17494307975457874899 := ()
def tw14204384925157642324 := ()
def tw2430976344776707220 := ()
def tw1096823335606204564 := ()
def tw11839638872596893876 := ()
def tw16485662430811789492 := ()
def tw15138629177489017044 := ()
def tw3021193758836659444 := ()
def tw13488087236078262548 := ()
def tw8126852351135488436 := ()
def tw5465164665843363380 := ()
def tw1722871340166132532 := ()
def tw10857039507825742708 := ()
def tw17575566785617133428 := ()
def tw7406682112887167892 := ()
def tw15144068144410243988 := ()
def tw5874323752580625364 := ()
def tw10649589364642607060 := ()
def tw6795848475995075669 := ()
def tw3271348765068258613 := ()
def tw15343504178739406229 := ()
def tw16963450482042757525 := ()
def tw13240330428990681525 := ()
def tw2350463055943863957 := ()
def tw16335841468818939733 := ()
def tw536395460255194997 := ()
def tw1197989316726152214 := ()
def tw12933429889877683254 := ()
def tw9598585089482295446 := ()
def tw10624489308856156406 := ()
def tw17868491206093017430 := ()
def tw16290649848671410678 := ()
def tw3292847493099903478 := ()
def tw14332623619369559542 := ()
def tw16143186014187898422 := ()
def tw14267546165170623062 := ()
def tw8710642293022131990 := ()
def tw12004275039628523382 := ()
def tw16592776615756839798 := ()
def tw3322461654581704598 := ()
def tw4641154728787423222 := ()
def tw235385597045413943 := ()
def tw8542219991197262903 := ()
def tw8938255702447893655 := ()
def tw4600233632885114039 := ()
def tw4599959294517558455 := ()
def tw14403500837237868023 := ()
def tw17222209109143387639 := ()
def tw13669201945799950999 := ()
def tw5951648864682424055 := ()
def tw17025301085021205239 := ()
def tw2161143449525565271 := ()
def tw7555735283987421047 := ()
def tw11718978945297792887 := ()
def tw708958860227765207 := ()
def tw7084083492296617080 := ()
def tw3126979000097609912 := ()
def tw1368952090843313400 := ()
def tw12522741005175505208 := ()
def tw11876819771681187192 := ()
def tw8688034848907756952 := ()
def tw14562764543865787960 := ()
def tw3514560753264916056 := ()
def tw17604882962646846168 := ()
def tw3674960854456788728 := ()
def tw14062693270305901400 := ()
def tw14775454471691511768 := ()
def tw4879666872671327257 := ()
def tw6644526641887434777 := ()
def tw2644680181983353 := ()
def tw4466045675105084665 := ()
def tw13430900374686855417 := ()
def tw14624888213408187705 := ()
def tw391620975309671737 := ()
def tw8993490217448862009 := ()
def tw17537218437321163097 := ()
def tw328997480854159705 := ()
def tw2186503798455678297 := ()
def tw11227442588205959513 := ()
def tw1402911427031205305 := ()
def tw4023376087068183001 := ()
def tw17002364950341131769 := ()
def tw13451705599829241433 := ()
def tw2876064929728440953 := ()
def tw15911539493054733945 := ()
def tw11848528672267741881 := ()
def tw9145448178803642105 := ()
def tw1165435395603846937 := ()
def tw2351131807382275929 := ()
def tw11173826871594713977 := ()
def tw14190506492194994041 := ()
def tw3313738833475741689 := ()
def tw10314474804305477658 := ()
def tw4145353007276357658 := ()
def tw7611916576153779290 := ()
def tw12714595861785251994 := ()
def tw2160415570433542970 := ()
def tw4257671708265162554 := ()
def tw14775217724617328602 := ()
def tw220148324446201883 := ()
def tw8822809218915684443 := ()
def tw17164079454524447867 := ()
def tw2687669737911435419 := ()
def tw1541508175947175067 := ()
def tw1178267063214653627 := ()
def tw15117311122696332475 := ()
def tw8951273891131866331 := ()
def tw9981053734456071419 := ()
def tw13519880724139247899 := ()
def tw137828282830743867 := ()
def tw7686845362482517403 := ()
def tw15822470772379487675 := ()
def tw7969396969236996635 := ()
def tw1252375666722674235 := ()
def tw1393470995169799771 := ()
def tw3259807772975850075 := ()
def tw6967906616611624571 := ()
def tw10437541015446821659 := ()
def tw5835387229223742427 := ()
def tw11273184533973265468 := ()
def tw6099924157884332316 := ()
def tw6249808829741730140 := ()
def tw8865738057062594012 := ()
def tw6408914322448044508 := ()
def tw5185152781307397628 := ()
def tw3866096121565348572 := ()
def tw15736809478353844956 := ()
def tw12207012490541947644 := ()
def tw13434712388679094044 := ()
def tw275215299577066300 := ()
def tw9641356697463901309 := ()
def tw14641463209124885629 := ()
def tw16754710975176097949 := ()
def tw11132429971690637501 := ()
def tw3658507231453600989 := ()
def tw17994761297020023165 := ()
def tw13273406765615452573 := ()
def tw1431299821557930461 := ()
def tw3582397297410375421 := ()
def tw8754267946164090653 := ()
def tw3704978993324429117 := ()
def tw13176607568250628061 := ()
def tw14853839449200193533 := ()
def tw8900669820045686814 := ()
def tw4067148339079398462 := ()
def tw12946842889797308510 := ()
def tw9000667387581625470 := ()
def tw4768094337295655070 := ()
def tw2644759691378632990 := ()
def tw2885437670005834014 := ()
def tw16885741580665014654 := ()
def tw15897362304340400638 := ()
def tw7791957120828463614 := ()
def tw3541941266324394686 := ()
def tw12967721987115462366 := ()
def tw10923292607774753502 := ()
def tw5220076346748137214 := ()
def tw5506869621687096126 := ()
def tw17211537986526873438 := ()
def tw6678196094997075806 := ()
def tw169607360811302015 := ()
def tw11502315353309032575 := ()
def tw17671212194801642879 := ()
def tw17329062180799665727 := ()
def tw12287911183884379711 := ()
def tw11762050645020267103 := ()
def tw6459243328665282143 := ()
def tw528129376813308543 := ()
def tw11565828859265928927 := ()
def tw12447518699366066111 := ()
def tw13398649726624040927 := ()
def tw18248531592067047423 := ()
end PySem.W.Fast
namespace L2
open PySem PySem.Spec PyProof.Rows
abbrev Key:=Sum Int Str
def Eg:Key→aH→Bool
 | .inl k,v=>ZZ k v
 | .inr x,v=>ZF x v
def afE (w:di):Key→Int
 | .inl k=>hashInt k
 | .inr x=>hashStr w x
theorem fm:∀{k:Key} {v:aH},Eg k v=true→(∃i t,k=Sum.inl i∧v=Value.int i t)∨(∃x t,k=Sum.inr x∧v=Value.str x t)
 | .inl i,v,h=>by
   obtain ⟨t,e⟩:=Value.isInt_shape (k:=i) (v:=v) h
   exact .inl ⟨i,t,rfl,e⟩
 | .inr x,v,h=>by
   obtain ⟨t,e⟩:=Value.isStrOf_shape (x:=x) (v:=v) h
   exact .inr ⟨x,t,rfl,e⟩
theorem P5 (i:Int) (t:Tok):Eg (.inl i) (.int i t)=true:=by simp [Eg,ZZ]
theorem P6 (x:Str) (t:Tok):Eg (.inr x) (.str x t)=true:=by simp [Eg,ZF]
theorem aa5 (a b:Int):decide ((Sum.inl a:Key)=Sum.inl b)=(a==b):=by
 by_cases e:a=b
 ·subst e;simp
 ·have h:¬(Sum.inl a:Key)=Sum.inl b:=fun q=>e (Vi q)
  rw [gJ h]
  exact (JW.mpr e).symm
theorem aa8 (a b:Str):decide ((Sum.inr a:Key)=Sum.inr b)=decide (a=b):=by
 by_cases e:a=b
 ·subst e;simp
 ·have h:¬(Sum.inr a:Key)=Sum.inr b:=fun q=>e (Z0 q)
  rw [gJ h,gJ e]
theorem aa6 (a:Int) (b:Str):decide ((Sum.inl a:Key)=Sum.inr b)=false:=gJ (fun q=>nomatch q)
theorem aa7 (a:Str) (b:Int):decide ((Sum.inr a:Key)=Sum.inl b)=false:=gJ (fun q=>nomatch q)
def iA (prog:gX) (w:di):PySem.KeyKind prog w Key where
 is:=Eg
 hash:=afE w
 inj:=fun v a b ha hb=>by
  rcases fm ha with ⟨i,t,rfl,rfl⟩ | ⟨x,t,rfl,rfl⟩
  ·rcases fm hb with ⟨j,u,rfl,e⟩ | ⟨y,u,rfl,e⟩
   ·injection e with e1 _;rw [e1]
   ·exact nomatch e
  ·rcases fm hb with ⟨j,u,rfl,e⟩ | ⟨y,u,rfl,e⟩
   ·exact nomatch e
   ·injection e with e1 _;rw [e1]
 byValue:=fun k v h=>by
  rcases fm h with ⟨i,t,rfl,rfl⟩ | ⟨x,t,rfl,rfl⟩ <;> rfl
 pyHash:=fun hv h=>by
  rcases fm hv with ⟨i,t,rfl,rfl⟩ | ⟨x,t,rfl,rfl⟩
  ·exact wpAny_pyHash_int h
  ·exact wpAny_pyHash_str h
 eqBool:=fun hu hv h=>by
  rcases fm hu with ⟨i,t,rfl,rfl⟩ | ⟨x,t,rfl,rfl⟩
  ·rcases fm hv with ⟨j,u,rfl,rfl⟩ | ⟨y,u,rfl,rfl⟩
   ·rw [aa5] at h;exact wpAny_eqBool_int h
   ·rw [aa6] at h;exact YZ i t y u _ _ _ _ h
  ·rcases fm hv with ⟨j,u,rfl,rfl⟩ | ⟨y,u,rfl,rfl⟩
   ·rw [aa7] at h;exact Y0 x t j u _ _ _ _ h
   ·rw [aa8] at h;exact wpAny_eqBool_str h
 «strs»:=fun k x t v h=>by
  rcases fm h with ⟨i,u,rfl,e⟩ | ⟨y,u,rfl,e⟩
  ·exact nomatch e
  ·injection e with e1 _
   subst e1
   cases v <;> rfl
theorem IW (prog:gX) (w:di) (i:Int) (t:Tok):(iA prog w).is (.inl i) (.int i t)=true:=P5 i t
theorem IX (prog:gX) (w:di) (x:Str) (t:Tok):(iA prog w).is (.inr x) (.str x t)=true:=P6 x t
inductive V where
 | bC | bl (b:Bool) | int (i:Int) | str (x:Str) | QM (b:Array UInt8) | flt (b:UInt64) | ref (a:ao) | ty (n:String)
 deriving DecidableEq
def RelV:V→aH→Prop
 | .bC,u=>u=Value.none
 | .bl b,u=>u=Value.bool b
 | .int i,u=>∃t,u=Value.int i t
 | .str x,u=>∃t,u=Value.str x t
 | .QM b,u=>∃t,u=Value.bytes b t
 | .flt b,u=>∃t,u=Value.float b t
 | .ref a,u=>u=Value.ref a
 | .ty n,u=>u=Value.type n
abbrev Vals:List V→List aH→Prop:=Paired RelV
theorem Vals.length (r:Vals xs us):xs.length=us.length:=Paired.length r
theorem Vals.get:∀{xs:List V} {us:List aH} {i:Nat} {x:V},Vals xs us→xs[i]?=some x→∃u,us[i]?=some u∧RelV x u
 | _,_,_,_,.nil,e=>by simp at e
 | _,_,0,_,.cons r _,e=>by simp at e;subst e;exact ⟨_,rfl,r⟩
 | _,_,i+1,x,.cons _ t,e=>by
   obtain ⟨u,h1,h2⟩:=Vals.get (i:=i) (x:=x) t (by simpa using e)
   exact ⟨u,by simpa using h1,h2⟩
theorem Vals.set (r:RelV x u):∀{xs:List V} {us:List aH} (i:Nat),Vals xs us→Vals (xs.set i x) (us.set i u)
 | _,_,_,.nil=>.nil
 | _,_,0,.cons _ t=>.cons r t
 | _,_,i+1,.cons q t=>.cons q (Vals.set r i t)
theorem Vals.append:∀{xs ys:List V} {us ws:List aH},Vals xs us→Vals ys ws→Vals (xs++ys) (us++ws)
 | _,_,_,_,.nil,s=>s
 | _,_,_,_,.cons r t,s=>.cons r (Vals.append t s)
theorem Vals.take:∀{xs:List V} {us:List aH} (n:Nat),Vals xs us→Vals (xs.take n) (us.take n)
 | _,_,0,_=>.nil
 | _,_,_+1,.nil=>.nil
 | _,_,n+1,.cons r t=>.cons r (Vals.take n t)
theorem Vals.drop:∀{xs:List V} {us:List aH} (n:Nat),Vals xs us→Vals (xs.drop n) (us.drop n)
 | _,_,0,r=>r
 | _,_,_+1,.nil=>.nil
 | _,_,n+1,.cons _ t=>Vals.drop n t
def tT:Option V→Option aH→Prop
 | some v,some u=>RelV v u
 | none,none=>True
 | _,_=>False
def KV {κ:Type}:List (κ×V)→List (κ×aH)→Prop:=Paired fun (p:κ×V) (q:κ×aH)=>p.1=q.1∧RelV p.2 q.2
def kV:Key→V
 | .inl i=>.int i
 | .inr x=>.str x
inductive HO where
 /-- a list -/
 | lst (xs:List V)
 /-- a tuple (never changes) -/
 | tup (xs:List V)
 /-- a dict whose keys are ints and texts;one whose keys are tuples of ints and texts (the empty one is both) -/
 | dK (kvs:List (Key×V)) | dT (kvs:List (List Key×V))
 /-- a set of ints: its members,its size -/
 | set (S:Int→Bool) (n:Nat)
 /-- an instance of the class at C,its dict at dx,its attributes -/
 | ins (C dx:ao) (fs:List (Str×V))
 /-- the dict of the instance at x -/
 | own (x:ao)
 /-- the dict of an exception -/
 | xd (fs:List (Str×V))
 /-- a bound method,f of x -/
 | met (f x:ao)
 /-- a range object lo,lo+1,.. below hi -/
 | rng (lo hi:Int)
 /-- a thing that is known to the object (the script;a dict while a loop walks it): read,never written while it is so -/
 | Nz (o:Obj) (u:HO)
 /-- a code object's table -/
 | tbl (ps:Array aH)
 /-- any other thing,by what is true of its one object (a def of one's own: SetO a S n:=HO.ext fun h=>..) -/
 | ext (φ:b8→Prop)
abbrev Hp:=ao→Option HO
def upd (H:Hp) (a:ao) (o:HO):Hp:=fun b=>if b=a then some o else H b
theorem av:upd H a o a=some o:=by unfold upd;rw [if_pos rfl]
theorem aI (h:b≠a):upd H a o b=H b:=by unfold upd;rw [if_neg h]
theorem qD:upd (upd H a o) a u=upd H a u:=by
 funext b;unfold upd;split <;> rfl
theorem adg {H:Hp} (h:H a=some o) (h':H b=some u) (d:o≠u):a≠b:=by
 intro e;subst e;rw [h] at h';exact d (lQ h')
theorem bA {H:Hp} (h:H a=some o) (h':H b=none):a≠b:=by
 intro e;subst e;rw [h] at h';cases h'
section
variable (P:gX) (w:di)
def dJ (H:Hp) (h:b8) (a:ao):HO→Prop
 | .lst xs=>xs.length≤sizeLine∧∃(its:List aH) (n:Nat),Vals xs its∧h.get? a=some { cls:=.type "list",data:=.seq its.toArray n }
 | .tup xs=>xs.length≤sizeLine∧∃its:List aH,Vals xs its∧IsTup h a its.toArray
 | .dK kvs=>kvs.length≤sizeLine∧(a==xu)=false∧∃vs,KV kvs vs∧h.DictOf (iA P w) a vs
 | .dT kvs=>kvs.length≤sizeLine∧(a==xu)=false∧∃xs:List (List Key×ao×aH),
  Paired (fun (p:List Key×V) (q:List Key×ao×aH)=>p.1=q.1∧H q.2.1=some (.tup (p.1.map kV))∧RelV p.2 q.2.2) kvs xs ∧
  ∃o es ep,h.get? a=some o∧o.ExactDict∧o.data=.dict es ep∧es.toList=xs.map (entryOfKey (tupleKind (iA P w)))∧(xs.map (·.1)).Nodup
 | .set S n=>h.SetOf (intKind P w) a S n
 | .ins C dx fs=>H dx=some (.own a)∧fs.length≤1000∧dx≠a∧h.get? a=some (zL C dx) ∧
  ∃mA,h.Ns1 dx mA∧(∀f,tT (fs.lookup f) (mA f))∧U8 mA (fs.map (·.1))
 | .own _=>∃o,h.get? a=some o
 | .xd fs=>∃mA,h.Ns1 a mA∧∀f,tT (fs.lookup f) (mA f)
 | .rng lo hi=>∃t u v,h.get? a=some { cls:=.type "range",data:=.fields #[.int lo t,.int hi u,.int 1 v] }
 | .Nz o u=>h.get? a=some o∧dJ H h a u
 | .tbl ps=>h.get? a=some { cls:=.none,data:=.fields ps }
 | .met f x=>h.get? a=some (UN (.ref f) (.ref x))
 | .ext φ=>φ h∧(∃o,h.get? a=some o)∧∀h1 h2:b8,φ h1→(∀o,h1.get? a=some o→h2.get? a=some o)→φ h2
def tF (H:Hp) (h:b8):Prop:=∀a o,H a=some o→dJ P w H h a o
end
section
theorem dJ.lt (x:dJ P w H h a o):a<h.objs.size:=by
 cases o with
 | lst xs=>obtain ⟨_,_,_,_,e⟩:=x;exact dY e
 | tup xs=>obtain ⟨_,_,_,p⟩:=x;exact p.lt
 | dK kvs=>obtain ⟨_,_,_,_,o,_,_,e,_⟩:=x;exact dY e
 | dT kvs=>obtain ⟨_,_,_,_,o,_,_,e,_⟩:=x;exact dY e
 | set S n=>obtain ⟨o,_,_,_,e,_⟩:=x;exact dY e
 | ins C dx fs=>obtain ⟨_,_,_,e,_⟩:=x;exact dY e
 | own y=>obtain ⟨_,e⟩:=x;exact dY e
 | xd fs=>obtain ⟨_,⟨_,_,_,e,_⟩,_⟩:=x;exact dY e
 | rng lo hi=>obtain ⟨_,_,_,e⟩:=x;exact dY e
 | Nz ob u=>obtain ⟨e,_⟩:=x;exact dY e
 | tbl ps=>exact dY (show h.get? a=some _ from x)
 | met f y=>exact dY (show h.get? a=some _ from x)
 | ext φ=>obtain ⟨_,⟨_,e⟩,_⟩:=x;exact dY e
theorem Paired.abh:∀{l₁:List α} {l₂:List β},Paired F l₁ l₂→(∀a b,F a b→G a b)→Paired G l₁ l₂
 | _,_,.nil,_=>.nil
 | _,_,.cons r t,f=>.cons (f _ _ r) (Paired.abh t f)
theorem dJ.stay (x:dJ P w H h a o) (k:∀b u,(b=a∨H b=some (.own a))→h.get? b=some u→h'.get? b=some u)
 (ho:∀b,H b=some (.own a)→H' b=some (.own a)) (ht:∀b xs,H b=some 0#s→H' b=some 0#s):dJ P w H' h' a o:=by
 induction o with
 | lst xs=>obtain ⟨z,its,n,r,e⟩:=x;exact ⟨z,its,n,r,k _ _ (.inl rfl) e⟩
 | tup xs=>obtain ⟨z,its,r,ob,e,c⟩:=x;exact ⟨z,its,r,ob,k _ _ (.inl rfl) e,c⟩
 | dK kvs=>obtain ⟨z,y,vs,r,ob,es,ep,e,c⟩:=x;exact ⟨z,y,vs,r,ob,es,ep,k _ _ (.inl rfl) e,c⟩
 | dT kvs=>
   obtain ⟨z,y,xs,r,ob,es,ep,e,c⟩:=x
   exact ⟨z,y,xs,Paired.abh r fun p q z=>⟨z.1,ht _ _ z.2.1,z.2.2⟩,ob,es,ep,k _ _ (.inl rfl) e,c⟩
 | set S n=>obtain ⟨ob,es,ep,t,e,c⟩:=x;exact ⟨ob,es,ep,t,k _ _ (.inl rfl) e,c⟩
 | ins C dx fs=>
   obtain ⟨d,z,ne,e,mA,⟨od,es,ep,e2,c⟩,r⟩:=x
   exact ⟨ho _ d,z,ne,k _ _ (.inl rfl) e,mA,⟨od,es,ep,k _ _ (.inr d) e2,c⟩,r⟩
 | own y=>obtain ⟨ob,e⟩:=x;exact ⟨ob,k _ _ (.inl rfl) e⟩
 | xd fs=>obtain ⟨mA,⟨od,es,ep,e,c⟩,r⟩:=x;exact ⟨mA,⟨od,es,ep,k _ _ (.inl rfl) e,c⟩,r⟩
 | rng lo hi=>obtain ⟨t,u,v,e⟩:=x;exact ⟨t,u,v,k _ _ (.inl rfl) e⟩
 | Nz ob u ih=>obtain ⟨e,q⟩:=x;exact ⟨k _ _ (.inl rfl) e,ih q⟩
 | tbl ps=>
   have e:h.get? a=some { cls:=.none,data:=.fields ps }:=x
   show h'.get? a=some { cls:=.none,data:=.fields ps }
   exact k a _ (.inl rfl) e
 | met f y=>
   have e:h.get? a=some (UN (.ref f) (.ref y)):=x
   show h'.get? a=some (UN (.ref f) (.ref y))
   exact k a _ (.inl rfl) e
 | ext φ=>obtain ⟨p,⟨o,e⟩,st⟩:=x;exact ⟨st _ _ p fun o q=>k _ _ (.inl rfl) q,⟨o,k _ _ (.inl rfl) e⟩,st⟩
theorem tF.lt (x:tF P w H h) (e:H a=some o):a<h.objs.size:=(x a o e).lt
theorem tF.fresh {a:ao} (x:tF P w H h) (e:h.objs.size≤a):H a=none:=by
 cases q:H a with
 | none=>rfl
 | some u=>exact absurd (pS (x.lt q) e) (zN _)
theorem tF.kept (x:tF P w H h) (k:∀b u,h.get? b=some u→h'.get? b=some u):tF P w H h':=fun a o e=>
 (x a o e).stay (fun b u _ q=>k b u q) (fun _ q=>q) fun _ _ q=>q
theorem tF.laid {a:ao} (x:tF P w H h) (k:∀b u,h.get? b=some u→h'.get? b=some u) (hp:h.objs.size≤a) (new:dJ P w (upd H a o) h' a o):tF P w (upd H a o) h':=fun b u e=>by
 have hn:=x.fresh hp
 by_cases hb:b=a
 ·subst hb;rw [av] at e;cases e;exact new
 ·rw [aI hb] at e
  exact (x b u e).stay (fun c v _ q=>k c v q) (fun c q=>by rw [aI (bA q hn)];exact q) fun c xs q=>by rw [aI (bA q hn)];exact q
end
def Rd (H:Hp) (a:ao) (u:HO):Prop:=H a=some u∨∃o,H a=some (.Nz o u)
theorem Rd.ok (r:Rd H a u) (x:tF P w H h):dJ P w H h a u:=by
 rcases r with r | ⟨o,r⟩
 ·exact x a u r
 ·obtain ⟨_,q⟩:=x a _ r
  exact q
def Mut:Option HO→Prop
 | some (.lst _)=>True
 | some (.dK _)=>True
 | some (.dT _)=>True
 | some (.set _ _)=>True
 | some (.ins _ _ _)=>True
 | some (.ext _)=>True
 | _=>False
section
theorem tF.write (ok:tF P w H h) (mu:Mut (H x)) (he:e=x∨H e=some (.own x)) (k:∀b u,b≠e→h.get? b=some u→h'.get? b=some u) (heo:∃u,h'.get? e=some u)
 (new:dJ P w (upd H x o') h' x o'):tF P w (upd H x o') h':=fun b u q=>by
 have adk:∀c y,H c=some (.own y)→c≠x:=fun c y r z=>by subst z;rw [r] at mu;exact mu
 have afR:∀c xs,H c=some 0#s→c≠x:=fun c xs r z=>by subst z;rw [r] at mu;exact mu
 by_cases hb:b=x
 ·subst hb;rw [av] at q;cases q;exact new
 ·rw [aI hb] at q
  by_cases hbe:b=e
  ·have q':H b=some (.own x):=by
    rcases he with z | z
    ·exact absurd (hbe.trans z) hb
    ·rw [hbe];exact z
   rw [q] at q';cases q'
   obtain ⟨v,hv⟩:=heo
   exact ⟨v,by rw [hbe];exact hv⟩
  ·refine (ok b u q).stay (fun c v hc r=>k c v ?_ r) (fun c r=>by rw [aI (adk c b r)];exact r) fun c xs r=>by rw [aI (afR c xs r)];exact r
   rcases hc with rfl | hc
   ·exact hbe
   ·rintro rfl
    rcases he with z | z
    ·exact adk c b hc z
    ·rw [hc] at z;cases z;exact hb rfl
end
structure Un (fs ex:List ao) (H H':Hp) (h h':b8):Prop where
 keep:∀b o,h.get? b=some o→H b=none→b∉fs→b∉ex→h'.get? b=some o
 slot:∀b o,h.get? b=some o→H b=none→b∈fs→b∉ex→∃sl,h'.get? b=some { o with slots:=sl }
 free:∀b o,h.get? b=some o→H b=none→b∉ex→H' b=none
 there:∀b o,h.get? b=some o→b∉ex→∃o',h'.get? b=some o'
 tups:∀b xs,H b=some 0#s→H' b=some 0#s
 Fw:∀b o u,H b=some (.Nz o u)→H' b=some (.Nz o u)
 JK:∀b ps,H b=some (.tbl ps)→∃more,H' b=some (.tbl (ps++more))
section
theorem Un.any (u:Un fs ex H H1 h h1)  (q:h.get? b=some ob) (n:H b=none) (hx:b∉ex):∃sl,h1.get? b=some { ob with slots:=sl }:=by
 by_cases hb:b∈fs
 ·exact u.slot b ob q n hb hx
 ·exact ⟨ob.slots,u.keep b ob q n hb hx⟩
theorem Un.kept (k:∀b u,h.get? b=some u→h'.get? b=some u):Un fs ex H H h h':=
 ⟨fun b ob q _ _ _=>k b ob q,fun b ob q _ _ _=>⟨ob.slots,k b ob q⟩,fun _ _ _ n _=>n,fun b ob q _=>⟨ob,k b ob q⟩,fun _ _ q=>q,fun _ _ _ q=>q,fun _ ps q=>⟨#[],by rw [q];simp⟩⟩
theorem Un.refl:Un fs ex H H h h:=Un.kept fun _ _ q=>q
theorem Un.laid {h:b8} {a:ao} (k:∀b u,h.get? b=some u→h'.get? b=some u) (hp:h.objs.size≤a) (hn:H a=none):Un fs ex H (upd H a o) h h' where
 keep:=fun b u q _ _ _=>k b u q
 slot:=fun b u q _ _ _=>⟨u.slots,k b u q⟩
 free:=fun b u q n _=>by rw [aI (jP (pS (dY q) hp))];exact n
 there:=fun b u q _=>⟨u,k b u q⟩
 tups:=fun b xs q=>by rw [aI (bA q hn)];exact q
 Fw:=fun b u xs q=>by rw [aI (bA q hn)];exact q
 JK:=fun b ps q=>⟨#[],by rw [aI (bA q hn),q];simp⟩
theorem Un.write (mu:Mut (H x)) (he:e=x∨H e=some (.own x)) (k:∀b u,b≠e→h.get? b=some u→h'.get? b=some u) (heo:∃u,h'.get? e=some u):Un fs ex H (upd H x o) h h':=by
 have hx:∀b,H b=none→b≠x:=fun b n z=>by subst z;rw [n] at mu;exact mu
 have hb:∀b,H b=none→b≠e:=fun b n z=>by
  subst z
  rcases he with r | r
  ·exact hx b n r
  ·rw [n] at r;cases r
 have hm:∀b u,H b=some u→¬Mut (some u)→b≠x:=fun b u q nm z=>by subst z;rw [q] at mu;exact nm mu
 refine ⟨fun b u q n _ _=>k b u (hb b n) q,fun b u q n _ _=>⟨u.slots,k b u (hb b n) q⟩,fun b u q n _=>by rw [aI (hx b n)];exact n,fun b u q _=>?_,
  fun b xs q=>by rw [aI (hm b _ q fun z=>z)];exact q,fun b u xs q=>by rw [aI (hm b _ q fun z=>z)];exact q,fun b ps q=>⟨#[],by rw [aI (hm b _ q fun z=>z),q];simp⟩⟩
 by_cases hbe:b=e
 ·subst hbe;exact heo
 ·exact ⟨u,k b u hbe q⟩
end
def trk (h:b8) (H:Hp):List ao:=(kq h.objs.size).filter fun a=>(H a).isSome
def FJ (h:b8) (H:Hp):b8:=PySem.W.hideAll h (trk h H)
theorem PU (h:b8) (H:Hp):(FJ h H).objs.size=h.objs.size:=PySem.W.hideAll_size _ _
theorem RX (e:h.get? b=some o) (n:H b=none):(FJ h H).get? b=some o:=
 PySem.W.hideAll_get _ e fun hm=>by
  have q:(H b).isSome=true:=(vG.mp hm).2
  rw [n] at q;simp at q
theorem WS (e:(FJ h H).get? b=some o):h.get? b=some o∧H b=none:=by
 have e':h.get? b=some o:=PySem.W.of_hideAll (trk h H) e
 refine ⟨e',?_⟩
 cases q:H b with
 | none=>rfl
 | some x=>
   have hm:b∈trk h H:=vG.mpr ⟨xD.mpr (dY e'),by simp [q]⟩
   have z:(FJ h H).get? b=none:=PySem.W.hideAll_none (trk h H) hm
   rw [z] at e;cases e
structure Mod (K:bM) (mg:Str→Option aH) (base:b8):Prop where
 kin:K.In base
 glob:base.Ns fE mg
 blt:∃mb,base.Ns builtinsNs mb∧∀x:Str,x ≠ "__name__"→mb x=uz x
 nolimit:base.NoLimit
structure Cx where
 prog:gX
 w:di
 K:bM
 mg:Str→Option aH
 base:b8
 A:nG
 N:List Str
 s₀:aU
 H₀:Hp
 env:Env
 outer:List Env
 stack:List Env
 ex:List ao
 fn:Str→Bool
 calm:Bool
 pn:List (ao×Obj)
 xe:aH→aU→Prop
def frs (l:List Env):List ao:=l.filterMap (·.frame)
abbrev Cx.fs (X:Cx):List ao:=frs X.outer
def Vis (sc:om) (x:Str):Prop:=sc.names.lookup x=some .local∨sc.names.lookup x=some .cell∨sc.names.lookup x=some .free
def Loc (sc:om) (x:Str):Prop:=sc.names.lookup x=some .local∨sc.names.lookup x=some .cell
def Look (env:Env) (h:b8) (m:Str→Option aH) (x:Str) (u:aH):Prop:=
 (env.kindOf x=some .local∧m x=some u)∨((env.kindOf x=some .cell∨env.kindOf x=some .free)∧∃c,env.cells.lookup x=some c∧h.IsCell c (some u))
structure Cx.Ok (X:Cx):Prop where
 mod:Mod X.K X.mg X.base
 kind:X.env.scope.kind=.function
 glob:X.env.globals=fE
 blt:X.env.builtins=builtinsNs
 above:X.s₀.heap.objs.size≤X.env.locals
 inj:∀x y c,X.env.cells.lookup x=some c→X.env.cells.lookup y=some c→x=y
 has:∀x,(X.env.kindOf x=some .cell∨X.env.kindOf x=some .free)→∃c,X.env.cells.lookup x=some c
 XW:∀x c,X.fn x=true→X.env.cells.lookup x=some c→X.s₀.heap.objs.size≤c
 hd:X.calm=true→X.A.handled=none
 frames:X.A.frames=some X.stack
 stk:X.stack=X.outer∨(X.stack=X.env::X.outer∧X.env.frame=some X.env.locals)
 exf:∀b∈X.ex,b≠X.env.locals∧∀x c,X.env.cells.lookup x=some c→c≠b
 bs:∀b o,X.base.get? b=some o→X.s₀.heap.get? b=some o∧X.H₀ b=none
 VR:X.base.objs.size≤X.s₀.heap.objs.size
 Qe:∀b o,X.base.get? b=some o→b∉X.ex
 V8:∀b∈X.ex,b∉X.fs
 z5:X.s₀.heap.FunFrames X.base X.outer
 frf:∀b∈X.fs,X.H₀ b=none
structure Inv (X:Cx) (pins:List (ao×Obj)) (σ:List (Option V)) (H:Hp) (s:aU):Prop where
 ok:X.Ok
 os:s.os=X.s₀.os
 bare:xw s.gens
 base:Un X.fs X.ex X.H₀ H X.s₀.heap s.heap
 loc:∃m,s.heap.Ns X.env.locals m∧∀(i:Nat) (x:Str) (v:V),X.N[i]?=some x→σ[i]?=some (some v)→Vis X.env.scope x→∃u,RelV v u∧Look X.env s.heap m x u
 cell:∀x c,X.env.cells.lookup x=some c→∃v,s.heap.IsCell c v
 free:H X.env.locals=none
 rE:∀x c,X.env.cells.lookup x=some c→H c=none
 pin:∀p∈X.pn++pins,s.heap.get? p.1=some p.2∧H p.1=none∧p.1≠X.env.locals∧p.1∉X.fs∧∀v,p.2.data≠.cell v
 hok:tF X.prog X.w H s.heap
 len:σ.length=X.N.length
section
theorem Cx.Ok.afP {X:Cx} (ok:X.Ok)  (e:X.base.get? b=some o):b∉X.fs:=fun hb=>by
 have:=(ok.z5.mem hb).1
 rw [e] at this;cases this
theorem Inv.bs (I:Inv X pins σ H s):∀b o,X.base.get? b=some o→s.heap.get? b=some o∧H b=none:=fun b o e=>
 ⟨I.base.keep b o (I.ok.bs b o e).1 (I.ok.bs b o e).2 (I.ok.afP e) (I.ok.Qe b o e),I.base.free b o (I.ok.bs b o e).1 (I.ok.bs b o e).2 (I.ok.Qe b o e)⟩
theorem Inv.bk (I:Inv X pins σ H s):∀b o,X.base.get? b=some o→s.heap.get? b=some o:=fun b o e=>(I.bs b o e).1
theorem Inv.mod (I:Inv X pins σ H s):Mod X.K X.mg X.base:=I.ok.mod
theorem Inv.xX (I:Inv X pins σ H s):X.K.In s.heap:=I.ok.mod.kin.keeps I.bk
theorem Inv.lt (I:Inv X pins σ H s):X.env.locals<s.heap.objs.size:=let ⟨_,hn,_⟩:=I.loc;hn.lt
theorem Inv.sz (I:Inv X pins σ H s):X.s₀.heap.objs.size≤s.heap.objs.size:=dI I.ok.above (ur I.lt)
theorem Inv.afQ (I:Inv X pins σ H s) {a:ao} (h:s.heap.objs.size≤a):a∉X.fs:=fun hb=>by
 obtain ⟨_,o,ho,_⟩:=I.ok.z5.mem hb
 exact absurd (pS (dY ho) (dI I.sz h)) (zN _)
theorem Inv.cne (I:Inv X pins σ H s):∀x c,X.env.cells.lookup x=some c→c≠X.env.locals:=fun x c e z=>by
 obtain ⟨v,o,ho,hd⟩:=I.cell x c e
 obtain ⟨m,⟨o',es,ep,ho',hd',_⟩,_⟩:=I.loc
 rw [z,ho'] at ho;cases ho;rw [hd'] at hd;cases hd
theorem Inv.z5 (I:Inv X pins σ H s):s.heap.FunFrames X.base X.outer:=by
 have all:∀(l:List Env),(∀b∈frs l,b∈X.fs)→X.s₀.heap.FunFrames X.base l→s.heap.FunFrames X.base l:=by
  intro l
  induction l with
  | nil=>intro _ _;trivial
  | cons env r ih=>
    intro hs hl
    obtain ⟨hk,⟨L,o,hf,hn,ho,hd⟩,hr⟩:=hl
    have hL:L∈X.fs:=hs L (by unfold frs;rw [Av,hf];exact xB)
    obtain ⟨sl,e⟩:=I.base.slot L o ho (I.ok.frf L hL) hL fun z=>I.ok.V8 L z hL
    exact ⟨hk,⟨L,_,hf,hn,e,hd⟩,ih (fun b hb=>hs b (by unfold frs;rw [Av,hf];exact vE _ hb)) hr⟩
 exact all X.outer (fun _ hb=>hb) I.ok.z5
theorem Inv.stack (I:Inv X pins σ H s):s.heap.FunFrames X.base X.stack:=by
 rcases I.ok.stk with e | ⟨e,hf⟩
 ·rw [e];exact I.z5
 ·rw [e]
  obtain ⟨m,hn,_⟩:=I.loc
  refine .cons (by rw [I.ok.kind];decide) hf hn ?_ I.z5
  exact Heap.get?_none_of_le (dI I.ok.VR I.ok.above)
theorem Inv.yM (I:Inv X pins σ H s):∀b∈frs X.stack,b∈X.env.locals::X.fs:=fun b hb=>by
 rcases I.ok.stk with e | ⟨e,hf⟩
 ·rw [e] at hb;exact vE _ hb
 ·rw [e] at hb
  unfold frs at hb
  rw [Av,hf] at hb
  exact hb
theorem Inv.Hx (I:Inv X pins σ H s):∀b∈frs X.stack,H b=none:=fun b hb=>by
 rcases lg.mp (I.yM b hb) with e | hb
 ·rw [e];exact I.free
 ·obtain ⟨_,o,ho,_⟩:=I.ok.z5.mem hb
  exact I.base.free b o ho (I.ok.frf b hb) fun z=>I.ok.V8 b z hb
theorem Inv.step {ch:List ao} (I:Inv X pins σ H s)
 (hch:∀b∈ch,(b∈X.ex∨X.s₀.heap.objs.size≤b)∧b≠X.env.locals∧(∀x c,X.env.cells.lookup x=some c→c≠b)∧∀p∈X.pn++pins,p.1≠b)
 (keep:∀b o,b≠X.env.locals→b∉X.fs→b∉ch→s.heap.get? b=some o→H b=none→h'.get? b=some o)
 (slot:∀b o,b≠X.env.locals→b∈X.fs→b∉ch→s.heap.get? b=some o→H b=none→∃sl,h'.get? b=some { o with slots:=sl }) (free:∀b o,b∉ch→s.heap.get? b=some o→H b=none→H' b=none)
 (there:∀b o,b∉ch→s.heap.get? b=some o→∃o',h'.get? b=some o')
 (tups:∀b xs,H b=some 0#s→H' b=some 0#s) (Fw:∀b o u,H b=some (.Nz o u)→H' b=some (.Nz o u)) (JK:∀b ps,H b=some (.tbl ps)→∃more,H' b=some (.tbl (ps++more)))
 (ns:∀m,s.heap.Ns X.env.locals m→h'.Ns X.env.locals m) (hok:tF X.prog X.w H' h') (hg:xw g') :
 Inv X pins σ H' { s with heap:=h',gens:=g',drawn:=d',toks:=t' }:=by
 have neL:∀b o,X.s₀.heap.get? b=some o→b≠X.env.locals:=fun b o e=>jP (pS (dY e) I.ok.above)
 have neC:∀b o,X.s₀.heap.get? b=some o→b∉X.ex→b∉ch:=fun b o e hx hb=>by
  rcases (hch b hb).1 with z | z
  ·exact hx z
  ·exact absurd (pS (dY e) z) (zN _)
 have cellK:∀x c,X.env.cells.lookup x=some c→∀v,s.heap.IsCell c v→h'.IsCell c v:=fun x c e v ⟨o,ho,hd⟩=>by
  have nch:c∉ch:=fun z=>(hch c z).2.2.1 x c e rfl
  by_cases hc:c∈X.fs
  ·obtain ⟨sl,q⟩:=slot c o (I.cne x c e) hc nch ho (I.rE x c e)
   exact ⟨_,q,hd⟩
  ·exact ⟨o,keep c o (I.cne x c e) hc nch ho (I.rE x c e),hd⟩
 refine ⟨I.ok,I.os,hg,⟨fun b o e n hb hx=>?_,fun b o e n hb hx=>?_,fun b o e n hx=>?_,fun b o e hx=>?_,fun b xs e=>tups b xs (I.base.tups b xs e),fun b o xs e=>Fw b o xs (I.base.Fw b o xs e),fun b ps e=>?_⟩,?_,fun x c e=>?_,?_,fun x c e=>?_,fun p hp=>?_,hok,I.len⟩
 ·exact keep b o (neL b o e) hb (neC b o e hx) (I.base.keep b o e n hb hx) (I.base.free b o e n hx)
 ·obtain ⟨sl,e1⟩:=I.base.slot b o e n hb hx
  obtain ⟨sl',e2⟩:=slot b _ (neL b o e) hb (neC b o e hx) e1 (I.base.free b o e n hx)
  exact ⟨sl',e2⟩
 ·obtain ⟨o',e1⟩:=I.base.there b o e hx
  exact free b o' (neC b o e hx) e1 (I.base.free b o e n hx)
 ·obtain ⟨o',e1⟩:=I.base.there b o e hx
  exact there b o' (neC b o e hx) e1
 ·obtain ⟨m1,e1⟩:=I.base.JK b ps e
  obtain ⟨m2,e2⟩:=JK b _ e1
  exact ⟨m1++m2,by rw [e2,Array.append_assoc]⟩
 ·obtain ⟨m,hn,hl⟩:=I.loc
  refine ⟨m,ns m hn,fun i x v e1 e2 e3=>?_⟩
  obtain ⟨u,r,l⟩:=hl i x v e1 e2 e3
  refine ⟨u,r,?_⟩
  rcases l with l | ⟨k,c,e,z⟩
  ·exact .inl l
  ·exact .inr ⟨k,c,e,cellK x c e _ z⟩
 ·obtain ⟨v,z⟩:=I.cell x c e
  exact ⟨v,cellK x c e v z⟩
 ·obtain ⟨m,⟨o,_,_,ho,_⟩,_⟩:=I.loc
  exact free _ o (fun z=>(hch _ z).2.1 rfl) ho I.free
 ·obtain ⟨v,o,ho,hd⟩:=I.cell x c e
  exact free c o (fun z=>(hch c z).2.2.1 x c e rfl) ho (I.rE x c e)
 ·obtain ⟨e,n,ne,nf,d⟩:=I.pin p hp
  have nch:p.1∉ch:=fun z=>(hch p.1 z).2.2.2 p hp rfl
  exact ⟨keep p.1 p.2 ne nf nch e n,free p.1 p.2 nch e n,ne,nf,d⟩
theorem Inv.un (I:Inv X pins σ H s) (u:Un X.fs [] H H' s.heap h') (hok:tF X.prog X.w H' h'):Inv X pins σ H' { s with heap:=h',toks:=t' }:=by
 obtain ⟨m,⟨o,es,ep,ho,r⟩,_⟩:=id I.loc
 obtain ⟨sl,hL⟩:=u.any ho I.free 0#f
 exact I.step (g':=s.gens) (d':=s.drawn) (ch:=[]) (fun _ z=>nomatch z) (fun b o _ hb _ e n=>u.keep b o e n hb 0#f) (fun b o _ hb _ e n=>u.slot b o e n hb 0#f) (fun b o _ e n=>u.free b o e n 0#f) (fun b o _ e=>u.there b o e 0#f) u.tups u.Fw u.JK (fun m' hm=>by
  obtain ⟨o',es',ep',ho',r'⟩:=hm
  rw [ho] at ho';cases ho'
  exact ⟨_,es',ep',hL,r'⟩) hok I.bare
theorem Inv.call (I:Inv X pins σ H s) (u:Un (frs X.stack) ch H H' s.heap h') (hok:tF X.prog X.w H' h') (hg:xw g')
 (hch:∀b∈ch,(b∈X.ex∨X.s₀.heap.objs.size≤b)∧b≠X.env.locals∧(∀x c,X.env.cells.lookup x=some c→c≠b)∧∀p∈X.pn++pins,p.1≠b) :
 Inv X pins σ H' { s with heap:=h',gens:=g',drawn:=d',toks:=t' }:=by
 obtain ⟨m,⟨o,es,ep,ho,r⟩,_⟩:=id I.loc
 obtain ⟨sl,hL⟩:=u.any ho I.free fun z=>(hch _ z).2.1 rfl
 exact I.step (ch:=ch) hch (fun b o hL hb hc e n=>u.keep b o e n (fun z=>(lg.mp (I.yM b z)).elim hL hb) hc) (fun b o _ _ hc e n=>u.any e n hc) (fun b o hc e n=>u.free b o e n hc) (fun b o hc e=>u.there b o e hc) u.tups u.Fw u.JK (fun m' hm=>by
  obtain ⟨o',es',ep',ho',r'⟩:=hm
  rw [ho] at ho';cases ho'
  exact ⟨_,es',ep',hL,r'⟩) hok hg
theorem Inv.turned (I:Inv X pins σ H s) (k:∀b o,b≠it→s.heap.get? b=some o→h'.get? b=some o) (hn:H it=none) (hL:it≠X.env.locals)
 (h1:it∈X.ex∨X.s₀.heap.objs.size≤it) (h2:∀x c,X.env.cells.lookup x=some c→c≠it) (h3:∀p∈X.pn++pins,p.1≠it):Inv X pins σ H { s with heap:=h',toks:=t' }:=by
 have nit:∀b u,H b=some u→b≠it:=fun b u e z=>by rw [z,hn] at e;cases e
 refine I.step (g':=s.gens) (d':=s.drawn) (ch:=[it]) (fun b hb=>?_) (fun b o _ _ hc e _=>k b o (fun z=>hc (by simp [z])) e) (fun b o _ _ hc e _=>⟨o.slots,k b o (fun z=>hc (by simp [z])) e⟩) (fun _ _ _ _ n=>n)
  (fun b o hc e=>⟨o,k b o (fun z=>hc (by simp [z])) e⟩) (fun _ _ e=>e) (fun _ _ _ e=>e) (fun b ps e=>⟨#[],by rw [e];simp⟩) (fun m hm=>?_) (fun b u e=>?_) I.bare
 ·have e:b=it:=by simpa using hb
  subst e
  exact ⟨h1,hL,h2,h3⟩
 ·obtain ⟨o,es,ep,ho,r⟩:=hm
  exact ⟨o,es,ep,k _ o (eG hL) ho,r⟩
 ·refine (I.hok b u e).stay (fun c v hc q=>k c v ?_ q) (fun _ q=>q) fun _ _ q=>q
  rcases hc with z | z
  ·rw [z];exact nit b u e
  ·exact nit c _ z
theorem Inv.tok (I:Inv X pins σ H s) (t:Nat):Inv X pins σ H { s with toks:=t }:=I.un (h':=s.heap) (t':=t) Un.refl I.hok
theorem Inv.kept (I:Inv X pins σ H s) (k:∀b u,s.heap.get? b=some u→h'.get? b=some u):Inv X pins σ H { s with heap:=h',toks:=t' }:=I.un (Un.kept k) (I.hok.kept k)
theorem Inv.laid {a:ao} (I:Inv X pins σ H s) (k:∀b u,s.heap.get? b=some u→h'.get? b=some u) (hp:s.heap.objs.size≤a) (new:dJ X.prog X.w (upd H a o) h' a o) :
 Inv X pins σ (upd H a o) { s with heap:=h',toks:=t' }:=I.un (Un.laid k hp (I.hok.fresh hp)) (I.hok.laid k hp new)
theorem Inv.write (I:Inv X pins σ H s) (mu:Mut (H x)) (he:e=x∨H e=some (.own x)) (k:∀b u,b≠e→s.heap.get? b=some u→h'.get? b=some u) (heo:∃u,h'.get? e=some u)
 (new:dJ X.prog X.w (upd H x o) h' x o):Inv X pins σ (upd H x o) { s with heap:=h',toks:=t' }:=I.un (Un.write mu he k heo) (I.hok.write mu he k heo new)
theorem Inv.NZ (I:Inv X pins σ H s) (h:∀p∈ado,s.heap.get? p.1=some p.2∧H p.1=none∧p.1≠X.env.locals∧p.1∉X.fs∧∀v,p.2.data≠.cell v):Inv X ado σ H s:=
 ⟨I.ok,I.os,I.bare,I.base,I.loc,I.cell,I.free,I.rE,fun p hp=>(dH.mp hp).elim (fun z=>I.pin p (JV _ z)) (h p),I.hok,I.len⟩
theorem IY {N:List Str} (hN:N.Nodup) {i:Nat} (a:N[i]?=some x) (b:N[j]?=some x):i=j:=by
 obtain ⟨h1,e1⟩:=fZ.mp a
 obtain ⟨h2,e2⟩:=fZ.mp b
 exact (List.getElem_inj hN).mp (e1.trans e2.symm)
theorem yN {X:Cx} {pins:List (ao×Obj)} {σ:List (Option V)} {H:Hp} {s:aU} {M:Model} {A:nG} {E:aH→aU→Prop} {i:Nat} {x:Str} {v:V} {u:aH} {Q:Unit→aU→Prop} (I:Inv X pins σ H s) (hN:X.N.Nodup) (hi:X.N[i]?=some x) (hx:Loc X.env.scope x) (r:RelV v u)
 (h:∀s',Inv X pins (σ.set i (some v)) H s'→(∃a,zP a s.heap s'.heap∧(a=X.env.locals∨X.env.cells.lookup x=some a))→Q () s') (hf:X.fn x=true∨X.env.scope.names.lookup x=some .local:=by first | exact .inl rfl | exact .inr rfl | assumption):bF M A (storeName X.env x u) Q E s:=by
 obtain ⟨m,hn,hl⟩:=id I.loc
 have hcls:(X.env.scope.kind==.class||(X.env.scope.kind==.module&&X.env.locals != X.env.globals))=false:=by rw [I.ok.kind];rfl
 have acW:i<σ.length:=by rw [I.len];exact (fZ.mp hi).1
 have cne:=I.cne
 have tracked:∀{a:ao} {h':b8},(∃o,s.heap.get? a=some o∧H a=none)→zP a s.heap h'→tF X.prog X.w H h':=fun {a h'} ha hs b ob e=>by
  obtain ⟨_,_,hfree⟩:=ha
  refine (I.hok b ob e).stay (fun c w' hc q=>(hs.2 c ?_).trans q) (fun _ q=>q) fun _ _ q=>q
  rintro rfl
  rcases hc with rfl | hc
  ·rw [hfree] at e;cases e
  ·rw [hfree] at hc;cases hc
 rcases hx with hk | hk
 ·refine wpAny_storeName_local hk hn (fun h' hn' hs=>?_) hcls
  obtain ⟨oL,_,_,hoL,_⟩:=id hn
  refine h _ ⟨I.ok,I.os,I.bare,⟨fun b o e n hb hx=>?_,fun b o e n hb hx=>?_,I.base.free,fun b o e hx=>?_,I.base.tups,I.base.Fw,I.base.JK⟩,⟨_,hn',fun j y v' e1 e2 e3=>?_⟩,fun y c e=>?_,I.free,I.rE,fun p hp=>?_,tracked ⟨oL,hoL,I.free⟩ hs,by simpa using I.len⟩ ⟨_,hs,.inl rfl⟩
  ·exact (hs.2 b (jP (pS (dY e) I.ok.above))).trans (I.base.keep b o e n hb hx)
  ·obtain ⟨sl,e1⟩:=I.base.slot b o e n hb hx
   exact ⟨sl,(hs.2 b (jP (pS (dY e) I.ok.above))).trans e1⟩
  ·obtain ⟨o',e1⟩:=I.base.there b o e hx
   exact ⟨o',(hs.2 b (jP (pS (dY e) I.ok.above))).trans e1⟩
  ·by_cases hj:j=i
   ·subst hj
    rw [hi] at e1;cases e1
    rw [YB acW] at e2
    cases e2
    exact ⟨u,r,.inl ⟨hk,by simp⟩⟩
   ·rw [YS (eG hj)] at e2
    obtain ⟨u',r',q⟩:=hl j y v' e1 e2 e3
    refine ⟨u',r',?_⟩
    rcases q with ⟨k,e⟩ | ⟨k,c,e,z⟩
    ·refine .inl ⟨k,?_⟩
     have:y≠x:=fun e=>hj (IY hN e1 (e▸hi))
     simp [this,e]
    ·exact .inr ⟨k,c,e,z.sameBut hs (cne y c e)⟩
  ·obtain ⟨w',z⟩:=I.cell y c e
   exact ⟨w',z.sameBut hs (cne y c e)⟩
  ·obtain ⟨e,n,ne,nf,d⟩:=I.pin p hp
   exact ⟨(hs.2 p.1 ne).trans e,n,ne,nf,d⟩
 ·have hfn:X.fn x=true:=by
   rcases hf with z | z
   ·exact z
   ·rw [z] at hk;cases hk
  obtain ⟨c,hc⟩:=I.ok.has x (.inl hk)
  obtain ⟨w',z⟩:=I.cell x c hc
  refine wpAny_storeName_cell I.ok.kind hk hc z (fun h' hc' hs=>?_)
  obtain ⟨oc,hoc,aft⟩:=id z
  refine h { s with heap:=h' } ⟨I.ok,I.os,I.bare,⟨fun b o e n hb hx=>?_,fun b o e n hb hx=>?_,I.base.free,fun b o e hx=>?_,I.base.tups,I.base.Fw,I.base.JK⟩,⟨m,hn.sameBut hs (eG (cne x c hc)),fun j y v' e1 e2 e3=>?_⟩,fun y c' e=>?_,I.free,I.rE,fun p hp=>?_,tracked ⟨oc,hoc,I.rE x c hc⟩ hs,by simpa using I.len⟩ ⟨c,hs,.inr hc⟩
  ·exact (hs.2 b (jP (pS (dY e) (I.ok.XW x c hfn hc)))).trans (I.base.keep b o e n hb hx)
  ·obtain ⟨sl,e1⟩:=I.base.slot b o e n hb hx
   exact ⟨sl,(hs.2 b (jP (pS (dY e) (I.ok.XW x c hfn hc)))).trans e1⟩
  ·obtain ⟨o',e1⟩:=I.base.there b o e hx
   exact ⟨o',(hs.2 b (jP (pS (dY e) (I.ok.XW x c hfn hc)))).trans e1⟩
  ·by_cases hj:j=i
   ·subst hj
    rw [hi] at e1;cases e1
    rw [YB acW] at e2
    cases e2
    exact ⟨u,r,.inr ⟨.inl hk,c,hc,hc'⟩⟩
   ·rw [YS (eG hj)] at e2
    obtain ⟨u',r',q⟩:=hl j y v' e1 e2 e3
    refine ⟨u',r',?_⟩
    rcases q with q | ⟨k,c',e,z'⟩
    ·exact .inl q
    ·refine .inr ⟨k,c',e,z'.sameBut hs ?_⟩
     rintro rfl
     exact hj (IY hN e1 (I.ok.inj _ _ _ e hc▸hi))
  ·by_cases hcc:c'=c
   ·subst hcc;exact ⟨_,hc'⟩
   ·obtain ⟨w2,z2⟩:=I.cell y c' e
    exact ⟨w2,z2.sameBut hs hcc⟩
  ·obtain ⟨e,n,ne,nf,d⟩:=I.pin p hp
   refine ⟨(hs.2 p.1 ?_).trans e,n,ne,nf,d⟩
   intro q
   rw [q,hoc] at e
   have q':oc=p.2:=lQ e
   exact d w' (by rw [← q'];exact aft)
theorem wW {X:Cx} {pins:List (ao×Obj)} {σ:List (Option V)} {H:Hp} {s:aU} {M:Model} {A:nG} {E:aH→aU→Prop} {i:Nat} {x:Str} {v:V} {u:aH} {Q:Unit→aU→Prop} (I:Inv X pins σ H s) (hN:X.N.Nodup) (hi:X.N[i]?=some x) (hx:Loc X.env.scope x) (r:RelV v u)
 (h:∀s',Inv X pins (σ.set i (some v)) H s'→Q () s') (hf:X.fn x=true∨X.env.scope.names.lookup x=some .local:=by first | exact .inl rfl | exact .inr rfl | assumption):bF M A (storeName X.env x u) Q E s:=
 yN I hN hi hx r (fun s' I' _=>h s' I') hf
theorem Inv.Rm (I:Inv X pins σ H s) (ho:s'.os=s.os) (u:Un (frs X.stack) ch H H' s.heap s'.heap) (hok:tF X.prog X.w H' s'.heap) (hg:xw s'.gens)
 (hch:∀b∈ch,(b∈X.ex∨X.s₀.heap.objs.size≤b)∧b≠X.env.locals∧(∀x c,X.env.cells.lookup x=some c→c≠b)∧∀p∈X.pn++pins,p.1≠b):Inv X pins σ H' s':=by
 obtain ⟨h',g',d',t',o'⟩:=s'
 have e:o'=s.os:=ho
 subst e
 exact I.call (g':=g') (t':=t') (d':=d') u hok hg hch
end
abbrev XK:=aH→Option ao→Hp→Prop
abbrev St:=List (Option V)
abbrev VK:=V→Hp→Prop
abbrev TE:=St→Hp→VK→Prop
abbrev TT:=St→Hp→(Bool→Hp→Prop)→Prop
abbrev TA:=St→Hp→(List V→Hp→Prop)→Prop
structure Ends where
 nx:St→Hp→Prop
 rt:VK
 bk:St→Hp→Prop:=fun _ _=>False
 ct:St→Hp→Prop:=fun _ _=>False
abbrev TS:=Ends→St→Hp→Prop
def EP (X:Cx) (pins:List (ao×Obj)) (σ:St) (Q:VK) (u:aH) (s':aU):Prop:=∃v H',Inv X pins σ H' s'∧RelV v u∧Q v H'
def TP (X:Cx) (pins:List (ao×Obj)) (σ:St) (Q:Bool→Hp→Prop) (b:Bool) (s':aU):Prop:=∃H',Inv X pins σ H' s'∧Q b H'
def AP (X:Cx) (pins:List (ao×Obj)) (σ:St) (Q:List V→Hp→Prop) (us:List aH) (s':aU):Prop:=∃vs H',Inv X pins σ H' s'∧Vals vs us∧Q vs H'
def SP (X:Cx) (pins:List (ao×Obj)) (D:Ends) (f:Flow) (s':aU):Prop:=
 match f with
 | .next=>∃σ' H',Inv X pins σ' H' s'∧D.nx σ' H'
 | .brk=>∃σ' H',Inv X pins σ' H' s'∧D.bk σ' H'
 | .cont=>∃σ' H',Inv X pins σ' H' s'∧D.ct σ' H'
 | .ret u=>∃v σ' H',Inv X pins σ' H' s'∧RelV v u∧D.rt v H'
def PE (X:Cx) (e:bf) (t:TE):Prop:=
 ∀(pins:List (ao×Obj)) (s:aU) (σ:St) (H:Hp) (Q:VK),Inv X pins σ H s→t σ H Q→bF 0#l X.A (eval e X.env) (EP X pins σ Q) X.xe s
def PT (X:Cx) (e:bf) (t:TT):Prop:=
 ∀(pins:List (ao×Obj)) (s:aU) (σ:St) (H:Hp) (Q:Bool→Hp→Prop),Inv X pins σ H s→t σ H Q→bF 0#l X.A (isTrue e X.env (eval e X.env)) (TP X pins σ Q) X.xe s
def PW (X:Cx) (e:bf) (t:TT):Prop:=
 ∀(whole:Sem aH) (pins:List (ao×Obj)) (s:aU) (σ:St) (H:Hp) (Q:Bool→Hp→Prop),Inv X pins σ H s→t σ H Q→bF 0#l X.A (isTrue e X.env whole) (TP X pins σ Q) X.xe s
theorem PW.pt (h:PW X e t):PT X e t:=h _
def PA (X:Cx) (es:List bf) (t:TA):Prop:=
 ∀(pos:Pos) (pins:List (ao×Obj)) (s:aU) (σ:St) (H:Hp) (Q:List V→Hp→Prop),Inv X pins σ H s→t σ H Q→bF 0#l X.A (spliced (gC pos (aY es X.env))) (AP X pins σ Q) X.xe s
def PS (X:Cx) (st:aQ) (t:TS):Prop:=
 ∀(pins:List (ao×Obj)) (s:aU) (σ:St) (H:Hp) (D:Ends),Inv X pins σ H s→t D σ H→bF 0#l X.A (exec st X.env) (SP X pins D) X.xe s
def Km (X:Cx) (st:List aQ) (t:TS):Prop:=
 ∀(pins:List (ao×Obj)) (s:aU) (σ:St) (H:Hp) (D:Ends),Inv X pins σ H s→t D σ H→bF 0#l X.A (execs st X.env) (SP X pins D) X.xe s
theorem fF (h:bF M A t Q E s) (hQ:∀a s,Q a s→Q' a s):bF M A t Q' E s:=pT h hQ fun _ _ x=>x
section
def CC (i:Nat):TE:=fun σ H Q=>∃v,σ[i]?=some (some v)∧Q v H
def tC (v:V):TE:=fun _ H Q=>Q v H
theorem abt (hN:X.N[i]?=some x) (hv:Vis X.env.scope x) (hd:0#w=false:=by decide) (hcd:(x==("__classdict__":Str))=false:=by decide):PE X (.Name x pos) (CC i):=by
 intro pins s σ H Q I h
 obtain ⟨v,e,h⟩:=h
 obtain ⟨m,hn,hl⟩:=I.loc
 obtain ⟨u,r,l⟩:=hl i x v hN e hv
 have fin:EP X pins σ Q u s:=⟨v,H,I,r,h⟩
 rcases l with ⟨hk,hm⟩ | ⟨hk,c,hc,hcell⟩
 ·exact Vm (wpAny_loadName_local I.ok.kind hk hn hm fin) hd
 ·rcases hk with hk | hk
  ·exact Vm (wpAny_loadName_cell I.ok.kind hk hc hcell fin) hd
  ·exact Vm (wpAny_loadName_free I.ok.kind hk hc hcell fin hcd) hd
theorem BO {X:Cx} {i j pos}:PE X (.Constant (.int i) j pos) (tC (.int i)):=fun _ _ _ H _ I h=>wpAny_Constant_int ⟨.int i,H,I.tok _,⟨_,rfl⟩,h⟩
theorem S4 {X:Cx} {b j pos}:PE X (.Constant (.bool b) j pos) (tC (.bl b)):=fun _ _ _ H _ I h=>Constant_bool ⟨.bl b,H,I,rfl,h⟩
theorem Mc {X:Cx} {j pos}:PE X (.Constant .none j pos) (tC .bC):=fun _ _ _ H _ I h=>Constant_none ⟨.bC,H,I,rfl,h⟩
theorem Mg {X:Cx} {x j pos}:PE X (.Constant (.str x) j pos) (tC (.str x)):=fun _ _ _ H _ I h=>Calls.Constant_str ⟨.str x,H,I.tok _,⟨_,rfl⟩,h⟩
def Gl (X:Cx) (x:Str):Prop:=X.env.kindOf x=some .globalImplicit
theorem AI {σ:St} (I:Inv X pins σ H s) (hg:Gl X x) (hm:X.mg x=some u) (h:Q u s)
 (hd:0#w=false:=by decide):bF 0#l X.A (eval (.Name x pos) X.env) Q E s:=
 Yr I.ok.kind hg (Calls.loadGlobal_global (by rw [I.ok.glob];exact I.mod.glob.keeps I.bk) hm h) hd
theorem uW {σ:St} (I:Inv X pins σ H s) (hg:Gl X x) (hm:X.mg x=none) (hv:uz x=some u) (h:Q u s)
 (hn:x ≠ "__name__":=by decide) (hd:0#w=false:=by decide):bF 0#l X.A (eval (.Name x pos) X.env) Q E s:=by
 obtain ⟨mb,h1,h2⟩:=I.mod.blt
 exact Yr I.ok.kind hg (Calls.loadGlobal_builtin (by rw [I.ok.glob];exact I.mod.glob.keeps I.bk) hm (by rw [I.ok.blt];exact h1.keeps I.bk) ((h2 x hn).trans hv) h) hd
theorem NX (hg:Gl X x) (hm:X.mg x=some u) (r:RelV v u) (hd:0#w=false:=by decide):PE X (.Name x pos) (tC v):=
 fun _ _ _ H _ I h=>AI I hg hm ⟨v,H,I,r,h⟩ hd
theorem W6 (hg:Gl X x) (hm:X.mg x=none) (hv:uz x=some u) (r:RelV v u) (hn:x ≠ "__name__":=by decide) (hd:0#w=false:=by decide):PE X (.Name x pos) (tC v):=
 fun _ _ _ H _ I h=>uW I hg hm hv ⟨v,H,I,r,h⟩ hn hd
def tB (t:TE):TT:=fun σ H Q=>t σ H fun x H1=>∃c,x=.bl c∧Q c H1
theorem Mq {X:Cx} {e:bf} {t:TE} (h:PE X e t) (he:∀whole,isTrue e X.env whole=(do let v ← whole;xx e.pos;holding [v] (truthy v)):=by intro _;rfl):PT X e (tB t):=by
 intro pins s σ H Q I hw
 refine isTrue_plain (fF (h pins s σ H _ I hw) fun v s1 ⟨x,H1,I1,r1,q1⟩=>?_) (he _)
 obtain ⟨d,rfl,q⟩:=q1
 cases r1
 exact zJ ⟨H1,I1,q⟩
def ab5 (t u:TT):TT:=fun σ H Q=>t σ H fun c H1=>if c=true then u σ H1 Q else Q false H1
def tOr (t u:TT):TT:=fun σ H Q=>t σ H fun c H1=>if c=true then Q true H1 else u σ H1 Q
def acd (t:TT):TT:=fun σ H Q=>t σ H fun c H1=>Q (!c) H1
theorem kH (ha:PT X a tA):PW X (.BoolOp .And [a] pos) tA:=by
 intro wh pins s σ H Q I h
 refine isTrue_and (fF (ha pins s σ H Q I h) fun c s1 e=>?_)
 cases c with
 | true=>exact isTrue_and_nil e
 | false=>exact e
theorem lG (ha:PT X a tA):PW X (.BoolOp .Or [a] pos) tA:=by
 intro wh pins s σ H Q I h
 refine isTrue_or (fF (ha pins s σ H Q I h) fun c s1 e=>?_)
 cases c with
 | false=>exact isTrue_or_nil e
 | true=>exact e
theorem mV (ha:PT X a tA) (hb:PW X (.BoolOp .And (b::rest) pos) tB'):PW X (.BoolOp .And (a::b::rest) pos) (ab5 tA tB'):=by
 intro wh pins s σ H Q I h
 refine isTrue_and (fF (ha pins s σ H _ I h) fun c s1 ⟨H1,I1,q1⟩=>?_)
 cases c with
 | true=>exact hb wh pins s1 σ H1 Q I1 q1
 | false=>exact ⟨H1,I1,q1⟩
theorem nQ (ha:PT X a tA) (hb:PW X (.BoolOp .Or (b::rest) pos) tB'):PW X (.BoolOp .Or (a::b::rest) pos) (tOr tA tB'):=by
 intro wh pins s σ H Q I h
 refine isTrue_or (fF (ha pins s σ H _ I h) fun c s1 ⟨H1,I1,q1⟩=>?_)
 cases c with
 | true=>exact ⟨H1,I1,q1⟩
 | false=>exact hb wh pins s1 σ H1 Q I1 q1
theorem qi (ha:PT X a tA):PT X (.UnaryOp .Not a pos) (acd tA):=by
 intro pins s σ H Q I h
 exact isTrue_not (ha pins s σ H (fun c H1=>Q (!c) H1) I h)
def Ua (ta tb:TE):TE:=fun σ H Q=>ta σ H fun x H1=>∃c,x=.bl c∧if c=true then tb σ H1 Q else Q (.bl false) H1
def ace (ta tb:TE):TE:=fun σ H Q=>ta σ H fun x H1=>∃c,x=.bl c∧if c=true then Q (.bl true) H1 else tb σ H1 Q
def Ug (ta:TE):TE:=fun σ H Q=>ta σ H fun x H1=>∃c,x=.bl c∧Q (.bl (!c)) H1
theorem Mf {X:Cx} {a:bf} {pos:Pos} {op} {t:TE} (h:PE X a t):PE X (.BoolOp op [a] pos) t:=fun pins s σ H Q I hw=>BoolOp_one (h pins s σ H Q I hw)
theorem lF (ha:PE X a ta) (hb:PE X (.BoolOp .And (b::rest) pos) tb):PE X (.BoolOp .And (a::b::rest) pos) (Ua ta tb):=by
 intro pins s σ H Q I h
 refine BoolOp_and (fF (ha pins s σ H _ I h) fun v s1 ⟨x,H1,I1,r1,q1⟩=>?_)
 obtain ⟨c,rfl,q1⟩:=q1
 cases r1
 refine zJ ?_
 cases c with
 | true=>exact hb pins s1 σ H1 Q I1 q1
 | false=>exact ⟨.bl false,H1,I1,rfl,q1⟩
theorem NY (ha:PE X a ta) (hb:PE X (.BoolOp .Or (b::rest) pos) tb):PE X (.BoolOp .Or (a::b::rest) pos) (ace ta tb):=by
 intro pins s σ H Q I h
 refine BoolOp_or (fF (ha pins s σ H _ I h) fun v s1 ⟨x,H1,I1,r1,q1⟩=>?_)
 obtain ⟨c,rfl,q1⟩:=q1
 cases r1
 refine zJ ?_
 cases c with
 | false=>exact hb pins s1 σ H1 Q I1 q1
 | true=>exact ⟨.bl true,H1,I1,rfl,q1⟩
theorem Me (ha:PE X a ta):PE X (.UnaryOp .Not a pos) (Ug ta):=by
 intro pins s σ H Q I h
 refine UnaryOp_ (fF (ha pins s σ H _ I h) fun v s1 ⟨x,H1,I1,r1,q1⟩=>?_)
 obtain ⟨c,rfl,q1⟩:=q1
 cases r1
 exact not_of (zJ ⟨.bl (!c),H1,I1,rfl,q1⟩)
def tIf (t:TT) (ta tb:TE):TE:=fun σ H Q=>t σ H fun c H1=>if c=true then ta σ H1 Q else tb σ H1 Q
theorem rR (hc:PT X c tA) (ha:PE X a ta) (hb:PE X b tb):PE X (.IfExp c a b pos) (tIf tA ta tb):=by
 intro pins s σ H Q I h
 refine wpAny_IfExp (fF (hc pins s σ H _ I h) fun d s1 ⟨H1,I1,q1⟩=>?_)
 cases d with
 | true=>exact ha pins s1 σ H1 Q I1 q1
 | false=>exact hb pins s1 σ H1 Q I1 q1
end
def aW (K:bM) (H:Hp) (a:ao) (xs:List V):Prop:=
 Rd H a (.lst xs) ∨
  ∃(o:Obj) (its:Array aH) (n:Nat),K.lookup a=some o∧o.cls=.type "list"∧o.dict=none∧o.data=.seq its n∧its.size≤sizeLine∧Vals xs its.toList
def nI (K:bM) (H:Hp) (a:ao) (xs:List V):Prop:=
 Rd H a 0#s ∨
  ∃(o:Obj) (its:Array aH) (n:Nat),K.lookup a=some o∧o.cls=.type "tuple"∧o.data=.seq its n∧its.size≤sizeLine∧Vals xs its.toList
def ae8:aH→Option V
 | .none=>some .bC
 | .bool b=>some (.bl b)
 | .int i _=>some (.int i)
 | .str x _=>some (.str x)
 | .bytes b _=>some (.QM b)
 | .float b _=>some (.flt b)
 | .ref a=>some (.ref a)
 | .type n=>some (.ty n)
 | _=>none
theorem RelV.abs (r:RelV x u):ae8 u=some x:=by
 cases x with
 | bC=>cases r;rfl
 | bl _=>cases r;rfl
 | int _=>obtain ⟨t,rfl⟩:=r;rfl
 | str _=>obtain ⟨t,rfl⟩:=r;rfl
 | QM _=>obtain ⟨t,rfl⟩:=r;rfl
 | flt _=>obtain ⟨t,rfl⟩:=r;rfl
 | ref _=>cases r;rfl
 | ty _=>cases r;rfl
theorem RelV.inj (r:RelV x u) (q:RelV y u):x=y:=lQ (r.abs.symm.trans q.abs)
theorem Vals.inj:∀{xs ys:List V} {us:List aH},Vals xs us→Vals ys us→xs=ys
 | _,_,_,.nil,.nil=>rfl
 | _,_,_,.cons r t,.cons r' t'=>by rw [r.inj r',Vals.inj t t']
section
theorem aW.of {K:bM} (h:H a=some (.lst xs)):aW K H a xs:=.inl (.inl h)
theorem nI.of {K:bM} (h:H a=some 0#s):nI K H a xs:=.inl (.inl h)
theorem Inv.list {σ:St} (I:Inv X pins σ H s) (h:aW X.K H a xs):∃its:List aH,Vals xs its∧PlainL s.heap a its.toArray∧xs.length≤sizeLine:=by
 rcases h with h | ⟨o,its,n,hk,hc,hd,hs,hz,r⟩
 ·obtain ⟨z,its,n,r,e⟩:=h.ok I.hok
  exact ⟨its,r,⟨_,n,e,rfl,rfl,rfl⟩,z⟩
 ·refine ⟨its.toList,r,⟨o,n,I.xX a o hk,hc,hd,by simpa using hs⟩,?_⟩
  have e:=r.length
  simp only [UB] at e
  simp?
theorem Inv.tuple {σ:St} (I:Inv X pins σ H s) (h:nI X.K H a xs):∃its:List aH,Vals xs its∧IsTup s.heap a its.toArray∧xs.length≤sizeLine:=by
 rcases h with h | ⟨o,its,n,hk,hc,hs,hz,r⟩
 ·obtain ⟨z,its,r,p⟩:=h.ok I.hok
  exact ⟨its,r,p,z⟩
 ·refine ⟨its.toList,r,⟨o,I.xX a o hk,hc,n,by simpa using hs⟩,?_⟩
  have e:=r.length
  simp only [UB] at e
  simp?
theorem Inv.vS {σ:St} (I:Inv X pins σ H s) (h:aW X.K H a xs) (h':aW X.K H a ys):xs=ys:=by
 obtain ⟨its,r,⟨o,n,e,_,_,d⟩,_⟩:=I.list h
 obtain ⟨its',r',⟨o',n',e',_,_,d'⟩,_⟩:=I.list h'
 rw [e] at e';cases e'
 rw [d] at d'
 injection d' with d1 _
 have:its=its':=by simpa using congrArg ZS d1
 subst this
 exact r.inj r'
theorem Inv.QC {σ:St} (I:Inv X pins σ H s) (h:nI X.K H a xs) (h':nI X.K H a ys):xs=ys:=by
 obtain ⟨its,r,⟨o,e,_,n,d⟩,_⟩:=I.tuple h
 obtain ⟨its',r',⟨o',e',_,n',d'⟩,_⟩:=I.tuple h'
 rw [e] at e';cases e'
 rw [d] at d'
 injection d' with d1 _
 have:its=its':=by simpa using congrArg ZS d1
 subst this
 exact r.inj r'
end
abbrev Cx.DP (X:Cx) (E:aH→aU→Prop):Cx:={ X with xe:=E }
abbrev Cx.nox (X:Cx):Cx:=X.DP fun _ _=>False
theorem Cx.Ok.DP {X:Cx} (ok:X.Ok) (E:aH→aU→Prop):(X.DP E).Ok:=
 ⟨ok.mod,ok.kind,ok.glob,ok.blt,ok.above,ok.inj,ok.has,ok.XW,ok.hd,ok.frames,ok.stk,ok.exf,ok.bs,ok.VR,ok.Qe,ok.V8,ok.z5,ok.frf⟩
theorem Cx.Ok.sN {X:Cx} (ok:(X.DP E).Ok):X.Ok:=
 ⟨ok.mod,ok.kind,ok.glob,ok.blt,ok.above,ok.inj,ok.has,ok.XW,ok.hd,ok.frames,ok.stk,ok.exf,ok.bs,ok.VR,ok.Qe,ok.V8,ok.z5,ok.frf⟩
section
theorem Inv.DP {σ:St} (I:Inv X pins σ H s) (E:aH→aU→Prop):Inv (X.DP E) pins σ H s:=⟨I.ok.DP E,I.os,I.bare,I.base,I.loc,I.cell,I.free,I.rE,I.pin,I.hok,I.len⟩
theorem Inv.sN {σ:St} (I:Inv (X.DP E) pins σ H s):Inv X pins σ H s:=⟨I.ok.sN,I.os,I.bare,I.base,I.loc,I.cell,I.free,I.rE,I.pin,I.hok,I.len⟩
theorem SP.sN (h:SP (X.DP E) pins D f s'):SP X pins D f s':=by
 cases f with
 | next=>obtain ⟨σ',H',I,q⟩:=h;exact ⟨σ',H',I.sN,q⟩
 | brk=>obtain ⟨σ',H',I,q⟩:=h;exact ⟨σ',H',I.sN,q⟩
 | cont=>obtain ⟨σ',H',I,q⟩:=h;exact ⟨σ',H',I.sN,q⟩
 | ret u=>obtain ⟨v,σ',H',I,r,q⟩:=h;exact ⟨v,σ',H',I.sN,r,q⟩
theorem Km.nox {st:List aQ} (h:Km X.nox st t):Km X st t:=fun pins s σ H D I hw=>
 pT (h pins s σ H D (I.DP _) hw) (fun _ _ q=>q.sN) fun _ _ z=>lW z
def Ue:TS:=fun D σ H=>D.nx σ H
def Ar (t u:TS):TS:=fun D σ H=>t { D with nx:=u D } σ H
theorem Gz {X:Cx}:Km X [] Ue:=fun _ _ σ H _ I h=>OR ⟨σ,H,I,h⟩
theorem BS {X:Cx} {st:aQ} {rest:List aQ} {t u:TS} (h1:PS X st t) (h2:Km X rest u):Km X (st::rest) (Ar t u):=by
 intro pins s σ H D I h
 refine Zh (fF (h1 pins s σ H { D with nx:=u D } I h) fun f s1 q=>?_)
 cases f with
 | next=>
   obtain ⟨σ',H',I',q⟩:=q
   exact h2 pins s1 σ' H' D I' q
 | ret v=>exact q
 | brk=>exact q
 | cont=>exact q
theorem GA {X:Cx} {st:aQ} {t:TS} (h1:PS X st t):Km X [st] t:=by
 intro pins s σ H D I h
 refine Zh (fF (h1 pins s σ H D I h) fun f s1 q=>?_)
 cases f with
 | next=>exact OR q
 | ret v=>exact q
 | brk=>exact q
 | cont=>exact q
theorem Inv.quiet {σ:St} (I:Inv X pins σ H s):interactive X.env=false:=by simp [interactive,I.ok.kind]
def Oo (te:TE):TS:=fun D σ H=>te σ H fun _ H1=>D.nx σ H1
theorem Gw {X:Cx} {e:bf} {te:TE} {pos:Pos} (he:PE X e te) (hs:jI e none pos.line X.env=pure false:=by rfl):PS X (.Expr e pos) (Oo te):=by
 intro pins s σ H D I h
 exact wpAny_Expr_any (fF (he pins s σ H _ I h) fun v s1 ⟨x,H1,I1,r1,q1⟩=>⟨σ,H1,I1,q1⟩) I.quiet hs
def acg (te:TE):TS:=fun D σ H=>te σ H D.rt
theorem Mp {X:Cx} {e:bf} {te:TE} {pos:Pos} (he:PE X e te):PS X (.Return (some e) pos) (acg te):=by
 intro pins s σ H D I h
 exact wpAny_Return_some (fF (he pins s σ H _ I h) fun v s1 ⟨x,H1,I1,r1,q1⟩=>⟨x,σ,H1,I1,r1,q1⟩)
def ab8 (c:TT) (t u:TS):TS:=fun D σ H=>c σ H fun b H1=>if b=true then t D σ H1 else u D σ H1
theorem Tf {X:Cx} {t u:TS} {pos:Pos} {c:bf} {a b:List aQ} {tc:TT} (hc:PT X c tc) (ha:Km X a t) (hb:Km X b u):PS X (.If c a b pos) (ab8 tc t u):=by
 intro pins s σ H D I h
 refine wpAny_If (fF (hc pins s σ H _ I h) fun d s1 ⟨H1,I1,q1⟩=>?_)
 cases d with
 | true=>exact ha pins s1 σ H1 D I1 q1
 | false=>exact hb pins s1 σ H1 D I1 q1
def Ud:TS:=fun _ _ _=>False
theorem jD {st:aQ}:PS X st Ud:=fun _ _ _ _ _ _ h=>h.elim
end
abbrev TG:=V→St→Hp→(St→Hp→Prop)→Prop
abbrev VN:=List V→St→Hp→(St→Hp→Prop)→Prop
def PG (X:Cx) (target:bf) (t:TG):Prop:=
 ∀(pins:List (ao×Obj)) (s:aU) (σ:St) (H:Hp) (v:V) (u:aH) (Q:St→Hp→Prop),Inv X pins σ H s→RelV v u→t v σ H Q →
  bF 0#l X.A (assign target X.env u) (fun _ s'=>∃σ' H',Inv X pins σ' H' s'∧Q σ' H') X.xe s
def XQ (X:Cx) (ts:List bf) (t:VN):Prop:=
 ∀(pins:List (ao×Obj)) (s:aU) (σ:St) (H:Hp) (vs:List V) (us:List aH) (Q:St→Hp→Prop),Inv X pins σ H s→Vals vs us→t vs σ H Q →
  bF 0#l X.A (assignInOrder ((nK ts X.env).map (·.2)) us) (fun _ s'=>∃σ' H',Inv X pins σ' H' s'∧Q σ' H') X.xe s
abbrev acv:=V→V→V→Hp→(Hp→Prop)→Prop
def aah (X:Cx) (t:acv):Prop:=
 ∀(pins:List (ao×Obj)) (s:aU) (σ:St) (H:Hp) (o i v:V) (ov iv u:aH) (Q:Hp→Prop),Inv X pins σ H s→RelV o ov→RelV i iv→RelV v u→t o i v H Q →
  bF 0#l X.A (setItem ov iv u) (fun _ s'=>∃H',Inv X pins σ H' s'∧Q H') X.xe s
section
def ia (i:Nat):TG:=fun v σ H Q=>Q (σ.set i (some v)) H
theorem Gq {X:Cx} {pos:Pos} {i:Nat} {x:Str} (hN:X.N.Nodup) (hi:X.N[i]?=some x) (hx:Loc X.env.scope x) (hf:X.fn x=true∨X.env.scope.names.lookup x=some .local:=by first | exact .inl rfl | exact .inr rfl | assumption):PG X (.Name x pos) (ia i):=by
 intro pins s σ H v u Q I r h
 exact UO (wW I hN hi hx r (fun s' I'=>⟨_,H,I',h⟩) hf)
def Pq:VN:=fun vs σ H Q=>vs=[]∧Q σ H
def qH (t:TG) (u:VN):VN:=fun vs σ H Q=>∃v r,vs=v::r∧t v σ H fun σ' H'=>u r σ' H' Q
theorem Gr {X:Cx}:XQ X [] Pq:=by
 intro pins s σ H vs us Q I r h
 obtain ⟨e,h⟩:=h
 subst e
 cases r
 exact Y8 ⟨σ,H,I,h⟩
theorem BQ {X:Cx} {e:bf} {es:List bf} {t:TG} {u:VN} (h1:PG X e t) (h2:XQ X es u)
 (hs:(nK (e::es) X.env).map (·.2)=assign e X.env::(nK es X.env).map (·.2):=by rfl):XQ X (e::es) (qH t u):=by
 intro pins s σ H vs us Q I r h
 obtain ⟨v,vr,e1,h⟩:=h
 subst e1
 cases r with
 | cons r rr=>
   rw [hs]
   refine UI (fF (h1 pins s σ H _ _ _ I r h) fun _ s1 ⟨σ1,H1,I1,q1⟩=>?_)
   exact h2 pins s1 σ1 H1 _ _ Q I1 rr q1
def Pr (K:bM) (n:Nat) (t:VN):TG:=fun v σ H Q=>∃a xs,v=.ref a∧nI K H a xs∧xs.length=n∧t xs σ H Q
theorem abv (hc:X.calm=true) (h:XQ X es t)
 (hn:(nK es X.env).length=n:=by rfl) (hst:(nK es X.env).findIdx? (·.1)=none:=by rfl):PG X (.Tuple es k pos) (Pr X.K n t):=by
 intro pins s σ H v u Q I r hw
 obtain ⟨a,xs,e1,hq,hl,hw⟩:=hw
 subst e1
 cases r
 obtain ⟨its,rv,ht,hz⟩:=I.tuple hq
 refine assign_Tuple_tuple (I.ok.hd hc) ht (by simp [hn,← hl,rv.length]) hst fun h' hx=>?_
 have I1:Inv X pins σ H { s with heap:=h' }:=I.kept (t':=s.toks) fun b o e=>hx b o (jP (dY e)) e
 exact h pins _ σ H xs _ Q I1 (by simpa using rv) hw
def aaK (to ti:TE) (t:acv):TG:=fun v σ H Q=>to σ H fun o H1=>ti σ H1 fun i H2=>t o i v H2 fun H3=>Q σ H3
theorem Mj (ho:PE X o to) (hi:PE X i ti) (hs:aah X t)
 (ha:∀v,assign (.Subscript o i pos) X.env v=(do
   let ov ← holding [v] (eval o X.env)
   let iv ← holding [v,ov] (eval i X.env)
   xx pos
   holding [v,ov,iv] (setItem ov iv v)
   release [v,ov,iv] []):=by intro _;rfl):PG X (.Subscript o i pos) (aaK to ti t):=by
 intro pins s σ H v u Q I r h
 rw [ha]
 refine cX (zO (fF (ho pins s σ H _ I h) fun ov s1 ⟨x,H1,I1,r1,q1⟩=>?_))
 refine cX (zO (fF (hi pins s1 σ H1 _ I1 q1) fun iv s2 ⟨y,H2,I2,r2,q2⟩=>?_))
 refine cX (CP (cX (zO (fF (hs pins s2 σ H2 x y v ov iv u _ I2 r1 r2 r q2) fun _ s3 ⟨H3,I3,q3⟩=>?_))))
 exact wpAny_release ⟨σ,H3,I3,q3⟩
def Aq (te:TE) (g:TG):TS:=fun D σ H=>te σ H fun x H1=>g x σ H1 D.nx
theorem rS (he:PE X e te) (hg:PG X tg g) (hs:swapsWithSole [tg] e pos.line X.env=pure false:=by rfl) (hw:swappedStores [tg] e X.env=pure none:=by rfl)
 (h1:(nK [tg] X.env).map (·.2)=[assign tg X.env]:=by rfl):PS X (.Assign [tg] e pos) (Aq te g):=by
 intro pins s σ H D I h
 refine wpAny_Assign_stores (fF (he pins s σ H _ I h) fun v s1 ⟨x,H1,I1,r1,q1⟩=>?_) hs hw
 rw [h1]
 exact fF (hg pins s1 σ H1 x v _ I1 r1 q1) fun _ s2 q=>q
theorem Gy {X:Cx} {pos:Pos} {i:Nat} {x:Str} {e:bf} {te:TE} {pos':Pos} (hN:X.N.Nodup) (hi:X.N[i]?=some x) (hx:Loc X.env.scope x) (he:PE X e te) (hs:jI e (some (.Name x pos')) pos.line X.env=pure false:=by rfl) (hf:X.fn x=true∨X.env.scope.names.lookup x=some .local:=by first | exact .inl rfl | exact .inr rfl | assumption) :
 PS X (.Assign [.Name x pos'] e pos) (Aq te (ia i)):=by
 intro pins s σ H D I h
 refine wpAny_Assign_Name (fF (he pins s σ H _ I h) fun v s1 ⟨y,H1,I1,r1,q1⟩=>?_) hs
 exact wW I1 hN hi hx r1 (fun s2 I2=>⟨_,H1,I2,q1⟩) hf
def acf (i j:Nat) (ta:TA):TS:=fun D σ H=>ta σ H fun vs H1=>∃v w,vs=[v,w]∧D.nx ((σ.set i (some v)).set j (some w)) H1
theorem Gx (hc:X.calm=true) (hN:X.N.Nodup) (hi:X.N[i]?=some x) (hj:X.N[j]?=some y) (hij:i≠j)
 (hx:X.env.scope.names.lookup x=some .local) (hy:X.env.scope.names.lookup y=some .local) (ha:PA X [a,b] ta)
 (hw:swappedStores [.Tuple [.Name x px,.Name y py] kt pt] (.Tuple [a,b] k2 pt2) X.env=pure (some [x,y]))
 (hs:swapsWithSole [.Tuple [.Name x px,.Name y py] kt pt] (.Tuple [a,b] k2 pt2) pos.line X.env=pure false:=by rfl) :
 PS X (.Assign [.Tuple [.Name x px,.Name y py] kt pt] (.Tuple [a,b] k2 pt2) pos) (acf i j ta):=by
 intro pins s σ H D I h
 rw [exec_Assign_arm]
 refine cX (CP ?_)
 rw [hs]
 refine cX (jx ?_)
 rw [if_neg 0#h]
 refine cX (Tuple_ (fF (ha _ pins s σ H _ I h) fun us s1 ⟨vs,H1,I1,r1,q1⟩=>?_))
 obtain ⟨v,w,e1,q1⟩:=q1
 subst e1
 obtain ⟨u1,u2,rfl,rv,rw'⟩:∃u1 u2,us=[u1,u2]∧RelV v u1∧RelV w u2:=by
  cases r1 with
  | cons p q=>
    cases q with
    | cons p' q'=>
      cases q'
      exact ⟨_,_,rfl,p,p'⟩
 refine UP ?_ (by show 2≤sizeLine;decide)
 have I2:Inv X pins σ H1 { s1 with heap:=s1.heap.push { cls:=.type "tuple",data:=.seq [u1,u2].toArray } }:=I1.kept (t':=s1.toks) fun b o e=>jN _ e
 rw [hw]
 refine cX (jx ?_)
 show bF 0#l X.A (do rule "assign.swapped-stores";let items ← unpackItems (.ref s1.heap.objs.size) 2 none;assignInOrder [fun v=>bindName X.env y v,fun v=>bindName X.env x v] items.reverse;pure Flow.next) _ _ _
 refine cX (wpAny_rule (cX (unpackItems_tuple (items:=#[u1,u2]) (I.ok.hd hc) (Vs s1.heap _) fun h' hx'=>?_)))
 have I3:=I2.kept (h':=h') (t':=s1.toks) fun b o e=>hx' b o (jP (dY e)) e
 show bF _ _ (assignInOrder [fun v=>bindName X.env y v,fun v=>bindName X.env x v] [u2,u1] >>= fun _=>pure Flow.next) _ _ _
 refine cX (UI (Zx (wW I3 hN hj (.inl hy) rw' (fun s2 I4=>?_) (.inr hy))))
 refine UI (Zx (wW I4 hN hi (.inl hx) rv (fun s3 I5=>Y8 (jx ?_)) (.inr hx)))
 rw [List.set_comm _ _ (eG hij)] at I5
 exact ⟨_,H1,I5,q1⟩
def HB (c:TT) (tb:TS):TS:=fun D σ H=>∃W:Nat→St→Hp→Prop,(∃m,W m σ H)∧∀m σ H,W m σ H →
 c σ H fun b H1=>if b=true then ∃N:St→Hp→Prop,(∀σ' H',N σ' H'→∃m',m'<m∧W m' σ' H')∧tb { D with nx:=N,ct:=N,bk:=D.nx } σ H1 else D.nx σ H1
theorem mU (hp:O6 0#l X.A X.env X.xe) (hc:PT X c tc) (hb:Km X body tb):PS X (.While c body [] pos) (HB tc tb):=by
 intro pins s σ H D I h
 obtain ⟨W,⟨m0,w0⟩,turn⟩:=h
 refine wpAny_While (codeAny_whileLoop (fun n s'=>∃σ' H',Inv X pins σ' H' s'∧W n σ' H') ?_ m0 ⟨σ,H,I,w0⟩)
 rintro n s1 ⟨σ1,H1,I1,w1⟩
 refine CM hp (fF (hc pins s1 σ1 H1 _ I1 (turn n σ1 H1 w1)) fun b s2 ⟨H2,I2,q2⟩=>?_)
 cases b with
 | true=>
   obtain ⟨N,hN,q2⟩:=q2
   rw [if_pos rfl]
   refine CM hp (fF (hb pins s2 σ1 H2 _ I2 q2) fun f s3 q3=>?_)
   cases f with
   | next=>
     obtain ⟨σ3,H3,I3,n3⟩:=q3
     obtain ⟨m',hm,w3⟩:=hN σ3 H3 n3
     exact ⟨m',hm,σ3,H3,I3,w3⟩
   | cont=>
     obtain ⟨σ3,H3,I3,n3⟩:=q3
     obtain ⟨m',hm,w3⟩:=hN σ3 H3 n3
     exact ⟨m',hm,σ3,H3,I3,w3⟩
   | brk=>exact q3
   | ret v=>exact q3
 | false=>
   rw [if_neg eO]
   exact OR ⟨σ1,H2,I2,q2⟩
end
structure It where
 go:Nat→Hp→Prop
 Q6:Nat→Hp→V→Hp→Prop
 stop:Nat→Hp→Prop
def vI (X:Cx) (pins:List (ao×Obj)) (H:Hp) (b:ao):Prop:=
 H b=none∧b≠X.env.locals∧b∉X.fs∧(b∈X.ex∨X.s₀.heap.objs.size≤b)∧(∀x c,X.env.cells.lookup x=some c→c≠b)∧∀p∈X.pn++pins,p.1≠b
theorem Inv.Il {σ:St} {b:ao} (I:Inv X pins σ H s) (hb:s.heap.objs.size≤b) (hn:H' b=none):vI X pins H' b:=by
 refine ⟨hn,O0 (pS I.lt hb),I.afQ hb,.inr (dI I.sz hb),fun x c e z=>?_,fun p hp z=>?_⟩
 ·obtain ⟨v,q⟩:=I.cell x c e
  exact absurd (pS q.lt (by rw [z];exact hb)) (zN _)
 ·exact absurd (pS (dY (I.pin p hp).1) (by rw [z];exact hb)) (zN _)
structure Turn (P:gX) (w:di) (K:bM) (tg:bf) (J:It) (fp:List ao) (it:ao) (tn:Nat→b8→Prop):Prop where
 mem:it∈fp
 obj:∀i h,tn i h→∀b∈fp,∃o,h.get? b=some o∧∀v,o.data≠.cell v
 keep:∀i h h',tn i h→(∀b∈fp,∀o,h.get? b=some o→h'.get? b=some o)→tn i h'
 item:∀(X:Cx),X.prog=P→X.w=w→X.K=K→X.calm=true→∀(i:Nat) (pins:List (ao×Obj)) (s:aU) (σ:St) (H:Hp) (E:aH→aU→Prop),Inv X pins σ H s→(∀b∈fp,vI X pins H b)→tn i s.heap→J.go i H →
  bF (model P w) X.A (pyNext (.ref it)) (fun r s1=>∃u,r=some u ∧
   bF (model P w) X.A (letOwnedTupleGo tg (.ref it) u) (fun _ s2=>∃x H',Inv X pins σ H' s2∧RelV x u∧J.Q6 i H x H'∧tn (i+1) s2.heap∧∀b∈fp,H' b=none) E s1) E s
 done:∀(X:Cx),X.prog=P→X.w=w→X.K=K→X.calm=true→∀(i:Nat) (pins:List (ao×Obj)) (s:aU) (σ:St) (H:Hp) (E:aH→aU→Prop),Inv X pins σ H s→(∀b∈fp,vI X pins H b)→tn i s.heap→J.stop i H →
  bF (model P w) X.A (pyNext (.ref it)) (fun r s1=>r=none∧Inv X pins σ H s1) E s
 self:∀(A:nG) (i:Nat) (s:aU) (Q:aH→aU→Prop) (E:aH→aU→Prop),tn i s.heap→Q (.ref it) s→bF (model P w) A (pyIter (.ref it)) Q E s
abbrev TI:=St→Hp→(It→Hp→Prop)→Prop
def PIE (X:Cx) (pins:List (ao×Obj)) (σ:St) (tg:bf) (R:It→Hp→Prop) (itv:aH) (s2:aU):Prop:=
 ∃(it:ao) (fp:List ao) (tn:Nat→b8→Prop) (J:It) (H':Hp),itv=.ref it∧Inv X pins σ H' s2∧Turn X.prog X.w X.K tg J fp it tn∧tn 0 s2.heap∧(∀b∈fp,vI X pins H' b)∧R J H'
def PI (X:Cx) (tg iter:bf) (wi:TI):Prop:=
 ∀(pins:List (ao×Obj)) (s:aU) (σ:St) (H:Hp) (R:It→Hp→Prop),Inv X pins σ H s→wi σ H R →
  bF 0#l X.A (eval iter X.env) (fun v s1=>bF 0#l X.A (pyIter v) (PIE X pins σ tg R) X.xe s1) X.xe s
theorem RN (ho:s.heap.get? it=some o) (hc:o.cls=.type n) (hd:o.data=.fields vs)
 (hn:["enumerate","zip","dict_itemiterator","dict_reverseitemiterator","odict_iterator","itertools.zip_longest","itertools.pairwise"].contains n=false) (hQ:Q () s):bF M A (letOwnedTupleGo tg (.ref it) u) Q E s:=by
 unfold letOwnedTupleGo
 cases tg <;> first
  | exact jx hQ
  | (cases u <;> first
      | exact jx hQ
      | (refine cX (wpAny_load ho ?_)
         rw [hc,hd]
         show bF M A (if (["enumerate","zip","dict_itemiterator","dict_reverseitemiterator","odict_iterator","itertools.zip_longest","itertools.pairwise"].contains n&&vs[0]?==some (rawInt _))=true then _ else _) Q E s
         rw [if_neg (by intro h;rw [hn,Bool.false_and] at h;cases h)]
         exact jx hQ))
def Itl (K:bM) (a:ao):It:=
 ⟨fun i H=>∃xs x,aW K H a xs∧xs[i]?=some x,fun i H x H'=>H'=H∧∀xs,aW K H a xs→xs[i]?=some x,fun i H=>∃xs,aW K H a xs∧xs.length≤i⟩
def Itt (K:bM) (a:ao):It:=
 ⟨fun i H=>∃xs x,nI K H a xs∧xs[i]?=some x,fun i H x H'=>H'=H∧∀xs,nI K H a xs→xs[i]?=some x,fun i H=>∃xs,nI K H a xs∧xs.length≤i⟩
def VI (lo:Int) (n:Nat):It:=⟨fun i _=>i<n,fun i H x H'=>H'=H∧x=.int (lo+i),fun i _=>n≤i⟩
theorem QF {K:bM} (a it:ao):Turn P w K tg (Itl K a) [it] it (fun i h=>h.IsListIter it a i) where
 mem:=by simp
 obj:=fun i h st b hb=>by
  have e:b=it:=by simpa using hb
  subst e
  obtain ⟨o,e,c,d⟩:=st
  exact ⟨o,e,fun v z=>by rw [d] at z;cases z⟩
 keep:=fun i h h' st k=>st.at fun o e=>k it 0#f o e
 item:=by
  intro X hP hw hK hc i pins s σ H E I hf st hg
  subst hP hw hK
  obtain ⟨xs,x,hq,hx⟩:=hg
  obtain ⟨its,rv,p,hz⟩:=I.list hq
  obtain ⟨u,hu,ru⟩:=rv.get hx
  obtain ⟨f0,f1,f2,f3,f4,f5⟩:=hf it 0#f
  refine YC st p.isList (x:=u) (by simpa using hu) fun h' st' sb=>?_
  have I1:Inv X pins σ H { s with heap:=h' }:=I.turned (t':=s.toks) (fun b o hb e=>(sb.2 b hb).trans e) f0 f1 f3 f4 f5
  obtain ⟨o,e,c,d⟩:=id st'
  exact ⟨u,rfl,RN (s:={ s with heap:=h' }) e c d 0#h ⟨x,H,I1,ru,⟨rfl,fun ys hy=>by rw [I.vS hy hq];exact hx⟩,st',fun b hb=>(hf b hb).1⟩⟩
 done:=by
  intro X hP hw hK hc i pins s σ H E I hf st hg
  subst hP hw hK
  obtain ⟨xs,hq,hx⟩:=hg
  obtain ⟨its,rv,p,hz⟩:=I.list hq
  obtain ⟨f0,f1,f2,f3,f4,f5⟩:=hf it 0#f
  have hl:=rv.length
  exact YL (I.ok.hd hc) st p.isList (by simp;simp?) fun h' eb=>⟨rfl,I.turned (t':=s.toks) (fun b o hb e=>eb b o hb e) f0 f1 f3 f4 f5⟩
 self:=fun _ _ _ _ _ st h=>wpAny_pyIter_listiter st h
theorem M5 {K:bM} (a it:ao):Turn P w K tg (Itt K a) [it] it (fun i h=>h.IsTupleIter it a i) where
 mem:=by simp
 obj:=fun i h st b hb=>by
  have e:b=it:=by simpa using hb
  subst e
  obtain ⟨o,e,c,d⟩:=st
  exact ⟨o,e,fun v z=>by rw [d] at z;cases z⟩
 keep:=fun i h h' st k=>st.at fun o e=>k it 0#f o e
 item:=by
  intro X hP hw hK hc i pins s σ H E I hf st hg
  subst hP hw hK
  obtain ⟨xs,x,hq,hx⟩:=hg
  obtain ⟨its,rv,p,hz⟩:=I.tuple hq
  obtain ⟨u,hu,ru⟩:=rv.get hx
  obtain ⟨f0,f1,f2,f3,f4,f5⟩:=hf it 0#f
  refine wpAny_pyNext_tuple_item st (show s.heap.IsTuple a its.toArray from p) (x:=u) (by simpa using hu) fun h' st' sb=>?_
  have I1:Inv X pins σ H { s with heap:=h' }:=I.turned (t':=s.toks) (fun b o hb e=>(sb.2 b hb).trans e) f0 f1 f3 f4 f5
  obtain ⟨o,e,c,d⟩:=id st'
  exact ⟨u,rfl,RN (s:={ s with heap:=h' }) e c d 0#h ⟨x,H,I1,ru,⟨rfl,fun ys hy=>by rw [I.QC hy hq];exact hx⟩,st',fun b hb=>(hf b hb).1⟩⟩
 done:=by
  intro X hP hw hK hc i pins s σ H E I hf st hg
  subst hP hw hK
  obtain ⟨xs,hq,hx⟩:=hg
  obtain ⟨its,rv,p,hz⟩:=I.tuple hq
  obtain ⟨f0,f1,f2,f3,f4,f5⟩:=hf it 0#f
  have hl:=rv.length
  exact wpAny_pyNext_tuple_end (I.ok.hd hc) st (show s.heap.IsTuple a its.toArray from p) (by simp;simp?) fun h' eb=>⟨rfl,I.turned (t':=s.toks) (fun b o hb e=>eb b o hb e) f0 f1 f3 f4 f5⟩
 self:=fun _ _ _ _ _ st h=>wpAny_pyIter_tupleiter st h
theorem M4 {K:bM} (it:ao) (lo:Int) (n:Nat):Turn P w K tg (VI lo n) [it] it (fun i h=>IsRangeIter h it (lo+(i:Nat)*1) ((n:Int)-(i:Nat)) 1) where
 mem:=by simp
 obj:=fun i h st b hb=>by
  have e:b=it:=by simpa using hb
  subst e
  exact ⟨_,st,fun v z=>by
   have z':Data.fields _=Data.cell v:=z
   cases z'⟩
 keep:=fun i h h' st k=>k it 0#f _ st
 item:=by
  intro X hP hw hK hc i pins s σ H E I hf st hg
  subst hP hw hK
  obtain ⟨f0,f1,f2,f3,f4,f5⟩:=hf it 0#f
  have W:=Walks.range (prog:=X.prog) (w:=X.w) (I.ok.hd hc) it lo 1 n
  refine W.item i s _ _ hg st fun v h' tk hv st' kk=>?_
  obtain ⟨t,rfl⟩:=hv
  have I1:Inv X pins σ H { s with heap:=h',toks:=tk }:=I.turned (fun b o hb e=>kk b o (by simpa using hb) e) f0 f1 f3 f4 f5
  refine ⟨_,rfl,RN (s:={ s with heap:=h',toks:=tk }) (n := "range_iterator") st' rfl rfl 0#h ⟨.int (lo+i),H,I1,⟨t,?_⟩,⟨rfl,rfl⟩,st',fun b hb=>(hf b hb).1⟩⟩
  rw [Z1]
 done:=by
  intro X hP hw hK hc i pins s σ H E I hf st hg
  subst hP hw hK
  obtain ⟨f0,f1,f2,f3,f4,f5⟩:=hf it 0#f
  exact wpAny_pyNext_range_end (I.ok.hd hc) st (by have:n≤i:=hg;simp?) fun h' eb=>⟨rfl,I.turned (t':=s.toks) (fun b o hb e=>eb b o hb e) f0 f1 f3 f4 f5⟩
 self:=fun _ _ _ _ _ st h=>wpAny_pyIter_rangeiter st h
section
def NG (K:bM) (tl:TE):TI:=fun σ H R=>tl σ H fun x H1=>∃a,x=.ref a∧(∃xs,aW K H1 a xs)∧R (Itl K a) H1
def Wu (K:bM) (tl:TE):TI:=fun σ H R=>tl σ H fun x H1=>∃a,x=.ref a∧(∃xs,nI K H1 a xs)∧R (Itt K a) H1
theorem Xa (hl:PE X l tl):PI X tg l (NG X.K tl):=by
 intro pins s σ H R I h
 refine fF (hl pins s σ H _ I h) fun v s1 ⟨x,H1,I1,r1,q1⟩=>?_
 obtain ⟨a,e,⟨xs,hq⟩,q⟩:=q1
 subst e
 cases r1
 obtain ⟨its,rv,p,hz⟩:=I1.list hq
 refine UQ p.isList ?_
 refine ⟨s1.heap.objs.size,[s1.heap.objs.size],_,_,H1,rfl,I1.kept (t':=s1.toks) fun b o e=>jN _ e,QF a _,⟨_,Aw _ rfl,rfl,rfl⟩,fun b hb=>?_,q⟩
 have e:b=s1.heap.objs.size:=by simpa using hb
 subst e
 exact I1.Il (dm _) (I1.hok.fresh (dm _))
theorem abw (hl:PE X l tl):PI X tg l (Wu X.K tl):=by
 intro pins s σ H R I h
 refine fF (hl pins s σ H _ I h) fun v s1 ⟨x,H1,I1,r1,q1⟩=>?_
 obtain ⟨a,e,⟨xs,hq⟩,q⟩:=q1
 subst e
 cases r1
 obtain ⟨its,rv,p,hz⟩:=I1.tuple hq
 refine wpAny_pyIter_tuple (show s1.heap.IsTuple a its.toArray from p) ?_
 refine ⟨s1.heap.objs.size,[s1.heap.objs.size],_,_,H1,rfl,I1.kept (t':=s1.toks) fun b o e=>jN _ e,M5 a _,⟨_,Aw _ rfl,rfl,rfl⟩,fun b hb=>?_,q⟩
 have e:b=s1.heap.objs.size:=by simpa using hb
 subst e
 exact I1.Il (dm _) (I1.hok.fresh (dm _))
theorem Jw {σ:St} {lo:Int} (I:Inv X pins σ H s) (h1:-(2 ^ 62)≤lo) (h2:lo<2 ^ 62) (h3:-(2 ^ 62)≤hi) (h4:hi<2 ^ 62)
 (q:R (VI lo (hi-lo).toNat) H):bF 0#l X.A (pyIter (.ref s.heap.objs.size)) (PIE X pins σ tg R) E { s with heap:=s.heap.push { cls:=.type "range",data:=.fields #[.int lo t,.int hi u,.int 1 v] },toks:=tk }:=by
 refine wpAny_pyIter_range (IsRange.new ..) (small_one h1 h2 h3 h4) ?_
 have I1:Inv X pins σ H { s with heap:=s.heap.push { cls:=.type "range",data:=.fields #[.int lo t,.int hi u,.int 1 v] },toks:=tk }:=I.kept fun b o e=>jN _ e
 refine ⟨(s.heap.push { cls:=.type "range",data:=.fields #[.int lo t,.int hi u,.int 1 v] }).objs.size,[(s.heap.push { cls:=.type "range",data:=.fields #[.int lo t,.int hi u,.int 1 v] }).objs.size],_,_,H,rfl,
  I1.kept (t':=tk) fun b o e=>jN _ e,M4 _ lo (hi-lo).toNat,?_,fun b hb=>?_,q⟩
 ·have e1:lo+((0:Nat):Int)*1=lo:=by simp
  have e2:(((hi-lo).toNat:Nat):Int)-((0:Nat):Int)=aeF lo hi 1:=by rw [rangeSize_one];split <;> simp?
  show IsRangeIter _ _ (lo+((0:Nat):Int)*1) ((((hi-lo).toNat:Nat):Int)-((0:Nat):Int)) 1
  rw [e1,e2]
  exact Aw _ rfl
 ·have e:b=(s.heap.push { cls:=.type "range",data:=.fields #[.int lo t,.int hi u,.int 1 v] }).objs.size:=by simpa using hb
  subst e
  exact I1.Il (dm _) (I1.hok.fresh (dm _))
def Sf (ta:TA):TI:=fun σ H R=>ta σ H fun vs H1=>∃j:Int,vs=[.int j]∧-(2 ^ 62)≤j∧j<2 ^ 62∧R (VI 0 j.toNat) H1
def Sg (ta:TA):TI:=fun σ H R=>ta σ H fun vs H1=>∃i j:Int,vs=[.int i,.int j]∧(-(2 ^ 62)≤i∧i<2 ^ 62∧-(2 ^ 62)≤j∧j<2 ^ 62)∧R (VI i (j-i).toNat) H1
theorem j3 (hg:Gl X "range") (hm:X.mg "range"=none) (ha:PA X [a] ta) (hs:aY [a] X.env=[(false,eval a X.env)]:=by rfl):PI X tg (.Call (.Name "range" p) [a] [] pos) (Sf ta):=by
 intro pins s σ H R I h
 refine Call_ (uW I hg hm boot_range (JP (fF (ha pos pins s σ H _ I h) fun us s1 ⟨vs,H1,I1,r1,q1⟩=>?_) hs rfl))
 obtain ⟨j,e,q1,q2,q⟩:=q1
 subst e
 cases r1 with
 | cons r rr=>
   cases rr
   obtain ⟨t,rfl⟩:=r
   exact call_range_1 (Jw I1 0#c 0#c q1 q2 (by simpa using q))
theorem pK (hg:Gl X "range") (hm:X.mg "range"=none) (ha:PA X [a,b] ta) (hs:aY [a,b] X.env=[(false,eval a X.env),(false,eval b X.env)]:=by rfl) (hs2:aY [b] X.env=[(false,eval b X.env)]:=by rfl) :
 PI X tg (.Call (.Name "range" p) [a,b] [] pos) (Sg ta):=by
 intro pins s σ H R I h
 refine Call_ (uW I hg hm boot_range (JP (fF (ha pos pins s σ H _ I h) fun us s1 ⟨vs,H1,I1,r1,q1⟩=>?_) (by rw [hs,hs2]) (by rw [hs2];rfl)))
 obtain ⟨i,j,e,⟨q1,q2,q3,q4⟩,q⟩:=q1
 subst e
 cases r1 with
 | cons r rr=>
   cases rr with
   | cons r' rr=>
     cases rr
     obtain ⟨t,rfl⟩:=r
     obtain ⟨t',rfl⟩:=r'
     exact call_range_2 (Jw I1 q1 q2 q3 q4 q)
def ab7 (wi:TI) (g:TG) (tb:TS):TS:=fun D σ H=>wi σ H fun J H1=>∃W:Nat→Nat→St→Hp→Prop,(∃m,W 0 m σ H1)∧∀i m σ H,W i m σ H →
 (J.stop i H∧D.nx σ H)∨(J.go i H∧∃N:St→Hp→Prop,(∀σ' H',N σ' H'→∃m',m'<m∧W (i+1) m' σ' H')∧∀x H',J.Q6 i H x H'→g x σ H' fun σ2 H2=>tb { D with nx:=N,ct:=N,bk:=D.nx } σ2 H2)
def yq (fp:List ao) (h:b8):List (ao×Obj):=fp.filterMap fun b=>(h.get? b).map fun o=>(b,o)
theorem jX (hb:b∈fp) (e:h.get? b=some o):(b,o)∈yq fp h:=Y3.mpr ⟨b,hb,by rw [e];rfl⟩
theorem Qh (hp:p∈yq fp h):p.1∈fp∧h.get? p.1=some p.2:=by
 obtain ⟨b,hb,e⟩:=Y3.mp hp
 cases q:h.get? b with
 | none=>rw [q] at e;cases e
 | some o=>
   rw [q] at e
   have e':(b,o)=p:=lQ e
   subst e'
   exact ⟨hb,q⟩
theorem Inv.pinned {σ:St} (I:Inv X pins σ H s) (hf:∀b∈fp,vI X pins H b) (ho:∀b∈fp,∃o,s.heap.get? b=some o∧∀v,o.data≠.cell v):Inv X (pins++yq fp s.heap) σ H s:=
 I.NZ fun p hp=>(dH.mp hp).elim (fun z=>I.pin p (vD _ z)) fun z=>by
  obtain ⟨hb,e⟩:=Qh z
  obtain ⟨f0,f1,f2,_⟩:=hf p.1 hb
  obtain ⟨o,e',d⟩:=ho p.1 hb
  rw [e] at e';cases e'
  exact ⟨e,f0,f1,f2,d⟩
theorem Inv.nB {σ:St} (I:Inv X (pins++pl) σ H s):Inv X pins σ H s:=I.NZ fun p hp=>I.pin p (vD _ (JV _ hp))
theorem Mn {X:Cx} {tg:bf} {iter:bf} {body:List aQ} {wi:TI} {g:TG} {tb:TS} {pos:Pos} (hp:O6 0#l X.A X.env X.xe) (hc:X.calm=true) (hi:PI X tg iter wi) (hg:PG X tg g) (hb:Km X body tb)
 (hs:∀x,Ay iter X.env x=pure x:=by intro _;rfl):PS X (.For tg iter body [] pos) (ab7 wi g tb):=by
 intro pins s σ H D I h
 refine wpAny_For (fF (hi pins s σ H _ I h) fun v s1 h1=>fF h1 fun itv s2 h2=>?_) hs
 obtain ⟨it,fp,tn,J,H2,e,I2,T,st2,f2,W,⟨m0,w0⟩,turn⟩:=h2
 subst e
  -- what stays true of the iterator's objects through the loop
 have ab4:∀{H':Hp},(∀b∈fp,H' b=none)→∀b∈fp,vI X pins H' b:=fun hn b hb=>⟨hn b hb,(f2 b hb).2⟩
 refine codeAny_forLoop_any (fun n s'=>∃i σ' H',Inv X pins σ' H' s'∧tn i s'.heap∧(∀b∈fp,H' b=none)∧W i n σ' H') ?_ m0 ⟨0,σ,H2,I2,st2,fun b hb=>(f2 b hb).1,w0⟩
 rintro n s3 ⟨i,σ3,H3,I3,st3,fr3,w3⟩
 rcases turn i n σ3 H3 w3 with ⟨stop,qn⟩ | ⟨go,N,hN,step⟩
 ·refine CM hp (fF (T.done X rfl rfl rfl hc i pins s3 σ3 H3 X.xe I3 (ab4 fr3) st3 stop) fun r s4 ⟨hr,I4⟩=>?_)
  subst hr
  exact OR ⟨σ3,H3,I4,qn⟩
 ·refine CM hp (fF (T.item X rfl rfl rfl hc i pins s3 σ3 H3 X.xe I3 (ab4 fr3) st3 go) fun r s4 ⟨u,hr,h4⟩=>?_)
  subst hr
  refine CM hp (fF h4 fun _ s5 ⟨x,H5,I5,r5,y5,Xw,fr5⟩=>?_)
  have I5':=I5.pinned (ab4 fr5) (T.obj _ _ Xw)
  refine CM hp (fF (hg _ s5 σ3 H5 x u _ I5' r5 (step x H5 y5)) fun _ s6 ⟨σ6,H6,I6,q6⟩=>?_)
  refine CM hp (fF (hb _ s6 σ6 H6 _ I6 q6) fun f s7 q7=>?_)
  have again:∀{Vu:St} {H7:Hp},Inv X (pins++yq fp s5.heap) Vu H7 s7→N Vu H7→∃m,m<n∧∃i σ' H',Inv X pins σ' H' s7∧tn i s7.heap∧(∀b∈fp,H' b=none)∧W i m σ' H':=fun {Vu H7} I7 n7=>by
   obtain ⟨m',hm,w7⟩:=hN Vu H7 n7
   refine ⟨m',hm,i+1,Vu,H7,I7.nB,T.keep _ _ _ Xw fun b hb o e=>(I7.pin (b,o) (vD _ (vD _ (jX hb e)))).1,fun b hb=>?_,w7⟩
   obtain ⟨o,e,d⟩:=T.obj _ _ Xw b hb
   exact (I7.pin (b,o) (vD _ (vD _ (jX hb e)))).2.1
  cases f with
  | next=>obtain ⟨Vu,H7,I7,n7⟩:=q7;exact again I7 n7
  | cont=>obtain ⟨Vu,H7,I7,n7⟩:=q7;exact again I7 n7
  | brk=>obtain ⟨Vu,H7,I7,q7⟩:=q7;exact ⟨Vu,H7,I7.nB,q7⟩
  | ret v=>obtain ⟨x7,Vu,H7,I7,r7,q7⟩:=q7;exact ⟨x7,Vu,H7,I7.nB,r7,q7⟩
end
theorem cL {K:bM} {a:ao} {g:TG} {tb:TS} {D:Ends} {σ:St} {H:Hp} (Pv:Nat→St→Hp→Prop) (h0:Pv 0 σ H) (hl:∀i σ H,i≤xs.length→Pv i σ H→aW K H a xs)
 (hs:∀i x σ H,xs[i]?=some x→Pv i σ H→g x σ H fun σ2 H2=>tb { D with nx:=Pv (i+1),ct:=Pv (i+1),bk:=D.nx } σ2 H2) (hd:∀σ H,Pv xs.length σ H→D.nx σ H) :
 ∃W:Nat→Nat→St→Hp→Prop,(∃m,W 0 m σ H)∧∀i m σ H,W i m σ H →
  ((Itl K a).stop i H∧D.nx σ H)∨((Itl K a).go i H∧∃N:St→Hp→Prop,(∀σ' H',N σ' H'→∃m',m'<m∧W (i+1) m' σ' H')∧∀x H',(Itl K a).Q6 i H x H'→g x σ H' fun σ2 H2=>tb { D with nx:=N,ct:=N,bk:=D.nx } σ2 H2):=by
 refine ⟨fun i m σ H=>m=xs.length-i∧i≤xs.length∧Pv i σ H,⟨xs.length,by simp,nH _,h0⟩,?_⟩
 rintro i m σ H ⟨rfl,hi,p⟩
 have q:=hl i σ H hi p
 by_cases hlt:i<xs.length
 ·refine .inr ⟨⟨xs,xs[i],q,by simp [hlt]⟩,Pv (i+1),fun σ' H' p'=>⟨xs.length-(i+1),by simp?,rfl,hlt,p'⟩,fun x H' y=>?_⟩
  obtain ⟨e,y⟩:=y
  subst e
  exact hs i x σ _ (y xs q) p
 ·have e:i=xs.length:=by simp?
  subst e
  exact .inl ⟨⟨xs,q,dm _⟩,hd σ H p⟩
theorem Wa {K:bM} {a:ao} {g:TG} {tb:TS} {D:Ends} {σ:St} {H:Hp} (Pv:Nat→St→Hp→Prop) (h0:Pv 0 σ H) (hl:∀i σ H,i≤xs.length→Pv i σ H→nI K H a xs)
 (hs:∀i x σ H,xs[i]?=some x→Pv i σ H→g x σ H fun σ2 H2=>tb { D with nx:=Pv (i+1),ct:=Pv (i+1),bk:=D.nx } σ2 H2) (hd:∀σ H,Pv xs.length σ H→D.nx σ H) :
 ∃W:Nat→Nat→St→Hp→Prop,(∃m,W 0 m σ H)∧∀i m σ H,W i m σ H →
  ((Itt K a).stop i H∧D.nx σ H)∨((Itt K a).go i H∧∃N:St→Hp→Prop,(∀σ' H',N σ' H'→∃m',m'<m∧W (i+1) m' σ' H')∧∀x H',(Itt K a).Q6 i H x H'→g x σ H' fun σ2 H2=>tb { D with nx:=N,ct:=N,bk:=D.nx } σ2 H2):=by
 refine ⟨fun i m σ H=>m=xs.length-i∧i≤xs.length∧Pv i σ H,⟨xs.length,by simp,nH _,h0⟩,?_⟩
 rintro i m σ H ⟨rfl,hi,p⟩
 have q:=hl i σ H hi p
 by_cases hlt:i<xs.length
 ·refine .inr ⟨⟨xs,xs[i],q,by simp [hlt]⟩,Pv (i+1),fun σ' H' p'=>⟨xs.length-(i+1),by simp?,rfl,hlt,p'⟩,fun x H' y=>?_⟩
  obtain ⟨e,y⟩:=y
  subst e
  exact hs i x σ _ (y xs q) p
 ·have e:i=xs.length:=by simp?
  subst e
  exact .inl ⟨⟨xs,q,dm _⟩,hd σ H p⟩
theorem ji {lo:Int} {n:Nat} {g:TG} {tb:TS} {D:Ends} {H:Hp} (Pv:Nat→St→Hp→Prop) (h0:Pv 0 σ H)
 (hs:∀i σ H,i<n→Pv i σ H→g (.int (lo+i)) σ H fun σ2 H2=>tb { D with nx:=Pv (i+1),ct:=Pv (i+1),bk:=D.nx } σ2 H2) (hd:∀σ H,Pv n σ H→D.nx σ H) :
 ∃W:Nat→Nat→St→Hp→Prop,(∃m,W 0 m σ H)∧∀i m σ H,W i m σ H →
  ((VI lo n).stop i H∧D.nx σ H)∨((VI lo n).go i H∧∃N:St→Hp→Prop,(∀σ' H',N σ' H'→∃m',m'<m∧W (i+1) m' σ' H')∧∀x H',(VI lo n).Q6 i H x H'→g x σ H' fun σ2 H2=>tb { D with nx:=N,ct:=N,bk:=D.nx } σ2 H2):=by
 refine ⟨fun i m σ H=>m=n-i∧i≤n∧Pv i σ H,⟨n,by simp,nH _,h0⟩,?_⟩
 rintro i m σ H ⟨rfl,hi,p⟩
 by_cases hlt:i<n
 ·refine .inr ⟨hlt,Pv (i+1),fun σ' H' p'=>⟨n-(i+1),by simp?,rfl,hlt,p'⟩,fun x H' y=>?_⟩
  obtain ⟨e,y⟩:=y
  subst e y
  exact hs i σ _ hlt p
 ·have e:i=n:=by simp?
  subst e
  exact .inl ⟨dm _,hd σ H p⟩
theorem xg (Pv:St→Hp→Prop) (μ:St→Hp→Nat) (h0:Pv σ H)
 (hs:∀σ H,Pv σ H→c σ H fun b H1=>if b=true then tb { D with nx:=fun σ' H'=>Pv σ' H'∧μ σ' H'<μ σ H,ct:=fun σ' H'=>Pv σ' H'∧μ σ' H'<μ σ H,bk:=D.nx } σ H1 else D.nx σ H1)
 (mono:∀σ H Q Q',(∀b H1,Q b H1→Q' b H1)→c σ H Q→c σ H Q'):HB c tb D σ H:=by
 refine ⟨fun m σ H=>m=μ σ H∧Pv σ H,⟨_,rfl,h0⟩,?_⟩
 rintro m σ H ⟨rfl,p⟩
 refine mono σ H _ _ (fun b H1 q=>?_) (hs σ H p)
 cases b with
 | true=>exact ⟨_,fun σ' H' ⟨p',l⟩=>⟨_,l,rfl,p'⟩,q⟩
 | false=>exact q
abbrev R2:=V→V→Hp→VK→Prop
def oW (X:Cx) (f:aH→aH→Sem aH) (r:R2):Prop:=
 ∀(pins:List (ao×Obj)) (s:aU) (σ:St) (H:Hp) (x y:V) (v u:aH) (Q:VK),Inv X pins σ H s→RelV x v→RelV y u→r x y H Q →
  bF 0#l X.A (f v u) (EP X pins σ Q) X.xe s
def UnR (X:Cx) (f:aH→Sem aH) (r:V→Hp→VK→Prop):Prop:=
 ∀(pins:List (ao×Obj)) (s:aU) (σ:St) (H:Hp) (x:V) (v:aH) (Q:VK),Inv X pins σ H s→RelV x v→r x H Q →
  bF 0#l X.A (f v) (EP X pins σ Q) X.xe s
def iO (X:Cx) (f:aH) (r:List V→Hp→VK→Prop):Prop:=
 ∀(pins:List (ao×Obj)) (s:aU) (σ:St) (H:Hp) (xs:List V) (us:List aH) (Q:VK),Inv X pins σ H s→Vals xs us→r xs H Q →
  bF 0#l X.A (call f us) (EP X pins σ Q) X.xe s
def HA (r:R2) (ta tb:TE):TE:=fun σ H Q=>ta σ H fun x H1=>tb σ H1 fun y H2=>r x y H2 Q
def tUn (r:V→Hp→VK→Prop) (ta:TE):TE:=fun σ H Q=>ta σ H fun x H1=>r x H1 Q
def rI (C:Int→Int→Prop) (g:Int→Int→V):R2:=fun x y H Q=>∃i j,x=.int i∧y=.int j∧C i j∧Q (g i j) H
def Xd (g:Int→Int→V):R2:=fun x y H Q=>∃i j,x=.int i∧y=.int j∧Q (g i j) H
def rU (g:Int→V):V→Hp→VK→Prop:=fun x H Q=>∃i,x=.int i∧Q (g i) H
section
theorem aao {X:Cx} {a b:bf} {ta tb:TE} (ha:PE X a ta) (hb:PE X b tb)  {s:aU} {σ:St} {H:Hp} {R:V→V→Hp→Prop} (I:Inv X pins σ H s)
 (h:ta σ H fun x H1=>tb σ H1 fun y H2=>R x y H2) {Q:aH→aU→Prop} {f:aH→aH→Sem aH}
 (hf:∀v u s2 x y H2,Inv X pins σ H2 s2→RelV x v→RelV y u→R x y H2→bF 0#l X.A (f v u) Q X.xe s2) :
 bF 0#l X.A (eval a X.env) (fun v s₁=>bF 0#l X.A (eval b X.env) (fun u s₂=>bF 0#l X.A (f v u) Q X.xe s₂) X.xe s₁) X.xe s:=by
 refine fF (ha pins s σ H _ I h) fun v s1 ⟨x,H1,I1,r1,q1⟩=>?_
 refine fF (hb pins s1 σ H1 _ I1 q1) fun u s2 ⟨y,H2,I2,r2,q2⟩=>?_
 exact hf v u s2 x y H2 I2 r1 r2 q2
theorem Tc {X:Cx} {a b:bf} {ta tb:TE} {pos:Pos} {op:Operator} {r:R2} (ho:oW X (oh op) r) (ha:PE X a ta) (hb:PE X b tb):PE X (.BinOp a op b pos) (HA r ta tb):=by
 intro pins s σ H Q I h
 exact wpAny_BinOp (aao ha hb I h fun v u s2 x y H2 I2 rx ry q=>ho pins s2 σ H2 x y v u Q I2 rx ry q)
theorem Td {X:Cx} {a:bf} {ta:TE} {pos:Pos} {op:UnaryOp} {r:V→Hp→VK→Prop} (ho:UnR X (unaryOp op) r) (ha:PE X a ta):PE X (.UnaryOp op a pos) (tUn r ta):=by
 intro pins s σ H Q I h
 exact UnaryOp_ (fF (ha pins s σ H _ I h) fun v s1 ⟨x,H1,I1,r1,q1⟩=>ho pins s1 σ H1 x v Q I1 r1 q1)
theorem opI {g:Int→Int→Int}
 (rule:∀(i j:Int) (t u:Tok) (s:aU) (Q:aH→aU→Prop) (E:aH→aU→Prop),C i j→Q (.int (g i j) s.toks) { s with toks:=s.toks+1 }→bF 0#l X.A (f (.int i t) (.int j u)) Q E s) :
 oW X f (rI C fun i j=>.int (g i j)):=by
 intro pins s σ H x y v u Q I rx ry h
 obtain ⟨i,j,rfl,rfl,hc,q⟩:=h
 obtain ⟨t,rfl⟩:=rx
 obtain ⟨t',rfl⟩:=ry
 exact rule i j t t' s _ _ hc ⟨.int (g i j),H,I.tok _,⟨_,rfl⟩,q⟩
theorem adm {g:Int→Int→Int}
 (rule:∀(i j:Int) (t u:Tok) (s:aU) (Q:aH→aU→Prop) (E:aH→aU→Prop),Q (.int (g i j) s.toks) { s with toks:=s.toks+1 }→bF 0#l X.A (f (.int i t) (.int j u)) Q E s) :
 oW X f (Xd fun i j=>.int (g i j)):=by
 intro pins s σ H x y v u Q I rx ry h
 obtain ⟨i,j,rfl,rfl,q⟩:=h
 obtain ⟨t,rfl⟩:=rx
 obtain ⟨t',rfl⟩:=ry
 exact rule i j t t' s _ _ ⟨.int (g i j),H,I.tok _,⟨_,rfl⟩,q⟩
theorem W0 {g:Int→Int→Bool}
 (rule:∀(i j:Int) (t u:Tok) (s:aU) (Q:aH→aU→Prop) (E:aH→aU→Prop),Q (.bool (g i j)) s→bF 0#l X.A (f (.int i t) (.int j u)) Q E s) :
 oW X f (Xd fun i j=>.bl (g i j)):=by
 intro pins s σ H x y v u Q I rx ry h
 obtain ⟨i,j,rfl,rfl,q⟩:=h
 obtain ⟨t,rfl⟩:=rx
 obtain ⟨t',rfl⟩:=ry
 exact rule i j t t' s _ _ ⟨.bl (g i j),H,I,rfl,q⟩
def acq (i j:Int):Prop:=0≤j∧j≤1000000∧i.natAbs<2 ^ 64
def VF (i j:Int):Prop:=(-(2 ^ 64)<i∧i<2 ^ 64)∨(-(2 ^ 64)<j∧j<2 ^ 64)
theorem VF.ok (h:VF i j):IntMulOk i j:=by
 rcases h with ⟨h1,h2⟩ | ⟨h1,h2⟩
 ·exact .of_left (ZG h1 h2)
 ·exact .of_right (ZG h1 h2)
theorem M6 (k:Nat):(0:Int)≤2 ^ k:=by
 rw [two_pow_cast]
 exact OG _
theorem bO:oW X (oh .Add) (Xd fun i j=>.int (i+j)):=adm fun _ _ _ _ _ _ _ q=>add_int q
theorem cB:oW X (oh .Sub) (Xd fun i j=>.int (i-j)):=adm fun _ _ _ _ _ _ _ q=>sub_int q
theorem fG:oW X (oh .Mod) (rI (fun _ j=>0<j) fun i j=>.int (i % j)):=opI fun i j _ _ _ _ _ hc q=>by
 have h1:(0:Int)<j:=hc
 exact mod_int' 0#c (by rw [Int.fmod_eq_emod_of_nonneg i 0#c];exact q)
theorem rP:oW X (oh .Pow) (rI acq fun i j=>.int (i ^ j.toNat)):=opI fun _ _ _ _ _ _ _ hc q=>pow_int_small hc.1 hc.2.1 hc.2.2 q
theorem S3:oW X (oh .RShift) (rI (fun _ j=>0≤j) fun i j=>.int (i/2 ^ j.toNat)):=opI fun i j _ _ _ _ _ hc q=>
 rshift_int hc (by rw [DQ i (M6 _)];exact q)
theorem unI {g:Int→Int}
 (rule:∀(i:Int) (t:Tok) (s:aU) (Q:aH→aU→Prop) (E:aH→aU→Prop),Q (.int (g i) s.toks) { s with toks:=s.toks+1 }→bF 0#l X.A (f (.int i t)) Q E s) :
 UnR X f (rU fun i=>.int (g i)):=by
 intro pins s σ H x v Q I rx h
 obtain ⟨i,rfl,q⟩:=h
 obtain ⟨t,rfl⟩:=rx
 exact rule i t s _ _ ⟨.int (g i),H,I.tok _,⟨_,rfl⟩,q⟩
theorem fY:UnR X (unaryOp .USub) (rU fun i=>.int (-i)):=unI fun _ _ _ _ _ q=>neg_int q
end
def Xo:V→V→Bool
 | .bC,.bC=>true | .bC,.int _=>true | .int _,.bC=>true | .bC,.bl _=>true | .bl _,.bC=>true | .bC,.str _=>true | .str _,.bC=>true
 | .int _,.int _=>true | .bl _,.bl _=>true | .str _,.str _=>true | .QM _,.QM _=>true
 | .int _,.str _=>true | .str _,.int _=>true | .bl _,.str _=>true | .str _,.bl _=>true
 | _,_=>false
def rEq:R2:=fun x y H Q=>Xo x y=true∧Q (.bl (decide (x=y))) H
def rNe:R2:=fun x y H Q=>Xo x y=true∧Q (.bl (!decide (x=y))) H
theorem Nq:decide (V.int i=V.int j)=(i==j):=by
 rw [zM]
 simp
theorem Ru:decide (V.bl i=V.bl j)=(i==j):=by
 rw [zM]
 simp
theorem Nr:decide (V.str i=V.str j)=(i==j):=by
 rw [zM]
 simp
theorem Np:decide (V.QM i=V.QM j)=(i.toList==j.toList):=by
 rw [zM]
 cases i
 cases j
 simp
section
theorem cA {σ:St} (I:Inv X pins σ H s) (q:Q (.bl k) H) (e:k=k'):EP X pins σ Q (.bool k') s:=by
 subst e
 exact ⟨.bl k,H,I,rfl,q⟩
theorem cI:oW X (kr .Eq) rEq:=by
 intro pins s σ H x y v u Q I rx ry h
 obtain ⟨hs,q⟩:=h
 cases x with
 | bC=>
   cases rx
   cases y with
   | bC=>cases ry;exact aei (cA I q 0#f)
   | bl j=>cases ry;exact aej (cA I q 0#f)
   | int j=>obtain ⟨t',rfl⟩:=ry;exact aet (cA I q 0#f)
   | str j=>obtain ⟨t',rfl⟩:=ry;exact aeu (cA I q 0#f)
   | _=>exact absurd (show false=true from hs) eO
 | bl i=>
   cases rx
   cases y with
   | bC=>cases ry;exact aek (cA I q 0#f)
   | bl j=>cases ry;exact eq_bool (cA I q Ru)
   | str j=>obtain ⟨t',rfl⟩:=ry;exact ael (cA I q 0#f)
   | _=>exact absurd (show false=true from hs) eO
 | int i=>
   obtain ⟨t,rfl⟩:=rx
   cases y with
   | bC=>cases ry;exact aev (cA I q 0#f)
   | int j=>obtain ⟨t',rfl⟩:=ry;exact eq_int (cA I q Nq)
   | str j=>obtain ⟨t',rfl⟩:=ry;exact aew (cA I q 0#f)
   | _=>exact absurd (show false=true from hs) eO
 | str i=>
   obtain ⟨t,rfl⟩:=rx
   cases y with
   | bC=>cases ry;exact aex (cA I q 0#f)
   | bl j=>cases ry;exact aem (cA I q 0#f)
   | int j=>obtain ⟨t',rfl⟩:=ry;exact aey (cA I q 0#f)
   | str j=>obtain ⟨t',rfl⟩:=ry;exact eq_str (cA I q Nr)
   | _=>exact absurd (show false=true from hs) eO
 | QM i=>
   obtain ⟨t,rfl⟩:=rx
   cases y with
   | QM j=>obtain ⟨t',rfl⟩:=ry;exact PySem.W.eq_bytes (cA I q Np)
   | _=>exact absurd (show false=true from hs) eO
 | _=>cases y <;> exact absurd (show false=true from hs) eO
theorem Ek:oW X (kr .NotEq) rNe:=by
 intro pins s σ H x y v u Q I rx ry h
 obtain ⟨hs,q⟩:=h
 cases x with
 | bC=>
   cases rx
   cases y with
   | bC=>cases ry;exact aen (cA I q 0#f)
   | bl j=>cases ry;exact aeo (cA I q 0#f)
   | int j=>obtain ⟨t',rfl⟩:=ry;exact aez (cA I q 0#f)
   | str j=>obtain ⟨t',rfl⟩:=ry;exact aeA (cA I q 0#f)
   | _=>exact absurd (show false=true from hs) eO
 | bl i=>
   cases rx
   cases y with
   | bC=>cases ry;exact aep (cA I q 0#f)
   | bl j=>cases ry;exact ne_bool (cA I q (congrArg not Ru))
   | str j=>obtain ⟨t',rfl⟩:=ry;exact aeq (cA I q 0#f)
   | _=>exact absurd (show false=true from hs) eO
 | int i=>
   obtain ⟨t,rfl⟩:=rx
   cases y with
   | bC=>cases ry;exact aeB (cA I q 0#f)
   | int j=>obtain ⟨t',rfl⟩:=ry;exact ne_int (cA I q (congrArg not Nq))
   | str j=>obtain ⟨t',rfl⟩:=ry;exact aeC (cA I q 0#f)
   | _=>exact absurd (show false=true from hs) eO
 | str i=>
   obtain ⟨t,rfl⟩:=rx
   cases y with
   | bC=>cases ry;exact aeD (cA I q 0#f)
   | bl j=>cases ry;exact aer (cA I q 0#f)
   | int j=>obtain ⟨t',rfl⟩:=ry;exact aeE (cA I q 0#f)
   | str j=>obtain ⟨t',rfl⟩:=ry;exact ne_str (cA I q (congrArg not Nr))
   | _=>exact absurd (show false=true from hs) eO
 | QM i=>
   obtain ⟨t,rfl⟩:=rx
   cases y with
   | QM j=>obtain ⟨t',rfl⟩:=ry;exact PySem.W.ne_bytes (cA I q (congrArg not Np))
   | _=>exact absurd (show false=true from hs) eO
 | _=>cases y <;> exact absurd (show false=true from hs) eO
theorem lU:oW X (kr .Lt) (Xd fun i j=>.bl (decide (i<j))):=W0 fun _ _ _ _ _ _ _ q=>lt_int q
theorem Yd:oW X (kr .LtE) (Xd fun i j=>.bl (decide (i≤j))):=W0 fun _ _ _ _ _ _ _ q=>le_int q
theorem cY:oW X (kr .Gt) (Xd fun i j=>.bl (decide (j<i))):=W0 fun _ _ _ _ _ _ _ q=>gt_int q
theorem vY:oW X (kr .GtE) (Xd fun i j=>.bl (decide (j≤i))):=W0 fun _ _ _ _ _ _ _ q=>ge_int q
theorem BN:oW X (kr .Is) (fun x y H Q=>y=.bC∧Q (.bl (decide (x=.bC))) H):=by
 intro pins s σ H x y v u Q I rx ry h
 obtain ⟨rfl,q⟩:=h
 cases ry
 refine is_none_gen (cA I q ?_)
 cases x <;> first
  | (cases rx;rfl)
  | (obtain ⟨t,rfl⟩:=rx;rfl)
theorem iY:oW X (kr .IsNot) (fun x y H Q=>y=.bC∧Q (.bl (!decide (x=.bC))) H):=by
 intro pins s σ H x y v u Q I rx ry h
 obtain ⟨rfl,q⟩:=h
 cases ry
 refine isnot_none_gen (cA I q ?_)
 cases x <;> first
  | (cases rx;rfl)
  | (obtain ⟨t,rfl⟩:=rx;rfl)
theorem aD (b:bf)  (h:op≠.In:=by decide) (h2:op≠.NotIn:=by decide):behindInMarks op b=false:=by
 have e1:(op==CmpOp.In)=false:=by cases op <;> first | rfl | exact absurd rfl h
 have e2:(op==CmpOp.NotIn)=false:=by cases op <;> first | rfl | exact absurd rfl h2
 cases b <;> simp [behindInMarks,e1,e2]
theorem Gn {X:Cx} {a b:bf} {ta tb:TE} {pos:Pos} {op:CmpOp} {r:R2} (ho:oW X (kr op) r) (ha:PE X a ta) (hb:PE X b tb) (hm:behindInMarks op b=false):PE X (.Compare a [op] [b] pos) (HA r ta tb):=by
 intro pins s σ H Q I h
 exact wpAny_Compare1 (aao ha hb I h fun v u s2 x y H2 I2 rx ry q=>ho pins s2 σ H2 x y v u Q I2 rx ry q) hm
def JJ (t:TE):TT:=fun σ H Q=>t σ H fun x H'=>∃k,x=.bl k∧Q k H'
theorem GB {X:Cx} {a b:bf} {ta tb:TE} {pos:Pos} {op:CmpOp} {r:R2} (ho:oW X (kr op) r) (ha:PE X a ta) (hb:PE X b tb) (hm:behindInMarks op b=false):PT X (.Compare a [op] [b] pos) (JJ (HA r ta tb)):=by
 intro pins s σ H Q I h
 refine wpAny_isTrue_Compare1 (fF (ha pins s σ H _ I h) fun v s1 ⟨x,H1,I1,r1,q1⟩=>fF (hb pins s1 σ H1 _ I1 q1) fun u s2 ⟨y,H2,I2,r2,q2⟩=>
  fF (ho pins s2 σ H2 x y v u _ I2 r1 r2 q2) fun c s3 ⟨z,H3,I3,r3,k,e,q3⟩=>?_) hm
 subst e
 cases r3
 exact zJ ⟨H3,I3,q3⟩
def M1 (r r':R2) (ta tb tc:TE):TE:=fun σ H Q=>ta σ H fun x H1=>tb σ H1 fun y H2=>r x y H2 fun z H3=>∃k,z=.bl k ∧
 (if k=true then tc σ H3 fun w' H4=>r' y w' H4 Q else Q (.bl false) H3)
theorem BU (ho:oW X (kr op) r) (ho':oW X (kr op') r') (ha:PE X a ta) (hb:PE X b tb) (hc:PE X c tc)
 (hm:lastMarks [op,op'] [b,c]=false:=by with_unfolding_all rfl):PT X (.Compare a [op,op'] [b,c] pos) (JJ (M1 r r' ta tb tc)):=by
 intro pins s σ H Q I h
 refine isTrue_chain (fF (ha pins s σ H _ I h) fun v s1 ⟨x,H1,I1,r1,q1⟩=>test_link (fF (hb pins s1 σ H1 _ I1 q1) fun u s2 ⟨y,H2,I2,r2,q2⟩=>
  fF (ho pins s2 σ H2 x y v u _ I2 r1 r2 q2) fun d s3 ⟨z,H3,I3,r3,k,e,q3⟩=>?_)) hm
 subst e
 cases r3
 refine zJ ?_
 cases k with
 | false=>
   obtain ⟨k',e',q'⟩:=q3
   cases e'
   exact ite_ff ⟨H3,I3,q'⟩
 | true=>
   refine ite_tt (test_last (fF (hc pins s3 σ H3 _ I3 q3) fun w' s4 ⟨z',H4,I4,r4,q4⟩=>fF (ho' pins s4 σ H4 y z' u w' _ I4 r2 r4 q4) fun d' s5 ⟨z2,H5,I5,r5,k2,e2,q5⟩=>?_))
   subst e2
   cases r5
   exact zJ ⟨H5,I5,q5⟩
theorem Bv:(sizeLine:Nat)<2 ^ 63:=by rw [sizeLine_eq];decide
theorem vals1 (r:Vals [x] us):∃u,us=[u]∧RelV x u:=by
 cases r with
 | cons r1 r2=>cases r2;exact ⟨_,rfl,r1⟩
theorem vals2 (r:Vals [x,y] us):∃u w',us=[u,w']∧RelV x u∧RelV y w':=by
 cases r with
 | cons r1 r2=>
   cases r2 with
   | cons r3 r4=>cases r4;exact ⟨_,_,rfl,r1,r3⟩
theorem Rn:iO X (.builtin "abs") (fun xs H Q=>∃i,xs=[.int i]∧Q (.int (if i<0 then -i else i)) H):=by
 intro pins s σ H xs us Q I r h
 obtain ⟨i,rfl,q⟩:=h
 obtain ⟨u,rfl,t,rfl⟩:=vals1 r
 exact call_abs_int fun u tk=>⟨.int (if i<0 then -i else i),H,I.tok _,⟨_,rfl⟩,q⟩
theorem Pf (hc:X.calm=true):iO X (.builtin "max") (fun xs H Q=>∃i j,xs=[.int i,.int j]∧Q (.int (if j>i then j else i)) H):=by
 intro pins s σ H xs us Q I r h
 obtain ⟨i,j,rfl,q⟩:=h
 obtain ⟨u,w',rfl,⟨t,rfl⟩,⟨t',rfl⟩⟩:=vals2 r
 refine max_two_ints (I.ok.hd hc) fun h' tk k=>⟨_,H,I.kept k,?_,q⟩
 by_cases hj:j>i
 ·rw [if_pos hj,if_pos hj];exact ⟨_,rfl⟩
 ·rw [if_neg hj,if_neg hj];exact ⟨_,rfl⟩
theorem Pg (hc:X.calm=true):iO X (.builtin "min") (fun xs H Q=>∃i j,xs=[.int i,.int j]∧Q (.int (if j<i then j else i)) H):=by
 intro pins s σ H xs us Q I r h
 obtain ⟨i,j,rfl,q⟩:=h
 obtain ⟨u,w',rfl,⟨t,rfl⟩,⟨t',rfl⟩⟩:=vals2 r
 refine min_two_ints (I.ok.hd hc) fun h' tk k=>⟨_,H,I.kept k,?_,q⟩
 by_cases hj:j<i
 ·rw [if_pos hj,if_pos hj];exact ⟨_,rfl⟩
 ·rw [if_neg hj,if_neg hj];exact ⟨_,rfl⟩
end
structure KG (h:b8) (x dx C:ao) (mA:Str→Option aH):Prop where
 obj:h.get? x=some (zL C dx)
 ns:h.Ns1 dx mA
 ne:dx≠x
theorem Qa {h:b8} (n:h.Ns1 dx mA):∃od,h.get? dx=some od∧∀name,OV name od=some (mA name):=by
 obtain ⟨o,es,ep,ho,hd,hk,_,hm⟩:=n
 refine ⟨o,ho,fun name=>?_⟩
 have e:=hm name
 unfold nsFind findBy at e
 rw [← Array.find?_toList] at e
 unfold OV
 rw [hd]
 dsimp only
 split
 ·rename_i y q
  rw [q] at e
  exact congrArg some e
 ·rename_i q
  rw [q] at e
  have a:es.toList.any (·.refKey)=false:=by
   rw [List.any_eq_false]
   intro y hy
   obtain ⟨z,t,hkey⟩:=hk y (Array.mem_toList_iff.mp hy)
   simp [DictEntry.refKey,hkey]
  have a':¬es.toList.any (·.refKey)=true:=by rw [a];exact eO
  rw [if_neg a']
  exact congrArg some e
theorem KG.look (I:KG h x dx C mA):∃od,PySem.W.InstAt h x (zL C dx) C (some od)∧∀name,OV name od=some (mA name):=
 let ⟨od,ho,hl⟩:=Qa I.ns
 ⟨od,⟨I.obj,rfl,rfl,ho⟩,hl⟩
section
theorem get_map {K:bM} (X:K.In s.heap) (I:KG s.heap x dx C mA) (hg:EN K C name=true) (hh:JZ K C=true)
 (ha:ki K (.ref C) name=some none) (hv:mA name=some v) (hv':Zi v=true) (h:Q v { s with toks:=s.toks+1 }) :
 bF (model prog w) A (getAttr (.ref x) name expr) Q E s:=by
 obtain ⟨od,J,hl⟩:=I.look
 exact PySem.W.get_value X J (UC hg).1 (PySem.W.findObj_own hh ha rfl (by rw [hl,hv])) hv' h
theorem RL {K:bM} (X:K.In s.heap) (I:KG s.heap x dx C mA) (hg:EN K C name=true)
 (hf:ki K (.ref C) name=some (some (.ref f))) (ht:zQ K (.ref f)=true) (hv:mA name=none) (h:Q (.ref f,[.ref x]) s) :
 bF (model prog w) A (getMethod (.ref x) name pl) Q E s:=by
 obtain ⟨od,J,hl⟩:=I.look
 exact PySem.W.method_fn X J (UC hg).1 (UC hg).2 hf (qP.mp ht) (by show (OV name od).map (·.isSome)=some false;rw [hl,hv];rfl) h
theorem Xr {K:bM} (X:K.In s.heap) (I:KG s.heap x dx C mA)
 (hs:ki K (.ref C) "__setattr__"=some (some (.builtin "object.__setattr__"))) (hp:OL K C=true) (ht:UZ K C name=some none) (hh:JZ K C=true)
 (hw:U8 mA ns) (hsz:ns.length≤sizeLine)
 (h:∀h',KG h' x dx C (fun y=>if y=name then some v else mA y)→zP dx s.heap h'→Q () { s with heap:=h',toks:=s.toks+2 }) :
 bF (model prog w) A (setAttr (.ref x) name v) Q E s:=by
 obtain ⟨od,J,hl⟩:=I.look
 refine PySem.W.set_plain X J hs (PySem.W.osa_open (s:={ s with toks:=s.toks+1 }) (r:=none) X J hp ht fun b=>?_)
 obtain ⟨cd,hc,hd'⟩:=PySem.W.any_some hh
 have hx:s.heap.get? x=some ⟨.ref C,some dx,.plain,#[]⟩:=I.obj
 refine cX (jx (cX (cX (wpAny_loadPart hx (cX (aeU (s:={ s with toks:=s.toks+1 }) (PySem.W.looks_clsIn X hc) ?_))))))
 rw [hd']
 refine jx (a:=some dx) (cX (jx (cX ?_)))
 refine wpAny_nsSet1 (s:={ s with toks:=s.toks+1 }) I.ns fun h' hn2 hs2=>?_
 obtain ⟨oD,esD,epD,hoD,hdD,hcD⟩:=hn2.count (aeY name v hw)
 refine cX (wpAny_lookBehind hoD (by rw [hdD];exact pastItsLine_dict (dI hcD (by rw [iu];simp?))) ?_)
 exact jx (h _ ⟨(hs2.2 _ (eG I.ne)).trans I.obj,hn2,I.ne⟩ hs2)
theorem Ss {s:aU} {K:bM} (X:K.In s.heap) (hm:OS K C=true)
 (hi:ki K (.ref C) "__init__"=some (some (.ref f))) (hf:PySem.W.typeIn K (.ref f)=some (.type "function"))
 (h:xy (model prog w) (A.under (.builtin "type.__call__" ⟨.ref C::vs,kw⟩)) (.call (.ref f) ⟨.ref (s.heap.objs.size+1)::vs,kw⟩) (PySem.W.InitBack (s.heap.objs.size+1) R)
   { s with heap:=(s.heap.push xm).push (zL C s.heap.objs.size) }) :
 xy (model prog w) A (.call (.ref C) ⟨vs,kw⟩) R s:=by
 obtain ⟨hh,g,d,t,os⟩:=s
 exact PySem.W.make_core (PySem.W.makes_of X hm) (PySem.W.looks_findIn X hi) (fun self=>PySem.W.bind_fn X self hf) (.inl rfl) h
end
def aA (f:Str) (v:V):List (Str×V)→List (Str×V)
 | []=>[(f,v)]
 | (g,x)::r=>if g=f then (g,v)::r else (g,x)::aA f v r
theorem af (f g:Str) (v:V):∀fs:List (Str×V),(aA f v fs).lookup g=if g=f then some v else fs.lookup g
 | []=>by
   show CV g [(f,v)]=_
   by_cases h:g=f
   ·have hb:(g==f)=true:=qP.mpr h
    simp only [CV,hb,if_pos h]
   ·have hb:(g==f)=false:=JW.mpr h
    simp only [CV,hb,if_neg h]
 | (k,x)::r=>by
   have ih:=af f g v r
   rw [show aA f v ((k,x)::r)=(if k=f then (k,v)::r else (k,x)::aA f v r) from rfl]
   by_cases hk:k=f
   ·rw [if_pos hk]
    by_cases h:g=k
    ·have hb:(g==k)=true:=qP.mpr h
     simp only [CV,hb,if_pos (h.trans hk)]
    ·have hb:(g==k)=false:=JW.mpr h
     simp only [CV,hb,if_neg (fun e:g=f=>h (e.trans hk.symm))]
   ·rw [if_neg hk]
    by_cases h:g=k
    ·have hb:(g==k)=true:=qP.mpr h
     simp only [CV,hb,if_neg (fun e:g=f=>hk (h.symm.trans e))]
    ·have hb:(g==k)=false:=JW.mpr h
     simp only [CV,hb]
     exact ih
theorem xY (f:Str) (v:V):∀fs:List (Str×V),f∈(aA f v fs).map (·.1)∧∀g,g∈fs.map (·.1)→g∈(aA f v fs).map (·.1)
 | []=>⟨by simp [aA],fun g h=>by simp at h⟩
 | (k,x)::r=>by
   obtain ⟨i1,i2⟩:=xY f v r
   rw [show aA f v ((k,x)::r)=(if k=f then (k,v)::r else (k,x)::aA f v r) from rfl]
   by_cases hk:k=f
   ·rw [if_pos hk]
    subst hk
    exact ⟨by simp,fun g h=>by simpa using h⟩
   ·rw [if_neg hk]
    refine ⟨?_,fun g h=>?_⟩
    ·rw [qU]
     exact vE _ i1
    ·rw [qU] at h ⊢
     rcases lg.mp h with e | e
     ·exact lg.mpr (.inl e)
     ·exact vE _ (i2 g e)
theorem zf (f:Str) (v:V):∀fs:List (Str×V),(aA f v fs).length≤fs.length+1
 | []=>by simp [aA]
 | (k,x)::r=>by
   have ih:=zf f v r
   rw [show aA f v ((k,x)::r)=(if k=f then (k,v)::r else (k,x)::aA f v r) from rfl]
   by_cases hk:k=f
   ·rw [if_pos hk,iu,iu];simp?
   ·rw [if_neg hk,iu,iu];simp?
theorem tT.some_of (r:tT (some v) o):∃u,o=some u∧RelV v u:=by
 cases o with
 | none=>exact (show False from r).elim
 | some u=>exact ⟨u,rfl,r⟩
theorem tT.none_of (r:tT none o):o=none:=by
 cases o with
 | none=>rfl
 | some u=>exact (show False from r).elim
theorem PN (r:RelV v u):Zi u=true:=by
 cases v with
 | bC=>cases (show u=Value.none from r);rfl
 | bl b=>cases (show u=Value.bool b from r);rfl
 | int i=>obtain ⟨t,e⟩:=(show ∃t,u=Value.int i t from r);cases e;rfl
 | str x=>obtain ⟨t,e⟩:=(show ∃t,u=Value.str x t from r);cases e;rfl
 | QM b=>obtain ⟨t,e⟩:=(show ∃t,u=Value.bytes b t from r);cases e;rfl
 | flt b=>obtain ⟨t,e⟩:=(show ∃t,u=Value.float b t from r);cases e;rfl
 | ref a=>cases (show u=Value.ref a from r);rfl
 | ty n=>cases (show u=Value.type n from r);rfl
section
theorem AF (hok:tF P w H h) (e:H a=some (.ins C dx fs)):∃mA,KG h a dx C mA∧(∀f,tT (fs.lookup f) (mA f))∧U8 mA (fs.map (·.1))∧fs.length≤1000∧H dx=some (.own a):=by
 obtain ⟨d,z,ne,ob,mA,n,r,q⟩:=(show dJ P w H h a (.ins C dx fs) from hok a _ e)
 exact ⟨mA,⟨ob,n,ne⟩,r,q,z,d⟩
end
structure Ku (K:bM) (C:ao):Prop where
 pg:EN K C Vt=true
 hd:JZ K C=true
 po:OL K C=true
 sa:ki K (.ref C) "__setattr__"=some (some (.builtin "object.__setattr__"))
theorem Ku.get {K:bM} (c:Ku K C) (f:Str):EN K C f=true:=c.pg
def oB (K:bM) (C:ao) (f:Str):Prop:=ki K (.ref C) f=some none
theorem oB.ad2 {K:bM} (n:oB K C f):UZ K C f=some none:=by
 unfold UZ
 rw [show ki K (.ref C) f=some none from n]
 rfl
structure Meth (K:bM) (C:ao) (m:Str) (f:ao):Prop where
 at_:ki K (.ref C) m=some (some (.ref f))
 fn:zQ K (.ref f)=true
 kp:uq K (.ref f)=true
section
theorem KZ {σ:St} (I:Inv X pins σ H s) (e:H a=some (.ins C dx fs)) (c:Ku X.K C) (n:oB X.K C f) (l:fs.lookup f=some v)
 (h:∀u s',Inv X pins σ H s'→RelV v u→Q u s'):bF 0#l A (getAttr (.ref a) f b) Q E s:=by
 obtain ⟨mA,O,r,_,_,_⟩:=AF I.hok e
 obtain ⟨u,hu,ru⟩:=tT.some_of (v:=v) (o:=mA f) (by rw [← l];exact r f)
 exact get_map I.xX O (c.get f) c.hd n hu (PN ru) (h u _ (I.tok _) ru)
theorem Bd {σ:St} (I:Inv X pins σ H s) (e:H a=some (.ins C dx fs)) (c:Ku X.K C) (k:Meth X.K C m g) (l:fs.lookup m=none)
 (h:Q (.ref g,[.ref a]) s):bF 0#l A (getMethod (.ref a) m pl) Q E s:=by
 obtain ⟨mA,O,r,_,_,_⟩:=AF I.hok e
 have hn:mA m=none:=tT.none_of (by rw [← l];exact r m)
 exact RL I.xX O (c.get m) k.at_ k.fn hn h
theorem MI {σ:St} (I:Inv X pins σ H s) (e:H a=some (.ins C dx fs)) (c:Ku X.K C) (n:oB X.K C f) (hl:fs.length<1000) (ry:RelV y u)
 (h:∀s',Inv X pins σ (upd H a (.ins C dx (aA f y fs))) s'→Q () s'):bF 0#l A (setAttr (.ref a) f u) Q E s:=by
 obtain ⟨mA,O,r,wi,_,ho⟩:=AF I.hok e
 have hz:(fs.map (·.1)).length≤sizeLine:=by rw [eV,sizeLine_eq];simp?
 refine Xr I.xX O c.sa c.po n.ad2 c.hd wi hz fun h' O' sb=>h _ ?_
 have hd:∃o,h'.get? dx=some o:=let ⟨o,_,_,e',_⟩:=O'.ns;⟨o,e'⟩
 refine I.write (x:=a) (e:=dx) (by rw [e];exact True.intro) (.inr ho) (fun b q hb z=>(sb.2 b hb).trans z) hd ?_
 refine ⟨by rw [aI O.ne];exact ho,?_,O.ne,O'.obj,_,O'.ns,fun g=>?_,fun g hg=>?_⟩
 ·have:=zf f y fs;simp?
 ·show tT ((aA f y fs).lookup g) (if g=f then some u else mA g)
  rw [af]
  by_cases q:g=f
  ·rw [if_pos q,if_pos q];exact ry
  ·rw [if_neg q,if_neg q];exact r g
 ·by_cases q:g=f
  ·rw [q];exact (xY f y fs).1
  ·refine (xY f y fs).2 g (wi g fun z=>hg ?_)
   show (if g=f then some u else mA g)=none
   rw [if_neg q];exact z
theorem Inv.made {σ:St} (I:Inv X pins σ H s):Inv X pins σ (upd (upd H s.heap.objs.size (.own (s.heap.objs.size+1))) (s.heap.objs.size+1) (.ins C s.heap.objs.size []))
 { s with heap:=(s.heap.push xm).push (zL C s.heap.objs.size) }:=by
 have e1:(s.heap.push xm).get? s.heap.objs.size=some xm:=Aw s.heap rfl
 have e2:((s.heap.push xm).push (zL C s.heap.objs.size)).get? (s.heap.objs.size+1)=some (zL C s.heap.objs.size):=by
  have:=Aw (s.heap.push xm) (o:=zL C s.heap.objs.size) rfl
  rwa [OW] at this
 have e3:(s.heap.push xm).Ns s.heap.objs.size (fun _=>none):=⟨xm,#[],_,e1,rfl,(fun e he=>absurd he 0#f),fun _=>rfl⟩
 have I1:=I.laid (a:=s.heap.objs.size) (o:=.own (s.heap.objs.size+1)) (h':=s.heap.push xm) (t':=s.toks) (fun b u q=>jN _ q) (dm _) ⟨_,e1⟩
 refine I1.laid (a:=s.heap.objs.size+1) (o:=.ins C s.heap.objs.size []) (t':=s.toks) (fun b u q=>jN _ q) (U9 (OW _ _)) ?_
 have ne:s.heap.objs.size≠s.heap.objs.size+1:=jP (UW _)
 refine ⟨by rw [aI ne,av],nH _,ne,e2,fun _=>none,(Heap.Ns1.of_empty e3).at fun o q=>jN _ q,fun _=>True.intro,fun y hy=>absurd rfl hy⟩
theorem VP (hb:pP e f env (eval e env)=eval e env)
 (h:bF (model prog w) A (eval e env) (fun o s₁=>bF (model prog w) A (getAttr o f true) Q E s₁) E s):bF (model prog w) A (eval (.Attribute e f pos) env) Q E s:=
 Attribute_any_ h (by rw [arm_eval_Attribute,hb])
end
def ab6 (K:bM) (ta:TE) (f:Str):TE:=fun σ H Q=>ta σ H fun x H1=>∃a C dx fs v,x=.ref a∧H1 a=some (.ins C dx fs)∧Ku K C∧oB K C f∧fs.lookup f=some v∧Q v H1
def abZ (K:bM) (ta tv:TE) (f:Str):TS:=fun D σ H=>tv σ H fun y H1=>ta σ H1 fun x H2=>∃a C dx fs,x=.ref a∧H2 a=some (.ins C dx fs)∧Ku K C∧oB K C f∧fs.length<1000 ∧
 D.nx σ (upd H2 a (.ins C dx (aA f y fs)))
section
theorem Ma {X:Cx} {e:bf} {f:Str} {pos:Pos} {ta:TE} (he:PE X e ta) (hb:pP e f X.env (eval e X.env)=eval e X.env):PE X (.Attribute e f pos) (ab6 X.K ta f):=by
 intro pins s σ H Q I h
 refine VP hb (fF (he pins s σ H _ I h) fun u s1 ⟨x,H1,I1,rx,a,C,dx,fs,v,ex,ea,c,n,l,q⟩=>?_)
 subst ex
 obtain rfl:u=Value.ref a:=rx
 exact KZ I1 ea c n l fun u' s2 I2 ru=>⟨v,H1,I2,ru,q⟩
theorem Mm {X:Cx} {o value:bf} {f:Str} {pos pos':Pos} {ta tv:TE} (ha:PE X o ta) (hv:PE X value tv) (hs:jI value (some (.Attribute o f pos')) pos.line X.env=pure false):PS X (.Assign [.Attribute o f pos'] value pos) (abZ X.K ta tv f):=by
 intro pins s σ H D I h
 refine plainObj_wpAny_Assign_Attribute (fF (hv pins s σ H _ I h) fun u s1 ⟨y,H1,I1,ry,q⟩=>fF (ha pins s1 σ H1 _ I1 q) fun ov s2 ⟨x,H2,I2,rx,a,C,dx,fs,ex,ea,c,n,l,q2⟩=>?_) hs
 subst ex
 obtain rfl:ov=Value.ref a:=rx
 exact MI I2 ea c n l ry fun s3 I3=>⟨σ,_,I3,q2⟩
inductive vK (K:bM) (H:Hp):V→aH→Prop where
 | bC:vK K H .bC (.type "NoneType")
 | bl (x:Bool):vK K H (.bl x) (.type "bool")
 | int (i:Int):vK K H (.int i) (.type "int")
 | str (x:Str):vK K H (.str x) (.type "str")
 | flt (x:UInt64):vK K H (.flt x) (.type "float")
 | lst {a:ao} {xs:List V} (e:H a=some (.lst xs)):vK K H (.ref a) (.type "list")
 | Nz {a:ao} {o:Obj} {xs:List V} (e:H a=some (.Nz o (.lst xs))):vK K H (.ref a) (.type "list")
 | tup {a:ao} {xs:List V} (e:H a=some (.tup xs)):vK K H (.ref a) (.type "tuple")
 | dK {a:ao} {kvs:List (Key×V)} (e:H a=some (.dK kvs)):vK K H (.ref a) (.type "dict")
 | dT {a:ao} {kvs:List (List Key×V)} (e:H a=some (.dT kvs)):vK K H (.ref a) (.type "dict")
 | ins {a C dx:ao} {fs:List (Str×V)} (e:H a=some (.ins C dx fs)) (cl:Ku K C) (ha:ki K (.ref C) "__class__"=some (some (.builtin "object.__class__")))
  (hn:PySem.W.specialIn K (.builtin "object.__class__") "__get__"=some (some (.builtin "getset_descriptor.__get__"))) (htk:PySem.W.takesIn K (.builtin "object.__class__")=some true)
  (hm:PySem.W.mroIn K C (.type "object")=some true):vK K H (.ref a) (.ref C)
theorem P4 {σ:St} (I:Inv X pins σ H s) (rx:RelV x u) (ty:vK X.K H x t) (e:CN X.K t c=some b) (h:∀tk,Q (.bool b) { s with toks:=tk }) :
 bF 0#l A (call (.builtin "isinstance") [u,c]) Q E s:=by
 cases ty with
 | bC=>cases (show u=Value.none from rx);exact sP PySem.W.kitx_none I.xX True.intro e (fun z=>nomatch z) h
 | bl y=>cases (show u=Value.bool y from rx);exact sP PySem.W.kitx_bool I.xX True.intro e (fun z=>nomatch z) h
 | int i=>obtain ⟨t,q⟩:=(show ∃t,u=Value.int i t from rx);cases q;exact sP PySem.W.kitx_int I.xX True.intro e (fun z=>nomatch z) h
 | str y=>obtain ⟨t,q⟩:=(show ∃t,u=Value.str y t from rx);cases q;exact sP PySem.W.kitx_str I.xX True.intro e (fun z=>nomatch z) h
 | flt y=>obtain ⟨t,q⟩:=(show ∃t,u=Value.float y t from rx);cases q;exact sP PySem.W.kitx_float I.xX True.intro e (fun z=>nomatch z) h
 | @lst a xs ea=>
   cases (show u=Value.ref a from rx)
   obtain ⟨_,_,n,_,h1⟩:=(show dJ X.prog X.w H s.heap a (.lst xs) from I.hok a _ ea)
   exact sP Y9 I.xX ⟨_,h1,rfl⟩ e (fun z=>nomatch z) h
 | @Nz a ob xs ea=>
   cases (show u=Value.ref a from rx)
   obtain ⟨_,_,_,n,_,h1⟩:=(show dJ X.prog X.w H s.heap a (.Nz ob (.lst xs)) from I.hok a _ ea)
   exact sP Y9 I.xX ⟨_,h1,rfl⟩ e (fun z=>nomatch z) h
 | @tup a xs ea=>
   cases (show u=Value.ref a from rx)
   obtain ⟨_,_,_,p⟩:=(show dJ X.prog X.w H s.heap a 0#s from I.hok a _ ea)
   obtain ⟨o,h1,h2,_⟩:=p
   exact sP PySem.W.kitx_tuple I.xX ⟨o,h1,h2⟩ e (fun z=>nomatch z) h
 | @dK a kvs ea=>
   cases (show u=Value.ref a from rx)
   obtain ⟨_,_,vs,_,p⟩:=(show dJ X.prog X.w H s.heap a (.dK kvs) from I.hok a _ ea)
   obtain ⟨o,es,ep,h1,h2,_⟩:=p
   exact sP Za I.xX ⟨o,h1,h2.1⟩ e (fun z=>nomatch z) h
 | @dT a kvs ea=>
   cases (show u=Value.ref a from rx)
   obtain ⟨_,_,xs,_,o,es,ep,h1,h2,_⟩:=(show dJ X.prog X.w H s.heap a (.dT kvs) from I.hok a _ ea)
   exact sP Za I.xX ⟨o,h1,h2.1⟩ e (fun z=>nomatch z) h
 | @ins a C dx fs ea cl ha hn htk hm=>
   cases (show u=Value.ref a from rx)
   obtain ⟨mA,O,_⟩:=AF I.hok ea
   obtain ⟨od,J,_⟩:=O.look
   exact sP (PySem.W.kitx_own (cl.get _) cl.hd ha hn htk hm) I.xX J e (fun z=>nomatch z) h
end
structure gT (k:Nat) (A:nG):Prop where
 hd:A.handled=none
 dp:A.depth+3*k+5<recursionLimit
 un:A.units+16*k+200<oq
theorem gT.mono (r:gT k A) (h:j≤k):gT j A:=⟨r.hd,by have:=r.dp;simp?,by have:=r.un;simp?⟩
theorem gT.deeper (r:gT (k+1) A) (env:Env):gT k (A.deeper env):=
 ⟨r.hd,by have:=r.dp;show A.depth+1+3*k+5<_;simp?,by have:=r.un;show A.units+3+16*k+200<_;simp?⟩
theorem Ly {A:nG}:(A.under (.builtin "type.__call__" ⟨.ref C::us,kw⟩)).depth=A.depth+1:=by
 first | rfl | simp [Va,Code.weight,Code.isCreation,Code.isGuard,Code.isCaller,Z3,Vb,guardIds]
theorem Lz {A:nG}:(A.under (.builtin "type.__call__" ⟨.ref C::us,kw⟩)).units=A.units+1:=by
 first | rfl | simp [Va,Code.cUnits,Z3,Vb]
theorem gT.make (r:gT (k+1) A) (C:ao) (us:List aH) (kw:List (Str×aH)):gT k (A.under (.builtin "type.__call__" ⟨.ref C::us,kw⟩)):=
 ⟨r.hd,by have:=r.dp;rw [Ly];simp?,by have:=r.un;rw [Lz];simp?⟩
theorem gT.depth (r:gT k A):A.depth<recursionLimit:=by have:=r.dp;simp?
theorem gT.units (r:gT k A):A.units+64<oq:=by have:=r.un;simp?
def nA:TA:=fun _ H Q=>Q [] H
def dN (ta:TE) (tr:TA):TA:=fun σ H Q=>ta σ H fun x H1=>tr σ H1 fun xs H2=>Q (x::xs) H2
section
theorem u5 {X:Cx}:PA X [] nA:=fun _ _ _ _ H Q I h=>Calls.spliced_nil ⟨[],H,I,.nil,h⟩
theorem kE {X:Cx} {e:bf} {es:List bf} {te:TE} {t:TA} (ha:PE X e te) (hr:PA X es t) (hs:aY (e::es) X.env=(false,eval e X.env)::aY es X.env:=by rfl):PA X (e::es) (dN te t):=by
 intro pos pins s σ H Q I h
 rw [hs]
 show bF _ _ (spliced ((false,eval e X.env)::gC pos (aY es X.env))) _ _ s
 refine Calls.spliced_cons (fF (ha pins s σ H _ I h) fun u s1 ⟨x,H1,I1,r1,q1⟩=>?_)
 exact fF (hr pos pins s1 σ H1 _ I1 q1) fun us s2 ⟨xs,H2,I2,r2,q2⟩=>⟨x::xs,H2,I2,.cons r1 r2,q2⟩
def XC (t:TA):TE:=fun σ H Q=>t σ H fun xs H1=>xs.length≤sizeLine∧∀p,H1 p=none→Q (.ref p) (upd H1 p 0#s)
def ab9 (t:TA):TE:=fun σ H Q=>t σ H fun xs H1=>xs.length≤sizeLine∧∀p,H1 p=none→Q (.ref p) (upd H1 p (.lst xs))
theorem Mh {X:Cx} {es:List bf} {t:TA} {pos:Pos} {x1} (h:PA X es t):PE X (.Tuple es x1 pos) (XC t):=by
 intro pins s σ H Q I hq
 refine wpAny_Tuple_spliced (fF (h pos pins s σ H _ I hq) fun us s1 ⟨xs,H1,I1,r,z,q⟩=>⟨by rw [← r.length];exact z,?_⟩)
 have hf:H1 s1.heap.objs.size=none:=I1.hok.fresh (dm _)
 refine ⟨.ref s1.heap.objs.size,upd H1 s1.heap.objs.size 0#s,I1.laid (t':=s1.toks) (fun b u e=>jN _ e) (dm _) ?_,rfl,q _ hf⟩
 exact ⟨z,us,r,⟨_,Aw _ rfl,rfl,_,rfl⟩⟩
theorem Mb {X:Cx} {es:List bf} {t:TA} {pos:Pos} (h:PA X es t):PE X (.List es pos) (ab9 t):=by
 intro pins s σ H Q I hq
 refine wpAny_List_spliced (fF (h pos pins s σ H _ I hq) fun us s1 ⟨xs,H1,I1,r,z,q⟩=>⟨by rw [← r.length];exact z,?_⟩)
 have hf:H1 s1.heap.objs.size=none:=I1.hok.fresh (dm _)
 refine ⟨.ref s1.heap.objs.size,upd H1 s1.heap.objs.size (.lst xs),I1.laid (t':=s1.toks) (fun b u e=>jN _ e) (dm _) ?_,rfl,q _ hf⟩
 exact ⟨z,us,0,r,Aw _ rfl⟩
end
abbrev Sp:=List V→Hp→VK→XK→Prop
abbrev VG:=List Env→Hp→aU→XK→aH→aU→Prop
structure KA (P:gX) (w:di) (K:bM) (mg:Str→Option aH) (base:b8) (A:nG) (outer:List Env) (s:aU) (H:Hp):Prop where
 frames:A.frames=some outer
 mod:Mod K mg base
 bs:∀b o,base.get? b=some o→s.heap.get? b=some o∧H b=none
 VR:base.objs.size≤s.heap.objs.size
 z5:s.heap.FunFrames base outer
 frf:∀b∈frs outer,H b=none
 hok:tF P w H s.heap
 bare:xw s.gens
def CE (outer:List Env) (P:gX) (w:di) (H:Hp) (s:aU) (Q:VK) (u:aH) (s':aU):Prop:=
 ∃v H',s'.os=s.os∧xw s'.gens∧Un (frs outer) [] H H' s.heap s'.heap∧tF P w H' s'.heap∧RelV v u∧Q v H'
def CR (CX:VG) (outer:List Env) (P:gX) (w:di) (H:Hp) (s:aU) (Q:VK) (E:XK) (r:Result) (s':aU):Prop:=
 match r with
 | .ok (.ret u)=>CE outer P w H s Q u s'
 | .ok _=>False
 | .error e=>CX outer H s E e s'
structure bg (P:gX) (w:di) (K:bM) (mg:Str→Option aH) (base:b8) (CX:VG) (k:Nat) (f:ao) (fd:iS) (ps:List Str) (sp:Sp):Prop where
 len:∀vs H Q E,sp vs H Q E→vs.length=ps.length
 run:∀(A:nG) (outer:List Env) (s:aU) (H:Hp) (args:Args) (us:List aH) (vs:List V) (Q:VK) (E:XK),gT k A→KA P w K mg base A outer s H→zV s fd args (ps.zip us)→Vals vs us→sp vs H Q E →
  xy (model P w) A (.call (.ref f) args) (CR CX outer P w H s Q E) s
theorem KA.make {K:bM} (e:KA P w K mg base A outer s H) (C:ao) (us:List aH) (kw:List (Str×aH)) :
 KA P w K mg base (A.under (.builtin "type.__call__" ⟨.ref C::us,kw⟩)) outer s H:=⟨by first | exact e.frames | (simpa [Va,Code.envs,Vb,pushEnvs] using e.frames),e.mod,e.bs,e.VR,e.z5,e.frf,e.hok,e.bare⟩
section
theorem Inv.aax {σ:St} (I:Inv X pins σ H s):KA X.prog X.w X.K X.mg X.base X.A X.stack s H:=
 ⟨I.ok.frames,I.ok.mod,I.bs,dI I.ok.VR I.sz,I.stack,I.Hx,I.hok,I.bare⟩
theorem Inv.after {σ:St} (I:Inv X pins σ H s) (h:CE X.stack X.prog X.w H s Q u s'):EP X pins σ Q u s':=by
 obtain ⟨v,H',os,bare,un,hok,r,q⟩:=h
 obtain ⟨hh,g,d,t,os'⟩:=s'
 obtain rfl:os'=s.os:=os
 exact ⟨v,H',I.call (h':=hh) (g':=g) (d':=d) (t':=t) (ch:=[]) un hok bare (fun b z=>absurd z 0#f),r,q⟩
end
def qN (sp:Sp) (C7:List V) (E:XK) (t:TA):TE:=fun σ H Q=>t σ H fun vs H1=>sp (vs++C7) H1 Q E
def JI (C:ao) (m:Str) (sp:Sp) (C7:List V) (E:XK) (ta:TE) (t:TA):TE:=fun σ H Q=>ta σ H fun x H1=>∃a dx fs,x=.ref a∧H1 a=some (.ins C dx fs)∧fs.lookup m=none ∧
 t σ H1 fun vs H2=>sp (x::(vs++C7)) H2 Q E
def Uc (C:ao) (sp:Sp) (C7:List V) (E:XK) (t:TA):TE:=fun σ H Q=>t σ H fun vs H1=>∀x dx,H1 x=none→H1 dx=none→dx≠x →
 sp (.ref x::(vs++C7)) (upd (upd H1 dx (.own x)) x (.ins C dx [])) (fun v H2=>v=.bC∧Q (.ref x) H2) E
def Binds (K:bM) (fd:iS) (ps:List Str) (ds:List aH):Prop:=
 ∀(s:aU) (us:List aH),K.In s.heap→(us++ds).length=ps.length→zV s fd ⟨us,[]⟩ (ps.zip (us++ds))
theorem Binds.all {K:bM} (h:∀us:List aH,us.length=ps.length→sU fd ⟨us,[]⟩=pure (ps.zip us)):Binds K fd ps []:=fun s us _ hl=>by
 rw [yS] at hl ⊢
 exact .of_eq (h us hl)
def Passes (CX:VG) (X:Cx) (E:XK):Prop:=∀(pins:List (ao×Obj)) (σ:St) (H:Hp) (s:aU) (e:aH) (s':aU),Inv X pins σ H s→CX X.stack H s E e s'→X.xe e s'
section
theorem Mt {σ:St} (F:bg X.prog X.w X.K X.mg X.base CX k f fd ps sp) (hr:gT k X.A) (hb:Binds X.K fd ps ds) (hd:Vals C7 ds) (hx:Passes CX X E)
 (I:Inv X pins σ H s) (r:Vals vs us) (h:sp (vs++C7) H Q E):bF 0#l X.A (call (.ref f) us) (EP X pins σ Q) X.xe s:=by
 have r2:Vals (vs++C7) (us++ds):=r.append hd
 have hl:(us++ds).length=ps.length:=by rw [← r2.length];exact F.len _ _ _ _ h
 refine Vn (J9 (F.run X.A X.stack s H ⟨us,[]⟩ (us++ds) (vs++C7) Q E hr I.aax (hb s us I.xX hl) r2 h) fun r s' hq=>?_)
 cases r with
 | error e=>exact hx pins σ H s e s' I hq
 | ok fl=>
   cases fl with
   | ret u=>exact I.after hq
   | next=>exact lW hq
   | brk=>exact lW hq
   | cont=>exact lW hq
theorem NW (F:bg X.prog X.w X.K X.mg X.base CX k f fd ps sp) (hr:gT k X.A) (hg:Gl X x) (hm:X.mg x=some (.ref f)) (hk:uq X.K (.ref f)=true) (hb:Binds X.K fd ps ds) (hd:Vals C7 ds) (hx:Passes CX X E)
 (ha:PA X (e::es) t) (hdb:0#w=false:=by decide) (he:aY (e::es) X.env=(false,eval e X.env)::aY es X.env:=by rfl) (hpl:(gC pos (aY es X.env)).any (·.1)=false:=by rfl) :
 PE X (.Call (.Name x p) (e::es) [] pos) (qN sp C7 E t):=by
 intro pins s σ H Q I h
 refine JY (AI I hg hm ?_ hdb)
 refine UJ (h₀:=X.base) I.ok.mod.kin hk (fF (ha pos pins s σ H _ I h) fun us s1 ⟨vs,H1,I1,r,q⟩=>⟨I1.xX,?_⟩) he hpl
 exact Mt F hr hb hd hx I1 r q
theorem W8 {X:Cx} {CX:VG} {k:Nat} {f C:ao} {fd:iS} {ps:List Str} {sp:Sp} {C7:List V} {ds:List aH} {E:XK} {m:Str} {pos apos:Pos} {e o:bf} {es:List bf} {ta:TE} {t:TA} {pl:Sem Bool} (he:PE X o ta) (c:Ku X.K C) (hm:Meth X.K C m f) (F:bg X.prog X.w X.K X.mg X.base CX k f fd ps sp) (hr:gT k X.A) (hb:Binds X.K fd ps ds) (hd:Vals C7 ds) (hx:Passes CX X E) (ha:PA X (e::es) t)
 (hst:aY (e::es) X.env=(false,eval e X.env)::aY es X.env:=by rfl) (hpl:(gC pos (aY es X.env)).any (·.1)=false:=by rfl)
 (ht:eval (.Call (.Attribute o m apos) (e::es) [] pos) X.env=(do
   let ov ← eval o X.env
   xx apos.atName
   let (f,first) ← holding [ov] (getMethod ov m pl)
   callWith pos f first (gC pos (aY (e::es) X.env)) (jJ pos (qG [] X.env))):=by rfl) :
 PE X (.Call (.Attribute o m apos) (e::es) [] pos) (JI C m sp C7 E ta t):=by
 intro pins s σ H Q I h
 refine YM (pl:=pl) (fF (he pins s σ H _ I h) fun u s1 ⟨x,H1,I1,rx,a,dx,fs,ex,ea,l,q⟩=>?_) ht
 subst ex
 obtain rfl:u=Value.ref a:=rx
 refine Bd I1 ea c hm l ?_
 refine UJ (first:=[.ref a]) (h₀:=X.base) I.ok.mod.kin hm.kp (fF (ha pos pins s1 σ H1 _ I1 q) fun us s2 ⟨vs,H2,I2,r,q2⟩=>⟨I2.xX,?_⟩) hst hpl
 exact Mt (us:=.ref a::us) (vs:=.ref a::vs) F hr hb hd hx I2 (.cons rfl r) q2
theorem S9 {X:Cx} {CX:VG} {k:Nat} {f C:ao} {fd:iS} {ps:List Str} {sp:Sp} {C7:List V} {ds:List aH} {E:XK} {m:Str} {pos apos:Pos} {o:bf} {ta:TE} {pl:Sem Bool} (he:PE X o ta) (c:Ku X.K C) (hm:Meth X.K C m f) (F:bg X.prog X.w X.K X.mg X.base CX k f fd ps sp) (hr:gT k X.A) (hb:Binds X.K fd ps ds) (hd:Vals C7 ds) (hx:Passes CX X E)
 (ht:eval (.Call (.Attribute o m apos) [] [] pos) X.env=(do
   let ov ← eval o X.env
   xx apos.atName
   let (f,first) ← holding [ov] (getMethod ov m pl)
   callWith pos f first (gC pos (aY [] X.env)) (jJ pos (qG [] X.env))):=by rfl) :
 PE X (.Call (.Attribute o m apos) [] [] pos) (JI C m sp C7 E ta nA):=by
 intro pins s σ H Q I h
 refine YM (pl:=pl) (fF (he pins s σ H _ I h) fun u s1 ⟨x,H1,I1,rx,a,dx,fs,ex,ea,l,q⟩=>?_) ht
 subst ex
 obtain rfl:u=Value.ref a:=rx
 refine Bd I1 ea c hm l ?_
 exact PySem.W.callWith_K0 (first:=[.ref a]) I1.xX hm.kp (Mt (us:=[.ref a]) (vs:=[.ref a]) F hr hb hd hx I1 (.cons rfl .nil) q)
structure Mk (K:bM) (C f:ao):Prop where
 makes:OS K C=true
 init:ki K (.ref C) "__init__"=some (some (.ref f))
 fn:zQ K (.ref f)=true
 kp:uq K (.ref C)=true
theorem Tw {σ:St} (M:Mk X.K C f) (F:bg X.prog X.w X.K X.mg X.base CX k f fd ps sp) (hr:gT (k+1) X.A) (hb:Binds X.K fd ps ds) (hd:Vals C7 ds)
 (hx:Passes CX X E) (I:Inv X pins σ H s) (r:Vals vs us)
 (h:∀x dx,H x=none→H dx=none→dx≠x→sp (.ref x::(vs++C7)) (upd (upd H dx (.own x)) x (.ins C dx [])) (fun v H2=>v=.bC∧Q (.ref x) H2) E) :
 bF 0#l X.A (call (.ref C) us) (EP X pins σ Q) X.xe s:=by
 have hq:=h (s.heap.objs.size+1) s.heap.objs.size (I.hok.fresh (sQ _)) (I.hok.fresh (dm _)) (jP (UW _))
 have I2:=Inv.made (C:=C) I
 have r2:Vals (V.ref (s.heap.objs.size+1)::(vs++C7)) (Value.ref (s.heap.objs.size+1)::(us++ds)):=.cons rfl (r.append hd)
 have hl:(Value.ref (s.heap.objs.size+1)::us++ds).length=ps.length:=by
  have e:=r2.length
  rw [F.len _ _ _ _ hq] at e
  exact e.symm
 refine Vn (Ss (f:=f) I.xX M.makes M.init (qP.mp M.fn) (J9 (F.run _ X.stack _ _ ⟨Value.ref (s.heap.objs.size+1)::us,[]⟩ (Value.ref (s.heap.objs.size+1)::(us++ds)) _ _ E (hr.make C us [])
  (I2.aax.make C us []) (hb _ (Value.ref (s.heap.objs.size+1)::us) I2.xX hl) r2 hq) fun r s' hq'=>?_))
 cases r with
 | error e=>exact hx pins σ _ _ e s' I2 hq'
 | ok fl=>
   cases fl with
   | ret u=>
     obtain ⟨v,H',I3,rv,ev,q3⟩:=I2.after hq'
     subst ev
     exact ⟨rv,⟨V.ref (s.heap.objs.size+1),H',I3,rfl,q3⟩⟩
   | next=>exact lW hq'
   | brk=>exact lW hq'
   | cont=>exact lW hq'
theorem W7 (M:Mk X.K C f) (F:bg X.prog X.w X.K X.mg X.base CX k f fd ps sp) (hr:gT (k+1) X.A) (hg:Gl X x) (hm:X.mg x=some (.ref C)) (hb:Binds X.K fd ps ds) (hd:Vals C7 ds) (hx:Passes CX X E)
 (ha:PA X (e::es) t) (hdb:0#w=false:=by decide) (he:aY (e::es) X.env=(false,eval e X.env)::aY es X.env:=by rfl) (hpl:(gC pos (aY es X.env)).any (·.1)=false:=by rfl) :
 PE X (.Call (.Name x p) (e::es) [] pos) (Uc C sp C7 E t):=by
 intro pins s σ H Q I h
 refine JY (AI I hg hm ?_ hdb)
 refine UJ (h₀:=X.base) I.ok.mod.kin M.kp (fF (ha pos pins s σ H _ I h) fun us s1 ⟨vs,H1,I1,r,q⟩=>⟨I1.xX,?_⟩) he hpl
 exact Tw M F hr hb hd hx I1 r q
end
def PK (X:Cx) (kws:List nF) (t:TA):Prop:=
 ∀(pos:Pos) (pins:List (ao×Obj)) (s:aU) (σ:St) (H:Hp) (Q:List V→Hp→Prop),Inv X pins σ H s→t σ H Q→bF 0#l X.A (evalAll ((jJ pos (qG kws X.env)).map (·.2))) (AP X pins σ Q) X.xe s
section
theorem abx:PK X [] nA:=fun _ _ _ _ H Q I h=>wpAny_evalAll_nil ⟨[],H,I,.nil,h⟩
theorem Xb (ha:PE X e te) (hr:PK X kws t):PK X (⟨nm,e,kpos⟩::kws) (dN te t):=by
 intro pos pins s σ H Q I h
 show bF _ _ (evalAll ((do let v ← eval e X.env;xx pos;pure v)::(jJ pos (qG kws X.env)).map (·.2))) _ _ s
 refine wpAny_evalAll_cons (cX (fF (ha pins s σ H _ I h) fun u s1 ⟨x,H1,I1,r1,q1⟩=>cX (CP (jx ?_))))
 exact fF (hr pos pins s1 σ H1 _ I1 q1) fun us s2 ⟨xs,H2,I2,r2,q2⟩=>⟨x::xs,H2,I2,.cons r1 r2,q2⟩
end
structure aE (N P:List Str) (sc:om):Prop where
 kind:sc.kind=.function
 co:sc.isCoroutine=false
 gen:sc.isGenerator=false
 nd:N.Nodup
 pre:N.take P.length=P
 par:∀x∈P,sc.names.lookup x=some .local∨sc.names.lookup x=some .cell
 abo:∀y∈sc.names,y.2≠.free
theorem DW {kindOf:Str→Option qQ}:∀{binds:List (Str×aH)} {m:Str→Option aH},(∀v,(x,v)∉binds)→zW kindOf binds m x=m x
 | [],_,_=>rfl
 | (n,v)::r,m,h=>by
   unfold zW
   rw [DW fun w hw=>h w (vE _ hw)]
   split
   ·have:x≠n:=by rintro rfl;exact h v xB
    simp [this]
   ·rfl
theorem DU {kindOf:Str→Option qQ}:∀{binds:List (Str×aH)} {m:Str→Option aH},(∀v,(x,v)∉binds)→zX kindOf binds m x=m x
 | [],_,_=>rfl
 | (n,v)::r,m,h=>by
   unfold zX
   rw [DU fun w hw=>h w (vE _ hw)]
   split
   ·rfl
   ·have:x≠n:=by rintro rfl;exact h v xB
    simp [this]
theorem DV {kindOf:Str→Option qQ}:∀{P:List Str} {vs:List aH} {i:Nat} {m:Str→Option aH},P.Nodup→P[i]?=some x→vs[i]?=some v→kindOf x=some .local →
 zW kindOf (P.zip vs) m x=some v
 | [],_,_,_,_,h,_,_=>by simp at h
 | _::_,[],_,_,_,_,h,_=>by simp at h
 | p::P,w::vs,0,m,nd,h1,h2,hk=>by
   simp at h1 h2;subst h1;subst h2
   show zW kindOf ((p,w)::P.zip vs) m p=_
   unfold zW
   rw [DW fun v hv=>(OT.mp nd).1 (U0 hv).1,if_pos hk]
   simp
 | p::P,w::vs,i+1,m,nd,h1,h2,hk=>by
   show zW kindOf ((p,w)::P.zip vs) m x=_
   unfold zW
   exact DV (i:=i) (OT.mp nd).2 (by simpa using h1) (by simpa using h2) hk
theorem DT {kindOf:Str→Option qQ}:∀{P:List Str} {vs:List aH} {i:Nat} {m:Str→Option aH},P.Nodup→P[i]?=some x→vs[i]?=some v→kindOf x≠some .local →
 zX kindOf (P.zip vs) m x=some v
 | [],_,_,_,_,h,_,_=>by simp at h
 | _::_,[],_,_,_,_,h,_=>by simp at h
 | p::P,w::vs,0,m,nd,h1,h2,hk=>by
   simp at h1 h2;subst h1;subst h2
   show zX kindOf ((p,w)::P.zip vs) m p=_
   unfold zX
   rw [DU fun v hv=>(OT.mp nd).1 (U0 hv).1,if_neg hk]
   simp
 | p::P,w::vs,i+1,m,nd,h1,h2,hk=>by
   show zX kindOf ((p,w)::P.zip vs) m x=_
   unfold zX
   exact DT (i:=i) (OT.mp nd).2 (by simpa using h1) (by simpa using h2) hk
def start (N:List Str) (vs:List V):St:=vs.map some++ko (N.length-vs.length) none
def KO (CX:VG) (P:gX) (w:di) (K:bM) (mg:Str→Option aH) (base:b8) (N:List Str) (qual:Str) (scope:om) (f:ao) (cd:aH) (A:nG) (outer:List Env) (s:aU) (H:Hp) (E:XK):Cx where
 prog:=P
 w:=w
 K:=K
 mg:=mg
 base:=base
 A:=A.deeper (uB qual scope s.heap.objs.size f cd)
 N:=N
 s₀:=s
 H₀:=H
 env:=uB qual scope s.heap.objs.size f cd
 outer:=outer
 stack:=uB qual scope s.heap.objs.size f cd::outer
 ex:=[]
 calm:=true
 fn:=fun _=>true
 pn:=[]
 xe:=fun e s'=>bF (model P w) (A.deeper (uB qual scope s.heap.objs.size f cd)) (leaving (uB qual scope s.heap.objs.size f cd) e) (fun _ s''=>CX outer H s E e s'') (fun e' s''=>CX outer H s E e' s'') s'
theorem HW {sc:om} (h:sc.names.lookup x=some .cell):∃c,(CZ n sc.names []).lookup x=some c:=by
 have q:=YD sc.names n [] (.inl h)
 exact JR.mp q
theorem P0 {K:bM}
 (S:aE N ps scope) (hd:A.handled=none) (e0:KA P w K mg base A outer s H) (hl:vs.length=ps.length) (r:Vals vs us)
 (x:InCallC s s.heap.objs.size (zW (uB qual scope s.heap.objs.size f cd).kindOf (ps.zip us) fun _=>none) (CZ (s.heap.objs.size+1) scope.names []) (zX (uB qual scope s.heap.objs.size f cd).kindOf (ps.zip us) fun _=>none) s1) :
 Inv (KO CX P w K mg base N qual scope f cd A outer s H E) [] (start N vs) H s1:=by
 have hpl:ps.length≤N.length:=by have:=congrArg nE S.pre;rw [C4] at this;simp?
 obtain ⟨h1,tk,rfl,hk⟩:=x.done
 have noA:∀b:ao,b∉(KO CX P w K mg base N qual scope f cd A outer s H E).ex:=fun b z=>absurd (show b∈([]:List ao) from z) 0#f
 refine ⟨⟨e0.mod,S.kind,rfl,rfl,dm _,fun y z c h1 h2=>?_,fun y hy=>?_,fun y c _ h=>?_,fun _=>hd,Around.frames_deeper e0.frames,.inr ⟨rfl,rfl⟩,fun b z=>absurd z (noA b),e0.bs,e0.VR,fun b _ _=>noA b,fun b z=>absurd z (noA b),e0.z5,e0.frf⟩,
  rfl,e0.bare,Un.kept hk,⟨_,x.toInCall.ns,fun i y v h1 h2 h3=>?_⟩,fun y c h=>⟨_,x.cell y c h⟩,e0.hok.fresh (dm _),fun y c h=>?_,fun p hp=>absurd (show p∈([]:List (ao×Obj)) from hp) 0#f,e0.hok.kept hk,?_⟩
 ·exact name_of_addr x.apart (JX h1) (JX h2)
 ·have hy:scope.names.lookup y=some .cell∨scope.names.lookup y=some .free:=hy
  rcases hy with hy | hy
  ·exact HW hy
  ·exact absurd rfl (S.abo _ (JX hy))
 ·exact ur (x.above y c (JX h))
 ·have hi:i<vs.length:=by
   unfold start at h2
   by_cases hi:i<vs.length
   ·exact hi
   ·rw [pR (by simpa using hi)] at h2
    rw [Ur] at h2
    split at h2 <;> cases h2
  have ha:vs[i]?=some v:=by
   unfold start at h2
   rw [kZ (by simpa using hi),jQ] at h2
   cases e:vs[i]? with
   | none=>rw [e] at h2;cases h2
   | some a=>rw [e] at h2;cases h2;rfl
  obtain ⟨u,hu,rv⟩:=r.get ha
  have hp:ps[i]?=some y:=by
   rw [← S.pre,List.getElem?_take_of_lt 0#c];exact h1
  have ndP:ps.Nodup:=by rw [← S.pre];exact S.nd.sublist (J0 _ _)
  refine ⟨u,rv,?_⟩
  rcases S.par y (jL hp) with k | k
  ·exact .inl ⟨k,DV ndP hp hu k⟩
  ·obtain ⟨c,e⟩:=HW (n:=s.heap.objs.size+1) k
   refine .inr ⟨.inl k,c,e,?_⟩
   have q:=x.cell y c e
   rw [DT ndP hp hu (by show scope.names.lookup y≠_;rw [k];decide)] at q
   exact q
 ·exact e0.hok.fresh (ur (x.above y c (JX h)))
 ·unfold start
  show _=N.length
  rw [cJ,eV,C3]
  simp?
theorem X3 {CX:VG} {P:gX} {w:di} {K:bM} {mg:Str→Option aH} {base:b8} {k:Nat} {f:ao} {name qual:Str} {body:List aQ} {scope:om} {dV kV doc pm cdv ct oc:aH} {an od:Option ao}
 {osl:Array (Option aH)} {N ps:List Str} {sp:Sp} (lk:K.lookup f=some ⟨oc,od,.func (oV name qual params body scope dV kV doc pm an cdv ct),osl⟩) (hcd:xo K cdv qual=true) (S:aE N ps scope)
 (len:∀vs H Q E,sp vs H Q E→vs.length=ps.length)
 (hbody:∀(A:nG) (outer:List Env) (s:aU) (H:Hp) (vs:List V) (Q:VK) (E:XK),gT k (A.deeper (uB qual scope s.heap.objs.size f cdv))→sp vs H Q E →
   ∃t,Km (KO CX P w K mg base N qual scope f cdv A outer s H E) body t∧t { nx:=fun _ H'=>Q .bC H',rt:=Q } (start N vs) H) :
 bg P w K mg base CX (k+1) f (oV name qual params body scope dV kV doc pm an cdv ct) ps sp:=by
 refine ⟨len,fun A outer s H args us vs Q E hr e0 hb r yZ=>?_⟩
 have hl:=len _ _ _ _ yZ
 have KX:K.In s.heap:=e0.mod.kin.keeps fun b o e=>(e0.bs b o e).1
 have lim:s.heap.NoLimit:=e0.mod.nolimit.keeps fun b o e=>(e0.bs b o e).1
 have hkind:∀y∈ps.zip us,scope.names.lookup y.1=some .local∨(scope.names.lookup y.1=some .cell∧((CZ (s.heap.objs.size+1) scope.names []).lookup y.1).isSome=true):=fun ⟨n,v⟩ hy=>by
  rcases S.par n (U0 hy).1 with q | q
  ·exact .inl q
  ·exact .inr ⟨q,YD _ _ _ (.inl q)⟩
 refine codeAny_call_function hr.depth (KX _ _ lk) rfl S.co S.gen rfl (PySem.W.codeRec_of KX hcd) (hb _ _ _ _ ?_)
 refine wpAny_newFunctionEnv_cells S.kind hkind fun env he s1 x=>?_
 subst he
 refine ⟨lim.keeps x.toInCall.keep,codeAny_func ?_⟩
 obtain ⟨t,ht,hq⟩:=hbody A outer s H vs Q E (hr.deeper _) yZ
 have I:Inv (KO CX P w K mg base N qual scope f cdv A outer s H E) [] (start N vs) H s1:=P0 S hr.hd e0 hl r x
 refine pT (ht [] s1 (start N vs) H _ I hq) (fun fl s' hs=>?_) fun e s' hs=>hs
 have fin:∀{σ':St} {H':Hp} {v:V} {u:aH},Inv (KO CX P w K mg base N qual scope f cdv A outer s H E) [] σ' H' s'→RelV v u→Q v H'→CE outer P w H s Q u s':=
  fun {σ' H' v u} J rv q=>⟨v,H',J.os,J.bare,J.base,J.hok,rv,q⟩
 cases fl with
 | ret u=>
   obtain ⟨v,σ',H',J,rv,q⟩:=hs
   exact fin J rv q
 | next=>
   obtain ⟨σ',H',J,q⟩:=hs
   exact fin (v:=V.bC) (u:=Value.none) J rfl q
 | brk=>
   obtain ⟨_,_,_,q⟩:=hs
   exact lW q
 | cont=>
   obtain ⟨_,_,_,q⟩:=hs
   exact lW q
section
def tCB (r:List V→Hp→VK→Prop) (t:TA):TE:=fun σ H Q=>t σ H fun vs H1=>r vs H1 Q
theorem wg {X:Cx} {x:Str} {p pos:Pos} {e:bf} {es:List bf} {t:TA} {id:String} {r:List V→Hp→VK→Prop} (hc:iO X (.builtin id) r) (hg:Gl X x) (hm:X.mg x=none) (hv:uz x=some (.builtin id)) (ha:PA X (e::es) t) (hn:x ≠ "__name__":=by decide) (hdb:0#w=false:=by decide)
 (he:aY (e::es) X.env=(false,eval e X.env)::aY es X.env:=by rfl) (hpl:(gC pos (aY es X.env)).any (·.1)=false:=by rfl):PE X (.Call (.Name x p) (e::es) [] pos) (tCB r t):=by
 intro pins s σ H Q I h
 refine JY (uW I hg hm hv ?_ hn hdb)
 exact aef (fF (ha pos pins s σ H _ I h) fun us s1 ⟨vs,H1,I1,r1,q1⟩=>hc pins s1 σ H1 vs us Q I1 r1 q1) he hpl
theorem yp {X:Cx} {x:Str} {p pos:Pos} {e:bf} {es:List bf} {t:TA} {T:String} {r:List V→Hp→VK→Prop} (hc:iO X (.type T) r) (hg:Gl X x) (hm:X.mg x=none) (hv:uz x=some (.type T)) (ha:PA X (e::es) t) (hn:x ≠ "__name__":=by decide) (hdb:0#w=false:=by decide)
 (he:aY (e::es) X.env=(false,eval e X.env)::aY es X.env:=by rfl) (hpl:(gC pos (aY es X.env)).any (·.1)=false:=by rfl):PE X (.Call (.Name x p) (e::es) [] pos) (tCB r t):=by
 intro pins s σ H Q I h
 refine JY (uW I hg hm hv ?_ hn hdb)
 exact JP (fF (ha pos pins s σ H _ I h) fun us s1 ⟨vs,H1,I1,r1,q1⟩=>hc pins s1 σ H1 vs us Q I1 r1 q1) he hpl
end
end L2
namespace HT
open PySem PyProof.Rows
section
theorem VT (ht:IsTup s.heap t vs.toArray) (hb:IsTup s.heap b ws.toArray) (hv:vs≠[])
 (h1:ws=[]→Q (.ref t) s) (h2:ws≠[]→Q (.ref s.heap.objs.size) { s with heap:=s.heap.push { cls:=.type "tuple",data:=.seq (vs++ws).toArray } })
 (hsz:vs.length+ws.length≤sizeLine):bF (model prog w) A (oh .Add (.ref t) (.ref b)) Q E s:=by
 obtain ⟨⟨cls,dd,data,sl⟩,ho,hc,n,hd⟩:=id ht
 obtain ⟨⟨age,dd2,data2,sl2⟩,ho2,hc2,n2,hd2⟩:=id hb
 simp only at hc hd hc2 hd2
 subst hc hd hc2 hd2
 have e:vs.toArray++ws.toArray=(vs++ws).toArray:=by simp
 by_cases hw:ws=[]
 ·exact concat_meets ⟨_,ho,rfl⟩ ⟨_,ho2,rfl⟩ Zj ZH YE Yy (Yt _ _)
   (tuple_addW1 t b vs.toArray ws.toArray n n2 dd dd2 sl sl2 (by simpa using hv) (by simp [hw])) ⟨ho,ho2,h1 hw⟩
 ·refine concat_meets ⟨_,ho,rfl⟩ ⟨_,ho2,rfl⟩ Zj ZH YE Yy (Yt _ _)
   (tuple_addW2 t b vs.toArray ws.toArray n n2 dd dd2 sl sl2 (by simpa using hv) (by simpa using hw) (by rw [jK,jK];exact hsz)) ⟨ho,ho2,?_⟩
  rw [e]
  exact h2 hw
def GL (n d:Nat):Option Int→Nat
 | none=>d
 | some v=>if v<0 then (v+(n:Int)).toNat else min v.toNat n
theorem Ob (n d k:Nat):GL n d (some (k:Int))=min k n:=by
 show (if (k:Int)<0 then ((k:Int)+(n:Int)).toNat else min (k:Int).toNat n)=min k n
 rw [if_neg 0#c,UR]
end
end HT
namespace L2
open PySem PySem.Spec PyProof.Rows
abbrev TO:=St→Hp→(Option Int→Hp→Prop)→Prop
def PO (X:Cx) (e:Option bf) (t:TO):Prop:=
 ∀(pins:List (ao×Obj)) (s:aU) (σ:St) (H:Hp) (Q:Option Int→Hp→Prop),Inv X pins σ H s→t σ H Q →
  bF 0#l X.A (evalPart e X.env) (fun u s'=>∃o H',Inv X pins σ H' s'∧IsPart u o∧Q o H') X.xe s
def Hz:TO:=fun _ H Q=>Q none H
def Uh (t:TE):TO:=fun σ H Q=>t σ H fun x H1=>∃i,x=.int i∧Q (some i) H1
theorem intsAre_of:∀{us:List aH},Vals (ns.map V.int) us→C0 us ns:=by
 induction ns with
 | nil=>intro us r;rw [Vc] at r;cases r;exact .nil
 | cons n ns ih=>
   intro us r
   rw [qU] at r
   cases r with
   | cons r1 r2=>
     obtain ⟨t,e⟩:=r1
     subst e
     exact .cons n t (ih r2)
section
theorem Gu {X:Cx}:PO X none Hz:=by
 intro pins s σ H Q I h
 rw [ZI]
 exact jx ⟨none,H,I,.none,h⟩
theorem Gv {X:Cx} {e:bf} {te:TE} (h:PE X e te):PO X (some e) (Uh te):=by
 intro pins s σ H Q I hw
 rw [evalPart_some]
 refine fF (h pins s σ H _ I hw) fun u s1 ⟨x,H1,I1,r1,q1⟩=>?_
 obtain ⟨i,rfl,q⟩:=q1
 obtain ⟨t,rfl⟩:=r1
 exact ⟨some i,H1,I1,.int i t,q⟩
def SlR (X:Cx) (r:V→Option Int→Option Int→Hp→VK→Prop):Prop:=
 ∀(pins:List (ao×Obj)) (s:aU) (σ:St) (H:Hp) (x:V) (v vl vu:aH) (lo hi:Option Int) (sl:ao) (Q:VK),Inv X pins σ H s→RelV x v→s.heap.IsSliceOf sl vl vu .none→IsPart vl lo→IsPart vu hi→r x lo hi H Q →
  ∃T id,typeLookup (.type T) "__getitem__"=pure (some (.builtin id))∧s.TypeIs v T∧bF 0#l X.A (getItem v (.ref sl)) (EP X pins σ Q) X.xe s
def tSl (r:V→Option Int→Option Int→Hp→VK→Prop) (te:TE) (tl th:TO):TE:=fun σ H Q=>te σ H fun x H1=>tl σ H1 fun l H2=>th σ H2 fun u H3=>r x l u H3 Q
theorem BP {X:Cx} {e:bf} {te:TE} {lo hi:Option bf} {tl th:TO} {pos p2:Pos} {r:V→Option Int→Option Int→Hp→VK→Prop} (hr:SlR X r) (he:PE X e te) (hl:PO X lo tl) (hu:PO X hi th):PE X (.Subscript e (.Slice lo hi none p2) pos) (tSl r te tl th):=by
 intro pins s σ H Q I h
 refine Vo (fF (he pins s σ H _ I h) fun v s1 ⟨x,H1,I1,r1,q1⟩=>?_)
 refine wpAny_Slice (fF (hl pins s1 σ H1 _ I1 q1) fun vl s2 ⟨l,H2,I2,pl,q2⟩=>fF (hu pins s2 σ H2 _ I2 q2) fun vu s3 ⟨u,H3,I3,pu,q3⟩=>?_)
 rw [ZI]
 refine jx ?_
 have I4:Inv X pins σ H3 { s3 with heap:=s3.heap.push { cls:=.type "slice",data:=.fields #[vl,vu,.none] } }:=I3.kept (t':=s3.toks) fun b ob q=>jN _ q
 obtain ⟨T,id,hT,ht,hg⟩:=hr pins { s3 with heap:=s3.heap.push { cls:=.type "slice",data:=.fields #[vl,vu,.none] } } σ H3 x v vl vu l u s3.heap.objs.size Q I4 r1 (aeV ..) pl pu q3
 show bF 0#l X.A (subscriptTail e (.Slice lo hi none p2) v (.ref s3.heap.objs.size)) (EP X pins σ Q) X.xe { s3 with heap:=s3.heap.push { cls:=.type "slice",data:=.fields #[vl,vu,.none] } }
 exact tail_any (ops:=[.ref s3.heap.objs.size,v]) ht hT hg (by with_unfolding_all rfl)
def oE (xs:List V) (lo hi:Option Int):List V:=(xs.drop (HT.GL xs.length 0 lo)).take (HT.GL xs.length xs.length hi-HT.GL xs.length 0 lo)
theorem Ic (xs:List V) (lo hi:Option Int):(oE xs lo hi).length≤xs.length:=by
 unfold oE
 rw [C4,jO]
 simp?
def Ti (K:bM):R2:=fun x y H Q=>∃a b xs ys,x=.ref a∧y=.ref b∧nI K H a xs∧nI K H b ys∧xs≠[]∧xs.length+ys.length≤sizeLine ∧
 (ys=[]→Q (.ref a) H)∧(ys≠[]→∀p,H p=none→Q (.ref p) (upd H p (.tup (xs++ys))))
theorem Vals.F4 (r:Vals xs us):us=[]↔xs=[]:=by
 cases r with
 | nil=>simp
 | cons _ _=>simp
theorem W3:oW X (oh .Add) (Ti X.K):=by
 intro pins s σ H x y v u Q I rx ry h
 obtain ⟨a,b,xs,ys,rfl,rfl,ha,hb,hx,hz,q1,q2⟩:=h
 cases rx
 cases ry
 obtain ⟨its,r1,p1,_⟩:=I.tuple ha
 obtain ⟨its2,r2,p2,_⟩:=I.tuple hb
 refine HT.VT p1 p2 (fun z=>hx (r1.F4.mp z)) (fun z=>⟨.ref a,H,I,rfl,q1 (r2.F4.mp z)⟩) (fun z=>?_) (by rw [← r1.length,← r2.length];exact hz)
 refine ⟨.ref s.heap.objs.size,_,I.laid (t':=s.toks) (o:=.tup (xs++ys)) (fun b ob q=>jN _ q) (dm _) ?_,rfl,q2 (fun w=>z (r2.F4.mpr w)) _ (I.hok.fresh (dm _))⟩
 exact ⟨by rw [cJ];exact hz,_,r1.append r2,Vs _ _⟩
end
def QY (n:Nat) (i:Int):Option Nat:=if 0≤i then (if i<n then some i.toNat else none) else if -(n:Int)≤i then some (i+n).toNat else none
def xE {α:Type} (xs:List α) (i:Int):Option α:=(QY xs.length i).bind fun j=>xs[j]?
theorem NH (h:QY n i=some j):seqIndex? i n=some j∧j<n∧-(n:Int)≤i∧i<n:=by
 unfold QY at h
 by_cases h0:0≤i
 ·rw [if_pos h0] at h
  by_cases h1:i<n
  ·rw [if_pos h1] at h
   have e:i.toNat=j:=lQ h
   exact ⟨by rw [Vj h0 h1,e],by simp?,by simp?,h1⟩
  ·rw [if_neg h1] at h;cases h
 ·rw [if_neg h0] at h
  by_cases h1:-(n:Int)≤i
  ·rw [if_pos h1] at h
   have e:(i+n).toNat=j:=lQ h
   exact ⟨by rw [Vd 0#c h1,e],by simp?,h1,by simp?⟩
  ·rw [if_neg h1] at h;cases h
theorem Nh (h:xE xs i=some v):∃j,seqIndex? i xs.length=some j∧xs[j]?=some v∧j<xs.length∧-(xs.length:Int)≤i∧i<xs.length:=by
 unfold xE at h
 cases e:QY xs.length i with
 | none=>rw [e] at h;cases h
 | some j=>
   rw [e] at h
   obtain ⟨h1,h2,h3,h4⟩:=NH e
   exact ⟨j,h1,h,h2,h3,h4⟩
theorem fh {j:Nat} (h:xs[j]?=some v):xE xs (j:Int)=some v:=by
 have hj:j<xs.length:=(fZ.mp h).1
 have e:QY xs.length (j:Int)=some j:=by
  unfold QY
  rw [if_pos 0#c,if_pos 0#c];simp
 unfold xE;rw [e];exact h
def Nd (b:bf):Prop:=∀o i,subscripted b false o i=operate [o,i] (getItem o i)
def IxR (X:Cx) (r:R2):Prop:=
 ∀(value slice:bf) (pins:List (ao×Obj)) (s:aU) (σ:St) (H:Hp) (x y:V) (v u:aH) (Q:VK),Inv X pins σ H s→RelV x v→RelV y u→r x y H Q →
  subscripted slice false v u=operate [v,u] (getItem v u)→bF 0#l X.A (subscriptTail value slice v u) (EP X pins σ Q) X.xe s
def MtR (X:Cx) (id:String) (r:V→List V→Hp→VK→Prop):Prop:=
 ∀(pins:List (ao×Obj)) (s:aU) (σ:St) (H:Hp) (x:V) (xs:List V) (v:aH) (us:List aH) (Q:VK),Inv X pins σ H s→RelV x v→Vals xs us→r x xs H Q →
  bF 0#l X.A (call (.builtin id) (v::us)) (EP X pins σ Q) X.xe s
section
variable {X:Cx} {a b:bf} {ta tb:TE} {pos:Pos}
theorem Jo {r:R2} (hr:IxR X r) (ha:PE X a ta) (hb:PE X b tb) (hs:Nd b):PE X (.Subscript a b pos) (HA r ta tb):=by
 intro pins s σ H Q I h
 exact Vo (aao ha hb I h fun v u s2 x y H2 I2 rx ry q=>hr a b pins s2 σ H2 x y v u Q I2 rx ry q (hs _ _))
def Jr (K:bM):R2:=fun x y H Q=>∃p xs i v,x=.ref p∧y=.int i∧aW K H p xs∧xE xs i=some v∧Q v H
def BV (K:bM):R2:=fun x y H Q=>∃p xs i v,x=.ref p∧y=.int i∧nI K H p xs∧xE xs i=some v∧Q v H
theorem Wz:IxR X (Jr X.K):=by
 intro value slice pins s σ H x y v u Q I rx ry h hs
 obtain ⟨p,xs,i,z,rfl,rfl,hq,he,q⟩:=h
 cases rx
 obtain ⟨t,rfl⟩:=ry
 obtain ⟨its,r,pl,hz⟩:=I.list hq
 obtain ⟨j,h1,h2,h3,h4,h5⟩:=Nh he
 obtain ⟨w,ew,rw'⟩:=r.get h2
 have hl:=r.length
 have hn:=Bv
 have fin:EP X pins σ Q w s:=⟨z,H,I,rw',q⟩
 by_cases h0:0≤i
 ·have hj:i.toNat=j:=by
   rw [Vj h0 h5] at h1
   exact lQ h1
  exact item_listR pl.isList h0 0#c (by rw [hj];simpa using ew) fin hs
 ·have hj:(i+(its.toArray.size:Int)).toNat=j:=by
   rw [Vd 0#c h4] at h1
   rw [jK,← hl]
   exact lQ h1
  exact YF (x:=w) pl.isList.typeIs Zb.lookup
   (wpAny_getItem_list_neg (Q:=fun r s'=>r=w∧EP X pins σ Q r s') pl.isList 0#c (by rw [jK] <;> simp?) 0#c (by rw [hj];simpa using ew) ⟨rfl,fin⟩) hs
theorem aa3:IxR X (BV X.K):=by
 intro value slice pins s σ H x y v u Q I rx ry h hs
 obtain ⟨p,xs,i,z,rfl,rfl,hq,he,q⟩:=h
 cases rx
 obtain ⟨t,rfl⟩:=ry
 obtain ⟨its,r,pl,hz⟩:=I.tuple hq
 obtain ⟨j,h1,h2,h3,h4,h5⟩:=Nh he
 obtain ⟨w,ew,rw'⟩:=r.get h2
 have hl:=r.length
 have hn:=Bv
 have fin:EP X pins σ Q w s:=⟨z,H,I,rw',q⟩
 exact YF (x:=w) pl.typeIs slot_tuple_getitem.lookup
  (getItem_tuple (j:=j) (Q:=fun r s'=>r=w∧EP X pins σ Q r s') pl 0#c 0#c (by rw [jK,← hl];exact h1) (by simpa using ew) ⟨rfl,fin⟩) hs
theorem LA (its:List aH) (n j:Nat) (u:aH):Kc (·.setIfInBounds j u) { cls:=.type "list",data:=.seq its.toArray n }={ cls:=.type "list",data:=.seq (its.set j u).toArray n }:=by
 simp [Kc]
theorem Inv.lst {pins:List (ao×Obj)} {σ:St} {H:Hp} {s:aU} {p:ao} {xs:List V} (I:Inv X pins σ H s) (h:H p=some (.lst xs)) :
 ∃(its:List aH) (n:Nat),Vals xs its∧s.heap.get? p=some { cls:=.type "list",data:=.seq its.toArray n }∧xs.length≤sizeLine:=by
 obtain ⟨z,its,n,r,e⟩:=I.hok p _ h
 exact ⟨its,n,r,e,z⟩
theorem Inv.abg {σ:St} {its:List aH} (I:Inv X pins σ H s) (h:H p=some (.lst xs))
 (ho:s.heap.get? p=some { cls:=.type "list",data:=.seq its.toArray n }) (hf:f { cls:=.type "list",data:=.seq its.toArray n }={ cls:=.type "list",data:=.seq its'.toArray n' }) (r:Vals ys its') (hz:ys.length≤sizeLine) (t:Nat) :
 Inv X pins σ (upd H p (.lst ys)) { s with heap:=s.heap.update p f,toks:=t }:=by
 have e:(s.heap.update p f).get? p=some { cls:=.type "list",data:=.seq its'.toArray n' }:=by
  rw [Heap.get?_update_self f ho (by rw [hf] <;> rfl),hf]
 refine I.write (x:=p) (e:=p) (by rw [h];trivial) (.inl rfl) (fun b u hb q=>(YG _ _ (eG hb)).trans q) ⟨_,e⟩ ?_
 exact ⟨hz,its',n',r,e⟩
def Yj:V→V→V→Hp→(Hp→Prop)→Prop:=fun o i v H Q=>∃p xs k j,o=.ref p∧i=.int k∧H p=some (.lst xs)∧QY xs.length k=some j∧Q (upd H p (.lst (xs.set j v)))
theorem set_list:aah X Yj:=by
 intro pins s σ H o i v ov iv u Q I ro ri rv h
 obtain ⟨p,xs,k,j,rfl,rfl,hp,hj,q⟩:=h
 cases ro
 obtain ⟨t,rfl⟩:=ri
 obtain ⟨its,n,r,ho,hz⟩:=I.lst hp
 obtain ⟨h1,h2,h3,h4⟩:=NH hj
 have hl:=r.length
 have hn:=Bv
 have I':Inv X pins σ (upd H p (.lst (xs.set j v))) { s with heap:=s.heap.update p (Kc (·.setIfInBounds j u)) }:=
  I.abg hp ho (LA its n j u) (r.set rv j) (by rw [List.length_set];exact hz) s.toks
 by_cases h0:0≤k
 ·have hk:k.toNat=j:=by
   rw [Vj h0 h4] at h1
   exact lQ h1
  exact PySem.W.ki_setAt ho h0 0#c (by rw [jK,← hl];exact h4) (by rw [hk];exact ⟨_,I',q⟩)
 ·have hk:(k+(its.toArray.size:Int)).toNat=j:=by
   rw [Vd 0#c h3] at h1
   rw [jK,← hl]
   exact lQ h1
  exact PySem.W.ki_setBack ho 0#c (by rw [jK,← hl];exact h3) 0#c (by rw [hk];exact ⟨_,I',q⟩)
theorem G4 (lo hi:Option Int) (n:Nat):(CW lo hi none n).1=((HT.GL n 0 lo:Nat):Int)∧(CW lo hi none n).2.1=((HT.GL n n hi:Nat):Int)∧(CW lo hi none n).2.2=1:=by
 refine ⟨?_,?_,rfl⟩
 ·cases lo with
  | none=>simp [CW,HT.GL]
  | some i=>
    simp only [CW,HT.GL,Zk,show (1:Int)>0 by decide,if_true]
    by_cases h:i<0
    ·simp only [h,if_true] <;> simp?
    ·simp only [h,if_false] <;> simp?
 ·cases hi with
  | none=>simp [CW,HT.GL]
  | some i=>
    simp only [CW,HT.GL,Zk,show (1:Int)>0 by decide,if_true]
    by_cases h:i<0
    ·simp only [h,if_true] <;> simp?
    ·simp only [h,if_false] <;> simp?
theorem DN (its:List aH) (lo hi:Option Int):slicePick its.toArray lo hi none=((its.drop (HT.GL its.length 0 lo)).take (HT.GL its.length its.length hi-HT.GL its.length 0 lo)).toArray:=by
 obtain ⟨h1,h2,h3⟩:=G4 lo hi its.toArray.size
 unfold slicePick
 rw [h1,h2,h3]
 simp only [sliceRange_one,pick_run,jK] <;> rfl
def abC (K:bM):V→Option Int→Option Int→Hp→VK→Prop:=fun x lo hi H Q=>∃a xs,x=.ref a∧aW K H a xs∧∀p,H p=none→Q (.ref p) (upd H p (.lst (oE xs lo hi)))
theorem Xu:SlR X (abC X.K):=by
 intro pins s σ H x v vl vu lo hi sl Q I rx hs pl pu h
 obtain ⟨a,xs,rfl,hx,q⟩:=h
 cases rx
 obtain ⟨its,r,ht,hz⟩:=I.list hx
 have hlen:=r.length
 refine ⟨"list",_,Zb.lookup,ht.isList.typeIs,?_⟩
 refine wpAny_getItem_list_slice ht.isList hs pl pu .none 0#f ?_ (by rw [jK] <;> simp?)
 rw [DN,← hlen]
 refine ⟨.ref s.heap.objs.size,_,I.laid (t':=s.toks) (o:=.lst (oE xs lo hi)) (fun b ob q=>jN _ q) (dm _) ?_,rfl,q _ (I.hok.fresh (dm _))⟩
 exact ⟨dI (Ic xs lo hi) hz,_,0,(r.drop (HT.GL xs.length 0 lo)).take (HT.GL xs.length xs.length hi-HT.GL xs.length 0 lo),Aw _ rfl⟩
def yY:V→Bool
 | .bC=>true
 | .bl _=>true
 | .int _=>true
 | .str _=>true
 | _=>false
def V6:V→V→Bool
 | .bC,.bC=>true
 | .bl a,.bl b=>a==b
 | .bl a,.int b=>(if a then 1 else 0)==b
 | .int a,.bl b=>a==(if b then 1 else 0)
 | .int a,.int b=>a==b
 | .str a,.str b=>a==b
 | _,_=>false
theorem aaz (ry:RelV y u) (rx:RelV x v) (fy:yY y=true) (fx:yY x=true):aaa A s u v (V6 y x):=by
 cases y with
 | bC=>
   cases ry
   cases x with
   | bC=>cases rx;exact ae1 _
   | bl b=>cases rx;exact aeH b
   | int b=>obtain ⟨t,rfl⟩:=rx;exact aeL b t
   | str b=>obtain ⟨t,rfl⟩:=rx;exact aeM b t
   | _=>exact absurd (show false=true from fx) eO
 | bl a=>
   cases ry
   cases x with
   | bC=>cases rx;exact aeI a
   | bl b=>cases rx;exact aeJ a b
   | int b=>obtain ⟨t,rfl⟩:=rx;exact aeN a b t
   | str b=>obtain ⟨t,rfl⟩:=rx;exact aeO a b t
   | _=>exact absurd (show false=true from fx) eO
 | int a=>
   obtain ⟨t',rfl⟩:=ry
   cases x with
   | bC=>cases rx;exact aeP a t'
   | bl b=>cases rx;exact aeQ a t' b
   | int b=>obtain ⟨t,rfl⟩:=rx;exact aeW a t' b t
   | str b=>obtain ⟨t,rfl⟩:=rx;exact YZ a t' b t
   | _=>exact absurd (show false=true from fx) eO
 | str a=>
   obtain ⟨t',rfl⟩:=ry
   cases x with
   | bC=>cases rx;exact aeR a t'
   | bl b=>cases rx;exact aeS a t' b
   | int b=>obtain ⟨t,rfl⟩:=rx;exact Y0 a t' b t
   | str b=>obtain ⟨t,rfl⟩:=rx;exact aeX a t' b t
   | _=>exact absurd (show false=true from fx) eO
 | _=>exact absurd (show false=true from fy) eO
def KS (x:V) (u:aH):Bool:=match u with
 | .none=>V6 .bC x
 | .bool b=>V6 (.bl b) x
 | .int i _=>V6 (.int i) x
 | .str z _=>V6 (.str z) x
 | _=>false
theorem RC (r:RelV y u) (f:yY y=true):KS x u=V6 y x:=by
 cases y with
 | bC=>cases r;rfl
 | bl b=>cases r;rfl
 | int i=>obtain ⟨t,rfl⟩:=r;rfl
 | str z=>obtain ⟨t,rfl⟩:=r;rfl
 | _=>exact absurd (show false=true from f) eO
theorem vL:∀{xs:List V} {us:List aH},Vals xs us→xs.all yY=true→us.any (KS x)=xs.any fun y=>V6 y x
 | _,_,.nil,_=>rfl
 | y::xs,u::us,.cons r t,f=>by
   rw [OZ,vF] at f
   rw [EU,EU,RC r f.1,vL t f.2]
theorem rK (rx:RelV x v) (fx:yY x=true):∀{xs:List V} {us:List aH},Vals xs us→xs.all yY=true→∀u∈us,aaa A s u v (KS x u)
 | _,_,.nil,_=>fun u hu=>by cases hu
 | y::xs,u::us,.cons r t,f=>fun u' hu=>by
   rw [OZ,vF] at f
   rcases lg.mp hu with rfl | hu
   ·rw [RC r f.1];exact aaz r rx f.1 fx
   ·exact rK rx fx t f.2 u' hu
def inV (x:V) (xs:List V):Bool:=xs.any fun y=>V6 y x
def rIn (K:bM) (neg:Bool):R2:=fun x y H Q=>∃p xs,y=.ref p∧(aW K H p xs∨nI K H p xs)∧yY x=true∧xs.all yY=true∧Q (.bl (if neg then !inV x xs else inV x xs)) H
theorem Qn:oW X (kr .In) (rIn X.K false):=by
 intro pins s σ H x y v u Q I rx ry h
 obtain ⟨p,xs,rfl,hq,fx,fs,q⟩:=h
 cases ry
 rcases hq with hq | hq
 ·obtain ⟨its,r,pl,hz⟩:=I.list hq
  refine SeqAt.in_listAt (KS x) pl.isList (fun w hw=>rK rx fx r fs w (by simpa using hw)) ⟨.bl _,H,I,rfl,?_⟩
  rw [show its.toArray.any (KS x)=its.any (KS x) by simp,vL r fs]
  exact q
 ·obtain ⟨its,r,pl,hz⟩:=I.tuple hq
  refine SeqAt.in_tupleAt (KS x) pl (fun w hw=>rK rx fx r fs w (by simpa using hw)) ⟨.bl _,H,I,rfl,?_⟩
  rw [show its.toArray.any (KS x)=its.any (KS x) by simp,vL r fs]
  exact q
theorem Gm:oW X (kr .NotIn) (rIn X.K true):=by
 intro pins s σ H x y v u Q I rx ry h
 obtain ⟨p,xs,rfl,hq,fx,fs,q⟩:=h
 cases ry
 rcases hq with hq | hq
 ·obtain ⟨its,r,pl,hz⟩:=I.list hq
  refine SeqAt.notIn_listAt (KS x) pl.isList (fun w hw=>rK rx fx r fs w (by simpa using hw)) ⟨.bl _,H,I,rfl,?_⟩
  rw [show its.toArray.any (KS x)=its.any (KS x) by simp,vL r fs]
  exact q
 ·obtain ⟨its,r,pl,hz⟩:=I.tuple hq
  refine SeqAt.notIn_tupleAt (KS x) pl (fun w hw=>rK rx fx r fs w (by simpa using hw)) ⟨.bl _,H,I,rfl,?_⟩
  rw [show its.toArray.any (KS x)=its.any (KS x) by simp,vL r fs]
  exact q
theorem Fe:iO X (.builtin "len") (fun xs H Q=>∃p ys,xs=[.ref p]∧(aW X.K H p ys∨nI X.K H p ys)∧Q (.int ys.length) H):=by
 intro pins s σ H xs us Q I r h
 obtain ⟨p,ys,rfl,hq,q⟩:=h
 obtain ⟨u,rfl,rx⟩:=vals1 r
 cases rx
 have hn:=Bv
 rcases hq with hq | hq
 ·obtain ⟨its,r',pl,hz⟩:=I.list hq
  have hlen:=r'.length
  exact Calls.call_len_list pl.isList (by simp only [jK] <;> simp?) ⟨.int ys.length,H,I.tok _,⟨s.toks+1,by rw [jK,hlen]⟩,q⟩
 ·obtain ⟨its,r',pl,hz⟩:=I.tuple hq
  have hlen:=r'.length
  exact len_tuple pl (by simp only [jK] <;> simp?) ⟨.int ys.length,H,I.tok _,⟨s.toks+1,by rw [jK,hlen]⟩,q⟩
theorem Ff:iO X (.builtin "len") (fun xs H Q=>∃z,xs=[.str z]∧z.length≤sizeLine∧Q (.int z.length) H):=by
 intro pins s σ H xs us Q I r h
 obtain ⟨z,rfl,hz,q⟩:=h
 obtain ⟨u,rfl,t,rfl⟩:=vals1 r
 have hn:=Bv
 exact len_str 0#c ⟨.int z.length,H,I.tok _,⟨_,rfl⟩,q⟩
theorem qe:iO X (.type "list") (fun xs H Q=>∃p ys,xs=[.ref p]∧(aW X.K H p ys∨nI X.K H p ys)∧∀l,H l=none→Q (.ref l) (upd H l (.lst ys))):=by
 intro pins s σ H xs us Q I r h
 obtain ⟨p,ys,rfl,hq,q⟩:=h
 obtain ⟨u,rfl,rx⟩:=vals1 r
 cases rx
 have fin:∀(its:List aH),Vals ys its→ys.length≤sizeLine→∀(h':b8) (c':Nat),(∀b o',s.heap.get? b=some o'→h'.get? b=some o') →
  h'.get? s.heap.objs.size=some { cls:=.type "list",dict:=none,data:=.seq its.toArray c',slots:=#[] }→EP X pins σ Q (.ref s.heap.objs.size) { s with heap:=h' }:=fun its r' hz h' c' kp e=>
  ⟨.ref s.heap.objs.size,_,I.laid (t':=s.toks) kp (dm _) (show dJ X.prog X.w _ h' _ (.lst ys) from ⟨hz,its,c',r',e⟩),rfl,q _ (I.hok.fresh (dm _))⟩
 rcases hq with hq | hq
 ·obtain ⟨its,r',pl,hz⟩:=I.list hq
  have hlen:=r'.length
  obtain ⟨o,ho,hc,n,hd⟩:=pl.isList
  exact ZJ p (.inl rfl) ho hc hd (fun h' c' kp e=>fin its r' hz h' c' kp e) (by simp only [jK] <;> simp?)
 ·obtain ⟨its,r',pl,hz⟩:=I.tuple hq
  have hlen:=r'.length
  obtain ⟨o,ho,hc,n,hd⟩:=pl
  exact ZJ p (.inr rfl) ho hc hd (fun h' c' kp e=>fin its r' hz h' c' kp e) (by simp only [jK] <;> simp?)
theorem kB:iO X (.type "tuple") (fun xs H Q=>∃p ys,xs=[.ref p]∧((aW X.K H p ys∧∀l,H l=none→Q (.ref l) (upd H l (.tup ys)))∨(nI X.K H p ys∧Q (.ref p) H))):=by
 intro pins s σ H xs us Q I r h
 obtain ⟨p,ys,rfl,h⟩:=h
 obtain ⟨u,rfl,rx⟩:=vals1 r
 cases rx
 rcases h with ⟨hq,q⟩ | ⟨hq,q⟩
 ·obtain ⟨its,r',pl,hz⟩:=I.list hq
  have hlen:=r'.length
  refine call_tuple_list pl.isList (fun h' kp=>?_) (by simp only [jK] <;> simp?)
  have I1:Inv X pins σ H { s with heap:=h' }:=I.kept (t':=s.toks) kp
  have I2:Inv X pins σ (upd H h'.objs.size (.tup ys)) { s with heap:=h'.push { cls:=.type "tuple",data:=.seq its.toArray } }:=
   I1.laid (t':=s.toks) (fun b o e=>jN _ e) (dm _) (show dJ X.prog X.w _ _ _ (.tup ys) from ⟨hz,its,r',Vs _ _⟩)
  exact ⟨.ref h'.objs.size,_,I2,rfl,q _ (I1.hok.fresh (dm _))⟩
 ·obtain ⟨its,r',pl,hz⟩:=I.tuple hq
  exact call_tuple_same pl ⟨.ref p,H,I,rfl,q⟩
def tyV (K:bM) (T:String) (x:V) (H:Hp):Prop:=match x with
 | .str _=>T = "str"
 | .int _=>T = "int"
 | .ref p=>(T = "list"∧∃xs,aW K H p xs)∨(T = "tuple"∧∃o,K.lookup p=some o∧o.cls=.type "tuple"∧o.dict=none) ∨
  (T = "dict"∧((∃kvs,H p=some (.dK kvs))∨∃kvs,H p=some (.dT kvs)))∨(T = "set"∧∃S n,H p=some (.set S n))
 | _=>False
theorem Uk {σ:St} (I:Inv X pins σ H s) (r:RelV x v) (ty:tyV X.K T x H) :
 s.TypeIs v T∧∀a,v=.ref a→∃ob,s.heap.get? a=some ob∧ob.dict=none:=by
 cases x with
 | str z=>
   obtain ⟨t,rfl⟩:=r
   cases (show T = "str" from ty)
   exact ⟨typeIs_str s z t,fun _ e=>nomatch e⟩
 | int i=>
   obtain ⟨t,rfl⟩:=r
   cases (show T = "int" from ty)
   exact ⟨Vp s i t,fun _ e=>nomatch e⟩
 | ref p=>
   cases r
   rcases ty with ⟨rfl,xs,hq⟩ | ⟨rfl,o,hk,hc,hd⟩ | ⟨rfl,hk⟩ | ⟨rfl,S,n,hk⟩
   ·obtain ⟨its,_,pl,_⟩:=I.list hq
    refine ⟨pl.isList.typeIs,fun a e=>?_⟩
    cases e
    obtain ⟨o,n,e,c,hd,_⟩:=pl
    exact ⟨o,e,hd⟩
   ·refine ⟨⟨o,I.xX p o hk,hc⟩,fun a e=>?_⟩
    cases e
    exact ⟨o,I.xX _ o hk,hd⟩
   ·have z:∃o,s.heap.get? p=some o∧o.ExactDict:=by
     rcases hk with ⟨kvs,hk⟩ | ⟨kvs,hk⟩
     ·obtain ⟨_,_,_,_,o,_,_,e,ex,_⟩:=I.hok p _ hk
      exact ⟨o,e,ex⟩
     ·obtain ⟨_,_,_,_,o,_,_,e,ex,_⟩:=I.hok p _ hk
      exact ⟨o,e,ex⟩
    obtain ⟨o,e,ex⟩:=z
    refine ⟨⟨o,e,ex.1⟩,fun a e2=>?_⟩
    cases e2
    exact ⟨o,e,ex.2.1⟩
   ·obtain ⟨o,_,_,_,e,ex,_⟩:=I.hok p _ hk
    refine ⟨⟨o,e,ex.1⟩,fun a e2=>?_⟩
    cases e2
    exact ⟨o,e,ex.2.1⟩
 | _=>exact lW ty
def aga (K:bM) (T:String) (r:V→List V→Hp→VK→Prop) (to:TE):TE:=fun σ H Q=>to σ H fun x H1=>tyV K T x H1∧r x [] H1 Q
def XA (K:bM) (T:String) (r:V→List V→Hp→VK→Prop) (to:TE) (t:TA):TE:=fun σ H Q=>to σ H fun x H1=>tyV K T x H1∧t σ H1 fun xs H2=>r x xs H2 Q
variable {o e:bf} {es:List bf} {to:TE} {t:TA} {name:Str} {apos cpos:Pos} {T id:String} {r:V→List V→Hp→VK→Prop}
theorem abr (pa:PlainAttrs T) (slot:Slot T name id) (hty:typeOf (.builtin id)=pure (.type "method_descriptor")) (hm:MtR X id r) (ho:PE X o to)
 (hbase:pP o name X.env (eval o X.env)=eval o X.env:=by rfl) (hline:(apos.endLine==cpos.line)=true:=by rfl):PE X (.Call (.Attribute o name apos) [] [] cpos) (aga X.K T r to):=by
 intro pins s σ H Q I h
 refine wpAny_Call_method0_late hbase hline (fF (ho pins s σ H _ I h) fun v s1 ⟨x,H1,I1,r1,ty,q1⟩=>?_)
 obtain ⟨h1,h2⟩:=Uk I1 r1 ty
 exact ⟨T,id,pa,slot,hty,h1,h2,YH rfl (PySem.evalArgs_none (hm pins s1 σ H1 x [] v [] Q I1 r1 .nil q1))⟩
theorem S5 (pa:PlainAttrs T) (slot:Slot T name id) (hty:typeOf (.builtin id)=pure (.type "method_descriptor")) (hm:MtR X id r) (ho:PE X o to) (ha:PA X (e::es) t)
 (hbase:pP o name X.env (eval o X.env)=eval o X.env:=by rfl)
 (hfew:((gC cpos (aY (e::es) X.env)).all (fun x=>!x.1)&&(jJ cpos (qG [] X.env)).all (fun x=>x.1.isSome)
   && decide ((e::es).length+([]:List nF).length+(if ([]:List nF).isEmpty then 0 else 1)<30))=true:=by rfl)
 (hline:(apos.endLine==cpos.line)=true:=by rfl) (hs:aY (e::es) X.env=(false,eval e X.env)::aY es X.env:=by rfl) (hplain:(gC cpos (aY es X.env)).any (·.1)=false:=by rfl) :
 PE X (.Call (.Attribute o name apos) (e::es) [] cpos) (XA X.K T r to t):=by
 intro pins s σ H Q I h
 refine wpAny_Call_method_late hbase hfew hline rfl (fF (ho pins s σ H _ I h) fun v s1 ⟨x,H1,I1,r1,ty,q1⟩=>?_)
 obtain ⟨h1,h2⟩:=Uk I1 r1 ty
 refine ⟨T,id,pa,slot,hty,h1,h2,?_⟩
 have hA:=ha cpos pins s1 σ H1 _ I1 q1
 rw [hs] at hA ⊢
 refine YH (by show (false||(gC cpos (aY es X.env)).any (·.1))=false;rw [hplain] <;> rfl) (Calls.evalArgs_plain ?_)
 exact fF hA fun us s2 ⟨vs,H2,I2,r2,q2⟩=>hm pins s2 σ H2 x vs v us Q I2 r1 r2 q2
/- xs.append(e),list.index on a module's tuple .. are MtR facts of 06m -/
end
def MtM (X:Cx) (id:String) (r:V→List V→Hp→VK→Prop):Prop:=
 ∀(pins:List (ao×Obj)) (s:aU) (σ:St) (H:Hp) (x:V) (xs:List V) (v:aH) (us:List aH) (Q:VK),Inv X pins σ H s→RelV x v→Vals xs us→r x xs H Q →
  bF 0#l X.A (call (.builtin id) (v::us)) (EP X pins σ Q) X.xe s
theorem Vals.one:∀{x:V} {us:List aH},Vals [x] us→∃u,us=[u]∧RelV x u
 | _,_,.cons r .nil=>⟨_,rfl,r⟩
theorem Vals.rep (h:Vals xs us):∀k:Nat,Vals (ko k xs).flatten (ko k us).flatten
 | 0=>.nil
 | k+1=>by
   rw [HE,HE,qE,qE]
   exact Vals.append h (Vals.rep h k)
theorem foldl_rep (its:List aH):∀(k:Nat) (acc:List aH),
 Vq (fun x1 x2=>x1++x2) acc.toArray (ko k its.toArray)=(acc++(ko k its).flatten).toArray
 | 0,acc=>by simp
 | k+1,acc=>by
   have e:acc.toArray++its.toArray=(acc++its).toArray:=by simp
   have e2:(acc++its)++(ko k its).flatten=acc++(ko (k+1) its).flatten:=by
    rw [HE,qE,List.append_assoc]
   rw [← e2,← foldl_rep its k (acc++its),← e,HE,List.foldl_cons]
section
theorem Inv.ac7 {σ:St} {its:List aH} (I:Inv X pins σ H s) (hH:H l=some (.lst xs))
 (e:s.heap.get? l=some { cls:=.type "list",data:=.seq its.toArray n }) (hf:f its.toArray=its'.toArray) (hv:Vals ys its') (hz:ys.length≤sizeLine) :
 Inv X pins σ (upd H l (.lst ys)) { s with heap:=s.heap.update l (Kc f),toks:=t' }:=by
 have q:=PySem.IsL.update e f
 rw [hf] at q
 refine I.write (x:=l) (e:=l) (by rw [hH];exact trivial) (.inl rfl) (fun b' u hb hu=>(YG s.heap (Kc f) (eG hb)).trans hu) ⟨_,q⟩ ?_
 exact ⟨hz,its',_,hv,q⟩
theorem Inv.WH {σ:St} (I:Inv X pins σ H s) (hv:Vals ys its) (hz:ys.length≤sizeLine) :
 Inv X pins σ (upd H s.heap.objs.size (.lst ys)) { s with heap:=s.heap.push { cls:=.type "list",data:=.seq its.toArray },toks:=t' }:=
 I.laid (fun _ _ q=>jN _ q) (dm _) ⟨hz,its,0,hv,Aw _ rfl⟩
theorem Inv.fresh {σ:St} (I:Inv X pins σ H s):H s.heap.objs.size=none:=I.hok.fresh (dm _)
theorem Inv.Lx {σ:St} (I:Inv X pins σ H s) (hH:H l=some (.lst xs)):xs.length≤sizeLine∧∃(its:List aH) (n:Nat),Vals xs its∧xs.length=its.length∧s.heap.get? l=some { cls:=.type "list",data:=.seq its.toArray n }:=by
 obtain ⟨z,its,n,r,e⟩:=I.hok l _ hH
 exact ⟨z,its,n,r,r.length,e⟩
theorem IZ (h:n≤sizeLine):Ox n=false:=by
 unfold Ox
 exact gJ 0#c
def wz:V→List V→Hp→VK→Prop:=fun x vs H Q=>∃l xs y,x=.ref l∧vs=[y]∧H l=some (.lst xs)∧xs.length<sizeLine∧Q .bC (upd H l (.lst (xs++[y])))
theorem ya:MtM X "list.append" wz:=by
 intro pins s σ H x vs v us Q I rx rv h
 obtain ⟨l,xs,y,rfl,rfl,hH,hz,q⟩:=h
 cases rx
 obtain ⟨u,rfl,ru⟩:=rv.one
 obtain ⟨z,its,n,r,hl,e⟩:=I.Lx hH
 refine Kd F.slot_list_append ⟨_,e,rfl⟩ F.entry_list_append (F.args_list_append_2 _ _) (PySem.list_append l its.toArray n u (by rw [jK];simp?)) ⟨e,?_⟩
 refine ⟨.bC,_,I.ac7 (its':=its++[u]) hH e 0#f (r.append (.cons ru .nil)) ?_,rfl,q⟩
 rw [cJ,Uw]
 simp?
def AQ:V→List V→Hp→VK→Prop:=fun x vs H Q=>∃l b xs zs,x=.ref l∧vs=[.ref b]∧H l=some (.lst xs)∧H b=some (.lst zs)∧xs.length+zs.length≤sizeLine∧Q .bC (upd H l (.lst (xs++zs)))
theorem Qd:MtM X "list.extend" AQ:=by
 intro pins s σ H x vs v us Q I rx rv h
 obtain ⟨l,b,xs,zs,rfl,rfl,hH,hB,hz,q⟩:=h
 cases rx
 obtain ⟨u,rfl,ru⟩:=rv.one
 cases ru
 obtain ⟨z,its,n,r,hl,e⟩:=I.Lx hH
 obtain ⟨z2,its2,n2,r2,hl2,e2⟩:=I.Lx hB
 have hsz:its.toArray.size+its2.toArray.size≤sizeLine:=by rw [jK,jK];simp?
 have R8:¬(!its.toArray.isEmpty&&Ox (its.toArray.size+its2.toArray.size))=true:=by
  rw [IZ hsz,Bool.and_false]
  exact eO
 refine Kd F.slot_list_extend ⟨_,e,rfl⟩ F.entry_list_extend (F.args_list_extend_2 _ _)
  (AutoSeq1.list_extend_list_list_0 l its.toArray n b its2.toArray n2 R8 (by rw [jK];simp?) 0#c) ⟨e,e2,?_⟩
 refine ⟨.bC,_,I.ac7 (its':=its++its2) hH e 0#f (r.append r2) ?_,rfl,q⟩
 rw [cJ]
 simp?
def adu:R2:=fun x y H Q=>∃l b xs zs,x=.ref l∧y=.ref b∧H l=some (.lst xs)∧H b=some (.lst zs)∧xs.length+zs.length≤sizeLine∧∀p,H p=none→Q (.ref p) (upd H p (.lst (xs++zs)))
theorem iG:oW X (oh .Add) adu:=by
 intro pins s σ H x y v u Q I rx ry h
 obtain ⟨l,b,xs,zs,rfl,rfl,hH,hB,hz,q⟩:=h
 cases rx
 cases ry
 obtain ⟨z,its,n,r,hl,e⟩:=I.Lx hH
 obtain ⟨z2,its2,n2,r2,hl2,e2⟩:=I.Lx hB
 refine PySem.P.add_list e e2 ?_ (by rw [jK,jK];simp?)
 have ea:its.toArray++its2.toArray=(its++its2).toArray:=by simp
 rw [ea]
 exact ⟨.ref _,_,I.WH (t':=s.toks) (r.append r2) (by rw [cJ];simp?),rfl,q _ I.fresh⟩
def adA:R2:=fun x y H Q=>∃l k xs,x=.ref l∧y=.int k∧H l=some (.lst xs)∧-(2 ^ 63)≤k∧k<2 ^ 63∧xs.length*k.toNat≤sizeLine ∧
 ∀p,H p=none→Q (.ref p) (upd H p (.lst (ko k.toNat xs).flatten))
theorem len_rep {α:Type} (xs:List α) (k:Nat):(ko k xs).flatten.length=k*xs.length:=by
 induction k with
 | zero=>simp
 | succ k ih=>rw [HE,qE,cJ,ih,Nat.succ_mul,CS]
theorem S2:oW X (oh .Mult) adA:=by
 intro pins s σ H x y v u Q I rx ry h
 obtain ⟨l,k,xs,rfl,rfl,hH,h1,h2,hz,q⟩:=h
 cases rx
 obtain ⟨t,rfl⟩:=ry
 obtain ⟨z,its,n,r,hl,e⟩:=I.Lx hH
 have hlen:its.toArray.size*k.toNat≤sizeLine:=by rw [jK,← hl];exact hz
 have hcap:¬its.toArray.size*k.toNat>(2 ^ 63-1)/8:=by
  have:(sizeLine:Nat)≤(2 ^ 63-1)/8:=by decide
  simp?
 have hfit:¬(!Builtin.List.listFitsIndex k)=true:=by
  rw [fitsIndex_both h1 h2]
  exact eO
 have R8:¬Ox (its.toArray.size*k.toNat)=true:=by
  rw [IZ hlen]
  exact eO
 have hnew:Vq (fun x1 x2=>x1++x2) #[] (ko (if its.toArray.isEmpty=true then 0 else k.toNat) its.toArray)=(ko k.toNat its).flatten.toArray:=by
  have f0:∀m:Nat,Vq (fun x1 x2=>x1++x2) #[] (ko m its.toArray)=(ko m its).flatten.toArray:=fun m=>by
   have:=foldl_rep its m []
   rw [Zr] at this
   exact this
  rw [f0]
  cases its with
  | nil=>simp
  | cons a r'=>rw [if_neg 0#f]
 refine wpAny_binaryOp_repeat_ref (T := "list") (U := "int") 0#h ⟨_,e,rfl⟩ (fun s'=>Vp s' k t) noFill_list_mul F.fills_int_mul F.slot_int_rmul repeat_list F.slot_int_index.lookup
  (Kd F.slot_int_rmul (Vp s k t) F.entry_int_rmul (F.args_int_rmul_2 _ _) (int___rmul___int_list k t l its.toArray n)
    ⟨e,rfl,⟨_,e,rfl⟩,Kd F.slot_list_mul ⟨_,e,rfl⟩ F.entry_list_mul (F.args_list_mul_2 _ _) (AutoListH.list___mul___list_int_3 l its.toArray n k t hfit hcap R8) ⟨e,?_⟩⟩)
 rw [hnew]
 exact ⟨.ref _,_,I.WH (t':=s.toks) (r.rep k.toNat) (by rw [len_rep,ZT];exact hz),rfl,q _ I.fresh⟩
end
end L2
namespace Att
open PySem PySem.W PySem.Calls PyProof.Rows
theorem Ad:∀(ns:List Int) (vs:List aH),WellAll P h vs (ns.map WData.int)→C0 vs ns:=by
 intro ns
 induction ns with
 | nil=>
   intro vs w
   rw [Vc] at w
   cases w
   exact .nil
 | cons n ns ih=>
   intro vs w
   rw [qU] at w
   cases w with
   | cons a b=>
     cases a
     exact .cons _ _ (ih _ b)
theorem Qx {l:OpenLaw} (hn:l.most=some n) 
 (hpre:l.row.toRowW.claim.pre args=true) (hwl:WellAll P h vals args) :
 ∃a vs ns,vals=[Value.ref a]∧args=[WData.list (ns.map WData.int)]∧h.get? a=some { cls:=.type "list",data:=.seq vs.toArray }∧C0 vs ns∧ns.length≤n:=by
 have hsh:WShape.hasAll [] args [.list .int]=true:=(pre_splitW hpre).1
 have hc:l.pre.holds [] { args:=args }=true:=(pre_splitW hpre).2
 obtain ⟨d,r,rfl,h1,h2⟩:=hasAllW_cons hsh
 obtain rfl:=hasAllW_nil h2
 obtain ⟨xs,rfl,h3⟩:=hasW_list h1
 obtain ⟨ns,rfl⟩:=items_int h3
 have hlen:ns.length≤n:=by
  unfold OpenLaw.pre at hc
  have h4:(WTm.not (.lt (.lit (.int (n:Int))) (.len (.arg 0)))).holds [] { args:=[.list (ns.map .int)] }=true:=by
   have h4:=(holds_andW hc).1
   rw [hn] at h4
   exact h4
  have h5:=condW_of h4 (w_not (w_lt w_lit (w_len_list (w_arg rfl))))
  rw [eV] at h5
  refine Nat.le_of_not_lt fun q=>?_
  have q':(n:Int)<((ns.length:Nat):Int):=by simp?
  first
   | (rw [dz q'] at h5;exact absurd h5 (by decide))
   | (simp at h5;omega)
 cases hwl with
 | cons w1 w2=>
   cases w2
   cases w1 with
   | list ho hall=>exact ⟨_,_,ns,rfl,rfl,ho,Ad ns _ hall,hlen⟩
theorem Qp (l:OpenLaw) (args:List WData):l.row.toRowW.claim.post args (.bool true) args=true:=
 postW_of (r:=l.row.toRowW) (X:=(true==true))
  (show aab [] (.bool true) .bool=true by first | rfl | decide | simp [aab,WShape.arms,WShape.armsAll])
  (show (WTm.eq .res (.lit (.bool true))).value [] { args:=args,res:=some (.bool true),after:=args }=some (.bool (true==true)) from w_eq_bool (w_res rfl) w_lit) rfl
theorem HR {l:OpenLaw}
 (hn:l.most=some n) (hdf:d.params.defaults=[])
 (call:∀(w:di) (s₀ s₁:aU) (mg mb:Str→Option aH) (fa:ao) (o:Obj) (pm cd doc:aH) (a:ao) (vs:List aH) (ns:List Int),
   Ground q loose [] XP w s₀ mg mb s₁.heap→YP w s₁.heap →
   s₁.heap.get? fa=some o→o.data=.func (docDef d.name d.params d.body d.scope pm cd doc)→s₁.heap.CodeRec cd d.name→mg d.name=some (.ref fa) →
   s₁.heap.get? a=some { cls:=.type "list",data:=.seq vs.toArray }→C0 vs ns→ns.length≤n→s₁.gens=#[] →
   xy (model l.prog w) C1 (.call (.ref fa) ⟨[.ref a],[]⟩) (fun r s'=>r=.ok (.ret (.bool true))∧OldK s₁.heap s'.heap∧s'.os=s₁.os∧xw s'.gens) s₁) :
 WalkO q loose XP YP l.row.toRowW d [] (fun f vs=>Vr f vs):=by
 intro w s₀ s₁ mg mb G Y fa o pm cd doc dV kV ho hd hcd hD hmg hg args vals as hpre hlay hrd hwl hlo
 obtain rfl:dV=.none:=Dflts.none hD hdf
 obtain rfl:kV=.none:=Dflts.noKw hD
 obtain ⟨a,vs,ns,rfl,rfl,hobj,hints,hlen⟩:=Qx hn hpre hwl
 refine enter_call (J9 (call w s₀ s₁ mg mb fa o pm cd doc a vs ns G Y ho (fd_plain hd) hcd hmg hobj hints hlen hg) fun r s' hq=>?_)
 obtain ⟨rfl,h2,h3,h4⟩:=hq
 exact ⟨.inl ⟨.bool true,.bool true,[],rfl,fun _=>rfl,.bool true,Qp l _,fun _=>⟨List.Pairwise.nil,fun _ hm=>(nomatch hm)⟩⟩,h2,h3,h4⟩
end Att
namespace L2
open PySem PySem.Spec PyProof.Rows
theorem pO:∀{vs:List aH} {ns:List Int},C0 vs ns→Vals (ns.map V.int) vs
 | _,_,.nil=>.nil
 | _,_,.cons n t h=>.cons ⟨t,rfl⟩ (pO h)
def aag (H:Hp):Prop:=∀b,H b=none∨∃o xs,H b=some (.Nz o (.lst xs))
theorem Sj {K:bM}
 (KX:K.In s₁.heap) (hns:s₁.heap.Ns fE mg) (hb:s₁.heap.Ns builtinsNs mb) (hbb:∀x:Str,x ≠ "__name__"→mb x=uz x) (hlim:s₁.heap.NoLimit) (hg:s₁.gens=#[])
 (ha:s₁.heap.get? a=some { cls:=.type "list",data:=.seq vs.toArray }) (hi:C0 vs ns) (hl:ns.length≤sizeLine) (hr:gT k C1)
 (F:∀base:b8,K.In base→base.Ns fE mg→bg P w K mg base CX k fa fd [x] sp) (hbind:∀(s:aU) (u:aH),zV s fd ⟨[u],[]⟩ [(x,u)])
 (yZ:∀H:Hp,aag H→aW K H a (ns.map V.int)→sp [.ref a] H (fun v _=>v=.bl true) fun _ _ _=>False)
 (hCX:∀H e s',CX [] H s₁ (fun _ _ _=>False) e s'→False) :
 xy (model P w) C1 (.call (.ref fa) ⟨[.ref a],[]⟩) (fun r s'=>r=.ok (.ret (.bool true))∧OldK s₁.heap s'.heap∧s'.os=s₁.os∧xw s'.gens) s₁:=by
 have rv:=pO hi
 have afG:=hi.length
  -- from an abstract heap in which nothing but the script may be tracked
 have core:∀H:Hp,aag H→aW K H a (ns.map V.int)→tF P w H s₁.heap→(∀b,H b≠none→b=a)→(H a≠none→K.lookup a=none) →
  xy (model P w) C1 (.call (.ref fa) ⟨[.ref a],[]⟩) (fun r s'=>r=.ok (.ret (.bool true))∧OldK s₁.heap s'.heap∧s'.os=s₁.os∧xw s'.gens) s₁:=by
  intro H hO hS hok hA hK
  have Ni:∀{b:ao} {o:Obj},s₁.heap.get? b=some o→H b=none→(FJ s₁.heap H).get? b=some o:=fun e n=>RX e n
  have noA:∀{b:ao} {o:Obj} {es:Array DictEntry} {ep:Nat},s₁.heap.get? b=some o→o.data=.dict es ep→H b=none:=fun {b o es ep} e d=>by
   cases q:H b with
   | none=>rfl
   | some u=>
     have e':b=a:=hA b (by rw [q];simp)
     subst e'
     rw [ha] at e;cases e
     have d':Data.seq vs.toArray _=Data.dict es ep:=d
     cases d'
  have nsK:∀{b:ao} {m:Str→Option aH},s₁.heap.Ns b m→(FJ s₁.heap H).Ns b m:=fun {b m} ⟨o,es,ep,e,d,r⟩=>⟨o,es,ep,Ni e (noA e d),d,r⟩
  have hKb:K.In (FJ s₁.heap H):=fun b o e=>Ni (KX b o e) (by
   cases q:H b with
   | none=>rfl
   | some u=>
     have e':b=a:=hA b (by rw [q];simp)
     subst e'
     rw [hK (by rw [q];simp)] at e;cases e)
  have hM:Mod K mg (FJ s₁.heap H):=⟨hKb,nsK hns,⟨mb,nsK hb,hbb⟩,let ⟨mc,h1,h2⟩:=hlim;⟨mc,nsK h1,h2⟩⟩
  have e0:KA P w K mg (FJ s₁.heap H) C1 [] s₁ H:=⟨rfl,hM,fun b o e=>WS e,U9 (PU _ _),trivial,fun b hb=>absurd (show b∈([]:List ao) from hb) 0#f,hok,.of_eq hg⟩
  refine J9 ((F _ hKb (nsK hns)).run C1 [] s₁ H ⟨[.ref a],[]⟩ [.ref a] [.ref a] _ _ hr e0 (hbind s₁ (.ref a)) (.cons rfl .nil) (yZ H hO hS)) fun r s' h=>?_
  cases r with
  | error e=>exact (hCX H e s' h).elim
  | ok fl=>
    cases fl with
    | next=>exact lW h
    | brk=>exact lW h
    | cont=>exact lW h
    | ret u=>
      obtain ⟨v,H',os,bare,un,afu,r',q⟩:=h
      have q':v=.bl true:=q
      subst q'
      obtain rfl:u=Value.bool true:=r'
      refine ⟨rfl,OldK.of_keep fun b o e=>?_,os,bare⟩
      cases q:H b with
      | none=>exact un.keep b o e q (by intro z;exact absurd (show b∈([]:List ao) from z) 0#f) 0#f
      | some u=>
        rcases hO b with z | ⟨ob,xs,z⟩
        ·rw [q] at z;cases z
        ·have z2:=un.Fw b ob _ z
         obtain ⟨e1,_⟩:=hok b _ z
         obtain ⟨e2,_⟩:=afu b _ z2
         rw [e] at e1;cases e1
         exact e2
 cases hk:K.lookup a with
 | some o=>
    -- the script is one of the module's own objects
   have e:=KX a o hk
   rw [ha] at e
   cases e
   refine core (fun _=>none) (fun _=>.inl rfl) (.inr ⟨_,vs.toArray,_,hk,rfl,rfl,rfl,by rw [jK,afG];exact hl,by simpa using rv⟩) (fun b u z=>by have z':(none:Option HO)=some u:=z;cases z') (fun b z=>absurd rfl z) fun z=>absurd rfl z
 | none=>
   refine core (fun b=>if b=a then some (.Nz { cls:=.type "list",data:=.seq vs.toArray } (.lst (ns.map V.int))) else none) (fun b=>?_) (.inl (.inr ⟨{ cls:=.type "list",data:=.seq vs.toArray },if_pos rfl⟩)) (fun b u z=>?_) (fun b z=>?_) fun _=>hk
   ·by_cases hb:b=a
    ·exact .inr ⟨_,_,if_pos hb⟩
    ·exact .inl (if_neg hb)
   ·by_cases hb:b=a
    ·have z':=(if_pos hb).symm.trans z
     cases z'
     subst hb
     exact ⟨ha,by rw [eV];exact hl,vs,_,rv,ha⟩
    ·have z':=(if_neg hb).symm.trans z
     cases z'
   ·by_cases hb:b=a
    ·exact hb
    ·exact absurd (if_neg hb) z
theorem XE {l:U1} {n k:Nat} {q:gX} {XP:(Str→Option aH)→b8→Prop} {YP:di→b8→Prop} {d:DefRec} {K:Params→bM} {CX:di→VG} {sp:di→Sp} {x:Str}
 (hn:l.most=some n) (hn2:n≤sizeLine) (hdf:d.params.defaults=[]) (hr:gT k C1)
 (hY:∀(w:di) (h:b8),YP w h→(K w.params).In h)
 (F:∀(w:di) (mg:Str→Option aH) (fa:ao) (h:b8),(K w.params).In h→h.Ns fE mg→mg d.name=some (.ref fa) →
   ∃fd:iS,(∀(s:aU) (u:aH),zV s fd ⟨[u],[]⟩ [(x,u)]) ∧
    ∀base:b8,(K w.params).In base→base.Ns fE mg→bg l.prog w (K w.params) mg base (CX w) k fa fd [x] (sp w))
 (yZ:∀(w:di) (H:Hp) (a:ao) (ns:List Int),ns.length≤n→aag H→aW (K w.params) H a (ns.map V.int)→sp w [.ref a] H (fun v _=>v=.bl true) fun _ _ _=>False)
 (hCX:∀(w:di) (H:Hp) (s:aU) (e:aH) (s':aU),CX w [] H s (fun _ _ _=>False) e s'→False) :
 ZK q loose XP YP l.row.toRowW d [] (fun f vs=>Vr f vs):=by
 refine Att.HR hn hdf fun w s₀ s₁ mg mb fa o pm cd doc a vs ns G Y ho hd hcd hmg hobj hints hlen hg=>?_
 have KX:=hY w _ Y
 obtain ⟨fd,hb,hF⟩:=F w mg fa _ KX G.T.g hmg
 exact Sj KX G.T.g G.T.b G.T.builtins G.T.nolimit hg hobj hints (dI hlen hn2) hr hF hb (fun H hO hS=>yZ w H a ns hlen hO hS) fun H e s'=>hCX w H s₁ e s'
def inClass (s:aQ) (j:Nat):aQ:=match s with
 | .ClassDef _ _ _ body _ _ _ _ _ _ _=>body.getD j (.Pass ⟨0,0,0,0⟩)
 | _=>.Pass ⟨0,0,0,0⟩
def dF (s:aQ):Arguments:=match s with
 | .FunctionDef _ a _ _ _ _ _ _ _ _=>a
 | _=>{ posonlyargs:=[],args:=[],vararg:=none,kwonlyargs:=[],kw_defaults:=[],kwarg:=none,defaults:=[] }
def cV (s:aQ):List aQ:=match s with
 | .FunctionDef _ _ b _ _ _ _ _ _ _=>b
 | _=>[]
def ah (s:aQ):om:=match s with
 | .FunctionDef _ _ _ _ _ _ sc _ _ _=>sc
 | _=>{ kind:=.function,names:=[],isGenerator:=false,isCoroutine:=false }
abbrev cM:VG:=fun _ _ _ _ _ _=>False
abbrev E0:XK:=fun _ _ _=>False
theorem El:Passes cM X E0:=fun _ _ _ _ _ _ _ h=>h.elim
structure cH (K:bM) (x qual:Str) (st:aQ) (f:ao) (fd:iS):Prop where
 ex:∃(oc:aH) (od:Option ao) (kV doc pm:aH) (an:Option ao) (cdv ct:aH) (osl:Array (Option aH)),
  fd=oV x qual (dF st) (cV st) (ah st) .none kV doc pm an cdv ct∧K.lookup f=some ⟨oc,od,.func fd,osl⟩∧xo K cdv qual=true
 kp:uq K (.ref f)=true
section
theorem cH.ok {K:bM} {st:aQ} (F:cH K x qual st f fd) (S:aE N ps (ah st)) (len:∀vs H Q E,sp vs H Q E→vs.length=ps.length)
 (hbody:∀(cdv:aH) (A:nG) (outer:List Env) (s:aU) (H:Hp) (vs:List V) (Q:VK) (E:XK),gT k (A.deeper (uB qual (ah st) s.heap.objs.size f cdv))→sp vs H Q E →
   ∃t,Km (KO cM P w K mg base N qual (ah st) f cdv A outer s H E).nox (cV st) t∧t { nx:=fun _ H'=>Q .bC H',rt:=Q } (start N vs) H):bg P w K mg base cM (k+1) f fd ps sp:=by
 obtain ⟨oc,od,kV,doc,pm,an,cdv,ct,osl,rfl,lk,hcd⟩:=F.ex
 refine X3 lk hcd S len fun A outer s H vs Q E hr yZ=>?_
 obtain ⟨t,h,q⟩:=hbody cdv A outer s H vs Q E hr yZ
 exact ⟨t,h.nox,q⟩
theorem cH.binds {K:bM} {st:aQ} (F:cH K x qual st f fd)
 (h:∀(kV doc pm:aH) (an:Option ao) (cdv ct:aH) (us:List aH),us.length=ps.length→sU 0#y ⟨us,[]⟩=pure (ps.zip us)):Binds K fd ps []:=by
 obtain ⟨oc,od,kV,doc,pm,an,cdv,ct,osl,rfl,lk,hcd⟩:=F.ex
 exact .all (h kV doc pm an cdv ct)
theorem KY {K:bM} {x:Str} {st:aQ} {f:ao} {oc:aH} {od an:Option ao} {osl:Array (Option aH)} {kV doc pm cdv ct:aH} (l:K.lookup f=some ⟨oc,od,.func 0#y,osl⟩)
 (c:xo K cdv qual=true) (k:uq K (.ref f)=true):cH K x qual st f 0#y:=⟨⟨oc,od,kV,doc,pm,an,cdv,ct,osl,rfl,l,c⟩,k⟩
end
theorem aO (h:n≤1000):n<sizeLine:=Ax h 0#h
section
theorem pv {X:Cx} (i:Nat) {x:Str} {pos:Pos} (hN:X.N[i]?=some x:=by rfl) (hv:Vis X.env.scope x:=by first | exact Or.inl rfl | exact Or.inr (Or.inl rfl) | exact Or.inr (Or.inr rfl)) (hd:0#w=false:=by decide)
 (hcd:(x==("__classdict__":Str))=false:=by decide):PE X (.Name x pos) (CC i):=abt hN hv hd hcd
end
theorem bE {A:Prop} (h:B):if false=true then A else B:=by
 rw [if_neg eO]
 exact h
theorem bJ {A:Prop} (h:A):if true=true then A else B:=by
 rw [if_pos rfl]
 exact h
theorem cu {A:Prop} [Decidable c] (h1:c→A) (h2:¬c→B):if c then A else B:=by
 by_cases h:c
 ·rw [if_pos h]
  exact h1 h
 ·rw [if_neg h]
  exact h2 h
def aq (H H':Hp):Prop:=∀b o,H b=some o→H' b=some o
theorem aq.refl (H:Hp):aq H H:=fun _ _ h=>h
theorem aq.trans (a:aq H H1) (b:aq H1 H2):aq H H2:=fun c o h=>b c o (a c o h)
theorem aq.free (e:aq H H')  (h:H' l=Option.none):H l=Option.none:=by
 cases q:H l with
 | none=>rfl
 | some o=>
   rw [e l o q] at h
   cases h
theorem aq.seq {K:bM} (e:aq H H') (h:aW K H a xs):aW K H' a xs:=by
 rcases h with (h | ⟨o,h⟩) | h
 ·exact .inl (.inl (e _ _ h))
 ·exact .inl (.inr ⟨o,e _ _ h⟩)
 ·exact .inr h
section
variable {κ:Type} [DecidableEq κ]
def dX (kvs:List (κ×V)) (k:κ):Option V:=(kvs.find? fun kv=>decide (kv.1=k)).map (·.2)
def putK (kvs:List (κ×V)) (k:κ) (v:V):List (κ×V):=
 if (kvs.any fun kv=>decide (kv.1=k))=true then kvs.map (fun kv=>if kv.1=k then (kv.1,v) else kv) else kvs++[(k,v)]
theorem ir {k:κ} (e:p.1=k):dX (p::r) k=some p.2:=by simp [dX,ER,e]
theorem ig {k:κ} (e:¬p.1=k):dX (p::r) k=dX r k:=by simp [dX,ER,e]
theorem wY (k:κ):∀kvs:List (κ×V),(kvs.any fun kv=>decide (kv.1=k))=(dX kvs k).isSome
 | []=>rfl
 | p::r=>by
   rw [EU]
   by_cases e:p.1=k
   ·simp only [ir e,dz e,Bool.true_or,Y4]
   ·rw [ig e,gJ e,ZL];exact wY k r
theorem JN (k j:κ) (y:V):∀kvs:List (κ×V),dX (kvs.map fun kv=>if kv.1=k then (kv.1,y) else kv) j=(dX kvs j).map fun x=>if j=k then y else x
 | []=>rfl
 | p::r=>by
   have ih:=JN k j y r
   rw [qU]
   by_cases h:p.1=k
   ·rw [if_pos h]
    by_cases e:p.1=j
    ·rw [ir (p:=(p.1,y)) e,ir e,J4,if_pos (e.symm.trans h)]
    ·rw [ig (p:=(p.1,y)) e,ig e,ih]
   ·rw [if_neg h]
    by_cases e:p.1=j
    ·rw [ir (p:=p) e,ir e,J4,if_neg (fun z=>h (e.trans z))]
    ·rw [ig (p:=p) e,ig e,ih]
theorem EG (k j:κ) (y:V):∀kvs:List (κ×V),dX kvs k=none→dX (kvs++[(k,y)]) j=if j=k then some y else dX kvs j
 | [],_=>by
   by_cases e:k=j
   ·rw [if_pos e.symm];exact ir (p:=(k,y)) e
   ·rw [if_neg (fun z=>e z.symm)];exact ig (p:=(k,y)) e
 | p::r,hn=>by
   rw [List.cons_append]
   have hk:¬p.1=k:=fun z=>by rw [ir z] at hn;cases hn
   rw [ig hk] at hn
   have ih:=EG k j y r hn
   by_cases e:p.1=j
   ·rw [ir e,ir e,if_neg (fun z=>hk (e.trans z))]
   ·rw [ig e,ig e,ih]
theorem wZ (kvs:List (κ×V)) (k j:κ) (y:V):dX (putK kvs k y) j=if j=k then some y else dX kvs j:=by
 unfold putK
 by_cases a:(kvs.any fun kv=>decide (kv.1=k))=true
 ·rw [if_pos a,JN]
  rw [wY] at a
  by_cases e:j=k
  ·obtain ⟨x,hx⟩:=JR.mp a
   rw [if_pos e,e,hx,J4,if_pos rfl]
  ·rw [if_neg e]
   cases dX kvs j with
   | none=>rfl
   | some x=>rw [J4,if_neg e]
 ·rw [if_neg a]
  refine EG k j y kvs ?_
  rw [wY] at a
  cases q:dX kvs k with
  | none=>rfl
  | some x=>rw [q] at a;exact (a rfl).elim
theorem kQ (kvs:List (κ×V)) (k:κ) (v:V):(putK kvs k v).length≤kvs.length+1:=by
 unfold putK
 split
 ·rw [eV];simp?
 ·rw [cJ,iu,kh];simp?
theorem tT.o5 (r:tT o u):o.isSome=u.isSome:=by
 cases o with
 | none=>cases u with
   | none=>rfl
   | some _=>exact (show False from r).elim
 | some _=>cases u with
   | none=>exact (show False from r).elim
   | some _=>rfl
theorem KV.val (r:KV kvs vs) (k:κ):tT (dX kvs k) (C2 vs k):=by
 unfold KV at r
 induction r with
 | nil=>exact True.intro
 | @cons p q ps qs h t ih=>
   obtain ⟨h1,h2⟩:=h
   by_cases e:p.1=k
   ·have e':q.1=k:=h1.symm.trans e
    have b:C2 (q::qs) k=some q.2:=by simp [C2,ER,e']
    rw [ir e,b];exact h2
   ·have e':¬q.1=k:=fun z=>e (h1.trans z)
    have b:C2 (q::qs) k=C2 qs k:=by simp [C2,ER,e']
    rw [ig e,b];exact ih
theorem KV.any (r:KV kvs vs) (k:κ):(kvs.any fun kv=>decide (kv.1=k))=vs.any fun kv=>decide (kv.1=k):=by
 unfold KV at r
 induction r with
 | nil=>rfl
 | cons h t ih=>rw [EU,EU,ih,h.1]
theorem KV.repl (r:KV kvs vs) (k:κ)  (ry:RelV y u) :
 KV (kvs.map fun kv=>if kv.1=k then (kv.1,y) else kv) (vs.map fun kv=>if kv.1=k then (kv.1,u) else kv):=by
 unfold KV at r ⊢
 induction r with
 | nil=>exact .nil
 | @cons p q ps qs h t ih=>
   rw [qU,qU]
   refine .cons ?_ ih
   obtain ⟨h1,h2⟩:=h
   by_cases e:p.1=k
   ·rw [if_pos e,if_pos (h1.symm.trans e)];exact ⟨h1,ry⟩
   ·rw [if_neg e,if_neg (fun z=>e (h1.trans z))];exact ⟨h1,h2⟩
theorem KV.put (r:KV kvs vs) (k:κ)  (ry:RelV y u):KV (putK kvs k y) (stored vs k u):=by
 unfold putK stored
 rw [r.any k]
 by_cases e:(vs.any fun kv=>decide (kv.1=k))=true
 ·rw [if_pos e,if_pos e];exact r.repl k ry
 ·rw [if_neg e,if_neg e];exact Paired.snoc r ⟨rfl,ry⟩
theorem KV.length {vs:List (κ×aH)} (r:KV kvs vs):kvs.length=vs.length:=Paired.length r
end
theorem IM (r:RelV (kV k) u):(iA P w).is k u=true:=by
 cases k with
 | inl i=>obtain ⟨t,e⟩:=(show ∃t,u=Value.int i t from r);subst e;exact IW P w i t
 | inr x=>obtain ⟨t,e⟩:=(show ∃t,u=Value.str x t from r);subst e;exact IX P w x t
theorem Ef:∀{ks:List Key} {us:List aH},Vals (ks.map kV) us→ItemsAre (iA P w) ks us
 | [],_,r=>by rw [Vc] at r;cases r;exact .nil
 | k::ks,_,r=>by
   rw [qU] at r
   cases r with
   | cons h t=>exact .cons (IM h) (Ef t)
abbrev KT (H:Hp):List (List Key×V)→List (List Key×ao×aH)→Prop:=Paired fun p q=>p.1=q.1∧H q.2.1=some (.tup (p.1.map kV))∧RelV p.2 q.2.2
theorem KT.val (r:KT H kvs xs) (k:List Key):tT (dX kvs k) ((xA xs k).map (·.2)):=by
 induction r with
 | nil=>exact True.intro
 | @cons p q ps qs h t ih=>
   obtain ⟨h1,_,h2⟩:=h
   by_cases e:p.1=k
   ·have e':q.1=k:=h1.symm.trans e
    have b:xA (q::qs) k=some q.2:=by simp [xA,ER,e']
    rw [ir e,b];exact h2
   ·have e':¬q.1=k:=fun z=>e (h1.trans z)
    have b:xA (q::qs) k=xA qs k:=by simp [xA,ER,e']
    rw [ig e,b];exact ih
theorem KT.repl (r:KT H kvs xs) (k:List Key)  (ry:RelV y u) :
 KT H (kvs.map fun kv=>if kv.1=k then (kv.1,y) else kv) (xs.map (putAt k u)):=by
 induction r with
 | nil=>exact .nil
 | @cons p q ps qs h t ih=>
   rw [qU,qU]
   refine .cons ?_ ih
   obtain ⟨h1,h2,h3⟩:=h
   unfold putAt
   by_cases e:p.1=k
   ·rw [if_pos e,if_pos (h1.symm.trans e)];exact ⟨h1,h2,ry⟩
   ·rw [if_neg e,if_neg (fun z=>e (h1.trans z))];exact ⟨h1,h2,h3⟩
theorem KT.put (r:KT H kvs xs) (k:List Key)  (hb:H b=some (.tup (k.map kV))) (ry:RelV y u) :
 KT H (putK kvs k y) (storedH xs k b u):=by
 have e:(kvs.any fun kv=>decide (kv.1=k))=(xA xs k).isSome:=by
  rw [wY,(r.val k).o5,US]
 unfold putK storedH
 rw [e]
 by_cases q:(xA xs k).isSome=true
 ·rw [if_pos q,if_pos q];exact r.repl k ry
 ·rw [if_neg q,if_neg q];exact Paired.snoc r ⟨rfl,hb,ry⟩
theorem KT.keeps (r:KT H kvs xs) (ht:∀b ys,H b=some (.tup ys)→H' b=some (.tup ys)):KT H' kvs xs:=
 Paired.abh r fun _ _ z=>⟨z.1,ht _ _ z.2.1,z.2.2⟩
section
theorem Ym (ok:tF P w H h) (e:Rd H a u):dJ P w H h a u:=e.ok ok
theorem Ih (ok:tF P w H h) (e:Rd H a (.dK kvs)):kvs.length≤sizeLine∧(a==xu)=false∧∃vs,KV kvs vs∧h.DictOf (iA P w) a vs:=
 show dJ P w H h a (.dK kvs) from Ym ok e
theorem acC (ok:tF P w H h) (e:H a=some (.dK kvs)):kvs.length≤sizeLine∧(a==xu)=false∧∃vs,KV kvs vs∧h.DictOf (iA P w) a vs:=Ih ok (.inl e)
theorem Bu (ok:tF P w H h) (e:H a=some (.tup (ks.map kV))):(tupleKind (iA P w)).is h ks a:=by
 obtain ⟨_,its,r,o,h1,h2,n,h3⟩:=(show dJ P w H h a (.tup (ks.map kV)) from ok a _ e)
 exact ⟨o,its.toArray,n,h1,h2,h3,by simpa using Ef r⟩
theorem Ii (ok:tF P w H h) (e:Rd H a (.dT kvs)):kvs.length≤sizeLine∧(a==xu)=false ∧
 ∃xs,KT H kvs xs∧h.DictOfH (tupleKind (iA P w)) a xs:=by
 obtain ⟨z,y,xs,r,o,es,ep,h1,h2,h3,h4,h5⟩:=(show dJ P w H h a (.dT kvs) from Ym ok e)
 refine ⟨z,y,xs,r,o,es,ep,h1,h2,h3,h4,fun x hx=>?_,h5⟩
 have all:∀{l:List (List Key×V)} {m:List (List Key×ao×aH)},KT H l m→∀x∈m,(tupleKind (iA P w)).is h x.1 x.2.1:=by
  intro l m q
  induction q with
  | nil=>intro x hx;exact nomatch hx
  | @cons p q ps qs hq t ih=>
    intro x hx
    rcases lg.mp hx with e | hx
    ·subst e
     exact Bu ok (by rw [← hq.1];exact hq.2.1)
    ·exact ih x hx
 exact all r x hx
theorem acE (ok:tF P w H h) (e:H a=some (.dT kvs)):kvs.length≤sizeLine∧(a==xu)=false ∧
 ∃xs,KT H kvs xs∧h.DictOfH (tupleKind (iA P w)) a xs:=Ii ok (.inl e)
end
def uF (H:Hp) (a:ao) (y:V) (r:Option V):Prop:=
 (∃kvs k,Rd H a (.dK kvs)∧y=kV k∧r=dX kvs k)∨∃kvs k b,Rd H a (.dT kvs)∧y=.ref b∧H b=some (.tup (k.map kV))∧r=dX kvs k
def EZ (H:Hp) (a:ao) (y v:V) (H':Hp):Prop:=
 (∃kvs k,H a=some (.dK kvs)∧y=kV k∧kvs.length<sizeLine∧H'=upd H a (.dK (putK kvs k v))) ∨
 ∃kvs k b,H a=some (.dT kvs)∧y=.ref b∧H b=some (.tup (k.map kV))∧kvs.length<sizeLine∧H'=upd H a (.dT (putK kvs k v))
theorem uF.k {H:Hp} {a:ao} {kvs:List (Key×V)} {k:Key} (e:H a=some (.dK kvs)):uF H a (kV k) (dX kvs k):=.inl ⟨kvs,k,.inl e,rfl,rfl⟩
theorem EZ.k {H:Hp} {a:ao} {kvs:List (Key×V)} {k:Key} {v:V} (e:H a=some (.dK kvs)) (hl:kvs.length<sizeLine):EZ H a (kV k) v (upd H a (.dK (putK kvs k v))):=.inl ⟨kvs,k,e,rfl,hl,rfl⟩
section
theorem Inv.big {σ:St} (I:Inv X pins σ H s):xu<s.heap.objs.size:=by
 have h:fE<s.heap.objs.size:=(I.mod.glob.keeps I.bk).lt
 exact CT 0#h h
theorem Pj {σ:St} (hu:A.units+1<oq) (I:Inv X pins σ H s) (g:uF H a y (some v)) (ry:RelV y u) (h:∀w' s',Inv X pins σ H s'→RelV v w'→Q w' s') :
 bF 0#l A (getItem (.ref a) u) Q E s:=by
 rcases g with ⟨kvs,k,e,ey,l⟩ | ⟨kvs,k,b,e,ey,eb,l⟩
 ·subst ey
  obtain ⟨z,hd,vs,rel,dd⟩:=Ih I.hok e
  obtain ⟨w',hw,rw'⟩:=tT.some_of (v:=v) (o:=C2 vs k) (by rw [l];exact rel.val k)
  exact wpAny_getItem_of (IM ry) dd.mapOf hw (h w' _ (I.tok _) rw')
 ·subst ey
  cases (show u=Value.ref b from ry)
  obtain ⟨z,hd,xs,rel,dd⟩:=Ii I.hok e
  obtain ⟨w',hw,rw'⟩:=tT.some_of (v:=v) (o:=(xA xs k).map (·.2)) (by rw [l];exact rel.val k)
  obtain ⟨p,hp,hp2⟩:=oU.mp hw
  refine wpAny_getItem_heap (OH hu) (Bu I.hok eb) dd hp ?_
  rw [hp2]
  exact h w' _ (I.tok _) rw'
theorem afb {σ:St} (hu:A.units+1<oq) (I:Inv X pins σ H s) (g:uF H a y o) (ry:RelV y u) (h:∀s',Inv X pins σ H s'→Q (.bool o.isSome) s') :
 bF 0#l A (kr .In u (.ref a)) Q E s:=by
 rcases g with ⟨kvs,k,e,ey,l⟩ | ⟨kvs,k,b,e,ey,eb,l⟩
 ·subst ey
  obtain ⟨z,hd,vs,rel,dd⟩:=Ih I.hok e
  refine wpAny_in_of (IM ry) hd dd.mapOf ?_
  rw [← (rel.val k).o5,← l]
  exact h _ (I.tok _)
 ·subst ey
  cases (show u=Value.ref b from ry)
  obtain ⟨z,hd,xs,rel,dd⟩:=Ii I.hok e
  refine wpAny_in_heap (OH hu) (Bu I.hok eb) hd dd ?_
  have q:=(rel.val k).o5
  rw [US] at q
  rw [← q,← l]
  exact h _ (I.tok _)
theorem VW {σ:St} (hu:A.units+1<oq) (I:Inv X pins σ H s) (g:uF H a y o) (ry:RelV y u) (h:∀s',Inv X pins σ H s'→Q (.bool (!o.isSome)) s') :
 bF 0#l A (kr .NotIn u (.ref a)) Q E s:=by
 rcases g with ⟨kvs,k,e,ey,l⟩ | ⟨kvs,k,b,e,ey,eb,l⟩
 ·subst ey
  obtain ⟨z,hd,vs,rel,dd⟩:=Ih I.hok e
  refine wpAny_notIn_of (IM ry) hd dd.mapOf ?_
  rw [← (rel.val k).o5,← l]
  exact h _ (I.tok _)
 ·subst ey
  cases (show u=Value.ref b from ry)
  obtain ⟨z,hd,xs,rel,dd⟩:=Ii I.hok e
  refine wpAny_notIn_heap (OH hu) (Bu I.hok eb) hd dd ?_
  have q:=(rel.val k).o5
  rw [US] at q
  rw [← q,← l]
  exact h _ (I.tok _)
theorem Nm {σ:St} (I:Inv X pins σ H s) (mu:Mut (H a)) (hs:zP a s.heap h') (he:∃q,h'.get? a=some q) (new:dJ X.prog X.w (upd H a ob) h' a ob) :
 Inv X pins σ (upd H a ob) { s with heap:=h',toks:=t' }:=
 I.write (x:=a) (e:=a) mu (.inl rfl) (fun b q hb z=>(hs.2 b hb).trans z) he new
theorem aau (z:kvs.length≤sizeLine) (hd:(a==xu)=false) (rel:KV kvs vs) (dd:h'.DictOf (iA P w) a vs) :
 dJ P w H' h' a (.dK kvs):=⟨z,hd,vs,rel,dd⟩
theorem Pk {σ:St} (hu:A.units+1<oq) (I:Inv X pins σ H s) (g:EZ H a y v H') (ry:RelV y u) (rv:RelV v r) (h:∀s',Inv X pins σ H' s'→Q () s') :
 bF 0#l A (setItem (.ref a) u r) Q E s:=by
 rcases g with ⟨kvs,k,e,ey,l,eH⟩ | ⟨kvs,k,b,e,ey,eb,l,eH⟩
 ·subst ey eH
  obtain ⟨z,hd,vs,rel,dd⟩:=acC I.hok e
  have hz:vs.length≤sizeLine:=by rw [← rel.length];exact z
  have hl:(putK kvs k v).length≤sizeLine:=by have:=kQ kvs k v;simp?
  refine wpAny_setItem_pairs (hsz:=hz) (IM ry) dd fun h' dd' hs=>h _ ?_
  have he:∃q,h'.get? a=some q:=let ⟨q,_,_,hq,_⟩:=dd';⟨q,hq⟩
  exact Nm I (by rw [e];exact True.intro) hs he (aau hl hd (rel.put k rv) dd')
 ·subst ey eH
  cases (show u=Value.ref b from ry)
  obtain ⟨z,hd,xs,rel,dd⟩:=acE I.hok e
  have hz:xs.length≤sizeLine:=by rw [← Paired.length rel];exact z
  have hl:(putK kvs k v).length≤sizeLine:=by have:=kQ kvs k v;simp?
  refine wpAny_setItem_heap (hsz:=hz) (OH hu) (Bu I.hok eb) dd fun h' dd' hs=>h _ ?_
  obtain ⟨q,es,ep,hq,h2,h3,h4,_,h5⟩:=dd'
  refine Nm I (by rw [e];exact True.intro) hs ⟨q,hq⟩ ⟨hl,hd,_,(rel.put k eb rv).keeps fun c ys ec=>?_,q,es,ep,hq,h2,h3,h4,h5⟩
  rw [aI (adg ec e (fun z=>nomatch z))]
  exact ec
end
def aaf (i:bf):Prop:=∀ov iv,subscripted i false ov iv=operate [ov,iv] (getItem ov iv)
theorem Xy {id:String}
 (hl:typeLookup (.type T) "__getitem__"=pure (some (.builtin id))) (hs:aaf slice)
 (h:bF (model prog w) A (eval value env) (fun o s₁=>bF (model prog w) A (eval slice env) (fun i s₂=>s₂.TypeIs o T∧bF (model prog w) A (getItem o i) Q E s₂) E s₁) E s) :
 bF (model prog w) A (eval (.Subscript value slice pos) env) Q E s:=by
 refine Vo (pT h (fun o s₁ h₁=>pT h₁ (fun i s₂ h₂=>?_) fun _ _ x=>x) fun _ _ x=>x)
 obtain ⟨hT,h₂⟩:=h₂
 unfold subscriptTail
 refine cX ?_
 rw [getitemInPython_of_ne hT.not_modules]
 refine cX (Zs hT hl ?_)
 have fin:bF (model prog w) A (subscripted slice false o i) (fun r s₃=>bF (model prog w) A (letTemporaryGo value o r >>= fun _=>pure r) Q E s₃) E s₂:=by
  rw [hs o i]
  exact wpAny_operating (pT h₂ (fun r s₃ h₃=>cX (wpAny_letTemporaryGo (jx h₃))) fun _ _ x=>x)
 first
  | exact jx (cX fin)
  | exact cX (jx (cX fin))
  | exact cX fin
theorem Ig {σ:St} (I:Inv X pins σ H s) (g:uF H a y o):s.TypeIs (.ref a) "dict":=by
 rcases g with ⟨kvs,k,e,_,_⟩ | ⟨kvs,k,b,e,_,_,_⟩
 ·obtain ⟨_,_,vs,_,dd⟩:=Ih I.hok e
  exact dd.typeIs
 ·obtain ⟨_,_,xs,_,dd⟩:=Ii I.hok e
  exact dd.typeIs
def Ub (td ty:TE):TE:=fun σ H Q=>td σ H fun x H1=>ty σ H1 fun y H2=>∃a v,x=.ref a∧uF H2 a y (some v)∧Q v H2
def Oa (td ty tv:TE):TS:=fun D σ H=>tv σ H fun v H1=>td σ H1 fun x H2=>ty σ H2 fun y H3=>∃a H4,x=.ref a∧EZ H3 a y v H4∧D.nx σ H4
section
theorem wj (hu:X.A.units+1<oq) (ho:PE X o td) (hi:PE X i ty) (hs:aaf i):PE X (.Subscript o i pos) (Ub td ty):=by
 intro pins s σ H Q I h
 refine Xy PySem.F.slot_dict_getitem.lookup hs (fF (ho pins s σ H _ I h) fun u s1 ⟨x,H1,I1,rx,q1⟩=>fF (hi pins s1 σ H1 _ I1 q1) fun iv s2 ⟨y,H2,I2,ry,a,v,ex,g,q2⟩=>?_)
 subst ex
 obtain rfl:u=Value.ref a:=rx
 exact ⟨Ig I2 g,Pj hu I2 g ry fun w' s3 I3 rw'=>⟨v,H2,I3,rw',q2⟩⟩
theorem wu (hu:X.A.units+1<oq) (ho:PE X o td) (hi:PE X i ty) (hv:PE X value tv) (hs:jI value (some (.Subscript o i pos')) pos.line X.env=pure false) :
 PS X (.Assign [.Subscript o i pos'] value pos) (Oa td ty tv):=by
 intro pins s σ H D I h
 refine wpAny_Assign_Subscript (fF (hv pins s σ H _ I h) fun r s1 ⟨v,H1,I1,rv,q1⟩=>fF (ho pins s1 σ H1 _ I1 q1) fun u s2 ⟨x,H2,I2,rx,q2⟩=>fF (hi pins s2 σ H2 _ I2 q2) fun iv s3 ⟨y,H3,I3,ry,a,H4,ex,g,q3⟩=>?_) hs
 subst ex
 obtain rfl:u=Value.ref a:=rx
 exact Pk hu I3 g ry rv fun s4 I4=>⟨σ,H4,I4,q3⟩
end
theorem Rw (h:b8) (hb:xu<h.objs.size):dJ P w H (h.push { cls:=.type "dict",data:=.dict #[] }) h.objs.size (.dK []):=
 ⟨nH _,JW.mpr (eG (jP hb)),[],.nil,ae2 h⟩
def M3:TE:=fun _ H Q=>∀p,H p=none→Q (.ref p) (upd H p (.dK []))
section
theorem rQ:PE X (.Dict [] [] pos) M3:=fun pins s σ H Q I h=>
 wpAny_Dict_empty ⟨.ref s.heap.objs.size,_,I.laid (a:=s.heap.objs.size) (o:=.dK []) (t':=s.toks) (fun _ _ q=>jN _ q) (dm _) (Rw s.heap I.big),rfl,h _ (I.hok.fresh (dm _))⟩
end
end L2
set_option maxHeartbeats 4000000
namespace Mth
def Sz (n:Nat) (x:Int):Prop:=x.natAbs<2 ^ n
instance {n:Nat} {x:Int}:Decidable (Sz n x):=inferInstanceAs (Decidable (x.natAbs<2 ^ n))
theorem Sz.mono (h:Sz m x) (hm:m≤n):Sz n x:=
 pS h (YT 0#h hm)
theorem Sz.mul (hx:Sz m x) (hy:Sz n y):Sz (m+n) (x*y):=by
 unfold Sz at *
 rw [U5,Nat.pow_add]
 exact Nat.mul_lt_mul'' hx hy
theorem Sz.add (hx:Sz m x) (hy:Sz m y):Sz (m+1) (x+y):=by
 unfold Sz at *
 rw [Nat.pow_succ]
 have:=OM x y
 simp?
theorem Sz.neg (hx:Sz m x):Sz m (-x):=by
 unfold Sz at *
 rw [OX];exact hx
theorem Sz.sub (hx:Sz m x) (hy:Sz m y):Sz (m+1) (x-y):=by
 rw [Int.sub_eq_add_neg];exact hx.add hy.neg
theorem Sz.of_le (hx:Sz m x) (h:y.natAbs≤x.natAbs):Sz m y:=Ax h hx
theorem Sz.log (hx:Sz m x) (hm:m≤9000) (h0:0<m):x.natAbs.log2<9000:=by
 by_cases h:x.natAbs=0
 ·rw [h];decide
 ·have:=(Nat.log2_lt h).mpr hx
  simp?
theorem Sz.of_lt (h:x.natAbs<k) (hk:k≤2 ^ m):Sz m x:=pS h hk
structure XN (t b t' b':Int):Prop where
 pos:1≤b'
 co:cj t' b'=1
 eq:t'*b=t*b'
 tb:t'.natAbs≤t.natAbs
 bb:b'.natAbs≤b.natAbs
theorem Im (x y:Nat):Kf y (x % y)=Kf x y:=by
 rw [ZU y,← Nat.gcd_rec,ZU]
theorem RB (hb:b≠0):cj (t/(cj t b:Int)) (b/(cj t b:Int))=1:=by
 have hp:0<cj t b:=QL t hb
 rw [Int.gcd_ediv (J3 ..) (J1 ..)]
 rw [UK]
 exact Nat.div_self hp
theorem Ei {g:Nat} (hg:0<g) (e:a*(g:Int)=c):a.natAbs≤c.natAbs:=by
 subst e
 rw [U5,UK]
 exact Nat.le_mul_of_pos_right _ hg
theorem abf {g:Nat} (hg:0<g) (e1:t'*(g:Int)=t) (e2:b'*(g:Int)=b) (hb:0<b) (hc:cj t' b'=1):XN t b t' b':=by
 refine ⟨?_,hc,?_,Ei hg e1,Ei hg e2⟩
 ·have:0<b':=Int.pos_of_mul_pos_left (b:=(g:Int)) (by rw [e2];exact hb) 0#c
  simp?
 ·rw [← e1,← e2,Int.mul_assoc,pQ (g:Int) b']
theorem FQ (hb:0<b):XN t b (t.fdiv (cj t b:Int)) (b.fdiv (cj t b:Int)):=by
 have hp:0<cj t b:=QL t 0#c
 have h1:(cj t b:Int)∣t:=J3 ..
 have h2:(cj t b:Int)∣b:=J1 ..
 rw [DQ _ 0#c,DQ _ 0#c]
 exact abf hp (YW h1) (YW h2) hb (RB 0#c)
theorem vP (a:Int) (g:Nat):a.fdiv (-(g:Int))=(-a).fdiv (g:Int):=by
 have:=Int.neg_fdiv_neg a (-(g:Int))
 rw [Vk] at this
 exact this.symm
theorem WI (hb:b<0):XN (-t) (-b) (t.fdiv (-(cj t b:Int))) (b.fdiv (-(cj t b:Int))):=by
 have e:cj t b=cj (-t) (-b):=by rw [Int.gcd_neg,Int.neg_gcd]
 rw [vP,vP,e]
 exact FQ 0#c
theorem Rt (hc:cj b a=1) (h:b∣a*d):b∣d:=by
 have h':b.natAbs∣a.natAbs*d.natAbs:=by rw [← U5];exact YN.mpr h
 have hc':Nat.Coprime b.natAbs a.natAbs:=hc
 exact YN.mp (hc'.dvd_of_dvd_mul_left h')
theorem Lv (hb:1≤b) (hd:1≤d) (h1:cj a b=1) (h2:cj c d=1) (e:a*d=c*b):a=c∧b=d:=by
 have k1:b∣d:=by
  have:b∣a*d:=⟨c,by rw [e,pQ]⟩
  exact Rt (by rw [Ve];exact h1) this
 have k2:d∣b:=by
  have:d∣c*b:=⟨a,by rw [← e,pQ]⟩
  exact Rt (by rw [Ve];exact h2) this
 have hbd:b=d:=Int.dvd_antisymm 0#c 0#c k1 k2
 subst hbd
 exact ⟨Int.eq_of_mul_eq_mul_right 0#c e,rfl⟩
structure jz (H L high low x0 y0 x1 y1:Int):Prop where
 sg:(x0*y1-x1*y0=1∧0≤x0∧y0≤0∧x1≤0∧1≤y1)∨(x0*y1-x1*y0=-1∧x0≤0∧0≤y0∧0≤x1∧y1≤-1)
 eh:x0*H+y0*L=high
 el:x1*H+y1*L=low
 l0:0≤low
 lh:low≤high
 st:(x0=1∧y0=0∧x1=0∧y1=1)∨(y0≠0∧high≤L∧340282366920938463463374607431768211456≤high∧x0.natAbs≤x1.natAbs∧y0.natAbs≤y1.natAbs)
theorem jz.init (h0:0≤L) (h:L≤H):jz H L H L 1 0 0 1:=⟨.inl 0#c,by simp?,by simp?,h0,h,.inl 0#c⟩
theorem Rv {x:Int} (hx:0≤x) (hy:0≤y):(x/y).natAbs≤x.natAbs:=by
 have h1:=OO (a:=x) y hx
 have h2:=Zt hx hy
 simp?
theorem lE {q:Int} (hq:1≤q) (hz:0≤z):z≤q*z:=by
 have:=Kg hq hz
 simp?
theorem jz.step (h:jz H L high low x0 y0 x1 y1) (hl:340282366920938463463374607431768211456≤low) (hq:q=high/low) :
 jz H L low (high-q*low) x1 y1 (x0-q*x1) (y0-q*y1):=by
 obtain ⟨sg,eh,el,l0,lh,st⟩:=h
 have q1:1≤q:=by
  rw [hq];exact (YI 0#c).mpr 0#c
 have em:high-q*low=high % low:=by
  have:=JU high low
  rw [hq,pQ];simp?
 have m0:0≤high % low:=vH _ 0#c
 have m1:high % low<low:=uh _ 0#c
 have hlL:low≤L:=by
  rcases st with ⟨a,b,c,d⟩ | ⟨_,a,_⟩
  ·subst a b c d;simp?
  ·simp?
 have det:x1*(y0-q*y1)-(x0-q*x1)*y1=-(x0*y1-x1*y0):=by grind
 have hel:(x0-q*x1)*H+(y0-q*y1)*L=high-q*low:=by rw [← eh,← el];grind
 refine ⟨?_,el,hel,by simp?,by simp?,.inr ⟨?_,hlL,hl,?_,?_⟩⟩
 ·rcases sg with ⟨d,a,b,c,e⟩ | ⟨d,a,b,c,e⟩
  ·right
   have k1:=lE q1 (z:=-x1) 0#c
   have k2:=lE q1 (z:=y1) 0#c
   rw [Ka] at k1
   exact ⟨by simp?,by simp?,by simp?,by simp?,by simp?⟩
  ·left
   have k1:=lE q1 (z:=x1) 0#c
   have k2:=lE q1 (z:=-y1) 0#c
   rw [Ka] at k2
   exact ⟨by simp?,by simp?,by simp?,by simp?,by simp?⟩
 ·rcases sg with ⟨d,a,b,c,e⟩ | ⟨d,a,b,c,e⟩ <;> simp?
 ·rcases sg with ⟨d,a,b,c,e⟩ | ⟨d,a,b,c,e⟩
  ·have k1:=lE q1 (z:=-x1) 0#c
   rw [Ka] at k1
   simp?
  ·have k1:=lE q1 (z:=x1) 0#c
   simp?
 ·rcases sg with ⟨d,a,b,c,e⟩ | ⟨d,a,b,c,e⟩
  ·have k1:=lE q1 (z:=y1) 0#c
   simp?
  ·have k1:=lE q1 (z:=-y1) 0#c
   rw [Ka] at k1
   simp?
theorem jz.Ws (h:jz H L high low x0 y0 x1 y1) (h1:L≤H):high≤H:=by
 obtain ⟨sg,eh,el,l0,lh,st⟩:=h
 rcases st with ⟨a,b,c,d⟩ | ⟨_,a,_⟩
 ·subst a b c d;simp?
 ·simp?
theorem jz.abp (h:jz H L high low x0 y0 x1 y1) (hh:1≤high):x1.natAbs≤L.natAbs∧y1.natAbs≤H.natAbs:=by
 obtain ⟨sg,eh,el,l0,lh,st⟩:=h
 rcases sg with ⟨d,a,b,c,e⟩ | ⟨d,a,b,c,e⟩
 ·have e1:y1*high+(-y0)*low=H:=by
   have:y1*high+(-y0)*low=(x0*y1-x1*y0)*H:=by rw [← eh,← el];grind
   rw [this,d];simp?
  have e2:(-x1)*high+x0*low=L:=by
   have:(-x1)*high+x0*low=(x0*y1-x1*y0)*L:=by rw [← eh,← el];grind
   rw [this,d];simp?
  have n1:0≤(-y0)*low:=qF 0#c l0
  have n2:0≤x0*low:=qF 0#c l0
  have k1:y1≤y1*high:=by rw [pQ];exact lE hh 0#c
  have k2:-x1≤(-x1)*high:=by rw [pQ];exact lE hh 0#c
  simp?
 ·have e1:(-y1)*high+y0*low=H:=by
   have:(-y1)*high+y0*low=-(x0*y1-x1*y0)*H:=by rw [← eh,← el];grind
   rw [this,d];simp?
  have e2:x1*high+(-x0)*low=L:=by
   have:x1*high+(-x0)*low=-(x0*y1-x1*y0)*L:=by rw [← eh,← el];grind
   rw [this,d];simp?
  have n1:0≤y0*low:=qF 0#c l0
  have n2:0≤(-x0)*low:=qF 0#c l0
  have k1:-y1≤(-y1)*high:=by rw [pQ];exact lE hh 0#c
  have k2:x1≤x1*high:=by rw [pQ];exact lE hh 0#c
  simp?
theorem mC {B:Int} (hy:0≤y) (hh:340282366920938463463374607431768211456≤h) (hm:y*h≤B) (hB:B<115792089237316195423570985008687907853269984665640564039457584007913129639936):y≤340282366920938463463374607431768211456:=by
 by_cases c:y≤340282366920938463463374607431768211456
 ·exact c
 ·have:=CO (a:=340282366920938463463374607431768211456) (c:=y) (b:=340282366920938463463374607431768211456) (d:=h) 0#c hh 0#c hy
  simp?
theorem jz.small (h:jz H L high low x0 y0 x1 y1) (hy:y0≠0) (hL:L≤H) (hH:H<115792089237316195423570985008687907853269984665640564039457584007913129639936) :
 x0.natAbs≤340282366920938463463374607431768211456∧y0.natAbs≤340282366920938463463374607431768211456∧x1.natAbs≤340282366920938463463374607431768211456∧y1.natAbs≤340282366920938463463374607431768211456:=by
 obtain ⟨sg,eh,el,l0,lh,st⟩:=h
 rcases st with ⟨_,z,_⟩ | ⟨_,hl,hh,ax,ay⟩
 ·exact absurd z hy
 rcases sg with ⟨d,a,b,c,e⟩ | ⟨d,a,b,c,e⟩
 ·have e1:y1*high+(-y0)*low=H:=by
   have:y1*high+(-y0)*low=(x0*y1-x1*y0)*H:=by rw [← eh,← el];grind
   rw [this,d];simp?
  have e2:(-x1)*high+x0*low=L:=by
   have:(-x1)*high+x0*low=(x0*y1-x1*y0)*L:=by rw [← eh,← el];grind
   rw [this,d];simp?
  have n1:0≤(-y0)*low:=qF 0#c l0
  have n2:0≤x0*low:=qF 0#c l0
  have k1:=mC (y:=y1) (B:=H) 0#c hh 0#c hH
  have k2:=mC (y:=-x1) (B:=H) 0#c hh 0#c hH
  simp?
 ·have e1:(-y1)*high+y0*low=H:=by
   have:(-y1)*high+y0*low=-(x0*y1-x1*y0)*H:=by rw [← eh,← el];grind
   rw [this,d];simp?
  have e2:x1*high+(-x0)*low=L:=by
   have:x1*high+(-x0)*low=-(x0*y1-x1*y0)*L:=by rw [← eh,← el];grind
   rw [this,d];simp?
  have n1:0≤y0*low:=qF 0#c l0
  have n2:0≤(-x0)*low:=qF 0#c l0
  have k1:=mC (y:=-y1) (B:=H) 0#c hh 0#c hH
  have k2:=mC (y:=x1) (B:=H) 0#c hh 0#c hH
  simp?
theorem Sv {M:Int} (hx:x.natAbs≤M) (hy:y.natAbs≤M) (f0:0≤f) (f1:f≤T) (r0:0≤r) (r1:r≤T) (hs:(0≤x∧y≤0)∨(x≤0∧0≤y)):(x*f+y*r).natAbs≤M*T:=by
 rcases hs with ⟨a,b⟩ | ⟨a,b⟩
 ·have k1:=CO (a:=x) (c:=M) (b:=f) (d:=T) 0#c f1 f0 0#c
  have k2:=CO (a:=-y) (c:=M) (b:=r) (d:=T) 0#c r1 r0 0#c
  have k3:=qF a f0
  have k4:=qF (a:=-y) (b:=r) 0#c r0
  rw [O4] at k2 k4
  simp?
 ·have k1:=CO (a:=-x) (c:=M) (b:=f) (d:=T) 0#c f1 f0 0#c
  have k2:=CO (a:=y) (c:=M) (b:=r) (d:=T) 0#c r1 r0 0#c
  have k3:=qF (a:=-x) (b:=f) 0#c f0
  have k4:=qF (a:=y) (b:=r) 0#c r0
  rw [O4] at k1 k3
  simp?
theorem jz.less (h:jz H L high low x0 y0 x1 y1) (hy:y0≠0) (hL:L≤H) (h1:57896044618658097711785492504343953926634992332820282019728792003956564819968≤H)
 (hH:H<115792089237316195423570985008687907853269984665640564039457584007913129639936) (hl:low≤340282366920938463463374607431768211456) (f0:0≤f) (f1:f<T) (r0:0≤r) (r1:r<T) :
 (x0*(H*T+f)+y0*(L*T+r)).natAbs+(x1*(H*T+f)+y1*(L*T+r)).natAbs<(H*T+f).natAbs+(L*T+r).natAbs:=by
 obtain ⟨sx0,sy0,sx1,sy1⟩:=h.small hy hL hH
 obtain ⟨sg,eh,el,l0,lh,st⟩:=h
 rcases st with ⟨_,z,_⟩ | ⟨_,hhL,hh,ax,ay⟩
 ·exact absurd z hy
 have A:x0*(H*T+f)+y0*(L*T+r)=high*T+(x0*f+y0*r):=by rw [← eh];grind
 have B:x1*(H*T+f)+y1*(L*T+r)=low*T+(x1*f+y1*r):=by rw [← el];grind
 have mA:=Sv (x:=x0) (y:=y0) (f:=f) (r:=r) (T:=T) (M:=340282366920938463463374607431768211456) 0#c 0#c f0 0#c r0 0#c (by rcases sg with ⟨d,a,b,c,e⟩ | ⟨d,a,b,c,e⟩ <;> simp?)
 have mB:=Sv (x:=x1) (y:=y1) (f:=f) (r:=r) (T:=T) (M:=340282366920938463463374607431768211456) 0#c 0#c f0 0#c r0 0#c (by rcases sg with ⟨d,a,b,c,e⟩ | ⟨d,a,b,c,e⟩ <;> simp?)
 have t1:0≤high*T:=qF 0#c 0#c
 have t2:0≤low*T:=qF l0 0#c
 have t3:high*T≤L*T:=Kg hhL 0#c
 have t4:low*T≤340282366920938463463374607431768211456*T:=Kg hl 0#c
 have t5:57896044618658097711785492504343953926634992332820282019728792003956564819968*T≤H*T:=Kg h1 0#c
 rw [A,B]
 simp?
theorem NB (d:x0*y1-x1*y0=1∨x0*y1-x1*y0=-1):cj (x0*a+y0*b) (x1*a+y1*b)=cj a b:=by
 refine Nat.dvd_antisymm ?_ ?_
 ·have h1:(cj (x0*a+y0*b) (x1*a+y1*b):Int)∣x0*a+y0*b:=J3 ..
  have h2:(cj (x0*a+y0*b) (x1*a+y1*b):Int)∣x1*a+y1*b:=J1 ..
  generalize (cj (x0*a+y0*b) (x1*a+y1*b))=g at h1 h2
  obtain ⟨u,hu⟩:=h1
  obtain ⟨v,hv⟩:=h2
  refine Z4 ?_ ?_
  ·rcases d with d | d
   ·exact ⟨y1*u-y0*v,by
     have:(x0*y1-x1*y0)*a=g*(y1*u-y0*v):=by grind
     rw [d] at this;simp?⟩
   ·exact ⟨-(y1*u-y0*v),by
     have:-(x0*y1-x1*y0)*a=g*(-(y1*u-y0*v)):=by grind
     rw [d] at this;simp?⟩
  ·rcases d with d | d
   ·exact ⟨x0*v-x1*u,by
     have:(x0*y1-x1*y0)*b=g*(x0*v-x1*u):=by grind
     rw [d] at this;simp?⟩
   ·exact ⟨-(x0*v-x1*u),by
     have:-(x0*y1-x1*y0)*b=g*(-(x0*v-x1*u)):=by grind
     rw [d] at this;simp?⟩
 ·have h1:(cj a b:Int)∣a:=J3 ..
  have h2:(cj a b:Int)∣b:=J1 ..
  exact Z4 (Z5 (Oz h1) (Oz h2)) (Z5 (Oz h1) (Oz h2))
theorem jz.gcd (h:jz H L high low x0 y0 x1 y1):cj (x0*a+y0*b) (x1*a+y1*b)=cj a b:=
 NB (h.sg.imp (·.1) (·.1))
theorem ND (lo:(2:Int) ^ (255+t)≤x) (hi:x<(2:Int) ^ (256+t)) :
 57896044618658097711785492504343953926634992332820282019728792003956564819968≤x/2 ^ t∧x/2 ^ t<115792089237316195423570985008687907853269984665640564039457584007913129639936:=by
 have tp:(0:Int)<2 ^ t:=Vl 0#h
 refine ⟨(YI tp).mpr ?_,(Int.ediv_lt_iff_lt_mul tp).mpr ?_⟩
 ·rw [Z6] at lo;exact lo
 ·rw [Z6] at hi;exact hi
theorem Lj (h:jz H L high low x0 y0 x1 y1) (hy:y0≠0) (yx:y≤x) (lo:(2:Int) ^ (255+t)≤x) (hi:x<(2:Int) ^ (256+t))
 (eH:H=x/2 ^ t) (eL:L=y/2 ^ t) (hl:low≤340282366920938463463374607431768211456) :
 (x0*x+y0*y).natAbs+(x1*x+y1*y).natAbs<x.natAbs+y.natAbs:=by
 have tp:(0:Int)<2 ^ t:=Vl 0#h
 have hd:=ND lo hi
 have e1:=JU x (2 ^ t)
 have e2:=JU y (2 ^ t)
 have m1:=vH x (b:=2 ^ t) 0#c
 have m2:=vH y (b:=2 ^ t) 0#c
 have l1:=uh x tp
 have l2:=uh y tp
 have hLH:L≤H:=by rw [eH,eL];exact UX tp yx
 have:=h.less hy hLH (by rw [eH];exact hd.1) (by rw [eH];exact hd.2) hl m1 l1 m2 l2
 rw [eH,eL,pQ (x/2 ^ t),pQ (y/2 ^ t),e1,e2] at this
 exact this
theorem uR (hp:p=if b>a then b else a) (hq:q=if b<a then b else a):cj p q=cj a b:=by
 subst hp hq
 by_cases h:b>a
 ·rw [if_pos h,if_neg 0#c];exact Ve b a
 ·by_cases k:b<a
  ·rw [if_neg h,if_pos k]
  ·have:a=b:=by simp?
   subst this;simp
theorem Sx (A B:Nat):0≤(if (B:Int)<(A:Int) then (B:Int) else (A:Int)):=by
 split
 ·exact OG _
 ·exact OG _
theorem LD (A B:Nat):((if (B:Int)>(A:Int) then (B:Int) else (A:Int))=(B:Int)∧(if (B:Int)<(A:Int) then (B:Int) else (A:Int))=(A:Int)∧(A:Int)≤(B:Int))∨((if (B:Int)>(A:Int) then (B:Int) else (A:Int))=(A:Int)∧(if (B:Int)<(A:Int) then (B:Int) else (A:Int))=(B:Int)∧(B:Int)≤(A:Int)):=by
 rcases ZV (A:Int) (B:Int) with h | h
 ·exact .inl ⟨if_pos h,if_neg (zS.mpr (EV h)),EV h⟩
 ·refine .inr ⟨if_neg (zS.mpr h),?_,h⟩
  split
  ·rfl
  ·rename_i h2
   exact Int.le_antisymm (zS.mp h2) h
theorem Sw (A B:Nat):(if (B:Int)<(A:Int) then (B:Int) else (A:Int))≤(if (B:Int)>(A:Int) then (B:Int) else (A:Int)):=by
 rcases LD A B with ⟨e1,e2,h⟩ | ⟨e1,e2,h⟩ <;> rw [e1,e2] <;> exact h
theorem LC {z:Int} (h:A+B≤z.natAbs):((if (B:Int)>(A:Int) then (B:Int) else (A:Int))+(if (B:Int)<(A:Int) then (B:Int) else (A:Int))).natAbs≤z.natAbs:=by
 rcases LD A B with ⟨e1,e2,_⟩ | ⟨e1,e2,_⟩ <;> rw [e1,e2]
 ·exact dI (OM _ _) (by rw [CS];exact h)
 ·exact dI (OM _ _) h
theorem X9 {A:Nat} (ls:A+B<x.natAbs+y.natAbs) (y0:0≤y) (yx:y≤x):O7 (if (B:Int)>(A:Int) then (B:Int) else (A:Int))+O7 (if (B:Int)<(A:Int) then (B:Int) else (A:Int))<O7 x+O7 y:=by
 have ex:x.toNat=x.natAbs:=YX (ZW y0 yx) |> fun e=>ZM (e.trans (YU (ZW y0 yx)).symm)
 have ey:y.toNat=y.natAbs:=YX y0 |> fun e=>ZM (e.trans (YU y0).symm)
 rw [ex,ey]
 rcases LD A B with ⟨e1,e2,_⟩ | ⟨e1,e2,_⟩ <;> rw [e1,e2,UR,UR]
 ·rw [CS]
  exact ls
 ·exact ls
theorem nab {a:Int} (ha:a.natAbs≤p) (hb:b.natAbs≤q) (h:p+q≤r):(a+b).natAbs≤r:=dI (OM a b) (dI (Nat.add_le_add ha hb) h)
theorem afL {w:Int} (h0:0≤w) (h5:w<5):(w-1).natAbs≤3:=by lia
theorem adf {z:Int} (h0:0≤z) (h:z<25):(z-12).natAbs≤12:=by lia
theorem afK {w:Int} (h0:0≤w) (h5:w<3):w.natAbs≤12:=by lia
theorem afM {st:Int} (h0:0≤st) (h:st≤2*1009):(1+st).natAbs≤2100:=by lia
theorem Yb {x:Int} (ls:A+B<x.natAbs+y.natAbs) (y0:0≤y) (yx:y≤x):A+B≤(x+y).natAbs:=by simp?
theorem aaE (y0:0≤y):1*x+-(x.fdiv y)*y=x % y:=by
 have em:=JU x y
 rw [pQ] at em
 rw [DQ _ y0,O4]
 simp?
theorem V9 {x:Int} (y1:1≤y) (yx:y≤x):(0*x+1*y).natAbs+(1*x+-(x.fdiv y)*y).natAbs<x.natAbs+y.natAbs:=by
 have m0:=vH x (b:=y) 0#c
 have m1:=uh x (b:=y) 0#c
 rw [aaE 0#c]
 simp?
structure Qt (t b:Int) (q:Rat):Prop where
 pos:1≤b
 eq:(t:Rat)=q*(b:Rat)
structure Fr (t b:Int) (q:Rat):Prop where
 pos:1≤b
 co:cj t b=1
 eq:(t:Rat)=q*(b:Rat)
theorem Fr.qt (h:Fr t b q):Qt t b q:=⟨h.pos,h.eq⟩
theorem dB {b:Int} (h:b≠0):(b:Rat)≠0:=by
 intro e
 apply h
 have:((b:Int):Rat)=((0:Int):Rat):=by rw [e];rfl
 exact ES.mp this
theorem Fr.LR (h:XN T B t b) (hB:B≠0) (e:(T:Rat)=q*(B:Rat)):Fr t b q:=by
 refine ⟨h.pos,h.co,?_⟩
 have k:=congrArg (fun x:Int=>(x:Rat)) h.eq
 simp only [sW] at k
 have hB':=dB hB
 grind
theorem Fr.unique (h:Fr t b q) (h':Fr t' b' q):t=t'∧b=b':=by
 refine Lv h.pos h'.pos h.co h'.co ?_
 have e:((t*b':Int):Rat)=((t'*b:Int):Rat):=by
  have e1:=h.eq
  have e2:=h'.eq
  simp only [sW]
  grind
 exact ES.mp e
theorem Fr.worth (h:Fr t b q) (h':Fr t' b' q') (e:t=t') (e':b=b'):q=q':=by
 subst e e'
 have hb:=dB (b:=b) (by have:=h.pos;simp?)
 have e1:=h.eq
 have e2:=h'.eq
 grind
theorem pD {b:Int} (hb:1≤b) (hd:1≤d):1≤b*d:=by
 have:=CY (show 0<b by simp?) (show 0<d by simp?)
 simp?
theorem Qt.plus (h:Qt a b q) (k:Qt c d r):Qt (a*d+c*b) (b*d) (q+r):=by
 refine ⟨pD h.pos k.pos,?_⟩
 have e1:=h.eq
 have e2:=k.eq
 simp only [sW,Rat.intCast_add]
 grind
theorem Qt.minus (h:Qt a b q) (k:Qt c d r):Qt (a*d-c*b) (b*d) (q-r):=by
 refine ⟨pD h.pos k.pos,?_⟩
 have e1:=h.eq
 have e2:=k.eq
 simp only [sW,uo]
 grind
theorem Qt.times (h:Qt a b q) (k:Qt c d r):Qt (a*c) (b*d) (q*r):=by
 refine ⟨pD h.pos k.pos,?_⟩
 have e1:=h.eq
 have e2:=k.eq
 simp only [sW]
 grind
theorem Qt.neg (h:Qt a b q):Qt (-a) b (-q):=by
 refine ⟨h.pos,?_⟩
 have e1:=h.eq
 simp only [U3]
 grind
theorem Qt.whole (m:Int):Qt m 1 (m:Rat):=⟨by simp?,by simp⟩
theorem Fr.whole (m:Int):Fr m 1 (m:Rat):=⟨by simp?,by simp,by simp⟩
theorem Qt.div (h:Qt a b q) (hs:0<s):Qt a (b*s) (q/(s:Rat)):=by
 refine ⟨pD h.pos 0#c,?_⟩
 have e1:=h.eq
 have hs':=dB (b:=s) 0#c
 simp only [sW]
 grind
theorem Qt.afc (h:Qt a b q) (hs:s<0):Qt (-a) (b*-s) (q/(s:Rat)):=by
 have k:=h.neg.div (s:=-s) 0#c
 have hs':=dB (b:=s) 0#c
 have e:-q/((-s:Int):Rat)=q/(s:Rat):=by
  simp only [U3]
  grind
 rw [e] at k
 exact k
theorem W5 (h:Qt a b q) (k:Qt c d r) (hc:c≠0):b*c≠0∧((a*d:Int):Rat)=q/r*((b*c:Int):Rat):=by
 have hb:=h.pos
 have hd:=k.pos
 refine ⟨Int.mul_ne_zero 0#c hc,?_⟩
 have e1:=h.eq
 have e2:=k.eq
 have hc':=dB hc
 have hd':=dB (b:=d) 0#c
 have hr:r≠0:=by
  intro z
  rw [z] at e2
  apply hc'
  grind
 simp only [sW]
 grind
theorem Qt.Uo (h:Qt a b q):a=0↔q=0:=by
 have e:=h.eq
 have hb:=dB (b:=b) (by have:=h.pos;simp?)
 constructor
 ·intro z
  subst z
  have:(0:Rat)=q*(b:Rat):=by rw [← e];rfl
  grind
 ·intro z
  subst z
  have:((a:Int):Rat)=((0:Int):Rat):=by rw [e];grind
  exact ES.mp this
theorem Qt.lt_iff (h:Qt a b q) (k:Qt c d r):a*d<c*b↔q<r:=by
 have e1:=h.eq
 have e2:=k.eq
 have hb:(0:Rat)<(b:Rat):=by have:=h.pos;exact OU.mpr 0#c
 have hd:(0:Rat)<(d:Rat):=by have:=k.pos;exact OU.mpr 0#c
 have hbd:(0:Rat)<(b:Rat)*(d:Rat):=EX hb hd
 have l:((a*d:Int):Rat)=q*((b:Rat)*(d:Rat)):=by simp only [sW];grind
 have m:((c*b:Int):Rat)=r*((b:Rat)*(d:Rat)):=by simp only [sW];grind
 rw [← vC,l,m]
 exact CI hbd
def cP (q:Rat):Rat:=if q<0 then -q else q
theorem Xj (q:Rat):0≤cP q:=by unfold cP;split <;> grind
theorem wA:cP q≤w↔-w≤q∧q≤w:=by unfold cP;split <;> grind
theorem Qt.abs (h:Qt a b q):Qt (a.natAbs:Int) b (cP q):=by
 have hb:(0:Rat)<(b:Rat):=by have:=h.pos;exact OU.mpr 0#c
 have z:a<0↔q<0:=by
  have l:=Qt.lt_iff h (Qt.whole 0)
  simp at l
  exact l
 unfold cP
 by_cases h0:a<0
 ·rw [if_pos (z.mp h0)]
  have e:(a.natAbs:Int)=-a:=by simp?
  rw [e]
  exact h.neg
 ·rw [if_neg (fun q=>h0 (z.mpr q))]
  have e:(a.natAbs:Int)=a:=by simp?
  rw [e]
  exact h
def c7 (t:Rat) (q:Rat) (u:Rat) (t':Rat) (q':Rat):Rat:=(q*(t'-u)+q'*(u-t))/(t'-t)
theorem HX (h:t≠t'):q+(q'-q)/(t'-t)*(u-t)=c7 t q u t' q':=by
 unfold c7
 have:t'-t≠0:=by grind
 grind
theorem Fr.own (q:Rat):Fr q.num (q.den:Int) q:=by
 have hp:=q.den_pos
 have hd:((q.den:Int):Rat)≠0:=dB 0#c
 refine ⟨by simp?,?_,?_⟩
 ·have:=q.reduced
  exact this
 ·have h:=Rat.num_divInt_den q
  rw [Rat.divInt_eq_div] at h
  grind
theorem Fr.AN (h:Fr t b q):t=q.num∧b=(q.den:Int):=h.unique (Fr.own q)
def dM {α:Type} (s:α→Bool) (es:List α) (i:Nat):Bool:=decide (0<i)&&((es[i-1]?).map s).getD false
def parts {α:Type} (s:α→Bool) (es:List α):Nat→List (List α)
 | 0=>[]
 | i+1=>match es[i]? with
   | none=>parts s es i
   | some e=>if s e=true then (if dM s es i=true then (parts s es i).dropLast++[((parts s es i).getLast?.getD [])++[e]] else parts s es i++[[e]]) else parts s es i
section
variable {α:Type} {s:α→Bool} {es:List α} {i:Nat} {e:α}
theorem pH (h:es[i]?=some e) (hs:s e=false):parts s es (i+1)=parts s es i:=by
 show (match es[i]? with | none=>_ | some e=>_)=_
 rw [h]
 show (if s e=true then _ else _)=_
 rw [hs]
 rfl
theorem pJ (h:es[i]?=some e) (hs:s e=true) (hi:dM s es i=false):parts s es (i+1)=parts s es i++[[e]]:=by
 show (match es[i]? with | none=>_ | some e=>_)=_
 rw [h]
 show (if s e=true then (if dM s es i=true then _ else _) else _)=_
 rw [hs,hi]
 rfl
theorem wc (h:es[i]?=some e) (hs:s e=true) (hi:dM s es i=true) (hp:parts s es i=t++[r]):parts s es (i+1)=t++[r++[e]]:=by
 show (match es[i]? with | none=>_ | some e=>_)=_
 rw [h]
 show (if s e=true then (if dM s es i=true then _ else _) else _)=_
 rw [hs,hi,hp]
 simp
theorem pI:∀i:Nat,(parts s es i).length≤i
 | 0=>dm _
 | i+1=>by
   have ih:=pI i
   show (match es[i]? with | none=>_ | some e=>_:List (List α)).length≤i+1
   cases es[i]? with
   | none=>exact zK ih
   | some e=>
     show (if s e=true then (if dM s es i=true then _ else _) else _:List (List α)).length≤i+1
     split
     ·split
      ·rw [cJ,List.length_dropLast]
       simp
       simp?
      ·rw [cJ]
       simp
       simp?
     ·exact zK ih
theorem vZ (h:dM s es i=true):∃t r,parts s es i=t++[r]:=by
 unfold dM at h
 rw [vF] at h
 obtain ⟨h0,h1⟩:=h
 have h0:=c6 h0
 obtain ⟨j,rfl⟩:∃j,i=j+1:=⟨i-1,by simp?⟩
 rw [OI] at h1
 cases e:es[j]? with
 | none=>rw [e] at h1;simp at h1
 | some d=>
   rw [e] at h1
   have hd:s d=true:=by simpa using h1
   cases hr:dM s es j with
   | true=>
     refine ⟨(parts s es j).dropLast,((parts s es j).getLast?.getD [])++[d],?_⟩
     show (match es[j]? with | none=>_ | some e=>_)=_
     rw [e]
     show (if s d=true then (if dM s es j=true then _ else _) else _)=_
     rw [hd,hr]
     rfl
   | false=>exact ⟨_,_,pJ e hd hr⟩
theorem u6:∀(i:Nat) (r:List α),r∈parts s es i→r.length≤i
 | 0,r,h=>absurd h (by simp [parts])
 | i+1,r,h=>by
   have ih:=u6 i
   unfold parts at h
   cases e:es[i]? with
   | none=>rw [e] at h;exact zK (ih r h)
   | some y=>
     rw [e] at h
     dsimp only at h
     split at h
     ·split at h
      ·rcases dH.mp h with z | z
       ·exact zK (ih r (YO _ |>.subset z))
       ·obtain rfl:r=((parts s es i).getLast?.getD [])++[y]:=by simpa using z
        rw [cJ]
        cases g:(parts s es i).getLast? with
        | none=>simp
        | some r'=>
          have:=ih r' (List.mem_of_getLast? g)
          simp
          simp?
      ·rcases dH.mp h with z | z
       ·exact zK (ih r z)
       ·obtain rfl:r=[y]:=by simpa using z
        simp
     ·exact zK (ih r h)
theorem uV (h:es[i]?=some e):dM s es (i+1)=s e:=by
 unfold dM
 rw [OI,h]
 simp
end
theorem BX (h:0<s):cP (q*s)=cP q*s:=by
 unfold cP
 by_cases h0:q<0
 ·have:q*s<0:=by
   have:=M8 h0 h
   grind
  rw [if_pos h0,if_pos this]
  grind
 ·have:¬q*s<0:=by
   have h1:0≤q:=by grind
   have:=Zy h1 (show 0≤s by grind)
   grind
  rw [if_neg h0,if_neg this]
theorem cast_pos {b:Int} (h:0<b):(0:Rat)<(b:Rat):=OU.mpr h
theorem HV {t:Int} (h:t<t'):((t':Rat)-(t:Rat))≠0:=by
 have:(t:Rat)<(t':Rat):=vC.mpr h
 grind
theorem oY (h:t'-t≠0):c7 t q u t' q'*(t'-t)=q*(t'-u)+q'*(u-t):=by
 unfold c7
 grind
theorem wB {a:Rat} (h:0<c):a/c≤b↔a≤b*c:=by
 have e:a/c*c=a:=by grind
 constructor
 ·intro z
  have:=QJ z (show 0≤c by grind)
  rw [e] at this
  exact this
 ·intro z
  exact Uq (by rw [e];exact z) h
theorem tN {a:Rat} (h:0<c):a≤b/c↔a*c≤b:=by
 have e:b/c*c=b:=by grind
 constructor
 ·intro z
  have:=QJ z (show 0≤c by grind)
  rw [e] at this
  exact this
 ·intro z
  exact Uq (by rw [e];exact z) h
section
def loP (t v:Nat→Rat) (B:Rat) (i j:Nat):Rat:=(v j-B-v i)/(t j-t i)
def hiP (t v:Nat→Rat) (B:Rat) (i j:Nat):Rat:=(v j+B-v i)/(t j-t i)
def Xx (t v:Nat→Rat) (i j k:Nat):Rat:=v j-c7 (t i) (v i) (t j) (t k) (v k)
def acu (t:Nat→Rat) (n:Nat):Prop:=∀i j,i<j→j<n→t i<t j
theorem rD (s:Rat) (h:ta<tc):c7 ta (x-s*ta) tb tc (y-s*tc)=c7 ta x tb tc y-s*tb:=by
 have h1:=oY (t:=ta) (q:=x-s*ta) (u:=tb) (t':=tc) (q':=y-s*tc) (by grind)
 have h2:=oY (t:=ta) (q:=x) (u:=tb) (t':=tc) (q':=y) (by grind)
 have h0:tc-ta≠0:=by grind
 have e:(c7 ta (x-s*ta) tb tc (y-s*tc)-(c7 ta x tb tc y-s*tb))*(tc-ta)=0:=by grind
 rcases Zu.mp e with z | z
 ·grind
 ·exact absurd z h0
theorem HZ (h1:ta<tb) (h2:tb<tc) (hx:x<M) (hy:y<M):c7 ta x tb tc y<M:=by
 have e:=oY (t:=ta) (q:=x) (u:=tb) (t':=tc) (q':=y) (by grind)
 have p1:=(CI (show 0<tc-tb by grind)).mpr hx
 have p2:=(CI (show 0<tb-ta by grind)).mpr hy
 refine (CI (show 0<tc-ta by grind)).mp ?_
 rw [e]
 grind
theorem HY (h1:ta<tb) (h2:tb<tc) (hx:M<x) (hy:M<y):M<c7 ta x tb tc y:=by
 have e:=oY (t:=ta) (q:=x) (u:=tb) (t':=tc) (q':=y) (by grind)
 have p1:=(CI (show 0<tc-tb by grind)).mpr hx
 have p2:=(CI (show 0<tb-ta by grind)).mpr hy
 refine (CI (show 0<tc-ta by grind)).mp ?_
 rw [e]
 grind
theorem Nj (h1:t i<t j) (h2:t j<t k) (a:B<(v j-s*t j)-(v i-s*t i)) (b:B<(v j-s*t j)-(v k-s*t k)):B<Xx t v i j k:=by
 have c:=HZ (M:=v j-s*t j-B) h1 h2 (show v i-s*t i<_ by grind) (show v k-s*t k<_ by grind)
 rw [rD s (by grind)] at c
 unfold Xx
 grind
theorem Nk (h1:t i<t j) (h2:t j<t k) (a:B<(v i-s*t i)-(v j-s*t j)) (b:B<(v k-s*t k)-(v j-s*t j)):B < -Xx t v i j k:=by
 have c:=HY (M:=v j-s*t j+B) h1 h2 (show _<v i-s*t i by grind) (show _<v k-s*t k by grind)
 rw [rD s (by grind)] at c
 unfold Xx
 grind
theorem Xi (h:w<q∨w < -q):w<cP q:=by
 unfold cP
 split <;> grind
theorem acT (hr:acu t n) (hp:∀i j k,i<j→j<k→k<n→cP (Xx t v i j k)≤B) (hB:0≤B) (hij:i<j) (hj:j<n) (II:k<l) (hl:l<n):loP t v B i j≤hiP t v B k l:=by
 apply lu.mp
 intro hlt
 have dj:=hr i j hij hj
 have dl:=hr k l II hl
 obtain ⟨s,s1,s2⟩:∃s,hiP t v B k l<s∧s<loP t v B i j:=⟨(hiP t v B k l+loP t v B i j)/2,by grind,by grind⟩
 have e1:B<(v j-s*t j)-(v i-s*t i):=by
  have h:=(tN (a:=s) (b:=v j-B-v i) (c:=t j-t i) (by grind))
  have:¬(v j-B-v i)/(t j-t i)≤s:=by unfold loP at s2;grind
  rw [wB (by grind)] at this
  grind
 have e2:B<(v k-s*t k)-(v l-s*t l):=by
  have:¬s≤(v l+B-v k)/(t l-t k):=by unfold hiP at s1;grind
  rw [tN (by grind)] at this
  grind
 have bad:∀a b c,a<b→b<c→c<n→(B<Xx t v a b c∨B < -Xx t v a b c)→False:=fun a b c h1 h2 h3 h4=>by
  have g1:=hp a b c h1 h2 h3
  have g2:=Xi h4
  grind
 by_cases hc:v k-s*t k≤v j-s*t j
 ·by_cases hjl:j<l
  ·exact bad i j l hij hjl hl (.inl (Nj dj (hr j l hjl hl) e1 (by grind)))
  ·have hne:j≠l:=fun z=>by subst z;grind
   have hlj:l<j:=by simp?
   exact bad k l j II hlj hj (.inr (Nk dl (hr l j hlj hj) e2 (by grind)))
 ·by_cases hik:i<k
  ·exact bad i k l hik II hl (.inl (Nj (hr i k hik 0#c) dl (by grind) e2))
  ·have hne:i≠k:=fun z=>by subst z;grind
   have hki:k<i:=by simp?
   exact bad k i j hki hij hj (.inr (Nk (hr k i hki 0#c) dj (by grind) e1))
theorem JL (h1:t i<t j) (h2:t j<t k) (a1:loP t v B i j≤s) (a2:s≤hiP t v B i j) (b1:loP t v B j k≤s) (b2:s≤hiP t v B j k):cP (Xx t v i j k)≤B:=by
 have h3:t i<t k:=by grind
 unfold loP at a1 b1
 unfold hiP at a2 b2
 rw [wB (by grind)] at a1 b1
 rw [tN (by grind)] at a2 b2
 rw [wA]
 unfold Xx
 have e:=rD (ta:=t i) (tb:=t j) (tc:=t k) (x:=v i) (y:=v k) s h3
 constructor
 ·apply lu.mp
  intro z
  have c:=HZ (M:=v j-s*t j-(v j-c7 (t i) (v i) (t j) (t k) (v k))) (x:=v i-s*t i) (y:=v k-s*t k) h1 h2 (by grind) (by grind)
  rw [e] at c
  grind
 ·apply lu.mp
  intro z
  have c:=HY (M:=v j-s*t j-(v j-c7 (t i) (v i) (t j) (t k) (v k))) (x:=v i-s*t i) (y:=v k-s*t k) h1 h2 (by grind) (by grind)
  rw [e] at c
  grind
end
end Mth
namespace My
open PySem PySem.Spec PyProof.Rows L2 Mth
theorem cg (hx:Sz m x) (hy:Sz n y) (h:m+n≤134217728:=by decide):IntMulOk x y:=
 IntMulOk.of_le (ET.mpr hx) (ET.mpr hy) h
theorem mulR (h1:-(2 ^ 64)<y) (h2:y<2 ^ 64):IntMulOk x y:=VF.ok (.inr ⟨h1,h2⟩)
theorem mulL (h1:-(2 ^ 64)<x) (h2:x<2 ^ 64):IntMulOk x y:=VF.ok (.inl ⟨h1,h2⟩)
def DS (_ j:Int):Prop:=j≠0∧j.natAbs.log2<9000
section
theorem aT:oW X (oh .Mult) (rI IntMulOk fun i j=>.int (i*j)):=opI fun _ _ _ _ _ _ _ hc q=>mul_int q hc
theorem gF:oW X (oh .FloorDiv) (rI DS fun i j=>.int (i.fdiv j)):=opI fun _ _ _ _ _ _ _ hc q=>floordiv_int hc.1 q (.inl (PyProof.noPylong_of_log2 hc.2))
end
mutual
inductive Den (H:Hp):V→qR→Prop where
 | bC:Den H .bC .none
 | bl (b:Bool):Den H (.bl b) (.bool b)
 | int (i:Int):Den H (.int i) (.int i)
 | str (x:Str):Den H (.str x) (.str x)
 | tup {a:ao} {xs:List V} {ds:List qR}:H a=some (.tup xs)→qc H xs ds→Den H (.ref a) (.tuple ds)
 | lst {a:ao} {xs:List V} {ds:List qR}:H a=some (.lst xs)→qc H xs ds→Den H (.ref a) (.list ds)
inductive qc (H:Hp):List V→List qR→Prop where
 | nil:qc H [] []
 | cons {x:V} {xs:List V} {d:qR} {ds:List qR}:Den H x d→qc H xs ds→qc H (x::xs) (d::ds)
end
section
mutual
theorem Den.reads (ok:tF P w H h):∀{v:V} {d:qR},Den H v d→∀{u:aH},RelV v u→∃as,Reads h u d as
 | _,_,.bC,u,r=>by cases (show u=Value.none from r);exact ⟨_,Reads.none⟩
 | _,_,.bl b,u,r=>by cases (show u=Value.bool b from r);exact ⟨_,Reads.bool b⟩
 | _,_,.int i,u,r=>by obtain ⟨t,q⟩:=(show ∃t,u=Value.int i t from r);cases q;exact ⟨_,Reads.int i t⟩
 | _,_,.str x,u,r=>by obtain ⟨t,q⟩:=(show ∃t,u=Value.str x t from r);cases q;exact ⟨_,Reads.str x t⟩
 | _,_,@Den.tup _ a xs ds e dd,u,r=>by
   cases (show u=Value.ref a from r)
   obtain ⟨_,its,rv,o,h1,h2,n,h3⟩:=(show dJ P w H h a 0#s from ok a _ e)
   obtain ⟨as,q⟩:=qc.reads ok dd rv
   exact ⟨as,reads_tuple_at h1 h2 h3 (by simpa using q)⟩
 | _,_,@Den.lst _ a xs ds e dd,u,r=>by
   cases (show u=Value.ref a from r)
   obtain ⟨_,its,n,rv,h1⟩:=(show dJ P w H h a (.lst xs) from ok a _ e)
   obtain ⟨as,q⟩:=qc.reads ok dd rv
   exact ⟨_,reads_list_at h1 rfl rfl (by simpa using q)⟩
theorem qc.reads (ok:tF P w H h):∀{vs:List V} {ds:List qR},qc H vs ds→∀{us:List aH},Vals vs us→∃as,ReadsAll h us ds as
 | _,_,.nil,_,.nil=>⟨_,ReadsAll.nil⟩
 | _,_,.cons d dd,_,.cons r rr=>by
   obtain ⟨as,q⟩:=Den.reads ok d r
   obtain ⟨bs,p⟩:=qc.reads ok dd rr
   exact ⟨_,ReadsAll.cons q p⟩
end
end
def adw:R2:=fun x y H Q=>∃d e,Den H x d∧Den H y e∧uA d=true∧uA e=true∧Q (.bl (sR d e)) H
def abB:R2:=fun x y H Q=>∃d e,Den H x d∧Den H y e∧uA d=true∧uA e=true∧Q (.bl (!PyData.eqv d e)) H
section
theorem SX (hu:X.A.units+64<oq):oW X (kr .Eq) adw:=by
 intro pins s σ H x y v u Q I rx ry h
 obtain ⟨d,e,hd,he,s1,s2,q⟩:=h
 obtain ⟨as,r1⟩:=hd.reads I.hok rx
 obtain ⟨bs,r2⟩:=he.reads I.hok ry
 exact eq_dataH r1 r2 s1 s2 hu ⟨.bl _,H,I,rfl,q⟩
theorem SY (hu:X.A.units+64<oq):oW X (kr .NotEq) abB:=by
 intro pins s σ H x y v u Q I rx ry h
 obtain ⟨d,e,hd,he,s1,s2,q⟩:=h
 obtain ⟨as,r1⟩:=hd.reads I.hok rx
 obtain ⟨bs,r2⟩:=he.reads I.hok ry
 exact ne_dataH r1 r2 s1 s2 hu ⟨.bl _,H,I,rfl,q⟩
def abz (K:bM):List V→Hp→VK→Prop:=fun xs H Q=>∃x n t b,xs=[x,.ty n]∧vK K H x t∧CN K t (.type n)=some b∧Q (.bl b) H
theorem Ro:iO X (.builtin "isinstance") (abz X.K):=by
 intro pins s σ H xs us Q I r h
 obtain ⟨x,n,t,b,rfl,ty,e,q⟩:=h
 obtain ⟨u,u2,rfl,rx,rn⟩:=vals2 r
 cases (show u2=Value.type n from rn)
 exact P4 I rx ty e fun tk=>⟨.bl b,H,I.tok tk,rfl,q⟩
theorem abc {K:bM}:CN K (.type "tuple") (.type "tuple")=some true:=by rfl
theorem abb {K:bM}:CN K (.type "int") (.type "int")=some true:=by rfl
theorem aba {K:bM}:CN K (.type "int") (.type "bool")=some false:=by rfl
theorem bS:(gC pos (aY [] env)).any (·.1)=false:=by rfl
theorem bB (h:aY (e::es) env=(false,eval e env)::aY es env) (k:(gC pos (aY es env)).any (·.1)=false):(gC pos (aY (e::es) env)).any (·.1)=false:=by
 rw [h]
 exact k
theorem iK:aY (.Constant c k pos::es) env=(false,eval (.Constant c k pos) env)::aY es env:=by rfl
theorem aP:aY (.Name x pos::es) env=(false,eval (.Name x pos) env)::aY es env:=by rfl
theorem M0:aY (.BinOp a op b pos::es) env=(false,eval (.BinOp a op b pos) env)::aY es env:=by rfl
theorem Qz:aY (.Subscript a b pos::es) env=(false,eval (.Subscript a b pos) env)::aY es env:=by rfl
theorem DO:aY (.Call f as kw pos::es) env=(false,eval (.Call f as kw pos) env)::aY es env:=by rfl
theorem ab3:aY (.Tuple as k pos::es) env=(false,eval (.Tuple as k pos) env)::aY es env:=by rfl
theorem af8:aY (.UnaryOp op a pos::es) env=(false,eval (.UnaryOp op a pos) env)::aY es env:=by rfl
theorem ab2:aY (.ListComp e gs sc pos::es) env=(false,eval (.ListComp e gs sc pos) env)::aY es env:=by rfl
theorem adY:aY (.Compare a ops bs pos::es) env=(false,eval (.Compare a ops bs pos) env)::aY es env:=by rfl
theorem af9:jI (.Constant c k pos) tg l env=pure false:=by rfl
theorem adZ:jI (.BinOp a op b pos) tg l env=pure false:=by rfl
theorem Xz:jI (.Subscript a b pos) tg l env=pure false:=by rfl
theorem fL:jI (.Call f as kw pos) tg l env=pure false:=by rfl
theorem ad0:jI (.Tuple as k pos) tg l env=pure false:=by rfl
end
structure Dn (P:gX) (w:di) (K:bM) (mg:Str→Option aH) (base:b8) (k:Nat) (x:Str) (ps:List Str) (sp:Sp):Prop where
 ex:∃(f:ao) (fd:iS),bg P w K mg base cM k f fd ps sp∧mg x=some (.ref f)∧uq K (.ref f)=true∧Binds K fd ps []
section
theorem Eo {X:Cx} {k:Nat} {x:Str} {ps:List Str} {sp:Sp} {p pos:Pos} {e:bf} {es:List bf} {t:TA} (D:Dn X.prog X.w X.K X.mg X.base k x ps sp) (hr:gT k X.A) (hg:Gl X x) (ha:PA X (e::es) t) (hdb:0#w=false:=by decide)
 (he:aY (e::es) X.env=(false,eval e X.env)::aY es X.env:=by rfl) (hpl:(gC pos (aY es X.env)).any (·.1)=false:=by rfl):PE X (.Call (.Name x p) (e::es) [] pos) (qN sp [] E0 t):=by
 obtain ⟨f,fd,ok,hm,hk,hb⟩:=D.ex
 exact NW ok hr hg hm hk hb .nil El ha hdb he hpl
end
theorem acD {K:bM} {st:aQ} (F:cH K x qual st f fd) (ok:bg P w K mg base cM k f fd ps sp)
 (hm:mg x=some (.ref f)) (hb:Binds K fd ps []):Dn P w K mg base k x ps sp:=⟨f,fd,ok,hm,F.kp,hb⟩
section
theorem adO (h:t { D with nx:=u D } σ H):Ar t u D σ H:=h
theorem adP (h:te σ H fun x H1=>D.nx (σ.set i (some x)) H1):Aq te (ia i) D σ H:=h
theorem adN (h:te σ H D.rt):acg te D σ H:=h
theorem abL (h:te σ H fun _ H1=>D.nx σ H1):Oo te D σ H:=h
theorem afW (h:c σ H fun b H1=>if b=true then t D σ H1 else u D σ H1):ab8 c t u D σ H:=h
theorem abR (h:D.nx σ H):Ue D σ H:=h
theorem adS (e:σ[i]?=some (some v)) (q:Q v H):CC i σ H Q:=⟨v,e,q⟩
theorem r_c (q:Q v H):tC v σ H Q:=q
theorem afY (h:ta σ H fun x H1=>tb σ H1 fun y H2=>r x y H2 Q):HA r ta tb σ H Q:=h
theorem af5 (h:ta σ H fun x H1=>r x H1 Q):tUn r ta σ H Q:=h
theorem adB (q:Q (g m n) H):Xd g (.int m) (.int n) H Q:=⟨m,n,rfl,rfl,q⟩
theorem iC (hc:C m n) (q:Q (g m n) H):rI C g (.int m) (.int n) H Q:=⟨m,n,rfl,rfl,hc,q⟩
theorem r_U (q:Q (g m) H):rU g (.int m) H Q:=⟨m,rfl,q⟩
theorem abW (h:te σ H fun x H'=>∃k,x=.bl k∧B k H'):JJ te σ H B:=h
theorem r_B (h:te σ H fun x H'=>∃k,x=.bl k∧B k H'):tB te σ H B:=h
theorem afS {R:Bool→Prop} (h:R b):∃k,V.bl b=.bl k∧R k:=⟨b,rfl,h⟩
theorem afU (h:ts σ H fun vs H1=>r vs H1 Q):tCB r ts σ H Q:=h
theorem abI (h:te σ H fun x H1=>ts σ H1 fun xs H2=>R (x::xs) H2):dN te ts σ H R:=h
theorem adJ (h:R [] H):nA σ H R:=h
def Nw (mk:List V→HO) (xs:List V) (H:Hp) (Q:VK):Prop:=xs.length≤sizeLine∧∀p,H p=none→Q (.ref p) (upd H p (mk xs))
theorem adQ (h:ts σ H fun xs H1=>Nw .tup xs H1 Q):XC ts σ H Q:=h
theorem adG (h:ts σ H fun xs H1=>Nw .lst xs H1 Q):ab9 ts σ H Q:=h
theorem abG (h:ts σ H fun vs H1=>sp (vs++[]) H1 Q E0):qN sp [] E0 ts σ H Q:=h
theorem adM (h:ts σ H fun vs H1=>∃v w,vs=[v,w]∧D.nx ((σ.set a (some v)).set b (some w)) H1):acf a b ts D σ H:=h
theorem adK (h:c σ H fun b H1=>B (!b) H1):acd c σ H B:=h
theorem adC (h:c σ H fun b H1=>if b=true then d σ H1 B else B false H1):ab5 c d σ H B:=h
theorem afZ (h:c σ H fun b H1=>if b=true then B true H1 else d σ H1 B):tOr c d σ H B:=h
theorem abE (h:ta σ H fun x H1=>∃k,x=.bl k∧if k=true then tb σ H1 Q else Q (.bl false) H1):Ua ta tb σ H Q:=h
theorem adL (h:ta σ H fun x H1=>∃k,x=.bl k∧if k=true then Q (.bl true) H1 else tb σ H1 Q):ace ta tb σ H Q:=h
theorem abS (h:ta σ H fun x H1=>∃k,x=.bl k∧Q (.bl (!k)) H1):Ug ta σ H Q:=h
theorem adF (h:c σ H fun b H1=>if b=true then ta σ H1 Q else tb σ H1 Q):tIf c ta tb σ H Q:=h
theorem afV (hs:Xo (.int m) (.int n)=true) (q:Q (.bl (decide (m=n))) H):rEq (.int m) (.int n) H Q:=⟨hs,by
 have e:decide (V.int m=V.int n)=decide (m=n):=by simp
 rw [e];exact q⟩
theorem afX (hs:Xo (.int m) (.int n)=true) (q:Q (.bl (!decide (m=n))) H):rNe (.int m) (.int n) H Q:=⟨hs,by
 have e:decide (V.int m=V.int n)=decide (m=n):=by simp
 rw [e];exact q⟩
theorem XS {x:V}:xE (x::xs) 0=some x:=fh (j:=0) rfl
theorem XT {x:V}:xE (x::y::xs) 1=some y:=fh (j:=1) rfl
theorem at2 {x:V}:xE (x::y::z::xs) 2=some z:=fh (j:=2) rfl
theorem af2 {K:bM} (h:H p=some (.tup (x::xs))) (q:Q x H):BV K (.ref p) (.int 0) H Q:=⟨p,_,0,x,rfl,rfl,nI.of h,XS,q⟩
theorem Xh {K:bM} (h:H p=some (.tup (x::y::xs))) (q:Q y H):BV K (.ref p) (.int 1) H Q:=⟨p,_,1,y,rfl,rfl,nI.of h,XT,q⟩
theorem af3 {K:bM} (h:H p=some (.tup (x::y::z::xs))) (q:Q z H):BV K (.ref p) (.int 2) H Q:=⟨p,_,2,z,rfl,rfl,nI.of h,at2,q⟩
def abA (K:bM):List V→Hp→VK→Prop:=fun xs H Q=>∃p ys,xs=[.ref p]∧(aW K H p ys∨nI K H p ys)∧Q (.int ys.length) H
theorem cE {K:bM} (h:aW K H p ys∨nI K H p ys) (q:Q (.int ys.length) H):abA K [.ref p] H Q:=⟨p,ys,rfl,h,q⟩
def ads:List V→Hp→VK→Prop:=fun xs H Q=>∃i,xs=[.int i]∧Q (.int (if i<0 then -i else i)) H
theorem abD (q:Q (.int (if m<0 then -m else m)) H):ads [.int m] H Q:=⟨m,rfl,q⟩
section
variable {X:Cx} (K:bM)
theorem lS (h:X.K=K:=by rfl):IxR X (Jr K):=h▸Wz
theorem HH (h:X.K=K:=by rfl):IxR X (BV K):=h▸aa3
theorem EB (h:X.K=K:=by rfl):SlR X (abC K):=h▸Xu
theorem abe (h:X.K=K:=by rfl):iO X (.builtin "len") (abA K):=h▸Fe
theorem Wy (h:X.K=K:=by rfl):iO X (.builtin "isinstance") (abz K):=h▸Ro
theorem Ep (hg:Gl X x) (hm:X.mg x=none) (hv:uz x=some (.type n)) (hn:x ≠ "__name__":=by decide) (hd:0#w=false:=by decide):PE X (.Name x pos) (tC (.ty n)):=
 W6 hg hm hv (show RelV (.ty n) (.type n) from rfl) hn hd
theorem zY:iO X (.builtin "abs") ads:=Rn
theorem piL {tg l:bf} {tl:TE} (hl:PE X l tl) (h:X.K=K:=by rfl):PI X tg l (NG K tl):=h▸Xa hl
theorem piT (hl:PE X l tl) (h:X.K=K:=by rfl):PI X tg l (Wu K tl):=h▸abw hl
theorem Qo (hc:X.calm=true) (g:XQ X es t)
 (hn:(nK es X.env).length=n:=by rfl) (hst:(nK es X.env).findIdx? (·.1)=none:=by rfl) (h:X.K=K:=by rfl):PG X (.Tuple es k pos) (Pr K n t):=h▸abv hc g hn hst
theorem aan {o e:bf} {to te:TE} {apos cpos:Pos} (ho:PE X o to) (he:PE X e te) (h:X.K=K:=by rfl)
 (hbase:pP o "append" X.env (eval o X.env)=eval o X.env:=by rfl)
 (hfew:((gC cpos (aY (e::[]) X.env)).all (fun x=>!x.1)&&(jJ cpos (qG [] X.env)).all (fun x=>x.1.isSome)
   && decide 0#B)=true:=by rfl)
 (hline:(apos.endLine==cpos.line)=true:=by rfl) (hs:aY (e::[]) X.env=(false,eval e X.env)::aY [] X.env:=by rfl) (hplain:(gC cpos (aY [] X.env)).any (·.1)=false:=by rfl) :
 PE X (.Call (.Attribute o "append" apos) [e] [] cpos) (XA K "list" wz to (dN te nA)):=
 h▸S5 Us PySem.F.slot_list_append PySem.F.type_list_append ya ho (kE he u5 hs) hbase hfew hline hs hplain
end
theorem fW (h:H p=none) (o:HO):aq H (upd H p o):=fun b u q=>by rw [aI (bA q h)];exact q
theorem aF (hl:xs.length≤1000) (h:∀p H1,aq H H1→H p=none→H1 p=some (mk xs)→Q (.ref p) H1):Nw mk xs H Q:=
 ⟨ur (aO hl),fun p hp=>h p _ (fW hp _) hp av⟩
theorem r_g (h:R (σ.set i (some v)) H):ia i v σ H R:=h
theorem cG {K:bM} (h:H p=some (.lst xs)) (e:xE xs j=some v) (q:Q v H):Jr K (.ref p) (.int j) H Q:=⟨p,_,j,v,rfl,rfl,aW.of h,e,q⟩
theorem afT {K:bM} (h:te σ H fun x H1=>tyV K T x H1∧ts σ H1 fun xs H2=>r x xs H2 Q):XA K T r te ts σ H Q:=h
theorem cZ (h:H p=some (.lst xs)) (hl:xs.length<sizeLine) (q:Q .bC (upd H p (.lst (xs++[v])))):wz (.ref p) [v] H Q:=⟨p,xs,v,rfl,rfl,h,hl,q⟩
theorem bw (s:aq H1 H2) (n:H1 p=none):aq H1 (upd H2 p o):=fun b x e=>by rw [aI (bA e n)];exact s b x e
theorem aV {xs:List Int} {j:Nat} (h:xs[j]?=some x) (hk:k=(j:Int)):xE (xs.map V.int) k=some (.int x):=by
 subst hk
 exact fh (by rw [jQ,h];rfl)
theorem adR {R:V→V→Prop} (h:R x y):∃v w,[x,y]=[v,w]∧R v w:=⟨x,y,rfl,h⟩
theorem gH (h:wi σ H fun J H1=>∃W:Nat→Nat→L2.St→Hp→Prop,(∃m,W 0 m σ H1)∧∀i m σ H,W i m σ H →
 (J.stop i H∧D.nx σ H)∨(J.go i H∧∃N:L2.St→Hp→Prop,(∀σ' H',N σ' H'→∃m',m'<m∧W (i+1) m' σ' H')∧∀x H',J.Q6 i H x H'→g x σ H' fun σ2 H2=>tb { D with nx:=N,ct:=N,bk:=D.nx } σ2 H2)):ab7 wi g tb D σ H:=h
theorem gV {K:bM} (h:te σ H fun x H1=>∃a,x=.ref a∧(∃xs,aW K H1 a xs)∧R (Itl K a) H1):NG K te σ H R:=h
theorem N9 {K:bM} (h:vK K H x tv) (e:CN K tv (.type ty)=some b) (q:Q (.bl b) H):abz K [x,.ty ty] H Q:=⟨x,ty,tv,b,rfl,h,e,q⟩
end
section
variable {prog:gX} {w:di} {A:nG} {E:aH→aU→Prop} {s:aU}
theorem D7 (hne:l≠it):∀(n i:Nat) (s:aU) (Q:List aH→aU→Prop),s.heap.IsListIter it l i→s.heap.IsList l items→i+n≤items.size →
 (∀h',h'.IsListIter it l (i+n)→zP it s.heap h'→Q ((items.toList.drop i).take n) { s with heap:=h' })→bF (model prog w) A (draw (.ref it) n) Q E s
 | 0,i,s,Q,hit,_,_,hQ=>by
   show bF _ _ (pure []) Q E s
   exact jx (by simpa using hQ s.heap hit (aeZ ..))
 | n+1,i,s,Q,hit,ht,hle,hQ=>by
   have hlt:i<items.size:=by simp?
   show bF _ _ (pyNext (.ref it) >>= _) Q E s
   refine cX (YC hit ht (x:=items[i]) (by simp [hlt]) fun h₁ Lo hs₁=>?_)
   refine cX (zO (D7 hne n (i+1) _ _ Lo (ht.extBut hs₁.extBut hne) 0#c fun h₂ aaW hs₂=>jx ?_))
   have hd:items.toList.drop i=items[i]::items.toList.drop (i+1):=by simp [List.drop_eq_getElem_cons,hlt]
   have:=hQ h₂ (by rw [show i+(n+1)=i+1+n by simp?];exact aaW) (hs₁.trans hs₂)
   rw [hd,List.take_succ_cons] at this
   exact this
theorem yP (hh:A.handled=none) (ht:s.heap.IsList t items)
 (hQ:∀h',Z7 s.heap.objs.size s.heap h'→Q items.toList { s with heap:=h' }):bF (model prog w) A (unpackItems (.ref t) items.size none) Q E s:=by
 have hlt:t≠s.heap.objs.size:=by obtain ⟨o,ho,_⟩:=id ht;exact jP (dY ho)
 unfold unpackItems
 refine cX ?_
 ·unfold notIterableAtAll
  refine cX (Zs ht.typeIs PySem.slot_list_iter.lookup ?_)
  refine jx ?_
  simp only [Y5,if_false]
  refine cX (zO (UQ ht ?_))
  have hp:(s.heap.push { cls:=.type "list_iterator",data:=.fields #[.ref t,.int 0 0] }).IsList t items:=ht.extBut (b:=s.heap.objs.size) (fun b o _ e=>jN _ e) hlt
  refine cX (zO (D7 hlt items.size 0 _ _ ⟨_,Aw _ rfl,rfl,rfl⟩ hp 0#c fun h₁ Lo hs₁=>?_))
  have hall:List.take items.size (List.drop 0 items.toList)=items.toList:=by
   rw [Zz];exact JT 0#f
  rw [hall]
  rw [if_neg 0#f]
  have ht₁:h₁.IsList t items:=hp.extBut hs₁.extBut hlt
  refine cX (zO (YL hh Lo ht₁ 0#f fun h₂ acU=>?_))
  simp only [Option.isSome_none,Y5,if_false]
  refine jx (hQ h₂ fun b o hb e=>acU b o hb (hs₁.extBut b o hb (jN _ e)))
theorem vM (hh:A.handled=none) (ht:s.heap.IsList t items)
 (hn:(nK elts env).length=items.size) (hstar:(nK elts env).findIdx? (·.1)=none)
 (h:∀h',Z7 s.heap.objs.size s.heap h'→bF (model prog w) A (assignInOrder ((nK elts env).map (·.2)) items.toList) Q E { s with heap:=h' }) :
 bF (model prog w) A (assign (.Tuple elts x1 pos) env (.ref t)) Q E s:=by
 rw [assign_Tuple]
 refine cX (CP ?_)
 unfold unpack
 rw [hn,hstar]
 exact cX (zO (yP hh ht h))
end
section
def Wc (K:bM) (n:Nat) (t:VN):TG:=fun v σ H Q=>∃a xs,v=.ref a∧aW K H a xs∧xs.length=n∧t xs σ H Q
theorem abu (hc:X.calm=true) (h:XQ X es t)
 (hn:(nK es X.env).length=n:=by rfl) (hst:(nK es X.env).findIdx? (·.1)=none:=by rfl):PG X (.Tuple es k pos) (Wc X.K n t):=by
 intro pins s σ H v u Q I r hw
 obtain ⟨a,xs,e1,hq,hl,hw⟩:=hw
 subst e1
 cases r
 obtain ⟨its,rv,ht,hz⟩:=I.list hq
 refine vM (I.ok.hd hc) ht.isList (by simp [hn,← hl,rv.length]) hst fun h' hx=>?_
 have I1:Inv X pins σ H { s with heap:=h' }:=I.kept (t':=s.toks) fun b o e=>hx b o (jP (dY e)) e
 exact h pins _ σ H xs _ Q I1 (by simpa using rv) hw
theorem pgL (K:bM)  (hc:X.calm=true) (g:XQ X es t)
 (hn:(nK es X.env).length=n:=by rfl) (hst:(nK es X.env).findIdx? (·.1)=none:=by rfl) (h:X.K=K:=by rfl):PG X (.Tuple es k pos) (Wc K n t):=h▸abu hc g hn hst
theorem Yk (q:Q (.bl (a==b)) H):rEq (.bl a) (.bl b) H Q:=⟨rfl,by
 have e:decide (V.bl a=V.bl b)=(a==b):=by cases a <;> cases b <;> rfl
 rw [e];exact q⟩
theorem Et {K:bM} (h:H p=some (.lst [x,y,z])) (q:R (((σ.set i (some x)).set j (some y)).set k (some z)) H):Wc K 3 (qH (ia i) (qH (ia j) (qH (ia k) Pq))) (.ref p) σ H R:=
 ⟨p,_,rfl,aW.of h,rfl,x,_,rfl,y,_,rfl,z,_,rfl,rfl,q⟩
end
def cF (X:Cx) (N':List Str) (scope:om) (cl:List (Str×ao)) (C:ao) (s0:aU) (H0:Hp) (ex':List ao) (gm:List (ao×Obj)):Cx:=
 { X with N:=N',s₀:=s0,H₀:=H0,env:=compEnvC scope cl C X.env,outer:=X.stack,ex:=ex',fn:=fun _=>false,pn:=gm,xe:=fun _ _=>False }
def kO (cap:List Nat) (σ:L2.St):L2.St:=cap.map fun j=>(σ[j]?).getD none
theorem Wt (x:tF P w H h) (n:H C=none) (k:∀b o,b≠C→h.get? b=some o→h'.get? b=some o):tF P w H h':=fun b u e=>
 (x b u e).stay (fun c v hc q=>k c v (by
   rcases hc with z | z
   ·rw [z];exact bA e n
   ·exact bA z n) q) (fun _ q=>q) fun _ _ q=>q
theorem vO {prog:gX} {w:di} {A:nG} {R:Result→aU→Prop} {s:aU} {elt iter tg:bf} {ifs:List bf} {scope:om} {pos:Pos} {it acc:aH} {env:Env} (I:Nat→aU→Prop)
 (turn:∀n s,I n s→bF (model prog w) A (pyNext it) (fun r s₁=>match r with
   | none=>R (.ok .next) s₁
   | some v=>bF (model prog w) A (letOwnedTupleGo tg it v) (fun _ s₁'=>bF (model prog w) A (assign tg env v) (fun _ s₂=>
    bF (model prog w) A (forIn ifs true fun c r=>if r=true then do let ok ← isTrue c env (eval c env);pure (ForInStep.yield ok) else pure (ForInStep.yield r)) (fun ok s₃=>
     if ok=true then bF (model prog w) A (eval elt env) (fun x s₄=>
      bF (model prog w) A (call (.builtin "list.append") [acc,x]) (fun _ s₅=>∃m,m<n∧I m s₅) (notedBy (model prog w) A env fun e s'=>R (.error e) s') s₄) (notedBy (model prog w) A env fun e s'=>R (.error e) s') s₃
     else ∃m,m<n∧I m s₃) (notedBy (model prog w) A env fun e s'=>R (.error e) s') s₂) (notedBy (model prog w) A env fun e s'=>R (.error e) s') s₁') (notedBy (model prog w) A env fun e s'=>R (.error e) s') s₁) (notedBy (model prog w) A env fun e s'=>R (.error e) s') s)
 (n:Nat) (h:I n s):xy (model prog w) A (.compLoop 0#i 0 it acc env) R s:=by
 refine codeAny_loop rfl I (fun n s hI=>?_) n h
 show bF _ A ((compTurn 0#i 0 it acc env).onRaise (fun x=>do noteFrame x env;theTreesLotGoes x)) _ _ s
 refine wpAny_noted ?_
 rw [compTurn_list]
 refine cX (CP (cX (pT (turn n s hI) (fun r s₁ h₁=>?_) fun _ _ h'=>h')))
 cases r with
 | none=>exact jx h₁
 | some v=>
   refine cX (pT h₁ (fun _ s₂ h₂=>cX (pT h₂ (fun _ s₃ h₃=>cX (pT h₃ (fun ok s₄ h₄=>?_) fun _ _ h'=>h')) fun _ _ h'=>h')) fun _ _ h'=>h')
   cases ok with
   | false=>exact jx ⟨rfl,h₄⟩
   | true=>
     exact cX (cX (pT h₄ (fun x s₄ h₄=>cX (pT h₄ (fun _ s₅ h₅=>jx (jx ⟨rfl,h₅⟩)) fun _ _ h'=>h')) fun _ _ h'=>h'))
def Vv (X:Cx) (ifs:List bf) (t:TT):Prop:=
 ∀(pins:List (ao×Obj)) (s:aU) (σ:L2.St) (H:Hp) (Q:Bool→Hp→Prop),Inv X pins σ H s→t σ H Q →
  bF 0#l X.A (forIn ifs true fun c r=>if r=true then do let ok ← isTrue c X.env (eval c X.env);pure (ForInStep.yield ok) else pure (ForInStep.yield r)) (TP X pins σ Q) X.xe s
def ach:TT:=fun _ H B=>B true H
theorem GC {X:Cx}:Vv X [] ach:=fun _ _ _ H _ I h=>wpAny_tests_nil ⟨H,I,h⟩
theorem kG (h:PT X c t):Vv X [c] t:=fun pins s σ H Q I q=>wpAny_tests_one (h pins s σ H Q I q)
def uu (X:Cx) (scope:om) (cl:List (Str×ao)):List Str→List Nat→Prop
 | [],[]=>True
 | y::ys,j::js=>(X.N[j]?=some y∧X.env.kindOf y=some .cell∧(relabel scope X.env).names.lookup y=some .cell∧cl.lookup y=X.env.cells.lookup y)∧uu X scope cl ys js
 | _,_=>False
theorem uu.len:∀{ys:List Str} {js:List Nat},uu X scope cl ys js→ys.length=js.length
 | [],[],_=>rfl
 | _::_,_::_,h=>congrArg (·+1) h.2.len
theorem uu.at:∀{ys:List Str} {js:List Nat},uu X scope cl ys js→∀(i j:Nat) (y:Str),ys[i]?=some y→js[i]?=some j →
 X.N[j]?=some y∧X.env.kindOf y=some .cell∧(relabel scope X.env).names.lookup y=some .cell∧cl.lookup y=X.env.cells.lookup y
 | [],[],_,i,_,_,e,_=>by simp at e
 | _::_,_::_,h,0,j,y,e1,e2=>by
   simp at e1 e2
   subst e1 e2
   exact h.1
 | _::_,_::_,h,i+1,j,y,e1,e2=>h.2.at i j y (by simpa using e1) (by simpa using e2)
def sM (wi:TI) (n:Nat) (cap:List Nat) (g:TG) (tt:TT) (te:TE):TE:=fun σ H Q=>wi σ H fun J H1=>∀D,H1 D=none→∃W:Nat→Nat→List V→Hp→Prop,(∃m,W 0 m [] (upd H1 D (.lst []))) ∧
 ∀i m xs H2,W i m xs H2→H2 D=some (.lst xs)∧((J.stop i H2∧Q (.ref D) H2)∨(J.go i H2∧xs.length<sizeLine∧∀x H3 ly,ly.length=n→J.Q6 i H2 x H3 →
  g x (ly++kO cap σ) H3 fun σ2 H4=>(∃σ1,σ1.length=n∧σ2=σ1++kO cap σ)∧tt σ2 H4 fun b H5=>if b=true then te σ2 H5 fun y H6=>H6 D=some (.lst xs)∧∃m',m'<m∧W (i+1) m' (xs++[y]) (upd H6 D (.lst (xs++[y])))
    else ∃m',m'<m∧W (i+1) m' xs H5))
section
theorem FO {σ:L2.St} (I:L2.Inv X pins σ H s) (hC:vI X pins H C) (sb:zP C s.heap h'):L2.Inv X pins σ H { s with heap:=h' }:=by
 have k:∀b o,s.heap.get? b=some o→b∉[C]→h'.get? b=some o:=fun b o e hb=>(sb.2 b (fun z=>hb (by rw [z];exact UL.mpr rfl))).trans e
 refine I.Rm (s':={ s with heap:=h' }) (ch:=[C]) rfl ⟨fun b o e _ _ hb=>k b o e hb,fun b o e _ _ hb=>⟨o.slots,k b o e hb⟩,fun b o _ n _=>n,fun b o e hb=>⟨o,k b o e hb⟩,fun _ _ q=>q,fun _ _ _ q=>q,fun _ ps q=>⟨#[],by simpa using q⟩⟩
  (Wt I.hok hC.1 fun b o hb e=>(sb.2 b hb).trans e) I.bare fun b hb=>?_
 obtain rfl:b=C:=UL.mp hb
 exact ⟨hC.2.2.2.1,hC.2.1,hC.2.2.2.2.1,hC.2.2.2.2.2⟩
theorem Ia {σ:L2.St} (use:Option (aH→Sem Unit)) (Q':aH→aU→Prop) (hc:X.calm=true) (hi:PI X tg iter wi)
 (hg:∀(C:ao) (s0:aU) (H0:Hp) (ex':List ao) (gm:List (ao×Obj)),PG (cF X (O++N') scope cl C s0 H0 ex' gm) tg g)
 (FN:∀(C:ao) (s0:aU) (H0:Hp) (ex':List ao) (gm:List (ao×Obj)),Vv (cF X (O++N') scope cl C s0 H0 ex' gm) ifs tt)
 (helt:∀(C:ao) (s0:aU) (H0:Hp) (ex':List ao) (gm:List (ao×Obj)),PE (cF X (O++N') scope cl C s0 H0 ex' gm) elt te)
 (hO:O.length=n) (hcap:uu X scope cl N' cap)
 (hclos:closureFor scope X.env=pure cl) (hcell:∀y∈scope.names,y.2≠.cell) (hkind:scope.kind=.function) (hnames:∀y∈scope.names,y.2=.local→scope.names.lookup y.1=some .local)
 (qg:∀y c,cl.lookup y=some c→X.env.cells.lookup y=some c) (hhas:∀y,((relabel scope X.env).names.lookup y=some .cell∨(relabel scope X.env).names.lookup y=some .free)→∃c,cl.lookup y=some c)
 (hs:∀z,Ay iter X.env z=pure z)
 (I:L2.Inv X pins σ H s) (h:sM wi n cap g tt te σ H Q)
 (fin:∀(D:ao) (H5:Hp) (s6:aU) (C:ao),L2.Inv X pins σ H5 s6→vI X pins H5 C→(∃m,s6.heap.Ns C m)→Q (.ref D) H5→compPost 0#l X.A X.xe use Q' (.ref D) C (.ok .next) s6) :
 bF 0#l X.A (comprehension 0#i scope X.env cpos (newList []) false (eval iter X.env) use) Q' X.xe s:=by
 refine Yu (use:=use) rfl hs hclos hkind hnames (fF (hi pins s σ H _ I h) fun v s1 h1=>fF h1 fun itv s2 h2=>?_)
 obtain ⟨it,fp,tn,J,H2,e,I2,T,st2,f2,q2⟩:=h2
 subst e
 refine UP (wpAny_newFunctionEnv hcell (by intro y hy;simp at hy) (fun h₁ xU FL=>?_) hkind)
 dsimp only at xU FL ⊢
  -- the list, then the block's own names
 have I3:Inv X pins σ (upd H2 s2.heap.objs.size (.lst [])) { s2 with heap:=s2.heap.push { cls:=.type "list",data:=.seq ([]:List aH).toArray },toks:=s2.toks }:=I2.WH (its:=[]) (t':=s2.toks) .nil (nH _)
 generalize hH3:s2.heap.push { cls:=.type "list",dict:=none,data:=.seq ([]:List aH).toArray }=h3 at xU FL I3 ⊢
 have q3:=q2 s2.heap.objs.size (I2.hok.fresh (dm _))
 generalize hD:s2.heap.objs.size=D at I3 q3 xU FL ⊢
 obtain ⟨W,⟨m0,w0⟩,turn⟩:=q3
 have hC:∀b o,h3.get? b=some o→b≠h3.objs.size:=fun b o e=>jP (dY e)
 have old:∀b o,h3.get? b=some o→h₁.get? b=some o:=fun b o e=>FL.extBut b o (hC b o e) (jN _ e)
 have tG:∀b∈fp,∃o,h3.get? b=some o:=fun b hb=>by
  obtain ⟨o,e,_⟩:=T.obj _ _ st2 b hb
  exact ⟨o,by rw [← hH3];exact jN _ e⟩
 have fp3:∀b∈fp,upd H2 D (.lst []) b=none:=fun b hb=>by
  have n:=(f2 b hb).1
  obtain ⟨o,e,_⟩:=T.obj _ _ st2 b hb
  rw [aI (by rw [← hD];exact jP (dY e))]
  exact n
 have stk:∀b∈fp,b∉frs X.stack:=fun b hb z=>by
  rcases lg.mp (I3.yM b z) with e | e
  ·exact (f2 b hb).2.1 e
  ·exact (f2 b hb).2.2.1 e
 have ok:(cF X (O++N') scope cl h3.objs.size { s2 with heap:=h3,toks:=s2.toks } (upd H2 D (.lst [])) fp (X.pn++pins)).Ok:=
  ⟨I.ok.mod,hkind,I.ok.glob,I.ok.blt,dm _,fun y z c a b=>I.ok.inj y z c (qg y c a) (qg z c b),hhas,fun _ _ z=>absurd z eO,I.ok.hd,I.ok.frames,.inl rfl,
   fun b hb=>⟨by obtain ⟨o,e⟩:=tG b hb;exact hC b o e,fun y c a=>(f2 b hb).2.2.2.2.1 y c (qg y c a)⟩,I3.bs,dI I3.ok.VR I3.sz,
   fun b o e hb=>by
    rcases (f2 b hb).2.2.2.1 with z | z
    ·exact I.ok.Qe b o e z
    ·exact absurd (pS (dY (I.ok.bs b o e).1) z) (zN _),
   stk,I3.stack,I3.Hx⟩
 have I4:Inv 0#t [] (ko n none++kO cap σ) (upd H2 D (.lst [])) { s2 with heap:=h₁,toks:=s2.toks+([]:List (Str×aH)).length }:=by
  refine ⟨ok,rfl,I3.bare,Un.kept old,⟨_,xU,fun i y v e1 e2 e3=>?_⟩,fun y c a=>?_,I3.hok.fresh (dm _),fun y c a=>I3.rE y c (qg y c a),fun p hp=>?_,I3.hok.kept old,?_⟩
  ·by_cases hin:i<n
   ·rw [kZ (by rw [C3];exact hin),Ur,if_pos hin] at e2
    cases e2
   ·have XX:N'[i-n]?=some y:=by
     have z:(O++N')[i]?=some y:=e1
     rw [pR 0#c,hO] at z
     exact z
    have hi':i-n<cap.length:=by rw [← hcap.len];exact (fZ.mp XX).1
    obtain ⟨j,ej⟩:∃j,cap[i-n]?=some j:=⟨_,je hi'⟩
    obtain ⟨a1,a2,a3,a4⟩:=hcap.at (i-n) j y XX ej
    have V3:σ[j]?=some (some v):=by
     have z:(kO cap σ)[i-n]?=some (some v):=by
      rw [pR (by rw [C3];simp?),C3] at e2
      exact e2
     unfold kO at z
     rw [jQ,ej] at z
     have z2:(σ[j]?).getD none=some v:=by simpa using z
     cases q:σ[j]? with
     | none=>rw [q] at z2;cases z2
     | some o=>rw [q] at z2;exact congrArg some z2
    obtain ⟨m,hn,hl⟩:=I3.loc
    obtain ⟨u,r,l⟩:=hl j y v a1 V3 (.inr (.inl a2))
    refine ⟨u,r,.inr ⟨.inl a3,?_⟩⟩
    rcases l with ⟨k,_⟩ | ⟨_,c,ec,o,ho,hd⟩
    ·rw [a2] at k;cases k
    ·exact ⟨c,a4.trans ec,o,old c o ho,hd⟩
  ·obtain ⟨v,o,ho,hd⟩:=I3.cell y c (qg y c a)
   exact ⟨v,o,old c o ho,hd⟩
  ·have C8:p∈X.pn++pins:=by simpa [cF] using hp
   obtain ⟨e,n,ne,nf,d⟩:=I3.pin p C8
   refine ⟨old _ _ e,n,hC _ _ e,fun z=>?_,d⟩
   rcases lg.mp (I3.yM p.1 z) with e | e
   ·exact ne e
   ·exact nf e
  ·show (ko n none++kO cap σ).length=(O++N').length
   unfold kO
   rw [cJ,cJ,C3,eV,hcap.len,hO]
 have loop:xy 0#l X.A (.compLoop 0#i 0 (.ref it) (.ref D) (compEnvC scope cl h3.objs.size X.env))
  (compPost 0#l X.A X.xe use Q' (.ref D) h3.objs.size) { s2 with heap:=h₁,toks:=s2.toks+([]:List (Str×aH)).length }:=by
  have fpk:∀{H':Hp},(∀b∈fp,H' b=none)→∀b∈fp,vI 0#t [] H' b:=fun hn b hb=>by
   obtain ⟨o,e⟩:=tG b hb
   refine ⟨hn b hb,hC b o e,stk b hb,.inl hb,fun y c a=>(f2 b hb).2.2.2.2.1 y c (qg y c a),fun p hp=>?_⟩
   have C8:p∈X.pn++pins:=by simpa [cF] using hp
   exact (f2 b hb).2.2.2.2.2 p C8
  refine vO (fun mm s'=>∃(i:Nat) (xs:List V) (H':Hp) (ly:L2.St),ly.length=n∧Inv 0#t [] (ly++kO cap σ) H' s'∧tn i s'.heap∧(∀b∈fp,H' b=none)∧W i mm xs H') ?_ m0
   ⟨0,[],_,ko n none,C3,I4,T.keep _ _ _ st2 fun b hb o e=>old b o (by rw [← hH3];exact jN _ e),fp3,w0⟩
  rintro mm s5 ⟨i,xs,H5,ly,aaZ,I5,Xw,fr5,w5⟩
  obtain ⟨e5,tw⟩:=turn i mm xs H5 w5
  rcases tw with ⟨stop,qn⟩ | ⟨go,hz,step⟩
  ·refine fF (T.done 0#t rfl rfl rfl hc i [] s5 _ H5 _ I5 (fpk fr5) Xw stop) fun r s6 ⟨hr,I6⟩=>?_
   subst hr
   obtain ⟨m,hn,_⟩:=id I6.loc
   have J6:L2.Inv X pins σ H5 s6:=I3.Rm (s':=s6) (ch:=fp) I6.os I6.base I6.hok I6.bare fun b hb=>by
    obtain ⟨_,g1,_,g3,g4,g5⟩:=f2 b hb
    exact ⟨g3,g1,g4,g5⟩
   exact fin D H5 s6 _ J6 (I3.Il (dm _) I6.free) ⟨m,hn⟩ qn
  ·refine fF (T.item 0#t rfl rfl rfl hc i [] s5 _ H5 _ I5 (fpk fr5) Xw go) fun r s6 ⟨u,hr,h6⟩=>?_
   subst hr
   refine fF h6 fun _ s7 ⟨xv,H7,I7,r7,y7,st7,fr7⟩=>?_
   have I7':=I7.pinned (fpk fr7) (T.obj _ _ st7)
   refine pT (hg _ _ _ _ _ _ s7 _ H7 xv u _ I7' r7 (step xv H7 ly aaZ y7)) (fun _ s8 ⟨σ2,H8,I8,⟨σ1,Sd,e2⟩,q8⟩=>?_) fun _ _ z=>z.elim
   refine pT (FN _ _ _ _ _ _ s8 σ2 H8 _ I8 q8) (fun ok s9 ⟨H9,I9,q9⟩=>?_) fun _ _ z=>z.elim
   subst e2
   have keep:∀{s':aU} {σ':L2.St} {H':Hp},Inv 0#t ([]++yq fp s7.heap) σ' H' s'→tn (i+1) s'.heap∧∀b∈fp,H' b=none:=fun {s' σ' H'} J=>
    ⟨T.keep _ _ _ st7 fun b hb o e=>(J.pin (b,o) (vD _ (vD _ (jX hb e)))).1,fun b hb=>by
     obtain ⟨o,e,d⟩:=T.obj _ _ st7 b hb
     exact (J.pin (b,o) (vD _ (vD _ (jX hb e)))).2.1⟩
   cases ok with
   | false=>
     rw [if_neg eO] at q9 ⊢
     obtain ⟨m',hm,w9⟩:=q9
     exact ⟨m',hm,i+1,xs,H9,σ1,Sd,I9.nB,(keep I9).1,(keep I9).2,w9⟩
   | true=>
     rw [if_pos rfl] at q9 ⊢
     refine pT (helt _ _ _ _ _ _ s9 _ H9 _ I9 q9) (fun yv qK ⟨y,tE,I10,r10,HF,m',hm,w10⟩=>?_) fun _ _ z=>z.elim
     refine pT (ya (X:=cF X (O++N') scope cl h3.objs.size { s2 with heap:=h3,toks:=s2.toks } (upd H2 D (.lst [])) fp (X.pn++pins)) _ qK _ tE (.ref D) [y] (.ref D) [yv] (fun _ H'=>H'=upd tE D (.lst (xs++[y]))) I10 rfl (.cons r10 .nil) ⟨D,xs,y,rfl,rfl,HF,hz,rfl⟩) (fun _ Ex ⟨_,KC,I11,_,Ry⟩=>?_) fun _ _ z=>z.elim
     subst Ry
     exact ⟨m',hm,i+1,xs++[y],_,σ1,Sd,I11.nB,(keep I11).1,(keep I11).2,w10⟩
 exact YJ loop (T.self _ 0 _ _ _ (T.keep _ _ _ st2 fun b hb o e=>old b o (by rw [← hH3];exact jN _ e)) loop)
theorem Gp {X:Cx} {elt iter tg:bf} {ifs:List bf} {pos:Pos} {scope:om} {cl:List (Str×ao)} {wi:TI} {te:TE} {tt:TT} {g:TG} {O N':List Str} {cap:List Nat} {n:Nat} (hc:X.calm=true) (hi:PI X tg iter wi)
 (hg:∀(C:ao) (s0:aU) (H0:Hp) (ex':List ao) (gm:List (ao×Obj)),PG (cF X (O++N') scope cl C s0 H0 ex' gm) tg g)
 (FN:∀(C:ao) (s0:aU) (H0:Hp) (ex':List ao) (gm:List (ao×Obj)),Vv (cF X (O++N') scope cl C s0 H0 ex' gm) ifs tt)
 (helt:∀(C:ao) (s0:aU) (H0:Hp) (ex':List ao) (gm:List (ao×Obj)),PE (cF X (O++N') scope cl C s0 H0 ex' gm) elt te)
 (hO:O.length=n) (hcap:uu X scope cl N' cap)
 (hclos:closureFor scope X.env=pure cl) (hcell:∀y∈scope.names,y.2≠.cell) (hkind:scope.kind=.function) (hnames:∀y∈scope.names,y.2=.local→scope.names.lookup y.1=some .local)
 (qg:∀y c,cl.lookup y=some c→X.env.cells.lookup y=some c) (hhas:∀y,((relabel scope X.env).names.lookup y=some .cell∨(relabel scope X.env).names.lookup y=some .free)→∃c,cl.lookup y=some c)
 (hs:∀z,Ay iter X.env z=pure z:=by intro _;rfl) :
 PE X 0#i (sM wi n cap g tt te):=by
 intro pins s σ H Q I h
 rw [eval_ListComp]
 exact Ia none (EP X pins σ Q) hc hi hg FN helt hO hcap hclos hcell hkind hnames qg hhas hs I h fun D H5 s6 C J fC ⟨m,hn⟩ q=>⟨m,hn,fun h' sb=>⟨.ref D,H5,FO J fC sb,rfl,q⟩⟩
theorem kF (hN:X.N.Nodup) (hix:X.N[i]?=some x) (hx:Loc X.env.scope x) (hc:X.calm=true) (hi:PI X tg iter wi)
 (hg:∀(C:ao) (s0:aU) (H0:Hp) (ex':List ao) (gm:List (ao×Obj)),PG (cF X (O++N') scope cl C s0 H0 ex' gm) tg g)
 (FN:∀(C:ao) (s0:aU) (H0:Hp) (ex':List ao) (gm:List (ao×Obj)),Vv (cF X (O++N') scope cl C s0 H0 ex' gm) ifs tt)
 (helt:∀(C:ao) (s0:aU) (H0:Hp) (ex':List ao) (gm:List (ao×Obj)),PE (cF X (O++N') scope cl C s0 H0 ex' gm) elt te)
 (hO:O.length=n) (hcap:uu X scope cl N' cap)
 (hclos:closureFor scope X.env=pure cl) (hcell:∀y∈scope.names,y.2≠.cell) (hkind:scope.kind=.function) (hnames:∀y∈scope.names,y.2=.local→scope.names.lookup y.1=some .local)
 (qg:∀y c,cl.lookup y=some c→X.env.cells.lookup y=some c) (hhas:∀y,((relabel scope X.env).names.lookup y=some .cell∨(relabel scope X.env).names.lookup y=some .free)→∃c,cl.lookup y=some c)
 (hsw:jI 0#i (some (.Name x pos')) spos.line X.env=pure true)
 (hs:∀z,Ay iter X.env z=pure z:=by intro _;rfl) (hf:X.fn x=true∨X.env.scope.names.lookup x=some .local:=by first | exact .inl rfl | exact .inr rfl | assumption) :
 PS X (.Assign [.Name x pos'] 0#i spos) (Aq (sM wi n cap g tt te) (ia i)):=by
 intro pins s σ H D I h
 rw [YQ _ _ _ _ hsw]
 refine cX (CP (cX ?_))
 show bF _ _ (comprehension 0#i scope X.env _ (newList []) false (eval iter X.env) (some (assign (.Name x pos') X.env)) >>= fun _=>pure ()) _ _ s
 refine cX (Ia (some (assign (.Name x pos') X.env)) (fun _ s'=>bF _ _ (pure ()) _ _ s') hc hi hg FN helt hO hcap hclos hcell hkind hnames qg hhas hs I h fun Dl H5 s6 C J fC ⟨m,hn⟩ q=>?_)
 refine UO (yN J hN hix hx (show RelV (.ref Dl) (.ref Dl) from rfl) (fun s7 I7 ⟨a,sb,ha⟩=>⟨m,hn.sameBut sb ?_,fun h' sb'=>jx (jx ⟨_,H5,FO I7 fC sb',q⟩)⟩) hf)
 rcases ha with rfl | e
 ·exact fC.2.1
 ·exact fun z=>fC.2.2.2.2.1 x a e z.symm
end
structure Cn (mg:Str→Option aH) (x:Str) (n:Int):Prop where
 ex:∃t,mg x=some (.int n t)
section
theorem Em (hg:Gl X x) (C:Cn X.mg x n) (hd:0#w=false:=by decide):PE X (.Name x pos) (tC (.int n)):=by
 obtain ⟨t,h⟩:=C.ex
 exact L2.NX hg h ⟨t,rfl⟩ hd
def N2:V→Hp→VK→Prop:=fun x H Q=>∃i:Int,x=.int i∧Q (.int ((t9 i:Nat):Int)) H
theorem WM:MtR X "int.bit_length" (fun x vs H Q=>vs=[]∧N2 x H Q):=by
 intro pins s σ H x vs v us Q I rx rv h
 obtain ⟨rfl,i,rfl,q⟩:=h
 cases rv
 obtain ⟨t,rfl⟩:=rx
 exact call_int_bit_length ⟨.int ((t9 i:Nat):Int),H,I.tok _,⟨_,rfl⟩,q⟩
theorem we (ho:PE X o to) (hbase:pP o "bit_length" X.env (eval o X.env)=eval o X.env:=by rfl) (hline:(apos.endLine==cpos.line)=true:=by rfl) :
 PE X (.Call (.Attribute o "bit_length" apos) [] [] cpos) (tUn (fun x H Q=>tyV X.K "int" x H∧([]:List V)=[]∧N2 x H Q) to):=
 abr PySem.F.plainAttrs_int slot_int_bit_length type_int_bit_length WM ho hbase hline
theorem abF {K:bM} (q:Q (.int ((t9 m:Nat):Int)) H):tyV K "int" (.int m) H∧([]:List V)=[]∧N2 (.int m) H Q:=⟨rfl,rfl,m,rfl,q⟩
def ady:List V→Hp→VK→Prop:=fun xs H Q=>∃i j:Int,xs=[.int i,.int j]∧Q (.int (if j>i then j else i)) H
def adz:List V→Hp→VK→Prop:=fun xs H Q=>∃i j:Int,xs=[.int i,.int j]∧Q (.int (if j<i then j else i)) H
theorem ac8 (hc:X.calm=true):iO X (.builtin "max") ady:=Pf hc
theorem ac9 (hc:X.calm=true):iO X (.builtin "min") adz:=Pg hc
theorem adH (q:Q (.int (if n>m then n else m)) H):ady [.int m,.int n] H Q:=⟨m,n,rfl,q⟩
theorem adI (q:Q (.int (if n<m then n else m)) H):adz [.int m,.int n] H Q:=⟨m,n,rfl,q⟩
theorem acA (K:bM) (h:X.K=K:=by rfl):oW X (oh .Add) (Ti K):=h▸W3
theorem Tj {K:bM} (hp:H p=some (.tup (x::xs))) (hr:H r=some (.tup (y::ys))) (h:Nw .tup (x::xs++y::ys) H Q):Ti K (.ref p) (.ref r) H Q:=
 ⟨p,r,_,_,rfl,rfl,nI.of hp,nI.of hr,by simp,by have:=h.1;rw [cJ] at this;exact this,fun e=>by simp at e,fun _=>h.2⟩
theorem jq (hp:H p=some (.lst xs)) (hr:H r=some (.lst ys)) (h:Nw .lst (xs++ys) H Q):adu (.ref p) (.ref r) H Q:=⟨p,r,_,_,rfl,rfl,hp,hr,by have:=h.1;rw [cJ] at this;exact this,h.2⟩
theorem Yl (hp:H p=some (.lst xs)) (h1:-(2 ^ 63)≤k) (h2:k<2 ^ 63) (h:Nw .lst (ko k.toNat xs).flatten H Q):adA (.ref p) (.int k) H Q:=
 ⟨p,k,xs,rfl,rfl,hp,h1,h2,by have:=h.1;rw [len_rep] at this;rw [ZT];exact this,h.2⟩
theorem at3 {u:V}:xE (x::y::z::u::xs) 3=some u:=fh (j:=3) rfl
theorem af4 {K:bM} (h:H p=some (.tup (x::y::z::u::xs))) (q:Q u H):BV K (.ref p) (.int 3) H Q:=⟨p,_,3,u,rfl,rfl,nI.of h,at3,q⟩
theorem Es (h:te σ H fun x H1=>g x σ H1 D.nx):Aq te g D σ H:=h
theorem abN (h:to σ H fun o H1=>ti σ H1 fun i H2=>ts o i v H2 fun H3=>R σ H3):aaK to ti ts v σ H R:=h
theorem abU (h:H p=some (.lst xs)) (e:QY xs.length k=some j) (q:Q (upd H p (.lst (xs.set j v)))):Yj (.ref p) (.int k) v H Q:=⟨p,xs,k,j,rfl,rfl,h,e,q⟩
end
theorem PR (c:((t9 low:Nat):Int)>128) (h0:0≤low):340282366920938463463374607431768211456≤low:=by
 have h:¬t9 low≤128:=by simp?
 have k:¬low.natAbs<2 ^ 128:=fun q=>h (ET.mpr q)
 have e:(2:Nat) ^ 128=340282366920938463463374607431768211456:=by decide
 simp?
theorem IF (c:¬((t9 low:Nat):Int)>128):low≤340282366920938463463374607431768211456:=by
 have h:t9 low≤128:=by simp?
 have k:low.natAbs<2 ^ 128:=ET.mp h
 have e:(2:Nat) ^ 128=340282366920938463463374607431768211456:=by decide
 simp?
theorem Lk (c:((t9 y:Nat):Int)>256) (y0:0≤y) (yx:y≤x) :
 ∃t:Nat,((t9 x:Nat):Int)-256=(t:Int)∧(2:Int) ^ (255+t)≤x∧x<(2:Int) ^ (256+t):=by
 have hb:t9 y≤t9 x:=intBits_le_of_natAbs 0#c (dm _)
 obtain ⟨t,ht⟩:∃t,t9 x=256+t:=⟨t9 x-256,by simp?⟩
 have h1:x.natAbs<2 ^ (256+t):=ET.mp 0#c
 have h2:¬x.natAbs<2 ^ (255+t):=fun q=>by have:=ET.mpr q;simp?
 refine ⟨t,by simp?,?_,?_⟩
 ·have:(((2:Nat) ^ (255+t):Nat):Int)=(2:Int) ^ (255+t):=by simp
  rw [← this];simp?
 ·have:(((2:Nat) ^ (256+t):Nat):Int)=(2:Int) ^ (256+t):=by simp
  rw [← this];simp?
end My
namespace Jd
open PySem PySem.Spec PyProof.Rows L2 My
structure QE (X:Cx) (e:bf) (t:TE):Prop where
 h:PE X e t
structure QT (X:Cx) (e:bf) (t:TT):Prop where
 h:PT X e t
structure QW (X:Cx) (e:bf) (t:TT):Prop where
 h:PW X e t
structure QA (X:Cx) (es:List bf) (t:TA):Prop where
 h:PA X es t
structure QS (X:Cx) (st:aQ) (t:TS):Prop where
 h:PS X st t
structure Pa (X:Cx) (st:List aQ) (t:TS):Prop where
 h:Km X st t
structure QG (X:Cx) (e:bf) (t:TG):Prop where
 h:PG X e t
structure QGs (X:Cx) (es:List bf) (t:VN):Prop where
 h:XQ X es t
structure QI (X:Cx) (tg e:bf) (t:TI):Prop where
 h:PI X tg e t
structure QO (X:Cx) (e:Option bf) (t:TO):Prop where
 h:PO X e t
section
theorem go {X:Cx} {body:List aQ} {D:Ends} {σ:L2.St} {H:Hp} (h:∃t,Pa X body t∧t D σ H):∃t,Km X body t∧t D σ H:=let ⟨t,h,k⟩:=h;⟨t,h.h,k⟩
theorem cut (n:Nat) (Pv:L2.St→Hp→Prop) (tail:∃t,Pa X (body.drop n) t∧∀σ H,Pv σ H→t D σ H)
 (main:∀u,Pa X (body.drop n) u→(∀σ H,Pv σ H→u D σ H)→∃t,Pa X body t∧t D σ H):∃t,Pa X body t∧t D σ H:=
 let ⟨u,h1,h2⟩:=tail
 main u h1 h2
theorem pv {X:Cx} {pos:Pos} {x:Str} (i:Nat) (hN:X.N[i]?=some x:=by rfl) (hv:Vis X.env.scope x:=by first | exact Or.inl rfl | exact Or.inr (Or.inl rfl) | exact Or.inr (Or.inr rfl)) (hd:0#w=false:=by decide)
 (hcd:(x==("__classdict__":Str))=false:=by decide):QE X (.Name x pos) (CC i):=⟨L2.pv i hN hv hd hcd⟩
theorem BO {X:Cx} {pos:Pos} {i j}:QE X (.Constant (.int i) j pos) (tC (.int i)):=⟨L2.BO⟩
theorem S4 {X:Cx} {pos:Pos} {i j}:QE X (.Constant (.bool i) j pos) (tC (.bl i)):=⟨L2.S4⟩
theorem Mc {X:Cx} {pos:Pos} {j}:QE X (.Constant .none j pos) (tC .bC):=⟨L2.Mc⟩
theorem Mg {X:Cx} {pos:Pos} {i j}:QE X (.Constant (.str i) j pos) (tC (.str i)):=⟨L2.Mg⟩
theorem Ep (hg:Gl X x) (hm:X.mg x=none) (hv:uz x=some (.type n)) (hn:x ≠ "__name__":=by decide) (hd:0#w=false:=by decide):QE X (.Name x pos) (tC (.ty n)):=⟨My.Ep hg hm hv hn hd⟩
theorem Tc {X:Cx} {a b:bf} {ta tb:TE} {pos:Pos} {op:Operator} {r:R2} (ho:oW X (oh op) r) (ha:QE X a ta) (hb:QE X b tb):QE X (.BinOp a op b pos) (HA r ta tb):=⟨L2.Tc ho ha.h hb.h⟩
theorem Td {X:Cx} {a:bf} {ta:TE} {pos:Pos} {op:UnaryOp} {r:V→Hp→VK→Prop} (ho:UnR X (unaryOp op) r) (ha:QE X a ta):QE X (.UnaryOp op a pos) (tUn r ta):=⟨L2.Td ho ha.h⟩
theorem Me (ha:QE X a ta):QE X (.UnaryOp .Not a pos) (Ug ta):=⟨L2.Me ha.h⟩
theorem Gn {X:Cx} {a b:bf} {ta tb:TE} {pos:Pos} {op:CmpOp} {r:R2} (ho:oW X (kr op) r) (ha:QE X a ta) (hb:QE X b tb) (hm:behindInMarks op b=false):QE X (.Compare a [op] [b] pos) (HA r ta tb):=⟨L2.Gn ho ha.h hb.h hm⟩
theorem GB {X:Cx} {a b:bf} {ta tb:TE} {pos:Pos} {op:CmpOp} {r:R2} (ho:oW X (kr op) r) (ha:QE X a ta) (hb:QE X b tb) (hm:behindInMarks op b=false):QT X (.Compare a [op] [b] pos) (JJ (HA r ta tb)):=⟨L2.GB ho ha.h hb.h hm⟩
theorem qi (ha:QT X a tA):QT X (.UnaryOp .Not a pos) (acd tA):=⟨L2.qi ha.h⟩
theorem Mq {X:Cx} {e:bf} {te:TE} (h:QE X e te) (he:∀whole,isTrue e X.env whole=(do let v ← whole;xx e.pos;holding [v] (truthy v)):=by intro _;rfl):QT X e (tB te):=⟨L2.Mq h.h he⟩
theorem ae5 {X:Cx} {e:bf} {tA:TT} (h:QW X e tA):QT X e tA:=⟨h.h.pt⟩
theorem kH (ha:QT X a tA):QW X (.BoolOp .And [a] pos) tA:=⟨L2.kH ha.h⟩
theorem lG (ha:QT X a tA):QW X (.BoolOp .Or [a] pos) tA:=⟨L2.lG ha.h⟩
theorem mV (ha:QT X a tA) (hb:QW X (.BoolOp .And (b::es) pos) tB'):QW X (.BoolOp .And (a::b::es) pos) (ab5 tA tB'):=⟨L2.mV ha.h hb.h⟩
theorem nQ (ha:QT X a tA) (hb:QW X (.BoolOp .Or (b::es) pos) tB'):QW X (.BoolOp .Or (a::b::es) pos) (tOr tA tB'):=⟨L2.nQ ha.h hb.h⟩
theorem Mf {X:Cx} {a:bf} {te:TE} {pos:Pos} {op} (h:QE X a te):QE X (.BoolOp op [a] pos) te:=⟨L2.Mf h.h⟩
theorem lF (ha:QE X a ta) (hb:QE X (.BoolOp .And (b::es) pos) tb):QE X (.BoolOp .And (a::b::es) pos) (Ua ta tb):=⟨L2.lF ha.h hb.h⟩
theorem NY (ha:QE X a ta) (hb:QE X (.BoolOp .Or (b::es) pos) tb):QE X (.BoolOp .Or (a::b::es) pos) (ace ta tb):=⟨L2.NY ha.h hb.h⟩
theorem rR (hc:QT X c tA) (ha:QE X a ta) (hb:QE X b tb):QE X (.IfExp c a b pos) (tIf tA ta tb):=⟨L2.rR hc.h ha.h hb.h⟩
theorem u5 {X:Cx}:QA X [] nA:=⟨L2.u5⟩
theorem kE {X:Cx} {e:bf} {es:List bf} {te:TE} {t:TA} (ha:QE X e te) (hr:QA X es t) (hs:aY (e::es) X.env=(false,eval e X.env)::aY es X.env:=by rfl):QA X (e::es) (dN te t):=⟨L2.kE ha.h hr.h hs⟩
theorem Mh {X:Cx} {es:List bf} {t:TA} {pos:Pos} {k:Nat} (h:QA X es t):QE X (.Tuple es k pos) (XC t):=⟨L2.Mh h.h⟩
theorem Mb {X:Cx} {es:List bf} {t:TA} {pos:Pos} (h:QA X es t):QE X (.List es pos) (ab9 t):=⟨L2.Mb h.h⟩
theorem Gu {X:Cx}:QO X none Hz:=⟨L2.Gu⟩
theorem Gv {X:Cx} {e:bf} {te:TE} (h:QE X e te):QO X (some e) (Uh te):=⟨L2.Gv h.h⟩
theorem BP {X:Cx} {e:bf} {te:TE} {pos p2:Pos} {r:V→Option Int→Option Int→Hp→VK→Prop} {lo hi:Option bf} {tl th:TO} (hr:SlR X r) (he:QE X e te) (hl:QO X lo tl) (hu:QO X hi th):QE X (.Subscript e (.Slice lo hi none p2) pos) (tSl r te tl th):=⟨L2.BP hr he.h hl.h hu.h⟩
theorem Jo {X:Cx} {a b:bf} {ta tb:TE} {pos:Pos} {r:R2} (hr:IxR X r) (ha:QE X a ta) (hb:QE X b tb) (hs:Nd b):QE X (.Subscript a b pos) (HA r ta tb):=⟨L2.Jo hr ha.h hb.h hs⟩
theorem wg {X:Cx} {e:bf} {es:List bf} {t:TA} {pos p:Pos} {x:Str} {id:String} {r:List V→Hp→VK→Prop} (hc:iO X (.builtin id) r) (hg:Gl X x) (hm:X.mg x=none) (hv:uz x=some (.builtin id)) (ha:QA X (e::es) t) (hn:x ≠ "__name__":=by decide) (hdb:0#w=false:=by decide)
 (he:aY (e::es) X.env=(false,eval e X.env)::aY es X.env:=by rfl) (hpl:(gC pos (aY es X.env)).any (·.1)=false:=by rfl):QE X (.Call (.Name x p) (e::es) [] pos) (tCB r t):=⟨L2.wg hc hg hm hv ha.h hn hdb he hpl⟩
theorem yp {X:Cx} {e:bf} {es:List bf} {t:TA} {pos p:Pos} {x:Str} {T:String} {r:List V→Hp→VK→Prop} (hc:iO X (.type T) r) (hg:Gl X x) (hm:X.mg x=none) (hv:uz x=some (.type T)) (ha:QA X (e::es) t) (hn:x ≠ "__name__":=by decide) (hdb:0#w=false:=by decide)
 (he:aY (e::es) X.env=(false,eval e X.env)::aY es X.env:=by rfl) (hpl:(gC pos (aY es X.env)).any (·.1)=false:=by rfl):QE X (.Call (.Name x p) (e::es) [] pos) (tCB r t):=⟨L2.yp hc hg hm hv ha.h hn hdb he hpl⟩
theorem Eo {X:Cx} {e:bf} {es:List bf} {t:TA} {pos p:Pos} {x:Str} {k:Nat} {ps:List Str} {sp:Sp} (D:Dn X.prog X.w X.K X.mg X.base k x ps sp) (hr:gT k X.A) (hg:Gl X x) (ha:QA X (e::es) t) (hdb:0#w=false:=by decide)
 (he:aY (e::es) X.env=(false,eval e X.env)::aY es X.env:=by rfl) (hpl:(gC pos (aY es X.env)).any (·.1)=false:=by rfl):QE X (.Call (.Name x p) (e::es) [] pos) (qN sp [] E0 t):=⟨My.Eo D hr hg ha.h hdb he hpl⟩
theorem aan {X:Cx} {e o:bf} {te to:TE} {apos cpos:Pos} (K:bM) (ho:QE X o to) (he:QE X e te) (h:X.K=K:=by rfl)
 (hbase:pP o "append" X.env (eval o X.env)=eval o X.env:=by rfl)
 (hfew:((gC cpos (aY (e::[]) X.env)).all (fun x=>!x.1)&&(jJ cpos (qG [] X.env)).all (fun x=>x.1.isSome)
   && decide 0#B)=true:=by rfl)
 (hline:(apos.endLine==cpos.line)=true:=by rfl) (hs:aY (e::[]) X.env=(false,eval e X.env)::aY [] X.env:=by rfl) (hplain:(gC cpos (aY [] X.env)).any (·.1)=false:=by rfl) :
 QE X (.Call (.Attribute o "append" apos) [e] [] cpos) (XA K "list" wz to (dN te nA)):=⟨My.aan K ho.h he.h h hbase hfew hline hs hplain⟩
theorem Gz {X:Cx}:Pa X [] Ue:=⟨L2.Gz⟩
theorem BS {X:Cx} {st:aQ} {rest:List aQ} {s1 s2:TS} (h1:QS X st s1) (h2:Pa X rest s2):Pa X (st::rest) (Ar s1 s2):=⟨L2.BS h1.h h2.h⟩
theorem GA {X:Cx} {st:aQ} {s1:TS} (h1:QS X st s1):Pa X [st] s1:=⟨L2.GA h1.h⟩
theorem jD {st:aQ}:QS X st Ud:=⟨L2.jD⟩
theorem Mp {X:Cx} {e:bf} {te:TE} {pos:Pos} (he:QE X e te):QS X (.Return (some e) pos) (acg te):=⟨L2.Mp he.h⟩
theorem Gw {X:Cx} {e:bf} {te:TE} {pos:Pos} (he:QE X e te) (hs:jI e none pos.line X.env=pure false:=by rfl):QS X (.Expr e pos) (Oo te):=⟨L2.Gw he.h hs⟩
theorem Gy {X:Cx} {e:bf} {te:TE} {pos:Pos} {x:Str} {i:Nat} {pos':Pos} (hN:X.N.Nodup) (hi:X.N[i]?=some x) (hx:Loc X.env.scope x) (he:QE X e te) (hs:jI e (some (.Name x pos')) pos.line X.env=pure false:=by rfl) (hf:X.fn x=true∨X.env.scope.names.lookup x=some .local:=by first | exact .inl rfl | exact .inr rfl | assumption) :
 QS X (.Assign [.Name x pos'] e pos) (Aq te (ia i)):=⟨L2.Gy hN hi hx he.h hs hf⟩
theorem rS (he:QE X e te) (hg:QG X tg g) (hs:swapsWithSole [tg] e pos.line X.env=pure false:=by rfl) (hw:swappedStores [tg] e X.env=pure none:=by rfl)
 (h1:(nK [tg] X.env).map (·.2)=[assign tg X.env]:=by rfl):QS X (.Assign [tg] e pos) (Aq te g):=⟨L2.rS he.h hg.h hs hw h1⟩
theorem Gx (hc:X.calm=true) (hN:X.N.Nodup) (hi:X.N[i]?=some x) (hj:X.N[j]?=some y) (hij:i≠j)
 (hx:X.env.scope.names.lookup x=some .local) (hy:X.env.scope.names.lookup y=some .local) (ha:QA X [a,b] ta)
 (hw:swappedStores [.Tuple [.Name x px,.Name y py] kt pt] (.Tuple [a,b] k2 pt2) X.env=pure (some [x,y]))
 (hs:swapsWithSole [.Tuple [.Name x px,.Name y py] kt pt] (.Tuple [a,b] k2 pt2) pos.line X.env=pure false:=by rfl) :
 QS X (.Assign [.Tuple [.Name x px,.Name y py] kt pt] (.Tuple [a,b] k2 pt2) pos) (acf i j ta):=⟨L2.Gx hc hN hi hj hij hx hy ha.h hw hs⟩
theorem Tf {X:Cx} {c:bf} {pos:Pos} {s1 s2:TS} {ss ss':List aQ} {tc:TT} (hc:QT X c tc) (ha:Pa X ss s1) (hb:Pa X ss' s2):QS X (.If c ss ss' pos) (ab8 tc s1 s2):=⟨L2.Tf hc.h ha.h hb.h⟩
theorem mU (hp:O6 0#l X.A X.env X.xe) (hc:QT X c tc) (hb:Pa X sts s1):QS X (.While c sts [] pos) (HB tc s1):=⟨L2.mU hp hc.h hb.h⟩
theorem Mn {X:Cx} {e:bf} {pos:Pos} {sts:List aQ} {s1:TS} {tg:bf} {wi:TI} {g:TG} (hp:O6 0#l X.A X.env X.xe) (hc:X.calm=true) (hi:QI X tg e wi) (hg:QG X tg g) (hb:Pa X sts s1)
 (hs:∀x,Ay e X.env x=pure x:=by intro _;rfl):QS X (.For tg e sts [] pos) (ab7 wi g s1):=⟨L2.Mn hp hc hi.h hg.h hb.h hs⟩
theorem Gq {X:Cx} {pos:Pos} {x:Str} {i:Nat} (hN:X.N.Nodup) (hi:X.N[i]?=some x) (hx:Loc X.env.scope x) (hf:X.fn x=true∨X.env.scope.names.lookup x=some .local:=by first | exact .inl rfl | exact .inr rfl | assumption):QG X (.Name x pos) (ia i):=⟨L2.Gq hN hi hx hf⟩
theorem Gr {X:Cx}:QGs X [] Pq:=⟨L2.Gr⟩
theorem BQ {X:Cx} {e:bf} {es:List bf} {g:TG} {u:VN} (h1:QG X e g) (h2:QGs X es u) (hs:(nK (e::es) X.env).map (·.2)=assign e X.env::(nK es X.env).map (·.2):=by rfl):QGs X (e::es) (qH g u):=⟨L2.BQ h1.h h2.h hs⟩
theorem Qo (K:bM)  (hc:X.calm=true) (h2:QGs X es g) (hn:(nK es X.env).length=n:=by rfl) (hst:(nK es X.env).findIdx? (·.1)=none:=by rfl) (h:X.K=K:=by rfl):QG X (.Tuple es k pos) (Pr K n g):=⟨My.Qo K hc h2.h hn hst h⟩
theorem pgL (K:bM)  (hc:X.calm=true) (h2:QGs X es g) (hn:(nK es X.env).length=n:=by rfl) (hst:(nK es X.env).findIdx? (·.1)=none:=by rfl) (h:X.K=K:=by rfl):QG X (.Tuple es k pos) (Wc K n g):=⟨My.pgL K hc h2.h hn hst h⟩
theorem piL {X:Cx} {e:bf} {te:TE} (K:bM) {tg:bf} (hl:QE X e te) (h:X.K=K:=by rfl):QI X tg e (NG K te):=⟨My.piL K hl.h h⟩
theorem piT (K:bM)  (hl:QE X e te) (h:X.K=K:=by rfl):QI X tg e (Wu K te):=⟨My.piT K hl.h h⟩
theorem j3 (hg:Gl X "range") (hm:X.mg "range"=none) (ha:QA X [a] t) (hs:aY [a] X.env=[(false,eval a X.env)]:=by rfl):QI X tg (.Call (.Name "range" p) [a] [] pos) (Sf t):=⟨L2.j3 hg hm ha.h hs⟩
theorem Em (hg:Gl X x) (C:Cn X.mg x n) (hd:0#w=false:=by decide):QE X (.Name x pos) (tC (.int n)):=⟨My.Em hg C hd⟩
theorem we (ho:QE X o to) (hbase:pP o "bit_length" X.env (eval o X.env)=eval o X.env:=by rfl) (hline:(apos.endLine==cpos.line)=true:=by rfl) :
 QE X (.Call (.Attribute o "bit_length" apos) [] [] cpos) (tUn (fun x H Q=>tyV X.K "int" x H∧([]:List V)=[]∧N2 x H Q) to):=⟨My.we ho.h hbase hline⟩
theorem Mj (ho:QE X o to) (hi:QE X i ti) (hs:aah X ts)
 (ha:∀v,assign (.Subscript o i pos) X.env v=(holding [v] (eval o X.env) >>= fun ov=>holding [v,ov] (eval i X.env) >>= fun iv=>xx pos >>= fun _=>holding [v,ov,iv] (setItem ov iv v) >>= fun _=>release [v,ov,iv] []):=by intro _;rfl) :
 QG X (.Subscript o i pos) (aaK to ti ts):=⟨L2.Mj ho.h hi.h hs ha⟩
theorem BU (ho:oW X (kr op) r) (ho':oW X (kr op') r') (ha:QE X a ta) (hb:QE X b tb) (hc:QE X c tc)
 (hm:lastMarks [op,op'] [b,c]=false:=by with_unfolding_all rfl):QT X (.Compare a [op,op'] [b,c] pos) (JJ (M1 r r' ta tb tc)):=⟨L2.BU ho ho' ha.h hb.h hc.h hm⟩
end
end Jd
namespace My
open PySem PySem.Spec PyProof.Rows L2 Mth
def dZ (cells:List (Str×ao)):List (Str×qQ)→List (Str×ao)→List (Str×ao)
 | [],cs=>cs
 | (y,k)::r,cs=>dZ cells r (if k=.free then ((cells.lookup y).map fun c=>(y,c)).toList++cs else cs)
def fM (cells:List (Str×ao)) (names:List (Str×qQ)):Bool:=names.all fun p=>!(p.2==NameKind.free)||(cells.lookup p.1).isSome
theorem uO {env:Env}:∀(names:List (Str×qQ)) (cs:List (Str×ao)),fM env.cells names=true →
 (forIn (m:=Sem) names cs fun x r=>match x with | (name,kind)=>if (kind==NameKind.free)=true then do let a ← cellOf env name;pure (ForInStep.yield ((name,a)::r)) else pure (ForInStep.yield r))=pure (dZ env.cells names cs)
 | [],cs,_=>rfl
 | (y,k)::r,cs,h=>by
   have h2:fM env.cells r=true:=by
    unfold fM at h ⊢
    rw [OZ,vF] at h
    exact h.2
   rw [List.forIn_cons]
   by_cases hk:k=.free
   ·subst hk
    have h1:(env.cells.lookup y).isSome=true:=by
     unfold fM at h
     rw [OZ,vF] at h
     simpa using h.1
    obtain ⟨c,hc⟩:=JR.mp h1
    have ih:=uO r ((y,c)::cs) h2
    have e:cellOf env y=pure c:=by unfold cellOf;rw [hc]
    show (((if (NameKind.free==NameKind.free)=true then do let a ← cellOf env y;pure (ForInStep.yield ((y,a)::cs)) else pure (ForInStep.yield cs)):Sem _) >>= _)=_
    rw [if_pos (by rfl),e,pure_bind,pure_bind]
    show forIn (m:=Sem) r ((y,c)::cs) _=_
    rw [ih]
    show _=pure (dZ env.cells r (if NameKind.free=.free then ((env.cells.lookup y).map fun c=>(y,c)).toList++cs else cs))
    rw [if_pos rfl,hc]
    rfl
   ·have ih:=uO r cs h2
    have hk':(k==NameKind.free)=false:=by simpa using hk
    show (((if (k==NameKind.free)=true then do let a ← cellOf env y;pure (ForInStep.yield ((y,a)::cs)) else pure (ForInStep.yield cs)):Sem _) >>= _)=_
    rw [hk',if_neg eO,pure_bind]
    show forIn (m:=Sem) r cs _=_
    rw [ih]
    show _=pure (dZ env.cells r (if k=.free then _ else cs))
    rw [if_neg hk]
theorem uP (h:fM env.cells scope.names=true):closureFor scope env=pure (dZ env.cells scope.names []):=by
 have e:=uO (env:=env) scope.names [] h
 show (forIn (m:=Sem) scope.names [] _ >>= fun cs=>pure cs)=_
 exact (congrArg (· >>= fun cs=>pure cs) e).trans (pure_bind _ _)
theorem D5:∀(names:List (Str×qQ)) (cs:List (Str×ao)) (p:Str×ao),p∈dZ cells names cs→p∈cs∨cells.lookup p.1=some p.2
 | [],_,_,h=>.inl h
 | (y,k)::r,cs,p,h=>by
   rcases D5 r _ p h with q | q
   ·by_cases hk:k=.free
    ·rw [if_pos hk] at q
     rcases dH.mp q with z | z
     ·cases e:cells.lookup y with
      | none=>rw [e] at z;simp at z
      | some c=>rw [e] at z;simp at z;subst z;exact .inr e
     ·exact .inl z
    ·rw [if_neg hk] at q
     exact .inl q
   ·exact .inr q
theorem D4:∀(names:List (Str×qQ)) (cs:List (Str×ao)) (y:Str) (c:ao),((y,NameKind.free)∈names∧cells.lookup y=some c)∨(y,c)∈cs→(y,c)∈dZ cells names cs
 | [],_,_,_,h=>h.elim (fun z=>by simp at z) id
 | (z,k)::r,cs,y,c,h=>by
   refine D4 r _ y c ?_
   rcases h with ⟨m,e⟩ | m
   ·rcases lg.mp m with q | q
    ·cases q
     right
     rw [if_pos rfl,e]
     simp
    ·exact .inl ⟨q,e⟩
   ·right
    by_cases hk:k=.free
    ·rw [if_pos hk];exact vD _ m
    ·rw [if_neg hk];exact m
theorem pA {α:Type}:∀{l:List (Str×α)} {x:Str} {v:α},l.lookup x=some v→(x,v)∈l
 | (y,u)::r,x,v,h=>by
   rw [EO] at h
   cases e:x==y with
   | true=>
     rw [e] at h
     cases h
     have:x=y:=by simpa using e
     subst this
     exact xB
   | false=>
     rw [e] at h
     exact vE _ (pA h)
theorem Ej {α:Type}:∀{l:List (Str×α)} {x:Str} {v:α},(x,v)∈l→∃u,l.lookup x=some u
 | (y,u)::r,x,v,h=>by
   rw [EO]
   cases e:x==y with
   | true=>exact ⟨_,rfl⟩
   | false=>
     rcases lg.mp h with q | q
     ·cases q;simp at e
     ·exact Ej q
theorem qf (h:(dZ cells names []).lookup y=some c):cells.lookup y=some c:=
 (D5 names [] (y,c) (pA h)).elim (fun z=>by simp at z) id
theorem uN (h:(y,NameKind.free)∈names) (e:cells.lookup y=some c):(dZ cells names []).lookup y=some c:=by
 obtain ⟨u,q⟩:=Ej (D4 names [] y c (.inl ⟨h,e⟩))
 rw [q]
 rw [qf q] at e
 exact e
def Dc (X:Cx) (scope:om):List Str→List Nat→Prop
 | [],[]=>True
 | y::ys,j::js=>(X.N[j]?=some y∧X.env.kindOf y=some .cell∧scope.names.lookup y=some .free∧(relabel scope X.env).names.lookup y=some .cell)∧Dc X scope ys js
 | _,_=>False
theorem xQ (h:fM cells names=true) (m:(y,NameKind.free)∈names):∃c,cells.lookup y=some c:=by
 unfold fM at h
 have q:=UY.mp h _ m
 exact JR.mp (by simpa using q)
theorem Dc.ok (h:fM X.env.cells scope.names=true):∀{ys:List Str} {js:List Nat},Dc X scope ys js→uu X scope (dZ X.env.cells scope.names []) ys js
 | [],[],_=>trivial
 | y::ys,j::js,⟨⟨a,b,c,d⟩,r⟩=>by
   have m:=pA c
   obtain ⟨e,he⟩:=xQ h m
   exact ⟨⟨a,b,d,by rw [uN m he,he]⟩,Dc.ok h r⟩
theorem zA (h:fM env.cells scope.names=true) (hcell:∀y∈scope.names,y.2≠.cell) (y:Str)
 (q:(relabel scope env).names.lookup y=some .cell∨(relabel scope env).names.lookup y=some .free):∃c,(dZ env.cells scope.names []).lookup y=some c:=by
 have m:(y,NameKind.free)∈scope.names:=by
  rcases q with q | q
  all_goals
   have m:=pA q
   unfold relabel at m
   obtain ⟨⟨n,k⟩,hm,e⟩:=eU.mp m
   dsimp only at e
   split at e
   ·rename_i hc
    rw [vF,vF] at hc
    have hk:k=.free:=by simpa using hc.1.1
    subst hk
    cases e
    first | exact hm | done
   ·cases e
    first | exact hm | exact absurd rfl (hcell _ hm)
 obtain ⟨c,hc⟩:=xQ h m
 exact ⟨c,uN m hc⟩
section
theorem S6 (hc:X.calm=true) (hi:PI X tg iter wi)
 (hg:∀(C:ao) (s0:aU) (H0:Hp) (ex':List ao) (gm:List (ao×Obj)),PG 0#p tg g)
 (FN:∀(C:ao) (s0:aU) (H0:Hp) (ex':List ao) (gm:List (ao×Obj)),Vv 0#p ifs tt)
 (helt:∀(C:ao) (s0:aU) (H0:Hp) (ex':List ao) (gm:List (ao×Obj)),PE 0#p elt te)
 (hO:O.length=n) (hcap:Dc X scope N' cap) (hf:fM X.env.cells scope.names=true) (hcell:∀y∈scope.names,y.2≠.cell) (hkind:scope.kind=.function) (hnames:∀y∈scope.names,y.2=.local→scope.names.lookup y.1=some .local)
 (hs:∀z,Ay iter X.env z=pure z:=by intro _;rfl) :
 PE X 0#i (sM wi n cap g tt te):=
 Gp hc hi hg FN helt hO (hcap.ok hf) (uP hf) hcell hkind hnames (fun _ _=>qf) (zA hf hcell) hs
theorem Te (hN:X.N.Nodup) (hix:X.N[i]?=some x) (hx:Loc X.env.scope x) (hc:X.calm=true) (hi:PI X tg iter wi)
 (hg:∀(C:ao) (s0:aU) (H0:Hp) (ex':List ao) (gm:List (ao×Obj)),PG 0#p tg g)
 (FN:∀(C:ao) (s0:aU) (H0:Hp) (ex':List ao) (gm:List (ao×Obj)),Vv 0#p ifs tt)
 (helt:∀(C:ao) (s0:aU) (H0:Hp) (ex':List ao) (gm:List (ao×Obj)),PE 0#p elt te)
 (hO:O.length=n) (hcap:Dc X scope N' cap) (hf:fM X.env.cells scope.names=true) (hcell:∀y∈scope.names,y.2≠.cell) (hkind:scope.kind=.function) (hnames:∀y∈scope.names,y.2=.local→scope.names.lookup y.1=some .local)
 (hsw:jI 0#i (some (.Name x pos')) spos.line X.env=pure true)
 (hs:∀z,Ay iter X.env z=pure z:=by intro _;rfl) (hfn:X.fn x=true∨X.env.scope.names.lookup x=some .local:=by first | exact .inl rfl | exact .inr rfl | assumption) :
 PS X (.Assign [.Name x pos'] 0#i spos) (Aq (sM wi n cap g tt te) (ia i)):=
 kF hN hix hx hc hi hg FN helt hO (hcap.ok hf) (uP hf) hcell hkind hnames (fun _ _=>qf) (zA hf hcell) hsw hs hfn
end
def rm (D:ao) (H:Hp):Hp:=fun b=>if b=D then none else H b
theorem mW (h:b≠D):rm D H b=H b:=if_neg h
theorem iZ:aq (rm D H) H:=fun b o e=>by
 unfold rm at e
 by_cases h:b=D
 ·rw [if_pos h] at e;cases e
 ·rw [if_neg h] at e;exact e
theorem wD (s:aq H H'):aq (rm D H) (rm D H'):=fun b o e=>by
 unfold rm at e ⊢
 by_cases h:b=D
 ·rw [if_pos h] at e;cases e
 ·rw [if_neg h] at e ⊢;exact s b o e
theorem GJ:rm D (upd H D o)=rm D H:=by
 funext b
 unfold rm
 by_cases h:b=D
 ·rw [if_pos h,if_pos h]
 ·rw [if_neg h,if_neg h,aI h]
theorem ja (hD:H D=some (.lst ys)) (h:H p=some 0#s):rm D H p=some 0#s:=by
 rw [mW (fun e=>by rw [e,hD] at h;cases h)];exact h
theorem Jy (D:ao) (H:Hp) (o:HO):aq (rm D H) (upd H D o):=fun b u e=>by
 unfold rm at e
 by_cases h:b=D
 ·rw [if_pos h] at e;cases e
 ·rw [if_neg h] at e;rw [aI h];exact e
theorem AG (h:n=m+1):QY n (-1)=some m:=by
 subst h
 unfold QY
 rw [if_neg 0#c,if_pos 0#c]
 congr 1
 simp?
theorem aa2 {n:Nat} (h0:0≤i) (h:i<(n:Int)):QY n i=some i.toNat:=by
 unfold QY
 rw [if_pos h0,if_pos h]
structure Tells (J:It) (ok:Hp→Prop) (xs:List V):Prop where
 go:∀i H,ok H→i<xs.length→J.go i H∧∀x H',J.Q6 i H x H'→H'=H∧xs[i]?=some x
 stop:∀H,ok H→J.stop xs.length H
theorem bL {K:bM}:Tells (Itl K a) (fun H=>aW K H a xs) xs:=
 ⟨fun i H h hi=>⟨⟨xs,xs[i],h,by simp [hi]⟩,fun x H' y=>⟨y.1,y.2 xs h⟩⟩,fun H h=>⟨xs,h,dm _⟩⟩
theorem tR {K:bM}:Tells (Itt K a) (fun H=>nI K H a xs) xs:=
 ⟨fun i H h hi=>⟨⟨xs,xs[i],h,by simp [hi]⟩,fun x H' y=>⟨y.1,y.2 xs h⟩⟩,fun H h=>⟨xs,h,dm _⟩⟩
def Q8 (n:Nat) (cap:List Nat) (g:TG) (tt:TT) (te:TE) (σ:L2.St) (Q:VK) (J:It) (H1:Hp):Prop:=∀D,H1 D=none→∃W:Nat→Nat→List V→Hp→Prop,(∃m,W 0 m [] (upd H1 D (.lst []))) ∧
 ∀i m xs H2,W i m xs H2→H2 D=some (.lst xs)∧((J.stop i H2∧Q (.ref D) H2)∨(J.go i H2∧xs.length<sizeLine∧∀x H3 ly,ly.length=n→J.Q6 i H2 x H3 →
  g x (ly++kO cap σ) H3 fun σ2 H4=>(∃σ1,σ1.length=n∧σ2=σ1++kO cap σ)∧tt σ2 H4 fun b H5=>if b=true then te σ2 H5 fun y H6=>H6 D=some (.lst xs)∧∃m',m'<m∧W (i+1) m' (xs++[y]) (upd H6 D (.lst (xs++[y])))
    else ∃m',m'<m∧W (i+1) m' xs H5))
section
theorem abH (h:wi σ H fun J H1=>Q8 n cap g tt te σ Q J H1):sM wi n cap g tt te σ H Q:=h
theorem GH (h:ta σ H fun vs H1=>∃j:Int,vs=[.int j]∧-(2 ^ 62)≤j∧j<2 ^ 62∧R (VI 0 j.toNat) H1):Sf ta σ H R:=h
theorem adT (h:B true H):ach σ H B:=h
theorem bY (T:Tells J ok xs) (hok:∀H2,aq H H2→ok H2) (hl:xs.length≤1000000) (P:Nat→List V→Hp→Prop) (h0:P 0 [] H)
 (step:∀(D:ao) (i:Nat) (x:V) (ys:List V) (H2:Hp) (ly:L2.St) (N:VK) (N0:Hp→Prop),ly.length=n→H D=none→H2 D=some (.lst ys)→aq H H2→xs[i]?=some x→ys.length≤i→P i ys (rm D H2) →
   (∀y H6,aq H2 H6→P (i+1) (ys++[y]) (rm D H6)→N y H6)→(∀H5,aq H2 H5→P (i+1) ys (rm D H5)→N0 H5) →
   g x (ly++kO cap σ) H2 fun σ2 H4=>(∃σ1,σ1.length=n∧σ2=σ1++kO cap σ)∧tt σ2 H4 fun b H5=>if b=true then te σ2 H5 N else N0 H5)
 (done:∀(D:ao) (ys:List V) (H2:Hp),H D=none→H2 D=some (.lst ys)→aq H H2→ys.length≤xs.length→P xs.length ys (rm D H2)→Q (.ref D) H2):Q8 n cap g tt te σ Q J H:=by
 intro D hD
 refine ⟨fun i m ys H2=>H2 D=some (.lst ys)∧aq H H2∧ys.length≤i∧i≤xs.length∧m=xs.length-i∧P i ys (rm D H2),⟨xs.length,av,bw (aq.refl _) hD,nH _,nH _,rfl,?_⟩,?_⟩
 ·rw [GJ]
  have e:rm D H=H:=by
   funext b
   by_cases h:b=D
   ·rw [h,hD];exact if_pos rfl
   ·exact mW h
  rw [e];exact h0
 ·rintro i m ys H2 ⟨e,s,hy,hi,rfl,p⟩
  refine ⟨e,?_⟩
  by_cases hlt:i<xs.length
  ·obtain ⟨go,Q6⟩:=T.go i H2 (hok H2 s) hlt
   refine .inr ⟨go,Ax (dI (dI hy hi) hl) 0#h,fun x H3 ly h0 y=>?_⟩
   obtain ⟨rfl,hx⟩:=Q6 x H3 y
   refine step D i x ys _ ly _ _ h0 hD e s hx hy p (fun y H6 s6 p6=>?_) fun H5 s5 p5=>?_
   ·refine ⟨s6 _ _ e,xs.length-(i+1),by simp?,av,bw (s.trans s6) hD,?_,by simp?,rfl,?_⟩
    ·rw [cJ,Uw];simp?
    ·rw [GJ];exact p6
   ·exact ⟨xs.length-(i+1),by simp?,s5 _ _ e,s.trans s5,by simp?,by simp?,rfl,p5⟩
  ·have ei:i=xs.length:=by simp?
   subst ei
   exact .inl ⟨T.stop H2 (hok H2 s),done D ys H2 hD e s hy p⟩
theorem dG {R:L2.St→Hp→Prop} (h0:ly.length=1) (h:R (some x::kO cap σ) H):ia 0 x (ly++kO cap σ) H fun σ2 H4=>(∃σ1,σ1.length=1∧σ2=σ1++kO cap σ)∧R σ2 H4:=by
 match ly,h0 with
 | [v],_=>exact ⟨⟨[some x],rfl,rfl⟩,h⟩
theorem BW {K:bM} {R:L2.St→Hp→Prop} (h0:ly.length=2) (hp:H p=some (.tup [x,y])) (h:R (some x::some y::kO cap σ) H) :
 Pr K 2 (qH (ia 0) (qH (ia 1) Pq)) (.ref p) (ly++kO cap σ) H fun σ2 H4=>(∃σ1,σ1.length=2∧σ2=σ1++kO cap σ)∧R σ2 H4:=by
 match ly,h0 with
 | [v,u],_=>exact ⟨p,_,rfl,nI.of hp,rfl,x,_,rfl,y,_,rfl,rfl,⟨[some x,some y],rfl,rfl⟩,h⟩
end
end My
namespace Jd
open PySem PySem.Spec PyProof.Rows L2 My
structure QTs (X:Cx) (ifs:List bf) (t:TT):Prop where
 h:Vv X ifs t
section
theorem GC {X:Cx}:QTs X [] ach:=⟨My.GC⟩
theorem kG (h:QT X c tt):QTs X [c] tt:=⟨My.kG h.h⟩
theorem Gp {X:Cx} {elt iter tg:bf} {ifs:List bf} {pos:Pos} {scope:om} {wi:TI} {te:TE} {tt:TT} {g:TG} {O N':List Str} {cap:List Nat} {n:Nat} (hc:X.calm=true) (hi:QI X tg iter wi)
 (hg:∀(C:ao) (s0:aU) (H0:Hp) (ex':List ao) (gm:List (ao×Obj)),QG 0#p tg g)
 (FN:∀(C:ao) (s0:aU) (H0:Hp) (ex':List ao) (gm:List (ao×Obj)),QTs 0#p ifs tt)
 (helt:∀(C:ao) (s0:aU) (H0:Hp) (ex':List ao) (gm:List (ao×Obj)),QE 0#p elt te)
 (hO:O.length=n) (hcap:Dc X scope N' cap) (hf:fM X.env.cells scope.names=true) (hcell:∀y∈scope.names,y.2≠.cell) (hkind:scope.kind=.function) (hnames:∀y∈scope.names,y.2=.local→scope.names.lookup y.1=some .local)
 (hs:∀z,Ay iter X.env z=pure z:=by intro _;rfl) :
 QE X 0#i (sM wi n cap g tt te):=
 ⟨My.S6 hc hi.h (fun C s0 H0 ex' gm=>(hg C s0 H0 ex' gm).h) (fun C s0 H0 ex' gm=>(FN C s0 H0 ex' gm).h) (fun C s0 H0 ex' gm=>(helt C s0 H0 ex' gm).h) hO hcap hf hcell hkind hnames hs⟩
theorem kF (hN:X.N.Nodup) (hix:X.N[i]?=some x) (hx:Loc X.env.scope x) (hc:X.calm=true) (hi:QI X tg iter wi)
 (hg:∀(C:ao) (s0:aU) (H0:Hp) (ex':List ao) (gm:List (ao×Obj)),QG 0#p tg g)
 (FN:∀(C:ao) (s0:aU) (H0:Hp) (ex':List ao) (gm:List (ao×Obj)),QTs 0#p ifs tt)
 (helt:∀(C:ao) (s0:aU) (H0:Hp) (ex':List ao) (gm:List (ao×Obj)),QE 0#p elt te)
 (hO:O.length=n) (hcap:Dc X scope N' cap) (hf:fM X.env.cells scope.names=true) (hcell:∀y∈scope.names,y.2≠.cell) (hkind:scope.kind=.function) (hnames:∀y∈scope.names,y.2=.local→scope.names.lookup y.1=some .local)
 (hsw:jI 0#i (some (.Name x pos')) spos.line X.env=pure true)
 (hs:∀z,Ay iter X.env z=pure z:=by intro _;rfl) (hfn:X.fn x=true∨X.env.scope.names.lookup x=some .local:=by first | exact .inl rfl | exact .inr rfl | assumption) :
 QS X (.Assign [.Name x pos'] 0#i spos) (Aq (sM wi n cap g tt te) (ia i)):=
 ⟨My.Te hN hix hx hc hi.h (fun C s0 H0 ex' gm=>(hg C s0 H0 ex' gm).h) (fun C s0 H0 ex' gm=>(FN C s0 H0 ex' gm).h) (fun C s0 H0 ex' gm=>(helt C s0 H0 ex' gm).h) hO hcap hf hcell hkind hnames hsw hs hfn⟩
end
end Jd
namespace My
open PySem PySem.Spec PyProof.Rows L2 Mth
def NV (K:bM) (C fI:ao):Bool:=match K.lookup C with
 | some ⟨.type "type",_,.cls cd,sl⟩=>(match cd.mro,sl.toList with
   | .ref C'::bm,[_,_,_,_,some (.builtin n),_]=>C'==C&&n == "ValueError.__new__"&&!cd.hasDel&&cd.hasDict&&PySem.W.tailIn K [.type "ValueError",.type "Exception",.type "BaseException",.type "object"] bm&&PySem.W.nsOkIn K cd.ns&&iW K cd.ns "__init__"==some (some (.ref fI))
   | _,_=>false)
 | _=>false
end My
namespace Jd
open PySem PySem.Spec PyProof.Rows L2 My
section
theorem adn (hg:Gl X x) (hm:X.mg x=some (.ref C)) (hd:0#w=false:=by decide):QE X (.Name x pos) (tC (.ref C)):=⟨L2.NX hg hm (show RelV (.ref C) (.ref C) from rfl) hd⟩
end
end Jd
namespace My
open PySem PySem.Spec PyProof.Rows L2 Mth
theorem pO:∀{us:List aH} {ns:List Int},C0 us ns→Vals (ns.map V.int) us
 | _,_,.nil=>.nil
 | _,_,.cons n t r=>.cons ⟨t,rfl⟩ (pO r)
def N6 (K:bM):List V→Hp→VK→Prop:=fun xs H Q=>∃(l:ao) (ns:List Int),xs=[.ref l]∧aW K H l (ns.map V.int)∧ns.length<64 ∧
 ∀(p:ao) (ns':List Int),H p=none→ns'.Perm ns→ns'.Pairwise (·≤·)→Q (.ref p) (upd H p (.lst (ns'.map V.int)))
theorem Og (K:bM) (hK:X.K=K:=by rfl):iO X (.builtin "sorted") (N6 K):=by
 subst hK
 intro pins s σ H xs us Q I r h
 obtain ⟨l,ns,rfl,hq,h64,q⟩:=h
 obtain ⟨u,rfl,rx⟩:=vals1 r
 cases rx
 obtain ⟨its,rv,p,hz⟩:=I.list hq
 have hl:=rv.length
 rw [eV] at hl
 refine sorted_ints p.isList (intsAre_of rv) 0#c fun out ns' a1 a2 a3=>?_
 obtain ⟨e,he⟩:=sortedAll_at s.heap its out
 have hn:H (s.heap.objs.size+1)=none:=I.hok.fresh (sQ _)
 refine ⟨.ref (s.heap.objs.size+1),_,I.laid (t':=s.toks) (o:=.lst (ns'.map V.int)) (fun b o z=>sortedAll_old z) (sQ _) ?_,rfl,q _ ns' hn a2 a3⟩
 refine ⟨?_,out.toList,e,pO a1,?_⟩
 ·rw [eV,a2.length_eq]
  exact ur (aO 0#c)
 ·rw [he]
theorem Ju {K:bM} (h:aW K H l (ns.map V.int)) (h64:ns.length<64) (q:∀(p:ao) (ns':List Int) (H':Hp),aq H H'→H p=none→H' p=some (.lst (ns'.map V.int))→ns'.Perm ns→ns'.Pairwise (·≤·)→Q (.ref p) H'):N6 K [.ref l] H Q:=
 ⟨l,ns,rfl,h,h64,fun p ns' hp h1 h2=>q p ns' _ (bw (aq.refl _) hp) hp av h1 h2⟩
section
theorem Xf (h:ta σ H fun x H1=>tb σ H1 fun y H2=>r x y H2 fun z H3=>∃k,z=.bl k∧(if k=true then tc σ H3 fun w' H4=>r' y w' H4 Q else Q (.bl false) H3)):M1 r r' ta tb tc σ H Q:=h
theorem Ms (h:ta σ H fun vs H1=>∃i j:Int,vs=[.int i,.int j]∧(-(2 ^ 62)≤i∧i<2 ^ 62∧-(2 ^ 62)≤j∧j<2 ^ 62)∧R (VI i (j-i).toNat) H1):Sg ta σ H R:=h
end
end My
namespace Jd
open PySem PySem.Spec PyProof.Rows L2 My
theorem pK (hg:Gl X "range") (hm:X.mg "range"=none) (ha:QA X [a,b] t) (hs:aY [a,b] X.env=[(false,eval a X.env),(false,eval b X.env)]:=by rfl) (hs2:aY [b] X.env=[(false,eval b X.env)]:=by rfl) :
 QI X tg (.Call (.Name "range" p) [a,b] [] pos) (Sg t):=⟨L2.pK hg hm ha.h hs hs2⟩
end Jd
namespace My
open PySem PySem.Spec PyProof.Rows L2 Mth
theorem rF {σ:L2.St} {T:ao} (ch:List ao) (I:L2.Inv X pins σ H s) (k:∀b u,b∉ch→s.heap.get? b=some u→h'.get? b=some u)
 (hf:∀b∈ch,vI X pins H b) (hT:s.heap.objs.size≤T) (new:dJ X.prog X.w (upd H T o) h' T o):L2.Inv X pins σ (upd H T o) { s with heap:=h',toks:=t' }:=by
 have hn:H T=none:=I.hok.fresh hT
 have out:∀b u,H b=some u→b∉ch:=fun b u e z=>by rw [(hf b z).1] at e;cases e
 have old:∀b u,H b=some u→upd H T o b=some u:=fun b u e=>by rw [aI (bA e hn)];exact e
 refine I.step (g':=s.gens) (d':=s.drawn) (ch:=ch) (fun b hb=>?_) (fun b u _ _ hc e _=>k b u hc e) (fun b u _ _ hc e _=>⟨u.slots,k b u hc e⟩) (fun b u hc e z=>?_) (fun b u hc e=>⟨u,k b u hc e⟩)
  (fun b xs e=>old b _ e) (fun b u v e=>old b _ e) (fun b ps e=>⟨#[],by rw [old b _ e];simp⟩) (fun m hm=>?_) (fun b u e=>?_) I.bare
 ·obtain ⟨_,f1,_,f3,f4,f5⟩:=hf b hb
  exact ⟨f3,f1,f4,f5⟩
 ·have hb:b≠T:=jP (pS (dY e) hT)
  rw [aI hb]
  exact z
 ·obtain ⟨u,es,ep,hu,r⟩:=hm
  exact ⟨u,es,ep,k _ u (fun z=>(hf _ z).2.1 rfl) hu,r⟩
 ·by_cases hb:b=T
  ·subst hb
   rw [av] at e
   cases e
   exact new
  ·rw [aI hb] at e
   exact dJ.stay (I.hok b u e) (fun c v hc q=>k c v (hc.elim (fun z=>z▸out b u e) fun z=>out c _ z) q) (fun c q=>old c _ q) fun c xs q=>old c _ q
def Ite (K:bM) (a:ao):It:=
 ⟨fun i H=>∃xs x,aW K H a xs∧xs[i]?=some x,fun i H v H'=>∃(p:ao) (x:V),H p=none∧v=.ref p∧H'=upd H p (.tup [.int (i:Int),x])∧∀xs,aW K H a xs→xs[i]?=some x,fun i H=>∃xs,aW K H a xs∧xs.length≤i⟩
theorem QD {K:bM} (a e it:ao) (hei:e≠it) :
 Turn P w K (.Tuple elts kt tpos) (Ite K a) [e,it] e (fun i h=>(∃old,IsEnum h e it (i:Int) old)∧h.IsListIter it a i) where
 mem:=by simp
 obj:=fun i h st b hb=>by
  obtain ⟨⟨old,he⟩,o,eo,c,d⟩:=st
  rcases (show b=e∨b=it by simpa using hb) with rfl | rfl
  ·exact ⟨_,he,fun v z=>by cases z⟩
  ·exact ⟨o,eo,fun v z=>by rw [d] at z;cases z⟩
 keep:=fun i h h' st k=>⟨let ⟨old,he⟩:=st.1;⟨old,k e 0#f _ he⟩,st.2.at fun o q=>k it 0#f o q⟩
 item:=by
  intro X hP hw hK hc i pins s σ H E I hf st hg
  subst hP hw hK
  obtain ⟨⟨old,he⟩,hit⟩:=st
  obtain ⟨xs,x,hq,hx⟩:=hg
  obtain ⟨its,rv,p,hz⟩:=I.list hq
  obtain ⟨u,hu,ru⟩:=rv.get hx
  refine wpAny_pyNext_enum_item he hit p.isList (x:=u) (by simpa using hu) hei fun h1 ho afo hT hsz hk=>?_
  refine ⟨_,rfl,wpAny_letOwnedTupleGo_enum (s:={ s with heap:=h1,toks:=s.toks+1 }) ho fun h2 he2 hs2=>?_⟩
  have aaX:zP e h1 h2:=hs2
  have ke:∀b o,b∉[e,it]→s.heap.get? b=some o→h2.get? b=some o:=fun b o hb q=>by
   have hb1:b≠e:=fun z=>hb (by simp [z])
   have hb2:b≠it:=fun z=>hb (by simp [z])
   exact (aaX.2 b hb1).trans (hk b o hb1 hb2 q)
  have elt:e<s.heap.objs.size:=dY he
  have hT2:h2.get? s.heap.objs.size=some { cls:=.type "tuple",data:=.seq #[.int i s.toks,u] }:=(aaX.2 _ (O0 elt)).trans hT
  have hn:H s.heap.objs.size=none:=I.hok.fresh (dm _)
  have I2:L2.Inv X pins σ (upd H s.heap.objs.size (.tup [.int (i:Int),x])) { s with heap:=h2,toks:=s.toks+1 }:=by
   refine rF [e,it] I ke hf (dm _) ?_
   exact ⟨by show 2≤sizeLine;decide,[.int (i:Int) s.toks,u],.cons ⟨_,rfl⟩ (.cons ru .nil),_,hT2,rfl,_,rfl⟩
  refine ⟨.ref s.heap.objs.size,upd H s.heap.objs.size (.tup [.int (i:Int),x]),I2,rfl,⟨s.heap.objs.size,x,hn,rfl,rfl,fun ys hy=>by rw [I.vS hy hq];exact hx⟩,⟨⟨u,?_⟩,afo.at fun o q=>(aaX.2 it (eG hei)).trans q⟩,fun b hb=>?_⟩
  ·have:=he2
   simpa using this
  ·have hb1:=(hf b hb).1
   have ilt:it<s.heap.objs.size:=by
    obtain ⟨o,eo,_⟩:=hit
    exact dY eo
   have hb2:b≠s.heap.objs.size:=by
    rcases (show b=e∨b=it by simpa using hb) with rfl | rfl
    ·exact jP elt
    ·exact jP ilt
   rw [aI hb2]
   exact hb1
 done:=by
  intro X hP hw hK hc i pins s σ H E I hf st hg
  subst hP hw hK
  obtain ⟨⟨old,he⟩,hit⟩:=st
  obtain ⟨xs,hq,hx⟩:=hg
  obtain ⟨its,rv,p,hz⟩:=I.list hq
  have hl:=rv.length
  obtain ⟨f0,f1,f2,f3,f4,f5⟩:=hf it 0#f
  exact wpAny_pyNext_enum_end (I.ok.hd hc) he hit p.isList (by simp;simp?) fun h' eb=>⟨rfl,I.turned (t':=s.toks) (fun b o hb q=>eb b o hb q) f0 f1 f3 f4 f5⟩
 self:=fun _ _ _ _ _ st h=>let ⟨_,he⟩:=st.1;Zc he h
def Se (K:bM) (ta:TA):TI:=fun σ H R=>ta σ H fun vs H1=>∃a xs,vs=[.ref a]∧aW K H1 a xs∧R (Ite K a) H1
section
theorem Gs (K:bM) (hg:Gl X "enumerate") (hm:X.mg "enumerate"=none) (ha:PA X [a] ta) (hs:aY [a] X.env=[(false,eval a X.env)]:=by rfl) (hK:X.K=K:=by rfl) :
 PI X (.Tuple elts kt tpos) (.Call (.Name "enumerate" p) [a] [] pos) (Se K ta):=by
 subst hK
 intro pins s σ H R I h
 refine Call_ (uW I hg hm boot_enumerate (JP (fF (ha pos pins s σ H _ I h) fun us s1 ⟨vs,H1,I1,r1,q1⟩=>?_) hs rfl))
 obtain ⟨l,xs,e,hq,q⟩:=q1
 subst e
 cases r1 with
 | cons r rr=>
   cases rr
   cases r
   obtain ⟨its,rv,pl,hz⟩:=I1.list hq
   refine call_enumerate_list pl.isList fun h' he hit hsz hk=>?_
   have I2:L2.Inv X pins σ H1 { s1 with heap:=h' }:=I1.kept (t':=s1.toks) hk
   refine Zc (s:={ s1 with heap:=h' }) he ?_
   refine ⟨s1.heap.objs.size+1,[s1.heap.objs.size+1,s1.heap.objs.size],_,_,H1,rfl,I2,QD l (s1.heap.objs.size+1) s1.heap.objs.size (Nat.succ_ne_self _),⟨⟨_,he⟩,hit⟩,fun b hb=>?_,q⟩
   rcases (show b=s1.heap.objs.size+1∨b=s1.heap.objs.size by simpa using hb) with rfl | rfl
   ·exact I1.Il (sQ _) (I1.hok.fresh (sQ _))
   ·exact I1.Il (dm _) (I1.hok.fresh (dm _))
theorem abM {K:bM} (h:ta σ H fun vs H1=>∃a xs,vs=[.ref a]∧aW K H1 a xs∧R (Ite K a) H1):Se K ta σ H R:=h
theorem RG {σ:L2.St} {H:Hp} {K:bM} {a:ao} {g:TG} {tb:TS} {D:Ends} (Pv:Nat→L2.St→Hp→Prop) (h0:Pv 0 σ H) (hl:∀i σ H,i≤xs.length→Pv i σ H→aW K H a xs)
 (hs:∀(i:Nat) (x:V) (σ:L2.St) (H:Hp) (p:ao) (H':Hp),xs[i]?=some x→Pv i σ H→aq H H'→H p=none→H' p=some (.tup [.int (i:Int),x])→g (.ref p) σ H' fun σ2 H2=>tb { D with nx:=Pv (i+1),ct:=Pv (i+1),bk:=D.nx } σ2 H2)
 (hd:∀σ H,Pv xs.length σ H→D.nx σ H) :
 ∃W:Nat→Nat→L2.St→Hp→Prop,(∃m,W 0 m σ H)∧∀i m σ H,W i m σ H →
  ((Ite K a).stop i H∧D.nx σ H)∨((Ite K a).go i H∧∃N:L2.St→Hp→Prop,(∀σ' H',N σ' H'→∃m',m'<m∧W (i+1) m' σ' H')∧∀x H',(Ite K a).Q6 i H x H'→g x σ H' fun σ2 H2=>tb { D with nx:=N,ct:=N,bk:=D.nx } σ2 H2):=by
 refine ⟨fun i m σ H=>m=xs.length-i∧i≤xs.length∧Pv i σ H,⟨xs.length,rfl,nH _,h0⟩,?_⟩
 rintro i m σ H ⟨rfl,hi,p⟩
 have q:=hl i σ H hi p
 rcases O1 i xs.length with hlt | hge
 ·refine .inr ⟨⟨xs,xs[i],q,je hlt⟩,Pv (i+1),fun σ' H' p'=>⟨xs.length-(i+1),by simp?,rfl,hlt,p'⟩,fun x H' y=>?_⟩
  obtain ⟨pt,y',hn,rfl,rfl,hy⟩:=y
  exact hs i y' σ H pt _ (hy xs q) p (fW hn _) hn av
 ·have ei:i=xs.length:=by simp?
  subst ei
  exact .inl ⟨⟨xs,q,dm _⟩,hd σ H p⟩
theorem ac4 (K:bM) (h:X.K=K:=by rfl):oW X (kr .In) (rIn K false):=h▸Qn
theorem NT:oW X (kr .IsNot) (fun x y H Q=>∃a b,x=.bl a∧y=.bl b∧Q (.bl (a != b)) H):=by
 intro pins s σ H x y v u Q I rx ry h
 obtain ⟨a,b,rfl,rfl,q⟩:=h
 cases rx
 cases ry
 exact isnot_bool ⟨.bl (a != b),H,I,rfl,q⟩
theorem SG (K:bM) (h:X.K=K:=by rfl):oW X (kr .NotIn) (rIn K true):=h▸Gm
end
end My
namespace Jd
open PySem PySem.Spec PyProof.Rows L2 My
theorem Gs (K:bM)  (hg:Gl X "enumerate") (hm:X.mg "enumerate"=none) (ha:QA X [a] ta) (hs:aY [a] X.env=[(false,eval a X.env)]:=by rfl) (hK:X.K=K:=by rfl) :
 QI X (.Tuple elts kt tpos) (.Call (.Name "enumerate" p) [a] [] pos) (Se K ta):=⟨My.Gs K hg hm ha.h hs hK⟩
end Jd
namespace My
open PySem PySem.Spec PyProof.Rows L2 Mth
def vJ (K:bM) (C:ao):List Str→Prop
 | []=>True
 | f::fs=>oB K C f∧vJ K C fs
theorem vJ.of {K:bM}:∀{fs:List Str},vJ K C fs→f∈fs→oB K C f
 | g::fs,h,hm=>by
   rcases lg.mp hm with z | z
   ·rw [z];exact h.1
   ·exact vJ.of h.2 z
structure Cl (K:bM) (mg:Str→Option aH) (x:Str) (C:ao) (fs:List Str):Prop where
 cl:Ku K C
 at_:mg x=some (.ref C)
 no:vJ K C fs
structure Dm (P:gX) (w:di) (K:bM) (mg:Str→Option aH) (base:b8) (k:Nat) (C:ao) (m:Str) (ps:List Str) (sp:Sp):Prop where
 ex:∃(f:ao) (fd:iS),bg P w K mg base cM k f fd ps sp∧Meth K C m f∧Binds K fd ps []
structure Dk (P:gX) (w:di) (K:bM) (mg:Str→Option aH) (base:b8) (k:Nat) (x:Str) (C:ao) (ps:List Str) (sp:Sp):Prop where
 ex:∃(f:ao) (fd:iS),bg P w K mg base cM k f fd ps sp∧Mk K C f∧Binds K fd ps []∧mg x=some (.ref C)
def adx (K:bM) (f:Str):V→Hp→VK→Prop:=fun x H Q=>∃a C dx fs v,x=.ref a∧H a=some (.ins C dx fs)∧Ku K C∧oB K C f∧fs.lookup f=some v∧Q v H
def Yg (K:bM) (f:Str) (y:V) (N:Hp→Prop):V→Hp→Prop:=fun x H=>∃a C dx fs,x=.ref a∧H a=some (.ins C dx fs)∧Ku K C∧oB K C f∧fs.length<1000∧N (upd H a (.ins C dx (aA f y fs)))
def Yi (C:ao) (m:Str) (sp:Sp) (σ:L2.St) (t:TA):V→Hp→VK→Prop:=fun x H1 Q=>∃a dx fs,x=.ref a∧H1 a=some (.ins C dx fs)∧fs.lookup m=none∧t σ H1 fun vs H2=>sp (x::(vs++[])) H2 Q E0
section
theorem adD {K:bM} (h:to σ H fun x H1=>adx K f x H1 Q):ab6 K to f σ H Q:=h
theorem abV {K:bM} (h:tv σ H fun y H1=>to σ H1 fun x H2=>Yg K f y (fun H3=>D.nx σ H3) x H2):abZ K to tv f D σ H:=h
theorem abQ (h:to σ H fun x H1=>Yi C m sp σ t x H1 Q):JI C m sp [] E0 to t σ H Q:=h
theorem abO (h:t σ H fun vs H1=>∀x dx,H1 x=none→H1 dx=none→dx≠x→sp (.ref x::(vs++[])) (upd (upd H1 dx (.own x)) x (.ins C dx [])) (fun v H2=>v=.bC∧Q (.ref x) H2) E0):Uc C sp [] E0 t σ H Q:=h
theorem jM {K:bM} (k:Cl K mg x C fn) (ha:H a=some (.ins C dx fs)) (hl:fs.lookup f=some v) (q:Q v H) (hf:f∈fn:=by decide):adx K f (.ref a) H Q:=⟨a,C,dx,fs,v,rfl,ha,k.cl,k.no.of hf,hl,q⟩
theorem zo {K:bM} (k:Cl K mg x C fn) (ha:H a=some (.ins C dx fs)) (hn:fs.length<1000) (q:N (upd H a (.ins C dx (aA f y fs)))) (hf:f∈fn:=by decide):Yg K f y N (.ref a) H:=⟨a,C,dx,fs,rfl,ha,k.cl,k.no.of hf,hn,q⟩
theorem Q0 (ha:H a=some (.ins C dx fs)) (hm:fs.lookup m=none) (q:t σ H fun vs H2=>sp (.ref a::(vs++[])) H2 Q E0):Yi C m sp σ t (.ref a) H Q:=⟨a,dx,fs,rfl,ha,hm,q⟩
end
end My
namespace Jd
open PySem PySem.Spec PyProof.Rows L2 My
section
theorem Ma {X:Cx} {f:Str} {pos:Pos} {e:bf} {to:TE} (K:bM) (he:QE X e to) (hb:pP e f X.env (eval e X.env)=eval e X.env:=by rfl) (hK:X.K=K:=by rfl):QE X (.Attribute e f pos) (ab6 K to f):=⟨hK▸L2.Ma he.h hb⟩
theorem Mm {X:Cx} {f:Str} {pos:Pos} {o value:bf} {to tv:TE} (K:bM) {pos':Pos} (ha:QE X o to) (hv:QE X value tv) (hs:jI value (some (.Attribute o f pos')) pos.line X.env=pure false:=by rfl) (hK:X.K=K:=by rfl):QS X (.Assign [.Attribute o f pos'] value pos) (abZ K to tv f):=⟨hK▸L2.Mm ha.h hv.h hs⟩
theorem S8 (D:Dk X.prog X.w X.K X.mg X.base k x C ps sp) (hr:gT (k+1) X.A) (hg:Gl X x) (ha:QA X (e::es) t) (hdb:0#w=false:=by decide)
 (he:aY (e::es) X.env=(false,eval e X.env)::aY es X.env:=by rfl) (hpl:(gC pos (aY es X.env)).any (·.1)=false:=by rfl):QE X (.Call (.Name x p) (e::es) [] pos) (Uc C sp [] E0 t):=by
 obtain ⟨fa,fd,ok,hk,hb,hm⟩:=D.ex
 exact ⟨W7 hk ok hr hg hm hb .nil El ha.h hdb he hpl⟩
theorem wk {X:Cx} {k:Nat} {m:Str} {ps:List Str} {sp:Sp} {pos apos:Pos} {o e:bf} {es:List bf} {to:TE} {t:TA} {C:ao} (D:Dm X.prog X.w X.K X.mg X.base k C m ps sp) (c:Ku X.K C) (hr:gT k X.A) (ho:QE X o to) (ha:QA X (e::es) t) {pl:Sem Bool}
 (he:aY (e::es) X.env=(false,eval e X.env)::aY es X.env:=by rfl) (hpl:(gC pos (aY es X.env)).any (·.1)=false:=by rfl)
 (ht:eval (.Call (.Attribute o m apos) (e::es) [] pos) X.env=(do
   let ov ← eval o X.env
   xx apos.atName
   let (g,first) ← holding [ov] (getMethod ov m pl)
   callWith pos g first (gC pos (aY (e::es) X.env)) (jJ pos (qG [] X.env))):=by rfl):QE X (.Call (.Attribute o m apos) (e::es) [] pos) (JI C m sp [] E0 to t):=by
 obtain ⟨fa,fd,ok,hm,hb⟩:=D.ex
 exact ⟨W8 ho.h c hm ok hr hb .nil El ha.h he hpl ht⟩
theorem L8 {X:Cx} {k:Nat} {m:Str} {ps:List Str} {sp:Sp} {pos apos:Pos} {o:bf} {to:TE} {C:ao} (D:Dm X.prog X.w X.K X.mg X.base k C m ps sp) (c:Ku X.K C) (hr:gT k X.A) (ho:QE X o to) {pl:Sem Bool}
 (ht:eval (.Call (.Attribute o m apos) [] [] pos) X.env=(do
   let ov ← eval o X.env
   xx apos.atName
   let (g,first) ← holding [ov] (getMethod ov m pl)
   callWith pos g first (gC pos (aY [] X.env)) (jJ pos (qG [] X.env))):=by rfl):QE X (.Call (.Attribute o m apos) [] [] pos) (JI C m sp [] E0 to nA):=by
 obtain ⟨fa,fd,ok,hm,hb⟩:=D.ex
 exact ⟨S9 ho.h c hm ok hr hb .nil El ht⟩
end
end Jd
namespace My
open PySem PySem.Spec PyProof.Rows L2 Mth
theorem KU (K:bM)  (ho:PE X o to) (he:PE X e te) (h:X.K=K:=by rfl)
 (hbase:pP o "extend" X.env (eval o X.env)=eval o X.env:=by rfl)
 (hfew:((gC cpos (aY (e::[]) X.env)).all (fun x=>!x.1)&&(jJ cpos (qG [] X.env)).all (fun x=>x.1.isSome)
   && decide 0#B)=true:=by rfl)
 (hline:(apos.endLine==cpos.line)=true:=by rfl) (hs:aY (e::[]) X.env=(false,eval e X.env)::aY [] X.env:=by rfl) (hplain:(gC cpos (aY [] X.env)).any (·.1)=false:=by rfl) :
 PE X (.Call (.Attribute o "extend" apos) [e] [] cpos) (XA K "list" AQ to (dN te nA)):=
 h▸S5 Us PySem.F.slot_list_extend PySem.F.type_list_extend Qd ho (kE he u5 hs) hbase hfew hline hs hplain
theorem Js (h:H p=some (.lst xs)) (hb:H b=some (.lst zs)) (hl:xs.length+zs.length≤sizeLine) (q:Q .bC (upd H p (.lst (xs++zs)))):AQ (.ref p) [.ref b] H Q:=⟨p,b,xs,zs,rfl,rfl,h,hb,hl,q⟩
end My
namespace Jd
open PySem PySem.Spec PyProof.Rows L2 Mth
theorem KU (K:bM)  (ho:QE X o to) (he:QE X e te) (h:X.K=K:=by rfl)
 (hbase:pP o "extend" X.env (eval o X.env)=eval o X.env:=by rfl)
 (hfew:((gC cpos (aY (e::[]) X.env)).all (fun x=>!x.1)&&(jJ cpos (qG [] X.env)).all (fun x=>x.1.isSome)
   && decide 0#B)=true:=by rfl)
 (hline:(apos.endLine==cpos.line)=true:=by rfl) (hs:aY (e::[]) X.env=(false,eval e X.env)::aY [] X.env:=by rfl) (hplain:(gC cpos (aY [] X.env)).any (·.1)=false:=by rfl) :
 QE X (.Call (.Attribute o "extend" apos) [e] [] cpos) (XA K "list" AQ to (dN te nA)):=⟨My.KU K ho.h he.h h hbase hfew hline hs hplain⟩
end Jd
namespace L2
open PySem PySem.Spec PyProof.Rows
theorem nJ {α:Type}:∀{us:List α},us.length=n+1→∃(a:α) (as:List α),us=a::as∧as.length=n
 | [],h=>nomatch h
 | a::as,h=>⟨a,as,rfl,Nat.succ.inj h⟩
theorem len0 {α:Type}:∀{us:List α},us.length=0→us=[]
 | [],_=>rfl
 | _::_,h=>nomatch h
theorem cH.Rj {K:bM} {st:aQ} (F:cH K x qual st f fd) (h:∀(kV doc pm:aH) (an:Option ao) (cdv ct ua:aH),sU 0#y ⟨[ua],[]⟩=pure [(pa,ua)]):Binds K fd [pa] []:=
 F.binds fun kV doc pm an cdv ct us hl=>by
  obtain ⟨ua,us0,rfl,RY⟩:=nJ (n:=0) hl
  obtain rfl:=len0 RY
  exact h kV doc pm an cdv ct ua
theorem cH.Fc {K:bM} {st:aQ} (F:cH K x qual st f fd) (h:∀(kV doc pm:aH) (an:Option ao) (cdv ct ua ub:aH),sU 0#y ⟨[ua,ub],[]⟩=pure [(pa,ua),(pb,ub)]):Binds K fd [pa,pb] []:=
 F.binds fun kV doc pm an cdv ct us hl=>by
  obtain ⟨ua,us1,rfl,hl1⟩:=nJ (n:=1) hl
  obtain ⟨ub,us0,rfl,RY⟩:=nJ (n:=0) hl1
  obtain rfl:=len0 RY
  exact h kV doc pm an cdv ct ua ub
theorem cH.Rk {K:bM} {st:aQ} (F:cH K x qual st f fd) (h:∀(kV doc pm:aH) (an:Option ao) (cdv ct ua ub uc:aH),sU 0#y ⟨[ua,ub,uc],[]⟩=pure [(pa,ua),(pb,ub),(pc,uc)]):Binds K fd [pa,pb,pc] []:=
 F.binds fun kV doc pm an cdv ct us hl=>by
  obtain ⟨ua,us2,rfl,hl2⟩:=nJ (n:=2) hl
  obtain ⟨ub,us1,rfl,hl1⟩:=nJ (n:=1) hl2
  obtain ⟨uc,us0,rfl,RY⟩:=nJ (n:=0) hl1
  obtain rfl:=len0 RY
  exact h kV doc pm an cdv ct ua ub uc
theorem cH.Rl {K:bM} {st:aQ} (F:cH K x qual st f fd) (h:∀(kV doc pm:aH) (an:Option ao) (cdv ct ua ub uc ud:aH),sU 0#y ⟨[ua,ub,uc,ud],[]⟩=pure [(pa,ua),(pb,ub),(pc,uc),(pd,ud)]):Binds K fd [pa,pb,pc,pd] []:=
 F.binds fun kV doc pm an cdv ct us hl=>by
  obtain ⟨ua,us3,rfl,hl3⟩:=nJ (n:=3) hl
  obtain ⟨ub,us2,rfl,hl2⟩:=nJ (n:=2) hl3
  obtain ⟨uc,us1,rfl,hl1⟩:=nJ (n:=1) hl2
  obtain ⟨ud,us0,rfl,RY⟩:=nJ (n:=0) hl1
  obtain rfl:=len0 RY
  exact h kV doc pm an cdv ct ua ub uc ud
theorem cH.aap {K:bM} {st:aQ} (F:cH K x qual st f fd) (h:∀(kV doc pm:aH) (an:Option ao) (cdv ct ua ub uc ud ue:aH),sU 0#y ⟨[ua,ub,uc,ud,ue],[]⟩=pure [(pa,ua),(pb,ub),(pc,uc),(pd,ud),(pe,ue)]):Binds K fd [pa,pb,pc,pd,pe] []:=
 F.binds fun kV doc pm an cdv ct us hl=>by
  obtain ⟨ua,us4,rfl,hl4⟩:=nJ (n:=4) hl
  obtain ⟨ub,us3,rfl,hl3⟩:=nJ (n:=3) hl4
  obtain ⟨uc,us2,rfl,hl2⟩:=nJ (n:=2) hl3
  obtain ⟨ud,us1,rfl,hl1⟩:=nJ (n:=1) hl2
  obtain ⟨ue,us0,rfl,RY⟩:=nJ (n:=0) hl1
  obtain rfl:=len0 RY
  exact h kV doc pm an cdv ct ua ub uc ud ue
theorem cH.aar {K:bM} {st:aQ} (F:cH K x qual st f fd) (h:∀(kV doc pm:aH) (an:Option ao) (cdv ct ua ub uc ud ue uf ug:aH),sU 0#y ⟨[ua,ub,uc,ud,ue,uf,ug],[]⟩=pure [(pa,ua),(pb,ub),(pc,uc),(pd,ud),(pe,ue),(pf,uf),(pg,ug)]):Binds K fd [pa,pb,pc,pd,pe,pf,pg] []:=
 F.binds fun kV doc pm an cdv ct us hl=>by
  obtain ⟨ua,us6,rfl,hl6⟩:=nJ (n:=6) hl
  obtain ⟨ub,us5,rfl,hl5⟩:=nJ (n:=5) hl6
  obtain ⟨uc,us4,rfl,hl4⟩:=nJ (n:=4) hl5
  obtain ⟨ud,us3,rfl,hl3⟩:=nJ (n:=3) hl4
  obtain ⟨ue,us2,rfl,hl2⟩:=nJ (n:=2) hl3
  obtain ⟨uf,us1,rfl,hl1⟩:=nJ (n:=1) hl2
  obtain ⟨ug,us0,rfl,RY⟩:=nJ (n:=0) hl1
  obtain rfl:=len0 RY
  exact h kV doc pm an cdv ct ua ub uc ud ue uf ug
end L2
namespace My
open PySem PySem.Spec PyProof.Rows L2
theorem wH (Pv:L2.St→Hp→Prop) (rest:∀σ' H',Pv σ' H'→u D σ' H') (h:∀N:L2.St→Hp→Prop,(∀σ' H',Pv σ' H'→N σ' H')→t { D with nx:=N } σ H):Ar t u D σ H:=h (u D) rest
theorem JF (Pv:L2.St→Hp→Prop) (rest:∀σ' H',Pv σ' H'→u D σ' H') (h:∀N:L2.St→Hp→Prop,(∀σ' H',Pv σ' H'→N σ' H')→Ar a (Ar b (Ar c d)) { D with nx:=N } σ H):Ar a (Ar b (Ar c (Ar d u))) D σ H:=h (u D) rest
theorem Yc (h:N σ H):(Ends.mk N rt bk ct).nx σ H:=h
theorem gZ {g:TG} {tb:TS} (h:∀(M B:L2.St→Hp→Prop) (R:VK),(∀σ H,Pv σ H→M σ H)→(∀σ H,bk σ H→B σ H)→(∀v H,rt v H→R v H)→g x σ H fun σ2 H2=>tb (Ends.mk M R B M) σ2 H2):g x σ H fun σ2 H2=>tb (Ends.mk Pv rt bk Pv) σ2 H2:=h Pv bk rt (fun _ _ z=>z) (fun _ _ z=>z) (fun _ _ z=>z)
end My
namespace My
open PySem PySem.Spec PyProof.Rows L2 Mth
def Yh (K:bM):List V→Hp→VK→Prop:=fun xs H Q=>∃(l:ao) (ns:List Int),xs=[.ref l]∧aW K H l (ns.map V.int)∧0<ns.length∧∀M:Int,M∈ns→(∀a∈ns,a≤M)→Q (.int M) H
theorem afI (K:bM) (hc:X.calm=true) (hK:X.K=K:=by rfl):iO X (.builtin "max") (Yh K):=by
 subst hK
 intro pins s σ H xs us Q I r h
 obtain ⟨l,ns,rfl,hq,hpos,q⟩:=h
 obtain ⟨u,rfl,rx⟩:=vals1 r
 cases rx
 obtain ⟨its,rv,p,hz⟩:=I.list hq
 have hi:=intsAre_of rv
 obtain ⟨ys,e⟩:=hi.allInts.items
 have hns:ns=ys.toList.map (·.1):=by
  have h2:=nums_intItems ys
  rw [← e] at h2
  exact hi.numsOf.symm.trans h2
 have C8:s.heap.IsList l (intItems ys):=by rw [← e];exact p.isList
 have hlen:ns.length=ys.size:=by rw [hns,eV,UB]
 refine max_intList (I.ok.hd hc) C8 0#c fun v h' tk hv hk=>?_
 obtain ⟨t,rfl⟩:=intItems_at hv
 obtain ⟨h1,h2⟩:=argBest_gt (numAt ys) (ys.size-1)
 refine ⟨.int _,H,I.kept hk,⟨t,rfl⟩,q _ ?_ fun a ha=>?_⟩
 ·rw [numAt_eq,← hns]
  exact PySem.getD_mem 0#c
 ·obtain ⟨j,hj,rfl⟩:=PySem.mem_getD ha
  have:=h2 j 0#c
  rw [numAt_eq ys j,← hns] at this
  exact this
theorem abP {K:bM} {ns:List Int} (h:aW K H l (ns.map V.int)) (hp:0<ns.length) (q:∀M:Int,M∈ns→(∀a∈ns,a≤M)→Q (.int M) H):Yh K [.ref l] H Q:=⟨l,ns,rfl,h,hp,q⟩
def GD:V→List V→Hp→VK→Prop:=fun x vs H Q=>∃(l:ao) (ns:List Int) (k:Int),x=.ref l∧vs=[.int k]∧H l=some (.lst (ns.map V.int))∧ns.length≤1000∧k∈ns∧∀j:Nat,ns[j]?=some k→Q (.int (j:Int)) H
theorem IL:∀{ns:List Int},k∈ns→∃j:Nat,ns[j]?=some k∧∀i:Nat,i<j→ns[i]?≠some k
 | a::ns,h=>by
   by_cases e:a=k
   ·exact ⟨0,by rw [e];rfl,fun i hi=>absurd hi (J5 _)⟩
   ·rcases lg.mp h with z | z
    ·exact absurd z.symm e
    ·obtain ⟨j,h1,h2⟩:=IL z
     refine ⟨j+1,h1,fun i hi=>?_⟩
     cases i with
     | zero=>exact fun q=>e (lQ q)
     | succ i=>exact h2 i (Nat.lt_of_succ_lt_succ hi)
theorem Sy:MtM X "list.index" GD:=by
 intro pins s σ H x vs v us Q I rx rv h
 obtain ⟨l,ns,k,rfl,rfl,hH,agc,hk,q⟩:=h
 cases rx
 obtain ⟨u,rfl,ru⟩:=rv.one
 obtain ⟨t,rfl⟩:=ru
 obtain ⟨j,hj,hno⟩:=IL hk
 obtain ⟨z,its,n,r,hl,e⟩:=I.Lx hH
 have hlen:its.length=ns.length:=by rw [← hl,eV]
 have hjn:j<ns.length:=(fZ.mp hj).1
 have at_:∀(i:Nat) (a:Int),ns[i]?=some a→∃t',its[i]?=some (Value.int a t'):=fun i a ha=>by
  obtain ⟨u,hu,ru⟩:=Vals.get r (i:=i) (x:=.int a) (by rw [jQ,ha];rfl)
  obtain ⟨t',rfl⟩:=ru
  exact ⟨t',hu⟩
 have at2:∀(i:Nat) (hi:i<its.length),∃(a:Int) (t':Nat),ns[i]?=some a∧its[i]=Value.int a t':=fun i hi=>by
  have ha:ns[i]?=some ns[i]:=je 0#c
  obtain ⟨t',h'⟩:=at_ i _ ha
  rw [je hi] at h'
  exact ⟨_,t',ha,lQ h'⟩
 refine Kd F.slot_list_index ⟨_,e,rfl⟩ F.entry_list_index (F.args_list_index_2 _ _)
  (MeetsSeq.list_index l its.toArray n (.int k t) (isInt k) (fun y hy=>?_) j (by rw [jK];simp?) 0#c ?_ (fun m hm hlt=>?_)) ⟨e,?_⟩
 ·obtain ⟨i,hi,rfl⟩:=List.mem_iff_getElem.mp (List.mem_toArray.mp hy)
  obtain ⟨a,t',_,h'⟩:=at2 i hi
  rw [h']
  exact aeK a k t' t
 ·obtain ⟨a,t',ha,h'⟩:=at2 j 0#c
  rw [hj] at ha
  cases ha
  show isInt k its[j]=true
  rw [h']
  simp [isInt]
 ·obtain ⟨a,t',ha,h'⟩:=at2 m (by rw [jK] at hm;exact hm)
  show isInt k (its[m]'(by rw [jK] at hm;exact hm))=false
  rw [h']
  have:a≠k:=fun q=>hno m hlt (by rw [ha,q])
  simp [isInt,this]
 ·exact ⟨.int (j:Int),H,I.tok _,⟨_,rfl⟩,q j hj⟩
theorem aa1 (K:bM)  (ho:PE X o to) (he:PE X e te) (h:X.K=K:=by rfl)
 (hbase:pP o "index" X.env (eval o X.env)=eval o X.env:=by rfl)
 (hfew:((gC cpos (aY (e::[]) X.env)).all (fun x=>!x.1)&&(jJ cpos (qG [] X.env)).all (fun x=>x.1.isSome)
   && decide 0#B)=true:=by rfl)
 (hline:(apos.endLine==cpos.line)=true:=by rfl) (hs:aY (e::[]) X.env=(false,eval e X.env)::aY [] X.env:=by rfl) (hplain:(gC cpos (aY [] X.env)).any (·.1)=false:=by rfl) :
 PE X (.Call (.Attribute o "index" apos) [e] [] cpos) (XA K "list" GD to (dN te nA)):=
 h▸S5 Us PySem.F.slot_list_index PySem.F.type_list_index Sy ho (kE he u5 hs) hbase hfew hline hs hplain
theorem adE {ns:List Int} (h:H p=some (.lst (ns.map V.int))) (hl:ns.length≤1000) (hk:k∈ns) (q:∀j:Nat,ns[j]?=some k→Q (.int (j:Int)) H):GD (.ref p) [.int k] H Q:=⟨p,ns,k,rfl,rfl,h,hl,hk,q⟩
end My
namespace Jd
open PySem PySem.Spec PyProof.Rows L2 Mth
theorem aa1 (K:bM)  (ho:QE X o to) (he:QE X e te) (h:X.K=K:=by rfl)
 (hbase:pP o "index" X.env (eval o X.env)=eval o X.env:=by rfl)
 (hfew:((gC cpos (aY (e::[]) X.env)).all (fun x=>!x.1)&&(jJ cpos (qG [] X.env)).all (fun x=>x.1.isSome)
   && decide 0#B)=true:=by rfl)
 (hline:(apos.endLine==cpos.line)=true:=by rfl) (hs:aY (e::[]) X.env=(false,eval e X.env)::aY [] X.env:=by rfl) (hplain:(gC cpos (aY [] X.env)).any (·.1)=false:=by rfl) :
 QE X (.Call (.Attribute o "index" apos) [e] [] cpos) (XA K "list" My.GD to (dN te nA)):=⟨My.aa1 K ho.h he.h h hbase hfew hline hs hplain⟩
end Jd
namespace My
open PySem PySem.Spec PyProof.Rows L2 Mth
theorem Lr {σ:L2.St} (ch:List ao) (I:L2.Inv X pins σ H s) (k:∀b u,b∉ch→s.heap.get? b=some u→h'.get? b=some u)
 (hf:∀b∈ch,vI X pins H b):L2.Inv X pins σ H { s with heap:=h',toks:=t' }:=by
 have out:∀b u,H b=some u→b∉ch:=fun b u e z=>by rw [(hf b z).1] at e;cases e
 refine I.step (g':=s.gens) (d':=s.drawn) (ch:=ch) (fun b hb=>?_) (fun b u _ _ hc e _=>k b u hc e) (fun b u _ _ hc e _=>⟨u.slots,k b u hc e⟩) (fun b u hc e z=>z) (fun b u hc e=>⟨u,k b u hc e⟩)
  (fun b xs e=>e) (fun b u v e=>e) (fun b ps e=>⟨#[],by rw [e];simp⟩) (fun m hm=>?_) (fun b u e=>?_) I.bare
 ·obtain ⟨_,f1,_,f3,f4,f5⟩:=hf b hb
  exact ⟨f3,f1,f4,f5⟩
 ·obtain ⟨u,es,ep,hu,r⟩:=hm
  exact ⟨u,es,ep,k _ u (fun z=>(hf _ z).2.1 rfl) hu,r⟩
 ·exact dJ.stay (I.hok b u e) (fun c v hc q=>k c v (hc.elim (fun z=>z▸out b u e) fun z=>out c _ z) q) (fun c q=>q) fun c xs q=>q
def Itz (K:bM) (a b:ao):It:=
 ⟨fun i H=>∃xs ys x y,aW K H a xs∧aW K H b ys∧xs[i]?=some x∧ys[i]?=some y,
  fun i H v H'=>∃(p:ao) (x y:V),H p=none∧v=.ref p∧H'=upd H p (.tup [x,y])∧(∀xs,aW K H a xs→xs[i]?=some x)∧∀ys,aW K H b ys→ys[i]?=some y,
  fun i H=>∃xs ys,aW K H a xs∧aW K H b ys∧(xs.length≤i∨ys.length≤i)⟩
theorem Uj {K:bM} (z TI TO i1 i2 a b:ao) (D:ZipApart z TI TO i1 i2 a b) :
 Turn P w K (.Tuple elts kt tpos) (Itz K a b) [z,TI,TO,i1,i2] z (fun i h=>IsZip h z TI TO .none∧IsPair h TI (.ref i1) (.ref i2)∧(∃u v,IsPair h TO u v)∧h.IsListIter i1 a i∧h.IsListIter i2 b i) where
 mem:=by simp
 obj:=fun i h st c hc=>by
  obtain ⟨hz,hTI,⟨u,v,hTO⟩,⟨o1,e1,_,d1⟩,⟨o2,e2,_,d2⟩⟩:=st
  rcases (show c=z∨c=TI∨c=TO∨c=i1∨c=i2 by simpa using hc) with rfl | rfl | rfl | rfl | rfl
  ·exact ⟨_,hz,fun v q=>by cases q⟩
  ·exact ⟨_,hTI,fun v q=>by cases q⟩
  ·exact ⟨_,hTO,fun v q=>by cases q⟩
  ·exact ⟨o1,e1,fun v q=>by rw [d1] at q;cases q⟩
  ·exact ⟨o2,e2,fun v q=>by rw [d2] at q;cases q⟩
 keep:=fun i h h' st k=>by
  obtain ⟨hz,hTI,⟨u,v,hTO⟩,h1,h2⟩:=st
  exact ⟨k z 0#f _ hz,k TI 0#f _ hTI,⟨u,v,k TO 0#f _ hTO⟩,h1.at fun o q=>k i1 0#f o q,h2.at fun o q=>k i2 0#f o q⟩
 item:=by
  intro X hP hw hK hc i pins s σ H E I hf st hg
  subst hP hw hK
  obtain ⟨hz,hTI,⟨u0,v0,hTO⟩,h1,h2⟩:=st
  obtain ⟨xs,ys,x,y,hq,hq',hx,hy⟩:=hg
  obtain ⟨its,rv,p,_⟩:=I.list hq
  obtain ⟨its',rv',p',_⟩:=I.list hq'
  obtain ⟨u,hu,ru⟩:=rv.get hx
  obtain ⟨v,hv,ru'⟩:=rv'.get hy
  refine wpAny_pyNext_zip_item D hz hTI hTO h1 h2 p.isList p'.isList (x:=u) (y:=v) (by simpa using hu) (by simpa using hv) fun h' a1 a2 a3 a4 a5 a6 hk=>?_
  refine ⟨_,rfl,wpAny_letOwnedTupleGo_zip (s:={ s with heap:=h' }) a1 fun h3 hz3 hs3=>?_⟩
  have PV:zP z h' h3:=hs3
  have ke:∀c o,c∉[z,TI,TO,i1,i2]→s.heap.get? c=some o→h3.get? c=some o:=fun c o hc' q=>by
   have c1:c≠z:=fun e=>hc' (by simp [e])
   exact (PV.2 c c1).trans (hk c o c1 (fun e=>hc' (by simp [e])) (fun e=>hc' (by simp [e])) (fun e=>hc' (by simp [e])) q)
  have zlt:z<s.heap.objs.size:=dY hz
  have ae7:TO<s.heap.objs.size:=dY hTO
  have ae6:TI<s.heap.objs.size:=dY hTI
  have afB:i1<s.heap.objs.size:=by obtain ⟨_,e,_⟩:=h1;exact dY e
  have afC:i2<s.heap.objs.size:=by obtain ⟨_,e,_⟩:=h2;exact dY e
  have NC:h3.get? s.heap.objs.size=some { cls:=.type "tuple",data:=.seq #[u,v] }:=(PV.2 _ (O0 zlt)).trans a5
  have hn:H s.heap.objs.size=none:=I.hok.fresh (dm _)
  have I2:L2.Inv X pins σ (upd H s.heap.objs.size (.tup [x,y])) { s with heap:=h3 }:=by
   refine rF (t':=s.toks) [z,TI,TO,i1,i2] I ke hf (dm _) ?_
   exact ⟨by show 2≤sizeLine;decide,[u,v],.cons ru (.cons ru' .nil),_,NC,rfl,_,rfl⟩
  refine ⟨.ref s.heap.objs.size,upd H s.heap.objs.size (.tup [x,y]),I2,rfl,⟨s.heap.objs.size,x,y,hn,rfl,rfl,fun zs hz'=>by rw [I.vS hz' hq];exact hx,fun zs hz'=>by rw [I.vS hz' hq'];exact hy⟩,⟨hz3,?_,⟨u,v,(PV.2 TO D.TOz).trans a2⟩,a3.at fun o q=>(PV.2 i1 D.i1z).trans q,a4.at fun o q=>(PV.2 i2 D.i2z).trans q⟩,fun c hc'=>?_⟩
  ·exact (PV.2 TI D.TIz).trans (hk TI _ D.TIz D.TITO D.TIi1 D.TIi2 hTI)
  ·have hc1:=(hf c hc').1
   have hc2:c≠s.heap.objs.size:=by
    rcases (show c=z∨c=TI∨c=TO∨c=i1∨c=i2 by simpa using hc') with rfl | rfl | rfl | rfl | rfl
    ·exact jP zlt
    ·exact jP ae6
    ·exact jP ae7
    ·exact jP afB
    ·exact jP afC
   rw [aI hc2]
   exact hc1
 done:=by
  intro X hP hw hK hc i pins s σ H E I hf st hg
  subst hP hw hK
  obtain ⟨hz,hTI,⟨u0,v0,hTO⟩,h1,h2⟩:=st
  obtain ⟨xs,ys,hq,hq',hx⟩:=hg
  obtain ⟨its,rv,p,_⟩:=I.list hq
  obtain ⟨its',rv',p',_⟩:=I.list hq'
  have hl:=rv.length
  have hl':=rv'.length
  refine wpAny_pyNext_zip_end (I.ok.hd hc) D hz hTI hTO h1 h2 p.isList p'.isList ?_ fun h' hk=>⟨rfl,?_⟩
  ·rcases hx with q | q
   ·exact .inl (by simp;simp?)
   ·exact .inr (by simp;simp?)
  ·exact Lr (t':=s.toks) [z,TI,TO,i1,i2] I (fun c o hc' q=>hk c o (fun e=>hc' (by simp [e])) (fun e=>hc' (by simp [e])) (fun e=>hc' (by simp [e])) (fun e=>hc' (by simp [e])) q) hf
 self:=fun _ _ _ _ _ st h=>Zl st.1 h
def aa0 (K:bM) (ta:TA):TI:=fun σ H R=>ta σ H fun vs H1=>∃a b xs ys,vs=[.ref a,.ref b]∧aW K H1 a xs∧aW K H1 b ys∧R (Itz K a b) H1
section
theorem u7 (K:bM) (hg:Gl X "zip") (hm:X.mg "zip"=none) (ha:PA X [a,b] ta) (hs:aY [a,b] X.env=(false,eval a X.env)::aY [b] X.env:=by rfl) (hs2:aY [b] X.env=[(false,eval b X.env)]:=by rfl) (hK:X.K=K:=by rfl) :
 PI X (.Tuple elts kt tpos) (.Call (.Name "zip" p) [a,b] [] pos) (aa0 K ta):=by
 subst hK
 intro pins s σ H R I h
 refine Call_ (uW I hg hm boot_zip (JP (fF (ha pos pins s σ H _ I h) fun us s1 ⟨vs,H1,I1,r1,q1⟩=>?_) hs (by rw [hs2];rfl)))
 obtain ⟨l,l',xs,ys,e,hq,hq',q⟩:=q1
 subst e
 cases r1 with
 | cons r rr=>
   cases rr with
   | cons r' rr'=>
     cases rr'
     cases r
     cases r'
     obtain ⟨its,rv,pl,_⟩:=I1.list hq
     obtain ⟨its',rv',pl',_⟩:=I1.list hq'
     have a1:l<s1.heap.objs.size:=by obtain ⟨_,e,_⟩:=pl.isList;exact dY e
     have a2:l'<s1.heap.objs.size:=by obtain ⟨_,e,_⟩:=pl'.isList;exact dY e
     refine call_zip_2 pl.isList pl'.isList fun h' hz hTI hTO hi1 hi2 hsz hk=>?_
     have I2:L2.Inv X pins σ H1 { s1 with heap:=h' }:=I1.kept (t':=s1.toks) hk
     refine Zl (s:={ s1 with heap:=h' }) hz ?_
     refine ⟨s1.heap.objs.size+4,[s1.heap.objs.size+4,s1.heap.objs.size+2,s1.heap.objs.size+3,s1.heap.objs.size,s1.heap.objs.size+1],_,_,H1,rfl,I2,Uj _ _ _ _ _ l l' (zipApart_new a1 a2),⟨hz,hTI,⟨_,_,hTO⟩,hi1,hi2⟩,fun c hc=>?_,q⟩
     have fp:∀k,vI X pins H1 (s1.heap.objs.size+k):=fun k=>I1.Il (OP _ _) (I1.hok.fresh (OP _ _))
     rcases (show c=s1.heap.objs.size+4∨c=s1.heap.objs.size+2∨c=s1.heap.objs.size+3∨c=s1.heap.objs.size∨c=s1.heap.objs.size+1 by simpa using hc) with rfl | rfl | rfl | rfl | rfl
     ·exact fp 4
     ·exact fp 2
     ·exact fp 3
     ·exact fp 0
     ·exact fp 1
theorem Jv {K:bM} (h:ta σ H fun vs H1=>∃a b xs ys,vs=[.ref a,.ref b]∧aW K H1 a xs∧aW K H1 b ys∧R (Itz K a b) H1):aa0 K ta σ H R:=h
theorem oZ {K:bM} (hn1:E7≤xs.length) (hn2:E7≤ys.length) (hn:xs.length≤E7∨ys.length≤E7) (hok:∀H2,aq H H2→aW K H2 a xs∧aW K H2 b ys) (hl:E7≤1000) (P:Nat→List V→Hp→Prop) (h0:P 0 [] H)
 (step:∀(D:ao) (i:Nat) (x y:V) (us:List V) (H2 H3:Hp) (p:ao) (ly:L2.St) (N:VK) (N0:Hp→Prop),ly.length=n→H D=none→H2 D=some (.lst us)→aq H H2→aq H2 H3→H3 p=some (.tup [x,y])→i<E7→xs[i]?=some x→ys[i]?=some y→us.length≤i→P i us (rm D H2) →
   (∀v H6,aq H3 H6→P (i+1) (us++[v]) (rm D H6)→N v H6)→(∀H5,aq H3 H5→P (i+1) us (rm D H5)→N0 H5) →
   g (.ref p) (ly++kO cap σ) H3 fun σ2 H4=>(∃σ1,σ1.length=n∧σ2=σ1++kO cap σ)∧tt σ2 H4 fun b H5=>if b=true then te σ2 H5 N else N0 H5)
 (done:∀(D:ao) (us:List V) (H2:Hp),H D=none→H2 D=some (.lst us)→aq H H2→us.length≤E7→P E7 us (rm D H2)→Q (.ref D) H2):Q8 n cap g tt te σ Q (Itz K a b) H:=by
 intro D hD
 refine ⟨fun i m us H2=>H2 D=some (.lst us)∧aq H H2∧us.length≤i∧i≤E7∧m=E7-i∧P i us (rm D H2),⟨E7,av,bw (aq.refl _) hD,nH _,nH _,rfl,?_⟩,?_⟩
 ·rw [GJ]
  have e:rm D H=H:=by
   funext b
   by_cases h:b=D
   ·rw [h,hD];exact if_pos rfl
   ·exact mW h
  rw [e];exact h0
 ·rintro i m us H2 ⟨e,s,hu,hi,rfl,p⟩
  refine ⟨e,?_⟩
  obtain ⟨q,q'⟩:=hok H2 s
  by_cases hlt:i<E7
  ·refine .inr ⟨⟨xs,ys,xs[i],ys[i],q,q',je _,je _⟩,Ax (dI hu hi) (aO hl),fun v H3 ly h0 y=>?_⟩
   obtain ⟨pt,x',y',hnp,rfl,rfl,hx,hy⟩:=y
   have s3:=fW hnp (.tup [x',y'])
   refine step D i x' y' us H2 _ pt ly _ _ h0 hD e s s3 av hlt (hx xs q) (hy ys q') hu p (fun v H6 s6 p6=>?_) fun H5 s5 p5=>?_
   ·refine ⟨(s3.trans s6) _ _ e,E7-(i+1),by simp?,av,bw (s.trans (s3.trans s6)) hD,?_,by simp?,rfl,?_⟩
    ·rw [cJ,Uw];simp?
    ·rw [GJ];exact p6
   ·exact ⟨E7-(i+1),by simp?,(s3.trans s5) _ _ e,s.trans (s3.trans s5),by simp?,by simp?,rfl,p5⟩
  ·have ei:i=E7:=by simp?
   subst ei
   exact .inl ⟨⟨xs,ys,q,q',hn⟩,done D us H2 hD e s hu p⟩
end
end My
namespace Jd
open PySem PySem.Spec PyProof.Rows L2 My
theorem u7 (K:bM)  (hg:Gl X "zip") (hm:X.mg "zip"=none) (ha:QA X [a,b] ta) (hs:aY [a,b] X.env=(false,eval a X.env)::aY [b] X.env:=by rfl) (hs2:aY [b] X.env=[(false,eval b X.env)]:=by rfl) (hK:X.K=K:=by rfl) :
 QI X (.Tuple elts kt tpos) (.Call (.Name "zip" p) [a,b] [] pos) (aa0 K ta):=⟨My.u7 K hg hm ha.h hs hs2 hK⟩
end Jd
namespace My
open PySem PySem.Spec PyProof.Rows L2 Mth
def Fx (K:bM) (x:Str) (st:aQ):Prop:=∃(f:ao) (fd:iS),iW K fE x=some (some (.ref f))∧cH K x x st f fd
def Fm (K:bM) (C:ao) (m q:Str) (st:aQ):Prop:=∃(f:ao) (fd:iS),ki K (.ref C) m=some (some (.ref f))∧zQ K (.ref f)=true∧cH K m q st f fd
def Fi (K:bM) (C:ao) (q:Str) (st:aQ):Prop:=∃(f:ao) (fd:iS),ki K (.ref C) "__init__"=some (some (.ref f))∧NV K C f=true∧zQ K (.ref f)=true∧cH K "__init__" q st f fd
section
theorem acL {K:bM} {st:aQ} {kV:aH} (a:iW K fE x=some (some (.ref f))) (l:K.lookup f=some ⟨oc,od,.func (oV x x (dF st) (cV st) (ah st) .none kV doc pm an cdv ct),osl⟩) (c:xo K cdv x=true) (k:uq K (.ref f)=true):Fx K x st:=⟨f,_,a,KY l c k⟩
theorem acJ {K:bM} {q:Str} {st:aQ} {f C:ao} {oc:aH} {od an:Option ao} {kV doc pm cdv ct:aH} (a:ki K (.ref C) "__init__"=some (some (.ref f))) (o:NV K C f=true) (i:zQ K (.ref f)=true) (l:K.lookup f=some ⟨oc,od,.func (oV "__init__" q (dF st) (cV st) (ah st) .none kV doc pm an cdv ct),osl⟩) (c:xo K cdv q=true) (k:uq K (.ref f)=true):Fi K C q st:=⟨f,_,a,o,i,KY l c k⟩
theorem acK {K:bM} {m q:Str} {st:aQ} {f C:ao} {oc:aH} {od an:Option ao} {kV doc pm cdv ct:aH} (a:ki K (.ref C) m=some (some (.ref f))) (i:zQ K (.ref f)=true) (l:K.lookup f=some ⟨oc,od,.func (oV m q (dF st) (cV st) (ah st) .none kV doc pm an cdv ct),osl⟩) (c:xo K cdv q=true) (k:uq K (.ref f)=true):Fm K C m q st:=⟨f,_,a,i,KY l c k⟩
end
section
variable (P:gX) (w:di) (base:b8) {K:bM} {mg:Str→Option aH} {h:b8} {k:Nat} {x m q:Str} {ps:List Str} {sp:Sp} {st:aQ} {f C:ao} {fd:iS}
theorem dnm (X:K.In h) (G:h.Ns fE mg) (a:iW K fE x=some (some (.ref f))) (F:cH K x x st f fd) (ok:bg P w K mg base cM k f fd ps sp) (b:Binds K fd ps []):Dn P w K mg base k x ps sp:=acD F ok (xq X G a) b
theorem dmm (a:ki K (.ref C) m=some (some (.ref f))) (i:zQ K (.ref f)=true) (F:cH K m q st f fd) (ok:bg P w K mg base cM k f fd ps sp) (b:Binds K fd ps []):Dm P w K mg base k C m ps sp:=⟨f,fd,ok,⟨a,i,F.kp⟩,b⟩
end
structure Tp (P:gX) (w:di) (K:bM) (mg:Str→Option aH) (base:b8):Prop where
 ex:∃h:b8,K.In h∧h.Ns fE mg
theorem Tp.d {K:bM} {st:aQ} (Y:Tp P w K mg base) (h:Fx K x st) (ok:∀{f fd},cH K x x st f fd→bg P w K mg base cM k f fd ps sp) (b:∀{f fd},cH K x x st f fd→Binds K fd ps []:=by intro _ _ F;first | exact F.Fc fun _ _ _ _ _ _ _ _=>rfl | exact F.Rj fun _ _ _ _ _ _ _=>rfl | exact F.Rk fun _ _ _ _ _ _ _ _ _=>rfl | exact F.Rl fun _ _ _ _ _ _ _ _ _ _=>rfl | exact F.aap fun _ _ _ _ _ _ _ _ _ _ _=>rfl):Dn P w K mg base k x ps sp:=
 have ⟨_,X,G⟩:=Y.ex
 have ⟨_,_,a,F⟩:=h
 dnm P w base X G a F (ok F) (b F)
theorem Tp.m {P:gX} {w:di} {K:bM} {mg:Str→Option aH} {base:b8} {m q:Str} {C:ao} {st:aQ} {k:Nat} {ps:List Str} {sp:Sp} (_:Tp P w K mg base) (h:Fm K C m q st) (ok:∀{f fd},cH K m q st f fd→bg P w K mg base cM k f fd ps sp) (b:∀{f fd},cH K m q st f fd→Binds K fd ps []:=by intro _ _ F;first | exact F.Fc fun _ _ _ _ _ _ _ _=>rfl | exact F.Rj fun _ _ _ _ _ _ _=>rfl | exact F.Rk fun _ _ _ _ _ _ _ _ _=>rfl | exact F.Rl fun _ _ _ _ _ _ _ _ _ _=>rfl):Dm P w K mg base k C m ps sp:=
 have ⟨_,_,a,i,F⟩:=h
 dmm P w base a i F (ok F) (b F)
def Vw (bs:List Bool):List V:=bs.map V.bl
def adt (K:bM):List V→Hp→VK→Prop:=fun xs H Q=>∃(l:ao) (bs:List Bool),xs=[.ref l]∧aW K H l (Vw bs)∧Q (.bl (bs.all id)) H
theorem HS:∀{bs:List Bool} {its:List aH},Vals (Vw bs) its→aes its bs
 | [],_,.nil=>.nil
 | b::_,_,.cons r rr=>by
   cases (show _=Value.bool b from r)
   exact .cons b (HS rr)
theorem aak (K:bM) (hc:X.calm=true) (hK:X.K=K:=by rfl):iO X (.builtin "all") (adt K):=by
 subst hK
 intro pins s σ H xs us Q I r h
 obtain ⟨l,bs,rfl,hq,q⟩:=h
 obtain ⟨u,rfl,rx⟩:=vals1 r
 cases rx
 obtain ⟨its,rv,p,hz⟩:=I.list hq
 have hb:=HS rv
 have hl:=p.isList
 have hlt:l<s.heap.objs.size:=by obtain ⟨_,e,_⟩:=hl;exact dY e
 refine call_all_walk (UQ hl ⟨s.heap.objs.size,[s.heap.objs.size,l],[s.heap.objs.size],its.toArray.size,_,_,fun i=>(bs[i]?).getD true,rfl,
  Walks.list (A:=X.A.in1) (I.ok.hd hc) _ l (jP hlt) its.toArray,⟨⟨_,Aw _ rfl,rfl,rfl⟩,hl.push _⟩,fun i v s' Q' E' hP hQ=>?_,fun h' tk hk=>?_⟩)
 ·obtain ⟨b,e,rfl⟩:=hb.get i v (by simpa using hP)
  simp only [e,Zm] at hQ
  exact zJ hQ
 ·have e:((kq its.toArray.size).all fun i=>(bs[i]?).getD true)=bs.all id:=by
   rw [jK,hb.length];exact aeg bs
  rw [e]
  exact ⟨.bl _,H,I.kept (t':=tk) (aeh hk),rfl,q⟩
section
theorem af1 (h:te σ H fun x H1=>tl σ H1 fun l H2=>th σ H2 fun u H3=>r x l u H3 Q):tSl r te tl th σ H Q:=h
theorem abT (h:t σ H fun x H1=>∃i,x=.int i∧R (some i) H1):Uh t σ H R:=h
theorem Tn (h:R none H):Hz σ H R:=h
theorem af0 {R:Int→Prop} (h:R i):∃j,V.int i=V.int j∧R j:=⟨i,rfl,h⟩
theorem afa (xs:List V) (n:Nat):oE xs (some (n:Int)) none=xs.drop n:=by
 unfold oE
 rw [HT.Ob,show HT.GL xs.length xs.length none=xs.length from rfl]
 rcases ZX n xs.length with z | z
 ·rw [Zv z]
  exact JT (by rw [jO];exact dm _)
 ·rw [Zn z,OA z,OA (dm _)]
  simp
theorem jE {K:bM} {lo:Option Int} (h:H a=some (.lst xs)) (k:∀(p:ao) (H':Hp),aq H H'→H p=none→H' p=some (.lst (oE xs lo hi))→Q (.ref p) H'):abC K (.ref a) lo hi H Q:=
 ⟨a,xs,rfl,aW.of h,fun p hp=>k p _ (fW hp _) hp av⟩
theorem N7 {K:bM} (h:H l=some (.lst (Vw bs))) (q:Q (.bl (bs.all id)) H):adt K [.ref l] H Q:=⟨l,bs,rfl,aW.of h,q⟩
end
mutual
theorem Den.up (s:aq H H'):∀{v:V} {d:qR},Den H v d→Den H' v d
 | _,_,.bC=>.bC
 | _,_,.bl b=>.bl b
 | _,_,.int i=>.int i
 | _,_,.str x=>.str x
 | _,_,.tup e dd=>.tup (s _ _ e) (qc.up s dd)
 | _,_,.lst e dd=>.lst (s _ _ e) (qc.up s dd)
theorem qc.up (s:aq H H'):∀{vs:List V} {ds:List qR},qc H vs ds→qc H' vs ds
 | _,_,.nil=>.nil
 | _,_,.cons d dd=>.cons (Den.up s d) (qc.up s dd)
end
end My
namespace My
open PySem PySem.Spec PySem.Calls PyProof.Rows L2 Mth
structure E5 (K:bM) (x qual:Str) (st:aQ) (f:ao) (fd:iS) (d:aH):Prop where
 ex:∃(T:ao) (oc:aH) (od:Option ao) (kV doc pm:aH) (an:Option ao) (cdv ct:aH) (osl:Array (Option aH)) (tc:aH) (td:Option ao) (tn:Nat) (Yq:Array (Option aH)),
  fd=oV x qual (dF st) (cV st) (ah st) (.ref T) kV doc pm an cdv ct∧K.lookup f=some ⟨oc,od,.func fd,osl⟩∧xo K cdv qual=true∧K.lookup T=some ⟨tc,td,.seq #[d] tn,Yq⟩
 kp:uq K (.ref f)=true
section
theorem E5.ok {K:bM} {st:aQ} (F:E5 K x qual st f fd d) (S:aE N ps (ah st)) (len:∀vs H Q E,sp vs H Q E→vs.length=ps.length)
 (hbody:∀(cdv:aH) (A:nG) (outer:List Env) (s:aU) (H:Hp) (vs:List V) (Q:VK) (E:XK),gT k (A.deeper (uB qual (ah st) s.heap.objs.size f cdv))→sp vs H Q E →
   ∃t,Km (KO cM P w K mg base N qual (ah st) f cdv A outer s H E).nox (cV st) t∧t { nx:=fun _ H'=>Q .bC H',rt:=Q } (start N vs) H):bg P w K mg base cM (k+1) f fd ps sp:=by
 obtain ⟨T,oc,od,kV,doc,pm,an,cdv,ct,osl,tc,td,tn,Yq,rfl,lk,hcd,_⟩:=F.ex
 refine X3 lk hcd S len fun A outer s H vs Q E hr yZ=>?_
 obtain ⟨t,h,q⟩:=hbody cdv A outer s H vs Q E hr yZ
 exact ⟨t,h.nox,q⟩
end
def Fxd (K:bM) (x:Str) (st:aQ) (i:Int):Prop:=∃(f:ao) (fd:iS) (tk:Tok),iW K fE x=some (some (.ref f))∧E5 K x x st f fd (.int i tk)
theorem aaJ {K:bM} {x:Str} {st:aQ} {i:Int} {f T:ao} {oc tc:aH} {od an td:Option ao} {osl:Array (Option aH)} {kV doc pm cdv ct:aH} {tk:Tok} {tn:Nat} (a:iW K fE x=some (some (.ref f)))
 (l:K.lookup f=some ⟨oc,od,.func (oV x x (dF st) (cV st) (ah st) (.ref T) kV doc pm an cdv ct),osl⟩) (t:K.lookup T=some ⟨tc,td,.seq #[.int i tk] tn,Yq⟩) (c:xo K cdv x=true) (k:uq K (.ref f)=true):Fxd K x st i:=
 ⟨f,_,tk,a,⟨T,oc,od,kV,doc,pm,an,cdv,ct,osl,tc,td,tn,Yq,rfl,l,c,t⟩,k⟩
section
theorem Xe (h:ts σ H fun vs H1=>sp (vs++[v]) H1 Q E):qN sp [v] E ts σ H Q:=h
end
theorem Sl:iO X (.builtin "len") (fun xs H Q=>∃z,xs=[.str z]∧z.length≤sizeLine∧Q (.int z.length) H):=Ff
def Gt (K:bM) (x:Str) (a:ao) (z1 z2 z3 z4:Str):Prop:=iW K fE x=some (some (.ref a))∧∀H,nI K H a [.str z1,.str z2,.str z3,.str z4]
theorem acM {K:bM} (h:iW K fE x=some (some (.ref a)))
 (l:K.lookup a=some ⟨.type "tuple",td,.seq #[.str z1 t1,.str z2 t2,.str z3 t3,.str z4 t4] n,sl⟩):Gt K x a z1 z2 z3 z4:=
 ⟨h,fun _=>.inr ⟨_,_,_,l,rfl,rfl,by show 4≤sizeLine;decide,.cons ⟨t1,rfl⟩ (.cons ⟨t2,rfl⟩ (.cons ⟨t3,rfl⟩ (.cons ⟨t4,rfl⟩ .nil)))⟩⟩
def Fxb (K:bM) (x:Str) (st:aQ) (b:Bool):Prop:=∃(f:ao) (fd:iS),iW K fE x=some (some (.ref f))∧E5 K x x st f fd (.bool b)
theorem aaI {K:bM} {x:Str} {st:aQ} {b:Bool} {f T:ao} {oc tc:aH} {od an td:Option ao} {osl:Array (Option aH)} {kV doc pm cdv ct:aH} {tn:Nat} (a:iW K fE x=some (some (.ref f)))
 (l:K.lookup f=some ⟨oc,od,.func (oV x x (dF st) (cV st) (ah st) (.ref T) kV doc pm an cdv ct),osl⟩) (t:K.lookup T=some ⟨tc,td,.seq #[.bool b] tn,Yq⟩) (c:xo K cdv x=true) (k:uq K (.ref f)=true):Fxb K x st b:=
 ⟨f,_,a,⟨T,oc,od,kV,doc,pm,an,cdv,ct,osl,tc,td,tn,Yq,rfl,l,c,t⟩,k⟩
structure DnB (P:gX) (w:di) (K:bM) (mg:Str→Option aH) (base:b8) (k:Nat) (x:Str) (ps:List Str) (sp:Sp) (b:Bool):Prop where
 ex:∃(f:ao) (fd:iS),bg P w K mg base cM k f fd ps sp∧mg x=some (.ref f)∧uq K (.ref f)=true∧Binds K fd ps []∧Binds K fd ps [.bool b]
theorem DnB.two {K:bM} (D:DnB P w K mg base k x ps sp b):Dn P w K mg base k x ps sp:=
 let ⟨f,fd,a,b,c,d,_⟩:=D.ex;⟨f,fd,a,b,c,d⟩
theorem E5.aaq {K:bM} {st:aQ} (F:E5 K x qual st f fd d) 
 (h2:∀(T:ao) (kV doc pm:aH) (an:Option ao) (cdv ct a b c e g i:aH),∃k,sU (oV x qual (dF st) (cV st) (ah st) (.ref T) kV doc pm an cdv ct) ⟨[a,b,c,e,g,i],[]⟩=seqItems? (.ref T) >>= k∧k (some #[d])=pure [(p1,a),(p2,b),(p3,c),(p4,e),(p5,g),(p6,i)])
 (h1:∀(T:ao) (kV doc pm:aH) (an:Option ao) (cdv ct a b c e g:aH),∃k,sU (oV x qual (dF st) (cV st) (ah st) (.ref T) kV doc pm an cdv ct) ⟨[a,b,c,e,g],[]⟩=seqItems? (.ref T) >>= k∧k (some #[d])=pure [(p1,a),(p2,b),(p3,c),(p4,e),(p5,g),(p6,d)]) :
 Binds K fd [p1,p2,p3,p4,p5,p6] []∧Binds K fd [p1,p2,p3,p4,p5,p6] [d]:=by
 obtain ⟨T,oc,od,kV,doc,pm,an,cdv,ct,osl,tc,td,tn,Yq,rfl,lk,hcd,ht⟩:=F.ex
 constructor
 ·intro s us X hl
  have hl:us.length=6:=by rw [yS] at hl;exact hl
  match us,hl with
  | [a,b,c,e,g,i],_=>
    obtain ⟨k,q,r⟩:=h2 T kV doc pm an cdv ct a b c e g i
    exact UD rfl (X _ _ ht) rfl q r
 ·intro s us X hl
  have hl:us.length=5:=by
   rw [cJ] at hl
   have:us.length+1=6:=hl
   simp?
  match us,hl with
  | [a,b,c,e,g],_=>
    obtain ⟨k,q,r⟩:=h1 T kV doc pm an cdv ct a b c e g
    exact UD rfl (X _ _ ht) rfl q r
theorem S7 (D:DnB X.prog X.w X.K X.mg X.base k x ps sp b) (hr:gT k X.A) (hg:Gl X x) (ha:PA X (e::es) t) (hdb:0#w=false:=by decide)
 (he:aY (e::es) X.env=(false,eval e X.env)::aY es X.env:=by rfl) (hpl:(gC pos (aY es X.env)).any (·.1)=false:=by rfl):PE X (.Call (.Name x p) (e::es) [] pos) (qN sp [.bl b] E0 t):=by
 obtain ⟨f,fd,ok,hm,hk,_,hb⟩:=D.ex
 exact NW ok hr hg hm hk hb (.cons rfl .nil) El ha hdb he hpl
end My
namespace Jd
open PySem PySem.Spec PyProof.Rows L2 My
theorem S7 (D:DnB X.prog X.w X.K X.mg X.base k x ps sp b) (hr:gT k X.A) (hg:Gl X x) (ha:QA X (e::es) t) (hdb:0#w=false:=by decide)
 (he:aY (e::es) X.env=(false,eval e X.env)::aY es X.env:=by rfl) (hpl:(gC pos (aY es X.env)).any (·.1)=false:=by rfl):QE X (.Call (.Name x p) (e::es) [] pos) (qN sp [.bl b] E0 t):=⟨My.S7 D hr hg ha.h hdb he hpl⟩
end Jd
namespace My
open PySem PySem.Spec PyProof.Rows L2 Mth
def dD (X:Cx) (N':List Str) (scope:om) (z:Str) (cl:List (Str×ao)) (C:ao) (s0:aU) (H0:Hp) (ex':List ao) (gm:List (ao×Obj)):Cx:=
 { X with N:=N',s₀:=s0,H₀:=H0,env:=compEnvC scope ((z,C+1)::cl) C X.env,outer:=X.stack,ex:=ex',fn:=fun y=>y==z,pn:=gm,xe:=fun _ _=>False }
def jC (names:List (Str×qQ)) (z:Str):Prop:=names.filter (fun p=>p.2==NameKind.cell)=[(z,NameKind.cell)]
theorem DZ:∀(names:List (Str×qQ)) (n:Nat) (acc:List (Str×ao)) (h:b8),names.filter (fun p=>p.2==NameKind.cell)=[]→CZ n names acc=acc∧pushCells h names=h
 | [],_,_,_,_=>⟨rfl,rfl⟩
 | (x,k)::r,n,acc,h,e=>by
   rw [C5] at e
   unfold CZ pushCells
   cases hk:k==NameKind.cell with
   | true=>rw [hk] at e;simp at e
   | false=>
     rw [hk] at e
     exact DZ r n acc h (by simpa using e)
theorem D0:∀(names:List (Str×qQ)) (n:Nat) (acc:List (Str×ao)) (h:b8),jC names z→CZ n names acc=(z,n)::acc∧pushCells h names=h.push { cls:=.type "cell",data:=.cell none }
 | [],_,_,_,e=>by cases e
 | (x,k)::r,n,acc,h,e=>by
   unfold jC at e
   rw [C5] at e
   unfold CZ pushCells
   cases hk:k==NameKind.cell with
   | true=>
     rw [hk] at e
     simp only [if_true] at e
     injection e with e1 e2
     injection e1 with e3 e4
     subst e3
     exact DZ r (n+1) _ _ e2
   | false=>
     rw [hk] at e
     exact D0 r n acc h (by unfold jC;simpa using e)
theorem Bx {cl:List (Str×ao)} (h:((z,c0)::cl).lookup y=some c):(y=z∧c0=c)∨(y≠z∧cl.lookup y=some c):=by
 rw [EO] at h
 cases e:y==z with
 | true=>rw [e] at h;exact .inl ⟨qP.mp e,lQ h⟩
 | false=>rw [e] at h;exact .inr ⟨fun q=>by rw [q] at e;simp at e,h⟩
theorem xh (hz:jC scope.names z)
 (h:Q { scope,locals:=s.heap.objs.size,globals,cells:=(z,s.heap.objs.size+1)::cl,qual,func:=none,code:=env.code,frame:=env.frame,builtins:=env.builtins } { s with heap:=(s.heap.push { cls:=.type "dict",data:=.dict #[] }).push { cls:=.type "cell",data:=.cell none } }) :
 bF M A (newFunctionEnv scope globals cl [] qual none .none (some env)) Q E s:=by
 simp only [newFunctionEnv,Y4,if_true]
 refine cX (wpAny_alloc ?_)
 refine cX (wpAny_layCells _ (fun name kind cells=>by cases hkc:kind==NameKind.cell <;> simp [hkc]) _ _ _ _ ?_)
 rw [show ({ s with heap:=s.heap.push { cls:=.type "dict",data:=.dict #[] } }:aU).heap.objs.size=s.heap.objs.size+1 from OW ..]
 obtain ⟨c1,c2⟩:=D0 scope.names (s.heap.objs.size+1) cl (s.heap.push { cls:=.type "dict",data:=.dict #[] }) hz
 rw [c1,c2]
 refine cX ?_
 rw [List.forIn_nil]
 exact jx (jx h)
section
theorem Ph {σ:L2.St} (use:Option (aH→Sem Unit)) (Q':aH→aU→Prop) (hc:X.calm=true) (hi:PI X tg iter wi)
 (hg:∀(C:ao) (s0:aU) (H0:Hp) (ex':List ao) (gm:List (ao×Obj)),PG (dD X (O++N') scope z cl C s0 H0 ex' gm) tg g)
 (FN:∀(C:ao) (s0:aU) (H0:Hp) (ex':List ao) (gm:List (ao×Obj)),Vv (dD X (O++N') scope z cl C s0 H0 ex' gm) ifs tt)
 (helt:∀(C:ao) (s0:aU) (H0:Hp) (ex':List ao) (gm:List (ao×Obj)),PE (dD X (O++N') scope z cl C s0 H0 ex' gm) elt te)
 (hO:O.length=n) (hcap:uu X scope cl N' cap)
 (hclos:closureFor scope X.env=pure cl) (hz:jC scope.names z) (hzN:z∉N') (hkind:scope.kind=.function) (hnames:∀y∈scope.names,y.2=.local→scope.names.lookup y.1=some .local)
 (qg:∀y c,cl.lookup y=some c→X.env.cells.lookup y=some c) (hhas:∀y,((relabel scope X.env).names.lookup y=some .cell∨(relabel scope X.env).names.lookup y=some .free)→y=z∨∃c,cl.lookup y=some c)
 (hs:∀z,Ay iter X.env z=pure z)
 (I:L2.Inv X pins σ H s) (h:sM wi n cap g tt te σ H Q)
 (fin:∀(D:ao) (H5:Hp) (s6:aU) (C:ao),L2.Inv X pins σ H5 s6→vI X pins H5 C→(∃m,s6.heap.Ns C m)→Q (.ref D) H5→compPost 0#l X.A X.xe use Q' (.ref D) C (.ok .next) s6) :
 bF 0#l X.A (comprehension 0#i scope X.env cpos (newList []) false (eval iter X.env) use) Q' X.xe s:=by
 refine Yu (use:=use) rfl hs hclos hkind hnames (fF (hi pins s σ H _ I h) fun v s1 h1=>fF h1 fun itv s2 h2=>?_)
 obtain ⟨it,fp,tn,J,H2,e,I2,T,st2,f2,q2⟩:=h2
 subst e
 refine UP (xh hz ?_)
 dsimp only
  -- the list, then the block's own names
 have I3:Inv X pins σ (upd H2 s2.heap.objs.size (.lst [])) { s2 with heap:=s2.heap.push { cls:=.type "list",data:=.seq ([]:List aH).toArray },toks:=s2.toks }:=I2.WH (its:=[]) (t':=s2.toks) .nil (nH _)
 generalize hH3:s2.heap.push { cls:=.type "list",dict:=none,data:=.seq ([]:List aH).toArray }=h3 at I3 ⊢
 have q3:=q2 s2.heap.objs.size (I2.hok.fresh (dm _))
 generalize hD:s2.heap.objs.size=D at I3 q3 ⊢
 obtain ⟨W,⟨m0,w0⟩,turn⟩:=q3
 have hC:∀b o,h3.get? b=some o→b≠h3.objs.size:=fun b o e=>jP (dY e)
 have hC1:∀b o,h3.get? b=some o→h3.objs.size+1≠b:=fun b o e=>O0 (Zd (dY e))
 have adl:∀b o,h3.get? b=some o→((h3.push { cls:=.type "dict",data:=.dict #[] }).push { cls:=.type "cell",data:=.cell none }).get? b=some o:=fun b o e=>jN _ (jN _ e)
 have acZ:((h3.push { cls:=.type "dict",data:=.dict #[] }).push { cls:=.type "cell",data:=.cell none }).Ns h3.objs.size (fun _=>none):=(Heap.Ns.new h3 (.type "dict")).keeps fun b o e=>jN _ e
 have acS:((h3.push { cls:=.type "dict",data:=.dict #[] }).push { cls:=.type "cell",data:=.cell none }).IsCell (h3.objs.size+1) none:=by
  have e:(h3.push { cls:=.type "dict",data:=.dict #[] }).objs.size=h3.objs.size+1:=OW ..
  rw [← e]
  exact ⟨_,Aw _ rfl,rfl⟩
 generalize hh1:(h3.push { cls:=.type "dict",data:=.dict #[] }).push { cls:=.type "cell",data:=.cell none }=h₁ at adl acZ acS ⊢
 have old:=adl
 have xU:=acZ
 have tG:∀b∈fp,∃o,h3.get? b=some o:=fun b hb=>by
  obtain ⟨o,e,_⟩:=T.obj _ _ st2 b hb
  exact ⟨o,by rw [← hH3];exact jN _ e⟩
 have fp3:∀b∈fp,upd H2 D (.lst []) b=none:=fun b hb=>by
  have n:=(f2 b hb).1
  obtain ⟨o,e,_⟩:=T.obj _ _ st2 b hb
  rw [aI (by rw [← hD];exact jP (dY e))]
  exact n
 have stk:∀b∈fp,b∉frs X.stack:=fun b hb z=>by
  rcases lg.mp (I3.yM b z) with e | e
  ·exact (f2 b hb).2.1 e
  ·exact (f2 b hb).2.2.1 e
 have ok:(dD X (O++N') scope z cl h3.objs.size { s2 with heap:=h3,toks:=s2.toks } (upd H2 D (.lst [])) fp (X.pn++pins)).Ok:=
  ⟨I.ok.mod,hkind,I.ok.glob,I.ok.blt,dm _,fun y y' c a b=>by
   rcases Bx a with ⟨p1,p2⟩ | ⟨p1,p2⟩ <;> rcases Bx b with ⟨r1,r2⟩ | ⟨r1,r2⟩
   ·rw [p1,r1]
   ·obtain ⟨v,o,ho,_⟩:=I3.cell y' c (qg y' c r2)
    exact absurd p2 (hC1 c o ho)
   ·obtain ⟨v,o,ho,_⟩:=I3.cell y c (qg y c p2)
    exact absurd r2 (hC1 c o ho)
   ·exact I.ok.inj y y' c (qg y c p2) (qg y' c r2),
   fun y q=>by
    by_cases e:y=z
    ·exact ⟨h3.objs.size+1,by show ((z,h3.objs.size+1)::cl).lookup y=_;rw [e,List.lookup_cons_self]⟩
    ·obtain ⟨c,hc'⟩:=(hhas y q).resolve_left e
     exact ⟨c,by show ((z,h3.objs.size+1)::cl).lookup y=_;rw [EO,beq_false_of_ne e];exact hc'⟩,
   fun y c q a=>by
    rcases Bx a with ⟨p1,p2⟩ | ⟨p1,p2⟩
    ·rw [← p2];exact sQ _
    ·exact absurd (qP.mp q) p1,I.ok.hd,I.ok.frames,.inl rfl,
   fun b hb=>⟨by obtain ⟨o,e⟩:=tG b hb;exact hC b o e,fun y c a=>by
    rcases Bx a with ⟨p1,p2⟩ | ⟨p1,p2⟩
    ·obtain ⟨o,e⟩:=tG b hb
     rw [← p2];exact hC1 b o e
    ·exact (f2 b hb).2.2.2.2.1 y c (qg y c p2)⟩,I3.bs,dI I3.ok.VR I3.sz,
   fun b o e hb=>by
    rcases (f2 b hb).2.2.2.1 with z | z
    ·exact I.ok.Qe b o e z
    ·exact absurd (pS (dY (I.ok.bs b o e).1) z) (zN _),
   stk,I3.stack,I3.Hx⟩
 have I4:Inv 0#r [] (ko n none++kO cap σ) (upd H2 D (.lst [])) { s2 with heap:=h₁,toks:=s2.toks }:=by
  refine ⟨ok,rfl,I3.bare,Un.kept old,⟨_,xU,fun i y v e1 e2 e3=>?_⟩,fun y c a=>?_,I3.hok.fresh (dm _),fun y c a=>by
   rcases Bx a with ⟨p1,p2⟩ | ⟨p1,p2⟩
   ·rw [← p2];exact I3.hok.fresh (sQ _)
   ·exact I3.rE y c (qg y c p2),fun p hp=>?_,I3.hok.kept old,?_⟩
  ·by_cases hin:i<n
   ·rw [kZ (by rw [C3];exact hin),Ur,if_pos hin] at e2
    cases e2
   ·have XX:N'[i-n]?=some y:=by
     have z:(O++N')[i]?=some y:=e1
     rw [pR 0#c,hO] at z
     exact z
    have hi':i-n<cap.length:=by rw [← hcap.len];exact (fZ.mp XX).1
    obtain ⟨j,ej⟩:∃j,cap[i-n]?=some j:=⟨_,je hi'⟩
    obtain ⟨a1,a2,a3,a4⟩:=hcap.at (i-n) j y XX ej
    have V3:σ[j]?=some (some v):=by
     have z:(kO cap σ)[i-n]?=some (some v):=by
      rw [pR (by rw [C3];simp?),C3] at e2
      exact e2
     unfold kO at z
     rw [jQ,ej] at z
     have z2:(σ[j]?).getD none=some v:=by simpa using z
     cases q:σ[j]? with
     | none=>rw [q] at z2;cases z2
     | some o=>rw [q] at z2;exact congrArg some z2
    obtain ⟨m,hn,hl⟩:=I3.loc
    obtain ⟨u,r,l⟩:=hl j y v a1 V3 (.inr (.inl a2))
    refine ⟨u,r,.inr ⟨.inl a3,?_⟩⟩
    rcases l with ⟨k,_⟩ | ⟨_,c,ec,o,ho,hd⟩
    ·rw [a2] at k;cases k
    ·exact ⟨c,by
      show ((z,h3.objs.size+1)::cl).lookup y=_
      rw [EO,beq_false_of_ne (fun q=>hzN (by rw [← q];exact jL XX))]
      exact a4.trans ec,o,old c o ho,hd⟩
  ·rcases Bx a with ⟨p1,p2⟩ | ⟨p1,p2⟩
   ·rw [← p2];exact ⟨_,acS⟩
   ·obtain ⟨v,o,ho,hd⟩:=I3.cell y c (qg y c p2)
    exact ⟨v,o,old c o ho,hd⟩
  ·have C8:p∈X.pn++pins:=by simpa [dD] using hp
   obtain ⟨e,n,ne,nf,d⟩:=I3.pin p C8
   refine ⟨old _ _ e,n,hC _ _ e,fun z=>?_,d⟩
   rcases lg.mp (I3.yM p.1 z) with e | e
   ·exact ne e
   ·exact nf e
  ·show (ko n none++kO cap σ).length=(O++N').length
   unfold kO
   rw [cJ,cJ,C3,eV,hcap.len,hO]
 have loop:xy 0#l X.A (.compLoop 0#i 0 (.ref it) (.ref D) (compEnvC scope ((z,h3.objs.size+1)::cl) h3.objs.size X.env))
  (compPost 0#l X.A X.xe use Q' (.ref D) h3.objs.size) { s2 with heap:=h₁,toks:=s2.toks }:=by
  have fpk:∀{H':Hp},(∀b∈fp,H' b=none)→∀b∈fp,vI 0#r [] H' b:=fun hn b hb=>by
   obtain ⟨o,e⟩:=tG b hb
   refine ⟨hn b hb,hC b o e,stk b hb,.inl hb,fun y c a=>by
    rcases Bx a with ⟨p1,p2⟩ | ⟨p1,p2⟩
    ·rw [← p2];exact hC1 b o e
    ·exact (f2 b hb).2.2.2.2.1 y c (qg y c p2),fun p hp=>?_⟩
   have C8:p∈X.pn++pins:=by simpa [dD] using hp
   exact (f2 b hb).2.2.2.2.2 p C8
  refine vO (fun mm s'=>∃(i:Nat) (xs:List V) (H':Hp) (ly:L2.St),ly.length=n∧Inv 0#r [] (ly++kO cap σ) H' s'∧tn i s'.heap∧(∀b∈fp,H' b=none)∧W i mm xs H') ?_ m0
   ⟨0,[],_,ko n none,C3,I4,T.keep _ _ _ st2 fun b hb o e=>old b o (by rw [← hH3];exact jN _ e),fp3,w0⟩
  rintro mm s5 ⟨i,xs,H5,ly,aaZ,I5,Xw,fr5,w5⟩
  obtain ⟨e5,tw⟩:=turn i mm xs H5 w5
  rcases tw with ⟨stop,qn⟩ | ⟨go,hz,step⟩
  ·refine fF (T.done 0#r rfl rfl rfl hc i [] s5 _ H5 _ I5 (fpk fr5) Xw stop) fun r s6 ⟨hr,I6⟩=>?_
   subst hr
   obtain ⟨m,hn,_⟩:=id I6.loc
   have J6:L2.Inv X pins σ H5 s6:=I3.Rm (s':=s6) (ch:=fp) I6.os I6.base I6.hok I6.bare fun b hb=>by
    obtain ⟨_,g1,_,g3,g4,g5⟩:=f2 b hb
    exact ⟨g3,g1,g4,g5⟩
   exact fin D H5 s6 _ J6 (I3.Il (dm _) I6.free) ⟨m,hn⟩ qn
  ·refine fF (T.item 0#r rfl rfl rfl hc i [] s5 _ H5 _ I5 (fpk fr5) Xw go) fun r s6 ⟨u,hr,h6⟩=>?_
   subst hr
   refine fF h6 fun _ s7 ⟨xv,H7,I7,r7,y7,st7,fr7⟩=>?_
   have I7':=I7.pinned (fpk fr7) (T.obj _ _ st7)
   refine pT (hg _ _ _ _ _ _ s7 _ H7 xv u _ I7' r7 (step xv H7 ly aaZ y7)) (fun _ s8 ⟨σ2,H8,I8,⟨σ1,Sd,e2⟩,q8⟩=>?_) fun _ _ z=>z.elim
   refine pT (FN _ _ _ _ _ _ s8 σ2 H8 _ I8 q8) (fun ok s9 ⟨H9,I9,q9⟩=>?_) fun _ _ z=>z.elim
   subst e2
   have keep:∀{s':aU} {σ':L2.St} {H':Hp},Inv 0#r ([]++yq fp s7.heap) σ' H' s'→tn (i+1) s'.heap∧∀b∈fp,H' b=none:=fun {s' σ' H'} J=>
    ⟨T.keep _ _ _ st7 fun b hb o e=>(J.pin (b,o) (vD _ (vD _ (jX hb e)))).1,fun b hb=>by
     obtain ⟨o,e,d⟩:=T.obj _ _ st7 b hb
     exact (J.pin (b,o) (vD _ (vD _ (jX hb e)))).2.1⟩
   cases ok with
   | false=>
     rw [if_neg eO] at q9 ⊢
     obtain ⟨m',hm,w9⟩:=q9
     exact ⟨m',hm,i+1,xs,H9,σ1,Sd,I9.nB,(keep I9).1,(keep I9).2,w9⟩
   | true=>
     rw [if_pos rfl] at q9 ⊢
     refine pT (helt _ _ _ _ _ _ s9 _ H9 _ I9 q9) (fun yv qK ⟨y,tE,I10,r10,HF,m',hm,w10⟩=>?_) fun _ _ z=>z.elim
     refine pT (ya (X:=dD X (O++N') scope z cl h3.objs.size { s2 with heap:=h3,toks:=s2.toks } (upd H2 D (.lst [])) fp (X.pn++pins)) _ qK _ tE (.ref D) [y] (.ref D) [yv] (fun _ H'=>H'=upd tE D (.lst (xs++[y]))) I10 rfl (.cons r10 .nil) ⟨D,xs,y,rfl,rfl,HF,hz,rfl⟩) (fun _ Ex ⟨_,KC,I11,_,Ry⟩=>?_) fun _ _ z=>z.elim
     subst Ry
     exact ⟨m',hm,i+1,xs++[y],_,σ1,Sd,I11.nB,(keep I11).1,(keep I11).2,w10⟩
 exact YJ loop (T.self _ 0 _ _ _ (T.keep _ _ _ st2 fun b hb o e=>old b o (by rw [← hH3];exact jN _ e)) loop)
theorem jC.own (h:jC names z):∀y∈names,y.2=.cell→y.1=z:=fun y hy e=>by
 have:y∈names.filter (fun p=>p.2==NameKind.cell):=vG.mpr ⟨hy,by rw [e];rfl⟩
 unfold jC at h
 rw [h] at this
 rw [UL.mp this]
theorem GI (h:fM env.cells scope.names=true) (hz:jC scope.names z) (y:Str)
 (q:(relabel scope env).names.lookup y=some .cell∨(relabel scope env).names.lookup y=some .free):y=z∨∃c,(dZ env.cells scope.names []).lookup y=some c:=by
 have m:y=z∨(y,NameKind.free)∈scope.names:=by
  rcases q with q | q
  all_goals
   have m:=pA q
   unfold relabel at m
   obtain ⟨⟨n,k⟩,hm,e⟩:=eU.mp m
   dsimp only at e
   split at e
   ·rename_i hc
    rw [vF,vF] at hc
    have hk:k=.free:=by simpa using hc.1.1
    subst hk
    cases e
    first | exact .inr hm | done
   ·cases e
    first | exact .inr hm | exact .inl (hz.own _ hm rfl)
 rcases m with m | m
 ·exact .inl m
 ·obtain ⟨c,hc⟩:=xQ h m
  exact .inr ⟨c,uN m hc⟩
theorem BR (hN:X.N.Nodup) (hix:X.N[i]?=some x) (hx:Loc X.env.scope x) (hc:X.calm=true) (hi:PI X tg iter wi)
 (hg:∀(C:ao) (s0:aU) (H0:Hp) (ex':List ao) (gm:List (ao×Obj)),PG (dD X (O++N') scope z (dZ X.env.cells scope.names []) C s0 H0 ex' gm) tg g)
 (FN:∀(C:ao) (s0:aU) (H0:Hp) (ex':List ao) (gm:List (ao×Obj)),Vv (dD X (O++N') scope z (dZ X.env.cells scope.names []) C s0 H0 ex' gm) ifs tt)
 (helt:∀(C:ao) (s0:aU) (H0:Hp) (ex':List ao) (gm:List (ao×Obj)),PE (dD X (O++N') scope z (dZ X.env.cells scope.names []) C s0 H0 ex' gm) elt te)
 (hO:O.length=n) (hcap:Dc X scope N' cap) (hf:fM X.env.cells scope.names=true) (hz:jC scope.names z) (hzN:z∉N') (hkind:scope.kind=.function) (hnames:∀y∈scope.names,y.2=.local→scope.names.lookup y.1=some .local)
 (hsw:jI 0#i (some (.Name x pos')) spos.line X.env=pure true)
 (hs:∀z,Ay iter X.env z=pure z:=by intro _;rfl) (hfn:X.fn x=true∨X.env.scope.names.lookup x=some .local:=by first | exact .inl rfl | exact .inr rfl | assumption) :
 PS X (.Assign [.Name x pos'] 0#i spos) (Aq (sM wi n cap g tt te) (ia i)):=by
 intro pins s σ H D I h
 rw [YQ _ _ _ _ hsw]
 refine cX (CP (cX ?_))
 show bF _ _ (comprehension 0#i scope X.env _ (newList []) false (eval iter X.env) (some (assign (.Name x pos') X.env)) >>= fun _=>pure ()) _ _ s
 refine cX (Ph (some (assign (.Name x pos') X.env)) (fun _ s'=>bF _ _ (pure ()) _ _ s') hc hi hg FN helt hO (hcap.ok hf) (uP hf) hz hzN hkind hnames (fun _ _=>qf) (GI hf hz) hs I h fun Dl H5 s6 C J fC ⟨m,hn⟩ q=>?_)
 refine UO (yN J hN hix hx (show RelV (.ref Dl) (.ref Dl) from rfl) (fun s7 I7 ⟨a,sb,ha⟩=>⟨m,hn.sameBut sb ?_,fun h' sb'=>jx (jx ⟨_,H5,FO I7 fC sb',q⟩)⟩) hfn)
 rcases ha with rfl | e
 ·exact fC.2.1
 ·exact fun z=>fC.2.2.2.2.1 x a e z.symm
end
end My
namespace Jd
open PySem PySem.Spec PyProof.Rows L2 My
section
theorem BR (z:Str) (hN:X.N.Nodup) (hix:X.N[i]?=some x) (hx:Loc X.env.scope x) (hc:X.calm=true) (hi:QI X tg iter wi)
 (hg:∀(C:ao) (s0:aU) (H0:Hp) (ex':List ao) (gm:List (ao×Obj)),QG (dD X (O++N') scope z (dZ X.env.cells scope.names []) C s0 H0 ex' gm) tg g)
 (FN:∀(C:ao) (s0:aU) (H0:Hp) (ex':List ao) (gm:List (ao×Obj)),QTs (dD X (O++N') scope z (dZ X.env.cells scope.names []) C s0 H0 ex' gm) ifs tt)
 (helt:∀(C:ao) (s0:aU) (H0:Hp) (ex':List ao) (gm:List (ao×Obj)),QE (dD X (O++N') scope z (dZ X.env.cells scope.names []) C s0 H0 ex' gm) elt te)
 (hO:O.length=n) (hcap:Dc X scope N' cap) (hf:fM X.env.cells scope.names=true) (hz:jC scope.names z) (hzN:z∉N') (hkind:scope.kind=.function) (hnames:∀y∈scope.names,y.2=.local→scope.names.lookup y.1=some .local)
 (hsw:jI 0#i (some (.Name x pos')) spos.line X.env=pure true)
 (hs:∀z,Ay iter X.env z=pure z:=by intro _;rfl) (hfn:X.fn x=true∨X.env.scope.names.lookup x=some .local:=by first | exact .inl rfl | exact .inr rfl | assumption) :
 QS X (.Assign [.Name x pos'] 0#i spos) (Aq (sM wi n cap g tt te) (ia i)):=
 ⟨My.BR hN hix hx hc hi.h (fun C s0 H0 ex' gm=>(hg C s0 H0 ex' gm).h) (fun C s0 H0 ex' gm=>(FN C s0 H0 ex' gm).h) (fun C s0 H0 ex' gm=>(helt C s0 H0 ex' gm).h) hO hcap hf hz hzN hkind hnames hsw hs hfn⟩
end
end Jd
namespace My
open PySem PySem.Spec PySem.Calls PyProof.Rows L2 Mth
structure DnK (P:gX) (w:di) (K:bM) (mg:Str→Option aH) (base:b8) (k:Nat) (x:Str) (ps:List Str) (sp:Sp) (p6:Str):Prop where
 ex:∃(f:ao) (fd:iS),bg P w K mg base cM k f fd ps sp∧mg x=some (.ref f)∧uq K (.ref f)=true∧ps.length=6∧∀(s:aU) (us:List aH) (v:aH),K.In s.heap→us.length=5→zV s fd ⟨us,[(p6,v)]⟩ (ps.zip (us++[v]))
theorem E5.WB {K:bM} {st:aQ} (F:E5 K x qual st f fd d) 
 (h2:∀(T:ao) (kV doc pm:aH) (an:Option ao) (cdv ct a b c e g i:aH),∃k,sU (oV x qual (dF st) (cV st) (ah st) (.ref T) kV doc pm an cdv ct) ⟨[a,b,c,e,g],[(p6,i)]⟩=seqItems? (.ref T) >>= k∧k (some #[d])=pure [(p1,a),(p2,b),(p3,c),(p4,e),(p5,g),(p6,i)]) :
 ([p1,p2,p3,p4,p5,p6]:List Str).length=6∧∀(s:aU) (us:List aH) (v:aH),K.In s.heap→us.length=5→zV s fd ⟨us,[(p6,v)]⟩ ([p1,p2,p3,p4,p5,p6].zip (us++[v])):=by
 obtain ⟨T,oc,od,kV,doc,pm,an,cdv,ct,osl,tc,td,tn,Yq,rfl,lk,hcd,ht⟩:=F.ex
 refine ⟨rfl,fun s us v X hl=>?_⟩
 match us,hl with
 | [a,b,c,e,g],_=>
   obtain ⟨k,q,r⟩:=h2 T kV doc pm an cdv ct a b c e g v
   exact UD rfl (X _ _ ht) rfl q r
theorem L7 (D:DnK X.prog X.w X.K X.mg X.base k x ps sp p6) (hr:gT k X.A) (hg:Gl X x) (ha:PA X (e::es) t) (hv:PE X ke (tC (.bl b)))
 (hall:(jJ pos (qG [⟨some p6,ke,kpos⟩] X.env)).all (·.1.isSome)=true:=by rfl) (hks:(jJ pos (qG [⟨some p6,ke,kpos⟩] X.env)).filterMap (·.1)=[p6]:=by rfl)
 (hdb:0#w=false:=by decide) (he:aY (e::es) X.env=(false,eval e X.env)::aY es X.env:=by rfl)
 (hpl:((gC pos (aY (e::es) X.env)).any (·.1)||(jJ pos (qG [⟨some p6,ke,kpos⟩] X.env)).any (·.1.isNone))=false:=by rfl) :
 PE X (.Call (.Name x p) (e::es) [⟨some p6,ke,kpos⟩] pos) (qN sp [.bl b] E0 t):=by
 obtain ⟨f,fd,F,hm,hk,h6,hb⟩:=D.ex
 intro pins s σ H Q I h
 refine JY (AI I hg hm ?_ hdb)
 refine PySem.W.callWith_KW (h₀:=X.base) I.ok.mod.kin hk hall (fF (ha pos pins s σ H _ I h) fun us s1 ⟨vs,H1,I1,r,q⟩=>?_) hpl he
 have hkw:PK X [⟨some p6,ke,kpos⟩] (dN (tC (.bl b)) nA):=Xb hv abx
 refine fF (hkw pos pins s1 σ H1 (fun zs H2=>zs=[.bl b]∧H2=H1) I1 ⟨rfl,rfl⟩) fun ws s2 ⟨zs,H2,I2,rz,e1,e2⟩=>⟨I2.xX,?_⟩
 subst e1 e2
 rw [hks]
 obtain ⟨w1,rfl,rw1⟩:=vals1 rz
 have hl:=F.len _ _ _ _ q
 rw [cJ,h6] at hl
 have hl5:us.length=5:=by
  have:=r.length
  have e:vs.length+1=6:=hl
  simp?
 have r2:Vals (vs++[.bl b]) (us++[w1]):=r.append rz
 refine Vn (J9 (F.run X.A X.stack s2 H2 ⟨us,[(p6,w1)]⟩ (us++[w1]) (vs++[.bl b]) Q E0 hr I2.aax (hb s2 us w1 I2.xX hl5) r2 q) fun r s' hq=>?_)
 cases r with
 | error e=>exact El pins σ H2 s2 e s' I2 hq
 | ok fl=>
   cases fl with
   | ret u=>exact I2.after hq
   | next=>exact lW hq
   | brk=>exact lW hq
   | cont=>exact lW hq
end My
namespace Jd
open PySem PySem.Spec PyProof.Rows L2 My
theorem L7 (D:DnK X.prog X.w X.K X.mg X.base k x ps sp p6) (hr:gT k X.A) (hg:Gl X x) (ha:QA X (e::es) t) (hv:QE X ke (tC (.bl b)))
 (hall:(jJ pos (qG [⟨some p6,ke,kpos⟩] X.env)).all (·.1.isSome)=true:=by rfl) (hks:(jJ pos (qG [⟨some p6,ke,kpos⟩] X.env)).filterMap (·.1)=[p6]:=by rfl)
 (hdb:0#w=false:=by decide) (he:aY (e::es) X.env=(false,eval e X.env)::aY es X.env:=by rfl)
 (hpl:((gC pos (aY (e::es) X.env)).any (·.1)||(jJ pos (qG [⟨some p6,ke,kpos⟩] X.env)).any (·.1.isNone))=false:=by rfl) :
 QE X (.Call (.Name x p) (e::es) [⟨some p6,ke,kpos⟩] pos) (qN sp [.bl b] E0 t):=⟨My.L7 D hr hg ha.h hv.h hall hks hdb he hpl⟩
end Jd
namespace Jd
open PySem PySem.Spec PyProof.Rows L2 Mth My
def AM:bf→Bool
 | .Starred ..=>false
 | _=>true
theorem nv (h:AM e=true):aY (e::es) env=(false,eval e env)::aY es env:=by
 cases e <;> first | rfl | cases h
section
theorem a1 {X:Cx} {a:bf} {ta:TE} (h1:QE X a ta) (n1:AM a=true:=by rfl):QA X [a] (dN ta nA):=kE h1 u5 (nv n1)
theorem a2 {X:Cx} {a b:bf} {ta tb:TE} (h1:QE X a ta) (h2:QE X b tb) (n1:AM a=true:=by rfl) (n2:AM b=true:=by rfl):QA X [a,b] (dN ta (dN tb nA)):=kE h1 (a1 h2 n2) (nv n1)
theorem a3 (h1:QE X a ta) (h2:QE X b tb) (h3:QE X c tc) (n1:AM a=true:=by rfl) (n2:AM b=true:=by rfl) (n3:AM c=true:=by rfl):QA X [a,b,c] (dN ta (dN tb (dN tc nA))):=kE h1 (a2 h2 h3 n2 n3) (nv n1)
theorem a4 (h1:QE X a ta) (h2:QE X b tb) (h3:QE X c tc) (h4:QE X d td) (n1:AM a=true:=by rfl) (n2:AM b=true:=by rfl) (n3:AM c=true:=by rfl) (n4:AM d=true:=by rfl):QA X [a,b,c,d] (dN ta (dN tb (dN tc (dN td nA)))):=kE h1 (a3 h2 h3 h4 n2 n3 n4) (nv n1)
theorem c1 (D:Dn X.prog X.w X.K X.mg X.base k x ps sp) (hr:gT m X.A) (h1:QE X a ta) (hk:k≤m:=by decide) (hg:Gl X x:=by rfl) (hd:0#w=false:=by decide) (n1:AM a=true:=by rfl):QE X (.Call (.Name x p) [a] [] pos) (qN sp [] E0 (dN ta nA)):=Eo D (hr.mono hk) hg (a1 h1 n1) hd (nv n1) bS
theorem c2 {X:Cx} {a b:bf} {ta tb:TE} {pos p:Pos} {x:Str} {k m:Nat} {ps:List Str} {sp:Sp} (D:Dn X.prog X.w X.K X.mg X.base k x ps sp) (hr:gT m X.A) (h1:QE X a ta) (h2:QE X b tb) (hk:k≤m:=by decide) (hg:Gl X x:=by rfl) (hd:0#w=false:=by decide) (n1:AM a=true:=by rfl) (n2:AM b=true:=by rfl):QE X (.Call (.Name x p) [a,b] [] pos) (qN sp [] E0 (dN ta (dN tb nA))):=Eo D (hr.mono hk) hg (a2 h1 h2 n1 n2) hd (nv n1) (bB (nv n2) bS)
theorem c3 (D:Dn X.prog X.w X.K X.mg X.base k x ps sp) (hr:gT m X.A) (h1:QE X a ta) (h2:QE X b tb) (h3:QE X c tc) (hk:k≤m:=by decide) (hg:Gl X x:=by rfl) (hd:0#w=false:=by decide) (n1:AM a=true:=by rfl) (n2:AM b=true:=by rfl) (n3:AM c=true:=by rfl):QE X (.Call (.Name x p) [a,b,c] [] pos) (qN sp [] E0 (dN ta (dN tb (dN tc nA)))):=Eo D (hr.mono hk) hg (a3 h1 h2 h3 n1 n2 n3) hd (nv n1) (bB (nv n2) (bB (nv n3) bS))
theorem afF {X:Cx} {a:bf} {ta:TE} {pos p:Pos} (K:bM) (hm:X.mg "len"=none) (h1:QE X a ta) (h:X.K=K:=by rfl) (hg:Gl X "len":=by rfl) (n1:AM a=true:=by rfl):QE X (.Call (.Name "len" p) [a] [] pos) (tCB (abA K) (dN ta nA)):=by
 subst h
 exact wg (abe X.K) hg hm OY (a1 h1 n1) (he:=nv n1) (hpl:=bS)
theorem iT {X:Cx} {a:bf} {ta:TE} {pos:Pos} (K:bM) (h1:QE X a ta) {n:Int} {j:Nat} {q:Pos} (h:X.K=K:=by rfl):QE X (.Subscript a (.Constant (.int n) j q) pos) (HA (BV K) ta (tC (.int n))):=by
 subst h
 exact Jo (HH X.K) h1 BO fun _ _=>rfl
theorem iL {X:Cx} {a:bf} {ta:TE} {pos:Pos} (K:bM) (h1:QE X a ta) {n:Int} {j:Nat} {q:Pos} (h:X.K=K:=by rfl):QE X (.Subscript a (.Constant (.int n) j q) pos) (HA (Jr K) ta (tC (.int n))):=by
 subst h
 exact Jo (lS X.K) h1 BO fun _ _=>rfl
theorem sE {X:Cx} {e:bf} {te:TE} {pos:Pos} {x:Str} (i:Nat) {pos':Pos} (hN:X.N.Nodup) (he:QE X e te) (hi:X.N[i]?=some x:=by rfl) (hx:Loc X.env.scope x:=by exact Or.inl rfl) (hs:jI e (some (.Name x pos')) pos.line X.env=pure false:=by rfl) (hf:X.fn x=true∨X.env.scope.names.lookup x=some .local:=by first | exact .inl rfl | exact .inr rfl | assumption):QS X (.Assign [.Name x pos'] e pos) (Aq te (ia i)):=Gy hN hi hx he hs hf
end
end Jd
namespace My
open PySem PySem.Spec PyProof.Rows L2 Mth
def adv (n:Bool):R2:=fun y x H Q=>∃a o,x=.ref a∧uF H a y o∧Q (.bl (if n then !o.isSome else o.isSome)) H
theorem SW (hu:X.A.units+64<oq):oW X (kr .In) (adv false):=by
 intro pins s σ H y x v u Q I ry rx h
 obtain ⟨a,o,rfl,g,q⟩:=h
 cases rx
 exact afb 0#c I g ry fun s3 I3=>⟨.bl o.isSome,H,I3,rfl,q⟩
theorem W4 (hu:X.A.units+64<oq):oW X (kr .NotIn) (adv true):=by
 intro pins s σ H y x v u Q I ry rx h
 obtain ⟨a,o,rfl,g,q⟩:=h
 cases rx
 exact VW 0#c I g ry fun s3 I3=>⟨.bl (!o.isSome),H,I3,rfl,q⟩
theorem abJ (h:td σ H fun x H1=>ty σ H1 fun y H2=>∃a v,x=.ref a∧uF H2 a y (some v)∧Q v H2):Ub td ty σ H Q:=h
theorem abK (h:tv σ H fun v H1=>td σ H1 fun x H2=>ty σ H2 fun y H3=>∃a H4,x=.ref a∧EZ H3 a y v H4∧D.nx σ H4):Oa td ty tv D σ H:=h
theorem GG (h:∀(p:ao) (H':Hp),aq H H'→H p=none→H' p=some (.dK [])→Q (.ref p) H'):M3 σ H Q:=fun p np=>h p _ (fW np _) np av
end My
namespace Jd
open PySem PySem.Spec PyProof.Rows L2 My
theorem rQ:QE X (.Dict [] [] pos) M3:=⟨L2.rQ⟩
theorem wj (hu:X.A.units+64<oq) (ho:QE X o td) (hi:QE X i ty) (hs:aaf i):QE X (.Subscript o i pos) (Ub td ty):=⟨L2.wj 0#c ho.h hi.h hs⟩
theorem wu (hu:X.A.units+64<oq) (ho:QE X o td) (hi:QE X i ty) (hv:QE X value tv) (hs:jI value (some (.Subscript o i pos')) pos.line X.env=pure false:=by rfl) :
 QS X (.Assign [.Subscript o i pos'] value pos) (Oa td ty tv):=⟨L2.wu 0#c ho.h hi.h hv.h hs⟩
end Jd
abbrev aa:=@Jd.pv
abbrev au:=@Jd.BS
abbrev aB:=@Jd.BO
abbrev aG:=@Jd.GA
abbrev aJ:=@Jd.Tc
abbrev aK:=@Jd.iT
abbrev aN:=@Jd.sE
abbrev aR:=@Jd.Mp
abbrev bh:=@Jd.GB
abbrev bD:=@Jd.go
abbrev bK:=@Jd.Tf
abbrev bQ:=@Jd.Gq
abbrev bR:=@Jd.Mh
abbrev bT:=@Jd.a2
abbrev bW:=@Jd.Gz
abbrev bX:=@Jd.kE
abbrev b9:=@Jd.c2
abbrev cy:=@Jd.Jo
abbrev cO:=@Jd.a1
abbrev cW:=@Jd.iL
abbrev dP:=@Jd.Mb
abbrev dW:=@Jd.Mc
abbrev eN:=@Jd.Ma
abbrev gc:=@Jd.u5
abbrev gE:=@Jd.Gw
abbrev gU:=@Jd.piL
abbrev cR:=@Jd.afF
abbrev d7:=@Jd.aan
abbrev d8:=@Jd.BQ
abbrev d9:=@Jd.Eo
abbrev fj:=@Jd.wg
abbrev fK:=@Jd.Mn
abbrev ic:=@Jd.Gn
abbrev iD:=@Jd.Mm
abbrev jj:=@Jd.BP
abbrev jk:=@Jd.Gu
abbrev jl:=@Jd.Gv
abbrev jm:=@Jd.Td
abbrev jn:=@Jd.GC
abbrev jA:=@Jd.Gp
abbrev jR:=@Jd.ae5
abbrev kP:=@Jd.Mg
abbrev lT:=@Jd.S4
abbrev nO:=@Jd.Gy
abbrev o6:=@Jd.Gr
abbrev o7:=@Jd.Mq
abbrev rG:=@Jd.Mf
abbrev Bs:=@Jd.yp
local macro_rules | `(tactic| rw?) => `(tactic| repeat (first
 | apply_rules (transparency:=.reducible) (exfalso:=false) (symm:=false) only [My.adO,My.adP,My.adN,My.abL,My.afW,My.abR,My.Xf,My.adD,My.abV,My.abQ,My.abO,My.r_c,My.afY,My.af5,My.adB,My.r_U,My.abW,My.r_B,My.afS,My.afU,My.abI,My.adJ,My.adQ,My.adG,My.abG,My.Xe,My.adM,My.r_g,My.abD,My.abF,My.abH,My.adT,My.abN,My.adH,My.adI,My.adR,My.afT,My.adK,My.adC,My.afZ,My.abE,My.adL,My.abS,My.adF]
  | ((with_reducible refine' My.adS ?e1 ?_); (case e1 => rfl))
  | ((with_reducible refine My.iC ?e7 ?_); (case e7 => first | decide | assumption | exact ⟨by decide, by decide, by decide⟩ | (show (0 : Int) < _; first | decide | simp?) | exact My.mulR (by decide) (by decide) | exact My.mulL (by decide) (by decide)))
  | ((with_reducible refine My.afV ?e2 ?_); (case e2 => rfl))
  | ((with_reducible refine My.afX ?e3 ?_); (case e3 => rfl))
  | ((with_reducible refine' My.af2 ?e4 ?_); (case e4 => assumption))
  | ((with_reducible refine' My.Xh ?e5 ?_); (case e5 => assumption))
  | ((with_reducible refine' My.af3 ?e6 ?_); (case e6 => assumption))
  | ((with_reducible refine' My.af4 ?e8 ?_); (case e8 => assumption))))
local macro_rules | `(tactic| try?) => `(tactic| first
 | assumption
 | exact ur (by assumption)
 | exact CT (by assumption) (by assumption)
 | exact pS (by assumption) (by assumption)
 | exact dI (by assumption) (by assumption)
 | exact EV (by assumption)
 | exact Int.ne_of_gt (by assumption)
 | exact Int.ne_of_lt (by assumption)
 | exact OG _
 | lia
 | omega)
local macro_rules | `(tactic| walk_at "fx") => `(tactic| (refine' My.acL ?a ?l ?c ?k; (case a => k_is); (case l => k_is); (case c => k_is); (case k => k_is)))
local macro_rules | `(tactic| walk_at "fm") => `(tactic| (refine' My.acK ?a ?i ?l ?c ?k; (case a => k_is); (case i => k_is); (case l => k_is); (case c => k_is); (case k => k_is)))
local macro_rules | `(tactic| walk_at "fi") => `(tactic| (refine' My.acJ ?a ?o ?i ?l ?c ?k; (case a => k_is); (case o => kernel_rfl); (case i => k_is); (case l => k_is); (case c => k_is); (case k => k_is)))
local macro_rules | `(tactic| walk_at "fd") => `(tactic| (refine' My.aaJ ?a ?l ?t ?c ?k; (case a => k_is); (case l => k_is); (case t => k_is); (case c => k_is); (case k => k_is)))
local macro_rules | `(tactic| walk_at "fb") => `(tactic| (refine' My.aaI ?a ?l ?t ?c ?k; (case a => k_is); (case l => k_is); (case t => k_is); (case c => k_is); (case k => k_is)))
local macro_rules | `(tactic| walk_at "fg") => `(tactic| (refine' My.acM ?h ?l; (case h => k_is); (case l => k_is)))
local macro_rules | `(tactic| walk_at "fz") => `(tactic| first | walk_at "fx" | walk_at "fd" | walk_at "fb" | walk_at "fg" | walk_at "fm" | walk_at "fi" | k_is | k_exc | kts_exm | kit_is)
local macro_rules | `(tactic| walk_at "vs") => `(tactic| first
  | with_reducible refine My.af1 ?_
  | with_reducible refine My.abT ?_
  | with_reducible refine My.Tn ?_
  | with_reducible refine My.af0 ?_)
local macro_rules | `(tactic| walk_at "vd") => `(tactic| ((rw?); (repeat ((walk_at "vs"); (rw?)))))
local macro_rules | `(tactic| walk_at "ve") => `(tactic| ((rw?); (repeat ((first | with_reducible refine My.abJ ?_ | with_reducible refine My.abK ?_); (rw?)))))
--@dict
--@skip _law_spots
--@squeeze
--@short
--@mini
--@ind
--@pack 28
--@twins 500
namespace Lw
open PySem L2 Mth My
def top (i:Nat):aQ:=PySem.Challenge.pw_lath_k64_threes_that_show.main.body.getD i (.Pass ⟨0,0,0,0⟩)
abbrev vj:aQ:=top 102
abbrev yz:aQ:=top 103
abbrev yC:aQ:=top 104
abbrev r6:aQ:=top 105
abbrev lN:aQ:=top 9
abbrev j6:aQ:=top 10
abbrev yu:aQ:=top 11
abbrev GR:aQ:=top 13
abbrev yE:aQ:=top 14
abbrev qv:aQ:=top 15
abbrev oM:aQ:=top 16
abbrev oO:aQ:=top 17
abbrev GP:aQ:=top 19
abbrev MB:aQ:=top 18
abbrev MA:aQ:=top 21
abbrev kI:aQ:=top 33
abbrev oK:aQ:=top 34
abbrev m8:aQ:=top 35
abbrev sr:aQ:=top 36
abbrev GV:aQ:=top 37
abbrev yD:aQ:=top 38
abbrev B5:aQ:=top 39
abbrev Mz:aQ:=top 40
abbrev GQ:aQ:=top 22
abbrev GU:aQ:=top 23
abbrev oN:aQ:=top 42
abbrev MC:aQ:=top 31
abbrev qq:aQ:=top 106
abbrev se:aQ:=top 107
abbrev qp:aQ:=top 108
abbrev rZ:aQ:=top 109
abbrev qo:aQ:=top 110
abbrev r9:aQ:=top 111
abbrev vc:aQ:=top 25
abbrev vq:aQ:=top 26
abbrev mY:aQ:=inClass (top 66) 0
abbrev lK:aQ:=top 64
abbrev lO:aQ:=top 65
abbrev lI:aQ:=inClass (top 66) 1
abbrev mZ:aQ:=inClass (top 66) 2
abbrev su:aQ:=top 67
abbrev ng:aQ:=top 57
abbrev oG:aQ:=top 58
abbrev oR:aQ:=top 59
abbrev rY:aQ:=top 60
abbrev lJ:aQ:=top 61
abbrev GW:aQ:=top 43
abbrev GX:aQ:=top 20
abbrev Mw:aQ:=top 62
abbrev oQ:aQ:=top 69
abbrev qj:aQ:=top 70
abbrev m7:aQ:=top 71
abbrev GN:aQ:=top 72
abbrev vo:aQ:=top 24
abbrev ql:aQ:=top 74
abbrev yG:aQ:=top 75
abbrev rV:aQ:=inClass (top 76) 0
abbrev mX:aQ:=inClass (top 76) 4
abbrev iH:aQ:=inClass (top 76) 2
abbrev iI:aQ:=inClass (top 76) 3
abbrev rW:aQ:=inClass (top 76) 1
abbrev lH:aQ:=inClass (top 76) 5
abbrev vn:aQ:=top 78
abbrev vp:aQ:=top 79
abbrev m9:aQ:=top 80
abbrev B6:aQ:=top 81
abbrev vm:aQ:=top 112
abbrev vf:aQ:=top 46
abbrev jc:aQ:=top 47
abbrev yw:aQ:=top 48
abbrev Mx:aQ:=top 44
abbrev yy:aQ:=top 49
abbrev sq:aQ:=top 50
abbrev jb:aQ:=top 51
abbrev GS:aQ:=top 55
abbrev r8:aQ:=top 113
abbrev qu:aQ:=top 114
abbrev lM:aQ:=top 115
abbrev j5:aQ:=top 116
abbrev vg:aQ:=top 120
abbrev j4:aQ:=top 117
abbrev qm:aQ:=top 118
abbrev vh:aQ:=top 119
abbrev oJ:aQ:=top 12
abbrev vd:aQ:=top 29
abbrev yt:aQ:=top 30
abbrev rX:aQ:=top 97
abbrev oH:aQ:=top 98
abbrev yF:aQ:=top 99
abbrev B4:aQ:=top 100
abbrev TH:aQ:=top 121
inductive MO (K:bM) (vs:List V) (H:Hp) (Q:VK) (E_:XK):Prop where
 | mk (a:ao) (ns:List Int) (i:Int):vs=[.ref a,.int i]→aW K H a (ns.map V.int)→0≤i→i<1000→(∀(c:Int) (H':Hp),aq H H'→Q (.int c) H')→MO K vs H Q E_
inductive T6 (vs:List V) (H:Hp) (Q:VK) (E_:XK):Prop where
 | mk (c k:Int):vs=[.int c,.int k]→0≤k→k<1000→(∀z:Int,Q (.int z) H)→T6 vs H Q E_
inductive Oj (K:bM) (vs:List V) (H:Hp) (Q:VK) (E_:XK):Prop where
 | mk (a:ao) (ns:List Int) (i:Int) (l:ao) (zs:List Int):vs=[.ref a,.int i,.ref l]→aW K H a (ns.map V.int)→0≤i→i<900→H l=some (.lst (zs.map V.int))→zs.length≤900→(∀z∈zs,0<z∧z<2 ^ 60)→(∀(p:ao) (xs:List Int) (H':Hp),aq H H'→H p=none→H' p=some (.lst (xs.map V.int))→xs.length=zs.length→(∀(j:Nat) (x z:Int),xs[j]?=some x→zs[j]?=some z→0≤x∧x<z)→Q (.ref p) H')→Oj K vs H Q E_
inductive wO (vs:List V) (H:Hp) (Q:VK) (E_:XK):Prop where
 | mk (t b:Int):vs=[.int t,.int b]→0<b→Sz 8000 b→(∀(p:ao) (t' b':Int) (H':Hp),aq H H'→H' p=some (.tup [.int t',.int b'])→XN t b t' b'→Q (.ref p) H')→wO vs H Q E_
structure Txt (mg:Str→Option aH):Prop where
 gA:mg "len"=none
 zZ:mg "abs"=none
 range:mg "range"=none
 nN:mg "isinstance"=none
 afD:mg "int"=none
 XU:mg "bool"=none
 CF:mg "tuple"=none
 Sn:mg "list"=none
 abi:mg "max"=none
 ada:mg "min"=none
 KR:mg "enumerate"=none
 Up:mg "zip"=none
 aal:mg "all"=none
 agd:mg "any"=none
 agt:mg "sum"=none
 Oh:mg "sorted"=none
 aco:mg "reversed"=none
 ags:mg "str"=none
theorem Wv {ns:List Int} (h0:0≤i) (h:i<(ns.length:Int)):∃v:Int,xE (ns.map V.int) i=some (.int v):=by
 have hk:i.toNat<ns.length:=by try?
 exact ⟨ns[i.toNat],aV (je hk) 0#d⟩
theorem VV {ns:List Int} {i:Nat} (h:(oE (ns.map V.int) lo hi)[i]?=some y):∃m:Int,y=.int m:=by
 have hm:y∈oE (ns.map V.int) lo hi:=jL h
 unfold oE at hm
 obtain ⟨m,_,e⟩:=eU.mp (OD (UA hm))
 exact ⟨m,e.symm⟩
theorem NP (x y:Nat):((x:Int) % (y:Int))=((x % y:Nat):Int):=(Int.natCast_emod x y).symm
theorem iR (t:Int):(if t<0 then -t else t)=(t.natAbs:Int):=by split <;> try?
def Rp (i:Nat) (σ:St):Nat:=match σ[i]? with | some (some (V.int n))=>n.toNat | _=>0
def Yp (σ:St):Nat:=match σ[3]? with | some (some (V.int n))=>n.toNat | _=>0
section
theorem nW:aE ["_law_script","_law_place","_law_seed","_law_cell_here"] ["_law_script","_law_place"] (ah vj):=0#a
theorem Jg (F:cH K "_law_cell" "_law_cell" vj f fd) (T:Txt mg):bg P w K mg base cM 1 f fd ["_law_script","_law_place"] (MO K):=by
 refine F.ok nW 0#e 0#b
 ·obtain ⟨a,ns,i,rfl,_⟩:=h
  rfl
 obtain ⟨a,ns,i,rfl,hS,h0,h1,k⟩:=h
 refine bD ⟨_,(au (bK (bh lU 0#x (cR K T.gA 0#m) (aD _)) (aG (aR (cy (lS K) 0#m 0#x 0#o))) bW) (au (aN 2 nW.nd aB) (au (fK iM rfl (gU K (jj (EB K) 0#m jk (jl aB))) (bQ (i:=3) nW.nd rfl 0#n) (aG (aN 2 nW.nd (aJ fG (aJ bO (aJ bO (aJ aT (aa 2) aB) (aJ fG (aa 3) aB)) aB) aB)))) (aG (aR (aJ fG (aJ bO (aa 2) (aJ aT aB 0#x)) aB)))))),?_⟩
 rw?
 refine cE (.inl hS) ?_
 rw?
 refine cu (fun c=>?_) (fun c=>?_)
 ·have c':=c6 c
  rw [eV] at c'
  obtain ⟨v,hv⟩:=Wv (ns:=ns) h0 c'
  rw?
  exact ⟨a,_,i,_,rfl,rfl,hS,hv,k v H (aq.refl _)⟩
 ·rw?
  refine ⟨_,rfl,_,rfl,a,_,rfl,hS,fun p hp=>?_⟩
  have s1:aq H (upd H p (.lst (oE (ns.map V.int) none (some 63)))):=fW hp _
  have e1:upd H p (.lst (oE (ns.map V.int) none (some 63))) p=some (.lst (oE (ns.map V.int) none (some 63))):=av
  refine ⟨p,rfl,⟨_,aW.of e1⟩,cL (K:=K) (a:=p) (xs:=oE (ns.map V.int) none (some 63)) (fun _ σ H2=>∃(z:Int) (v:Option V),σ=[some (.ref a),some (.int i),some (.int z),v]∧0≤z∧z<2147483647∧aq (upd H p (.lst (oE (ns.map V.int) none (some 63)))) H2)
   ⟨5,none,rfl,by decide,by decide,aq.refl _⟩ (fun _ σ H2 _ ⟨_,_,_,_,_,s2⟩=>aW.of (s2 _ _ e1)) ?_ ?_⟩
  ·rintro j y σ H2 hj ⟨z,v,rfl,z0,z1,s2⟩
   obtain ⟨m,rfl⟩:=VV hj
   rw?
   exact ⟨_,_,rfl,vH _ 0#h,uh _ 0#h,s2⟩
  ·rintro σ H2 ⟨z,v,rfl,z0,z1,s2⟩
   rw?
   exact k _ _ (s1.trans s2)
theorem vt:aE ["_law_cell_here","_law_k","_law_one","_law_two"] ["_law_cell_here","_law_k"] (ah yz):=0#a
theorem LX (F:cH K "_law_mix" "_law_mix" yz f fd):bg P w K mg base cM 1 f fd ["_law_cell_here","_law_k"] T6:=by
 refine F.ok vt 0#e 0#b
 ·obtain ⟨c,k,rfl,_⟩:=h
  rfl
 obtain ⟨c,j,rfl,h0,h1,k⟩:=h
 refine bD ⟨_,(au (aN 2 vt.nd (aJ fG (aJ rP (aJ bO (aJ bO (aJ fG 0#m aB) (aJ aT aB 0#x)) aB) aB) aB)) (au (aN 3 vt.nd (aJ fG (aJ bO (aJ bO (aJ aT (aa 2) aB) (aJ aT (aJ aT aB 0#x) 0#x)) aB) aB)) (aG (aR (aJ gF (aa 3) aB))))),?_⟩
 have b0:0≤c % 2147483629:=vH _ 0#h
 have b1:c % 2147483629<2147483629:=uh _ 0#h
 rw?
 refine iC (show acq _ _ from ⟨by decide,by decide,by try?⟩) ?_
 rw?
 refine iC (mulR 0#d 0#d) ?_
 rw?
 refine iC (show DS _ _ from ⟨by decide,by decide +kernel⟩) ?_
 exact k _
theorem jd:aE ["_law_script","_law_place","_law_sizes","_law_cell_here","_law_left","_law_some","_law_k","_law_other"] ["_law_script","_law_place","_law_sizes"] (ah yC):=0#a
theorem LY (F:cH K "_law_row" "_law_row" yC f fd) (T:Txt mg) (pV:Dn P w K mg base 1 "_law_cell" ["_law_script","_law_place"] (MO K)) (sY:Dn P w K mg base 1 "_law_mix" ["_law_cell_here","_law_k"] T6) :
 bg P w K mg base cM 3 f fd ["_law_script","_law_place","_law_sizes"] (Oj K):=by
 refine F.ok jd 0#e 0#b
 ·obtain ⟨a,ns,i,l,zs,rfl,_⟩:=h
  rfl
 obtain ⟨a,ns,i,l,zs,rfl,hS,h0,h1,hl,hz,hzs,k⟩:=h
 refine bD ⟨_,(au (aN 3 jd.nd (b9 pV hr 0#m 0#x)) (au (aN 4 jd.nd (aa 3)) (au (aN 5 jd.nd (dP gc)) (au (fK iM rfl (Jd.j3 rfl T.range (cO (cR K T.gA (aa 2)))) (bQ (i:=6) jd.nd rfl 0#n) (aG (bK (bh lU (aa 3) (aJ rP aB aB) (aD _)) (aG (gE (d7 K (aa 5) (aJ fG (b9 sY hr (aa 3) (aa 6)) (cy (lS K) (aa 2) (aa 6) 0#o))) (hs:=fL))) (aG (bK (bh cY (aa 4) aB (aD _)) (au (gE (d7 K (aa 5) (aJ fG (aa 4) (cy (lS K) (aa 2) (aa 6) 0#o))) (hs:=fL)) (aG (aN 4 jd.nd (aJ gF (aa 4) (cy (lS K) (aa 2) (aa 6) 0#o))))) (au (aN 7 jd.nd (b9 pV hr 0#m (aJ fG (aJ bO (aJ bO 0#x aB) (aa 6)) aB))) (aG (gE (d7 K (aa 5) (aJ fG (b9 sY hr (aa 7) (aa 6)) (cy (lS K) (aa 2) (aa 6) 0#o))) (hs:=fL))))))))) (aG (aR (aa 5))))))),?_⟩
 rw?
 refine ⟨a,ns,i,rfl,hS,h0,by try?,fun c H1 s1=>?_⟩
 rw?
 refine aF (mk:=.lst) 0#f fun p H2 s2 n2 e2=>?_
 rw?
 have hl2:H2 l=some (.lst (zs.map V.int)):=s2 _ _ (s1 _ _ hl)
 refine ⟨_,rfl,l,_,rfl,.inl (aW.of hl2),_,rfl,by lia,by rw [eV];lia,ji (fun j σ H3=>∃(left:Int) (xs:List Int) (v6 v7:Option V),
  σ=[some (.ref a),some (.int i),some (.ref l),some (.int c),some (.int left),some (.ref p),v6,v7]∧aq H1 H3∧H3 p=some (.lst (xs.map V.int))∧xs.length=j∧(∀(j:Nat) (x z:Int),xs[j]?=some x→zs[j]?=some z→0≤x∧x<z)) ?_ ?_ ?_⟩
 ·exact ⟨c,[],none,none,rfl,s2,e2,rfl,fun j x z e _=>by simp at e⟩
 ·rintro j σ H3 hj ⟨left,xs,v6,v7,rfl,s3,e3,hx,hxs⟩
  have hj':j<zs.length:=by simpa using hj
  obtain ⟨z,ez⟩:∃z,zs[j]?=some z:=⟨_,je hj'⟩
  obtain ⟨zp,zq⟩:=hzs z (jL ez)
  have hl3:H3 l=some (.lst (zs.map V.int)):=s3 _ _ (s1 _ _ hl)
  have ea:xE (zs.map V.int) (0+(j:Int))=some (.int z):=aV ez 0#d
  have hS3:aW K H3 a (ns.map V.int):=(s1.trans s3).seq hS
    -- one more item
  have fin:∀(y left':Int) (v6 v7:Option V) (H4:Hp),aq H3 H4→H4 p=some (.lst (xs.map V.int))→∃(left:Int) (xs':List Int) (v6' v7':Option V),
   [some (.ref a),some (.int i),some (.ref l),some (.int c),some (.int left'),some (.ref p),v6,v7]=[some (.ref a),some (.int i),some (.ref l),some (.int c),some (.int left),some (.ref p),v6',v7'] ∧
   aq H1 (upd H4 p (.lst (xs.map V.int++[.int (y % z)])))∧upd H4 p (.lst (xs.map V.int++[.int (y % z)])) p=some (.lst (xs'.map V.int))∧xs'.length=j+1∧(∀(j:Nat) (x z:Int),xs'[j]?=some x→zs[j]?=some z→0≤x∧x<z):=by
   intro y left' v6 v7 H4 s4 e4
   refine ⟨left',xs++[y % z],v6,v7,rfl,bw (s3.trans s4) n2,?_,by rw [cJ,hx];rfl,fun m x z' e1 e2=>?_⟩
   ·rw [av,ju];rfl
   ·by_cases hm:m<xs.length
    ·rw [kZ hm] at e1
     exact hxs m x z' e1 e2
    ·have hm2:m=j:=by
      have:=(fZ.mp e1).1
      rw [cJ] at this
      simp at this
      try?
     subst hm2
     rw [pR 0#d,hx] at e1
     simp at e1
     rw [ez] at e2
     cases e2
     subst e1
     exact ⟨vH _ 0#d,uh _ zp⟩
  have MK:(xs.map V.int).length<sizeLine:=by rw [eV];exact aO 0#d
  rw?
  refine cu (fun _=>?_) (fun _=>?_)
  ·rw?
   refine ⟨.inl ⟨rfl,_,aW.of e3⟩,?_⟩
   rw?
   refine ⟨_,_,rfl,by try?,by try?,fun y=>?_⟩
   rw?
   refine cG hl3 ea ?_
   refine iC (show (0:Int)<z from zp) ?_
   rw?
   refine cZ e3 MK ?_
   exact fin y _ _ _ _ (aq.refl _) e3
  ·rw?
   refine cu (fun _=>?_) (fun _=>?_)
   ·rw?
    refine ⟨.inl ⟨rfl,_,aW.of e3⟩,?_⟩
    rw?
    refine cG hl3 ea ?_
    refine iC (show (0:Int)<z from zp) ?_
    rw?
    refine cZ e3 MK ?_
    rw?
    refine cG (by rw [aI (bA (s1 _ _ hl) n2)];exact hl3) ea ?_
    refine iC (show DS _ _ from ⟨by try?,Sz.log (m:=60) (Sz.of_lt (k:=2 ^ 60) 0#d (dm _)) 0#h 0#h⟩) ?_
    exact fin left _ _ _ _ (aq.refl _) e3
   ·rw?
    have q0:0≤(i+1+(0+(j:Int))) % 63:=vH _ 0#h
    have q1:(i+1+(0+(j:Int))) % 63<63:=uh _ 0#h
    refine ⟨a,ns,_,rfl,hS3,q0,by try?,fun c2 H4 s4=>?_⟩
    rw?
    refine ⟨.inl ⟨rfl,_,aW.of (s4 _ _ e3)⟩,?_⟩
    rw?
    refine ⟨_,_,rfl,by try?,by try?,fun y=>?_⟩
    rw?
    refine cG (s4 _ _ hl3) ea ?_
    refine iC (show (0:Int)<z from zp) ?_
    rw?
    refine cZ (s4 _ _ e3) MK ?_
    exact fin y _ _ _ _ s4 (s4 _ _ e3)
 ·rintro σ H3 ⟨left,xs,v6,v7,rfl,s3,e3,hx,hxs⟩
  rw?
  exact k p xs H3 (s1.trans s3) (s1.free n2) e3 (by simpa using hx) hxs
theorem qy:aE ["_law_top","_law_bottom","_law_one","_law_two"] ["_law_top","_law_bottom"] (ah r6):=0#a
theorem Ge (F:cH K "_law_ratio" "_law_ratio" r6 f fd) (T:Txt mg):bg P w K mg base cM 1 f fd ["_law_top","_law_bottom"] wO:=by
 refine F.ok qy 0#e 0#b
 ·obtain ⟨t,b,rfl,_⟩:=h
  rfl
 obtain ⟨t,b,rfl,hb,hz,k⟩:=h
 refine bD ⟨_,(au (Jd.Gx (i:=2) (j:=3) rfl qy.nd rfl rfl 0#h rfl rfl (bT (fj zY rfl T.zZ Au (cO 0#m) (he:=aP) (hpl:=bS)) 0#x) rfl) (au (Jd.mU iM (bh cY (aa 3) aB (aD _)) (aG (Jd.Gx (i:=2) (j:=3) rfl qy.nd rfl rfl 0#h rfl rfl (bT (aa 3) (aJ fG (aa 2) (aa 3))) rfl))) (aG (aR (bR (bT (aJ gF 0#m (aa 2)) (aJ gF 0#x (aa 2)))))))),?_⟩
 rw?
 have hgb:cj t b≤b.natAbs:=by
  have:=Int.gcd_le_right (a:=t) (b:=b) 0#d
  try?
 refine xg (fun σ H'=>H'=H∧∃x y:Nat,σ=[some (.int t),some (.int b),some (.int x),some (.int y)]∧Kf x y=cj t b) (fun σ _=>Yp σ) ?_ ?_ ?_
 ·refine ⟨rfl,t.natAbs,b.natAbs,?_,rfl⟩
  rw [iR]
  have e:b=((b.natAbs:Nat):Int):=by try?
  rw [← e]
  rfl
 ·rintro σ H' ⟨rfl,x,y,rfl,hg⟩
  rw?
  refine cu (fun c=>?_) (fun c=>?_)
  ·have c':(0:Int)<(y:Int):=c6 c
   rw?
   refine ⟨⟨rfl,y,x % y,?_,by rw [Im];exact hg⟩,?_⟩
   ·rw [← NP];rfl
   ·show ((x:Int) % (y:Int)).toNat<(y:Int).toNat
    rw [NP]
    have:=aac x (y:=y) 0#d
    try?
  ·have c':¬(0:Int)<(y:Int):=jw (iU.mpr c)
   have y0:y=0:=by try?
   subst y0
   rw [Y6] at hg
   subst hg
   have gp:0<cj t b:=QL t 0#d
   have cd:DS t ((cj t b:Nat):Int):=⟨by try?,Sz.log (m:=8000) (Sz.of_le hz 0#d) 0#h 0#h⟩
   rw?
   refine aF (mk:=.tup) 0#f fun p H1 s1 n1 e1=>?_
   exact k p _ _ H1 s1 e1 (FQ hb)
 ·intro σ H Q Q' h q
  obtain ⟨v,e,i,j,e1,e2,b,e3,q⟩:=q
  exact ⟨v,e,i,j,e1,e2,b,e3,h _ _ q⟩
end
def bV (H:Hp) (p:ao) (q:Rat) (n:Nat):Prop:=∃t b:Int,H p=some (.tup [.int t,.int b])∧Qt t b q∧Sz n t∧Sz n b
def dw (H:Hp) (p:ao) (q:Rat) (n:Nat):Prop:=∃t b:Int,H p=some (.tup [.int t,.int b])∧Fr t b q∧Sz n t∧Sz n b
def iQ (H:Hp) (p:ao) (m:Int) (q:Rat) (n:Nat):Prop:=∃v:ao,H p=some (.tup [.int m,.ref v])∧dw H v q n∧Sz n m
def i9 (H:Hp) (p:ao) (s h:Rat) (n:Nat):Prop:=∃a b:ao,H p=some (.tup [.ref a,.ref b])∧dw H a s n∧dw H b h n
section
theorem dw.qt (f:dw H p q n):bV H p q n:=let ⟨t,b,e,f,z⟩:=f;⟨t,b,e,f.qt,z⟩
theorem bV.mono (f:bV H p q m) (h:m≤n):bV H p q n:=let ⟨t,b,e,f,z1,z2⟩:=f;⟨t,b,e,f,z1.mono h,z2.mono h⟩
theorem dw.mono (f:dw H p q m) (h:m≤n):dw H p q n:=let ⟨t,b,e,f,z1,z2⟩:=f;⟨t,b,e,f,z1.mono h,z2.mono h⟩
theorem bV.up (f:bV H p q n) (s:aq H H'):bV H' p q n:=let ⟨t,b,e,f⟩:=f;⟨t,b,s _ _ e,f⟩
theorem dw.up (f:dw H p q n) (s:aq H H'):dw H' p q n:=let ⟨t,b,e,f⟩:=f;⟨t,b,s _ _ e,f⟩
theorem iQ.up (f:iQ H p t q n) (s:aq H H'):iQ H' p t q n:=let ⟨v,e,f,z⟩:=f;⟨v,s _ _ e,f.up s,z⟩
theorem i9.up (f:i9 H p q h n) (s:aq H H'):i9 H' p q h n:=let ⟨a,b,e,f,g⟩:=f;⟨a,b,s _ _ e,f.up s,g.up s⟩
theorem dw.den (f:dw H p q n):∃t b:Int,Den H (.ref p) (.tuple [.int t,.int b])∧Fr t b q:=let ⟨t,b,e,f,_⟩:=f;⟨t,b,.tup e (.cons (.int _) (.cons (.int _) .nil)),f⟩
end
inductive Hh (vs:List V) (H:Hp) (Q:VK) (E_:XK):Prop where
 | mk (m n:Int):vs=[.int m,.int n]→0≤m→0≤n→Q (.int (cj m n:Nat)) H→Hh vs H Q E_
inductive Hs (vs:List V) (H:Hp) (Q:VK) (E_:XK):Prop where
 | mk (m n:Int):vs=[.int m,.int n]→0≤n→n≤m→m<115792089237316195423570985008687907853269984665640564039457584007913129639936→(∀(p:ao) (x0 y0 x1 y1 high low:Int) (H':Hp),aq H H'→H' p=some (.tup [.int x0,.int y0,.int x1,.int y1])→jz m n high low x0 y0 x1 y1→low≤340282366920938463463374607431768211456→Q (.ref p) H')→Hs vs H Q E_
inductive pM (vs:List V) (H:Hp) (Q:VK) (E_:XK):Prop where
 | mk (m n:Int):vs=[.int m,.int n]→Sz 8000 m→Sz 8000 n→(∀H',aq H H'→Q (.int (cj m n:Nat)) H')→pM vs H Q E_
inductive wQ (vs:List V) (H:Hp) (Q:VK) (E_:XK):Prop where
 | mk (t b:Int):vs=[.int t,.int b]→b≠0→Sz 8000 t→Sz 8000 b→(∀(p:ao) (t' b':Int) (H':Hp),aq H H'→H' p=some (.tup [.int t',.int b'])→XN t b t' b'→Q (.ref p) H')→wQ vs H Q E_
inductive gO (vs:List V) (H:Hp) (Q:VK) (E_:XK):Prop where
 | mk (p:ao) (q:Rat) (n:Nat):vs=[.ref p]→bV H p q n→n≤8000→(∀(r:ao) (H':Hp),aq H H'→dw H' r q n→Q (.ref r) H')→gO vs H Q E_
inductive jH (f:Rat→Rat→Rat) (k:Nat) (vs:List V) (H:Hp) (Q:VK) (E_:XK):Prop where
 | mk (p r:ao) (q q':Rat) (m n:Nat):vs=[.ref p,.ref r]→bV H p q m→bV H r q' n→m+n≤100000→(∀(s:ao) (H':Hp),aq H H'→bV H' s (f q q') (m+n+k)→Q (.ref s) H')→jH f k vs H Q E_
inductive qB (f:Rat→Rat→Rat) (k:Nat) (vs:List V) (H:Hp) (Q:VK) (E_:XK):Prop where
 | mk (p r:ao) (q q':Rat) (m n:Nat):vs=[.ref p,.ref r]→bV H p q m→bV H r q' n→m+n+k≤8000→(∀(s:ao) (H':Hp),aq H H'→dw H' s (f q q') (m+n+k)→Q (.ref s) H')→qB f k vs H Q E_
inductive MX (vs:List V) (H:Hp) (Q:VK) (E_:XK):Prop where
 | mk (p r:ao) (q q':Rat) (m n:Nat):vs=[.ref p,.ref r]→bV H p q m→bV H r q' n→m+n≤8000→q'≠0→(∀(s:ao) (H':Hp),aq H H'→dw H' s (q/q') (m+n)→Q (.ref s) H')→MX vs H Q E_
inductive wN (vs:List V) (H:Hp) (Q:VK) (E_:XK):Prop where
 | mk (p r:ao) (t t':Int) (q q':Rat) (n:Nat):vs=[.ref p,.ref r]→iQ H p t q n→iQ H r t' q' n→t≠t'→n≤2000→(∀(s:ao) (H':Hp),aq H H'→bV H' s ((q'-q)/((t'-t:Int):Rat)) (4*n+3)→Q (.ref s) H')→wN vs H Q E_
inductive Ho (vs:List V) (H:Hp) (Q:VK) (E_:XK):Prop where
 | mk (p r:ao) (t t':Int) (q q':Rat) (n:Nat):vs=[.ref p,.ref r]→iQ H p t q n→iQ H r t' q' n→t≠t'→n≤1000→(∀(s:ao) (H':Hp),aq H H'→dw H' s ((q'-q)/((t'-t:Int):Rat)) (4*n+3)→Q (.ref s) H')→Ho vs H Q E_
inductive sG (vs:List V) (H:Hp) (Q:VK) (E_:XK):Prop where
 | mk (p r:ao) (s q:Rat) (t u:Int) (m n:Nat):vs=[.ref p,.ref r,.int u]→bV H p s m→iQ H r t q n→Sz n u→m≤20000→n≤20000→(∀(x:ao) (H':Hp),aq H H'→bV H' x (q+s*((u-t:Int):Rat)) (m+2*n+2)→Q (.ref x) H')→sG vs H Q E_
section
theorem dQ:aE ["one","other","found","rest","left"] ["one","other"] (ah lN):=0#a
theorem yj (F:cH K "plain_divisor" "plain_divisor" lN f fd) (T:Txt mg):bg P w K mg base cM 1 f fd ["one","other"] Hh:=by
 refine F.ok dQ 0#e 0#b
 ·obtain ⟨m,n,rfl,_⟩:=h
  rfl
 obtain ⟨m,n,rfl,hm,hn,k⟩:=h
 refine bD ⟨_,(au (aN 2 dQ.nd 0#m) (au (aN 3 dQ.nd 0#x) (au (Jd.mU iM (bh Ek (aa 3) aB (aD _)) (au (aN 4 dQ.nd (aJ fG (aa 2) (aa 3))) (au (aN 2 dQ.nd (aa 3)) (aG (aN 3 dQ.nd (aa 4)))))) (aG (aR (aa 2)))))),?_⟩
 rw?
 refine xg (fun σ H'=>H'=H∧∃(x y:Nat) (v:Option V),σ=[some (.int m),some (.int n),some (.int x),some (.int y),v]∧Kf x y=cj m n) (fun σ _=>Yp σ) ?_ ?_ ?_
 ·refine ⟨rfl,m.natAbs,n.natAbs,none,?_,rfl⟩
  rw [show ((m.natAbs:Nat):Int)=m by try?,show ((n.natAbs:Nat):Int)=n by try?]
  rfl
 ·rintro σ H' ⟨rfl,x,y,v,rfl,hg⟩
  rw?
  refine cu (fun c=>?_) (fun c=>?_)
  ·have c':¬(y:Int)=0:=by simpa using c
   rw?
   refine ⟨⟨rfl,y,x % y,some (.int ((x % y:Nat):Int)),?_,by rw [Im];exact hg⟩,?_⟩
   ·rw [NP];rfl
   ·show ((x:Int) % (y:Int)).toNat<(y:Int).toNat
    rw [NP]
    have:=aac x (y:=y) 0#d
    try?
  ·have c':(y:Int)=0:=by simpa using c
   have y0:y=0:=by try?
   subst y0
   rw [Y6] at hg
   subst hg
   rw?
   exact k
 ·intro σ H Q Q' h q
  obtain ⟨v,e,hs,b,e3,q⟩:=q
  exact ⟨v,e,hs,b,e3,h _ _ q⟩
theorem bN:aE ["high","low","ahead","now","many","left","behind"] ["high","low"] (ah j6):=0#a
theorem vX (F:cH K "steps_of_heads" "steps_of_heads" j6 f fd) (uD:Cn mg "HEAD" 256):bg P w K mg base cM 1 f fd ["high","low"] Hs:=by
 refine F.ok bN 0#e 0#b
 ·obtain ⟨m,n,rfl,_⟩:=h
  rfl
 obtain ⟨hd,ld,rfl,h0,h1,h2,k⟩:=h
 refine bD ⟨_,(au (aN 2 bN.nd (bR (bT aB aB))) (au (aN 3 bN.nd (bR (bT aB aB))) (au (Jd.mU iM (bh cY (Jd.we 0#x) (aJ gF (Jd.Em rfl uD) aB) (aD _)) (au (aN 4 bN.nd (aJ gF 0#m 0#x)) (au (aN 5 bN.nd (aJ cB 0#m (aJ aT (aa 4) 0#x))) (au (aN 0 bN.nd 0#x) (au (aN 1 bN.nd (aa 5)) (au (aN 6 bN.nd (bR (bT (aJ cB (aK K (aa 2)) (aJ aT (aa 4) (aK K (aa 3)))) (aJ cB (aK K (aa 2)) (aJ aT (aa 4) (aK K (aa 3))))))) (au (aN 2 bN.nd (aa 3)) (aG (aN 3 bN.nd (aa 6)))))))))) (aG (aR (aJ (acA K) (aa 2) (aa 3))))))),?_⟩
 rw?
 refine aF (mk:=.tup) 0#f fun pa Ha sa na ea=>?_
 rw?
 refine aF (mk:=.tup) 0#f fun pn Hn sn nn en=>?_
 rw?
 refine xg (fun σ H'=>aq H H'∧∃(high low x0 y0 x1 y1:Int) (pa pn:ao) (v4 v5 v6:Option V),σ=[some (.int high),some (.int low),some (.ref pa),some (.ref pn),v4,v5,v6] ∧
  H' pa=some (.tup [.int x0,.int y0])∧H' pn=some (.tup [.int x1,.int y1])∧jz hd ld high low x0 y0 x1 y1) (fun σ _=>Rp 1 σ) ?_ ?_ ?_
 ·exact ⟨sa.trans sn,hd,ld,1,0,0,1,pa,pn,none,none,none,rfl,sn _ _ ea,en,jz.init h0 h1⟩
 ·rintro σ H' ⟨sH,high,low,x0,y0,x1,y1,pa,pn,v4,v5,v6,rfl,ea,en,S⟩
  rw?
  refine iC ⟨by decide,by decide⟩ ?_
  rw?
  refine cu (fun c=>?_) (fun c=>?_)
  ·have c':=c6 c
   rw [show Int.fdiv 256 2=128 by decide] at c'
   have hlow:=PR c' S.l0
   have hq:=S.step hlow rfl
   have hH:hd.natAbs<2 ^ 256:=by
    have:(2:Nat) ^ 256=115792089237316195423570985008687907853269984665640564039457584007913129639936:=by decide
    try?
   have zl:Sz 256 ld:=Sz.of_le (m:=256) (x:=hd) hH 0#d
   have zh:Sz 256 high:=Sz.of_le (m:=256) (x:=hd) hH (by have:=S.Ws h1;have:=S.lh;have:=S.l0;try?)
   have nb:=S.abp (by have:=S.lh;try?)
   have zx:Sz 256 x1:=Sz.of_le zl nb.1
   have zy:Sz 256 y1:=Sz.of_le (m:=256) (x:=hd) hH nb.2
   have zlo:Sz 256 low:=zh.of_le (by have:=S.lh;have:=S.l0;try?)
   have eq:high.fdiv low=high/low:=DQ _ S.l0
   have zq:Sz 256 (high/low):=zh.of_le (Rv (by have:=S.lh;have:=S.l0;try?) S.l0)
   rw?
   refine iC ⟨by try?,zlo.log 0#h 0#h⟩ ?_
   rw [eq]
   rw?
   refine iC (cg zq zlo) ?_
   rw?
   refine iC (cg zq zx) ?_
   rw?
   refine iC (cg zq zy) ?_
   rw?
   refine aF (mk:=.tup) 0#f fun pb Hb sb nb eb=>?_
   rw?
   refine ⟨⟨sH.trans sb,low,high-high/low*low,x1,y1,x0-high/low*x1,y0-high/low*y1,pn,pb,_,_,_,rfl,sb _ _ en,eb,hq⟩,?_⟩
   show (high-high/low*low).toNat<low.toNat
   have e:=JU high low
   rw [pQ] at e
   have:=uh high (b:=low) 0#d
   try?
  ·have c':=jw (iU.mpr c)
   rw [show Int.fdiv 256 2=128 by decide] at c'
   have hlow:=IF c'
   rw?
   refine Tj ea en ?_
   refine aF (mk:=.tup) 0#f fun pb Hb sb nb eb=>?_
   exact k pb x0 y0 x1 y1 high low Hb (sH.trans sb) eb S 0#d
 ·intro σ H Q Q' h q
  obtain ⟨v,e,a1,a2,i,a3,m,n,e1,e2,hc,m',n',e3,e4,b,e5,q⟩:=q
  exact ⟨v,e,a1,a2,i,a3,m,n,e1,e2,hc,m',n',e3,e4,b,e5,h _ _ q⟩
theorem fH:aE ["one","other","found","rest","tail","steps","ahead","now"] ["one","other"] (ah yu):=0#a
theorem LU (F:cH K "divisor" "divisor" yu f fd) (T:Txt mg) (uD:Cn mg "HEAD" 256) (lC:Dn P w K mg base 1 "plain_divisor" ["one","other"] Hh) (jW:Dn P w K mg base 1 "steps_of_heads" ["high","low"] Hs) :
 bg P w K mg base cM 2 f fd ["one","other"] pM:=by
 refine F.ok fH 0#e 0#b
 ·obtain ⟨m,n,rfl,_⟩:=h
  rfl
 obtain ⟨m,n,rfl,zm,zn,k⟩:=h
 refine bD ⟨_,(au (aN 2 fH.nd (fj (ac8 rfl) rfl T.abi Ux (bT (fj zY rfl T.zZ Au (cO 0#m) (he:=aP) (hpl:=bS)) (fj zY rfl T.zZ Au (cO 0#x) (he:=aP) (hpl:=bS))) (he:=DO) (hpl:=(bB DO bS)))) (au (aN 3 fH.nd (fj (ac9 rfl) rfl T.ada YR (bT (fj zY rfl T.zZ Au (cO 0#m) (he:=aP) (hpl:=bS)) (fj zY rfl T.zZ Au (cO 0#x) (he:=aP) (hpl:=bS))) (he:=DO) (hpl:=(bB DO bS)))) (au (Jd.mU iM (bh cY (Jd.we (aa 3)) (Jd.Em rfl uD) (aD _)) (au (aN 4 fH.nd (aJ cB (Jd.we (aa 2)) (Jd.Em rfl uD))) (au (aN 5 fH.nd (b9 jW hr (aJ S3 (aa 2) (aa 4)) (aJ S3 (aa 3) (aa 4)))) (au (bK (bh cI (aK K (aa 5)) aB (aD _)) (aG (aN 5 fH.nd (bR (Jd.a4 aB aB aB (jm fY (aJ gF (aa 2) (aa 3))))))) bW) (au (aN 6 fH.nd (fj zY rfl T.zZ Au (cO (aJ bO (aJ aT (aK K (aa 5)) (aa 2)) (aJ aT (aK K (aa 5)) (aa 3)))) (he:=M0) (hpl:=bS))) (au (aN 7 fH.nd (fj zY rfl T.zZ Au (cO (aJ bO (aJ aT (aK K (aa 5)) (aa 2)) (aJ aT (aK K (aa 5)) (aa 3)))) (he:=M0) (hpl:=bS))) (au (aN 2 fH.nd (fj (ac8 rfl) rfl T.abi Ux (bT (aa 6) (aa 7)) (he:=aP) (hpl:=(bB aP bS)))) (aG (aN 3 fH.nd (fj (ac9 rfl) rfl T.ada YR (bT (aa 6) (aa 7)) (he:=aP) (hpl:=(bB aP bS)))))))))))) (aG (aR (b9 lC hr (aa 2) (aa 3))))))),?_⟩
 rw?
 rw [iR,iR]
 refine xg (fun σ H'=>aq H H'∧∃(x y:Int) (v4 v5 v6 v7:Option V),σ=[some (.int m),some (.int n),some (.int x),some (.int y),v4,v5,v6,v7] ∧
  0≤y∧y≤x∧cj x y=cj m n∧Sz 8001 (x+y)) (fun σ _=>Rp 2 σ+Rp 3 σ) ?_ ?_ ?_
 ·refine ⟨aq.refl _,_,_,none,none,none,none,rfl,?_,?_,(uR rfl rfl).trans ?_,?_⟩
  ·exact Sx _ _
  ·exact Sw _ _
  ·rfl
  ·have z:=(zm.of_le (y:=(m.natAbs:Int)) 0#f).add (zn.of_le (y:=(n.natAbs:Int)) 0#f)
   exact z.of_le (LC 0#d)
 ·rintro σ H' ⟨sH,x,y,v4,v5,v6,v7,rfl,y0,yx,hg,zs⟩
  have zx:Sz 8001 x:=zs.of_le 0#d
  have zy:Sz 8001 y:=zs.of_le 0#d
  rw?
  refine cu (fun c=>?_) (fun c=>?_)
  ·have c':=c6 c
   obtain ⟨t,ht,lo,hi⟩:=Lk c' y0 yx
   have tp:(0:Int)<2 ^ t:=Vl 0#h
   have hd:=ND lo hi
   have ypos:1≤y:=by
    have:(256:Int)<(t9 y:Nat):=c'
    by_cases e:y=0
    ·subst e;simp [t9] at this
    ·try?
   rw?
   refine iC (show (0:Int)≤_ by try?) ?_
   rw?
   refine iC (show (0:Int)≤_ by try?) ?_
   rw?
   rw [show ((t9 x:Nat)-256:Int).toNat=t by try?]
   refine ⟨x/2 ^ t,y/2 ^ t,rfl,Zt y0 0#d,UX tp yx,hd.2,fun ps x0 y0' x1 y1 high low H1 s1 e1 S hl=>?_⟩
   rw?
   refine cu (fun c2=>?_) (fun c2=>?_)
   ·have c3:y0'=0:=c6 c2
    have zq:Sz 8001 (x.fdiv y):=by
     rw [DQ _ y0]
     exact zx.of_le (Rv 0#d y0)
    rw?
    refine iC ⟨by try?,zy.log 0#h 0#h⟩ ?_
    rw?
    refine aF (mk:=.tup) 0#f fun p2 H2 s2 n2 e2=>?_
    have sH2:=(sH.trans s1).trans s2
    have za:Sz 8001 (0:Int):=by decide
    have zb:Sz 8001 (1:Int):=by decide
    have zc:Sz 8001 (1:Int):=zb
    have zd:Sz 8001 (-(x.fdiv y)):=zq.neg
    have gg:cj (0*x+1*y) (1*x+-(x.fdiv y)*y)=cj x y:=NB (.inr 0#d)
    have ls:=V9 ypos yx
    rw?
    refine iC (cg zd zy) ?_
    rw?
    simp only [iR]
    refine ⟨⟨sH2,_,_,_,_,_,_,rfl,?_,?_,(uR rfl rfl).trans (gg.trans hg),?_⟩,?_⟩
    ·exact Sx _ _
    ·exact Sw _ _
    ·exact zs.of_le (LC (Yb ls y0 yx))
    ·exact X9 ls y0 yx
   ·have c3:y0'≠0:=jw (iU.mpr c2)
    have sH2:=sH.trans s1
    have sm:=S.small c3 (UX tp yx) hd.2
    have WA:(340282366920938463463374607431768211456:Nat)<2 ^ 8001:=by decide +kernel
    have za:Sz 8001 x0:=Ax sm.1 WA
    have zb:Sz 8001 y0':=Ax sm.2.1 WA
    have zc:Sz 8001 x1:=Ax sm.2.2.1 WA
    have zd:Sz 8001 y1:=Ax sm.2.2.2 WA
    have gg:cj (x0*x+y0'*y) (x1*x+y1*y)=cj x y:=S.gcd
    have ls:=Lj S c3 yx lo hi rfl rfl hl
    rw?
    refine iC (cg za zx) ?_
    rw?
    refine iC (cg zb zy) ?_
    rw?
    refine iC (cg zc zx) ?_
    rw?
    refine iC (cg zd zy) ?_
    rw?
    simp only [iR]
    refine ⟨⟨sH2,_,_,_,_,_,_,rfl,?_,?_,(uR rfl rfl).trans (gg.trans hg),?_⟩,?_⟩
    ·exact Sx _ _
    ·exact Sw _ _
    ·exact zs.of_le (LC (Yb ls y0 yx))
    ·exact X9 ls y0 yx
  ·rw?
   refine ⟨x,y,rfl,by try?,y0,?_⟩
   rw [hg]
   exact k H' sH
 ·intro σ H Q Q' h q
  obtain ⟨v,e,a1,a2,i,a3,m',n',e3,e4,b,e5,q⟩:=q
  exact ⟨v,e,a1,a2,i,a3,m',n',e3,e4,b,e5,h _ _ q⟩
theorem Ci:aE ["top","bottom","shared"] ["top","bottom"] (ah GR):=0#a
theorem Qc (hb:b≠0):XN t b (t.fdiv (if b<0 then -(cj t b:Int) else (cj t b:Int))) (b.fdiv (if b<0 then -(cj t b:Int) else (cj t b:Int))):=by
 by_cases h:b<0
 ·rw [if_pos h]
  have l:=WI (t:=t) h
  exact ⟨l.pos,l.co,by have:=l.eq;rw [Ka,O4] at this;try?,by rw [← OX t];exact l.tb,by rw [← OX b];exact l.bb⟩
 ·rw [if_neg h]
  exact FQ 0#d
theorem SN (F:cH K "ratio" "ratio" GR f fd) (T:Txt mg) (iw:Dn P w K mg base 2 "divisor" ["one","other"] pM):bg P w K mg base cM 3 f fd ["top","bottom"] wQ:=by
 refine F.ok Ci 0#e 0#b
 ·obtain ⟨t,b,rfl,_⟩:=h
  rfl
 obtain ⟨t,b,rfl,hb,hzt,hz,k⟩:=h
 refine bD ⟨_,(au (bK (bh cI 0#x aB (aD _)) (aG Jd.jD) bW) (au (aN 2 Ci.nd (b9 iw hr 0#m 0#x)) (au (bK (bh lU 0#x aB (aD _)) (aG (aN 2 Ci.nd (jm fY (aa 2)))) bW) (aG (aR (bR (bT (aJ gF 0#m (aa 2)) (aJ gF 0#x (aa 2))))))))),?_⟩
 rw?
 rw [gJ hb]
 refine bE ?_
 rw?
 refine ⟨t,b,rfl,hzt,hz,fun H0 s0=>?_⟩
 have gp:0<cj t b:=QL t hb
 have hgb:cj t b≤b.natAbs:=ZN 0#d (Ze _ _)
 have cd:∀x:Int,DS x (if b<0 then -(cj t b:Int) else (cj t b:Int)):=fun x=>by
  refine ⟨by split <;> try?,Sz.log (m:=8000) (Sz.of_le hz ?_) 0#h 0#h⟩
  split <;> try?
 have lo:=Qc (t:=t) hb
 rw?
 refine cu (fun c=>?_) (fun c=>?_)
 ·have c':=c6 c
  rw [if_pos c'] at lo
  simp only [if_pos c'] at cd
  rw?
  refine iC (cd t) ?_
  rw?
  refine iC (cd b) ?_
  rw?
  refine aF (mk:=.tup) 0#f fun p H1 s1 n1 e1=>?_
  exact k p _ _ H1 (s0.trans s1) e1 lo
 ·have c':=jw (iU.mpr c)
  rw [if_neg c'] at lo
  simp only [if_neg c'] at cd
  rw?
  refine iC (cd t) ?_
  rw?
  refine iC (cd b) ?_
  rw?
  refine aF (mk:=.tup) 0#f fun p H1 s1 n1 e1=>?_
  exact k p _ _ H1 (s0.trans s1) e1 lo
theorem MF:aE ["quotient"] ["quotient"] (ah yE):=0#a
theorem L3 (F:cH K "reduced" "reduced" yE f fd) (sZ:Dn P w K mg base 3 "ratio" ["top","bottom"] wQ):bg P w K mg base cM 4 f fd ["quotient"] gO:=by
 refine F.ok MF 0#e 0#b
 ·obtain ⟨p,q,n,rfl,_⟩:=h
  rfl
 obtain ⟨p,q,n,rfl,⟨t,b,hp,hq,zt,zb⟩,hn,k⟩:=h
 refine bD ⟨_,(aG (aR (b9 sZ hr (aK K 0#m) (aK K 0#m)))),?_⟩
 have hb:=hq.pos
 rw?
 refine ⟨t,b,rfl,by try?,zt.mono hn,zb.mono hn,fun r t' b' H1 s1 e1 lo=>?_⟩
 exact k r H1 s1 ⟨t',b',e1,Fr.LR lo 0#d hq.eq,zt.of_le lo.tb,zb.of_le lo.bb⟩
theorem DM:aE ["one","other"] ["one","other"] (ah qv):=0#a
theorem DI (F:cH K "loose_plus" "loose_plus" qv f fd):bg P w K mg base cM 1 f fd ["one","other"] (jH (·+·) 1):=by
 refine F.ok DM 0#e 0#b
 ·obtain ⟨p,r,q,q',m,n,rfl,_⟩:=h
  rfl
 obtain ⟨p,r,q,q',m,n,rfl,⟨a,b,hp,hq,za,zb⟩,⟨c,d,hr',hq',zc,zd⟩,hn,k⟩:=h
 refine bD ⟨_,(aG (aR (bR (bT (aJ bO (aJ aT (aK K 0#m) (aK K 0#x)) (aJ aT (aK K 0#x) (aK K 0#m))) (aJ aT (aK K 0#m) (aK K 0#x)))))),?_⟩
 rw?
 refine iC (cg za zd 0#d) ?_
 rw?
 refine iC (cg zc zb 0#d) ?_
 rw?
 refine iC (cg zb zd 0#d) ?_
 rw?
 refine aF (mk:=.tup) 0#f fun x H1 s1 n1 e1=>?_
 exact k x H1 s1 ⟨_,_,e1,hq.plus hq',(za.mul zd).add ((zc.mul zb).mono 0#d),(zb.mul zd).mono 0#d⟩
theorem Cc:aE ["one","other"] ["one","other"] (ah oM):=0#a
theorem BG (F:cH K "loose_minus" "loose_minus" oM f fd):bg P w K mg base cM 1 f fd ["one","other"] (jH (·-·) 1):=by
 refine F.ok Cc 0#e 0#b
 ·obtain ⟨p,r,q,q',m,n,rfl,_⟩:=h
  rfl
 obtain ⟨p,r,q,q',m,n,rfl,⟨a,b,hp,hq,za,zb⟩,⟨c,d,hr',hq',zc,zd⟩,hn,k⟩:=h
 refine bD ⟨_,(aG (aR (bR (bT (aJ cB (aJ aT (aK K 0#m) (aK K 0#x)) (aJ aT (aK K 0#x) (aK K 0#m))) (aJ aT (aK K 0#m) (aK K 0#x)))))),?_⟩
 rw?
 refine iC (cg za zd 0#d) ?_
 rw?
 refine iC (cg zc zb 0#d) ?_
 rw?
 refine iC (cg zb zd 0#d) ?_
 rw?
 refine aF (mk:=.tup) 0#f fun x H1 s1 n1 e1=>?_
 exact k x H1 s1 ⟨_,_,e1,hq.minus hq',(za.mul zd).sub ((zc.mul zb).mono 0#d),(zb.mul zd).mono 0#d⟩
theorem Ce:aE ["one","other"] ["one","other"] (ah oO):=0#a
theorem BJ (F:cH K "loose_times" "loose_times" oO f fd):bg P w K mg base cM 1 f fd ["one","other"] (jH (·*·) 0):=by
 refine F.ok Ce 0#e 0#b
 ·obtain ⟨p,r,q,q',m,n,rfl,_⟩:=h
  rfl
 obtain ⟨p,r,q,q',m,n,rfl,⟨a,b,hp,hq,za,zb⟩,⟨c,d,hr',hq',zc,zd⟩,hn,k⟩:=h
 refine bD ⟨_,(aG (aR (bR (bT (aJ aT (aK K 0#m) (aK K 0#x)) (aJ aT (aK K 0#m) (aK K 0#x)))))),?_⟩
 rw?
 refine iC (cg za zc 0#d) ?_
 rw?
 refine iC (cg zb zd 0#d) ?_
 rw?
 refine aF (mk:=.tup) 0#f fun x H1 s1 n1 e1=>?_
 exact k x H1 s1 ⟨_,_,e1,hq.times hq',za.mul zc,zb.mul zd⟩
end
inductive tO (vs:List V) (H:Hp) (Q:VK) (E_:XK):Prop where
 | mk (p r:ao) (s h x:Rat) (m n:Nat):vs=[.ref p,.ref r]→i9 H p s h n→bV H r x m→m≤20000→n≤20000→(∀(z:ao) (H':Hp),aq H H'→bV H' z (s*x+h) (m+2*n+1)→Q (.ref z) H')→tO vs H Q E_
inductive sF (vs:List V) (H:Hp) (Q:VK) (E_:XK):Prop where
 | mk (p r:ao) (s h x:Rat) (m n:Nat):vs=[.ref p,.ref r]→i9 H p s h n→bV H r x m→m+2*n+1≤8000→(∀(z:ao) (H':Hp),aq H H'→dw H' z (s*x+h) (m+2*n+1)→Q (.ref z) H')→sF vs H Q E_
inductive MU (vs:List V) (H:Hp) (Q:VK) (E_:XK):Prop where
 | mk (p r:ao) (s h q:Rat) (t:Int) (m n:Nat):vs=[.ref p,.ref r]→i9 H p s h n→iQ H r t q m→1≤m→m≤20000→n≤20000→(∀(z:ao) (H':Hp),aq H H'→bV H' z (q-(s*(t:Rat)+h)) (2*m+2*n+2)→Q (.ref z) H')→MU vs H Q E_
inductive wM (vs:List V) (H:Hp) (Q:VK) (E_:XK):Prop where
 | mk (p r:ao) (s q:Rat) (t:Int) (m n:Nat):vs=[.ref p,.ref r]→dw H p s m→iQ H r t q n→1≤n→m+2*n+2≤8000→(∀(z r':ao) (H':Hp),aq H H'→H' z=some (.tup [.ref p,.ref r'])→dw H' r' (q-s*(t:Rat)) (m+2*n+2)→Q (.ref z) H')→wM vs H Q E_
inductive MV (vs:List V) (H:Hp) (Q:VK) (E_:XK):Prop where
 | mk (p r:ao) (s h s' h':Rat) (n:Nat):vs=[.ref p,.ref r]→i9 H p s h n→i9 H r s' h' n→1≤n→n≤1300→(s=s'→∀H',aq H H'→Q .bC H')→(s≠s'→∀(z a b:ao) (H':Hp),aq H H'→H' z=some (.tup [.ref a,.ref b])→dw H' a ((h'-h)/(s-s')) (4*n+2)→dw H' b (s*((h'-h)/(s-s'))+h) (6*n+3)→Q (.ref z) H')→MV vs H Q E_
theorem aaH (h:Fr t b q) (h':Fr t' b' q'):sR (.tuple [.int t,.int b]) (.tuple [.int t',.int b'])=decide (q=q'):=by
 have e:sR (.tuple [.int t,.int b]) (.tuple [.int t',.int b'])=(t==t'&&(b==b'&&true)):=rfl
 rw [e]
 by_cases hq:q=q'
 ·subst hq
  obtain ⟨rfl,rfl⟩:=h.unique h'
  simp
 ·rw [gJ hq]
  by_cases e1:t=t'
  ·by_cases e2:b=b'
   ·exact absurd (h.worth h' e1 e2) hq
   ·simp [e2]
  ·simp [e1]
theorem ym (h:1≤n):Sz n 1:=by
 have:(2:Nat) ^ 1≤2 ^ n:=YT 0#h h
 show aad 1<2 ^ n
 have e:aad 1=1:=rfl
 try?
theorem sO (h:H p=some (.tup [.int m,.int 1])) (z:Sz n m) (hn:1≤n):bV H p (m:Rat) n:=⟨m,1,h,Qt.whole m,z,ym hn⟩
section
theorem TJ:aE ["one","other"] ["one","other"] (ah GP):=0#a
theorem SK (F:cH K "minus" "minus" GP f fd) (aZ:Dn P w K mg base 1 "loose_minus" ["one","other"] (jH (·-·) 1)) (bG:Dn P w K mg base 4 "reduced" ["quotient"] gO):bg P w K mg base cM 5 f fd ["one","other"] (qB (·-·) 1):=by
 refine F.ok TJ 0#e 0#b
 ·obtain ⟨p,r,q,q',m,n,rfl,_⟩:=h
  rfl
 obtain ⟨p,r,q,q',m,n,rfl,h1,h2,hn,k⟩:=h
 refine bD ⟨_,(aG (aR (Jd.c1 bG hr (b9 aZ hr 0#m 0#x)))),?_⟩
 rw?
 refine ⟨p,r,q,q',m,n,rfl,h1,h2,by try?,fun x H1 s1 e1=>?_⟩
 rw?
 refine ⟨x,_,_,rfl,e1,hn,fun y H2 s2 e2=>?_⟩
 exact k y H2 (s1.trans s2) e2
theorem Xn:aE ["one","other"] ["one","other"] (ah MB):=0#a
theorem WX (F:cH K "plus" "plus" MB f fd) (bP:Dn P w K mg base 1 "loose_plus" ["one","other"] (jH (·+·) 1)) (bG:Dn P w K mg base 4 "reduced" ["quotient"] gO):bg P w K mg base cM 5 f fd ["one","other"] (qB (·+·) 1):=by
 refine F.ok Xn 0#e 0#b
 ·obtain ⟨p,r,q,q',m,n,rfl,_⟩:=h
  rfl
 obtain ⟨p,r,q,q',m,n,rfl,h1,h2,hn,k⟩:=h
 refine bD ⟨_,(aG (aR (Jd.c1 bG hr (b9 bP hr 0#m 0#x)))),?_⟩
 rw?
 refine ⟨p,r,q,q',m,n,rfl,h1,h2,by try?,fun x H1 s1 e1=>?_⟩
 rw?
 refine ⟨x,_,_,rfl,e1,hn,fun y H2 s2 e2=>?_⟩
 exact k y H2 (s1.trans s2) e2
theorem Xm:aE ["one","other"] ["one","other"] (ah MA):=0#a
theorem WW (F:cH K "over" "over" MA f fd) (sZ:Dn P w K mg base 3 "ratio" ["top","bottom"] wQ):bg P w K mg base cM 4 f fd ["one","other"] MX:=by
 refine F.ok Xm 0#e 0#b
 ·obtain ⟨p,r,q,q',m,n,rfl,_⟩:=h
  rfl
 obtain ⟨p,r,q,q',m,n,rfl,⟨a,b,hp,hq,za,zb⟩,⟨c,d,hr',hq',zc,zd⟩,hn,h0,k⟩:=h
 have hc:c≠0:=fun z=>h0 (hq'.Uo.mp z)
 obtain ⟨o1,o2⟩:=W5 hq hq' hc
 refine bD ⟨_,(aG (aR (b9 sZ hr (aJ aT (aK K 0#m) (aK K 0#x)) (aJ aT (aK K 0#m) (aK K 0#x))))),?_⟩
 rw?
 refine iC (cg za zd 0#d) ?_
 rw?
 refine iC (cg zb zc 0#d) ?_
 rw?
 refine ⟨_,_,rfl,o1,(za.mul zd).mono hn,(zb.mul zc).mono hn,fun x t' b' H1 s1 e1 lo=>?_⟩
 exact k x H1 s1 ⟨t',b',e1,Fr.LR lo o1 o2,(za.mul zd).of_le lo.tb,(zb.mul zc).of_le lo.bb⟩
theorem fX:aE ["one","other","rise","step"] ["one","other"] (ah kI):=0#a
theorem BH (F:cH K "loose_slope" "loose_slope" kI f fd) (aZ:Dn P w K mg base 1 "loose_minus" ["one","other"] (jH (·-·) 1)):bg P w K mg base cM 3 f fd ["one","other"] wN:=by
 refine F.ok fX 0#e 0#b
 ·obtain ⟨p,r,t,t',q,q',n,rfl,_⟩:=h
  rfl
 obtain ⟨p,r,t,t',q,q',n,rfl,⟨v,hp,hv,zt⟩,⟨v',hr',hv',zt'⟩,ht,hn,k⟩:=h
 refine bD ⟨_,(au (aN 2 fX.nd (b9 aZ hr (aK K 0#x) (aK K 0#m))) (au (aN 3 fX.nd (aJ cB (aK K 0#x) (aK K 0#m))) (au (bK (bh lU (aa 3) aB (aD _)) (aG (aR (bR (bT (jm fY (aK K (aa 2))) (aJ aT (aK K (aa 2)) (jm fY (aa 3))))))) bW) (aG (aR (bR (bT (aK K (aa 2)) (aJ aT (aK K (aa 2)) (aa 3))))))))),?_⟩
 rw?
 refine ⟨v',v,q',q,n,n,rfl,hv'.qt,hv.qt,by try?,fun x H1 s1 e1=>?_⟩
 obtain ⟨a,b,hx,hq,za,zb⟩:=e1
 have hp1:=s1 _ _ hp
 have hr1:=s1 _ _ hr'
 have zs:Sz (n+1) (t'-t):=zt'.sub zt
 rw?
 refine cu (fun c=>?_) (fun c=>?_)
 ·have c':t'-t<0:=c6 c
  rw?
  refine iC (cg zb zs.neg 0#d) ?_
  rw?
  refine aF (mk:=.tup) 0#f fun y H2 s2 n2 e2=>?_
  exact k y H2 (s1.trans s2) ⟨_,_,e2,hq.afc c',za.neg.mono 0#d,(zb.mul zs.neg).mono 0#d⟩
 ·have c':¬t'-t<0:=jw (iU.mpr c)
  rw?
  refine iC (cg zb zs 0#d) ?_
  rw?
  refine aF (mk:=.tup) 0#f fun y H2 s2 n2 e2=>?_
  exact k y H2 (s1.trans s2) ⟨_,_,e2,hq.div 0#d,za.mono 0#d,(zb.mul zs).mono 0#d⟩
theorem Cb:aE ["steep","sample","moment"] ["steep","sample","moment"] (ah oK):=0#a
theorem BF (F:cH K "loose_along" "loose_along" oK f fd) (bP:Dn P w K mg base 1 "loose_plus" ["one","other"] (jH (·+·) 1)) (cU:Dn P w K mg base 1 "loose_times" ["one","other"] (jH (·*·) 0)) :
 bg P w K mg base cM 3 f fd ["steep","sample","moment"] sG:=by
 refine F.ok Cb 0#e 0#b
 ·obtain ⟨p,r,s',q,t,u,m,n,rfl,_⟩:=h
  rfl
 obtain ⟨p,r,s',q,t,u,m,n,rfl,hp,⟨v,hr',hv,zt⟩,zu,hm,hn,k⟩:=h
 refine bD ⟨_,(aG (aR (b9 bP hr (aK K 0#x) (b9 cU hr 0#m (bR (bT (aJ cB (aa 2) (aK K 0#x)) aB)))))),?_⟩
 rw?
 refine aF (mk:=.tup) 0#f fun y H1 s1 n1 e1=>?_
 refine ⟨p,y,s',_,m,n+1,rfl,hp.up s1,sO e1 (zu.sub zt) 0#d,by try?,fun x H2 s2 e2=>?_⟩
 rw?
 refine ⟨v,x,q,_,n,_,rfl,(hv.up (s1.trans s2)).qt,e2,by try?,fun z H3 s3 e3=>?_⟩
 exact k z H3 (s1.trans (s2.trans s3)) (e3.mono 0#d)
theorem Ao:aE ["line","when"] ["line","when"] (ah m8):=0#a
theorem Ai (F:cH K "loose_height" "loose_height" m8 f fd) (bP:Dn P w K mg base 1 "loose_plus" ["one","other"] (jH (·+·) 1)) (cU:Dn P w K mg base 1 "loose_times" ["one","other"] (jH (·*·) 0)) :
 bg P w K mg base cM 3 f fd ["line","when"] tO:=by
 refine F.ok Ao 0#e 0#b
 ·obtain ⟨p,r,s',h',x,m,n,rfl,_⟩:=h
  rfl
 obtain ⟨p,r,s',h',x,m,n,rfl,⟨a,b,hp,ha,hb⟩,hx,hm,hn,k⟩:=h
 refine bD ⟨_,(aG (aR (b9 bP hr (b9 cU hr (aK K 0#m) 0#x) (aK K 0#m)))),?_⟩
 rw?
 refine ⟨a,r,_,_,n,m,rfl,ha.qt,hx,by try?,fun y H1 s1 e1=>?_⟩
 have hp1:=s1 _ _ hp
 rw?
 refine ⟨y,b,_,_,_,n,rfl,e1,(hb.up s1).qt,by try?,fun z H2 s2 e2=>?_⟩
 exact k z H2 (s1.trans s2) (e2.mono 0#d)
theorem G3:aE ["line","sample"] ["line","sample"] (ah sr):=0#a
theorem Gj (F:cH K "loose_off" "loose_off" sr f fd) (aZ:Dn P w K mg base 1 "loose_minus" ["one","other"] (jH (·-·) 1)) (fO:Dn P w K mg base 3 "loose_height" ["line","when"] tO) :
 bg P w K mg base cM 4 f fd ["line","sample"] MU:=by
 refine F.ok G3 0#e 0#b
 ·obtain ⟨p,r,s',h',q,t,m,n,rfl,_⟩:=h
  rfl
 obtain ⟨p,r,s',h',q,t,m,n,rfl,hl,⟨v,hr',hv,zt⟩,h1,hm,hn,k⟩:=h
 refine bD ⟨_,(aG (aR (b9 aZ hr (aK K 0#x) (b9 fO hr 0#m (bR (bT (aK K 0#x) aB)))))),?_⟩
 rw?
 refine aF (mk:=.tup) 0#f fun y H1 s1 n1 e1=>?_
 refine ⟨p,y,s',h',_,m,n,rfl,hl.up s1,sO e1 zt h1,by try?,by try?,fun x H2 s2 e2=>?_⟩
 rw?
 refine ⟨v,x,q,_,m,_,rfl,(hv.up (s1.trans s2)).qt,e2,by try?,fun z H3 s3 e3=>?_⟩
 exact k z H3 (s1.trans (s2.trans s3)) (e3.mono 0#d)
theorem TL:aE ["one","other"] ["one","other"] (ah GV):=0#a
theorem SR (F:cH K "slope" "slope" GV f fd) (gK:Dn P w K mg base 3 "loose_slope" ["one","other"] wN) (bG:Dn P w K mg base 4 "reduced" ["quotient"] gO):bg P w K mg base cM 5 f fd ["one","other"] Ho:=by
 refine F.ok TL 0#e 0#b
 ·obtain ⟨p,r,t,t',q,q',n,rfl,_⟩:=h
  rfl
 obtain ⟨p,r,t,t',q,q',n,rfl,hp,hr',ht,hn,k⟩:=h
 refine bD ⟨_,(aG (aR (Jd.c1 bG hr (b9 gK hr 0#m 0#x)))),?_⟩
 rw?
 refine ⟨p,r,t,t',q,q',n,rfl,hp,hr',ht,by try?,fun x H1 s1 e1=>?_⟩
 rw?
 refine ⟨x,_,_,rfl,e1,by try?,fun y H2 s2 e2=>?_⟩
 exact k y H2 (s1.trans s2) e2
theorem ME:aE ["steep","sample"] ["steep","sample"] (ah yD):=0#a
theorem LZ (F:cH K "line_by" "line_by" yD f fd) (cS:Dn P w K mg base 3 "loose_along" ["steep","sample","moment"] sG) (bG:Dn P w K mg base 4 "reduced" ["quotient"] gO):bg P w K mg base cM 5 f fd ["steep","sample"] wM:=by
 refine F.ok ME 0#e 0#b
 ·obtain ⟨p,r,s',q,t,m,n,rfl,_⟩:=h
  rfl
 obtain ⟨p,r,s',q,t,m,n,rfl,hp,hr',h1,hn,k⟩:=h
 refine bD ⟨_,(aG (aR (bR (bT 0#m (Jd.c1 bG hr (Jd.c3 cS hr 0#m 0#x aB)))))),?_⟩
 rw?
 refine ⟨p,r,s',q,t,0,m,n,rfl,hp.qt,hr',Zw n,by try?,by try?,fun x H1 s1 e1=>?_⟩
 rw?
 refine ⟨x,_,_,rfl,e1,by try?,fun y H2 s2 e2=>?_⟩
 rw?
 refine aF (mk:=.tup) 0#f fun z H3 s3 n3 e3=>?_
 refine k z y H3 (s1.trans (s2.trans s3)) e3 ?_
 have e:q+s'*((0-t:Int):Rat)=q-s'*(t:Rat):=by
  simp only [uo]
  grind
 rw [e] at e2
 exact e2.up s3
theorem Qw:aE ["line","when"] ["line","when"] (ah B5):=0#a
theorem Qk (F:cH K "height" "height" B5 f fd) (fO:Dn P w K mg base 3 "loose_height" ["line","when"] tO) (bG:Dn P w K mg base 4 "reduced" ["quotient"] gO):bg P w K mg base cM 5 f fd ["line","when"] sF:=by
 refine F.ok Qw 0#e 0#b
 ·obtain ⟨p,r,s',h',x,m,n,rfl,_⟩:=h
  rfl
 obtain ⟨p,r,s',h',x,m,n,rfl,hl,hx,hn,k⟩:=h
 refine bD ⟨_,(aG (aR (Jd.c1 bG hr (b9 fO hr 0#m 0#x)))),?_⟩
 rw?
 refine ⟨p,r,s',h',x,m,n,rfl,hl,hx,by try?,by try?,fun y H1 s1 e1=>?_⟩
 rw?
 refine ⟨y,_,_,rfl,e1,hn,fun z H2 s2 e2=>?_⟩
 exact k z H2 (s1.trans s2) e2
theorem Od:aE ["line","other","when"] ["line","other"] (ah Mz):=0#a
theorem WV (F:cH K "meet" "meet" Mz f fd) (Ky:Dn P w K mg base 4 "over" ["one","other"] MX) (AA:Dn P w K mg base 5 "minus" ["one","other"] (qB (·-·) 1)) (iP:Dn P w K mg base 5 "height" ["line","when"] sF):bg P w K mg base cM 6 f fd ["line","other"] MV:=by
 refine F.ok Od 0#e 0#b
 ·obtain ⟨p,r,s',h',s2',h2',n,rfl,_⟩:=h
  rfl
 obtain ⟨p,r,sl,ht,sl',ht',n,rfl,hl,hl',h1,hn,k1,k2⟩:=h
 obtain ⟨a,b,hp,ha,hb⟩:=id hl
 obtain ⟨a',b',C8,ha',hb'⟩:=id hl'
 have mQ:=hr.units
 refine bD ⟨_,(au (bK (bh (SX mQ) (aK K 0#m) (aK K 0#x) (aD _)) (aG (aR dW)) bW) (au (aN 2 Od.nd (b9 Ky hr (b9 AA hr (aK K 0#x) (aK K 0#m)) (b9 AA hr (aK K 0#m) (aK K 0#x)))) (aG (aR (bR (bT (aa 2) (b9 iP hr 0#m (aa 2)))))))),?_⟩
 rw?
 obtain ⟨t1,d1,D1,F1⟩:=ha.den
 obtain ⟨t2,d2,D2,F2⟩:=ha'.den
 refine ⟨_,_,D1,D2,rfl,rfl,?_⟩
 rw [aaH F1 F2]
 rw?
 refine cu (fun c=>?_) (fun c=>?_)
 ·have c':=c6 c
  rw?
  exact k1 c' H (aq.refl _)
 ·have c':=jw (iU.mpr c)
  rw?
  refine ⟨b',b,_,_,n,n,rfl,hb'.qt,hb.qt,by try?,fun x H1 s1 e1=>?_⟩
  have hp1:=s1 _ _ hp
  have agm:=s1 _ _ C8
  rw?
  refine ⟨a,a',_,_,n,n,rfl,(ha.up s1).qt,(ha'.up s1).qt,by try?,fun y H2 s2 e2=>?_⟩
  rw?
  refine ⟨x,y,_,_,_,_,rfl,(e1.up s2).qt,e2.qt,by try?,by grind,fun z H3 s3 e3=>?_⟩
  rw?
  refine ⟨p,z,_,_,_,_,n,rfl,hl.up (s1.trans (s2.trans s3)),e3.qt,by try?,fun v H4 s4 e4=>?_⟩
  rw?
  refine aF (mk:=.tup) 0#f fun g H5 s5 n5 e5=>?_
  exact k2 c' g z v H5 (s1.trans (s2.trans (s3.trans (s4.trans s5)))) e5 ((e3.up (s4.trans s5)).mono 0#d) ((e4.up s5).mono 0#d)
end
inductive kX (vs:List V) (H:Hp) (Q:VK) (E_:XK):Prop where
 | mk (p r:ao) (q q':Rat) (m n:Nat):vs=[.ref p,.ref r]→bV H p q m→bV H r q' n→m+n≤100000→(∀o:Int,(0<o↔q'<q)→(o<0↔q<q')→Q (.int o) H)→kX vs H Q E_
inductive Hl (vs:List V) (H:Hp) (Q:VK) (E_:XK):Prop where
 | mk (p:ao) (q:Rat) (n:Nat):vs=[.ref p]→bV H p q n→(∀(r:ao) (H':Hp),aq H H'→bV H' r (cP q) n→Q (.ref r) H')→Hl vs H Q E_
inductive sJ (vs:List V) (H:Hp) (Q:VK) (E_:XK):Prop where
 | mk (p1 p2 p3:ao) (t1 t2 t3:Int) (q1 q2 q3:Rat) (n:Nat):vs=[.ref p1,.ref p2,.ref p3]→iQ H p1 t1 q1 n→iQ H p2 t2 q2 n→iQ H p3 t3 q3 n→t1<t3→n≤2000→(∀(z:ao) (H':Hp),aq H H'→bV H' z (q2-c7 t1 q1 t2 t3 q3) (7*n+7)→Q (.ref z) H')→sJ vs H Q E_
section
theorem Cf:aE ["one","other","left","right"] ["one","other"] (ah GQ):=0#a
theorem SM (F:cH K "order" "order" GQ f fd):bg P w K mg base cM 1 f fd ["one","other"] kX:=by
 refine F.ok Cf 0#e 0#b
 ·obtain ⟨p,r,q,q',m,n,rfl,_⟩:=h
  rfl
 obtain ⟨p,r,q,q',m,n,rfl,⟨a,b,hp,hq,za,zb⟩,⟨c,d,hr',hq',zc,zd⟩,hn,k⟩:=h
 have l1:=hq.lt_iff hq'
 have l2:=hq'.lt_iff hq
 refine bD ⟨_,(au (aN 2 Cf.nd (aJ aT (aK K 0#m) (aK K 0#x))) (au (aN 3 Cf.nd (aJ aT (aK K 0#x) (aK K 0#m))) (au (bK (bh lU (aa 2) (aa 3) (aD _)) (aG (aR (jm fY aB))) bW) (au (bK (bh cY (aa 2) (aa 3) (aD _)) (aG (aR aB)) bW) (aG (aR aB)))))),?_⟩
 rw?
 refine iC (cg za zd 0#d) ?_
 rw?
 refine iC (cg zc zb 0#d) ?_
 rw?
 refine cu (fun c1=>?_) (fun c1=>?_)
 ·have c':=c6 c1
  rw?
  have x1:=l1.mp c'
  exact k _ ⟨fun z=>absurd z 0#h,fun z=>by grind⟩ ⟨fun _=>x1,fun _=>by decide⟩
 ·have c':=jw (iU.mpr c1)
  rw?
  refine cu (fun c2=>?_) (fun c2=>?_)
  ·have c'':=c6 c2
   rw?
   have x1:=l2.mp c''
   exact k _ ⟨fun _=>x1,fun _=>by decide⟩ ⟨fun z=>absurd z 0#h,fun z=>by grind⟩
  ·have c'':=jw (iU.mpr c2)
   rw?
   exact k _ ⟨fun z=>absurd z 0#h,fun z=>absurd (l2.mpr z) c''⟩ ⟨fun z=>absurd z 0#h,fun z=>absurd (l1.mpr z) c'⟩
theorem Oe:aE ["one"] ["one"] (ah GU):=0#a
theorem WZ (F:cH K "size" "size" GU f fd) (T:Txt mg):bg P w K mg base cM 1 f fd ["one"] Hl:=by
 refine F.ok Oe 0#e 0#b
 ·obtain ⟨p,q,n,rfl,_⟩:=h
  rfl
 obtain ⟨p,q,n,rfl,⟨a,b,hp,hq,za,zb⟩,k⟩:=h
 refine bD ⟨_,(aG (aR (bR (bT (fj zY rfl T.zZ Au (cO (aK K 0#m)) (he:=Qz) (hpl:=bS)) (aK K 0#m))))),?_⟩
 rw?
 rw [iR]
 refine aF (mk:=.tup) 0#f fun p1 H1 s1 n1 e1=>?_
 exact k p1 H1 s1 ⟨_,_,e1,hq.abs,za.of_le 0#d,zb⟩
theorem Cd:aE ["one","mid","last"] ["one","mid","last"] (ah oN):=0#a
theorem BI (F:cH K "loose_stand" "loose_stand" oN f fd) (aZ:Dn P w K mg base 1 "loose_minus" ["one","other"] (jH (·-·) 1)) (cS:Dn P w K mg base 3 "loose_along" ["steep","sample","moment"] sG) (gK:Dn P w K mg base 3 "loose_slope" ["one","other"] wN) :
 bg P w K mg base cM 4 f fd ["one","mid","last"] sJ:=by
 refine F.ok Cd 0#e 0#b
 ·obtain ⟨p1,p2,p3,t1,t2,t3,q1,q2,q3,n,rfl,_⟩:=h
  rfl
 obtain ⟨p1,p2,p3,t1,t2,t3,q1,q2,q3,n,rfl,h1,h2,h3,ht,hn,k⟩:=h
 obtain ⟨v2,e2,f2,z2⟩:=id h2
 refine bD ⟨_,(aG (aR (b9 aZ hr (aK K 0#x) (Jd.c3 cS hr (b9 gK hr 0#m (aa 2)) 0#m (aK K 0#x))))),?_⟩
 rw?
 refine ⟨p1,p3,t1,t3,q1,q3,n,rfl,h1,h3,by try?,hn,fun x H1 s1 e1=>?_⟩
 have e21:=s1 _ _ e2
 rw?
 refine ⟨x,p1,_,q1,t1,t2,_,n,rfl,e1,h1.up s1,z2,by try?,by try?,fun y H2 s2 e22=>?_⟩
 rw?
 refine ⟨v2,y,q2,_,n,_,rfl,(f2.up (s1.trans s2)).qt,e22,by try?,fun z H3 s3 e3=>?_⟩
 refine k z H3 (s1.trans (s2.trans s3)) ?_
 have hne:(t1:Rat)≠(t3:Rat):=fun z=>by
  have:=ES.mp z
  try?
 have e:q1+(q3-q1)/((t3-t1:Int):Rat)*((t2-t1:Int):Rat)=c7 t1 q1 t2 t3 q3:=by
  rw [uo,uo]
  exact HX hne
 rw [e] at e3
 exact e3.mono 0#d
end
inductive Hj (vs:List V) (H:Hp) (Q:VK) (E_:XK):Prop where
 | mk (p:ao) (q:Rat) (n:Nat):vs=[.ref p]→dw H p q n→(∀(r:ao) (H':Hp),aq H H'→dw H' r (cP q) n→Q (.ref r) H')→Hj vs H Q E_
theorem Jp {zs:List Int} (P:Int→Prop) (hz:∀z∈zs,P z) (h0:0≤i) (h1:i<(zs.length:Int)):∃v:Int,xE (zs.map V.int) i=some (.int v)∧P v:=by
 have hk:i.toNat<zs.length:=by try?
 exact ⟨zs[i.toNat],aV (je hk) 0#d,hz _ (yR hk)⟩
theorem fN {xs zs:List Int} (hlen:xs.length=zs.length) (hxs:∀(j:Nat) (x z:Int),xs[j]?=some x→zs[j]?=some z→0≤x∧x<z) (j:Nat)  (ez:zs[j]?=some z):∃x,xs[j]?=some x∧0≤x∧x<z:=by
 have hj:=(fZ.mp ez).1
 rw [← hlen] at hj
 exact ⟨xs[j],je hj,hxs j _ z (je hj) ez⟩
theorem NQ (h:XN T B t b) (hB:B≠0):Fr t b ((T:Rat)/(B:Rat)):=by
 refine Fr.LR h hB ?_
 have:=dB hB
 grind
theorem mG (h:H p=some (.tup [x,y])) (q:R ((σ.set i (some x)).set j (some y)) H):Pr K 2 (qH (ia i) (qH (ia j) Pq)) (.ref p) σ H R:=
 ⟨p,_,rfl,nI.of h,rfl,x,_,rfl,y,_,rfl,rfl,q⟩
abbrev En:=ao×Int×Option Rat
def mO (H:Hp) (x:En) (n:Nat):Prop:=Sz n x.2.1∧match x.2.2 with
 | none=>H x.1=some (.tup [.int x.2.1,.bC])
 | some q=>∃p,H x.1=some (.tup [.int x.2.1,.ref p])∧dw H p q n
theorem mO.up (f:mO H x n) (s:aq H H'):mO H' x n:=by
 obtain ⟨a,m,v⟩:=x
 cases v with
 | none=>exact ⟨f.1,s _ _ f.2⟩
 | some q=>exact ⟨f.1,let ⟨p,e,g⟩:=f.2;⟨p,s _ _ e,g.up s⟩⟩
theorem mO.rm (hD:H D=some (.lst ys)) (f:mO H x n):mO (rm D H) x n:=by
 obtain ⟨a,m,v⟩:=x
 cases v with
 | none=>exact ⟨f.1,ja hD f.2⟩
 | some q=>
   obtain ⟨z,p,e,t,b,et,g⟩:=f
   exact ⟨z,p,ja hD e,t,b,ja hD et,g⟩
theorem mO.obj (f:mO H x n):∃v,H x.1=some (.tup [.int x.2.1,v])∧(decide (v=.bC)=!x.2.2.isSome)∧(v=.bC∨∃p q,v=.ref p∧x.2.2=some q∧dw H p q n):=by
 obtain ⟨a,m,v⟩:=x
 cases v with
 | none=>exact ⟨.bC,f.2,rfl,.inl rfl⟩
 | some q=>
   obtain ⟨z,p,e,g⟩:=f
   exact ⟨.ref p,e,rfl,.inr ⟨p,q,rfl,rfl,g⟩⟩
def Row (H:Hp) (es:List En) (n:Nat):Prop:=∀x∈es,mO H x n
theorem Row.up (h:Row H es n) (s:aq H H'):Row H' es n:=fun x hx=>(h x hx).up s
theorem Row.rm (hD:H D=some (.lst ys)) (h:Row H es n):Row (rm D H) es n:=fun x hx=>(h x hx).rm hD
theorem Row.snoc (h:Row H es n) (hx:mO H x n):Row H (es++[x]) n:=fun y hy=>by
 rcases dH.mp hy with z | z
 ·exact h y z
 ·obtain rfl:y=x:=by simpa using z
  exact hx
def vals (es:List En):List V:=es.map fun x=>V.ref x.1
theorem i8 {i:Nat} (h:(vals es)[i]?=some v):∃x,es[i]?=some x∧v=.ref x.1:=by
 unfold vals at h
 rw [jQ] at h
 cases e:es[i]? with
 | none=>rw [e] at h;cases h
 | some x=>rw [e] at h;cases h;exact ⟨x,rfl,rfl⟩
theorem w6 {i:Nat} (h:es[i]?=some x):(vals es)[i]?=some (.ref x.1):=by
 unfold vals
 rw [jQ,h]
 rfl
theorem aS (es:List En):(vals es).length=es.length:=eV ..
theorem gQ (es:List En) (x:En):vals es++[.ref x.1]=vals (es++[x]):=by simp [vals]
def dat (v:Int×Option Rat):qR:=.tuple [.int v.1,match v.2 with | none=>.none | some q=>.tuple [.int q.num,.int (q.den:Int)]]
theorem mO.den (f:mO H x n):Den H (.ref x.1) (dat x.2):=by
 obtain ⟨a,m,v⟩:=x
 cases v with
 | none=>exact .tup f.2 (.cons (.int _) (.cons .bC .nil))
 | some q=>
   obtain ⟨z,p,e,t,b,et,g,_⟩:=f
   obtain ⟨rfl,rfl⟩:=g.AN
   exact .tup e (.cons (.int _) (.cons (.tup et (.cons (.int _) (.cons (.int _) .nil))) .nil))
theorem Row.acB:∀{es:List En} {n:Nat},Row H es n→qc H (vals es) (es.map fun x=>dat x.2)
 | [],_,_=>.nil
 | x::es,n,h=>.cons (h x xB).den (Row.acB fun y hy=>h y (vE _ hy))
theorem VX (v:Int×Option Rat):sR (dat v) (dat v)=true:=by
 obtain ⟨m,v⟩:=v
 cases v with
 | none=>
   show (m==m&&(true&&true))=true
   simp
 | some q=>
   show (m==m&&((q.num==q.num&&((q.den:Int)==(q.den:Int)&&true))&&true))=true
   simp
theorem Ie:∀vs:List (Int×Option Rat),CQ (vs.map dat) (vs.map dat)=true
 | []=>rfl
 | v::vs=>by
   show (sR (dat v) (dat v)&&CQ (vs.map dat) (vs.map dat))=true
   rw [VX,Ie vs];rfl
theorem Pn:∀v:Int×Option Rat,(dat v).canLay0=true∧(dat v).depth≤3:=by
 intro ⟨m,v⟩
 cases v with
 | none=>exact ⟨by rfl,by show _≤_;simp [dat,Vf,Az]⟩
 | some q=>exact ⟨by rfl,by show _≤_;simp [dat,Vf,Az]⟩
theorem A8:∀vs:List (Int×Option Rat),EM (vs.map dat)=true∧Az (vs.map dat)≤3
 | []=>⟨rfl,by decide⟩
 | v::vs=>by
   obtain ⟨a,b⟩:=Pn v
   obtain ⟨c,d⟩:=A8 vs
   refine ⟨?_,?_⟩
   ·show ((dat v).canLay0&&EM (vs.map dat))=true
    rw [a,c];rfl
   ·show max (dat v).depth (Az (vs.map dat))≤3
    try?
theorem B3 (vs:List (Int×Option Rat)):uA (.list (vs.map dat))=true:=by
 obtain ⟨a,b⟩:=A8 vs
 unfold uA
 rw [vF]
 refine ⟨a,dz ?_⟩
 show Az (vs.map dat)+1≤64
 try?
theorem Row.IU (h:Row H es n) (hl:H l=some (.lst (vals es))):Den H (.ref l) (.list ((es.map (·.2)).map dat)):=by
 have:=h.acB
 rw [show (es.map fun x=>dat x.2)=(es.map (·.2)).map dat by rw [nC];rfl] at this
 exact .lst hl this
theorem Xk (h:Row H es n) (h':Row H es' n') (hl:H l=some (.lst (vals es))) (hl':H l'=some (.lst (vals es'))) (e:es.map (·.2)=es'.map (·.2)) (q:Q (.bl false) H) :
 abB (.ref l) (.ref l') H Q:=by
 refine ⟨_,_,h.IU hl,h'.IU hl',B3 _,B3 _,?_⟩
 rw [e]
 have:sR (.list ((es'.map (·.2)).map dat)) (.list ((es'.map (·.2)).map dat))=true:=Ie _
 rw [this]
 exact q
theorem Row.app (f:Row H es n) (h:H R=some (.lst ys)):Row (upd H R o) es n:=(f.rm h).up (Jy R H o)
theorem WJ (h:H L=some o') (ne:L≠R):upd H R o L=some o':=by
 rw [aI ne];exact h
def rising (es:List En):Prop:=es.Pairwise fun a b=>a.2.1<b.2.1
theorem RI (hB:0<B) (zT:Sz n T) (zB:Sz n B) (hn:n≤8000) (kk:∀(p:ao) (H':Hp),aq H H'→dw H' p ((T:Rat)/(B:Rat)) n→Q (.ref p) H'):wO ([.int T,.int B]++[]) H Q E0:=
 ⟨_,_,rfl,hB,zB.mono hn,fun p t b H' s e lo=>kk p H' s ⟨t,b,e,NQ lo 0#d,zT.of_le lo.tb,zB.of_le lo.bb⟩⟩
def gY (x:En):Bool:=x.2.2.isSome
abbrev Ls:=List (ao×List En)
def lrefs (ls:Ls):List V:=ls.map fun x=>V.ref x.1
theorem rJ {i:Nat} (h:(lrefs ls)[i]?=some v):∃x,ls[i]?=some x∧v=.ref x.1:=by
 unfold lrefs at h
 rw [jQ] at h
 cases e:ls[i]? with
 | none=>rw [e] at h;cases h
 | some x=>rw [e] at h;cases h;exact ⟨x,rfl,rfl⟩
theorem fQ (ls:Ls):(lrefs ls).length=ls.length:=eV ..
structure LL (H H2:Hp) (T:ao) (ls:Ls):Prop where
 new:H T=none
 at_:H2 T=some (.lst (lrefs ls))
 each:∀x∈ls,H x.1=none∧H2 x.1=some (.lst (vals x.2))∧x.1≠T
 nd:(ls.map (·.1)).Nodup
section
theorem LL.up (h:LL H H2 T ls) (s:aq H2 H3):LL H H3 T ls:=⟨h.new,s _ _ h.at_,fun x hx=>let ⟨a,b,c⟩:=h.each x hx;⟨a,s _ _ b,c⟩,h.nd⟩
theorem LL.other (h:LL H H2 T ls) (hT:R≠T) (hl:∀x∈ls,x.1≠R):LL H (upd H2 R o) T ls:=
 ⟨h.new,by rw [aI (eG hT)];exact h.at_,fun x hx=>let ⟨a,b,c⟩:=h.each x hx;⟨a,by rw [aI (hl x hx)];exact b,c⟩,h.nd⟩
theorem LL.push (h:LL H H2 T ls) (hR:H R=none) (eR:H2 R=some (.lst (vals rn))) (hT:R≠T) (hl:∀x∈ls,x.1≠R):LL H (upd H2 T (.lst (lrefs ls++[.ref R]))) T (ls++[(R,rn)]):=by
 refine ⟨h.new,by rw [av];simp [lrefs],fun x hx=>?_,?_⟩
 ·rcases dH.mp hx with z | z
  ·obtain ⟨a,b,c⟩:=h.each x z
   exact ⟨a,by rw [aI c];exact b,c⟩
  ·obtain rfl:x=(R,rn):=by simpa using z
   exact ⟨hR,by rw [aI hT];exact eR,hT⟩
 ·rw [ju]
  refine UT.mpr ⟨h.nd,by simp,fun a ha b hb=>?_⟩
  obtain ⟨x,hx,rfl⟩:=eU.mp ha
  obtain rfl:b=R:=by simpa using hb
  exact hl x hx
end
theorem VO:xE (xs++[x]) (-1)=some x:=by
 unfold xE
 rw [AG (m:=xs.length) 0#f]
 simp
inductive Cw (vs:List V) (H:Hp) (Q:VK) (E_:XK):Prop where
 | mk (l:ao) (es:List En) (n:Nat):vs=[.ref l]→H l=some (.lst (vals es))→Row H es n→es.length≤40→(∀(T:ao) (ls:Ls) (H':Hp),aq H H'→LL H H' T ls→ls.map (·.2)=parts gY es es.length→ls.length≤40→(∀x∈ls,x.2.length≤40)→Q (.ref T) H')→Cw vs H Q E_
section
theorem wG:aE ["row","told","run","entry"] ["row"] (ah MC):=0#a
theorem WY (F:cH K "runs" "runs" MC f fd) (T:Txt mg):bg P w K mg base cM 1 f fd ["row"] Cw:=by
 refine F.ok wG 0#e 0#b
 ·obtain ⟨l,es,n,rfl,_⟩:=h
  rfl
 obtain ⟨l,es,n,rfl,hl,hes,hn,k⟩:=h
 refine bD ⟨_,(au (aN 1 wG.nd (dP gc)) (au (aN 2 wG.nd (dP gc)) (au (fK iM rfl (gU K 0#m) (bQ (i:=3) wG.nd rfl 0#n) (aG (bK (bh iY (aK K (aa 3)) dW (aD _)) (aG (gE (d7 K (aa 2) (aa 3)) (hs:=fL))) (aG (bK (bh cY (cR K T.gA (aa 2)) aB (aD _)) (au (gE (d7 K 0#x (aa 2)) (hs:=fL)) (aG (aN 2 wG.nd (dP gc)))) bW))))) (au (bK (bh cY (cR K T.gA (aa 2)) aB (aD _)) (aG (gE (d7 K 0#x (aa 2)) (hs:=fL))) bW) (aG (aR 0#x)))))),?_⟩
 rw?
 refine aF (mk:=.lst) 0#f fun TT H1 s1 n1 e1=>?_
 rw?
 refine aF (mk:=.lst) 0#f fun R0 H2 s2 n2 e2=>?_
 rw?
 refine gH (gV ?_)
 rw?
 have eB:=s1.trans s2
 refine ⟨l,rfl,⟨_,aW.of (eB _ _ hl)⟩,cL (xs:=vals es) (fun i σ H3=>∃(R:ao) (ls:Ls) (rn:List En) (v:Option V),σ=[some (.ref l),some (.ref TT),some (.ref R),v]∧aq H H3∧LL H H3 TT ls∧H R=none∧H3 R=some (.lst (vals rn))∧R≠TT∧(∀x∈ls,x.1≠R) ∧
  (dM gY es i=true→parts gY es i=ls.map (·.2)++[rn]∧rn≠[])∧(dM gY es i=false→parts gY es i=ls.map (·.2)∧rn=[])∧rn.length≤i∧ls.length≤i∧(∀x∈ls,x.2.length≤40)) ?_ ?_ ?_ ?_⟩
 ·refine ⟨R0,[],[],none,rfl,eB,⟨n1,s2 _ _ e1,fun x hx=>absurd hx 0#f,List.nodup_nil⟩,s1.free n2,e2,fun z=>?_,fun x hx=>absurd hx 0#f,fun z=>absurd z (by simp [dM]),fun _=>⟨rfl,rfl⟩,dm _,dm _,fun x hx=>absurd hx 0#f⟩
  rw [z] at n2
  rw [e1] at n2
  cases n2
 ·rintro i σ H3 _ ⟨R,ls,rn,v,rfl,s3,_⟩
  exact aW.of (s3 _ _ hl)
 ·rintro i x σ H3 hx ⟨R,ls,rn,v,rfl,s3,hL,hR,eR,nR,hne,hp1,hp2,lr,ll,lx⟩
  obtain ⟨e,he,rfl⟩:=i8 hx
  have hi:i<es.length:=(fZ.mp he).1
  obtain ⟨u,ee,du,_⟩:=((hes e (jL he)).up s3).obj
  have hsu:dM gY es (i+1)=gY e:=uV he
  rw?
  refine ⟨rfl,?_⟩
  rw?
  rw [du]
  cases hs:e.2.2.isSome with
  | true=>
    have hs':gY e=true:=hs
    refine bJ ?_
    rw?
    refine ⟨.inl ⟨rfl,_,aW.of eR⟩,?_⟩
    rw?
    refine cZ eR (by rw [aS];exact aO 0#d) ?_
    refine ⟨R,ls,rn++[e],_,rfl,bw s3 hR,hL.other nR (fun x hx=>hne x hx),hR,by rw [av,gQ],nR,hne,fun _=>?_,fun z=>absurd (hsu.symm.trans z) (by rw [hs'];decide),by rw [cJ];exact C6 lr,by try?,lx⟩
    refine ⟨?_,by simp⟩
    cases Dt:dM gY es i with
    | true=>exact wc he hs' Dt (hp1 Dt).1
    | false=>
      obtain ⟨a,rfl⟩:=hp2 Dt
      rw [pJ he hs' Dt,a]
      rfl
  | false=>
    have hs':gY e=false:=hs
    refine bE ?_
    rw?
    refine cE (.inl (aW.of eR)) ?_
    rw?
    refine cu (fun c=>?_) (fun c=>?_)
    ·have c':=c6 c
     rw [aS] at c'
     have Dt:dM gY es i=true:=by
      cases Dt:dM gY es i with
      | true=>rfl
      | false=>
        obtain ⟨_,rfl⟩:=hp2 Dt
        simp at c'
     rw?
     refine ⟨.inl ⟨rfl,_,aW.of hL.at_⟩,?_⟩
     rw?
     refine cZ hL.at_ (by rw [fQ];exact aO 0#d) ?_
     rw?
     have hL2:=hL.push hR eR nR hne
     refine aF (mk:=.lst) 0#f fun R2 H4 s4 n4 e4=>?_
     have sH:aq H H4:=(bw s3 hL.new).trans s4
     rw?
     refine ⟨R2,ls++[(R,rn)],[],_,rfl,sH,hL2.up s4,(bw s3 hL.new).free n4,e4,fun z=>?_,fun x hx z=>?_,fun z=>absurd (hsu.symm.trans z) (by rw [hs'];decide),fun _=>⟨?_,rfl⟩,nH _,by rw [cJ];exact C6 ll,fun x hx=>?_⟩
     ·rw [z,hL2.at_] at n4
      cases n4
     ·rw [← z,(hL2.each x hx).2.1] at n4
      cases n4
     ·rw [pH he hs',(hp1 Dt).1,ju]
      rfl
     ·rcases dH.mp hx with z | z
      ·exact lx x z
      ·obtain rfl:x=(R,rn):=by simpa using z
       show rn.length≤40
       try?
    ·have c':=jw (iU.mpr c)
     rw [aS] at c'
     have Dt:dM gY es i=false:=by
      cases Dt:dM gY es i with
      | false=>rfl
      | true=>
        have:=OE.mpr (hp1 Dt).2
        try?
     obtain ⟨a,rfl⟩:=hp2 Dt
     rw?
     exact ⟨R,ls,[],_,rfl,s3,hL,hR,eR,nR,hne,fun z=>absurd (hsu.symm.trans z) (by rw [hs'];decide),fun _=>⟨by rw [pH he hs',a],rfl⟩,nH _,by try?,lx⟩
 ·rintro σ H3 ⟨R,ls,rn,v,rfl,s3,hL,hR,eR,nR,hne,hp1,hp2,lr,ll,lx⟩
  rw [aS] at hp1 hp2 lr ll
  rw?
  refine cE (.inl (aW.of eR)) ?_
  rw?
  refine cu (fun c=>?_) (fun c=>?_)
  ·have c':=c6 c
   rw [aS] at c'
   have Dt:dM gY es es.length=true:=by
    cases Dt:dM gY es es.length with
    | true=>rfl
    | false=>
      obtain ⟨_,rfl⟩:=hp2 Dt
      simp at c'
   have hlen:(ls++[(R,rn)]).length≤40:=by
    have e:=pI (s:=gY) (es:=es) es.length
    rw [(hp1 Dt).1,cJ,eV] at e
    rw [cJ]
    simp at e ⊢
    try?
   rw?
   refine ⟨.inl ⟨rfl,_,aW.of hL.at_⟩,?_⟩
   rw?
   refine cZ hL.at_ (by rw [fQ];exact aO 0#d) ?_
   rw?
   refine k TT (ls++[(R,rn)]) _ (bw s3 hL.new) (hL.push hR eR nR hne) ?_ hlen fun x hx=>?_
   ·rw [(hp1 Dt).1,ju]
    rfl
   ·rcases dH.mp hx with z | z
    ·exact lx x z
    ·obtain rfl:x=(R,rn):=by simpa using z
     show rn.length≤40
     try?
  ·have c':=jw (iU.mpr c)
   rw [aS] at c'
   have Dt:dM gY es es.length=false:=by
    cases Dt:dM gY es es.length with
    | false=>rfl
    | true=>
      have:=OE.mpr (hp1 Dt).2
      try?
   rw?
   exact k TT ls H3 s3 hL (hp2 Dt).1.symm 0#d lx
end
abbrev Nn:=ao×Int×Option Int
def nnv:Option Int→V
 | none=>.bC
 | some n=>.int n
def Dd (H:Hp) (x:Nn) (m n:Nat):Prop:=H x.1=some (.tup [.int x.2.1,nnv x.2.2])∧Sz m x.2.1∧∀z,x.2.2=some z→Sz n z
theorem Dd.up (f:Dd H x m n) (s:aq H H'):Dd H' x m n:=⟨s _ _ f.1,f.2⟩
theorem Dd.rm (hD:H D=some (.lst ys)) (f:Dd H x m n):Dd (rm D H) x m n:=⟨ja hD f.1,f.2⟩
def l9 (H:Hp) (es:List Nn) (m n:Nat):Prop:=∀x∈es,Dd H x m n
theorem l9.up (h:l9 H es m n) (s:aq H H'):l9 H' es m n:=fun x hx=>(h x hx).up s
theorem l9.app (f:l9 H es m n) (h:H R=some (.lst ys)):l9 (upd H R o) es m n:=fun x hx=>((f x hx).rm h).up (Jy R H o)
theorem l9.snoc (h:l9 H es m n) (hx:Dd H x m n):l9 H (es++[x]) m n:=fun y hy=>by
 rcases dH.mp hy with z | z
 ·exact h y z
 ·obtain rfl:y=x:=by simpa using z
  exact hx
def bU (es:List Nn):List V:=es.map fun x=>V.ref x.1
theorem bZ (es:List Nn):(bU es).length=es.length:=eV ..
theorem jY (es:List Nn) (x:Nn):bU es++[.ref x.1]=bU (es++[x]):=by simp [bU]
theorem pF {i:Nat} (h:(bU es)[i]?=some v):∃x,es[i]?=some x∧v=.ref x.1:=by
 unfold bU at h
 rw [jQ] at h
 cases e:es[i]? with
 | none=>rw [e] at h;cases h
 | some x=>rw [e] at h;cases h;exact ⟨x,rfl,rfl⟩
def gB (es:List Nn):Prop:=es.Pairwise fun a b=>a.2.1<b.2.1
structure Shp (xs:List Int) (c:Nat):Prop where
 x0:xs[0]?=some (c:Int)
 x1:∃x,xs[1]?=some x∧0≤x∧x<4
 x4:∃x,xs[4]?=some x∧0≤x∧x<3
 x5:∃x,xs[5]?=some x∧0≤x∧x<4
 x12:∃x,xs[12]?=some x∧0≤x∧x<3
 each:∀k,k<c→∃x y z,xs[3*k+13]?=some x∧xs[3*k+14]?=some y∧xs[3*k+15]?=some z∧0≤x∧x<3∧0≤y∧y<9∧0≤z∧z<25
inductive Cy (vs:List V) (H:Hp) (Q:VK) (E_:XK):Prop where
 | mk (lw tl:ao) (xs:List Int) (c:Nat) (sc t0 t1:Int):vs=[.ref lw,.int sc,.ref tl]→H lw=some (.lst (xs.map V.int))→Shp xs c→c≤40→H tl=some (.tup [.int t0,.int t1])→Sz 45 sc→Sz 45 t0→Sz 45 t1→(∀(R:ao) (es:List Nn) (H':Hp),aq H H'→H R=none→H' R=some (.lst (bU es))→l9 H' es 45 100→es.length=c→gB es→Q (.ref R) H')→Cy vs H Q E_
section
theorem bI:aE ["_law_some","_law_scale","_law_tilt","_law_moment","_law_up","_law_rise","_law_row_here","_law_k","_law_flush","_law_high","_law_lean"] ["_law_some","_law_scale","_law_tilt"] (ah qq):=0#a
theorem DG (F:cH K "_law_shaped" "_law_shaped" qq f fd) (T:Txt mg):bg P w K mg base cM 1 f fd ["_law_some","_law_scale","_law_tilt"] Cy:=by
 refine F.ok bI 0#e 0#b
 ·obtain ⟨lw,tl,xs,c,sc,t0,t1,rfl,_⟩:=h
  rfl
 obtain ⟨lw,tl,xs,c,sc,t0,t1,rfl,e0,S,hc,et,VD,zt0,zt1,k⟩:=h
 obtain ⟨x1,g1,a1,b1⟩:=S.x1
 obtain ⟨x4,g4,a4,b4⟩:=S.x4
 obtain ⟨x5,g5,a5,b5⟩:=S.x5
 obtain ⟨x12,g12,a12,b12⟩:=S.x12
 have w:∀{H':Hp},aq H H'→H' lw=some (.lst (xs.map V.int)):=fun s=>s _ _ e0
 refine bD ⟨_,(au (aN 3 bI.nd (cy (lS K) (dP (Jd.a4 (jm fY aB) (jm fY aB) aB (jm fY (aJ rP aB aB)))) (cW K 0#m) 0#o)) (au (aN 4 bI.nd aB) (au (aN 5 bI.nd aB) (au (aN 6 bI.nd (dP gc)) (au (fK iM rfl (Jd.j3 rfl T.range (cO (cW K 0#m))) (bQ (i:=7) bI.nd rfl 0#n) (au (aN 8 bI.nd (aJ bO (aJ aT aB (aa 7)) aB)) (au (aN 3 bI.nd (aJ bO (aJ bO (aa 3) aB) (aJ aT (cy (lS K) 0#m (aa 8) 0#o) (cy (lS K) (dP (Jd.a3 aB aB aB)) (cW K 0#m) 0#o)))) (au (aN 9 bI.nd (aJ cB (cy (lS K) 0#m (aJ bO (aa 8) aB) 0#o) aB)) (au (bK (bh cI (cW K 0#m) aB (aD _)) (aG (aN 4 bI.nd (aa 9))) bW) (au (bK (bh cI (cW K 0#m) aB (aD _)) (au (aN 5 bI.nd (aJ cB (aJ bO (aa 5) (aJ fG (aa 9) aB)) aB)) (aG (aN 4 bI.nd (aJ bO (aa 4) (aa 5))))) bW) (au (bK (bh cI (cW K 0#m) aB (aD _)) (aG (aN 4 bI.nd (aJ bO (aa 4) (aa 9)))) bW) (au (bK (bh cI (cW K 0#m) aB (aD _)) (aG (aN 4 bI.nd (aJ fG (aa 9) aB))) bW) (aG (bK (bh lU (cy (lS K) 0#m (aJ bO (aa 8) aB) 0#o) (cy (lS K) (dP (Jd.a3 aB aB aB)) (cW K 0#m) 0#o) (aD _)) (aG (gE (d7 K (aa 6) (bR (bT (aa 3) dW))) (hs:=fL))) (au (aN 10 bI.nd (aJ bO (aJ aT (aK K (aa 2)) (aa 3)) (aK K (aa 2)))) (aG (gE (d7 K (aa 6) (bR (bT (aa 3) (aJ bO (aJ aT (aa 4) 0#x) (aa 10))))) (hs:=fL)))))))))))))) (aG (aR (aa 6)))))))),?_⟩
 rw?
 refine aF (mk:=.lst) 0#f fun l1 H1 s1 n1 e1=>?_
 rw?
 refine cG (w s1) (aV g1 rfl) ?_
 obtain ⟨mo,emo,zmo⟩:=Jp (zs:=[-1,-5,1000003,-(10 ^ (12:Int).toNat)]) (fun z=>z.natAbs≤10 ^ 12) 0#g a1 b1
 refine cG e1 emo ?_
 rw?
 refine aF (mk:=.lst) 0#f fun R H2 s2 n2 e2=>?_
 have eB:=s1.trans s2
 rw?
 refine gH (GH ?_)
 rw?
 refine cG (w eB) (aV S.x0 rfl) ?_
 rw?
 refine ⟨c,rfl,by lia,by lia,ji (fun j σ H3=>∃(m up rise:Int) (es:List Nn) (v7 v8 v9 v10:Option V),σ=[some (.ref lw),some (.int sc),some (.ref tl),some (.int m),some (.int up),some (.int rise),some (.ref R),v7,v8,v9,v10] ∧
  aq H1 H3∧H3 R=some (.lst (bU es))∧l9 H3 es 45 100∧es.length=j∧m.natAbs≤10 ^ 12+3000*j∧rise.natAbs≤3*j∧up.natAbs≤130*j+12∧gB es∧∀x∈es,x.2.1≤m) ?_ ?_ ?_⟩
 ·exact ⟨mo,0,0,[],none,none,none,none,rfl,s2,e2,fun x hx=>absurd hx 0#f,rfl,by simpa using zmo,by decide,by decide,List.Pairwise.nil,fun x hx=>absurd hx 0#f⟩
 ·rintro j σ H3 hj ⟨m,up,rise,es,v7,v8,v9,v10,rfl,s3,e3,hes,hl,hm,cK,hup,hrs,hle⟩
  have hj':j<c:=by simpa using hj
  obtain ⟨x,y,z,gx,gy,gz,ax,bx,ay,by',az,bz⟩:=S.each j hj'
  have Ey:=s1.trans s3
  have w3:=w Ey
  rw?
  refine cG w3 (aV gx 0#d) ?_
  rw?
  refine aF (mk:=.lst) 0#f fun l4 H4 s4 n4 e4=>?_
  rw?
  refine cG (s4 _ _ w3) (aV g4 rfl) ?_
  obtain ⟨wd,ewd,zwd⟩:=Jp (zs:=[1,1,1009]) (fun z=>1≤z∧z≤1009) 0#g a4 b4
  refine cG e4 ewd ?_
  rw?
  refine iC (mulL 0#d 0#d) ?_
  have p5:0≤x*wd:=qF ax 0#d
  have q5:x*wd≤2*1009:=CO 0#d zwd.2 0#d 0#d
  generalize x*wd=st at p5 q5 ⊢
  have ten:(10:Nat) ^ 12+3000*41<2 ^ 44:=by decide +kernel
  have bm:(m+1+st).natAbs≤10 ^ 12+3000*(j+1):=by
   rw [Int.add_assoc]
   exact nab hm (afM p5 q5) (by lia)
  have zm:Sz 44 (m+1+st):=Ax bm (by lia)
  have w4:=s4 _ _ w3
  rw?
  refine cG w4 (aV gz 0#d) ?_
  have agi:j<40:=by try?
  have Q3:=s3.trans s4
    -- the row's next entry
  have fin:∀(u:Nn) (H5:Hp) (up' zD:Int) (v7 v8 v9 v10:Option V),u.2.1=m+1+st→aq H4 H5→Dd H5 u 45 100→zD.natAbs≤3*(j+1)→up'.natAbs≤130*(j+1)+12 →
   ∃(m' JM Yn:Int) (es':List Nn) (v7' v8' v9' agb:Option V),[some (.ref lw),some (.int sc),some (.ref tl),some (.int (m+1+st)),some (.int up'),some (.int zD),some (.ref R),v7,v8,v9,v10]=[some (.ref lw),some (.int sc),some (.ref tl),some (.int m'),some (.int JM),some (.int Yn),some (.ref R),v7',v8',v9',agb] ∧
    aq H1 (upd H5 R (.lst (bU es++[.ref u.1])))∧upd H5 R (.lst (bU es++[.ref u.1])) R=some (.lst (bU es'))∧l9 (upd H5 R (.lst (bU es++[.ref u.1]))) es' 45 100∧es'.length=j+1∧m'.natAbs≤10 ^ 12+3000*(j+1)∧Yn.natAbs≤3*(j+1)∧JM.natAbs≤130*(j+1)+12∧gB es'∧∀x∈es',x.2.1≤m':=by
   intro u H5 up' zD v7 v8 v9 v10 hu s5 f5 h1 h2
   have s35:=s4.trans s5
   have eR:=s35 _ _ e3
   refine ⟨m+1+st,up',zD,es++[u],v7,v8,v9,v10,rfl,bw (s3.trans s35) n2,by rw [av,jY],((hes.up s35).snoc f5).app eR,by rw [cJ,hl];rfl,bm,h1,h2,?_,fun y hy=>?_⟩
   ·refine YV.mpr ⟨hrs,Yz _ _,fun y hy z hz=>?_⟩
    obtain rfl:z=u:=by simpa using hz
    have:=hle y hy
    try?
   ·rcases dH.mp hy with z | z
    ·have:=hle y z
     try?
    ·obtain rfl:y=u:=by simpa using z
     try?
  obtain ⟨th,eth,zth⟩:=Jp (zs:=[0,1,3]) (fun z=>0≤z) 0#g a12 b12
  have et4:=(Ey.trans s4) _ _ et
  have m5a:0≤(z-12) % 5:=vH _ 0#h
  have m5b:(z-12) % 5<5:=uh _ 0#h
  have m3a:0≤(z-12) % 3:=vH _ 0#h
  have m3b:(z-12) % 3<3:=uh _ 0#h
  refine r_c ?_
  refine adB ?_
  refine r_g ?_
  refine Yc ?_
  refine JF (fun σ' H'=>H'=H4∧∃up' zD:Int,σ'=[some (.ref lw),some (.int sc),some (.ref tl),some (.int (m+1+st)),some (.int up'),some (.int zD),some (.ref R),some (.int (0+(j:Int))),some (.int (3*(0+(j:Int))+13)),some (.int (z-12)),v10]∧zD.natAbs≤3*(j+1)∧up'.natAbs≤130*(j+1)+12) (fun σ' H' hP=>?_) (fun N rest=>?_)
  rotate_left
  ·rw?
   refine cG w4 (aV g5 rfl) ?_
   rw?
   rcases (show x5=0∨x5=1∨x5=2∨x5=3 by try?) with rfl | rfl | rfl | rfl
   ·refine bJ ?_
    rw?
    refine cG w4 (aV g5 rfl) ?_
    rw?
    refine bE ?_
    rw?
    refine cG w4 (aV g5 rfl) ?_
    rw?
    refine bE ?_
    rw?
    refine cG w4 (aV g5 rfl) ?_
    rw?
    refine bE ?_
    rw?
    exact rest _ _ ⟨rfl,_,_,rfl,dI cK (by lia),dI (adf az bz) (by lia)⟩
   ·refine bE ?_
    rw?
    refine cG w4 (aV g5 rfl) ?_
    rw?
    refine bJ ?_
    rw?
    refine cG w4 (aV g5 rfl) ?_
    rw?
    refine bE ?_
    rw?
    refine cG w4 (aV g5 rfl) ?_
    rw?
    refine bE ?_
    rw?
    have r1:(rise+(z-12) % 5-1).natAbs≤3*(j+1):=by
     rw [Int.add_sub_assoc]
     exact nab cK (afL m5a m5b) (by lia)
    exact rest _ _ ⟨rfl,_,_,rfl,r1,nab hup r1 (by lia)⟩
   ·refine bE ?_
    rw?
    refine cG w4 (aV g5 rfl) ?_
    rw?
    refine bE ?_
    rw?
    refine cG w4 (aV g5 rfl) ?_
    rw?
    refine bJ ?_
    rw?
    refine cG w4 (aV g5 rfl) ?_
    rw?
    refine bE ?_
    rw?
    exact rest _ _ ⟨rfl,_,_,rfl,dI cK (by lia),nab hup (adf az bz) (by lia)⟩
   ·refine bE ?_
    rw?
    refine cG w4 (aV g5 rfl) ?_
    rw?
    refine bE ?_
    rw?
    refine cG w4 (aV g5 rfl) ?_
    rw?
    refine bE ?_
    rw?
    refine cG w4 (aV g5 rfl) ?_
    rw?
    refine bJ ?_
    rw?
    exact rest _ _ ⟨rfl,_,_,rfl,dI cK (by lia),dI (afK m3a m3b) (by lia)⟩
  obtain ⟨rfl,up',zD,rfl,br,bu⟩:=hP
  rw?
  refine cG w4 (aV gy 0#d) ?_
  rw?
  refine aF (mk:=.lst) 0#f fun l6 H6 s6 n6 e6=>?_
  rw?
  refine cG (s6 _ _ w4) (aV g12 rfl) ?_
  refine cG e6 eth ?_
  rw?
  have e36:=s6 _ _ (s4 _ _ e3)
  refine cu (fun c=>?_) (fun c=>?_)
  ·rw?
   refine ⟨.inl ⟨rfl,_,aW.of e36⟩,?_⟩
   rw?
   refine aF (mk:=.tup) 0#f fun pe H7 s7 n7 e7=>?_
   rw?
   refine cZ (s7 _ _ e36) (by rw [bZ];exact aO 0#d) ?_
   exact fin (pe,m+1+st,none) H7 _ _ _ _ _ _ rfl (s6.trans s7) ⟨e7,zm.mono 0#h,fun z q=>by cases q⟩ br bu
  ·have et6:=s6 _ _ et4
   rw?
   refine iC (cg zt0 zm) ?_
   rw?
   refine ⟨.inl ⟨rfl,_,aW.of e36⟩,?_⟩
   rw?
   have zu:Sz 14 up':=show up'.natAbs<2 ^ 14 by try?
   refine iC (cg zu VD) ?_
   rw?
   refine aF (mk:=.tup) 0#f fun pe H7 s7 n7 e7=>?_
   rw?
   refine cZ (s7 _ _ e36) (by rw [bZ];exact aO 0#d) ?_
   exact fin (pe,m+1+st,some _) H7 _ _ _ _ _ _ rfl (s6.trans s7) ⟨e7,zm.mono 0#h,fun z q=>by
    cases q
    exact (((zu.mul VD).mono (show 14+45≤90 by decide)).add (((zt0.mul zm).mono (show 45+44≤89 by decide)).add (zt1.mono 0#h))).mono 0#h⟩ br bu
 ·rintro σ H3 ⟨m,up,rise,es,v7,v8,v9,v10,rfl,s3,e3,hes,hl,hm,cK,hup,hrs,hle⟩
  rw?
  exact k R es H3 (s1.trans s3) (s1.free n2) e3 hes (by simpa using hl) hrs
inductive Hv (vs:List V) (H:Hp) (Q:VK) (E_:XK):Prop where
 | mk (l:ao) (es:List Nn) (b:Int) (n nb:Nat):vs=[.ref l,.int b]→H l=some (.lst (bU es))→l9 H es 45 n→es.length≤40→Sz nb b→n+nb≤8000→(∀(R:ao) (es':List Nn) (H':Hp),aq H H'→H R=none→H' R=some (.lst (bU es'))→l9 H' es' 45 (n+nb)→es'.map (·.2)=es.map (fun x=>(x.2.1,x.2.2.map (·*b)))→Q (.ref R) H')→Hv vs H Q E_
theorem mw:aE ["_law_row_here","_law_by","_law_some","_law_moment","_law_number"] ["_law_row_here","_law_by"] (ah se):=0#a
theorem Gh (F:cH K "_law_times" "_law_times" se f fd):bg P w K mg base cM 1 f fd ["_law_row_here","_law_by"] Hv:=by
 refine F.ok mw 0#e 0#b
 ·obtain ⟨l,es,b,n,nb,rfl,_⟩:=h
  rfl
 obtain ⟨l,es,b,n,nb,rfl,hl,hes,xF,zb,hn,k⟩:=h
 refine bD ⟨_,(au (aN 2 mw.nd (dP gc)) (au (fK iM rfl (gU K 0#m) (Jd.Qo K (n:=2) rfl (d8 (bQ (i:=3) mw.nd rfl 0#n) (d8 (bQ (i:=4) mw.nd rfl 0#n) o6))) (aG (bK (bh BN (aa 4) dW (aD _)) (aG (gE (d7 K (aa 2) (bR (bT (aa 3) dW))) (hs:=fL))) (aG (gE (d7 K (aa 2) (bR (bT (aa 3) (aJ aT (aa 4) 0#x)))) (hs:=fL)))))) (aG (aR (aa 2))))),?_⟩
 rw?
 refine aF (mk:=.lst) 0#f fun R H1 s1 n1 e1=>?_
 rw?
 refine gH (gV ?_)
 rw?
 refine ⟨l,rfl,⟨_,aW.of (s1 _ _ hl)⟩,cL (xs:=bU es) (fun i σ H3=>∃(es':List Nn) (v3 v4:Option V),σ=[some (.ref l),some (.int b),some (.ref R),v3,v4]∧aq H H3∧H3 R=some (.lst (bU es'))∧l9 H3 es' 45 (n+nb)∧es'.length=i∧es'.map (·.2)=(es.take i).map (fun x=>(x.2.1,x.2.2.map (·*b)))) ?_ ?_ ?_ ?_⟩
 ·exact ⟨[],none,none,rfl,s1,e1,fun x hx=>absurd hx 0#f,rfl,rfl⟩
 ·rintro i σ H3 _ ⟨es',v3,v4,rfl,s3,_⟩
  exact aW.of (s3 _ _ hl)
 ·rintro i x σ H3 hx ⟨es',v3,v4,rfl,s3,e3,Lm,hl',hmap⟩
  obtain ⟨e,he,rfl⟩:=pF hx
  have hi:i<es.length:=(fZ.mp he).1
  have fe:=(hes e (jL he)).up s3
  have tk:es.take (i+1)=es.take i++[e]:=by rw [xC,he];rfl
  have fin:∀(y:ao) (H4:Hp) (v3 v4:Option V),aq H3 H4→Dd H4 (y,e.2.1,e.2.2.map (·*b)) 45 (n+nb)→∃(Fl:List Nn) (v3' v4':Option V),[some (.ref l),some (.int b),some (.ref R),v3,v4]=[some (.ref l),some (.int b),some (.ref R),v3',v4'] ∧
   aq H (upd H4 R (.lst (bU es'++[.ref y])))∧upd H4 R (.lst (bU es'++[.ref y])) R=some (.lst (bU Fl))∧l9 (upd H4 R (.lst (bU es'++[.ref y]))) Fl 45 (n+nb)∧Fl.length=i+1∧Fl.map (·.2)=(es.take (i+1)).map (fun x=>(x.2.1,x.2.2.map (·*b))):=by
   intro y H4 v3 v4 s4 f4
   have e4:=s4 _ _ e3
   refine ⟨es'++[(y,e.2.1,e.2.2.map (·*b))],v3,v4,rfl,bw (s3.trans s4) n1,by rw [av];exact congrArg (fun z=>some (HO.lst z)) (jY es' (y,e.2.1,e.2.2.map (·*b))),((Lm.up s4).snoc f4).app e4,by rw [cJ,hl'];rfl,?_⟩
   rw [tk,ju,ju,hmap]
   rfl
  obtain ⟨a,m,v⟩:=e
  cases v with
  | none=>
    refine mG fe.1 ?_
    rw?
    refine ⟨rfl,?_⟩
    rw?
    refine bJ ?_
    rw?
    refine ⟨.inl ⟨rfl,_,aW.of e3⟩,?_⟩
    rw?
    refine aF (mk:=.tup) 0#f fun y H4 s4 n4 e4=>?_
    rw?
    refine cZ (s4 _ _ e3) (by rw [bZ];exact aO 0#d) ?_
    exact fin y H4 _ _ s4 ⟨e4,fe.2.1,fun z q=>by cases q⟩
  | some z=>
    have zz:=fe.2.2 z rfl
    refine mG fe.1 ?_
    rw?
    refine ⟨rfl,?_⟩
    rw?
    refine bE ?_
    rw?
    refine ⟨.inl ⟨rfl,_,aW.of e3⟩,?_⟩
    rw?
    refine iC (cg zz zb 0#d) ?_
    rw?
    refine aF (mk:=.tup) 0#f fun y H4 s4 n4 e4=>?_
    rw?
    refine cZ (s4 _ _ e3) (by rw [bZ];exact aO 0#d) ?_
    exact fin y H4 _ _ s4 ⟨e4,fe.2.1,fun z' q=>by
     cases q
     exact zz.mul zb⟩
 ·rintro σ H3 ⟨es',v3,v4,rfl,s3,e3,Lm,hl',hmap⟩
  rw [bZ,iV] at hmap
  rw?
  exact k R es' H3 s3 n1 e3 Lm hmap
end
def tY (x:Nn):Bool:=x.2.2.isSome
theorem Qf {i:Nat} (h:es[i]?=some x):(bU es)[i]?=some (.ref x.1):=by
 unfold bU
 rw [jQ,h]
 rfl
theorem AD {i:Nat} (h:es[i]?=some x) (hj:j=(i:Int)):xE (bU es) j=some (.ref x.1):=by
 subst hj
 exact fh (Qf h)
theorem HQ (h0:0≤i) (h1:i<(es.length:Int)):∃x,x∈es∧es[i.toNat]?=some x∧xE (bU es) i=some (.ref x.1):=by
 have hk:i.toNat<es.length:=by try?
 exact ⟨es[i.toNat],yR hk,je hk,AD (je hk) 0#d⟩
theorem LQ (h:es'.map (fun x=>x.2.1)=es.map (fun x=>x.2.1)) (hr:gB es):gB es':=by
 have k:(es.map fun x=>x.2.1).Pairwise (·<·):=ON.mpr hr
 rw [← h] at k
 exact ON.mp k
theorem BA (h:tY x=true):∃z,x.2.2=some z:=JR.mp h
def Rx (m:Nat):List Int:=[(m:Int)+1,4,5,12,3,4,7,3,40,40,40,4,3]++(ko m [3,9,25]).flatten
theorem To (m:Nat) (xs:List Int):(ko m (xs.map V.int)).flatten=((ko m xs).flatten).map V.int:=by
 induction m with
 | zero=>rfl
 | succ m ih=>rw [HE,qE,ih,HE,qE,ju]
theorem Jx {xs:List Int} (hn:xs.length=n):∀{m k j:Nat},k<m→j<n→(ko m xs).flatten[n*k+j]?=xs[j]?
 | 0,_,_,hk,_=>absurd hk (J5 _)
 | m+1,0,j,_,hj=>by
   rw [HE,qE,Nat.mul_zero,O2,kZ 0#d]
 | m+1,k+1,j,hk,hj=>by
   have e:n*(k+1)+j=n+(n*k+j):=by rw [Nat.mul_add];try?
   rw [HE,qE,e,pR 0#d,hn,Nat.add_sub_cancel_left]
   exact Jx hn 0#d hj
theorem VZ (m:Nat):[V.int ((m:Int)+1),.int 4,.int 5,.int 12,.int 3,.int 4,.int 7,.int 3,.int 40,.int 40,.int 40,.int 4,.int 3]++(ko m [V.int 3,.int 9,.int 25]).flatten=(Rx m).map V.int:=by
 unfold Rx
 rw [ju,← To]
 rfl
theorem VY (m:Nat):(Rx m).length=13+3*m:=by
 unfold Rx
 rw [cJ,UE,List.map_replicate,List.sum_replicate_nat]
 simp
 try?
theorem V0 (hm:m≤40):∀z∈Rx m,0<z∧z<2 ^ 60:=by
 intro z hz
 unfold Rx at hz
 rcases dH.mp hz with h | h
 ·simp at h
  try?
 ·obtain ⟨l,hl,hzl⟩:=List.mem_flatten.mp h
  rw [(List.mem_replicate.mp hl).2] at hzl
  simp at hzl
  try?
theorem KP (hk:k<m) (hj:j<3):(Rx m)[3*k+(13+j)]?=[(3:Int),9,25][j]?:=by
 unfold Rx
 rw [pR (by simp;try?)]
 have e:3*k+(13+j)-[(m:Int)+1,4,5,12,3,4,7,3,40,40,40,4,3].length=3*k+j:=by simp;try?
 rw [e]
 exact Jx rfl hk hj
theorem V1 (hlen:xs.length=(Rx m).length) (hxs:∀(j:Nat) (x z:Int),xs[j]?=some x→(Rx m)[j]?=some z→0≤x∧x<z):∃c,c≤m∧Shp xs c:=by
 obtain ⟨x0,g0,a0,b0⟩:=fN hlen hxs 0 (z:=(m:Int)+1) rfl
 refine ⟨x0.toNat,by try?,⟨by rw [g0];congr 1;try?,fN hlen hxs 1 rfl,fN hlen hxs 4 rfl,fN hlen hxs 5 rfl,fN hlen hxs 12 rfl,fun k hk=>?_⟩⟩
 have hk':k<m:=by try?
 obtain ⟨x,gx,ax,bx⟩:=fN hlen hxs _ (z:=3) ((KP hk' (j:=0) 0#h).trans rfl)
 obtain ⟨y,gy,ay,by'⟩:=fN hlen hxs _ (z:=9) ((KP hk' (j:=1) 0#h).trans rfl)
 obtain ⟨z,gz,az,bz⟩:=fN hlen hxs _ (z:=25) ((KP hk' (j:=2) 0#h).trans rfl)
 exact ⟨x,y,z,gx,gy,gz,ax,bx,ay,by',az,bz⟩
inductive Cu (vs:List V) (H:Hp) (Q:VK) (E_:XK):Prop where
 | mk (l lw:ao) (es:List Nn) (xs:List Int):vs=[.ref l,.ref lw]→H l=some (.lst (bU es))→H lw=some (.lst (xs.map V.int))→1≤es.length→es.length≤40→(∀k,k<3→∃x,xs[k+8]?=some x)→(∀(R:ao) (a b c:Nn) (H':Hp),aq H H'→a∈es→b∈es→c∈es→H' R=some (.lst [.ref a.1,.ref b.1,.ref c.1])→Q (.ref R) H')→Cu vs H Q E_
inductive Cp (K:bM) (vs:List V) (H:Hp) (Q:VK) (E_:XK):Prop where
 | mk (a:ao) (ns:List Int) (i:Int) (most:Nat) (share:Int):vs=[.ref a,.int i,.int (most:Int),.int share]→aW K H a (ns.map V.int)→0≤i→i<800→most≤40→0≤share→share≤2→(∀(p R:ao) (es:List Nn) (b c:Int) (H':Hp),aq H H'→H' p=some (.tup [.ref R,.int b,.int c])→H R=none→H' R=some (.lst (bU es))→l9 H' es 45 150→es.length≤most→gB es→1≤b→Sz 80 b→0≤c→Sz 150 c→Q (.ref p) H')→Cp K vs H Q E_
section
theorem kK:aE ["_law_held","_law_some","_law_places","_law_k"] ["_law_held","_law_some"] (ah qp):=0#a
theorem DF (F:cH K "_law_picked" "_law_picked" qp f fd) (T:Txt mg):bg P w K mg base cM 1 f fd ["_law_held","_law_some"] Cu:=by
 refine F.ok kK 0#e 0#b
 ·obtain ⟨l,lw,es,xs,rfl,_⟩:=h
  rfl
 obtain ⟨l,lw,es,xs,rfl,hl,hw,h1,xF,hx,k⟩:=h
 refine bD ⟨_,(au (aN 2 kK.nd (dP gc)) (au (fK iM rfl (Jd.pK rfl T.range (bT aB aB)) (bQ (i:=3) kK.nd rfl 0#n) (aG (gE (d7 K (aa 2) (aJ fG (cy (lS K) 0#x (aa 3) 0#o) (cR K T.gA 0#m))) (hs:=fL)))) (au (aN 2 kK.nd (fj (Og K) rfl T.Oh Yv (cO (aa 2)) (he:=aP) (hpl:=bS))) (aG (aR (jA (O:=["_law_flush"]) (N':=["_law_held"]) (cap:=[0]) rfl (gU K (aa 2)) (fun _ _ _ _ _=>(bQ (i:=0) (show iN [("_law_flush":Str),("_law_held":Str)] by decide +kernel) rfl 0#n)) (fun _ _ _ _ _=>jn) (fun _ _ _ _ _=>(cy (lS K) 0#x 0#m 0#o)) rfl 0#u rfl 0#g rfl 0#g)))))),?_⟩
 rw?
 refine aF (mk:=.lst) 0#f fun pl H1 s1 n1 e1=>?_
 rw?
 refine gH (Ms ?_)
 rw?
 refine ⟨8,11,rfl,by decide,ji (n:=3) (fun j σ H3=>∃(ys:List Int) (v:Option V),σ=[some (.ref l),some (.ref lw),some (.ref pl),v]∧aq H H3∧H3 pl=some (.lst (ys.map V.int))∧ys.length=j∧∀y∈ys,0≤y∧y<(es.length:Int)) ?_ ?_ ?_⟩
 ·exact ⟨[],none,rfl,s1,e1,rfl,fun y hy=>absurd hy 0#f⟩
 ·rintro j σ H3 hj ⟨ys,v,rfl,s3,e3,hy,hys⟩
  obtain ⟨x,gx⟩:=hx j hj
  rw?
  refine ⟨.inl ⟨rfl,_,aW.of e3⟩,?_⟩
  rw?
  refine cG (s3 _ _ hw) (aV gx 0#d) ?_
  rw?
  refine cE (.inl (aW.of (s3 _ _ hl))) ?_
  rw [bZ]
  refine iC (show (0:Int)<_ by try?) ?_
  rw?
  refine cZ e3 (by rw [eV];exact aO 0#d) ?_
  refine ⟨ys++[x % (es.length:Int)],_,rfl,bw s3 n1,by rw [av,ju];rfl,by rw [cJ,hy];rfl,fun y hy=>?_⟩
  rcases dH.mp hy with z | z
  ·exact hys y z
  ·obtain rfl:y=x % (es.length:Int):=by simpa using z
   exact ⟨vH _ 0#d,uh _ 0#d⟩
 ·rintro σ H3 ⟨ys,v,rfl,s3,e3,hy,hys⟩
  rw?
  refine Ju (aW.of e3) 0#d fun p ns' H4 s4 n4 e4 hp hs=>?_
  rw?
  refine gV ?_
  rw?
  refine ⟨p,rfl,⟨_,aW.of e4⟩,?_⟩
  have hl':ns'.length=3:=by rw [hp.length_eq,hy]
  refine bY (xs:=ns'.map V.int) bL (fun H5 s5=>aW.of (s5 _ _ e4)) (by rw [eV];try?) (fun i ys G=>∃zs:List Nn,ys=bU zs∧zs.length=i∧∀z∈zs,z∈es) ⟨[],rfl,rfl,fun x hx=>absurd hx 0#f⟩ ?_ ?_
  ·rintro D i x ys' H5 ly N N0 h0 hD eD s5 hx hy' ⟨zs,rfl,hz,hm⟩ kY kN
   rw [jQ] at hx
   obtain ⟨y,gy,rfl⟩:=oU.mp hx
   obtain ⟨y0,y1⟩:=hys y (hp.mem_iff.mp (jL gy))
   obtain ⟨e,he,_,ea⟩:=HQ y0 y1
   refine dG h0 ?_
   rw?
   refine bJ ?_
   rw?
   refine cG ((s3.trans (s4.trans s5)) _ _ hl) ea ?_
   refine kY _ H5 (aq.refl _) ⟨zs++[e],jY zs e,by rw [cJ,hz];rfl,fun z hz=>?_⟩
   rcases dH.mp hz with q | q
   ·exact hm z q
   ·obtain rfl:z=e:=by simpa using q
    exact he
  ·rintro D ys' H5 hD eD s5 hy' ⟨zs,rfl,hz,hm⟩
   rw [eV,hl'] at hz
   match zs,hz with
   | [x,y,z],_=>exact k D x y z H5 (s3.trans (s4.trans s5)) (hm x 0#f) (hm y 0#f) (hm z 0#f) eD
theorem bH:aE ["_law_script","_law_place","_law_most","_law_share","_law_sizes","_law_some","_law_bottom","_law_scale","_law_tilt","_law_far","_law_row_here","_law_held","_law_one","_law_mid","_law_last","_law_span","_law_stood","_law_by"] ["_law_script","_law_place","_law_most","_law_share"] (ah rZ):=0#a
theorem Gb (F:cH K "_law_drawn" "_law_drawn" rZ f fd) (T:Txt mg) (mD:Dn P w K mg base 3 "_law_row" ["_law_script","_law_place","_law_sizes"] (Oj K)) (pY:Dn P w K mg base 1 "_law_shaped" ["_law_some","_law_scale","_law_tilt"] Cy)
 (pX:Dn P w K mg base 1 "_law_picked" ["_law_held","_law_some"] Cu) (rj:Dn P w K mg base 1 "_law_times" ["_law_row_here","_law_by"] Hv):bg P w K mg base cM 4 f fd ["_law_script","_law_place","_law_most","_law_share"] (Cp K):=by
 refine F.ok bH 0#e 0#b
 ·obtain ⟨a,ns,i,most,share,rfl,_⟩:=h
  rfl
 obtain ⟨a,ns,i,most,share,rfl,hS,h0,h1,hm,hs0,hs2,k⟩:=h
 refine bD (Jd.cut 6 (fun σ H'=>∃(lw tl:ao) (xs:List Int) (c:Nat) (b sc t0 t1 x6 x7:Int) (v4 v9:Option V),σ=[some (.ref a),some (.int i),some (.int most),some (.int share),v4,some (.ref lw),some (.int b),some (.int sc),some (.ref tl),v9,none,none,none,none,none,none,none,none] ∧
  aq H H'∧H' lw=some (.lst (xs.map V.int))∧c≤most∧Shp xs c∧xs[6]?=some x6∧0≤x6∧x6<7∧xs[7]?=some x7∧(∀k,k<3→∃x,xs[k+8]?=some x)∧1≤b∧Sz 30 b∧0≤sc∧Sz 45 sc∧H' tl=some (.tup [.int t0,.int t1])∧Sz 45 t0∧Sz 45 t1) ?_ fun u hu hR=>?_)
 ·refine ⟨_,(au (aN 10 bH.nd (Jd.c3 pY hr (aa 5) (aa 7) (aa 8))) (au (Jd.kF (O:=["_law_one"]) (N':=[]) (cap:=[]) (i:=11) bH.nd rfl 0#n rfl (gU K (aa 10)) (fun _ _ _ _ _=>(bQ (i:=0) (show iN [("_law_one":Str)] by decide +kernel) rfl 0#n)) (fun _ _ _ _ _=>(Jd.kG (bh iY (cy (HH K) 0#m aB 0#o) dW (aD _)))) (fun _ _ _ _ _=>0#m) rfl trivial rfl 0#g rfl 0#g (by rfl)) (au (bK (jR (Jd.mV (bh cY (aa 3) aB (aD _)) (Jd.mV (bh cI (cW K (aa 5)) aB (aD _)) (Jd.kH (bh cY (cR K T.gA (aa 11)) aB (aD _)))))) (au (Jd.rS (b9 pX hr (aa 11) (aa 5)) (Jd.pgL K (n:=3) rfl (d8 (bQ (i:=12) bH.nd rfl 0#n) (d8 (bQ (i:=13) bH.nd rfl 0#n) (d8 (bQ (i:=14) bH.nd rfl 0#n) o6))))) (aG (bK (Jd.BU lU lU (aK K (aa 12)) (aK K (aa 13)) (aK K (aa 14))) (au (aN 15 bH.nd (aJ cB (aK K (aa 14)) (aK K (aa 12)))) (au (aN 16 bH.nd (aJ cB (aJ aT (aK K (aa 13)) (aa 15)) (aJ aT (aK K (aa 12)) (aJ cB (aK K (aa 14)) (aK K (aa 13)))))) (au (aN 16 bH.nd (fj zY rfl T.zZ Au (cO (aJ cB (aa 16) (aJ aT (aK K (aa 14)) (aJ cB (aK K (aa 13)) (aK K (aa 12)))))) (he:=M0) (hpl:=bS))) (au (aN 17 bH.nd (aJ aT (aa 3) (aa 15))) (aG (aR (bR (Jd.a3 (b9 rj hr (aa 10) (aa 17)) (aJ aT (aa 6) (aa 17)) (aa 16))))))))) bW))) bW) (aG (aR (bR (Jd.a3 (aa 10) (aa 6) (aJ aT (cW K (aa 5)) (aa 7))))))))),?_⟩
  rintro σ H1 ⟨lw,tl,xs,c,b,sc,t0,t1,x6,x7,v4,v9,rfl,s1,ew,hc,S,g6,a6,b6,g7,g8,b1,zb,sc0,VD,et,zt0,zt1⟩
  rw?
  refine ⟨lw,tl,xs,c,sc,t0,t1,rfl,ew,S,by try?,et,VD,zt0,zt1,fun R es H2 s2 nR eR hes hlen cK=>?_⟩
  have ew2:=s2 _ _ ew
  rw?
  refine gV ?_
  rw?
  refine ⟨R,rfl,⟨_,aW.of eR⟩,?_⟩
  refine bY (xs:=bU es) bL (fun H3 s3=>aW.of (s3 _ _ eR)) (by rw [bZ];try?) (fun i ys G=>ys=bU ((es.take i).filter tY)) rfl ?_ ?_
  ·rintro D i x ys H3 ly N N0 h0 hD eD s3 hx hy rfl kY kN
   obtain ⟨e,he,rfl⟩:=pF hx
   obtain ⟨ee,_⟩:=(hes e (jL he)).up s3
   have ts:=EJ tY es i e he
   obtain ⟨ae,me,ve⟩:=e
   refine dG h0 ?_
   cases ve with
   | none=>
     rw?
     refine ⟨rfl,?_⟩
     rw?
     refine bE ?_
     rw [show tY (ae,me,none)=false from rfl,if_neg eO,yS] at ts
     exact kN H3 (aq.refl _) (by rw [ts])
   | some z=>
     rw?
     refine ⟨rfl,?_⟩
     rw?
     refine bJ ?_
     rw?
     rw [show tY (ae,me,some z)=true from rfl,if_pos rfl] at ts
     exact kY _ H3 (aq.refl _) (by rw [ts,← jY])
  ·rintro D ys H3 hD eD s3 hy rfl
   rw [bZ,iV] at eD
   have Ey:=s1.trans (s2.trans s3)
   have eR3:=s3 _ _ eR
   have ew3:=s3 _ _ ew2
   have plain:∀(p:ao) (H4:Hp),aq H3 H4→H4 p=some (.tup [.ref R,.int b,.int (x6*sc)])→Q (.ref p) H4:=fun p H4 s4 e4=>
    k p R es b (x6*sc) H4 (Ey.trans s4) e4 (s1.free nR) (s4 _ _ eR3) (fun x hx=>let ⟨q1,q2,q3⟩:=(hes x hx).up (s3.trans s4);⟨q1,q2,fun z hz=>(q3 z hz).mono 0#h⟩) 0#d cK b1 (zb.mono 0#h) (qF a6 sc0) (((show Sz 3 x6 from by show x6.natAbs<2 ^ 3;try?).mul VD).mono 0#h)
   rw?
   refine cu (fun c1=>?_) (fun c1=>?_)
   ·have Fd:0<share:=c6 c1
    rw?
    refine cG ew3 (aV g7 rfl) ?_
    rw?
    refine cu (fun c2=>?_) (fun c2=>?_)
    ·rw?
     refine cE (.inl (aW.of eD)) ?_
     rw?
     rw [bZ]
     refine cu (fun c3=>?_) (fun c3=>?_)
     ·have c3':=c6 c3
      have hfl:(es.filter tY).length≤es.length:=CH ..
      rw?
      refine Es ?_
      rw?
      refine ⟨D,lw,es.filter tY,xs,rfl,eD,ew3,by try?,by try?,g8,fun R3 x y z H4 s4 hx hy hz e4=>?_⟩
      refine Et e4 ?_
      obtain ⟨hx1,hx2⟩:=vG.mp hx
      obtain ⟨hy1,hy2⟩:=vG.mp hy
      obtain ⟨hz1,hz2⟩:=vG.mp hz
      obtain ⟨fx1,fx2,fx3⟩:=(hes x hx1).up (s3.trans s4)
      obtain ⟨fy1,fy2,fy3⟩:=(hes y hy1).up (s3.trans s4)
      obtain ⟨fz1,fz2,fz3⟩:=(hes z hz1).up (s3.trans s4)
      obtain ⟨nx,ex⟩:=BA hx2
      obtain ⟨ny,ey⟩:=BA hy2
      obtain ⟨nz,ez⟩:=BA hz2
      have zx:=fx3 nx ex
      have zy:=fy3 ny ey
      have zz:=fz3 nz ez
      rw [ex] at fx1
      rw [ey] at fy1
      rw [ez] at fz1
      simp only [nnv] at fx1 fy1 fz1
      rw?
      have ew4:=s4 _ _ ew3
      refine cu (fun c4=>?_) (fun c4=>?_)
      ·have c4':=c6 c4
       rw?
       refine cu (fun c5=>?_) (fun c5=>?_)
       ·have c5':=c6 c5
        have zs1:Sz 46 (z.2.1-x.2.1):=fz2.sub fx2
        have zs2:Sz 46 (z.2.1-y.2.1):=fz2.sub fy2
        have zs3:Sz 46 (y.2.1-x.2.1):=fy2.sub fx2
        have zsh:Sz 2 share:=show share.natAbs<2 ^ 2 by try?
        have m1:Sz 146 (ny*(z.2.1-x.2.1)):=zy.mul zs1
        have m2:Sz 146 (nx*(z.2.1-y.2.1)):=zx.mul zs2
        have m3:Sz 146 (nz*(y.2.1-x.2.1)):=zz.mul zs3
        rw?
        refine iC (cg zy zs1) ?_
        rw?
        refine iC (cg zx zs2) ?_
        rw?
        refine iC (cg zz zs3) ?_
        rw?
        refine iC (cg zsh zs1) ?_
        rw?
        have zby:Sz 48 (share*(z.2.1-x.2.1)):=zsh.mul zs1
        refine ⟨R,es,share*(z.2.1-x.2.1),100,48,rfl,s4 _ _ eR3,fun u hu=>(hes u hu).up (s3.trans s4),by try?,zby,by decide,fun R5 es5 H5 s5 n5 e5 afl hmap=>?_⟩
        rw?
        refine iC (cg zb zby) ?_
        rw?
        rw [iR]
        refine aF (mk:=.tup) 0#f fun p6 H6 s6 n6 e6=>?_
        have hle:es5.length=es.length:=by
         have:=congrArg nE hmap
         simpa using this
        have p1:1≤share*(z.2.1-x.2.1):=pD 0#d 0#d
        have zst:Sz 148 (ny*(z.2.1-x.2.1)-nx*(z.2.1-y.2.1)-nz*(y.2.1-x.2.1)):=(m1.sub m2).sub (m3.mono 0#h)
        refine k p6 R5 es5 _ _ H6 ((Ey.trans s4).trans (s5.trans s6)) e6 ((Ey.trans s4).free n5) (s6 _ _ e5) (fun x hx=>let ⟨q1,q2,q3⟩:=(afl x hx).up s6;⟨q1,q2,fun z hz=>(q3 z hz).mono 0#h⟩) 0#d ?_ (pD b1 p1) ((zb.mul zby).mono 0#h) 0#d ((zst.of_le 0#f).mono 0#h)
        refine LQ ?_ cK
        have e:=congrArg (Ke aae) hmap
        rw [nC,nC] at e
        exact e
       ·rw?
        refine cG ew4 (aV g6 rfl) ?_
        rw?
        refine iC (cg (show Sz 3 x6 from by show x6.natAbs<2 ^ 3;try?) VD) ?_
        rw?
        refine aF (mk:=.tup) 0#f fun p6 H6 s6 n6 e6=>?_
        exact plain p6 H6 (s4.trans s6) e6
      ·rw?
       refine bE ?_
       rw?
       refine cG ew4 (aV g6 rfl) ?_
       rw?
       refine iC (cg (show Sz 3 x6 from by show x6.natAbs<2 ^ 3;try?) VD) ?_
       rw?
       refine aF (mk:=.tup) 0#f fun p6 H6 s6 n6 e6=>?_
       exact plain p6 H6 (s4.trans s6) e6
     ·rw?
      refine cG ew3 (aV g6 rfl) ?_
      rw?
      refine iC (cg (show Sz 3 x6 from by show x6.natAbs<2 ^ 3;try?) VD) ?_
      rw?
      refine aF (mk:=.tup) 0#f fun p6 H6 s6 n6 e6=>?_
      exact plain p6 H6 s6 e6
    ·refine bE ?_
     rw?
     refine cG ew3 (aV g6 rfl) ?_
     rw?
     refine iC (cg (show Sz 3 x6 from by show x6.natAbs<2 ^ 3;try?) VD) ?_
     rw?
     refine aF (mk:=.tup) 0#f fun p6 H6 s6 n6 e6=>?_
     exact plain p6 H6 s6 e6
   ·refine bE ?_
    rw?
    refine cG ew3 (aV g6 rfl) ?_
    rw?
    refine iC (cg (show Sz 3 x6 from by show x6.natAbs<2 ^ 3;try?) VD) ?_
    rw?
    refine aF (mk:=.tup) 0#f fun p6 H6 s6 n6 e6=>?_
    exact plain p6 H6 s6 e6
 refine ⟨_,(au (aN 4 bH.nd (dP (bX (aJ bO (aa 2) aB) (bX aB (bX aB (bX aB (bX aB (bX aB (bX aB (bX aB (bX aB (Jd.a4 aB aB aB aB) iK) iK) iK) iK) iK) iK) iK) iK) M0))) (au (aN 5 bH.nd (Jd.c3 mD hr 0#m 0#x (aJ iG (aa 4) (aJ S2 (dP (Jd.a3 aB aB aB)) (aa 2))))) (au (aN 6 bH.nd (cy (lS K) (dP (bX aB (bX aB (bX aB (bX aB (bX aB (bX aB (bX aB (bX aB (Jd.a4 aB aB aB (aJ bO (aJ rP aB aB) aB)) iK) iK) iK) iK) iK) iK) iK) iK)) (cW K (aa 5)) 0#o)) (au (aN 7 bH.nd (cy (lS K) (dP (bX aB (Jd.a4 aB aB (aJ rP aB aB) (aJ bO (aJ rP aB aB) aB)) iK)) (cW K (aa 5)) 0#o)) (au (aN 8 bH.nd (bR (bT aB aB))) (au (bK (bh cY (aa 3) aB (aD _)) (au (aN 9 bH.nd (aJ cB (jm fY (aJ rP aB aB)) aB)) (aG (aN 8 bH.nd (cy (lS K) (dP (Jd.a4 (bR (bT aB aB)) (bR (bT aB aB)) (bR (bT aB (jm fY aB))) (bR (bT (aa 9) (aJ rP aB aB))))) (cW K (aa 5)) 0#o)))) bW) hu)))))),?_⟩
 rw?
 refine aF (mk:=.lst) 0#f fun l1 H1 s1 n1 e1=>?_
 rw?
 refine aF (mk:=.lst) 0#f fun l2 H2 s2 n2 e2=>?_
 rw?
 refine Yl e2 0#c 0#c ?_
 refine aF (mk:=.lst) (by rw [len_rep];simp;try?) fun l3 H3 s3 n3 e3=>?_
 rw?
 refine jq (s3 _ _ (s2 _ _ e1)) e3 ?_
 refine aF (mk:=.lst) (by rw [cJ,len_rep];simp;try?) fun l4 H4 s4 n4 e4=>?_
 have yr:=s1.trans (s2.trans (s3.trans s4))
 rw?
 refine ⟨a,ns,i,l4,Rx most,rfl,yr.seq hS,h0,by try?,by rw [e4];exact congrArg (fun z=>some (HO.lst z)) (VZ most),by rw [VY];try?,V0 hm,fun lw xs H5 s5 n5 e5 hlen hxs=>?_⟩
 obtain ⟨c,hc,S⟩:=V1 hlen hxs
 obtain ⟨x2,g2,a2,b2⟩:=fN hlen hxs 2 (z:=5) rfl
 obtain ⟨x3,g3,a3,b3⟩:=fN hlen hxs 3 (z:=12) rfl
 obtain ⟨x6,g6,a6,b6⟩:=fN hlen hxs 6 (z:=7) rfl
 obtain ⟨x7,g7,a7,b7⟩:=fN hlen hxs 7 (z:=3) rfl
 obtain ⟨x8,g8,_⟩:=fN hlen hxs 8 (z:=40) rfl
 obtain ⟨x9,g9,_⟩:=fN hlen hxs 9 (z:=40) rfl
 obtain ⟨x10,g10,_⟩:=fN hlen hxs 10 (z:=40) rfl
 obtain ⟨x11,g11,a11,b11⟩:=fN hlen hxs 11 (z:=4) rfl
 have g8':∀k,k<3→∃x,xs[k+8]?=some x:=fun k hk=>by
  rcases (show k=0∨k=1∨k=2 by try?) with rfl | rfl | rfl
  ·exact ⟨_,g8⟩
  ·exact ⟨_,g9⟩
  ·exact ⟨_,g10⟩
 rw?
 refine aF (mk:=.lst) 0#f fun l6 H6 s6 n6 e6=>?_
 rw?
 refine cG (s6 _ _ e5) (aV g3 rfl) ?_
 obtain ⟨b,eb,hb1,hb2⟩:=Jp (zs:=[1,2,3,4,5,6,12,30,60,1001,9699690,10 ^ (9:Int).toNat+7]) (fun z=>1≤z∧Sz 30 z) 0#g a3 b3
 refine cG e6 eb ?_
 rw?
 refine aF (mk:=.lst) 0#f fun l7 H7 s7 n7 e7=>?_
 rw?
 refine cG (s7 _ _ (s6 _ _ e5)) (aV g2 rfl) ?_
 obtain ⟨sc,esc,R9,hsc⟩:=Jp (zs:=[1,1,7,10 ^ (6:Int).toNat,10 ^ (12:Int).toNat+39]) (fun z=>0≤z∧Sz 45 z) 0#g a2 b2
 refine cG e7 esc ?_
 rw?
 refine aF (mk:=.tup) 0#f fun t0 H8 s8 n8 e8=>?_
 have s58:=s6.trans (s7.trans s8)
 have Tz:=(yr.trans s5).trans s58
 have e58:=s58 _ _ e5
 rw?
 refine cu (fun c1=>?_) (fun c1=>?_)
 ·rw?
  refine aF (mk:=.tup) 0#f fun p1 H9 s9 n9 e9=>?_
  rw?
  refine aF (mk:=.tup) 0#f fun p2 tE qK xG HF=>?_
  rw?
  refine aF (mk:=.tup) 0#f fun p3 KC Ex n11 Ry=>?_
  rw?
  refine aF (mk:=.tup) 0#f fun p4 H12 s12 n12 V2=>?_
  rw?
  refine aF (mk:=.lst) 0#f fun l8 H13 Ey n13 XY=>?_
  have GK:=s9.trans (qK.trans (Ex.trans (s12.trans Ey)))
  rw?
  refine cG (GK _ _ e58) (aV g11 rfl) ?_
  have TF:=s12.trans Ey
  rcases (show x11=0∨x11=1∨x11=2∨x11=3 by try?) with rfl | rfl | rfl | rfl
  ·refine cG XY XS ?_
   exact hR _ _ ⟨lw,p1,xs,c,b,sc,0,0,x6,x7,_,_,rfl,Tz.trans GK,GK _ _ e58,hc,S,g6,a6,b6,g7,g8',hb1,hb2,R9,hsc,(qK.trans (Ex.trans TF)) _ _ e9,by decide,by decide⟩
  ·refine cG XY XT ?_
   exact hR _ _ ⟨lw,p2,xs,c,b,sc,0,0,x6,x7,_,_,rfl,Tz.trans GK,GK _ _ e58,hc,S,g6,a6,b6,g7,g8',hb1,hb2,R9,hsc,(Ex.trans TF) _ _ HF,by decide,by decide⟩
  ·refine cG XY at2 ?_
   exact hR _ _ ⟨lw,p3,xs,c,b,sc,7,-3,x6,x7,_,_,rfl,Tz.trans GK,GK _ _ e58,hc,S,g6,a6,b6,g7,g8',hb1,hb2,R9,hsc,TF _ _ Ry,by decide,by decide⟩
  ·refine cG XY at3 ?_
   exact hR _ _ ⟨lw,p4,xs,c,b,sc,_,_,x6,x7,_,_,rfl,Tz.trans GK,GK _ _ e58,hc,S,g6,a6,b6,g7,g8',hb1,hb2,R9,hsc,Ey _ _ V2,by decide +kernel,by decide +kernel⟩
 ·rw?
  exact hR _ _ ⟨lw,t0,xs,c,b,sc,0,0,x6,x7,_,_,rfl,Tz,e58,hc,S,g6,a6,b6,g7,g8',hb1,hb2,R9,hsc,e8,by decide,by decide⟩
end
def mo (es:List En) (k:Nat):Int:=((es[k]?).map (·.2.1)).getD 0
def wo (es:List En) (k:Nat):Rat:=((es[k]?).bind (·.2.2)).getD 0
def sd (es:List En) (i k j:Nat):Rat:=wo es k-c7 (mo es i) (wo es i) (mo es k) (mo es j) (wo es j)
def lz (es:List En):Prop:=∀x∈es,gY x=true
theorem dc (hR:Row H es n) (hS:lz es) (hk:k<es.length):∃x,es[k]?=some x∧iQ H x.1 (mo es k) (wo es k) n:=by
 have g:es[k]?=some es[k]:=je hk
 have hm:es[k]∈es:=yR hk
 refine ⟨es[k],g,?_⟩
 have h1:=hR _ hm
 have h2:(es[k]).2.2.isSome=true:=hS _ hm
 unfold mo wo
 rw [g]
 generalize es[k]=x at *
 obtain ⟨a,m,v⟩:=x
 cases v with
 | none=>cases h2
 | some q=>
   obtain ⟨z,p,e,f⟩:=h1
   exact ⟨p,e,f,z⟩
theorem fR (h:rising es) (hij:i<j) (hj:j<es.length):mo es i<mo es j:=by
 have hi:i<es.length:=by try?
 unfold mo
 rw [je hi,je hj]
 exact Kh.mp h i j hi hj hij
theorem mP {i:Nat} (h:es[i]?=some x) (hj:j=(i:Int)):xE (vals es) j=some (.ref x.1):=by
 subst hj
 exact fh (w6 h)
def fT (b:Int) (x:Int×Option Int):Int×Option Rat:=(x.1,x.2.map fun z:Int=>(z:Rat)/(b:Rat))
def AM (m1 n1 m2 n2 m3 n3:Int):Int:=n2*(m3-m1)-n1*(m3-m2)-n3*(m2-m1)
inductive wK (vs:List V) (H:Hp) (Q:VK) (E_:XK):Prop where
 | mk (l:ao) (es:List Nn) (b:Int) (m n nb N:Nat):vs=[.ref l,.int b]→H l=some (.lst (bU es))→l9 H es m n→es.length≤900→1≤b→Sz nb b→m≤N→n≤N→nb≤N→N≤8000→(∀(R:ao) (es':List En) (H':Hp),aq H H'→H R=none→H' R=some (.lst (vals es'))→Row H' es' N→es'.map (·.2)=es.map (fun x=>fT b x.2)→Q (.ref R) H')→wK vs H Q E_
inductive wR (vs:List V) (H:Hp) (Q:VK) (E_:XK):Prop where
 | mk (p1 p2 p3:ao) (m1 n1 m2 n2 m3 n3:Int) (m n:Nat):vs=[.ref p1,.ref p2,.ref p3]→H p1=some (.tup [.int m1,.int n1])→H p2=some (.tup [.int m2,.int n2])→H p3=some (.tup [.int m3,.int n3])→Sz m m1→Sz m m2→Sz m m3→Sz n n1→Sz n n2→Sz n n3→m+n≤100000→Q (.int (AM m1 n1 m2 n2 m3 n3)) H→wR vs H Q E_
theorem Eu (h:H p=some (.tup [x,y,z])) (q:R (((σ.set i (some x)).set j (some y)).set k (some z)) H):Pr K 3 (qH (ia i) (qH (ia j) (qH (ia k) Pq))) (.ref p) σ H R:=
 ⟨p,_,rfl,nI.of h,rfl,x,_,rfl,y,_,rfl,z,_,rfl,rfl,q⟩
section
theorem kJ:aE ["_law_row_here","_law_bottom","_law_handed_here","_law_moment","_law_number"] ["_law_row_here","_law_bottom"] (ah qo):=0#a
theorem DE (F:cH K "_law_handed" "_law_handed" qo f fd) (jf:Dn P w K mg base 1 "_law_ratio" ["_law_top","_law_bottom"] wO):bg P w K mg base cM 2 f fd ["_law_row_here","_law_bottom"] wK:=by
 refine F.ok kJ 0#e 0#b
 ·obtain ⟨l,es,b,m,n,nb,N,rfl,_⟩:=h
  rfl
 obtain ⟨l,es,b,m,n,nb,N,rfl,hl,hes,xF,hb,zb,hmN,hnN,hbN,hN,k⟩:=h
 refine bD ⟨_,(au (aN 2 kJ.nd (dP gc)) (au (fK iM rfl (gU K 0#m) (Jd.Qo K (n:=2) rfl (d8 (bQ (i:=3) kJ.nd rfl 0#n) (d8 (bQ (i:=4) kJ.nd rfl 0#n) o6))) (aG (bK (bh BN (aa 4) dW (aD _)) (aG (gE (d7 K (aa 2) (bR (bT (aa 3) dW))) (hs:=fL))) (aG (gE (d7 K (aa 2) (bR (bT (aa 3) (b9 jf hr (aa 4) 0#x)))) (hs:=fL)))))) (aG (aR (aa 2))))),?_⟩
 rw?
 refine aF (mk:=.lst) 0#f fun R H1 s1 n1 e1=>?_
 rw?
 refine gH (gV ?_)
 rw?
 refine ⟨l,rfl,⟨_,aW.of (s1 _ _ hl)⟩,cL (xs:=bU es) (fun i σ H3=>∃(es':List En) (v3 v4:Option V),σ=[some (.ref l),some (.int b),some (.ref R),v3,v4]∧aq H H3∧H3 R=some (.lst (vals es'))∧Row H3 es' N∧es'.length=i∧es'.map (·.2)=(es.take i).map (fun x=>fT b x.2)) ?_ ?_ ?_ ?_⟩
 ·exact ⟨[],none,none,rfl,s1,e1,fun x hx=>absurd hx 0#f,rfl,rfl⟩
 ·rintro i σ H3 _ ⟨es',v3,v4,rfl,s3,_⟩
  exact aW.of (s3 _ _ hl)
 ·rintro i x σ H3 hx ⟨es',v3,v4,rfl,s3,e3,Lm,hl',hmap⟩
  obtain ⟨e,he,rfl⟩:=pF hx
  have hi:i<es.length:=(fZ.mp he).1
  have fe:=(hes e (jL he)).up s3
  have tk:es.take (i+1)=es.take i++[e]:=by rw [xC,he];rfl
  have fin:∀(y:ao) (H4:Hp) (v3 v4:Option V),aq H3 H4→mO H4 (y,fT b e.2) N→∃(Fl:List En) (v3' v4':Option V),[some (.ref l),some (.int b),some (.ref R),v3,v4]=[some (.ref l),some (.int b),some (.ref R),v3',v4'] ∧
   aq H (upd H4 R (.lst (vals es'++[.ref y])))∧upd H4 R (.lst (vals es'++[.ref y])) R=some (.lst (vals Fl))∧Row (upd H4 R (.lst (vals es'++[.ref y]))) Fl N∧Fl.length=i+1∧Fl.map (·.2)=(es.take (i+1)).map (fun x=>fT b x.2):=by
   intro y H4 v3 v4 s4 f4
   have e4:=s4 _ _ e3
   refine ⟨es'++[(y,fT b e.2)],v3,v4,rfl,bw (s3.trans s4) n1,by rw [av];exact congrArg (fun z=>some (HO.lst z)) (gQ es' (y,fT b e.2)),((Lm.up s4).snoc f4).app e4,by rw [cJ,hl'];rfl,?_⟩
   rw [tk,ju,ju,hmap]
   rfl
  obtain ⟨a,mm,v⟩:=e
  cases v with
  | none=>
    refine mG fe.1 ?_
    rw?
    refine ⟨rfl,?_⟩
    rw?
    refine bJ ?_
    rw?
    refine ⟨.inl ⟨rfl,_,aW.of e3⟩,?_⟩
    rw?
    refine aF (mk:=.tup) 0#f fun y H4 s4 n4 e4=>?_
    rw?
    refine cZ (s4 _ _ e3) (by rw [aS];exact aO 0#d) ?_
    exact fin y H4 _ _ s4 ⟨fe.2.1.mono hmN,e4⟩
  | some z=>
    have zz:=fe.2.2 z rfl
    refine mG fe.1 ?_
    rw?
    refine ⟨rfl,?_⟩
    rw?
    refine bE ?_
    rw?
    refine ⟨.inl ⟨rfl,_,aW.of e3⟩,?_⟩
    rw?
    refine RI (n:=N) 0#d (zz.mono hnN) (zb.mono hbN) hN fun p H4 s4 f4=>?_
    rw?
    refine aF (mk:=.tup) 0#f fun y H5 s5 n5 e5=>?_
    rw?
    refine cZ ((s4.trans s5) _ _ e3) (by rw [aS];exact aO 0#d) ?_
    exact fin y H5 _ _ (s4.trans s5) ⟨fe.2.1.mono hmN,p,e5,f4.up s5⟩
 ·rintro σ H3 ⟨es',v3,v4,rfl,s3,e3,Lm,hl',hmap⟩
  rw [bZ,iV] at hmap
  rw?
  exact k R es' H3 s3 n1 e3 Lm hmap
theorem wF:aE ["_law_one","_law_mid","_law_last","_law_up"] ["_law_one","_law_mid","_law_last"] (ah r9):=0#a
theorem Gg (F:cH K "_law_stand" "_law_stand" r9 f fd):bg P w K mg base cM 1 f fd ["_law_one","_law_mid","_law_last"] wR:=by
 refine F.ok wF 0#e 0#b
 ·obtain ⟨p1,p2,p3,m1,n1,m2,n2,m3,n3,m,n,rfl,_⟩:=h
  rfl
 obtain ⟨p1,p2,p3,m1,n1,m2,n2,m3,n3,m,n,rfl,e1,e2,e3,a1,a2,a3,b1,b2,b3,hmn,k⟩:=h
 refine bD ⟨_,(au (aN 3 wF.nd (aJ aT (aK K 0#x) (aJ cB (aK K (aa 2)) (aK K 0#m)))) (aG (aR (aJ cB (aJ cB (aa 3) (aJ aT (aK K 0#m) (aJ cB (aK K (aa 2)) (aK K 0#x)))) (aJ aT (aK K (aa 2)) (aJ cB (aK K 0#x) (aK K 0#m))))))),?_⟩
 rw?
 refine iC (cg b2 (a3.sub a1) 0#d) ?_
 rw?
 refine iC (cg b1 (a3.sub a2) 0#d) ?_
 rw?
 refine iC (cg b3 (a2.sub a1) 0#d) ?_
 rw?
 exact k
end
theorem aa9:CN K (.type "bool") (.type "bool")=some true:=by rfl
def fS (hs:List Nn) (k:Nat):Int:=((hs[k]?).map (·.2.1)).getD 0
def Dz (hs:List Nn) (k:Nat):Int:=((hs[k]?).bind (·.2.2)).getD 0
def I0 (hs:List Nn) (i k j:Nat):Int:=AM (fS hs i) (Dz hs i) (fS hs k) (Dz hs k) (fS hs j) (Dz hs j)
def acp (hs:List Nn):Prop:=∀x∈hs,tY x=true
theorem qI (hR:l9 H hs m n) (hS:acp hs) (hk:k<hs.length):∃x,hs[k]?=some x∧H x.1=some (.tup [.int (fS hs k),.int (Dz hs k)])∧Sz m (fS hs k)∧Sz n (Dz hs k):=by
 have g:hs[k]?=some hs[k]:=je hk
 have hm:hs[k]∈hs:=yR hk
 refine ⟨hs[k],g,?_⟩
 have h1:=hR _ hm
 have h2:(hs[k]).2.2.isSome=true:=hS _ hm
 unfold fS Dz
 rw [g]
 generalize hs[k]=x at *
 obtain ⟨a,m,v⟩:=x
 cases v with
 | none=>cases h2
 | some q=>exact ⟨h1.1,h1.2.1,h1.2.2 q rfl⟩
theorem LP (h:gB hs) (hij:i<j) (hj:j<hs.length):fS hs i<fS hs j:=by
 have hi:i<hs.length:=by try?
 unfold fS
 rw [je hi,je hj]
 exact Kh.mp h i j hi hj hij
section
variable {es:List En} {hs:List Nn} {b:Int} (h:es.map (·.2)=hs.map (fun x=>fT b x.2))
include h
theorem AK (k:Nat):mo es k=fS hs k∧wo es k=(Dz hs k:Rat)/(b:Rat):=by
 have e:(es.map (·.2))[k]?=(hs.map (fun x=>fT b x.2))[k]?:=by rw [h]
 rw [jQ,jQ] at e
 unfold mo fS wo Dz
 have z:(0:Rat)=((0:Int):Rat)/(b:Rat):=by
  rw [show ((0:Int):Rat)=0 from rfl,Rat.div_def,Vg]
 cases e1:es[k]? with
 | none=>
   rw [e1] at e
   cases e2:hs[k]? with
   | none=>exact ⟨rfl,z⟩
   | some y=>rw [e2] at e;cases e
 | some x=>
   rw [e1] at e
   cases e2:hs[k]? with
   | none=>rw [e2] at e;cases e
   | some y=>
     rw [e2] at e
     have q:x.2=fT b y.2:=lQ e
     obtain ⟨ax,tx,vx⟩:=x
     obtain ⟨ay,ty,vy⟩:=y
     cases vy with
     | none=>
       cases q
       exact ⟨rfl,z⟩
     | some w=>
       cases q
       exact ⟨rfl,rfl⟩
theorem Bw:es.length=hs.length:=by
 have:=congrArg nE h
 simpa using this
theorem rH (hr:gB hs):rising es:=by
 have k:(hs.map fun x=>x.2.1).Pairwise (·<·):=ON.mpr hr
 have e:=congrArg (Ke aae) h
 rw [nC,nC] at e
 have e':es.map (fun x=>x.2.1)=hs.map (fun x=>x.2.1):=e
 rw [← e'] at k
 exact ON.mp k
theorem NL (hb:1≤b) (ht:fS hs i<fS hs j):((I0 hs i k j:Int):Rat)=sd es i k j*(((fS hs j-fS hs i)*b:Int):Rat):=by
 obtain ⟨i1,i2⟩:=AK h i
 obtain ⟨j1,j2⟩:=AK h j
 obtain ⟨k1,k2⟩:=AK h k
 unfold sd I0 AM
 rw [i1,i2,j1,j2,k1,k2]
 have hX:=oY (t:=(fS hs i:Rat)) (q:=(Dz hs i:Rat)/(b:Rat)) (u:=(fS hs k:Rat)) (t':=(fS hs j:Rat)) (q':=(Dz hs j:Rat)/(b:Rat)) (HV ht)
 have hb':=dB (b:=b) 0#d
 simp only [sW,uo]
 generalize c7 (fS hs i:Rat) ((Dz hs i:Rat)/(b:Rat)) (fS hs k:Rat) (fS hs j:Rat) ((Dz hs j:Rat)/(b:Rat))=X at *
 generalize (fS hs i:Rat)=ti at *
 generalize (fS hs j:Rat)=tj at *
 generalize (fS hs k:Rat)=tk at *
 generalize (Dz hs i:Rat)=ni at *
 generalize (Dz hs j:Rat)=nj at *
 generalize (Dz hs k:Rat)=nk at *
 grind
end
theorem LO (x:Int):((x.natAbs:Int):Rat)=cP (x:Rat):=by
 have:=(Qt.whole x).abs.eq
 simpa using this
theorem Sm (h:es.map (·.2)=hs.map (fun x=>fT b x.2))  (hb:1≤b) (ht:fS hs i<fS hs j):(((I0 hs i k j).natAbs:Int):Rat)=cP (sd es i k j)*(((fS hs j-fS hs i)*b:Int):Rat):=by
 rw [LO,NL h hb ht,BX (cast_pos (CY 0#d 0#d))]
theorem jB (h:es.map (·.2)=es'.map (·.2)) (k:Nat):mo es k=mo es' k∧wo es k=wo es' k:=by
 have e:(es.map (·.2))[k]?=(es'.map (·.2))[k]?:=by rw [h]
 rw [jQ,jQ] at e
 unfold mo wo
 cases h1:es[k]? with
 | none=>
   cases h2:es'[k]? with
   | none=>exact ⟨rfl,rfl⟩
   | some y=>rw [h1,h2] at e;cases e
 | some x=>
   cases h2:es'[k]? with
   | none=>rw [h1,h2] at e;cases e
   | some y=>
     rw [h1,h2] at e
     have e':x.2=y.2:=by simpa using e
     simp only [J4,Option.bind_some,e',Zm,and_self]
abbrev Qs:=List (ao×Rat)
def c9 (rs:Qs):List V:=rs.map fun x=>V.ref x.1
theorem Jq {i:Nat} (h:(c9 rs)[i]?=some v):∃x,rs[i]?=some x∧v=.ref x.1:=by
 unfold c9 at h
 rw [jQ] at h
 cases e:rs[i]? with
 | none=>rw [e] at h;cases h
 | some x=>rw [e] at h;cases h;exact ⟨x,rfl,rfl⟩
def EY (H:Hp) (rs:Qs) (n:Nat):Prop:=∀x∈rs,bV H x.1 x.2 n
theorem bV.app (f:bV H p q n) (h:H R=some (.lst ys)):bV (upd H R o) p q n:=
 let ⟨t,b,e,f⟩:=f
 ⟨t,b,(Jy R H o) _ _ (ja h e),f⟩
def XR (H:Hp) (p:ao) (t:Int) (q:Rat) (n m:Nat):Prop:=∃v:ao,H p=some (.tup [.int t,.ref v])∧bV H v q n∧Sz m t
theorem XR.up (f:XR H p t q n m) (s:aq H H'):XR H' p t q n m:=let ⟨v,e,f,z⟩:=f;⟨v,s _ _ e,f.up s,z⟩
theorem iQ.saq (f:iQ H p t q n):XR H p t q n n:=let ⟨v,e,f,z⟩:=f;⟨v,e,f.qt,z⟩
def pB (es:List En) (β:Rat) (i k:Nat):Rat:=(wo es k-β-wo es i)/((mo es k:Rat)-(mo es i:Rat))
def lR (es:List En) (β:Rat) (i k:Nat):Rat:=(wo es k+β-wo es i)/((mo es k:Rat)-(mo es i:Rat))
inductive tP (vs:List V) (H:Hp) (Q:VK) (E_:XK):Prop where
 | mk (p r:ao) (t t':Int) (q q':Rat) (n n' m:Nat):vs=[.ref p,.ref r]→XR H p t q n m→XR H r t' q' n' m→t<t'→n+n'+m≤20000→(∀(s:ao) (H':Hp),aq H H'→bV H' s ((q'-q)/((t':Rat)-(t:Rat))) (n+n'+m+2)→Q (.ref s) H')→tP vs H Q E_
inductive AV (vs:List V) (H:Hp) (Q:VK) (E_:XK):Prop where
 | mk (l:ao) (rs:Qs) (n:Nat):vs=[.ref l]→H l=some (.lst (c9 rs))→EY H rs n→n≤20000→0<rs.length→(∀x∈rs,(∀y∈rs,y.2≤x.2)→Q (.ref x.1) H)→AV vs H Q E_
inductive Hq (vs:List V) (H:Hp) (Q:VK) (E_:XK):Prop where
 | mk (l:ao) (rs:Qs) (n:Nat):vs=[.ref l]→H l=some (.lst (c9 rs))→EY H rs n→n≤20000→0<rs.length→(∀x∈rs,(∀y∈rs,x.2≤y.2)→Q (.ref x.1) H)→Hq vs H Q E_
section
theorem nV:aE ["quotients","found","quotient"] ["quotients"] (ah vc):=0#a
theorem Ja (F:cH K "greatest" "greatest" vc f fd) (dR:Dn P w K mg base 1 "order" ["one","other"] kX):bg P w K mg base cM 2 f fd ["quotients"] AV:=by
 refine F.ok nV 0#e 0#b
 ·obtain ⟨l,rs,n,rfl,_⟩:=h
  rfl
 obtain ⟨l,rs,n,rfl,hl,hq,hn,hp,k⟩:=h
 have g0:rs[0]?=some rs[0]:=je hp
 refine bD ⟨_,(au (aN 1 nV.nd (cW K 0#m)) (au (fK iM rfl (gU K 0#m) (bQ (i:=2) nV.nd rfl 0#n) (aG (bK (bh cY (b9 dR hr (aa 2) 0#x) aB (aD _)) (aG (aN 1 nV.nd (aa 2))) bW))) (aG (aR 0#x)))),?_⟩
 rw?
 refine cG hl (v:=.ref (rs[0]).1) (fh (j:=0) (by unfold c9;rw [jQ,g0];rfl)) ?_
 rw?
 refine gH (gV ?_)
 rw?
 refine ⟨l,rfl,⟨_,aW.of hl⟩,cL (xs:=c9 rs) (fun i σ H3=>H3=H∧∃(x:ao×Rat) (v:Option V),x∈rs∧σ=[some (.ref l),some (.ref x.1),v]∧∀y∈rs.take i,y.2≤x.2) ?_ ?_ ?_ ?_⟩
 ·exact ⟨rfl,rs[0],none,yR hp,rfl,fun y hy=>by simp at hy⟩
 ·rintro i σ H3 _ ⟨rfl,_⟩
  exact aW.of hl
 ·rintro i v σ H3 hx ⟨rfl,x,v2,hm,rfl,hle⟩
  obtain ⟨y,gy,rfl⟩:=Jq hx
  have hy:=jL gy
  have tk:rs.take (i+1)=rs.take i++[y]:=by rw [xC,gy];rfl
  rw?
  refine ⟨y.1,x.1,y.2,x.2,n,n,rfl,hq y hy,hq x hm,by try?,fun o ho1 ho2=>?_⟩
  rw?
  refine cu (fun c=>?_) (fun c=>?_)
  ·have c':=ho1.mp (c6 c)
   rw?
   refine ⟨rfl,y,_,hy,rfl,fun z hz=>?_⟩
   rw [tk] at hz
   rcases dH.mp hz with q | q
   ·have:=hle z q
    grind
   ·obtain rfl:z=y:=by simpa using q
    exact xr
  ·have c':¬x.2<y.2:=fun z=>jw (iU.mpr c) (ho1.mpr z)
   rw?
   refine ⟨rfl,x,_,hm,rfl,fun z hz=>?_⟩
   rw [tk] at hz
   rcases dH.mp hz with q | q
   ·exact hle z q
   ·obtain rfl:z=y:=by simpa using q
    exact lu.mp c'
 ·rintro σ H3 ⟨rfl,x,v2,hm,rfl,hle⟩
  rw?
  refine k x hm fun y hy=>hle y ?_
  have e:(c9 rs).length=rs.length:=eV ..
  rw [e,iV]
  exact hy
theorem nY:aE ["quotients","found","quotient"] ["quotients"] (ah vq):=0#a
theorem Jm (F:cH K "smallest" "smallest" vq f fd) (dR:Dn P w K mg base 1 "order" ["one","other"] kX):bg P w K mg base cM 2 f fd ["quotients"] Hq:=by
 refine F.ok nY 0#e 0#b
 ·obtain ⟨l,rs,n,rfl,_⟩:=h
  rfl
 obtain ⟨l,rs,n,rfl,hl,hq,hn,hp,k⟩:=h
 have g0:rs[0]?=some rs[0]:=je hp
 refine bD ⟨_,(au (aN 1 nY.nd (cW K 0#m)) (au (fK iM rfl (gU K 0#m) (bQ (i:=2) nY.nd rfl 0#n) (aG (bK (bh lU (b9 dR hr (aa 2) 0#x) aB (aD _)) (aG (aN 1 nY.nd (aa 2))) bW))) (aG (aR 0#x)))),?_⟩
 rw?
 refine cG hl (v:=.ref (rs[0]).1) (fh (j:=0) (by unfold c9;rw [jQ,g0];rfl)) ?_
 rw?
 refine gH (gV ?_)
 rw?
 refine ⟨l,rfl,⟨_,aW.of hl⟩,cL (xs:=c9 rs) (fun i σ H3=>H3=H∧∃(x:ao×Rat) (v:Option V),x∈rs∧σ=[some (.ref l),some (.ref x.1),v]∧∀y∈rs.take i,x.2≤y.2) ?_ ?_ ?_ ?_⟩
 ·exact ⟨rfl,rs[0],none,yR hp,rfl,fun y hy=>by simp at hy⟩
 ·rintro i σ H3 _ ⟨rfl,_⟩
  exact aW.of hl
 ·rintro i v σ H3 hx ⟨rfl,x,v2,hm,rfl,hle⟩
  obtain ⟨y,gy,rfl⟩:=Jq hx
  have hy:=jL gy
  have tk:rs.take (i+1)=rs.take i++[y]:=by rw [xC,gy];rfl
  rw?
  refine ⟨y.1,x.1,y.2,x.2,n,n,rfl,hq y hy,hq x hm,by try?,fun o ho1 ho2=>?_⟩
  rw?
  refine cu (fun c=>?_) (fun c=>?_)
  ·have c':=ho2.mp (c6 c)
   rw?
   refine ⟨rfl,y,_,hy,rfl,fun z hz=>?_⟩
   rw [tk] at hz
   rcases dH.mp hz with q | q
   ·have:=hle z q
    grind
   ·obtain rfl:z=y:=by simpa using q
    exact xr
  ·have c':¬y.2<x.2:=fun z=>jw (iU.mpr c) (ho2.mpr z)
   rw?
   refine ⟨rfl,x,_,hm,rfl,fun z hz=>?_⟩
   rw [tk] at hz
   rcases dH.mp hz with q | q
   ·exact hle z q
   ·obtain rfl:z=y:=by simpa using q
    exact lu.mp c'
 ·rintro σ H3 ⟨rfl,x,v2,hm,rfl,hle⟩
  rw?
  refine k x hm fun y hy=>hle y ?_
  have e:(c9 rs).length=rs.length:=eV ..
  rw [e,iV]
  exact hy
theorem Aj (F:cH K "loose_slope" "loose_slope" kI f fd) (aZ:Dn P w K mg base 1 "loose_minus" ["one","other"] (jH (·-·) 1)):bg P w K mg base cM 3 f fd ["one","other"] tP:=by
 refine F.ok fX 0#e 0#b
 ·obtain ⟨p,r,t,t',q,q',n,n',m,rfl,_⟩:=h
  rfl
 obtain ⟨p,r,t,t',q,q',n,n',m,rfl,⟨v,hp,hv,zt⟩,⟨v',hr',hv',zt'⟩,ht,hn,k⟩:=h
 refine bD ⟨_,(au (aN 2 fX.nd (b9 aZ hr (aK K 0#x) (aK K 0#m))) (au (aN 3 fX.nd (aJ cB (aK K 0#x) (aK K 0#m))) (au (bK (bh lU (aa 3) aB (aD _)) (aG (aR (bR (bT (jm fY (aK K (aa 2))) (aJ aT (aK K (aa 2)) (jm fY (aa 3))))))) bW) (aG (aR (bR (bT (aK K (aa 2)) (aJ aT (aK K (aa 2)) (aa 3))))))))),?_⟩
 rw?
 refine ⟨v',v,q',q,n',n,rfl,hv',hv,by try?,fun x H1 s1 e1=>?_⟩
 obtain ⟨a,b,hx,hq,za,zb⟩:=e1
 have hp1:=s1 _ _ hp
 have hr1:=s1 _ _ hr'
 have zs:Sz (m+1) (t'-t):=zt'.sub zt
 rw?
 refine cu (fun c=>?_) (fun c=>?_)
 ·have c':t'-t<0:=c6 c
  try?
 ·rw?
  refine iC (cg zb zs 0#d) ?_
  rw?
  refine aF (mk:=.tup) 0#f fun y H2 s2 n2 e2=>?_
  have q2:=hq.div (s:=t'-t) 0#d
  rw [uo] at q2
  exact k y H2 (s1.trans s2) ⟨_,_,e2,q2,za.mono 0#d,(zb.mul zs).mono 0#d⟩
end
theorem fU:∀{fs:List (Str×V)} {x:V},fs.lookup f=some x→(aA f v fs).length=fs.length
 | [],_,h=>by cases h
 | (g,y)::r,x,h=>by
   unfold aA
   by_cases e:g=f
   ·rw [if_pos e];rfl
   ·rw [if_neg e]
    have e':(f==g)=false:=by
     have:¬f=g:=fun z=>e z.symm
     simpa using this
    rw [EO,e'] at h
    show (aA f v r).length+1=r.length+1
    rw [fU h]
structure Na (fs:List (Str×V)) (tw sl:ao) (g s:V):Prop where
 len:fs.length≤10
 tw:fs.lookup ("twice":Str)=some (.ref tw)
 sl:fs.lookup ("samples":Str)=some (.ref sl)
 g:fs.lookup ("gentlest":Str)=some g
 s:fs.lookup ("steepest":Str)=some s
 no:∀m:Str,m ≠ "twice"→m ≠ "samples"→m ≠ "gentlest"→m ≠ "steepest"→fs.lookup m=none
theorem Na.init (tw sl:ao) (g s:V):Na (aA "steepest" s (aA "gentlest" g (aA "samples" (.ref sl) (aA "twice" (.ref tw) [])))) tw sl g s:=by
 have a1:¬(("twice":Str) = "steepest"):=by decide +kernel
 have a2:¬(("twice":Str) = "gentlest"):=by decide +kernel
 have a3:¬(("twice":Str) = "samples"):=by decide +kernel
 have a4:¬(("samples":Str) = "steepest"):=by decide +kernel
 have a5:¬(("samples":Str) = "gentlest"):=by decide +kernel
 have a6:¬(("gentlest":Str) = "steepest"):=by decide +kernel
 refine ⟨?_,?_,?_,?_,?_,fun m m1 m2 m3 m4=>?_⟩
 ·have l:∀(f:Str) (v:V) (fs:List (Str×V)),(aA f v fs).length≤fs.length+1:=by
   intro f v fs
   induction fs with
   | nil=>exact dm _
   | cons x r ih=>
     obtain ⟨g,y⟩:=x
     unfold aA
     split
     ·exact sQ _
     ·exact C6 ih
  have l1:=l "steepest" s (aA "gentlest" g (aA "samples" (.ref sl) (aA "twice" (.ref tw) [])))
  have l2:=l "gentlest" g (aA "samples" (.ref sl) (aA "twice" (.ref tw) []))
  have l3:=l "samples" (.ref sl) (aA "twice" (.ref tw) [])
  have l4:=l "twice" (.ref tw) []
  simp only [kh] at l4
  try?
 ·rw [af,if_neg a1,af,if_neg a2,af,if_neg a3,af,if_pos rfl]
 ·rw [af,if_neg a4,af,if_neg a5,af,if_pos rfl]
 ·rw [af,if_neg a6,af,if_pos rfl]
 ·rw [af,if_pos rfl]
 ·rw [af,if_neg m4,af,if_neg m3,af,if_neg m2,af,if_neg m1]
  rfl
theorem Na.setG {tw sl:ao} {g s y:V} (h:Na fs tw sl g s):Na (aA "gentlest" y fs) tw sl y s:=by
 have a2:¬(("twice":Str) = "gentlest"):=by decide +kernel
 have a5:¬(("samples":Str) = "gentlest"):=by decide +kernel
 have a6:¬(("steepest":Str) = "gentlest"):=by decide +kernel
 refine ⟨by rw [fU h.g];exact h.len,?_,?_,?_,?_,fun m m1 m2 m3 m4=>?_⟩
 ·rw [af,if_neg a2];exact h.tw
 ·rw [af,if_neg a5];exact h.sl
 ·rw [af,if_pos rfl]
 ·rw [af,if_neg a6];exact h.s
 ·rw [af,if_neg m3];exact h.no m m1 m2 m3 m4
theorem Na.ab1 {tw sl:ao} {g s y:V} (h:Na fs tw sl g s):Na (aA "steepest" y fs) tw sl g y:=by
 have a2:¬(("twice":Str) = "steepest"):=by decide +kernel
 have a5:¬(("samples":Str) = "steepest"):=by decide +kernel
 have a6:¬(("gentlest":Str) = "steepest"):=by decide +kernel
 refine ⟨by rw [fU h.s];exact h.len,?_,?_,?_,?_,fun m m1 m2 m3 m4=>?_⟩
 ·rw [af,if_neg a2];exact h.tw
 ·rw [af,if_neg a5];exact h.sl
 ·rw [af,if_neg a6];exact h.g
 ·rw [af,if_pos rfl]
 ·rw [af,if_neg m4];exact h.no m m1 m2 m3 m4
theorem Na.xZ {fs:List (Str×V)} {tw sl:ao} {g s:V} (h:Na fs tw sl g s) (m:Str) (m1:m ≠ "twice":=by decide +kernel) (m2:m ≠ "samples":=by decide +kernel) (m3:m ≠ "gentlest":=by decide +kernel) (m4:m ≠ "steepest":=by decide +kernel):fs.lookup m=none:=h.no m m1 m2 m3 m4
def Q2 (p L:ao) (H:Hp):Hp:=rm p (rm L H)
theorem BZ (h1:b≠p) (h2:b≠L):Q2 p L H b=H b:=by unfold Q2;rw [mW h1,mW h2]
theorem Tt:aq (Q2 p L H) H:=fun b o e=>iZ _ _ (iZ _ _ e)
section
theorem AR (hp:H p=some (.ins C dx fs)) (hL:H L=some (.lst ys)) (h:H b=some 0#s):Q2 p L H b=some 0#s:=by
 rw [BZ (fun e=>by rw [e,hp] at h;cases h) (fun e=>by rw [e,hL] at h;cases h)]
 exact h
theorem bV.out (hp:H p=some (.ins C dx fs)) (hL:H L=some (.lst ys)) (f:bV H b q n):bV (Q2 p L H) b q n:=let ⟨t,d,e,f⟩:=f;⟨t,d,AR hp hL e,f⟩
theorem dw.out (hp:H p=some (.ins C dx fs)) (hL:H L=some (.lst ys)) (f:dw H b q n):dw (Q2 p L H) b q n:=let ⟨t,d,e,f⟩:=f;⟨t,d,AR hp hL e,f⟩
theorem mO.out (hp:H p=some (.ins C dx fs)) (hL:H L=some (.lst ys)) (f:mO H x n):mO (Q2 p L H) x n:=by
 obtain ⟨a,m,v⟩:=x
 cases v with
 | none=>exact ⟨f.1,AR hp hL f.2⟩
 | some q=>
   obtain ⟨z,r,e,g⟩:=f
   exact ⟨z,r,AR hp hL e,g.out hp hL⟩
theorem Row.out (hp:H p=some (.ins C dx fs)) (hL:H L=some (.lst ys)) (f:Row H es n):Row (Q2 p L H) es n:=fun x hx=>(f x hx).out hp hL
end
theorem iQ.en (f:iQ H b t q n):mO H (b,t,some q) n:=let ⟨v,e,f,z⟩:=f;⟨z,v,e,f⟩
theorem mO.sa (f:mO H (b,t,some q) n):iQ H b t q n:=let ⟨z,v,e,f⟩:=f;⟨v,e,f,z⟩
def Kl (es:List En) (B:Rat):Prop:=∀i j k l,i<j→j<es.length→k<l→l<es.length→pB es B i j≤lR es B k l
def IsG (es:List En) (B G:Rat):Prop:=(∀i j,i<j→j<es.length→pB es B i j≤G)∧∃i j,i<j∧j<es.length∧pB es B i j=G
def IsS (es:List En) (B S:Rat):Prop:=(∀i j,i<j→j<es.length→S≤lR es B i j)∧∃i j,i<j∧j<es.length∧lR es B i j=S
theorem Nx (g:IsG es B G) (s:IsS es B S):Kl es B↔G≤S:=by
 constructor
 ·intro h
  obtain ⟨i,j,a1,a2,a3⟩:=g.2
  obtain ⟨k,l,b1,b2,b3⟩:=s.2
  rw [← a3,← b3]
  exact h i j k l a1 a2 b1 b2
 ·intro h i j k l a1 a2 b1 b2
  have:=g.1 i j a1 a2
  have:=s.1 k l b1 b2
  grind
def uM (C:ao) (H:Hp) (p L:ao) (es:List En) (B:Rat) (n nb:Nat):Prop:=∃(dx tw:ao) (fs:List (Str×V)) (g s:V),H p=some (.ins C dx fs)∧Na fs tw L g s∧H L=some (.lst (vals es))∧Row H es n∧lz es∧rising es∧bV H tw B nb ∧
 ((es.length<2∧g=.bC∧s=.bC)∨(2≤es.length∧∃(pg ps:ao) (G S:Rat),g=.ref pg∧s=.ref ps∧bV H pg G (3*n+nb+3)∧bV H ps S (3*n+nb+3)∧IsG es B G∧IsS es B S∧G≤S))
theorem uM.up (h:uM C H p L es B n nb) (s:aq H H'):uM C H' p L es B n nb:=by
 obtain ⟨dx,tw,fs,g,s',h1,h2,h3,h4,h5,h6,h7,h8⟩:=h
 refine ⟨dx,tw,fs,g,s',s _ _ h1,h2,s _ _ h3,h4.up s,h5,h6,h7.up s,?_⟩
 rcases h8 with z | ⟨z,pg,ps,G,S,e1,e2,q1,q2,r⟩
 ·exact .inl z
 ·exact .inr ⟨z,pg,ps,G,S,e1,e2,q1.up s,q2.up s,r⟩
inductive Cq (C:ao) (vs:List V) (H:Hp) (Q:VK) (E_:XK):Prop where
 | mk (p dx pb:ao) (β:Rat) (n:Nat):vs=[.ref p,.ref pb]→H p=some (.ins C dx [])→bV H pb β n→n≤1000→(∀(L:ao) (H':Hp) (k:Nat),aq (rm p H) H'→H L=none→uM C H' p L [] (2*β) k (2*n+1)→Q .bC H')→Cq C vs H Q E_
def dh (es:List En) (B:Rat) (m:Int) (q:Rat) (i:Nat):Rat:=(q+B-wo es i)/((m:Rat)-(mo es i:Rat))
inductive sD (vs:List V) (H:Hp) (Q:VK) (E_:XK):Prop where
 | mk (kv:V) (l x tw:ao) (es:List En) (m:Int) (q B:Rat) (n nb:Nat):vs=[kv,.ref l,.ref x,.ref tw]→H l=some (.lst (vals es))→Row H es n→lz es→iQ H x m q n→bV H tw B nb→es.length≤900→n≤1500→nb≤3000→(∀i,i<es.length→mo es i<m)→(kv=.bC∨(0<es.length∧∃pk Kq,kv=.ref pk∧bV H pk Kq (3*n+nb+3)))→(es.length=0→kv=.bC→∀H',aq H H'→Q .bC H')→(0<es.length→∀(pg:ao) (G:Rat) (H':Hp),aq H H'→bV H' pg G (3*n+nb+3)→(∀pk Kq,kv=.ref pk→bV H pk Kq (3*n+nb+3)→Kq≤G)→(∀i,i<es.length→dh es (-B) m q i≤G)→((∃i,i<es.length∧dh es (-B) m q i=G)∨∃pk,kv=.ref pk∧bV H pk G (3*n+nb+3))→Q (.ref pg) H')→sD vs H Q E_
inductive wU (vs:List V) (H:Hp) (Q:VK) (E_:XK):Prop where
 | mk (kv:V) (l x tw:ao) (es:List En) (m:Int) (q B:Rat) (n nb:Nat):vs=[kv,.ref l,.ref x,.ref tw]→H l=some (.lst (vals es))→Row H es n→lz es→iQ H x m q n→bV H tw B nb→es.length≤900→n≤1500→nb≤3000→(∀i,i<es.length→mo es i<m)→(kv=.bC∨(0<es.length∧∃pk Kq,kv=.ref pk∧bV H pk Kq (3*n+nb+3)))→(es.length=0→kv=.bC→∀H',aq H H'→Q .bC H')→(0<es.length→∀(pg:ao) (G:Rat) (H':Hp),aq H H'→bV H' pg G (3*n+nb+3)→(∀pk Kq,kv=.ref pk→bV H pk Kq (3*n+nb+3)→G≤Kq)→(∀i,i<es.length→G≤dh es B m q i)→((∃i,i<es.length∧dh es B m q i=G)∨∃pk,kv=.ref pk∧bV H pk G (3*n+nb+3))→Q (.ref pg) H')→wU vs H Q E_
inductive Hu (C:ao) (vs:List V) (H:Hp) (Q:VK) (E_:XK):Prop where
 | mk (p L x:ao) (es:List En) (m:Int) (q B:Rat) (n nb:Nat):vs=[.ref p,.ref x]→uM C H p L es B n nb→iQ H x m q n→(∀i,i<es.length→mo es i<m)→es.length≤900→n≤1000→nb≤3000→0≤B→(∀(r:Bool) (H':Hp),aq (Q2 p L H) H'→(r=true↔Kl (es++[(x,m,some q)]) B)→uM C H' p L (if r=true then es++[(x,m,some q)] else es) B n nb→Q (.bl r) H')→Hu C vs H Q E_
inductive MS (C:ao) (vs:List V) (H:Hp) (Q:VK) (E_:XK):Prop where
 | mk (p L:ao) (es:List En) (B:Rat) (n nb:Nat):vs=[.ref p]→uM C H p L es B n nb→(∀(R:ao) (H':Hp),aq H H'→H R=none→H' R=some (.lst (vals es))→Q (.ref R) H')→MS C vs H Q E_
theorem Er (a:bV H p q n) (b:bV H p r m):q=r:=by
 obtain ⟨t,d,e,f,_⟩:=a
 obtain ⟨t',d',e',f',_⟩:=b
 rw [e] at e'
 cases e'
 have h1:=f.eq
 have h2:=f'.eq
 have hd:=dB (b:=d) (by have:=f.pos;try?)
 grind
section
theorem Am:aE ["self","bound"] ["self","bound"] (ah mY):=0#a
theorem Af (F:cH K "__init__" "Stretch.__init__" mY f fd) (aX:Cl K mg "Stretch" aM ["twice","samples","gentlest","steepest"]) (pZ:Dn P w K mg base 5 "plus" ["one","other"] (qB (·+·) 1)):bg P w K mg base cM 6 f fd ["self","bound"] (Cq aM):=by
 refine F.ok Am 0#e 0#b
 ·obtain ⟨p,dx,pb,β,n,rfl,_⟩:=h
  rfl
 obtain ⟨p,dx,pb,β,n,rfl,hp,hb,hn,k⟩:=h
 refine bD ⟨_,(au (iD K 0#m (b9 pZ hr 0#x 0#x)) (au (iD K 0#m (dP gc)) (au (iD K 0#m dW) (aG (iD K 0#m dW))))),?_⟩
 rw?
 refine ⟨pb,pb,β,β,n,n,rfl,hb,hb,by try?,fun tw H1 s1 f1=>?_⟩
 rw?
 have hp1:=s1 _ _ hp
 refine zo aX hp1 (by show 0<1000;decide) ?_
 rw?
 refine aF (mk:=.lst) 0#f fun L H2 s2 n2 e2=>?_
 have SA:L≠p:=fun z=>by
  rw [z,av] at n2
  cases n2
 have hp2:=s2 _ _ (av (H:=H1) (a:=p) (o:=.ins aM dx (aA "twice" (.ref tw) [])))
 rw?
 refine zo aX hp2 (by have:(aA "twice" (.ref tw) ([]:List (Str×V))).length=1:=rfl;try?) ?_
 rw?
 refine zo aX av (by
  have h3:=(Na.init tw L .bC .bC).len
  have l:∀(f:Str) (v:V) (fs:List (Str×V)),fs.length≤(aA f v fs).length:=by
   intro f v fs
   induction fs with
   | nil=>exact nH _
   | cons x r ih=>
     obtain ⟨g,y⟩:=x
     unfold aA
     split
     ·exact dm _
     ·exact C6 ih
  have l1:=l "steepest" .bC (aA "gentlest" .bC (aA "samples" (.ref L) (aA "twice" (.ref tw) [])))
  have l2:=l "gentlest" .bC (aA "samples" (.ref L) (aA "twice" (.ref tw) []))
  try?) ?_
 rw?
 refine zo aX av (by
  have h3:=(Na.init tw L .bC .bC).len
  have l:∀(f:Str) (v:V) (fs:List (Str×V)),fs.length≤(aA f v fs).length:=by
   intro f v fs
   induction fs with
   | nil=>exact nH _
   | cons x r ih=>
     obtain ⟨g,y⟩:=x
     unfold aA
     split
     ·exact dm _
     ·exact C6 ih
  have l1:=l "steepest" .bC (aA "gentlest" .bC (aA "samples" (.ref L) (aA "twice" (.ref tw) [])))
  try?) ?_
 rw?
 rw [qD,qD]
 have n0:H L=none:=by
  cases g:H L with
  | none=>rfl
  | some o=>
    have:=s1 _ _ g
    rw [aI SA,this] at n2
    cases n2
 have sH:aq (rm p H) (upd H2 p (.ins aM dx (aA "steepest" .bC (aA "gentlest" .bC (aA "samples" (.ref L) (aA "twice" (.ref tw) [])))))):=fun b o e=>by
  by_cases hb:b=p
  ·rw [hb] at e
   unfold rm at e
   rw [if_pos rfl] at e
   cases e
  ·rw [mW hb] at e
   rw [aI hb]
   refine s2 _ _ ?_
   rw [aI hb]
   exact s1 _ _ e
 have sH1:aq (rm p H1) (upd H2 p (.ins aM dx (aA "steepest" .bC (aA "gentlest" .bC (aA "samples" (.ref L) (aA "twice" (.ref tw) [])))))):=fun b o e=>by
  by_cases hb:b=p
  ·rw [hb] at e
   unfold rm at e
   rw [if_pos rfl] at e
   cases e
  ·rw [mW hb] at e
   rw [aI hb]
   refine s2 _ _ ?_
   rw [aI hb]
   exact e
 refine k L _ 0 sH n0 ⟨dx,tw,_,.bC,.bC,av,Na.init tw L .bC .bC,by rw [aI SA];exact e2,fun x hx=>absurd hx 0#f,fun x hx=>absurd hx 0#f,List.Pairwise.nil,?_,.inl ⟨by decide,rfl,rfl⟩⟩
 obtain ⟨t,d,e,ff,z1,z2⟩:=f1
 have etw:rm p H1 tw=some (.tup [.int t,.int d]):=by
  rw [mW (fun z=>by rw [z,hp1] at e;cases e)]
  exact e
 refine bV.mono (n:=2*n+1) ⟨t,d,sH1 _ _ etw,?_,z1,z2⟩ 0#d
 have V3:(2*β:Rat)=β+β:=by grind
 rw [V3]
 exact ff.qt
theorem j8:aE ["known","earlier","sample","twice","lowered","found"] ["known","earlier","sample","twice"] (ah lK):=0#a
theorem yh (F:cH K "gentlest_with" "gentlest_with" lK f fd) (T:Txt mg) (aZ:Dn P w K mg base 1 "loose_minus" ["one","other"] (jH (·-·) 1)) (fP:Dn P w K mg base 3 "loose_slope" ["one","other"] tP) (jS:Dn P w K mg base 2 "greatest" ["quotients"] AV) :
 bg P w K mg base cM 4 f fd ["known","earlier","sample","twice"] sD:=by
 refine F.ok j8 0#e 0#b
 ·obtain ⟨kv,l,x,tw,es,m,q,B,n,nb,rfl,_⟩:=h
  rfl
 obtain ⟨kv,l,x,tw,es,m,q,B,n,nb,rfl,hl,hR,hS,hx,htw,qS,hn,hnb,hm,hkv,k0,k1⟩:=h
 obtain ⟨vx,ex,fx,zm⟩:=hx
 refine bD ⟨_,(au (nO (i:=4) j8.nd rfl (Or.inr rfl) (bR (bT (aK K (aa 2)) (b9 aZ hr (aK K (aa 2)) (aa 3)))) (hs:=ad0)) (au (Jd.kF (O:=["one"]) (N':=["lowered"]) (cap:=[4]) (i:=5) j8.nd rfl 0#n rfl (gU K 0#x) (fun _ _ _ _ _=>(bQ (i:=0) (show iN [("one":Str),("lowered":Str)] by decide +kernel) rfl 0#n)) (fun _ _ _ _ _=>jn) (fun _ _ _ _ _=>(d9 fP 0#A rfl (bX 0#m (bX 0#x gc aP) aP) (he:=aP) (hpl:=(bB aP bS)))) rfl 0#u rfl 0#g rfl 0#g (by rfl)) (au (bK (bh iY 0#m dW (aD _)) (aG (gE (d7 K (aa 5) 0#m) (hs:=fL))) bW) (aG (aR (Jd.rR (bh cY (cR K T.gA (aa 5)) aB (aD _)) (Jd.c1 jS hr (aa 5)) dW)))))),?_⟩
 rw?
 refine ⟨vx,tw,q,B,n,nb,rfl,fx.qt,htw,by try?,fun y1 H1 s1 f1=>?_⟩
 rw?
 refine aF (mk:=.tup) 0#f fun lo H2 s2 n2 e2=>?_
 have eB:=s1.trans s2
 have flo:XR H2 lo m (q-B) (n+nb+1) n:=⟨y1,e2,f1.up s2,zm⟩
 rw?
 refine gV ?_
 rw?
 refine ⟨l,rfl,⟨_,aW.of (eB _ _ hl)⟩,?_⟩
 refine bY (xs:=vals es) bL (fun H3 s3=>aW.of (s3 _ _ (eB _ _ hl))) (by rw [aS];try?) (fun i ys G=>∃rs:Qs,ys=c9 rs∧EY G rs (3*n+nb+3)∧rs.map (·.2)=(kq i).map (fun j=>dh es (-B) m q j)) ⟨[],rfl,fun z hz=>absurd hz 0#f,rfl⟩ ?_ ?_
 ·rintro D i v ys H3 ly N N0 h0 hD eD s3 hv hy ⟨rs,rfl,hrs,hmap⟩ kY kN
  obtain ⟨e,he,rfl⟩:=i8 hv
  have hi:i<es.length:=(fZ.mp he).1
  obtain ⟨xi,gi,fi⟩:=dc (hR.up (eB.trans s3)) hS hi
  rw [he] at gi
  cases gi
  refine dG h0 ?_
  rw?
  refine bJ ?_
  rw?
  refine ⟨e.1,lo,_,_,_,_,n,n+nb+1,n,rfl,fi.saq,flo.up s3,hm i hi,by try?,fun z H4 s4 f4=>?_⟩
  refine kY _ H4 s4 ⟨rs++[(z,dh es (-B) m q i)],by simp [c9],fun u hu=>?_,?_⟩
  ·rcases dH.mp hu with w | w
   ·exact (hrs u w).up (wD s4)
   ·obtain rfl:u=(z,dh es (-B) m q i):=by simpa using w
    obtain ⟨t,d,e',ff⟩:=f4.mono (show n+(n+nb+1)+n+2≤3*n+nb+3 by try?)
    refine ⟨t,d,ja (s4 _ _ eD) e',?_⟩
    have eq:(q-B-wo es i)/((m:Rat)-(mo es i:Rat))=dh es (-B) m q i:=by
     unfold dh
     rw [show q+-B-wo es i=q-B-wo es i by grind]
    rw [← eq]
    exact ff
  ·rw [ju,hmap,uy,ju]
   rfl
 ·rintro D ys H3 hD eD s3 hy ⟨rs,rfl,hrs,hmap⟩
  rw [aS] at hmap
  have Lp:EY H3 rs (3*n+nb+3):=fun u hu=>(hrs u hu).up iZ
  have xH:=eB.trans s3
  have hlen:rs.length=es.length:=by
   have:=congrArg nE hmap
   simpa using this
  have inR:∀i,i<es.length→∃u∈rs,u.2=dh es (-B) m q i:=fun i hi=>by
   have:dh es (-B) m q i∈rs.map (·.2):=by rw [hmap];exact eU.mpr ⟨i,xD.mpr hi,rfl⟩
   obtain ⟨u,hu,e⟩:=eU.mp this
   exact ⟨u,hu,e⟩
  have ofR:∀u∈rs,∃i,i<es.length∧dh es (-B) m q i=u.2:=fun u hu=>by
   have:u.2∈rs.map (·.2):=eU.mpr ⟨u,hu,rfl⟩
   rw [hmap] at this
   obtain ⟨i,hi,e⟩:=eU.mp this
   exact ⟨i,xD.mp hi,e⟩
  rw?
  rcases hkv with rfl | ⟨hpos,pk,Kq,rfl,hK⟩
  ·refine ⟨rfl,?_⟩
   rw?
   refine bE ?_
   rw?
   refine cE (.inl (aW.of eD)) ?_
   rw?
   refine cu (fun c=>?_) (fun c=>?_)
   ·have c':=c6 c
    have hpos:0<rs.length:=by
     have e:(c9 rs).length=rs.length:=eV ..
     rw [e] at c'
     try?
    rw?
    refine ⟨D,rs,3*n+nb+3,rfl,eD,Lp,by try?,hpos,fun u hu Bp=>?_⟩
    rw?
    refine k1 0#d u.1 u.2 H3 xH (Lp u hu) (fun pk Kq e=>by cases e) (fun i hi=>?_) (.inl (ofR u hu))
    obtain ⟨z,hz,e⟩:=inR i hi
    rw [← e]
    exact Bp z hz
   ·have c':=jw (iU.mpr c)
    rw?
    refine k0 ?_ rfl H3 xH
    have e:(c9 rs).length=rs.length:=eV ..
    rw [e] at c'
    try?
  ·refine ⟨rfl,?_⟩
   rw?
   refine bJ ?_
   rw?
   refine ⟨.inl ⟨rfl,_,aW.of eD⟩,?_⟩
   rw?
   have e:(c9 rs).length=rs.length:=eV ..
   refine cZ eD (by rw [e];exact aO 0#d) ?_
   have e4:upd H3 D (.lst (c9 rs++[.ref pk])) D=some (.lst (c9 (rs++[(pk,Kq)]))):=by rw [av];simp [c9]
   have hK3:=hK.up xH
   generalize hG:upd H3 D (.lst (c9 rs++[.ref pk]))=H4 at *
   have yr:aq H2 H4:=by rw [← hG];exact bw s3 hD
   have hq4:EY H4 (rs++[(pk,Kq)]) (3*n+nb+3):=fun u hu=>by
    rcases dH.mp hu with w | w
    ·rw [← hG];exact (Lp u w).app eD
    ·obtain rfl:u=(pk,Kq):=by simpa using w
     rw [← hG];exact hK3.app eD
   rw?
   refine cE (.inl (aW.of e4)) ?_
   rw?
   have e':(c9 (rs++[(pk,Kq)])).length=rs.length+1:=by simp [c9]
   rw [e',show decide ((((rs.length+1:Nat):Int))>0)=true from dz 0#d]
   refine bJ ?_
   rw?
   refine ⟨D,rs++[(pk,Kq)],3*n+nb+3,rfl,e4,hq4,by try?,by simp,fun u hu Bp=>?_⟩
   rw?
   refine k1 hpos u.1 u.2 H4 (eB.trans yr) (hq4 u hu) (fun pk' Kq' e1 q1=>?_) (fun i hi=>?_) ?_
   ·cases e1
    rw [Er q1 hK]
    exact Bp (pk,Kq) 0#f
   ·obtain ⟨z,hz,e1⟩:=inR i hi
    rw [← e1]
    exact Bp z (JV _ hz)
   ·rcases dH.mp hu with w | w
    ·exact .inl (ofR u w)
    ·obtain rfl:u=(pk,Kq):=by simpa using w
     exact .inr ⟨pk,rfl,hK⟩
theorem j9:aE ["known","earlier","sample","twice","raised","found"] ["known","earlier","sample","twice"] (ah lO):=0#a
theorem yk (F:cH K "steepest_with" "steepest_with" lO f fd) (T:Txt mg) (bP:Dn P w K mg base 1 "loose_plus" ["one","other"] (jH (·+·) 1)) (fP:Dn P w K mg base 3 "loose_slope" ["one","other"] tP) (uL:Dn P w K mg base 2 "smallest" ["quotients"] Hq) :
 bg P w K mg base cM 4 f fd ["known","earlier","sample","twice"] wU:=by
 refine F.ok j9 0#e 0#b
 ·obtain ⟨kv,l,x,tw,es,m,q,B,n,nb,rfl,_⟩:=h
  rfl
 obtain ⟨kv,l,x,tw,es,m,q,B,n,nb,rfl,hl,hR,hS,hx,htw,qS,hn,hnb,hm,hkv,k0,k1⟩:=h
 obtain ⟨vx,ex,fx,zm⟩:=hx
 refine bD ⟨_,(au (nO (i:=4) j9.nd rfl (Or.inr rfl) (bR (bT (aK K (aa 2)) (b9 bP hr (aK K (aa 2)) (aa 3)))) (hs:=ad0)) (au (Jd.kF (O:=["one"]) (N':=["raised"]) (cap:=[4]) (i:=5) j9.nd rfl 0#n rfl (gU K 0#x) (fun _ _ _ _ _=>(bQ (i:=0) (show iN [("one":Str),("raised":Str)] by decide +kernel) rfl 0#n)) (fun _ _ _ _ _=>jn) (fun _ _ _ _ _=>(d9 fP 0#A rfl (bX 0#m (bX 0#x gc aP) aP) (he:=aP) (hpl:=(bB aP bS)))) rfl 0#u rfl 0#g rfl 0#g (by rfl)) (au (bK (bh iY 0#m dW (aD _)) (aG (gE (d7 K (aa 5) 0#m) (hs:=fL))) bW) (aG (aR (Jd.rR (bh cY (cR K T.gA (aa 5)) aB (aD _)) (Jd.c1 uL hr (aa 5)) dW)))))),?_⟩
 rw?
 refine ⟨vx,tw,q,B,n,nb,rfl,fx.qt,htw,by try?,fun y1 H1 s1 f1=>?_⟩
 rw?
 refine aF (mk:=.tup) 0#f fun lo H2 s2 n2 e2=>?_
 have eB:=s1.trans s2
 have flo:XR H2 lo m (q+B) (n+nb+1) n:=⟨y1,e2,f1.up s2,zm⟩
 rw?
 refine gV ?_
 rw?
 refine ⟨l,rfl,⟨_,aW.of (eB _ _ hl)⟩,?_⟩
 refine bY (xs:=vals es) bL (fun H3 s3=>aW.of (s3 _ _ (eB _ _ hl))) (by rw [aS];try?) (fun i ys G=>∃rs:Qs,ys=c9 rs∧EY G rs (3*n+nb+3)∧rs.map (·.2)=(kq i).map (fun j=>dh es B m q j)) ⟨[],rfl,fun z hz=>absurd hz 0#f,rfl⟩ ?_ ?_
 ·rintro D i v ys H3 ly N N0 h0 hD eD s3 hv hy ⟨rs,rfl,hrs,hmap⟩ kY kN
  obtain ⟨e,he,rfl⟩:=i8 hv
  have hi:i<es.length:=(fZ.mp he).1
  obtain ⟨xi,gi,fi⟩:=dc (hR.up (eB.trans s3)) hS hi
  rw [he] at gi
  cases gi
  refine dG h0 ?_
  rw?
  refine bJ ?_
  rw?
  refine ⟨e.1,lo,_,_,_,_,n,n+nb+1,n,rfl,fi.saq,flo.up s3,hm i hi,by try?,fun z H4 s4 f4=>?_⟩
  refine kY _ H4 s4 ⟨rs++[(z,dh es B m q i)],by simp [c9],fun u hu=>?_,?_⟩
  ·rcases dH.mp hu with w | w
   ·exact (hrs u w).up (wD s4)
   ·obtain rfl:u=(z,dh es B m q i):=by simpa using w
    obtain ⟨t,d,e',ff⟩:=f4.mono (show n+(n+nb+1)+n+2≤3*n+nb+3 by try?)
    refine ⟨t,d,ja (s4 _ _ eD) e',?_⟩
    have eq:(q+B-wo es i)/((m:Rat)-(mo es i:Rat))=dh es B m q i:=by
     rfl
    rw [← eq]
    exact ff
  ·rw [ju,hmap,uy,ju]
   rfl
 ·rintro D ys H3 hD eD s3 hy ⟨rs,rfl,hrs,hmap⟩
  rw [aS] at hmap
  have Lp:EY H3 rs (3*n+nb+3):=fun u hu=>(hrs u hu).up iZ
  have xH:=eB.trans s3
  have hlen:rs.length=es.length:=by
   have:=congrArg nE hmap
   simpa using this
  have inR:∀i,i<es.length→∃u∈rs,u.2=dh es B m q i:=fun i hi=>by
   have:dh es B m q i∈rs.map (·.2):=by rw [hmap];exact eU.mpr ⟨i,xD.mpr hi,rfl⟩
   obtain ⟨u,hu,e⟩:=eU.mp this
   exact ⟨u,hu,e⟩
  have ofR:∀u∈rs,∃i,i<es.length∧dh es B m q i=u.2:=fun u hu=>by
   have:u.2∈rs.map (·.2):=eU.mpr ⟨u,hu,rfl⟩
   rw [hmap] at this
   obtain ⟨i,hi,e⟩:=eU.mp this
   exact ⟨i,xD.mp hi,e⟩
  rw?
  rcases hkv with rfl | ⟨hpos,pk,Kq,rfl,hK⟩
  ·refine ⟨rfl,?_⟩
   rw?
   refine bE ?_
   rw?
   refine cE (.inl (aW.of eD)) ?_
   rw?
   refine cu (fun c=>?_) (fun c=>?_)
   ·have c':=c6 c
    have hpos:0<rs.length:=by
     have e:(c9 rs).length=rs.length:=eV ..
     rw [e] at c'
     try?
    rw?
    refine ⟨D,rs,3*n+nb+3,rfl,eD,Lp,by try?,hpos,fun u hu Bp=>?_⟩
    rw?
    refine k1 0#d u.1 u.2 H3 xH (Lp u hu) (fun pk Kq e=>by cases e) (fun i hi=>?_) (.inl (ofR u hu))
    obtain ⟨z,hz,e⟩:=inR i hi
    rw [← e]
    exact Bp z hz
   ·have c':=jw (iU.mpr c)
    rw?
    refine k0 ?_ rfl H3 xH
    have e:(c9 rs).length=rs.length:=eV ..
    rw [e] at c'
    try?
  ·refine ⟨rfl,?_⟩
   rw?
   refine bJ ?_
   rw?
   refine ⟨.inl ⟨rfl,_,aW.of eD⟩,?_⟩
   rw?
   have e:(c9 rs).length=rs.length:=eV ..
   refine cZ eD (by rw [e];exact aO 0#d) ?_
   have e4:upd H3 D (.lst (c9 rs++[.ref pk])) D=some (.lst (c9 (rs++[(pk,Kq)]))):=by rw [av];simp [c9]
   have hK3:=hK.up xH
   generalize hG:upd H3 D (.lst (c9 rs++[.ref pk]))=H4 at *
   have yr:aq H2 H4:=by rw [← hG];exact bw s3 hD
   have hq4:EY H4 (rs++[(pk,Kq)]) (3*n+nb+3):=fun u hu=>by
    rcases dH.mp hu with w | w
    ·rw [← hG];exact (Lp u w).app eD
    ·obtain rfl:u=(pk,Kq):=by simpa using w
     rw [← hG];exact hK3.app eD
   rw?
   refine cE (.inl (aW.of e4)) ?_
   rw?
   have e':(c9 (rs++[(pk,Kq)])).length=rs.length+1:=by simp [c9]
   rw [e',show decide ((((rs.length+1:Nat):Int))>0)=true from dz 0#d]
   refine bJ ?_
   rw?
   refine ⟨D,rs++[(pk,Kq)],3*n+nb+3,rfl,e4,hq4,by try?,by simp,fun u hu Bp=>?_⟩
   rw?
   refine k1 hpos u.1 u.2 H4 (eB.trans yr) (hq4 u hu) (fun pk' Kq' e1 q1=>?_) (fun i hi=>?_) ?_
   ·cases e1
    rw [Er q1 hK]
    exact Bp (pk,Kq) 0#f
   ·obtain ⟨z,hz,e1⟩:=inR i hi
    rw [← e1]
    exact Bp z (JV _ hz)
   ·rcases dH.mp hu with w | w
    ·exact .inl (ofR u w)
    ·obtain rfl:u=(pk,Kq):=by simpa using w
     exact .inr ⟨pk,rfl,hK⟩
theorem kD (h:i<es.length):mo (es++fs) i=mo es i:=by unfold mo;rw [kZ h]
theorem kM (h:i<es.length):wo (es++fs) i=wo es i:=by unfold wo;rw [kZ h]
theorem FU {es:List En}:mo (es++[(a,m,some q)]) es.length=m:=by unfold mo;simp
theorem HC {es:List En}:wo (es++[(a,m,some q)]) es.length=q:=by unfold wo;simp
section
theorem pC (hij:i<j) (hj:j<es.length):pB (es++[(a,m,some q)]) B i j=pB es B i j:=by
 unfold pB
 rw [kD hj,kM hj,kD 0#d,kM 0#d]
theorem mF (hij:i<j) (hj:j<es.length):lR (es++[(a,m,some q)]) B i j=lR es B i j:=by
 unfold lR
 rw [kD hj,kM hj,kD 0#d,kM 0#d]
theorem AL (hi:i<es.length):pB (es++[(a,m,some q)]) B i es.length=dh es (-B) m q i:=by
 unfold pB dh
 rw [FU,HC,kD hi,kM hi,show q+-B=q-B by grind]
theorem vR (hi:i<es.length):lR (es++[(a,m,some q)]) B i es.length=dh es B m q i:=by
 unfold lR dh
 rw [FU,HC,kD hi,kM hi]
theorem Ww (h0:0<es.length) (h1:2≤es.length→∃G0,IsG es B G0∧G0≤G) (hall:∀i,i<es.length→dh es (-B) m q i≤G) (hex:(∃i,i<es.length∧dh es (-B) m q i=G)∨(2≤es.length∧IsG es B G)):IsG (es++[(a,m,some q)]) B G:=by
 refine ⟨fun i j hij hj=>?_,?_⟩
 ·rw [cJ] at hj
  have hj':j<es.length+1:=hj
  by_cases e:j=es.length
  ·subst e
   rw [AL hij]
   exact hall i hij
  ·rw [pC hij 0#d]
   obtain ⟨G0,g,le⟩:=h1 0#d
   have:=g.1 i j hij 0#d
   grind
 ·rcases hex with ⟨i,hi,e⟩ | ⟨h2,g⟩
  ·exact ⟨i,es.length,hi,by rw [cJ];show _<es.length+1;try?,by rw [AL hi];exact e⟩
  ·obtain ⟨i,j,a1,a2,a3⟩:=g.2
   exact ⟨i,j,a1,by rw [cJ];show _<es.length+1;try?,by rw [pC a1 a2];exact a3⟩
theorem Wx (h0:0<es.length) (h1:2≤es.length→∃S0,IsS es B S0∧S≤S0) (hall:∀i,i<es.length→S≤dh es B m q i) (hex:(∃i,i<es.length∧dh es B m q i=S)∨(2≤es.length∧IsS es B S)):IsS (es++[(a,m,some q)]) B S:=by
 refine ⟨fun i j hij hj=>?_,?_⟩
 ·rw [cJ] at hj
  have hj':j<es.length+1:=hj
  by_cases e:j=es.length
  ·subst e
   rw [vR hij]
   exact hall i hij
  ·rw [mF hij 0#d]
   obtain ⟨S0,g,le⟩:=h1 0#d
   have:=g.1 i j hij 0#d
   grind
 ·rcases hex with ⟨i,hi,e⟩ | ⟨h2,g⟩
  ·exact ⟨i,es.length,hi,by rw [cJ];show _<es.length+1;try?,by rw [vR hi];exact e⟩
  ·obtain ⟨i,j,a1,a2,a3⟩:=g.2
   exact ⟨i,j,a1,by rw [cJ];show _<es.length+1;try?,by rw [mF a1 a2];exact a3⟩
theorem BY (h:rising es) (hm:∀i,i<es.length→mo es i<m):rising (es++[(a,m,some q)]):=by
 refine YV.mpr ⟨h,Yz _ _,fun x hx y hy=>?_⟩
 obtain rfl:y=(a,m,some q):=by simpa using hy
 obtain ⟨i,hi,rfl⟩:=UG hx
 have:=hm i hi
 unfold mo at this
 rw [je hi] at this
 exact this
theorem oX (h:lz es):lz (es++[(a,m,some q)]):=fun x hx=>by
 rcases dH.mp hx with z | z
 ·exact h x z
 ·obtain rfl:x=(a,m,some q):=by simpa using z
  rfl
end
theorem X8 (s:aq H H2):aq (Q2 p L H) (upd (upd (upd H2 p o1) p o2) L o3):=fun b o e=>by
 unfold Q2 rm at e
 by_cases h1:b=p
 ·rw [if_pos h1] at e;cases e
 ·rw [if_neg h1] at e
  by_cases h2:b=L
  ·rw [if_pos h2] at e;cases e
  ·rw [if_neg h2] at e
   rw [aI h2,aI h1,aI h1]
   exact s _ _ e
theorem j7:aE ["self","sample","gentlest","steepest"] ["self","sample"] (ah lI):=0#a
theorem yf (F:cH K "takes" "Stretch.takes" lI f fd) (T:Txt mg) (aX:Cl K mg "Stretch" aM ["twice","samples","gentlest","steepest"]) (cC:Dn P w K mg base 4 "gentlest_with" ["known","earlier","sample","twice"] sD) (cD:Dn P w K mg base 4 "steepest_with" ["known","earlier","sample","twice"] wU)
 (dR:Dn P w K mg base 1 "order" ["one","other"] kX):bg P w K mg base cM 5 f fd ["self","sample"] (Hu aM):=by
 refine F.ok j7 0#e 0#b
 ·obtain ⟨p,L,x,es,m,q,B,n,nb,rfl,_⟩:=h
  rfl
 obtain ⟨p,L,x,es,m,q,B,n,nb,rfl,hSt,hx,hm,qS,hn,hnb,hB,k⟩:=h
 obtain ⟨dx,tw,fs,g,s',ep,hF,eL,hR,hS,cK,htw,hI⟩:=id hSt
 have SA:L≠p:=fun z=>by rw [z,ep] at eL;cases eL
 have fl:=hF.len
  -- the sample is taken: the two slopes stand at gv, sv
 have take:∀(gv sv:V) (H2:Hp),aq H H2→Kl (es++[(x,m,some q)]) B →
  ((es.length=0∧gv=.bC∧sv=.bC)∨(0<es.length∧∃(pg ps:ao) (G S:Rat),gv=.ref pg∧sv=.ref ps∧bV H2 pg G (3*n+nb+3)∧bV H2 ps S (3*n+nb+3)∧IsG (es++[(x,m,some q)]) B G∧IsS (es++[(x,m,some q)]) B S∧G≤S)) →
  Q (.bl true) (upd (upd (upd H2 p (.ins aM dx (aA "gentlest" gv fs))) p (.ins aM dx (aA "steepest" sv (aA "gentlest" gv fs)))) L (.lst (vals es++[.ref x]))):=by
  intro gv sv H2 s2 hfit acR
  have QU:=s2 _ _ ep
  have eL2:=s2 _ _ eL
  have k3:=X8 (p:=p) (L:=L) (o1:=.ins aM dx (aA "gentlest" gv fs)) (o2:=.ins aM dx (aA "steepest" sv (aA "gentlest" gv fs))) (o3:=.lst (vals es++[.ref x])) (aq.refl H2)
  refine k true _ (X8 s2) ⟨fun _=>hfit,fun _=>rfl⟩ ?_
  rw [if_pos rfl]
  refine ⟨dx,tw,_,gv,sv,by rw [aI (eG SA),av],hF.setG.ab1,by rw [av];exact congrArg (fun z=>some (HO.lst z)) (gQ es (x,m,some q)),?_,oX hS,BY cK hm,((htw.up s2).out QU eL2).up k3,?_⟩
  ·exact Row.up ((Row.out QU eL2 (hR.up s2)).snoc (mO.out QU eL2 (hx.up s2).en)) k3
  ·rw [cJ]
   rcases acR with ⟨h0,e1,e2⟩ | ⟨h0,pg,ps,G,S,e1,e2,q1,q2,g1,g2,g3⟩
   ·exact .inl ⟨by show es.length+1<2;try?,e1,e2⟩
   ·exact .inr ⟨by show 2≤es.length+1;try?,pg,ps,G,S,e1,e2,(q1.out QU eL2).up k3,(q2.out QU eL2).up k3,g1,g2,g3⟩
 refine bD ⟨_,(au (aN 2 j7.nd (d9 cC 0#A rfl (Jd.a4 (eN K 0#m) (eN K 0#m) 0#x (eN K 0#m)) (he:=(by rfl)) (hpl:=(bB (by rfl) (bB aP (bB (by rfl) bS)))))) (au (aN 3 j7.nd (d9 cD 0#A rfl (Jd.a4 (eN K 0#m) (eN K 0#m) 0#x (eN K 0#m)) (he:=(by rfl)) (hpl:=(bB (by rfl) (bB aP (bB (by rfl) bS)))))) (au (bK (jR (Jd.mV (bh cY (cR K T.gA (eN K 0#m)) aB (aD _)) (Jd.kH (bh cY (b9 dR hr (aa 2) (aa 3)) aB (aD _))))) (aG (aR lT)) bW) (au (iD K 0#m (aa 2)) (au (iD K 0#m (aa 3)) (au (gE (d7 K (eN K 0#m) 0#x) (hs:=fL)) (aG (aR lT)))))))),?_⟩
 rw?
 refine jM aX ep hF.g ?_
 rw?
 refine jM aX ep hF.sl ?_
 rw?
 refine jM aX ep hF.tw ?_
 rw?
 refine ⟨g,L,x,tw,es,m,q,B,n,nb,rfl,eL,hR,hS,hx,htw,qS,dI hn 0#h,dI hnb 0#h,hm,?_,fun h0 hg H1 s1=>?_,fun hpos pg G H1 s1 f1 hK hall hex=>?_⟩
 ·rcases hI with ⟨_,z,_⟩ | ⟨z,pg,ps,G,S,e1,_,q1,_⟩
  ·exact .inl z
  ·exact .inr ⟨by try?,pg,G,e1,q1⟩
 ·have ep1:=s1 _ _ ep
  have hs':s'=.bC:=by
   rcases hI with ⟨_,_,z⟩ | ⟨z,_⟩
   ·exact z
   ·try?
  rw?
  refine jM aX ep1 hF.s ?_
  rw?
  refine jM aX ep1 hF.sl ?_
  rw?
  refine jM aX ep1 hF.tw ?_
  rw?
  refine ⟨s',L,x,tw,es,m,q,B,n,nb,rfl,s1 _ _ eL,hR.up s1,hS,hx.up s1,htw.up s1,qS,dI hn 0#h,dI hnb 0#h,hm,.inl hs',fun _ _ H2 s2=>?_,fun hpos=>absurd hpos 0#d⟩
  have eB:=s1.trans s2
  have QU:=eB _ _ ep
  rw?
  refine jM aX QU hF.sl ?_
  rw?
  refine cE (.inl (aW.of (eB _ _ eL))) ?_
  rw [aS]
  rw?
  rw [show decide (((es.length:Nat):Int)>0)=false from gJ 0#d]
  refine bE ?_
  refine bE ?_
  rw?
  refine zo aX QU 0#d ?_
  rw?
  refine zo aX av (by rw [fU hF.g];try?) ?_
  rw?
  refine jM aX av hF.setG.ab1.sl ?_
  rw?
  have Fj:upd (upd H2 p (.ins aM dx (aA "gentlest" .bC fs))) p (.ins aM dx (aA "steepest" .bC (aA "gentlest" .bC fs))) L=some (.lst (vals es)):=by
   rw [aI SA,aI SA]
   exact eB _ _ eL
  refine ⟨.inl ⟨rfl,_,aW.of Fj⟩,?_⟩
  rw?
  refine cZ Fj (by rw [aS];exact aO 0#d) ?_
  rw?
  refine take .bC .bC H2 eB (fun i j k l a1 a2 b1 b2=>?_) (.inl ⟨h0,rfl,rfl⟩)
  rw [cJ,h0] at a2
  have a2':j<0+1:=a2
  try?
 ·have ep1:=s1 _ _ ep
  rw?
  refine jM aX ep1 hF.s ?_
  rw?
  refine jM aX ep1 hF.sl ?_
  rw?
  refine jM aX ep1 hF.tw ?_
  rw?
  refine ⟨s',L,x,tw,es,m,q,B,n,nb,rfl,s1 _ _ eL,hR.up s1,hS,hx.up s1,htw.up s1,qS,dI hn 0#h,dI hnb 0#h,hm,?_,fun h0=>absurd h0 0#d,fun _ ps S H2 s2 f2 hK2 RV hex2=>?_⟩
  ·rcases hI with ⟨_,_,z⟩ | ⟨z,pg,ps,G,S,_,e1,_,q1,_⟩
   ·exact .inl z
   ·exact .inr ⟨by try?,ps,S,e1,q1.up s1⟩
  have eB:=s1.trans s2
  have QU:=eB _ _ ep
  have gG:IsG (es++[(x,m,some q)]) B G:=by
   refine Ww hpos (fun h2=>?_) hall ?_
   ·rcases hI with ⟨z,_⟩ | ⟨_,pg0,ps0,G0,S0,e1,e2,q1,q2,g1,g2,g3⟩
    ·try?
    ·exact ⟨G0,g1,hK pg0 G0 e1 q1⟩
   ·rcases hex with z | ⟨pk,e,qk⟩
    ·exact .inl z
    ·rcases hI with ⟨_,z,_⟩ | ⟨z,pg0,ps0,G0,S0,e1,e2,q1,q2,g1,g2,g3⟩
     ·rw [z] at e;cases e
     ·rw [e1] at e
      cases e
      rw [Er qk q1]
      exact .inr ⟨z,g1⟩
  have gS:IsS (es++[(x,m,some q)]) B S:=by
   refine Wx hpos (fun h2=>?_) RV ?_
   ·rcases hI with ⟨z,_⟩ | ⟨_,pg0,ps0,G0,S0,e1,e2,q1,q2,g1,g2,g3⟩
    ·try?
    ·exact ⟨S0,g2,hK2 ps0 S0 e2 (q2.up s1)⟩
   ·rcases hex2 with z | ⟨pk,e,qk⟩
    ·exact .inl z
    ·rcases hI with ⟨_,_,z⟩ | ⟨z,pg0,ps0,G0,S0,e1,e2,q1,q2,g1,g2,g3⟩
     ·rw [z] at e;cases e
     ·rw [e2] at e
      cases e
      rw [Er qk (q2.up s1)]
      exact .inr ⟨z,g2⟩
  have fit:=Nx gG gS
  rw?
  refine jM aX QU hF.sl ?_
  rw?
  refine cE (.inl (aW.of (eB _ _ eL))) ?_
  rw [aS]
  rw?
  rw [show decide (((es.length:Nat):Int)>0)=true from dz 0#d]
  refine bJ ?_
  rw?
  refine ⟨pg,ps,G,S,_,_,rfl,f1.up s2,f2,by try?,fun o ho1 ho2=>?_⟩
  rw?
  refine cu (fun c=>?_) (fun c=>?_)
  ·have c':S<G:=ho1.mp (c6 c)
   rw?
   refine k false H2 (fun b o e=>eB _ _ (Tt _ _ e)) ⟨fun z=>absurd z 0#h,fun z=>?_⟩ ?_
   ·have:=fit.mp z
    grind
   ·rw [if_neg eO]
    exact hSt.up eB
  ·have c':G≤S:=lu.mp fun z=>jw (iU.mpr c) (ho1.mpr z)
   rw?
   refine zo aX QU 0#d ?_
   rw?
   refine zo aX av (by rw [fU hF.g];try?) ?_
   rw?
   refine jM aX av hF.setG.ab1.sl ?_
   rw?
   have Fj:upd (upd H2 p (.ins aM dx (aA "gentlest" (.ref pg) fs))) p (.ins aM dx (aA "steepest" (.ref ps) (aA "gentlest" (.ref pg) fs))) L=some (.lst (vals es)):=by
    rw [aI SA,aI SA]
    exact eB _ _ eL
   refine ⟨.inl ⟨rfl,_,aW.of Fj⟩,?_⟩
   rw?
   refine cZ Fj (by rw [aS];exact aO 0#d) ?_
   rw?
   exact take (.ref pg) (.ref ps) H2 eB (fit.mpr c') (.inr ⟨hpos,pg,ps,G,S,rfl,rfl,f1.up s2,f2,gG,gS,c'⟩)
theorem An:aE ["self"] ["self"] (ah mZ):=0#a
theorem Ag (F:cH K "kept" "Stretch.kept" mZ f fd) (T:Txt mg) (aX:Cl K mg "Stretch" aM ["twice","samples","gentlest","steepest"]):bg P w K mg base cM 1 f fd ["self"] (MS aM):=by
 refine F.ok An 0#e 0#b
 ·obtain ⟨p,L,es,B,n,nb,rfl,_⟩:=h
  rfl
 obtain ⟨p,L,es,B,n,nb,rfl,⟨dx,tw,fs,g,s',ep,hF,eL,_⟩,k⟩:=h
 refine bD ⟨_,(aG (aR (Bs qe rfl T.Sn Uu (cO (eN K 0#m))))),?_⟩
 rw?
 refine jM aX ep hF.sl ?_
 rw?
 exact ⟨L,_,rfl,.inl (aW.of eL),fun R nR=>k R _ (fW nR _) nR av⟩
end
theorem uM.fresh (h:uM C H p L [] B n nb) (hn:nb≤nb'):uM C H p L [] B n' nb':=by
 obtain ⟨dx',tw,fs,g,s',h1,h2,h3,h4,h5,h6,h7,h8⟩:=h
 refine ⟨dx',tw,fs,g,s',h1,h2,h3,fun x hx=>absurd hx 0#f,h5,h6,h7.mono hn,?_⟩
 rcases h8 with z | ⟨z,_⟩
 ·exact .inl z
 ·exact absurd z 0#h
theorem uM.fit (h:uM C H p L es B n nb):Kl es B:=by
 obtain ⟨dx,tw,fs,g,s',h1,h2,h3,h4,h5,h6,h7,h8⟩:=h
 rcases h8 with ⟨z,_⟩ | ⟨z,pg,ps,G,S,e1,e2,q1,q2,g1,g2,g3⟩
 ·intro i j k l a1 a2 b1 b2
  try?
 ·exact (Nx g1 g2).mpr g3
def piece (es:List En) (n m:Nat):List En:=(es.drop n).take (m-n)
def Cut (es:List En) (B:Rat) (qs:List (List En)) (n:Nat):Prop:=∃pos:Nat→Nat,pos 0=0∧pos qs.length=n∧∀i q,qs[i]?=some q→pos i<pos (i+1)∧pos (i+1)≤es.length∧q=piece es (pos i) (pos (i+1))∧Kl q B∧(pos (i+1)<es.length→¬Kl (piece es (pos i) (pos (i+1)+1)) B)
theorem Cut.nil:Cut es B [] 0:=⟨fun _=>0,rfl,rfl,fun i q h=>by simp at h⟩
theorem Cut.snoc (h:Cut es B qs n) (h1:n<n') (h2:n'≤es.length) (hf:Kl (piece es n n') B) (hn:n'<es.length→¬Kl (piece es n (n'+1)) B):Cut es B (qs++[piece es n n']) n':=by
 obtain ⟨pos,p0,pn,h⟩:=h
 refine ⟨fun j=>if j≤qs.length then pos j else n',?_,?_,fun i q hi=>?_⟩
 ·show (if 0≤qs.length then pos 0 else n')=0
  rw [if_pos (nH _)]
  exact p0
 ·show (if (qs++[piece es n n']).length≤qs.length then pos (qs++[piece es n n']).length else n')=n'
  rw [if_neg (by rw [cJ];show ¬qs.length+1≤qs.length;try?)]
 ·by_cases hi':i<qs.length
  ·rw [kZ hi'] at hi
   simp only [if_pos (show i≤qs.length by try?),if_pos (show i+1≤qs.length by try?)]
   exact h i q hi
  ·have hi2:=(fZ.mp hi).1
   rw [cJ] at hi2
   have hi3:i<qs.length+1:=hi2
   obtain rfl:i=qs.length:=by try?
   rw [pR (dm _),CU] at hi
   obtain rfl:piece es n n'=q:=by simpa using hi
   simp only [if_pos (dm _),if_neg (show ¬qs.length+1≤qs.length by try?),pn]
   exact ⟨h1,h2,trivial,hf,hn⟩
theorem tL (h:j<m-n):(piece es n m)[j]?=es[n+j]?:=by
 unfold piece
 rw [OJ,if_pos h,um]
theorem tM (h:m≤es.length):(piece es n m).length=m-n:=by
 unfold piece
 rw [C4,jO]
 try?
theorem mT (h:n≤i) (he:es[i]?=some e):piece es n (i+1)=piece es n i++[e]:=by
 unfold piece
 rw [show i+1-n=(i-n)+1 by try?,xC,um,show n+(i-n)=i by try?,he]
 rfl
theorem piece_nil:piece es n n=[]:=by unfold piece;simp
theorem mR (h:j<m-n):mo (piece es n m) j=mo es (n+j):=by unfold mo;rw [tL h]
theorem Ny (h:es.length≤1):Kl es B:=fun i j k l a1 a2 b1 b2=>by try?
theorem LL.mv (h:LL H H2 T ls) (ep:H2 p=some (.ins C dx fs)) (nT:T≠L) (nl:∀x∈ls,x.1≠L) (s:aq (Q2 p L H2) H3):LL H H3 T ls:=by
 have e:=h.at_
 refine ⟨h.new,s _ _ (by rw [BZ (fun q=>by rw [q,ep] at e;cases e) nT];exact e),fun x hx=>?_,h.nd⟩
 obtain ⟨a,b,c⟩:=h.each x hx
 exact ⟨a,s _ _ (by rw [BZ (fun q=>by rw [q,ep] at b;cases b) (nl x hx)];exact b),c⟩
inductive sL (C:ao) (vs:List V) (H:Hp) (Q:VK) (E_:XK):Prop where
 | mk (l pb:ao) (es:List En) (β:Rat) (N n:Nat):vs=[.ref l,.ref pb]→H l=some (.lst (vals es))→Row H es N→lz es→rising es→bV H pb β n→0≤β→N≤1000→n≤1000→es.length≤40→(∀(T:ao) (ls:Ls) (H':Hp),aq H H'→LL H H' T ls→Cut es (2*β) (ls.map (·.2)) es.length→ls.length≤40→Q (.ref T) H')→sL C vs H Q E_
section
theorem jG:aE ["samples","bound","told","stretch","sample"] ["samples","bound"] (ah su):=0#a
theorem Gk (F:cH K "stretches" "stretches" su f fd) (T:Txt mg) (aX:Cl K mg "Stretch" aM ["twice","samples","gentlest","steepest"]) (sX:Dk P w K mg base 6 "Stretch" aM ["self","bound"] (Cq aM)) (iX:Dm P w K mg base 5 aM "takes" ["self","sample"] (Hu aM)) (jy:Dm P w K mg base 1 aM "kept" ["self"] (MS aM)) :
 bg P w K mg base cM 8 f fd ["samples","bound"] (sL aM):=by
 refine F.ok jG 0#e 0#b
 ·obtain ⟨l,pb,es,β,N,n,rfl,_⟩:=h
  rfl
 obtain ⟨l,pb,es,β,N,n,rfl,hl,hes,hS,cK,hpb,oF,hN,hn,xF,k⟩:=h
 have hB0:(0:Rat)≤2*β:=by grind
  -- a new Stretch
 have fresh:∀{G:Hp} {QQ:Hp→Prop} {p dx:ao},aq H G→G p=none→G dx=none→(∀(L:ao) (G':Hp),aq G G'→G L=none→uM aM G' p L [] (2*β) N (2*n+1)→QQ G') →
  Cq aM [.ref p,.ref pb] (upd (upd G dx (.own p)) p (.ins aM dx [])) (fun v G'=>v=.bC∧QQ G') E0:=fun {G QQ p dx} s np ndx kk=>by
  have s1:aq G (upd (upd G dx (.own p)) p (.ins aM dx [])):=fun b' o e=>by
   rw [aI (bA e np),aI (bA e ndx)]
   exact e
  refine ⟨p,dx,pb,β,n,rfl,av,hpb.up (s.trans s1),hn,fun L G' kn s2 nL hst=>⟨rfl,?_⟩⟩
  exact kk L G' (fun b' o e=>s2 _ _ (by rw [mW (bA e np)];exact s1 _ _ e)) (s1.free nL) (uM.fresh hst (dm _))
 refine bD ⟨_,(au (aN 2 jG.nd (dP gc)) (au (aN 3 jG.nd (Jd.S8 sX 0#A rfl (cO 0#x) (he:=aP) (hpl:=bS))) (au (fK iM rfl (gU K 0#m) (bQ (i:=4) jG.nd rfl 0#n) (aG (bK (Jd.qi (o7 (Jd.wk iX aX.cl 0#A (aa 3) (cO (aa 4)) (he:=aP) (hpl:=bS)))) (au (gE (d7 K (aa 2) (Jd.L8 jy aX.cl 0#A (aa 3))) (hs:=fL)) (au (aN 3 jG.nd (Jd.S8 sX 0#A rfl (cO 0#x) (he:=aP) (hpl:=bS))) (aG (gE (Jd.wk iX aX.cl 0#A (aa 3) (cO (aa 4)) (he:=aP) (hpl:=bS)) (hs:=fL))))) bW))) (au (bK (bh cY (cR K T.gA 0#m) aB (aD _)) (aG (gE (d7 K (aa 2) (Jd.L8 jy aX.cl 0#A (aa 3))) (hs:=fL))) bW) (aG (aR (aa 2))))))),?_⟩
 rw?
 refine aF (mk:=.lst) 0#f fun TT H1 s1 n1 e1=>?_
 rw?
 refine fun p dx np ndx _=>fresh s1 np ndx fun L H2 s2 nL hst=>?_
 have eB:=s1.trans s2
 rw?
 refine gH (gV ?_)
 rw?
 refine ⟨l,rfl,⟨_,aW.of (eB _ _ hl)⟩,cL (xs:=vals es) (fun i σ H3=>∃(p L:ao) (ls:Ls) (n0:Nat) (v:Option V),σ=[some (.ref l),some (.ref pb),some (.ref TT),some (.ref p),v]∧aq H H3∧LL H H3 TT ls∧Cut es (2*β) (ls.map (·.2)) n0∧n0≤i∧(0<i→n0<i)∧ls.length≤n0∧uM aM H3 p L (piece es n0 i) (2*β) N (2*n+1)∧H p=none∧H L=none∧TT≠L∧∀x∈ls,x.1≠L) ?_ ?_ ?_ ?_⟩
 ·refine ⟨p,L,[],0,none,rfl,eB,⟨n1,s2 _ _ e1,fun x hx=>absurd hx 0#f,by simp⟩,Cut.nil,dm _,fun h=>absurd h 0#h,dm _,?_,s1.free np,s1.free nL,fun q=>?_,fun x hx=>absurd hx 0#f⟩
  ·rw [piece_nil];exact hst
  ·rw [← q,e1] at nL;cases nL
 ·rintro i σ H3 _ ⟨p,L,ls,n0,v,rfl,s3,_⟩
  exact aW.of (s3 _ _ hl)
 ·rintro i x σ H3 hx ⟨p,L,ls,n0,v,rfl,s3,Ed,hC,h0i,aaO,acY,hst,np,nL,nTL,nlL⟩
  obtain ⟨e,he,rfl⟩:=i8 hx
  have hi:i<es.length:=(fZ.mp he).1
  obtain ⟨e',he',hsa⟩:=dc (hes.up s3) hS hi
  rw [he] at he'
  cases he'
  have ee:e=(e.1,mo es i,some (wo es i)):=by
   have hs:=hS e (jL he)
   obtain ⟨a,m,v⟩:=e
   cases v with
   | none=>cases hs
   | some q=>
     unfold mo wo
     rw [he]
     rfl
  have hlen:(piece es n0 i).length=i-n0:=tM 0#d
  have hm:∀j,j<(piece es n0 i).length→mo (piece es n0 i) j<mo es i:=fun j hj=>by
   rw [hlen] at hj
   rw [mR hj]
   exact fR cK 0#d hi
  have hnext:=mT h0i he
  rw [ee] at hnext
  obtain ⟨dx3,tw,fs,g,s',ep,hF,eL,_⟩:=id hst
  rw?
  refine Q0 ep (hF.xZ "takes") ?_
  rw?
  refine ⟨p,L,e.1,piece es n0 i,mo es i,wo es i,_,N,2*n+1,rfl,hst,hsa,hm,by try?,hN,by try?,hB0,fun r H4 s4 hfit PX=>?_⟩
  rw [← hnext] at hfit PX
  have yr:aq H H4:=fun b' o q=>s4 _ _ (by rw [BZ (bA q np) (bA q nL)];exact s3 _ _ q)
  have RP:=Ed.mv ep nTL nlL s4
  cases r with
  | true=>
    rw [if_pos rfl] at PX
    rw?
    refine bE ?_
    rw?
    exact ⟨p,L,ls,n0,_,rfl,yr,RP,hC,by try?,fun _=>by try?,acY,PX,np,nL,nTL,nlL⟩
  | false=>
    rw [if_neg eO] at PX
    have nf:¬Kl (piece es n0 (i+1)) (2*β):=fun q=>absurd (hfit.mpr q) 0#h
    have afg:n0<i:=by
     apply EI
     intro q
     exact nf (Ny (by rw [tM 0#d];try?))
    have hC':Cut es (2*β) (ls.map (·.2)++[piece es n0 i]) i:=hC.snoc afg 0#d hst.fit fun _=>nf
    obtain ⟨dx4,tw4,fs4,g4,s4',ep4,hF4,Fj,_⟩:=id PX
    rw?
    refine bJ ?_
    rw?
    refine ⟨.inl ⟨rfl,_,aW.of RP.at_⟩,?_⟩
    rw?
    refine Q0 ep4 (hF4.xZ "kept") ?_
    rw?
    refine ⟨p,L,_,_,_,_,rfl,PX,fun R H5 s5 nR eR=>?_⟩
    have RQ:=RP.up s5
    have hRT:R≠TT:=fun q=>by rw [q,RP.at_] at nR;cases nR
    have hRl:∀x∈ls,x.1≠R:=fun x hx q=>by
     have:=(RP.each x hx).2.1
     rw [q,nR] at this
     cases this
    rw?
    refine cZ RQ.at_ (by rw [fQ];exact aO 0#d) ?_
    have Pw:=RQ.push (yr.free nR) eR hRT hRl
    have Ko:aq H (upd H5 TT (.lst (lrefs ls++[.ref R]))):=bw (yr.trans s5) n1
    generalize upd H5 TT (.lst (lrefs ls++[.ref R]))=H6 at Pw Ko ⊢
    rw?
    refine fun p' dx' np' afO _=>fresh Ko np' afO fun L' H7 s7 nL' ac1=>?_
    have Yo:=Ko.trans s7
    have K3:=Pw.up s7
    obtain ⟨dx7,tw7,fs7,g7,s7',X0,hF7,eL7,_⟩:=id ac1
    rw?
    refine Q0 X0 (hF7.xZ "takes") ?_
    rw?
    refine ⟨p',L',e.1,[],mo es i,wo es i,_,N,2*n+1,rfl,ac1,?_,fun j hj=>absurd hj (J5 _),nH _,hN,by try?,hB0,fun r2 H8 s8 acV ac2=>?_⟩
    ·obtain ⟨e2,he2,afy⟩:=dc (hes.up Yo) hS hi
     rw [he] at he2
     cases he2
     exact afy
    have hr2:r2=true:=acV.mpr (Ny 0#f)
    rw [if_pos hr2,Zr,← ee] at ac2
    have adb:TT≠L':=fun q=>by rw [← q,Pw.at_] at nL';cases nL'
    have adh:∀x∈ls++[(R,piece es n0 i)],x.1≠L':=fun x hx q=>by
     have:=(Pw.each x hx).2.1
     rw [q,nL'] at this
     cases this
    have afh:=K3.mv X0 adb adh s8
    rw?
    refine ⟨p',L',ls++[(R,piece es n0 i)],i,_,rfl,fun b' o q=>s8 _ _ (by rw [BZ (bA q (Ko.free np')) (bA q (Ko.free nL'))];exact Yo _ _ q),afh,?_,by try?,fun _=>by try?,by rw [cJ];show ls.length+1≤i;try?,?_,Ko.free np',Ko.free nL',adb,adh⟩
    ·rw [ju]
     exact hC'
    ·rw [mT (dm _) he,piece_nil]
     exact ac2
 ·rintro σ H3 ⟨p,L,ls,n0,v,rfl,s3,Ed,hC,h0i,aaO,acY,hst,np,nL,nTL,nlL⟩
  rw [aS] at h0i aaO hst
  rw?
  refine cE (.inl (aW.of (s3 _ _ hl))) ?_
  rw [aS]
  rw?
  refine cu (fun c=>?_) (fun c=>?_)
  ·have c':=c6 c
   obtain ⟨dx4,tw4,fs4,g4,s4',ep4,hF4,Fj,_⟩:=id hst
   rw?
   refine ⟨.inl ⟨rfl,_,aW.of Ed.at_⟩,?_⟩
   rw?
   refine Q0 ep4 (hF4.xZ "kept") ?_
   rw?
   refine ⟨p,L,_,_,_,_,rfl,hst,fun R H5 s5 nR eR=>?_⟩
   have RQ:=Ed.up s5
   have hRT:R≠TT:=fun q=>by rw [q,Ed.at_] at nR;cases nR
   have hRl:∀x∈ls,x.1≠R:=fun x hx q=>by
    have:=(Ed.each x hx).2.1
    rw [q,nR] at this
    cases this
   have hlt:n0<es.length:=aaO 0#d
   rw?
   refine cZ RQ.at_ (by rw [fQ];exact aO 0#d) ?_
   have Pw:=RQ.push (s3.free nR) eR hRT hRl
   rw?
   refine k TT _ _ (bw (s3.trans s5) n1) Pw ?_ (by rw [cJ];show ls.length+1≤40;try?)
   rw [ju]
   exact hC.snoc hlt (dm _) hst.fit fun q=>absurd q (zN _)
  ·have c':=jw (iU.mpr c)
   rw?
   refine k TT ls H3 s3 Ed ?_ 0#d
   rw [show es.length=n0 by try?]
   exact hC
end
section
variable (t y:Nat→Int)
def ab (i k p:Nat):Int:=y p*(t k-t i)-y i*(t k-t p)-y k*(t p-t i)
def pG (i j k p:Nat):Int:=2*ab t y i k p-ab t y i k j
def A9 (i j k:Nat):Rat:=((ab t y i k j).natAbs:Int)/((t k-t i:Int):Rat)
end
section
theorem aaj:2*(t k-t i)*ab t y a c b=pG t y i j k b*(t c-t a)-pG t y i j k a*(t c-t b)-pG t y i j k c*(t b-t a):=by
 unfold pG ab
 grind
theorem Qi:pG t y i j k i=- ab t y i k j:=by
 unfold pG ab
 grind
theorem SH:pG t y i j k k=- ab t y i k j:=by
 unfold pG ab
 grind
theorem AO:pG t y i j k j=ab t y i k j:=by
 unfold pG
 try?
theorem Rf {m:Int} (hx:m≤x) (hu:m≤u) (hz:m≤z) (h:m<x∨m<u∨m<z) (hq:0<q) (hr:0<r):2*m*(q+r)<u*(q+r)+x*q+z*r:=by
 have e:u*(q+r)+x*q+z*r-2*m*(q+r)=(u-m)*(q+r)+(x-m)*q+(z-m)*r:=by grind
 have h1:0≤(u-m)*(q+r):=qF 0#d 0#d
 have h2:0≤(x-m)*q:=qF 0#d 0#d
 have h3:0≤(z-m)*r:=qF 0#d 0#d
 rcases h with h | h | h
 ·have:0<(x-m)*q:=CY 0#d hq
  try?
 ·have:0<(u-m)*(q+r):=CY 0#d 0#d
  try?
 ·have:0<(z-m)*r:=CY 0#d hr
  try?
def Alt (O:Nat→Int) (m:Int) (a b c:Nat):Prop:=((m≤O b∧m≤- O a∧m≤- O c)∨(m≤- O b∧m≤O a∧m≤O c))∧((m<O a∨m < - O a)∨(m<O b∨m < - O b)∨(m<O c∨m < - O c))
theorem aas (hik:t i<t k) (hab:t a<t b) (hbc:t b<t c) (h:Alt (pG t y i j k) ((ab t y i k j).natAbs:Int) a b c):A9 t y i j k<A9 t y a b c:=by
 have key:((ab t y i k j).natAbs:Int)*(t c-t a)<((ab t y a c b).natAbs:Int)*(t k-t i):=by
  have id:=aaj (t:=t) (y:=y) (i:=i) (j:=j) (k:=k) (a:=a) (b:=b) (c:=c)
  generalize pG t y i j k=O at *
  generalize hm:((ab t y i k j).natAbs:Int)=m at *
  have hm0:0≤m:=by try?
  obtain ⟨h1,h2⟩:=h
  rcases h1 with ⟨u1,u2,u3⟩ | ⟨u1,u2,u3⟩
  ·have g:=Rf (x:=- O a) (u:=O b) (z:=- O c) (q:=t c-t b) (r:=t b-t a) u2 u1 u3 0#d 0#d 0#d
   have e1:O b*(t c-t b+(t b-t a))+- O a*(t c-t b)+- O c*(t b-t a)=O b*(t c-t a)-O a*(t c-t b)-O c*(t b-t a):=by grind
   rw [e1,← id] at g
   have e2:2*m*(t c-t b+(t b-t a))=2*(m*(t c-t a)):=by grind
   rw [e2] at g
   have e3:2*(t k-t i)*ab t y a c b=2*(ab t y a c b*(t k-t i)):=by grind
   rw [e3] at g
   have g2:m*(t c-t a)<ab t y a c b*(t k-t i):=by try?
   exact Y7 g2 (Kg 0#d 0#d)
  ·have g:=Rf (x:=O a) (u:=- O b) (z:=O c) (q:=t c-t b) (r:=t b-t a) u2 u1 u3 0#d 0#d 0#d
   have e1:- O b*(t c-t b+(t b-t a))+O a*(t c-t b)+O c*(t b-t a)=- (O b*(t c-t a)-O a*(t c-t b)-O c*(t b-t a)):=by grind
   rw [e1,← id] at g
   have e2:2*m*(t c-t b+(t b-t a))=2*(m*(t c-t a)):=by grind
   rw [e2] at g
   have e3:- (2*(t k-t i)*ab t y a c b)=2*(- ab t y a c b*(t k-t i)):=by grind
   rw [e3] at g
   have g2:m*(t c-t a) < - ab t y a c b*(t k-t i):=by try?
   exact Y7 g2 (Kg 0#d 0#d)
 unfold A9
 have hT:=cast_pos (b:=t k-t i) 0#d
 have hp:=cast_pos (b:=t c-t a) 0#d
 rw [ZA hT]
 have e:(((ab t y a c b).natAbs:Int):Rat)/((t c-t a:Int):Rat)*((t k-t i:Int):Rat)=((((ab t y a c b).natAbs:Int)*(t k-t i):Int):Rat)/((t c-t a:Int):Rat):=by
  rw [sW]
  grind
 rw [e,ZC hp,← sW]
 exact vC.mpr key
end
def acj (n:Nat):List (Nat×Nat×Nat):=(kq n).flatMap fun a=>(kq n).flatMap fun b=>(kq n).map fun c=>(a,b,c)
theorem Su (ha:a<n) (hb:b<n) (hc:c<n):(a,b,c)∈acj n:=by
 unfold acj
 exact Zo.mpr ⟨a,xD.mpr ha,Zo.mpr ⟨b,xD.mpr hb,eU.mpr ⟨c,xD.mpr hc,rfl⟩⟩⟩
open Classical in
def beyond (t y:Nat→Int) (n:Nat) (d:Rat):Nat:=((acj n).filter fun x=>decide (d<A9 t y x.1 x.2.1 x.2.2)).length
theorem filter_lt {α:Type} {p q:α→Bool}:∀{l:List α},(∀x,q x=true→p x=true)→(∃x,x∈l∧p x=true∧q x=false)→(l.filter q).length<(l.filter p).length
 | [],_,h=>by obtain ⟨x,hx,_⟩:=h;exact absurd hx 0#f
 | a::l,hq,h=>by
   have le:∀l:List α,(l.filter q).length≤(l.filter p).length:=fun l=>by
    induction l with
    | nil=>exact dm _
    | cons b l ih=>
      rw [C5,C5]
      cases hb:q b with
      | true=>rw [hq b hb,if_pos rfl,if_pos rfl];exact C6 ih
      | false=>
        rw [if_neg eO]
        split
        ·exact zK ih
        ·exact ih
   obtain ⟨x,hx,hp,hqx⟩:=h
   rw [C5,C5]
   rcases lg.mp hx with rfl | hx
   ·rw [hqx,hp,if_neg eO,if_pos rfl]
    exact Nat.lt_succ_of_le (le l)
   ·have ih:=filter_lt (l:=l) hq ⟨x,hx,hp,hqx⟩
    cases hb:q a with
    | true=>rw [hq a hb,if_pos rfl,if_pos rfl];exact Nat.succ_lt_succ ih
    | false=>
      rw [if_neg eO]
      split
      ·exact Zd ih
      ·exact ih
open Classical in
theorem Pe (ha:a<n) (hb:b<n) (hc:c<n) (h:d<A9 t y a b c):beyond t y n (A9 t y a b c)<beyond t y n d:=by
 unfold beyond
 refine filter_lt (fun x hx=>dz (by have:=c6 hx;grind)) ⟨(a,b,c),Su ha hb hc,dz h,gJ (U6)⟩
theorem Sk {C:Int} (hC:1≤C) (hb:1≤b):1≤C.fdiv (cj C b:Nat)*b∧C.fdiv (cj C b:Nat)*b≤C*b∧C∣C.fdiv (cj C b:Nat)*b∧b∣C.fdiv (cj C b:Nat)*b:=by
 have gp:0<cj C b:=QL C 0#d
 obtain ⟨c,hc⟩:=J3 (a:=C) (b:=b)
 obtain ⟨d,hd⟩:=J1 (a:=C) (b:=b)
 generalize hg:((cj C b:Nat):Int)=g at *
 have g1:0<g:=by try?
 have e:C.fdiv g=c:=by
  conv=>lhs;rw [hc]
  exact Yw c 0#d
 rw [e]
 have hc1:1≤c:=by
  rcases ZV c 1 with z | z
  ·have:g*c≤0:=Int.mul_nonpos_of_nonneg_of_nonpos 0#d 0#d
   try?
  ·exact z
 have hcC:c≤C:=by
  rw [hc]
  have:=Kg (show 1≤g by try?) (show 0≤c by try?)
  try?
 refine ⟨?_,Kg hcC 0#d,⟨d,?_⟩,⟨c,pQ _ _⟩⟩
 ·have:=CO hc1 hb 0#d 0#d
  try?
 ·rw [hc]
  conv=>lhs;rw [hd]
  grind
structure Pts (H:Hp) (L:ao) (ps:List ao) (t y:Nat→Int):Prop where
 at_:H L=some (.lst (ps.map V.ref))
 each:∀i a,ps[i]?=some a→H a=some (.tup [.int (t i),.int (y i)])
theorem Pts.up (h:Pts H L ps t y) (s:aq H H'):Pts H' L ps t y:=⟨s _ _ h.at_,fun i a e=>s _ _ (h.each i a e)⟩
theorem Mr {ps:List ao} (h:i<ps.length) (hj:j=(i:Int)):∃a,ps[i]?=some a∧xE (ps.map V.ref) j=some (.ref a):=⟨ps[i],je h,by
 subst hj
 exact fh (by rw [jQ,je h];rfl)⟩
inductive Cv (vs:List V) (H:Hp) (Q:VK) (E_:XK):Prop where
 | mk (l:ao) (es:List En) (n:Nat):vs=[.ref l]→H l=some (.lst (vals es))→Row H es n→lz es→1≤n→es.length*n+n≤7000→es.length≤40→(∀(L:ao) (ps:List ao) (y:Nat→Int) (C:Int) (H':Hp),aq H H'→H L=none→Pts H' L ps (mo es) y→ps.length=es.length→1≤C→(∀i,i<es.length→(y i:Rat)=wo es i*(C:Rat)∧Sz 8000 (y i))→Q (.ref L) H')→Cv vs H Q E_
inductive G5 (vs:List V) (H:Hp) (Q:VK) (E_:XK):Prop where
 | mk (p1 p2 p3:ao) (m1 n1 m2 n2 m3 n3:Int):vs=[.ref p1,.ref p2,.ref p3]→H p1=some (.tup [.int m1,.int n1])→H p2=some (.tup [.int m2,.int n2])→H p3=some (.tup [.int m3,.int n3])→Sz 8000 m1→Sz 8000 m2→Sz 8000 m3→Sz 8000 n1→Sz 8000 n2→Sz 8000 n3→Q (.int (n3*(m2-m1)-n1*(m2-m3)-n2*(m3-m1))) H→G5 vs H Q E_
inductive MW (vs:List V) (H:Hp) (Q:VK) (E_:XK):Prop where
 | mk (L r:ao) (ps:List ao) (t y:Nat→Int) (i j k:Nat):vs=[.ref L,.ref r]→Pts H L ps t y→ps.length≤40→H r=some (.tup [.int (i:Int),.int (j:Int),.int (k:Int)])→i<ps.length→j<ps.length→k<ps.length→(∀q,q<ps.length→Sz 8000 (t q)∧Sz 8000 (y q))→(∀(D:ao) (H':Hp),aq H H'→H D=none→H' D=some (.lst (((kq ps.length).map (pG t y i j k)).map V.int))→Q (.ref D) H')→MW vs H Q E_
inductive MP (vs:List V) (H:Hp) (Q:VK) (E_:XK):Prop where
 | mk (r D:ao) (i j k p n:Nat) (O:Nat→Int) (m:Int):vs=[.ref r,.int (p:Int),.ref D]→H r=some (.tup [.int (i:Int),.int (j:Int),.int (k:Int)])→H D=some (.lst (((kq n).map O).map V.int))→i<j→j<k→k<n→p<n→0≤m→((m=O j∧O i=- O j∧O k=- O j)∨(m=- O j∧O i=- O j∧O k=- O j))→(m<O p∨m < - O p)→(∀(r':ao) (a b c:Nat) (H':Hp),aq H H'→H' r'=some (.tup [.int (a:Int),.int (b:Int),.int (c:Int)])→a<b→b<c→c<n→Alt O m a b c→Q (.ref r') H')→MP vs H Q E_
def Flat (t y:Nat→Int) (n i j k:Nat):Prop:=i<j∧j<k∧k<n∧∀p,p<n→(pG t y i j k p).natAbs≤(ab t y i k j).natAbs
inductive yJ (vs:List V) (H:Hp) (Q:VK) (E_:XK):Prop where
 | mk (l:ao) (es:List En) (n:Nat):vs=[.ref l]→H l=some (.lst (vals es))→Row H es n→lz es→rising es→1≤n→es.length*n+n≤7000→3≤es.length→es.length≤40→(∀(r:ao) (i j k:Nat) (y:Nat→Int) (C:Int) (H':Hp),aq H H'→H' r=some (.tup [.int (i:Int),.int (j:Int),.int (k:Int)])→1≤C→(∀i,i<es.length→(y i:Rat)=wo es i*(C:Rat))→Flat (mo es) y es.length i j k→Q (.ref r) H')→yJ vs H Q E_
section
theorem gI:aE ["samples","common","sample","bottom"] ["samples"] (ah ng):=0#a
theorem Al (F:cH K "whole_points" "whole_points" ng f fd) (iw:Dn P w K mg base 2 "divisor" ["one","other"] pM):bg P w K mg base cM 3 f fd ["samples"] Cv:=by
 refine F.ok gI 0#e 0#b
 ·obtain ⟨l,es,n,rfl,_⟩:=h
  rfl
 obtain ⟨l,es,n,rfl,hl,hR,hS,hn1,hn,xF,k⟩:=h
 have hin:∀i,i<es.length→i*n+n≤es.length*n:=fun i hi=>by
  have:=Nat.mul_le_mul_right n (show i+1≤es.length by try?)
  rw [Z8,Z9] at this
  exact this
 have cd:∀{x d:Int},1≤d→Sz 8000 d→DS x d:=fun hd hz=>⟨by try?,Sz.log (m:=8000) hz 0#h 0#h⟩
 refine bD ⟨_,(au (nO (i:=1) gI.nd rfl (Or.inr rfl) aB (hs:=af9)) (au (fK iM rfl (gU K 0#m) (bQ (i:=2) gI.nd rfl 0#n) (au (aN 3 gI.nd (aK K (aK K (aa 2)))) (aG (nO (i:=1) gI.nd rfl (Or.inr rfl) (aJ aT (aJ gF 0#x (b9 iw hr 0#x (aa 3))) (aa 3)) (hs:=adZ))))) (aG (aR (jA (O:=["sample"]) (N':=["common"]) (cap:=[1]) rfl (gU K 0#m) (fun _ _ _ _ _=>(bQ (i:=0) (show iN [("sample":Str),("common":Str)] by decide +kernel) rfl 0#n)) (fun _ _ _ _ _=>jn) (fun _ _ _ _ _=>(bR (bX (cy (HH K) 0#m aB 0#o) (bX (aJ aT (cy (HH K) (cy (HH K) 0#m aB 0#o) aB 0#o) (aJ gF 0#x (cy (HH K) (cy (HH K) 0#m aB 0#o) aB 0#o))) gc M0) Qz))) rfl 0#u rfl 0#g rfl 0#g))))),?_⟩
 rw?
 refine gH (gV ?_)
 rw?
 refine ⟨l,rfl,⟨_,aW.of hl⟩,cL (xs:=vals es) (fun i σ H3=>∃(C:Int) (v2 v3:Option V),σ=[some (.ref l),some (.int C),v2,v3]∧aq H H3∧1≤C∧Sz (i*n+1) C∧∀j,j<i→((wo es j).den:Int)∣C) ?_ ?_ ?_ ?_⟩
 ·exact ⟨1,none,none,rfl,aq.refl _,O5 _,by rw [Nat.zero_mul];exact ym 0#d,fun j hj=>by try?⟩
 ·rintro i σ H3 _ ⟨C,v2,v3,rfl,s3,_⟩
  exact aW.of (s3 _ _ hl)
 ·rintro i x σ H3 hx ⟨C,v2,v3,rfl,s3,hC,zC,hdv⟩
  refine gZ fun M B RR hM _ _=>?_
  obtain ⟨e,he,rfl⟩:=i8 hx
  have hi:i<es.length:=(fZ.mp he).1
  obtain ⟨e',he',v,ev,⟨tp,b,eb,hfr,zt,zb⟩,zm⟩:=dc (hR.up s3) hS hi
  rw [he] at he'
  cases he'
  have hb:=hfr.pos
  obtain ⟨_,hbd⟩:=hfr.AN
  have afn:=hin i hi
  rw?
  refine ⟨C,b,rfl,zC.mono 0#d,zb.mono 0#d,fun H4 s4=>?_⟩
  obtain ⟨u1,u2,u3,u4⟩:=Sk hC hb
  have zg:Sz 8000 ((cj C b:Nat):Int):=by
   have:cj C b≤b.natAbs:=ZN 0#d (Ze _ _)
   exact Sz.of_le (zb.mono 0#d) 0#d
  have gp:0<cj C b:=QL C 0#d
  have zC':Sz ((i+1)*n+1) (C.fdiv (cj C b:Nat)*b):=by
   have e1:(i+1)*n+1=i*n+1+n:=by rw [Z8,Z9];try?
   rw [e1]
   refine Sz.of_le (zC.mul zb) ?_
   generalize C.fdiv (cj C b:Nat)*b=A at *
   generalize C*b=B at *
   try?
  have zq:Sz 8000 (C.fdiv (cj C b:Nat)):=by
   refine Sz.of_le (zC.mono (show i*n+1≤8000 by try?)) ?_
   have h0:0≤C.fdiv (cj C b:Nat):=U4 0#d 0#d
   have:C.fdiv (cj C b:Nat)≤C:=by
    rw [DQ _ 0#d]
    exact OO _ 0#d
   try?
  rw?
  refine iC (cd 0#d zg) ?_
  rw?
  refine iC (cg zq (zb.mono (show n≤8000 by try?)) 0#h) ?_
  rw?
  refine hM _ _ ⟨_,_,_,rfl,s3.trans s4,u1,zC',fun j hj=>?_⟩
  by_cases e:j=i
  ·rw [e,← hbd];exact u4
  ·exact Int.dvd_trans (hdv j 0#d) u3
 ·rintro σ H3 ⟨C,v2,v3,rfl,s3,hC,zC,hdv⟩
  rw [aS] at zC hdv
  have hl3:=s3 _ _ hl
  rw?
  refine gV ?_
  rw?
  refine ⟨l,rfl,⟨_,aW.of hl3⟩,?_⟩
  refine bY (xs:=vals es) bL (fun H4 s4=>aW.of (s4 _ _ hl3)) (by rw [aS];try?) (fun i ys G=>∃(ps:List ao),ys=ps.map V.ref∧ps.length=i∧∀q a,ps[q]?=some a→G a=some (.tup [.int (mo es q),.int ((wo es q).num*(C.fdiv ((wo es q).den:Int)))])) ⟨[],rfl,rfl,fun q a h=>by simp at h⟩ ?_ ?_
  ·rintro D i x ys H4 ly NN N0 h0 hD eD s4 hx hy ⟨ps,rfl,hps,hat⟩ kY kN
   obtain ⟨e,he,rfl⟩:=i8 hx
   have hi:i<es.length:=(fZ.mp he).1
   obtain ⟨e',he',v,ev,⟨tp,b,eb,hfr,zt,zb⟩,zm⟩:=dc (hR.up (s3.trans s4)) hS hi
   rw [he] at he'
   cases he'
   have hb:=hfr.pos
   obtain ⟨htn,hbd⟩:=hfr.AN
   refine dG h0 ?_
   rw?
   refine bJ ?_
   rw?
   refine iC (cd hb (zb.mono 0#d)) ?_
   rw?
   have zq:Sz 8000 (C.fdiv b):=by
    refine Sz.of_le (zC.mono (show es.length*n+1≤8000 by try?)) ?_
    have h0:0≤C.fdiv b:=U4 0#d 0#d
    have:C.fdiv b≤C:=by
     rw [DQ _ 0#d]
     exact OO _ 0#d
    try?
   refine iC (cg (zt.mono (show n≤8000 by try?)) zq 0#h) ?_
   rw?
   refine aF (mk:=.tup) 0#f fun p H5 s5 n5 e5=>?_
   refine kY _ H5 s5 ⟨ps++[p],by simp,by simp [hps],fun q a hq=>?_⟩
   by_cases hqi:q<ps.length
   ·rw [kZ hqi] at hq
    exact (wD s5) _ _ (hat q a hq)
   ·rw [pR 0#d] at hq
    have hq0:q=i:=by
     have:=(fZ.mp hq).1
     simp at this
     try?
    subst hq0
    rw [hps,CU] at hq
    obtain rfl:p=a:=by simpa using hq
    rw [← htn,← hbd]
    exact ja (s5 _ _ eD) e5
  ·rintro D ys H4 hD eD s4 hy ⟨ps,rfl,hps,hat⟩
   rw [aS] at hps
   refine k D ps (fun q=>(wo es q).num*(C.fdiv ((wo es q).den:Int))) C H4 (s3.trans s4) (s3.free hD) ⟨eD,fun q a h=>iZ _ _ (hat q a h)⟩ hps hC (fun i hi=>?_)
   obtain ⟨e',he',v,ev,⟨tp,b,eb,hfr,zt,zb⟩,zm⟩:=dc hR hS hi
   obtain ⟨htn,hbd⟩:=hfr.AN
   have hb:=hfr.pos
   obtain ⟨c,hc⟩:=hdv i hi
   rw [← hbd] at hc
   have e1:C.fdiv b=c:=by
    conv=>lhs;rw [hc]
    exact Yw c 0#d
   have acQ:=dB (b:=b) 0#d
   have afn:=hin i hi
   refine ⟨?_,?_⟩
   ·show (((wo es i).num*(C.fdiv ((wo es i).den:Int)):Int):Rat)=_
    rw [← hbd,← htn,e1,hc,sW,sW]
    have:=hfr.eq
    grind
   ·show Sz 8000 ((wo es i).num*(C.fdiv ((wo es i).den:Int)))
    rw [← hbd,← htn]
    have zq:Sz (es.length*n+1) (C.fdiv b):=by
     refine Sz.of_le zC ?_
     have h0:0≤C.fdiv b:=U4 0#d 0#d
     have:C.fdiv b≤C:=by
      rw [DQ _ 0#d]
      exact OO _ 0#d
     try?
    exact (zt.mul zq).mono 0#d
theorem nh:aE ["one","last","point","ahead","behind"] ["one","last","point"] (ah oG):=0#a
theorem BC (F:cH K "above_chord" "above_chord" oG f fd):bg P w K mg base cM 1 f fd ["one","last","point"] G5:=by
 refine F.ok nh 0#e 0#b
 ·obtain ⟨p1,p2,p3,m1,n1,m2,n2,m3,n3,rfl,_⟩:=h
  rfl
 obtain ⟨p1,p2,p3,m1,n1,m2,n2,m3,n3,rfl,e1,e2,e3,a1,a2,a3,b1,b2,b3,k⟩:=h
 refine bD ⟨_,(au (aN 3 nh.nd (aJ aT (aK K 0#m) (aJ cB (aK K 0#x) (aK K (aa 2))))) (au (aN 4 nh.nd (aJ aT (aK K 0#x) (aJ cB (aK K (aa 2)) (aK K 0#m)))) (aG (aR (aJ cB (aJ cB (aJ aT (aK K (aa 2)) (aJ cB (aK K 0#x) (aK K 0#m))) (aa 3)) (aa 4)))))),?_⟩
 rw?
 refine iC (cg b1 (a2.sub a3) 0#h) ?_
 rw?
 refine iC (cg b2 (a3.sub a1) 0#h) ?_
 rw?
 refine iC (cg b3 (a2.sub a1) 0#h) ?_
 rw?
 exact k
theorem jF:aE ["points","three","one","last","lift"] ["points","three"] (ah oR):=0#a
theorem BL (F:cH K "scaled_offs" "scaled_offs" oR f fd) (ku:Dn P w K mg base 1 "above_chord" ["one","last","point"] G5):bg P w K mg base cM 2 f fd ["points","three"] MW:=by
 refine F.ok jF 0#e 0#b
 ·obtain ⟨L,r,ps,t,y,i,j,k,rfl,_⟩:=h
  rfl
 obtain ⟨L,r,ps,t,y,i,j,kk,rfl,hP,xF,er,hi,hj,hk,hz,k⟩:=h
 obtain ⟨ai,gi,ti⟩:=Mr hi (j:=(i:Int)) rfl
 obtain ⟨aj,gj,tj⟩:=Mr hj (j:=(j:Int)) rfl
 obtain ⟨ak,gk,tk⟩:=Mr hk (j:=(kk:Int)) rfl
 have ei:=hP.each _ _ gi
 have ej:=hP.each _ _ gj
 have ek:=hP.each _ _ gk
 refine bD ⟨_,(au (nO (i:=2) jF.nd rfl (Or.inr rfl) (cy (lS K) 0#m (aK K 0#x) 0#o) (hs:=Xz)) (au (nO (i:=3) jF.nd rfl (Or.inr rfl) (cy (lS K) 0#m (aK K 0#x) 0#o) (hs:=Xz)) (au (nO (i:=4) jF.nd rfl (Or.inr rfl) (Jd.c3 ku hr (aa 2) (aa 3) (cy (lS K) 0#m (aK K 0#x) 0#o)) (hs:=fL)) (aG (aR (jA (O:=["point"]) (N':=["lift","one" ,"last" ]) (cap:=[4,2,3]) rfl (gU K 0#m) (fun _ _ _ _ _=>(bQ (i:=0) (show iN [("point":Str),("lift":Str),("one":Str),("last":Str)] by decide +kernel) rfl 0#n)) (fun _ _ _ _ _=>jn) (fun _ _ _ _ _=>(aJ cB (aJ aT aB (d9 ku 0#A rfl (bX (aa 2) (bX (aa 3) (bX 0#m gc aP) aP) aP) (he:=aP) (hpl:=(bB aP (bB aP bS))))) 0#x)) rfl ⟨⟨rfl,rfl,rfl,rfl⟩,⟨⟨rfl,rfl,rfl,rfl⟩,0#u⟩⟩ rfl 0#g rfl 0#g)))))),?_⟩
 rw?
 refine cG hP.at_ ti ?_
 rw?
 refine cG hP.at_ tk ?_
 rw?
 refine cG hP.at_ tj ?_
 rw?
 refine ⟨ai,ak,aj,_,_,_,_,_,_,rfl,ei,ek,ej,(hz i hi).1,(hz kk hk).1,(hz j hj).1,(hz i hi).2,(hz kk hk).2,(hz j hj).2,?_⟩
 rw?
 refine gV ?_
 rw?
 refine ⟨L,rfl,⟨_,aW.of hP.at_⟩,?_⟩
 refine bY (xs:=ps.map V.ref) bL (fun H4 s4=>aW.of (s4 _ _ hP.at_)) (by rw [eV];try?) (fun q ys G=>ys=((kq q).map (pG t y i j kk)).map V.int) rfl ?_ ?_
 ·rintro D q x ys H4 ly NN N0 h0 hD eD s4 hx hy rfl kY kN
  rw [jQ] at hx
  obtain ⟨a,ga,rfl⟩:=oU.mp hx
  have hq:q<ps.length:=(fZ.mp ga).1
  refine dG h0 ?_
  rw?
  refine bJ ?_
  rw?
  refine ⟨ai,ak,a,_,_,_,_,_,_,rfl,s4 _ _ ei,s4 _ _ ek,s4 _ _ (hP.each _ _ ga),(hz i hi).1,(hz kk hk).1,(hz q hq).1,(hz i hi).2,(hz kk hk).2,(hz q hq).2,?_⟩
  rw?
  refine kY _ H4 (aq.refl _) ?_
  rw [uy,ju,ju]
  rfl
 ·rintro D ys H4 hD eD s4 hy rfl
  rw [eV] at eD
  exact k D H4 s4 hD eD
theorem Nv (h0:0≤m) (hm:m=oj∨m=-oj) (hi:oi=-oj) (hp:m<op∨m < -op) (hs:0<op↔0<oi):(m≤oj∧m≤-op)∨(m≤-oj∧m≤op):=by
 have:(0<op∧0<oi)∨(op≤0∧oi≤0):=by
  by_cases z:0<op
  ·exact .inl ⟨z,hs.mp z⟩
  ·exact .inr ⟨zS.mp z,zS.mp fun q=>z (hs.mpr q)⟩
 lia
theorem Fq (h0:0≤m) (hm:m=oj∨m=-oj) (hi:oi=-oj) (hp:m<op∨m < -op) (hs:(0<op∧oi≤0)∨(op≤0∧0<oi)):(m≤op∧m≤oj)∨(m≤-op∧m≤-oj):=by
 lia
theorem vN (h:q<n):xE (((kq n).map O).map V.int) (q:Int)=some (.int (O q)):=fh (by rw [jQ,jQ,YY h];rfl)
theorem mj:aE ["three","far","offs","first","mid","last"] ["three","far","offs"] (ah rY):=0#a
theorem Ga (F:cH K "exchanged" "exchanged" rY f fd):bg P w K mg base cM 1 f fd ["three","far","offs"] MP:=by
 refine F.ok mj 0#e 0#b
 ·obtain ⟨r,D,i,j,k,p,n,O,m,rfl,_⟩:=h
  rfl
 obtain ⟨r,D,i,j,kk,p,n,O,m,rfl,er,eD,hij,hjk,hkn,hpn,hm0,hm,hp,k⟩:=h
 have tell:∀{a b c:Nat} {H1:Hp} {r':ao},aq H H1→H1 r'=some (.tup [.int (a:Int),.int (b:Int),.int (c:Int)])→a<b→b<c→c<n→((m≤O b∧m≤- O a∧m≤- O c)∨(m≤- O b∧m≤O a∧m≤O c))→(a=p∨b=p∨c=p)→Q (.ref r') H1:=fun s1 e1 h1 h2 h3 h4 h5=>k _ _ _ _ _ s1 e1 h1 h2 h3 ⟨h4,by
  rcases h5 with rfl | rfl | rfl
  ·exact .inl hp
  ·exact .inr (.inl hp)
  ·exact .inr (.inr hp)⟩
 obtain ⟨hmj,oi,ok⟩:(m=O j∨m=-O j)∧O i=-O j∧O kk=-O j:=by
  rcases hm with ⟨m1,m2,m3⟩ | ⟨m1,m2,m3⟩
  ·exact ⟨.inl m1,m2,m3⟩
  ·exact ⟨.inr m1,m2,m3⟩
 have oi':-O i=O j:=by rw [oi,Vk]
 have ok':-O kk=O j:=by rw [ok,Vk]
 have hpi:p≠i:=fun z=>by subst z;lia
 have hpj:p≠j:=fun z=>by subst z;lia
 have hpk:p≠kk:=fun z=>by subst z;lia
 refine bD ⟨_,(au (aN 3 mj.nd (aK K 0#m)) (au (aN 4 mj.nd (aK K 0#m)) (au (aN 5 mj.nd (aK K 0#m)) (au (bK (jR (Jd.mV (bh lU 0#x (aa 4) (aD _)) (Jd.kH (bh cI (ic cY (cy (lS K) (aa 2) 0#x 0#o) aB (aD _)) (ic cY (cy (lS K) (aa 2) (aa 3) 0#o) aB (aD _)) (aD _))))) (aG (aR (bR (Jd.a3 0#x (aa 4) (aa 5))))) bW) (au (bK (jR (Jd.mV (bh cY 0#x (aa 4) (aD _)) (Jd.kH (bh cI (ic cY (cy (lS K) (aa 2) 0#x 0#o) aB (aD _)) (ic cY (cy (lS K) (aa 2) (aa 5) 0#o) aB (aD _)) (aD _))))) (aG (aR (bR (Jd.a3 (aa 3) (aa 4) 0#x)))) bW) (au (bK (bh lU 0#x (aa 3) (aD _)) (aG (aR (bR (Jd.a3 0#x (aa 3) (aa 4))))) bW) (au (bK (bh cY 0#x (aa 5) (aD _)) (aG (aR (bR (Jd.a3 (aa 4) (aa 5) 0#x)))) bW) (aG (aR (bR (Jd.a3 (aa 3) 0#x (aa 5)))))))))))),?_⟩
 refine JF (fun σ' H'=>H'=H∧σ'=[some (.ref r),some (.int (p:Int)),some (.ref D),some (.int (i:Int)),some (.int (j:Int)),some (.int (kk:Int))]∧(p<j→¬(0<O p↔0<O i))) (fun σ' H' hP=>?_) (fun N rest=>?_)
 rotate_left
 ·rw?
  refine cu (fun c1=>?_) (fun c1=>?_)
  ·have Fd:=c6 c1
   rw?
   refine cG eD (vN hpn) ?_
   rw?
   refine cG eD (vN (show i<n by lia)) ?_
   rw?
   refine Yk ?_
   rw?
   refine cu (fun c2=>?_) (fun c2=>?_)
   ·have c2':(0<O p↔0<O i):=by
     have:=qP.mp c2
     exact CL.mp this
    rw?
    refine aF (mk:=.tup) 0#f fun r' H1 s1 n1 e1=>?_
    refine tell s1 e1 (by lia) hjk hkn ?_ (.inl rfl)
    rcases Nv hm0 hmj oi hp c2' with ⟨u,v⟩ | ⟨u,v⟩
    ·exact .inl ⟨u,v,by rw [ok'];exact u⟩
    ·exact .inr ⟨u,v,by rw [ok];exact u⟩
   ·rw?
    refine rest _ _ ⟨rfl,rfl,fun _ z=>c2 (qP.mpr (CL.mpr z))⟩
  ·have Fd:¬(p:Int)<(j:Int):=fun z=>c1 (dz z)
   refine bE ?_
   rw?
   exact rest _ _ ⟨rfl,rfl,fun z=>absurd (by lia) Fd⟩
 obtain ⟨rfl,rfl,h1⟩:=hP
 refine wH (fun σ' Nb=>Nb=H'∧σ'=[some (.ref r),some (.int (p:Int)),some (.ref D),some (.int (i:Int)),some (.int (j:Int)),some (.int (kk:Int))]∧(j<p→¬(0<O p↔0<O kk))) (fun σ' Nb hP=>?_) (fun N rest=>?_)
 rotate_left
 ·rw?
  refine cu (fun c1=>?_) (fun c1=>?_)
  ·have Fd:=c6 c1
   rw?
   refine cG eD (vN hpn) ?_
   rw?
   refine cG eD (vN hkn) ?_
   rw?
   refine Yk ?_
   rw?
   refine cu (fun c2=>?_) (fun c2=>?_)
   ·have c2':(0<O p↔0<O kk):=CL.mp (qP.mp c2)
    rw?
    refine aF (mk:=.tup) 0#f fun r' H1 s1 n1 e1=>?_
    refine tell s1 e1 hij (by lia) hpn ?_ (.inr (.inr rfl))
    rcases Nv hm0 hmj ok hp c2' with ⟨u,v⟩ | ⟨u,v⟩
    ·exact .inl ⟨u,by rw [oi'];exact u,v⟩
    ·exact .inr ⟨u,by rw [oi];exact u,v⟩
   ·rw?
    refine rest _ _ ⟨rfl,rfl,fun _ z=>c2 (qP.mpr (CL.mpr z))⟩
  ·have Fd:¬(j:Int)<(p:Int):=fun z=>c1 (dz z)
   refine bE ?_
   rw?
   exact rest _ _ ⟨rfl,rfl,fun z=>absurd (by lia) Fd⟩
 obtain ⟨rfl,rfl,h2⟩:=hP
 have far:∀{q:Nat},¬(0<O p↔0<O q)→(0<O p∧O q≤0)∨(O p≤0∧0<O q):=fun {q} z=>by
  by_cases a1:0<O p
  ·exact .inl ⟨a1,zS.mp fun b1=>z ⟨fun _=>b1,fun _=>a1⟩⟩
  ·exact .inr ⟨zS.mp a1,EI fun b1=>z ⟨fun c=>absurd c a1,fun c=>absurd c b1⟩⟩
 rw?
 refine cu (fun c1=>?_) (fun c1=>?_)
 ·have Fd:=c6 c1
  have hf:=far (h1 (by lia))
  rw?
  refine aF (mk:=.tup) 0#f fun r' H1 s1 n1 e1=>?_
  refine tell s1 e1 (by lia) hij (by lia) ?_ (.inl rfl)
  rcases Fq hm0 hmj oi hp hf with ⟨u,v⟩ | ⟨u,v⟩
  ·exact .inr ⟨by rw [oi'];exact v,u,v⟩
  ·exact .inl ⟨by rw [oi];exact v,u,v⟩
 ·have Fd:¬(p:Int)<(i:Int):=fun z=>c1 (dz z)
  rw?
  refine cu (fun c2=>?_) (fun c2=>?_)
  ·have c2':=c6 c2
   have hf:=far (h2 (by lia))
   rw?
   refine aF (mk:=.tup) 0#f fun r' H1 s1 n1 e1=>?_
   refine tell s1 e1 hjk (by lia) hpn ?_ (.inr (.inr rfl))
   rcases Fq hm0 hmj ok hp hf with ⟨u,v⟩ | ⟨u,v⟩
   ·exact .inr ⟨by rw [ok'];exact v,v,u⟩
   ·exact .inl ⟨by rw [ok];exact v,v,u⟩
  ·have c2':¬(kk:Int)<(p:Int):=fun z=>c2 (dz z)
   rw?
   refine aF (mk:=.tup) 0#f fun r' H1 s1 n1 e1=>?_
   refine tell s1 e1 (by lia) (by lia) hkn ?_ (.inr (.inl rfl))
   have hf:(m≤O p∧m≤O j)∨(m≤-O p∧m≤-O j):=by
    rcases O1 p j with z | z
    ·exact Fq hm0 hmj oi hp (far (h1 z))
    ·exact Fq hm0 hmj ok hp (far (h2 (by lia)))
   rcases hf with ⟨u,v⟩ | ⟨u,v⟩
   ·exact .inl ⟨u,by rw [oi'];exact v,by rw [ok'];exact v⟩
   ·exact .inr ⟨u,by rw [oi];exact v,by rw [ok];exact v⟩
end
theorem QH (W:Nat→St→Hp→Prop) (h0:∃m,W m σ H)
 (hs:∀m σ H,W m σ H→∀R:Bool→Hp→Prop,(∀H1,(∀M:St→Hp→Prop,(∀σ' H' m',W m' σ' H'→m'<m→M σ' H')→tb { D with nx:=M,ct:=M,bk:=D.nx } σ H1)→R true H1)→(∀H1,D.nx σ H1→R false H1)→c σ H R):HB c tb D σ H:=by
 refine ⟨W,h0,?_⟩
 intro m σ H p
 refine hs m σ H p _ (fun H1 q=>?_) (fun H1 q=>?_)
 ·rw [if_pos rfl]
  exact ⟨fun σ' H'=>∃m',m'<m∧W m' σ' H',fun σ' H' ⟨m',l,z⟩=>⟨m',l,z⟩,q _ fun _ _ m' a b=>⟨m',b,a⟩⟩
 ·rw [if_neg eO]
  exact q
section
theorem cQ:aE ["samples","points","three","offs","misses","worst"] ["samples"] (ah lJ):=0#a
theorem yg (F:cH K "forcing_three" "forcing_three" lJ f fd) (T:Txt mg) (mL:Dn P w K mg base 3 "whole_points" ["samples"] Cv) (oA:Dn P w K mg base 2 "scaled_offs" ["points","three"] MW) (qZ:Dn P w K mg base 1 "exchanged" ["three","far","offs"] MP):bg P w K mg base cM 4 f fd ["samples"] yJ:=by
 refine F.ok cQ 0#e 0#b
 ·obtain ⟨l,es,n,rfl,_⟩:=h
  rfl
 obtain ⟨l,es,n,rfl,hl,hR,hS,cK,hn1,hn,h3,xF,k⟩:=h
 refine bD ⟨_,(au (aN 1 cQ.nd (Jd.c1 mL hr 0#m)) (au (aN 2 cQ.nd (bR (Jd.a3 aB (aJ gF (cR K T.gA 0#x) aB) (aJ cB (cR K T.gA 0#x) aB)))) (aG (Jd.mU iM (o7 lT) (au (aN 3 cQ.nd (b9 oA hr 0#x (aa 2))) (au (Jd.kF (O:=["scaled"]) (N':=[]) (cap:=[]) (i:=4) cQ.nd rfl 0#n rfl (gU K (aa 3)) (fun _ _ _ _ _=>(bQ (i:=0) (show iN [("scaled":Str)] by decide +kernel) rfl 0#n)) (fun _ _ _ _ _=>jn) (fun _ _ _ _ _=>(fj zY rfl T.zZ Au (bX 0#m gc aP) (he:=aP) (hpl:=bS))) rfl trivial rfl 0#g rfl 0#g (by rfl)) (au (aN 5 cQ.nd (fj (afI K rfl) rfl T.abi Ux (cO (aa 4)) (he:=aP) (hpl:=bS))) (au (bK (bh cI (aa 5) (cy (lS K) (aa 4) (aK K (aa 2)) 0#o) (aD _)) (aG (aR (aa 2))) bW) (aG (aN 2 cQ.nd (Jd.c3 qZ hr (aa 2) (Jd.aa1 K (aa 4) (aa 5)) (aa 3)))))))))))),?_⟩
 rw?
 refine ⟨l,es,n,rfl,hl,hR,hS,hn1,hn,xF,fun L ps y C H1 s1 nL hP hpl hC hy=>?_⟩
 have hz:∀q,q<ps.length→Sz 8000 (mo es q)∧Sz 8000 (y q):=fun q hq=>by
  obtain ⟨_,_,_,_,_,zm⟩:=dc hR hS (show q<es.length by try?)
  exact ⟨zm.mono 0#d,(hy q 0#d).2⟩
 have hlt:∀{a b:Nat},a<b→b<ps.length→mo es a<mo es b:=fun h1 h2=>fR cK h1 0#d
 rw [← hpl] at h3 xF
 rw?
 refine cE (.inl (aW.of hP.at_)) ?_
 rw [eV]
 rw?
 refine iC ⟨by decide,by decide⟩ ?_
 rw?
 refine cE (.inl (aW.of hP.at_)) ?_
 rw [eV]
 rw?
 refine aF (mk:=.tup) 0#f fun r0 H2 s2 n2 e2=>?_
 have V3:H2 r0=some (.tup [.int ((0:Nat):Int),.int ((ps.length/2:Nat):Int),.int ((ps.length-1:Nat):Int)]):=by
  rw [e2]
  have a1:(ps.length:Int).fdiv 2=((ps.length/2:Nat):Int):=by
   rw [DQ _ 0#d]
   rfl
  have a2:(ps.length:Int)-1=((ps.length-1:Nat):Int):=by try?
  rw [a1,a2]
  rfl
 rw?
 refine QH (fun m σ H3=>∃(i j kk:Nat) (r:ao) (v3 v4 v5:Option V),σ=[some (.ref l),some (.ref L),some (.ref r),v3,v4,v5]∧aq H1 H3∧H3 r=some (.tup [.int (i:Int),.int (j:Int),.int (kk:Int)])∧i<j∧j<kk∧kk<ps.length∧m=beyond (mo es) y ps.length (A9 (mo es) y i j kk)) ⟨_,0,ps.length/2,ps.length-1,r0,none,none,none,rfl,s2,V3,by try?,by try?,by try?,rfl⟩ ?_
 rintro m σ H3 ⟨i,j,kk,r,v3,v4,v5,rfl,s3,er,hij,hjk,hkn,rfl⟩ RR hyes hno
 rw?
 refine hyes _ fun M hM=>?_
 rw?
 refine ⟨L,r,ps,mo es,y,i,j,kk,rfl,hP.up s3,xF,er,by try?,by try?,hkn,hz,fun D H4 s4 nD eD=>?_⟩
 have er4:=s4 _ _ er
 generalize hO:pG (mo es) y i j kk=O at *
 have o1:O i=- O j:=by rw [← hO,Qi,AO]
 have o2:O kk=- O j:=by rw [← hO,SH,AO]
 have o3:O j=ab (mo es) y i kk j:=by rw [← hO,AO]
 rw?
 refine gV ?_
 rw?
 refine ⟨D,rfl,⟨_,aW.of eD⟩,?_⟩
 refine bY (xs:=((kq ps.length).map O).map V.int) bL (fun H5 s5=>aW.of (s5 _ _ eD)) (by simp;try?) (fun q ys G=>ys=((kq q).map fun q=>((O q).natAbs:Int)).map V.int) rfl ?_ ?_
 ·rintro D' q x ys H5 ly NN N0 h0 X5 HG s5 hx hyl rfl kY kN
  rw [jQ,jQ] at hx
  obtain ⟨z,gz,rfl⟩:=oU.mp hx
  obtain ⟨q',gq,rfl⟩:=oU.mp gz
  obtain ⟨hq1,hq2⟩:=fZ.mp gq
  obtain rfl:q=q':=by simpa using hq2
  refine dG h0 ?_
  rw?
  refine bJ ?_
  rw?
  refine kY _ H5 (aq.refl _) ?_
  rw [uy,ju,ju,iR]
  rfl
 ·rintro D' ys H5 X5 HG s5 hyl rfl
  rw [eV,eV,Zf] at HG
  have er5:=s5 _ _ er4
  rw?
  refine abP (aW.of HG) (by simp;try?) fun M' hM1 hM2=>?_
  rw?
  refine cG HG (vN (O:=fun q=>((O q).natAbs:Int)) (show j<ps.length by try?)) ?_
  rw?
  refine cu (fun c1=>?_) (fun c1=>?_)
  ·have Fd:M'=((O j).natAbs:Int):=c6 c1
   rw?
   refine k r i j kk y C H5 (s1.trans (s3.trans (s4.trans s5))) er5 hC (fun i hi=>(hy i hi).1) ⟨hij,hjk,by try?,fun p hp=>?_⟩
   have:=hM2 ((O p).natAbs:Int) (eU.mpr ⟨p,xD.mpr 0#d,rfl⟩)
   rw [hO,← o3]
   try?
  ·have Fd:¬M'=((O j).natAbs:Int):=fun z=>c1 (dz z)
   have agj:=hM2 ((O j).natAbs:Int) (eU.mpr ⟨j,xD.mpr 0#d,rfl⟩)
   rw?
   refine ⟨.inl ⟨rfl,_,aW.of HG⟩,?_⟩
   rw?
   refine adE HG (by simp;try?) hM1 fun p gp=>?_
   rw [jQ] at gp
   obtain ⟨p',gp',hpe⟩:=oU.mp gp
   obtain ⟨hp1,hp2⟩:=fZ.mp gp'
   obtain rfl:p=p':=by simpa using hp2
   have hpn:p<ps.length:=by simpa using hp1
   rw?
   refine ⟨r,D,i,j,kk,p,ps.length,O,((O j).natAbs:Int),rfl,er5,s5 _ _ eD,hij,hjk,hkn,hpn,by try?,by try?,by try?,fun r' a b c H6 s6 e6 hab hbc hcn halt=>?_⟩
   rw?
   refine hM _ _ _ ⟨a,b,c,r',_,_,_,rfl,s3.trans (s4.trans (s5.trans s6)),e6,hab,hbc,hcn,rfl⟩ ?_
   refine Pe 0#d 0#d hcn (aas (j:=j) (hlt 0#d hkn) (hlt hab 0#d) (hlt hbc hcn) ?_)
   rw [hO,← o3]
   exact halt
end
def mS (es:List En) (s h:Rat) (p:Nat):Rat:=wo es p-(s*(mo es p:Rat)+h)
structure Q7 (es:List En) (s h w:Rat) (F:Option (Nat×Nat×Nat)):Prop where
 nn:0≤w
 le:∀p,p<es.length→cP (mS es s h p)≤w
 none_:F=none→w=0
 JG:∀i j k,F=some (i,j,k)→w≠0∧i<j∧j<k∧k<es.length∧((mS es s h i=-w∧mS es s h j=w∧mS es s h k=-w)∨(mS es s h i=w∧mS es s h j=-w∧mS es s h k=w))
def Lin (es:List En) (s h:Rat):Prop:=(es.length=1∧s=0∧h=wo es 0)∨∃i j k,i<k∧k<es.length∧j<es.length∧s=(wo es k-wo es i)/((mo es k-mo es i:Int):Rat)∧(h=wo es i-s*(mo es i:Rat)∨h=wo es i-s*(mo es i:Rat)+sd es i j k*(1/2))
def acr (H:Hp) (F:Option (Nat×Nat×Nat)) (v:V):Prop:=match F with
 | none=>v=.bC
 | some (i,j,k)=>∃r,v=.ref r∧H r=some (.tup [.int (i:Int),.int (j:Int),.int (k:Int)])
theorem RE {C:Int} (hC:1≤C) (ht:mo es i<mo es k) (hy:∀q,q<es.length→(y q:Rat)=wo es q*(C:Rat)) (hi:i<es.length) (hj:j<es.length) (hk:k<es.length) (hp:p<es.length) :
 (pG (mo es) y i j k p:Rat)=2*(C:Rat)*((mo es k:Rat)-(mo es i:Rat))*(mS es ((wo es k-wo es i)/((mo es k:Rat)-(mo es i:Rat))) (wo es i-(wo es k-wo es i)/((mo es k:Rat)-(mo es i:Rat))*(mo es i:Rat)+(wo es j-c7 (mo es i) (wo es i) (mo es j) (mo es k) (wo es k))/2) p):=by
 have hT:((mo es k:Rat)-(mo es i:Rat))≠0:=by
  have:=dB (b:=mo es k-mo es i) 0#d
  rw [uo] at this
  exact this
 unfold pG ab mS c7
 simp only [sW,uo,hy i hi,hy j hj,hy k hk,hy p hp]
 generalize (mo es k:Rat)=tk at *
 generalize (mo es i:Rat)=ti at *
 generalize (mo es j:Rat)=tj at *
 generalize (mo es p:Rat)=tp at *
 generalize (C:Rat)=c at *
 have e2:((2:Int):Rat)=2:=rfl
 rw [e2]
 grind
theorem Po {C:Int} (hC:1≤C) (cK:rising es) (hy:∀q,q<es.length→(y q:Rat)=wo es q*(C:Rat)) (hf:Flat (mo es) y es.length i j k)  (hs:s=(wo es k-wo es i)/((mo es k:Rat)-(mo es i:Rat))) (hd:d=(wo es j-c7 (mo es i) (wo es i) (mo es j) (mo es k) (wo es k))/2) (hh:h=wo es i-s*(mo es i:Rat)+d) :
 Q7 es s h (cP d) (if d=0 then none else some (i,j,k)):=by
 obtain ⟨hij,hjk,hkn,hle⟩:=hf
 have ht:mo es i<mo es k:=fR cK 0#d hkn
 have hp0:(0:Rat)<2*(C:Rat)*((mo es k:Rat)-(mo es i:Rat)):=by
  have a:=cast_pos (b:=C) 0#d
  have b:=cast_pos (b:=mo es k-mo es i) 0#d
  rw [uo] at b
  exact EX (by grind) b
 generalize hS:2*(C:Rat)*((mo es k:Rat)-(mo es i:Rat))=S at hp0
 have off:∀p,p<es.length→(pG (mo es) y i j k p:Rat)=S*mS es s h p:=fun p hp=>by
  rw [RE hC ht hy 0#d 0#d hkn hp,hS,hh,hd,hs]
 have oj:mS es s h j=d∧mS es s h i=-d∧mS es s h k=-d:=by
  have hT:((mo es k:Rat)-(mo es i:Rat))≠0:=by
   have:=dB (b:=mo es k-mo es i) 0#d
   rw [uo] at this
   exact this
  unfold mS
  rw [hh]
  unfold c7 at hd
  generalize (mo es k:Rat)=tk at *
  generalize (mo es i:Rat)=ti at *
  generalize (mo es j:Rat)=tj at *
  refine ⟨?_,?_,?_⟩
  ·rw [hs,hd]
   grind
  ·rw [hs,hd]
   grind
  ·rw [hs,hd]
   grind
 have XW:∀x:Int,(((x.natAbs:Nat):Int):Rat)=cP (x:Rat):=fun x=>by
  unfold cP
  by_cases e:x<0
  ·rw [if_pos (by have:=vC.mpr e;simpa using this),show ((x.natAbs:Nat):Int)=-x by try?,U3]
  ·rw [if_neg (by have:=OB.mpr (zS.mp e);grind),show ((x.natAbs:Nat):Int)=x by try?]
 have le:∀p,p<es.length→cP (mS es s h p)≤cP d:=fun p hp=>by
  have h1:=hle p hp
  have h2:((((pG (mo es) y i j k p).natAbs:Nat):Int):Rat)≤((((ab (mo es) y i k j).natAbs:Nat):Int):Rat):=OB.mpr 0#d
  rw [XW,XW,← AO (t:=mo es) (y:=y) (i:=i) (j:=j) (k:=k),off p hp,off j 0#d,oj.1,ZY S,ZY S,BX hp0,BX hp0] at h2
  exact Uq h2 hp0
 refine ⟨Xj d,le,fun e=>?_,fun i' j' k' e=>?_⟩
 ·by_cases z:d=0
  ·rw [z];rfl
  ·rw [if_neg z] at e;cases e
 ·by_cases z:d=0
  ·rw [if_pos z] at e;cases e
  ·rw [if_neg z] at e
   cases e
   obtain ⟨o1,o2,o3⟩:=oj
   refine ⟨fun q=>z ?_,hij,hjk,hkn,?_⟩
   ·unfold cP at q
    split at q <;> grind
   ·rw [o1,o2,o3]
    unfold cP
    split
    ·exact .inr ⟨rfl,by grind,rfl⟩
    ·exact .inl ⟨rfl,rfl,rfl⟩
inductive G7 (vs:List V) (H:Hp) (Q:VK) (E_:XK):Prop where
 | mk (l:ao) (es:List En) (n:Nat):vs=[.ref l]→H l=some (.lst (vals es))→Row H es n→lz es→rising es→1≤n→n≤600→es.length*n+n≤7000→1≤es.length→es.length≤40→(∀(z zl zw:ao) (F:V) (s h w:Rat) (Fo:Option (Nat×Nat×Nat)) (H':Hp),aq H H'→H' z=some (.tup [.ref zl,.ref zw,F])→i9 H' zl s h (13*n+15)→dw H' zw w (7*n+9)→acr H' Fo F→Q7 es s h w Fo→Lin es s h→Q (.ref z) H')→G7 vs H Q E_
inductive Cz (vs:List V) (H:Hp) (Q:VK) (E_:XK):Prop where
 | mk (p1 p2 p3:ao) (t1 t2 t3:Int) (q1 q2 q3:Rat) (n:Nat):vs=[.ref p1,.ref p2,.ref p3]→iQ H p1 t1 q1 n→iQ H p2 t2 q2 n→iQ H p3 t3 q3 n→t1<t3→7*n+7≤8000→(∀(z:ao) (H':Hp),aq H H'→dw H' z (q2-c7 t1 q1 t2 t3 q3) (7*n+7)→Q (.ref z) H')→Cz vs H Q E_
section
theorem TM:aE ["one","mid","last"] ["one","mid","last"] (ah GW):=0#a
theorem SS (F:cH K "stand" "stand" GW f fd) (bG:Dn P w K mg base 4 "reduced" ["quotient"] gO) (cT:Dn P w K mg base 4 "loose_stand" ["one","mid","last"] sJ):bg P w K mg base cM 5 f fd ["one","mid","last"] Cz:=by
 refine F.ok TM 0#e 0#b
 ·obtain ⟨p1,p2,p3,t1,t2,t3,q1,q2,q3,n,rfl,_⟩:=h
  rfl
 obtain ⟨p1,p2,p3,t1,t2,t3,q1,q2,q3,n,rfl,h1,h2,h3,ht,hn,k⟩:=h
 refine bD ⟨_,(aG (aR (Jd.c1 bG hr (Jd.c3 cT hr 0#m 0#x (aa 2))))),?_⟩
 rw?
 refine ⟨p1,p2,p3,t1,t2,t3,q1,q2,q3,n,rfl,h1,h2,h3,ht,by try?,fun x H1 s1 e1=>?_⟩
 rw?
 refine ⟨x,_,_,rfl,e1,hn,fun z H2 s2 e2=>?_⟩
 exact k z H2 (s1.trans s2) e2
theorem TN:aE ["one","other"] ["one","other"] (ah GX):=0#a
theorem SV (F:cH K "times" "times" GX f fd) (cU:Dn P w K mg base 1 "loose_times" ["one","other"] (jH (·*·) 0)) (bG:Dn P w K mg base 4 "reduced" ["quotient"] gO):bg P w K mg base cM 5 f fd ["one","other"] (qB (·*·) 0):=by
 refine F.ok TN 0#e 0#b
 ·obtain ⟨p,r,q,q',m,n,rfl,_⟩:=h
  rfl
 obtain ⟨p,r,q,q',m,n,rfl,hp,hr',hn,k⟩:=h
 refine bD ⟨_,(aG (aR (Jd.c1 bG hr (b9 cU hr 0#m 0#x)))),?_⟩
 rw?
 refine ⟨p,r,q,q',m,n,rfl,hp,hr',by try?,fun x H1 s1 e1=>?_⟩
 rw?
 refine ⟨x,_,_,rfl,e1,hn,fun y H2 s2 e2=>?_⟩
 exact k y H2 (s1.trans s2) e2
theorem SQ (F:cH K "size" "size" GU f fd) (T:Txt mg):bg P w K mg base cM 1 f fd ["one"] Hj:=by
 refine F.ok Oe 0#e 0#b
 ·obtain ⟨p,q,n,rfl,_⟩:=h
  rfl
 obtain ⟨p,q,n,rfl,⟨a,b,hp,hq,za,zb⟩,k⟩:=h
 refine bD ⟨_,(aG (aR (bR (bT (fj zY rfl T.zZ Au (cO (aK K 0#m)) (he:=Qz) (hpl:=bS)) (aK K 0#m))))),?_⟩
 rw?
 rw [iR]
 refine aF (mk:=.tup) 0#f fun p1 H1 s1 n1 e1=>?_
 refine k p1 H1 s1 ⟨_,_,e1,?_,za.of_le 0#d,zb⟩
 have:=hq.qt.abs
 exact ⟨hq.pos,by show Kf ((a.natAbs:Int).natAbs) b.natAbs=1;rw [UK];exact hq.co,this.eq⟩
theorem nU:aE ["samples","first","three","one","last","half","chord","forced"] ["samples"] (ah Mw):=0#a
theorem WT (F:cH K "best" "best" Mw f fd) (T:Txt mg) (AB:Dn P w K mg base 5 "slope" ["one","other"] Ho) (jU:Dn P w K mg base 5 "line_by" ["steep","sample"] wM) (lB:Dn P w K mg base 4 "forcing_three" ["samples"] yJ) (E4:Dn P w K mg base 5 "times" ["one","other"] (qB (·*·) 0)) (E3:Dn P w K mg base 5 "stand" ["one","mid","last"] Cz) (pZ:Dn P w K mg base 5 "plus" ["one","other"] (qB (·+·) 1)) (E2:Dn P w K mg base 1 "size" ["one"] Hj):bg P w K mg base cM 6 f fd ["samples"] G7:=by
 refine F.ok nU 0#e 0#b
 ·obtain ⟨l,es,n,rfl,_⟩:=h
  rfl
 obtain ⟨l,es,n,rfl,hl,hR,hS,cK,hn1,hn6,hn,h1,xF,k⟩:=h
 obtain ⟨x0,g0,sa0⟩:=dc hR hS (show 0<es.length by try?)
 obtain ⟨v0,ev0,fv0,zm0⟩:=id sa0
 have z1:∀{m:Nat},1≤m→Sz m 1:=fun h=>ym h
 have zero:∀{G:Hp} {p:ao} {m:Nat},G p=some (.tup [.int 0,.int 1])→1≤m→dw G p 0 m:=fun e h=>⟨0,1,e,by have:=Fr.whole 0;simpa using this,Sz.of_le (z1 h) 0#h,z1 h⟩
 refine bD ⟨_,(au (aN 1 nU.nd (cW K 0#m)) (au (bK (bh cI (cR K T.gA 0#m) aB (aD _)) (aG (aR (bR (Jd.a3 (bR (bT (bR (bT aB aB)) (aK K 0#x))) (bR (bT aB aB)) dW)))) bW) (au (bK (bh cI (cR K T.gA 0#m) aB (aD _)) (aG (aR (bR (Jd.a3 (b9 jU hr (b9 AB hr 0#x (cW K 0#m)) 0#x) (bR (bT aB aB)) dW)))) bW) (au (aN 2 nU.nd (Jd.c1 lB hr 0#m)) (au (aN 3 nU.nd (cy (lS K) 0#m (aK K (aa 2)) 0#o)) (au (aN 4 nU.nd (cy (lS K) 0#m (aK K (aa 2)) 0#o)) (au (aN 5 nU.nd (b9 E4 hr (Jd.c3 E3 hr (aa 3) (cy (lS K) 0#m (aK K (aa 2)) 0#o) (aa 4)) (bR (bT aB aB)))) (au (aN 6 nU.nd (b9 jU hr (b9 AB hr (aa 3) (aa 4)) (aa 3))) (au (aN 7 nU.nd (Jd.rR (bh cI (aK K (aa 5)) aB (aD _)) dW (aa 2))) (aG (aR (bR (Jd.a3 (bR (bT (aK K (aa 6)) (b9 pZ hr (aK K (aa 6)) (aa 5)))) (Jd.c1 E2 hr (aa 5)) (aa 7)))))))))))))),?_⟩
 refine wH (fun σ' H'=>H'=H∧σ'=[some (.ref l),some (.ref x0.1),none,none,none,none,none,none]) (fun σ' H' hP=>?_) (fun N rest=>?_)
 rotate_left
 ·rw?
  refine cG hl (mP (i:=0) g0 rfl) ?_
  rw?
  exact rest _ _ ⟨rfl,rfl⟩
 obtain ⟨rfl,rfl⟩:=hP
 refine wH (fun σ' Nb=>Nb=H'∧σ'=[some (.ref l),some (.ref x0.1),none,none,none,none,none,none]∧es.length≠1) (fun σ' Nb hP=>?_) (fun N rest=>?_)
 rotate_left
 ·rw?
  refine cE (.inl (aW.of hl)) ?_
  rw [aS]
  rw?
  refine cu (fun c1=>?_) (fun c1=>?_)
  ·have Fd:(es.length:Int)=1:=c6 c1
   rw?
   refine aF (mk:=.tup) 0#f fun p1 H1 s1 n1 e1=>?_
   have ev1:=s1 _ _ ev0
   rw?
   refine aF (mk:=.tup) 0#f fun p2 H2 s2 n2 e2=>?_
   rw?
   refine aF (mk:=.tup) 0#f fun p3 H3 s3 n3 e3=>?_
   rw?
   refine aF (mk:=.tup) 0#f fun p4 H4 s4 n4 e4=>?_
   have VA:=s3.trans s4
   have Q3:=s2.trans VA
   refine k p4 p2 p3 .bC 0 (wo es 0) 0 none H4 (s1.trans Q3) e4 ⟨p1,v0,VA _ _ e2,zero (Q3 _ _ e1) 0#d,(fv0.up (s1.trans Q3)).mono 0#d⟩ (zero (s4 _ _ e3) 0#d) rfl ⟨xr,fun p hp=>?_,fun _=>rfl,fun _ _ _ e=>nomatch e⟩ (.inl ⟨by try?,rfl,rfl⟩)
   obtain rfl:p=0:=by try?
   unfold mS
   rw [show wo es 0-(0*(mo es 0:Rat)+wo es 0)=0 by grind]
   exact xr
  ·rw?
   exact rest _ _ ⟨rfl,rfl,fun z=>c1 (dz 0#d)⟩
 obtain ⟨rfl,rfl,agl⟩:=hP
 refine wH (fun σ' H'=>H'=Nb∧σ'=[some (.ref l),some (.ref x0.1),none,none,none,none,none,none]∧3≤es.length) (fun σ' H' hP=>?_) (fun N rest=>?_)
 rotate_left
 ·rw?
  refine cE (.inl (aW.of hl)) ?_
  rw [aS]
  rw?
  refine cu (fun c1=>?_) (fun c1=>?_)
  ·have Fd:(es.length:Int)=2:=c6 c1
   obtain ⟨x1,g1,sa1⟩:=dc hR hS (show 1<es.length by try?)
   have hlt:=fR cK (show 0<1 by decide) (show 1<es.length by try?)
   rw?
   refine cG hl (mP (i:=1) g1 rfl) ?_
   rw?
   refine ⟨x0.1,x1.1,_,_,_,_,n,rfl,sa0,sa1,by try?,by try?,fun p1 H1 s1 f1=>?_⟩
   rw?
   refine ⟨p1,x0.1,_,_,_,_,n,rfl,f1,sa0.up s1,hn1,by try?,fun zl r' H2 s2 ez fr=>?_⟩
   rw?
   refine aF (mk:=.tup) 0#f fun p3 H3 s3 n3 e3=>?_
   rw?
   refine aF (mk:=.tup) 0#f fun p4 H4 s4 n4 e4=>?_
   have VA:=s3.trans s4
   refine k p4 zl p3 .bC _ _ 0 none H4 (s1.trans (s2.trans VA)) e4 ⟨p1,r',VA _ _ ez,(f1.up (s2.trans VA)).mono 0#d,(fr.up VA).mono 0#d⟩ (zero (s4 _ _ e3) 0#d) rfl ⟨xr,fun p hp=>?_,fun _=>rfl,fun _ _ _ e=>nomatch e⟩ (.inr ⟨0,0,1,by decide,by try?,by try?,rfl,.inl rfl⟩)
   have hT:=dB (b:=mo es 1-mo es 0) 0#d
   rw [uo] at hT
   have:mS es ((wo es 1-wo es 0)/((mo es 1-mo es 0:Int):Rat)) (wo es 0-(wo es 1-wo es 0)/((mo es 1-mo es 0:Int):Rat)*(mo es 0:Rat)) p=0:=by
    unfold mS
    rw [uo]
    rcases (show p=0∨p=1 by try?) with rfl | rfl
    ·grind
    ·grind
   rw [this]
   exact xr
  ·rw?
   exact rest _ _ ⟨rfl,rfl,by
    have:¬(es.length:Int)=2:=fun z=>c1 (dz z)
    try?⟩
 obtain ⟨rfl,rfl,h3⟩:=hP
 rw?
 refine ⟨l,es,n,rfl,hl,hR,hS,cK,hn1,hn,h3,xF,fun r i j kk y C H1 s1 er hC hy IG=>?_⟩
 obtain ⟨hij,hjk,hkn,_⟩:=id IG
 have hlt:=fR cK (show i<kk by try?) hkn
 have hl1:=s1 _ _ hl
 obtain ⟨xi,gi,si⟩:=dc (hR.up s1) hS (show i<es.length by try?)
 obtain ⟨xj,gj,sj⟩:=dc (hR.up s1) hS (show j<es.length by try?)
 obtain ⟨xk,gk,sk⟩:=dc (hR.up s1) hS hkn
 rw?
 refine cG hl1 (mP gi rfl) ?_
 rw?
 refine cG hl1 (mP gk rfl) ?_
 rw?
 refine cG hl1 (mP gj rfl) ?_
 rw?
 refine ⟨xi.1,xj.1,xk.1,_,_,_,_,_,_,n,rfl,si,sj,sk,hlt,by try?,fun p2 H2 s2 f2=>?_⟩
 rw?
 refine aF (mk:=.tup) 0#f fun p3 H3 s3 n3 e3=>?_
 rw?
 refine ⟨p2,p3,_,1/2,_,2,rfl,(f2.up s3).qt,⟨1,2,e3,⟨by decide,by decide +kernel⟩,by decide,by decide⟩,by try?,fun p4 H4 s4 f4=>?_⟩
 have Q3:=s2.trans (s3.trans s4)
 rw?
 refine ⟨xi.1,xk.1,_,_,_,_,n,rfl,si.up Q3,sk.up Q3,by try?,by try?,fun p5 H5 s5 f5=>?_⟩
 rw?
 refine ⟨p5,xi.1,_,_,_,_,n,rfl,f5,si.up (Q3.trans s5),hn1,by try?,fun zc rc H6 s6 ec fc=>?_⟩
 have VB:=s5.trans s6
 try dsimp only at f4
 generalize hd:(wo es j-c7 (mo es i) (wo es i) (mo es j) (mo es kk) (wo es kk))*(1/2)=d at f4
 generalize hs:(wo es kk-wo es i)/((mo es kk-mo es i:Int):Rat)=sl at f5 fc
 have hB:=Po hC cK hy IG (s:=sl) (d:=d) (h:=wo es i-sl*(mo es i:Rat)+d) (by rw [← hs,uo]) (by rw [← hd];grind) rfl
 have f46:=f4.up VB
 obtain ⟨tp,bt,e6,fr6,zt6,zb6⟩:=id f46
 have er6:=(Q3.trans VB) _ _ er
 have ht0:tp=0↔d=0:=by
  have acQ:=dB (b:=bt) (by have:=fr6.pos;try?)
  have he:=fr6.eq
  constructor
  ·intro z
   rw [z] at he
   have:((0:Int):Rat)=0:=rfl
   rw [this] at he
   rcases Zu.mp he.symm with q | q
   ·exact q
   ·exact absurd q acQ
  ·intro z
   rw [z,Vg] at he
   exact ES.mp he
 refine Yc ?_
 refine wH (fun σ' H'=>H'=H6∧∃v,σ'=[some (.ref l),some (.ref x0.1),some (.ref r),some (.ref xi.1),some (.ref xk.1),some (.ref p4),some (.ref zc),some v]∧acr H6 (if d=0 then none else some (i,j,kk)) v) (fun σ' H' hP=>?_) (fun N rest=>?_)
 rotate_left
 ·rw?
  refine cu (fun c1=>?_) (fun c1=>?_)
  ·have Fd:=ht0.mp (c6 c1)
   rw?
   exact rest _ _ ⟨rfl,.bC,rfl,by rw [if_pos Fd];rfl⟩
  ·have Fd:¬d=0:=fun z=>c1 (dz (ht0.mpr z))
   rw?
   exact rest _ _ ⟨rfl,.ref r,rfl,by rw [if_neg Fd];exact ⟨r,rfl,er6⟩⟩
 obtain ⟨rfl,v,rfl,hv⟩:=hP
 rw?
 refine ⟨rc,p4,_,_,_,_,rfl,fc.qt,f46.qt,by try?,fun p7 H7 s7 f7=>?_⟩
 rw?
 refine aF (mk:=.tup) 0#f fun p8 H8 s8 n8 e8=>?_
 have s68:=s7.trans s8
 rw?
 refine ⟨p4,_,_,rfl,f46.up s68,fun p9 H9 s9 f9=>?_⟩
 rw?
 refine aF (mk:=.tup) 0#f fun p10 tE qK xG HF=>?_
 have DJ:=s9.trans qK
 have abY:=s68.trans DJ
 refine k p10 p8 p9 v sl _ _ _ tE (s1.trans (Q3.trans (VB.trans abY))) HF ⟨p5,p7,DJ _ _ e8,(f5.up (s6.trans abY)).mono 0#d,(f7.up (s8.trans DJ)).mono 0#d⟩ ((f9.up qK).mono 0#d) ?_ hB (.inr ⟨i,j,kk,by try?,hkn,by try?,hs.symm,.inr (by rw [← hd];rfl)⟩)
 by_cases z:d=0
 ·rw [if_pos z] at hv ⊢
  exact hv
 ·rw [if_neg z] at hv ⊢
  obtain ⟨r',e1,e2⟩:=hv
  exact ⟨r',e1,abY _ _ e2⟩
end
def vQ (es:List En) (a b c:Nat):Rat:=cP (sd es a b c)/2
theorem TQ (hac:mo es a<mo es c):sd es a b c=mS es s h b-c7 (mo es a) (mS es s h a) (mo es b) (mo es c) (mS es s h c):=by
 have hT:((mo es c:Rat)-(mo es a:Rat))≠0:=by
  have:=dB (b:=mo es c-mo es a) 0#d
  rw [uo] at this
  exact this
 unfold sd mS c7
 generalize (mo es a:Rat)=ta at *
 generalize (mo es b:Rat)=tb at *
 generalize (mo es c:Rat)=tc at *
 grind
theorem Rr (h1:ta<tb) (h2:tb<tc) (hx:x≤M) (hy:y≤M):c7 ta x tb tc y≤M:=by
 have a:=QJ hx (show 0≤tc-tb by grind)
 have b:=QJ hy (show 0≤tb-ta by grind)
 refine lu.mp fun z=>?_
 unfold c7 at z
 rw [ZC (by grind)] at z
 grind
theorem Rq (h1:ta<tb) (h2:tb<tc) (hx:M≤x) (hy:M≤y):M≤c7 ta x tb tc y:=by
 have a:=QJ hx (show 0≤tc-tb by grind)
 have b:=QJ hy (show 0≤tb-ta by grind)
 refine lu.mp fun z=>?_
 unfold c7 at z
 rw [ZA (by grind)] at z
 grind
theorem Wq (cK:rising es) (hle:∀p,p<es.length→cP (mS es s h p)≤w)  (hab:a<b) (hbc:b<c) (hc:c<es.length):vQ es a b c≤w:=by
 have t1:(mo es a:Rat)<(mo es b:Rat):=vC.mpr (fR cK hab 0#d)
 have t2:(mo es b:Rat)<(mo es c:Rat):=vC.mpr (fR cK hbc hc)
 have e:=TQ (es:=es) (s:=s) (h:=h) (a:=a) (b:=b) (c:=c) (fR cK 0#d hc)
 obtain ⟨a1,a2⟩:=wA.mp (hle a 0#d)
 obtain ⟨b1,b2⟩:=wA.mp (hle b 0#d)
 obtain ⟨c1,c2⟩:=wA.mp (hle c hc)
 have u1:=Rr t1 t2 a2 c2
 have u2:=Rq t1 t2 a1 c1
 have:cP (sd es a b c)≤2*w:=wA.mpr (by rw [e];constructor <;> grind)
 unfold vQ
 grind
theorem A6 (cK:rising es) (hB:Q7 es s h w (some (i,j,k))):i<j∧j<k∧k<es.length∧vQ es i j k=w∧w≠0:=by
 obtain ⟨hw,hij,hjk,hk,ho⟩:=hB.JG i j k rfl
 have t1:(mo es i:Rat)<(mo es j:Rat):=vC.mpr (fR cK hij 0#d)
 have t2:(mo es j:Rat)<(mo es k:Rat):=vC.mpr (fR cK hjk hk)
 have e:=TQ (es:=es) (s:=s) (h:=h) (a:=i) (b:=j) (c:=k) (fR cK 0#d hk)
 have hn:=hB.nn
 refine ⟨hij,hjk,hk,?_,hw⟩
 unfold vQ
 have one:∀x:Rat,c7 (mo es i) x (mo es j) (mo es k) x=x:=fun x=>by
  unfold c7
  generalize (mo es i:Rat)=ta at *
  generalize (mo es j:Rat)=tb at *
  generalize (mo es k:Rat)=tc at *
  grind
 rcases ho with ⟨o1,o2,o3⟩ | ⟨o1,o2,o3⟩
 ·rw [e,o1,o2,o3,one]
  unfold cP
  split <;> grind
 ·rw [e,o1,o2,o3,one]
  unfold cP
  split <;> grind
def gW {α β:Type} (R:α→β→Prop):List α→List β→Prop
 | [],[]=>True
 | a::as,b::bs=>R a b∧gW R as bs
 | _,_=>False
theorem uQ:∀{as:List α} {bs:List β},gW R as bs→R a b→gW R (as++[a]) (bs++[b])
 | [],[],_,r=>⟨r,trivial⟩
 | _::_,_::_,h,r=>⟨h.1,uQ h.2 r⟩
 | [],_::_,h,_=>h.elim
 | _::_,[],h,_=>h.elim
theorem mE:∀{as:List α} {bs:List β},(∀a b,a∈as→R a b→S a b)→gW R as bs→gW S as bs
 | [],[],_,_=>trivial
 | _::_,_::_,u,r=>⟨u _ _ 0#f r.1,mE (fun a b ha=>u a b (by simp [ha])) r.2⟩
 | [],_::_,_,r=>r.elim
 | _::_,[],_,r=>r.elim
theorem iB:∀(i:Nat) (r:List α),r∈parts s es i→r≠[]∧(∀x∈r,s x=true)∧r.Sublist (es.take i)
 | 0,r,h=>absurd h (by simp [parts])
 | i+1,r,h=>by
   have ih:=iB (s:=s) (es:=es) i
   have up:∀r:List α,r.Sublist (es.take i)→r.Sublist (es.take (i+1)):=fun r q=>q.trans (List.take_sublist_take_left (sQ _))
   unfold parts at h
   cases e:es[i]? with
   | none=>rw [e] at h;exact ⟨(ih r h).1,(ih r h).2.1,up r (ih r h).2.2⟩
   | some y=>
     rw [e] at h
     have tk:es.take (i+1)=es.take i++[y]:=by rw [xC,e];rfl
     dsimp only at h
     split at h
     ·rename_i hs
      split at h
      ·rename_i hr
       obtain ⟨t,r',hp⟩:=vZ hr
       have hm:r'∈parts s es i:=by rw [hp];simp
       have hgl:(parts s es i).getLast?.getD []=r':=by rw [hp];simp
       rcases dH.mp h with z | z
       ·have q:=ih r (YO _ |>.subset z)
        exact ⟨q.1,q.2.1,up r q.2.2⟩
       ·obtain rfl:r=((parts s es i).getLast?.getD [])++[y]:=by simpa using z
        rw [hgl]
        refine ⟨by simp,fun x hx=>?_,by rw [tk];exact aeT (ih r' hm).2.2 (ae0 _)⟩
        rcases dH.mp hx with q | q
        ·exact (ih r' hm).2.1 x q
        ·obtain rfl:x=y:=by simpa using q
         exact hs
      ·rcases dH.mp h with z | z
       ·exact ⟨(ih r z).1,(ih r z).2.1,up r (ih r z).2.2⟩
       ·obtain rfl:r=[y]:=by simpa using z
        refine ⟨by simp,fun x hx=>?_,by rw [tk];exact List.sublist_append_right _ _⟩
        obtain rfl:x=y:=by simpa using hx
        exact hs
     ·exact ⟨(ih r h).1,(ih r h).2.1,up r (ih r h).2.2⟩
abbrev Pc:=ao×(Rat×Rat×Rat×Rat)
def KH (H:Hp) (x:Pc) (n:Nat):Prop:=∃a b c d:ao,H x.1=some (.tup [.ref a,.ref b,.ref c,.ref d])∧dw H a x.2.1 n∧dw H b x.2.2.1 n∧dw H c x.2.2.2.1 n∧dw H d x.2.2.2.2 n
theorem KH.mv (t:∀{b:ao} {xs:List V},H b=some 0#s→H' b=some 0#s) (f:KH H x n):KH H' x n:=by
 obtain ⟨a,b,c,d,e,f1,f2,f3,f4⟩:=f
 have m:∀{b:ao} {q:Rat},dw H b q n→dw H' b q n:=fun f=>let ⟨x,d,e,f⟩:=f;⟨x,d,t e,f⟩
 exact ⟨a,b,c,d,t e,m f1,m f2,m f3,m f4⟩
def AllP (H:Hp) (ps:List Pc) (n:Nat):Prop:=∀x∈ps,KH H x n
theorem Bc (cK:rising es) (hB:0≤B):Kl es B↔∀i j k,i<j→j<k→k<es.length→cP (sd es i j k)≤B:=by
 have hr:acu (fun i=>(mo es i:Rat)) es.length:=fun i j hij hj=>vC.mpr (fR cK hij hj)
 constructor
 ·intro hF i j k hij hjk hk
  have hj:j<es.length:=CT hjk hk
  have d1:=hr i j hij hj
  have d2:=hr j k hjk hk
  have q1:=hF i j i j hij hj hij hj
  have q2:=hF i j j k hij hj hjk hk
  have q3:=hF j k i j hjk hk hij hj
  have q4:=hF j k j k hjk hk hjk hk
  by_cases hc:pB es B i j≤pB es B j k
  ·exact JL (s:=pB es B j k) (t:=fun i=>(mo es i:Rat)) (v:=wo es) d1 d2 hc q3 xr q4
  ·exact JL (s:=pB es B i j) (t:=fun i=>(mo es i:Rat)) (v:=wo es) d1 d2 xr q1 (EW (zU.mp hc)) q2
 ·intro hp i j k l hij hj II hl
  exact acT (t:=fun i=>(mo es i:Rat)) (v:=wo es) hr (fun a b c h1 h2 h3=>hp a b c h1 h2 h3) hB hij hj II hl
theorem Ri (cK:rising es) (hB:Q7 es s h w F) (oF:0≤β):Kl es (2*β)↔w≤β:=by
 rw [Bc cK (by grind)]
 constructor
 ·intro hp
  cases F with
  | none=>rw [hB.none_ rfl];exact oF
  | some x=>
    obtain ⟨i,j,k⟩:=x
    obtain ⟨q1,q2,q3,q4,_⟩:=A6 cK hB
    have:=hp i j k q1 q2 q3
    unfold vQ at q4
    grind
 ·intro hw i j k hij hjk hk
  have:=Wq cK hB.le hij hjk hk
  unfold vQ at this
  grind
def Kr (H:Hp) (p:ao) (q:List En) (N:Nat):Prop:=∃(s h w:Rat) (Fo:Option (Nat×Nat×Nat)),KH H (p,(mo q 0:Rat),s*(mo q 0:Rat)+h,(mo q (q.length-1):Rat),s*(mo q (q.length-1):Rat)+h) N∧Q7 q s h w Fo∧Lin q s h
theorem Kr.mv (t:∀{b:ao} {xs:List V},H b=some 0#s→H' b=some 0#s) (f:Kr H p q N):Kr H' p q N:=by
 obtain ⟨s,h,w,Fo,f,b⟩:=f
 exact ⟨s,h,w,Fo,f.mv t,b⟩
def Pb (H:Hp) (t:ao) (es:List En) (β:Rat):Prop:=∃i j:Nat,i<j∧j+1<es.length∧H t=some (.tup [.int (mo es i),.int (mo es j),.int (mo es (es.length-1))])∧β<vQ es i j (es.length-1)
theorem Pb.mv (t:∀{b:ao} {xs:List V},H b=some 0#s→H' b=some 0#s) (f:Pb H p q β):Pb H' p q β:=by
 obtain ⟨i,j,a,b,e,g⟩:=f
 exact ⟨i,j,a,b,t e,g⟩
structure HK (H:Hp) (run:List En) (β:Rat) (N:Nat) (qs:List (List En)) (ps ts:List ao):Prop where
 cut:Cut run (2*β) qs run.length
 lp:ps.length=qs.length
 lt:ts.length+1=qs.length
 pc:∀(i:Nat) (q:List En) (p:ao),qs[i]?=some q→ps[i]?=some p→Kr H p q N
 th:∀(i:Nat) (q q':List En) (x:En) (t:ao),qs[i]?=some q→qs[i+1]?=some q'→q'[0]?=some x→ts[i]?=some t→Pb H t (q++[x]) β
theorem HK.mv {run:List En} (t:∀{b:ao} {xs:List V},H b=some 0#s→H' b=some 0#s) (f:HK H run β N qs ps ts):HK H' run β N qs ps ts:=
 ⟨f.cut,f.lp,f.lt,fun i q p h1 h2=>(f.pc i q p h1 h2).mv t,fun i q q' x t' h1 h2 h3 h4=>(f.th i q q' x t' h1 h2 h3 h4).mv t⟩
def qV (H:Hp) (β:Rat) (N:Nat) (rs:List (List En)) (zs:List (List (List En)×List ao×List ao)):Prop:=gW (fun r z=>HK H r β N z.1 z.2.1 z.2.2) rs zs
theorem qV.mv (t:∀{b:ao} {xs:List V},H b=some 0#s→H' b=some 0#s) (f:qV H β N rs zs):qV H' β N rs zs:=mE (fun _ _ _ r=>r.mv t) f
def pN (zs:List (List (List En)×List ao×List ao)):List ao:=zs.flatMap (·.2.1)
def qJ (zs:List (List (List En)×List ao×List ao)):List ao:=zs.flatMap (·.2.2)
theorem ae9 (xs:List V):oE xs (some 1) none=xs.drop 1:=by
 unfold oE HT.GL
 cases xs with
 | nil=>rfl
 | cons x xs=>simp
theorem Cut.adp (h:Cut es B qs n) {i:Nat} (hq:qs[i]?=some q):1≤q.length∧q.length≤es.length:=by
 obtain ⟨pos,_,_,h⟩:=h
 obtain ⟨h1,h2,rfl,_⟩:=h i q hq
 rw [tM h2]
 try?
theorem Cut.len (h:Cut es B qs n):qs.length≤n:=by
 obtain ⟨pos,p0,pn,h⟩:=h
 have st:∀i,i≤qs.length→i≤pos i:=by
  intro i
  induction i with
  | zero=>intro _;exact nH _
  | succ i ih=>
    intro hi
    have a:=ih 0#d
    obtain ⟨h1,_⟩:=h i _ (je (show i<qs.length by try?))
    try?
 have:=st qs.length (dm _)
 try?
theorem jZ:∀i:Nat,(parts s es i).flatten=(es.take i).filter s
 | 0=>by simp [parts]
 | i+1=>by
   have ih:=jZ (s:=s) (es:=es) i
   unfold parts
   cases e:es[i]? with
   | none=>
     rw [xC,e]
     simpa using ih
   | some y=>
     have tk:es.take (i+1)=es.take i++[y]:=by rw [xC,e];rfl
     rw [tk,DR]
     dsimp only
     split
     ·rename_i hs
      split
      ·rename_i hr
       obtain ⟨t,r',hp⟩:=vZ hr
       rw [hp] at ih ⊢
       rw [← ih]
       simp [hs]
      ·rw [EL,ih]
       simp [hs]
     ·rename_i hs
      rw [ih]
      simp [hs]
theorem Pp {α:Type} {l:List (List α)} (i:Nat):(l.take i).flatten.length≤l.flatten.length:=by
 have e:l.flatten=(l.take i).flatten++(l.drop i).flatten:=by rw [← EL,OC]
 rw [e,cJ]
 exact OP _ _
theorem Cut.sub (h:Cut es B qs n) {i:Nat} (hq:qs[i]?=some q):q.Sublist es∧Kl q B:=by
 obtain ⟨pos,_,_,h⟩:=h
 obtain ⟨h1,h2,rfl,hf,_⟩:=h i q hq
 exact ⟨(J0 _ _).trans (UU _ _),hf⟩
theorem Cut.next (h:Cut es B qs n)  (hq:qs[i]?=some q) (hq':qs[i+1]?=some q'):∃x,q'[0]?=some x∧(q++[x]).Sublist es∧¬Kl (q++[x]) B:=by
 obtain ⟨pos,_,_,h⟩:=h
 obtain ⟨h1,h2,rfl,hf,hn⟩:=h i q hq
 obtain ⟨k1,k2,rfl,_,_⟩:=h (i+1) q' hq'
 have hlt:pos (i+1)<es.length:=by try?
 have hx:es[pos (i+1)]?=some es[pos (i+1)]:=je hlt
 refine ⟨es[pos (i+1)],by rw [tL 0#d,Vh];exact hx,?_,?_⟩
 ·rw [← mT 0#d hx]
  exact (J0 _ _).trans (UU _ _)
 ·rw [← mT 0#d hx]
  exact hn hlt
theorem Rh (h:es[es.length-1]?=some x):xE (vals es) (-1)=some (.ref x.1):=by
 have hl:=(fZ.mp h).1
 unfold xE
 rw [aS,AG (m:=es.length-1) 0#d]
 exact w6 h
inductive Ck (vs:List V) (H:Hp) (Q:VK) (E_:XK):Prop where
 | mk (p:ao) (s h:Rat) (a b:Int) (m n:Nat):vs=[.ref p,.int a,.int b]→i9 H p s h n→Sz m a→Sz m b→1≤m→m+2*n+1≤8000→(∀(z:ao) (H':Hp),aq H H'→KH H' (z,(a:Rat),s*(a:Rat)+h,(b:Rat),s*(b:Rat)+h) (m+2*n+1)→Q (.ref z) H')→Ck vs H Q E_
inductive sC (vs:List V) (H:Hp) (Q:VK) (E_:XK):Prop where
 | mk (l:ao) (es:List En) (n:Nat):vs=[.ref l]→H l=some (.lst (vals es))→Row H es n→lz es→rising es→1≤n→n≤200→es.length*n+n≤7000→1≤es.length→es.length≤40→(∀(p:ao) (H':Hp),aq H H'→Kr H' p es 6000→Q (.ref p) H')→sC vs H Q E_
inductive vB (vs:List V) (H:Hp) (Q:VK) (E_:XK):Prop where
 | mk (l x:ao) (es:List En) (m:Int) (q β:Rat) (n:Nat):vs=[.ref l,.ref x]→H l=some (.lst (vals es))→Row H es n→iQ H x m q n→lz es→rising (es++[(x,m,some q)])→1≤n→n≤200→(es.length+1)*n+n≤7000→es.length<40→0≤β→Kl es (2*β)→¬Kl (es++[(x,m,some q)]) (2*β)→(∀(t:ao) (H':Hp),aq H H'→Pb H' t (es++[(x,m,some q)]) β→Q (.ref t) H')→vB vs H Q E_
inductive AS (vs:List V) (H:Hp) (Q:VK) (E_:XK):Prop where
 | mk (l pb:ao) (es:List En) (β:Rat) (n nb:Nat):vs=[.ref l,.ref pb]→H l=some (.lst (vals es))→Row H es n→rising es→es.length≤40→bV H pb β nb→0≤β→1≤n→n≤165→nb≤1000→(∀(y X Z:ao) (zs:List (List (List En)×List ao×List ao)) (H':Hp),aq H H'→H' y=some (.tup [.ref X,.ref Z])→H X=none→H Z=none→X≠Z→H' X=some (.lst ((pN zs).map V.ref))→H' Z=some (.lst ((qJ zs).map V.ref))→qV H' β 6000 (parts gY es es.length) zs→Q (.ref y) H')→AS vs H Q E_
section
theorem Cg:aE ["line","first","last"] ["line","first","last"] (ah oQ):=0#a
theorem BK (F:cH K "piece_along" "piece_along" oQ f fd) (iP:Dn P w K mg base 5 "height" ["line","when"] sF):bg P w K mg base cM 6 f fd ["line","first","last"] Ck:=by
 refine F.ok Cg 0#e 0#b
 ·obtain ⟨p,s,h,a,b,m,n,rfl,_⟩:=h
  rfl
 obtain ⟨p,s,h,a,b,m,n,rfl,R7,za,zb,hm,hmn,k⟩:=h
 refine bD ⟨_,(aG (aR (bR (Jd.a4 (bR (bT 0#x aB)) (b9 iP hr 0#m (bR (bT 0#x aB))) (bR (bT (aa 2) aB)) (b9 iP hr 0#m (bR (bT (aa 2) aB))))))),?_⟩
 rw?
 refine aF (mk:=.tup) 0#f fun p1 H1 s1 n1 e1=>?_
 rw?
 refine aF (mk:=.tup) 0#f fun p2 H2 s2 n2 e2=>?_
 have eB:=s1.trans s2
 rw?
 refine ⟨p,p2,s,h,_,m,n,rfl,i9.up R7 eB,sO e2 za hm,hmn,fun p3 H3 s3 f3=>?_⟩
 have xH:=eB.trans s3
 rw?
 refine aF (mk:=.tup) 0#f fun p4 H4 s4 n4 e4=>?_
 rw?
 refine aF (mk:=.tup) 0#f fun p5 H5 s5 n5 e5=>?_
 have Mu:=xH.trans (s4.trans s5)
 rw?
 refine ⟨p,p5,s,h,_,m,n,rfl,i9.up R7 Mu,sO e5 zb hm,hmn,fun p6 H6 s6 f6=>?_⟩
 rw?
 refine aF (mk:=.tup) 0#f fun z H7 s7 n7 e7=>?_
 have s47:=s5.trans (s6.trans s7)
 have s37:=s4.trans s47
 have one:∀{y:Int},Sz m y→Sz (m+2*n+1) y:=fun z=>z.mono 0#d
 exact k z H7 (xH.trans s37) ⟨p1,p3,p4,p6,e7,⟨a,1,(s2.trans (s3.trans s37)) _ _ e1,Fr.whole a,one za,ym 0#d⟩,f3.up s37,⟨b,1,s47 _ _ e4,Fr.whole b,one zb,ym 0#d⟩,f6.up s7⟩
theorem DK:aE ["stretch"] ["stretch"] (ah qj):=0#a
theorem DA (F:cH K "best_piece" "best_piece" qj f fd) (oz:Dn P w K mg base 6 "piece_along" ["line","first","last"] Ck) (xJ:Dn P w K mg base 6 "best" ["samples"] G7):bg P w K mg base cM 7 f fd ["stretch"] sC:=by
 refine F.ok DK 0#e 0#b
 ·obtain ⟨l,es,n,rfl,_⟩:=h
  rfl
 obtain ⟨l,es,n,rfl,hl,hR,hA,cK,hn1,hn,R7,h1,xF,k⟩:=h
 refine bD ⟨_,(aG (aR (Jd.c3 oz hr (aK K (Jd.c1 xJ hr 0#m)) (aK K (cW K 0#m)) (aK K (cy (lS K) 0#m (jm fY aB) 0#o))))),?_⟩
 rw?
 refine ⟨l,es,n,rfl,hl,hR,hA,cK,hn1,by try?,R7,h1,xF,fun z zl zw Fv sl ht w' Fo H1 s1 ez hL _ _ hB afi=>?_⟩
 obtain ⟨e0,g0,v0,ev0,fv0,zt0⟩:=dc (hR.up s1) hA (show 0<es.length by try?)
 obtain ⟨e1,g1,v1,ev1,fv1,zt1⟩:=dc (hR.up s1) hA (show es.length-1<es.length by try?)
 have hl1:=s1 _ _ hl
 rw?
 refine cG hl1 (mP g0 rfl) ?_
 rw?
 refine cG hl1 (Rh g1) ?_
 rw?
 refine ⟨zl,sl,ht,_,_,n,13*n+15,rfl,hL,zt0,zt1,hn1,by try?,fun p H2 s2 f2=>?_⟩
 refine k p H2 (s1.trans s2) ⟨sl,ht,w',Fo,?_,hB,afi⟩
 obtain ⟨a,b,c,d,e,f1,f2,f3,f4⟩:=f2
 exact ⟨a,b,c,d,e,f1.mono 0#d,f2.mono 0#d,f3.mono 0#d,f4.mono 0#d⟩
theorem Xg (h:te σ H fun x H1=>∃a,x=.ref a∧(∃xs,nI K H1 a xs)∧R (Itt K a) H1):Wu K te σ H R:=h
theorem qL:aE ["stretch","behind","samples"] ["stretch","behind"] (ah m7):=0#a
theorem Ah (F:cH K "ending_three" "ending_three" m7 f fd) (T:Txt mg) (xJ:Dn P w K mg base 6 "best" ["samples"] G7):bg P w K mg base cM 7 f fd ["stretch","behind"] vB:=by
 refine F.ok qL 0#e 0#b
 ·obtain ⟨l,x,es,m,q,β,n,rfl,_⟩:=h
  rfl
 obtain ⟨l,x,es,m,q,β,n,rfl,hl,hR,hx,hA,cK,hn1,hn,R7,xF,oF,hf,hnf,k⟩:=h
 generalize hes:es++[(x,m,some q)]=fs at *
 have hlf:fs.length=es.length+1:=by rw [← hes];simp
 have hRf:Row H fs n:=by rw [← hes];exact hR.snoc hx.en
 have hAf:lz fs:=by rw [← hes];exact oX hA
 have hrs:rising es:=by rw [← hes] at cK;exact cK.sublist (List.sublist_append_left _ _)
 refine bD ⟨_,(au (nO (i:=2) qL.nd rfl (Or.inr rfl) (aJ iG 0#m (dP (cO 0#x))) (hs:=adZ)) (aG (aR (Bs kB rfl T.CF JS (cO (jA (O:=["place"]) (N':=["samples"]) (cap:=[2]) rfl (Jd.piT K (aK K (Jd.c1 xJ hr (aa 2)))) (fun _ _ _ _ _=>(bQ (i:=0) (show iN [("place":Str),("samples":Str)] by decide +kernel) rfl 0#n)) (fun _ _ _ _ _=>jn) (fun _ _ _ _ _=>(cy (HH K) (cy (lS K) 0#x 0#m 0#o) aB 0#o)) rfl 0#u rfl 0#g rfl 0#g)))))),?_⟩
 rw?
 refine aF (mk:=.lst) 0#f fun l1 H1 s1 n1 e1=>?_
 rw?
 refine jq (s1 _ _ hl) e1 ?_
 refine aF (mk:=.lst) (by rw [cJ,aS];simp;try?) fun L H2 s2 n2 e2=>?_
 have eL:H2 L=some (.lst (vals fs)):=by rw [e2,← hes];simp [vals]
 have eB:=s1.trans s2
 rw?
 refine Xg ?_
 rw?
 refine ⟨L,fs,n,rfl,eL,hRf.up eB,hAf,cK,hn1,by try?,by rw [hlf];exact R7,by try?,by try?,fun z zl zw Fv sl ht w' Fo H3 s3 ez _ _ hFo hB _=>?_⟩
 have hw:β<w':=zU.mp fun z=>hnf ((Ri cK hB oF).mpr z)
 cases Fo with
 | none=>exact absurd (hB.none_ rfl) (by grind)
 | some y=>
   obtain ⟨i,j,kk⟩:=y
   obtain ⟨q1,q2,q3,q4,_⟩:=A6 cK hB
   have hk:kk=es.length:=by
    refine EI fun hne=>?_
    have II:kk<es.length:=by try?
    have h1:=(Bc hrs (show (0:Rat)≤2*β by grind)).mp hf i j kk q1 q2 II
    have e:sd es i j kk=sd fs i j kk:=by
     unfold sd
     rw [← hes,kD (show i<es.length by try?),kM (show i<es.length by try?),kD (show j<es.length by try?),kM (show j<es.length by try?),kD II,kM II]
    unfold vQ at q4
    rw [e] at h1
    grind
   subst hk
   obtain ⟨r,rfl,er⟩:=hFo
   have xH:=eB.trans s3
   have eL3:=s3 _ _ eL
   rw?
   refine ⟨r,rfl,⟨_,nI.of er⟩,?_⟩
   refine bY (xs:=[.int (i:Int),.int (j:Int),.int (es.length:Int)]) tR (fun H4 s4=>nI.of (s4 _ _ er)) 0#f (fun c ys G=>ys=([i,j,es.length].take c).map fun p=>V.int (mo fs p)) rfl ?_ ?_
   ·rintro D c v ys H4 ly NN N0 h0 hD eD s4 hv hy rfl kY kN
    obtain ⟨pq,gpq,rfl,hpq⟩:∃pq:Nat,[i,j,es.length][c]?=some pq∧v=.int (pq:Int)∧pq<fs.length:=by
     have hq:c<3:=(fZ.mp hv).1
     rcases (show c=0∨c=1∨c=2 by try?) with rfl | rfl | rfl
     ·exact ⟨i,rfl,by cases hv;rfl,by try?⟩
     ·exact ⟨j,rfl,by cases hv;rfl,by try?⟩
     ·exact ⟨es.length,rfl,by cases hv;rfl,by try?⟩
    obtain ⟨e,ge,v',ev,fv,zv⟩:=dc (hRf.up (xH.trans s4)) hAf hpq
    refine dG h0 ?_
    rw?
    refine bJ ?_
    rw?
    refine cG (s4 _ _ eL3) (mP ge rfl) ?_
    rw?
    refine kY _ H4 (aq.refl _) ?_
    rw [xC,gpq,ju]
    rfl
   ·rintro D ys H4 hD eD s4 hy rfl
    rw?
    refine ⟨D,_,rfl,.inl ⟨aW.of eD,fun t nt=>?_⟩⟩
    refine k t _ ((xH.trans s4).trans (fW nt _)) ⟨i,j,q1,by try?,?_,?_⟩
    ·rw [av,hlf]
     rfl
    ·rw [hlf,show es.length+1-1=es.length by try?,q4]
     exact hw
theorem sy:aE ["row","bound","telling","paper","run","parts"] ["row","bound"] (ah GN):=0#a
theorem SJ (F:cH K "apart" "apart" GN f fd) (T:Txt mg) (qb:Dn P w K mg base 1 "runs" ["row"] Cw) (rB:Dn P w K mg base 8 "stretches" ["samples","bound"] (sL aM)) (pU:Dn P w K mg base 7 "best_piece" ["stretch"] sC) (mH:Dn P w K mg base 7 "ending_three" ["stretch","behind"] vB):bg P w K mg base cM 9 f fd ["row","bound"] AS:=by
 refine F.ok sy 0#e 0#b
 ·obtain ⟨l,pb,es,β,n,nb,rfl,_⟩:=h
  rfl
 obtain ⟨l,pb,es,β,n,nb,rfl,hl,hR,cK,xF,hb,oF,hn1,hn,hnb,k⟩:=h
 refine bD ⟨_,(au (aN 2 sy.nd (dP gc)) (au (aN 3 sy.nd (dP gc)) (au (fK iM rfl (gU K (Jd.c1 qb hr 0#m)) (bQ (i:=4) sy.nd rfl 0#n) (au (aN 5 sy.nd (b9 rB hr (aa 4) 0#x)) (au (gE (Jd.KU K (aa 2) (jA (O:=["stretch"]) (N':=[]) (cap:=[]) rfl (gU K (aa 5)) (fun _ _ _ _ _=>(bQ (i:=0) (show iN [("stretch":Str)] by decide +kernel) rfl 0#n)) (fun _ _ _ _ _=>jn) (fun _ _ _ _ _=>(d9 pU 0#A rfl (bX 0#m gc aP) (he:=aP) (hpl:=bS))) rfl trivial rfl 0#g rfl 0#g)) (hs:=fL)) (aG (gE (Jd.KU K (aa 3) (jA (O:=["stretch","behind"]) (N':=[]) (cap:=[]) rfl (Jd.u7 K rfl T.Up (bT (aa 5) (jj (EB K) (aa 5) (jl aB) jk))) (fun _ _ _ _ _=>(Jd.Qo K (n:=2) rfl (d8 (bQ (i:=0) (show iN [("stretch":Str),("behind":Str)] by decide +kernel) rfl 0#n) (d8 (bQ (i:=1) (show iN [("stretch":Str),("behind":Str)] by decide +kernel) rfl 0#n) o6)))) (fun _ _ _ _ _=>jn) (fun _ _ _ _ _=>(d9 mH 0#A rfl (bX 0#m (bX (cy (lS K) 0#x aB 0#o) gc Qz) aP) (he:=aP) (hpl:=(bB Qz bS)))) rfl trivial rfl 0#g rfl 0#g)) (hs:=fL)))))) (aG (aR (bR (bT (aa 2) (aa 3)))))))),?_⟩
 rw?
 refine aF (mk:=.lst) 0#f fun X H1 s1 n1 e1=>?_
 rw?
 refine aF (mk:=.lst) 0#f fun Z H2 s2 n2 e2=>?_
 have eB:=s1.trans s2
 have nXZ:X≠Z:=fun z=>by rw [← z,e1] at n2;cases n2
 rw?
 refine gH (gV ?_)
 rw?
 refine ⟨l,es,n,rfl,eB _ _ hl,hR.up eB,xF,fun TT ls H3 s3 Ed hls afp _=>?_⟩
 have hll:ls.length=(parts gY es es.length).length:=by rw [← hls,eV]
 have own:∀{G:Hp} {R:ao} {v:List V},LL H2 G TT ls→H2 R=some (.lst v)→R≠TT∧∀x∈ls,x.1≠R:=fun hG e=>⟨(fun z=>by rw [z,hG.new] at e;cases e),(fun x hx z=>by rw [← z,(hG.each x hx).1] at e;cases e)⟩
 obtain ⟨a1,a2⟩:=own Ed (s2 _ _ e1)
 obtain ⟨b1,b2⟩:=own Ed e2
 have hF:∀i,((parts gY es es.length).take i).flatten.length≤40:=fun i=>by
  have q1:=Pp (l:=parts gY es es.length) i
  rw [jZ,iV] at q1
  have q2:(es.filter gY).length≤es.length:=CH ..
  try?
 refine ⟨TT,rfl,⟨_,aW.of Ed.at_⟩,cL (xs:=lrefs ls) (fun i σ H4=>∃(zs:List (List (List En)×List ao×List ao)) (v5 v6:Option V),σ=[some (.ref l),some (.ref pb),some (.ref X),some (.ref Z),v5,v6]∧aq H H4∧LL H2 H4 TT ls∧H4 X=some (.lst ((pN zs).map V.ref))∧H4 Z=some (.lst ((qJ zs).map V.ref))∧(pN zs).length≤((parts gY es es.length).take i).flatten.length∧(qJ zs).length≤((parts gY es es.length).take i).flatten.length∧qV H4 β 6000 ((parts gY es es.length).take i) zs) ?_ ?_ ?_ ?_⟩
 ·exact ⟨[],none,none,rfl,eB.trans s3,Ed,(s2.trans s3) _ _ e1,s3 _ _ e2,dm _,dm _,trivial⟩
 ·rintro i σ H4 _ ⟨zs,v5,v6,rfl,s4,QX,_⟩
  exact aW.of QX.at_
 ·rintro i x σ H4 hx ⟨zs,v5,v6,rfl,s4,QX,eX,eZ,hz1,hz2,hAp⟩
  refine gZ fun M B RR hM _ _=>?_
  obtain ⟨x,gx,rfl⟩:=rJ hx
  have hi:i<ls.length:=(fZ.mp gx).1
  have hmx:=jL gx
  have hp:(parts gY es es.length)[i]?=some x.2:=by rw [← hls,jQ,gx];rfl
  obtain ⟨o1,o2,o3⟩:=iB es.length x.2 (jL hp)
  rw [iV] at o3
  obtain ⟨_,ex,_⟩:=QX.each x hmx
  have hx1:1≤x.2.length:=OE.mpr o1
  have ac3:x.2.length≤40:=dI o3.length_le xF
  have hRx:Row H4 x.2 n:=fun z hz=>hR.up s4 z (o3.subset hz)
  have hrx:rising x.2:=cK.sublist o3
  have eX0:=eX
  have eZ0:=eZ
  rw?
  refine ⟨x.1,pb,x.2,β,n,nb,rfl,ex,hRx,o2,hrx,hb.up s4,oF,by try?,hnb,ac3,fun PT ls' H5 s5 K2 hC hl5=>?_⟩
  generalize hqs:ls'.map (·.2)=qs at *
  have hql:qs.length=ls'.length:=by rw [← hqs,eV]
  have hq1:1≤qs.length:=by
   obtain ⟨pos,p0,pn,_⟩:=hC
   rcases Nat.eq_zero_or_pos qs.length with z | z
   ·rw [z,p0] at pn;try?
   ·exact z
  have gq:∀{c:Nat} {y:ao×List En},ls'[c]?=some y→qs[c]?=some y.2:=fun {c y} g=>by rw [← hqs,jQ,g];rfl
  have hmul:∀{c:Nat},c≤41→c*n+n≤7000:=fun {c} hc=>by
   have:=Nat.mul_le_mul hc hn
   try?
  rw?
  refine ⟨.inl ⟨rfl,_,aW.of (s5 _ _ eX)⟩,?_⟩
  rw?
  refine gV ?_
  rw?
  refine ⟨PT,rfl,⟨_,aW.of K2.at_⟩,?_⟩
  refine bY (xs:=lrefs ls') bL (fun H6 s6=>aW.of (s6 _ _ K2.at_)) (by rw [fQ];try?) (fun c ys G=>∃ps:List ao,ys=ps.map V.ref∧ps.length=c∧∀(d:Nat) (q:List En) (p:ao),qs[d]?=some q→ps[d]?=some p→Kr G p q 6000) ⟨[],rfl,rfl,fun d q p _ h=>by simp at h⟩ ?_ ?_
  ·rintro D c v ys H6 ly NN N0 h0 hD eD s6 hv hy ⟨ps,rfl,hpl,hps⟩ kY kN
   obtain ⟨y,gy,rfl⟩:=rJ hv
   obtain ⟨_,ey,_⟩:=(K2.up s6).each y (jL gy)
   obtain ⟨l1,l2⟩:=hC.adp (gq gy)
   obtain ⟨u1,u2⟩:=hC.sub (gq gy)
   refine dG h0 ?_
   rw?
   refine bJ ?_
   rw?
   refine ⟨y.1,y.2,n,rfl,ey,fun z hz=>(hRx.up (s5.trans s6)) z (u1.subset hz),fun z hz=>o2 z (u1.subset hz),hrx.sublist u1,hn1,by try?,hmul 0#d,l1,by try?,fun p H7 s7 f7=>?_⟩
   refine kY _ H7 s7 ⟨ps++[p],by simp,by simp [hpl],fun d q p' hd C8=>?_⟩
   by_cases hdc:d<ps.length
   ·rw [kZ hdc] at C8
    exact (hps d q p' hd C8).mv fun {b xs} z=>(wD s7) _ _ z
   ·rw [pR 0#d] at C8
    have hd0:d-ps.length=0:=by
     have:=(fZ.mp C8).1
     simp at this
     try?
    rw [hd0] at C8
    obtain rfl:p=p':=by simpa using C8
    have aaV:d=c:=by try?
    subst aaV
    cases (gq gy).symm.trans hd
    exact f7.mv fun {b xs} z=>ja (s7 _ _ eD) z
  ·rintro D ys H6 hD eD s6 hy ⟨ps,rfl,hpl,hps⟩
   rw [fQ] at hpl
   have VB:=s5.trans s6
   have eX6:=VB _ _ eX
   have eZ6:=VB _ _ eZ
   have afv:∀(d:Nat) (q:List En) (p:ao),qs[d]?=some q→ps[d]?=some p→Kr H6 p q 6000:=fun d q p hd C8=>(hps d q p hd C8).mv fun {b xs} z=>iZ _ _ z
   rw?
   refine Js eX6 eD (by rw [eV,eV];exact ur (aO (by have:=hF i;try?))) ?_
   generalize hH7:upd H6 X (.lst ((pN zs).map V.ref++ps.map V.ref))=H7
   have ad4:∀{b:ao} {xs:List V},H6 b=some 0#s→H7 b=some 0#s:=fun {b xs} e=>by
    rw [← hH7]
    exact Jy X H6 _ _ _ (ja eX6 e)
   have afH:∀{b:ao} {o:HO},H6 b=some o→b≠X→H7 b=some o:=fun {b o} e ne=>by
    rw [← hH7]
    exact WJ e ne
   have eX7:H7 X=some (.lst ((pN zs++ps).map V.ref)):=by rw [← hH7,av,ju]
   have eZ7:=afH eZ6 (eG nXZ)
   have nPX:PT≠X:=fun z=>by rw [z] at K2;have:=K2.new;rw [eX] at this;cases this
   have nlX:∀y∈ls',y.1≠X:=fun y hy z=>by have:=(K2.each y hy).1;rw [z,eX] at this;cases this
   have K3:LL H4 H7 PT ls':=by rw [← hH7];exact (K2.up s6).other (eG nPX) nlX
   have hR7:Row H7 x.2 n:=by rw [← hH7];exact (hRx.up VB).app eX6
   have Yo:aq H H7:=by rw [← hH7];exact bw (s4.trans VB) n1
   rw?
   refine ⟨.inl ⟨rfl,_,aW.of eZ7⟩,?_⟩
   rw?
   refine Jv ?_
   rw?
   refine ⟨_,rfl,1,rfl,PT,_,rfl,aW.of K3.at_,fun P1 nP1=>?_⟩
   rw [ae9]
   have s8:aq H7 (upd H7 P1 (.lst ((lrefs ls').drop 1))):=bw (aq.refl _) nP1
   have e8:upd H7 P1 (.lst ((lrefs ls').drop 1)) P1=some (.lst ((lrefs ls').drop 1)):=av
   generalize upd H7 P1 (.lst ((lrefs ls').drop 1))=H8 at *
   rw?
   refine ⟨PT,P1,_,_,rfl,aW.of (s8 _ _ K3.at_),aW.of e8,?_⟩
   refine oZ (E7:=ls'.length-1) (by rw [fQ];try?) (by rw [jO,fQ];try?) (.inr (by rw [jO,fQ];try?)) (fun H9 s9=>⟨aW.of ((s8.trans s9) _ _ K3.at_),aW.of (s9 _ _ e8)⟩) 0#d (fun c ys G=>∃ts:List ao,ys=ts.map V.ref∧ts.length=c∧∀(d:Nat) (q q':List En) (y:En) (t:ao),qs[d]?=some q→qs[d+1]?=some q'→q'[0]?=some y→ts[d]?=some t→Pb G t (q++[y]) β) ⟨[],rfl,rfl,fun d q q' y t _ _ _ h=>by simp at h⟩ ?_ ?_
   ·rintro D' c v v' ys H9 tE pp ly NN N0 h0 X5 HG s9 qK V5 hc hv hv' hy ⟨ts,rfl,htl,hts⟩ kY kN
    obtain ⟨y,gy,rfl⟩:=rJ hv
    rw [um,CS] at hv'
    obtain ⟨y',gy',rfl⟩:=rJ hv'
    have DJ:=s8.trans (s9.trans qK)
    obtain ⟨_,ey,_⟩:=(K3.up DJ).each y (jL gy)
    obtain ⟨_,ey',_⟩:=(K3.up DJ).each y' (jL gy')
    obtain ⟨l1,l2⟩:=hC.adp (gq gy)
    obtain ⟨u1,u2⟩:=hC.sub (gq gy)
    obtain ⟨z,gz,w1,w2⟩:=hC.next (gq gy) (gq gy')
    have K4:=hR7.up DJ
    have hzm:z∈x.2:=w1.subset 0#f
    have ez:z=(z.1,z.2.1,some (z.2.2.getD 0)):=by
     have:=o2 z hzm
     obtain ⟨za,zm,zv⟩:=z
     cases zv with
     | none=>cases this
     | some q=>rfl
    have hz:=K4 z hzm
    rw [ez] at w1 w2 hz
    have hlen2:y.2.length+1≤40:=by
     have:=w1.length_le
     simp at this
     try?
    refine BW h0 V5 ?_
    rw?
    refine bJ ?_
    rw?
    refine cG ey' (mP gz rfl) ?_
    rw?
    refine ⟨y.1,z.1,y.2,_,_,β,n,rfl,ey,fun u hu=>K4 u (u1.subset hu),hz.sa,fun u hu=>o2 u (u1.subset hu),hrx.sublist w1,hn1,by try?,hmul 0#d,by try?,oF,u2,w2,fun t KC Ex f11=>?_⟩
    rw [← ez] at f11
    have adV:=qK.trans Ex
    refine kY _ KC Ex ⟨ts++[t],by simp,by simp [htl],fun d q q' y0 t' hd hd' hy0 ht'=>?_⟩
    by_cases hdc:d<ts.length
    ·rw [kZ hdc] at ht'
     exact (hts d q q' y0 t' hd hd' hy0 ht').mv fun {b xs} z=>(wD adV) _ _ z
    ·rw [pR 0#d] at ht'
     have hd0:d-ts.length=0:=by
      have:=(fZ.mp ht').1
      simp at this
      try?
     rw [hd0] at ht'
     obtain rfl:t=t':=by simpa using ht'
     have aaV:d=c:=by try?
     subst aaV
     cases (gq gy).symm.trans hd
     cases (gq gy').symm.trans hd'
     cases gz.symm.trans hy0
     exact f11.mv fun {b xs} z=>ja (adV _ _ HG) z
   ·rintro D' ys H9 X5 HG s9 hy ⟨ts,rfl,htl,hts⟩
    have s79:=s8.trans s9
    have eX9:=s79 _ _ eX7
    have eZ9:=s79 _ _ eZ7
    rw?
    refine Js eZ9 HG (by rw [eV,eV];exact ur (aO (by have:=hF i;try?))) ?_
    have IG:((parts gY es es.length).take (i+1)).flatten.length=((parts gY es es.length).take i).flatten.length+x.2.length:=by
     rw [xC,hp,EL,cJ]
     simp
    have hcl:=hC.len
    refine hM _ _ ⟨zs++[(qs,ps,ts)],_,_,rfl,bw (Yo.trans s79) (s1.free n2),?_,?_,?_,?_,?_,?_⟩
    ·have h6:LL H2 H7 TT ls:=by rw [← hH7];exact (QX.up VB).other a1 a2
     exact (h6.up s79).other b1 b2
    ·rw [aI nXZ,eX9]
     simp [pN]
    ·rw [av]
     simp [qJ]
    ·have e:pN (zs++[(qs,ps,ts)])=pN zs++ps:=by simp [pN]
     rw [IG,e,cJ]
     try?
    ·have e:qJ (zs++[(qs,ps,ts)])=qJ zs++ts:=by simp [qJ]
     rw [IG,e,cJ]
     try?
    ·have mvZ:∀{b:ao} {xs:List V},H9 b=some 0#s→upd H9 Z (.lst ((qJ zs).map V.ref++ts.map V.ref)) b=some 0#s:=fun {b xs} e=>Jy Z H9 _ _ _ (ja eZ9 e)
     rw [xC,hp]
     refine uQ (hAp.mv fun {b xs} e=>mvZ (s79 _ _ (ad4 (VB _ _ e)))) ?_
     refine ⟨hC,by rw [hpl,hql],by show ts.length+1=qs.length;try?,fun d q p hd C8=>(afv d q p hd C8).mv fun {b xs} e=>mvZ (s79 _ _ (ad4 e)),fun d q q' y t hd hd' hy0 ht'=>(hts d q q' y t hd hd' hy0 ht').mv fun {b xs} e=>mvZ (iZ _ _ e)⟩
 ·rintro σ H4 ⟨zs,v5,v6,rfl,s4,QX,eX,eZ,hz1,hz2,hAp⟩
  rw [fQ,hll,iV] at hAp
  rw?
  refine aF (mk:=.tup) 0#f fun y H5 s5 n5 e5=>?_
  exact k y X Z zs H5 (s4.trans s5) e5 n1 (s1.free n2) nXZ (s5 _ _ eX) (s5 _ _ eZ) (hAp.mv fun {b xs} e=>s5 _ _ e)
end
def VM (ss:List En) (B:Rat) (fl ro:Nat) (G:Rat):Prop:=∀q p,ro≤q→q<p→fl≤p→p<ss.length→pB ss B q p≤G
def VH (ss:List En) (B:Rat) (fl ro:Nat) (S:Rat):Prop:=∀q p,fl≤q→q<p→ro≤p→p<ss.length→S≤lR ss B q p
def GF (ss:List En) (B:Rat) (fl ro:Nat) (G:Rat):Prop:=VM ss B fl ro G∧∃q p,ro≤q∧q<p∧fl≤p∧p<ss.length∧pB ss B q p=G
def SF (ss:List En) (B:Rat) (fl ro:Nat) (S:Rat):Prop:=VH ss B fl ro S∧∃q p,fl≤q∧q<p∧ro≤p∧p<ss.length∧lR ss B q p=S
def c8 (ss:List En) (T:Rat) (i:Nat):Rat:=wo ss i-T*(mo ss i:Rat)
theorem rT {a:Rat} (h:a=b):a≤b:=h▸xr
section
theorem lD (h:rising ss) (hij:i<j) (hj:j<ss.length):(0:Rat)<(mo ss j:Rat)-(mo ss i:Rat):=by
 have:=vC.mpr (fR h hij hj)
 grind
theorem tH (h:rising ss) (hij:i<j) (hj:j<ss.length):pB ss B i j≤G↔c8 ss G j≤c8 ss G i+B:=by
 unfold pB c8
 rw [wB (lD h hij hj)]
 constructor
 ·intro _;grind
 ·intro _;grind
theorem NJ (h:rising ss) (hij:i<j) (hj:j<ss.length):G≤pB ss B i j↔c8 ss G i+B≤c8 ss G j:=by
 unfold pB c8
 rw [tN (lD h hij hj)]
 constructor
 ·intro _;grind
 ·intro _;grind
theorem o4 (h:rising ss) (hij:i<j) (hj:j<ss.length):S≤lR ss B i j↔c8 ss S i≤c8 ss S j+B:=by
 unfold lR c8
 rw [tN (lD h hij hj)]
 constructor
 ·intro _;grind
 ·intro _;grind
theorem IQ (h:rising ss) (hij:i<j) (hj:j<ss.length):lR ss B i j≤S↔c8 ss S j+B≤c8 ss S i:=by
 unfold lR c8
 rw [wB (lD h hij hj)]
 constructor
 ·intro _;grind
 ·intro _;grind
theorem So (h:rising ss) (hij:i<j) (hj:j<ss.length):pB ss B i j=G↔c8 ss G j=c8 ss G i+B:=
 ⟨fun e=>J7 ((tH h hij hj).mp (rT e)) ((NJ h hij hj).mp (rT e.symm)),fun e=>J7 ((tH h hij hj).mpr (rT e)) ((NJ h hij hj).mpr (rT e.symm))⟩
theorem NF (h:rising ss) (hij:i<j) (hj:j<ss.length):lR ss B i j=S↔c8 ss S i=c8 ss S j+B:=
 ⟨fun e=>J7 ((o4 h hij hj).mp (rT e.symm)) ((IQ h hij hj).mp (rT e)),fun e=>J7 ((IQ h hij hj).mpr (rT e.symm)) ((o4 h hij hj).mpr (rT e))⟩
theorem VM.mono (h:VM ss B fl ro G) (g:G≤T):VM ss B fl ro T:=fun q p a1 a2 a3 a4=>zR (h q p a1 a2 a3 a4) g
theorem VH.mono (h:VH ss B fl ro S) (g:T≤S):VH ss B fl ro T:=fun q p a1 a2 a3 a4=>zR g (h q p a1 a2 a3 a4)
theorem acz (hB:0≤B) (hr:rising ss) (hL:VM ss B fl ro T) (hH:VH ss B fl ro T) (ha:ro≤a) (hb:fl≤b) (la:a<ss.length) (lb:b<ss.length):c8 ss T b≤c8 ss T a+B:=by
 rcases ux a b with z | z | z
 ·exact (tH hr z lb).mp (hL a b ha z hb lb)
 ·subst z;grind
 ·exact (o4 hr z la).mp (hH b a hb z ha la)
theorem kR (hi:i<ss.length):c8 (ss++ys) T i=c8 ss T i:=by
 unfold c8
 rw [kD hi,kM hi]
theorem o8 {ss:List En} {m:Int}:c8 0#z T ss.length=q-T*(m:Rat):=by
 unfold c8
 rw [FU,HC]
theorem nP:mo (ss.drop j) i=mo ss (j+i):=by unfold mo;rw [um]
theorem Ov:wo (ss.drop j) i=wo ss (j+i):=by unfold wo;rw [um]
theorem yX (h:rising ss):rising (ss.drop j):=h.sublist (UU ..)
theorem IP:c8 (ss.drop j) T i=c8 ss T (j+i):=by unfold c8;rw [nP,Ov]
theorem qC:dh (ss.drop j) B m q i=dh ss B m q (j+i):=by unfold dh;rw [nP,Ov]
theorem RM (h1:∀G0,g=some G0→GF ss B fl ro G0∧G0≤G) (hN:g=none→∀q p,ro≤q→q<p→fl≤p→¬p<ss.length) (hfl:fl≤ss.length) (hall:∀i,i<(ss.drop ro).length→dh (ss.drop ro) (-B) m q i≤G) (hex:(∃i,i<(ss.drop ro).length∧dh (ss.drop ro) (-B) m q i=G)∨g=some G):GF 0#z B fl ro G:=by
 have ld:(ss.drop ro).length=ss.length-ro:=jO ..
 rw [ld] at hall hex
 refine ⟨fun i j hi hij hkj hj=>?_,?_⟩
 ·rw [cJ] at hj
  have hj':j<ss.length+1:=hj
  by_cases e:j=ss.length
  ·subst e
   rw [AL hij]
   have:=hall (i-ro) 0#c
   rw [qC,show ro+(i-ro)=i by simp?] at this
   exact this
  ·rw [pC hij 0#c]
   cases hg:g with
   | none=>exact absurd (show j<ss.length by simp?) (hN hg i j hi hij hkj)
   | some G0=>
     obtain ⟨g1,le⟩:=h1 G0 hg
     exact zR (g1.1 i j hi hij hkj 0#c) le
 ·rcases hex with ⟨i,hi,e⟩ | e
  ·refine ⟨ro+i,ss.length,by simp?,by simp?,hfl,by rw [cJ];show _<ss.length+1;simp?,?_⟩
   rw [AL 0#c,← qC]
   exact e
  ·obtain ⟨i,j,a0,a1,a2,a3,a4⟩:=(h1 G e).1.2
   exact ⟨i,j,a0,a1,a2,by rw [cJ];show _<ss.length+1;simp?,by rw [pC a1 a3];exact a4⟩
theorem TV (h1:∀S0,s=some S0→SF ss B fl ro S0∧S≤S0) (hN:s=none→∀q p,fl≤q→q<p→ro≤p→¬p<ss.length) (IJ:ro≤ss.length) (hall:∀i,i<(ss.drop fl).length→S≤dh (ss.drop fl) B m q i) (hex:(∃i,i<(ss.drop fl).length∧dh (ss.drop fl) B m q i=S)∨s=some S):SF 0#z B fl ro S:=by
 have ld:(ss.drop fl).length=ss.length-fl:=jO ..
 rw [ld] at hall hex
 refine ⟨fun i j hi hij hkj hj=>?_,?_⟩
 ·rw [cJ] at hj
  have hj':j<ss.length+1:=hj
  by_cases e:j=ss.length
  ·subst e
   rw [vR hij]
   have:=hall (i-fl) 0#c
   rw [qC,show fl+(i-fl)=i by simp?] at this
   exact this
  ·rw [mF hij 0#c]
   cases hg:s with
   | none=>exact absurd (show j<ss.length by simp?) (hN hg i j hi hij hkj)
   | some S0=>
     obtain ⟨g1,le⟩:=h1 S0 hg
     exact zR le (g1.1 i j hi hij hkj 0#c)
 ·rcases hex with ⟨i,hi,e⟩ | e
  ·refine ⟨fl+i,ss.length,by simp?,by simp?,IJ,by rw [cJ];show _<ss.length+1;simp?,?_⟩
   rw [vR 0#c,← qC]
   exact e
  ·obtain ⟨i,j,a0,a1,a2,a3,a4⟩:=(h1 S e).1.2
   exact ⟨i,j,a0,a1,a2,by rw [cJ];show _<ss.length+1;simp?,by rw [mF a1 a3];exact a4⟩
theorem ie {ss:List En}:(ss++[(x,m,some q)]).length=ss.length+1:=by simp
theorem Fg {m:Int} (hr:rising 0#z) (s:SF 0#z B fl ro S) (hG:VH ss B fl ro G) (IJ:ro≤ss.length):S<G↔∃i,fl≤i∧i<ss.length∧q-G*(m:Rat)+B<c8 ss G i:=by
 constructor
 ·intro h
  obtain ⟨i,j,a0,a1,a2,a3,a4⟩:=s.2
  rw [ie] at a3
  by_cases e:j=ss.length
  ·subst e
   refine ⟨i,a0,a1,zU.mp fun z=>?_⟩
   have:=(o4 (B:=B) (S:=G) hr a1 (by rw [ie];simp?)).mpr (by rw [o8,kR a1];exact z)
   rw [a4] at this
   exact absurd h (lu.mpr this)
  ·have:=hG i j a0 a1 a2 0#c
   rw [mF a1 0#c] at a4
   rw [a4] at this
   exact absurd h (lu.mpr this)
 ·rintro ⟨i,a0,a1,h⟩
  refine zU.mp fun z=>?_
  have:=s.1 i ss.length a0 a1 IJ (by rw [ie];simp?)
  have:=(o4 hr a1 (by rw [ie];simp?)).mp (zR z this)
  rw [o8,kR a1] at this
  exact absurd h (lu.mpr this)
theorem Nl {m:Int} (hr:rising 0#z) (g:GF 0#z B fl ro G) (hS:VM ss B fl ro S) (hfl:fl≤ss.length):S<G↔∃i,ro≤i∧i<ss.length∧c8 ss S i+B<q-S*(m:Rat):=by
 constructor
 ·intro h
  obtain ⟨i,j,a0,a1,a2,a3,a4⟩:=g.2
  rw [ie] at a3
  by_cases e:j=ss.length
  ·subst e
   refine ⟨i,a0,a1,zU.mp fun z=>?_⟩
   have:=(tH (B:=B) (G:=S) hr a1 (by rw [ie];simp?)).mpr (by rw [o8,kR a1];exact z)
   rw [a4] at this
   exact absurd h (lu.mpr this)
  ·have:=hS i j a0 a1 a2 0#c
   rw [pC a1 0#c] at a4
   rw [a4] at this
   exact absurd h (lu.mpr this)
 ·rintro ⟨i,a0,a1,h⟩
  refine zU.mp fun z=>?_
  have:=g.1 i ss.length a0 a1 hfl (by rw [ie];simp?)
  have:=(tH hr a1 (by rw [ie];simp?)).mp (zR this z)
  rw [o8,kR a1] at this
  exact absurd h (lu.mpr this)
theorem Ib {B:Rat} (hB:0≤B) (hb:mb<m) (ea:v-G*m=va-G*ma+B) (eb:vb-S*mb=v-S*m+B) (h:vb-G*mb≤va-G*ma+B):G≤S:=by
 refine lu.mp fun hlt=>?_
 have p:(0:Rat)<m-mb:=by grind
 have:=M8 hlt p
 grind
theorem KL {B:Rat} (hB:0≤B) (ha:ma<m) (ea:v-G*m=va-G*ma+B) (eb:vb-S*mb=v-S*m+B) (h:vb-S*mb≤va-S*ma+B):G≤S:=by
 refine lu.mp fun hlt=>?_
 have p:(0:Rat)<m-ma:=by grind
 have:=M8 hlt p
 grind
theorem VQ (hB:0≤B) (hr:rising 0#z) (g:GF 0#z B fl ro G) (s:SF 0#z B fl ro S)
 (h1:∀i j,ro≤i→i<j→fl≤j→j<ss.length→pB ss B i j≤S) (h2:∀i j,fl≤i→i<j→ro≤j→j<ss.length→G≤lR ss B i j):G≤S:=by
 obtain ⟨i,j,a0,a1,a2,a3,a4⟩:=g.2
 obtain ⟨k,l,b0,b1,b2,b3,b4⟩:=s.2
 rw [ie] at a3 b3
 by_cases e:j=ss.length
 ·by_cases e':l=ss.length
  ·subst e
   subst e'
   have ea:=(So hr a1 (by rw [ie];simp?)).mp a4
   have eb:=(NF hr b1 (by rw [ie];simp?)).mp b4
   have mi:=lD hr a1 (by rw [ie];simp?)
   have mk:=lD hr b1 (by rw [ie];simp?)
   unfold c8 at ea eb
   rcases ux i k with z | z | z
   ·have:=(tH hr z (by rw [ie];simp?)).mp (g.1 i k a0 z 0#c (by rw [ie];simp?))
    unfold c8 at this
    exact Ib hB (by grind) ea eb this
   ·subst z
    exact Ib hB (by grind) ea eb (by grind)
   ·have:=(o4 hr z (by rw [ie];simp?)).mp (s.1 k i b0 z 0#c (by rw [ie];simp?))
    unfold c8 at this
    exact KL hB (by grind) ea eb this
  ·rw [mF b1 0#c] at b4
   rw [← b4]
   exact h2 k l b0 b1 b2 0#c
 ·rw [pC a1 0#c] at a4
  rw [← a4]
  exact h1 i j a0 a1 a2 0#c
end
structure yT (ss:List En) (β:Rat) (fl ro:Nat) (m:Int) (q G f:Rat) (a b:Nat):Prop where
 gf:GF ss (2*β) fl ro G
 off:∃i,fl≤i∧i<ss.length∧q-G*(m:Rat)+2*β<c8 ss G i
 lo:∀i,fl≤i→i<ss.length→c8 ss G i-β≤f
 hi:∀i,ro≤i→i<ss.length→f≤c8 ss G i+β
 ha:ro≤a
 ea:c8 ss G a+β=f
 hb:fl≤b
 lb:b<ss.length
 eb:c8 ss G b-β=f
 fb:∀i,b<i→i<ss.length→c8 ss G i-β≠f
 hab:a<b
structure yU (ss:List En) (β:Rat) (fl ro:Nat) (m:Int) (q S f:Rat) (a b:Nat):Prop where
 sf:SF ss (2*β) fl ro S
 off:∃i,ro≤i∧i<ss.length∧c8 ss S i+2*β<q-S*(m:Rat)
 lo:∀i,fl≤i→i<ss.length→c8 ss S i-β≤f
 hi:∀i,ro≤i→i<ss.length→f≤c8 ss S i+β
 ha:fl≤a
 ea:c8 ss S a-β=f
 hb:ro≤b
 lb:b<ss.length
 eb:c8 ss S b+β=f
 fb:∀i,b<i→i<ss.length→c8 ss S i+β≠f
 hab:a<b
theorem Ik {α:Type} (P:α→Bool):∀(l:List α),(∃x∈l,P x=true)→∃(a:Nat) (x:α),l[a]?=some x∧P x=true∧(l.filter P)[0]?=some x∧∀(i:Nat) y,i<a→l[i]?=some y→P y=false
 | [],h=>by obtain ⟨x,hx,_⟩:=h;cases hx
 | y::r,h=>by
   by_cases hy:P y=true
   ·exact ⟨0,y,rfl,hy,by rw [Ut hy];rfl,fun i _ hi=>absurd hi (J5 _)⟩
   ·obtain ⟨x,hx,px⟩:=h
    have hr:x∈r:=by
     rcases lg.mp hx with e | e
     ·rw [e] at px;exact absurd px hy
     ·exact e
    obtain ⟨a,z,g,pz,e0,hn⟩:=Ik P r ⟨x,hr,px⟩
    refine ⟨a+1,z,g,pz,by rw [YA hy];exact e0,fun i u hi gu=>?_⟩
    cases i with
    | zero=>cases gu;exact iU.mpr hy
    | succ i=>exact hn i u 0#c gu
theorem NI {α:Type} (P:α→Bool):∀(l:List α),(∃x∈l,P x=true)→∃(b:Nat) (x:α),l[b]?=some x∧P x=true∧(l.filter P)[(l.filter P).length-1]?=some x∧∀(i:Nat) y,b<i→l[i]?=some y→P y=false
 | [],h=>by obtain ⟨x,hx,_⟩:=h;cases hx
 | y::r,h=>by
   by_cases hr:∃x∈r,P x=true
   ·obtain ⟨b,z,g,pz,e0,hn⟩:=NI P r hr
    refine ⟨b+1,z,g,pz,?_,fun i u hi gu=>?_⟩
    ·by_cases hy:P y=true
     ·rw [Ut hy]
      have hl:0<(r.filter P).length:=by
       cases e:r.filter P with
       | nil=>rw [e] at e0;cases e0
       | cons c d=>exact Nat.succ_pos _
      show (y::r.filter P)[(r.filter P).length+1-1]?=some z
      rw [show (r.filter P).length+1-1=((r.filter P).length-1)+1 by simp?,List.getElem?_cons_succ]
      exact e0
     ·rw [YA hy];exact e0
    ·cases i with
     | zero=>simp?
     | succ i=>exact hn i u 0#c gu
   ·have hy:P y=true:=by
     obtain ⟨x,hx,px⟩:=h
     rcases lg.mp hx with e | e
     ·rw [e] at px;exact px
     ·exact absurd ⟨x,e,px⟩ hr
    have e0:r.filter P=[]:=Uv.mpr fun x hx px=>hr ⟨x,hx,px⟩
    refine ⟨0,y,rfl,hy,by rw [Ut hy,e0];rfl,fun i u hi gu=>?_⟩
    cases i with
    | zero=>simp?
    | succ i=>exact iU.mpr fun z=>hr ⟨u,jL gu,z⟩
theorem Nu (h:rising es)  (hk:es[k]?=some x):es.filter (fun y=>decide (x.2.1≤y.2.1))=es.drop k:=by
 have hl:k<es.length:=(fZ.mp hk).1
 have mk:∀i y,es[i]?=some y→(k≤i↔x.2.1≤y.2.1):=fun i y hy=>by
  have hi:i<es.length:=(fZ.mp hy).1
  have e1:mo es k=x.2.1:=by unfold mo;rw [hk];rfl
  have e2:mo es i=y.2.1:=by unfold mo;rw [hy];rfl
  rcases ux i k with z | z | z
  ·have:=fR h z hl;simp?
  ·subst z;simp?
  ·have:=fR h z hi;simp?
 conv=>lhs;rw [← OC k es]
 rw [DR]
 have h1:(es.take k).filter (fun y=>decide (x.2.1≤y.2.1))=[]:=Uv.mpr fun y hy=>by
  obtain ⟨i,hi⟩:=CJ hy
  rw [OJ] at hi
  split at hi
  ·have:=mk i y hi
   rw [yQ]
   simp?
  ·cases hi
 have h2:(es.drop k).filter (fun y=>decide (x.2.1≤y.2.1))=es.drop k:=UH.mpr fun y hy=>by
  obtain ⟨i,hi⟩:=CJ hy
  rw [um] at hi
  exact dz ((mk _ y hi).mp (OP _ _))
 rw [h1,h2]
 rfl
structure Fb (fs:List (Str×V)) (bd tw bl ab:ao) (g s:V):Prop where
 len:fs.length≤10
 bd:fs.lookup ("bound":Str)=some (.ref bd)
 tw:fs.lookup ("twice":Str)=some (.ref tw)
 bl:fs.lookup ("below":Str)=some (.ref bl)
 ab:fs.lookup ("above":Str)=some (.ref ab)
 g:fs.lookup ("gentlest":Str)=some g
 s:fs.lookup ("steepest":Str)=some s
 no:∀m:Str,m ≠ "bound"→m ≠ "twice"→m ≠ "below"→m ≠ "above"→m ≠ "gentlest"→m ≠ "steepest"→fs.lookup m=none
theorem Fb.init (bd tw bl ab:ao) (g s:V):Fb (aA "steepest" s (aA "gentlest" g (aA "above" (.ref ab) (aA "below" (.ref bl) (aA "twice" (.ref tw) (aA "bound" (.ref bd) [])))))) bd tw bl ab g s:=by
 have WQ:¬(("bound":Str) = "twice"):=by decide +kernel
 have FY:¬(("bound":Str) = "below"):=by decide +kernel
 have FW:¬(("bound":Str) = "above"):=by decide +kernel
 have LH:¬(("bound":Str) = "gentlest"):=by decide +kernel
 have LI:¬(("bound":Str) = "steepest"):=by decide +kernel
 have F3:¬(("twice":Str) = "below"):=by decide +kernel
 have F0:¬(("twice":Str) = "above"):=by decide +kernel
 have LM:¬(("twice":Str) = "gentlest"):=by decide +kernel
 have LN:¬(("twice":Str) = "steepest"):=by decide +kernel
 have FZ:¬(("below":Str) = "above"):=by decide +kernel
 have LJ:¬(("below":Str) = "gentlest"):=by decide +kernel
 have LK:¬(("below":Str) = "steepest"):=by decide +kernel
 have LF:¬(("above":Str) = "gentlest"):=by decide +kernel
 have LG:¬(("above":Str) = "steepest"):=by decide +kernel
 have SD:¬(("gentlest":Str) = "steepest"):=by decide +kernel
 have l:∀(f:Str) (v:V) (fs:List (Str×V)),(aA f v fs).length≤fs.length+1:=by
  intro f v fs
  induction fs with
  | nil=>exact dm _
  | cons x r ih=>
    obtain ⟨g,y⟩:=x
    unfold aA
    split
    ·exact sQ _
    ·exact C6 ih
 refine ⟨?_,?_,?_,?_,?_,?_,?_,fun m m1 m2 m3 m4 m5 m6=>?_⟩
 ·have l0:=l "bound" (.ref bd) []
  have l1:=l "twice" (.ref tw) (aA "bound" (.ref bd) [])
  have l2:=l "below" (.ref bl) (aA "twice" (.ref tw) (aA "bound" (.ref bd) []))
  have l3:=l "above" (.ref ab) (aA "below" (.ref bl) (aA "twice" (.ref tw) (aA "bound" (.ref bd) [])))
  have l4:=l "gentlest" g (aA "above" (.ref ab) (aA "below" (.ref bl) (aA "twice" (.ref tw) (aA "bound" (.ref bd) []))))
  have l5:=l "steepest" s (aA "gentlest" g (aA "above" (.ref ab) (aA "below" (.ref bl) (aA "twice" (.ref tw) (aA "bound" (.ref bd) [])))))
  simp only [kh] at l0
  simp?
 ·rw [af,if_neg LI,af,if_neg LH,af,if_neg FW,af,if_neg FY,af,if_neg WQ,af,if_pos rfl]
 ·rw [af,if_neg LN,af,if_neg LM,af,if_neg F0,af,if_neg F3,af,if_pos rfl]
 ·rw [af,if_neg LK,af,if_neg LJ,af,if_neg FZ,af,if_pos rfl]
 ·rw [af,if_neg LG,af,if_neg LF,af,if_pos rfl]
 ·rw [af,if_neg SD,af,if_pos rfl]
 ·rw [af,if_pos rfl]
 ·rw [af,if_neg m6,af,if_neg m5,af,if_neg m4,af,if_neg m3,af,if_neg m2,af,if_neg m1]
  rfl
theorem Fb.TU {bd tw bl ab:ao} {g s:V} {y:ao} (h:Fb fs bd tw bl ab g s):Fb (aA "below" (.ref y) fs) bd tw y ab g s:=by
 have FY:¬(("bound":Str) = "below"):=by decide +kernel
 have F3:¬(("twice":Str) = "below"):=by decide +kernel
 have WO:¬(("above":Str) = "below"):=by decide +kernel
 have abl:¬(("gentlest":Str) = "below"):=by decide +kernel
 have abn:¬(("steepest":Str) = "below"):=by decide +kernel
 refine ⟨by rw [fU h.bl];exact h.len,?_,?_,?_,?_,?_,?_,fun m m1 m2 m3 m4 m5 m6=>?_⟩
 ·rw [af,if_neg FY];exact h.bd
 ·rw [af,if_neg F3];exact h.tw
 ·rw [af,if_pos rfl]
 ·rw [af,if_neg WO];exact h.ab
 ·rw [af,if_neg abl];exact h.g
 ·rw [af,if_neg abn];exact h.s
 ·rw [af,if_neg m3];exact h.no m m1 m2 m3 m4 m5 m6
theorem Fb.TR {bd tw bl ab:ao} {g s:V} {y:ao} (h:Fb fs bd tw bl ab g s):Fb (aA "above" (.ref y) fs) bd tw bl y g s:=by
 have FW:¬(("bound":Str) = "above"):=by decide +kernel
 have F0:¬(("twice":Str) = "above"):=by decide +kernel
 have FZ:¬(("below":Str) = "above"):=by decide +kernel
 have abk:¬(("gentlest":Str) = "above"):=by decide +kernel
 have abm:¬(("steepest":Str) = "above"):=by decide +kernel
 refine ⟨by rw [fU h.ab];exact h.len,?_,?_,?_,?_,?_,?_,fun m m1 m2 m3 m4 m5 m6=>?_⟩
 ·rw [af,if_neg FW];exact h.bd
 ·rw [af,if_neg F0];exact h.tw
 ·rw [af,if_neg FZ];exact h.bl
 ·rw [af,if_pos rfl]
 ·rw [af,if_neg abk];exact h.g
 ·rw [af,if_neg abm];exact h.s
 ·rw [af,if_neg m4];exact h.no m m1 m2 m3 m4 m5 m6
theorem Fb.wI {bd tw bl ab:ao} {g s:V} {y:V} (h:Fb fs bd tw bl ab g s):Fb (aA "gentlest" y fs) bd tw bl ab y s:=by
 have LH:¬(("bound":Str) = "gentlest"):=by decide +kernel
 have LM:¬(("twice":Str) = "gentlest"):=by decide +kernel
 have LJ:¬(("below":Str) = "gentlest"):=by decide +kernel
 have LF:¬(("above":Str) = "gentlest"):=by decide +kernel
 have ade:¬(("steepest":Str) = "gentlest"):=by decide +kernel
 refine ⟨by rw [fU h.g];exact h.len,?_,?_,?_,?_,?_,?_,fun m m1 m2 m3 m4 m5 m6=>?_⟩
 ·rw [af,if_neg LH];exact h.bd
 ·rw [af,if_neg LM];exact h.tw
 ·rw [af,if_neg LJ];exact h.bl
 ·rw [af,if_neg LF];exact h.ab
 ·rw [af,if_pos rfl]
 ·rw [af,if_neg ade];exact h.s
 ·rw [af,if_neg m5];exact h.no m m1 m2 m3 m4 m5 m6
theorem Fb.wJ {bd tw bl ab:ao} {g s:V} {y:V} (h:Fb fs bd tw bl ab g s):Fb (aA "steepest" y fs) bd tw bl ab g y:=by
 have LI:¬(("bound":Str) = "steepest"):=by decide +kernel
 have LN:¬(("twice":Str) = "steepest"):=by decide +kernel
 have LK:¬(("below":Str) = "steepest"):=by decide +kernel
 have LG:¬(("above":Str) = "steepest"):=by decide +kernel
 have SD:¬(("gentlest":Str) = "steepest"):=by decide +kernel
 refine ⟨by rw [fU h.s];exact h.len,?_,?_,?_,?_,?_,?_,fun m m1 m2 m3 m4 m5 m6=>?_⟩
 ·rw [af,if_neg LI];exact h.bd
 ·rw [af,if_neg LN];exact h.tw
 ·rw [af,if_neg LK];exact h.bl
 ·rw [af,if_neg LG];exact h.ab
 ·rw [af,if_neg SD];exact h.g
 ·rw [af,if_pos rfl]
 ·rw [af,if_neg m6];exact h.no m m1 m2 m3 m4 m5 m6
theorem Fb.xZ {fs:List (Str×V)} {bd tw bl ab:ao} {g s:V} (h:Fb fs bd tw bl ab g s) (m:Str) (m1:m ≠ "bound":=by decide +kernel) (m2:m ≠ "twice":=by decide +kernel) (m3:m ≠ "below":=by decide +kernel) (m4:m ≠ "above":=by decide +kernel) (m5:m ≠ "gentlest":=by decide +kernel) (m6:m ≠ "steepest":=by decide +kernel):fs.lookup m=none:=h.no m m1 m2 m3 m4 m5 m6
def Qq (p L M:ao) (H:Hp):Hp:=rm p (rm L (rm M H))
theorem u9 (h1:b≠p) (h2:b≠L) (h3:b≠M):Qq p L M H b=H b:=by unfold Qq;rw [mW h1,mW h2,mW h3]
theorem B0 (h:Qq p L M H b=some o):b≠p∧b≠L∧b≠M∧H b=some o:=by
 have h1:b≠p:=fun q=>by rw [q] at h;unfold Qq rm at h;simp at h
 have h2:b≠L:=fun q=>by rw [q] at h;unfold Qq rm at h;simp at h
 have h3:b≠M:=fun q=>by rw [q] at h;unfold Qq rm at h;simp at h
 rw [u9 h1 h2 h3] at h
 exact ⟨h1,h2,h3,h⟩
section
theorem bV.tv (t:∀{b:ao} {xs:List V},H b=some 0#s→H' b=some 0#s) (f:bV H b q n):bV H' b q n:=let ⟨x,d,e,f⟩:=f;⟨x,d,t e,f⟩
theorem dw.tv (t:∀{b:ao} {xs:List V},H b=some 0#s→H' b=some 0#s) (f:dw H b q n):dw H' b q n:=let ⟨x,d,e,f⟩:=f;⟨x,d,t e,f⟩
theorem i9.tv (t:∀{b:ao} {xs:List V},H b=some 0#s→H' b=some 0#s) (f:i9 H b q h n):i9 H' b q h n:=let ⟨x,d,e,f1,f2⟩:=f;⟨x,d,t e,f1.tv t,f2.tv t⟩
theorem mO.tv (t:∀{b:ao} {xs:List V},H b=some 0#s→H' b=some 0#s) (f:mO H x n):mO H' x n:=by
 obtain ⟨a,m,v⟩:=x
 cases v with
 | none=>exact ⟨f.1,t f.2⟩
 | some q=>
   obtain ⟨z,r,e,x,d,g,f⟩:=f
   exact ⟨z,r,t e,x,d,t g,f⟩
theorem Row.tv (t:∀{b:ao} {xs:List V},H b=some 0#s→H' b=some 0#s) (f:Row H es n):Row H' es n:=fun x hx=>(f x hx).tv t
end
def OQ (H:Hp) (v:V) (N:Nat):Option Rat→Prop
 | none=>v=.bC
 | some G=>∃p,v=.ref p∧bV H p G N
theorem OQ.tv (t:∀{b:ao} {xs:List V},H b=some 0#s→H' b=some 0#s) (f:OQ H v N g):OQ H' v N g:=by
 cases g with
 | none=>exact f
 | some G=>exact let ⟨p,e,f⟩:=f;⟨p,e,f.tv t⟩
def GO (ss:List En) (B:Rat) (fl ro:Nat):Option Rat→Prop
 | none=>∀q p,ro≤q→q<p→fl≤p→¬p<ss.length
 | some G=>GF ss B fl ro G
def SO (ss:List En) (B:Rat) (fl ro:Nat):Option Rat→Prop
 | none=>∀q p,fl≤q→q<p→ro≤p→¬p<ss.length
 | some S=>SF ss B fl ro S
structure C9 (ss:List En) (fl ro:Nat) (β:Rat) (g s:Option Rat):Prop where
 all:lz ss
 Ew:rising ss
 hfl:fl≤ss.length
 IJ:ro≤ss.length
 lt:0<ss.length→fl<ss.length∧ro<ss.length
 go:GO ss (2*β) fl ro g
 so:SO ss (2*β) fl ro s
 le:∀G S,g=some G→s=some S→G≤S
 df:fl=ro→fl=0
structure VE (C:ao) (H:Hp) (p Lb La:ao) (ss:List En) (fl ro:Nat) (β:Rat) (n nb:Nat) (g s:Option Rat) (dx bd tw:ao) (fs:List (Str×V)) (gv sv:V):Prop where
 at_:H p=some (.ins C dx fs)
 F:Fb fs bd tw Lb La gv sv
 eb:H Lb=some (.lst (vals (ss.drop fl)))
 ea:H La=some (.lst (vals (ss.drop ro)))
 ne:Lb≠La
 row:Row H ss n
 Vy:dw H bd β nb
 Wb:bV H tw (2*β) (2*nb+1)
 G:OQ H gv (3*n+(2*nb+1)+3) g
 S:OQ H sv (3*n+(2*nb+1)+3) s
 P:C9 ss fl ro β g s
def lY (C:ao) (H:Hp) (p Lb La:ao) (ss:List En) (fl ro:Nat) (β:Rat) (n nb:Nat) (g s:Option Rat):Prop:=∃dx bd tw fs gv sv,VE C H p Lb La ss fl ro β n nb g s dx bd tw fs gv sv
theorem VE.mv (h:VE C H p Lb La ss fl ro β n nb g s dx bd tw fs gv sv) (t:∀{b:ao} {xs:List V},H b=some 0#s→H' b=some 0#s) (hp:H' p=H p) (h1:H' Lb=H Lb) (h2:H' La=H La):VE C H' p Lb La ss fl ro β n nb g s dx bd tw fs gv sv:=
 ⟨hp.trans h.at_,h.F,h1.trans h.eb,h2.trans h.ea,h.ne,h.row.tv t,h.Vy.tv t,h.Wb.tv t,h.G.tv t,h.S.tv t,h.P⟩
theorem VE.up (h:VE C H p Lb La ss fl ro β n nb g s dx bd tw fs gv sv) (k:aq H H'):VE C H' p Lb La ss fl ro β n nb g s dx bd tw fs gv sv:=
 h.mv (fun {b xs} e=>k _ _ e) ((k _ _ h.at_).trans h.at_.symm) ((k _ _ h.eb).trans h.eb.symm) ((k _ _ h.ea).trans h.ea.symm)
theorem lY.up (h:lY C H p Lb La ss fl ro β n nb g s) (k:aq H H'):lY C H' p Lb La ss fl ro β n nb g s:=
 let ⟨dx,bd,tw,fs,gv,sv,h⟩:=h;⟨dx,bd,tw,fs,gv,sv,h.up k⟩
theorem C9.hiG (h:C9 ss fl ro β g s) (e:g=some G):GF ss (2*β) fl ro G∧VH ss (2*β) fl ro G:=by
 have go:=h.go
 have so:=h.so
 rw [e] at go
 refine ⟨go,?_⟩
 cases hs:s with
 | none=>
   rw [hs] at so
   exact fun q p a b c d=>absurd d (so q p a b c)
 | some S=>
   rw [hs] at so
   exact VH.mono so.1 (h.le G S e hs)
theorem C9.loS (h:C9 ss fl ro β g s) (e:s=some S):SF ss (2*β) fl ro S∧VM ss (2*β) fl ro S:=by
 have go:=h.go
 have so:=h.so
 rw [e] at so
 refine ⟨so,?_⟩
 cases hs:g with
 | none=>
   rw [hs] at go
   exact fun q p a b c d=>absurd d (go q p a b c)
 | some G=>
   rw [hs] at go
   exact VM.mono go.1 (h.le G S hs e)
inductive Oi (vs:List V) (H:Hp) (Q:VK) (E_:XK):Prop where
 | mk (p:ao) (q:Rat) (n:Nat):vs=[.ref p]→bV H p q n→(∀(r:ao) (H':Hp),aq H H'→bV H' r (-q) n→Q (.ref r) H')→Oi vs H Q E_
inductive yK (vs:List V) (H:Hp) (Q:VK) (E_:XK):Prop where
 | mk (a b:V) (g s:Option Rat) (m n:Nat):vs=[a,b]→OQ H a m g→OQ H b n s→m+n≤100000→(∀r:Bool,(r=true↔∃G S,g=some G∧s=some S∧S<G)→Q (.bl r) H)→yK vs H Q E_
def Qm (T f l:Rat) (x:En):Bool:=decide (x.2.2.getD 0-(T*(x.2.1:Rat)+f)=l)
theorem uY (h:es[i]?=some x):Qm T f l x=true↔c8 es T i-f=l:=by
 unfold Qm c8 mo wo
 rw [yQ,h]
 show x.2.2.getD 0-(T*(x.2.1:Rat)+f)=l↔x.2.2.getD 0-T*(x.2.1:Rat)-f=l
 constructor
 ·intro h;rw [← h];grind
 ·intro h;rw [← h];grind
inductive tQ (vs:List V) (H:Hp) (Q:VK) (E_:XK):Prop where
 | mk (l ln pb:ao) (es:List En) (T f lam:Rat) (n M nb:Nat):vs=[.ref l,.ref ln,.ref pb]→H l=some (.lst (vals es))→Row H es n→lz es→i9 H ln T f M→bV H pb lam nb→1≤n→n≤10000→M≤10000→nb≤10000→es.length≤900→(∀(R:ao) (H':Hp),aq H H'→H R=none→H' R=some (.lst (vals (es.filter (Qm T f lam))))→Q (.ref R) H')→tQ vs H Q E_
section
theorem JA:aE ["one"] ["one"] (ah vo):=0#a
theorem Jj (F:cH K "opposite" "opposite" vo f fd):bg P w K mg base cM 1 f fd ["one"] Oi:=by
 refine F.ok JA 0#e 0#b
 ·obtain ⟨p,q,n,rfl,_⟩:=h
  rfl
 obtain ⟨p,q,n,rfl,⟨a,b,hp,hq,za,zb⟩,k⟩:=h
 refine bD ⟨_,(aG (aR (bR (bT (jm fY (aK K 0#m)) (aK K 0#m))))),?_⟩
 rw?
 refine aF (mk:=.tup) 0#f fun p1 H1 s1 n1 e1=>?_
 exact k p1 H1 s1 ⟨_,_,e1,hq.neg,by unfold Sz at *;rw [OX];exact za,zb⟩
theorem DL:aE ["one","other"] ["one","other"] (ah ql):=0#a
theorem DB (F:cH K "is_steeper" "is_steeper" ql f fd) (dR:Dn P w K mg base 1 "order" ["one","other"] kX):bg P w K mg base cM 2 f fd ["one","other"] yK:=by
 refine F.ok DL 0#e 0#b
 ·obtain ⟨a,b,g,s,m,n,rfl,_⟩:=h
  rfl
 obtain ⟨a,b,g,s',m,n,rfl,ha,hb,hmn,k⟩:=h
 refine bD ⟨_,(aG (aR (Jd.lF (ic iY 0#m dW (aD _)) (Jd.lF (ic iY 0#x dW (aD _)) (rG (ic cY (b9 dR hr 0#m 0#x) aB (aD _))))))),?_⟩
 cases g with
 | none=>
   obtain rfl:a=.bC:=ha
   rw?
   refine ⟨rfl,_,rfl,bE ?_⟩
   exact k false ⟨fun z=>absurd z 0#h,fun ⟨_,_,e,_⟩=>by cases e⟩
 | some G=>
   obtain ⟨pa,rfl,fa⟩:=ha
   cases s' with
   | none=>
     obtain rfl:b=.bC:=hb
     rw?
     refine ⟨rfl,_,rfl,bJ ?_⟩
     rw?
     refine ⟨rfl,_,rfl,bE ?_⟩
     exact k false ⟨fun z=>absurd z 0#h,fun ⟨_,_,_,e,_⟩=>by cases e⟩
   | some S=>
     obtain ⟨pb,rfl,fb⟩:=hb
     rw?
     refine ⟨rfl,_,rfl,bJ ?_⟩
     rw?
     refine ⟨rfl,_,rfl,bJ ?_⟩
     rw?
     refine ⟨pa,pb,G,S,m,n,rfl,fa,fb,hmn,fun o h1 h2=>?_⟩
     rw?
     refine k _ ⟨fun z=>⟨G,S,rfl,rfl,h1.mp (c6 z)⟩,fun ⟨_,_,e1,e2,z⟩=>?_⟩
     cases e1
     cases e2
     exact dz (h1.mpr z)
theorem MH:aE ["samples","line","lift"] ["samples","line","lift"] (ah yG):=0#a
theorem L5 (F:cH K "touched" "touched" yG f fd) (dR:Dn P w K mg base 1 "order" ["one","other"] kX) (rA:Dn P w K mg base 4 "loose_off" ["line","sample"] MU):bg P w K mg base cM 5 f fd ["samples","line","lift"] tQ:=by
 refine F.ok MH 0#e 0#b
 ·obtain ⟨l,ln,pb,es,T,f,lam,n,M,nb,rfl,_⟩:=h
  rfl
 obtain ⟨l,ln,pb,es,T,fo,lam,n,M,nb,rfl,hl,hR,hS,R7,hpb,h1,hn,hM,hnb,qS,k⟩:=h
 refine bD ⟨_,(aG (aR (jA (O:=["sample"]) (N':=["lift","line" ]) (cap:=[2,1]) rfl (gU K 0#m) (fun _ _ _ _ _=>(bQ (i:=0) (show iN [("sample":Str),("lift":Str),("line":Str)] by decide +kernel) rfl 0#n)) (fun _ _ _ _ _=>(Jd.kG (bh cI (d9 dR 0#A rfl (bX (d9 rA 0#A rfl (bX (aa 2) (bX 0#m gc aP) aP) (he:=aP) (hpl:=(bB aP bS))) (bX 0#x gc aP) DO) (he:=DO) (hpl:=(bB aP bS))) aB (aD _)))) (fun _ _ _ _ _=>0#m) rfl ⟨⟨rfl,rfl,rfl,rfl⟩,0#u⟩ rfl 0#g rfl 0#g))),?_⟩
 rw?
 refine gV ?_
 rw?
 refine ⟨l,rfl,⟨_,aW.of hl⟩,?_⟩
 refine bY (xs:=vals es) bL (fun H3 s3=>aW.of (s3 _ _ hl)) (by rw [aS];try?) (fun i ys G=>ys=vals ((es.take i).filter (Qm T fo lam))) rfl ?_ ?_
 ·rintro D i x ys H3 ly N N0 h0 hD eD s3 hx hy rfl kY kN
  obtain ⟨e,he,rfl⟩:=i8 hx
  have hi:i<es.length:=(fZ.mp he).1
  obtain ⟨xi,gi,fi⟩:=dc (hR.up s3) hS hi
  rw [he] at gi
  cases gi
  have ts:=EJ (Qm T fo lam) es i e he
  refine dG h0 ?_
  rw?
  refine ⟨ln,e.1,T,fo,_,_,n,M,rfl,R7.up s3,fi,h1,by try?,by try?,fun z H4 s4 f4=>?_⟩
  rw?
  refine ⟨z,pb,_,lam,_,nb,rfl,f4,hpb.up (s3.trans s4),by try?,fun o o1 o2=>?_⟩
  have key:o=0↔c8 es T i-fo=lam:=by
   have e1:wo es i-(T*(mo es i:Rat)+fo)=c8 es T i-fo:=by unfold c8;grind
   rw [e1] at o1 o2
   constructor
   ·intro h
    refine J7 (lu.mp fun z=>?_) (lu.mp fun z=>?_)
    ·have:=o1.mpr z;simp?
    ·have:=o2.mpr z;simp?
   ·intro h
    rw [h] at o1 o2
    have p1:¬0<o:=fun z=>U6 (o1.mp z)
    have p2:¬o<0:=fun z=>U6 (o2.mp z)
    simp?
  rw?
  cases hs:decide (o=0) with
  | true=>
    rw [(uY he).mpr (key.mp (c6 hs)),if_pos rfl] at ts
    refine bJ ?_
    rw?
    exact kY _ H4 s4 (by rw [ts,← gQ])
  | false=>
    have:Qm T fo lam e=false:=iU.mpr fun z=>jw hs (key.mpr ((uY he).mp z))
    rw [this,if_neg eO,yS] at ts
    refine bE ?_
    exact kN H4 s4 (by rw [ts])
 ·rintro D ys H3 hD eD s3 hy rfl
  rw [aS,iV] at eD
  rw?
  exact k D H3 s3 hD eD
end
def Kp (F:ao→Prop) (H H':Hp):Prop:=∀b o,¬F b→H b=some o→H' b=some o
theorem Kp.of (s:aq H H'):Kp F H H':=fun b o _ e=>s b o e
theorem Kp.trans (h:Kp F H H') (h':Kp F H' H2):Kp F H H2:=fun b o n e=>h' b o n (h b o n e)
theorem Kp.upd (h:Kp F H H') (hF:F a):Kp F H (upd H' a o):=fun b u n e=>by
 rw [aI (show b≠a from fun q=>n (by rw [q];exact hF))]
 exact h b u n e
theorem Kp.sm (h:Kp F H H') (s:aq H' H2):Kp F H H2:=h.trans (.of s)
theorem N1 (f:Str) (v:V):∀fs:List (Str×V),(aA f v fs).length≤fs.length+1
 | []=>dm _
 | (g,y)::r=>by
   unfold aA
   split
   ·exact sQ _
   ·exact C6 (N1 f v r)
def HN (ss:List En) (β:Rat) (fl:Nat) (g s:Option Rat) (T f:Rat):Prop:=
 ((g=some T∨(g=none∧s=some T))∧(∀i,fl≤i→i<ss.length→c8 ss T i-β≤f)∧∃i,fl≤i∧i<ss.length∧c8 ss T i-β=f)∨(g=none∧s=none∧T=0∧f=wo ss fl)
inductive AU (C:ao) (vs:List V) (H:Hp) (Q:VK) (E_:XK):Prop where
 | mk (p dx pb:ao) (β:Rat) (n:Nat):vs=[.ref p,.ref pb]→H p=some (.ins C dx [])→dw H pb β n→n≤1000→(∀(Lb La:ao) (H':Hp) (k:Nat),aq (rm p H) H'→H Lb=none→H La=none→lY C H' p Lb La [] 0 0 β k n none none→Q .bC H')→AU C vs H Q E_
inductive sI (C:ao) (vs:List V) (H:Hp) (Q:VK) (E_:XK):Prop where
 | mk (p Lb La pt:ao) (ss:List En) (fl ro:Nat) (β T:Rat) (n nb:Nat) (g s:Option Rat):vs=[.ref p,.ref pt]→lY C H p Lb La ss fl ro β n nb g s→bV H pt T (3*n+(2*nb+1)+3)→0<ss.length→ss.length≤900→n≤1500→(5*n+4*nb≤7900∧nb≤1000)→(∀(r:ao) (f:Rat) (H':Hp),aq H H'→i9 H' r T f (5*n+3*nb+7)→(∀i,fl≤i→i<ss.length→c8 ss T i-β≤f)→(∃i,fl≤i∧i<ss.length∧c8 ss T i-β=f)→Q (.ref r) H')→sI C vs H Q E_
inductive TY (C:ao) (vs:List V) (H:Hp) (Q:VK) (E_:XK):Prop where
 | mk (p Lb La x:ao) (ss:List En) (fl ro:Nat) (m:Int) (q β G:Rat) (n nb:Nat) (s:Option Rat):vs=[.ref p,.ref x]→lY C H p Lb La ss fl ro β n nb (some G) s→iQ H x m q n→(∀i,i<ss.length→mo ss i<m)→ss.length≤900→1≤n→n≤1500→(5*n+4*nb≤7900∧nb≤1000)→0≤β→(∃i,fl≤i∧i<ss.length∧q-G*(m:Rat)+2*β<c8 ss G i)→(∀(r ln th A4 A3:ao) (f:Rat) (a b:Nat) (s':Option Rat) (H':Hp),aq (Qq p Lb La H) H'→yT ss β fl ro m q G f a b→H' r=some (.tup [.ref ln,.ref th])→i9 H' ln G f (5*n+3*nb+7)→H' th=some (.tup [.int (mo ss a),.int (mo ss b),.int m])→lY C H' p A4 A3 0#z b ss.length β n nb none s'→H A4=none→H A3=none→Q (.ref r) H')→TY C vs H Q E_
inductive TZ (C:ao) (vs:List V) (H:Hp) (Q:VK) (E_:XK):Prop where
 | mk (p Lb La x:ao) (ss:List En) (fl ro:Nat) (m:Int) (q β S:Rat) (n nb:Nat) (g:Option Rat):vs=[.ref p,.ref x]→lY C H p Lb La ss fl ro β n nb g (some S)→iQ H x m q n→(∀i,i<ss.length→mo ss i<m)→ss.length≤900→1≤n→n≤1500→(5*n+4*nb≤7900∧nb≤1000)→0≤β→(∃i,ro≤i∧i<ss.length∧c8 ss S i+2*β<q-S*(m:Rat))→(∀(r ln th A4 A3:ao) (f:Rat) (a b:Nat) (g':Option Rat) (H':Hp),aq (Qq p Lb La H) H'→yU ss β fl ro m q S f a b→H' r=some (.tup [.ref ln,.ref th])→i9 H' ln S f (5*n+3*nb+7)→H' th=some (.tup [.int (mo ss a),.int (mo ss b),.int m])→lY C H' p A4 A3 0#z ss.length b β n nb g' none→H A4=none→H A3=none→Q (.ref r) H')→TZ C vs H Q E_
def E8 (ss:List En) (β:Rat) (fl ro:Nat) (g s:Option Rat) (m:Int) (q:Rat):Prop:=(∀G,g=some G→∀i,fl≤i→i<ss.length→c8 ss G i≤q-G*(m:Rat)+2*β)∧(∀S,s=some S→∀i,ro≤i→i<ss.length→q-S*(m:Rat)≤c8 ss S i+2*β)
inductive MY (C:ao) (vs:List V) (H:Hp) (Q:VK) (E_:XK):Prop where
 | mk (p Lb La x:ao) (ss:List En) (fl ro:Nat) (m:Int) (q β:Rat) (n nb:Nat) (g s:Option Rat):vs=[.ref p,.ref x]→lY C H p Lb La ss fl ro β n nb g s→iQ H x m q n→(∀i,i<ss.length→mo ss i<m)→ss.length≤900→1≤n→n≤1500→(5*n+4*nb≤7900∧nb≤1000)→0≤β→(∀(g' s':Option Rat) (H':Hp),aq (Qq p Lb La H) H'→E8 ss β fl ro g s m q→lY C H' p Lb La 0#z fl ro β n nb g' s'→Q .bC H')→(∀(r ln th A4 A3:ao) (G f:Rat) (a b:Nat) (s':Option Rat) (H':Hp),aq (Qq p Lb La H) H'→g=some G→yT ss β fl ro m q G f a b→H' r=some (.tup [.ref ln,.ref th])→i9 H' ln G f (5*n+3*nb+7)→H' th=some (.tup [.int (mo ss a),.int (mo ss b),.int m])→lY C H' p A4 A3 0#z b ss.length β n nb none s'→H A4=none→H A3=none→Q (.ref r) H')→(∀(r ln th A4 A3:ao) (S f:Rat) (a b:Nat) (g':Option Rat) (H':Hp),aq (Qq p Lb La H) H'→s=some S→¬(∃G,g=some G∧∃i,fl≤i∧i<ss.length∧q-G*(m:Rat)+2*β<c8 ss G i)→yU ss β fl ro m q S f a b→H' r=some (.tup [.ref ln,.ref th])→i9 H' ln S f (5*n+3*nb+7)→H' th=some (.tup [.int (mo ss a),.int (mo ss b),.int m])→lY C H' p A4 A3 0#z ss.length b β n nb g' none→H A4=none→H A3=none→Q (.ref r) H')→MY C vs H Q E_
inductive T7 (C:ao) (vs:List V) (H:Hp) (Q:VK) (E_:XK):Prop where
 | mk (p Lb La:ao) (ss:List En) (fl ro:Nat) (β:Rat) (n nb:Nat) (g s:Option Rat):vs=[.ref p]→lY C H p Lb La ss fl ro β n nb g s→ss.length≤900→1≤n→n≤1500→(5*n+4*nb≤7900∧nb≤1000)→(ss=[]→Q .bC H)→(0<ss.length→∀(r:ao) (T f:Rat) (H':Hp),aq H H'→i9 H' r T f (5*n+3*nb+7)→HN ss β fl g s T f→Q (.ref r) H')→T7 C vs H Q E_
theorem i9.JM (f:i9 H p s h n) (k:aq H H'):i9 H' p s h n:=f.tv fun {b xs} e=>k _ _ e
theorem DY (oF:0≤β) (hr:rising ss) (g:GF ss (2*β) fl ro G) (hH:VH ss (2*β) fl ro G) (lo:∀i,fl≤i→i<ss.length→c8 ss G i-β≤f) (ex:∃i,fl≤i∧i<ss.length∧c8 ss G i-β=f) :
 (∀i,ro≤i→i<ss.length→f≤c8 ss G i+β)∧∃q p,ro≤q∧q<p∧fl≤p∧p<ss.length∧c8 ss G q+β=f∧c8 ss G p-β=f:=by
 obtain ⟨b,hb,lb,eb⟩:=ex
 have hi:∀i,ro≤i→i<ss.length→f≤c8 ss G i+β:=fun i h l=>by
  have:=acz (by grind) hr g.1 hH h hb l lb
  grind
 refine ⟨hi,?_⟩
 obtain ⟨q,p,a1,a2,a3,a4,e⟩:=g.2
 have e':=(So hr a2 a4).mp e
 have l1:=lo p a3 a4
 have l2:=hi q a1 0#c
 exact ⟨q,p,a1,a2,a3,a4,by grind,by grind⟩
theorem D6 (oF:0≤β) (hr:rising ss) (g:SF ss (2*β) fl ro S) (hL:VM ss (2*β) fl ro S) (lo:∀i,fl≤i→i<ss.length→c8 ss S i-β≤f) (ex:∃i,fl≤i∧i<ss.length∧c8 ss S i-β=f) :
 (∀i,ro≤i→i<ss.length→f≤c8 ss S i+β)∧∃q p,fl≤q∧q<p∧ro≤p∧p<ss.length∧c8 ss S q-β=f∧c8 ss S p+β=f:=by
 obtain ⟨b,hb,lb,eb⟩:=ex
 have hi:∀i,ro≤i→i<ss.length→f≤c8 ss S i+β:=fun i h l=>by
  have:=acz (by grind) hr hL g.1 h hb l lb
  grind
 refine ⟨hi,?_⟩
 obtain ⟨q,p,a1,a2,a3,a4,e⟩:=g.2
 have e':=(NF hr a2 a4).mp e
 have l1:=lo q a1 0#c
 have l2:=hi p a3 a4
 exact ⟨q,p,a1,a2,a3,a4,by grind,by grind⟩
theorem Nt {es:List En} (h:(es.drop j)[i]?=some x):es[j+i]?=some x:=by rw [← um];exact h
theorem zH (h1:lo≤q) (h2:q<es.length) (e:c8 es T q-f=l):∃a x,lo≤a∧a≤q∧es[a]?=some x∧((es.drop lo).filter (Qm T f l))[0]?=some x∧c8 es T a-f=l:=by
 have gq:(es.drop lo)[q-lo]?=some es[q]:=by rw [um,show lo+(q-lo)=q by simp?,je h2]
 have pq:Qm T f l es[q]=true:=(uY (je h2)).mpr e
 obtain ⟨a,x,g,px,e0,hn⟩:=Ik (Qm T f l) (es.drop lo) ⟨_,jL gq,pq⟩
 have g':=Nt g
 refine ⟨lo+a,x,by simp?,?_,g',e0,(uY g').mp px⟩
 by_cases z:q-lo<a
 ·have:=hn _ _ z gq
  rw [pq] at this
  cases this
 ·simp?
theorem CD (h1:lo≤q) (h2:q<es.length) (e:c8 es T q-f=l):∃a x,q≤a∧a<es.length∧es[a]?=some x∧((es.drop lo).filter (Qm T f l))[((es.drop lo).filter (Qm T f l)).length-1]?=some x∧c8 es T a-f=l∧∀i,a<i→i<es.length→c8 es T i-f≠l:=by
 have gq:(es.drop lo)[q-lo]?=some es[q]:=by rw [um,show lo+(q-lo)=q by simp?,je h2]
 have pq:Qm T f l es[q]=true:=(uY (je h2)).mpr e
 obtain ⟨a,x,g,px,e0,hn⟩:=NI (Qm T f l) (es.drop lo) ⟨_,jL gq,pq⟩
 have g':=Nt g
 refine ⟨lo+a,x,?_,(fZ.mp g').1,g',e0,(uY g').mp px,fun i hi hl ei=>?_⟩
 ·by_cases z:a<q-lo
  ·have:=hn _ _ z gq
   rw [pq] at this
   cases this
  ·simp?
 ·have gi:(es.drop lo)[i-lo]?=some es[i]:=by rw [um,show lo+(i-lo)=i by simp?,je hl]
  have:=hn (i-lo) _ 0#c gi
  rw [(uY (je hl)).mpr ei] at this
  cases this
theorem E9 (h:es[es.length-1]?=some x):xE (vals es) (-1)=some (.ref x.1):=by
 have hl:=(fZ.mp h).1
 unfold xE
 rw [aS,AG (m:=es.length-1) 0#d]
 exact w6 h
theorem AE (h:es[0]?=some x):xE (vals es) 0=some (.ref x.1):=fh (j:=0) (w6 h)
theorem wC (h:rising ss) (hm:∀i,i<ss.length→mo ss i<m):rising 0#z:=BY h hm
theorem C9.next (h:C9 ss fl ro β g s) (oF:0≤β) (hm:∀i,i<ss.length→mo ss i<m) (gG:GF 0#z (2*β) fl ro G') (sS:SF 0#z (2*β) fl ro S')
 (n1:¬ ∃G S,g=some G∧some S'=some S∧S<G) (n2:¬ ∃G S,some G'=some G∧s=some S∧S<G):C9 0#z fl ro β (some G') (some S')∧E8 ss β fl ro g s m q:=by
 have hr:=wC (x:=x) (q:=q) h.Ew hm
 have k1:∀G,g=some G→G≤S':=fun G e=>lu.mp fun z=>n1 ⟨G,S',e,rfl,z⟩
 have k2:∀S,s=some S→G'≤S:=fun S e=>lu.mp fun z=>n2 ⟨G',S,rfl,e,z⟩
 have hfl:=h.hfl
 have IJ:=h.IJ
 refine ⟨⟨oX h.all,hr,by rw [ie];simp?,by rw [ie];simp?,fun _=>by rw [ie];simp?,gG,sS,?_,h.df⟩,fun G e i hi hl=>?_,fun S e i hi hl=>?_⟩
 ·intro G S e1 e2
  cases e1
  cases e2
  refine VQ (by grind) hr gG sS (fun i j a b c d=>?_) (fun i j a b c d=>?_)
  ·have go:=h.go
   cases hg:g with
   | none=>rw [hg] at go;exact absurd d (go i j a b c)
   | some G0=>rw [hg] at go;exact zR (go.1 i j a b c d) (k1 G0 hg)
  ·have so:=h.so
   cases hs:s with
   | none=>rw [hs] at so;exact absurd d (so i j a b c)
   | some S0=>rw [hs] at so;exact zR (k2 S0 hs) (so.1 i j a b c d)
 ·refine lu.mp fun z=>?_
  exact absurd ((Fg hr sS (h.hiG e).2 IJ).mpr ⟨i,hi,hl,z⟩) (lu.mpr (k1 G e))
 ·refine lu.mp fun z=>?_
  exact absurd ((Nl hr gG (h.loS e).2 hfl).mpr ⟨i,hi,hl,z⟩) (lu.mpr (k2 S e))
section
theorem GY:aE ["self","bound"] ["self","bound"] (ah rV):=0#a
theorem F5 (F:cH K "__init__" "Bend.__init__" rV f fd) (aL:Cl K mg "Bend" aC ["bound","twice","below","above","gentlest","steepest"]) (pZ:Dn P w K mg base 5 "plus" ["one","other"] (qB (·+·) 1)):bg P w K mg base cM 6 f fd ["self","bound"] (AU aC):=by
 refine F.ok GY 0#e 0#b
 ·obtain ⟨p,dx,pb,β,n,rfl,_⟩:=h
  rfl
 obtain ⟨p,dx,pb,β,n,rfl,hp,hb,hn,k⟩:=h
 have lp:∀(f:Str) (v:V) (fs:List (Str×V)),fs.length≤(aA f v fs).length:=by
  intro f v fs
  induction fs with
  | nil=>exact nH _
  | cons x r ih=>
    obtain ⟨g,y⟩:=x
    unfold aA
    split
    ·exact dm _
    ·exact C6 ih
 have Fp:∀{H H':Hp} {fs:List (Str×V)} {b:ao} {xs:List V},Kp (·=p) H H'→H p=some (.ins aC dx fs)→H b=some 0#s→H' b=some 0#s:=fun h hp e=>h _ _ (fun z=>by rw [z,hp] at e;cases e) e
 refine bD ⟨_,(au (iD K 0#m 0#x) (au (iD K 0#m (b9 pZ hr 0#x 0#x)) (au (iD K 0#m (dP gc)) (au (iD K 0#m (dP gc)) (au (iD K 0#m dW) (aG (iD K 0#m dW))))))),?_⟩
 rw?
 refine zo aL hp (by show 0<1000;decide) ?_
 have k1:Kp (·=p) H (upd H p (.ins aC dx (aA "bound" (.ref pb) []))):=(Kp.of (aq.refl _)).upd rfl
 have hb1:=hb.tv (Fp k1 hp)
 have hp1:upd H p (.ins aC dx (aA "bound" (.ref pb) [])) p=some (.ins aC dx (aA "bound" (.ref pb) [])):=av
 generalize upd H p (.ins aC dx (aA "bound" (.ref pb) []))=H1 at *
 rw?
 refine ⟨pb,pb,β,β,n,n,rfl,hb1.qt,hb1.qt,by try?,fun tw H2 s2 f2=>?_⟩
 have k2:=k1.sm s2
 have hp2:=s2 _ _ hp1
 have hb2:=hb1.up s2
 rw?
 have F6:=fun Lb La=>(Fb.init pb tw Lb La .bC .bC).len
 refine zo aL hp2 (by have:=F6 pb pb;have:=lp "twice" (.ref tw) (aA "bound" (.ref pb) []);have:(aA "bound" (.ref pb) ([]:List (Str×V))).length=1:=rfl;try?) ?_
 have k3:Kp (·=p) H (upd H2 p (.ins aC dx 0#q)):=k2.upd rfl
 have k23:Kp (·=p) H2 (upd H2 p (.ins aC dx 0#q)):=(Kp.of (aq.refl _)).upd rfl
 have hb3:=hb2.tv (Fp k23 hp2)
 have f3:=f2.tv (Fp k23 hp2)
 have hp3:upd H2 p (.ins aC dx 0#q) p=some (.ins aC dx 0#q):=av
 generalize upd H2 p (.ins aC dx 0#q)=H3 at *
 rw?
 refine aF (mk:=.lst) 0#f fun Lb H4 s4 n4 e4=>?_
 have k4:=k3.sm s4
 have hp4:=s4 _ _ hp3
 have nb0:H Lb=none:=by
  cases g:H Lb with
  | none=>rfl
  | some o=>
    by_cases z:Lb=p
    ·rw [z,hp3] at n4;cases n4
    ·rw [k3 _ _ z g] at n4;cases n4
 have SA:Lb≠p:=fun z=>by rw [z,hp3] at n4;cases n4
 rw?
 refine zo aL hp4 (by have z1:=N1 "twice" (.ref tw) (aA "bound" (.ref pb) []);have z2:(aA "bound" (.ref pb) ([]:List (Str×V))).length=1:=rfl;try?) ?_
 have k45:Kp (·=p) H4 (upd H4 p (.ins aC dx (aA "below" (.ref Lb) 0#q))):=(Kp.of (aq.refl _)).upd rfl
 have hb5:=(hb3.up s4).tv (Fp k45 hp4)
 have f5:=(f3.up s4).tv (Fp k45 hp4)
 have e5:=k45 _ _ SA e4
 have k5:=k4.trans k45
 have hp5:upd H4 p (.ins aC dx (aA "below" (.ref Lb) 0#q)) p=some (.ins aC dx (aA "below" (.ref Lb) 0#q)):=av
 generalize upd H4 p (.ins aC dx (aA "below" (.ref Lb) 0#q))=H5 at *
 rw?
 refine aF (mk:=.lst) 0#f fun La H6 s6 n6 e6=>?_
 have k6:=k5.sm s6
 have hp6:=s6 _ _ hp5
 have na0:H La=none:=by
  cases g:H La with
  | none=>rfl
  | some o=>
    by_cases z:La=p
    ·rw [z,hp5] at n6;cases n6
    ·rw [k5 _ _ z g] at n6;cases n6
 have nMp:La≠p:=fun z=>by rw [z,hp5] at n6;cases n6
 have ne:Lb≠La:=fun z=>by rw [← z,e5] at n6;cases n6
 have F:=Fb.init pb tw Lb La .bC .bC
 have l0:=F.len
 have l1:=lp "steepest" .bC (aA "gentlest" .bC (aA "above" (.ref La) (aA "below" (.ref Lb) 0#q)))
 have l2:=lp "gentlest" .bC (aA "above" (.ref La) (aA "below" (.ref Lb) 0#q))
 have l3:=lp "above" (.ref La) (aA "below" (.ref Lb) 0#q)
 rw?
 refine zo aL hp6 0#d ?_
 rw?
 refine zo aL av 0#d ?_
 rw?
 refine zo aL av 0#d ?_
 rw?
 rw [qD,qD]
 have k67:Kp (·=p) H6 (upd H6 p (.ins aC dx (aA "steepest" .bC (aA "gentlest" .bC (aA "above" (.ref La) (aA "below" (.ref Lb) 0#q)))))):=(Kp.of (aq.refl _)).upd rfl
 have k7:=k6.trans k67
 refine k Lb La _ 0 (fun b o e=>?_) nb0 na0 ⟨dx,pb,tw,_,.bC,.bC,av,F,k67 _ _ SA (s6 _ _ e5),k67 _ _ nMp e6,ne,fun x hx=>absurd hx 0#f,(hb5.up s6).tv (Fp k67 hp6),?_,rfl,rfl,⟨fun x hx=>absurd hx 0#f,List.Pairwise.nil,dm _,dm _,fun z=>absurd z 0#f,fun q p _ _ _ z=>absurd z 0#f,fun q p _ _ _ z=>absurd z 0#f,fun _ _ e=>(by cases e),fun _=>rfl⟩⟩
 ·by_cases hb':b=p
  ·rw [hb'] at e
   unfold rm at e
   rw [if_pos rfl] at e
   cases e
  ·rw [mW hb'] at e
   exact k7 _ _ hb' e
 ·have:=((f5.up s6).tv (Fp k67 hp6)).qt
  have V3:(2*β:Rat)=β+β:=by grind
  rw [V3]
  exact this.mono 0#d
theorem in_of {rs:Qs} (hm:rs.map (·.2)=(kq N).map h):(∀i,i<N→∃x∈rs,x.2=h i)∧(∀x∈rs,∃i,i<N∧h i=x.2):=by
 constructor
 ·intro i hi
  have:h i∈rs.map (·.2):=by rw [hm];exact eU.mpr ⟨i,xD.mpr hi,rfl⟩
  obtain ⟨x,hx,e⟩:=eU.mp this
  exact ⟨x,hx,e⟩
 ·intro x hx
  have:x.2∈rs.map (·.2):=eU.mpr ⟨x,hx,rfl⟩
  rw [hm] at this
  obtain ⟨i,hi,e⟩:=eU.mp this
  exact ⟨i,xD.mp hi,e⟩
theorem dO (h:lz es):lz (es.drop j):=fun x hx=>h x (OD hx)
theorem fV (h:Row H es n):Row H (es.drop j) n:=fun x hx=>h x (OD hx)
theorem XI:Sz n 0:=Zw n
theorem lP:aE ["self","steep","told","lows"] ["self","steep"] (ah mX):=0#a
theorem Ae (F:cH K "line_of" "Bend.line_of" mX f fd) (aL:Cl K mg "Bend" aC ["bound","twice","below","above","gentlest","steepest"]) (bG:Dn P w K mg base 4 "reduced" ["quotient"] gO) (cS:Dn P w K mg base 3 "loose_along" ["steep","sample","moment"] sG) (aZ:Dn P w K mg base 1 "loose_minus" ["one","other"] (jH (·-·) 1)) (jS:Dn P w K mg base 2 "greatest" ["quotients"] AV):bg P w K mg base cM 5 f fd ["self","steep"] (sI aC):=by
 refine F.ok lP 0#e 0#b
 ·obtain ⟨p,Lb,La,pt,ss,fl,ro,β,T,n,nb,g,s,rfl,_⟩:=h
  rfl
 obtain ⟨p,Lb,La,pt,ss,fl,ro,β,T,n,nb,g,s',rfl,⟨dx,bd,tw,fs,gv,sv,hB⟩,ht,h0,qS,hn,hnb,k⟩:=h
 have hlt:=(hB.P.lt h0).1
 have ld:(ss.drop fl).length=ss.length-fl:=jO ..
 refine bD ⟨_,(au (nO (i:=2) lP.nd rfl (Or.inr rfl) (Jd.c1 bG hr 0#x) (hs:=fL)) (au (Jd.kF (O:=["sample"]) (N':=["told","self" ]) (cap:=[2,0]) (i:=3) lP.nd rfl 0#n rfl (gU K (eN K 0#m)) (fun _ _ _ _ _=>(bQ (i:=0) (show iN [("sample":Str),("told":Str),("self":Str)] by decide +kernel) rfl 0#n)) (fun _ _ _ _ _=>jn) (fun _ _ _ _ _=>(d9 aZ 0#A rfl (bX (d9 cS 0#A rfl (bX 0#x (bX 0#m (bX aB gc iK) aP) aP) (he:=aP) (hpl:=(bB aP (bB iK bS)))) (bX (eN K (aa 2)) gc) DO) (he:=DO) (hpl:=(bB (by rfl) bS)))) rfl ⟨⟨rfl,rfl,rfl,rfl⟩,0#u⟩ rfl 0#g rfl 0#g (by rfl)) (aG (aR (bR (bT (aa 2) (Jd.c1 bG hr (Jd.c1 jS hr (aa 3))))))))),?_⟩
 rw?
 refine ⟨pt,T,_,rfl,ht,by try?,fun to H1 s1 f1=>?_⟩
 rw?
 refine gV ?_
 rw?
 refine jM aL (s1 _ _ hB.at_) hB.F.bl ?_
 refine ⟨Lb,rfl,⟨_,aW.of (s1 _ _ hB.eb)⟩,?_⟩
 refine bY (xs:=vals (ss.drop fl)) bL (fun H3 s3=>aW.of (s3 _ _ (s1 _ _ hB.eb))) (by rw [aS];try?) (fun i ys G'=>∃rs:Qs,ys=c9 rs∧EY G' rs (5*n+3*nb+7)∧rs.map (·.2)=(kq i).map (fun j=>c8 (ss.drop fl) T j-β)) ⟨[],rfl,fun z hz=>absurd hz 0#f,rfl⟩ ?_ ?_
 ·rintro D i v ys H3 ly N N0 h0' hD eD s3 hv hy ⟨rs,rfl,hrs,hmap⟩ kY kN
  obtain ⟨e,he,rfl⟩:=i8 hv
  have hi:i<(ss.drop fl).length:=(fZ.mp he).1
  obtain ⟨xi,gi,fi⟩:=dc (fV (hB.row.up (s1.trans s3))) (dO hB.P.all) hi
  rw [he] at gi
  cases gi
  refine dG h0' ?_
  rw?
  refine bJ ?_
  rw?
  refine ⟨to,e.1,T,_,_,0,_,n,rfl,(f1.up s3).qt,fi,XI,by try?,by try?,fun x H4 s4 f4=>?_⟩
  rw?
  refine jM aL ((s1.trans (s3.trans s4)) _ _ hB.at_) hB.F.bd ?_
  rw?
  refine ⟨x,bd,_,β,_,nb,rfl,f4,(hB.Vy.up (s1.trans (s3.trans s4))).qt,by try?,fun x5 H5 s5 f5=>?_⟩
  refine kY _ H5 (s4.trans s5) ⟨rs++[(x5,c8 (ss.drop fl) T i-β)],by simp [c9],fun y hy'=>?_,?_⟩
  ·rcases dH.mp hy' with w | w
   ·exact (hrs y w).up (wD (s4.trans s5))
   ·obtain rfl:y=(x5,c8 (ss.drop fl) T i-β):=by simpa using w
    have e1:wo (ss.drop fl) i+T*((0-mo (ss.drop fl) i:Int):Rat)-β=c8 (ss.drop fl) T i-β:=by
     unfold c8
     rw [uo]
     grind
    have f5:bV H5 x5 (wo (ss.drop fl) i+T*((0-mo (ss.drop fl) i:Int):Rat)-β) _:=f5
    rw [e1] at f5
    obtain ⟨t,d,e',ff⟩:=f5.mono (show 3*n+(2*nb+1)+3+2*n+2+nb+1≤5*n+3*nb+7 by try?)
    exact ⟨t,d,ja ((s4.trans s5) _ _ eD) e',ff⟩
  ·rw [ju,hmap,uy,ju]
   rfl
 rintro D ys H3 hD eD s3 hy ⟨rs,rfl,hrs,hmap⟩
 rw [aS] at hmap
 have hlen:rs.length=(ss.drop fl).length:=by
  have:=congrArg nE hmap
  simpa using this
 obtain ⟨inR,ofR⟩:=in_of hmap
 rw?
 refine ⟨D,rs,5*n+3*nb+7,rfl,eD,fun x hx=>(hrs x hx).up iZ,by try?,by try?,fun mx hmx Bp=>?_⟩
 rw?
 refine ⟨mx.1,mx.2,_,rfl,(hrs mx hmx).up iZ,by try?,fun r4 H4 s4 f4=>?_⟩
 rw?
 refine aF (mk:=.tup) 0#f fun y H5 s5 n5 e5=>?_
 refine k y mx.2 H5 (s1.trans (s3.trans (s4.trans s5))) ⟨to,r4,e5,(f1.up (s3.trans (s4.trans s5))).mono 0#d,f4.up s5⟩ (fun i hi hl=>?_) ?_
 ·obtain ⟨x,hx,e⟩:=inR (i-fl) 0#d
  have:=Bp x hx
  rw [e,IP,show fl+(i-fl)=i by try?] at this
  exact this
 ·obtain ⟨i,hi,e⟩:=ofR mx hmx
  exact ⟨fl+i,by try?,by try?,by rw [← IP];exact e⟩
theorem fq:aE ["self","sample","line","first","mid"] ["self","sample"] (ah iH):=0#a
theorem rN (F:cH K "ended_in_cap" "Bend.ended_in_cap" iH f fd) (aL:Cl K mg "Bend" aC ["bound","twice","below","above","gentlest","steepest"]) (cz:Dm P w K mg base 5 aC "line_of" ["self","steep"] (sI aC)) (jh:Dn P w K mg base 5 "touched" ["samples","line","lift"] tQ) (jV:Dn P w K mg base 1 "opposite" ["one"] Oi) (cD:Dn P w K mg base 4 "steepest_with" ["known","earlier","sample","twice"] wU):bg P w K mg base cM 6 f fd ["self","sample"] (TY aC):=by
 refine F.ok fq 0#e 0#b
 ·obtain ⟨p,Lb,La,x,ss,fl,ro,m,q,β,G,n,nb,s,rfl,_⟩:=h
  rfl
 obtain ⟨p,Lb,La,x,ss,fl,ro,m,q,β,G,n,nb,s',rfl,⟨dx,bd,tw,fs,gv,sv,hB⟩,hx,hm,qS,h1,hn,hnb,oF,hoff,k⟩:=h
 have h0:0<ss.length:=by obtain ⟨i,_,hi,_⟩:=hoff;try?
 obtain ⟨hfl,IJ⟩:=hB.P.lt h0
 obtain ⟨pg,rfl,fg⟩:=id hB.G
 obtain ⟨gG,hG⟩:=hB.P.hiG rfl
 have Ew:=hB.P.Ew
 refine bD ⟨_,(au (aN 2 fq.nd (Jd.wk cz aL.cl 0#A 0#m (cO (eN K 0#m)) (he:=(by rfl)) (hpl:=bS))) (au (aN 3 fq.nd (cW K (Jd.c3 jh hr (eN K 0#m) (aa 2) (Jd.c1 jV hr (eN K 0#m))))) (au (nO (i:=4) fq.nd rfl (Or.inr rfl) (cy (lS K) (Jd.c3 jh hr (eN K 0#m) (aa 2) (eN K 0#m)) (jm fY aB) 0#o) (hs:=Xz)) (au (iD K 0#m (jA (O:=["other"]) (N':=["mid"]) (cap:=[4]) rfl (gU K (eN K 0#m)) (fun _ _ _ _ _=>(bQ (i:=0) (show iN [("other":Str),("mid":Str)] by decide +kernel) rfl 0#n)) (fun _ _ _ _ _=>(Jd.kG (bh vY (cy (HH K) 0#m aB 0#o) (cy (HH K) 0#x aB 0#o) (aD _)))) (fun _ _ _ _ _=>0#m) rfl 0#u rfl 0#g rfl 0#g)) (au (iD K 0#m (d9 cD 0#A rfl (Jd.a4 dW (eN K 0#m) 0#x (eN K 0#m)) (he:=iK) (hpl:=(bB (by rfl) (bB aP (bB (by rfl) bS)))))) (au (iD K 0#m dW) (au (gE (d7 K (eN K 0#m) 0#x) (hs:=fL)) (au (iD K 0#m (dP (cO 0#x))) (aG (aR (bR (bT (aa 2) (bR (Jd.a3 (aK K (aa 3)) (aK K (aa 4)) (aK K 0#x))))))))))))))),?_⟩
 rw?
 refine Q0 hB.at_ (hB.F.xZ "line_of") ?_
 rw?
 refine jM aL hB.at_ hB.F.g ?_
 rw?
 refine ⟨p,Lb,La,pg,ss,fl,ro,β,G,n,nb,some G,s',rfl,⟨dx,bd,tw,fs,_,sv,hB⟩,fg,h0,qS,hn,hnb,fun ln fo H1 s1 f1 lo ex=>?_⟩
 obtain ⟨hi,q0,p0,a1,a2,a3,a4,eq0,ep0⟩:=DY oF Ew gG hG lo ex
 have uS:=hB.up s1
 rw?
 refine jM aL uS.at_ hB.F.ab ?_
 rw?
 refine jM aL uS.at_ hB.F.bd ?_
 rw?
 refine ⟨bd,β,nb,rfl,uS.Vy.qt,fun ob H2 s2 f2=>?_⟩
 have hB2:=uS.up s2
 rw?
 refine ⟨La,ln,ob,ss.drop ro,G,fo,-β,n,_,nb,rfl,hB2.ea,fV hB2.row,dO hB.P.all,f1.JM s2,f2,h1,by try?,by try?,by try?,by rw [jO];try?,fun R3 H3 s3 n3 e3=>?_⟩
 have Eb:=hB2.up s3
 obtain ⟨a,xa,b1,b2,ga,g0,ea⟩:=zH (l:=-β) (f:=fo) a1 0#d (show c8 ss G q0-fo=-β by grind)
 obtain ⟨xa',ga',fa⟩:=dc (Eb.row) hB.P.all (show a<ss.length by try?)
 rw [ga] at ga'
 cases ga'
 rw?
 refine cG e3 (AE g0) ?_
 rw?
 refine jM aL Eb.at_ hB.F.bl ?_
 rw?
 refine jM aL Eb.at_ hB.F.bd ?_
 rw?
 refine ⟨Lb,ln,bd,ss.drop fl,G,fo,β,n,_,nb,rfl,Eb.eb,fV Eb.row,dO hB.P.all,f1.JM (s2.trans s3),Eb.Vy.qt,h1,by try?,by try?,by try?,by rw [jO];try?,fun R4 H4 s4 n4 e4=>?_⟩
 have Ec:=Eb.up s4
 have yr:=s1.trans (s2.trans (s3.trans s4))
 obtain ⟨b,xb,c1,c2,gb,g1,eb,fb⟩:=CD (l:=β) (f:=fo) a3 a4 (show c8 ss G p0-fo=β by grind)
 obtain ⟨xb',gb',fxb⟩:=dc Ec.row hB.P.all c2
 rw [gb] at gb'
 cases gb'
 obtain ⟨vb,evb,_⟩:=id fxb
 obtain ⟨va,eva,_⟩:=id (fa.up s4)
 have mb:xb.2.1=mo ss b:=by unfold mo;rw [gb];rfl
 have gdb:(ss.drop fl)[b-fl]?=some xb:=by rw [um,show fl+(b-fl)=b by try?];exact gb
 have edb:(ss.drop fl).filter (fun y=>decide (xb.2.1≤y.2.1))=ss.drop b:=by
  rw [Nu (yX Ew) gdb,ZD,show fl+(b-fl)=b by try?]
 rw?
 refine cG e4 (E9 g1) ?_
 rw?
 refine gV ?_
 rw?
 refine jM aL Ec.at_ hB.F.bl ?_
 refine ⟨Lb,rfl,⟨_,aW.of Ec.eb⟩,?_⟩
 refine bY (xs:=vals (ss.drop fl)) bL (fun H5 s5=>aW.of (s5 _ _ Ec.eb)) (by rw [aS,jO];try?) (fun i ys _=>ys=vals (((ss.drop fl).take i).filter (fun y=>decide (xb.2.1≤y.2.1)))) rfl ?_ ?_
 ·rintro D i v ys H5 ly N N0 h0' hD eD s5 hv hy rfl kY kN
  obtain ⟨e,he,rfl⟩:=i8 hv
  have hi:i<(ss.drop fl).length:=(fZ.mp he).1
  obtain ⟨xi,gi,⟨vi,ei,_⟩⟩:=dc (fV (Ec.row.up s5)) (dO hB.P.all) hi
  rw [he] at gi
  cases gi
  have me:mo (ss.drop fl) i=e.2.1:=by unfold mo;rw [he];rfl
  have ts:=EJ (fun y:En=>decide (xb.2.1≤y.2.1)) (ss.drop fl) i e he
  have afe:=s5 _ _ evb
  refine dG h0' ?_
  rw?
  cases hs:decide (xb.2.1≤e.2.1) with
  | true=>
    rw [hs,if_pos rfl] at ts
    have hs':=c6 hs
    rw [show decide (mo ss b≤mo (ss.drop fl) i)=true from dz (by rw [me,← mb];exact hs')]
    refine bJ ?_
    rw?
    exact kY _ H5 (aq.refl _) (by rw [ts,← gQ])
  | false=>
    rw [hs,if_neg eO,yS] at ts
    have hs':=jw hs
    rw [show decide (mo ss b≤mo (ss.drop fl) i)=false from gJ (by rw [me,← mb];exact hs')]
    refine bE ?_
    exact kN H5 (aq.refl _) (by rw [ts])
 rintro D ys H5 hD eD s5 hy rfl
 rw [aS,iV,edb] at eD
 have K1:=Ec.up s5
 have Mu:=yr.trans s5
 have nD:H D=none:=by
  cases g:H D with
  | none=>rfl
  | some o=>rw [yr _ _ g] at hD;cases hD
 have WN:D≠p:=fun z=>by rw [z,hB.at_] at nD;cases nD
 have fl0:=hB.F.len
 rw?
 refine zo aL K1.at_ 0#d ?_
 have kd:Kp (fun b=>b=p) H5 (upd H5 p (.ins aC dx (aA "below" (.ref D) fs))):=(Kp.of (aq.refl _)).upd rfl
 have V4:upd H5 p (.ins aC dx (aA "below" (.ref D) fs)) p=some (.ins aC dx (aA "below" (.ref D) fs)):=av
 have k6:Kp (fun b=>b=p∨b=D) H (upd H5 p (.ins aC dx (aA "below" (.ref D) fs))):=(Kp.of Mu).upd (.inl rfl)
 have eD6:=kd _ _ WN eD
 have tp:∀{b:ao} {xs:List V},H5 b=some 0#s→upd H5 p (.ins aC dx (aA "below" (.ref D) fs)) b=some 0#s:=fun e=>kd _ _ (fun z=>by rw [z,K1.at_] at e;cases e) e
 have Tv:=(K1.row).tv tp
 have hx6:=((hx.up Mu).en.tv tp).sa
 have RJ:=K1.Wb.tv tp
 have aaC:=K1.Vy.tv tp
 have aaG:=(f1.JM (s2.trans (s3.trans (s4.trans s5)))).tv tp
 have aaA:=tp (s5 _ _ eva)
 have aaB:=tp (s5 _ _ evb)
 generalize upd H5 p (.ins aC dx (aA "below" (.ref D) fs))=H6 at *
 have F6:=hB.F.TU (y:=D)
 have l6:=F6.len
 rw?
 refine jM aL V4 F6.bl ?_
 rw?
 refine jM aL V4 F6.tw ?_
 rw?
 have ldb:(ss.drop b).length=ss.length-b:=jO ..
 refine ⟨.bC,D,x,tw,ss.drop b,m,q,2*β,n,2*nb+1,rfl,eD6,fV Tv,dO hB.P.all,hx6,RJ,by try?,by try?,by try?,fun i hi=>by rw [nP];exact hm _ 0#d,.inl rfl,fun z=>absurd z 0#d,fun _ ps S H7 s7 f7 _ hall hex=>?_⟩
 have sS:SF 0#z (2*β) b ss.length S:=TV (s:=none) (fun _ e=>by cases e) (fun _ i j _ _ z=>by try?) (dm _) hall (by
  rcases hex with z | ⟨pk,e,_⟩
  ·exact .inl z
  ·cases e)
 rw?
 have X0:=s7 _ _ V4
 refine zo aL X0 0#d ?_
 rw?
 refine zo aL av (by rw [fU F6.s];try?) ?_
 rw?
 refine jM aL av F6.wJ.wI.bl ?_
 rw?
 rw [qD]
 have k8:Kp (fun b=>b=p∨b=D) H (upd H7 p (.ins aC dx 0#k)):=(k6.sm s7).upd (.inl rfl)
 have ep8:upd H7 p (.ins aC dx 0#k) p=some (.ins aC dx 0#k):=av
 have k78:Kp (fun b=>b=p) H7 (upd H7 p (.ins aC dx 0#k)):=(Kp.of (aq.refl _)).upd rfl
 have eD8:=k78 _ _ WN (s7 _ _ eD6)
 have tp8:∀{b:ao} {xs:List V},H6 b=some 0#s→upd H7 p (.ins aC dx 0#k) b=some 0#s:=fun e=>k78 _ _ (fun z=>by rw [z,V4] at e;cases e) (s7 _ _ e)
 have f8:bV (upd H7 p (.ins aC dx 0#k)) ps S (3*n+(2*nb+1)+3):=f7.tv fun {b xs} e=>k78 _ _ (fun z=>by rw [z,X0] at e;cases e) e
 generalize upd H7 p (.ins aC dx 0#k)=H8 at *
 have F8:=F6.wJ (y:=.ref ps) |>.wI (y:=.bC)
 refine ⟨.inl ⟨rfl,_,aW.of eD8⟩,?_⟩
 rw?
 refine cZ eD8 (by rw [aS];exact aO 0#d) ?_
 have k9:Kp (fun b=>b=p∨b=D) H (upd H8 D (.lst (vals (ss.drop b)++[.ref x]))):=k8.upd (.inr rfl)
 have ep9:upd H8 D (.lst (vals (ss.drop b)++[.ref x])) p=some (.ins aC dx 0#k):=by rw [aI (eG WN)];exact ep8
 have eD9:upd H8 D (.lst (vals (ss.drop b)++[.ref x])) D=some (.lst (vals ((ss++[(x,m,some q)]).drop b))):=by
  rw [av,QK 0#d,← gQ]
 have tp9:∀{b':ao} {xs:List V},H8 b'=some 0#s→upd H8 D (.lst (vals (ss.drop b)++[.ref x])) b'=some 0#s:=fun e=>by rw [aI (fun z=>by rw [z,eD8] at e;cases e)];exact e
 generalize upd H8 D (.lst (vals (ss.drop b)++[.ref x]))=H9 at *
 rw?
 refine aF (mk:=.lst) 0#f fun M tE qK xG HF=>?_
 have nM:H M=none:=by
  cases g:H M with
  | none=>rfl
  | some o=>
    by_cases z:M=p
    ·rw [z,ep9] at xG;cases xG
    ·by_cases z2:M=D
     ·rw [z2,eD9] at xG;cases xG
     ·rw [k9 _ _ (fun u=>by rcases u with u | u;exact z u;exact z2 u) g] at xG;cases xG
 have nMp:M≠p:=fun z=>by rw [z,hB.at_] at nM;cases nM
 have nMD:D≠M:=fun z=>by rw [← z,eD9] at xG;cases xG
 rw?
 have l8:=F8.len
 refine zo aL (qK _ _ ep9) 0#d ?_
 have F11:=F8.TR (y:=M)
 have k11:Kp (fun b=>b=p∨b=D) H (upd tE p (.ins aC dx (aA "above" (.ref M) 0#k))):=(k9.sm qK).upd (.inl rfl)
 have aay:upd tE p (.ins aC dx (aA "above" (.ref M) 0#k)) p=some (.ins aC dx (aA "above" (.ref M) 0#k)):=av
 have Bt:Kp (fun b=>b=p) tE (upd tE p (.ins aC dx (aA "above" (.ref M) 0#k))):=(Kp.of (aq.refl _)).upd rfl
 have aav:=Bt _ _ WN (qK _ _ eD9)
 have aaw:=Bt _ _ nMp HF
 have Ui:∀{b:ao} {xs:List V},H9 b=some 0#s→upd tE p (.ins aC dx (aA "above" (.ref M) 0#k)) b=some 0#s:=fun e=>Bt _ _ (fun z=>by rw [z,ep9] at e;cases e) (qK _ _ e)
 generalize upd tE p (.ins aC dx (aA "above" (.ref M) 0#k))=KC at *
 have EE:∀{b:ao} {xs:List V},H6 b=some 0#s→KC b=some 0#s:=fun e=>Ui (tp9 (tp8 e))
 have acG:=EE aaA
 have acH:=EE aaB
 obtain ⟨vx,evx,_⟩:=id hx6
 have acI:=EE evx
 rw?
 refine aF (mk:=.tup) 0#f fun th H12 s12 n12 V2=>?_
 rw?
 refine aF (mk:=.tup) 0#f fun r H13 Ey n13 XY=>?_
 have Mv:=s12.trans Ey
 refine k r ln th D M fo a b (some S) H13 (fun b' o e=>?_) ⟨gG,hoff,lo,hi,b1,by grind,by try?,c2,by grind,fun i hi hl z=>fb i hi hl (by grind),by try?⟩ XY ((aaG.tv EE).JM Mv) (Ey _ _ V2) ⟨dx,bd,tw,_,.bC,.ref ps,VE.up ⟨aay,F11,aav,?_,nMD,?_,aaC.tv EE,RJ.tv EE,rfl,⟨ps,rfl,(f8.tv fun e=>Ui (tp9 e))⟩,?_⟩ Mv⟩ nD nM
 ·obtain ⟨n1,n2,n3,e⟩:=B0 e
  refine Mv _ _ (k11 _ _ (fun z=>?_) e)
  rcases z with z | z
  ·exact n1 z
  ·rw [z,nD] at e;cases e
 ·rw [QK (dm _),Zp]
  exact aaw
 ·exact (Tv.tv EE).snoc (hx6.en.tv EE)
 ·refine ⟨oX hB.P.all,wC Ew hm,by rw [ie];try?,by rw [ie];try?,fun _=>by rw [ie];try?,fun i j hi hij _ hj=>?_,sS,fun _ _ e=>(by cases e),fun z=>absurd z 0#d⟩
  rw [ie] at hj
  try?
theorem fu:aE ["self","sample","line","first","mid"] ["self","sample"] (ah iI):=0#a
theorem rO (F:cH K "ended_in_cup" "Bend.ended_in_cup" iI f fd) (aL:Cl K mg "Bend" aC ["bound","twice","below","above","gentlest","steepest"]) (cz:Dm P w K mg base 5 aC "line_of" ["self","steep"] (sI aC)) (jh:Dn P w K mg base 5 "touched" ["samples","line","lift"] tQ) (jV:Dn P w K mg base 1 "opposite" ["one"] Oi) (cC:Dn P w K mg base 4 "gentlest_with" ["known","earlier","sample","twice"] sD):bg P w K mg base cM 6 f fd ["self","sample"] (TZ aC):=by
 refine F.ok fu 0#e 0#b
 ·obtain ⟨p,Lb,La,x,ss,fl,ro,m,q,β,G,n,nb,s,rfl,_⟩:=h
  rfl
 obtain ⟨p,Lb,La,x,ss,fl,ro,m,q,β,G,n,nb,s',rfl,⟨dx,bd,tw,fs,gv,sv,hB⟩,hx,hm,qS,h1,hn,hnb,oF,hoff,k⟩:=h
 have h0:0<ss.length:=by obtain ⟨i,_,hi,_⟩:=hoff;try?
 obtain ⟨hfl,IJ⟩:=hB.P.lt h0
 obtain ⟨pg,rfl,fg⟩:=id hB.S
 obtain ⟨gG,hG⟩:=hB.P.loS rfl
 have Ew:=hB.P.Ew
 refine bD ⟨_,(au (aN 2 fu.nd (Jd.wk cz aL.cl 0#A 0#m (cO (eN K 0#m)) (he:=(by rfl)) (hpl:=bS))) (au (aN 3 fu.nd (cW K (Jd.c3 jh hr (eN K 0#m) (aa 2) (eN K 0#m)))) (au (nO (i:=4) fu.nd rfl (Or.inr rfl) (cy (lS K) (Jd.c3 jh hr (eN K 0#m) (aa 2) (Jd.c1 jV hr (eN K 0#m))) (jm fY aB) 0#o) (hs:=Xz)) (au (iD K 0#m (jA (O:=["other"]) (N':=["mid"]) (cap:=[4]) rfl (gU K (eN K 0#m)) (fun _ _ _ _ _=>(bQ (i:=0) (show iN [("other":Str),("mid":Str)] by decide +kernel) rfl 0#n)) (fun _ _ _ _ _=>(Jd.kG (bh vY (cy (HH K) 0#m aB 0#o) (cy (HH K) 0#x aB 0#o) (aD _)))) (fun _ _ _ _ _=>0#m) rfl 0#u rfl 0#g rfl 0#g)) (au (iD K 0#m (d9 cC 0#A rfl (Jd.a4 dW (eN K 0#m) 0#x (eN K 0#m)) (he:=iK) (hpl:=(bB (by rfl) (bB aP (bB (by rfl) bS)))))) (au (iD K 0#m dW) (au (gE (d7 K (eN K 0#m) 0#x) (hs:=fL)) (au (iD K 0#m (dP (cO 0#x))) (aG (aR (bR (bT (aa 2) (bR (Jd.a3 (aK K (aa 3)) (aK K (aa 4)) (aK K 0#x))))))))))))))),?_⟩
 rw?
 refine Q0 hB.at_ (hB.F.xZ "line_of") ?_
 rw?
 refine jM aL hB.at_ hB.F.s ?_
 rw?
 refine ⟨p,Lb,La,pg,ss,fl,ro,β,G,n,nb,s',some G,rfl,⟨dx,bd,tw,fs,gv,_,hB⟩,fg,h0,qS,hn,hnb,fun ln fo H1 s1 f1 lo ex=>?_⟩
 obtain ⟨hi,q0,p0,a1,a2,a3,a4,eq0,ep0⟩:=D6 oF Ew gG hG lo ex
 have uS:=hB.up s1
 rw?
 refine jM aL uS.at_ hB.F.bl ?_
 rw?
 refine jM aL uS.at_ hB.F.bd ?_
 rw?
 refine ⟨Lb,ln,bd,ss.drop fl,G,fo,β,n,_,nb,rfl,uS.eb,fV uS.row,dO hB.P.all,f1,uS.Vy.qt,h1,by try?,by try?,by try?,by rw [jO];try?,fun R3 H3 s3 n3 e3=>?_⟩
 have Eb:=uS.up s3
 obtain ⟨a,xa,b1,b2,ga,g0,ea⟩:=zH (l:=β) (f:=fo) a1 0#d (show c8 ss G q0-fo=β by grind)
 obtain ⟨xa',ga',fa⟩:=dc (Eb.row) hB.P.all (show a<ss.length by try?)
 rw [ga] at ga'
 cases ga'
 rw?
 refine cG e3 (AE g0) ?_
 rw?
 refine jM aL Eb.at_ hB.F.ab ?_
 rw?
 refine jM aL Eb.at_ hB.F.bd ?_
 rw?
 refine ⟨bd,β,nb,rfl,Eb.Vy.qt,fun ob H2 s2 f2=>?_⟩
 have hB2:=Eb.up s2
 rw?
 refine ⟨La,ln,ob,ss.drop ro,G,fo,-β,n,_,nb,rfl,hB2.ea,fV hB2.row,dO hB.P.all,f1.JM (s3.trans s2),f2,h1,by try?,by try?,by try?,by rw [jO];try?,fun R4 H4 s4 n4 e4=>?_⟩
 have Ec:=hB2.up s4
 have yr:=s1.trans (s3.trans (s2.trans s4))
 obtain ⟨b,xb,c1,c2,gb,g1,eb,fb⟩:=CD (l:=-β) (f:=fo) a3 a4 (show c8 ss G p0-fo=-β by grind)
 obtain ⟨xb',gb',fxb⟩:=dc Ec.row hB.P.all c2
 rw [gb] at gb'
 cases gb'
 obtain ⟨vb,evb,_⟩:=id fxb
 obtain ⟨va,eva,_⟩:=id (fa.up (s2.trans s4))
 have mb:xb.2.1=mo ss b:=by unfold mo;rw [gb];rfl
 have gdb:(ss.drop ro)[b-ro]?=some xb:=by rw [um,show ro+(b-ro)=b by try?];exact gb
 have edb:(ss.drop ro).filter (fun y=>decide (xb.2.1≤y.2.1))=ss.drop b:=by
  rw [Nu (yX Ew) gdb,ZD,show ro+(b-ro)=b by try?]
 rw?
 refine cG e4 (E9 g1) ?_
 rw?
 refine gV ?_
 rw?
 refine jM aL Ec.at_ hB.F.ab ?_
 refine ⟨La,rfl,⟨_,aW.of Ec.ea⟩,?_⟩
 refine bY (xs:=vals (ss.drop ro)) bL (fun H5 s5=>aW.of (s5 _ _ Ec.ea)) (by rw [aS,jO];try?) (fun i ys _=>ys=vals (((ss.drop ro).take i).filter (fun y=>decide (xb.2.1≤y.2.1)))) rfl ?_ ?_
 ·rintro D i v ys H5 ly N N0 h0' hD eD s5 hv hy rfl kY kN
  obtain ⟨e,he,rfl⟩:=i8 hv
  have hi:i<(ss.drop ro).length:=(fZ.mp he).1
  obtain ⟨xi,gi,⟨vi,ei,_⟩⟩:=dc (fV (Ec.row.up s5)) (dO hB.P.all) hi
  rw [he] at gi
  cases gi
  have me:mo (ss.drop ro) i=e.2.1:=by unfold mo;rw [he];rfl
  have ts:=EJ (fun y:En=>decide (xb.2.1≤y.2.1)) (ss.drop ro) i e he
  have afe:=s5 _ _ evb
  refine dG h0' ?_
  rw?
  cases hs:decide (xb.2.1≤e.2.1) with
  | true=>
    rw [hs,if_pos rfl] at ts
    have hs':=c6 hs
    rw [show decide (mo ss b≤mo (ss.drop ro) i)=true from dz (by rw [me,← mb];exact hs')]
    refine bJ ?_
    rw?
    exact kY _ H5 (aq.refl _) (by rw [ts,← gQ])
  | false=>
    rw [hs,if_neg eO,yS] at ts
    have hs':=jw hs
    rw [show decide (mo ss b≤mo (ss.drop ro) i)=false from gJ (by rw [me,← mb];exact hs')]
    refine bE ?_
    exact kN H5 (aq.refl _) (by rw [ts])
 rintro D ys H5 hD eD s5 hy rfl
 rw [aS,iV,edb] at eD
 have K1:=Ec.up s5
 have Mu:=yr.trans s5
 have nD:H D=none:=by
  cases g:H D with
  | none=>rfl
  | some o=>rw [yr _ _ g] at hD;cases hD
 have WN:D≠p:=fun z=>by rw [z,hB.at_] at nD;cases nD
 have fl0:=hB.F.len
 rw?
 refine zo aL K1.at_ 0#d ?_
 have kd:Kp (fun b=>b=p) H5 (upd H5 p (.ins aC dx (aA "above" (.ref D) fs))):=(Kp.of (aq.refl _)).upd rfl
 have V4:upd H5 p (.ins aC dx (aA "above" (.ref D) fs)) p=some (.ins aC dx (aA "above" (.ref D) fs)):=av
 have k6:Kp (fun b=>b=p∨b=D) H (upd H5 p (.ins aC dx (aA "above" (.ref D) fs))):=(Kp.of Mu).upd (.inl rfl)
 have eD6:=kd _ _ WN eD
 have tp:∀{b:ao} {xs:List V},H5 b=some 0#s→upd H5 p (.ins aC dx (aA "above" (.ref D) fs)) b=some 0#s:=fun e=>kd _ _ (fun z=>by rw [z,K1.at_] at e;cases e) e
 have Tv:=(K1.row).tv tp
 have hx6:=((hx.up Mu).en.tv tp).sa
 have RJ:=K1.Wb.tv tp
 have aaC:=K1.Vy.tv tp
 have aaG:=(f1.JM (s3.trans (s2.trans (s4.trans s5)))).tv tp
 have aaA:=tp (s5 _ _ eva)
 have aaB:=tp (s5 _ _ evb)
 generalize upd H5 p (.ins aC dx (aA "above" (.ref D) fs))=H6 at *
 have F6:=hB.F.TR (y:=D)
 have l6:=F6.len
 rw?
 refine jM aL V4 F6.ab ?_
 rw?
 refine jM aL V4 F6.tw ?_
 rw?
 have ldb:(ss.drop b).length=ss.length-b:=jO ..
 refine ⟨.bC,D,x,tw,ss.drop b,m,q,2*β,n,2*nb+1,rfl,eD6,fV Tv,dO hB.P.all,hx6,RJ,by try?,by try?,by try?,fun i hi=>by rw [nP];exact hm _ 0#d,.inl rfl,fun z=>absurd z 0#d,fun _ ps S H7 s7 f7 _ hall hex=>?_⟩
 have sS:GF 0#z (2*β) ss.length b S:=RM (g:=none) (fun _ e=>by cases e) (fun _ i j _ _ z=>by try?) (dm _) hall (by
  rcases hex with z | ⟨pk,e,_⟩
  ·exact .inl z
  ·cases e)
 rw?
 have X0:=s7 _ _ V4
 refine zo aL X0 0#d ?_
 rw?
 refine zo aL av (by rw [fU F6.g];try?) ?_
 rw?
 refine jM aL av F6.wI.wJ.ab ?_
 rw?
 rw [qD]
 have k8:Kp (fun b=>b=p∨b=D) H (upd H7 p (.ins aC dx 0#j)):=(k6.sm s7).upd (.inl rfl)
 have ep8:upd H7 p (.ins aC dx 0#j) p=some (.ins aC dx 0#j):=av
 have k78:Kp (fun b=>b=p) H7 (upd H7 p (.ins aC dx 0#j)):=(Kp.of (aq.refl _)).upd rfl
 have eD8:=k78 _ _ WN (s7 _ _ eD6)
 have tp8:∀{b:ao} {xs:List V},H6 b=some 0#s→upd H7 p (.ins aC dx 0#j) b=some 0#s:=fun e=>k78 _ _ (fun z=>by rw [z,V4] at e;cases e) (s7 _ _ e)
 have f8:bV (upd H7 p (.ins aC dx 0#j)) ps S (3*n+(2*nb+1)+3):=f7.tv fun {b xs} e=>k78 _ _ (fun z=>by rw [z,X0] at e;cases e) e
 generalize upd H7 p (.ins aC dx 0#j)=H8 at *
 have F8:=F6.wI (y:=.ref ps) |>.wJ (y:=.bC)
 refine ⟨.inl ⟨rfl,_,aW.of eD8⟩,?_⟩
 rw?
 refine cZ eD8 (by rw [aS];exact aO 0#d) ?_
 have k9:Kp (fun b=>b=p∨b=D) H (upd H8 D (.lst (vals (ss.drop b)++[.ref x]))):=k8.upd (.inr rfl)
 have ep9:upd H8 D (.lst (vals (ss.drop b)++[.ref x])) p=some (.ins aC dx 0#j):=by rw [aI (eG WN)];exact ep8
 have eD9:upd H8 D (.lst (vals (ss.drop b)++[.ref x])) D=some (.lst (vals ((ss++[(x,m,some q)]).drop b))):=by
  rw [av,QK 0#d,← gQ]
 have tp9:∀{b':ao} {xs:List V},H8 b'=some 0#s→upd H8 D (.lst (vals (ss.drop b)++[.ref x])) b'=some 0#s:=fun e=>by rw [aI (fun z=>by rw [z,eD8] at e;cases e)];exact e
 generalize upd H8 D (.lst (vals (ss.drop b)++[.ref x]))=H9 at *
 rw?
 refine aF (mk:=.lst) 0#f fun M tE qK xG HF=>?_
 have nM:H M=none:=by
  cases g:H M with
  | none=>rfl
  | some o=>
    by_cases z:M=p
    ·rw [z,ep9] at xG;cases xG
    ·by_cases z2:M=D
     ·rw [z2,eD9] at xG;cases xG
     ·rw [k9 _ _ (fun u=>by rcases u with u | u;exact z u;exact z2 u) g] at xG;cases xG
 have nMp:M≠p:=fun z=>by rw [z,hB.at_] at nM;cases nM
 have nMD:D≠M:=fun z=>by rw [← z,eD9] at xG;cases xG
 rw?
 have l8:=F8.len
 refine zo aL (qK _ _ ep9) 0#d ?_
 have F11:=F8.TU (y:=M)
 have k11:Kp (fun b=>b=p∨b=D) H (upd tE p (.ins aC dx (aA "below" (.ref M) 0#j))):=(k9.sm qK).upd (.inl rfl)
 have aay:upd tE p (.ins aC dx (aA "below" (.ref M) 0#j)) p=some (.ins aC dx (aA "below" (.ref M) 0#j)):=av
 have Bt:Kp (fun b=>b=p) tE (upd tE p (.ins aC dx (aA "below" (.ref M) 0#j))):=(Kp.of (aq.refl _)).upd rfl
 have aav:=Bt _ _ WN (qK _ _ eD9)
 have aaw:=Bt _ _ nMp HF
 have Ui:∀{b:ao} {xs:List V},H9 b=some 0#s→upd tE p (.ins aC dx (aA "below" (.ref M) 0#j)) b=some 0#s:=fun e=>Bt _ _ (fun z=>by rw [z,ep9] at e;cases e) (qK _ _ e)
 generalize upd tE p (.ins aC dx (aA "below" (.ref M) 0#j))=KC at *
 have EE:∀{b:ao} {xs:List V},H6 b=some 0#s→KC b=some 0#s:=fun e=>Ui (tp9 (tp8 e))
 have acG:=EE aaA
 have acH:=EE aaB
 obtain ⟨vx,evx,_⟩:=id hx6
 have acI:=EE evx
 rw?
 refine aF (mk:=.tup) 0#f fun th H12 s12 n12 V2=>?_
 rw?
 refine aF (mk:=.tup) 0#f fun r H13 Ey n13 XY=>?_
 have Mv:=s12.trans Ey
 refine k r ln th M D fo a b (some S) H13 (fun b' o e=>?_) ⟨gG,hoff,lo,hi,b1,by grind,by try?,c2,by grind,fun i hi hl z=>fb i hi hl (by grind),by try?⟩ XY ((aaG.tv EE).JM Mv) (Ey _ _ V2) ⟨dx,bd,tw,_,.ref ps,.bC,VE.up ⟨aay,F11,?_,aav,eG nMD,?_,aaC.tv EE,RJ.tv EE,⟨ps,rfl,(f8.tv fun e=>Ui (tp9 e))⟩,rfl,?_⟩ Mv⟩ nM nD
 ·obtain ⟨n1,n2,n3,e⟩:=B0 e
  refine Mv _ _ (k11 _ _ (fun z=>?_) e)
  rcases z with z | z
  ·exact n1 z
  ·rw [z,nD] at e;cases e
 ·rw [QK (dm _),Zp]
  exact aaw
 ·exact (Tv.tv EE).snoc (hx6.en.tv EE)
 ·refine ⟨oX hB.P.all,wC Ew hm,by rw [ie];try?,by rw [ie];try?,fun _=>by rw [ie];try?,sS,fun i j hi hij _ hj=>?_,fun _ _ _ e=>(by cases e),fun z=>absurd z 0#d⟩
  rw [ie] at hj
  try?
end
theorem C9.adj (h:C9 ss fl ro β g s) (h0:ss.length=0):g=none∧s=none:=by
 have go:=h.go
 have so:=h.so
 constructor
 ·cases g with
  | none=>rfl
  | some G=>
    obtain ⟨q,p,_,_,_,z,_⟩:=go.2
    simp?
 ·cases s with
  | none=>rfl
  | some S=>
    obtain ⟨q,p,_,_,_,z,_⟩:=so.2
    simp?
section
theorem qw:aE ["self","sample","gentlest","steepest"] ["self","sample"] (ah rW):=0#a
theorem F7 (F:cH K "take" "Bend.take" rW f fd) (aL:Cl K mg "Bend" aC ["bound","twice","below","above","gentlest","steepest"]) (cC:Dn P w K mg base 4 "gentlest_with" ["known","earlier","sample","twice"] sD) (cD:Dn P w K mg base 4 "steepest_with" ["known","earlier","sample","twice"] wU) (lZ:Dn P w K mg base 2 "is_steeper" ["one","other"] yK)
 (iE:Dm P w K mg base 6 aC "ended_in_cap" ["self","sample"] (TY aC)) (iF:Dm P w K mg base 6 aC "ended_in_cup" ["self","sample"] (TZ aC)):bg P w K mg base cM 7 f fd ["self","sample"] (MY aC):=by
 refine F.ok qw 0#e 0#b
 ·obtain ⟨p,Lb,La,x,ss,fl,ro,m,q,β,n,nb,g,s,rfl,_⟩:=h
  rfl
 obtain ⟨p,Lb,La,x,ss,fl,ro,m,q,β,n,nb,g,s',rfl,⟨dx,bd,tw,fs,gv,sv,hB⟩,hx,hm,qS,h1,hn,hnb,oF,kN,kC,kU⟩:=h
 have fl0:=hB.F.len
 have hfl:=hB.P.hfl
 have IJ:=hB.P.IJ
 have lda:(ss.drop ro).length=ss.length-ro:=jO ..
 have ldb:(ss.drop fl).length=ss.length-fl:=jO ..
 have nbp:Lb≠p:=fun z=>by have:=hB.eb;rw [z,hB.at_] at this;cases this
 have nap:La≠p:=fun z=>by have:=hB.ea;rw [z,hB.at_] at this;cases this
  -- the sample is taken
 have stay:∀(gv' sv':V) (g' s2:Option Rat) (H2:Hp),aq H H2→OQ H2 gv' (3*n+(2*nb+1)+3) g'→OQ H2 sv' (3*n+(2*nb+1)+3) s2→C9 0#z fl ro β g' s2→E8 ss β fl ro g s' m q →
  Q .bC (upd (upd (upd (upd H2 p (.ins aC dx (aA "gentlest" gv' fs))) p (.ins aC dx (aA "steepest" sv' (aA "gentlest" gv' fs)))) Lb (.lst (vals (ss.drop fl)++[.ref x]))) La (.lst (vals (ss.drop ro)++[.ref x]))):=by
  intro gv' sv' g' s2 H2 eB og os hP hN
  rw [qD]
  have hB2:=hB.up eB
  have kk:Kp (fun b=>b=p∨b=Lb∨b=La) H2 (upd (upd (upd H2 p (.ins aC dx (aA "steepest" sv' (aA "gentlest" gv' fs)))) Lb (.lst (vals (ss.drop fl)++[.ref x]))) La (.lst (vals (ss.drop ro)++[.ref x]))):=((((Kp.of (aq.refl _)).upd (.inl rfl)).upd (.inr (.inl rfl))).upd (.inr (.inr rfl)))
  have tp:∀{b:ao} {xs:List V},H2 b=some 0#s→upd (upd (upd H2 p (.ins aC dx (aA "steepest" sv' (aA "gentlest" gv' fs)))) Lb (.lst (vals (ss.drop fl)++[.ref x]))) La (.lst (vals (ss.drop ro)++[.ref x])) b=some 0#s:=fun e=>kk _ _ (fun z=>by
   rcases z with z | z | z
   ·rw [z,hB2.at_] at e;cases e
   ·rw [z,hB2.eb] at e;cases e
   ·rw [z,hB2.ea] at e;cases e) e
  refine kN g' s2 _ (fun b o e=>?_) hN ⟨dx,bd,tw,_,gv',sv',?_,hB.F.wI.wJ,?_,?_,hB.ne,?_,hB2.Vy.tv tp,hB2.Wb.tv tp,og.tv tp,os.tv tp,hP⟩
  ·obtain ⟨n1,n2,n3,e⟩:=B0 e
   exact kk _ _ (fun z=>by rcases z with z | z | z;exact n1 z;exact n2 z;exact n3 z) (eB _ _ e)
  ·rw [aI (eG nap),aI (eG nbp),av]
  ·rw [aI hB.ne,av,QK hfl,← gQ]
  ·rw [av,QK IJ,← gQ]
  ·exact (hB2.row.tv tp).snoc ((hx.up eB).en.tv tp)
 refine bD ⟨_,(au (aN 2 qw.nd (d9 cC 0#A rfl (Jd.a4 (eN K 0#m) (eN K 0#m) 0#x (eN K 0#m)) (he:=(by rfl)) (hpl:=(bB (by rfl) (bB aP (bB (by rfl) bS)))))) (au (aN 3 qw.nd (d9 cD 0#A rfl (Jd.a4 (eN K 0#m) (eN K 0#m) 0#x (eN K 0#m)) (he:=(by rfl)) (hpl:=(bB (by rfl) (bB aP (bB (by rfl) bS)))))) (au (bK (o7 (b9 lZ hr (eN K 0#m) (aa 3))) (aG (aR (Jd.wk iE aL.cl 0#A 0#m (cO 0#x) (he:=aP) (hpl:=bS)))) bW) (au (bK (o7 (b9 lZ hr (aa 2) (eN K 0#m))) (aG (aR (Jd.wk iF aL.cl 0#A 0#m (cO 0#x) (he:=aP) (hpl:=bS)))) bW) (au (iD K 0#m (aa 2)) (au (iD K 0#m (aa 3)) (au (gE (d7 K (eN K 0#m) 0#x) (hs:=fL)) (au (gE (d7 K (eN K 0#m) 0#x) (hs:=fL)) (aG (aR dW)))))))))),?_⟩
 rw?
 refine jM aL hB.at_ hB.F.g ?_
 rw?
 refine jM aL hB.at_ hB.F.ab ?_
 rw?
 refine jM aL hB.at_ hB.F.tw ?_
 rw?
 by_cases h0:ss.length=0
 ·obtain ⟨rfl,rfl⟩:=hB.P.adj h0
  obtain rfl:gv=.bC:=hB.G
  obtain rfl:sv=.bC:=hB.S
  refine ⟨.bC,La,x,tw,ss.drop ro,m,q,2*β,n,2*nb+1,rfl,hB.ea,fV hB.row,dO hB.P.all,hx,hB.Wb,by try?,by try?,by try?,fun i hi=>by rw [nP];exact hm _ 0#d,.inl rfl,fun _ _ H1 s1=>?_,fun z=>absurd z 0#d⟩
  have uS:=hB.up s1
  rw?
  refine jM aL uS.at_ hB.F.s ?_
  rw?
  refine jM aL uS.at_ hB.F.bl ?_
  rw?
  refine jM aL uS.at_ hB.F.tw ?_
  rw?
  refine ⟨.bC,Lb,x,tw,ss.drop fl,m,q,2*β,n,2*nb+1,rfl,uS.eb,fV uS.row,dO hB.P.all,hx.up s1,uS.Wb,by try?,by try?,by try?,fun i hi=>by rw [nP];exact hm _ 0#d,.inl rfl,fun _ _ H2 s2=>?_,fun z=>absurd z 0#d⟩
  have eB:=s1.trans s2
  have hB2:=hB.up eB
  rw?
  refine jM aL hB2.at_ hB.F.g ?_
  rw?
  refine ⟨.bC,.bC,none,none,0,0,rfl,rfl,rfl,by decide,fun r hr'=>?_⟩
  obtain rfl:r=false:=iU.mpr fun z=>by obtain ⟨_,_,e,_⟩:=hr'.mp z;cases e
  rw?
  refine bE ?_
  rw?
  refine jM aL hB2.at_ hB.F.s ?_
  rw?
  refine ⟨.bC,.bC,none,none,0,0,rfl,rfl,rfl,by decide,fun r hr2=>?_⟩
  obtain rfl:r=false:=iU.mpr fun z=>by obtain ⟨_,_,e,_⟩:=hr2.mp z;cases e
  rw?
  refine bE ?_
  rw?
  refine zo aL hB2.at_ 0#d ?_
  rw?
  refine zo aL av (by rw [fU hB.F.g];try?) ?_
  rw?
  refine jM aL av hB.F.wI.wJ.bl ?_
  rw?
  have eb4:upd (upd H2 p (.ins aC dx (aA "gentlest" .bC fs))) p (.ins aC dx (aA "steepest" .bC (aA "gentlest" .bC fs))) Lb=some (.lst (vals (ss.drop fl))):=by
   rw [aI nbp,aI nbp]
   exact hB2.eb
  refine ⟨.inl ⟨rfl,_,aW.of eb4⟩,?_⟩
  rw?
  refine cZ eb4 (by rw [aS];exact aO 0#d) ?_
  rw?
  refine jM aL (by rw [aI (eG nbp)];exact av) hB.F.wI.wJ.ab ?_
  rw?
  have ea5:upd (upd (upd H2 p (.ins aC dx (aA "gentlest" .bC fs))) p (.ins aC dx (aA "steepest" .bC (aA "gentlest" .bC fs)))) Lb (.lst (vals (ss.drop fl)++[.ref x])) La=some (.lst (vals (ss.drop ro))):=by
   rw [aI (eG hB.ne),aI nap,aI nap]
   exact hB2.ea
  refine ⟨.inl ⟨rfl,_,aW.of ea5⟩,?_⟩
  rw?
  refine cZ ea5 (by rw [aS];exact aO 0#d) ?_
  rw?
  refine stay .bC .bC none none H2 eB rfl rfl ?_ ⟨fun _ e=>(by cases e),fun _ e=>(by cases e)⟩
  refine ⟨oX hB.P.all,wC hB.P.Ew hm,by rw [ie];try?,by rw [ie];try?,fun _=>by rw [ie];try?,fun i j _ hij _ hj=>?_,fun i j _ hij _ hj=>?_,fun _ _ e=>(by cases e),hB.P.df⟩
  ·rw [ie] at hj
   try?
  ·rw [ie] at hj
   try?
 ·obtain ⟨agg,agp⟩:=hB.P.lt 0#d
  refine ⟨gv,La,x,tw,ss.drop ro,m,q,2*β,n,2*nb+1,rfl,hB.ea,fV hB.row,dO hB.P.all,hx,hB.Wb,by try?,by try?,by try?,fun i hi=>by rw [nP];exact hm _ 0#d,?_,fun z=>absurd z 0#d,fun _ pg G1 H1 s1 f1 hK1 acP afm=>?_⟩
  ·have hG:=hB.G
   cases g with
   | none=>exact .inl hG
   | some G=>exact let ⟨pk,e,fk⟩:=hG;.inr ⟨by try?,pk,G,e,fk⟩
  have gG:GF 0#z (2*β) fl ro G1:=by
   have hG:=hB.G
   refine RM (g:=g) (fun G0 e=>?_) (fun e=>?_) hfl acP ?_
   ·rw [e] at hG
    obtain ⟨pk,e',fk⟩:=hG
    exact ⟨(hB.P.hiG e).1,hK1 pk G0 e' fk⟩
   ·have go:=hB.P.go
    rw [e] at go
    exact go
   ·rcases afm with z | ⟨pk,e,fk⟩
    ·exact .inl z
    ·refine .inr ?_
     cases g with
     | none=>rw [show gv=.bC from hG] at e;cases e
     | some G0=>
       obtain ⟨pk',e',fk'⟩:=hG
       rw [e] at e'
       cases e'
       rw [Er fk fk']
  have uS:=hB.up s1
  rw?
  refine jM aL uS.at_ hB.F.s ?_
  rw?
  refine jM aL uS.at_ hB.F.bl ?_
  rw?
  refine jM aL uS.at_ hB.F.tw ?_
  rw?
  refine ⟨sv,Lb,x,tw,ss.drop fl,m,q,2*β,n,2*nb+1,rfl,uS.eb,fV uS.row,dO hB.P.all,hx.up s1,uS.Wb,by try?,by try?,by try?,fun i hi=>by rw [nP];exact hm _ 0#d,?_,fun z=>absurd z 0#d,fun _ ps S1 H2 s2 f2 hK2 RV hex2=>?_⟩
  ·have hS:=uS.S
   cases s' with
   | none=>exact .inl hS
   | some S=>exact let ⟨pk,e,fk⟩:=hS;.inr ⟨by try?,pk,S,e,fk⟩
  have sS:SF 0#z (2*β) fl ro S1:=by
   have hS:=uS.S
   refine TV (s:=s') (fun S0 e=>?_) (fun e=>?_) IJ RV ?_
   ·rw [e] at hS
    obtain ⟨pk,e',fk⟩:=hS
    exact ⟨(hB.P.loS e).1,hK2 pk S0 e' fk⟩
   ·have so:=hB.P.so
    rw [e] at so
    exact so
   ·rcases hex2 with z | ⟨pk,e,fk⟩
    ·exact .inl z
    ·refine .inr ?_
     cases s' with
     | none=>rw [show sv=.bC from hS] at e;cases e
     | some S0=>
       obtain ⟨pk',e',fk'⟩:=hS
       rw [e] at e'
       cases e'
       rw [Er fk fk']
  have eB:=s1.trans s2
  have hB2:=hB.up eB
  have cK:=wC (x:=x) (q:=q) hB.P.Ew hm
  rw?
  refine jM aL hB2.at_ hB.F.g ?_
  rw?
  refine ⟨gv,.ref ps,g,some S1,_,_,rfl,hB2.G,⟨ps,rfl,f2⟩,by try?,fun r hr1=>?_⟩
  rw?
  refine cu (fun c=>?_) (fun c=>?_)
  ·obtain ⟨G,S,rfl,e2,lt⟩:=hr1.mp c
   cases e2
   rw?
   refine Q0 hB2.at_ (hB.F.xZ "ended_in_cap") ?_
   rw?
   refine ⟨p,Lb,La,x,ss,fl,ro,m,q,β,G,n,nb,s',rfl,⟨dx,bd,tw,fs,gv,sv,hB2⟩,hx.up eB,hm,qS,h1,hn,hnb,oF,(Fg cK sS (hB.P.hiG rfl).2 IJ).mp lt,fun r ln th A4 A3 fo a b s2' H' k1 k2 k3 k4 k5 k6 k7 k8=>?_⟩
   refine kC r ln th A4 A3 G fo a b s2' H' (fun b' o e=>k1 _ _ ?_) rfl k2 k3 k4 k5 k6 (eB.free k7) (eB.free k8)
   obtain ⟨n1,n2,n3,e⟩:=B0 e
   rw [u9 n1 n2 n3]
   exact eB _ _ e
  ·have nc:¬ ∃G S,g=some G∧some S1=some S∧S<G:=fun z=>c (hr1.mpr z)
   have afN:¬ ∃G,g=some G∧∃i,fl≤i∧i<ss.length∧q-G*(m:Rat)+2*β<c8 ss G i:=fun ⟨G,e,z⟩=>nc ⟨G,S1,e,rfl,(Fg cK sS (hB.P.hiG e).2 IJ).mpr z⟩
   rw?
   refine jM aL hB2.at_ hB.F.s ?_
   rw?
   refine ⟨.ref pg,sv,some G1,s',_,_,rfl,⟨pg,rfl,f1.up s2⟩,hB2.S,by try?,fun r2 hr2=>?_⟩
   rw?
   refine cu (fun c2=>?_) (fun c2=>?_)
   ·obtain ⟨G,S,e1,rfl,lt⟩:=hr2.mp c2
    cases e1
    rw?
    refine Q0 hB2.at_ (hB.F.xZ "ended_in_cup") ?_
    rw?
    refine ⟨p,Lb,La,x,ss,fl,ro,m,q,β,S,n,nb,g,rfl,⟨dx,bd,tw,fs,gv,sv,hB2⟩,hx.up eB,hm,qS,h1,hn,hnb,oF,(Nl cK gG (hB.P.loS rfl).2 hfl).mp lt,fun r ln th A4 A3 fo a b s2' H' k1 k2 k3 k4 k5 k6 k7 k8=>?_⟩
    refine kU r ln th A4 A3 S fo a b s2' H' (fun b' o e=>k1 _ _ ?_) rfl afN k2 k3 k4 k5 k6 (eB.free k7) (eB.free k8)
    obtain ⟨n1,n2,n3,e⟩:=B0 e
    rw [u9 n1 n2 n3]
    exact eB _ _ e
   ·have nu:¬ ∃G S,some G1=some G∧s'=some S∧S<G:=fun z=>c2 (hr2.mpr z)
    obtain ⟨hP,hN⟩:=hB.P.next oF hm gG sS nc nu
    rw?
    refine zo aL hB2.at_ 0#d ?_
    rw?
    refine zo aL av (by rw [fU hB.F.g];try?) ?_
    rw?
    refine jM aL av hB.F.wI.wJ.bl ?_
    rw?
    have eb4:upd (upd H2 p (.ins aC dx (aA "gentlest" (.ref pg) fs))) p (.ins aC dx (aA "steepest" (.ref ps) (aA "gentlest" (.ref pg) fs))) Lb=some (.lst (vals (ss.drop fl))):=by
     rw [aI nbp,aI nbp]
     exact hB2.eb
    refine ⟨.inl ⟨rfl,_,aW.of eb4⟩,?_⟩
    rw?
    refine cZ eb4 (by rw [aS];exact aO 0#d) ?_
    rw?
    refine jM aL (by rw [aI (eG nbp)];exact av) hB.F.wI.wJ.ab ?_
    rw?
    have ea5:upd (upd (upd H2 p (.ins aC dx (aA "gentlest" (.ref pg) fs))) p (.ins aC dx (aA "steepest" (.ref ps) (aA "gentlest" (.ref pg) fs)))) Lb (.lst (vals (ss.drop fl)++[.ref x])) La=some (.lst (vals (ss.drop ro))):=by
     rw [aI (eG hB.ne),aI nap,aI nap]
     exact hB2.ea
    refine ⟨.inl ⟨rfl,_,aW.of ea5⟩,?_⟩
    rw?
    refine cZ ea5 (by rw [aS];exact aO 0#d) ?_
    rw?
    exact stay (.ref pg) (.ref ps) (some G1) (some S1) H2 eB ⟨pg,rfl,f1.up s2⟩ ⟨ps,rfl,f2⟩ hP hN
theorem yH:aE ["self"] ["self"] (ah lH):=0#a
theorem ye (F:cH K "line_now" "Bend.line_now" lH f fd) (T:Txt mg) (aL:Cl K mg "Bend" aC ["bound","twice","below","above","gentlest","steepest"]) (jU:Dn P w K mg base 5 "line_by" ["steep","sample"] wM) (cz:Dm P w K mg base 5 aC "line_of" ["self","steep"] (sI aC)):bg P w K mg base cM 6 f fd ["self"] (T7 aC):=by
 refine F.ok yH 0#e 0#b
 ·obtain ⟨p,Lb,La,ss,fl,ro,β,n,nb,g,s,rfl,_⟩:=h
  rfl
 obtain ⟨p,Lb,La,ss,fl,ro,β,n,nb,g,s',rfl,⟨dx,bd,tw,fs,gv,sv,hB⟩,qS,h1,hn,hnb,k0,k1⟩:=h
 have ld:(ss.drop fl).length=ss.length-fl:=jO ..
 refine bD ⟨_,(au (bK (bh cI (cR K T.gA (eN K 0#m)) aB (aD _)) (aG (aR dW)) bW) (au (bK (bh iY (eN K 0#m) dW (aD _)) (aG (aR (Jd.wk cz aL.cl 0#A 0#m (cO (eN K 0#m)) (he:=(by rfl)) (hpl:=bS)))) bW) (au (bK (bh iY (eN K 0#m) dW (aD _)) (aG (aR (Jd.wk cz aL.cl 0#A 0#m (cO (eN K 0#m)) (he:=(by rfl)) (hpl:=bS)))) bW) (aG (aR (b9 jU hr (bR (bT aB aB)) (cW K (eN K 0#m)))))))),?_⟩
 rw?
 refine jM aL hB.at_ hB.F.bl ?_
 rw?
 refine cE (.inl (aW.of hB.eb)) ?_
 rw [aS]
 rw?
 refine cu (fun c=>?_) (fun c=>?_)
 ·have c':=c6 c
  rw?
  refine k0 (List.length_eq_zero_iff.mp ?_)
  by_cases z:0<ss.length
  ·have:=(hB.P.lt z).1
   try?
  ·try?
 ·have c':=jw (iU.mpr c)
  have h0:0<ss.length:=by try?
  obtain ⟨hfl,IJ⟩:=hB.P.lt h0
  rw?
  refine jM aL hB.at_ hB.F.g ?_
  cases g with
  | some G=>
    obtain ⟨pg,rfl,fg⟩:=id hB.G
    rw?
    refine ⟨rfl,?_⟩
    rw?
    refine bJ ?_
    rw?
    refine Q0 hB.at_ (hB.F.xZ "line_of") ?_
    rw?
    refine jM aL hB.at_ hB.F.g ?_
    rw?
    refine ⟨p,Lb,La,pg,ss,fl,ro,β,G,n,nb,some G,s',rfl,⟨dx,bd,tw,fs,_,sv,hB⟩,fg,h0,qS,hn,hnb,fun ln fo H1 s1 f1 lo ex=>?_⟩
    exact k1 h0 ln G fo H1 s1 f1 (.inl ⟨.inl rfl,lo,ex⟩)
  | none=>
    obtain rfl:gv=.bC:=hB.G
    rw?
    refine ⟨rfl,?_⟩
    rw?
    refine bE ?_
    rw?
    refine jM aL hB.at_ hB.F.s ?_
    cases s' with
    | some S=>
      obtain ⟨pg,rfl,fg⟩:=id hB.S
      rw?
      refine ⟨rfl,?_⟩
      rw?
      refine bJ ?_
      rw?
      refine Q0 hB.at_ (hB.F.xZ "line_of") ?_
      rw?
      refine jM aL hB.at_ hB.F.s ?_
      rw?
      refine ⟨p,Lb,La,pg,ss,fl,ro,β,S,n,nb,none,some S,rfl,⟨dx,bd,tw,fs,_,_,hB⟩,fg,h0,qS,hn,hnb,fun ln fo H1 s1 f1 lo ex=>?_⟩
      exact k1 h0 ln S fo H1 s1 f1 (.inl ⟨.inr ⟨rfl,rfl⟩,lo,ex⟩)
    | none=>
      obtain rfl:sv=.bC:=hB.S
      rw?
      refine ⟨rfl,?_⟩
      rw?
      refine bE ?_
      rw?
      refine aF (mk:=.tup) 0#f fun z1 H1 s1 n1 e1=>?_
      have uS:=hB.up s1
      obtain ⟨xa,ga,fa⟩:=dc uS.row hB.P.all hfl
      rw?
      refine jM aL uS.at_ hB.F.bl ?_
      rw?
      refine cG uS.eb (AE (x:=xa) (by rw [um,Vh];exact ga)) ?_
      rw?
      have f0:dw H1 z1 0 1:=⟨0,1,e1,⟨by decide,by decide,by grind⟩,by decide,by decide⟩
      refine ⟨z1,xa.1,0,_,_,1,n,rfl,f0,fa,h1,by try?,fun z r' H2 s2 e2 f2=>?_⟩
      refine k1 h0 z 0 (wo ss fl) H2 (s1.trans s2) ⟨z1,r',e2,(f0.up s2).mono 0#d,?_⟩ (.inr ⟨rfl,rfl,rfl,rfl⟩)
      have e3:wo ss fl-0*(mo ss fl:Rat)=wo ss fl:=by grind
      rw [e3] at f2
      exact f2.mono 0#d
end
theorem lY.fresh (h:lY C H p Lb La [] 0 0 β n nb none none):lY C H p Lb La [] 0 0 β n' nb none none:=
 let ⟨dx,bd,tw,fs,gv,sv,h⟩:=h;⟨dx,bd,tw,fs,gv,sv,h.at_,h.F,h.eb,h.ea,h.ne,fun x hx=>absurd hx 0#f,h.Vy,h.Wb,h.G,h.S,h.P⟩
theorem ac5 (s:aq H0 H) (np:H0 p=none) (nb:H0 Lb=none) (na:H0 La=none) (k:aq (Qq p Lb La H) H'):aq H0 H':=fun b o e=>k _ _ (by
 rw [u9 (bA e np) (bA e nb) (bA e na)]
 exact s _ _ e)
theorem C9.two (h:C9 ss fl ro β g s):(ss.length<2↔g=none∧s=none):=by
 constructor
 ·intro h2
  have go:=h.go
  have so:=h.so
  constructor
  ·cases g with
   | none=>rfl
   | some G=>
     obtain ⟨q,p,_,_,_,z,_⟩:=go.2
     simp?
  ·cases s with
   | none=>rfl
   | some S=>
     obtain ⟨q,p,_,_,_,z,_⟩:=so.2
     simp?
 ·rintro ⟨rfl,rfl⟩
  refine Nat.lt_of_not_le fun h2=>?_
  obtain ⟨l1,l2⟩:=h.lt 0#c
  have df:=h.df
  have go:∀q p,ro≤q→q<p→fl≤p→¬p<ss.length:=h.go
  have so:∀q p,fl≤q→q<p→ro≤p→¬p<ss.length:=h.so
  have g1:=go ro (ss.length-1) 0#c
  have s1:=so fl (ss.length-1) 0#c
  by_cases e:ro<ss.length-1
  ·exact g1 e 0#c 0#c
  ·by_cases e2:fl<ss.length-1
   ·exact s1 e2 0#c 0#c
   ·have:=df 0#c
    simp?
theorem adW (hr:rising ss) (hab:a<b) (hbk:b<k) (hk:k<ss.length) (ea:c8 ss T a+β=f) (eb:c8 ss T b-β=f) (ek:c8 ss T k+β<f):2*β<sd ss a b k:=by
 have d1:=lD hr hab 0#c
 have d2:=lD hr hbk hk
 have d3:=lD hr (CT hab hbk) hk
 unfold c8 at ea eb ek
 unfold sd c7
 refine zU.mp fun z=>?_
 have z':wo ss b-2*β≤(wo ss a*((mo ss k:Rat)-(mo ss b:Rat))+wo ss k*((mo ss b:Rat)-(mo ss a:Rat)))/((mo ss k:Rat)-(mo ss a:Rat)):=by grind
 rw [tN d3] at z'
 have l:wo ss k<T*(mo ss k:Rat)+f-β:=by grind
 have:=M8 l d1
 have e1:wo ss a=T*(mo ss a:Rat)+f-β:=by grind
 have e2:wo ss b=T*(mo ss b:Rat)+f+β:=by grind
 rw [e1,e2] at z'
 grind
theorem adX (hr:rising ss) (hab:a<b) (hbk:b<k) (hk:k<ss.length) (ea:c8 ss T a-β=f) (eb:c8 ss T b+β=f) (ek:f<c8 ss T k-β):sd ss a b k < -(2*β):=by
 have d1:=lD hr hab 0#c
 have d2:=lD hr hbk hk
 have d3:=lD hr (CT hab hbk) hk
 unfold c8 at ea eb ek
 unfold sd c7
 refine zU.mp fun z=>?_
 have z':(wo ss a*((mo ss k:Rat)-(mo ss b:Rat))+wo ss k*((mo ss b:Rat)-(mo ss a:Rat)))/((mo ss k:Rat)-(mo ss a:Rat))≤wo ss b+2*β:=by grind
 rw [wB d3] at z'
 have l:T*(mo ss k:Rat)+f+β<wo ss k:=by grind
 have:=M8 l d1
 have e1:wo ss a=T*(mo ss a:Rat)+f+β:=by grind
 have e2:wo ss b=T*(mo ss b:Rat)+f-β:=by grind
 rw [e1,e2] at z'
 grind
theorem yT.sd (h:yT ss β fl ro m q G f a b) (hr:rising 0#z):2*β<sd 0#z a b ss.length:=by
 have hab:=h.hab
 have hb:=h.lb
 refine adW (T:=G) (f:=f) hr hab hb (by rw [ie];simp?) (by rw [kR 0#c];exact h.ea) (by rw [kR hb];exact h.eb) ?_
 rw [o8]
 obtain ⟨i,i1,i2,ei⟩:=h.off
 have:=h.lo i i1 i2
 grind
theorem yU.sd (h:yU ss β fl ro m q S f a b) (hr:rising 0#z):sd 0#z a b ss.length < -(2*β):=by
 have hab:=h.hab
 have hb:=h.lb
 refine adX (T:=S) (f:=f) hr hab hb (by rw [ie];simp?) (by rw [kR 0#c];exact h.ea) (by rw [kR hb];exact h.eb) ?_
 rw [o8]
 obtain ⟨i,i1,i2,ei⟩:=h.off
 have:=h.hi i i1 i2
 grind
inductive Tr (es:List En) (β:Rat):Nat→Nat→Nat→List (Rat×Rat)→List (Bool×Nat×Nat×Nat)→Prop where
 | nil:Tr es β 0 0 0 [] []
 | stay {k fl ro:Nat} {ls:List (Rat×Rat)} {ts:List (Bool×Nat×Nat×Nat)} {g s g' s':Option Rat} (h:Tr es β k fl ro ls ts) (hk:k<es.length) (hP:C9 (es.take k) fl ro β g s) (hP':C9 (es.take (k+1)) fl ro β g' s') (hN:E8 (es.take k) β fl ro g s (mo es k) (wo es k)):Tr es β (k+1) fl ro ls ts
 | cap {k fl ro a b:Nat} {ls:List (Rat×Rat)} {ts:List (Bool×Nat×Nat×Nat)} {s:Option Rat} {G f:Rat} (h:Tr es β k fl ro ls ts) (hk:k<es.length) (hP:C9 (es.take k) fl ro β (some G) s) (hC:yT (es.take k) β fl ro (mo es k) (wo es k) G f a b):Tr es β (k+1) b k (ls++[(G,f)]) (ts++[(true,a,b,k)])
 | cup {k fl ro a b:Nat} {ls:List (Rat×Rat)} {ts:List (Bool×Nat×Nat×Nat)} {g:Option Rat} {S f:Rat} (h:Tr es β k fl ro ls ts) (hk:k<es.length) (hP:C9 (es.take k) fl ro β g (some S)) (hn:¬ ∃G,g=some G∧∃i,fl≤i∧i<(es.take k).length∧wo es k-G*(mo es k:Rat)+2*β<c8 (es.take k) G i) (hC:yU (es.take k) β fl ro (mo es k) (wo es k) S f a b):Tr es β (k+1) k b (ls++[(S,f)]) (ts++[(false,a,b,k)])
abbrev Ln:=ao×Rat×Rat
def kT (ls:List Ln):List V:=ls.map fun x=>V.ref x.1
def uC (H:Hp) (ls:List Ln) (n:Nat):Prop:=∀x∈ls,i9 H x.1 x.2.1 x.2.2 n
abbrev Th:=ao×(Bool×Nat×Nat×Nat)
def Rb (H:Hp) (es:List En) (x:Th):Prop:=H x.1=some (.tup [.int (mo es x.2.2.1),.int (mo es x.2.2.2.1),.int (mo es x.2.2.2.2)])
theorem uC.tv (t:∀{b:ao} {xs:List V},H b=some 0#s→H' b=some 0#s) (h:uC H ls n):uC H' ls n:=fun x hx=>(h x hx).tv t
theorem uC.snoc (h:uC H ls n) (hx:i9 H x.1 x.2.1 x.2.2 n):uC H (ls++[x]) n:=fun y hy=>by
 rcases dH.mp hy with z | z
 ·exact h y z
 ·obtain rfl:y=x:=by simpa using z
  exact hx
theorem kL (e:H L=some (.lst ys))  (h:H b=some 0#s):upd H L (.lst zs) b=some 0#s:=by
 rw [aI (fun q=>by rw [q,e] at h;cases h)]
 exact h
theorem lY.app (h:lY C H p Lb La ss fl ro β n nb g s) (e:H L=some (.lst ys)) (n1:L≠Lb) (n2:L≠La):lY C (upd H L (.lst zs)) p Lb La ss fl ro β n nb g s:=by
 obtain ⟨dx,bd,tw,fs,gv,sv,h⟩:=h
 exact ⟨dx,bd,tw,fs,gv,sv,h.mv (fun {b xs} z=>kL e z) (aI (fun q=>by have:=h.at_;rw [q,e] at this;cases this)) (aI (eG n1)) (aI (eG n2))⟩
theorem lY.ats (h:lY C H p Lb La ss fl ro β n nb g s):(∃dx fs,H p=some (.ins C dx fs)∧(fs.lookup ("take":Str)=none∧fs.lookup ("line_now":Str)=none))∧(∃ys,H Lb=some (.lst ys))∧(∃ys,H La=some (.lst ys))∧C9 ss fl ro β g s:=
 let ⟨_,_,_,_,_,_,h⟩:=h;⟨⟨_,_,h.at_,h.F.xZ "take",h.F.xZ "line_now"⟩,⟨_,h.eb⟩,⟨_,h.ea⟩,h.P⟩
theorem take_snoc (hS:lz es) (gx:es[j]?=some x):es.take (j+1)=es.take j++[(x.1,mo es j,some (wo es j))]:=by
 have xe:x=(x.1,mo es j,some (wo es j)):=by
  have:=hS x (jL gx)
  obtain ⟨ax,mx,vx⟩:=x
  unfold mo wo
  rw [gx]
  cases vx with
  | none=>cases this
  | some q=>rfl
 rw [← xe,qO,gx]
 rfl
theorem tK (h:i<j):mo (es.take j) i=mo es i:=by unfold mo;rw [OJ,if_pos h]
theorem XF (h:i<j):wo (es.take j) i=wo es i:=by unfold wo;rw [OJ,if_pos h]
theorem o9 (h:i<j):c8 (es.take j) T i=c8 es T i:=by unfold c8;rw [tK h,XF h]
inductive Hf (C:ao) (vs:List V) (H:Hp) (Q:VK) (E_:XK):Prop where
 | mk (l pb:ao) (es:List En) (β:Rat) (n nb:Nat):vs=[.ref l,.ref pb]→H l=some (.lst (vals es))→Row H es n→lz es→rising es→0<es.length→es.length≤800→dw H pb β nb→0≤β→1≤n→n≤1500→(5*n+4*nb≤7900∧nb≤1000)→(∀(y Ll Lt:ao) (ls:List Ln) (wX:List Th) (ks:List (Rat×Rat)) (fl ro:Nat) (g s:Option Rat) (T f:Rat) (H':Hp),aq H H'→H' y=some (.tup [.ref Ll,.ref Lt])→H Ll=none→H Lt=none→H' Ll=some (.lst (kT ls))→uC H' ls (5*n+3*nb+7)→ls.map (·.2)=ks++[(T,f)]→H' Lt=some (.lst (wX.map fun x=>V.ref x.1))→(∀x∈wX,Rb H' es x)→Tr es β es.length fl ro ks (wX.map (·.2))→C9 es fl ro β g s→HN es β fl g s T f→ks.length≤es.length→wX.length≤es.length→Q (.ref y) H')→Hf C vs H Q E_
section
theorem jt:aE ["run","bound","bend","links","threes","sample","ended"] ["run","bound"] (ah vn):=0#a
theorem Ji (F:cH K "links_of" "links_of" vn f fd) (T:Txt mg) (aL:Cl K mg "Bend" aC ["bound","twice","below","above","gentlest","steepest"]) (Kv:Dk P w K mg base 6 "Bend" aC ["self","bound"] (AU aC)) (qX:Dm P w K mg base 7 aC "take" ["self","sample"] (MY aC)) (lA:Dm P w K mg base 6 aC "line_now" ["self"] (T7 aC)):bg P w K mg base cM 8 f fd ["run","bound"] (Hf aC):=by
 refine F.ok jt 0#e 0#b
 ·obtain ⟨l,pb,es,β,n,nb,rfl,_⟩:=h
  rfl
 obtain ⟨l,pb,es,β,n,nb,rfl,hl,hR,hS,cK,h0,agf,hb,oF,h1,hn,hnb,k⟩:=h
 refine bD ⟨_,(au (aN 2 jt.nd (Jd.S8 Kv 0#A rfl (cO 0#x) (he:=aP) (hpl:=bS))) (au (aN 3 jt.nd (dP gc)) (au (aN 4 jt.nd (dP gc)) (au (fK iM rfl (gU K 0#m) (bQ (i:=5) jt.nd rfl 0#n) (au (aN 6 jt.nd (Jd.wk qX aL.cl 0#A (aa 2) (cO (aa 5)) (he:=aP) (hpl:=bS))) (aG (bK (bh iY (aa 6) dW (aD _)) (au (gE (d7 K (aa 3) (aK K (aa 6))) (hs:=fL)) (aG (gE (d7 K (aa 4) (aK K (aa 6))) (hs:=fL)))) bW)))) (au (gE (d7 K (aa 3) (Jd.L8 lA aL.cl 0#A (aa 2))) (hs:=fL)) (aG (aR (bR (bT (aa 3) (aa 4)))))))))),?_⟩
 rw?
 intro p dx np ndx agq
 have hp7:upd (upd H dx (.own p)) p (.ins aC dx []) p=some (.ins aC dx []):=av
 have s7:aq H (upd (upd H dx (.own p)) p (.ins aC dx [])):=fun b' o e=>by
  rw [aI (bA e np),aI (bA e ndx)]
  exact e
 generalize upd (upd H dx (.own p)) p (.ins aC dx [])=H7 at *
 refine ⟨p,dx,pb,β,nb,rfl,hp7,hb.up s7,by try?,fun Lb La H8 kk s8 nb8 na8 hB8=>⟨rfl,?_⟩⟩
 have Tz:aq H H8:=fun b' o e=>s8 _ _ (by rw [mW (bA e np)];exact s7 _ _ e)
 have nb0:H Lb=none:=s7.free nb8
 have na0:H La=none:=s7.free na8
 have hB0:lY aC H8 p Lb La [] 0 0 β n nb none none:=hB8.fresh
 rw?
 refine aF (mk:=.lst) 0#f fun Ll H9 s9 n9 e9=>?_
 rw?
 refine aF (mk:=.lst) 0#f fun Lt tE qK xG HF=>?_
 have DJ:=s9.trans qK
 have Jz:=Tz.trans DJ
 have nl0:H Ll=none:=Tz.free n9
 have nt0:H Lt=none:=(Tz.trans s9).free xG
 have nlt:Ll≠Lt:=fun z=>by rw [← z,e9] at xG;cases xG
 obtain ⟨_,⟨_,eb0⟩,⟨_,ea0⟩,_⟩:=hB0.ats
 rw?
 refine gH (gV ?_)
 rw?
 refine ⟨l,rfl,⟨_,aW.of (Jz _ _ hl)⟩,cL (xs:=vals es) (fun i σ H3=>∃(v5 v6:Option V) (Lb La:ao) (fl ro:Nat) (g s:Option Rat) (ls:List Ln) (wX:List Th),σ=[some (.ref l),some (.ref pb),some (.ref p),some (.ref Ll),some (.ref Lt),v5,v6]∧aq H H3∧H Lb=none∧H La=none∧Ll≠Lb∧Ll≠La∧Lt≠Lb∧Lt≠La∧lY aC H3 p Lb La (es.take i) fl ro β n nb g s∧H3 Ll=some (.lst (kT ls))∧H3 Lt=some (.lst (wX.map fun x=>V.ref x.1))∧uC H3 ls (5*n+3*nb+7)∧(∀x∈wX,Rb H3 es x)∧Tr es β i fl ro (ls.map (·.2)) (wX.map (·.2))∧ls.length≤i∧wX.length≤i) ?_ ?_ ?_ ?_⟩
 ·refine ⟨none,none,Lb,La,0,0,none,none,[],[],rfl,Jz,nb0,na0,fun z=>?_,fun z=>?_,fun z=>?_,fun z=>?_,hB0.up DJ,qK _ _ e9,HF,fun x hx=>absurd hx 0#f,fun x hx=>absurd hx 0#f,.nil,dm _,dm _⟩
  ·rw [z,eb0] at n9;cases n9
  ·rw [z,ea0] at n9;cases n9
  ·rw [z,s9 _ _ eb0] at xG;cases xG
  ·rw [z,s9 _ _ ea0] at xG;cases xG
 ·rintro i σ H3 _ ⟨v5,v6,Lb,La,fl,ro,g,s,ls,wX,rfl,s3,_⟩
  exact aW.of (s3 _ _ hl)
 ·rintro i v σ H3 hv ⟨v5,v6,Lb,La,fl,ro,g,s,ls,wX,rfl,s3,nb3,na3,q1,q2,q3,q4,Eb,Vx,V7,hL3,NC,X6,ll,lt⟩
  obtain ⟨x,gx,rfl⟩:=i8 hv
  have hi:i<es.length:=(fZ.mp gx).1
  obtain ⟨x',QV,fx⟩:=dc (hR.up s3) hS hi
  rw [gx] at QV
  cases QV
  have tl:(es.take i).length=i:=by rw [C4];try?
  have tk:=take_snoc hS gx
  obtain ⟨⟨dx3,fs3,ep3,mt3,_⟩,⟨_,eb3⟩,⟨_,ea3⟩,hP3⟩:=Eb.ats
  have npl:Ll≠p:=fun z=>by rw [z,ep3] at Vx;cases Vx
  have npt:Lt≠p:=fun z=>by rw [z,ep3] at V7;cases V7
  have hm:∀c,c<(es.take i).length→mo (es.take i) c<mo es i:=fun c hc=>by
   rw [tl] at hc
   rw [tK hc]
   exact fR cK hc hi
  refine gZ fun M B RR hM hB Wg=>?_
  rw?
  refine Q0 ep3 mt3 ?_
  rw?
  have tup:∀{H4:Hp},aq (Qq p Lb La H3) H4→(∀{b:ao} {xs:List V},H3 b=some 0#s→H4 b=some 0#s)∧aq H H4∧H4 Ll=some (.lst (kT ls))∧H4 Lt=some (.lst (wX.map fun x=>V.ref x.1)):=fun {H4} ks=>by
   refine ⟨fun {b xs} e=>ks _ _ ?_,ac5 s3 np nb3 na3 ks,ks _ _ ?_,ks _ _ ?_⟩
   ·rw [u9 (fun z=>by rw [z,ep3] at e;cases e) (fun z=>by rw [z,eb3] at e;cases e) (fun z=>by rw [z,ea3] at e;cases e)]
    exact e
   ·rw [u9 npl q1 q2]
    exact Vx
   ·rw [u9 npt q3 q4]
    exact V7
  refine ⟨p,Lb,La,x.1,es.take i,fl,ro,mo es i,wo es i,β,n,nb,g,s,rfl,Eb,fx,hm,by try?,h1,hn,hnb,oF,fun g' s' H4 ks hN Ec=>?_,fun r ln th A4 A3 G fo a b s2' H4 ks eg hC er fl4 eth Ec n1 n2=>?_,fun r ln th A4 A3 S fo a b g2' H4 ks es' hno hC er fl4 eth Ec n1 n2=>?_⟩
  ·obtain ⟨tp,sH,Fj,eT4⟩:=tup ks
   rw?
   refine ⟨rfl,?_⟩
   rw?
   refine bE ?_
   rw?
   exact hM _ _ ⟨_,_,Lb,La,fl,ro,g',s',ls,wX,rfl,sH,nb3,na3,q1,q2,q3,q4,by rw [tk];exact Ec,Fj,eT4,hL3.tv tp,fun x hx=>tp (NC x hx),.stay X6 hi hP3 (by rw [tk];exact Ec.ats.2.2.2) hN,by try?,by try?⟩
  ·subst eg
   obtain ⟨tp,sH,Fj,eT4⟩:=tup ks
   have hbl:=hC.lb
   have hab:=hC.hab
   rw [tl] at hbl
   rw?
   refine ⟨rfl,?_⟩
   rw?
   refine bJ ?_
   rw?
   refine ⟨.inl ⟨rfl,_,aW.of Fj⟩,?_⟩
   rw?
   refine cZ Fj (by unfold kT;rw [eV];exact aO 0#d) ?_
   have nl1:Ll≠A4:=fun z=>by rw [← z,Vx] at n1;cases n1
   have nl2:Ll≠A3:=fun z=>by rw [← z,Vx] at n2;cases n2
   have nt1:Lt≠A4:=fun z=>by rw [← z,V7] at n1;cases n1
   have nt2:Lt≠A3:=fun z=>by rw [← z,V7] at n2;cases n2
   have K1:=Ec.app (zs:=kT ls++[.ref ln]) Fj nl1 nl2
   have Q5:∀{b:ao} {xs:List V},H4 b=some 0#s→upd H4 Ll (.lst (kT ls++[.ref ln])) b=some 0#s:=fun e=>kL Fj e
   have eL5:upd H4 Ll (.lst (kT ls++[.ref ln])) Ll=some (.lst (kT (ls++[(ln,G,fo)]))):=by rw [av];simp [kT]
   have Rz:upd H4 Ll (.lst (kT ls++[.ref ln])) Lt=some (.lst (wX.map fun x=>V.ref x.1)):=by rw [aI (eG nlt)];exact eT4
   have sH5:aq H (upd H4 Ll (.lst (kT ls++[.ref ln]))):=bw sH nl0
   have er5:=Q5 er
   generalize upd H4 Ll (.lst (kT ls++[.ref ln]))=H5 at *
   rw?
   refine ⟨.inl ⟨rfl,_,aW.of Rz⟩,?_⟩
   rw?
   refine cZ Rz (by rw [eV];exact aO 0#d) ?_
   have tp6:∀{b:ao} {xs:List V},H5 b=some 0#s→upd H5 Lt (.lst ((wX.map fun x=>V.ref x.1)++[.ref th])) b=some 0#s:=fun e=>kL Rz e
   refine hM _ _ ⟨_,_,A4,A3,b,(es.take i).length,none,s2',ls++[(ln,G,fo)],wX++[(th,(true,a,b,i))],rfl,bw sH5 nt0,s3.free n1,s3.free n2,nl1,nl2,nt1,nt2,by rw [tk];exact K1.app Rz nt1 nt2,by rw [aI nlt];exact eL5,by rw [av];simp,?_,fun z hz=>?_,?_,by rw [cJ];show _+1≤i+1;try?,by rw [cJ];show _+1≤i+1;try?⟩
   ·exact (((hL3.tv tp).snoc fl4).tv Q5).tv tp6
   ·rcases dH.mp hz with z | z
    ·exact tp6 (Q5 (tp (NC _ z)))
    ·obtain rfl:_=(th,(true,a,b,i)):=by simpa using z
     refine tp6 (Q5 ?_)
     show H4 th=_
     rw [eth,tK (show a<i by try?),tK hbl]
   ·rw [tl,ju,ju]
    exact .cap X6 hi hP3 hC
  ·subst es'
   obtain ⟨tp,sH,Fj,eT4⟩:=tup ks
   have hbl:=hC.lb
   have hab:=hC.hab
   rw [tl] at hbl
   rw?
   refine ⟨rfl,?_⟩
   rw?
   refine bJ ?_
   rw?
   refine ⟨.inl ⟨rfl,_,aW.of Fj⟩,?_⟩
   rw?
   refine cZ Fj (by unfold kT;rw [eV];exact aO 0#d) ?_
   have nl1:Ll≠A4:=fun z=>by rw [← z,Vx] at n1;cases n1
   have nl2:Ll≠A3:=fun z=>by rw [← z,Vx] at n2;cases n2
   have nt1:Lt≠A4:=fun z=>by rw [← z,V7] at n1;cases n1
   have nt2:Lt≠A3:=fun z=>by rw [← z,V7] at n2;cases n2
   have K1:=Ec.app (zs:=kT ls++[.ref ln]) Fj nl1 nl2
   have Q5:∀{b:ao} {xs:List V},H4 b=some 0#s→upd H4 Ll (.lst (kT ls++[.ref ln])) b=some 0#s:=fun e=>kL Fj e
   have eL5:upd H4 Ll (.lst (kT ls++[.ref ln])) Ll=some (.lst (kT (ls++[(ln,S,fo)]))):=by rw [av];simp [kT]
   have Rz:upd H4 Ll (.lst (kT ls++[.ref ln])) Lt=some (.lst (wX.map fun x=>V.ref x.1)):=by rw [aI (eG nlt)];exact eT4
   have sH5:aq H (upd H4 Ll (.lst (kT ls++[.ref ln]))):=bw sH nl0
   have er5:=Q5 er
   generalize upd H4 Ll (.lst (kT ls++[.ref ln]))=H5 at *
   rw?
   refine ⟨.inl ⟨rfl,_,aW.of Rz⟩,?_⟩
   rw?
   refine cZ Rz (by rw [eV];exact aO 0#d) ?_
   have tp6:∀{b:ao} {xs:List V},H5 b=some 0#s→upd H5 Lt (.lst ((wX.map fun x=>V.ref x.1)++[.ref th])) b=some 0#s:=fun e=>kL Rz e
   refine hM _ _ ⟨_,_,A4,A3,(es.take i).length,b,g2',none,ls++[(ln,S,fo)],wX++[(th,(false,a,b,i))],rfl,bw sH5 nt0,s3.free n1,s3.free n2,nl1,nl2,nt1,nt2,by rw [tk];exact K1.app Rz nt1 nt2,by rw [aI nlt];exact eL5,by rw [av];simp,?_,fun z hz=>?_,?_,by rw [cJ];show _+1≤i+1;try?,by rw [cJ];show _+1≤i+1;try?⟩
   ·exact (((hL3.tv tp).snoc fl4).tv Q5).tv tp6
   ·rcases dH.mp hz with z | z
    ·exact tp6 (Q5 (tp (NC _ z)))
    ·obtain rfl:_=(th,(false,a,b,i)):=by simpa using z
     refine tp6 (Q5 ?_)
     show H4 th=_
     rw [eth,tK (show a<i by try?),tK hbl]
   ·rw [tl,ju,ju]
    exact .cup X6 hi hP3 hno hC
 ·rintro σ H3 ⟨v5,v6,Lb,La,fl,ro,g,s,ls,wX,rfl,s3,nb3,na3,q1,q2,q3,q4,Eb,Vx,V7,hL3,NC,X6,ll,lt⟩
  rw [aS] at *
  rw [iV] at Eb
  obtain ⟨⟨dx3,fs3,ep3,_,mn3⟩,_,_,hP3⟩:=Eb.ats
  rw?
  refine ⟨.inl ⟨rfl,_,aW.of Vx⟩,?_⟩
  rw?
  refine Q0 ep3 mn3 ?_
  rw?
  refine ⟨p,Lb,La,es,fl,ro,β,n,nb,g,s,rfl,Eb,by try?,h1,hn,hnb,fun z=>absurd h0 (by rw [z];decide),fun _ ln TT fo H4 s4 f4 Wf=>?_⟩
  have el4:=s4 _ _ Vx
  rw?
  refine cZ el4 (by unfold kT;rw [eV];exact aO 0#d) ?_
  rw?
  have Q5:∀{b:ao} {xs:List V},H4 b=some 0#s→upd H4 Ll (.lst (kT ls++[.ref ln])) b=some 0#s:=fun e=>kL el4 e
  refine aF (mk:=.tup) 0#f fun y H6 s6 n6 e6=>?_
  refine k y Ll Lt (ls++[(ln,TT,fo)]) wX (ls.map (·.2)) fl ro g s TT fo H6 (fun b o e=>s6 _ _ (bw (s3.trans s4) nl0 _ _ e)) e6 nl0 nt0 (s6 _ _ ?_) (uC.tv (fun {b xs} e=>s6 _ _ e) (((hL3.tv fun {b xs} e=>s4 _ _ e).snoc f4).tv Q5)) 0#f (s6 _ _ ?_) (fun x hx=>s6 _ _ (Q5 (s4 _ _ (NC x hx)))) X6 hP3 Wf (by rw [eV];exact ll) lt
  ·rw [av];simp [kT]
  ·rw [aI (eG nlt)];exact s4 _ _ V7
end
def HJ (ks:List (Rat×Rat)) (i:Nat):Rat:=((ks[i]?).map (·.1)).getD 0
def P9 (ks:List (Rat×Rat)) (i:Nat):Rat:=((ks[i]?).map (·.2)).getD 0
def xAt (ks:List (Rat×Rat)) (i:Nat):Rat:=(P9 ks (i+1)-P9 ks i)/(HJ ks i-HJ ks (i+1))
def jv (ks:List (Rat×Rat)) (t0 t1:Int) (i:Nat):Rat×Rat:=
 if i=0 then ((t0:Rat),HJ ks 0*(t0:Rat)+P9 ks 0) else if i<ks.length then (xAt ks (i-1),HJ ks (i-1)*xAt ks (i-1)+P9 ks (i-1)) else ((t1:Rat),HJ ks (ks.length-1)*(t1:Rat)+P9 ks (ks.length-1))
def L6 (ks:List (Rat×Rat)) (t0 t1:Int) (i:Nat):Rat×Rat×Rat×Rat:=((jv ks t0 t1 i).1,(jv ks t0 t1 i).2,(jv ks t0 t1 (i+1)).1,(jv ks t0 t1 (i+1)).2)
theorem mh (ls:List Ln):(kT ls).length=ls.length:=eV ..
theorem FP {i:Nat} (h:(kT ls)[i]?=some v):∃x,ls[i]?=some x∧v=.ref x.1:=by
 unfold kT at h
 rw [jQ] at h
 cases e:ls[i]? with
 | none=>rw [e] at h;cases h
 | some x=>rw [e] at h;cases h;exact ⟨x,rfl,rfl⟩
theorem NO {i:Nat} (h:ls[i]?=some x):(kT ls)[i]?=some (.ref x.1):=by
 unfold kT
 rw [jQ,h]
 rfl
theorem ac6 {ls:List Ln} (h:ls[i]?=some x):HJ (ls.map (·.2)) i=x.2.1∧P9 (ls.map (·.2)) i=x.2.2:=by
 unfold HJ P9
 rw [jQ,h]
 exact ⟨rfl,rfl⟩
theorem KN (xs:List V):oE xs (some 1) none=xs.drop 1:=by
 unfold oE
 rw [show (1:Int)=((1:Nat):Int) from rfl,HT.Ob,show HT.GL xs.length xs.length none=xs.length from rfl]
 rcases ZX 1 xs.length with z | z
 ·rw [Zv z]
  exact JT (by rw [jO];exact dm _)
 ·rw [Zn z,OA z,OA (dm _)]
  simp
inductive Hi (vs:List V) (H:Hp) (Q:VK) (E_:XK):Prop where
 | mk (p:ao) (T f:Rat) (t:Int) (n:Nat):vs=[.ref p,.int t]→i9 H p T f n→Sz n t→1≤n→n≤1300→(∀(y:ao) (H':Hp),aq H H'→i9 H' y (t:Rat) (T*(t:Rat)+f) (6*n+3)→Q (.ref y) H')→Hi vs H Q E_
inductive G6 (vs:List V) (H:Hp) (Q:VK) (E_:XK):Prop where
 | mk (l:ao) (ls:List Ln) (t0 t1:Int) (n:Nat):vs=[.ref l,.int t0,.int t1]→H l=some (.lst (kT ls))→uC H ls n→0<ls.length→ls.length≤900→Sz n t0→Sz n t1→1≤n→n≤1300→(∀i,i+1<ls.length→HJ (ls.map (·.2)) i≠HJ (ls.map (·.2)) (i+1))→(∀(R:ao) (ps:List Pc) (H':Hp),aq H H'→H R=none→H' R=some (.lst (ps.map fun x=>V.ref x.1))→AllP H' ps (6*n+3)→ps.map (·.2)=(kq ls.length).map (L6 (ls.map (·.2)) t0 t1)→Q (.ref R) H')→G6 vs H Q E_
section
theorem JB:aE ["line","moment"] ["line","moment"] (ah vp):=0#a
theorem Jk (F:cH K "point_on" "point_on" vp f fd) (iP:Dn P w K mg base 5 "height" ["line","when"] sF):bg P w K mg base cM 6 f fd ["line","moment"] Hi:=by
 refine F.ok JB 0#e 0#b
 ·obtain ⟨p,T,f,t,n,rfl,_⟩:=h
  rfl
 obtain ⟨p,TT,fo,t,n,rfl,hL,zt,h1,hn,k⟩:=h
 refine bD ⟨_,(aG (aR (bR (bT (bR (bT 0#x aB)) (b9 iP hr 0#m (bR (bT 0#x aB))))))),?_⟩
 rw?
 refine aF (mk:=.tup) 0#f fun a H1 s1 n1 e1=>?_
 have fa:dw H1 a (t:Rat) n:=⟨t,1,e1,⟨by decide,by simp,by grind⟩,zt,ym h1⟩
 rw?
 refine aF (mk:=.tup) 0#f fun b H2 s2 n2 e2=>?_
 rw?
 refine ⟨p,b,TT,fo,(t:Rat),n,n,rfl,hL.JM (s1.trans s2),sO e2 zt h1,by try?,fun z H3 s3 f3=>?_⟩
 rw?
 refine aF (mk:=.tup) 0#f fun y H4 s4 n4 e4=>?_
 exact k y H4 (s1.trans (s2.trans (s3.trans s4))) ⟨a,z,e4,(fa.up (s2.trans (s3.trans s4))).mono 0#d,(f3.up s4).mono 0#d⟩
theorem qM:aE ["links","first","last","points"] ["links","first","last"] (ah m9):=0#a
theorem Ak (F:cH K "pieces_along" "pieces_along" m9 f fd) (T:Txt mg) (qa:Dn P w K mg base 6 "point_on" ["line","moment"] Hi) (Kx:Dn P w K mg base 6 "meet" ["line","other"] MV):bg P w K mg base cM 7 f fd ["links","first","last"] G6:=by
 refine F.ok qM 0#e 0#b
 ·obtain ⟨l,ls,t0,t1,n,rfl,_⟩:=h
  rfl
 obtain ⟨l,ls,t0,t1,n,rfl,hl,hL,h0,qS,z0,z1,h1,hn,hne,k⟩:=h
 generalize hks:ls.map (·.2)=ks at *
 have II:ks.length=ls.length:=by rw [← hks,eV]
 have lat:∀{i:Nat} {x:Ln},ls[i]?=some x→HJ ks i=x.2.1∧P9 ks i=x.2.2:=fun {i x} h=>by rw [← hks];exact ac6 h
 obtain ⟨x0,g0⟩:∃x,ls[0]?=some x:=⟨ls[0],je h0⟩
 obtain ⟨xl,gl⟩:∃x,ls[ls.length-1]?=some x:=⟨ls[ls.length-1],je 0#d⟩
 refine bD ⟨_,(au (aN 3 qM.nd (dP (cO (b9 qa hr (cW K 0#m) 0#x)))) (au (gE (Jd.KU K (aa 3) (jA (O:=["line","behind"]) (N':=[]) (cap:=[]) rfl (Jd.u7 K rfl T.Up (bT 0#m (jj (EB K) 0#m (jl aB) jk))) (fun _ _ _ _ _=>(Jd.Qo K (n:=2) rfl (d8 (bQ (i:=0) (show iN [("line":Str),("behind":Str)] by decide +kernel) rfl 0#n) (d8 (bQ (i:=1) (show iN [("line":Str),("behind":Str)] by decide +kernel) rfl 0#n) o6)))) (fun _ _ _ _ _=>jn) (fun _ _ _ _ _=>(d9 Kx 0#A rfl (bX 0#m (bX 0#x gc aP) aP) (he:=aP) (hpl:=(bB aP bS)))) rfl trivial rfl 0#g rfl 0#g)) (hs:=fL)) (au (gE (d7 K (aa 3) (b9 qa hr (cy (lS K) 0#m (jm fY aB) 0#o) (aa 2))) (hs:=fL)) (aG (aR (jA (O:=["start","end"]) (N':=[]) (cap:=[]) rfl (Jd.u7 K rfl T.Up (bT (aa 3) (jj (EB K) (aa 3) (jl aB) jk))) (fun _ _ _ _ _=>(Jd.Qo K (n:=2) rfl (d8 (bQ (i:=0) (show iN [("start":Str),("end":Str)] by decide +kernel) rfl 0#n) (d8 (bQ (i:=1) (show iN [("start":Str),("end":Str)] by decide +kernel) rfl 0#n) o6)))) (fun _ _ _ _ _=>jn) (fun _ _ _ _ _=>(aJ (acA K) 0#m 0#x)) rfl trivial rfl 0#g rfl 0#g)))))),?_⟩
 rw?
 refine cG hl (fh (j:=0) (NO g0)) ?_
 rw?
 refine ⟨x0.1,x0.2.1,x0.2.2,t0,n,rfl,hL x0 (jL g0),z0,h1,hn,fun y0 H1 s1 f1=>?_⟩
 rw?
 refine aF (mk:=.lst) 0#f fun PT H2 s2 n2 e2=>?_
 have eB:=s1.trans s2
 have nPT:H PT=none:=s1.free n2
 rw?
 refine ⟨.inl ⟨rfl,_,aW.of e2⟩,?_⟩
 rw?
 refine Jv ?_
 rw?
 refine ⟨_,rfl,1,rfl,l,_,rfl,aW.of (eB _ _ hl),fun P1 nP1=>?_⟩
 rw [KN]
 have s3:aq H2 (upd H2 P1 (.lst ((kT ls).drop 1))):=bw (aq.refl _) nP1
 have e3:upd H2 P1 (.lst ((kT ls).drop 1)) P1=some (.lst ((kT ls).drop 1)):=av
 generalize upd H2 P1 (.lst ((kT ls).drop 1))=H3 at *
 have xH:=eB.trans s3
 rw?
 refine ⟨l,P1,_,_,rfl,aW.of (xH _ _ hl),aW.of e3,?_⟩
 refine oZ (E7:=ls.length-1) (by rw [mh];try?) (by rw [jO,mh];try?) (.inr (by rw [jO,mh];try?)) (fun H9 s9=>⟨aW.of ((xH.trans s9) _ _ hl),aW.of (s9 _ _ e3)⟩) 0#d (fun c ys G=>∃qs:List Ln,ys=kT qs∧uC G qs (6*n+3)∧qs.map (·.2)=(kq c).map fun i=>jv ks t0 t1 (i+1)) ⟨[],rfl,fun x hx=>absurd hx 0#f,rfl⟩ ?_ ?_
 ·rintro D c v v' ys H9 tE pp ly NN N0 hh0 hD eD s9 qK V5 hc hv hv' hy ⟨qs,rfl,hqs,hmap⟩ kY kN
  obtain ⟨x,gx,rfl⟩:=FP hv
  rw [um,CS] at hv'
  obtain ⟨x',QV,rfl⟩:=FP hv'
  have Jz:=xH.trans (s9.trans qK)
  obtain ⟨l1,l2⟩:=lat gx
  obtain ⟨l3,l4⟩:=lat QV
  have hc':c+1<ls.length:=(fZ.mp QV).1
  have ne:x.2.1≠x'.2.1:=by rw [← l1,← l3];exact hne c hc'
  refine BW hh0 V5 ?_
  rw?
  refine bJ ?_
  rw?
  refine ⟨x.1,x'.1,_,_,_,_,n,rfl,(hL x (jL gx)).JM Jz,(hL x' (jL QV)).JM Jz,h1,hn,fun z=>absurd z ne,fun _ z a b KC Ex Ry fa fb=>?_⟩
  have pe:jv ks t0 t1 (c+1)=((x'.2.2-x.2.2)/(x.2.1-x'.2.1),x.2.1*((x'.2.2-x.2.2)/(x.2.1-x'.2.1))+x.2.2):=by
   unfold jv xAt
   rw [if_neg 0#c,if_pos 0#c,OI,l1,l2,l3,l4]
  refine kY _ KC Ex ⟨qs++[(z,jv ks t0 t1 (c+1))],by simp [kT],fun y hy'=>?_,?_⟩
  ·rcases dH.mp hy' with w | w
   ·exact (hqs y w).tv fun {b xs} e=>(wD (qK.trans Ex)) _ _ e
   ·obtain rfl:y=(z,jv ks t0 t1 (c+1)):=by simpa using w
    rw [pe]
    have ln:i9 KC z ((x'.2.2-x.2.2)/(x.2.1-x'.2.1)) (x.2.1*((x'.2.2-x.2.2)/(x.2.1-x'.2.1))+x.2.2) (6*n+3):=⟨a,b,Ry,fa.mono 0#d,fb⟩
    exact ln.tv fun {b xs} e=>ja ((qK.trans Ex) _ _ eD) e
  ·rw [ju,hmap,uy,ju]
   rfl
 rintro D ys H4 hD eD s4 hy ⟨qs,rfl,hqs,hmap⟩
 have yr:=xH.trans s4
 have e24:=(s3.trans s4) _ _ e2
 have f14:=f1.JM (s2.trans (s3.trans s4))
 have afw:uC H4 qs (6*n+3):=hqs.tv fun {b xs} e=>iZ _ _ e
 have hql:qs.length=ls.length-1:=by
  have:=congrArg nE hmap
  simpa using this
 rw?
 refine Js e24 eD (by rw [mh];exact ur (aO (by show 1+qs.length≤1000;try?))) ?_
 have t5:∀{b:ao} {xs:List V},H4 b=some 0#s→upd H4 PT (.lst ([.ref y0]++kT qs)) b=some 0#s:=fun e=>kL e24 e
 have e5:upd H4 PT (.lst ([.ref y0]++kT qs)) PT=some (.lst (kT ((y0,jv ks t0 t1 0)::qs))):=by rw [av];rfl
 have s5:aq H (upd H4 PT (.lst ([.ref y0]++kT qs))):=bw yr nPT
 have p0:jv ks t0 t1 0=((t0:Rat),x0.2.1*(t0:Rat)+x0.2.2):=by
  unfold jv
  rw [if_pos rfl,(lat g0).1,(lat g0).2]
 have hA5:uC (upd H4 PT (.lst ([.ref y0]++kT qs))) ((y0,jv ks t0 t1 0)::qs) (6*n+3):=fun y hy'=>by
  rcases lg.mp hy' with w | w
  ·subst w
   rw [p0]
   exact f14.tv t5
  ·exact (afw y w).tv t5
 generalize upd H4 PT (.lst ([.ref y0]++kT qs))=H5 at *
 rw?
 refine ⟨.inl ⟨rfl,_,aW.of e5⟩,?_⟩
 rw?
 refine cG (s5 _ _ hl) (v:=.ref xl.1) ?_ ?_
 ·unfold xE
  rw [AG (m:=ls.length-1) (by rw [mh];try?)]
  exact NO gl
 rw?
 refine ⟨xl.1,xl.2.1,xl.2.2,t1,n,rfl,(hL xl (jL gl)).JM s5,z1,h1,hn,fun yl H6 s6 f6=>?_⟩
 have e6:=s6 _ _ e5
 rw?
 refine cZ e6 (by rw [mh];exact aO (by show qs.length+1≤1000;try?)) ?_
 have pn:jv ks t0 t1 ls.length=((t1:Rat),xl.2.1*(t1:Rat)+xl.2.2):=by
  unfold jv
  rw [if_neg 0#c,if_neg 0#c,II,(lat gl).1,(lat gl).2]
 have t7:∀{b:ao} {xs:List V},H6 b=some 0#s→upd H6 PT (.lst (kT ((y0,jv ks t0 t1 0)::qs)++[.ref yl])) b=some 0#s:=fun e=>kL e6 e
 have e7:upd H6 PT (.lst (kT ((y0,jv ks t0 t1 0)::qs)++[.ref yl])) PT=some (.lst (kT ((y0,jv ks t0 t1 0)::qs++[(yl,jv ks t0 t1 ls.length)]))):=by rw [av];simp [kT]
 have s7:aq H (upd H6 PT (.lst (kT ((y0,jv ks t0 t1 0)::qs)++[.ref yl]))):=bw (s5.trans s6) nPT
 have hA7:uC (upd H6 PT (.lst (kT ((y0,jv ks t0 t1 0)::qs)++[.ref yl]))) ((y0,jv ks t0 t1 0)::qs++[(yl,jv ks t0 t1 ls.length)]) (6*n+3):=by
  refine uC.snoc ((hA5.tv fun {b xs} e=>s6 _ _ e).tv t7) ?_
  show i9 _ yl _ _ _
  rw [pn]
  exact f6.tv t7
 have hm7:((y0,jv ks t0 t1 0)::qs++[(yl,jv ks t0 t1 ls.length)]).map (·.2)=(kq (ls.length+1)).map (jv ks t0 t1):=by
  rw [ju,qU,hmap,uy,ju]
  congr 1
  rw [show ls.length=(ls.length-1)+1 by try?,List.range_succ_eq_map,qU,nC,OI]
  rfl
 generalize ago:(y0,jv ks t0 t1 0)::qs++[(yl,jv ks t0 t1 ls.length)]=Ye at *
 generalize upd H6 PT (.lst (kT ((y0,jv ks t0 t1 0)::qs)++[.ref yl]))=H7 at *
 have hpl:Ye.length=ls.length+1:=by
  have:=congrArg nE hm7
  simpa using this
 have pat:∀{i:Nat} {x:Ln},Ye[i]?=some x→x.2=jv ks t0 t1 i:=fun {i x} h=>by
  have hi:i<Ye.length:=(fZ.mp h).1
  have e1:(Ye.map (·.2))[i]?=some x.2:=by rw [jQ,h];rfl
  rw [hm7,jQ,YY 0#d] at e1
  exact (lQ e1).symm
 rw?
 refine Jv ?_
 rw?
 refine ⟨_,rfl,1,rfl,PT,_,rfl,aW.of e7,fun P8 nP8=>?_⟩
 rw [KN]
 have s8:aq H7 (upd H7 P8 (.lst ((kT Ye).drop 1))):=bw (aq.refl _) nP8
 have e8:upd H7 P8 (.lst ((kT Ye).drop 1)) P8=some (.lst ((kT Ye).drop 1)):=av
 generalize upd H7 P8 (.lst ((kT Ye).drop 1))=H8 at *
 rw?
 refine ⟨PT,P8,_,_,rfl,aW.of (s8 _ _ e7),aW.of e8,?_⟩
 refine oZ (E7:=ls.length) (by rw [mh];try?) (by rw [jO,mh];try?) (.inr (by rw [jO,mh];try?)) (fun H9 s9=>⟨aW.of ((s8.trans s9) _ _ e7),aW.of (s9 _ _ e8)⟩) 0#d (fun c ys G=>∃ps:List Pc,ys=(ps.map fun x=>V.ref x.1)∧AllP G ps (6*n+3)∧ps.map (·.2)=(kq c).map (L6 ks t0 t1)) ⟨[],rfl,fun x hx=>absurd hx 0#f,rfl⟩ ?_ ?_
 ·rintro D' c v v' ys H9 tE pp ly NN N0 hh0 X5 HG s9 qK V5 hc hv hv' hy ⟨ps,rfl,hps,hmp⟩ kY kN
  obtain ⟨x,gx,rfl⟩:=FP hv
  rw [um,CS] at hv'
  obtain ⟨x',QV,rfl⟩:=FP hv'
  have adU:=s8.trans (s9.trans qK)
  obtain ⟨a1,b1,ex,fa1,fb1⟩:=(hA7 x (jL gx)).JM adU
  obtain ⟨a2,b2,ex',fa2,fb2⟩:=(hA7 x' (jL QV)).JM adU
  refine BW hh0 V5 ?_
  rw?
  refine bJ ?_
  rw?
  refine Tj ex ex' ?_
  refine aF (mk:=.tup) 0#f fun z KC Ex n11 Ry=>?_
  refine kY _ KC Ex ⟨ps++[(z,L6 ks t0 t1 c)],by simp,fun y hy'=>?_,?_⟩
  ·rcases dH.mp hy' with w | w
   ·exact (hps y w).mv fun {b xs} e=>(wD (qK.trans Ex)) _ _ e
   ·obtain rfl:y=(z,L6 ks t0 t1 c):=by simpa using w
    have q1:=pat gx
    have q2:=pat QV
    have pc:KH KC (z,L6 ks t0 t1 c) (6*n+3):=by
     unfold L6
     rw [← q1,← q2]
     exact ⟨a1,b1,a2,b2,Ry,fa1.up Ex,fb1.up Ex,fa2.up Ex,fb2.up Ex⟩
    exact pc.mv fun {b xs} e=>ja ((qK.trans Ex) _ _ HG) e
  ·rw [ju,hmp,uy,ju]
   rfl
 rintro D' ys H9 X5 HG s9 hy ⟨ps,rfl,hps,hmp⟩
 rw?
 exact k D' ps H9 (s7.trans (s8.trans s9)) ((s7.trans s8).free X5) HG (fun x hx=>(hps x hx).mv fun {b xs} e=>iZ _ _ e) hmp
end
def O8 (es:List En) (β:Rat) (k fl ro:Nat) (L:Rat×Rat):Prop:=(∀i,fl≤i→i<k→c8 es L.1 i-β≤L.2)∧∀i,ro≤i→i<k→L.2≤c8 es L.1 i+β
theorem yT.RD (hk:k≤es.length) (h:yT (es.take k) β fl ro m q G f a b):O8 es β k fl ro (G,f):=by
 have tl:(es.take k).length=k:=by rw [C4];simp?
 refine ⟨fun i h1 h2=>?_,fun i h1 h2=>?_⟩
 ·have:=h.lo i h1 (by rw [tl];exact h2)
  rw [o9 h2] at this
  exact this
 ·have:=h.hi i h1 (by rw [tl];exact h2)
  rw [o9 h2] at this
  exact this
theorem yU.RD (hk:k≤es.length) (h:yU (es.take k) β fl ro m q S f a b):O8 es β k fl ro (S,f):=by
 have tl:(es.take k).length=k:=by rw [C4];simp?
 refine ⟨fun i h1 h2=>?_,fun i h1 h2=>?_⟩
 ·have:=h.lo i h1 (by rw [tl];exact h2)
  rw [o9 h2] at this
  exact this
 ·have:=h.hi i h1 (by rw [tl];exact h2)
  rw [o9 h2] at this
  exact this
theorem HN.RD (h:C9 es fl ro β g s) (oF:0≤β) (hN:HN es β fl g s T f):O8 es β es.length fl ro (T,f):=by
 rcases hN with ⟨hc,lo,ex⟩ | ⟨eg,es',eT,ef⟩
 ·refine ⟨lo,?_⟩
  rcases hc with eg | ⟨eg,es'⟩
  ·obtain ⟨g1,g2⟩:=h.hiG eg
   exact (DY oF h.Ew g1 g2 lo ex).1
  ·obtain ⟨g1,g2⟩:=h.loS es'
   exact (D6 oF h.Ew g1 g2 lo ex).1
 ·have h2:=h.two.mpr ⟨eg,es'⟩
  refine ⟨fun i h1 hi=>?_,fun i h1 hi=>?_⟩
  ·obtain rfl:i=fl:=by have:=h.lt 0#c;simp?
   show c8 es T i-β≤f
   unfold c8
   rw [eT,ef]
   grind
  ·have:=h.lt 0#c
   obtain rfl:i=fl:=by simp?
   show f≤c8 es T i+β
   unfold c8
   rw [eT,ef]
   grind
def Rel (es:List En) (z:Bool×Nat×Nat×Nat) (L0 L1:Rat×Rat):Prop:=z.2.2.1<z.2.2.2∧z.2.2.2<es.length ∧
 if z.1=true then L0.1*(mo es z.2.2.1:Rat)+L0.2≤L1.1*(mo es z.2.2.1:Rat)+L1.2∧L1.1*(mo es z.2.2.2:Rat)+L1.2<L0.1*(mo es z.2.2.2:Rat)+L0.2
 else L1.1*(mo es z.2.2.1:Rat)+L1.2≤L0.1*(mo es z.2.2.1:Rat)+L0.2∧L0.1*(mo es z.2.2.2:Rat)+L0.2<L1.1*(mo es z.2.2.2:Rat)+L1.2
inductive Ch (es:List En):List (Rat×Rat)→List (Bool×Nat×Nat×Nat)→Rat×Rat→Prop where
 | one {L:Rat×Rat}:Ch es [] [] L
 | more {ks:List (Rat×Rat)} {ts:List (Bool×Nat×Nat×Nat)} {L0 L1:Rat×Rat} {z:Bool×Nat×Nat×Nat} (h:Ch es ks ts L0) (hR:Rel es z L0 L1):Ch es (ks++[L0]) (ts++[z]) L1
theorem VS (hk:k<es.length) (h:yT (es.take k) β fl ro (mo es k) (wo es k) G f a b) (hF:O8 es β (k+1) b k L):Rel es (true,a,b,k) (G,f) L:=by
 have tl:(es.take k).length=k:=by rw [C4];simp?
 have hb:=h.lb
 rw [tl] at hb
 have eb:=h.eb
 rw [o9 hb] at eb
 obtain ⟨i,i1,i2,ei⟩:=h.off
 have li:=h.lo i i1 i2
 have f1:=hF.1 b (dm _) 0#c
 have f2:=hF.2 k (dm _) 0#c
 unfold c8 at eb f1 f2
 refine ⟨hb,hk,?_⟩
 rw [if_pos rfl]
 refine ⟨by show G*(mo es b:Rat)+f≤L.1*(mo es b:Rat)+L.2;grind,?_⟩
 show L.1*(mo es k:Rat)+L.2<G*(mo es k:Rat)+f
 grind
theorem VU (hk:k<es.length) (h:yU (es.take k) β fl ro (mo es k) (wo es k) S f a b) (hF:O8 es β (k+1) k b L):Rel es (false,a,b,k) (S,f) L:=by
 have tl:(es.take k).length=k:=by rw [C4];simp?
 have hb:=h.lb
 rw [tl] at hb
 have eb:=h.eb
 rw [o9 hb] at eb
 obtain ⟨i,i1,i2,ei⟩:=h.off
 have li:=h.hi i i1 i2
 have f1:=hF.2 b (dm _) 0#c
 have f2:=hF.1 k (dm _) 0#c
 unfold c8 at eb f1 f2
 refine ⟨hb,hk,?_⟩
 rw [if_neg eO]
 refine ⟨by show L.1*(mo es b:Rat)+L.2≤S*(mo es b:Rat)+f;grind,?_⟩
 show S*(mo es k:Rat)+f<L.1*(mo es k:Rat)+L.2
 grind
theorem Tr.ch (h:Tr es β k fl ro ks ts):∀L,O8 es β k fl ro L→Ch es ks ts L:=by
 induction h with
 | nil=>exact fun L _=>.one
 | stay h hk hP hP' hN ih=>exact fun L hF=>ih L ⟨fun i a b=>hF.1 i a 0#c,fun i a b=>hF.2 i a 0#c⟩
 | cap h hk hP hC ih=>exact fun L hF=>.more (ih _ (hC.RD (ur hk))) (VS hk hC hF)
 | cup h hk hP hn hC ih=>exact fun L hF=>.more (ih _ (hC.RD (ur hk))) (VU hk hC hF)
theorem Rel.ne (hr:rising es)  (h:Rel es z L0 L1):L0.1≠L1.1:=by
 obtain ⟨h1,h2,h3⟩:=h
 intro e
 split at h3
 ·rw [e] at h3
  grind
 ·rw [e] at h3
  grind
theorem By (h:i<ks.length):HJ (ks++[L]) i=HJ ks i∧P9 (ks++[L]) i=P9 ks i:=by
 unfold HJ P9
 rw [kZ h]
 exact ⟨rfl,rfl⟩
theorem IV:HJ (ks++[L]) ks.length=L.1∧P9 (ks++[L]) ks.length=L.2:=by
 unfold HJ P9
 simp
theorem Ch.sep (hr:rising es)  (h:Ch es ks ts L):∀i,i<ks.length→HJ (ks++[L]) i≠HJ (ks++[L]) (i+1):=by
 induction h with
 | one=>exact fun i hi=>absurd hi (J5 _)
 | @more ks ts L0 L1 z h hR ih=>
   intro i hi
   rw [cJ] at hi
   have hi':i<ks.length+1:=hi
   by_cases e:i=ks.length
   ·subst e
    have e1:HJ (ks++[L0]++[L1]) (ks.length+1)=L1.1:=by
     have:=(IV (ks:=ks++[L0]) (L:=L1)).1
     rw [cJ] at this
     exact this
    rw [e1,(By (by rw [cJ];show ks.length<ks.length+1;simp?)).1,(IV).1]
    exact hR.ne hr
   ·have q1:=(By (ks:=ks++[L0]) (L:=L1) (i:=i) (by rw [cJ];exact hi')).1
    have q2:=(By (ks:=ks++[L0]) (L:=L1) (i:=i+1) (by rw [cJ];show i+1<ks.length+1;simp?)).1
    rw [q1,q2]
    exact ih i 0#c
def E6 (H:Hp) (β:Rat) (N:Nat) (r:List En) (z:List Pc×List Th):Prop:=AllP H z.1 N∧(∀x∈z.2,Rb H r x)∧∃(ks:List (Rat×Rat)) (L:Rat×Rat) (fl ro:Nat) (g s:Option Rat),Tr r β r.length fl ro ks (z.2.map (·.2))∧C9 r fl ro β g s∧HN r β fl g s L.1 L.2∧z.1.map (·.2)=(kq (ks.length+1)).map (L6 (ks++[L]) (mo r 0) (mo r (r.length-1)))
theorem E6.tv (t:∀{b:ao} {xs:List V},H b=some 0#s→H' b=some 0#s) (h:E6 H β N r z):E6 H' β N r z:=⟨fun x hx=>(h.1 x hx).mv t,fun x hx=>t (h.2.1 x hx),h.2.2⟩
def qh (zs:List (List Pc×List Th)):List V:=(zs.map fun z=>z.1.map fun x=>V.ref x.1).flatten
def xW (zs:List (List Pc×List Th)):List V:=(zs.map fun z=>z.2.map fun x=>V.ref x.1).flatten
inductive wL (C:ao) (vs:List V) (H:Hp) (Q:VK) (E_:XK):Prop where
 | mk (l pb:ao) (es:List En) (β:Rat) (n nb:Nat):vs=[.ref l,.ref pb]→H l=some (.lst (vals es))→Row H es n→rising es→es.length≤40→dw H pb β nb→0≤β→1≤n→n≤1500→(5*n+4*nb≤7900∧nb≤1000)→5*n+3*nb+7≤1300→(∀(y X Z:ao) (zs:List (List Pc×List Th)) (H':Hp),aq H H'→H' y=some (.tup [.ref X,.ref Z])→H X=none→H Z=none→X≠Z→H' X=some (.lst (qh zs))→H' Z=some (.lst (xW zs))→gW (E6 H' β (6*(5*n+3*nb+7)+3)) (parts gY es es.length) zs→Q (.ref y) H')→wL C vs H Q E_
section
variable {P:gX} {w:di} {K:bM} {mg:Str→Option aH} {base:b8} {f aC:ao} {fd:iS}
theorem zk:∀i:Nat,(parts s es i).flatten=(es.take i).filter s
 | 0=>by simp [parts]
 | i+1=>by
   have ih:=zk (s:=s) (es:=es) i
   unfold parts
   cases e:es[i]? with
   | none=>
     dsimp only
     rw [ih,xC,e]
     simp
   | some x=>
     have tk:es.take (i+1)=es.take i++[x]:=by rw [xC,e];rfl
     rw [tk,DR]
     dsimp only
     split
     ·rename_i hs
      split
      ·rename_i hr
       obtain ⟨t,r,hp⟩:=vZ hr
       rw [← ih,hp]
       simp [hs]
      ·rw [EL,ih]
       simp [hs]
     ·rename_i hs
      rw [ih]
      simp [hs]
theorem KW {α:Type} {l:List (List α)} (i:Nat):(l.take i).flatten.length≤l.flatten.length:=by
 conv=>rhs;rw [← OC i l]
 rw [EL,cJ]
 simp?
theorem pL:aE ["row","bound","telling","paper","run","found"] ["row","bound"] (ah B6):=0#a
theorem Ql (F:cH K "joined" "joined" B6 f fd) (T:Txt mg) (qb:Dn P w K mg base 1 "runs" ["row"] Cw) (uK:Dn P w K mg base 8 "links_of" ["run","bound"] (Hf aC)) (mK:Dn P w K mg base 7 "pieces_along" ["links","first","last"] G6):bg P w K mg base cM 9 f fd ["row","bound"] (wL aC):=by
 refine F.ok pL 0#e 0#b
 ·obtain ⟨l,pb,es,β,n,nb,rfl,_⟩:=h
  rfl
 obtain ⟨l,pb,es,β,n,nb,rfl,hl,hR,cK,xF,hb,oF,h1,hn,hnb,hM,k⟩:=h
 refine bD ⟨_,(au (aN 2 pL.nd (dP gc)) (au (aN 3 pL.nd (dP gc)) (au (fK iM rfl (gU K (Jd.c1 qb hr 0#m)) (bQ (i:=4) pL.nd rfl 0#n) (au (aN 5 pL.nd (b9 uK hr (aa 4) 0#x)) (au (gE (Jd.KU K (aa 2) (Jd.c3 mK hr (aK K (aa 5)) (aK K (cW K (aa 4))) (aK K (cy (lS K) (aa 4) (jm fY aB) 0#o)))) (hs:=fL)) (aG (gE (Jd.KU K (aa 3) (aK K (aa 5))) (hs:=fL)))))) (aG (aR (bR (bT (aa 2) (aa 3)))))))),?_⟩
 rw?
 refine aF (mk:=.lst) 0#f fun X H1 s1 n1 e1=>?_
 rw?
 refine aF (mk:=.lst) 0#f fun Z H2 s2 n2 e2=>?_
 have eB:=s1.trans s2
 have nXZ:X≠Z:=fun z=>by rw [← z,e1] at n2;cases n2
 have nZ0:H Z=none:=s1.free n2
 rw?
 refine gH (gV ?_)
 rw?
 refine ⟨l,es,n,rfl,eB _ _ hl,hR.up eB,xF,fun TT ls H3 s3 Ed hls afp _=>?_⟩
 have hll:ls.length=(parts gY es es.length).length:=by rw [← hls,eV]
 have own:∀{G:Hp} {R:ao} {v:List V},LL H2 G TT ls→H2 R=some (.lst v)→R≠TT∧∀x∈ls,x.1≠R:=fun hG e=>⟨(fun z=>by rw [z,hG.new] at e;cases e),(fun x hx z=>by rw [← z,(hG.each x hx).1] at e;cases e)⟩
 obtain ⟨a1,a2⟩:=own Ed (s2 _ _ e1)
 obtain ⟨b1,b2⟩:=own Ed e2
 have hF:∀i,((parts gY es es.length).take i).flatten.length≤40:=fun i=>by
  have q1:=KW (l:=parts gY es es.length) i
  rw [zk,iV] at q1
  have q2:(es.filter gY).length≤es.length:=CH ..
  try?
 refine ⟨TT,rfl,⟨_,aW.of Ed.at_⟩,cL (xs:=lrefs ls) (fun i σ H4=>∃(zs:List (List Pc×List Th)) (v5 v6:Option V),σ=[some (.ref l),some (.ref pb),some (.ref X),some (.ref Z),v5,v6]∧aq H H4∧LL H2 H4 TT ls∧H4 X=some (.lst (qh zs))∧H4 Z=some (.lst (xW zs))∧(qh zs).length≤2*((parts gY es es.length).take i).flatten.length∧(xW zs).length≤((parts gY es es.length).take i).flatten.length∧gW (E6 H4 β (6*(5*n+3*nb+7)+3)) ((parts gY es es.length).take i) zs) ?_ ?_ ?_ ?_⟩
 ·exact ⟨[],none,none,rfl,eB.trans s3,Ed,(s2.trans s3) _ _ e1,s3 _ _ e2,nH _,dm _,trivial⟩
 ·rintro i σ H4 _ ⟨zs,v5,v6,rfl,s4,QX,_⟩
  exact aW.of QX.at_
 ·rintro i x σ H4 hx ⟨zs,v5,v6,rfl,s4,QX,eX,eZ,hz1,hz2,hJ⟩
  refine gZ fun M B RR hM' _ _=>?_
  obtain ⟨x,gx,rfl⟩:=rJ hx
  have hi:i<ls.length:=(fZ.mp gx).1
  have hmx:=jL gx
  have hp:(parts gY es es.length)[i]?=some x.2:=by rw [← hls,jQ,gx];rfl
  obtain ⟨o1,o2,o3⟩:=iB es.length x.2 (jL hp)
  rw [iV] at o3
  obtain ⟨_,ex,_⟩:=QX.each x hmx
  have hx1:1≤x.2.length:=OE.mpr o1
  have ac3:x.2.length≤40:=dI o3.length_le xF
  have hRx:Row H4 x.2 n:=fun z hz=>hR.up s4 z (o3.subset hz)
  have hrx:rising x.2:=cK.sublist o3
  have tkF:((parts gY es es.length).take (i+1)).flatten.length=((parts gY es es.length).take i).flatten.length+x.2.length:=by
   rw [qO,hp,EL,cJ]
   simp
  have hF1:=hF (i+1)
  rw?
  refine ⟨x.1,pb,x.2,β,n,nb,rfl,ex,hRx,o2,hrx,hx1,by try?,hb.up s4,oF,h1,hn,hnb,fun y5 Ll Lt ln wX ks fl ro g s T5 f5 H5 s5 e5 nl5 nt5 eL5 hA5 hmap Rz hT5 X6 hP Wf hk5 ht5=>?_⟩
  have hch:=X6.ch (T5,f5) (Wf.RD hP oF)
  have hsep:=hch.sep hrx
  have afq:ln.length=ks.length+1:=by
   have:=congrArg nE hmap
   simpa using this
  have Mu:=s4.trans s5
  have hL5:=QX.up s5
  obtain ⟨_,ex5,_⟩:=hL5.each x hmx
  obtain ⟨xa,ga,fa⟩:=dc (hRx.up s5) o2 (show 0<x.2.length by try?)
  obtain ⟨xb,gb,fb⟩:=dc (hRx.up s5) o2 (show x.2.length-1<x.2.length by try?)
  obtain ⟨va,ea,_,zma⟩:=id fa
  obtain ⟨vb,eb,_,zmb⟩:=id fb
  rw?
  refine ⟨.inl ⟨rfl,_,aW.of (s5 _ _ eX)⟩,?_⟩
  rw?
  refine cG ex5 (AE ga) ?_
  rw?
  refine cG ex5 (E9 gb) ?_
  rw?
  refine ⟨Ll,ln,mo x.2 0,mo x.2 (x.2.length-1),5*n+3*nb+7,rfl,eL5,hA5,by try?,by try?,zma.mono 0#d,zmb.mono 0#d,by try?,hM,?_,fun R6 ps H6 s6 nR6 eR6 hP6 hm6=>?_⟩
  ·intro j hj
   rw [hmap]
   exact hsep j 0#d
  rw [hmap,afq] at hm6
  have s56:=s5.trans s6
  have eX6:=s56 _ _ eX
  have agn:ps.length=ks.length+1:=by
   have:=congrArg nE hm6
   simpa using this
  have e56:=s6 _ _ e5
  rw?
  refine Js eX6 eR6 (by rw [eV];exact ur (aO 0#d)) ?_
  have tp7:∀{b:ao} {xs:List V},H6 b=some 0#s→upd H6 X (.lst (qh zs++ps.map fun x=>V.ref x.1)) b=some 0#s:=fun e=>kL eX6 e
  have eX7:upd H6 X (.lst (qh zs++ps.map fun x=>V.ref x.1)) X=some (.lst (qh (zs++[(ps,wX)]))):=by rw [av];simp [qh]
  have nZX:Z≠X:=eG nXZ
  have eZ7:upd H6 X (.lst (qh zs++ps.map fun x=>V.ref x.1)) Z=some (.lst (xW zs)):=by rw [aI nZX];exact s56 _ _ eZ
  have afJ:Lt≠X:=fun z=>by rw [z,eX] at nt5;cases nt5
  have eT7:upd H6 X (.lst (qh zs++ps.map fun x=>V.ref x.1)) Lt=some (.lst (wX.map fun x=>V.ref x.1)):=by rw [aI afJ];exact s6 _ _ Rz
  have hL7:LL H2 (upd H6 X (.lst (qh zs++ps.map fun x=>V.ref x.1))) TT ls:=(QX.up s56).other a1 a2
  have Yo:aq H (upd H6 X (.lst (qh zs++ps.map fun x=>V.ref x.1))):=bw (s4.trans s56) n1
  have e57:=tp7 e56
  generalize upd H6 X (.lst (qh zs++ps.map fun x=>V.ref x.1))=H7 at *
  rw?
  refine ⟨.inl ⟨rfl,_,aW.of eZ7⟩,?_⟩
  rw?
  refine Js eZ7 eT7 (by rw [eV];exact ur (aO 0#d)) ?_
  have tp8:∀{b:ao} {xs:List V},H7 b=some 0#s→upd H7 Z (.lst (xW zs++wX.map fun x=>V.ref x.1)) b=some 0#s:=fun e=>kL eZ7 e
  have l1:(qh (zs++[(ps,wX)])).length=(qh zs).length+ps.length:=by simp [qh]
  have l2:(xW (zs++[(ps,wX)])).length=(xW zs).length+wX.length:=by simp [xW]
  refine hM' _ _ ⟨zs++[(ps,wX)],_,_,rfl,bw Yo nZ0,hL7.other b1 b2,by rw [aI nXZ];exact eX7,by rw [av];simp [xW],by rw [l1,tkF];try?,by rw [l2,tkF];try?,?_⟩
  rw [qO,hp]
  refine uQ (mE (fun a b _ h=>h.tv fun {b xs} e=>tp8 (tp7 (s56 _ _ e))) hJ) ⟨fun z hz=>((hP6 z hz).mv tp7).mv tp8,fun z hz=>tp8 (tp7 (s6 _ _ (hT5 z hz))),ks,(T5,f5),fl,ro,g,s,X6,hP,Wf,hm6⟩
 ·rintro σ H4 ⟨zs,v5,v6,rfl,s4,QX,eX,eZ,_,_,hJ⟩
  rw [fQ,hll,iV] at hJ
  rw?
  refine aF (mk:=.tup) 0#f fun y H5 s5 n5 e5=>?_
  exact k y X Z zs H5 (s4.trans s5) e5 n1 nZ0 nXZ (s5 _ _ eX) (s5 _ _ eZ) (mE (fun a b _ h=>h.tv fun {b xs} e=>s5 _ _ e) hJ)
end
def Seg (es:List Nn) (i:Nat) (ls:List (List Nn)) (c:List Nn):Prop:=(ls++[c]).filter (fun r=>!r.isEmpty)=parts tY es i∧(dM tY es i=true↔c≠[])
theorem Xp (h:Seg es i ls c) (he:es[i]?=some e) (hs:tY e=false):Seg es (i+1) (ls++[c]) []:=by
 obtain ⟨h1,h2⟩:=h
 refine ⟨?_,?_⟩
 ·rw [pH he hs,← h1,DR (l₁:=ls++[c])]
  simp
 ·rw [uV he,hs]
  simp
theorem ab0 (h:Seg es i ls c) (he:es[i]?=some e) (hs:tY e=true):Seg es (i+1) ls (c++[e]):=by
 obtain ⟨h1,h2⟩:=h
 refine ⟨?_,?_⟩
 ·rw [DR] at h1 ⊢
  cases hi:dM tY es i with
  | true=>
    have hc:=h2.mp hi
    have:(!c.isEmpty)=true:=by cases c with | nil=>exact absurd rfl hc | cons a b=>rfl
    rw [C5,this,if_pos rfl,List.filter_nil] at h1
    rw [wc he hs hi h1.symm]
    simp
  | false=>
    have hc:c=[]:=EI fun z=>by rw [h2.mpr z] at hi;cases hi
    subst hc
    rw [pJ he hs hi,← h1]
    simp
 ·rw [uV he,hs]
  simp
structure VL (H H2:Hp) (T:ao) (ls:List (ao×List V)):Prop where
 new:H T=none
 at_:H2 T=some (.lst (ls.map fun x=>V.ref x.1))
 each:∀x∈ls,H x.1=none∧H2 x.1=some (.lst x.2)∧x.1≠T
 nd:(ls.map (·.1)).Nodup
section
theorem VL.up (h:VL H H2 T ls) (s:aq H2 H3):VL H H3 T ls:=⟨h.new,s _ _ h.at_,fun x hx=>let ⟨a,b,c⟩:=h.each x hx;⟨a,s _ _ b,c⟩,h.nd⟩
theorem VL.push (h:VL H H2 T ls) (hR:H R=none) (eR:H2 R=some (.lst rn)) (hT:R≠T) (hl:∀x∈ls,x.1≠R):VL H (upd H2 T (.lst (ls.map (fun x=>V.ref x.1)++[.ref R]))) T (ls++[(R,rn)]):=by
 refine ⟨h.new,by rw [av];simp,fun x hx=>?_,?_⟩
 ·rcases dH.mp hx with z | z
  ·obtain ⟨a,b,c⟩:=h.each x z
   exact ⟨a,by rw [aI c];exact b,c⟩
  ·obtain rfl:x=(R,rn):=by simpa using z
   exact ⟨hR,by rw [aI hT];exact eR,hT⟩
 ·rw [ju]
  refine UT.mpr ⟨h.nd,by simp,fun a ha b hb=>?_⟩
  obtain ⟨x,hx,rfl⟩:=eU.mp ha
  obtain rfl:b=R:=by simpa using hb
  exact hl x hx
theorem VL.last (h:VL H H2 T (ls++[(L,c)])):VL H (upd H2 L (.lst (c++[x]))) T (ls++[(L,c++[x])]):=by
 obtain ⟨hL,eL,nL⟩:=h.each (L,c) 0#f
 have hnd:=h.nd
 rw [ju] at hnd
 have hne:∀y∈ls,y.1≠L:=fun y hy z=>(UT.mp hnd).2.2 y.1 (eU.mpr ⟨y,hy,rfl⟩) L 0#f z
 refine ⟨h.new,?_,fun y hy=>?_,by rw [ju];exact hnd⟩
 ·rw [aI (eG nL)]
  have:=h.at_
  simpa using this
 ·rcases dH.mp hy with z | z
  ·obtain ⟨a,b,c'⟩:=h.each y (JV _ z)
   exact ⟨a,by rw [aI (hne y z)];exact b,c'⟩
  ·obtain rfl:y=(L,c++[x]):=by simpa using z
   exact ⟨hL,av,nL⟩
end
abbrev O9:=List (ao×List Nn)
def Qg (ls:O9):List (ao×List V):=ls.map fun x=>(x.1,bU x.2)
inductive Hg (vs:List V) (H:Hp) (Q:VK) (E_:XK):Prop where
 | mk (l:ao) (es:List Nn) (m n:Nat):vs=[.ref l]→H l=some (.lst (bU es))→l9 H es m n→es.length≤40→(∀(D:ao) (ls:O9) (H':Hp),aq H H'→H D=none→H' D=some (.lst (ls.map fun x=>V.ref x.1))→(∀x∈ls,H x.1=none∧H' x.1=some (.lst (bU x.2)))→ls.map (·.2)=parts tY es es.length→Q (.ref D) H')→Hg vs H Q E_
section
theorem sA:aE ["_law_row_here","_law_parts","_law_one"] ["_law_row_here"] (ah vm):=0#a
theorem Jh (F:cH K "_law_runs" "_law_runs" vm f fd) (T:Txt mg):bg P w K mg base cM 1 f fd ["_law_row_here"] Hg:=by
 refine F.ok sA 0#e 0#b
 ·obtain ⟨l,es,m,n,rfl,_⟩:=h
  rfl
 obtain ⟨l,es,m,n,rfl,hl,hes,hn,k⟩:=h
 refine bD ⟨_,(au (aN 1 sA.nd (dP (cO (dP gc)))) (au (fK iM rfl (gU K 0#m) (bQ (i:=2) sA.nd rfl 0#n) (aG (bK (bh BN (aK K (aa 2)) dW (aD _)) (aG (gE (d7 K 0#x (dP gc)) (hs:=fL))) (aG (gE (d7 K (cy (lS K) 0#x (jm fY aB) 0#o) (aa 2)) (hs:=fL)))))) (aG (aR (jA (O:=["_law_part"]) (N':=[]) (cap:=[]) rfl (gU K 0#x) (fun _ _ _ _ _=>(bQ (i:=0) (show iN [("_law_part":Str)] by decide +kernel) rfl 0#n)) (fun _ _ _ _ _=>(Jd.kG (bh cY (fj (abe K) rfl T.gA OY (bX 0#m gc aP) (he:=aP) (hpl:=bS)) aB (aD _)))) (fun _ _ _ _ _=>0#m) rfl trivial rfl 0#g rfl 0#g))))),?_⟩
 rw?
 refine aF (mk:=.lst) 0#f fun L0 H1 s1 n1 e1=>?_
 rw?
 refine aF (mk:=.lst) 0#f fun TT H2 s2 n2 e2=>?_
 have eB:=s1.trans s2
 rw?
 refine gH (gV ?_)
 rw?
 refine ⟨l,rfl,⟨_,aW.of (eB _ _ hl)⟩,cL (xs:=bU es) (fun i σ H3=>∃(ls:O9) (L:ao) (c:List Nn) (v:Option V),σ=[some (.ref l),some (.ref TT),v]∧aq H H3∧VL H H3 TT (Qg ls++[(L,bU c)])∧ls.length≤i∧c.length≤i∧Seg es i (ls.map (·.2)) c) ?_ ?_ ?_ ?_⟩
 ·refine ⟨[],L0,[],none,rfl,eB,⟨s1.free n2,e2,fun x hx=>?_,by simp [Qg]⟩,dm _,dm _,rfl,by simp [dM]⟩
  obtain rfl:x=(L0,[]):=by simpa [Qg,bU] using hx
  exact ⟨n1,s2 _ _ e1,fun z=>by rw [← z] at n2;exact absurd (n2.symm.trans e1) 0#f⟩
 ·rintro i σ H3 _ ⟨ls,L,c,v,rfl,s3,_⟩
  exact aW.of (s3 _ _ hl)
 ·rintro i x σ H3 hx ⟨ls,L,c,v,rfl,s3,hV,hls,hc,Sa⟩
  refine gZ fun M B R hM _ _=>?_
  obtain ⟨e,he,rfl⟩:=pF hx
  have hi:i<es.length:=(fZ.mp he).1
  have fe:=((hes e (jL he)).up s3).1
  have hat:=hV.at_
  rw?
  refine ⟨rfl,?_⟩
  rw?
  cases hs:e.2.2 with
  | none=>
    have hs':tY e=false:=by unfold tY;rw [hs];rfl
    refine bJ ?_
    rw?
    refine ⟨.inl ⟨rfl,_,aW.of hat⟩,?_⟩
    rw?
    refine aF (mk:=.lst) 0#f fun R2 H4 s4 n4 e4=>?_
    rw?
    have hV4:=hV.up s4
    refine cZ hV4.at_ (by simp [Qg];exact aO 0#d) ?_
    have hold:∀x∈Qg ls++[(L,bU c)],x.1≠R2:=fun x hx z=>by
     rw [← z,(hV.each x hx).2.1] at n4
     cases n4
    refine hM _ _ ⟨ls++[(L,c)],R2,[],_,rfl,bw (s3.trans s4) hV.new,?_,by simp;try?,nH _,?_⟩
    ·have:=hV4.push (s3.free n4) e4 (fun z=>by rw [z,hat] at n4;cases n4) hold
     rw [show Qg (ls++[(L,c)])=Qg ls++[(L,bU c)] by simp [Qg]]
     exact this
    ·rw [ju]
     exact Xp Sa he hs'
  | some z=>
    have hs':tY e=true:=by unfold tY;rw [hs];rfl
    refine bE ?_
    rw?
    refine cG hat (v:=.ref L) (by rw [ju];exact VO) ?_
    have eL:=(hV.each (L,bU c) 0#f).2.1
    refine ⟨.inl ⟨rfl,_,aW.of eL⟩,?_⟩
    rw?
    refine cZ eL (by rw [bZ];exact aO 0#d) ?_
    refine hM _ _ ⟨ls,L,c++[e],_,rfl,bw s3 (hV.each (L,bU c) 0#f).1,?_,by try?,by simp;try?,ab0 Sa he hs'⟩
    rw [← jY]
    exact hV.last
 ·rintro σ H3 ⟨ls,L,c,v,rfl,s3,hV,hls,hc,Sa⟩
  rw?
  refine gV ?_
  rw?
  rw [bZ] at hls hc Sa
  have hall:(Qg ls++[(L,bU c)])=Qg (ls++[(L,c)]):=by simp [Qg]
  rw [hall] at hV
  have hat:=hV.at_
  generalize Vz:ls++[(L,c)]=us at *
  have hul:us.length≤41:=by rw [← Vz];simp;try?
  have eu:(Qg us).map (fun x=>V.ref x.1)=us.map fun x=>V.ref x.1:=by unfold Qg;rw [nC];rfl
  rw [eu] at hat
  refine ⟨TT,rfl,⟨_,aW.of hat⟩,?_⟩
  refine bY (xs:=us.map fun x=>V.ref x.1) bL (fun H4 s4=>aW.of (s4 _ _ hat)) (by rw [eV];try?) (fun i ys G=>ys=((us.take i).filter fun x=>!x.2.isEmpty).map fun x=>V.ref x.1) rfl ?_ ?_
  ·rintro D i x ys H4 ly NN N0 h0 hD eD s4 hx hy rfl kY kN
   rw [jQ] at hx
   obtain ⟨x,gx,rfl⟩:=oU.mp hx
   have ex:=(hV.each (x.1,bU x.2) (eU.mpr ⟨x,jL gx,rfl⟩)).2.1
   have ts:=EJ (fun x:ao×List Nn=>!x.2.isEmpty) us i x gx
   refine dG h0 ?_
   rw?
   refine cE (.inl (aW.of (s4 _ _ ex))) ?_
   rw [bZ]
   rw?
   refine cu (fun c1=>?_) (fun c1=>?_)
   ·have Fd:=c6 c1
    rw?
    refine kY _ H4 (aq.refl _) ?_
    have:(!x.2.isEmpty)=true:=by cases hx2:x.2 with | nil=>rw [hx2] at Fd;exact absurd Fd 0#f | cons a b=>rfl
    rw [ts,this,if_pos rfl,ju]
    rfl
   ·refine kN H4 (aq.refl _) ?_
    have:(!x.2.isEmpty)=false:=by cases hx2:x.2 with | nil=>rfl | cons a b=>rw [hx2] at c1;exact absurd (dz (show (0:Int)<(((a::b).length:Nat):Int) by rw [iu];simp?)) c1
    rw [ts,this,if_neg eO,yS]
  ·rintro D ys H4 hD eD s4 hy rfl
   rw [eV,iV] at eD
   refine k D _ H4 (s3.trans s4) (s3.free hD) eD (fun x hx=>?_) ?_
   ·have hx':=hV.each (x.1,bU x.2) (eU.mpr ⟨x,(vG.mp hx).1,rfl⟩)
    exact ⟨hx'.1,s4 _ _ hx'.2.1⟩
   ·have e:=Sa.1
    rw [← e,show ls.map (·.2)++[c]=us.map (·.2) by rw [← Vz];simp,J8]
    rfl
end
def gh (hs:List Nn) (b:Int):List En:=hs.map fun x=>(x.1,fT b x.2)
theorem Be (hs:List Nn) (b:Int):(gh hs b).map (·.2)=hs.map (fun x=>fT b x.2):=by unfold gh;rw [nC];rfl
theorem K0 (hs:List Nn) (b:Int):(gh hs b).length=hs.length:=eV ..
theorem yo (f:α→β) (s:β→Bool) (es:List α):∀i,(parts (fun x=>s (f x)) es i).map (Ke f)=parts s (es.map f) i
 | 0=>rfl
 | i+1=>by
   have ih:=yo f s es i
   have hr:dM s (es.map f) i=dM (fun x=>s (f x)) es i:=by
    unfold dM
    rw [jQ]
    cases es[i-1]? <;> rfl
   cases e:es[i]? with
   | none=>
     have e':(es.map f)[i]?=none:=by rw [jQ,e];rfl
     unfold parts
     rw [e,e']
     exact ih
   | some x=>
     have e':(es.map f)[i]?=some (f x):=by rw [jQ,e];rfl
     cases hs:s (f x) with
     | false=>rw [pH (s:=fun x=>s (f x)) e hs,pH e' hs,ih]
     | true=>
       cases hi:dM (fun x=>s (f x)) es i with
       | false=>rw [pJ (s:=fun x=>s (f x)) e hs hi,pJ e' hs (hr.trans hi),ju,ih];rfl
       | true=>
         obtain ⟨t,r,hp⟩:=vZ hi
         rw [wc (s:=fun x=>s (f x)) e hs hi hp,wc e' hs (hr.trans hi) (t:=t.map (Ke f)) (r:=r.map f) (by rw [← ih,hp,ju];rfl)]
         simp
theorem Ij {γ:Type} {f:α→γ} {g:β→γ}:∀{as:List α} {bs:List β},as.map f=bs.map g→gW (fun a b=>f a=g b) as bs
 | [],[],_=>trivial
 | _::_,_::_,h=>⟨(ZO h).1,Ij (ZO h).2⟩
 | [],_::_,h=>nomatch h
 | _::_,[],h=>nomatch h
theorem Qu (h:es.map (·.2)=hs.map (fun x=>fT b x.2)):gW (fun r r'=>r.map (·.2)=(gh r' b).map (·.2)) (parts gY es es.length) (parts tY hs hs.length):=by
 have hl:es.length=hs.length:=Bw h
 refine mE (R:=fun r r'=>r.map (·.2)=r'.map fun x=>fT b x.2) (fun r r' _ e=>by rw [Be];exact e) (Ij ?_)
 have a:=yo (fun x:En=>x.2) (fun v:Int×Option Rat=>v.2.isSome) es es.length
 have c:=yo (fun x:Nn=>fT b x.2) (fun v:Int×Option Rat=>v.2.isSome) hs hs.length
 have e2:(fun x:Nn=>(fT b x.2).2.isSome)=tY:=funext fun x=>by unfold fT tY;simp
 rw [show (fun x:Nn=>(fun v:Int×Option Rat=>v.2.isSome) (fT b x.2))=tY from e2] at c
 have a':(parts gY es es.length).map (Ke fun x:En=>x.2)=parts (fun v:Int×Option Rat=>v.2.isSome) (es.map fun x=>x.2) es.length:=a
 rw [a',c,h,hl]
abbrev T3:=ao×Int×Int×Int
def Ra (H:Hp) (x:T3):Prop:=H x.1=some (.tup [.int x.2.1,.int x.2.2.1,.int x.2.2.2])
theorem vU (h:es[i]?=some x):mo es i=x.2.1:=by unfold mo;rw [h];rfl
theorem FT (h:rising es)  (hi:i<es.length) (hj:j<es.length) (e:mo es i=mo es j):i=j:=by
 rcases ux i j with q | q | q
 ·have:=fR h q hj;simp?
 ·exact q
 ·have:=fR h q hi;simp?
structure Nf (Rs:List (List En)):Prop where
 ri:∀r∈Rs,rising r
 ln:∀r∈Rs,r.length≤20
 nm:Rs.length≤20
 dis:∀(a b:Nat) (r s:List En) (i j:Nat),Rs[a]?=some r→Rs[b]?=some s→i<r.length→j<s.length→mo r i=mo s j→a=b
def inM (m j a k:Nat):Prop:=a<m∨(a=m∧k<j)
def VJ (H:Hp) (p:ao) (Rs:List (List En)) (m j:Nat):Prop:=∃kvs:List (Key×V),H p=some (.dK kvs)∧kvs.length≤20*m+j∧(∀(a:Nat) (r:List En) (k:Nat) (x:En),inM m j a k→Rs[a]?=some r→r[k]?=some x→∃q,dX kvs (.inl (mo r k))=some (.ref q)∧H q=some (.tup [.int a,.ref x.1]))∧∀t,(∀(a:Nat) (r:List En) (k:Nat),inM m j a k→Rs[a]?=some r→k<r.length→mo r k≠t)→dX kvs (.inl t)=none
abbrev KnR (H:Hp) (p:ao) (Rs:List (List En)):Prop:=VJ H p Rs Rs.length 0
theorem VJ.up (h:VJ H p Rs m j) (s:aq H H'):VJ H' p Rs m j:=by
 obtain ⟨kvs,e,l,a,b⟩:=h
 exact ⟨kvs,s _ _ e,l,fun a' r k x hk hr hx=>let ⟨q,v,g⟩:=a a' r k x hk hr hx;⟨q,v,s _ _ g⟩,b⟩
theorem VJ.next (h:VJ H p Rs m r.length) (hr:Rs[m]?=some r) (hl:r.length≤20):VJ H p Rs (m+1) 0:=by
 obtain ⟨kvs,e,l,a,b⟩:=h
 refine ⟨kvs,e,by simp?,fun a' r' k x hk hr' hx=>a a' r' k x ?_ hr' hx,fun t ht=>b t fun a' r' k hk hr' II=>ht a' r' k ?_ hr' II⟩
 ·rcases hk with z | ⟨_,z⟩
  ·by_cases c:a'<m
   ·exact .inl c
   ·obtain rfl:a'=m:=by simp?
    rw [hr] at hr'
    cases hr'
    exact .inr ⟨rfl,(fZ.mp hx).1⟩
  ·simp?
 ·rcases hk with z | ⟨rfl,z⟩
  ·exact .inl 0#c
  ·exact .inl 0#c
def Spot (es:List En) (t:Int×Int×Int) (i j k:Nat):Prop:=i<j∧j<k∧k<es.length∧mo es i=t.1∧mo es j=t.2.1∧mo es k=t.2.2
theorem Spot.uniq (cK:rising es) (h:Spot es t i j k) (g:Spot es t a b c):i=a∧j=b∧k=c:=by
 obtain ⟨h1,h2,h3,e1,e2,e3⟩:=h
 obtain ⟨g1,g2,g3,f1,f2,f3⟩:=g
 exact ⟨FT cK 0#c 0#c (by rw [e1,f1]),FT cK 0#c 0#c (by rw [e2,f2]),FT cK h3 g3 (by rw [e3,f3])⟩
theorem Nf.T9 (h:Nf Rs)  (hr:r∈Rs) (hs:s∈Rs) (g:Spot r t i j k) (g':Spot s t a b c):r=s:=by
 obtain ⟨x,hx⟩:=CJ hr
 obtain ⟨y,hy⟩:=CJ hs
 have:=h.dis x y r s k c hx hy g.2.2.1 g'.2.2.1 (by rw [g.2.2.2.2.2,g'.2.2.2.2.2])
 subst this
 rw [hx] at hy
 exact lQ hy
def Gd (Rs:List (List En)) (β:Rat) (at_:Bool) (t:Int×Int×Int):Prop:=∃r∈Rs,∃i j k,Spot r t i j k∧0<cP (sd r i j k)∧(β<cP (sd r i j k)∨(at_=true∧cP (sd r i j k)=β))
def XJ (Rs:List (List En)) (t:Int×Int×Int):Prop:=∃r∈Rs,∃i j k,Spot r t i j k∧0<sd r i j k
def qd (H:Hp) (ls:List ao) (Rs:List (List En)) (n:Nat):Prop:=ls.length=Rs.length∧∀(a:Nat) l r,ls[a]?=some l→Rs[a]?=some r→H l=some (.lst (vals r))∧Row H r n∧lz r
theorem qd.up (h:qd H ls Rs n) (s:aq H H'):qd H' ls Rs n:=⟨h.1,fun a l r hl hr=>let ⟨x,y,z⟩:=h.2 a l r hl hr;⟨s _ _ x,y.up s,z⟩⟩
inductive Ct (vs:List V) (H:Hp) (Q:VK) (E_:XK):Prop where
 | mk (F:ao) (ls:List ao) (Rs:List (List En)) (n:Nat):vs=[.ref F]→H F=some (.lst (ls.map V.ref))→qd H ls Rs n→Nf Rs→(∀(p:ao) (H':Hp),aq H H'→H p=none→KnR H' p Rs→Q (.ref p) H')→Ct vs H Q E_
inductive Ol (vs:List V) (H:Hp) (Q:VK) (E_:XK):Prop where
 | mk (p:ao) (t:T3) (Rs:List (List En)):vs=[.ref p,.ref t.1]→KnR H p Rs→Ra H t→Nf Rs→((¬ ∃r∈Rs,∃i j k,Spot r t.2 i j k)→∀H',aq H H'→Q .bC H')→(∀(r:List En) (i j k:Nat) (x y z:En),r∈Rs→Spot r t.2 i j k→r[i]?=some x→r[j]?=some y→r[k]?=some z→∀(R:ao) (H':Hp),aq H H'→H' R=some (.lst [.ref x.1,.ref y.1,.ref z.1])→Q (.ref R) H')→Ol vs H Q E_
inductive Cr (vs:List V) (H:Hp) (Q:VK) (E_:XK):Prop where
 | mk (p pl:ao) (t:T3) (ls:List ao) (Rs:List (List En)) (n nb:Nat) (β:Rat) (at_:Bool):vs=[.ref p,.ref t.1,.ref pl,.bl at_]→KnR H p Rs→Ra H t→qd H ls Rs n→Nf Rs→bV H pl β nb→n≤900→nb≤1000→(∀(r:Bool) (H':Hp),aq H H'→(r=true↔Gd Rs β at_ t.2)→Q (.bl r) H')→Cr vs H Q E_
def knd (q:Rat):Str:=if 0<q then "cap" else if q<0 then "cup" else "flat"
inductive MT (vs:List V) (H:Hp) (Q:VK) (E_:XK):Prop where
 | mk (p1 p2 p3:ao) (t1 t2 t3:Int) (q1 q2 q3:Rat) (n:Nat):vs=[.ref p1,.ref p2,.ref p3]→iQ H p1 t1 q1 n→iQ H p2 t2 q2 n→iQ H p3 t3 q3 n→t1<t3→n≤900→(∀H',aq H H'→Q (.str (knd (q2-c7 t1 q1 t2 t3 q3))) H')→MT vs H Q E_
theorem qd.of (h:qd H ls Rs n)  (hr:r∈Rs):Row H r n∧lz r:=by
 obtain ⟨a,ha⟩:=CJ hr
 obtain ⟨l,hl⟩:∃l,ls[a]?=some l:=⟨_,je (by rw [h.1];exact (fZ.mp ha).1)⟩
 exact (h.2 a l r hl ha).2
theorem Tg (h:Qt t b q):0<t↔0<q:=by
 have hb:(0:Rat)<(b:Rat):=cast_pos (b:=b) (by have:=h.pos;simp?)
 rw [← vC,h.eq]
 exact ⟨fun z=>JQ (by grind) (EW hb),fun z=>by have:=EX z hb;grind⟩
theorem aby (h:Qt t b q):t<0↔q<0:=by
 have hb:(0:Rat)<(b:Rat):=cast_pos (b:=b) (by have:=h.pos;simp?)
 rw [← vC,h.eq]
 exact ⟨fun z=>JQ (by grind) (EW hb),fun z=>by have:=EX (show (0:Rat) < -q by grind) hb;grind⟩
inductive Cs (vs:List V) (H:Hp) (Q:VK) (E_:XK):Prop where
 | mk (p:ao) (t:T3) (ls:List ao) (Rs:List (List En)) (n:Nat):vs=[.ref p,.ref t.1]→KnR H p Rs→Ra H t→qd H ls Rs n→Nf Rs→n≤900→(∃r∈Rs,∃i j k,Spot r t.2 i j k∧sd r i j k≠0)→(∀(H':Hp),aq H H'→(XJ Rs t.2→Q (.str "cap") H')∧(¬XJ Rs t.2→Q (.str "cup") H'))→Cs vs H Q E_
def kc (ts:List T3):List V:=ts.map fun x=>V.ref x.1
def lX (H:Hp) (ts:List T3):Prop:=∀x∈ts,Ra H x
theorem lX.up (h:lX H ts) (s:aq H H'):lX H' ts:=fun x hx=>s _ _ (h x hx)
def tS (ts:List (Int×Int×Int)):Prop:=∀(i:Nat) a b,ts[i]?=some a→ts[i+1]?=some b→a.2.2≤b.1
instance (ts:List (Int×Int×Int)):Decidable (tS ts):=sV _
inductive T4 (vs:List V) (H:Hp) (Q:VK) (E_:XK):Prop where
 | mk (l:ao) (ts:List T3):vs=[.ref l]→H l=some (.lst (kc ts))→lX H ts→ts.length≤900→(∀H',aq H H'→Q (.bl (decide (tS (ts.map (·.2))))) H')→T4 vs H Q E_
def KQ:Option Int→V
 | none=>.bC
 | some n=>.int n
def kg (jo:Bool):Str:=if jo then "joined" else "apart"
def gD (Rs:List (List En)) (t:Int×Int×Int):Bool:=@decide (XJ Rs t) (sV _)
def Nc (Rs:List (List En)) (β:Rat) (jo at_:Bool) (ts:List (Int×Int×Int)):Prop:=(∀t∈ts,Gd Rs β at_ t)∧if jo then tS (ts.filter (gD Rs))∧tS (ts.filter fun t=>!gD Rs t) else tS ts
def Ez (Rs:List (List En)) (β:Rat) (jo at_:Bool) (ts:List (Int×Int×Int)):Option Int:=@ite _ (Nc Rs β jo at_ ts) (sV _) (some ((Rs.length:Int)+ts.length)) none
inductive T8 (vs:List V) (H:Hp) (Q:VK) (E_:XK):Prop where
 | mk (l pb Z:ao) (ts:List T3) (es:List En) (n nb:Nat) (β:Rat) (jo at_:Bool):vs=[.ref l,.str (kg jo),.ref pb,.ref Z,.bl at_]→H l=some (.lst (vals es))→Row H es n→rising es→es.length≤20→bV H pb β nb→n≤900→nb≤400→H Z=some (.lst (kc ts))→lX H ts→ts.length≤900→(∀H',aq H H'→Q (KQ (Ez (parts gY es es.length) (β+β) jo at_ (ts.map (·.2)))) H')→T8 vs H Q E_
theorem yO {i:Nat} (h:(kc ts)[i]?=some v):∃x,ts[i]?=some x∧v=.ref x.1:=by
 unfold kc at h
 rw [jQ] at h
 obtain ⟨x,hx,rfl⟩:=oU.mp h
 exact ⟨x,hx,rfl⟩
theorem bq:(kc ts).length=ts.length:=eV _
def lq (ds:List (Int×Int×Int)) (i:Nat):Bool:=decide ((ds.getD (i+1) (0,0,0)).1≥(ds.getD i (0,0,0)).2.2)
theorem WD:((kq (ds.length-1)).map (lq ds)).all id=decide (tS ds):=by
 rw [zM,yQ,UY]
 constructor
 ·intro h i a b ha hb
  have hi:=(fZ.mp hb).1
  have:=h (lq ds i) (eU.mpr ⟨i,xD.mpr 0#c,rfl⟩)
  have:=c6 this
  rw [EH,EH,ha,hb] at this
  exact this
 ·intro h x hx
  obtain ⟨i,hi,rfl⟩:=eU.mp hx
  have hi:=xD.mp hi
  refine dz ?_
  have g1:ds[i]?=some ds[i]:=je 0#c
  have g2:ds[i+1]?=some ds[i+1]:=je 0#c
  rw [EH,EH,g1,g2]
  exact h i _ _ g1 g2
theorem Tu (h:rising es) (Kn:es.length≤20):Nf (parts gY es es.length):=by
 refine ⟨fun r hr=>?_,fun r hr=>dI (u6 _ _ hr) Kn,dI (pI _) Kn,?_⟩
 ·have:=(iB _ r hr).2.2
  rw [iV] at this
  exact zI this h
 ·have hp:(parts gY es es.length).flatten.Pairwise fun a b=>a.2.1<b.2.1:=by
   rw [jZ,iV]
   exact zI OF h
  have hp:=(Uy.mp hp).2
  have key:∀(a b:Nat) (r s:List En) (i j:Nat),(parts gY es es.length)[a]?=some r→(parts gY es es.length)[b]?=some s→i<r.length→j<s.length→a<b→mo r i<mo s j:=fun a b r s i j ha hb hi hj hab=>by
   obtain ⟨a1,a2⟩:=fZ.mp ha
   obtain ⟨b1,b2⟩:=fZ.mp hb
   have:=Kh.mp hp a b a1 b1 hab
   rw [a2,b2] at this
   have:=this r[i] (yR hi) s[j] (yR hj)
   rw [vU (je hi),vU (je hj)]
   exact this
  intro a b r s i j ha hb hi hj e
  rcases ux a b with q | q | q
  ·have:=key a b r s i j ha hb hi hj q;simp?
  ·exact q
  ·have:=key b a s r j i hb ha hj hi q;simp?
def gdB (Rs:List (List En)) (β:Rat) (at_:Bool) (t:Int×Int×Int):Bool:=@decide (Gd Rs β at_ t) (sV _)
theorem aaN (h:r=true↔Gd Rs β at_ t):r=gdB Rs β at_ t:=by
 rw [zM,h]
 unfold gdB
 exact (@yQ _ (sV _)).symm
section
theorem kW:aE ["found","known","place","run","sample"] ["found"] (ah vf):=0#a
theorem Jc (F:cH K "known_of" "known_of" vf f fd) (T:Txt mg):bg P w K mg base cM 1 f fd ["found"] Ct:=by
 refine F.ok kW 0#e 0#b
 ·obtain ⟨F,ls,Rs,n,rfl,_⟩:=h
  rfl
 obtain ⟨F,ls,Rs,n,rfl,hF,K4,hN,k⟩:=h
 have mQ:=hr.units
 refine bD ⟨_,(au (aN 1 kW.nd Jd.rQ) (au (fK iM rfl (Jd.Gs K rfl T.KR (cO 0#m)) (Jd.Qo K (n:=2) rfl (d8 (bQ (i:=2) kW.nd rfl 0#n) (d8 (bQ (i:=3) kW.nd rfl 0#n) o6))) (aG (fK iM rfl (gU K (aa 3)) (bQ (i:=4) kW.nd rfl 0#n) (aG (Jd.wu mQ 0#x (aK K (aa 4)) (bR (bT (aa 2) (aa 4)))))))) (aG (aR 0#x)))),?_⟩
 rw?
 refine GG fun p H1 s1 n1 e1=>?_
 rw?
 refine gH (abM ?_)
 rw?
 refine ⟨F,_,rfl,aW.of (s1 _ _ hF),RG (xs:=ls.map V.ref) (fun i σ H3=>∃(v2 v3 v4:Option V),σ=[some (.ref F),some (.ref p),v2,v3,v4]∧aq H H3∧VJ H3 p Rs i 0) ?_ ?_ ?_ ?_⟩
 ·refine ⟨none,none,none,rfl,s1,[],e1,dm _,fun a r k x hk=>?_,fun t _=>rfl⟩
  rcases hk with z | ⟨_,z⟩ <;> simp?
 ·rintro i σ H3 _ ⟨v2,v3,v4,rfl,s3,_⟩
  exact aW.of (s3 _ _ hF)
 ·rintro i v σ H3 q H4 hv ⟨v2,v3,v4,rfl,s3,I⟩ s4 nq eq
  rw [jQ] at hv
  obtain ⟨l,hl,rfl⟩:=oU.mp hv
  have hil:=(fZ.mp hl).1
  obtain ⟨r,hr'⟩:∃r,Rs[i]?=some r:=⟨_,je (by rw [← K4.1];exact hil)⟩
  have hrm:=jL hr'
  have cK:=hN.ri r hrm
  have Kn:=hN.ln r hrm
  have agh:i<20:=by have:=K4.1;have:=hN.nm;simp?
  obtain ⟨el,hR,_⟩:=K4.2 i l r hl hr'
  have I4:=I.up s4
  refine mG eq ?_
  rw?
  dsimp only
  refine gH (gV ?_)
  rw?
  have yr:=s3.trans s4
  refine ⟨l,rfl,⟨_,aW.of (yr _ _ el)⟩,cL (xs:=vals r) (fun j σ H5=>∃v4:Option V,σ=[some (.ref F),some (.ref p),some (.int ((i:Nat):Int)),some (.ref l),v4]∧aq H H5∧VJ H5 p Rs i j) ⟨_,rfl,yr,I4⟩ ?_ ?_ ?_⟩
  ·rintro j σ H5 _ ⟨v4,rfl,s5,_⟩
   exact aW.of (s5 _ _ el)
  ·rintro j v σ H5 hv ⟨v4,rfl,s5,kvs,eK,hlen,ha,hb⟩
   obtain ⟨x,hx,rfl⟩:=i8 hv
   have hj:=(fZ.mp hx).1
   obtain ⟨vv,ev,_,_⟩:=((hR.up s5) x (jL hx)).obj
   walk_at "ve"
   refine aF (mk:=.tup) 0#f fun z H6 s6 n6 e6=>?_
   have ev6:=s6 _ _ ev
   walk_at "ve"
   have eK6:=s6 _ _ eK
   refine ⟨p,_,rfl,EZ.k (k:=Sum.inl x.2.1) eK6 (aO 0#c),?_⟩
   have np:∀{a:ao} {xs:List V},H6 a=some 0#s→upd H6 p (.dK (putK kvs (Sum.inl x.2.1) (.ref z))) a=some 0#s:=fun {a xs} e=>by
    rw [aI (fun q=>by rw [q,eK6] at e;cases e)];exact e
   refine ⟨_,rfl,bw (s5.trans s6) n1,_,av,dI (kQ _ _ _) 0#c,fun a' r' k' x' hk hr2 hx'=>?_,fun t ht=>?_⟩
   ·rw [wZ]
    have hk':=(fZ.mp hx').1
    by_cases e:a'=i∧k'=j
    ·obtain ⟨rfl,rfl⟩:=e
     rw [hr'] at hr2
     cases hr2
     rw [hx] at hx'
     cases hx'
     rw [vU hx,if_pos rfl]
     exact ⟨z,rfl,np e6⟩
    ·have hne:mo r' k'≠x.2.1:=fun z=>e (by
      have ez:mo r' k'=mo r j:=by rw [z,vU hx]
      have:=hN.dis a' i r' r k' j hr2 hr' hk' hj ez
      subst this
      rw [hr'] at hr2
      cases hr2
      exact ⟨rfl,FT cK hk' hj ez⟩)
     rw [if_neg (fun z=>hne (Vi z))]
     obtain ⟨q',g1,g2⟩:=ha a' r' k' x' (by
      rcases hk with z | ⟨z,y⟩
      ·exact .inl z
      ·exact .inr ⟨z,by have:k'≠j:=fun u=>e ⟨z,u⟩
                        simp?⟩) hr2 hx'
     exact ⟨q',g1,np (s6 _ _ g2)⟩
   ·rw [wZ,if_neg (fun z=>ht i r j (.inr ⟨rfl,UW _⟩) hr' hj (by rw [vU hx];exact (Vi z).symm))]
    exact hb t fun a' r' k' hk=>ht a' r' k' (by
     rcases hk with z | ⟨z,y⟩
     ·exact .inl z
     ·exact .inr ⟨z,by simp?⟩)
  ·rintro σ H5 ⟨v4,rfl,s5,I5⟩
   rw [aS] at I5
   exact ⟨_,_,_,rfl,s5,I5.next hr' Kn⟩
 ·rintro σ H3 ⟨v2,v3,v4,rfl,s3,I⟩
  rw [eV,K4.1] at I
  rw?
  exact k p H3 s3 n1 I
theorem lV:aE ["known","three","found"] ["known","three"] (ah jc):=0#a
theorem t8 (F:cH K "samples_of_three" "samples_of_three" jc f fd) (T:Txt mg):bg P w K mg base cM 1 f fd ["known","three"] Ol:=by
 refine F.ok lV 0#e 0#b
 ·obtain ⟨p,t,Rs,rfl,_⟩:=h
  rfl
 obtain ⟨p,⟨pt,t0,t1,t2⟩,Rs,rfl,⟨kvs,eK,_,ha,hb⟩,ht,hN,kn,ks⟩:=h
 have ht:H pt=some (.tup [.int t0,.int t1,.int t2]):=ht
 have mQ:=hr.units
 have no:∀(H':Hp),aq H H'→¬(t0<t1∧t1<t2)→Q .bC H':=fun H' s' hn=>kn (fun ⟨es,hes,i,j,kk,h1,h2,h3,e1,e2,e3⟩=>hn (by
  have a:=fR (hN.ri es hes) h1 0#c
  have b:=fR (hN.ri es hes) h2 h3
  have e1:mo es i=t0:=e1
  have e2:mo es j=t1:=e2
  have e3:mo es kk=t2:=e3
  simp?)) H' s'
 refine bD ⟨_,(au (bK (jR (Jd.nQ (bh vY (aK K 0#x) (aK K 0#x) (aD _)) (Jd.lG (bh vY (aK K 0#x) (aK K 0#x) (aD _))))) (aG (aR dW)) bW) (au (Jd.kF (O:=["moment"]) (N':=["known"]) (cap:=[0]) (i:=2) lV.nd rfl 0#n rfl (Jd.piT K 0#x) (fun _ _ _ _ _=>(bQ (i:=0) (show iN [("moment":Str),("known":Str)] by decide +kernel) rfl 0#n)) (fun _ _ _ _ _=>(Jd.kG (bh (SW mQ) 0#m 0#x rfl))) (fun _ _ _ _ _=>(Jd.wj mQ 0#x 0#m 0#o)) rfl 0#u rfl 0#g rfl 0#g (by rfl)) (au (bK (jR (Jd.nQ (bh lU (cR K T.gA (aa 2)) aB (aD _)) (Jd.nQ (bh Ek (aK K (cW K (aa 2))) (aK K (cW K (aa 2))) (aD _)) (Jd.lG (bh Ek (aK K (cW K (aa 2))) (aK K (cW K (aa 2))) (aD _)))))) (aG (aR dW)) bW) (aG (aR (jA (O:=["pair"]) (N':=[]) (cap:=[]) rfl (gU K (aa 2)) (fun _ _ _ _ _=>(bQ (i:=0) (show iN [("pair":Str)] by decide +kernel) rfl 0#n)) (fun _ _ _ _ _=>jn) (fun _ _ _ _ _=>(cy (HH K) 0#m aB 0#o)) rfl trivial rfl 0#g rfl 0#g)))))),?_⟩
 rw?
 refine cu (fun c=>?_) (fun c=>?_)
 ·have c:t0≥t1:=c6 c
  rw?
  refine bJ ?_
  rw?
  exact no H (aq.refl _) 0#c
 have c:¬t0≥t1:=jw (iU.mpr c)
 rw?
 refine cu (fun c2=>?_) (fun c2=>?_)
 ·have c2:t1≥t2:=c6 c2
  rw?
  exact no H (aq.refl _) 0#c
 have c2:¬t1≥t2:=jw (iU.mpr c2)
 rw?
 refine Xg ?_
 rw?
 refine ⟨pt,rfl,⟨_,nI.of ht⟩,?_⟩
 refine bY (xs:=[t0,t1,t2].map V.int) tR (fun H3 s3=>nI.of (s3 _ _ ht)) (by show 3≤1000000;decide) (fun j ys G=>ys=(([t0,t1,t2].take j).filterMap fun m=>dX kvs (.inl m))) rfl ?_ ?_
 ·rintro D j v ys H3 σ1 NN N0 g0 hD eD s3 hv hy rfl kY kN
  rw [jQ] at hv
  obtain ⟨m,hm,rfl⟩:=oU.mp hv
  have tk:([t0,t1,t2].take (j+1)).filterMap (fun m=>dX kvs (.inl m))=([t0,t1,t2].take j).filterMap (fun m=>dX kvs (.inl m))++(dX kvs (.inl m)).toList:=by
   rw [qO,hm,UM,List.filterMap_append]
   congr 1
  refine dG g0 ?_
  rw?
  refine ⟨p,_,rfl,uF.k (k:=Sum.inl m) (s3 _ _ eK),?_⟩
  rw?
  cases hq:dX kvs (Sum.inl m) with
  | none=>
    rw [hq] at tk
    refine bE ?_
    exact kN H3 (aq.refl _) (by rw [tk];simp)
  | some z=>
    rw [hq] at tk
    refine bJ ?_
    walk_at "ve"
    refine ⟨p,z,rfl,?_,?_⟩
    ·have:=uF.k (k:=Sum.inl m) (s3 _ _ eK)
     rw [hq] at this
     exact this
    ·exact kY _ H3 (aq.refl _) (by rw [tk];rfl)
 rintro D ys H3 nD eD s3 hy rfl
 rw [eV,iV] at eD
 rw?
 refine cE (.inl (aW.of eD)) ?_
 rw?
 have miss:∀m,m∈[t0,t1,t2]→dX kvs (.inl m)=none→Q .bC H3:=fun m hm hq=>kn (fun ⟨es,hes,i,j,kk,h1,h2,h3,e1,e2,e3⟩=>by
  have e1:mo es i=t0:=e1
  have e2:mo es j=t1:=e2
  have e3:mo es kk=t2:=e3
  have JG:∀q,q<es.length→dX kvs (.inl (mo es q))≠none:=fun q hq'=>by
   obtain ⟨u,hu⟩:∃u,es[q]?=some u:=⟨_,je hq'⟩
   obtain ⟨a,X7⟩:=CJ hes
   obtain ⟨_,g,_⟩:=ha a es q u (.inl (fZ.mp X7).1) X7 hu
   rw [g];simp
  simp only [lg,Zq,or_false] at hm
  rcases hm with rfl | rfl | rfl
  ·exact JG i 0#c (by rw [e1];exact hq)
  ·exact JG j 0#c (by rw [e2];exact hq)
  ·exact JG kk 0#c (by rw [e3];exact hq)) H3 s3
 have find:∀m z,dX kvs (.inl m)=some z→∃(a:Nat) (es:List En) (q:Nat) (x:En) (u:ao),Rs[a]?=some es∧q<es.length∧es[q]?=some x∧mo es q=m∧z=.ref u∧H u=some (.tup [.int a,.ref x.1]):=fun m z hq=>by
  have:∃a es q,Rs[a]?=some es∧q<es.length∧mo es q=m:=EI fun no=>by
   have:=hb m fun a es q _ X7 hq' e=>no ⟨a,es,q,X7,hq',e⟩
   rw [this] at hq
   cases hq
  obtain ⟨a,es,q,X7,hq',e⟩:=this
  obtain ⟨x,hx⟩:∃x,es[q]?=some x:=⟨_,je hq'⟩
  obtain ⟨u,g1,g2⟩:=ha a es q x (.inl (fZ.mp X7).1) X7 hx
  rw [e,hq] at g1
  exact ⟨a,es,q,x,u,X7,hq',hx,e,by cases g1;rfl,g2⟩
 cases q0:dX kvs (.inl t0) with
 | none=>
   have hlen:((([t0,t1,t2].filterMap fun m=>dX kvs (.inl m)).length:Nat):Int)<3:=by
    have:([t0,t1,t2].filterMap fun m=>dX kvs (.inl m))=[t1,t2].filterMap fun m=>dX kvs (.inl m):=by rw [Av,q0]
    rw [this]
    have:=Yx (fun m=>dX kvs (.inl m)) [t1,t2]
    simp only [iu,kh] at this
    simp?
   rw [dz hlen]
   refine bJ ?_
   rw?
   refine bJ ?_
   rw?
   exact miss t0 0#f q0
 | some z0=>
   cases q1:dX kvs (.inl t1) with
   | none=>
     have hlen:((([t0,t1,t2].filterMap fun m=>dX kvs (.inl m)).length:Nat):Int)<3:=by
      have:([t0,t1,t2].filterMap fun m=>dX kvs (.inl m))=z0::[t2].filterMap fun m=>dX kvs (.inl m):=by rw [Av,q0,Av,q1]
      rw [this]
      have:=Yx (fun m=>dX kvs (.inl m)) [t2]
      simp only [iu,kh] at this ⊢
      simp?
     rw [dz hlen]
     refine bJ ?_
     rw?
     refine bJ ?_
     rw?
     exact miss t1 0#f q1
   | some z1=>
     cases q2:dX kvs (.inl t2) with
     | none=>
       have e:([t0,t1,t2].filterMap fun m=>dX kvs (.inl m))=[z0,z1]:=by rw [Av,q0,Av,q1,Av,q2];rfl
       rw [e,dz (show (([z0,z1].length:Nat):Int)<3 by show (2:Int)<3;decide)]
       refine bJ ?_
       rw?
       refine bJ ?_
       rw?
       exact miss t2 0#f q2
     | some z2=>
       have e:([t0,t1,t2].filterMap fun m=>dX kvs (.inl m))=[z0,z1,z2]:=by rw [Av,q0,Av,q1,Av,q2];rfl
       rw [e] at eD ⊢
       obtain ⟨a0,es,i,x,u0,A0,hi,hx,ei,rfl,g0⟩:=find t0 z0 q0
       obtain ⟨a1,es1,j,y,u1,A1,hj,hy',ej,rfl,g1⟩:=find t1 z1 q1
       obtain ⟨a2,es2,kk,z,u2,A2,hk,hz,ek,rfl,g2⟩:=find t2 z2 q2
       have alike:(∃r∈Rs,∃i j k,Spot r (t0,t1,t2) i j k)→a0=a1∧a1=a2:=fun ⟨r,hr1,i',j',k',h1,h2,h3,f1,f2,f3⟩=>by
        obtain ⟨b,hb'⟩:=CJ hr1
        have x0:=hN.dis a0 b es r i i' A0 hb' hi 0#c (by rw [ei];exact f1.symm)
        have x1:=hN.dis a1 b es1 r j j' A1 hb' hj 0#c (by rw [ej];exact f2.symm)
        have x2:=hN.dis a2 b es2 r kk k' A2 hb' hk h3 (by rw [ek];exact f3.symm)
        simp?
       rw [gJ (show ¬((([V.ref u0,V.ref u1,V.ref u2]:List V).length:Nat):Int)<3 by show ¬(3:Int)<3;decide)]
       refine bE ?_
       have g0':=s3 _ _ g0
       have g1':=s3 _ _ g1
       have g2':=s3 _ _ g2
       rw?
       refine cG eD XS ?_
       rw?
       refine cG eD XT ?_
       rw?
       by_cases c01:a0=a1
       case neg=>
        rw [gJ (show ¬(a0:Int)=(a1:Int) by simp?)]
        refine bJ ?_
        rw?
        refine bJ ?_
        rw?
        exact kn (fun z=>c01 (alike z).1) H3 s3
       subst c01
       rw [dz rfl]
       refine bE ?_
       rw?
       refine cG eD XT ?_
       rw?
       refine cG eD at2 ?_
       rw?
       by_cases c12:a0=a2
       case neg=>
        rw [gJ (show ¬(a0:Int)=(a2:Int) by simp?)]
        refine bJ ?_
        rw?
        exact kn (fun z=>c12 (alike z).2) H3 s3
       subst c12
       rw [A0] at A1 A2
       cases A1
       cases A2
       have hij:i<j:=by
        rcases ux i j with q | q | q
        ·exact q
        ·subst q;simp?
        ·have:=fR (hN.ri es (jL A0)) q hi;simp?
       have hjk:j<kk:=by
        rcases ux j kk with q | q | q
        ·exact q
        ·subst q;simp?
        ·have:=fR (hN.ri es (jL A0)) q hj;simp?
       rw [dz rfl]
       refine bE ?_
       rw?
       refine gV ?_
       rw?
       refine ⟨D,rfl,⟨_,aW.of eD⟩,?_⟩
       refine bY (xs:=[V.ref u0,V.ref u1,V.ref u2]) bL (fun H4 s4=>aW.of (s4 _ _ eD)) (by show 3≤1000000;decide) (fun j ys G=>ys=([V.ref x.1,V.ref y.1,V.ref z.1].take j)) rfl ?_ ?_
       ·rintro D2 q v ys H4 σ1 NN N0 h0 hD2 QN s4 hv hy rfl kY kN
        have hq3:q<3:=by have:=(fZ.mp hv).1;simpa using this
        have:q=0∨q=1∨q=2:=by simp?
        refine dG h0 ?_
        rw?
        refine bJ ?_
        rw?
        rcases this with rfl | rfl | rfl
        ·obtain rfl:V.ref u0=v:=by simpa using hv
         exact Xh (s4 _ _ g0') (kY _ H4 (aq.refl _) rfl)
        ·obtain rfl:V.ref u1=v:=by simpa using hv
         exact Xh (s4 _ _ g1') (kY _ H4 (aq.refl _) rfl)
        ·obtain rfl:V.ref u2=v:=by simpa using hv
         exact Xh (s4 _ _ g2') (kY _ H4 (aq.refl _) rfl)
       ·rintro D2 ys H4 nD2 QN s4 hy rfl
        exact ks es i j kk x y z (jL A0) ⟨hij,hjk,hk,ei,ej,ek⟩ hx hy' hz D2 H4 (s3.trans s4) QN
theorem qx:aE ["known","three","limit","at","found","stood","beyond"] ["known","three","limit","at"] (ah yw):=0#a
theorem LV (F:cH K "is_good" "is_good" yw f fd) (cN:Dn P w K mg base 1 "samples_of_three" ["known","three"] Ol) (cT:Dn P w K mg base 4 "loose_stand" ["one","mid","last"] sJ) (Kz:Dn P w K mg base 1 "size" ["one"] Hl) (dR:Dn P w K mg base 1 "order" ["one","other"] kX):bg P w K mg base cM 5 f fd ["known","three","limit","at"] Cr:=by
 refine F.ok qx 0#e 0#b
 ·obtain ⟨p,pl,t,ls,Rs,n,nb,β,at_,rfl,_⟩:=h
  rfl
 obtain ⟨p,pl,t,ls,Rs,n,nb,β,at_,rfl,hK,ht,K4,hN,hb,hn,hnb,k⟩:=h
 refine bD ⟨_,(au (aN 4 qx.nd (b9 cN hr 0#m 0#x)) (au (bK (bh BN (aa 4) dW (aD _)) (aG (aR lT)) bW) (au (aN 5 qx.nd (Jd.c1 Kz hr (Jd.c3 cT hr (cW K (aa 4)) (cW K (aa 4)) (cW K (aa 4))))) (au (aN 6 qx.nd (b9 dR hr (aa 5) (aa 2))) (aG (aR (Jd.lF (ic cY (aK K (aa 5)) aB (aD _)) (rG (Jd.NY (ic cY (aa 6) aB (aD _)) (rG (Jd.lF (aa 3) (rG (ic cI (aa 6) aB (aD _)))))))))))))),?_⟩
 rw?
 refine ⟨p,t,Rs,rfl,hK,ht,hN,fun hno H1 s1=>?_,fun es i j kk x y z hes yZ hx hy hz R H1 s1 eR=>?_⟩
 ·rw?
  refine ⟨rfl,?_⟩
  rw?
  refine bJ ?_
  rw?
  refine k false H1 s1 ⟨fun z=>absurd z 0#f,fun ⟨r,hr1,i,j,kk,yZ,_⟩=>absurd ⟨r,hr1,i,j,kk,yZ⟩ hno⟩
 have Lq:=yZ
 obtain ⟨h1,h2,h3,m1,m2,m3⟩:=yZ
 have cK:=hN.ri es hes
 obtain ⟨hR,hS⟩:=K4.of hes
 have hR1:=hR.up s1
 obtain ⟨x',hx',fx⟩:=dc hR1 hS (show i<es.length by simp?)
 obtain ⟨y',hy',fy⟩:=dc hR1 hS (show j<es.length by simp?)
 obtain ⟨z',hz',fz⟩:=dc hR1 hS h3
 rw [hx] at hx';cases hx'
 rw [hy] at hy';cases hy'
 rw [hz] at hz';cases hz'
 have hlt:=fR cK (show i<kk by simp?) h3
 have gd:Gd Rs β at_ t.2↔0<cP (sd es i j kk)∧(β<cP (sd es i j kk)∨(at_=true∧cP (sd es i j kk)=β)):=by
  constructor
  ·rintro ⟨r,hr1,a,b,c,RO,q⟩
   obtain rfl:=hN.T9 hes hr1 Lq RO
   obtain ⟨rfl,rfl,rfl⟩:=Spot.uniq cK Lq RO
   exact q
  ·exact fun q=>⟨es,hes,i,j,kk,Lq,q⟩
 rw?
 refine ⟨rfl,?_⟩
 rw?
 refine bE ?_
 rw?
 refine cG eR XS ?_
 rw?
 refine cG eR XT ?_
 rw?
 refine cG eR at2 ?_
 rw?
 refine ⟨x.1,y.1,z.1,_,_,_,_,_,_,n,rfl,fx,fy,fz,hlt,by simp?,fun st H2 s2 e2=>?_⟩
 rw?
 refine ⟨st,_,_,rfl,e2,fun sz H3 s3 e3=>?_⟩
 have e3:bV H3 sz (cP (sd es i j kk)) (7*n+7):=e3
 generalize cP (sd es i j kk)=S at e3 gd
 have Ey:=s2.trans s3
 rw?
 refine ⟨sz,pl,_,_,_,nb,rfl,e3,hb.up (s1.trans Ey),by simp?,fun o o1 o2=>?_⟩
 obtain ⟨a,b,es3,q3,_⟩:=e3
 have q3':=Tg q3
 have xH:=s1.trans Ey
 have fin:∀r:Bool,(r=true↔0<S∧(β<S∨(at_=true∧S=β)))→Q (.bl r) H3:=fun r hr=>k r H3 xH (hr.trans gd.symm)
 rw?
 by_cases c0:a>0
 ·rw [dz c0]
  refine bJ ?_
  rw?
  by_cases c1:o>0
  ·rw [dz c1]
   refine bJ ?_
   rw?
   exact fin true ⟨fun _=>⟨q3'.mp c0,.inl (o1.mp c1)⟩,fun _=>rfl⟩
  ·rw [gJ c1]
   refine bE ?_
   rw?
   have hle:¬β<S:=fun z=>c1 (o1.mpr z)
   cases at_ with
   | true=>
     refine bJ ?_
     rw?
     refine fin _ ?_
     rw [yQ]
     constructor
     ·intro z
      refine ⟨q3'.mp c0,.inr ⟨rfl,?_⟩⟩
      have:¬S<β:=fun z'=>by have:=o2.mpr z';simp?
      grind
     ·rintro ⟨_,z | ⟨_,z⟩⟩
      ·exact absurd z hle
      ·have n1:¬0<o:=c1
       have n2:¬o<0:=fun z'=>by have:=o2.mp z';grind
       simp?
   | false=>
     refine bE ?_
     rw?
     refine fin false ⟨fun z=>absurd z 0#f,fun ⟨_,z⟩=>?_⟩
     rcases z with z | ⟨z,_⟩
     ·exact absurd z hle
     ·cases z
 ·rw [gJ c0]
  refine bE ?_
  rw?
  exact fin false ⟨fun z=>absurd z 0#f,fun ⟨z,_⟩=>absurd (q3'.mpr z) c0⟩
theorem Oc:aE ["one","mid","last","above"] ["one","mid","last"] (ah Mx):=0#a
theorem WU (F:cH K "kind" "kind" Mx f fd) (cT:Dn P w K mg base 4 "loose_stand" ["one","mid","last"] sJ):bg P w K mg base cM 5 f fd ["one","mid","last"] MT:=by
 refine F.ok Oc 0#e 0#b
 ·obtain ⟨p1,p2,p3,t1,t2,t3,q1,q2,q3,n,rfl,_⟩:=h
  rfl
 obtain ⟨p1,p2,p3,t1,t2,t3,q1,q2,q3,n,rfl,h1,h2,h3,ht,hn,k⟩:=h
 refine bD ⟨_,(au (aN 3 Oc.nd (aK K (Jd.c3 cT hr 0#m 0#x (aa 2)))) (au (bK (bh cY (aa 3) aB (aD _)) (aG (aR kP)) bW) (au (bK (bh lU (aa 3) aB (aD _)) (aG (aR kP)) bW) (aG (aR kP))))),?_⟩
 rw?
 refine ⟨p1,p2,p3,t1,t2,t3,q1,q2,q3,n,rfl,h1,h2,h3,ht,by simp?,fun x H1 s1 e1=>?_⟩
 obtain ⟨a,b,ex,hq,za,zb⟩:=e1
 have c1:=Tg hq
 have c2:=aby hq
 have k1:=k H1 s1
 unfold knd at k1
 rw?
 refine cu (fun c=>?_) (fun c=>?_)
 ·rw?
  rw [if_pos (c1.mp (c6 c))] at k1
  exact k1
 ·have n1:=jw (iU.mpr c)
  rw [if_neg (fun z=>n1 (c1.mpr z))] at k1
  rw?
  refine cu (fun c=>?_) (fun c=>?_)
  ·rw?
   rw [if_pos (c2.mp (c6 c))] at k1
   exact k1
  ·have n2:=jw (iU.mpr c)
   rw?
   rw [if_neg (fun z=>n2 (c2.mpr z))] at k1
   exact k1
theorem Ca:aE ["known","three","found"] ["known","three"] (ah yy):=0#a
theorem LW (F:cH K "kind_of" "kind_of" yy f fd) (cN:Dn P w K mg base 1 "samples_of_three" ["known","three"] Ol) (Kw:Dn P w K mg base 5 "kind" ["one","mid","last"] MT):bg P w K mg base cM 6 f fd ["known","three"] Cs:=by
 refine F.ok Ca 0#e 0#b
 ·obtain ⟨p,t,ls,Rs,n,rfl,_⟩:=h
  rfl
 obtain ⟨p,t,ls,Rs,n,rfl,hK,ht,K4,hN,hn,⟨r0,hr0,i0,j0,k0,sp0,ne0⟩,k⟩:=h
 refine bD ⟨_,(au (aN 2 Ca.nd (b9 cN hr 0#m 0#x)) (aG (aR (Jd.c3 Kw hr (cW K (aa 2)) (cW K (aa 2)) (cW K (aa 2)))))),?_⟩
 rw?
 refine ⟨p,t,Rs,rfl,hK,ht,hN,fun hno=>absurd ⟨r0,hr0,i0,j0,k0,sp0⟩ hno,fun es i j kk x y z hes yZ hx hy hz R H1 s1 eR=>?_⟩
 obtain rfl:=hN.T9 hr0 hes sp0 yZ
 have cK:=hN.ri r0 hes
 obtain ⟨rfl,rfl,rfl⟩:=Spot.uniq cK sp0 yZ
 have Lq:=yZ
 obtain ⟨h1,h2,h3,m1,m2,m3⟩:=yZ
 obtain ⟨hR,hS⟩:=K4.of hes
 have hR1:=hR.up s1
 obtain ⟨x',hx',fx⟩:=dc hR1 hS (show i0<r0.length by simp?)
 obtain ⟨y',hy',fy⟩:=dc hR1 hS (show j0<r0.length by simp?)
 obtain ⟨z',hz',fz⟩:=dc hR1 hS h3
 rw [hx] at hx';cases hx'
 rw [hy] at hy';cases hy'
 rw [hz] at hz';cases hz'
 have hlt:=fR cK (show i0<k0 by simp?) h3
 rw?
 refine cG eR XS ?_
 rw?
 refine cG eR XT ?_
 rw?
 refine cG eR at2 ?_
 rw?
 refine ⟨x.1,y.1,z.1,_,_,_,_,_,_,n,rfl,fx,fy,fz,hlt,hn,fun H2 s2=>?_⟩
 have kk:=k H2 (s1.trans s2)
 have cap:XJ Rs t.2↔0<sd r0 i0 j0 k0:=by
  constructor
  ·rintro ⟨r,hr1,a,b,c,RO,q⟩
   obtain rfl:=hN.T9 hes hr1 Lq RO
   obtain ⟨rfl,rfl,rfl⟩:=Spot.uniq cK Lq RO
   exact q
  ·exact fun q=>⟨r0,hes,i0,j0,k0,Lq,q⟩
 show Q (.str (knd (sd r0 i0 j0 k0))) H2
 unfold knd
 by_cases c:0<sd r0 i0 j0 k0
 ·rw [if_pos c]
  exact kk.1 (cap.mpr c)
 ·rw [if_neg c,if_pos (by grind)]
  exact kk.2 (fun z=>c (cap.mp z))
theorem G2:aE ["threes"] ["threes"] (ah sq):=0#a
theorem Gi (F:cH K "lie_apart" "lie_apart" sq f fd) (T:Txt mg):bg P w K mg base cM 1 f fd ["threes"] T4:=by
 refine F.ok G2 0#e 0#b
 ·obtain ⟨l,ts,rfl,_⟩:=h
  rfl
 obtain ⟨l,ts,rfl,hl,hT,hn,k⟩:=h
 have mQ:=hr.units
 refine bD ⟨_,(aG (aR (fj (aak K rfl) rfl T.aal Uz (cO (jA (O:=["three","behind"]) (N':=[]) (cap:=[]) rfl (Jd.u7 K rfl T.Up (bT 0#m (jj (EB K) 0#m (jl aB) jk))) (fun _ _ _ _ _=>(Jd.Qo K (n:=2) rfl (d8 (bQ (i:=0) (show iN [("three":Str),("behind":Str)] by decide +kernel) rfl 0#n) (d8 (bQ (i:=1) (show iN [("three":Str),("behind":Str)] by decide +kernel) rfl 0#n) o6)))) (fun _ _ _ _ _=>jn) (fun _ _ _ _ _=>(ic vY (cy (HH K) 0#x aB 0#o) (cy (HH K) 0#m aB 0#o) (aD _))) rfl trivial rfl 0#g rfl 0#g)) (he:=ab2) (hpl:=bS)))),?_⟩
 rw?
 refine Jv ?_
 rw?
 refine ⟨_,rfl,1,rfl,l,_,rfl,aW.of hl,fun P1 nP1=>?_⟩
 rw [KN]
 have s3:aq H (upd H P1 (.lst ((kc ts).drop 1))):=bw (aq.refl _) nP1
 have e3:upd H P1 (.lst ((kc ts).drop 1)) P1=some (.lst ((kc ts).drop 1)):=av
 generalize upd H P1 (.lst ((kc ts).drop 1))=H3 at *
 rw?
 refine ⟨l,P1,_,_,rfl,aW.of (s3 _ _ hl),aW.of e3,?_⟩
 refine oZ (E7:=ts.length-1) (by rw [bq];try?) (by rw [jO,bq];try?) (.inr (by rw [jO,bq];try?)) (fun H9 s9=>⟨aW.of ((s3.trans s9) _ _ hl),aW.of (s9 _ _ e3)⟩) 0#d (fun c ys G=>ys=Vw ((kq c).map (lq (ts.map (·.2))))) rfl ?_ ?_
 ·rintro D c v v' ys H9 tE pp ly NN N0 hh0 hD eD s9 qK V5 hc hv hv' hy rfl kY kN
  obtain ⟨x,gx,rfl⟩:=yO hv
  rw [um,CS] at hv'
  obtain ⟨x',QV,rfl⟩:=yO hv'
  have Jz:=s3.trans (s9.trans qK)
  have ex:tE x.1=some (.tup [.int x.2.1,.int x.2.2.1,.int x.2.2.2]):=Jz _ _ (hT x (jL gx))
  have ex':tE x'.1=some (.tup [.int x'.2.1,.int x'.2.2.1,.int x'.2.2.2]):=Jz _ _ (hT x' (jL QV))
  have el:lq (ts.map (·.2)) c=decide (x'.2.1≥x.2.2.2):=by
   unfold lq
   rw [EH,EH,jQ,jQ,gx,QV]
   rfl
  refine BW hh0 V5 ?_
  rw?
  refine bJ ?_
  rw?
  refine kY _ tE (aq.refl _) ?_
  rw [uy,ju]
  unfold Vw
  rw [ju,qU,qU,el]
  rfl
 rintro D ys H4 hD eD s4 hy rfl
 rw?
 refine N7 eD ?_
 have k4:=k H4 (s3.trans s4)
 rw [← WD,eV] at k4
 rw?
 exact k4
end
def kst (b:Bool):Str:=if b then "cap" else "cup"
theorem abd (a b:Bool):decide (kst a=kst b)=(a==b):=by cases a <;> cases b <;> decide +kernel
def sel (Rs:List (List En)) (ts:List T3) (i:Nat):List T3:=ts.filter fun t=>gD Rs t.2==(i==0)
theorem af6:(ts.map (·.2)).filter (gD Rs)=(sel Rs ts 0).map (·.2):=by
 unfold sel
 rw [J8]
 congr 1
 exact J2 fun x _=>by show gD Rs x.2=(gD Rs x.2==true);cases gD Rs x.2 <;> rfl
theorem af7:((ts.map (·.2)).filter fun t=>!gD Rs t)=(sel Rs ts 1).map (·.2):=by
 unfold sel
 rw [J8]
 congr 1
 exact J2 fun x _=>by show (!gD Rs x.2)=(gD Rs x.2==false);cases gD Rs x.2 <;> rfl
theorem uw (hc:decide (a=b)=c) (q:Q (.bl c) H):rEq (.str a) (.str b) H Q:=⟨rfl,by
 rw [show decide (V.str a=V.str b)=c from hc▸CL.mpr ⟨fun h=>V.str.inj h,fun h=>congrArg V.str h⟩]
 exact q⟩
section
theorem ck:aE ["row","way","bound","paper","at","found","known","limit","lists","kinds"] ["row","way","bound","paper","at"] (ah jb):=0#a
theorem tZ (F:cH K "pieces_by_threes" "pieces_by_threes" jb f fd) (T:Txt mg) (qb:Dn P w K mg base 1 "runs" ["row"] Cw) (uH:Dn P w K mg base 1 "known_of" ["found"] Ct) (bP:Dn P w K mg base 1 "loose_plus" ["one","other"] (jH (·+·) 1)) (xM:Dn P w K mg base 5 "is_good" ["known","three","limit","at"] Cr) (xN:Dn P w K mg base 6 "kind_of" ["known","three"] Cs) (rq:Dn P w K mg base 1 "lie_apart" ["threes"] T4):bg P w K mg base cM 7 f fd ["row","way","bound","paper","at"] T8:=by
 refine F.ok ck 0#e 0#b
 ·obtain ⟨l,pb,Z,ts,es,n,nb,β,jo,at_,rfl,_⟩:=h
  rfl
 obtain ⟨l,pb,Z,ts,es,n,nb,β,jo,at_,rfl,hl,hR,cK,Kn,hb,hn,hnb,hZ,hT,hts,k⟩:=h
 have mQ:=hr.units
 refine bD ⟨_,(au (aN 5 ck.nd (Jd.c1 qb hr 0#m)) (au (nO (i:=6) ck.nd rfl (Or.inr rfl) (Jd.c1 uH hr (aa 5)) (hs:=fL)) (au (nO (i:=7) ck.nd rfl (Or.inr rfl) (b9 bP hr (aa 2) (aa 2)) (hs:=fL)) (au (bK (Jd.qi (o7 (fj (aak K rfl) rfl T.aal Uz (cO (jA (O:=["three"]) (N':=["known","limit" ,"at" ]) (cap:=[6,7,4]) rfl (gU K (aa 3)) (fun _ _ _ _ _=>(bQ (i:=0) (show iN [("three":Str),("known":Str),("limit":Str),("at":Str)] by decide +kernel) rfl 0#n)) (fun _ _ _ _ _=>jn) (fun _ _ _ _ _=>(d9 xM 0#A rfl (bX 0#x (bX 0#m (bX (aa 2) (bX (aa 3) gc aP) aP) aP) aP) (he:=aP) (hpl:=(bB aP (bB aP (bB aP bS)))))) rfl ⟨⟨rfl,rfl,rfl,rfl⟩,⟨⟨rfl,rfl,rfl,rfl⟩,0#u⟩⟩ rfl 0#g rfl 0#g)) (he:=ab2) (hpl:=bS)))) (aG (aR dW)) bW) (au (bK (bh cI 0#x kP (aD _)) (aG (aN 8 ck.nd (dP (cO (aa 3))))) (au (nO (i:=9) ck.nd rfl (Or.inr rfl) (jA (O:=["three"]) (N':=["known"]) (cap:=[6]) rfl (gU K (aa 3)) (fun _ _ _ _ _=>(bQ (i:=0) (show iN [("three":Str),("known":Str)] by decide +kernel) rfl 0#n)) (fun _ _ _ _ _=>jn) (fun _ _ _ _ _=>(d9 xN 0#A rfl (bX 0#x (bX 0#m gc aP) aP) (he:=aP) (hpl:=(bB aP bS)))) rfl 0#u rfl 0#g rfl 0#g)) (aG (Jd.BR (O:=["one"]) (N':=["paper","kinds" ]) (cap:=[3,9]) "one" (i:=8) ck.nd rfl 0#n rfl (Jd.piT K (bR (bT kP kP))) (fun _ _ _ _ _=>(bQ (i:=0) (show iN [("one":Str),("paper":Str),("kinds":Str)] by decide +kernel) rfl (Or.inr rfl))) (fun _ _ _ _ _=>jn) (fun _ _ _ _ _=>(jA (O:=["three","told"]) (N':=["one"]) (cap:=[0]) rfl (Jd.u7 K rfl T.Up (bX 0#x (bX (aa 2) gc aP) aP)) (fun _ _ _ _ _=>(Jd.Qo K (n:=2) rfl (d8 (bQ (i:=0) (show iN [("three":Str),("told":Str),("one":Str)] by decide +kernel) rfl 0#n) (d8 (bQ (i:=1) (show iN [("three":Str),("told":Str),("one":Str)] by decide +kernel) rfl 0#n) o6)))) (fun _ _ _ _ _=>(Jd.kG (bh cI 0#x (aa 2) (aD _)))) (fun _ _ _ _ _=>0#m) rfl 0#u rfl 0#g rfl 0#g)) rfl ⟨⟨rfl,rfl,rfl,rfl⟩,0#u⟩ rfl rfl 0#g rfl 0#g (by rfl))))) (au (bK (Jd.qi (o7 (fj (aak K rfl) rfl T.aal Uz (cO (jA (O:=["threes"]) (N':=[]) (cap:=[]) rfl (gU K (aa 8)) (fun _ _ _ _ _=>(bQ (i:=0) (show iN [("threes":Str)] by decide +kernel) rfl 0#n)) (fun _ _ _ _ _=>jn) (fun _ _ _ _ _=>(d9 rq 0#A rfl (bX 0#m gc aP) (he:=aP) (hpl:=bS))) rfl trivial rfl 0#g rfl 0#g)) (he:=ab2) (hpl:=bS)))) (aG (aR dW)) bW) (aG (aR (aJ bO (cR K T.gA (aa 5)) (cR K T.gA (aa 3))))))))))),?_⟩
 rw?
 refine ⟨l,es,n,rfl,hl,hR,by simp?,fun F ls H1 s1 Ed hmap hlen R7=>?_⟩
 have K4:qd H1 (ls.map (·.1)) (parts gY es es.length) n:=by
  rw [← hmap]
  refine ⟨by rw [eV,eV],fun a l' r hl' hr'=>?_⟩
  rw [jQ] at hl' hr'
  obtain ⟨x,hx,rfl⟩:=oU.mp hl'
  rw [hx] at hr'
  cases hr'
  have hxm:=jL hx
  have hm:x.2∈parts gY es es.length:=by rw [← hmap];exact eU.mpr ⟨x,hxm,rfl⟩
  obtain ⟨_,o2,o3⟩:=iB _ _ hm
  exact ⟨(Ed.each x hxm).2.1,fun y hy=>(hR.up s1) y (UA (o3.subset hy)),o2⟩
 have hN:=Tu cK Kn
 have eF:H1 F=some (.lst ((ls.map (·.1)).map V.ref)):=by rw [nC];exact Ed.at_
 have hlR:ls.length=(parts gY es es.length).length:=by rw [← hmap,eV]
 generalize parts gY es es.length=Rs at *
 rw?
 refine ⟨F,ls.map (·.1),Rs,n,rfl,eF,K4,hN,fun p H2 s2 np hK=>?_⟩
 rw?
 have eB:=s1.trans s2
 refine ⟨pb,pb,β,β,nb,nb,rfl,hb.up eB,hb.up eB,by simp?,fun pl H3 s3 e3=>?_⟩
 have xH:=eB.trans s3
 have hK3:=hK.up s3
 have acN:=K4.up (s2.trans s3)
 have NC:=hT.up xH
 have hZ3:=xH _ _ hZ
 have eF3:=(s2.trans s3) _ _ eF
 rw?
 refine gV ?_
 rw?
 refine ⟨Z,rfl,⟨_,aW.of hZ3⟩,?_⟩
 refine bY (xs:=kc ts) bL (fun H4 s4=>aW.of (s4 _ _ hZ3)) (by rw [bq];simp?) (fun c ys G=>ys=Vw ((ts.take c).map fun t=>gdB Rs (β+β) at_ t.2)) rfl ?_ ?_
 ·rintro D j v ys H4 σ1 NN N0 g0 hD eD s4 hv hy rfl kY kN
  obtain ⟨x,gx,rfl⟩:=yO hv
  refine dG g0 ?_
  rw?
  refine bJ ?_
  rw?
  refine ⟨p,pl,x,_,Rs,n,_,β+β,at_,rfl,hK3.up s4,s4 _ _ (NC x (jL gx)),acN.up s4,hN,e3.up s4,hn,by simp?,fun r H5 s5 hr5=>?_⟩
  refine kY _ H5 s5 ?_
  rw [qO,gx,ju,aaN hr5]
  unfold Vw
  rw [ju]
  rfl
 rintro D ys H4 hD eD s4 hy rfl
 rw [bq,iV] at eD
 rw?
 refine N7 eD ?_
 have yr:=xH.trans s4
 have hK4:=hK3.up s4
 have afj:=acN.up s4
 have hT4:=NC.up s4
 have hZ4:=s4 _ _ hZ3
 have eF4:=s4 _ _ eF3
 have acy:((ts.map fun t=>gdB Rs (β+β) at_ t.2).all id=true)↔∀t∈ts.map (·.2),Gd Rs (β+β) at_ t:=by
  rw [UY]
  constructor
  ·intro h t ht
   obtain ⟨x,hx,rfl⟩:=eU.mp ht
   have:=h _ (eU.mpr ⟨x,hx,rfl⟩)
   exact (@yQ _ (sV _)).mp this
  ·intro h b hb'
   obtain ⟨x,hx,rfl⟩:=eU.mp hb'
   exact (@yQ _ (sV _)).mpr (h _ (eU.mpr ⟨x,hx,rfl⟩))
 cases hb1:(ts.map fun t=>gdB Rs (β+β) at_ t.2).all id with
 | false=>
   have no:¬Nc Rs (β+β) jo at_ (ts.map (·.2)):=fun z=>by
    have:=acy.mpr z.1
    rw [hb1] at this
    cases this
   refine ⟨_,rfl,?_⟩
   refine bJ ?_
   rw?
   have k4:=k H4 yr
   unfold Ez at k4
   rw [if_neg no] at k4
   exact k4
 | true=>
   have good:=acy.mp hb1
   refine ⟨_,rfl,?_⟩
   refine bE ?_
   rw?
    -- what is left, once the lists are laid
   cases jo with
   | false=>
     refine uw (c:=true) 0#g ?_
     refine ⟨_,rfl,?_⟩
     refine bJ ?_
     rw?
     refine aF (mk:=.lst) 0#f fun LL H5 s5 n5 e5=>?_
     have Mu:=yr.trans s5
     rw?
     refine gV ?_
     rw?
     refine ⟨LL,rfl,⟨_,aW.of e5⟩,?_⟩
     refine bY (xs:=[V.ref Z]) bL (fun H6 s6=>aW.of (s6 _ _ e5)) (by show 1≤1000000;decide) (fun c ys G=>ys=Vw ((kq c).map fun _=>decide (tS (ts.map (·.2))))) rfl ?_ ?_
     ·rintro D2 j v ys H6 σ1 NN N0 g0 hD2 QN s6 hv hy rfl kY kN
      obtain rfl:j=0:=by
       have:=(fZ.mp hv).1
       simp at this
       exact this
      obtain rfl:v=.ref Z:=by simpa using hv.symm
      refine dG g0 ?_
      rw?
      refine bJ ?_
      rw?
      refine ⟨Z,ts,rfl,(s5.trans s6) _ _ hZ4,hT4.up (s5.trans s6),hts,fun H7 s7=>?_⟩
      exact kY _ H7 s7 rfl
     rintro D2 ys H6 hD2 QN s6 hy rfl
     rw?
     refine N7 QN ?_
     have Ko:=Mu.trans s6
     have k6:=k H6 Ko
     unfold Ez at k6
     cases hb2:((kq [V.ref Z].length).map fun _=>decide (tS (ts.map (·.2)))).all id with
     | false=>
       have nl:¬tS (ts.map (·.2)):=fun z=>by
        rw [dz z] at hb2
        cases hb2
       refine ⟨_,rfl,?_⟩
       refine bJ ?_
       rw?
       rw [if_neg (fun z=>nl z.2)] at k6
       exact k6
     | true=>
       have yl:tS (ts.map (·.2)):=EI fun z=>by
        rw [gJ z] at hb2
        cases hb2
       refine ⟨_,rfl,?_⟩
       refine bE ?_
       rw?
       refine cE (.inl (aW.of ((s5.trans s6) _ _ eF4))) ?_
       rw?
       refine cE (.inl (aW.of ((s5.trans s6) _ _ hZ4))) ?_
       rw?
       rw [if_pos (show Nc Rs (β+β) false at_ (ts.map (·.2)) from ⟨good,yl⟩)] at k6
       rw [eV,eV,bq,hlR]
       rw [eV] at k6
       exact k6
   | true=>
     refine uw (c:=false) 0#g ?_
     refine ⟨_,rfl,?_⟩
     refine bE ?_
     rw?
     refine gV ?_
     rw?
     refine ⟨Z,rfl,⟨_,aW.of hZ4⟩,?_⟩
     refine bY (xs:=kc ts) bL (fun H5 s5=>aW.of (s5 _ _ hZ4)) (by rw [bq];simp?) (fun c ys G=>ys=(ts.take c).map fun t=>V.str (kst (gD Rs t.2))) rfl ?_ ?_
     ·rintro D2 j v ys H5 σ1 NN N0 g0 hD2 QN s5 hv hy rfl kY kN
      obtain ⟨x,gx,rfl⟩:=yO hv
      have hxm:=jL gx
      obtain ⟨r,hr1,i',j',k',sp,pos',_⟩:=good x.2 (eU.mpr ⟨x,hxm,rfl⟩)
      refine dG g0 ?_
      rw?
      refine bJ ?_
      rw?
      refine ⟨p,x,_,Rs,n,rfl,hK4.up s5,s5 _ _ (hT4 x hxm),afj.up s5,hN,hn,⟨r,hr1,i',j',k',sp,fun z=>by rw [z] at pos';simp [cP] at pos'⟩,fun H6 s6=>⟨fun c=>?_,fun c=>?_⟩⟩
      ·refine kY _ H6 s6 ?_
       rw [qO,gx,ju]
       have:gD Rs x.2=true:=@dz _ (sV _) c
       show _=_++[V.str (kst (gD Rs x.2))]
       rw [this]
       rfl
      ·refine kY _ H6 s6 ?_
       rw [qO,gx,ju]
       have:gD Rs x.2=false:=@gJ _ (sV _) c
       show _=_++[V.str (kst (gD Rs x.2))]
       rw [this]
       rfl
     rintro KD ys H5 nKD eKD s5 hy rfl
     rw [bq,iV] at eKD
     have Mu:=yr.trans s5
     have hZ5:=s5 _ _ hZ4
     have hT5:=hT4.up s5
     rw?
     refine Xg ?_
     rw?
     refine aF (mk:=.tup) 0#f fun TP H6 s6 n6 e6=>?_
     have hZ6:=s6 _ _ hZ5
     have afd:=s6 _ _ eKD
     rw?
     refine ⟨TP,rfl,⟨_,nI.of e6⟩,?_⟩
     refine bY (xs:=[V.str "cap",V.str "cup"]) tR (fun H7 s7=>nI.of (s7 _ _ e6)) (by show 2≤1000000;decide) (fun c ys G=>∃As:List ao,ys=As.map V.ref∧As.length=c∧∀(i:Nat) A,As[i]?=some A→G A=some (.lst (kc (sel Rs ts i)))) ⟨[],rfl,rfl,fun i A h=>by simp at h⟩ ?_ ?_
     ·rintro D2 j v ys H7 σ1 NN N0 g0 hD2 QN s7 hv hy ⟨As,rfl,hAl,hAs⟩ kY kN
      have hv:v=.str (kst (j==0)):=by
       match j,hv with
       | 0,hv=>exact (lQ hv).symm
       | 1,hv=>exact (lQ hv).symm
       | j+2,hv=>simp at hv
      subst hv
      have hZ7:=s7 _ _ hZ6
      have acF:=s7 _ _ afd
      refine dG g0 ?_
      rw?
      refine bJ ?_
      rw?
      refine Jv ?_
      rw?
      refine ⟨Z,KD,_,_,rfl,aW.of hZ7,aW.of acF,?_⟩
      refine oZ (E7:=ts.length) (by rw [bq];exact dm _) (by rw [eV];exact dm _) (.inl (by rw [bq];exact dm _)) (fun H9 s9=>⟨aW.of (s9 _ _ hZ7),aW.of (s9 _ _ acF)⟩) 0#c (fun c ys G=>ys=kc (sel Rs (ts.take c) j)) rfl ?_ ?_
      ·rintro D3 c v v' us H9 tE pp ly NN2 N02 hh0 hD3 eD3 s9 qK V5 hc hv hv' hy rfl kY2 kN2
       obtain ⟨x,gx,rfl⟩:=yO hv
       rw [jQ,gx] at hv'
       obtain rfl:V.str (kst (gD Rs x.2))=v':=lQ hv'
       have tk:sel Rs (ts.take (c+1)) j=sel Rs (ts.take c) j++sel Rs [x] j:=by
        unfold sel
        rw [qO,gx,DR]
        rfl
       have t1:sel Rs [x] j=if (gD Rs x.2==(j==0))=true then [x] else []:=by
        unfold sel
        rw [C5]
        rfl
       refine BW hh0 V5 ?_
       rw?
       refine uw (c:=gD Rs x.2==(j==0)) (abd _ _) ?_
       refine ⟨_,rfl,?_⟩
       cases hcc:gD Rs x.2==(j==0) with
       | false=>
         refine bE ?_
         refine kN2 tE (aq.refl _) ?_
         rw [tk,t1,hcc,if_neg eO,yS]
       | true=>
         refine bJ ?_
         rw?
         refine kY2 _ tE (aq.refl _) ?_
         rw [tk,t1,hcc,if_pos rfl]
         unfold kc
         rw [ju]
         rfl
      rintro D3 us H8 nD3 eD3 s8 hy rfl
      rw [iV] at eD3
      have ne:D3≠D2:=fun z=>by rw [z,QN] at nD3;cases nD3
      refine kY _ H8 s8 ⟨As++[D3],by rw [ju];rfl,by rw [cJ,hAl];rfl,fun i A hA=>?_⟩
      by_cases hi:i<As.length
      ·rw [kZ hi] at hA
       exact (wD s8) _ _ (hAs i A hA)
      ·have hi2:i=As.length:=by
        have:=(fZ.mp hA).1
        rw [cJ] at this
        simp only [iu,kh] at this
        simp?
       subst hi2
       rw [pR (dm _),CU] at hA
       obtain rfl:D3=A:=lQ hA
       rw [mW ne,hAl]
       exact eD3
     rintro LL ys H7 nLL eLL s7 hy ⟨As,rfl,hAl,hAs⟩
     have s57:=s6.trans s7
     have Yo:=Mu.trans s57
     have hT7:=hT5.up s57
     have hAl:As.length=2:=hAl
     rw?
     refine gV ?_
     rw?
     refine ⟨LL,rfl,⟨_,aW.of eLL⟩,?_⟩
     refine bY (xs:=As.map V.ref) bL (fun H8 s8=>aW.of (s8 _ _ eLL)) (by rw [eV,hAl];decide) (fun c ys G=>ys=Vw ((kq c).map fun i=>decide (tS ((sel Rs ts i).map (·.2))))) rfl ?_ ?_
     ·rintro D2 j v ys H8 σ1 NN N0 g0 hD2 QN s8 hv hy rfl kY kN
      rw [jQ] at hv
      obtain ⟨A,hA,rfl⟩:=oU.mp hv
      refine dG g0 ?_
      rw?
      refine bJ ?_
      rw?
      refine ⟨A,sel Rs ts j,rfl,s8 _ _ (iZ _ _ (hAs j A hA)),fun x hx=>(hT7.up s8) x (vG.mp hx).1,dI (CH ..) hts,fun H9 s9=>?_⟩
      refine kY _ H9 s9 ?_
      rw [uy,ju]
      unfold Vw
      rw [ju]
      rfl
     rintro D2 ys H8 hD2 QN s8 hy rfl
     rw [eV,hAl] at QN
     rw?
     refine N7 QN ?_
     have Tz:=Yo.trans s8
     have k8:=k H8 Tz
     unfold Ez at k8
     have two:(((kq 2).map fun i=>decide (tS ((sel Rs ts i).map (·.2)))).all id=true)↔tS ((ts.map (·.2)).filter (gD Rs))∧tS ((ts.map (·.2)).filter fun t=>!gD Rs t):=by
      rw [af6,af7]
      show ((decide (tS ((sel Rs ts 0).map (·.2))))&&((decide (tS ((sel Rs ts 1).map (·.2))))&&true))=true↔_
      rw [Bool.and_true,vF,yQ,yQ]
     cases hb2:((kq 2).map fun i=>decide (tS ((sel Rs ts i).map (·.2)))).all id with
     | false=>
       refine ⟨_,rfl,?_⟩
       refine bJ ?_
       rw?
       rw [if_neg (fun z=>by have:=two.mpr z.2;rw [hb2] at this;cases this)] at k8
       exact k8
     | true=>
       refine ⟨_,rfl,?_⟩
       refine bE ?_
       rw?
       refine cE (.inl (aW.of ((s5.trans (s57.trans s8)) _ _ eF4))) ?_
       rw?
       refine cE (.inl (aW.of ((s57.trans s8) _ _ hZ5))) ?_
       rw?
       rw [if_pos (show Nc Rs (β+β) true at_ (ts.map (·.2)) from ⟨good,two.mp hb2⟩)] at k8
       rw [eV,eV,bq,hlR]
       rw [eV] at k8
       exact k8
end
def Xs (num:Int):Option Int→Bool
 | none=>false
 | some m=>decide (m≥num)
inductive qA (vs:List V) (H:Hp) (Q:VK) (E_:XK):Prop where
 | mk (l pb Z:ao) (ts:List T3) (es:List En) (n nb:Nat) (β:Rat) (jo at_:Bool) (num:Int):vs=[.ref l,.str (kg jo),.ref pb,.int num,.ref Z,.bl at_]→H l=some (.lst (vals es))→Row H es n→rising es→es.length≤20→bV H pb β nb→n≤900→nb≤400→H Z=some (.lst (kc ts))→lX H ts→ts.length≤900→(∀H',aq H H'→Q (.bl (Xs num (Ez (parts gY es es.length) (β+β) jo at_ (ts.map (·.2))))) H')→qA vs H Q E_
section
theorem JC:aE ["row","way","bound","number","paper","at","shown"] ["row","way","bound","number","paper","at"] (ah GS):=0#a
theorem Jl (F:E5 K "shows" "shows" GS f fd (.bool false)) (gw:Dn P w K mg base 7 "pieces_by_threes" ["row","way","bound","paper","at"] T8):bg P w K mg base cM 8 f fd ["row","way","bound","number","paper","at"] qA:=by
 refine F.ok JC 0#e 0#b
 ·obtain ⟨l,pb,Z,ts,es,n,nb,β,jo,at_,num,rfl,_⟩:=h
  rfl
 obtain ⟨l,pb,Z,ts,es,n,nb,β,jo,at_,num,rfl,hl,hR,cK,Kn,hb,hn,hnb,hZ,hT,hts,k⟩:=h
 refine bD (Jd.cut 1 (fun σ H'=>σ=[some (.ref l),some (.str (kg jo)),some (.ref pb),some (.int num),some (.ref Z),some (.bl at_),some (KQ (Ez (parts gY es es.length) (β+β) jo at_ (ts.map (·.2))))]∧aq H H') ?_ fun u hu Wg=>?_)
 ·refine ⟨_,(aG (aR (Jd.lF (ic iY (aa 6) dW (aD _)) (rG (ic vY (aa 6) (aa 3) (aD _)))))),?_⟩
  rintro σ H1 ⟨rfl,s1⟩
  have kk:=k H1 s1
  rw?
  cases hq:Ez (parts gY es es.length) (β+β) jo at_ (ts.map (·.2)) with
  | none=>
    rw [hq] at kk
    refine ⟨rfl,?_⟩
    rw?
    refine bE ?_
    exact kk
  | some m=>
    rw [hq] at kk
    refine ⟨rfl,?_⟩
    rw?
    refine bJ ?_
    dsimp only [KQ]
    rw?
    exact kk
 refine ⟨_,(au (bK (jR (Jd.nQ (bh cI 0#x kP (aD _)) (Jd.lG (bh cI 0#x kP (aD _))))) (aG Jd.jD) (aG (aN 6 JC.nd (d9 gw 0#A rfl (bX 0#m (Jd.a4 0#x (aa 2) (aa 4) (aa 5)) aP) (he:=aP) (hpl:=(bB aP (bB aP (bB aP (bB aP bS))))))))) hu),?_⟩
 rw?
 refine uw (c:=false) (by cases jo <;> decide +kernel) ?_
 refine ⟨_,rfl,?_⟩
 refine bE ?_
 rw?
 refine uw (c:=false) (by cases jo <;> decide +kernel) ?_
 refine ⟨_,rfl,?_⟩
 refine bE ?_
 rw?
 exact ⟨l,pb,Z,ts,es,n,nb,β,jo,at_,rfl,hl,hR,cK,Kn,hb,hn,hnb,hZ,hT,hts,fun H' s'=>Wg _ _ ⟨rfl,s'⟩⟩
end
theorem EC {α:Type} {f:α→Int}:∀{l l':List α},l.Pairwise (fun a b=>f a<f b)→l'.Pairwise (fun a b=>f a<f b)→(∀x,x∈l↔x∈l')→l=l'
 | [],[],_,_,_=>rfl
 | [],b::u,_,_,h=>absurd ((h b).mpr (xB ..)) 0#f
 | a::t,[],_,_,h=>absurd ((h a).mp (xB ..)) 0#f
 | a::t,b::u,h1,h2,h=>by
   obtain ⟨a1,a2⟩:=CK.mp h1
   obtain ⟨b1,b2⟩:=CK.mp h2
   have ha:=(h a).mp (xB ..)
   have hb:=(h b).mpr (xB ..)
   have e:a=b:=by
    rcases lg.mp ha with z | z
    ·exact z
    ·rcases lg.mp hb with y | y
     ·exact y.symm
     ·have:=a1 b y
      have:=b1 a z
      try?
   subst e
   rw [EC a2 b2 fun x=>?_]
   constructor
   ·intro hx
    rcases lg.mp ((h x).mp (vE _ hx)) with z | z
    ·have:=a1 x hx
     rw [z] at this
     exact absurd this (ZP _)
    ·exact z
   ·intro hx
    rcases lg.mp ((h x).mpr (vE _ hx)) with z | z
    ·have:=b1 x hx
     rw [z] at this
     exact absurd this (ZP _)
    ·exact z
theorem rM (h:gB hs)  (hx:x∈hs) (hy:y∈hs) (e:x.2.1=y.2.1):x=y:=by
 obtain ⟨i,hi,rfl⟩:=UG hx
 obtain ⟨j,hj,rfl⟩:=UG hy
 rcases ux i j with z | z | z
 ·have:=Kh.mp h i j hi hj z
  try?
 ·subst z;rfl
 ·have:=Kh.mp h j i hj hi z
  try?
def Sq (a b c:Int) (x:Nn):Bool:=decide (x.2.1=a)||(decide (x.2.1=b)||decide (x.2.1=c))
theorem WK:Sq a b c x=true↔x.2.1=a∨x.2.1=b∨x.2.1=c:=by
 unfold Sq
 simp
theorem Qy (h:gB hs) {i:Nat} (hij:i<j) (hjk:j<k) (gx:hs[i]?=some x) (gy:hs[j]?=some y) (gz:hs[k]?=some z):hs.filter (Sq x.2.1 y.2.1 z.2.1)=[x,y,z]:=by
 have mx:=jL gx
 have my:=jL gy
 have mz:=jL gz
 obtain ⟨hi,ex⟩:=fZ.mp gx
 obtain ⟨hj,ey⟩:=fZ.mp gy
 obtain ⟨hk,ez⟩:=fZ.mp gz
 have l1:=Kh.mp h i j hi hj hij
 have l2:=Kh.mp h j k hj hk hjk
 rw [ex,ey] at l1
 rw [ey,ez] at l2
 refine EC (f:=fun x:Nn=>x.2.1) (h.filter _) ?_ fun u=>?_
 ·simp only [CK,lg,Zq,or_false]
  refine ⟨fun v hv=>?_,fun v hv=>?_,fun v hv=>hv.elim,List.Pairwise.nil⟩
  ·rcases hv with rfl | rfl
   ·exact l1
   ·try?
  ·subst hv;exact l2
 ·rw [vG,WK]
  constructor
  ·rintro ⟨hu,e | e | e⟩
   ·rw [rM h hu mx e];simp
   ·rw [rM h hu my e];simp
   ·rw [rM h hu mz e];simp
  ·intro hu
   simp at hu
   rcases hu with rfl | rfl | rfl
   ·exact ⟨mx,.inl rfl⟩
   ·exact ⟨my,.inr (.inl rfl)⟩
   ·exact ⟨mz,.inr (.inr rfl)⟩
theorem y9:∀as bs:List Int,CQ (as.map PyData.int) (bs.map PyData.int)=decide (as=bs)
 | [],[]=>rfl
 | [],_::_=>rfl
 | _::_,[]=>rfl
 | a::as,b::bs=>by
   show (sR (.int a) (.int b)&&CQ (as.map PyData.int) (bs.map PyData.int))=_
   rw [y9 as bs]
   have:sR (.int a) (.int b)=decide (a=b):=by
    show (a==b)=_
    exact zM.mpr 0#f
   rw [this]
   by_cases h1:a=b <;> by_cases h2:as=bs <;> simp [h1,h2]
theorem Br:∀as:List Int,EM (as.map PyData.int)=true∧Az (as.map PyData.int)≤3
 | []=>⟨rfl,by decide⟩
 | a::as=>by
   obtain ⟨c,d⟩:=Br as
   refine ⟨?_,?_⟩
   ·show ((PyData.int a).canLay0&&EM (as.map PyData.int))=true
    rw [c];rfl
   ·show max (PyData.int a).depth (Az (as.map PyData.int))≤3
    have:(PyData.int a).depth≤3:=dI (U9 (show (PyData.int a).depth=(PyData.int 0).depth from rfl)) 0#h
    try?
theorem ze (as:List Int):uA (.tuple (as.map PyData.int))=true:=by
 obtain ⟨a,b⟩:=Br as
 unfold uA
 rw [vF]
 refine ⟨a,dz ?_⟩
 show Az (as.map PyData.int)+1≤64
 try?
theorem xV:∀as:List Int,qc H (as.map V.int) (as.map PyData.int)
 | []=>.nil
 | a::as=>.cons (.int a) (xV as)
theorem XD {as:List Int} (hp:H p=some (.tup (as.map V.int))) (hr:H r=some (.tup (bs.map V.int))) (k:Q (.bl (decide (as=bs))) H):adw (.ref p) (.ref r) H Q:=by
 refine ⟨_,_,.tup hp (xV as),.tup hr (xV bs),ze as,ze bs,?_⟩
 have:sR (.tuple (as.map PyData.int)) (.tuple (bs.map PyData.int))=CQ (as.map PyData.int) (bs.map PyData.int):=rfl
 rw [this,y9]
 exact k
theorem PZ:inV (.int m) [.int a,.int b,.int c]=(decide (m=a)||(decide (m=b)||decide (m=c))):=by
 have e:∀p q:Int,V6 (.int p) (.int q)=decide (p=q):=fun p q=>by show (p==q)=_;exact zM.mpr (by rw [qP,yQ])
 have c':∀p q:Int,decide (p=q)=decide (q=p):=fun p q=>CL.mpr ⟨Eq.symm,Eq.symm⟩
 unfold inV
 simp only [EU,List.any_nil,e,Bool.or_false]
 first
  | rfl
  | rw [c' a m,c' b m,c' c m]
def yW (hs:List Nn) (t:Int×Int×Int) (i j k:Nat):Prop:=i<j∧j<k∧k<hs.length∧fS hs i=t.1∧fS hs j=t.2.1∧fS hs k=t.2.2
theorem rL (h:hs[i]?=some x):fS hs i=x.2.1:=by unfold fS;rw [h];rfl
structure NR (H:Hp) (L:ao) (hs:List Nn):Prop where
 at_:H L=some (.lst (bU hs))
 row:l9 H hs 46 150
 all:acp hs
 Ew:gB hs
 len:hs.length≤30
theorem NR.up (h:NR H L hs) (s:aq H H'):NR H' L hs:=⟨s _ _ h.at_,h.row.up s,h.all,h.Ew,h.len⟩
def wy (hs:List Nn) (c:Int) (at_:Bool) (i j k:Nat):Bool:=decide (0<((I0 hs i j k).natAbs:Int))&&(decide (c*(fS hs k-fS hs i)<((I0 hs i j k).natAbs:Int))||(at_&&decide (((I0 hs i j k).natAbs:Int)=c*(fS hs k-fS hs i))))
theorem ack (hb:1≤b) (cK:gB hs) (hik:i<k) (hk:k<hs.length):wy hs c at_ i j k=true↔0<cP (sd (gh hs b) i j k)∧((c:Rat)/(b:Rat)<cP (sd (gh hs b) i j k)∨(at_=true∧cP (sd (gh hs b) i j k)=(c:Rat)/(b:Rat))):=by
 have ht:=LP cK hik hk
 have hp:=cast_pos (b:=(fS hs k-fS hs i)*b) (CY 0#c 0#c)
 have hb':=dB (b:=b) 0#c
 have e1:((c:Rat)/(b:Rat))*(((fS hs k-fS hs i)*b:Int):Rat)=((c*(fS hs k-fS hs i):Int):Rat):=by
  simp only [sW,uo]
  grind
 have e2:=Sm (Be hs b) (k:=j) hb ht
 generalize (((fS hs k-fS hs i)*b:Int):Rat)=D at *
 generalize cP (sd (gh hs b) i j k)=S at *
 have f0:(0:Int)<((I0 hs i j k).natAbs:Int)↔0<S:=by
  rw [← vC,e2]
  exact ⟨fun z=>JQ (by grind) (EW hp),fun z=>by have:=EX z hp;grind⟩
 have f1:c*(fS hs k-fS hs i)<((I0 hs i j k).natAbs:Int)↔(c:Rat)/(b:Rat)<S:=by
  rw [← vC,e2,← e1]
  exact ⟨fun z=>JQ z (EW hp),fun z=>M8 z hp⟩
 have f2:((I0 hs i j k).natAbs:Int)=c*(fS hs k-fS hs i)↔S=(c:Rat)/(b:Rat):=by
  rw [← ES,e2,← e1]
  have hD:D≠0:=by grind
  exact ⟨fun z=>by grind,fun z=>by rw [z]⟩
 unfold wy
 rw [vF,Bool.or_eq_true,vF,yQ,yQ,yQ,f0,f1,f2]
theorem Io (hs:List Nn) (b:Int) (k:Nat):mo (gh hs b) k=fS hs k:=(AK (Be hs b) k).1
def XO (H:Hp) (ls:O9):Prop:=∀x∈ls,NR H x.1 x.2
theorem XO.up (h:XO H ls) (s:aq H H'):XO H' ls:=fun x hx=>(h x hx).up s
def QZ (ls:O9):List V:=ls.map fun x=>V.ref x.1
inductive Hr (vs:List V) (H:Hp) (Q:VK) (E_:XK):Prop where
 | mk (t:T3) (TT:ao) (ls:O9):vs=[.ref t.1,.ref TT]→Ra H t→H TT=some (.lst (QZ ls))→XO H ls→ls.length≤50→((¬ ∃q∈ls,∃i j k,yW q.2 t.2 i j k)→∀H',aq H H'→Q .bC H')→(∀(q:ao×List Nn) (i j k:Nat) (x y z:Nn),q∈ls→yW q.2 t.2 i j k→q.2[i]?=some x→q.2[j]?=some y→q.2[k]?=some z→∀(R:ao) (H':Hp),aq H H'→H' R=some (.lst [.ref x.1,.ref y.1,.ref z.1])→Q (.ref R) H')→Hr vs H Q E_
inductive wV (vs:List V) (H:Hp) (Q:VK) (E_:XK):Prop where
 | mk (R pb L:ao) (hs:List Nn) (i j k:Nat) (x y z:Nn) (c:Int) (at_:Bool):vs=[.ref R,.ref pb,.int 2,.bl at_]→NR H L hs→hs[i]?=some x→hs[j]?=some y→hs[k]?=some z→H R=some (.lst [.ref x.1,.ref y.1,.ref z.1])→H pb=some (.tup [.int c,.int 1])→Sz 150 c→Q (.bl (wy hs (2*c) at_ i j k)) H→wV vs H Q E_
def shp (jo:Bool) (d:Int):Str:=if jo then (if d>0 then "cap" else "cup") else "any"
inductive qz (vs:List V) (H:Hp) (Q:VK) (E_:XK):Prop where
 | mk (R L:ao) (hs:List Nn) (i j k:Nat) (x y z:Nn) (jo:Bool):vs=[.ref R,.str (kg jo)]→NR H L hs→hs[i]?=some x→hs[j]?=some y→hs[k]?=some z→H R=some (.lst [.ref x.1,.ref y.1,.ref z.1])→Q (.str (shp jo (I0 hs i j k))) H→qz vs H Q E_
section
theorem mq:aE ["_law_three","_law_parts","_law_moment","_law_part","_law_held"] ["_law_three","_law_parts"] (ah r8):=0#a
theorem Gf (F:cH K "_law_spots" "_law_spots" r8 f fd) (T:Txt mg):bg P w K mg base cM 1 f fd ["_law_three","_law_parts"] Hr:=by
 refine F.ok mq 0#e 0#b
 ·obtain ⟨t,TT,ls,rfl,_⟩:=h
  rfl
 obtain ⟨⟨t,t0,t1,t2⟩,TT,ls,rfl,et,eT,We,acX,kn,ks⟩:=h
 have et:H t=some (.tup [.int t0,.int t1,.int t2]):=et
 have mQ:=hr.units
 refine bD ⟨_,(au (bK (jR (Jd.nQ (Jd.qi (o7 (fj (Wy K) rfl T.nN Ow (bT 0#m (Jd.Ep rfl T.CF JS)) (he:=aP) (hpl:=(bB aP bS))))) (Jd.lG (bh Ek (cR K T.gA 0#m) aB (aD _))))) (aG (aR dW)) bW) (au (fK iM rfl (Jd.piT K 0#m) (bQ (i:=2) mq.nd rfl 0#n) (aG (bK (jR (Jd.nQ (o7 (fj (Wy K) rfl T.nN Ow (bT (aa 2) (Jd.Ep rfl T.XU YK)) (he:=aP) (hpl:=(bB aP bS)))) (Jd.lG (Jd.qi (o7 (fj (Wy K) rfl T.nN Ow (bT (aa 2) (Jd.Ep rfl T.afD aeG)) (he:=aP) (hpl:=(bB aP bS)))))))) (aG (aR dW)) bW))) (au (fK iM rfl (gU K 0#x) (bQ (i:=3) mq.nd rfl 0#n) (au (Jd.kF (O:=["_law_one"]) (N':=["_law_three"]) (cap:=[0]) (i:=4) mq.nd rfl 0#n rfl (gU K (aa 3)) (fun _ _ _ _ _=>(bQ (i:=0) (show iN [("_law_one":Str),("_law_three":Str)] by decide +kernel) rfl 0#n)) (fun _ _ _ _ _=>(Jd.kG (bh (ac4 K) (cy (HH K) 0#m aB 0#o) 0#x rfl))) (fun _ _ _ _ _=>0#m) rfl 0#u rfl 0#g rfl 0#g (by rfl)) (aG (bK (bh (SX mQ) (Bs kB rfl T.CF JS (cO (jA (O:=["_law_one"]) (N':=[]) (cap:=[]) rfl (gU K (aa 4)) (fun _ _ _ _ _=>(bQ (i:=0) (show iN [("_law_one":Str)] by decide +kernel) rfl 0#n)) (fun _ _ _ _ _=>jn) (fun _ _ _ _ _=>(cy (HH K) 0#m aB 0#o)) rfl trivial rfl 0#g rfl 0#g))) 0#m (aD _)) (aG (aR (aa 4))) bW)))) (aG (aR dW))))),?_⟩
 rw?
 refine N9 (.tup et) abc ?_
 rw?
 refine bE ?_
 rw?
 refine cE (.inr (nI.of et)) ?_
 rw?
 refine bE ?_
 rw?
 refine ⟨_,rfl,t,rfl,⟨_,nI.of et⟩,Wa (K:=K) (a:=t) (xs:=[.int t0,.int t1,.int t2]) (fun _ σ H2=>H2=H∧∃v:Option V,σ=[some (.ref t),some (.ref TT),v,none,none]) ⟨rfl,none,rfl⟩ (fun _ σ H2 _ ⟨e,_⟩=>by rw [e];exact nI.of et) ?_ ?_⟩
 ·rintro q y' σ H2 hj ⟨rfl,v,rfl⟩
  refine gZ fun M Bk RR hM _ _=>?_
  obtain ⟨m',rfl⟩:∃m':Int,y'=.int m':=by
   have hm:=jL hj
   simp at hm
   rcases hm with h | h | h
   ·exact ⟨_,h⟩
   ·exact ⟨_,h⟩
   ·exact ⟨_,h⟩
  rw?
  refine N9 (.int m') aba ?_
  rw?
  refine bE ?_
  rw?
  refine N9 (.int m') abb ?_
  rw?
  refine bE ?_
  rw?
  exact hM _ _ ⟨rfl,_,rfl⟩
 ·rintro σ H2 ⟨rfl,v,rfl⟩
  rw?
  refine gH (gV ?_)
  rw?
  refine ⟨TT,rfl,⟨_,aW.of eT⟩,cL (xs:=QZ ls) (fun e σ H3=>aq H2 H3∧(∀e1 q,e1<e→ls[e1]?=some q→¬ ∃i j k,yW q.2 (t0,t1,t2) i j k)∧∃v2 v3 v4:Option V,σ=[some (.ref t),some (.ref TT),v2,v3,v4]) ⟨aq.refl _,fun _ _ z=>absurd z 0#c,_,_,_,rfl⟩ ?_ ?_ ?_⟩
  ·rintro e σ H3 _ ⟨s3,_⟩
   exact aW.of (s3 _ _ eT)
  ·rintro e v σ H3 hv ⟨s3,ac0,v2,v3,v4,rfl⟩
   refine gZ fun M Bk RR hM _ hR=>?_
   unfold QZ at hv
   rw [jQ] at hv
   obtain ⟨⟨L,hs⟩,gq,rfl⟩:=oU.mp hv
   have hqm:=jL gq
   have hN:NR H2 L hs:=We _ hqm
   have cK:=hN.Ew
   have N3:=hN.up s3
   rw?
   refine gV ?_
   rw?
   refine ⟨L,rfl,⟨_,aW.of N3.at_⟩,?_⟩
   refine bY (xs:=bU hs) bL (fun H4 s4=>aW.of (s4 _ _ N3.at_)) (by rw [bZ];have:=hN.len;simp?) (fun c ys G=>ys=bU ((hs.take c).filter (Sq t0 t1 t2))) rfl ?_ ?_
   ·rintro D c v ys H4 ly NN N0 h0 hD eD s4 hv hy rfl kY kN
    obtain ⟨u,gu,rfl⟩:=pF hv
    have eu:=((hN.row u (jL gu)).up (s3.trans s4)).1
    have ts:=EJ (Sq t0 t1 t2) hs c u gu
    refine dG h0 ?_
    rw?
    refine ⟨t,_,rfl,.inr (nI.of ((s3.trans s4) _ _ et)),rfl,rfl,?_⟩
    rw?
    show if inV (.int u.2.1) [.int t0,.int t1,.int t2]=true then _ else _
    rw [PZ,show (decide (u.2.1=t0)||(decide (u.2.1=t1)||decide (u.2.1=t2)))=Sq t0 t1 t2 u from rfl]
    cases hm:Sq t0 t1 t2 u with
    | true=>
      rw [hm,if_pos rfl] at ts
      refine bJ ?_
      rw?
      exact kY _ H4 (aq.refl _) (by rw [ts,← jY])
    | false=>
      rw [hm,if_neg eO,yS] at ts
      refine bE ?_
      exact kN H4 (aq.refl _) (by rw [ts])
   ·rintro D ys H4 hD eD s4 hy rfl
    rw [bZ,iV] at eD
    have s34:=s3.trans s4
    have N4:=hN.up s34
    have hfl:(hs.filter (Sq t0 t1 t2)).length≤50:=dI (CH ..) (by have:=hN.len;simp?)
    have hrf:l9 H4 (hs.filter (Sq t0 t1 t2)) 46 150:=fun u hu=>N4.row u (vG.mp hu).1
    have hsub:(hs.filter (Sq t0 t1 t2)).Pairwise fun a b=>a.2.1<b.2.1:=cK.sublist OF
    generalize hF:hs.filter (Sq t0 t1 t2)=fs at *
    rw?
    refine gV ?_
    rw?
    refine ⟨D,rfl,⟨_,aW.of eD⟩,?_⟩
    refine bY (xs:=bU fs) bL (fun H5 s5=>aW.of (s5 _ _ eD)) (by rw [bZ];simp?) (fun c ys G=>ys=((fs.take c).map fun x=>x.2.1).map V.int) rfl ?_ ?_
    ·rintro D' c v ys H5 ly NN N0 h0 X5 HG s5 hv hy rfl kY kN
     obtain ⟨u,gu,rfl⟩:=pF hv
     have eu:=((hrf u (jL gu)).up s5).1
     have tk:fs.take (c+1)=fs.take c++[u]:=by rw [xC,gu];rfl
     refine dG h0 ?_
     rw?
     refine bJ ?_
     rw?
     exact kY _ H5 (aq.refl _) (by rw [tk];simp)
    ·rintro D' ys H5 X5 HG s5 hy rfl
     rw [bZ,iV] at HG
     rw?
     refine ⟨D',_,rfl,.inl ⟨aW.of HG,fun tp WR=>?_⟩⟩
     have s6:aq H5 (upd H5 tp (.tup ((fs.map fun x=>x.2.1).map V.int))):=fW WR _
     have e6:upd H5 tp (.tup ((fs.map fun x=>x.2.1).map V.int)) tp=some (.tup ((fs.map fun x=>x.2.1).map V.int)):=av
     generalize upd H5 tp (.tup ((fs.map fun x=>x.2.1).map V.int))=H6 at *
     have s36:=s34.trans (s5.trans s6)
     rw?
     refine XD (bs:=[t0,t1,t2]) e6 (s36 _ _ et) ?_
     rw?
     by_cases he:(fs.map fun x=>x.2.1)=[t0,t1,t2]
     ·rw [dz he]
      refine bJ ?_
      rw?
      match fs,he with
      | [x,y,z],he=>
        have he:[x.2.1,y.2.1,z.2.1]=[t0,t1,t2]:=he
        injection he with a1 he
        injection he with a2 he
        injection he with a3 he
        have mem:∀u,u∈[x,y,z]→u∈hs:=fun u hu=>by rw [← hF] at hu;exact (vG.mp hu).1
        obtain ⟨i,gi⟩:=EK.mp (mem x 0#f)
        obtain ⟨j,gj⟩:=EK.mp (mem y 0#f)
        obtain ⟨k,gk⟩:=EK.mp (mem z 0#f)
        have hxy:x.2.1<y.2.1:=by have:=(CK.mp hsub).1;exact this y 0#f
        have hyz:y.2.1<z.2.1:=by have:=(CK.mp (CK.mp hsub).2).1;exact this z 0#f
        have li:=(fZ.mp gi).1
        have lj:=(fZ.mp gj).1
        have lk:=(fZ.mp gk).1
        have ord:∀{p q:Nat} {u v:Nn},hs[p]?=some u→hs[q]?=some v→u.2.1<v.2.1→p<q:=fun {p q u v} gp gq huv=>by
         rcases ux p q with w | w | w
         ·exact w
         ·subst w;rw [gp] at gq;cases gq;simp?
         ·have:=LP cK w (fZ.mp gp).1
          rw [rL gp,rL gq] at this
          simp?
        exact hR _ _ (ks (L,hs) i j k x y z hqm ⟨ord gi gj hxy,ord gj gk hyz,lk,by rw [rL gi];exact a1,by rw [rL gj];exact a2,by rw [rL gk];exact a3⟩ gi gj gk D H6 s36 ((s5.trans s6) _ _ eD))
     ·rw [gJ he]
      refine bE ?_
      rw?
      refine (fun noq:¬ ∃i j k,yW hs (t0,t1,t2) i j k=>?_:(¬ ∃i j k,yW hs (t0,t1,t2) i j k)→_) ?_
      ·refine hM _ _ ⟨s36,fun e1 q h1 g1=>?_,_,_,_,rfl⟩
       by_cases hee:e1<e
       ·exact ac0 e1 q hee g1
       ·obtain rfl:e1=e:=by simp?
        rw [gq] at g1
        cases g1
        exact noq
      rintro ⟨i,j,k,h1,h2,h3,e1,e2,e3⟩
      refine he ?_
      obtain ⟨x,gx⟩:∃x,hs[i]?=some x:=⟨_,je 0#c⟩
      obtain ⟨y,gy⟩:∃x,hs[j]?=some x:=⟨_,je 0#c⟩
      obtain ⟨z,gz⟩:∃x,hs[k]?=some x:=⟨_,je h3⟩
      rw [rL gx] at e1
      rw [rL gy] at e2
      rw [rL gz] at e3
      have e1:x.2.1=t0:=e1
      have e2:y.2.1=t1:=e2
      have e3:z.2.1=t2:=e3
      have:=Qy cK h1 h2 gx gy gz
      rw [e1,e2,e3] at this
      rw [← hF,this]
      show [x.2.1,y.2.1,z.2.1]=_
      rw [e1,e2,e3]
  ·rintro σ H3 ⟨s3,hno,v2,v3,v4,rfl⟩
   rw?
   refine kn (fun ⟨q,hq,z⟩=>?_) H3 s3
   obtain ⟨e,he⟩:=EK.mp hq
   exact hno e q (by unfold QZ;rw [eV];exact (fZ.mp he).1) he z
theorem gM:aE ["_law_held","_law_bound","_law_by","_law_flush","_law_one","_law_mid","_law_last","_law_stood","_law_limit"] ["_law_held","_law_bound","_law_by","_law_flush"] (ah qu):=0#a
theorem DH (F:cH K "_law_worthy" "_law_worthy" qu f fd) (T:Txt mg) (jg:Dn P w K mg base 1 "_law_stand" ["_law_one","_law_mid","_law_last"] wR):bg P w K mg base cM 2 f fd ["_law_held","_law_bound","_law_by","_law_flush"] wV:=by
 refine F.ok gM 0#e 0#b
 ·obtain ⟨R,pb,L,hs,i,j,k,x,y,z,c,at_,rfl,_⟩:=h
  rfl
 obtain ⟨R,pb,L,hs,i,j,kk,x,y,z,c,at_,rfl,hN,gx,gy,gz,eR,eb,zc,k⟩:=h
 obtain ⟨x',hx',ex,zx1,zx2⟩:=qI hN.row hN.all (fZ.mp gx).1
 obtain ⟨y',hy',ey,zy1,zy2⟩:=qI hN.row hN.all (fZ.mp gy).1
 obtain ⟨z',hz',ez,zz1,zz2⟩:=qI hN.row hN.all (fZ.mp gz).1
 rw [gx] at hx';cases hx'
 rw [gy] at hy';cases hy'
 rw [gz] at hz';cases hz'
 refine bD ⟨_,(au (Jd.rS 0#m (Jd.pgL K (n:=3) rfl (d8 (bQ (i:=4) gM.nd rfl 0#n) (d8 (bQ (i:=5) gM.nd rfl 0#n) (d8 (bQ (i:=6) gM.nd rfl 0#n) o6))))) (au (aN 7 gM.nd (aJ aT (fj zY rfl T.zZ Au (cO (Jd.c3 jg hr (aa 4) (aa 5) (aa 6))) (he:=DO) (hpl:=bS)) (aK K 0#x))) (au (aN 8 gM.nd (aJ aT (aJ aT (aa 2) (aK K 0#x)) (aJ cB (aK K (aa 6)) (aK K (aa 4))))) (aG (aR (Jd.lF (ic cY (aa 7) aB (aD _)) (rG (Jd.NY (ic cY (aa 7) (aa 8) (aD _)) (rG (Jd.lF (aa 3) (rG (ic cI (aa 7) (aa 8) (aD _))))))))))))),?_⟩
 rw?
 refine Es ?_
 rw?
 refine Et eR ?_
 rw?
 refine ⟨x.1,y.1,z.1,_,_,_,_,_,_,46,150,rfl,ex,ey,ez,zx1,zy1,zz1,zx2,zy2,zz2,by decide,?_⟩
 rw?
 rw [iR]
 rw?
 have hS:AM (fS hs i) (Dz hs i) (fS hs j) (Dz hs j) (fS hs kk) (Dz hs kk)=I0 hs i j kk:=rfl
 rw [hS,Z1]
 refine iC (cg (show Sz 152 (2*c) from Sz.mul (m:=2) (show (2:Int).natAbs<2 ^ 2 by decide) zc) (zz1.sub zx1)) ?_
 unfold wy at k
 generalize ((I0 hs i j kk).natAbs:Int)=S at k ⊢
 generalize 2*c*(fS hs kk-fS hs i)=D at k ⊢
 rw?
 by_cases c0:0<S
 ·rw [dz c0] at k ⊢
  refine bJ ?_
  rw?
  by_cases c1:D<S
  ·rw [dz c1] at k ⊢
   refine bJ ?_
   rw?
   exact k
  ·rw [gJ c1] at k ⊢
   refine bE ?_
   rw?
   cases at_ with
   | true=>
     refine bJ ?_
     rw?
     rw [U7,ZL,U7] at k
     exact k
   | false=>
     refine bE ?_
     rw?
     exact k
 ·rw [gJ c0] at k ⊢
  refine bE ?_
  rw?
  exact k
theorem yI:aE ["_law_held","_law_way"] ["_law_held","_law_way"] (ah lM):=0#a
theorem yi (F:cH K "_law_lies_over" "_law_lies_over" lM f fd) (T:Txt mg) (jg:Dn P w K mg base 1 "_law_stand" ["_law_one","_law_mid","_law_last"] wR):bg P w K mg base cM 2 f fd ["_law_held","_law_way"] qz:=by
 refine F.ok yI 0#e 0#b
 ·obtain ⟨R,L,hs,i,j,k,x,y,z,jo,rfl,_⟩:=h
  rfl
 obtain ⟨R,L,hs,i,j,kk,x,y,z,jo,rfl,hN,gx,gy,gz,eR,k⟩:=h
 obtain ⟨x',hx',ex,zx1,zx2⟩:=qI hN.row hN.all (fZ.mp gx).1
 obtain ⟨y',hy',ey,zy1,zy2⟩:=qI hN.row hN.all (fZ.mp gy).1
 obtain ⟨z',hz',ez,zz1,zz2⟩:=qI hN.row hN.all (fZ.mp gz).1
 rw [gx] at hx';cases hx'
 rw [gy] at hy';cases hy'
 rw [gz] at hz';cases hz'
 refine bD ⟨_,(au (bK (bh cI 0#x kP (aD _)) (aG (aR kP)) bW) (au (bK (bh cY (Jd.c3 jg hr (cW K 0#m) (cW K 0#m) (cW K 0#m)) aB (aD _)) (aG (aR kP)) bW) (aG (aR kP)))),?_⟩
 rw?
 cases jo with
 | false=>
   refine uw (c:=true) 0#g ?_
   refine ⟨_,rfl,?_⟩
   refine bJ ?_
   rw?
   exact k
 | true=>
   refine uw (c:=false) 0#g ?_
   refine ⟨_,rfl,?_⟩
   refine bE ?_
   rw?
   refine cG eR XS ?_
   rw?
   refine cG eR XT ?_
   rw?
   refine cG eR at2 ?_
   rw?
   refine ⟨x.1,y.1,z.1,_,_,_,_,_,_,46,150,rfl,ex,ey,ez,zx1,zy1,zz1,zx2,zy2,zz2,by decide,?_⟩
   have hS:AM (fS hs i) (Dz hs i) (fS hs j) (Dz hs j) (fS hs kk) (Dz hs kk)=I0 hs i j kk:=rfl
   rw [hS]
   unfold shp at k
   rw?
   refine cu (fun c=>?_) (fun c=>?_)
   ·rw?
    rw [if_pos rfl,if_pos (c6 c)] at k
    exact k
   ·rw?
    rw [if_pos rfl,if_neg (jw (iU.mpr c))] at k
    exact k
end
theorem yL:yW hs t i j k↔Spot (gh hs b) t i j k:=by
 unfold yW Spot
 rw [K0,Io,Io,Io]
def gR (ls:O9) (b:Int):List (List En):=ls.map fun x=>gh x.2 b
theorem Wd (hN:Nf Rs)  (hr:r∈Rs)  (sp:Spot r t i j k) :Gd Rs β at_ t↔0<cP (sd r i j k)∧(β<cP (sd r i j k)∨(at_=true∧cP (sd r i j k)=β)):=by
 constructor
 ·rintro ⟨r',hr',a,b,c,RO,q⟩
  obtain rfl:=hN.T9 hr hr' sp RO
  obtain ⟨rfl,rfl,rfl⟩:=Spot.uniq (hN.ri r hr) sp RO
  exact q
 ·exact fun q=>⟨r,hr,i,j,k,sp,q⟩
theorem HU (hN:Nf Rs)  (hr:r∈Rs)  (sp:Spot r t i j k):XJ Rs t↔0<sd r i j k:=by
 constructor
 ·rintro ⟨r',hr',a,b,c,RO,q⟩
  obtain rfl:=hN.T9 hr hr' sp RO
  obtain ⟨rfl,rfl,rfl⟩:=Spot.uniq (hN.ri r hr) sp RO
  exact q
 ·exact fun q=>⟨r,hr,i,j,k,sp,q⟩
def Q4 (Rs:List (List En)) (jo:Bool) (t:Int×Int×Int):Str:=if jo then (if gD Rs t then "cap" else "cup") else "any"
def vz (Rs:List (List En)) (jo:Bool) (ts:List (Int×Int×Int)) (s:Str):List (Int×Int×Int):=ts.filter fun t=>decide (Q4 Rs jo t=s)
theorem IS (h:tS (l++r)):tS l:=fun i a b ha hb=>by
 have h1:=(fZ.mp ha).1
 have h2:=(fZ.mp hb).1
 exact h i a b (by rw [kZ h1];exact ha) (by rw [kZ h2];exact hb)
theorem IT:tS (l++[t])↔tS l∧∀e,l.getLast?=some e→e.2.2≤t.1:=by
 constructor
 ·intro h
  refine ⟨IS h,fun e he=>?_⟩
  rw [Ys] at he
  have hl:=(fZ.mp he).1
  exact h (l.length-1) e t (by rw [kZ hl];exact he) (by rw [show l.length-1+1=l.length by simp?,pR (dm _),CU];rfl)
 ·rintro ⟨h,g⟩ i a b ha hb
  have h2:=(fZ.mp hb).1
  rw [cJ] at h2
  simp only [iu,kh] at h2
  by_cases c:i+1<l.length
  ·rw [kZ 0#c] at ha
   rw [kZ c] at hb
   exact h i a b ha hb
  ·have e:i+1=l.length:=by simp?
   rw [kZ 0#c] at ha
   rw [e,pR (dm _),CU] at hb
   obtain rfl:t=b:=lQ hb
   exact g a (by rw [Ys,show l.length-1=i by simp?];exact ha)
theorem AJ:tS []:=fun i a b ha=>by simp at ha
theorem NS:Nc Rs β jo at_ ts↔(∀t∈ts,Gd Rs β at_ t)∧∀s,tS (vz Rs jo ts s):=by
 have none:∀s,(∀t,Q4 Rs jo t≠s)→vz Rs jo ts s=[]:=fun s h=>Uv.mpr fun t _=>by rw [gJ (h t)];exact eO
 unfold Nc
 refine and_congr_right fun _=>?_
 cases jo with
 | false=>
   rw [if_neg eO]
   have e:vz Rs false ts "any"=ts:=UH.mpr fun t _=>dz rfl
   constructor
   ·intro h s
    by_cases c:s = "any"
    ·rw [c,e];exact h
    ·rw [none s fun t z=>c (by rw [← z];rfl)];exact AJ
   ·intro h
    have:=h "any"
    rw [e] at this
    exact this
 | true=>
   rw [if_pos rfl]
   have e1:vz Rs true ts "cap"=ts.filter (gD Rs):=J2 fun t _=>by
    unfold Q4
    cases gD Rs t <;> decide +kernel
   have e2:vz Rs true ts "cup"=ts.filter fun t=>!gD Rs t:=J2 fun t _=>by
    unfold Q4
    cases gD Rs t <;> decide +kernel
   constructor
   ·rintro ⟨h1,h2⟩ s
    by_cases c1:s = "cap"
    ·rw [c1,e1];exact h1
    ·by_cases c2:s = "cup"
     ·rw [c2,e2];exact h2
     ·rw [none s fun t z=>?_]
      ·exact AJ
      ·unfold Q4 at z
       rw [if_pos rfl] at z
       cases hc:gD Rs t with
       | true=>rw [hc] at z;exact c1 z.symm
       | false=>rw [hc] at z;exact c2 z.symm
   ·intro h
    have h1:=h "cap"
    have h2:=h "cup"
    rw [e1] at h1
    rw [e2] at h2
    exact ⟨h1,h2⟩
theorem TX (hb:1≤b) (hN:Nf (gR ls b))  (hq:q∈ls) (cK:gB q.2)  (sp:yW q.2 t i j k) (jo:Bool):shp jo (I0 q.2 i j k)=Q4 (gR ls b) jo t:=by
 have hm:gh q.2 b∈gR ls b:=eU.mpr ⟨q,hq,rfl⟩
 have c:=HU hN hm (yL (b:=b).mp sp)
 have ht:=LP cK (show i<k from CT sp.1 sp.2.1) sp.2.2.1
 have e:=NL (Be q.2 b) (k:=j) hb ht
 have hp:=cast_pos (b:=(fS q.2 k-fS q.2 i)*b) (CY 0#c 0#c)
 have f:0<I0 q.2 i j k↔0<sd (gh q.2 b) i j k:=by
  rw [← vC,e]
  exact ⟨fun z=>JQ (by grind) (EW hp),fun z=>by have:=EX z hp;grind⟩
 unfold shp Q4
 cases jo with
 | false=>rfl
 | true=>
   rw [if_pos rfl,if_pos rfl]
   unfold gD
   by_cases z:I0 q.2 i j k>0
   ·rw [if_pos z,@dz _ (sV _) (c.mpr (f.mp z))]
    rfl
   ·rw [if_neg z,@gJ _ (sV _) (fun y=>z (f.mpr (c.mp y)))]
    rfl
def pre (ts:List T3) (c:Nat):List (Int×Int×Int):=(ts.take c).map (·.2)
theorem wm (h:ts[c]?=some t):pre ts (c+1)=pre ts c++[t.2]:=by
 unfold pre
 rw [qO,h,UM,ju]
 rfl
theorem Cj:vz Rs jo (l++[t]) s=vz Rs jo l s++if Q4 Rs jo t=s then [t] else []:=by
 unfold vz
 rw [DR,C5]
 congr 1
 by_cases c:Q4 Rs jo t=s
 ·rw [if_pos c,if_pos (dz c)]
  rfl
 ·rw [if_neg c,if_neg (by rw [gJ c];exact eO)]
  rfl
theorem Xq (h:tS (vz Rs jo (ts.map (·.2)) s)):tS (vz Rs jo (pre ts c) s):=by
 have e:ts.map (·.2)=pre ts c++(ts.drop c).map (·.2):=by unfold pre;rw [← ju,OC]
 rw [e] at h
 unfold vz at h ⊢
 rw [DR] at h
 exact IS h
inductive MQ (vs:List V) (H:Hp) (Q:VK) (E_:XK):Prop where
 | mk (TT pb Z:ao) (ls:O9) (ts:List T3) (b c:Int) (jo at_:Bool):vs=[.ref TT,.str (kg jo),.ref pb,.ref Z,.bl at_]→H TT=some (.lst (QZ ls))→XO H ls→ls.length≤50→1≤b→Nf (gR ls b)→H pb=some (.tup [.int c,.int 1])→Sz 150 c→H Z=some (.lst (kc ts))→lX H ts→ts.length≤900→(∀H',aq H H'→Q (KQ (Ez (gR ls b) (((2*c:Int):Rat)/(b:Rat)) jo at_ (ts.map (·.2)))) H')→MQ vs H Q E_
section
theorem fD:aE ["_law_parts","_law_way","_law_bound","_law_paper","_law_flush","_law_ends","_law_three","_law_held","_law_shape"] ["_law_parts","_law_way","_law_bound","_law_paper","_law_flush"] (ah j5):=0#a
theorem vW (F:cH K "_law_shown_free" "_law_shown_free" j5 f fd) (T:Txt mg) (rg:Dn P w K mg base 1 "_law_spots" ["_law_three","_law_parts"] Hr) (iz:Dn P w K mg base 2 "_law_worthy" ["_law_held","_law_bound","_law_by","_law_flush"] wV) (eY:Dn P w K mg base 2 "_law_lies_over" ["_law_held","_law_way"] qz):bg P w K mg base cM 3 f fd ["_law_parts","_law_way","_law_bound","_law_paper","_law_flush"] MQ:=by
 refine F.ok fD 0#e 0#b
 ·obtain ⟨TT,pb,Z,ls,ts,b,c,jo,at_,rfl,_⟩:=h
  rfl
 obtain ⟨TT,pb,Z,ls,ts,b,c,jo,at_,rfl,eT,We,acX,hb,hN,eb,zc,hZ,hT,hts,k⟩:=h
 have mQ:=hr.units
 have no:∀H',aq H H'→¬Nc (gR ls b) (((2*c:Int):Rat)/(b:Rat)) jo at_ (ts.map (·.2))→Q .bC H':=fun H' s' z=>by
  have:=k H' s'
  unfold Ez at this
  rw [if_neg z] at this
  exact this
 refine bD ⟨_,(au (aN 5 fD.nd Jd.rQ) (au (fK iM rfl (gU K (aa 3)) (bQ (i:=6) fD.nd rfl 0#n) (au (aN 7 fD.nd (b9 rg hr (aa 6) 0#m)) (au (bK (jR (Jd.nQ (bh BN (aa 7) dW (aD _)) (Jd.lG (Jd.qi (o7 (d9 iz 0#A rfl (Jd.a4 (aa 7) (aa 2) aB (aa 4)) (he:=aP) (hpl:=(bB aP (bB iK (bB aP bS)))))))))) (aG (aR dW)) bW) (au (aN 8 fD.nd (b9 eY hr (aa 7) 0#x)) (au (bK (jR (Jd.mV (bh (SW mQ) (aa 8) (aa 5) rfl) (Jd.kH (bh lU (aK K (aa 6)) (Jd.wj mQ (aa 5) (aa 8) 0#o) (aD _))))) (aG (aR dW)) bW) (aG (Jd.wu mQ (aa 5) (aa 8) (aK K (aa 6))))))))) (aG (aR (aJ bO (cR K T.gA 0#m) (cR K T.gA (aa 3))))))),?_⟩
 rw?
 refine GG fun E0 H4 s4 n4 e4=>?_
 rw?
 refine gH (gV ?_)
 rw?
 refine ⟨Z,rfl,⟨_,aW.of (s4 _ _ hZ)⟩,cL (xs:=kc ts) (fun i σ H5=>∃(v6 v7 v8:Option V) (kvs:List (Key×V)),σ=[some (.ref TT),some (.str (kg jo)),some (.ref pb),some (.ref Z),some (.bl at_),some (.ref E0),v6,v7,v8]∧aq H H5∧H5 E0=some (.dK kvs)∧kvs.length≤i∧(∀t∈pre ts i,Gd (gR ls b) (((2*c:Int):Rat)/(b:Rat)) at_ t)∧(∀s,tS (vz (gR ls b) jo (pre ts i) s))∧∀s,dX kvs (.inr s)=((vz (gR ls b) jo (pre ts i) s).getLast?).map fun t=>V.int t.2.2) ⟨none,none,none,[],rfl,s4,e4,dm _,fun t ht=>(by simp [pre] at ht),fun s=>AJ,fun s=>rfl⟩ ?_ ?_ ?_⟩
 ·rintro i σ H5 _ ⟨v6,v7,v8,kvs,rfl,s5,_⟩
  exact aW.of (s5 _ _ hZ)
 ·rintro i v σ H5 hv ⟨v6,v7,v8,kvs,rfl,s5,eE,II,hgd,RZ,hval⟩
  obtain ⟨t,gt,rfl⟩:=yO hv
  have hi':=(fZ.mp gt).1
  have mt:=jL gt
  have md:t.2∈ts.map (·.2):=eU.mpr ⟨t,mt,rfl⟩
  refine gZ fun MM BB RR hMM _ hRR=>?_
  rw?
  refine ⟨t,TT,ls,rfl,s5 _ _ (hT t mt),s5 _ _ eT,We.up s5,acX,fun hno H6 s6=>?_,fun q p1 p2 p3 x y z hq yZ gx gy gz R6 H6 s6 e6=>?_⟩
  ·rw?
   refine ⟨rfl,?_⟩
   rw?
   refine bJ ?_
   rw?
   refine bJ ?_
   rw?
   refine hRR _ _ (no H6 (s5.trans s6) fun ok=>?_)
   obtain ⟨r,hr1,i',j',k',sp,_⟩:=ok.1 t.2 md
   obtain ⟨q,hq,rfl⟩:=eU.mp hr1
   exact hno ⟨q,hq,i',j',k',yL.mpr sp⟩
  ·have Ko:=s5.trans s6
   have nq:=(We.up Ko) q hq
   have hm:gh q.2 b∈gR ls b:=eU.mpr ⟨q,hq,rfl⟩
   have gdw:Gd (gR ls b) (((2*c:Int):Rat)/(b:Rat)) at_ t.2↔wy q.2 (2*c) at_ p1 p2 p3=true:=by
    rw [ack (b:=b) hb nq.Ew (CT yZ.1 yZ.2.1) yZ.2.2.1]
    exact Wd hN hm (yL.mp yZ)
   rw?
   refine ⟨rfl,?_⟩
   rw?
   refine bE ?_
   rw?
   refine ⟨R6,pb,q.1,q.2,p1,p2,p3,x,y,z,c,at_,rfl,nq,gx,gy,gz,e6,Ko _ _ eb,zc,?_⟩
   rw?
   cases hw:wy q.2 (2*c) at_ p1 p2 p3 with
   | false=>
     refine bJ ?_
     rw?
     refine hRR _ _ (no H6 Ko fun ok=>?_)
     have:=gdw.mp (ok.1 t.2 md)
     rw [hw] at this
     cases this
   | true=>
     have gdt:=gdw.mpr hw
     refine bE ?_
     rw?
     refine ⟨R6,q.1,q.2,p1,p2,p3,x,y,z,jo,rfl,nq,gx,gy,gz,e6,?_⟩
     rw [TX hb hN hq nq.Ew yZ jo]
     generalize hsh:Q4 (gR ls b) jo t.2=sh
     have eE6:=s6 _ _ eE
     have et:H6 t.1=some (.tup [.int t.2.1,.int t.2.2.1,.int t.2.2.2]):=Ko _ _ (hT t mt)
     have go:(∀e,(vz (gR ls b) jo (pre ts i) sh).getLast?=some e→e.2.2≤t.2.1)→MM [some (.ref TT),some (.str (kg jo)),some (.ref pb),some (.ref Z),some (.bl at_),some (.ref E0),some (.ref t.1),some (.ref R6),some (.str sh)] (upd H6 E0 (.dK (putK kvs (Sum.inr sh) (.int t.2.2.2)))):=fun hle=>by
      refine hMM _ _ ⟨_,_,_,_,rfl,bw Ko n4,av,dI (kQ _ _ _) 0#c,fun u hu=>?_,fun s'=>?_,fun s'=>?_⟩
      ·rw [wm gt] at hu
       rcases dH.mp hu with hu | hu
       ·exact hgd u hu
       ·obtain rfl:u=t.2:=by simpa using hu
        exact gdt
      ·rw [wm gt,Cj]
       by_cases e:Q4 (gR ls b) jo t.2=s'
       ·rw [if_pos e]
        subst e
        rw [hsh]
        exact IT.mpr ⟨RZ sh,hle⟩
       ·rw [if_neg e,yS]
        exact RZ s'
      ·rw [wZ,wm gt,Cj]
       by_cases e:Q4 (gR ls b) jo t.2=s'
       ·rw [if_pos e,if_pos (by rw [← e,hsh]),List.getLast?_concat]
        rfl
       ·rw [if_neg e,if_neg (fun z=>e (by rw [hsh];exact (Z0 z).symm)),yS]
        exact hval s'
     walk_at "ve"
     refine ⟨E0,_,rfl,uF.k (k:=Sum.inr sh) eE6,?_⟩
     rw [hval sh]
     walk_at "ve"
     cases hl:(vz (gR ls b) jo (pre ts i) sh).getLast? with
     | none=>
       refine bE ?_
       walk_at "ve"
       refine bE ?_
       walk_at "ve"
       refine ⟨E0,_,rfl,EZ.k (k:=Sum.inr sh) eE6 (aO 0#c),?_⟩
       exact go (fun e he=>by rw [hl] at he;cases he)
     | some e=>
       refine bJ ?_
       walk_at "ve"
       refine ⟨E0,.int e.2.2,rfl,(by have:=uF.k (k:=Sum.inr sh) eE6;rw [hval sh,hl] at this;exact this),?_⟩
       walk_at "ve"
       refine cu (fun c1=>?_) (fun c1=>?_)
       ·rw?
        refine hRR _ _ (no H6 Ko fun ok=>?_)
        have:=Xq (c:=i+1) ((NS.mp ok).2 sh)
        rw [wm gt,Cj,if_pos hsh] at this
        have:=(IT.mp this).2 e hl
        have:=c6 c1
        simp?
       ·have c1:¬t.2.1<e.2.2:=jw (iU.mpr c1)
        walk_at "ve"
        refine ⟨E0,_,rfl,EZ.k (k:=Sum.inr sh) eE6 (aO 0#c),?_⟩
        exact go (fun e' he=>by rw [hl] at he;cases he;simp?)
 ·rintro σ H5 ⟨v6,v7,v8,kvs,rfl,s5,eE,II,hgd,RZ,hval⟩
  have hp:pre ts (kc ts).length=ts.map (·.2):=by unfold pre;rw [bq,iV]
  rw [hp] at hgd RZ
  have k5:=k H5 s5
  unfold Ez at k5
  rw [if_pos (NS.mpr ⟨hgd,RZ⟩)] at k5
  rw?
  refine cE (.inl (aW.of (s5 _ _ eT))) ?_
  rw?
  refine cE (.inl (aW.of (s5 _ _ hZ))) ?_
  rw?
  unfold gR at k5
  rw [eV,eV] at k5
  rw [bq]
  unfold QZ
  rw [eV]
  exact k5
end
def oS (v:Int×Int×Int):qR:=.tuple [.int v.1,.int v.2.1,.int v.2.2]
theorem Om:∀{ts:List T3},lX H ts→qc H (kc ts) (ts.map fun x=>oS x.2)
 | [],_=>.nil
 | x::ts,h=>.cons (.tup (h x xB) (.cons (.int _) (.cons (.int _) (.cons (.int _) .nil)))) (Om fun y hy=>h y (vE _ hy))
theorem EF:∀vs:List (Int×Int×Int),CQ (vs.map oS) (vs.map oS)=true
 | []=>rfl
 | v::vs=>by
   show (sR (oS v) (oS v)&&CQ (vs.map oS) (vs.map oS))=true
   rw [EF vs]
   show ((v.1==v.1&&(v.2.1==v.2.1&&(v.2.2==v.2.2&&true)))&&true)=true
   simp
theorem zG:∀vs:List (Int×Int×Int),EM (vs.map oS)=true∧Az (vs.map oS)≤2
 | []=>⟨rfl,by decide⟩
 | v::vs=>by
   obtain ⟨c,d⟩:=zG vs
   refine ⟨?_,?_⟩
   ·show ((oS v).canLay0&&EM (vs.map oS))=true
    rw [c];rfl
   ·show max (oS v).depth (Az (vs.map oS))≤2
    have:(oS v).depth≤2:=by simp [oS,Vf,Az]
    try?
theorem ad1 (h:lX H ts) (hl:H l=some (.lst (kc ts))) (hl':H l'=some (.lst (kc ts))) (q:Q (.bl false) H):abB (.ref l) (.ref l') H Q:=by
 have e:(ts.map fun x=>oS x.2)=(ts.map (·.2)).map oS:=by rw [nC];rfl
 have d:=Om h
 rw [e] at d
 have sh:uA (.list ((ts.map (·.2)).map oS))=true:=by
  obtain ⟨a,b⟩:=zG (ts.map (·.2))
  unfold uA
  rw [vF]
  refine ⟨a,dz ?_⟩
  show Az ((ts.map (·.2)).map oS)+1≤64
  try?
 refine ⟨_,_,.lst hl d,.lst hl' d,sh,sh,?_⟩
 have:sR (.list ((ts.map (·.2)).map oS)) (.list ((ts.map (·.2)).map oS))=true:=EF _
 rw [this]
 exact q
theorem JD (h:es.map (·.2)=es'.map (·.2)) (i j k:Nat):sd es i j k=sd es' i j k:=by
 unfold sd
 rw [(jB h i).1,(jB h i).2,(jB h j).1,(jB h j).2,(jB h k).1,(jB h k).2]
theorem P7 {es es':List En} (h:es.map (·.2)=es'.map (·.2)):es.length=es'.length:=by
 have:=congrArg nE h
 simpa using this
theorem D8:∀{as:List α} {bs:List β},gW R as bs→as.length=bs.length
 | [],[],_=>rfl
 | _::_,_::_,h=>by rw [iu,iu,D8 h.2]
 | [],_::_,h=>h.elim
 | _::_,[],h=>h.elim
theorem xP:∀{as:List α} {bs:List β} {a:α},gW R as bs→a∈as→∃b∈bs,R a b
 | _::_,_::_,a,h,m=>by
   rcases lg.mp m with rfl | m
   ·exact ⟨_,xB,h.1⟩
   ·obtain ⟨b,hb,r⟩:=xP h.2 m
    exact ⟨b,vE _ hb,r⟩
 | [],_,_,_,m=>by simp at m
 | _::_,[],_,h,_=>h.elim
theorem D9:∀{as:List α} {bs:List β},gW R as bs→gW (fun b a=>R a b) bs as
 | [],[],_=>trivial
 | _::_,_::_,h=>⟨h.1,D9 h.2⟩
 | [],_::_,h=>h.elim
 | _::_,[],h=>h.elim
def Alike (Rs Q9:List (List En)):Prop:=gW (fun r r'=>r.map (·.2)=r'.map (·.2)) Rs Q9
theorem CB (h:es.map (·.2)=es'.map (·.2))  (g:Spot es t i j k):Spot es' t i j k:=by
 obtain ⟨h1,h2,h3,a,b,c⟩:=g
 rw [(jB h i).1] at a
 rw [(jB h j).1] at b
 rw [(jB h k).1] at c
 exact ⟨h1,h2,by rw [← P7 h];exact h3,a,b,c⟩
theorem Alike.symm (h:Alike Rs Q9):Alike Q9 Rs:=mE (fun _ _ _ e=>e.symm) (D9 h)
theorem Pu (h:Alike Rs Q9)  (g:Gd Rs β at_ t):Gd Q9 β at_ t:=by
 obtain ⟨r,hr,i,j,k,sp,a,b⟩:=g
 obtain ⟨r',hr',e⟩:=xP h hr
 rw [JD e] at a b
 exact ⟨r',hr',i,j,k,CB e sp,a,b⟩
theorem DX (h:Alike Rs Q9)  (g:XJ Rs t):XJ Q9 t:=by
 obtain ⟨r,hr,i,j,k,sp,a⟩:=g
 obtain ⟨r',hr',e⟩:=xP h hr
 rw [JD e] at a
 exact ⟨r',hr',i,j,k,CB e sp,a⟩
theorem KJ (h:Alike Rs Q9):gD Rs=gD Q9:=by
 funext t
 unfold gD
 by_cases c:XJ Rs t
 ·rw [@dz _ (sV _) c,@dz _ (sV _) (DX h c)]
 ·rw [@gJ _ (sV _) c,@gJ _ (sV _) (fun z=>c (DX h.symm z))]
theorem EA (h:Alike Rs Q9) :Ez Rs β jo at_ ts=Ez Q9 β jo at_ ts:=by
 have key:∀{A B:List (List En)},Alike A B→Nc A β jo at_ ts→Nc B β jo at_ ts:=fun {A B} hh g=>⟨fun t ht=>Pu hh (g.1 t ht),by rw [← KJ hh];exact g.2⟩
 unfold Ez
 by_cases c:Nc Rs β jo at_ ts
 ·rw [if_pos c,if_pos (key h c),D8 h]
 ·rw [if_neg c,if_neg (fun z=>c (key h.symm z))]
def gP (es:List Nn) (b:Int):List (List En):=(parts tY es es.length).map fun r=>gh r b
theorem Bb {R:α→γ→Prop}:∀{as:List α} {bs:List β},gW (fun a b=>R a (g b)) as bs→gW R as (bs.map g)
 | [],[],_=>trivial
 | _::_,_::_,h=>⟨h.1,Bb h.2⟩
 | [],_::_,h=>h.elim
 | _::_,[],h=>h.elim
theorem Eh (h:es.map (·.2)=hs.map (fun x=>fT b x.2)):Alike (parts gY es es.length) (gP hs b):=Bb (Qu h)
theorem Ou {b c:Int}:(c:Rat)/(b:Rat)+(c:Rat)/(b:Rat)=((2*c:Int):Rat)/(b:Rat):=by
 rw [sW]
 grind
inductive Cm (vs:List V) (H:Hp) (Q:VK) (E_:XK):Prop where
 | mk (R Z pl:ao) (es:List Nn) (ts:List T3) (b c num flag:Int) (jo:Bool):vs=[.ref R,.int b,.str (kg jo),.ref pl,.int num,.ref Z,.int flag]→H R=some (.lst (bU es))→l9 H es 45 150→gB es→es.length≤20→1≤b→Sz 80 b→bV H pl ((c:Rat)/(b:Rat)) 150→H Z=some (.lst (kc ts))→lX H ts→ts.length≤900→(∀H',aq H H'→Q (.bl (Xs num (Ez (gP es b) (((2*c:Int):Rat)/(b:Rat)) jo (decide (flag=1)) (ts.map (·.2))))) H')→Cm vs H Q E_
section
theorem jr:aE ["_law_row_here","_law_bottom","_law_way","_law_limit","_law_number","_law_paper","_law_flag","_law_handed_here","_law_told","_law_found"] ["_law_row_here","_law_bottom","_law_way","_law_limit","_law_number","_law_paper","_law_flag"] (ah vg):=0#a
theorem Je (F:cH K "_law_asks" "_law_asks" vg f fd) (T:Txt mg) (gn:Dn P w K mg base 2 "_law_handed" ["_law_row_here","_law_bottom"] wK) (qW:DnB P w K mg base 8 "shows" ["row","way","bound","number","paper","at"] qA false) (AX:DnK P w K mg base 8 "shows" ["row","way","bound","number","paper","at"] qA "at"):bg P w K mg base cM 9 f fd ["_law_row_here","_law_bottom","_law_way","_law_limit","_law_number","_law_paper","_law_flag"] Cm:=by
 have M9:=qW.two
 refine F.ok jr 0#e 0#b
 ·obtain ⟨R,Z,pl,es,ts,b,c,num,flag,jo,rfl,_⟩:=h
  rfl
 obtain ⟨R,Z,pl,es,ts,b,c,num,flag,jo,rfl,hR,hes,cK,Kn,hb,zb,hq,hZ,hT,hts,k⟩:=h
 have mQ:=hr.units
 generalize afk:Xs num (Ez (gP es b) (((2*c:Int):Rat)/(b:Rat)) jo (decide (flag=1)) (ts.map (·.2)))=ans at k
 refine bD (Jd.cut 3 (fun σ H'=>∃(R1 D:ao) (e1:List En),σ=[some (.ref R),some (.int b),some (.str (kg jo)),some (.ref pl),some (.int num),some (.ref Z),some (.int flag),some (.ref R1),some (.ref D),some (.bl ans)]∧aq H H'∧H' R1=some (.lst (vals e1))∧Row H' e1 150∧e1.map (·.2)=es.map (fun x=>fT b x.2)∧H' D=some (.lst (kc ts))) ?_ fun u hu Wg=>?_)
 ·refine ⟨_,(au (bK (jR (Jd.nQ (Jd.qi (o7 (fj (Wy K) rfl T.nN Ow (bT (aa 9) (Jd.Ep rfl T.XU YK)) (he:=aP) (hpl:=(bB aP bS))))) (Jd.nQ (bh (SY mQ) (aa 8) (aa 5) (aD _)) (Jd.lG (bh (SY mQ) (aa 7) (b9 gn hr 0#m 0#x) (aD _)))))) (aG (aR dW)) bW) (aG (aR (aa 9)))),?_⟩
  rintro σ H1 ⟨R1,D,e1,rfl,s1,eR1,hr1,hm1,eD⟩
  rw?
  refine N9 (.bl _) aa9 ?_
  rw?
  refine bE ?_
  rw?
  refine ad1 (hT.up s1) eD (s1 _ _ hZ) ?_
  rw?
  refine bE ?_
  rw?
  refine ⟨R,es,b,45,150,80,150,rfl,s1 _ _ hR,hes.up s1,by simp?,hb,zb,by decide,by decide,by decide,by decide,fun R2 e2 H2 s2 n2 eR2 hr2 hm2=>?_⟩
  rw?
  refine Xk (hr1.up s2) hr2 (s2 _ _ eR1) eR2 (hm1.trans hm2.symm) ?_
  rw?
  refine bE ?_
  rw?
  exact k H2 (s1.trans s2)
 refine ⟨_,(au (aN 7 jr.nd (b9 gn hr 0#m 0#x)) (au (aN 8 jr.nd (Bs qe rfl T.Sn Uu (cO (aa 5)))) (au (bK (bh cI (aa 6) aB (aD _)) (aG (aN 9 jr.nd (Jd.S7 qW 0#A rfl (bX (aa 7) (Jd.a4 (aa 2) (aa 3) (aa 4) (aa 8)) aP) (he:=aP) (hpl:=(bB aP (bB aP (bB aP (bB aP bS)))))))) (aG (bK (bh cI (aa 6) aB (aD _)) (aG (aN 9 jr.nd (Jd.L7 AX 0#A rfl (bX (aa 7) (Jd.a4 (aa 2) (aa 3) (aa 4) (aa 8)) aP) lT))) (aG (aN 9 jr.nd (d9 M9 0#A rfl (bX (aa 7) (bX (aa 2) (Jd.a4 (aa 3) (aa 4) (aa 8) lT) aP) aP) (he:=aP) (hpl:=(bB aP (bB aP (bB aP (bB aP (bB iK bS)))))))))))) hu))),?_⟩
 rw?
 refine ⟨R,es,b,45,150,80,150,rfl,hR,hes,by simp?,hb,zb,by decide,by decide,by decide,by decide,fun R1 e1 H1 s1 n1 eR1 hr1 hm1=>?_⟩
 have hel:e1.length=es.length:=Bw hm1
 have afx:=rH hm1 cK
 rw?
 refine ⟨Z,_,rfl,.inl (aW.of (s1 _ _ hZ)),fun D nD=>?_⟩
 have s2:aq H1 (upd H1 D (.lst (kc ts))):=fW nD _
 have eD:upd H1 D (.lst (kc ts)) D=some (.lst (kc ts)):=av
 generalize upd H1 D (.lst (kc ts))=H2 at s2 eD ⊢
 have eB:=s1.trans s2
 have hsh:∀(at_:Bool) (Q':VK),at_=decide (flag=1)→(∀H',aq H2 H'→Q' (.bl ans) H')→qA [.ref R1,.str (kg jo),.ref pl,.int num,.ref D,.bl at_] H2 Q' E0:=fun at_ Q' ea k'=>⟨R1,pl,D,ts,e1,150,150,_,jo,at_,num,rfl,s2 _ _ eR1,hr1.up s2,afx,by simp?,hq.up eB,by decide,by decide,eD,hT.up eB,hts,fun H' s'=>by
  rw [Ou,EA (Eh hm1),ea,afk]
  exact k' H' s'⟩
 have fin:∀H3,aq H2 H3→u { nx:=fun _ H'=>Q .bC H',rt:=Q } [some (.ref R),some (.int b),some (.str (kg jo)),some (.ref pl),some (.int num),some (.ref Z),some (.int flag),some (.ref R1),some (.ref D),some (.bl ans)] H3:=fun H3 s3=>Wg _ _ ⟨R1,D,e1,rfl,eB.trans s3,(s2.trans s3) _ _ eR1,hr1.up (s2.trans s3),hm1,s3 _ _ eD⟩
 rw?
 refine cu (fun c0=>?_) (fun c0=>?_)
 ·have c0:flag=0:=c6 c0
  rw?
  exact hsh false _ (by rw [gJ 0#c]) fun H3 s3=>fin H3 s3
 ·rw?
  refine cu (fun c1=>?_) (fun c1=>?_)
  ·have c1:flag=1:=c6 c1
   rw?
   exact hsh true _ (by rw [dz c1]) fun H3 s3=>fin H3 s3
  ·have c1:¬flag=1:=jw (iU.mpr c1)
   rw?
   exact hsh false _ (by rw [gJ c1]) fun H3 s3=>fin H3 s3
end
def De (H:Hp) (ls:O9) (u:ao):Prop:=∃q∈ls,∃(i j k:Nat) (x y z:Nn),i<j∧j<k∧q.2[i]?=some x∧q.2[j]?=some y∧q.2[k]?=some z∧H u=some (.lst [.ref x.1,.ref y.1,.ref z.1])
theorem De.up (h:De H ls u) (s:H u=H' u):De H' ls u:=by
 obtain ⟨q,hq,i,j,k,x,y,z,a,b,c,d,e,f⟩:=h
 exact ⟨q,hq,i,j,k,x,y,z,a,b,c,d,e,by rw [← s];exact f⟩
theorem De.ups (h:De H ls u) (s:aq H H'):De H' ls u:=by
 obtain ⟨q,hq,i,j,k,x,y,z,a,b,c,d,e,f⟩:=h
 exact ⟨q,hq,i,j,k,x,y,z,a,b,c,d,e,s _ _ f⟩
def Jt (H H5:Hp) (S:ao) (ls:O9) (m:Nat):Prop:=aq H H5∧∃us:List ao,H5 S=some (.lst (us.map V.ref))∧(∀u∈us,De H5 ls u∧u≠S∧H u=none)∧us.length≤m
theorem Jt.mono (h:Jt H H5 S ls m) (hm:m≤n):Jt H H5 S ls n:=by
 obtain ⟨a,us,b,c,d⟩:=h
 exact ⟨a,us,b,c,by simp?⟩
def tl (ls:O9) (e:Nat):Nat:=((ls.take e).map fun x=>x.2.length).sum
theorem Ot (h:ls[e]?=some q):tl ls (e+1)=tl ls e+q.2.length:=by
 unfold tl
 rw [qO,h,UM,ju,List.sum_append]
 simp
theorem Oq:∀(d e:Nat),tl ls e≤tl ls (e+d)
 | 0,e=>dm _
 | d+1,e=>by
   refine dI (Oq d e) ?_
   cases h:ls[e+d]? with
   | none=>
     have hl:=List.getElem?_eq_none_iff.mp h
     unfold tl
     rw [JT hl,JT 0#c]
     exact dm _
   | some q=>
     rw [show e+(d+1)=e+d+1 by simp?,Ot h]
     simp?
theorem ad3 (h:tl ls ls.length≤n) (he:e≤ls.length):tl ls e≤n:=by
 have:=Oq (ls:=ls) (ls.length-e) e
 rw [show e+(ls.length-e)=ls.length by simp?] at this
 simp?
theorem MJ (h:n≤20000):n<sizeLine:=Ax h 0#h
inductive ML (vs:List V) (H:Hp) (Q:VK) (E_:XK):Prop where
 | mk (TT:ao) (ls:O9):vs=[.ref TT]→H TT=some (.lst (QZ ls))→XO H ls→ls.length≤9→(∀x∈ls,x.2.length≤9)→tl ls ls.length≤9→(∀(S:ao) (us:List ao) (H':Hp),aq H H'→H S=none→H' S=some (.lst (us.map V.ref))→(∀u∈us,De H' ls u∧H u=none)→us.length≤441→Q (.ref S) H')→ML vs H Q E_
inductive Co (vs:List V) (H:Hp) (Q:VK) (E_:XK):Prop where
 | mk (TT pb W:ao) (ls:O9) (c:Int) (jo at_:Bool) (ss:List Int):vs=[.ref TT,.str (kg jo),.ref pb,.bl at_,.ref W]→H TT=some (.lst (QZ ls))→XO H ls→ls.length≤9→(∀x∈ls,x.2.length≤9)→tl ls ls.length≤9→H pb=some (.tup [.int c,.int 1])→Sz 150 c→H W=some (.lst (ss.map V.int))→1≤ss.length→(∀(Z:ao) (ts:List T3) (H':Hp),aq H H'→H' Z=some (.lst (kc ts))→lX H' ts→ts.length≤441→Q (.ref Z) H')→Co vs H Q E_
section
theorem dg:aE ["_law_parts","_law_some","_law_part","_law_last","_law_mid","_law_one"] ["_law_parts"] (ah j4):=0#a
theorem vV (F:cH K "_law_all_threes" "_law_all_threes" j4 f fd) (T:Txt mg):bg P w K mg base cM 1 f fd ["_law_parts"] ML:=by
 refine F.ok dg 0#e 0#b
 ·obtain ⟨TT,ls,rfl,_⟩:=h
  rfl
 obtain ⟨TT,ls,rfl,eT,We,hl9,hx9,ht9,k⟩:=h
 refine bD ⟨_,(au (aN 1 dg.nd (dP gc)) (au (fK iM rfl (gU K 0#m) (bQ (i:=2) dg.nd rfl 0#n) (aG (fK iM rfl (Jd.pK rfl T.range (bT aB (cR K T.gA (aa 2)))) (bQ (i:=3) dg.nd rfl 0#n) (aG (fK iM rfl (Jd.pK rfl T.range (bT aB (aa 3))) (bQ (i:=4) dg.nd rfl 0#n) (aG (fK iM rfl (Jd.j3 rfl T.range (cO (aa 4))) (bQ (i:=5) dg.nd rfl 0#n) (aG (gE (d7 K 0#x (dP (Jd.a3 (cy (lS K) (aa 2) (aa 5) 0#o) (cy (lS K) (aa 2) (aa 4) 0#o) (cy (lS K) (aa 2) (aa 3) 0#o)))) (hs:=fL)))))))))) (aG (aR 0#x)))),?_⟩
 rw?
 refine aF (mk:=.lst) 0#f fun S H1 s1 n1 e1=>?_
 rw?
 refine gH (gV ?_)
 rw?
 refine ⟨TT,rfl,⟨_,aW.of (s1 _ _ eT)⟩,cL (xs:=QZ ls) (fun e σ H5=>Jt H H5 S ls (49*tl ls e)∧∃v2 v3 v4 v5:Option V,σ=[some (.ref TT),some (.ref S),v2,v3,v4,v5]) ⟨⟨s1,[],e1,fun u hu=>absurd hu 0#f,nH _⟩,none,none,none,none,rfl⟩ ?_ ?_ ?_⟩
 ·rintro e σ H5 _ ⟨⟨s5,_⟩,_⟩
  exact aW.of (s5 _ _ eT)
 ·rintro e v σ H5 hv ⟨I5,v2,v3,v4,v5,rfl⟩
  unfold QZ at hv
  rw [jQ] at hv
  obtain ⟨⟨L,hs⟩,gq,rfl⟩:=oU.mp hv
  have htl:tl ls (e+1)=tl ls e+hs.length:=Ot gq
  have hte:tl ls e≤9:=ad3 ht9 (ur (fZ.mp gq).1)
  have hqm:=jL gq
  have hN:NR H L hs:=We _ hqm
  have h9:hs.length≤9:=hx9 _ hqm
  have N5:=hN.up I5.1
  rw?
  refine gH (Ms ?_)
  rw?
  refine cE (.inl (aW.of N5.at_)) ?_
  rw [bZ]
  rw?
  refine ⟨_,_,rfl,⟨by lia,by lia,by lia,by lia⟩,ji (fun m σ H6=>Jt H H6 S ls (49*tl ls e+m*49)∧∃v3 v4 v5:Option V,σ=[some (.ref TT),some (.ref S),some (.ref L),v3,v4,v5]) ⟨I5,_,_,_,rfl⟩ ?_ ?_⟩
  ·rintro m σ H6 hm ⟨I6,v3,v4,v5,rfl⟩
   have hm':2+m<hs.length:=by simp?
   rw [show (2:Int)+(m:Int)=((2+m:Nat):Int) by simp?]
   rw?
   refine gH (Ms ?_)
   rw?
   refine ⟨_,_,rfl,⟨by lia,by lia,by lia,by lia⟩,ji (fun m2 σ H7=>Jt H H7 S ls (49*tl ls e+m*49+m2*7)∧∃v4 v5:Option V,σ=[some (.ref TT),some (.ref S),some (.ref L),some (.int ((2+m:Nat):Int)),v4,v5]) ⟨I6,_,_,rfl⟩ ?_ ?_⟩
   ·rintro m2 σ H7 hm2 ⟨I7,v4,v5,rfl⟩
    have afr:1+m2<2+m:=by simp?
    rw [show (1:Int)+(m2:Int)=((1+m2:Nat):Int) by simp?]
    rw?
    refine gH (GH ?_)
    rw?
    refine ⟨_,rfl,by lia,by lia,ji (fun m3 σ H8=>Jt H H8 S ls (49*tl ls e+m*49+m2*7+m3)∧∃v5:Option V,σ=[some (.ref TT),some (.ref S),some (.ref L),some (.int ((2+m:Nat):Int)),some (.int ((1+m2:Nat):Int)),v5]) ⟨I7,_,rfl⟩ ?_ ?_⟩
    ·rintro m3 σ H8 hm3 ⟨⟨s8,us,e8,Vz,hul⟩,v5,rfl⟩
     have afs:m3<1+m2:=by simp?
     rw [show (0:Int)+(m3:Int)=(m3:Int) by simp?]
     have N8:=hN.up s8
     obtain ⟨x,gx,ex,_⟩:=qI N8.row N8.all (show m3<hs.length by simp?)
     obtain ⟨y,gy,ey,_⟩:=qI N8.row N8.all (show 1+m2<hs.length by simp?)
     obtain ⟨z,gz,ez,_⟩:=qI N8.row N8.all hm'
     rw?
     refine ⟨.inl ⟨rfl,_,aW.of e8⟩,?_⟩
     rw?
     refine cG N8.at_ (AD gx rfl) ?_
     rw?
     refine cG N8.at_ (AD gy rfl) ?_
     rw?
     refine cG N8.at_ (AD gz rfl) ?_
     rw?
     refine aF (mk:=.lst) 0#f fun D H9 s9 n9 e9=>?_
     rw?
     refine cZ (s9 _ _ e8) (by rw [eV];exact MJ 0#c) ?_
     have dS:D≠S:=fun z=>by rw [z,e8] at n9;cases n9
     rw?
     refine ⟨⟨bw (s8.trans s9) n1,us++[D],?_,fun u hu=>?_,?_⟩,_,rfl⟩
     ·rw [av,ju]
      rfl
     ·rcases dH.mp hu with hu | hu
      ·obtain ⟨a,b,c⟩:=Vz u hu
       exact ⟨(a.ups s9).up (aI b).symm,b,c⟩
      ·obtain rfl:u=D:=by simpa using hu
       exact ⟨⟨(L,hs),hqm,m3,1+m2,2+m,x,y,z,afs,afr,gx,gy,gz,by rw [aI dS];exact e9⟩,dS,s8.free n9⟩
     ·rw [cJ]
      simp only [iu,kh]
      simp?
    ·rintro σ H8 ⟨I8,v5,rfl⟩
     exact ⟨I8.mono 0#c,_,_,rfl⟩
   ·rintro σ H7 ⟨I7,v4,v5,rfl⟩
    exact ⟨I7.mono 0#c,_,_,_,rfl⟩
  ·rintro σ H6 ⟨I6,v3,v4,v5,rfl⟩
   exact ⟨I6.mono 0#c,_,_,_,_,rfl⟩
 ·rintro σ H5 ⟨⟨s5,us,e5,Vz,hul⟩,v2,v3,v4,v5,rfl⟩
  rw?
  refine k S us H5 s5 n1 e5 (fun u hu=>⟨(Vz u hu).1,(Vz u hu).2.2⟩) ?_
  have e:(QZ ls).length=ls.length:=by unfold QZ;rw [eV]
  rw [e] at hul
  simp?
theorem fJ:aE ["_law_parts","_law_way","_law_bound","_law_flush","_law_skips","_law_ends","_law_paper","_law_threes","_law_k","_law_held","_law_shape"] ["_law_parts","_law_way","_law_bound","_law_flush","_law_skips"] (ah qm):=0#a
theorem DC (F:cH K "_law_chosen" "_law_chosen" qm f fd) (T:Txt mg) (jT:Dn P w K mg base 1 "_law_all_threes" ["_law_parts"] ML) (iz:Dn P w K mg base 2 "_law_worthy" ["_law_held","_law_bound","_law_by","_law_flush"] wV) (eY:Dn P w K mg base 2 "_law_lies_over" ["_law_held","_law_way"] qz):bg P w K mg base cM 3 f fd ["_law_parts","_law_way","_law_bound","_law_flush","_law_skips"] Co:=by
 refine F.ok fJ 0#e 0#b
 ·obtain ⟨TT,pb,W,ls,c,jo,at_,ss,rfl,_⟩:=h
  rfl
 obtain ⟨TT,pb,W,ls,c,jo,at_,ss,rfl,eT,We,hl9,hx9,ht9,eb,zc,eW,h1,k⟩:=h
 have mQ:=hr.units
 refine bD ⟨_,(au (aN 5 fJ.nd Jd.rQ) (au (aN 6 fJ.nd (dP gc)) (au (aN 7 fJ.nd (Jd.c1 jT hr 0#m)) (au (fK iM rfl (Jd.j3 rfl T.range (cO (cR K T.gA (aa 7)))) (bQ (i:=8) fJ.nd rfl 0#n) (au (aN 9 fJ.nd (cy (lS K) (aa 7) (aa 8) 0#o)) (aG (bK (jR (Jd.mV (o7 (d9 iz 0#A rfl (Jd.a4 (aa 9) (aa 2) aB (aa 3)) (he:=aP) (hpl:=(bB aP (bB iK (bB aP bS)))))) (Jd.kH (bh cY (cy (lS K) (aa 4) (aJ fG (aa 8) (cR K T.gA (aa 4))) 0#o) aB (aD _))))) (au (aN 10 fJ.nd (b9 eY hr (aa 9) 0#x)) (aG (bK (jR (Jd.nQ (bh (W4 mQ) (aa 10) (aa 5) rfl) (Jd.lG (bh vY (aK K (cW K (aa 9))) (Jd.wj mQ (aa 5) (aa 10) 0#o) (aD _))))) (au (Jd.wu mQ (aa 5) (aa 10) (aK K (cW K (aa 9)))) (aG (gE (d7 K (aa 6) (bR (Jd.a3 (aK K (cW K (aa 9))) (aK K (cW K (aa 9))) (aK K (cW K (aa 9)))))) (hs:=fL)))) bW))) bW)))) (aG (aR (aa 6))))))),?_⟩
 rw?
 refine GG fun E0 H1 s1 n1 e1=>?_
 rw?
 refine aF (mk:=.lst) 0#f fun Z H2 s2 n2 e2=>?_
 have eB:=s1.trans s2
 have nZ:H Z=none:=s1.free n2
 have zE:Z≠E0:=fun z=>by rw [z,e1] at n2;cases n2
 rw?
 refine ⟨TT,ls,rfl,eB _ _ eT,We.up eB,hl9,hx9,ht9,fun S us H3 s3 nS eS Vz hul=>?_⟩
 have SZ:S≠Z:=fun w=>by rw [w,e2] at nS;cases nS
 have uZ:∀u∈us,u≠Z:=fun u hu w=>by
  have:=(Vz u hu).2
  rw [w,e2] at this
  cases this
 have xH:=eB.trans s3
 rw?
 refine gH (GH ?_)
 rw?
 refine cE (.inl (aW.of eS)) ?_
 rw [eV]
 rw?
 refine ⟨_,rfl,by lia,by lia,ji (fun m σ H5=>∃(v8 v9 v10:Option V) (kvs:List (Key×V)) (ts:List T3),σ=[some (.ref TT),some (.str (kg jo)),some (.ref pb),some (.bl at_),some (.ref W),some (.ref E0),some (.ref Z),some (.ref S),v8,v9,v10]∧aq H H5∧H5 S=some (.lst (us.map V.ref))∧(∀u∈us,De H5 ls u)∧H5 E0=some (.dK kvs)∧kvs.length≤m∧(∀s v,dX kvs (.inr s)=some v→∃n:Int,v=.int n)∧H5 Z=some (.lst (kc ts))∧lX H5 ts∧ts.length≤m) ⟨none,none,none,[],[],rfl,xH,eS,(fun u hu=>(Vz u hu).1),(s2.trans s3) _ _ e1,dm _,fun s v hv=>(by cases hv),s3 _ _ e2,fun x hx=>absurd hx 0#f,dm _⟩ ?_ ?_⟩
 ·rintro m σ H5 hm ⟨v8,v9,v10,kvs,ts,rfl,s5,eS5,Sb,eE,II,hkv,eZ,hT,htl⟩
  have hm':m<us.length:=by simp?
  rw [show (0:Int)+(m:Int)=(m:Int) by simp?]
  obtain ⟨u,gu⟩:∃u,us[m]?=some u:=⟨_,je hm'⟩
  obtain ⟨q,hq,i,j,kk,x,y,z,hij,hjk,gx,gy,gz,eu⟩:=Sb u (jL gu)
  have nq:=(We.up s5) q hq
  obtain ⟨x',hx',ex,_⟩:=qI nq.row nq.all (fZ.mp gx).1
  obtain ⟨y',hy',ey,_⟩:=qI nq.row nq.all (fZ.mp gy).1
  obtain ⟨z',hz',ez,_⟩:=qI nq.row nq.all (fZ.mp gz).1
  rw [gx] at hx';cases hx'
  rw [gy] at hy';cases hy'
  rw [gz] at hz';cases hz'
  refine gZ fun MM BB RR hMM _ hRR=>?_
  have skip:∀v10:Option V,MM [some (.ref TT),some (.str (kg jo)),some (.ref pb),some (.bl at_),some (.ref W),some (.ref E0),some (.ref Z),some (.ref S),some (.int (m:Int)),some (.ref u),v10] H5:=fun v10=>hMM _ _ ⟨_,_,_,kvs,ts,rfl,s5,eS5,Sb,eE,by simp?,hkv,eZ,hT,by simp?⟩
  rw?
  refine cG eS5 (fh (by rw [jQ,gu];rfl)) ?_
  rw?
  refine ⟨u,pb,q.1,q.2,i,j,kk,x,y,z,c,at_,rfl,nq,gx,gy,gz,eu,s5 _ _ eb,zc,?_⟩
  rw?
  cases hw:wy q.2 (2*c) at_ i j kk with
  | false=>
    refine bE ?_
    rw?
    refine bE ?_
    rw?
    exact skip _
  | true=>
    refine bJ ?_
    rw?
    refine cE (.inl (aW.of (s5 _ _ eW))) ?_
    rw [eV]
    refine iC (show (0:Int)<(ss.length:Int) by simp?) ?_
    have m0:0≤(m:Int) % (ss.length:Int):=vH _ 0#c
    have m1:(m:Int) % (ss.length:Int)<(ss.length:Int):=uh _ 0#c
    obtain ⟨p,hp⟩:∃p:Nat,(m:Int) % (ss.length:Int)=(p:Int):=⟨((m:Int) % (ss.length:Int)).toNat,by simp?⟩
    rw [hp] at m0 m1 ⊢
    obtain ⟨sv,gs⟩:∃sv,ss[p]?=some sv:=⟨_,je 0#c⟩
    refine cG (s5 _ _ eW) (aV gs rfl) ?_
    rw?
    refine cu (fun _=>?_) (fun _=>?_)
    ·rw?
     refine ⟨u,q.1,q.2,i,j,kk,x,y,z,jo,rfl,nq,gx,gy,gz,eu,?_⟩
     generalize shp jo (I0 q.2 i j kk)=sh
     have uE:u≠E0:=fun w=>by rw [w,eE] at eu;cases eu
     have ZE:Z≠E0:=fun w=>by rw [w,eE] at eZ;cases eZ
     have SE:S≠E0:=fun w=>by rw [w,eE] at eS5;cases eS5
     have tup:∀{d:HO} {a:ao} {vs:List V},H5 a=some (.tup vs)→upd H5 E0 d a=some (.tup vs):=fun {d a vs} e=>by rw [aI (fun w=>by rw [w,eE] at e;cases e)];exact e
     have add:Ar (Oa (CC 5) (CC 10) (HA (BV K) (HA (Jr K) (CC 9) (tC (V.int 2))) (tC (V.int 0)))) (Oo (XA K "list" wz (CC 6) (dN (XC (dN (HA (BV K) (HA (Jr K) (CC 9) (tC (V.int 0))) (tC (V.int 0))) (dN (HA (BV K) (HA (Jr K) (CC 9) (tC (V.int 1))) (tC (V.int 0))) (dN (HA (BV K) (HA (Jr K) (CC 9) (tC (V.int 2))) (tC (V.int 0))) nA)))) nA))) { nx:=MM,rt:=RR,bk:=BB,ct:=MM } [some (.ref TT),some (.str (kg jo)),some (.ref pb),some (.bl at_),some (.ref W),some (.ref E0),some (.ref Z),some (.ref S),some (.int (m:Int)),some (.ref u),some (.str sh)] H5:=by
      walk_at "ve"
      refine cG eu at2 ?_
      walk_at "ve"
      refine ⟨E0,_,rfl,EZ.k (k:=Sum.inr sh) eE (aO 0#c),?_⟩
      have eZ6:upd H5 E0 (.dK 0#C) Z=some (.lst (kc ts)):=by rw [aI ZE];exact eZ
      have eu6:upd H5 E0 (.dK 0#C) u=some (.lst [.ref x.1,.ref y.1,.ref z.1]):=by rw [aI uE];exact eu
      have eS6:upd H5 E0 (.dK 0#C) S=some (.lst (us.map V.ref)):=by rw [aI SE];exact eS5
      have s6:aq H (upd H5 E0 (.dK 0#C)):=bw s5 n1
      have eE6:upd H5 E0 (.dK 0#C) E0=some (.dK 0#C):=av
      have ex6:=tup (d:=.dK 0#C) ex
      have ey6:=tup (d:=.dK 0#C) ey
      have ez6:=tup (d:=.dK 0#C) ez
      have hT6:lX (upd H5 E0 (.dK 0#C)) ts:=fun w PY=>tup (hT w PY)
      have afA:∀w∈us,De (upd H5 E0 (.dK 0#C)) ls w:=fun w PY=>(Sb w PY).up (aI (fun w'=>by
       obtain ⟨_,_,_,_,_,_,_,_,_,_,_,_,_,e⟩:=Sb w PY
       rw [w',eE] at e
       cases e)).symm
      generalize upd H5 E0 (.dK 0#C)=H6 at *
      walk_at "ve"
      refine ⟨.inl ⟨rfl,_,aW.of eZ6⟩,?_⟩
      walk_at "ve"
      refine cG eu6 XS ?_
      walk_at "ve"
      refine cG eu6 XT ?_
      walk_at "ve"
      refine cG eu6 at2 ?_
      walk_at "ve"
      refine aF (mk:=.tup) 0#f fun t H7 s7 n7 e7=>?_
      walk_at "ve"
      refine cZ (s7 _ _ eZ6) (by rw [bq];exact aO 0#c) ?_
      have tu:∀{a:ao} {vs:List V} {d:HO},H7 a=some (.tup vs)→upd H7 Z d a=some (.tup vs):=fun {a vs d} e=>by rw [aI (fun w=>by rw [w,s7 _ _ eZ6] at e;cases e)];exact e
      refine hMM _ _ ⟨_,_,_,putK kvs (Sum.inr sh) (.int (fS q.2 kk)),ts++[(t,fS q.2 i,fS q.2 j,fS q.2 kk)],rfl,bw (s6.trans s7) nZ,?_,fun w PY=>?_,?_,dI (kQ _ _ _) 0#c,fun s' v' hv'=>?_,?_,fun w PY=>?_,?_⟩
      ·rw [aI SZ]
       exact s7 _ _ eS6
      ·exact ((afA w PY).ups s7).up (aI (uZ w PY)).symm
      ·rw [aI (fun w=>ZE w.symm)]
       exact s7 _ _ eE6
      ·rw [wZ] at hv'
       split at hv'
       ·exact ⟨_,(lQ hv').symm⟩
       ·exact hkv s' v' hv'
      ·rw [av]
       unfold kc
       rw [ju]
       rfl
      ·rcases dH.mp PY with PY | PY
       ·exact tu (s7 _ _ (hT6 w PY))
       ·obtain rfl:w=(t,fS q.2 i,fS q.2 j,fS q.2 kk):=by simpa using PY
        exact tu e7
      ·rw [cJ]
       simp only [iu,kh]
       simp?
     walk_at "ve"
     refine ⟨E0,_,rfl,uF.k (k:=Sum.inr sh) eE,?_⟩
     walk_at "ve"
     cases hl:dX kvs (Sum.inr sh) with
     | none=>
       refine bJ ?_
       walk_at "ve"
       refine bJ ?_
       exact add
     | some v=>
       obtain ⟨n,rfl⟩:=hkv sh v hl
       refine bE ?_
       walk_at "ve"
       refine cG eu XS ?_
       walk_at "ve"
       refine ⟨E0,.int n,rfl,(by have:=uF.k (k:=Sum.inr sh) eE;rw [hl] at this;exact this),?_⟩
       walk_at "ve"
       refine cu (fun _=>?_) (fun _=>?_)
       ·exact add
       ·walk_at "ve"
        exact skip _
    ·rw?
     exact skip _
 ·rintro σ H5 ⟨v8,v9,v10,kvs,ts,rfl,s5,eS5,Sb,eE,II,hkv,eZ,hT,htl⟩
  rw?
  exact k Z ts H5 s5 eZ hT 0#c
end
theorem dU (ts:List T3) (lo hi:Option Int):∃us:List T3,oE (kc ts) lo hi=kc us∧us.length≤ts.length∧∀x∈us,x∈ts:=by
 unfold oE kc
 rw [← ZQ,← List.map_take]
 exact ⟨_,rfl,by rw [C4,jO];simp?,fun x hx=>OD (UA hx)⟩
theorem Hy (a b:List T3):kc a++kc b=kc (a++b):=by unfold kc;rw [ju]
inductive MN (vs:List V) (H:Hp) (Q:VK) (E_:XK):Prop where
 | mk (Z R W:ao) (ts:List T3) (es:List Nn) (xs:List Int):vs=[.ref Z,.ref R,.ref W]→H Z=some (.lst (kc ts))→lX H ts→ts.length≤441→H R=some (.lst (bU es))→l9 H es 45 150→es.length≤40→H W=some (.lst (xs.map V.int))→6≤xs.length→(∀(D:ao) (us:List T3) (H':Hp),aq H H'→H' D=some (.lst (kc us))→lX H' us→us.length≤900→Q (.ref D) H')→MN vs H Q E_
section
theorem fB:aE ["_law_paper","_law_row_here","_law_some","_law_three","_law_flush","_law_one","_law_mid","_law_last","_law_moved"] ["_law_paper","_law_row_here","_law_some"] (ah vh):=0#a
theorem Jf (F:cH K "_law_bent" "_law_bent" vh f fd) (T:Txt mg):bg P w K mg base cM 1 f fd ["_law_paper","_law_row_here","_law_some"] MN:=by
 refine F.ok fB 0#e 0#b
 ·obtain ⟨Z,R,W,ts,es,xs,rfl,_⟩:=h
  rfl
 obtain ⟨Z,R,W,ts,es,xs,rfl,eZ,hT,hts,eR,hes,xF,eW,h6,k⟩:=h
 have mQ:=hr.units
 have at':∀{j:Nat},j<6→∃v,xs[j]?=some v:=fun {j} hj=>⟨_,je 0#c⟩
 obtain ⟨x0,g0⟩:=at' (show 0<6 by decide)
 obtain ⟨x1,g1⟩:=at' (show 1<6 by decide)
 obtain ⟨x2,g2⟩:=at' (show 2<6 by decide)
 obtain ⟨x5,g5⟩:=at' (show 5<6 by decide)
 refine bD (Jd.cut 4 (fun σ H'=>∃(p:ao) (a b c:Int),σ=[some (.ref Z),some (.ref R),some (.ref W),some (.ref p)]++ko 5 none∧aq H H'∧H' p=some (.tup [.int a,.int b,.int c])) ?_ fun u hu Wg=>?_)
 ·refine ⟨_,(au (aN 4 fB.nd (aJ fG (cW K (aa 2)) (aJ bO (cR K T.gA 0#m) aB))) (au (bK (jR (Jd.nQ (bh cI (cW K (aa 2)) aB (aD _)) (Jd.lG (bh cI (aa 4) (cR K T.gA 0#m) (aD _))))) (aG (aR (aJ iG (aJ iG (jj (EB K) 0#m jk (jl (aa 4))) (dP (cO (aa 3)))) (jj (EB K) 0#m (jl (aa 4)) jk)))) bW) (au (Jd.rS (cy (lS K) 0#m (aa 4) 0#o) (Jd.Qo K (n:=3) rfl (d8 (bQ (i:=5) fB.nd rfl 0#n) (d8 (bQ (i:=6) fB.nd rfl 0#n) (d8 (bQ (i:=7) fB.nd rfl 0#n) o6))))) (au (bK (bh cI (cW K (aa 2)) aB (aD _)) (aG (aR (aJ iG (aJ iG (jj (EB K) 0#m jk (jl (aa 4))) (dP (cO (aa 3)))) (jj (EB K) 0#m (jl (aJ bO (aa 4) aB)) jk)))) bW) (au (bK (bh cI (cW K (aa 2)) aB (aD _)) (aG (aR (aJ iG (jj (EB K) 0#m jk (jl (aJ bO (aa 4) aB))) (jj (EB K) 0#m (jl (aa 4)) jk)))) bW) (au (bK (jR (Jd.mV (bh cI (cW K (aa 2)) aB (aD _)) (Jd.kH (bh cY (aa 4) aB (aD _))))) (aG (aR (aJ iG (aJ iG (jj (EB K) 0#m jk (jl (aJ cB (aa 4) aB))) (dP (bT (cy (lS K) 0#m (aa 4) 0#o) (cy (lS K) 0#m (aJ cB (aa 4) aB) 0#o)))) (jj (EB K) 0#m (jl (aJ bO (aa 4) aB)) jk)))) bW) (au (bK (bh cI (cW K (aa 2)) aB (aD _)) (au (aN 8 fB.nd (dP (Jd.a3 (aa 5) (aa 6) (aa 7)))) (au (Jd.rS (aJ bO (cy (lS K) (aa 8) (aJ fG (cW K (aa 2)) aB) 0#o) aB) (Jd.Mj (aa 8) (aJ fG (cW K (aa 2)) aB) set_list)) (aG (aR (aJ iG (aJ iG (jj (EB K) 0#m jk (jl (aa 4))) (dP (cO (Bs kB rfl T.CF JS (cO (aa 8)))))) (jj (EB K) 0#m (jl (aJ bO (aa 4) aB)) jk)))))) bW) (au (bK (bh cI (cW K (aa 2)) aB (aD _)) (aG (aR (aJ iG (aJ iG (jj (EB K) 0#m jk (jl (aa 4))) (dP (cO (bR (Jd.a3 (aK K (aa 3)) (aa 6) (aa 7)))))) (jj (EB K) 0#m (jl (aJ bO (aa 4) aB)) jk)))) bW) (aG (aR (aJ iG (aJ iG (jj (EB K) 0#m jk (jl (aa 4))) (dP (cO (bR (Jd.a3 (aa 7) (aa 6) (aa 5)))))) (jj (EB K) 0#m (jl (aJ bO (aa 4) aB)) jk)))))))))))),?_⟩
  rintro σ H1 ⟨p,a,b,c,rfl,s1,ep⟩
  have RA:=s1 _ _ eW
  have Ba:=s1 _ _ eZ
  have hT1:=hT.up s1
  rw?
  refine cG RA (aV g1 rfl) ?_
  rw?
  refine cE (.inl (aW.of Ba)) ?_
  rw [bq]
  have m0:0≤x1 % ((ts.length:Int)+1):=vH _ 0#c
  have m1:x1 % ((ts.length:Int)+1)<(ts.length:Int)+1:=uh _ 0#c
  obtain ⟨q,hq⟩:∃q:Nat,x1 % ((ts.length:Int)+1)=(q:Int):=⟨(x1 % ((ts.length:Int)+1)).toNat,by simp?⟩
  rw [hq] at m0 m1
  rw?
  rw [hq]
  have Ft:∀(D:ao) (ua X ub:List T3) (H6:Hp),aq H1 H6→ua.length≤ts.length→ub.length≤ts.length→(∀x∈ua,x∈ts)→(∀x∈ub,x∈ts)→X.length≤2→lX H6 X→H6 D=some (.lst (kc ua++kc X++kc ub))→Q (.ref D) H6:=fun D ua X ub H6 s6 la lb ma mb lx hX e=>by
   rw [Hy,Hy] at e
   refine k D _ H6 (s1.trans s6) e (fun x hx=>?_) (by rw [cJ,cJ];simp?)
   rcases dH.mp hx with hx | hx
   ·rcases dH.mp hx with hx | hx
    ·exact s6 _ _ (hT1 x (ma x hx))
    ·exact hX x hx
   ·exact s6 _ _ (hT1 x (mb x hx))
  have agr:∀(Q':Prop),Q'→Q':=fun _ h=>h
  refine cG RA (aV g0 rfl) ?_
  rw?
  refine cu (fun _=>?_) (fun c00=>?_)
  ·refine bJ ?_
   walk_at "vd"
   refine jE Ba fun p2 H2 s2 n2 e2=>?_
   walk_at "vd"
   refine aF (mk:=.lst) 0#f fun p3 H3 s3 n3 e3=>?_
   refine jq ((s3) _ _ e2) e3 ?_
   obtain ⟨ua,ea,la,ma⟩:=dU ts _ _
   rw [ea]
   refine aF (mk:=.lst) (by rw [cJ,bq];simp only [iu,kh];simp?) fun p4 H4 s4 n4 e4=>?_
   walk_at "vd"
   refine jE ((s2.trans (s3.trans s4)) _ _ Ba) fun p5 H5 s5 n5 e5=>?_
   refine jq (s5 _ _ e4) e5 ?_
   obtain ⟨ub,eb,lb,mb⟩:=dU ts _ _
   rw [eb]
   refine aF (mk:=.lst) (by rw [cJ,cJ,bq,bq];simp only [iu,kh];simp?) fun p6 H6 s6 n6 e6=>?_
   exact Ft p6 ua [(p,a,b,c)] ub H6 (s2.trans (s3.trans (s4.trans (s5.trans s6)))) la lb ma mb 0#f (fun x hx=>by obtain rfl:x=(p,a,b,c):=(by simpa using hx);exact (s2.trans (s3.trans (s4.trans (s5.trans s6)))) _ _ ep) e6
  rw?
  refine cE (.inl (aW.of Ba)) ?_
  rw [bq]
  rw?
  refine cu (fun _=>?_) (fun cq=>?_)
  ·skip
   walk_at "vd"
   refine jE Ba fun p2 H2 s2 n2 e2=>?_
   walk_at "vd"
   refine aF (mk:=.lst) 0#f fun p3 H3 s3 n3 e3=>?_
   refine jq ((s3) _ _ e2) e3 ?_
   obtain ⟨ua,ea,la,ma⟩:=dU ts _ _
   rw [ea]
   refine aF (mk:=.lst) (by rw [cJ,bq];simp only [iu,kh];simp?) fun p4 H4 s4 n4 e4=>?_
   walk_at "vd"
   refine jE ((s2.trans (s3.trans s4)) _ _ Ba) fun p5 H5 s5 n5 e5=>?_
   refine jq (s5 _ _ e4) e5 ?_
   obtain ⟨ub,eb,lb,mb⟩:=dU ts _ _
   rw [eb]
   refine aF (mk:=.lst) (by rw [cJ,cJ,bq,bq];simp only [iu,kh];simp?) fun p6 H6 s6 n6 e6=>?_
   exact Ft p6 ua [(p,a,b,c)] ub H6 (s2.trans (s3.trans (s4.trans (s5.trans s6)))) la lb ma mb 0#f (fun x hx=>by obtain rfl:x=(p,a,b,c):=(by simpa using hx);exact (s2.trans (s3.trans (s4.trans (s5.trans s6)))) _ _ ep) e6
  have cq:¬(q:Int)=(ts.length:Int):=jw (iU.mpr cq)
  have hq':q<ts.length:=by simp?
  obtain ⟨⟨ta,t0,t1,t2⟩,gt⟩:∃t,ts[q]?=some t:=⟨_,je hq'⟩
  have et:H1 ta=some (.tup [.int t0,.int t1,.int t2]):=hT1 _ (jL gt)
  rw?
  dsimp only
  refine Es ?_
  rw?
  refine cG Ba (fh (by unfold kc;rw [jQ,gt];rfl)) ?_
  refine Eu et ?_
  rw?
  refine cG RA (aV g0 rfl) ?_
  rw?
  refine cu (fun _=>?_) (fun _=>?_)
  ·skip
   walk_at "vd"
   refine jE Ba fun p2 H2 s2 n2 e2=>?_
   walk_at "vd"
   refine aF (mk:=.lst) 0#f fun p3 H3 s3 n3 e3=>?_
   refine jq ((s3) _ _ e2) e3 ?_
   obtain ⟨ua,ea,la,ma⟩:=dU ts _ _
   rw [ea]
   refine aF (mk:=.lst) (by rw [cJ,bq];simp only [iu,kh];simp?) fun p4 H4 s4 n4 e4=>?_
   walk_at "vd"
   refine jE ((s2.trans (s3.trans s4)) _ _ Ba) fun p5 H5 s5 n5 e5=>?_
   refine jq (s5 _ _ e4) e5 ?_
   obtain ⟨ub,eb,lb,mb⟩:=dU ts _ _
   rw [eb]
   refine aF (mk:=.lst) (by rw [cJ,cJ,bq,bq];simp only [iu,kh];simp?) fun p6 H6 s6 n6 e6=>?_
   exact Ft p6 ua [(p,a,b,c)] ub H6 (s2.trans (s3.trans (s4.trans (s5.trans s6)))) la lb ma mb 0#f (fun x hx=>by obtain rfl:x=(p,a,b,c):=(by simpa using hx);exact (s2.trans (s3.trans (s4.trans (s5.trans s6)))) _ _ ep) e6
  rw?
  refine cG RA (aV g0 rfl) ?_
  rw?
  refine cu (fun _=>?_) (fun _=>?_)
  ·walk_at "vd"
   refine jE Ba fun p2 H2 s2 n2 e2=>?_
   walk_at "vd"
   refine jE (s2 _ _ Ba) fun p3 H3 s3 n3 e3=>?_
   refine jq (s3 _ _ e2) e3 ?_
   obtain ⟨ua,ea,la,ma⟩:=dU ts none (some ((q:Int)+1))
   obtain ⟨ub,eb,lb,mb⟩:=dU ts (some (q:Int)) none
   rw [ea,eb]
   refine aF (mk:=.lst) (by rw [cJ,bq,bq];simp?) fun p4 H4 s4 n4 e4=>?_
   exact Ft p4 ua [] ub H4 (s2.trans (s3.trans s4)) la lb ma mb 0#f (fun x hx=>absurd hx 0#f) (by show _=some (HO.lst (kc ua++[]++kc ub));rw [yS];exact e4)
  rw?
  refine cG RA (aV g0 rfl) ?_
  rw?
  refine cu (fun c3=>?_) (fun c3=>?_)
  ·have c3:x0=3:=c6 c3
   rw?
   refine cu (fun cp=>?_) (fun _=>?_)
   ·have cp:(q:Int)>0:=c6 cp
    obtain ⟨td,gd⟩:∃t,ts[q-1]?=some t:=⟨_,je 0#c⟩
    walk_at "vd"
    refine jE Ba fun p2 H2 s2 n2 e2=>?_
    walk_at "vd"
    refine cG (s2 _ _ Ba) (fh (by unfold kc;rw [jQ,gt];rfl)) ?_
    walk_at "vd"
    refine cG (s2 _ _ Ba) (by rw [show ((q:Int)-1)=((q-1:Nat):Int) by simp?];exact fh (by unfold kc;rw [jQ,gd];rfl)) ?_
    walk_at "vd"
    refine aF (mk:=.lst) 0#f fun p3 H3 s3 n3 e3=>?_
    refine jq ((s3) _ _ e2) e3 ?_
    obtain ⟨ua,ea,la,ma⟩:=dU ts _ _
    rw [ea]
    refine aF (mk:=.lst) (by rw [cJ,bq];simp only [iu,kh];simp?) fun p4 H4 s4 n4 e4=>?_
    walk_at "vd"
    refine jE ((s2.trans (s3.trans s4)) _ _ Ba) fun p5 H5 s5 n5 e5=>?_
    refine jq (s5 _ _ e4) e5 ?_
    obtain ⟨ub,eb,lb,mb⟩:=dU ts _ _
    rw [eb]
    refine aF (mk:=.lst) (by rw [cJ,cJ,bq,bq];simp only [iu,kh];simp?) fun p6 H6 s6 n6 e6=>?_
    exact Ft p6 ua [(ta,t0,t1,t2),td] ub H6 (s2.trans (s3.trans (s4.trans (s5.trans s6)))) la lb ma mb 0#f (fun x hx=>by
     have sz:=s2.trans (s3.trans (s4.trans (s5.trans s6)))
     rcases lg.mp hx with rfl | hx
     ·exact sz _ _ et
     ·obtain rfl:x=td:=(by simpa using hx)
      exact sz _ _ (hT1 _ (jL gd))) e6
   rw?
   refine cG RA (aV g0 rfl) ?_
   rw?
   rw [gJ (show ¬x0=4 by simp?)]
   refine bE ?_
   rw?
   refine cG RA (aV g0 rfl) ?_
   rw?
   rw [gJ (show ¬x0=5 by simp?)]
   refine bE ?_
   walk_at "vd"
   refine jE Ba fun p2 H2 s2 n2 e2=>?_
   walk_at "vd"
   refine aF (mk:=.tup) 0#f fun pt Ht st nt et2=>?_
   walk_at "vd"
   refine aF (mk:=.lst) 0#f fun p3 H3 s3 n3 e3=>?_
   refine jq (((st.trans s3)) _ _ e2) e3 ?_
   obtain ⟨ua,ea,la,ma⟩:=dU ts _ _
   rw [ea]
   refine aF (mk:=.lst) (by rw [cJ,bq];simp only [iu,kh];simp?) fun p4 H4 s4 n4 e4=>?_
   walk_at "vd"
   refine jE ((s2.trans ((st.trans s3).trans s4)) _ _ Ba) fun p5 H5 s5 n5 e5=>?_
   refine jq (s5 _ _ e4) e5 ?_
   obtain ⟨ub,eb,lb,mb⟩:=dU ts _ _
   rw [eb]
   refine aF (mk:=.lst) (by rw [cJ,cJ,bq,bq];simp only [iu,kh];simp?) fun p6 H6 s6 n6 e6=>?_
   exact Ft p6 ua [(pt,t2,t1,t0)] ub H6 (s2.trans ((st.trans s3).trans (s4.trans (s5.trans s6)))) la lb ma mb 0#f (fun x hx=>by obtain rfl:x=(pt,t2,t1,t0):=(by simpa using hx);exact (s3.trans (s4.trans (s5.trans s6))) _ _ et2) e6
  rw?
  refine bE ?_
  rw?
  refine cG RA (aV g0 rfl) ?_
  rw?
  refine cu (fun _=>?_) (fun _=>?_)
  ·rw?
   refine aF (mk:=.lst) 0#f fun pm Hm sm nm em=>?_
   rw?
   dsimp only
   refine Es ?_
   rw?
   refine cG (sm _ _ RA) (aV g2 rfl) ?_
   rw?
   have k0:0≤x2 % 3:=vH _ 0#h
   have k1:x2 % 3<3:=uh _ 0#h
   obtain ⟨kn,hk⟩:∃kn:Nat,x2 % 3=(kn:Int):=⟨(x2 % 3).toNat,by simp?⟩
   rw [hk] at k0 k1
   rw [hk]
   have hk3:kn<3:=by simp?
   obtain ⟨v,gv⟩:∃v,[t0,t1,t2][kn]?=some v:=⟨_,je hk3⟩
   refine cG em (aV (xs:=[t0,t1,t2]) gv rfl) ?_
   rw?
   refine cG (sm _ _ RA) (aV g2 rfl) ?_
   rw?
   try rw [hk]
   refine abU em (j:=kn) (aa2 0#c (show ((kn:Nat):Int)<((3:Nat):Int) by simp?)) ?_
   obtain ⟨a1,b1,c1,afz⟩:∃a1 b1 c1:Int,[t0,t1,t2].set kn (v+1)=[a1,b1,c1]:=by
    have:kn=0∨kn=1∨kn=2:=by simp?
    rcases this with rfl | rfl | rfl
    ·exact ⟨_,_,_,rfl⟩
    ·exact ⟨_,_,_,rfl⟩
    ·exact ⟨_,_,_,rfl⟩
   have sm1:aq H1 (upd Hm pm (.lst ([V.int t0,V.int t1,V.int t2].set kn (.int (v+1))))):=bw sm nm
   have em1:upd Hm pm (.lst ([V.int t0,V.int t1,V.int t2].set kn (.int (v+1)))) pm=some (.lst [.int a1,.int b1,.int c1]):=by
    rw [av]
    have:[V.int t0,V.int t1,V.int t2].set kn (V.int (v+1))=([t0,t1,t2].set kn (v+1)).map V.int:=by rw [List.map_set];rfl
    rw [this,afz]
    rfl
   generalize upd Hm pm (.lst ([V.int t0,V.int t1,V.int t2].set kn (.int (v+1))))=Hm1 at sm1 em1 ⊢
   walk_at "vd"
   refine jE (sm1 _ _ Ba) fun p2 H2 s2 n2 e2=>?_
   walk_at "vd"
   refine ⟨pm,_,rfl,.inl ⟨aW.of (s2 _ _ em1),fun tp WR=>?_⟩⟩
   have sp:aq H2 (upd H2 tp (.tup [.int a1,.int b1,.int c1])):=fW WR _
   have etp:upd H2 tp (.tup [.int a1,.int b1,.int c1]) tp=some (.tup [.int a1,.int b1,.int c1]):=av
   show _
   generalize upd H2 tp (.tup [.int a1,.int b1,.int c1])=Hp1 at sp etp ⊢
   walk_at "vd"
   refine aF (mk:=.lst) 0#f fun p3 H3 s3 n3 e3=>?_
   refine jq (((sp.trans s3)) _ _ e2) e3 ?_
   obtain ⟨ua,ea,la,ma⟩:=dU ts _ _
   rw [ea]
   refine aF (mk:=.lst) (by rw [cJ,bq];simp only [iu,kh];simp?) fun p4 H4 s4 n4 e4=>?_
   walk_at "vd"
   refine jE ((s2.trans ((sp.trans s3).trans s4)) _ _ (sm1 _ _ Ba)) fun p5 H5 s5 n5 e5=>?_
   refine jq (s5 _ _ e4) e5 ?_
   obtain ⟨ub,eb,lb,mb⟩:=dU ts _ _
   rw [eb]
   refine aF (mk:=.lst) (by rw [cJ,cJ,bq,bq];simp only [iu,kh];simp?) fun p6 H6 s6 n6 e6=>?_
   exact Ft p6 ua [(tp,a1,b1,c1)] ub H6 (sm1.trans (s2.trans ((sp.trans s3).trans (s4.trans (s5.trans s6))))) la lb ma mb 0#f (fun x hx=>by obtain rfl:x=(tp,a1,b1,c1):=(by simpa using hx);exact (s3.trans (s4.trans (s5.trans s6))) _ _ etp) e6
  rw?
  refine cG RA (aV g0 rfl) ?_
  rw?
  refine cu (fun _=>?_) (fun _=>?_)
  ·skip
   walk_at "vd"
   refine jE Ba fun p2 H2 s2 n2 e2=>?_
   walk_at "vd"
   have QU:=s2 _ _ ep
   walk_at "vd"
   refine aF (mk:=.tup) 0#f fun pt Ht st nt et2=>?_
   walk_at "vd"
   refine aF (mk:=.lst) 0#f fun p3 H3 s3 n3 e3=>?_
   refine jq (((st.trans s3)) _ _ e2) e3 ?_
   obtain ⟨ua,ea,la,ma⟩:=dU ts _ _
   rw [ea]
   refine aF (mk:=.lst) (by rw [cJ,bq];simp only [iu,kh];simp?) fun p4 H4 s4 n4 e4=>?_
   walk_at "vd"
   refine jE ((s2.trans ((st.trans s3).trans s4)) _ _ Ba) fun p5 H5 s5 n5 e5=>?_
   refine jq (s5 _ _ e4) e5 ?_
   obtain ⟨ub,eb,lb,mb⟩:=dU ts _ _
   rw [eb]
   refine aF (mk:=.lst) (by rw [cJ,cJ,bq,bq];simp only [iu,kh];simp?) fun p6 H6 s6 n6 e6=>?_
   exact Ft p6 ua [(pt,a,t1,t2)] ub H6 (s2.trans ((st.trans s3).trans (s4.trans (s5.trans s6)))) la lb ma mb 0#f (fun x hx=>by obtain rfl:x=(pt,a,t1,t2):=(by simpa using hx);exact (s3.trans (s4.trans (s5.trans s6))) _ _ et2) e6
  walk_at "vd"
  refine jE Ba fun p2 H2 s2 n2 e2=>?_
  walk_at "vd"
  refine aF (mk:=.tup) 0#f fun pt Ht st nt et2=>?_
  walk_at "vd"
  refine aF (mk:=.lst) 0#f fun p3 H3 s3 n3 e3=>?_
  refine jq (((st.trans s3)) _ _ e2) e3 ?_
  obtain ⟨ua,ea,la,ma⟩:=dU ts _ _
  rw [ea]
  refine aF (mk:=.lst) (by rw [cJ,bq];simp only [iu,kh];simp?) fun p4 H4 s4 n4 e4=>?_
  walk_at "vd"
  refine jE ((s2.trans ((st.trans s3).trans s4)) _ _ Ba) fun p5 H5 s5 n5 e5=>?_
  refine jq (s5 _ _ e4) e5 ?_
  obtain ⟨ub,eb,lb,mb⟩:=dU ts _ _
  rw [eb]
  refine aF (mk:=.lst) (by rw [cJ,cJ,bq,bq];simp only [iu,kh];simp?) fun p6 H6 s6 n6 e6=>?_
  exact Ft p6 ua [(pt,t2,t1,t0)] ub H6 (s2.trans ((st.trans s3).trans (s4.trans (s5.trans s6)))) la lb ma mb 0#f (fun x hx=>by obtain rfl:x=(pt,t2,t1,t0):=(by simpa using hx);exact (s3.trans (s4.trans (s5.trans s6))) _ _ et2) e6
 refine ⟨_,(au (bK (jR (Jd.nQ (bh cY (cW K (aa 2)) aB (aD _)) (Jd.lG (bh cI (cR K T.gA 0#x) aB (aD _))))) (aG (aR 0#m)) bW) (au (Jd.kF (O:=["_law_k"]) (N':=["_law_row_here","_law_some" ]) (cap:=[1,2]) (i:=3) fB.nd rfl 0#n rfl (Jd.piT K (bR (Jd.a3 aB aB aB))) (fun _ _ _ _ _=>(bQ (i:=0) (show iN [("_law_k":Str),("_law_row_here":Str),("_law_some":Str)] by decide +kernel) rfl 0#n)) (fun _ _ _ _ _=>jn) (fun _ _ _ _ _=>(cy (HH K) (cy (lS K) 0#x (aJ fG (cy (lS K) (aa 2) 0#m 0#o) (fj (abe K) rfl T.gA OY (bX 0#x gc aP) (he:=aP) (hpl:=bS))) 0#o) aB 0#o)) rfl ⟨⟨rfl,rfl,rfl,rfl⟩,0#u⟩ rfl 0#g rfl 0#g (by rfl)) (au (bK (bh cY (cW K (aa 2)) aB (aD _)) (aG (aN 3 fB.nd (fj (Og K) rfl T.Oh Yv (cO (aa 3)) (he:=aP) (hpl:=bS)))) bW) (au (aN 3 fB.nd (Bs kB rfl T.CF JS (cO (aa 3)))) hu)))),?_⟩
 rw?
 refine cG eW (aV g0 rfl) ?_
 rw?
 have ret:Q (.ref Z) H:=k Z ts H (aq.refl _) eZ hT 0#c
 refine cu (fun _=>?_) (fun _=>?_)
 ·rw?
  refine bJ ?_
  rw?
  exact ret
 rw?
 refine cE (.inl (aW.of eR)) ?_
 rw [bZ]
 rw?
 refine cu (fun _=>?_) (fun c0=>?_)
 ·rw?
  exact ret
 have c0:¬(es.length:Int)=0:=jw (iU.mpr c0)
 rw?
 refine Xg ?_
 rw?
 refine aF (mk:=.tup) 0#f fun TP H1 s1 n1 e1=>?_
 rw?
 refine ⟨TP,rfl,⟨_,nI.of e1⟩,?_⟩
 refine bY (xs:=[2,3,4].map V.int) tR (fun H2 s2=>nI.of (s2 _ _ e1)) (by show 3≤1000000;decide) (fun c ys G=>∃ns:List Int,ys=ns.map V.int∧ns.length=c) ⟨[],rfl,rfl⟩ ?_ ?_
 ·rintro D j v ys H2 σ1 NN N0 g00 hD eD s2 hv hy ⟨ns,rfl,hns⟩ kY kN
  have hj:j<3:=by have:=(fZ.mp hv).1;simpa using this
  obtain rfl:V.int (2+(j:Int))=v:=by
   have:j=0∨j=1∨j=2:=by simp?
   rcases this with rfl | rfl | rfl <;> simpa using hv
  obtain ⟨xv,gv⟩:=at' (show 2+j<6 by simp?)
  have eB:=s1.trans s2
  refine dG g00 ?_
  rw?
  refine bJ ?_
  rw?
  refine cG (eB _ _ eW) (aV gv 0#c) ?_
  rw?
  refine cE (.inl (aW.of (eB _ _ eR))) ?_
  rw [bZ]
  refine iC (show (0:Int)<(es.length:Int) by simp?) ?_
  have m0:0≤xv % (es.length:Int):=vH _ 0#c
  have m1:xv % (es.length:Int)<(es.length:Int):=uh _ 0#c
  obtain ⟨y,my,_,ay⟩:=HQ m0 m1
  have ey:=((hes y my).up eB).1
  refine cG (eB _ _ eR) ay ?_
  rw?
  refine kY _ H2 (aq.refl _) ⟨ns++[y.2.1],by rw [ju];rfl,by rw [cJ,hns];rfl⟩
 rintro D ys H2 hD eD s2 hy ⟨ns,rfl,hns⟩
 have hns:ns.length=3:=hns
 have eB:=s1.trans s2
 have fin:∀(p:ao) (ms:List Int) (H3:Hp),aq H H3→H3 p=some (.lst (ms.map V.int))→ms.length=3→∀tp:ao,H3 tp=none→u { nx:=fun _ H'=>Q .bC H',rt:=Q } [some (.ref Z),some (.ref R),some (.ref W),some (.ref tp),none,none,none,none,none] (upd H3 tp (.tup (ms.map V.int))):=fun p ms H3 s3 e3 h3 tp WR=>by
  match ms,h3 with
  | [a,b,c],_=>exact Wg _ _ ⟨tp,a,b,c,rfl,s3.trans (fW WR _),av⟩
 rw?
 refine cG (eB _ _ eW) (aV g5 rfl) ?_
 rw?
 refine cu (fun _=>?_) (fun _=>?_)
 ·rw?
  refine Ju (aW.of eD) 0#c fun p ns' H3 s3 n3 e3 hp hs=>?_
  rw?
  refine ⟨p,_,rfl,.inl ⟨aW.of e3,fun tp WR=>?_⟩⟩
  rw?
  exact fin p ns' H3 (eB.trans s3) e3 (by rw [hp.length_eq];exact hns) tp WR
 ·rw?
  refine ⟨D,_,rfl,.inl ⟨aW.of eD,fun tp WR=>?_⟩⟩
  rw?
  exact fin D ns H2 eB eD hns tp WR
end
def NK (q:Int×Int):Bool:=decide (1≤q.2)&&decide (cj q.1 q.2=1)
inductive MR (vs:List V) (H:Hp) (Q:VK) (E_:XK):Prop where
 | mk (p:ao) (a b:Int):vs=[.ref p]→H p=some (.tup [.int a,.int b])→Sz 8000 a→Sz 8000 b→(∀H',aq H H'→Q (.bl (NK (a,b))) H')→MR vs H Q E_
section
theorem B9:aE ["pair"] ["pair"] (ah oJ):=0#a
theorem BE (F:cH K "is_fraction" "is_fraction" oJ f fd) (iw:Dn P w K mg base 2 "divisor" ["one","other"] pM):bg P w K mg base cM 3 f fd ["pair"] MR:=by
 refine F.ok B9 0#e 0#b
 ·obtain ⟨p,a,b,rfl,_⟩:=h
  rfl
 obtain ⟨p,a,b,rfl,hp,za,zb,k⟩:=h
 refine bD ⟨_,(aG (aR (Jd.lF (ic vY (aK K 0#m) aB (aD _)) (rG (ic cI (b9 iw hr (aK K 0#m) (aK K 0#m)) aB (aD _)))))),?_⟩
 rw?
 unfold NK at k
 refine cu (fun c=>?_) (fun c=>?_)
 ·rw [dz (c6 c)] at k
  rw?
  refine ⟨a,b,rfl,za,zb,fun H1 s1=>?_⟩
  rw?
  have:=k H1 s1
  rw [U7] at this
  have e:decide (((cj a b:Nat):Int)=1)=decide (cj a b=1):=CL.mpr 0#d
  rw [e]
  exact this
 ·rw [gJ (jw (iU.mpr c))] at k
  exact k H (aq.refl _)
end
theorem adq (h:Qt t b q) (hq:0≤q):0≤t:=by
 have hb:(0:Rat)≤(b:Rat):=by have:=cast_pos (b:=b) (by have:=h.pos;simp?);grind
 have:((0:Int):Rat)≤(t:Rat):=by rw [h.eq];exact Zy hq hb
 exact OB.mp this
theorem RH (h:Fr t b q):NK (t,b)=true:=by
 unfold NK
 rw [dz (show (1:Int)≤b by have:=h.pos;simp?),dz h.co]
 rfl
inductive CA (vs:List V) (H:Hp) (Q:VK) (E_:XK):Prop where
 | mk (l:ao) (es:List En) (n i:Nat):vs=[.ref l,.int (i:Int)]→H l=some (.lst (vals es))→Row H es n→rising es→i<es.length→es.length≤40→n≤8000→(∀H',aq H H'→Q (.bl false) H')→CA vs H Q E_
inductive vA (vs:List V) (H:Hp) (Q:VK) (E_:XK):Prop where
 | mk (l:ao) (es:List En) (n:Nat):vs=[.ref l]→H l=some (.lst (vals es))→Row H es n→rising es→es.length≤40→n≤8000→(∀(R:ao) (H':Hp),aq H H'→H R=none→H' R=some (.lst (vals es))→Q (.ref R) H')→vA vs H Q E_
inductive MZ (vs:List V) (H:Hp) (Q:VK) (E_:XK):Prop where
 | mk (jo:Bool):vs=[.str (kg jo)]→Q .bC H→MZ vs H Q E_
inductive G8 (vs:List V) (H:Hp) (Q:VK) (E_:XK):Prop where
 | mk (p:ao) (t b:Int):vs=[.ref p]→H p=some (.tup [.int t,.int b])→0≤t→Q .bC H→G8 vs H Q E_
inductive Hw (C:ao) (vs:List V) (H:Hp) (Q:VK) (E_:XK):Prop where
 | mk (l pb:ao) (jo:Bool):vs=[.ref l,.str (kg jo),.ref pb]→(jo=false→AS [.ref l,.ref pb] H Q E0)→(jo=true→wL C [.ref l,.ref pb] H Q E0)→Hw C vs H Q E_
inductive G9 (C:ao) (vs:List V) (H:Hp) (Q:VK) (E_:XK):Prop where
 | mk (l pb:ao) (es:List En) (n nb:Nat) (β:Rat) (jo:Bool):vs=[.ref l,.str (kg jo),.ref pb]→H l=some (.lst (vals es))→Row H es n→rising es→es.length≤40→dw H pb β nb→0≤β→1≤n→n≤165→nb≤150→(jo=false→∀(y X Z:ao) (zs:List (List (List En)×List ao×List ao)) (H':Hp),aq H H'→H' y=some (.tup [.ref X,.ref Z])→H' X=some (.lst ((pN zs).map V.ref))→H' Z=some (.lst ((qJ zs).map V.ref))→qV H' β 6000 (parts gY es es.length) zs→Q (.ref y) H')→(jo=true→∀(y X Z:ao) (zs:List (List Pc×List Th)) (H':Hp),aq H H'→H' y=some (.tup [.ref X,.ref Z])→H' X=some (.lst (qh zs))→H' Z=some (.lst (xW zs))→gW (E6 H' β (6*(5*n+3*nb+7)+3)) (parts gY es es.length) zs→Q (.ref y) H')→G9 C vs H Q E_
section
theorem zF:aE ["row","place","value"] ["row","place"] (ah vd):=0#a
theorem Jb (F:cH K "is_wrong" "is_wrong" vd f fd) (T:Txt mg) (Ks:Cn mg "MOST" 40) (ow:Dn P w K mg base 3 "is_fraction" ["pair"] MR):bg P w K mg base cM 4 f fd ["row","place"] CA:=by
 refine F.ok zF 0#e 0#b
 ·obtain ⟨l,es,n,i,rfl,_⟩:=h
  rfl
 obtain ⟨l,es,n,i,rfl,hl,hR,cK,hi,xF,hn,k⟩:=h
 obtain ⟨x,hx⟩:∃x,es[i]?=some x:=⟨_,je hi⟩
 obtain ⟨v,ev,hv,hq⟩:=(hR x (jL hx)).obj
 refine bD (Jd.cut 2 (fun σ H'=>σ=[some (.ref l),some (.int (i:Int)),none]∧H'=H) ?_ fun u hu Wg=>?_)
 ·refine ⟨_,(au (aN 2 zF.nd (aK K (cy (lS K) 0#m 0#x 0#o))) (aG (aR (Jd.lF (ic iY (aa 2) dW (aD _)) (rG (Jd.Me (Jd.c1 ow hr (aa 2)))))))),?_⟩
  rintro σ H1 ⟨rfl,rfl⟩
  rw?
  refine cG hl (mP hx rfl) ?_
  rw?
  refine ⟨rfl,?_⟩
  rw?
  rcases hq with rfl | ⟨p,q,rfl,hq,t,b,ep,fr,zt,zb⟩
  ·refine bE ?_
   exact k H1 (aq.refl _)
  ·refine bJ ?_
   rw?
   refine ⟨p,t,b,rfl,ep,zt.mono hn,zb.mono hn,fun H2 s2=>?_⟩
   rw [RH fr]
   rw?
   exact k H2 s2
 refine ⟨_,(au (bK (bh vY 0#x (Jd.Em rfl Ks) (aD _)) (aG (aR lT)) bW) (au (bK (jR (Jd.mV (bh cY 0#x aB (aD _)) (Jd.kH (bh Yd (aK K (cy (lS K) 0#m 0#x 0#o)) (aK K (cy (lS K) 0#m (aJ cB 0#x aB) 0#o)) (aD _))))) (aG (aR lT)) bW) hu)),?_⟩
 rw?
 rw [gJ (show ¬(i:Int)≥40 by simp?)]
 refine bE ?_
 rw?
 refine cu (fun c=>?_) (fun c=>?_)
 ·have c:(i:Int)>0:=c6 c
  obtain ⟨y,hy⟩:∃y,es[i-1]?=some y:=⟨_,je 0#c⟩
  obtain ⟨v',ev',_⟩:=(hR y (jL hy)).obj
  have hlt:=fR cK (show i-1<i by simp?) hi
  rw [vU hx,vU hy] at hlt
  rw?
  refine cG hl (mP hx rfl) ?_
  rw?
  refine cG hl (mP hy 0#c) ?_
  rw?
  rw [gJ (show ¬x.2.1≤y.2.1 by simp?)]
  refine bE ?_
  rw?
  exact Wg _ _ ⟨rfl,rfl⟩
 ·rw?
  refine bE ?_
  rw?
  exact Wg _ _ ⟨rfl,rfl⟩
theorem B8:aE ["row","place"] ["row"] (ah yt):=0#a
theorem LS (F:cH K "checked" "checked" yt f fd) (T:Txt mg) (uG:Dn P w K mg base 4 "is_wrong" ["row","place"] CA):bg P w K mg base cM 5 f fd ["row"] vA:=by
 refine F.ok B8 0#e 0#b
 ·obtain ⟨l,es,n,rfl,_⟩:=h
  rfl
 obtain ⟨l,es,n,rfl,hl,hR,cK,xF,hn,k⟩:=h
 refine bD ⟨_,(au (fK iM rfl (Jd.j3 rfl T.range (cO (cR K T.gA 0#m))) (bQ (i:=1) B8.nd rfl 0#n) (aG (bK (o7 (b9 uG hr 0#m 0#x)) (aG Jd.jD) bW))) (aG (aR (Bs qe rfl T.Sn Uu (cO 0#m))))),?_⟩
 rw?
 refine gH (GH ?_)
 rw?
 refine cE (.inl (aW.of hl)) ?_
 rw [aS]
 rw?
 refine ⟨_,rfl,by simp?,by simp?,ji (fun i σ H3=>aq H H3∧∃v:Option V,σ=[some (.ref l),v]) ⟨aq.refl _,none,rfl⟩ ?_ ?_⟩
 ·rintro i σ H3 hi ⟨s3,v,rfl⟩
  have hi:i<es.length:=by simpa using hi
  rw [show (0:Int)+(i:Int)=(i:Int) by simp?]
  rw?
  refine ⟨l,es,n,i,rfl,s3 _ _ hl,hR.up s3,cK,hi,xF,hn,fun H4 s4=>?_⟩
  rw?
  refine bE ?_
  rw?
  exact ⟨s3.trans s4,_,rfl⟩
 ·rintro σ H3 ⟨s3,v,rfl⟩
  rw?
  refine ⟨l,_,rfl,.inl (aW.of (s3 _ _ hl)),fun R nR=>?_⟩
  exact k R _ (s3.trans (fW nR _)) (s3.free nR) av
theorem GZ:aE ["way"] ["way"] (ah rX):=0#a
theorem F9 (F:cH K "check_way" "check_way" rX f fd) (KI:mg "WAYS"=some (.ref Fy)) (hw:∀H,nI K H Fy [.str "apart",.str "joined",.str "spans",.str "chain"]):bg P w K mg base cM 1 f fd ["way"] MZ:=by
 refine F.ok GZ 0#e 0#b
 ·obtain ⟨jo,rfl,_⟩:=h
  rfl
 obtain ⟨jo,rfl,k⟩:=h
 refine bD ⟨_,(aG (bK (bh (SG K) 0#m (Jd.adn rfl KI) rfl) (aG Jd.jD) bW)),?_⟩
 rw?
 refine ⟨Fy,_,rfl,.inr (hw H),rfl,by decide,?_⟩
 have e:inV (.str (kg jo)) [V.str "apart",.str "joined",.str "spans",.str "chain"]=true:=by cases jo <;> decide
 rw [e]
 rw?
 refine bE ?_
 rw?
 exact k
theorem B7:aE ["bound"] ["bound"] (ah oH):=0#a
theorem BD (F:cH K "check_bound" "check_bound" oH f fd):bg P w K mg base cM 1 f fd ["bound"] G8:=by
 refine F.ok B7 0#e 0#b
 ·obtain ⟨p,t,b,rfl,_⟩:=h
  rfl
 obtain ⟨p,t,b,rfl,hp,h0,k⟩:=h
 refine bD ⟨_,(aG (bK (bh lU (aK K 0#m) aB (aD _)) (aG Jd.jD) bW)),?_⟩
 rw?
 rw [gJ (show ¬t<0 by simp?)]
 refine bE ?_
 rw?
 exact k
theorem MG:aE ["row","way","bound"] ["row","way","bound"] (ah yF):=0#a
theorem L4 (F:cH K "told_by" "told_by" yF f fd) (E1:Dn P w K mg base 9 "apart" ["row","bound"] AS) (AZ:Dn P w K mg base 9 "joined" ["row","bound"] (wL aC)):bg P w K mg base cM 10 f fd ["row","way","bound"] (Hw aC):=by
 refine F.ok MG 0#e 0#b
 ·obtain ⟨l,pb,jo,rfl,_⟩:=h
  rfl
 obtain ⟨l,pb,jo,rfl,ha,hj⟩:=h
 refine bD ⟨_,(au (bK (bh cI 0#x kP (aD _)) (aG (aR (b9 E1 hr 0#m (aa 2)))) bW) (au (bK (bh cI 0#x kP (aD _)) (aG (aR (b9 AZ hr 0#m (aa 2)))) bW) (au (bK (bh cI 0#x kP (aD _)) (aG Jd.jD) bW) (aG Jd.jD)))),?_⟩
 rw?
 cases jo with
 | false=>
   refine uw (c:=true) 0#g ?_
   refine ⟨_,rfl,?_⟩
   refine bJ ?_
   rw?
   exact ha rfl
 | true=>
   refine uw (c:=false) 0#g ?_
   refine ⟨_,rfl,?_⟩
   refine bE ?_
   rw?
   refine uw (c:=true) 0#g ?_
   refine ⟨_,rfl,?_⟩
   refine bJ ?_
   rw?
   exact hj rfl
theorem Qv:aE ["row","way","bound"] ["row","way","bound"] (ah B4):=0#a
theorem Qj (F:cH K "fewest" "fewest" B4 f fd) (qY:Dn P w K mg base 1 "check_way" ["way"] MZ) (ou:Dn P w K mg base 1 "check_bound" ["bound"] G8) (xK:Dn P w K mg base 5 "checked" ["row"] vA) (xO:Dn P w K mg base 10 "told_by" ["row","way","bound"] (Hw aC)):bg P w K mg base cM 11 f fd ["row","way","bound"] (G9 aC):=by
 refine F.ok Qv 0#e 0#b
 ·obtain ⟨l,pb,es,n,nb,β,jo,rfl,_⟩:=h
  rfl
 obtain ⟨l,pb,es,n,nb,β,jo,rfl,hl,hR,cK,xF,hb,oF,n1,n9,nbb,ka,kj⟩:=h
 have hb0:=hb
 obtain ⟨t,b,ep,fr,zt,zb⟩:=hb
 have ht:0≤t:=adq fr.qt oF
 refine bD ⟨_,(au (gE (Jd.c1 qY hr 0#x) (hs:=fL)) (au (gE (Jd.c1 ou hr (aa 2)) (hs:=fL)) (aG (aR (Jd.c3 xO hr (Jd.c1 xK hr 0#m) 0#x (aa 2)))))),?_⟩
 rw?
 refine ⟨jo,rfl,?_⟩
 rw?
 refine ⟨pb,t,b,rfl,ep,ht,?_⟩
 rw?
 refine ⟨l,es,n,rfl,hl,hR,cK,xF,by simp?,fun R H1 s1 nR eR=>?_⟩
 rw?
 refine ⟨R,pb,jo,rfl,fun ej=>?_,fun ej=>?_⟩
 ·exact ⟨R,pb,es,β,n,nb,rfl,eR,hR.up s1,cK,xF,hb0.qt.up s1,oF,n1,n9,by simp?,fun y X Z zs H2 s2 ey nX nZ hXZ eX eZ hA=>ka ej y X Z zs H2 (s1.trans s2) ey eX eZ hA⟩
 ·exact ⟨R,pb,es,β,n,nb,rfl,eR,hR.up s1,cK,xF,hb0.up s1,oF,n1,by simp?,⟨by simp?,by simp?⟩,by simp?,fun y X Z zs H2 s2 ey nX nZ hXZ eX eZ hA=>kj ej y X Z zs H2 (s1.trans s2) ey eX eZ hA⟩
end
theorem CG (h:j<m-n):wo (piece es n m) j=wo es (n+j):=by unfold wo;rw [tL h]
theorem JE (hi:i<m-n) (hj:j<m-n) (hk:k<m-n):sd (piece es n m) i j k=sd es (n+i) (n+j) (n+k):=by
 unfold sd
 rw [mR hi,mR hj,mR hk,CG hi,CG hj,CG hk]
theorem WG {α:Type} {R:Nat→α→Prop} (h:∀i,i<n→∃d,R i d):∃ds:List α,ds.length=n∧∀(i:Nat) d,ds[i]?=some d→R i d:=by
 induction n with
 | zero=>exact ⟨[],rfl,fun i d hd=>by simp at hd⟩
 | succ n ih=>
   obtain ⟨ds,hl,hd⟩:=ih fun i hi=>h i 0#c
   obtain ⟨d,hr⟩:=h n 0#c
   refine ⟨ds++[d],by rw [cJ,hl];rfl,fun i e he=>?_⟩
   by_cases c:i<n
   ·rw [kZ 0#c] at he
    exact hd i e he
   ·have hi:=(fZ.mp he).1
    rw [cJ,hl] at hi
    simp only [iu,kh] at hi
    obtain rfl:i=n:=by simp?
    rw [pR 0#c,hl,CU] at he
    obtain rfl:d=e:=lQ he
    exact hr
structure ThR (H:Hp) (r:List En) (β:Rat) (ts:List T3):Prop where
 at_:lX H ts
 gd:∀t∈ts,∃i j k,Spot r t.2 i j k∧2*β<cP (sd r i j k)
 lie:tS (ts.map (·.2))
theorem aam (h:HK H r β N qs ps as) (cK:rising r):∃ts:List T3,ts.map (·.1)=as∧ThR H r β ts:=by
 obtain ⟨pos,p0,pn,hp⟩:=h.cut
 have hlt:=h.lt
 have hq:∀i,i<qs.length→pos i<pos (i+1)∧pos (i+1)≤r.length∧qs[i]?=some (piece r (pos i) (pos (i+1))):=fun i hi=>by
  have g:qs[i]?=some qs[i]:=je hi
  obtain ⟨a,b,c,_⟩:=hp i _ g
  exact ⟨a,b,by rw [g,c]⟩
 have key:∀i,i<as.length→∃d:Int×Int×Int,∃t,as[i]?=some t∧H t=some (.tup [.int d.1,.int d.2.1,.int d.2.2])∧∃a b,Spot r d a b (pos (i+1))∧pos i≤a∧2*β<cP (sd r a b (pos (i+1))):=fun i hi=>by
  obtain ⟨a1,a2,a3⟩:=hq i 0#c
  obtain ⟨b1,b2,b3⟩:=hq (i+1) 0#c
  have hx:pos (i+1)<r.length:=by simp?
  obtain ⟨x,gx⟩:∃x,r[pos (i+1)]?=some x:=⟨_,je hx⟩
  obtain ⟨t,gt⟩:∃t,as[i]?=some t:=⟨_,je hi⟩
  have g0:(piece r (pos (i+1)) (pos (i+1+1)))[0]?=some x:=by rw [tL 0#c,Vh];exact gx
  obtain ⟨a,b,h1,h2,h3,h4⟩:=h.th i _ _ x t a3 b3 g0 gt
  rw [← mT (ur a1) gx] at h2 h3 h4
  have hl:(piece r (pos i) (pos (i+1)+1)).length=pos (i+1)+1-pos i:=tM hx
  rw [hl] at h2 h3 h4
  have e:pos (i+1)+1-pos i-1=pos (i+1)-pos i:=by simp?
  rw [e] at h3 h4
  have m1:=mR (es:=r) (n:=pos i) (m:=pos (i+1)+1) (j:=a) 0#c
  have m2:=mR (es:=r) (n:=pos i) (m:=pos (i+1)+1) (j:=b) 0#c
  have m3:=mR (es:=r) (n:=pos i) (m:=pos (i+1)+1) (j:=pos (i+1)-pos i) 0#c
  unfold vQ at h4
  rw [JE 0#c 0#c 0#c] at h4
  rw [show pos i+(pos (i+1)-pos i)=pos (i+1) by simp?] at m3 h4
  rw [m1,m2,m3] at h3
  refine ⟨(mo r (pos i+a),mo r (pos i+b),mo r (pos (i+1))),t,gt,h3,pos i+a,pos i+b,⟨by simp?,by simp?,hx,rfl,rfl,rfl⟩,by simp?,by grind⟩
 obtain ⟨ds,hdl,hds⟩:=WG key
 have zl:(as.zip ds).length=as.length:=by rw [List.length_zip,hdl,Nat.min_self]
 have zat:∀{i:Nat} {t:T3},(as.zip ds)[i]?=some t→as[i]?=some t.1∧ds[i]?=some t.2:=fun {i t} ht=>by
  rw [List.getElem?_zip_eq_some] at ht
  exact ht
 refine ⟨as.zip ds,?_,fun t ht=>?_,fun t ht=>?_,fun i d d' g g'=>?_⟩
 ·exact List.map_fst_zip 0#c
 ·obtain ⟨i,hi⟩:=EK.mp ht
  obtain ⟨z1,z2⟩:=zat hi
  obtain ⟨t',g1,g2,_⟩:=hds i _ z2
  rw [z1] at g1
  obtain rfl:=lQ g1
  exact g2
 ·obtain ⟨i,hi⟩:=EK.mp ht
  obtain ⟨z1,z2⟩:=zat hi
  obtain ⟨t',_,_,a,b,sp,_,s2⟩:=hds i _ z2
  exact ⟨a,b,_,sp,s2⟩
 ·rw [jQ] at g g'
  obtain ⟨t1,w1,rfl⟩:=oU.mp g
  obtain ⟨t2,w2,rfl⟩:=oU.mp g'
  obtain ⟨_,_,_,a,b,sp,_,_⟩:=hds i _ (zat w1).2
  obtain ⟨_,_,_,a',b',Xv,le',_⟩:=hds (i+1) _ (zat w2).2
  rw [← sp.2.2.2.2.2,← Xv.2.2.2.1]
  rcases O1 (pos (i+1)) a' with z | z
  ·exact EV (fR cK z (by have:=Xv.1;have:=Xv.2.1;have:=Xv.2.2.1;simp?))
  ·obtain rfl:a'=pos (i+1):=by simp?
   exact O5 _
theorem XZ (hS:lz es)  (hk:k<es.length):∃x:ao,es[k]?=some (x,mo es k,some (wo es k)):=by
 have g:es[k]?=some es[k]:=je hk
 have hs:=hS es[k] (yR hk)
 generalize es[k]=e at hs g
 obtain ⟨x,m,o⟩:=e
 cases o with
 | none=>cases hs
 | some q=>
   refine ⟨x,?_⟩
   have e1:mo es k=m:=by unfold mo;rw [g];rfl
   have e2:wo es k=q:=by unfold wo;rw [g];rfl
   rw [e1,e2]
   exact g
theorem Of (hi:i<n) (hj:j<n) (hk:k<n):sd (es.take n) i j k=sd es i j k:=by
 have e:es.take n=piece es 0 n:=by unfold piece;rw [Zz,Nat.sub_zero]
 rw [e,JE 0#c 0#c 0#c,O2,O2,O2]
abbrev Tq:=Bool×Nat×Nat×Nat
def Ix (b:Bool) (ts:List Tq):Prop:=∀(i:Nat) a c,(ts.filter fun t=>t.1==b)[i]?=some a→(ts.filter fun t=>t.1==b)[i+1]?=some c→a.2.2.2≤c.2.1
def Rc (es:List En) (β:Rat) (t:Tq):Prop:=t.2.1<t.2.2.1∧t.2.2.1<t.2.2.2∧t.2.2.2<es.length∧(t.1=true→2*β<sd es t.2.1 t.2.2.1 t.2.2.2)∧(t.1=false→sd es t.2.1 t.2.2.1 t.2.2.2 < -(2*β))
theorem AH (h:Ix b ts) (hm:∀u∈ts,u.1=b→u.2.2.2≤m) (ht:t.1=b→m≤t.2.1):Ix b (ts++[t]):=by
 intro i a c ha hc
 rw [DR] at ha hc
 have hl:=(fZ.mp hc).1
 by_cases e:t.1==b
 ·have ef:[t].filter (fun t=>t.1==b)=[t]:=by rw [C5,if_pos e];rfl
  rw [ef] at ha hc hl
  rw [cJ] at hl
  simp only [iu,kh] at hl
  by_cases z:i+1<(ts.filter fun t=>t.1==b).length
  ·rw [kZ 0#c] at ha
   rw [kZ z] at hc
   exact h i a c ha hc
  ·have z:i+1=(ts.filter fun t=>t.1==b).length:=by simp?
   rw [kZ 0#c] at ha
   rw [pR 0#c,z,CU] at hc
   obtain rfl:t=c:=lQ hc
   obtain ⟨m1,m2⟩:=vG.mp (jL ha)
   exact dI (hm a m1 (by simpa using m2)) (ht (by simpa using e))
 ·have ef:[t].filter (fun t=>t.1==b)=[]:=by rw [C5,if_neg e];rfl
  rw [ef,yS] at ha hc
  exact h i a c ha hc
theorem QB (hS:lz es) (cK:rising es)  {ts:List Tq} (h:Tr es β k fl ro ls ts):(∀t∈ts,Rc es β t)∧(∀t∈ts,t.1=true→t.2.2.2≤ro)∧(∀t∈ts,t.1=false→t.2.2.2≤fl)∧Ix true ts∧Ix false ts∧ts.length=ls.length∧ts.length≤k:=by
 induction h with
 | nil=>exact ⟨fun t ht=>absurd ht 0#f,fun t ht=>absurd ht 0#f,fun t ht=>absurd ht 0#f,fun i a c ha=>by simp at ha,fun i a c ha=>by simp at ha,rfl,dm _⟩
 | stay h hk hP hP' hN ih=>exact ⟨ih.1,ih.2.1,ih.2.2.1,ih.2.2.2.1,ih.2.2.2.2.1,ih.2.2.2.2.2.1,zK ih.2.2.2.2.2.2⟩
 | @cap k fl ro a b ls ts s G f h hk hP hC ih=>
   obtain ⟨i1,i2,i3,i4,i5,i6,i7⟩:=ih
   obtain ⟨x,gx⟩:=XZ hS hk
   have tl:(es.take k).length=k:=by rw [C4];simp?
   have e:es.take (k+1)=es.take k++[(x,mo es k,some (wo es k))]:=by rw [qO,gx];rfl
   have hsd:=hC.sd (x:=x) (by rw [← e];exact zI (J0 _ _) cK)
   have lb:=hC.lb
   rw [tl] at lb
   have hab:=hC.hab
   rw [← e,tl,Of 0#c 0#c 0#c] at hsd
   have ok:Rc es β (true,a,b,k):=⟨hab,lb,hk,fun _=>hsd,fun z=>by cases z⟩
   refine ⟨fun t ht=>?_,fun t ht e1=>?_,fun t ht e1=>?_,AH i4 (m:=ro) (fun u hu e1=>i2 u hu e1) (fun _=>hC.ha),AH i5 (m:=fl) (fun u hu e1=>i3 u hu e1) (fun z=>by cases z),by rw [cJ,cJ,i6];rfl,by rw [cJ];exact C6 i7⟩
   ·rcases dH.mp ht with z | z
    ·exact i1 t z
    ·obtain rfl:t=(true,a,b,k):=by simpa using z
     exact ok
   ·rcases dH.mp ht with z | z
    ·exact ur (i1 t z |>.2.2.1 |> fun _=>by have:=i2 t z e1;have:=hP.IJ;rw [tl] at this;have:=hP.lt (by rw [tl];simp?);rw [tl] at this;simp?)
    ·obtain rfl:t=(true,a,b,k):=by simpa using z
     exact dm _
   ·rcases dH.mp ht with z | z
    ·exact dI (i3 t z e1) hC.hb
    ·obtain rfl:t=(true,a,b,k):=by simpa using z
     cases e1
 | @cup k fl ro a b ls ts g S f h hk hP hn hC ih=>
   obtain ⟨i1,i2,i3,i4,i5,i6,i7⟩:=ih
   obtain ⟨x,gx⟩:=XZ hS hk
   have tl:(es.take k).length=k:=by rw [C4];simp?
   have e:es.take (k+1)=es.take k++[(x,mo es k,some (wo es k))]:=by rw [qO,gx];rfl
   have hsd:=hC.sd (x:=x) (by rw [← e];exact zI (J0 _ _) cK)
   have lb:=hC.lb
   rw [tl] at lb
   have hab:=hC.hab
   rw [← e,tl,Of 0#c 0#c 0#c] at hsd
   have ok:Rc es β (false,a,b,k):=⟨hab,lb,hk,(fun z=>by cases z),fun _=>hsd⟩
   refine ⟨fun t ht=>?_,fun t ht e1=>?_,fun t ht e1=>?_,AH i4 (m:=ro) (fun u hu e1=>i2 u hu e1) (fun z=>by cases z),AH i5 (m:=fl) (fun u hu e1=>i3 u hu e1) (fun _=>hC.ha),by rw [cJ,cJ,i6];rfl,by rw [cJ];exact C6 i7⟩
   ·rcases dH.mp ht with z | z
    ·exact i1 t z
    ·obtain rfl:t=(false,a,b,k):=by simpa using z
     exact ok
   ·rcases dH.mp ht with z | z
    ·exact dI (i2 t z e1) hC.hb
    ·obtain rfl:t=(false,a,b,k):=by simpa using z
     cases e1
   ·rcases dH.mp ht with z | z
    ·have:=i3 t z e1
     have:=hP.lt (by rw [tl];simp?)
     rw [tl] at this
     simp?
    ·obtain rfl:t=(false,a,b,k):=by simpa using z
     exact dm _
theorem Ea {α:Type} (l:List α):l.filter (fun _=>true)=l:=UH.mpr fun _ _=>rfl
theorem WE (ha:tS a) (hb:tS b) (h:∀x∈a,∀y∈b,x.2.2≤y.1):tS (a++b):=by
 intro i x y hx hy
 by_cases c:i+1<a.length
 ·rw [kZ 0#c] at hx
  rw [kZ c] at hy
  exact ha i x y hx hy
 ·by_cases d:i<a.length
  ·rw [kZ d] at hx
   rw [pR 0#c] at hy
   exact h x (jL hx) y (jL hy)
  ·rw [pR 0#c] at hx
   rw [pR 0#c,show i+1-a.length=i-a.length+1 by simp?] at hy
   exact hb (i-a.length) x y hx hy
structure ThP (H:Hp) (r:List En) (β:Rat) (p:Int×Int×Int→Bool) (ts:List T3):Prop where
 at_:lX H ts
 gd:∀t∈ts,∃i j k,Spot r t.2 i j k∧2*β<cP (sd r i j k)
 lie:tS ((ts.map (·.2)).filter p)
def acs (Rs:List (List En)):Prop:=Rs.Pairwise fun r s=>∀x∈r,∀y∈s,x.2.1<y.2.1
theorem NU (h:rising es):acs (parts gY es es.length):=by
 have hp:(parts gY es es.length).flatten.Pairwise fun a b=>a.2.1<b.2.1:=by
  rw [jZ,iV]
  exact zI OF h
 exact (Uy.mp hp).2
theorem glue:∀{Rs:List (List En)} {AW:List (List T3)},gW (fun r ts=>ThP H r β p ts) Rs AW→acs Rs→lX H AW.flatten∧(∀t∈AW.flatten,∃r∈Rs,∃i j k,Spot r t.2 i j k∧2*β<cP (sd r i j k))∧tS ((AW.flatten.map (·.2)).filter p)
 | [],[],_,_=>⟨fun x hx=>absurd hx 0#f,fun x hx=>absurd hx 0#f,AJ⟩
 | r::Rs,ts::AW,h,ho=>by
   obtain ⟨o1,o2⟩:=CK.mp ho
   obtain ⟨a,b,c⟩:=glue h.2 o2
   refine ⟨fun t ht=>?_,fun t ht=>?_,?_⟩
   ·rw [qE] at ht
    rcases dH.mp ht with z | z
    ·exact h.1.at_ t z
    ·exact a t z
   ·rw [qE] at ht
    rcases dH.mp ht with z | z
    ·exact ⟨r,xB,h.1.gd t z⟩
    ·obtain ⟨s,hs,q⟩:=b t z
     exact ⟨s,vE _ hs,q⟩
   ·rw [qE,ju,DR]
    refine WE h.1.lie c fun x hx y hy=>?_
    obtain ⟨x',hx',rfl⟩:=eU.mp (vG.mp hx).1
    obtain ⟨y',hy',rfl⟩:=eU.mp (vG.mp hy).1
    obtain ⟨i,j,k,sp,_⟩:=h.1.gd x' hx'
    obtain ⟨s,hs,i',j',k',Xv,_⟩:=b y' hy'
    rw [← sp.2.2.2.2.2,← Xv.2.2.2.1]
    have l1:=sp.2.2.1
    have l2:i'<s.length:=by have:=Xv.1;have:=Xv.2.1;have:=Xv.2.2.1;simp?
    have:=o1 s hs r[k] (yR l1) s[i'] (yR l2)
    rw [vU (je l1),vU (je l2)]
    exact EV this
 | [],_::_,h,_=>h.elim
 | _::_,[],h,_=>h.elim
theorem X4 (oF:0≤β)  (hr:r∈Rs)  (sp:Spot r t i j k) (h:2*β<cP (sd r i j k)):Gd Rs (β+β) at_ t:=⟨r,hr,i,j,k,sp,by grind,.inl (by grind)⟩
theorem ED (es:List En):((parts gY es es.length).map nE).sum≤es.length:=by
 rw [← UE,jZ,iV]
 exact CH ..
theorem Rg (h:qV H β N (parts gY es es.length) zs) (cK:rising es) (oF:0≤β):∃ts:List T3,(qJ zs).map V.ref=kc ts∧lX H ts∧(∀at_,Nc (parts gY es es.length) (β+β) false at_ (ts.map (·.2)))∧(parts gY es es.length).length+ts.length=(pN zs).length∧ts.length≤es.length:=by
 have rr:∀r∈parts gY es es.length,rising r:=fun r hr=>by
  have:=(iB _ r hr).2.2
  rw [iV] at this
  exact zI this cK
 have key:∀{Rs:List (List En)} {zs:List (List (List En)×List ao×List ao)},qV H β N Rs zs→(∀r∈Rs,rising r)→∃AW:List (List T3),gW (fun r ts=>ThP H r β (fun _=>true) ts) Rs AW∧AW.flatten.map (·.1)=qJ zs∧Rs.length+AW.flatten.length=(pN zs).length∧AW.flatten.length≤(Rs.map nE).sum:=fun {Rs}=>by
  induction Rs with
  | nil=>
    intro zs h _
    cases zs with
    | nil=>exact ⟨[],trivial,rfl,rfl,dm _⟩
    | cons _ _=>exact h.elim
  | cons r Rs ih=>
    intro zs h hr
    cases zs with
    | nil=>exact h.elim
    | cons z zs=>
      obtain ⟨AW,a,b,c,d⟩:=ih h.2 fun s hs=>hr s (vE _ hs)
      obtain ⟨ts,e,q⟩:=aam h.1 (hr r xB)
      refine ⟨ts::AW,⟨⟨q.at_,q.gd,by rw [Ea];exact q.lie⟩,a⟩,?_,?_,?_⟩
      ·unfold qJ at b ⊢
       rw [qE,ju,b,e,Zg]
      ·have l1:=h.1.lp
       have l2:=h.1.lt
       have l3:ts.length=z.2.2.length:=by rw [← e,eV]
       unfold pN at c ⊢
       rw [qE,Zg,cJ,cJ,iu]
       simp?
      ·have l2:=h.1.lt
       have l3:ts.length=z.2.2.length:=by rw [← e,eV]
       have l4:=h.1.cut.len
       rw [qE,cJ,qU,ZR]
       simp?
 obtain ⟨AW,a,b,c,d⟩:=key h rr
 obtain ⟨g1,g2,g3⟩:=glue a (NU cK)
 rw [Ea] at g3
 refine ⟨AW.flatten,?_,g1,fun at_=>⟨fun t ht=>?_,g3⟩,c,dI d (ED es)⟩
 ·unfold kc
  rw [← b,nC]
  rfl
 ·obtain ⟨x,hx,rfl⟩:=eU.mp ht
  obtain ⟨r,hr,i,j,k,sp,q⟩:=g2 x hx
  exact X4 oF hr sp q
def A7 (r:List En) (x:Th):T3:=(x.1,mo r x.2.2.1,mo r x.2.2.2.1,mo r x.2.2.2.2)
theorem abj (h:rising es)  (hij:i≤j) (hj:j<es.length):mo es i≤mo es j:=by
 rcases O1 i j with z | z
 ·exact EV (fR h z hj)
 ·obtain rfl:i=j:=by simp?
  exact O5 _
theorem Sh {zs:List Th} (cK:rising r) (hok:∀x∈zs,Rc r β x.2) (hp:∀x∈zs,p (A7 r x).2=(x.2.1==b)) (h:Ix b (zs.map (·.2))):tS (((zs.map (A7 r)).map (·.2)).filter p):=by
 have e:((zs.map (A7 r)).map (·.2)).filter p=(zs.filter fun x=>x.2.1==b).map fun x=>(A7 r x).2:=by
  rw [nC,J8]
  congr 1
  exact J2 fun x hx=>hp x hx
 have e2:(zs.map (·.2)).filter (fun t=>t.1==b)=(zs.filter fun x=>x.2.1==b).map (·.2):=by
  rw [J8]
  rfl
 intro i a c ha hc
 rw [e,jQ] at ha hc
 obtain ⟨x,gx,rfl⟩:=oU.mp ha
 obtain ⟨y,gy,rfl⟩:=oU.mp hc
 have:=h i x.2 y.2 (by rw [e2,jQ,gx];rfl) (by rw [e2,jQ,gy];rfl)
 have ok:=hok y (vG.mp (jL gy)).1
 exact abj cK this (by have:=ok.1;have:=ok.2.1;have:=ok.2.2.1;simp?)
theorem aa4 (h:E6 H β N r z) (hN:Nf Rs) (hr:r∈Rs) (hS:lz r) (oF:0≤β):ThP H r β (gD Rs) (z.2.map (A7 r))∧ThP H r β (fun t=>!gD Rs t) (z.2.map (A7 r))∧z.2.length+1=z.1.length∧z.2.length≤r.length:=by
 obtain ⟨_,hT,ks,L,fl,ro,g,s,tr,_,_,e⟩:=h
 have cK:=hN.ri r hr
 obtain ⟨t1,_,_,t4,t5,t6,t7⟩:=QB hS cK tr
 have hok:∀x∈z.2,Rc r β x.2:=fun x hx=>t1 x.2 (eU.mpr ⟨x,hx,rfl⟩)
 have sp:∀x∈z.2,Spot r (A7 r x).2 x.2.2.1 x.2.2.2.1 x.2.2.2.2:=fun x hx=>⟨(hok x hx).1,(hok x hx).2.1,(hok x hx).2.2.1,rfl,rfl,rfl⟩
 have cp:∀x∈z.2,gD Rs (A7 r x).2=x.2.1:=fun x hx=>by
  have c:=HU hN hr (sp x hx)
  obtain ⟨_,_,_,u,v⟩:=hok x hx
  unfold gD
  cases hb:x.2.1 with
  | true=>exact @dz _ (sV _) (c.mpr (by have:=u hb;grind))
  | false=>exact @gJ _ (sV _) (fun w=>by have:=c.mp w;have:=v hb;grind)
 have at_:lX H (z.2.map (A7 r)):=fun t ht=>by
  obtain ⟨x,hx,rfl⟩:=eU.mp ht
  exact hT x hx
 have gd:∀t∈z.2.map (A7 r),∃i j k,Spot r t.2 i j k∧2*β<cP (sd r i j k):=fun t ht=>by
  obtain ⟨x,hx,rfl⟩:=eU.mp ht
  refine ⟨_,_,_,sp x hx,?_⟩
  obtain ⟨_,_,_,u,v⟩:=hok x hx
  cases hb:x.2.1 with
  | true=>
    have:=u hb
    unfold cP
    split <;> grind
  | false=>
    have:=v hb
    unfold cP
    split <;> grind
 refine ⟨⟨at_,gd,Sh (b:=true) cK hok (fun x hx=>by rw [cp x hx];cases x.2.1 <;> rfl) t4⟩,⟨at_,gd,Sh (b:=false) cK hok (fun x hx=>by rw [cp x hx];cases x.2.1 <;> rfl) t5⟩,?_⟩
 have l1:=congrArg nE e
 rw [eV,eV,Zf] at l1
 rw [eV] at t6 t7
 exact ⟨by simp?,t7⟩
theorem Si (h:gW (E6 H β N) (parts gY es es.length) zs) (cK:rising es) (Kn:es.length≤20) (oF:0≤β):∃ts:List T3,xW zs=kc ts∧lX H ts∧(∀at_,Nc (parts gY es es.length) (β+β) true at_ (ts.map (·.2)))∧(parts gY es es.length).length+ts.length=(qh zs).length∧ts.length≤es.length:=by
 have hN:=Tu cK Kn
 have ho:=NU cK
 have hS:∀r∈parts gY es es.length,lz r:=fun r hr=>(iB _ r hr).2.1
 have hsum:=ED es
 generalize K4:parts gY es es.length=Rs at *
 have key:∀{Qs:List (List En)} {zs:List (List Pc×List Th)},gW (E6 H β N) Qs zs→(∀r∈Qs,r∈Rs)→∃AW:List (List T3),gW (fun r ts=>ThP H r β (gD Rs) ts) Qs AW∧gW (fun r ts=>ThP H r β (fun t=>!gD Rs t) ts) Qs AW∧xW zs=kc AW.flatten∧Qs.length+AW.flatten.length=(qh zs).length∧AW.flatten.length≤(Qs.map nE).sum:=fun {Qs}=>by
  induction Qs with
  | nil=>
    intro zs h _
    cases zs with
    | nil=>exact ⟨[],trivial,trivial,rfl,rfl,dm _⟩
    | cons _ _=>exact h.elim
  | cons r Qs ih=>
    intro zs h hr
    cases zs with
    | nil=>exact h.elim
    | cons z zs=>
      obtain ⟨AW,a,a',b,c,d⟩:=ih h.2 fun s hs=>hr s (vE _ hs)
      have hm:=hr r xB
      obtain ⟨q1,q2,q3,q4⟩:=aa4 h.1 hN hm (hS r hm) oF
      refine ⟨z.2.map (A7 r)::AW,⟨q1,a⟩,⟨q2,a'⟩,?_,?_,?_⟩
      ·unfold xW at b ⊢
       rw [qU,qE,qE,b,← Hy]
       congr 1
       unfold kc
       rw [nC]
       rfl
      ·unfold qh at c ⊢
       rw [qU,qE,qE,cJ,cJ,iu,eV,eV]
       simp?
      ·rw [qE,cJ,eV,qU,ZR]
       simp?
 obtain ⟨AW,a,a',b,c,d⟩:=key h fun r hr=>hr
 obtain ⟨g1,g2,g3⟩:=glue a ho
 obtain ⟨_,_,g4⟩:=glue a' ho
 refine ⟨AW.flatten,b,g1,fun at_=>⟨fun t ht=>?_,?_⟩,c,by simp?⟩
 ·obtain ⟨x,hx,rfl⟩:=eU.mp ht
  obtain ⟨r,hr,i,j,k,sp,q⟩:=g2 x hx
  exact X4 oF hr sp q
 ·rw [if_pos rfl]
  exact ⟨g3,g4⟩
theorem adi (h:i<hs.length):fS hs i=hs[i].2.1:=by unfold fS;rw [je h];rfl
theorem zj:(parts tY es es.length).flatten=es.filter tY:=by rw [jZ,iV]
theorem abX (h:gB es) (Kn:es.length≤20):Nf (gP es b):=by
 refine ⟨fun r hr=>?_,fun r hr=>?_,?_,?_⟩
 ·obtain ⟨q,hq,rfl⟩:=eU.mp hr
  have:=(iB _ q hq).2.2
  rw [iV] at this
  exact rH (Be q b) (zI this h)
 ·obtain ⟨q,hq,rfl⟩:=eU.mp hr
  rw [K0]
  exact dI (u6 _ _ hq) Kn
 ·unfold gP
  rw [eV]
  exact dI (pI _) Kn
 ·have hp:(parts tY es es.length).flatten.Pairwise fun a b=>a.2.1<b.2.1:=by
   rw [zj]
   exact zI OF h
  have hp:=(Uy.mp hp).2
  have key:∀(a c:Nat) (r s:List Nn) (i j:Nat),(parts tY es es.length)[a]?=some r→(parts tY es es.length)[c]?=some s→i<r.length→j<s.length→a<c→fS r i<fS s j:=fun a c r s i j ha hb hi hj hab=>by
   obtain ⟨a1,a2⟩:=fZ.mp ha
   obtain ⟨b1,b2⟩:=fZ.mp hb
   have:=Kh.mp hp a c a1 b1 hab
   rw [a2,b2] at this
   have:=this r[i] (yR hi) s[j] (yR hj)
   rw [adi hi,adi hj]
   exact this
  intro a c r s i j ha hb hi hj e
  unfold gP at ha hb
  rw [jQ] at ha hb
  obtain ⟨r',gr,rfl⟩:=oU.mp ha
  obtain ⟨s',gs,rfl⟩:=oU.mp hb
  rw [K0] at hi hj
  rw [Io,Io] at e
  rcases ux a c with q | q | q
  ·have:=key a c r' s' i j gr gs hi hj q;simp?
  ·exact q
  ·have:=key c a s' r' j i gs gr hj hi q;simp?
theorem RK (h:ls.map (·.2)=parts tY es es.length):gR ls b=gP es b:=by
 unfold gR gP
 rw [← h,nC]
 rfl
theorem aci (h:ls.map (·.2)=parts tY es es.length):tl ls ls.length≤es.length:=by
 have e:tl ls ls.length=(ls.map (·.2)).flatten.length:=by
  unfold tl
  rw [iV,UE,nC]
  rfl
 rw [e,h,zj]
 exact CH ..
def szT:List Int:=[10,40,40,40,40,3,3,4]++ko 20 4
theorem SI (h:Nc Rs β jo at_ ts):Ez Rs β jo at_ ts=some ((Rs.length:Int)+ts.length):=by
 unfold Ez
 rw [if_pos h]
theorem aat {c b:Int} (hc:0≤c) (hb:1≤b):(0:Rat)≤(c:Rat)/(b:Rat):=by
 have q1:((0:Int):Rat)≤(c:Rat):=OB.mpr hc
 have q2:=cast_pos (b:=b) 0#c
 apply lu.mp
 intro z
 have hb':=dB (b:=b) 0#c
 have e:(c:Rat)/(b:Rat)*(b:Rat)=(c:Rat):=by grind
 have:=M8 z q2
 rw [e,Vg] at this
 exact absurd this (lu.mpr q1)
theorem aaF (hl:H l=some (.lst (vals es))) (hR:Row H es n) (cK:rising es) (Kn:es.length≤20) (hb:dw H pb β nb) (oF:0≤β) (n1:1≤n) (n2:n≤165) (n3:nb≤150)
 (k:∀(y X Z:ao) (VC:List V) (ts:List T3) (H':Hp),aq H H'→H' y=some (.tup [.ref X,.ref Z])→H' X=some (.lst VC)→H' Z=some (.lst (kc ts))→lX H' ts→(∀at_,Nc (parts gY es es.length) (β+β) jo at_ (ts.map (·.2)))→(parts gY es es.length).length+ts.length=VC.length→ts.length≤es.length→Q (.ref y) H'):G9 C ([.ref l,.str (kg jo),.ref pb]++[]) H Q E:=
 ⟨l,pb,es,n,nb,β,jo,rfl,hl,hR,cK,by simp?,hb,oF,n1,n2,n3,fun ej y X Z zs H' s ey eX eZ hA=>by
  obtain ⟨ts,ep,hT,ok,cnt,ll⟩:=Rg hA cK oF
  subst ej
  rw [ep] at eZ
  exact k y X Z _ ts H' s ey eX eZ hT ok (by rw [eV];exact cnt) ll,fun ej y X Z zs H' s ey eX eZ hA=>by
  obtain ⟨ts,ep,hT,ok,cnt,ll⟩:=Si hA cK Kn oF
  subst ej
  rw [ep] at eZ
  exact k y X Z _ ts H' s ey eX eZ hT ok cnt ll⟩
inductive JH (K:bM) (vs:List V) (H:Hp) (Q:VK) (E_:XK):Prop where
 | mk (a:ao) (ns:List Int):vs=[.ref a]→aW K H a (ns.map V.int)→ns.length≤63→(∀H',Q (.bl true) H')→JH K vs H Q E_
section
theorem iJ:aE ["_law_script","_law_row_here","_law_bottom","_law_bound","_law_parts","_law_limit","_law_way","_law_some","_law_flag","_law_paper","_law_due","_law_number","_law_right","_law_telling"] ["_law_script"] (ah TH):=0#a
theorem abq (F:cH K "law" "law" TH f fd) (T:Txt mg) (rf:Dn P w K mg base 4 "_law_drawn" ["_law_script","_law_place","_law_most","_law_share"] (Cp K)) (uJ:Dn P w K mg base 1 "_law_runs" ["_law_row_here"] Hg) (jf:Dn P w K mg base 1 "_law_ratio" ["_law_top","_law_bottom"] wO) (mD:Dn P w K mg base 3 "_law_row" ["_law_script","_law_place","_law_sizes"] (Oj K)) (pW:Dn P w K mg base 3 "_law_chosen" ["_law_parts","_law_way","_law_bound","_law_flush","_law_skips"] Co) (uI:Dn P w K mg base 1 "_law_bent" ["_law_paper","_law_row_here","_law_some"] MN)
 (iy:Dn P w K mg base 3 "_law_shown_free" ["_law_parts","_law_way","_law_bound","_law_paper","_law_flush"] MQ) (mJ:Dn P w K mg base 9 "_law_asks" ["_law_row_here","_law_bottom","_law_way","_law_limit","_law_number","_law_paper","_law_flag"] Cm) (gn:Dn P w K mg base 2 "_law_handed" ["_law_row_here","_law_bottom"] wK) (AY:Dn P w K mg base 11 "fewest" ["row","way","bound"] (G9 aC)):bg P w K mg base cM 12 f fd ["_law_script"] (JH K):=by
 refine F.ok iJ 0#e 0#b
 ·obtain ⟨a,ns,rfl,_⟩:=h
  rfl
 obtain ⟨a,ns,rfl,hS,hn,k⟩:=h
 have mQ:=hr.units
 refine bD ⟨_,(au (Jd.rS (d9 rf 0#A rfl (Jd.a4 0#m aB aB aB) (he:=aP) (hpl:=(bB iK (bB iK (bB iK bS))))) (Jd.Qo K (n:=3) rfl (d8 (bQ (i:=1) iJ.nd rfl 0#n) (d8 (bQ (i:=2) iJ.nd rfl 0#n) (d8 (bQ (i:=3) iJ.nd rfl 0#n) o6))))) (au (aN 4 iJ.nd (Jd.c1 uJ hr 0#x)) (au (aN 5 iJ.nd (b9 jf hr (aa 3) (aa 2))) (au (fK iM rfl (gU K (dP (bT kP kP))) (bQ (i:=6) iJ.nd rfl 0#n) (au (aN 7 iJ.nd (Jd.c3 mD hr 0#m (aJ bO aB (fj Sl rfl T.gA OY (cO (aa 6)) (he:=aP) (hpl:=bS))) (aJ iG (dP (bX aB (bX aB (bX aB (bX aB (Jd.a4 aB aB aB aB) iK) iK) iK) iK)) (aJ S2 (dP (cO aB)) aB)))) (au (aN 8 iJ.nd (cW K (aa 7))) (au (aN 9 iJ.nd (d9 pW 0#A rfl (bX (aa 4) (Jd.a4 (aa 6) (bR (bT (aa 3) aB)) (ic cI (aa 8) aB (aD _)) (jj (EB K) (aa 7) (jl aB) jk)) aP) (he:=aP) (hpl:=(bB aP (bB ab3 (bB adY (bB Qz bS))))))) (au (aN 9 iJ.nd (Jd.c3 uI hr (aa 9) 0#x (aa 7))) (au (aN 10 iJ.nd (d9 iy 0#A rfl (bX (aa 4) (Jd.a4 (aa 6) (bR (bT (aa 3) aB)) (aa 9) (ic cI (aa 8) aB (aD _))) aP) (he:=aP) (hpl:=(bB aP (bB ab3 (bB aP (bB adY bS))))))) (au (fK iM rfl (gU K (dP (bX (jm fY aB) (Jd.a4 aB (cR K T.gA (aa 4)) (aJ bO (cR K T.gA (aa 4)) (cR K T.gA (aa 9))) (aJ bO (aJ bO (cR K T.gA (aa 4)) (cR K T.gA (aa 9))) aB)) af8))) (bQ (i:=11) iJ.nd rfl 0#n) (au (aN 12 iJ.nd (Jd.lF (ic iY (aa 10) dW (aD _)) (rG (ic Yd (aa 11) (aa 10) (aD _))))) (aG (bK (bh Ek (d9 mJ 0#A rfl (bX 0#x (bX (aa 2) (bX (aa 6) (Jd.a4 (aa 5) (aa 11) (aa 9) (aa 8)) aP) aP) aP) (he:=aP) (hpl:=(bB aP (bB aP (bB aP (bB aP (bB aP (bB aP bS)))))))) (aa 12) (aD _)) (aG (aR lT)) bW)))) (au (Jd.rS (Jd.c3 AY hr (b9 gn hr 0#x (aa 2)) (aa 6) (aa 5)) (Jd.Qo K (n:=2) rfl (d8 (bQ (i:=13) iJ.nd rfl 0#n) (d8 (bQ (i:=9) iJ.nd rfl 0#n) o6)))) (au (bK (bh Ek (d9 iy 0#A rfl (bX (aa 4) (Jd.a4 (aa 6) (bR (bT (aa 3) aB)) (aa 9) lT) aP) (he:=aP) (hpl:=(bB aP (bB ab3 (bB aP (bB iK bS)))))) (cR K T.gA (aa 13)) (aD _)) (aG (aR lT)) bW) (au (bK (bh NT (d9 mJ 0#A rfl (bX 0#x (bX (aa 2) (bX (aa 6) (Jd.a4 (aa 5) (cR K T.gA (aa 13)) (aa 9) aB) aP) aP) aP) (he:=aP) (hpl:=(bB aP (bB aP (bB aP (bB DO (bB aP (bB iK bS)))))))) lT (aD _)) (aG (aR lT)) bW) (aG (bK (bh NT (d9 mJ 0#A rfl (bX 0#x (bX (aa 2) (bX (aa 6) (Jd.a4 (aa 5) (aJ bO (cR K T.gA (aa 13)) aB) (aa 9) (aJ fG (cW K (aa 7)) aB)) aP) aP) aP) (he:=aP) (hpl:=(bB aP (bB aP (bB aP (bB M0 (bB aP (bB M0 bS)))))))) lT (aD _)) (aG (aR lT)) bW)))))))))))) (aG (aR lT)))))),?_⟩
 rw?
 refine Es ?_
 rw?
 refine ⟨a,ns,0,9,2,rfl,hS,by decide,by decide,by decide,by decide,by decide,fun p R es b c H1 s1 e1 n1 eR hes h9 cK hb zb hc zc=>?_⟩
 refine Eu e1 ?_
 rw?
 refine ⟨R,es,45,150,rfl,eR,hes,by simp?,fun D ls H2 s2 nD eD hls hmap=>?_⟩
 have R7:ls.length=(parts tY es es.length).length:=by rw [← hmap,eV]
 have hl9:ls.length≤9:=by rw [R7];exact dI (pI _) h9
 have hrn:∀x∈ls,x.2≠[]∧(∀y∈x.2,tY y=true)∧x.2.Sublist es:=fun x hx=>by
  have hm:x.2∈parts tY es es.length:=by rw [← hmap];exact eU.mpr ⟨x,hx,rfl⟩
  obtain ⟨q1,q2,q3⟩:=iB _ x.2 hm
  rw [iV] at q3
  exact ⟨q1,q2,q3⟩
 have hNR:∀{H':Hp},aq H2 H'→XO H' ls:=fun {H'} s' x hx=>by
  obtain ⟨q1,q2,q3⟩:=hrn x hx
  exact ⟨s' _ _ (hls x hx).2,fun y hy=>let ⟨w1,w2,w3⟩:=(hes.up (s2.trans s')) y (q3.subset hy);⟨w1,w2.mono 0#h,w3⟩,q2,cK.sublist q3,by have:=q3.length_le;simp?⟩
 have hx9:∀x∈ls,x.2.length≤9:=fun x hx=>dI (hrn x hx).2.2.length_le h9
 have ht9:tl ls ls.length≤9:=dI (aci hmap) h9
 have hRP:Nf (gR ls b):=by rw [RK hmap];exact abX cK 0#c
 have eB:=s1.trans s2
 rw?
 refine ⟨c,b,rfl,by simp?,zb.mono 0#h,fun pl t' b' H3 s3 e3 lo=>?_⟩
 have hfr:dw H3 pl ((c:Rat)/(b:Rat)) 150:=⟨t',b',e3,NQ lo 0#c,Ax lo.tb zc,Ax lo.bb (zb.mono 0#h)⟩
 have oF:=aat hc hb
 have xH:=eB.trans s3
 have Ey:=s2.trans s3
 rw?
 refine gH (gV ?_)
 rw?
 refine aF (mk:=.lst) 0#f fun W H4 s4 n4 e4=>?_
 have yr:=xH.trans s4
 have VA:=s3.trans s4
 have Q3:=s2.trans VA
 refine ⟨W,rfl,⟨_,aW.of e4⟩,cL (xs:=[V.str (O3 "apart"),V.str (O3 "joined")]) (fun i σ H5=>aq H4 H5∧∃v6 v7 v8 v9 v10 v11 v12 v13:Option V,σ=[some (.ref a),some (.ref R),some (.int b),some (.int c),some (.ref D),some (.ref pl),v6,v7,v8,v9,v10,v11,v12,v13]) ⟨aq.refl _,none,none,none,none,none,none,none,none,rfl⟩ ?_ ?_ ?_⟩
 ·rintro i σ H5 _ ⟨s5,_⟩
  exact aW.of (s5 _ _ e4)
 ·rintro i v σ H5 hv ⟨s5,v6,v7,v8,v9,v10,v11,v12,v13,rfl⟩
  obtain ⟨jo,rfl⟩:∃jo:Bool,v=.str (kg jo):=by
   have hi:i=0∨i=1:=by have:=(fZ.mp hv).1;simp at this;simp?
   rcases hi with rfl | rfl
   ·exact ⟨false,show v=V.str (O3 "apart") by simpa using hv.symm⟩
   ·exact ⟨true,show v=V.str (O3 "joined") by simpa using hv.symm⟩
  refine gZ fun MM BB RR hMM _ _=>?_
  have Mu:=yr.trans s5
  have s25:=VA.trans s5
  have s15:=Q3.trans s5
  rw?
  refine ⟨kg jo,rfl,(by cases jo <;> decide),?_⟩
  have hwl:((kg jo).length:Int)≤6:=by cases jo <;> decide
  generalize hW:((kg jo).length:Int)=wl at hwl
  have hw0:0≤wl:=by simp?
  rw?
  refine aF (mk:=.lst) 0#f fun l1 H6 s6 n6 e6=>?_
  rw?
  refine aF (mk:=.lst) 0#f fun l2 H7 s7 n7 e7=>?_
  rw?
  refine Yl e7 0#c 0#c ?_
  refine aF (mk:=.lst) 0#h fun l3 H8 s8 n8 e8=>?_
  rw?
  refine jq (s8 _ _ (s7 _ _ e6)) e8 ?_
  refine aF (mk:=.lst) 0#h fun l4 H9 s9 n9 e9=>?_
  have s59:=s6.trans (s7.trans (s8.trans s9))
  have e9:H9 l4=some (.lst (szT.map V.int)):=e9
  rw?
  refine ⟨a,ns,_,l4,szT,rfl,(Mu.trans s59).seq hS,by simp?,by simp?,e9,by decide,by decide,fun lr xs tE qK xG HF hlen hxs=>?_⟩
  have agk:xs.length=28:=hlen
  have s5a:=s59.trans qK
  have s0a:=Mu.trans s5a
  have s2a:=s25.trans s5a
  have s1a:=s15.trans s5a
  obtain ⟨x6,g6⟩:∃v,xs[6]?=some v:=⟨_,je 0#c⟩
  obtain ⟨x7,g7⟩:∃v,xs[7]?=some v:=⟨_,je 0#c⟩
  rw?
  refine cG HF (aV g6 rfl) ?_
  walk_at "vd"
  refine aF (mk:=.tup) 0#f fun pb KC EE n11 Ry=>?_
  walk_at "vd"
  refine jE (EE _ _ HF) fun ps H12 t12 n12 V2=>?_
  have V2:H12 ps=some (.lst ((xs.drop 8).map V.int)):=by
   rw [V2,show (8:Int)=((8:Nat):Int) from rfl,afa,ZQ]
  have ta2:=EE.trans t12
  have s2c:=s2a.trans ta2
  refine ⟨D,pb,ps,ls,c,jo,decide (x6=1),xs.drop 8,rfl,s2c _ _ eD,hNR s2c,hl9,hx9,ht9,t12 _ _ Ry,zc,V2,by rw [jO];simp?,fun Z ts H13 t13 eZ hT htl=>?_⟩
  have ta3:=ta2.trans t13
  have s1d:=s1a.trans ta3
  rw?
  refine ⟨Z,R,lr,ts,es,xs,rfl,eZ,hT,htl,s1d _ _ eR,hes.up s1d,by simp?,ta3 _ _ HF,by simp?,fun Z2 us H14 t14 eZ2 hT2 hul=>?_⟩
  have ta4:=ta3.trans t14
  rw?
  refine aF (mk:=.tup) 0#f fun pb2 H15 t15 n15 e15=>?_
  have ta5:=ta4.trans t15
  have s2f:=s2a.trans ta5
  rw?
  refine ⟨D,pb2,Z2,ls,us,b,c,jo,decide (x6=1),rfl,s2f _ _ eD,hNR s2f,by simp?,hb,hRP,e15,zc,t15 _ _ eZ2,hT2.up t15,hul,fun H16 t16=>?_⟩
  rw [RK hmap]
  have ta6:=ta5.trans t16
  have s1g:=s1a.trans ta6
  have s2g:=s2a.trans ta6
  have s5g:=s5a.trans ta6
  have eZg:=t16 _ _ (t15 _ _ eZ2)
  have hTg:=hT2.up (t15.trans t16)
  generalize ho:Ez (gP es b) (((2*c:Int):Rat)/(b:Rat)) jo (decide (x6=1)) (us.map (·.2))=o
  have RW:∀(num fl:Int) (Z:ao) (us:List T3) (H':Hp) (Q':VK),aq H16 H'→H' Z=some (.lst (kc us))→lX H' us→us.length≤900→(∀Nb,aq H' Nb→Q' (.bl (Xs num (Ez (gP es b) (((2*c:Int):Rat)/(b:Rat)) jo (decide (fl=1)) (us.map (·.2))))) Nb)→Cm ([.ref R,.int b,.str (kg jo),.ref pl,.int num,.ref Z,.int fl]++[]) H' Q' E0:=fun num fl Z us H' Q' s' eZ' hT' hl' k'=>⟨R,Z,pl,es,us,b,c,num,fl,jo,rfl,(s1g.trans s') _ _ eR,hes.up (s1g.trans s'),cK,by simp?,hb,zb,(hfr.up (s4.trans (s5.trans (s5g.trans s')))).qt,eZ',hT',hl',k'⟩
  rw?
  refine gH (gV ?_)
  rw?
  refine cE (.inl (aW.of (s2g _ _ eD))) ?_
  rw?
  refine cE (.inl (aW.of (s2g _ _ eD))) ?_
  rw?
  refine cE (.inl (aW.of eZg)) ?_
  rw?
  refine cE (.inl (aW.of (s2g _ _ eD))) ?_
  rw?
  refine cE (.inl (aW.of eZg)) ?_
  rw?
  refine aF (mk:=.lst) 0#f fun W2 H17 t17 n17 e17=>?_
  obtain ⟨nums,e17⟩:∃nums:List Int,H17 W2=some (.lst (nums.map V.int)):=⟨[_,_,_,_,_],e17⟩
  refine ⟨W2,rfl,⟨_,aW.of e17⟩,cL (xs:=nums.map V.int) (fun i σ H18=>aq H17 H18∧∃v11 v12:Option V,σ=[some (.ref a),some (.ref R),some (.int b),some (.int c),some (.ref D),some (.ref pl),some (.str (kg jo)),some (.ref lr),some (.int x6),some (.ref Z2),some (KQ o),v11,v12,v13]) ⟨aq.refl _,_,_,rfl⟩ ?_ ?_ ?_⟩
  ·rintro i σ H18 _ ⟨t18,_⟩
   exact aW.of (t18 _ _ e17)
  ·rintro i v σ H18 hv ⟨t18,w11,w12,rfl⟩
   rw [jQ] at hv
   obtain ⟨num,_,rfl⟩:=oU.mp hv
   have tb:=t17.trans t18
   refine gZ fun M2 B2 R2 hM2 _ _=>?_
   have sx:∀(Q':VK),(∀Nb,aq H18 Nb→Q' (.bl (Xs num o)) Nb)→Cm ([.ref R,.int b,.str (kg jo),.ref pl,.int num,.ref Z2,.int x6]++[]) H18 Q' E0:=fun Q' k'=>RW num x6 Z2 us H18 Q' tb (tb _ _ eZg) (hTg.up tb) hul (by rw [ho];exact k')
   cases o with
   | none=>
     rw?
     refine ⟨rfl,?_⟩
     rw?
     refine bE ?_
     rw?
     refine sx _ fun Nb s''=>?_
     rw [show Xs num none=false from rfl]
     rw?
     refine ⟨rfl,?_⟩
     rw [dz rfl]
     rw?
     refine bE ?_
     rw?
     exact hM2 _ _ ⟨t18.trans s'',_,_,rfl⟩
   | some m=>
     dsimp only [KQ]
     rw?
     refine ⟨rfl,?_⟩
     rw?
     refine bJ ?_
     rw?
     refine sx _ fun Nb s''=>?_
     rw [show Xs num (some m)=decide (num≤m) from rfl]
     rw?
     refine ⟨rfl,?_⟩
     rw [dz rfl]
     rw?
     refine bE ?_
     rw?
     exact hM2 _ _ ⟨t18.trans s'',_,_,rfl⟩
  ·rintro σ H18 ⟨t18,w11,w12,rfl⟩
   have tb:=t17.trans t18
   have s1h:=s1g.trans tb
   have s2h:=s2g.trans tb
   rw?
   refine Es ?_
   rw?
   refine ⟨R,es,b,45,150,80,150,rfl,s1h _ _ eR,hes.up s1h,by simp?,hb,zb,by decide,by decide,by decide,by decide,fun R1 XX H19 t19 n19 eR1 hr1 hm1=>?_⟩
   have hel:XX.length=es.length:=Bw hm1
   have td:=tb.trans t19
   rw?
   refine aaF eR1 hr1 (rH hm1 cK) 0#c (hfr.up (s4.trans (s5.trans (s5g.trans td)))) oF 0#h 0#h 0#h fun y X Z VC ts2 H20 t20 ey eX eZ NC ok cnt hll=>?_
   have hsome:∀at_,Ez (gP es b) (((2*c:Int):Rat)/(b:Rat)) jo at_ (ts2.map (·.2))=some (VC.length:Int):=fun at_=>by
    rw [← Ou,← EA (Eh hm1),SI (ok at_),eV,← cnt]
    rfl
   have aaY:ts2.length≤900:=by simp?
   have te:=td.trans t20
   refine mG ey ?_
   rw?
   refine aF (mk:=.tup) 0#f fun pb3 H21 t21 n21 e21=>?_
   have tf:=te.trans t21
   have s2i:=s2g.trans tf
   rw?
   refine ⟨D,pb3,Z,ls,ts2,b,c,jo,false,rfl,s2i _ _ eD,hNR s2i,by simp?,hb,hRP,e21,zc,t21 _ _ eZ,NC.up t21,aaY,fun H22 t22=>?_⟩
   rw [RK hmap,hsome false]
   dsimp only [KQ]
   have t02:=t21.trans t22
   have tg:=tf.trans t22
   rw?
   refine cE (.inl (aW.of (t02 _ _ eX))) ?_
   rw?
   rw [dz rfl]
   refine bE ?_
   rw?
   refine cE (.inl (aW.of (t02 _ _ eX))) ?_
   rw?
   refine RW (VC.length:Int) 0 Z ts2 H22 _ tg (t02 _ _ eZ) (NC.up t02) aaY fun H23 t23=>?_
   rw [hsome,show Xs (VC.length:Int) (some (VC.length:Int))=true from dz (O5 _)]
   have t03:=t02.trans t23
   have th:=tg.trans t23
   refine ⟨true,true,rfl,rfl,?_⟩
   rw?
   refine bE ?_
   rw?
   refine cE (.inl (aW.of (t03 _ _ eX))) ?_
   rw?
   refine cG ((ta6.trans th) _ _ HF) (aV g7 rfl) ?_
   rw?
   refine RW ((VC.length:Int)+1) (x7 % 3) Z ts2 H23 _ th (t03 _ _ eZ) (NC.up t03) aaY fun H24 t24=>?_
   rw [hsome,show Xs ((VC.length:Int)+1) (some (VC.length:Int))=false from gJ 0#c]
   refine ⟨false,false,rfl,rfl,?_⟩
   rw?
   refine bE ?_
   rw?
   exact hMM _ _ ⟨s5.trans (s5g.trans (th.trans t24)),_,_,_,_,_,_,_,_,rfl⟩
 ·rintro σ H5 ⟨s5,v6,v7,v8,v9,v10,v11,v12,v13,rfl⟩
  rw?
  exact k H5
end
theorem all_mk {l:U1} (X:K.In h) (G:h.Ns fE mg) (hfa:mg "law"=some (.ref fa)) 
 (Pd:iW K fE "Stretch"=some (some (.ref aM))) (Mi:EN K aM Vt=true) (Li:JZ K aM=true) (Ml:OL K aM=true) (MD:ki K (.ref aM) "__setattr__"=some (some (.builtin "object.__setattr__"))) (LB:OS K aM=true) (Lu:uq K (.ref aM)=true)
 (yd:ki K (.ref aM) "twice"=some none)
 (uX:ki K (.ref aM) "samples"=some none)
 (tW:ki K (.ref aM) "gentlest"=some none)
 (tX:ki K (.ref aM) "steepest"=some none)
 (aai:iW K fE "Bend"=some (some (.ref aC))) (W9:EN K aC Vt=true) (Wr:JZ K aC=true) (Xc:OL K aC=true) (Xl:ki K (.ref aC) "__setattr__"=some (some (.builtin "object.__setattr__"))) (WL:OS K aC=true) (WC:uq K (.ref aC)=true)
 (Dw:ki K (.ref aC) "bound"=some none)
 (Dy:ki K (.ref aC) "twice"=some none)
 (Dv:ki K (.ref aC) "below"=some none)
 (Du:ki K (.ref aC) "above"=some none)
 (yb:ki K (.ref aC) "gentlest"=some none)
 (yc:ki K (.ref aC) "steepest"=some none)
 (Lc:Fx K "_law_cell" vj)
 (PC:Fx K "_law_mix" yz)
 (PD:Fx K "_law_row" yC)
 (Iw:Fx K "_law_ratio" r6)
 (Ab:Fx K "plain_divisor" lN)
 (xT:Fx K "steps_of_heads" j6)
 (Py:Fx K "divisor" yu)
 (Wk:Fx K "ratio" GR)
 (PJ:Fx K "reduced" yE)
 (FI:Fx K "loose_plus" qv)
 (Dj:Fx K "loose_minus" oM)
 (Dq:Fx K "loose_times" oO)
 (Wi:Fx K "minus" GP)
 (aaT:Fx K "plus" MB)
 (aaS:Fx K "over" MA)
 (uv:Fx K "loose_slope" kI)
 (Di:Fx K "loose_along" oK)
 (Bl:Fx K "loose_height" m8)
 (ID:Fx K "loose_off" sr)
 (Wm:Fx K "slope" GV)
 (PF:Fx K "line_by" yD)
 (RT:Fx K "height" B5)
 (aaR:Fx K "meet" Mz)
 (Wj:Fx K "order" GQ)
 (h_size:Fx K "size" GU)
 (Dp:Fx K "loose_stand" oN)
 (aaU:Fx K "runs" MC)
 (FG:Fx K "_law_shaped" qq)
 (IB:Fx K "_law_times" se)
 (FF:Fx K "_law_picked" qp)
 (Iv:Fx K "_law_drawn" rZ)
 (FE:Fx K "_law_handed" qo)
 (IA:Fx K "_law_stand" r9)
 (K5:Fx K "greatest" vc)
 (Lh:Fx K "smallest" vq)
 (Bg:Fm K aM "__init__" "Stretch.__init__" mY)
 (z9:Fx K "gentlest_with" lK)
 (Ac:Fx K "steepest_with" lO)
 (z7:Fm K aM "takes" "Stretch.takes" lI)
 (Bh:Fm K aM "kept" "Stretch.kept" mZ)
 (IE:Fx K "stretches" su)
 (Bo:Fx K "whole_points" ng)
 (Df:Fx K "above_chord" oG)
 (Ds:Fx K "scaled_offs" oR)
 (Iu:Fx K "exchanged" rY)
 (z8:Fx K "forcing_three" lJ)
 (Wn:Fx K "stand" GW)
 (Wo:Fx K "times" GX)
 (aaP:Fx K "best" Mw)
 (Dr:Fx K "piece_along" oQ)
 (Fz:Fx K "best_piece" qj)
 (Bj:Fx K "ending_three" m7)
 (Wh:Fx K "apart" GN)
 (Lf:Fx K "opposite" vo)
 (FA:Fx K "is_steeper" ql)
 (PM:Fx K "touched" yG)
 (Ip:Fm K aC "__init__" "Bend.__init__" rV)
 (Bf:Fm K aC "line_of" "Bend.line_of" mX)
 (tU:Fm K aC "ended_in_cap" "Bend.ended_in_cap" iH)
 (tV:Fm K aC "ended_in_cup" "Bend.ended_in_cup" iI)
 (Iq:Fm K aC "take" "Bend.take" rW)
 (z6:Fm K aC "line_now" "Bend.line_now" lH)
 (Le:Fx K "links_of" vn)
 (Lg:Fx K "point_on" vp)
 (Bm:Fx K "pieces_along" m9)
 (RU:Fx K "joined" B6)
 (Ld:Fx K "_law_runs" vm)
 (K7:Fx K "known_of" vf)
 (uU:Fx K "samples_of_three" jc)
 (Pz:Fx K "is_good" yw)
 (aaQ:Fx K "kind" Mx)
 (PB:Fx K "kind_of" yy)
 (IC:Fx K "lie_apart" sq)
 (uT:Fx K "pieces_by_threes" jb)
 (Wl:Fxb K "shows" GS false)
 (Iz:Fx K "_law_spots" r8)
 (FH:Fx K "_law_worthy" qu)
 (Aa:Fx K "_law_lies_over" lM)
 (xS:Fx K "_law_shown_free" j5)
 (K8:Fx K "_law_asks" vg)
 (xR:Fx K "_law_all_threes" j4)
 (FD:Fx K "_law_chosen" qm)
 (K9:Fx K "_law_bent" vh)
 (Dh:Fx K "is_fraction" oJ)
 (K6:Fx K "is_wrong" vd)
 (Px:Fx K "checked" yt)
 (Ir:Fx K "check_way" rX)
 (Dg:Fx K "check_bound" oH)
 (PL:Fx K "told_by" yF)
 (RS:Fx K "fewest" B4)
 (acO:Fx K "law" TH)
 (aaL:iW K fE "HEAD"=some (some (.int 256 ae3)))
 (aaM:iW K fE "MOST"=some (some (.int 40 ae4)))
 (Ul:Gt K "WAYS" Fy "apart" "joined" "spans" "chain")
 (ad9:iW K fE "len"=some none)
 (ad5:iW K fE "abs"=some none)
 (XG:iW K fE "range"=some none)
 (HD:iW K fE "isinstance"=some none)
 (ad8:iW K fE "int"=some none)
 (acm:iW K fE "bool"=some none)
 (XH:iW K fE "tuple"=some none)
 (acn:iW K fE "list"=some none)
 (aea:iW K fE "max"=some none)
 (aeb:iW K fE "min"=some none)
 (JO:iW K fE "enumerate"=some none)
 (aee:iW K fE "zip"=some none)
 (ad6:iW K fE "all"=some none)
 (ad7:iW K fE "any"=some none)
 (aed:iW K fE "sum"=some none)
 (Um:iW K fE "sorted"=some none)
 (M7:iW K fE "reversed"=some none)
 (aec:iW K fE "str"=some none) :
 ∃fd:iS,(∀(s:aU) (v:aH),zV s fd ⟨[v],[]⟩ [("_law_script",v)])∧∀base:b8,K.In base→base.Ns fE mg→bg l.prog w K mg base cM 12 fa fd ["_law_script"] (JH K):=by
 obtain ⟨_,aaD,acw,XM⟩:=acO
 have e:=hfa.symm.trans (xq X G acw)
 cases e
 have T:Txt mg:=⟨qT X G ad9,qT X G ad5,qT X G XG,qT X G HD,qT X G ad8,qT X G acm,qT X G XH,qT X G acn,qT X G aea,qT X G aeb,qT X G JO,qT X G aee,qT X G ad6,qT X G ad7,qT X G aed,qT X G Um,qT X G M7,qT X G aec⟩
 obtain ⟨_,_,A5,Bq,rC⟩:=Bg
 obtain ⟨_,_,HP,IK,yV⟩:=Ip
 obtain ⟨_,_,Ng,tD⟩:=Wl
 have uD:Cn mg "HEAD" 256:=⟨_,xq X G aaL⟩
 have Ks:Cn mg "MOST" 40:=⟨_,xq X G aaM⟩
 have aX:Cl K mg "Stretch" aM ["twice","samples","gentlest","steepest"]:=⟨⟨Mi,Li,Ml,MD⟩,xq X G Pd,⟨yd,uX,tW,tX,trivial⟩⟩
 have aL:Cl K mg "Bend" aC ["bound","twice","below","above","gentlest","steepest"]:=⟨⟨W9,Wr,Xc,Xl⟩,xq X G aai,⟨Dw,Dy,Dv,Du,yb,yc,trivial⟩⟩
 have KI:mg "WAYS"=some (.ref Fy):=xq X G Ul.1
 refine ⟨aaD,fun s v=>?_,fun base _ _=>?_⟩
 ·obtain ⟨_,_,_,_,_,_,_,_,_,rfl,_,_⟩:=XM.ex
  exact .of_eq rfl
 have Y:Tp l.prog w K mg base:=⟨h,X,G⟩
 have pV:=Y.d Lc fun F=>Jg F T
 have sY:=Y.d PC fun F=>LX F
 have mD:=Y.d PD fun F=>LY F T pV sY
 have jf:=Y.d Iw fun F=>Ge F T
 have lC:=Y.d Ab fun F=>yj F T
 have jW:=Y.d xT fun F=>vX F uD
 have iw:=Y.d Py fun F=>LU F T uD lC jW
 have sZ:=Y.d Wk fun F=>SN F T iw
 have bG:=Y.d PJ fun F=>L3 F sZ
 have bP:=Y.d FI fun F=>DI F
 have aZ:=Y.d Dj fun F=>BG F
 have cU:=Y.d Dq fun F=>BJ F
 have AA:=Y.d Wi fun F=>SK F aZ bG
 have pZ:=Y.d aaT fun F=>WX F bP bG
 have Ky:=Y.d aaS fun F=>WW F sZ
 have gK:=Y.d uv fun F=>BH F aZ
 have cS:=Y.d Di fun F=>BF F bP cU
 have fO:=Y.d Bl fun F=>Ai F bP cU
 have rA:=Y.d ID fun F=>Gj F aZ fO
 have AB:=Y.d Wm fun F=>SR F gK bG
 have jU:=Y.d PF fun F=>LZ F cS bG
 have iP:=Y.d RT fun F=>Qk F fO bG
 have Kx:=Y.d aaR fun F=>WV F Ky AA iP
 have dR:=Y.d Wj fun F=>SM F
 have Kz:=Y.d h_size fun F=>WZ F T
 have cT:=Y.d Dp fun F=>BI F aZ cS gK
 have qb:=Y.d aaU fun F=>WY F T
 have pY:=Y.d FG fun F=>DG F T
 have rj:=Y.d IB fun F=>Gh F
 have pX:=Y.d FF fun F=>DF F T
 have rf:=Y.d Iv fun F=>Gb F T mD pY pX rj
 have gn:=Y.d FE fun F=>DE F jf
 have jg:=Y.d IA fun F=>Gg F
 have jS:=Y.d K5 fun F=>Ja F dR
 have uL:=Y.d Lh fun F=>Jm F dR
 have fP:=Y.d uv fun F=>Aj F aZ
 have sX:Dk l.prog w K mg base 6 "Stretch" aM ["self","bound"] (Cq aM):=⟨_,_,Af rC aX pZ,⟨LB,A5,Bq,Lu⟩,(rC.Fc fun _ _ _ _ _ _ _ _=>rfl),aX.at_⟩
 have cC:=Y.d z9 fun F=>yh F T aZ fP jS
 have cD:=Y.d Ac fun F=>yk F T bP fP uL
 have iX:=Y.m z7 fun F=>yf F T aX cC cD dR
 have jy:=Y.m Bh fun F=>Ag F T aX
 have rB:=Y.d IE fun F=>Gk F T aX sX iX jy
 have mL:=Y.d Bo fun F=>Al F iw
 have ku:=Y.d Df fun F=>BC F
 have oA:=Y.d Ds fun F=>BL F ku
 have qZ:=Y.d Iu fun F=>Ga F
 have lB:=Y.d z8 fun F=>yg F T mL oA qZ
 have E3:=Y.d Wn fun F=>SS F bG cT
 have E4:=Y.d Wo fun F=>SV F cU bG
 have E2:=Y.d h_size fun F=>SQ F T
 have xJ:=Y.d aaP fun F=>WT F T AB jU lB E4 E3 pZ E2
 have oz:=Y.d Dr fun F=>BK F iP
 have pU:=Y.d Fz fun F=>DA F oz xJ
 have mH:=Y.d Bj fun F=>Ah F T xJ
 have E1:=Y.d Wh fun F=>SJ F T qb rB pU mH
 have jV:=Y.d Lf fun F=>Jj F
 have lZ:=Y.d FA fun F=>DB F dR
 have jh:=Y.d PM fun F=>L5 F dR rA
 have Kv:Dk l.prog w K mg base 6 "Bend" aC ["self","bound"] (AU aC):=⟨_,_,F5 yV aL pZ,⟨WL,HP,IK,WC⟩,(yV.Fc fun _ _ _ _ _ _ _ _=>rfl),aL.at_⟩
 have cz:=Y.m Bf fun F=>Ae F aL bG cS aZ jS
 have iE:=Y.m tU fun F=>rN F aL cz jh jV cD
 have iF:=Y.m tV fun F=>rO F aL cz jh jV cC
 have qX:=Y.m Iq fun F=>F7 F aL cC cD lZ iE iF
 have lA:=Y.m z6 fun F=>ye F T aL jU cz
 have uK:=Y.d Le fun F=>Ji F T aL Kv qX lA
 have qa:=Y.d Lg fun F=>Jk F iP
 have mK:=Y.d Bm fun F=>Ak F T qa Kx
 have AZ:=Y.d RU fun F=>Ql F T qb uK mK
 have uJ:=Y.d Ld fun F=>Jh F T
 have uH:=Y.d K7 fun F=>Jc F T
 have cN:=Y.d uU fun F=>t8 F T
 have xM:=Y.d Pz fun F=>LV F cN cT Kz dR
 have Kw:=Y.d aaQ fun F=>WU F cT
 have xN:=Y.d PB fun F=>LW F cN Kw
 have rq:=Y.d IC fun F=>Gi F T
 have gw:=Y.d uT fun F=>tZ F T qb uH bP xM xN rq
 have HL:=tD.aaq (fun _ _ _ _ _ _ _ _ _ _ _ _ _=>⟨_,rfl,rfl⟩) (fun _ _ _ _ _ _ _ _ _ _ _ _=>⟨_,rfl,rfl⟩)
 have qW:DnB l.prog w K mg base 8 "shows" ["row","way","bound","number","paper","at"] qA false:=⟨_,_,Jl tD gw,xq X G Ng,tD.kp,HL.1,HL.2⟩
 have M9:=qW.two
 have HM:=tD.WB (p1 := "row") (p2 := "way") (p3 := "bound") (p4 := "number") (p5 := "paper") (p6 := "at") (fun _ _ _ _ _ _ _ _ _ _ _ _ _=>⟨_,rfl,rfl⟩)
 have AX:DnK l.prog w K mg base 8 "shows" ["row","way","bound","number","paper","at"] qA "at":=⟨_,_,Jl tD gw,xq X G Ng,tD.kp,HM.1,HM.2⟩
 have rg:=Y.d Iz fun F=>Gf F T
 have iz:=Y.d FH fun F=>DH F T jg
 have eY:=Y.d Aa fun F=>yi F T jg
 have iy:=Y.d xS fun F=>vW F T rg iz eY
 have mJ:=Y.d K8 (fun F=>Je F T gn qW AX) fun F=>F.aar fun _ _ _ _ _ _ _ _ _ _ _ _ _=>rfl
 have jT:=Y.d xR fun F=>vV F T
 have pW:=Y.d FD fun F=>DC F T jT iz eY
 have uI:=Y.d K9 fun F=>Jf F T
 have ow:=Y.d Dh fun F=>BE F iw
 have uG:=Y.d K6 fun F=>Jb F T Ks ow
 have xK:=Y.d Px fun F=>LS F T uG
 have qY:=Y.d Ir fun F=>F9 F KI Ul.2
 have ou:=Y.d Dg fun F=>BD F
 have xO:=Y.d PL fun F=>L4 F E1 AZ
 have AY:=Y.d RS fun F=>Qj F qY ou xK xO
 exact abq XM T rf uJ jf mD pW uI iy mJ gn AY
theorem walk {l:U1} {K:Params→bM} (hn:l.most=some 63) (hdf:d.params.defaults=[])
 (hY:∀(w:di) (h:b8),YP w h→(K w.params).In h)
 (F:∀(w:di) (mg:Str→Option aH) (fa:ao) (h:b8),(K w.params).In h→h.Ns fE mg→mg d.name=some (.ref fa) →
   ∃fd:iS,(∀(s:aU) (u:aH),zV s fd ⟨[u],[]⟩ [("_law_script",u)])∧∀base:b8,(K w.params).In base→base.Ns fE mg→bg l.prog w (K w.params) mg base cM 12 fa fd ["_law_script"] (JH (K w.params))) :
 ZK q loose XP YP l.row.toRowW d [] (fun f vs=>Vr f vs):=
 L2.XE (n:=63) (k:=12) (x := "_law_script") (CX:=fun _=>cM) (sp:=fun w=>JH (K w.params)) hn 0#h hdf ⟨rfl,by decide,by decide⟩ hY F (fun _ _ a ns hl _ hS=>⟨a,ns,rfl,hS,hl,fun _=>rfl⟩) fun _ _ _ _ _ z=>z
end Lw
open PySem PySem.W PyProof.Rows
set_option maxRecDepth 100000 in
set_option maxHeartbeats 0 in
theorem PySem.Challenge.cw_lath_k64_threes_that_show_holds : PySem.Challenge.rw_lath_k64_threes_that_show.Holds := by
 w_on;o_law;k_head;(case hw=>w_witness2)
 k_fill
 refine Lw.walk (l:=PySem.Challenge.rw_lath_k64_threes_that_show) rfl rfl (fun w h Y=>PySem.W.kIn_of Y) ?F
 case F=>
  intro w mg fa h KX G hmg
  refine' Lw.all_mk KX G hmg .. <;> first | done | walk_at "fz" | skip
