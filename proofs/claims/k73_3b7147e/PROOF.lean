import PyProof.Rows.All
import Wide.FinOn
import KE.KFromBytes
import KE.KIntText
import KE.KItem
import KE.KListMore
import KE.KRevIter
import KE.LcSums
import KE.RegKIsAll
import KE.RegKTryMore
import PySem.Challenge.RW_lath_k73_whole_never_fewer
set_option Elab.async false
set_option linter.all false
set_option compiler.extract_closed false
set_option maxRecDepth 100000
noncomputable section
set_option hygiene false
local macro_rules
|`(0#a)=>`(⟨rfl,rfl,rfl,by decide +kernel,rfl,by decide +kernel,by decide +kernel⟩)
local macro_rules
|`(0#b)=>`((fun cdv A outer s H vs Q E hr h=>?_))
local macro_rules
|`(0#c)=>`((by simp?))
local macro_rules
|`(0#d)=>`((by try?))
local macro_rules
|`(0#e)=>`((by simp))
local macro_rules
|`(0#f)=>`((fun vs H Q E h=>?_))
local macro_rules
|`(0#g)=>`((by decide +kernel))
local macro_rules
|`(0#h)=>`((fun _ _=>rfl))
local macro_rules
|`(0#i)=>`((by decide))
local macro_rules
|`(0#j)=>`((aB "steepest" .bM (aB "gentlest" (.ref ps) (aB "above" (.ref D) fs))))
local macro_rules
|`(0#k)=>`((aB "gentlest" .bM (aB "steepest" (.ref ps) (aB "below" (.ref D) fs))))
local macro_rules
|`(0#l)=>`((aa 0))
local macro_rules
|`(0#m)=>`((Or.inl rfl))
local macro_rules
|`(0#n)=>`((cQ X (O++N') scope (gT X.env.cells scope.names []) C s0 H0 ex' jT))
local macro_rules
|`(0#o)=>`((model X.prog X.w))
local macro_rules
|`(0#p)=>`((.ListComp elt [⟨tg,iter,ifs,0⟩] scope pos))
local macro_rules
|`(0#q)=>`((aB "twice" (.ref tw) (aB "bound" (.ref pb) [])))
local macro_rules
|`(0#r)=>`((aa 1))
local macro_rules
|`(0#s)=>`((cQ X (O++N') scope cl h3.objs.size { s2 with heap:=h3,toks:=s2.toks } (upd H2 D (.lst [])) fp (X.pn++pins)))
local macro_rules
|`(0#t)=>`((.tup xs))
local macro_rules
|`(0#u)=>`(⟨⟨rfl,rfl,rfl,rfl⟩,trivial⟩)
local macro_rules
|`(0#w)=>`((aa 2))
local macro_rules
|`(0#x)=>`(((e::([]:List bg)).length+([]:List nK).length+(if ([]:List nK).isEmpty then 0 else 1)<30))
local macro_rules
|`(0#y)=>`((x==("__debug__":Str)))
local macro_rules
|`(0#z)=>`((sI x qual (fY st) (fJ st) (ah st) .none kV doc pm an cdv ct))
local macro_rules
|`(0#A)=>`((hr.mono 0#i))
local macro_rules
|`(0#B)=>`((fun c=>?_))
local macro_rules
|`(0#C)=>`((ss++[(x,m,some q)]))
set_option hygiene true
open PySem.W renaming Frag→bZ,findIn→j4,nsIn→i7,mg_none_of→qE,fnOf→sI,keepIn→xh,kia_one→Dg,emptyDict→HR,codeIn→wN,instObj→zM,plainGet→EN,isFn→zO,hasDictIn→J2,plainOver→N9,kitOne→J9,mg_of→Kc,makesIn→Og,plainGet_of→T6,lookIn→Ol,callWith_K→T9,methodObj→Uc,cellsFrom_some→XU,takerIn→Uk,OpenLaw→Um,methodCall_KW→X8,kitx_list→Yz,kitx_dict→YA,handedIn→YI,WalkO→Zg
open List renaming length_append→fq,getElem?_eq_some_iff→lR,getElem?_eq_getElem→mX,length_map→gJ,mem_of_getElem?→mY,map_append→i9,getElem?_map→dm,mem_append→dN,length_drop→iP,size_toArray→jG,take_length→jH,getElem?_drop→ly,mem_map→gP,range→fu,getElem?_append_left→wX,replicate→kB,getElem?_append_right→yO,take_add_one→qF,Nodup→i8,append_nil→sG,mem_range→qH,mem_cons→qv,mem_append_right→De,length_take→wZ,range_succ→vd,mem_cons_of_mem→D3,length_singleton→HK,drop_append_of_le_length→PZ,filter_append→D6,replicate_succ→HM,getElem?_range→HN,length_pos_iff→HP,length→tT,mem_filter→Df,flatten_cons→HS,append_assoc→zJ,map_map→qB,length_replicate→EJ,mem_cons_self→CV,length_cons→zL,mem_append_left→EK,take_sublist→CW,drop_sublist→CY,filter_cons_of_pos→JT,flatten_append→EL,filter_cons→C0,mem_singleton→EM,take_append_drop→JW,mem_of_mem_drop→JX,filter_sublist→JZ,getElem_mem→ER,pairwise_singleton→NU,length_eq_zero_iff→NV,filter_cons_of_neg→NW,take_succ→C3,take_of_length_le→NX,drop_of_length_le→NY,map_cons→C5,length_filter_le→N2,pairwise_append→N3,getElem?_take→N8,lookup→C7,getElem?_replicate→TZ,nodup_append→Ob,pairwise_map→Oc,nodup_cons→Oh,filterMap_cons→T4,map_congr_left→T7,map→zR,pairwise_iff_getElem→XJ,sublist_append_right→XM,all_cons→Oo,sublist_append_left→XQ,map_drop→Oq,lookup_cons→Ui,mem_flatMap→Uj,getElem?_set_self→XS,filter_eq_nil_iff→X5,map_eq_append_iff→X6,of_mem_zip→Ul,filter_nil→Uq,filter_map→Ur,dropLast_sublist→Yb,getElem?_eq_none→Yc,eq_nil_or_concat→Yd,getElem?_set_ne→Yg,mem_of_mem_take→Yj,getElem?_of_mem→Yk,flatMap_append→Yn,mem_filterMap→Yq,map_nil→Uy,reverse_cons→YC,ext_getElem?→YD,length_range→YG,all_eq_true→YM,map_reverse→YQ,drop_length→YR,nil_append→YS,length_nil→YX,foldl→UN,drop_zero→Y0,drop_drop→Y9,any_cons→Ze
open PySem renaming Addr→av,starEach→bw,Value→aL,Shared→bq,mainGlobals→fH,wpAny_bind→gw,Stmt→aT,Expr→bg,wpAny→b8,take_succ_filter→HJ,assignEach→m7,wpAny_pure→m8,attributeBase→vf,backTo→gZ,foldedSetIterable→HQ,compareOp→qw,FuncData→jF,swapsWith→lE,wpAny_mono→o6,Program→jk,bootBuiltins→uf,keywordEach→sD,wpAny_passesOwn→C1,World→eG,wpAny_holding→zN,Heap→cJ,mem_of_lookup→JY,binaryOp→nJ,wpAny_truthy_bool→J1,intBits_le_iff→ET,Keyword→nK,backToKw→sF,wpAny_Call_Name_kw→N7,sliceBounds→C8,Around→nN,wpAny_standAt→Ka,NameKind→wU,wpAny_execs_nil→Oe,call_meets→EX,bindArgs→C9,standAt→zU,wpAny_pyNext_list_item→XT,codeAny→zV,codeAny_mono→Ot,PyData→um,Scope→o8,wpAny_pyNext_list_end→X7,callerA→Dd,Within→Uu,wpAny_assign_Name→Yv,wpAny_newObj_type→Yx,wpAny_pyIter_list→Yy,seqIndex_neg→Uz,slot_list_getitem→YB,wpAny_pyIter_enum→YE,wpAny_execs_cons→YH,PassesOwn→Ow,noFill_tuple_add→YK,wpAny_pyIter_zip→YN,seqIndex_of→UG,wpAny_Name→UL,wpAny_bindName→YY,bindL→zW,bindC→zX,typeIs_int→UM,call→UO,numAt_eq→Oz,getD_mem→Y3,mem_getD→Y4,boot_len→Y5,intBits_le_64→Zb,seq_tuple_add→Zc,evalPart_none→Zd,call_list_seq→Zf,nums_intItems→Zi
open Nat renaming le_refl→dz,le_trans→eE,lt_of_lt_of_le→qq,ne_of_lt→lz,zero_le→mW,le_of_lt→tS,lt_of_le_of_lt→D5,not_lt_zero→D7,succ_le_succ→HU,le_succ_of_le→zK,le_add_right→EO,le_succ→wO,add_comm→zP,add_sub_cancel→J0,lt_trans→zQ,min_eq_left→ES,lt_irrefl→C4,add_sub_cancel_left→T3,add_zero→Ke,lt_trichotomy→Ug,two_pow_pos→Uo,pow_le_pow_right→Yh,gcd_zero_right→Ys,eq_zero_or_pos→Yt,ne_of_gt→Uv,lt_or_ge→UC,gcd_dvd_right→YF,succ_pos→UD,sub_self→UE,lt_succ_self→YJ,min_eq_right→YO,add_mul→UJ,one_mul→UK,strongRecOn→YW,gcd→Kh,mul_le_mul→Y6,le_of_dvd→Zj,add_assoc→Zm,le_of_eq→Zo,mul_comm→Zp,gcd_comm→Zq,le_total→Zt,zero_add→Zu,mod_lt→ZI
open Bool renaming false_ne_true→dD,eq_false_iff→gY,and_eq_true→CZ,eq_iff_iff→Of,false_eq_true→Yr
open PySem.PassesOwn renaming never→gF
open PySem.Heap renaming get?_push_of_some→oF,lt_size→fT,get?_push_size→D4,SameBut→C6,get?_update_other→XY,size_push→YZ,ExtBut→ZF
open Rat renaming mul_le_mul_of_nonneg_right→yM,intCast_lt_intCast→vc,intCast_mul→o9,not_lt→jm,intCast_sub→qG,mul_lt_mul_of_pos_right→HG,mul_lt_mul_right→HL,le_trans→yS,le_refl→o5,le_of_mul_le_mul_right→NP,not_le→qC,intCast_le_intCast→NZ,intCast_inj→J7,le_antisymm→J8,intCast_neg→Oi,intCast_pos→Oj,le_of_lt→Kd,lt_of_mul_lt_mul_right→XI,lt_irrefl→Ut,intCast_add→YU,mul_eq_zero→YV,div_lt_iff→Y7,lt_div_iff→Y8,zero_mul→Zv,mul_comm→Zw,mul_pos→ZE
open Int renaming gcd→cK,fdiv_eq_ediv_of_nonneg→yN,mul_nonneg→oG,mul_le_mul_of_nonneg_right→Kl,emod_lt_of_pos→wY,emod_nonneg→yQ,gcd_pos_of_ne_zero_right→P0,mul_comm→yR,mul_ediv_add_emod→JU,dvd_mul_of_dvd_right→NS,mul_le_mul→C2,mul_pos→wQ,not_lt→uh,gcd_dvd_right→J3,gcd_dvd_left→J4,natCast_nonneg→N6,natAbs_add_le→Oa,ediv_le_self→Od,le_refl→EW,natAbs_neg→Om,natAbs_natCast→Ua,toNat_natCast→Ud,mul_neg→Kf,mul_fdiv_cancel_left→XO,ediv_le_ediv→Uh,le_ediv_iff_mul_le→X0,le_trans→Ou,fdiv_nonneg→Up,natAbs_dvd_natAbs→X9,natAbs_mul→Us,neg_mul→Ov,natAbs_of_nonneg→Yi,ediv_mul_cancel→Yl,toNat_of_nonneg→Ym,lt_of_lt_of_le→Yu,gcd_comm→UA,le_of_lt→UB,toNat→Ox,neg_neg→UH,pow_pos→UI,ediv_nonneg→YT,add_assoc→Zk,lt_or_le→Zr,add_zero→Zx,zero_add→Zy,dvd_gcd→ZA,dvd_add→ZC,pow_add→ZD,natAbs→ZJ
open PySem.Builtin.Int renaming intBits→tR
open PyProof.Rows renaming boot_abs→yP,callWith_type1→JS,boot_max→JV,boot_min→N1,boot_isinstance→XG,assignInOrder_cons→T8,AllBare→wV,subscriptTail_builtinR→XX,boot_int→Ye,envOfC→wW,IntsAre→Dc,assignInOrder_nil→Yw,callWith_builtin1→adL,boot_sorted→ad8,boot_tuple→aea,boot_list→aeb,boot_bool→aec
open Option.some renaming inj→xg
open Option renaming map_eq_some_iff→HH,isSome_iff_exists→NQ,getD_none→YL,map_map→Za
open Ne renaming symm→jn
open Classical renaming byContradiction→P4
open False renaming elim→o7
open PySem.Builtin.List renaming listTooLong→NR
open PySem.F renaming plainAttrs_list→NT,args_tuple_add_2→XN,entry_tuple_add→XR,slot_tuple_add→XW
open Array renaming length_toList→N5,toList→Zn
open PySem.Str renaming ofString→EV,empty→UR
open PySem.Calls renaming Name_function_global→XH,callWith_builtin→XZ
open List.Sublist renaming refl→Ue,append→aeq
open PySem.Obj renaming mapSeq→Kg
open PySem.SeqAt.EqAt renaming int_str→Yo,str_int→Yp,none_bool→aed,bool_none→aee,bool_bool→aef,none_int→aei,none_str→aej,bool_int→aek,bool_str→ael,int_none→aem,int_bool→aen,str_none→aeo,str_bool→aep,int_int→aet,str_str→aeu,same→aex
open PySem.Around renaming under→Uw
open PySem.Code renaming isFrame→Ux,frames→Zz
open PySem.PyData renaming eqv→UP
open PySem.EqNone renaming eq_none_none→adM,eq_none_bool→adN,eq_bool_none→adO,ne_none_none→adR,ne_none_bool→adS,ne_bool_none→adT,eq_none_int→adW,eq_none_str→adX,eq_int_none→adY,eq_str_none→ad0,ne_none_int→ad2,ne_none_str→ad3,ne_int_none→ad4,ne_str_none→ad6
open PySem.EqMixed renaming eq_bool_str→adP,eq_str_bool→adQ,ne_bool_str→adU,ne_str_bool→adV,eq_int_str→adZ,eq_str_int→ad1,ne_int_str→ad5,ne_str_int→ad7
open Int.ofNat renaming inj→Zh
open List.cons renaming inj→Zl
open PyProof.Rows.IsTup renaming new→UQ
open PySem.Builtin.Range renaming rangeSize→ad9
open PySem.SeqAt renaming shaped→Zs,EqAt→ZG
open PySem.MeetsSeq.EqGives renaming int→aeg
open Prod renaming fst→US
open List.Pairwise renaming filter→aeh
open PySem.W.Looks renaming here→aer
open PySem.Heap.IsSliceOf renaming new→aes
open PySem.W.WShape renaming has→ZH
open PySem.Within renaming cons→aev
open PySem.Heap.SameBut renaming refl→aew
abbrev jM:=@of_decide_eq_true
abbrev iH:=@of_decide_eq_false
abbrev jJ:=@decide_eq_true
abbrev qu:=@decide_eq_false
abbrev wM:=@and_congr_right
abbrev wR:=@beq_iff_eq
abbrev J5:=@decide_eq_decide
abbrev N4:=@beq_eq_false_iff_ne
abbrev EU:=@exists_congr
abbrev Ub:=@decide_eq_true_iff
local macro_rules | `(tactic| simp?) => `(tactic| first | lia | omega)
set_option bootstrap.genMatcherCode false
namespace PySem.W.Fast
def tw17941976017018251013:=Nat
def tw12616745472691807360:=Nat
def tw1213168523811244416:=Nat
def tw14759785258480581024:=Nat
def tw15654814978494325216:=Nat
def tw2168705013036620320:=Nat
def tw496359466678428192:=Nat
def tw9565963050200095360:=Nat
def tw2734173384416460448:=Nat
def tw3092094402340203168:=Nat
def tw13137238180653915904:=Nat
def tw6968813436133339072:=Nat
def tw16334597339341050049:=Nat
def tw586273671819088065:=Nat
def tw17984120001784632609:=Nat
def tw8299001755991548257:=Nat
def tw12903445683873977793:=Nat
def tw17571843680918420929:=Nat
def tw16287599704476688865:=Nat
def tw3683526772562741729:=Nat
def tw8947713746503383681:=Nat
def tw8954722961487741569:=Nat
def tw16477418712595478369:=Nat
def tw6742313234039859073:=Nat
def tw15195283780220995457:=Nat
def tw9131560229910998977:=Nat
def tw10991216088349302786:=Nat
def tw8986484025178570786:=Nat
def tw5709690876313273474:=Nat
def tw15311278123736796290:=Nat
def tw14149013706573870242:=Nat
def tw13324091884521536706:=Nat
def tw6954295356414872898:=Nat
def tw18299259652394018178:=Nat
def tw5346518144974407106:=Nat
def tw18216333545257039330:=Nat
def tw14156220016142431810:=Nat
def tw9930595065392728674:=Nat
def tw15442132030116724482:=Nat
def tw8191030615411825506:=Nat
def tw7463539767321733986:=Nat
def tw3694977712514671490:=Nat
def tw6658544644140212130:=Nat
def tw8672459517486488482:=Nat
def tw11820015211120751586:=Nat
def tw12125035746631029827:=Nat
def tw3103758146537482307:=Nat
def tw3189446158530418787:=Nat
def tw4570140028563530851:=Nat
def tw17791377298180515939:=Nat
def tw6522460346256763043:=Nat
def tw12125751249802519811:=Nat
def tw18389522798036363619:=Nat
def tw13203995409366775235:=Nat
def tw1171519154160012739:=Nat
def tw18411502503150774755:=Nat
def tw4179076333219030755:=Nat
def tw17632008372935057155:=Nat
def tw5894296563458921347:=Nat
def tw8880647943731892131:=Nat
def tw15238673398148055108:=Nat
def tw15727718626777875524:=Nat
def tw12731749564039341252:=Nat
def tw3248160616987670724:=Nat
def tw2903242826928532708:=Nat
def tw6146918489665019268:=Nat
def tw2523727241409866148:=Nat
def tw7215945557491599876:=Nat
def tw9012278635260038756:=Nat
def tw11962678250876993252:=Nat
def tw15078453252311606116:=Nat
def tw8179400312200407940:=Nat
def tw18395551159864327205:=Nat
def tw6800039743813142725:=Nat
def tw4895938483233522917:=Nat
def tw5723608845089200485:=Nat
def tw13650494666087714213:=Nat
def tw11594832468938988005:=Nat
def tw8740022944481499749:=Nat
def tw9554726247854537445:=Nat
def tw7225574543810816038:=Nat
def tw9281512102057537638:=Nat
def tw13689869128384707750:=Nat
def tw14297204768845224166:=Nat
def tw2913424525768458566:=Nat
def tw8663554040356318566:=Nat
def tw17674005151824055686:=Nat
def tw7848892494129265222:=Nat
def tw6717540728254307942:=Nat
def tw5692468087184287526:=Nat
def tw17685514973575860038:=Nat
def tw11677737012594913639:=Nat
def tw14649004935134307687:=Nat
def tw9009846485658949031:=Nat
def tw15714279738018515431:=Nat
def tw5197940280702648871:=Nat
def tw1068535555697765991:=Nat
def tw12148594901757978311:=Nat
def tw1308606163998388967:=Nat
def tw14826369076126154567:=Nat
def tw4236246923117667175:=Nat
def tw9721107568526484359:=Nat
def tw9657675488086531080:=Nat
def tw6681155176591567048:=Nat
def tw4298065506852694376:=Nat
def tw17784678114517504392:=Nat
def tw6809694249290256072:=Nat
def tw16251225012042644264:=Nat
def tw865499171368694696:=Nat
def tw7381698758876109736:=Nat
def tw5418262574214118344:=Nat
def tw14001862891801224233:=Nat
def tw17576112684403861577:=Nat
def tw5694688765073767529:=Nat
def tw15380663849923492969:=Nat
def tw3618779725791055017:=Nat
def tw4540157004438670601:=Nat
def tw16595828800467010921:=Nat
def tw13186686288055641481:=Nat
def tw17975202355008730697:=Nat
def tw13429081744853147497:=Nat
def tw12533190468826718057:=Nat
def tw12389876171807530889:=Nat
def tw16353291274884677577:=Nat
def tw16158643320616747018:=Nat
def tw3648740186404256810:=Nat
def tw6367707235629334698:=Nat
def tw9850253498226772170:=Nat
def tw17421734831644303626:=Nat
def tw1602697655778875722:=Nat
def tw8474594676144213450:=Nat
def tw912628979091674602:=Nat
def tw1322954127913984810:=Nat
def tw1160676767910240042:=Nat
def tw9898571105630731082:=Nat
def tw11574341495856553834:=Nat
def tw14364737939071716395:=Nat
def tw9369724754701475915:=Nat
def tw5308840344627016875:=Nat
def tw7256636780192315563:=Nat
def tw13970665563713716459:=Nat
def tw13472002067857900811:=Nat
def tw14827169000468858155:=Nat
def tw10227075429171522891:=Nat
def tw2907318201357559275:=Nat
def tw13521208818548258315:=Nat
def tw7284347754517243499:=Nat
def tw10409579012783173291:=Nat
def tw59765031988923564:=Nat
def tw4362946800852443436:=Nat
def tw16325377613951131980:=Nat
def tw4874778845193624044:=Nat
def tw1648503958434940524:=Nat
def tw15996782499751732844:=Nat
def tw6437262840319824492:=Nat
def tw8150607046723172140:=Nat
def tw4397879663216955308:=Nat
def tw8340905143241147340:=Nat
def tw8539771080683239469:=Nat
def tw782942807599701037:=Nat
def tw6695956505442198733:=Nat
def tw10144075422927333613:=Nat
def tw9109027926810972429:=Nat
def tw3306938437822290253:=Nat
def tw16569180579932808525:=Nat
def tw13875290274260113773:=Nat
def tw16358983697722589901:=Nat
def tw15651585445389752077:=Nat
def tw17080889289398241133:=Nat
def tw12350456517392354189:=Nat
def tw5625315792991617038:=Nat
def tw11409117323290582030:=Nat
def tw12975940521169010702:=Nat
def tw5029629585622167790:=Nat
def tw5910817278924440878:=Nat
def tw8069482011902419470:=Nat
def tw3557217404059984430:=Nat
def tw14148046243363920558:=Nat
def tw14998350971873304238:=Nat
def tw13118396146946840334:=Nat
def tw7258090324679817006:=Nat
def tw17177191011249950510:=Nat
def tw4706934822656972750:=Nat
def tw3626819176061935566:=Nat
def tw10204191021493133391:=Nat
def tw7687903442222099759:=Nat
def tw6730865440774120815:=Nat
def tw5907694139780941199:=Nat
def tw14949776036599896655:=Nat
def tw9230304503856991951:=Nat
def tw10929062460169194255:=Nat
def tw9667486395012701039:=Nat
def tw13163467560821143503:=Nat
def tw8985619927038305231:=Nat
def tw3665726292453257232:=Nat
def tw4707757825093073008:=Nat
def tw5272093856588095696:=Nat
def tw8572412899739069648:=Nat
def tw12757782213386765552:=Nat
def tw10163560901540298032:=Nat
def tw14996777258261647856:=Nat
def tw4269687308730602000:=Nat
def tw8560623661732471408:=Nat
def tw4136901747448927952:=Nat
def tw9825734099362084560:=Nat
def tw3158037661395824:=Nat
def tw18204046989882372976:=Nat
def tw7420158633593351056:=Nat
def tw6286604475996271697:=Nat
def tw13809114462859980081:=Nat
def tw12442100041091187089:=Nat
def tw3513369667416934801:=Nat
def tw6421607460559497873:=Nat
def tw6565251525431620337:=Nat
def tw11629868493677058865:=Nat
def tw2552069359501430673:=Nat
def tw17455298822024729521:=Nat
def tw8867433459969249298:=Nat
def tw6131253656437836850:=Nat
def tw17322196464308906034:=Nat
def tw11326330604818857010:=Nat
def tw10722843712010431666:=Nat
def tw6500143095601127666:=Nat
def tw15790551487411634450:=Nat
def tw9218980209224847698:=Nat
def tw10197384872456839570:=Nat
def tw11112068973697450514:=Nat
def tw2887268625358009874:=Nat
def tw8602922960754205426:=Nat
def tw12707223862859784946:=Nat
def tw548940360822265618:=Nat
def tw6736975269091583762:=Nat
def tw9557043862868083474:=Nat
def tw17920943587127719826:=Nat
def tw126883967439274962:=Nat
def tw16378348824002529299:=Nat
def tw14907517221312683091:=Nat
def tw7050746053351165011:=Nat
def tw17212177697133158547:=Nat
def tw7506881058754341075:=Nat
def tw10980557022401261875:=Nat
def tw10492940817133172019:=Nat
def tw158710020295498099:=Nat
def tw2124155053465396627:=Nat
def tw6838278699069959635:=Nat
def tw11027075627505768115:=Nat
def tw16778976411378143059:=Nat
def tw11011594016057996211:=Nat
def tw8234139847416810451:=Nat
def tw6129527864816480243:=Nat
def tw1385839260706792435:=Nat
def tw14178565571660161236:=Nat
def tw3907397292077788372:=Nat
def tw15611921653826329844:=Nat
def tw394903110429630740:=Nat
def tw2943772793426509076:=Nat
def tw5181021647438935508:=Nat
def tw4014894385351042580:=Nat
def tw14470747498774304372:=Nat
def tw331927373790228180:=Nat
def tw9361087155094634260:=Nat
def tw12269138938275375988:=Nat
def tw546861169534479413:=Nat
def tw10733420720534965525:=Nat
def tw13108717777576661589:=Nat
def tw17618677276800417429:=Nat
def tw2326989834906068661:=Nat
def tw11455633180261547733:=Nat
def tw14751237530549716725:=Nat
def tw4571552622929538933:=Nat
def tw17071290946076362677:=Nat
def tw9845735405522188277:=Nat
def tw7439309032333260918:=Nat
def tw47509555720733846:=Nat
def tw6734202365865142998:=Nat
def tw13320487384991931286:=Nat
def tw16512195388498528150:=Nat
def tw9279322140823109558:=Nat
def tw6896407656435707830:=Nat
def tw16911695489773552663:=Nat
def tw6279190268228810903:=Nat
def tw13014347616641881399:=Nat
def tw12505064807942895927:=Nat
def tw9184357229799271735:=Nat
def tw4886177855174311287:=Nat
def tw1714315110204431767:=Nat
def tw10099107557010621943:=Nat
def tw4930477854801981975:=Nat
def tw6044523859304807991:=Nat
def tw16494961058157823607:=Nat
def tw12727410286667451063:=Nat
def tw4277773308546188087:=Nat
def tw14646691322014948151:=Nat
def tw7139802054635722583:=Nat
def tw10377713947990113111:=Nat
def tw6811818545592882071:=Nat
def tw2611161448557613015:=Nat
def tw11761528746343756791:=Nat
def tw5079725347288019992:=Nat
def tw9248563971927816280:=Nat
def tw17504777279689263192:=Nat
def tw8701396852721271928:=Nat
def tw10295767228853626008:=Nat
def tw15602119619002150104:=Nat
def tw4090138018384534776:=Nat
def tw11247424196487373048:=Nat
def tw9932241986715795736:=Nat
def tw15998153688736466232:=Nat
def tw2979445591335698776:=Nat
def tw10190559707057732952:=Nat
def tw15410400887051913592:=Nat
def tw8493147420763400728:=Nat
def tw5310286272673651416:=Nat
def tw13077680175672303352:=Nat
def tw9002756616177059672:=Nat
def tw11197592664508615640:=Nat
def tw15297899626916969753:=Nat
def tw10510179413545054521:=Nat
def tw13104772329401611673:=Nat
def tw803975265572445625:=Nat
def tw4627983942692948473:=Nat
def tw7523002497633079897:=Nat
def tw16706946129736088185:=Nat
def tw5812397399333633849:=Nat
def tw6374981256053404569:=Nat
def tw13133245997165527993:=Nat
def tw13383559913417390041:=Nat
def tw8323070354625729818:=Nat
def tw9741170569494843770:=Nat
def tw12249024335628433978:=Nat
def tw17472246182161605210:=Nat
def tw2843505396346982042:=Nat
def tw13734060308941314714:=Nat
def tw5301975124856560667:=Nat
def tw12952790016380225563:=Nat
def tw16433666016378316859:=Nat
def tw704821856631519579:=Nat
def tw3184267751321643387:=Nat
def tw4505307897561784699:=Nat
def tw7723331980383321531:=Nat
def tw11153731382940907995:=Nat
def tw8710416645667361307:=Nat
def tw7913491081859844859:=Nat
def tw11481180414246203163:=Nat
def tw18193798211436497755:=Nat
def tw13909829401163720635:=Nat
def tw7379702179428312092:=Nat
def tw17048911983829627932:=Nat
def tw7646448731570108444:=Nat
def tw925347917270087740:=Nat
def tw10711172865091838076:=Nat
def tw2466883307553847644:=Nat
def tw1060905127538639228:=Nat
def tw9212740887687712124:=Nat
def tw17689320510327353724:=Nat
def tw4212566844528645532:=Nat
def tw8530774366405791228:=Nat
def tw5419364752241034876:=Nat
def tw5308134296014757532:=Nat
def tw5060021041456291516:=Nat
def tw13609613683389289180:=Nat
def tw14907916413847163612:=Nat
def tw10963893821829637884:=Nat
def tw3504119089744877340:=Nat
def tw6438928920474399548:=Nat
def tw7681345086137306940:=Nat
def tw2816556865096508477:=Nat
def tw16896805285386173661:=Nat
def tw18351567632467037565:=Nat
def tw1405347131039809981:=Nat
def tw3477338578687140605:=Nat
def tw5121148663959798749:=Nat
def tw11622298150713260062:=Nat
def tw3727758951497942206:=Nat
def tw10710429368003468510:=Nat
def tw14483157501770735998:=Nat
def tw15559873351089474974:=Nat
def tw2671922700985439742:=Nat
def tw10299015788566981150:=Nat
def tw3716303201132626622:=Nat
def tw9508393815232307934:=Nat
def tw15172630658178696990:=Nat
def tw448170329414973214:=Nat
def tw333985571234042846:=Nat
def tw2525582397837379582:=Nat
def tw141434771728661567:=Nat
def tw11624359450401182943:=Nat
def tw3689455930965079295:=Nat
def tw7571451156900245759:=Nat
def tw12855789310889459135:=Nat
def tw16871747846426627647:=Nat
def tw16302169905819178559:=Nat
def tw979703517952557695:=Nat
def tw7711392233759105759:=Nat
def tw3067506531138522879:=Nat
end PySem.W.Fast
namespace L2
open PySem PySem.Spec PyProof.Rows
abbrev Key:=Sum Int Str
def Xn:Key→aL→Bool
 | .inl k,v=>Value.isInt k v
 | .inr x,v=>Value.isStrOf x v
def ae3 (w:eG):Key→Int
 | .inl k=>hashInt k
 | .inr x=>hashStr w x
theorem eW:∀{k:Key} {v:aL},Xn k v=true→(∃i t,k=Sum.inl i∧v=Value.int i t)∨(∃x t,k=Sum.inr x∧v=Value.str x t)
 | .inl i,v,h=>by
   obtain ⟨t,e⟩:=Value.isInt_shape (k:=i) (v:=v) h
   exact .inl ⟨i,t,rfl,e⟩
 | .inr x,v,h=>by
   obtain ⟨t,e⟩:=Value.isStrOf_shape (x:=x) (v:=v) h
   exact .inr ⟨x,t,rfl,e⟩
theorem aaE (a b:Int):decide ((Sum.inl a:Key)=Sum.inl b)=(a==b):=by
 by_cases e:a=b
 ·subst e;simp
 ·have h:¬(Sum.inl a:Key)=Sum.inl b:=fun q=>e (Sum.inl.inj q)
  rw [qu h]
  exact (N4.mpr e).symm
theorem aaH (a b:Str):decide ((Sum.inr a:Key)=Sum.inr b)=decide (a=b):=by
 by_cases e:a=b
 ·subst e;simp
 ·have h:¬(Sum.inr a:Key)=Sum.inr b:=fun q=>e (Sum.inr.inj q)
  rw [qu h,qu e]
theorem aaF (a:Int) (b:Str):decide ((Sum.inl a:Key)=Sum.inr b)=false:=qu (fun q=>nomatch q)
theorem aaG (a:Str) (b:Int):decide ((Sum.inr a:Key)=Sum.inl b)=false:=qu (fun q=>nomatch q)
def Nv (prog:jk) (w:eG):PySem.KeyKind prog w Key where
 is:=Xn
 hash:=ae3 w
 inj:=fun v a b ha hb=>by
  rcases eW ha with ⟨i,t,rfl,rfl⟩ | ⟨x,t,rfl,rfl⟩
  ·rcases eW hb with ⟨j,u,rfl,e⟩ | ⟨y,u,rfl,e⟩
   ·injection e with e1 _;rw [e1]
   ·exact nomatch e
  ·rcases eW hb with ⟨j,u,rfl,e⟩ | ⟨y,u,rfl,e⟩
   ·exact nomatch e
   ·injection e with e1 _;rw [e1]
 byValue:=fun k v h=>by
  rcases eW h with ⟨i,t,rfl,rfl⟩ | ⟨x,t,rfl,rfl⟩ <;> rfl
 pyHash:=fun hv h=>by
  rcases eW hv with ⟨i,t,rfl,rfl⟩ | ⟨x,t,rfl,rfl⟩
  ·exact wpAny_pyHash_int h
  ·exact wpAny_pyHash_str h
 eqBool:=fun hu hv h=>by
  rcases eW hu with ⟨i,t,rfl,rfl⟩ | ⟨x,t,rfl,rfl⟩
  ·rcases eW hv with ⟨j,u,rfl,rfl⟩ | ⟨y,u,rfl,rfl⟩
   ·rw [aaE] at h;exact wpAny_eqBool_int h
   ·rw [aaF] at h;exact Yo i t y u _ _ _ _ h
  ·rcases eW hv with ⟨j,u,rfl,rfl⟩ | ⟨y,u,rfl,rfl⟩
   ·rw [aaG] at h;exact Yp x t j u _ _ _ _ h
   ·rw [aaH] at h;exact wpAny_eqBool_str h
 «strs»:=fun k x t v h=>by
  rcases eW h with ⟨i,u,rfl,e⟩ | ⟨y,u,rfl,e⟩
  ·exact nomatch e
  ·injection e with e1 _
   subst e1
   cases v <;> rfl
inductive V where
 | bM | bl (b:Bool) | int (i:Int) | str (x:Str) | P7 (b:Array UInt8) | flt (b:UInt64) | ref (a:av) | ty (n:String)
 deriving DecidableEq
def RelV:V→aL→Prop
 | .bM,u=>u=Value.none
 | .bl b,u=>u=Value.bool b
 | .int i,u=>∃t,u=Value.int i t
 | .str x,u=>∃t,u=Value.str x t
 | .P7 b,u=>∃t,u=Value.bytes b t
 | .flt b,u=>∃t,u=Value.float b t
 | .ref a,u=>u=Value.ref a
 | .ty n,u=>u=Value.type n
abbrev Vals:List V→List aL→Prop:=Paired RelV
theorem Vals.length (r:Vals xs us):xs.length=us.length:=Paired.length r
theorem Vals.get:∀{xs:List V} {us:List aL} {i:Nat} {x:V},Vals xs us→xs[i]?=some x→∃u,us[i]?=some u∧RelV x u
 | _,_,_,_,.nil,e=>by simp at e
 | _,_,0,_,.cons r _,e=>by simp at e;subst e;exact ⟨_,rfl,r⟩
 | _,_,i+1,x,.cons _ t,e=>by
   obtain ⟨u,h1,h2⟩:=Vals.get (i:=i) (x:=x) t (by simpa using e)
   exact ⟨u,by simpa using h1,h2⟩
theorem Vals.set (r:RelV x u):∀{xs:List V} {us:List aL} (i:Nat),Vals xs us→Vals (xs.set i x) (us.set i u)
 | _,_,_,.nil=>.nil
 | _,_,0,.cons _ t=>.cons r t
 | _,_,i+1,.cons q t=>.cons q (Vals.set r i t)
theorem Vals.append:∀{xs ys:List V} {us ws:List aL},Vals xs us→Vals ys ws→Vals (xs++ys) (us++ws)
 | _,_,_,_,.nil,s=>s
 | _,_,_,_,.cons r t,s=>.cons r (Vals.append t s)
theorem Vals.take:∀{xs:List V} {us:List aL} (n:Nat),Vals xs us→Vals (xs.take n) (us.take n)
 | _,_,0,_=>.nil
 | _,_,_+1,.nil=>.nil
 | _,_,n+1,.cons r t=>.cons r (Vals.take n t)
theorem Vals.drop:∀{xs:List V} {us:List aL} (n:Nat),Vals xs us→Vals (xs.drop n) (us.drop n)
 | _,_,0,r=>r
 | _,_,_+1,.nil=>.nil
 | _,_,n+1,.cons _ t=>Vals.drop n t
def Dr:Option V→Option aL→Prop
 | some v,some u=>RelV v u
 | none,none=>True
 | _,_=>False
def KV {κ:Type}:List (κ×V)→List (κ×aL)→Prop:=Paired fun (p:κ×V) (q:κ×aL)=>p.1=q.1∧RelV p.2 q.2
def kV:Key→V
 | .inl i=>.int i
 | .inr x=>.str x
inductive HO where
 /-- a list -/
 | lst (xs:List V)
 /-- a tuple (never changes) -/
 | tup (xs:List V)
 /-- a dict whose keys are ints and texts;one whose keys are tuples of ints and texts (the empty one is both) -/
 | dK (kvs:List (Key×V)) | dT (kvs:List (List Key×V))
 /-- a set of ints: its members,its size -/
 | set (S:Int→Bool) (n:Nat)
 /-- an instance of the class at C,its dict at dx,its attributes -/
 | ins (C dx:av) (fs:List (Str×V))
 /-- the dict of the instance at x -/
 | own (x:av)
 /-- the dict of an exception -/
 | xd (fs:List (Str×V))
 /-- a bound method,f of x -/
 | met (f x:av)
 /-- a range object lo,lo+1,.. below hi -/
 | rng (lo hi:Int)
 /-- a thing that is known to the object (the script;a dict while a loop walks it): read,never written while it is so -/
 | Nb (o:Obj) (u:HO)
 /-- a code object's table -/
 | tbl (ps:Array aL)
 /-- any other thing,by what is true of its one object (a def of one's own: SetO a S n:=HO.ext fun h=>..) -/
 | ext (φ:cJ→Prop)
abbrev Hp:=av→Option HO
def upd (H:Hp) (a:av) (o:HO):Hp:=fun b=>if b=a then some o else H b
theorem aA:upd H a o a=some o:=by unfold upd;rw [if_pos rfl]
theorem aM (h:b≠a):upd H a o b=H b:=by unfold upd;rw [if_neg h]
theorem qo:upd (upd H a o) a u=upd H a u:=by
 funext b;unfold upd;split <;> rfl
theorem bH {H:Hp} (h:H a=some o) (h':H b=none):a≠b:=by
 intro e;subst e;rw [h] at h';cases h'
section
variable (P:jk) (w:eG)
def gA (H:Hp) (h:cJ) (a:av):HO→Prop
 | .lst xs=>xs.length≤sizeLine∧∃(its:List aL) (n:Nat),Vals xs its∧h.get? a=some { cls:=.type "list",data:=.seq its.toArray n }
 | .tup xs=>xs.length≤sizeLine∧∃its:List aL,Vals xs its∧IsTup h a its.toArray
 | .dK kvs=>kvs.length≤sizeLine∧(a==sysModules)=false∧∃vs,KV kvs vs∧h.DictOf (Nv P w) a vs
 | .dT kvs=>kvs.length≤sizeLine∧(a==sysModules)=false∧∃xs:List (List Key×av×aL),
  Paired (fun (p:List Key×V) (q:List Key×av×aL)=>p.1=q.1∧H q.2.1=some (.tup (p.1.map kV))∧RelV p.2 q.2.2) kvs xs ∧
  ∃o es ep,h.get? a=some o∧o.ExactDict∧o.data=.dict es ep∧es.toList=xs.map (entryOfKey (tupleKind (Nv P w)))∧(xs.map (·.1)).Nodup
 | .set S n=>h.SetOf (intKind P w) a S n
 | .ins C dx fs=>H dx=some (.own a)∧fs.length≤1000∧dx≠a∧h.get? a=some (zM C dx) ∧
  ∃mA,h.Ns1 dx mA∧(∀f,Dr (fs.lookup f) (mA f))∧Uu mA (fs.map (·.1))
 | .own _=>∃o,h.get? a=some o
 | .xd fs=>∃mA,h.Ns1 a mA∧∀f,Dr (fs.lookup f) (mA f)
 | .rng lo hi=>∃t u v,h.get? a=some { cls:=.type "range",data:=.fields #[.int lo t,.int hi u,.int 1 v] }
 | .Nb o u=>h.get? a=some o∧gA H h a u
 | .tbl ps=>h.get? a=some { cls:=.none,data:=.fields ps }
 | .met f x=>h.get? a=some (Uc (.ref f) (.ref x))
 | .ext φ=>φ h∧(∃o,h.get? a=some o)∧∀h1 h2:cJ,φ h1→(∀o,h1.get? a=some o→h2.get? a=some o)→φ h2
def xo (H:Hp) (h:cJ):Prop:=∀a o,H a=some o→gA P w H h a o
end
section
theorem gA.lt (x:gA P w H h a o):a<h.objs.size:=by
 cases o with
 | lst xs=>obtain ⟨_,_,_,_,e⟩:=x;exact fT e
 | tup xs=>obtain ⟨_,_,_,p⟩:=x;exact p.lt
 | dK kvs=>obtain ⟨_,_,_,_,o,_,_,e,_⟩:=x;exact fT e
 | dT kvs=>obtain ⟨_,_,_,_,o,_,_,e,_⟩:=x;exact fT e
 | set S n=>obtain ⟨o,_,_,_,e,_⟩:=x;exact fT e
 | ins C dx fs=>obtain ⟨_,_,_,e,_⟩:=x;exact fT e
 | own y=>obtain ⟨_,e⟩:=x;exact fT e
 | xd fs=>obtain ⟨_,⟨_,_,_,e,_⟩,_⟩:=x;exact fT e
 | rng lo hi=>obtain ⟨_,_,_,e⟩:=x;exact fT e
 | Nb ob u=>obtain ⟨e,_⟩:=x;exact fT e
 | tbl ps=>exact fT (show h.get? a=some _ from x)
 | met f y=>exact fT (show h.get? a=some _ from x)
 | ext φ=>obtain ⟨_,⟨_,e⟩,_⟩:=x;exact fT e
theorem Paired.acM:∀{l₁:List α} {l₂:List β},Paired F l₁ l₂→(∀a b,F a b→G a b)→Paired G l₁ l₂
 | _,_,.nil,_=>.nil
 | _,_,.cons r t,f=>.cons (f _ _ r) (Paired.acM t f)
theorem gA.stay (x:gA P w H h a o) (k:∀b u,(b=a∨H b=some (.own a))→h.get? b=some u→h'.get? b=some u)
 (ho:∀b,H b=some (.own a)→H' b=some (.own a)) (ht:∀b xs,H b=some 0#t→H' b=some 0#t):gA P w H' h' a o:=by
 induction o with
 | lst xs=>obtain ⟨z,its,n,r,e⟩:=x;exact ⟨z,its,n,r,k _ _ (.inl rfl) e⟩
 | tup xs=>obtain ⟨z,its,r,ob,e,c⟩:=x;exact ⟨z,its,r,ob,k _ _ (.inl rfl) e,c⟩
 | dK kvs=>obtain ⟨z,y,vs,r,ob,es,ep,e,c⟩:=x;exact ⟨z,y,vs,r,ob,es,ep,k _ _ (.inl rfl) e,c⟩
 | dT kvs=>
   obtain ⟨z,y,xs,r,ob,es,ep,e,c⟩:=x
   exact ⟨z,y,xs,Paired.acM r fun p q z=>⟨z.1,ht _ _ z.2.1,z.2.2⟩,ob,es,ep,k _ _ (.inl rfl) e,c⟩
 | set S n=>obtain ⟨ob,es,ep,t,e,c⟩:=x;exact ⟨ob,es,ep,t,k _ _ (.inl rfl) e,c⟩
 | ins C dx fs=>
   obtain ⟨d,z,ne,e,mA,⟨od,es,ep,e2,c⟩,r⟩:=x
   exact ⟨ho _ d,z,ne,k _ _ (.inl rfl) e,mA,⟨od,es,ep,k _ _ (.inr d) e2,c⟩,r⟩
 | own y=>obtain ⟨ob,e⟩:=x;exact ⟨ob,k _ _ (.inl rfl) e⟩
 | xd fs=>obtain ⟨mA,⟨od,es,ep,e,c⟩,r⟩:=x;exact ⟨mA,⟨od,es,ep,k _ _ (.inl rfl) e,c⟩,r⟩
 | rng lo hi=>obtain ⟨t,u,v,e⟩:=x;exact ⟨t,u,v,k _ _ (.inl rfl) e⟩
 | Nb ob u ih=>obtain ⟨e,q⟩:=x;exact ⟨k _ _ (.inl rfl) e,ih q⟩
 | tbl ps=>
   have e:h.get? a=some { cls:=.none,data:=.fields ps }:=x
   show h'.get? a=some { cls:=.none,data:=.fields ps }
   exact k a _ (.inl rfl) e
 | met f y=>
   have e:h.get? a=some (Uc (.ref f) (.ref y)):=x
   show h'.get? a=some (Uc (.ref f) (.ref y))
   exact k a _ (.inl rfl) e
 | ext φ=>obtain ⟨p,⟨o,e⟩,st⟩:=x;exact ⟨st _ _ p fun o q=>k _ _ (.inl rfl) q,⟨o,k _ _ (.inl rfl) e⟩,st⟩
theorem xo.lt (x:xo P w H h) (e:H a=some o):a<h.objs.size:=(x a o e).lt
theorem xo.fresh {a:av} (x:xo P w H h) (e:h.objs.size≤a):H a=none:=by
 cases q:H a with
 | none=>rfl
 | some u=>exact absurd (qq (x.lt q) e) (C4 _)
theorem xo.kept (x:xo P w H h) (k:∀b u,h.get? b=some u→h'.get? b=some u):xo P w H h':=fun a o e=>
 (x a o e).stay (fun b u _ q=>k b u q) (fun _ q=>q) fun _ _ q=>q
theorem xo.laid {a:av} (x:xo P w H h) (k:∀b u,h.get? b=some u→h'.get? b=some u) (hp:h.objs.size≤a) (new:gA P w (upd H a o) h' a o):xo P w (upd H a o) h':=fun b u e=>by
 have hn:=x.fresh hp
 by_cases hb:b=a
 ·subst hb;rw [aA] at e;cases e;exact new
 ·rw [aM hb] at e
  exact (x b u e).stay (fun c v _ q=>k c v q) (fun c q=>by rw [aM (bH q hn)];exact q) fun c xs q=>by rw [aM (bH q hn)];exact q
end
def Rd (H:Hp) (a:av) (u:HO):Prop:=H a=some u∨∃o,H a=some (.Nb o u)
theorem Rd.ok (r:Rd H a u) (x:xo P w H h):gA P w H h a u:=by
 rcases r with r | ⟨o,r⟩
 ·exact x a u r
 ·obtain ⟨_,q⟩:=x a _ r
  exact q
def Mut:Option HO→Prop
 | some (.lst _)=>True
 | some (.dK _)=>True
 | some (.dT _)=>True
 | some (.set _ _)=>True
 | some (.ins _ _ _)=>True
 | some (.ext _)=>True
 | _=>False
section
theorem xo.write (ok:xo P w H h) (mu:Mut (H x)) (he:e=x∨H e=some (.own x)) (k:∀b u,b≠e→h.get? b=some u→h'.get? b=some u) (heo:∃u,h'.get? e=some u)
 (new:gA P w (upd H x o') h' x o'):xo P w (upd H x o') h':=fun b u q=>by
 have acS:∀c y,H c=some (.own y)→c≠x:=fun c y r z=>by subst z;rw [r] at mu;exact mu
 have afj:∀c xs,H c=some 0#t→c≠x:=fun c xs r z=>by subst z;rw [r] at mu;exact mu
 by_cases hb:b=x
 ·subst hb;rw [aA] at q;cases q;exact new
 ·rw [aM hb] at q
  by_cases hbe:b=e
  ·have q':H b=some (.own x):=by
    rcases he with z | z
    ·exact absurd (hbe.trans z) hb
    ·rw [hbe];exact z
   rw [q] at q';cases q'
   obtain ⟨v,hv⟩:=heo
   exact ⟨v,by rw [hbe];exact hv⟩
  ·refine (ok b u q).stay (fun c v hc r=>k c v ?_ r) (fun c r=>by rw [aM (acS c b r)];exact r) fun c xs r=>by rw [aM (afj c xs r)];exact r
   rcases hc with rfl | hc
   ·exact hbe
   ·rintro rfl
    rcases he with z | z
    ·exact acS c b hc z
    ·rw [hc] at z;cases z;exact hb rfl
end
structure Un (fs ex:List av) (H H':Hp) (h h':cJ):Prop where
 keep:∀b o,h.get? b=some o→H b=none→b∉fs→b∉ex→h'.get? b=some o
 slot:∀b o,h.get? b=some o→H b=none→b∈fs→b∉ex→∃sl,h'.get? b=some { o with slots:=sl }
 free:∀b o,h.get? b=some o→H b=none→b∉ex→H' b=none
 there:∀b o,h.get? b=some o→b∉ex→∃o',h'.get? b=some o'
 tups:∀b xs,H b=some 0#t→H' b=some 0#t
 Fy:∀b o u,H b=some (.Nb o u)→H' b=some (.Nb o u)
 JM:∀b ps,H b=some (.tbl ps)→∃more,H' b=some (.tbl (ps++more))
section
theorem Un.any (u:Un fs ex H H1 h h1)  (q:h.get? b=some ob) (n:H b=none) (hx:b∉ex):∃sl,h1.get? b=some { ob with slots:=sl }:=by
 by_cases hb:b∈fs
 ·exact u.slot b ob q n hb hx
 ·exact ⟨ob.slots,u.keep b ob q n hb hx⟩
theorem Un.kept (k:∀b u,h.get? b=some u→h'.get? b=some u):Un fs ex H H h h':=
 ⟨fun b ob q _ _ _=>k b ob q,fun b ob q _ _ _=>⟨ob.slots,k b ob q⟩,fun _ _ _ n _=>n,fun b ob q _=>⟨ob,k b ob q⟩,fun _ _ q=>q,fun _ _ _ q=>q,fun _ ps q=>⟨#[],by rw [q];simp⟩⟩
theorem Un.refl:Un fs ex H H h h:=Un.kept fun _ _ q=>q
theorem Un.laid {h:cJ} {a:av} (k:∀b u,h.get? b=some u→h'.get? b=some u) (hp:h.objs.size≤a) (hn:H a=none):Un fs ex H (upd H a o) h h' where
 keep:=fun b u q _ _ _=>k b u q
 slot:=fun b u q _ _ _=>⟨u.slots,k b u q⟩
 free:=fun b u q n _=>by rw [aM (lz (qq (fT q) hp))];exact n
 there:=fun b u q _=>⟨u,k b u q⟩
 tups:=fun b xs q=>by rw [aM (bH q hn)];exact q
 Fy:=fun b u xs q=>by rw [aM (bH q hn)];exact q
 JM:=fun b ps q=>⟨#[],by rw [aM (bH q hn),q];simp⟩
theorem Un.write (mu:Mut (H x)) (he:e=x∨H e=some (.own x)) (k:∀b u,b≠e→h.get? b=some u→h'.get? b=some u) (heo:∃u,h'.get? e=some u):Un fs ex H (upd H x o) h h':=by
 have hx:∀b,H b=none→b≠x:=fun b n z=>by subst z;rw [n] at mu;exact mu
 have hb:∀b,H b=none→b≠e:=fun b n z=>by
  subst z
  rcases he with r | r
  ·exact hx b n r
  ·rw [n] at r;cases r
 have hm:∀b u,H b=some u→¬Mut (some u)→b≠x:=fun b u q nm z=>by subst z;rw [q] at mu;exact nm mu
 refine ⟨fun b u q n _ _=>k b u (hb b n) q,fun b u q n _ _=>⟨u.slots,k b u (hb b n) q⟩,fun b u q n _=>by rw [aM (hx b n)];exact n,fun b u q _=>?_,
  fun b xs q=>by rw [aM (hm b _ q fun z=>z)];exact q,fun b u xs q=>by rw [aM (hm b _ q fun z=>z)];exact q,fun b ps q=>⟨#[],by rw [aM (hm b _ q fun z=>z),q];simp⟩⟩
 by_cases hbe:b=e
 ·subst hbe;exact heo
 ·exact ⟨u,k b u hbe q⟩
end
def trk (h:cJ) (H:Hp):List av:=(fu h.objs.size).filter fun a=>(H a).isSome
def FN (h:cJ) (H:Hp):cJ:=PySem.W.hideAll h (trk h H)
theorem O4 (h:cJ) (H:Hp):(FN h H).objs.size=h.objs.size:=PySem.W.hideAll_size _ _
theorem Rl (e:h.get? b=some o) (n:H b=none):(FN h H).get? b=some o:=
 PySem.W.hideAll_get _ e fun hm=>by
  have q:(H b).isSome=true:=(Df.mp hm).2
  rw [n] at q;simp at q
theorem Wg (e:(FN h H).get? b=some o):h.get? b=some o∧H b=none:=by
 have e':h.get? b=some o:=PySem.W.of_hideAll (trk h H) e
 refine ⟨e',?_⟩
 cases q:H b with
 | none=>rfl
 | some x=>
   have hm:b∈trk h H:=Df.mpr ⟨qH.mpr (fT e'),by simp [q]⟩
   have z:(FN h H).get? b=none:=PySem.W.hideAll_none (trk h H) hm
   rw [z] at e;cases e
structure Mod (K:bZ) (mg:Str→Option aL) (base:cJ):Prop where
 kin:K.In base
 glob:base.Ns fH mg
 blt:∃mb,base.Ns builtinsNs mb∧∀x:Str,x ≠ "__name__"→mb x=uf x
 nolimit:base.NoLimit
structure Cx where
 prog:jk
 w:eG
 K:bZ
 mg:Str→Option aL
 base:cJ
 A:nN
 N:List Str
 s₀:bq
 H₀:Hp
 env:Env
 outer:List Env
 stack:List Env
 ex:List av
 fn:Str→Bool
 calm:Bool
 pn:List (av×Obj)
 xe:aL→bq→Prop
def frs (l:List Env):List av:=l.filterMap (·.frame)
abbrev Cx.fs (X:Cx):List av:=frs X.outer
def Vis (sc:o8) (x:Str):Prop:=sc.names.lookup x=some .local∨sc.names.lookup x=some .cell∨sc.names.lookup x=some .free
def Loc (sc:o8) (x:Str):Prop:=sc.names.lookup x=some .local∨sc.names.lookup x=some .cell
def Look (env:Env) (h:cJ) (m:Str→Option aL) (x:Str) (u:aL):Prop:=
 (env.kindOf x=some .local∧m x=some u)∨((env.kindOf x=some .cell∨env.kindOf x=some .free)∧∃c,env.cells.lookup x=some c∧h.IsCell c (some u))
structure Cx.Ok (X:Cx):Prop where
 mod:Mod X.K X.mg X.base
 kind:X.env.scope.kind=.function
 glob:X.env.globals=fH
 blt:X.env.builtins=builtinsNs
 above:X.s₀.heap.objs.size≤X.env.locals
 inj:∀x y c,X.env.cells.lookup x=some c→X.env.cells.lookup y=some c→x=y
 has:∀x,(X.env.kindOf x=some .cell∨X.env.kindOf x=some .free)→∃c,X.env.cells.lookup x=some c
 Xa:∀x c,X.fn x=true→X.env.cells.lookup x=some c→X.s₀.heap.objs.size≤c
 hd:X.calm=true→X.A.handled=none
 frames:X.A.frames=some X.stack
 stk:X.stack=X.outer∨(X.stack=X.env::X.outer∧X.env.frame=some X.env.locals)
 exf:∀b∈X.ex,b≠X.env.locals∧∀x c,X.env.cells.lookup x=some c→c≠b
 bs:∀b o,X.base.get? b=some o→X.s₀.heap.get? b=some o∧X.H₀ b=none
 OF:X.base.objs.size≤X.s₀.heap.objs.size
 RS:∀b o,X.base.get? b=some o→b∉X.ex
 VB:∀b∈X.ex,b∉X.fs
 z6:X.s₀.heap.FunFrames X.base X.outer
 frf:∀b∈X.fs,X.H₀ b=none
structure Inv (X:Cx) (pins:List (av×Obj)) (σ:List (Option V)) (H:Hp) (s:bq):Prop where
 ok:X.Ok
 os:s.os=X.s₀.os
 bare:wV s.gens
 base:Un X.fs X.ex X.H₀ H X.s₀.heap s.heap
 loc:∃m,s.heap.Ns X.env.locals m∧∀(i:Nat) (x:Str) (v:V),X.N[i]?=some x→σ[i]?=some (some v)→Vis X.env.scope x→∃u,RelV v u∧Look X.env s.heap m x u
 cell:∀x c,X.env.cells.lookup x=some c→∃v,s.heap.IsCell c v
 free:H X.env.locals=none
 tV:∀x c,X.env.cells.lookup x=some c→H c=none
 pin:∀p∈X.pn++pins,s.heap.get? p.1=some p.2∧H p.1=none∧p.1≠X.env.locals∧p.1∉X.fs∧∀v,p.2.data≠.cell v
 hok:xo X.prog X.w H s.heap
 len:σ.length=X.N.length
section
theorem Cx.Ok.afh {X:Cx} (ok:X.Ok)  (e:X.base.get? b=some o):b∉X.fs:=fun hb=>by
 have:=(ok.z6.mem hb).1
 rw [e] at this;cases this
theorem Inv.bs (I:Inv X pins σ H s):∀b o,X.base.get? b=some o→s.heap.get? b=some o∧H b=none:=fun b o e=>
 ⟨I.base.keep b o (I.ok.bs b o e).1 (I.ok.bs b o e).2 (I.ok.afh e) (I.ok.RS b o e),I.base.free b o (I.ok.bs b o e).1 (I.ok.bs b o e).2 (I.ok.RS b o e)⟩
theorem Inv.bk (I:Inv X pins σ H s):∀b o,X.base.get? b=some o→s.heap.get? b=some o:=fun b o e=>(I.bs b o e).1
theorem Inv.mod (I:Inv X pins σ H s):Mod X.K X.mg X.base:=I.ok.mod
theorem Inv.Ah (I:Inv X pins σ H s):X.K.In s.heap:=I.ok.mod.kin.keeps I.bk
theorem Inv.lt (I:Inv X pins σ H s):X.env.locals<s.heap.objs.size:=let ⟨_,hn,_⟩:=I.loc;hn.lt
theorem Inv.sz (I:Inv X pins σ H s):X.s₀.heap.objs.size≤s.heap.objs.size:=eE I.ok.above (tS I.lt)
theorem Inv.afi (I:Inv X pins σ H s) {a:av} (h:s.heap.objs.size≤a):a∉X.fs:=fun hb=>by
 obtain ⟨_,o,ho,_⟩:=I.ok.z6.mem hb
 exact absurd (qq (fT ho) (eE I.sz h)) (C4 _)
theorem Inv.Z1 (I:Inv X pins σ H s):∀x c,X.env.cells.lookup x=some c→c≠X.env.locals:=fun x c e z=>by
 obtain ⟨v,o,ho,hd⟩:=I.cell x c e
 obtain ⟨m,⟨o',es,ep,ho',hd',_⟩,_⟩:=I.loc
 rw [z,ho'] at ho;cases ho;rw [hd'] at hd;cases hd
theorem Inv.z6 (I:Inv X pins σ H s):s.heap.FunFrames X.base X.outer:=by
 have all:∀(l:List Env),(∀b∈frs l,b∈X.fs)→X.s₀.heap.FunFrames X.base l→s.heap.FunFrames X.base l:=by
  intro l
  induction l with
  | nil=>intro _ _;trivial
  | cons env r ih=>
    intro hs hl
    obtain ⟨hk,⟨L,o,hf,hn,ho,hd⟩,hr⟩:=hl
    have hL:L∈X.fs:=hs L (by unfold frs;rw [T4,hf];exact CV)
    obtain ⟨sl,e⟩:=I.base.slot L o ho (I.ok.frf L hL) hL fun z=>I.ok.VB L z hL
    exact ⟨hk,⟨L,_,hf,hn,e,hd⟩,ih (fun b hb=>hs b (by unfold frs;rw [T4,hf];exact D3 _ hb)) hr⟩
 exact all X.outer (fun _ hb=>hb) I.ok.z6
theorem Inv.stack (I:Inv X pins σ H s):s.heap.FunFrames X.base X.stack:=by
 rcases I.ok.stk with e | ⟨e,hf⟩
 ·rw [e];exact I.z6
 ·rw [e]
  obtain ⟨m,hn,_⟩:=I.loc
  refine .cons (by rw [I.ok.kind];decide) hf hn ?_ I.z6
  exact Heap.get?_none_of_le (eE I.ok.OF I.ok.above)
theorem Inv.HB (I:Inv X pins σ H s):∀b∈frs X.stack,b∈X.env.locals::X.fs:=fun b hb=>by
 rcases I.ok.stk with e | ⟨e,hf⟩
 ·rw [e] at hb;exact D3 _ hb
 ·rw [e] at hb
  unfold frs at hb
  rw [T4,hf] at hb
  exact hb
theorem Inv.NL (I:Inv X pins σ H s):∀b∈frs X.stack,H b=none:=fun b hb=>by
 rcases qv.mp (I.HB b hb) with e | hb
 ·rw [e];exact I.free
 ·obtain ⟨_,o,ho,_⟩:=I.ok.z6.mem hb
  exact I.base.free b o ho (I.ok.frf b hb) fun z=>I.ok.VB b z hb
theorem Inv.step {ch:List av} (I:Inv X pins σ H s)
 (hch:∀b∈ch,(b∈X.ex∨X.s₀.heap.objs.size≤b)∧b≠X.env.locals∧(∀x c,X.env.cells.lookup x=some c→c≠b)∧∀p∈X.pn++pins,p.1≠b)
 (keep:∀b o,b≠X.env.locals→b∉X.fs→b∉ch→s.heap.get? b=some o→H b=none→h'.get? b=some o)
 (slot:∀b o,b≠X.env.locals→b∈X.fs→b∉ch→s.heap.get? b=some o→H b=none→∃sl,h'.get? b=some { o with slots:=sl }) (free:∀b o,b∉ch→s.heap.get? b=some o→H b=none→H' b=none)
 (there:∀b o,b∉ch→s.heap.get? b=some o→∃o',h'.get? b=some o')
 (tups:∀b xs,H b=some 0#t→H' b=some 0#t) (Fy:∀b o u,H b=some (.Nb o u)→H' b=some (.Nb o u)) (JM:∀b ps,H b=some (.tbl ps)→∃more,H' b=some (.tbl (ps++more)))
 (ns:∀m,s.heap.Ns X.env.locals m→h'.Ns X.env.locals m) (hok:xo X.prog X.w H' h') (hg:wV g') :
 Inv X pins σ H' { s with heap:=h',gens:=g',drawn:=d',toks:=t' }:=by
 have neL:∀b o,X.s₀.heap.get? b=some o→b≠X.env.locals:=fun b o e=>lz (qq (fT e) I.ok.above)
 have neC:∀b o,X.s₀.heap.get? b=some o→b∉X.ex→b∉ch:=fun b o e hx hb=>by
  rcases (hch b hb).1 with z | z
  ·exact hx z
  ·exact absurd (qq (fT e) z) (C4 _)
 have cellK:∀x c,X.env.cells.lookup x=some c→∀v,s.heap.IsCell c v→h'.IsCell c v:=fun x c e v ⟨o,ho,hd⟩=>by
  have nch:c∉ch:=fun z=>(hch c z).2.2.1 x c e rfl
  by_cases hc:c∈X.fs
  ·obtain ⟨sl,q⟩:=slot c o (I.Z1 x c e) hc nch ho (I.tV x c e)
   exact ⟨_,q,hd⟩
  ·exact ⟨o,keep c o (I.Z1 x c e) hc nch ho (I.tV x c e),hd⟩
 refine ⟨I.ok,I.os,hg,⟨fun b o e n hb hx=>?_,fun b o e n hb hx=>?_,fun b o e n hx=>?_,fun b o e hx=>?_,fun b xs e=>tups b xs (I.base.tups b xs e),fun b o xs e=>Fy b o xs (I.base.Fy b o xs e),fun b ps e=>?_⟩,?_,fun x c e=>?_,?_,fun x c e=>?_,fun p hp=>?_,hok,I.len⟩
 ·exact keep b o (neL b o e) hb (neC b o e hx) (I.base.keep b o e n hb hx) (I.base.free b o e n hx)
 ·obtain ⟨sl,e1⟩:=I.base.slot b o e n hb hx
  obtain ⟨sl',e2⟩:=slot b _ (neL b o e) hb (neC b o e hx) e1 (I.base.free b o e n hx)
  exact ⟨sl',e2⟩
 ·obtain ⟨o',e1⟩:=I.base.there b o e hx
  exact free b o' (neC b o e hx) e1 (I.base.free b o e n hx)
 ·obtain ⟨o',e1⟩:=I.base.there b o e hx
  exact there b o' (neC b o e hx) e1
 ·obtain ⟨m1,e1⟩:=I.base.JM b ps e
  obtain ⟨m2,e2⟩:=JM b _ e1
  exact ⟨m1++m2,by rw [e2,Array.append_assoc]⟩
 ·obtain ⟨m,hn,hl⟩:=I.loc
  refine ⟨m,ns m hn,fun i x v e1 e2 e3=>?_⟩
  obtain ⟨u,r,l⟩:=hl i x v e1 e2 e3
  refine ⟨u,r,?_⟩
  rcases l with l | ⟨k,c,e,z⟩
  ·exact .inl l
  ·exact .inr ⟨k,c,e,cellK x c e _ z⟩
 ·obtain ⟨v,z⟩:=I.cell x c e
  exact ⟨v,cellK x c e v z⟩
 ·obtain ⟨m,⟨o,_,_,ho,_⟩,_⟩:=I.loc
  exact free _ o (fun z=>(hch _ z).2.1 rfl) ho I.free
 ·obtain ⟨v,o,ho,hd⟩:=I.cell x c e
  exact free c o (fun z=>(hch c z).2.2.1 x c e rfl) ho (I.tV x c e)
 ·obtain ⟨e,n,ne,nf,d⟩:=I.pin p hp
  have nch:p.1∉ch:=fun z=>(hch p.1 z).2.2.2 p hp rfl
  exact ⟨keep p.1 p.2 ne nf nch e n,free p.1 p.2 nch e n,ne,nf,d⟩
theorem Inv.un (I:Inv X pins σ H s) (u:Un X.fs [] H H' s.heap h') (hok:xo X.prog X.w H' h'):Inv X pins σ H' { s with heap:=h',toks:=t' }:=by
 obtain ⟨m,⟨o,es,ep,ho,r⟩,_⟩:=id I.loc
 obtain ⟨sl,hL⟩:=u.any ho I.free 0#e
 exact I.step (g':=s.gens) (d':=s.drawn) (ch:=[]) (fun _ z=>nomatch z) (fun b o _ hb _ e n=>u.keep b o e n hb 0#e) (fun b o _ hb _ e n=>u.slot b o e n hb 0#e) (fun b o _ e n=>u.free b o e n 0#e) (fun b o _ e=>u.there b o e 0#e) u.tups u.Fy u.JM (fun m' hm=>by
  obtain ⟨o',es',ep',ho',r'⟩:=hm
  rw [ho] at ho';cases ho'
  exact ⟨_,es',ep',hL,r'⟩) hok I.bare
theorem Inv.call (I:Inv X pins σ H s) (u:Un (frs X.stack) ch H H' s.heap h') (hok:xo X.prog X.w H' h') (hg:wV g')
 (hch:∀b∈ch,(b∈X.ex∨X.s₀.heap.objs.size≤b)∧b≠X.env.locals∧(∀x c,X.env.cells.lookup x=some c→c≠b)∧∀p∈X.pn++pins,p.1≠b) :
 Inv X pins σ H' { s with heap:=h',gens:=g',drawn:=d',toks:=t' }:=by
 obtain ⟨m,⟨o,es,ep,ho,r⟩,_⟩:=id I.loc
 obtain ⟨sl,hL⟩:=u.any ho I.free fun z=>(hch _ z).2.1 rfl
 exact I.step (ch:=ch) hch (fun b o hL hb hc e n=>u.keep b o e n (fun z=>(qv.mp (I.HB b z)).elim hL hb) hc) (fun b o _ _ hc e n=>u.any e n hc) (fun b o hc e n=>u.free b o e n hc) (fun b o hc e=>u.there b o e hc) u.tups u.Fy u.JM (fun m' hm=>by
  obtain ⟨o',es',ep',ho',r'⟩:=hm
  rw [ho] at ho';cases ho'
  exact ⟨_,es',ep',hL,r'⟩) hok hg
theorem Inv.turned (I:Inv X pins σ H s) (k:∀b o,b≠it→s.heap.get? b=some o→h'.get? b=some o) (hn:H it=none) (hL:it≠X.env.locals)
 (h1:it∈X.ex∨X.s₀.heap.objs.size≤it) (h2:∀x c,X.env.cells.lookup x=some c→c≠it) (h3:∀p∈X.pn++pins,p.1≠it):Inv X pins σ H { s with heap:=h',toks:=t' }:=by
 have nit:∀b u,H b=some u→b≠it:=fun b u e z=>by rw [z,hn] at e;cases e
 refine I.step (g':=s.gens) (d':=s.drawn) (ch:=[it]) (fun b hb=>?_) (fun b o _ _ hc e _=>k b o (fun z=>hc (by simp [z])) e) (fun b o _ _ hc e _=>⟨o.slots,k b o (fun z=>hc (by simp [z])) e⟩) (fun _ _ _ _ n=>n)
  (fun b o hc e=>⟨o,k b o (fun z=>hc (by simp [z])) e⟩) (fun _ _ e=>e) (fun _ _ _ e=>e) (fun b ps e=>⟨#[],by rw [e];simp⟩) (fun m hm=>?_) (fun b u e=>?_) I.bare
 ·have e:b=it:=by simpa using hb
  subst e
  exact ⟨h1,hL,h2,h3⟩
 ·obtain ⟨o,es,ep,ho,r⟩:=hm
  exact ⟨o,es,ep,k _ o (jn hL) ho,r⟩
 ·refine (I.hok b u e).stay (fun c v hc q=>k c v ?_ q) (fun _ q=>q) fun _ _ q=>q
  rcases hc with z | z
  ·rw [z];exact nit b u e
  ·exact nit c _ z
theorem Inv.tok (I:Inv X pins σ H s) (t:Nat):Inv X pins σ H { s with toks:=t }:=I.un (h':=s.heap) (t':=t) Un.refl I.hok
theorem Inv.kept (I:Inv X pins σ H s) (k:∀b u,s.heap.get? b=some u→h'.get? b=some u):Inv X pins σ H { s with heap:=h',toks:=t' }:=I.un (Un.kept k) (I.hok.kept k)
theorem Inv.laid {a:av} (I:Inv X pins σ H s) (k:∀b u,s.heap.get? b=some u→h'.get? b=some u) (hp:s.heap.objs.size≤a) (new:gA X.prog X.w (upd H a o) h' a o) :
 Inv X pins σ (upd H a o) { s with heap:=h',toks:=t' }:=I.un (Un.laid k hp (I.hok.fresh hp)) (I.hok.laid k hp new)
theorem Inv.write (I:Inv X pins σ H s) (mu:Mut (H x)) (he:e=x∨H e=some (.own x)) (k:∀b u,b≠e→s.heap.get? b=some u→h'.get? b=some u) (heo:∃u,h'.get? e=some u)
 (new:gA X.prog X.w (upd H x o) h' x o):Inv X pins σ (upd H x o) { s with heap:=h',toks:=t' }:=I.un (Un.write mu he k heo) (I.hok.write mu he k heo new)
theorem Inv.NC (I:Inv X pins σ H s) (h:∀p∈acV,s.heap.get? p.1=some p.2∧H p.1=none∧p.1≠X.env.locals∧p.1∉X.fs∧∀v,p.2.data≠.cell v):Inv X acV σ H s:=
 ⟨I.ok,I.os,I.bare,I.base,I.loc,I.cell,I.free,I.tV,fun p hp=>(dN.mp hp).elim (fun z=>I.pin p (EK _ z)) (h p),I.hok,I.len⟩
theorem Jg {N:List Str} (hN:N.Nodup) {i:Nat} (a:N[i]?=some x) (b:N[j]?=some x):i=j:=by
 obtain ⟨h1,e1⟩:=lR.mp a
 obtain ⟨h2,e2⟩:=lR.mp b
 exact (List.getElem_inj hN).mp (e1.trans e2.symm)
theorem EI {X:Cx} {pins:List (av×Obj)} {σ:List (Option V)} {H:Hp} {s:bq} {M:Model} {A:nN} {E:aL→bq→Prop} {i:Nat} {x:Str} {v:V} {u:aL} {Q:Unit→bq→Prop} (I:Inv X pins σ H s) (hN:X.N.Nodup) (hi:X.N[i]?=some x) (hx:Loc X.env.scope x) (r:RelV v u)
 (h:∀s',Inv X pins (σ.set i (some v)) H s'→(∃a,C6 a s.heap s'.heap∧(a=X.env.locals∨X.env.cells.lookup x=some a))→Q () s') (hf:X.fn x=true∨X.env.scope.names.lookup x=some .local:=by first | exact .inl rfl | exact .inr rfl | assumption):b8 M A (storeName X.env x u) Q E s:=by
 obtain ⟨m,hn,hl⟩:=id I.loc
 have hcls:(X.env.scope.kind==.class||(X.env.scope.kind==.module&&X.env.locals != X.env.globals))=false:=by rw [I.ok.kind];rfl
 have acr:i<σ.length:=by rw [I.len];exact (lR.mp hi).1
 have Z1:=I.Z1
 have tracked:∀{a:av} {h':cJ},(∃o,s.heap.get? a=some o∧H a=none)→C6 a s.heap h'→xo X.prog X.w H h':=fun {a h'} ha hs b ob e=>by
  obtain ⟨_,_,hfree⟩:=ha
  refine (I.hok b ob e).stay (fun c w' hc q=>(hs.2 c ?_).trans q) (fun _ q=>q) fun _ _ q=>q
  rintro rfl
  rcases hc with rfl | hc
  ·rw [hfree] at e;cases e
  ·rw [hfree] at hc;cases hc
 rcases hx with hk | hk
 ·refine wpAny_storeName_local hk hn (fun h' hn' hs=>?_) hcls
  obtain ⟨oL,_,_,hoL,_⟩:=id hn
  refine h _ ⟨I.ok,I.os,I.bare,⟨fun b o e n hb hx=>?_,fun b o e n hb hx=>?_,I.base.free,fun b o e hx=>?_,I.base.tups,I.base.Fy,I.base.JM⟩,⟨_,hn',fun j y v' e1 e2 e3=>?_⟩,fun y c e=>?_,I.free,I.tV,fun p hp=>?_,tracked ⟨oL,hoL,I.free⟩ hs,by simpa using I.len⟩ ⟨_,hs,.inl rfl⟩
  ·exact (hs.2 b (lz (qq (fT e) I.ok.above))).trans (I.base.keep b o e n hb hx)
  ·obtain ⟨sl,e1⟩:=I.base.slot b o e n hb hx
   exact ⟨sl,(hs.2 b (lz (qq (fT e) I.ok.above))).trans e1⟩
  ·obtain ⟨o',e1⟩:=I.base.there b o e hx
   exact ⟨o',(hs.2 b (lz (qq (fT e) I.ok.above))).trans e1⟩
  ·by_cases hj:j=i
   ·subst hj
    rw [hi] at e1;cases e1
    rw [XS acr] at e2
    cases e2
    exact ⟨u,r,.inl ⟨hk,by simp⟩⟩
   ·rw [Yg (jn hj)] at e2
    obtain ⟨u',r',q⟩:=hl j y v' e1 e2 e3
    refine ⟨u',r',?_⟩
    rcases q with ⟨k,e⟩ | ⟨k,c,e,z⟩
    ·refine .inl ⟨k,?_⟩
     have:y≠x:=fun e=>hj (Jg hN e1 (e▸hi))
     simp [this,e]
    ·exact .inr ⟨k,c,e,z.sameBut hs (Z1 y c e)⟩
  ·obtain ⟨w',z⟩:=I.cell y c e
   exact ⟨w',z.sameBut hs (Z1 y c e)⟩
  ·obtain ⟨e,n,ne,nf,d⟩:=I.pin p hp
   exact ⟨(hs.2 p.1 ne).trans e,n,ne,nf,d⟩
 ·have hfn:X.fn x=true:=by
   rcases hf with z | z
   ·exact z
   ·rw [z] at hk;cases hk
  obtain ⟨c,hc⟩:=I.ok.has x (.inl hk)
  obtain ⟨w',z⟩:=I.cell x c hc
  refine wpAny_storeName_cell I.ok.kind hk hc z (fun h' hc' hs=>?_)
  obtain ⟨oc,hoc,aeS⟩:=id z
  refine h { s with heap:=h' } ⟨I.ok,I.os,I.bare,⟨fun b o e n hb hx=>?_,fun b o e n hb hx=>?_,I.base.free,fun b o e hx=>?_,I.base.tups,I.base.Fy,I.base.JM⟩,⟨m,hn.sameBut hs (jn (Z1 x c hc)),fun j y v' e1 e2 e3=>?_⟩,fun y c' e=>?_,I.free,I.tV,fun p hp=>?_,tracked ⟨oc,hoc,I.tV x c hc⟩ hs,by simpa using I.len⟩ ⟨c,hs,.inr hc⟩
  ·exact (hs.2 b (lz (qq (fT e) (I.ok.Xa x c hfn hc)))).trans (I.base.keep b o e n hb hx)
  ·obtain ⟨sl,e1⟩:=I.base.slot b o e n hb hx
   exact ⟨sl,(hs.2 b (lz (qq (fT e) (I.ok.Xa x c hfn hc)))).trans e1⟩
  ·obtain ⟨o',e1⟩:=I.base.there b o e hx
   exact ⟨o',(hs.2 b (lz (qq (fT e) (I.ok.Xa x c hfn hc)))).trans e1⟩
  ·by_cases hj:j=i
   ·subst hj
    rw [hi] at e1;cases e1
    rw [XS acr] at e2
    cases e2
    exact ⟨u,r,.inr ⟨.inl hk,c,hc,hc'⟩⟩
   ·rw [Yg (jn hj)] at e2
    obtain ⟨u',r',q⟩:=hl j y v' e1 e2 e3
    refine ⟨u',r',?_⟩
    rcases q with q | ⟨k,c',e,z'⟩
    ·exact .inl q
    ·refine .inr ⟨k,c',e,z'.sameBut hs ?_⟩
     rintro rfl
     exact hj (Jg hN e1 (I.ok.inj _ _ _ e hc▸hi))
  ·by_cases hcc:c'=c
   ·subst hcc;exact ⟨_,hc'⟩
   ·obtain ⟨w2,z2⟩:=I.cell y c' e
    exact ⟨w2,z2.sameBut hs hcc⟩
  ·obtain ⟨e,n,ne,nf,d⟩:=I.pin p hp
   refine ⟨(hs.2 p.1 ?_).trans e,n,ne,nf,d⟩
   intro q
   rw [q,hoc] at e
   have q':oc=p.2:=xg e
   exact d w' (by rw [← q'];exact aeS)
theorem wI {X:Cx} {pins:List (av×Obj)} {σ:List (Option V)} {H:Hp} {s:bq} {M:Model} {A:nN} {E:aL→bq→Prop} {i:Nat} {x:Str} {v:V} {u:aL} {Q:Unit→bq→Prop} (I:Inv X pins σ H s) (hN:X.N.Nodup) (hi:X.N[i]?=some x) (hx:Loc X.env.scope x) (r:RelV v u)
 (h:∀s',Inv X pins (σ.set i (some v)) H s'→Q () s') (hf:X.fn x=true∨X.env.scope.names.lookup x=some .local:=by first | exact .inl rfl | exact .inr rfl | assumption):b8 M A (storeName X.env x u) Q E s:=
 EI I hN hi hx r (fun s' I' _=>h s' I') hf
theorem Inv.Xb (I:Inv X pins σ H s) (ho:s'.os=s.os) (u:Un (frs X.stack) ch H H' s.heap s'.heap) (hok:xo X.prog X.w H' s'.heap) (hg:wV s'.gens)
 (hch:∀b∈ch,(b∈X.ex∨X.s₀.heap.objs.size≤b)∧b≠X.env.locals∧(∀x c,X.env.cells.lookup x=some c→c≠b)∧∀p∈X.pn++pins,p.1≠b):Inv X pins σ H' s':=by
 obtain ⟨h',g',d',t',o'⟩:=s'
 have e:o'=s.os:=ho
 subst e
 exact I.call (g':=g') (t':=t') (d':=d') u hok hg hch
end
abbrev XK:=aL→Option av→Hp→Prop
abbrev St:=List (Option V)
abbrev VK:=V→Hp→Prop
abbrev TE:=St→Hp→VK→Prop
abbrev TT:=St→Hp→(Bool→Hp→Prop)→Prop
abbrev TA:=St→Hp→(List V→Hp→Prop)→Prop
structure Ends where
 nx:St→Hp→Prop
 rt:VK
 bk:St→Hp→Prop:=fun _ _=>False
 ct:St→Hp→Prop:=fun _ _=>False
abbrev TS:=Ends→St→Hp→Prop
def EP (X:Cx) (pins:List (av×Obj)) (σ:St) (Q:VK) (u:aL) (s':bq):Prop:=∃v H',Inv X pins σ H' s'∧RelV v u∧Q v H'
def TP (X:Cx) (pins:List (av×Obj)) (σ:St) (Q:Bool→Hp→Prop) (b:Bool) (s':bq):Prop:=∃H',Inv X pins σ H' s'∧Q b H'
def AP (X:Cx) (pins:List (av×Obj)) (σ:St) (Q:List V→Hp→Prop) (us:List aL) (s':bq):Prop:=∃vs H',Inv X pins σ H' s'∧Vals vs us∧Q vs H'
def SP (X:Cx) (pins:List (av×Obj)) (D:Ends) (f:Flow) (s':bq):Prop:=
 match f with
 | .next=>∃σ' H',Inv X pins σ' H' s'∧D.nx σ' H'
 | .brk=>∃σ' H',Inv X pins σ' H' s'∧D.bk σ' H'
 | .cont=>∃σ' H',Inv X pins σ' H' s'∧D.ct σ' H'
 | .ret u=>∃v σ' H',Inv X pins σ' H' s'∧RelV v u∧D.rt v H'
def PE (X:Cx) (e:bg) (t:TE):Prop:=
 ∀(pins:List (av×Obj)) (s:bq) (σ:St) (H:Hp) (Q:VK),Inv X pins σ H s→t σ H Q→b8 0#o X.A (eval e X.env) (EP X pins σ Q) X.xe s
def PT (X:Cx) (e:bg) (t:TT):Prop:=
 ∀(pins:List (av×Obj)) (s:bq) (σ:St) (H:Hp) (Q:Bool→Hp→Prop),Inv X pins σ H s→t σ H Q→b8 0#o X.A (isTrue e X.env (eval e X.env)) (TP X pins σ Q) X.xe s
def PW (X:Cx) (e:bg) (t:TT):Prop:=
 ∀(whole:Sem aL) (pins:List (av×Obj)) (s:bq) (σ:St) (H:Hp) (Q:Bool→Hp→Prop),Inv X pins σ H s→t σ H Q→b8 0#o X.A (isTrue e X.env whole) (TP X pins σ Q) X.xe s
theorem PW.pt (h:PW X e t):PT X e t:=h _
def PA (X:Cx) (es:List bg) (t:TA):Prop:=
 ∀(pos:Pos) (pins:List (av×Obj)) (s:bq) (σ:St) (H:Hp) (Q:List V→Hp→Prop),Inv X pins σ H s→t σ H Q→b8 0#o X.A (spliced (gZ pos (bw es X.env))) (AP X pins σ Q) X.xe s
def PS (X:Cx) (st:aT) (t:TS):Prop:=
 ∀(pins:List (av×Obj)) (s:bq) (σ:St) (H:Hp) (D:Ends),Inv X pins σ H s→t D σ H→b8 0#o X.A (exec st X.env) (SP X pins D) X.xe s
def Ky (X:Cx) (st:List aT) (t:TS):Prop:=
 ∀(pins:List (av×Obj)) (s:bq) (σ:St) (H:Hp) (D:Ends),Inv X pins σ H s→t D σ H→b8 0#o X.A (execs st X.env) (SP X pins D) X.xe s
theorem gR (h:b8 M A t Q E s) (hQ:∀a s,Q a s→Q' a s):b8 M A t Q' E s:=o6 h hQ fun _ _ x=>x
section
def WX (i:Nat):TE:=fun σ H Q=>∃v,σ[i]?=some (some v)∧Q v H
def tC (v:V):TE:=fun _ H Q=>Q v H
theorem aa1 (hN:X.N[i]?=some x) (hv:Vis X.env.scope x) (hd:0#y=false:=by decide) (hcd:(x==("__classdict__":Str))=false:=by decide):PE X (.Name x pos) (WX i):=by
 intro pins s σ H Q I h
 obtain ⟨v,e,h⟩:=h
 obtain ⟨m,hn,hl⟩:=I.loc
 obtain ⟨u,r,l⟩:=hl i x v hN e hv
 have fin:EP X pins σ Q u s:=⟨v,H,I,r,h⟩
 rcases l with ⟨hk,hm⟩ | ⟨hk,c,hc,hcell⟩
 ·exact UL (wpAny_loadName_local I.ok.kind hk hn hm fin) hd
 ·rcases hk with hk | hk
  ·exact UL (wpAny_loadName_cell I.ok.kind hk hc hcell fin) hd
  ·exact UL (wpAny_loadName_free I.ok.kind hk hc hcell fin hcd) hd
theorem B0 {X:Cx} {i j pos}:PE X (.Constant (.int i) j pos) (tC (.int i)):=fun _ _ _ H _ I h=>wpAny_Constant_int ⟨.int i,H,I.tok _,⟨_,rfl⟩,h⟩
theorem oS {X:Cx} {b j pos}:PE X (.Constant (.bool b) j pos) (tC (.bl b)):=fun _ _ _ H _ I h=>Constant_bool ⟨.bl b,H,I,rfl,h⟩
theorem LV {X:Cx} {j pos}:PE X (.Constant .none j pos) (tC .bM):=fun _ _ _ H _ I h=>Constant_none ⟨.bM,H,I,rfl,h⟩
theorem LX {X:Cx} {x j pos}:PE X (.Constant (.str x) j pos) (tC (.str x)):=fun _ _ _ H _ I h=>Calls.Constant_str ⟨.str x,H,I.tok _,⟨_,rfl⟩,h⟩
def Gl (X:Cx) (x:Str):Prop:=X.env.kindOf x=some .globalImplicit
theorem FW {σ:St} (I:Inv X pins σ H s) (hg:Gl X x) (hm:X.mg x=some u) (h:Q u s)
 (hd:0#y=false:=by decide):b8 0#o X.A (eval (.Name x pos) X.env) Q E s:=
 XH I.ok.kind hg (Calls.loadGlobal_global (by rw [I.ok.glob];exact I.mod.glob.keeps I.bk) hm h) hd
theorem uH {σ:St} (I:Inv X pins σ H s) (hg:Gl X x) (hm:X.mg x=none) (hv:uf x=some u) (h:Q u s)
 (hn:x ≠ "__name__":=by decide) (hd:0#y=false:=by decide):b8 0#o X.A (eval (.Name x pos) X.env) Q E s:=by
 obtain ⟨mb,h1,h2⟩:=I.mod.blt
 exact XH I.ok.kind hg (Calls.loadGlobal_builtin (by rw [I.ok.glob];exact I.mod.glob.keeps I.bk) hm (by rw [I.ok.blt];exact h1.keeps I.bk) ((h2 x hn).trans hv) h) hd
theorem Wt (hg:Gl X x) (hm:X.mg x=some u) (r:RelV v u) (hd:0#y=false:=by decide):PE X (.Name x pos) (tC v):=
 fun _ _ _ H _ I h=>FW I hg hm ⟨v,H,I,r,h⟩ hd
theorem Wr (hg:Gl X x) (hm:X.mg x=none) (hv:uf x=some u) (r:RelV v u) (hn:x ≠ "__name__":=by decide) (hd:0#y=false:=by decide):PE X (.Name x pos) (tC v):=
 fun _ _ _ H _ I h=>uH I hg hm hv ⟨v,H,I,r,h⟩ hn hd
def tB (t:TE):TT:=fun σ H Q=>t σ H fun x H1=>∃c,x=.bl c∧Q c H1
theorem Ma {X:Cx} {e:bg} {t:TE} (h:PE X e t) (he:∀whole,isTrue e X.env whole=(do let v ← whole;zU e.pos;holding [v] (truthy v)):=by intro _;rfl):PT X e (tB t):=by
 intro pins s σ H Q I hw
 refine isTrue_plain (gR (h pins s σ H _ I hw) fun v s1 ⟨x,H1,I1,r1,q1⟩=>?_) (he _)
 obtain ⟨d,rfl,q⟩:=q1
 cases r1
 exact J1 ⟨H1,I1,q⟩
def aby (t u:TT):TT:=fun σ H Q=>t σ H fun c H1=>if c=true then u σ H1 Q else Q false H1
def tOr (t u:TT):TT:=fun σ H Q=>t σ H fun c H1=>if c=true then Q true H1 else u σ H1 Q
def abD (t:TT):TT:=fun σ H Q=>t σ H fun c H1=>Q (!c) H1
theorem GS (ha:PT X a tA):PW X (.BoolOp .And [a] pos) tA:=by
 intro wh pins s σ H Q I h
 refine isTrue_and (gR (ha pins s σ H Q I h) fun c s1 e=>?_)
 cases c with
 | true=>exact isTrue_and_nil e
 | false=>exact e
theorem Cc (ha:PT X a tA):PW X (.BoolOp .Or [a] pos) tA:=by
 intro wh pins s σ H Q I h
 refine isTrue_or (gR (ha pins s σ H Q I h) fun c s1 e=>?_)
 cases c with
 | false=>exact isTrue_or_nil e
 | true=>exact e
theorem Mc (ha:PT X a tA) (hb:PW X (.BoolOp .And (b::rest) pos) tB'):PW X (.BoolOp .And (a::b::rest) pos) (aby tA tB'):=by
 intro wh pins s σ H Q I h
 refine isTrue_and (gR (ha pins s σ H _ I h) fun c s1 ⟨H1,I1,q1⟩=>?_)
 cases c with
 | true=>exact hb wh pins s1 σ H1 Q I1 q1
 | false=>exact ⟨H1,I1,q1⟩
theorem Jw (ha:PT X a tA) (hb:PW X (.BoolOp .Or (b::rest) pos) tB'):PW X (.BoolOp .Or (a::b::rest) pos) (tOr tA tB'):=by
 intro wh pins s σ H Q I h
 refine isTrue_or (gR (ha pins s σ H _ I h) fun c s1 ⟨H1,I1,q1⟩=>?_)
 cases c with
 | true=>exact ⟨H1,I1,q1⟩
 | false=>exact hb wh pins s1 σ H1 Q I1 q1
theorem Cb (ha:PT X a tA):PT X (.UnaryOp .Not a pos) (abD tA):=by
 intro pins s σ H Q I h
 exact isTrue_not (ha pins s σ H (fun c H1=>Q (!c) H1) I h)
def Tv (ta tb:TE):TE:=fun σ H Q=>ta σ H fun x H1=>∃c,x=.bl c∧if c=true then tb σ H1 Q else Q (.bl false) H1
theorem LW {X:Cx} {a:bg} {pos:Pos} {op} {t:TE} (h:PE X a t):PE X (.BoolOp op [a] pos) t:=fun pins s σ H Q I hw=>BoolOp_one (h pins s σ H Q I hw)
theorem Gy (ha:PE X a ta) (hb:PE X (.BoolOp .And (b::rest) pos) tb):PE X (.BoolOp .And (a::b::rest) pos) (Tv ta tb):=by
 intro pins s σ H Q I h
 refine BoolOp_and (gR (ha pins s σ H _ I h) fun v s1 ⟨x,H1,I1,r1,q1⟩=>?_)
 obtain ⟨c,rfl,q1⟩:=q1
 cases r1
 refine J1 ?_
 cases c with
 | true=>exact hb pins s1 σ H1 Q I1 q1
 | false=>exact ⟨.bl false,H1,I1,rfl,q1⟩
def tIf (t:TT) (ta tb:TE):TE:=fun σ H Q=>t σ H fun c H1=>if c=true then ta σ H1 Q else tb σ H1 Q
theorem BZ (hc:PT X c tA) (ha:PE X a ta) (hb:PE X b tb):PE X (.IfExp c a b pos) (tIf tA ta tb):=by
 intro pins s σ H Q I h
 refine wpAny_IfExp (gR (hc pins s σ H _ I h) fun d s1 ⟨H1,I1,q1⟩=>?_)
 cases d with
 | true=>exact ha pins s1 σ H1 Q I1 q1
 | false=>exact hb pins s1 σ H1 Q I1 q1
end
def aX (K:bZ) (H:Hp) (a:av) (xs:List V):Prop:=
 Rd H a (.lst xs) ∨
  ∃(o:Obj) (its:Array aL) (n:Nat),K.lookup a=some o∧o.cls=.type "list"∧o.dict=none∧o.data=.seq its n∧its.size≤sizeLine∧Vals xs its.toList
def tG (K:bZ) (H:Hp) (a:av) (xs:List V):Prop:=
 Rd H a 0#t ∨
  ∃(o:Obj) (its:Array aL) (n:Nat),K.lookup a=some o∧o.cls=.type "tuple"∧o.data=.seq its n∧its.size≤sizeLine∧Vals xs its.toList
def aeB:aL→Option V
 | .none=>some .bM
 | .bool b=>some (.bl b)
 | .int i _=>some (.int i)
 | .str x _=>some (.str x)
 | .bytes b _=>some (.P7 b)
 | .float b _=>some (.flt b)
 | .ref a=>some (.ref a)
 | .type n=>some (.ty n)
 | _=>none
theorem RelV.abs (r:RelV x u):aeB u=some x:=by
 cases x with
 | bM=>cases r;rfl
 | bl _=>cases r;rfl
 | int _=>obtain ⟨t,rfl⟩:=r;rfl
 | str _=>obtain ⟨t,rfl⟩:=r;rfl
 | P7 _=>obtain ⟨t,rfl⟩:=r;rfl
 | flt _=>obtain ⟨t,rfl⟩:=r;rfl
 | ref _=>cases r;rfl
 | ty _=>cases r;rfl
theorem RelV.inj (r:RelV x u) (q:RelV y u):x=y:=xg (r.abs.symm.trans q.abs)
theorem Vals.inj:∀{xs ys:List V} {us:List aL},Vals xs us→Vals ys us→xs=ys
 | _,_,_,.nil,.nil=>rfl
 | _,_,_,.cons r t,.cons r' t'=>by rw [r.inj r',Vals.inj t t']
section
theorem aX.of {K:bZ} (h:H a=some (.lst xs)):aX K H a xs:=.inl (.inl h)
theorem tG.of {K:bZ} (h:H a=some 0#t):tG K H a xs:=.inl (.inl h)
theorem Inv.list {σ:St} (I:Inv X pins σ H s) (h:aX X.K H a xs):∃its:List aL,Vals xs its∧PlainL s.heap a its.toArray∧xs.length≤sizeLine:=by
 rcases h with h | ⟨o,its,n,hk,hc,hd,hs,hz,r⟩
 ·obtain ⟨z,its,n,r,e⟩:=h.ok I.hok
  exact ⟨its,r,⟨_,n,e,rfl,rfl,rfl⟩,z⟩
 ·refine ⟨its.toList,r,⟨o,n,I.Ah a o hk,hc,hd,by simpa using hs⟩,?_⟩
  have e:=r.length
  simp only [N5] at e
  simp?
theorem Inv.tuple {σ:St} (I:Inv X pins σ H s) (h:tG X.K H a xs):∃its:List aL,Vals xs its∧IsTup s.heap a its.toArray∧xs.length≤sizeLine:=by
 rcases h with h | ⟨o,its,n,hk,hc,hs,hz,r⟩
 ·obtain ⟨z,its,r,p⟩:=h.ok I.hok
  exact ⟨its,r,p,z⟩
 ·refine ⟨its.toList,r,⟨o,I.Ah a o hk,hc,n,by simpa using hs⟩,?_⟩
  have e:=r.length
  simp only [N5] at e
  simp?
theorem Inv.vH {σ:St} (I:Inv X pins σ H s) (h:aX X.K H a xs) (h':aX X.K H a ys):xs=ys:=by
 obtain ⟨its,r,⟨o,n,e,_,_,d⟩,_⟩:=I.list h
 obtain ⟨its',r',⟨o',n',e',_,_,d'⟩,_⟩:=I.list h'
 rw [e] at e';cases e'
 rw [d] at d'
 injection d' with d1 _
 have:its=its':=by simpa using congrArg Zn d1
 subst this
 exact r.inj r'
theorem Inv.PU {σ:St} (I:Inv X pins σ H s) (h:tG X.K H a xs) (h':tG X.K H a ys):xs=ys:=by
 obtain ⟨its,r,⟨o,e,_,n,d⟩,_⟩:=I.tuple h
 obtain ⟨its',r',⟨o',e',_,n',d'⟩,_⟩:=I.tuple h'
 rw [e] at e';cases e'
 rw [d] at d'
 injection d' with d1 _
 have:its=its':=by simpa using congrArg Zn d1
 subst this
 exact r.inj r'
end
abbrev Cx.D0 (X:Cx) (E:aL→bq→Prop):Cx:={ X with xe:=E }
abbrev Cx.nox (X:Cx):Cx:=X.D0 fun _ _=>False
theorem Cx.Ok.D0 {X:Cx} (ok:X.Ok) (E:aL→bq→Prop):(X.D0 E).Ok:=
 ⟨ok.mod,ok.kind,ok.glob,ok.blt,ok.above,ok.inj,ok.has,ok.Xa,ok.hd,ok.frames,ok.stk,ok.exf,ok.bs,ok.OF,ok.RS,ok.VB,ok.z6,ok.frf⟩
theorem Cx.Ok.sA {X:Cx} (ok:(X.D0 E).Ok):X.Ok:=
 ⟨ok.mod,ok.kind,ok.glob,ok.blt,ok.above,ok.inj,ok.has,ok.Xa,ok.hd,ok.frames,ok.stk,ok.exf,ok.bs,ok.OF,ok.RS,ok.VB,ok.z6,ok.frf⟩
section
theorem Inv.D0 {σ:St} (I:Inv X pins σ H s) (E:aL→bq→Prop):Inv (X.D0 E) pins σ H s:=⟨I.ok.D0 E,I.os,I.bare,I.base,I.loc,I.cell,I.free,I.tV,I.pin,I.hok,I.len⟩
theorem Inv.sA {σ:St} (I:Inv (X.D0 E) pins σ H s):Inv X pins σ H s:=⟨I.ok.sA,I.os,I.bare,I.base,I.loc,I.cell,I.free,I.tV,I.pin,I.hok,I.len⟩
theorem SP.sA (h:SP (X.D0 E) pins D f s'):SP X pins D f s':=by
 cases f with
 | next=>obtain ⟨σ',H',I,q⟩:=h;exact ⟨σ',H',I.sA,q⟩
 | brk=>obtain ⟨σ',H',I,q⟩:=h;exact ⟨σ',H',I.sA,q⟩
 | cont=>obtain ⟨σ',H',I,q⟩:=h;exact ⟨σ',H',I.sA,q⟩
 | ret u=>obtain ⟨v,σ',H',I,r,q⟩:=h;exact ⟨v,σ',H',I.sA,r,q⟩
theorem Ky.nox {st:List aT} (h:Ky X.nox st t):Ky X st t:=fun pins s σ H D I hw=>
 o6 (h pins s σ H D (I.D0 _) hw) (fun _ _ q=>q.sA) fun _ _ z=>o7 z
def TJ:TS:=fun D σ H=>D.nx σ H
def CP (t u:TS):TS:=fun D σ H=>t { D with nx:=u D } σ H
theorem GL {X:Cx}:Ky X [] TJ:=fun _ _ σ H _ I h=>Oe ⟨σ,H,I,h⟩
theorem B9 {X:Cx} {st:aT} {rest:List aT} {t u:TS} (h1:PS X st t) (h2:Ky X rest u):Ky X (st::rest) (CP t u):=by
 intro pins s σ H D I h
 refine YH (gR (h1 pins s σ H { D with nx:=u D } I h) fun f s1 q=>?_)
 cases f with
 | next=>
   obtain ⟨σ',H',I',q⟩:=q
   exact h2 pins s1 σ' H' D I' q
 | ret v=>exact q
 | brk=>exact q
 | cont=>exact q
theorem GN {X:Cx} {st:aT} {t:TS} (h1:PS X st t):Ky X [st] t:=by
 intro pins s σ H D I h
 refine YH (gR (h1 pins s σ H D I h) fun f s1 q=>?_)
 cases f with
 | next=>exact Oe q
 | ret v=>exact q
 | brk=>exact q
 | cont=>exact q
def Tw:TS:=fun D σ H=>D.ct σ H
theorem rC:PS X (.Continue pos) Tw:=fun _ _ σ H _ I h=>wpAny_Continue ⟨σ,H,I,h⟩
theorem Inv.quiet {σ:St} (I:Inv X pins σ H s):interactive X.env=false:=by simp [interactive,I.ok.kind]
def Tz (te:TE):TS:=fun D σ H=>te σ H fun _ H1=>D.nx σ H1
theorem GI {X:Cx} {e:bg} {te:TE} {pos:Pos} (he:PE X e te) (hs:lE e none pos.line X.env=pure false:=by rfl):PS X (.Expr e pos) (Tz te):=by
 intro pins s σ H D I h
 exact wpAny_Expr_any (gR (he pins s σ H _ I h) fun v s1 ⟨x,H1,I1,r1,q1⟩=>⟨σ,H1,I1,q1⟩) I.quiet hs
def abF (te:TE):TS:=fun D σ H=>te σ H D.rt
theorem L8 {X:Cx} {e:bg} {te:TE} {pos:Pos} (he:PE X e te):PS X (.Return (some e) pos) (abF te):=by
 intro pins s σ H D I h
 exact wpAny_Return_some (gR (he pins s σ H _ I h) fun v s1 ⟨x,H1,I1,r1,q1⟩=>⟨x,σ,H1,I1,r1,q1⟩)
def abB (c:TT) (t u:TS):TS:=fun D σ H=>c σ H fun b H1=>if b=true then t D σ H1 else u D σ H1
theorem Su {X:Cx} {t u:TS} {pos:Pos} {c:bg} {a b:List aT} {tc:TT} (hc:PT X c tc) (ha:Ky X a t) (hb:Ky X b u):PS X (.If c a b pos) (abB tc t u):=by
 intro pins s σ H D I h
 refine wpAny_If (gR (hc pins s σ H _ I h) fun d s1 ⟨H1,I1,q1⟩=>?_)
 cases d with
 | true=>exact ha pins s1 σ H1 D I1 q1
 | false=>exact hb pins s1 σ H1 D I1 q1
def TH:TS:=fun _ _ _=>False
theorem B8 {st:aT}:PS X st TH:=fun _ _ _ _ _ _ h=>h.elim
end
abbrev TG:=V→St→Hp→(St→Hp→Prop)→Prop
abbrev Vg:=List V→St→Hp→(St→Hp→Prop)→Prop
def PG (X:Cx) (target:bg) (t:TG):Prop:=
 ∀(pins:List (av×Obj)) (s:bq) (σ:St) (H:Hp) (v:V) (u:aL) (Q:St→Hp→Prop),Inv X pins σ H s→RelV v u→t v σ H Q →
  b8 0#o X.A (assign target X.env u) (fun _ s'=>∃σ' H',Inv X pins σ' H' s'∧Q σ' H') X.xe s
def W6 (X:Cx) (ts:List bg) (t:Vg):Prop:=
 ∀(pins:List (av×Obj)) (s:bq) (σ:St) (H:Hp) (vs:List V) (us:List aL) (Q:St→Hp→Prop),Inv X pins σ H s→Vals vs us→t vs σ H Q →
  b8 0#o X.A (assignInOrder ((m7 ts X.env).map (·.2)) us) (fun _ s'=>∃σ' H',Inv X pins σ' H' s'∧Q σ' H') X.xe s
abbrev abT:=V→V→V→Hp→(Hp→Prop)→Prop
def ZS (X:Cx) (t:abT):Prop:=
 ∀(pins:List (av×Obj)) (s:bq) (σ:St) (H:Hp) (o i v:V) (ov iv u:aL) (Q:Hp→Prop),Inv X pins σ H s→RelV o ov→RelV i iv→RelV v u→t o i v H Q →
  b8 0#o X.A (setItem ov iv u) (fun _ s'=>∃H',Inv X pins σ H' s'∧Q H') X.xe s
section
def iM (i:Nat):TG:=fun v σ H Q=>Q (σ.set i (some v)) H
theorem GB {X:Cx} {pos:Pos} {i:Nat} {x:Str} (hN:X.N.Nodup) (hi:X.N[i]?=some x) (hx:Loc X.env.scope x) (hf:X.fn x=true∨X.env.scope.names.lookup x=some .local:=by first | exact .inl rfl | exact .inr rfl | assumption):PG X (.Name x pos) (iM i):=by
 intro pins s σ H v u Q I r h
 exact Yv (wI I hN hi hx r (fun s' I'=>⟨_,H,I',h⟩) hf)
def OP:Vg:=fun vs σ H Q=>vs=[]∧Q σ H
def qx (t:TG) (u:Vg):Vg:=fun vs σ H Q=>∃v r,vs=v::r∧t v σ H fun σ' H'=>u r σ' H' Q
theorem GC {X:Cx}:W6 X [] OP:=by
 intro pins s σ H vs us Q I r h
 obtain ⟨e,h⟩:=h
 subst e
 cases r
 exact Yw ⟨σ,H,I,h⟩
theorem B4 {X:Cx} {e:bg} {es:List bg} {t:TG} {u:Vg} (h1:PG X e t) (h2:W6 X es u)
 (hs:(m7 (e::es) X.env).map (·.2)=assign e X.env::(m7 es X.env).map (·.2):=by rfl):W6 X (e::es) (qx t u):=by
 intro pins s σ H vs us Q I r h
 obtain ⟨v,vr,e1,h⟩:=h
 subst e1
 cases r with
 | cons r rr=>
   rw [hs]
   refine T8 (gR (h1 pins s σ H _ _ _ I r h) fun _ s1 ⟨σ1,H1,I1,q1⟩=>?_)
   exact h2 pins s1 σ1 H1 _ _ Q I1 rr q1
def OR (K:bZ) (n:Nat) (t:Vg):TG:=fun v σ H Q=>∃a xs,v=.ref a∧tG K H a xs∧xs.length=n∧t xs σ H Q
theorem aa3 (hc:X.calm=true) (h:W6 X es t)
 (hn:(m7 es X.env).length=n:=by rfl) (hst:(m7 es X.env).findIdx? (·.1)=none:=by rfl):PG X (.Tuple es k pos) (OR X.K n t):=by
 intro pins s σ H v u Q I r hw
 obtain ⟨a,xs,e1,hq,hl,hw⟩:=hw
 subst e1
 cases r
 obtain ⟨its,rv,ht,hz⟩:=I.tuple hq
 refine assign_Tuple_tuple (I.ok.hd hc) ht (by simp [hn,← hl,rv.length]) hst fun h' hx=>?_
 have I1:Inv X pins σ H { s with heap:=h' }:=I.kept (t':=s.toks) fun b o e=>hx b o (lz (fT e)) e
 exact h pins _ σ H xs _ Q I1 (by simpa using rv) hw
def aan (to ti:TE) (t:abT):TG:=fun v σ H Q=>to σ H fun o H1=>ti σ H1 fun i H2=>t o i v H2 fun H3=>Q σ H3
theorem L3 (ho:PE X o to) (hi:PE X i ti) (hs:ZS X t)
 (ha:∀v,assign (.Subscript o i pos) X.env v=(do
   let ov ← holding [v] (eval o X.env)
   let iv ← holding [v,ov] (eval i X.env)
   zU pos
   holding [v,ov,iv] (setItem ov iv v)
   release [v,ov,iv] []):=by intro _;rfl):PG X (.Subscript o i pos) (aan to ti t):=by
 intro pins s σ H v u Q I r h
 rw [ha]
 refine gw (zN (gR (ho pins s σ H _ I h) fun ov s1 ⟨x,H1,I1,r1,q1⟩=>?_))
 refine gw (zN (gR (hi pins s1 σ H1 _ I1 q1) fun iv s2 ⟨y,H2,I2,r2,q2⟩=>?_))
 refine gw (Ka (gw (zN (gR (hs pins s2 σ H2 x y v ov iv u _ I2 r1 r2 r q2) fun _ s3 ⟨H3,I3,q3⟩=>?_))))
 exact wpAny_release ⟨σ,H3,I3,q3⟩
def DZ (te:TE) (g:TG):TS:=fun D σ H=>te σ H fun x H1=>g x σ H1 D.nx
theorem yg (he:PE X e te) (hg:PG X tg g) (hs:swapsWithSole [tg] e pos.line X.env=pure false:=by rfl) (hw:swappedStores [tg] e X.env=pure none:=by rfl)
 (h1:(m7 [tg] X.env).map (·.2)=[assign tg X.env]:=by rfl):PS X (.Assign [tg] e pos) (DZ te g):=by
 intro pins s σ H D I h
 refine wpAny_Assign_stores (gR (he pins s σ H _ I h) fun v s1 ⟨x,H1,I1,r1,q1⟩=>?_) hs hw
 rw [h1]
 exact gR (hg pins s1 σ H1 x v _ I1 r1 q1) fun _ s2 q=>q
theorem GK {X:Cx} {pos:Pos} {i:Nat} {x:Str} {e:bg} {te:TE} {pos':Pos} (hN:X.N.Nodup) (hi:X.N[i]?=some x) (hx:Loc X.env.scope x) (he:PE X e te) (hs:lE e (some (.Name x pos')) pos.line X.env=pure false:=by rfl) (hf:X.fn x=true∨X.env.scope.names.lookup x=some .local:=by first | exact .inl rfl | exact .inr rfl | assumption) :
 PS X (.Assign [.Name x pos'] e pos) (DZ te (iM i)):=by
 intro pins s σ H D I h
 refine wpAny_Assign_Name (gR (he pins s σ H _ I h) fun v s1 ⟨y,H1,I1,r1,q1⟩=>?_) hs
 exact wI I1 hN hi hx r1 (fun s2 I2=>⟨_,H1,I2,q1⟩) hf
def abE (i j:Nat) (ta:TA):TS:=fun D σ H=>ta σ H fun vs H1=>∃v w,vs=[v,w]∧D.nx ((σ.set i (some v)).set j (some w)) H1
theorem GJ (hc:X.calm=true) (hN:X.N.Nodup) (hi:X.N[i]?=some x) (hj:X.N[j]?=some y) (hij:i≠j)
 (hx:X.env.scope.names.lookup x=some .local) (hy:X.env.scope.names.lookup y=some .local) (ha:PA X [a,b] ta)
 (hw:swappedStores [.Tuple [.Name x px,.Name y py] kt pt] (.Tuple [a,b] k2 pt2) X.env=pure (some [x,y]))
 (hs:swapsWithSole [.Tuple [.Name x px,.Name y py] kt pt] (.Tuple [a,b] k2 pt2) pos.line X.env=pure false:=by rfl) :
 PS X (.Assign [.Tuple [.Name x px,.Name y py] kt pt] (.Tuple [a,b] k2 pt2) pos) (abE i j ta):=by
 intro pins s σ H D I h
 rw [exec_Assign_arm]
 refine gw (Ka ?_)
 rw [hs]
 refine gw (m8 ?_)
 rw [if_neg 0#i]
 refine gw (Tuple_ (gR (ha _ pins s σ H _ I h) fun us s1 ⟨vs,H1,I1,r1,q1⟩=>?_))
 obtain ⟨v,w,e1,q1⟩:=q1
 subst e1
 obtain ⟨u1,u2,rfl,rv,rw'⟩:∃u1 u2,us=[u1,u2]∧RelV v u1∧RelV w u2:=by
  cases r1 with
  | cons p q=>
    cases q with
    | cons p' q'=>
      cases q'
      exact ⟨_,_,rfl,p,p'⟩
 refine Yx ?_ (by show 2≤sizeLine;decide)
 have I2:Inv X pins σ H1 { s1 with heap:=s1.heap.push { cls:=.type "tuple",data:=.seq [u1,u2].toArray } }:=I1.kept (t':=s1.toks) fun b o e=>oF _ e
 rw [hw]
 refine gw (m8 ?_)
 show b8 0#o X.A (do rule "assign.swapped-stores";let items ← unpackItems (.ref s1.heap.objs.size) 2 none;assignInOrder [fun v=>bindName X.env y v,fun v=>bindName X.env x v] items.reverse;pure Flow.next) _ _ _
 refine gw (wpAny_rule (gw (unpackItems_tuple (items:=#[u1,u2]) (I.ok.hd hc) (UQ s1.heap _) fun h' hx'=>?_)))
 have I3:=I2.kept (h':=h') (t':=s1.toks) fun b o e=>hx' b o (lz (fT e)) e
 show b8 _ _ (assignInOrder [fun v=>bindName X.env y v,fun v=>bindName X.env x v] [u2,u1] >>= fun _=>pure Flow.next) _ _ _
 refine gw (T8 (YY (wI I3 hN hj (.inl hy) rw' (fun s2 I4=>?_) (.inr hy))))
 refine T8 (YY (wI I4 hN hi (.inl hx) rv (fun s3 I5=>Yw (m8 ?_)) (.inr hx)))
 rw [List.set_comm _ _ (jn hij)] at I5
 exact ⟨_,H1,I5,q1⟩
def CQ (c:TT) (tb:TS):TS:=fun D σ H=>∃W:Nat→St→Hp→Prop,(∃m,W m σ H)∧∀m σ H,W m σ H →
 c σ H fun b H1=>if b=true then ∃N:St→Hp→Prop,(∀σ' H',N σ' H'→∃m',m'<m∧W m' σ' H')∧tb { D with nx:=N,ct:=N,bk:=D.nx } σ H1 else D.nx σ H1
theorem kq (hp:Ow 0#o X.A X.env X.xe) (hc:PT X c tc) (hb:Ky X body tb):PS X (.While c body [] pos) (CQ tc tb):=by
 intro pins s σ H D I h
 obtain ⟨W,⟨m0,w0⟩,turn⟩:=h
 refine wpAny_While (codeAny_whileLoop (fun n s'=>∃σ' H',Inv X pins σ' H' s'∧W n σ' H') ?_ m0 ⟨σ,H,I,w0⟩)
 rintro n s1 ⟨σ1,H1,I1,w1⟩
 refine C1 hp (gR (hc pins s1 σ1 H1 _ I1 (turn n σ1 H1 w1)) fun b s2 ⟨H2,I2,q2⟩=>?_)
 cases b with
 | true=>
   obtain ⟨N,hN,q2⟩:=q2
   rw [if_pos rfl]
   refine C1 hp (gR (hb pins s2 σ1 H2 _ I2 q2) fun f s3 q3=>?_)
   cases f with
   | next=>
     obtain ⟨σ3,H3,I3,n3⟩:=q3
     obtain ⟨m',hm,w3⟩:=hN σ3 H3 n3
     exact ⟨m',hm,σ3,H3,I3,w3⟩
   | cont=>
     obtain ⟨σ3,H3,I3,n3⟩:=q3
     obtain ⟨m',hm,w3⟩:=hN σ3 H3 n3
     exact ⟨m',hm,σ3,H3,I3,w3⟩
   | brk=>exact q3
   | ret v=>exact q3
 | false=>
   rw [if_neg dD]
   exact Oe ⟨σ1,H2,I2,q2⟩
end
structure It where
 go:Nat→Hp→Prop
 TV:Nat→Hp→V→Hp→Prop
 stop:Nat→Hp→Prop
def zY (X:Cx) (pins:List (av×Obj)) (H:Hp) (b:av):Prop:=
 H b=none∧b≠X.env.locals∧b∉X.fs∧(b∈X.ex∨X.s₀.heap.objs.size≤b)∧(∀x c,X.env.cells.lookup x=some c→c≠b)∧∀p∈X.pn++pins,p.1≠b
theorem Inv.KI {σ:St} {b:av} (I:Inv X pins σ H s) (hb:s.heap.objs.size≤b) (hn:H' b=none):zY X pins H' b:=by
 refine ⟨hn,Uv (qq I.lt hb),I.afi hb,.inr (eE I.sz hb),fun x c e z=>?_,fun p hp z=>?_⟩
 ·obtain ⟨v,q⟩:=I.cell x c e
  exact absurd (qq q.lt (by rw [z];exact hb)) (C4 _)
 ·exact absurd (qq (fT (I.pin p hp).1) (by rw [z];exact hb)) (C4 _)
structure Turn (P:jk) (w:eG) (K:bZ) (tg:bg) (J:It) (fp:List av) (it:av) (tn:Nat→cJ→Prop):Prop where
 mem:it∈fp
 obj:∀i h,tn i h→∀b∈fp,∃o,h.get? b=some o∧∀v,o.data≠.cell v
 keep:∀i h h',tn i h→(∀b∈fp,∀o,h.get? b=some o→h'.get? b=some o)→tn i h'
 item:∀(X:Cx),X.prog=P→X.w=w→X.K=K→X.calm=true→∀(i:Nat) (pins:List (av×Obj)) (s:bq) (σ:St) (H:Hp) (E:aL→bq→Prop),Inv X pins σ H s→(∀b∈fp,zY X pins H b)→tn i s.heap→J.go i H →
  b8 (model P w) X.A (pyNext (.ref it)) (fun r s1=>∃u,r=some u ∧
   b8 (model P w) X.A (letOwnedTupleGo tg (.ref it) u) (fun _ s2=>∃x H',Inv X pins σ H' s2∧RelV x u∧J.TV i H x H'∧tn (i+1) s2.heap∧∀b∈fp,H' b=none) E s1) E s
 done:∀(X:Cx),X.prog=P→X.w=w→X.K=K→X.calm=true→∀(i:Nat) (pins:List (av×Obj)) (s:bq) (σ:St) (H:Hp) (E:aL→bq→Prop),Inv X pins σ H s→(∀b∈fp,zY X pins H b)→tn i s.heap→J.stop i H →
  b8 (model P w) X.A (pyNext (.ref it)) (fun r s1=>r=none∧Inv X pins σ H s1) E s
 self:∀(A:nN) (i:Nat) (s:bq) (Q:aL→bq→Prop) (E:aL→bq→Prop),tn i s.heap→Q (.ref it) s→b8 (model P w) A (pyIter (.ref it)) Q E s
abbrev TI:=St→Hp→(It→Hp→Prop)→Prop
def PIE (X:Cx) (pins:List (av×Obj)) (σ:St) (tg:bg) (R:It→Hp→Prop) (itv:aL) (s2:bq):Prop:=
 ∃(it:av) (fp:List av) (tn:Nat→cJ→Prop) (J:It) (H':Hp),itv=.ref it∧Inv X pins σ H' s2∧Turn X.prog X.w X.K tg J fp it tn∧tn 0 s2.heap∧(∀b∈fp,zY X pins H' b)∧R J H'
def PI (X:Cx) (tg iter:bg) (wi:TI):Prop:=
 ∀(pins:List (av×Obj)) (s:bq) (σ:St) (H:Hp) (R:It→Hp→Prop),Inv X pins σ H s→wi σ H R →
  b8 0#o X.A (eval iter X.env) (fun v s1=>b8 0#o X.A (pyIter v) (PIE X pins σ tg R) X.xe s1) X.xe s
theorem Q8 (ho:s.heap.get? it=some o) (hc:o.cls=.type n) (hd:o.data=.fields vs)
 (hn:["enumerate","zip","dict_itemiterator","dict_reverseitemiterator","odict_iterator","itertools.zip_longest","itertools.pairwise"].contains n=false) (hQ:Q () s):b8 M A (letOwnedTupleGo tg (.ref it) u) Q E s:=by
 unfold letOwnedTupleGo
 cases tg <;> first
  | exact m8 hQ
  | (cases u <;> first
      | exact m8 hQ
      | (refine gw (wpAny_load ho ?_)
         rw [hc,hd]
         show b8 M A (if (["enumerate","zip","dict_itemiterator","dict_reverseitemiterator","odict_iterator","itertools.zip_longest","itertools.pairwise"].contains n&&vs[0]?==some (rawInt _))=true then _ else _) Q E s
         rw [if_neg (by intro h;rw [hn,Bool.false_and] at h;cases h)]
         exact m8 hQ))
def ZP (K:bZ) (a:av):It:=
 ⟨fun i H=>∃xs x,aX K H a xs∧xs[i]?=some x,fun i H x H'=>H'=H∧∀xs,aX K H a xs→xs[i]?=some x,fun i H=>∃xs,aX K H a xs∧xs.length≤i⟩
def Itt (K:bZ) (a:av):It:=
 ⟨fun i H=>∃xs x,tG K H a xs∧xs[i]?=some x,fun i H x H'=>H'=H∧∀xs,tG K H a xs→xs[i]?=some x,fun i H=>∃xs,tG K H a xs∧xs.length≤i⟩
def UU (lo:Int) (n:Nat):It:=⟨fun i _=>i<n,fun i H x H'=>H'=H∧x=.int (lo+i),fun i _=>n≤i⟩
theorem PX {K:bZ} (a it:av):Turn P w K tg (ZP K a) [it] it (fun i h=>h.IsListIter it a i) where
 mem:=by simp
 obj:=fun i h st b hb=>by
  have e:b=it:=by simpa using hb
  subst e
  obtain ⟨o,e,c,d⟩:=st
  exact ⟨o,e,fun v z=>by rw [d] at z;cases z⟩
 keep:=fun i h h' st k=>st.at fun o e=>k it 0#e o e
 item:=by
  intro X hP hw hK hc i pins s σ H E I hf st hg
  subst hP hw hK
  obtain ⟨xs,x,hq,hx⟩:=hg
  obtain ⟨its,rv,p,hz⟩:=I.list hq
  obtain ⟨u,hu,ru⟩:=rv.get hx
  obtain ⟨f0,f1,f2,f3,f4,f5⟩:=hf it 0#e
  refine XT st p.isList (x:=u) (by simpa using hu) fun h' st' sb=>?_
  have I1:Inv X pins σ H { s with heap:=h' }:=I.turned (t':=s.toks) (fun b o hb e=>(sb.2 b hb).trans e) f0 f1 f3 f4 f5
  obtain ⟨o,e,c,d⟩:=id st'
  exact ⟨u,rfl,Q8 (s:={ s with heap:=h' }) e c d 0#i ⟨x,H,I1,ru,⟨rfl,fun ys hy=>by rw [I.vH hy hq];exact hx⟩,st',fun b hb=>(hf b hb).1⟩⟩
 done:=by
  intro X hP hw hK hc i pins s σ H E I hf st hg
  subst hP hw hK
  obtain ⟨xs,hq,hx⟩:=hg
  obtain ⟨its,rv,p,hz⟩:=I.list hq
  obtain ⟨f0,f1,f2,f3,f4,f5⟩:=hf it 0#e
  have hl:=rv.length
  exact X7 (I.ok.hd hc) st p.isList (by simp;simp?) fun h' eb=>⟨rfl,I.turned (t':=s.toks) (fun b o hb e=>eb b o hb e) f0 f1 f3 f4 f5⟩
 self:=fun _ _ _ _ _ st h=>wpAny_pyIter_listiter st h
theorem ML {K:bZ} (a it:av):Turn P w K tg (Itt K a) [it] it (fun i h=>h.IsTupleIter it a i) where
 mem:=by simp
 obj:=fun i h st b hb=>by
  have e:b=it:=by simpa using hb
  subst e
  obtain ⟨o,e,c,d⟩:=st
  exact ⟨o,e,fun v z=>by rw [d] at z;cases z⟩
 keep:=fun i h h' st k=>st.at fun o e=>k it 0#e o e
 item:=by
  intro X hP hw hK hc i pins s σ H E I hf st hg
  subst hP hw hK
  obtain ⟨xs,x,hq,hx⟩:=hg
  obtain ⟨its,rv,p,hz⟩:=I.tuple hq
  obtain ⟨u,hu,ru⟩:=rv.get hx
  obtain ⟨f0,f1,f2,f3,f4,f5⟩:=hf it 0#e
  refine wpAny_pyNext_tuple_item st (show s.heap.IsTuple a its.toArray from p) (x:=u) (by simpa using hu) fun h' st' sb=>?_
  have I1:Inv X pins σ H { s with heap:=h' }:=I.turned (t':=s.toks) (fun b o hb e=>(sb.2 b hb).trans e) f0 f1 f3 f4 f5
  obtain ⟨o,e,c,d⟩:=id st'
  exact ⟨u,rfl,Q8 (s:={ s with heap:=h' }) e c d 0#i ⟨x,H,I1,ru,⟨rfl,fun ys hy=>by rw [I.PU hy hq];exact hx⟩,st',fun b hb=>(hf b hb).1⟩⟩
 done:=by
  intro X hP hw hK hc i pins s σ H E I hf st hg
  subst hP hw hK
  obtain ⟨xs,hq,hx⟩:=hg
  obtain ⟨its,rv,p,hz⟩:=I.tuple hq
  obtain ⟨f0,f1,f2,f3,f4,f5⟩:=hf it 0#e
  have hl:=rv.length
  exact wpAny_pyNext_tuple_end (I.ok.hd hc) st (show s.heap.IsTuple a its.toArray from p) (by simp;simp?) fun h' eb=>⟨rfl,I.turned (t':=s.toks) (fun b o hb e=>eb b o hb e) f0 f1 f3 f4 f5⟩
 self:=fun _ _ _ _ _ st h=>wpAny_pyIter_tupleiter st h
theorem MK {K:bZ} (it:av) (lo:Int) (n:Nat):Turn P w K tg (UU lo n) [it] it (fun i h=>IsRangeIter h it (lo+(i:Nat)*1) ((n:Int)-(i:Nat)) 1) where
 mem:=by simp
 obj:=fun i h st b hb=>by
  have e:b=it:=by simpa using hb
  subst e
  exact ⟨_,st,fun v z=>by
   have z':Data.fields _=Data.cell v:=z
   cases z'⟩
 keep:=fun i h h' st k=>k it 0#e _ st
 item:=by
  intro X hP hw hK hc i pins s σ H E I hf st hg
  subst hP hw hK
  obtain ⟨f0,f1,f2,f3,f4,f5⟩:=hf it 0#e
  have W:=Walks.range (prog:=X.prog) (w:=X.w) (I.ok.hd hc) it lo 1 n
  refine W.item i s _ _ hg st fun v h' tk hv st' kk=>?_
  obtain ⟨t,rfl⟩:=hv
  have I1:Inv X pins σ H { s with heap:=h',toks:=tk }:=I.turned (fun b o hb e=>kk b o (by simpa using hb) e) f0 f1 f3 f4 f5
  refine ⟨_,rfl,Q8 (s:={ s with heap:=h',toks:=tk }) (n := "range_iterator") st' rfl rfl 0#i ⟨.int (lo+i),H,I1,⟨t,?_⟩,⟨rfl,rfl⟩,st',fun b hb=>(hf b hb).1⟩⟩
  rw [Int.mul_one]
 done:=by
  intro X hP hw hK hc i pins s σ H E I hf st hg
  subst hP hw hK
  obtain ⟨f0,f1,f2,f3,f4,f5⟩:=hf it 0#e
  exact wpAny_pyNext_range_end (I.ok.hd hc) st (by have:n≤i:=hg;simp?) fun h' eb=>⟨rfl,I.turned (t':=s.toks) (fun b o hb e=>eb b o hb e) f0 f1 f3 f4 f5⟩
 self:=fun _ _ _ _ _ st h=>wpAny_pyIter_rangeiter st h
section
def Nh (K:bZ) (tl:TE):TI:=fun σ H R=>tl σ H fun x H1=>∃a,x=.ref a∧(∃xs,aX K H1 a xs)∧R (ZP K a) H1
def VZ (K:bZ) (tl:TE):TI:=fun σ H R=>tl σ H fun x H1=>∃a,x=.ref a∧(∃xs,tG K H1 a xs)∧R (Itt K a) H1
theorem Wx (hl:PE X l tl):PI X tg l (Nh X.K tl):=by
 intro pins s σ H R I h
 refine gR (hl pins s σ H _ I h) fun v s1 ⟨x,H1,I1,r1,q1⟩=>?_
 obtain ⟨a,e,⟨xs,hq⟩,q⟩:=q1
 subst e
 cases r1
 obtain ⟨its,rv,p,hz⟩:=I1.list hq
 refine Yy p.isList ?_
 refine ⟨s1.heap.objs.size,[s1.heap.objs.size],_,_,H1,rfl,I1.kept (t':=s1.toks) fun b o e=>oF _ e,PX a _,⟨_,D4 _ rfl,rfl,rfl⟩,fun b hb=>?_,q⟩
 have e:b=s1.heap.objs.size:=by simpa using hb
 subst e
 exact I1.KI (dz _) (I1.hok.fresh (dz _))
theorem aa4 (hl:PE X l tl):PI X tg l (VZ X.K tl):=by
 intro pins s σ H R I h
 refine gR (hl pins s σ H _ I h) fun v s1 ⟨x,H1,I1,r1,q1⟩=>?_
 obtain ⟨a,e,⟨xs,hq⟩,q⟩:=q1
 subst e
 cases r1
 obtain ⟨its,rv,p,hz⟩:=I1.tuple hq
 refine wpAny_pyIter_tuple (show s1.heap.IsTuple a its.toArray from p) ?_
 refine ⟨s1.heap.objs.size,[s1.heap.objs.size],_,_,H1,rfl,I1.kept (t':=s1.toks) fun b o e=>oF _ e,ML a _,⟨_,D4 _ rfl,rfl,rfl⟩,fun b hb=>?_,q⟩
 have e:b=s1.heap.objs.size:=by simpa using hb
 subst e
 exact I1.KI (dz _) (I1.hok.fresh (dz _))
theorem Jz {σ:St} {lo:Int} (I:Inv X pins σ H s) (h1:-(2 ^ 62)≤lo) (h2:lo<2 ^ 62) (h3:-(2 ^ 62)≤hi) (h4:hi<2 ^ 62)
 (q:R (UU lo (hi-lo).toNat) H):b8 0#o X.A (pyIter (.ref s.heap.objs.size)) (PIE X pins σ tg R) E { s with heap:=s.heap.push { cls:=.type "range",data:=.fields #[.int lo t,.int hi u,.int 1 v] },toks:=tk }:=by
 refine wpAny_pyIter_range (IsRange.new ..) (small_one h1 h2 h3 h4) ?_
 have I1:Inv X pins σ H { s with heap:=s.heap.push { cls:=.type "range",data:=.fields #[.int lo t,.int hi u,.int 1 v] },toks:=tk }:=I.kept fun b o e=>oF _ e
 refine ⟨(s.heap.push { cls:=.type "range",data:=.fields #[.int lo t,.int hi u,.int 1 v] }).objs.size,[(s.heap.push { cls:=.type "range",data:=.fields #[.int lo t,.int hi u,.int 1 v] }).objs.size],_,_,H,rfl,
  I1.kept (t':=tk) fun b o e=>oF _ e,MK _ lo (hi-lo).toNat,?_,fun b hb=>?_,q⟩
 ·have e1:lo+((0:Nat):Int)*1=lo:=by simp
  have e2:(((hi-lo).toNat:Nat):Int)-((0:Nat):Int)=ad9 lo hi 1:=by rw [rangeSize_one];split <;> simp?
  show IsRangeIter _ _ (lo+((0:Nat):Int)*1) ((((hi-lo).toNat:Nat):Int)-((0:Nat):Int)) 1
  rw [e1,e2]
  exact D4 _ rfl
 ·have e:b=(s.heap.push { cls:=.type "range",data:=.fields #[.int lo t,.int hi u,.int 1 v] }).objs.size:=by simpa using hb
  subst e
  exact I1.KI (dz _) (I1.hok.fresh (dz _))
def Rv (ta:TA):TI:=fun σ H R=>ta σ H fun vs H1=>∃j:Int,vs=[.int j]∧-(2 ^ 62)≤j∧j<2 ^ 62∧R (UU 0 j.toNat) H1
def Rw (ta:TA):TI:=fun σ H R=>ta σ H fun vs H1=>∃i j:Int,vs=[.int i,.int j]∧(-(2 ^ 62)≤i∧i<2 ^ 62∧-(2 ^ 62)≤j∧j<2 ^ 62)∧R (UU i (j-i).toNat) H1
theorem yc (hg:Gl X "range") (hm:X.mg "range"=none) (ha:PA X [a] ta) (hs:bw [a] X.env=[(false,eval a X.env)]:=by rfl):PI X tg (.Call (.Name "range" p) [a] [] pos) (Rv ta):=by
 intro pins s σ H R I h
 refine Call_ (uH I hg hm boot_range (JS (gR (ha pos pins s σ H _ I h) fun us s1 ⟨vs,H1,I1,r1,q1⟩=>?_) hs rfl))
 obtain ⟨j,e,q1,q2,q⟩:=q1
 subst e
 cases r1 with
 | cons r rr=>
   cases rr
   obtain ⟨t,rfl⟩:=r
   exact call_range_1 (Jz I1 0#c 0#c q1 q2 (by simpa using q))
theorem yd (hg:Gl X "range") (hm:X.mg "range"=none) (ha:PA X [a,b] ta) (hs:bw [a,b] X.env=[(false,eval a X.env),(false,eval b X.env)]:=by rfl) (hs2:bw [b] X.env=[(false,eval b X.env)]:=by rfl) :
 PI X tg (.Call (.Name "range" p) [a,b] [] pos) (Rw ta):=by
 intro pins s σ H R I h
 refine Call_ (uH I hg hm boot_range (JS (gR (ha pos pins s σ H _ I h) fun us s1 ⟨vs,H1,I1,r1,q1⟩=>?_) (by rw [hs,hs2]) (by rw [hs2];rfl)))
 obtain ⟨i,j,e,⟨q1,q2,q3,q4⟩,q⟩:=q1
 subst e
 cases r1 with
 | cons r rr=>
   cases rr with
   | cons r' rr=>
     cases rr
     obtain ⟨t,rfl⟩:=r
     obtain ⟨t',rfl⟩:=r'
     exact call_range_2 (Jz I1 q1 q2 q3 q4 q)
def abA (wi:TI) (g:TG) (tb:TS):TS:=fun D σ H=>wi σ H fun J H1=>∃W:Nat→Nat→St→Hp→Prop,(∃m,W 0 m σ H1)∧∀i m σ H,W i m σ H →
 (J.stop i H∧D.nx σ H)∨(J.go i H∧∃N:St→Hp→Prop,(∀σ' H',N σ' H'→∃m',m'<m∧W (i+1) m' σ' H')∧∀x H',J.TV i H x H'→g x σ H' fun σ2 H2=>tb { D with nx:=N,ct:=N,bk:=D.nx } σ2 H2)
def B6 (fp:List av) (h:cJ):List (av×Obj):=fp.filterMap fun b=>(h.get? b).map fun o=>(b,o)
theorem pP (hb:b∈fp) (e:h.get? b=some o):(b,o)∈B6 fp h:=Yq.mpr ⟨b,hb,by rw [e];rfl⟩
theorem Pk (hp:p∈B6 fp h):p.1∈fp∧h.get? p.1=some p.2:=by
 obtain ⟨b,hb,e⟩:=Yq.mp hp
 cases q:h.get? b with
 | none=>rw [q] at e;cases e
 | some o=>
   rw [q] at e
   have e':(b,o)=p:=xg e
   subst e'
   exact ⟨hb,q⟩
theorem Inv.pinned {σ:St} (I:Inv X pins σ H s) (hf:∀b∈fp,zY X pins H b) (ho:∀b∈fp,∃o,s.heap.get? b=some o∧∀v,o.data≠.cell v):Inv X (pins++B6 fp s.heap) σ H s:=
 I.NC fun p hp=>(dN.mp hp).elim (fun z=>I.pin p (De _ z)) fun z=>by
  obtain ⟨hb,e⟩:=Pk z
  obtain ⟨f0,f1,f2,_⟩:=hf p.1 hb
  obtain ⟨o,e',d⟩:=ho p.1 hb
  rw [e] at e';cases e'
  exact ⟨e,f0,f1,f2,d⟩
theorem Inv.sy {σ:St} (I:Inv X (pins++pl) σ H s):Inv X pins σ H s:=I.NC fun p hp=>I.pin p (De _ (EK _ hp))
theorem L7 {X:Cx} {tg:bg} {iter:bg} {body:List aT} {wi:TI} {g:TG} {tb:TS} {pos:Pos} (hp:Ow 0#o X.A X.env X.xe) (hc:X.calm=true) (hi:PI X tg iter wi) (hg:PG X tg g) (hb:Ky X body tb)
 (hs:∀x,HQ iter X.env x=pure x:=by intro _;rfl):PS X (.For tg iter body [] pos) (abA wi g tb):=by
 intro pins s σ H D I h
 refine wpAny_For (gR (hi pins s σ H _ I h) fun v s1 h1=>gR h1 fun itv s2 h2=>?_) hs
 obtain ⟨it,fp,tn,J,H2,e,I2,T,st2,f2,W,⟨m0,w0⟩,turn⟩:=h2
 subst e
  -- what stays true of the iterator's objects through the loop
 have abv:∀{H':Hp},(∀b∈fp,H' b=none)→∀b∈fp,zY X pins H' b:=fun hn b hb=>⟨hn b hb,(f2 b hb).2⟩
 refine codeAny_forLoop_any (fun n s'=>∃i σ' H',Inv X pins σ' H' s'∧tn i s'.heap∧(∀b∈fp,H' b=none)∧W i n σ' H') ?_ m0 ⟨0,σ,H2,I2,st2,fun b hb=>(f2 b hb).1,w0⟩
 rintro n s3 ⟨i,σ3,H3,I3,st3,fr3,w3⟩
 rcases turn i n σ3 H3 w3 with ⟨stop,qn⟩ | ⟨go,N,hN,step⟩
 ·refine C1 hp (gR (T.done X rfl rfl rfl hc i pins s3 σ3 H3 X.xe I3 (abv fr3) st3 stop) fun r s4 ⟨hr,I4⟩=>?_)
  subst hr
  exact Oe ⟨σ3,H3,I4,qn⟩
 ·refine C1 hp (gR (T.item X rfl rfl rfl hc i pins s3 σ3 H3 X.xe I3 (abv fr3) st3 go) fun r s4 ⟨u,hr,h4⟩=>?_)
  subst hr
  refine C1 hp (gR h4 fun _ s5 ⟨x,H5,I5,r5,y5,st5,fr5⟩=>?_)
  have I5':=I5.pinned (abv fr5) (T.obj _ _ st5)
  refine C1 hp (gR (hg _ s5 σ3 H5 x u _ I5' r5 (step x H5 y5)) fun _ s6 ⟨σ6,H6,I6,q6⟩=>?_)
  refine C1 hp (gR (hb _ s6 σ6 H6 _ I6 q6) fun f s7 q7=>?_)
  have again:∀{UT:St} {H7:Hp},Inv X (pins++B6 fp s5.heap) UT H7 s7→N UT H7→∃m,m<n∧∃i σ' H',Inv X pins σ' H' s7∧tn i s7.heap∧(∀b∈fp,H' b=none)∧W i m σ' H':=fun {UT H7} I7 n7=>by
   obtain ⟨m',hm,w7⟩:=hN UT H7 n7
   refine ⟨m',hm,i+1,UT,H7,I7.sy,T.keep _ _ _ st5 fun b hb o e=>(I7.pin (b,o) (De _ (De _ (pP hb e)))).1,fun b hb=>?_,w7⟩
   obtain ⟨o,e,d⟩:=T.obj _ _ st5 b hb
   exact (I7.pin (b,o) (De _ (De _ (pP hb e)))).2.1
  cases f with
  | next=>obtain ⟨UT,H7,I7,n7⟩:=q7;exact again I7 n7
  | cont=>obtain ⟨UT,H7,I7,n7⟩:=q7;exact again I7 n7
  | brk=>obtain ⟨UT,H7,I7,q7⟩:=q7;exact ⟨UT,H7,I7.sy,q7⟩
  | ret v=>obtain ⟨x7,UT,H7,I7,r7,q7⟩:=q7;exact ⟨x7,UT,H7,I7.sy,r7,q7⟩
end
theorem dW {K:bZ} {a:av} {g:TG} {tb:TS} {D:Ends} {σ:St} {H:Hp} (Pv:Nat→St→Hp→Prop) (h0:Pv 0 σ H) (hl:∀i σ H,i≤xs.length→Pv i σ H→aX K H a xs)
 (hs:∀i x σ H,xs[i]?=some x→Pv i σ H→g x σ H fun σ2 H2=>tb { D with nx:=Pv (i+1),ct:=Pv (i+1),bk:=D.nx } σ2 H2) (hd:∀σ H,Pv xs.length σ H→D.nx σ H) :
 ∃W:Nat→Nat→St→Hp→Prop,(∃m,W 0 m σ H)∧∀i m σ H,W i m σ H →
  ((ZP K a).stop i H∧D.nx σ H)∨((ZP K a).go i H∧∃N:St→Hp→Prop,(∀σ' H',N σ' H'→∃m',m'<m∧W (i+1) m' σ' H')∧∀x H',(ZP K a).TV i H x H'→g x σ H' fun σ2 H2=>tb { D with nx:=N,ct:=N,bk:=D.nx } σ2 H2):=by
 refine ⟨fun i m σ H=>m=xs.length-i∧i≤xs.length∧Pv i σ H,⟨xs.length,by simp,mW _,h0⟩,?_⟩
 rintro i m σ H ⟨rfl,hi,p⟩
 have q:=hl i σ H hi p
 by_cases hlt:i<xs.length
 ·refine .inr ⟨⟨xs,xs[i],q,by simp [hlt]⟩,Pv (i+1),fun σ' H' p'=>⟨xs.length-(i+1),by simp?,rfl,hlt,p'⟩,fun x H' y=>?_⟩
  obtain ⟨e,y⟩:=y
  subst e
  exact hs i x σ _ (y xs q) p
 ·have e:i=xs.length:=by simp?
  subst e
  exact .inl ⟨⟨xs,q,dz _⟩,hd σ H p⟩
theorem cX {lo:Int} {n:Nat} {g:TG} {tb:TS} {D:Ends} {H:Hp} (Pv:Nat→St→Hp→Prop) (h0:Pv 0 σ H)
 (hs:∀i σ H,i<n→Pv i σ H→g (.int (lo+i)) σ H fun σ2 H2=>tb { D with nx:=Pv (i+1),ct:=Pv (i+1),bk:=D.nx } σ2 H2) (hd:∀σ H,Pv n σ H→D.nx σ H) :
 ∃W:Nat→Nat→St→Hp→Prop,(∃m,W 0 m σ H)∧∀i m σ H,W i m σ H →
  ((UU lo n).stop i H∧D.nx σ H)∨((UU lo n).go i H∧∃N:St→Hp→Prop,(∀σ' H',N σ' H'→∃m',m'<m∧W (i+1) m' σ' H')∧∀x H',(UU lo n).TV i H x H'→g x σ H' fun σ2 H2=>tb { D with nx:=N,ct:=N,bk:=D.nx } σ2 H2):=by
 refine ⟨fun i m σ H=>m=n-i∧i≤n∧Pv i σ H,⟨n,by simp,mW _,h0⟩,?_⟩
 rintro i m σ H ⟨rfl,hi,p⟩
 by_cases hlt:i<n
 ·refine .inr ⟨hlt,Pv (i+1),fun σ' H' p'=>⟨n-(i+1),by simp?,rfl,hlt,p'⟩,fun x H' y=>?_⟩
  obtain ⟨e,y⟩:=y
  subst e y
  exact hs i σ _ hlt p
 ·have e:i=n:=by simp?
  subst e
  exact .inl ⟨dz _,hd σ H p⟩
theorem wL (Pv:St→Hp→Prop) (μ:St→Hp→Nat) (h0:Pv σ H)
 (hs:∀σ H,Pv σ H→c σ H fun b H1=>if b=true then tb { D with nx:=fun σ' H'=>Pv σ' H'∧μ σ' H'<μ σ H,ct:=fun σ' H'=>Pv σ' H'∧μ σ' H'<μ σ H,bk:=D.nx } σ H1 else D.nx σ H1)
 (mono:∀σ H Q Q',(∀b H1,Q b H1→Q' b H1)→c σ H Q→c σ H Q'):CQ c tb D σ H:=by
 refine ⟨fun m σ H=>m=μ σ H∧Pv σ H,⟨_,rfl,h0⟩,?_⟩
 rintro m σ H ⟨rfl,p⟩
 refine mono σ H _ _ (fun b H1 q=>?_) (hs σ H p)
 cases b with
 | true=>exact ⟨_,fun σ' H' ⟨p',l⟩=>⟨_,l,rfl,p'⟩,q⟩
 | false=>exact q
abbrev R2:=V→V→Hp→VK→Prop
def qR (X:Cx) (f:aL→aL→Sem aL) (r:R2):Prop:=
 ∀(pins:List (av×Obj)) (s:bq) (σ:St) (H:Hp) (x y:V) (v u:aL) (Q:VK),Inv X pins σ H s→RelV x v→RelV y u→r x y H Q →
  b8 0#o X.A (f v u) (EP X pins σ Q) X.xe s
def UnR (X:Cx) (f:aL→Sem aL) (r:V→Hp→VK→Prop):Prop:=
 ∀(pins:List (av×Obj)) (s:bq) (σ:St) (H:Hp) (x:V) (v:aL) (Q:VK),Inv X pins σ H s→RelV x v→r x H Q →
  b8 0#o X.A (f v) (EP X pins σ Q) X.xe s
def ja (X:Cx) (f:aL) (r:List V→Hp→VK→Prop):Prop:=
 ∀(pins:List (av×Obj)) (s:bq) (σ:St) (H:Hp) (xs:List V) (us:List aL) (Q:VK),Inv X pins σ H s→Vals xs us→r xs H Q →
  b8 0#o X.A (call f us) (EP X pins σ Q) X.xe s
def TL (r:R2) (ta tb:TE):TE:=fun σ H Q=>ta σ H fun x H1=>tb σ H1 fun y H2=>r x y H2 Q
def tUn (r:V→Hp→VK→Prop) (ta:TE):TE:=fun σ H Q=>ta σ H fun x H1=>r x H1 Q
def rI (C:Int→Int→Prop) (g:Int→Int→V):R2:=fun x y H Q=>∃i j,x=.int i∧y=.int j∧C i j∧Q (g i j) H
def WB (g:Int→Int→V):R2:=fun x y H Q=>∃i j,x=.int i∧y=.int j∧Q (g i j) H
def rU (g:Int→V):V→Hp→VK→Prop:=fun x H Q=>∃i,x=.int i∧Q (g i) H
section
theorem ZX {X:Cx} {a b:bg} {ta tb:TE} (ha:PE X a ta) (hb:PE X b tb)  {s:bq} {σ:St} {H:Hp} {R:V→V→Hp→Prop} (I:Inv X pins σ H s)
 (h:ta σ H fun x H1=>tb σ H1 fun y H2=>R x y H2) {Q:aL→bq→Prop} {f:aL→aL→Sem aL}
 (hf:∀v u s2 x y H2,Inv X pins σ H2 s2→RelV x v→RelV y u→R x y H2→b8 0#o X.A (f v u) Q X.xe s2) :
 b8 0#o X.A (eval a X.env) (fun v s₁=>b8 0#o X.A (eval b X.env) (fun u s₂=>b8 0#o X.A (f v u) Q X.xe s₂) X.xe s₁) X.xe s:=by
 refine gR (ha pins s σ H _ I h) fun v s1 ⟨x,H1,I1,r1,q1⟩=>?_
 refine gR (hb pins s1 σ H1 _ I1 q1) fun u s2 ⟨y,H2,I2,r2,q2⟩=>?_
 exact hf v u s2 x y H2 I2 r1 r2 q2
theorem So {X:Cx} {a b:bg} {ta tb:TE} {pos:Pos} {op:Operator} {r:R2} (ho:qR X (nJ op) r) (ha:PE X a ta) (hb:PE X b tb):PE X (.BinOp a op b pos) (TL r ta tb):=by
 intro pins s σ H Q I h
 exact wpAny_BinOp (ZX ha hb I h fun v u s2 x y H2 I2 rx ry q=>ho pins s2 σ H2 x y v u Q I2 rx ry q)
theorem Sq {X:Cx} {a:bg} {ta:TE} {pos:Pos} {op:UnaryOp} {r:V→Hp→VK→Prop} (ho:UnR X (unaryOp op) r) (ha:PE X a ta):PE X (.UnaryOp op a pos) (tUn r ta):=by
 intro pins s σ H Q I h
 exact UnaryOp_ (gR (ha pins s σ H _ I h) fun v s1 ⟨x,H1,I1,r1,q1⟩=>ho pins s1 σ H1 x v Q I1 r1 q1)
theorem opI {g:Int→Int→Int}
 (rule:∀(i j:Int) (t u:Tok) (s:bq) (Q:aL→bq→Prop) (E:aL→bq→Prop),C i j→Q (.int (g i j) s.toks) { s with toks:=s.toks+1 }→b8 0#o X.A (f (.int i t) (.int j u)) Q E s) :
 qR X f (rI C fun i j=>.int (g i j)):=by
 intro pins s σ H x y v u Q I rx ry h
 obtain ⟨i,j,rfl,rfl,hc,q⟩:=h
 obtain ⟨t,rfl⟩:=rx
 obtain ⟨t',rfl⟩:=ry
 exact rule i j t t' s _ _ hc ⟨.int (g i j),H,I.tok _,⟨_,rfl⟩,q⟩
theorem acT {g:Int→Int→Int}
 (rule:∀(i j:Int) (t u:Tok) (s:bq) (Q:aL→bq→Prop) (E:aL→bq→Prop),Q (.int (g i j) s.toks) { s with toks:=s.toks+1 }→b8 0#o X.A (f (.int i t) (.int j u)) Q E s) :
 qR X f (WB fun i j=>.int (g i j)):=by
 intro pins s σ H x y v u Q I rx ry h
 obtain ⟨i,j,rfl,rfl,q⟩:=h
 obtain ⟨t,rfl⟩:=rx
 obtain ⟨t',rfl⟩:=ry
 exact rule i j t t' s _ _ ⟨.int (g i j),H,I.tok _,⟨_,rfl⟩,q⟩
theorem Wn {g:Int→Int→Bool}
 (rule:∀(i j:Int) (t u:Tok) (s:bq) (Q:aL→bq→Prop) (E:aL→bq→Prop),Q (.bool (g i j)) s→b8 0#o X.A (f (.int i t) (.int j u)) Q E s) :
 qR X f (WB fun i j=>.bl (g i j)):=by
 intro pins s σ H x y v u Q I rx ry h
 obtain ⟨i,j,rfl,rfl,q⟩:=h
 obtain ⟨t,rfl⟩:=rx
 obtain ⟨t',rfl⟩:=ry
 exact rule i j t t' s _ _ ⟨.bl (g i j),H,I,rfl,q⟩
def abO (i j:Int):Prop:=0≤j∧j≤1000000∧i.natAbs<2 ^ 64
def Vb (i j:Int):Prop:=(-(2 ^ 64)<i∧i<2 ^ 64)∨(-(2 ^ 64)<j∧j<2 ^ 64)
theorem Vb.ok (h:Vb i j):IntMulOk i j:=by
 rcases h with ⟨h1,h2⟩ | ⟨h1,h2⟩
 ·exact .of_left (Zb h1 h2)
 ·exact .of_right (Zb h1 h2)
theorem MM (k:Nat):(0:Int)≤2 ^ k:=by
 rw [two_pow_cast]
 exact N6 _
theorem aV:qR X (nJ .Add) (WB fun i j=>.int (i+j)):=acT fun _ _ _ _ _ _ _ q=>add_int q
theorem bP:qR X (nJ .Sub) (WB fun i j=>.int (i-j)):=acT fun _ _ _ _ _ _ _ q=>sub_int q
theorem gI:qR X (nJ .Mod) (rI (fun _ j=>0<j) fun i j=>.int (i % j)):=opI fun i j _ _ _ _ _ hc q=>by
 have h1:(0:Int)<j:=hc
 exact mod_int' 0#c (by rw [Int.fmod_eq_emod_of_nonneg i 0#c];exact q)
theorem pS:qR X (nJ .Pow) (rI abO fun i j=>.int (i ^ j.toNat)):=opI fun _ _ _ _ _ _ _ hc q=>pow_int_small hc.1 hc.2.1 hc.2.2 q
theorem Sg:qR X (nJ .RShift) (rI (fun _ j=>0≤j) fun i j=>.int (i/2 ^ j.toNat)):=opI fun i j _ _ _ _ _ hc q=>
 rshift_int hc (by rw [yN i (MM _)];exact q)
theorem unI {g:Int→Int}
 (rule:∀(i:Int) (t:Tok) (s:bq) (Q:aL→bq→Prop) (E:aL→bq→Prop),Q (.int (g i) s.toks) { s with toks:=s.toks+1 }→b8 0#o X.A (f (.int i t)) Q E s) :
 UnR X f (rU fun i=>.int (g i)):=by
 intro pins s σ H x v Q I rx h
 obtain ⟨i,rfl,q⟩:=h
 obtain ⟨t,rfl⟩:=rx
 exact rule i t s _ _ ⟨.int (g i),H,I.tok _,⟨_,rfl⟩,q⟩
theorem cW:UnR X (unaryOp .USub) (rU fun i=>.int (-i)):=unI fun _ _ _ _ _ q=>neg_int q
end
def WN:V→V→Bool
 | .bM,.bM=>true | .bM,.int _=>true | .int _,.bM=>true | .bM,.bl _=>true | .bl _,.bM=>true | .bM,.str _=>true | .str _,.bM=>true
 | .int _,.int _=>true | .bl _,.bl _=>true | .str _,.str _=>true | .P7 _,.P7 _=>true
 | .int _,.str _=>true | .str _,.int _=>true | .bl _,.str _=>true | .str _,.bl _=>true
 | _,_=>false
def rEq:R2:=fun x y H Q=>WN x y=true∧Q (.bl (decide (x=y))) H
def rNe:R2:=fun x y H Q=>WN x y=true∧Q (.bl (!decide (x=y))) H
theorem M3:decide (V.int i=V.int j)=(i==j):=by
 rw [Of]
 simp
theorem QL:decide (V.bl i=V.bl j)=(i==j):=by
 rw [Of]
 simp
theorem M4:decide (V.str i=V.str j)=(i==j):=by
 rw [Of]
 simp
theorem M1:decide (V.P7 i=V.P7 j)=(i.toList==j.toList):=by
 rw [Of]
 cases i
 cases j
 simp
section
theorem cH {σ:St} (I:Inv X pins σ H s) (q:Q (.bl k) H) (e:k=k'):EP X pins σ Q (.bool k') s:=by
 subst e
 exact ⟨.bl k,H,I,rfl,q⟩
theorem d7:qR X (qw .Eq) rEq:=by
 intro pins s σ H x y v u Q I rx ry h
 obtain ⟨hs,q⟩:=h
 cases x with
 | bM=>
   cases rx
   cases y with
   | bM=>cases ry;exact adM (cH I q 0#e)
   | bl j=>cases ry;exact adN (cH I q 0#e)
   | int j=>obtain ⟨t',rfl⟩:=ry;exact adW (cH I q 0#e)
   | str j=>obtain ⟨t',rfl⟩:=ry;exact adX (cH I q 0#e)
   | _=>exact absurd (show false=true from hs) dD
 | bl i=>
   cases rx
   cases y with
   | bM=>cases ry;exact adO (cH I q 0#e)
   | bl j=>cases ry;exact eq_bool (cH I q QL)
   | str j=>obtain ⟨t',rfl⟩:=ry;exact adP (cH I q 0#e)
   | _=>exact absurd (show false=true from hs) dD
 | int i=>
   obtain ⟨t,rfl⟩:=rx
   cases y with
   | bM=>cases ry;exact adY (cH I q 0#e)
   | int j=>obtain ⟨t',rfl⟩:=ry;exact eq_int (cH I q M3)
   | str j=>obtain ⟨t',rfl⟩:=ry;exact adZ (cH I q 0#e)
   | _=>exact absurd (show false=true from hs) dD
 | str i=>
   obtain ⟨t,rfl⟩:=rx
   cases y with
   | bM=>cases ry;exact ad0 (cH I q 0#e)
   | bl j=>cases ry;exact adQ (cH I q 0#e)
   | int j=>obtain ⟨t',rfl⟩:=ry;exact ad1 (cH I q 0#e)
   | str j=>obtain ⟨t',rfl⟩:=ry;exact eq_str (cH I q M4)
   | _=>exact absurd (show false=true from hs) dD
 | P7 i=>
   obtain ⟨t,rfl⟩:=rx
   cases y with
   | P7 j=>obtain ⟨t',rfl⟩:=ry;exact PySem.W.eq_bytes (cH I q M1)
   | _=>exact absurd (show false=true from hs) dD
 | _=>cases y <;> exact absurd (show false=true from hs) dD
theorem acU:qR X (qw .NotEq) rNe:=by
 intro pins s σ H x y v u Q I rx ry h
 obtain ⟨hs,q⟩:=h
 cases x with
 | bM=>
   cases rx
   cases y with
   | bM=>cases ry;exact adR (cH I q 0#e)
   | bl j=>cases ry;exact adS (cH I q 0#e)
   | int j=>obtain ⟨t',rfl⟩:=ry;exact ad2 (cH I q 0#e)
   | str j=>obtain ⟨t',rfl⟩:=ry;exact ad3 (cH I q 0#e)
   | _=>exact absurd (show false=true from hs) dD
 | bl i=>
   cases rx
   cases y with
   | bM=>cases ry;exact adT (cH I q 0#e)
   | bl j=>cases ry;exact ne_bool (cH I q (congrArg not QL))
   | str j=>obtain ⟨t',rfl⟩:=ry;exact adU (cH I q 0#e)
   | _=>exact absurd (show false=true from hs) dD
 | int i=>
   obtain ⟨t,rfl⟩:=rx
   cases y with
   | bM=>cases ry;exact ad4 (cH I q 0#e)
   | int j=>obtain ⟨t',rfl⟩:=ry;exact ne_int (cH I q (congrArg not M3))
   | str j=>obtain ⟨t',rfl⟩:=ry;exact ad5 (cH I q 0#e)
   | _=>exact absurd (show false=true from hs) dD
 | str i=>
   obtain ⟨t,rfl⟩:=rx
   cases y with
   | bM=>cases ry;exact ad6 (cH I q 0#e)
   | bl j=>cases ry;exact adV (cH I q 0#e)
   | int j=>obtain ⟨t',rfl⟩:=ry;exact ad7 (cH I q 0#e)
   | str j=>obtain ⟨t',rfl⟩:=ry;exact ne_str (cH I q (congrArg not M4))
   | _=>exact absurd (show false=true from hs) dD
 | P7 i=>
   obtain ⟨t,rfl⟩:=rx
   cases y with
   | P7 j=>obtain ⟨t',rfl⟩:=ry;exact PySem.W.ne_bytes (cH I q (congrArg not M1))
   | _=>exact absurd (show false=true from hs) dD
 | _=>cases y <;> exact absurd (show false=true from hs) dD
theorem lD:qR X (qw .Lt) (WB fun i j=>.bl (decide (i<j))):=Wn fun _ _ _ _ _ _ _ q=>lt_int q
theorem EA:qR X (qw .LtE) (WB fun i j=>.bl (decide (i≤j))):=Wn fun _ _ _ _ _ _ _ q=>le_int q
theorem dI:qR X (qw .Gt) (WB fun i j=>.bl (decide (j<i))):=Wn fun _ _ _ _ _ _ _ q=>gt_int q
theorem Sf:qR X (qw .GtE) (WB fun i j=>.bl (decide (j≤i))):=Wn fun _ _ _ _ _ _ _ q=>ge_int q
theorem uM:qR X (qw .Is) (fun x y H Q=>y=.bM∧Q (.bl (decide (x=.bM))) H):=by
 intro pins s σ H x y v u Q I rx ry h
 obtain ⟨rfl,q⟩:=h
 cases ry
 refine is_none_gen (cH I q ?_)
 cases x <;> first
  | (cases rx;rfl)
  | (obtain ⟨t,rfl⟩:=rx;rfl)
theorem ir:qR X (qw .IsNot) (fun x y H Q=>y=.bM∧Q (.bl (!decide (x=.bM))) H):=by
 intro pins s σ H x y v u Q I rx ry h
 obtain ⟨rfl,q⟩:=h
 cases ry
 refine isnot_none_gen (cH I q ?_)
 cases x <;> first
  | (cases rx;rfl)
  | (obtain ⟨t,rfl⟩:=rx;rfl)
theorem aH (b:bg)  (h:op≠.In:=by decide) (h2:op≠.NotIn:=by decide):behindInMarks op b=false:=by
 have e1:(op==CmpOp.In)=false:=by cases op <;> first | rfl | exact absurd rfl h
 have e2:(op==CmpOp.NotIn)=false:=by cases op <;> first | rfl | exact absurd rfl h2
 cases b <;> simp [behindInMarks,e1,e2]
theorem Gz {X:Cx} {a b:bg} {ta tb:TE} {pos:Pos} {op:CmpOp} {r:R2} (ho:qR X (qw op) r) (ha:PE X a ta) (hb:PE X b tb) (hm:behindInMarks op b=false):PE X (.Compare a [op] [b] pos) (TL r ta tb):=by
 intro pins s σ H Q I h
 exact wpAny_Compare1 (ZX ha hb I h fun v u s2 x y H2 I2 rx ry q=>ho pins s2 σ H2 x y v u Q I2 rx ry q) hm
def JL (t:TE):TT:=fun σ H Q=>t σ H fun x H'=>∃k,x=.bl k∧Q k H'
theorem GP {X:Cx} {a b:bg} {ta tb:TE} {pos:Pos} {op:CmpOp} {r:R2} (ho:qR X (qw op) r) (ha:PE X a ta) (hb:PE X b tb) (hm:behindInMarks op b=false):PT X (.Compare a [op] [b] pos) (JL (TL r ta tb)):=by
 intro pins s σ H Q I h
 refine wpAny_isTrue_Compare1 (gR (ha pins s σ H _ I h) fun v s1 ⟨x,H1,I1,r1,q1⟩=>gR (hb pins s1 σ H1 _ I1 q1) fun u s2 ⟨y,H2,I2,r2,q2⟩=>
  gR (ho pins s2 σ H2 x y v u _ I2 r1 r2 q2) fun c s3 ⟨z,H3,I3,r3,k,e,q3⟩=>?_) hm
 subst e
 cases r3
 exact J1 ⟨H3,I3,q3⟩
def MJ (r r':R2) (ta tb tc:TE):TE:=fun σ H Q=>ta σ H fun x H1=>tb σ H1 fun y H2=>r x y H2 fun z H3=>∃k,z=.bl k ∧
 (if k=true then tc σ H3 fun w' H4=>r' y w' H4 Q else Q (.bl false) H3)
theorem Ca (ho:qR X (qw op) r) (ho':qR X (qw op') r') (ha:PE X a ta) (hb:PE X b tb) (hc:PE X c tc)
 (hm:lastMarks [op,op'] [b,c]=false:=by with_unfolding_all rfl):PT X (.Compare a [op,op'] [b,c] pos) (JL (MJ r r' ta tb tc)):=by
 intro pins s σ H Q I h
 refine isTrue_chain (gR (ha pins s σ H _ I h) fun v s1 ⟨x,H1,I1,r1,q1⟩=>test_link (gR (hb pins s1 σ H1 _ I1 q1) fun u s2 ⟨y,H2,I2,r2,q2⟩=>
  gR (ho pins s2 σ H2 x y v u _ I2 r1 r2 q2) fun d s3 ⟨z,H3,I3,r3,k,e,q3⟩=>?_)) hm
 subst e
 cases r3
 refine J1 ?_
 cases k with
 | false=>
   obtain ⟨k',e',q'⟩:=q3
   cases e'
   exact ite_ff ⟨H3,I3,q'⟩
 | true=>
   refine ite_tt (test_last (gR (hc pins s3 σ H3 _ I3 q3) fun w' s4 ⟨z',H4,I4,r4,q4⟩=>gR (ho' pins s4 σ H4 y z' u w' _ I4 r2 r4 q4) fun d' s5 ⟨z2,H5,I5,r5,k2,e2,q5⟩=>?_))
   subst e2
   cases r5
   exact J1 ⟨H5,I5,q5⟩
theorem FY:(sizeLine:Nat)<2 ^ 63:=by rw [sizeLine_eq];decide
theorem vals1 (r:Vals [x] us):∃u,us=[u]∧RelV x u:=by
 cases r with
 | cons r1 r2=>cases r2;exact ⟨_,rfl,r1⟩
theorem vals2 (r:Vals [x,y] us):∃u w',us=[u,w']∧RelV x u∧RelV y w':=by
 cases r with
 | cons r1 r2=>
   cases r2 with
   | cons r3 r4=>cases r4;exact ⟨_,_,rfl,r1,r3⟩
theorem QB:ja X (.builtin "abs") (fun xs H Q=>∃i,xs=[.int i]∧Q (.int (if i<0 then -i else i)) H):=by
 intro pins s σ H xs us Q I r h
 obtain ⟨i,rfl,q⟩:=h
 obtain ⟨u,rfl,t,rfl⟩:=vals1 r
 exact call_abs_int fun u tk=>⟨.int (if i<0 then -i else i),H,I.tok _,⟨_,rfl⟩,q⟩
theorem OH (hc:X.calm=true):ja X (.builtin "max") (fun xs H Q=>∃i j,xs=[.int i,.int j]∧Q (.int (if j>i then j else i)) H):=by
 intro pins s σ H xs us Q I r h
 obtain ⟨i,j,rfl,q⟩:=h
 obtain ⟨u,w',rfl,⟨t,rfl⟩,⟨t',rfl⟩⟩:=vals2 r
 refine max_two_ints (I.ok.hd hc) fun h' tk k=>⟨_,H,I.kept k,?_,q⟩
 by_cases hj:j>i
 ·rw [if_pos hj,if_pos hj];exact ⟨_,rfl⟩
 ·rw [if_neg hj,if_neg hj];exact ⟨_,rfl⟩
theorem OI (hc:X.calm=true):ja X (.builtin "min") (fun xs H Q=>∃i j,xs=[.int i,.int j]∧Q (.int (if j<i then j else i)) H):=by
 intro pins s σ H xs us Q I r h
 obtain ⟨i,j,rfl,q⟩:=h
 obtain ⟨u,w',rfl,⟨t,rfl⟩,⟨t',rfl⟩⟩:=vals2 r
 refine min_two_ints (I.ok.hd hc) fun h' tk k=>⟨_,H,I.kept k,?_,q⟩
 by_cases hj:j<i
 ·rw [if_pos hj,if_pos hj];exact ⟨_,rfl⟩
 ·rw [if_neg hj,if_neg hj];exact ⟨_,rfl⟩
theorem OG:ja X (.type "int") (fun xs H Q=>(∃i,xs=[.int i]∧Q (.int i) H)∨∃k,xs=[.bl k]∧Q (.int (if k then 1 else 0)) H):=by
 intro pins s σ H xs us Q I r h
 rcases h with ⟨i,rfl,q⟩ | ⟨k,rfl,q⟩
 ·obtain ⟨u,rfl,t,rfl⟩:=vals1 r
  exact call_int_int ⟨.int i,H,I,⟨_,rfl⟩,q⟩
 ·obtain ⟨u,rfl,r1⟩:=vals1 r
  cases r1
  exact call_int_bool ⟨.int (if k then 1 else 0),H,I.tok _,⟨_,rfl⟩,q⟩
end
structure Kx (h:cJ) (x dx C:av) (mA:Str→Option aL):Prop where
 obj:h.get? x=some (zM C dx)
 ns:h.Ns1 dx mA
 ne:dx≠x
theorem Pd {h:cJ} (n:h.Ns1 dx mA):∃od,h.get? dx=some od∧∀name,Ol name od=some (mA name):=by
 obtain ⟨o,es,ep,ho,hd,hk,_,hm⟩:=n
 refine ⟨o,ho,fun name=>?_⟩
 have e:=hm name
 unfold nsFind findBy at e
 rw [← Array.find?_toList] at e
 unfold Ol
 rw [hd]
 dsimp only
 split
 ·rename_i y q
  rw [q] at e
  exact congrArg some e
 ·rename_i q
  rw [q] at e
  have a:es.toList.any (·.refKey)=false:=by
   rw [List.any_eq_false]
   intro y hy
   obtain ⟨z,t,hkey⟩:=hk y (Array.mem_toList_iff.mp hy)
   simp [DictEntry.refKey,hkey]
  have a':¬es.toList.any (·.refKey)=true:=by rw [a];exact dD
  rw [if_neg a']
  exact congrArg some e
theorem Kx.look (I:Kx h x dx C mA):∃od,PySem.W.InstAt h x (zM C dx) C (some od)∧∀name,Ol name od=some (mA name):=
 let ⟨od,ho,hl⟩:=Pd I.ns
 ⟨od,⟨I.obj,rfl,rfl,ho⟩,hl⟩
section
theorem get_map {K:bZ} (X:K.In s.heap) (I:Kx s.heap x dx C mA) (hg:EN K C name=true) (hh:J2 K C=true)
 (ha:j4 K (.ref C) name=some none) (hv:mA name=some v) (hv':YI v=true) (h:Q v { s with toks:=s.toks+1 }) :
 b8 (model prog w) A (getAttr (.ref x) name expr) Q E s:=by
 obtain ⟨od,J,hl⟩:=I.look
 exact PySem.W.get_value X J (T6 hg).1 (PySem.W.findObj_own hh ha rfl (by rw [hl,hv])) hv' h
theorem Q6 {K:bZ} (X:K.In s.heap) (I:Kx s.heap x dx C mA) (hg:EN K C name=true)
 (hf:j4 K (.ref C) name=some (some (.ref f))) (ht:zO K (.ref f)=true) (hv:mA name=none) (h:Q (.ref f,[.ref x]) s) :
 b8 (model prog w) A (getMethod (.ref x) name pl) Q E s:=by
 obtain ⟨od,J,hl⟩:=I.look
 exact PySem.W.method_fn X J (T6 hg).1 (T6 hg).2 hf (wR.mp ht) (by show (Ol name od).map (·.isSome)=some false;rw [hl,hv];rfl) h
theorem WQ {K:bZ} (X:K.In s.heap) (I:Kx s.heap x dx C mA)
 (hs:j4 K (.ref C) "__setattr__"=some (some (.builtin "object.__setattr__"))) (hp:N9 K C=true) (ht:Uk K C name=some none) (hh:J2 K C=true)
 (hw:Uu mA ns) (hsz:ns.length≤sizeLine)
 (h:∀h',Kx h' x dx C (fun y=>if y=name then some v else mA y)→C6 dx s.heap h'→Q () { s with heap:=h',toks:=s.toks+2 }) :
 b8 (model prog w) A (setAttr (.ref x) name v) Q E s:=by
 obtain ⟨od,J,hl⟩:=I.look
 refine PySem.W.set_plain X J hs (PySem.W.osa_open (s:={ s with toks:=s.toks+1 }) (r:=none) X J hp ht fun b=>?_)
 obtain ⟨cd,hc,hd'⟩:=PySem.W.any_some hh
 have hx:s.heap.get? x=some ⟨.ref C,some dx,.plain,#[]⟩:=I.obj
 refine gw (m8 (gw (gw (wpAny_loadPart hx (gw (aer (s:={ s with toks:=s.toks+1 }) (PySem.W.looks_clsIn X hc) ?_))))))
 rw [hd']
 refine m8 (a:=some dx) (gw (m8 (gw ?_)))
 refine wpAny_nsSet1 (s:={ s with toks:=s.toks+1 }) I.ns fun h' hn2 hs2=>?_
 obtain ⟨oD,esD,epD,hoD,hdD,hcD⟩:=hn2.count (aev name v hw)
 refine gw (wpAny_lookBehind hoD (by rw [hdD];exact pastItsLine_dict (eE hcD (by rw [zL];simp?))) ?_)
 exact m8 (h _ ⟨(hs2.2 _ (jn I.ne)).trans I.obj,hn2,I.ne⟩ hs2)
theorem RE {s:bq} {K:bZ} (X:K.In s.heap) (hm:Og K C=true)
 (hi:j4 K (.ref C) "__init__"=some (some (.ref f))) (hf:PySem.W.typeIn K (.ref f)=some (.type "function"))
 (h:zV (model prog w) (A.under (.builtin "type.__call__" ⟨.ref C::vs,kw⟩)) (.call (.ref f) ⟨.ref (s.heap.objs.size+1)::vs,kw⟩) (PySem.W.InitBack (s.heap.objs.size+1) R)
   { s with heap:=(s.heap.push HR).push (zM C s.heap.objs.size) }) :
 zV (model prog w) A (.call (.ref C) ⟨vs,kw⟩) R s:=by
 obtain ⟨hh,g,d,t,os⟩:=s
 exact PySem.W.make_core (PySem.W.makes_of X hm) (PySem.W.looks_findIn X hi) (fun self=>PySem.W.bind_fn X self hf) (.inl rfl) h
end
def aB (f:Str) (v:V):List (Str×V)→List (Str×V)
 | []=>[(f,v)]
 | (g,x)::r=>if g=f then (g,v)::r else (g,x)::aB f v r
theorem af (f g:Str) (v:V):∀fs:List (Str×V),(aB f v fs).lookup g=if g=f then some v else fs.lookup g
 | []=>by
   show C7 g [(f,v)]=_
   by_cases h:g=f
   ·have hb:(g==f)=true:=wR.mpr h
    simp only [C7,hb,if_pos h]
   ·have hb:(g==f)=false:=N4.mpr h
    simp only [C7,hb,if_neg h]
 | (k,x)::r=>by
   have ih:=af f g v r
   rw [show aB f v ((k,x)::r)=(if k=f then (k,v)::r else (k,x)::aB f v r) from rfl]
   by_cases hk:k=f
   ·rw [if_pos hk]
    by_cases h:g=k
    ·have hb:(g==k)=true:=wR.mpr h
     simp only [C7,hb,if_pos (h.trans hk)]
    ·have hb:(g==k)=false:=N4.mpr h
     simp only [C7,hb,if_neg (fun e:g=f=>h (e.trans hk.symm))]
   ·rw [if_neg hk]
    by_cases h:g=k
    ·have hb:(g==k)=true:=wR.mpr h
     simp only [C7,hb,if_neg (fun e:g=f=>hk (h.symm.trans e))]
    ·have hb:(g==k)=false:=N4.mpr h
     simp only [C7,hb]
     exact ih
theorem xM (f:Str) (v:V):∀fs:List (Str×V),f∈(aB f v fs).map (·.1)∧∀g,g∈fs.map (·.1)→g∈(aB f v fs).map (·.1)
 | []=>⟨by simp [aB],fun g h=>by simp at h⟩
 | (k,x)::r=>by
   obtain ⟨i1,i2⟩:=xM f v r
   rw [show aB f v ((k,x)::r)=(if k=f then (k,v)::r else (k,x)::aB f v r) from rfl]
   by_cases hk:k=f
   ·rw [if_pos hk]
    subst hk
    exact ⟨by simp,fun g h=>by simpa using h⟩
   ·rw [if_neg hk]
    refine ⟨?_,fun g h=>?_⟩
    ·rw [C5]
     exact D3 _ i1
    ·rw [C5] at h ⊢
     rcases qv.mp h with e | e
     ·exact qv.mpr (.inl e)
     ·exact D3 _ (i2 g e)
theorem zk (f:Str) (v:V):∀fs:List (Str×V),(aB f v fs).length≤fs.length+1
 | []=>by simp [aB]
 | (k,x)::r=>by
   have ih:=zk f v r
   rw [show aB f v ((k,x)::r)=(if k=f then (k,v)::r else (k,x)::aB f v r) from rfl]
   by_cases hk:k=f
   ·rw [if_pos hk,zL,zL];simp?
   ·rw [if_neg hk,zL,zL];simp?
theorem Dr.some_of (r:Dr (some v) o):∃u,o=some u∧RelV v u:=by
 cases o with
 | none=>exact (show False from r).elim
 | some u=>exact ⟨u,rfl,r⟩
theorem Dr.none_of (r:Dr none o):o=none:=by
 cases o with
 | none=>rfl
 | some u=>exact (show False from r).elim
theorem O2 (r:RelV v u):YI u=true:=by
 cases v with
 | bM=>cases (show u=Value.none from r);rfl
 | bl b=>cases (show u=Value.bool b from r);rfl
 | int i=>obtain ⟨t,e⟩:=(show ∃t,u=Value.int i t from r);cases e;rfl
 | str x=>obtain ⟨t,e⟩:=(show ∃t,u=Value.str x t from r);cases e;rfl
 | P7 b=>obtain ⟨t,e⟩:=(show ∃t,u=Value.bytes b t from r);cases e;rfl
 | flt b=>obtain ⟨t,e⟩:=(show ∃t,u=Value.float b t from r);cases e;rfl
 | ref a=>cases (show u=Value.ref a from r);rfl
 | ty n=>cases (show u=Value.type n from r);rfl
section
theorem AD (hok:xo P w H h) (e:H a=some (.ins C dx fs)):∃mA,Kx h a dx C mA∧(∀f,Dr (fs.lookup f) (mA f))∧Uu mA (fs.map (·.1))∧fs.length≤1000∧H dx=some (.own a):=by
 obtain ⟨d,z,ne,ob,mA,n,r,q⟩:=(show gA P w H h a (.ins C dx fs) from hok a _ e)
 exact ⟨mA,⟨ob,n,ne⟩,r,q,z,d⟩
end
structure Ko (K:bZ) (C:av):Prop where
 pg:EN K C UR=true
 hd:J2 K C=true
 po:N9 K C=true
 sa:j4 K (.ref C) "__setattr__"=some (some (.builtin "object.__setattr__"))
theorem Ko.get {K:bZ} (c:Ko K C) (f:Str):EN K C f=true:=c.pg
def nY (K:bZ) (C:av) (f:Str):Prop:=j4 K (.ref C) f=some none
theorem nY.adx {K:bZ} (n:nY K C f):Uk K C f=some none:=by
 unfold Uk
 rw [show j4 K (.ref C) f=some none from n]
 rfl
structure Meth (K:bZ) (C:av) (m:Str) (f:av):Prop where
 at_:j4 K (.ref C) m=some (some (.ref f))
 fn:zO K (.ref f)=true
 kp:xh K (.ref f)=true
section
theorem KL {σ:St} (I:Inv X pins σ H s) (e:H a=some (.ins C dx fs)) (c:Ko X.K C) (n:nY X.K C f) (l:fs.lookup f=some v)
 (h:∀u s',Inv X pins σ H s'→RelV v u→Q u s'):b8 0#o A (getAttr (.ref a) f b) Q E s:=by
 obtain ⟨mA,O,r,_,_,_⟩:=AD I.hok e
 obtain ⟨u,hu,ru⟩:=Dr.some_of (v:=v) (o:=mA f) (by rw [← l];exact r f)
 exact get_map I.Ah O (c.get f) c.hd n hu (O2 ru) (h u _ (I.tok _) ru)
theorem Br {σ:St} (I:Inv X pins σ H s) (e:H a=some (.ins C dx fs)) (c:Ko X.K C) (k:Meth X.K C m g) (l:fs.lookup m=none)
 (h:Q (.ref g,[.ref a]) s):b8 0#o A (getMethod (.ref a) m pl) Q E s:=by
 obtain ⟨mA,O,r,_,_,_⟩:=AD I.hok e
 have hn:mA m=none:=Dr.none_of (by rw [← l];exact r m)
 exact Q6 I.Ah O (c.get m) k.at_ k.fn hn h
theorem Mu {σ:St} (I:Inv X pins σ H s) (e:H a=some (.ins C dx fs)) (c:Ko X.K C) (n:nY X.K C f) (hl:fs.length<1000) (ry:RelV y u)
 (h:∀s',Inv X pins σ (upd H a (.ins C dx (aB f y fs))) s'→Q () s'):b8 0#o A (setAttr (.ref a) f u) Q E s:=by
 obtain ⟨mA,O,r,wi,_,ho⟩:=AD I.hok e
 have hz:(fs.map (·.1)).length≤sizeLine:=by rw [gJ,sizeLine_eq];simp?
 refine WQ I.Ah O c.sa c.po n.adx c.hd wi hz fun h' O' sb=>h _ ?_
 have hd:∃o,h'.get? dx=some o:=let ⟨o,_,_,e',_⟩:=O'.ns;⟨o,e'⟩
 refine I.write (x:=a) (e:=dx) (by rw [e];exact True.intro) (.inr ho) (fun b q hb z=>(sb.2 b hb).trans z) hd ?_
 refine ⟨by rw [aM O.ne];exact ho,?_,O.ne,O'.obj,_,O'.ns,fun g=>?_,fun g hg=>?_⟩
 ·have:=zk f y fs;simp?
 ·show Dr ((aB f y fs).lookup g) (if g=f then some u else mA g)
  rw [af]
  by_cases q:g=f
  ·rw [if_pos q,if_pos q];exact ry
  ·rw [if_neg q,if_neg q];exact r g
 ·by_cases q:g=f
  ·rw [q];exact (xM f y fs).1
  ·refine (xM f y fs).2 g (wi g fun z=>hg ?_)
   show (if g=f then some u else mA g)=none
   rw [if_neg q];exact z
theorem Inv.made {σ:St} (I:Inv X pins σ H s):Inv X pins σ (upd (upd H s.heap.objs.size (.own (s.heap.objs.size+1))) (s.heap.objs.size+1) (.ins C s.heap.objs.size []))
 { s with heap:=(s.heap.push HR).push (zM C s.heap.objs.size) }:=by
 have e1:(s.heap.push HR).get? s.heap.objs.size=some HR:=D4 s.heap rfl
 have e2:((s.heap.push HR).push (zM C s.heap.objs.size)).get? (s.heap.objs.size+1)=some (zM C s.heap.objs.size):=by
  have:=D4 (s.heap.push HR) (o:=zM C s.heap.objs.size) rfl
  rwa [YZ] at this
 have e3:(s.heap.push HR).Ns s.heap.objs.size (fun _=>none):=⟨HR,#[],_,e1,rfl,(fun e he=>absurd he 0#e),fun _=>rfl⟩
 have I1:=I.laid (a:=s.heap.objs.size) (o:=.own (s.heap.objs.size+1)) (h':=s.heap.push HR) (t':=s.toks) (fun b u q=>oF _ q) (dz _) ⟨_,e1⟩
 refine I1.laid (a:=s.heap.objs.size+1) (o:=.ins C s.heap.objs.size []) (t':=s.toks) (fun b u q=>oF _ q) (Zo (YZ _ _)) ?_
 have ne:s.heap.objs.size≠s.heap.objs.size+1:=lz (YJ _)
 refine ⟨by rw [aM ne,aA],mW _,ne,e2,fun _=>none,(Heap.Ns1.of_empty e3).at fun o q=>oF _ q,fun _=>True.intro,fun y hy=>absurd rfl hy⟩
theorem Vk (hb:vf e f env (eval e env)=eval e env)
 (h:b8 (model prog w) A (eval e env) (fun o s₁=>b8 (model prog w) A (getAttr o f true) Q E s₁) E s):b8 (model prog w) A (eval (.Attribute e f pos) env) Q E s:=
 Attribute_any_ h (by rw [arm_eval_Attribute,hb])
end
def abz (K:bZ) (ta:TE) (f:Str):TE:=fun σ H Q=>ta σ H fun x H1=>∃a C dx fs v,x=.ref a∧H1 a=some (.ins C dx fs)∧Ko K C∧nY K C f∧fs.lookup f=some v∧Q v H1
def abr (K:bZ) (ta tv:TE) (f:Str):TS:=fun D σ H=>tv σ H fun y H1=>ta σ H1 fun x H2=>∃a C dx fs,x=.ref a∧H2 a=some (.ins C dx fs)∧Ko K C∧nY K C f∧fs.length<1000 ∧
 D.nx σ (upd H2 a (.ins C dx (aB f y fs)))
section
theorem LS {X:Cx} {e:bg} {f:Str} {pos:Pos} {ta:TE} (he:PE X e ta) (hb:vf e f X.env (eval e X.env)=eval e X.env):PE X (.Attribute e f pos) (abz X.K ta f):=by
 intro pins s σ H Q I h
 refine Vk hb (gR (he pins s σ H _ I h) fun u s1 ⟨x,H1,I1,rx,a,C,dx,fs,v,ex,ea,c,n,l,q⟩=>?_)
 subst ex
 obtain rfl:u=Value.ref a:=rx
 exact KL I1 ea c n l fun u' s2 I2 ru=>⟨v,H1,I2,ru,q⟩
theorem L6 {X:Cx} {o value:bg} {f:Str} {pos pos':Pos} {ta tv:TE} (ha:PE X o ta) (hv:PE X value tv) (hs:lE value (some (.Attribute o f pos')) pos.line X.env=pure false):PS X (.Assign [.Attribute o f pos'] value pos) (abr X.K ta tv f):=by
 intro pins s σ H D I h
 refine plainObj_wpAny_Assign_Attribute (gR (hv pins s σ H _ I h) fun u s1 ⟨y,H1,I1,ry,q⟩=>gR (ha pins s1 σ H1 _ I1 q) fun ov s2 ⟨x,H2,I2,rx,a,C,dx,fs,ex,ea,c,n,l,q2⟩=>?_) hs
 subst ex
 obtain rfl:ov=Value.ref a:=rx
 exact Mu I2 ea c n l ry fun s3 I3=>⟨σ,_,I3,q2⟩
inductive vq (K:bZ) (H:Hp):V→aL→Prop where
 | bM:vq K H .bM (.type "NoneType")
 | bl (x:Bool):vq K H (.bl x) (.type "bool")
 | int (i:Int):vq K H (.int i) (.type "int")
 | str (x:Str):vq K H (.str x) (.type "str")
 | flt (x:UInt64):vq K H (.flt x) (.type "float")
 | lst {a:av} {xs:List V} (e:H a=some (.lst xs)):vq K H (.ref a) (.type "list")
 | Nb {a:av} {o:Obj} {xs:List V} (e:H a=some (.Nb o (.lst xs))):vq K H (.ref a) (.type "list")
 | tup {a:av} {xs:List V} (e:H a=some (.tup xs)):vq K H (.ref a) (.type "tuple")
 | dK {a:av} {kvs:List (Key×V)} (e:H a=some (.dK kvs)):vq K H (.ref a) (.type "dict")
 | dT {a:av} {kvs:List (List Key×V)} (e:H a=some (.dT kvs)):vq K H (.ref a) (.type "dict")
 | ins {a C dx:av} {fs:List (Str×V)} (e:H a=some (.ins C dx fs)) (cl:Ko K C) (ha:j4 K (.ref C) "__class__"=some (some (.builtin "object.__class__")))
  (hn:PySem.W.specialIn K (.builtin "object.__class__") "__get__"=some (some (.builtin "getset_descriptor.__get__"))) (htk:PySem.W.takesIn K (.builtin "object.__class__")=some true)
  (hm:PySem.W.mroIn K C (.type "object")=some true):vq K H (.ref a) (.ref C)
theorem O9 {σ:St} (I:Inv X pins σ H s) (rx:RelV x u) (ty:vq X.K H x t) (e:J9 X.K t c=some b) (h:∀tk,Q (.bool b) { s with toks:=tk }) :
 b8 0#o A (call (.builtin "isinstance") [u,c]) Q E s:=by
 cases ty with
 | bM=>cases (show u=Value.none from rx);exact Dg PySem.W.kitx_none I.Ah True.intro e (fun z=>nomatch z) h
 | bl y=>cases (show u=Value.bool y from rx);exact Dg PySem.W.kitx_bool I.Ah True.intro e (fun z=>nomatch z) h
 | int i=>obtain ⟨t,q⟩:=(show ∃t,u=Value.int i t from rx);cases q;exact Dg PySem.W.kitx_int I.Ah True.intro e (fun z=>nomatch z) h
 | str y=>obtain ⟨t,q⟩:=(show ∃t,u=Value.str y t from rx);cases q;exact Dg PySem.W.kitx_str I.Ah True.intro e (fun z=>nomatch z) h
 | flt y=>obtain ⟨t,q⟩:=(show ∃t,u=Value.float y t from rx);cases q;exact Dg PySem.W.kitx_float I.Ah True.intro e (fun z=>nomatch z) h
 | @lst a xs ea=>
   cases (show u=Value.ref a from rx)
   obtain ⟨_,_,n,_,h1⟩:=(show gA X.prog X.w H s.heap a (.lst xs) from I.hok a _ ea)
   exact Dg Yz I.Ah ⟨_,h1,rfl⟩ e (fun z=>nomatch z) h
 | @Nb a ob xs ea=>
   cases (show u=Value.ref a from rx)
   obtain ⟨_,_,_,n,_,h1⟩:=(show gA X.prog X.w H s.heap a (.Nb ob (.lst xs)) from I.hok a _ ea)
   exact Dg Yz I.Ah ⟨_,h1,rfl⟩ e (fun z=>nomatch z) h
 | @tup a xs ea=>
   cases (show u=Value.ref a from rx)
   obtain ⟨_,_,_,p⟩:=(show gA X.prog X.w H s.heap a 0#t from I.hok a _ ea)
   obtain ⟨o,h1,h2,_⟩:=p
   exact Dg PySem.W.kitx_tuple I.Ah ⟨o,h1,h2⟩ e (fun z=>nomatch z) h
 | @dK a kvs ea=>
   cases (show u=Value.ref a from rx)
   obtain ⟨_,_,vs,_,p⟩:=(show gA X.prog X.w H s.heap a (.dK kvs) from I.hok a _ ea)
   obtain ⟨o,es,ep,h1,h2,_⟩:=p
   exact Dg YA I.Ah ⟨o,h1,h2.1⟩ e (fun z=>nomatch z) h
 | @dT a kvs ea=>
   cases (show u=Value.ref a from rx)
   obtain ⟨_,_,xs,_,o,es,ep,h1,h2,_⟩:=(show gA X.prog X.w H s.heap a (.dT kvs) from I.hok a _ ea)
   exact Dg YA I.Ah ⟨o,h1,h2.1⟩ e (fun z=>nomatch z) h
 | @ins a C dx fs ea cl ha hn htk hm=>
   cases (show u=Value.ref a from rx)
   obtain ⟨mA,O,_⟩:=AD I.hok ea
   obtain ⟨od,J,_⟩:=O.look
   exact Dg (PySem.W.kitx_own (cl.get _) cl.hd ha hn htk hm) I.Ah J e (fun z=>nomatch z) h
end
structure iJ (k:Nat) (A:nN):Prop where
 hd:A.handled=none
 dp:A.depth+3*k+5<recursionLimit
 un:A.units+16*k+200<cLine
theorem iJ.mono (r:iJ k A) (h:j≤k):iJ j A:=⟨r.hd,by have:=r.dp;simp?,by have:=r.un;simp?⟩
theorem iJ.deeper (r:iJ (k+1) A) (env:Env):iJ k (A.deeper env):=
 ⟨r.hd,by have:=r.dp;show A.depth+1+3*k+5<_;simp?,by have:=r.un;show A.units+3+16*k+200<_;simp?⟩
theorem Lf {A:nN}:(A.under (.builtin "type.__call__" ⟨.ref C::us,kw⟩)).depth=A.depth+1:=by
 first | rfl | simp [Uw,Code.weight,Code.isCreation,Code.isGuard,Code.isCaller,Zz,Ux,guardIds]
theorem Lg {A:nN}:(A.under (.builtin "type.__call__" ⟨.ref C::us,kw⟩)).units=A.units+1:=by
 first | rfl | simp [Uw,Code.cUnits,Zz,Ux]
theorem iJ.make (r:iJ (k+1) A) (C:av) (us:List aL) (kw:List (Str×aL)):iJ k (A.under (.builtin "type.__call__" ⟨.ref C::us,kw⟩)):=
 ⟨r.hd,by have:=r.dp;rw [Lf];simp?,by have:=r.un;rw [Lg];simp?⟩
theorem iJ.depth (r:iJ k A):A.depth<recursionLimit:=by have:=r.dp;simp?
theorem iJ.units (r:iJ k A):A.units+64<cLine:=by have:=r.un;simp?
def ql:TA:=fun _ H Q=>Q [] H
def fW (ta:TE) (tr:TA):TA:=fun σ H Q=>ta σ H fun x H1=>tr σ H1 fun xs H2=>Q (x::xs) H2
section
theorem uN {X:Cx}:PA X [] ql:=fun _ _ _ _ H Q I h=>Calls.spliced_nil ⟨[],H,I,.nil,h⟩
theorem j7 {X:Cx} {e:bg} {es:List bg} {te:TE} {t:TA} (ha:PE X e te) (hr:PA X es t) (hs:bw (e::es) X.env=(false,eval e X.env)::bw es X.env:=by rfl):PA X (e::es) (fW te t):=by
 intro pos pins s σ H Q I h
 rw [hs]
 show b8 _ _ (spliced ((false,eval e X.env)::gZ pos (bw es X.env))) _ _ s
 refine Calls.spliced_cons (gR (ha pins s σ H _ I h) fun u s1 ⟨x,H1,I1,r1,q1⟩=>?_)
 exact gR (hr pos pins s1 σ H1 _ I1 q1) fun us s2 ⟨xs,H2,I2,r2,q2⟩=>⟨x::xs,H2,I2,.cons r1 r2,q2⟩
def abG (t:TA):TE:=fun σ H Q=>t σ H fun xs H1=>xs.length≤sizeLine∧∀p,H1 p=none→Q (.ref p) (upd H1 p 0#t)
def abC (t:TA):TE:=fun σ H Q=>t σ H fun xs H1=>xs.length≤sizeLine∧∀p,H1 p=none→Q (.ref p) (upd H1 p (.lst xs))
theorem LY {X:Cx} {es:List bg} {t:TA} {pos:Pos} {x1} (h:PA X es t):PE X (.Tuple es x1 pos) (abG t):=by
 intro pins s σ H Q I hq
 refine wpAny_Tuple_spliced (gR (h pos pins s σ H _ I hq) fun us s1 ⟨xs,H1,I1,r,z,q⟩=>⟨by rw [← r.length];exact z,?_⟩)
 have hf:H1 s1.heap.objs.size=none:=I1.hok.fresh (dz _)
 refine ⟨.ref s1.heap.objs.size,upd H1 s1.heap.objs.size 0#t,I1.laid (t':=s1.toks) (fun b u e=>oF _ e) (dz _) ?_,rfl,q _ hf⟩
 exact ⟨z,us,r,⟨_,D4 _ rfl,rfl,_,rfl⟩⟩
theorem LU {X:Cx} {es:List bg} {t:TA} {pos:Pos} (h:PA X es t):PE X (.List es pos) (abC t):=by
 intro pins s σ H Q I hq
 refine wpAny_List_spliced (gR (h pos pins s σ H _ I hq) fun us s1 ⟨xs,H1,I1,r,z,q⟩=>⟨by rw [← r.length];exact z,?_⟩)
 have hf:H1 s1.heap.objs.size=none:=I1.hok.fresh (dz _)
 refine ⟨.ref s1.heap.objs.size,upd H1 s1.heap.objs.size (.lst xs),I1.laid (t':=s1.toks) (fun b u e=>oF _ e) (dz _) ?_,rfl,q _ hf⟩
 exact ⟨z,us,0,r,D4 _ rfl⟩
end
abbrev Sp:=List V→Hp→VK→XK→Prop
abbrev Vc:=List Env→Hp→bq→XK→aL→bq→Prop
structure Kv (P:jk) (w:eG) (K:bZ) (mg:Str→Option aL) (base:cJ) (A:nN) (outer:List Env) (s:bq) (H:Hp):Prop where
 frames:A.frames=some outer
 mod:Mod K mg base
 bs:∀b o,base.get? b=some o→s.heap.get? b=some o∧H b=none
 OF:base.objs.size≤s.heap.objs.size
 z6:s.heap.FunFrames base outer
 frf:∀b∈frs outer,H b=none
 hok:xo P w H s.heap
 bare:wV s.gens
def CE (outer:List Env) (P:jk) (w:eG) (H:Hp) (s:bq) (Q:VK) (u:aL) (s':bq):Prop:=
 ∃v H',s'.os=s.os∧wV s'.gens∧Un (frs outer) [] H H' s.heap s'.heap∧xo P w H' s'.heap∧RelV v u∧Q v H'
def CR (CX:Vc) (outer:List Env) (P:jk) (w:eG) (H:Hp) (s:bq) (Q:VK) (E:XK) (r:Result) (s':bq):Prop:=
 match r with
 | .ok (.ret u)=>CE outer P w H s Q u s'
 | .ok _=>False
 | .error e=>CX outer H s E e s'
structure bf (P:jk) (w:eG) (K:bZ) (mg:Str→Option aL) (base:cJ) (CX:Vc) (k:Nat) (f:av) (fd:jF) (ps:List Str) (sp:Sp):Prop where
 len:∀vs H Q E,sp vs H Q E→vs.length=ps.length
 run:∀(A:nN) (outer:List Env) (s:bq) (H:Hp) (args:Args) (us:List aL) (vs:List V) (Q:VK) (E:XK),iJ k A→Kv P w K mg base A outer s H→BindsTo s fd args (ps.zip us)→Vals vs us→sp vs H Q E →
  zV (model P w) A (.call (.ref f) args) (CR CX outer P w H s Q E) s
theorem Kv.make {K:bZ} (e:Kv P w K mg base A outer s H) (C:av) (us:List aL) (kw:List (Str×aL)) :
 Kv P w K mg base (A.under (.builtin "type.__call__" ⟨.ref C::us,kw⟩)) outer s H:=⟨by first | exact e.frames | (simpa [Uw,Code.envs,Ux,pushEnvs] using e.frames),e.mod,e.bs,e.OF,e.z6,e.frf,e.hok,e.bare⟩
section
theorem Inv.ab2 {σ:St} (I:Inv X pins σ H s):Kv X.prog X.w X.K X.mg X.base X.A X.stack s H:=
 ⟨I.ok.frames,I.ok.mod,I.bs,eE I.ok.OF I.sz,I.stack,I.NL,I.hok,I.bare⟩
theorem Inv.after {σ:St} (I:Inv X pins σ H s) (h:CE X.stack X.prog X.w H s Q u s'):EP X pins σ Q u s':=by
 obtain ⟨v,H',os,bare,un,hok,r,q⟩:=h
 obtain ⟨hh,g,d,t,os'⟩:=s'
 obtain rfl:os'=s.os:=os
 exact ⟨v,H',I.call (h':=hh) (g':=g) (d':=d) (t':=t) (ch:=[]) un hok bare (fun b z=>absurd z 0#e),r,q⟩
end
def CO (sp:Sp) (Dh:List V) (E:XK) (t:TA):TE:=fun σ H Q=>t σ H fun vs H1=>sp (vs++Dh) H1 Q E
def JK (C:av) (m:Str) (sp:Sp) (Dh:List V) (E:XK) (ta:TE) (t:TA):TE:=fun σ H Q=>ta σ H fun x H1=>∃a dx fs,x=.ref a∧H1 a=some (.ins C dx fs)∧fs.lookup m=none ∧
 t σ H1 fun vs H2=>sp (x::(vs++Dh)) H2 Q E
def TF (C:av) (sp:Sp) (Dh:List V) (E:XK) (t:TA):TE:=fun σ H Q=>t σ H fun vs H1=>∀x dx,H1 x=none→H1 dx=none→dx≠x →
 sp (.ref x::(vs++Dh)) (upd (upd H1 dx (.own x)) x (.ins C dx [])) (fun v H2=>v=.bM∧Q (.ref x) H2) E
def Binds (K:bZ) (fd:jF) (ps:List Str) (ds:List aL):Prop:=
 ∀(s:bq) (us:List aL),K.In s.heap→(us++ds).length=ps.length→BindsTo s fd ⟨us,[]⟩ (ps.zip (us++ds))
theorem Binds.all {K:bZ} (h:∀us:List aL,us.length=ps.length→C9 fd ⟨us,[]⟩=pure (ps.zip us)):Binds K fd ps []:=fun s us _ hl=>by
 rw [sG] at hl ⊢
 exact .of_eq (h us hl)
def Passes (CX:Vc) (X:Cx) (E:XK):Prop:=∀(pins:List (av×Obj)) (σ:St) (H:Hp) (s:bq) (e:aL) (s':bq),Inv X pins σ H s→CX X.stack H s E e s'→X.xe e s'
section
theorem Mf {σ:St} (F:bf X.prog X.w X.K X.mg X.base CX k f fd ps sp) (hr:iJ k X.A) (hb:Binds X.K fd ps ds) (hd:Vals Dh ds) (hx:Passes CX X E)
 (I:Inv X pins σ H s) (r:Vals vs us) (h:sp (vs++Dh) H Q E):b8 0#o X.A (call (.ref f) us) (EP X pins σ Q) X.xe s:=by
 have r2:Vals (vs++Dh) (us++ds):=r.append hd
 have hl:(us++ds).length=ps.length:=by rw [← r2.length];exact F.len _ _ _ _ h
 refine wpAny_call (Ot (F.run X.A X.stack s H ⟨us,[]⟩ (us++ds) (vs++Dh) Q E hr I.ab2 (hb s us I.Ah hl) r2 h) fun r s' hq=>?_)
 cases r with
 | error e=>exact hx pins σ H s e s' I hq
 | ok fl=>
   cases fl with
   | ret u=>exact I.after hq
   | next=>exact o7 hq
   | brk=>exact o7 hq
   | cont=>exact o7 hq
theorem Ws (F:bf X.prog X.w X.K X.mg X.base CX k f fd ps sp) (hr:iJ k X.A) (hg:Gl X x) (hm:X.mg x=some (.ref f)) (hk:xh X.K (.ref f)=true) (hb:Binds X.K fd ps ds) (hd:Vals Dh ds) (hx:Passes CX X E)
 (ha:PA X (e::es) t) (hdb:0#y=false:=by decide) (he:bw (e::es) X.env=(false,eval e X.env)::bw es X.env:=by rfl) (hpl:(gZ pos (bw es X.env)).any (·.1)=false:=by rfl) :
 PE X (.Call (.Name x p) (e::es) [] pos) (CO sp Dh E t):=by
 intro pins s σ H Q I h
 refine N7 (FW I hg hm ?_ hdb)
 refine T9 (h₀:=X.base) I.ok.mod.kin hk (gR (ha pos pins s σ H _ I h) fun us s1 ⟨vs,H1,I1,r,q⟩=>⟨I1.Ah,?_⟩) he hpl
 exact Mf F hr hb hd hx I1 r q
theorem Wv {X:Cx} {CX:Vc} {k:Nat} {f C:av} {fd:jF} {ps:List Str} {sp:Sp} {Dh:List V} {ds:List aL} {E:XK} {m:Str} {pos apos:Pos} {e o:bg} {es:List bg} {ta:TE} {t:TA} {pl:Sem Bool} (he:PE X o ta) (c:Ko X.K C) (hm:Meth X.K C m f) (F:bf X.prog X.w X.K X.mg X.base CX k f fd ps sp) (hr:iJ k X.A) (hb:Binds X.K fd ps ds) (hd:Vals Dh ds) (hx:Passes CX X E) (ha:PA X (e::es) t)
 (hst:bw (e::es) X.env=(false,eval e X.env)::bw es X.env:=by rfl) (hpl:(gZ pos (bw es X.env)).any (·.1)=false:=by rfl)
 (ht:eval (.Call (.Attribute o m apos) (e::es) [] pos) X.env=(do
   let ov ← eval o X.env
   zU apos.atName
   let (f,first) ← holding [ov] (getMethod ov m pl)
   callWith pos f first (gZ pos (bw (e::es) X.env)) (sF pos (sD [] X.env))):=by rfl) :
 PE X (.Call (.Attribute o m apos) (e::es) [] pos) (JK C m sp Dh E ta t):=by
 intro pins s σ H Q I h
 refine X8 (pl:=pl) (gR (he pins s σ H _ I h) fun u s1 ⟨x,H1,I1,rx,a,dx,fs,ex,ea,l,q⟩=>?_) ht
 subst ex
 obtain rfl:u=Value.ref a:=rx
 refine Br I1 ea c hm l ?_
 refine T9 (first:=[.ref a]) (h₀:=X.base) I.ok.mod.kin hm.kp (gR (ha pos pins s1 σ H1 _ I1 q) fun us s2 ⟨vs,H2,I2,r,q2⟩=>⟨I2.Ah,?_⟩) hst hpl
 exact Mf (us:=.ref a::us) (vs:=.ref a::vs) F hr hb hd hx I2 (.cons rfl r) q2
theorem Sn {X:Cx} {CX:Vc} {k:Nat} {f C:av} {fd:jF} {ps:List Str} {sp:Sp} {Dh:List V} {ds:List aL} {E:XK} {m:Str} {pos apos:Pos} {o:bg} {ta:TE} {pl:Sem Bool} (he:PE X o ta) (c:Ko X.K C) (hm:Meth X.K C m f) (F:bf X.prog X.w X.K X.mg X.base CX k f fd ps sp) (hr:iJ k X.A) (hb:Binds X.K fd ps ds) (hd:Vals Dh ds) (hx:Passes CX X E)
 (ht:eval (.Call (.Attribute o m apos) [] [] pos) X.env=(do
   let ov ← eval o X.env
   zU apos.atName
   let (f,first) ← holding [ov] (getMethod ov m pl)
   callWith pos f first (gZ pos (bw [] X.env)) (sF pos (sD [] X.env))):=by rfl) :
 PE X (.Call (.Attribute o m apos) [] [] pos) (JK C m sp Dh E ta ql):=by
 intro pins s σ H Q I h
 refine X8 (pl:=pl) (gR (he pins s σ H _ I h) fun u s1 ⟨x,H1,I1,rx,a,dx,fs,ex,ea,l,q⟩=>?_) ht
 subst ex
 obtain rfl:u=Value.ref a:=rx
 refine Br I1 ea c hm l ?_
 exact PySem.W.callWith_K0 (first:=[.ref a]) I1.Ah hm.kp (Mf (us:=[.ref a]) (vs:=[.ref a]) F hr hb hd hx I1 (.cons rfl .nil) q)
structure Mk (K:bZ) (C f:av):Prop where
 makes:Og K C=true
 init:j4 K (.ref C) "__init__"=some (some (.ref f))
 fn:zO K (.ref f)=true
 kp:xh K (.ref C)=true
theorem SK {σ:St} (M:Mk X.K C f) (F:bf X.prog X.w X.K X.mg X.base CX k f fd ps sp) (hr:iJ (k+1) X.A) (hb:Binds X.K fd ps ds) (hd:Vals Dh ds)
 (hx:Passes CX X E) (I:Inv X pins σ H s) (r:Vals vs us)
 (h:∀x dx,H x=none→H dx=none→dx≠x→sp (.ref x::(vs++Dh)) (upd (upd H dx (.own x)) x (.ins C dx [])) (fun v H2=>v=.bM∧Q (.ref x) H2) E) :
 b8 0#o X.A (call (.ref C) us) (EP X pins σ Q) X.xe s:=by
 have hq:=h (s.heap.objs.size+1) s.heap.objs.size (I.hok.fresh (wO _)) (I.hok.fresh (dz _)) (lz (YJ _))
 have I2:=Inv.made (C:=C) I
 have r2:Vals (V.ref (s.heap.objs.size+1)::(vs++Dh)) (Value.ref (s.heap.objs.size+1)::(us++ds)):=.cons rfl (r.append hd)
 have hl:(Value.ref (s.heap.objs.size+1)::us++ds).length=ps.length:=by
  have e:=r2.length
  rw [F.len _ _ _ _ hq] at e
  exact e.symm
 refine wpAny_call (RE (f:=f) I.Ah M.makes M.init (wR.mp M.fn) (Ot (F.run _ X.stack _ _ ⟨Value.ref (s.heap.objs.size+1)::us,[]⟩ (Value.ref (s.heap.objs.size+1)::(us++ds)) _ _ E (hr.make C us [])
  (I2.ab2.make C us []) (hb _ (Value.ref (s.heap.objs.size+1)::us) I2.Ah hl) r2 hq) fun r s' hq'=>?_))
 cases r with
 | error e=>exact hx pins σ _ _ e s' I2 hq'
 | ok fl=>
   cases fl with
   | ret u=>
     obtain ⟨v,H',I3,rv,ev,q3⟩:=I2.after hq'
     subst ev
     exact ⟨rv,⟨V.ref (s.heap.objs.size+1),H',I3,rfl,q3⟩⟩
   | next=>exact o7 hq'
   | brk=>exact o7 hq'
   | cont=>exact o7 hq'
theorem Wu (M:Mk X.K C f) (F:bf X.prog X.w X.K X.mg X.base CX k f fd ps sp) (hr:iJ (k+1) X.A) (hg:Gl X x) (hm:X.mg x=some (.ref C)) (hb:Binds X.K fd ps ds) (hd:Vals Dh ds) (hx:Passes CX X E)
 (ha:PA X (e::es) t) (hdb:0#y=false:=by decide) (he:bw (e::es) X.env=(false,eval e X.env)::bw es X.env:=by rfl) (hpl:(gZ pos (bw es X.env)).any (·.1)=false:=by rfl) :
 PE X (.Call (.Name x p) (e::es) [] pos) (TF C sp Dh E t):=by
 intro pins s σ H Q I h
 refine N7 (FW I hg hm ?_ hdb)
 refine T9 (h₀:=X.base) I.ok.mod.kin M.kp (gR (ha pos pins s σ H _ I h) fun us s1 ⟨vs,H1,I1,r,q⟩=>⟨I1.Ah,?_⟩) he hpl
 exact SK M F hr hb hd hx I1 r q
end
structure aF (N P:List Str) (sc:o8):Prop where
 kind:sc.kind=.function
 co:sc.isCoroutine=false
 gen:sc.isGenerator=false
 nd:N.Nodup
 pre:N.take P.length=P
 par:∀x∈P,sc.names.lookup x=some .local∨sc.names.lookup x=some .cell
 aaV:∀y∈sc.names,y.2≠.free
theorem Ef {kindOf:Str→Option wU}:∀{binds:List (Str×aL)} {m:Str→Option aL},(∀v,(x,v)∉binds)→zW kindOf binds m x=m x
 | [],_,_=>rfl
 | (n,v)::r,m,h=>by
   unfold zW
   rw [Ef fun w hw=>h w (D3 _ hw)]
   split
   ·have:x≠n:=by rintro rfl;exact h v CV
    simp [this]
   ·rfl
theorem Ec {kindOf:Str→Option wU}:∀{binds:List (Str×aL)} {m:Str→Option aL},(∀v,(x,v)∉binds)→zX kindOf binds m x=m x
 | [],_,_=>rfl
 | (n,v)::r,m,h=>by
   unfold zX
   rw [Ec fun w hw=>h w (D3 _ hw)]
   split
   ·rfl
   ·have:x≠n:=by rintro rfl;exact h v CV
    simp [this]
theorem Ed {kindOf:Str→Option wU}:∀{P:List Str} {vs:List aL} {i:Nat} {m:Str→Option aL},P.Nodup→P[i]?=some x→vs[i]?=some v→kindOf x=some .local →
 zW kindOf (P.zip vs) m x=some v
 | [],_,_,_,_,h,_,_=>by simp at h
 | _::_,[],_,_,_,_,h,_=>by simp at h
 | p::P,w::vs,0,m,nd,h1,h2,hk=>by
   simp at h1 h2;subst h1;subst h2
   show zW kindOf ((p,w)::P.zip vs) m p=_
   unfold zW
   rw [Ef fun v hv=>(Oh.mp nd).1 (Ul hv).1,if_pos hk]
   simp
 | p::P,w::vs,i+1,m,nd,h1,h2,hk=>by
   show zW kindOf ((p,w)::P.zip vs) m x=_
   unfold zW
   exact Ed (i:=i) (Oh.mp nd).2 (by simpa using h1) (by simpa using h2) hk
theorem Eb {kindOf:Str→Option wU}:∀{P:List Str} {vs:List aL} {i:Nat} {m:Str→Option aL},P.Nodup→P[i]?=some x→vs[i]?=some v→kindOf x≠some .local →
 zX kindOf (P.zip vs) m x=some v
 | [],_,_,_,_,h,_,_=>by simp at h
 | _::_,[],_,_,_,_,h,_=>by simp at h
 | p::P,w::vs,0,m,nd,h1,h2,hk=>by
   simp at h1 h2;subst h1;subst h2
   show zX kindOf ((p,w)::P.zip vs) m p=_
   unfold zX
   rw [Ec fun v hv=>(Oh.mp nd).1 (Ul hv).1,if_neg hk]
   simp
 | p::P,w::vs,i+1,m,nd,h1,h2,hk=>by
   show zX kindOf ((p,w)::P.zip vs) m x=_
   unfold zX
   exact Eb (i:=i) (Oh.mp nd).2 (by simpa using h1) (by simpa using h2) hk
def start (N:List Str) (vs:List V):St:=vs.map some++kB (N.length-vs.length) none
def OJ (CX:Vc) (P:jk) (w:eG) (K:bZ) (mg:Str→Option aL) (base:cJ) (N:List Str) (qual:Str) (scope:o8) (f:av) (cd:aL) (A:nN) (outer:List Env) (s:bq) (H:Hp) (E:XK):Cx where
 prog:=P
 w:=w
 K:=K
 mg:=mg
 base:=base
 A:=A.deeper (wW qual scope s.heap.objs.size f cd)
 N:=N
 s₀:=s
 H₀:=H
 env:=wW qual scope s.heap.objs.size f cd
 outer:=outer
 stack:=wW qual scope s.heap.objs.size f cd::outer
 ex:=[]
 calm:=true
 fn:=fun _=>true
 pn:=[]
 xe:=fun e s'=>b8 (model P w) (A.deeper (wW qual scope s.heap.objs.size f cd)) (leaving (wW qual scope s.heap.objs.size f cd) e) (fun _ s''=>CX outer H s E e s'') (fun e' s''=>CX outer H s E e' s'') s'
theorem Ig {sc:o8} (h:sc.names.lookup x=some .cell):∃c,(cellsFrom n sc.names []).lookup x=some c:=by
 have q:=XU sc.names n [] (.inl h)
 exact NQ.mp q
theorem O8 {K:bZ}
 (S:aF N ps scope) (hd:A.handled=none) (e0:Kv P w K mg base A outer s H) (hl:vs.length=ps.length) (r:Vals vs us)
 (x:InCallC s s.heap.objs.size (zW (wW qual scope s.heap.objs.size f cd).kindOf (ps.zip us) fun _=>none) (cellsFrom (s.heap.objs.size+1) scope.names []) (zX (wW qual scope s.heap.objs.size f cd).kindOf (ps.zip us) fun _=>none) s1) :
 Inv (OJ CX P w K mg base N qual scope f cd A outer s H E) [] (start N vs) H s1:=by
 have hpl:ps.length≤N.length:=by have:=congrArg tT S.pre;rw [wZ] at this;simp?
 obtain ⟨h1,tk,rfl,hk⟩:=x.done
 have noA:∀b:av,b∉(OJ CX P w K mg base N qual scope f cd A outer s H E).ex:=fun b z=>absurd (show b∈([]:List av) from z) 0#e
 refine ⟨⟨e0.mod,S.kind,rfl,rfl,dz _,fun y z c h1 h2=>?_,fun y hy=>?_,fun y c _ h=>?_,fun _=>hd,Around.frames_deeper e0.frames,.inr ⟨rfl,rfl⟩,fun b z=>absurd z (noA b),e0.bs,e0.OF,fun b _ _=>noA b,fun b z=>absurd z (noA b),e0.z6,e0.frf⟩,
  rfl,e0.bare,Un.kept hk,⟨_,x.toInCall.ns,fun i y v h1 h2 h3=>?_⟩,fun y c h=>⟨_,x.cell y c h⟩,e0.hok.fresh (dz _),fun y c h=>?_,fun p hp=>absurd (show p∈([]:List (av×Obj)) from hp) 0#e,e0.hok.kept hk,?_⟩
 ·exact name_of_addr x.apart (JY h1) (JY h2)
 ·have hy:scope.names.lookup y=some .cell∨scope.names.lookup y=some .free:=hy
  rcases hy with hy | hy
  ·exact Ig hy
  ·exact absurd rfl (S.aaV _ (JY hy))
 ·exact tS (x.above y c (JY h))
 ·have hi:i<vs.length:=by
   unfold start at h2
   by_cases hi:i<vs.length
   ·exact hi
   ·rw [yO (by simpa using hi)] at h2
    rw [TZ] at h2
    split at h2 <;> cases h2
  have ha:vs[i]?=some v:=by
   unfold start at h2
   rw [wX (by simpa using hi),dm] at h2
   cases e:vs[i]? with
   | none=>rw [e] at h2;cases h2
   | some a=>rw [e] at h2;cases h2;rfl
  obtain ⟨u,hu,rv⟩:=r.get ha
  have hp:ps[i]?=some y:=by
   rw [← S.pre,List.getElem?_take_of_lt 0#c];exact h1
  have ndP:ps.Nodup:=by rw [← S.pre];exact S.nd.sublist (CW _ _)
  refine ⟨u,rv,?_⟩
  rcases S.par y (mY hp) with k | k
  ·exact .inl ⟨k,Ed ndP hp hu k⟩
  ·obtain ⟨c,e⟩:=Ig (n:=s.heap.objs.size+1) k
   refine .inr ⟨.inl k,c,e,?_⟩
   have q:=x.cell y c e
   rw [Eb ndP hp hu (by show scope.names.lookup y≠_;rw [k];decide)] at q
   exact q
 ·exact e0.hok.fresh (tS (x.above y c (JY h)))
 ·unfold start
  show _=N.length
  rw [fq,gJ,EJ]
  simp?
theorem ab8 {CX:Vc} {P:jk} {w:eG} {K:bZ} {mg:Str→Option aL} {base:cJ} {k:Nat} {f:av} {name qual:Str} {body:List aT} {scope:o8} {dV kV doc pm cdv ct oc:aL} {an od:Option av}
 {osl:Array (Option aL)} {N ps:List Str} {sp:Sp} (lk:K.lookup f=some ⟨oc,od,.func (sI name qual params body scope dV kV doc pm an cdv ct),osl⟩) (hcd:wN K cdv qual=true) (S:aF N ps scope)
 (len:∀vs H Q E,sp vs H Q E→vs.length=ps.length)
 (hbody:∀(A:nN) (outer:List Env) (s:bq) (H:Hp) (vs:List V) (Q:VK) (E:XK),iJ k (A.deeper (wW qual scope s.heap.objs.size f cdv))→sp vs H Q E →
   ∃t,Ky (OJ CX P w K mg base N qual scope f cdv A outer s H E) body t∧t { nx:=fun _ H'=>Q .bM H',rt:=Q } (start N vs) H) :
 bf P w K mg base CX (k+1) f (sI name qual params body scope dV kV doc pm an cdv ct) ps sp:=by
 refine ⟨len,fun A outer s H args us vs Q E hr e0 hb r Xk=>?_⟩
 have hl:=len _ _ _ _ Xk
 have KX:K.In s.heap:=e0.mod.kin.keeps fun b o e=>(e0.bs b o e).1
 have lim:s.heap.NoLimit:=e0.mod.nolimit.keeps fun b o e=>(e0.bs b o e).1
 have hkind:∀y∈ps.zip us,scope.names.lookup y.1=some .local∨(scope.names.lookup y.1=some .cell∧((cellsFrom (s.heap.objs.size+1) scope.names []).lookup y.1).isSome=true):=fun ⟨n,v⟩ hy=>by
  rcases S.par n (Ul hy).1 with q | q
  ·exact .inl q
  ·exact .inr ⟨q,XU _ _ _ (.inl q)⟩
 refine codeAny_call_function hr.depth (KX _ _ lk) rfl S.co S.gen rfl (PySem.W.codeRec_of KX hcd) (hb _ _ _ _ ?_)
 refine wpAny_newFunctionEnv_cells S.kind hkind fun env he s1 x=>?_
 subst he
 refine ⟨lim.keeps x.toInCall.keep,codeAny_func ?_⟩
 obtain ⟨t,ht,hq⟩:=hbody A outer s H vs Q E (hr.deeper _) Xk
 have I:Inv (OJ CX P w K mg base N qual scope f cdv A outer s H E) [] (start N vs) H s1:=O8 S hr.hd e0 hl r x
 refine o6 (ht [] s1 (start N vs) H _ I hq) (fun fl s' hs=>?_) fun e s' hs=>hs
 have fin:∀{σ':St} {H':Hp} {v:V} {u:aL},Inv (OJ CX P w K mg base N qual scope f cdv A outer s H E) [] σ' H' s'→RelV v u→Q v H'→CE outer P w H s Q u s':=
  fun {σ' H' v u} J rv q=>⟨v,H',J.os,J.bare,J.base,J.hok,rv,q⟩
 cases fl with
 | ret u=>
   obtain ⟨v,σ',H',J,rv,q⟩:=hs
   exact fin J rv q
 | next=>
   obtain ⟨σ',H',J,q⟩:=hs
   exact fin (v:=V.bM) (u:=Value.none) J rfl q
 | brk=>
   obtain ⟨_,_,_,q⟩:=hs
   exact o7 q
 | cont=>
   obtain ⟨_,_,_,q⟩:=hs
   exact o7 q
section
def tCB (r:List V→Hp→VK→Prop) (t:TA):TE:=fun σ H Q=>t σ H fun vs H1=>r vs H1 Q
theorem vP {X:Cx} {x:Str} {p pos:Pos} {e:bg} {es:List bg} {t:TA} {id:String} {r:List V→Hp→VK→Prop} (hc:ja X (.builtin id) r) (hg:Gl X x) (hm:X.mg x=none) (hv:uf x=some (.builtin id)) (ha:PA X (e::es) t) (hn:x ≠ "__name__":=by decide) (hdb:0#y=false:=by decide)
 (he:bw (e::es) X.env=(false,eval e X.env)::bw es X.env:=by rfl) (hpl:(gZ pos (bw es X.env)).any (·.1)=false:=by rfl):PE X (.Call (.Name x p) (e::es) [] pos) (tCB r t):=by
 intro pins s σ H Q I h
 refine N7 (uH I hg hm hv ?_ hn hdb)
 exact adL (gR (ha pos pins s σ H _ I h) fun us s1 ⟨vs,H1,I1,r1,q1⟩=>hc pins s1 σ H1 vs us Q I1 r1 q1) he hpl
theorem oU {X:Cx} {x:Str} {p pos:Pos} {e:bg} {es:List bg} {t:TA} {T:String} {r:List V→Hp→VK→Prop} (hc:ja X (.type T) r) (hg:Gl X x) (hm:X.mg x=none) (hv:uf x=some (.type T)) (ha:PA X (e::es) t) (hn:x ≠ "__name__":=by decide) (hdb:0#y=false:=by decide)
 (he:bw (e::es) X.env=(false,eval e X.env)::bw es X.env:=by rfl) (hpl:(gZ pos (bw es X.env)).any (·.1)=false:=by rfl):PE X (.Call (.Name x p) (e::es) [] pos) (tCB r t):=by
 intro pins s σ H Q I h
 refine N7 (uH I hg hm hv ?_ hn hdb)
 exact JS (gR (ha pos pins s σ H _ I h) fun us s1 ⟨vs,H1,I1,r1,q1⟩=>hc pins s1 σ H1 vs us Q I1 r1 q1) he hpl
end
end L2
namespace HT
open PySem PyProof.Rows
section
theorem Vp (ht:IsTup s.heap t vs.toArray) (hb:IsTup s.heap b ws.toArray) (hv:vs≠[])
 (h1:ws=[]→Q (.ref t) s) (h2:ws≠[]→Q (.ref s.heap.objs.size) { s with heap:=s.heap.push { cls:=.type "tuple",data:=.seq (vs++ws).toArray } })
 (hsz:vs.length+ws.length≤sizeLine):b8 (model prog w) A (nJ .Add (.ref t) (.ref b)) Q E s:=by
 obtain ⟨⟨cls,dd,data,sl⟩,ho,hc,n,hd⟩:=id ht
 obtain ⟨⟨afM,dd2,data2,sl2⟩,ho2,hc2,n2,hd2⟩:=id hb
 simp only at hc hd hc2 hd2
 subst hc hd hc2 hd2
 have e:vs.toArray++ws.toArray=(vs++ws).toArray:=by simp
 by_cases hw:ws=[]
 ·exact concat_meets ⟨_,ho,rfl⟩ ⟨_,ho2,rfl⟩ YK Zc XW XR (XN _ _)
   (tuple_addW1 t b vs.toArray ws.toArray n n2 dd dd2 sl sl2 (by simpa using hv) (by simp [hw])) ⟨ho,ho2,h1 hw⟩
 ·refine concat_meets ⟨_,ho,rfl⟩ ⟨_,ho2,rfl⟩ YK Zc XW XR (XN _ _)
   (tuple_addW2 t b vs.toArray ws.toArray n n2 dd dd2 sl sl2 (by simpa using hv) (by simpa using hw) (by rw [jG,jG];exact hsz)) ⟨ho,ho2,?_⟩
  rw [e]
  exact h2 hw
def GW (n d:Nat):Option Int→Nat
 | none=>d
 | some v=>if v<0 then (v+(n:Int)).toNat else min v.toNat n
theorem AL (n d k:Nat):GW n d (some (k:Int))=min k n:=by
 show (if (k:Int)<0 then ((k:Int)+(n:Int)).toNat else min (k:Int).toNat n)=min k n
 rw [if_neg 0#c,Ud]
end
end HT
namespace L2
open PySem PySem.Spec PyProof.Rows
abbrev TO:=St→Hp→(Option Int→Hp→Prop)→Prop
def PO (X:Cx) (e:Option bg) (t:TO):Prop:=
 ∀(pins:List (av×Obj)) (s:bq) (σ:St) (H:Hp) (Q:Option Int→Hp→Prop),Inv X pins σ H s→t σ H Q →
  b8 0#o X.A (evalPart e X.env) (fun u s'=>∃o H',Inv X pins σ H' s'∧IsPart u o∧Q o H') X.xe s
def HC:TO:=fun _ H Q=>Q none H
def TM (t:TE):TO:=fun σ H Q=>t σ H fun x H1=>∃i,x=.int i∧Q (some i) H1
theorem intsAre_of:∀{us:List aL},Vals (ns.map V.int) us→Dc us ns:=by
 induction ns with
 | nil=>intro us r;rw [Uy] at r;cases r;exact .nil
 | cons n ns ih=>
   intro us r
   rw [C5] at r
   cases r with
   | cons r1 r2=>
     obtain ⟨t,e⟩:=r1
     subst e
     exact .cons n t (ih r2)
section
theorem GD {X:Cx}:PO X none HC:=by
 intro pins s σ H Q I h
 rw [Zd]
 exact m8 ⟨none,H,I,.none,h⟩
theorem GG {X:Cx} {e:bg} {te:TE} (h:PE X e te):PO X (some e) (TM te):=by
 intro pins s σ H Q I hw
 rw [evalPart_some]
 refine gR (h pins s σ H _ I hw) fun u s1 ⟨x,H1,I1,r1,q1⟩=>?_
 obtain ⟨i,rfl,q⟩:=q1
 obtain ⟨t,rfl⟩:=r1
 exact ⟨some i,H1,I1,.int i t,q⟩
def SlR (X:Cx) (r:V→Option Int→Option Int→Hp→VK→Prop):Prop:=
 ∀(pins:List (av×Obj)) (s:bq) (σ:St) (H:Hp) (x:V) (v vl vu:aL) (lo hi:Option Int) (sl:av) (Q:VK),Inv X pins σ H s→RelV x v→s.heap.IsSliceOf sl vl vu .none→IsPart vl lo→IsPart vu hi→r x lo hi H Q →
  ∃T id,typeLookup (.type T) "__getitem__"=pure (some (.builtin id))∧s.TypeIs v T∧b8 0#o X.A (getItem v (.ref sl)) (EP X pins σ Q) X.xe s
def tSl (r:V→Option Int→Option Int→Hp→VK→Prop) (te:TE) (tl th:TO):TE:=fun σ H Q=>te σ H fun x H1=>tl σ H1 fun l H2=>th σ H2 fun u H3=>r x l u H3 Q
theorem B3 {X:Cx} {e:bg} {te:TE} {lo hi:Option bg} {tl th:TO} {pos p2:Pos} {r:V→Option Int→Option Int→Hp→VK→Prop} (hr:SlR X r) (he:PE X e te) (hl:PO X lo tl) (hu:PO X hi th):PE X (.Subscript e (.Slice lo hi none p2) pos) (tSl r te tl th):=by
 intro pins s σ H Q I h
 refine Subscript_ (gR (he pins s σ H _ I h) fun v s1 ⟨x,H1,I1,r1,q1⟩=>?_)
 refine wpAny_Slice (gR (hl pins s1 σ H1 _ I1 q1) fun vl s2 ⟨l,H2,I2,pl,q2⟩=>gR (hu pins s2 σ H2 _ I2 q2) fun vu s3 ⟨u,H3,I3,pu,q3⟩=>?_)
 rw [Zd]
 refine m8 ?_
 have I4:Inv X pins σ H3 { s3 with heap:=s3.heap.push { cls:=.type "slice",data:=.fields #[vl,vu,.none] } }:=I3.kept (t':=s3.toks) fun b ob q=>oF _ q
 obtain ⟨T,id,hT,ht,hg⟩:=hr pins { s3 with heap:=s3.heap.push { cls:=.type "slice",data:=.fields #[vl,vu,.none] } } σ H3 x v vl vu l u s3.heap.objs.size Q I4 r1 (aes ..) pl pu q3
 show b8 0#o X.A (subscriptTail e (.Slice lo hi none p2) v (.ref s3.heap.objs.size)) (EP X pins σ Q) X.xe { s3 with heap:=s3.heap.push { cls:=.type "slice",data:=.fields #[vl,vu,.none] } }
 exact tail_any (ops:=[.ref s3.heap.objs.size,v]) ht hT hg (by with_unfolding_all rfl)
def jS (xs:List V) (lo hi:Option Int):List V:=(xs.drop (HT.GW xs.length 0 lo)).take (HT.GW xs.length xs.length hi-HT.GW xs.length 0 lo)
theorem Il (xs:List V) (lo hi:Option Int):(jS xs lo hi).length≤xs.length:=by
 unfold jS
 rw [wZ,iP]
 simp?
def Sv (K:bZ):R2:=fun x y H Q=>∃a b xs ys,x=.ref a∧y=.ref b∧tG K H a xs∧tG K H b ys∧xs≠[]∧xs.length+ys.length≤sizeLine ∧
 (ys=[]→Q (.ref a) H)∧(ys≠[]→∀p,H p=none→Q (.ref p) (upd H p (.tup (xs++ys))))
theorem Vals.Gd (r:Vals xs us):us=[]↔xs=[]:=by
 cases r with
 | nil=>simp
 | cons _ _=>simp
theorem Wo:qR X (nJ .Add) (Sv X.K):=by
 intro pins s σ H x y v u Q I rx ry h
 obtain ⟨a,b,xs,ys,rfl,rfl,ha,hb,hx,hz,q1,q2⟩:=h
 cases rx
 cases ry
 obtain ⟨its,r1,p1,_⟩:=I.tuple ha
 obtain ⟨its2,r2,p2,_⟩:=I.tuple hb
 refine HT.Vp p1 p2 (fun z=>hx (r1.Gd.mp z)) (fun z=>⟨.ref a,H,I,rfl,q1 (r2.Gd.mp z)⟩) (fun z=>?_) (by rw [← r1.length,← r2.length];exact hz)
 refine ⟨.ref s.heap.objs.size,_,I.laid (t':=s.toks) (o:=.tup (xs++ys)) (fun b ob q=>oF _ q) (dz _) ?_,rfl,q2 (fun w=>z (r2.Gd.mpr w)) _ (I.hok.fresh (dz _))⟩
 exact ⟨by rw [fq];exact hz,_,r1.append r2,UQ _ _⟩
end
def Qd (n:Nat) (i:Int):Option Nat:=if 0≤i then (if i<n then some i.toNat else none) else if -(n:Int)≤i then some (i+n).toNat else none
def pM {α:Type} (xs:List α) (i:Int):Option α:=(Qd xs.length i).bind fun j=>xs[j]?
theorem Nl (h:Qd n i=some j):seqIndex? i n=some j∧j<n∧-(n:Int)≤i∧i<n:=by
 unfold Qd at h
 by_cases h0:0≤i
 ·rw [if_pos h0] at h
  by_cases h1:i<n
  ·rw [if_pos h1] at h
   have e:i.toNat=j:=xg h
   exact ⟨by rw [UG h0 h1,e],by simp?,by simp?,h1⟩
  ·rw [if_neg h1] at h;cases h
 ·rw [if_neg h0] at h
  by_cases h1:-(n:Int)≤i
  ·rw [if_pos h1] at h
   have e:(i+n).toNat=j:=xg h
   exact ⟨by rw [Uz 0#c h1,e],by simp?,h1,by simp?⟩
  ·rw [if_neg h1] at h;cases h
theorem MW (h:pM xs i=some v):∃j,seqIndex? i xs.length=some j∧xs[j]?=some v∧j<xs.length∧-(xs.length:Int)≤i∧i<xs.length:=by
 unfold pM at h
 cases e:Qd xs.length i with
 | none=>rw [e] at h;cases h
 | some j=>
   rw [e] at h
   obtain ⟨h1,h2,h3,h4⟩:=Nl e
   exact ⟨j,h1,h,h2,h3,h4⟩
theorem gK {j:Nat} (h:xs[j]?=some v):pM xs (j:Int)=some v:=by
 have hj:j<xs.length:=(lR.mp h).1
 have e:Qd xs.length (j:Int)=some j:=by
  unfold Qd
  rw [if_pos 0#c,if_pos 0#c];simp
 unfold pM;rw [e];exact h
def MU (b:bg):Prop:=∀o i,subscripted b false o i=operate [o,i] (getItem o i)
def IxR (X:Cx) (r:R2):Prop:=
 ∀(value slice:bg) (pins:List (av×Obj)) (s:bq) (σ:St) (H:Hp) (x y:V) (v u:aL) (Q:VK),Inv X pins σ H s→RelV x v→RelV y u→r x y H Q →
  subscripted slice false v u=operate [v,u] (getItem v u)→b8 0#o X.A (subscriptTail value slice v u) (EP X pins σ Q) X.xe s
def MtR (X:Cx) (id:String) (r:V→List V→Hp→VK→Prop):Prop:=
 ∀(pins:List (av×Obj)) (s:bq) (σ:St) (H:Hp) (x:V) (xs:List V) (v:aL) (us:List aL) (Q:VK),Inv X pins σ H s→RelV x v→Vals xs us→r x xs H Q →
  b8 0#o X.A (call (.builtin id) (v::us)) (EP X pins σ Q) X.xe s
section
variable {X:Cx} {a b:bg} {ta tb:TE} {pos:Pos}
theorem Jv {r:R2} (hr:IxR X r) (ha:PE X a ta) (hb:PE X b tb) (hs:MU b):PE X (.Subscript a b pos) (TL r ta tb):=by
 intro pins s σ H Q I h
 exact Subscript_ (ZX ha hb I h fun v u s2 x y H2 I2 rx ry q=>hr a b pins s2 σ H2 x y v u Q I2 rx ry q (hs _ _))
def WC (K:bZ):R2:=fun x y H Q=>∃p xs i v,x=.ref p∧y=.int i∧aX K H p xs∧pM xs i=some v∧Q v H
def Me (K:bZ):R2:=fun x y H Q=>∃p xs i v,x=.ref p∧y=.int i∧tG K H p xs∧pM xs i=some v∧Q v H
theorem V3:IxR X (WC X.K):=by
 intro value slice pins s σ H x y v u Q I rx ry h hs
 obtain ⟨p,xs,i,z,rfl,rfl,hq,he,q⟩:=h
 cases rx
 obtain ⟨t,rfl⟩:=ry
 obtain ⟨its,r,pl,hz⟩:=I.list hq
 obtain ⟨j,h1,h2,h3,h4,h5⟩:=MW he
 obtain ⟨w,ew,rw'⟩:=r.get h2
 have hl:=r.length
 have hn:=FY
 have fin:EP X pins σ Q w s:=⟨z,H,I,rw',q⟩
 by_cases h0:0≤i
 ·have hj:i.toNat=j:=by
   rw [UG h0 h5] at h1
   exact xg h1
  exact item_listR pl.isList h0 0#c (by rw [hj];simpa using ew) fin hs
 ·have hj:(i+(its.toArray.size:Int)).toNat=j:=by
   rw [Uz 0#c h4] at h1
   rw [jG,← hl]
   exact xg h1
  exact XX (x:=w) pl.isList.typeIs YB.lookup
   (wpAny_getItem_list_neg (Q:=fun r s'=>r=w∧EP X pins σ Q r s') pl.isList 0#c (by rw [jG] <;> simp?) 0#c (by rw [hj];simpa using ew) ⟨rfl,fin⟩) hs
theorem aaD:IxR X (Me X.K):=by
 intro value slice pins s σ H x y v u Q I rx ry h hs
 obtain ⟨p,xs,i,z,rfl,rfl,hq,he,q⟩:=h
 cases rx
 obtain ⟨t,rfl⟩:=ry
 obtain ⟨its,r,pl,hz⟩:=I.tuple hq
 obtain ⟨j,h1,h2,h3,h4,h5⟩:=MW he
 obtain ⟨w,ew,rw'⟩:=r.get h2
 have hl:=r.length
 have hn:=FY
 have fin:EP X pins σ Q w s:=⟨z,H,I,rw',q⟩
 exact XX (x:=w) pl.typeIs slot_tuple_getitem.lookup
  (getItem_tuple (j:=j) (Q:=fun r s'=>r=w∧EP X pins σ Q r s') pl 0#c 0#c (by rw [jG,← hl];exact h1) (by simpa using ew) ⟨rfl,fin⟩) hs
theorem Lh (its:List aL) (n j:Nat) (u:aL):Kg (·.setIfInBounds j u) { cls:=.type "list",data:=.seq its.toArray n }={ cls:=.type "list",data:=.seq (its.set j u).toArray n }:=by
 simp [Kg]
theorem Inv.lst {pins:List (av×Obj)} {σ:St} {H:Hp} {s:bq} {p:av} {xs:List V} (I:Inv X pins σ H s) (h:H p=some (.lst xs)) :
 ∃(its:List aL) (n:Nat),Vals xs its∧s.heap.get? p=some { cls:=.type "list",data:=.seq its.toArray n }∧xs.length≤sizeLine:=by
 obtain ⟨z,its,n,r,e⟩:=I.hok p _ h
 exact ⟨its,n,r,e,z⟩
theorem Inv.aaO {σ:St} {its:List aL} (I:Inv X pins σ H s) (h:H p=some (.lst xs))
 (ho:s.heap.get? p=some { cls:=.type "list",data:=.seq its.toArray n }) (hf:f { cls:=.type "list",data:=.seq its.toArray n }={ cls:=.type "list",data:=.seq its'.toArray n' }) (r:Vals ys its') (hz:ys.length≤sizeLine) (t:Nat) :
 Inv X pins σ (upd H p (.lst ys)) { s with heap:=s.heap.update p f,toks:=t }:=by
 have e:(s.heap.update p f).get? p=some { cls:=.type "list",data:=.seq its'.toArray n' }:=by
  rw [Heap.get?_update_self f ho (by rw [hf] <;> rfl),hf]
 refine I.write (x:=p) (e:=p) (by rw [h];trivial) (.inl rfl) (fun b u hb q=>(XY _ _ (jn hb)).trans q) ⟨_,e⟩ ?_
 exact ⟨hz,its',n',r,e⟩
def Xy:V→V→V→Hp→(Hp→Prop)→Prop:=fun o i v H Q=>∃p xs k j,o=.ref p∧i=.int k∧H p=some (.lst xs)∧Qd xs.length k=some j∧Q (upd H p (.lst (xs.set j v)))
theorem set_list:ZS X Xy:=by
 intro pins s σ H o i v ov iv u Q I ro ri rv h
 obtain ⟨p,xs,k,j,rfl,rfl,hp,hj,q⟩:=h
 cases ro
 obtain ⟨t,rfl⟩:=ri
 obtain ⟨its,n,r,ho,hz⟩:=I.lst hp
 obtain ⟨h1,h2,h3,h4⟩:=Nl hj
 have hl:=r.length
 have hn:=FY
 have I':Inv X pins σ (upd H p (.lst (xs.set j v))) { s with heap:=s.heap.update p (Kg (·.setIfInBounds j u)) }:=
  I.aaO hp ho (Lh its n j u) (r.set rv j) (by rw [List.length_set];exact hz) s.toks
 by_cases h0:0≤k
 ·have hk:k.toNat=j:=by
   rw [UG h0 h4] at h1
   exact xg h1
  exact PySem.W.ki_setAt ho h0 0#c (by rw [jG,← hl];exact h4) (by rw [hk];exact ⟨_,I',q⟩)
 ·have hk:(k+(its.toArray.size:Int)).toNat=j:=by
   rw [Uz 0#c h3] at h1
   rw [jG,← hl]
   exact xg h1
  exact PySem.W.ki_setBack ho 0#c (by rw [jG,← hl];exact h3) 0#c (by rw [hk];exact ⟨_,I',q⟩)
theorem Hh (lo hi:Option Int) (n:Nat):(C8 lo hi none n).1=((HT.GW n 0 lo:Nat):Int)∧(C8 lo hi none n).2.1=((HT.GW n n hi:Nat):Int)∧(C8 lo hi none n).2.2=1:=by
 refine ⟨?_,?_,rfl⟩
 ·cases lo with
  | none=>simp [C8,HT.GW]
  | some i=>
    simp only [C8,HT.GW,YL,show (1:Int)>0 by decide,if_true]
    by_cases h:i<0
    ·simp only [h,if_true] <;> simp?
    ·simp only [h,if_false] <;> simp?
 ·cases hi with
  | none=>simp [C8,HT.GW]
  | some i=>
    simp only [C8,HT.GW,YL,show (1:Int)>0 by decide,if_true]
    by_cases h:i<0
    ·simp only [h,if_true] <;> simp?
    ·simp only [h,if_false] <;> simp?
theorem DY (its:List aL) (lo hi:Option Int):slicePick its.toArray lo hi none=((its.drop (HT.GW its.length 0 lo)).take (HT.GW its.length its.length hi-HT.GW its.length 0 lo)).toArray:=by
 obtain ⟨h1,h2,h3⟩:=Hh lo hi its.toArray.size
 unfold slicePick
 rw [h1,h2,h3]
 simp only [sliceRange_one,pick_run,jG] <;> rfl
def aa7 (K:bZ):V→Option Int→Option Int→Hp→VK→Prop:=fun x lo hi H Q=>∃a xs,x=.ref a∧aX K H a xs∧∀p,H p=none→Q (.ref p) (upd H p (.lst (jS xs lo hi)))
theorem WR:SlR X (aa7 X.K):=by
 intro pins s σ H x v vl vu lo hi sl Q I rx hs pl pu h
 obtain ⟨a,xs,rfl,hx,q⟩:=h
 cases rx
 obtain ⟨its,r,ht,hz⟩:=I.list hx
 have hlen:=r.length
 refine ⟨"list",_,YB.lookup,ht.isList.typeIs,?_⟩
 refine wpAny_getItem_list_slice ht.isList hs pl pu .none 0#e ?_ (by rw [jG] <;> simp?)
 rw [DY,← hlen]
 refine ⟨.ref s.heap.objs.size,_,I.laid (t':=s.toks) (o:=.lst (jS xs lo hi)) (fun b ob q=>oF _ q) (dz _) ?_,rfl,q _ (I.hok.fresh (dz _))⟩
 exact ⟨eE (Il xs lo hi) hz,_,0,(r.drop (HT.GW xs.length 0 lo)).take (HT.GW xs.length xs.length hi-HT.GW xs.length 0 lo),D4 _ rfl⟩
def yY:V→Bool
 | .bM=>true
 | .bl _=>true
 | .int _=>true
 | .str _=>true
 | _=>false
def UY:V→V→Bool
 | .bM,.bM=>true
 | .bl a,.bl b=>a==b
 | .bl a,.int b=>(if a then 1 else 0)==b
 | .int a,.bl b=>a==(if b then 1 else 0)
 | .int a,.int b=>a==b
 | .str a,.str b=>a==b
 | _,_=>false
theorem aac (ry:RelV y u) (rx:RelV x v) (fy:yY y=true) (fx:yY x=true):ZG A s u v (UY y x):=by
 cases y with
 | bM=>
   cases ry
   cases x with
   | bM=>cases rx;exact aex _
   | bl b=>cases rx;exact aed b
   | int b=>obtain ⟨t,rfl⟩:=rx;exact aei b t
   | str b=>obtain ⟨t,rfl⟩:=rx;exact aej b t
   | _=>exact absurd (show false=true from fx) dD
 | bl a=>
   cases ry
   cases x with
   | bM=>cases rx;exact aee a
   | bl b=>cases rx;exact aef a b
   | int b=>obtain ⟨t,rfl⟩:=rx;exact aek a b t
   | str b=>obtain ⟨t,rfl⟩:=rx;exact ael a b t
   | _=>exact absurd (show false=true from fx) dD
 | int a=>
   obtain ⟨t',rfl⟩:=ry
   cases x with
   | bM=>cases rx;exact aem a t'
   | bl b=>cases rx;exact aen a t' b
   | int b=>obtain ⟨t,rfl⟩:=rx;exact aet a t' b t
   | str b=>obtain ⟨t,rfl⟩:=rx;exact Yo a t' b t
   | _=>exact absurd (show false=true from fx) dD
 | str a=>
   obtain ⟨t',rfl⟩:=ry
   cases x with
   | bM=>cases rx;exact aeo a t'
   | bl b=>cases rx;exact aep a t' b
   | int b=>obtain ⟨t,rfl⟩:=rx;exact Yp a t' b t
   | str b=>obtain ⟨t,rfl⟩:=rx;exact aeu a t' b t
   | _=>exact absurd (show false=true from fx) dD
 | _=>exact absurd (show false=true from fy) dD
def Vz (x:V) (u:aL):Bool:=match u with
 | .none=>UY .bM x
 | .bool b=>UY (.bl b) x
 | .int i _=>UY (.int i) x
 | .str z _=>UY (.str z) x
 | _=>false
theorem QZ (r:RelV y u) (f:yY y=true):Vz x u=UY y x:=by
 cases y with
 | bM=>cases r;rfl
 | bl b=>cases r;rfl
 | int i=>obtain ⟨t,rfl⟩:=r;rfl
 | str z=>obtain ⟨t,rfl⟩:=r;rfl
 | _=>exact absurd (show false=true from f) dD
theorem E6:∀{xs:List V} {us:List aL},Vals xs us→xs.all yY=true→us.any (Vz x)=xs.any fun y=>UY y x
 | _,_,.nil,_=>rfl
 | y::xs,u::us,.cons r t,f=>by
   rw [Oo,CZ] at f
   rw [Ze,Ze,QZ r f.1,E6 t f.2]
theorem BH (rx:RelV x v) (fx:yY x=true):∀{xs:List V} {us:List aL},Vals xs us→xs.all yY=true→∀u∈us,ZG A s u v (Vz x u)
 | _,_,.nil,_=>fun u hu=>by cases hu
 | y::xs,u::us,.cons r t,f=>fun u' hu=>by
   rw [Oo,CZ] at f
   rcases qv.mp hu with rfl | hu
   ·rw [QZ r f.1];exact aac r rx f.1 fx
   ·exact BH rx fx t f.2 u' hu
def inV (x:V) (xs:List V):Bool:=xs.any fun y=>UY y x
def rIn (K:bZ) (neg:Bool):R2:=fun x y H Q=>∃p xs,y=.ref p∧(aX K H p xs∨tG K H p xs)∧yY x=true∧xs.all yY=true∧Q (.bl (if neg then !inV x xs else inV x xs)) H
theorem Px:qR X (qw .In) (rIn X.K false):=by
 intro pins s σ H x y v u Q I rx ry h
 obtain ⟨p,xs,rfl,hq,fx,fs,q⟩:=h
 cases ry
 rcases hq with hq | hq
 ·obtain ⟨its,r,pl,hz⟩:=I.list hq
  refine SeqAt.in_listAt (Vz x) pl.isList (fun w hw=>BH rx fx r fs w (by simpa using hw)) ⟨.bl _,H,I,rfl,?_⟩
  rw [show its.toArray.any (Vz x)=its.any (Vz x) by simp,E6 r fs]
  exact q
 ·obtain ⟨its,r,pl,hz⟩:=I.tuple hq
  refine SeqAt.in_tupleAt (Vz x) pl (fun w hw=>BH rx fx r fs w (by simpa using hw)) ⟨.bl _,H,I,rfl,?_⟩
  rw [show its.toArray.any (Vz x)=its.any (Vz x) by simp,E6 r fs]
  exact q
theorem Fc:ja X (.builtin "len") (fun xs H Q=>∃p ys,xs=[.ref p]∧(aX X.K H p ys∨tG X.K H p ys)∧Q (.int ys.length) H):=by
 intro pins s σ H xs us Q I r h
 obtain ⟨p,ys,rfl,hq,q⟩:=h
 obtain ⟨u,rfl,rx⟩:=vals1 r
 cases rx
 have hn:=FY
 rcases hq with hq | hq
 ·obtain ⟨its,r',pl,hz⟩:=I.list hq
  have hlen:=r'.length
  exact Calls.call_len_list pl.isList (by simp only [jG] <;> simp?) ⟨.int ys.length,H,I.tok _,⟨s.toks+1,by rw [jG,hlen]⟩,q⟩
 ·obtain ⟨its,r',pl,hz⟩:=I.tuple hq
  have hlen:=r'.length
  exact len_tuple pl (by simp only [jG] <;> simp?) ⟨.int ys.length,H,I.tok _,⟨s.toks+1,by rw [jG,hlen]⟩,q⟩
theorem Fd:ja X (.type "list") (fun xs H Q=>∃p ys,xs=[.ref p]∧(aX X.K H p ys∨tG X.K H p ys)∧∀l,H l=none→Q (.ref l) (upd H l (.lst ys))):=by
 intro pins s σ H xs us Q I r h
 obtain ⟨p,ys,rfl,hq,q⟩:=h
 obtain ⟨u,rfl,rx⟩:=vals1 r
 cases rx
 have fin:∀(its:List aL),Vals ys its→ys.length≤sizeLine→∀(h':cJ) (c':Nat),(∀b o',s.heap.get? b=some o'→h'.get? b=some o') →
  h'.get? s.heap.objs.size=some { cls:=.type "list",dict:=none,data:=.seq its.toArray c',slots:=#[] }→EP X pins σ Q (.ref s.heap.objs.size) { s with heap:=h' }:=fun its r' hz h' c' kp e=>
  ⟨.ref s.heap.objs.size,_,I.laid (t':=s.toks) kp (dz _) (show gA X.prog X.w _ h' _ (.lst ys) from ⟨hz,its,c',r',e⟩),rfl,q _ (I.hok.fresh (dz _))⟩
 rcases hq with hq | hq
 ·obtain ⟨its,r',pl,hz⟩:=I.list hq
  have hlen:=r'.length
  obtain ⟨o,ho,hc,n,hd⟩:=pl.isList
  exact Zf p (.inl rfl) ho hc hd (fun h' c' kp e=>fin its r' hz h' c' kp e) (by simp only [jG] <;> simp?)
 ·obtain ⟨its,r',pl,hz⟩:=I.tuple hq
  have hlen:=r'.length
  obtain ⟨o,ho,hc,n,hd⟩:=pl
  exact Zf p (.inr rfl) ho hc hd (fun h' c' kp e=>fin its r' hz h' c' kp e) (by simp only [jG] <;> simp?)
theorem Dt:ja X (.type "tuple") (fun xs H Q=>∃p ys,xs=[.ref p]∧((aX X.K H p ys∧∀l,H l=none→Q (.ref l) (upd H l (.tup ys)))∨(tG X.K H p ys∧Q (.ref p) H))):=by
 intro pins s σ H xs us Q I r h
 obtain ⟨p,ys,rfl,h⟩:=h
 obtain ⟨u,rfl,rx⟩:=vals1 r
 cases rx
 rcases h with ⟨hq,q⟩ | ⟨hq,q⟩
 ·obtain ⟨its,r',pl,hz⟩:=I.list hq
  have hlen:=r'.length
  refine call_tuple_list pl.isList (fun h' kp=>?_) (by simp only [jG] <;> simp?)
  have I1:Inv X pins σ H { s with heap:=h' }:=I.kept (t':=s.toks) kp
  have I2:Inv X pins σ (upd H h'.objs.size (.tup ys)) { s with heap:=h'.push { cls:=.type "tuple",data:=.seq its.toArray } }:=
   I1.laid (t':=s.toks) (fun b o e=>oF _ e) (dz _) (show gA X.prog X.w _ _ _ (.tup ys) from ⟨hz,its,r',UQ _ _⟩)
  exact ⟨.ref h'.objs.size,_,I2,rfl,q _ (I1.hok.fresh (dz _))⟩
 ·obtain ⟨its,r',pl,hz⟩:=I.tuple hq
  exact call_tuple_same pl ⟨.ref p,H,I,rfl,q⟩
def WY (K:bZ) (T:String) (x:V) (H:Hp):Prop:=match x with
 | .str _=>T = "str"
 | .int _=>T = "int"
 | .ref p=>(T = "list"∧∃xs,aX K H p xs)∨(T = "tuple"∧∃o,K.lookup p=some o∧o.cls=.type "tuple"∧o.dict=none) ∨
  (T = "dict"∧((∃kvs,H p=some (.dK kvs))∨∃kvs,H p=some (.dT kvs)))∨(T = "set"∧∃S n,H p=some (.set S n))
 | _=>False
theorem TR {σ:St} (I:Inv X pins σ H s) (r:RelV x v) (ty:WY X.K T x H) :
 s.TypeIs v T∧∀a,v=.ref a→∃ob,s.heap.get? a=some ob∧ob.dict=none:=by
 cases x with
 | str z=>
   obtain ⟨t,rfl⟩:=r
   cases (show T = "str" from ty)
   exact ⟨typeIs_str s z t,fun _ e=>nomatch e⟩
 | int i=>
   obtain ⟨t,rfl⟩:=r
   cases (show T = "int" from ty)
   exact ⟨UM s i t,fun _ e=>nomatch e⟩
 | ref p=>
   cases r
   rcases ty with ⟨rfl,xs,hq⟩ | ⟨rfl,o,hk,hc,hd⟩ | ⟨rfl,hk⟩ | ⟨rfl,S,n,hk⟩
   ·obtain ⟨its,_,pl,_⟩:=I.list hq
    refine ⟨pl.isList.typeIs,fun a e=>?_⟩
    cases e
    obtain ⟨o,n,e,c,hd,_⟩:=pl
    exact ⟨o,e,hd⟩
   ·refine ⟨⟨o,I.Ah p o hk,hc⟩,fun a e=>?_⟩
    cases e
    exact ⟨o,I.Ah _ o hk,hd⟩
   ·have z:∃o,s.heap.get? p=some o∧o.ExactDict:=by
     rcases hk with ⟨kvs,hk⟩ | ⟨kvs,hk⟩
     ·obtain ⟨_,_,_,_,o,_,_,e,ex,_⟩:=I.hok p _ hk
      exact ⟨o,e,ex⟩
     ·obtain ⟨_,_,_,_,o,_,_,e,ex,_⟩:=I.hok p _ hk
      exact ⟨o,e,ex⟩
    obtain ⟨o,e,ex⟩:=z
    refine ⟨⟨o,e,ex.1⟩,fun a e2=>?_⟩
    cases e2
    exact ⟨o,e,ex.2.1⟩
   ·obtain ⟨o,_,_,_,e,ex,_⟩:=I.hok p _ hk
    refine ⟨⟨o,e,ex.1⟩,fun a e2=>?_⟩
    cases e2
    exact ⟨o,e,ex.2.1⟩
 | _=>exact o7 ty
def afG (K:bZ) (T:String) (r:V→List V→Hp→VK→Prop) (to:TE):TE:=fun σ H Q=>to σ H fun x H1=>WY K T x H1∧r x [] H1 Q
def XE (K:bZ) (T:String) (r:V→List V→Hp→VK→Prop) (to:TE) (t:TA):TE:=fun σ H Q=>to σ H fun x H1=>WY K T x H1∧t σ H1 fun xs H2=>r x xs H2 Q
variable {o e:bg} {es:List bg} {to:TE} {t:TA} {name:Str} {apos cpos:Pos} {T id:String} {r:V→List V→Hp→VK→Prop}
theorem Sk (pa:PlainAttrs T) (slot:Slot T name id) (hty:typeOf (.builtin id)=pure (.type "method_descriptor")) (hm:MtR X id r) (ho:PE X o to)
 (hbase:vf o name X.env (eval o X.env)=eval o X.env:=by rfl) (hline:(apos.endLine==cpos.line)=true:=by rfl):PE X (.Call (.Attribute o name apos) [] [] cpos) (afG X.K T r to):=by
 intro pins s σ H Q I h
 refine wpAny_Call_method0_late hbase hline (gR (ho pins s σ H _ I h) fun v s1 ⟨x,H1,I1,r1,ty,q1⟩=>?_)
 obtain ⟨h1,h2⟩:=TR I1 r1 ty
 exact ⟨T,id,pa,slot,hty,h1,h2,XZ rfl (PySem.evalArgs_none (hm pins s1 σ H1 x [] v [] Q I1 r1 .nil q1))⟩
theorem Sj (pa:PlainAttrs T) (slot:Slot T name id) (hty:typeOf (.builtin id)=pure (.type "method_descriptor")) (hm:MtR X id r) (ho:PE X o to) (ha:PA X (e::es) t)
 (hbase:vf o name X.env (eval o X.env)=eval o X.env:=by rfl)
 (hfew:((gZ cpos (bw (e::es) X.env)).all (fun x=>!x.1)&&(sF cpos (sD [] X.env)).all (fun x=>x.1.isSome)
   && decide ((e::es).length+([]:List nK).length+(if ([]:List nK).isEmpty then 0 else 1)<30))=true:=by rfl)
 (hline:(apos.endLine==cpos.line)=true:=by rfl) (hs:bw (e::es) X.env=(false,eval e X.env)::bw es X.env:=by rfl) (hplain:(gZ cpos (bw es X.env)).any (·.1)=false:=by rfl) :
 PE X (.Call (.Attribute o name apos) (e::es) [] cpos) (XE X.K T r to t):=by
 intro pins s σ H Q I h
 refine wpAny_Call_method_late hbase hfew hline rfl (gR (ho pins s σ H _ I h) fun v s1 ⟨x,H1,I1,r1,ty,q1⟩=>?_)
 obtain ⟨h1,h2⟩:=TR I1 r1 ty
 refine ⟨T,id,pa,slot,hty,h1,h2,?_⟩
 have hA:=ha cpos pins s1 σ H1 _ I1 q1
 rw [hs] at hA ⊢
 refine XZ (by show (false||(gZ cpos (bw es X.env)).any (·.1))=false;rw [hplain] <;> rfl) (Calls.evalArgs_plain ?_)
 exact gR hA fun us s2 ⟨vs,H2,I2,r2,q2⟩=>hm pins s2 σ H2 x vs v us Q I2 r1 r2 q2
/- xs.append(e),list.index on a module's tuple .. are MtR facts of 06m -/
end
def MtM (X:Cx) (id:String) (r:V→List V→Hp→VK→Prop):Prop:=
 ∀(pins:List (av×Obj)) (s:bq) (σ:St) (H:Hp) (x:V) (xs:List V) (v:aL) (us:List aL) (Q:VK),Inv X pins σ H s→RelV x v→Vals xs us→r x xs H Q →
  b8 0#o X.A (call (.builtin id) (v::us)) (EP X pins σ Q) X.xe s
theorem Vals.one:∀{x:V} {us:List aL},Vals [x] us→∃u,us=[u]∧RelV x u
 | _,_,.cons r .nil=>⟨_,rfl,r⟩
theorem Vals.zero:∀{us:List aL},Vals [] us→us=[]
 | _,.nil=>rfl
theorem Vals.reverse (h:Vals xs us):Vals xs.reverse us.reverse:=by
 induction h with
 | nil=>exact .nil
 | cons r t ih=>rw [YC,YC];exact Vals.append ih (.cons r .nil)
theorem Vals.rep (h:Vals xs us):∀k:Nat,Vals (kB k xs).flatten (kB k us).flatten
 | 0=>.nil
 | k+1=>by
   rw [HM,HM,HS,HS]
   exact Vals.append h (Vals.rep h k)
theorem foldl_rep (its:List aL):∀(k:Nat) (acc:List aL),
 UN (fun x1 x2=>x1++x2) acc.toArray (kB k its.toArray)=(acc++(kB k its).flatten).toArray
 | 0,acc=>by simp
 | k+1,acc=>by
   have e:acc.toArray++its.toArray=(acc++its).toArray:=by simp
   have e2:(acc++its)++(kB k its).flatten=acc++(kB (k+1) its).flatten:=by
    rw [HM,HS,zJ]
   rw [← e2,← foldl_rep its k (acc++its),← e,HM,List.foldl_cons]
section
theorem Inv.aaN {σ:St} {its:List aL} (I:Inv X pins σ H s) (hH:H l=some (.lst xs))
 (e:s.heap.get? l=some { cls:=.type "list",data:=.seq its.toArray n }) (hf:f its.toArray=its'.toArray) (hv:Vals ys its') (hz:ys.length≤sizeLine) :
 Inv X pins σ (upd H l (.lst ys)) { s with heap:=s.heap.update l (Kg f),toks:=t' }:=by
 have q:=PySem.IsL.update e f
 rw [hf] at q
 refine I.write (x:=l) (e:=l) (by rw [hH];exact trivial) (.inl rfl) (fun b' u hb hu=>(XY s.heap (Kg f) (jn hb)).trans hu) ⟨_,q⟩ ?_
 exact ⟨hz,its',_,hv,q⟩
theorem Inv.aaK {σ:St} (I:Inv X pins σ H s) (hv:Vals ys its) (hz:ys.length≤sizeLine) :
 Inv X pins σ (upd H s.heap.objs.size (.lst ys)) { s with heap:=s.heap.push { cls:=.type "list",data:=.seq its.toArray },toks:=t' }:=
 I.laid (fun _ _ q=>oF _ q) (dz _) ⟨hz,its,0,hv,D4 _ rfl⟩
theorem Inv.fresh {σ:St} (I:Inv X pins σ H s):H s.heap.objs.size=none:=I.hok.fresh (dz _)
theorem Inv.Jc {σ:St} (I:Inv X pins σ H s) (hH:H l=some (.lst xs)):xs.length≤sizeLine∧∃(its:List aL) (n:Nat),Vals xs its∧xs.length=its.length∧s.heap.get? l=some { cls:=.type "list",data:=.seq its.toArray n }:=by
 obtain ⟨z,its,n,r,e⟩:=I.hok l _ hH
 exact ⟨z,its,n,r,r.length,e⟩
theorem Ji (h:n≤sizeLine):NR n=false:=by
 unfold NR
 exact qu 0#c
def AI:V→List V→Hp→VK→Prop:=fun x vs H Q=>∃l xs y,x=.ref l∧vs=[y]∧H l=some (.lst xs)∧xs.length<sizeLine∧Q .bM (upd H l (.lst (xs++[y])))
theorem Ey:MtM X "list.append" AI:=by
 intro pins s σ H x vs v us Q I rx rv h
 obtain ⟨l,xs,y,rfl,rfl,hH,hz,q⟩:=h
 cases rx
 obtain ⟨u,rfl,ru⟩:=rv.one
 obtain ⟨z,its,n,r,hl,e⟩:=I.Jc hH
 refine EX F.slot_list_append ⟨_,e,rfl⟩ F.entry_list_append (F.args_list_append_2 _ _) (PySem.list_append l its.toArray n u (by rw [jG];simp?)) ⟨e,?_⟩
 refine ⟨.bM,_,I.aaN (its':=its++[u]) hH e 0#e (r.append (.cons ru .nil)) ?_,rfl,q⟩
 rw [fq,HK]
 simp?
def AJ:V→List V→Hp→VK→Prop:=fun x vs H Q=>∃l b xs zs,x=.ref l∧vs=[.ref b]∧H l=some (.lst xs)∧H b=some (.lst zs)∧xs.length+zs.length≤sizeLine∧Q .bM (upd H l (.lst (xs++zs)))
theorem Pf:MtM X "list.extend" AJ:=by
 intro pins s σ H x vs v us Q I rx rv h
 obtain ⟨l,b,xs,zs,rfl,rfl,hH,hB,hz,q⟩:=h
 cases rx
 obtain ⟨u,rfl,ru⟩:=rv.one
 cases ru
 obtain ⟨z,its,n,r,hl,e⟩:=I.Jc hH
 obtain ⟨z2,its2,n2,r2,hl2,e2⟩:=I.Jc hB
 have hsz:its.toArray.size+its2.toArray.size≤sizeLine:=by rw [jG,jG];simp?
 have Ro:¬(!its.toArray.isEmpty&&NR (its.toArray.size+its2.toArray.size))=true:=by
  rw [Ji hsz,Bool.and_false]
  exact dD
 refine EX F.slot_list_extend ⟨_,e,rfl⟩ F.entry_list_extend (F.args_list_extend_2 _ _)
  (AutoSeq1.list_extend_list_list_0 l its.toArray n b its2.toArray n2 Ro (by rw [jG];simp?) 0#c) ⟨e,e2,?_⟩
 refine ⟨.bM,_,I.aaN (its':=its++its2) hH e 0#e (r.append r2) ?_,rfl,q⟩
 rw [fq]
 simp?
def vR:V→List V→Hp→VK→Prop:=fun x vs H Q=>∃l xs,x=.ref l∧vs=[]∧H l=some (.lst xs)∧Q .bM (upd H l (.lst xs.reverse))
theorem Lm:MtM X "list.reverse" vR:=by
 intro pins s σ H x vs v us Q I rx rv h
 obtain ⟨l,xs,rfl,rfl,hH,q⟩:=h
 cases rx
 have IT:=rv.zero
 subst IT
 obtain ⟨z,its,n,r,hl,e⟩:=I.Jc hH
 refine EX F.slot_list_reverse ⟨_,e,rfl⟩ F.entry_list_reverse (F.args_list_reverse_1 _) (AutoSeq1.list_reverse_list_0 l its.toArray n (by rw [jG];simp?)) ⟨e,?_⟩
 refine ⟨.bM,_,I.aaN (its':=its.reverse) hH e 0#e r.reverse ?_,rfl,q⟩
 rw [List.length_reverse]
 simp?
def acY:R2:=fun x y H Q=>∃l b xs zs,x=.ref l∧y=.ref b∧H l=some (.lst xs)∧H b=some (.lst zs)∧xs.length+zs.length≤sizeLine∧∀p,H p=none→Q (.ref p) (upd H p (.lst (xs++zs)))
theorem BV:qR X (nJ .Add) acY:=by
 intro pins s σ H x y v u Q I rx ry h
 obtain ⟨l,b,xs,zs,rfl,rfl,hH,hB,hz,q⟩:=h
 cases rx
 cases ry
 obtain ⟨z,its,n,r,hl,e⟩:=I.Jc hH
 obtain ⟨z2,its2,n2,r2,hl2,e2⟩:=I.Jc hB
 refine PySem.P.add_list e e2 ?_ (by rw [jG,jG];simp?)
 have ea:its.toArray++its2.toArray=(its++its2).toArray:=by simp
 rw [ea]
 exact ⟨.ref _,_,I.aaK (t':=s.toks) (r.append r2) (by rw [fq];simp?),rfl,q _ I.fresh⟩
def ac2:R2:=fun x y H Q=>∃l k xs,x=.ref l∧y=.int k∧H l=some (.lst xs)∧-(2 ^ 63)≤k∧k<2 ^ 63∧xs.length*k.toNat≤sizeLine ∧
 ∀p,H p=none→Q (.ref p) (upd H p (.lst (kB k.toNat xs).flatten))
theorem len_rep {α:Type} (xs:List α) (k:Nat):(kB k xs).flatten.length=k*xs.length:=by
 induction k with
 | zero=>simp
 | succ k ih=>rw [HM,HS,fq,ih,Nat.succ_mul,zP]
theorem LO:qR X (nJ .Mult) ac2:=by
 intro pins s σ H x y v u Q I rx ry h
 obtain ⟨l,k,xs,rfl,rfl,hH,h1,h2,hz,q⟩:=h
 cases rx
 obtain ⟨t,rfl⟩:=ry
 obtain ⟨z,its,n,r,hl,e⟩:=I.Jc hH
 have hlen:its.toArray.size*k.toNat≤sizeLine:=by rw [jG,← hl];exact hz
 have hcap:¬its.toArray.size*k.toNat>(2 ^ 63-1)/8:=by
  have:(sizeLine:Nat)≤(2 ^ 63-1)/8:=by decide
  simp?
 have hfit:¬(!Builtin.List.listFitsIndex k)=true:=by
  rw [fitsIndex_both h1 h2]
  exact dD
 have Ro:¬NR (its.toArray.size*k.toNat)=true:=by
  rw [Ji hlen]
  exact dD
 have hnew:UN (fun x1 x2=>x1++x2) #[] (kB (if its.toArray.isEmpty=true then 0 else k.toNat) its.toArray)=(kB k.toNat its).flatten.toArray:=by
  have f0:∀m:Nat,UN (fun x1 x2=>x1++x2) #[] (kB m its.toArray)=(kB m its).flatten.toArray:=fun m=>by
   have:=foldl_rep its m []
   rw [YS] at this
   exact this
  rw [f0]
  cases its with
  | nil=>simp
  | cons a r'=>rw [if_neg 0#e]
 refine wpAny_binaryOp_repeat_ref (T := "list") (U := "int") 0#i ⟨_,e,rfl⟩ (fun s'=>UM s' k t) noFill_list_mul F.fills_int_mul F.slot_int_rmul repeat_list F.slot_int_index.lookup
  (EX F.slot_int_rmul (UM s k t) F.entry_int_rmul (F.args_int_rmul_2 _ _) (int___rmul___int_list k t l its.toArray n)
    ⟨e,rfl,⟨_,e,rfl⟩,EX F.slot_list_mul ⟨_,e,rfl⟩ F.entry_list_mul (F.args_list_mul_2 _ _) (AutoListH.list___mul___list_int_3 l its.toArray n k t hfit hcap Ro) ⟨e,?_⟩⟩)
 rw [hnew]
 exact ⟨.ref _,_,I.aaK (t':=s.toks) (r.rep k.toNat) (by rw [len_rep,Zp];exact hz),rfl,q _ I.fresh⟩
end
end L2
namespace Att
open PySem PySem.W PySem.Calls PyProof.Rows
theorem Ag:∀(ns:List Int) (vs:List aL),WellAll P h vs (ns.map WData.int)→Dc vs ns:=by
 intro ns
 induction ns with
 | nil=>
   intro vs w
   rw [Uy] at w
   cases w
   exact .nil
 | cons n ns ih=>
   intro vs w
   rw [C5] at w
   cases w with
   | cons a b=>
     cases a
     exact .cons _ _ (ih _ b)
theorem PK {l:OpenLaw} (hn:l.most=some n) 
 (hpre:l.row.toRowW.claim.pre args=true) (hwl:WellAll P h vals args) :
 ∃a vs ns,vals=[Value.ref a]∧args=[WData.list (ns.map WData.int)]∧h.get? a=some { cls:=.type "list",data:=.seq vs.toArray }∧Dc vs ns∧ns.length≤n:=by
 have hsh:WShape.hasAll [] args [.list .int]=true:=(pre_splitW hpre).1
 have hc:l.pre.holds [] { args:=args }=true:=(pre_splitW hpre).2
 obtain ⟨d,r,rfl,h1,h2⟩:=hasAllW_cons hsh
 obtain rfl:=hasAllW_nil h2
 obtain ⟨xs,rfl,h3⟩:=hasW_list h1
 obtain ⟨ns,rfl⟩:=items_int h3
 have hlen:ns.length≤n:=by
  unfold OpenLaw.pre at hc
  have h4:(WTm.not (.lt (.lit (.int (n:Int))) (.len (.arg 0)))).holds [] { args:=[.list (ns.map .int)] }=true:=by
   have h4:=(holds_andW hc).1
   rw [hn] at h4
   exact h4
  have h5:=condW_of h4 (w_not (w_lt w_lit (w_len_list (w_arg rfl))))
  rw [gJ] at h5
  refine Nat.le_of_not_lt fun q=>?_
  have q':(n:Int)<((ns.length:Nat):Int):=by simp?
  first
   | (rw [jJ q'] at h5;exact absurd h5 (by decide))
   | (simp at h5;omega)
 cases hwl with
 | cons w1 w2=>
   cases w2
   cases w1 with
   | list ho hall=>exact ⟨_,_,ns,rfl,rfl,ho,Ag ns _ hall,hlen⟩
theorem Py (l:OpenLaw) (args:List WData):l.row.toRowW.claim.post args (.bool true) args=true:=
 postW_of (r:=l.row.toRowW) (X:=(true==true))
  (show ZH [] (.bool true) .bool=true by first | rfl | decide | simp [ZH,WShape.arms,WShape.armsAll])
  (show (WTm.eq .res (.lit (.bool true))).value [] { args:=args,res:=some (.bool true),after:=args }=some (.bool (true==true)) from w_eq_bool (w_res rfl) w_lit) rfl
theorem Ie {l:OpenLaw}
 (hn:l.most=some n) (hdf:d.params.defaults=[])
 (call:∀(w:eG) (s₀ s₁:bq) (mg mb:Str→Option aL) (fa:av) (o:Obj) (pm cd doc:aL) (a:av) (vs:List aL) (ns:List Int),
   Ground q loose [] XP w s₀ mg mb s₁.heap→YP w s₁.heap →
   s₁.heap.get? fa=some o→o.data=.func (docDef d.name d.params d.body d.scope pm cd doc)→s₁.heap.CodeRec cd d.name→mg d.name=some (.ref fa) →
   s₁.heap.get? a=some { cls:=.type "list",data:=.seq vs.toArray }→Dc vs ns→ns.length≤n→s₁.gens=#[] →
   zV (model l.prog w) Dd (.call (.ref fa) ⟨[.ref a],[]⟩) (fun r s'=>r=.ok (.ret (.bool true))∧OldK s₁.heap s'.heap∧s'.os=s₁.os∧wV s'.gens) s₁) :
 WalkO q loose XP YP l.row.toRowW d [] (fun f vs=>UO f vs):=by
 intro w s₀ s₁ mg mb G Y fa o pm cd doc dV kV ho hd hcd hD hmg hg args vals as hpre hlay hrd hwl hlo
 obtain rfl:dV=.none:=Dflts.none hD hdf
 obtain rfl:kV=.none:=Dflts.noKw hD
 obtain ⟨a,vs,ns,rfl,rfl,hobj,hints,hlen⟩:=PK hn hpre hwl
 refine enter_call (Ot (call w s₀ s₁ mg mb fa o pm cd doc a vs ns G Y ho (fd_plain hd) hcd hmg hobj hints hlen hg) fun r s' hq=>?_)
 obtain ⟨rfl,h2,h3,h4⟩:=hq
 exact ⟨.inl ⟨.bool true,.bool true,[],rfl,fun _=>rfl,.bool true,Py l _,fun _=>⟨List.Pairwise.nil,fun _ hm=>(nomatch hm)⟩⟩,h2,h3,h4⟩
end Att
namespace L2
open PySem PySem.Spec PyProof.Rows
theorem o4:∀{vs:List aL} {ns:List Int},Dc vs ns→Vals (ns.map V.int) vs
 | _,_,.nil=>.nil
 | _,_,.cons n t h=>.cons ⟨t,rfl⟩ (o4 h)
def ZR (H:Hp):Prop:=∀b,H b=none∨∃o xs,H b=some (.Nb o (.lst xs))
theorem Rz {K:bZ}
 (KX:K.In s₁.heap) (hns:s₁.heap.Ns fH mg) (hb:s₁.heap.Ns builtinsNs mb) (hbb:∀x:Str,x ≠ "__name__"→mb x=uf x) (hlim:s₁.heap.NoLimit) (hg:s₁.gens=#[])
 (ha:s₁.heap.get? a=some { cls:=.type "list",data:=.seq vs.toArray }) (hi:Dc vs ns) (hl:ns.length≤sizeLine) (hr:iJ k Dd)
 (F:∀base:cJ,K.In base→base.Ns fH mg→bf P w K mg base CX k fa fd [x] sp) (hbind:∀(s:bq) (u:aL),BindsTo s fd ⟨[u],[]⟩ [(x,u)])
 (Xk:∀H:Hp,ZR H→aX K H a (ns.map V.int)→sp [.ref a] H (fun v _=>v=.bl true) fun _ _ _=>False)
 (hCX:∀H e s',CX [] H s₁ (fun _ _ _=>False) e s'→False) :
 zV (model P w) Dd (.call (.ref fa) ⟨[.ref a],[]⟩) (fun r s'=>r=.ok (.ret (.bool true))∧OldK s₁.heap s'.heap∧s'.os=s₁.os∧wV s'.gens) s₁:=by
 have rv:=o4 hi
 have ae5:=hi.length
  -- from an abstract heap in which nothing but the script may be tracked
 have core:∀H:Hp,ZR H→aX K H a (ns.map V.int)→xo P w H s₁.heap→(∀b,H b≠none→b=a)→(H a≠none→K.lookup a=none) →
  zV (model P w) Dd (.call (.ref fa) ⟨[.ref a],[]⟩) (fun r s'=>r=.ok (.ret (.bool true))∧OldK s₁.heap s'.heap∧s'.os=s₁.os∧wV s'.gens) s₁:=by
  intro H hO hS hok hA hK
  have MX:∀{b:av} {o:Obj},s₁.heap.get? b=some o→H b=none→(FN s₁.heap H).get? b=some o:=fun e n=>Rl e n
  have noA:∀{b:av} {o:Obj} {es:Array DictEntry} {ep:Nat},s₁.heap.get? b=some o→o.data=.dict es ep→H b=none:=fun {b o es ep} e d=>by
   cases q:H b with
   | none=>rfl
   | some u=>
     have e':b=a:=hA b (by rw [q];simp)
     subst e'
     rw [ha] at e;cases e
     have d':Data.seq vs.toArray _=Data.dict es ep:=d
     cases d'
  have nsK:∀{b:av} {m:Str→Option aL},s₁.heap.Ns b m→(FN s₁.heap H).Ns b m:=fun {b m} ⟨o,es,ep,e,d,r⟩=>⟨o,es,ep,MX e (noA e d),d,r⟩
  have hKb:K.In (FN s₁.heap H):=fun b o e=>MX (KX b o e) (by
   cases q:H b with
   | none=>rfl
   | some u=>
     have e':b=a:=hA b (by rw [q];simp)
     subst e'
     rw [hK (by rw [q];simp)] at e;cases e)
  have hM:Mod K mg (FN s₁.heap H):=⟨hKb,nsK hns,⟨mb,nsK hb,hbb⟩,let ⟨mc,h1,h2⟩:=hlim;⟨mc,nsK h1,h2⟩⟩
  have e0:Kv P w K mg (FN s₁.heap H) Dd [] s₁ H:=⟨rfl,hM,fun b o e=>Wg e,Zo (O4 _ _),trivial,fun b hb=>absurd (show b∈([]:List av) from hb) 0#e,hok,.of_eq hg⟩
  refine Ot ((F _ hKb (nsK hns)).run Dd [] s₁ H ⟨[.ref a],[]⟩ [.ref a] [.ref a] _ _ hr e0 (hbind s₁ (.ref a)) (.cons rfl .nil) (Xk H hO hS)) fun r s' h=>?_
  cases r with
  | error e=>exact (hCX H e s' h).elim
  | ok fl=>
    cases fl with
    | next=>exact o7 h
    | brk=>exact o7 h
    | cont=>exact o7 h
    | ret u=>
      obtain ⟨v,H',os,bare,un,aeT,r',q⟩:=h
      have q':v=.bl true:=q
      subst q'
      obtain rfl:u=Value.bool true:=r'
      refine ⟨rfl,OldK.of_keep fun b o e=>?_,os,bare⟩
      cases q:H b with
      | none=>exact un.keep b o e q (by intro z;exact absurd (show b∈([]:List av) from z) 0#e) 0#e
      | some u=>
        rcases hO b with z | ⟨ob,xs,z⟩
        ·rw [q] at z;cases z
        ·have z2:=un.Fy b ob _ z
         obtain ⟨e1,_⟩:=hok b _ z
         obtain ⟨e2,_⟩:=aeT b _ z2
         rw [e] at e1;cases e1
         exact e2
 cases hk:K.lookup a with
 | some o=>
    -- the script is one of the module's own objects
   have e:=KX a o hk
   rw [ha] at e
   cases e
   refine core (fun _=>none) (fun _=>.inl rfl) (.inr ⟨_,vs.toArray,_,hk,rfl,rfl,rfl,by rw [jG,ae5];exact hl,by simpa using rv⟩) (fun b u z=>by have z':(none:Option HO)=some u:=z;cases z') (fun b z=>absurd rfl z) fun z=>absurd rfl z
 | none=>
   refine core (fun b=>if b=a then some (.Nb { cls:=.type "list",data:=.seq vs.toArray } (.lst (ns.map V.int))) else none) (fun b=>?_) (.inl (.inr ⟨{ cls:=.type "list",data:=.seq vs.toArray },if_pos rfl⟩)) (fun b u z=>?_) (fun b z=>?_) fun _=>hk
   ·by_cases hb:b=a
    ·exact .inr ⟨_,_,if_pos hb⟩
    ·exact .inl (if_neg hb)
   ·by_cases hb:b=a
    ·have z':=(if_pos hb).symm.trans z
     cases z'
     subst hb
     exact ⟨ha,by rw [gJ];exact hl,vs,_,rv,ha⟩
    ·have z':=(if_neg hb).symm.trans z
     cases z'
   ·by_cases hb:b=a
    ·exact hb
    ·exact absurd (if_neg hb) z
theorem WZ {l:Um} {n k:Nat} {q:jk} {XP:(Str→Option aL)→cJ→Prop} {YP:eG→cJ→Prop} {d:DefRec} {K:Params→bZ} {CX:eG→Vc} {sp:eG→Sp} {x:Str}
 (hn:l.most=some n) (hn2:n≤sizeLine) (hdf:d.params.defaults=[]) (hr:iJ k Dd)
 (hY:∀(w:eG) (h:cJ),YP w h→(K w.params).In h)
 (F:∀(w:eG) (mg:Str→Option aL) (fa:av) (h:cJ),(K w.params).In h→h.Ns fH mg→mg d.name=some (.ref fa) →
   ∃fd:jF,(∀(s:bq) (u:aL),BindsTo s fd ⟨[u],[]⟩ [(x,u)]) ∧
    ∀base:cJ,(K w.params).In base→base.Ns fH mg→bf l.prog w (K w.params) mg base (CX w) k fa fd [x] (sp w))
 (Xk:∀(w:eG) (H:Hp) (a:av) (ns:List Int),ns.length≤n→ZR H→aX (K w.params) H a (ns.map V.int)→sp w [.ref a] H (fun v _=>v=.bl true) fun _ _ _=>False)
 (hCX:∀(w:eG) (H:Hp) (s:bq) (e:aL) (s':bq),CX w [] H s (fun _ _ _=>False) e s'→False) :
 Zg q loose XP YP l.row.toRowW d [] (fun f vs=>UO f vs):=by
 refine Att.Ie hn hdf fun w s₀ s₁ mg mb fa o pm cd doc a vs ns G Y ho hd hcd hmg hobj hints hlen hg=>?_
 have KX:=hY w _ Y
 obtain ⟨fd,hb,hF⟩:=F w mg fa _ KX G.T.g hmg
 exact Rz KX G.T.g G.T.b G.T.builtins G.T.nolimit hg hobj hints (eE hlen hn2) hr hF hb (fun H hO hS=>Xk w H a ns hlen hO hS) fun H e s'=>hCX w H s₁ e s'
def inClass (s:aT) (j:Nat):aT:=match s with
 | .ClassDef _ _ _ body _ _ _ _ _ _ _=>body.getD j (.Pass ⟨0,0,0,0⟩)
 | _=>.Pass ⟨0,0,0,0⟩
def fY (s:aT):Arguments:=match s with
 | .FunctionDef _ a _ _ _ _ _ _ _ _=>a
 | _=>{ posonlyargs:=[],args:=[],vararg:=none,kwonlyargs:=[],kw_defaults:=[],kwarg:=none,defaults:=[] }
def fJ (s:aT):List aT:=match s with
 | .FunctionDef _ _ b _ _ _ _ _ _ _=>b
 | _=>[]
def ah (s:aT):o8:=match s with
 | .FunctionDef _ _ _ _ _ _ sc _ _ _=>sc
 | _=>{ kind:=.function,names:=[],isGenerator:=false,isCoroutine:=false }
abbrev c7:Vc:=fun _ _ _ _ _ _=>False
abbrev E0:XK:=fun _ _ _=>False
theorem Nz:Passes c7 X E0:=fun _ _ _ _ _ _ _ h=>h.elim
structure cT (K:bZ) (x qual:Str) (st:aT) (f:av) (fd:jF):Prop where
 ex:∃(oc:aL) (od:Option av) (kV doc pm:aL) (an:Option av) (cdv ct:aL) (osl:Array (Option aL)),
  fd=sI x qual (fY st) (fJ st) (ah st) .none kV doc pm an cdv ct∧K.lookup f=some ⟨oc,od,.func fd,osl⟩∧wN K cdv qual=true
 kp:xh K (.ref f)=true
section
theorem cT.ok {K:bZ} {st:aT} (F:cT K x qual st f fd) (S:aF N ps (ah st)) (len:∀vs H Q E,sp vs H Q E→vs.length=ps.length)
 (hbody:∀(cdv:aL) (A:nN) (outer:List Env) (s:bq) (H:Hp) (vs:List V) (Q:VK) (E:XK),iJ k (A.deeper (wW qual (ah st) s.heap.objs.size f cdv))→sp vs H Q E →
   ∃t,Ky (OJ c7 P w K mg base N qual (ah st) f cdv A outer s H E).nox (fJ st) t∧t { nx:=fun _ H'=>Q .bM H',rt:=Q } (start N vs) H):bf P w K mg base c7 (k+1) f fd ps sp:=by
 obtain ⟨oc,od,kV,doc,pm,an,cdv,ct,osl,rfl,lk,hcd⟩:=F.ex
 refine ab8 lk hcd S len fun A outer s H vs Q E hr Xk=>?_
 obtain ⟨t,h,q⟩:=hbody cdv A outer s H vs Q E hr Xk
 exact ⟨t,h.nox,q⟩
theorem cT.binds {K:bZ} {st:aT} (F:cT K x qual st f fd)
 (h:∀(kV doc pm:aL) (an:Option av) (cdv ct:aL) (us:List aL),us.length=ps.length→C9 0#z ⟨us,[]⟩=pure (ps.zip us)):Binds K fd ps []:=by
 obtain ⟨oc,od,kV,doc,pm,an,cdv,ct,osl,rfl,lk,hcd⟩:=F.ex
 exact .all (h kV doc pm an cdv ct)
theorem KJ {K:bZ} {x:Str} {st:aT} {f:av} {oc:aL} {od an:Option av} {osl:Array (Option aL)} {kV doc pm cdv ct:aL} (l:K.lookup f=some ⟨oc,od,.func 0#z,osl⟩)
 (c:wN K cdv qual=true) (k:xh K (.ref f)=true):cT K x qual st f 0#z:=⟨⟨oc,od,kV,doc,pm,an,cdv,ct,osl,rfl,l,c⟩,k⟩
end
theorem aN (h:n≤1000):n<sizeLine:=D5 h 0#i
section
theorem pv {X:Cx} (i:Nat) {x:Str} {pos:Pos} (hN:X.N[i]?=some x:=by rfl) (hv:Vis X.env.scope x:=by first | exact Or.inl rfl | exact Or.inr (Or.inl rfl) | exact Or.inr (Or.inr rfl)) (hd:0#y=false:=by decide)
 (hcd:(x==("__classdict__":Str))=false:=by decide):PE X (.Name x pos) (WX i):=aa1 hN hv hd hcd
end
theorem bU {A:Prop} (h:B):if false=true then A else B:=by
 rw [if_neg dD]
 exact h
theorem cu {A:Prop} (h:A):if true=true then A else B:=by
 rw [if_pos rfl]
 exact h
theorem cE {A:Prop} [Decidable c] (h1:c→A) (h2:¬c→B):if c then A else B:=by
 by_cases h:c
 ·rw [if_pos h]
  exact h1 h
 ·rw [if_neg h]
  exact h2 h
def au (H H':Hp):Prop:=∀b o,H b=some o→H' b=some o
theorem au.refl (H:Hp):au H H:=fun _ _ h=>h
theorem au.trans (a:au H H1) (b:au H1 H2):au H H2:=fun c o h=>b c o (a c o h)
theorem au.free (e:au H H')  (h:H' l=Option.none):H l=Option.none:=by
 cases q:H l with
 | none=>rfl
 | some o=>
   rw [e l o q] at h
   cases h
theorem au.seq {K:bZ} (e:au H H') (h:aX K H a xs):aX K H' a xs:=by
 rcases h with (h | ⟨o,h⟩) | h
 ·exact .inl (.inl (e _ _ h))
 ·exact .inl (.inr ⟨o,e _ _ h⟩)
 ·exact .inr h
end L2
set_option maxHeartbeats 4000000
namespace Mth
def Sz (n:Nat) (x:Int):Prop:=x.natAbs<2 ^ n
instance {n:Nat} {x:Int}:Decidable (Sz n x):=inferInstanceAs (Decidable (x.natAbs<2 ^ n))
theorem Sz.mono (h:Sz m x) (hm:m≤n):Sz n x:=
 qq h (Yh 0#i hm)
theorem Sz.mul (hx:Sz m x) (hy:Sz n y):Sz (m+n) (x*y):=by
 unfold Sz at *
 rw [Us,Nat.pow_add]
 exact Nat.mul_lt_mul'' hx hy
theorem Sz.add (hx:Sz m x) (hy:Sz m y):Sz (m+1) (x+y):=by
 unfold Sz at *
 rw [Nat.pow_succ]
 have:=Oa x y
 simp?
theorem Sz.neg (hx:Sz m x):Sz m (-x):=by
 unfold Sz at *
 rw [Om];exact hx
theorem Sz.sub (hx:Sz m x) (hy:Sz m y):Sz (m+1) (x-y):=by
 rw [Int.sub_eq_add_neg];exact hx.add hy.neg
theorem Sz.of_le (hx:Sz m x) (h:y.natAbs≤x.natAbs):Sz m y:=D5 h hx
theorem Sz.log (hx:Sz m x) (hm:m≤9000) (h0:0<m):x.natAbs.log2<9000:=by
 by_cases h:x.natAbs=0
 ·rw [h];decide
 ·have:=(Nat.log2_lt h).mpr hx
  simp?
theorem Sz.of_lt (h:x.natAbs<k) (hk:k≤2 ^ m):Sz m x:=qq h hk
structure W5 (t b t' b':Int):Prop where
 pos:1≤b'
 co:cK t' b'=1
 eq:t'*b=t*b'
 tb:t'.natAbs≤t.natAbs
 bb:b'.natAbs≤b.natAbs
theorem Iu (x y:Nat):Kh y (x % y)=Kh x y:=by
 rw [Zq y,← Nat.gcd_rec,Zq]
theorem QX (hb:b≠0):cK (t/(cK t b:Int)) (b/(cK t b:Int))=1:=by
 have hp:0<cK t b:=P0 t hb
 rw [Int.gcd_ediv (J4 ..) (J3 ..)]
 rw [Ua]
 exact Nat.div_self hp
theorem Ew {g:Nat} (hg:0<g) (e:a*(g:Int)=c):a.natAbs≤c.natAbs:=by
 subst e
 rw [Us,Ua]
 exact Nat.le_mul_of_pos_right _ hg
theorem aaL {g:Nat} (hg:0<g) (e1:t'*(g:Int)=t) (e2:b'*(g:Int)=b) (hb:0<b) (hc:cK t' b'=1):W5 t b t' b':=by
 refine ⟨?_,hc,?_,Ew hg e1,Ew hg e2⟩
 ·have:0<b':=Int.pos_of_mul_pos_left (b:=(g:Int)) (by rw [e2];exact hb) 0#c
  simp?
 ·rw [← e1,← e2,Int.mul_assoc,yR (g:Int) b']
theorem F3 (hb:0<b):W5 t b (t.fdiv (cK t b:Int)) (b.fdiv (cK t b:Int)):=by
 have hp:0<cK t b:=P0 t 0#c
 have h1:(cK t b:Int)∣t:=J4 ..
 have h2:(cK t b:Int)∣b:=J3 ..
 rw [yN _ 0#c,yN _ 0#c]
 exact aaL hp (Yl h1) (Yl h2) hb (QX 0#c)
theorem vz (a:Int) (g:Nat):a.fdiv (-(g:Int))=(-a).fdiv (g:Int):=by
 have:=Int.neg_fdiv_neg a (-(g:Int))
 rw [UH] at this
 exact this.symm
theorem V7 (hb:b<0):W5 (-t) (-b) (t.fdiv (-(cK t b:Int))) (b.fdiv (-(cK t b:Int))):=by
 have e:cK t b=cK (-t) (-b):=by rw [Int.gcd_neg,Int.neg_gcd]
 rw [vz,vz,e]
 exact F3 0#c
theorem QJ (hc:cK b a=1) (h:b∣a*d):b∣d:=by
 have h':b.natAbs∣a.natAbs*d.natAbs:=by rw [← Us];exact X9.mpr h
 have hc':Nat.Coprime b.natAbs a.natAbs:=hc
 exact X9.mp (hc'.dvd_of_dvd_mul_left h')
theorem Le (hb:1≤b) (hd:1≤d) (h1:cK a b=1) (h2:cK c d=1) (e:a*d=c*b):a=c∧b=d:=by
 have k1:b∣d:=by
  have:b∣a*d:=⟨c,by rw [e,yR]⟩
  exact QJ (by rw [UA];exact h1) this
 have k2:d∣b:=by
  have:d∣c*b:=⟨a,by rw [← e,yR]⟩
  exact QJ (by rw [UA];exact h2) this
 have hbd:b=d:=Int.dvd_antisymm 0#c 0#c k1 k2
 subst hbd
 exact ⟨Int.eq_of_mul_eq_mul_right 0#c e,rfl⟩
structure ju (H L high low x0 y0 x1 y1:Int):Prop where
 sg:(x0*y1-x1*y0=1∧0≤x0∧y0≤0∧x1≤0∧1≤y1)∨(x0*y1-x1*y0=-1∧x0≤0∧0≤y0∧0≤x1∧y1≤-1)
 eh:x0*H+y0*L=high
 el:x1*H+y1*L=low
 l0:0≤low
 lh:low≤high
 st:(x0=1∧y0=0∧x1=0∧y1=1)∨(y0≠0∧high≤L∧340282366920938463463374607431768211456≤high∧x0.natAbs≤x1.natAbs∧y0.natAbs≤y1.natAbs)
theorem ju.init (h0:0≤L) (h:L≤H):ju H L H L 1 0 0 1:=⟨.inl 0#c,by simp?,by simp?,h0,h,.inl 0#c⟩
theorem QM {x:Int} (hx:0≤x) (hy:0≤y):(x/y).natAbs≤x.natAbs:=by
 have h1:=Od (a:=x) y hx
 have h2:=YT hx hy
 simp?
theorem kK {q:Int} (hq:1≤q) (hz:0≤z):z≤q*z:=by
 have:=Kl hq hz
 simp?
theorem ju.step (h:ju H L high low x0 y0 x1 y1) (hl:340282366920938463463374607431768211456≤low) (hq:q=high/low) :
 ju H L low (high-q*low) x1 y1 (x0-q*x1) (y0-q*y1):=by
 obtain ⟨sg,eh,el,l0,lh,st⟩:=h
 have q1:1≤q:=by
  rw [hq];exact (X0 0#c).mpr 0#c
 have em:high-q*low=high % low:=by
  have:=JU high low
  rw [hq,yR];simp?
 have m0:0≤high % low:=yQ _ 0#c
 have m1:high % low<low:=wY _ 0#c
 have hlL:low≤L:=by
  rcases st with ⟨a,b,c,d⟩ | ⟨_,a,_⟩
  ·subst a b c d;simp?
  ·simp?
 have det:x1*(y0-q*y1)-(x0-q*x1)*y1=-(x0*y1-x1*y0):=by grind
 have hel:(x0-q*x1)*H+(y0-q*y1)*L=high-q*low:=by rw [← eh,← el];grind
 refine ⟨?_,el,hel,by simp?,by simp?,.inr ⟨?_,hlL,hl,?_,?_⟩⟩
 ·rcases sg with ⟨d,a,b,c,e⟩ | ⟨d,a,b,c,e⟩
  ·right
   have k1:=kK q1 (z:=-x1) 0#c
   have k2:=kK q1 (z:=y1) 0#c
   rw [Kf] at k1
   exact ⟨by simp?,by simp?,by simp?,by simp?,by simp?⟩
  ·left
   have k1:=kK q1 (z:=x1) 0#c
   have k2:=kK q1 (z:=-y1) 0#c
   rw [Kf] at k2
   exact ⟨by simp?,by simp?,by simp?,by simp?,by simp?⟩
 ·rcases sg with ⟨d,a,b,c,e⟩ | ⟨d,a,b,c,e⟩ <;> simp?
 ·rcases sg with ⟨d,a,b,c,e⟩ | ⟨d,a,b,c,e⟩
  ·have k1:=kK q1 (z:=-x1) 0#c
   rw [Kf] at k1
   simp?
  ·have k1:=kK q1 (z:=x1) 0#c
   simp?
 ·rcases sg with ⟨d,a,b,c,e⟩ | ⟨d,a,b,c,e⟩
  ·have k1:=kK q1 (z:=y1) 0#c
   simp?
  ·have k1:=kK q1 (z:=-y1) 0#c
   rw [Kf] at k1
   simp?
theorem ju.VV (h:ju H L high low x0 y0 x1 y1) (h1:L≤H):high≤H:=by
 obtain ⟨sg,eh,el,l0,lh,st⟩:=h
 rcases st with ⟨a,b,c,d⟩ | ⟨_,a,_⟩
 ·subst a b c d;simp?
 ·simp?
theorem ju.aaW (h:ju H L high low x0 y0 x1 y1) (hh:1≤high):x1.natAbs≤L.natAbs∧y1.natAbs≤H.natAbs:=by
 obtain ⟨sg,eh,el,l0,lh,st⟩:=h
 rcases sg with ⟨d,a,b,c,e⟩ | ⟨d,a,b,c,e⟩
 ·have e1:y1*high+(-y0)*low=H:=by
   have:y1*high+(-y0)*low=(x0*y1-x1*y0)*H:=by rw [← eh,← el];grind
   rw [this,d];simp?
  have e2:(-x1)*high+x0*low=L:=by
   have:(-x1)*high+x0*low=(x0*y1-x1*y0)*L:=by rw [← eh,← el];grind
   rw [this,d];simp?
  have n1:0≤(-y0)*low:=oG 0#c l0
  have n2:0≤x0*low:=oG 0#c l0
  have k1:y1≤y1*high:=by rw [yR];exact kK hh 0#c
  have k2:-x1≤(-x1)*high:=by rw [yR];exact kK hh 0#c
  simp?
 ·have e1:(-y1)*high+y0*low=H:=by
   have:(-y1)*high+y0*low=-(x0*y1-x1*y0)*H:=by rw [← eh,← el];grind
   rw [this,d];simp?
  have e2:x1*high+(-x0)*low=L:=by
   have:x1*high+(-x0)*low=-(x0*y1-x1*y0)*L:=by rw [← eh,← el];grind
   rw [this,d];simp?
  have n1:0≤y0*low:=oG 0#c l0
  have n2:0≤(-x0)*low:=oG 0#c l0
  have k1:-y1≤(-y1)*high:=by rw [yR];exact kK hh 0#c
  have k2:x1≤x1*high:=by rw [yR];exact kK hh 0#c
  simp?
theorem lQ {B:Int} (hy:0≤y) (hh:340282366920938463463374607431768211456≤h) (hm:y*h≤B) (hB:B<115792089237316195423570985008687907853269984665640564039457584007913129639936):y≤340282366920938463463374607431768211456:=by
 by_cases c:y≤340282366920938463463374607431768211456
 ·exact c
 ·have:=C2 (a:=340282366920938463463374607431768211456) (c:=y) (b:=340282366920938463463374607431768211456) (d:=h) 0#c hh 0#c hy
  simp?
theorem ju.small (h:ju H L high low x0 y0 x1 y1) (hy:y0≠0) (hL:L≤H) (hH:H<115792089237316195423570985008687907853269984665640564039457584007913129639936) :
 x0.natAbs≤340282366920938463463374607431768211456∧y0.natAbs≤340282366920938463463374607431768211456∧x1.natAbs≤340282366920938463463374607431768211456∧y1.natAbs≤340282366920938463463374607431768211456:=by
 obtain ⟨sg,eh,el,l0,lh,st⟩:=h
 rcases st with ⟨_,z,_⟩ | ⟨_,hl,hh,ax,ay⟩
 ·exact absurd z hy
 rcases sg with ⟨d,a,b,c,e⟩ | ⟨d,a,b,c,e⟩
 ·have e1:y1*high+(-y0)*low=H:=by
   have:y1*high+(-y0)*low=(x0*y1-x1*y0)*H:=by rw [← eh,← el];grind
   rw [this,d];simp?
  have e2:(-x1)*high+x0*low=L:=by
   have:(-x1)*high+x0*low=(x0*y1-x1*y0)*L:=by rw [← eh,← el];grind
   rw [this,d];simp?
  have n1:0≤(-y0)*low:=oG 0#c l0
  have n2:0≤x0*low:=oG 0#c l0
  have k1:=lQ (y:=y1) (B:=H) 0#c hh 0#c hH
  have k2:=lQ (y:=-x1) (B:=H) 0#c hh 0#c hH
  simp?
 ·have e1:(-y1)*high+y0*low=H:=by
   have:(-y1)*high+y0*low=-(x0*y1-x1*y0)*H:=by rw [← eh,← el];grind
   rw [this,d];simp?
  have e2:x1*high+(-x0)*low=L:=by
   have:x1*high+(-x0)*low=-(x0*y1-x1*y0)*L:=by rw [← eh,← el];grind
   rw [this,d];simp?
  have n1:0≤y0*low:=oG 0#c l0
  have n2:0≤(-x0)*low:=oG 0#c l0
  have k1:=lQ (y:=-y1) (B:=H) 0#c hh 0#c hH
  have k2:=lQ (y:=x1) (B:=H) 0#c hh 0#c hH
  simp?
theorem RJ {M:Int} (hx:x.natAbs≤M) (hy:y.natAbs≤M) (f0:0≤f) (f1:f≤T) (r0:0≤r) (r1:r≤T) (hs:(0≤x∧y≤0)∨(x≤0∧0≤y)):(x*f+y*r).natAbs≤M*T:=by
 rcases hs with ⟨a,b⟩ | ⟨a,b⟩
 ·have k1:=C2 (a:=x) (c:=M) (b:=f) (d:=T) 0#c f1 f0 0#c
  have k2:=C2 (a:=-y) (c:=M) (b:=r) (d:=T) 0#c r1 r0 0#c
  have k3:=oG a f0
  have k4:=oG (a:=-y) (b:=r) 0#c r0
  rw [Ov] at k2 k4
  simp?
 ·have k1:=C2 (a:=-x) (c:=M) (b:=f) (d:=T) 0#c f1 f0 0#c
  have k2:=C2 (a:=y) (c:=M) (b:=r) (d:=T) 0#c r1 r0 0#c
  have k3:=oG (a:=-x) (b:=f) 0#c f0
  have k4:=oG (a:=y) (b:=r) 0#c r0
  rw [Ov] at k1 k3
  simp?
theorem ju.less (h:ju H L high low x0 y0 x1 y1) (hy:y0≠0) (hL:L≤H) (h1:57896044618658097711785492504343953926634992332820282019728792003956564819968≤H)
 (hH:H<115792089237316195423570985008687907853269984665640564039457584007913129639936) (hl:low≤340282366920938463463374607431768211456) (f0:0≤f) (f1:f<T) (r0:0≤r) (r1:r<T) :
 (x0*(H*T+f)+y0*(L*T+r)).natAbs+(x1*(H*T+f)+y1*(L*T+r)).natAbs<(H*T+f).natAbs+(L*T+r).natAbs:=by
 obtain ⟨sx0,sy0,sx1,sy1⟩:=h.small hy hL hH
 obtain ⟨sg,eh,el,l0,lh,st⟩:=h
 rcases st with ⟨_,z,_⟩ | ⟨_,hhL,hh,ax,ay⟩
 ·exact absurd z hy
 have A:x0*(H*T+f)+y0*(L*T+r)=high*T+(x0*f+y0*r):=by rw [← eh];grind
 have B:x1*(H*T+f)+y1*(L*T+r)=low*T+(x1*f+y1*r):=by rw [← el];grind
 have mA:=RJ (x:=x0) (y:=y0) (f:=f) (r:=r) (T:=T) (M:=340282366920938463463374607431768211456) 0#c 0#c f0 0#c r0 0#c (by rcases sg with ⟨d,a,b,c,e⟩ | ⟨d,a,b,c,e⟩ <;> simp?)
 have mB:=RJ (x:=x1) (y:=y1) (f:=f) (r:=r) (T:=T) (M:=340282366920938463463374607431768211456) 0#c 0#c f0 0#c r0 0#c (by rcases sg with ⟨d,a,b,c,e⟩ | ⟨d,a,b,c,e⟩ <;> simp?)
 have t1:0≤high*T:=oG 0#c 0#c
 have t2:0≤low*T:=oG l0 0#c
 have t3:high*T≤L*T:=Kl hhL 0#c
 have t4:low*T≤340282366920938463463374607431768211456*T:=Kl hl 0#c
 have t5:57896044618658097711785492504343953926634992332820282019728792003956564819968*T≤H*T:=Kl h1 0#c
 rw [A,B]
 simp?
theorem Nf (d:x0*y1-x1*y0=1∨x0*y1-x1*y0=-1):cK (x0*a+y0*b) (x1*a+y1*b)=cK a b:=by
 refine Nat.dvd_antisymm ?_ ?_
 ·have h1:(cK (x0*a+y0*b) (x1*a+y1*b):Int)∣x0*a+y0*b:=J4 ..
  have h2:(cK (x0*a+y0*b) (x1*a+y1*b):Int)∣x1*a+y1*b:=J3 ..
  generalize (cK (x0*a+y0*b) (x1*a+y1*b))=g at h1 h2
  obtain ⟨u,hu⟩:=h1
  obtain ⟨v,hv⟩:=h2
  refine ZA ?_ ?_
  ·rcases d with d | d
   ·exact ⟨y1*u-y0*v,by
     have:(x0*y1-x1*y0)*a=g*(y1*u-y0*v):=by grind
     rw [d] at this;simp?⟩
   ·exact ⟨-(y1*u-y0*v),by
     have:-(x0*y1-x1*y0)*a=g*(-(y1*u-y0*v)):=by grind
     rw [d] at this;simp?⟩
  ·rcases d with d | d
   ·exact ⟨x0*v-x1*u,by
     have:(x0*y1-x1*y0)*b=g*(x0*v-x1*u):=by grind
     rw [d] at this;simp?⟩
   ·exact ⟨-(x0*v-x1*u),by
     have:-(x0*y1-x1*y0)*b=g*(-(x0*v-x1*u)):=by grind
     rw [d] at this;simp?⟩
 ·have h1:(cK a b:Int)∣a:=J4 ..
  have h2:(cK a b:Int)∣b:=J3 ..
  exact ZA (ZC (NS h1) (NS h2)) (ZC (NS h1) (NS h2))
theorem ju.gcd (h:ju H L high low x0 y0 x1 y1):cK (x0*a+y0*b) (x1*a+y1*b)=cK a b:=
 Nf (h.sg.imp (·.1) (·.1))
theorem Ng (lo:(2:Int) ^ (255+t)≤x) (hi:x<(2:Int) ^ (256+t)) :
 57896044618658097711785492504343953926634992332820282019728792003956564819968≤x/2 ^ t∧x/2 ^ t<115792089237316195423570985008687907853269984665640564039457584007913129639936:=by
 have tp:(0:Int)<2 ^ t:=UI 0#i
 refine ⟨(X0 tp).mpr ?_,(Int.ediv_lt_iff_lt_mul tp).mpr ?_⟩
 ·rw [ZD] at lo;exact lo
 ·rw [ZD] at hi;exact hi
theorem K4 (h:ju H L high low x0 y0 x1 y1) (hy:y0≠0) (yx:y≤x) (lo:(2:Int) ^ (255+t)≤x) (hi:x<(2:Int) ^ (256+t))
 (eH:H=x/2 ^ t) (eL:L=y/2 ^ t) (hl:low≤340282366920938463463374607431768211456) :
 (x0*x+y0*y).natAbs+(x1*x+y1*y).natAbs<x.natAbs+y.natAbs:=by
 have tp:(0:Int)<2 ^ t:=UI 0#i
 have hd:=Ng lo hi
 have e1:=JU x (2 ^ t)
 have e2:=JU y (2 ^ t)
 have m1:=yQ x (b:=2 ^ t) 0#c
 have m2:=yQ y (b:=2 ^ t) 0#c
 have l1:=wY x tp
 have l2:=wY y tp
 have hLH:L≤H:=by rw [eH,eL];exact Uh tp yx
 have:=h.less hy hLH (by rw [eH];exact hd.1) (by rw [eH];exact hd.2) hl m1 l1 m2 l2
 rw [eH,eL,yR (x/2 ^ t),yR (y/2 ^ t),e1,e2] at this
 exact this
theorem uE (hp:p=if b>a then b else a) (hq:q=if b<a then b else a):cK p q=cK a b:=by
 subst hp hq
 by_cases h:b>a
 ·rw [if_pos h,if_neg 0#c];exact UA b a
 ·by_cases k:b<a
  ·rw [if_neg h,if_pos k]
  ·have:a=b:=by simp?
   subst this;simp
theorem RL (A B:Nat):0≤(if (B:Int)<(A:Int) then (B:Int) else (A:Int)):=by
 split
 ·exact N6 _
 ·exact N6 _
theorem Lk (A B:Nat):((if (B:Int)>(A:Int) then (B:Int) else (A:Int))=(B:Int)∧(if (B:Int)<(A:Int) then (B:Int) else (A:Int))=(A:Int)∧(A:Int)≤(B:Int))∨((if (B:Int)>(A:Int) then (B:Int) else (A:Int))=(A:Int)∧(if (B:Int)<(A:Int) then (B:Int) else (A:Int))=(B:Int)∧(B:Int)≤(A:Int)):=by
 rcases Zr (A:Int) (B:Int) with h | h
 ·exact .inl ⟨if_pos h,if_neg (uh.mpr (UB h)),UB h⟩
 ·refine .inr ⟨if_neg (uh.mpr h),?_,h⟩
  split
  ·rfl
  ·rename_i h2
   exact Int.le_antisymm (uh.mp h2) h
theorem RK (A B:Nat):(if (B:Int)<(A:Int) then (B:Int) else (A:Int))≤(if (B:Int)>(A:Int) then (B:Int) else (A:Int)):=by
 rcases Lk A B with ⟨e1,e2,h⟩ | ⟨e1,e2,h⟩ <;> rw [e1,e2] <;> exact h
theorem Lj {z:Int} (h:A+B≤z.natAbs):((if (B:Int)>(A:Int) then (B:Int) else (A:Int))+(if (B:Int)<(A:Int) then (B:Int) else (A:Int))).natAbs≤z.natAbs:=by
 rcases Lk A B with ⟨e1,e2,_⟩ | ⟨e1,e2,_⟩ <;> rw [e1,e2]
 ·exact eE (Oa _ _) (by rw [zP];exact h)
 ·exact eE (Oa _ _) h
theorem Xo {A:Nat} (ls:A+B<x.natAbs+y.natAbs) (y0:0≤y) (yx:y≤x):Ox (if (B:Int)>(A:Int) then (B:Int) else (A:Int))+Ox (if (B:Int)<(A:Int) then (B:Int) else (A:Int))<Ox x+Ox y:=by
 have ex:x.toNat=x.natAbs:=Ym (Ou y0 yx) |> fun e=>Zh (e.trans (Yi (Ou y0 yx)).symm)
 have ey:y.toNat=y.natAbs:=Ym y0 |> fun e=>Zh (e.trans (Yi y0).symm)
 rw [ex,ey]
 rcases Lk A B with ⟨e1,e2,_⟩ | ⟨e1,e2,_⟩ <;> rw [e1,e2,Ud,Ud]
 ·rw [zP]
  exact ls
 ·exact ls
theorem nab {a:Int} (ha:a.natAbs≤p) (hb:b.natAbs≤q) (h:p+q≤r):(a+b).natAbs≤r:=eE (Oa a b) (eE (Nat.add_le_add ha hb) h)
theorem afc {w:Int} (h0:0≤w) (h5:w<5):(w-1).natAbs≤3:=by lia
theorem acP {z:Int} (h0:0≤z) (h:z<25):(z-12).natAbs≤12:=by lia
theorem afb {w:Int} (h0:0≤w) (h5:w<3):w.natAbs≤12:=by lia
theorem afd {st:Int} (h0:0≤st) (h:st≤2*1009):(1+st).natAbs≤2100:=by lia
theorem Xp {x:Int} (ls:A+B<x.natAbs+y.natAbs) (y0:0≤y) (yx:y≤x):A+B≤(x+y).natAbs:=by simp?
theorem aai (y0:0≤y):1*x+-(x.fdiv y)*y=x % y:=by
 have em:=JU x y
 rw [yR] at em
 rw [yN _ y0,Ov]
 simp?
theorem VC {x:Int} (y1:1≤y) (yx:y≤x):(0*x+1*y).natAbs+(1*x+-(x.fdiv y)*y).natAbs<x.natAbs+y.natAbs:=by
 have m0:=yQ x (b:=y) 0#c
 have m1:=wY x (b:=y) 0#c
 rw [aai 0#c]
 simp?
structure Qt (t b:Int) (q:Rat):Prop where
 pos:1≤b
 eq:(t:Rat)=q*(b:Rat)
structure Fr (t b:Int) (q:Rat):Prop where
 pos:1≤b
 co:cK t b=1
 eq:(t:Rat)=q*(b:Rat)
theorem Fr.qt (h:Fr t b q):Qt t b q:=⟨h.pos,h.eq⟩
theorem cS {b:Int} (h:b≠0):(b:Rat)≠0:=by
 intro e
 apply h
 have:((b:Int):Rat)=((0:Int):Rat):=by rw [e];rfl
 exact J7.mp this
theorem Fr.LC (h:W5 T B t b) (hB:B≠0) (e:(T:Rat)=q*(B:Rat)):Fr t b q:=by
 refine ⟨h.pos,h.co,?_⟩
 have k:=congrArg (fun x:Int=>(x:Rat)) h.eq
 simp only [o9] at k
 have hB':=cS hB
 grind
theorem Fr.unique (h:Fr t b q) (h':Fr t' b' q):t=t'∧b=b':=by
 refine Le h.pos h'.pos h.co h'.co ?_
 have e:((t*b':Int):Rat)=((t'*b:Int):Rat):=by
  have e1:=h.eq
  have e2:=h'.eq
  simp only [o9]
  grind
 exact J7.mp e
theorem Fr.worth (h:Fr t b q) (h':Fr t' b' q') (e:t=t') (e':b=b'):q=q':=by
 subst e e'
 have hb:=cS (b:=b) (by have:=h.pos;simp?)
 have e1:=h.eq
 have e2:=h'.eq
 grind
theorem mF {b:Int} (hb:1≤b) (hd:1≤d):1≤b*d:=by
 have:=wQ (show 0<b by simp?) (show 0<d by simp?)
 simp?
theorem Qt.plus (h:Qt a b q) (k:Qt c d r):Qt (a*d+c*b) (b*d) (q+r):=by
 refine ⟨mF h.pos k.pos,?_⟩
 have e1:=h.eq
 have e2:=k.eq
 simp only [o9,YU]
 grind
theorem Qt.minus (h:Qt a b q) (k:Qt c d r):Qt (a*d-c*b) (b*d) (q-r):=by
 refine ⟨mF h.pos k.pos,?_⟩
 have e1:=h.eq
 have e2:=k.eq
 simp only [o9,qG]
 grind
theorem Qt.times (h:Qt a b q) (k:Qt c d r):Qt (a*c) (b*d) (q*r):=by
 refine ⟨mF h.pos k.pos,?_⟩
 have e1:=h.eq
 have e2:=k.eq
 simp only [o9]
 grind
theorem Qt.neg (h:Qt a b q):Qt (-a) b (-q):=by
 refine ⟨h.pos,?_⟩
 have e1:=h.eq
 simp only [Oi]
 grind
theorem Qt.whole (m:Int):Qt m 1 (m:Rat):=⟨by simp?,by simp⟩
theorem Fr.whole (m:Int):Fr m 1 (m:Rat):=⟨by simp?,by simp,by simp⟩
theorem Qt.div (h:Qt a b q) (hs:0<s):Qt a (b*s) (q/(s:Rat)):=by
 refine ⟨mF h.pos 0#c,?_⟩
 have e1:=h.eq
 have hs':=cS (b:=s) 0#c
 simp only [o9]
 grind
theorem Qt.aeD (h:Qt a b q) (hs:s<0):Qt (-a) (b*-s) (q/(s:Rat)):=by
 have k:=h.neg.div (s:=-s) 0#c
 have hs':=cS (b:=s) 0#c
 have e:-q/((-s:Int):Rat)=q/(s:Rat):=by
  simp only [Oi]
  grind
 rw [e] at k
 exact k
theorem Wq (h:Qt a b q) (k:Qt c d r) (hc:c≠0):b*c≠0∧((a*d:Int):Rat)=q/r*((b*c:Int):Rat):=by
 have hb:=h.pos
 have hd:=k.pos
 refine ⟨Int.mul_ne_zero 0#c hc,?_⟩
 have e1:=h.eq
 have e2:=k.eq
 have hc':=cS hc
 have hd':=cS (b:=d) 0#c
 have hr:r≠0:=by
  intro z
  rw [z] at e2
  apply hc'
  grind
 simp only [o9]
 grind
theorem Qt.TY (h:Qt a b q):a=0↔q=0:=by
 have e:=h.eq
 have hb:=cS (b:=b) (by have:=h.pos;simp?)
 constructor
 ·intro z
  subst z
  have:(0:Rat)=q*(b:Rat):=by rw [← e];rfl
  grind
 ·intro z
  subst z
  have:((a:Int):Rat)=((0:Int):Rat):=by rw [e];grind
  exact J7.mp this
theorem Qt.lt_iff (h:Qt a b q) (k:Qt c d r):a*d<c*b↔q<r:=by
 have e1:=h.eq
 have e2:=k.eq
 have hb:(0:Rat)<(b:Rat):=by have:=h.pos;exact Oj.mpr 0#c
 have hd:(0:Rat)<(d:Rat):=by have:=k.pos;exact Oj.mpr 0#c
 have hbd:(0:Rat)<(b:Rat)*(d:Rat):=ZE hb hd
 have l:((a*d:Int):Rat)=q*((b:Rat)*(d:Rat)):=by simp only [o9];grind
 have m:((c*b:Int):Rat)=r*((b:Rat)*(d:Rat)):=by simp only [o9];grind
 rw [← vc,l,m]
 exact HL hbd
def dB (q:Rat):Rat:=if q<0 then -q else q
theorem WG (q:Rat):0≤dB q:=by unfold dB;split <;> grind
theorem sX:dB q≤w↔-w≤q∧q≤w:=by unfold dB;split <;> grind
theorem Qt.abs (h:Qt a b q):Qt (a.natAbs:Int) b (dB q):=by
 have hb:(0:Rat)<(b:Rat):=by have:=h.pos;exact Oj.mpr 0#c
 have z:a<0↔q<0:=by
  have l:=Qt.lt_iff h (Qt.whole 0)
  simp at l
  exact l
 unfold dB
 by_cases h0:a<0
 ·rw [if_pos (z.mp h0)]
  have e:(a.natAbs:Int)=-a:=by simp?
  rw [e]
  exact h.neg
 ·rw [if_neg (fun q=>h0 (z.mpr q))]
  have e:(a.natAbs:Int)=a:=by simp?
  rw [e]
  exact h
def cZ (t:Rat) (q:Rat) (u:Rat) (t':Rat) (q':Rat):Rat:=(q*(t'-u)+q'*(u-t))/(t'-t)
theorem yW (h:t≠t'):q+(q'-q)/(t'-t)*(u-t)=cZ t q u t' q':=by
 unfold cZ
 have:t'-t≠0:=by grind
 grind
theorem Fr.own (q:Rat):Fr q.num (q.den:Int) q:=by
 have hp:=q.den_pos
 have hd:((q.den:Int):Rat)≠0:=cS 0#c
 refine ⟨by simp?,?_,?_⟩
 ·have:=q.reduced
  exact this
 ·have h:=Rat.num_divInt_den q
  rw [Rat.divInt_eq_div] at h
  grind
theorem Fr.Ge (h:Fr t b q):t=q.num∧b=(q.den:Int):=h.unique (Fr.own q)
def cy {α:Type} (s:α→Bool) (es:List α) (i:Nat):Bool:=decide (0<i)&&((es[i-1]?).map s).getD false
def parts {α:Type} (s:α→Bool) (es:List α):Nat→List (List α)
 | 0=>[]
 | i+1=>match es[i]? with
   | none=>parts s es i
   | some e=>if s e=true then (if cy s es i=true then (parts s es i).dropLast++[((parts s es i).getLast?.getD [])++[e]] else parts s es i++[[e]]) else parts s es i
section
variable {α:Type} {s:α→Bool} {es:List α} {i:Nat} {e:α}
theorem jh (h:es[i]?=some e) (hs:s e=false):parts s es (i+1)=parts s es i:=by
 show (match es[i]? with | none=>_ | some e=>_)=_
 rw [h]
 show (if s e=true then _ else _)=_
 rw [hs]
 rfl
theorem iu (h:es[i]?=some e) (hs:s e=true) (hi:cy s es i=false):parts s es (i+1)=parts s es i++[[e]]:=by
 show (match es[i]? with | none=>_ | some e=>_)=_
 rw [h]
 show (if s e=true then (if cy s es i=true then _ else _) else _)=_
 rw [hs,hi]
 rfl
theorem jx (h:es[i]?=some e) (hs:s e=true) (hi:cy s es i=true) (hp:parts s es i=t++[r]):parts s es (i+1)=t++[r++[e]]:=by
 show (match es[i]? with | none=>_ | some e=>_)=_
 rw [h]
 show (if s e=true then (if cy s es i=true then _ else _) else _)=_
 rw [hs,hi,hp]
 simp
theorem sU:∀i:Nat,(parts s es i).length≤i
 | 0=>dz _
 | i+1=>by
   have ih:=sU i
   show (match es[i]? with | none=>_ | some e=>_:List (List α)).length≤i+1
   cases es[i]? with
   | none=>exact zK ih
   | some e=>
     show (if s e=true then (if cy s es i=true then _ else _) else _:List (List α)).length≤i+1
     split
     ·split
      ·rw [fq,List.length_dropLast]
       simp
       simp?
      ·rw [fq]
       simp
       simp?
     ·exact zK ih
theorem rB (h:cy s es i=true):∃t r,parts s es i=t++[r]:=by
 unfold cy at h
 rw [CZ] at h
 obtain ⟨h0,h1⟩:=h
 have h0:=jM h0
 obtain ⟨j,rfl⟩:∃j,i=j+1:=⟨i-1,by simp?⟩
 rw [J0] at h1
 cases e:es[j]? with
 | none=>rw [e] at h1;simp at h1
 | some d=>
   rw [e] at h1
   have hd:s d=true:=by simpa using h1
   cases hr:cy s es j with
   | true=>
     refine ⟨(parts s es j).dropLast,((parts s es j).getLast?.getD [])++[d],?_⟩
     show (match es[j]? with | none=>_ | some e=>_)=_
     rw [e]
     show (if s d=true then (if cy s es j=true then _ else _) else _)=_
     rw [hd,hr]
     rfl
   | false=>exact ⟨_,_,iu e hd hr⟩
theorem BX:∀(i:Nat) (r:List α),r∈parts s es i→r.length≤i
 | 0,r,h=>absurd h (by simp [parts])
 | i+1,r,h=>by
   have ih:=BX i
   unfold parts at h
   cases e:es[i]? with
   | none=>rw [e] at h;exact zK (ih r h)
   | some y=>
     rw [e] at h
     dsimp only at h
     split at h
     ·split at h
      ·rcases dN.mp h with z | z
       ·exact zK (ih r (Yb _ |>.subset z))
       ·obtain rfl:r=((parts s es i).getLast?.getD [])++[y]:=by simpa using z
        rw [fq]
        cases g:(parts s es i).getLast? with
        | none=>simp
        | some r'=>
          have:=ih r' (List.mem_of_getLast? g)
          simp
          simp?
      ·rcases dN.mp h with z | z
       ·exact zK (ih r z)
       ·obtain rfl:r=[y]:=by simpa using z
        simp
     ·exact zK (ih r h)
theorem iW (h:es[i]?=some e):cy s es (i+1)=s e:=by
 unfold cy
 rw [J0,h]
 simp
end
theorem vU (h:0<s):dB (q*s)=dB q*s:=by
 unfold dB
 by_cases h0:q<0
 ·have:q*s<0:=by
   have:=HG h0 h
   grind
  rw [if_pos h0,if_pos this]
  grind
 ·have:¬q*s<0:=by
   have h1:0≤q:=by grind
   have:=Rat.mul_nonneg h1 (show 0≤s by grind)
   grind
  rw [if_neg h0,if_neg this]
theorem cast_pos {b:Int} (h:0<b):(0:Rat)<(b:Rat):=Oj.mpr h
theorem yV {t:Int} (h:t<t'):((t':Rat)-(t:Rat))≠0:=by
 have:(t:Rat)<(t':Rat):=vc.mpr h
 grind
theorem lT (h:t'-t≠0):cZ t q u t' q'*(t'-t)=q*(t'-u)+q'*(u-t):=by
 unfold cZ
 grind
theorem aaf (hi:Fr a b qi) (hj:Fr a' b' qj) (hp:Fr c e qp) (h:ti<tj) :
 Qt (c*(b'*b*(tj-ti))-e*(a*(b'*(tj-ti))+(a'*b-a*b')*(tp-ti))) e ((qp-cZ ti qi tp tj qj)*((b'*b*(tj-ti):Int):Rat)):=by
 refine ⟨hp.pos,?_⟩
 have e1:=hi.eq
 have e2:=hj.eq
 have e3:=hp.eq
 have hX:=lT (t:=(ti:Rat)) (q:=qi) (u:=(tp:Rat)) (t':=(tj:Rat)) (q':=qj) (yV h)
 simp only [o9,qG,YU]
 generalize cZ (ti:Rat) qi (tp:Rat) (tj:Rat) qj=X at *
 grind
structure jL (s:Nat→Rat) (i m k:Nat):Prop where
 lo:i<k
 hi:k<m
 top:∀k',i<k'→k'<m→s k'≤s k
 fst:∀k',i<k'→k'<k→s k'<s k
section
variable {s s':Nat→Rat} {i m k k':Nat} {c:Rat}
theorem jL.first:jL s i (i+2) (i+1):=⟨by simp?,by simp?,fun k' h1 h2=>by
 obtain rfl:k'=i+1:=by simp?
 exact o5,fun k' h1 h2=>by simp?⟩
theorem jL.keep (h:jL s i m k) (h1:s m≤s k):jL s i (m+1) k:=⟨h.lo,by have:=h.hi;simp?,fun k' h2 h3=>by
 by_cases e:k'=m
 ·subst e;exact h1
 ·exact h.top k' h2 0#c,h.fst⟩
theorem jL.next (h:jL s i m k) (h1:s k<s m):jL s i (m+1) m:=⟨by have:=h.lo;have:=h.hi;simp?,by simp?,fun k' h2 h3=>by
 by_cases e:k'=m
 ·subst e;exact o5
 ·have:=h.top k' h2 0#c
  grind,fun k' h2 h3=>by
 have:=h.top k' h2 0#c
 grind⟩
theorem jL.unique (h:jL s i m k) (h':jL s i m k'):k=k':=by
 by_cases e:k<k'
 ·have h1:=h'.fst k h.lo e
  have h2:=h.top k' h'.lo h'.hi
  grind
 ·by_cases e':k'<k
  ·have h1:=h.fst k' h'.lo e'
   have h2:=h'.top k h.lo h.hi
   grind
  ·simp?
end
structure lH (L:Nat→Nat→Prop) (N:Nat) (t:Nat→Int):Prop where
 first:t 0=0
 le:∀i j,i<j→j<N→L i j→t j≤t i+1
 ex:∀j,0<j→j<N→∃i,i<j∧L i j∧t j=t i+1
structure pL (L:Nat→Nat→Prop) (N f:Nat) (t:Nat→Int):Prop where
 first:t 0=0
 le:∀i j,i<f→i<j→j<N→L i j→t j≤t i+1
 ex:∀j,0<j→j<N→t j=(N:Int)∨∃i,i<f∧i<j∧L i j∧t j=t i+1
 lo:∀j,j<N→0≤t j
 hi:∀j,j<N→t j≤(N:Int)
section
theorem pL.start:pL L N 0 (fun j=>if j=0 then 0 else (N:Int)):=by
 refine ⟨rfl,fun i j h=>absurd h (D7 _),fun j h0 _=>.inl (if_neg 0#c),fun j _=>?_,fun j _=>?_⟩ <;> (show _≤_;split <;> simp?)
theorem pL.step (h:pL L N f t) (hL:∀j,L f j→f<j) (e:∀j,j<N→(L f j→u j=if t f+1<t j then t f+1 else t j)∧(¬L f j→u j=t j)) (hf:f<N):pL L N (f+1) u:=by
 have same:∀i,i≤f→i<N→u i=t i:=fun i hi hN=>(e i hN).2 fun z=>by have:=hL i z;simp?
 have h0:u 0=0:=by rw [same 0 0#c 0#c];exact h.first
 have hl:=h.lo f hf
 refine ⟨h0,fun i j hi hij hj ace=>?_,fun j h0j hj=>?_,fun j hj=>?_,fun j hj=>?_⟩
 ·rw [same i 0#c 0#c]
  by_cases hi':i=f
  ·subst hi'
   rw [(e j hj).1 ace]
   split <;> simp?
  ·have h1:=h.le i j 0#c hij hj ace
   by_cases hLf:L f j
   ·rw [(e j hj).1 hLf]
    split <;> simp?
   ·rw [(e j hj).2 hLf]
    exact h1
 ·by_cases hLf:L f j
  ·have hfj:=hL j hLf
   have ej:=(e j hj).1 hLf
   by_cases hc:t f+1<t j
   ·rw [if_pos hc] at ej
    exact .inr ⟨f,by simp?,hfj,hLf,by rw [ej,same f 0#c hf]⟩
   ·rw [if_neg hc] at ej
    rcases h.ex j h0j hj with z | ⟨i,i1,i2,i3,i4⟩
    ·exact .inl (ej.trans z)
    ·exact .inr ⟨i,by simp?,i2,i3,by rw [ej,same i 0#c 0#c];exact i4⟩
  ·have ej:=(e j hj).2 hLf
   rcases h.ex j h0j hj with z | ⟨i,i1,i2,i3,i4⟩
   ·exact .inl (ej.trans z)
   ·exact .inr ⟨i,by simp?,i2,i3,by rw [ej,same i 0#c 0#c];exact i4⟩
 ·have h1:=h.lo j hj
  by_cases hLf:L f j
  ·rw [(e j hj).1 hLf]
   split <;> simp?
  ·rw [(e j hj).2 hLf]
   exact h1
 ·have h1:=h.hi j hj
  by_cases hLf:L f j
  ·rw [(e j hj).1 hLf]
   split <;> simp?
  ·rw [(e j hj).2 hLf]
   exact h1
theorem pL.done (h:pL L N f t) (hs:∀j,0<j→j<N→L (j-1) j) (hf:N≤f+1):lH L N t:=by
 have up:∀j,j<N→t j≤(j:Int):=by
  intro j
  induction j with
  | zero=>intro _;rw [h.first];simp?
  | succ j ih=>
    intro hj
    have h1:=ih 0#c
    have h2:=h.le j (j+1) 0#c 0#c hj (hs (j+1) 0#c hj)
    simp?
 refine ⟨h.first,fun i j hij hj hL=>h.le i j 0#c hij hj hL,fun j h0 hj=>?_⟩
 rcases h.ex j h0 hj with z | ⟨i,i1,i2,i3,i4⟩
 ·have:=up j hj
  simp?
 ·exact ⟨i,i2,i3,i4⟩
end
theorem DF {α:Type} (N:Nat) (f:Nat→α) (j:Nat) (v:α):((fu N).map f).set j v=(fu N).map (fun i=>if i=j then v else f i):=by
 apply YD
 intro i
 rw [List.getElem?_set]
 by_cases hi:i<N
 ·rw [dm,HN hi,dm,HN hi]
  by_cases e:j=i
  ·subst e
   simp [hi]
  ·have e':¬i=j:=fun z=>e z.symm
   simp [e,e']
 ·have h1:(fu N)[i]?=none:=by simp;simp?
  rw [dm,dm,h1]
  by_cases e:j=i
  ·subst e
   simp;simp?
  ·simp [e]
theorem vJ {α:Type} {f:Nat→α} (h:j<N):((fu N).map f)[j]?=some (f j):=by
 rw [dm,HN h]
 rfl
theorem sY {a:Rat} (h:0<c):a/c≤b↔a≤b*c:=by
 have e:a/c*c=a:=by grind
 constructor
 ·intro z
  have:=yM z (show 0≤c by grind)
  rw [e] at this
  exact this
 ·intro z
  exact NP (by rw [e];exact z) h
theorem nC {a:Rat} (h:0<c):a≤b/c↔a*c≤b:=by
 have e:b/c*c=b:=by grind
 constructor
 ·intro z
  have:=yM z (show 0≤c by grind)
  rw [e] at this
  exact this
 ·intro z
  exact NP (by rw [e];exact z) h
theorem Ff (h1:ti<tk) (h2:tk<tj) :
 dB (qk-cZ ti qi tk tj qj)≤β↔(qk-β-qi)/(tk-ti)≤(qj-qi)/(tj-ti)∧(qj-qi)/(tj-ti)≤(qk+β-qi)/(tk-ti):=by
 rw [← yW (u:=tk) (show ti≠tj by grind)]
 have hd:0<tk-ti:=by grind
 generalize (qj-qi)/(tj-ti)=s
 rw [sX,sY hd,nC hd]
 constructor <;> rintro ⟨a,b⟩ <;> constructor <;> grind
section
def loP (t v:Nat→Rat) (B:Rat) (i j:Nat):Rat:=(v j-B-v i)/(t j-t i)
def hiP (t v:Nat→Rat) (B:Rat) (i j:Nat):Rat:=(v j+B-v i)/(t j-t i)
def WV (t v:Nat→Rat) (i j k:Nat):Rat:=v j-cZ (t i) (v i) (t j) (t k) (v k)
def abS (t:Nat→Rat) (n:Nat):Prop:=∀i j,i<j→j<n→t i<t j
theorem qT (s:Rat) (h:ta<tc):cZ ta (x-s*ta) tb tc (y-s*tc)=cZ ta x tb tc y-s*tb:=by
 have h1:=lT (t:=ta) (q:=x-s*ta) (u:=tb) (t':=tc) (q':=y-s*tc) (by grind)
 have h2:=lT (t:=ta) (q:=x) (u:=tb) (t':=tc) (q':=y) (by grind)
 have h0:tc-ta≠0:=by grind
 have e:(cZ ta (x-s*ta) tb tc (y-s*tc)-(cZ ta x tb tc y-s*tb))*(tc-ta)=0:=by grind
 rcases YV.mp e with z | z
 ·grind
 ·exact absurd z h0
theorem Ii (h1:ta<tb) (h2:tb<tc) (hx:x<M) (hy:y<M):cZ ta x tb tc y<M:=by
 have e:=lT (t:=ta) (q:=x) (u:=tb) (t':=tc) (q':=y) (by grind)
 have p1:=(HL (show 0<tc-tb by grind)).mpr hx
 have p2:=(HL (show 0<tb-ta by grind)).mpr hy
 refine (HL (show 0<tc-ta by grind)).mp ?_
 rw [e]
 grind
theorem Ih (h1:ta<tb) (h2:tb<tc) (hx:M<x) (hy:M<y):M<cZ ta x tb tc y:=by
 have e:=lT (t:=ta) (q:=x) (u:=tb) (t':=tc) (q':=y) (by grind)
 have p1:=(HL (show 0<tc-tb by grind)).mpr hx
 have p2:=(HL (show 0<tb-ta by grind)).mpr hy
 refine (HL (show 0<tc-ta by grind)).mp ?_
 rw [e]
 grind
theorem MY (h1:t i<t j) (h2:t j<t k) (a:B<(v j-s*t j)-(v i-s*t i)) (b:B<(v j-s*t j)-(v k-s*t k)):B<WV t v i j k:=by
 have c:=Ii (M:=v j-s*t j-B) h1 h2 (show v i-s*t i<_ by grind) (show v k-s*t k<_ by grind)
 rw [qT s (by grind)] at c
 unfold WV
 grind
theorem MZ (h1:t i<t j) (h2:t j<t k) (a:B<(v i-s*t i)-(v j-s*t j)) (b:B<(v k-s*t k)-(v j-s*t j)):B < -WV t v i j k:=by
 have c:=Ih (M:=v j-s*t j+B) h1 h2 (show _<v i-s*t i by grind) (show _<v k-s*t k by grind)
 rw [qT s (by grind)] at c
 unfold WV
 grind
theorem WE (h:w<q∨w < -q):w<dB q:=by
 unfold dB
 split <;> grind
theorem ack (hr:abS t n) (hp:∀i j k,i<j→j<k→k<n→dB (WV t v i j k)≤B) (hB:0≤B) (hij:i<j) (hj:j<n) (Rn:k<l) (hl:l<n):loP t v B i j≤hiP t v B k l:=by
 apply jm.mp
 intro hlt
 have dj:=hr i j hij hj
 have dl:=hr k l Rn hl
 obtain ⟨s,s1,s2⟩:∃s,hiP t v B k l<s∧s<loP t v B i j:=⟨(hiP t v B k l+loP t v B i j)/2,by grind,by grind⟩
 have e1:B<(v j-s*t j)-(v i-s*t i):=by
  have h:=(nC (a:=s) (b:=v j-B-v i) (c:=t j-t i) (by grind))
  have:¬(v j-B-v i)/(t j-t i)≤s:=by unfold loP at s2;grind
  rw [sY (by grind)] at this
  grind
 have e2:B<(v k-s*t k)-(v l-s*t l):=by
  have:¬s≤(v l+B-v k)/(t l-t k):=by unfold hiP at s1;grind
  rw [nC (by grind)] at this
  grind
 have bad:∀a b c,a<b→b<c→c<n→(B<WV t v a b c∨B < -WV t v a b c)→False:=fun a b c h1 h2 h3 h4=>by
  have g1:=hp a b c h1 h2 h3
  have g2:=WE h4
  grind
 by_cases hc:v k-s*t k≤v j-s*t j
 ·by_cases hjl:j<l
  ·exact bad i j l hij hjl hl (.inl (MY dj (hr j l hjl hl) e1 (by grind)))
  ·have hne:j≠l:=fun z=>by subst z;grind
   have hlj:l<j:=by simp?
   exact bad k l j Rn hlj hj (.inr (MZ dl (hr l j hlj hj) e2 (by grind)))
 ·by_cases hik:i<k
  ·exact bad i k l hik Rn hl (.inl (MY (hr i k hik 0#c) dl (by grind) e2))
  ·have hne:i≠k:=fun z=>by subst z;grind
   have hki:k<i:=by simp?
   exact bad k i j hki hij hj (.inr (MZ (hr k i hki 0#c) dj (by grind) e1))
theorem JN (h1:t i<t j) (h2:t j<t k) (a1:loP t v B i j≤s) (a2:s≤hiP t v B i j) (b1:loP t v B j k≤s) (b2:s≤hiP t v B j k):dB (WV t v i j k)≤B:=by
 have h3:t i<t k:=by grind
 unfold loP at a1 b1
 unfold hiP at a2 b2
 rw [sY (by grind)] at a1 b1
 rw [nC (by grind)] at a2 b2
 rw [sX]
 unfold WV
 have e:=qT (ta:=t i) (tb:=t j) (tc:=t k) (x:=v i) (y:=v k) s h3
 constructor
 ·apply jm.mp
  intro z
  have c:=Ii (M:=v j-s*t j-(v j-cZ (t i) (v i) (t j) (t k) (v k))) (x:=v i-s*t i) (y:=v k-s*t k) h1 h2 (by grind) (by grind)
  rw [e] at c
  grind
 ·apply jm.mp
  intro z
  have c:=Ih (M:=v j-s*t j-(v j-cZ (t i) (v i) (t j) (t k) (v k))) (x:=v i-s*t i) (y:=v k-s*t k) h1 h2 (by grind) (by grind)
  rw [e] at c
  grind
end
end Mth
namespace My
open PySem PySem.Spec PyProof.Rows L2 Mth
theorem bQ (hx:Sz m x) (hy:Sz n y) (h:m+n≤134217728:=by decide):IntMulOk x y:=
 IntMulOk.of_le (ET.mpr hx) (ET.mpr hy) h
theorem mulR (h1:-(2 ^ 64)<y) (h2:y<2 ^ 64):IntMulOk x y:=Vb.ok (.inr ⟨h1,h2⟩)
theorem mulL (h1:-(2 ^ 64)<x) (h2:x<2 ^ 64):IntMulOk x y:=Vb.ok (.inl ⟨h1,h2⟩)
def yT (_ j:Int):Prop:=j≠0∧j.natAbs.log2<9000
section
theorem aP:qR X (nJ .Mult) (rI IntMulOk fun i j=>.int (i*j)):=opI fun _ _ _ _ _ _ _ hc q=>mul_int q hc
theorem d8:qR X (nJ .FloorDiv) (rI yT fun i j=>.int (i.fdiv j)):=opI fun _ _ _ _ _ _ _ hc q=>floordiv_int hc.1 q (.inl (PyProof.noPylong_of_log2 hc.2))
end
mutual
inductive Den (H:Hp):V→um→Prop where
 | bM:Den H .bM .none
 | bl (b:Bool):Den H (.bl b) (.bool b)
 | int (i:Int):Den H (.int i) (.int i)
 | str (x:Str):Den H (.str x) (.str x)
 | tup {a:av} {xs:List V} {ds:List um}:H a=some (.tup xs)→tF H xs ds→Den H (.ref a) (.tuple ds)
 | lst {a:av} {xs:List V} {ds:List um}:H a=some (.lst xs)→tF H xs ds→Den H (.ref a) (.list ds)
inductive tF (H:Hp):List V→List um→Prop where
 | nil:tF H [] []
 | cons {x:V} {xs:List V} {d:um} {ds:List um}:Den H x d→tF H xs ds→tF H (x::xs) (d::ds)
end
section
mutual
theorem Den.reads (ok:xo P w H h):∀{v:V} {d:um},Den H v d→∀{u:aL},RelV v u→∃as,Reads h u d as
 | _,_,.bM,u,r=>by cases (show u=Value.none from r);exact ⟨_,Reads.none⟩
 | _,_,.bl b,u,r=>by cases (show u=Value.bool b from r);exact ⟨_,Reads.bool b⟩
 | _,_,.int i,u,r=>by obtain ⟨t,q⟩:=(show ∃t,u=Value.int i t from r);cases q;exact ⟨_,Reads.int i t⟩
 | _,_,.str x,u,r=>by obtain ⟨t,q⟩:=(show ∃t,u=Value.str x t from r);cases q;exact ⟨_,Reads.str x t⟩
 | _,_,@Den.tup _ a xs ds e dd,u,r=>by
   cases (show u=Value.ref a from r)
   obtain ⟨_,its,rv,o,h1,h2,n,h3⟩:=(show gA P w H h a 0#t from ok a _ e)
   obtain ⟨as,q⟩:=tF.reads ok dd rv
   exact ⟨as,reads_tuple_at h1 h2 h3 (by simpa using q)⟩
 | _,_,@Den.lst _ a xs ds e dd,u,r=>by
   cases (show u=Value.ref a from r)
   obtain ⟨_,its,n,rv,h1⟩:=(show gA P w H h a (.lst xs) from ok a _ e)
   obtain ⟨as,q⟩:=tF.reads ok dd rv
   exact ⟨_,reads_list_at h1 rfl rfl (by simpa using q)⟩
theorem tF.reads (ok:xo P w H h):∀{vs:List V} {ds:List um},tF H vs ds→∀{us:List aL},Vals vs us→∃as,ReadsAll h us ds as
 | _,_,.nil,_,.nil=>⟨_,ReadsAll.nil⟩
 | _,_,.cons d dd,_,.cons r rr=>by
   obtain ⟨as,q⟩:=Den.reads ok d r
   obtain ⟨bs,p⟩:=tF.reads ok dd rr
   exact ⟨_,ReadsAll.cons q p⟩
end
end
def afl:R2:=fun x y H Q=>∃d e,Den H x d∧Den H y e∧Zs d=true∧Zs e=true∧Q (.bl (UP d e)) H
section
theorem aa0 (hu:X.A.units+64<cLine):qR X (qw .Eq) afl:=by
 intro pins s σ H x y v u Q I rx ry h
 obtain ⟨d,e,hd,he,s1,s2,q⟩:=h
 obtain ⟨as,r1⟩:=hd.reads I.hok rx
 obtain ⟨bs,r2⟩:=he.reads I.hok ry
 exact eq_dataH r1 r2 s1 s2 hu ⟨.bl _,H,I,rfl,q⟩
def aa5 (K:bZ):List V→Hp→VK→Prop:=fun xs H Q=>∃x n t b,xs=[x,.ty n]∧vq K H x t∧J9 K t (.type n)=some b∧Q (.bl b) H
theorem QC:ja X (.builtin "isinstance") (aa5 X.K):=by
 intro pins s σ H xs us Q I r h
 obtain ⟨x,n,t,b,rfl,ty,e,q⟩:=h
 obtain ⟨u,u2,rfl,rx,rn⟩:=vals2 r
 cases (show u2=Value.type n from rn)
 exact O9 I rx ty e fun tk=>⟨.bl b,H,I.tok tk,rfl,q⟩
theorem aaJ {K:bZ}:J9 K (.type "int") (.type "int")=some true:=by rfl
theorem aaI {K:bZ}:J9 K (.type "int") (.type "bool")=some false:=by rfl
theorem cB:(gZ pos (bw [] env)).any (·.1)=false:=by rfl
theorem cD (h:bw (e::es) env=(false,eval e env)::bw es env) (k:(gZ pos (bw es env)).any (·.1)=false):(gZ pos (bw (e::es) env)).any (·.1)=false:=by
 rw [h]
 exact k
theorem i6:bw (.Constant c k pos::es) env=(false,eval (.Constant c k pos) env)::bw es env:=by rfl
theorem bK:bw (.Name x pos::es) env=(false,eval (.Name x pos) env)::bw es env:=by rfl
theorem JI:bw (.BinOp a op b pos::es) env=(false,eval (.BinOp a op b pos) env)::bw es env:=by rfl
theorem qD:bw (.Subscript a b pos::es) env=(false,eval (.Subscript a b pos) env)::bw es env:=by rfl
theorem Ax:bw (.Call f as kw pos::es) env=(false,eval (.Call f as kw pos) env)::bw es env:=by rfl
theorem WW:bw (.Tuple as k pos::es) env=(false,eval (.Tuple as k pos) env)::bw es env:=by rfl
theorem afE:lE (.Constant c k pos) tg l env=pure false:=by rfl
theorem abx:lE (.BinOp a op b pos) tg l env=pure false:=by rfl
theorem MI:lE (.Subscript a b pos) tg l env=pure false:=by rfl
theorem dM:lE (.Call f as kw pos) tg l env=pure false:=by rfl
theorem adw:lE (.Tuple as k pos) tg l env=pure false:=by rfl
theorem afF:lE (.IfExp a b c pos) tg l env=pure false:=by rfl
end
structure Dn (P:jk) (w:eG) (K:bZ) (mg:Str→Option aL) (base:cJ) (k:Nat) (x:Str) (ps:List Str) (sp:Sp):Prop where
 ex:∃(f:av) (fd:jF),bf P w K mg base c7 k f fd ps sp∧mg x=some (.ref f)∧xh K (.ref f)=true∧Binds K fd ps []
section
theorem ED {X:Cx} {k:Nat} {x:Str} {ps:List Str} {sp:Sp} {p pos:Pos} {e:bg} {es:List bg} {t:TA} (D:Dn X.prog X.w X.K X.mg X.base k x ps sp) (hr:iJ k X.A) (hg:Gl X x) (ha:PA X (e::es) t) (hdb:0#y=false:=by decide)
 (he:bw (e::es) X.env=(false,eval e X.env)::bw es X.env:=by rfl) (hpl:(gZ pos (bw es X.env)).any (·.1)=false:=by rfl):PE X (.Call (.Name x p) (e::es) [] pos) (CO sp [] E0 t):=by
 obtain ⟨f,fd,ok,hm,hk,hb⟩:=D.ex
 exact Ws ok hr hg hm hk hb .nil Nz ha hdb he hpl
end
theorem ab0 {K:bZ} {st:aT} (F:cT K x qual st f fd) (ok:bf P w K mg base c7 k f fd ps sp)
 (hm:mg x=some (.ref f)) (hb:Binds K fd ps []):Dn P w K mg base k x ps sp:=⟨f,fd,ok,hm,F.kp,hb⟩
section
theorem adi (h:t { D with nx:=u D } σ H):CP t u D σ H:=h
theorem adj (h:te σ H fun x H1=>D.nx (σ.set i (some x)) H1):DZ te (iM i) D σ H:=h
theorem adg (h:te σ H D.rt):abF te D σ H:=h
theorem abf (h:te σ H fun _ H1=>D.nx σ H1):Tz te D σ H:=h
theorem aft (h:c σ H fun b H1=>if b=true then t D σ H1 else u D σ H1):abB c t u D σ H:=h
theorem Sy (h:D.nx σ H):TJ D σ H:=h
theorem adm (e:σ[i]?=some (some v)) (q:Q v H):WX i σ H Q:=⟨v,e,q⟩
theorem r_c (q:Q v H):tC v σ H Q:=q
theorem afv (h:ta σ H fun x H1=>tb σ H1 fun y H2=>r x y H2 Q):TL r ta tb σ H Q:=h
theorem afD (h:ta σ H fun x H1=>r x H1 Q):tUn r ta σ H Q:=h
theorem ac3 (q:Q (g m n) H):WB g (.int m) (.int n) H Q:=⟨m,n,rfl,rfl,q⟩
theorem fF (hc:C m n) (q:Q (g m n) H):rI C g (.int m) (.int n) H Q:=⟨m,n,rfl,rfl,hc,q⟩
theorem r_U (q:Q (g m) H):rU g (.int m) H Q:=⟨m,rfl,q⟩
theorem abo (h:te σ H fun x H'=>∃k,x=.bl k∧B k H'):JL te σ H B:=h
theorem r_B (h:te σ H fun x H'=>∃k,x=.bl k∧B k H'):tB te σ H B:=h
theorem afm {R:Bool→Prop} (h:R b):∃k,V.bl b=.bl k∧R k:=⟨b,rfl,h⟩
theorem afo (h:ts σ H fun vs H1=>r vs H1 Q):tCB r ts σ H Q:=h
theorem abd (h:te σ H fun x H1=>ts σ H1 fun xs H2=>R (x::xs) H2):fW te ts σ H R:=h
theorem adb (h:R [] H):ql σ H R:=h
def Nw (mk:List V→HO) (xs:List V) (H:Hp) (Q:VK):Prop:=xs.length≤sizeLine∧∀p,H p=none→Q (.ref p) (upd H p (mk xs))
theorem adk (h:ts σ H fun xs H1=>Nw .tup xs H1 Q):abG ts σ H Q:=h
theorem ac8 (h:ts σ H fun xs H1=>Nw .lst xs H1 Q):abC ts σ H Q:=h
theorem abb (h:ts σ H fun vs H1=>sp (vs++[]) H1 Q E0):CO sp [] E0 ts σ H Q:=h
theorem adf (h:ts σ H fun vs H1=>∃v w,vs=[v,w]∧D.nx ((σ.set a (some v)).set b (some w)) H1):abE a b ts D σ H:=h
theorem ade (h:c σ H fun b H1=>B (!b) H1):abD c σ H B:=h
theorem ac4 (h:c σ H fun b H1=>if b=true then d σ H1 B else B false H1):aby c d σ H B:=h
theorem afw (h:c σ H fun b H1=>if b=true then B true H1 else d σ H1 B):tOr c d σ H B:=h
theorem aa9 (h:ta σ H fun x H1=>∃k,x=.bl k∧if k=true then tb σ H1 Q else Q (.bl false) H1):Tv ta tb σ H Q:=h
theorem ac7 (h:c σ H fun b H1=>if b=true then ta σ H1 Q else tb σ H1 Q):tIf c ta tb σ H Q:=h
theorem afr (hs:WN (.int m) (.int n)=true) (q:Q (.bl (decide (m=n))) H):rEq (.int m) (.int n) H Q:=⟨hs,by
 have e:decide (V.int m=V.int n)=decide (m=n):=by simp
 rw [e];exact q⟩
theorem afu (hs:WN (.int m) (.int n)=true) (q:Q (.bl (!decide (m=n))) H):rNe (.int m) (.int n) H Q:=⟨hs,by
 have e:decide (V.int m=V.int n)=decide (m=n):=by simp
 rw [e];exact q⟩
theorem at0 {x:V}:pM (x::xs) 0=some x:=gK (j:=0) rfl
theorem at1 {x:V}:pM (x::y::xs) 1=some y:=gK (j:=1) rfl
theorem at2 {x:V}:pM (x::y::z::xs) 2=some z:=gK (j:=2) rfl
theorem afz {K:bZ} (h:H p=some (.tup (x::xs))) (q:Q x H):Me K (.ref p) (.int 0) H Q:=⟨p,_,0,x,rfl,rfl,tG.of h,at0,q⟩
theorem afA {K:bZ} (h:H p=some (.tup (x::y::xs))) (q:Q y H):Me K (.ref p) (.int 1) H Q:=⟨p,_,1,y,rfl,rfl,tG.of h,at1,q⟩
theorem afB {K:bZ} (h:H p=some (.tup (x::y::z::xs))) (q:Q z H):Me K (.ref p) (.int 2) H Q:=⟨p,_,2,z,rfl,rfl,tG.of h,at2,q⟩
def aa6 (K:bZ):List V→Hp→VK→Prop:=fun xs H Q=>∃p ys,xs=[.ref p]∧(aX K H p ys∨tG K H p ys)∧Q (.int ys.length) H
theorem cP {K:bZ} (h:aX K H p ys∨tG K H p ys) (q:Q (.int ys.length) H):aa6 K [.ref p] H Q:=⟨p,ys,rfl,h,q⟩
def acX:List V→Hp→VK→Prop:=fun xs H Q=>∃i,xs=[.int i]∧Q (.int (if i<0 then -i else i)) H
theorem aa8 (q:Q (.int (if m<0 then -m else m)) H):acX [.int m] H Q:=⟨m,rfl,q⟩
section
variable {X:Cx} (K:bZ)
theorem fK (h:X.K=K:=by rfl):IxR X (WC K):=h▸V3
theorem Et (h:X.K=K:=by rfl):IxR X (Me K):=h▸aaD
theorem Tf (h:X.K=K:=by rfl):SlR X (aa7 K):=h▸WR
theorem acJ (h:X.K=K:=by rfl):ja X (.builtin "len") (aa6 K):=h▸Fc
theorem acH (h:X.K=K:=by rfl):ja X (.builtin "isinstance") (aa5 K):=h▸QC
theorem NB (hg:Gl X x) (hm:X.mg x=none) (hv:uf x=some (.type n)) (hn:x ≠ "__name__":=by decide) (hd:0#y=false:=by decide):PE X (.Name x pos) (tC (.ty n)):=
 Wr hg hm hv (show RelV (.ty n) (.type n) from rfl) hn hd
theorem xB:ja X (.builtin "abs") acX:=QB
theorem piL {tg l:bg} {tl:TE} (hl:PE X l tl) (h:X.K=K:=by rfl):PI X tg l (Nh K tl):=h▸Wx hl
theorem piT (hl:PE X l tl) (h:X.K=K:=by rfl):PI X tg l (VZ K tl):=h▸aa4 hl
theorem Qf (hc:X.calm=true) (g:W6 X es t)
 (hn:(m7 es X.env).length=n:=by rfl) (hst:(m7 es X.env).findIdx? (·.1)=none:=by rfl) (h:X.K=K:=by rfl):PG X (.Tuple es k pos) (OR K n t):=h▸aa3 hc g hn hst
theorem ZW {o e:bg} {to te:TE} {apos cpos:Pos} (ho:PE X o to) (he:PE X e te) (h:X.K=K:=by rfl)
 (hbase:vf o "append" X.env (eval o X.env)=eval o X.env:=by rfl)
 (hfew:((gZ cpos (bw (e::[]) X.env)).all (fun x=>!x.1)&&(sF cpos (sD [] X.env)).all (fun x=>x.1.isSome)
   && decide 0#x)=true:=by rfl)
 (hline:(apos.endLine==cpos.line)=true:=by rfl) (hs:bw (e::[]) X.env=(false,eval e X.env)::bw [] X.env:=by rfl) (hplain:(gZ cpos (bw [] X.env)).any (·.1)=false:=by rfl) :
 PE X (.Call (.Attribute o "append" apos) [e] [] cpos) (XE K "list" AI to (fW te ql)):=
 h▸Sj NT PySem.F.slot_list_append PySem.F.type_list_append Ey ho (j7 he uN hs) hbase hfew hline hs hplain
end
theorem kr (h:H p=none) (o:HO):au H (upd H p o):=fun b u q=>by rw [aM (bH q h)];exact q
theorem aE (hl:xs.length≤1000) (h:∀p H1,au H H1→H p=none→H1 p=some (mk xs)→Q (.ref p) H1):Nw mk xs H Q:=
 ⟨tS (aN hl),fun p hp=>h p _ (kr hp _) hp aA⟩
theorem r_g (h:R (σ.set i (some v)) H):iM i v σ H R:=h
theorem cA {K:bZ} (h:H p=some (.lst xs)) (e:pM xs j=some v) (q:Q v H):WC K (.ref p) (.int j) H Q:=⟨p,_,j,v,rfl,rfl,aX.of h,e,q⟩
theorem afn {K:bZ} (h:te σ H fun x H1=>WY K T x H1∧ts σ H1 fun xs H2=>r x xs H2 Q):XE K T r te ts σ H Q:=h
theorem cz (h:H p=some (.lst xs)) (hl:xs.length<sizeLine) (q:Q .bM (upd H p (.lst (xs++[v])))):AI (.ref p) [v] H Q:=⟨p,xs,v,rfl,rfl,h,hl,q⟩
theorem aY (s:au H1 H2) (n:H1 p=none):au H1 (upd H2 p o):=fun b x e=>by rw [aM (bH e n)];exact s b x e
theorem aZ {xs:List Int} {j:Nat} (h:xs[j]?=some x) (hk:k=(j:Int)):pM (xs.map V.int) k=some (.int x):=by
 subst hk
 exact gK (by rw [dm,h];rfl)
theorem adl {R:V→V→Prop} (h:R x y):∃v w,[x,y]=[v,w]∧R v w:=⟨x,y,rfl,h⟩
theorem eF (h:wi σ H fun J H1=>∃W:Nat→Nat→L2.St→Hp→Prop,(∃m,W 0 m σ H1)∧∀i m σ H,W i m σ H →
 (J.stop i H∧D.nx σ H)∨(J.go i H∧∃N:L2.St→Hp→Prop,(∀σ' H',N σ' H'→∃m',m'<m∧W (i+1) m' σ' H')∧∀x H',J.TV i H x H'→g x σ H' fun σ2 H2=>tb { D with nx:=N,ct:=N,bk:=D.nx } σ2 H2)):abA wi g tb D σ H:=h
theorem iw {K:bZ} (h:te σ H fun x H1=>∃a,x=.ref a∧(∃xs,aX K H1 a xs)∧R (ZP K a) H1):Nh K te σ H R:=h
theorem XA {K:bZ} (h:vq K H x tv) (e:J9 K tv (.type ty)=some b) (q:Q (.bl b) H):aa5 K [x,.ty ty] H Q:=⟨x,ty,tv,b,rfl,h,e,q⟩
end
section
variable {prog:jk} {w:eG} {A:nN} {E:aL→bq→Prop} {s:bq}
theorem Ek (hne:l≠it):∀(n i:Nat) (s:bq) (Q:List aL→bq→Prop),s.heap.IsListIter it l i→s.heap.IsList l items→i+n≤items.size →
 (∀h',h'.IsListIter it l (i+n)→C6 it s.heap h'→Q ((items.toList.drop i).take n) { s with heap:=h' })→b8 (model prog w) A (draw (.ref it) n) Q E s
 | 0,i,s,Q,hit,_,_,hQ=>by
   show b8 _ _ (pure []) Q E s
   exact m8 (by simpa using hQ s.heap hit (aew ..))
 | n+1,i,s,Q,hit,ht,hle,hQ=>by
   have hlt:i<items.size:=by simp?
   show b8 _ _ (pyNext (.ref it) >>= _) Q E s
   refine gw (XT hit ht (x:=items[i]) (by simp [hlt]) fun h₁ K7 hs₁=>?_)
   refine gw (zN (Ek hne n (i+1) _ _ K7 (ht.extBut hs₁.extBut hne) 0#c fun h₂ aax hs₂=>m8 ?_))
   have hd:items.toList.drop i=items[i]::items.toList.drop (i+1):=by simp [List.drop_eq_getElem_cons,hlt]
   have:=hQ h₂ (by rw [show i+(n+1)=i+1+n by simp?];exact aax) (hs₁.trans hs₂)
   rw [hd,List.take_succ_cons] at this
   exact this
theorem yL (hh:A.handled=none) (ht:s.heap.IsList t items)
 (hQ:∀h',ZF s.heap.objs.size s.heap h'→Q items.toList { s with heap:=h' }):b8 (model prog w) A (unpackItems (.ref t) items.size none) Q E s:=by
 have hlt:t≠s.heap.objs.size:=by obtain ⟨o,ho,_⟩:=id ht;exact lz (fT ho)
 unfold unpackItems
 refine gw ?_
 ·unfold notIterableAtAll
  refine gw (wpAny_specialOf ht.typeIs PySem.slot_list_iter.lookup ?_)
  refine m8 ?_
  simp only [Yr,if_false]
  refine gw (zN (Yy ht ?_))
  have hp:(s.heap.push { cls:=.type "list_iterator",data:=.fields #[.ref t,.int 0 0] }).IsList t items:=ht.extBut (b:=s.heap.objs.size) (fun b o _ e=>oF _ e) hlt
  refine gw (zN (Ek hlt items.size 0 _ _ ⟨_,D4 _ rfl,rfl,rfl⟩ hp 0#c fun h₁ K7 hs₁=>?_))
  have hall:List.take items.size (List.drop 0 items.toList)=items.toList:=by
   rw [Y0];exact NX 0#e
  rw [hall]
  rw [if_neg 0#e]
  have ht₁:h₁.IsList t items:=hp.extBut hs₁.extBut hlt
  refine gw (zN (X7 hh K7 ht₁ 0#e fun h₂ aco=>?_))
  simp only [Option.isSome_none,Yr,if_false]
  refine m8 (hQ h₂ fun b o hb e=>aco b o hb (hs₁.extBut b o hb (oF _ e)))
theorem vt (hh:A.handled=none) (ht:s.heap.IsList t items)
 (hn:(m7 elts env).length=items.size) (hstar:(m7 elts env).findIdx? (·.1)=none)
 (h:∀h',ZF s.heap.objs.size s.heap h'→b8 (model prog w) A (assignInOrder ((m7 elts env).map (·.2)) items.toList) Q E { s with heap:=h' }) :
 b8 (model prog w) A (assign (.Tuple elts x1 pos) env (.ref t)) Q E s:=by
 rw [assign_Tuple]
 refine gw (Ka ?_)
 unfold unpack
 rw [hn,hstar]
 exact gw (zN (yL hh ht h))
end
section
def VE (K:bZ) (n:Nat) (t:Vg):TG:=fun v σ H Q=>∃a xs,v=.ref a∧aX K H a xs∧xs.length=n∧t xs σ H Q
theorem aa2 (hc:X.calm=true) (h:W6 X es t)
 (hn:(m7 es X.env).length=n:=by rfl) (hst:(m7 es X.env).findIdx? (·.1)=none:=by rfl):PG X (.Tuple es k pos) (VE X.K n t):=by
 intro pins s σ H v u Q I r hw
 obtain ⟨a,xs,e1,hq,hl,hw⟩:=hw
 subst e1
 cases r
 obtain ⟨its,rv,ht,hz⟩:=I.list hq
 refine vt (I.ok.hd hc) ht.isList (by simp [hn,← hl,rv.length]) hst fun h' hx=>?_
 have I1:Inv X pins σ H { s with heap:=h' }:=I.kept (t':=s.toks) fun b o e=>hx b o (lz (fT e)) e
 exact h pins _ σ H xs _ Q I1 (by simpa using rv) hw
theorem pgL (K:bZ)  (hc:X.calm=true) (g:W6 X es t)
 (hn:(m7 es X.env).length=n:=by rfl) (hst:(m7 es X.env).findIdx? (·.1)=none:=by rfl) (h:X.K=K:=by rfl):PG X (.Tuple es k pos) (VE K n t):=h▸aa2 hc g hn hst
theorem Xz (q:Q (.bl (a==b)) H):rEq (.bl a) (.bl b) H Q:=⟨rfl,by
 have e:decide (V.bl a=V.bl b)=(a==b):=by cases a <;> cases b <;> rfl
 rw [e];exact q⟩
theorem Pz {K:bZ} (h:H p=some (.lst [x,y,z])) (q:R (((σ.set i (some x)).set j (some y)).set k (some z)) H):VE K 3 (qx (iM i) (qx (iM j) (qx (iM k) OP))) (.ref p) σ H R:=
 ⟨p,_,rfl,aX.of h,rfl,x,_,rfl,y,_,rfl,z,_,rfl,rfl,q⟩
end
def cQ (X:Cx) (N':List Str) (scope:o8) (cl:List (Str×av)) (C:av) (s0:bq) (H0:Hp) (ex':List av) (jT:List (av×Obj)):Cx:=
 { X with N:=N',s₀:=s0,H₀:=H0,env:=compEnvC scope cl C X.env,outer:=X.stack,ex:=ex',fn:=fun _=>false,pn:=jT,xe:=fun _ _=>False }
def mZ (cap:List Nat) (σ:L2.St):L2.St:=cap.map fun j=>(σ[j]?).getD none
theorem VX (x:xo P w H h) (n:H C=none) (k:∀b o,b≠C→h.get? b=some o→h'.get? b=some o):xo P w H h':=fun b u e=>
 (x b u e).stay (fun c v hc q=>k c v (by
   rcases hc with z | z
   ·rw [z];exact bH e n
   ·exact bH z n) q) (fun _ q=>q) fun _ _ q=>q
theorem Fg {prog:jk} {w:eG} {A:nN} {R:Result→bq→Prop} {s:bq} {elt iter tg:bg} {ifs:List bg} {scope:o8} {pos:Pos} {it acc:aL} {env:Env} (I:Nat→bq→Prop)
 (turn:∀n s,I n s→b8 (model prog w) A (pyNext it) (fun r s₁=>match r with
   | none=>R (.ok .next) s₁
   | some v=>b8 (model prog w) A (letOwnedTupleGo tg it v) (fun _ s₁'=>b8 (model prog w) A (assign tg env v) (fun _ s₂=>
    b8 (model prog w) A (forIn ifs true fun c r=>if r=true then do let ok ← isTrue c env (eval c env);pure (ForInStep.yield ok) else pure (ForInStep.yield r)) (fun ok s₃=>
     if ok=true then b8 (model prog w) A (eval elt env) (fun x s₄=>
      b8 (model prog w) A (call (.builtin "list.append") [acc,x]) (fun _ s₅=>∃m,m<n∧I m s₅) (notedBy (model prog w) A env fun e s'=>R (.error e) s') s₄) (notedBy (model prog w) A env fun e s'=>R (.error e) s') s₃
     else ∃m,m<n∧I m s₃) (notedBy (model prog w) A env fun e s'=>R (.error e) s') s₂) (notedBy (model prog w) A env fun e s'=>R (.error e) s') s₁') (notedBy (model prog w) A env fun e s'=>R (.error e) s') s₁) (notedBy (model prog w) A env fun e s'=>R (.error e) s') s)
 (n:Nat) (h:I n s):zV (model prog w) A (.compLoop 0#p 0 it acc env) R s:=by
 refine codeAny_loop rfl I (fun n s hI=>?_) n h
 show b8 _ A ((compTurn 0#p 0 it acc env).onRaise (fun x=>do noteFrame x env;theTreesLotGoes x)) _ _ s
 refine wpAny_noted ?_
 rw [compTurn_list]
 refine gw (Ka (gw (o6 (turn n s hI) (fun r s₁ h₁=>?_) fun _ _ h'=>h')))
 cases r with
 | none=>exact m8 h₁
 | some v=>
   refine gw (o6 h₁ (fun _ s₂ h₂=>gw (o6 h₂ (fun _ s₃ h₃=>gw (o6 h₃ (fun ok s₄ h₄=>?_) fun _ _ h'=>h')) fun _ _ h'=>h')) fun _ _ h'=>h')
   cases ok with
   | false=>exact m8 ⟨rfl,h₄⟩
   | true=>
     exact gw (gw (o6 h₄ (fun x s₄ h₄=>gw (o6 h₄ (fun _ s₅ h₅=>m8 (m8 ⟨rfl,h₅⟩)) fun _ _ h'=>h')) fun _ _ h'=>h'))
def W7 (X:Cx) (ifs:List bg) (t:TT):Prop:=
 ∀(pins:List (av×Obj)) (s:bq) (σ:L2.St) (H:Hp) (Q:Bool→Hp→Prop),Inv X pins σ H s→t σ H Q →
  b8 0#o X.A (forIn ifs true fun c r=>if r=true then do let ok ← isTrue c X.env (eval c X.env);pure (ForInStep.yield ok) else pure (ForInStep.yield r)) (TP X pins σ Q) X.xe s
def abH:TT:=fun _ H B=>B true H
theorem GQ {X:Cx}:W7 X [] abH:=fun _ _ _ H _ I h=>wpAny_tests_nil ⟨H,I,h⟩
theorem GR (h:PT X c t):W7 X [c] t:=fun pins s σ H Q I q=>wpAny_tests_one (h pins s σ H Q I q)
def vm (X:Cx) (scope:o8) (cl:List (Str×av)):List Str→List Nat→Prop
 | [],[]=>True
 | y::ys,j::js=>(X.N[j]?=some y∧X.env.kindOf y=some .cell∧(relabel scope X.env).names.lookup y=some .cell∧cl.lookup y=X.env.cells.lookup y)∧vm X scope cl ys js
 | _,_=>False
theorem vm.len:∀{ys:List Str} {js:List Nat},vm X scope cl ys js→ys.length=js.length
 | [],[],_=>rfl
 | _::_,_::_,h=>congrArg (·+1) h.2.len
theorem vm.at:∀{ys:List Str} {js:List Nat},vm X scope cl ys js→∀(i j:Nat) (y:Str),ys[i]?=some y→js[i]?=some j →
 X.N[j]?=some y∧X.env.kindOf y=some .cell∧(relabel scope X.env).names.lookup y=some .cell∧cl.lookup y=X.env.cells.lookup y
 | [],[],_,i,_,_,e,_=>by simp at e
 | _::_,_::_,h,0,j,y,e1,e2=>by
   simp at e1 e2
   subst e1 e2
   exact h.1
 | _::_,_::_,h,i+1,j,y,e1,e2=>h.2.at i j y (by simpa using e1) (by simpa using e2)
def zH (wi:TI) (n:Nat) (cap:List Nat) (g:TG) (tt:TT) (te:TE):TE:=fun σ H Q=>wi σ H fun J H1=>∀D,H1 D=none→∃W:Nat→Nat→List V→Hp→Prop,(∃m,W 0 m [] (upd H1 D (.lst []))) ∧
 ∀i m xs H2,W i m xs H2→H2 D=some (.lst xs)∧((J.stop i H2∧Q (.ref D) H2)∨(J.go i H2∧xs.length<sizeLine∧∀x H3 jK,jK.length=n→J.TV i H2 x H3 →
  g x (jK++mZ cap σ) H3 fun σ2 H4=>(∃σ1,σ1.length=n∧σ2=σ1++mZ cap σ)∧tt σ2 H4 fun b H5=>if b=true then te σ2 H5 fun y H6=>H6 D=some (.lst xs)∧∃m',m'<m∧W (i+1) m' (xs++[y]) (upd H6 D (.lst (xs++[y])))
    else ∃m',m'<m∧W (i+1) m' xs H5))
section
theorem Ni {σ:L2.St} (I:L2.Inv X pins σ H s) (hC:zY X pins H C) (sb:C6 C s.heap h'):L2.Inv X pins σ H { s with heap:=h' }:=by
 have k:∀b o,s.heap.get? b=some o→b∉[C]→h'.get? b=some o:=fun b o e hb=>(sb.2 b (fun z=>hb (by rw [z];exact EM.mpr rfl))).trans e
 refine I.Xb (s':={ s with heap:=h' }) (ch:=[C]) rfl ⟨fun b o e _ _ hb=>k b o e hb,fun b o e _ _ hb=>⟨o.slots,k b o e hb⟩,fun b o _ n _=>n,fun b o e hb=>⟨o,k b o e hb⟩,fun _ _ q=>q,fun _ _ _ q=>q,fun _ ps q=>⟨#[],by simpa using q⟩⟩
  (VX I.hok hC.1 fun b o hb e=>(sb.2 b hb).trans e) I.bare fun b hb=>?_
 obtain rfl:b=C:=EM.mp hb
 exact ⟨hC.2.2.2.1,hC.2.1,hC.2.2.2.2.1,hC.2.2.2.2.2⟩
theorem Ij {σ:L2.St} (use:Option (aL→Sem Unit)) (Q':aL→bq→Prop) (hc:X.calm=true) (hi:PI X tg iter wi)
 (hg:∀(C:av) (s0:bq) (H0:Hp) (ex':List av) (jT:List (av×Obj)),PG (cQ X (O++N') scope cl C s0 H0 ex' jT) tg g)
 (O7:∀(C:av) (s0:bq) (H0:Hp) (ex':List av) (jT:List (av×Obj)),W7 (cQ X (O++N') scope cl C s0 H0 ex' jT) ifs tt)
 (helt:∀(C:av) (s0:bq) (H0:Hp) (ex':List av) (jT:List (av×Obj)),PE (cQ X (O++N') scope cl C s0 H0 ex' jT) elt te)
 (hO:O.length=n) (hcap:vm X scope cl N' cap)
 (hclos:closureFor scope X.env=pure cl) (hcell:∀y∈scope.names,y.2≠.cell) (hkind:scope.kind=.function) (hnames:∀y∈scope.names,y.2=.local→scope.names.lookup y.1=some .local)
 (DC:∀y c,cl.lookup y=some c→X.env.cells.lookup y=some c) (hhas:∀y,((relabel scope X.env).names.lookup y=some .cell∨(relabel scope X.env).names.lookup y=some .free)→∃c,cl.lookup y=some c)
 (hs:∀z,HQ iter X.env z=pure z)
 (I:L2.Inv X pins σ H s) (h:zH wi n cap g tt te σ H Q)
 (fin:∀(D:av) (H5:Hp) (s6:bq) (C:av),L2.Inv X pins σ H5 s6→zY X pins H5 C→(∃m,s6.heap.Ns C m)→Q (.ref D) H5→compPost 0#o X.A X.xe use Q' (.ref D) C (.ok .next) s6) :
 b8 0#o X.A (comprehension 0#p scope X.env cpos (newList []) false (eval iter X.env) use) Q' X.xe s:=by
 refine wpAny_comprehension_free (use:=use) rfl hs hclos hkind hnames (gR (hi pins s σ H _ I h) fun v s1 h1=>gR h1 fun itv s2 h2=>?_)
 obtain ⟨it,fp,tn,J,H2,e,I2,T,st2,f2,q2⟩:=h2
 subst e
 refine Yx (wpAny_newFunctionEnv hcell (by intro y hy;simp at hy) (fun h₁ FP FT=>?_) hkind)
 dsimp only at FP FT ⊢
  -- the list, then the block's own names
 have I3:Inv X pins σ (upd H2 s2.heap.objs.size (.lst [])) { s2 with heap:=s2.heap.push { cls:=.type "list",data:=.seq ([]:List aL).toArray },toks:=s2.toks }:=I2.aaK (its:=[]) (t':=s2.toks) .nil (mW _)
 generalize hH3:s2.heap.push { cls:=.type "list",dict:=none,data:=.seq ([]:List aL).toArray }=h3 at FP FT I3 ⊢
 have q3:=q2 s2.heap.objs.size (I2.hok.fresh (dz _))
 generalize hD:s2.heap.objs.size=D at I3 q3 FP FT ⊢
 obtain ⟨W,⟨m0,w0⟩,turn⟩:=q3
 have hC:∀b o,h3.get? b=some o→b≠h3.objs.size:=fun b o e=>lz (fT e)
 have old:∀b o,h3.get? b=some o→h₁.get? b=some o:=fun b o e=>FT.extBut b o (hC b o e) (oF _ e)
 have Na:∀b∈fp,∃o,h3.get? b=some o:=fun b hb=>by
  obtain ⟨o,e,_⟩:=T.obj _ _ st2 b hb
  exact ⟨o,by rw [← hH3];exact oF _ e⟩
 have fp3:∀b∈fp,upd H2 D (.lst []) b=none:=fun b hb=>by
  have n:=(f2 b hb).1
  obtain ⟨o,e,_⟩:=T.obj _ _ st2 b hb
  rw [aM (by rw [← hD];exact lz (fT e))]
  exact n
 have stk:∀b∈fp,b∉frs X.stack:=fun b hb z=>by
  rcases qv.mp (I3.HB b z) with e | e
  ·exact (f2 b hb).2.1 e
  ·exact (f2 b hb).2.2.1 e
 have ok:(cQ X (O++N') scope cl h3.objs.size { s2 with heap:=h3,toks:=s2.toks } (upd H2 D (.lst [])) fp (X.pn++pins)).Ok:=
  ⟨I.ok.mod,hkind,I.ok.glob,I.ok.blt,dz _,fun y z c a b=>I.ok.inj y z c (DC y c a) (DC z c b),hhas,fun _ _ z=>absurd z dD,I.ok.hd,I.ok.frames,.inl rfl,
   fun b hb=>⟨by obtain ⟨o,e⟩:=Na b hb;exact hC b o e,fun y c a=>(f2 b hb).2.2.2.2.1 y c (DC y c a)⟩,I3.bs,eE I3.ok.OF I3.sz,
   fun b o e hb=>by
    rcases (f2 b hb).2.2.2.1 with z | z
    ·exact I.ok.RS b o e z
    ·exact absurd (qq (fT (I.ok.bs b o e).1) z) (C4 _),
   stk,I3.stack,I3.NL⟩
 have I4:Inv 0#s [] (kB n none++mZ cap σ) (upd H2 D (.lst [])) { s2 with heap:=h₁,toks:=s2.toks+([]:List (Str×aL)).length }:=by
  refine ⟨ok,rfl,I3.bare,Un.kept old,⟨_,FP,fun i y v e1 e2 e3=>?_⟩,fun y c a=>?_,I3.hok.fresh (dz _),fun y c a=>I3.tV y c (DC y c a),fun p hp=>?_,I3.hok.kept old,?_⟩
  ·by_cases hin:i<n
   ·rw [wX (by rw [EJ];exact hin),TZ,if_pos hin] at e2
    cases e2
   ·have e1':N'[i-n]?=some y:=by
     have z:(O++N')[i]?=some y:=e1
     rw [yO 0#c,hO] at z
     exact z
    have hi':i-n<cap.length:=by rw [← hcap.len];exact (lR.mp e1').1
    obtain ⟨j,ej⟩:∃j,cap[i-n]?=some j:=⟨_,mX hi'⟩
    obtain ⟨a1,a2,a3,a4⟩:=hcap.at (i-n) j y e1' ej
    have Z8:σ[j]?=some (some v):=by
     have z:(mZ cap σ)[i-n]?=some (some v):=by
      rw [yO (by rw [EJ];simp?),EJ] at e2
      exact e2
     unfold mZ at z
     rw [dm,ej] at z
     have z2:(σ[j]?).getD none=some v:=by simpa using z
     cases q:σ[j]? with
     | none=>rw [q] at z2;cases z2
     | some o=>rw [q] at z2;exact congrArg some z2
    obtain ⟨m,hn,hl⟩:=I3.loc
    obtain ⟨u,r,l⟩:=hl j y v a1 Z8 (.inr (.inl a2))
    refine ⟨u,r,.inr ⟨.inl a3,?_⟩⟩
    rcases l with ⟨k,_⟩ | ⟨_,c,ec,o,ho,hd⟩
    ·rw [a2] at k;cases k
    ·exact ⟨c,a4.trans ec,o,old c o ho,hd⟩
  ·obtain ⟨v,o,ho,hd⟩:=I3.cell y c (DC y c a)
   exact ⟨v,o,old c o ho,hd⟩
  ·have Es:p∈X.pn++pins:=by simpa [cQ] using hp
   obtain ⟨e,n,ne,nf,d⟩:=I3.pin p Es
   refine ⟨old _ _ e,n,hC _ _ e,fun z=>?_,d⟩
   rcases qv.mp (I3.HB p.1 z) with e | e
   ·exact ne e
   ·exact nf e
  ·show (kB n none++mZ cap σ).length=(O++N').length
   unfold mZ
   rw [fq,fq,EJ,gJ,hcap.len,hO]
 have loop:zV 0#o X.A (.compLoop 0#p 0 (.ref it) (.ref D) (compEnvC scope cl h3.objs.size X.env))
  (compPost 0#o X.A X.xe use Q' (.ref D) h3.objs.size) { s2 with heap:=h₁,toks:=s2.toks+([]:List (Str×aL)).length }:=by
  have fpk:∀{H':Hp},(∀b∈fp,H' b=none)→∀b∈fp,zY 0#s [] H' b:=fun hn b hb=>by
   obtain ⟨o,e⟩:=Na b hb
   refine ⟨hn b hb,hC b o e,stk b hb,.inl hb,fun y c a=>(f2 b hb).2.2.2.2.1 y c (DC y c a),fun p hp=>?_⟩
   have Es:p∈X.pn++pins:=by simpa [cQ] using hp
   exact (f2 b hb).2.2.2.2.2 p Es
  refine Fg (fun mm s'=>∃(i:Nat) (xs:List V) (H':Hp) (jK:L2.St),jK.length=n∧Inv 0#s [] (jK++mZ cap σ) H' s'∧tn i s'.heap∧(∀b∈fp,H' b=none)∧W i mm xs H') ?_ m0
   ⟨0,[],_,kB n none,EJ,I4,T.keep _ _ _ st2 fun b hb o e=>old b o (by rw [← hH3];exact oF _ e),fp3,w0⟩
  rintro mm s5 ⟨i,xs,H5,jK,ae0,I5,st5,fr5,w5⟩
  obtain ⟨e5,tw⟩:=turn i mm xs H5 w5
  rcases tw with ⟨stop,qn⟩ | ⟨go,hz,step⟩
  ·refine gR (T.done 0#s rfl rfl rfl hc i [] s5 _ H5 _ I5 (fpk fr5) st5 stop) fun r s6 ⟨hr,I6⟩=>?_
   subst hr
   obtain ⟨m,hn,_⟩:=id I6.loc
   have J6:L2.Inv X pins σ H5 s6:=I3.Xb (s':=s6) (ch:=fp) I6.os I6.base I6.hok I6.bare fun b hb=>by
    obtain ⟨_,g1,_,g3,g4,g5⟩:=f2 b hb
    exact ⟨g3,g1,g4,g5⟩
   exact fin D H5 s6 _ J6 (I3.KI (dz _) I6.free) ⟨m,hn⟩ qn
  ·refine gR (T.item 0#s rfl rfl rfl hc i [] s5 _ H5 _ I5 (fpk fr5) st5 go) fun r s6 ⟨u,hr,h6⟩=>?_
   subst hr
   refine gR h6 fun _ s7 ⟨xv,H7,I7,r7,y7,st7,fr7⟩=>?_
   have I7':=I7.pinned (fpk fr7) (T.obj _ _ st7)
   refine o6 (hg _ _ _ _ _ _ s7 _ H7 xv u _ I7' r7 (step xv H7 jK ae0 y7)) (fun _ s8 ⟨σ2,H8,I8,⟨σ1,acD,e2⟩,q8⟩=>?_) fun _ _ z=>z.elim
   refine o6 (O7 _ _ _ _ _ _ s8 σ2 H8 _ I8 q8) (fun ok s9 ⟨H9,I9,q9⟩=>?_) fun _ _ z=>z.elim
   subst e2
   have keep:∀{s':bq} {σ':L2.St} {H':Hp},Inv 0#s ([]++B6 fp s7.heap) σ' H' s'→tn (i+1) s'.heap∧∀b∈fp,H' b=none:=fun {s' σ' H'} J=>
    ⟨T.keep _ _ _ st7 fun b hb o e=>(J.pin (b,o) (De _ (De _ (pP hb e)))).1,fun b hb=>by
     obtain ⟨o,e,d⟩:=T.obj _ _ st7 b hb
     exact (J.pin (b,o) (De _ (De _ (pP hb e)))).2.1⟩
   cases ok with
   | false=>
     rw [if_neg dD] at q9 ⊢
     obtain ⟨m',hm,w9⟩:=q9
     exact ⟨m',hm,i+1,xs,H9,σ1,acD,I9.sy,(keep I9).1,(keep I9).2,w9⟩
   | true=>
     rw [if_pos rfl] at q9 ⊢
     refine o6 (helt _ _ _ _ _ _ s9 _ H9 _ I9 q9) (fun yv oV ⟨y,tU,I10,r10,Di,m',hm,w10⟩=>?_) fun _ _ z=>z.elim
     refine o6 (Ey (X:=cQ X (O++N') scope cl h3.objs.size { s2 with heap:=h3,toks:=s2.toks } (upd H2 D (.lst [])) fp (X.pn++pins)) _ oV _ tU (.ref D) [y] (.ref D) [yv] (fun _ H'=>H'=upd tU D (.lst (xs++[y]))) I10 rfl (.cons r10 .nil) ⟨D,xs,y,rfl,rfl,Di,hz,rfl⟩) (fun _ Dq ⟨_,MS,I11,_,Z7⟩=>?_) fun _ _ z=>z.elim
     subst Z7
     exact ⟨m',hm,i+1,xs++[y],_,σ1,acD,I11.sy,(keep I11).1,(keep I11).2,w10⟩
 exact codeAny_compStart_list loop (T.self _ 0 _ _ _ (T.keep _ _ _ st2 fun b hb o e=>old b o (by rw [← hH3];exact oF _ e)) loop)
theorem GA {X:Cx} {elt iter tg:bg} {ifs:List bg} {pos:Pos} {scope:o8} {cl:List (Str×av)} {wi:TI} {te:TE} {tt:TT} {g:TG} {O N':List Str} {cap:List Nat} {n:Nat} (hc:X.calm=true) (hi:PI X tg iter wi)
 (hg:∀(C:av) (s0:bq) (H0:Hp) (ex':List av) (jT:List (av×Obj)),PG (cQ X (O++N') scope cl C s0 H0 ex' jT) tg g)
 (O7:∀(C:av) (s0:bq) (H0:Hp) (ex':List av) (jT:List (av×Obj)),W7 (cQ X (O++N') scope cl C s0 H0 ex' jT) ifs tt)
 (helt:∀(C:av) (s0:bq) (H0:Hp) (ex':List av) (jT:List (av×Obj)),PE (cQ X (O++N') scope cl C s0 H0 ex' jT) elt te)
 (hO:O.length=n) (hcap:vm X scope cl N' cap)
 (hclos:closureFor scope X.env=pure cl) (hcell:∀y∈scope.names,y.2≠.cell) (hkind:scope.kind=.function) (hnames:∀y∈scope.names,y.2=.local→scope.names.lookup y.1=some .local)
 (DC:∀y c,cl.lookup y=some c→X.env.cells.lookup y=some c) (hhas:∀y,((relabel scope X.env).names.lookup y=some .cell∨(relabel scope X.env).names.lookup y=some .free)→∃c,cl.lookup y=some c)
 (hs:∀z,HQ iter X.env z=pure z:=by intro _;rfl) :
 PE X 0#p (zH wi n cap g tt te):=by
 intro pins s σ H Q I h
 rw [eval_ListComp]
 exact Ij none (EP X pins σ Q) hc hi hg O7 helt hO hcap hclos hcell hkind hnames DC hhas hs I h fun D H5 s6 C J fC ⟨m,hn⟩ q=>⟨m,hn,fun h' sb=>⟨.ref D,H5,Ni J fC sb,rfl,q⟩⟩
theorem GH (hN:X.N.Nodup) (hix:X.N[i]?=some x) (hx:Loc X.env.scope x) (hc:X.calm=true) (hi:PI X tg iter wi)
 (hg:∀(C:av) (s0:bq) (H0:Hp) (ex':List av) (jT:List (av×Obj)),PG (cQ X (O++N') scope cl C s0 H0 ex' jT) tg g)
 (O7:∀(C:av) (s0:bq) (H0:Hp) (ex':List av) (jT:List (av×Obj)),W7 (cQ X (O++N') scope cl C s0 H0 ex' jT) ifs tt)
 (helt:∀(C:av) (s0:bq) (H0:Hp) (ex':List av) (jT:List (av×Obj)),PE (cQ X (O++N') scope cl C s0 H0 ex' jT) elt te)
 (hO:O.length=n) (hcap:vm X scope cl N' cap)
 (hclos:closureFor scope X.env=pure cl) (hcell:∀y∈scope.names,y.2≠.cell) (hkind:scope.kind=.function) (hnames:∀y∈scope.names,y.2=.local→scope.names.lookup y.1=some .local)
 (DC:∀y c,cl.lookup y=some c→X.env.cells.lookup y=some c) (hhas:∀y,((relabel scope X.env).names.lookup y=some .cell∨(relabel scope X.env).names.lookup y=some .free)→∃c,cl.lookup y=some c)
 (hsw:lE 0#p (some (.Name x pos')) spos.line X.env=pure true)
 (hs:∀z,HQ iter X.env z=pure z:=by intro _;rfl) (hf:X.fn x=true∨X.env.scope.names.lookup x=some .local:=by first | exact .inl rfl | exact .inr rfl | assumption) :
 PS X (.Assign [.Name x pos'] 0#p spos) (DZ (zH wi n cap g tt te) (iM i)):=by
 intro pins s σ H D I h
 rw [exec_Assign_Name_used _ _ _ _ hsw]
 refine gw (Ka (gw ?_))
 show b8 _ _ (comprehension 0#p scope X.env _ (newList []) false (eval iter X.env) (some (assign (.Name x pos') X.env)) >>= fun _=>pure ()) _ _ s
 refine gw (Ij (some (assign (.Name x pos') X.env)) (fun _ s'=>b8 _ _ (pure ()) _ _ s') hc hi hg O7 helt hO hcap hclos hcell hkind hnames DC hhas hs I h fun Dl H5 s6 C J fC ⟨m,hn⟩ q=>?_)
 refine Yv (EI J hN hix hx (show RelV (.ref Dl) (.ref Dl) from rfl) (fun s7 I7 ⟨a,sb,ha⟩=>⟨m,hn.sameBut sb ?_,fun h' sb'=>m8 (m8 ⟨_,H5,Ni I7 fC sb',q⟩)⟩) hf)
 rcases ha with rfl | e
 ·exact fC.2.1
 ·exact fun z=>fC.2.2.2.2.1 x a e z.symm
end
structure Cn (mg:Str→Option aL) (x:Str) (n:Int):Prop where
 ex:∃t,mg x=some (.int n t)
section
theorem Ju (hg:Gl X x) (C:Cn X.mg x n) (hd:0#y=false:=by decide):PE X (.Name x pos) (tC (.int n)):=by
 obtain ⟨t,h⟩:=C.ex
 exact L2.Wt hg h ⟨t,rfl⟩ hd
def NF:V→Hp→VK→Prop:=fun x H Q=>∃i:Int,x=.int i∧Q (.int ((tR i:Nat):Int)) H
theorem Wc:MtR X "int.bit_length" (fun x vs H Q=>vs=[]∧NF x H Q):=by
 intro pins s σ H x vs v us Q I rx rv h
 obtain ⟨rfl,i,rfl,q⟩:=h
 cases rv
 obtain ⟨t,rfl⟩:=rx
 exact call_int_bit_length ⟨.int ((tR i:Nat):Int),H,I.tok _,⟨_,rfl⟩,q⟩
theorem vO (ho:PE X o to) (hbase:vf o "bit_length" X.env (eval o X.env)=eval o X.env:=by rfl) (hline:(apos.endLine==cpos.line)=true:=by rfl) :
 PE X (.Call (.Attribute o "bit_length" apos) [] [] cpos) (tUn (fun x H Q=>WY X.K "int" x H∧([]:List V)=[]∧NF x H Q) to):=
 Sk PySem.F.plainAttrs_int slot_int_bit_length type_int_bit_length Wc ho hbase hline
theorem aba {K:bZ} (q:Q (.int ((tR m:Nat):Int)) H):WY K "int" (.int m) H∧([]:List V)=[]∧NF (.int m) H Q:=⟨rfl,rfl,m,rfl,q⟩
def ac0:List V→Hp→VK→Prop:=fun xs H Q=>∃i j:Int,xs=[.int i,.int j]∧Q (.int (if j>i then j else i)) H
def ac1:List V→Hp→VK→Prop:=fun xs H Q=>∃i j:Int,xs=[.int i,.int j]∧Q (.int (if j<i then j else i)) H
theorem V9 (hc:X.calm=true):ja X (.builtin "max") ac0:=OH hc
theorem aaP (hc:X.calm=true):ja X (.builtin "min") ac1:=OI hc
theorem ac9 (q:Q (.int (if n>m then n else m)) H):ac0 [.int m,.int n] H Q:=⟨m,n,rfl,q⟩
theorem ada (q:Q (.int (if n<m then n else m)) H):ac1 [.int m,.int n] H Q:=⟨m,n,rfl,q⟩
theorem abZ (K:bZ) (h:X.K=K:=by rfl):qR X (nJ .Add) (Sv K):=h▸Wo
theorem Sw {K:bZ} (hp:H p=some (.tup (x::xs))) (hr:H r=some (.tup (y::ys))) (h:Nw .tup (x::xs++y::ys) H Q):Sv K (.ref p) (.ref r) H Q:=
 ⟨p,r,_,_,rfl,rfl,tG.of hp,tG.of hr,by simp,by have:=h.1;rw [fq] at this;exact this,fun e=>by simp at e,fun _=>h.2⟩
theorem Jy (hp:H p=some (.lst xs)) (hr:H r=some (.lst ys)) (h:Nw .lst (xs++ys) H Q):acY (.ref p) (.ref r) H Q:=⟨p,r,_,_,rfl,rfl,hp,hr,by have:=h.1;rw [fq] at this;exact this,h.2⟩
theorem SD (hp:H p=some (.lst xs)) (h1:-(2 ^ 63)≤k) (h2:k<2 ^ 63) (h:Nw .lst (kB k.toNat xs).flatten H Q):ac2 (.ref p) (.int k) H Q:=
 ⟨p,k,xs,rfl,rfl,hp,h1,h2,by have:=h.1;rw [len_rep] at this;rw [Zp];exact this,h.2⟩
theorem at3 {u:V}:pM (x::y::z::u::xs) 3=some u:=gK (j:=3) rfl
theorem afC {K:bZ} (h:H p=some (.tup (x::y::z::u::xs))) (q:Q u H):Me K (.ref p) (.int 3) H Q:=⟨p,_,3,u,rfl,rfl,tG.of h,at3,q⟩
theorem NH (h:te σ H fun x H1=>g x σ H1 D.nx):DZ te g D σ H:=h
theorem abg (h:to σ H fun o H1=>ti σ H1 fun i H2=>ts o i v H2 fun H3=>R σ H3):aan to ti ts v σ H R:=h
theorem abm (h:H p=some (.lst xs)) (e:Qd xs.length k=some j) (q:Q (upd H p (.lst (xs.set j v)))):Xy (.ref p) (.int k) v H Q:=⟨p,xs,k,j,rfl,rfl,h,e,q⟩
end
theorem O3 (c:((tR low:Nat):Int)>128) (h0:0≤low):340282366920938463463374607431768211456≤low:=by
 have h:¬tR low≤128:=by simp?
 have k:¬low.natAbs<2 ^ 128:=fun q=>h (ET.mpr q)
 have e:(2:Nat) ^ 128=340282366920938463463374607431768211456:=by decide
 simp?
theorem IP (c:¬((tR low:Nat):Int)>128):low≤340282366920938463463374607431768211456:=by
 have h:tR low≤128:=by simp?
 have k:low.natAbs<2 ^ 128:=ET.mp h
 have e:(2:Nat) ^ 128=340282366920938463463374607431768211456:=by decide
 simp?
theorem K5 (c:((tR y:Nat):Int)>256) (y0:0≤y) (yx:y≤x) :
 ∃t:Nat,((tR x:Nat):Int)-256=(t:Int)∧(2:Int) ^ (255+t)≤x∧x<(2:Int) ^ (256+t):=by
 have hb:tR y≤tR x:=intBits_le_of_natAbs 0#c (dz _)
 obtain ⟨t,ht⟩:∃t,tR x=256+t:=⟨tR x-256,by simp?⟩
 have h1:x.natAbs<2 ^ (256+t):=ET.mp 0#c
 have h2:¬x.natAbs<2 ^ (255+t):=fun q=>by have:=ET.mpr q;simp?
 refine ⟨t,by simp?,?_,?_⟩
 ·have:(((2:Nat) ^ (255+t):Nat):Int)=(2:Int) ^ (255+t):=by simp
  rw [← this];simp?
 ·have:(((2:Nat) ^ (256+t):Nat):Int)=(2:Int) ^ (256+t):=by simp
  rw [← this];simp?
end My
namespace Jd
open PySem PySem.Spec PyProof.Rows L2 My
structure QE (X:Cx) (e:bg) (t:TE):Prop where
 h:PE X e t
structure QT (X:Cx) (e:bg) (t:TT):Prop where
 h:PT X e t
structure QW (X:Cx) (e:bg) (t:TT):Prop where
 h:PW X e t
structure QA (X:Cx) (es:List bg) (t:TA):Prop where
 h:PA X es t
structure QS (X:Cx) (st:aT) (t:TS):Prop where
 h:PS X st t
structure OB (X:Cx) (st:List aT) (t:TS):Prop where
 h:Ky X st t
structure QG (X:Cx) (e:bg) (t:TG):Prop where
 h:PG X e t
structure QGs (X:Cx) (es:List bg) (t:Vg):Prop where
 h:W6 X es t
structure QI (X:Cx) (tg e:bg) (t:TI):Prop where
 h:PI X tg e t
structure QO (X:Cx) (e:Option bg) (t:TO):Prop where
 h:PO X e t
section
theorem go {X:Cx} {body:List aT} {D:Ends} {σ:L2.St} {H:Hp} (h:∃t,OB X body t∧t D σ H):∃t,Ky X body t∧t D σ H:=let ⟨t,h,k⟩:=h;⟨t,h.h,k⟩
theorem cut (n:Nat) (Pv:L2.St→Hp→Prop) (tail:∃t,OB X (body.drop n) t∧∀σ H,Pv σ H→t D σ H)
 (main:∀u,OB X (body.drop n) u→(∀σ H,Pv σ H→u D σ H)→∃t,OB X body t∧t D σ H):∃t,OB X body t∧t D σ H:=
 let ⟨u,h1,h2⟩:=tail
 main u h1 h2
theorem pv {X:Cx} {pos:Pos} {x:Str} (i:Nat) (hN:X.N[i]?=some x:=by rfl) (hv:Vis X.env.scope x:=by first | exact Or.inl rfl | exact Or.inr (Or.inl rfl) | exact Or.inr (Or.inr rfl)) (hd:0#y=false:=by decide)
 (hcd:(x==("__classdict__":Str))=false:=by decide):QE X (.Name x pos) (WX i):=⟨L2.pv i hN hv hd hcd⟩
theorem B0 {X:Cx} {pos:Pos} {i j}:QE X (.Constant (.int i) j pos) (tC (.int i)):=⟨L2.B0⟩
theorem oS {X:Cx} {pos:Pos} {i j}:QE X (.Constant (.bool i) j pos) (tC (.bl i)):=⟨L2.oS⟩
theorem LV {X:Cx} {pos:Pos} {j}:QE X (.Constant .none j pos) (tC .bM):=⟨L2.LV⟩
theorem LX {X:Cx} {pos:Pos} {i j}:QE X (.Constant (.str i) j pos) (tC (.str i)):=⟨L2.LX⟩
theorem NB (hg:Gl X x) (hm:X.mg x=none) (hv:uf x=some (.type n)) (hn:x ≠ "__name__":=by decide) (hd:0#y=false:=by decide):QE X (.Name x pos) (tC (.ty n)):=⟨My.NB hg hm hv hn hd⟩
theorem So {X:Cx} {a b:bg} {ta tb:TE} {pos:Pos} {op:Operator} {r:R2} (ho:qR X (nJ op) r) (ha:QE X a ta) (hb:QE X b tb):QE X (.BinOp a op b pos) (TL r ta tb):=⟨L2.So ho ha.h hb.h⟩
theorem Sq {X:Cx} {a:bg} {ta:TE} {pos:Pos} {op:UnaryOp} {r:V→Hp→VK→Prop} (ho:UnR X (unaryOp op) r) (ha:QE X a ta):QE X (.UnaryOp op a pos) (tUn r ta):=⟨L2.Sq ho ha.h⟩
theorem Gz {X:Cx} {a b:bg} {ta tb:TE} {pos:Pos} {op:CmpOp} {r:R2} (ho:qR X (qw op) r) (ha:QE X a ta) (hb:QE X b tb) (hm:behindInMarks op b=false):QE X (.Compare a [op] [b] pos) (TL r ta tb):=⟨L2.Gz ho ha.h hb.h hm⟩
theorem GP {X:Cx} {a b:bg} {ta tb:TE} {pos:Pos} {op:CmpOp} {r:R2} (ho:qR X (qw op) r) (ha:QE X a ta) (hb:QE X b tb) (hm:behindInMarks op b=false):QT X (.Compare a [op] [b] pos) (JL (TL r ta tb)):=⟨L2.GP ho ha.h hb.h hm⟩
theorem Cb (ha:QT X a tA):QT X (.UnaryOp .Not a pos) (abD tA):=⟨L2.Cb ha.h⟩
theorem Ma {X:Cx} {e:bg} {te:TE} (h:QE X e te) (he:∀whole,isTrue e X.env whole=(do let v ← whole;zU e.pos;holding [v] (truthy v)):=by intro _;rfl):QT X e (tB te):=⟨L2.Ma h.h he⟩
theorem xA {X:Cx} {e:bg} {tA:TT} (h:QW X e tA):QT X e tA:=⟨h.h.pt⟩
theorem GS (ha:QT X a tA):QW X (.BoolOp .And [a] pos) tA:=⟨L2.GS ha.h⟩
theorem Cc (ha:QT X a tA):QW X (.BoolOp .Or [a] pos) tA:=⟨L2.Cc ha.h⟩
theorem Mc (ha:QT X a tA) (hb:QW X (.BoolOp .And (b::es) pos) tB'):QW X (.BoolOp .And (a::b::es) pos) (aby tA tB'):=⟨L2.Mc ha.h hb.h⟩
theorem Jw (ha:QT X a tA) (hb:QW X (.BoolOp .Or (b::es) pos) tB'):QW X (.BoolOp .Or (a::b::es) pos) (tOr tA tB'):=⟨L2.Jw ha.h hb.h⟩
theorem LW {X:Cx} {a:bg} {te:TE} {pos:Pos} {op} (h:QE X a te):QE X (.BoolOp op [a] pos) te:=⟨L2.LW h.h⟩
theorem Gy (ha:QE X a ta) (hb:QE X (.BoolOp .And (b::es) pos) tb):QE X (.BoolOp .And (a::b::es) pos) (Tv ta tb):=⟨L2.Gy ha.h hb.h⟩
theorem BZ (hc:QT X c tA) (ha:QE X a ta) (hb:QE X b tb):QE X (.IfExp c a b pos) (tIf tA ta tb):=⟨L2.BZ hc.h ha.h hb.h⟩
theorem uN {X:Cx}:QA X [] ql:=⟨L2.uN⟩
theorem j7 {X:Cx} {e:bg} {es:List bg} {te:TE} {t:TA} (ha:QE X e te) (hr:QA X es t) (hs:bw (e::es) X.env=(false,eval e X.env)::bw es X.env:=by rfl):QA X (e::es) (fW te t):=⟨L2.j7 ha.h hr.h hs⟩
theorem LY {X:Cx} {es:List bg} {t:TA} {pos:Pos} {k:Nat} (h:QA X es t):QE X (.Tuple es k pos) (abG t):=⟨L2.LY h.h⟩
theorem LU {X:Cx} {es:List bg} {t:TA} {pos:Pos} (h:QA X es t):QE X (.List es pos) (abC t):=⟨L2.LU h.h⟩
theorem GD {X:Cx}:QO X none HC:=⟨L2.GD⟩
theorem GG {X:Cx} {e:bg} {te:TE} (h:QE X e te):QO X (some e) (TM te):=⟨L2.GG h.h⟩
theorem B3 {X:Cx} {e:bg} {te:TE} {pos p2:Pos} {r:V→Option Int→Option Int→Hp→VK→Prop} {lo hi:Option bg} {tl th:TO} (hr:SlR X r) (he:QE X e te) (hl:QO X lo tl) (hu:QO X hi th):QE X (.Subscript e (.Slice lo hi none p2) pos) (tSl r te tl th):=⟨L2.B3 hr he.h hl.h hu.h⟩
theorem Jv {X:Cx} {a b:bg} {ta tb:TE} {pos:Pos} {r:R2} (hr:IxR X r) (ha:QE X a ta) (hb:QE X b tb) (hs:MU b):QE X (.Subscript a b pos) (TL r ta tb):=⟨L2.Jv hr ha.h hb.h hs⟩
theorem vP {X:Cx} {e:bg} {es:List bg} {t:TA} {pos p:Pos} {x:Str} {id:String} {r:List V→Hp→VK→Prop} (hc:ja X (.builtin id) r) (hg:Gl X x) (hm:X.mg x=none) (hv:uf x=some (.builtin id)) (ha:QA X (e::es) t) (hn:x ≠ "__name__":=by decide) (hdb:0#y=false:=by decide)
 (he:bw (e::es) X.env=(false,eval e X.env)::bw es X.env:=by rfl) (hpl:(gZ pos (bw es X.env)).any (·.1)=false:=by rfl):QE X (.Call (.Name x p) (e::es) [] pos) (tCB r t):=⟨L2.vP hc hg hm hv ha.h hn hdb he hpl⟩
theorem oU {X:Cx} {e:bg} {es:List bg} {t:TA} {pos p:Pos} {x:Str} {T:String} {r:List V→Hp→VK→Prop} (hc:ja X (.type T) r) (hg:Gl X x) (hm:X.mg x=none) (hv:uf x=some (.type T)) (ha:QA X (e::es) t) (hn:x ≠ "__name__":=by decide) (hdb:0#y=false:=by decide)
 (he:bw (e::es) X.env=(false,eval e X.env)::bw es X.env:=by rfl) (hpl:(gZ pos (bw es X.env)).any (·.1)=false:=by rfl):QE X (.Call (.Name x p) (e::es) [] pos) (tCB r t):=⟨L2.oU hc hg hm hv ha.h hn hdb he hpl⟩
theorem ED {X:Cx} {e:bg} {es:List bg} {t:TA} {pos p:Pos} {x:Str} {k:Nat} {ps:List Str} {sp:Sp} (D:Dn X.prog X.w X.K X.mg X.base k x ps sp) (hr:iJ k X.A) (hg:Gl X x) (ha:QA X (e::es) t) (hdb:0#y=false:=by decide)
 (he:bw (e::es) X.env=(false,eval e X.env)::bw es X.env:=by rfl) (hpl:(gZ pos (bw es X.env)).any (·.1)=false:=by rfl):QE X (.Call (.Name x p) (e::es) [] pos) (CO sp [] E0 t):=⟨My.ED D hr hg ha.h hdb he hpl⟩
theorem ZW {X:Cx} {e o:bg} {te to:TE} {apos cpos:Pos} (K:bZ) (ho:QE X o to) (he:QE X e te) (h:X.K=K:=by rfl)
 (hbase:vf o "append" X.env (eval o X.env)=eval o X.env:=by rfl)
 (hfew:((gZ cpos (bw (e::[]) X.env)).all (fun x=>!x.1)&&(sF cpos (sD [] X.env)).all (fun x=>x.1.isSome)
   && decide 0#x)=true:=by rfl)
 (hline:(apos.endLine==cpos.line)=true:=by rfl) (hs:bw (e::[]) X.env=(false,eval e X.env)::bw [] X.env:=by rfl) (hplain:(gZ cpos (bw [] X.env)).any (·.1)=false:=by rfl) :
 QE X (.Call (.Attribute o "append" apos) [e] [] cpos) (XE K "list" AI to (fW te ql)):=⟨My.ZW K ho.h he.h h hbase hfew hline hs hplain⟩
theorem GL {X:Cx}:OB X [] TJ:=⟨L2.GL⟩
theorem B9 {X:Cx} {st:aT} {rest:List aT} {s1 s2:TS} (h1:QS X st s1) (h2:OB X rest s2):OB X (st::rest) (CP s1 s2):=⟨L2.B9 h1.h h2.h⟩
theorem GN {X:Cx} {st:aT} {s1:TS} (h1:QS X st s1):OB X [st] s1:=⟨L2.GN h1.h⟩
theorem B8 {st:aT}:QS X st TH:=⟨L2.B8⟩
theorem L8 {X:Cx} {e:bg} {te:TE} {pos:Pos} (he:QE X e te):QS X (.Return (some e) pos) (abF te):=⟨L2.L8 he.h⟩
theorem GI {X:Cx} {e:bg} {te:TE} {pos:Pos} (he:QE X e te) (hs:lE e none pos.line X.env=pure false:=by rfl):QS X (.Expr e pos) (Tz te):=⟨L2.GI he.h hs⟩
theorem GK {X:Cx} {e:bg} {te:TE} {pos:Pos} {x:Str} {i:Nat} {pos':Pos} (hN:X.N.Nodup) (hi:X.N[i]?=some x) (hx:Loc X.env.scope x) (he:QE X e te) (hs:lE e (some (.Name x pos')) pos.line X.env=pure false:=by rfl) (hf:X.fn x=true∨X.env.scope.names.lookup x=some .local:=by first | exact .inl rfl | exact .inr rfl | assumption) :
 QS X (.Assign [.Name x pos'] e pos) (DZ te (iM i)):=⟨L2.GK hN hi hx he.h hs hf⟩
theorem yg (he:QE X e te) (hg:QG X tg g) (hs:swapsWithSole [tg] e pos.line X.env=pure false:=by rfl) (hw:swappedStores [tg] e X.env=pure none:=by rfl)
 (h1:(m7 [tg] X.env).map (·.2)=[assign tg X.env]:=by rfl):QS X (.Assign [tg] e pos) (DZ te g):=⟨L2.yg he.h hg.h hs hw h1⟩
theorem GJ (hc:X.calm=true) (hN:X.N.Nodup) (hi:X.N[i]?=some x) (hj:X.N[j]?=some y) (hij:i≠j)
 (hx:X.env.scope.names.lookup x=some .local) (hy:X.env.scope.names.lookup y=some .local) (ha:QA X [a,b] ta)
 (hw:swappedStores [.Tuple [.Name x px,.Name y py] kt pt] (.Tuple [a,b] k2 pt2) X.env=pure (some [x,y]))
 (hs:swapsWithSole [.Tuple [.Name x px,.Name y py] kt pt] (.Tuple [a,b] k2 pt2) pos.line X.env=pure false:=by rfl) :
 QS X (.Assign [.Tuple [.Name x px,.Name y py] kt pt] (.Tuple [a,b] k2 pt2) pos) (abE i j ta):=⟨L2.GJ hc hN hi hj hij hx hy ha.h hw hs⟩
theorem Su {X:Cx} {c:bg} {pos:Pos} {s1 s2:TS} {ss ss':List aT} {tc:TT} (hc:QT X c tc) (ha:OB X ss s1) (hb:OB X ss' s2):QS X (.If c ss ss' pos) (abB tc s1 s2):=⟨L2.Su hc.h ha.h hb.h⟩
theorem kq (hp:Ow 0#o X.A X.env X.xe) (hc:QT X c tc) (hb:OB X sts s1):QS X (.While c sts [] pos) (CQ tc s1):=⟨L2.kq hp hc.h hb.h⟩
theorem L7 {X:Cx} {e:bg} {pos:Pos} {sts:List aT} {s1:TS} {tg:bg} {wi:TI} {g:TG} (hp:Ow 0#o X.A X.env X.xe) (hc:X.calm=true) (hi:QI X tg e wi) (hg:QG X tg g) (hb:OB X sts s1)
 (hs:∀x,HQ e X.env x=pure x:=by intro _;rfl):QS X (.For tg e sts [] pos) (abA wi g s1):=⟨L2.L7 hp hc hi.h hg.h hb.h hs⟩
theorem GB {X:Cx} {pos:Pos} {x:Str} {i:Nat} (hN:X.N.Nodup) (hi:X.N[i]?=some x) (hx:Loc X.env.scope x) (hf:X.fn x=true∨X.env.scope.names.lookup x=some .local:=by first | exact .inl rfl | exact .inr rfl | assumption):QG X (.Name x pos) (iM i):=⟨L2.GB hN hi hx hf⟩
theorem GC {X:Cx}:QGs X [] OP:=⟨L2.GC⟩
theorem B4 {X:Cx} {e:bg} {es:List bg} {g:TG} {u:Vg} (h1:QG X e g) (h2:QGs X es u) (hs:(m7 (e::es) X.env).map (·.2)=assign e X.env::(m7 es X.env).map (·.2):=by rfl):QGs X (e::es) (qx g u):=⟨L2.B4 h1.h h2.h hs⟩
theorem Qf (K:bZ)  (hc:X.calm=true) (h2:QGs X es g) (hn:(m7 es X.env).length=n:=by rfl) (hst:(m7 es X.env).findIdx? (·.1)=none:=by rfl) (h:X.K=K:=by rfl):QG X (.Tuple es k pos) (OR K n g):=⟨My.Qf K hc h2.h hn hst h⟩
theorem pgL (K:bZ)  (hc:X.calm=true) (h2:QGs X es g) (hn:(m7 es X.env).length=n:=by rfl) (hst:(m7 es X.env).findIdx? (·.1)=none:=by rfl) (h:X.K=K:=by rfl):QG X (.Tuple es k pos) (VE K n g):=⟨My.pgL K hc h2.h hn hst h⟩
theorem piL {X:Cx} {e:bg} {te:TE} (K:bZ) {tg:bg} (hl:QE X e te) (h:X.K=K:=by rfl):QI X tg e (Nh K te):=⟨My.piL K hl.h h⟩
theorem piT (K:bZ)  (hl:QE X e te) (h:X.K=K:=by rfl):QI X tg e (VZ K te):=⟨My.piT K hl.h h⟩
theorem yc (hg:Gl X "range") (hm:X.mg "range"=none) (ha:QA X [a] t) (hs:bw [a] X.env=[(false,eval a X.env)]:=by rfl):QI X tg (.Call (.Name "range" p) [a] [] pos) (Rv t):=⟨L2.yc hg hm ha.h hs⟩
theorem Ju (hg:Gl X x) (C:Cn X.mg x n) (hd:0#y=false:=by decide):QE X (.Name x pos) (tC (.int n)):=⟨My.Ju hg C hd⟩
theorem vO (ho:QE X o to) (hbase:vf o "bit_length" X.env (eval o X.env)=eval o X.env:=by rfl) (hline:(apos.endLine==cpos.line)=true:=by rfl) :
 QE X (.Call (.Attribute o "bit_length" apos) [] [] cpos) (tUn (fun x H Q=>WY X.K "int" x H∧([]:List V)=[]∧NF x H Q) to):=⟨My.vO ho.h hbase hline⟩
theorem L3 (ho:QE X o to) (hi:QE X i ti) (hs:ZS X ts)
 (ha:∀v,assign (.Subscript o i pos) X.env v=(holding [v] (eval o X.env) >>= fun ov=>holding [v,ov] (eval i X.env) >>= fun iv=>zU pos >>= fun _=>holding [v,ov,iv] (setItem ov iv v) >>= fun _=>release [v,ov,iv] []):=by intro _;rfl) :
 QG X (.Subscript o i pos) (aan to ti ts):=⟨L2.L3 ho.h hi.h hs ha⟩
theorem Ca (ho:qR X (qw op) r) (ho':qR X (qw op') r') (ha:QE X a ta) (hb:QE X b tb) (hc:QE X c tc)
 (hm:lastMarks [op,op'] [b,c]=false:=by with_unfolding_all rfl):QT X (.Compare a [op,op'] [b,c] pos) (JL (MJ r r' ta tb tc)):=⟨L2.Ca ho ho' ha.h hb.h hc.h hm⟩
end
end Jd
namespace My
open PySem PySem.Spec PyProof.Rows L2 Mth
def gT (cells:List (Str×av)):List (Str×wU)→List (Str×av)→List (Str×av)
 | [],cs=>cs
 | (y,k)::r,cs=>gT cells r (if k=.free then ((cells.lookup y).map fun c=>(y,c)).toList++cs else cs)
def ig (cells:List (Str×av)) (names:List (Str×wU)):Bool:=names.all fun p=>!(p.2==NameKind.free)||(cells.lookup p.1).isSome
theorem uB {env:Env}:∀(names:List (Str×wU)) (cs:List (Str×av)),ig env.cells names=true →
 (forIn (m:=Sem) names cs fun x r=>match x with | (name,kind)=>if (kind==NameKind.free)=true then do let a ← cellOf env name;pure (ForInStep.yield ((name,a)::r)) else pure (ForInStep.yield r))=pure (gT env.cells names cs)
 | [],cs,_=>rfl
 | (y,k)::r,cs,h=>by
   have h2:ig env.cells r=true:=by
    unfold ig at h ⊢
    rw [Oo,CZ] at h
    exact h.2
   rw [List.forIn_cons]
   by_cases hk:k=.free
   ·subst hk
    have h1:(env.cells.lookup y).isSome=true:=by
     unfold ig at h
     rw [Oo,CZ] at h
     simpa using h.1
    obtain ⟨c,hc⟩:=NQ.mp h1
    have ih:=uB r ((y,c)::cs) h2
    have e:cellOf env y=pure c:=by unfold cellOf;rw [hc]
    show (((if (NameKind.free==NameKind.free)=true then do let a ← cellOf env y;pure (ForInStep.yield ((y,a)::cs)) else pure (ForInStep.yield cs)):Sem _) >>= _)=_
    rw [if_pos (by rfl),e,pure_bind,pure_bind]
    show forIn (m:=Sem) r ((y,c)::cs) _=_
    rw [ih]
    show _=pure (gT env.cells r (if NameKind.free=.free then ((env.cells.lookup y).map fun c=>(y,c)).toList++cs else cs))
    rw [if_pos rfl,hc]
    rfl
   ·have ih:=uB r cs h2
    have hk':(k==NameKind.free)=false:=by simpa using hk
    show (((if (k==NameKind.free)=true then do let a ← cellOf env y;pure (ForInStep.yield ((y,a)::cs)) else pure (ForInStep.yield cs)):Sem _) >>= _)=_
    rw [hk',if_neg dD,pure_bind]
    show forIn (m:=Sem) r cs _=_
    rw [ih]
    show _=pure (gT env.cells r (if k=.free then _ else cs))
    rw [if_neg hk]
theorem Bj (h:ig env.cells scope.names=true):closureFor scope env=pure (gT env.cells scope.names []):=by
 have e:=uB (env:=env) scope.names [] h
 show (forIn (m:=Sem) scope.names [] _ >>= fun cs=>pure cs)=_
 exact (congrArg (· >>= fun cs=>pure cs) e).trans (pure_bind _ _)
theorem Ei:∀(names:List (Str×wU)) (cs:List (Str×av)) (p:Str×av),p∈gT cells names cs→p∈cs∨cells.lookup p.1=some p.2
 | [],_,_,h=>.inl h
 | (y,k)::r,cs,p,h=>by
   rcases Ei r _ p h with q | q
   ·by_cases hk:k=.free
    ·rw [if_pos hk] at q
     rcases dN.mp q with z | z
     ·cases e:cells.lookup y with
      | none=>rw [e] at z;simp at z
      | some c=>rw [e] at z;simp at z;subst z;exact .inr e
     ·exact .inl z
    ·rw [if_neg hk] at q
     exact .inl q
   ·exact .inr q
theorem Eh:∀(names:List (Str×wU)) (cs:List (Str×av)) (y:Str) (c:av),((y,NameKind.free)∈names∧cells.lookup y=some c)∨(y,c)∈cs→(y,c)∈gT cells names cs
 | [],_,_,_,h=>h.elim (fun z=>by simp at z) id
 | (z,k)::r,cs,y,c,h=>by
   refine Eh r _ y c ?_
   rcases h with ⟨m,e⟩ | m
   ·rcases qv.mp m with q | q
    ·cases q
     right
     rw [if_pos rfl,e]
     simp
    ·exact .inl ⟨q,e⟩
   ·right
    by_cases hk:k=.free
    ·rw [if_pos hk];exact De _ m
    ·rw [if_neg hk];exact m
theorem sQ {α:Type}:∀{l:List (Str×α)} {x:Str} {v:α},l.lookup x=some v→(x,v)∈l
 | (y,u)::r,x,v,h=>by
   rw [Ui] at h
   cases e:x==y with
   | true=>
     rw [e] at h
     cases h
     have:x=y:=by simpa using e
     subst this
     exact CV
   | false=>
     rw [e] at h
     exact D3 _ (sQ h)
theorem Ex {α:Type}:∀{l:List (Str×α)} {x:Str} {v:α},(x,v)∈l→∃u,l.lookup x=some u
 | (y,u)::r,x,v,h=>by
   rw [Ui]
   cases e:x==y with
   | true=>exact ⟨_,rfl⟩
   | false=>
     rcases qv.mp h with q | q
     ·cases q;simp at e
     ·exact Ex q
theorem uA (h:(gT cells names []).lookup y=some c):cells.lookup y=some c:=
 (Ei names [] (y,c) (sQ h)).elim (fun z=>by simp at z) id
theorem Bh (h:(y,NameKind.free)∈names) (e:cells.lookup y=some c):(gT cells names []).lookup y=some c:=by
 obtain ⟨u,q⟩:=Ex (Eh names [] y c (.inl ⟨h,e⟩))
 rw [q]
 rw [uA q] at e
 exact e
def HX (X:Cx) (scope:o8):List Str→List Nat→Prop
 | [],[]=>True
 | y::ys,j::js=>(X.N[j]?=some y∧X.env.kindOf y=some .cell∧scope.names.lookup y=some .free∧(relabel scope X.env).names.lookup y=some .cell)∧HX X scope ys js
 | _,_=>False
theorem El (h:ig cells names=true) (m:(y,NameKind.free)∈names):∃c,cells.lookup y=some c:=by
 unfold ig at h
 have q:=YM.mp h _ m
 exact NQ.mp (by simpa using q)
theorem HX.ok (h:ig X.env.cells scope.names=true):∀{ys:List Str} {js:List Nat},HX X scope ys js→vm X scope (gT X.env.cells scope.names []) ys js
 | [],[],_=>trivial
 | y::ys,j::js,⟨⟨a,b,c,d⟩,r⟩=>by
   have m:=sQ c
   obtain ⟨e,he⟩:=El h m
   exact ⟨⟨a,b,d,by rw [Bh m he,he]⟩,HX.ok h r⟩
theorem zF (h:ig env.cells scope.names=true) (hcell:∀y∈scope.names,y.2≠.cell) (y:Str)
 (q:(relabel scope env).names.lookup y=some .cell∨(relabel scope env).names.lookup y=some .free):∃c,(gT env.cells scope.names []).lookup y=some c:=by
 have m:(y,NameKind.free)∈scope.names:=by
  rcases q with q | q
  all_goals
   have m:=sQ q
   unfold relabel at m
   obtain ⟨⟨n,k⟩,hm,e⟩:=gP.mp m
   dsimp only at e
   split at e
   ·rename_i hc
    rw [CZ,CZ] at hc
    have hk:k=.free:=by simpa using hc.1.1
    subst hk
    cases e
    first | exact hm | done
   ·cases e
    first | exact hm | exact absurd rfl (hcell _ hm)
 obtain ⟨c,hc⟩:=El h m
 exact ⟨c,Bh m hc⟩
section
theorem Sl (hc:X.calm=true) (hi:PI X tg iter wi)
 (hg:∀(C:av) (s0:bq) (H0:Hp) (ex':List av) (jT:List (av×Obj)),PG 0#n tg g)
 (O7:∀(C:av) (s0:bq) (H0:Hp) (ex':List av) (jT:List (av×Obj)),W7 0#n ifs tt)
 (helt:∀(C:av) (s0:bq) (H0:Hp) (ex':List av) (jT:List (av×Obj)),PE 0#n elt te)
 (hO:O.length=n) (hcap:HX X scope N' cap) (hf:ig X.env.cells scope.names=true) (hcell:∀y∈scope.names,y.2≠.cell) (hkind:scope.kind=.function) (hnames:∀y∈scope.names,y.2=.local→scope.names.lookup y.1=some .local)
 (hs:∀z,HQ iter X.env z=pure z:=by intro _;rfl) :
 PE X 0#p (zH wi n cap g tt te):=
 GA hc hi hg O7 helt hO (hcap.ok hf) (Bj hf) hcell hkind hnames (fun _ _=>uA) (zF hf hcell) hs
theorem Ss (hN:X.N.Nodup) (hix:X.N[i]?=some x) (hx:Loc X.env.scope x) (hc:X.calm=true) (hi:PI X tg iter wi)
 (hg:∀(C:av) (s0:bq) (H0:Hp) (ex':List av) (jT:List (av×Obj)),PG 0#n tg g)
 (O7:∀(C:av) (s0:bq) (H0:Hp) (ex':List av) (jT:List (av×Obj)),W7 0#n ifs tt)
 (helt:∀(C:av) (s0:bq) (H0:Hp) (ex':List av) (jT:List (av×Obj)),PE 0#n elt te)
 (hO:O.length=n) (hcap:HX X scope N' cap) (hf:ig X.env.cells scope.names=true) (hcell:∀y∈scope.names,y.2≠.cell) (hkind:scope.kind=.function) (hnames:∀y∈scope.names,y.2=.local→scope.names.lookup y.1=some .local)
 (hsw:lE 0#p (some (.Name x pos')) spos.line X.env=pure true)
 (hs:∀z,HQ iter X.env z=pure z:=by intro _;rfl) (hfn:X.fn x=true∨X.env.scope.names.lookup x=some .local:=by first | exact .inl rfl | exact .inr rfl | assumption) :
 PS X (.Assign [.Name x pos'] 0#p spos) (DZ (zH wi n cap g tt te) (iM i)):=
 GH hN hix hx hc hi hg O7 helt hO (hcap.ok hf) (Bj hf) hcell hkind hnames (fun _ _=>uA) (zF hf hcell) hsw hs hfn
end
def rm (D:av) (H:Hp):Hp:=fun b=>if b=D then none else H b
theorem mJ (h:b≠D):rm D H b=H b:=if_neg h
theorem gO:au (rm D H) H:=fun b o e=>by
 unfold rm at e
 by_cases h:b=D
 ·rw [if_pos h] at e;cases e
 ·rw [if_neg h] at e;exact e
theorem rE (s:au H H'):au (rm D H) (rm D H'):=fun b o e=>by
 unfold rm at e ⊢
 by_cases h:b=D
 ·rw [if_pos h] at e;cases e
 ·rw [if_neg h] at e ⊢;exact s b o e
theorem yh:rm D (upd H D o)=rm D H:=by
 funext b
 unfold rm
 by_cases h:b=D
 ·rw [if_pos h,if_pos h]
 ·rw [if_neg h,if_neg h,aM h]
theorem d9 (hD:H D=some (.lst ys)) (h:H p=some 0#t):rm D H p=some 0#t:=by
 rw [mJ (fun e=>by rw [e,hD] at h;cases h)];exact h
theorem t6 (D:av) (H:Hp) (o:HO):au (rm D H) (upd H D o):=fun b u e=>by
 unfold rm at e
 by_cases h:b=D
 ·rw [if_pos h] at e;cases e
 ·rw [if_neg h] at e;rw [aM h];exact e
theorem pN (h:n=m+1):Qd n (-1)=some m:=by
 subst h
 unfold Qd
 rw [if_neg 0#c,if_pos 0#c]
 congr 1
 simp?
theorem Rx {n:Nat} (h0:0≤i) (h:i<(n:Int)):Qd n i=some i.toNat:=by
 unfold Qd
 rw [if_pos h0,if_pos h]
structure Tells (J:It) (ok:Hp→Prop) (xs:List V):Prop where
 go:∀i H,ok H→i<xs.length→J.go i H∧∀x H',J.TV i H x H'→H'=H∧xs[i]?=some x
 stop:∀H,ok H→J.stop xs.length H
theorem bV {K:bZ}:Tells (ZP K a) (fun H=>aX K H a xs) xs:=
 ⟨fun i H h hi=>⟨⟨xs,xs[i],h,by simp [hi]⟩,fun x H' y=>⟨y.1,y.2 xs h⟩⟩,fun H h=>⟨xs,h,dz _⟩⟩
theorem PM {K:bZ}:Tells (Itt K a) (fun H=>tG K H a xs) xs:=
 ⟨fun i H h hi=>⟨⟨xs,xs[i],h,by simp [hi]⟩,fun x H' y=>⟨y.1,y.2 xs h⟩⟩,fun H h=>⟨xs,h,dz _⟩⟩
theorem PL {lo:Int}:Tells (UU lo n) (fun _=>True) ((fu n).map fun (i:Nat)=>V.int (lo+(i:Int))):=
 ⟨fun i H h hi=>⟨show i<n by simpa using hi,fun x H' y=>⟨y.1,by
  have hi':i<n:=by simpa using hi
  rw [dm,HN hi']
  exact congrArg some y.2.symm⟩⟩,fun H h=>by show n≤_;simp⟩
def MQ (n:Nat) (cap:List Nat) (g:TG) (tt:TT) (te:TE) (σ:L2.St) (Q:VK) (J:It) (H1:Hp):Prop:=∀D,H1 D=none→∃W:Nat→Nat→List V→Hp→Prop,(∃m,W 0 m [] (upd H1 D (.lst []))) ∧
 ∀i m xs H2,W i m xs H2→H2 D=some (.lst xs)∧((J.stop i H2∧Q (.ref D) H2)∨(J.go i H2∧xs.length<sizeLine∧∀x H3 jK,jK.length=n→J.TV i H2 x H3 →
  g x (jK++mZ cap σ) H3 fun σ2 H4=>(∃σ1,σ1.length=n∧σ2=σ1++mZ cap σ)∧tt σ2 H4 fun b H5=>if b=true then te σ2 H5 fun y H6=>H6 D=some (.lst xs)∧∃m',m'<m∧W (i+1) m' (xs++[y]) (upd H6 D (.lst (xs++[y])))
    else ∃m',m'<m∧W (i+1) m' xs H5))
section
theorem abc (h:wi σ H fun J H1=>MQ n cap g tt te σ Q J H1):zH wi n cap g tt te σ H Q:=h
theorem uO (h:ta σ H fun vs H1=>∃j:Int,vs=[.int j]∧-(2 ^ 62)≤j∧j<2 ^ 62∧R (UU 0 j.toNat) H1):Rv ta σ H R:=h
theorem adn (h:B true H):abH σ H B:=h
theorem cC (T:Tells J ok xs) (hok:∀H2,au H H2→ok H2) (hl:xs.length≤1000000) (P:Nat→List V→Hp→Prop) (h0:P 0 [] H)
 (step:∀(D:av) (i:Nat) (x:V) (ys:List V) (H2:Hp) (jK:L2.St) (N:VK) (N0:Hp→Prop),jK.length=n→H D=none→H2 D=some (.lst ys)→au H H2→xs[i]?=some x→ys.length≤i→P i ys (rm D H2) →
   (∀y H6,au H2 H6→P (i+1) (ys++[y]) (rm D H6)→N y H6)→(∀H5,au H2 H5→P (i+1) ys (rm D H5)→N0 H5) →
   g x (jK++mZ cap σ) H2 fun σ2 H4=>(∃σ1,σ1.length=n∧σ2=σ1++mZ cap σ)∧tt σ2 H4 fun b H5=>if b=true then te σ2 H5 N else N0 H5)
 (done:∀(D:av) (ys:List V) (H2:Hp),H D=none→H2 D=some (.lst ys)→au H H2→ys.length≤xs.length→P xs.length ys (rm D H2)→Q (.ref D) H2):MQ n cap g tt te σ Q J H:=by
 intro D hD
 refine ⟨fun i m ys H2=>H2 D=some (.lst ys)∧au H H2∧ys.length≤i∧i≤xs.length∧m=xs.length-i∧P i ys (rm D H2),⟨xs.length,aA,aY (au.refl _) hD,mW _,mW _,rfl,?_⟩,?_⟩
 ·rw [yh]
  have e:rm D H=H:=by
   funext b
   by_cases h:b=D
   ·rw [h,hD];exact if_pos rfl
   ·exact mJ h
  rw [e];exact h0
 ·rintro i m ys H2 ⟨e,s,hy,hi,rfl,p⟩
  refine ⟨e,?_⟩
  by_cases hlt:i<xs.length
  ·obtain ⟨go,TV⟩:=T.go i H2 (hok H2 s) hlt
   refine .inr ⟨go,D5 (eE (eE hy hi) hl) 0#i,fun x H3 jK h0 y=>?_⟩
   obtain ⟨rfl,hx⟩:=TV x H3 y
   refine step D i x ys _ jK _ _ h0 hD e s hx hy p (fun y H6 s6 p6=>?_) fun H5 s5 p5=>?_
   ·refine ⟨s6 _ _ e,xs.length-(i+1),by simp?,aA,aY (s.trans s6) hD,?_,by simp?,rfl,?_⟩
    ·rw [fq,HK];simp?
    ·rw [yh];exact p6
   ·exact ⟨xs.length-(i+1),by simp?,s5 _ _ e,s.trans s5,by simp?,by simp?,rfl,p5⟩
  ·have ei:i=xs.length:=by simp?
   subst ei
   exact .inl ⟨T.stop H2 (hok H2 s),done D ys H2 hD e s hy p⟩
theorem fD {R:L2.St→Hp→Prop} (h0:jK.length=1) (h:R (some x::mZ cap σ) H):iM 0 x (jK++mZ cap σ) H fun σ2 H4=>(∃σ1,σ1.length=1∧σ2=σ1++mZ cap σ)∧R σ2 H4:=by
 match jK,h0 with
 | [v],_=>exact ⟨⟨[some x],rfl,rfl⟩,h⟩
theorem Cd {K:bZ} {R:L2.St→Hp→Prop} (h0:jK.length=2) (hp:H p=some (.tup [x,y])) (h:R (some x::some y::mZ cap σ) H) :
 OR K 2 (qx (iM 0) (qx (iM 1) OP)) (.ref p) (jK++mZ cap σ) H fun σ2 H4=>(∃σ1,σ1.length=2∧σ2=σ1++mZ cap σ)∧R σ2 H4:=by
 match jK,h0 with
 | [v,u],_=>exact ⟨p,_,rfl,tG.of hp,rfl,x,_,rfl,y,_,rfl,rfl,⟨[some x,some y],rfl,rfl⟩,h⟩
end
end My
namespace Jd
open PySem PySem.Spec PyProof.Rows L2 My
structure QTs (X:Cx) (ifs:List bg) (t:TT):Prop where
 h:W7 X ifs t
section
theorem GQ {X:Cx}:QTs X [] abH:=⟨My.GQ⟩
theorem GR (h:QT X c tt):QTs X [c] tt:=⟨My.GR h.h⟩
theorem GA {X:Cx} {elt iter tg:bg} {ifs:List bg} {pos:Pos} {scope:o8} {wi:TI} {te:TE} {tt:TT} {g:TG} {O N':List Str} {cap:List Nat} {n:Nat} (hc:X.calm=true) (hi:QI X tg iter wi)
 (hg:∀(C:av) (s0:bq) (H0:Hp) (ex':List av) (jT:List (av×Obj)),QG 0#n tg g)
 (O7:∀(C:av) (s0:bq) (H0:Hp) (ex':List av) (jT:List (av×Obj)),QTs 0#n ifs tt)
 (helt:∀(C:av) (s0:bq) (H0:Hp) (ex':List av) (jT:List (av×Obj)),QE 0#n elt te)
 (hO:O.length=n) (hcap:HX X scope N' cap) (hf:ig X.env.cells scope.names=true) (hcell:∀y∈scope.names,y.2≠.cell) (hkind:scope.kind=.function) (hnames:∀y∈scope.names,y.2=.local→scope.names.lookup y.1=some .local)
 (hs:∀z,HQ iter X.env z=pure z:=by intro _;rfl) :
 QE X 0#p (zH wi n cap g tt te):=
 ⟨My.Sl hc hi.h (fun C s0 H0 ex' jT=>(hg C s0 H0 ex' jT).h) (fun C s0 H0 ex' jT=>(O7 C s0 H0 ex' jT).h) (fun C s0 H0 ex' jT=>(helt C s0 H0 ex' jT).h) hO hcap hf hcell hkind hnames hs⟩
theorem GH (hN:X.N.Nodup) (hix:X.N[i]?=some x) (hx:Loc X.env.scope x) (hc:X.calm=true) (hi:QI X tg iter wi)
 (hg:∀(C:av) (s0:bq) (H0:Hp) (ex':List av) (jT:List (av×Obj)),QG 0#n tg g)
 (O7:∀(C:av) (s0:bq) (H0:Hp) (ex':List av) (jT:List (av×Obj)),QTs 0#n ifs tt)
 (helt:∀(C:av) (s0:bq) (H0:Hp) (ex':List av) (jT:List (av×Obj)),QE 0#n elt te)
 (hO:O.length=n) (hcap:HX X scope N' cap) (hf:ig X.env.cells scope.names=true) (hcell:∀y∈scope.names,y.2≠.cell) (hkind:scope.kind=.function) (hnames:∀y∈scope.names,y.2=.local→scope.names.lookup y.1=some .local)
 (hsw:lE 0#p (some (.Name x pos')) spos.line X.env=pure true)
 (hs:∀z,HQ iter X.env z=pure z:=by intro _;rfl) (hfn:X.fn x=true∨X.env.scope.names.lookup x=some .local:=by first | exact .inl rfl | exact .inr rfl | assumption) :
 QS X (.Assign [.Name x pos'] 0#p spos) (DZ (zH wi n cap g tt te) (iM i)):=
 ⟨My.Ss hN hix hx hc hi.h (fun C s0 H0 ex' jT=>(hg C s0 H0 ex' jT).h) (fun C s0 H0 ex' jT=>(O7 C s0 H0 ex' jT).h) (fun C s0 H0 ex' jT=>(helt C s0 H0 ex' jT).h) hO hcap hf hcell hkind hnames hsw hs hfn⟩
end
end Jd
namespace My
open PySem PySem.Spec PyProof.Rows L2 Mth
def Ny (K:bZ) (C fI:av):Bool:=match K.lookup C with
 | some ⟨.type "type",_,.cls cd,sl⟩=>(match cd.mro,sl.toList with
   | .ref C'::bm,[_,_,_,_,some (.builtin n),_]=>C'==C&&n == "ValueError.__new__"&&!cd.hasDel&&cd.hasDict&&PySem.W.tailIn K [.type "ValueError",.type "Exception",.type "BaseException",.type "object"] bm&&PySem.W.nsOkIn K cd.ns&&i7 K cd.ns "__init__"==some (some (.ref fI))
   | _,_=>false)
 | _=>false
theorem o4:∀{us:List aL} {ns:List Int},Dc us ns→Vals (ns.map V.int) us
 | _,_,.nil=>.nil
 | _,_,.cons n t r=>.cons ⟨t,rfl⟩ (o4 r)
def NG (K:bZ):List V→Hp→VK→Prop:=fun xs H Q=>∃(l:av) (ns:List Int),xs=[.ref l]∧aX K H l (ns.map V.int)∧ns.length<64 ∧
 ∀(p:av) (ns':List Int),H p=none→ns'.Perm ns→ns'.Pairwise (·≤·)→Q (.ref p) (upd H p (.lst (ns'.map V.int)))
theorem WT (K:bZ) (hK:X.K=K:=by rfl):ja X (.builtin "sorted") (NG K):=by
 subst hK
 intro pins s σ H xs us Q I r h
 obtain ⟨l,ns,rfl,hq,h64,q⟩:=h
 obtain ⟨u,rfl,rx⟩:=vals1 r
 cases rx
 obtain ⟨its,rv,p,hz⟩:=I.list hq
 have hl:=rv.length
 rw [gJ] at hl
 refine sorted_ints p.isList (intsAre_of rv) 0#c fun out ns' a1 a2 a3=>?_
 obtain ⟨e,he⟩:=sortedAll_at s.heap its out
 have hn:H (s.heap.objs.size+1)=none:=I.hok.fresh (wO _)
 refine ⟨.ref (s.heap.objs.size+1),_,I.laid (t':=s.toks) (o:=.lst (ns'.map V.int)) (fun b o z=>sortedAll_old z) (wO _) ?_,rfl,q _ ns' hn a2 a3⟩
 refine ⟨?_,out.toList,e,o4 a1,?_⟩
 ·rw [gJ,a2.length_eq]
  exact tS (aN 0#c)
 ·rw [he]
theorem SE {K:bZ} (h:aX K H l (ns.map V.int)) (h64:ns.length<64) (q:∀(p:av) (ns':List Int) (H':Hp),au H H'→H p=none→H' p=some (.lst (ns'.map V.int))→ns'.Perm ns→ns'.Pairwise (·≤·)→Q (.ref p) H'):NG K [.ref l] H Q:=
 ⟨l,ns,rfl,h,h64,fun p ns' hp h1 h2=>q p ns' _ (aY (au.refl _) hp) hp aA h1 h2⟩
section
theorem WD (h:ta σ H fun x H1=>tb σ H1 fun y H2=>r x y H2 fun z H3=>∃k,z=.bl k∧(if k=true then tc σ H3 fun w' H4=>r' y w' H4 Q else Q (.bl false) H3)):MJ r r' ta tb tc σ H Q:=h
theorem pV (h:ta σ H fun vs H1=>∃i j:Int,vs=[.int i,.int j]∧(-(2 ^ 62)≤i∧i<2 ^ 62∧-(2 ^ 62)≤j∧j<2 ^ 62)∧R (UU i (j-i).toNat) H1):Rw ta σ H R:=h
end
end My
namespace Jd
open PySem PySem.Spec PyProof.Rows L2 My
theorem yd (hg:Gl X "range") (hm:X.mg "range"=none) (ha:QA X [a,b] t) (hs:bw [a,b] X.env=[(false,eval a X.env),(false,eval b X.env)]:=by rfl) (hs2:bw [b] X.env=[(false,eval b X.env)]:=by rfl) :
 QI X tg (.Call (.Name "range" p) [a,b] [] pos) (Rw t):=⟨L2.yd hg hm ha.h hs hs2⟩
end Jd
namespace My
open PySem PySem.Spec PyProof.Rows L2 Mth
theorem qV {σ:L2.St} {T:av} (ch:List av) (I:L2.Inv X pins σ H s) (k:∀b u,b∉ch→s.heap.get? b=some u→h'.get? b=some u)
 (hf:∀b∈ch,zY X pins H b) (hT:s.heap.objs.size≤T) (new:gA X.prog X.w (upd H T o) h' T o):L2.Inv X pins σ (upd H T o) { s with heap:=h',toks:=t' }:=by
 have hn:H T=none:=I.hok.fresh hT
 have out:∀b u,H b=some u→b∉ch:=fun b u e z=>by rw [(hf b z).1] at e;cases e
 have old:∀b u,H b=some u→upd H T o b=some u:=fun b u e=>by rw [aM (bH e hn)];exact e
 refine I.step (g':=s.gens) (d':=s.drawn) (ch:=ch) (fun b hb=>?_) (fun b u _ _ hc e _=>k b u hc e) (fun b u _ _ hc e _=>⟨u.slots,k b u hc e⟩) (fun b u hc e z=>?_) (fun b u hc e=>⟨u,k b u hc e⟩)
  (fun b xs e=>old b _ e) (fun b u v e=>old b _ e) (fun b ps e=>⟨#[],by rw [old b _ e];simp⟩) (fun m hm=>?_) (fun b u e=>?_) I.bare
 ·obtain ⟨_,f1,_,f3,f4,f5⟩:=hf b hb
  exact ⟨f3,f1,f4,f5⟩
 ·have hb:b≠T:=lz (qq (fT e) hT)
  rw [aM hb]
  exact z
 ·obtain ⟨u,es,ep,hu,r⟩:=hm
  exact ⟨u,es,ep,k _ u (fun z=>(hf _ z).2.1 rfl) hu,r⟩
 ·by_cases hb:b=T
  ·subst hb
   rw [aA] at e
   cases e
   exact new
  ·rw [aM hb] at e
   exact gA.stay (I.hok b u e) (fun c v hc q=>k c v (hc.elim (fun z=>z▸out b u e) fun z=>out c _ z) q) (fun c q=>old c _ q) fun c xs q=>old c _ q
def ZO (K:bZ) (a:av):It:=
 ⟨fun i H=>∃xs x,aX K H a xs∧xs[i]?=some x,fun i H v H'=>∃(p:av) (x:V),H p=none∧v=.ref p∧H'=upd H p (.tup [.int (i:Int),x])∧∀xs,aX K H a xs→xs[i]?=some x,fun i H=>∃xs,aX K H a xs∧xs.length≤i⟩
theorem PV {K:bZ} (a e it:av) (hei:e≠it) :
 Turn P w K (.Tuple elts kt tpos) (ZO K a) [e,it] e (fun i h=>(∃old,IsEnum h e it (i:Int) old)∧h.IsListIter it a i) where
 mem:=by simp
 obj:=fun i h st b hb=>by
  obtain ⟨⟨old,he⟩,o,eo,c,d⟩:=st
  rcases (show b=e∨b=it by simpa using hb) with rfl | rfl
  ·exact ⟨_,he,fun v z=>by cases z⟩
  ·exact ⟨o,eo,fun v z=>by rw [d] at z;cases z⟩
 keep:=fun i h h' st k=>⟨let ⟨old,he⟩:=st.1;⟨old,k e 0#e _ he⟩,st.2.at fun o q=>k it 0#e o q⟩
 item:=by
  intro X hP hw hK hc i pins s σ H E I hf st hg
  subst hP hw hK
  obtain ⟨⟨old,he⟩,hit⟩:=st
  obtain ⟨xs,x,hq,hx⟩:=hg
  obtain ⟨its,rv,p,hz⟩:=I.list hq
  obtain ⟨u,hu,ru⟩:=rv.get hx
  refine wpAny_pyNext_enum_item he hit p.isList (x:=u) (by simpa using hu) hei fun h1 ho aeN hT hsz hk=>?_
  refine ⟨_,rfl,wpAny_letOwnedTupleGo_enum (s:={ s with heap:=h1,toks:=s.toks+1 }) ho fun h2 U0 hs2=>?_⟩
  have aaA:C6 e h1 h2:=hs2
  have ke:∀b o,b∉[e,it]→s.heap.get? b=some o→h2.get? b=some o:=fun b o hb q=>by
   have hb1:b≠e:=fun z=>hb (by simp [z])
   have hb2:b≠it:=fun z=>hb (by simp [z])
   exact (aaA.2 b hb1).trans (hk b o hb1 hb2 q)
  have elt:e<s.heap.objs.size:=fT he
  have hT2:h2.get? s.heap.objs.size=some { cls:=.type "tuple",data:=.seq #[.int i s.toks,u] }:=(aaA.2 _ (Uv elt)).trans hT
  have hn:H s.heap.objs.size=none:=I.hok.fresh (dz _)
  have I2:L2.Inv X pins σ (upd H s.heap.objs.size (.tup [.int (i:Int),x])) { s with heap:=h2,toks:=s.toks+1 }:=by
   refine qV [e,it] I ke hf (dz _) ?_
   exact ⟨by show 2≤sizeLine;decide,[.int (i:Int) s.toks,u],.cons ⟨_,rfl⟩ (.cons ru .nil),_,hT2,rfl,_,rfl⟩
  refine ⟨.ref s.heap.objs.size,upd H s.heap.objs.size (.tup [.int (i:Int),x]),I2,rfl,⟨s.heap.objs.size,x,hn,rfl,rfl,fun ys hy=>by rw [I.vH hy hq];exact hx⟩,⟨⟨u,?_⟩,aeN.at fun o q=>(aaA.2 it (jn hei)).trans q⟩,fun b hb=>?_⟩
  ·have:=U0
   simpa using this
  ·have hb1:=(hf b hb).1
   have ilt:it<s.heap.objs.size:=by
    obtain ⟨o,eo,_⟩:=hit
    exact fT eo
   have hb2:b≠s.heap.objs.size:=by
    rcases (show b=e∨b=it by simpa using hb) with rfl | rfl
    ·exact lz elt
    ·exact lz ilt
   rw [aM hb2]
   exact hb1
 done:=by
  intro X hP hw hK hc i pins s σ H E I hf st hg
  subst hP hw hK
  obtain ⟨⟨old,he⟩,hit⟩:=st
  obtain ⟨xs,hq,hx⟩:=hg
  obtain ⟨its,rv,p,hz⟩:=I.list hq
  have hl:=rv.length
  obtain ⟨f0,f1,f2,f3,f4,f5⟩:=hf it 0#e
  exact wpAny_pyNext_enum_end (I.ok.hd hc) he hit p.isList (by simp;simp?) fun h' eb=>⟨rfl,I.turned (t':=s.toks) (fun b o hb q=>eb b o hb q) f0 f1 f3 f4 f5⟩
 self:=fun _ _ _ _ _ st h=>let ⟨_,he⟩:=st.1;YE he h
def Ru (K:bZ) (ta:TA):TI:=fun σ H R=>ta σ H fun vs H1=>∃a xs,vs=[.ref a]∧aX K H1 a xs∧R (ZO K a) H1
section
theorem AH (K:bZ) (hg:Gl X "enumerate") (hm:X.mg "enumerate"=none) (ha:PA X [a] ta) (hs:bw [a] X.env=[(false,eval a X.env)]:=by rfl) (hK:X.K=K:=by rfl) :
 PI X (.Tuple elts kt tpos) (.Call (.Name "enumerate" p) [a] [] pos) (Ru K ta):=by
 subst hK
 intro pins s σ H R I h
 refine Call_ (uH I hg hm boot_enumerate (JS (gR (ha pos pins s σ H _ I h) fun us s1 ⟨vs,H1,I1,r1,q1⟩=>?_) hs rfl))
 obtain ⟨l,xs,e,hq,q⟩:=q1
 subst e
 cases r1 with
 | cons r rr=>
   cases rr
   cases r
   obtain ⟨its,rv,pl,hz⟩:=I1.list hq
   refine call_enumerate_list pl.isList fun h' he hit hsz hk=>?_
   have I2:L2.Inv X pins σ H1 { s1 with heap:=h' }:=I1.kept (t':=s1.toks) hk
   refine YE (s:={ s1 with heap:=h' }) he ?_
   refine ⟨s1.heap.objs.size+1,[s1.heap.objs.size+1,s1.heap.objs.size],_,_,H1,rfl,I2,PV l (s1.heap.objs.size+1) s1.heap.objs.size (Nat.succ_ne_self _),⟨⟨_,he⟩,hit⟩,fun b hb=>?_,q⟩
   rcases (show b=s1.heap.objs.size+1∨b=s1.heap.objs.size by simpa using hb) with rfl | rfl
   ·exact I1.KI (wO _) (I1.hok.fresh (wO _))
   ·exact I1.KI (dz _) (I1.hok.fresh (dz _))
theorem Sx {K:bZ} (h:ta σ H fun vs H1=>∃a xs,vs=[.ref a]∧aX K H1 a xs∧R (ZO K a) H1):Ru K ta σ H R:=h
theorem Q4 {σ:L2.St} {H:Hp} {K:bZ} {a:av} {g:TG} {tb:TS} {D:Ends} (Pv:Nat→L2.St→Hp→Prop) (h0:Pv 0 σ H) (hl:∀i σ H,i≤xs.length→Pv i σ H→aX K H a xs)
 (hs:∀(i:Nat) (x:V) (σ:L2.St) (H:Hp) (p:av) (H':Hp),xs[i]?=some x→Pv i σ H→au H H'→H p=none→H' p=some (.tup [.int (i:Int),x])→g (.ref p) σ H' fun σ2 H2=>tb { D with nx:=Pv (i+1),ct:=Pv (i+1),bk:=D.nx } σ2 H2)
 (hd:∀σ H,Pv xs.length σ H→D.nx σ H) :
 ∃W:Nat→Nat→L2.St→Hp→Prop,(∃m,W 0 m σ H)∧∀i m σ H,W i m σ H →
  ((ZO K a).stop i H∧D.nx σ H)∨((ZO K a).go i H∧∃N:L2.St→Hp→Prop,(∀σ' H',N σ' H'→∃m',m'<m∧W (i+1) m' σ' H')∧∀x H',(ZO K a).TV i H x H'→g x σ H' fun σ2 H2=>tb { D with nx:=N,ct:=N,bk:=D.nx } σ2 H2):=by
 refine ⟨fun i m σ H=>m=xs.length-i∧i≤xs.length∧Pv i σ H,⟨xs.length,rfl,mW _,h0⟩,?_⟩
 rintro i m σ H ⟨rfl,hi,p⟩
 have q:=hl i σ H hi p
 rcases UC i xs.length with hlt | hge
 ·refine .inr ⟨⟨xs,xs[i],q,mX hlt⟩,Pv (i+1),fun σ' H' p'=>⟨xs.length-(i+1),by simp?,rfl,hlt,p'⟩,fun x H' y=>?_⟩
  obtain ⟨pt,y',hn,rfl,rfl,hy⟩:=y
  exact hs i y' σ H pt _ (hy xs q) p (kr hn _) hn aA
 ·have ei:i=xs.length:=by simp?
  subst ei
  exact .inl ⟨⟨xs,q,dz _⟩,hd σ H p⟩
theorem abe (h:D.ct σ H):Tw D σ H:=h
theorem acE (K:bZ) (h:X.K=K:=by rfl):qR X (qw .In) (rIn K false):=h▸Px
end
def Xx (K:bZ):List V→Hp→VK→Prop:=fun xs H Q=>∃(l:av) (ns:List Int),xs=[.ref l]∧aX K H l (ns.map V.int)∧0<ns.length∧∀M:Int,M∈ns→(∀a∈ns,M≤a)→Q (.int M) H
theorem ae8 (K:bZ) (hc:X.calm=true) (hK:X.K=K:=by rfl):ja X (.builtin "min") (Xx K):=by
 subst hK
 intro pins s σ H xs us Q I r h
 obtain ⟨l,ns,rfl,hq,hpos,q⟩:=h
 obtain ⟨u,rfl,rx⟩:=vals1 r
 cases rx
 obtain ⟨its,rv,p,hz⟩:=I.list hq
 have hi:=intsAre_of rv
 obtain ⟨ys,e⟩:=hi.allInts.items
 have hns:ns=ys.toList.map (·.1):=by
  have h2:=Zi ys
  rw [← e] at h2
  exact hi.numsOf.symm.trans h2
 have Es:s.heap.IsList l (intItems ys):=by rw [← e];exact p.isList
 have hlen:ns.length=ys.size:=by rw [hns,gJ,N5]
 refine min_intList (I.ok.hd hc) Es 0#c fun v h' tk hv hk=>?_
 obtain ⟨t,rfl⟩:=intItems_at hv
 obtain ⟨h1,h2⟩:=argBest_lt (numAt ys) (ys.size-1)
 refine ⟨.int _,H,I.kept hk,⟨t,rfl⟩,q _ ?_ fun a ha=>?_⟩
 ·rw [Oz,← hns]
  exact Y3 0#c
 ·obtain ⟨j,hj,rfl⟩:=Y4 ha
  have:=h2 j 0#c
  rw [Oz ys j,← hns] at this
  exact this
theorem abk {K:bZ} {ns:List Int} (h:aX K H l (ns.map V.int)) (hp:0<ns.length) (q:∀M:Int,M∈ns→(∀a∈ns,M≤a)→Q (.int M) H):Xx K [.ref l] H Q:=⟨l,ns,rfl,h,hp,q⟩
end My
namespace Jd
open PySem PySem.Spec PyProof.Rows L2 My
theorem rC:QS X (.Continue pos) Tw:=⟨L2.rC⟩
theorem AH (K:bZ)  (hg:Gl X "enumerate") (hm:X.mg "enumerate"=none) (ha:QA X [a] ta) (hs:bw [a] X.env=[(false,eval a X.env)]:=by rfl) (hK:X.K=K:=by rfl) :
 QI X (.Tuple elts kt tpos) (.Call (.Name "enumerate" p) [a] [] pos) (Ru K ta):=⟨My.AH K hg hm ha.h hs hK⟩
end Jd
namespace My
open PySem PySem.Spec PyProof.Rows L2 Mth
def vo (K:bZ) (C:av):List Str→Prop
 | []=>True
 | f::fs=>nY K C f∧vo K C fs
theorem vo.of {K:bZ}:∀{fs:List Str},vo K C fs→f∈fs→nY K C f
 | g::fs,h,hm=>by
   rcases qv.mp hm with z | z
   ·rw [z];exact h.1
   ·exact vo.of h.2 z
structure Cl (K:bZ) (mg:Str→Option aL) (x:Str) (C:av) (fs:List Str):Prop where
 cl:Ko K C
 at_:mg x=some (.ref C)
 no:vo K C fs
structure Dm (P:jk) (w:eG) (K:bZ) (mg:Str→Option aL) (base:cJ) (k:Nat) (C:av) (m:Str) (ps:List Str) (sp:Sp):Prop where
 ex:∃(f:av) (fd:jF),bf P w K mg base c7 k f fd ps sp∧Meth K C m f∧Binds K fd ps []
structure Dk (P:jk) (w:eG) (K:bZ) (mg:Str→Option aL) (base:cJ) (k:Nat) (x:Str) (C:av) (ps:List Str) (sp:Sp):Prop where
 ex:∃(f:av) (fd:jF),bf P w K mg base c7 k f fd ps sp∧Mk K C f∧Binds K fd ps []∧mg x=some (.ref C)
def acZ (K:bZ) (f:Str):V→Hp→VK→Prop:=fun x H Q=>∃a C dx fs v,x=.ref a∧H a=some (.ins C dx fs)∧Ko K C∧nY K C f∧fs.lookup f=some v∧Q v H
def Xu (K:bZ) (f:Str) (y:V) (N:Hp→Prop):V→Hp→Prop:=fun x H=>∃a C dx fs,x=.ref a∧H a=some (.ins C dx fs)∧Ko K C∧nY K C f∧fs.length<1000∧N (upd H a (.ins C dx (aB f y fs)))
def Xw (C:av) (m:Str) (sp:Sp) (σ:L2.St) (t:TA):V→Hp→VK→Prop:=fun x H1 Q=>∃a dx fs,x=.ref a∧H1 a=some (.ins C dx fs)∧fs.lookup m=none∧t σ H1 fun vs H2=>sp (x::(vs++[])) H2 Q E0
section
theorem ac5 {K:bZ} (h:to σ H fun x H1=>acZ K f x H1 Q):abz K to f σ H Q:=h
theorem abn {K:bZ} (h:tv σ H fun y H1=>to σ H1 fun x H2=>Xu K f y (fun H3=>D.nx σ H3) x H2):abr K to tv f D σ H:=h
theorem abj (h:to σ H fun x H1=>Xw C m sp σ t x H1 Q):JK C m sp [] E0 to t σ H Q:=h
theorem abh (h:t σ H fun vs H1=>∀x dx,H1 x=none→H1 dx=none→dx≠x→sp (.ref x::(vs++[])) (upd (upd H1 dx (.own x)) x (.ins C dx [])) (fun v H2=>v=.bM∧Q (.ref x) H2) E0):TF C sp [] E0 t σ H Q:=h
theorem jI {K:bZ} (k:Cl K mg x C fn) (ha:H a=some (.ins C dx fs)) (hl:fs.lookup f=some v) (q:Q v H) (hf:f∈fn:=by decide):acZ K f (.ref a) H Q:=⟨a,C,dx,fs,v,rfl,ha,k.cl,k.no.of hf,hl,q⟩
theorem zE {K:bZ} (k:Cl K mg x C fn) (ha:H a=some (.ins C dx fs)) (hn:fs.length<1000) (q:N (upd H a (.ins C dx (aB f y fs)))) (hf:f∈fn:=by decide):Xu K f y N (.ref a) H:=⟨a,C,dx,fs,rfl,ha,k.cl,k.no.of hf,hn,q⟩
theorem Qg (ha:H a=some (.ins C dx fs)) (hm:fs.lookup m=none) (q:t σ H fun vs H2=>sp (.ref a::(vs++[])) H2 Q E0):Xw C m sp σ t (.ref a) H Q:=⟨a,dx,fs,rfl,ha,hm,q⟩
end
end My
namespace Jd
open PySem PySem.Spec PyProof.Rows L2 My
section
theorem LS {X:Cx} {f:Str} {pos:Pos} {e:bg} {to:TE} (K:bZ) (he:QE X e to) (hb:vf e f X.env (eval e X.env)=eval e X.env:=by rfl) (hK:X.K=K:=by rfl):QE X (.Attribute e f pos) (abz K to f):=⟨hK▸L2.LS he.h hb⟩
theorem L6 {X:Cx} {f:Str} {pos:Pos} {o value:bg} {to tv:TE} (K:bZ) {pos':Pos} (ha:QE X o to) (hv:QE X value tv) (hs:lE value (some (.Attribute o f pos')) pos.line X.env=pure false:=by rfl) (hK:X.K=K:=by rfl):QS X (.Assign [.Attribute o f pos'] value pos) (abr K to tv f):=⟨hK▸L2.L6 ha.h hv.h hs⟩
theorem Sm (D:Dk X.prog X.w X.K X.mg X.base k x C ps sp) (hr:iJ (k+1) X.A) (hg:Gl X x) (ha:QA X (e::es) t) (hdb:0#y=false:=by decide)
 (he:bw (e::es) X.env=(false,eval e X.env)::bw es X.env:=by rfl) (hpl:(gZ pos (bw es X.env)).any (·.1)=false:=by rfl):QE X (.Call (.Name x p) (e::es) [] pos) (TF C sp [] E0 t):=by
 obtain ⟨fa,fd,ok,hk,hb,hm⟩:=D.ex
 exact ⟨Wu hk ok hr hg hm hb .nil Nz ha.h hdb he hpl⟩
theorem vQ {X:Cx} {k:Nat} {m:Str} {ps:List Str} {sp:Sp} {pos apos:Pos} {o e:bg} {es:List bg} {to:TE} {t:TA} {C:av} (D:Dm X.prog X.w X.K X.mg X.base k C m ps sp) (c:Ko X.K C) (hr:iJ k X.A) (ho:QE X o to) (ha:QA X (e::es) t) {pl:Sem Bool}
 (he:bw (e::es) X.env=(false,eval e X.env)::bw es X.env:=by rfl) (hpl:(gZ pos (bw es X.env)).any (·.1)=false:=by rfl)
 (ht:eval (.Call (.Attribute o m apos) (e::es) [] pos) X.env=(do
   let ov ← eval o X.env
   zU apos.atName
   let (g,first) ← holding [ov] (getMethod ov m pl)
   callWith pos g first (gZ pos (bw (e::es) X.env)) (sF pos (sD [] X.env))):=by rfl):QE X (.Call (.Attribute o m apos) (e::es) [] pos) (JK C m sp [] E0 to t):=by
 obtain ⟨fa,fd,ok,hm,hb⟩:=D.ex
 exact ⟨Wv ho.h c hm ok hr hb .nil Nz ha.h he hpl ht⟩
theorem LR {X:Cx} {k:Nat} {m:Str} {ps:List Str} {sp:Sp} {pos apos:Pos} {o:bg} {to:TE} {C:av} (D:Dm X.prog X.w X.K X.mg X.base k C m ps sp) (c:Ko X.K C) (hr:iJ k X.A) (ho:QE X o to) {pl:Sem Bool}
 (ht:eval (.Call (.Attribute o m apos) [] [] pos) X.env=(do
   let ov ← eval o X.env
   zU apos.atName
   let (g,first) ← holding [ov] (getMethod ov m pl)
   callWith pos g first (gZ pos (bw [] X.env)) (sF pos (sD [] X.env))):=by rfl):QE X (.Call (.Attribute o m apos) [] [] pos) (JK C m sp [] E0 to ql):=by
 obtain ⟨fa,fd,ok,hm,hb⟩:=D.ex
 exact ⟨Sn ho.h c hm ok hr hb .nil Nz ht⟩
end
end Jd
namespace My
open PySem PySem.Spec PyProof.Rows L2 Mth
theorem abp (K:bZ)  (ho:PE X o to) (h:X.K=K:=by rfl) (hbase:vf o "reverse" X.env (eval o X.env)=eval o X.env:=by rfl) (hline:(apos.endLine==cpos.line)=true:=by rfl) :
 PE X (.Call (.Attribute o "reverse" apos) [] [] cpos) (tUn (fun x H Q=>WY K "list" x H∧vR x [] H Q) to):=
 h▸Sk NT PySem.F.slot_list_reverse PySem.F.type_list_reverse Lm ho hbase hline
theorem adh (h:H p=some (.lst xs)) (q:Q .bM (upd H p (.lst xs.reverse))):vR (.ref p) [] H Q:=⟨p,xs,rfl,rfl,h,q⟩
theorem Io (K:bZ)  (ho:PE X o to) (he:PE X e te) (h:X.K=K:=by rfl)
 (hbase:vf o "extend" X.env (eval o X.env)=eval o X.env:=by rfl)
 (hfew:((gZ cpos (bw (e::[]) X.env)).all (fun x=>!x.1)&&(sF cpos (sD [] X.env)).all (fun x=>x.1.isSome)
   && decide 0#x)=true:=by rfl)
 (hline:(apos.endLine==cpos.line)=true:=by rfl) (hs:bw (e::[]) X.env=(false,eval e X.env)::bw [] X.env:=by rfl) (hplain:(gZ cpos (bw [] X.env)).any (·.1)=false:=by rfl) :
 PE X (.Call (.Attribute o "extend" apos) [e] [] cpos) (XE K "list" AJ to (fW te ql)):=
 h▸Sj NT PySem.F.slot_list_extend PySem.F.type_list_extend Pf ho (j7 he uN hs) hbase hfew hline hs hplain
theorem EG (h:H p=some (.lst xs)) (hb:H b=some (.lst zs)) (hl:xs.length+zs.length≤sizeLine) (q:Q .bM (upd H p (.lst (xs++zs)))):AJ (.ref p) [.ref b] H Q:=⟨p,b,xs,zs,rfl,rfl,h,hb,hl,q⟩
end My
namespace Jd
open PySem PySem.Spec PyProof.Rows L2 Mth
theorem abp (K:bZ)  (ho:QE X o to) (h:X.K=K:=by rfl) (hbase:vf o "reverse" X.env (eval o X.env)=eval o X.env:=by rfl) (hline:(apos.endLine==cpos.line)=true:=by rfl) :
 QE X (.Call (.Attribute o "reverse" apos) [] [] cpos) (tUn (fun x H Q=>WY K "list" x H∧vR x [] H Q) to):=⟨My.abp K ho.h h hbase hline⟩
theorem Io (K:bZ)  (ho:QE X o to) (he:QE X e te) (h:X.K=K:=by rfl)
 (hbase:vf o "extend" X.env (eval o X.env)=eval o X.env:=by rfl)
 (hfew:((gZ cpos (bw (e::[]) X.env)).all (fun x=>!x.1)&&(sF cpos (sD [] X.env)).all (fun x=>x.1.isSome)
   && decide 0#x)=true:=by rfl)
 (hline:(apos.endLine==cpos.line)=true:=by rfl) (hs:bw (e::[]) X.env=(false,eval e X.env)::bw [] X.env:=by rfl) (hplain:(gZ cpos (bw [] X.env)).any (·.1)=false:=by rfl) :
 QE X (.Call (.Attribute o "extend" apos) [e] [] cpos) (XE K "list" AJ to (fW te ql)):=⟨My.Io K ho.h he.h h hbase hfew hline hs hplain⟩
end Jd
namespace L2
open PySem PySem.Spec PyProof.Rows
theorem uI {α:Type}:∀{us:List α},us.length=n+1→∃(a:α) (as:List α),us=a::as∧as.length=n
 | [],h=>nomatch h
 | a::as,h=>⟨a,as,rfl,Nat.succ.inj h⟩
theorem len0 {α:Type}:∀{us:List α},us.length=0→us=[]
 | [],_=>rfl
 | _::_,h=>nomatch h
theorem cT.Qx {K:bZ} {st:aT} (F:cT K x qual st f fd) (h:∀(kV doc pm:aL) (an:Option av) (cdv ct ua:aL),C9 0#z ⟨[ua],[]⟩=pure [(pa,ua)]):Binds K fd [pa] []:=
 F.binds fun kV doc pm an cdv ct us hl=>by
  obtain ⟨ua,us0,rfl,VW⟩:=uI (n:=0) hl
  obtain rfl:=len0 VW
  exact h kV doc pm an cdv ct ua
theorem cT.E8 {K:bZ} {st:aT} (F:cT K x qual st f fd) (h:∀(kV doc pm:aL) (an:Option av) (cdv ct ua ub:aL),C9 0#z ⟨[ua,ub],[]⟩=pure [(pa,ua),(pb,ub)]):Binds K fd [pa,pb] []:=
 F.binds fun kV doc pm an cdv ct us hl=>by
  obtain ⟨ua,us1,rfl,hl1⟩:=uI (n:=1) hl
  obtain ⟨ub,us0,rfl,VW⟩:=uI (n:=0) hl1
  obtain rfl:=len0 VW
  exact h kV doc pm an cdv ct ua ub
theorem cT.Qy {K:bZ} {st:aT} (F:cT K x qual st f fd) (h:∀(kV doc pm:aL) (an:Option av) (cdv ct ua ub uc:aL),C9 0#z ⟨[ua,ub,uc],[]⟩=pure [(pa,ua),(pb,ub),(pc,uc)]):Binds K fd [pa,pb,pc] []:=
 F.binds fun kV doc pm an cdv ct us hl=>by
  obtain ⟨ua,us2,rfl,hl2⟩:=uI (n:=2) hl
  obtain ⟨ub,us1,rfl,hl1⟩:=uI (n:=1) hl2
  obtain ⟨uc,us0,rfl,VW⟩:=uI (n:=0) hl1
  obtain rfl:=len0 VW
  exact h kV doc pm an cdv ct ua ub uc
theorem cT.Qz {K:bZ} {st:aT} (F:cT K x qual st f fd) (h:∀(kV doc pm:aL) (an:Option av) (cdv ct ua ub uc ud:aL),C9 0#z ⟨[ua,ub,uc,ud],[]⟩=pure [(pa,ua),(pb,ub),(pc,uc),(pd,ud)]):Binds K fd [pa,pb,pc,pd] []:=
 F.binds fun kV doc pm an cdv ct us hl=>by
  obtain ⟨ua,us3,rfl,hl3⟩:=uI (n:=3) hl
  obtain ⟨ub,us2,rfl,hl2⟩:=uI (n:=2) hl3
  obtain ⟨uc,us1,rfl,hl1⟩:=uI (n:=1) hl2
  obtain ⟨ud,us0,rfl,VW⟩:=uI (n:=0) hl1
  obtain rfl:=len0 VW
  exact h kV doc pm an cdv ct ua ub uc ud
theorem cT.ZY {K:bZ} {st:aT} (F:cT K x qual st f fd) (h:∀(kV doc pm:aL) (an:Option av) (cdv ct ua ub uc ud ue:aL),C9 0#z ⟨[ua,ub,uc,ud,ue],[]⟩=pure [(pa,ua),(pb,ub),(pc,uc),(pd,ud),(pe,ue)]):Binds K fd [pa,pb,pc,pd,pe] []:=
 F.binds fun kV doc pm an cdv ct us hl=>by
  obtain ⟨ua,us4,rfl,U3⟩:=uI (n:=4) hl
  obtain ⟨ub,us3,rfl,hl3⟩:=uI (n:=3) U3
  obtain ⟨uc,us2,rfl,hl2⟩:=uI (n:=2) hl3
  obtain ⟨ud,us1,rfl,hl1⟩:=uI (n:=1) hl2
  obtain ⟨ue,us0,rfl,VW⟩:=uI (n:=0) hl1
  obtain rfl:=len0 VW
  exact h kV doc pm an cdv ct ua ub uc ud ue
end L2
namespace My
open PySem PySem.Spec PyProof.Rows L2
theorem jE (Pv:L2.St→Hp→Prop) (rest:∀σ' H',Pv σ' H'→u D σ' H') (h:∀N:L2.St→Hp→Prop,(∀σ' H',Pv σ' H'→N σ' H')→t { D with nx:=N } σ H):CP t u D σ H:=h (u D) rest
theorem JF (Pv:L2.St→Hp→Prop) (rest:∀σ' H',Pv σ' H'→u D σ' H') (h:∀N:L2.St→Hp→Prop,(∀σ' H',Pv σ' H'→N σ' H')→CP a (CP b (CP c d)) { D with nx:=N } σ H):CP a (CP b (CP c (CP d u))) D σ H:=h (u D) rest
theorem Nx (h:N σ H):(Ends.mk N rt bk ct).nx σ H:=h
theorem eU {g:TG} {tb:TS} (h:∀(M B:L2.St→Hp→Prop) (R:VK),(∀σ H,Pv σ H→M σ H)→(∀σ H,bk σ H→B σ H)→(∀v H,rt v H→R v H)→g x σ H fun σ2 H2=>tb (Ends.mk M R B M) σ2 H2):g x σ H fun σ2 H2=>tb (Ends.mk Pv rt bk Pv) σ2 H2:=h Pv bk rt (fun _ _ z=>z) (fun _ _ z=>z) (fun _ _ z=>z)
end My
namespace My
open PySem PySem.Spec PyProof.Rows L2 Mth
def Xv (K:bZ):List V→Hp→VK→Prop:=fun xs H Q=>∃(l:av) (ns:List Int),xs=[.ref l]∧aX K H l (ns.map V.int)∧0<ns.length∧∀M:Int,M∈ns→(∀a∈ns,a≤M)→Q (.int M) H
theorem ae7 (K:bZ) (hc:X.calm=true) (hK:X.K=K:=by rfl):ja X (.builtin "max") (Xv K):=by
 subst hK
 intro pins s σ H xs us Q I r h
 obtain ⟨l,ns,rfl,hq,hpos,q⟩:=h
 obtain ⟨u,rfl,rx⟩:=vals1 r
 cases rx
 obtain ⟨its,rv,p,hz⟩:=I.list hq
 have hi:=intsAre_of rv
 obtain ⟨ys,e⟩:=hi.allInts.items
 have hns:ns=ys.toList.map (·.1):=by
  have h2:=Zi ys
  rw [← e] at h2
  exact hi.numsOf.symm.trans h2
 have Es:s.heap.IsList l (intItems ys):=by rw [← e];exact p.isList
 have hlen:ns.length=ys.size:=by rw [hns,gJ,N5]
 refine max_intList (I.ok.hd hc) Es 0#c fun v h' tk hv hk=>?_
 obtain ⟨t,rfl⟩:=intItems_at hv
 obtain ⟨h1,h2⟩:=argBest_gt (numAt ys) (ys.size-1)
 refine ⟨.int _,H,I.kept hk,⟨t,rfl⟩,q _ ?_ fun a ha=>?_⟩
 ·rw [Oz,← hns]
  exact Y3 0#c
 ·obtain ⟨j,hj,rfl⟩:=Y4 ha
  have:=h2 j 0#c
  rw [Oz ys j,← hns] at this
  exact this
theorem abi {K:bZ} {ns:List Int} (h:aX K H l (ns.map V.int)) (hp:0<ns.length) (q:∀M:Int,M∈ns→(∀a∈ns,a≤M)→Q (.int M) H):Xv K [.ref l] H Q:=⟨l,ns,rfl,h,hp,q⟩
def GU:V→List V→Hp→VK→Prop:=fun x vs H Q=>∃(l:av) (ns:List Int) (k:Int),x=.ref l∧vs=[.int k]∧H l=some (.lst (ns.map V.int))∧ns.length≤1000∧k∈ns∧∀j:Nat,ns[j]?=some k→Q (.int (j:Int)) H
theorem IW:∀{ns:List Int},k∈ns→∃j:Nat,ns[j]?=some k∧∀i:Nat,i<j→ns[i]?≠some k
 | a::ns,h=>by
   by_cases e:a=k
   ·exact ⟨0,by rw [e];rfl,fun i hi=>absurd hi (D7 _)⟩
   ·rcases qv.mp h with z | z
    ·exact absurd z.symm e
    ·obtain ⟨j,h1,h2⟩:=IW z
     refine ⟨j+1,h1,fun i hi=>?_⟩
     cases i with
     | zero=>exact fun q=>e (xg q)
     | succ i=>exact h2 i (Nat.lt_of_succ_lt_succ hi)
theorem RM:MtM X "list.index" GU:=by
 intro pins s σ H x vs v us Q I rx rv h
 obtain ⟨l,ns,k,rfl,rfl,hH,afJ,hk,q⟩:=h
 cases rx
 obtain ⟨u,rfl,ru⟩:=rv.one
 obtain ⟨t,rfl⟩:=ru
 obtain ⟨j,hj,hno⟩:=IW hk
 obtain ⟨z,its,n,r,hl,e⟩:=I.Jc hH
 have hlen:its.length=ns.length:=by rw [← hl,gJ]
 have hjn:j<ns.length:=(lR.mp hj).1
 have at_:∀(i:Nat) (a:Int),ns[i]?=some a→∃t',its[i]?=some (Value.int a t'):=fun i a ha=>by
  obtain ⟨u,hu,ru⟩:=Vals.get r (i:=i) (x:=.int a) (by rw [dm,ha];rfl)
  obtain ⟨t',rfl⟩:=ru
  exact ⟨t',hu⟩
 have at2:∀(i:Nat) (hi:i<its.length),∃(a:Int) (t':Nat),ns[i]?=some a∧its[i]=Value.int a t':=fun i hi=>by
  have ha:ns[i]?=some ns[i]:=mX 0#c
  obtain ⟨t',h'⟩:=at_ i _ ha
  rw [mX hi] at h'
  exact ⟨_,t',ha,xg h'⟩
 refine EX F.slot_list_index ⟨_,e,rfl⟩ F.entry_list_index (F.args_list_index_2 _ _)
  (MeetsSeq.list_index l its.toArray n (.int k t) (isInt k) (fun y hy=>?_) j (by rw [jG];simp?) 0#c ?_ (fun m hm hlt=>?_)) ⟨e,?_⟩
 ·obtain ⟨i,hi,rfl⟩:=List.mem_iff_getElem.mp (List.mem_toArray.mp hy)
  obtain ⟨a,t',_,h'⟩:=at2 i hi
  rw [h']
  exact aeg a k t' t
 ·obtain ⟨a,t',ha,h'⟩:=at2 j 0#c
  rw [hj] at ha
  cases ha
  show isInt k its[j]=true
  rw [h']
  simp [isInt]
 ·obtain ⟨a,t',ha,h'⟩:=at2 m (by rw [jG] at hm;exact hm)
  show isInt k (its[m]'(by rw [jG] at hm;exact hm))=false
  rw [h']
  have:a≠k:=fun q=>hno m hlt (by rw [ha,q])
  simp [isInt,this]
 ·exact ⟨.int (j:Int),H,I.tok _,⟨_,rfl⟩,q j hj⟩
theorem aaC (K:bZ)  (ho:PE X o to) (he:PE X e te) (h:X.K=K:=by rfl)
 (hbase:vf o "index" X.env (eval o X.env)=eval o X.env:=by rfl)
 (hfew:((gZ cpos (bw (e::[]) X.env)).all (fun x=>!x.1)&&(sF cpos (sD [] X.env)).all (fun x=>x.1.isSome)
   && decide 0#x)=true:=by rfl)
 (hline:(apos.endLine==cpos.line)=true:=by rfl) (hs:bw (e::[]) X.env=(false,eval e X.env)::bw [] X.env:=by rfl) (hplain:(gZ cpos (bw [] X.env)).any (·.1)=false:=by rfl) :
 PE X (.Call (.Attribute o "index" apos) [e] [] cpos) (XE K "list" GU to (fW te ql)):=
 h▸Sj NT PySem.F.slot_list_index PySem.F.type_list_index RM ho (j7 he uN hs) hbase hfew hline hs hplain
theorem ac6 {ns:List Int} (h:H p=some (.lst (ns.map V.int))) (hl:ns.length≤1000) (hk:k∈ns) (q:∀j:Nat,ns[j]?=some k→Q (.int (j:Int)) H):GU (.ref p) [.int k] H Q:=⟨p,ns,k,rfl,rfl,h,hl,hk,q⟩
end My
namespace Jd
open PySem PySem.Spec PyProof.Rows L2 Mth
theorem aaC (K:bZ)  (ho:QE X o to) (he:QE X e te) (h:X.K=K:=by rfl)
 (hbase:vf o "index" X.env (eval o X.env)=eval o X.env:=by rfl)
 (hfew:((gZ cpos (bw (e::[]) X.env)).all (fun x=>!x.1)&&(sF cpos (sD [] X.env)).all (fun x=>x.1.isSome)
   && decide 0#x)=true:=by rfl)
 (hline:(apos.endLine==cpos.line)=true:=by rfl) (hs:bw (e::[]) X.env=(false,eval e X.env)::bw [] X.env:=by rfl) (hplain:(gZ cpos (bw [] X.env)).any (·.1)=false:=by rfl) :
 QE X (.Call (.Attribute o "index" apos) [e] [] cpos) (XE K "list" My.GU to (fW te ql)):=⟨My.aaC K ho.h he.h h hbase hfew hline hs hplain⟩
end Jd
namespace My
open PySem PySem.Spec PyProof.Rows L2 Mth
theorem K9 {σ:L2.St} (ch:List av) (I:L2.Inv X pins σ H s) (k:∀b u,b∉ch→s.heap.get? b=some u→h'.get? b=some u)
 (hf:∀b∈ch,zY X pins H b):L2.Inv X pins σ H { s with heap:=h',toks:=t' }:=by
 have out:∀b u,H b=some u→b∉ch:=fun b u e z=>by rw [(hf b z).1] at e;cases e
 refine I.step (g':=s.gens) (d':=s.drawn) (ch:=ch) (fun b hb=>?_) (fun b u _ _ hc e _=>k b u hc e) (fun b u _ _ hc e _=>⟨u.slots,k b u hc e⟩) (fun b u hc e z=>z) (fun b u hc e=>⟨u,k b u hc e⟩)
  (fun b xs e=>e) (fun b u v e=>e) (fun b ps e=>⟨#[],by rw [e];simp⟩) (fun m hm=>?_) (fun b u e=>?_) I.bare
 ·obtain ⟨_,f1,_,f3,f4,f5⟩:=hf b hb
  exact ⟨f3,f1,f4,f5⟩
 ·obtain ⟨u,es,ep,hu,r⟩:=hm
  exact ⟨u,es,ep,k _ u (fun z=>(hf _ z).2.1 rfl) hu,r⟩
 ·exact gA.stay (I.hok b u e) (fun c v hc q=>k c v (hc.elim (fun z=>z▸out b u e) fun z=>out c _ z) q) (fun c q=>q) fun c xs q=>q
def Itz (K:bZ) (a b:av):It:=
 ⟨fun i H=>∃xs ys x y,aX K H a xs∧aX K H b ys∧xs[i]?=some x∧ys[i]?=some y,
  fun i H v H'=>∃(p:av) (x y:V),H p=none∧v=.ref p∧H'=upd H p (.tup [x,y])∧(∀xs,aX K H a xs→xs[i]?=some x)∧∀ys,aX K H b ys→ys[i]?=some y,
  fun i H=>∃xs ys,aX K H a xs∧aX K H b ys∧(xs.length≤i∨ys.length≤i)⟩
theorem TQ {K:bZ} (z TI TO i1 i2 a b:av) (D:ZipApart z TI TO i1 i2 a b) :
 Turn P w K (.Tuple elts kt tpos) (Itz K a b) [z,TI,TO,i1,i2] z (fun i h=>IsZip h z TI TO .none∧IsPair h TI (.ref i1) (.ref i2)∧(∃u v,IsPair h TO u v)∧h.IsListIter i1 a i∧h.IsListIter i2 b i) where
 mem:=by simp
 obj:=fun i h st c hc=>by
  obtain ⟨hz,hTI,⟨u,v,hTO⟩,⟨o1,e1,_,d1⟩,⟨o2,e2,_,d2⟩⟩:=st
  rcases (show c=z∨c=TI∨c=TO∨c=i1∨c=i2 by simpa using hc) with rfl | rfl | rfl | rfl | rfl
  ·exact ⟨_,hz,fun v q=>by cases q⟩
  ·exact ⟨_,hTI,fun v q=>by cases q⟩
  ·exact ⟨_,hTO,fun v q=>by cases q⟩
  ·exact ⟨o1,e1,fun v q=>by rw [d1] at q;cases q⟩
  ·exact ⟨o2,e2,fun v q=>by rw [d2] at q;cases q⟩
 keep:=fun i h h' st k=>by
  obtain ⟨hz,hTI,⟨u,v,hTO⟩,h1,h2⟩:=st
  exact ⟨k z 0#e _ hz,k TI 0#e _ hTI,⟨u,v,k TO 0#e _ hTO⟩,h1.at fun o q=>k i1 0#e o q,h2.at fun o q=>k i2 0#e o q⟩
 item:=by
  intro X hP hw hK hc i pins s σ H E I hf st hg
  subst hP hw hK
  obtain ⟨hz,hTI,⟨u0,v0,hTO⟩,h1,h2⟩:=st
  obtain ⟨xs,ys,x,y,hq,hq',hx,hy⟩:=hg
  obtain ⟨its,rv,p,_⟩:=I.list hq
  obtain ⟨its',rv',p',_⟩:=I.list hq'
  obtain ⟨u,hu,ru⟩:=rv.get hx
  obtain ⟨v,hv,ru'⟩:=rv'.get hy
  refine wpAny_pyNext_zip_item D hz hTI hTO h1 h2 p.isList p'.isList (x:=u) (y:=v) (by simpa using hu) (by simpa using hv) fun h' a1 a2 a3 a4 a5 a6 hk=>?_
  refine ⟨_,rfl,wpAny_letOwnedTupleGo_zip (s:={ s with heap:=h' }) a1 fun h3 hz3 hs3=>?_⟩
  have O5:C6 z h' h3:=hs3
  have ke:∀c o,c∉[z,TI,TO,i1,i2]→s.heap.get? c=some o→h3.get? c=some o:=fun c o hc' q=>by
   have c1:c≠z:=fun e=>hc' (by simp [e])
   exact (O5.2 c c1).trans (hk c o c1 (fun e=>hc' (by simp [e])) (fun e=>hc' (by simp [e])) (fun e=>hc' (by simp [e])) q)
  have zlt:z<s.heap.objs.size:=fT hz
  have aeA:TO<s.heap.objs.size:=fT hTO
  have aez:TI<s.heap.objs.size:=fT hTI
  have ae1:i1<s.heap.objs.size:=by obtain ⟨_,e,_⟩:=h1;exact fT e
  have ae2:i2<s.heap.objs.size:=by obtain ⟨_,e,_⟩:=h2;exact fT e
  have hT3:h3.get? s.heap.objs.size=some { cls:=.type "tuple",data:=.seq #[u,v] }:=(O5.2 _ (Uv zlt)).trans a5
  have hn:H s.heap.objs.size=none:=I.hok.fresh (dz _)
  have I2:L2.Inv X pins σ (upd H s.heap.objs.size (.tup [x,y])) { s with heap:=h3 }:=by
   refine qV (t':=s.toks) [z,TI,TO,i1,i2] I ke hf (dz _) ?_
   exact ⟨by show 2≤sizeLine;decide,[u,v],.cons ru (.cons ru' .nil),_,hT3,rfl,_,rfl⟩
  refine ⟨.ref s.heap.objs.size,upd H s.heap.objs.size (.tup [x,y]),I2,rfl,⟨s.heap.objs.size,x,y,hn,rfl,rfl,fun zs hz'=>by rw [I.vH hz' hq];exact hx,fun zs hz'=>by rw [I.vH hz' hq'];exact hy⟩,⟨hz3,?_,⟨u,v,(O5.2 TO D.TOz).trans a2⟩,a3.at fun o q=>(O5.2 i1 D.i1z).trans q,a4.at fun o q=>(O5.2 i2 D.i2z).trans q⟩,fun c hc'=>?_⟩
  ·exact (O5.2 TI D.TIz).trans (hk TI _ D.TIz D.TITO D.TIi1 D.TIi2 hTI)
  ·have hc1:=(hf c hc').1
   have hc2:c≠s.heap.objs.size:=by
    rcases (show c=z∨c=TI∨c=TO∨c=i1∨c=i2 by simpa using hc') with rfl | rfl | rfl | rfl | rfl
    ·exact lz zlt
    ·exact lz aez
    ·exact lz aeA
    ·exact lz ae1
    ·exact lz ae2
   rw [aM hc2]
   exact hc1
 done:=by
  intro X hP hw hK hc i pins s σ H E I hf st hg
  subst hP hw hK
  obtain ⟨hz,hTI,⟨u0,v0,hTO⟩,h1,h2⟩:=st
  obtain ⟨xs,ys,hq,hq',hx⟩:=hg
  obtain ⟨its,rv,p,_⟩:=I.list hq
  obtain ⟨its',rv',p',_⟩:=I.list hq'
  have hl:=rv.length
  have hl':=rv'.length
  refine wpAny_pyNext_zip_end (I.ok.hd hc) D hz hTI hTO h1 h2 p.isList p'.isList ?_ fun h' hk=>⟨rfl,?_⟩
  ·rcases hx with q | q
   ·exact .inl (by simp;simp?)
   ·exact .inr (by simp;simp?)
  ·exact K9 (t':=s.toks) [z,TI,TO,i1,i2] I (fun c o hc' q=>hk c o (fun e=>hc' (by simp [e])) (fun e=>hc' (by simp [e])) (fun e=>hc' (by simp [e])) (fun e=>hc' (by simp [e])) q) hf
 self:=fun _ _ _ _ _ st h=>YN st.1 h
def aaB (K:bZ) (ta:TA):TI:=fun σ H R=>ta σ H fun vs H1=>∃a b xs ys,vs=[.ref a,.ref b]∧aX K H1 a xs∧aX K H1 b ys∧R (Itz K a b) H1
section
theorem B5 (K:bZ) (hg:Gl X "zip") (hm:X.mg "zip"=none) (ha:PA X [a,b] ta) (hs:bw [a,b] X.env=(false,eval a X.env)::bw [b] X.env:=by rfl) (hs2:bw [b] X.env=[(false,eval b X.env)]:=by rfl) (hK:X.K=K:=by rfl) :
 PI X (.Tuple elts kt tpos) (.Call (.Name "zip" p) [a,b] [] pos) (aaB K ta):=by
 subst hK
 intro pins s σ H R I h
 refine Call_ (uH I hg hm boot_zip (JS (gR (ha pos pins s σ H _ I h) fun us s1 ⟨vs,H1,I1,r1,q1⟩=>?_) hs (by rw [hs2];rfl)))
 obtain ⟨l,l',xs,ys,e,hq,hq',q⟩:=q1
 subst e
 cases r1 with
 | cons r rr=>
   cases rr with
   | cons r' rr'=>
     cases rr'
     cases r
     cases r'
     obtain ⟨its,rv,pl,_⟩:=I1.list hq
     obtain ⟨its',rv',pl',_⟩:=I1.list hq'
     have a1:l<s1.heap.objs.size:=by obtain ⟨_,e,_⟩:=pl.isList;exact fT e
     have a2:l'<s1.heap.objs.size:=by obtain ⟨_,e,_⟩:=pl'.isList;exact fT e
     refine call_zip_2 pl.isList pl'.isList fun h' hz hTI hTO hi1 hi2 hsz hk=>?_
     have I2:L2.Inv X pins σ H1 { s1 with heap:=h' }:=I1.kept (t':=s1.toks) hk
     refine YN (s:={ s1 with heap:=h' }) hz ?_
     refine ⟨s1.heap.objs.size+4,[s1.heap.objs.size+4,s1.heap.objs.size+2,s1.heap.objs.size+3,s1.heap.objs.size,s1.heap.objs.size+1],_,_,H1,rfl,I2,TQ _ _ _ _ _ l l' (zipApart_new a1 a2),⟨hz,hTI,⟨_,_,hTO⟩,hi1,hi2⟩,fun c hc=>?_,q⟩
     have fp:∀k,zY X pins H1 (s1.heap.objs.size+k):=fun k=>I1.KI (EO _ _) (I1.hok.fresh (EO _ _))
     rcases (show c=s1.heap.objs.size+4∨c=s1.heap.objs.size+2∨c=s1.heap.objs.size+3∨c=s1.heap.objs.size∨c=s1.heap.objs.size+1 by simpa using hc) with rfl | rfl | rfl | rfl | rfl
     ·exact fp 4
     ·exact fp 2
     ·exact fp 3
     ·exact fp 0
     ·exact fp 1
theorem SG {K:bZ} (h:ta σ H fun vs H1=>∃a b xs ys,vs=[.ref a,.ref b]∧aX K H1 a xs∧aX K H1 b ys∧R (Itz K a b) H1):aaB K ta σ H R:=h
theorem xD {K:bZ} (hn1:HZ≤xs.length) (hn2:HZ≤ys.length) (hn:xs.length≤HZ∨ys.length≤HZ) (hok:∀H2,au H H2→aX K H2 a xs∧aX K H2 b ys) (hl:HZ≤1000) (P:Nat→List V→Hp→Prop) (h0:P 0 [] H)
 (step:∀(D:av) (i:Nat) (x y:V) (us:List V) (H2 H3:Hp) (p:av) (jK:L2.St) (N:VK) (N0:Hp→Prop),jK.length=n→H D=none→H2 D=some (.lst us)→au H H2→au H2 H3→H3 p=some (.tup [x,y])→i<HZ→xs[i]?=some x→ys[i]?=some y→us.length≤i→P i us (rm D H2) →
   (∀v H6,au H3 H6→P (i+1) (us++[v]) (rm D H6)→N v H6)→(∀H5,au H3 H5→P (i+1) us (rm D H5)→N0 H5) →
   g (.ref p) (jK++mZ cap σ) H3 fun σ2 H4=>(∃σ1,σ1.length=n∧σ2=σ1++mZ cap σ)∧tt σ2 H4 fun b H5=>if b=true then te σ2 H5 N else N0 H5)
 (done:∀(D:av) (us:List V) (H2:Hp),H D=none→H2 D=some (.lst us)→au H H2→us.length≤HZ→P HZ us (rm D H2)→Q (.ref D) H2):MQ n cap g tt te σ Q (Itz K a b) H:=by
 intro D hD
 refine ⟨fun i m us H2=>H2 D=some (.lst us)∧au H H2∧us.length≤i∧i≤HZ∧m=HZ-i∧P i us (rm D H2),⟨HZ,aA,aY (au.refl _) hD,mW _,mW _,rfl,?_⟩,?_⟩
 ·rw [yh]
  have e:rm D H=H:=by
   funext b
   by_cases h:b=D
   ·rw [h,hD];exact if_pos rfl
   ·exact mJ h
  rw [e];exact h0
 ·rintro i m us H2 ⟨e,s,hu,hi,rfl,p⟩
  refine ⟨e,?_⟩
  obtain ⟨q,q'⟩:=hok H2 s
  by_cases hlt:i<HZ
  ·refine .inr ⟨⟨xs,ys,xs[i],ys[i],q,q',mX _,mX _⟩,D5 (eE hu hi) (aN hl),fun v H3 jK h0 y=>?_⟩
   obtain ⟨pt,x',y',hnp,rfl,rfl,hx,hy⟩:=y
   have s3:=kr hnp (.tup [x',y'])
   refine step D i x' y' us H2 _ pt jK _ _ h0 hD e s s3 aA hlt (hx xs q) (hy ys q') hu p (fun v H6 s6 p6=>?_) fun H5 s5 p5=>?_
   ·refine ⟨(s3.trans s6) _ _ e,HZ-(i+1),by simp?,aA,aY (s.trans (s3.trans s6)) hD,?_,by simp?,rfl,?_⟩
    ·rw [fq,HK];simp?
    ·rw [yh];exact p6
   ·exact ⟨HZ-(i+1),by simp?,(s3.trans s5) _ _ e,s.trans (s3.trans s5),by simp?,by simp?,rfl,p5⟩
  ·have ei:i=HZ:=by simp?
   subst ei
   exact .inl ⟨⟨xs,ys,q,q',hn⟩,done D us H2 hD e s hu p⟩
end
end My
namespace Jd
open PySem PySem.Spec PyProof.Rows L2 My
theorem B5 (K:bZ)  (hg:Gl X "zip") (hm:X.mg "zip"=none) (ha:QA X [a,b] ta) (hs:bw [a,b] X.env=(false,eval a X.env)::bw [b] X.env:=by rfl) (hs2:bw [b] X.env=[(false,eval b X.env)]:=by rfl) (hK:X.K=K:=by rfl) :
 QI X (.Tuple elts kt tpos) (.Call (.Name "zip" p) [a,b] [] pos) (aaB K ta):=⟨My.B5 K hg hm ha.h hs hs2 hK⟩
end Jd
namespace My
open PySem PySem.Spec PyProof.Rows L2 Mth
def Fx (K:bZ) (x:Str) (st:aT):Prop:=∃(f:av) (fd:jF),i7 K fH x=some (some (.ref f))∧cT K x x st f fd
def Fm (K:bZ) (C:av) (m q:Str) (st:aT):Prop:=∃(f:av) (fd:jF),j4 K (.ref C) m=some (some (.ref f))∧zO K (.ref f)=true∧cT K m q st f fd
def Fi (K:bZ) (C:av) (q:Str) (st:aT):Prop:=∃(f:av) (fd:jF),j4 K (.ref C) "__init__"=some (some (.ref f))∧Ny K C f=true∧zO K (.ref f)=true∧cT K "__init__" q st f fd
section
theorem ab9 {K:bZ} {st:aT} {kV:aL} (a:i7 K fH x=some (some (.ref f))) (l:K.lookup f=some ⟨oc,od,.func (sI x x (fY st) (fJ st) (ah st) .none kV doc pm an cdv ct),osl⟩) (c:wN K cdv x=true) (k:xh K (.ref f)=true):Fx K x st:=⟨f,_,a,KJ l c k⟩
theorem ab6 {K:bZ} {q:Str} {st:aT} {f C:av} {oc:aL} {od an:Option av} {kV doc pm cdv ct:aL} (a:j4 K (.ref C) "__init__"=some (some (.ref f))) (o:Ny K C f=true) (i:zO K (.ref f)=true) (l:K.lookup f=some ⟨oc,od,.func (sI "__init__" q (fY st) (fJ st) (ah st) .none kV doc pm an cdv ct),osl⟩) (c:wN K cdv q=true) (k:xh K (.ref f)=true):Fi K C q st:=⟨f,_,a,o,i,KJ l c k⟩
theorem ab7 {K:bZ} {m q:Str} {st:aT} {f C:av} {oc:aL} {od an:Option av} {kV doc pm cdv ct:aL} (a:j4 K (.ref C) m=some (some (.ref f))) (i:zO K (.ref f)=true) (l:K.lookup f=some ⟨oc,od,.func (sI m q (fY st) (fJ st) (ah st) .none kV doc pm an cdv ct),osl⟩) (c:wN K cdv q=true) (k:xh K (.ref f)=true):Fm K C m q st:=⟨f,_,a,i,KJ l c k⟩
end
section
variable (P:jk) (w:eG) (base:cJ) {K:bZ} {mg:Str→Option aL} {h:cJ} {k:Nat} {x m q:Str} {ps:List Str} {sp:Sp} {st:aT} {f C:av} {fd:jF}
theorem dnm (X:K.In h) (G:h.Ns fH mg) (a:i7 K fH x=some (some (.ref f))) (F:cT K x x st f fd) (ok:bf P w K mg base c7 k f fd ps sp) (b:Binds K fd ps []):Dn P w K mg base k x ps sp:=ab0 F ok (Kc X G a) b
theorem dmm (a:j4 K (.ref C) m=some (some (.ref f))) (i:zO K (.ref f)=true) (F:cT K m q st f fd) (ok:bf P w K mg base c7 k f fd ps sp) (b:Binds K fd ps []):Dm P w K mg base k C m ps sp:=⟨f,fd,ok,⟨a,i,F.kp⟩,b⟩
end
structure Tp (P:jk) (w:eG) (K:bZ) (mg:Str→Option aL) (base:cJ):Prop where
 ex:∃h:cJ,K.In h∧h.Ns fH mg
theorem Tp.d {K:bZ} {st:aT} (Y:Tp P w K mg base) (h:Fx K x st) (ok:∀{f fd},cT K x x st f fd→bf P w K mg base c7 k f fd ps sp) (b:∀{f fd},cT K x x st f fd→Binds K fd ps []:=by intro _ _ F;first | exact F.E8 fun _ _ _ _ _ _ _ _=>rfl | exact F.Qx fun _ _ _ _ _ _ _=>rfl | exact F.Qy fun _ _ _ _ _ _ _ _ _=>rfl | exact F.Qz fun _ _ _ _ _ _ _ _ _ _=>rfl | exact F.ZY fun _ _ _ _ _ _ _ _ _ _ _=>rfl):Dn P w K mg base k x ps sp:=
 have ⟨_,X,G⟩:=Y.ex
 have ⟨_,_,a,F⟩:=h
 dnm P w base X G a F (ok F) (b F)
theorem Tp.m {P:jk} {w:eG} {K:bZ} {mg:Str→Option aL} {base:cJ} {m q:Str} {C:av} {st:aT} {k:Nat} {ps:List Str} {sp:Sp} (_:Tp P w K mg base) (h:Fm K C m q st) (ok:∀{f fd},cT K m q st f fd→bf P w K mg base c7 k f fd ps sp) (b:∀{f fd},cT K m q st f fd→Binds K fd ps []:=by intro _ _ F;first | exact F.E8 fun _ _ _ _ _ _ _ _=>rfl | exact F.Qx fun _ _ _ _ _ _ _=>rfl | exact F.Qy fun _ _ _ _ _ _ _ _ _=>rfl | exact F.Qz fun _ _ _ _ _ _ _ _ _ _=>rfl):Dm P w K mg base k C m ps sp:=
 have ⟨_,_,a,i,F⟩:=h
 dmm P w base a i F (ok F) (b F)
section
theorem afy (h:te σ H fun x H1=>tl σ H1 fun l H2=>th σ H2 fun u H3=>r x l u H3 Q):tSl r te tl th σ H Q:=h
theorem abl (h:t σ H fun x H1=>∃i,x=.int i∧R (some i) H1):TM t σ H R:=h
theorem SA (h:R none H):HC σ H R:=h
theorem afx {R:Int→Prop} (h:R i):∃j,V.int i=V.int j∧R j:=⟨i,rfl,h⟩
theorem Z2 {m:Nat} (h1:n≤m) (h2:m≤xs.length):jS xs (some (n:Int)) (some (m:Int))=(xs.drop n).take (m-n):=by
 unfold jS
 rw [HT.AL,HT.AL,ES h2,ES (eE h1 h2)]
theorem Vt (xs:List V) (n:Nat):jS xs (some (n:Int)) none=xs.drop n:=by
 unfold jS
 rw [HT.AL,show HT.GW xs.length xs.length none=xs.length from rfl]
 rcases Zt n xs.length with z | z
 ·rw [ES z]
  exact NX (by rw [iP];exact dz _)
 ·rw [YO z,NY z,NY (dz _)]
  simp
theorem vS {K:bZ} {lo:Option Int} (h:H a=some (.lst xs)) (k:∀(p:av) (H':Hp),au H H'→H p=none→H' p=some (.lst (jS xs lo hi))→Q (.ref p) H'):aa7 K (.ref a) lo hi H Q:=
 ⟨a,xs,rfl,aX.of h,fun p hp=>k p _ (kr hp _) hp aA⟩
end
mutual
theorem Den.up (s:au H H'):∀{v:V} {d:um},Den H v d→Den H' v d
 | _,_,.bM=>.bM
 | _,_,.bl b=>.bl b
 | _,_,.int i=>.int i
 | _,_,.str x=>.str x
 | _,_,.tup e dd=>.tup (s _ _ e) (tF.up s dd)
 | _,_,.lst e dd=>.lst (s _ _ e) (tF.up s dd)
theorem tF.up (s:au H H'):∀{vs:List V} {ds:List um},tF H vs ds→tF H' vs ds
 | _,_,.nil=>.nil
 | _,_,.cons d dd=>.cons (Den.up s d) (tF.up s dd)
end
end My
namespace My
open PySem PySem.Spec PySem.Calls PyProof.Rows L2 Mth
structure abR (K:bZ) (x qual:Str) (st:aT) (f:av) (fd:jF) (d:aL):Prop where
 ex:∃(T:av) (oc:aL) (od:Option av) (kV doc pm:aL) (an:Option av) (cdv ct:aL) (osl:Array (Option aL)) (tc:aL) (td:Option av) (tn:Nat) (tsl:Array (Option aL)),
  fd=sI x qual (fY st) (fJ st) (ah st) (.ref T) kV doc pm an cdv ct∧K.lookup f=some ⟨oc,od,.func fd,osl⟩∧wN K cdv qual=true∧K.lookup T=some ⟨tc,td,.seq #[d] tn,tsl⟩
 kp:xh K (.ref f)=true
def Fxd (K:bZ) (x:Str) (st:aT) (i:Int):Prop:=∃(f:av) (fd:jF) (tk:Tok),i7 K fH x=some (some (.ref f))∧abR K x x st f fd (.int i tk)
theorem aam {K:bZ} {x:Str} {st:aT} {i:Int} {f T:av} {oc tc:aL} {od an td:Option av} {osl:Array (Option aL)} {kV doc pm cdv ct:aL} {tk:Tok} {tn:Nat} (a:i7 K fH x=some (some (.ref f)))
 (l:K.lookup f=some ⟨oc,od,.func (sI x x (fY st) (fJ st) (ah st) (.ref T) kV doc pm an cdv ct),osl⟩) (t:K.lookup T=some ⟨tc,td,.seq #[.int i tk] tn,tsl⟩) (c:wN K cdv x=true) (k:xh K (.ref f)=true):Fxd K x st i:=
 ⟨f,_,tk,a,⟨T,oc,od,kV,doc,pm,an,cdv,ct,osl,tc,td,tn,tsl,rfl,l,c,t⟩,k⟩
def Gt (K:bZ) (x:Str) (a:av) (z1 z2 z3 z4:Str):Prop:=i7 K fH x=some (some (.ref a))∧∀H,tG K H a [.str z1,.str z2,.str z3,.str z4]
theorem acd {K:bZ} (h:i7 K fH x=some (some (.ref a)))
 (l:K.lookup a=some ⟨.type "tuple",td,.seq #[.str z1 t1,.str z2 t2,.str z3 t3,.str z4 t4] n,sl⟩):Gt K x a z1 z2 z3 z4:=
 ⟨h,fun _=>.inr ⟨_,_,_,l,rfl,rfl,by show 4≤sizeLine;decide,.cons ⟨t1,rfl⟩ (.cons ⟨t2,rfl⟩ (.cons ⟨t3,rfl⟩ (.cons ⟨t4,rfl⟩ .nil)))⟩⟩
def Fxb (K:bZ) (x:Str) (st:aT) (b:Bool):Prop:=∃(f:av) (fd:jF),i7 K fH x=some (some (.ref f))∧abR K x x st f fd (.bool b)
theorem aal {K:bZ} {x:Str} {st:aT} {b:Bool} {f T:av} {oc tc:aL} {od an td:Option av} {osl:Array (Option aL)} {kV doc pm cdv ct:aL} {tn:Nat} (a:i7 K fH x=some (some (.ref f)))
 (l:K.lookup f=some ⟨oc,od,.func (sI x x (fY st) (fJ st) (ah st) (.ref T) kV doc pm an cdv ct),osl⟩) (t:K.lookup T=some ⟨tc,td,.seq #[.bool b] tn,tsl⟩) (c:wN K cdv x=true) (k:xh K (.ref f)=true):Fxb K x st b:=
 ⟨f,_,a,⟨T,oc,od,kV,doc,pm,an,cdv,ct,osl,tc,td,tn,tsl,rfl,l,c,t⟩,k⟩
end My
namespace Jd
open PySem PySem.Spec PyProof.Rows L2 Mth My
def AF:bg→Bool
 | .Starred ..=>false
 | _=>true
theorem mV (h:AF e=true):bw (e::es) env=(false,eval e env)::bw es env:=by
 cases e <;> first | rfl | cases h
section
theorem a1 {X:Cx} {a:bg} {ta:TE} (h1:QE X a ta) (n1:AF a=true:=by rfl):QA X [a] (fW ta ql):=j7 h1 uN (mV n1)
theorem a2 {X:Cx} {a b:bg} {ta tb:TE} (h1:QE X a ta) (h2:QE X b tb) (n1:AF a=true:=by rfl) (n2:AF b=true:=by rfl):QA X [a,b] (fW ta (fW tb ql)):=j7 h1 (a1 h2 n2) (mV n1)
theorem a3 (h1:QE X a ta) (h2:QE X b tb) (h3:QE X c tc) (n1:AF a=true:=by rfl) (n2:AF b=true:=by rfl) (n3:AF c=true:=by rfl):QA X [a,b,c] (fW ta (fW tb (fW tc ql))):=j7 h1 (a2 h2 h3 n2 n3) (mV n1)
theorem a4 (h1:QE X a ta) (h2:QE X b tb) (h3:QE X c tc) (h4:QE X d td) (n1:AF a=true:=by rfl) (n2:AF b=true:=by rfl) (n3:AF c=true:=by rfl) (n4:AF d=true:=by rfl):QA X [a,b,c,d] (fW ta (fW tb (fW tc (fW td ql)))):=j7 h1 (a3 h2 h3 h4 n2 n3 n4) (mV n1)
theorem c1 (D:Dn X.prog X.w X.K X.mg X.base k x ps sp) (hr:iJ m X.A) (h1:QE X a ta) (hk:k≤m:=by decide) (hg:Gl X x:=by rfl) (hd:0#y=false:=by decide) (n1:AF a=true:=by rfl):QE X (.Call (.Name x p) [a] [] pos) (CO sp [] E0 (fW ta ql)):=ED D (hr.mono hk) hg (a1 h1 n1) hd (mV n1) cB
theorem c2 {X:Cx} {a b:bg} {ta tb:TE} {pos p:Pos} {x:Str} {k m:Nat} {ps:List Str} {sp:Sp} (D:Dn X.prog X.w X.K X.mg X.base k x ps sp) (hr:iJ m X.A) (h1:QE X a ta) (h2:QE X b tb) (hk:k≤m:=by decide) (hg:Gl X x:=by rfl) (hd:0#y=false:=by decide) (n1:AF a=true:=by rfl) (n2:AF b=true:=by rfl):QE X (.Call (.Name x p) [a,b] [] pos) (CO sp [] E0 (fW ta (fW tb ql))):=ED D (hr.mono hk) hg (a2 h1 h2 n1 n2) hd (mV n1) (cD (mV n2) cB)
theorem c3 (D:Dn X.prog X.w X.K X.mg X.base k x ps sp) (hr:iJ m X.A) (h1:QE X a ta) (h2:QE X b tb) (h3:QE X c tc) (hk:k≤m:=by decide) (hg:Gl X x:=by rfl) (hd:0#y=false:=by decide) (n1:AF a=true:=by rfl) (n2:AF b=true:=by rfl) (n3:AF c=true:=by rfl):QE X (.Call (.Name x p) [a,b,c] [] pos) (CO sp [] E0 (fW ta (fW tb (fW tc ql)))):=ED D (hr.mono hk) hg (a3 h1 h2 h3 n1 n2 n3) hd (mV n1) (cD (mV n2) (cD (mV n3) cB))
theorem ae4 {X:Cx} {a:bg} {ta:TE} {pos p:Pos} (K:bZ) (hm:X.mg "len"=none) (h1:QE X a ta) (h:X.K=K:=by rfl) (hg:Gl X "len":=by rfl) (n1:AF a=true:=by rfl):QE X (.Call (.Name "len" p) [a] [] pos) (tCB (aa6 K) (fW ta ql)):=by
 subst h
 exact vP (acJ X.K) hg hm Y5 (a1 h1 n1) (he:=mV n1) (hpl:=cB)
theorem iT {X:Cx} {a:bg} {ta:TE} {pos:Pos} (K:bZ) (h1:QE X a ta) {n:Int} {j:Nat} {q:Pos} (h:X.K=K:=by rfl):QE X (.Subscript a (.Constant (.int n) j q) pos) (TL (Me K) ta (tC (.int n))):=by
 subst h
 exact Jv (Et X.K) h1 B0 fun _ _=>rfl
theorem iL {X:Cx} {a:bg} {ta:TE} {pos:Pos} (K:bZ) (h1:QE X a ta) {n:Int} {j:Nat} {q:Pos} (h:X.K=K:=by rfl):QE X (.Subscript a (.Constant (.int n) j q) pos) (TL (WC K) ta (tC (.int n))):=by
 subst h
 exact Jv (fK X.K) h1 B0 fun _ _=>rfl
theorem sE {X:Cx} {e:bg} {te:TE} {pos:Pos} {x:Str} (i:Nat) {pos':Pos} (hN:X.N.Nodup) (he:QE X e te) (hi:X.N[i]?=some x:=by rfl) (hx:Loc X.env.scope x:=by exact Or.inl rfl) (hs:lE e (some (.Name x pos')) pos.line X.env=pure false:=by rfl) (hf:X.fn x=true∨X.env.scope.names.lookup x=some .local:=by first | exact .inl rfl | exact .inr rfl | assumption):QS X (.Assign [.Name x pos'] e pos) (DZ te (iM i)):=GK hN hi hx he hs hf
end
end Jd
abbrev aa:=@Jd.pv
abbrev ao:=@Jd.B9
abbrev aq:=@Jd.B0
abbrev aG:=@Jd.So
abbrev aI:=@Jd.GN
abbrev aJ:=@Jd.iT
abbrev aK:=@Jd.sE
abbrev aU:=@Jd.L8
abbrev bC:=@Jd.a2
abbrev bD:=@Jd.Jv
abbrev bF:=@Jd.GP
abbrev bG:=@Jd.LY
abbrev bI:=@Jd.go
abbrev bY:=@Jd.c2
abbrev b9:=@Jd.Su
abbrev cg:=@Jd.GB
abbrev cF:=@Jd.GL
abbrev cO:=@Jd.j7
abbrev dg:=@Jd.LU
abbrev dG:=@Jd.a1
abbrev dH:=@Jd.LV
abbrev dY:=@Jd.uN
abbrev dZ:=@Jd.GI
abbrev eK:=@Jd.LS
abbrev fZ:=@Jd.ZW
abbrev gB:=@Jd.ae4
abbrev di:=@Jd.piL
abbrev dP:=@Jd.L7
abbrev eV:=@Jd.Sq
abbrev fN:=@Jd.ED
abbrev fU:=@Jd.vP
abbrev gM:=@Jd.B4
abbrev iA:=@Jd.L6
abbrev kj:=@Jd.GK
abbrev lC:=@Jd.GQ
abbrev mD:=@Jd.LX
abbrev nh:=@Jd.GA
abbrev nv:=@Jd.Ma
abbrev qy:=@Jd.GH
abbrev qW:=@Jd.B3
abbrev qX:=@Jd.GD
abbrev qY:=@Jd.GG
abbrev qZ:=@Jd.GC
abbrev rf:=@Jd.Mc
abbrev rg:=@Jd.BZ
abbrev tX:=@Jd.GR
abbrev tY:=@Jd.GS
abbrev tZ:=@Jd.Gz
abbrev vD:=@Jd.yd
abbrev zj:=@Jd.yc
namespace My
open PySem PySem.Spec PyProof.Rows L2 Mth
section
theorem KA {K:bZ} (hok:∀H2,au H H2→aX K H2 a xs) (hl:xs.length≤1000) (P:Nat→List V→Hp→Prop) (h0:P 0 [] H)
 (step:∀(D:av) (i:Nat) (x:V) (us:List V) (H2 H3:Hp) (p:av) (jK:L2.St) (N:VK) (N0:Hp→Prop),jK.length=n→H D=none→H2 D=some (.lst us)→au H H2→au H2 H3→H3 p=some (.tup [.int (i:Int),x])→xs[i]?=some x→us.length≤i→P i us (rm D H2) →
   (∀v H6,au H3 H6→P (i+1) (us++[v]) (rm D H6)→N v H6)→(∀H5,au H3 H5→P (i+1) us (rm D H5)→N0 H5) →
   g (.ref p) (jK++mZ cap σ) H3 fun σ2 H4=>(∃σ1,σ1.length=n∧σ2=σ1++mZ cap σ)∧tt σ2 H4 fun b H5=>if b=true then te σ2 H5 N else N0 H5)
 (done:∀(D:av) (us:List V) (H2:Hp),H D=none→H2 D=some (.lst us)→au H H2→us.length≤xs.length→P xs.length us (rm D H2)→Q (.ref D) H2):MQ n cap g tt te σ Q (ZO K a) H:=by
 intro D hD
 refine ⟨fun i m us H2=>H2 D=some (.lst us)∧au H H2∧us.length≤i∧i≤xs.length∧m=xs.length-i∧P i us (rm D H2),⟨xs.length,aA,aY (au.refl _) hD,mW _,mW _,rfl,?_⟩,?_⟩
 ·rw [yh]
  have e:rm D H=H:=by
   funext b
   by_cases h:b=D
   ·rw [h,hD];exact if_pos rfl
   ·exact mJ h
  rw [e];exact h0
 ·rintro i m us H2 ⟨e,s,hu,hi,rfl,p⟩
  refine ⟨e,?_⟩
  have q:=hok H2 s
  by_cases hlt:i<xs.length
  ·refine .inr ⟨⟨xs,xs[i],q,mX _⟩,D5 (eE hu hi) (aN hl),fun v H3 jK h0 y=>?_⟩
   obtain ⟨pt,x',hnp,rfl,rfl,hx⟩:=y
   have s3:=kr hnp (.tup [.int (i:Int),x'])
   refine step D i x' us H2 _ pt jK _ _ h0 hD e s s3 aA (hx xs q) hu p (fun v H6 s6 p6=>?_) fun H5 s5 p5=>?_
   ·refine ⟨(s3.trans s6) _ _ e,xs.length-(i+1),by simp?,aA,aY (s.trans (s3.trans s6)) hD,?_,by simp?,rfl,?_⟩
    ·rw [fq,HK];simp?
    ·rw [yh];exact p6
   ·exact ⟨xs.length-(i+1),by simp?,(s3.trans s5) _ _ e,s.trans (s3.trans s5),by simp?,by simp?,rfl,p5⟩
  ·have ei:i=xs.length:=by simp?
   subst ei
   exact .inl ⟨⟨xs,q,dz _⟩,done D us H2 hD e s hu p⟩
end
end My
local macro_rules | `(tactic| rw?) => `(tactic| repeat (first
 | apply_rules (transparency:=.reducible) (exfalso:=false) (symm:=false) only [My.adi,My.adj,My.adg,My.abf,My.aft,My.Sy,My.abe,My.WD,My.ac5,My.abn,My.abj,My.abh,My.r_c,My.afv,My.afD,My.ac3,My.r_U,My.abo,My.r_B,My.afm,My.afo,My.abd,My.adb,My.adk,My.ac8,My.abb,My.adf,My.r_g,My.aa8,My.aba,My.abc,My.adn,My.abg,My.ac9,My.ada,My.adl,My.afn,My.ade,My.ac4,My.afw,My.aa9,My.ac7]
  | ((with_reducible refine' My.adm ?e1 ?_); (case e1 => rfl))
  | ((with_reducible refine My.fF ?e7 ?_); (case e7 => first | decide | assumption | exact ⟨by decide, by decide, by decide⟩ | (show (0 : Int) < _; first | decide | simp?) | exact My.mulR (by decide) (by decide) | exact My.mulL (by decide) (by decide)))
  | ((with_reducible refine My.afr ?e2 ?_); (case e2 => rfl))
  | ((with_reducible refine My.afu ?e3 ?_); (case e3 => rfl))
  | ((with_reducible refine' My.afz ?e4 ?_); (case e4 => assumption))
  | ((with_reducible refine' My.afA ?e5 ?_); (case e5 => assumption))
  | ((with_reducible refine' My.afB ?e6 ?_); (case e6 => assumption))
  | ((with_reducible refine' My.afC ?e8 ?_); (case e8 => assumption))))
local macro_rules | `(tactic| try?) => `(tactic| first
 | assumption
 | exact tS (by assumption)
 | exact zQ (by assumption) (by assumption)
 | exact qq (by assumption) (by assumption)
 | exact eE (by assumption) (by assumption)
 | exact UB (by assumption)
 | exact Int.ne_of_gt (by assumption)
 | exact Int.ne_of_lt (by assumption)
 | exact N6 _
 | lia
 | omega)
local macro_rules | `(tactic| walk_at "fx") => `(tactic| (refine' My.ab9 ?a ?l ?c ?k; (case a => k_is); (case l => k_is); (case c => k_is); (case k => k_is)))
local macro_rules | `(tactic| walk_at "fm") => `(tactic| (refine' My.ab7 ?a ?i ?l ?c ?k; (case a => k_is); (case i => k_is); (case l => k_is); (case c => k_is); (case k => k_is)))
local macro_rules | `(tactic| walk_at "fi") => `(tactic| (refine' My.ab6 ?a ?o ?i ?l ?c ?k; (case a => k_is); (case o => kernel_rfl); (case i => k_is); (case l => k_is); (case c => k_is); (case k => k_is)))
local macro_rules | `(tactic| walk_at "fd") => `(tactic| (refine' My.aam ?a ?l ?t ?c ?k; (case a => k_is); (case l => k_is); (case t => k_is); (case c => k_is); (case k => k_is)))
local macro_rules | `(tactic| walk_at "fb") => `(tactic| (refine' My.aal ?a ?l ?t ?c ?k; (case a => k_is); (case l => k_is); (case t => k_is); (case c => k_is); (case k => k_is)))
local macro_rules | `(tactic| walk_at "fg") => `(tactic| (refine' My.acd ?h ?l; (case h => k_is); (case l => k_is)))
local macro_rules | `(tactic| walk_at "fz") => `(tactic| first | walk_at "fx" | walk_at "fd" | walk_at "fb" | walk_at "fg" | walk_at "fm" | walk_at "fi" | k_is | k_exc | kts_exm | kit_is)
local macro_rules | `(tactic| walk_at "vs") => `(tactic| first
  | with_reducible refine My.afy ?_
  | with_reducible refine My.abl ?_
  | with_reducible refine My.SA ?_
  | with_reducible refine My.afx ?_)
local macro_rules | `(tactic| walk_at "vd") => `(tactic| ((rw?); (repeat ((walk_at "vs"); (rw?)))))
local macro_rules | `(tactic| walk_at "ve") => `(tactic| ((rw?); (repeat ((first | with_reducible refine My.afp ?_ | with_reducible refine My.afq ?_); (rw?)))))
--@squeeze
--@short
--@mini
--@ind
--@exn
--@twins 500
--@pack 28
namespace Lw
inductive Qq {A0 A1:Type} (p:A0→A1→Prop):Prop
 | mk (a0:A0) (a1:A1):p a0 a1→Qq p
inductive MV {A0 A1 A2:Type} (p:A0→A1→A2→Prop):Prop
 | mk (a0:A0) (a1:A1) (a2:A2):p a0 a1 a2→MV p
inductive P5 {A0 A1 A2 A3:Type} (p:A0→A1→A2→A3→Prop):Prop
 | mk (a0:A0) (a1:A1) (a2:A2) (a3:A3):p a0 a1 a2 a3→P5 p
inductive Xs5 {A0 A1 A2 A3 A4:Type} (p:A0→A1→A2→A3→A4→Prop):Prop
 | mk (a0:A0) (a1:A1) (a2:A2) (a3:A3) (a4:A4):p a0 a1 a2 a3 a4→Xs5 p
inductive Xs6 {A0 A1 A2 A3 A4 A5:Type} (p:A0→A1→A2→A3→A4→A5→Prop):Prop
 | mk (a0:A0) (a1:A1) (a2:A2) (a3:A3) (a4:A4) (a5:A5):p a0 a1 a2 a3 a4 a5→Xs6 p
inductive Xs7 {A0 A1 A2 A3 A4 A5 A6:Type} (p:A0→A1→A2→A3→A4→A5→A6→Prop):Prop
 | mk (a0:A0) (a1:A1) (a2:A2) (a3:A3) (a4:A4) (a5:A5) (a6:A6):p a0 a1 a2 a3 a4 a5 a6→Xs7 p
inductive Xs8 {A0 A1 A2 A3 A4 A5 A6 A7:Type} (p:A0→A1→A2→A3→A4→A5→A6→A7→Prop):Prop
 | mk (a0:A0) (a1:A1) (a2:A2) (a3:A3) (a4:A4) (a5:A5) (a6:A6) (a7:A7):p a0 a1 a2 a3 a4 a5 a6 a7→Xs8 p
inductive Xs9 {A0 A1 A2 A3 A4 A5 A6 A7 A8:Type} (p:A0→A1→A2→A3→A4→A5→A6→A7→A8→Prop):Prop
 | mk (a0:A0) (a1:A1) (a2:A2) (a3:A3) (a4:A4) (a5:A5) (a6:A6) (a7:A7) (a8:A8):p a0 a1 a2 a3 a4 a5 a6 a7 a8→Xs9 p
inductive abV {A0 A1 A2 A3 A4 A5 A6 A7 A8 A9:Type} (p:A0→A1→A2→A3→A4→A5→A6→A7→A8→A9→Prop):Prop
 | mk (a0:A0) (a1:A1) (a2:A2) (a3:A3) (a4:A4) (a5:A5) (a6:A6) (a7:A7) (a8:A8) (a9:A9):p a0 a1 a2 a3 a4 a5 a6 a7 a8 a9→abV p
inductive ZT {A0 A1 A2 A3 A4 A5 A6 A7 A8 A9 A10:Type} (p:A0→A1→A2→A3→A4→A5→A6→A7→A8→A9→A10→Prop):Prop
 | mk (a0:A0) (a1:A1) (a2:A2) (a3:A3) (a4:A4) (a5:A5) (a6:A6) (a7:A7) (a8:A8) (a9:A9) (a10:A10):p a0 a1 a2 a3 a4 a5 a6 a7 a8 a9 a10→ZT p
inductive abW {A0 A1 A2 A3 A4 A5 A6 A7 A8 A9 A10 A11:Type} (p:A0→A1→A2→A3→A4→A5→A6→A7→A8→A9→A10→A11→Prop):Prop
 | mk (a0:A0) (a1:A1) (a2:A2) (a3:A3) (a4:A4) (a5:A5) (a6:A6) (a7:A7) (a8:A8) (a9:A9) (a10:A10) (a11:A11):p a0 a1 a2 a3 a4 a5 a6 a7 a8 a9 a10 a11→abW p
open PySem L2 Mth My
def top (i:Nat):aT:=PySem.Challenge.pw_lath_k73_whole_never_fewer.main.body.getD i (.Pass ⟨0,0,0,0⟩)
abbrev uR:aT:=top 86
abbrev yo:aT:=top 87
abbrev yp:aT:=top 88
abbrev rN:aT:=top 89
abbrev kT:aT:=top 6
abbrev jV:aT:=top 7
abbrev yk:aT:=top 8
abbrev G4:aT:=top 9
abbrev yr:aT:=top 10
abbrev qe:aT:=top 11
abbrev j8:aT:=top 12
abbrev oA:aT:=top 13
abbrev G2:aT:=top 15
abbrev Ml:aT:=top 14
abbrev Mj:aT:=top 17
abbrev iN:aT:=top 24
abbrev ow:aT:=top 25
abbrev mR:aT:=top 26
abbrev rT:aT:=top 27
abbrev G5:aT:=top 28
abbrev yq:aT:=top 29
abbrev Ci:aT:=top 30
abbrev Mi:aT:=top 31
abbrev G3:aT:=top 18
abbrev Mn:aT:=top 19
abbrev oz:aT:=top 40
abbrev Mm:aT:=top 50
abbrev qd:aT:=top 90
abbrev rQ:aT:=top 91
abbrev qc:aT:=top 92
abbrev rM:aT:=top 93
abbrev jU:aT:=top 33
abbrev pZ:aT:=top 94
abbrev rO:aT:=top 95
abbrev uQ:aT:=top 21
abbrev uX:aT:=top 22
abbrev ou:aT:=top 34
abbrev GZ:aT:=top 35
abbrev rJ:aT:=top 36
abbrev Ck:aT:=top 37
abbrev yj:aT:=top 38
abbrev iY:aT:=top 71
abbrev kR:aT:=top 72
abbrev uZ:aT:=top 73
abbrev uY:aT:=top 74
abbrev G6:aT:=top 75
abbrev GY:aT:=top 76
abbrev mO:aT:=inClass (top 54) 0
abbrev kP:aT:=top 52
abbrev kX:aT:=top 53
abbrev kM:aT:=inClass (top 54) 1
abbrev mP:aT:=inClass (top 54) 2
abbrev rV:aT:=top 55
abbrev mT:aT:=top 43
abbrev oq:aT:=top 44
abbrev oE:aT:=top 45
abbrev rH:aT:=top 46
abbrev kO:aT:=top 47
abbrev G7:aT:=top 41
abbrev G8:aT:=top 16
abbrev Mh:aT:=top 48
abbrev oB:aT:=top 57
abbrev pW:aT:=top 58
abbrev mQ:aT:=top 59
abbrev GX:aT:=top 60
abbrev uV:aT:=top 20
abbrev pX:aT:=top 62
abbrev yu:aT:=top 63
abbrev rF:aT:=inClass (top 64) 0
abbrev mL:aT:=inClass (top 64) 4
abbrev iF:aT:=inClass (top 64) 2
abbrev iG:aT:=inClass (top 64) 3
abbrev rG:aT:=inClass (top 64) 1
abbrev kL:aT:=inClass (top 64) 5
abbrev uU:aT:=top 66
abbrev uW:aT:=top 67
abbrev mS:aT:=top 68
abbrev Cj:aT:=top 69
abbrev uS:aT:=top 96
abbrev uT:aT:=top 97
abbrev rS:aT:=top 98
abbrev jy:aT:=top 80
abbrev kQ:aT:=top 81
abbrev yt:aT:=top 78
abbrev kW:aT:=top 82
abbrev Cm:aT:=top 83
abbrev ym:aT:=top 99
abbrev rP:aT:=top 100
abbrev rL:aT:=top 101
abbrev rR:aT:=top 102
abbrev SS:aT:=top 84
abbrev qb:aT:=top 103
abbrev rK:aT:=top 104
abbrev pY:aT:=top 105
abbrev SV:aT:=top 106
inductive Mw (K:bZ) (vs:List V) (H:Hp) (Q:VK) (E_:XK):Prop where
 | mk (a:av) (ns:List Int) (i:Int):vs=[.ref a,.int i]→aX K H a (ns.map V.int)→0≤i→i<1000→(∀(c:Int) (H':Hp),au H H'→Q (.int c) H')→Mw K vs H Q E_
inductive Tn (vs:List V) (H:Hp) (Q:VK) (E_:XK):Prop where
 | mk (c k:Int):vs=[.int c,.int k]→0≤k→k<1000→(∀z:Int,Q (.int z) H)→Tn vs H Q E_
inductive JH (K:bZ) (vs:List V) (H:Hp) (Q:VK) (E_:XK):Prop where
 | mk (a:av) (ns:List Int) (i:Int) (l:av) (zs:List Int):vs=[.ref a,.int i,.ref l]→aX K H a (ns.map V.int)→0≤i→i<900→H l=some (.lst (zs.map V.int))→zs.length≤900→(∀z∈zs,0<z∧z<2 ^ 60)→(∀(p:av) (xs:List Int) (H':Hp),au H H'→H p=none→H' p=some (.lst (xs.map V.int))→xs.length=zs.length→(∀(j:Nat) (x z:Int),xs[j]?=some x→zs[j]?=some z→0≤x∧x<z)→Q (.ref p) H')→JH K vs H Q E_
inductive wA (vs:List V) (H:Hp) (Q:VK) (E_:XK):Prop where
 | mk (t b:Int):vs=[.int t,.int b]→0<b→Sz 8000 b→(∀(p:av) (t' b':Int) (H':Hp),au H H'→H' p=some (.tup [.int t',.int b'])→W5 t b t' b'→Q (.ref p) H')→wA vs H Q E_
structure Txt (mg:Str→Option aL):Prop where
 gc:mg "len"=none
 xC:mg "abs"=none
 range:mg "range"=none
 zf:mg "isinstance"=none
 acF:mg "int"=none
 abY:mg "bool"=none
 abJ:mg "tuple"=none
 acK:mg "list"=none
 RG:mg "max"=none
 Wa:mg "min"=none
 Bo:mg "enumerate"=none
 abM:mg "zip"=none
 afK:mg "all"=none
 afL:mg "any"=none
 af2:mg "sum"=none
 WU:mg "sorted"=none
 abN:mg "reversed"=none
 af1:mg "str"=none
theorem V0 {ns:List Int} (h0:0≤i) (h:i<(ns.length:Int)):∃v:Int,pM (ns.map V.int) i=some (.int v):=by
 have hk:i.toNat<ns.length:=by try?
 exact ⟨ns[i.toNat],aZ (mX hk) 0#d⟩
theorem Vs {ns:List Int} {i:Nat} (h:(jS (ns.map V.int) lo hi)[i]?=some y):∃m:Int,y=.int m:=by
 have hm:y∈jS (ns.map V.int) lo hi:=mY h
 unfold jS at hm
 obtain ⟨m,_,e⟩:=gP.mp (JX (Yj hm))
 exact ⟨m,e.symm⟩
theorem Nu (x y:Nat):((x:Int) % (y:Int))=((x % y:Nat):Int):=(Int.natCast_emod x y).symm
theorem iK (t:Int):(if t<0 then -t else t)=(t.natAbs:Int):=by split <;> try?
def QD (i:Nat) (σ:St):Nat:=match σ[i]? with | some (some (V.int n))=>n.toNat | _=>0
def XF (σ:St):Nat:=match σ[3]? with | some (some (V.int n))=>n.toNat | _=>0
section
theorem nH:aF ["_law_script","_law_place","_law_seed","_law_cell_here"] ["_law_script","_law_place"] (ah uR):=0#a
theorem Jk (F:cT K "_law_cell" "_law_cell" uR f fd) (T:Txt mg):bf P w K mg base c7 1 f fd ["_law_script","_law_place"] (Mw K):=by
 refine F.ok nH 0#f 0#b
 ·obtain ⟨a,ns,i,rfl,_⟩:=h
  rfl
 obtain ⟨a,ns,i,rfl,hS,h0,h1,k⟩:=h
 refine bI ⟨_,(ao (b9 (bF lD 0#r (gB K T.gc 0#l) (aH _)) (aI (aU (bD (fK K) 0#l 0#r 0#h))) cF) (ao (aK 2 nH.nd aq) (ao (dP gF rfl (di K (qW (Tf K) 0#l qX (qY aq))) (cg (i:=3) nH.nd rfl 0#m) (aI (aK 2 nH.nd (aG gI (aG aV (aG aV (aG aP 0#w aq) (aG gI (aa 3) aq)) aq) aq)))) (aI (aU (aG gI (aG aV 0#w (aG aP aq 0#r)) aq)))))),?_⟩
 rw?
 refine cP (.inl hS) ?_
 rw?
 refine cE 0#B 0#B
 ·have c':=jM c
  rw [gJ] at c'
  obtain ⟨v,hv⟩:=V0 (ns:=ns) h0 c'
  rw?
  exact ⟨a,_,i,_,rfl,rfl,hS,hv,k v H (au.refl _)⟩
 ·rw?
  refine ⟨_,rfl,_,rfl,a,_,rfl,hS,fun p hp=>?_⟩
  have s1:au H (upd H p (.lst (jS (ns.map V.int) none (some 63)))):=kr hp _
  have e1:upd H p (.lst (jS (ns.map V.int) none (some 63))) p=some (.lst (jS (ns.map V.int) none (some 63))):=aA
  refine ⟨p,rfl,⟨_,aX.of e1⟩,dW (K:=K) (a:=p) (xs:=jS (ns.map V.int) none (some 63)) (fun _ σ H2=>Qq fun (z:Int) (v:Option V)=>σ=[some (.ref a),some (.int i),some (.int z),v]∧0≤z∧z<2147483647∧au (upd H p (.lst (jS (ns.map V.int) none (some 63)))) H2)
   ⟨5,none,rfl,by decide,by decide,au.refl _⟩ (fun _ σ H2 _ ⟨_,_,_,_,_,s2⟩=>aX.of (s2 _ _ e1)) ?_ ?_⟩
  ·rintro j y σ H2 hj ⟨z,v,rfl,z0,z1,s2⟩
   obtain ⟨m,rfl⟩:=Vs hj
   rw?
   exact ⟨_,_,rfl,yQ _ 0#i,wY _ 0#i,s2⟩
  ·rintro σ H2 ⟨z,v,rfl,z0,z1,s2⟩
   rw?
   exact k _ _ (s1.trans s2)
theorem u6:aF ["_law_cell_here","_law_k","_law_one","_law_two"] ["_law_cell_here","_law_k"] (ah yo):=0#a
theorem LH (F:cT K "_law_mix" "_law_mix" yo f fd):bf P w K mg base c7 1 f fd ["_law_cell_here","_law_k"] Tn:=by
 refine F.ok u6 0#f 0#b
 ·obtain ⟨c,k,rfl,_⟩:=h
  rfl
 obtain ⟨c,j,rfl,h0,h1,k⟩:=h
 refine bI ⟨_,(ao (aK 2 u6.nd (aG gI (aG pS (aG aV (aG aV (aG gI 0#l aq) (aG aP aq 0#r)) aq) aq) aq)) (ao (aK 3 u6.nd (aG gI (aG aV (aG aV (aG aP 0#w aq) (aG aP (aG aP aq 0#r) 0#r)) aq) aq)) (aI (aU (aG d8 (aa 3) aq))))),?_⟩
 have b0:0≤c % 2147483629:=yQ _ 0#i
 have b1:c % 2147483629<2147483629:=wY _ 0#i
 rw?
 refine fF (show abO _ _ from ⟨by decide,by decide,by try?⟩) ?_
 rw?
 refine fF (mulR 0#d 0#d) ?_
 rw?
 refine fF (show yT _ _ from ⟨by decide,by decide +kernel⟩) ?_
 exact k _
theorem iZ:aF ["_law_script","_law_place","_law_sizes","_law_cell_here","_law_left","_law_some","_law_k","_law_other"] ["_law_script","_law_place","_law_sizes"] (ah yp):=0#a
theorem LI (F:cT K "_law_row" "_law_row" yp f fd) (T:Txt mg) (pC:Dn P w K mg base 1 "_law_cell" ["_law_script","_law_place"] (Mw K)) (sL:Dn P w K mg base 1 "_law_mix" ["_law_cell_here","_law_k"] Tn) :
 bf P w K mg base c7 3 f fd ["_law_script","_law_place","_law_sizes"] (JH K):=by
 refine F.ok iZ 0#f 0#b
 ·obtain ⟨a,ns,i,l,zs,rfl,_⟩:=h
  rfl
 obtain ⟨a,ns,i,l,zs,rfl,hS,h0,h1,hl,hz,hzs,k⟩:=h
 refine bI ⟨_,(ao (aK 3 iZ.nd (bY pC hr 0#l 0#r)) (ao (aK 4 iZ.nd (aa 3)) (ao (aK 5 iZ.nd (dg dY)) (ao (dP gF rfl (zj rfl T.range (dG (gB K T.gc 0#w))) (cg (i:=6) iZ.nd rfl 0#m) (aI (b9 (bF lD (aa 3) (aG pS aq aq) (aH _)) (aI (dZ (fZ K (aa 5) (aG gI (bY sL hr (aa 3) (aa 6)) (bD (fK K) 0#w (aa 6) 0#h))) (hs:=dM))) (aI (b9 (bF dI (aa 4) aq (aH _)) (ao (dZ (fZ K (aa 5) (aG gI (aa 4) (bD (fK K) 0#w (aa 6) 0#h))) (hs:=dM)) (aI (aK 4 iZ.nd (aG d8 (aa 4) (bD (fK K) 0#w (aa 6) 0#h))))) (ao (aK 7 iZ.nd (bY pC hr 0#l (aG gI (aG aV (aG aV 0#r aq) (aa 6)) aq))) (aI (dZ (fZ K (aa 5) (aG gI (bY sL hr (aa 7) (aa 6)) (bD (fK K) 0#w (aa 6) 0#h))) (hs:=dM))))))))) (aI (aU (aa 5))))))),?_⟩
 rw?
 refine ⟨a,ns,i,rfl,hS,h0,by try?,fun c H1 s1=>?_⟩
 rw?
 refine aE (mk:=.lst) 0#e fun p H2 s2 n2 e2=>?_
 rw?
 have hl2:H2 l=some (.lst (zs.map V.int)):=s2 _ _ (s1 _ _ hl)
 refine ⟨_,rfl,l,_,rfl,.inl (aX.of hl2),_,rfl,by lia,by rw [gJ];lia,cX (fun j σ H3=>P5 fun (left:Int) (xs:List Int) (v6 v7:Option V)=>
  σ=[some (.ref a),some (.int i),some (.ref l),some (.int c),some (.int left),some (.ref p),v6,v7]∧au H1 H3∧H3 p=some (.lst (xs.map V.int))∧xs.length=j∧(∀(j:Nat) (x z:Int),xs[j]?=some x→zs[j]?=some z→0≤x∧x<z)) ?_ ?_ ?_⟩
 ·exact ⟨c,[],none,none,rfl,s2,e2,rfl,fun j x z e _=>by simp at e⟩
 ·rintro j σ H3 hj ⟨left,xs,v6,v7,rfl,s3,e3,hx,hxs⟩
  have hj':j<zs.length:=by simpa using hj
  obtain ⟨z,ez⟩:∃z,zs[j]?=some z:=⟨_,mX hj'⟩
  obtain ⟨zp,zq⟩:=hzs z (mY ez)
  have hl3:H3 l=some (.lst (zs.map V.int)):=s3 _ _ (s1 _ _ hl)
  have ea:pM (zs.map V.int) (0+(j:Int))=some (.int z):=aZ ez 0#d
  have hS3:aX K H3 a (ns.map V.int):=(s1.trans s3).seq hS
    -- one more item
  have fin:∀(y left':Int) (v6 v7:Option V) (H4:Hp),au H3 H4→H4 p=some (.lst (xs.map V.int))→P5 fun (left:Int) (xs':List Int) (v6' v7':Option V)=>
   [some (.ref a),some (.int i),some (.ref l),some (.int c),some (.int left'),some (.ref p),v6,v7]=[some (.ref a),some (.int i),some (.ref l),some (.int c),some (.int left),some (.ref p),v6',v7'] ∧
   au H1 (upd H4 p (.lst (xs.map V.int++[.int (y % z)])))∧upd H4 p (.lst (xs.map V.int++[.int (y % z)])) p=some (.lst (xs'.map V.int))∧xs'.length=j+1∧(∀(j:Nat) (x z:Int),xs'[j]?=some x→zs[j]?=some z→0≤x∧x<z):=by
   intro y left' v6 v7 H4 s4 e4
   refine ⟨left',xs++[y % z],v6,v7,rfl,aY (s3.trans s4) n2,?_,by rw [fq,hx];rfl,fun m x z' e1 e2=>?_⟩
   ·rw [aA,i9];rfl
   ·by_cases hm:m<xs.length
    ·rw [wX hm] at e1
     exact hxs m x z' e1 e2
    ·have hm2:m=j:=by
      have:=(lR.mp e1).1
      rw [fq] at this
      simp at this
      try?
     subst hm2
     rw [yO 0#d,hx] at e1
     simp at e1
     rw [ez] at e2
     cases e2
     subst e1
     exact ⟨yQ _ 0#d,wY _ zp⟩
  have Mv:(xs.map V.int).length<sizeLine:=by rw [gJ];exact aN 0#d
  rw?
  refine cE (fun _=>?_) (fun _=>?_)
  ·rw?
   refine ⟨.inl ⟨rfl,_,aX.of e3⟩,?_⟩
   rw?
   refine ⟨_,_,rfl,by try?,by try?,fun y=>?_⟩
   rw?
   refine cA hl3 ea ?_
   refine fF (show (0:Int)<z from zp) ?_
   rw?
   refine cz e3 Mv ?_
   exact fin y _ _ _ _ (au.refl _) e3
  ·rw?
   refine cE (fun _=>?_) (fun _=>?_)
   ·rw?
    refine ⟨.inl ⟨rfl,_,aX.of e3⟩,?_⟩
    rw?
    refine cA hl3 ea ?_
    refine fF (show (0:Int)<z from zp) ?_
    rw?
    refine cz e3 Mv ?_
    rw?
    refine cA (by rw [aM (bH (s1 _ _ hl) n2)];exact hl3) ea ?_
    refine fF (show yT _ _ from ⟨by try?,Sz.log (m:=60) (Sz.of_lt (k:=2 ^ 60) 0#d (dz _)) 0#i 0#i⟩) ?_
    exact fin left _ _ _ _ (au.refl _) e3
   ·rw?
    have q0:0≤(i+1+(0+(j:Int))) % 63:=yQ _ 0#i
    have q1:(i+1+(0+(j:Int))) % 63<63:=wY _ 0#i
    refine ⟨a,ns,_,rfl,hS3,q0,by try?,fun c2 H4 s4=>?_⟩
    rw?
    refine ⟨.inl ⟨rfl,_,aX.of (s4 _ _ e3)⟩,?_⟩
    rw?
    refine ⟨_,_,rfl,by try?,by try?,fun y=>?_⟩
    rw?
    refine cA (s4 _ _ hl3) ea ?_
    refine fF (show (0:Int)<z from zp) ?_
    rw?
    refine cz (s4 _ _ e3) Mv ?_
    exact fin y _ _ _ _ s4 (s4 _ _ e3)
 ·rintro σ H3 ⟨left,xs,v6,v7,rfl,s3,e3,hx,hxs⟩
  rw?
  exact k p xs H3 (s1.trans s3) (s1.free n2) e3 (by simpa using hx) hxs
theorem qg:aF ["_law_top","_law_bottom","_law_one","_law_two"] ["_law_top","_law_bottom"] (ah rN):=0#a
theorem Gn (F:cT K "_law_ratio" "_law_ratio" rN f fd) (T:Txt mg):bf P w K mg base c7 1 f fd ["_law_top","_law_bottom"] wA:=by
 refine F.ok qg 0#f 0#b
 ·obtain ⟨t,b,rfl,_⟩:=h
  rfl
 obtain ⟨t,b,rfl,hb,hz,k⟩:=h
 refine bI ⟨_,(ao (Jd.GJ (i:=2) (j:=3) rfl qg.nd rfl rfl 0#i rfl rfl (bC (fU xB rfl T.xC yP (dG 0#l) (he:=bK) (hpl:=cB)) 0#r) rfl) (ao (Jd.kq gF (bF dI (aa 3) aq (aH _)) (aI (Jd.GJ (i:=2) (j:=3) rfl qg.nd rfl rfl 0#i rfl rfl (bC (aa 3) (aG gI 0#w (aa 3))) rfl))) (aI (aU (bG (bC (aG d8 0#l 0#w) (aG d8 0#r 0#w))))))),?_⟩
 rw?
 have hgb:cK t b≤b.natAbs:=by
  have:=Int.gcd_le_right (a:=t) (b:=b) 0#d
  try?
 refine wL (fun σ H'=>H'=H∧Qq fun x y:Nat=>σ=[some (.int t),some (.int b),some (.int x),some (.int y)]∧Kh x y=cK t b) (fun σ _=>XF σ) ?_ ?_ ?_
 ·refine ⟨rfl,t.natAbs,b.natAbs,?_,rfl⟩
  rw [iK]
  have e:b=((b.natAbs:Nat):Int):=by try?
  rw [← e]
  rfl
 ·rintro σ H' ⟨rfl,x,y,rfl,hg⟩
  rw?
  refine cE 0#B 0#B
  ·have c':(0:Int)<(y:Int):=jM c
   rw?
   refine ⟨⟨rfl,y,x % y,?_,by rw [Iu];exact hg⟩,?_⟩
   ·rw [← Nu];rfl
   ·show ((x:Int) % (y:Int)).toNat<(y:Int).toNat
    rw [Nu]
    have:=ZI x (y:=y) 0#d
    try?
  ·have c':¬(0:Int)<(y:Int):=iH (gY.mpr c)
   have y0:y=0:=by try?
   subst y0
   rw [Ys] at hg
   subst hg
   have gp:0<cK t b:=P0 t 0#d
   have cd:yT t ((cK t b:Nat):Int):=⟨by try?,Sz.log (m:=8000) (Sz.of_le hz 0#d) 0#i 0#i⟩
   rw?
   refine aE (mk:=.tup) 0#e fun p H1 s1 n1 e1=>?_
   exact k p _ _ H1 s1 e1 (F3 hb)
 ·intro σ H Q Q' h q
  obtain ⟨v,e,i,j,e1,e2,b,e3,q⟩:=q
  exact ⟨v,e,i,j,e1,e2,b,e3,h _ _ q⟩
end
def bS (H:Hp) (p:av) (q:Rat) (n:Nat):Prop:=∃t b:Int,H p=some (.tup [.int t,.int b])∧Qt t b q∧Sz n t∧Sz n b
def dF (H:Hp) (p:av) (q:Rat) (n:Nat):Prop:=∃t b:Int,H p=some (.tup [.int t,.int b])∧Fr t b q∧Sz n t∧Sz n b
def iV (H:Hp) (p:av) (m:Int) (q:Rat) (n:Nat):Prop:=∃v:av,H p=some (.tup [.int m,.ref v])∧dF H v q n∧Sz n m
def iU (H:Hp) (p:av) (s h:Rat) (n:Nat):Prop:=∃a b:av,H p=some (.tup [.ref a,.ref b])∧dF H a s n∧dF H b h n
section
theorem dF.qt (f:dF H p q n):bS H p q n:=let ⟨t,b,e,f,z⟩:=f;⟨t,b,e,f.qt,z⟩
theorem bS.mono (f:bS H p q m) (h:m≤n):bS H p q n:=let ⟨t,b,e,f,z1,z2⟩:=f;⟨t,b,e,f,z1.mono h,z2.mono h⟩
theorem dF.mono (f:dF H p q m) (h:m≤n):dF H p q n:=let ⟨t,b,e,f,z1,z2⟩:=f;⟨t,b,e,f,z1.mono h,z2.mono h⟩
theorem bS.up (f:bS H p q n) (s:au H H'):bS H' p q n:=let ⟨t,b,e,f⟩:=f;⟨t,b,s _ _ e,f⟩
theorem dF.up (f:dF H p q n) (s:au H H'):dF H' p q n:=let ⟨t,b,e,f⟩:=f;⟨t,b,s _ _ e,f⟩
theorem iV.up (f:iV H p t q n) (s:au H H'):iV H' p t q n:=let ⟨v,e,f,z⟩:=f;⟨v,s _ _ e,f.up s,z⟩
theorem iU.up (f:iU H p q h n) (s:au H H'):iU H' p q h n:=let ⟨a,b,e,f,g⟩:=f;⟨a,b,s _ _ e,f.up s,g.up s⟩
theorem dF.den (f:dF H p q n):∃t b:Int,Den H (.ref p) (.tuple [.int t,.int b])∧Fr t b q:=let ⟨t,b,e,f,_⟩:=f;⟨t,b,.tup e (.cons (.int _) (.cons (.int _) .nil)),f⟩
end
inductive Ht (vs:List V) (H:Hp) (Q:VK) (E_:XK):Prop where
 | mk (m n:Int):vs=[.int m,.int n]→0≤m→0≤n→Q (.int (cK m n:Nat)) H→Ht vs H Q E_
inductive Hy (vs:List V) (H:Hp) (Q:VK) (E_:XK):Prop where
 | mk (m n:Int):vs=[.int m,.int n]→0≤n→n≤m→m<115792089237316195423570985008687907853269984665640564039457584007913129639936→(∀(p:av) (x0 y0 x1 y1 high low:Int) (H':Hp),au H H'→H' p=some (.tup [.int x0,.int y0,.int x1,.int y1])→ju m n high low x0 y0 x1 y1→low≤340282366920938463463374607431768211456→Q (.ref p) H')→Hy vs H Q E_
inductive sZ (vs:List V) (H:Hp) (Q:VK) (E_:XK):Prop where
 | mk (m n:Int):vs=[.int m,.int n]→Sz 8000 m→Sz 8000 n→(∀H',au H H'→Q (.int (cK m n:Nat)) H')→sZ vs H Q E_
inductive wB (vs:List V) (H:Hp) (Q:VK) (E_:XK):Prop where
 | mk (t b:Int):vs=[.int t,.int b]→b≠0→Sz 8000 t→Sz 8000 b→(∀(p:av) (t' b':Int) (H':Hp),au H H'→H' p=some (.tup [.int t',.int b'])→W5 t b t' b'→Q (.ref p) H')→wB vs H Q E_
inductive fR (vs:List V) (H:Hp) (Q:VK) (E_:XK):Prop where
 | mk (p:av) (q:Rat) (n:Nat):vs=[.ref p]→bS H p q n→n≤8000→(∀(r:av) (H':Hp),au H H'→dF H' r q n→Q (.ref r) H')→fR vs H Q E_
inductive iB (f:Rat→Rat→Rat) (k:Nat) (vs:List V) (H:Hp) (Q:VK) (E_:XK):Prop where
 | mk (p r:av) (q q':Rat) (m n:Nat):vs=[.ref p,.ref r]→bS H p q m→bS H r q' n→m+n≤100000→(∀(s:av) (H':Hp),au H H'→bS H' s (f q q') (m+n+k)→Q (.ref s) H')→iB f k vs H Q E_
inductive qh (f:Rat→Rat→Rat) (k:Nat) (vs:List V) (H:Hp) (Q:VK) (E_:XK):Prop where
 | mk (p r:av) (q q':Rat) (m n:Nat):vs=[.ref p,.ref r]→bS H p q m→bS H r q' n→m+n+k≤8000→(∀(s:av) (H':Hp),au H H'→dF H' s (f q q') (m+n+k)→Q (.ref s) H')→qh f k vs H Q E_
inductive MF (vs:List V) (H:Hp) (Q:VK) (E_:XK):Prop where
 | mk (p r:av) (q q':Rat) (m n:Nat):vs=[.ref p,.ref r]→bS H p q m→bS H r q' n→m+n≤8000→q'≠0→(∀(s:av) (H':Hp),au H H'→dF H' s (q/q') (m+n)→Q (.ref s) H')→MF vs H Q E_
inductive wz (vs:List V) (H:Hp) (Q:VK) (E_:XK):Prop where
 | mk (p r:av) (t t':Int) (q q':Rat) (n:Nat):vs=[.ref p,.ref r]→iV H p t q n→iV H r t' q' n→t≠t'→n≤2000→(∀(s:av) (H':Hp),au H H'→bS H' s ((q'-q)/((t'-t:Int):Rat)) (4*n+3)→Q (.ref s) H')→wz vs H Q E_
inductive Hw (vs:List V) (H:Hp) (Q:VK) (E_:XK):Prop where
 | mk (p r:av) (t t':Int) (q q':Rat) (n:Nat):vs=[.ref p,.ref r]→iV H p t q n→iV H r t' q' n→t≠t'→n≤1000→(∀(s:av) (H':Hp),au H H'→dF H' s ((q'-q)/((t'-t:Int):Rat)) (4*n+3)→Q (.ref s) H')→Hw vs H Q E_
inductive oX (vs:List V) (H:Hp) (Q:VK) (E_:XK):Prop where
 | mk (p r:av) (s q:Rat) (t u:Int) (m n:Nat):vs=[.ref p,.ref r,.int u]→bS H p s m→iV H r t q n→Sz n u→m≤20000→n≤20000→(∀(x:av) (H':Hp),au H H'→bS H' x (q+s*((u-t:Int):Rat)) (m+2*n+2)→Q (.ref x) H')→oX vs H Q E_
section
theorem dS:aF ["one","other","found","rest","left"] ["one","other"] (ah kT):=0#a
theorem xZ (F:cT K "plain_divisor" "plain_divisor" kT f fd) (T:Txt mg):bf P w K mg base c7 1 f fd ["one","other"] Ht:=by
 refine F.ok dS 0#f 0#b
 ·obtain ⟨m,n,rfl,_⟩:=h
  rfl
 obtain ⟨m,n,rfl,hm,hn,k⟩:=h
 refine bI ⟨_,(ao (aK 2 dS.nd 0#l) (ao (aK 3 dS.nd 0#r) (ao (Jd.kq gF (bF acU (aa 3) aq (aH _)) (ao (aK 4 dS.nd (aG gI 0#w (aa 3))) (ao (aK 2 dS.nd (aa 3)) (aI (aK 3 dS.nd (aa 4)))))) (aI (aU 0#w))))),?_⟩
 rw?
 refine wL (fun σ H'=>H'=H∧MV fun (x y:Nat) (v:Option V)=>σ=[some (.int m),some (.int n),some (.int x),some (.int y),v]∧Kh x y=cK m n) (fun σ _=>XF σ) ?_ ?_ ?_
 ·refine ⟨rfl,m.natAbs,n.natAbs,none,?_,rfl⟩
  rw [show ((m.natAbs:Nat):Int)=m by try?,show ((n.natAbs:Nat):Int)=n by try?]
  rfl
 ·rintro σ H' ⟨rfl,x,y,v,rfl,hg⟩
  rw?
  refine cE 0#B 0#B
  ·have c':¬(y:Int)=0:=by simpa using c
   rw?
   refine ⟨⟨rfl,y,x % y,some (.int ((x % y:Nat):Int)),?_,by rw [Iu];exact hg⟩,?_⟩
   ·rw [Nu];rfl
   ·show ((x:Int) % (y:Int)).toNat<(y:Int).toNat
    rw [Nu]
    have:=ZI x (y:=y) 0#d
    try?
  ·have c':(y:Int)=0:=by simpa using c
   have y0:y=0:=by try?
   subst y0
   rw [Ys] at hg
   subst hg
   rw?
   exact k
 ·intro σ H Q Q' h q
  obtain ⟨v,e,hs,b,e3,q⟩:=q
  exact ⟨v,e,hs,b,e3,h _ _ q⟩
theorem bX:aF ["high","low","ahead","now","many","left","behind"] ["high","low"] (ah jV):=0#a
theorem vN (F:cT K "steps_of_heads" "steps_of_heads" jV f fd) (ur:Cn mg "HEAD" 256):bf P w K mg base c7 1 f fd ["high","low"] Hy:=by
 refine F.ok bX 0#f 0#b
 ·obtain ⟨m,n,rfl,_⟩:=h
  rfl
 obtain ⟨hd,ld,rfl,h0,h1,h2,k⟩:=h
 refine bI ⟨_,(ao (aK 2 bX.nd (bG (bC aq aq))) (ao (aK 3 bX.nd (bG (bC aq aq))) (ao (Jd.kq gF (bF dI (Jd.vO 0#r) (aG d8 (Jd.Ju rfl ur) aq) (aH _)) (ao (aK 4 bX.nd (aG d8 0#l 0#r)) (ao (aK 5 bX.nd (aG bP 0#l (aG aP (aa 4) 0#r))) (ao (aK 0 bX.nd 0#r) (ao (aK 1 bX.nd (aa 5)) (ao (aK 6 bX.nd (bG (bC (aG bP (aJ K 0#w) (aG aP (aa 4) (aJ K (aa 3)))) (aG bP (aJ K 0#w) (aG aP (aa 4) (aJ K (aa 3))))))) (ao (aK 2 bX.nd (aa 3)) (aI (aK 3 bX.nd (aa 6)))))))))) (aI (aU (aG (abZ K) 0#w (aa 3))))))),?_⟩
 rw?
 refine aE (mk:=.tup) 0#e fun pa Ha sa na ea=>?_
 rw?
 refine aE (mk:=.tup) 0#e fun pn Hn sn nn en=>?_
 rw?
 refine wL (fun σ H'=>au H H'∧ZT fun (high low x0 y0 x1 y1:Int) (pa pn:av) (v4 v5 v6:Option V)=>σ=[some (.int high),some (.int low),some (.ref pa),some (.ref pn),v4,v5,v6] ∧
  H' pa=some (.tup [.int x0,.int y0])∧H' pn=some (.tup [.int x1,.int y1])∧ju hd ld high low x0 y0 x1 y1) (fun σ _=>QD 1 σ) ?_ ?_ ?_
 ·exact ⟨sa.trans sn,hd,ld,1,0,0,1,pa,pn,none,none,none,rfl,sn _ _ ea,en,ju.init h0 h1⟩
 ·rintro σ H' ⟨sH,high,low,x0,y0,x1,y1,pa,pn,v4,v5,v6,rfl,ea,en,S⟩
  rw?
  refine fF ⟨by decide,by decide⟩ ?_
  rw?
  refine cE 0#B 0#B
  ·have c':=jM c
   rw [show Int.fdiv 256 2=128 by decide] at c'
   have hlow:=O3 c' S.l0
   have hq:=S.step hlow rfl
   have hH:hd.natAbs<2 ^ 256:=by
    have:(2:Nat) ^ 256=115792089237316195423570985008687907853269984665640564039457584007913129639936:=by decide
    try?
   have zl:Sz 256 ld:=Sz.of_le (m:=256) (x:=hd) hH 0#d
   have zh:Sz 256 high:=Sz.of_le (m:=256) (x:=hd) hH (by have:=S.VV h1;have:=S.lh;have:=S.l0;try?)
   have nb:=S.aaW (by have:=S.lh;try?)
   have zx:Sz 256 x1:=Sz.of_le zl nb.1
   have zy:Sz 256 y1:=Sz.of_le (m:=256) (x:=hd) hH nb.2
   have zlo:Sz 256 low:=zh.of_le (by have:=S.lh;have:=S.l0;try?)
   have eq:high.fdiv low=high/low:=yN _ S.l0
   have zq:Sz 256 (high/low):=zh.of_le (QM (by have:=S.lh;have:=S.l0;try?) S.l0)
   rw?
   refine fF ⟨by try?,zlo.log 0#i 0#i⟩ ?_
   rw [eq]
   rw?
   refine fF (bQ zq zlo) ?_
   rw?
   refine fF (bQ zq zx) ?_
   rw?
   refine fF (bQ zq zy) ?_
   rw?
   refine aE (mk:=.tup) 0#e fun pb Hb sb nb eb=>?_
   rw?
   refine ⟨⟨sH.trans sb,low,high-high/low*low,x1,y1,x0-high/low*x1,y0-high/low*y1,pn,pb,_,_,_,rfl,sb _ _ en,eb,hq⟩,?_⟩
   show (high-high/low*low).toNat<low.toNat
   have e:=JU high low
   rw [yR] at e
   have:=wY high (b:=low) 0#d
   try?
  ·have c':=iH (gY.mpr c)
   rw [show Int.fdiv 256 2=128 by decide] at c'
   have hlow:=IP c'
   rw?
   refine Sw ea en ?_
   refine aE (mk:=.tup) 0#e fun pb Hb sb nb eb=>?_
   exact k pb x0 y0 x1 y1 high low Hb (sH.trans sb) eb S 0#d
 ·intro σ H Q Q' h q
  obtain ⟨v,e,a1,a2,i,a3,m,n,e1,e2,hc,m',n',e3,e4,b,e5,q⟩:=q
  exact ⟨v,e,a1,a2,i,a3,m,n,e1,e2,hc,m',n',e3,e4,b,e5,h _ _ q⟩
theorem fE:aF ["one","other","found","rest","tail","steps","ahead","now"] ["one","other"] (ah yk):=0#a
theorem LF (F:cT K "divisor" "divisor" yk f fd) (T:Txt mg) (ur:Cn mg "HEAD" 256) (kH:Dn P w K mg base 1 "plain_divisor" ["one","other"] Ht) (jQ:Dn P w K mg base 1 "steps_of_heads" ["high","low"] Hy) :
 bf P w K mg base c7 2 f fd ["one","other"] sZ:=by
 refine F.ok fE 0#f 0#b
 ·obtain ⟨m,n,rfl,_⟩:=h
  rfl
 obtain ⟨m,n,rfl,zm,zn,k⟩:=h
 refine bI ⟨_,(ao (aK 2 fE.nd (fU (V9 rfl) rfl T.RG JV (bC (fU xB rfl T.xC yP (dG 0#l) (he:=bK) (hpl:=cB)) (fU xB rfl T.xC yP (dG 0#r) (he:=bK) (hpl:=cB))) (he:=Ax) (hpl:=(cD Ax cB)))) (ao (aK 3 fE.nd (fU (aaP rfl) rfl T.Wa N1 (bC (fU xB rfl T.xC yP (dG 0#l) (he:=bK) (hpl:=cB)) (fU xB rfl T.xC yP (dG 0#r) (he:=bK) (hpl:=cB))) (he:=Ax) (hpl:=(cD Ax cB)))) (ao (Jd.kq gF (bF dI (Jd.vO (aa 3)) (Jd.Ju rfl ur) (aH _)) (ao (aK 4 fE.nd (aG bP (Jd.vO 0#w) (Jd.Ju rfl ur))) (ao (aK 5 fE.nd (bY jQ hr (aG Sg 0#w (aa 4)) (aG Sg (aa 3) (aa 4)))) (ao (b9 (bF d7 (aJ K (aa 5)) aq (aH _)) (aI (aK 5 fE.nd (bG (Jd.a4 aq aq aq (eV cW (aG d8 0#w (aa 3))))))) cF) (ao (aK 6 fE.nd (fU xB rfl T.xC yP (dG (aG aV (aG aP (aJ K (aa 5)) 0#w) (aG aP (aJ K (aa 5)) (aa 3)))) (he:=JI) (hpl:=cB))) (ao (aK 7 fE.nd (fU xB rfl T.xC yP (dG (aG aV (aG aP (aJ K (aa 5)) 0#w) (aG aP (aJ K (aa 5)) (aa 3)))) (he:=JI) (hpl:=cB))) (ao (aK 2 fE.nd (fU (V9 rfl) rfl T.RG JV (bC (aa 6) (aa 7)) (he:=bK) (hpl:=(cD bK cB)))) (aI (aK 3 fE.nd (fU (aaP rfl) rfl T.Wa N1 (bC (aa 6) (aa 7)) (he:=bK) (hpl:=(cD bK cB)))))))))))) (aI (aU (bY kH hr 0#w (aa 3))))))),?_⟩
 rw?
 rw [iK,iK]
 refine wL (fun σ H'=>au H H'∧Xs6 fun (x y:Int) (v4 v5 v6 v7:Option V)=>σ=[some (.int m),some (.int n),some (.int x),some (.int y),v4,v5,v6,v7] ∧
  0≤y∧y≤x∧cK x y=cK m n∧Sz 8001 (x+y)) (fun σ _=>QD 2 σ+QD 3 σ) ?_ ?_ ?_
 ·refine ⟨au.refl _,_,_,none,none,none,none,rfl,?_,?_,(uE rfl rfl).trans ?_,?_⟩
  ·exact RL _ _
  ·exact RK _ _
  ·rfl
  ·have z:=(zm.of_le (y:=(m.natAbs:Int)) 0#e).add (zn.of_le (y:=(n.natAbs:Int)) 0#e)
   exact z.of_le (Lj 0#d)
 ·rintro σ H' ⟨sH,x,y,v4,v5,v6,v7,rfl,y0,yx,hg,zs⟩
  have zx:Sz 8001 x:=zs.of_le 0#d
  have zy:Sz 8001 y:=zs.of_le 0#d
  rw?
  refine cE 0#B 0#B
  ·have c':=jM c
   obtain ⟨t,ht,lo,hi⟩:=K5 c' y0 yx
   have tp:(0:Int)<2 ^ t:=UI 0#i
   have hd:=Ng lo hi
   have ypos:1≤y:=by
    have:(256:Int)<(tR y:Nat):=c'
    by_cases e:y=0
    ·subst e;simp [tR] at this
    ·try?
   rw?
   refine fF (show (0:Int)≤_ by try?) ?_
   rw?
   refine fF (show (0:Int)≤_ by try?) ?_
   rw?
   rw [show ((tR x:Nat)-256:Int).toNat=t by try?]
   refine ⟨x/2 ^ t,y/2 ^ t,rfl,YT y0 0#d,Uh tp yx,hd.2,fun ps x0 y0' x1 y1 high low H1 s1 e1 S hl=>?_⟩
   rw?
   refine cE (fun c2=>?_) (fun c2=>?_)
   ·have c3:y0'=0:=jM c2
    have zq:Sz 8001 (x.fdiv y):=by
     rw [yN _ y0]
     exact zx.of_le (QM 0#d y0)
    rw?
    refine fF ⟨by try?,zy.log 0#i 0#i⟩ ?_
    rw?
    refine aE (mk:=.tup) 0#e fun p2 H2 s2 n2 e2=>?_
    have sH2:=(sH.trans s1).trans s2
    have za:Sz 8001 (0:Int):=by decide
    have zb:Sz 8001 (1:Int):=by decide
    have zc:Sz 8001 (1:Int):=zb
    have zd:Sz 8001 (-(x.fdiv y)):=zq.neg
    have gg:cK (0*x+1*y) (1*x+-(x.fdiv y)*y)=cK x y:=Nf (.inr 0#d)
    have ls:=VC ypos yx
    rw?
    refine fF (bQ zd zy) ?_
    rw?
    simp only [iK]
    refine ⟨⟨sH2,_,_,_,_,_,_,rfl,?_,?_,(uE rfl rfl).trans (gg.trans hg),?_⟩,?_⟩
    ·exact RL _ _
    ·exact RK _ _
    ·exact zs.of_le (Lj (Xp ls y0 yx))
    ·exact Xo ls y0 yx
   ·have c3:y0'≠0:=iH (gY.mpr c2)
    have sH2:=sH.trans s1
    have sm:=S.small c3 (Uh tp yx) hd.2
    have V4:(340282366920938463463374607431768211456:Nat)<2 ^ 8001:=by decide +kernel
    have za:Sz 8001 x0:=D5 sm.1 V4
    have zb:Sz 8001 y0':=D5 sm.2.1 V4
    have zc:Sz 8001 x1:=D5 sm.2.2.1 V4
    have zd:Sz 8001 y1:=D5 sm.2.2.2 V4
    have gg:cK (x0*x+y0'*y) (x1*x+y1*y)=cK x y:=S.gcd
    have ls:=K4 S c3 yx lo hi rfl rfl hl
    rw?
    refine fF (bQ za zx) ?_
    rw?
    refine fF (bQ zb zy) ?_
    rw?
    refine fF (bQ zc zx) ?_
    rw?
    refine fF (bQ zd zy) ?_
    rw?
    simp only [iK]
    refine ⟨⟨sH2,_,_,_,_,_,_,rfl,?_,?_,(uE rfl rfl).trans (gg.trans hg),?_⟩,?_⟩
    ·exact RL _ _
    ·exact RK _ _
    ·exact zs.of_le (Lj (Xp ls y0 yx))
    ·exact Xo ls y0 yx
  ·rw?
   refine ⟨x,y,rfl,by try?,y0,?_⟩
   rw [hg]
   exact k H' sH
 ·intro σ H Q Q' h q
  obtain ⟨v,e,a1,a2,i,a3,m',n',e3,e4,b,e5,q⟩:=q
  exact ⟨v,e,a1,a2,i,a3,m',n',e3,e4,b,e5,h _ _ q⟩
theorem Ct:aF ["top","bottom","shared"] ["top","bottom"] (ah G4):=0#a
theorem Pe (hb:b≠0):W5 t b (t.fdiv (if b<0 then -(cK t b:Int) else (cK t b:Int))) (b.fdiv (if b<0 then -(cK t b:Int) else (cK t b:Int))):=by
 by_cases h:b<0
 ·rw [if_pos h]
  have l:=V7 (t:=t) h
  exact ⟨l.pos,l.co,by have:=l.eq;rw [Kf,Ov] at this;try?,by rw [← Om t];exact l.tb,by rw [← Om b];exact l.bb⟩
 ·rw [if_neg h]
  exact F3 0#d
theorem R8 (F:cT K "ratio" "ratio" G4 f fd) (T:Txt mg) (lS:Dn P w K mg base 2 "divisor" ["one","other"] sZ):bf P w K mg base c7 3 f fd ["top","bottom"] wB:=by
 refine F.ok Ct 0#f 0#b
 ·obtain ⟨t,b,rfl,_⟩:=h
  rfl
 obtain ⟨t,b,rfl,hb,hzt,hz,k⟩:=h
 refine bI ⟨_,(ao (b9 (bF d7 0#r aq (aH _)) (aI Jd.B8) cF) (ao (aK 2 Ct.nd (bY lS hr 0#l 0#r)) (ao (b9 (bF lD 0#r aq (aH _)) (aI (aK 2 Ct.nd (eV cW 0#w))) cF) (aI (aU (bG (bC (aG d8 0#l 0#w) (aG d8 0#r 0#w)))))))),?_⟩
 rw?
 rw [qu hb]
 refine bU ?_
 rw?
 refine ⟨t,b,rfl,hzt,hz,fun H0 s0=>?_⟩
 have gp:0<cK t b:=P0 t hb
 have hgb:cK t b≤b.natAbs:=Zj 0#d (YF _ _)
 have cd:∀x:Int,yT x (if b<0 then -(cK t b:Int) else (cK t b:Int)):=fun x=>by
  refine ⟨by split <;> try?,Sz.log (m:=8000) (Sz.of_le hz ?_) 0#i 0#i⟩
  split <;> try?
 have lo:=Pe (t:=t) hb
 rw?
 refine cE 0#B 0#B
 ·have c':=jM c
  rw [if_pos c'] at lo
  simp only [if_pos c'] at cd
  rw?
  refine fF (cd t) ?_
  rw?
  refine fF (cd b) ?_
  rw?
  refine aE (mk:=.tup) 0#e fun p H1 s1 n1 e1=>?_
  exact k p _ _ H1 (s0.trans s1) e1 lo
 ·have c':=iH (gY.mpr c)
  rw [if_neg c'] at lo
  simp only [if_neg c'] at cd
  rw?
  refine fF (cd t) ?_
  rw?
  refine fF (cd b) ?_
  rw?
  refine aE (mk:=.tup) 0#e fun p H1 s1 n1 e1=>?_
  exact k p _ _ H1 (s0.trans s1) e1 lo
theorem Mr:aF ["quotient"] ["quotient"] (ah yr):=0#a
theorem LK (F:cT K "reduced" "reduced" yr f fd) (sN:Dn P w K mg base 3 "ratio" ["top","bottom"] wB):bf P w K mg base c7 4 f fd ["quotient"] fR:=by
 refine F.ok Mr 0#f 0#b
 ·obtain ⟨p,q,n,rfl,_⟩:=h
  rfl
 obtain ⟨p,q,n,rfl,⟨t,b,hp,hq,zt,zb⟩,hn,k⟩:=h
 refine bI ⟨_,(aI (aU (bY sN hr (aJ K 0#l) (aJ K 0#l)))),?_⟩
 have hb:=hq.pos
 rw?
 refine ⟨t,b,rfl,by try?,zt.mono hn,zb.mono hn,fun r t' b' H1 s1 e1 lo=>?_⟩
 exact k r H1 s1 ⟨t',b',e1,Fr.LC lo 0#d hq.eq,zt.of_le lo.tb,zb.of_le lo.bb⟩
theorem DX:aF ["one","other"] ["one","other"] (ah qe):=0#a
theorem DR (F:cT K "loose_plus" "loose_plus" qe f fd):bf P w K mg base c7 1 f fd ["one","other"] (iB (·+·) 1):=by
 refine F.ok DX 0#f 0#b
 ·obtain ⟨p,r,q,q',m,n,rfl,_⟩:=h
  rfl
 obtain ⟨p,r,q,q',m,n,rfl,⟨a,b,hp,hq,za,zb⟩,⟨c,d,hr',hq',zc,zd⟩,hn,k⟩:=h
 refine bI ⟨_,(aI (aU (bG (bC (aG aV (aG aP (aJ K 0#l) (aJ K 0#r)) (aG aP (aJ K 0#r) (aJ K 0#l))) (aG aP (aJ K 0#l) (aJ K 0#r)))))),?_⟩
 rw?
 refine fF (bQ za zd 0#d) ?_
 rw?
 refine fF (bQ zc zb 0#d) ?_
 rw?
 refine fF (bQ zb zd 0#d) ?_
 rw?
 refine aE (mk:=.tup) 0#e fun x H1 s1 n1 e1=>?_
 exact k x H1 s1 ⟨_,_,e1,hq.plus hq',(za.mul zd).add ((zc.mul zb).mono 0#d),(zb.mul zd).mono 0#d⟩
theorem rY:aF ["one","other"] ["one","other"] (ah j8):=0#a
theorem BO (F:cT K "loose_minus" "loose_minus" j8 f fd):bf P w K mg base c7 1 f fd ["one","other"] (iB (·-·) 1):=by
 refine F.ok rY 0#f 0#b
 ·obtain ⟨p,r,q,q',m,n,rfl,_⟩:=h
  rfl
 obtain ⟨p,r,q,q',m,n,rfl,⟨a,b,hp,hq,za,zb⟩,⟨c,d,hr',hq',zc,zd⟩,hn,k⟩:=h
 refine bI ⟨_,(aI (aU (bG (bC (aG bP (aG aP (aJ K 0#l) (aJ K 0#r)) (aG aP (aJ K 0#r) (aJ K 0#l))) (aG aP (aJ K 0#l) (aJ K 0#r)))))),?_⟩
 rw?
 refine fF (bQ za zd 0#d) ?_
 rw?
 refine fF (bQ zc zb 0#d) ?_
 rw?
 refine fF (bQ zb zd 0#d) ?_
 rw?
 refine aE (mk:=.tup) 0#e fun x H1 s1 n1 e1=>?_
 exact k x H1 s1 ⟨_,_,e1,hq.minus hq',(za.mul zd).sub ((zc.mul zb).mono 0#d),(zb.mul zd).mono 0#d⟩
theorem Cq:aF ["one","other"] ["one","other"] (ah oA):=0#a
theorem BR (F:cT K "loose_times" "loose_times" oA f fd):bf P w K mg base c7 1 f fd ["one","other"] (iB (·*·) 0):=by
 refine F.ok Cq 0#f 0#b
 ·obtain ⟨p,r,q,q',m,n,rfl,_⟩:=h
  rfl
 obtain ⟨p,r,q,q',m,n,rfl,⟨a,b,hp,hq,za,zb⟩,⟨c,d,hr',hq',zc,zd⟩,hn,k⟩:=h
 refine bI ⟨_,(aI (aU (bG (bC (aG aP (aJ K 0#l) (aJ K 0#r)) (aG aP (aJ K 0#l) (aJ K 0#r)))))),?_⟩
 rw?
 refine fF (bQ za zc 0#d) ?_
 rw?
 refine fF (bQ zb zd 0#d) ?_
 rw?
 refine aE (mk:=.tup) 0#e fun x H1 s1 n1 e1=>?_
 exact k x H1 s1 ⟨_,_,e1,hq.times hq',za.mul zc,zb.mul zd⟩
end
inductive tD (vs:List V) (H:Hp) (Q:VK) (E_:XK):Prop where
 | mk (p r:av) (s h x:Rat) (m n:Nat):vs=[.ref p,.ref r]→iU H p s h n→bS H r x m→m≤20000→n≤20000→(∀(z:av) (H':Hp),au H H'→bS H' z (s*x+h) (m+2*n+1)→Q (.ref z) H')→tD vs H Q E_
inductive se (vs:List V) (H:Hp) (Q:VK) (E_:XK):Prop where
 | mk (p r:av) (s h x:Rat) (m n:Nat):vs=[.ref p,.ref r]→iU H p s h n→bS H r x m→m+2*n+1≤8000→(∀(z:av) (H':Hp),au H H'→dF H' z (s*x+h) (m+2*n+1)→Q (.ref z) H')→se vs H Q E_
inductive MC (vs:List V) (H:Hp) (Q:VK) (E_:XK):Prop where
 | mk (p r:av) (s h q:Rat) (t:Int) (m n:Nat):vs=[.ref p,.ref r]→iU H p s h n→iV H r t q m→1≤m→m≤20000→n≤20000→(∀(z:av) (H':Hp),au H H'→bS H' z (q-(s*(t:Rat)+h)) (2*m+2*n+2)→Q (.ref z) H')→MC vs H Q E_
inductive wu (vs:List V) (H:Hp) (Q:VK) (E_:XK):Prop where
 | mk (p r:av) (s q:Rat) (t:Int) (m n:Nat):vs=[.ref p,.ref r]→dF H p s m→iV H r t q n→1≤n→m+2*n+2≤8000→(∀(z r':av) (H':Hp),au H H'→H' z=some (.tup [.ref p,.ref r'])→dF H' r' (q-s*(t:Rat)) (m+2*n+2)→Q (.ref z) H')→wu vs H Q E_
inductive MD (vs:List V) (H:Hp) (Q:VK) (E_:XK):Prop where
 | mk (p r:av) (s h s' h':Rat) (n:Nat):vs=[.ref p,.ref r]→iU H p s h n→iU H r s' h' n→1≤n→n≤1300→(s=s'→∀H',au H H'→Q .bM H')→(s≠s'→∀(z a b:av) (H':Hp),au H H'→H' z=some (.tup [.ref a,.ref b])→dF H' a ((h'-h)/(s-s')) (4*n+2)→dF H' b (s*((h'-h)/(s-s'))+h) (6*n+3)→Q (.ref z) H')→MD vs H Q E_
theorem aak (h:Fr t b q) (h':Fr t' b' q'):UP (.tuple [.int t,.int b]) (.tuple [.int t',.int b'])=decide (q=q'):=by
 have e:UP (.tuple [.int t,.int b]) (.tuple [.int t',.int b'])=(t==t'&&(b==b'&&true)):=rfl
 rw [e]
 by_cases hq:q=q'
 ·subst hq
  obtain ⟨rfl,rfl⟩:=h.unique h'
  simp
 ·rw [qu hq]
  by_cases e1:t=t'
  ·by_cases e2:b=b'
   ·exact absurd (h.worth h' e1 e2) hq
   ·simp [e2]
  ·simp [e1]
theorem pR (h:1≤n):Sz n 1:=by
 have:(2:Nat) ^ 1≤2 ^ n:=Yh 0#i h
 show ZJ 1<2 ^ n
 have e:ZJ 1=1:=rfl
 try?
theorem sC (h:H p=some (.tup [.int m,.int 1])) (z:Sz n m) (hn:1≤n):bS H p (m:Rat) n:=⟨m,1,h,Qt.whole m,z,pR hn⟩
section
theorem SX:aF ["one","other"] ["one","other"] (ah G2):=0#a
theorem RZ (F:cT K "minus" "minus" G2 f fd) (aS:Dn P w K mg base 1 "loose_minus" ["one","other"] (iB (·-·) 1)) (bE:Dn P w K mg base 4 "reduced" ["quotient"] fR):bf P w K mg base c7 5 f fd ["one","other"] (qh (·-·) 1):=by
 refine F.ok SX 0#f 0#b
 ·obtain ⟨p,r,q,q',m,n,rfl,_⟩:=h
  rfl
 obtain ⟨p,r,q,q',m,n,rfl,h1,h2,hn,k⟩:=h
 refine bI ⟨_,(aI (aU (Jd.c1 bE hr (bY aS hr 0#l 0#r)))),?_⟩
 rw?
 refine ⟨p,r,q,q',m,n,rfl,h1,h2,by try?,fun x H1 s1 e1=>?_⟩
 rw?
 refine ⟨x,_,_,rfl,e1,hn,fun y H2 s2 e2=>?_⟩
 exact k y H2 (s1.trans s2) e2
theorem WL:aF ["one","other"] ["one","other"] (ah Ml):=0#a
theorem Wl (F:cT K "plus" "plus" Ml f fd) (bO:Dn P w K mg base 1 "loose_plus" ["one","other"] (iB (·+·) 1)) (bE:Dn P w K mg base 4 "reduced" ["quotient"] fR):bf P w K mg base c7 5 f fd ["one","other"] (qh (·+·) 1):=by
 refine F.ok WL 0#f 0#b
 ·obtain ⟨p,r,q,q',m,n,rfl,_⟩:=h
  rfl
 obtain ⟨p,r,q,q',m,n,rfl,h1,h2,hn,k⟩:=h
 refine bI ⟨_,(aI (aU (Jd.c1 bE hr (bY bO hr 0#l 0#r)))),?_⟩
 rw?
 refine ⟨p,r,q,q',m,n,rfl,h1,h2,by try?,fun x H1 s1 e1=>?_⟩
 rw?
 refine ⟨x,_,_,rfl,e1,hn,fun y H2 s2 e2=>?_⟩
 exact k y H2 (s1.trans s2) e2
theorem WK:aF ["one","other"] ["one","other"] (ah Mj):=0#a
theorem Wk (F:cT K "over" "over" Mj f fd) (sN:Dn P w K mg base 3 "ratio" ["top","bottom"] wB):bf P w K mg base c7 4 f fd ["one","other"] MF:=by
 refine F.ok WK 0#f 0#b
 ·obtain ⟨p,r,q,q',m,n,rfl,_⟩:=h
  rfl
 obtain ⟨p,r,q,q',m,n,rfl,⟨a,b,hp,hq,za,zb⟩,⟨c,d,hr',hq',zc,zd⟩,hn,h0,k⟩:=h
 have hc:c≠0:=fun z=>h0 (hq'.TY.mp z)
 obtain ⟨o1,o2⟩:=Wq hq hq' hc
 refine bI ⟨_,(aI (aU (bY sN hr (aG aP (aJ K 0#l) (aJ K 0#r)) (aG aP (aJ K 0#l) (aJ K 0#r))))),?_⟩
 rw?
 refine fF (bQ za zd 0#d) ?_
 rw?
 refine fF (bQ zb zc 0#d) ?_
 rw?
 refine ⟨_,_,rfl,o1,(za.mul zd).mono hn,(zb.mul zc).mono hn,fun x t' b' H1 s1 e1 lo=>?_⟩
 exact k x H1 s1 ⟨t',b',e1,Fr.LC lo o1 o2,(za.mul zd).of_le lo.tb,(zb.mul zc).of_le lo.bb⟩
theorem cV:aF ["one","other","rise","step"] ["one","other"] (ah iN):=0#a
theorem BP (F:cT K "loose_slope" "loose_slope" iN f fd) (aS:Dn P w K mg base 1 "loose_minus" ["one","other"] (iB (·-·) 1)):bf P w K mg base c7 3 f fd ["one","other"] wz:=by
 refine F.ok cV 0#f 0#b
 ·obtain ⟨p,r,t,t',q,q',n,rfl,_⟩:=h
  rfl
 obtain ⟨p,r,t,t',q,q',n,rfl,⟨v,hp,hv,zt⟩,⟨v',hr',hv',zt'⟩,ht,hn,k⟩:=h
 refine bI ⟨_,(ao (aK 2 cV.nd (bY aS hr (aJ K 0#r) (aJ K 0#l))) (ao (aK 3 cV.nd (aG bP (aJ K 0#r) (aJ K 0#l))) (ao (b9 (bF lD (aa 3) aq (aH _)) (aI (aU (bG (bC (eV cW (aJ K 0#w)) (aG aP (aJ K 0#w) (eV cW (aa 3))))))) cF) (aI (aU (bG (bC (aJ K 0#w) (aG aP (aJ K 0#w) (aa 3))))))))),?_⟩
 rw?
 refine ⟨v',v,q',q,n,n,rfl,hv'.qt,hv.qt,by try?,fun x H1 s1 e1=>?_⟩
 obtain ⟨a,b,hx,hq,za,zb⟩:=e1
 have hp1:=s1 _ _ hp
 have hr1:=s1 _ _ hr'
 have zs:Sz (n+1) (t'-t):=zt'.sub zt
 rw?
 refine cE 0#B 0#B
 ·have c':t'-t<0:=jM c
  rw?
  refine fF (bQ zb zs.neg 0#d) ?_
  rw?
  refine aE (mk:=.tup) 0#e fun y H2 s2 n2 e2=>?_
  exact k y H2 (s1.trans s2) ⟨_,_,e2,hq.aeD c',za.neg.mono 0#d,(zb.mul zs.neg).mono 0#d⟩
 ·have c':¬t'-t<0:=iH (gY.mpr c)
  rw?
  refine fF (bQ zb zs 0#d) ?_
  rw?
  refine aE (mk:=.tup) 0#e fun y H2 s2 n2 e2=>?_
  exact k y H2 (s1.trans s2) ⟨_,_,e2,hq.div 0#d,za.mono 0#d,(zb.mul zs).mono 0#d⟩
theorem Co:aF ["steep","sample","moment"] ["steep","sample","moment"] (ah ow):=0#a
theorem BN (F:cT K "loose_along" "loose_along" ow f fd) (bO:Dn P w K mg base 1 "loose_plus" ["one","other"] (iB (·+·) 1)) (dc:Dn P w K mg base 1 "loose_times" ["one","other"] (iB (·*·) 0)) :
 bf P w K mg base c7 3 f fd ["steep","sample","moment"] oX:=by
 refine F.ok Co 0#f 0#b
 ·obtain ⟨p,r,s',q,t,u,m,n,rfl,_⟩:=h
  rfl
 obtain ⟨p,r,s',q,t,u,m,n,rfl,hp,⟨v,hr',hv,zt⟩,zu,hm,hn,k⟩:=h
 refine bI ⟨_,(aI (aU (bY bO hr (aJ K 0#r) (bY dc hr 0#l (bG (bC (aG bP 0#w (aJ K 0#r)) aq)))))),?_⟩
 rw?
 refine aE (mk:=.tup) 0#e fun y H1 s1 n1 e1=>?_
 refine ⟨p,y,s',_,m,n+1,rfl,hp.up s1,sC e1 (zu.sub zt) 0#d,by try?,fun x H2 s2 e2=>?_⟩
 rw?
 refine ⟨v,x,q,_,n,_,rfl,(hv.up (s1.trans s2)).qt,e2,by try?,fun z H3 s3 e3=>?_⟩
 exact k z H3 (s1.trans (s2.trans s3)) (e3.mono 0#d)
theorem Aw:aF ["line","when"] ["line","when"] (ah mR):=0#a
theorem Am (F:cT K "loose_height" "loose_height" mR f fd) (bO:Dn P w K mg base 1 "loose_plus" ["one","other"] (iB (·+·) 1)) (dc:Dn P w K mg base 1 "loose_times" ["one","other"] (iB (·*·) 0)) :
 bf P w K mg base c7 3 f fd ["line","when"] tD:=by
 refine F.ok Aw 0#f 0#b
 ·obtain ⟨p,r,s',h',x,m,n,rfl,_⟩:=h
  rfl
 obtain ⟨p,r,s',h',x,m,n,rfl,⟨a,b,hp,ha,hb⟩,hx,hm,hn,k⟩:=h
 refine bI ⟨_,(aI (aU (bY bO hr (bY dc hr (aJ K 0#l) 0#r) (aJ K 0#l)))),?_⟩
 rw?
 refine ⟨a,r,_,_,n,m,rfl,ha.qt,hx,by try?,fun y H1 s1 e1=>?_⟩
 have hp1:=s1 _ _ hp
 rw?
 refine ⟨y,b,_,_,_,n,rfl,e1,(hb.up s1).qt,by try?,fun z H2 s2 e2=>?_⟩
 exact k z H2 (s1.trans s2) (e2.mono 0#d)
theorem Hg:aF ["line","sample"] ["line","sample"] (ah rT):=0#a
theorem Gw (F:cT K "loose_off" "loose_off" rT f fd) (aS:Dn P w K mg base 1 "loose_minus" ["one","other"] (iB (·-·) 1)) (fL:Dn P w K mg base 3 "loose_height" ["line","when"] tD) :
 bf P w K mg base c7 4 f fd ["line","sample"] MC:=by
 refine F.ok Hg 0#f 0#b
 ·obtain ⟨p,r,s',h',q,t,m,n,rfl,_⟩:=h
  rfl
 obtain ⟨p,r,s',h',q,t,m,n,rfl,hl,⟨v,hr',hv,zt⟩,h1,hm,hn,k⟩:=h
 refine bI ⟨_,(aI (aU (bY aS hr (aJ K 0#r) (bY fL hr 0#l (bG (bC (aJ K 0#r) aq)))))),?_⟩
 rw?
 refine aE (mk:=.tup) 0#e fun y H1 s1 n1 e1=>?_
 refine ⟨p,y,s',h',_,m,n,rfl,hl.up s1,sC e1 zt h1,by try?,by try?,fun x H2 s2 e2=>?_⟩
 rw?
 refine ⟨v,x,q,_,m,_,rfl,(hv.up (s1.trans s2)).qt,e2,by try?,fun z H3 s3 e3=>?_⟩
 exact k z H3 (s1.trans (s2.trans s3)) (e3.mono 0#d)
theorem SY:aF ["one","other"] ["one","other"] (ah G5):=0#a
theorem Sa (F:cT K "slope" "slope" G5 f fd) (gH:Dn P w K mg base 3 "loose_slope" ["one","other"] wz) (bE:Dn P w K mg base 4 "reduced" ["quotient"] fR):bf P w K mg base c7 5 f fd ["one","other"] Hw:=by
 refine F.ok SY 0#f 0#b
 ·obtain ⟨p,r,t,t',q,q',n,rfl,_⟩:=h
  rfl
 obtain ⟨p,r,t,t',q,q',n,rfl,hp,hr',ht,hn,k⟩:=h
 refine bI ⟨_,(aI (aU (Jd.c1 bE hr (bY gH hr 0#l 0#r)))),?_⟩
 rw?
 refine ⟨p,r,t,t',q,q',n,rfl,hp,hr',ht,by try?,fun x H1 s1 e1=>?_⟩
 rw?
 refine ⟨x,_,_,rfl,e1,by try?,fun y H2 s2 e2=>?_⟩
 exact k y H2 (s1.trans s2) e2
theorem Mq:aF ["steep","sample"] ["steep","sample"] (ah yq):=0#a
theorem LJ (F:cT K "line_by" "line_by" yq f fd) (ck:Dn P w K mg base 3 "loose_along" ["steep","sample","moment"] oX) (bE:Dn P w K mg base 4 "reduced" ["quotient"] fR):bf P w K mg base c7 5 f fd ["steep","sample"] wu:=by
 refine F.ok Mq 0#f 0#b
 ·obtain ⟨p,r,s',q,t,m,n,rfl,_⟩:=h
  rfl
 obtain ⟨p,r,s',q,t,m,n,rfl,hp,hr',h1,hn,k⟩:=h
 refine bI ⟨_,(aI (aU (bG (bC 0#l (Jd.c1 bE hr (Jd.c3 ck hr 0#l 0#r aq)))))),?_⟩
 rw?
 refine ⟨p,r,s',q,t,0,m,n,rfl,hp.qt,hr',Uo n,by try?,by try?,fun x H1 s1 e1=>?_⟩
 rw?
 refine ⟨x,_,_,rfl,e1,by try?,fun y H2 s2 e2=>?_⟩
 rw?
 refine aE (mk:=.tup) 0#e fun z H3 s3 n3 e3=>?_
 refine k z y H3 (s1.trans (s2.trans s3)) e3 ?_
 have e:q+s'*((0-t:Int):Rat)=q-s'*(t:Rat):=by
  simp only [qG]
  grind
 rw [e] at e2
 exact e2.up s3
theorem PF:aF ["line","when"] ["line","when"] (ah Ci):=0#a
theorem Po (F:cT K "height" "height" Ci f fd) (fL:Dn P w K mg base 3 "loose_height" ["line","when"] tD) (bE:Dn P w K mg base 4 "reduced" ["quotient"] fR):bf P w K mg base c7 5 f fd ["line","when"] se:=by
 refine F.ok PF 0#f 0#b
 ·obtain ⟨p,r,s',h',x,m,n,rfl,_⟩:=h
  rfl
 obtain ⟨p,r,s',h',x,m,n,rfl,hl,hx,hn,k⟩:=h
 refine bI ⟨_,(aI (aU (Jd.c1 bE hr (bY fL hr 0#l 0#r)))),?_⟩
 rw?
 refine ⟨p,r,s',h',x,m,n,rfl,hl,hx,by try?,by try?,fun y H1 s1 e1=>?_⟩
 rw?
 refine ⟨y,_,_,rfl,e1,hn,fun z H2 s2 e2=>?_⟩
 exact k z H2 (s1.trans s2) e2
theorem NJ:aF ["line","other","when"] ["line","other"] (ah Mi):=0#a
theorem Wj (F:cT K "meet" "meet" Mi f fd) (Ku:Dn P w K mg base 4 "over" ["one","other"] MF) (Ay:Dn P w K mg base 5 "minus" ["one","other"] (qh (·-·) 1)) (iI:Dn P w K mg base 5 "height" ["line","when"] se):bf P w K mg base c7 6 f fd ["line","other"] MD:=by
 refine F.ok NJ 0#f 0#b
 ·obtain ⟨p,r,s',h',s2',h2',n,rfl,_⟩:=h
  rfl
 obtain ⟨p,r,sl,ht,sl',ht',n,rfl,hl,hl',h1,hn,k1,k2⟩:=h
 obtain ⟨a,b,hp,ha,hb⟩:=id hl
 obtain ⟨a',b',Es,ha',hb'⟩:=id hl'
 have aeZ:=hr.units
 refine bI ⟨_,(ao (b9 (bF (aa0 aeZ) (aJ K 0#l) (aJ K 0#r) (aH _)) (aI (aU dH)) cF) (ao (aK 2 NJ.nd (bY Ku hr (bY Ay hr (aJ K 0#r) (aJ K 0#l)) (bY Ay hr (aJ K 0#l) (aJ K 0#r)))) (aI (aU (bG (bC 0#w (bY iI hr 0#l 0#w))))))),?_⟩
 rw?
 obtain ⟨t1,d1,D1,F1⟩:=ha.den
 obtain ⟨t2,d2,D2,F2⟩:=ha'.den
 refine ⟨_,_,D1,D2,rfl,rfl,?_⟩
 rw [aak F1 F2]
 rw?
 refine cE 0#B 0#B
 ·have c':=jM c
  rw?
  exact k1 c' H (au.refl _)
 ·have c':=iH (gY.mpr c)
  rw?
  refine ⟨b',b,_,_,n,n,rfl,hb'.qt,hb.qt,by try?,fun x H1 s1 e1=>?_⟩
  have hp1:=s1 _ _ hp
  have afV:=s1 _ _ Es
  rw?
  refine ⟨a,a',_,_,n,n,rfl,(ha.up s1).qt,(ha'.up s1).qt,by try?,fun y H2 s2 e2=>?_⟩
  rw?
  refine ⟨x,y,_,_,_,_,rfl,(e1.up s2).qt,e2.qt,by try?,by grind,fun z H3 s3 e3=>?_⟩
  rw?
  refine ⟨p,z,_,_,_,_,n,rfl,hl.up (s1.trans (s2.trans s3)),e3.qt,by try?,fun v H4 s4 e4=>?_⟩
  rw?
  refine aE (mk:=.tup) 0#e fun g H5 s5 n5 e5=>?_
  exact k2 c' g z v H5 (s1.trans (s2.trans (s3.trans (s4.trans s5)))) e5 ((e3.up (s4.trans s5)).mono 0#d) ((e4.up s5).mono 0#d)
end
inductive iO (vs:List V) (H:Hp) (Q:VK) (E_:XK):Prop where
 | mk (p r:av) (q q':Rat) (m n:Nat):vs=[.ref p,.ref r]→bS H p q m→bS H r q' n→m+n≤100000→(∀o:Int,(0<o↔q'<q)→(o<0↔q<q')→Q (.int o) H)→iO vs H Q E_
inductive CD (vs:List V) (H:Hp) (Q:VK) (E_:XK):Prop where
 | mk (p1 p2 p3:av) (t1 t2 t3:Int) (q1 q2 q3:Rat) (n:Nat):vs=[.ref p1,.ref p2,.ref p3]→iV H p1 t1 q1 n→iV H p2 t2 q2 n→iV H p3 t3 q3 n→t1<t3→n≤2000→(∀(z:av) (H':Hp),au H H'→bS H' z (q2-cZ t1 q1 t2 t3 q3) (7*n+7)→Q (.ref z) H')→CD vs H Q E_
section
theorem Cr:aF ["one","other","left","right"] ["one","other"] (ah G3):=0#a
theorem R1 (F:cT K "order" "order" G3 f fd):bf P w K mg base c7 1 f fd ["one","other"] iO:=by
 refine F.ok Cr 0#f 0#b
 ·obtain ⟨p,r,q,q',m,n,rfl,_⟩:=h
  rfl
 obtain ⟨p,r,q,q',m,n,rfl,⟨a,b,hp,hq,za,zb⟩,⟨c,d,hr',hq',zc,zd⟩,hn,k⟩:=h
 have l1:=hq.lt_iff hq'
 have l2:=hq'.lt_iff hq
 refine bI ⟨_,(ao (aK 2 Cr.nd (aG aP (aJ K 0#l) (aJ K 0#r))) (ao (aK 3 Cr.nd (aG aP (aJ K 0#r) (aJ K 0#l))) (ao (b9 (bF lD 0#w (aa 3) (aH _)) (aI (aU (eV cW aq))) cF) (ao (b9 (bF dI 0#w (aa 3) (aH _)) (aI (aU aq)) cF) (aI (aU aq)))))),?_⟩
 rw?
 refine fF (bQ za zd 0#d) ?_
 rw?
 refine fF (bQ zc zb 0#d) ?_
 rw?
 refine cE (fun c1=>?_) (fun c1=>?_)
 ·have c':=jM c1
  rw?
  have x1:=l1.mp c'
  exact k _ ⟨fun z=>absurd z 0#i,fun z=>by grind⟩ ⟨fun _=>x1,fun _=>by decide⟩
 ·have c':=iH (gY.mpr c1)
  rw?
  refine cE (fun c2=>?_) (fun c2=>?_)
  ·have c'':=jM c2
   rw?
   have x1:=l2.mp c''
   exact k _ ⟨fun _=>x1,fun _=>by decide⟩ ⟨fun z=>absurd z 0#i,fun z=>by grind⟩
  ·have c'':=iH (gY.mpr c2)
   rw?
   exact k _ ⟨fun z=>absurd z 0#i,fun z=>absurd (l2.mpr z) c''⟩ ⟨fun z=>absurd z 0#i,fun z=>absurd (l1.mpr z) c'⟩
theorem WM:aF ["one"] ["one"] (ah Mn):=0#a
theorem Cp:aF ["one","mid","last"] ["one","mid","last"] (ah oz):=0#a
theorem BQ (F:cT K "loose_stand" "loose_stand" oz f fd) (aS:Dn P w K mg base 1 "loose_minus" ["one","other"] (iB (·-·) 1)) (ck:Dn P w K mg base 3 "loose_along" ["steep","sample","moment"] oX) (gH:Dn P w K mg base 3 "loose_slope" ["one","other"] wz) :
 bf P w K mg base c7 4 f fd ["one","mid","last"] CD:=by
 refine F.ok Cp 0#f 0#b
 ·obtain ⟨p1,p2,p3,t1,t2,t3,q1,q2,q3,n,rfl,_⟩:=h
  rfl
 obtain ⟨p1,p2,p3,t1,t2,t3,q1,q2,q3,n,rfl,h1,h2,h3,ht,hn,k⟩:=h
 obtain ⟨v2,e2,f2,z2⟩:=id h2
 refine bI ⟨_,(aI (aU (bY aS hr (aJ K 0#r) (Jd.c3 ck hr (bY gH hr 0#l 0#w) 0#l (aJ K 0#r))))),?_⟩
 rw?
 refine ⟨p1,p3,t1,t3,q1,q3,n,rfl,h1,h3,by try?,hn,fun x H1 s1 e1=>?_⟩
 have e21:=s1 _ _ e2
 rw?
 refine ⟨x,p1,_,q1,t1,t2,_,n,rfl,e1,h1.up s1,z2,by try?,by try?,fun y H2 s2 e22=>?_⟩
 rw?
 refine ⟨v2,y,q2,_,n,_,rfl,(f2.up (s1.trans s2)).qt,e22,by try?,fun z H3 s3 e3=>?_⟩
 refine k z H3 (s1.trans (s2.trans s3)) ?_
 have hne:(t1:Rat)≠(t3:Rat):=fun z=>by
  have:=J7.mp z
  try?
 have e:q1+(q3-q1)/((t3-t1:Int):Rat)*((t2-t1:Int):Rat)=cZ t1 q1 t2 t3 q3:=by
  rw [qG,qG]
  exact yW hne
 rw [e] at e3
 exact e3.mono 0#d
end
inductive Hv (vs:List V) (H:Hp) (Q:VK) (E_:XK):Prop where
 | mk (p:av) (q:Rat) (n:Nat):vs=[.ref p]→dF H p q n→(∀(r:av) (H':Hp),au H H'→dF H' r (dB q) n→Q (.ref r) H')→Hv vs H Q E_
theorem zD {zs:List Int} (P:Int→Prop) (hz:∀z∈zs,P z) (h0:0≤i) (h1:i<(zs.length:Int)):∃v:Int,pM (zs.map V.int) i=some (.int v)∧P v:=by
 have hk:i.toNat<zs.length:=by try?
 exact ⟨zs[i.toNat],aZ (mX hk) 0#d,hz _ (ER hk)⟩
theorem cj {xs zs:List Int} (hlen:xs.length=zs.length) (hxs:∀(j:Nat) (x z:Int),xs[j]?=some x→zs[j]?=some z→0≤x∧x<z) (j:Nat)  (ez:zs[j]?=some z):∃x,xs[j]?=some x∧0≤x∧x<z:=by
 have hj:=(lR.mp ez).1
 rw [← hlen] at hj
 exact ⟨xs[j],mX hj,hxs j _ z (mX hj) ez⟩
theorem Wh (h:W5 T B t b) (hB:B≠0):Fr t b ((T:Rat)/(B:Rat)):=by
 refine Fr.LC h hB ?_
 have:=cS hB
 grind
theorem lY (h:H p=some (.tup [x,y])) (q:R ((σ.set i (some x)).set j (some y)) H):OR K 2 (qx (iM i) (qx (iM j) OP)) (.ref p) σ H R:=
 ⟨p,_,rfl,tG.of h,rfl,x,_,rfl,y,_,rfl,rfl,q⟩
abbrev En:=av×Int×Option Rat
def nW (H:Hp) (x:En) (n:Nat):Prop:=Sz n x.2.1∧match x.2.2 with
 | none=>H x.1=some (.tup [.int x.2.1,.bM])
 | some q=>∃p,H x.1=some (.tup [.int x.2.1,.ref p])∧dF H p q n
theorem nW.up (f:nW H x n) (s:au H H'):nW H' x n:=by
 obtain ⟨a,m,v⟩:=x
 cases v with
 | none=>exact ⟨f.1,s _ _ f.2⟩
 | some q=>exact ⟨f.1,let ⟨p,e,g⟩:=f.2;⟨p,s _ _ e,g.up s⟩⟩
theorem nW.rm (hD:H D=some (.lst ys)) (f:nW H x n):nW (rm D H) x n:=by
 obtain ⟨a,m,v⟩:=x
 cases v with
 | none=>exact ⟨f.1,d9 hD f.2⟩
 | some q=>
   obtain ⟨z,p,e,t,b,et,g⟩:=f
   exact ⟨z,p,d9 hD e,t,b,d9 hD et,g⟩
theorem nW.obj (f:nW H x n):∃v,H x.1=some (.tup [.int x.2.1,v])∧(decide (v=.bM)=!x.2.2.isSome)∧(v=.bM∨∃p q,v=.ref p∧x.2.2=some q∧dF H p q n):=by
 obtain ⟨a,m,v⟩:=x
 cases v with
 | none=>exact ⟨.bM,f.2,rfl,.inl rfl⟩
 | some q=>
   obtain ⟨z,p,e,g⟩:=f
   exact ⟨.ref p,e,rfl,.inr ⟨p,q,rfl,rfl,g⟩⟩
def Row (H:Hp) (es:List En) (n:Nat):Prop:=∀x∈es,nW H x n
theorem Row.up (h:Row H es n) (s:au H H'):Row H' es n:=fun x hx=>(h x hx).up s
theorem Row.rm (hD:H D=some (.lst ys)) (h:Row H es n):Row (rm D H) es n:=fun x hx=>(h x hx).rm hD
theorem Row.snoc (h:Row H es n) (hx:nW H x n):Row H (es++[x]) n:=fun y hy=>by
 rcases dN.mp hy with z | z
 ·exact h y z
 ·obtain rfl:y=x:=by simpa using z
  exact hx
def vals (es:List En):List V:=es.map fun x=>V.ref x.1
theorem gr {i:Nat} (h:(vals es)[i]?=some v):∃x,es[i]?=some x∧v=.ref x.1:=by
 unfold vals at h
 rw [dm] at h
 cases e:es[i]? with
 | none=>rw [e] at h;cases h
 | some x=>rw [e] at h;cases h;exact ⟨x,rfl,rfl⟩
theorem wK {i:Nat} (h:es[i]?=some x):(vals es)[i]?=some (.ref x.1):=by
 unfold vals
 rw [dm,h]
 rfl
theorem aO (es:List En):(vals es).length=es.length:=gJ ..
theorem fS (es:List En) (x:En):vals es++[.ref x.1]=vals (es++[x]):=by simp [vals]
theorem Row.app (f:Row H es n) (h:H R=some (.lst ys)):Row (upd H R o) es n:=(f.rm h).up (t6 R H o)
theorem V8 (h:H L=some o') (ne:L≠R):upd H R o L=some o':=by
 rw [aM ne];exact h
def rising (es:List En):Prop:=es.Pairwise fun a b=>a.2.1<b.2.1
theorem Ir (hB:0<B) (zT:Sz n T) (zB:Sz n B) (hn:n≤8000) (kk:∀(p:av) (H':Hp),au H H'→dF H' p ((T:Rat)/(B:Rat)) n→Q (.ref p) H'):wA ([.int T,.int B]++[]) H Q E0:=
 ⟨_,_,rfl,hB,zB.mono hn,fun p t b H' s e lo=>kk p H' s ⟨t,b,e,Wh lo 0#d,zT.of_le lo.tb,zB.of_le lo.bb⟩⟩
def dU (x:En):Bool:=x.2.2.isSome
abbrev Ls:=List (av×List En)
def lrefs (ls:Ls):List V:=ls.map fun x=>V.ref x.1
theorem oO {i:Nat} (h:(lrefs ls)[i]?=some v):∃x,ls[i]?=some x∧v=.ref x.1:=by
 unfold lrefs at h
 rw [dm] at h
 cases e:ls[i]? with
 | none=>rw [e] at h;cases h
 | some x=>rw [e] at h;cases h;exact ⟨x,rfl,rfl⟩
theorem dR (ls:Ls):(lrefs ls).length=ls.length:=gJ ..
structure LL (H H2:Hp) (T:av) (ls:Ls):Prop where
 new:H T=none
 at_:H2 T=some (.lst (lrefs ls))
 each:∀x∈ls,H x.1=none∧H2 x.1=some (.lst (vals x.2))∧x.1≠T
 nd:(ls.map (·.1)).Nodup
section
theorem LL.up (h:LL H H2 T ls) (s:au H2 H3):LL H H3 T ls:=⟨h.new,s _ _ h.at_,fun x hx=>let ⟨a,b,c⟩:=h.each x hx;⟨a,s _ _ b,c⟩,h.nd⟩
theorem LL.other (h:LL H H2 T ls) (hT:R≠T) (hl:∀x∈ls,x.1≠R):LL H (upd H2 R o) T ls:=
 ⟨h.new,by rw [aM (jn hT)];exact h.at_,fun x hx=>let ⟨a,b,c⟩:=h.each x hx;⟨a,by rw [aM (hl x hx)];exact b,c⟩,h.nd⟩
theorem LL.push (h:LL H H2 T ls) (hR:H R=none) (eR:H2 R=some (.lst (vals rn))) (hT:R≠T) (hl:∀x∈ls,x.1≠R):LL H (upd H2 T (.lst (lrefs ls++[.ref R]))) T (ls++[(R,rn)]):=by
 refine ⟨h.new,by rw [aA];simp [lrefs],fun x hx=>?_,?_⟩
 ·rcases dN.mp hx with z | z
  ·obtain ⟨a,b,c⟩:=h.each x z
   exact ⟨a,by rw [aM c];exact b,c⟩
  ·obtain rfl:x=(R,rn):=by simpa using z
   exact ⟨hR,by rw [aM hT];exact eR,hT⟩
 ·rw [i9]
  refine Ob.mpr ⟨h.nd,by simp,fun a ha b hb=>?_⟩
  obtain ⟨x,hx,rfl⟩:=gP.mp ha
  obtain rfl:b=R:=by simpa using hb
  exact hl x hx
end
theorem Vi:pM (xs++[x]) (-1)=some x:=by
 unfold pM
 rw [pN (m:=xs.length) 0#e]
 simp
inductive CJ (vs:List V) (H:Hp) (Q:VK) (E_:XK):Prop where
 | mk (l:av) (es:List En) (n:Nat):vs=[.ref l]→H l=some (.lst (vals es))→Row H es n→es.length≤40→(∀(T:av) (ls:Ls) (H':Hp),au H H'→LL H H' T ls→ls.map (·.2)=parts dU es es.length→ls.length≤40→(∀x∈ls,x.2.length≤40)→Q (.ref T) H')→CJ vs H Q E_
section
theorem wc:aF ["row","told","run","entry"] ["row"] (ah Mm):=0#a
theorem Wm (F:cT K "runs" "runs" Mm f fd) (T:Txt mg):bf P w K mg base c7 1 f fd ["row"] CJ:=by
 refine F.ok wc 0#f 0#b
 ·obtain ⟨l,es,n,rfl,_⟩:=h
  rfl
 obtain ⟨l,es,n,rfl,hl,hes,hn,k⟩:=h
 refine bI ⟨_,(ao (aK 1 wc.nd (dg dY)) (ao (aK 2 wc.nd (dg dY)) (ao (dP gF rfl (di K 0#l) (cg (i:=3) wc.nd rfl 0#m) (aI (b9 (bF ir (aJ K (aa 3)) dH (aH _)) (aI (dZ (fZ K 0#w (aa 3)) (hs:=dM))) (aI (b9 (bF dI (gB K T.gc 0#w) aq (aH _)) (ao (dZ (fZ K 0#r 0#w) (hs:=dM)) (aI (aK 2 wc.nd (dg dY)))) cF))))) (ao (b9 (bF dI (gB K T.gc 0#w) aq (aH _)) (aI (dZ (fZ K 0#r 0#w) (hs:=dM))) cF) (aI (aU 0#r)))))),?_⟩
 rw?
 refine aE (mk:=.lst) 0#e fun TT H1 s1 n1 e1=>?_
 rw?
 refine aE (mk:=.lst) 0#e fun R0 H2 s2 n2 e2=>?_
 rw?
 refine eF (iw ?_)
 rw?
 have gD:=s1.trans s2
 refine ⟨l,rfl,⟨_,aX.of (gD _ _ hl)⟩,dW (xs:=vals es) (fun i σ H3=>P5 fun (R:av) (ls:Ls) (rn:List En) (v:Option V)=>σ=[some (.ref l),some (.ref TT),some (.ref R),v]∧au H H3∧LL H H3 TT ls∧H R=none∧H3 R=some (.lst (vals rn))∧R≠TT∧(∀x∈ls,x.1≠R) ∧
  (cy dU es i=true→parts dU es i=ls.map (·.2)++[rn]∧rn≠[])∧(cy dU es i=false→parts dU es i=ls.map (·.2)∧rn=[])∧rn.length≤i∧ls.length≤i∧(∀x∈ls,x.2.length≤40)) ?_ ?_ ?_ ?_⟩
 ·refine ⟨R0,[],[],none,rfl,gD,⟨n1,s2 _ _ e1,fun x hx=>absurd hx 0#e,List.nodup_nil⟩,s1.free n2,e2,fun z=>?_,fun x hx=>absurd hx 0#e,fun z=>absurd z (by simp [cy]),fun _=>⟨rfl,rfl⟩,dz _,dz _,fun x hx=>absurd hx 0#e⟩
  rw [z] at n2
  rw [e1] at n2
  cases n2
 ·rintro i σ H3 _ ⟨R,ls,rn,v,rfl,s3,_⟩
  exact aX.of (s3 _ _ hl)
 ·rintro i x σ H3 hx ⟨R,ls,rn,v,rfl,s3,hL,hR,eR,nR,hne,hp1,hp2,lr,ll,lx⟩
  obtain ⟨e,he,rfl⟩:=gr hx
  have hi:i<es.length:=(lR.mp he).1
  obtain ⟨u,ee,du,_⟩:=((hes e (mY he)).up s3).obj
  have hsu:cy dU es (i+1)=dU e:=iW he
  rw?
  refine ⟨rfl,?_⟩
  rw?
  rw [du]
  cases hs:e.2.2.isSome with
  | true=>
    have hs':dU e=true:=hs
    refine cu ?_
    rw?
    refine ⟨.inl ⟨rfl,_,aX.of eR⟩,?_⟩
    rw?
    refine cz eR (by rw [aO];exact aN 0#d) ?_
    refine ⟨R,ls,rn++[e],_,rfl,aY s3 hR,hL.other nR (fun x hx=>hne x hx),hR,by rw [aA,fS],nR,hne,fun _=>?_,fun z=>absurd (hsu.symm.trans z) (by rw [hs'];decide),by rw [fq];exact HU lr,by try?,lx⟩
    refine ⟨?_,by simp⟩
    cases BB:cy dU es i with
    | true=>exact jx he hs' BB (hp1 BB).1
    | false=>
      obtain ⟨a,rfl⟩:=hp2 BB
      rw [iu he hs' BB,a]
      rfl
  | false=>
    have hs':dU e=false:=hs
    refine bU ?_
    rw?
    refine cP (.inl (aX.of eR)) ?_
    rw?
    refine cE 0#B 0#B
    ·have c':=jM c
     rw [aO] at c'
     have BB:cy dU es i=true:=by
      cases BB:cy dU es i with
      | true=>rfl
      | false=>
        obtain ⟨_,rfl⟩:=hp2 BB
        simp at c'
     rw?
     refine ⟨.inl ⟨rfl,_,aX.of hL.at_⟩,?_⟩
     rw?
     refine cz hL.at_ (by rw [dR];exact aN 0#d) ?_
     rw?
     have hL2:=hL.push hR eR nR hne
     refine aE (mk:=.lst) 0#e fun R2 H4 s4 n4 e4=>?_
     have sH:au H H4:=(aY s3 hL.new).trans s4
     rw?
     refine ⟨R2,ls++[(R,rn)],[],_,rfl,sH,hL2.up s4,(aY s3 hL.new).free n4,e4,fun z=>?_,fun x hx z=>?_,fun z=>absurd (hsu.symm.trans z) (by rw [hs'];decide),fun _=>⟨?_,rfl⟩,mW _,by rw [fq];exact HU ll,fun x hx=>?_⟩
     ·rw [z,hL2.at_] at n4
      cases n4
     ·rw [← z,(hL2.each x hx).2.1] at n4
      cases n4
     ·rw [jh he hs',(hp1 BB).1,i9]
      rfl
     ·rcases dN.mp hx with z | z
      ·exact lx x z
      ·obtain rfl:x=(R,rn):=by simpa using z
       show rn.length≤40
       try?
    ·have c':=iH (gY.mpr c)
     rw [aO] at c'
     have BB:cy dU es i=false:=by
      cases BB:cy dU es i with
      | false=>rfl
      | true=>
        have:=HP.mpr (hp1 BB).2
        try?
     obtain ⟨a,rfl⟩:=hp2 BB
     rw?
     exact ⟨R,ls,[],_,rfl,s3,hL,hR,eR,nR,hne,fun z=>absurd (hsu.symm.trans z) (by rw [hs'];decide),fun _=>⟨by rw [jh he hs',a],rfl⟩,mW _,by try?,lx⟩
 ·rintro σ H3 ⟨R,ls,rn,v,rfl,s3,hL,hR,eR,nR,hne,hp1,hp2,lr,ll,lx⟩
  rw [aO] at hp1 hp2 lr ll
  rw?
  refine cP (.inl (aX.of eR)) ?_
  rw?
  refine cE 0#B 0#B
  ·have c':=jM c
   rw [aO] at c'
   have BB:cy dU es es.length=true:=by
    cases BB:cy dU es es.length with
    | true=>rfl
    | false=>
      obtain ⟨_,rfl⟩:=hp2 BB
      simp at c'
   have hlen:(ls++[(R,rn)]).length≤40:=by
    have e:=sU (s:=dU) (es:=es) es.length
    rw [(hp1 BB).1,fq,gJ] at e
    rw [fq]
    simp at e ⊢
    try?
   rw?
   refine ⟨.inl ⟨rfl,_,aX.of hL.at_⟩,?_⟩
   rw?
   refine cz hL.at_ (by rw [dR];exact aN 0#d) ?_
   rw?
   refine k TT (ls++[(R,rn)]) _ (aY s3 hL.new) (hL.push hR eR nR hne) ?_ hlen fun x hx=>?_
   ·rw [(hp1 BB).1,i9]
    rfl
   ·rcases dN.mp hx with z | z
    ·exact lx x z
    ·obtain rfl:x=(R,rn):=by simpa using z
     show rn.length≤40
     try?
  ·have c':=iH (gY.mpr c)
   rw [aO] at c'
   have BB:cy dU es es.length=false:=by
    cases BB:cy dU es es.length with
    | false=>rfl
    | true=>
      have:=HP.mpr (hp1 BB).2
      try?
   rw?
   exact k TT ls H3 s3 hL (hp2 BB).1.symm 0#d lx
end
abbrev Nn:=av×Int×Option Int
def nnv:Option Int→V
 | none=>.bM
 | some n=>.int n
def zZ (H:Hp) (x:Nn) (m n:Nat):Prop:=H x.1=some (.tup [.int x.2.1,nnv x.2.2])∧Sz m x.2.1∧∀z,x.2.2=some z→Sz n z
theorem zZ.up (f:zZ H x m n) (s:au H H'):zZ H' x m n:=⟨s _ _ f.1,f.2⟩
theorem zZ.rm (hD:H D=some (.lst ys)) (f:zZ H x m n):zZ (rm D H) x m n:=⟨d9 hD f.1,f.2⟩
def ic (H:Hp) (es:List Nn) (m n:Nat):Prop:=∀x∈es,zZ H x m n
theorem ic.up (h:ic H es m n) (s:au H H'):ic H' es m n:=fun x hx=>(h x hx).up s
theorem ic.app (f:ic H es m n) (h:H R=some (.lst ys)):ic (upd H R o) es m n:=fun x hx=>((f x hx).rm h).up (t6 R H o)
theorem ic.snoc (h:ic H es m n) (hx:zZ H x m n):ic H (es++[x]) m n:=fun y hy=>by
 rcases dN.mp hy with z | z
 ·exact h y z
 ·obtain rfl:y=x:=by simpa using z
  exact hx
def bJ (es:List Nn):List V:=es.map fun x=>V.ref x.1
theorem bA (es:List Nn):(bJ es).length=es.length:=gJ ..
theorem gn (es:List Nn) (x:Nn):bJ es++[.ref x.1]=bJ (es++[x]):=by simp [bJ]
theorem oQ {i:Nat} (h:(bJ es)[i]?=some v):∃x,es[i]?=some x∧v=.ref x.1:=by
 unfold bJ at h
 rw [dm] at h
 cases e:es[i]? with
 | none=>rw [e] at h;cases h
 | some x=>rw [e] at h;cases h;exact ⟨x,rfl,rfl⟩
def dO (es:List Nn):Prop:=es.Pairwise fun a b=>a.2.1<b.2.1
structure Shp (xs:List Int) (c:Nat):Prop where
 x0:xs[0]?=some (c:Int)
 x1:∃x,xs[1]?=some x∧0≤x∧x<4
 x4:∃x,xs[4]?=some x∧0≤x∧x<3
 x5:∃x,xs[5]?=some x∧0≤x∧x<4
 x12:∃x,xs[12]?=some x∧0≤x∧x<3
 each:∀k,k<c→∃x y z,xs[3*k+13]?=some x∧xs[3*k+14]?=some y∧xs[3*k+15]?=some z∧0≤x∧x<3∧0≤y∧y<9∧0≤z∧z<25
inductive CK (vs:List V) (H:Hp) (Q:VK) (E_:XK):Prop where
 | mk (lw tl:av) (xs:List Int) (c:Nat) (sc t0 t1:Int):vs=[.ref lw,.int sc,.ref tl]→H lw=some (.lst (xs.map V.int))→Shp xs c→c≤40→H tl=some (.tup [.int t0,.int t1])→Sz 45 sc→Sz 45 t0→Sz 45 t1→(∀(R:av) (es:List Nn) (H':Hp),au H H'→H R=none→H' R=some (.lst (bJ es))→ic H' es 45 100→es.length=c→dO es→Q (.ref R) H')→CK vs H Q E_
section
theorem bT:aF ["_law_some","_law_scale","_law_tilt","_law_moment_here","_law_up","_law_rise","_law_row_here","_law_k","_law_at","_law_high","_law_lean"] ["_law_some","_law_scale","_law_tilt"] (ah qd):=0#a
theorem DQ (F:cT K "_law_shaped" "_law_shaped" qd f fd) (T:Txt mg):bf P w K mg base c7 1 f fd ["_law_some","_law_scale","_law_tilt"] CK:=by
 refine F.ok bT 0#f 0#b
 ·obtain ⟨lw,tl,xs,c,sc,t0,t1,rfl,_⟩:=h
  rfl
 obtain ⟨lw,tl,xs,c,sc,t0,t1,rfl,e0,S,hc,et,U9,zt0,zt1,k⟩:=h
 obtain ⟨x1,g1,a1,b1⟩:=S.x1
 obtain ⟨x4,g4,a4,b4⟩:=S.x4
 obtain ⟨x5,g5,a5,b5⟩:=S.x5
 obtain ⟨x12,g12,a12,b12⟩:=S.x12
 have w:∀{H':Hp},au H H'→H' lw=some (.lst (xs.map V.int)):=fun s=>s _ _ e0
 refine bI ⟨_,(ao (aK 3 bT.nd (bD (fK K) (dg (Jd.a4 (eV cW aq) (eV cW aq) aq (eV cW (aG pS aq aq)))) (Jd.iL K 0#l) 0#h)) (ao (aK 4 bT.nd aq) (ao (aK 5 bT.nd aq) (ao (aK 6 bT.nd (dg dY)) (ao (dP gF rfl (zj rfl T.range (dG (Jd.iL K 0#l))) (cg (i:=7) bT.nd rfl 0#m) (ao (aK 8 bT.nd (aG aV (aG aP aq (aa 7)) aq)) (ao (aK 3 bT.nd (aG aV (aG aV (aa 3) aq) (aG aP (bD (fK K) 0#l (aa 8) 0#h) (bD (fK K) (dg (Jd.a3 aq aq aq)) (Jd.iL K 0#l) 0#h)))) (ao (aK 9 bT.nd (aG bP (bD (fK K) 0#l (aG aV (aa 8) aq) 0#h) aq)) (ao (b9 (bF d7 (Jd.iL K 0#l) aq (aH _)) (aI (aK 4 bT.nd (aa 9))) cF) (ao (b9 (bF d7 (Jd.iL K 0#l) aq (aH _)) (ao (aK 5 bT.nd (aG bP (aG aV (aa 5) (aG gI (aa 9) aq)) aq)) (aI (aK 4 bT.nd (aG aV (aa 4) (aa 5))))) cF) (ao (b9 (bF d7 (Jd.iL K 0#l) aq (aH _)) (aI (aK 4 bT.nd (aG aV (aa 4) (aa 9)))) cF) (ao (b9 (bF d7 (Jd.iL K 0#l) aq (aH _)) (aI (aK 4 bT.nd (aG gI (aa 9) aq))) cF) (aI (b9 (bF lD (bD (fK K) 0#l (aG aV (aa 8) aq) 0#h) (bD (fK K) (dg (Jd.a3 aq aq aq)) (Jd.iL K 0#l) 0#h) (aH _)) (aI (dZ (fZ K (aa 6) (bG (bC (aa 3) dH))) (hs:=dM))) (ao (aK 10 bT.nd (aG aV (aG aP (aJ K 0#w) (aa 3)) (aJ K 0#w))) (aI (dZ (fZ K (aa 6) (bG (bC (aa 3) (aG aV (aG aP (aa 4) 0#r) (aa 10))))) (hs:=dM)))))))))))))) (aI (aU (aa 6)))))))),?_⟩
 rw?
 refine aE (mk:=.lst) 0#e fun l1 H1 s1 n1 e1=>?_
 rw?
 refine cA (w s1) (aZ g1 rfl) ?_
 obtain ⟨mo,emo,zmo⟩:=zD (zs:=[-1,-5,1000003,-(10 ^ (12:Int).toNat)]) (fun z=>z.natAbs≤10 ^ 12) 0#g a1 b1
 refine cA e1 emo ?_
 rw?
 refine aE (mk:=.lst) 0#e fun R H2 s2 n2 e2=>?_
 have gD:=s1.trans s2
 rw?
 refine eF (uO ?_)
 rw?
 refine cA (w gD) (aZ S.x0 rfl) ?_
 rw?
 refine ⟨c,rfl,by lia,by lia,cX (fun j σ H3=>Xs8 fun (m up rise:Int) (es:List Nn) (v7 v8 v9 v10:Option V)=>σ=[some (.ref lw),some (.int sc),some (.ref tl),some (.int m),some (.int up),some (.int rise),some (.ref R),v7,v8,v9,v10] ∧
  au H1 H3∧H3 R=some (.lst (bJ es))∧ic H3 es 45 100∧es.length=j∧m.natAbs≤10 ^ 12+3000*j∧rise.natAbs≤3*j∧up.natAbs≤130*j+12∧dO es∧∀x∈es,x.2.1≤m) ?_ ?_ ?_⟩
 ·exact ⟨mo,0,0,[],none,none,none,none,rfl,s2,e2,fun x hx=>absurd hx 0#e,rfl,by simpa using zmo,by decide,by decide,List.Pairwise.nil,fun x hx=>absurd hx 0#e⟩
 ·rintro j σ H3 hj ⟨m,up,rise,es,v7,v8,v9,v10,rfl,s3,e3,hes,hl,hm,dX,hup,hrs,hle⟩
  have hj':j<c:=by simpa using hj
  obtain ⟨x,y,z,gx,gy,gz,ax,bx,ay,E9,az,bz⟩:=S.each j hj'
  have xr:=s1.trans s3
  have w3:=w xr
  rw?
  refine cA w3 (aZ gx 0#d) ?_
  rw?
  refine aE (mk:=.lst) 0#e fun l4 H4 s4 n4 e4=>?_
  rw?
  refine cA (s4 _ _ w3) (aZ g4 rfl) ?_
  obtain ⟨wd,ewd,zwd⟩:=zD (zs:=[1,1,1009]) (fun z=>1≤z∧z≤1009) 0#g a4 b4
  refine cA e4 ewd ?_
  rw?
  refine fF (mulL 0#d 0#d) ?_
  have p5:0≤x*wd:=oG ax 0#d
  have q5:x*wd≤2*1009:=C2 0#d zwd.2 0#d 0#d
  generalize x*wd=st at p5 q5 ⊢
  have ten:(10:Nat) ^ 12+3000*41<2 ^ 44:=by decide +kernel
  have bm:(m+1+st).natAbs≤10 ^ 12+3000*(j+1):=by
   rw [Zk]
   exact nab hm (afd p5 q5) (by lia)
  have zm:Sz 44 (m+1+st):=D5 bm (by lia)
  have w4:=s4 _ _ w3
  rw?
  refine cA w4 (aZ gz 0#d) ?_
  have afQ:j<40:=by try?
  have SN:=s3.trans s4
    -- the row's next entry
  have fin:∀(u:Nn) (H5:Hp) (up' zG:Int) (v7 v8 v9 v10:Option V),u.2.1=m+1+st→au H4 H5→zZ H5 u 45 100→zG.natAbs≤3*(j+1)→up'.natAbs≤130*(j+1)+12 →
   Xs8 fun (m' JQ XC:Int) (es':List Nn) (v7' v8' v9' afH:Option V)=>[some (.ref lw),some (.int sc),some (.ref tl),some (.int (m+1+st)),some (.int up'),some (.int zG),some (.ref R),v7,v8,v9,v10]=[some (.ref lw),some (.int sc),some (.ref tl),some (.int m'),some (.int JQ),some (.int XC),some (.ref R),v7',v8',v9',afH] ∧
    au H1 (upd H5 R (.lst (bJ es++[.ref u.1])))∧upd H5 R (.lst (bJ es++[.ref u.1])) R=some (.lst (bJ es'))∧ic (upd H5 R (.lst (bJ es++[.ref u.1]))) es' 45 100∧es'.length=j+1∧m'.natAbs≤10 ^ 12+3000*(j+1)∧XC.natAbs≤3*(j+1)∧JQ.natAbs≤130*(j+1)+12∧dO es'∧∀x∈es',x.2.1≤m':=by
   intro u H5 up' zG v7 v8 v9 v10 hu s5 f5 h1 h2
   have PD:=s4.trans s5
   have eR:=PD _ _ e3
   refine ⟨m+1+st,up',zG,es++[u],v7,v8,v9,v10,rfl,aY (s3.trans PD) n2,by rw [aA,gn],((hes.up PD).snoc f5).app eR,by rw [fq,hl];rfl,bm,h1,h2,?_,fun y hy=>?_⟩
   ·refine N3.mpr ⟨hrs,NU _ _,fun y hy z hz=>?_⟩
    obtain rfl:z=u:=by simpa using hz
    have:=hle y hy
    try?
   ·rcases dN.mp hy with z | z
    ·have:=hle y z
     try?
    ·obtain rfl:y=u:=by simpa using z
     try?
  obtain ⟨th,eth,zth⟩:=zD (zs:=[0,1,3]) (fun z=>0≤z) 0#g a12 b12
  have et4:=(xr.trans s4) _ _ et
  have m5a:0≤(z-12) % 5:=yQ _ 0#i
  have m5b:(z-12) % 5<5:=wY _ 0#i
  have m3a:0≤(z-12) % 3:=yQ _ 0#i
  have m3b:(z-12) % 3<3:=wY _ 0#i
  refine r_c ?_
  refine ac3 ?_
  refine r_g ?_
  refine Nx ?_
  refine JF (fun σ' H'=>H'=H4∧Qq fun up' zG:Int=>σ'=[some (.ref lw),some (.int sc),some (.ref tl),some (.int (m+1+st)),some (.int up'),some (.int zG),some (.ref R),some (.int (0+(j:Int))),some (.int (3*(0+(j:Int))+13)),some (.int (z-12)),v10]∧zG.natAbs≤3*(j+1)∧up'.natAbs≤130*(j+1)+12) (fun σ' H' hP=>?_) (fun N rest=>?_)
  rotate_left
  ·rw?
   refine cA w4 (aZ g5 rfl) ?_
   rw?
   rcases (show x5=0∨x5=1∨x5=2∨x5=3 by try?) with rfl | rfl | rfl | rfl
   ·refine cu ?_
    rw?
    refine cA w4 (aZ g5 rfl) ?_
    rw?
    refine bU ?_
    rw?
    refine cA w4 (aZ g5 rfl) ?_
    rw?
    refine bU ?_
    rw?
    refine cA w4 (aZ g5 rfl) ?_
    rw?
    refine bU ?_
    rw?
    exact rest _ _ ⟨rfl,_,_,rfl,eE dX (by lia),eE (acP az bz) (by lia)⟩
   ·refine bU ?_
    rw?
    refine cA w4 (aZ g5 rfl) ?_
    rw?
    refine cu ?_
    rw?
    refine cA w4 (aZ g5 rfl) ?_
    rw?
    refine bU ?_
    rw?
    refine cA w4 (aZ g5 rfl) ?_
    rw?
    refine bU ?_
    rw?
    have r1:(rise+(z-12) % 5-1).natAbs≤3*(j+1):=by
     rw [Int.add_sub_assoc]
     exact nab dX (afc m5a m5b) (by lia)
    exact rest _ _ ⟨rfl,_,_,rfl,r1,nab hup r1 (by lia)⟩
   ·refine bU ?_
    rw?
    refine cA w4 (aZ g5 rfl) ?_
    rw?
    refine bU ?_
    rw?
    refine cA w4 (aZ g5 rfl) ?_
    rw?
    refine cu ?_
    rw?
    refine cA w4 (aZ g5 rfl) ?_
    rw?
    refine bU ?_
    rw?
    exact rest _ _ ⟨rfl,_,_,rfl,eE dX (by lia),nab hup (acP az bz) (by lia)⟩
   ·refine bU ?_
    rw?
    refine cA w4 (aZ g5 rfl) ?_
    rw?
    refine bU ?_
    rw?
    refine cA w4 (aZ g5 rfl) ?_
    rw?
    refine bU ?_
    rw?
    refine cA w4 (aZ g5 rfl) ?_
    rw?
    refine cu ?_
    rw?
    exact rest _ _ ⟨rfl,_,_,rfl,eE dX (by lia),eE (afb m3a m3b) (by lia)⟩
  obtain ⟨rfl,up',zG,rfl,br,bu⟩:=hP
  rw?
  refine cA w4 (aZ gy 0#d) ?_
  rw?
  refine aE (mk:=.lst) 0#e fun l6 H6 s6 n6 e6=>?_
  rw?
  refine cA (s6 _ _ w4) (aZ g12 rfl) ?_
  refine cA e6 eth ?_
  rw?
  have e36:=s6 _ _ (s4 _ _ e3)
  refine cE 0#B 0#B
  ·rw?
   refine ⟨.inl ⟨rfl,_,aX.of e36⟩,?_⟩
   rw?
   refine aE (mk:=.tup) 0#e fun pe H7 s7 n7 e7=>?_
   rw?
   refine cz (s7 _ _ e36) (by rw [bA];exact aN 0#d) ?_
   exact fin (pe,m+1+st,none) H7 _ _ _ _ _ _ rfl (s6.trans s7) ⟨e7,zm.mono 0#i,fun z q=>by cases q⟩ br bu
  ·have et6:=s6 _ _ et4
   rw?
   refine fF (bQ zt0 zm) ?_
   rw?
   refine ⟨.inl ⟨rfl,_,aX.of e36⟩,?_⟩
   rw?
   have zu:Sz 14 up':=show up'.natAbs<2 ^ 14 by try?
   refine fF (bQ zu U9) ?_
   rw?
   refine aE (mk:=.tup) 0#e fun pe H7 s7 n7 e7=>?_
   rw?
   refine cz (s7 _ _ e36) (by rw [bA];exact aN 0#d) ?_
   exact fin (pe,m+1+st,some _) H7 _ _ _ _ _ _ rfl (s6.trans s7) ⟨e7,zm.mono 0#i,fun z q=>by
    cases q
    exact (((zu.mul U9).mono (show 14+45≤90 by decide)).add (((zt0.mul zm).mono (show 45+44≤89 by decide)).add (zt1.mono 0#i))).mono 0#i⟩ br bu
 ·rintro σ H3 ⟨m,up,rise,es,v7,v8,v9,v10,rfl,s3,e3,hes,hl,hm,dX,hup,hrs,hle⟩
  rw?
  exact k R es H3 (s1.trans s3) (s1.free n2) e3 hes (by simpa using hl) hrs
inductive AQ (vs:List V) (H:Hp) (Q:VK) (E_:XK):Prop where
 | mk (l:av) (es:List Nn) (b:Int) (n nb:Nat):vs=[.ref l,.int b]→H l=some (.lst (bJ es))→ic H es 45 n→es.length≤40→Sz nb b→n+nb≤8000→(∀(R:av) (es':List Nn) (H':Hp),au H H'→H R=none→H' R=some (.lst (bJ es'))→ic H' es' 45 (n+nb)→es'.map (·.2)=es.map (fun x=>(x.2.1,x.2.2.map (·*b)))→Q (.ref R) H')→AQ vs H Q E_
theorem lO:aF ["_law_row_here","_law_by","_law_some","_law_moment_here","_law_number"] ["_law_row_here","_law_by"] (ah rQ):=0#a
theorem Gs (F:cT K "_law_times" "_law_times" rQ f fd):bf P w K mg base c7 1 f fd ["_law_row_here","_law_by"] AQ:=by
 refine F.ok lO 0#f 0#b
 ·obtain ⟨l,es,b,n,nb,rfl,_⟩:=h
  rfl
 obtain ⟨l,es,b,n,nb,rfl,hl,hes,lI,zb,hn,k⟩:=h
 refine bI ⟨_,(ao (aK 2 lO.nd (dg dY)) (ao (dP gF rfl (di K 0#l) (Jd.Qf K (n:=2) rfl (gM (cg (i:=3) lO.nd rfl 0#m) (gM (cg (i:=4) lO.nd rfl 0#m) qZ))) (aI (b9 (bF uM (aa 4) dH (aH _)) (aI (dZ (fZ K 0#w (bG (bC (aa 3) dH))) (hs:=dM))) (aI (dZ (fZ K 0#w (bG (bC (aa 3) (aG aP (aa 4) 0#r)))) (hs:=dM)))))) (aI (aU 0#w)))),?_⟩
 rw?
 refine aE (mk:=.lst) 0#e fun R H1 s1 n1 e1=>?_
 rw?
 refine eF (iw ?_)
 rw?
 refine ⟨l,rfl,⟨_,aX.of (s1 _ _ hl)⟩,dW (xs:=bJ es) (fun i σ H3=>MV fun (es':List Nn) (v3 v4:Option V)=>σ=[some (.ref l),some (.int b),some (.ref R),v3,v4]∧au H H3∧H3 R=some (.lst (bJ es'))∧ic H3 es' 45 (n+nb)∧es'.length=i∧es'.map (·.2)=(es.take i).map (fun x=>(x.2.1,x.2.2.map (·*b)))) ?_ ?_ ?_ ?_⟩
 ·exact ⟨[],none,none,rfl,s1,e1,fun x hx=>absurd hx 0#e,rfl,rfl⟩
 ·rintro i σ H3 _ ⟨es',v3,v4,rfl,s3,_⟩
  exact aX.of (s3 _ _ hl)
 ·rintro i x σ H3 hx ⟨es',v3,v4,rfl,s3,e3,K6,hl',hmap⟩
  obtain ⟨e,he,rfl⟩:=oQ hx
  have hi:i<es.length:=(lR.mp he).1
  have fe:=(hes e (mY he)).up s3
  have tk:es.take (i+1)=es.take i++[e]:=by rw [qF,he];rfl
  have fin:∀(y:av) (H4:Hp) (v3 v4:Option V),au H3 H4→zZ H4 (y,e.2.1,e.2.2.map (·*b)) 45 (n+nb)→MV fun (Fl:List Nn) (v3' v4':Option V)=>[some (.ref l),some (.int b),some (.ref R),v3,v4]=[some (.ref l),some (.int b),some (.ref R),v3',v4'] ∧
   au H (upd H4 R (.lst (bJ es'++[.ref y])))∧upd H4 R (.lst (bJ es'++[.ref y])) R=some (.lst (bJ Fl))∧ic (upd H4 R (.lst (bJ es'++[.ref y]))) Fl 45 (n+nb)∧Fl.length=i+1∧Fl.map (·.2)=(es.take (i+1)).map (fun x=>(x.2.1,x.2.2.map (·*b))):=by
   intro y H4 v3 v4 s4 f4
   have e4:=s4 _ _ e3
   refine ⟨es'++[(y,e.2.1,e.2.2.map (·*b))],v3,v4,rfl,aY (s3.trans s4) n1,by rw [aA];exact congrArg (fun z=>some (HO.lst z)) (gn es' (y,e.2.1,e.2.2.map (·*b))),((K6.up s4).snoc f4).app e4,by rw [fq,hl'];rfl,?_⟩
   rw [tk,i9,i9,hmap]
   rfl
  obtain ⟨a,m,v⟩:=e
  cases v with
  | none=>
    refine lY fe.1 ?_
    rw?
    refine ⟨rfl,?_⟩
    rw?
    refine cu ?_
    rw?
    refine ⟨.inl ⟨rfl,_,aX.of e3⟩,?_⟩
    rw?
    refine aE (mk:=.tup) 0#e fun y H4 s4 n4 e4=>?_
    rw?
    refine cz (s4 _ _ e3) (by rw [bA];exact aN 0#d) ?_
    exact fin y H4 _ _ s4 ⟨e4,fe.2.1,fun z q=>by cases q⟩
  | some z=>
    have zz:=fe.2.2 z rfl
    refine lY fe.1 ?_
    rw?
    refine ⟨rfl,?_⟩
    rw?
    refine bU ?_
    rw?
    refine ⟨.inl ⟨rfl,_,aX.of e3⟩,?_⟩
    rw?
    refine fF (bQ zz zb 0#d) ?_
    rw?
    refine aE (mk:=.tup) 0#e fun y H4 s4 n4 e4=>?_
    rw?
    refine cz (s4 _ _ e3) (by rw [bA];exact aN 0#d) ?_
    exact fin y H4 _ _ s4 ⟨e4,fe.2.1,fun z' q=>by
     cases q
     exact zz.mul zb⟩
 ·rintro σ H3 ⟨es',v3,v4,rfl,s3,e3,K6,hl',hmap⟩
  rw [bA,jH] at hmap
  rw?
  exact k R es' H3 s3 n1 e3 K6 hmap
end
def vL (x:Nn):Bool:=x.2.2.isSome
theorem Ph {i:Nat} (h:es[i]?=some x):(bJ es)[i]?=some (.ref x.1):=by
 unfold bJ
 rw [dm,h]
 rfl
theorem jw {i:Nat} (h:es[i]?=some x) (hj:j=(i:Int)):pM (bJ es) j=some (.ref x.1):=by
 subst hj
 exact gK (Ph h)
theorem Bf (h0:0≤i) (h1:i<(es.length:Int)):∃x,x∈es∧es[i.toNat]?=some x∧pM (bJ es) i=some (.ref x.1):=by
 have hk:i.toNat<es.length:=by try?
 exact ⟨es[i.toNat],ER hk,mX hk,jw (mX hk) 0#d⟩
theorem BI (h:es'.map (fun x=>x.2.1)=es.map (fun x=>x.2.1)) (hr:dO es):dO es':=by
 have k:(es.map fun x=>x.2.1).Pairwise (·<·):=Oc.mpr hr
 rw [← h] at k
 exact Oc.mp k
theorem BJ (h:vL x=true):∃z,x.2.2=some z:=NQ.mp h
def QN (m:Nat):List Int:=[(m:Int)+1,4,5,12,3,4,7,3,40,40,40,4,3]++(kB m [3,9,25]).flatten
theorem SH (m:Nat) (xs:List Int):(kB m (xs.map V.int)).flatten=((kB m xs).flatten).map V.int:=by
 induction m with
 | zero=>rfl
 | succ m ih=>rw [HM,HS,ih,HM,HS,i9]
theorem JA {xs:List Int} (hn:xs.length=n):∀{m k j:Nat},k<m→j<n→(kB m xs).flatten[n*k+j]?=xs[j]?
 | 0,_,_,hk,_=>absurd hk (D7 _)
 | m+1,0,j,_,hj=>by
   rw [HM,HS,Nat.mul_zero,Zu,wX 0#d]
 | m+1,k+1,j,hk,hj=>by
   have e:n*(k+1)+j=n+(n*k+j):=by rw [Nat.mul_add];try?
   rw [HM,HS,e,yO 0#d,hn,T3]
   exact JA hn 0#d hj
theorem Vv (m:Nat):[V.int ((m:Int)+1),.int 4,.int 5,.int 12,.int 3,.int 4,.int 7,.int 3,.int 40,.int 40,.int 40,.int 4,.int 3]++(kB m [V.int 3,.int 9,.int 25]).flatten=(QN m).map V.int:=by
 unfold QN
 rw [i9,← SH]
 rfl
theorem Vu (m:Nat):(QN m).length=13+3*m:=by
 unfold QN
 rw [fq,List.length_flatten,List.map_replicate,List.sum_replicate_nat]
 simp
 try?
theorem Vw (hm:m≤40):∀z∈QN m,0<z∧z<2 ^ 60:=by
 intro z hz
 unfold QN at hz
 rcases dN.mp hz with h | h
 ·simp at h
  try?
 ·obtain ⟨l,hl,hzl⟩:=List.mem_flatten.mp h
  rw [(List.mem_replicate.mp hl).2] at hzl
  simp at hzl
  try?
theorem KD (hk:k<m) (hj:j<3):(QN m)[3*k+(13+j)]?=[(3:Int),9,25][j]?:=by
 unfold QN
 rw [yO (by simp;try?)]
 have e:3*k+(13+j)-[(m:Int)+1,4,5,12,3,4,7,3,40,40,40,4,3].length=3*k+j:=by simp;try?
 rw [e]
 exact JA rfl hk hj
theorem Vx (hlen:xs.length=(QN m).length) (hxs:∀(j:Nat) (x z:Int),xs[j]?=some x→(QN m)[j]?=some z→0≤x∧x<z):∃c,c≤m∧Shp xs c:=by
 obtain ⟨x0,g0,a0,b0⟩:=cj hlen hxs 0 (z:=(m:Int)+1) rfl
 refine ⟨x0.toNat,by try?,⟨by rw [g0];congr 1;try?,cj hlen hxs 1 rfl,cj hlen hxs 4 rfl,cj hlen hxs 5 rfl,cj hlen hxs 12 rfl,fun k hk=>?_⟩⟩
 have hk':k<m:=by try?
 obtain ⟨x,gx,ax,bx⟩:=cj hlen hxs _ (z:=3) ((KD hk' (j:=0) 0#i).trans rfl)
 obtain ⟨y,gy,ay,E9⟩:=cj hlen hxs _ (z:=9) ((KD hk' (j:=1) 0#i).trans rfl)
 obtain ⟨z,gz,az,bz⟩:=cj hlen hxs _ (z:=25) ((KD hk' (j:=2) 0#i).trans rfl)
 exact ⟨x,y,z,gx,gy,gz,ax,bx,ay,E9,az,bz⟩
inductive CG (vs:List V) (H:Hp) (Q:VK) (E_:XK):Prop where
 | mk (l lw:av) (es:List Nn) (xs:List Int):vs=[.ref l,.ref lw]→H l=some (.lst (bJ es))→H lw=some (.lst (xs.map V.int))→1≤es.length→es.length≤40→(∀k,k<3→∃x,xs[k+8]?=some x)→(∀(R:av) (a b c:Nn) (H':Hp),au H H'→a∈es→b∈es→c∈es→H' R=some (.lst [.ref a.1,.ref b.1,.ref c.1])→Q (.ref R) H')→CG vs H Q E_
inductive Cz (K:bZ) (vs:List V) (H:Hp) (Q:VK) (E_:XK):Prop where
 | mk (a:av) (ns:List Int) (i:Int) (most:Nat) (share:Int):vs=[.ref a,.int i,.int (most:Int),.int share]→aX K H a (ns.map V.int)→0≤i→i<800→most≤40→0≤share→share≤2→(∀(p R:av) (es:List Nn) (b c:Int) (H':Hp),au H H'→H' p=some (.tup [.ref R,.int b,.int c])→H R=none→H' R=some (.lst (bJ es))→ic H' es 45 150→es.length≤most→dO es→1≤b→Sz 80 b→0≤c→Sz 150 c→Q (.ref p) H')→Cz K vs H Q E_
section
theorem kc:aF ["_law_held","_law_some","_law_places","_law_k"] ["_law_held","_law_some"] (ah qc):=0#a
theorem DP (F:cT K "_law_picked" "_law_picked" qc f fd) (T:Txt mg):bf P w K mg base c7 1 f fd ["_law_held","_law_some"] CG:=by
 refine F.ok kc 0#f 0#b
 ·obtain ⟨l,lw,es,xs,rfl,_⟩:=h
  rfl
 obtain ⟨l,lw,es,xs,rfl,hl,hw,h1,lI,hx,k⟩:=h
 refine bI ⟨_,(ao (aK 2 kc.nd (dg dY)) (ao (dP gF rfl (vD rfl T.range (bC aq aq)) (cg (i:=3) kc.nd rfl 0#m) (aI (dZ (fZ K 0#w (aG gI (bD (fK K) 0#r (aa 3) 0#h) (gB K T.gc 0#l))) (hs:=dM)))) (ao (aK 2 kc.nd (fU (WT K) rfl T.WU ad8 (dG 0#w) (he:=bK) (hpl:=cB))) (aI (aU (nh (O:=["_law_at"]) (N':=["_law_held"]) (cap:=[0]) rfl (di K 0#w) (fun _ _ _ _ _=>(cg (i:=0) (show i8 [("_law_at":Str),("_law_held":Str)] by decide +kernel) rfl 0#m)) (fun _ _ _ _ _=>lC) (fun _ _ _ _ _=>(bD (fK K) 0#r 0#l 0#h)) rfl 0#u rfl 0#g rfl 0#g)))))),?_⟩
 rw?
 refine aE (mk:=.lst) 0#e fun pl H1 s1 n1 e1=>?_
 rw?
 refine eF (pV ?_)
 rw?
 refine ⟨8,11,rfl,by decide,cX (n:=3) (fun j σ H3=>Qq fun (ys:List Int) (v:Option V)=>σ=[some (.ref l),some (.ref lw),some (.ref pl),v]∧au H H3∧H3 pl=some (.lst (ys.map V.int))∧ys.length=j∧∀y∈ys,0≤y∧y<(es.length:Int)) ?_ ?_ ?_⟩
 ·exact ⟨[],none,rfl,s1,e1,rfl,fun y hy=>absurd hy 0#e⟩
 ·rintro j σ H3 hj ⟨ys,v,rfl,s3,e3,hy,hys⟩
  obtain ⟨x,gx⟩:=hx j hj
  rw?
  refine ⟨.inl ⟨rfl,_,aX.of e3⟩,?_⟩
  rw?
  refine cA (s3 _ _ hw) (aZ gx 0#d) ?_
  rw?
  refine cP (.inl (aX.of (s3 _ _ hl))) ?_
  rw [bA]
  refine fF (show (0:Int)<_ by try?) ?_
  rw?
  refine cz e3 (by rw [gJ];exact aN 0#d) ?_
  refine ⟨ys++[x % (es.length:Int)],_,rfl,aY s3 n1,by rw [aA,i9];rfl,by rw [fq,hy];rfl,fun y hy=>?_⟩
  rcases dN.mp hy with z | z
  ·exact hys y z
  ·obtain rfl:y=x % (es.length:Int):=by simpa using z
   exact ⟨yQ _ 0#d,wY _ 0#d⟩
 ·rintro σ H3 ⟨ys,v,rfl,s3,e3,hy,hys⟩
  rw?
  refine SE (aX.of e3) 0#d fun p ns' H4 s4 n4 e4 hp hs=>?_
  rw?
  refine iw ?_
  rw?
  refine ⟨p,rfl,⟨_,aX.of e4⟩,?_⟩
  have hl':ns'.length=3:=by rw [hp.length_eq,hy]
  refine cC (xs:=ns'.map V.int) bV (fun H5 s5=>aX.of (s5 _ _ e4)) (by rw [gJ];try?) (fun i ys G=>∃zs:List Nn,ys=bJ zs∧zs.length=i∧∀z∈zs,z∈es) ⟨[],rfl,rfl,fun x hx=>absurd hx 0#e⟩ ?_ ?_
  ·rintro D i x ys' H5 jK N N0 h0 hD eD s5 hx hy' ⟨zs,rfl,hz,hm⟩ kY kN
   rw [dm] at hx
   obtain ⟨y,gy,rfl⟩:=HH.mp hx
   obtain ⟨y0,y1⟩:=hys y (hp.mem_iff.mp (mY gy))
   obtain ⟨e,he,_,ea⟩:=Bf y0 y1
   refine fD h0 ?_
   rw?
   refine cu ?_
   rw?
   refine cA ((s3.trans (s4.trans s5)) _ _ hl) ea ?_
   refine kY _ H5 (au.refl _) ⟨zs++[e],gn zs e,by rw [fq,hz];rfl,fun z hz=>?_⟩
   rcases dN.mp hz with q | q
   ·exact hm z q
   ·obtain rfl:z=e:=by simpa using q
    exact he
  ·rintro D ys' H5 hD eD s5 hy' ⟨zs,rfl,hz,hm⟩
   rw [gJ,hl'] at hz
   match zs,hz with
   | [x,y,z],_=>exact k D x y z H5 (s3.trans (s4.trans s5)) (hm x 0#e) (hm y 0#e) (hm z 0#e) eD
theorem bR:aF ["_law_script","_law_place","_law_most","_law_share","_law_sizes","_law_some","_law_bottom","_law_scale","_law_tilt","_law_far_here","_law_row_here","_law_held","_law_one","_law_mid","_law_last","_law_span","_law_stood","_law_by"] ["_law_script","_law_place","_law_most","_law_share"] (ah rM):=0#a
theorem Gm (F:cT K "_law_drawn" "_law_drawn" rM f fd) (T:Txt mg) (ia:Dn P w K mg base 3 "_law_row" ["_law_script","_law_place","_law_sizes"] (JH K)) (pH:Dn P w K mg base 1 "_law_shaped" ["_law_some","_law_scale","_law_tilt"] CK)
 (pG:Dn P w K mg base 1 "_law_picked" ["_law_held","_law_some"] CG) (je:Dn P w K mg base 1 "_law_times" ["_law_row_here","_law_by"] AQ):bf P w K mg base c7 4 f fd ["_law_script","_law_place","_law_most","_law_share"] (Cz K):=by
 refine F.ok bR 0#f 0#b
 ·obtain ⟨a,ns,i,most,share,rfl,_⟩:=h
  rfl
 obtain ⟨a,ns,i,most,share,rfl,hS,h0,h1,hm,hs0,hs2,k⟩:=h
 refine bI (Jd.cut 6 (fun σ H'=>abW fun (lw tl:av) (xs:List Int) (c:Nat) (b sc t0 t1 x6 x7:Int) (v4 v9:Option V)=>σ=[some (.ref a),some (.int i),some (.int most),some (.int share),v4,some (.ref lw),some (.int b),some (.int sc),some (.ref tl),v9,none,none,none,none,none,none,none,none] ∧
  au H H'∧H' lw=some (.lst (xs.map V.int))∧c≤most∧Shp xs c∧xs[6]?=some x6∧0≤x6∧x6<7∧xs[7]?=some x7∧(∀k,k<3→∃x,xs[k+8]?=some x)∧1≤b∧Sz 30 b∧0≤sc∧Sz 45 sc∧H' tl=some (.tup [.int t0,.int t1])∧Sz 45 t0∧Sz 45 t1) ?_ fun u hu hR=>?_)
 ·refine ⟨_,(ao (aK 10 bR.nd (Jd.c3 pH hr (aa 5) (aa 7) (aa 8))) (ao (qy (O:=["_law_one"]) (N':=[]) (cap:=[]) (i:=11) bR.nd rfl 0#m rfl (di K (aa 10)) (fun _ _ _ _ _=>(cg (i:=0) (show i8 [("_law_one":Str)] by decide +kernel) rfl 0#m)) (fun _ _ _ _ _=>(tX (bF ir (bD (Et K) 0#l aq 0#h) dH (aH _)))) (fun _ _ _ _ _=>0#l) rfl trivial rfl 0#g rfl 0#g (by rfl)) (ao (b9 (Jd.xA (rf (bF dI (aa 3) aq (aH _)) (rf (bF d7 (Jd.iL K (aa 5)) aq (aH _)) (tY (bF dI (gB K T.gc (aa 11)) aq (aH _)))))) (ao (Jd.yg (bY pG hr (aa 11) (aa 5)) (Jd.pgL K (n:=3) rfl (gM (cg (i:=12) bR.nd rfl 0#m) (gM (cg (i:=13) bR.nd rfl 0#m) (gM (cg (i:=14) bR.nd rfl 0#m) qZ))))) (aI (b9 (Jd.Ca lD lD (aJ K (aa 12)) (aJ K (aa 13)) (aJ K (aa 14))) (ao (aK 15 bR.nd (aG bP (aJ K (aa 14)) (aJ K (aa 12)))) (ao (aK 16 bR.nd (aG bP (aG aP (aJ K (aa 13)) (aa 15)) (aG aP (aJ K (aa 12)) (aG bP (aJ K (aa 14)) (aJ K (aa 13)))))) (ao (aK 16 bR.nd (fU xB rfl T.xC yP (dG (aG bP (aa 16) (aG aP (aJ K (aa 14)) (aG bP (aJ K (aa 13)) (aJ K (aa 12)))))) (he:=JI) (hpl:=cB))) (ao (aK 17 bR.nd (aG aP (aa 3) (aa 15))) (aI (aU (bG (Jd.a3 (bY je hr (aa 10) (aa 17)) (aG aP (aa 6) (aa 17)) (aa 16))))))))) cF))) cF) (aI (aU (bG (Jd.a3 (aa 10) (aa 6) (aG aP (Jd.iL K (aa 5)) (aa 7))))))))),?_⟩
  rintro σ H1 ⟨lw,tl,xs,c,b,sc,t0,t1,x6,x7,v4,v9,rfl,s1,ew,hc,S,g6,a6,b6,g7,g8,b1,zb,sc0,U9,et,zt0,zt1⟩
  rw?
  refine ⟨lw,tl,xs,c,sc,t0,t1,rfl,ew,S,by try?,et,U9,zt0,zt1,fun R es H2 s2 nR eR hes hlen dX=>?_⟩
  have ew2:=s2 _ _ ew
  rw?
  refine iw ?_
  rw?
  refine ⟨R,rfl,⟨_,aX.of eR⟩,?_⟩
  refine cC (xs:=bJ es) bV (fun H3 s3=>aX.of (s3 _ _ eR)) (by rw [bA];try?) (fun i ys G=>ys=bJ ((es.take i).filter vL)) rfl ?_ ?_
  ·rintro D i x ys H3 jK N N0 h0 hD eD s3 hx hy rfl kY kN
   obtain ⟨e,he,rfl⟩:=oQ hx
   obtain ⟨ee,_⟩:=(hes e (mY he)).up s3
   have ts:=HJ vL es i e he
   obtain ⟨ae,me,ve⟩:=e
   refine fD h0 ?_
   cases ve with
   | none=>
     rw?
     refine ⟨rfl,?_⟩
     rw?
     refine bU ?_
     rw [show vL (ae,me,none)=false from rfl,if_neg dD,sG] at ts
     exact kN H3 (au.refl _) (by rw [ts])
   | some z=>
     rw?
     refine ⟨rfl,?_⟩
     rw?
     refine cu ?_
     rw?
     rw [show vL (ae,me,some z)=true from rfl,if_pos rfl] at ts
     exact kY _ H3 (au.refl _) (by rw [ts,← gn])
  ·rintro D ys H3 hD eD s3 hy rfl
   rw [bA,jH] at eD
   have xr:=s1.trans (s2.trans s3)
   have eR3:=s3 _ _ eR
   have ew3:=s3 _ _ ew2
   have plain:∀(p:av) (H4:Hp),au H3 H4→H4 p=some (.tup [.ref R,.int b,.int (x6*sc)])→Q (.ref p) H4:=fun p H4 s4 e4=>
    k p R es b (x6*sc) H4 (xr.trans s4) e4 (s1.free nR) (s4 _ _ eR3) (fun x hx=>let ⟨q1,q2,q3⟩:=(hes x hx).up (s3.trans s4);⟨q1,q2,fun z hz=>(q3 z hz).mono 0#i⟩) 0#d dX b1 (zb.mono 0#i) (oG a6 sc0) (((show Sz 3 x6 from by show x6.natAbs<2 ^ 3;try?).mul U9).mono 0#i)
   rw?
   refine cE (fun c1=>?_) (fun c1=>?_)
   ·have tH:0<share:=jM c1
    rw?
    refine cA ew3 (aZ g7 rfl) ?_
    rw?
    refine cE (fun c2=>?_) (fun c2=>?_)
    ·rw?
     refine cP (.inl (aX.of eD)) ?_
     rw?
     rw [bA]
     refine cE (fun c3=>?_) (fun c3=>?_)
     ·have c3':=jM c3
      have hfl:(es.filter vL).length≤es.length:=N2 ..
      rw?
      refine NH ?_
      rw?
      refine ⟨D,lw,es.filter vL,xs,rfl,eD,ew3,by try?,by try?,g8,fun R3 x y z H4 s4 hx hy hz e4=>?_⟩
      refine Pz e4 ?_
      obtain ⟨hx1,U5⟩:=Df.mp hx
      obtain ⟨hy1,hy2⟩:=Df.mp hy
      obtain ⟨hz1,hz2⟩:=Df.mp hz
      obtain ⟨fx1,fx2,fx3⟩:=(hes x hx1).up (s3.trans s4)
      obtain ⟨fy1,fy2,fy3⟩:=(hes y hy1).up (s3.trans s4)
      obtain ⟨fz1,fz2,fz3⟩:=(hes z hz1).up (s3.trans s4)
      obtain ⟨nx,ex⟩:=BJ U5
      obtain ⟨ny,ey⟩:=BJ hy2
      obtain ⟨nz,ez⟩:=BJ hz2
      have zx:=fx3 nx ex
      have zy:=fy3 ny ey
      have zz:=fz3 nz ez
      rw [ex] at fx1
      rw [ey] at fy1
      rw [ez] at fz1
      simp only [nnv] at fx1 fy1 fz1
      rw?
      have ew4:=s4 _ _ ew3
      refine cE (fun c4=>?_) (fun c4=>?_)
      ·have c4':=jM c4
       rw?
       refine cE (fun c5=>?_) (fun c5=>?_)
       ·have c5':=jM c5
        have zs1:Sz 46 (z.2.1-x.2.1):=fz2.sub fx2
        have zs2:Sz 46 (z.2.1-y.2.1):=fz2.sub fy2
        have zs3:Sz 46 (y.2.1-x.2.1):=fy2.sub fx2
        have zsh:Sz 2 share:=show share.natAbs<2 ^ 2 by try?
        have m1:Sz 146 (ny*(z.2.1-x.2.1)):=zy.mul zs1
        have m2:Sz 146 (nx*(z.2.1-y.2.1)):=zx.mul zs2
        have m3:Sz 146 (nz*(y.2.1-x.2.1)):=zz.mul zs3
        rw?
        refine fF (bQ zy zs1) ?_
        rw?
        refine fF (bQ zx zs2) ?_
        rw?
        refine fF (bQ zz zs3) ?_
        rw?
        refine fF (bQ zsh zs1) ?_
        rw?
        have zby:Sz 48 (share*(z.2.1-x.2.1)):=zsh.mul zs1
        refine ⟨R,es,share*(z.2.1-x.2.1),100,48,rfl,s4 _ _ eR3,fun u hu=>(hes u hu).up (s3.trans s4),by try?,zby,by decide,fun R5 es5 H5 s5 n5 e5 aeK hmap=>?_⟩
        rw?
        refine fF (bQ zb zby) ?_
        rw?
        rw [iK]
        refine aE (mk:=.tup) 0#e fun p6 H6 s6 n6 e6=>?_
        have hle:es5.length=es.length:=by
         have:=congrArg tT hmap
         simpa using this
        have p1:1≤share*(z.2.1-x.2.1):=mF 0#d 0#d
        have zst:Sz 148 (ny*(z.2.1-x.2.1)-nx*(z.2.1-y.2.1)-nz*(y.2.1-x.2.1)):=(m1.sub m2).sub (m3.mono 0#i)
        refine k p6 R5 es5 _ _ H6 ((xr.trans s4).trans (s5.trans s6)) e6 ((xr.trans s4).free n5) (s6 _ _ e5) (fun x hx=>let ⟨q1,q2,q3⟩:=(aeK x hx).up s6;⟨q1,q2,fun z hz=>(q3 z hz).mono 0#i⟩) 0#d ?_ (mF b1 p1) ((zb.mul zby).mono 0#i) 0#d ((zst.of_le 0#e).mono 0#i)
        refine BI ?_ dX
        have e:=congrArg (zR US) hmap
        rw [qB,qB] at e
        exact e
       ·rw?
        refine cA ew4 (aZ g6 rfl) ?_
        rw?
        refine fF (bQ (show Sz 3 x6 from by show x6.natAbs<2 ^ 3;try?) U9) ?_
        rw?
        refine aE (mk:=.tup) 0#e fun p6 H6 s6 n6 e6=>?_
        exact plain p6 H6 (s4.trans s6) e6
      ·rw?
       refine bU ?_
       rw?
       refine cA ew4 (aZ g6 rfl) ?_
       rw?
       refine fF (bQ (show Sz 3 x6 from by show x6.natAbs<2 ^ 3;try?) U9) ?_
       rw?
       refine aE (mk:=.tup) 0#e fun p6 H6 s6 n6 e6=>?_
       exact plain p6 H6 (s4.trans s6) e6
     ·rw?
      refine cA ew3 (aZ g6 rfl) ?_
      rw?
      refine fF (bQ (show Sz 3 x6 from by show x6.natAbs<2 ^ 3;try?) U9) ?_
      rw?
      refine aE (mk:=.tup) 0#e fun p6 H6 s6 n6 e6=>?_
      exact plain p6 H6 s6 e6
    ·refine bU ?_
     rw?
     refine cA ew3 (aZ g6 rfl) ?_
     rw?
     refine fF (bQ (show Sz 3 x6 from by show x6.natAbs<2 ^ 3;try?) U9) ?_
     rw?
     refine aE (mk:=.tup) 0#e fun p6 H6 s6 n6 e6=>?_
     exact plain p6 H6 s6 e6
   ·refine bU ?_
    rw?
    refine cA ew3 (aZ g6 rfl) ?_
    rw?
    refine fF (bQ (show Sz 3 x6 from by show x6.natAbs<2 ^ 3;try?) U9) ?_
    rw?
    refine aE (mk:=.tup) 0#e fun p6 H6 s6 n6 e6=>?_
    exact plain p6 H6 s6 e6
 refine ⟨_,(ao (aK 4 bR.nd (dg (cO (aG aV 0#w aq) (cO aq (cO aq (cO aq (cO aq (cO aq (cO aq (cO aq (cO aq (Jd.a4 aq aq aq aq) i6) i6) i6) i6) i6) i6) i6) i6) JI))) (ao (aK 5 bR.nd (Jd.c3 ia hr 0#l 0#r (aG BV (aa 4) (aG LO (dg (Jd.a3 aq aq aq)) 0#w)))) (ao (aK 6 bR.nd (bD (fK K) (dg (cO aq (cO aq (cO aq (cO aq (cO aq (cO aq (cO aq (cO aq (Jd.a4 aq aq aq (aG aV (aG pS aq aq) aq)) i6) i6) i6) i6) i6) i6) i6) i6)) (Jd.iL K (aa 5)) 0#h)) (ao (aK 7 bR.nd (bD (fK K) (dg (cO aq (Jd.a4 aq aq (aG pS aq aq) (aG aV (aG pS aq aq) aq)) i6)) (Jd.iL K (aa 5)) 0#h)) (ao (aK 8 bR.nd (bG (bC aq aq))) (ao (b9 (bF dI (aa 3) aq (aH _)) (ao (aK 9 bR.nd (aG bP (eV cW (aG pS aq aq)) aq)) (aI (aK 8 bR.nd (bD (fK K) (dg (Jd.a4 (bG (bC aq aq)) (bG (bC aq aq)) (bG (bC aq (eV cW aq))) (bG (bC (aa 9) (aG pS aq aq))))) (Jd.iL K (aa 5)) 0#h)))) cF) hu)))))),?_⟩
 rw?
 refine aE (mk:=.lst) 0#e fun l1 H1 s1 n1 e1=>?_
 rw?
 refine aE (mk:=.lst) 0#e fun l2 H2 s2 n2 e2=>?_
 rw?
 refine SD e2 0#c 0#c ?_
 refine aE (mk:=.lst) (by rw [len_rep];simp;try?) fun l3 H3 s3 n3 e3=>?_
 rw?
 refine Jy (s3 _ _ (s2 _ _ e1)) e3 ?_
 refine aE (mk:=.lst) (by rw [fq,len_rep];simp;try?) fun l4 H4 s4 n4 e4=>?_
 have vg:=s1.trans (s2.trans (s3.trans s4))
 rw?
 refine ⟨a,ns,i,l4,QN most,rfl,vg.seq hS,h0,by try?,by rw [e4];exact congrArg (fun z=>some (HO.lst z)) (Vv most),by rw [Vu];try?,Vw hm,fun lw xs H5 s5 n5 e5 hlen hxs=>?_⟩
 obtain ⟨c,hc,S⟩:=Vx hlen hxs
 obtain ⟨x2,g2,a2,b2⟩:=cj hlen hxs 2 (z:=5) rfl
 obtain ⟨x3,g3,a3,b3⟩:=cj hlen hxs 3 (z:=12) rfl
 obtain ⟨x6,g6,a6,b6⟩:=cj hlen hxs 6 (z:=7) rfl
 obtain ⟨x7,g7,a7,b7⟩:=cj hlen hxs 7 (z:=3) rfl
 obtain ⟨x8,g8,_⟩:=cj hlen hxs 8 (z:=40) rfl
 obtain ⟨x9,g9,_⟩:=cj hlen hxs 9 (z:=40) rfl
 obtain ⟨x10,g10,_⟩:=cj hlen hxs 10 (z:=40) rfl
 obtain ⟨x11,g11,a11,b11⟩:=cj hlen hxs 11 (z:=4) rfl
 have g8':∀k,k<3→∃x,xs[k+8]?=some x:=fun k hk=>by
  rcases (show k=0∨k=1∨k=2 by try?) with rfl | rfl | rfl
  ·exact ⟨_,g8⟩
  ·exact ⟨_,g9⟩
  ·exact ⟨_,g10⟩
 rw?
 refine aE (mk:=.lst) 0#e fun l6 H6 s6 n6 e6=>?_
 rw?
 refine cA (s6 _ _ e5) (aZ g3 rfl) ?_
 obtain ⟨b,eb,hb1,hb2⟩:=zD (zs:=[1,2,3,4,5,6,12,30,60,1001,9699690,10 ^ (9:Int).toNat+7]) (fun z=>1≤z∧Sz 30 z) 0#g a3 b3
 refine cA e6 eb ?_
 rw?
 refine aE (mk:=.lst) 0#e fun l7 H7 s7 n7 e7=>?_
 rw?
 refine cA (s7 _ _ (s6 _ _ e5)) (aZ g2 rfl) ?_
 obtain ⟨sc,esc,Rr,hsc⟩:=zD (zs:=[1,1,7,10 ^ (6:Int).toNat,10 ^ (12:Int).toNat+39]) (fun z=>0≤z∧Sz 45 z) 0#g a2 b2
 refine cA e7 esc ?_
 rw?
 refine aE (mk:=.tup) 0#e fun t0 H8 s8 n8 e8=>?_
 have s58:=s6.trans (s7.trans s8)
 have NI:=(vg.trans s5).trans s58
 have e58:=s58 _ _ e5
 rw?
 refine cE (fun c1=>?_) (fun c1=>?_)
 ·rw?
  refine aE (mk:=.tup) 0#e fun p1 H9 s9 n9 e9=>?_
  rw?
  refine aE (mk:=.tup) 0#e fun p2 tU oV xq Di=>?_
  rw?
  refine aE (mk:=.tup) 0#e fun p3 MS Dq n11 Z7=>?_
  rw?
  refine aE (mk:=.tup) 0#e fun p4 H12 s12 n12 Xd=>?_
  rw?
  refine aE (mk:=.lst) 0#e fun l8 H13 xr n13 P9=>?_
  have GV:=s9.trans (oV.trans (Dq.trans (s12.trans xr)))
  rw?
  refine cA (GV _ _ e58) (aZ g11 rfl) ?_
  have t8:=s12.trans xr
  rcases (show x11=0∨x11=1∨x11=2∨x11=3 by try?) with rfl | rfl | rfl | rfl
  ·refine cA P9 at0 ?_
   exact hR _ _ ⟨lw,p1,xs,c,b,sc,0,0,x6,x7,_,_,rfl,NI.trans GV,GV _ _ e58,hc,S,g6,a6,b6,g7,g8',hb1,hb2,Rr,hsc,(oV.trans (Dq.trans t8)) _ _ e9,by decide,by decide⟩
  ·refine cA P9 at1 ?_
   exact hR _ _ ⟨lw,p2,xs,c,b,sc,0,0,x6,x7,_,_,rfl,NI.trans GV,GV _ _ e58,hc,S,g6,a6,b6,g7,g8',hb1,hb2,Rr,hsc,(Dq.trans t8) _ _ Di,by decide,by decide⟩
  ·refine cA P9 at2 ?_
   exact hR _ _ ⟨lw,p3,xs,c,b,sc,7,-3,x6,x7,_,_,rfl,NI.trans GV,GV _ _ e58,hc,S,g6,a6,b6,g7,g8',hb1,hb2,Rr,hsc,t8 _ _ Z7,by decide,by decide⟩
  ·refine cA P9 at3 ?_
   exact hR _ _ ⟨lw,p4,xs,c,b,sc,_,_,x6,x7,_,_,rfl,NI.trans GV,GV _ _ e58,hc,S,g6,a6,b6,g7,g8',hb1,hb2,Rr,hsc,xr _ _ Xd,by decide +kernel,by decide +kernel⟩
 ·rw?
  exact hR _ _ ⟨lw,t0,xs,c,b,sc,0,0,x6,x7,_,_,rfl,NI,e58,hc,S,g6,a6,b6,g7,g8',hb1,hb2,Rr,hsc,e8,by decide,by decide⟩
end
def mo (es:List En) (k:Nat):Int:=((es[k]?).map (·.2.1)).getD 0
def wo (es:List En) (k:Nat):Rat:=((es[k]?).bind (·.2.2)).getD 0
def sd (es:List En) (i k j:Nat):Rat:=wo es k-cZ (mo es i) (wo es i) (mo es k) (mo es j) (wo es j)
def iR (es:List En):Prop:=∀x∈es,dU x=true
theorem cI (hR:Row H es n) (hS:iR es) (hk:k<es.length):∃x,es[k]?=some x∧iV H x.1 (mo es k) (wo es k) n:=by
 have g:es[k]?=some es[k]:=mX hk
 have hm:es[k]∈es:=ER hk
 refine ⟨es[k],g,?_⟩
 have h1:=hR _ hm
 have h2:(es[k]).2.2.isSome=true:=hS _ hm
 unfold mo wo
 rw [g]
 generalize es[k]=x at *
 obtain ⟨a,m,v⟩:=x
 cases v with
 | none=>cases h2
 | some q=>
   obtain ⟨z,p,e,f⟩:=h1
   exact ⟨p,e,f,z⟩
theorem gV (h:rising es) (hij:i<j) (hj:j<es.length):mo es i<mo es j:=by
 have hi:i<es.length:=by try?
 unfold mo
 rw [mX hi,mX hj]
 exact XJ.mp h i j hi hj hij
theorem dh {i:Nat} (h:es[i]?=some x) (hj:j=(i:Int)):pM (vals es) j=some (.ref x.1):=by
 subst hj
 exact gK (wK h)
inductive yE (vs:List V) (H:Hp) (Q:VK) (E_:XK):Prop where
 | mk (p r:av) (a b c d:Int) (n:Nat):vs=[.ref p,.ref r]→H p=some (.tup [.int a,.int b])→H r=some (.tup [.int c,.int d])→Sz n a→Sz n b→Sz n c→Sz n d→n≤10000→(∀(s:av) (H':Hp),au H H'→H' s=some (.tup [.int (a*d-c*b),.int (b*d)])→Q (.ref s) H')→yE vs H Q E_
inductive yF (vs:List V) (H:Hp) (Q:VK) (E_:XK):Prop where
 | mk (p r v v':av) (t t' a b a' b':Int) (n:Nat):vs=[.ref p,.ref r]→H p=some (.tup [.int t,.ref v])→H v=some (.tup [.int a,.int b])→H r=some (.tup [.int t',.ref v'])→H v'=some (.tup [.int a',.int b'])→t<t'→Sz n t→Sz n a→Sz n b→Sz n t'→Sz n a'→Sz n b'→n≤10000→(∀(s:av) (H':Hp),au H H'→H' s=some (.tup [.int (a'*b-a*b'),.int (b'*b*(t'-t))])→Q (.ref s) H')→yF vs H Q E_
inductive MB (vs:List V) (H:Hp) (Q:VK) (E_:XK):Prop where
 | mk (l:av) (es:List En) (i j n:Nat):vs=[.ref l,.int (i:Int),.int (j:Int)]→H l=some (.lst (vals es))→Row H es n→iR es→rising es→i<j→j<es.length→es.length≤1000→n≤900→(j=i+1→∀H',au H H'→Q .bM H')→(i+1<j→∀(z p:av) (k:Nat) (H':Hp),au H H'→H' z=some (.tup [.int (k:Int),.ref p])→bS H' p (dB (sd es i k j)) (8*n+5)→jL (fun k=>dB (sd es i k j)) i j k→Q (.ref z) H')→MB vs H Q E_
section
theorem An (F:cT K "loose_minus" "loose_minus" j8 f fd):bf P w K mg base c7 1 f fd ["one","other"] yE:=by
 refine F.ok rY 0#f 0#b
 ·obtain ⟨p,r,a,b,c,d,n,rfl,_⟩:=h
  rfl
 obtain ⟨p,r,a,b,c,d,n,rfl,hp,hr',za,zb,zc,zd,hn,k⟩:=h
 refine bI ⟨_,(aI (aU (bG (bC (aG bP (aG aP (aJ K 0#l) (aJ K 0#r)) (aG aP (aJ K 0#r) (aJ K 0#l))) (aG aP (aJ K 0#l) (aJ K 0#r)))))),?_⟩
 rw?
 refine fF (bQ za zd 0#d) ?_
 rw?
 refine fF (bQ zc zb 0#d) ?_
 rw?
 refine fF (bQ zb zd 0#d) ?_
 rw?
 refine aE (mk:=.tup) 0#e fun x H1 s1 n1 e1=>?_
 exact k x H1 s1 e1
theorem Ao (F:cT K "loose_slope" "loose_slope" iN f fd) (mh:Dn P w K mg base 1 "loose_minus" ["one","other"] yE):bf P w K mg base c7 3 f fd ["one","other"] yF:=by
 refine F.ok cV 0#f 0#b
 ·obtain ⟨p,r,v,v',t,t',a,b,a',b',n,rfl,_⟩:=h
  rfl
 obtain ⟨p,r,v,v',t,t',a,b,a',b',n,rfl,hp,hv,hr',hv',ht,zt,za,zb,zt',za',zb',hn,k⟩:=h
 refine bI ⟨_,(ao (aK 2 cV.nd (bY mh hr (aJ K 0#r) (aJ K 0#l))) (ao (aK 3 cV.nd (aG bP (aJ K 0#r) (aJ K 0#l))) (ao (b9 (bF lD (aa 3) aq (aH _)) (aI (aU (bG (bC (eV cW (aJ K 0#w)) (aG aP (aJ K 0#w) (eV cW (aa 3))))))) cF) (aI (aU (bG (bC (aJ K 0#w) (aG aP (aJ K 0#w) (aa 3))))))))),?_⟩
 rw?
 refine ⟨v',v,a',b',a,b,n,rfl,hv',hv,za',zb',za,zb,hn,fun x H1 s1 e1=>?_⟩
 have hp1:=s1 _ _ hp
 have hr1:=s1 _ _ hr'
 have zs:Sz (n+1) (t'-t):=zt'.sub zt
 rw?
 refine cE 0#B 0#B
 ·have c':t'-t<0:=jM c
  try?
 ·rw?
  refine fF (bQ (zb'.mul zb) zs 0#d) ?_
  rw?
  refine aE (mk:=.tup) 0#e fun y H2 s2 n2 e2=>?_
  exact k y H2 (s1.trans s2) e2
theorem bB:aF ["samples","first","last","start","steep","base","found","miss","place","moment","value","along","stood"] ["samples","first","last"] (ah jU):=0#a
theorem vM (F:cT K "loose_farthest" "loose_farthest" jU f fd) (T:Txt mg) (cM:Dn P w K mg base 1 "order" ["one","other"] iO) (mj:Dn P w K mg base 3 "loose_slope" ["one","other"] yF) :
 bf P w K mg base c7 4 f fd ["samples","first","last"] MB:=by
 refine F.ok bB 0#f 0#b
 ·obtain ⟨l,es,i,j,n,rfl,_⟩:=h
  rfl
 obtain ⟨l,es,i,j,n,rfl,hl,hR,hS,dX,hij,hj,lI,hn,k0,k1⟩:=h
 obtain ⟨xi,gi,vi,ei,⟨a,b,eb,fb,za,zb⟩,zti⟩:=cI hR hS (show i<es.length by try?)
 obtain ⟨xj,gj,vj,ej,⟨a',b',eb',fb',za',zb'⟩,ztj⟩:=cI hR hS hj
 have ht:=gV dX hij hj
 have hb1:=fb.pos
 have hb2:=fb'.pos
 have zd:Sz (n+1) (mo es j-mo es i):=ztj.sub zti
 have zS:Sz (3*n+1) (b'*b*(mo es j-mo es i)):=((zb'.mul zb).mul zd).mono 0#d
 have zS2:Sz (2*n+1) (b'*(mo es j-mo es i)):=(zb'.mul zd).mono 0#d
 have zT:Sz (2*n+1) (a'*b-a*b'):=((za'.mul zb).sub (za.mul zb')).mono 0#d
 have hdv:(b'*b*(mo es j-mo es i)).fdiv b=b'*(mo es j-mo es i):=by
  rw [yN _ 0#d,Int.mul_right_comm]
  exact Int.mul_ediv_cancel _ 0#d
 have Vf:0<b'*b*(mo es j-mo es i):=wQ (wQ 0#d 0#d) 0#d
 refine bI ⟨_,(ao (aK 3 bB.nd (bD (fK K) 0#l 0#r 0#h)) (ao (aK 4 bB.nd (bY mj hr (aa 3) (bD (fK K) 0#l 0#w 0#h))) (ao (aK 5 bB.nd (aG aP (aJ K (aJ K (aa 3))) (aG d8 (aJ K (aa 4)) (aJ K (aJ K (aa 3)))))) (ao (aK 6 bB.nd dH) (ao (aK 7 bB.nd (bG (bC aq aq))) (ao (dP gF rfl (vD rfl T.range (bC (aG aV 0#r aq) 0#w)) (cg (i:=8) bB.nd rfl 0#m) (ao (aK 9 bB.nd (aJ K (bD (fK K) 0#l (aa 8) 0#h))) (ao (aK 10 bB.nd (aJ K (bD (fK K) 0#l (aa 8) 0#h))) (ao (aK 11 bB.nd (aG aV (aa 5) (aG aP (aJ K (aa 4)) (aG bP (aa 9) (aJ K (aa 3)))))) (ao (aK 12 bB.nd (bG (bC (fU xB rfl T.xC yP (dG (aG bP (aG aP (aJ K (aa 10)) (aJ K (aa 4))) (aG aP (aJ K (aa 10)) (aa 11)))) (he:=JI) (hpl:=cB)) (aJ K (aa 10))))) (aI (b9 (Jd.xA (Jd.Jw (bF uM (aa 6) dH (aH _)) (Jd.Cc (bF dI (bY cM hr (aa 12) (aa 7)) aq (aH _))))) (ao (aK 6 bB.nd (aa 8)) (aI (aK 7 bB.nd (aa 12)))) cF))))))) (aI (aU (rg (bF uM (aa 6) dH (aH _)) dH (bG (bC (aa 6) (bG (bC (aJ K (aa 7)) (aG aP (aJ K (aa 7)) (aJ K (aa 4)))))))))))))))),?_⟩
 rw?
 refine cA hl (dh gi rfl) ?_
 rw?
 refine cA hl (dh gj rfl) ?_
 rw?
 refine ⟨xi.1,xj.1,vi,vj,mo es i,mo es j,a,b,a',b',n,rfl,ei,eb,ej,eb',ht,zti,za,zb,ztj,za',zb',by try?,fun ps H1 s1 e1=>?_⟩
 have ei1:=s1 _ _ ei
 have eb1:=s1 _ _ eb
 rw?
 refine fF ⟨by try?,zb.log 0#d ?_⟩ ?_
 ·rcases Yt n with z | z
  ·subst z
   have:b.natAbs<2 ^ 0:=zb
   try?
  ·exact z
 rw [hdv]
 refine fF (bQ za zS2 0#d) ?_
 rw?
 refine aE (mk:=.tup) 0#e fun pm0 H2 s2 n2 e2=>?_
 rw?
 refine eF (pV ?_)
 rw?
 have afk:Sz (5*n+4) 1:=pR 0#d
 have zer:Sz (5*n+4) 0:=Uo _
 refine ⟨_,_,rfl,⟨by lia,by lia,by lia,by lia⟩,cX (fun m σ H3=>Xs7 fun (fv:V) (pm:av) (v8 v9 v10 v11 HD:Option V)=>σ=[some (.ref l),some (.int i),some (.int j),some (.ref xi.1),some (.ref ps),some (.int (a*(b'*(mo es j-mo es i)))),some fv,some (.ref pm),v8,v9,v10,v11,HD] ∧
  au H1 H3∧((m=0∧fv=.bM∧bS H3 pm 0 (5*n+4))∨∃k:Nat,fv=.int (k:Int)∧bS H3 pm (dB (sd es i k j)*((b'*b*(mo es j-mo es i):Int):Rat)) (5*n+4)∧jL (fun k=>dB (sd es i k j)) i (i+1+m) k)) ?_ ?_ ?_⟩
 ·exact ⟨.bM,pm0,none,none,none,none,none,rfl,s2,.inl ⟨rfl,rfl,0,1,e2,Qt.whole 0,zer,afk⟩⟩
 ·rintro m σ H3 hm ⟨fv,pm,v8,v9,v10,v11,HD,rfl,s3,hI⟩
  have hp:i+1+m<j:=by try?
  have mK:=s1.trans s3
  obtain ⟨xp,gp,vp,ep,⟨c,e,ec,fc,zc,ze⟩,ztp⟩:=cI (hR.up mK) hS (show i+1+m<es.length by try?)
  have ei3:=mK _ _ ei
  have P9:=s3 _ _ e1
  have qt:=aaf fb fb' fc (tp:=mo es (i+1+m)) ht
  have qa:=qt.abs
  rw [vU (cast_pos Vf)] at qa
  have ztt:Sz (n+1) (mo es (i+1+m)-mo es i):=ztp.sub zti
  have adK:Sz (4*n+2) (a*(b'*(mo es j-mo es i))):=(za.mul zS2).mono 0#d
  have zst:Sz (4*n+2) ((a'*b-a*b')*(mo es (i+1+m)-mo es i)):=(zT.mul ztt).mono 0#d
  have zal:Sz (4*n+3) (a*(b'*(mo es j-mo es i))+(a'*b-a*b')*(mo es (i+1+m)-mo es i)):=adK.add zst
  have zcS:Sz (5*n+3) (c*(b'*b*(mo es j-mo es i))):=(zc.mul zS).mono 0#d
  have zea:Sz (5*n+3) (e*(a*(b'*(mo es j-mo es i))+(a'*b-a*b')*(mo es (i+1+m)-mo es i))):=(ze.mul zal).mono 0#d
  rw?
  refine cA (mK _ _ hl) (dh gp 0#d) ?_
  rw?
  refine cA (mK _ _ hl) (dh gp 0#d) ?_
  rw?
  refine fF (bQ zT ztt 0#d) ?_
  rw?
  refine fF (bQ zc zS 0#d) ?_
  rw?
  refine fF (bQ ze zal 0#d) ?_
  rw?
  rw [iK]
  refine aE (mk:=.tup) 0#e fun pst H4 s4 n4 e4=>?_
  have qs:bS H4 pst (dB (sd es i (i+1+m) j)*((b'*b*(mo es j-mo es i):Int):Rat)) (5*n+4):=
   ⟨_,_,e4,qa,(zcS.sub zea).of_le 0#e,ze.mono 0#d⟩
  rw?
  rcases hI with ⟨rfl,rfl,hq⟩ | ⟨kk,rfl,hq,hF⟩
  ·refine ⟨rfl,?_⟩
   rw?
   refine cu ?_
   refine cu ?_
   rw?
   exact ⟨_,_,_,_,_,_,_,rfl,s3.trans s4,.inr ⟨i+1,by simp,qs,jL.first⟩⟩
  ·refine ⟨rfl,?_⟩
   rw?
   refine bU ?_
   rw?
   refine ⟨pst,pm,_,_,_,_,rfl,qs,hq.up s4,by try?,fun o Qc ho2=>?_⟩
   rw?
   refine cE (fun c1=>?_) (fun c1=>?_)
   ·have c':0<o:=jM c1
    have l1:=(HL (cast_pos Vf)).mp (Qc.mp c')
    rw?
    refine ⟨_,_,_,_,_,_,_,rfl,s3.trans s4,.inr ⟨i+1+m,by simp,qs,?_⟩⟩
    exact hF.next l1
   ·have c':¬0<o:=iH (gY.mpr c1)
    have l1:¬dB (sd es i kk j)<dB (sd es i (i+1+m) j):=fun z=>c' (Qc.mpr ((HL (cast_pos Vf)).mpr z))
    rw?
    refine ⟨_,_,_,_,_,_,_,rfl,s3.trans s4,.inr ⟨kk,rfl,hq.up s4,?_⟩⟩
    exact hF.keep (jm.mp l1)
 ·rintro σ H3 ⟨fv,pm,v8,v9,v10,v11,HD,rfl,s3,hI⟩
  have P9:=s3 _ _ e1
  rw?
  rcases hI with ⟨hm,rfl,hq⟩ | ⟨kk,rfl,⟨x,y,exy,qxy,zx,zy⟩,hF⟩
  ·refine ⟨rfl,?_⟩
   rw?
   refine cu ?_
   rw?
   exact k0 0#d H3 (s1.trans s3)
  ·refine ⟨rfl,?_⟩
   rw?
   refine bU ?_
   rw?
   refine fF (bQ zy zS 0#d) ?_
   rw?
   refine aE (mk:=.tup) 0#e fun p4 H4 s4 n4 e4=>?_
   rw?
   refine aE (mk:=.tup) 0#e fun p5 H5 s5 n5 e5=>?_
   have hF':jL (fun k=>dB (sd es i k j)) i j kk:=by
    have e:i+1+((j:Int)-((i:Int)+1)).toNat=j:=by try?
    rw [e] at hF
    exact hF
   have hlo:=hF'.lo
   have hhi:=hF'.hi
   refine k1 0#d p5 p4 kk H5 ((s1.trans s3).trans (s4.trans s5)) e5 ?_ hF'
   have q:=qxy.div (s:=b'*b*(mo es j-mo es i)) Vf
   have hne:=cS (b:=b'*b*(mo es j-mo es i)) 0#d
   rw [show dB (sd es i kk j)*((b'*b*(mo es j-mo es i):Int):Rat)/((b'*b*(mo es j-mo es i):Int):Rat)=dB (sd es i kk j) by generalize ((b'*b*(mo es j-mo es i):Int):Rat)=S at hne;grind] at q
   exact ⟨_,_,s5 _ _ e4,q,zx.mono 0#d,(zy.mul zS).mono 0#d⟩
end
def cU (b:Int) (x:Int×Option Int):Int×Option Rat:=(x.1,x.2.map fun z:Int=>(z:Rat)/(b:Rat))
def AF (m1 n1 m2 n2 m3 n3:Int):Int:=n2*(m3-m1)-n1*(m3-m2)-n3*(m2-m1)
inductive CA (vs:List V) (H:Hp) (Q:VK) (E_:XK):Prop where
 | mk (l:av) (es:List Nn) (b:Int) (m n nb N:Nat):vs=[.ref l,.int b]→H l=some (.lst (bJ es))→ic H es m n→es.length≤900→1≤b→Sz nb b→m≤N→n≤N→nb≤N→N≤8000→(∀(R:av) (es':List En) (H':Hp),au H H'→H R=none→H' R=some (.lst (vals es'))→Row H' es' N→es'.map (·.2)=es.map (fun x=>cU b x.2)→Q (.ref R) H')→CA vs H Q E_
inductive wF (vs:List V) (H:Hp) (Q:VK) (E_:XK):Prop where
 | mk (p1 p2 p3:av) (m1 n1 m2 n2 m3 n3:Int) (m n:Nat):vs=[.ref p1,.ref p2,.ref p3]→H p1=some (.tup [.int m1,.int n1])→H p2=some (.tup [.int m2,.int n2])→H p3=some (.tup [.int m3,.int n3])→Sz m m1→Sz m m2→Sz m m3→Sz n n1→Sz n n2→Sz n n3→m+n≤100000→Q (.int (AF m1 n1 m2 n2 m3 n3)) H→wF vs H Q E_
theorem aaX (a1:Sz m m1) (a2:Sz m m2) (a3:Sz m m3) (b1:Sz n n1) (b2:Sz n n2) (b3:Sz n n3):Sz (m+n+3) (AF m1 n1 m2 n2 m3 n3):=by
 unfold AF
 have x1:Sz (m+n+1) (n2*(m3-m1)):=(b2.mul (a3.sub a1)).mono 0#d
 have x2:Sz (m+n+1) (n1*(m3-m2)):=(b1.mul (a3.sub a2)).mono 0#d
 have x3:Sz (m+n+2) (n3*(m2-m1)):=(b3.mul (a2.sub a1)).mono 0#d
 exact (x1.sub x2).sub x3
theorem PB (h:H p=some (.tup [x,y,z])) (q:R (((σ.set i (some x)).set j (some y)).set k (some z)) H):OR K 3 (qx (iM i) (qx (iM j) (qx (iM k) OP))) (.ref p) σ H R:=
 ⟨p,_,rfl,tG.of h,rfl,x,_,rfl,y,_,rfl,z,_,rfl,rfl,q⟩
section
theorem j9:aF ["_law_row_here","_law_bottom","_law_handed_here","_law_moment_here","_law_number"] ["_law_row_here","_law_bottom"] (ah pZ):=0#a
theorem DN (F:cT K "_law_handed" "_law_handed" pZ f fd) (jc:Dn P w K mg base 1 "_law_ratio" ["_law_top","_law_bottom"] wA):bf P w K mg base c7 2 f fd ["_law_row_here","_law_bottom"] CA:=by
 refine F.ok j9 0#f 0#b
 ·obtain ⟨l,es,b,m,n,nb,N,rfl,_⟩:=h
  rfl
 obtain ⟨l,es,b,m,n,nb,N,rfl,hl,hes,lI,hb,zb,hmN,hnN,hbN,hN,k⟩:=h
 refine bI ⟨_,(ao (aK 2 j9.nd (dg dY)) (ao (dP gF rfl (di K 0#l) (Jd.Qf K (n:=2) rfl (gM (cg (i:=3) j9.nd rfl 0#m) (gM (cg (i:=4) j9.nd rfl 0#m) qZ))) (aI (b9 (bF uM (aa 4) dH (aH _)) (aI (dZ (fZ K 0#w (bG (bC (aa 3) dH))) (hs:=dM))) (aI (dZ (fZ K 0#w (bG (bC (aa 3) (bY jc hr (aa 4) 0#r)))) (hs:=dM)))))) (aI (aU 0#w)))),?_⟩
 rw?
 refine aE (mk:=.lst) 0#e fun R H1 s1 n1 e1=>?_
 rw?
 refine eF (iw ?_)
 rw?
 refine ⟨l,rfl,⟨_,aX.of (s1 _ _ hl)⟩,dW (xs:=bJ es) (fun i σ H3=>MV fun (es':List En) (v3 v4:Option V)=>σ=[some (.ref l),some (.int b),some (.ref R),v3,v4]∧au H H3∧H3 R=some (.lst (vals es'))∧Row H3 es' N∧es'.length=i∧es'.map (·.2)=(es.take i).map (fun x=>cU b x.2)) ?_ ?_ ?_ ?_⟩
 ·exact ⟨[],none,none,rfl,s1,e1,fun x hx=>absurd hx 0#e,rfl,rfl⟩
 ·rintro i σ H3 _ ⟨es',v3,v4,rfl,s3,_⟩
  exact aX.of (s3 _ _ hl)
 ·rintro i x σ H3 hx ⟨es',v3,v4,rfl,s3,e3,K6,hl',hmap⟩
  obtain ⟨e,he,rfl⟩:=oQ hx
  have hi:i<es.length:=(lR.mp he).1
  have fe:=(hes e (mY he)).up s3
  have tk:es.take (i+1)=es.take i++[e]:=by rw [qF,he];rfl
  have fin:∀(y:av) (H4:Hp) (v3 v4:Option V),au H3 H4→nW H4 (y,cU b e.2) N→MV fun (Fl:List En) (v3' v4':Option V)=>[some (.ref l),some (.int b),some (.ref R),v3,v4]=[some (.ref l),some (.int b),some (.ref R),v3',v4'] ∧
   au H (upd H4 R (.lst (vals es'++[.ref y])))∧upd H4 R (.lst (vals es'++[.ref y])) R=some (.lst (vals Fl))∧Row (upd H4 R (.lst (vals es'++[.ref y]))) Fl N∧Fl.length=i+1∧Fl.map (·.2)=(es.take (i+1)).map (fun x=>cU b x.2):=by
   intro y H4 v3 v4 s4 f4
   have e4:=s4 _ _ e3
   refine ⟨es'++[(y,cU b e.2)],v3,v4,rfl,aY (s3.trans s4) n1,by rw [aA];exact congrArg (fun z=>some (HO.lst z)) (fS es' (y,cU b e.2)),((K6.up s4).snoc f4).app e4,by rw [fq,hl'];rfl,?_⟩
   rw [tk,i9,i9,hmap]
   rfl
  obtain ⟨a,mm,v⟩:=e
  cases v with
  | none=>
    refine lY fe.1 ?_
    rw?
    refine ⟨rfl,?_⟩
    rw?
    refine cu ?_
    rw?
    refine ⟨.inl ⟨rfl,_,aX.of e3⟩,?_⟩
    rw?
    refine aE (mk:=.tup) 0#e fun y H4 s4 n4 e4=>?_
    rw?
    refine cz (s4 _ _ e3) (by rw [aO];exact aN 0#d) ?_
    exact fin y H4 _ _ s4 ⟨fe.2.1.mono hmN,e4⟩
  | some z=>
    have zz:=fe.2.2 z rfl
    refine lY fe.1 ?_
    rw?
    refine ⟨rfl,?_⟩
    rw?
    refine bU ?_
    rw?
    refine ⟨.inl ⟨rfl,_,aX.of e3⟩,?_⟩
    rw?
    refine Ir (n:=N) 0#d (zz.mono hnN) (zb.mono hbN) hN fun p H4 s4 f4=>?_
    rw?
    refine aE (mk:=.tup) 0#e fun y H5 s5 n5 e5=>?_
    rw?
    refine cz ((s4.trans s5) _ _ e3) (by rw [aO];exact aN 0#d) ?_
    exact fin y H5 _ _ (s4.trans s5) ⟨fe.2.1.mono hmN,p,e5,f4.up s5⟩
 ·rintro σ H3 ⟨es',v3,v4,rfl,s3,e3,K6,hl',hmap⟩
  rw [bA,jH] at hmap
  rw?
  exact k R es' H3 s3 n1 e3 K6 hmap
theorem vY:aF ["_law_one","_law_mid","_law_last","_law_up"] ["_law_one","_law_mid","_law_last"] (ah rO):=0#a
theorem Gp (F:cT K "_law_stand" "_law_stand" rO f fd):bf P w K mg base c7 1 f fd ["_law_one","_law_mid","_law_last"] wF:=by
 refine F.ok vY 0#f 0#b
 ·obtain ⟨p1,p2,p3,m1,n1,m2,n2,m3,n3,m,n,rfl,_⟩:=h
  rfl
 obtain ⟨p1,p2,p3,m1,n1,m2,n2,m3,n3,m,n,rfl,e1,e2,e3,a1,a2,a3,b1,b2,b3,hmn,k⟩:=h
 refine bI ⟨_,(ao (aK 3 vY.nd (aG aP (aJ K 0#r) (aG bP (aJ K 0#w) (aJ K 0#l)))) (aI (aU (aG bP (aG bP (aa 3) (aG aP (aJ K 0#l) (aG bP (aJ K 0#w) (aJ K 0#r)))) (aG aP (aJ K 0#w) (aG bP (aJ K 0#r) (aJ K 0#l))))))),?_⟩
 rw?
 refine fF (bQ b2 (a3.sub a1) 0#d) ?_
 rw?
 refine fF (bQ b1 (a3.sub a2) 0#d) ?_
 rw?
 refine fF (bQ b3 (a2.sub a1) 0#d) ?_
 rw?
 exact k
end
def gQ (hs:List Nn) (k:Nat):Int:=((hs[k]?).map (·.2.1)).getD 0
def LB (hs:List Nn) (k:Nat):Int:=((hs[k]?).bind (·.2.2)).getD 0
def xS (hs:List Nn) (i k j:Nat):Int:=AF (gQ hs i) (LB hs i) (gQ hs k) (LB hs k) (gQ hs j) (LB hs j)
def Km (hs:List Nn):Prop:=∀x∈hs,vL x=true
theorem Ez (hR:ic H hs m n) (hS:Km hs) (hk:k<hs.length):∃x,hs[k]?=some x∧H x.1=some (.tup [.int (gQ hs k),.int (LB hs k)])∧Sz m (gQ hs k)∧Sz n (LB hs k):=by
 have g:hs[k]?=some hs[k]:=mX hk
 have hm:hs[k]∈hs:=ER hk
 refine ⟨hs[k],g,?_⟩
 have h1:=hR _ hm
 have h2:(hs[k]).2.2.isSome=true:=hS _ hm
 unfold gQ LB
 rw [g]
 generalize hs[k]=x at *
 obtain ⟨a,m,v⟩:=x
 cases v with
 | none=>cases h2
 | some q=>exact ⟨h1.1,h1.2.1,h1.2.2 q rfl⟩
theorem LA (h:dO hs) (hij:i<j) (hj:j<hs.length):gQ hs i<gQ hs j:=by
 have hi:i<hs.length:=by try?
 unfold gQ
 rw [mX hi,mX hj]
 exact XJ.mp h i j hi hj hij
section
variable {es:List En} {hs:List Nn} {b:Int} (h:es.map (·.2)=hs.map (fun x=>cU b x.2))
include h
theorem FZ (k:Nat):mo es k=gQ hs k∧wo es k=(LB hs k:Rat)/(b:Rat):=by
 have e:(es.map (·.2))[k]?=(hs.map (fun x=>cU b x.2))[k]?:=by rw [h]
 rw [dm,dm] at e
 unfold mo gQ wo LB
 have z:(0:Rat)=((0:Int):Rat)/(b:Rat):=by
  rw [show ((0:Int):Rat)=0 from rfl,Rat.div_def,Zv]
 cases e1:es[k]? with
 | none=>
   rw [e1] at e
   cases e2:hs[k]? with
   | none=>exact ⟨rfl,z⟩
   | some y=>rw [e2] at e;cases e
 | some x=>
   rw [e1] at e
   cases e2:hs[k]? with
   | none=>rw [e2] at e;cases e
   | some y=>
     rw [e2] at e
     have q:x.2=cU b y.2:=xg e
     obtain ⟨ax,tx,vx⟩:=x
     obtain ⟨ay,ty,vy⟩:=y
     cases vy with
     | none=>
       cases q
       exact ⟨rfl,z⟩
     | some w=>
       cases q
       exact ⟨rfl,rfl⟩
theorem RD:es.length=hs.length:=by
 have:=congrArg tT h
 simpa using this
theorem rj (hr:dO hs):rising es:=by
 have k:(hs.map fun x=>x.2.1).Pairwise (·<·):=Oc.mpr hr
 have e:=congrArg (zR US) h
 rw [qB,qB] at e
 have e':es.map (fun x=>x.2.1)=hs.map (fun x=>x.2.1):=e
 rw [← e'] at k
 exact Oc.mp k
theorem Nr (hb:1≤b) (ht:gQ hs i<gQ hs j):((xS hs i k j:Int):Rat)=sd es i k j*(((gQ hs j-gQ hs i)*b:Int):Rat):=by
 obtain ⟨i1,i2⟩:=FZ h i
 obtain ⟨j1,j2⟩:=FZ h j
 obtain ⟨k1,k2⟩:=FZ h k
 unfold sd xS AF
 rw [i1,i2,j1,j2,k1,k2]
 have hX:=lT (t:=(gQ hs i:Rat)) (q:=(LB hs i:Rat)/(b:Rat)) (u:=(gQ hs k:Rat)) (t':=(gQ hs j:Rat)) (q':=(LB hs j:Rat)/(b:Rat)) (yV ht)
 have hb':=cS (b:=b) 0#d
 simp only [o9,qG]
 generalize cZ (gQ hs i:Rat) ((LB hs i:Rat)/(b:Rat)) (gQ hs k:Rat) (gQ hs j:Rat) ((LB hs j:Rat)/(b:Rat))=X at *
 generalize (gQ hs i:Rat)=ti at *
 generalize (gQ hs j:Rat)=tj at *
 generalize (gQ hs k:Rat)=tk at *
 generalize (LB hs i:Rat)=ni at *
 generalize (LB hs j:Rat)=nj at *
 generalize (LB hs k:Rat)=nk at *
 grind
end
theorem Lz (x:Int):((x.natAbs:Int):Rat)=dB (x:Rat):=by
 have:=(Qt.whole x).abs.eq
 simpa using this
theorem RB (h:es.map (·.2)=hs.map (fun x=>cU b x.2))  (hb:1≤b) (ht:gQ hs i<gQ hs j):(((xS hs i k j).natAbs:Int):Rat)=dB (sd es i k j)*(((gQ hs j-gQ hs i)*b:Int):Rat):=by
 rw [Lz,Nr h hb ht,vU (cast_pos (wQ 0#d 0#d))]
theorem eY (h:es.map (·.2)=es'.map (·.2)) (k:Nat):mo es k=mo es' k∧wo es k=wo es' k:=by
 have e:(es.map (·.2))[k]?=(es'.map (·.2))[k]?:=by rw [h]
 rw [dm,dm] at e
 unfold mo wo
 cases h1:es[k]? with
 | none=>
   cases h2:es'[k]? with
   | none=>exact ⟨rfl,rfl⟩
   | some y=>rw [h1,h2] at e;cases e
 | some x=>
   cases h2:es'[k]? with
   | none=>rw [h1,h2] at e;cases e
   | some y=>
     rw [h1,h2] at e
     have e':x.2=y.2:=by simpa using e
     simp only [Option.map_some,Option.bind_some,e',Option.getD_some,and_self]
abbrev Qs:=List (av×Rat)
def cY (rs:Qs):List V:=rs.map fun x=>V.ref x.1
theorem Jx {i:Nat} (h:(cY rs)[i]?=some v):∃x,rs[i]?=some x∧v=.ref x.1:=by
 unfold cY at h
 rw [dm] at h
 cases e:rs[i]? with
 | none=>rw [e] at h;cases h
 | some x=>rw [e] at h;cases h;exact ⟨x,rfl,rfl⟩
def vh (H:Hp) (rs:Qs) (n:Nat):Prop:=∀x∈rs,bS H x.1 x.2 n
def fO (js:List Nat):List V:=js.map fun j:Nat=>V.int (j:Int)
theorem jg (js:List Nat):(fO js).length=js.length:=gJ ..
theorem pQ (js:List Nat) (j:Nat):fO js++[.int (j:Int)]=fO (js++[j]):=by simp [fO]
theorem Je {i:Nat} (h:(fO js)[i]?=some v):∃j,js[i]?=some j∧v=.int (j:Int):=by
 unfold fO at h
 rw [dm] at h
 cases e:js[i]? with
 | none=>rw [e] at h;cases h
 | some x=>rw [e] at h;cases h;exact ⟨x,rfl,rfl⟩
theorem bS.app (f:bS H p q n) (h:H R=some (.lst ys)):bS (upd H R o) p q n:=
 let ⟨t,b,e,f⟩:=f
 ⟨t,b,(t6 R H o) _ _ (d9 h e),f⟩
def W8 (H:Hp) (p:av) (t:Int) (q:Rat) (n m:Nat):Prop:=∃v:av,H p=some (.tup [.int t,.ref v])∧bS H v q n∧Sz m t
theorem W8.up (f:W8 H p t q n m) (s:au H H'):W8 H' p t q n m:=let ⟨v,e,f,z⟩:=f;⟨v,s _ _ e,f.up s,z⟩
theorem iV.XD (f:iV H p t q n):W8 H p t q n n:=let ⟨v,e,f,z⟩:=f;⟨v,e,f.qt,z⟩
def Good (es:List En) (β:Rat) (i j:Nat):Prop:=∀k,i<k→k<j→dB (sd es i k j)≤β
def fM (es:List En) (β:Rat) (aD:Bool) (i j:Nat):Prop:=if aD=true then i<j∧j<es.length∧Good es β i j else i<es.length∧(j=i+1∨(i+1<j∧j≤es.length∧Good es β i (j-1)))
def WS (es:List En) (i j:Nat):Rat:=(wo es j-wo es i)/((mo es j:Rat)-(mo es i:Rat))
def fB (es:List En) (β:Rat) (i k:Nat):Rat:=(wo es k-β-wo es i)/((mo es k:Rat)-(mo es i:Rat))
def c6 (es:List En) (β:Rat) (i k:Nat):Rat:=(wo es k+β-wo es i)/((mo es k:Rat)-(mo es i:Rat))
theorem vA (h:rising es) (hik:i<k) (hkj:k<j) (hj:j<es.length):dB (sd es i k j)≤β↔fB es β i k≤WS es i j∧WS es i j≤c6 es β i k:=
 Ff (vc.mpr (gV h hik 0#d)) (vc.mpr (gV h hkj hj))
inductive lZ (vs:List V) (H:Hp) (Q:VK) (E_:XK):Prop where
 | mk (p r:av) (t t':Int) (q q':Rat) (n n' m:Nat):vs=[.ref p,.ref r]→W8 H p t q n m→W8 H r t' q' n' m→t<t'→n+n'+m≤20000→(∀(s:av) (H':Hp),au H H'→bS H' s ((q'-q)/((t':Rat)-(t:Rat))) (n+n'+m+2)→Q (.ref s) H')→lZ vs H Q E_
inductive tu (vs:List V) (H:Hp) (Q:VK) (E_:XK):Prop where
 | mk (l:av) (rs:Qs) (n:Nat):vs=[.ref l]→H l=some (.lst (cY rs))→vh H rs n→n≤20000→0<rs.length→(∀x∈rs,(∀y∈rs,y.2≤x.2)→Q (.ref x.1) H)→tu vs H Q E_
inductive wC (vs:List V) (H:Hp) (Q:VK) (E_:XK):Prop where
 | mk (l:av) (rs:Qs) (n:Nat):vs=[.ref l]→H l=some (.lst (cY rs))→vh H rs n→n≤20000→0<rs.length→(∀x∈rs,(∀y∈rs,x.2≤y.2)→Q (.ref x.1) H)→wC vs H Q E_
inductive Hq (vs:List V) (H:Hp) (Q:VK) (E_:XK):Prop where
 | mk (l pb:av) (es:List En) (i n nb:Nat) (β:Rat):vs=[.ref l,.int (i:Int),.ref pb]→H l=some (.lst (vals es))→Row H es n→iR es→rising es→i<es.length→es.length≤900→bS H pb β nb→n≤1000→nb≤1000→(∀(R:av) (js:List Nat) (H':Hp),au H H'→H R=none→H' R=some (.lst (fO js))→js.length≤es.length→(∀j,j∈js↔i<j∧j<es.length∧Good es β i j)→Q (.ref R) H')→Hq vs H Q E_
structure Qo (H:Hp) (F:av) (rs:List (av×List Nat)):Prop where
 at_:H F=some (.lst (rs.map fun x=>V.ref x.1))
 each:∀x∈rs,H x.1=some (.lst (fO x.2))∧x.1≠F
theorem Qo.up (h:Qo H F rs) (s:au H H'):Qo H' F rs:=⟨s _ _ h.at_,fun x hx=>⟨s _ _ (h.each x hx).1,(h.each x hx).2⟩⟩
theorem Qo.push (h:Qo H F rs) (hR:H R=some (.lst (fO js))) (ne:R≠F):Qo (upd H F (.lst (rs.map (fun x=>V.ref x.1)++[.ref R]))) F (rs++[(R,js)]):=by
 refine ⟨by rw [aA,i9];rfl,fun x hx=>?_⟩
 rcases dN.mp hx with z | z
 ·exact ⟨by rw [aM (h.each x z).2];exact (h.each x z).1,(h.each x z).2⟩
 ·obtain rfl:x=(R,js):=by simpa using z
  exact ⟨by rw [aM ne];exact hR,ne⟩
def Bb (es:List En) (β:Rat) (aD:Bool) (rs:List (av×List Nat)):Prop:=∀i x,rs[i]?=some x→(x.2.length≤es.length+1)∧∀j,j∈x.2↔fM es β aD i j
inductive AO (vs:List V) (H:Hp) (Q:VK) (E_:XK):Prop where
 | mk (l pb:av) (es:List En) (n nb:Nat) (β:Rat) (aD:Bool):vs=[.ref l,.ref pb,.bl aD]→H l=some (.lst (vals es))→Row H es n→iR es→rising es→es.length≤900→bS H pb β nb→n≤1000→nb≤1000→(∀(F:av) (rs:List (av×List Nat)) (H':Hp),au H H'→H F=none→Qo H' F rs→rs.length=es.length→Bb es β aD rs→Q (.ref F) H')→AO vs H Q E_
def gU (N:Nat) (t:Nat→Int):List V:=(fu N).map fun j=>V.int (t j)
theorem lW (N:Nat) (t:Nat→Int):(gU N t).length=N:=by simp [gU]
theorem jv {N:Nat} (h:j<N) (hi:i=(j:Int)):pM (gU N t) i=some (.int (t j)):=by
 subst hi
 exact gK (vJ h)
inductive wm (vs:List V) (H:Hp) (Q:VK) (E_:XK):Prop where
 | mk (F:av) (rs:List (av×List Nat)) (N:Nat) (L:Nat→Nat→Prop):vs=[.ref F,.int (N:Int)]→Qo H F rs→1≤N→N≤900→N≤rs.length+1→rs.length≤N→(∀i x,rs[i]?=some x→∀j,j∈x.2↔L i j)→(∀i j,L i j→i<j∧j<N)→(∀j,0<j→j<N→L (j-1) j)→(∀(R:av) (t:Nat→Int) (H':Hp),au H H'→H R=none→H' R=some (.lst (gU N t))→lH L N t→Q (.ref R) H')→wm vs H Q E_
inductive CC (vs:List V) (H:Hp) (Q:VK) (E_:XK):Prop where
 | mk (l pb:av) (es:List En) (n nb:Nat) (β:Rat) (aD:Bool):vs=[.ref l,.ref pb,.bl aD]→H l=some (.lst (vals es))→Row H es n→iR es→rising es→1≤es.length→es.length≤800→bS H pb β nb→n≤1000→nb≤1000→(∀(R:av) (t:Nat→Int) (H':Hp),au H H'→H R=none→H' R=some (.lst (gU (if aD=true then es.length else es.length+1) t))→lH (fM es β aD) (if aD=true then es.length else es.length+1) t→Q (.ref R) H')→CC vs H Q E_
section
theorem nG:aF ["quotients","found","quotient"] ["quotients"] (ah uQ):=0#a
theorem Jj (F:cT K "greatest" "greatest" uQ f fd) (cM:Dn P w K mg base 1 "order" ["one","other"] iO):bf P w K mg base c7 2 f fd ["quotients"] tu:=by
 refine F.ok nG 0#f 0#b
 ·obtain ⟨l,rs,n,rfl,_⟩:=h
  rfl
 obtain ⟨l,rs,n,rfl,hl,hq,hn,hp,k⟩:=h
 have g0:rs[0]?=some rs[0]:=mX hp
 refine bI ⟨_,(ao (aK 1 nG.nd (Jd.iL K 0#l)) (ao (dP gF rfl (di K 0#l) (cg (i:=2) nG.nd rfl 0#m) (aI (b9 (bF dI (bY cM hr 0#w 0#r) aq (aH _)) (aI (aK 1 nG.nd 0#w)) cF))) (aI (aU 0#r)))),?_⟩
 rw?
 refine cA hl (v:=.ref (rs[0]).1) (gK (j:=0) (by unfold cY;rw [dm,g0];rfl)) ?_
 rw?
 refine eF (iw ?_)
 rw?
 refine ⟨l,rfl,⟨_,aX.of hl⟩,dW (xs:=cY rs) (fun i σ H3=>H3=H∧∃(x:av×Rat) (v:Option V),x∈rs∧σ=[some (.ref l),some (.ref x.1),v]∧∀y∈rs.take i,y.2≤x.2) ?_ ?_ ?_ ?_⟩
 ·exact ⟨rfl,rs[0],none,ER hp,rfl,fun y hy=>by simp at hy⟩
 ·rintro i σ H3 _ ⟨rfl,_⟩
  exact aX.of hl
 ·rintro i v σ H3 hx ⟨rfl,x,v2,hm,rfl,hle⟩
  obtain ⟨y,gy,rfl⟩:=Jx hx
  have hy:=mY gy
  have tk:rs.take (i+1)=rs.take i++[y]:=by rw [qF,gy];rfl
  rw?
  refine ⟨y.1,x.1,y.2,x.2,n,n,rfl,hq y hy,hq x hm,by try?,fun o Qc ho2=>?_⟩
  rw?
  refine cE 0#B 0#B
  ·have c':=Qc.mp (jM c)
   rw?
   refine ⟨rfl,y,_,hy,rfl,fun z hz=>?_⟩
   rw [tk] at hz
   rcases dN.mp hz with q | q
   ·have:=hle z q
    grind
   ·obtain rfl:z=y:=by simpa using q
    exact o5
  ·have c':¬x.2<y.2:=fun z=>iH (gY.mpr c) (Qc.mpr z)
   rw?
   refine ⟨rfl,x,_,hm,rfl,fun z hz=>?_⟩
   rw [tk] at hz
   rcases dN.mp hz with q | q
   ·exact hle z q
   ·obtain rfl:z=y:=by simpa using q
    exact jm.mp c'
 ·rintro σ H3 ⟨rfl,x,v2,hm,rfl,hle⟩
  rw?
  refine k x hm fun y hy=>hle y ?_
  have e:(cY rs).length=rs.length:=gJ ..
  rw [e,jH]
  exact hy
theorem nI:aF ["quotients","found","quotient"] ["quotients"] (ah uX):=0#a
theorem Jr (F:cT K "smallest" "smallest" uX f fd) (cM:Dn P w K mg base 1 "order" ["one","other"] iO):bf P w K mg base c7 2 f fd ["quotients"] wC:=by
 refine F.ok nI 0#f 0#b
 ·obtain ⟨l,rs,n,rfl,_⟩:=h
  rfl
 obtain ⟨l,rs,n,rfl,hl,hq,hn,hp,k⟩:=h
 have g0:rs[0]?=some rs[0]:=mX hp
 refine bI ⟨_,(ao (aK 1 nI.nd (Jd.iL K 0#l)) (ao (dP gF rfl (di K 0#l) (cg (i:=2) nI.nd rfl 0#m) (aI (b9 (bF lD (bY cM hr 0#w 0#r) aq (aH _)) (aI (aK 1 nI.nd 0#w)) cF))) (aI (aU 0#r)))),?_⟩
 rw?
 refine cA hl (v:=.ref (rs[0]).1) (gK (j:=0) (by unfold cY;rw [dm,g0];rfl)) ?_
 rw?
 refine eF (iw ?_)
 rw?
 refine ⟨l,rfl,⟨_,aX.of hl⟩,dW (xs:=cY rs) (fun i σ H3=>H3=H∧∃(x:av×Rat) (v:Option V),x∈rs∧σ=[some (.ref l),some (.ref x.1),v]∧∀y∈rs.take i,x.2≤y.2) ?_ ?_ ?_ ?_⟩
 ·exact ⟨rfl,rs[0],none,ER hp,rfl,fun y hy=>by simp at hy⟩
 ·rintro i σ H3 _ ⟨rfl,_⟩
  exact aX.of hl
 ·rintro i v σ H3 hx ⟨rfl,x,v2,hm,rfl,hle⟩
  obtain ⟨y,gy,rfl⟩:=Jx hx
  have hy:=mY gy
  have tk:rs.take (i+1)=rs.take i++[y]:=by rw [qF,gy];rfl
  rw?
  refine ⟨y.1,x.1,y.2,x.2,n,n,rfl,hq y hy,hq x hm,by try?,fun o Qc ho2=>?_⟩
  rw?
  refine cE 0#B 0#B
  ·have c':=ho2.mp (jM c)
   rw?
   refine ⟨rfl,y,_,hy,rfl,fun z hz=>?_⟩
   rw [tk] at hz
   rcases dN.mp hz with q | q
   ·have:=hle z q
    grind
   ·obtain rfl:z=y:=by simpa using q
    exact o5
  ·have c':¬y.2<x.2:=fun z=>iH (gY.mpr c) (ho2.mpr z)
   rw?
   refine ⟨rfl,x,_,hm,rfl,fun z hz=>?_⟩
   rw [tk] at hz
   rcases dN.mp hz with q | q
   ·exact hle z q
   ·obtain rfl:z=y:=by simpa using q
    exact jm.mp c'
 ·rintro σ H3 ⟨rfl,x,v2,hm,rfl,hle⟩
  rw?
  refine k x hm fun y hy=>hle y ?_
  have e:(cY rs).length=rs.length:=gJ ..
  rw [e,jH]
  exact hy
theorem Aq (F:cT K "loose_slope" "loose_slope" iN f fd) (aS:Dn P w K mg base 1 "loose_minus" ["one","other"] (iB (·-·) 1)):bf P w K mg base c7 3 f fd ["one","other"] lZ:=by
 refine F.ok cV 0#f 0#b
 ·obtain ⟨p,r,t,t',q,q',n,n',m,rfl,_⟩:=h
  rfl
 obtain ⟨p,r,t,t',q,q',n,n',m,rfl,⟨v,hp,hv,zt⟩,⟨v',hr',hv',zt'⟩,ht,hn,k⟩:=h
 refine bI ⟨_,(ao (aK 2 cV.nd (bY aS hr (aJ K 0#r) (aJ K 0#l))) (ao (aK 3 cV.nd (aG bP (aJ K 0#r) (aJ K 0#l))) (ao (b9 (bF lD (aa 3) aq (aH _)) (aI (aU (bG (bC (eV cW (aJ K 0#w)) (aG aP (aJ K 0#w) (eV cW (aa 3))))))) cF) (aI (aU (bG (bC (aJ K 0#w) (aG aP (aJ K 0#w) (aa 3))))))))),?_⟩
 rw?
 refine ⟨v',v,q',q,n',n,rfl,hv',hv,by try?,fun x H1 s1 e1=>?_⟩
 obtain ⟨a,b,hx,hq,za,zb⟩:=e1
 have hp1:=s1 _ _ hp
 have hr1:=s1 _ _ hr'
 have zs:Sz (m+1) (t'-t):=zt'.sub zt
 rw?
 refine cE 0#B 0#B
 ·have c':t'-t<0:=jM c
  try?
 ·rw?
  refine fF (bQ zb zs 0#d) ?_
  rw?
  refine aE (mk:=.tup) 0#e fun y H2 s2 n2 e2=>?_
  have q2:=hq.div (s:=t'-t) 0#d
  rw [qG] at q2
  exact k y H2 (s1.trans s2) ⟨_,_,e2,q2,za.mono 0#d,(zb.mul zs).mono 0#d⟩
theorem bN:aF ["samples","first","bound","start","found","gentlest","steepest","place","moment","value","steep","gentle","steeper"] ["samples","first","bound"] (ah ou):=0#a
theorem BL (F:cT K "good_behind" "good_behind" ou f fd) (T:Txt mg) (cM:Dn P w K mg base 1 "order" ["one","other"] iO) (bO:Dn P w K mg base 1 "loose_plus" ["one","other"] (iB (·+·) 1)) (aS:Dn P w K mg base 1 "loose_minus" ["one","other"] (iB (·-·) 1))
 (bL:Dn P w K mg base 3 "loose_slope" ["one","other"] lZ) (c8:Dn P w K mg base 2 "greatest" ["quotients"] tu) (fX:Dn P w K mg base 2 "smallest" ["quotients"] wC):bf P w K mg base c7 4 f fd ["samples","first","bound"] Hq:=by
 refine F.ok bN 0#f 0#b
 ·obtain ⟨l,pb,es,i,n,nb,β,rfl,_⟩:=h
  rfl
 obtain ⟨l,pb,es,i,n,nb,β,rfl,hl,hR,hS,dX,hi,mC,hb,hn,hnb,k⟩:=h
 obtain ⟨xi,gi,fi⟩:=cI hR hS hi
 refine bI ⟨_,(ao (aK 3 bN.nd (bD (fK K) 0#l 0#r 0#h)) (ao (aK 4 bN.nd (dg dY)) (ao (aK 5 bN.nd dH) (ao (aK 6 bN.nd dH) (ao (dP gF rfl (vD rfl T.range (bC (aG aV 0#r aq) (gB K T.gc 0#l))) (cg (i:=7) bN.nd rfl 0#m) (ao (aK 8 bN.nd (aJ K (bD (fK K) 0#l (aa 7) 0#h))) (ao (aK 9 bN.nd (aJ K (bD (fK K) 0#l (aa 7) 0#h))) (ao (aK 10 bN.nd (bY bL hr (aa 3) (bD (fK K) 0#l (aa 7) 0#h))) (ao (aK 11 bN.nd (bY bL hr (aa 3) (bG (bC (aa 8) (bY aS hr (aa 9) 0#w))))) (ao (aK 12 bN.nd (bY bL hr (aa 3) (bG (bC (aa 8) (bY bO hr (aa 9) 0#w))))) (ao (b9 (bF uM (aa 5) dH (aH _)) (ao (aK 5 bN.nd (aa 11)) (ao (aK 6 bN.nd (aa 12)) (ao (dZ (fZ K (aa 4) (aa 7)) (hs:=dM)) (aI Jd.rC)))) cF) (ao (b9 (Jd.xA (rf (bF EA (bY cM hr (aa 5) (aa 10)) aq (aH _)) (tY (bF EA (bY cM hr (aa 10) (aa 6)) aq (aH _))))) (aI (dZ (fZ K (aa 4) (aa 7)) (hs:=dM))) cF) (ao (aK 5 bN.nd (Jd.c1 c8 hr (dg (bC (aa 5) (aa 11))))) (aI (aK 6 bN.nd (Jd.c1 fX hr (dg (bC (aa 6) (aa 12))))))))))))))) (aI (aU (aa 4)))))))),?_⟩
 rw?
 refine cA hl (dh gi rfl) ?_
 rw?
 refine aE (mk:=.lst) 0#e fun R H1 s1 n1 e1=>?_
 rw?
 refine eF (pV ?_)
 rw?
 refine cP (.inl (aX.of (s1 _ _ hl))) ?_
 rw [aO]
 rw?
 refine ⟨_,_,rfl,⟨by lia,by lia,by lia,by lia⟩,cX (fun m σ H3=>Xs9 fun (js:List Nat) (gv sv:V) (v7 v8 v9 v10 v11 HD:Option V)=>σ=[some (.ref l),some (.int i),some (.ref pb),some (.ref xi.1),some (.ref R),some gv,some sv,v7,v8,v9,v10,v11,HD] ∧
  au H H3∧H3 R=some (.lst (fO js))∧js.length≤m∧(∀j,j∈js↔i<j∧j<i+1+m∧Good es β i j)∧((m=0∧gv=.bM)∨(0<m∧∃(pg ps:av) (G S:Rat),gv=.ref pg∧sv=.ref ps∧bS H3 pg G (3*n+nb+3)∧bS H3 ps S (3*n+nb+3) ∧
   (∀k,i<k→k<i+1+m→fB es β i k≤G∧S≤c6 es β i k)∧(∃k,i<k∧k<i+1+m∧fB es β i k=G)∧∃k,i<k∧k<i+1+m∧c6 es β i k=S))) ?_ ?_ ?_⟩
 ·exact ⟨[],.bM,.bM,none,none,none,none,none,none,rfl,s1,e1,mW _,fun j=>⟨fun z=>absurd z 0#e,fun z=>absurd z 0#d⟩,.inl ⟨rfl,rfl⟩⟩
 ·rintro m σ H3 hm ⟨js,gv,sv,v7,v8,v9,v10,v11,HD,rfl,s3,e3,hlen,U1,hI⟩
  refine eU fun M Bk RR hM _ _=>?_
  have hp:i+1+m<es.length:=by try?
  obtain ⟨xp,gp,fp⟩:=cI (hR.up s3) hS hp
  obtain ⟨vp,ep,fvp,ztp⟩:=id fp
  have ht:=gV dX (show i<i+1+m by try?) hp
  have hl3:=s3 _ _ hl
  rw?
  refine cA hl3 (dh gp 0#d) ?_
  rw?
  refine cA hl3 (dh gp 0#d) ?_
  rw?
  refine cA hl3 (dh gp 0#d) ?_
  rw?
  refine ⟨xi.1,xp.1,_,_,_,_,n,n,n,rfl,(fi.up s3).XD,fp.XD,ht,by try?,fun ps4 H4 s4 f4=>?_⟩
  rw?
  refine ⟨vp,pb,_,_,n,nb,rfl,(fvp.up s4).qt,hb.up (s3.trans s4),by try?,fun y5 H5 s5 f5=>?_⟩
  rw?
  refine aE (mk:=.tup) 0#e fun y6 H6 s6 n6 e6=>?_
  have U7:=s4.trans (s5.trans s6)
  refine ⟨xi.1,y6,_,_,_,_,n,n+nb+1,n,rfl,(fi.up (s3.trans U7)).XD,⟨y5,e6,f5.up s6,ztp⟩,ht,by try?,fun pg7 H7 s7 f7=>?_⟩
  rw?
  have s37:=U7.trans s7
  refine ⟨vp,pb,_,_,n,nb,rfl,(fvp.up s37).qt,hb.up (s3.trans s37),by try?,fun y8 H8 s8 f8=>?_⟩
  rw?
  refine aE (mk:=.tup) 0#e fun y9 H9 s9 n9 e9=>?_
  have s39:=s37.trans (s8.trans s9)
  refine ⟨xi.1,y9,_,_,_,_,n,n+nb+1,n,rfl,(fi.up (s3.trans s39)).XD,⟨y8,e9,f8.up s9,ztp⟩,ht,by try?,fun L5 tU oV f10=>?_⟩
  have DU:=s39.trans oV
  have SR:=s8.trans (s9.trans oV)
  have Di:=DU _ _ e3
  have aaM:bS tU pg7 (fB es β i (i+1+m)) (3*n+nb+3):=(f7.up SR).mono 0#d
  have Rm:bS tU L5 (c6 es β i (i+1+m)) (3*n+nb+3):=f10.mono 0#d
  have ads:bS tU ps4 (WS es i (i+1+m)) (3*n+2):=(f4.up ((s5.trans (s6.trans s7)).trans SR)).mono 0#d
  have adu:((i:Int)+1+(m:Int))=((i+1+m:Nat):Int):=by try?
  rw?
  rcases hI with ⟨rfl,rfl⟩ | ⟨hm0,pg,ps,G,S,rfl,rfl,hG,hS2,hall,acm,acn⟩
  ·refine ⟨rfl,?_⟩
   rw?
   refine cu ?_
   rw?
   refine ⟨.inl ⟨rfl,_,aX.of Di⟩,?_⟩
   rw?
   rw [adu]
   refine cz Di (by rw [jg];exact aN 0#d) ?_
   rw?
   refine hM _ _ ⟨js++[i+1+0],_,_,_,_,_,_,_,_,rfl,aY (s3.trans DU) n1,by rw [aA,← pQ],by rw [fq];show js.length+1≤1;try?,fun j=>?_,.inr ⟨by try?,pg7,L5,_,_,rfl,rfl,aaM.app Di,Rm.app Di,fun k h1 h2=>?_,⟨i+1+0,by try?,by try?,rfl⟩,⟨i+1+0,by try?,by try?,rfl⟩⟩⟩
   ·have hj0:js=[]:=NV.mp 0#d
    rw [hj0]
    constructor
    ·intro z
     obtain rfl:j=i+1+0:=by simpa using z
     exact ⟨by try?,by try?,fun k h1 h2=>by try?⟩
    ·rintro ⟨h1,h2,_⟩
     have:j=i+1+0:=by try?
     simp [this]
   ·obtain rfl:k=i+1+0:=by try?
    exact ⟨o5,o5⟩
  ·refine ⟨rfl,?_⟩
   rw?
   refine bU ?_
   have hgood:∀{P:Prop},(G≤WS es i (i+1+m)∧WS es i (i+1+m)≤S)=P→(Good es β i (i+1+m)↔P):=fun e=>by
    rw [← e]
    constructor
    ·intro g
     obtain ⟨k1,a1,b1,c1⟩:=acm
     obtain ⟨k2,a2,b2,c2⟩:=acn
     exact ⟨by rw [← c1];exact ((vA dX a1 b1 hp).mp (g k1 a1 b1)).1,by rw [← c2];exact ((vA dX a2 b2 hp).mp (g k2 a2 b2)).2⟩
    ·rintro ⟨g1,g2⟩ k h1 h2
     obtain ⟨l1,l2⟩:=hall k h1 h2
     exact (vA dX h1 h2 hp).mpr ⟨by grind,by grind⟩
   have keep:¬Good es β i (i+1+m)→∀j,j∈js↔i<j∧j<i+1+(m+1)∧Good es β i j:=fun ng j=>by
    rw [U1 j]
    constructor
    ·rintro ⟨a,b,c⟩
     exact ⟨a,by try?,c⟩
    ·rintro ⟨a,b,c⟩
     refine ⟨a,?_,c⟩
     by_cases hj:j=i+1+m
     ·subst hj
      exact absurd c ng
     ·try?
   have more:Good es β i (i+1+m)→∀j,j∈js++[i+1+m]↔i<j∧j<i+1+(m+1)∧Good es β i j:=fun g j=>by
    rw [dN,U1 j,EM]
    constructor
    ·rintro (⟨a,b,c⟩ | rfl)
     ·exact ⟨a,by try?,c⟩
     ·exact ⟨by try?,by try?,g⟩
    ·rintro ⟨a,b,c⟩
     by_cases hj:j=i+1+m
     ·exact .inr hj
     ·exact .inl ⟨a,by try?,c⟩
   with_reducible refine Sy ?_
   with_reducible refine jE (fun σ' H'=>∃Qe:List Nat,σ'=[some (.ref l),some (.int (i:Int)),some (.ref pb),some (.ref xi.1),some (.ref R),some (.ref pg),some (.ref ps),some (.int ((i:Int)+1+(m:Int))),some (.int (mo es (i+1+m))),some (.ref vp),some (.ref ps4),some (.ref pg7),some (.ref L5)]∧au H H'∧(∀{p:av} {q:Rat},bS tU p q (3*n+nb+3)→bS H' p q (3*n+nb+3))∧H' R=some (.lst (fO Qe))∧Qe.length≤m+1∧∀j,j∈Qe↔i<j∧j<i+1+(m+1)∧Good es β i j) (fun σ' H' hP=>?_) (fun N hN=>?_)
   rotate_left
   ·rw?
    refine ⟨pg,ps4,_,_,_,_,rfl,hG.up DU,ads,by try?,fun o Qc ho2=>?_⟩
    have no:¬Good es β i (i+1+m)→N _ tU:=fun ng=>hN _ _ ⟨js,rfl,s3.trans DU,fun f=>f,Di,by try?,keep ng⟩
    rw?
    refine cE (fun c1=>?_) (fun c1=>?_)
    ·have tH:G≤WS es i (i+1+m):=jm.mp fun z=>by
      have:=Qc.mpr z
      have:=jM c1
      try?
     rw?
     refine ⟨ps4,ps,_,_,_,_,rfl,ads,hS2.up DU,by try?,fun o2 ho3 ho4=>?_⟩
     rw?
     refine cE (fun c2=>?_) (fun c2=>?_)
     ·have Vn:WS es i (i+1+m)≤S:=jm.mp fun z=>by
       have:=ho3.mpr z
       have:=jM c2
       try?
      rw?
      refine ⟨.inl ⟨rfl,_,aX.of Di⟩,?_⟩
      rw?
      refine cz Di (by rw [jg];exact aN 0#d) ?_
      exact hN _ _ ⟨js++[i+1+m],rfl,aY (s3.trans DU) n1,fun f=>f.app Di,by rw [aA,adu,← pQ],by rw [fq];show js.length+1≤m+1;try?,more ((hgood rfl).mpr ⟨tH,Vn⟩)⟩
     ·rw?
      refine no fun g=>?_
      have h1:¬0<o2:=fun q=>by
       have:=ho3.mp q
       have:=((hgood rfl).mp g).2
       grind
      have h2:=iH (gY.mpr c2)
      try?
    ·refine bU ?_
     rw?
     refine no fun g=>?_
     have h1:¬0<o:=fun q=>by
      have:=Qc.mp q
      have:=((hgood rfl).mp g).1
      grind
     have h2:=iH (gY.mpr c1)
     try?
   obtain ⟨Qe,rfl,sH,lq,eR',hl',aeO⟩:=hP
   rw?
   refine aE (mk:=.lst) 0#e fun l12 H12 s12 n12 Xd=>?_
   rw?
   refine ⟨l12,[(pg,G),(pg7,fB es β i (i+1+m))],3*n+nb+3,rfl,Xd,fun x hx=>?_,by try?,UD _,fun x hx tM=>?_⟩
   ·rcases (show x=(pg,G)∨x=(pg7,fB es β i (i+1+m)) by simpa using hx) with rfl | rfl
    ·exact (lq (hG.up DU)).up s12
    ·exact (lq aaM).up s12
   rw?
   refine aE (mk:=.lst) 0#e fun l13 H13 xr n13 P9=>?_
   rw?
   refine ⟨l13,[(ps,S),(L5,c6 es β i (i+1+m))],3*n+nb+3,rfl,P9,fun y hy=>?_,by try?,UD _,fun y hy hmin=>?_⟩
   ·rcases (show y=(ps,S)∨y=(L5,c6 es β i (i+1+m)) by simpa using hy) with rfl | rfl
    ·exact (lq (hS2.up DU)).up (s12.trans xr)
    ·exact (lq Rm).up (s12.trans xr)
   rw?
   have t8:=s12.trans xr
   have hx':(x=(pg,G)∨x=(pg7,fB es β i (i+1+m))):=by simpa using hx
   have hy':(y=(ps,S)∨y=(L5,c6 es β i (i+1+m))):=by simpa using hy
   have x1:=tM (pg,G) 0#e
   have x2:=tM (pg7,fB es β i (i+1+m)) 0#e
   have y1:=hmin (ps,S) 0#e
   have y2:=hmin (L5,c6 es β i (i+1+m)) 0#e
   refine hM _ _ ⟨Qe,_,_,_,_,_,_,_,_,rfl,sH.trans t8,t8 _ _ eR',hl',aeO,.inr ⟨by try?,x.1,y.1,x.2,y.2,rfl,rfl,?_,?_,fun k h1 h2=>?_,?_,?_⟩⟩
   ·rcases hx' with rfl | rfl
    ·exact (lq (hG.up DU)).up t8
    ·exact (lq aaM).up t8
   ·rcases hy' with rfl | rfl
    ·exact (lq (hS2.up DU)).up t8
    ·exact (lq Rm).up t8
   ·by_cases hk:k=i+1+m
    ·subst hk
     exact ⟨x2,y2⟩
    ·obtain ⟨l1,l2⟩:=hall k h1 0#d
     exact ⟨yS l1 x1,yS y1 l2⟩
   ·rcases hx' with rfl | rfl
    ·obtain ⟨k1,a1,b1,c1⟩:=acm
     exact ⟨k1,a1,by try?,c1⟩
    ·exact ⟨i+1+m,by try?,by try?,rfl⟩
   ·rcases hy' with rfl | rfl
    ·obtain ⟨k1,a1,b1,c1⟩:=acn
     exact ⟨k1,a1,by try?,c1⟩
    ·exact ⟨i+1+m,by try?,by try?,rfl⟩
 ·rintro σ H3 ⟨js,gv,sv,v7,v8,v9,v10,v11,HD,rfl,s3,e3,hlen,U1,hI⟩
  rw?
  have hjl:js.length≤es.length:=by
   clear hI U1
   try?
  refine k R js H3 s3 n1 e3 hjl fun j=>?_
  rw [U1 j]
  have e:i+1+((es.length:Int)-((i:Int)+1)).toNat=es.length:=by
   clear hI U1
   try?
  rw [e]
theorem vZ:aF ["samples","bound","tied","found","first","good"] ["samples","bound","tied"] (ah GZ):=0#a
theorem RY (F:cT K "leaps" "leaps" GZ f fd) (T:Txt mg) (nO:Dn P w K mg base 4 "good_behind" ["samples","first","bound"] Hq):bf P w K mg base c7 5 f fd ["samples","bound","tied"] AO:=by
 refine F.ok vZ 0#f 0#b
 ·obtain ⟨l,pb,es,n,nb,β,aD,rfl,_⟩:=h
  rfl
 obtain ⟨l,pb,es,n,nb,β,aD,rfl,hl,hR,hS,dX,mC,hb,hn,hnb,k⟩:=h
 refine bI ⟨_,(ao (aK 3 vZ.nd (dg dY)) (ao (dP gF rfl (zj rfl T.range (dG (gB K T.gc 0#l))) (cg (i:=4) vZ.nd rfl 0#m) (ao (aK 5 vZ.nd (Jd.c3 nO hr 0#l (aa 4) 0#r)) (aI (dZ (fZ K (aa 3) (rg (nv 0#w) (aa 5) (aG BV (dg (dG (aG aV (aa 4) aq))) (nh (O:=["last"]) (N':=[]) (cap:=[]) rfl (di K (aa 5)) (fun _ _ _ _ _=>(cg (i:=0) (show i8 [("last":Str)] by decide +kernel) rfl 0#m)) (fun _ _ _ _ _=>lC) (fun _ _ _ _ _=>(aG aV 0#l aq)) rfl trivial rfl 0#g rfl 0#g)))) (hs:=dM))))) (aI (aU (aa 3))))),?_⟩
 rw?
 refine aE (mk:=.lst) 0#e fun FF H1 s1 n1 e1=>?_
 rw?
 refine eF (uO ?_)
 rw?
 refine cP (.inl (aX.of (s1 _ _ hl))) ?_
 rw [aO]
 rw?
 refine ⟨_,rfl,by lia,by lia,cX (fun m σ H3=>MV fun (rs:List (av×List Nat)) (v4 v5:Option V)=>σ=[some (.ref l),some (.ref pb),some (.bl aD),some (.ref FF),v4,v5]∧au H H3∧Qo H3 FF rs∧rs.length=m∧Bb es β aD rs) ?_ ?_ ?_⟩
 ·exact ⟨[],none,none,rfl,s1,⟨e1,fun x hx=>absurd hx 0#e⟩,rfl,fun i x hx=>by simp at hx⟩
 ·rintro m σ H3 hm ⟨rs,v4,v5,rfl,s3,hL,hlen,hle⟩
  have hm':m<es.length:=by try?
  rw [show (0:Int)+(m:Int)=(m:Int) by try?]
  rw?
  refine ⟨l,pb,es,m,n,nb,β,rfl,s3 _ _ hl,hR.up s3,hS,dX,hm',mC,hb.up s3,hn,hnb,fun R js H4 s4 nR eR hjl U1=>?_⟩
  have AB:=hL.up s4
  have nRF:R≠FF:=fun z=>by
   rw [z,hL.at_] at nR
   cases nR
  have small:(rs.map fun x=>V.ref x.1).length<sizeLine:=by rw [gJ];exact aN 0#d
    -- one list more
  have fin:∀(R':av) (Qe:List Nat) (H5:Hp) (v4 v5:Option V),au H4 H5→H5 R'=some (.lst (fO Qe))→R'≠FF→Qe.length≤es.length+1→(∀j,j∈Qe↔fM es β aD m j) →
   MV fun (rs':List (av×List Nat)) (w4 w5:Option V)=>[some (.ref l),some (.ref pb),some (.bl aD),some (.ref FF),v4,v5]=[some (.ref l),some (.ref pb),some (.bl aD),some (.ref FF),w4,w5]∧au H (upd H5 FF (.lst (rs.map (fun x=>V.ref x.1)++[.ref R'])))∧Qo (upd H5 FF (.lst (rs.map (fun x=>V.ref x.1)++[.ref R']))) FF rs'∧rs'.length=m+1∧Bb es β aD rs':=by
   intro R' Qe H5 v4 v5 s5 eR' nR' hl' hj'
   refine ⟨rs++[(R',Qe)],v4,v5,rfl,aY ((s3.trans s4).trans s5) n1,(AB.up s5).push eR' nR',by rw [fq,hlen];rfl,fun i x hx=>?_⟩
   by_cases hi:i<rs.length
   ·rw [wX hi] at hx
    exact hle i x hx
   ·rw [yO 0#d] at hx
    have hi2:i-rs.length=0:=by
     have:=(lR.mp hx).1
     simp at this
     try?
    rw [hi2] at hx
    obtain rfl:(R',Qe)=x:=by simpa using hx
    have:i=m:=by try?
    subst this
    exact ⟨hl',hj'⟩
  rw?
  refine ⟨.inl ⟨rfl,_,aX.of AB.at_⟩,?_⟩
  rw?
  cases aD with
  | true=>
    refine cu ?_
    rw?
    refine cz AB.at_ small ?_
    exact fin R js H4 _ _ (au.refl _) eR nRF 0#d fun j=>by
     unfold fM
     rw [if_pos rfl]
     exact U1 j
  | false=>
    refine bU ?_
    rw?
    refine aE (mk:=.lst) 0#e fun l5 H5 s5 n5 e5=>?_
    rw?
    refine iw ?_
    rw?
    refine ⟨R,rfl,⟨_,aX.of (s5 _ _ eR)⟩,?_⟩
    refine cC (xs:=fO js) bV (fun H6 s6=>aX.of (s6 _ _ (s5 _ _ eR))) (by rw [jg];try?) (fun i ys G=>ys=fO ((js.take i).map (·+1))) rfl ?_ ?_
    ·rintro D i x ys H6 jK N N0 h0 hD eD s6 hx hy rfl kY kN
     obtain ⟨j,gj,rfl⟩:=Je hx
     have tk:js.take (i+1)=js.take i++[j]:=by rw [qF,gj];rfl
     refine fD h0 ?_
     rw?
     refine cu ?_
     rw?
     refine kY _ H6 (au.refl _) ?_
     rw [tk,i9]
     exact pQ _ (j+1)
    ·rintro D ys H6 hD eD s6 hy rfl
     rw [jg,jH] at eD
     refine Jy (s6 _ _ e5) eD ?_
     refine aE (mk:=.lst) (by rw [fq,jg,gJ];simp;try?) fun R7 H7 s7 n7 e7=>?_
     have s47:=s5.trans (s6.trans s7)
     have e7':H7 R7=some (.lst (fO ((m+1)::js.map (·+1)))):=e7
     rw?
     refine cz (AB.up s47).at_ small ?_
     refine fin R7 ((m+1)::js.map (·+1)) H7 _ _ s47 e7' (fun z=>?_) (by simp;try?) fun j=>?_
     ·rw [z,((AB.up s5).up s6).at_] at n7
      cases n7
     ·unfold fM
      rw [if_neg dD,qv,gP]
      constructor
      ·rintro (rfl | ⟨j',hj',rfl⟩)
       ·exact ⟨hm',.inl rfl⟩
       ·obtain ⟨a,b,c⟩:=(U1 j').mp hj'
        exact ⟨hm',.inr ⟨by try?,by try?,c⟩⟩
      ·rintro ⟨_,rfl | ⟨a,b,c⟩⟩
       ·exact .inl rfl
       ·exact .inr ⟨j-1,(U1 (j-1)).mpr ⟨by try?,by try?,c⟩,by try?⟩
 ·rintro σ H3 ⟨rs,v4,v5,rfl,s3,hL,hlen,hle⟩
  rw?
  exact k FF rs H3 s3 n1 hL 0#d hle
theorem ady (N:Nat) (h:1≤N):[V.int 0]++(kB ((N:Int)-1).toNat [V.int (N:Int)]).flatten=gU N (fun j=>if j=0 then 0 else (N:Int)):=by
 obtain ⟨m,rfl⟩:∃m,N=m+1:=⟨N-1,by try?⟩
 have e:(((m+1:Nat):Int)-1).toNat=m:=by try?
 rw [e]
 unfold gU
 apply YD
 intro i
 by_cases hi:i<m+1
 ·rw [vJ hi]
  cases i with
  | zero=>rfl
  | succ i=>
    show ((kB m [V.int ((m+1:Nat):Int)]).flatten)[i]?=_
    rw [show (kB m [V.int ((m+1:Nat):Int)]).flatten=kB m (V.int ((m+1:Nat):Int)) from List.flatten_replicate_singleton]
    rw [TZ,if_pos 0#d]
    rfl
 ·rw [Yc (by rw [fq,len_rep];simp;try?),Yc (by simp;try?)]
theorem jz:aF ["found","many","told","first","behind","last"] ["found","many"] (ah rJ):=0#a
theorem Gi (F:cT K "labels_by" "labels_by" rJ f fd) (T:Txt mg):bf P w K mg base c7 1 f fd ["found","many"] wm:=by
 refine F.ok jz 0#f 0#b
 ·obtain ⟨FF,rs,N,L,rfl,_⟩:=h
  rfl
 obtain ⟨FF,rs,N,L,rfl,hF,h1,mC,hNr,hrN,hrs,aaq,hs,k⟩:=h
 refine bI ⟨_,(ao (aK 2 jz.nd (aG BV (dg (dG aq)) (aG LO (dg (dG 0#r)) (aG bP 0#r aq)))) (ao (dP gF rfl (Jd.AH K rfl T.Bo (dG 0#l)) (Jd.Qf K (n:=2) rfl (gM (cg (i:=3) jz.nd rfl 0#m) (gM (cg (i:=4) jz.nd rfl 0#m) qZ))) (aI (dP gF rfl (di K (aa 4)) (cg (i:=5) jz.nd rfl 0#m) (aI (Jd.yg (fU (aaP rfl) rfl T.Wa N1 (bC (bD (fK K) 0#w (aa 5) 0#h) (aG aV (bD (fK K) 0#w (aa 3) 0#h) aq)) (he:=qD) (hpl:=(cD JI cB))) (Jd.L3 0#w (aa 5) set_list)))))) (aI (aU 0#w)))),?_⟩
 rw?
 refine aE (mk:=.lst) 0#e fun l1 H1 s1 n1 e1=>?_
 rw?
 refine aE (mk:=.lst) 0#e fun l2 H2 s2 n2 e2=>?_
 rw?
 refine SD e2 0#c 0#c ?_
 refine aE (mk:=.lst) (by rw [len_rep];simp;try?) fun l3 H3 s3 n3 e3=>?_
 rw?
 refine Jy (s3 _ _ (s2 _ _ e1)) e3 ?_
 refine aE (mk:=.lst) (by rw [fq,len_rep];simp;try?) fun R H4 s4 n4 e4=>?_
 rw [ady N h1] at e4
 have mK:=s1.trans (s2.trans s3)
 have nR:H R=none:=mK.free n4
 have vg:=mK.trans s4
 rw?
 refine eF (Sx ?_)
 rw?
 refine ⟨FF,_,rfl,aX.of (hF.up vg).at_,Q4 (xs:=rs.map fun x=>V.ref x.1) (fun g σ H5=>P5 fun (t:Nat→Int) (v3 v4 v5:Option V)=>σ=[some (.ref FF),some (.int (N:Int)),some (.ref R),v3,v4,v5]∧au H H5∧H5 R=some (.lst (gU N t))∧pL L N g t) ?_ ?_ ?_ ?_⟩
 ·exact ⟨_,none,none,none,rfl,vg,e4,pL.start⟩
 ·rintro g σ H5 _ ⟨t,v3,v4,v5,rfl,s5,_⟩
  exact aX.of (hF.up s5).at_
 ·rintro g v σ H5 p H6 hx ⟨t,v3,v4,v5,rfl,s5,e5,hT⟩ s6 np ep
  rw [dm] at hx
  obtain ⟨x,gx,rfl⟩:=HH.mp hx
  have hg:g<rs.length:=(lR.mp gx).1
  have hgN:g<N:=by try?
  have U5:=hrs g x gx
  have ex:=(hF.each x (mY gx)).1
  have Dp:=s5.trans s6
  have tf0:=hT.lo g hgN
  have tf1:=hT.hi g hgN
  refine lY ep ?_
  rw?
  refine eF (iw ?_)
  rw?
  refine ⟨x.1,rfl,⟨_,aX.of (Dp _ _ ex)⟩,dW (xs:=fO x.2) (fun m σ H7=>Qq fun (u:Nat→Int) (w5:Option V)=>σ=[some (.ref FF),some (.int (N:Int)),some (.ref R),some (.int (g:Int)),some (.ref x.1),w5]∧au H H7∧H7 R=some (.lst (gU N u)) ∧
   ∀j,j<N→(j∈x.2.take m→u j=if t g+1<t j then t g+1 else t j)∧(j∉x.2.take m→u j=t j)) ?_ ?_ ?_ ?_⟩
  ·exact ⟨t,_,rfl,Dp,s6 _ _ e5,fun j _=>⟨fun z=>by simp at z,fun _=>rfl⟩⟩
  ·rintro m σ H7 _ ⟨u,w5,rfl,s7,_⟩
   exact aX.of (s7 _ _ ex)
  ·rintro m v σ H7 hv ⟨u,w5,rfl,s7,e7,hu⟩
   obtain ⟨j,gj,rfl⟩:=Je hv
   have hj:=(U5 j).mp (mY gj)
   obtain ⟨hgj,hjN⟩:=aaq g j hj
   have tk:x.2.take (m+1)=x.2.take m++[j]:=by rw [qF,gj];rfl
   have ng:g∉x.2.take m:=fun z=>by
    have:=aaq g g ((U5 g).mp (Yj z))
    try?
   have ug:=(hu g hgN).2 ng
   rw?
   refine NH ?_
   rw?
   refine cA e7 (jv hjN rfl) ?_
   rw?
   refine cA e7 (jv hgN rfl) ?_
   rw?
   refine abm e7 (j:=j) (by rw [lW];exact Rx 0#d 0#d) ?_
   refine ⟨fun i=>if i=j then (if u g+1<u j then u g+1 else u j) else u i,_,rfl,aY s7 nR,?_,fun i hi=>?_⟩
   ·rw [aA]
    unfold gU
    rw [DF]
    refine congrArg (fun z=>some (HO.lst z)) (T7 fun i _=>?_)
    by_cases e:i=j
    ·simp [e]
    ·simp [e]
   ·rw [tk,ug]
    obtain ⟨hu1,hu2⟩:=hu i hi
    refine ⟨fun z=>?_,fun z=>?_⟩
    ·by_cases e:i=j
     ·subst e
      show (if i=i then _ else _)=_
      rw [if_pos rfl]
      by_cases hm:i∈x.2.take m
      ·rw [hu1 hm]
       by_cases q:t g+1<t i
       ·rw [if_pos q,if_neg 0#d]
       ·rw [if_neg q,if_neg q]
      ·rw [hu2 hm]
     ·show (if i=j then _ else _)=_
      rw [if_neg e]
      rcases dN.mp z with q | q
      ·exact hu1 q
      ·exact absurd (by simpa using q) e
    ·have e:i≠j:=fun q=>z (by rw [q];simp)
     show (if i=j then _ else _)=_
     rw [if_neg e]
     exact hu2 fun q=>z (EK _ q)
  ·rintro σ H7 ⟨u,w5,rfl,s7,e7,hu⟩
   rw [jg,jH] at hu
   refine ⟨u,_,_,_,rfl,s7,e7,hT.step (fun j hj=>(aaq g j hj).1) (fun j hj=>⟨fun z=>(hu j hj).1 ((U5 j).mpr z),fun z=>(hu j hj).2 fun q=>z ((U5 j).mp q)⟩) hgN⟩
 ·rintro σ H5 ⟨t,v3,v4,v5,rfl,s5,e5,hT⟩
  rw [gJ] at hT
  rw?
  exact k R t H5 s5 nR e5 (hT.done hs 0#d)
theorem PJ:aF ["samples","bound","tied"] ["samples","bound","tied"] (ah Ck):=0#a
theorem Pq (F:cT K "labels" "labels" Ck f fd) (T:Txt mg) (sM:Dn P w K mg base 5 "leaps" ["samples","bound","tied"] AO) (jb:Dn P w K mg base 1 "labels_by" ["found","many"] wm):bf P w K mg base c7 6 f fd ["samples","bound","tied"] CC:=by
 refine F.ok PJ 0#f 0#b
 ·obtain ⟨l,pb,es,n,nb,β,aD,rfl,_⟩:=h
  rfl
 obtain ⟨l,pb,es,n,nb,β,aD,rfl,hl,hR,hS,dX,h1,aeG,hb,hn,hnb,k⟩:=h
 refine bI ⟨_,(aI (aU (bY jb hr (Jd.c3 sM hr 0#l 0#r 0#w) (rg (nv 0#w) (gB K T.gc 0#l) (aG aV (gB K T.gc 0#l) aq))))),?_⟩
 rw?
 refine ⟨l,pb,es,n,nb,β,aD,rfl,hl,hR,hS,dX,by try?,hb,hn,hnb,fun FF rs H1 s1 nF hF hlen hle=>?_⟩
 rw?
 have s1l:=s1 _ _ hl
 cases aD with
 | true=>
   refine cu ?_
   rw?
   refine cP (.inl (aX.of s1l)) ?_
   rw [aO]
   rw?
   refine ⟨FF,rs,es.length,fM es β true,rfl,hF,h1,by try?,by try?,by try?,fun i x hx=>(hle i x hx).2,fun i j hL=>?_,fun j h0 hj=>?_,fun R t H2 s2 nR eR hf=>?_⟩
   ·unfold fM at hL
    rw [if_pos rfl] at hL
    exact ⟨hL.1,hL.2.1⟩
   ·unfold fM
    rw [if_pos rfl]
    exact ⟨by try?,hj,fun k h1 h2=>by try?⟩
   ·exact k R t H2 (s1.trans s2) (s1.free nR) (by rw [if_pos rfl];exact eR) (by rw [if_pos rfl];exact hf)
 | false=>
   refine bU ?_
   rw?
   refine cP (.inl (aX.of s1l)) ?_
   rw [aO]
   rw?
   refine ⟨FF,rs,es.length+1,fM es β false,rfl,hF,by try?,by try?,by try?,by try?,fun i x hx=>(hle i x hx).2,fun i j hL=>?_,fun j h0 hj=>?_,fun R t H2 s2 nR eR hf=>?_⟩
   ·unfold fM at hL
    rw [if_neg dD] at hL
    rcases hL with ⟨a,rfl | ⟨b,c,_⟩⟩
    ·exact ⟨by try?,by try?⟩
    ·exact ⟨by try?,by try?⟩
   ·unfold fM
    rw [if_neg dD]
    exact ⟨by try?,.inl 0#d⟩
   ·exact k R t H2 (s1.trans s2) (s1.free nR) (by rw [if_neg dD];exact eR) (by rw [if_neg dD];exact hf)
end
theorem Pb {b:Int} (h:es.map (·.2)=hs.map (fun x=>cU b x.2))  (hb:1≤b) (dX:dO hs) (hij:i≤j) (hj:j<hs.length) :
 (∀k,i<k→k<j→((xS hs i k j).natAbs:Int)≤c*(gQ hs j-gQ hs i))↔Good es ((c:Rat)/(b:Rat)) i j:=by
 unfold Good
 by_cases e:i=j
 ·subst e
  exact ⟨fun _ k h1 h2=>by try?,fun _ k h1 h2=>by try?⟩
 ·have ht:=LA dX (show i<j by try?) hj
  have hp:=cast_pos (b:=(gQ hs j-gQ hs i)*b) (wQ 0#d 0#d)
  have hb':=cS (b:=b) 0#d
  have one:∀k,((xS hs i k j).natAbs:Int)≤c*(gQ hs j-gQ hs i)↔dB (sd es i k j)≤(c:Rat)/(b:Rat):=fun k=>by
   have e1:((c:Rat)/(b:Rat))*(((gQ hs j-gQ hs i)*b:Int):Rat)=((c*(gQ hs j-gQ hs i):Int):Rat):=by
    simp only [o9,qG]
    grind
   rw [← NZ,RB h hb ht,← e1]
   constructor
   ·intro z
    exact NP z hp
   ·intro z
    exact yM z (by grind)
  exact ⟨fun z k h1 h2=>(one k).mp (z k h1 h2),fun z k h1 h2=>(one k).mpr (z k h1 h2)⟩
def bh (aD:Bool):Nat:=if aD=true then 0 else 1
theorem oM (hk:k<a) (ha:a<es.length+bh aD):fM es β aD k a↔Good es β k (a-bh aD):=by
 unfold fM bh at *
 cases aD with
 | true=>
   rw [if_pos rfl] at ha ⊢
   rw [if_pos rfl]
   exact ⟨fun z=>z.2.2,fun z=>⟨hk,by try?,z⟩⟩
 | false=>
   rw [if_neg dD] at ha ⊢
   rw [if_neg dD]
   constructor
   ·rintro ⟨_,rfl | ⟨_,_,g⟩⟩
    ·exact fun k' h1 h2=>by try?
    ·exact g
   ·intro g
    refine ⟨by try?,?_⟩
    by_cases e:a=k+1
    ·exact .inl e
    ·exact .inr ⟨by try?,by try?,g⟩
def U6 {α:Type} (c:Nat→Nat→Bool) (v:Nat→Nat→α) (i m:Nat):List α:=((fu m).filter fun q=>c i (i+1+q)).map fun q=>v i (i+1+q)
def DE {α:Type} (c:Nat→Nat→Bool) (v:Nat→Nat→α) (N n:Nat):List α:=(fu n).flatMap fun i=>U6 c v i (N-(i+1))
theorem IY (c:Nat→Nat→Bool) (v:Nat→Nat→α) (i m:Nat):U6 c v i (m+1)=U6 c v i m++(if c i (i+1+m)=true then [v i (i+1+m)] else []):=by
 unfold U6
 rw [vd,D6,i9]
 congr 1
 by_cases h:c i (i+1+m)=true
 ·simp [h]
 ·simp [h]
theorem Eu (c:Nat→Nat→Bool) (v:Nat→Nat→α) (N n:Nat):DE c v N (n+1)=DE c v N n++U6 c v n (N-(n+1)):=by
 unfold DE
 rw [vd,Yn]
 simp
theorem Nm (c:Nat→Nat→Bool) (v:Nat→Nat→α) (i m:Nat):(U6 c v i m).length≤m:=by
 unfold U6
 rw [gJ]
 exact eE (N2 ..) 0#e
theorem IZ (c:Nat→Nat→Bool) (v:Nat→Nat→α) (N:Nat):∀n,(DE c v N n).length≤n*N
 | 0=>by simp [DE]
 | n+1=>by
   rw [Eu,fq]
   have h1:=IZ c v N n
   have h2:=Nm c v n (N-(n+1))
   have e:(n+1)*N=n*N+N:=by rw [UJ,UK]
   try?
open Classical in
def Q2 (s:Nat→Rat) (i j:Nat):Nat:=if h:∃k,jL s i j k then Classical.choose h else 0
theorem Ip (h:jL s i j k):Q2 s i j=k:=by
 unfold Q2
 rw [dif_pos ⟨k,h⟩]
 exact (Classical.choose_spec (⟨k,h⟩:∃k,jL s i j k)).unique h
def jmp (t:Nat→Int) (i j:Nat):Bool:=decide (t j>t i+1)
def three (es:List En) (sh i j:Nat):Int×Int×Int:=(mo es i,mo es (Q2 (fun k=>dB (sd es i k (j-sh))) i (j-sh)),mo es (j-sh))
abbrev Th:=av×Int×Int×Int
def abU (H:Hp) (x:Th):Prop:=H x.1=some (.tup [.int x.2.1,.int x.2.2.1,.int x.2.2.2])
def lu (ts:List Th):List V:=ts.map fun x=>V.ref x.1
theorem JO (ts:List Th) (x:Th):lu ts++[.ref x.1]=lu (ts++[x]):=by simp [lu]
theorem CS (ts:List Th):(lu ts).length=ts.length:=gJ ..
def uq (H:Hp) (ts:List Th):Prop:=∀x∈ts,abU H x
theorem uq.up (h:uq H ts) (s:au H H'):uq H' ts:=fun x hx=>s _ _ (h x hx)
theorem uq.app (f:uq H ts) (h:H R=some (.lst ys)):uq (upd H R o) ts:=fun x hx=>(t6 R H o) _ _ (d9 h (f x hx))
theorem uq.snoc (h:uq H ts) (hx:abU H x):uq H (ts++[x]):=fun y hy=>by
 rcases dN.mp hy with z | z
 ·exact h y z
 ·obtain rfl:y=x:=by simpa using z
  exact hx
inductive Cv (vs:List V) (H:Hp) (Q:VK) (E_:XK):Prop where
 | mk (l T:av) (es:List En) (n:Nat) (β:Rat) (aD:Bool) (t:Nat→Int):vs=[.ref l,.ref T,.bl aD]→H l=some (.lst (vals es))→Row H es n→iR es→rising es→1≤es.length→es.length≤30→n≤900→H T=some (.lst (gU (es.length+bh aD) t))→lH (fM es β aD) (es.length+bh aD) t→(∀(R:av) (ts:List Th) (H':Hp),au H H'→H R=none→H' R=some (.lst (lu ts))→uq H' ts→ts.map (·.2)=DE (jmp t) (three es (bh aD)) (es.length+bh aD) (es.length+bh aD)→Q (.ref R) H')→Cv vs H Q E_
theorem Ry (hF:lH (fM es β aD) (es.length+bh aD) t) (hij:i<j) (hj:j<es.length+bh aD) (afS:t j>t i+1):i+1<j-bh aD∧j-bh aD<es.length∧∃k,i<k∧k<j-bh aD∧β<dB (sd es i k (j-bh aD)):=by
 have hsh:bh aD≤1:=by unfold bh;split <;> try?
 have nL:¬fM es β aD i j:=fun z=>by
  have:=hF.le i j hij hj z
  try?
 rw [oM hij hj] at nL
 have:∃k,i<k∧k<j-bh aD∧β<dB (sd es i k (j-bh aD)):=by
  apply P4
  intro z
  apply nL
  intro k h1 h2
  apply jm.mp
  intro q
  exact z ⟨k,h1,h2,q⟩
 obtain ⟨k,h1,h2,h3⟩:=this
 exact ⟨by try?,by try?,k,h1,h2,h3⟩
section
theorem jX:aF ["samples","told","tied","found","first","last","end","mid"] ["samples","told","tied"] (ah yj):=0#a
theorem LD (F:cT K "bars_by" "bars_by" yj f fd) (T:Txt mg) (jO:Dn P w K mg base 4 "loose_farthest" ["samples","first","last"] MB):bf P w K mg base c7 5 f fd ["samples","told","tied"] Cv:=by
 refine F.ok jX 0#f 0#b
 ·obtain ⟨l,TT,es,n,β,aD,t,rfl,_⟩:=h
  rfl
 obtain ⟨l,TT,es,n,β,aD,t,rfl,hl,hR,hS,dX,h1,h30,hn,eT,hF,k⟩:=h
 have hsh:bh aD≤1:=by unfold bh;split <;> try?
 generalize hN:es.length+bh aD=N at *
 refine bI ⟨_,(ao (aK 3 jX.nd (dg dY)) (ao (dP gF rfl (zj rfl T.range (dG (gB K T.gc 0#r))) (cg (i:=4) jX.nd rfl 0#m) (aI (dP gF rfl (vD rfl T.range (bC (aG aV (aa 4) aq) (gB K T.gc 0#r))) (cg (i:=5) jX.nd rfl 0#m) (aI (b9 (bF dI (bD (fK K) 0#r (aa 5) 0#h) (aG aV (bD (fK K) 0#r (aa 4) 0#h) aq) (aH _)) (ao (aK 6 jX.nd (rg (nv 0#w) (aa 5) (aG bP (aa 5) aq))) (ao (aK 7 jX.nd (aJ K (Jd.c3 jO hr 0#l (aa 4) (aa 6)))) (aI (dZ (fZ K (aa 3) (bG (Jd.a3 (aJ K (bD (fK K) 0#l (aa 4) 0#h)) (aJ K (bD (fK K) 0#l (aa 7) 0#h)) (aJ K (bD (fK K) 0#l (aa 6) 0#h))))) (hs:=dM))))) cF))))) (aI (aU (aa 3))))),?_⟩
 rw?
 refine aE (mk:=.lst) 0#e fun R H1 s1 n1 e1=>?_
 rw?
 refine eF (uO ?_)
 rw?
 refine cP (.inl (aX.of (s1 _ _ eT))) ?_
 rw [lW]
 rw?
 refine ⟨_,rfl,by lia,by lia,cX (fun i σ H3=>Xs5 fun (ts:List Th) (v4 v5 v6 v7:Option V)=>σ=[some (.ref l),some (.ref TT),some (.bl aD),some (.ref R),v4,v5,v6,v7]∧au H H3∧H3 R=some (.lst (lu ts))∧uq H3 ts∧ts.map (·.2)=DE (jmp t) (three es (bh aD)) N i) ?_ ?_ ?_⟩
 ·exact ⟨[],none,none,none,none,rfl,s1,e1,fun x hx=>absurd hx 0#e,rfl⟩
 ·rintro i σ H3 hi ⟨ts,v4,v5,v6,v7,rfl,s3,e3,hts,hmap⟩
  have hi':i<N:=by try?
  rw [show (0:Int)+(i:Int)=(i:Int) by try?]
  rw?
  refine eF (pV ?_)
  rw?
  refine cP (.inl (aX.of (s3 _ _ eT))) ?_
  rw [lW]
  rw?
  refine ⟨_,_,rfl,⟨by lia,by lia,by lia,by lia⟩,cX (fun m σ H4=>P5 fun (us:List Th) (w5 w6 w7:Option V)=>σ=[some (.ref l),some (.ref TT),some (.bl aD),some (.ref R),some (.int (i:Int)),w5,w6,w7]∧au H H4∧H4 R=some (.lst (lu us))∧uq H4 us∧us.map (·.2)=DE (jmp t) (three es (bh aD)) N i++U6 (jmp t) (three es (bh aD)) i m) ?_ ?_ ?_⟩
  ·exact ⟨ts,_,_,_,rfl,s3,e3,hts,by rw [hmap];simp [U6]⟩
  ·rintro m σ H4 hm ⟨us,w5,w6,w7,rfl,s4,e4,IT,IS⟩
   have hp:i+1+m<N:=by try?
   rw [show (i:Int)+1+(m:Int)=((i+1+m:Nat):Int) by try?]
   have QU:=s4 _ _ eT
   have U3:=s4 _ _ hl
   rw?
   refine cA QU (jv hp rfl) ?_
   rw?
   refine cA QU (jv hi' rfl) ?_
   rw?
   refine cE (fun c1=>?_) (fun c1=>?_)
   ·have tH:t (i+1+m)>t i+1:=jM c1
    obtain ⟨q1,q2,_⟩:=Ry (by rw [hN];exact hF) (show i<i+1+m by try?) (by rw [hN];exact hp) tH
    have hlen2:us.length≤950:=by
     have e:=congrArg tT IS
     rw [gJ,fq] at e
     have j1:=IZ (jmp t) (three es (bh aD)) N i
     have j2:=Nm (jmp t) (three es (bh aD)) i m
     have:i*N≤29*31:=Y6 0#d 0#d
     try?
    have done:∀(a b cc:Int) (y:av) (H6:Hp) (w5 w6 w7:Option V),au H4 H6→H6 y=some (.tup [.int a,.int b,.int cc])→(a,b,cc)=three es (bh aD) i (i+1+m) →
     P5 fun (us':List Th) (x5 x6 x7:Option V)=>[some (.ref l),some (.ref TT),some (.bl aD),some (.ref R),some (.int (i:Int)),w5,w6,w7]=[some (.ref l),some (.ref TT),some (.bl aD),some (.ref R),some (.int (i:Int)),x5,x6,x7]∧au H (upd H6 R (.lst (lu us++[.ref y])))∧upd H6 R (.lst (lu us++[.ref y])) R=some (.lst (lu us'))∧uq (upd H6 R (.lst (lu us++[.ref y]))) us'∧us'.map (·.2)=DE (jmp t) (three es (bh aD)) N i++U6 (jmp t) (three es (bh aD)) i (m+1):=by
     intro a b cc y H6 w5 w6 w7 s6 ey e3'
     refine ⟨us++[(y,a,b,cc)],w5,w6,w7,rfl,aY (s4.trans s6) n1,by rw [aA];exact congrArg (fun z=>some (HO.lst z)) (JO us (y,a,b,cc)),(uq.snoc (x:=(y,a,b,cc)) (IT.up s6) ey).app (s6 _ _ e4),?_⟩
     rw [i9,IS,IY,if_pos (show jmp t i (i+1+m)=true from jJ tH),zJ]
     congr 2
     show [(a,b,cc)]=_
     rw [e3']
    obtain ⟨xi,gi,vi,ei,_⟩:=cI (hR.up s4) hS (show i<es.length by try?)
    obtain ⟨xj,gj,vj,ej,_⟩:=cI (hR.up s4) hS q2
    rw?
    cases aD with
    | true=>
      refine cu ?_
      rw?
      rw [show ((i+1+m:Nat):Int)=((i+1+m-bh true:Nat):Int) from rfl]
      refine ⟨l,es,i,i+1+m-bh true,n,rfl,U3,hR.up s4,hS,dX,by try?,q2,by try?,hn,fun z=>absurd z 0#d,fun _ z p kk H5 s5 e5 f5 Rk=>?_⟩
      obtain ⟨xk,gk,vk,ek,_⟩:=cI (hR.up (s4.trans s5)) hS (show kk<es.length by have:=Rk.hi;try?)
      have ei5:=s5 _ _ ei
      have ej5:=s5 _ _ ej
      rw?
      refine ⟨.inl ⟨rfl,_,aX.of (s5 _ _ e4)⟩,?_⟩
      rw?
      refine cA (s5 _ _ U3) (dh gi rfl) ?_
      rw?
      refine cA (s5 _ _ U3) (dh gk rfl) ?_
      rw?
      refine cA (s5 _ _ U3) (dh gj rfl) ?_
      rw?
      refine aE (mk:=.tup) 0#e fun y H6 s6 n6 e6=>?_
      rw?
      refine cz ((s5.trans s6) _ _ e4) (by rw [CS];exact aN 0#d) ?_
      refine done _ _ _ y H6 _ _ _ (s5.trans s6) e6 ?_
      unfold three
      rw [Ip Rk]
    | false=>
      refine bU ?_
      rw?
      rw [show ((i+1+m:Nat):Int)-1=((i+1+m-bh false:Nat):Int) by (have:bh false=1:=rfl);try?]
      refine ⟨l,es,i,i+1+m-bh false,n,rfl,U3,hR.up s4,hS,dX,by try?,q2,by try?,hn,fun z=>absurd z 0#d,fun _ z p kk H5 s5 e5 f5 Rk=>?_⟩
      obtain ⟨xk,gk,vk,ek,_⟩:=cI (hR.up (s4.trans s5)) hS (show kk<es.length by have:=Rk.hi;try?)
      have ei5:=s5 _ _ ei
      have ej5:=s5 _ _ ej
      rw?
      refine ⟨.inl ⟨rfl,_,aX.of (s5 _ _ e4)⟩,?_⟩
      rw?
      refine cA (s5 _ _ U3) (dh gi rfl) ?_
      rw?
      refine cA (s5 _ _ U3) (dh gk rfl) ?_
      rw?
      refine cA (s5 _ _ U3) (dh gj rfl) ?_
      rw?
      refine aE (mk:=.tup) 0#e fun y H6 s6 n6 e6=>?_
      rw?
      refine cz ((s5.trans s6) _ _ e4) (by rw [CS];exact aN 0#d) ?_
      refine done _ _ _ y H6 _ _ _ (s5.trans s6) e6 ?_
      unfold three
      rw [Ip Rk]
   ·rw?
    refine ⟨us,_,_,_,rfl,s4,e4,IT,?_⟩
    have tH:¬(jmp t i (i+1+m)=true):=fun z=>c1 z
    rw [IS,IY,if_neg tH,sG]
  ·rintro σ H4 ⟨us,w5,w6,w7,rfl,s4,e4,IT,IS⟩
   refine ⟨us,_,_,_,_,rfl,s4,e4,IT,?_⟩
   rw [IS,Eu]
   congr 2
   try?
 ·rintro σ H3 ⟨ts,v4,v5,v6,v7,rfl,s3,e3,hts,hmap⟩
  rw?
  refine k R ts H3 s3 n1 e3 hts ?_
  rw [hmap]
  congr 1
end
def jt {α β:Type} (R:α→β→Prop):List α→List β→Prop
 | [],[]=>True
 | a::as,b::bs=>R a b∧jt R as bs
 | _,_=>False
theorem mz:∀{as:List α} {bs:List β},jt R as bs→R a b→jt R (as++[a]) (bs++[b])
 | [],[],_,r=>⟨r,trivial⟩
 | _::_,_::_,h,r=>⟨h.1,mz h.2 r⟩
 | [],_::_,h,_=>h.elim
 | _::_,[],h,_=>h.elim
theorem sP:∀{as:List α} {bs:List β},(∀a b,a∈as→R a b→S a b)→jt R as bs→jt S as bs
 | [],[],_,_=>trivial
 | _::_,_::_,u,r=>⟨u _ _ 0#e r.1,sP (fun a b ha=>u a b (by simp [ha])) r.2⟩
 | [],_::_,_,r=>r.elim
 | _::_,[],_,r=>r.elim
theorem lX:∀(i:Nat) (r:List α),r∈parts s es i→r≠[]∧(∀x∈r,s x=true)∧r.Sublist (es.take i)
 | 0,r,h=>absurd h (by simp [parts])
 | i+1,r,h=>by
   have ih:=lX (s:=s) (es:=es) i
   have up:∀r:List α,r.Sublist (es.take i)→r.Sublist (es.take (i+1)):=fun r q=>q.trans (List.take_sublist_take_left (wO _))
   unfold parts at h
   cases e:es[i]? with
   | none=>rw [e] at h;exact ⟨(ih r h).1,(ih r h).2.1,up r (ih r h).2.2⟩
   | some y=>
     rw [e] at h
     have tk:es.take (i+1)=es.take i++[y]:=by rw [qF,e];rfl
     dsimp only at h
     split at h
     ·rename_i hs
      split at h
      ·rename_i hr
       obtain ⟨t,r',hp⟩:=rB hr
       have hm:r'∈parts s es i:=by rw [hp];simp
       have hgl:(parts s es i).getLast?.getD []=r':=by rw [hp];simp
       rcases dN.mp h with z | z
       ·have q:=ih r (Yb _ |>.subset z)
        exact ⟨q.1,q.2.1,up r q.2.2⟩
       ·obtain rfl:r=((parts s es i).getLast?.getD [])++[y]:=by simpa using z
        rw [hgl]
        refine ⟨by simp,fun x hx=>?_,by rw [tk];exact aeq (ih r' hm).2.2 (Ue _)⟩
        rcases dN.mp hx with q | q
        ·exact (ih r' hm).2.1 x q
        ·obtain rfl:x=y:=by simpa using q
         exact hs
      ·rcases dN.mp h with z | z
       ·exact ⟨(ih r z).1,(ih r z).2.1,up r (ih r z).2.2⟩
       ·obtain rfl:r=[y]:=by simpa using z
        refine ⟨by simp,fun x hx=>?_,by rw [tk];exact XM _ _⟩
        obtain rfl:x=y:=by simpa using hx
        exact hs
     ·exact ⟨(ih r h).1,(ih r h).2.1,up r (ih r h).2.2⟩
abbrev Pc:=av×(Rat×Rat×Rat×Rat)
def Bc (H:Hp) (x:Pc) (n:Nat):Prop:=∃a b c d:av,H x.1=some (.tup [.ref a,.ref b,.ref c,.ref d])∧dF H a x.2.1 n∧dF H b x.2.2.1 n∧dF H c x.2.2.2.1 n∧dF H d x.2.2.2.2 n
theorem Bc.mv (t:∀{b:av} {xs:List V},H b=some 0#t→H' b=some 0#t) (f:Bc H x n):Bc H' x n:=by
 obtain ⟨a,b,c,d,e,f1,f2,f3,f4⟩:=f
 have m:∀{b:av} {q:Rat},dF H b q n→dF H' b q n:=fun f=>let ⟨x,d,e,f⟩:=f;⟨x,d,t e,f⟩
 exact ⟨a,b,c,d,t e,m f1,m f2,m f3,m f4⟩
theorem Bc.up (f:Bc H x n) (s:au H H'):Bc H' x n:=f.mv fun e=>s _ _ e
def mH (ps:List Pc):List V:=ps.map fun x=>V.ref x.1
theorem EE (ps:List Pc):(mH ps).length=ps.length:=gJ ..
def AllP (H:Hp) (ps:List Pc) (n:Nat):Prop:=∀x∈ps,Bc H x n
theorem AllP.up (h:AllP H ps n) (s:au H H'):AllP H' ps n:=fun x hx=>(h x hx).up s
theorem AllP.app (h:AllP H ps n) (e:H R=some (.lst ys)):AllP (upd H R o) ps n:=fun x hx=>(h x hx).mv fun {b xs} z=>by
 rw [aM (fun q=>by rw [q,e] at z;cases z)]
 exact z
theorem AllP.append (h:AllP H ps n) (h':AllP H qs n):AllP H (ps++qs) n:=fun x hx=>by
 rcases dN.mp hx with z | z
 ·exact h x z
 ·exact h' x z
theorem TU (Pv:St→Hp→Prop) (μ:St→Hp→Nat) (h0:Pv σ H)
 (hs:∀σ H,Pv σ H→∀R:Bool→Hp→Prop,(∀H1,(∀M:St→Hp→Prop,(∀σ' H',Pv σ' H'→μ σ' H'<μ σ H→M σ' H')→tb { D with nx:=M,ct:=M,bk:=D.nx } σ H1)→R true H1)→(∀H1,D.nx σ H1→R false H1)→c σ H R):CQ c tb D σ H:=by
 refine ⟨fun m σ H=>m=μ σ H∧Pv σ H,⟨_,rfl,h0⟩,?_⟩
 rintro m σ H ⟨rfl,p⟩
 refine hs σ H p _ (fun H1 q=>?_) (fun H1 q=>?_)
 ·rw [if_pos rfl]
  exact ⟨fun σ' H'=>Pv σ' H'∧μ σ' H'<μ σ H,fun σ' H' ⟨p',l⟩=>⟨_,l,rfl,p'⟩,q _ fun _ _ a b=>⟨a,b⟩⟩
 ·rw [if_neg dD]
  exact q
def abP (L:Nat→Nat→Prop) (t:Nat→Int) (a p:Nat):Prop:=a<p∧L a p∧t a+1=t p∧∀k,k<a→¬(L k p∧t k+1=t p)
inductive Way (L:Nat→Nat→Prop) (t:Nat→Int):Nat→List (Nat×Nat)→Prop
 | nil:Way L t 0 []
 | cons {a p:Nat} {ps:List (Nat×Nat)}:abP L t a p→Way L t a ps→Way L t p (ps++[(a,p)])
section
theorem Way.lt (h:Way L t p ps):∀x∈ps,x.1<x.2∧x.2≤p:=by
 induction h with
 | nil=>intro x hx;exact absurd hx 0#e
 | @cons a p ps f w ih=>
   intro x hx
   rcases dN.mp hx with z | z
   ·have:=ih x z
    have:=f.1
    try?
   ·obtain rfl:x=(a,p):=by simpa using z
    exact ⟨f.1,dz _⟩
theorem Way.len (h:Way L t p ps):ps.length≤p:=by
 induction h with
 | nil=>exact dz _
 | cons f w ih=>
   rw [fq,HK]
   have:=f.1
   try?
theorem Ft (h:lH L N t) (h':lH L N t'):∀j,j<N→t j=t' j:=by
 intro j
 induction j using YW with
 | ind j ih=>
   intro hj
   by_cases h0:j=0
   ·subst h0
    rw [h.first,h'.first]
   ·obtain ⟨i,i1,i2,i3⟩:=h.ex j 0#d hj
    obtain ⟨k,k1,k2,k3⟩:=h'.ex j 0#d hj
    have a1:=h'.le i j i1 hj i2
    have a2:=h.le k j k1 hj k2
    have b1:=ih i i1 0#d
    have b2:=ih k k1 0#d
    try?
end
def WA (es:List En) (i j:Nat):Rat×Rat×Rat×Rat:=((mo es i:Rat),wo es i,(mo es j:Rat),wo es j)
def Told (es:List En) (β:Rat) (aD:Bool) (l:List (Rat×Rat×Rat×Rat)):Prop:=∃(t:Nat→Int) (ps:List (Nat×Nat)),lH (fM es β aD) (es.length+bh aD) t∧Way (fM es β aD) t (es.length+bh aD-1) ps∧l=(if es.length+bh aD=1 then [(0,0)] else ps).map (fun x=>WA es x.1 (x.2-bh aD))
theorem BF (h:es.map (·.2)=es'.map (·.2)):fM es β aD=fM es' β aD:=by
 have hl:es.length=es'.length:=by simpa using congrArg tT h
 have hs:∀i k j,sd es i k j=sd es' i k j:=fun i k j=>by
  unfold sd
  rw [(eY h i).1,(eY h i).2,(eY h j).1,(eY h j).2,(eY h k).1,(eY h k).2]
 funext i j
 unfold fM Good
 simp only [hl,hs]
abbrev Pr:=av×Nat×Nat
def DS (ps:List Pr):List V:=ps.map fun x=>V.ref x.1
theorem B7 (ps:List Pr):(DS ps).length=ps.length:=gJ ..
def MO (H:Hp) (ps:List Pr):Prop:=∀x∈ps,H x.1=some (.tup [.int (x.2.1:Int),.int (x.2.2:Int)])
theorem Fw (h:(fu p).filter f=a::r):f a=true∧a<p∧∀k,k<a→f k=false:=by
 have hm:a∈(fu p).filter f:=by rw [h];simp
 have hm':=Df.mp hm
 have ha:=qH.mp hm'.1
 refine ⟨hm'.2,ha,fun k hk=>?_⟩
 cases e:f k with
 | false=>rfl
 | true=>
   have hk':k∈(fu p).filter f:=Df.mpr ⟨qH.mpr 0#d,e⟩
   have hp:((fu p).filter f).Pairwise (·<·):=aeh _ List.pairwise_lt_range
   rw [h] at hk' hp
   rcases qv.mp hk' with z | z
   ·try?
   ·have:=(List.pairwise_cons.mp hp).1 k z
    try?
open Classical in
def goes (L:Nat→Nat→Prop) (t:Nat→Int) (p k:Nat):Bool:=decide (L k p∧t k+1=t p)
theorem IV {j:Nat}:inV (.int (j:Int)) (fO js)=true↔j∈js:=by
 unfold inV fO
 rw [List.any_eq_true]
 constructor
 ·rintro ⟨v,hv,e⟩
  obtain ⟨k,hk,rfl⟩:=gP.mp hv
  have:(k:Int)=(j:Int):=by simpa [UY] using e
  rw [show j=k by try?]
  exact hk
 ·intro h
  exact ⟨_,gP.mpr ⟨j,h,rfl⟩,by simp [UY]⟩
inductive CH (vs:List V) (H:Hp) (Q:VK) (E_:XK):Prop where
 | mk (F T:av) (rs:List (av×List Nat)) (N:Nat) (L:Nat→Nat→Prop) (t:Nat→Int):vs=[.ref F,.ref T]→Qo H F rs→H T=some (.lst (gU N t))→1≤N→N≤900→N≤rs.length+1→(∀i x,rs[i]?=some x→∀j,j∈x.2↔L i j)→lH L N t→(∀(R:av) (ps:List Pr) (H':Hp),au H H'→H R=none→H' R=some (.lst (DS ps))→MO H' ps→Way L t (N-1) (ps.map (·.2))→Q (.ref R) H')→CH vs H Q E_
inductive yC (vs:List V) (H:Hp) (Q:VK) (E_:XK):Prop where
 | mk (x y:av) (m m':Int) (q q':Rat) (n:Nat):vs=[.ref x,.ref y]→iV H x m q n→iV H y m' q' n→1≤n→(∀(p:av) (H':Hp),au H H'→Bc H' (p,(m:Rat),q,(m':Rat),q') n→Q (.ref p) H')→yC vs H Q E_
abbrev Ent:=av×av×av
def vn (H:Hp) (x:Ent) (es:List En) (β:Rat) (aD:Bool):Prop:=∃(t:Nat→Int) (ts:List Th),H x.1=some (.tup [.ref x.2.1,.ref x.2.2])∧H x.2.1=some (.lst (gU (es.length+bh aD) t))∧lH (fM es β aD) (es.length+bh aD) t∧H x.2.2=some (.lst (lu ts))∧uq H ts∧ts.map (·.2)=DE (jmp t) (three es (bh aD)) (es.length+bh aD) (es.length+bh aD)
theorem vn.up (f:vn H x es β aD) (s:au H H'):vn H' x es β aD:=by
 obtain ⟨t,ts,e1,e2,f,e3,e4,e5⟩:=f
 exact ⟨t,ts,s _ _ e1,s _ _ e2,f,s _ _ e3,fun x hx=>s _ _ (e4 x hx),e5⟩
theorem vn.put (f:vn H x es β aD) (hX:H X=some (.lst xs)) (h1:x.2.1≠X) (h2:x.2.2≠X):vn (upd H X o) x es β aD:=by
 obtain ⟨t,ts,e1,e2,f,e3,e4,e5⟩:=f
 have tup:∀{b:av} {ys:List V},H b=some (.tup ys)→upd H X o b=some (.tup ys):=fun {b ys} e=>t6 X H _ _ _ (d9 hX e)
 exact ⟨t,ts,tup e1,by rw [aM h1];exact e2,f,by rw [aM h2];exact e3,fun x hx=>tup (e4 x hx),e5⟩
structure Own (H:Hp) (xs:List Ent):Prop where
 new:∀x∈xs,H x.2.1=none∧H x.2.2=none
 nd:(xs.flatMap fun x=>[x.2.1,x.2.2]).Nodup
inductive yK (vs:List V) (H:Hp) (Q:VK) (E_:XK):Prop where
 | mk (l pb:av) (es:List En) (n nb:Nat) (β:Rat) (aD:Bool):vs=[.ref l,.ref pb,.bl aD]→H l=some (.lst (vals es))→Row H es n→iR es→rising es→1≤es.length→es.length≤30→bS H pb β nb→1≤n→n≤900→nb≤1000→(∀(y X Z:av) (ps:List Pc) (H':Hp),au H H'→H' y=some (.tup [.ref X,.ref Z])→H X=none→H' X=some (.lst (mH ps))→AllP H' ps n→Told es β aD (ps.map (·.2))→∀TT RR:av,vn H' (Z,TT,RR) es β aD→H TT=none→H RR=none→TT≠RR→Q (.ref y) H')→yK vs H Q E_
section
open Classical in
theorem qU:goes L t p k=true↔L k p∧t k+1=t p:=by unfold goes;exact Ub
theorem Kz {i:Nat} {v:V} (h:xs[i]?=some v):pM xs (i:Int)=some v:=by
 unfold pM
 rw [Rx 0#c (by have:=(lR.mp h).1;simp?)]
 exact h
def intAt (σ:St) (i:Nat):Nat:=match σ.getD i none with | some (.int i)=>i.toNat | _=>0
theorem vV (h:i<p):((fu p).take (i+1)).filter f=((fu p).take i).filter f++(if f i=true then [i] else []):=HJ f (fu p) i i (by rw [HN h])
theorem Jf (js:List Nat) (j:Nat):fO js++[.int (j:Int)]=fO (js++[j]):=by simp [fO]
theorem dJ:aF ["found","told","pairs","place","ahead"] ["found","told"] (ah iY):=0#a
theorem tQ (F:cT K "places_of_pieces" "places_of_pieces" iY f fd) (T:Txt mg):bf P w K mg base c7 1 f fd ["found","told"] CH:=by
 refine F.ok dJ 0#f 0#b
 ·obtain ⟨FF,TT,rs,N,L,t,rfl,_⟩:=h
  rfl
 obtain ⟨FF,TT,rs,N,L,t,rfl,hF,eT,h1,mC,hNr,hrs,acp,k⟩:=h
 refine bI ⟨_,(ao (aK 2 dJ.nd (dg dY)) (ao (kj (i:=3) dJ.nd rfl (Or.inr rfl) (aG bP (gB K T.gc 0#r) aq) (hs:=abx)) (ao (Jd.kq gF (bF dI (aa 3) aq (aH _)) (ao (qy (O:=["first"]) (N':=["place","told" ,"found" ]) (cap:=[3,1,0]) (i:=4) dJ.nd rfl 0#m rfl (zj rfl T.range (dG (aa 3))) (fun _ _ _ _ _=>(cg (i:=0) (show i8 [("first":Str),("place":Str),("told":Str),("found":Str)] by decide +kernel) rfl 0#m)) (fun _ _ _ _ _=>(tX (Jd.xA (rf (bF d7 (aG aV (bD (fK K) 0#w 0#l 0#h) aq) (bD (fK K) 0#w 0#r 0#h) (aH _)) (tY (bF (acE K) 0#r (bD (fK K) (aa 3) 0#l 0#h) rfl)))))) (fun _ _ _ _ _=>0#l) rfl ⟨⟨rfl,rfl,rfl,rfl⟩,⟨⟨rfl,rfl,rfl,rfl⟩,0#u⟩⟩ rfl 0#g rfl 0#g (by rfl)) (ao (dZ (fZ K 0#w (bG (bC (Jd.iL K (aa 4)) (aa 3)))) (hs:=dM)) (aI (kj (i:=3) dJ.nd rfl (Or.inr rfl) (Jd.iL K (aa 4)) (hs:=MI)))))) (ao (dZ (Jd.abp K 0#w) (hs:=dM)) (aI (aU 0#w)))))),?_⟩
 rw?
 refine aE (mk:=.lst) 0#e fun R H1 s1 n1 e1=>?_
 rw?
 refine cP (.inl (aX.of (s1 _ _ eT))) ?_
 rw [lW]
 rw?
 refine TU (fun σ H3=>MV fun (p:Nat) (ps:List Pr) (v4:Option V)=>σ=[some (.ref FF),some (.ref TT),some (.ref R),some (.int (p:Int)),v4]∧au H H3∧H3 R=some (.lst (DS ps))∧MO H3 ps∧p<N∧ps.length+p≤N∧∀qs,Way L t p qs→Way L t (N-1) (qs++(ps.map (·.2)).reverse)) (fun σ _=>intAt σ 3) ?_ ?_
 ·exact ⟨N-1,[],none,by rw [show (N:Int)-1=((N-1:Nat):Int) by simp?];rfl,s1,e1,fun x hx=>absurd hx 0#e,by simp?,by simp,fun qs h=>by simpa using h⟩
 rintro σ H3 ⟨p,ps,v4,rfl,s3,e3,hps,hp,hlen,acB⟩ RR hy hn
 rw?
 by_cases h0:0<(p:Int)
 ·rw [jJ h0]
  refine hy _ fun M hM=>?_
  have eT3:=s3 _ _ eT
  rw?
  refine uO ?_
  rw?
  refine ⟨_,rfl,by lia,by lia,?_⟩
  refine cC PL (fun _ _=>trivial) (by simp;lia) (fun i zs G=>zs=fO (((fu p).take i).filter (goes L t p))) rfl ?_ ?_
  ·rintro D i x zs H4 jK NN N0 hσ hD eD s4 hx hz rfl kY kN
   have hi:i<p:=by
    have:=(lR.mp hx).1
    simpa using this
   obtain rfl:x=.int (0+(i:Int)):=by
    rw [dm,HN (by simpa using hi)] at hx
    exact (xg hx).symm
   rw [show (0:Int)+(i:Int)=(i:Int) by simp?]
   have tk:=vV (f:=goes L t p) hi
   refine fD hσ ?_
   have QU:=s4 _ _ eT3
   rw?
   refine cA QU (jv (show i<N by simp?) rfl) ?_
   rw?
   refine cA QU (jv hp rfl) ?_
   rw?
   have no:¬(L i p∧t i+1=t p)→N0 H4:=fun z=>by
    refine kN H4 (au.refl _) ?_
    rw [tk,if_neg (fun q=>z (qU.mp q)),sG]
   refine cE (fun c1=>?_) (fun c1=>?_)
   ·have BB:i<rs.length:=by simp?
    have gx:rs[i]?=some rs[i]:=mX BB
    have ex:=((hF.up (s3.trans s4)).each _ (mY gx)).1
    rw?
    refine cA (hF.up (s3.trans s4)).at_ (Kz (by rw [dm,gx];rfl)) ?_
    rw?
    refine ⟨_,_,rfl,.inl (aX.of ex),rfl,?_,?_⟩
    ·exact YM.mpr fun v hv=>by
      obtain ⟨j,_,rfl⟩:=gP.mp hv
      rfl
    ·rw?
     show if inV (.int (p:Int)) (fO rs[i].2)=true then _ else _
     refine cE (fun c2=>?_) (fun c2=>?_)
     ·rw?
      refine kY _ H4 (au.refl _) ?_
      rw [tk,if_pos (qU.mpr ⟨(hrs i _ gx p).mp (IV.mp c2),jM c1⟩)]
      exact Jf _ _
     ·exact no fun z=>c2 (IV.mpr ((hrs i _ gx p).mpr z.1))
   ·refine bU ?_
    exact no fun z=>c1 (jJ z.2)
  ·rintro D zs H4 hD eD s4 hz rfl
   rw [gJ,YG,show (p:Int).toNat=p by simp?,NX 0#e] at eD
   obtain ⟨i0,hi0,hL0,ht0⟩:=acp.ex p 0#c hp
   have hm:i0∈(fu p).filter (goes L t p):=Df.mpr ⟨qH.mpr hi0,qU.mpr ⟨hL0,by simp?⟩⟩
   obtain ⟨a,r,har⟩:∃a r,(fu p).filter (goes L t p)=a::r:=by
    cases e:(fu p).filter (goes L t p) with
    | nil=>rw [e] at hm;exact absurd hm 0#e
    | cons a r=>exact ⟨a,r,rfl⟩
   obtain ⟨ha,hap,hno⟩:=Fw har
   obtain ⟨hLa,hta⟩:=qU.mp ha
   rw [har] at eD
   have e4:=s4 _ _ e3
   rw?
   refine ⟨.inl ⟨rfl,_,aX.of e4⟩,?_⟩
   rw?
   refine cA eD (Kz (i:=0) rfl) ?_
   rw?
   refine aE (mk:=.tup) 0#e fun y H5 s5 n5 e5=>?_
   rw?
   refine cz (s5 _ _ e4) (by rw [B7];exact aN 0#c) ?_
   rw?
   have nD:D≠R:=fun z=>by rw [z,e3] at hD;cases hD
   refine cA (by rw [aM nD];exact s5 _ _ eD) (Kz (i:=0) rfl) ?_
   rw?
   refine hM _ _ ⟨a,ps++[(y,a,p)],_,rfl,aY ((s3.trans s4).trans s5) n1,by rw [aA];simp [DS],fun x hx=>?_,by simp?,by simp;simp?,fun qs hq=>?_⟩ ?_
   ·refine t6 R H5 _ _ _ (d9 (s5 _ _ e4) ?_)
    rcases dN.mp hx with z | z
    ·exact (s4.trans s5) _ _ (hps x z)
    ·obtain rfl:x=(y,a,p):=by simpa using z
     exact e5
   ·rw [i9,List.reverse_append]
    have:=acB (qs++[(a,p)]) (.cons ⟨hap,hLa,hta,fun k hk z=>absurd ((hno k hk).symm.trans (qU.mpr z)) 0#i⟩ hq)
    simpa using this
   ·show (a:Int).toNat<(p:Int).toNat
    simp?
 ·rw [qu h0]
  refine hn _ ?_
  have hp0:p=0:=by simp?
  subst hp0
  rw?
  refine ⟨.inl ⟨rfl,_,aX.of e3⟩,?_⟩
  refine adh e3 ?_
  rw?
  refine k R ps.reverse _ (aY s3 n1) n1 (by rw [aA,DS,DS,YQ]) (fun x hx=>t6 R H3 _ _ _ (d9 e3 (hps x (List.mem_reverse.mp hx)))) ?_
  rw [YQ]
  exact acB [] .nil
theorem yy:aF ["one","other"] ["one","other"] (ah kR):=0#a
theorem xY (F:cT K "piece_between" "piece_between" kR f fd) (T:Txt mg):bf P w K mg base c7 1 f fd ["one","other"] yC:=by
 refine F.ok yy 0#f 0#b
 ·obtain ⟨x,y,m,m',q,q',n,rfl,_⟩:=h
  rfl
 obtain ⟨x,y,m,m',q,q',n,rfl,⟨v,ex,fv,zm⟩,⟨v',ey,fv',zm'⟩,hn,k⟩:=h
 refine bI ⟨_,(aI (aU (bG (Jd.a4 (bG (bC (aJ K 0#l) aq)) (aJ K 0#l) (bG (bC (aJ K 0#r) aq)) (aJ K 0#r))))),?_⟩
 rw?
 refine aE (mk:=.tup) 0#e fun a H1 s1 n1 e1=>?_
 have ex1:=s1 _ _ ex
 have ey1:=s1 _ _ ey
 rw?
 refine aE (mk:=.tup) 0#e fun b H2 s2 n2 e2=>?_
 have ey2:=s2 _ _ ey1
 rw?
 refine aE (mk:=.tup) 0#e fun c H3 s3 n3 e3=>?_
 have xr:=s2.trans s3
 have mK:=s1.trans xr
 exact k c H3 mK ⟨a,v,b,v',e3,⟨m,1,xr _ _ e1,Fr.whole m,zm,pR hn⟩,fv.up mK,⟨m',1,s3 _ _ e2,Fr.whole m',zm',pR hn⟩,fv'.up mK⟩
theorem V6 (hL:fM es β aD i j):i<j∧j<es.length+bh aD:=by
 unfold fM at hL
 unfold bh
 cases aD with
 | true=>
   rw [if_pos rfl] at *
   exact ⟨hL.1,hL.2.1⟩
 | false=>
   rw [if_neg dD] at *
   rcases hL with ⟨a,rfl | ⟨b,c,_⟩⟩
   ·exact ⟨by try?,by try?⟩
   ·exact ⟨by try?,by try?⟩
theorem xN (h0:0<j) (hj:j<es.length+bh aD):fM es β aD (j-1) j:=by
 unfold fM
 unfold bh at hj
 cases aD with
 | true=>
   rw [if_pos rfl] at *
   exact ⟨by try?,hj,fun k h1 h2=>by try?⟩
 | false=>
   rw [if_neg dD] at *
   exact ⟨by try?,.inl 0#d⟩
theorem gX:aF ["run","bound","tied","found","told","pairs","back","pieces"] ["run","bound","tied"] (ah uZ):=0#a
theorem Jt (F:cT K "tied_run" "tied_run" uZ f fd) (T:Txt mg) (sM:Dn P w K mg base 5 "leaps" ["samples","bound","tied"] AO) (jb:Dn P w K mg base 1 "labels_by" ["found","many"] wm) (iS:Dn P w K mg base 1 "places_of_pieces" ["found","told"] CH) (kG:Dn P w K mg base 1 "piece_between" ["one","other"] yC) (xw:Dn P w K mg base 5 "bars_by" ["samples","told","tied"] Cv):bf P w K mg base c7 6 f fd ["run","bound","tied"] yK:=by
 refine F.ok gX 0#f 0#b
 ·obtain ⟨l,pb,es,n,nb,β,aD,rfl,_⟩:=h
  rfl
 obtain ⟨l,pb,es,n,nb,β,aD,rfl,hl,hR,hS,dX,h1,h30,hb,hn1,hn,hnb,k⟩:=h
 have hsh:bh aD≤1:=by unfold bh;split <;> try?
 refine bI ⟨_,(ao (aK 3 gX.nd (Jd.c3 sM hr 0#l 0#r 0#w)) (ao (aK 4 gX.nd (bY jb hr (aa 3) (rg (nv 0#w) (gB K T.gc 0#l) (aG aV (gB K T.gc 0#l) aq)))) (ao (aK 5 gX.nd (bY iS hr (aa 3) (aa 4))) (ao (b9 (Jd.xA (rf (nv 0#w) (tY (bF d7 (gB K T.gc 0#l) aq (aH _))))) (aI (aK 5 gX.nd (dg (dG (bG (bC aq aq)))))) cF) (ao (kj (i:=6) gX.nd rfl (Or.inr rfl) (rg (nv 0#w) aq aq) (hs:=afF)) (ao (qy (O:=["first","last"]) (N':=["run","back" ]) (cap:=[0,6]) (i:=7) gX.nd rfl 0#m rfl (di K (aa 5)) (fun _ _ _ _ _=>(Jd.Qf K (n:=2) rfl (gM (cg (i:=0) (show i8 [("first":Str),("last":Str),("run":Str),("back":Str)] by decide +kernel) rfl 0#m) (gM (cg (i:=1) (show i8 [("first":Str),("last":Str),("run":Str),("back":Str)] by decide +kernel) rfl 0#m) qZ)))) (fun _ _ _ _ _=>lC) (fun _ _ _ _ _=>(fN kG 0#A rfl (cO (bD (fK K) 0#w 0#l 0#h) (cO (bD (fK K) 0#w (aG bP 0#r (aa 3)) 0#h) dY qD) qD) (he:=qD) (hpl:=(cD qD cB)))) rfl ⟨⟨rfl,rfl,rfl,rfl⟩,0#u⟩ rfl 0#g rfl 0#g (by rfl)) (aI (aU (bG (bC (aa 7) (bG (bC (aa 4) (Jd.c3 xw hr 0#l (aa 4) 0#w))))))))))))),?_⟩
 rw?
 refine ⟨l,pb,es,n,nb,β,aD,rfl,hl,hR,hS,dX,by try?,hb,by try?,hnb,fun FF rs H1 s1 nF hF hlen hle=>?_⟩
 refine Nx ?_
 refine jE (fun σ' H2=>Qq fun (TT:av) (t:Nat→Int)=>σ'=[some (.ref l),some (.ref pb),some (.bl aD),some (.ref FF),some (.ref TT),none,none,none]∧au H1 H2∧H2 TT=some (.lst (gU (es.length+bh aD) t))∧lH (fM es β aD) (es.length+bh aD) t∧H1 TT=none) (fun σ' H2 hP=>?_) (fun N rest=>?_)
 rotate_left
 ·have go:∀(Q':VK) (E':XK),(∀(TT:av) (t:Nat→Int) (H2:Hp),au H1 H2→H1 TT=none→H2 TT=some (.lst (gU (es.length+bh aD) t))→lH (fM es β aD) (es.length+bh aD) t→Q' (.ref TT) H2)→wm [.ref FF,.int ((es.length+bh aD:Nat):Int)] H1 Q' E':=fun Q' E' kk=>⟨FF,rs,_,fM es β aD,rfl,hF,by try?,by try?,by try?,by try?,fun i x hx=>(hle i x hx).2,fun i j hL=>V6 hL,fun j h0 hj=>xN h0 hj,fun R t H2 s2 nR eR hf=>kk R t H2 s2 nR eR hf⟩
  rw?
  have s1l:=s1 _ _ hl
  cases aD with
  | true=>
    refine cu ?_
    rw?
    refine cP (.inl (aX.of s1l)) ?_
    rw [aO]
    rw?
    exact go _ _ fun TT t H2 s2 nT e2 hf=>rest _ _ ⟨TT,t,rfl,s2,e2,hf,nT⟩
  | false=>
    refine bU ?_
    rw?
    refine cP (.inl (aX.of s1l)) ?_
    rw [aO]
    rw?
    exact go _ _ fun TT t H2 s2 nT e2 hf=>rest _ _ ⟨TT,t,rfl,s2,e2,hf,nT⟩
 obtain ⟨TT,t,rfl,s2,eT,hf,nTT⟩:=hP
 refine jE (fun σ' H3=>Qq fun (PP:av) (ps:List Pr)=>σ'=[some (.ref l),some (.ref pb),some (.bl aD),some (.ref FF),some (.ref TT),some (.ref PP),none,none]∧au H2 H3∧H3 PP=some (.lst (DS ps))∧MO H3 ps∧Way (fM es β aD) t (es.length+bh aD-1) (ps.map (·.2))) (fun σ' H3 hP=>?_) (fun N rest=>?_)
 rotate_left
 ·rw?
  exact ⟨FF,TT,rs,_,_,t,rfl,hF.up s2,eT,by try?,by try?,by try?,fun i x hx=>(hle i x hx).2,hf,fun PP ps H3 s3 nP eP hps hw=>rest _ _ ⟨PP,ps,rfl,s3,eP,hps,hw⟩⟩
 obtain ⟨PP,ps,rfl,s3,eP,hps,hw⟩:=hP
 refine jE (fun σ' H4=>Qq fun (PP:av) (ps':List Pr)=>σ'=[some (.ref l),some (.ref pb),some (.bl aD),some (.ref FF),some (.ref TT),some (.ref PP),none,none]∧au H3 H4∧H4 PP=some (.lst (DS ps'))∧MO H4 ps'∧ps'.length≤31∧ps'.map (·.2)=if es.length+bh aD=1 then [(0,0)] else ps.map (·.2)) (fun σ' H4 hP=>?_) (fun N rest=>?_)
 rotate_left
 ·have hwl:=hw.len
  rw [gJ] at hwl
  have xr:=(s1.trans s2).trans s3
  have keep:es.length+bh aD≠1→N [some (.ref l),some (.ref pb),some (.bl aD),some (.ref FF),some (.ref TT),some (.ref PP),none,none] H3:=fun z=>rest _ _ ⟨PP,ps,rfl,au.refl _,eP,hps,by try?,by rw [if_neg z]⟩
  rw?
  cases aD with
  | true=>
    refine cu ?_
    rw?
    refine cP (.inl (aX.of (xr _ _ hl))) ?_
    rw [aO]
    rw?
    refine cE (fun c1=>?_) (fun c1=>?_)
    ·have tH:(es.length:Int)=1:=jM c1
     rw?
     refine aE (mk:=.tup) 0#e fun y H4 s4 n4 e4=>?_
     rw?
     refine aE (mk:=.lst) 0#e fun y' H5 s5 n5 e5=>?_
     rw?
     refine rest _ _ ⟨y',[(y,0,0)],rfl,s4.trans s5,e5,fun x hx=>?_,by simp,?_⟩
     ·obtain rfl:x=(y,0,0):=by simpa using hx
      exact s5 _ _ e4
     ·rw [if_pos (show es.length+bh true=1 by show es.length+0=1;try?)]
      rfl
    ·rw?
     exact keep fun z=>c1 (jJ (by have:es.length+0=1:=z;try?))
  | false=>
    refine bU ?_
    refine bU ?_
    rw?
    exact keep fun z=>by have:es.length+1=1:=z;try?
 obtain ⟨PP,ps',rfl,s4,eP,aeU,hl',hm'⟩:=hP
 refine jE (fun σ' H5=>H5=H4∧σ'=[some (.ref l),some (.ref pb),some (.bl aD),some (.ref FF),some (.ref TT),some (.ref PP),some (.int (bh aD:Int)),none]) (fun σ' H5 hP=>?_) (fun N rest=>?_)
 rotate_left
 ·rw?
  cases aD with
  | true=>
    refine cu ?_
    rw?
    exact rest _ _ ⟨rfl,rfl⟩
  | false=>
    refine bU ?_
    rw?
    exact rest _ _ ⟨rfl,rfl⟩
 obtain ⟨rfl,rfl⟩:=hP
 have JB:=((s1.trans s2).trans s3).trans s4
 have inb:∀x∈ps',x.2.1<es.length∧x.2.2-bh aD<es.length∧((x.2.2:Int)-(bh aD:Int)=((x.2.2-bh aD:Nat):Int)):=fun x hx=>by
  have hx':x.2∈ps'.map (·.2):=gP.mpr ⟨x,hx,rfl⟩
  rw [hm'] at hx'
  by_cases hN:es.length+bh aD=1
  ·rw [if_pos hN] at hx'
   have:x.2=(0,0):=by simpa using hx'
   rw [this]
   exact ⟨by try?,by try?,by try?⟩
  ·rw [if_neg hN] at hx'
   have:=hw.lt _ hx'
   exact ⟨by try?,by try?,by try?⟩
 rw?
 refine iw ?_
 rw?
 refine ⟨PP,rfl,⟨_,aX.of eP⟩,?_⟩
 refine cC (xs:=DS ps') bV (fun H6 s6=>aX.of (s6 _ _ eP)) (by rw [B7];try?) (fun i ys G=>∃Si:List Pc,ys=mH Si∧AllP G Si n∧Si.map (·.2)=(ps'.take i).map fun x=>WA es x.2.1 (x.2.2-bh aD)) ⟨[],rfl,fun x hx=>absurd hx 0#e,rfl⟩ ?_ ?_
 ·rintro D i x ys H6 jK NN N0 h0 hD eD s6 hx hy ⟨Si,rfl,aay,hmap⟩ kY kN
  unfold DS at hx
  rw [dm] at hx
  obtain ⟨x,gx,rfl⟩:=HH.mp hx
  have Qa:=mY gx
  obtain ⟨b1,b2,b3⟩:=inb x Qa
  have tk:ps'.take (i+1)=ps'.take i++[x]:=by rw [qF,gx];rfl
  refine Cd h0 (s6 _ _ (aeU x Qa)) ?_
  have Dp:=JB.trans s6
  obtain ⟨xi,gi,si⟩:=cI (hR.up Dp) hS b1
  obtain ⟨xj,gj,sj⟩:=cI (hR.up Dp) hS b2
  rw?
  refine cu ?_
  rw?
  refine cA (Dp _ _ hl) (dh gi rfl) ?_
  rw?
  refine cA (Dp _ _ hl) (dh gj b3) ?_
  rw?
  refine ⟨xi.1,xj.1,_,_,_,_,n,rfl,si,sj,hn1,fun p H7 s7 f7=>?_⟩
  refine kY _ H7 s7 ⟨Si++[(p,WA es x.2.1 (x.2.2-bh aD))],by simp [mH],?_,by rw [tk,i9,i9,hmap];rfl⟩
  refine (aay.up (rE s7)).append fun z hz=>?_
  obtain rfl:z=(p,WA es x.2.1 (x.2.2-bh aD)):=by simpa using hz
  exact f7.mv fun {b xs} z=>d9 (s7 _ _ eD) z
 ·rintro D ys H6 hD eD s6 hy ⟨Si,rfl,aay,hmap⟩
  rw [B7,jH] at hmap
  have Dp:=JB.trans s6
  rw?
  refine ⟨l,TT,es,n,β,aD,t,rfl,Dp _ _ hl,hR.up Dp,hS,dX,h1,h30,hn,(s3.trans (s4.trans s6)) _ _ eT,hf,fun R ts H7 s7 nR eR hts aeR=>?_⟩
  rw?
  refine aE (mk:=.tup) 0#e fun z H8 s8 n8 e8=>?_
  rw?
  refine aE (mk:=.tup) 0#e fun y H9 s9 n9 e9=>?_
  have Qi:=s8.trans s9
  have s69:=s7.trans Qi
  refine k y D z Si H9 (Dp.trans s69) e9 (JB.free hD) (s69 _ _ eD) (fun x hx=>(aay x hx).mv fun {b xs} q=>s69 _ _ (gO _ _ q)) ⟨t,ps.map (·.2),hf,hw,?_⟩ TT R ⟨t,ts,s9 _ _ e8,(s3.trans (s4.trans (s6.trans s69))) _ _ eT,hf,Qi _ _ eR,hts.up Qi,aeR⟩ (s1.free nTT) (Dp.free nR) (fun z=>by rw [← z,(s3.trans (s4.trans s6)) _ _ eT] at nR;cases nR)
  rw [hmap,← hm',qB]
  rfl
end
def Bd (es:List En) (β:Rat) (aD:Bool) (m:Nat) (q:List (Rat×Rat×Rat×Rat)):Prop:=∃qss:List (List (Rat×Rat×Rat×Rat)),jt (fun r l=>Told r β aD l) ((parts dU es es.length).take m) qss∧q=qss.flatten
theorem Bd.snoc (h:Bd es β aD m q) (hr:(parts dU es es.length)[m]?=some r) (hl:Told r β aD l):Bd es β aD (m+1) (q++l):=by
 obtain ⟨qss,h1,rfl⟩:=h
 refine ⟨qss++[l],?_,by simp⟩
 rw [qF,hr]
 exact mz h1 hl
theorem Told.len (h:Told es β aD l) (h1:1≤es.length):l.length≤es.length:=by
 obtain ⟨t,ps,_,w,rfl⟩:=h
 have hsh:bh aD≤1:=by unfold bh;split <;> try?
 have:=w.len
 rw [gJ]
 split
 ·exact h1
 ·try?
inductive oY (vs:List V) (H:Hp) (Q:VK) (E_:XK):Prop where
 | mk (l pb:av) (es:List En) (n nb:Nat) (β:Rat) (aD:Bool):vs=[.ref l,.ref pb,.bl aD]→H l=some (.lst (vals es))→Row H es n→rising es→es.length≤40→(parts dU es es.length).length≤33→(∀r∈parts dU es es.length,r.length≤30)→bS H pb β nb→1≤n→n≤900→nb≤1000→(∀(y X Z:av) (ps:List Pc) (H':Hp),au H H'→H' y=some (.tup [.ref X,.ref Z])→H X=none→H' X=some (.lst (mH ps))→AllP H' ps n→ps.length≤990→Bd es β aD (parts dU es es.length).length (ps.map (·.2))→∀ents:List Ent,H Z=none→X≠Z→H' Z=some (.lst (ents.map fun x=>V.ref x.1))→jt (fun r x=>vn H' x r β aD) (parts dU es es.length) ents→Own H ents→(∀x∈ents,x.2.1≠X∧x.2.1≠Z∧x.2.2≠X∧x.2.2≠Z)→Q (.ref y) H')→oY vs H Q E_
inductive su (aD:Bool) (vs:List V) (H:Hp) (Q:VK) (E_:XK):Prop where
 | mk (l pb:av):vs=[.ref l,.ref pb]→oY [.ref l,.ref pb,.bl aD] H Q E0→su aD vs H Q E_
theorem uC:∀{as:List α} {bs:List β},(∀a b,b∈bs→R a b→S a b)→jt R as bs→jt S as bs
 | [],[],_,_=>trivial
 | _::_,_::_,h,g=>⟨h _ _ 0#e g.1,uC (fun a b hb=>h a b (by simp [hb])) g.2⟩
 | [],_::_,_,g=>g.elim
 | _::_,[],_,g=>g.elim
theorem Bm:∀{as:List α} {bs:List β},jt R as bs→∀b∈bs,∃a,R a b
 | [],[],_,b,h=>absurd h 0#e
 | x::_,y::_,h,b,hb=>by
   rcases qv.mp hb with rfl | z
   ·exact ⟨x,h.1⟩
   ·exact Bm h.2 b z
 | [],_::_,h,_,_=>h.elim
 | _::_,[],h,_,_=>h.elim
theorem Own.snoc (h:Own H xs) (s:au H H4) (hin:∀y∈xs,H4 y.2.1≠none∧H4 y.2.2≠none) (n1:H4 x.2.1=none) (n2:H4 x.2.2=none) (ne:x.2.1≠x.2.2):Own H (xs++[x]):=by
 refine ⟨fun y hy=>?_,?_⟩
 ·rcases dN.mp hy with z | z
  ·exact h.new y z
  ·obtain rfl:y=x:=by simpa using z
   exact ⟨s.free n1,s.free n2⟩
 ·rw [Yn]
  refine Ob.mpr ⟨h.nd,by simp [ne],fun a ha b hb=>?_⟩
  obtain ⟨y,hy,hya⟩:=Uj.mp ha
  have hb':b=x.2.1∨b=x.2.2:=by simpa using hb
  have hnb:H4 b=none:=by rcases hb' with z | z <;> rw [z] <;> assumption
  intro e
  subst e
  have:a=y.2.1∨a=y.2.2:=by simpa using hya
  rcases this with z | z
  ·exact (hin y hy).1 (by rw [← z];exact hnb)
  ·exact (hin y hy).2 (by rw [← z];exact hnb)
section
theorem ku:aF ["row","bound","tied","telling","paper","run","told"] ["row","bound","tied"] (ah uY):=0#a
theorem Js (F:cT K "tied_row" "tied_row" uY f fd) (T:Txt mg) (pK:Dn P w K mg base 1 "runs" ["row"] CJ) (uy:Dn P w K mg base 6 "tied_run" ["run","bound","tied"] yK):bf P w K mg base c7 7 f fd ["row","bound","tied"] oY:=by
 refine F.ok ku 0#f 0#b
 ·obtain ⟨l,pb,es,n,nb,β,aD,rfl,_⟩:=h
  rfl
 obtain ⟨l,pb,es,n,nb,β,aD,rfl,hl,hR,dX,h30,h33,aeX,hb,hn1,hn,hnb,k⟩:=h
 refine bI ⟨_,(ao (aK 3 ku.nd (dg dY)) (ao (aK 4 ku.nd (dg dY)) (ao (dP gF rfl (di K (Jd.c1 pK hr 0#l)) (cg (i:=5) ku.nd rfl 0#m) (ao (aK 6 ku.nd (Jd.c3 uy hr (aa 5) 0#r 0#w)) (ao (dZ (Jd.Io K (aa 3) (aJ K (aa 6))) (hs:=dM)) (aI (dZ (fZ K (aa 4) (aJ K (aa 6))) (hs:=dM)))))) (aI (aU (bG (bC (aa 3) (aa 4)))))))),?_⟩
 rw?
 refine aE (mk:=.lst) 0#e fun X H1 s1 n1 e1=>?_
 rw?
 refine aE (mk:=.lst) 0#e fun Z H2 s2 n2 e2=>?_
 have gD:=s1.trans s2
 have Pg:X≠Z:=fun z=>by rw [← z,e1] at n2;cases n2
 rw?
 refine eF (iw ?_)
 rw?
 refine ⟨l,es,n,rfl,gD _ _ hl,hR.up gD,by try?,fun TT ls H3 s3 Dj hls _ _=>?_⟩
 have hpl:=sU (s:=dU) (es:=es) es.length
 have hll:ls.length=(parts dU es es.length).length:=by rw [← hls,gJ]
 have own:∀{G:Hp} {R:av} {v:List V},LL H2 G TT ls→H2 R=some (.lst v)→R≠TT∧∀x∈ls,x.1≠R:=fun hG e=>⟨(fun z=>by rw [z,hG.new] at e;cases e),(fun x hx z=>by rw [← z,(hG.each x hx).1] at e;cases e)⟩
 refine ⟨TT,rfl,⟨_,aX.of Dj.at_⟩,dW (xs:=lrefs ls) (fun i σ H4=>P5 fun (ps:List Pc) (ents:List Ent) (v5 v6:Option V)=>σ=[some (.ref l),some (.ref pb),some (.bl aD),some (.ref X),some (.ref Z),v5,v6]∧au H H4∧LL H2 H4 TT ls∧H4 X=some (.lst (mH ps))∧H4 Z=some (.lst (ents.map fun x=>V.ref x.1))∧ents.length≤i∧AllP H4 ps n∧ps.length≤30*i∧Bd es β aD i (ps.map (·.2))∧jt (fun r x=>vn H4 x r β aD) ((parts dU es es.length).take i) ents∧Own H ents∧(∀x∈ents,x.2.1≠X∧x.2.1≠Z∧x.2.2≠X∧x.2.2≠Z)) ?_ ?_ ?_ ?_⟩
 ·exact ⟨[],[],none,none,rfl,gD.trans s3,Dj,(s2.trans s3) _ _ e1,s3 _ _ e2,dz _,fun x hx=>absurd hx 0#e,dz _,⟨[],trivial,rfl⟩,trivial,⟨fun x hx=>absurd hx 0#e,by simp⟩,fun x hx=>absurd hx 0#e⟩
 ·rintro i σ H4 _ ⟨ps,ents,v5,v6,rfl,s4,AB,_⟩
  exact aX.of AB.at_
 ·rintro i x σ H4 hx ⟨ps,ents,v5,v6,rfl,s4,AB,eX,eZ,hz,hps,acv,hti,hE,hO,hne⟩
  refine eU fun M B R hM _ _=>?_
  obtain ⟨x,gx,rfl⟩:=oO hx
  have hi:i<ls.length:=(lR.mp gx).1
  have Qa:=mY gx
  have hp:(parts dU es es.length)[i]?=some x.2:=by rw [← hls,dm,gx];rfl
  obtain ⟨o1,o2,o3⟩:=lX es.length x.2 (mY hp)
  rw [jH] at o3
  obtain ⟨_,ex,_⟩:=AB.each x Qa
  have hx1:1≤x.2.length:=HP.mpr o1
  have afZ:=aeX _ (mY hp)
  rw?
  refine ⟨x.1,pb,x.2,n,nb,β,aD,rfl,ex,fun z hz=>hR.up s4 z (o3.subset hz),o2,dX.sublist o3,hx1,by try?,hb.up s4,hn1,hn,hnb,fun y X' Z' Si H5 s5 ey nX' eX' hpc Xl TT' RR' hEn nT' nR' afa=>?_⟩
  have acu:=Xl.len hx1
  rw [gJ] at acu
  have eX5:=s5 _ _ eX
  have eZ5:=s5 _ _ eZ
  have hL5:=AB.up s5
  obtain ⟨a1,a2⟩:=own Dj (s2 _ _ e1)
  obtain ⟨b1,b2⟩:=own Dj e2
  rw?
  refine ⟨.inl ⟨rfl,_,aX.of eX5⟩,?_⟩
  rw?
  refine EG eX5 eX' (by rw [EE,EE];exact tS (aN 0#d)) ?_
  have eZ6:upd H5 X (.lst (mH ps++mH Si)) Z=some (.lst (ents.map fun x=>V.ref x.1)):=by rw [aM (jn Pg)];exact eZ5
  have ey6:upd H5 X (.lst (mH ps++mH Si)) y=some (.tup [.ref X',.ref Z']):=t6 X H5 _ _ _ (d9 eX5 ey)
  rw?
  refine ⟨.inl ⟨rfl,_,aX.of eZ6⟩,?_⟩
  rw?
  refine cz eZ6 (by rw [gJ];exact aN 0#d) ?_
  have nq:∀{A B:av} {v:List V},H4 A=none→H4 B=some (.lst v)→A≠B:=fun h1 h2 z=>by rw [z,h2] at h1;cases h1
  refine hM _ _ ⟨ps++Si,ents++[(Z',TT',RR')],_,_,rfl,aY (aY (s4.trans s5) (n1)) (s1.free n2),(hL5.other a1 a2).other b1 b2,?_,by rw [aA,i9];rfl,by simp;try?,((hps.up s5).append hpc).app eX5 |>.app eZ6,by simp;try?,?_,?_,hO.snoc s4 (fun y hy=>?_) nT' nR' afa,fun y hy=>?_⟩
  ·rw [aM Pg,aA,mH,mH,mH,i9]
  ·rw [i9]
   exact hti.snoc hp Xl
  ·rw [qF,hp]
   refine mz (uC (fun r x hx f=>?_) hE) ?_
   ·obtain ⟨c1,c2,c3,c4⟩:=hne x hx
    exact ((f.up s5).put eX5 c1 c3).put eZ6 c2 c4
   ·exact (hEn.put eX5 (nq nT' eX) (nq nR' eX)).put eZ6 (nq nT' eZ) (nq nR' eZ)
  ·obtain ⟨r,t',ts',_,q2,_,q3,_⟩:=Bm hE y hy
   exact ⟨by rw [q2];simp,by rw [q3];simp⟩
  ·rcases dN.mp hy with z | z
   ·exact hne y z
   ·obtain rfl:y=(Z',TT',RR'):=by simpa using z
    exact ⟨nq nT' eX,nq nT' eZ,nq nR' eX,nq nR' eZ⟩
 ·rintro σ H4 ⟨ps,ents,v5,v6,rfl,s4,AB,eX,eZ,hz,hps,acv,hti,hE,hO,hne⟩
  rw [dR] at acv hti
  rw?
  refine aE (mk:=.tup) 0#e fun y H5 s5 n5 e5=>?_
  rw [hll] at hti
  rw [dR,hll,jH] at hE
  exact k y X Z ps H5 (s4.trans s5) e5 n1 (s5 _ _ eX) (hps.up s5) 0#d hti ents (s1.free n2) Pg (s5 _ _ eZ) (uC (fun _ _ _ f=>f.up s5) hE) hO hne
theorem S3:aF ["row","bound"] ["row","bound"] (ah G6):=0#a
theorem Sb (F:cT K "spans" "spans" G6 f fd) (T:Txt mg) (jR:Dn P w K mg base 7 "tied_row" ["row","bound","tied"] oY):bf P w K mg base c7 8 f fd ["row","bound"] (su false):=by
 refine F.ok S3 0#f 0#b
 ·obtain ⟨l,pb,rfl,_⟩:=h
  rfl
 obtain ⟨l,pb,rfl,h⟩:=h
 refine bI ⟨_,(aI (aU (Jd.c3 jR hr 0#l 0#r Jd.oS))),?_⟩
 rw?
 exact h
theorem SW:aF ["row","bound"] ["row","bound"] (ah GY):=0#a
theorem RX (F:cT K "chain" "chain" GY f fd) (T:Txt mg) (jR:Dn P w K mg base 7 "tied_row" ["row","bound","tied"] oY):bf P w K mg base c7 8 f fd ["row","bound"] (su true):=by
 refine F.ok SW 0#f 0#b
 ·obtain ⟨l,pb,rfl,_⟩:=h
  rfl
 obtain ⟨l,pb,rfl,h⟩:=h
 refine bI ⟨_,(aI (aU (Jd.c3 jR hr 0#l 0#r Jd.oS))),?_⟩
 rw?
 exact h
end
theorem fP:∀{fs:List (Str×V)} {x:V},fs.lookup f=some x→(aB f v fs).length=fs.length
 | [],_,h=>by cases h
 | (g,y)::r,x,h=>by
   unfold aB
   by_cases e:g=f
   ·rw [if_pos e];rfl
   ·rw [if_neg e]
    have e':(f==g)=false:=by
     have:¬f=g:=fun z=>e z.symm
     simpa using this
    rw [Ui,e'] at h
    show (aB f v r).length+1=r.length+1
    rw [fP h]
structure MR (fs:List (Str×V)) (tw sl:av) (g s:V):Prop where
 len:fs.length≤10
 tw:fs.lookup ("twice":Str)=some (.ref tw)
 sl:fs.lookup ("samples":Str)=some (.ref sl)
 g:fs.lookup ("gentlest":Str)=some g
 s:fs.lookup ("steepest":Str)=some s
 no:∀m:Str,m ≠ "twice"→m ≠ "samples"→m ≠ "gentlest"→m ≠ "steepest"→fs.lookup m=none
theorem MR.init (tw sl:av) (g s:V):MR (aB "steepest" s (aB "gentlest" g (aB "samples" (.ref sl) (aB "twice" (.ref tw) [])))) tw sl g s:=by
 have a1:¬(("twice":Str) = "steepest"):=by decide +kernel
 have a2:¬(("twice":Str) = "gentlest"):=by decide +kernel
 have a3:¬(("twice":Str) = "samples"):=by decide +kernel
 have a4:¬(("samples":Str) = "steepest"):=by decide +kernel
 have a5:¬(("samples":Str) = "gentlest"):=by decide +kernel
 have a6:¬(("gentlest":Str) = "steepest"):=by decide +kernel
 refine ⟨?_,?_,?_,?_,?_,fun m m1 m2 m3 m4=>?_⟩
 ·have l:∀(f:Str) (v:V) (fs:List (Str×V)),(aB f v fs).length≤fs.length+1:=by
   intro f v fs
   induction fs with
   | nil=>exact dz _
   | cons x r ih=>
     obtain ⟨g,y⟩:=x
     unfold aB
     split
     ·exact wO _
     ·exact HU ih
  have l1:=l "steepest" s (aB "gentlest" g (aB "samples" (.ref sl) (aB "twice" (.ref tw) [])))
  have l2:=l "gentlest" g (aB "samples" (.ref sl) (aB "twice" (.ref tw) []))
  have l3:=l "samples" (.ref sl) (aB "twice" (.ref tw) [])
  have l4:=l "twice" (.ref tw) []
  simp only [YX] at l4
  try?
 ·rw [af,if_neg a1,af,if_neg a2,af,if_neg a3,af,if_pos rfl]
 ·rw [af,if_neg a4,af,if_neg a5,af,if_pos rfl]
 ·rw [af,if_neg a6,af,if_pos rfl]
 ·rw [af,if_pos rfl]
 ·rw [af,if_neg m4,af,if_neg m3,af,if_neg m2,af,if_neg m1]
  rfl
theorem MR.setG {tw sl:av} {g s y:V} (h:MR fs tw sl g s):MR (aB "gentlest" y fs) tw sl y s:=by
 have a2:¬(("twice":Str) = "gentlest"):=by decide +kernel
 have a5:¬(("samples":Str) = "gentlest"):=by decide +kernel
 have a6:¬(("steepest":Str) = "gentlest"):=by decide +kernel
 refine ⟨by rw [fP h.g];exact h.len,?_,?_,?_,?_,fun m m1 m2 m3 m4=>?_⟩
 ·rw [af,if_neg a2];exact h.tw
 ·rw [af,if_neg a5];exact h.sl
 ·rw [af,if_pos rfl]
 ·rw [af,if_neg a6];exact h.s
 ·rw [af,if_neg m3];exact h.no m m1 m2 m3 m4
theorem MR.abu {tw sl:av} {g s y:V} (h:MR fs tw sl g s):MR (aB "steepest" y fs) tw sl g y:=by
 have a2:¬(("twice":Str) = "steepest"):=by decide +kernel
 have a5:¬(("samples":Str) = "steepest"):=by decide +kernel
 have a6:¬(("gentlest":Str) = "steepest"):=by decide +kernel
 refine ⟨by rw [fP h.s];exact h.len,?_,?_,?_,?_,fun m m1 m2 m3 m4=>?_⟩
 ·rw [af,if_neg a2];exact h.tw
 ·rw [af,if_neg a5];exact h.sl
 ·rw [af,if_neg a6];exact h.g
 ·rw [af,if_pos rfl]
 ·rw [af,if_neg m4];exact h.no m m1 m2 m3 m4
theorem MR.xO {fs:List (Str×V)} {tw sl:av} {g s:V} (h:MR fs tw sl g s) (m:Str) (m1:m ≠ "twice":=by decide +kernel) (m2:m ≠ "samples":=by decide +kernel) (m3:m ≠ "gentlest":=by decide +kernel) (m4:m ≠ "steepest":=by decide +kernel):fs.lookup m=none:=h.no m m1 m2 m3 m4
def Qh (p L:av) (H:Hp):Hp:=rm p (rm L H)
theorem Cf (h1:b≠p) (h2:b≠L):Qh p L H b=H b:=by unfold Qh;rw [mJ h1,mJ h2]
theorem SI:au (Qh p L H) H:=fun b o e=>gO _ _ (gO _ _ e)
section
theorem AK (hp:H p=some (.ins C dx fs)) (hL:H L=some (.lst ys)) (h:H b=some 0#t):Qh p L H b=some 0#t:=by
 rw [Cf (fun e=>by rw [e,hp] at h;cases h) (fun e=>by rw [e,hL] at h;cases h)]
 exact h
theorem bS.out (hp:H p=some (.ins C dx fs)) (hL:H L=some (.lst ys)) (f:bS H b q n):bS (Qh p L H) b q n:=let ⟨t,d,e,f⟩:=f;⟨t,d,AK hp hL e,f⟩
theorem dF.out (hp:H p=some (.ins C dx fs)) (hL:H L=some (.lst ys)) (f:dF H b q n):dF (Qh p L H) b q n:=let ⟨t,d,e,f⟩:=f;⟨t,d,AK hp hL e,f⟩
theorem nW.out (hp:H p=some (.ins C dx fs)) (hL:H L=some (.lst ys)) (f:nW H x n):nW (Qh p L H) x n:=by
 obtain ⟨a,m,v⟩:=x
 cases v with
 | none=>exact ⟨f.1,AK hp hL f.2⟩
 | some q=>
   obtain ⟨z,r,e,g⟩:=f
   exact ⟨z,r,AK hp hL e,g.out hp hL⟩
theorem Row.out (hp:H p=some (.ins C dx fs)) (hL:H L=some (.lst ys)) (f:Row H es n):Row (Qh p L H) es n:=fun x hx=>(f x hx).out hp hL
end
theorem iV.en (f:iV H b t q n):nW H (b,t,some q) n:=let ⟨v,e,f,z⟩:=f;⟨z,v,e,f⟩
theorem nW.sa (f:nW H (b,t,some q) n):iV H b t q n:=let ⟨z,v,e,f⟩:=f;⟨v,e,f,z⟩
def HY (es:List En) (B:Rat):Prop:=∀i j k l,i<j→j<es.length→k<l→l<es.length→fB es B i j≤c6 es B k l
def ZM (es:List En) (B G:Rat):Prop:=(∀i j,i<j→j<es.length→fB es B i j≤G)∧∃i j,i<j∧j<es.length∧fB es B i j=G
def ZN (es:List En) (B S:Rat):Prop:=(∀i j,i<j→j<es.length→S≤c6 es B i j)∧∃i j,i<j∧j<es.length∧c6 es B i j=S
theorem M8 (g:ZM es B G) (s:ZN es B S):HY es B↔G≤S:=by
 constructor
 ·intro h
  obtain ⟨i,j,a1,a2,a3⟩:=g.2
  obtain ⟨k,l,b1,b2,b3⟩:=s.2
  rw [← a3,← b3]
  exact h i j k l a1 a2 b1 b2
 ·intro h i j k l a1 a2 b1 b2
  have:=g.1 i j a1 a2
  have:=s.1 k l b1 b2
  grind
def uz (C:av) (H:Hp) (p L:av) (es:List En) (B:Rat) (n nb:Nat):Prop:=∃(dx tw:av) (fs:List (Str×V)) (g s:V),H p=some (.ins C dx fs)∧MR fs tw L g s∧H L=some (.lst (vals es))∧Row H es n∧iR es∧rising es∧bS H tw B nb ∧
 ((es.length<2∧g=.bM∧s=.bM)∨(2≤es.length∧∃(pg ps:av) (G S:Rat),g=.ref pg∧s=.ref ps∧bS H pg G (3*n+nb+3)∧bS H ps S (3*n+nb+3)∧ZM es B G∧ZN es B S∧G≤S))
theorem uz.up (h:uz C H p L es B n nb) (s:au H H'):uz C H' p L es B n nb:=by
 obtain ⟨dx,tw,fs,g,s',h1,h2,h3,h4,h5,h6,h7,h8⟩:=h
 refine ⟨dx,tw,fs,g,s',s _ _ h1,h2,s _ _ h3,h4.up s,h5,h6,h7.up s,?_⟩
 rcases h8 with z | ⟨z,pg,ps,G,S,e1,e2,q1,q2,r⟩
 ·exact .inl z
 ·exact .inr ⟨z,pg,ps,G,S,e1,e2,q1.up s,q2.up s,r⟩
inductive CB (C:av) (vs:List V) (H:Hp) (Q:VK) (E_:XK):Prop where
 | mk (p dx pb:av) (β:Rat) (n:Nat):vs=[.ref p,.ref pb]→H p=some (.ins C dx [])→bS H pb β n→n≤1000→(∀(L:av) (H':Hp) (k:Nat),au (rm p H) H'→H L=none→uz C H' p L [] (2*β) k (2*n+1)→Q .bM H')→CB C vs H Q E_
def dw (es:List En) (B:Rat) (m:Int) (q:Rat) (i:Nat):Rat:=(q+B-wo es i)/((m:Rat)-(mo es i:Rat))
inductive r9 (vs:List V) (H:Hp) (Q:VK) (E_:XK):Prop where
 | mk (kv:V) (l x tw:av) (es:List En) (m:Int) (q B:Rat) (n nb:Nat):vs=[kv,.ref l,.ref x,.ref tw]→H l=some (.lst (vals es))→Row H es n→iR es→iV H x m q n→bS H tw B nb→es.length≤900→n≤1500→nb≤3000→(∀i,i<es.length→mo es i<m)→(kv=.bM∨(0<es.length∧∃pk Kq,kv=.ref pk∧bS H pk Kq (3*n+nb+3)))→(es.length=0→kv=.bM→∀H',au H H'→Q .bM H')→(0<es.length→∀(pg:av) (G:Rat) (H':Hp),au H H'→bS H' pg G (3*n+nb+3)→(∀pk Kq,kv=.ref pk→bS H pk Kq (3*n+nb+3)→Kq≤G)→(∀i,i<es.length→dw es (-B) m q i≤G)→((∃i,i<es.length∧dw es (-B) m q i=G)∨∃pk,kv=.ref pk∧bS H pk G (3*n+nb+3))→Q (.ref pg) H')→r9 vs H Q E_
inductive wG (vs:List V) (H:Hp) (Q:VK) (E_:XK):Prop where
 | mk (kv:V) (l x tw:av) (es:List En) (m:Int) (q B:Rat) (n nb:Nat):vs=[kv,.ref l,.ref x,.ref tw]→H l=some (.lst (vals es))→Row H es n→iR es→iV H x m q n→bS H tw B nb→es.length≤900→n≤1500→nb≤3000→(∀i,i<es.length→mo es i<m)→(kv=.bM∨(0<es.length∧∃pk Kq,kv=.ref pk∧bS H pk Kq (3*n+nb+3)))→(es.length=0→kv=.bM→∀H',au H H'→Q .bM H')→(0<es.length→∀(pg:av) (G:Rat) (H':Hp),au H H'→bS H' pg G (3*n+nb+3)→(∀pk Kq,kv=.ref pk→bS H pk Kq (3*n+nb+3)→G≤Kq)→(∀i,i<es.length→G≤dw es B m q i)→((∃i,i<es.length∧dw es B m q i=G)∨∃pk,kv=.ref pk∧bS H pk G (3*n+nb+3))→Q (.ref pg) H')→wG vs H Q E_
inductive Hz (C:av) (vs:List V) (H:Hp) (Q:VK) (E_:XK):Prop where
 | mk (p L x:av) (es:List En) (m:Int) (q B:Rat) (n nb:Nat):vs=[.ref p,.ref x]→uz C H p L es B n nb→iV H x m q n→(∀i,i<es.length→mo es i<m)→es.length≤900→n≤1000→nb≤3000→0≤B→(∀(r:Bool) (H':Hp),au (Qh p L H) H'→(r=true↔HY (es++[(x,m,some q)]) B)→uz C H' p L (if r=true then es++[(x,m,some q)] else es) B n nb→Q (.bl r) H')→Hz C vs H Q E_
inductive MA (C:av) (vs:List V) (H:Hp) (Q:VK) (E_:XK):Prop where
 | mk (p L:av) (es:List En) (B:Rat) (n nb:Nat):vs=[.ref p]→uz C H p L es B n nb→(∀(R:av) (H':Hp),au H H'→H R=none→H' R=some (.lst (vals es))→Q (.ref R) H')→MA C vs H Q E_
theorem EF (a:bS H p q n) (b:bS H p r m):q=r:=by
 obtain ⟨t,d,e,f,_⟩:=a
 obtain ⟨t',d',e',f',_⟩:=b
 rw [e] at e'
 cases e'
 have h1:=f.eq
 have h2:=f'.eq
 have hd:=cS (b:=d) (by have:=f.pos;try?)
 grind
section
theorem Au:aF ["self","bound"] ["self","bound"] (ah mO):=0#a
theorem Aj (F:cT K "__init__" "Stretch.__init__" mO f fd) (aW:Cl K mg "Stretch" aR ["twice","samples","gentlest","steepest"]) (pI:Dn P w K mg base 5 "plus" ["one","other"] (qh (·+·) 1)):bf P w K mg base c7 6 f fd ["self","bound"] (CB aR):=by
 refine F.ok Au 0#f 0#b
 ·obtain ⟨p,dx,pb,β,n,rfl,_⟩:=h
  rfl
 obtain ⟨p,dx,pb,β,n,rfl,hp,hb,hn,k⟩:=h
 refine bI ⟨_,(ao (iA K 0#l (bY pI hr 0#r 0#r)) (ao (iA K 0#l (dg dY)) (ao (iA K 0#l dH) (aI (iA K 0#l dH))))),?_⟩
 rw?
 refine ⟨pb,pb,β,β,n,n,rfl,hb,hb,by try?,fun tw H1 s1 f1=>?_⟩
 rw?
 have hp1:=s1 _ _ hp
 refine zE aW hp1 (by show 0<1000;decide) ?_
 rw?
 refine aE (mk:=.lst) 0#e fun L H2 s2 n2 e2=>?_
 have RN:L≠p:=fun z=>by
  rw [z,aA] at n2
  cases n2
 have hp2:=s2 _ _ (aA (H:=H1) (a:=p) (o:=.ins aR dx (aB "twice" (.ref tw) [])))
 rw?
 refine zE aW hp2 (by have:(aB "twice" (.ref tw) ([]:List (Str×V))).length=1:=rfl;try?) ?_
 rw?
 refine zE aW aA (by
  have h3:=(MR.init tw L .bM .bM).len
  have l:∀(f:Str) (v:V) (fs:List (Str×V)),fs.length≤(aB f v fs).length:=by
   intro f v fs
   induction fs with
   | nil=>exact mW _
   | cons x r ih=>
     obtain ⟨g,y⟩:=x
     unfold aB
     split
     ·exact dz _
     ·exact HU ih
  have l1:=l "steepest" .bM (aB "gentlest" .bM (aB "samples" (.ref L) (aB "twice" (.ref tw) [])))
  have l2:=l "gentlest" .bM (aB "samples" (.ref L) (aB "twice" (.ref tw) []))
  try?) ?_
 rw?
 refine zE aW aA (by
  have h3:=(MR.init tw L .bM .bM).len
  have l:∀(f:Str) (v:V) (fs:List (Str×V)),fs.length≤(aB f v fs).length:=by
   intro f v fs
   induction fs with
   | nil=>exact mW _
   | cons x r ih=>
     obtain ⟨g,y⟩:=x
     unfold aB
     split
     ·exact dz _
     ·exact HU ih
  have l1:=l "steepest" .bM (aB "gentlest" .bM (aB "samples" (.ref L) (aB "twice" (.ref tw) [])))
  try?) ?_
 rw?
 rw [qo,qo]
 have n0:H L=none:=by
  cases g:H L with
  | none=>rfl
  | some o=>
    have:=s1 _ _ g
    rw [aM RN,this] at n2
    cases n2
 have sH:au (rm p H) (upd H2 p (.ins aR dx (aB "steepest" .bM (aB "gentlest" .bM (aB "samples" (.ref L) (aB "twice" (.ref tw) [])))))):=fun b o e=>by
  by_cases hb:b=p
  ·rw [hb] at e
   unfold rm at e
   rw [if_pos rfl] at e
   cases e
  ·rw [mJ hb] at e
   rw [aM hb]
   refine s2 _ _ ?_
   rw [aM hb]
   exact s1 _ _ e
 have sH1:au (rm p H1) (upd H2 p (.ins aR dx (aB "steepest" .bM (aB "gentlest" .bM (aB "samples" (.ref L) (aB "twice" (.ref tw) [])))))):=fun b o e=>by
  by_cases hb:b=p
  ·rw [hb] at e
   unfold rm at e
   rw [if_pos rfl] at e
   cases e
  ·rw [mJ hb] at e
   rw [aM hb]
   refine s2 _ _ ?_
   rw [aM hb]
   exact e
 refine k L _ 0 sH n0 ⟨dx,tw,_,.bM,.bM,aA,MR.init tw L .bM .bM,by rw [aM RN];exact e2,fun x hx=>absurd hx 0#e,fun x hx=>absurd hx 0#e,List.Pairwise.nil,?_,.inl ⟨by decide,rfl,rfl⟩⟩
 obtain ⟨t,d,e,ff,z1,z2⟩:=f1
 have etw:rm p H1 tw=some (.tup [.int t,.int d]):=by
  rw [mJ (fun z=>by rw [z,hp1] at e;cases e)]
  exact e
 refine bS.mono (n:=2*n+1) ⟨t,d,sH1 _ _ etw,?_,z1,z2⟩ 0#d
 have Z8:(2*β:Rat)=β+β:=by grind
 rw [Z8]
 exact ff.qt
theorem jY:aF ["known","earlier","sample","twice","lowered","found"] ["known","earlier","sample","twice"] (ah kP):=0#a
theorem xW (F:cT K "gentlest_with" "gentlest_with" kP f fd) (T:Txt mg) (aS:Dn P w K mg base 1 "loose_minus" ["one","other"] (iB (·-·) 1)) (bL:Dn P w K mg base 3 "loose_slope" ["one","other"] lZ) (c8:Dn P w K mg base 2 "greatest" ["quotients"] tu) :
 bf P w K mg base c7 4 f fd ["known","earlier","sample","twice"] r9:=by
 refine F.ok jY 0#f 0#b
 ·obtain ⟨kv,l,x,tw,es,m,q,B,n,nb,rfl,_⟩:=h
  rfl
 obtain ⟨kv,l,x,tw,es,m,q,B,n,nb,rfl,hl,hR,hS,hx,htw,mC,hn,hnb,hm,hkv,k0,k1⟩:=h
 obtain ⟨vx,ex,fx,zm⟩:=hx
 refine bI ⟨_,(ao (kj (i:=4) jY.nd rfl (Or.inr rfl) (bG (bC (aJ K 0#w) (bY aS hr (aJ K 0#w) (aa 3)))) (hs:=adw)) (ao (qy (O:=["one"]) (N':=["lowered"]) (cap:=[4]) (i:=5) jY.nd rfl 0#m rfl (di K 0#r) (fun _ _ _ _ _=>(cg (i:=0) (show i8 [("one":Str),("lowered":Str)] by decide +kernel) rfl 0#m)) (fun _ _ _ _ _=>lC) (fun _ _ _ _ _=>(fN bL 0#A rfl (cO 0#l (cO 0#r dY bK) bK) (he:=bK) (hpl:=(cD bK cB)))) rfl 0#u rfl 0#g rfl 0#g (by rfl)) (ao (b9 (bF ir 0#l dH (aH _)) (aI (dZ (fZ K (aa 5) 0#l) (hs:=dM))) cF) (aI (aU (rg (bF dI (gB K T.gc (aa 5)) aq (aH _)) (Jd.c1 c8 hr (aa 5)) dH)))))),?_⟩
 rw?
 refine ⟨vx,tw,q,B,n,nb,rfl,fx.qt,htw,by try?,fun y1 H1 s1 f1=>?_⟩
 rw?
 refine aE (mk:=.tup) 0#e fun lo H2 s2 n2 e2=>?_
 have gD:=s1.trans s2
 have flo:W8 H2 lo m (q-B) (n+nb+1) n:=⟨y1,e2,f1.up s2,zm⟩
 rw?
 refine iw ?_
 rw?
 refine ⟨l,rfl,⟨_,aX.of (gD _ _ hl)⟩,?_⟩
 refine cC (xs:=vals es) bV (fun H3 s3=>aX.of (s3 _ _ (gD _ _ hl))) (by rw [aO];try?) (fun i ys G=>∃rs:Qs,ys=cY rs∧vh G rs (3*n+nb+3)∧rs.map (·.2)=(fu i).map (fun j=>dw es (-B) m q j)) ⟨[],rfl,fun z hz=>absurd hz 0#e,rfl⟩ ?_ ?_
 ·rintro D i v ys H3 jK N N0 h0 hD eD s3 hv hy ⟨rs,rfl,hrs,hmap⟩ kY kN
  obtain ⟨e,he,rfl⟩:=gr hv
  have hi:i<es.length:=(lR.mp he).1
  obtain ⟨xi,gi,fi⟩:=cI (hR.up (gD.trans s3)) hS hi
  rw [he] at gi
  cases gi
  refine fD h0 ?_
  rw?
  refine cu ?_
  rw?
  refine ⟨e.1,lo,_,_,_,_,n,n+nb+1,n,rfl,fi.XD,flo.up s3,hm i hi,by try?,fun z H4 s4 f4=>?_⟩
  refine kY _ H4 s4 ⟨rs++[(z,dw es (-B) m q i)],by simp [cY],fun u hu=>?_,?_⟩
  ·rcases dN.mp hu with w | w
   ·exact (hrs u w).up (rE s4)
   ·obtain rfl:u=(z,dw es (-B) m q i):=by simpa using w
    obtain ⟨t,d,e',ff⟩:=f4.mono (show n+(n+nb+1)+n+2≤3*n+nb+3 by try?)
    refine ⟨t,d,d9 (s4 _ _ eD) e',?_⟩
    have eq:(q-B-wo es i)/((m:Rat)-(mo es i:Rat))=dw es (-B) m q i:=by
     unfold dw
     rw [show q+-B-wo es i=q-B-wo es i by grind]
    rw [← eq]
    exact ff
  ·rw [i9,hmap,vd,i9]
   rfl
 ·rintro D ys H3 hD eD s3 hy ⟨rs,rfl,hrs,hmap⟩
  rw [aO] at hmap
  have FQ:vh H3 rs (3*n+nb+3):=fun u hu=>(hrs u hu).up gO
  have mK:=gD.trans s3
  have hlen:rs.length=es.length:=by
   have:=congrArg tT hmap
   simpa using this
  have inR:∀i,i<es.length→∃u∈rs,u.2=dw es (-B) m q i:=fun i hi=>by
   have:dw es (-B) m q i∈rs.map (·.2):=by rw [hmap];exact gP.mpr ⟨i,qH.mpr hi,rfl⟩
   obtain ⟨u,hu,e⟩:=gP.mp this
   exact ⟨u,hu,e⟩
  have RU:∀u∈rs,∃i,i<es.length∧dw es (-B) m q i=u.2:=fun u hu=>by
   have:u.2∈rs.map (·.2):=gP.mpr ⟨u,hu,rfl⟩
   rw [hmap] at this
   obtain ⟨i,hi,e⟩:=gP.mp this
   exact ⟨i,qH.mp hi,e⟩
  rw?
  rcases hkv with rfl | ⟨hpos,pk,Kq,rfl,hK⟩
  ·refine ⟨rfl,?_⟩
   rw?
   refine bU ?_
   rw?
   refine cP (.inl (aX.of eD)) ?_
   rw?
   refine cE 0#B 0#B
   ·have c':=jM c
    have hpos:0<rs.length:=by
     have e:(cY rs).length=rs.length:=gJ ..
     rw [e] at c'
     try?
    rw?
    refine ⟨D,rs,3*n+nb+3,rfl,eD,FQ,by try?,hpos,fun u hu tM=>?_⟩
    rw?
    refine k1 0#d u.1 u.2 H3 mK (FQ u hu) (fun pk Kq e=>by cases e) (fun i hi=>?_) (.inl (RU u hu))
    obtain ⟨z,hz,e⟩:=inR i hi
    rw [← e]
    exact tM z hz
   ·have c':=iH (gY.mpr c)
    rw?
    refine k0 ?_ rfl H3 mK
    have e:(cY rs).length=rs.length:=gJ ..
    rw [e] at c'
    try?
  ·refine ⟨rfl,?_⟩
   rw?
   refine cu ?_
   rw?
   refine ⟨.inl ⟨rfl,_,aX.of eD⟩,?_⟩
   rw?
   have e:(cY rs).length=rs.length:=gJ ..
   refine cz eD (by rw [e];exact aN 0#d) ?_
   have e4:upd H3 D (.lst (cY rs++[.ref pk])) D=some (.lst (cY (rs++[(pk,Kq)]))):=by rw [aA];simp [cY]
   have hK3:=hK.up mK
   generalize hG:upd H3 D (.lst (cY rs++[.ref pk]))=H4 at *
   have vg:au H2 H4:=by rw [← hG];exact aY s3 hD
   have hq4:vh H4 (rs++[(pk,Kq)]) (3*n+nb+3):=fun u hu=>by
    rcases dN.mp hu with w | w
    ·rw [← hG];exact (FQ u w).app eD
    ·obtain rfl:u=(pk,Kq):=by simpa using w
     rw [← hG];exact hK3.app eD
   rw?
   refine cP (.inl (aX.of e4)) ?_
   rw?
   have e':(cY (rs++[(pk,Kq)])).length=rs.length+1:=by simp [cY]
   rw [e',show decide ((((rs.length+1:Nat):Int))>0)=true from jJ 0#d]
   refine cu ?_
   rw?
   refine ⟨D,rs++[(pk,Kq)],3*n+nb+3,rfl,e4,hq4,by try?,by simp,fun u hu tM=>?_⟩
   rw?
   refine k1 hpos u.1 u.2 H4 (gD.trans vg) (hq4 u hu) (fun pk' Kq' e1 q1=>?_) (fun i hi=>?_) ?_
   ·cases e1
    rw [EF q1 hK]
    exact tM (pk,Kq) 0#e
   ·obtain ⟨z,hz,e1⟩:=inR i hi
    rw [← e1]
    exact tM z (EK _ hz)
   ·rcases dN.mp hu with w | w
    ·exact .inl (RU u w)
    ·obtain rfl:u=(pk,Kq):=by simpa using w
     exact .inr ⟨pk,rfl,hK⟩
theorem j3:aF ["known","earlier","sample","twice","raised","found"] ["known","earlier","sample","twice"] (ah kX):=0#a
theorem yb (F:cT K "steepest_with" "steepest_with" kX f fd) (T:Txt mg) (bO:Dn P w K mg base 1 "loose_plus" ["one","other"] (iB (·+·) 1)) (bL:Dn P w K mg base 3 "loose_slope" ["one","other"] lZ) (fX:Dn P w K mg base 2 "smallest" ["quotients"] wC) :
 bf P w K mg base c7 4 f fd ["known","earlier","sample","twice"] wG:=by
 refine F.ok j3 0#f 0#b
 ·obtain ⟨kv,l,x,tw,es,m,q,B,n,nb,rfl,_⟩:=h
  rfl
 obtain ⟨kv,l,x,tw,es,m,q,B,n,nb,rfl,hl,hR,hS,hx,htw,mC,hn,hnb,hm,hkv,k0,k1⟩:=h
 obtain ⟨vx,ex,fx,zm⟩:=hx
 refine bI ⟨_,(ao (kj (i:=4) j3.nd rfl (Or.inr rfl) (bG (bC (aJ K 0#w) (bY bO hr (aJ K 0#w) (aa 3)))) (hs:=adw)) (ao (qy (O:=["one"]) (N':=["raised"]) (cap:=[4]) (i:=5) j3.nd rfl 0#m rfl (di K 0#r) (fun _ _ _ _ _=>(cg (i:=0) (show i8 [("one":Str),("raised":Str)] by decide +kernel) rfl 0#m)) (fun _ _ _ _ _=>lC) (fun _ _ _ _ _=>(fN bL 0#A rfl (cO 0#l (cO 0#r dY bK) bK) (he:=bK) (hpl:=(cD bK cB)))) rfl 0#u rfl 0#g rfl 0#g (by rfl)) (ao (b9 (bF ir 0#l dH (aH _)) (aI (dZ (fZ K (aa 5) 0#l) (hs:=dM))) cF) (aI (aU (rg (bF dI (gB K T.gc (aa 5)) aq (aH _)) (Jd.c1 fX hr (aa 5)) dH)))))),?_⟩
 rw?
 refine ⟨vx,tw,q,B,n,nb,rfl,fx.qt,htw,by try?,fun y1 H1 s1 f1=>?_⟩
 rw?
 refine aE (mk:=.tup) 0#e fun lo H2 s2 n2 e2=>?_
 have gD:=s1.trans s2
 have flo:W8 H2 lo m (q+B) (n+nb+1) n:=⟨y1,e2,f1.up s2,zm⟩
 rw?
 refine iw ?_
 rw?
 refine ⟨l,rfl,⟨_,aX.of (gD _ _ hl)⟩,?_⟩
 refine cC (xs:=vals es) bV (fun H3 s3=>aX.of (s3 _ _ (gD _ _ hl))) (by rw [aO];try?) (fun i ys G=>∃rs:Qs,ys=cY rs∧vh G rs (3*n+nb+3)∧rs.map (·.2)=(fu i).map (fun j=>dw es B m q j)) ⟨[],rfl,fun z hz=>absurd hz 0#e,rfl⟩ ?_ ?_
 ·rintro D i v ys H3 jK N N0 h0 hD eD s3 hv hy ⟨rs,rfl,hrs,hmap⟩ kY kN
  obtain ⟨e,he,rfl⟩:=gr hv
  have hi:i<es.length:=(lR.mp he).1
  obtain ⟨xi,gi,fi⟩:=cI (hR.up (gD.trans s3)) hS hi
  rw [he] at gi
  cases gi
  refine fD h0 ?_
  rw?
  refine cu ?_
  rw?
  refine ⟨e.1,lo,_,_,_,_,n,n+nb+1,n,rfl,fi.XD,flo.up s3,hm i hi,by try?,fun z H4 s4 f4=>?_⟩
  refine kY _ H4 s4 ⟨rs++[(z,dw es B m q i)],by simp [cY],fun u hu=>?_,?_⟩
  ·rcases dN.mp hu with w | w
   ·exact (hrs u w).up (rE s4)
   ·obtain rfl:u=(z,dw es B m q i):=by simpa using w
    obtain ⟨t,d,e',ff⟩:=f4.mono (show n+(n+nb+1)+n+2≤3*n+nb+3 by try?)
    refine ⟨t,d,d9 (s4 _ _ eD) e',?_⟩
    have eq:(q+B-wo es i)/((m:Rat)-(mo es i:Rat))=dw es B m q i:=by
     rfl
    rw [← eq]
    exact ff
  ·rw [i9,hmap,vd,i9]
   rfl
 ·rintro D ys H3 hD eD s3 hy ⟨rs,rfl,hrs,hmap⟩
  rw [aO] at hmap
  have FQ:vh H3 rs (3*n+nb+3):=fun u hu=>(hrs u hu).up gO
  have mK:=gD.trans s3
  have hlen:rs.length=es.length:=by
   have:=congrArg tT hmap
   simpa using this
  have inR:∀i,i<es.length→∃u∈rs,u.2=dw es B m q i:=fun i hi=>by
   have:dw es B m q i∈rs.map (·.2):=by rw [hmap];exact gP.mpr ⟨i,qH.mpr hi,rfl⟩
   obtain ⟨u,hu,e⟩:=gP.mp this
   exact ⟨u,hu,e⟩
  have RU:∀u∈rs,∃i,i<es.length∧dw es B m q i=u.2:=fun u hu=>by
   have:u.2∈rs.map (·.2):=gP.mpr ⟨u,hu,rfl⟩
   rw [hmap] at this
   obtain ⟨i,hi,e⟩:=gP.mp this
   exact ⟨i,qH.mp hi,e⟩
  rw?
  rcases hkv with rfl | ⟨hpos,pk,Kq,rfl,hK⟩
  ·refine ⟨rfl,?_⟩
   rw?
   refine bU ?_
   rw?
   refine cP (.inl (aX.of eD)) ?_
   rw?
   refine cE 0#B 0#B
   ·have c':=jM c
    have hpos:0<rs.length:=by
     have e:(cY rs).length=rs.length:=gJ ..
     rw [e] at c'
     try?
    rw?
    refine ⟨D,rs,3*n+nb+3,rfl,eD,FQ,by try?,hpos,fun u hu tM=>?_⟩
    rw?
    refine k1 0#d u.1 u.2 H3 mK (FQ u hu) (fun pk Kq e=>by cases e) (fun i hi=>?_) (.inl (RU u hu))
    obtain ⟨z,hz,e⟩:=inR i hi
    rw [← e]
    exact tM z hz
   ·have c':=iH (gY.mpr c)
    rw?
    refine k0 ?_ rfl H3 mK
    have e:(cY rs).length=rs.length:=gJ ..
    rw [e] at c'
    try?
  ·refine ⟨rfl,?_⟩
   rw?
   refine cu ?_
   rw?
   refine ⟨.inl ⟨rfl,_,aX.of eD⟩,?_⟩
   rw?
   have e:(cY rs).length=rs.length:=gJ ..
   refine cz eD (by rw [e];exact aN 0#d) ?_
   have e4:upd H3 D (.lst (cY rs++[.ref pk])) D=some (.lst (cY (rs++[(pk,Kq)]))):=by rw [aA];simp [cY]
   have hK3:=hK.up mK
   generalize hG:upd H3 D (.lst (cY rs++[.ref pk]))=H4 at *
   have vg:au H2 H4:=by rw [← hG];exact aY s3 hD
   have hq4:vh H4 (rs++[(pk,Kq)]) (3*n+nb+3):=fun u hu=>by
    rcases dN.mp hu with w | w
    ·rw [← hG];exact (FQ u w).app eD
    ·obtain rfl:u=(pk,Kq):=by simpa using w
     rw [← hG];exact hK3.app eD
   rw?
   refine cP (.inl (aX.of e4)) ?_
   rw?
   have e':(cY (rs++[(pk,Kq)])).length=rs.length+1:=by simp [cY]
   rw [e',show decide ((((rs.length+1:Nat):Int))>0)=true from jJ 0#d]
   refine cu ?_
   rw?
   refine ⟨D,rs++[(pk,Kq)],3*n+nb+3,rfl,e4,hq4,by try?,by simp,fun u hu tM=>?_⟩
   rw?
   refine k1 hpos u.1 u.2 H4 (gD.trans vg) (hq4 u hu) (fun pk' Kq' e1 q1=>?_) (fun i hi=>?_) ?_
   ·cases e1
    rw [EF q1 hK]
    exact tM (pk,Kq) 0#e
   ·obtain ⟨z,hz,e1⟩:=inR i hi
    rw [← e1]
    exact tM z (EK _ hz)
   ·rcases dN.mp hu with w | w
    ·exact .inl (RU u w)
    ·obtain rfl:u=(pk,Kq):=by simpa using w
     exact .inr ⟨pk,rfl,hK⟩
theorem j6 (h:i<es.length):mo (es++fs) i=mo es i:=by unfold mo;rw [wX h]
theorem kh (h:i<es.length):wo (es++fs) i=wo es i:=by unfold wo;rw [wX h]
theorem F4 {es:List En}:mo (es++[(a,m,some q)]) es.length=m:=by unfold mo;simp
theorem HE {es:List En}:wo (es++[(a,m,some q)]) es.length=q:=by unfold wo;simp
section
theorem oN (hij:i<j) (hj:j<es.length):fB (es++[(a,m,some q)]) B i j=fB es B i j:=by
 unfold fB
 rw [j6 hj,kh hj,j6 0#d,kh 0#d]
theorem lU (hij:i<j) (hj:j<es.length):c6 (es++[(a,m,some q)]) B i j=c6 es B i j:=by
 unfold c6
 rw [j6 hj,kh hj,j6 0#d,kh 0#d]
theorem AE (hi:i<es.length):fB (es++[(a,m,some q)]) B i es.length=dw es (-B) m q i:=by
 unfold fB dw
 rw [F4,HE,j6 hi,kh hi,show q+-B=q-B by grind]
theorem vC (hi:i<es.length):c6 (es++[(a,m,some q)]) B i es.length=dw es B m q i:=by
 unfold c6 dw
 rw [F4,HE,j6 hi,kh hi]
theorem V1 (h0:0<es.length) (h1:2≤es.length→∃G0,ZM es B G0∧G0≤G) (hall:∀i,i<es.length→dw es (-B) m q i≤G) (hex:(∃i,i<es.length∧dw es (-B) m q i=G)∨(2≤es.length∧ZM es B G)):ZM (es++[(a,m,some q)]) B G:=by
 refine ⟨fun i j hij hj=>?_,?_⟩
 ·rw [fq] at hj
  have hj':j<es.length+1:=hj
  by_cases e:j=es.length
  ·subst e
   rw [AE hij]
   exact hall i hij
  ·rw [oN hij 0#d]
   obtain ⟨G0,g,le⟩:=h1 0#d
   have:=g.1 i j hij 0#d
   grind
 ·rcases hex with ⟨i,hi,e⟩ | ⟨h2,g⟩
  ·exact ⟨i,es.length,hi,by rw [fq];show _<es.length+1;try?,by rw [AE hi];exact e⟩
  ·obtain ⟨i,j,a1,a2,a3⟩:=g.2
   exact ⟨i,j,a1,by rw [fq];show _<es.length+1;try?,by rw [oN a1 a2];exact a3⟩
theorem V2 (h0:0<es.length) (h1:2≤es.length→∃S0,ZN es B S0∧S≤S0) (hall:∀i,i<es.length→S≤dw es B m q i) (hex:(∃i,i<es.length∧dw es B m q i=S)∨(2≤es.length∧ZN es B S)):ZN (es++[(a,m,some q)]) B S:=by
 refine ⟨fun i j hij hj=>?_,?_⟩
 ·rw [fq] at hj
  have hj':j<es.length+1:=hj
  by_cases e:j=es.length
  ·subst e
   rw [vC hij]
   exact hall i hij
  ·rw [lU hij 0#d]
   obtain ⟨S0,g,le⟩:=h1 0#d
   have:=g.1 i j hij 0#d
   grind
 ·rcases hex with ⟨i,hi,e⟩ | ⟨h2,g⟩
  ·exact ⟨i,es.length,hi,by rw [fq];show _<es.length+1;try?,by rw [vC hi];exact e⟩
  ·obtain ⟨i,j,a1,a2,a3⟩:=g.2
   exact ⟨i,j,a1,by rw [fq];show _<es.length+1;try?,by rw [lU a1 a2];exact a3⟩
theorem Ce (h:rising es) (hm:∀i,i<es.length→mo es i<m):rising (es++[(a,m,some q)]):=by
 refine N3.mpr ⟨h,NU _ _,fun x hx y hy=>?_⟩
 obtain rfl:y=(a,m,some q):=by simpa using hy
 obtain ⟨i,hi,rfl⟩:=List.getElem_of_mem hx
 have:=hm i hi
 unfold mo at this
 rw [mX hi] at this
 exact this
theorem oJ (h:iR es):iR (es++[(a,m,some q)]):=fun x hx=>by
 rcases dN.mp hx with z | z
 ·exact h x z
 ·obtain rfl:x=(a,m,some q):=by simpa using z
  rfl
end
theorem Xm (s:au H H2):au (Qh p L H) (upd (upd (upd H2 p o1) p o2) L o3):=fun b o e=>by
 unfold Qh rm at e
 by_cases h1:b=p
 ·rw [if_pos h1] at e;cases e
 ·rw [if_neg h1] at e
  by_cases h2:b=L
  ·rw [if_pos h2] at e;cases e
  ·rw [if_neg h2] at e
   rw [aM h2,aM h1,aM h1]
   exact s _ _ e
theorem jW:aF ["self","sample","gentlest","steepest"] ["self","sample"] (ah kM):=0#a
theorem xU (F:cT K "takes" "Stretch.takes" kM f fd) (T:Txt mg) (aW:Cl K mg "Stretch" aR ["twice","samples","gentlest","steepest"]) (cL:Dn P w K mg base 4 "gentlest_with" ["known","earlier","sample","twice"] r9) (cN:Dn P w K mg base 4 "steepest_with" ["known","earlier","sample","twice"] wG)
 (cM:Dn P w K mg base 1 "order" ["one","other"] iO):bf P w K mg base c7 5 f fd ["self","sample"] (Hz aR):=by
 refine F.ok jW 0#f 0#b
 ·obtain ⟨p,L,x,es,m,q,B,n,nb,rfl,_⟩:=h
  rfl
 obtain ⟨p,L,x,es,m,q,B,n,nb,rfl,hSt,hx,hm,mC,hn,hnb,hB,k⟩:=h
 obtain ⟨dx,tw,fs,g,s',ep,hF,eL,hR,hS,dX,htw,hI⟩:=id hSt
 have RN:L≠p:=fun z=>by rw [z,ep] at eL;cases eL
 have fl:=hF.len
  -- the sample is taken: the two slopes stand at gv, sv
 have take:∀(gv sv:V) (H2:Hp),au H H2→HY (es++[(x,m,some q)]) B →
  ((es.length=0∧gv=.bM∧sv=.bM)∨(0<es.length∧∃(pg ps:av) (G S:Rat),gv=.ref pg∧sv=.ref ps∧bS H2 pg G (3*n+nb+3)∧bS H2 ps S (3*n+nb+3)∧ZM (es++[(x,m,some q)]) B G∧ZN (es++[(x,m,some q)]) B S∧G≤S)) →
  Q (.bl true) (upd (upd (upd H2 p (.ins aR dx (aB "gentlest" gv fs))) p (.ins aR dx (aB "steepest" sv (aB "gentlest" gv fs)))) L (.lst (vals es++[.ref x]))):=by
  intro gv sv H2 s2 hfit acj
  have QY:=s2 _ _ ep
  have eL2:=s2 _ _ eL
  have k3:=Xm (p:=p) (L:=L) (o1:=.ins aR dx (aB "gentlest" gv fs)) (o2:=.ins aR dx (aB "steepest" sv (aB "gentlest" gv fs))) (o3:=.lst (vals es++[.ref x])) (au.refl H2)
  refine k true _ (Xm s2) ⟨fun _=>hfit,fun _=>rfl⟩ ?_
  rw [if_pos rfl]
  refine ⟨dx,tw,_,gv,sv,by rw [aM (jn RN),aA],hF.setG.abu,by rw [aA];exact congrArg (fun z=>some (HO.lst z)) (fS es (x,m,some q)),?_,oJ hS,Ce dX hm,((htw.up s2).out QY eL2).up k3,?_⟩
  ·exact Row.up ((Row.out QY eL2 (hR.up s2)).snoc (nW.out QY eL2 (hx.up s2).en)) k3
  ·rw [fq]
   rcases acj with ⟨h0,e1,e2⟩ | ⟨h0,pg,ps,G,S,e1,e2,q1,q2,g1,g2,g3⟩
   ·exact .inl ⟨by show es.length+1<2;try?,e1,e2⟩
   ·exact .inr ⟨by show 2≤es.length+1;try?,pg,ps,G,S,e1,e2,(q1.out QY eL2).up k3,(q2.out QY eL2).up k3,g1,g2,g3⟩
 refine bI ⟨_,(ao (aK 2 jW.nd (fN cL 0#A rfl (Jd.a4 (eK K 0#l) (eK K 0#l) 0#r (eK K 0#l)) (he:=(by rfl)) (hpl:=(cD (by rfl) (cD bK (cD (by rfl) cB)))))) (ao (aK 3 jW.nd (fN cN 0#A rfl (Jd.a4 (eK K 0#l) (eK K 0#l) 0#r (eK K 0#l)) (he:=(by rfl)) (hpl:=(cD (by rfl) (cD bK (cD (by rfl) cB)))))) (ao (b9 (Jd.xA (rf (bF dI (gB K T.gc (eK K 0#l)) aq (aH _)) (tY (bF dI (bY cM hr 0#w (aa 3)) aq (aH _))))) (aI (aU Jd.oS)) cF) (ao (iA K 0#l 0#w) (ao (iA K 0#l (aa 3)) (ao (dZ (fZ K (eK K 0#l) 0#r) (hs:=dM)) (aI (aU Jd.oS)))))))),?_⟩
 rw?
 refine jI aW ep hF.g ?_
 rw?
 refine jI aW ep hF.sl ?_
 rw?
 refine jI aW ep hF.tw ?_
 rw?
 refine ⟨g,L,x,tw,es,m,q,B,n,nb,rfl,eL,hR,hS,hx,htw,mC,eE hn 0#i,eE hnb 0#i,hm,?_,fun h0 hg H1 s1=>?_,fun hpos pg G H1 s1 f1 hK hall hex=>?_⟩
 ·rcases hI with ⟨_,z,_⟩ | ⟨z,pg,ps,G,S,e1,_,q1,_⟩
  ·exact .inl z
  ·exact .inr ⟨by try?,pg,G,e1,q1⟩
 ·have ep1:=s1 _ _ ep
  have hs':s'=.bM:=by
   rcases hI with ⟨_,_,z⟩ | ⟨z,_⟩
   ·exact z
   ·try?
  rw?
  refine jI aW ep1 hF.s ?_
  rw?
  refine jI aW ep1 hF.sl ?_
  rw?
  refine jI aW ep1 hF.tw ?_
  rw?
  refine ⟨s',L,x,tw,es,m,q,B,n,nb,rfl,s1 _ _ eL,hR.up s1,hS,hx.up s1,htw.up s1,mC,eE hn 0#i,eE hnb 0#i,hm,.inl hs',fun _ _ H2 s2=>?_,fun hpos=>absurd hpos 0#d⟩
  have gD:=s1.trans s2
  have QY:=gD _ _ ep
  rw?
  refine jI aW QY hF.sl ?_
  rw?
  refine cP (.inl (aX.of (gD _ _ eL))) ?_
  rw [aO]
  rw?
  rw [show decide (((es.length:Nat):Int)>0)=false from qu 0#d]
  refine bU ?_
  refine bU ?_
  rw?
  refine zE aW QY 0#d ?_
  rw?
  refine zE aW aA (by rw [fP hF.g];try?) ?_
  rw?
  refine jI aW aA hF.setG.abu.sl ?_
  rw?
  have Fj:upd (upd H2 p (.ins aR dx (aB "gentlest" .bM fs))) p (.ins aR dx (aB "steepest" .bM (aB "gentlest" .bM fs))) L=some (.lst (vals es)):=by
   rw [aM RN,aM RN]
   exact gD _ _ eL
  refine ⟨.inl ⟨rfl,_,aX.of Fj⟩,?_⟩
  rw?
  refine cz Fj (by rw [aO];exact aN 0#d) ?_
  rw?
  refine take .bM .bM H2 gD (fun i j k l a1 a2 b1 b2=>?_) (.inl ⟨h0,rfl,rfl⟩)
  rw [fq,h0] at a2
  have a2':j<0+1:=a2
  try?
 ·have ep1:=s1 _ _ ep
  rw?
  refine jI aW ep1 hF.s ?_
  rw?
  refine jI aW ep1 hF.sl ?_
  rw?
  refine jI aW ep1 hF.tw ?_
  rw?
  refine ⟨s',L,x,tw,es,m,q,B,n,nb,rfl,s1 _ _ eL,hR.up s1,hS,hx.up s1,htw.up s1,mC,eE hn 0#i,eE hnb 0#i,hm,?_,fun h0=>absurd h0 0#d,fun _ ps S H2 s2 f2 hK2 BA hex2=>?_⟩
  ·rcases hI with ⟨_,_,z⟩ | ⟨z,pg,ps,G,S,_,e1,_,q1,_⟩
   ·exact .inl z
   ·exact .inr ⟨by try?,ps,S,e1,q1.up s1⟩
  have gD:=s1.trans s2
  have QY:=gD _ _ ep
  have gG:ZM (es++[(x,m,some q)]) B G:=by
   refine V1 hpos (fun h2=>?_) hall ?_
   ·rcases hI with ⟨z,_⟩ | ⟨_,pg0,ps0,G0,S0,e1,e2,q1,q2,g1,g2,g3⟩
    ·try?
    ·exact ⟨G0,g1,hK pg0 G0 e1 q1⟩
   ·rcases hex with z | ⟨pk,e,qk⟩
    ·exact .inl z
    ·rcases hI with ⟨_,z,_⟩ | ⟨z,pg0,ps0,G0,S0,e1,e2,q1,q2,g1,g2,g3⟩
     ·rw [z] at e;cases e
     ·rw [e1] at e
      cases e
      rw [EF qk q1]
      exact .inr ⟨z,g1⟩
  have gS:ZN (es++[(x,m,some q)]) B S:=by
   refine V2 hpos (fun h2=>?_) BA ?_
   ·rcases hI with ⟨z,_⟩ | ⟨_,pg0,ps0,G0,S0,e1,e2,q1,q2,g1,g2,g3⟩
    ·try?
    ·exact ⟨S0,g2,hK2 ps0 S0 e2 (q2.up s1)⟩
   ·rcases hex2 with z | ⟨pk,e,qk⟩
    ·exact .inl z
    ·rcases hI with ⟨_,_,z⟩ | ⟨z,pg0,ps0,G0,S0,e1,e2,q1,q2,g1,g2,g3⟩
     ·rw [z] at e;cases e
     ·rw [e2] at e
      cases e
      rw [EF qk (q2.up s1)]
      exact .inr ⟨z,g2⟩
  have fit:=M8 gG gS
  rw?
  refine jI aW QY hF.sl ?_
  rw?
  refine cP (.inl (aX.of (gD _ _ eL))) ?_
  rw [aO]
  rw?
  rw [show decide (((es.length:Nat):Int)>0)=true from jJ 0#d]
  refine cu ?_
  rw?
  refine ⟨pg,ps,G,S,_,_,rfl,f1.up s2,f2,by try?,fun o Qc ho2=>?_⟩
  rw?
  refine cE 0#B 0#B
  ·have c':S<G:=Qc.mp (jM c)
   rw?
   refine k false H2 (fun b o e=>gD _ _ (SI _ _ e)) ⟨fun z=>absurd z 0#i,fun z=>?_⟩ ?_
   ·have:=fit.mp z
    grind
   ·rw [if_neg dD]
    exact hSt.up gD
  ·have c':G≤S:=jm.mp fun z=>iH (gY.mpr c) (Qc.mpr z)
   rw?
   refine zE aW QY 0#d ?_
   rw?
   refine zE aW aA (by rw [fP hF.g];try?) ?_
   rw?
   refine jI aW aA hF.setG.abu.sl ?_
   rw?
   have Fj:upd (upd H2 p (.ins aR dx (aB "gentlest" (.ref pg) fs))) p (.ins aR dx (aB "steepest" (.ref ps) (aB "gentlest" (.ref pg) fs))) L=some (.lst (vals es)):=by
    rw [aM RN,aM RN]
    exact gD _ _ eL
   refine ⟨.inl ⟨rfl,_,aX.of Fj⟩,?_⟩
   rw?
   refine cz Fj (by rw [aO];exact aN 0#d) ?_
   rw?
   exact take (.ref pg) (.ref ps) H2 gD (fit.mpr c') (.inr ⟨hpos,pg,ps,G,S,rfl,rfl,f1.up s2,f2,gG,gS,c'⟩)
theorem Av:aF ["self"] ["self"] (ah mP):=0#a
theorem Ak (F:cT K "kept" "Stretch.kept" mP f fd) (T:Txt mg) (aW:Cl K mg "Stretch" aR ["twice","samples","gentlest","steepest"]):bf P w K mg base c7 1 f fd ["self"] (MA aR):=by
 refine F.ok Av 0#f 0#b
 ·obtain ⟨p,L,es,B,n,nb,rfl,_⟩:=h
  rfl
 obtain ⟨p,L,es,B,n,nb,rfl,⟨dx,tw,fs,g,s',ep,hF,eL,_⟩,k⟩:=h
 refine bI ⟨_,(aI (aU (Jd.oU Fd rfl T.acK aeb (dG (eK K 0#l))))),?_⟩
 rw?
 refine jI aW ep hF.sl ?_
 rw?
 exact ⟨L,_,rfl,.inl (aX.of eL),fun R nR=>k R _ (kr nR _) nR aA⟩
end
theorem uz.fresh (h:uz C H p L [] B n nb) (hn:nb≤nb'):uz C H p L [] B n' nb':=by
 obtain ⟨dx',tw,fs,g,s',h1,h2,h3,h4,h5,h6,h7,h8⟩:=h
 refine ⟨dx',tw,fs,g,s',h1,h2,h3,fun x hx=>absurd hx 0#e,h5,h6,h7.mono hn,?_⟩
 rcases h8 with z | ⟨z,_⟩
 ·exact .inl z
 ·exact absurd z 0#i
theorem uz.fit (h:uz C H p L es B n nb):HY es B:=by
 obtain ⟨dx,tw,fs,g,s',h1,h2,h3,h4,h5,h6,h7,h8⟩:=h
 rcases h8 with ⟨z,_⟩ | ⟨z,pg,ps,G,S,e1,e2,q1,q2,g1,g2,g3⟩
 ·intro i j k l a1 a2 b1 b2
  try?
 ·exact (M8 g1 g2).mpr g3
def piece (es:List En) (n m:Nat):List En:=(es.drop n).take (m-n)
def Cut (es:List En) (B:Rat) (qs:List (List En)) (n:Nat):Prop:=∃pos:Nat→Nat,pos 0=0∧pos qs.length=n∧∀i q,qs[i]?=some q→pos i<pos (i+1)∧pos (i+1)≤es.length∧q=piece es (pos i) (pos (i+1))∧HY q B∧(pos (i+1)<es.length→¬HY (piece es (pos i) (pos (i+1)+1)) B)
theorem Cut.nil:Cut es B [] 0:=⟨fun _=>0,rfl,rfl,fun i q h=>by simp at h⟩
theorem Cut.snoc (h:Cut es B qs n) (h1:n<n') (h2:n'≤es.length) (hf:HY (piece es n n') B) (hn:n'<es.length→¬HY (piece es n (n'+1)) B):Cut es B (qs++[piece es n n']) n':=by
 obtain ⟨pos,p0,pn,h⟩:=h
 refine ⟨fun j=>if j≤qs.length then pos j else n',?_,?_,fun i q hi=>?_⟩
 ·show (if 0≤qs.length then pos 0 else n')=0
  rw [if_pos (mW _)]
  exact p0
 ·show (if (qs++[piece es n n']).length≤qs.length then pos (qs++[piece es n n']).length else n')=n'
  rw [if_neg (by rw [fq];show ¬qs.length+1≤qs.length;try?)]
 ·by_cases hi':i<qs.length
  ·rw [wX hi'] at hi
   simp only [if_pos (show i≤qs.length by try?),if_pos (show i+1≤qs.length by try?)]
   exact h i q hi
  ·have hi2:=(lR.mp hi).1
   rw [fq] at hi2
   have hi3:i<qs.length+1:=hi2
   obtain rfl:i=qs.length:=by try?
   rw [yO (dz _),UE] at hi
   obtain rfl:piece es n n'=q:=by simpa using hi
   simp only [if_pos (dz _),if_neg (show ¬qs.length+1≤qs.length by try?),pn]
   exact ⟨h1,h2,trivial,hf,hn⟩
theorem ye (h:j<m-n):(piece es n m)[j]?=es[n+j]?:=by
 unfold piece
 rw [N8,if_pos h,ly]
theorem sW (h:m≤es.length):(piece es n m).length=m-n:=by
 unfold piece
 rw [wZ,iP]
 try?
theorem pU (h:n≤i) (he:es[i]?=some e):piece es n (i+1)=piece es n i++[e]:=by
 unfold piece
 rw [show i+1-n=(i-n)+1 by try?,qF,ly,show n+(i-n)=i by try?,he]
 rfl
theorem piece_nil:piece es n n=[]:=by unfold piece;simp
theorem vK (h:j<m-n):mo (piece es n m) j=mo es (n+j):=by unfold mo;rw [ye h]
theorem M9 (h:es.length≤1):HY es B:=fun i j k l a1 a2 b1 b2=>by try?
theorem LL.mv (h:LL H H2 T ls) (ep:H2 p=some (.ins C dx fs)) (nT:T≠L) (nl:∀x∈ls,x.1≠L) (s:au (Qh p L H2) H3):LL H H3 T ls:=by
 have e:=h.at_
 refine ⟨h.new,s _ _ (by rw [Cf (fun q=>by rw [q,ep] at e;cases e) nT];exact e),fun x hx=>?_,h.nd⟩
 obtain ⟨a,b,c⟩:=h.each x hx
 exact ⟨a,s _ _ (by rw [Cf (fun q=>by rw [q,ep] at b;cases b) (nl x hx)];exact b),c⟩
inductive sr (C:av) (vs:List V) (H:Hp) (Q:VK) (E_:XK):Prop where
 | mk (l pb:av) (es:List En) (β:Rat) (N n:Nat):vs=[.ref l,.ref pb]→H l=some (.lst (vals es))→Row H es N→iR es→rising es→bS H pb β n→0≤β→N≤1000→n≤1000→es.length≤40→(∀(T:av) (ls:Ls) (H':Hp),au H H'→LL H H' T ls→Cut es (2*β) (ls.map (·.2)) es.length→ls.length≤40→Q (.ref T) H')→sr C vs H Q E_
section
theorem jD:aF ["samples","bound","told","stretch","sample"] ["samples","bound"] (ah rV):=0#a
theorem Gx (F:cT K "stretches" "stretches" rV f fd) (T:Txt mg) (aW:Cl K mg "Stretch" aR ["twice","samples","gentlest","steepest"]) (sJ:Dk P w K mg base 6 "Stretch" aR ["self","bound"] (CB aR)) (iQ:Dm P w K mg base 5 aR "takes" ["self","sample"] (Hz aR)) (jq:Dm P w K mg base 1 aR "kept" ["self"] (MA aR)) :
 bf P w K mg base c7 8 f fd ["samples","bound"] (sr aR):=by
 refine F.ok jD 0#f 0#b
 ·obtain ⟨l,pb,es,β,N,n,rfl,_⟩:=h
  rfl
 obtain ⟨l,pb,es,β,N,n,rfl,hl,hes,hS,dX,hpb,lV,hN,hn,lI,k⟩:=h
 have Xg:(0:Rat)≤2*β:=by grind
  -- a new Stretch
 have fresh:∀{G:Hp} {QQ:Hp→Prop} {p dx:av},au H G→G p=none→G dx=none→(∀(L:av) (G':Hp),au G G'→G L=none→uz aR G' p L [] (2*β) N (2*n+1)→QQ G') →
  CB aR [.ref p,.ref pb] (upd (upd G dx (.own p)) p (.ins aR dx [])) (fun v G'=>v=.bM∧QQ G') E0:=fun {G QQ p dx} s np ndx kk=>by
  have s1:au G (upd (upd G dx (.own p)) p (.ins aR dx [])):=fun b' o e=>by
   rw [aM (bH e np),aM (bH e ndx)]
   exact e
  refine ⟨p,dx,pb,β,n,rfl,aA,hpb.up (s.trans s1),hn,fun L G' kn s2 nL hst=>⟨rfl,?_⟩⟩
  exact kk L G' (fun b' o e=>s2 _ _ (by rw [mJ (bH e np)];exact s1 _ _ e)) (s1.free nL) (uz.fresh hst (dz _))
 refine bI ⟨_,(ao (aK 2 jD.nd (dg dY)) (ao (aK 3 jD.nd (Jd.Sm sJ 0#A rfl (dG 0#r) (he:=bK) (hpl:=cB))) (ao (dP gF rfl (di K 0#l) (cg (i:=4) jD.nd rfl 0#m) (aI (b9 (Jd.Cb (nv (Jd.vQ iQ aW.cl 0#A (aa 3) (dG (aa 4)) (he:=bK) (hpl:=cB)))) (ao (dZ (fZ K 0#w (Jd.LR jq aW.cl 0#A (aa 3))) (hs:=dM)) (ao (aK 3 jD.nd (Jd.Sm sJ 0#A rfl (dG 0#r) (he:=bK) (hpl:=cB))) (aI (dZ (Jd.vQ iQ aW.cl 0#A (aa 3) (dG (aa 4)) (he:=bK) (hpl:=cB)) (hs:=dM))))) cF))) (ao (b9 (bF dI (gB K T.gc 0#l) aq (aH _)) (aI (dZ (fZ K 0#w (Jd.LR jq aW.cl 0#A (aa 3))) (hs:=dM))) cF) (aI (aU 0#w)))))),?_⟩
 rw?
 refine aE (mk:=.lst) 0#e fun TT H1 s1 n1 e1=>?_
 rw?
 refine fun p dx np ndx _=>fresh s1 np ndx fun L H2 s2 nL hst=>?_
 have gD:=s1.trans s2
 rw?
 refine eF (iw ?_)
 rw?
 refine ⟨l,rfl,⟨_,aX.of (gD _ _ hl)⟩,dW (xs:=vals es) (fun i σ H3=>Xs5 fun (p L:av) (ls:Ls) (n0:Nat) (v:Option V)=>σ=[some (.ref l),some (.ref pb),some (.ref TT),some (.ref p),v]∧au H H3∧LL H H3 TT ls∧Cut es (2*β) (ls.map (·.2)) n0∧n0≤i∧(0<i→n0<i)∧ls.length≤n0∧uz aR H3 p L (piece es n0 i) (2*β) N (2*n+1)∧H p=none∧H L=none∧TT≠L∧∀x∈ls,x.1≠L) ?_ ?_ ?_ ?_⟩
 ·refine ⟨p,L,[],0,none,rfl,gD,⟨n1,s2 _ _ e1,fun x hx=>absurd hx 0#e,by simp⟩,Cut.nil,dz _,fun h=>absurd h 0#i,dz _,?_,s1.free np,s1.free nL,fun q=>?_,fun x hx=>absurd hx 0#e⟩
  ·rw [piece_nil];exact hst
  ·rw [← q,e1] at nL;cases nL
 ·rintro i σ H3 _ ⟨p,L,ls,n0,v,rfl,s3,_⟩
  exact aX.of (s3 _ _ hl)
 ·rintro i x σ H3 hx ⟨p,L,ls,n0,v,rfl,s3,Dj,hC,h0i,aap,acs,hst,np,nL,nTL,nlL⟩
  obtain ⟨e,he,rfl⟩:=gr hx
  have hi:i<es.length:=(lR.mp he).1
  obtain ⟨e',he',hsa⟩:=cI (hes.up s3) hS hi
  rw [he] at he'
  cases he'
  have ee:e=(e.1,mo es i,some (wo es i)):=by
   have hs:=hS e (mY he)
   obtain ⟨a,m,v⟩:=e
   cases v with
   | none=>cases hs
   | some q=>
     unfold mo wo
     rw [he]
     rfl
  have hlen:(piece es n0 i).length=i-n0:=sW 0#d
  have hm:∀j,j<(piece es n0 i).length→mo (piece es n0 i) j<mo es i:=fun j hj=>by
   rw [hlen] at hj
   rw [vK hj]
   exact gV dX 0#d hi
  have hnext:=pU h0i he
  rw [ee] at hnext
  obtain ⟨dx3,tw,fs,g,s',ep,hF,eL,_⟩:=id hst
  rw?
  refine Qg ep (hF.xO "takes") ?_
  rw?
  refine ⟨p,L,e.1,piece es n0 i,mo es i,wo es i,_,N,2*n+1,rfl,hst,hsa,hm,by try?,hN,by try?,Xg,fun r H4 s4 hfit O6=>?_⟩
  rw [← hnext] at hfit O6
  have vg:au H H4:=fun b' o q=>s4 _ _ (by rw [Cf (bH q np) (bH q nL)];exact s3 _ _ q)
  have Rb:=Dj.mv ep nTL nlL s4
  cases r with
  | true=>
    rw [if_pos rfl] at O6
    rw?
    refine bU ?_
    rw?
    exact ⟨p,L,ls,n0,_,rfl,vg,Rb,hC,by try?,fun _=>by try?,acs,O6,np,nL,nTL,nlL⟩
  | false=>
    rw [if_neg dD] at O6
    have nf:¬HY (piece es n0 (i+1)) (2*β):=fun q=>absurd (hfit.mpr q) 0#i
    have aeF:n0<i:=by
     apply P4
     intro q
     exact nf (M9 (by rw [sW 0#d];try?))
    have hC':Cut es (2*β) (ls.map (·.2)++[piece es n0 i]) i:=hC.snoc aeF 0#d hst.fit fun _=>nf
    obtain ⟨dx4,tw4,fs4,g4,s4',ep4,hF4,Fj,_⟩:=id O6
    rw?
    refine cu ?_
    rw?
    refine ⟨.inl ⟨rfl,_,aX.of Rb.at_⟩,?_⟩
    rw?
    refine Qg ep4 (hF4.xO "kept") ?_
    rw?
    refine ⟨p,L,_,_,_,_,rfl,O6,fun R H5 s5 nR eR=>?_⟩
    have Rc:=Rb.up s5
    have hRT:R≠TT:=fun q=>by rw [q,Rb.at_] at nR;cases nR
    have hRl:∀x∈ls,x.1≠R:=fun x hx q=>by
     have:=(Rb.each x hx).2.1
     rw [q,nR] at this
     cases this
    rw?
    refine cz Rc.at_ (by rw [dR];exact aN 0#d) ?_
    have OS:=Rc.push (vg.free nR) eR hRT hRl
    have Dp:au H (upd H5 TT (.lst (lrefs ls++[.ref R]))):=aY (vg.trans s5) n1
    generalize upd H5 TT (.lst (lrefs ls++[.ref R]))=H6 at OS Dp ⊢
    rw?
    refine fun p' dx' np' afg _=>fresh Dp np' afg fun L' H7 s7 nL' acz=>?_
    have EH:=Dp.trans s7
    have KP:=OS.up s7
    obtain ⟨dx7,tw7,fs7,g7,s7',Xe,hF7,eL7,_⟩:=id acz
    rw?
    refine Qg Xe (hF7.xO "takes") ?_
    rw?
    refine ⟨p',L',e.1,[],mo es i,wo es i,_,N,2*n+1,rfl,acz,?_,fun j hj=>absurd hj (D7 _),mW _,hN,by try?,Xg,fun r2 H8 s8 acq acA=>?_⟩
    ·obtain ⟨e2,U0,aeY⟩:=cI (hes.up EH) hS hi
     rw [he] at U0
     cases U0
     exact aeY
    have hr2:r2=true:=acq.mpr (M9 0#e)
    rw [if_pos hr2,YS,← ee] at acA
    have acN:TT≠L':=fun q=>by rw [← q,OS.at_] at nL';cases nL'
    have acQ:∀x∈ls++[(R,piece es n0 i)],x.1≠L':=fun x hx q=>by
     have:=(OS.each x hx).2.1
     rw [q,nL'] at this
     cases this
    have aeH:=KP.mv Xe acN acQ s8
    rw?
    refine ⟨p',L',ls++[(R,piece es n0 i)],i,_,rfl,fun b' o q=>s8 _ _ (by rw [Cf (bH q (Dp.free np')) (bH q (Dp.free nL'))];exact EH _ _ q),aeH,?_,by try?,fun _=>by try?,by rw [fq];show ls.length+1≤i;try?,?_,Dp.free np',Dp.free nL',acN,acQ⟩
    ·rw [i9]
     exact hC'
    ·rw [pU (dz _) he,piece_nil]
     exact acA
 ·rintro σ H3 ⟨p,L,ls,n0,v,rfl,s3,Dj,hC,h0i,aap,acs,hst,np,nL,nTL,nlL⟩
  rw [aO] at h0i aap hst
  rw?
  refine cP (.inl (aX.of (s3 _ _ hl))) ?_
  rw [aO]
  rw?
  refine cE 0#B 0#B
  ·have c':=jM c
   obtain ⟨dx4,tw4,fs4,g4,s4',ep4,hF4,Fj,_⟩:=id hst
   rw?
   refine ⟨.inl ⟨rfl,_,aX.of Dj.at_⟩,?_⟩
   rw?
   refine Qg ep4 (hF4.xO "kept") ?_
   rw?
   refine ⟨p,L,_,_,_,_,rfl,hst,fun R H5 s5 nR eR=>?_⟩
   have Rc:=Dj.up s5
   have hRT:R≠TT:=fun q=>by rw [q,Dj.at_] at nR;cases nR
   have hRl:∀x∈ls,x.1≠R:=fun x hx q=>by
    have:=(Dj.each x hx).2.1
    rw [q,nR] at this
    cases this
   have hlt:n0<es.length:=aap 0#d
   rw?
   refine cz Rc.at_ (by rw [dR];exact aN 0#d) ?_
   have OS:=Rc.push (s3.free nR) eR hRT hRl
   rw?
   refine k TT _ _ (aY (s3.trans s5) n1) OS ?_ (by rw [fq];show ls.length+1≤40;try?)
   rw [i9]
   exact hC.snoc hlt (dz _) hst.fit fun q=>absurd q (C4 _)
  ·have c':=iH (gY.mpr c)
   rw?
   refine k TT ls H3 s3 Dj ?_ 0#d
   rw [show es.length=n0 by try?]
   exact hC
end
section
variable (t y:Nat→Int)
def ab (i k p:Nat):Int:=y p*(t k-t i)-y i*(t k-t p)-y k*(t p-t i)
def oR (i j k p:Nat):Int:=2*ab t y i k p-ab t y i k j
def Bl (i j k:Nat):Rat:=((ab t y i k j).natAbs:Int)/((t k-t i:Int):Rat)
end
section
theorem ZV:2*(t k-t i)*ab t y a c b=oR t y i j k b*(t c-t a)-oR t y i j k a*(t c-t b)-oR t y i j k c*(t b-t a):=by
 unfold oR ab
 grind
theorem Pn:oR t y i j k i=- ab t y i k j:=by
 unfold oR ab
 grind
theorem RV:oR t y i j k k=- ab t y i k j:=by
 unfold oR ab
 grind
theorem AG:oR t y i j k j=ab t y i k j:=by
 unfold oR
 try?
theorem Qu {m:Int} (hx:m≤x) (hu:m≤u) (hz:m≤z) (h:m<x∨m<u∨m<z) (hq:0<q) (hr:0<r):2*m*(q+r)<u*(q+r)+x*q+z*r:=by
 have e:u*(q+r)+x*q+z*r-2*m*(q+r)=(u-m)*(q+r)+(x-m)*q+(z-m)*r:=by grind
 have h1:0≤(u-m)*(q+r):=oG 0#d 0#d
 have h2:0≤(x-m)*q:=oG 0#d 0#d
 have h3:0≤(z-m)*r:=oG 0#d 0#d
 rcases h with h | h | h
 ·have:0<(x-m)*q:=wQ 0#d hq
  try?
 ·have:0<(u-m)*(q+r):=wQ 0#d 0#d
  try?
 ·have:0<(z-m)*r:=wQ 0#d hr
  try?
def Alt (O:Nat→Int) (m:Int) (a b c:Nat):Prop:=((m≤O b∧m≤- O a∧m≤- O c)∨(m≤- O b∧m≤O a∧m≤O c))∧((m<O a∨m < - O a)∨(m<O b∨m < - O b)∨(m<O c∨m < - O c))
theorem Z6 (hik:t i<t k) (hab:t a<t b) (hbc:t b<t c) (h:Alt (oR t y i j k) ((ab t y i k j).natAbs:Int) a b c):Bl t y i j k<Bl t y a b c:=by
 have key:((ab t y i k j).natAbs:Int)*(t c-t a)<((ab t y a c b).natAbs:Int)*(t k-t i):=by
  have id:=ZV (t:=t) (y:=y) (i:=i) (j:=j) (k:=k) (a:=a) (b:=b) (c:=c)
  generalize oR t y i j k=O at *
  generalize hm:((ab t y i k j).natAbs:Int)=m at *
  have hm0:0≤m:=by try?
  obtain ⟨h1,h2⟩:=h
  rcases h1 with ⟨u1,u2,u3⟩ | ⟨u1,u2,u3⟩
  ·have g:=Qu (x:=- O a) (u:=O b) (z:=- O c) (q:=t c-t b) (r:=t b-t a) u2 u1 u3 0#d 0#d 0#d
   have e1:O b*(t c-t b+(t b-t a))+- O a*(t c-t b)+- O c*(t b-t a)=O b*(t c-t a)-O a*(t c-t b)-O c*(t b-t a):=by grind
   rw [e1,← id] at g
   have e2:2*m*(t c-t b+(t b-t a))=2*(m*(t c-t a)):=by grind
   rw [e2] at g
   have e3:2*(t k-t i)*ab t y a c b=2*(ab t y a c b*(t k-t i)):=by grind
   rw [e3] at g
   have g2:m*(t c-t a)<ab t y a c b*(t k-t i):=by try?
   exact Yu g2 (Kl 0#d 0#d)
  ·have g:=Qu (x:=O a) (u:=- O b) (z:=O c) (q:=t c-t b) (r:=t b-t a) u2 u1 u3 0#d 0#d 0#d
   have e1:- O b*(t c-t b+(t b-t a))+O a*(t c-t b)+O c*(t b-t a)=- (O b*(t c-t a)-O a*(t c-t b)-O c*(t b-t a)):=by grind
   rw [e1,← id] at g
   have e2:2*m*(t c-t b+(t b-t a))=2*(m*(t c-t a)):=by grind
   rw [e2] at g
   have e3:- (2*(t k-t i)*ab t y a c b)=2*(- ab t y a c b*(t k-t i)):=by grind
   rw [e3] at g
   have g2:m*(t c-t a) < - ab t y a c b*(t k-t i):=by try?
   exact Yu g2 (Kl 0#d 0#d)
 unfold Bl
 have hT:=cast_pos (b:=t k-t i) 0#d
 have hp:=cast_pos (b:=t c-t a) 0#d
 rw [Y7 hT]
 have e:(((ab t y a c b).natAbs:Int):Rat)/((t c-t a:Int):Rat)*((t k-t i:Int):Rat)=((((ab t y a c b).natAbs:Int)*(t k-t i):Int):Rat)/((t c-t a:Int):Rat):=by
  rw [o9]
  grind
 rw [e,Y8 hp,← o9]
 exact vc.mpr key
end
def abI (n:Nat):List (Nat×Nat×Nat):=(fu n).flatMap fun a=>(fu n).flatMap fun b=>(fu n).map fun c=>(a,b,c)
theorem RH (ha:a<n) (hb:b<n) (hc:c<n):(a,b,c)∈abI n:=by
 unfold abI
 exact Uj.mpr ⟨a,qH.mpr ha,Uj.mpr ⟨b,qH.mpr hb,gP.mpr ⟨c,qH.mpr hc,rfl⟩⟩⟩
open Classical in
def beyond (t y:Nat→Int) (n:Nat) (d:Rat):Nat:=((abI n).filter fun x=>decide (d<Bl t y x.1 x.2.1 x.2.2)).length
theorem filter_lt {α:Type} {p q:α→Bool}:∀{l:List α},(∀x,q x=true→p x=true)→(∃x,x∈l∧p x=true∧q x=false)→(l.filter q).length<(l.filter p).length
 | [],_,h=>by obtain ⟨x,hx,_⟩:=h;exact absurd hx 0#e
 | a::l,hq,h=>by
   have le:∀l:List α,(l.filter q).length≤(l.filter p).length:=fun l=>by
    induction l with
    | nil=>exact dz _
    | cons b l ih=>
      rw [C0,C0]
      cases hb:q b with
      | true=>rw [hq b hb,if_pos rfl,if_pos rfl];exact HU ih
      | false=>
        rw [if_neg dD]
        split
        ·exact zK ih
        ·exact ih
   obtain ⟨x,hx,hp,hqx⟩:=h
   rw [C0,C0]
   rcases qv.mp hx with rfl | hx
   ·rw [hqx,hp,if_neg dD,if_pos rfl]
    exact Nat.lt_succ_of_le (le l)
   ·have ih:=filter_lt (l:=l) hq ⟨x,hx,hp,hqx⟩
    cases hb:q a with
    | true=>rw [hq a hb,if_pos rfl,if_pos rfl];exact Nat.succ_lt_succ ih
    | false=>
      rw [if_neg dD]
      split
      ·exact Nat.lt_succ_of_lt ih
      ·exact ih
open Classical in
theorem OE (ha:a<n) (hb:b<n) (hc:c<n) (h:d<Bl t y a b c):beyond t y n (Bl t y a b c)<beyond t y n d:=by
 unfold beyond
 refine filter_lt (fun x hx=>jJ (by have:=jM hx;grind)) ⟨(a,b,c),RH ha hb hc,jJ h,qu (Ut)⟩
theorem RA {C:Int} (hC:1≤C) (hb:1≤b):1≤C.fdiv (cK C b:Nat)*b∧C.fdiv (cK C b:Nat)*b≤C*b∧C∣C.fdiv (cK C b:Nat)*b∧b∣C.fdiv (cK C b:Nat)*b:=by
 have gp:0<cK C b:=P0 C 0#d
 obtain ⟨c,hc⟩:=J4 (a:=C) (b:=b)
 obtain ⟨d,hd⟩:=J3 (a:=C) (b:=b)
 generalize hg:((cK C b:Nat):Int)=g at *
 have g1:0<g:=by try?
 have e:C.fdiv g=c:=by
  conv=>lhs;rw [hc]
  exact XO c 0#d
 rw [e]
 have hc1:1≤c:=by
  rcases Zr c 1 with z | z
  ·have:g*c≤0:=Int.mul_nonpos_of_nonneg_of_nonpos 0#d 0#d
   try?
  ·exact z
 have hcC:c≤C:=by
  rw [hc]
  have:=Kl (show 1≤g by try?) (show 0≤c by try?)
  try?
 refine ⟨?_,Kl hcC 0#d,⟨d,?_⟩,⟨c,yR _ _⟩⟩
 ·have:=C2 hc1 hb 0#d 0#d
  try?
 ·rw [hc]
  conv=>lhs;rw [hd]
  grind
structure Pts (H:Hp) (L:av) (ps:List av) (t y:Nat→Int):Prop where
 at_:H L=some (.lst (ps.map V.ref))
 each:∀i a,ps[i]?=some a→H a=some (.tup [.int (t i),.int (y i)])
theorem Pts.up (h:Pts H L ps t y) (s:au H H'):Pts H' L ps t y:=⟨s _ _ h.at_,fun i a e=>s _ _ (h.each i a e)⟩
theorem Mb {ps:List av} (h:i<ps.length) (hj:j=(i:Int)):∃a,ps[i]?=some a∧pM (ps.map V.ref) j=some (.ref a):=⟨ps[i],mX h,by
 subst hj
 exact gK (by rw [dm,mX h];rfl)⟩
inductive CI (vs:List V) (H:Hp) (Q:VK) (E_:XK):Prop where
 | mk (l:av) (es:List En) (n:Nat):vs=[.ref l]→H l=some (.lst (vals es))→Row H es n→iR es→1≤n→es.length*n+n≤7000→es.length≤40→(∀(L:av) (ps:List av) (y:Nat→Int) (C:Int) (H':Hp),au H H'→H L=none→Pts H' L ps (mo es) y→ps.length=es.length→1≤C→(∀i,i<es.length→(y i:Rat)=wo es i*(C:Rat)∧Sz 8000 (y i))→Q (.ref L) H')→CI vs H Q E_
inductive Hi (vs:List V) (H:Hp) (Q:VK) (E_:XK):Prop where
 | mk (p1 p2 p3:av) (m1 n1 m2 n2 m3 n3:Int):vs=[.ref p1,.ref p2,.ref p3]→H p1=some (.tup [.int m1,.int n1])→H p2=some (.tup [.int m2,.int n2])→H p3=some (.tup [.int m3,.int n3])→Sz 8000 m1→Sz 8000 m2→Sz 8000 m3→Sz 8000 n1→Sz 8000 n2→Sz 8000 n3→Q (.int (n3*(m2-m1)-n1*(m2-m3)-n2*(m3-m1))) H→Hi vs H Q E_
inductive ME (vs:List V) (H:Hp) (Q:VK) (E_:XK):Prop where
 | mk (L r:av) (ps:List av) (t y:Nat→Int) (i j k:Nat):vs=[.ref L,.ref r]→Pts H L ps t y→ps.length≤40→H r=some (.tup [.int (i:Int),.int (j:Int),.int (k:Int)])→i<ps.length→j<ps.length→k<ps.length→(∀q,q<ps.length→Sz 8000 (t q)∧Sz 8000 (y q))→(∀(D:av) (H':Hp),au H H'→H D=none→H' D=some (.lst (((fu ps.length).map (oR t y i j k)).map V.int))→Q (.ref D) H')→ME vs H Q E_
inductive Mx (vs:List V) (H:Hp) (Q:VK) (E_:XK):Prop where
 | mk (r D:av) (i j k p n:Nat) (O:Nat→Int) (m:Int):vs=[.ref r,.int (p:Int),.ref D]→H r=some (.tup [.int (i:Int),.int (j:Int),.int (k:Int)])→H D=some (.lst (((fu n).map O).map V.int))→i<j→j<k→k<n→p<n→0≤m→((m=O j∧O i=- O j∧O k=- O j)∨(m=- O j∧O i=- O j∧O k=- O j))→(m<O p∨m < - O p)→(∀(r':av) (a b c:Nat) (H':Hp),au H H'→H' r'=some (.tup [.int (a:Int),.int (b:Int),.int (c:Int)])→a<b→b<c→c<n→Alt O m a b c→Q (.ref r') H')→Mx vs H Q E_
def Flat (t y:Nat→Int) (n i j k:Nat):Prop:=i<j∧j<k∧k<n∧∀p,p<n→(oR t y i j k p).natAbs≤(ab t y i k j).natAbs
inductive yD (vs:List V) (H:Hp) (Q:VK) (E_:XK):Prop where
 | mk (l:av) (es:List En) (n:Nat):vs=[.ref l]→H l=some (.lst (vals es))→Row H es n→iR es→rising es→1≤n→es.length*n+n≤7000→3≤es.length→es.length≤40→(∀(r:av) (i j k:Nat) (y:Nat→Int) (C:Int) (H':Hp),au H H'→H' r=some (.tup [.int (i:Int),.int (j:Int),.int (k:Int)])→1≤C→(∀i,i<es.length→(y i:Rat)=wo es i*(C:Rat))→Flat (mo es) y es.length i j k→Q (.ref r) H')→yD vs H Q E_
section
theorem gE:aF ["samples","common","sample","bottom"] ["samples"] (ah mT):=0#a
theorem As (F:cT K "whole_points" "whole_points" mT f fd) (lS:Dn P w K mg base 2 "divisor" ["one","other"] sZ):bf P w K mg base c7 3 f fd ["samples"] CI:=by
 refine F.ok gE 0#f 0#b
 ·obtain ⟨l,es,n,rfl,_⟩:=h
  rfl
 obtain ⟨l,es,n,rfl,hl,hR,hS,hn1,hn,lI,k⟩:=h
 have hin:∀i,i<es.length→i*n+n≤es.length*n:=fun i hi=>by
  have:=Nat.mul_le_mul_right n (show i+1≤es.length by try?)
  rw [UJ,UK] at this
  exact this
 have cd:∀{x d:Int},1≤d→Sz 8000 d→yT x d:=fun hd hz=>⟨by try?,Sz.log (m:=8000) hz 0#i 0#i⟩
 refine bI ⟨_,(ao (kj (i:=1) gE.nd rfl (Or.inr rfl) aq (hs:=afE)) (ao (dP gF rfl (di K 0#l) (cg (i:=2) gE.nd rfl 0#m) (ao (aK 3 gE.nd (aJ K (aJ K 0#w))) (aI (kj (i:=1) gE.nd rfl (Or.inr rfl) (aG aP (aG d8 0#r (bY lS hr 0#r (aa 3))) (aa 3)) (hs:=abx))))) (aI (aU (nh (O:=["sample"]) (N':=["common"]) (cap:=[1]) rfl (di K 0#l) (fun _ _ _ _ _=>(cg (i:=0) (show i8 [("sample":Str),("common":Str)] by decide +kernel) rfl 0#m)) (fun _ _ _ _ _=>lC) (fun _ _ _ _ _=>(bG (cO (bD (Et K) 0#l aq 0#h) (cO (aG aP (bD (Et K) (bD (Et K) 0#l aq 0#h) aq 0#h) (aG d8 0#r (bD (Et K) (bD (Et K) 0#l aq 0#h) aq 0#h))) dY JI) qD))) rfl 0#u rfl 0#g rfl 0#g))))),?_⟩
 rw?
 refine eF (iw ?_)
 rw?
 refine ⟨l,rfl,⟨_,aX.of hl⟩,dW (xs:=vals es) (fun i σ H3=>MV fun (C:Int) (v2 v3:Option V)=>σ=[some (.ref l),some (.int C),v2,v3]∧au H H3∧1≤C∧Sz (i*n+1) C∧∀j,j<i→((wo es j).den:Int)∣C) ?_ ?_ ?_ ?_⟩
 ·exact ⟨1,none,none,rfl,au.refl _,EW _,by rw [Nat.zero_mul];exact pR 0#d,fun j hj=>by try?⟩
 ·rintro i σ H3 _ ⟨C,v2,v3,rfl,s3,_⟩
  exact aX.of (s3 _ _ hl)
 ·rintro i x σ H3 hx ⟨C,v2,v3,rfl,s3,hC,zC,hdv⟩
  refine eU fun M B RR hM _ _=>?_
  obtain ⟨e,he,rfl⟩:=gr hx
  have hi:i<es.length:=(lR.mp he).1
  obtain ⟨e',he',v,ev,⟨tp,b,eb,hfr,zt,zb⟩,zm⟩:=cI (hR.up s3) hS hi
  rw [he] at he'
  cases he'
  have hb:=hfr.pos
  obtain ⟨_,hbd⟩:=hfr.Ge
  have aeM:=hin i hi
  rw?
  refine ⟨C,b,rfl,zC.mono 0#d,zb.mono 0#d,fun H4 s4=>?_⟩
  obtain ⟨u1,u2,u3,u4⟩:=RA hC hb
  have zg:Sz 8000 ((cK C b:Nat):Int):=by
   have:cK C b≤b.natAbs:=Zj 0#d (YF _ _)
   exact Sz.of_le (zb.mono 0#d) 0#d
  have gp:0<cK C b:=P0 C 0#d
  have zC':Sz ((i+1)*n+1) (C.fdiv (cK C b:Nat)*b):=by
   have e1:(i+1)*n+1=i*n+1+n:=by rw [UJ,UK];try?
   rw [e1]
   refine Sz.of_le (zC.mul zb) ?_
   generalize C.fdiv (cK C b:Nat)*b=A at *
   generalize C*b=B at *
   try?
  have zq:Sz 8000 (C.fdiv (cK C b:Nat)):=by
   refine Sz.of_le (zC.mono (show i*n+1≤8000 by try?)) ?_
   have h0:0≤C.fdiv (cK C b:Nat):=Up 0#d 0#d
   have:C.fdiv (cK C b:Nat)≤C:=by
    rw [yN _ 0#d]
    exact Od _ 0#d
   try?
  rw?
  refine fF (cd 0#d zg) ?_
  rw?
  refine fF (bQ zq (zb.mono (show n≤8000 by try?)) 0#i) ?_
  rw?
  refine hM _ _ ⟨_,_,_,rfl,s3.trans s4,u1,zC',fun j hj=>?_⟩
  by_cases e:j=i
  ·rw [e,← hbd];exact u4
  ·exact Int.dvd_trans (hdv j 0#d) u3
 ·rintro σ H3 ⟨C,v2,v3,rfl,s3,hC,zC,hdv⟩
  rw [aO] at zC hdv
  have hl3:=s3 _ _ hl
  rw?
  refine iw ?_
  rw?
  refine ⟨l,rfl,⟨_,aX.of hl3⟩,?_⟩
  refine cC (xs:=vals es) bV (fun H4 s4=>aX.of (s4 _ _ hl3)) (by rw [aO];try?) (fun i ys G=>∃(ps:List av),ys=ps.map V.ref∧ps.length=i∧∀q a,ps[q]?=some a→G a=some (.tup [.int (mo es q),.int ((wo es q).num*(C.fdiv ((wo es q).den:Int)))])) ⟨[],rfl,rfl,fun q a h=>by simp at h⟩ ?_ ?_
  ·rintro D i x ys H4 jK NN N0 h0 hD eD s4 hx hy ⟨ps,rfl,hps,hat⟩ kY kN
   obtain ⟨e,he,rfl⟩:=gr hx
   have hi:i<es.length:=(lR.mp he).1
   obtain ⟨e',he',v,ev,⟨tp,b,eb,hfr,zt,zb⟩,zm⟩:=cI (hR.up (s3.trans s4)) hS hi
   rw [he] at he'
   cases he'
   have hb:=hfr.pos
   obtain ⟨htn,hbd⟩:=hfr.Ge
   refine fD h0 ?_
   rw?
   refine cu ?_
   rw?
   refine fF (cd hb (zb.mono 0#d)) ?_
   rw?
   have zq:Sz 8000 (C.fdiv b):=by
    refine Sz.of_le (zC.mono (show es.length*n+1≤8000 by try?)) ?_
    have h0:0≤C.fdiv b:=Up 0#d 0#d
    have:C.fdiv b≤C:=by
     rw [yN _ 0#d]
     exact Od _ 0#d
    try?
   refine fF (bQ (zt.mono (show n≤8000 by try?)) zq 0#i) ?_
   rw?
   refine aE (mk:=.tup) 0#e fun p H5 s5 n5 e5=>?_
   refine kY _ H5 s5 ⟨ps++[p],by simp,by simp [hps],fun q a hq=>?_⟩
   by_cases hqi:q<ps.length
   ·rw [wX hqi] at hq
    exact (rE s5) _ _ (hat q a hq)
   ·rw [yO 0#d] at hq
    have hq0:q=i:=by
     have:=(lR.mp hq).1
     simp at this
     try?
    subst hq0
    rw [hps,UE] at hq
    obtain rfl:p=a:=by simpa using hq
    rw [← htn,← hbd]
    exact d9 (s5 _ _ eD) e5
  ·rintro D ys H4 hD eD s4 hy ⟨ps,rfl,hps,hat⟩
   rw [aO] at hps
   refine k D ps (fun q=>(wo es q).num*(C.fdiv ((wo es q).den:Int))) C H4 (s3.trans s4) (s3.free hD) ⟨eD,fun q a h=>gO _ _ (hat q a h)⟩ hps hC (fun i hi=>?_)
   obtain ⟨e',he',v,ev,⟨tp,b,eb,hfr,zt,zb⟩,zm⟩:=cI hR hS hi
   obtain ⟨htn,hbd⟩:=hfr.Ge
   have hb:=hfr.pos
   obtain ⟨c,hc⟩:=hdv i hi
   rw [← hbd] at hc
   have e1:C.fdiv b=c:=by
    conv=>lhs;rw [hc]
    exact XO c 0#d
   have aci:=cS (b:=b) 0#d
   have aeM:=hin i hi
   refine ⟨?_,?_⟩
   ·show (((wo es i).num*(C.fdiv ((wo es i).den:Int)):Int):Rat)=_
    rw [← hbd,← htn,e1,hc,o9,o9]
    have:=hfr.eq
    grind
   ·show Sz 8000 ((wo es i).num*(C.fdiv ((wo es i).den:Int)))
    rw [← hbd,← htn]
    have zq:Sz (es.length*n+1) (C.fdiv b):=by
     refine Sz.of_le zC ?_
     have h0:0≤C.fdiv b:=Up 0#d 0#d
     have:C.fdiv b≤C:=by
      rw [yN _ 0#d]
      exact Od _ 0#d
     try?
    exact (zt.mul zq).mono 0#d
theorem mU:aF ["one","last","point","ahead","behind"] ["one","last","point"] (ah oq):=0#a
theorem BK (F:cT K "above_chord" "above_chord" oq f fd):bf P w K mg base c7 1 f fd ["one","last","point"] Hi:=by
 refine F.ok mU 0#f 0#b
 ·obtain ⟨p1,p2,p3,m1,n1,m2,n2,m3,n3,rfl,_⟩:=h
  rfl
 obtain ⟨p1,p2,p3,m1,n1,m2,n2,m3,n3,rfl,e1,e2,e3,a1,a2,a3,b1,b2,b3,k⟩:=h
 refine bI ⟨_,(ao (aK 3 mU.nd (aG aP (aJ K 0#l) (aG bP (aJ K 0#r) (aJ K 0#w)))) (ao (aK 4 mU.nd (aG aP (aJ K 0#r) (aG bP (aJ K 0#w) (aJ K 0#l)))) (aI (aU (aG bP (aG bP (aG aP (aJ K 0#w) (aG bP (aJ K 0#r) (aJ K 0#l))) (aa 3)) (aa 4)))))),?_⟩
 rw?
 refine fF (bQ b1 (a2.sub a3) 0#i) ?_
 rw?
 refine fF (bQ b2 (a3.sub a1) 0#i) ?_
 rw?
 refine fF (bQ b3 (a2.sub a1) 0#i) ?_
 rw?
 exact k
theorem jC:aF ["points","three","one","last","lift"] ["points","three"] (ah oE):=0#a
theorem BU (F:cT K "scaled_offs" "scaled_offs" oE f fd) (j5:Dn P w K mg base 1 "above_chord" ["one","last","point"] Hi):bf P w K mg base c7 2 f fd ["points","three"] ME:=by
 refine F.ok jC 0#f 0#b
 ·obtain ⟨L,r,ps,t,y,i,j,k,rfl,_⟩:=h
  rfl
 obtain ⟨L,r,ps,t,y,i,j,kk,rfl,hP,lI,er,hi,hj,hk,hz,k⟩:=h
 obtain ⟨ai,gi,ti⟩:=Mb hi (j:=(i:Int)) rfl
 obtain ⟨aj,gj,tj⟩:=Mb hj (j:=(j:Int)) rfl
 obtain ⟨ak,gk,tk⟩:=Mb hk (j:=(kk:Int)) rfl
 have ei:=hP.each _ _ gi
 have ej:=hP.each _ _ gj
 have ek:=hP.each _ _ gk
 refine bI ⟨_,(ao (kj (i:=2) jC.nd rfl (Or.inr rfl) (bD (fK K) 0#l (aJ K 0#r) 0#h) (hs:=MI)) (ao (kj (i:=3) jC.nd rfl (Or.inr rfl) (bD (fK K) 0#l (aJ K 0#r) 0#h) (hs:=MI)) (ao (kj (i:=4) jC.nd rfl (Or.inr rfl) (Jd.c3 j5 hr 0#w (aa 3) (bD (fK K) 0#l (aJ K 0#r) 0#h)) (hs:=dM)) (aI (aU (nh (O:=["point"]) (N':=["lift","one" ,"last" ]) (cap:=[4,2,3]) rfl (di K 0#l) (fun _ _ _ _ _=>(cg (i:=0) (show i8 [("point":Str),("lift":Str),("one":Str),("last":Str)] by decide +kernel) rfl 0#m)) (fun _ _ _ _ _=>lC) (fun _ _ _ _ _=>(aG bP (aG aP aq (fN j5 0#A rfl (cO 0#w (cO (aa 3) (cO 0#l dY bK) bK) bK) (he:=bK) (hpl:=(cD bK (cD bK cB))))) 0#r)) rfl ⟨⟨rfl,rfl,rfl,rfl⟩,⟨⟨rfl,rfl,rfl,rfl⟩,0#u⟩⟩ rfl 0#g rfl 0#g)))))),?_⟩
 rw?
 refine cA hP.at_ ti ?_
 rw?
 refine cA hP.at_ tk ?_
 rw?
 refine cA hP.at_ tj ?_
 rw?
 refine ⟨ai,ak,aj,_,_,_,_,_,_,rfl,ei,ek,ej,(hz i hi).1,(hz kk hk).1,(hz j hj).1,(hz i hi).2,(hz kk hk).2,(hz j hj).2,?_⟩
 rw?
 refine iw ?_
 rw?
 refine ⟨L,rfl,⟨_,aX.of hP.at_⟩,?_⟩
 refine cC (xs:=ps.map V.ref) bV (fun H4 s4=>aX.of (s4 _ _ hP.at_)) (by rw [gJ];try?) (fun q ys G=>ys=((fu q).map (oR t y i j kk)).map V.int) rfl ?_ ?_
 ·rintro D q x ys H4 jK NN N0 h0 hD eD s4 hx hy rfl kY kN
  rw [dm] at hx
  obtain ⟨a,ga,rfl⟩:=HH.mp hx
  have hq:q<ps.length:=(lR.mp ga).1
  refine fD h0 ?_
  rw?
  refine cu ?_
  rw?
  refine ⟨ai,ak,a,_,_,_,_,_,_,rfl,s4 _ _ ei,s4 _ _ ek,s4 _ _ (hP.each _ _ ga),(hz i hi).1,(hz kk hk).1,(hz q hq).1,(hz i hi).2,(hz kk hk).2,(hz q hq).2,?_⟩
  rw?
  refine kY _ H4 (au.refl _) ?_
  rw [vd,i9,i9]
  rfl
 ·rintro D ys H4 hD eD s4 hy rfl
  rw [gJ] at eD
  exact k D H4 s4 hD eD
theorem M7 (h0:0≤m) (hm:m=oj∨m=-oj) (hi:oi=-oj) (hp:m<op∨m < -op) (hs:0<op↔0<oi):(m≤oj∧m≤-op)∨(m≤-oj∧m≤op):=by
 have:(0<op∧0<oi)∨(op≤0∧oi≤0):=by
  by_cases z:0<op
  ·exact .inl ⟨z,hs.mp z⟩
  ·exact .inr ⟨uh.mp z,uh.mp fun q=>z (hs.mpr q)⟩
 lia
theorem Fq (h0:0≤m) (hm:m=oj∨m=-oj) (hi:oi=-oj) (hp:m<op∨m < -op) (hs:(0<op∧oi≤0)∨(op≤0∧0<oi)):(m≤op∧m≤oj)∨(m≤-op∧m≤-oj):=by
 lia
theorem vv (h:q<n):pM (((fu n).map O).map V.int) (q:Int)=some (.int (O q)):=gK (by rw [dm,dm,HN h];rfl)
theorem lM:aF ["three","far","offs","first","mid","last"] ["three","far","offs"] (ah rH):=0#a
theorem Gh (F:cT K "exchanged" "exchanged" rH f fd):bf P w K mg base c7 1 f fd ["three","far","offs"] Mx:=by
 refine F.ok lM 0#f 0#b
 ·obtain ⟨r,D,i,j,k,p,n,O,m,rfl,_⟩:=h
  rfl
 obtain ⟨r,D,i,j,kk,p,n,O,m,rfl,er,eD,hij,hjk,hkn,hpn,hm0,hm,hp,k⟩:=h
 have tell:∀{a b c:Nat} {H1:Hp} {r':av},au H H1→H1 r'=some (.tup [.int (a:Int),.int (b:Int),.int (c:Int)])→a<b→b<c→c<n→((m≤O b∧m≤- O a∧m≤- O c)∨(m≤- O b∧m≤O a∧m≤O c))→(a=p∨b=p∨c=p)→Q (.ref r') H1:=fun s1 e1 h1 h2 h3 h4 h5=>k _ _ _ _ _ s1 e1 h1 h2 h3 ⟨h4,by
  rcases h5 with rfl | rfl | rfl
  ·exact .inl hp
  ·exact .inr (.inl hp)
  ·exact .inr (.inr hp)⟩
 obtain ⟨hmj,oi,ok⟩:(m=O j∨m=-O j)∧O i=-O j∧O kk=-O j:=by
  rcases hm with ⟨m1,m2,m3⟩ | ⟨m1,m2,m3⟩
  ·exact ⟨.inl m1,m2,m3⟩
  ·exact ⟨.inr m1,m2,m3⟩
 have oi':-O i=O j:=by rw [oi,UH]
 have ok':-O kk=O j:=by rw [ok,UH]
 have hpi:p≠i:=fun z=>by subst z;lia
 have hpj:p≠j:=fun z=>by subst z;lia
 have hpk:p≠kk:=fun z=>by subst z;lia
 refine bI ⟨_,(ao (aK 3 lM.nd (aJ K 0#l)) (ao (aK 4 lM.nd (aJ K 0#l)) (ao (aK 5 lM.nd (aJ K 0#l)) (ao (b9 (Jd.xA (rf (bF lD 0#r (aa 4) (aH _)) (tY (bF d7 (tZ dI (bD (fK K) 0#w 0#r 0#h) aq (aH _)) (tZ dI (bD (fK K) 0#w (aa 3) 0#h) aq (aH _)) (aH _))))) (aI (aU (bG (Jd.a3 0#r (aa 4) (aa 5))))) cF) (ao (b9 (Jd.xA (rf (bF dI 0#r (aa 4) (aH _)) (tY (bF d7 (tZ dI (bD (fK K) 0#w 0#r 0#h) aq (aH _)) (tZ dI (bD (fK K) 0#w (aa 5) 0#h) aq (aH _)) (aH _))))) (aI (aU (bG (Jd.a3 (aa 3) (aa 4) 0#r)))) cF) (ao (b9 (bF lD 0#r (aa 3) (aH _)) (aI (aU (bG (Jd.a3 0#r (aa 3) (aa 4))))) cF) (ao (b9 (bF dI 0#r (aa 5) (aH _)) (aI (aU (bG (Jd.a3 (aa 4) (aa 5) 0#r)))) cF) (aI (aU (bG (Jd.a3 (aa 3) 0#r (aa 5)))))))))))),?_⟩
 refine JF (fun σ' H'=>H'=H∧σ'=[some (.ref r),some (.int (p:Int)),some (.ref D),some (.int (i:Int)),some (.int (j:Int)),some (.int (kk:Int))]∧(p<j→¬(0<O p↔0<O i))) (fun σ' H' hP=>?_) (fun N rest=>?_)
 rotate_left
 ·rw?
  refine cE (fun c1=>?_) (fun c1=>?_)
  ·have tH:=jM c1
   rw?
   refine cA eD (vv hpn) ?_
   rw?
   refine cA eD (vv (show i<n by lia)) ?_
   rw?
   refine Xz ?_
   rw?
   refine cE (fun c2=>?_) (fun c2=>?_)
   ·have Vn:(0<O p↔0<O i):=by
     have:=wR.mp c2
     exact J5.mp this
    rw?
    refine aE (mk:=.tup) 0#e fun r' H1 s1 n1 e1=>?_
    refine tell s1 e1 (by lia) hjk hkn ?_ (.inl rfl)
    rcases M7 hm0 hmj oi hp Vn with ⟨u,v⟩ | ⟨u,v⟩
    ·exact .inl ⟨u,v,by rw [ok'];exact u⟩
    ·exact .inr ⟨u,v,by rw [ok];exact u⟩
   ·rw?
    refine rest _ _ ⟨rfl,rfl,fun _ z=>c2 (wR.mpr (J5.mpr z))⟩
  ·have tH:¬(p:Int)<(j:Int):=fun z=>c1 (jJ z)
   refine bU ?_
   rw?
   exact rest _ _ ⟨rfl,rfl,fun z=>absurd (by lia) tH⟩
 obtain ⟨rfl,rfl,h1⟩:=hP
 refine jE (fun σ' H''=>H''=H'∧σ'=[some (.ref r),some (.int (p:Int)),some (.ref D),some (.int (i:Int)),some (.int (j:Int)),some (.int (kk:Int))]∧(j<p→¬(0<O p↔0<O kk))) (fun σ' H'' hP=>?_) (fun N rest=>?_)
 rotate_left
 ·rw?
  refine cE (fun c1=>?_) (fun c1=>?_)
  ·have tH:=jM c1
   rw?
   refine cA eD (vv hpn) ?_
   rw?
   refine cA eD (vv hkn) ?_
   rw?
   refine Xz ?_
   rw?
   refine cE (fun c2=>?_) (fun c2=>?_)
   ·have Vn:(0<O p↔0<O kk):=J5.mp (wR.mp c2)
    rw?
    refine aE (mk:=.tup) 0#e fun r' H1 s1 n1 e1=>?_
    refine tell s1 e1 hij (by lia) hpn ?_ (.inr (.inr rfl))
    rcases M7 hm0 hmj ok hp Vn with ⟨u,v⟩ | ⟨u,v⟩
    ·exact .inl ⟨u,by rw [oi'];exact u,v⟩
    ·exact .inr ⟨u,by rw [oi];exact u,v⟩
   ·rw?
    refine rest _ _ ⟨rfl,rfl,fun _ z=>c2 (wR.mpr (J5.mpr z))⟩
  ·have tH:¬(j:Int)<(p:Int):=fun z=>c1 (jJ z)
   refine bU ?_
   rw?
   exact rest _ _ ⟨rfl,rfl,fun z=>absurd (by lia) tH⟩
 obtain ⟨rfl,rfl,h2⟩:=hP
 have far:∀{q:Nat},¬(0<O p↔0<O q)→(0<O p∧O q≤0)∨(O p≤0∧0<O q):=fun {q} z=>by
  by_cases a1:0<O p
  ·exact .inl ⟨a1,uh.mp fun b1=>z ⟨fun _=>b1,fun _=>a1⟩⟩
  ·exact .inr ⟨uh.mp a1,P4 fun b1=>z ⟨fun c=>absurd c a1,fun c=>absurd c b1⟩⟩
 rw?
 refine cE (fun c1=>?_) (fun c1=>?_)
 ·have tH:=jM c1
  have hf:=far (h1 (by lia))
  rw?
  refine aE (mk:=.tup) 0#e fun r' H1 s1 n1 e1=>?_
  refine tell s1 e1 (by lia) hij (by lia) ?_ (.inl rfl)
  rcases Fq hm0 hmj oi hp hf with ⟨u,v⟩ | ⟨u,v⟩
  ·exact .inr ⟨by rw [oi'];exact v,u,v⟩
  ·exact .inl ⟨by rw [oi];exact v,u,v⟩
 ·have tH:¬(p:Int)<(i:Int):=fun z=>c1 (jJ z)
  rw?
  refine cE (fun c2=>?_) (fun c2=>?_)
  ·have Vn:=jM c2
   have hf:=far (h2 (by lia))
   rw?
   refine aE (mk:=.tup) 0#e fun r' H1 s1 n1 e1=>?_
   refine tell s1 e1 hjk (by lia) hpn ?_ (.inr (.inr rfl))
   rcases Fq hm0 hmj ok hp hf with ⟨u,v⟩ | ⟨u,v⟩
   ·exact .inr ⟨by rw [ok'];exact v,v,u⟩
   ·exact .inl ⟨by rw [ok];exact v,v,u⟩
  ·have Vn:¬(kk:Int)<(p:Int):=fun z=>c2 (jJ z)
   rw?
   refine aE (mk:=.tup) 0#e fun r' H1 s1 n1 e1=>?_
   refine tell s1 e1 (by lia) (by lia) hkn ?_ (.inr (.inl rfl))
   have hf:(m≤O p∧m≤O j)∨(m≤-O p∧m≤-O j):=by
    rcases UC p j with z | z
    ·exact Fq hm0 hmj oi hp (far (h1 z))
    ·exact Fq hm0 hmj ok hp (far (h2 (by lia)))
   rcases hf with ⟨u,v⟩ | ⟨u,v⟩
   ·exact .inl ⟨u,by rw [oi'];exact v,by rw [ok'];exact v⟩
   ·exact .inr ⟨u,by rw [oi];exact v,by rw [ok];exact v⟩
end
theorem PY (W:Nat→St→Hp→Prop) (h0:∃m,W m σ H)
 (hs:∀m σ H,W m σ H→∀R:Bool→Hp→Prop,(∀H1,(∀M:St→Hp→Prop,(∀σ' H' m',W m' σ' H'→m'<m→M σ' H')→tb { D with nx:=M,ct:=M,bk:=D.nx } σ H1)→R true H1)→(∀H1,D.nx σ H1→R false H1)→c σ H R):CQ c tb D σ H:=by
 refine ⟨W,h0,?_⟩
 intro m σ H p
 refine hs m σ H p _ (fun H1 q=>?_) (fun H1 q=>?_)
 ·rw [if_pos rfl]
  exact ⟨fun σ' H'=>∃m',m'<m∧W m' σ' H',fun σ' H' ⟨m',l,z⟩=>⟨m',l,z⟩,q _ fun _ _ m' a b=>⟨m',b,a⟩⟩
 ·rw [if_neg dD]
  exact q
section
theorem c9:aF ["samples","points","three","offs","misses","worst"] ["samples"] (ah kO):=0#a
theorem xV (F:cT K "forcing_three" "forcing_three" kO f fd) (T:Txt mg) (mw:Dn P w K mg base 3 "whole_points" ["samples"] CI) (nV:Dn P w K mg base 2 "scaled_offs" ["points","three"] ME) (qJ:Dn P w K mg base 1 "exchanged" ["three","far","offs"] Mx):bf P w K mg base c7 4 f fd ["samples"] yD:=by
 refine F.ok c9 0#f 0#b
 ·obtain ⟨l,es,n,rfl,_⟩:=h
  rfl
 obtain ⟨l,es,n,rfl,hl,hR,hS,dX,hn1,hn,h3,lI,k⟩:=h
 refine bI ⟨_,(ao (aK 1 c9.nd (Jd.c1 mw hr 0#l)) (ao (aK 2 c9.nd (bG (Jd.a3 aq (aG d8 (gB K T.gc 0#r) aq) (aG bP (gB K T.gc 0#r) aq)))) (aI (Jd.kq gF (nv Jd.oS) (ao (aK 3 c9.nd (bY nV hr 0#r 0#w)) (ao (qy (O:=["scaled"]) (N':=[]) (cap:=[]) (i:=4) c9.nd rfl 0#m rfl (di K (aa 3)) (fun _ _ _ _ _=>(cg (i:=0) (show i8 [("scaled":Str)] by decide +kernel) rfl 0#m)) (fun _ _ _ _ _=>lC) (fun _ _ _ _ _=>(fU xB rfl T.xC yP (cO 0#l dY bK) (he:=bK) (hpl:=cB))) rfl trivial rfl 0#g rfl 0#g (by rfl)) (ao (aK 5 c9.nd (fU (ae7 K rfl) rfl T.RG JV (dG (aa 4)) (he:=bK) (hpl:=cB))) (ao (b9 (bF d7 (aa 5) (bD (fK K) (aa 4) (aJ K 0#w) 0#h) (aH _)) (aI (aU 0#w)) cF) (aI (aK 2 c9.nd (Jd.c3 qJ hr 0#w (Jd.aaC K (aa 4) (aa 5)) (aa 3)))))))))))),?_⟩
 rw?
 refine ⟨l,es,n,rfl,hl,hR,hS,hn1,hn,lI,fun L ps y C H1 s1 nL hP hpl hC hy=>?_⟩
 have hz:∀q,q<ps.length→Sz 8000 (mo es q)∧Sz 8000 (y q):=fun q hq=>by
  obtain ⟨_,_,_,_,_,zm⟩:=cI hR hS (show q<es.length by try?)
  exact ⟨zm.mono 0#d,(hy q 0#d).2⟩
 have hlt:∀{a b:Nat},a<b→b<ps.length→mo es a<mo es b:=fun h1 h2=>gV dX h1 0#d
 rw [← hpl] at h3 lI
 rw?
 refine cP (.inl (aX.of hP.at_)) ?_
 rw [gJ]
 rw?
 refine fF ⟨by decide,by decide⟩ ?_
 rw?
 refine cP (.inl (aX.of hP.at_)) ?_
 rw [gJ]
 rw?
 refine aE (mk:=.tup) 0#e fun r0 H2 s2 n2 e2=>?_
 have Z8:H2 r0=some (.tup [.int ((0:Nat):Int),.int ((ps.length/2:Nat):Int),.int ((ps.length-1:Nat):Int)]):=by
  rw [e2]
  have a1:(ps.length:Int).fdiv 2=((ps.length/2:Nat):Int):=by
   rw [yN _ 0#d]
   rfl
  have a2:(ps.length:Int)-1=((ps.length-1:Nat):Int):=by try?
  rw [a1,a2]
  rfl
 rw?
 refine PY (fun m σ H3=>Xs7 fun (i j kk:Nat) (r:av) (v3 v4 v5:Option V)=>σ=[some (.ref l),some (.ref L),some (.ref r),v3,v4,v5]∧au H1 H3∧H3 r=some (.tup [.int (i:Int),.int (j:Int),.int (kk:Int)])∧i<j∧j<kk∧kk<ps.length∧m=beyond (mo es) y ps.length (Bl (mo es) y i j kk)) ⟨_,0,ps.length/2,ps.length-1,r0,none,none,none,rfl,s2,Z8,by try?,by try?,by try?,rfl⟩ ?_
 rintro m σ H3 ⟨i,j,kk,r,v3,v4,v5,rfl,s3,er,hij,hjk,hkn,rfl⟩ RR hyes hno
 rw?
 refine hyes _ fun M hM=>?_
 rw?
 refine ⟨L,r,ps,mo es,y,i,j,kk,rfl,hP.up s3,lI,er,by try?,by try?,hkn,hz,fun D H4 s4 nD eD=>?_⟩
 have er4:=s4 _ _ er
 generalize hO:oR (mo es) y i j kk=O at *
 have o1:O i=- O j:=by rw [← hO,Pn,AG]
 have o2:O kk=- O j:=by rw [← hO,RV,AG]
 have o3:O j=ab (mo es) y i kk j:=by rw [← hO,AG]
 rw?
 refine iw ?_
 rw?
 refine ⟨D,rfl,⟨_,aX.of eD⟩,?_⟩
 refine cC (xs:=((fu ps.length).map O).map V.int) bV (fun H5 s5=>aX.of (s5 _ _ eD)) (by simp;try?) (fun q ys G=>ys=((fu q).map fun q=>((O q).natAbs:Int)).map V.int) rfl ?_ ?_
 ·rintro D' q x ys H5 jK NN N0 h0 Xh HV s5 hx hyl rfl kY kN
  rw [dm,dm] at hx
  obtain ⟨z,gz,rfl⟩:=HH.mp hx
  obtain ⟨q',gq,rfl⟩:=HH.mp gz
  obtain ⟨hq1,hq2⟩:=lR.mp gq
  obtain rfl:q=q':=by simpa using hq2
  refine fD h0 ?_
  rw?
  refine cu ?_
  rw?
  refine kY _ H5 (au.refl _) ?_
  rw [vd,i9,i9,iK]
  rfl
 ·rintro D' ys H5 Xh HV s5 hyl rfl
  rw [gJ,gJ,YG] at HV
  have er5:=s5 _ _ er4
  rw?
  refine abi (aX.of HV) (by simp;try?) fun M' hM1 hM2=>?_
  rw?
  refine cA HV (vv (O:=fun q=>((O q).natAbs:Int)) (show j<ps.length by try?)) ?_
  rw?
  refine cE (fun c1=>?_) (fun c1=>?_)
  ·have tH:M'=((O j).natAbs:Int):=jM c1
   rw?
   refine k r i j kk y C H5 (s1.trans (s3.trans (s4.trans s5))) er5 hC (fun i hi=>(hy i hi).1) ⟨hij,hjk,by try?,fun p hp=>?_⟩
   have:=hM2 ((O p).natAbs:Int) (gP.mpr ⟨p,qH.mpr 0#d,rfl⟩)
   rw [hO,← o3]
   try?
  ·have tH:¬M'=((O j).natAbs:Int):=fun z=>c1 (jJ z)
   have afR:=hM2 ((O j).natAbs:Int) (gP.mpr ⟨j,qH.mpr 0#d,rfl⟩)
   rw?
   refine ⟨.inl ⟨rfl,_,aX.of HV⟩,?_⟩
   rw?
   refine ac6 HV (by simp;try?) hM1 fun p gp=>?_
   rw [dm] at gp
   obtain ⟨p',gp',hpe⟩:=HH.mp gp
   obtain ⟨hp1,hp2⟩:=lR.mp gp'
   obtain rfl:p=p':=by simpa using hp2
   have hpn:p<ps.length:=by simpa using hp1
   rw?
   refine ⟨r,D,i,j,kk,p,ps.length,O,((O j).natAbs:Int),rfl,er5,s5 _ _ eD,hij,hjk,hkn,hpn,by try?,by try?,by try?,fun r' a b c H6 s6 e6 hab hbc hcn halt=>?_⟩
   rw?
   refine hM _ _ _ ⟨a,b,c,r',_,_,_,rfl,s3.trans (s4.trans (s5.trans s6)),e6,hab,hbc,hcn,rfl⟩ ?_
   refine OE 0#d 0#d hcn (Z6 (j:=j) (hlt 0#d hkn) (hlt hab 0#d) (hlt hbc hcn) ?_)
   rw [hO,← o3]
   exact halt
end
def mG (es:List En) (s h:Rat) (p:Nat):Rat:=wo es p-(s*(mo es p:Rat)+h)
structure Qm (es:List En) (s h w:Rat) (F:Option (Nat×Nat×Nat)):Prop where
 nn:0≤w
 le:∀p,p<es.length→dB (mG es s h p)≤w
 none_:F=none→w=0
 adt:∀i j k,F=some (i,j,k)→w≠0∧i<j∧j<k∧k<es.length∧((mG es s h i=-w∧mG es s h j=w∧mG es s h k=-w)∨(mG es s h i=w∧mG es s h j=-w∧mG es s h k=w))
def Lin (es:List En) (s h:Rat):Prop:=(es.length=1∧s=0∧h=wo es 0)∨∃i j k,i<k∧k<es.length∧j<es.length∧s=(wo es k-wo es i)/((mo es k-mo es i:Int):Rat)∧(h=wo es i-s*(mo es i:Rat)∨h=wo es i-s*(mo es i:Rat)+sd es i j k*(1/2))
def abQ (H:Hp) (F:Option (Nat×Nat×Nat)) (v:V):Prop:=match F with
 | none=>v=.bM
 | some (i,j,k)=>∃r,v=.ref r∧H r=some (.tup [.int (i:Int),.int (j:Int),.int (k:Int)])
theorem Q3 {C:Int} (hC:1≤C) (ht:mo es i<mo es k) (hy:∀q,q<es.length→(y q:Rat)=wo es q*(C:Rat)) (hi:i<es.length) (hj:j<es.length) (hk:k<es.length) (hp:p<es.length) :
 (oR (mo es) y i j k p:Rat)=2*(C:Rat)*((mo es k:Rat)-(mo es i:Rat))*(mG es ((wo es k-wo es i)/((mo es k:Rat)-(mo es i:Rat))) (wo es i-(wo es k-wo es i)/((mo es k:Rat)-(mo es i:Rat))*(mo es i:Rat)+(wo es j-cZ (mo es i) (wo es i) (mo es j) (mo es k) (wo es k))/2) p):=by
 have hT:((mo es k:Rat)-(mo es i:Rat))≠0:=by
  have:=cS (b:=mo es k-mo es i) 0#d
  rw [qG] at this
  exact this
 unfold oR ab mG cZ
 simp only [o9,qG,hy i hi,hy j hj,hy k hk,hy p hp]
 generalize (mo es k:Rat)=tk at *
 generalize (mo es i:Rat)=ti at *
 generalize (mo es j:Rat)=tj at *
 generalize (mo es p:Rat)=tp at *
 generalize (C:Rat)=c at *
 have e2:((2:Int):Rat)=2:=rfl
 rw [e2]
 grind
theorem ON {C:Int} (hC:1≤C) (dX:rising es) (hy:∀q,q<es.length→(y q:Rat)=wo es q*(C:Rat)) (hf:Flat (mo es) y es.length i j k)  (hs:s=(wo es k-wo es i)/((mo es k:Rat)-(mo es i:Rat))) (hd:d=(wo es j-cZ (mo es i) (wo es i) (mo es j) (mo es k) (wo es k))/2) (hh:h=wo es i-s*(mo es i:Rat)+d) :
 Qm es s h (dB d) (if d=0 then none else some (i,j,k)):=by
 obtain ⟨hij,hjk,hkn,hle⟩:=hf
 have ht:mo es i<mo es k:=gV dX 0#d hkn
 have hp0:(0:Rat)<2*(C:Rat)*((mo es k:Rat)-(mo es i:Rat)):=by
  have a:=cast_pos (b:=C) 0#d
  have b:=cast_pos (b:=mo es k-mo es i) 0#d
  rw [qG] at b
  exact ZE (by grind) b
 generalize hS:2*(C:Rat)*((mo es k:Rat)-(mo es i:Rat))=S at hp0
 have off:∀p,p<es.length→(oR (mo es) y i j k p:Rat)=S*mG es s h p:=fun p hp=>by
  rw [Q3 hC ht hy 0#d 0#d hkn hp,hS,hh,hd,hs]
 have oj:mG es s h j=d∧mG es s h i=-d∧mG es s h k=-d:=by
  have hT:((mo es k:Rat)-(mo es i:Rat))≠0:=by
   have:=cS (b:=mo es k-mo es i) 0#d
   rw [qG] at this
   exact this
  unfold mG
  rw [hh]
  unfold cZ at hd
  generalize (mo es k:Rat)=tk at *
  generalize (mo es i:Rat)=ti at *
  generalize (mo es j:Rat)=tj at *
  refine ⟨?_,?_,?_⟩
  ·rw [hs,hd]
   grind
  ·rw [hs,hd]
   grind
  ·rw [hs,hd]
   grind
 have Xa:∀x:Int,(((x.natAbs:Nat):Int):Rat)=dB (x:Rat):=fun x=>by
  unfold dB
  by_cases e:x<0
  ·rw [if_pos (by have:=vc.mpr e;simpa using this),show ((x.natAbs:Nat):Int)=-x by try?,Oi]
  ·rw [if_neg (by have:=NZ.mpr (uh.mp e);grind),show ((x.natAbs:Nat):Int)=x by try?]
 have le:∀p,p<es.length→dB (mG es s h p)≤dB d:=fun p hp=>by
  have h1:=hle p hp
  have h2:((((oR (mo es) y i j k p).natAbs:Nat):Int):Rat)≤((((ab (mo es) y i k j).natAbs:Nat):Int):Rat):=NZ.mpr 0#d
  rw [Xa,Xa,← AG (t:=mo es) (y:=y) (i:=i) (j:=j) (k:=k),off p hp,off j 0#d,oj.1,Zw S,Zw S,vU hp0,vU hp0] at h2
  exact NP h2 hp0
 refine ⟨WG d,le,fun e=>?_,fun i' j' k' e=>?_⟩
 ·by_cases z:d=0
  ·rw [z];rfl
  ·rw [if_neg z] at e;cases e
 ·by_cases z:d=0
  ·rw [if_pos z] at e;cases e
  ·rw [if_neg z] at e
   cases e
   obtain ⟨o1,o2,o3⟩:=oj
   refine ⟨fun q=>z ?_,hij,hjk,hkn,?_⟩
   ·unfold dB at q
    split at q <;> grind
   ·rw [o1,o2,o3]
    unfold dB
    split
    ·exact .inr ⟨rfl,by grind,rfl⟩
    ·exact .inl ⟨rfl,rfl,rfl⟩
inductive Ho (vs:List V) (H:Hp) (Q:VK) (E_:XK):Prop where
 | mk (l:av) (es:List En) (n:Nat):vs=[.ref l]→H l=some (.lst (vals es))→Row H es n→iR es→rising es→1≤n→n≤600→es.length*n+n≤7000→1≤es.length→es.length≤40→(∀(z zl zw:av) (F:V) (s h w:Rat) (Fo:Option (Nat×Nat×Nat)) (H':Hp),au H H'→H' z=some (.tup [.ref zl,.ref zw,F])→iU H' zl s h (13*n+15)→dF H' zw w (7*n+9)→abQ H' Fo F→Qm es s h w Fo→Lin es s h→Q (.ref z) H')→Ho vs H Q E_
inductive CL (vs:List V) (H:Hp) (Q:VK) (E_:XK):Prop where
 | mk (p1 p2 p3:av) (t1 t2 t3:Int) (q1 q2 q3:Rat) (n:Nat):vs=[.ref p1,.ref p2,.ref p3]→iV H p1 t1 q1 n→iV H p2 t2 q2 n→iV H p3 t3 q3 n→t1<t3→7*n+7≤8000→(∀(z:av) (H':Hp),au H H'→dF H' z (q2-cZ t1 q1 t2 t3 q3) (7*n+7)→Q (.ref z) H')→CL vs H Q E_
section
theorem S4:aF ["one","mid","last"] ["one","mid","last"] (ah G7):=0#a
theorem Sd (F:cT K "stand" "stand" G7 f fd) (bE:Dn P w K mg base 4 "reduced" ["quotient"] fR) (nQ:Dn P w K mg base 4 "loose_stand" ["one","mid","last"] CD):bf P w K mg base c7 5 f fd ["one","mid","last"] CL:=by
 refine F.ok S4 0#f 0#b
 ·obtain ⟨p1,p2,p3,t1,t2,t3,q1,q2,q3,n,rfl,_⟩:=h
  rfl
 obtain ⟨p1,p2,p3,t1,t2,t3,q1,q2,q3,n,rfl,h1,h2,h3,ht,hn,k⟩:=h
 refine bI ⟨_,(aI (aU (Jd.c1 bE hr (Jd.c3 nQ hr 0#l 0#r 0#w)))),?_⟩
 rw?
 refine ⟨p1,p2,p3,t1,t2,t3,q1,q2,q3,n,rfl,h1,h2,h3,ht,by try?,fun x H1 s1 e1=>?_⟩
 rw?
 refine ⟨x,_,_,rfl,e1,hn,fun z H2 s2 e2=>?_⟩
 exact k z H2 (s1.trans s2) e2
theorem S5:aF ["one","other"] ["one","other"] (ah G8):=0#a
theorem Se (F:cT K "times" "times" G8 f fd) (dc:Dn P w K mg base 1 "loose_times" ["one","other"] (iB (·*·) 0)) (bE:Dn P w K mg base 4 "reduced" ["quotient"] fR):bf P w K mg base c7 5 f fd ["one","other"] (qh (·*·) 0):=by
 refine F.ok S5 0#f 0#b
 ·obtain ⟨p,r,q,q',m,n,rfl,_⟩:=h
  rfl
 obtain ⟨p,r,q,q',m,n,rfl,hp,hr',hn,k⟩:=h
 refine bI ⟨_,(aI (aU (Jd.c1 bE hr (bY dc hr 0#l 0#r)))),?_⟩
 rw?
 refine ⟨p,r,q,q',m,n,rfl,hp,hr',by try?,fun x H1 s1 e1=>?_⟩
 rw?
 refine ⟨x,_,_,rfl,e1,hn,fun y H2 s2 e2=>?_⟩
 exact k y H2 (s1.trans s2) e2
theorem R9 (F:cT K "size" "size" Mn f fd) (T:Txt mg):bf P w K mg base c7 1 f fd ["one"] Hv:=by
 refine F.ok WM 0#f 0#b
 ·obtain ⟨p,q,n,rfl,_⟩:=h
  rfl
 obtain ⟨p,q,n,rfl,⟨a,b,hp,hq,za,zb⟩,k⟩:=h
 refine bI ⟨_,(aI (aU (bG (bC (fU xB rfl T.xC yP (dG (aJ K 0#l)) (he:=qD) (hpl:=cB)) (aJ K 0#l))))),?_⟩
 rw?
 rw [iK]
 refine aE (mk:=.tup) 0#e fun p1 H1 s1 n1 e1=>?_
 refine k p1 H1 s1 ⟨_,_,e1,?_,za.of_le 0#d,zb⟩
 have:=hq.qt.abs
 exact ⟨hq.pos,by show Kh ((a.natAbs:Int).natAbs) b.natAbs=1;rw [Ua];exact hq.co,this.eq⟩
theorem nE:aF ["samples","first","three","one","last","half","chord","forced"] ["samples"] (ah Mh):=0#a
theorem Wi (F:cT K "best" "best" Mh f fd) (T:Txt mg) (Az:Dn P w K mg base 5 "slope" ["one","other"] Hw) (jN:Dn P w K mg base 5 "line_by" ["steep","sample"] wu) (kE:Dn P w K mg base 4 "forcing_three" ["samples"] yD) (E4:Dn P w K mg base 5 "times" ["one","other"] (qh (·*·) 0)) (E3:Dn P w K mg base 5 "stand" ["one","mid","last"] CL) (pI:Dn P w K mg base 5 "plus" ["one","other"] (qh (·+·) 1)) (E1:Dn P w K mg base 1 "size" ["one"] Hv):bf P w K mg base c7 6 f fd ["samples"] Ho:=by
 refine F.ok nE 0#f 0#b
 ·obtain ⟨l,es,n,rfl,_⟩:=h
  rfl
 obtain ⟨l,es,n,rfl,hl,hR,hS,dX,hn1,hn6,hn,h1,lI,k⟩:=h
 obtain ⟨x0,g0,sa0⟩:=cI hR hS (show 0<es.length by try?)
 obtain ⟨v0,ev0,fv0,zm0⟩:=id sa0
 have z1:∀{m:Nat},1≤m→Sz m 1:=fun h=>pR h
 have zero:∀{G:Hp} {p:av} {m:Nat},G p=some (.tup [.int 0,.int 1])→1≤m→dF G p 0 m:=fun e h=>⟨0,1,e,by have:=Fr.whole 0;simpa using this,Sz.of_le (z1 h) 0#i,z1 h⟩
 refine bI ⟨_,(ao (aK 1 nE.nd (Jd.iL K 0#l)) (ao (b9 (bF d7 (gB K T.gc 0#l) aq (aH _)) (aI (aU (bG (Jd.a3 (bG (bC (bG (bC aq aq)) (aJ K 0#r))) (bG (bC aq aq)) dH)))) cF) (ao (b9 (bF d7 (gB K T.gc 0#l) aq (aH _)) (aI (aU (bG (Jd.a3 (bY jN hr (bY Az hr 0#r (Jd.iL K 0#l)) 0#r) (bG (bC aq aq)) dH)))) cF) (ao (aK 2 nE.nd (Jd.c1 kE hr 0#l)) (ao (aK 3 nE.nd (bD (fK K) 0#l (aJ K 0#w) 0#h)) (ao (aK 4 nE.nd (bD (fK K) 0#l (aJ K 0#w) 0#h)) (ao (aK 5 nE.nd (bY E4 hr (Jd.c3 E3 hr (aa 3) (bD (fK K) 0#l (aJ K 0#w) 0#h) (aa 4)) (bG (bC aq aq)))) (ao (aK 6 nE.nd (bY jN hr (bY Az hr (aa 3) (aa 4)) (aa 3))) (ao (aK 7 nE.nd (rg (bF d7 (aJ K (aa 5)) aq (aH _)) dH 0#w)) (aI (aU (bG (Jd.a3 (bG (bC (aJ K (aa 6)) (bY pI hr (aJ K (aa 6)) (aa 5)))) (Jd.c1 E1 hr (aa 5)) (aa 7)))))))))))))),?_⟩
 refine jE (fun σ' H'=>H'=H∧σ'=[some (.ref l),some (.ref x0.1),none,none,none,none,none,none]) (fun σ' H' hP=>?_) (fun N rest=>?_)
 rotate_left
 ·rw?
  refine cA hl (dh (i:=0) g0 rfl) ?_
  rw?
  exact rest _ _ ⟨rfl,rfl⟩
 obtain ⟨rfl,rfl⟩:=hP
 refine jE (fun σ' H''=>H''=H'∧σ'=[some (.ref l),some (.ref x0.1),none,none,none,none,none,none]∧es.length≠1) (fun σ' H'' hP=>?_) (fun N rest=>?_)
 rotate_left
 ·rw?
  refine cP (.inl (aX.of hl)) ?_
  rw [aO]
  rw?
  refine cE (fun c1=>?_) (fun c1=>?_)
  ·have tH:(es.length:Int)=1:=jM c1
   rw?
   refine aE (mk:=.tup) 0#e fun p1 H1 s1 n1 e1=>?_
   have ev1:=s1 _ _ ev0
   rw?
   refine aE (mk:=.tup) 0#e fun p2 H2 s2 n2 e2=>?_
   rw?
   refine aE (mk:=.tup) 0#e fun p3 H3 s3 n3 e3=>?_
   rw?
   refine aE (mk:=.tup) 0#e fun p4 H4 s4 n4 e4=>?_
   have SQ:=s3.trans s4
   have SN:=s2.trans SQ
   refine k p4 p2 p3 .bM 0 (wo es 0) 0 none H4 (s1.trans SN) e4 ⟨p1,v0,SQ _ _ e2,zero (SN _ _ e1) 0#d,(fv0.up (s1.trans SN)).mono 0#d⟩ (zero (s4 _ _ e3) 0#d) rfl ⟨o5,fun p hp=>?_,fun _=>rfl,fun _ _ _ e=>nomatch e⟩ (.inl ⟨by try?,rfl,rfl⟩)
   obtain rfl:p=0:=by try?
   unfold mG
   rw [show wo es 0-(0*(mo es 0:Rat)+wo es 0)=0 by grind]
   exact o5
  ·rw?
   exact rest _ _ ⟨rfl,rfl,fun z=>c1 (jJ 0#d)⟩
 obtain ⟨rfl,rfl,afU⟩:=hP
 refine jE (fun σ' H'=>H'=H''∧σ'=[some (.ref l),some (.ref x0.1),none,none,none,none,none,none]∧3≤es.length) (fun σ' H' hP=>?_) (fun N rest=>?_)
 rotate_left
 ·rw?
  refine cP (.inl (aX.of hl)) ?_
  rw [aO]
  rw?
  refine cE (fun c1=>?_) (fun c1=>?_)
  ·have tH:(es.length:Int)=2:=jM c1
   obtain ⟨x1,g1,sa1⟩:=cI hR hS (show 1<es.length by try?)
   have hlt:=gV dX (show 0<1 by decide) (show 1<es.length by try?)
   rw?
   refine cA hl (dh (i:=1) g1 rfl) ?_
   rw?
   refine ⟨x0.1,x1.1,_,_,_,_,n,rfl,sa0,sa1,by try?,by try?,fun p1 H1 s1 f1=>?_⟩
   rw?
   refine ⟨p1,x0.1,_,_,_,_,n,rfl,f1,sa0.up s1,hn1,by try?,fun zl r' H2 s2 ez fr=>?_⟩
   rw?
   refine aE (mk:=.tup) 0#e fun p3 H3 s3 n3 e3=>?_
   rw?
   refine aE (mk:=.tup) 0#e fun p4 H4 s4 n4 e4=>?_
   have SQ:=s3.trans s4
   refine k p4 zl p3 .bM _ _ 0 none H4 (s1.trans (s2.trans SQ)) e4 ⟨p1,r',SQ _ _ ez,(f1.up (s2.trans SQ)).mono 0#d,(fr.up SQ).mono 0#d⟩ (zero (s4 _ _ e3) 0#d) rfl ⟨o5,fun p hp=>?_,fun _=>rfl,fun _ _ _ e=>nomatch e⟩ (.inr ⟨0,0,1,by decide,by try?,by try?,rfl,.inl rfl⟩)
   have hT:=cS (b:=mo es 1-mo es 0) 0#d
   rw [qG] at hT
   have:mG es ((wo es 1-wo es 0)/((mo es 1-mo es 0:Int):Rat)) (wo es 0-(wo es 1-wo es 0)/((mo es 1-mo es 0:Int):Rat)*(mo es 0:Rat)) p=0:=by
    unfold mG
    rw [qG]
    rcases (show p=0∨p=1 by try?) with rfl | rfl
    ·grind
    ·grind
   rw [this]
   exact o5
  ·rw?
   exact rest _ _ ⟨rfl,rfl,by
    have:¬(es.length:Int)=2:=fun z=>c1 (jJ z)
    try?⟩
 obtain ⟨rfl,rfl,h3⟩:=hP
 rw?
 refine ⟨l,es,n,rfl,hl,hR,hS,dX,hn1,hn,h3,lI,fun r i j kk y C H1 s1 er hC hy IQ=>?_⟩
 obtain ⟨hij,hjk,hkn,_⟩:=id IQ
 have hlt:=gV dX (show i<kk by try?) hkn
 have hl1:=s1 _ _ hl
 obtain ⟨xi,gi,si⟩:=cI (hR.up s1) hS (show i<es.length by try?)
 obtain ⟨xj,gj,sj⟩:=cI (hR.up s1) hS (show j<es.length by try?)
 obtain ⟨xk,gk,sk⟩:=cI (hR.up s1) hS hkn
 rw?
 refine cA hl1 (dh gi rfl) ?_
 rw?
 refine cA hl1 (dh gk rfl) ?_
 rw?
 refine cA hl1 (dh gj rfl) ?_
 rw?
 refine ⟨xi.1,xj.1,xk.1,_,_,_,_,_,_,n,rfl,si,sj,sk,hlt,by try?,fun p2 H2 s2 f2=>?_⟩
 rw?
 refine aE (mk:=.tup) 0#e fun p3 H3 s3 n3 e3=>?_
 rw?
 refine ⟨p2,p3,_,1/2,_,2,rfl,(f2.up s3).qt,⟨1,2,e3,⟨by decide,by decide +kernel⟩,by decide,by decide⟩,by try?,fun p4 H4 s4 f4=>?_⟩
 have SN:=s2.trans (s3.trans s4)
 rw?
 refine ⟨xi.1,xk.1,_,_,_,_,n,rfl,si.up SN,sk.up SN,by try?,by try?,fun p5 H5 s5 f5=>?_⟩
 rw?
 refine ⟨p5,xi.1,_,_,_,_,n,rfl,f5,si.up (SN.trans s5),hn1,by try?,fun zc rc H6 s6 ec fc=>?_⟩
 have U8:=s5.trans s6
 try dsimp only at f4
 generalize hd:(wo es j-cZ (mo es i) (wo es i) (mo es j) (mo es kk) (wo es kk))*(1/2)=d at f4
 generalize hs:(wo es kk-wo es i)/((mo es kk-mo es i:Int):Rat)=sl at f5 fc
 have hB:=ON hC dX hy IQ (s:=sl) (d:=d) (h:=wo es i-sl*(mo es i:Rat)+d) (by rw [← hs,qG]) (by rw [← hd];grind) rfl
 have f46:=f4.up U8
 obtain ⟨tp,bt,e6,fr6,zt6,zb6⟩:=id f46
 have er6:=(SN.trans U8) _ _ er
 have ht0:tp=0↔d=0:=by
  have aci:=cS (b:=bt) (by have:=fr6.pos;try?)
  have he:=fr6.eq
  constructor
  ·intro z
   rw [z] at he
   have:((0:Int):Rat)=0:=rfl
   rw [this] at he
   rcases YV.mp he.symm with q | q
   ·exact q
   ·exact absurd q aci
  ·intro z
   rw [z,Zv] at he
   exact J7.mp he
 refine Nx ?_
 refine jE (fun σ' H'=>H'=H6∧∃v,σ'=[some (.ref l),some (.ref x0.1),some (.ref r),some (.ref xi.1),some (.ref xk.1),some (.ref p4),some (.ref zc),some v]∧abQ H6 (if d=0 then none else some (i,j,kk)) v) (fun σ' H' hP=>?_) (fun N rest=>?_)
 rotate_left
 ·rw?
  refine cE (fun c1=>?_) (fun c1=>?_)
  ·have tH:=ht0.mp (jM c1)
   rw?
   exact rest _ _ ⟨rfl,.bM,rfl,by rw [if_pos tH];rfl⟩
  ·have tH:¬d=0:=fun z=>c1 (jJ (ht0.mpr z))
   rw?
   exact rest _ _ ⟨rfl,.ref r,rfl,by rw [if_neg tH];exact ⟨r,rfl,er6⟩⟩
 obtain ⟨rfl,v,rfl,hv⟩:=hP
 rw?
 refine ⟨rc,p4,_,_,_,_,rfl,fc.qt,f46.qt,by try?,fun p7 H7 s7 f7=>?_⟩
 rw?
 refine aE (mk:=.tup) 0#e fun p8 H8 s8 n8 e8=>?_
 have s68:=s7.trans s8
 rw?
 refine ⟨p4,_,_,rfl,f46.up s68,fun p9 H9 s9 f9=>?_⟩
 rw?
 refine aE (mk:=.tup) 0#e fun p10 tU oV xq Di=>?_
 have yi:=s9.trans oV
 have abq:=s68.trans yi
 refine k p10 p8 p9 v sl _ _ _ tU (s1.trans (SN.trans (U8.trans abq))) Di ⟨p5,p7,yi _ _ e8,(f5.up (s6.trans abq)).mono 0#d,(f7.up (s8.trans yi)).mono 0#d⟩ ((f9.up oV).mono 0#d) ?_ hB (.inr ⟨i,j,kk,by try?,hkn,by try?,hs.symm,.inr (by rw [← hd];rfl)⟩)
 by_cases z:d=0
 ·rw [if_pos z] at hv ⊢
  exact hv
 ·rw [if_neg z] at hv ⊢
  obtain ⟨r',e1,e2⟩:=hv
  exact ⟨r',e1,abq _ _ e2⟩
end
def yZ (es:List En) (a b c:Nat):Rat:=dB (sd es a b c)/2
theorem S8 (hac:mo es a<mo es c):sd es a b c=mG es s h b-cZ (mo es a) (mG es s h a) (mo es b) (mo es c) (mG es s h c):=by
 have hT:((mo es c:Rat)-(mo es a:Rat))≠0:=by
  have:=cS (b:=mo es c-mo es a) 0#d
  rw [qG] at this
  exact this
 unfold sd mG cZ
 generalize (mo es a:Rat)=ta at *
 generalize (mo es b:Rat)=tb at *
 generalize (mo es c:Rat)=tc at *
 grind
theorem QH (h1:ta<tb) (h2:tb<tc) (hx:x≤M) (hy:y≤M):cZ ta x tb tc y≤M:=by
 have a:=yM hx (show 0≤tc-tb by grind)
 have b:=yM hy (show 0≤tb-ta by grind)
 refine jm.mp fun z=>?_
 unfold cZ at z
 rw [Y8 (by grind)] at z
 grind
theorem QF (h1:ta<tb) (h2:tb<tc) (hx:M≤x) (hy:M≤y):M≤cZ ta x tb tc y:=by
 have a:=yM hx (show 0≤tc-tb by grind)
 have b:=yM hy (show 0≤tb-ta by grind)
 refine jm.mp fun z=>?_
 unfold cZ at z
 rw [Y7 (by grind)] at z
 grind
theorem VT (dX:rising es) (hle:∀p,p<es.length→dB (mG es s h p)≤w)  (hab:a<b) (hbc:b<c) (hc:c<es.length):yZ es a b c≤w:=by
 have t1:(mo es a:Rat)<(mo es b:Rat):=vc.mpr (gV dX hab 0#d)
 have t2:(mo es b:Rat)<(mo es c:Rat):=vc.mpr (gV dX hbc hc)
 have e:=S8 (es:=es) (s:=s) (h:=h) (a:=a) (b:=b) (c:=c) (gV dX 0#d hc)
 obtain ⟨a1,a2⟩:=sX.mp (hle a 0#d)
 obtain ⟨b1,b2⟩:=sX.mp (hle b 0#d)
 obtain ⟨c1,c2⟩:=sX.mp (hle c hc)
 have u1:=QH t1 t2 a2 c2
 have u2:=QF t1 t2 a1 c1
 have:dB (sd es a b c)≤2*w:=sX.mpr (by rw [e];constructor <;> grind)
 unfold yZ
 grind
theorem Bg (dX:rising es) (hB:Qm es s h w (some (i,j,k))):i<j∧j<k∧k<es.length∧yZ es i j k=w∧w≠0:=by
 obtain ⟨hw,hij,hjk,hk,ho⟩:=hB.adt i j k rfl
 have t1:(mo es i:Rat)<(mo es j:Rat):=vc.mpr (gV dX hij 0#d)
 have t2:(mo es j:Rat)<(mo es k:Rat):=vc.mpr (gV dX hjk hk)
 have e:=S8 (es:=es) (s:=s) (h:=h) (a:=i) (b:=j) (c:=k) (gV dX 0#d hk)
 have hn:=hB.nn
 refine ⟨hij,hjk,hk,?_,hw⟩
 unfold yZ
 have one:∀x:Rat,cZ (mo es i) x (mo es j) (mo es k) x=x:=fun x=>by
  unfold cZ
  generalize (mo es i:Rat)=ta at *
  generalize (mo es j:Rat)=tb at *
  generalize (mo es k:Rat)=tc at *
  grind
 rcases ho with ⟨o1,o2,o3⟩ | ⟨o1,o2,o3⟩
 ·rw [e,o1,o2,o3,one]
  unfold dB
  split <;> grind
 ·rw [e,o1,o2,o3,one]
  unfold dB
  split <;> grind
theorem uD (dX:rising es) (hB:0≤B):HY es B↔∀i j k,i<j→j<k→k<es.length→dB (sd es i j k)≤B:=by
 have hr:abS (fun i=>(mo es i:Rat)) es.length:=fun i j hij hj=>vc.mpr (gV dX hij hj)
 constructor
 ·intro hF i j k hij hjk hk
  have hj:j<es.length:=zQ hjk hk
  have d1:=hr i j hij hj
  have d2:=hr j k hjk hk
  have q1:=hF i j i j hij hj hij hj
  have q2:=hF i j j k hij hj hjk hk
  have q3:=hF j k i j hjk hk hij hj
  have q4:=hF j k j k hjk hk hjk hk
  by_cases hc:fB es B i j≤fB es B j k
  ·exact JN (s:=fB es B j k) (t:=fun i=>(mo es i:Rat)) (v:=wo es) d1 d2 hc q3 o5 q4
  ·exact JN (s:=fB es B i j) (t:=fun i=>(mo es i:Rat)) (v:=wo es) d1 d2 o5 q1 (Kd (qC.mp hc)) q2
 ·intro hp i j k l hij hj Rn hl
  exact ack (t:=fun i=>(mo es i:Rat)) (v:=wo es) hr (fun a b c h1 h2 h3=>hp a b c h1 h2 h3) hB hij hj Rn hl
theorem Qw (dX:rising es) (hB:Qm es s h w F) (lV:0≤β):HY es (2*β)↔w≤β:=by
 rw [uD dX (by grind)]
 constructor
 ·intro hp
  cases F with
  | none=>rw [hB.none_ rfl];exact lV
  | some x=>
    obtain ⟨i,j,k⟩:=x
    obtain ⟨q1,q2,q3,q4,_⟩:=Bg dX hB
    have:=hp i j k q1 q2 q3
    unfold yZ at q4
    grind
 ·intro hw i j k hij hjk hk
  have:=VT dX hB.le hij hjk hk
  unfold yZ at this
  grind
def Kn (H:Hp) (p:av) (q:List En) (N:Nat):Prop:=∃(s h w:Rat) (Fo:Option (Nat×Nat×Nat)),Bc H (p,(mo q 0:Rat),s*(mo q 0:Rat)+h,(mo q (q.length-1):Rat),s*(mo q (q.length-1):Rat)+h) N∧Qm q s h w Fo∧Lin q s h
theorem Kn.mv (t:∀{b:av} {xs:List V},H b=some 0#t→H' b=some 0#t) (f:Kn H p q N):Kn H' p q N:=by
 obtain ⟨s,h,w,Fo,f,b⟩:=f
 exact ⟨s,h,w,Fo,f.mv t,b⟩
def Ea (H:Hp) (t:av) (es:List En) (β:Rat):Prop:=∃i j:Nat,i<j∧j+1<es.length∧H t=some (.tup [.int (mo es i),.int (mo es j),.int (mo es (es.length-1))])∧β<yZ es i j (es.length-1)
theorem Ea.mv (t:∀{b:av} {xs:List V},H b=some 0#t→H' b=some 0#t) (f:Ea H p q β):Ea H' p q β:=by
 obtain ⟨i,j,a,b,e,g⟩:=f
 exact ⟨i,j,a,b,t e,g⟩
structure MP (H:Hp) (run:List En) (β:Rat) (N:Nat) (qs:List (List En)) (ps ts:List av):Prop where
 cut:Cut run (2*β) qs run.length
 lp:ps.length=qs.length
 lt:ts.length+1=qs.length
 pc:∀(i:Nat) (q:List En) (p:av),qs[i]?=some q→ps[i]?=some p→Kn H p q N
 th:∀(i:Nat) (q q':List En) (x:En) (t:av),qs[i]?=some q→qs[i+1]?=some q'→q'[0]?=some x→ts[i]?=some t→Ea H t (q++[x]) β
theorem MP.mv {run:List En} (t:∀{b:av} {xs:List V},H b=some 0#t→H' b=some 0#t) (f:MP H run β N qs ps ts):MP H' run β N qs ps ts:=
 ⟨f.cut,f.lp,f.lt,fun i q p h1 h2=>(f.pc i q p h1 h2).mv t,fun i q q' x t' h1 h2 h3 h4=>(f.th i q q' x t' h1 h2 h3 h4).mv t⟩
def xu (H:Hp) (β:Rat) (N:Nat) (rs:List (List En)) (zs:List (List (List En)×List av×List av)):Prop:=jt (fun r z=>MP H r β N z.1 z.2.1 z.2.2) rs zs
theorem xu.mv (t:∀{b:av} {xs:List V},H b=some 0#t→H' b=some 0#t) (f:xu H β N rs zs):xu H' β N rs zs:=sP (fun _ _ _ r=>r.mv t) f
def oZ (zs:List (List (List En)×List av×List av)):List av:=zs.flatMap (·.2.1)
def zo (zs:List (List (List En)×List av×List av)):List av:=zs.flatMap (·.2.2)
theorem aeC (xs:List V):jS xs (some 1) none=xs.drop 1:=by
 unfold jS HT.GW
 cases xs with
 | nil=>rfl
 | cons x xs=>simp
theorem Cut.acW (h:Cut es B qs n) {i:Nat} (hq:qs[i]?=some q):1≤q.length∧q.length≤es.length:=by
 obtain ⟨pos,_,_,h⟩:=h
 obtain ⟨h1,h2,rfl,_⟩:=h i q hq
 rw [sW h2]
 try?
theorem Cut.len (h:Cut es B qs n):qs.length≤n:=by
 obtain ⟨pos,p0,pn,h⟩:=h
 have st:∀i,i≤qs.length→i≤pos i:=by
  intro i
  induction i with
  | zero=>intro _;exact mW _
  | succ i ih=>
    intro hi
    have a:=ih 0#d
    obtain ⟨h1,_⟩:=h i _ (mX (show i<qs.length by try?))
    try?
 have:=st qs.length (dz _)
 try?
theorem BW:∀i:Nat,(parts s es i).flatten=(es.take i).filter s
 | 0=>by simp [parts]
 | i+1=>by
   have ih:=BW (s:=s) (es:=es) i
   unfold parts
   cases e:es[i]? with
   | none=>
     rw [qF,e]
     simpa using ih
   | some y=>
     have tk:es.take (i+1)=es.take i++[y]:=by rw [qF,e];rfl
     rw [tk,D6]
     dsimp only
     split
     ·rename_i hs
      split
      ·rename_i hr
       obtain ⟨t,r',hp⟩:=rB hr
       rw [hp] at ih ⊢
       rw [← ih]
       simp [hs]
      ·rw [EL,ih]
       simp [hs]
     ·rename_i hs
      rw [ih]
      simp [hs]
theorem OO {α:Type} {l:List (List α)} (i:Nat):(l.take i).flatten.length≤l.flatten.length:=by
 have e:l.flatten=(l.take i).flatten++(l.drop i).flatten:=by rw [← EL,JW]
 rw [e,fq]
 exact EO _ _
theorem Cut.sub (h:Cut es B qs n) {i:Nat} (hq:qs[i]?=some q):q.Sublist es∧HY q B:=by
 obtain ⟨pos,_,_,h⟩:=h
 obtain ⟨h1,h2,rfl,hf,_⟩:=h i q hq
 exact ⟨(CW _ _).trans (CY _ _),hf⟩
theorem Cut.next (h:Cut es B qs n)  (hq:qs[i]?=some q) (hq':qs[i+1]?=some q'):∃x,q'[0]?=some x∧(q++[x]).Sublist es∧¬HY (q++[x]) B:=by
 obtain ⟨pos,_,_,h⟩:=h
 obtain ⟨h1,h2,rfl,hf,hn⟩:=h i q hq
 obtain ⟨k1,k2,rfl,_,_⟩:=h (i+1) q' hq'
 have hlt:pos (i+1)<es.length:=by try?
 have hx:es[pos (i+1)]?=some es[pos (i+1)]:=mX hlt
 refine ⟨es[pos (i+1)],by rw [ye 0#d,Ke];exact hx,?_,?_⟩
 ·rw [← pU 0#d hx]
  exact (CW _ _).trans (CY _ _)
 ·rw [← pU 0#d hx]
  exact hn hlt
theorem Qv (h:es[es.length-1]?=some x):pM (vals es) (-1)=some (.ref x.1):=by
 have hl:=(lR.mp h).1
 unfold pM
 rw [aO,pN (m:=es.length-1) 0#d]
 exact wK h
inductive Cu (vs:List V) (H:Hp) (Q:VK) (E_:XK):Prop where
 | mk (p:av) (s h:Rat) (a b:Int) (m n:Nat):vs=[.ref p,.int a,.int b]→iU H p s h n→Sz m a→Sz m b→1≤m→m+2*n+1≤8000→(∀(z:av) (H':Hp),au H H'→Bc H' (z,(a:Rat),s*(a:Rat)+h,(b:Rat),s*(b:Rat)+h) (m+2*n+1)→Q (.ref z) H')→Cu vs H Q E_
inductive r8 (vs:List V) (H:Hp) (Q:VK) (E_:XK):Prop where
 | mk (l:av) (es:List En) (n:Nat):vs=[.ref l]→H l=some (.lst (vals es))→Row H es n→iR es→rising es→1≤n→n≤200→es.length*n+n≤7000→1≤es.length→es.length≤40→(∀(p:av) (H':Hp),au H H'→Kn H' p es 6000→Q (.ref p) H')→r8 vs H Q E_
inductive u9 (vs:List V) (H:Hp) (Q:VK) (E_:XK):Prop where
 | mk (l x:av) (es:List En) (m:Int) (q β:Rat) (n:Nat):vs=[.ref l,.ref x]→H l=some (.lst (vals es))→Row H es n→iV H x m q n→iR es→rising (es++[(x,m,some q)])→1≤n→n≤200→(es.length+1)*n+n≤7000→es.length<40→0≤β→HY es (2*β)→¬HY (es++[(x,m,some q)]) (2*β)→(∀(t:av) (H':Hp),au H H'→Ea H' t (es++[(x,m,some q)]) β→Q (.ref t) H')→u9 vs H Q E_
inductive AM (vs:List V) (H:Hp) (Q:VK) (E_:XK):Prop where
 | mk (l pb:av) (es:List En) (β:Rat) (n nb:Nat):vs=[.ref l,.ref pb]→H l=some (.lst (vals es))→Row H es n→rising es→es.length≤40→bS H pb β nb→0≤β→1≤n→n≤165→nb≤1000→(∀(y X Z:av) (zs:List (List (List En)×List av×List av)) (H':Hp),au H H'→H' y=some (.tup [.ref X,.ref Z])→H X=none→H Z=none→X≠Z→H' X=some (.lst ((oZ zs).map V.ref))→H' Z=some (.lst ((zo zs).map V.ref))→xu H' β 6000 (parts dU es es.length) zs→Q (.ref y) H')→AM vs H Q E_
section
theorem Cs:aF ["line","first","last"] ["line","first","last"] (ah oB):=0#a
theorem BS (F:cT K "piece_along" "piece_along" oB f fd) (iI:Dn P w K mg base 5 "height" ["line","when"] se):bf P w K mg base c7 6 f fd ["line","first","last"] Cu:=by
 refine F.ok Cs 0#f 0#b
 ·obtain ⟨p,s,h,a,b,m,n,rfl,_⟩:=h
  rfl
 obtain ⟨p,s,h,a,b,m,n,rfl,Xj,za,zb,hm,hmn,k⟩:=h
 refine bI ⟨_,(aI (aU (bG (Jd.a4 (bG (bC 0#r aq)) (bY iI hr 0#l (bG (bC 0#r aq))) (bG (bC 0#w aq)) (bY iI hr 0#l (bG (bC 0#w aq))))))),?_⟩
 rw?
 refine aE (mk:=.tup) 0#e fun p1 H1 s1 n1 e1=>?_
 rw?
 refine aE (mk:=.tup) 0#e fun p2 H2 s2 n2 e2=>?_
 have gD:=s1.trans s2
 rw?
 refine ⟨p,p2,s,h,_,m,n,rfl,iU.up Xj gD,sC e2 za hm,hmn,fun p3 H3 s3 f3=>?_⟩
 have mK:=gD.trans s3
 rw?
 refine aE (mk:=.tup) 0#e fun p4 H4 s4 n4 e4=>?_
 rw?
 refine aE (mk:=.tup) 0#e fun p5 H5 s5 n5 e5=>?_
 have JB:=mK.trans (s4.trans s5)
 rw?
 refine ⟨p,p5,s,h,_,m,n,rfl,iU.up Xj JB,sC e5 zb hm,hmn,fun p6 H6 s6 f6=>?_⟩
 rw?
 refine aE (mk:=.tup) 0#e fun z H7 s7 n7 e7=>?_
 have s47:=s5.trans (s6.trans s7)
 have s37:=s4.trans s47
 have one:∀{y:Int},Sz m y→Sz (m+2*n+1) y:=fun z=>z.mono 0#d
 exact k z H7 (mK.trans s37) ⟨p1,p3,p4,p6,e7,⟨a,1,(s2.trans (s3.trans s37)) _ _ e1,Fr.whole a,one za,pR 0#d⟩,f3.up s37,⟨b,1,s47 _ _ e4,Fr.whole b,one zb,pR 0#d⟩,f6.up s7⟩
theorem DV:aF ["stretch"] ["stretch"] (ah pW):=0#a
theorem DK (F:cT K "best_piece" "best_piece" pW f fd) (nU:Dn P w K mg base 6 "piece_along" ["line","first","last"] Cu) (xx:Dn P w K mg base 6 "best" ["samples"] Ho):bf P w K mg base c7 7 f fd ["stretch"] r8:=by
 refine F.ok DV 0#f 0#b
 ·obtain ⟨l,es,n,rfl,_⟩:=h
  rfl
 obtain ⟨l,es,n,rfl,hl,hR,hA,dX,hn1,hn,Xj,h1,lI,k⟩:=h
 refine bI ⟨_,(aI (aU (Jd.c3 nU hr (aJ K (Jd.c1 xx hr 0#l)) (aJ K (Jd.iL K 0#l)) (aJ K (bD (fK K) 0#l (eV cW aq) 0#h))))),?_⟩
 rw?
 refine ⟨l,es,n,rfl,hl,hR,hA,dX,hn1,by try?,Xj,h1,lI,fun z zl zw Fv sl ht w' Fo H1 s1 ez hL _ _ hB aeI=>?_⟩
 obtain ⟨e0,g0,v0,ev0,fv0,zt0⟩:=cI (hR.up s1) hA (show 0<es.length by try?)
 obtain ⟨e1,g1,v1,ev1,fv1,zt1⟩:=cI (hR.up s1) hA (show es.length-1<es.length by try?)
 have hl1:=s1 _ _ hl
 rw?
 refine cA hl1 (dh g0 rfl) ?_
 rw?
 refine cA hl1 (Qv g1) ?_
 rw?
 refine ⟨zl,sl,ht,_,_,n,13*n+15,rfl,hL,zt0,zt1,hn1,by try?,fun p H2 s2 f2=>?_⟩
 refine k p H2 (s1.trans s2) ⟨sl,ht,w',Fo,?_,hB,aeI⟩
 obtain ⟨a,b,c,d,e,f1,f2,f3,f4⟩:=f2
 exact ⟨a,b,c,d,e,f1.mono 0#d,f2.mono 0#d,f3.mono 0#d,f4.mono 0#d⟩
theorem afs (h:te σ H fun x H1=>∃a,x=.ref a∧(∃xs,tG K H1 a xs)∧R (Itt K a) H1):VZ K te σ H R:=h
theorem qz:aF ["stretch","behind","samples"] ["stretch","behind"] (ah mQ):=0#a
theorem Al (F:cT K "ending_three" "ending_three" mQ f fd) (T:Txt mg) (xx:Dn P w K mg base 6 "best" ["samples"] Ho):bf P w K mg base c7 7 f fd ["stretch","behind"] u9:=by
 refine F.ok qz 0#f 0#b
 ·obtain ⟨l,x,es,m,q,β,n,rfl,_⟩:=h
  rfl
 obtain ⟨l,x,es,m,q,β,n,rfl,hl,hR,hx,hA,dX,hn1,hn,Xj,lI,lV,hf,hnf,k⟩:=h
 generalize hes:es++[(x,m,some q)]=fs at *
 have hlf:fs.length=es.length+1:=by rw [← hes];simp
 have hRf:Row H fs n:=by rw [← hes];exact hR.snoc hx.en
 have hAf:iR fs:=by rw [← hes];exact oJ hA
 have hrs:rising es:=by rw [← hes] at dX;exact dX.sublist (XQ _ _)
 refine bI ⟨_,(ao (kj (i:=2) qz.nd rfl (Or.inr rfl) (aG BV 0#l (dg (dG 0#r))) (hs:=abx)) (aI (aU (Jd.oU Dt rfl T.abJ aea (dG (nh (O:=["place"]) (N':=["samples"]) (cap:=[2]) rfl (Jd.piT K (aJ K (Jd.c1 xx hr 0#w))) (fun _ _ _ _ _=>(cg (i:=0) (show i8 [("place":Str),("samples":Str)] by decide +kernel) rfl 0#m)) (fun _ _ _ _ _=>lC) (fun _ _ _ _ _=>(bD (Et K) (bD (fK K) 0#r 0#l 0#h) aq 0#h)) rfl 0#u rfl 0#g rfl 0#g)))))),?_⟩
 rw?
 refine aE (mk:=.lst) 0#e fun l1 H1 s1 n1 e1=>?_
 rw?
 refine Jy (s1 _ _ hl) e1 ?_
 refine aE (mk:=.lst) (by rw [fq,aO];simp;try?) fun L H2 s2 n2 e2=>?_
 have eL:H2 L=some (.lst (vals fs)):=by rw [e2,← hes];simp [vals]
 have gD:=s1.trans s2
 rw?
 refine afs ?_
 rw?
 refine ⟨L,fs,n,rfl,eL,hRf.up gD,hAf,dX,hn1,by try?,by rw [hlf];exact Xj,by try?,by try?,fun z zl zw Fv sl ht w' Fo H3 s3 ez _ _ hFo hB _=>?_⟩
 have hw:β<w':=qC.mp fun z=>hnf ((Qw dX hB lV).mpr z)
 cases Fo with
 | none=>exact absurd (hB.none_ rfl) (by grind)
 | some y=>
   obtain ⟨i,j,kk⟩:=y
   obtain ⟨q1,q2,q3,q4,_⟩:=Bg dX hB
   have hk:kk=es.length:=by
    refine P4 fun hne=>?_
    have Rn:kk<es.length:=by try?
    have h1:=(uD hrs (show (0:Rat)≤2*β by grind)).mp hf i j kk q1 q2 Rn
    have e:sd es i j kk=sd fs i j kk:=by
     unfold sd
     rw [← hes,j6 (show i<es.length by try?),kh (show i<es.length by try?),j6 (show j<es.length by try?),kh (show j<es.length by try?),j6 Rn,kh Rn]
    unfold yZ at q4
    rw [e] at h1
    grind
   subst hk
   obtain ⟨r,rfl,er⟩:=hFo
   have mK:=gD.trans s3
   have eL3:=s3 _ _ eL
   rw?
   refine ⟨r,rfl,⟨_,tG.of er⟩,?_⟩
   refine cC (xs:=[.int (i:Int),.int (j:Int),.int (es.length:Int)]) PM (fun H4 s4=>tG.of (s4 _ _ er)) 0#e (fun c ys G=>ys=([i,j,es.length].take c).map fun p=>V.int (mo fs p)) rfl ?_ ?_
   ·rintro D c v ys H4 jK NN N0 h0 hD eD s4 hv hy rfl kY kN
    obtain ⟨pq,gpq,rfl,hpq⟩:∃pq:Nat,[i,j,es.length][c]?=some pq∧v=.int (pq:Int)∧pq<fs.length:=by
     have hq:c<3:=(lR.mp hv).1
     rcases (show c=0∨c=1∨c=2 by try?) with rfl | rfl | rfl
     ·exact ⟨i,rfl,by cases hv;rfl,by try?⟩
     ·exact ⟨j,rfl,by cases hv;rfl,by try?⟩
     ·exact ⟨es.length,rfl,by cases hv;rfl,by try?⟩
    obtain ⟨e,ge,v',ev,fv,zv⟩:=cI (hRf.up (mK.trans s4)) hAf hpq
    refine fD h0 ?_
    rw?
    refine cu ?_
    rw?
    refine cA (s4 _ _ eL3) (dh ge rfl) ?_
    rw?
    refine kY _ H4 (au.refl _) ?_
    rw [qF,gpq,i9]
    rfl
   ·rintro D ys H4 hD eD s4 hy rfl
    rw?
    refine ⟨D,_,rfl,.inl ⟨aX.of eD,fun t nt=>?_⟩⟩
    refine k t _ ((mK.trans s4).trans (kr nt _)) ⟨i,j,q1,by try?,?_,?_⟩
    ·rw [aA,hlf]
     rfl
    ·rw [hlf,show es.length+1-1=es.length by try?,q4]
     exact hw
theorem rW:aF ["row","bound","telling","paper","run","parts"] ["row","bound"] (ah GX):=0#a
theorem RW (F:cT K "apart" "apart" GX f fd) (T:Txt mg) (pK:Dn P w K mg base 1 "runs" ["row"] CJ) (qP:Dn P w K mg base 8 "stretches" ["samples","bound"] (sr aR)) (pA:Dn P w K mg base 7 "best_piece" ["stretch"] r8) (l9:Dn P w K mg base 7 "ending_three" ["stretch","behind"] u9):bf P w K mg base c7 9 f fd ["row","bound"] AM:=by
 refine F.ok rW 0#f 0#b
 ·obtain ⟨l,pb,es,β,n,nb,rfl,_⟩:=h
  rfl
 obtain ⟨l,pb,es,β,n,nb,rfl,hl,hR,dX,lI,hb,lV,hn1,hn,hnb,k⟩:=h
 refine bI ⟨_,(ao (aK 2 rW.nd (dg dY)) (ao (aK 3 rW.nd (dg dY)) (ao (dP gF rfl (di K (Jd.c1 pK hr 0#l)) (cg (i:=4) rW.nd rfl 0#m) (ao (aK 5 rW.nd (bY qP hr (aa 4) 0#r)) (ao (dZ (Jd.Io K 0#w (nh (O:=["stretch"]) (N':=[]) (cap:=[]) rfl (di K (aa 5)) (fun _ _ _ _ _=>(cg (i:=0) (show i8 [("stretch":Str)] by decide +kernel) rfl 0#m)) (fun _ _ _ _ _=>lC) (fun _ _ _ _ _=>(fN pA 0#A rfl (cO 0#l dY bK) (he:=bK) (hpl:=cB))) rfl trivial rfl 0#g rfl 0#g)) (hs:=dM)) (aI (dZ (Jd.Io K (aa 3) (nh (O:=["stretch","behind"]) (N':=[]) (cap:=[]) rfl (Jd.B5 K rfl T.abM (bC (aa 5) (qW (Tf K) (aa 5) (qY aq) qX))) (fun _ _ _ _ _=>(Jd.Qf K (n:=2) rfl (gM (cg (i:=0) (show i8 [("stretch":Str),("behind":Str)] by decide +kernel) rfl 0#m) (gM (cg (i:=1) (show i8 [("stretch":Str),("behind":Str)] by decide +kernel) rfl 0#m) qZ)))) (fun _ _ _ _ _=>lC) (fun _ _ _ _ _=>(fN l9 0#A rfl (cO 0#l (cO (bD (fK K) 0#r aq 0#h) dY qD) bK) (he:=bK) (hpl:=(cD qD cB)))) rfl trivial rfl 0#g rfl 0#g)) (hs:=dM)))))) (aI (aU (bG (bC 0#w (aa 3)))))))),?_⟩
 rw?
 refine aE (mk:=.lst) 0#e fun X H1 s1 n1 e1=>?_
 rw?
 refine aE (mk:=.lst) 0#e fun Z H2 s2 n2 e2=>?_
 have gD:=s1.trans s2
 have Pg:X≠Z:=fun z=>by rw [← z,e1] at n2;cases n2
 rw?
 refine eF (iw ?_)
 rw?
 refine ⟨l,es,n,rfl,gD _ _ hl,hR.up gD,lI,fun TT ls H3 s3 Dj hls aeP _=>?_⟩
 have hll:ls.length=(parts dU es es.length).length:=by rw [← hls,gJ]
 have own:∀{G:Hp} {R:av} {v:List V},LL H2 G TT ls→H2 R=some (.lst v)→R≠TT∧∀x∈ls,x.1≠R:=fun hG e=>⟨(fun z=>by rw [z,hG.new] at e;cases e),(fun x hx z=>by rw [← z,(hG.each x hx).1] at e;cases e)⟩
 obtain ⟨a1,a2⟩:=own Dj (s2 _ _ e1)
 obtain ⟨b1,b2⟩:=own Dj e2
 have hF:∀i,((parts dU es es.length).take i).flatten.length≤40:=fun i=>by
  have q1:=OO (l:=parts dU es es.length) i
  rw [BW,jH] at q1
  have q2:(es.filter dU).length≤es.length:=N2 ..
  try?
 refine ⟨TT,rfl,⟨_,aX.of Dj.at_⟩,dW (xs:=lrefs ls) (fun i σ H4=>MV fun (zs:List (List (List En)×List av×List av)) (v5 v6:Option V)=>σ=[some (.ref l),some (.ref pb),some (.ref X),some (.ref Z),v5,v6]∧au H H4∧LL H2 H4 TT ls∧H4 X=some (.lst ((oZ zs).map V.ref))∧H4 Z=some (.lst ((zo zs).map V.ref))∧(oZ zs).length≤((parts dU es es.length).take i).flatten.length∧(zo zs).length≤((parts dU es es.length).take i).flatten.length∧xu H4 β 6000 ((parts dU es es.length).take i) zs) ?_ ?_ ?_ ?_⟩
 ·exact ⟨[],none,none,rfl,gD.trans s3,Dj,(s2.trans s3) _ _ e1,s3 _ _ e2,dz _,dz _,trivial⟩
 ·rintro i σ H4 _ ⟨zs,v5,v6,rfl,s4,AB,_⟩
  exact aX.of AB.at_
 ·rintro i x σ H4 hx ⟨zs,v5,v6,rfl,s4,AB,eX,eZ,hz1,hz2,hAp⟩
  refine eU fun M B RR hM _ _=>?_
  obtain ⟨x,gx,rfl⟩:=oO hx
  have hi:i<ls.length:=(lR.mp gx).1
  have Qa:=mY gx
  have hp:(parts dU es es.length)[i]?=some x.2:=by rw [← hls,dm,gx];rfl
  obtain ⟨o1,o2,o3⟩:=lX es.length x.2 (mY hp)
  rw [jH] at o3
  obtain ⟨_,ex,_⟩:=AB.each x Qa
  have hx1:1≤x.2.length:=HP.mpr o1
  have acC:x.2.length≤40:=eE o3.length_le lI
  have hRx:Row H4 x.2 n:=fun z hz=>hR.up s4 z (o3.subset hz)
  have hrx:rising x.2:=dX.sublist o3
  have eX0:=eX
  have eZ0:=eZ
  rw?
  refine ⟨x.1,pb,x.2,β,n,nb,rfl,ex,hRx,o2,hrx,hb.up s4,lV,by try?,hnb,acC,fun PT ls' H5 s5 KO hC hl5=>?_⟩
  generalize hqs:ls'.map (·.2)=qs at *
  have hql:qs.length=ls'.length:=by rw [← hqs,gJ]
  have hq1:1≤qs.length:=by
   obtain ⟨pos,p0,pn,_⟩:=hC
   rcases Yt qs.length with z | z
   ·rw [z,p0] at pn;try?
   ·exact z
  have gq:∀{c:Nat} {y:av×List En},ls'[c]?=some y→qs[c]?=some y.2:=fun {c y} g=>by rw [← hqs,dm,g];rfl
  have hmul:∀{c:Nat},c≤41→c*n+n≤7000:=fun {c} hc=>by
   have:=Y6 hc hn
   try?
  rw?
  refine ⟨.inl ⟨rfl,_,aX.of (s5 _ _ eX)⟩,?_⟩
  rw?
  refine iw ?_
  rw?
  refine ⟨PT,rfl,⟨_,aX.of KO.at_⟩,?_⟩
  refine cC (xs:=lrefs ls') bV (fun H6 s6=>aX.of (s6 _ _ KO.at_)) (by rw [dR];try?) (fun c ys G=>∃ps:List av,ys=ps.map V.ref∧ps.length=c∧∀(d:Nat) (q:List En) (p:av),qs[d]?=some q→ps[d]?=some p→Kn G p q 6000) ⟨[],rfl,rfl,fun d q p _ h=>by simp at h⟩ ?_ ?_
  ·rintro D c v ys H6 jK NN N0 h0 hD eD s6 hv hy ⟨ps,rfl,hpl,hps⟩ kY kN
   obtain ⟨y,gy,rfl⟩:=oO hv
   obtain ⟨_,ey,_⟩:=(KO.up s6).each y (mY gy)
   obtain ⟨l1,l2⟩:=hC.acW (gq gy)
   obtain ⟨u1,u2⟩:=hC.sub (gq gy)
   refine fD h0 ?_
   rw?
   refine cu ?_
   rw?
   refine ⟨y.1,y.2,n,rfl,ey,fun z hz=>(hRx.up (s5.trans s6)) z (u1.subset hz),fun z hz=>o2 z (u1.subset hz),hrx.sublist u1,hn1,by try?,hmul 0#d,l1,by try?,fun p H7 s7 f7=>?_⟩
   refine kY _ H7 s7 ⟨ps++[p],by simp,by simp [hpl],fun d q p' hd Es=>?_⟩
   by_cases hdc:d<ps.length
   ·rw [wX hdc] at Es
    exact (hps d q p' hd Es).mv fun {b xs} z=>(rE s7) _ _ z
   ·rw [yO 0#d] at Es
    have hd0:d-ps.length=0:=by
     have:=(lR.mp Es).1
     simp at this
     try?
    rw [hd0] at Es
    obtain rfl:p=p':=by simpa using Es
    have aaw:d=c:=by try?
    subst aaw
    cases (gq gy).symm.trans hd
    exact f7.mv fun {b xs} z=>d9 (s7 _ _ eD) z
  ·rintro D ys H6 hD eD s6 hy ⟨ps,rfl,hpl,hps⟩
   rw [dR] at hpl
   have U8:=s5.trans s6
   have eX6:=U8 _ _ eX
   have eZ6:=U8 _ _ eZ
   have aeV:∀(d:Nat) (q:List En) (p:av),qs[d]?=some q→ps[d]?=some p→Kn H6 p q 6000:=fun d q p hd Es=>(hps d q p hd Es).mv fun {b xs} z=>gO _ _ z
   rw?
   refine EG eX6 eD (by rw [gJ,gJ];exact tS (aN (by have:=hF i;try?))) ?_
   generalize hH7:upd H6 X (.lst ((oZ zs).map V.ref++ps.map V.ref))=H7
   have adz:∀{b:av} {xs:List V},H6 b=some 0#t→H7 b=some 0#t:=fun {b xs} e=>by
    rw [← hH7]
    exact t6 X H6 _ _ _ (d9 eX6 e)
   have ae6:∀{b:av} {o:HO},H6 b=some o→b≠X→H7 b=some o:=fun {b o} e ne=>by
    rw [← hH7]
    exact V8 e ne
   have eX7:H7 X=some (.lst ((oZ zs++ps).map V.ref)):=by rw [← hH7,aA,i9]
   have eZ7:=ae6 eZ6 (jn Pg)
   have nPX:PT≠X:=fun z=>by rw [z] at KO;have:=KO.new;rw [eX] at this;cases this
   have nlX:∀y∈ls',y.1≠X:=fun y hy z=>by have:=(KO.each y hy).1;rw [z,eX] at this;cases this
   have KP:LL H4 H7 PT ls':=by rw [← hH7];exact (KO.up s6).other (jn nPX) nlX
   have hR7:Row H7 x.2 n:=by rw [← hH7];exact (hRx.up U8).app eX6
   have EH:au H H7:=by rw [← hH7];exact aY (s4.trans U8) n1
   rw?
   refine ⟨.inl ⟨rfl,_,aX.of eZ7⟩,?_⟩
   rw?
   refine SG ?_
   rw?
   refine ⟨_,rfl,1,rfl,PT,_,rfl,aX.of KP.at_,fun P1 nP1=>?_⟩
   rw [aeC]
   have s8:au H7 (upd H7 P1 (.lst ((lrefs ls').drop 1))):=aY (au.refl _) nP1
   have e8:upd H7 P1 (.lst ((lrefs ls').drop 1)) P1=some (.lst ((lrefs ls').drop 1)):=aA
   generalize upd H7 P1 (.lst ((lrefs ls').drop 1))=H8 at *
   rw?
   refine ⟨PT,P1,_,_,rfl,aX.of (s8 _ _ KP.at_),aX.of e8,?_⟩
   refine xD (HZ:=ls'.length-1) (by rw [dR];try?) (by rw [iP,dR];try?) (.inr (by rw [iP,dR];try?)) (fun H9 s9=>⟨aX.of ((s8.trans s9) _ _ KP.at_),aX.of (s9 _ _ e8)⟩) 0#d (fun c ys G=>∃ts:List av,ys=ts.map V.ref∧ts.length=c∧∀(d:Nat) (q q':List En) (y:En) (t:av),qs[d]?=some q→qs[d+1]?=some q'→q'[0]?=some y→ts[d]?=some t→Ea G t (q++[y]) β) ⟨[],rfl,rfl,fun d q q' y t _ _ _ h=>by simp at h⟩ ?_ ?_
   ·rintro D' c v v' ys H9 tU pp jK NN N0 h0 Xh HV s9 oV epp hc hv hv' hy ⟨ts,rfl,htl,hts⟩ kY kN
    obtain ⟨y,gy,rfl⟩:=oO hv
    rw [ly,zP] at hv'
    obtain ⟨y',gy',rfl⟩:=oO hv'
    have yi:=s8.trans (s9.trans oV)
    obtain ⟨_,ey,_⟩:=(KP.up yi).each y (mY gy)
    obtain ⟨_,ey',_⟩:=(KP.up yi).each y' (mY gy')
    obtain ⟨l1,l2⟩:=hC.acW (gq gy)
    obtain ⟨u1,u2⟩:=hC.sub (gq gy)
    obtain ⟨z,gz,w1,w2⟩:=hC.next (gq gy) (gq gy')
    have hRs:=hR7.up yi
    have hzm:z∈x.2:=w1.subset 0#e
    have ez:z=(z.1,z.2.1,some (z.2.2.getD 0)):=by
     have:=o2 z hzm
     obtain ⟨za,zm,zv⟩:=z
     cases zv with
     | none=>cases this
     | some q=>rfl
    have hz:=hRs z hzm
    rw [ez] at w1 w2 hz
    have hlen2:y.2.length+1≤40:=by
     have:=w1.length_le
     simp at this
     try?
    refine Cd h0 epp ?_
    rw?
    refine cu ?_
    rw?
    refine cA ey' (dh gz rfl) ?_
    rw?
    refine ⟨y.1,z.1,y.2,_,_,β,n,rfl,ey,fun u hu=>hRs u (u1.subset hu),hz.sa,fun u hu=>o2 u (u1.subset hu),hrx.sublist w1,hn1,by try?,hmul 0#d,by try?,lV,u2,w2,fun t MS Dq f11=>?_⟩
    rw [← ez] at f11
    have ado:=oV.trans Dq
    refine kY _ MS Dq ⟨ts++[t],by simp,by simp [htl],fun d q q' y0 t' hd hd' hy0 ht'=>?_⟩
    by_cases hdc:d<ts.length
    ·rw [wX hdc] at ht'
     exact (hts d q q' y0 t' hd hd' hy0 ht').mv fun {b xs} z=>(rE ado) _ _ z
    ·rw [yO 0#d] at ht'
     have hd0:d-ts.length=0:=by
      have:=(lR.mp ht').1
      simp at this
      try?
     rw [hd0] at ht'
     obtain rfl:t=t':=by simpa using ht'
     have aaw:d=c:=by try?
     subst aaw
     cases (gq gy).symm.trans hd
     cases (gq gy').symm.trans hd'
     cases gz.symm.trans hy0
     exact f11.mv fun {b xs} z=>d9 (ado _ _ HV) z
   ·rintro D' ys H9 Xh HV s9 hy ⟨ts,rfl,htl,hts⟩
    have Qi:=s8.trans s9
    have eX9:=Qi _ _ eX7
    have eZ9:=Qi _ _ eZ7
    rw?
    refine EG eZ9 HV (by rw [gJ,gJ];exact tS (aN (by have:=hF i;try?))) ?_
    have IQ:((parts dU es es.length).take (i+1)).flatten.length=((parts dU es es.length).take i).flatten.length+x.2.length:=by
     rw [qF,hp,EL,fq]
     simp
    have hcl:=hC.len
    refine hM _ _ ⟨zs++[(qs,ps,ts)],_,_,rfl,aY (EH.trans Qi) (s1.free n2),?_,?_,?_,?_,?_,?_⟩
    ·have h6:LL H2 H7 TT ls:=by rw [← hH7];exact (AB.up U8).other a1 a2
     exact (h6.up Qi).other b1 b2
    ·rw [aM Pg,eX9]
     simp [oZ]
    ·rw [aA]
     simp [zo]
    ·have e:oZ (zs++[(qs,ps,ts)])=oZ zs++ps:=by simp [oZ]
     rw [IQ,e,fq]
     try?
    ·have e:zo (zs++[(qs,ps,ts)])=zo zs++ts:=by simp [zo]
     rw [IQ,e,fq]
     try?
    ·have mvZ:∀{b:av} {xs:List V},H9 b=some 0#t→upd H9 Z (.lst ((zo zs).map V.ref++ts.map V.ref)) b=some 0#t:=fun {b xs} e=>t6 Z H9 _ _ _ (d9 eZ9 e)
     rw [qF,hp]
     refine mz (hAp.mv fun {b xs} e=>mvZ (Qi _ _ (adz (U8 _ _ e)))) ?_
     refine ⟨hC,by rw [hpl,hql],by show ts.length+1=qs.length;try?,fun d q p hd Es=>(aeV d q p hd Es).mv fun {b xs} e=>mvZ (Qi _ _ (adz e)),fun d q q' y t hd hd' hy0 ht'=>(hts d q q' y t hd hd' hy0 ht').mv fun {b xs} e=>mvZ (gO _ _ e)⟩
 ·rintro σ H4 ⟨zs,v5,v6,rfl,s4,AB,eX,eZ,hz1,hz2,hAp⟩
  rw [dR,hll,jH] at hAp
  rw?
  refine aE (mk:=.tup) 0#e fun y H5 s5 n5 e5=>?_
  exact k y X Z zs H5 (s4.trans s5) e5 n1 (s1.free n2) Pg (s5 _ _ eX) (s5 _ _ eZ) (hAp.mv fun {b xs} e=>s5 _ _ e)
end
def Ve (ss:List En) (B:Rat) (fl ro:Nat) (G:Rat):Prop:=∀q p,ro≤q→q<p→fl≤p→p<ss.length→fB ss B q p≤G
def Vd (ss:List En) (B:Rat) (fl ro:Nat) (S:Rat):Prop:=∀q p,fl≤q→q<p→ro≤p→p<ss.length→S≤c6 ss B q p
def GF (ss:List En) (B:Rat) (fl ro:Nat) (G:Rat):Prop:=Ve ss B fl ro G∧∃q p,ro≤q∧q<p∧fl≤p∧p<ss.length∧fB ss B q p=G
def SF (ss:List En) (B:Rat) (fl ro:Nat) (S:Rat):Prop:=Vd ss B fl ro S∧∃q p,fl≤q∧q<p∧ro≤p∧p<ss.length∧c6 ss B q p=S
def cR (ss:List En) (T:Rat) (i:Nat):Rat:=wo ss i-T*(mo ss i:Rat)
theorem rD {a:Rat} (h:a=b):a≤b:=h▸o5
section
theorem iX (h:rising ss) (hij:i<j) (hj:j<ss.length):(0:Rat)<(mo ss j:Rat)-(mo ss i:Rat):=by
 have:=vc.mpr (gV h hij hj)
 grind
theorem sR (h:rising ss) (hij:i<j) (hj:j<ss.length):fB ss B i j≤G↔cR ss G j≤cR ss G i+B:=by
 unfold fB cR
 rw [sY (iX h hij hj)]
 constructor
 ·intro _;grind
 ·intro _;grind
theorem Nq (h:rising ss) (hij:i<j) (hj:j<ss.length):G≤fB ss B i j↔cR ss G i+B≤cR ss G j:=by
 unfold fB cR
 rw [nC (iX h hij hj)]
 constructor
 ·intro _;grind
 ·intro _;grind
theorem oK (h:rising ss) (hij:i<j) (hj:j<ss.length):S≤c6 ss B i j↔cR ss S i≤cR ss S j+B:=by
 unfold c6 cR
 rw [nC (iX h hij hj)]
 constructor
 ·intro _;grind
 ·intro _;grind
theorem Ja (h:rising ss) (hij:i<j) (hj:j<ss.length):c6 ss B i j≤S↔cR ss S j+B≤cR ss S i:=by
 unfold c6 cR
 rw [sY (iX h hij hj)]
 constructor
 ·intro _;grind
 ·intro _;grind
theorem Ld (h:rising ss) (hij:i<j) (hj:j<ss.length):fB ss B i j=G↔cR ss G j=cR ss G i+B:=
 ⟨fun e=>J8 ((sR h hij hj).mp (rD e)) ((Nq h hij hj).mp (rD e.symm)),fun e=>J8 ((sR h hij hj).mpr (rD e)) ((Nq h hij hj).mpr (rD e.symm))⟩
theorem FO (h:rising ss) (hij:i<j) (hj:j<ss.length):c6 ss B i j=S↔cR ss S i=cR ss S j+B:=
 ⟨fun e=>J8 ((oK h hij hj).mp (rD e.symm)) ((Ja h hij hj).mp (rD e)),fun e=>J8 ((Ja h hij hj).mpr (rD e.symm)) ((oK h hij hj).mpr (rD e))⟩
theorem Ve.mono (h:Ve ss B fl ro G) (g:G≤T):Ve ss B fl ro T:=fun q p a1 a2 a3 a4=>yS (h q p a1 a2 a3 a4) g
theorem Vd.mono (h:Vd ss B fl ro S) (g:T≤S):Vd ss B fl ro T:=fun q p a1 a2 a3 a4=>yS g (h q p a1 a2 a3 a4)
theorem OD (hB:0≤B) (hr:rising ss) (hL:Ve ss B fl ro T) (hH:Vd ss B fl ro T) (ha:ro≤a) (hb:fl≤b) (la:a<ss.length) (lb:b<ss.length):cR ss T b≤cR ss T a+B:=by
 rcases Ug a b with z | z | z
 ·exact (sR hr z lb).mp (hL a b ha z hb lb)
 ·subst z;grind
 ·exact (oK hr z la).mp (hH b a hb z ha la)
theorem vG (hi:i<ss.length):cR (ss++ys) T i=cR ss T i:=by
 unfold cR
 rw [j6 hi,kh hi]
theorem vF {ss:List En} {m:Int}:cR 0#C T ss.length=q-T*(m:Rat):=by
 unfold cR
 rw [F4,HE]
theorem nB:mo (ss.drop j) i=mo ss (j+i):=by unfold mo;rw [ly]
theorem NO:wo (ss.drop j) i=wo ss (j+i):=by unfold wo;rw [ly]
theorem yX (h:rising ss):rising (ss.drop j):=h.sublist (CY ..)
theorem I0:cR (ss.drop j) T i=cR ss T (j+i):=by unfold cR;rw [nB,NO]
theorem qm:dw (ss.drop j) B m q i=dw ss B m q (j+i):=by unfold dw;rw [nB,NO]
theorem Q7 (h1:∀G0,g=some G0→GF ss B fl ro G0∧G0≤G) (hN:g=none→∀q p,ro≤q→q<p→fl≤p→¬p<ss.length) (hfl:fl≤ss.length) (hall:∀i,i<(ss.drop ro).length→dw (ss.drop ro) (-B) m q i≤G) (hex:(∃i,i<(ss.drop ro).length∧dw (ss.drop ro) (-B) m q i=G)∨g=some G):GF 0#C B fl ro G:=by
 have ld:(ss.drop ro).length=ss.length-ro:=iP ..
 rw [ld] at hall hex
 refine ⟨fun i j hi hij hkj hj=>?_,?_⟩
 ·rw [fq] at hj
  have hj':j<ss.length+1:=hj
  by_cases e:j=ss.length
  ·subst e
   rw [AE hij]
   have:=hall (i-ro) 0#c
   rw [qm,show ro+(i-ro)=i by simp?] at this
   exact this
  ·rw [oN hij 0#c]
   cases hg:g with
   | none=>exact absurd (show j<ss.length by simp?) (hN hg i j hi hij hkj)
   | some G0=>
     obtain ⟨g1,le⟩:=h1 G0 hg
     exact yS (g1.1 i j hi hij hkj 0#c) le
 ·rcases hex with ⟨i,hi,e⟩ | e
  ·refine ⟨ro+i,ss.length,by simp?,by simp?,hfl,by rw [fq];show _<ss.length+1;simp?,?_⟩
   rw [AE 0#c,← qm]
   exact e
  ·obtain ⟨i,j,a0,a1,a2,a3,a4⟩:=(h1 G e).1.2
   exact ⟨i,j,a0,a1,a2,by rw [fq];show _<ss.length+1;simp?,by rw [oN a1 a3];exact a4⟩
theorem Te (h1:∀S0,s=some S0→SF ss B fl ro S0∧S≤S0) (hN:s=none→∀q p,fl≤q→q<p→ro≤p→¬p<ss.length) (tN:ro≤ss.length) (hall:∀i,i<(ss.drop fl).length→S≤dw (ss.drop fl) B m q i) (hex:(∃i,i<(ss.drop fl).length∧dw (ss.drop fl) B m q i=S)∨s=some S):SF 0#C B fl ro S:=by
 have ld:(ss.drop fl).length=ss.length-fl:=iP ..
 rw [ld] at hall hex
 refine ⟨fun i j hi hij hkj hj=>?_,?_⟩
 ·rw [fq] at hj
  have hj':j<ss.length+1:=hj
  by_cases e:j=ss.length
  ·subst e
   rw [vC hij]
   have:=hall (i-fl) 0#c
   rw [qm,show fl+(i-fl)=i by simp?] at this
   exact this
  ·rw [lU hij 0#c]
   cases hg:s with
   | none=>exact absurd (show j<ss.length by simp?) (hN hg i j hi hij hkj)
   | some S0=>
     obtain ⟨g1,le⟩:=h1 S0 hg
     exact yS le (g1.1 i j hi hij hkj 0#c)
 ·rcases hex with ⟨i,hi,e⟩ | e
  ·refine ⟨fl+i,ss.length,by simp?,by simp?,tN,by rw [fq];show _<ss.length+1;simp?,?_⟩
   rw [vC 0#c,← qm]
   exact e
  ·obtain ⟨i,j,a0,a1,a2,a3,a4⟩:=(h1 S e).1.2
   exact ⟨i,j,a0,a1,a2,by rw [fq];show _<ss.length+1;simp?,by rw [lU a1 a3];exact a4⟩
theorem iE {ss:List En}:(ss++[(x,m,some q)]).length=ss.length+1:=by simp
theorem Fe {m:Int} (hr:rising 0#C) (s:SF 0#C B fl ro S) (hG:Vd ss B fl ro G) (tN:ro≤ss.length):S<G↔∃i,fl≤i∧i<ss.length∧q-G*(m:Rat)+B<cR ss G i:=by
 constructor
 ·intro h
  obtain ⟨i,j,a0,a1,a2,a3,a4⟩:=s.2
  rw [iE] at a3
  by_cases e:j=ss.length
  ·subst e
   refine ⟨i,a0,a1,qC.mp fun z=>?_⟩
   have:=(oK (B:=B) (S:=G) hr a1 (by rw [iE];simp?)).mpr (by rw [vF,vG a1];exact z)
   rw [a4] at this
   exact absurd h (jm.mpr this)
  ·have:=hG i j a0 a1 a2 0#c
   rw [lU a1 0#c] at a4
   rw [a4] at this
   exact absurd h (jm.mpr this)
 ·rintro ⟨i,a0,a1,h⟩
  refine qC.mp fun z=>?_
  have:=s.1 i ss.length a0 a1 tN (by rw [iE];simp?)
  have:=(oK hr a1 (by rw [iE];simp?)).mp (yS z this)
  rw [vF,vG a1] at this
  exact absurd h (jm.mpr this)
theorem M0 {m:Int} (hr:rising 0#C) (g:GF 0#C B fl ro G) (hS:Ve ss B fl ro S) (hfl:fl≤ss.length):S<G↔∃i,ro≤i∧i<ss.length∧cR ss S i+B<q-S*(m:Rat):=by
 constructor
 ·intro h
  obtain ⟨i,j,a0,a1,a2,a3,a4⟩:=g.2
  rw [iE] at a3
  by_cases e:j=ss.length
  ·subst e
   refine ⟨i,a0,a1,qC.mp fun z=>?_⟩
   have:=(sR (B:=B) (G:=S) hr a1 (by rw [iE];simp?)).mpr (by rw [vF,vG a1];exact z)
   rw [a4] at this
   exact absurd h (jm.mpr this)
  ·have:=hS i j a0 a1 a2 0#c
   rw [oN a1 0#c] at a4
   rw [a4] at this
   exact absurd h (jm.mpr this)
 ·rintro ⟨i,a0,a1,h⟩
  refine qC.mp fun z=>?_
  have:=g.1 i ss.length a0 a1 hfl (by rw [iE];simp?)
  have:=(sR hr a1 (by rw [iE];simp?)).mp (yS this z)
  rw [vF,vG a1] at this
  exact absurd h (jm.mpr this)
theorem Ik {B:Rat} (hB:0≤B) (hb:mb<m) (ea:v-G*m=va-G*ma+B) (eb:vb-S*mb=v-S*m+B) (h:vb-G*mb≤va-G*ma+B):G≤S:=by
 refine jm.mp fun hlt=>?_
 have p:(0:Rat)<m-mb:=by grind
 have:=HG hlt p
 grind
theorem KC {B:Rat} (hB:0≤B) (ha:ma<m) (ea:v-G*m=va-G*ma+B) (eb:vb-S*mb=v-S*m+B) (h:vb-S*mb≤va-S*ma+B):G≤S:=by
 refine jm.mp fun hlt=>?_
 have p:(0:Rat)<m-ma:=by grind
 have:=HG hlt p
 grind
theorem Vm (hB:0≤B) (hr:rising 0#C) (g:GF 0#C B fl ro G) (s:SF 0#C B fl ro S)
 (h1:∀i j,ro≤i→i<j→fl≤j→j<ss.length→fB ss B i j≤S) (h2:∀i j,fl≤i→i<j→ro≤j→j<ss.length→G≤c6 ss B i j):G≤S:=by
 obtain ⟨i,j,a0,a1,a2,a3,a4⟩:=g.2
 obtain ⟨k,l,b0,b1,b2,b3,b4⟩:=s.2
 rw [iE] at a3 b3
 by_cases e:j=ss.length
 ·by_cases e':l=ss.length
  ·subst e
   subst e'
   have ea:=(Ld hr a1 (by rw [iE];simp?)).mp a4
   have eb:=(FO hr b1 (by rw [iE];simp?)).mp b4
   have mi:=iX hr a1 (by rw [iE];simp?)
   have mk:=iX hr b1 (by rw [iE];simp?)
   unfold cR at ea eb
   rcases Ug i k with z | z | z
   ·have:=(sR hr z (by rw [iE];simp?)).mp (g.1 i k a0 z 0#c (by rw [iE];simp?))
    unfold cR at this
    exact Ik hB (by grind) ea eb this
   ·subst z
    exact Ik hB (by grind) ea eb (by grind)
   ·have:=(oK hr z (by rw [iE];simp?)).mp (s.1 k i b0 z 0#c (by rw [iE];simp?))
    unfold cR at this
    exact KC hB (by grind) ea eb this
  ·rw [lU b1 0#c] at b4
   rw [← b4]
   exact h2 k l b0 b1 b2 0#c
 ·rw [oN a1 0#c] at a4
  rw [← a4]
  exact h1 i j a0 a1 a2 0#c
end
structure D8 (ss:List En) (β:Rat) (fl ro:Nat) (m:Int) (q G f:Rat) (a b:Nat):Prop where
 gf:GF ss (2*β) fl ro G
 off:∃i,fl≤i∧i<ss.length∧q-G*(m:Rat)+2*β<cR ss G i
 lo:∀i,fl≤i→i<ss.length→cR ss G i-β≤f
 hi:∀i,ro≤i→i<ss.length→f≤cR ss G i+β
 ha:ro≤a
 ea:cR ss G a+β=f
 hb:fl≤b
 lb:b<ss.length
 eb:cR ss G b-β=f
 fb:∀i,b<i→i<ss.length→cR ss G i-β≠f
 hab:a<b
structure D9 (ss:List En) (β:Rat) (fl ro:Nat) (m:Int) (q S f:Rat) (a b:Nat):Prop where
 sf:SF ss (2*β) fl ro S
 off:∃i,ro≤i∧i<ss.length∧cR ss S i+2*β<q-S*(m:Rat)
 lo:∀i,fl≤i→i<ss.length→cR ss S i-β≤f
 hi:∀i,ro≤i→i<ss.length→f≤cR ss S i+β
 ha:fl≤a
 ea:cR ss S a-β=f
 hb:ro≤b
 lb:b<ss.length
 eb:cR ss S b+β=f
 fb:∀i,b<i→i<ss.length→cR ss S i+β≠f
 hab:a<b
theorem Iq {α:Type} (P:α→Bool):∀(l:List α),(∃x∈l,P x=true)→∃(a:Nat) (x:α),l[a]?=some x∧P x=true∧(l.filter P)[0]?=some x∧∀(i:Nat) y,i<a→l[i]?=some y→P y=false
 | [],h=>by obtain ⟨x,hx,_⟩:=h;cases hx
 | y::r,h=>by
   by_cases hy:P y=true
   ·exact ⟨0,y,rfl,hy,by rw [JT hy];rfl,fun i _ hi=>absurd hi (D7 _)⟩
   ·obtain ⟨x,hx,px⟩:=h
    have hr:x∈r:=by
     rcases qv.mp hx with e | e
     ·rw [e] at px;exact absurd px hy
     ·exact e
    obtain ⟨a,z,g,pz,e0,hn⟩:=Iq P r ⟨x,hr,px⟩
    refine ⟨a+1,z,g,pz,by rw [NW hy];exact e0,fun i u hi gu=>?_⟩
    cases i with
    | zero=>cases gu;exact gY.mpr hy
    | succ i=>exact hn i u 0#c gu
theorem Np {α:Type} (P:α→Bool):∀(l:List α),(∃x∈l,P x=true)→∃(b:Nat) (x:α),l[b]?=some x∧P x=true∧(l.filter P)[(l.filter P).length-1]?=some x∧∀(i:Nat) y,b<i→l[i]?=some y→P y=false
 | [],h=>by obtain ⟨x,hx,_⟩:=h;cases hx
 | y::r,h=>by
   by_cases hr:∃x∈r,P x=true
   ·obtain ⟨b,z,g,pz,e0,hn⟩:=Np P r hr
    refine ⟨b+1,z,g,pz,?_,fun i u hi gu=>?_⟩
    ·by_cases hy:P y=true
     ·rw [JT hy]
      have hl:0<(r.filter P).length:=by
       cases e:r.filter P with
       | nil=>rw [e] at e0;cases e0
       | cons c d=>exact UD _
      show (y::r.filter P)[(r.filter P).length+1-1]?=some z
      rw [show (r.filter P).length+1-1=((r.filter P).length-1)+1 by simp?,List.getElem?_cons_succ]
      exact e0
     ·rw [NW hy];exact e0
    ·cases i with
     | zero=>simp?
     | succ i=>exact hn i u 0#c gu
   ·have hy:P y=true:=by
     obtain ⟨x,hx,px⟩:=h
     rcases qv.mp hx with e | e
     ·rw [e] at px;exact px
     ·exact absurd ⟨x,e,px⟩ hr
    have e0:r.filter P=[]:=X5.mpr fun x hx px=>hr ⟨x,hx,px⟩
    refine ⟨0,y,rfl,hy,by rw [JT hy,e0];rfl,fun i u hi gu=>?_⟩
    cases i with
    | zero=>simp?
    | succ i=>exact gY.mpr fun z=>hr ⟨u,mY gu,z⟩
theorem M6 (h:rising es)  (hk:es[k]?=some x):es.filter (fun y=>decide (x.2.1≤y.2.1))=es.drop k:=by
 have hl:k<es.length:=(lR.mp hk).1
 have mk:∀i y,es[i]?=some y→(k≤i↔x.2.1≤y.2.1):=fun i y hy=>by
  have hi:i<es.length:=(lR.mp hy).1
  have e1:mo es k=x.2.1:=by unfold mo;rw [hk];rfl
  have e2:mo es i=y.2.1:=by unfold mo;rw [hy];rfl
  rcases Ug i k with z | z | z
  ·have:=gV h z hl;simp?
  ·subst z;simp?
  ·have:=gV h z hi;simp?
 conv=>lhs;rw [← JW k es]
 rw [D6]
 have h1:(es.take k).filter (fun y=>decide (x.2.1≤y.2.1))=[]:=X5.mpr fun y hy=>by
  obtain ⟨i,hi⟩:=Yk hy
  rw [N8] at hi
  split at hi
  ·have:=mk i y hi
   rw [Ub]
   simp?
  ·cases hi
 have h2:(es.drop k).filter (fun y=>decide (x.2.1≤y.2.1))=es.drop k:=List.filter_eq_self.mpr fun y hy=>by
  obtain ⟨i,hi⟩:=Yk hy
  rw [ly] at hi
  exact jJ ((mk _ y hi).mp (EO _ _))
 rw [h1,h2]
 rfl
structure Fb (fs:List (Str×V)) (bd tw bl ab:av) (g s:V):Prop where
 len:fs.length≤10
 bd:fs.lookup ("bound":Str)=some (.ref bd)
 tw:fs.lookup ("twice":Str)=some (.ref tw)
 bl:fs.lookup ("below":Str)=some (.ref bl)
 ab:fs.lookup ("above":Str)=some (.ref ab)
 g:fs.lookup ("gentlest":Str)=some g
 s:fs.lookup ("steepest":Str)=some s
 no:∀m:Str,m ≠ "bound"→m ≠ "twice"→m ≠ "below"→m ≠ "above"→m ≠ "gentlest"→m ≠ "steepest"→fs.lookup m=none
theorem Fb.init (bd tw bl ab:av) (g s:V):Fb (aB "steepest" s (aB "gentlest" g (aB "above" (.ref ab) (aB "below" (.ref bl) (aB "twice" (.ref tw) (aB "bound" (.ref bd) [])))))) bd tw bl ab g s:=by
 have Wf:¬(("bound":Str) = "twice"):=by decide +kernel
 have F7:¬(("bound":Str) = "below"):=by decide +kernel
 have F5:¬(("bound":Str) = "above"):=by decide +kernel
 have Lq:¬(("bound":Str) = "gentlest"):=by decide +kernel
 have Lr:¬(("bound":Str) = "steepest"):=by decide +kernel
 have Gb:¬(("twice":Str) = "below"):=by decide +kernel
 have Ga:¬(("twice":Str) = "above"):=by decide +kernel
 have Lx:¬(("twice":Str) = "gentlest"):=by decide +kernel
 have Ly:¬(("twice":Str) = "steepest"):=by decide +kernel
 have F9:¬(("below":Str) = "above"):=by decide +kernel
 have Lu:¬(("below":Str) = "gentlest"):=by decide +kernel
 have Lv:¬(("below":Str) = "steepest"):=by decide +kernel
 have Lo:¬(("above":Str) = "gentlest"):=by decide +kernel
 have Lp:¬(("above":Str) = "steepest"):=by decide +kernel
 have RO:¬(("gentlest":Str) = "steepest"):=by decide +kernel
 have l:∀(f:Str) (v:V) (fs:List (Str×V)),(aB f v fs).length≤fs.length+1:=by
  intro f v fs
  induction fs with
  | nil=>exact dz _
  | cons x r ih=>
    obtain ⟨g,y⟩:=x
    unfold aB
    split
    ·exact wO _
    ·exact HU ih
 refine ⟨?_,?_,?_,?_,?_,?_,?_,fun m m1 m2 m3 m4 m5 m6=>?_⟩
 ·have l0:=l "bound" (.ref bd) []
  have l1:=l "twice" (.ref tw) (aB "bound" (.ref bd) [])
  have l2:=l "below" (.ref bl) (aB "twice" (.ref tw) (aB "bound" (.ref bd) []))
  have l3:=l "above" (.ref ab) (aB "below" (.ref bl) (aB "twice" (.ref tw) (aB "bound" (.ref bd) [])))
  have l4:=l "gentlest" g (aB "above" (.ref ab) (aB "below" (.ref bl) (aB "twice" (.ref tw) (aB "bound" (.ref bd) []))))
  have l5:=l "steepest" s (aB "gentlest" g (aB "above" (.ref ab) (aB "below" (.ref bl) (aB "twice" (.ref tw) (aB "bound" (.ref bd) [])))))
  simp only [YX] at l0
  simp?
 ·rw [af,if_neg Lr,af,if_neg Lq,af,if_neg F5,af,if_neg F7,af,if_neg Wf,af,if_pos rfl]
 ·rw [af,if_neg Ly,af,if_neg Lx,af,if_neg Ga,af,if_neg Gb,af,if_pos rfl]
 ·rw [af,if_neg Lv,af,if_neg Lu,af,if_neg F9,af,if_pos rfl]
 ·rw [af,if_neg Lp,af,if_neg Lo,af,if_pos rfl]
 ·rw [af,if_neg RO,af,if_pos rfl]
 ·rw [af,if_pos rfl]
 ·rw [af,if_neg m6,af,if_neg m5,af,if_neg m4,af,if_neg m3,af,if_neg m2,af,if_neg m1]
  rfl
theorem Fb.Tc {bd tw bl ab:av} {g s:V} {y:av} (h:Fb fs bd tw bl ab g s):Fb (aB "below" (.ref y) fs) bd tw y ab g s:=by
 have F7:¬(("bound":Str) = "below"):=by decide +kernel
 have Gb:¬(("twice":Str) = "below"):=by decide +kernel
 have We:¬(("above":Str) = "below"):=by decide +kernel
 have aaR:¬(("gentlest":Str) = "below"):=by decide +kernel
 have aaT:¬(("steepest":Str) = "below"):=by decide +kernel
 refine ⟨by rw [fP h.bl];exact h.len,?_,?_,?_,?_,?_,?_,fun m m1 m2 m3 m4 m5 m6=>?_⟩
 ·rw [af,if_neg F7];exact h.bd
 ·rw [af,if_neg Gb];exact h.tw
 ·rw [af,if_pos rfl]
 ·rw [af,if_neg We];exact h.ab
 ·rw [af,if_neg aaR];exact h.g
 ·rw [af,if_neg aaT];exact h.s
 ·rw [af,if_neg m3];exact h.no m m1 m2 m3 m4 m5 m6
theorem Fb.S9 {bd tw bl ab:av} {g s:V} {y:av} (h:Fb fs bd tw bl ab g s):Fb (aB "above" (.ref y) fs) bd tw bl y g s:=by
 have F5:¬(("bound":Str) = "above"):=by decide +kernel
 have Ga:¬(("twice":Str) = "above"):=by decide +kernel
 have F9:¬(("below":Str) = "above"):=by decide +kernel
 have aaQ:¬(("gentlest":Str) = "above"):=by decide +kernel
 have aaS:¬(("steepest":Str) = "above"):=by decide +kernel
 refine ⟨by rw [fP h.ab];exact h.len,?_,?_,?_,?_,?_,?_,fun m m1 m2 m3 m4 m5 m6=>?_⟩
 ·rw [af,if_neg F5];exact h.bd
 ·rw [af,if_neg Ga];exact h.tw
 ·rw [af,if_neg F9];exact h.bl
 ·rw [af,if_pos rfl]
 ·rw [af,if_neg aaQ];exact h.g
 ·rw [af,if_neg aaS];exact h.s
 ·rw [af,if_neg m4];exact h.no m m1 m2 m3 m4 m5 m6
theorem Fb.we {bd tw bl ab:av} {g s:V} {y:V} (h:Fb fs bd tw bl ab g s):Fb (aB "gentlest" y fs) bd tw bl ab y s:=by
 have Lq:¬(("bound":Str) = "gentlest"):=by decide +kernel
 have Lx:¬(("twice":Str) = "gentlest"):=by decide +kernel
 have Lu:¬(("below":Str) = "gentlest"):=by decide +kernel
 have Lo:¬(("above":Str) = "gentlest"):=by decide +kernel
 have acO:¬(("steepest":Str) = "gentlest"):=by decide +kernel
 refine ⟨by rw [fP h.g];exact h.len,?_,?_,?_,?_,?_,?_,fun m m1 m2 m3 m4 m5 m6=>?_⟩
 ·rw [af,if_neg Lq];exact h.bd
 ·rw [af,if_neg Lx];exact h.tw
 ·rw [af,if_neg Lu];exact h.bl
 ·rw [af,if_neg Lo];exact h.ab
 ·rw [af,if_pos rfl]
 ·rw [af,if_neg acO];exact h.s
 ·rw [af,if_neg m5];exact h.no m m1 m2 m3 m4 m5 m6
theorem Fb.wg {bd tw bl ab:av} {g s:V} {y:V} (h:Fb fs bd tw bl ab g s):Fb (aB "steepest" y fs) bd tw bl ab g y:=by
 have Lr:¬(("bound":Str) = "steepest"):=by decide +kernel
 have Ly:¬(("twice":Str) = "steepest"):=by decide +kernel
 have Lv:¬(("below":Str) = "steepest"):=by decide +kernel
 have Lp:¬(("above":Str) = "steepest"):=by decide +kernel
 have RO:¬(("gentlest":Str) = "steepest"):=by decide +kernel
 refine ⟨by rw [fP h.s];exact h.len,?_,?_,?_,?_,?_,?_,fun m m1 m2 m3 m4 m5 m6=>?_⟩
 ·rw [af,if_neg Lr];exact h.bd
 ·rw [af,if_neg Ly];exact h.tw
 ·rw [af,if_neg Lv];exact h.bl
 ·rw [af,if_neg Lp];exact h.ab
 ·rw [af,if_neg RO];exact h.g
 ·rw [af,if_pos rfl]
 ·rw [af,if_neg m6];exact h.no m m1 m2 m3 m4 m5 m6
theorem Fb.xO {fs:List (Str×V)} {bd tw bl ab:av} {g s:V} (h:Fb fs bd tw bl ab g s) (m:Str) (m1:m ≠ "bound":=by decide +kernel) (m2:m ≠ "twice":=by decide +kernel) (m3:m ≠ "below":=by decide +kernel) (m4:m ≠ "above":=by decide +kernel) (m5:m ≠ "gentlest":=by decide +kernel) (m6:m ≠ "steepest":=by decide +kernel):fs.lookup m=none:=h.no m m1 m2 m3 m4 m5 m6
def PC (p L M:av) (H:Hp):Hp:=rm p (rm L (rm M H))
theorem uP (h1:b≠p) (h2:b≠L) (h3:b≠M):PC p L M H b=H b:=by unfold PC;rw [mJ h1,mJ h2,mJ h3]
theorem Cg (h:PC p L M H b=some o):b≠p∧b≠L∧b≠M∧H b=some o:=by
 have h1:b≠p:=fun q=>by rw [q] at h;unfold PC rm at h;simp at h
 have h2:b≠L:=fun q=>by rw [q] at h;unfold PC rm at h;simp at h
 have h3:b≠M:=fun q=>by rw [q] at h;unfold PC rm at h;simp at h
 rw [uP h1 h2 h3] at h
 exact ⟨h1,h2,h3,h⟩
section
theorem bS.tv (t:∀{b:av} {xs:List V},H b=some 0#t→H' b=some 0#t) (f:bS H b q n):bS H' b q n:=let ⟨x,d,e,f⟩:=f;⟨x,d,t e,f⟩
theorem dF.tv (t:∀{b:av} {xs:List V},H b=some 0#t→H' b=some 0#t) (f:dF H b q n):dF H' b q n:=let ⟨x,d,e,f⟩:=f;⟨x,d,t e,f⟩
theorem iU.tv (t:∀{b:av} {xs:List V},H b=some 0#t→H' b=some 0#t) (f:iU H b q h n):iU H' b q h n:=let ⟨x,d,e,f1,f2⟩:=f;⟨x,d,t e,f1.tv t,f2.tv t⟩
theorem nW.tv (t:∀{b:av} {xs:List V},H b=some 0#t→H' b=some 0#t) (f:nW H x n):nW H' x n:=by
 obtain ⟨a,m,v⟩:=x
 cases v with
 | none=>exact ⟨f.1,t f.2⟩
 | some q=>
   obtain ⟨z,r,e,x,d,g,f⟩:=f
   exact ⟨z,r,t e,x,d,t g,f⟩
theorem Row.tv (t:∀{b:av} {xs:List V},H b=some 0#t→H' b=some 0#t) (f:Row H es n):Row H' es n:=fun x hx=>(f x hx).tv t
end
def OQ (H:Hp) (v:V) (N:Nat):Option Rat→Prop
 | none=>v=.bM
 | some G=>∃p,v=.ref p∧bS H p G N
theorem OQ.tv (t:∀{b:av} {xs:List V},H b=some 0#t→H' b=some 0#t) (f:OQ H v N g):OQ H' v N g:=by
 cases g with
 | none=>exact f
 | some G=>exact let ⟨p,e,f⟩:=f;⟨p,e,f.tv t⟩
def GO (ss:List En) (B:Rat) (fl ro:Nat):Option Rat→Prop
 | none=>∀q p,ro≤q→q<p→fl≤p→¬p<ss.length
 | some G=>GF ss B fl ro G
def SO (ss:List En) (B:Rat) (fl ro:Nat):Option Rat→Prop
 | none=>∀q p,fl≤q→q<p→ro≤p→¬p<ss.length
 | some S=>SF ss B fl ro S
structure AS (ss:List En) (fl ro:Nat) (β:Rat) (g s:Option Rat):Prop where
 all:iR ss
 DT:rising ss
 hfl:fl≤ss.length
 tN:ro≤ss.length
 lt:0<ss.length→fl<ss.length∧ro<ss.length
 go:GO ss (2*β) fl ro g
 so:SO ss (2*β) fl ro s
 le:∀G S,g=some G→s=some S→G≤S
 df:fl=ro→fl=0
structure Va (C:av) (H:Hp) (p Lb La:av) (ss:List En) (fl ro:Nat) (β:Rat) (n nb:Nat) (g s:Option Rat) (dx bd tw:av) (fs:List (Str×V)) (gv sv:V):Prop where
 at_:H p=some (.ins C dx fs)
 F:Fb fs bd tw Lb La gv sv
 eb:H Lb=some (.lst (vals (ss.drop fl)))
 ea:H La=some (.lst (vals (ss.drop ro)))
 ne:Lb≠La
 row:Row H ss n
 UZ:dF H bd β nb
 VD:bS H tw (2*β) (2*nb+1)
 G:OQ H gv (3*n+(2*nb+1)+3) g
 S:OQ H sv (3*n+(2*nb+1)+3) s
 P:AS ss fl ro β g s
def lF (C:av) (H:Hp) (p Lb La:av) (ss:List En) (fl ro:Nat) (β:Rat) (n nb:Nat) (g s:Option Rat):Prop:=∃dx bd tw fs gv sv,Va C H p Lb La ss fl ro β n nb g s dx bd tw fs gv sv
theorem Va.mv (h:Va C H p Lb La ss fl ro β n nb g s dx bd tw fs gv sv) (t:∀{b:av} {xs:List V},H b=some 0#t→H' b=some 0#t) (hp:H' p=H p) (h1:H' Lb=H Lb) (h2:H' La=H La):Va C H' p Lb La ss fl ro β n nb g s dx bd tw fs gv sv:=
 ⟨hp.trans h.at_,h.F,h1.trans h.eb,h2.trans h.ea,h.ne,h.row.tv t,h.UZ.tv t,h.VD.tv t,h.G.tv t,h.S.tv t,h.P⟩
theorem Va.up (h:Va C H p Lb La ss fl ro β n nb g s dx bd tw fs gv sv) (k:au H H'):Va C H' p Lb La ss fl ro β n nb g s dx bd tw fs gv sv:=
 h.mv (fun {b xs} e=>k _ _ e) ((k _ _ h.at_).trans h.at_.symm) ((k _ _ h.eb).trans h.eb.symm) ((k _ _ h.ea).trans h.ea.symm)
theorem lF.up (h:lF C H p Lb La ss fl ro β n nb g s) (k:au H H'):lF C H' p Lb La ss fl ro β n nb g s:=
 let ⟨dx,bd,tw,fs,gv,sv,h⟩:=h;⟨dx,bd,tw,fs,gv,sv,h.up k⟩
theorem AS.hiG (h:AS ss fl ro β g s) (e:g=some G):GF ss (2*β) fl ro G∧Vd ss (2*β) fl ro G:=by
 have go:=h.go
 have so:=h.so
 rw [e] at go
 refine ⟨go,?_⟩
 cases hs:s with
 | none=>
   rw [hs] at so
   exact fun q p a b c d=>absurd d (so q p a b c)
 | some S=>
   rw [hs] at so
   exact Vd.mono so.1 (h.le G S e hs)
theorem AS.loS (h:AS ss fl ro β g s) (e:s=some S):SF ss (2*β) fl ro S∧Ve ss (2*β) fl ro S:=by
 have go:=h.go
 have so:=h.so
 rw [e] at so
 refine ⟨so,?_⟩
 cases hs:g with
 | none=>
   rw [hs] at go
   exact fun q p a b c d=>absurd d (go q p a b c)
 | some G=>
   rw [hs] at go
   exact Ve.mono go.1 (h.le G S hs e)
inductive NK (vs:List V) (H:Hp) (Q:VK) (E_:XK):Prop where
 | mk (p:av) (q:Rat) (n:Nat):vs=[.ref p]→bS H p q n→(∀(r:av) (H':Hp),au H H'→bS H' r (-q) n→Q (.ref r) H')→NK vs H Q E_
inductive yI (vs:List V) (H:Hp) (Q:VK) (E_:XK):Prop where
 | mk (a b:V) (g s:Option Rat) (m n:Nat):vs=[a,b]→OQ H a m g→OQ H b n s→m+n≤100000→(∀r:Bool,(r=true↔∃G S,g=some G∧s=some S∧S<G)→Q (.bl r) H)→yI vs H Q E_
def Pw (T f l:Rat) (x:En):Bool:=decide (x.2.2.getD 0-(T*(x.2.1:Rat)+f)=l)
theorem uL (h:es[i]?=some x):Pw T f l x=true↔cR es T i-f=l:=by
 unfold Pw cR mo wo
 rw [Ub,h]
 show x.2.2.getD 0-(T*(x.2.1:Rat)+f)=l↔x.2.2.getD 0-T*(x.2.1:Rat)-f=l
 constructor
 ·intro h;rw [← h];grind
 ·intro h;rw [← h];grind
inductive tE (vs:List V) (H:Hp) (Q:VK) (E_:XK):Prop where
 | mk (l ln pb:av) (es:List En) (T f lam:Rat) (n M nb:Nat):vs=[.ref l,.ref ln,.ref pb]→H l=some (.lst (vals es))→Row H es n→iR es→iU H ln T f M→bS H pb lam nb→1≤n→n≤10000→M≤10000→nb≤10000→es.length≤900→(∀(R:av) (H':Hp),au H H'→H R=none→H' R=some (.lst (vals (es.filter (Pw T f lam))))→Q (.ref R) H')→tE vs H Q E_
section
theorem JC:aF ["one"] ["one"] (ah uV):=0#a
theorem Jp (F:cT K "opposite" "opposite" uV f fd):bf P w K mg base c7 1 f fd ["one"] NK:=by
 refine F.ok JC 0#f 0#b
 ·obtain ⟨p,q,n,rfl,_⟩:=h
  rfl
 obtain ⟨p,q,n,rfl,⟨a,b,hp,hq,za,zb⟩,k⟩:=h
 refine bI ⟨_,(aI (aU (bG (bC (eV cW (aJ K 0#l)) (aJ K 0#l))))),?_⟩
 rw?
 refine aE (mk:=.tup) 0#e fun p1 H1 s1 n1 e1=>?_
 exact k p1 H1 s1 ⟨_,_,e1,hq.neg,by unfold Sz at *;rw [Om];exact za,zb⟩
theorem DW:aF ["one","other"] ["one","other"] (ah pX):=0#a
theorem DL (F:cT K "is_steeper" "is_steeper" pX f fd) (cM:Dn P w K mg base 1 "order" ["one","other"] iO):bf P w K mg base c7 2 f fd ["one","other"] yI:=by
 refine F.ok DW 0#f 0#b
 ·obtain ⟨a,b,g,s,m,n,rfl,_⟩:=h
  rfl
 obtain ⟨a,b,g,s',m,n,rfl,ha,hb,hmn,k⟩:=h
 refine bI ⟨_,(aI (aU (Jd.Gy (tZ ir 0#l dH (aH _)) (Jd.Gy (tZ ir 0#r dH (aH _)) (Jd.LW (tZ dI (bY cM hr 0#l 0#r) aq (aH _))))))),?_⟩
 cases g with
 | none=>
   obtain rfl:a=.bM:=ha
   rw?
   refine ⟨rfl,_,rfl,bU ?_⟩
   exact k false ⟨fun z=>absurd z 0#i,fun ⟨_,_,e,_⟩=>by cases e⟩
 | some G=>
   obtain ⟨pa,rfl,fa⟩:=ha
   cases s' with
   | none=>
     obtain rfl:b=.bM:=hb
     rw?
     refine ⟨rfl,_,rfl,cu ?_⟩
     rw?
     refine ⟨rfl,_,rfl,bU ?_⟩
     exact k false ⟨fun z=>absurd z 0#i,fun ⟨_,_,_,e,_⟩=>by cases e⟩
   | some S=>
     obtain ⟨pb,rfl,fb⟩:=hb
     rw?
     refine ⟨rfl,_,rfl,cu ?_⟩
     rw?
     refine ⟨rfl,_,rfl,cu ?_⟩
     rw?
     refine ⟨pa,pb,G,S,m,n,rfl,fa,fb,hmn,fun o h1 h2=>?_⟩
     rw?
     refine k _ ⟨fun z=>⟨G,S,rfl,rfl,h1.mp (jM z)⟩,fun ⟨_,_,e1,e2,z⟩=>?_⟩
     cases e1
     cases e2
     exact jJ (h1.mpr z)
theorem Mt:aF ["samples","line","lift"] ["samples","line","lift"] (ah yu):=0#a
theorem LN (F:cT K "touched" "touched" yu f fd) (cM:Dn P w K mg base 1 "order" ["one","other"] iO) (qO:Dn P w K mg base 4 "loose_off" ["line","sample"] MC):bf P w K mg base c7 5 f fd ["samples","line","lift"] tE:=by
 refine F.ok Mt 0#f 0#b
 ·obtain ⟨l,ln,pb,es,T,f,lam,n,M,nb,rfl,_⟩:=h
  rfl
 obtain ⟨l,ln,pb,es,T,fo,lam,n,M,nb,rfl,hl,hR,hS,Xj,hpb,h1,hn,hM,hnb,mC,k⟩:=h
 refine bI ⟨_,(aI (aU (nh (O:=["sample"]) (N':=["lift","line" ]) (cap:=[2,1]) rfl (di K 0#l) (fun _ _ _ _ _=>(cg (i:=0) (show i8 [("sample":Str),("lift":Str),("line":Str)] by decide +kernel) rfl 0#m)) (fun _ _ _ _ _=>(tX (bF d7 (fN cM 0#A rfl (cO (fN qO 0#A rfl (cO 0#w (cO 0#l dY bK) bK) (he:=bK) (hpl:=(cD bK cB))) (cO 0#r dY bK) Ax) (he:=Ax) (hpl:=(cD bK cB))) aq (aH _)))) (fun _ _ _ _ _=>0#l) rfl ⟨⟨rfl,rfl,rfl,rfl⟩,0#u⟩ rfl 0#g rfl 0#g))),?_⟩
 rw?
 refine iw ?_
 rw?
 refine ⟨l,rfl,⟨_,aX.of hl⟩,?_⟩
 refine cC (xs:=vals es) bV (fun H3 s3=>aX.of (s3 _ _ hl)) (by rw [aO];try?) (fun i ys G=>ys=vals ((es.take i).filter (Pw T fo lam))) rfl ?_ ?_
 ·rintro D i x ys H3 jK N N0 h0 hD eD s3 hx hy rfl kY kN
  obtain ⟨e,he,rfl⟩:=gr hx
  have hi:i<es.length:=(lR.mp he).1
  obtain ⟨xi,gi,fi⟩:=cI (hR.up s3) hS hi
  rw [he] at gi
  cases gi
  have ts:=HJ (Pw T fo lam) es i e he
  refine fD h0 ?_
  rw?
  refine ⟨ln,e.1,T,fo,_,_,n,M,rfl,Xj.up s3,fi,h1,by try?,by try?,fun z H4 s4 f4=>?_⟩
  rw?
  refine ⟨z,pb,_,lam,_,nb,rfl,f4,hpb.up (s3.trans s4),by try?,fun o o1 o2=>?_⟩
  have key:o=0↔cR es T i-fo=lam:=by
   have e1:wo es i-(T*(mo es i:Rat)+fo)=cR es T i-fo:=by unfold cR;grind
   rw [e1] at o1 o2
   constructor
   ·intro h
    refine J8 (jm.mp fun z=>?_) (jm.mp fun z=>?_)
    ·have:=o1.mpr z;simp?
    ·have:=o2.mpr z;simp?
   ·intro h
    rw [h] at o1 o2
    have p1:¬0<o:=fun z=>Ut (o1.mp z)
    have p2:¬o<0:=fun z=>Ut (o2.mp z)
    simp?
  rw?
  cases hs:decide (o=0) with
  | true=>
    rw [(uL he).mpr (key.mp (jM hs)),if_pos rfl] at ts
    refine cu ?_
    rw?
    exact kY _ H4 s4 (by rw [ts,← fS])
  | false=>
    have:Pw T fo lam e=false:=gY.mpr fun z=>iH hs (key.mpr ((uL he).mp z))
    rw [this,if_neg dD,sG] at ts
    refine bU ?_
    exact kN H4 s4 (by rw [ts])
 ·rintro D ys H3 hD eD s3 hy rfl
  rw [aO,jH] at eD
  rw?
  exact k D H3 s3 hD eD
end
def Kp (F:av→Prop) (H H':Hp):Prop:=∀b o,¬F b→H b=some o→H' b=some o
theorem Kp.of (s:au H H'):Kp F H H':=fun b o _ e=>s b o e
theorem Kp.trans (h:Kp F H H') (h':Kp F H' H2):Kp F H H2:=fun b o n e=>h' b o n (h b o n e)
theorem Kp.upd (h:Kp F H H') (hF:F a):Kp F H (upd H' a o):=fun b u n e=>by
 rw [aM (show b≠a from fun q=>n (by rw [q];exact hF))]
 exact h b u n e
theorem Kp.sm (h:Kp F H H') (s:au H' H2):Kp F H H2:=h.trans (.of s)
theorem ND (f:Str) (v:V):∀fs:List (Str×V),(aB f v fs).length≤fs.length+1
 | []=>dz _
 | (g,y)::r=>by
   unfold aB
   split
   ·exact wO _
   ·exact HU (ND f v r)
def Ia (ss:List En) (β:Rat) (fl:Nat) (g s:Option Rat) (T f:Rat):Prop:=
 ((g=some T∨(g=none∧s=some T))∧(∀i,fl≤i→i<ss.length→cR ss T i-β≤f)∧∃i,fl≤i∧i<ss.length∧cR ss T i-β=f)∨(g=none∧s=none∧T=0∧f=wo ss fl)
inductive AN (C:av) (vs:List V) (H:Hp) (Q:VK) (E_:XK):Prop where
 | mk (p dx pb:av) (β:Rat) (n:Nat):vs=[.ref p,.ref pb]→H p=some (.ins C dx [])→dF H pb β n→n≤1000→(∀(Lb La:av) (H':Hp) (k:Nat),au (rm p H) H'→H Lb=none→H La=none→lF C H' p Lb La [] 0 0 β k n none none→Q .bM H')→AN C vs H Q E_
inductive sq (C:av) (vs:List V) (H:Hp) (Q:VK) (E_:XK):Prop where
 | mk (p Lb La pt:av) (ss:List En) (fl ro:Nat) (β T:Rat) (n nb:Nat) (g s:Option Rat):vs=[.ref p,.ref pt]→lF C H p Lb La ss fl ro β n nb g s→bS H pt T (3*n+(2*nb+1)+3)→0<ss.length→ss.length≤900→n≤1500→(5*n+4*nb≤7900∧nb≤1000)→(∀(r:av) (f:Rat) (H':Hp),au H H'→iU H' r T f (5*n+3*nb+7)→(∀i,fl≤i→i<ss.length→cR ss T i-β≤f)→(∃i,fl≤i∧i<ss.length∧cR ss T i-β=f)→Q (.ref r) H')→sq C vs H Q E_
inductive Tg (C:av) (vs:List V) (H:Hp) (Q:VK) (E_:XK):Prop where
 | mk (p Lb La x:av) (ss:List En) (fl ro:Nat) (m:Int) (q β G:Rat) (n nb:Nat) (s:Option Rat):vs=[.ref p,.ref x]→lF C H p Lb La ss fl ro β n nb (some G) s→iV H x m q n→(∀i,i<ss.length→mo ss i<m)→ss.length≤900→1≤n→n≤1500→(5*n+4*nb≤7900∧nb≤1000)→0≤β→(∃i,fl≤i∧i<ss.length∧q-G*(m:Rat)+2*β<cR ss G i)→(∀(r ln th Ba AZ:av) (f:Rat) (a b:Nat) (s':Option Rat) (H':Hp),au (PC p Lb La H) H'→D8 ss β fl ro m q G f a b→H' r=some (.tup [.ref ln,.ref th])→iU H' ln G f (5*n+3*nb+7)→H' th=some (.tup [.int (mo ss a),.int (mo ss b),.int m])→lF C H' p Ba AZ 0#C b ss.length β n nb none s'→H Ba=none→H AZ=none→Q (.ref r) H')→Tg C vs H Q E_
inductive Ti (C:av) (vs:List V) (H:Hp) (Q:VK) (E_:XK):Prop where
 | mk (p Lb La x:av) (ss:List En) (fl ro:Nat) (m:Int) (q β S:Rat) (n nb:Nat) (g:Option Rat):vs=[.ref p,.ref x]→lF C H p Lb La ss fl ro β n nb g (some S)→iV H x m q n→(∀i,i<ss.length→mo ss i<m)→ss.length≤900→1≤n→n≤1500→(5*n+4*nb≤7900∧nb≤1000)→0≤β→(∃i,ro≤i∧i<ss.length∧cR ss S i+2*β<q-S*(m:Rat))→(∀(r ln th Ba AZ:av) (f:Rat) (a b:Nat) (g':Option Rat) (H':Hp),au (PC p Lb La H) H'→D9 ss β fl ro m q S f a b→H' r=some (.tup [.ref ln,.ref th])→iU H' ln S f (5*n+3*nb+7)→H' th=some (.tup [.int (mo ss a),.int (mo ss b),.int m])→lF C H' p Ba AZ 0#C ss.length b β n nb g' none→H Ba=none→H AZ=none→Q (.ref r) H')→Ti C vs H Q E_
def E5 (ss:List En) (β:Rat) (fl ro:Nat) (g s:Option Rat) (m:Int) (q:Rat):Prop:=(∀G,g=some G→∀i,fl≤i→i<ss.length→cR ss G i≤q-G*(m:Rat)+2*β)∧(∀S,s=some S→∀i,ro≤i→i<ss.length→q-S*(m:Rat)≤cR ss S i+2*β)
inductive MG (C:av) (vs:List V) (H:Hp) (Q:VK) (E_:XK):Prop where
 | mk (p Lb La x:av) (ss:List En) (fl ro:Nat) (m:Int) (q β:Rat) (n nb:Nat) (g s:Option Rat):vs=[.ref p,.ref x]→lF C H p Lb La ss fl ro β n nb g s→iV H x m q n→(∀i,i<ss.length→mo ss i<m)→ss.length≤900→1≤n→n≤1500→(5*n+4*nb≤7900∧nb≤1000)→0≤β→(∀(g' s':Option Rat) (H':Hp),au (PC p Lb La H) H'→E5 ss β fl ro g s m q→lF C H' p Lb La 0#C fl ro β n nb g' s'→Q .bM H')→(∀(r ln th Ba AZ:av) (G f:Rat) (a b:Nat) (s':Option Rat) (H':Hp),au (PC p Lb La H) H'→g=some G→D8 ss β fl ro m q G f a b→H' r=some (.tup [.ref ln,.ref th])→iU H' ln G f (5*n+3*nb+7)→H' th=some (.tup [.int (mo ss a),.int (mo ss b),.int m])→lF C H' p Ba AZ 0#C b ss.length β n nb none s'→H Ba=none→H AZ=none→Q (.ref r) H')→(∀(r ln th Ba AZ:av) (S f:Rat) (a b:Nat) (g':Option Rat) (H':Hp),au (PC p Lb La H) H'→s=some S→¬(∃G,g=some G∧∃i,fl≤i∧i<ss.length∧q-G*(m:Rat)+2*β<cR ss G i)→D9 ss β fl ro m q S f a b→H' r=some (.tup [.ref ln,.ref th])→iU H' ln S f (5*n+3*nb+7)→H' th=some (.tup [.int (mo ss a),.int (mo ss b),.int m])→lF C H' p Ba AZ 0#C ss.length b β n nb g' none→H Ba=none→H AZ=none→Q (.ref r) H')→MG C vs H Q E_
inductive To (C:av) (vs:List V) (H:Hp) (Q:VK) (E_:XK):Prop where
 | mk (p Lb La:av) (ss:List En) (fl ro:Nat) (β:Rat) (n nb:Nat) (g s:Option Rat):vs=[.ref p]→lF C H p Lb La ss fl ro β n nb g s→ss.length≤900→1≤n→n≤1500→(5*n+4*nb≤7900∧nb≤1000)→(ss=[]→Q .bM H)→(0<ss.length→∀(r:av) (T f:Rat) (H':Hp),au H H'→iU H' r T f (5*n+3*nb+7)→Ia ss β fl g s T f→Q (.ref r) H')→To C vs H Q E_
theorem iU.JQ (f:iU H p s h n) (k:au H H'):iU H' p s h n:=f.tv fun {b xs} e=>k _ _ e
theorem Eg (lV:0≤β) (hr:rising ss) (g:GF ss (2*β) fl ro G) (hH:Vd ss (2*β) fl ro G) (lo:∀i,fl≤i→i<ss.length→cR ss G i-β≤f) (ex:∃i,fl≤i∧i<ss.length∧cR ss G i-β=f) :
 (∀i,ro≤i→i<ss.length→f≤cR ss G i+β)∧∃q p,ro≤q∧q<p∧fl≤p∧p<ss.length∧cR ss G q+β=f∧cR ss G p-β=f:=by
 obtain ⟨b,hb,lb,eb⟩:=ex
 have hi:∀i,ro≤i→i<ss.length→f≤cR ss G i+β:=fun i h l=>by
  have:=OD (by grind) hr g.1 hH h hb l lb
  grind
 refine ⟨hi,?_⟩
 obtain ⟨q,p,a1,a2,a3,a4,e⟩:=g.2
 have e':=(Ld hr a2 a4).mp e
 have l1:=lo p a3 a4
 have l2:=hi q a1 0#c
 exact ⟨q,p,a1,a2,a3,a4,by grind,by grind⟩
theorem Ej (lV:0≤β) (hr:rising ss) (g:SF ss (2*β) fl ro S) (hL:Ve ss (2*β) fl ro S) (lo:∀i,fl≤i→i<ss.length→cR ss S i-β≤f) (ex:∃i,fl≤i∧i<ss.length∧cR ss S i-β=f) :
 (∀i,ro≤i→i<ss.length→f≤cR ss S i+β)∧∃q p,fl≤q∧q<p∧ro≤p∧p<ss.length∧cR ss S q-β=f∧cR ss S p+β=f:=by
 obtain ⟨b,hb,lb,eb⟩:=ex
 have hi:∀i,ro≤i→i<ss.length→f≤cR ss S i+β:=fun i h l=>by
  have:=OD (by grind) hr hL g.1 h hb l lb
  grind
 refine ⟨hi,?_⟩
 obtain ⟨q,p,a1,a2,a3,a4,e⟩:=g.2
 have e':=(FO hr a2 a4).mp e
 have l1:=lo q a1 0#c
 have l2:=hi p a3 a4
 exact ⟨q,p,a1,a2,a3,a4,by grind,by grind⟩
theorem M5 {es:List En} (h:(es.drop j)[i]?=some x):es[j+i]?=some x:=by rw [← ly];exact h
theorem zI (h1:lo≤q) (h2:q<es.length) (e:cR es T q-f=l):∃a x,lo≤a∧a≤q∧es[a]?=some x∧((es.drop lo).filter (Pw T f l))[0]?=some x∧cR es T a-f=l:=by
 have gq:(es.drop lo)[q-lo]?=some es[q]:=by rw [ly,show lo+(q-lo)=q by simp?,mX h2]
 have pq:Pw T f l es[q]=true:=(uL (mX h2)).mpr e
 obtain ⟨a,x,g,px,e0,hn⟩:=Iq (Pw T f l) (es.drop lo) ⟨_,mY gq,pq⟩
 have g':=M5 g
 refine ⟨lo+a,x,by simp?,?_,g',e0,(uL g').mp px⟩
 by_cases z:q-lo<a
 ·have:=hn _ _ z gq
  rw [pq] at this
  cases this
 ·simp?
theorem CT (h1:lo≤q) (h2:q<es.length) (e:cR es T q-f=l):∃a x,q≤a∧a<es.length∧es[a]?=some x∧((es.drop lo).filter (Pw T f l))[((es.drop lo).filter (Pw T f l)).length-1]?=some x∧cR es T a-f=l∧∀i,a<i→i<es.length→cR es T i-f≠l:=by
 have gq:(es.drop lo)[q-lo]?=some es[q]:=by rw [ly,show lo+(q-lo)=q by simp?,mX h2]
 have pq:Pw T f l es[q]=true:=(uL (mX h2)).mpr e
 obtain ⟨a,x,g,px,e0,hn⟩:=Np (Pw T f l) (es.drop lo) ⟨_,mY gq,pq⟩
 have g':=M5 g
 refine ⟨lo+a,x,?_,(lR.mp g').1,g',e0,(uL g').mp px,fun i hi hl ei=>?_⟩
 ·by_cases z:a<q-lo
  ·have:=hn _ _ z gq
   rw [pq] at this
   cases this
  ·simp?
 ·have gi:(es.drop lo)[i-lo]?=some es[i]:=by rw [ly,show lo+(i-lo)=i by simp?,mX hl]
  have:=hn (i-lo) _ 0#c gi
  rw [(uL (mX hl)).mpr ei] at this
  cases this
theorem E7 (h:es[es.length-1]?=some x):pM (vals es) (-1)=some (.ref x.1):=by
 have hl:=(lR.mp h).1
 unfold pM
 rw [aO,pN (m:=es.length-1) 0#d]
 exact wK h
theorem AA (h:es[0]?=some x):pM (vals es) 0=some (.ref x.1):=gK (j:=0) (wK h)
theorem vW (h:rising ss) (hm:∀i,i<ss.length→mo ss i<m):rising 0#C:=Ce h hm
theorem AS.next (h:AS ss fl ro β g s) (lV:0≤β) (hm:∀i,i<ss.length→mo ss i<m) (gG:GF 0#C (2*β) fl ro G') (sS:SF 0#C (2*β) fl ro S')
 (n1:¬ ∃G S,g=some G∧some S'=some S∧S<G) (n2:¬ ∃G S,some G'=some G∧s=some S∧S<G):AS 0#C fl ro β (some G') (some S')∧E5 ss β fl ro g s m q:=by
 have hr:=vW (x:=x) (q:=q) h.DT hm
 have k1:∀G,g=some G→G≤S':=fun G e=>jm.mp fun z=>n1 ⟨G,S',e,rfl,z⟩
 have k2:∀S,s=some S→G'≤S:=fun S e=>jm.mp fun z=>n2 ⟨G',S,rfl,e,z⟩
 have hfl:=h.hfl
 have tN:=h.tN
 refine ⟨⟨oJ h.all,hr,by rw [iE];simp?,by rw [iE];simp?,fun _=>by rw [iE];simp?,gG,sS,?_,h.df⟩,fun G e i hi hl=>?_,fun S e i hi hl=>?_⟩
 ·intro G S e1 e2
  cases e1
  cases e2
  refine Vm (by grind) hr gG sS (fun i j a b c d=>?_) (fun i j a b c d=>?_)
  ·have go:=h.go
   cases hg:g with
   | none=>rw [hg] at go;exact absurd d (go i j a b c)
   | some G0=>rw [hg] at go;exact yS (go.1 i j a b c d) (k1 G0 hg)
  ·have so:=h.so
   cases hs:s with
   | none=>rw [hs] at so;exact absurd d (so i j a b c)
   | some S0=>rw [hs] at so;exact yS (k2 S0 hs) (so.1 i j a b c d)
 ·refine jm.mp fun z=>?_
  exact absurd ((Fe hr sS (h.hiG e).2 tN).mpr ⟨i,hi,hl,z⟩) (jm.mpr (k1 G e))
 ·refine jm.mp fun z=>?_
  exact absurd ((M0 hr gG (h.loS e).2 hfl).mpr ⟨i,hi,hl,z⟩) (jm.mpr (k2 S e))
section
theorem G9:aF ["self","bound"] ["self","bound"] (ah rF):=0#a
theorem Gf (F:cT K "__init__" "Bend.__init__" rF f fd) (aQ:Cl K mg "Bend" aC ["bound","twice","below","above","gentlest","steepest"]) (pI:Dn P w K mg base 5 "plus" ["one","other"] (qh (·+·) 1)):bf P w K mg base c7 6 f fd ["self","bound"] (AN aC):=by
 refine F.ok G9 0#f 0#b
 ·obtain ⟨p,dx,pb,β,n,rfl,_⟩:=h
  rfl
 obtain ⟨p,dx,pb,β,n,rfl,hp,hb,hn,k⟩:=h
 have lp:∀(f:Str) (v:V) (fs:List (Str×V)),fs.length≤(aB f v fs).length:=by
  intro f v fs
  induction fs with
  | nil=>exact mW _
  | cons x r ih=>
    obtain ⟨g,y⟩:=x
    unfold aB
    split
    ·exact dz _
    ·exact HU ih
 have Fp:∀{H H':Hp} {fs:List (Str×V)} {b:av} {xs:List V},Kp (·=p) H H'→H p=some (.ins aC dx fs)→H b=some 0#t→H' b=some 0#t:=fun h hp e=>h _ _ (fun z=>by rw [z,hp] at e;cases e) e
 refine bI ⟨_,(ao (iA K 0#l 0#r) (ao (iA K 0#l (bY pI hr 0#r 0#r)) (ao (iA K 0#l (dg dY)) (ao (iA K 0#l (dg dY)) (ao (iA K 0#l dH) (aI (iA K 0#l dH))))))),?_⟩
 rw?
 refine zE aQ hp (by show 0<1000;decide) ?_
 have k1:Kp (·=p) H (upd H p (.ins aC dx (aB "bound" (.ref pb) []))):=(Kp.of (au.refl _)).upd rfl
 have hb1:=hb.tv (Fp k1 hp)
 have hp1:upd H p (.ins aC dx (aB "bound" (.ref pb) [])) p=some (.ins aC dx (aB "bound" (.ref pb) [])):=aA
 generalize upd H p (.ins aC dx (aB "bound" (.ref pb) []))=H1 at *
 rw?
 refine ⟨pb,pb,β,β,n,n,rfl,hb1.qt,hb1.qt,by try?,fun tw H2 s2 f2=>?_⟩
 have k2:=k1.sm s2
 have hp2:=s2 _ _ hp1
 have hb2:=hb1.up s2
 rw?
 have F6:=fun Lb La=>(Fb.init pb tw Lb La .bM .bM).len
 refine zE aQ hp2 (by have:=F6 pb pb;have:=lp "twice" (.ref tw) (aB "bound" (.ref pb) []);have:(aB "bound" (.ref pb) ([]:List (Str×V))).length=1:=rfl;try?) ?_
 have k3:Kp (·=p) H (upd H2 p (.ins aC dx 0#q)):=k2.upd rfl
 have k23:Kp (·=p) H2 (upd H2 p (.ins aC dx 0#q)):=(Kp.of (au.refl _)).upd rfl
 have hb3:=hb2.tv (Fp k23 hp2)
 have f3:=f2.tv (Fp k23 hp2)
 have hp3:upd H2 p (.ins aC dx 0#q) p=some (.ins aC dx 0#q):=aA
 generalize upd H2 p (.ins aC dx 0#q)=H3 at *
 rw?
 refine aE (mk:=.lst) 0#e fun Lb H4 s4 n4 e4=>?_
 have k4:=k3.sm s4
 have hp4:=s4 _ _ hp3
 have nb0:H Lb=none:=by
  cases g:H Lb with
  | none=>rfl
  | some o=>
    by_cases z:Lb=p
    ·rw [z,hp3] at n4;cases n4
    ·rw [k3 _ _ z g] at n4;cases n4
 have RN:Lb≠p:=fun z=>by rw [z,hp3] at n4;cases n4
 rw?
 refine zE aQ hp4 (by have z1:=ND "twice" (.ref tw) (aB "bound" (.ref pb) []);have z2:(aB "bound" (.ref pb) ([]:List (Str×V))).length=1:=rfl;try?) ?_
 have k45:Kp (·=p) H4 (upd H4 p (.ins aC dx (aB "below" (.ref Lb) 0#q))):=(Kp.of (au.refl _)).upd rfl
 have hb5:=(hb3.up s4).tv (Fp k45 hp4)
 have f5:=(f3.up s4).tv (Fp k45 hp4)
 have e5:=k45 _ _ RN e4
 have k5:=k4.trans k45
 have hp5:upd H4 p (.ins aC dx (aB "below" (.ref Lb) 0#q)) p=some (.ins aC dx (aB "below" (.ref Lb) 0#q)):=aA
 generalize upd H4 p (.ins aC dx (aB "below" (.ref Lb) 0#q))=H5 at *
 rw?
 refine aE (mk:=.lst) 0#e fun La H6 s6 n6 e6=>?_
 have k6:=k5.sm s6
 have hp6:=s6 _ _ hp5
 have na0:H La=none:=by
  cases g:H La with
  | none=>rfl
  | some o=>
    by_cases z:La=p
    ·rw [z,hp5] at n6;cases n6
    ·rw [k5 _ _ z g] at n6;cases n6
 have nMp:La≠p:=fun z=>by rw [z,hp5] at n6;cases n6
 have ne:Lb≠La:=fun z=>by rw [← z,e5] at n6;cases n6
 have F:=Fb.init pb tw Lb La .bM .bM
 have l0:=F.len
 have l1:=lp "steepest" .bM (aB "gentlest" .bM (aB "above" (.ref La) (aB "below" (.ref Lb) 0#q)))
 have l2:=lp "gentlest" .bM (aB "above" (.ref La) (aB "below" (.ref Lb) 0#q))
 have l3:=lp "above" (.ref La) (aB "below" (.ref Lb) 0#q)
 rw?
 refine zE aQ hp6 0#d ?_
 rw?
 refine zE aQ aA 0#d ?_
 rw?
 refine zE aQ aA 0#d ?_
 rw?
 rw [qo,qo]
 have k67:Kp (·=p) H6 (upd H6 p (.ins aC dx (aB "steepest" .bM (aB "gentlest" .bM (aB "above" (.ref La) (aB "below" (.ref Lb) 0#q)))))):=(Kp.of (au.refl _)).upd rfl
 have k7:=k6.trans k67
 refine k Lb La _ 0 (fun b o e=>?_) nb0 na0 ⟨dx,pb,tw,_,.bM,.bM,aA,F,k67 _ _ RN (s6 _ _ e5),k67 _ _ nMp e6,ne,fun x hx=>absurd hx 0#e,(hb5.up s6).tv (Fp k67 hp6),?_,rfl,rfl,⟨fun x hx=>absurd hx 0#e,List.Pairwise.nil,dz _,dz _,fun z=>absurd z 0#e,fun q p _ _ _ z=>absurd z 0#e,fun q p _ _ _ z=>absurd z 0#e,fun _ _ e=>(by cases e),fun _=>rfl⟩⟩
 ·by_cases hb':b=p
  ·rw [hb'] at e
   unfold rm at e
   rw [if_pos rfl] at e
   cases e
  ·rw [mJ hb'] at e
   exact k7 _ _ hb' e
 ·have:=((f5.up s6).tv (Fp k67 hp6)).qt
  have Z8:(2*β:Rat)=β+β:=by grind
  rw [Z8]
  exact this.mono 0#d
theorem in_of {rs:Qs} (hm:rs.map (·.2)=(fu N).map h):(∀i,i<N→∃x∈rs,x.2=h i)∧(∀x∈rs,∃i,i<N∧h i=x.2):=by
 constructor
 ·intro i hi
  have:h i∈rs.map (·.2):=by rw [hm];exact gP.mpr ⟨i,qH.mpr hi,rfl⟩
  obtain ⟨x,hx,e⟩:=gP.mp this
  exact ⟨x,hx,e⟩
 ·intro x hx
  have:x.2∈rs.map (·.2):=gP.mpr ⟨x,hx,rfl⟩
  rw [hm] at this
  obtain ⟨i,hi,e⟩:=gP.mp this
  exact ⟨i,qH.mp hi,e⟩
theorem dQ (h:iR es):iR (es.drop j):=fun x hx=>h x (JX hx)
theorem fQ (h:Row H es n):Row H (es.drop j) n:=fun x hx=>h x (JX hx)
theorem W3:Sz n 0:=Uo n
theorem kZ:aF ["self","steep","told","lows"] ["self","steep"] (ah mL):=0#a
theorem Ai (F:cT K "line_of" "Bend.line_of" mL f fd) (aQ:Cl K mg "Bend" aC ["bound","twice","below","above","gentlest","steepest"]) (bE:Dn P w K mg base 4 "reduced" ["quotient"] fR) (ck:Dn P w K mg base 3 "loose_along" ["steep","sample","moment"] oX) (aS:Dn P w K mg base 1 "loose_minus" ["one","other"] (iB (·-·) 1)) (c8:Dn P w K mg base 2 "greatest" ["quotients"] tu):bf P w K mg base c7 5 f fd ["self","steep"] (sq aC):=by
 refine F.ok kZ 0#f 0#b
 ·obtain ⟨p,Lb,La,pt,ss,fl,ro,β,T,n,nb,g,s,rfl,_⟩:=h
  rfl
 obtain ⟨p,Lb,La,pt,ss,fl,ro,β,T,n,nb,g,s',rfl,⟨dx,bd,tw,fs,gv,sv,hB⟩,ht,h0,mC,hn,hnb,k⟩:=h
 have hlt:=(hB.P.lt h0).1
 have ld:(ss.drop fl).length=ss.length-fl:=iP ..
 refine bI ⟨_,(ao (kj (i:=2) kZ.nd rfl (Or.inr rfl) (Jd.c1 bE hr 0#r) (hs:=dM)) (ao (qy (O:=["sample"]) (N':=["told","self" ]) (cap:=[2,0]) (i:=3) kZ.nd rfl 0#m rfl (di K (eK K 0#l)) (fun _ _ _ _ _=>(cg (i:=0) (show i8 [("sample":Str),("told":Str),("self":Str)] by decide +kernel) rfl 0#m)) (fun _ _ _ _ _=>lC) (fun _ _ _ _ _=>(fN aS 0#A rfl (cO (fN ck 0#A rfl (cO 0#r (cO 0#l (cO aq dY i6) bK) bK) (he:=bK) (hpl:=(cD bK (cD i6 cB)))) (cO (eK K 0#w) dY) Ax) (he:=Ax) (hpl:=(cD (by rfl) cB)))) rfl ⟨⟨rfl,rfl,rfl,rfl⟩,0#u⟩ rfl 0#g rfl 0#g (by rfl)) (aI (aU (bG (bC 0#w (Jd.c1 bE hr (Jd.c1 c8 hr (aa 3))))))))),?_⟩
 rw?
 refine ⟨pt,T,_,rfl,ht,by try?,fun to H1 s1 f1=>?_⟩
 rw?
 refine iw ?_
 rw?
 refine jI aQ (s1 _ _ hB.at_) hB.F.bl ?_
 refine ⟨Lb,rfl,⟨_,aX.of (s1 _ _ hB.eb)⟩,?_⟩
 refine cC (xs:=vals (ss.drop fl)) bV (fun H3 s3=>aX.of (s3 _ _ (s1 _ _ hB.eb))) (by rw [aO];try?) (fun i ys G'=>∃rs:Qs,ys=cY rs∧vh G' rs (5*n+3*nb+7)∧rs.map (·.2)=(fu i).map (fun j=>cR (ss.drop fl) T j-β)) ⟨[],rfl,fun z hz=>absurd hz 0#e,rfl⟩ ?_ ?_
 ·rintro D i v ys H3 jK N N0 h0' hD eD s3 hv hy ⟨rs,rfl,hrs,hmap⟩ kY kN
  obtain ⟨e,he,rfl⟩:=gr hv
  have hi:i<(ss.drop fl).length:=(lR.mp he).1
  obtain ⟨xi,gi,fi⟩:=cI (fQ (hB.row.up (s1.trans s3))) (dQ hB.P.all) hi
  rw [he] at gi
  cases gi
  refine fD h0' ?_
  rw?
  refine cu ?_
  rw?
  refine ⟨to,e.1,T,_,_,0,_,n,rfl,(f1.up s3).qt,fi,W3,by try?,by try?,fun x H4 s4 f4=>?_⟩
  rw?
  refine jI aQ ((s1.trans (s3.trans s4)) _ _ hB.at_) hB.F.bd ?_
  rw?
  refine ⟨x,bd,_,β,_,nb,rfl,f4,(hB.UZ.up (s1.trans (s3.trans s4))).qt,by try?,fun x5 H5 s5 f5=>?_⟩
  refine kY _ H5 (s4.trans s5) ⟨rs++[(x5,cR (ss.drop fl) T i-β)],by simp [cY],fun y hy'=>?_,?_⟩
  ·rcases dN.mp hy' with w | w
   ·exact (hrs y w).up (rE (s4.trans s5))
   ·obtain rfl:y=(x5,cR (ss.drop fl) T i-β):=by simpa using w
    have e1:wo (ss.drop fl) i+T*((0-mo (ss.drop fl) i:Int):Rat)-β=cR (ss.drop fl) T i-β:=by
     unfold cR
     rw [qG]
     grind
    have f5:bS H5 x5 (wo (ss.drop fl) i+T*((0-mo (ss.drop fl) i:Int):Rat)-β) _:=f5
    rw [e1] at f5
    obtain ⟨t,d,e',ff⟩:=f5.mono (show 3*n+(2*nb+1)+3+2*n+2+nb+1≤5*n+3*nb+7 by try?)
    exact ⟨t,d,d9 ((s4.trans s5) _ _ eD) e',ff⟩
  ·rw [i9,hmap,vd,i9]
   rfl
 rintro D ys H3 hD eD s3 hy ⟨rs,rfl,hrs,hmap⟩
 rw [aO] at hmap
 have hlen:rs.length=(ss.drop fl).length:=by
  have:=congrArg tT hmap
  simpa using this
 obtain ⟨inR,RU⟩:=in_of hmap
 rw?
 refine ⟨D,rs,5*n+3*nb+7,rfl,eD,fun x hx=>(hrs x hx).up gO,by try?,by try?,fun mx Qa tM=>?_⟩
 rw?
 refine ⟨mx.1,mx.2,_,rfl,(hrs mx Qa).up gO,by try?,fun r4 H4 s4 f4=>?_⟩
 rw?
 refine aE (mk:=.tup) 0#e fun y H5 s5 n5 e5=>?_
 refine k y mx.2 H5 (s1.trans (s3.trans (s4.trans s5))) ⟨to,r4,e5,(f1.up (s3.trans (s4.trans s5))).mono 0#d,f4.up s5⟩ (fun i hi hl=>?_) ?_
 ·obtain ⟨x,hx,e⟩:=inR (i-fl) 0#d
  have:=tM x hx
  rw [e,I0,show fl+(i-fl)=i by try?] at this
  exact this
 ·obtain ⟨i,hi,e⟩:=RU mx Qa
  exact ⟨fl+i,by try?,by try?,by rw [← I0];exact e⟩
theorem fh:aF ["self","sample","line","first","mid"] ["self","sample"] (ah iF):=0#a
theorem rz (F:cT K "ended_in_cap" "Bend.ended_in_cap" iF f fd) (aQ:Cl K mg "Bend" aC ["bound","twice","below","above","gentlest","steepest"]) (cG:Dm P w K mg base 5 aC "line_of" ["self","steep"] (sq aC)) (jf:Dn P w K mg base 5 "touched" ["samples","line","lift"] tE) (jP:Dn P w K mg base 1 "opposite" ["one"] NK) (cN:Dn P w K mg base 4 "steepest_with" ["known","earlier","sample","twice"] wG):bf P w K mg base c7 6 f fd ["self","sample"] (Tg aC):=by
 refine F.ok fh 0#f 0#b
 ·obtain ⟨p,Lb,La,x,ss,fl,ro,m,q,β,G,n,nb,s,rfl,_⟩:=h
  rfl
 obtain ⟨p,Lb,La,x,ss,fl,ro,m,q,β,G,n,nb,s',rfl,⟨dx,bd,tw,fs,gv,sv,hB⟩,hx,hm,mC,h1,hn,hnb,lV,hoff,k⟩:=h
 have h0:0<ss.length:=by obtain ⟨i,_,hi,_⟩:=hoff;try?
 obtain ⟨hfl,tN⟩:=hB.P.lt h0
 obtain ⟨pg,rfl,fg⟩:=id hB.G
 obtain ⟨gG,hG⟩:=hB.P.hiG rfl
 have DT:=hB.P.DT
 refine bI ⟨_,(ao (aK 2 fh.nd (Jd.vQ cG aQ.cl 0#A 0#l (dG (eK K 0#l)) (he:=(by rfl)) (hpl:=cB))) (ao (aK 3 fh.nd (Jd.iL K (Jd.c3 jf hr (eK K 0#l) 0#w (Jd.c1 jP hr (eK K 0#l))))) (ao (kj (i:=4) fh.nd rfl (Or.inr rfl) (bD (fK K) (Jd.c3 jf hr (eK K 0#l) 0#w (eK K 0#l)) (eV cW aq) 0#h) (hs:=MI)) (ao (iA K 0#l (nh (O:=["other"]) (N':=["mid"]) (cap:=[4]) rfl (di K (eK K 0#l)) (fun _ _ _ _ _=>(cg (i:=0) (show i8 [("other":Str),("mid":Str)] by decide +kernel) rfl 0#m)) (fun _ _ _ _ _=>(tX (bF Sf (bD (Et K) 0#l aq 0#h) (bD (Et K) 0#r aq 0#h) (aH _)))) (fun _ _ _ _ _=>0#l) rfl 0#u rfl 0#g rfl 0#g)) (ao (iA K 0#l (fN cN 0#A rfl (Jd.a4 dH (eK K 0#l) 0#r (eK K 0#l)) (he:=i6) (hpl:=(cD (by rfl) (cD bK (cD (by rfl) cB)))))) (ao (iA K 0#l dH) (ao (dZ (fZ K (eK K 0#l) 0#r) (hs:=dM)) (ao (iA K 0#l (dg (dG 0#r))) (aI (aU (bG (bC 0#w (bG (Jd.a3 (aJ K (aa 3)) (aJ K (aa 4)) (aJ K 0#r))))))))))))))),?_⟩
 rw?
 refine Qg hB.at_ (hB.F.xO "line_of") ?_
 rw?
 refine jI aQ hB.at_ hB.F.g ?_
 rw?
 refine ⟨p,Lb,La,pg,ss,fl,ro,β,G,n,nb,some G,s',rfl,⟨dx,bd,tw,fs,_,sv,hB⟩,fg,h0,mC,hn,hnb,fun ln fo H1 s1 f1 lo ex=>?_⟩
 obtain ⟨hi,q0,p0,a1,a2,a3,a4,eq0,ep0⟩:=Eg lV DT gG hG lo ex
 have uF:=hB.up s1
 rw?
 refine jI aQ uF.at_ hB.F.ab ?_
 rw?
 refine jI aQ uF.at_ hB.F.bd ?_
 rw?
 refine ⟨bd,β,nb,rfl,uF.UZ.qt,fun ob H2 s2 f2=>?_⟩
 have hB2:=uF.up s2
 rw?
 refine ⟨La,ln,ob,ss.drop ro,G,fo,-β,n,_,nb,rfl,hB2.ea,fQ hB2.row,dQ hB.P.all,f1.JQ s2,f2,h1,by try?,by try?,by try?,by rw [iP];try?,fun R3 H3 s3 n3 e3=>?_⟩
 have Eo:=hB2.up s3
 obtain ⟨a,xa,b1,b2,ga,g0,ea⟩:=zI (l:=-β) (f:=fo) a1 0#d (show cR ss G q0-fo=-β by grind)
 obtain ⟨xa',ga',fa⟩:=cI (Eo.row) hB.P.all (show a<ss.length by try?)
 rw [ga] at ga'
 cases ga'
 rw?
 refine cA e3 (AA g0) ?_
 rw?
 refine jI aQ Eo.at_ hB.F.bl ?_
 rw?
 refine jI aQ Eo.at_ hB.F.bd ?_
 rw?
 refine ⟨Lb,ln,bd,ss.drop fl,G,fo,β,n,_,nb,rfl,Eo.eb,fQ Eo.row,dQ hB.P.all,f1.JQ (s2.trans s3),Eo.UZ.qt,h1,by try?,by try?,by try?,by rw [iP];try?,fun R4 H4 s4 n4 e4=>?_⟩
 have Ep:=Eo.up s4
 have vg:=s1.trans (s2.trans (s3.trans s4))
 obtain ⟨b,xb,c1,c2,gb,g1,eb,fb⟩:=CT (l:=β) (f:=fo) a3 a4 (show cR ss G p0-fo=β by grind)
 obtain ⟨xb',gb',fxb⟩:=cI Ep.row hB.P.all c2
 rw [gb] at gb'
 cases gb'
 obtain ⟨vb,evb,_⟩:=id fxb
 obtain ⟨va,eva,_⟩:=id (fa.up s4)
 have mb:xb.2.1=mo ss b:=by unfold mo;rw [gb];rfl
 have gdb:(ss.drop fl)[b-fl]?=some xb:=by rw [ly,show fl+(b-fl)=b by try?];exact gb
 have edb:(ss.drop fl).filter (fun y=>decide (xb.2.1≤y.2.1))=ss.drop b:=by
  rw [M6 (yX DT) gdb,Y9,show fl+(b-fl)=b by try?]
 rw?
 refine cA e4 (E7 g1) ?_
 rw?
 refine iw ?_
 rw?
 refine jI aQ Ep.at_ hB.F.bl ?_
 refine ⟨Lb,rfl,⟨_,aX.of Ep.eb⟩,?_⟩
 refine cC (xs:=vals (ss.drop fl)) bV (fun H5 s5=>aX.of (s5 _ _ Ep.eb)) (by rw [aO,iP];try?) (fun i ys _=>ys=vals (((ss.drop fl).take i).filter (fun y=>decide (xb.2.1≤y.2.1)))) rfl ?_ ?_
 ·rintro D i v ys H5 jK N N0 h0' hD eD s5 hv hy rfl kY kN
  obtain ⟨e,he,rfl⟩:=gr hv
  have hi:i<(ss.drop fl).length:=(lR.mp he).1
  obtain ⟨xi,gi,⟨vi,ei,_⟩⟩:=cI (fQ (Ep.row.up s5)) (dQ hB.P.all) hi
  rw [he] at gi
  cases gi
  have me:mo (ss.drop fl) i=e.2.1:=by unfold mo;rw [he];rfl
  have ts:=HJ (fun y:En=>decide (xb.2.1≤y.2.1)) (ss.drop fl) i e he
  have aeE:=s5 _ _ evb
  refine fD h0' ?_
  rw?
  cases hs:decide (xb.2.1≤e.2.1) with
  | true=>
    rw [hs,if_pos rfl] at ts
    have hs':=jM hs
    rw [show decide (mo ss b≤mo (ss.drop fl) i)=true from jJ (by rw [me,← mb];exact hs')]
    refine cu ?_
    rw?
    exact kY _ H5 (au.refl _) (by rw [ts,← fS])
  | false=>
    rw [hs,if_neg dD,sG] at ts
    have hs':=iH hs
    rw [show decide (mo ss b≤mo (ss.drop fl) i)=false from qu (by rw [me,← mb];exact hs')]
    refine bU ?_
    exact kN H5 (au.refl _) (by rw [ts])
 rintro D ys H5 hD eD s5 hy rfl
 rw [aO,jH,edb] at eD
 have KN:=Ep.up s5
 have JB:=vg.trans s5
 have nD:H D=none:=by
  cases g:H D with
  | none=>rfl
  | some o=>rw [vg _ _ g] at hD;cases hD
 have Wd:D≠p:=fun z=>by rw [z,hB.at_] at nD;cases nD
 have fl0:=hB.F.len
 rw?
 refine zE aQ KN.at_ 0#d ?_
 have kd:Kp (fun b=>b=p) H5 (upd H5 p (.ins aC dx (aB "below" (.ref D) fs))):=(Kp.of (au.refl _)).upd rfl
 have Vy:upd H5 p (.ins aC dx (aB "below" (.ref D) fs)) p=some (.ins aC dx (aB "below" (.ref D) fs)):=aA
 have k6:Kp (fun b=>b=p∨b=D) H (upd H5 p (.ins aC dx (aB "below" (.ref D) fs))):=(Kp.of JB).upd (.inl rfl)
 have eD6:=kd _ _ Wd eD
 have tp:∀{b:av} {xs:List V},H5 b=some 0#t→upd H5 p (.ins aC dx (aB "below" (.ref D) fs)) b=some 0#t:=fun e=>kd _ _ (fun z=>by rw [z,KN.at_] at e;cases e) e
 have SJ:=(KN.row).tv tp
 have hx6:=((hx.up JB).en.tv tp).sa
 have Q5:=KN.VD.tv tp
 have aag:=KN.UZ.tv tp
 have aaj:=(f1.JQ (s2.trans (s3.trans (s4.trans s5)))).tv tp
 have aad:=tp (s5 _ _ eva)
 have aae:=tp (s5 _ _ evb)
 generalize upd H5 p (.ins aC dx (aB "below" (.ref D) fs))=H6 at *
 have F6:=hB.F.Tc (y:=D)
 have l6:=F6.len
 rw?
 refine jI aQ Vy F6.bl ?_
 rw?
 refine jI aQ Vy F6.tw ?_
 rw?
 have ldb:(ss.drop b).length=ss.length-b:=iP ..
 refine ⟨.bM,D,x,tw,ss.drop b,m,q,2*β,n,2*nb+1,rfl,eD6,fQ SJ,dQ hB.P.all,hx6,Q5,by try?,by try?,by try?,fun i hi=>by rw [nB];exact hm _ 0#d,.inl rfl,fun z=>absurd z 0#d,fun _ ps S H7 s7 f7 _ hall hex=>?_⟩
 have sS:SF 0#C (2*β) b ss.length S:=Te (s:=none) (fun _ e=>by cases e) (fun _ i j _ _ z=>by try?) (dz _) hall (by
  rcases hex with z | ⟨pk,e,_⟩
  ·exact .inl z
  ·cases e)
 rw?
 have Xe:=s7 _ _ Vy
 refine zE aQ Xe 0#d ?_
 rw?
 refine zE aQ aA (by rw [fP F6.s];try?) ?_
 rw?
 refine jI aQ aA F6.wg.we.bl ?_
 rw?
 rw [qo]
 have k8:Kp (fun b=>b=p∨b=D) H (upd H7 p (.ins aC dx 0#k)):=(k6.sm s7).upd (.inl rfl)
 have ep8:upd H7 p (.ins aC dx 0#k) p=some (.ins aC dx 0#k):=aA
 have k78:Kp (fun b=>b=p) H7 (upd H7 p (.ins aC dx 0#k)):=(Kp.of (au.refl _)).upd rfl
 have UW:=k78 _ _ Wd (s7 _ _ eD6)
 have tp8:∀{b:av} {xs:List V},H6 b=some 0#t→upd H7 p (.ins aC dx 0#k) b=some 0#t:=fun e=>k78 _ _ (fun z=>by rw [z,Vy] at e;cases e) (s7 _ _ e)
 have f8:bS (upd H7 p (.ins aC dx 0#k)) ps S (3*n+(2*nb+1)+3):=f7.tv fun {b xs} e=>k78 _ _ (fun z=>by rw [z,Xe] at e;cases e) e
 generalize upd H7 p (.ins aC dx 0#k)=H8 at *
 have F8:=F6.wg (y:=.ref ps) |>.we (y:=.bM)
 refine ⟨.inl ⟨rfl,_,aX.of UW⟩,?_⟩
 rw?
 refine cz UW (by rw [aO];exact aN 0#d) ?_
 have k9:Kp (fun b=>b=p∨b=D) H (upd H8 D (.lst (vals (ss.drop b)++[.ref x]))):=k8.upd (.inr rfl)
 have ep9:upd H8 D (.lst (vals (ss.drop b)++[.ref x])) p=some (.ins aC dx 0#k):=by rw [aM (jn Wd)];exact ep8
 have eD9:upd H8 D (.lst (vals (ss.drop b)++[.ref x])) D=some (.lst (vals ((ss++[(x,m,some q)]).drop b))):=by
  rw [aA,PZ 0#d,← fS]
 have tp9:∀{b':av} {xs:List V},H8 b'=some 0#t→upd H8 D (.lst (vals (ss.drop b)++[.ref x])) b'=some 0#t:=fun e=>by rw [aM (fun z=>by rw [z,UW] at e;cases e)];exact e
 generalize upd H8 D (.lst (vals (ss.drop b)++[.ref x]))=H9 at *
 rw?
 refine aE (mk:=.lst) 0#e fun M tU oV xq Di=>?_
 have nM:H M=none:=by
  cases g:H M with
  | none=>rfl
  | some o=>
    by_cases z:M=p
    ·rw [z,ep9] at xq;cases xq
    ·by_cases z2:M=D
     ·rw [z2,eD9] at xq;cases xq
     ·rw [k9 _ _ (fun u=>by rcases u with u | u;exact z u;exact z2 u) g] at xq;cases xq
 have nMp:M≠p:=fun z=>by rw [z,hB.at_] at nM;cases nM
 have nMD:D≠M:=fun z=>by rw [← z,eD9] at xq;cases xq
 rw?
 have l8:=F8.len
 refine zE aQ (oV _ _ ep9) 0#d ?_
 have F11:=F8.S9 (y:=M)
 have k11:Kp (fun b=>b=p∨b=D) H (upd tU p (.ins aC dx (aB "above" (.ref M) 0#k))):=(k9.sm oV).upd (.inl rfl)
 have aab:upd tU p (.ins aC dx (aB "above" (.ref M) 0#k)) p=some (.ins aC dx (aB "above" (.ref M) 0#k)):=aA
 have BE:Kp (fun b=>b=p) tU (upd tU p (.ins aC dx (aB "above" (.ref M) 0#k))):=(Kp.of (au.refl _)).upd rfl
 have Z9:=BE _ _ Wd (oV _ _ eD9)
 have aaa:=BE _ _ nMp Di
 have TN:∀{b:av} {xs:List V},H9 b=some 0#t→upd tU p (.ins aC dx (aB "above" (.ref M) 0#k)) b=some 0#t:=fun e=>BE _ _ (fun z=>by rw [z,ep9] at e;cases e) (oV _ _ e)
 generalize upd tU p (.ins aC dx (aB "above" (.ref M) 0#k))=MS at *
 have JJ:∀{b:av} {xs:List V},H6 b=some 0#t→MS b=some 0#t:=fun e=>TN (tp9 (tp8 e))
 have ab3:=JJ aad
 have ab4:=JJ aae
 obtain ⟨vx,evx,_⟩:=id hx6
 have ab5:=JJ evx
 rw?
 refine aE (mk:=.tup) 0#e fun th H12 s12 n12 Xd=>?_
 rw?
 refine aE (mk:=.tup) 0#e fun r H13 xr n13 P9=>?_
 have Mg:=s12.trans xr
 refine k r ln th D M fo a b (some S) H13 (fun b' o e=>?_) ⟨gG,hoff,lo,hi,b1,by grind,by try?,c2,by grind,fun i hi hl z=>fb i hi hl (by grind),by try?⟩ P9 ((aaj.tv JJ).JQ Mg) (xr _ _ Xd) ⟨dx,bd,tw,_,.bM,.ref ps,Va.up ⟨aab,F11,Z9,?_,nMD,?_,aag.tv JJ,Q5.tv JJ,rfl,⟨ps,rfl,(f8.tv fun e=>TN (tp9 e))⟩,?_⟩ Mg⟩ nD nM
 ·obtain ⟨n1,n2,n3,e⟩:=Cg e
  refine Mg _ _ (k11 _ _ (fun z=>?_) e)
  rcases z with z | z
  ·exact n1 z
  ·rw [z,nD] at e;cases e
 ·rw [PZ (dz _),YR]
  exact aaa
 ·exact (SJ.tv JJ).snoc (hx6.en.tv JJ)
 ·refine ⟨oJ hB.P.all,vW DT hm,by rw [iE];try?,by rw [iE];try?,fun _=>by rw [iE];try?,fun i j hi hij _ hj=>?_,sS,fun _ _ e=>(by cases e),fun z=>absurd z 0#d⟩
  rw [iE] at hj
  try?
theorem fj:aF ["self","sample","line","first","mid"] ["self","sample"] (ah iG):=0#a
theorem rA (F:cT K "ended_in_cup" "Bend.ended_in_cup" iG f fd) (aQ:Cl K mg "Bend" aC ["bound","twice","below","above","gentlest","steepest"]) (cG:Dm P w K mg base 5 aC "line_of" ["self","steep"] (sq aC)) (jf:Dn P w K mg base 5 "touched" ["samples","line","lift"] tE) (jP:Dn P w K mg base 1 "opposite" ["one"] NK) (cL:Dn P w K mg base 4 "gentlest_with" ["known","earlier","sample","twice"] r9):bf P w K mg base c7 6 f fd ["self","sample"] (Ti aC):=by
 refine F.ok fj 0#f 0#b
 ·obtain ⟨p,Lb,La,x,ss,fl,ro,m,q,β,G,n,nb,s,rfl,_⟩:=h
  rfl
 obtain ⟨p,Lb,La,x,ss,fl,ro,m,q,β,G,n,nb,s',rfl,⟨dx,bd,tw,fs,gv,sv,hB⟩,hx,hm,mC,h1,hn,hnb,lV,hoff,k⟩:=h
 have h0:0<ss.length:=by obtain ⟨i,_,hi,_⟩:=hoff;try?
 obtain ⟨hfl,tN⟩:=hB.P.lt h0
 obtain ⟨pg,rfl,fg⟩:=id hB.S
 obtain ⟨gG,hG⟩:=hB.P.loS rfl
 have DT:=hB.P.DT
 refine bI ⟨_,(ao (aK 2 fj.nd (Jd.vQ cG aQ.cl 0#A 0#l (dG (eK K 0#l)) (he:=(by rfl)) (hpl:=cB))) (ao (aK 3 fj.nd (Jd.iL K (Jd.c3 jf hr (eK K 0#l) 0#w (eK K 0#l)))) (ao (kj (i:=4) fj.nd rfl (Or.inr rfl) (bD (fK K) (Jd.c3 jf hr (eK K 0#l) 0#w (Jd.c1 jP hr (eK K 0#l))) (eV cW aq) 0#h) (hs:=MI)) (ao (iA K 0#l (nh (O:=["other"]) (N':=["mid"]) (cap:=[4]) rfl (di K (eK K 0#l)) (fun _ _ _ _ _=>(cg (i:=0) (show i8 [("other":Str),("mid":Str)] by decide +kernel) rfl 0#m)) (fun _ _ _ _ _=>(tX (bF Sf (bD (Et K) 0#l aq 0#h) (bD (Et K) 0#r aq 0#h) (aH _)))) (fun _ _ _ _ _=>0#l) rfl 0#u rfl 0#g rfl 0#g)) (ao (iA K 0#l (fN cL 0#A rfl (Jd.a4 dH (eK K 0#l) 0#r (eK K 0#l)) (he:=i6) (hpl:=(cD (by rfl) (cD bK (cD (by rfl) cB)))))) (ao (iA K 0#l dH) (ao (dZ (fZ K (eK K 0#l) 0#r) (hs:=dM)) (ao (iA K 0#l (dg (dG 0#r))) (aI (aU (bG (bC 0#w (bG (Jd.a3 (aJ K (aa 3)) (aJ K (aa 4)) (aJ K 0#r))))))))))))))),?_⟩
 rw?
 refine Qg hB.at_ (hB.F.xO "line_of") ?_
 rw?
 refine jI aQ hB.at_ hB.F.s ?_
 rw?
 refine ⟨p,Lb,La,pg,ss,fl,ro,β,G,n,nb,s',some G,rfl,⟨dx,bd,tw,fs,gv,_,hB⟩,fg,h0,mC,hn,hnb,fun ln fo H1 s1 f1 lo ex=>?_⟩
 obtain ⟨hi,q0,p0,a1,a2,a3,a4,eq0,ep0⟩:=Ej lV DT gG hG lo ex
 have uF:=hB.up s1
 rw?
 refine jI aQ uF.at_ hB.F.bl ?_
 rw?
 refine jI aQ uF.at_ hB.F.bd ?_
 rw?
 refine ⟨Lb,ln,bd,ss.drop fl,G,fo,β,n,_,nb,rfl,uF.eb,fQ uF.row,dQ hB.P.all,f1,uF.UZ.qt,h1,by try?,by try?,by try?,by rw [iP];try?,fun R3 H3 s3 n3 e3=>?_⟩
 have Eo:=uF.up s3
 obtain ⟨a,xa,b1,b2,ga,g0,ea⟩:=zI (l:=β) (f:=fo) a1 0#d (show cR ss G q0-fo=β by grind)
 obtain ⟨xa',ga',fa⟩:=cI (Eo.row) hB.P.all (show a<ss.length by try?)
 rw [ga] at ga'
 cases ga'
 rw?
 refine cA e3 (AA g0) ?_
 rw?
 refine jI aQ Eo.at_ hB.F.ab ?_
 rw?
 refine jI aQ Eo.at_ hB.F.bd ?_
 rw?
 refine ⟨bd,β,nb,rfl,Eo.UZ.qt,fun ob H2 s2 f2=>?_⟩
 have hB2:=Eo.up s2
 rw?
 refine ⟨La,ln,ob,ss.drop ro,G,fo,-β,n,_,nb,rfl,hB2.ea,fQ hB2.row,dQ hB.P.all,f1.JQ (s3.trans s2),f2,h1,by try?,by try?,by try?,by rw [iP];try?,fun R4 H4 s4 n4 e4=>?_⟩
 have Ep:=hB2.up s4
 have vg:=s1.trans (s3.trans (s2.trans s4))
 obtain ⟨b,xb,c1,c2,gb,g1,eb,fb⟩:=CT (l:=-β) (f:=fo) a3 a4 (show cR ss G p0-fo=-β by grind)
 obtain ⟨xb',gb',fxb⟩:=cI Ep.row hB.P.all c2
 rw [gb] at gb'
 cases gb'
 obtain ⟨vb,evb,_⟩:=id fxb
 obtain ⟨va,eva,_⟩:=id (fa.up (s2.trans s4))
 have mb:xb.2.1=mo ss b:=by unfold mo;rw [gb];rfl
 have gdb:(ss.drop ro)[b-ro]?=some xb:=by rw [ly,show ro+(b-ro)=b by try?];exact gb
 have edb:(ss.drop ro).filter (fun y=>decide (xb.2.1≤y.2.1))=ss.drop b:=by
  rw [M6 (yX DT) gdb,Y9,show ro+(b-ro)=b by try?]
 rw?
 refine cA e4 (E7 g1) ?_
 rw?
 refine iw ?_
 rw?
 refine jI aQ Ep.at_ hB.F.ab ?_
 refine ⟨La,rfl,⟨_,aX.of Ep.ea⟩,?_⟩
 refine cC (xs:=vals (ss.drop ro)) bV (fun H5 s5=>aX.of (s5 _ _ Ep.ea)) (by rw [aO,iP];try?) (fun i ys _=>ys=vals (((ss.drop ro).take i).filter (fun y=>decide (xb.2.1≤y.2.1)))) rfl ?_ ?_
 ·rintro D i v ys H5 jK N N0 h0' hD eD s5 hv hy rfl kY kN
  obtain ⟨e,he,rfl⟩:=gr hv
  have hi:i<(ss.drop ro).length:=(lR.mp he).1
  obtain ⟨xi,gi,⟨vi,ei,_⟩⟩:=cI (fQ (Ep.row.up s5)) (dQ hB.P.all) hi
  rw [he] at gi
  cases gi
  have me:mo (ss.drop ro) i=e.2.1:=by unfold mo;rw [he];rfl
  have ts:=HJ (fun y:En=>decide (xb.2.1≤y.2.1)) (ss.drop ro) i e he
  have aeE:=s5 _ _ evb
  refine fD h0' ?_
  rw?
  cases hs:decide (xb.2.1≤e.2.1) with
  | true=>
    rw [hs,if_pos rfl] at ts
    have hs':=jM hs
    rw [show decide (mo ss b≤mo (ss.drop ro) i)=true from jJ (by rw [me,← mb];exact hs')]
    refine cu ?_
    rw?
    exact kY _ H5 (au.refl _) (by rw [ts,← fS])
  | false=>
    rw [hs,if_neg dD,sG] at ts
    have hs':=iH hs
    rw [show decide (mo ss b≤mo (ss.drop ro) i)=false from qu (by rw [me,← mb];exact hs')]
    refine bU ?_
    exact kN H5 (au.refl _) (by rw [ts])
 rintro D ys H5 hD eD s5 hy rfl
 rw [aO,jH,edb] at eD
 have KN:=Ep.up s5
 have JB:=vg.trans s5
 have nD:H D=none:=by
  cases g:H D with
  | none=>rfl
  | some o=>rw [vg _ _ g] at hD;cases hD
 have Wd:D≠p:=fun z=>by rw [z,hB.at_] at nD;cases nD
 have fl0:=hB.F.len
 rw?
 refine zE aQ KN.at_ 0#d ?_
 have kd:Kp (fun b=>b=p) H5 (upd H5 p (.ins aC dx (aB "above" (.ref D) fs))):=(Kp.of (au.refl _)).upd rfl
 have Vy:upd H5 p (.ins aC dx (aB "above" (.ref D) fs)) p=some (.ins aC dx (aB "above" (.ref D) fs)):=aA
 have k6:Kp (fun b=>b=p∨b=D) H (upd H5 p (.ins aC dx (aB "above" (.ref D) fs))):=(Kp.of JB).upd (.inl rfl)
 have eD6:=kd _ _ Wd eD
 have tp:∀{b:av} {xs:List V},H5 b=some 0#t→upd H5 p (.ins aC dx (aB "above" (.ref D) fs)) b=some 0#t:=fun e=>kd _ _ (fun z=>by rw [z,KN.at_] at e;cases e) e
 have SJ:=(KN.row).tv tp
 have hx6:=((hx.up JB).en.tv tp).sa
 have Q5:=KN.VD.tv tp
 have aag:=KN.UZ.tv tp
 have aaj:=(f1.JQ (s3.trans (s2.trans (s4.trans s5)))).tv tp
 have aad:=tp (s5 _ _ eva)
 have aae:=tp (s5 _ _ evb)
 generalize upd H5 p (.ins aC dx (aB "above" (.ref D) fs))=H6 at *
 have F6:=hB.F.S9 (y:=D)
 have l6:=F6.len
 rw?
 refine jI aQ Vy F6.ab ?_
 rw?
 refine jI aQ Vy F6.tw ?_
 rw?
 have ldb:(ss.drop b).length=ss.length-b:=iP ..
 refine ⟨.bM,D,x,tw,ss.drop b,m,q,2*β,n,2*nb+1,rfl,eD6,fQ SJ,dQ hB.P.all,hx6,Q5,by try?,by try?,by try?,fun i hi=>by rw [nB];exact hm _ 0#d,.inl rfl,fun z=>absurd z 0#d,fun _ ps S H7 s7 f7 _ hall hex=>?_⟩
 have sS:GF 0#C (2*β) ss.length b S:=Q7 (g:=none) (fun _ e=>by cases e) (fun _ i j _ _ z=>by try?) (dz _) hall (by
  rcases hex with z | ⟨pk,e,_⟩
  ·exact .inl z
  ·cases e)
 rw?
 have Xe:=s7 _ _ Vy
 refine zE aQ Xe 0#d ?_
 rw?
 refine zE aQ aA (by rw [fP F6.g];try?) ?_
 rw?
 refine jI aQ aA F6.we.wg.ab ?_
 rw?
 rw [qo]
 have k8:Kp (fun b=>b=p∨b=D) H (upd H7 p (.ins aC dx 0#j)):=(k6.sm s7).upd (.inl rfl)
 have ep8:upd H7 p (.ins aC dx 0#j) p=some (.ins aC dx 0#j):=aA
 have k78:Kp (fun b=>b=p) H7 (upd H7 p (.ins aC dx 0#j)):=(Kp.of (au.refl _)).upd rfl
 have UW:=k78 _ _ Wd (s7 _ _ eD6)
 have tp8:∀{b:av} {xs:List V},H6 b=some 0#t→upd H7 p (.ins aC dx 0#j) b=some 0#t:=fun e=>k78 _ _ (fun z=>by rw [z,Vy] at e;cases e) (s7 _ _ e)
 have f8:bS (upd H7 p (.ins aC dx 0#j)) ps S (3*n+(2*nb+1)+3):=f7.tv fun {b xs} e=>k78 _ _ (fun z=>by rw [z,Xe] at e;cases e) e
 generalize upd H7 p (.ins aC dx 0#j)=H8 at *
 have F8:=F6.we (y:=.ref ps) |>.wg (y:=.bM)
 refine ⟨.inl ⟨rfl,_,aX.of UW⟩,?_⟩
 rw?
 refine cz UW (by rw [aO];exact aN 0#d) ?_
 have k9:Kp (fun b=>b=p∨b=D) H (upd H8 D (.lst (vals (ss.drop b)++[.ref x]))):=k8.upd (.inr rfl)
 have ep9:upd H8 D (.lst (vals (ss.drop b)++[.ref x])) p=some (.ins aC dx 0#j):=by rw [aM (jn Wd)];exact ep8
 have eD9:upd H8 D (.lst (vals (ss.drop b)++[.ref x])) D=some (.lst (vals ((ss++[(x,m,some q)]).drop b))):=by
  rw [aA,PZ 0#d,← fS]
 have tp9:∀{b':av} {xs:List V},H8 b'=some 0#t→upd H8 D (.lst (vals (ss.drop b)++[.ref x])) b'=some 0#t:=fun e=>by rw [aM (fun z=>by rw [z,UW] at e;cases e)];exact e
 generalize upd H8 D (.lst (vals (ss.drop b)++[.ref x]))=H9 at *
 rw?
 refine aE (mk:=.lst) 0#e fun M tU oV xq Di=>?_
 have nM:H M=none:=by
  cases g:H M with
  | none=>rfl
  | some o=>
    by_cases z:M=p
    ·rw [z,ep9] at xq;cases xq
    ·by_cases z2:M=D
     ·rw [z2,eD9] at xq;cases xq
     ·rw [k9 _ _ (fun u=>by rcases u with u | u;exact z u;exact z2 u) g] at xq;cases xq
 have nMp:M≠p:=fun z=>by rw [z,hB.at_] at nM;cases nM
 have nMD:D≠M:=fun z=>by rw [← z,eD9] at xq;cases xq
 rw?
 have l8:=F8.len
 refine zE aQ (oV _ _ ep9) 0#d ?_
 have F11:=F8.Tc (y:=M)
 have k11:Kp (fun b=>b=p∨b=D) H (upd tU p (.ins aC dx (aB "below" (.ref M) 0#j))):=(k9.sm oV).upd (.inl rfl)
 have aab:upd tU p (.ins aC dx (aB "below" (.ref M) 0#j)) p=some (.ins aC dx (aB "below" (.ref M) 0#j)):=aA
 have BE:Kp (fun b=>b=p) tU (upd tU p (.ins aC dx (aB "below" (.ref M) 0#j))):=(Kp.of (au.refl _)).upd rfl
 have Z9:=BE _ _ Wd (oV _ _ eD9)
 have aaa:=BE _ _ nMp Di
 have TN:∀{b:av} {xs:List V},H9 b=some 0#t→upd tU p (.ins aC dx (aB "below" (.ref M) 0#j)) b=some 0#t:=fun e=>BE _ _ (fun z=>by rw [z,ep9] at e;cases e) (oV _ _ e)
 generalize upd tU p (.ins aC dx (aB "below" (.ref M) 0#j))=MS at *
 have JJ:∀{b:av} {xs:List V},H6 b=some 0#t→MS b=some 0#t:=fun e=>TN (tp9 (tp8 e))
 have ab3:=JJ aad
 have ab4:=JJ aae
 obtain ⟨vx,evx,_⟩:=id hx6
 have ab5:=JJ evx
 rw?
 refine aE (mk:=.tup) 0#e fun th H12 s12 n12 Xd=>?_
 rw?
 refine aE (mk:=.tup) 0#e fun r H13 xr n13 P9=>?_
 have Mg:=s12.trans xr
 refine k r ln th M D fo a b (some S) H13 (fun b' o e=>?_) ⟨gG,hoff,lo,hi,b1,by grind,by try?,c2,by grind,fun i hi hl z=>fb i hi hl (by grind),by try?⟩ P9 ((aaj.tv JJ).JQ Mg) (xr _ _ Xd) ⟨dx,bd,tw,_,.ref ps,.bM,Va.up ⟨aab,F11,?_,Z9,jn nMD,?_,aag.tv JJ,Q5.tv JJ,⟨ps,rfl,(f8.tv fun e=>TN (tp9 e))⟩,rfl,?_⟩ Mg⟩ nM nD
 ·obtain ⟨n1,n2,n3,e⟩:=Cg e
  refine Mg _ _ (k11 _ _ (fun z=>?_) e)
  rcases z with z | z
  ·exact n1 z
  ·rw [z,nD] at e;cases e
 ·rw [PZ (dz _),YR]
  exact aaa
 ·exact (SJ.tv JJ).snoc (hx6.en.tv JJ)
 ·refine ⟨oJ hB.P.all,vW DT hm,by rw [iE];try?,by rw [iE];try?,fun _=>by rw [iE];try?,sS,fun i j hi hij _ hj=>?_,fun _ _ _ e=>(by cases e),fun z=>absurd z 0#d⟩
  rw [iE] at hj
  try?
end
theorem AS.acR (h:AS ss fl ro β g s) (h0:ss.length=0):g=none∧s=none:=by
 have go:=h.go
 have so:=h.so
 constructor
 ·cases g with
  | none=>rfl
  | some G=>
    obtain ⟨q,p,_,_,_,z,_⟩:=go.2
    simp?
 ·cases s with
  | none=>rfl
  | some S=>
    obtain ⟨q,p,_,_,_,z,_⟩:=so.2
    simp?
section
theorem qf:aF ["self","sample","gentlest","steepest"] ["self","sample"] (ah rG):=0#a
theorem Gg (F:cT K "take" "Bend.take" rG f fd) (aQ:Cl K mg "Bend" aC ["bound","twice","below","above","gentlest","steepest"]) (cL:Dn P w K mg base 4 "gentlest_with" ["known","earlier","sample","twice"] r9) (cN:Dn P w K mg base 4 "steepest_with" ["known","earlier","sample","twice"] wG) (lG:Dn P w K mg base 2 "is_steeper" ["one","other"] yI)
 (iC:Dm P w K mg base 6 aC "ended_in_cap" ["self","sample"] (Tg aC)) (iD:Dm P w K mg base 6 aC "ended_in_cup" ["self","sample"] (Ti aC)):bf P w K mg base c7 7 f fd ["self","sample"] (MG aC):=by
 refine F.ok qf 0#f 0#b
 ·obtain ⟨p,Lb,La,x,ss,fl,ro,m,q,β,n,nb,g,s,rfl,_⟩:=h
  rfl
 obtain ⟨p,Lb,La,x,ss,fl,ro,m,q,β,n,nb,g,s',rfl,⟨dx,bd,tw,fs,gv,sv,hB⟩,hx,hm,mC,h1,hn,hnb,lV,kN,kC,kU⟩:=h
 have fl0:=hB.F.len
 have hfl:=hB.P.hfl
 have tN:=hB.P.tN
 have lda:(ss.drop ro).length=ss.length-ro:=iP ..
 have ldb:(ss.drop fl).length=ss.length-fl:=iP ..
 have nbp:Lb≠p:=fun z=>by have:=hB.eb;rw [z,hB.at_] at this;cases this
 have nap:La≠p:=fun z=>by have:=hB.ea;rw [z,hB.at_] at this;cases this
  -- the sample is taken
 have stay:∀(gv' sv':V) (g' s2:Option Rat) (H2:Hp),au H H2→OQ H2 gv' (3*n+(2*nb+1)+3) g'→OQ H2 sv' (3*n+(2*nb+1)+3) s2→AS 0#C fl ro β g' s2→E5 ss β fl ro g s' m q →
  Q .bM (upd (upd (upd (upd H2 p (.ins aC dx (aB "gentlest" gv' fs))) p (.ins aC dx (aB "steepest" sv' (aB "gentlest" gv' fs)))) Lb (.lst (vals (ss.drop fl)++[.ref x]))) La (.lst (vals (ss.drop ro)++[.ref x]))):=by
  intro gv' sv' g' s2 H2 gD og os hP hN
  rw [qo]
  have hB2:=hB.up gD
  have kk:Kp (fun b=>b=p∨b=Lb∨b=La) H2 (upd (upd (upd H2 p (.ins aC dx (aB "steepest" sv' (aB "gentlest" gv' fs)))) Lb (.lst (vals (ss.drop fl)++[.ref x]))) La (.lst (vals (ss.drop ro)++[.ref x]))):=((((Kp.of (au.refl _)).upd (.inl rfl)).upd (.inr (.inl rfl))).upd (.inr (.inr rfl)))
  have tp:∀{b:av} {xs:List V},H2 b=some 0#t→upd (upd (upd H2 p (.ins aC dx (aB "steepest" sv' (aB "gentlest" gv' fs)))) Lb (.lst (vals (ss.drop fl)++[.ref x]))) La (.lst (vals (ss.drop ro)++[.ref x])) b=some 0#t:=fun e=>kk _ _ (fun z=>by
   rcases z with z | z | z
   ·rw [z,hB2.at_] at e;cases e
   ·rw [z,hB2.eb] at e;cases e
   ·rw [z,hB2.ea] at e;cases e) e
  refine kN g' s2 _ (fun b o e=>?_) hN ⟨dx,bd,tw,_,gv',sv',?_,hB.F.we.wg,?_,?_,hB.ne,?_,hB2.UZ.tv tp,hB2.VD.tv tp,og.tv tp,os.tv tp,hP⟩
  ·obtain ⟨n1,n2,n3,e⟩:=Cg e
   exact kk _ _ (fun z=>by rcases z with z | z | z;exact n1 z;exact n2 z;exact n3 z) (gD _ _ e)
  ·rw [aM (jn nap),aM (jn nbp),aA]
  ·rw [aM hB.ne,aA,PZ hfl,← fS]
  ·rw [aA,PZ tN,← fS]
  ·exact (hB2.row.tv tp).snoc ((hx.up gD).en.tv tp)
 refine bI ⟨_,(ao (aK 2 qf.nd (fN cL 0#A rfl (Jd.a4 (eK K 0#l) (eK K 0#l) 0#r (eK K 0#l)) (he:=(by rfl)) (hpl:=(cD (by rfl) (cD bK (cD (by rfl) cB)))))) (ao (aK 3 qf.nd (fN cN 0#A rfl (Jd.a4 (eK K 0#l) (eK K 0#l) 0#r (eK K 0#l)) (he:=(by rfl)) (hpl:=(cD (by rfl) (cD bK (cD (by rfl) cB)))))) (ao (b9 (nv (bY lG hr (eK K 0#l) (aa 3))) (aI (aU (Jd.vQ iC aQ.cl 0#A 0#l (dG 0#r) (he:=bK) (hpl:=cB)))) cF) (ao (b9 (nv (bY lG hr 0#w (eK K 0#l))) (aI (aU (Jd.vQ iD aQ.cl 0#A 0#l (dG 0#r) (he:=bK) (hpl:=cB)))) cF) (ao (iA K 0#l 0#w) (ao (iA K 0#l (aa 3)) (ao (dZ (fZ K (eK K 0#l) 0#r) (hs:=dM)) (ao (dZ (fZ K (eK K 0#l) 0#r) (hs:=dM)) (aI (aU dH)))))))))),?_⟩
 rw?
 refine jI aQ hB.at_ hB.F.g ?_
 rw?
 refine jI aQ hB.at_ hB.F.ab ?_
 rw?
 refine jI aQ hB.at_ hB.F.tw ?_
 rw?
 by_cases h0:ss.length=0
 ·obtain ⟨rfl,rfl⟩:=hB.P.acR h0
  obtain rfl:gv=.bM:=hB.G
  obtain rfl:sv=.bM:=hB.S
  refine ⟨.bM,La,x,tw,ss.drop ro,m,q,2*β,n,2*nb+1,rfl,hB.ea,fQ hB.row,dQ hB.P.all,hx,hB.VD,by try?,by try?,by try?,fun i hi=>by rw [nB];exact hm _ 0#d,.inl rfl,fun _ _ H1 s1=>?_,fun z=>absurd z 0#d⟩
  have uF:=hB.up s1
  rw?
  refine jI aQ uF.at_ hB.F.s ?_
  rw?
  refine jI aQ uF.at_ hB.F.bl ?_
  rw?
  refine jI aQ uF.at_ hB.F.tw ?_
  rw?
  refine ⟨.bM,Lb,x,tw,ss.drop fl,m,q,2*β,n,2*nb+1,rfl,uF.eb,fQ uF.row,dQ hB.P.all,hx.up s1,uF.VD,by try?,by try?,by try?,fun i hi=>by rw [nB];exact hm _ 0#d,.inl rfl,fun _ _ H2 s2=>?_,fun z=>absurd z 0#d⟩
  have gD:=s1.trans s2
  have hB2:=hB.up gD
  rw?
  refine jI aQ hB2.at_ hB.F.g ?_
  rw?
  refine ⟨.bM,.bM,none,none,0,0,rfl,rfl,rfl,by decide,fun r hr'=>?_⟩
  obtain rfl:r=false:=gY.mpr fun z=>by obtain ⟨_,_,e,_⟩:=hr'.mp z;cases e
  rw?
  refine bU ?_
  rw?
  refine jI aQ hB2.at_ hB.F.s ?_
  rw?
  refine ⟨.bM,.bM,none,none,0,0,rfl,rfl,rfl,by decide,fun r hr2=>?_⟩
  obtain rfl:r=false:=gY.mpr fun z=>by obtain ⟨_,_,e,_⟩:=hr2.mp z;cases e
  rw?
  refine bU ?_
  rw?
  refine zE aQ hB2.at_ 0#d ?_
  rw?
  refine zE aQ aA (by rw [fP hB.F.g];try?) ?_
  rw?
  refine jI aQ aA hB.F.we.wg.bl ?_
  rw?
  have eb4:upd (upd H2 p (.ins aC dx (aB "gentlest" .bM fs))) p (.ins aC dx (aB "steepest" .bM (aB "gentlest" .bM fs))) Lb=some (.lst (vals (ss.drop fl))):=by
   rw [aM nbp,aM nbp]
   exact hB2.eb
  refine ⟨.inl ⟨rfl,_,aX.of eb4⟩,?_⟩
  rw?
  refine cz eb4 (by rw [aO];exact aN 0#d) ?_
  rw?
  refine jI aQ (by rw [aM (jn nbp)];exact aA) hB.F.we.wg.ab ?_
  rw?
  have ea5:upd (upd (upd H2 p (.ins aC dx (aB "gentlest" .bM fs))) p (.ins aC dx (aB "steepest" .bM (aB "gentlest" .bM fs)))) Lb (.lst (vals (ss.drop fl)++[.ref x])) La=some (.lst (vals (ss.drop ro))):=by
   rw [aM (jn hB.ne),aM nap,aM nap]
   exact hB2.ea
  refine ⟨.inl ⟨rfl,_,aX.of ea5⟩,?_⟩
  rw?
  refine cz ea5 (by rw [aO];exact aN 0#d) ?_
  rw?
  refine stay .bM .bM none none H2 gD rfl rfl ?_ ⟨fun _ e=>(by cases e),fun _ e=>(by cases e)⟩
  refine ⟨oJ hB.P.all,vW hB.P.DT hm,by rw [iE];try?,by rw [iE];try?,fun _=>by rw [iE];try?,fun i j _ hij _ hj=>?_,fun i j _ hij _ hj=>?_,fun _ _ e=>(by cases e),hB.P.df⟩
  ·rw [iE] at hj
   try?
  ·rw [iE] at hj
   try?
 ·obtain ⟨afP,afY⟩:=hB.P.lt 0#d
  refine ⟨gv,La,x,tw,ss.drop ro,m,q,2*β,n,2*nb+1,rfl,hB.ea,fQ hB.row,dQ hB.P.all,hx,hB.VD,by try?,by try?,by try?,fun i hi=>by rw [nB];exact hm _ 0#d,?_,fun z=>absurd z 0#d,fun _ pg G1 H1 s1 f1 hK1 ach aeL=>?_⟩
  ·have hG:=hB.G
   cases g with
   | none=>exact .inl hG
   | some G=>exact let ⟨pk,e,fk⟩:=hG;.inr ⟨by try?,pk,G,e,fk⟩
  have gG:GF 0#C (2*β) fl ro G1:=by
   have hG:=hB.G
   refine Q7 (g:=g) (fun G0 e=>?_) (fun e=>?_) hfl ach ?_
   ·rw [e] at hG
    obtain ⟨pk,e',fk⟩:=hG
    exact ⟨(hB.P.hiG e).1,hK1 pk G0 e' fk⟩
   ·have go:=hB.P.go
    rw [e] at go
    exact go
   ·rcases aeL with z | ⟨pk,e,fk⟩
    ·exact .inl z
    ·refine .inr ?_
     cases g with
     | none=>rw [show gv=.bM from hG] at e;cases e
     | some G0=>
       obtain ⟨pk',e',fk'⟩:=hG
       rw [e] at e'
       cases e'
       rw [EF fk fk']
  have uF:=hB.up s1
  rw?
  refine jI aQ uF.at_ hB.F.s ?_
  rw?
  refine jI aQ uF.at_ hB.F.bl ?_
  rw?
  refine jI aQ uF.at_ hB.F.tw ?_
  rw?
  refine ⟨sv,Lb,x,tw,ss.drop fl,m,q,2*β,n,2*nb+1,rfl,uF.eb,fQ uF.row,dQ hB.P.all,hx.up s1,uF.VD,by try?,by try?,by try?,fun i hi=>by rw [nB];exact hm _ 0#d,?_,fun z=>absurd z 0#d,fun _ ps S1 H2 s2 f2 hK2 BA hex2=>?_⟩
  ·have hS:=uF.S
   cases s' with
   | none=>exact .inl hS
   | some S=>exact let ⟨pk,e,fk⟩:=hS;.inr ⟨by try?,pk,S,e,fk⟩
  have sS:SF 0#C (2*β) fl ro S1:=by
   have hS:=uF.S
   refine Te (s:=s') (fun S0 e=>?_) (fun e=>?_) tN BA ?_
   ·rw [e] at hS
    obtain ⟨pk,e',fk⟩:=hS
    exact ⟨(hB.P.loS e).1,hK2 pk S0 e' fk⟩
   ·have so:=hB.P.so
    rw [e] at so
    exact so
   ·rcases hex2 with z | ⟨pk,e,fk⟩
    ·exact .inl z
    ·refine .inr ?_
     cases s' with
     | none=>rw [show sv=.bM from hS] at e;cases e
     | some S0=>
       obtain ⟨pk',e',fk'⟩:=hS
       rw [e] at e'
       cases e'
       rw [EF fk fk']
  have gD:=s1.trans s2
  have hB2:=hB.up gD
  have dX:=vW (x:=x) (q:=q) hB.P.DT hm
  rw?
  refine jI aQ hB2.at_ hB.F.g ?_
  rw?
  refine ⟨gv,.ref ps,g,some S1,_,_,rfl,hB2.G,⟨ps,rfl,f2⟩,by try?,fun r hr1=>?_⟩
  rw?
  refine cE 0#B 0#B
  ·obtain ⟨G,S,rfl,e2,lt⟩:=hr1.mp c
   cases e2
   rw?
   refine Qg hB2.at_ (hB.F.xO "ended_in_cap") ?_
   rw?
   refine ⟨p,Lb,La,x,ss,fl,ro,m,q,β,G,n,nb,s',rfl,⟨dx,bd,tw,fs,gv,sv,hB2⟩,hx.up gD,hm,mC,h1,hn,hnb,lV,(Fe dX sS (hB.P.hiG rfl).2 tN).mp lt,fun r ln th Ba AZ fo a b s2' H' k1 k2 k3 k4 k5 k6 k7 k8=>?_⟩
   refine kC r ln th Ba AZ G fo a b s2' H' (fun b' o e=>k1 _ _ ?_) rfl k2 k3 k4 k5 k6 (gD.free k7) (gD.free k8)
   obtain ⟨n1,n2,n3,e⟩:=Cg e
   rw [uP n1 n2 n3]
   exact gD _ _ e
  ·have nc:¬ ∃G S,g=some G∧some S1=some S∧S<G:=fun z=>c (hr1.mpr z)
   have afe:¬ ∃G,g=some G∧∃i,fl≤i∧i<ss.length∧q-G*(m:Rat)+2*β<cR ss G i:=fun ⟨G,e,z⟩=>nc ⟨G,S1,e,rfl,(Fe dX sS (hB.P.hiG e).2 tN).mpr z⟩
   rw?
   refine jI aQ hB2.at_ hB.F.s ?_
   rw?
   refine ⟨.ref pg,sv,some G1,s',_,_,rfl,⟨pg,rfl,f1.up s2⟩,hB2.S,by try?,fun r2 hr2=>?_⟩
   rw?
   refine cE (fun c2=>?_) (fun c2=>?_)
   ·obtain ⟨G,S,e1,rfl,lt⟩:=hr2.mp c2
    cases e1
    rw?
    refine Qg hB2.at_ (hB.F.xO "ended_in_cup") ?_
    rw?
    refine ⟨p,Lb,La,x,ss,fl,ro,m,q,β,S,n,nb,g,rfl,⟨dx,bd,tw,fs,gv,sv,hB2⟩,hx.up gD,hm,mC,h1,hn,hnb,lV,(M0 dX gG (hB.P.loS rfl).2 hfl).mp lt,fun r ln th Ba AZ fo a b s2' H' k1 k2 k3 k4 k5 k6 k7 k8=>?_⟩
    refine kU r ln th Ba AZ S fo a b s2' H' (fun b' o e=>k1 _ _ ?_) rfl afe k2 k3 k4 k5 k6 (gD.free k7) (gD.free k8)
    obtain ⟨n1,n2,n3,e⟩:=Cg e
    rw [uP n1 n2 n3]
    exact gD _ _ e
   ·have nu:¬ ∃G S,some G1=some G∧s'=some S∧S<G:=fun z=>c2 (hr2.mpr z)
    obtain ⟨hP,hN⟩:=hB.P.next lV hm gG sS nc nu
    rw?
    refine zE aQ hB2.at_ 0#d ?_
    rw?
    refine zE aQ aA (by rw [fP hB.F.g];try?) ?_
    rw?
    refine jI aQ aA hB.F.we.wg.bl ?_
    rw?
    have eb4:upd (upd H2 p (.ins aC dx (aB "gentlest" (.ref pg) fs))) p (.ins aC dx (aB "steepest" (.ref ps) (aB "gentlest" (.ref pg) fs))) Lb=some (.lst (vals (ss.drop fl))):=by
     rw [aM nbp,aM nbp]
     exact hB2.eb
    refine ⟨.inl ⟨rfl,_,aX.of eb4⟩,?_⟩
    rw?
    refine cz eb4 (by rw [aO];exact aN 0#d) ?_
    rw?
    refine jI aQ (by rw [aM (jn nbp)];exact aA) hB.F.we.wg.ab ?_
    rw?
    have ea5:upd (upd (upd H2 p (.ins aC dx (aB "gentlest" (.ref pg) fs))) p (.ins aC dx (aB "steepest" (.ref ps) (aB "gentlest" (.ref pg) fs)))) Lb (.lst (vals (ss.drop fl)++[.ref x])) La=some (.lst (vals (ss.drop ro))):=by
     rw [aM (jn hB.ne),aM nap,aM nap]
     exact hB2.ea
    refine ⟨.inl ⟨rfl,_,aX.of ea5⟩,?_⟩
    rw?
    refine cz ea5 (by rw [aO];exact aN 0#d) ?_
    rw?
    exact stay (.ref pg) (.ref ps) (some G1) (some S1) H2 gD ⟨pg,rfl,f1.up s2⟩ ⟨ps,rfl,f2⟩ hP hN
theorem yw:aF ["self"] ["self"] (ah kL):=0#a
theorem xT (F:cT K "line_now" "Bend.line_now" kL f fd) (T:Txt mg) (aQ:Cl K mg "Bend" aC ["bound","twice","below","above","gentlest","steepest"]) (jN:Dn P w K mg base 5 "line_by" ["steep","sample"] wu) (cG:Dm P w K mg base 5 aC "line_of" ["self","steep"] (sq aC)):bf P w K mg base c7 6 f fd ["self"] (To aC):=by
 refine F.ok yw 0#f 0#b
 ·obtain ⟨p,Lb,La,ss,fl,ro,β,n,nb,g,s,rfl,_⟩:=h
  rfl
 obtain ⟨p,Lb,La,ss,fl,ro,β,n,nb,g,s',rfl,⟨dx,bd,tw,fs,gv,sv,hB⟩,mC,h1,hn,hnb,k0,k1⟩:=h
 have ld:(ss.drop fl).length=ss.length-fl:=iP ..
 refine bI ⟨_,(ao (b9 (bF d7 (gB K T.gc (eK K 0#l)) aq (aH _)) (aI (aU dH)) cF) (ao (b9 (bF ir (eK K 0#l) dH (aH _)) (aI (aU (Jd.vQ cG aQ.cl 0#A 0#l (dG (eK K 0#l)) (he:=(by rfl)) (hpl:=cB)))) cF) (ao (b9 (bF ir (eK K 0#l) dH (aH _)) (aI (aU (Jd.vQ cG aQ.cl 0#A 0#l (dG (eK K 0#l)) (he:=(by rfl)) (hpl:=cB)))) cF) (aI (aU (bY jN hr (bG (bC aq aq)) (Jd.iL K (eK K 0#l)))))))),?_⟩
 rw?
 refine jI aQ hB.at_ hB.F.bl ?_
 rw?
 refine cP (.inl (aX.of hB.eb)) ?_
 rw [aO]
 rw?
 refine cE 0#B 0#B
 ·have c':=jM c
  rw?
  refine k0 (NV.mp ?_)
  by_cases z:0<ss.length
  ·have:=(hB.P.lt z).1
   try?
  ·try?
 ·have c':=iH (gY.mpr c)
  have h0:0<ss.length:=by try?
  obtain ⟨hfl,tN⟩:=hB.P.lt h0
  rw?
  refine jI aQ hB.at_ hB.F.g ?_
  cases g with
  | some G=>
    obtain ⟨pg,rfl,fg⟩:=id hB.G
    rw?
    refine ⟨rfl,?_⟩
    rw?
    refine cu ?_
    rw?
    refine Qg hB.at_ (hB.F.xO "line_of") ?_
    rw?
    refine jI aQ hB.at_ hB.F.g ?_
    rw?
    refine ⟨p,Lb,La,pg,ss,fl,ro,β,G,n,nb,some G,s',rfl,⟨dx,bd,tw,fs,_,sv,hB⟩,fg,h0,mC,hn,hnb,fun ln fo H1 s1 f1 lo ex=>?_⟩
    exact k1 h0 ln G fo H1 s1 f1 (.inl ⟨.inl rfl,lo,ex⟩)
  | none=>
    obtain rfl:gv=.bM:=hB.G
    rw?
    refine ⟨rfl,?_⟩
    rw?
    refine bU ?_
    rw?
    refine jI aQ hB.at_ hB.F.s ?_
    cases s' with
    | some S=>
      obtain ⟨pg,rfl,fg⟩:=id hB.S
      rw?
      refine ⟨rfl,?_⟩
      rw?
      refine cu ?_
      rw?
      refine Qg hB.at_ (hB.F.xO "line_of") ?_
      rw?
      refine jI aQ hB.at_ hB.F.s ?_
      rw?
      refine ⟨p,Lb,La,pg,ss,fl,ro,β,S,n,nb,none,some S,rfl,⟨dx,bd,tw,fs,_,_,hB⟩,fg,h0,mC,hn,hnb,fun ln fo H1 s1 f1 lo ex=>?_⟩
      exact k1 h0 ln S fo H1 s1 f1 (.inl ⟨.inr ⟨rfl,rfl⟩,lo,ex⟩)
    | none=>
      obtain rfl:sv=.bM:=hB.S
      rw?
      refine ⟨rfl,?_⟩
      rw?
      refine bU ?_
      rw?
      refine aE (mk:=.tup) 0#e fun z1 H1 s1 n1 e1=>?_
      have uF:=hB.up s1
      obtain ⟨xa,ga,fa⟩:=cI uF.row hB.P.all hfl
      rw?
      refine jI aQ uF.at_ hB.F.bl ?_
      rw?
      refine cA uF.eb (AA (x:=xa) (by rw [ly,Ke];exact ga)) ?_
      rw?
      have f0:dF H1 z1 0 1:=⟨0,1,e1,⟨by decide,by decide,by grind⟩,by decide,by decide⟩
      refine ⟨z1,xa.1,0,_,_,1,n,rfl,f0,fa,h1,by try?,fun z r' H2 s2 e2 f2=>?_⟩
      refine k1 h0 z 0 (wo ss fl) H2 (s1.trans s2) ⟨z1,r',e2,(f0.up s2).mono 0#d,?_⟩ (.inr ⟨rfl,rfl,rfl,rfl⟩)
      have e3:wo ss fl-0*(mo ss fl:Rat)=wo ss fl:=by grind
      rw [e3] at f2
      exact f2.mono 0#d
end
theorem lF.fresh (h:lF C H p Lb La [] 0 0 β n nb none none):lF C H p Lb La [] 0 0 β n' nb none none:=
 let ⟨dx,bd,tw,fs,gv,sv,h⟩:=h;⟨dx,bd,tw,fs,gv,sv,h.at_,h.F,h.eb,h.ea,h.ne,fun x hx=>absurd hx 0#e,h.UZ,h.VD,h.G,h.S,h.P⟩
theorem acI (s:au H0 H) (np:H0 p=none) (nb:H0 Lb=none) (na:H0 La=none) (k:au (PC p Lb La H) H'):au H0 H':=fun b o e=>k _ _ (by
 rw [uP (bH e np) (bH e nb) (bH e na)]
 exact s _ _ e)
theorem AS.two (h:AS ss fl ro β g s):(ss.length<2↔g=none∧s=none):=by
 constructor
 ·intro h2
  have go:=h.go
  have so:=h.so
  constructor
  ·cases g with
   | none=>rfl
   | some G=>
     obtain ⟨q,p,_,_,_,z,_⟩:=go.2
     simp?
  ·cases s with
   | none=>rfl
   | some S=>
     obtain ⟨q,p,_,_,_,z,_⟩:=so.2
     simp?
 ·rintro ⟨rfl,rfl⟩
  refine Nat.lt_of_not_le fun h2=>?_
  obtain ⟨l1,l2⟩:=h.lt 0#c
  have df:=h.df
  have go:∀q p,ro≤q→q<p→fl≤p→¬p<ss.length:=h.go
  have so:∀q p,fl≤q→q<p→ro≤p→¬p<ss.length:=h.so
  have g1:=go ro (ss.length-1) 0#c
  have s1:=so fl (ss.length-1) 0#c
  by_cases e:ro<ss.length-1
  ·exact g1 e 0#c 0#c
  ·by_cases e2:fl<ss.length-1
   ·exact s1 e2 0#c 0#c
   ·have:=df 0#c
    simp?
theorem adp (hr:rising ss) (hab:a<b) (hbk:b<k) (hk:k<ss.length) (ea:cR ss T a+β=f) (eb:cR ss T b-β=f) (ek:cR ss T k+β<f):2*β<sd ss a b k:=by
 have d1:=iX hr hab 0#c
 have d2:=iX hr hbk hk
 have d3:=iX hr (zQ hab hbk) hk
 unfold cR at ea eb ek
 unfold sd cZ
 refine qC.mp fun z=>?_
 have z':wo ss b-2*β≤(wo ss a*((mo ss k:Rat)-(mo ss b:Rat))+wo ss k*((mo ss b:Rat)-(mo ss a:Rat)))/((mo ss k:Rat)-(mo ss a:Rat)):=by grind
 rw [nC d3] at z'
 have l:wo ss k<T*(mo ss k:Rat)+f-β:=by grind
 have:=HG l d1
 have e1:wo ss a=T*(mo ss a:Rat)+f-β:=by grind
 have e2:wo ss b=T*(mo ss b:Rat)+f+β:=by grind
 rw [e1,e2] at z'
 grind
theorem adq (hr:rising ss) (hab:a<b) (hbk:b<k) (hk:k<ss.length) (ea:cR ss T a-β=f) (eb:cR ss T b+β=f) (ek:f<cR ss T k-β):sd ss a b k < -(2*β):=by
 have d1:=iX hr hab 0#c
 have d2:=iX hr hbk hk
 have d3:=iX hr (zQ hab hbk) hk
 unfold cR at ea eb ek
 unfold sd cZ
 refine qC.mp fun z=>?_
 have z':(wo ss a*((mo ss k:Rat)-(mo ss b:Rat))+wo ss k*((mo ss b:Rat)-(mo ss a:Rat)))/((mo ss k:Rat)-(mo ss a:Rat))≤wo ss b+2*β:=by grind
 rw [sY d3] at z'
 have l:T*(mo ss k:Rat)+f+β<wo ss k:=by grind
 have:=HG l d1
 have e1:wo ss a=T*(mo ss a:Rat)+f+β:=by grind
 have e2:wo ss b=T*(mo ss b:Rat)+f-β:=by grind
 rw [e1,e2] at z'
 grind
inductive Tr (es:List En) (β:Rat):Nat→Nat→Nat→List (Rat×Rat)→List (Bool×Nat×Nat×Nat)→Prop where
 | nil:Tr es β 0 0 0 [] []
 | stay {k fl ro:Nat} {ls:List (Rat×Rat)} {ts:List (Bool×Nat×Nat×Nat)} {g s g' s':Option Rat} (h:Tr es β k fl ro ls ts) (hk:k<es.length) (hP:AS (es.take k) fl ro β g s) (hP':AS (es.take (k+1)) fl ro β g' s') (hN:E5 (es.take k) β fl ro g s (mo es k) (wo es k)):Tr es β (k+1) fl ro ls ts
 | cap {k fl ro a b:Nat} {ls:List (Rat×Rat)} {ts:List (Bool×Nat×Nat×Nat)} {s:Option Rat} {G f:Rat} (h:Tr es β k fl ro ls ts) (hk:k<es.length) (hP:AS (es.take k) fl ro β (some G) s) (hC:D8 (es.take k) β fl ro (mo es k) (wo es k) G f a b):Tr es β (k+1) b k (ls++[(G,f)]) (ts++[(true,a,b,k)])
 | cup {k fl ro a b:Nat} {ls:List (Rat×Rat)} {ts:List (Bool×Nat×Nat×Nat)} {g:Option Rat} {S f:Rat} (h:Tr es β k fl ro ls ts) (hk:k<es.length) (hP:AS (es.take k) fl ro β g (some S)) (hn:¬ ∃G,g=some G∧∃i,fl≤i∧i<(es.take k).length∧wo es k-G*(mo es k:Rat)+2*β<cR (es.take k) G i) (hC:D9 (es.take k) β fl ro (mo es k) (wo es k) S f a b):Tr es β (k+1) k b (ls++[(S,f)]) (ts++[(false,a,b,k)])
abbrev Ln:=av×Rat×Rat
def ko (ls:List Ln):List V:=ls.map fun x=>V.ref x.1
def uo (H:Hp) (ls:List Ln) (n:Nat):Prop:=∀x∈ls,iU H x.1 x.2.1 x.2.2 n
abbrev Vh:=av×(Bool×Nat×Nat×Nat)
def Qp (H:Hp) (es:List En) (x:Vh):Prop:=H x.1=some (.tup [.int (mo es x.2.2.1),.int (mo es x.2.2.2.1),.int (mo es x.2.2.2.2)])
theorem uo.tv (t:∀{b:av} {xs:List V},H b=some 0#t→H' b=some 0#t) (h:uo H ls n):uo H' ls n:=fun x hx=>(h x hx).tv t
theorem uo.snoc (h:uo H ls n) (hx:iU H x.1 x.2.1 x.2.2 n):uo H (ls++[x]) n:=fun y hy=>by
 rcases dN.mp hy with z | z
 ·exact h y z
 ·obtain rfl:y=x:=by simpa using z
  exact hx
theorem kg (e:H L=some (.lst ys))  (h:H b=some 0#t):upd H L (.lst zs) b=some 0#t:=by
 rw [aM (fun q=>by rw [q,e] at h;cases h)]
 exact h
theorem lF.app (h:lF C H p Lb La ss fl ro β n nb g s) (e:H L=some (.lst ys)) (n1:L≠Lb) (n2:L≠La):lF C (upd H L (.lst zs)) p Lb La ss fl ro β n nb g s:=by
 obtain ⟨dx,bd,tw,fs,gv,sv,h⟩:=h
 exact ⟨dx,bd,tw,fs,gv,sv,h.mv (fun {b xs} z=>kg e z) (aM (fun q=>by have:=h.at_;rw [q,e] at this;cases this)) (aM (jn n1)) (aM (jn n2))⟩
theorem lF.ats (h:lF C H p Lb La ss fl ro β n nb g s):(∃dx fs,H p=some (.ins C dx fs)∧(fs.lookup ("take":Str)=none∧fs.lookup ("line_now":Str)=none))∧(∃ys,H Lb=some (.lst ys))∧(∃ys,H La=some (.lst ys))∧AS ss fl ro β g s:=
 let ⟨_,_,_,_,_,_,h⟩:=h;⟨⟨_,_,h.at_,h.F.xO "take",h.F.xO "line_now"⟩,⟨_,h.eb⟩,⟨_,h.ea⟩,h.P⟩
theorem take_snoc (hS:iR es) (gx:es[j]?=some x):es.take (j+1)=es.take j++[(x.1,mo es j,some (wo es j))]:=by
 have xe:x=(x.1,mo es j,some (wo es j)):=by
  have:=hS x (mY gx)
  obtain ⟨ax,mx,vx⟩:=x
  unfold mo wo
  rw [gx]
  cases vx with
  | none=>cases this
  | some q=>rfl
 rw [← xe,C3,gx]
 rfl
theorem lK (h:i<j):mo (es.take j) i=mo es i:=by unfold mo;rw [N8,if_pos h]
theorem AR (h:i<j):wo (es.take j) i=wo es i:=by unfold wo;rw [N8,if_pos h]
theorem gC (h:i<j):cR (es.take j) T i=cR es T i:=by unfold cR;rw [lK h,AR h]
inductive Hr (C:av) (vs:List V) (H:Hp) (Q:VK) (E_:XK):Prop where
 | mk (l pb:av) (es:List En) (β:Rat) (n nb:Nat):vs=[.ref l,.ref pb]→H l=some (.lst (vals es))→Row H es n→iR es→rising es→0<es.length→es.length≤800→dF H pb β nb→0≤β→1≤n→n≤1500→(5*n+4*nb≤7900∧nb≤1000)→(∀(y Ll Lt:av) (ls:List Ln) (wJ:List Vh) (ks:List (Rat×Rat)) (fl ro:Nat) (g s:Option Rat) (T f:Rat) (H':Hp),au H H'→H' y=some (.tup [.ref Ll,.ref Lt])→H Ll=none→H Lt=none→H' Ll=some (.lst (ko ls))→uo H' ls (5*n+3*nb+7)→ls.map (·.2)=ks++[(T,f)]→H' Lt=some (.lst (wJ.map fun x=>V.ref x.1))→(∀x∈wJ,Qp H' es x)→Tr es β es.length fl ro ks (wJ.map (·.2))→AS es fl ro β g s→Ia es β fl g s T f→ks.length≤es.length→wJ.length≤es.length→Q (.ref y) H')→Hr C vs H Q E_
section
theorem ji:aF ["run","bound","bend","links","threes","sample","ended"] ["run","bound"] (ah uU):=0#a
theorem Jo (F:cT K "links_of" "links_of" uU f fd) (T:Txt mg) (aQ:Cl K mg "Bend" aC ["bound","twice","below","above","gentlest","steepest"]) (Kr:Dk P w K mg base 6 "Bend" aC ["self","bound"] (AN aC)) (qI:Dm P w K mg base 7 aC "take" ["self","sample"] (MG aC)) (kD:Dm P w K mg base 6 aC "line_now" ["self"] (To aC)):bf P w K mg base c7 8 f fd ["run","bound"] (Hr aC):=by
 refine F.ok ji 0#f 0#b
 ·obtain ⟨l,pb,es,β,n,nb,rfl,_⟩:=h
  rfl
 obtain ⟨l,pb,es,β,n,nb,rfl,hl,hR,hS,dX,h0,aeG,hb,lV,h1,hn,hnb,k⟩:=h
 refine bI ⟨_,(ao (aK 2 ji.nd (Jd.Sm Kr 0#A rfl (dG 0#r) (he:=bK) (hpl:=cB))) (ao (aK 3 ji.nd (dg dY)) (ao (aK 4 ji.nd (dg dY)) (ao (dP gF rfl (di K 0#l) (cg (i:=5) ji.nd rfl 0#m) (ao (aK 6 ji.nd (Jd.vQ qI aQ.cl 0#A 0#w (dG (aa 5)) (he:=bK) (hpl:=cB))) (aI (b9 (bF ir (aa 6) dH (aH _)) (ao (dZ (fZ K (aa 3) (aJ K (aa 6))) (hs:=dM)) (aI (dZ (fZ K (aa 4) (aJ K (aa 6))) (hs:=dM)))) cF)))) (ao (dZ (fZ K (aa 3) (Jd.LR kD aQ.cl 0#A 0#w)) (hs:=dM)) (aI (aU (bG (bC (aa 3) (aa 4)))))))))),?_⟩
 rw?
 intro p dx np ndx af0
 have hp7:upd (upd H dx (.own p)) p (.ins aC dx []) p=some (.ins aC dx []):=aA
 have s7:au H (upd (upd H dx (.own p)) p (.ins aC dx [])):=fun b' o e=>by
  rw [aM (bH e np),aM (bH e ndx)]
  exact e
 generalize upd (upd H dx (.own p)) p (.ins aC dx [])=H7 at *
 refine ⟨p,dx,pb,β,nb,rfl,hp7,hb.up s7,by try?,fun Lb La H8 kk s8 nb8 na8 hB8=>⟨rfl,?_⟩⟩
 have NI:au H H8:=fun b' o e=>s8 _ _ (by rw [mJ (bH e np)];exact s7 _ _ e)
 have nb0:H Lb=none:=s7.free nb8
 have na0:H La=none:=s7.free na8
 have Xg:lF aC H8 p Lb La [] 0 0 β n nb none none:=hB8.fresh
 rw?
 refine aE (mk:=.lst) 0#e fun Ll H9 s9 n9 e9=>?_
 rw?
 refine aE (mk:=.lst) 0#e fun Lt tU oV xq Di=>?_
 have yi:=s9.trans oV
 have SM:=NI.trans yi
 have nl0:H Ll=none:=NI.free n9
 have nt0:H Lt=none:=(NI.trans s9).free xq
 have nlt:Ll≠Lt:=fun z=>by rw [← z,e9] at xq;cases xq
 obtain ⟨_,⟨_,eb0⟩,⟨_,ea0⟩,_⟩:=Xg.ats
 rw?
 refine eF (iw ?_)
 rw?
 refine ⟨l,rfl,⟨_,aX.of (SM _ _ hl)⟩,dW (xs:=vals es) (fun i σ H3=>abV fun (v5 v6:Option V) (Lb La:av) (fl ro:Nat) (g s:Option Rat) (ls:List Ln) (wJ:List Vh)=>σ=[some (.ref l),some (.ref pb),some (.ref p),some (.ref Ll),some (.ref Lt),v5,v6]∧au H H3∧H Lb=none∧H La=none∧Ll≠Lb∧Ll≠La∧Lt≠Lb∧Lt≠La∧lF aC H3 p Lb La (es.take i) fl ro β n nb g s∧H3 Ll=some (.lst (ko ls))∧H3 Lt=some (.lst (wJ.map fun x=>V.ref x.1))∧uo H3 ls (5*n+3*nb+7)∧(∀x∈wJ,Qp H3 es x)∧Tr es β i fl ro (ls.map (·.2)) (wJ.map (·.2))∧ls.length≤i∧wJ.length≤i) ?_ ?_ ?_ ?_⟩
 ·refine ⟨none,none,Lb,La,0,0,none,none,[],[],rfl,SM,nb0,na0,fun z=>?_,fun z=>?_,fun z=>?_,fun z=>?_,Xg.up yi,oV _ _ e9,Di,fun x hx=>absurd hx 0#e,fun x hx=>absurd hx 0#e,.nil,dz _,dz _⟩
  ·rw [z,eb0] at n9;cases n9
  ·rw [z,ea0] at n9;cases n9
  ·rw [z,s9 _ _ eb0] at xq;cases xq
  ·rw [z,s9 _ _ ea0] at xq;cases xq
 ·rintro i σ H3 _ ⟨v5,v6,Lb,La,fl,ro,g,s,ls,wJ,rfl,s3,_⟩
  exact aX.of (s3 _ _ hl)
 ·rintro i v σ H3 hv ⟨v5,v6,Lb,La,fl,ro,g,s,ls,wJ,rfl,s3,nb3,na3,q1,q2,q3,q4,Eo,UX,VA,hL3,hT3,Rf,ll,lt⟩
  obtain ⟨x,gx,rfl⟩:=gr hv
  have hi:i<es.length:=(lR.mp gx).1
  obtain ⟨x',VF,fx⟩:=cI (hR.up s3) hS hi
  rw [gx] at VF
  cases VF
  have tl:(es.take i).length=i:=by rw [wZ];try?
  have tk:=take_snoc hS gx
  obtain ⟨⟨dx3,fs3,ep3,mt3,_⟩,⟨_,eb3⟩,⟨_,ea3⟩,hP3⟩:=Eo.ats
  have npl:Ll≠p:=fun z=>by rw [z,ep3] at UX;cases UX
  have npt:Lt≠p:=fun z=>by rw [z,ep3] at VA;cases VA
  have hm:∀c,c<(es.take i).length→mo (es.take i) c<mo es i:=fun c hc=>by
   rw [tl] at hc
   rw [lK hc]
   exact gV dX hc hi
  refine eU fun M B RR hM hB hR'=>?_
  rw?
  refine Qg ep3 mt3 ?_
  rw?
  have tup:∀{H4:Hp},au (PC p Lb La H3) H4→(∀{b:av} {xs:List V},H3 b=some 0#t→H4 b=some 0#t)∧au H H4∧H4 Ll=some (.lst (ko ls))∧H4 Lt=some (.lst (wJ.map fun x=>V.ref x.1)):=fun {H4} ks=>by
   refine ⟨fun {b xs} e=>ks _ _ ?_,acI s3 np nb3 na3 ks,ks _ _ ?_,ks _ _ ?_⟩
   ·rw [uP (fun z=>by rw [z,ep3] at e;cases e) (fun z=>by rw [z,eb3] at e;cases e) (fun z=>by rw [z,ea3] at e;cases e)]
    exact e
   ·rw [uP npl q1 q2]
    exact UX
   ·rw [uP npt q3 q4]
    exact VA
  refine ⟨p,Lb,La,x.1,es.take i,fl,ro,mo es i,wo es i,β,n,nb,g,s,rfl,Eo,fx,hm,by try?,h1,hn,hnb,lV,fun g' s' H4 ks hN Ep=>?_,fun r ln th Ba AZ G fo a b s2' H4 ks eg hC er fl4 eth Ep n1 n2=>?_,fun r ln th Ba AZ S fo a b g2' H4 ks es' hno hC er fl4 eth Ep n1 n2=>?_⟩
  ·obtain ⟨tp,sH,Fj,QU⟩:=tup ks
   rw?
   refine ⟨rfl,?_⟩
   rw?
   refine bU ?_
   rw?
   exact hM _ _ ⟨_,_,Lb,La,fl,ro,g',s',ls,wJ,rfl,sH,nb3,na3,q1,q2,q3,q4,by rw [tk];exact Ep,Fj,QU,hL3.tv tp,fun x hx=>tp (hT3 x hx),.stay Rf hi hP3 (by rw [tk];exact Ep.ats.2.2.2) hN,by try?,by try?⟩
  ·subst eg
   obtain ⟨tp,sH,Fj,QU⟩:=tup ks
   have hbl:=hC.lb
   have hab:=hC.hab
   rw [tl] at hbl
   rw?
   refine ⟨rfl,?_⟩
   rw?
   refine cu ?_
   rw?
   refine ⟨.inl ⟨rfl,_,aX.of Fj⟩,?_⟩
   rw?
   refine cz Fj (by unfold ko;rw [gJ];exact aN 0#d) ?_
   have nl1:Ll≠Ba:=fun z=>by rw [← z,UX] at n1;cases n1
   have nl2:Ll≠AZ:=fun z=>by rw [← z,UX] at n2;cases n2
   have nt1:Lt≠Ba:=fun z=>by rw [← z,VA] at n1;cases n1
   have nt2:Lt≠AZ:=fun z=>by rw [← z,VA] at n2;cases n2
   have KN:=Ep.app (zs:=ko ls++[.ref ln]) Fj nl1 nl2
   have Qk:∀{b:av} {xs:List V},H4 b=some 0#t→upd H4 Ll (.lst (ko ls++[.ref ln])) b=some 0#t:=fun e=>kg Fj e
   have eL5:upd H4 Ll (.lst (ko ls++[.ref ln])) Ll=some (.lst (ko (ls++[(ln,G,fo)]))):=by rw [aA];simp [ko]
   have QV:upd H4 Ll (.lst (ko ls++[.ref ln])) Lt=some (.lst (wJ.map fun x=>V.ref x.1)):=by rw [aM (jn nlt)];exact QU
   have sH5:au H (upd H4 Ll (.lst (ko ls++[.ref ln]))):=aY sH nl0
   have er5:=Qk er
   generalize upd H4 Ll (.lst (ko ls++[.ref ln]))=H5 at *
   rw?
   refine ⟨.inl ⟨rfl,_,aX.of QV⟩,?_⟩
   rw?
   refine cz QV (by rw [gJ];exact aN 0#d) ?_
   have tp6:∀{b:av} {xs:List V},H5 b=some 0#t→upd H5 Lt (.lst ((wJ.map fun x=>V.ref x.1)++[.ref th])) b=some 0#t:=fun e=>kg QV e
   refine hM _ _ ⟨_,_,Ba,AZ,b,(es.take i).length,none,s2',ls++[(ln,G,fo)],wJ++[(th,(true,a,b,i))],rfl,aY sH5 nt0,s3.free n1,s3.free n2,nl1,nl2,nt1,nt2,by rw [tk];exact KN.app QV nt1 nt2,by rw [aM nlt];exact eL5,by rw [aA];simp,?_,fun z hz=>?_,?_,by rw [fq];show _+1≤i+1;try?,by rw [fq];show _+1≤i+1;try?⟩
   ·exact (((hL3.tv tp).snoc fl4).tv Qk).tv tp6
   ·rcases dN.mp hz with z | z
    ·exact tp6 (Qk (tp (hT3 _ z)))
    ·obtain rfl:_=(th,(true,a,b,i)):=by simpa using z
     refine tp6 (Qk ?_)
     show H4 th=_
     rw [eth,lK (show a<i by try?),lK hbl]
   ·rw [tl,i9,i9]
    exact .cap Rf hi hP3 hC
  ·subst es'
   obtain ⟨tp,sH,Fj,QU⟩:=tup ks
   have hbl:=hC.lb
   have hab:=hC.hab
   rw [tl] at hbl
   rw?
   refine ⟨rfl,?_⟩
   rw?
   refine cu ?_
   rw?
   refine ⟨.inl ⟨rfl,_,aX.of Fj⟩,?_⟩
   rw?
   refine cz Fj (by unfold ko;rw [gJ];exact aN 0#d) ?_
   have nl1:Ll≠Ba:=fun z=>by rw [← z,UX] at n1;cases n1
   have nl2:Ll≠AZ:=fun z=>by rw [← z,UX] at n2;cases n2
   have nt1:Lt≠Ba:=fun z=>by rw [← z,VA] at n1;cases n1
   have nt2:Lt≠AZ:=fun z=>by rw [← z,VA] at n2;cases n2
   have KN:=Ep.app (zs:=ko ls++[.ref ln]) Fj nl1 nl2
   have Qk:∀{b:av} {xs:List V},H4 b=some 0#t→upd H4 Ll (.lst (ko ls++[.ref ln])) b=some 0#t:=fun e=>kg Fj e
   have eL5:upd H4 Ll (.lst (ko ls++[.ref ln])) Ll=some (.lst (ko (ls++[(ln,S,fo)]))):=by rw [aA];simp [ko]
   have QV:upd H4 Ll (.lst (ko ls++[.ref ln])) Lt=some (.lst (wJ.map fun x=>V.ref x.1)):=by rw [aM (jn nlt)];exact QU
   have sH5:au H (upd H4 Ll (.lst (ko ls++[.ref ln]))):=aY sH nl0
   have er5:=Qk er
   generalize upd H4 Ll (.lst (ko ls++[.ref ln]))=H5 at *
   rw?
   refine ⟨.inl ⟨rfl,_,aX.of QV⟩,?_⟩
   rw?
   refine cz QV (by rw [gJ];exact aN 0#d) ?_
   have tp6:∀{b:av} {xs:List V},H5 b=some 0#t→upd H5 Lt (.lst ((wJ.map fun x=>V.ref x.1)++[.ref th])) b=some 0#t:=fun e=>kg QV e
   refine hM _ _ ⟨_,_,Ba,AZ,(es.take i).length,b,g2',none,ls++[(ln,S,fo)],wJ++[(th,(false,a,b,i))],rfl,aY sH5 nt0,s3.free n1,s3.free n2,nl1,nl2,nt1,nt2,by rw [tk];exact KN.app QV nt1 nt2,by rw [aM nlt];exact eL5,by rw [aA];simp,?_,fun z hz=>?_,?_,by rw [fq];show _+1≤i+1;try?,by rw [fq];show _+1≤i+1;try?⟩
   ·exact (((hL3.tv tp).snoc fl4).tv Qk).tv tp6
   ·rcases dN.mp hz with z | z
    ·exact tp6 (Qk (tp (hT3 _ z)))
    ·obtain rfl:_=(th,(false,a,b,i)):=by simpa using z
     refine tp6 (Qk ?_)
     show H4 th=_
     rw [eth,lK (show a<i by try?),lK hbl]
   ·rw [tl,i9,i9]
    exact .cup Rf hi hP3 hno hC
 ·rintro σ H3 ⟨v5,v6,Lb,La,fl,ro,g,s,ls,wJ,rfl,s3,nb3,na3,q1,q2,q3,q4,Eo,UX,VA,hL3,hT3,Rf,ll,lt⟩
  rw [aO] at *
  rw [jH] at Eo
  obtain ⟨⟨dx3,fs3,ep3,_,mn3⟩,_,_,hP3⟩:=Eo.ats
  rw?
  refine ⟨.inl ⟨rfl,_,aX.of UX⟩,?_⟩
  rw?
  refine Qg ep3 mn3 ?_
  rw?
  refine ⟨p,Lb,La,es,fl,ro,β,n,nb,g,s,rfl,Eo,by try?,h1,hn,hnb,fun z=>absurd h0 (by rw [z];decide),fun _ ln TT fo H4 s4 f4 VG=>?_⟩
  have el4:=s4 _ _ UX
  rw?
  refine cz el4 (by unfold ko;rw [gJ];exact aN 0#d) ?_
  rw?
  have Qk:∀{b:av} {xs:List V},H4 b=some 0#t→upd H4 Ll (.lst (ko ls++[.ref ln])) b=some 0#t:=fun e=>kg el4 e
  refine aE (mk:=.tup) 0#e fun y H6 s6 n6 e6=>?_
  refine k y Ll Lt (ls++[(ln,TT,fo)]) wJ (ls.map (·.2)) fl ro g s TT fo H6 (fun b o e=>s6 _ _ (aY (s3.trans s4) nl0 _ _ e)) e6 nl0 nt0 (s6 _ _ ?_) (uo.tv (fun {b xs} e=>s6 _ _ e) (((hL3.tv fun {b xs} e=>s4 _ _ e).snoc f4).tv Qk)) 0#e (s6 _ _ ?_) (fun x hx=>s6 _ _ (Qk (s4 _ _ (hT3 x hx)))) Rf hP3 VG (by rw [gJ];exact ll) lt
  ·rw [aA];simp [ko]
  ·rw [aM (jn nlt)];exact s4 _ _ VA
end
def HW (ks:List (Rat×Rat)) (i:Nat):Rat:=((ks[i]?).map (·.1)).getD 0
def Pa (ks:List (Rat×Rat)) (i:Nat):Rat:=((ks[i]?).map (·.2)).getD 0
def xAt (ks:List (Rat×Rat)) (i:Nat):Rat:=(Pa ks (i+1)-Pa ks i)/(HW ks i-HW ks (i+1))
def jl (ks:List (Rat×Rat)) (t0 t1:Int) (i:Nat):Rat×Rat:=
 if i=0 then ((t0:Rat),HW ks 0*(t0:Rat)+Pa ks 0) else if i<ks.length then (xAt ks (i-1),HW ks (i-1)*xAt ks (i-1)+Pa ks (i-1)) else ((t1:Rat),HW ks (ks.length-1)*(t1:Rat)+Pa ks (ks.length-1))
def LQ (ks:List (Rat×Rat)) (t0 t1:Int) (i:Nat):Rat×Rat×Rat×Rat:=((jl ks t0 t1 i).1,(jl ks t0 t1 i).2,(jl ks t0 t1 (i+1)).1,(jl ks t0 t1 (i+1)).2)
theorem lJ (ls:List Ln):(ko ls).length=ls.length:=gJ ..
theorem F0 {i:Nat} (h:(ko ls)[i]?=some v):∃x,ls[i]?=some x∧v=.ref x.1:=by
 unfold ko at h
 rw [dm] at h
 cases e:ls[i]? with
 | none=>rw [e] at h;cases h
 | some x=>rw [e] at h;cases h;exact ⟨x,rfl,rfl⟩
theorem Nt {i:Nat} (h:ls[i]?=some x):(ko ls)[i]?=some (.ref x.1):=by
 unfold ko
 rw [dm,h]
 rfl
theorem acL {ls:List Ln} (h:ls[i]?=some x):HW (ls.map (·.2)) i=x.2.1∧Pa (ls.map (·.2)) i=x.2.2:=by
 unfold HW Pa
 rw [dm,h]
 exact ⟨rfl,rfl⟩
theorem QK (xs:List V):jS xs (some 1) none=xs.drop 1:=by
 unfold jS
 rw [show (1:Int)=((1:Nat):Int) from rfl,HT.AL,show HT.GW xs.length xs.length none=xs.length from rfl]
 rcases Zt 1 xs.length with z | z
 ·rw [ES z]
  exact NX (by rw [iP];exact dz _)
 ·rw [YO z,NY z,NY (dz _)]
  simp
inductive Hu (vs:List V) (H:Hp) (Q:VK) (E_:XK):Prop where
 | mk (p:av) (T f:Rat) (t:Int) (n:Nat):vs=[.ref p,.int t]→iU H p T f n→Sz n t→1≤n→n≤1300→(∀(y:av) (H':Hp),au H H'→iU H' y (t:Rat) (T*(t:Rat)+f) (6*n+3)→Q (.ref y) H')→Hu vs H Q E_
inductive Hl (vs:List V) (H:Hp) (Q:VK) (E_:XK):Prop where
 | mk (l:av) (ls:List Ln) (t0 t1:Int) (n:Nat):vs=[.ref l,.int t0,.int t1]→H l=some (.lst (ko ls))→uo H ls n→0<ls.length→ls.length≤900→Sz n t0→Sz n t1→1≤n→n≤1300→(∀i,i+1<ls.length→HW (ls.map (·.2)) i≠HW (ls.map (·.2)) (i+1))→(∀(R:av) (ps:List Pc) (H':Hp),au H H'→H R=none→H' R=some (.lst (ps.map fun x=>V.ref x.1))→AllP H' ps (6*n+3)→ps.map (·.2)=(fu ls.length).map (LQ (ls.map (·.2)) t0 t1)→Q (.ref R) H')→Hl vs H Q E_
section
theorem JD:aF ["line","moment"] ["line","moment"] (ah uW):=0#a
theorem Jq (F:cT K "point_on" "point_on" uW f fd) (iI:Dn P w K mg base 5 "height" ["line","when"] se):bf P w K mg base c7 6 f fd ["line","moment"] Hu:=by
 refine F.ok JD 0#f 0#b
 ·obtain ⟨p,T,f,t,n,rfl,_⟩:=h
  rfl
 obtain ⟨p,TT,fo,t,n,rfl,hL,zt,h1,hn,k⟩:=h
 refine bI ⟨_,(aI (aU (bG (bC (bG (bC 0#r aq)) (bY iI hr 0#l (bG (bC 0#r aq))))))),?_⟩
 rw?
 refine aE (mk:=.tup) 0#e fun a H1 s1 n1 e1=>?_
 have fa:dF H1 a (t:Rat) n:=⟨t,1,e1,⟨by decide,by simp,by grind⟩,zt,pR h1⟩
 rw?
 refine aE (mk:=.tup) 0#e fun b H2 s2 n2 e2=>?_
 rw?
 refine ⟨p,b,TT,fo,(t:Rat),n,n,rfl,hL.JQ (s1.trans s2),sC e2 zt h1,by try?,fun z H3 s3 f3=>?_⟩
 rw?
 refine aE (mk:=.tup) 0#e fun y H4 s4 n4 e4=>?_
 exact k y H4 (s1.trans (s2.trans (s3.trans s4))) ⟨a,z,e4,(fa.up (s2.trans (s3.trans s4))).mono 0#d,(f3.up s4).mono 0#d⟩
theorem qA:aF ["links","first","last","points"] ["links","first","last"] (ah mS):=0#a
theorem Ar (F:cT K "pieces_along" "pieces_along" mS f fd) (T:Txt mg) (pJ:Dn P w K mg base 6 "point_on" ["line","moment"] Hu) (Ks:Dn P w K mg base 6 "meet" ["line","other"] MD):bf P w K mg base c7 7 f fd ["links","first","last"] Hl:=by
 refine F.ok qA 0#f 0#b
 ·obtain ⟨l,ls,t0,t1,n,rfl,_⟩:=h
  rfl
 obtain ⟨l,ls,t0,t1,n,rfl,hl,hL,h0,mC,z0,z1,h1,hn,hne,k⟩:=h
 generalize hks:ls.map (·.2)=ks at *
 have Rn:ks.length=ls.length:=by rw [← hks,gJ]
 have lat:∀{i:Nat} {x:Ln},ls[i]?=some x→HW ks i=x.2.1∧Pa ks i=x.2.2:=fun {i x} h=>by rw [← hks];exact acL h
 obtain ⟨x0,g0⟩:∃x,ls[0]?=some x:=⟨ls[0],mX h0⟩
 obtain ⟨xl,gl⟩:∃x,ls[ls.length-1]?=some x:=⟨ls[ls.length-1],mX 0#d⟩
 refine bI ⟨_,(ao (aK 3 qA.nd (dg (dG (bY pJ hr (Jd.iL K 0#l) 0#r)))) (ao (dZ (Jd.Io K (aa 3) (nh (O:=["line","behind"]) (N':=[]) (cap:=[]) rfl (Jd.B5 K rfl T.abM (bC 0#l (qW (Tf K) 0#l (qY aq) qX))) (fun _ _ _ _ _=>(Jd.Qf K (n:=2) rfl (gM (cg (i:=0) (show i8 [("line":Str),("behind":Str)] by decide +kernel) rfl 0#m) (gM (cg (i:=1) (show i8 [("line":Str),("behind":Str)] by decide +kernel) rfl 0#m) qZ)))) (fun _ _ _ _ _=>lC) (fun _ _ _ _ _=>(fN Ks 0#A rfl (cO 0#l (cO 0#r dY bK) bK) (he:=bK) (hpl:=(cD bK cB)))) rfl trivial rfl 0#g rfl 0#g)) (hs:=dM)) (ao (dZ (fZ K (aa 3) (bY pJ hr (bD (fK K) 0#l (eV cW aq) 0#h) 0#w)) (hs:=dM)) (aI (aU (nh (O:=["start","end"]) (N':=[]) (cap:=[]) rfl (Jd.B5 K rfl T.abM (bC (aa 3) (qW (Tf K) (aa 3) (qY aq) qX))) (fun _ _ _ _ _=>(Jd.Qf K (n:=2) rfl (gM (cg (i:=0) (show i8 [("start":Str),("end":Str)] by decide +kernel) rfl 0#m) (gM (cg (i:=1) (show i8 [("start":Str),("end":Str)] by decide +kernel) rfl 0#m) qZ)))) (fun _ _ _ _ _=>lC) (fun _ _ _ _ _=>(aG (abZ K) 0#l 0#r)) rfl trivial rfl 0#g rfl 0#g)))))),?_⟩
 rw?
 refine cA hl (gK (j:=0) (Nt g0)) ?_
 rw?
 refine ⟨x0.1,x0.2.1,x0.2.2,t0,n,rfl,hL x0 (mY g0),z0,h1,hn,fun y0 H1 s1 f1=>?_⟩
 rw?
 refine aE (mk:=.lst) 0#e fun PT H2 s2 n2 e2=>?_
 have gD:=s1.trans s2
 have nPT:H PT=none:=s1.free n2
 rw?
 refine ⟨.inl ⟨rfl,_,aX.of e2⟩,?_⟩
 rw?
 refine SG ?_
 rw?
 refine ⟨_,rfl,1,rfl,l,_,rfl,aX.of (gD _ _ hl),fun P1 nP1=>?_⟩
 rw [QK]
 have s3:au H2 (upd H2 P1 (.lst ((ko ls).drop 1))):=aY (au.refl _) nP1
 have e3:upd H2 P1 (.lst ((ko ls).drop 1)) P1=some (.lst ((ko ls).drop 1)):=aA
 generalize upd H2 P1 (.lst ((ko ls).drop 1))=H3 at *
 have mK:=gD.trans s3
 rw?
 refine ⟨l,P1,_,_,rfl,aX.of (mK _ _ hl),aX.of e3,?_⟩
 refine xD (HZ:=ls.length-1) (by rw [lJ];try?) (by rw [iP,lJ];try?) (.inr (by rw [iP,lJ];try?)) (fun H9 s9=>⟨aX.of ((mK.trans s9) _ _ hl),aX.of (s9 _ _ e3)⟩) 0#d (fun c ys G=>∃qs:List Ln,ys=ko qs∧uo G qs (6*n+3)∧qs.map (·.2)=(fu c).map fun i=>jl ks t0 t1 (i+1)) ⟨[],rfl,fun x hx=>absurd hx 0#e,rfl⟩ ?_ ?_
 ·rintro D c v v' ys H9 tU pp jK NN N0 hh0 hD eD s9 oV epp hc hv hv' hy ⟨qs,rfl,hqs,hmap⟩ kY kN
  obtain ⟨x,gx,rfl⟩:=F0 hv
  rw [ly,zP] at hv'
  obtain ⟨x',VF,rfl⟩:=F0 hv'
  have SM:=mK.trans (s9.trans oV)
  obtain ⟨l1,l2⟩:=lat gx
  obtain ⟨l3,l4⟩:=lat VF
  have hc':c+1<ls.length:=(lR.mp VF).1
  have ne:x.2.1≠x'.2.1:=by rw [← l1,← l3];exact hne c hc'
  refine Cd hh0 epp ?_
  rw?
  refine cu ?_
  rw?
  refine ⟨x.1,x'.1,_,_,_,_,n,rfl,(hL x (mY gx)).JQ SM,(hL x' (mY VF)).JQ SM,h1,hn,fun z=>absurd z ne,fun _ z a b MS Dq Z7 fa fb=>?_⟩
  have pe:jl ks t0 t1 (c+1)=((x'.2.2-x.2.2)/(x.2.1-x'.2.1),x.2.1*((x'.2.2-x.2.2)/(x.2.1-x'.2.1))+x.2.2):=by
   unfold jl xAt
   rw [if_neg 0#c,if_pos 0#c,J0,l1,l2,l3,l4]
  refine kY _ MS Dq ⟨qs++[(z,jl ks t0 t1 (c+1))],by simp [ko],fun y hy'=>?_,?_⟩
  ·rcases dN.mp hy' with w | w
   ·exact (hqs y w).tv fun {b xs} e=>(rE (oV.trans Dq)) _ _ e
   ·obtain rfl:y=(z,jl ks t0 t1 (c+1)):=by simpa using w
    rw [pe]
    have ln:iU MS z ((x'.2.2-x.2.2)/(x.2.1-x'.2.1)) (x.2.1*((x'.2.2-x.2.2)/(x.2.1-x'.2.1))+x.2.2) (6*n+3):=⟨a,b,Z7,fa.mono 0#d,fb⟩
    exact ln.tv fun {b xs} e=>d9 ((oV.trans Dq) _ _ eD) e
  ·rw [i9,hmap,vd,i9]
   rfl
 rintro D ys H4 hD eD s4 hy ⟨qs,rfl,hqs,hmap⟩
 have vg:=mK.trans s4
 have e24:=(s3.trans s4) _ _ e2
 have f14:=f1.JQ (s2.trans (s3.trans s4))
 have aeW:uo H4 qs (6*n+3):=hqs.tv fun {b xs} e=>gO _ _ e
 have hql:qs.length=ls.length-1:=by
  have:=congrArg tT hmap
  simpa using this
 rw?
 refine EG e24 eD (by rw [lJ];exact tS (aN (by show 1+qs.length≤1000;try?))) ?_
 have t5:∀{b:av} {xs:List V},H4 b=some 0#t→upd H4 PT (.lst ([.ref y0]++ko qs)) b=some 0#t:=fun e=>kg e24 e
 have e5:upd H4 PT (.lst ([.ref y0]++ko qs)) PT=some (.lst (ko ((y0,jl ks t0 t1 0)::qs))):=by rw [aA];rfl
 have s5:au H (upd H4 PT (.lst ([.ref y0]++ko qs))):=aY vg nPT
 have p0:jl ks t0 t1 0=((t0:Rat),x0.2.1*(t0:Rat)+x0.2.2):=by
  unfold jl
  rw [if_pos rfl,(lat g0).1,(lat g0).2]
 have hA5:uo (upd H4 PT (.lst ([.ref y0]++ko qs))) ((y0,jl ks t0 t1 0)::qs) (6*n+3):=fun y hy'=>by
  rcases qv.mp hy' with w | w
  ·subst w
   rw [p0]
   exact f14.tv t5
  ·exact (aeW y w).tv t5
 generalize upd H4 PT (.lst ([.ref y0]++ko qs))=H5 at *
 rw?
 refine ⟨.inl ⟨rfl,_,aX.of e5⟩,?_⟩
 rw?
 refine cA (s5 _ _ hl) (v:=.ref xl.1) ?_ ?_
 ·unfold pM
  rw [pN (m:=ls.length-1) (by rw [lJ];try?)]
  exact Nt gl
 rw?
 refine ⟨xl.1,xl.2.1,xl.2.2,t1,n,rfl,(hL xl (mY gl)).JQ s5,z1,h1,hn,fun yl H6 s6 f6=>?_⟩
 have e6:=s6 _ _ e5
 rw?
 refine cz e6 (by rw [lJ];exact aN (by show qs.length+1≤1000;try?)) ?_
 have pn:jl ks t0 t1 ls.length=((t1:Rat),xl.2.1*(t1:Rat)+xl.2.2):=by
  unfold jl
  rw [if_neg 0#c,if_neg 0#c,Rn,(lat gl).1,(lat gl).2]
 have t7:∀{b:av} {xs:List V},H6 b=some 0#t→upd H6 PT (.lst (ko ((y0,jl ks t0 t1 0)::qs)++[.ref yl])) b=some 0#t:=fun e=>kg e6 e
 have e7:upd H6 PT (.lst (ko ((y0,jl ks t0 t1 0)::qs)++[.ref yl])) PT=some (.lst (ko ((y0,jl ks t0 t1 0)::qs++[(yl,jl ks t0 t1 ls.length)]))):=by rw [aA];simp [ko]
 have s7:au H (upd H6 PT (.lst (ko ((y0,jl ks t0 t1 0)::qs)++[.ref yl]))):=aY (s5.trans s6) nPT
 have hA7:uo (upd H6 PT (.lst (ko ((y0,jl ks t0 t1 0)::qs)++[.ref yl]))) ((y0,jl ks t0 t1 0)::qs++[(yl,jl ks t0 t1 ls.length)]) (6*n+3):=by
  refine uo.snoc ((hA5.tv fun {b xs} e=>s6 _ _ e).tv t7) ?_
  show iU _ yl _ _ _
  rw [pn]
  exact f6.tv t7
 have hm7:((y0,jl ks t0 t1 0)::qs++[(yl,jl ks t0 t1 ls.length)]).map (·.2)=(fu (ls.length+1)).map (jl ks t0 t1):=by
  rw [i9,C5,hmap,vd,i9]
  congr 1
  rw [show ls.length=(ls.length-1)+1 by try?,List.range_succ_eq_map,C5,qB,J0]
  rfl
 generalize afX:(y0,jl ks t0 t1 0)::qs++[(yl,jl ks t0 t1 ls.length)]=Xs at *
 generalize upd H6 PT (.lst (ko ((y0,jl ks t0 t1 0)::qs)++[.ref yl]))=H7 at *
 have hpl:Xs.length=ls.length+1:=by
  have:=congrArg tT hm7
  simpa using this
 have pat:∀{i:Nat} {x:Ln},Xs[i]?=some x→x.2=jl ks t0 t1 i:=fun {i x} h=>by
  have hi:i<Xs.length:=(lR.mp h).1
  have e1:(Xs.map (·.2))[i]?=some x.2:=by rw [dm,h];rfl
  rw [hm7,dm,HN 0#d] at e1
  exact (xg e1).symm
 rw?
 refine SG ?_
 rw?
 refine ⟨_,rfl,1,rfl,PT,_,rfl,aX.of e7,fun P8 nP8=>?_⟩
 rw [QK]
 have s8:au H7 (upd H7 P8 (.lst ((ko Xs).drop 1))):=aY (au.refl _) nP8
 have e8:upd H7 P8 (.lst ((ko Xs).drop 1)) P8=some (.lst ((ko Xs).drop 1)):=aA
 generalize upd H7 P8 (.lst ((ko Xs).drop 1))=H8 at *
 rw?
 refine ⟨PT,P8,_,_,rfl,aX.of (s8 _ _ e7),aX.of e8,?_⟩
 refine xD (HZ:=ls.length) (by rw [lJ];try?) (by rw [iP,lJ];try?) (.inr (by rw [iP,lJ];try?)) (fun H9 s9=>⟨aX.of ((s8.trans s9) _ _ e7),aX.of (s9 _ _ e8)⟩) 0#d (fun c ys G=>∃ps:List Pc,ys=(ps.map fun x=>V.ref x.1)∧AllP G ps (6*n+3)∧ps.map (·.2)=(fu c).map (LQ ks t0 t1)) ⟨[],rfl,fun x hx=>absurd hx 0#e,rfl⟩ ?_ ?_
 ·rintro D' c v v' ys H9 tU pp jK NN N0 hh0 Xh HV s9 oV epp hc hv hv' hy ⟨ps,rfl,hps,hmp⟩ kY kN
  obtain ⟨x,gx,rfl⟩:=F0 hv
  rw [ly,zP] at hv'
  obtain ⟨x',VF,rfl⟩:=F0 hv'
  have SR:=s8.trans (s9.trans oV)
  obtain ⟨a1,b1,ex,fa1,fb1⟩:=(hA7 x (mY gx)).JQ SR
  obtain ⟨a2,b2,ex',fa2,fb2⟩:=(hA7 x' (mY VF)).JQ SR
  refine Cd hh0 epp ?_
  rw?
  refine cu ?_
  rw?
  refine Sw ex ex' ?_
  refine aE (mk:=.tup) 0#e fun z MS Dq n11 Z7=>?_
  refine kY _ MS Dq ⟨ps++[(z,LQ ks t0 t1 c)],by simp,fun y hy'=>?_,?_⟩
  ·rcases dN.mp hy' with w | w
   ·exact (hps y w).mv fun {b xs} e=>(rE (oV.trans Dq)) _ _ e
   ·obtain rfl:y=(z,LQ ks t0 t1 c):=by simpa using w
    have q1:=pat gx
    have q2:=pat VF
    have pc:Bc MS (z,LQ ks t0 t1 c) (6*n+3):=by
     unfold LQ
     rw [← q1,← q2]
     exact ⟨a1,b1,a2,b2,Z7,fa1.up Dq,fb1.up Dq,fa2.up Dq,fb2.up Dq⟩
    exact pc.mv fun {b xs} e=>d9 ((oV.trans Dq) _ _ HV) e
  ·rw [i9,hmp,vd,i9]
   rfl
 rintro D' ys H9 Xh HV s9 hy ⟨ps,rfl,hps,hmp⟩
 rw?
 exact k D' ps H9 (s7.trans (s8.trans s9)) ((s7.trans s8).free Xh) HV (fun x hx=>(hps x hx).mv fun {b xs} e=>gO _ _ e) hmp
end
def AX (es:List En) (β:Rat) (k fl ro:Nat) (L:Rat×Rat):Prop:=(∀i,fl≤i→i<k→cR es L.1 i-β≤L.2)∧∀i,ro≤i→i<k→L.2≤cR es L.1 i+β
theorem D8.KG (hk:k≤es.length) (h:D8 (es.take k) β fl ro m q G f a b):AX es β k fl ro (G,f):=by
 have tl:(es.take k).length=k:=by rw [wZ];simp?
 refine ⟨fun i h1 h2=>?_,fun i h1 h2=>?_⟩
 ·have:=h.lo i h1 (by rw [tl];exact h2)
  rw [gC h2] at this
  exact this
 ·have:=h.hi i h1 (by rw [tl];exact h2)
  rw [gC h2] at this
  exact this
theorem D9.KG (hk:k≤es.length) (h:D9 (es.take k) β fl ro m q S f a b):AX es β k fl ro (S,f):=by
 have tl:(es.take k).length=k:=by rw [wZ];simp?
 refine ⟨fun i h1 h2=>?_,fun i h1 h2=>?_⟩
 ·have:=h.lo i h1 (by rw [tl];exact h2)
  rw [gC h2] at this
  exact this
 ·have:=h.hi i h1 (by rw [tl];exact h2)
  rw [gC h2] at this
  exact this
theorem Ia.KG (h:AS es fl ro β g s) (lV:0≤β) (hN:Ia es β fl g s T f):AX es β es.length fl ro (T,f):=by
 rcases hN with ⟨hc,lo,ex⟩ | ⟨eg,es',eT,ef⟩
 ·refine ⟨lo,?_⟩
  rcases hc with eg | ⟨eg,es'⟩
  ·obtain ⟨g1,g2⟩:=h.hiG eg
   exact (Eg lV h.DT g1 g2 lo ex).1
  ·obtain ⟨g1,g2⟩:=h.loS es'
   exact (Ej lV h.DT g1 g2 lo ex).1
 ·have h2:=h.two.mpr ⟨eg,es'⟩
  refine ⟨fun i h1 hi=>?_,fun i h1 hi=>?_⟩
  ·obtain rfl:i=fl:=by have:=h.lt 0#c;simp?
   show cR es T i-β≤f
   unfold cR
   rw [eT,ef]
   grind
  ·have:=h.lt 0#c
   obtain rfl:i=fl:=by simp?
   show f≤cR es T i+β
   unfold cR
   rw [eT,ef]
   grind
def Rel (es:List En) (z:Bool×Nat×Nat×Nat) (L0 L1:Rat×Rat):Prop:=z.2.2.1<z.2.2.2∧z.2.2.2<es.length ∧
 if z.1=true then L0.1*(mo es z.2.2.1:Rat)+L0.2≤L1.1*(mo es z.2.2.1:Rat)+L1.2∧L1.1*(mo es z.2.2.2:Rat)+L1.2<L0.1*(mo es z.2.2.2:Rat)+L0.2
 else L1.1*(mo es z.2.2.1:Rat)+L1.2≤L0.1*(mo es z.2.2.1:Rat)+L0.2∧L0.1*(mo es z.2.2.2:Rat)+L0.2<L1.1*(mo es z.2.2.2:Rat)+L1.2
inductive Ch (es:List En):List (Rat×Rat)→List (Bool×Nat×Nat×Nat)→Rat×Rat→Prop where
 | one {L:Rat×Rat}:Ch es [] [] L
 | more {ks:List (Rat×Rat)} {ts:List (Bool×Nat×Nat×Nat)} {L0 L1:Rat×Rat} {z:Bool×Nat×Nat×Nat} (h:Ch es ks ts L0) (hR:Rel es z L0 L1):Ch es (ks++[L0]) (ts++[z]) L1
theorem Vo (hk:k<es.length) (h:D8 (es.take k) β fl ro (mo es k) (wo es k) G f a b) (hF:AX es β (k+1) b k L):Rel es (true,a,b,k) (G,f) L:=by
 have tl:(es.take k).length=k:=by rw [wZ];simp?
 have hb:=h.lb
 rw [tl] at hb
 have eb:=h.eb
 rw [gC hb] at eb
 obtain ⟨i,i1,i2,ei⟩:=h.off
 have li:=h.lo i i1 i2
 have f1:=hF.1 b (dz _) 0#c
 have f2:=hF.2 k (dz _) 0#c
 unfold cR at eb f1 f2
 refine ⟨hb,hk,?_⟩
 rw [if_pos rfl]
 refine ⟨by show G*(mo es b:Rat)+f≤L.1*(mo es b:Rat)+L.2;grind,?_⟩
 show L.1*(mo es k:Rat)+L.2<G*(mo es k:Rat)+f
 grind
theorem Vr (hk:k<es.length) (h:D9 (es.take k) β fl ro (mo es k) (wo es k) S f a b) (hF:AX es β (k+1) k b L):Rel es (false,a,b,k) (S,f) L:=by
 have tl:(es.take k).length=k:=by rw [wZ];simp?
 have hb:=h.lb
 rw [tl] at hb
 have eb:=h.eb
 rw [gC hb] at eb
 obtain ⟨i,i1,i2,ei⟩:=h.off
 have li:=h.hi i i1 i2
 have f1:=hF.2 b (dz _) 0#c
 have f2:=hF.1 k (dz _) 0#c
 unfold cR at eb f1 f2
 refine ⟨hb,hk,?_⟩
 rw [if_neg dD]
 refine ⟨by show L.1*(mo es b:Rat)+L.2≤S*(mo es b:Rat)+f;grind,?_⟩
 show S*(mo es k:Rat)+f<L.1*(mo es k:Rat)+L.2
 grind
theorem Tr.ch (h:Tr es β k fl ro ks ts):∀L,AX es β k fl ro L→Ch es ks ts L:=by
 induction h with
 | nil=>exact fun L _=>.one
 | stay h hk hP hP' hN ih=>exact fun L hF=>ih L ⟨fun i a b=>hF.1 i a 0#c,fun i a b=>hF.2 i a 0#c⟩
 | cap h hk hP hC ih=>exact fun L hF=>.more (ih _ (hC.KG (tS hk))) (Vo hk hC hF)
 | cup h hk hP hn hC ih=>exact fun L hF=>.more (ih _ (hC.KG (tS hk))) (Vr hk hC hF)
theorem Tr.len (h:Tr es β k fl ro ks ts):ks.length=ts.length∧ks.length≤k:=by
 induction h with
 | nil=>exact ⟨rfl,dz _⟩
 | stay h hk hP hP' hN ih=>exact ⟨ih.1,by simp?⟩
 | cap h hk hP hC ih=>exact ⟨by rw [fq,fq,ih.1];rfl,by rw [fq];show _+1≤_;simp?⟩
 | cup h hk hP hn hC ih=>exact ⟨by rw [fq,fq,ih.1];rfl,by rw [fq];show _+1≤_;simp?⟩
theorem Rel.ne (hr:rising es)  (h:Rel es z L0 L1):L0.1≠L1.1:=by
 obtain ⟨h1,h2,h3⟩:=h
 intro e
 split at h3
 ·rw [e] at h3
  grind
 ·rw [e] at h3
  grind
theorem BG (h:i<ks.length):HW (ks++[L]) i=HW ks i∧Pa (ks++[L]) i=Pa ks i:=by
 unfold HW Pa
 rw [wX h]
 exact ⟨rfl,rfl⟩
theorem Jb:HW (ks++[L]) ks.length=L.1∧Pa (ks++[L]) ks.length=L.2:=by
 unfold HW Pa
 simp
theorem Ch.sep (hr:rising es)  (h:Ch es ks ts L):∀i,i<ks.length→HW (ks++[L]) i≠HW (ks++[L]) (i+1):=by
 induction h with
 | one=>exact fun i hi=>absurd hi (D7 _)
 | @more ks ts L0 L1 z h hR ih=>
   intro i hi
   rw [fq] at hi
   have hi':i<ks.length+1:=hi
   by_cases e:i=ks.length
   ·subst e
    have e1:HW (ks++[L0]++[L1]) (ks.length+1)=L1.1:=by
     have:=(Jb (ks:=ks++[L0]) (L:=L1)).1
     rw [fq] at this
     exact this
    rw [e1,(BG (by rw [fq];show ks.length<ks.length+1;simp?)).1,(Jb).1]
    exact hR.ne hr
   ·have q1:=(BG (ks:=ks++[L0]) (L:=L1) (i:=i) (by rw [fq];exact hi')).1
    have q2:=(BG (ks:=ks++[L0]) (L:=L1) (i:=i+1) (by rw [fq];show i+1<ks.length+1;simp?)).1
    rw [q1,q2]
    exact ih i 0#c
def OA (H:Hp) (β:Rat) (N:Nat) (r:List En) (z:List Pc×List Vh):Prop:=AllP H z.1 N∧(∀x∈z.2,Qp H r x)∧∃(ks:List (Rat×Rat)) (L:Rat×Rat) (fl ro:Nat) (g s:Option Rat),Tr r β r.length fl ro ks (z.2.map (·.2))∧AS r fl ro β g s∧Ia r β fl g s L.1 L.2∧z.1.map (·.2)=(fu (ks.length+1)).map (LQ (ks++[L]) (mo r 0) (mo r (r.length-1)))
theorem OA.tv (t:∀{b:av} {xs:List V},H b=some 0#t→H' b=some 0#t) (h:OA H β N r z):OA H' β N r z:=⟨fun x hx=>(h.1 x hx).mv t,fun x hx=>t (h.2.1 x hx),h.2.2⟩
def om (zs:List (List Pc×List Vh)):List V:=(zs.map fun z=>z.1.map fun x=>V.ref x.1).flatten
def FU (zs:List (List Pc×List Vh)):List V:=(zs.map fun z=>z.2.map fun x=>V.ref x.1).flatten
inductive wj (C:av) (vs:List V) (H:Hp) (Q:VK) (E_:XK):Prop where
 | mk (l pb:av) (es:List En) (β:Rat) (n nb:Nat):vs=[.ref l,.ref pb]→H l=some (.lst (vals es))→Row H es n→rising es→es.length≤40→dF H pb β nb→0≤β→1≤n→n≤1500→(5*n+4*nb≤7900∧nb≤1000)→5*n+3*nb+7≤1300→(∀(y X Z:av) (zs:List (List Pc×List Vh)) (H':Hp),au H H'→H' y=some (.tup [.ref X,.ref Z])→H X=none→H Z=none→X≠Z→H' X=some (.lst (om zs))→H' Z=some (.lst (FU zs))→jt (OA H' β (6*(5*n+3*nb+7)+3)) (parts dU es es.length) zs→Q (.ref y) H')→wj C vs H Q E_
section
variable {P:jk} {w:eG} {K:bZ} {mg:Str→Option aL} {base:cJ} {f aC:av} {fd:jF}
theorem zA:∀i:Nat,(parts s es i).flatten=(es.take i).filter s
 | 0=>by simp [parts]
 | i+1=>by
   have ih:=zA (s:=s) (es:=es) i
   unfold parts
   cases e:es[i]? with
   | none=>
     dsimp only
     rw [ih,qF,e]
     simp
   | some x=>
     have tk:es.take (i+1)=es.take i++[x]:=by rw [qF,e];rfl
     rw [tk,D6]
     dsimp only
     split
     ·rename_i hs
      split
      ·rename_i hr
       obtain ⟨t,r,hp⟩:=rB hr
       rw [← ih,hp]
       simp [hs]
      ·rw [EL,ih]
       simp [hs]
     ·rename_i hs
      rw [ih]
      simp [hs]
theorem KH {α:Type} {l:List (List α)} (i:Nat):(l.take i).flatten.length≤l.flatten.length:=by
 conv=>rhs;rw [← JW i l]
 rw [EL,fq]
 simp?
theorem oW:aF ["row","bound","telling","paper","run","found"] ["row","bound"] (ah Cj):=0#a
theorem Pp (F:cT K "joined" "joined" Cj f fd) (T:Txt mg) (pK:Dn P w K mg base 1 "runs" ["row"] CJ) (ux:Dn P w K mg base 8 "links_of" ["run","bound"] (Hr aC)) (mq:Dn P w K mg base 7 "pieces_along" ["links","first","last"] Hl):bf P w K mg base c7 9 f fd ["row","bound"] (wj aC):=by
 refine F.ok oW 0#f 0#b
 ·obtain ⟨l,pb,es,β,n,nb,rfl,_⟩:=h
  rfl
 obtain ⟨l,pb,es,β,n,nb,rfl,hl,hR,dX,lI,hb,lV,h1,hn,hnb,hM,k⟩:=h
 refine bI ⟨_,(ao (aK 2 oW.nd (dg dY)) (ao (aK 3 oW.nd (dg dY)) (ao (dP gF rfl (di K (Jd.c1 pK hr 0#l)) (cg (i:=4) oW.nd rfl 0#m) (ao (aK 5 oW.nd (bY ux hr (aa 4) 0#r)) (ao (dZ (Jd.Io K 0#w (Jd.c3 mq hr (aJ K (aa 5)) (aJ K (Jd.iL K (aa 4))) (aJ K (bD (fK K) (aa 4) (eV cW aq) 0#h)))) (hs:=dM)) (aI (dZ (Jd.Io K (aa 3) (aJ K (aa 5))) (hs:=dM)))))) (aI (aU (bG (bC 0#w (aa 3)))))))),?_⟩
 rw?
 refine aE (mk:=.lst) 0#e fun X H1 s1 n1 e1=>?_
 rw?
 refine aE (mk:=.lst) 0#e fun Z H2 s2 n2 e2=>?_
 have gD:=s1.trans s2
 have Pg:X≠Z:=fun z=>by rw [← z,e1] at n2;cases n2
 have nZ0:H Z=none:=s1.free n2
 rw?
 refine eF (iw ?_)
 rw?
 refine ⟨l,es,n,rfl,gD _ _ hl,hR.up gD,lI,fun TT ls H3 s3 Dj hls aeP _=>?_⟩
 have hll:ls.length=(parts dU es es.length).length:=by rw [← hls,gJ]
 have own:∀{G:Hp} {R:av} {v:List V},LL H2 G TT ls→H2 R=some (.lst v)→R≠TT∧∀x∈ls,x.1≠R:=fun hG e=>⟨(fun z=>by rw [z,hG.new] at e;cases e),(fun x hx z=>by rw [← z,(hG.each x hx).1] at e;cases e)⟩
 obtain ⟨a1,a2⟩:=own Dj (s2 _ _ e1)
 obtain ⟨b1,b2⟩:=own Dj e2
 have hF:∀i,((parts dU es es.length).take i).flatten.length≤40:=fun i=>by
  have q1:=KH (l:=parts dU es es.length) i
  rw [zA,jH] at q1
  have q2:(es.filter dU).length≤es.length:=N2 ..
  try?
 refine ⟨TT,rfl,⟨_,aX.of Dj.at_⟩,dW (xs:=lrefs ls) (fun i σ H4=>MV fun (zs:List (List Pc×List Vh)) (v5 v6:Option V)=>σ=[some (.ref l),some (.ref pb),some (.ref X),some (.ref Z),v5,v6]∧au H H4∧LL H2 H4 TT ls∧H4 X=some (.lst (om zs))∧H4 Z=some (.lst (FU zs))∧(om zs).length≤2*((parts dU es es.length).take i).flatten.length∧(FU zs).length≤((parts dU es es.length).take i).flatten.length∧jt (OA H4 β (6*(5*n+3*nb+7)+3)) ((parts dU es es.length).take i) zs) ?_ ?_ ?_ ?_⟩
 ·exact ⟨[],none,none,rfl,gD.trans s3,Dj,(s2.trans s3) _ _ e1,s3 _ _ e2,mW _,dz _,trivial⟩
 ·rintro i σ H4 _ ⟨zs,v5,v6,rfl,s4,AB,_⟩
  exact aX.of AB.at_
 ·rintro i x σ H4 hx ⟨zs,v5,v6,rfl,s4,AB,eX,eZ,hz1,hz2,hJ⟩
  refine eU fun M B RR hM' _ _=>?_
  obtain ⟨x,gx,rfl⟩:=oO hx
  have hi:i<ls.length:=(lR.mp gx).1
  have Qa:=mY gx
  have hp:(parts dU es es.length)[i]?=some x.2:=by rw [← hls,dm,gx];rfl
  obtain ⟨o1,o2,o3⟩:=lX es.length x.2 (mY hp)
  rw [jH] at o3
  obtain ⟨_,ex,_⟩:=AB.each x Qa
  have hx1:1≤x.2.length:=HP.mpr o1
  have acC:x.2.length≤40:=eE o3.length_le lI
  have hRx:Row H4 x.2 n:=fun z hz=>hR.up s4 z (o3.subset hz)
  have hrx:rising x.2:=dX.sublist o3
  have tkF:((parts dU es es.length).take (i+1)).flatten.length=((parts dU es es.length).take i).flatten.length+x.2.length:=by
   rw [C3,hp,EL,fq]
   simp
  have hF1:=hF (i+1)
  rw?
  refine ⟨x.1,pb,x.2,β,n,nb,rfl,ex,hRx,o2,hrx,hx1,by try?,hb.up s4,lV,h1,hn,hnb,fun y5 Ll Lt ln wJ ks fl ro g s T5 f5 H5 s5 e5 nl5 nt5 eL5 hA5 hmap QV hT5 Rf hP VG hk5 ht5=>?_⟩
  have hch:=Rf.ch (T5,f5) (VG.KG hP lV)
  have hsep:=hch.sep hrx
  have aeQ:ln.length=ks.length+1:=by
   have:=congrArg tT hmap
   simpa using this
  have JB:=s4.trans s5
  have hL5:=AB.up s5
  obtain ⟨_,ex5,_⟩:=hL5.each x Qa
  obtain ⟨xa,ga,fa⟩:=cI (hRx.up s5) o2 (show 0<x.2.length by try?)
  obtain ⟨xb,gb,fb⟩:=cI (hRx.up s5) o2 (show x.2.length-1<x.2.length by try?)
  obtain ⟨va,ea,_,zma⟩:=id fa
  obtain ⟨vb,eb,_,zmb⟩:=id fb
  rw?
  refine ⟨.inl ⟨rfl,_,aX.of (s5 _ _ eX)⟩,?_⟩
  rw?
  refine cA ex5 (AA ga) ?_
  rw?
  refine cA ex5 (E7 gb) ?_
  rw?
  refine ⟨Ll,ln,mo x.2 0,mo x.2 (x.2.length-1),5*n+3*nb+7,rfl,eL5,hA5,by try?,by try?,zma.mono 0#d,zmb.mono 0#d,by try?,hM,?_,fun R6 ps H6 s6 nR6 eR6 hP6 hm6=>?_⟩
  ·intro j hj
   rw [hmap]
   exact hsep j 0#d
  rw [hmap,aeQ] at hm6
  have s56:=s5.trans s6
  have eX6:=s56 _ _ eX
  have afW:ps.length=ks.length+1:=by
   have:=congrArg tT hm6
   simpa using this
  have e56:=s6 _ _ e5
  rw?
  refine EG eX6 eR6 (by rw [gJ];exact tS (aN 0#d)) ?_
  have tp7:∀{b:av} {xs:List V},H6 b=some 0#t→upd H6 X (.lst (om zs++ps.map fun x=>V.ref x.1)) b=some 0#t:=fun e=>kg eX6 e
  have eX7:upd H6 X (.lst (om zs++ps.map fun x=>V.ref x.1)) X=some (.lst (om (zs++[(ps,wJ)]))):=by rw [aA];simp [om]
  have nZX:Z≠X:=jn Pg
  have eZ7:upd H6 X (.lst (om zs++ps.map fun x=>V.ref x.1)) Z=some (.lst (FU zs)):=by rw [aM nZX];exact s56 _ _ eZ
  have ae9:Lt≠X:=fun z=>by rw [z,eX] at nt5;cases nt5
  have eT7:upd H6 X (.lst (om zs++ps.map fun x=>V.ref x.1)) Lt=some (.lst (wJ.map fun x=>V.ref x.1)):=by rw [aM ae9];exact s6 _ _ QV
  have hL7:LL H2 (upd H6 X (.lst (om zs++ps.map fun x=>V.ref x.1))) TT ls:=(AB.up s56).other a1 a2
  have EH:au H (upd H6 X (.lst (om zs++ps.map fun x=>V.ref x.1))):=aY (s4.trans s56) n1
  have e57:=tp7 e56
  generalize upd H6 X (.lst (om zs++ps.map fun x=>V.ref x.1))=H7 at *
  rw?
  refine ⟨.inl ⟨rfl,_,aX.of eZ7⟩,?_⟩
  rw?
  refine EG eZ7 eT7 (by rw [gJ];exact tS (aN 0#d)) ?_
  have tp8:∀{b:av} {xs:List V},H7 b=some 0#t→upd H7 Z (.lst (FU zs++wJ.map fun x=>V.ref x.1)) b=some 0#t:=fun e=>kg eZ7 e
  have l1:(om (zs++[(ps,wJ)])).length=(om zs).length+ps.length:=by simp [om]
  have l2:(FU (zs++[(ps,wJ)])).length=(FU zs).length+wJ.length:=by simp [FU]
  refine hM' _ _ ⟨zs++[(ps,wJ)],_,_,rfl,aY EH nZ0,hL7.other b1 b2,by rw [aM Pg];exact eX7,by rw [aA];simp [FU],by rw [l1,tkF];try?,by rw [l2,tkF];try?,?_⟩
  rw [C3,hp]
  refine mz (sP (fun a b _ h=>h.tv fun {b xs} e=>tp8 (tp7 (s56 _ _ e))) hJ) ⟨fun z hz=>((hP6 z hz).mv tp7).mv tp8,fun z hz=>tp8 (tp7 (s6 _ _ (hT5 z hz))),ks,(T5,f5),fl,ro,g,s,Rf,hP,VG,hm6⟩
 ·rintro σ H4 ⟨zs,v5,v6,rfl,s4,AB,eX,eZ,_,_,hJ⟩
  rw [dR,hll,jH] at hJ
  rw?
  refine aE (mk:=.tup) 0#e fun y H5 s5 n5 e5=>?_
  exact k y X Z zs H5 (s4.trans s5) e5 n1 nZ0 Pg (s5 _ _ eX) (s5 _ _ eZ) (sP (fun a b _ h=>h.tv fun {b xs} e=>s5 _ _ e) hJ)
end
def oH (t w:Nat→Rat) (β:Rat) (k fl ro:Nat) (T f:Rat):Prop:=(∀i,fl≤i→i<k→w i-T*t i-β≤f)∧∀i,ro≤i→i<k→f≤w i-T*t i+β
structure AY (t w:Nat→Rat) (β:Rat) (k fl ro F:Nat):Prop where
 le:F≤ro
 below:∀T f,oH t w β k fl ro T f→∀i,F≤i→i<k→f≤w i-T*t i+β
 Z0:∀T f,oH t w β k fl ro T f→∀i j,F≤i→i<j→j<k→∀x v:Rat,(∀m,m<k→t m<x)→T*x+f≤v→(w j-β)*(x-t i)≤(w i+β)*(x-t j)+v*(t j-t i)
section
theorem acG:AY t w β 0 0 0 0:=⟨dz _,fun _ _ _ i _ h=>absurd h (D7 _),fun _ _ _ i j _ _ h=>absurd h (D7 _)⟩
theorem RI {T:Rat} (h1:ti<tk) (h2:tk<x) (hb:f≤wi-T*ti+β) (hl:wk-T*tk-β≤f) (hv:T*x+f≤v):(wk-β)*(x-ti)≤(wi+β)*(x-tk)+v*(tk-ti):=by
 have a1:0≤x-tk:=by grind
 have a2:0≤tk-ti:=by grind
 have a3:0≤x-ti:=by grind
 have m1:=yM (show T*ti+f≤wi+β by grind) a1
 have m2:=yM hv a2
 have m3:=yM (show wk-β≤T*tk+f by grind) a3
 grind
theorem IX (hr:∀i j,i<j→j<k+1→t i<t j) (hfl:fl≤k) (tN:ro≤k) (h:AY t w β k fl ro F):AY t w β (k+1) fl ro F:=by
 have old:∀{T f:Rat},oH t w β (k+1) fl ro T f→oH t w β k fl ro T f:=fun hF=>⟨fun i a b=>hF.1 i a 0#c,fun i a b=>hF.2 i a 0#c⟩
 have bl:∀T f,oH t w β (k+1) fl ro T f→∀i,F≤i→i<k+1→f≤w i-T*t i+β:=fun T f hF i h1 h2=>by
  by_cases e:i=k
  ·subst e
   exact hF.2 i tN 0#c
  ·exact h.below T f (old hF) i h1 0#c
 refine ⟨h.le,bl,fun T f hF i j h1 h2 h3 x v hx hv=>?_⟩
 by_cases e:j=k
 ·subst e
  exact RI (hr i j h2 0#c) (hx j 0#c) (bl T f hF i h1 0#c) (hF.1 j hfl 0#c) hv
 ·exact h.Z0 T f (old hF) i j h1 h2 0#c x v (fun m hm=>hx m 0#c) hv
theorem Nj:AY t w β (k+1) b k k:=
 ⟨dz _,fun T f hF i h1 h2=>hF.2 i h1 h2,fun T f hF i j h1 h2 h3=>absurd h3 0#c⟩
theorem Nk (hr:∀i j,i<j→j<k+1→t i<t j) (h:AY t w β k fl ro F) (hF0:oH t w β k fl ro S f0) (hb1:ro≤b) (hb2:b<k) (eb:w b-S*t b+β=f0) (ek:f0<w k-S*t k-β):AY t w β (k+1) k b F:=by
 have key:∀T f,oH t w β (k+1) k b T f→S<T∧T*t b+f≤S*t b+f0∧S*t k+f0<T*t k+f:=fun T f hF=>by
  have l1:=hF.1 k (dz _) 0#c
  have l2:=hF.2 b (dz _) 0#c
  have d:=hr b k hb2 0#c
  have a1:T*t b+f≤S*t b+f0:=by grind
  have a2:S*t k+f0<T*t k+f:=by grind
  refine ⟨qC.mp fun z=>?_,a1,a2⟩
  have:=yM z (show 0≤t k-t b by grind)
  grind
 have bl:∀T f,oH t w β (k+1) k b T f→∀i,F≤i→i<k+1→f≤w i-T*t i+β:=fun T f hF i h1 h2=>by
  by_cases e:b≤i
  ·exact hF.2 i e h2
  ·obtain ⟨q1,q2,q3⟩:=key T f hF
   have d:=hr i b 0#c 0#c
   have o:=h.below S f0 hF0 i h1 0#c
   have:=yM (Kd q1) (show 0≤t b-t i by grind)
   grind
 refine ⟨eE h.le hb1,bl,fun T f hF i j h1 h2 h3 x v hx hv=>?_⟩
 by_cases e:j=k
 ·subst e
  exact RI (hr i j h2 0#c) (hx j 0#c) (bl T f hF i h1 0#c) (hF.1 j (dz _) 0#c) hv
 ·obtain ⟨q1,q2,q3⟩:=key T f hF
  refine h.Z0 S f0 hF0 i j h1 h2 0#c x v (fun m hm=>hx m 0#c) ?_
  have dx:=hx k 0#c
  have:=yM (Kd q1) (show 0≤x-t k by grind)
  grind
theorem RQ (hr:∀i j,i<j→j<k+1→t i<t j) (h:AY t w β k fl ro F) (hF0:oH t w β k fl ro S f0) (ek:S*t k+f0≤w k+β)  (h1:F≤i) (h2:i<j) (h3:j<k):w j*(t k-t i)-w i*(t k-t j)-w k*(t j-t i)≤2*β*(t k-t i):=by
 have:=h.Z0 S f0 hF0 i j h1 h2 h3 (t k) (w k+β) (fun m hm=>hr m k hm 0#c) ek
 grind
end
inductive Gr (E:Nat→Nat→Prop):Nat→Nat→Nat→Prop where
 | nil:Gr E 0 0 0
 | no {k F n:Nat} (h:Gr E k F n) (he:¬E F k):Gr E (k+1) F n
 | yes {k F n:Nat} (h:Gr E k F n) (he:E F k):Gr E (k+1) k (n+1)
theorem Gr.uniq (h:Gr E k F n):∀{F' n':Nat},Gr E k F' n'→F=F'∧n=n':=by
 induction h with
 | nil=>intro F' n' h';cases h';exact ⟨rfl,rfl⟩
 | no h he ih=>
   intro F' n' h'
   cases h' with
   | no h2 U0=>exact ih h2
   | yes h2 U0=>
     obtain ⟨rfl,rfl⟩:=ih h2
     exact absurd U0 he
 | yes h he ih=>
   intro F' n' h'
   cases h' with
   | no h2 U0=>
     obtain ⟨rfl,rfl⟩:=ih h2
     exact absurd he U0
   | yes h2 U0=>exact ⟨rfl,by rw [(ih h2).2]⟩
def ZL (es:List En) (β:Rat) (F k:Nat):Prop:=∃i j,F≤i∧i<j∧j<k∧2*β<sd es i j k
def Kw (es:List En) (β:Rat) (F k:Nat):Prop:=∃i j,F≤i∧i<j∧j<k∧sd es i j k < -(2*β)
theorem S7 (hr:rising es)  (h1:i<j) (h2:j<k) (h3:k<es.length):sd es i j k*((mo es k:Rat)-(mo es i:Rat))=wo es j*((mo es k:Rat)-(mo es i:Rat))-wo es i*((mo es k:Rat)-(mo es j:Rat))-wo es k*((mo es j:Rat)-(mo es i:Rat)):=by
 have d:=iX hr (zQ h1 h2) h3
 unfold sd cZ
 generalize hD:(mo es k:Rat)-(mo es i:Rat)=D at *
 have:D≠0:=by grind
 grind
theorem AS.line (h:AS ss fl ro β g s) (lV:0≤β) (h0:0<ss.length):∃L,AX ss β ss.length fl ro L:=by
 cases hg:g with
 | some G=>
   obtain ⟨g1,g2⟩:=h.hiG hg
   obtain ⟨q,p,a1,a2,a3,a4,e⟩:=id g1.2
   have e':=(Ld h.DT a2 a4).mp e
   refine ⟨(G,cR ss G q+β),fun i hi hl=>?_,fun i hi hl=>?_⟩
   ·have:=OD (a:=q) (b:=i) (by grind) h.DT g1.1 g2 a1 hi 0#c hl
    show cR ss G i-β≤cR ss G q+β
    grind
   ·have:=OD (a:=i) (b:=p) (by grind) h.DT g1.1 g2 hi a3 hl a4
    show cR ss G q+β≤cR ss G i+β
    grind
 | none=>
   cases hs:s with
   | some S=>
     obtain ⟨g1,g2⟩:=h.loS hs
     obtain ⟨q,p,a1,a2,a3,a4,e⟩:=id g1.2
     have e':=(FO h.DT a2 a4).mp e
     refine ⟨(S,cR ss S q-β),fun i hi hl=>?_,fun i hi hl=>?_⟩
     ·have:=OD (a:=p) (b:=i) (by grind) h.DT g2 g1.1 a3 hi a4 hl
      show cR ss S i-β≤cR ss S q-β
      grind
     ·have:=OD (a:=i) (b:=q) (by grind) h.DT g2 g1.1 hi a1 hl 0#c
      show cR ss S q-β≤cR ss S i+β
      grind
   | none=>
     have h2:=h.two.mpr ⟨hg,hs⟩
     refine ⟨(0,wo ss 0),fun i hi hl=>?_,fun i hi hl=>?_⟩
     ·obtain rfl:i=0:=by simp?
      show cR ss 0 0-β≤wo ss 0
      unfold cR
      grind
     ·obtain rfl:i=0:=by simp?
      show wo ss 0≤cR ss 0 0+β
      unfold cR
      grind
def vE (c:Bool):List (Bool×Nat×Nat×Nat)→Nat:=fun ts=>(ts.filter (fun z=>z.1==c)).getLast?.elim 0 (·.2.2.2)
def cnt (c:Bool) (ts:List (Bool×Nat×Nat×Nat)):Nat:=(ts.filter (fun z=>z.1==c)).length
theorem pO:vE c (ts++[(c,a,b,k)])=k∧cnt c (ts++[(c,a,b,k)])=cnt c ts+1:=by
 unfold vE cnt
 rw [D6]
 simp
theorem nA (h:d≠c):vE c (ts++[(d,a,b,k)])=vE c ts∧cnt c (ts++[(d,a,b,k)])=cnt c ts:=by
 unfold vE cnt
 rw [D6]
 have:(d==c)=false:=by simpa using h
 simp [this]
theorem Vq (ts:List (Bool×Nat×Nat×Nat)):cnt true ts+cnt false ts=ts.length:=by
 unfold cnt
 induction ts with
 | nil=>rfl
 | cons z r ih=>
   obtain ⟨c,z⟩:=z
   cases c with
   | true=>
     rw [JT (by rfl),NW 0#e]
     simp only [zL]
     simp?
   | false=>
     rw [NW 0#e,JT (by rfl)]
     simp only [zL]
     simp?
theorem Bp (h:AX es β k fl ro L):oH (fun i=>(mo es i:Rat)) (wo es) β k fl ro L.1 L.2:=⟨fun i a b=>h.1 i a b,fun i a b=>h.2 i a b⟩
theorem xE (h:AX es β k fl ro L):oH (fun i=>(mo es i:Rat)) (fun i=>- wo es i) β k ro fl (-L.1) (-L.2):=
 ⟨fun i a b=>by
  have:=h.2 i a b
  unfold cR at this
  grind,fun i a b=>by
  have:=h.1 i a b
  unfold cR at this
  grind⟩
theorem Tr.most (hr:rising es) (lV:0≤β)  (h:Tr es β k fl ro ks ts) :
 AY (fun i=>(mo es i:Rat)) (wo es) β k fl ro (vE true ts)∧AY (fun i=>(mo es i:Rat)) (fun i=>- wo es i) β k ro fl (vE false ts)∧Gr (ZL es β) k (vE true ts) (cnt true ts)∧Gr (Kw es β) k (vE false ts) (cnt false ts):=by
 have hrk:∀{k:Nat},k<es.length→∀i j,i<j→j<k+1→(fun i=>(mo es i:Rat)) i<(fun i=>(mo es i:Rat)) j:=fun hk i j h1 h2=>vc.mpr (gV hr h1 0#c)
 have Xq:∀{k fl ro F:Nat} {T f:Rat},k<es.length→AY (fun i=>(mo es i:Rat)) (wo es) β k fl ro F→oH (fun i=>(mo es i:Rat)) (wo es) β k fl ro T f→T*(mo es k:Rat)+f≤wo es k+β→¬ZL es β F k:=fun {k fl ro F T f} hk hI hF ek ⟨i,j,h1,h2,h3,h4⟩=>by
  have:=RQ (hrk hk) hI hF ek h1 h2 h3
  have e:=S7 hr h2 h3 hk
  have m:=HG h4 (iX hr (zQ h2 h3) hk)
  grind
 have Xr:∀{k fl ro F:Nat} {T f:Rat},k<es.length→AY (fun i=>(mo es i:Rat)) (fun i=>- wo es i) β k ro fl F→oH (fun i=>(mo es i:Rat)) (fun i=>- wo es i) β k ro fl T f→T*(mo es k:Rat)+f≤- wo es k+β→¬Kw es β F k:=fun {k fl ro F T f} hk hI hF ek ⟨i,j,h1,h2,h3,h4⟩=>by
  have:=RQ (hrk hk) hI hF ek h1 h2 h3
  have e:=S7 hr h2 h3 hk
  have m:=HG h4 (iX hr (zQ h2 h3) hk)
  grind
 have afN:∀{k i a b:Nat},k≤es.length→i<k→a<k→b<k→sd (es.take k) i a b=sd es i a b:=fun hk hi ha hb=>by
  unfold sd
  rw [lK hi,AR hi,lK ha,AR ha,lK hb,AR hb]
 induction h with
 | nil=>exact ⟨acG,acG,.nil,.nil⟩
 | @stay k fl ro ls ts g s g' s' h hk hP hP' hN ih=>
   obtain ⟨i1,i2,g1,g2⟩:=ih
   have tl:(es.take k).length=k:=by rw [wZ];simp?
   have tl':(es.take (k+1)).length=k+1:=by rw [wZ];simp?
   have hfl:=hP.hfl
   have tN:=hP.tN
   rw [tl] at hfl tN
   obtain ⟨L,hL⟩:=hP'.line lV (by rw [tl'];simp?)
   rw [tl'] at hL
   have hL':AX es β (k+1) fl ro L:=⟨fun i a b=>by have:=hL.1 i a b;rw [gC b] at this;exact this,fun i a b=>by have:=hL.2 i a b;rw [gC b] at this;exact this⟩
   have hL0:AX es β k fl ro L:=⟨fun i a b=>hL'.1 i a 0#c,fun i a b=>hL'.2 i a 0#c⟩
   have u1:=hL'.1 k hfl 0#c
   have u2:=hL'.2 k tN 0#c
   unfold cR at u1 u2
   refine ⟨IX (hrk hk) hfl tN i1,IX (hrk hk) tN hfl i2,.no g1 ?_,.no g2 ?_⟩
   ·exact Xq hk i1 (Bp hL0) (by grind)
   ·exact Xr hk i2 (xE hL0) (by grind)
 | @cap k fl ro a b ls ts s G f h hk hP hC ih=>
   obtain ⟨i1,i2,g1,g2⟩:=ih
   have tl:(es.take k).length=k:=by rw [wZ];simp?
   have hb:=hC.lb
   have hab:=hC.hab
   rw [tl] at hb
   have hF:=hC.KG (tS hk)
   have eb:=hC.eb
   rw [gC hb] at eb
   obtain ⟨i,j1,j2,ej⟩:=hC.off
   have lj:=hC.lo i j1 j2
   obtain ⟨x,gx⟩:∃x,es[k]?=some x:=⟨es[k],mX hk⟩
   have low:f<wo es k-G*(mo es k:Rat)-β→False:=fun z=>by grind
   have up:wo es k-G*(mo es k:Rat)+β<f:=by grind
   rw [(pO).1,(pO).2,(nA 0#i).1,(nA 0#i).2]
   have sdk:2*β<sd es a b k:=by
    refine adp (T:=G) (f:=f) hr hab hb hk ?_ eb ?_
    ·have:=hC.ea
     rw [gC 0#c] at this
     exact this
    ·unfold cR
     grind
   refine ⟨Nj,?_,.yes g1 ⟨a,b,eE i1.le hC.ha,hab,hb,sdk⟩,.no g2 ?_⟩
   ·refine Nk (S:=-G) (f0:=-f) (hrk hk) i2 (xE hF) hC.hb hb ?_ ?_
    ·unfold cR at eb
     grind
    ·grind
   ·exact Xr hk i2 (xE hF) (by show -G*(mo es k:Rat)+-f≤- wo es k+β;grind)
 | @cup k fl ro a b ls ts g S f h hk hP hn hC ih=>
   obtain ⟨i1,i2,g1,g2⟩:=ih
   have tl:(es.take k).length=k:=by rw [wZ];simp?
   have hb:=hC.lb
   have hab:=hC.hab
   rw [tl] at hb
   have hF:=hC.KG (tS hk)
   have eb:=hC.eb
   rw [gC hb] at eb
   obtain ⟨i,j1,j2,ej⟩:=hC.off
   have lj:=hC.hi i j1 j2
   have up:f<wo es k-S*(mo es k:Rat)-β:=by grind
   rw [(pO).1,(pO).2,(nA 0#i).1,(nA 0#i).2]
   have sdk:sd es a b k < -(2*β):=by
    refine adq (T:=S) (f:=f) hr hab hb hk ?_ eb ?_
    ·have:=hC.ea
     rw [gC 0#c] at this
     exact this
    ·unfold cR
     grind
   refine ⟨?_,Nj,.no g1 ?_,.yes g2 ⟨a,b,eE i2.le hC.ha,hab,hb,sdk⟩⟩
   ·refine Nk (S:=S) (f0:=f) (hrk hk) i1 (Bp hF) hC.hb hb ?_ ?_
    ·unfold cR at eb
     grind
    ·grind
   ·exact Xq hk i1 (Bp hF) (by show S*(mo es k:Rat)+f≤wo es k+β;grind)
def Seg (es:List Nn) (i:Nat) (ls:List (List Nn)) (c:List Nn):Prop:=(ls++[c]).filter (fun r=>!r.isEmpty)=parts vL es i∧(cy vL es i=true↔c≠[])
theorem WO (h:Seg es i ls c) (he:es[i]?=some e) (hs:vL e=false):Seg es (i+1) (ls++[c]) []:=by
 obtain ⟨h1,h2⟩:=h
 refine ⟨?_,?_⟩
 ·rw [jh he hs,← h1,D6 (l₁:=ls++[c])]
  simp
 ·rw [iW he,hs]
  simp
theorem abt (h:Seg es i ls c) (he:es[i]?=some e) (hs:vL e=true):Seg es (i+1) ls (c++[e]):=by
 obtain ⟨h1,h2⟩:=h
 refine ⟨?_,?_⟩
 ·rw [D6] at h1 ⊢
  cases hi:cy vL es i with
  | true=>
    have hc:=h2.mp hi
    have:(!c.isEmpty)=true:=by cases c with | nil=>exact absurd rfl hc | cons a b=>rfl
    rw [C0,this,if_pos rfl,Uq] at h1
    rw [jx he hs hi h1.symm]
    simp
  | false=>
    have hc:c=[]:=P4 fun z=>by rw [h2.mpr z] at hi;cases hi
    subst hc
    rw [iu he hs hi,← h1]
    simp
 ·rw [iW he,hs]
  simp
structure VL (H H2:Hp) (T:av) (ls:List (av×List V)):Prop where
 new:H T=none
 at_:H2 T=some (.lst (ls.map fun x=>V.ref x.1))
 each:∀x∈ls,H x.1=none∧H2 x.1=some (.lst x.2)∧x.1≠T
 nd:(ls.map (·.1)).Nodup
section
theorem VL.up (h:VL H H2 T ls) (s:au H2 H3):VL H H3 T ls:=⟨h.new,s _ _ h.at_,fun x hx=>let ⟨a,b,c⟩:=h.each x hx;⟨a,s _ _ b,c⟩,h.nd⟩
theorem VL.push (h:VL H H2 T ls) (hR:H R=none) (eR:H2 R=some (.lst rn)) (hT:R≠T) (hl:∀x∈ls,x.1≠R):VL H (upd H2 T (.lst (ls.map (fun x=>V.ref x.1)++[.ref R]))) T (ls++[(R,rn)]):=by
 refine ⟨h.new,by rw [aA];simp,fun x hx=>?_,?_⟩
 ·rcases dN.mp hx with z | z
  ·obtain ⟨a,b,c⟩:=h.each x z
   exact ⟨a,by rw [aM c];exact b,c⟩
  ·obtain rfl:x=(R,rn):=by simpa using z
   exact ⟨hR,by rw [aM hT];exact eR,hT⟩
 ·rw [i9]
  refine Ob.mpr ⟨h.nd,by simp,fun a ha b hb=>?_⟩
  obtain ⟨x,hx,rfl⟩:=gP.mp ha
  obtain rfl:b=R:=by simpa using hb
  exact hl x hx
theorem VL.last (h:VL H H2 T (ls++[(L,c)])):VL H (upd H2 L (.lst (c++[x]))) T (ls++[(L,c++[x])]):=by
 obtain ⟨hL,eL,nL⟩:=h.each (L,c) 0#e
 have hnd:=h.nd
 rw [i9] at hnd
 have hne:∀y∈ls,y.1≠L:=fun y hy z=>(Ob.mp hnd).2.2 y.1 (gP.mpr ⟨y,hy,rfl⟩) L 0#e z
 refine ⟨h.new,?_,fun y hy=>?_,by rw [i9];exact hnd⟩
 ·rw [aM (jn nL)]
  have:=h.at_
  simpa using this
 ·rcases dN.mp hy with z | z
  ·obtain ⟨a,b,c'⟩:=h.each y (EK _ z)
   exact ⟨a,by rw [aM (hne y z)];exact b,c'⟩
  ·obtain rfl:y=(L,c++[x]):=by simpa using z
   exact ⟨hL,aA,nL⟩
end
abbrev Nls:=List (av×List Nn)
def Pj (ls:Nls):List (av×List V):=ls.map fun x=>(x.1,bJ x.2)
inductive Hs (vs:List V) (H:Hp) (Q:VK) (E_:XK):Prop where
 | mk (l:av) (es:List Nn) (m n:Nat):vs=[.ref l]→H l=some (.lst (bJ es))→ic H es m n→es.length≤40→(∀(D:av) (ls:Nls) (H':Hp),au H H'→H D=none→H' D=some (.lst (ls.map fun x=>V.ref x.1))→(∀x∈ls,H x.1=none∧H' x.1=some (.lst (bJ x.2)))→ls.map (·.2)=parts vL es es.length→Q (.ref D) H')→Hs vs H Q E_
section
theorem rX:aF ["_law_row_here","_law_parts","_law_one"] ["_law_row_here"] (ah uS):=0#a
theorem Jl (F:cT K "_law_runs" "_law_runs" uS f fd) (T:Txt mg):bf P w K mg base c7 1 f fd ["_law_row_here"] Hs:=by
 refine F.ok rX 0#f 0#b
 ·obtain ⟨l,es,m,n,rfl,_⟩:=h
  rfl
 obtain ⟨l,es,m,n,rfl,hl,hes,hn,k⟩:=h
 refine bI ⟨_,(ao (aK 1 rX.nd (dg (dG (dg dY)))) (ao (dP gF rfl (di K 0#l) (cg (i:=2) rX.nd rfl 0#m) (aI (b9 (bF uM (aJ K 0#w) dH (aH _)) (aI (dZ (fZ K 0#r (dg dY)) (hs:=dM))) (aI (dZ (fZ K (bD (fK K) 0#r (eV cW aq) 0#h) 0#w) (hs:=dM)))))) (aI (aU (nh (O:=["_law_part"]) (N':=[]) (cap:=[]) rfl (di K 0#r) (fun _ _ _ _ _=>(cg (i:=0) (show i8 [("_law_part":Str)] by decide +kernel) rfl 0#m)) (fun _ _ _ _ _=>(tX (bF dI (fU (acJ K) rfl T.gc Y5 (cO 0#l dY bK) (he:=bK) (hpl:=cB)) aq (aH _)))) (fun _ _ _ _ _=>0#l) rfl trivial rfl 0#g rfl 0#g))))),?_⟩
 rw?
 refine aE (mk:=.lst) 0#e fun L0 H1 s1 n1 e1=>?_
 rw?
 refine aE (mk:=.lst) 0#e fun TT H2 s2 n2 e2=>?_
 have gD:=s1.trans s2
 rw?
 refine eF (iw ?_)
 rw?
 refine ⟨l,rfl,⟨_,aX.of (gD _ _ hl)⟩,dW (xs:=bJ es) (fun i σ H3=>P5 fun (ls:Nls) (L:av) (c:List Nn) (v:Option V)=>σ=[some (.ref l),some (.ref TT),v]∧au H H3∧VL H H3 TT (Pj ls++[(L,bJ c)])∧ls.length≤i∧c.length≤i∧Seg es i (ls.map (·.2)) c) ?_ ?_ ?_ ?_⟩
 ·refine ⟨[],L0,[],none,rfl,gD,⟨s1.free n2,e2,fun x hx=>?_,by simp [Pj]⟩,dz _,dz _,rfl,by simp [cy]⟩
  obtain rfl:x=(L0,[]):=by simpa [Pj,bJ] using hx
  exact ⟨n1,s2 _ _ e1,fun z=>by rw [← z] at n2;exact absurd (n2.symm.trans e1) 0#e⟩
 ·rintro i σ H3 _ ⟨ls,L,c,v,rfl,s3,_⟩
  exact aX.of (s3 _ _ hl)
 ·rintro i x σ H3 hx ⟨ls,L,c,v,rfl,s3,hV,hls,hc,Rt⟩
  refine eU fun M B R hM _ _=>?_
  obtain ⟨e,he,rfl⟩:=oQ hx
  have hi:i<es.length:=(lR.mp he).1
  have fe:=((hes e (mY he)).up s3).1
  have hat:=hV.at_
  rw?
  refine ⟨rfl,?_⟩
  rw?
  cases hs:e.2.2 with
  | none=>
    have hs':vL e=false:=by unfold vL;rw [hs];rfl
    refine cu ?_
    rw?
    refine ⟨.inl ⟨rfl,_,aX.of hat⟩,?_⟩
    rw?
    refine aE (mk:=.lst) 0#e fun R2 H4 s4 n4 e4=>?_
    rw?
    have hV4:=hV.up s4
    refine cz hV4.at_ (by simp [Pj];exact aN 0#d) ?_
    have hold:∀x∈Pj ls++[(L,bJ c)],x.1≠R2:=fun x hx z=>by
     rw [← z,(hV.each x hx).2.1] at n4
     cases n4
    refine hM _ _ ⟨ls++[(L,c)],R2,[],_,rfl,aY (s3.trans s4) hV.new,?_,by simp;try?,mW _,?_⟩
    ·have:=hV4.push (s3.free n4) e4 (fun z=>by rw [z,hat] at n4;cases n4) hold
     rw [show Pj (ls++[(L,c)])=Pj ls++[(L,bJ c)] by simp [Pj]]
     exact this
    ·rw [i9]
     exact WO Rt he hs'
  | some z=>
    have hs':vL e=true:=by unfold vL;rw [hs];rfl
    refine bU ?_
    rw?
    refine cA hat (v:=.ref L) (by rw [i9];exact Vi) ?_
    have eL:=(hV.each (L,bJ c) 0#e).2.1
    refine ⟨.inl ⟨rfl,_,aX.of eL⟩,?_⟩
    rw?
    refine cz eL (by rw [bA];exact aN 0#d) ?_
    refine hM _ _ ⟨ls,L,c++[e],_,rfl,aY s3 (hV.each (L,bJ c) 0#e).1,?_,by try?,by simp;try?,abt Rt he hs'⟩
    rw [← gn]
    exact hV.last
 ·rintro σ H3 ⟨ls,L,c,v,rfl,s3,hV,hls,hc,Rt⟩
  rw?
  refine iw ?_
  rw?
  rw [bA] at hls hc Rt
  have hall:(Pj ls++[(L,bJ c)])=Pj (ls++[(L,c)]):=by simp [Pj]
  rw [hall] at hV
  have hat:=hV.at_
  generalize IT:ls++[(L,c)]=us at *
  have hul:us.length≤41:=by rw [← IT];simp;try?
  have eu:(Pj us).map (fun x=>V.ref x.1)=us.map fun x=>V.ref x.1:=by unfold Pj;rw [qB];rfl
  rw [eu] at hat
  refine ⟨TT,rfl,⟨_,aX.of hat⟩,?_⟩
  refine cC (xs:=us.map fun x=>V.ref x.1) bV (fun H4 s4=>aX.of (s4 _ _ hat)) (by rw [gJ];try?) (fun i ys G=>ys=((us.take i).filter fun x=>!x.2.isEmpty).map fun x=>V.ref x.1) rfl ?_ ?_
  ·rintro D i x ys H4 jK NN N0 h0 hD eD s4 hx hy rfl kY kN
   rw [dm] at hx
   obtain ⟨x,gx,rfl⟩:=HH.mp hx
   have ex:=(hV.each (x.1,bJ x.2) (gP.mpr ⟨x,mY gx,rfl⟩)).2.1
   have ts:=HJ (fun x:av×List Nn=>!x.2.isEmpty) us i x gx
   refine fD h0 ?_
   rw?
   refine cP (.inl (aX.of (s4 _ _ ex))) ?_
   rw [bA]
   rw?
   refine cE (fun c1=>?_) (fun c1=>?_)
   ·have tH:=jM c1
    rw?
    refine kY _ H4 (au.refl _) ?_
    have:(!x.2.isEmpty)=true:=by cases U5:x.2 with | nil=>rw [U5] at tH;exact absurd tH 0#e | cons a b=>rfl
    rw [ts,this,if_pos rfl,i9]
    rfl
   ·refine kN H4 (au.refl _) ?_
    have:(!x.2.isEmpty)=false:=by cases U5:x.2 with | nil=>rfl | cons a b=>rw [U5] at c1;exact absurd (jJ (show (0:Int)<(((a::b).length:Nat):Int) by rw [zL];simp?)) c1
    rw [ts,this,if_neg dD,sG]
  ·rintro D ys H4 hD eD s4 hy rfl
   rw [gJ,jH] at eD
   refine k D _ H4 (s3.trans s4) (s3.free hD) eD (fun x hx=>?_) ?_
   ·have hx':=hV.each (x.1,bJ x.2) (gP.mpr ⟨x,(Df.mp hx).1,rfl⟩)
    exact ⟨hx'.1,s4 _ _ hx'.2.1⟩
   ·have e:=Rt.1
    rw [← e,show ls.map (·.2)++[c]=us.map (·.2) by rw [← IT];simp,Ur]
    rfl
end
def gh (hs:List Nn) (b:Int):List En:=hs.map fun x=>(x.1,cU b x.2)
theorem xH (hs:List Nn) (b:Int):(gh hs b).map (·.2)=hs.map (fun x=>cU b x.2):=by unfold gh;rw [qB];rfl
theorem xG (hs:List Nn) (b:Int):(gh hs b).length=hs.length:=gJ ..
theorem Q0:lH L 1 fun _=>0:=⟨rfl,fun i j h1 h2=>by simp?,fun j h1 h2=>by simp?⟩
theorem OM (h:lH L N t) (h1:1≤N) (hle:∀k,k<N→L k N→u≤t k+1) (hex:∃k,k<N∧L k N∧u=t k+1):lH L (N+1) fun j=>if j=N then u else t j:=by
 refine ⟨?_,fun i j hij hj hL=>?_,fun j h0 hj=>?_⟩
 ·show (if 0=N then u else t 0)=0
  rw [if_neg 0#c]
  exact h.first
 ·show (if j=N then u else t j)≤(if i=N then u else t i)+1
  rw [if_neg (show i≠N by simp?)]
  by_cases e:j=N
  ·rw [if_pos e]
   subst e
   exact hle i hij hL
  ·rw [if_neg e]
   exact h.le i j hij 0#c hL
 ·by_cases e:j=N
  ·obtain ⟨k,hk,hL,hu⟩:=hex
   refine ⟨k,by simp?,by rw [e];exact hL,?_⟩
   show (if j=N then u else t j)=(if k=N then u else t k)+1
   rw [if_pos e,if_neg 0#c]
   exact hu
  ·obtain ⟨k,hk,hL,hu⟩:=h.ex j h0 0#c
   refine ⟨k,hk,hL,?_⟩
   show (if j=N then u else t j)=(if k=N then u else t k)+1
   rw [if_neg e,if_neg 0#c]
   exact hu
theorem K8 (N:Nat) (t:Nat→Int) (u:Int):gU N t++[.int u]=gU (N+1) fun j=>if j=N then u else t j:=by
 unfold gU
 rw [vd,i9]
 congr 1
 ·refine T7 fun j hj=>?_
  show V.int (t j)=V.int (if j=N then u else t j)
  rw [if_neg (lz (qH.mp hj))]
 ·simp
theorem sV (f:α→β) (s:β→Bool) (es:List α):∀i,(parts (fun x=>s (f x)) es i).map (zR f)=parts s (es.map f) i
 | 0=>rfl
 | i+1=>by
   have ih:=sV f s es i
   have hr:cy s (es.map f) i=cy (fun x=>s (f x)) es i:=by
    unfold cy
    rw [dm]
    cases es[i-1]? <;> rfl
   cases e:es[i]? with
   | none=>
     have e':(es.map f)[i]?=none:=by rw [dm,e];rfl
     unfold parts
     rw [e,e']
     exact ih
   | some x=>
     have e':(es.map f)[i]?=some (f x):=by rw [dm,e];rfl
     cases hs:s (f x) with
     | false=>rw [jh (s:=fun x=>s (f x)) e hs,jh e' hs,ih]
     | true=>
       cases hi:cy (fun x=>s (f x)) es i with
       | false=>rw [iu (s:=fun x=>s (f x)) e hs hi,iu e' hs (hr.trans hi),i9,ih];rfl
       | true=>
         obtain ⟨t,r,hp⟩:=rB hi
         rw [jx (s:=fun x=>s (f x)) e hs hi hp,jx e' hs (hr.trans hi) (t:=t.map (zR f)) (r:=r.map f) (by rw [← ih,hp,i9];rfl)]
         simp
theorem Im {γ:Type} {f:α→γ} {g:β→γ}:∀{as:List α} {bs:List β},as.map f=bs.map g→jt (fun a b=>f a=g b) as bs
 | [],[],_=>trivial
 | _::_,_::_,h=>⟨(Zl h).1,Im (Zl h).2⟩
 | [],_::_,h=>nomatch h
 | _::_,[],h=>nomatch h
def Qj (sg x:Int):Int:=if sg<0 then -(if sg=0 then (if x<0 then -x else x) else x) else (if sg=0 then (if x<0 then -x else x) else x)
def ZQ (hs:List Nn) (c sg:Int) (F k:Nat):Prop:=∃i j,F≤i∧i<j∧j<k∧2*c*(gQ hs k-gQ hs i)<Qj sg (xS hs i j k)
inductive MH (vs:List V) (H:Hp) (Q:VK) (E_:XK):Prop where
 | mk (l:av) (hs:List Nn) (a k:Nat) (c sg:Int) (m n:Nat):vs=[.ref l,.int (a:Int),.int (k:Int),.int c,.int sg]→H l=some (.lst (bJ hs))→ic H hs m n→Km hs→k<hs.length→hs.length≤40→a≤k→Sz n c→m≤2000→n≤2000→(∀r:Bool,(r=true↔ZQ hs c sg a k)→Q (.bl r) H)→MH vs H Q E_
inductive HA (vs:List V) (H:Hp) (Q:VK) (E_:XK):Prop where
 | mk (l:av) (hs:List Nn) (c sg:Int) (m n:Nat):vs=[.ref l,.int c,.int sg]→H l=some (.lst (bJ hs))→ic H hs m n→Km hs→hs.length≤40→Sz n c→m≤2000→n≤2000→(∀F v:Nat,Gr (ZQ hs c sg) hs.length F v→Q (.int (v:Int)) H)→HA vs H Q E_
section
theorem gW:aF ["_law_run","_law_free","_law_k","_law_bound","_law_sign","_law_j","_law_i","_law_span","_law_stood"] ["_law_run","_law_free","_law_k","_law_bound","_law_sign"] (ah uT):=0#a
theorem Jm (F:cT K "_law_turn" "_law_turn" uT f fd) (T:Txt mg) (jd:Dn P w K mg base 1 "_law_stand" ["_law_one","_law_mid","_law_last"] wF):bf P w K mg base c7 2 f fd ["_law_run","_law_free","_law_k","_law_bound","_law_sign"] MH:=by
 refine F.ok gW 0#f 0#b
 ·obtain ⟨l,hs,a,k,c,sg,m,n,rfl,_⟩:=h
  rfl
 obtain ⟨l,hs,a,kk,c,sg,em,en,rfl,hl,hes,hS,hk,lI,hak,zc,hm,hn,k⟩:=h
 obtain ⟨xk,gk,ek,zk1,zk2⟩:=Ez hes hS hk
 refine bI ⟨_,(ao (dP gF rfl (vD rfl T.range (bC (aG aV 0#r aq) 0#w)) (cg (i:=5) gW.nd rfl 0#m) (aI (dP gF rfl (vD rfl T.range (bC 0#r (aa 5))) (cg (i:=6) gW.nd rfl 0#m) (ao (aK 7 gW.nd (aG bP (aJ K (bD (fK K) 0#l 0#w 0#h)) (aJ K (bD (fK K) 0#l (aa 6) 0#h)))) (ao (aK 8 gW.nd (Jd.c3 jd hr (bD (fK K) 0#l (aa 6) 0#h) (bD (fK K) 0#l (aa 5) 0#h) (bD (fK K) 0#l 0#w 0#h))) (ao (b9 (bF d7 (aa 4) aq (aH _)) (aI (aK 8 gW.nd (fU xB rfl T.xC yP (dG (aa 8)) (he:=bK) (hpl:=cB)))) cF) (ao (b9 (bF lD (aa 4) aq (aH _)) (aI (aK 8 gW.nd (eV cW (aa 8)))) cF) (aI (b9 (bF dI (aa 8) (aG aP (aG aP aq (aa 3)) (aa 7)) (aH _)) (aI (aU Jd.oS)) cF))))))))) (aI (aU Jd.oS))),?_⟩
 rw?
 refine eF (pV ?_)
 rw?
 refine ⟨_,_,rfl,⟨by lia,by lia,by lia,by lia⟩,cX (fun m σ H3=>H3=H∧P5 fun v5 v6 v7 v8:Option V=>σ=[some (.ref l),some (.int (a:Int)),some (.int (kk:Int)),some (.int c),some (.int sg),v5,v6,v7,v8]∧∀i j,a≤i→i<j→j<a+1+m→¬(2*c*(gQ hs kk-gQ hs i)<Qj sg (xS hs i j kk))) ?_ ?_ ?_⟩
 ·exact ⟨rfl,none,none,none,none,rfl,fun i j h1 h2 h3=>by try?⟩
 ·rintro m σ H3 hm' ⟨rfl,v5,v6,v7,v8,rfl,hall⟩
  refine eU fun M Bk RR hM _ hR=>?_
  obtain ⟨xj,gj,ej,zj1,zj2⟩:=Ez hes hS (show a+1+m<hs.length by try?)
  rw?
  refine eF (pV ?_)
  rw?
  refine ⟨_,_,rfl,⟨by lia,by lia,by lia,by lia⟩,cX (fun n σ H4=>H4=H3∧MV fun v6 v7 v8:Option V=>σ=[some (.ref l),some (.int (a:Int)),some (.int (kk:Int)),some (.int c),some (.int sg),some (.int ((a:Int)+1+(m:Int))),v6,v7,v8]∧∀i,a≤i→i<a+n→¬(2*c*(gQ hs kk-gQ hs i)<Qj sg (xS hs i (a+1+m) kk))) ?_ ?_ ?_⟩
  ·exact ⟨rfl,v6,v7,v8,rfl,fun i h1 h2=>by try?⟩
  ·rintro n σ H4 hn' ⟨rfl,v6,v7,v8,rfl,BA⟩
   refine eU fun M2 Bk2 RR2 hM2 _ hR2=>?_
   obtain ⟨xi,gi,ei,zi1,zi2⟩:=Ez hes hS (show a+n<hs.length by try?)
   rw?
   refine cA hl (jw gk rfl) ?_
   rw?
   refine cA hl (jw gi 0#d) ?_
   rw?
   refine cA hl (jw gi 0#d) ?_
   rw?
   refine cA hl (jw gj 0#d) ?_
   rw?
   refine cA hl (jw gk rfl) ?_
   rw?
   refine ⟨xi.1,xj.1,xk.1,_,_,_,_,_,_,em,en,rfl,ei,ej,ek,zi1,zj1,zk1,zi2,zj2,zk2,by try?,?_⟩
   have zst:=aaX zi1 zj1 zk1 zi2 zj2 zk2
   have ok2:=bQ ((show Sz 2 (2:Int) by decide).mul zc) (zk1.sub zi1) 0#d
   have ok1:=bQ (show Sz 2 (2:Int) by decide) zc 0#d
   have yes:2*c*(gQ hs kk-gQ hs (a+n))<Qj sg (xS hs (a+n) (a+1+m) kk)→RR2 (.bl true) H4:=fun c1=>hR2 _ _ (hR _ _ (k true ⟨fun _=>⟨a+n,a+1+m,by try?,by try?,by try?,c1⟩,fun _=>rfl⟩))
   have no:∀v7 v8:Option V,¬2*c*(gQ hs kk-gQ hs (a+n))<Qj sg (xS hs (a+n) (a+1+m) kk)→M2 [some (.ref l),some (.int (a:Int)),some (.int (kk:Int)),some (.int c),some (.int sg),some (.int ((a:Int)+1+(m:Int))),some (.int ((a:Int)+(n:Int))),v7,v8] H4:=fun v7 v8 c1=>hM2 _ _ ⟨rfl,_,v7,v8,rfl,fun i h1 h2=>by
    by_cases e:i=a+n
    ·subst e
     exact c1
    ·exact BA i h1 0#d⟩
   rw?
   rcases Int.lt_trichotomy sg 0 with hg | hg | hg
   ·rw [qu (show ¬sg=0 by simp?)]
    refine bU ?_
    rw?
    rw [jJ hg]
    refine cu ?_
    rw?
    have es:Qj sg (xS hs (a+n) (a+1+m) kk)=-xS hs (a+n) (a+1+m) kk:=by unfold Qj;rw [if_pos hg,if_neg 0#c]
    rw [es] at yes no
    exact cE (fun c1=>yes (jM c1)) (fun c1=>no _ _ (iH (gY.mpr c1)))
   ·subst hg
    refine cu ?_
    rw?
    refine bU ?_
    rw?
    have es:Qj 0 (xS hs (a+n) (a+1+m) kk)=(if xS hs (a+n) (a+1+m) kk<0 then -xS hs (a+n) (a+1+m) kk else xS hs (a+n) (a+1+m) kk):=by unfold Qj;rw [if_neg 0#i,if_pos rfl]
    rw [es] at yes no
    exact cE (fun c1=>yes (jM c1)) (fun c1=>no _ _ (iH (gY.mpr c1)))
   ·rw [qu (show ¬sg=0 by simp?)]
    refine bU ?_
    rw?
    rw [qu (show ¬sg<0 by simp?)]
    refine bU ?_
    rw?
    have es:Qj sg (xS hs (a+n) (a+1+m) kk)=xS hs (a+n) (a+1+m) kk:=by unfold Qj;rw [if_neg 0#c,if_neg 0#c]
    rw [es] at yes no
    exact cE (fun c1=>yes (jM c1)) (fun c1=>no _ _ (iH (gY.mpr c1)))
  ·rintro σ H4 ⟨rfl,v6,v7,v8,rfl,BA⟩
   refine hM _ _ ⟨rfl,_,_,_,_,rfl,fun i j h1 h2 h3=>?_⟩
   by_cases e:j=a+1+m
   ·subst e
    exact BA i h1 0#d
   ·exact hall i j h1 h2 0#d
 ·rintro σ H3 ⟨rfl,v5,v6,v7,v8,rfl,hall⟩
  rw?
  refine k false ⟨fun z=>absurd z 0#i,?_⟩
  rintro ⟨i,j,h1,h2,h3,hp⟩
  exact absurd hp (hall i j h1 h2 0#d)
theorem iy:aF ["_law_run","_law_bound","_law_sign","_law_free","_law_found","_law_k"] ["_law_run","_law_bound","_law_sign"] (ah rS):=0#a
theorem Gv (F:cT K "_law_turns" "_law_turns" rS f fd) (T:Txt mg) (uw:Dn P w K mg base 2 "_law_turn" ["_law_run","_law_free","_law_k","_law_bound","_law_sign"] MH):bf P w K mg base c7 3 f fd ["_law_run","_law_bound","_law_sign"] HA:=by
 refine F.ok iy 0#f 0#b
 ·obtain ⟨l,hs,c,sg,m,n,rfl,_⟩:=h
  rfl
 obtain ⟨l,hs,c,sg,em,en,rfl,hl,hes,hS,lI,zc,hm,hn,k⟩:=h
 refine bI ⟨_,(ao (aK 3 iy.nd aq) (ao (aK 4 iy.nd aq) (ao (dP gF rfl (vD rfl T.range (bC aq (gB K T.gc 0#l))) (cg (i:=5) iy.nd rfl 0#m) (aI (b9 (nv (fN uw 0#A rfl (cO 0#l (Jd.a4 (aa 3) (aa 5) 0#r 0#w) bK) (he:=bK) (hpl:=(cD bK (cD bK (cD bK (cD bK cB))))))) (ao (aK 4 iy.nd (aG aV (aa 4) aq)) (aI (aK 3 iy.nd (aa 5)))) cF))) (aI (aU (aa 4)))))),?_⟩
 rw?
 refine eF (pV ?_)
 rw?
 refine cP (.inl (aX.of hl)) ?_
 rw [bA]
 rw?
 have Jh:∀F k,k<2→¬ZQ hs c sg F k:=fun F k h2=>by
  rintro ⟨i,j,h1,h3,h4,_⟩
  simp?
 refine ⟨_,_,rfl,⟨by lia,by lia,by lia,by lia⟩,cX (fun j σ H3=>H3=H∧MV fun (a m:Nat) (v5:Option V)=>σ=[some (.ref l),some (.int c),some (.int sg),some (.int (a:Int)),some (.int (m:Int)),v5]∧a≤j+2∧Gr (ZQ hs c sg) (j+2) a m) ?_ ?_ ?_⟩
 ·exact ⟨rfl,0,0,none,rfl,by simp?,.no (.no .nil (Jh _ _ 0#c)) (Jh _ _ 0#c)⟩
 ·rintro j σ H3 hj ⟨rfl,a,m,v5,rfl,haj,hG⟩
  rw [show (2:Int)+(j:Int)=((j+2:Nat):Int) by try?]
  rw?
  refine ⟨l,hs,a,j+2,c,sg,em,en,rfl,hl,hes,hS,by try?,lI,haj,zc,hm,hn,fun r hr'=>?_⟩
  rw?
  cases r with
  | true=>
    refine cu ?_
    rw?
    exact ⟨rfl,j+2,m+1,_,rfl,by try?,.yes hG (hr'.mp rfl)⟩
  | false=>
    refine bU ?_
    rw?
    exact ⟨rfl,a,m,_,rfl,by try?,.no hG fun z=>absurd (hr'.mpr z) 0#i⟩
 ·rintro σ H3 ⟨rfl,a,m,v5,rfl,haj,hG⟩
  rw?
  by_cases h2:2≤hs.length
  ·rw [show ((hs.length:Int)-2).toNat+2=hs.length by simp?] at hG
   exact k a m hG
  ·rw [show ((hs.length:Int)-2).toNat+2=2 by simp?] at hG
   obtain ⟨rfl,rfl⟩:=hG.uniq (.no (.no .nil (Jh _ _ 0#c)) (Jh _ _ 0#c))
   refine k 0 0 ?_
   rcases UC hs.length 1 with z | z
   ·rw [show hs.length=0 by simp?]
    exact .nil
   ·rw [show hs.length=0+1 by simp?]
    exact .no .nil (Jh _ _ 0#c)
end
def upto (t:Int) (e:En):Bool:=decide (e.2.1≤t)
def fz (es:List En):Nat→Nat
 | 0=>0
 | i+1=>if (es[i]?).elim false (fun e=>!dU e)=true then i+1 else fz es i
theorem xF (es:List En):∀i,fz es i≤i
 | 0=>dz _
 | i+1=>by
   unfold fz
   split
   ·exact dz _
   ·exact zK (xF es i)
def kJ (es:List En) (i:Nat):List Nat:=(fu i).filter fun j=>(es[j]?).elim false fun e=>!dU e
theorem Em (es:List En):∀i,(kJ es i=[]∧fz es i=0)∨∃g,(kJ es i).getLast?=some g∧fz es i=g+1
 | 0=>.inl ⟨rfl,rfl⟩
 | i+1=>by
   have e:kJ es (i+1)=kJ es i++(if (es[i]?).elim false (fun e=>!dU e)=true then [i] else []):=by
    unfold kJ
    rw [vd,D6]
    congr 1
    simp only [C0,Uq]
   unfold fz
   split
   ·rename_i h
    rw [e,if_pos h]
    exact .inr ⟨i,by simp,rfl⟩
   ·rename_i h
    rw [e,if_neg h,sG]
    exact Em es i
theorem Ic {g:Nat} (h:js.getLast?=some g):pM (fO js) (-1)=some (.int (g:Int)):=by
 rw [List.getLast?_eq_getElem?] at h
 have hl:=(lR.mp h).1
 unfold pM
 rw [jg,pN (m:=js.length-1) 0#c]
 show (fO js)[js.length-1]?=_
 unfold fO
 rw [dm,h]
 rfl
theorem Z5 {m:Nat} (h:m≤xs.length):jS xs none (some (m:Int))=xs.take m:=by
 have:=Z2 (xs:=xs) (n:=0) (m:=m) (mW _) h
 rw [Y0,Nat.sub_zero] at this
 rw [← this]
 rfl
inductive yH (vs:List V) (H:Hp) (Q:VK) (E_:XK):Prop where
 | mk (l:av) (es:List En) (t:Int) (n:Nat):vs=[.ref l,.int t]→H l=some (.lst (vals es))→Row H es n→es.length≤40→(∀(D:av) (H':Hp),au H H'→H D=none→H' D=some (.lst (vals (es.filter (upto t))))→Q (.ref D) H')→yH vs H Q E_
inductive CF (vs:List V) (H:Hp) (Q:VK) (E_:XK):Prop where
 | mk (l:av) (es:List En) (n:Nat):vs=[.ref l]→H l=some (.lst (vals es))→Row H es n→es.length≤40→(∀(y A B:av) (H':Hp),au H H'→H' y=some (.tup [.ref A,.ref B])→H' A=some (.lst (vals (es.take (fz es es.length))))→H' B=some (.lst (vals (es.drop (fz es es.length))))→Q (.ref y) H')→CF vs H Q E_
section
theorem u7:aF ["row","moment"] ["row","moment"] (ah jy):=0#a
theorem uK (F:cT K "settled_entries" "settled_entries" jy f fd):bf P w K mg base c7 1 f fd ["row","moment"] yH:=by
 refine F.ok u7 0#f 0#b
 ·obtain ⟨l,es,t,n,rfl,_⟩:=h
  rfl
 obtain ⟨l,es,t,n,rfl,hl,hes,hn,k⟩:=h
 refine bI ⟨_,(aI (aU (nh (O:=["entry"]) (N':=["moment"]) (cap:=[1]) rfl (di K 0#l) (fun _ _ _ _ _=>(cg (i:=0) (show i8 [("entry":Str),("moment":Str)] by decide +kernel) rfl 0#m)) (fun _ _ _ _ _=>(tX (bF EA (bD (Et K) 0#l aq 0#h) 0#r (aH _)))) (fun _ _ _ _ _=>0#l) rfl 0#u rfl 0#g rfl 0#g))),?_⟩
 rw?
 refine iw ?_
 rw?
 refine ⟨l,rfl,⟨_,aX.of hl⟩,?_⟩
 refine cC (xs:=vals es) bV (fun H3 s3=>aX.of (s3 _ _ hl)) (by rw [aO];try?) (fun i ys G=>ys=vals ((es.take i).filter (upto t))) rfl ?_ ?_
 ·rintro D i x ys H3 jK N N0 h0 hD eD s3 hx hy rfl kY kN
  obtain ⟨e,he,rfl⟩:=gr hx
  obtain ⟨u,ee,du,_⟩:=((hes e (mY he)).up s3).obj
  have ts:=HJ (upto t) es i e he
  refine fD h0 ?_
  rw?
  refine cE 0#B 0#B
  ·have hs':upto t e=true:=jJ (jM c)
   rw [hs',if_pos rfl] at ts
   rw?
   exact kY _ H3 (au.refl _) (by rw [ts,← fS])
  ·have hs':upto t e=false:=qu (iH (gY.mpr c))
   rw [hs',if_neg dD,sG] at ts
   exact kN H3 (au.refl _) (by rw [ts])
 ·rintro D ys H3 hD eD s3 hy rfl
  rw [aO,jH] at eD
  exact k D H3 s3 hD eD
theorem jZ:aF ["settled","gaps","behind"] ["settled"] (ah kQ):=0#a
theorem xX (F:cT K "parted_at_gap" "parted_at_gap" kQ f fd) (T:Txt mg):bf P w K mg base c7 1 f fd ["settled"] CF:=by
 refine F.ok jZ 0#f 0#b
 ·obtain ⟨l,es,n,rfl,_⟩:=h
  rfl
 obtain ⟨l,es,n,rfl,hl,hes,hn,k⟩:=h
 refine bI ⟨_,(ao (qy (O:=["place","entry"]) (N':=[]) (cap:=[]) (i:=1) jZ.nd rfl 0#m rfl (Jd.AH K rfl T.Bo (dG 0#l)) (fun _ _ _ _ _=>(Jd.Qf K (n:=2) rfl (gM (cg (i:=0) (show i8 [("place":Str),("entry":Str)] by decide +kernel) rfl 0#m) (gM (cg (i:=1) (show i8 [("place":Str),("entry":Str)] by decide +kernel) rfl 0#m) qZ)))) (fun _ _ _ _ _=>(tX (bF uM (bD (Et K) 0#r aq 0#h) dH (aH _)))) (fun _ _ _ _ _=>0#l) rfl trivial rfl 0#g rfl 0#g (by rfl)) (ao (aK 2 jZ.nd (rg (bF dI (gB K T.gc 0#r) aq (aH _)) (aG aV (bD (fK K) 0#r (eV cW aq) 0#h) aq) aq)) (aI (aU (bG (bC (qW (Tf K) 0#l qX (qY 0#w)) (qW (Tf K) 0#l (qY 0#w) qX))))))),?_⟩
 rw?
 refine Sx ?_
 rw?
 refine ⟨l,_,rfl,aX.of hl,?_⟩
 refine KA (xs:=vals es) (fun H3 s3=>aX.of (s3 _ _ hl)) (by rw [aO];try?) (fun i ys G=>ys=fO (kJ es i)) rfl ?_ ?_
 ·rintro D i x ys H3 H4 pp jK N N0 h0 hD eD s3 s4 ep hx hy rfl kY kN
  obtain ⟨e,he,rfl⟩:=gr hx
  obtain ⟨u,ee,du,_⟩:=((hes e (mY he)).up (s3.trans s4)).obj
  have ts:kJ es (i+1)=kJ es i++(if (!dU e)=true then [i] else []):=by
   unfold kJ
   rw [vd,D6]
   congr 1
   simp only [C0,Uq,he,Option.elim]
  refine Cd h0 ep ?_
  rw?
  refine ⟨rfl,?_⟩
  rw?
  rw [du]
  cases hs:e.2.2.isSome with
  | true=>
    have hs':dU e=true:=hs
    rw [hs',if_neg 0#i,sG] at ts
    refine bU ?_
    exact kN H4 (au.refl _) (by rw [ts])
  | false=>
    have hs':dU e=false:=hs
    rw [hs',if_pos (show (!false)=true from rfl)] at ts
    refine cu ?_
    rw?
    exact kY _ H4 (au.refl _) (by rw [ts,← pQ])
 ·rintro D ys H3 hD eD s3 hy rfl
  rw [aO] at eD
  have hl3:=s3 _ _ hl
  have fin:∀b:Nat,b=fz es es.length→∀(v:V),v=.int (b:Int)→∀(A':av) (H4:Hp),au H3 H4→H4 A'=some (.lst (jS (vals es) none (some (b:Int))))→∀(B':av) (H5:Hp),au H4 H5→H5 B'=some (.lst (jS (vals es) (some (b:Int)) none))→∀(y:av) (H6:Hp),au H5 H6→H6 y=some (.tup [.ref A',.ref B'])→Q (.ref y) H6:=fun b hb v hv A' H4 s4 eA B' H5 s5 eB y H6 s6 ey=>by
   have hle:b≤es.length:=hb▸xF es es.length
   rw [Vt,show (vals es).drop b=vals (es.drop b) by unfold vals;rw [Oq]] at eB
   rw [show jS (vals es) none (some (b:Int))=vals (es.take b) by rw [Z5 (by rw [aO];exact hle)];unfold vals;rw [List.map_take]] at eA
   subst hb
   exact k y A' B' H6 (s3.trans (s4.trans (s5.trans s6))) ey ((s5.trans s6) _ _ eA) (s6 _ _ eB)
  rw?
  refine cP (.inl (aX.of eD)) ?_
  rw [jg]
  rw?
  rcases Em es es.length with ⟨e0,e1⟩ | ⟨g,e0,e1⟩
  ·rw [e0]
   refine bU ?_
   walk_at "vd"
   refine vS hl3 fun A' H4 s4 n4 e4=>?_
   walk_at "vd"
   refine vS (s4 _ _ hl3) fun B' H5 s5 n5 e5=>?_
   rw?
   refine aE (mk:=.tup) 0#e fun y H6 s6 n6 e6=>?_
   exact fin 0 e1.symm _ rfl A' H4 s4 e4 B' H5 s5 e5 y H6 s6 e6
  ·have hne:0<(kJ es es.length).length:=by
    rcases Yd (kJ es es.length) with z | ⟨_,_,z⟩
    ·rw [z] at e0;cases e0
    ·rw [z];simp
   rw [jJ (show (0:Int)<((kJ es es.length).length:Int) by simp?)]
   refine cu ?_
   rw?
   refine cA eD (Ic e0) ?_
   walk_at "vd"
   refine vS hl3 fun A' H4 s4 n4 e4=>?_
   walk_at "vd"
   refine vS (s4 _ _ hl3) fun B' H5 s5 n5 e5=>?_
   rw?
   refine aE (mk:=.tup) 0#e fun y H6 s6 n6 e6=>?_
   exact fin (g+1) e1.symm _ rfl A' H4 s4 e4 B' H5 s5 e5 y H6 s6 e6
end
theorem fV (hc:decide (a=b)=c) (q:Q (.bl c) H):rEq (.str a) (.str b) H Q:=⟨rfl,by
 rw [show decide (V.str a=V.str b)=c from hc▸J5.mpr ⟨fun h=>V.str.inj h,fun h=>congrArg V.str h⟩]
 exact q⟩
inductive Wy
 | ap | jo | sp | ch
def Ql:Wy→Str
 | .ap => "apart"
 | .jo => "joined"
 | .sp => "spans"
 | .ch => "chain"
inductive wH (C:av) (vs:List V) (H:Hp) (Q:VK) (E_:XK):Prop where
 | mk (l pb:av) (wy:Wy):vs=[.ref l,.str (Ql wy),.ref pb]→(wy=.ap→AM [.ref l,.ref pb] H Q E0)→(wy=.jo→wj C [.ref l,.ref pb] H Q E0)→(wy=.sp→su false [.ref l,.ref pb] H Q E0)→(wy=.ch→su true [.ref l,.ref pb] H Q E0)→wH C vs H Q E_
section
theorem Ms:aF ["row","way","bound"] ["row","way","bound"] (ah yt):=0#a
theorem LM (F:cT K "told_by" "told_by" yt f fd) (EY:Dn P w K mg base 9 "apart" ["row","bound"] AM) (AU:Dn P w K mg base 9 "joined" ["row","bound"] (wj aC)) (E2:Dn P w K mg base 8 "spans" ["row","bound"] (su false)) (EZ:Dn P w K mg base 8 "chain" ["row","bound"] (su true)):bf P w K mg base c7 10 f fd ["row","way","bound"] (wH aC):=by
 refine F.ok Ms 0#f 0#b
 ·obtain ⟨l,pb,wy,rfl,_⟩:=h
  rfl
 obtain ⟨l,pb,wy,rfl,h1,h2,h3,h4⟩:=h
 refine bI ⟨_,(ao (b9 (bF d7 0#r mD (aH _)) (aI (aU (bY EY hr 0#l 0#w))) cF) (ao (b9 (bF d7 0#r mD (aH _)) (aI (aU (bY AU hr 0#l 0#w))) cF) (ao (b9 (bF d7 0#r mD (aH _)) (aI (aU (bY E2 hr 0#l 0#w))) cF) (aI (aU (bY EZ hr 0#l 0#w)))))),?_⟩
 rw?
 cases wy with
 | ap=>
   refine fV (c:=true) 0#g ?_
   refine ⟨_,rfl,?_⟩
   refine cu ?_
   rw?
   exact h1 rfl
 | jo=>
   refine fV (c:=false) 0#g ?_
   refine ⟨_,rfl,?_⟩
   refine bU ?_
   rw?
   refine fV (c:=true) 0#g ?_
   refine ⟨_,rfl,?_⟩
   refine cu ?_
   rw?
   exact h2 rfl
 | sp=>
   refine fV (c:=false) 0#g ?_
   refine ⟨_,rfl,?_⟩
   refine bU ?_
   rw?
   refine fV (c:=false) 0#g ?_
   refine ⟨_,rfl,?_⟩
   refine bU ?_
   rw?
   refine fV (c:=true) 0#g ?_
   refine ⟨_,rfl,?_⟩
   refine cu ?_
   rw?
   exact h3 rfl
 | ch=>
   refine fV (c:=false) 0#g ?_
   refine ⟨_,rfl,?_⟩
   refine bU ?_
   rw?
   refine fV (c:=false) 0#g ?_
   refine ⟨_,rfl,?_⟩
   refine bU ?_
   rw?
   refine fV (c:=false) 0#g ?_
   refine ⟨_,rfl,?_⟩
   refine bU ?_
   rw?
   exact h4 rfl
end
theorem dr1:jS (vals es) (some 1) none=vals (es.drop 1):=by
 rw [show (some (1:Int))=some ((1:Nat):Int) from rfl,Vt]
 unfold vals
 rw [Oq]
inductive yJ (vs:List V) (H:Hp) (Q:VK) (E_:XK):Prop where
 | mk (l pb:av) (es:List En) (n nb:Nat) (β:Rat):vs=[.ref l,.ref pb]→H l=some (.lst (vals es))→Row H es n→iR es→rising es→2≤es.length→es.length≤40→bS H pb β nb→n≤1000→nb≤1000→((∃i j,0<i∧i<es.length∧0<j∧j<es.length∧c6 es β 0 j<fB es β 0 i)→∀H',au H H'→Q .bM H')→((∀i j,0<i→i<es.length→0<j→j<es.length→fB es β 0 i≤c6 es β 0 j)→∀(p:av) (G:Rat) (H':Hp),au H H'→bS H' p G (3*n+nb+3)→(∀i,0<i→i<es.length→fB es β 0 i≤G)→(∃i,0<i∧i<es.length∧G=fB es β 0 i)→Q (.ref p) H')→yJ vs H Q E_
section
theorem iz:aF ["samples","bound","start","lows","highs"] ["samples","bound"] (ah kW):=0#a
theorem ya (F:cT K "slope_through" "slope_through" kW f fd) (aS:Dn P w K mg base 1 "loose_minus" ["one","other"] (iB (·-·) 1)) (bO:Dn P w K mg base 1 "loose_plus" ["one","other"] (iB (·+·) 1)) (bL:Dn P w K mg base 3 "loose_slope" ["one","other"] lZ) (c8:Dn P w K mg base 2 "greatest" ["quotients"] tu) (fX:Dn P w K mg base 2 "smallest" ["quotients"] wC) (cM:Dn P w K mg base 1 "order" ["one","other"] iO):bf P w K mg base c7 4 f fd ["samples","bound"] yJ:=by
 refine F.ok iz 0#f 0#b
 ·obtain ⟨l,pb,es,n,nb,β,rfl,_⟩:=h
  rfl
 obtain ⟨l,pb,es,n,nb,β,rfl,hl,hR,hS,dX,h2,lI,hb,hn,hnb,k0,k1⟩:=h
 obtain ⟨x0,g0,f0⟩:=cI hR hS (show 0<es.length by simp?)
 refine bI ⟨_,(ao (kj (i:=2) iz.nd rfl (Or.inr rfl) (Jd.iL K 0#l) (hs:=MI)) (ao (qy (O:=["one"]) (N':=["start","bound" ]) (cap:=[2,1]) (i:=3) iz.nd rfl 0#m rfl (di K (qW (Tf K) 0#l (qY aq) qX)) (fun _ _ _ _ _=>(cg (i:=0) (show i8 [("one":Str),("start":Str),("bound":Str)] by decide +kernel) rfl 0#m)) (fun _ _ _ _ _=>lC) (fun _ _ _ _ _=>(fN bL 0#A rfl (cO 0#r (cO (bG (cO (bD (Et K) 0#l aq 0#h) (cO (fN aS 0#A rfl (cO (bD (Et K) 0#l aq 0#h) (cO 0#w dY bK) qD) (he:=qD) (hpl:=(cD bK cB))) dY Ax) qD)) dY WW) bK) (he:=bK) (hpl:=(cD WW cB)))) rfl ⟨⟨rfl,rfl,rfl,rfl⟩,0#u⟩ rfl 0#g rfl 0#g (by rfl)) (ao (qy (O:=["one"]) (N':=["start","bound" ]) (cap:=[2,1]) (i:=4) iz.nd rfl 0#m rfl (di K (qW (Tf K) 0#l (qY aq) qX)) (fun _ _ _ _ _=>(cg (i:=0) (show i8 [("one":Str),("start":Str),("bound":Str)] by decide +kernel) rfl 0#m)) (fun _ _ _ _ _=>lC) (fun _ _ _ _ _=>(fN bL 0#A rfl (cO 0#r (cO (bG (cO (bD (Et K) 0#l aq 0#h) (cO (fN bO 0#A rfl (cO (bD (Et K) 0#l aq 0#h) (cO 0#w dY bK) qD) (he:=qD) (hpl:=(cD bK cB))) dY Ax) qD)) dY WW) bK) (he:=bK) (hpl:=(cD WW cB)))) rfl ⟨⟨rfl,rfl,rfl,rfl⟩,0#u⟩ rfl 0#g rfl 0#g (by rfl)) (aI (aU (rg (bF EA (bY cM hr (Jd.c1 c8 hr (aa 3)) (Jd.c1 fX hr (aa 4))) aq (aH _)) (Jd.c1 c8 hr (aa 3)) dH)))))),?_⟩
 walk_at "vd"
 refine cA hl (dh g0 rfl) ?_
 walk_at "vd"
 refine iw ?_
 walk_at "vd"
 refine vS hl fun S1 H1 s1 n1 e1=>?_
 rw [dr1] at e1
 refine ⟨S1,rfl,⟨_,aX.of e1⟩,?_⟩
 refine cC (xs:=vals (es.drop 1)) bV (fun H3 s3=>aX.of (s3 _ _ e1)) (by rw [aO,iP];simp?) (fun i ys G=>∃rs:Qs,ys=cY rs∧vh G rs (3*n+nb+3)∧rs.map (·.2)=(fu i).map (fun j=>fB es β 0 (j+1))) ⟨[],rfl,fun z hz=>absurd hz 0#e,rfl⟩ ?_ ?_
 ·rintro D i v ys H3 jK N N0 h0 hD eD s3 hv hy ⟨rs,rfl,hrs,hmap⟩ kY kN
  obtain ⟨e,he,rfl⟩:=gr hv
  rw [ly,zP] at he
  have hi:i+1<es.length:=(lR.mp he).1
  obtain ⟨xi,gi,fi⟩:=cI (hR.up (s1.trans s3)) hS hi
  rw [he] at gi
  cases gi
  obtain ⟨vi,ei,qi,zi⟩:=id fi
  refine fD h0 ?_
  rw?
  refine cu ?_
  rw?
  refine ⟨vi,pb,_,β,n,nb,rfl,qi.qt,hb.up (s1.trans s3),by try?,fun y1 H4 s4 f4=>?_⟩
  rw?
  refine aE (mk:=.tup) 0#e fun lo H5 s5 n5 e5=>?_
  rw?
  refine ⟨x0.1,lo,_,_,_,_,n,n+nb+1,n,rfl,(f0.up (s1.trans (s3.trans (s4.trans s5)))).XD,⟨y1,e5,f4.up s5,zi⟩,gV dX 0#c hi,by try?,fun z H6 s6 f6=>?_⟩
  have U7:=s4.trans (s5.trans s6)
  refine kY _ H6 U7 ⟨rs++[(z,fB es β 0 (i+1))],by simp [cY],fun u hu=>?_,?_⟩
  ·rcases dN.mp hu with w | w
   ·exact (hrs u w).up (rE U7)
   ·obtain rfl:u=(z,fB es β 0 (i+1)):=by simpa using w
    obtain ⟨t,d,e',ff⟩:=f6.mono (show n+(n+nb+1)+n+2≤3*n+nb+3 by try?)
    exact ⟨t,d,d9 (U7 _ _ eD) e',ff⟩
  ·rw [i9,hmap,vd,i9]
   rfl
 rintro D ys H3 hD eD s3 hy ⟨rs,rfl,hrs,hmap⟩
 rw [aO,iP] at hmap
 have FQ:vh H3 rs (3*n+nb+3):=fun u hu=>(hrs u hu).up gO
 have mK:=s1.trans s3
 walk_at "vd"
 refine iw ?_
 walk_at "vd"
 refine vS (mK _ _ hl) fun S2 H7 s7 n7 e7=>?_
 rw [dr1] at e7
 refine ⟨S2,rfl,⟨_,aX.of e7⟩,?_⟩
 have EH:=mK.trans s7
 refine cC (xs:=vals (es.drop 1)) bV (fun H3 s3=>aX.of (s3 _ _ e7)) (by rw [aO,iP];simp?) (fun i ys G=>∃rs:Qs,ys=cY rs∧vh G rs (3*n+nb+3)∧rs.map (·.2)=(fu i).map (fun j=>c6 es β 0 (j+1))) ⟨[],rfl,fun z hz=>absurd hz 0#e,rfl⟩ ?_ ?_
 ·rintro D' i v ys H3' jK N N0 h0 Xh HV s3' hv hy' ⟨rs',rfl,aaz,Er⟩ kY kN
  obtain ⟨e,he,rfl⟩:=gr hv
  rw [ly,zP] at he
  have hi:i+1<es.length:=(lR.mp he).1
  obtain ⟨xi,gi,fi⟩:=cI (hR.up (EH.trans s3')) hS hi
  rw [he] at gi
  cases gi
  obtain ⟨vi,ei,qi,zi⟩:=id fi
  refine fD h0 ?_
  rw?
  refine cu ?_
  rw?
  refine ⟨vi,pb,_,β,n,nb,rfl,qi.qt,hb.up (EH.trans s3'),by try?,fun y1 H4 s4 f4=>?_⟩
  rw?
  refine aE (mk:=.tup) 0#e fun lo H5 s5 n5 e5=>?_
  rw?
  refine ⟨x0.1,lo,_,_,_,_,n,n+nb+1,n,rfl,(f0.up (EH.trans (s3'.trans (s4.trans s5)))).XD,⟨y1,e5,f4.up s5,zi⟩,gV dX 0#c hi,by try?,fun z H6 s6 f6=>?_⟩
  have U7:=s4.trans (s5.trans s6)
  refine kY _ H6 U7 ⟨rs'++[(z,c6 es β 0 (i+1))],by simp [cY],fun u hu=>?_,?_⟩
  ·rcases dN.mp hu with w | w
   ·exact (aaz u w).up (rE U7)
   ·obtain rfl:u=(z,c6 es β 0 (i+1)):=by simpa using w
    obtain ⟨t,d,e',ff⟩:=f6.mono (show n+(n+nb+1)+n+2≤3*n+nb+3 by try?)
    exact ⟨t,d,d9 (U7 _ _ HV) e',ff⟩
  ·rw [i9,Er,vd,i9]
   rfl
 rintro D' ys' H8 Xh HV s8 hy' ⟨rs',rfl,aaz,Er⟩
 rw [aO,iP] at Er
 have acy:vh H8 rs' (3*n+nb+3):=fun u hu=>(aaz u hu).up gO
 have NI:=EH.trans s8
 have UW:=(s7.trans s8) _ _ eD
 have VY:vh H8 rs (3*n+nb+3):=fun u hu=>(FQ u hu).up (s7.trans s8)
 have len:∀{rs:Qs} {g:Nat→Rat},rs.map (·.2)=(fu (es.length-1)).map g→0<rs.length:=fun {rs g} h=>by
  have:=congrArg tT h
  simp at this
  simp?
 have inR:∀{rs:Qs} {g:Nat→Rat},rs.map (·.2)=(fu (es.length-1)).map (fun j=>g (j+1))→∀i,0<i→i<es.length→∃u∈rs,u.2=g i:=fun {rs g} h i h0 hi=>by
  have:g i∈rs.map (·.2):=by rw [h];exact gP.mpr ⟨i-1,qH.mpr 0#c,by rw [show i-1+1=i by simp?]⟩
  obtain ⟨u,hu,e⟩:=gP.mp this
  exact ⟨u,hu,e⟩
 have RU:∀{rs:Qs} {g:Nat→Rat},rs.map (·.2)=(fu (es.length-1)).map (fun j=>g (j+1))→∀u∈rs,∃i,0<i∧i<es.length∧u.2=g i:=fun {rs g} h u hu=>by
  have:u.2∈rs.map (·.2):=gP.mpr ⟨u,hu,rfl⟩
  rw [h] at this
  obtain ⟨i,hi,e⟩:=gP.mp this
  have:=qH.mp hi
  exact ⟨i+1,by simp?,by simp?,e.symm⟩
 rw?
 refine ⟨D,rs,3*n+nb+3,rfl,UW,VY,by try?,len hmap,fun u hu tM=>?_⟩
 rw?
 refine ⟨D',rs',3*n+nb+3,rfl,HV,acy,by try?,len Er,fun u' hu' hmin=>?_⟩
 rw?
 refine ⟨u.1,u'.1,u.2,u'.2,3*n+nb+3,3*n+nb+3,rfl,VY u hu,acy u' hu',by try?,fun o o1 o2=>?_⟩
 obtain ⟨i,i0,i1,i2⟩:=RU hmap u hu
 obtain ⟨j,j0,j1,j2⟩:=RU Er u' hu'
 rw?
 refine cE 0#B 0#B
 ·have c':=jM c
  have le:u.2≤u'.2:=jm.mp fun z=>by have:=o1.mpr z;simp?
  have all:∀i j,0<i→i<es.length→0<j→j<es.length→fB es β 0 i≤c6 es β 0 j:=fun i j a b c d=>by
   obtain ⟨y,hy1,ey⟩:=inR hmap i a b
   obtain ⟨y',hy2,ey'⟩:=inR Er j c d
   rw [← ey,← ey']
   exact yS (tM y hy1) (yS le (hmin y' hy2))
  rw?
  refine ⟨D,rs,3*n+nb+3,rfl,UW,VY,by try?,len hmap,fun z hz afI=>?_⟩
  obtain ⟨q,q0,q1,q2⟩:=RU hmap z hz
  rw?
  refine k1 all z.1 z.2 H8 NI (VY z hz) (fun i a b=>?_) ⟨q,q0,q1,q2⟩
  obtain ⟨y,hy1,ey⟩:=inR hmap i a b
  rw [← ey]
  exact afI y hy1
 ·have c':=iH (gY.mpr c)
  rw?
  refine k0 ⟨i,j,i0,i1,j0,j1,?_⟩ H8 NI
  rw [← i2,← j2]
  exact o1.mp 0#c
end
def W9 (es:List En) (β:Rat) (p:Nat):Prop:=∀i j,p<i→i<es.length→p<j→j<es.length→fB es β p i≤c6 es β p j
theorem vI:fB (es.drop p) β 0 i=fB es β p (p+i)∧c6 (es.drop p) β 0 i=c6 es β p (p+i):=by
 have m:∀k,mo (es.drop p) k=mo es (p+k):=fun k=>by unfold mo;rw [ly]
 have w:∀k,wo (es.drop p) k=wo es (p+k):=fun k=>by unfold wo;rw [ly]
 unfold fB c6
 rw [m,m,w,w,Ke]
 exact ⟨rfl,rfl⟩
def MT (es:List En) (β:Rat) (t:Nat→Int) (N m:Nat) (v:Int):Prop:=v≤max 1 (t (N-1))∧(∀p,p<m→W9 es β p→v≤t p+1)∧(v=max 1 (t (N-1))∨∃p,p<m∧W9 es β p∧v=t p+1)
theorem qS (h:0<N):pM (gU N t) (-1)=some (.int (t (N-1))):=by
 unfold pM
 rw [lW,pN (m:=N-1) 0#c]
 show (gU N t)[N-1]?=_
 unfold gU
 rw [dm,HN 0#c]
 rfl
inductive wD (vs:List V) (H:Hp) (Q:VK) (E_:XK):Prop where
 | mk (l pb:av) (es:List En) (n nb:Nat) (β:Rat) (aD:Bool) (u:Int):vs=[.ref l,.str (Ql (if aD=true then .ch else .sp)),.ref pb,.int u]→H l=some (.lst (vals es))→Row H es n→iR es→rising es→1≤es.length→es.length≤40→bS H pb β nb→n≤1000→nb≤1000→1≤n→Sz n (u+1)→(∀(y:av) (v:Int) (wv:V) (t:Nat→Int) (H':Hp),au H H'→H' y=some (.tup [.int v,wv])→lH (fM es β aD) (es.length+bh aD) t→MT es β t (es.length+bh aD) (es.length-1) v→Q (.ref y) H')→wD vs H Q E_
section
theorem jj:aF ["run","way","bound","moment","tied","told","found","place","steep","value"] ["run","way","bound","moment"] (ah Cm):=0#a
theorem Pu (F:cT K "spared" "spared" Cm f fd) (T:Txt mg) (AV:Dn P w K mg base 6 "labels" ["samples","bound","tied"] CC) (kI:Dn P w K mg base 4 "slope_through" ["samples","bound"] yJ) (ck:Dn P w K mg base 3 "loose_along" ["steep","sample","moment"] oX) (bE:Dn P w K mg base 4 "reduced" ["quotient"] fR):bf P w K mg base c7 7 f fd ["run","way","bound","moment"] wD:=by
 refine F.ok jj 0#f 0#b
 ·obtain ⟨l,pb,es,n,nb,β,aD,u,rfl,_⟩:=h
  rfl
 obtain ⟨l,pb,es,n,nb,β,aD,u,rfl,hl,hR,hS,dX,h1,lI,hb,hn,hnb,n1,zu,k⟩:=h
 refine bI ⟨_,(ao (aK 4 jj.nd (tZ d7 0#r mD (aH _))) (ao (aK 5 jj.nd (Jd.c3 AV hr 0#l 0#w (aa 4))) (ao (aK 6 jj.nd (bG (bC (fU (V9 rfl) rfl T.RG JV (bC aq (bD (fK K) (aa 5) (eV cW aq) 0#h)) (he:=i6) (hpl:=(cD qD cB))) dH))) (ao (dP gF rfl (zj rfl T.range (dG (aG bP (gB K T.gc 0#l) aq))) (cg (i:=7) jj.nd rfl 0#m) (ao (aK 8 jj.nd (bY kI hr (qW (Tf K) 0#l (qY (aa 7)) qX) 0#w)) (aI (b9 (Jd.xA (rf (bF ir (aa 8) dH (aH _)) (tY (bF lD (aG aV (bD (fK K) (aa 5) (aa 7) 0#h) aq) (aJ K (aa 6)) (aH _))))) (ao (aK 9 jj.nd (Jd.c1 bE hr (Jd.c3 ck hr (aa 8) (bD (fK K) 0#l (aa 7) 0#h) (aG aV (aa 3) aq)))) (aI (aK 6 jj.nd (bG (bC (aG aV (bD (fK K) (aa 5) (aa 7) 0#h) aq) (bG (bC (aG aV (aa 3) aq) (aa 9)))))))) cF)))) (aI (aU (aa 6))))))),?_⟩
 rw?
 refine fV (c:=aD) (by cases aD <;> decide +kernel) ?_
 rw?
 refine ⟨l,pb,es,n,nb,β,aD,rfl,hl,hR,hS,dX,h1,by try?,hb,hn,hnb,fun R t H1 s1 nR eR hF=>?_⟩
 rw [show (if aD=true then es.length else es.length+1)=es.length+bh aD by cases aD <;> rfl] at eR hF
 have hN:0<es.length+bh aD:=by simp?
 rw?
 refine cA eR (qS hN) ?_
 rw?
 refine aE (mk:=.tup) 0#e fun y0 H2 s2 n2 e2=>?_
 rw?
 refine eF (uO ?_)
 rw?
 refine cP (.inl (aX.of ((s1.trans s2) _ _ hl))) ?_
 rw [aO]
 rw?
 have emax:(if t (es.length+bh aD-1)>1 then t (es.length+bh aD-1) else 1)=max 1 (t (es.length+bh aD-1)):=by
  split <;> simp?
 rw [emax] at e2
 refine ⟨_,rfl,by lia,by lia,cX (fun m σ H3=>Xs6 fun (y:av) (v:Int) (wv:V) (v7 v8 v9:Option V)=>σ=[some (.ref l),some (.str (Ql (if aD=true then .ch else .sp))),some (.ref pb),some (.int u),some (.bl aD),some (.ref R),some (.ref y),v7,v8,v9]∧au H2 H3∧H3 y=some (.tup [.int v,wv])∧MT es β t (es.length+bh aD) m v) ?_ ?_ ?_⟩
 ·exact ⟨y0,_,.bM,_,_,_,rfl,au.refl _,e2,⟨EW _,fun p hp=>absurd hp (D7 _),.inl rfl⟩⟩
 ·rintro m σ H3 hm ⟨y,v,wv,v7,v8,v9,rfl,s3,ey,hL⟩
  have hm1:m+1<es.length:=by simp?
  rw [show (0:Int)+(m:Int)=(m:Int) by simp?]
  have mK:=s1.trans (s2.trans s3)
  refine eU fun M Bk RR hM _ hR'=>?_
  walk_at "vd"
  refine vS (mK _ _ hl) fun S H4 s4 nS eS=>?_
  rw [Vt,show (vals es).drop m=vals (es.drop m) by unfold vals;rw [Oq]] at eS
  have vg:=mK.trans s4
  rw?
  refine ⟨S,pb,es.drop m,n,nb,β,rfl,eS,fun x hx=>(hR.up vg) x (JX hx),fun x hx=>hS x (JX hx),dX.sublist (CY _ _),by rw [iP];simp?,by rw [iP];simp?,hb.up vg,hn,hnb,?_,?_⟩
  ·rintro ⟨i,j,i0,i1,j0,j1,lt⟩ H5 s5
   rw [iP] at i1 j1
   have nT:¬W9 es β m:=fun z=>by
    rw [vI.1,vI.2] at lt
    exact absurd (z (m+i) (m+j) 0#c 0#c 0#c 0#c) (qC.mpr lt)
   rw?
   refine ⟨rfl,?_⟩
   rw?
   refine bU ?_
   rw?
   refine bU ?_
   rw?
   have PD:=s4.trans s5
   exact hM _ _ ⟨y,v,wv,_,_,_,rfl,s3.trans PD,PD _ _ ey,⟨hL.1,fun p hp hT=>by
    by_cases e:p=m
    ·subst e
     exact absurd hT nT
    ·exact hL.2.1 p 0#c hT,hL.2.2.imp id fun ⟨p,hp,z⟩=>⟨p,by simp?,z⟩⟩⟩
  ·intro all p G H5 s5 fG hG1 hG2
   rw [iP] at hG1 hG2 all
   have hT:W9 es β m:=fun i j a b c d=>by
    have:=all (i-m) (j-m) 0#c 0#c 0#c 0#c
    rw [vI.1,vI.2,show m+(i-m)=i by simp?,show m+(j-m)=j by simp?] at this
    exact this
   rw?
   refine ⟨rfl,?_⟩
   have PD:=s4.trans s5
   have ey5:=PD _ _ ey
   have eR5:=(s2.trans (s3.trans PD)) _ _ eR
   obtain ⟨xm,gm,fm⟩:=cI (hR.up (mK.trans PD)) hS (show m<es.length by simp?)
   rw?
   refine cu ?_
   rw?
   refine cA eR5 (jv 0#c rfl) ?_
   rw?
   refine cE 0#B 0#B
   ·have c':=jM c
    rw?
    refine cA ((mK.trans PD) _ _ hl) (dh gm rfl) ?_
    rw?
    refine ⟨p,xm.1,G,wo es m,mo es m,u+1,3*n+nb+3,n,rfl,fG,fm,zu,by try?,by try?,fun x6 H6 s6 f6=>?_⟩
    rw?
    refine ⟨x6,_,_,rfl,f6,by try?,fun x7 H7 s7 f7=>?_⟩
    rw?
    refine cA ((s6.trans s7) _ _ eR5) (jv 0#c rfl) ?_
    rw?
    refine aE (mk:=.tup) 0#e fun x8 H8 s8 n8 e8=>?_
    rw?
    refine aE (mk:=.tup) 0#e fun x9 H9 s9 n9 e9=>?_
    have Qi:=s8.trans s9
    rw?
    refine hM _ _ ⟨x9,t m+1,.ref x8,_,_,_,rfl,s3.trans (PD.trans (s6.trans (s7.trans Qi))),e9,⟨?_,fun p hp hT'=>?_,.inr ⟨m,by simp?,hT,rfl⟩⟩⟩
    ·have:=hL.1
     simp?
    ·by_cases e:p=m
     ·subst e
      simp?
     ·have:=hL.2.1 p 0#c hT'
      simp?
   ·have c':=iH (gY.mpr c)
    rw?
    exact hM _ _ ⟨y,v,wv,_,_,_,rfl,s3.trans PD,ey5,⟨hL.1,fun p hp hT'=>by
     by_cases e:p=m
     ·subst e
      simp?
     ·exact hL.2.1 p 0#c hT',hL.2.2.imp id fun ⟨p,hp,z⟩=>⟨p,by simp?,z⟩⟩⟩
 ·rintro σ H3 ⟨y,v,wv,v7,v8,v9,rfl,s3,ey,hL⟩
  rw?
  rw [show ((es.length:Int)-1).toNat=es.length-1 by simp?] at hL
  exact k y v wv t H3 (s1.trans (s2.trans s3)) ey hF hL
end
theorem CU (h:j<m-n):wo (piece es n m) j=wo es (n+j):=by unfold wo;rw [ye h]
theorem JE (hi:i<m-n) (hj:j<m-n) (hk:k<m-n):sd (piece es n m) i j k=sd es (n+i) (n+j) (n+k):=by
 unfold sd
 rw [vK hi,vK hj,vK hk,CU hi,CU hj,CU hk]
theorem S6 (h:es.map (·.2)=es'.map (·.2)) (i j k:Nat):sd es i j k=sd es' i j k:=by
 unfold sd
 rw [(eY h i).1,(eY h i).2,(eY h j).1,(eY h j).2,(eY h k).1,(eY h k).2]
theorem rq (h:i<es.length):mo (es++xs) i=mo es i∧wo (es++xs) i=wo es i:=by
 unfold mo wo
 rw [wX h]
 exact ⟨rfl,rfl⟩
theorem rZ (hi:i<es.length) (hj:j<es.length) (hk:k<es.length):sd (es++xs) i j k=sd es i j k:=by
 unfold sd
 rw [(rq hi).1,(rq hi).2,(rq hj).1,(rq hj).2,(rq hk).1,(rq hk).2]
theorem Gr.congr (h:Gr E n F m):(∀F k,k<n→(E F k↔E' F k))→Gr E' n F m:=by
 induction h with
 | nil=>exact fun _=>.nil
 | no h he ih=>exact fun u=>.no (ih fun F k hk=>u F k 0#c) fun z=>he ((u _ _ 0#c).mpr z)
 | yes h he ih=>exact fun u=>.yes (ih fun F k hk=>u F k 0#c) ((u _ _ 0#c).mp he)
theorem Gr.pre (h:Gr E n F v):∀m,m≤n→∃F' v',Gr E m F' v'∧v'≤v:=by
 induction h with
 | nil=>exact fun m hm=>⟨0,0,by rw [show m=0 by simp?];exact .nil,dz _⟩
 | @no k F n h he ih=>
   intro m hm
   by_cases e:m=k+1
   ·exact ⟨F,n,e▸.no h he,dz _⟩
   ·exact ih m 0#c
 | @yes k F n h he ih=>
   intro m hm
   by_cases e:m=k+1
   ·exact ⟨k,n+1,e▸.yes h he,dz _⟩
   ·obtain ⟨F',v',a,b⟩:=ih m 0#c
    exact ⟨F',v',a,by simp?⟩
theorem Gr.on (h:Gr E k F n):∀d,(∀k',k≤k'→k'<k+d→¬E F k')→Gr E (k+d) F n
 | 0,_=>h
 | d+1,u=>.no (Gr.on h d fun k' a b=>u k' a 0#c) (u (k+d) 0#c 0#c)
theorem Q9 (h:Gr E m F v) (h':Gr E' n F' v') (hmn:m≤n) (e:∀F k,k<m→(E' F k↔E F k)):v≤v':=by
 obtain ⟨F1,v1,a,b⟩:=h'.pre m hmn
 have:=(h.uniq (a.congr e)).2
 simp?
def Pin (es:List En) (β:Rat) (F k:Nat):Prop:=∃i j,F≤i∧i<j∧j<k∧2*β<dB (sd es i j k)
theorem Cut.pin (hr:rising es) (lV:0≤β) (h1:1≤es.length) (h:Cut es (2*β) qs es.length):∃F v:Nat,Gr (Pin es β) es.length F v∧(qs.length:Int)=1+v:=by
 obtain ⟨pos,p0,pn,hq⟩:=h
 have hB:0≤2*β:=by grind
 have rp:∀n m,rising (piece es n m):=fun n m=>hr.sublist ((CW _ _).trans (CY _ _))
 have ft:∀n m,m≤es.length→(HY (piece es n m) (2*β)↔∀i j k,n≤i→i<j→j<k→k<m→dB (sd es i j k)≤2*β):=fun n m hm=>by
  rw [uD (rp n m) hB,sW hm]
  constructor
  ·intro z i j k a b c d
   have:=z (i-n) (j-n) (k-n) 0#c 0#c 0#c
   rw [JE 0#c 0#c 0#c,show n+(i-n)=i by simp?,show n+(j-n)=j by simp?,show n+(k-n)=k by simp?] at this
   exact this
  ·intro z i j k a b c
   rw [JE 0#c 0#c 0#c]
   exact z _ _ _ 0#c 0#c 0#c 0#c
 have hqi:∀i,i<qs.length→pos i<pos (i+1)∧pos (i+1)≤es.length∧(∀k,k<pos (i+1)→¬Pin es β (pos i) k)∧(pos (i+1)<es.length→Pin es β (pos i) (pos (i+1))):=fun i hi=>by
  obtain ⟨a,b,c,d,e⟩:=hq i _ (mX hi)
  rw [c,ft _ _ b] at d
  refine ⟨a,b,fun k hk ⟨x,y,u1,u2,u3,u4⟩=>absurd (d x y k u1 u2 u3 hk) (qC.mpr u4),fun hlt=>?_⟩
  have:=e hlt
  rw [ft _ _ 0#c] at this
  refine P4 fun np=>this fun x y k u1 u2 u3 u4=>jm.mp fun z=>?_
  by_cases ek:k=pos (i+1)
  ·subst ek
   exact np ⟨x,y,u1,u2,u3,z⟩
  ·exact absurd (d x y k u1 u2 u3 0#c) (qC.mpr z)
 have h0:0<qs.length:=Nat.pos_of_ne_zero fun z=>by rw [z,p0] at pn;simp?
 have all:∀i,i<qs.length→Gr (Pin es β) (pos (i+1)) (pos i) i:=by
  intro i
  induction i with
  | zero=>
    intro hi
    obtain ⟨a,b,c,d⟩:=hqi 0 hi
    rw [p0] at c ⊢
    have:=Gr.on (E:=Pin es β) .nil (pos (0+1)) fun k' _ z=>c k' 0#c
    rw [Zu] at this
    exact this
  | succ i ih=>
    intro hi
    obtain ⟨a,b,c,d⟩:=hqi (i+1) hi
    obtain ⟨a',b',c',d'⟩:=hqi i 0#c
    have g:=Gr.yes (ih 0#c) (d' 0#c)
    have:=g.on (pos (i+1+1)-(pos (i+1)+1)) fun k' _ z=>c k' 0#c
    rw [show pos (i+1)+1+(pos (i+1+1)-(pos (i+1)+1))=pos (i+1+1) by simp?] at this
    exact this
 have:=all (qs.length-1) 0#c
 rw [show qs.length-1+1=qs.length by simp?,pn] at this
 exact ⟨_,_,this,by simp?⟩
theorem PR (h1:1≤es.length) (h:Told es β aD l) (hf:lH (fM es β aD) (es.length+bh aD) t):(l.length:Int)=max 1 (t (es.length+bh aD-1)):=by
 obtain ⟨t',ps,hf',hw,rfl⟩:=h
 have e:=Ft hf hf' (es.length+bh aD-1) 0#c
 rw [gJ,e]
 have lab:∀{L:Nat→Nat→Prop} {p:Nat} {ps:List (Nat×Nat)},Way L t' p ps→(ps.length:Int)=t' p:=fun {L p ps} h=>by
  induction h with
  | nil=>rw [hf'.first];rfl
  | @cons a p ps f w ih=>
    rw [fq,HK]
    have:=f.2.2.1
    simp?
 have hl:=lab hw
 by_cases z:es.length+bh aD=1
 ·rw [if_pos z,z,UE,hf'.first]
  rfl
 ·rw [if_neg z]
  have pos:∀{L:Nat→Nat→Prop} {p:Nat} {ps:List (Nat×Nat)},Way L t' p ps→0<p→1≤ps.length:=fun {L p ps} h hp=>by
   cases h with
   | nil=>simp?
   | cons f w=>rw [fq,HK];simp?
  have:=pos hw 0#c
  simp?
def RT (aD:Bool) (β:Rat) (es:List En) (d:Int):Prop:=∃t,lH (fM es β aD) (es.length+bh aD) t∧d=max 1 (t (es.length+bh aD-1))
def RC (wy:Wy) (β:Rat) (es:List En) (d:Int):Prop:=match wy with
 | .ap=>∃F v:Nat,Gr (Pin es β) es.length F v∧d=1+v
 | .jo=>∃F F' u v:Nat,Gr (ZL es β) es.length F u∧Gr (Kw es β) es.length F' v∧d=1+u+v
 | .sp=>RT false β es d
 | .ch=>RT true β es d
def BT (aD:Bool) (β:Rat) (es:List En) (d:Int):Prop:=∃t,lH (fM es β aD) (es.length+bh aD) t∧MT es β t (es.length+bh aD) (es.length-1) d
def BC (wy:Wy) (β:Rat) (es:List En) (d:Int):Prop:=match wy with
 | .ap=>RC .ap β es d
 | .jo=>RC .jo β es d
 | .sp=>BT false β es d
 | .ch=>BT true β es d
section
theorem mE {es es':List En} (h:es.map (·.2)=es'.map (·.2)):es.length=es'.length:=by simpa using congrArg tT h
theorem RT.congr (h:es.map (·.2)=es'.map (·.2)) (g:RT aD β es d):RT aD β es' d:=by
 obtain ⟨t,a,b⟩:=g
 rw [BF h,mE h] at a
 rw [mE h] at b
 exact ⟨t,a,b⟩
theorem PN (h:es.map (·.2)=es'.map (·.2)):W9 es β=W9 es' β:=by
 funext p
 unfold W9 fB c6
 simp only [mE h,(eY h _).1,(eY h _).2]
theorem BT.congr (h:es.map (·.2)=es'.map (·.2)) (g:BT aD β es d):BT aD β es' d:=by
 obtain ⟨t,a,b⟩:=g
 rw [BF h,mE h] at a
 unfold MT at b
 rw [mE h,PN h] at b
 exact ⟨t,a,b⟩
theorem yf (h:es.map (·.2)=es'.map (·.2)):Pin es β=Pin es' β∧ZL es β=ZL es' β∧Kw es β=Kw es' β:=by
 unfold Pin ZL Kw
 simp only [S6 h]
 exact ⟨trivial,trivial,trivial⟩
theorem RC.congr (h:es.map (·.2)=es'.map (·.2)) (g:RC wy β es d):RC wy β es' d:=by
 cases wy with
 | ap=>
   obtain ⟨F,v,a,b⟩:=g
   rw [(yf h).1,mE h] at a
   exact ⟨F,v,a,b⟩
 | jo=>
   obtain ⟨F,F',u,v,a,a',b⟩:=g
   rw [(yf h).2.1,mE h] at a
   rw [(yf h).2.2,mE h] at a'
   exact ⟨F,F',u,v,a,a',b⟩
 | sp=>exact RT.congr h g
 | ch=>exact RT.congr h g
theorem BC.congr (h:es.map (·.2)=es'.map (·.2)) (g:BC wy β es d):BC wy β es' d:=by
 cases wy with
 | ap=>exact RC.congr (wy:=.ap) h g
 | jo=>exact RC.congr (wy:=.jo) h g
 | sp=>exact BT.congr h g
 | ch=>exact BT.congr h g
theorem RC.uniq (g:RC wy β es d) (g':RC wy β es d'):d=d':=by
 have tt:∀{aD:Bool},RT aD β es d→RT aD β es d'→d=d':=fun {aD} ⟨t,a,b⟩ ⟨t',a',b'⟩=>by
  rw [b,b']
  by_cases z:es.length+bh aD=0
  ·rw [z,Nat.zero_sub,a.first,a'.first]
  ·rw [Ft a a' _ 0#c]
 cases wy with
 | ap=>
   obtain ⟨F,v,a,b⟩:=g
   obtain ⟨F',v',a',b'⟩:=g'
   rw [b,b',(a.uniq a').2]
 | jo=>
   obtain ⟨F,G,u,v,a,c,b⟩:=g
   obtain ⟨F',G',u',v',a',c',b'⟩:=g'
   rw [b,b',(a.uniq a').2,(c.uniq c').2]
 | sp=>exact tt g g'
 | ch=>exact tt g g'
theorem RC.pos (g:RC wy β es d):1≤d:=by
 cases wy with
 | ap=>obtain ⟨F,v,a,b⟩:=g;simp?
 | jo=>obtain ⟨F,G,u,v,a,c,b⟩:=g;simp?
 | sp=>obtain ⟨t,a,b⟩:=g;simp?
 | ch=>obtain ⟨t,a,b⟩:=g;simp?
theorem OL (h:lH L' N' t) (hN:N≤N') (e:∀i j,i<j→j<N→(L i j↔L' i j)):lH L N t:=
 ⟨h.first,fun i j a b c=>h.le i j a 0#c ((e i j a b).mp c),fun j a b=>by
  obtain ⟨i,i1,i2,i3⟩:=h.ex j a 0#c
  exact ⟨i,i1,(e i j i1 b).mpr i2,i3⟩⟩
theorem Xf (hr:rising (es++xs)) (h1:1≤es.length) (g:BT aD β es d) (g':RT aD β (es++xs) d'):d≤d':=by
 obtain ⟨t,hF,l0,l2,l3⟩:=g
 obtain ⟨t',hF',e0⟩:=g'
 have l1:∀X,1≤X→t (es.length+bh aD-1)≤X→d≤X:=fun X u v=>by
  clear l2 l3
  simp?
 have g1:1≤d'∧t' ((es++xs).length+bh aD-1)≤d':=by
  clear l2 l3
  simp?
 clear l0 l3 e0
 have hl:(es++xs).length=es.length+xs.length:=fq
 have s1:bh aD≤1:=by cases aD <;> decide
 generalize hN:(es++xs).length+bh aD=N' at *
 have lg:∀i j,i<j→j<es.length+bh aD→(fM es β aD i j↔fM (es++xs) β aD i j):=fun i j a b=>by
  rw [oM a b,oM a 0#c]
  unfold Good
  constructor
  ·intro z k k1 k2
   rw [rZ 0#c 0#c 0#c]
   exact z k k1 k2
  ·intro z k k1 k2
   have:=z k k1 k2
   rw [rZ 0#c 0#c 0#c] at this
   exact this
 have te:=Ft hF (OL hF' (N:=es.length+bh aD) 0#c lg)
 have key:∀q,q<N'→es.length+bh aD-1≤q→∀X,1≤X→t' q≤X→d≤X:=by
  intro q
  induction q using YW with
  | ind q ih=>
    intro hq hN2 X x1 x2
    by_cases e:q=es.length+bh aD-1
    ·exact l1 X x1 (by rw [te _ 0#c,← e];exact x2)
    obtain ⟨a,a1,a2,a3⟩:=hF'.ex q 0#c hq
    by_cases ha:es.length+bh aD-1≤a
    ·exact ih a a1 0#c ha X x1 0#c
    by_cases hb:a<es.length-1
    ·have hT:W9 es β a:=by
      have hg:=(oM a1 0#c).mp a2
      have one:∀i,a<i→i<es.length→fB es β a i≤WS (es++xs) a (q-bh aD)∧WS (es++xs) a (q-bh aD)≤c6 es β a i:=fun i i1 i2=>by
       have:=(vA hr i1 (show i<q-bh aD by simp?) 0#c).mp (hg i i1 0#c)
       unfold fB c6 at this ⊢
       have hi:=rq (xs:=xs) i2
       have ha:=rq (xs:=xs) (zQ i1 i2)
       rw [hi.1,hi.2,ha.1,ha.2] at this
       exact this
      exact fun i j i1 i2 j1 j2=>yS (one i i1 i2).1 (one j j1 j2).2
     have:=l2 a hb hT
     rw [te a 0#c,← a3] at this
     exact Ou this x2
    ·have e1:a=es.length-1:=by simp?
     have e2:es.length+bh aD-1=es.length:=by simp?
     have:=hF.le a es.length 0#c 0#c (by rw [e1];exact xN 0#c 0#c)
     rw [te a 0#c,← a3] at this
     exact l1 X x1 (by rw [e2];exact Ou this x2)
 exact key (N'-1) 0#c 0#c d' g1.1 g1.2
theorem grow (hr:rising (es++xs)) (h1:1≤es.length) (g:BC wy β es d) (g':RC wy β (es++xs) d'):d≤d':=by
 have hl:(es++xs).length=es.length+xs.length:=fq
 cases wy with
 | ap=>
   obtain ⟨F,v,a,b⟩:=g
   obtain ⟨F',v',a',b'⟩:=g'
   have:=Q9 a a' 0#c fun F k hk=>by
    constructor
    ·rintro ⟨i,j,u1,u2,u3,u4⟩
     rw [rZ 0#c 0#c hk] at u4
     exact ⟨i,j,u1,u2,u3,u4⟩
    ·rintro ⟨i,j,u1,u2,u3,u4⟩
     refine ⟨i,j,u1,u2,u3,?_⟩
     rw [rZ 0#c 0#c hk]
     exact u4
   simp?
 | jo=>
   obtain ⟨F,G,u,v,a,c,b⟩:=g
   obtain ⟨F',G',u',v',a',c',b'⟩:=g'
   have:=Q9 a a' 0#c fun F k hk=>by
    constructor
    ·rintro ⟨i,j,u1,u2,u3,u4⟩
     rw [rZ 0#c 0#c hk] at u4
     exact ⟨i,j,u1,u2,u3,u4⟩
    ·rintro ⟨i,j,u1,u2,u3,u4⟩
     refine ⟨i,j,u1,u2,u3,?_⟩
     rw [rZ 0#c 0#c hk]
     exact u4
   have:=Q9 c c' 0#c fun F k hk=>by
    constructor
    ·rintro ⟨i,j,u1,u2,u3,u4⟩
     rw [rZ 0#c 0#c hk] at u4
     exact ⟨i,j,u1,u2,u3,u4⟩
    ·rintro ⟨i,j,u1,u2,u3,u4⟩
     refine ⟨i,j,u1,u2,u3,?_⟩
     rw [rZ 0#c 0#c hk]
     exact u4
   simp?
 | sp=>exact Xf hr h1 g g'
 | ch=>exact Xf hr h1 g g'
end
inductive ie (R:List En→Int→Prop):List (List En)→Int→Prop
 | nil:ie R [] 0
 | cons {r:List En} {rs:List (List En)} {c d:Int}:R r c→ie R rs d→ie R (r::rs) (c+d)
section
theorem ie.snoc (h:ie R rs d) (hc:R r c):ie R (rs++[r]) (d+c):=by
 induction h with
 | nil=>have:=ie.cons hc .nil;rw [Zx] at this;rw [Zy];exact this
 | cons a b ih=>rw [Zk];exact .cons a ih
theorem ie.split (h:ie R (rs++rs') d):∃d1 d2,ie R rs d1∧ie R rs' d2∧d=d1+d2:=by
 induction rs generalizing d with
 | nil=>exact ⟨0,d,.nil,h,(Zy _).symm⟩
 | cons x xs ih=>
   cases h with
   | cons a b=>
     obtain ⟨d1,d2,h1,h2,e⟩:=ih b
     exact ⟨_,d2,.cons a h1,h2,by simp?⟩
theorem ie.imp (e:∀r r' c,r.map (·.2)=r'.map (·.2)→R r c→R' r' c) (h:ie R rs d):∀{rs'},jt (fun r r':List En=>r.map (·.2)=r'.map (·.2)) rs rs'→ie R' rs' d:=by
 induction h with
 | nil=>
   intro rs' g
   cases rs' with
   | nil=>exact .nil
   | cons _ _=>exact g.elim
 | cons a b ih=>
   intro rs' g
   cases rs' with
   | nil=>exact g.elim
   | cons _ _=>exact .cons (e _ _ _ g.1 a) (ih g.2)
theorem ie.uniq (u:∀r c c',R r c→R r c'→c=c') (h:ie R rs d):ie R rs d'→d=d':=by
 induction h generalizing d' with
 | nil=>intro g;cases g;rfl
 | cons a b ih=>intro g;cases g with | cons a' b'=>rw [u _ _ _ a a',ih b']
theorem ie.pos (u:∀r c,R r c→0≤c) (h:ie R rs d):0≤d:=by
 induction h with
 | nil=>exact EW _
 | cons a b ih=>have:=u _ _ a;simp?
end
section
variable {α:Type} {s:α→Bool} {as bs:List α}
theorem pT:∀i,i≤as.length→parts s (as++bs) i=parts s as i∧cy s (as++bs) i=cy s as i
 | 0,_=>⟨rfl,rfl⟩
 | i+1,h=>by
   have ih:=pT i 0#c
   have g:(as++bs)[i]?=as[i]?:=wX 0#c
   refine ⟨?_,?_⟩
   ·unfold parts
    rw [g,ih.1,ih.2]
   ·unfold cy
    rw [J0,g]
theorem EB (h:cy s as as.length=false):∀i,i≤bs.length→parts s (as++bs) (as.length+i)=parts s as as.length++parts s bs i∧cy s (as++bs) (as.length+i)=cy s bs i
 | 0,_=>by
   obtain ⟨a,b⟩:=pT (s:=s) (bs:=bs) as.length (dz _)
   rw [Ke,a,b,h]
   exact ⟨(sG _).symm,rfl⟩
 | i+1,hi=>by
   obtain ⟨a,b⟩:=EB h i 0#c
   have g:(as++bs)[as.length+i]?=bs[i]?:=by rw [yO 0#c,T3]
   obtain ⟨x,hx⟩:∃x,bs[i]?=some x:=⟨_,mX 0#c⟩
   rw [hx] at g
   rw [← Zm]
   refine ⟨?_,by rw [iW g,iW hx]⟩
   cases hs:s x with
   | false=>rw [jh g hs,jh hx hs,a]
   | true=>
     cases hi:cy s bs i with
     | false=>rw [iu g hs (b.trans hi),iu hx hs hi,a,zJ]
     | true=>
       obtain ⟨t,r,hp⟩:=rB hi
       rw [jx hx hs hi hp,jx g hs (b.trans hi) (t:=parts s as as.length++t) (r:=r) (by rw [a,hp,zJ]),zJ]
theorem EC (h:∀x∈as,s x=true) (h0:as≠[]):parts s as as.length=[as]:=by
 have all:∀i,i+1≤as.length→parts s as (i+1)=[as.take (i+1)]:=by
  intro i
  induction i with
  | zero=>
    intro hi
    obtain ⟨x,hx⟩:∃x,as[0]?=some x:=⟨_,mX 0#c⟩
    rw [iu hx (h x (mY hx)) rfl,C3,hx]
    rfl
  | succ i ih=>
    intro hi
    obtain ⟨x,hx⟩:∃x,as[i+1]?=some x:=⟨_,mX 0#c⟩
    obtain ⟨y,hy⟩:∃y,as[i]?=some y:=⟨_,mX 0#c⟩
    have hin:cy s as (i+1)=true:=by rw [iW hy];exact h y (mY hy)
    rw [jx hx (h x (mY hx)) hin (t:=[]) (r:=as.take (i+1)) (by rw [ih 0#c];rfl),C3 (i:=i+1),hx]
    rfl
 have:0<as.length:=HP.mpr h0
 have:=all (as.length-1) 0#c
 rw [show as.length-1+1=as.length by simp?,jH] at this
 exact this
theorem BY (h:∀x∈as,s x=true) (h0:as≠[]):∀i,i≤bs.length→∃zs rest,parts s (as++bs) (as.length+i)=(as++zs)::rest∧zs.Sublist (bs.take i)
 | 0,_=>by
   obtain ⟨a,b⟩:=pT (s:=s) (bs:=bs) as.length (dz _)
   refine ⟨[],[],?_,by simp⟩
   rw [Ke,a,EC h h0,sG]
 | i+1,hi=>by
   obtain ⟨zs,rest,a,c⟩:=BY h h0 i 0#c
   have g:(as++bs)[as.length+i]?=bs[i]?:=by rw [yO 0#c,T3]
   obtain ⟨x,hx⟩:∃x,bs[i]?=some x:=⟨_,mX 0#c⟩
   rw [hx] at g
   rw [← Zm]
   have tk:bs.take (i+1)=bs.take i++[x]:=by rw [C3,hx];rfl
   have sub:zs.Sublist (bs.take (i+1)):=by rw [tk];exact c.trans (XQ _ _)
   cases hs:s x with
   | false=>exact ⟨zs,rest,by rw [jh g hs,a],sub⟩
   | true=>
     cases hi:cy s (as++bs) (as.length+i) with
     | false=>exact ⟨zs,rest++[[x]],by rw [iu g hs hi,a];rfl,sub⟩
     | true=>
       rcases Yd rest with z | ⟨t,r,z⟩
       ·subst z
        refine ⟨zs++[x],[],?_,by rw [tk];exact c.append (Ue _)⟩
        rw [jx g hs hi (t:=[]) (r:=as++zs) a]
        simp
       ·rw [z] at a
        refine ⟨zs,t++[r++[x]],?_,sub⟩
        rw [jx g hs hi (t:=(as++zs)::t) (r:=r) (by rw [a];simp)]
        rfl
end
theorem LP (h:es.map (·.2)=es'.map (·.2)):jt (fun r r':List En=>r.map (·.2)=r'.map (·.2)) (parts dU es es.length) (parts dU es' es'.length):=by
 refine Im ?_
 have a:=sV (fun x:En=>x.2) (fun v:Int×Option Rat=>v.2.isSome) es es.length
 have c:=sV (fun x:En=>x.2) (fun v:Int×Option Rat=>v.2.isSome) es' es'.length
 have a':(parts dU es es.length).map (zR fun x:En=>x.2)=parts (fun v:Int×Option Rat=>v.2.isSome) (es.map fun x=>x.2) es.length:=a
 have c':(parts dU es' es'.length).map (zR fun x:En=>x.2)=parts (fun v:Int×Option Rat=>v.2.isSome) (es'.map fun x=>x.2) es'.length:=c
 rw [a',c',h,mE h]
def ZK (wy:Wy) (β:Rat) (as bs:List En) (v:Int):Prop:=∃d,ie (RC wy β) (parts dU as as.length) d∧((bs=[]∧v=d)∨(bs≠[]∧∃x,BC wy β bs x∧v=d+x))
theorem ZK.le (h:ZK wy β as bs v) (hg:cy dU as as.length=false) (hb:iR bs) (hr:rising es) (hm:es.map (·.2)=(as++bs).map (·.2)++ys) (hd:ie (RC wy β) (parts dU es es.length) d):v≤d:=by
 obtain ⟨e,he,hv⟩:=h
 obtain ⟨A,B,Y,rfl,hA,hB⟩:∃A B Y:List En,es=A++(B++Y)∧A.map (·.2)=as.map (·.2)∧B.map (·.2)=bs.map (·.2):=by
  rw [i9,zJ] at hm
  obtain ⟨A,X,rfl,hA,hX⟩:=X6.mp hm
  obtain ⟨B,Y,rfl,hB,_⟩:=X6.mp hX
  exact ⟨A,B,Y,rfl,hA,hB⟩
 have lA:=mE hA
 have lB:=mE hB
 have hgA:cy dU A A.length=false:=by
  rw [lA]
  unfold cy at hg ⊢
  have z:∀X:List En,(X[as.length-1]?).map dU=((X.map (·.2))[as.length-1]?).map fun v:Int×Option Rat=>v.2.isSome:=fun X=>by
   rw [dm,Za]
   rfl
  rw [z,hA,← z]
  exact hg
 have hBs:iR B:=fun x hx=>by
  have:x.2∈bs.map (·.2):=hB▸gP.mpr ⟨x,hx,rfl⟩
  obtain ⟨y,hy,e⟩:=gP.mp this
  have:=hb y hy
  unfold dU at this ⊢
  rw [← e]
  exact this
 have hc:=EB (s:=dU) (as:=A) (bs:=B++Y) hgA (B++Y).length (dz _)
 rw [fq (as:=A),hc.1] at hd
 obtain ⟨d1,d2,s1,s2,rfl⟩:=hd.split
 have he':ie (RC wy β) (parts dU A A.length) e:=ie.imp (R:=RC wy β) (R':=RC wy β) (fun r r' c m z=>RC.congr (wy:=wy) (d:=c) m z) he (LP hA.symm)
 have e1:d1=e:=ie.uniq (R:=RC wy β) (fun r c c' a b=>RC.uniq (wy:=wy) a b) s1 he'
 have nn:∀(r:List En) (c:Int),RC wy β r c→0≤c:=fun r c z=>by
  have:=RC.pos (wy:=wy) z
  simp?
 have p2:=s2.pos nn
 rcases hv with ⟨_,rfl⟩ | ⟨hne,x,hx,rfl⟩
 ·simp?
 ·have Xg:B≠[]:=fun z=>hne (NV.mp (by rw [← lB,z];rfl))
  obtain ⟨zs,rest,hp,hsub⟩:=BY (s:=dU) (bs:=Y) hBs Xg Y.length (dz _)
  rw [fq (as:=B),hp] at s2
  cases s2 with
  | cons a b=>
    have hrB:rising (B++zs):=by
     have:rising (B++Y):=hr.sublist (XM _ _)
     exact this.sublist ((Ue _).append (hsub.trans (CW _ _)))
    have:=grow hrB (HP.mpr Xg) (BC.congr hB.symm hx) a
    have:=b.pos nn
    simp?
theorem aaU {b:Int} (h:es.map (·.2)=hs.map (fun x=>cU b x.2)) (hb:1≤b) (ht:gQ hs i<gQ hs k):(2*c*(gQ hs k-gQ hs i)<xS hs i j k↔2*((c:Rat)/(b:Rat))<sd es i j k)∧(2*c*(gQ hs k-gQ hs i) < - xS hs i j k↔sd es i j k < -(2*((c:Rat)/(b:Rat)))):=by
 have hp:=cast_pos (b:=(gQ hs k-gQ hs i)*b) (wQ 0#c 0#c)
 have hb':=cS (b:=b) 0#c
 have e1:((2*c*(gQ hs k-gQ hs i):Int):Rat)=2*((c:Rat)/(b:Rat))*(((gQ hs k-gQ hs i)*b:Int):Rat):=by
  simp only [o9,qG]
  have:((2:Int):Rat)=2:=rfl
  rw [this]
  grind
 have e2:=Nr h (i:=i) (k:=j) (j:=k) hb ht
 constructor
 ·rw [← vc,e1,e2]
  constructor
  ·intro z
   exact XI z (Kd hp)
  ·intro z
   exact HG z hp
 ·rw [← vc,Oi,e1,e2]
  constructor
  ·intro z
   have:2*((c:Rat)/(b:Rat)) < - sd es i j k:=XI (c:=(((gQ hs k-gQ hs i)*b:Int):Rat)) (by grind) (Kd hp)
   grind
  ·intro z
   have:=HG (show 2*((c:Rat)/(b:Rat)) < - sd es i j k by grind) hp
   grind
theorem RP {b c:Int} (hb:1≤b) (hc:0≤c):(0:Rat)≤(c:Rat)/(b:Rat):=by
 have h1:(0:Rat)<(b:Rat):=cast_pos 0#c
 have h2:(0:Rat)≤(c:Rat):=by
  have:=NZ.mpr hc
  simpa using this
 exact (nC h1).mpr (by grind)
theorem WH (ha:0≤a):a<dB x↔a<x∨x < -a:=by
 unfold dB
 split <;> grind
theorem Ra (hb:1≤b) (hc:0≤c) (hr:dO hs) :(Gr (ZQ hs c 0) hs.length F v→Gr (Pin (gh hs b) ((c:Rat)/(b:Rat))) (gh hs b).length F v)∧(Gr (ZQ hs c 1) hs.length F v→Gr (ZL (gh hs b) ((c:Rat)/(b:Rat))) (gh hs b).length F v)∧(Gr (ZQ hs c (-1)) hs.length F v→Gr (Kw (gh hs b) ((c:Rat)/(b:Rat))) (gh hs b).length F v):=by
 rw [xG]
 have lV:0≤2*((c:Rat)/(b:Rat)):=by have:=RP hb hc;grind
 have n1:∀{i j k:Nat},i<k→k<hs.length→_:=fun {i j k} h1 h2=>aaU (j:=j) (c:=c) (xH hs b) hb (LA hr h1 h2)
 refine ⟨fun g=>g.congr fun F k hk=>?_,fun g=>g.congr fun F k hk=>?_,fun g=>g.congr fun F k hk=>?_⟩
 ·refine EU fun i=>EU fun j=>wM fun h1=>wM fun h2=>wM fun h3=>?_
  obtain ⟨u1,u2⟩:=n1 (i:=i) (j:=j) (k:=k) 0#c hk
  rw [WH lV,← u1,← u2,show Qj 0 (xS hs i j k)=(if xS hs i j k<0 then -xS hs i j k else xS hs i j k) from rfl]
  have:0≤2*c*(gQ hs k-gQ hs i):=oG 0#c (by have:=LA hr (show i<k by simp?) hk;simp?)
  split <;> simp?
 ·refine EU fun i=>EU fun j=>wM fun h1=>wM fun h2=>wM fun h3=>?_
  rw [← (n1 (i:=i) (j:=j) (k:=k) 0#c hk).1]
  exact Iff.rfl
 ·refine EU fun i=>EU fun j=>wM fun h1=>wM fun h2=>wM fun h3=>?_
  rw [← (n1 (i:=i) (j:=j) (k:=k) 0#c hk).2]
  exact Iff.rfl
theorem Sh (hs:List Nn) (b:Int) (i:Nat):(parts vL hs i).map (gh · b)=parts dU (gh hs b) i:=by
 have c:=sV (fun x:Nn=>((x.1,cU b x.2):En)) dU hs i
 have e2:(fun x:Nn=>dU ((x.1,cU b x.2):En))=vL:=funext fun x=>by unfold dU cU vL;simp
 rw [show (fun x:Nn=>dU ((fun x:Nn=>((x.1,cU b x.2):En)) x))=vL from e2] at c
 exact c
inductive Mz (vs:List V) (H:Hp) (Q:VK) (E_:XK):Prop where
 | mk (l:av) (hs:List Nn) (i j:Nat) (c:Int) (m n:Nat):vs=[.ref l,.int (i:Int),.int (j:Int),.int c]→H l=some (.lst (bJ hs))→ic H hs m n→Km hs→i≤j→j<hs.length→hs.length≤40→Sz n c→m≤2000→n≤2000→(∀r:Bool,(r=false↔∀k,i<k→k<j→((xS hs i k j).natAbs:Int)≤c*(gQ hs j-gQ hs i))→Q (.bl r) H)→Mz vs H Q E_
inductive CM (vs:List V) (H:Hp) (Q:VK) (E_:XK):Prop where
 | mk (l:av) (hs:List Nn) (c b:Int) (aD:Bool) (m n:Nat):vs=[.ref l,.int c,.int (1-(bh aD:Int))]→H l=some (.lst (bJ hs))→ic H hs m n→Km hs→dO hs→1≤hs.length→hs.length≤40→Sz n c→m≤2000→n≤2000→1≤b→(∀(R:av) (t:Nat→Int) (H':Hp),au H H'→H' R=some (.lst (gU (hs.length+bh aD) t))→lH (fM (gh hs b) ((c:Rat)/(b:Rat)) aD) (hs.length+bh aD) t→Q (.ref R) H')→CM vs H Q E_
inductive Cy (vs:List V) (H:Hp) (Q:VK) (E_:XK):Prop where
 | mk (l:av) (hs:List Nn) (wy:Wy) (c b:Int) (m n:Nat):vs=[.ref l,.str (Ql wy),.int c]→H l=some (.lst (bJ hs))→ic H hs m n→Km hs→dO hs→1≤hs.length→hs.length≤40→Sz n c→m≤2000→n≤2000→1≤b→0≤c→(∀(d:Int) (H':Hp),au H H'→RC wy ((c:Rat)/(b:Rat)) (gh hs b) d→Q (.int d) H')→Cy vs H Q E_
inductive CN (vs:List V) (H:Hp) (Q:VK) (E_:XK):Prop where
 | mk (l:av) (hs:List Nn) (wy:Wy) (c b:Int) (m n:Nat):vs=[.ref l,.str (Ql wy),.int c]→H l=some (.lst (bJ hs))→ic H hs m n→dO hs→hs.length≤40→Sz n c→m≤2000→n≤2000→1≤b→0≤c→(∀(d:Int) (H':Hp),au H H'→ie (RC wy ((c:Rat)/(b:Rat))) (parts dU (gh hs b) (gh hs b).length) d→Q (.int d) H')→CN vs H Q E_
section
theorem u5:aF ["_law_run","_law_i","_law_k","_law_bound","_law_span","_law_j"] ["_law_run","_law_i","_law_k","_law_bound"] (ah ym):=0#a
theorem LG (F:cT K "_law_far" "_law_far" ym f fd) (T:Txt mg) (jd:Dn P w K mg base 1 "_law_stand" ["_law_one","_law_mid","_law_last"] wF):bf P w K mg base c7 2 f fd ["_law_run","_law_i","_law_k","_law_bound"] Mz:=by
 refine F.ok u5 0#f 0#b
 ·obtain ⟨l,hs,i,j,c,m,n,rfl,_⟩:=h
  rfl
 obtain ⟨l,hs,i,j,c,em,en,rfl,hl,hes,hS,hij,hj,lI,zc,hm,hn,k⟩:=h
 obtain ⟨xi,gi,ei,zi1,zi2⟩:=Ez hes hS (show i<hs.length by simp?)
 obtain ⟨xj,gj,ej,zj1,zj2⟩:=Ez hes hS hj
 have zsp:=zj1.sub zi1
 have ok1:=bQ zc zsp 0#c
 refine bI ⟨_,(ao (aK 4 u5.nd (aG bP (aJ K (bD (fK K) 0#l 0#w 0#h)) (aJ K (bD (fK K) 0#l 0#r 0#h)))) (ao (dP gF rfl (vD rfl T.range (bC (aG aV 0#r aq) 0#w)) (cg (i:=5) u5.nd rfl 0#m) (aI (b9 (bF dI (fU xB rfl T.xC yP (dG (Jd.c3 jd hr (bD (fK K) 0#l 0#r 0#h) (bD (fK K) 0#l (aa 5) 0#h) (bD (fK K) 0#l 0#w 0#h))) (he:=Ax) (hpl:=cB)) (aG aP (aa 3) (aa 4)) (aH _)) (aI (aU Jd.oS)) cF))) (aI (aU Jd.oS)))),?_⟩
 rw?
 refine cA hl (jw gj rfl) ?_
 rw?
 refine cA hl (jw gi rfl) ?_
 rw?
 refine eF (pV ?_)
 rw?
 refine ⟨_,_,rfl,⟨by lia,by lia,by lia,by lia⟩,cX (fun m σ H3=>H3=H∧∃v5:Option V,σ=[some (.ref l),some (.int i),some (.int j),some (.int c),some (.int (gQ hs j-gQ hs i)),v5]∧∀k,i<k→k<i+1+m→((xS hs i k j).natAbs:Int)≤c*(gQ hs j-gQ hs i)) ?_ ?_ ?_⟩
 ·exact ⟨rfl,none,rfl,fun k h1 h2=>by try?⟩
 ·rintro m σ H3 hm' ⟨rfl,v5,rfl,hall⟩
  obtain ⟨xp,gp,ep,zp1,zp2⟩:=Ez hes hS (show i+1+m<hs.length by try?)
  rw?
  refine cA hl (jw gi rfl) ?_
  rw?
  refine cA hl (jw gp 0#d) ?_
  rw?
  refine cA hl (jw gj rfl) ?_
  rw?
  refine ⟨xi.1,xp.1,xj.1,_,_,_,_,_,_,em,en,rfl,ei,ep,ej,zi1,zp1,zj1,zi2,zp2,zj2,by simp?,?_⟩
  rw?
  rw [iK]
  refine cE (fun c1=>?_) (fun c1=>?_)
  ·have tH:=jM c1
   rw?
   refine k true ⟨fun z=>absurd z 0#i,fun z=>?_⟩
   have h2:((xS hs i (i+1+m) j).natAbs:Int)≤c*(gQ hs j-gQ hs i):=z (i+1+m) 0#d 0#d
   exact absurd tH (uh.mpr h2)
  ·have tH:=iH (gY.mpr c1)
   rw?
   refine ⟨rfl,_,rfl,fun k' h1 h2=>?_⟩
   by_cases e:k'=i+1+m
   ·subst e
    exact uh.mp tH
   ·exact hall k' h1 0#d
 ·rintro σ H3 ⟨rfl,v5,rfl,hall⟩
  rw?
  refine k false ⟨fun _ k' h1 h2=>hall k' h1 0#d,fun _=>rfl⟩
theorem jB:aF ["_law_run","_law_bound","_law_hangs","_law_steps_here","_law_upto","_law_ways","_law_i"] ["_law_run","_law_bound","_law_hangs"] (ah rP):=0#a
theorem Gq (F:cT K "_law_steps" "_law_steps" rP f fd) (T:Txt mg) (xy:Dn P w K mg base 2 "_law_far" ["_law_run","_law_i","_law_k","_law_bound"] Mz):bf P w K mg base c7 3 f fd ["_law_run","_law_bound","_law_hangs"] CM:=by
 refine F.ok jB 0#f 0#b
 ·obtain ⟨l,hs,c,b,aD,m,n,rfl,_⟩:=h
  rfl
 obtain ⟨l,hs,c,b,aD,em,en,rfl,hl,hes,hS,dX,h1,lI,zc,hm,hn,hb,k⟩:=h
 have s1':bh aD≤1:=by cases aD <;> decide
 refine bI ⟨_,(ao (aK 3 jB.nd (dg (dG aq))) (ao (dP gF rfl (vD rfl T.range (bC aq (aG bP (aG aV (gB K T.gc 0#l) aq) 0#w))) (cg (i:=4) jB.nd rfl 0#m) (ao (aK 5 jB.nd (dg dY)) (ao (dP gF rfl (zj rfl T.range (dG (aa 4))) (cg (i:=6) jB.nd rfl 0#m) (aI (b9 (Jd.Cb (nv (fN xy 0#A rfl (Jd.a4 0#l (aa 6) (aG aV (aG bP (aa 4) aq) 0#w) 0#r) (he:=bK) (hpl:=(cD bK (cD JI (cD bK cB))))))) (aI (dZ (fZ K (aa 5) (aG aV (bD (fK K) (aa 3) (aa 6) 0#h) aq)) (hs:=dM))) cF))) (aI (dZ (fZ K (aa 3) (fU (ae8 K rfl) rfl T.Wa N1 (dG (aa 5)) (he:=bK) (hpl:=cB))) (hs:=dM)))))) (aI (aU (aa 3))))),?_⟩
 rw?
 refine aE (mk:=.lst) 0#e fun R H1 s1 n1 e1=>?_
 rw?
 refine eF (pV ?_)
 rw?
 refine cP (.inl (aX.of (s1 _ _ hl))) ?_
 rw [bA]
 rw?
 refine ⟨_,_,rfl,⟨by lia,by lia,by lia,by lia⟩,cX (fun i σ H3=>P5 fun (t:Nat→Int) (v4 v5 v6:Option V)=>σ=[some (.ref l),some (.int c),some (.int (1-(bh aD:Int))),some (.ref R),v4,v5,v6]∧au H H3∧H3 R=some (.lst (gU (1+i) t))∧lH (fM (gh hs b) ((c:Rat)/(b:Rat)) aD) (1+i) t) ?_ ?_ ?_⟩
 ·exact ⟨fun _=>0,none,none,none,rfl,s1,e1,Q0⟩
 ·rintro i σ H3 hi ⟨t,v4,v5,v6,rfl,s3,e3,hf⟩
  refine eU fun M Bk RR hM _ _=>?_
  have hi':1+i<hs.length+bh aD:=by simp?
  rw [show (1:Int)+(i:Int)=((1+i:Nat):Int) by simp?]
  rw?
  refine aE (mk:=.lst) 0#e fun W H4 s4 n4 e4=>?_
  rw?
  refine eF (uO ?_)
  rw?
  refine ⟨_,rfl,by lia,by lia,cX (fun m σ H5=>Qq fun (us:List Int) (v6:Option V)=>σ=[some (.ref l),some (.int c),some (.int (1-(bh aD:Int))),some (.ref R),some (.int ((1+i:Nat):Int)),some (.ref W),v6]∧au H3 H5∧H5 W=some (.lst (us.map V.int))∧us.length≤m∧∀u,u∈us↔∃kk,kk<m∧fM (gh hs b) ((c:Rat)/(b:Rat)) aD kk (1+i)∧u=t kk+1) ?_ ?_ ?_⟩
  ·exact ⟨[],_,rfl,s4,e4,dz _,fun u=>⟨fun z=>absurd z 0#e,fun ⟨kk,z,_⟩=>absurd z 0#d⟩⟩
  ·rintro m σ H5 hm' ⟨us,v6,rfl,s5,e5,hul,IT⟩
   refine eU fun M2 B2 R2 hM2 _ _=>?_
   have hm2:m<1+i:=by simp?
   rw [show (0:Int)+(m:Int)=(m:Int) by simp?]
   rw?
   refine ⟨l,hs,m,1+i-bh aD,c,em,en,?_,(s3.trans s5) _ _ hl,hes.up (s3.trans s5),hS,by simp?,by simp?,lI,zc,hm,hn,fun r hr'=>?_⟩
   ·rw [show ((1+i:Nat):Int)-1+(1-(bh aD:Int))=((1+i-bh aD:Nat):Int) by simp?]
    rfl
   have Xi:r=false↔fM (gh hs b) ((c:Rat)/(b:Rat)) aD m (1+i):=by
    rw [hr',oM hm2 (by rw [xG];simp?)]
    exact Pb (xH hs b) hb dX 0#c 0#c
   rw?
   cases r with
   | true=>
     refine bU ?_
     rw?
     refine hM2 _ _ ⟨us,_,rfl,s5,e5,by simp?,fun u=>?_⟩
     rw [IT u]
     constructor
     ·rintro ⟨kk,z,z2⟩
      exact ⟨kk,by simp?,z2⟩
     ·rintro ⟨kk,z,z2,z3⟩
      refine ⟨kk,?_,z2,z3⟩
      by_cases e:kk=m
      ·subst e
       exact absurd (Xi.mpr z2) 0#i
      ·simp?
   | false=>
     have hl':=Xi.mp rfl
     refine cu ?_
     rw?
     refine ⟨.inl ⟨rfl,_,aX.of e5⟩,?_⟩
     rw?
     refine cA (s5 _ _ e3) (jv (j:=m) hm2 rfl) ?_
     rw?
     refine cz e5 (by rw [gJ];exact aN 0#c) ?_
     refine hM2 _ _ ⟨us++[t m+1],_,rfl,aY s5 n4,by rw [aA];simp,by simp;simp?,fun u=>?_⟩
     rw [dN,IT u]
     constructor
     ·rintro (⟨kk,z,z2⟩ | z)
      ·exact ⟨kk,by simp?,z2⟩
      ·exact ⟨m,by simp?,hl',by simpa using z⟩
     ·rintro ⟨kk,z,z2,z3⟩
      by_cases e:kk=m
      ·subst e
       exact .inr (by simpa using z3)
      ·exact .inl ⟨kk,by simp?,z2,z3⟩
  ·rintro σ H5 ⟨us,v6,rfl,s5,e5,hul,IT⟩
   have eN:(((1+i:Nat):Int)).toNat=1+i:=by simp?
   rw [eN] at IT hul
   have hin:t i+1∈us:=(IT _).mpr ⟨i,by simp?,by
    have:=xN (es:=gh hs b) (β:=(c:Rat)/(b:Rat)) (aD:=aD) (j:=1+i) 0#c (by rw [xG];exact hi')
    rw [show 1+i-1=i by simp?] at this
    exact this,rfl⟩
   rw?
   refine ⟨.inl ⟨rfl,_,aX.of (s5 _ _ e3)⟩,?_⟩
   rw?
   refine abk (aX.of e5) (List.length_pos_of_mem hin) fun u hu hle=>?_
   rw?
   refine cz (s5 _ _ e3) (by rw [lW];exact aN 0#c) ?_
   obtain ⟨kk,z1,z2,z3⟩:=(IT u).mp hu
   refine hM _ _ ⟨_,_,_,_,rfl,aY (s3.trans s5) n1,by rw [aA,K8];rfl,OM hf (EO _ _) (fun kk hk hL=>hle _ ((IT _).mpr ⟨kk,hk,hL,rfl⟩)) ⟨kk,z1,z2,z3⟩⟩
 ·rintro σ H3 ⟨t,v4,v5,v6,rfl,s3,e3,hf⟩
  have eN:1+((hs.length:Int)+1-(1-(bh aD:Int))-1).toNat=hs.length+bh aD:=by simp?
  rw [eN] at e3 hf
  rw?
  exact k R t H3 s3 e3 hf
theorem vX:aF ["_law_run","_law_way","_law_bound","_law_found"] ["_law_run","_law_way","_law_bound"] (ah rL):=0#a
theorem Gk (F:cT K "_law_count" "_law_count" rL f fd) (T:Txt mg) (ki:Dn P w K mg base 3 "_law_turns" ["_law_run","_law_bound","_law_sign"] HA) (qN:Dn P w K mg base 3 "_law_steps" ["_law_run","_law_bound","_law_hangs"] CM):bf P w K mg base c7 4 f fd ["_law_run","_law_way","_law_bound"] Cy:=by
 refine F.ok vX 0#f 0#b
 ·obtain ⟨l,hs,wy,c,b,m,n,rfl,_⟩:=h
  rfl
 obtain ⟨l,hs,wy,c,b,em,en,rfl,hl,hes,hS,dX,h1,lI,zc,hm,hn,hb,hc,k⟩:=h
 have fin:∀(aD:Bool) (R:av) (t:Nat→Int) (H1:Hp),au H H1→lH (fM (gh hs b) ((c:Rat)/(b:Rat)) aD) (hs.length+bh aD) t→RC (if aD=true then .ch else .sp) ((c:Rat)/(b:Rat)) (gh hs b) (if t (hs.length+bh aD-1)>1 then t (hs.length+bh aD-1) else 1):=fun aD R t H1 s1 hF=>by
  have e:(if t (hs.length+bh aD-1)>1 then t (hs.length+bh aD-1) else 1)=max 1 (t (hs.length+bh aD-1)):=by split <;> simp?
  rw [e]
  have:RT aD ((c:Rat)/(b:Rat)) (gh hs b) (max 1 (t (hs.length+bh aD-1))):=⟨t,by rw [xG];exact hF,by rw [xG]⟩
  cases aD <;> exact this
 refine bI ⟨_,(ao (b9 (bF d7 0#r mD (aH _)) (aI (aU (aG aV aq (Jd.c3 ki hr 0#l 0#w aq)))) cF) (ao (b9 (bF d7 0#r mD (aH _)) (ao (aK 3 vX.nd (Jd.c3 ki hr 0#l 0#w aq)) (aI (aU (aG aV (aG aV aq (aa 3)) (Jd.c3 ki hr 0#l 0#w (eV cW aq)))))) cF) (aI (aU (fU (V9 rfl) rfl T.RG JV (bC aq (bD (fK K) (Jd.c3 qN hr 0#l 0#w (Jd.oU OG rfl T.acF Ye (dG (tZ d7 0#r mD (aH _))))) (eV cW aq) 0#h)) (he:=i6) (hpl:=(cD qD cB))))))),?_⟩
 rw?
 cases wy with
 | ap=>
   refine fV (c:=true) 0#g ?_
   refine ⟨_,rfl,?_⟩
   refine cu ?_
   rw?
   refine ⟨l,hs,c,0,em,en,rfl,hl,hes,hS,lI,zc,hm,hn,fun F v hG=>?_⟩
   rw?
   exact k _ H (au.refl _) ⟨F,v,(Ra hb hc dX).1 hG,rfl⟩
 | jo=>
   refine fV (c:=false) 0#g ?_
   refine ⟨_,rfl,?_⟩
   refine bU ?_
   rw?
   refine fV (c:=true) 0#g ?_
   refine ⟨_,rfl,?_⟩
   refine cu ?_
   rw?
   refine ⟨l,hs,c,1,em,en,rfl,hl,hes,hS,lI,zc,hm,hn,fun F v hG=>?_⟩
   rw?
   refine ⟨l,hs,c,-1,em,en,rfl,hl,hes,hS,lI,zc,hm,hn,fun F' v' hG'=>?_⟩
   rw?
   exact k _ H (au.refl _) ⟨F,F',v,v',(Ra hb hc dX).2.1 hG,(Ra hb hc dX).2.2 hG',rfl⟩
 | sp=>
   refine fV (c:=false) 0#g ?_
   refine ⟨_,rfl,?_⟩
   refine bU ?_
   rw?
   refine fV (c:=false) 0#g ?_
   refine ⟨_,rfl,?_⟩
   refine bU ?_
   rw?
   refine fV (c:=false) 0#g ?_
   rw?
   refine .inr ⟨_,rfl,?_⟩
   rw?
   refine ⟨l,hs,c,b,false,em,en,rfl,hl,hes,hS,dX,h1,lI,zc,hm,hn,hb,fun R t H1 s1 eR hF=>?_⟩
   rw?
   refine cA eR (qS 0#c) ?_
   rw?
   exact k _ H1 s1 (fin false R t H1 s1 hF)
 | ch=>
   refine fV (c:=false) 0#g ?_
   refine ⟨_,rfl,?_⟩
   refine bU ?_
   rw?
   refine fV (c:=false) 0#g ?_
   refine ⟨_,rfl,?_⟩
   refine bU ?_
   rw?
   refine fV (c:=true) 0#g ?_
   rw?
   refine .inr ⟨_,rfl,?_⟩
   rw?
   refine ⟨l,hs,c,b,true,em,en,rfl,hl,hes,hS,dX,h1,lI,zc,hm,hn,hb,fun R t H1 s1 eR hF=>?_⟩
   rw?
   refine cA eR (qS 0#c) ?_
   rw?
   exact k _ H1 s1 (fin true R t H1 s1 hF)
theorem lP:aF ["_law_row_here","_law_way","_law_bound","_law_total_here","_law_run"] ["_law_row_here","_law_way","_law_bound"] (ah rR):=0#a
theorem Gu (F:cT K "_law_total" "_law_total" rR f fd) (T:Txt mg) (uv:Dn P w K mg base 1 "_law_runs" ["_law_row_here"] Hs) (qL:Dn P w K mg base 4 "_law_count" ["_law_run","_law_way","_law_bound"] Cy):bf P w K mg base c7 5 f fd ["_law_row_here","_law_way","_law_bound"] CN:=by
 refine F.ok lP 0#f 0#b
 ·obtain ⟨l,hs,wy,c,b,m,n,rfl,_⟩:=h
  rfl
 obtain ⟨l,hs,wy,c,b,em,en,rfl,hl,hes,dX,lI,zc,hm,hn,hb,hc,k⟩:=h
 refine bI ⟨_,(ao (aK 3 lP.nd aq) (ao (dP gF rfl (di K (Jd.c1 uv hr 0#l)) (cg (i:=4) lP.nd rfl 0#m) (aI (aK 3 lP.nd (aG aV (aa 3) (Jd.c3 qL hr (aa 4) 0#r 0#w))))) (aI (aU (aa 3))))),?_⟩
 rw?
 refine eF (iw ?_)
 rw?
 refine ⟨l,hs,em,en,rfl,hl,hes,lI,fun D ls H1 s1 nD eD hls hmap=>?_⟩
 have own:=fun r hr=>lX (s:=vL) (es:=hs) hs.length r hr
 refine ⟨D,rfl,⟨_,aX.of eD⟩,dW (xs:=ls.map fun x=>V.ref x.1) (fun i σ H3=>Qq fun (d:Int) (v5:Option V)=>σ=[some (.ref l),some (.str (Ql wy)),some (.int c),some (.int d),v5]∧au H1 H3∧ie (RC wy ((c:Rat)/(b:Rat))) (((ls.take i).map (·.2)).map (gh · b)) d) ?_ ?_ ?_ ?_⟩
 ·exact ⟨0,none,rfl,au.refl _,.nil⟩
 ·rintro i σ H3 _ ⟨d,v5,rfl,s3,_⟩
  exact aX.of (s3 _ _ eD)
 ·rintro i x σ H3 hx ⟨d,v5,rfl,s3,hd⟩
  refine eU fun M Bk RR hM _ _=>?_
  rw [dm] at hx
  obtain ⟨y,hy,rfl⟩:=HH.mp hx
  have hmem:=mY hy
  obtain ⟨o1,o2,o3⟩:=own y.2 (hmap▸gP.mpr ⟨y,hmem,rfl⟩)
  rw [jH] at o3
  rw?
  refine ⟨y.1,y.2,wy,c,b,em,en,rfl,s3 _ _ (hls y hmem).2,fun z hz=>(hes.up (s1.trans s3)) z (o3.subset hz),o2,dX.sublist o3,HP.mpr o1,eE o3.length_le lI,zc,hm,hn,hb,hc,fun d' H4 s4 hd'=>?_⟩
  rw?
  refine hM _ _ ⟨d+d',_,rfl,s3.trans s4,?_⟩
  rw [C3,hy]
  simp only [Option.toList_some,i9,C5,Uy]
  exact hd.snoc hd'
 ·rintro σ H3 ⟨d,v5,rfl,s3,hd⟩
  rw?
  rw [gJ,jH,hmap,Sh,← xG hs b] at hd
  exact k d H3 (s1.trans s3) hd
end
theorem Tq (lV:0≤β):∀{rs:List (List En)} {zs:List (List (List En)×List av×List av)},(∀r∈rs,rising r∧1≤r.length)→xu H β N rs zs→ie (RC .ap β) rs ((oZ zs).length:Int)
 | [],[],_,_=>.nil
 | r::rs,z::zs,hr,h=>by
   obtain ⟨a,b⟩:=hr r (CV ..)
   have ih:=Tq lV (rs:=rs) (zs:=zs) (fun x hx=>hr x (D3 _ hx)) h.2
   obtain ⟨F,v,g,e⟩:=h.1.cut.pin a lV b
   have:=ie.cons (R:=RC .ap β) (r:=r) ⟨F,v,g,e⟩ ih
   rw [show ((oZ (z::zs)).length:Int)=(z.1.length:Int)+((oZ zs).length:Int) by unfold oZ;rw [List.flatMap_cons,fq,h.1.lp];simp?]
   exact this
 | [],_::_,_,h=>h.elim
 | _::_,[],_,h=>h.elim
theorem Tt (lV:0≤β):∀{rs:List (List En)} {zs:List (List Pc×List Vh)},(∀r∈rs,rising r∧1≤r.length)→jt (OA H β N) rs zs→ie (RC .jo β) rs ((om zs).length:Int)
 | [],[],_,_=>.nil
 | r::rs,z::zs,hr,h=>by
   obtain ⟨a,b⟩:=hr r (CV ..)
   have ih:=Tt lV (rs:=rs) (zs:=zs) (fun x hx=>hr x (D3 _ hx)) h.2
   obtain ⟨_,_,ks,L,fl,ro,g,s,Rf,_,_,hps⟩:=h.1
   have hl:z.1.length=ks.length+1:=by simpa using congrArg tT hps
   obtain ⟨l1,_⟩:=Rf.len
   obtain ⟨_,_,g1,g2⟩:=Rf.most a lV
   have ca:=Vq (z.2.map (·.2))
   have:=ie.cons (R:=RC .jo β) (r:=r) ⟨_,_,_,_,g1,g2,rfl⟩ ih
   rw [show ((om (z::zs)).length:Int)=1+(cnt true (z.2.map (·.2)):Int)+(cnt false (z.2.map (·.2)):Int)+((om zs).length:Int) by
    rw [show (om (z::zs)).length=z.1.length+(om zs).length by simp [om]]
    simp?]
   exact this
 | [],_::_,_,h=>h.elim
 | _::_,[],_,h=>h.elim
theorem Tu:∀{rs:List (List En)} {qs:List (List (Rat×Rat×Rat×Rat))},(∀r∈rs,rising r∧1≤r.length)→jt (fun r l=>Told r β aD l) rs qs→ie (RT aD β) rs (qs.flatten.length:Int)
 | [],[],_,_=>.nil
 | r::rs,z::zs,hr,h=>by
   obtain ⟨a,b⟩:=hr r (CV ..)
   have ih:=Tu (rs:=rs) (qs:=zs) (fun x hx=>hr x (D3 _ hx)) h.2
   obtain ⟨t,ps,hf,_⟩:=id h.1
   have:=ie.cons (R:=RT aD β) (r:=r) ⟨t,hf,PR b h.1 hf⟩ ih
   rw [HS,fq,show ((z.length+zs.flatten.length:Nat):Int)=(z.length:Int)+(zs.flatten.length:Int) by simp?]
   exact this
 | [],_::_,_,h=>h.elim
 | _::_,[],_,h=>h.elim
theorem JP (hl:H l=some (.lst (vals es))) (hR:Row H es 150) (U4:rising es) (lI:es.length≤40) (h33:(parts dU es es.length).length≤33) (h30:∀r∈parts dU es es.length,r.length≤30) (fb:dF H pb β 150) (lV:0≤β) (k:∀(y X Z:av) (xs:List V) (H':Hp),au H H'→H' y=some (.tup [.ref X,.ref Z])→H' X=some (.lst xs)→ie (RC wy β) (parts dU es es.length) (xs.length:Int)→Q (.ref y) H'):wH C [.ref l,.str (Ql wy),.ref pb] H Q E0:=by
 have hr1:∀r∈parts dU es es.length,rising r∧1≤r.length:=fun r hr=>by
  obtain ⟨o1,o2,o3⟩:=lX es.length r hr
  rw [jH] at o3
  exact ⟨U4.sublist o3,HP.mpr o1⟩
 have tt:∀(aD:Bool),(∀(y X Z:av) (xs:List V) (H':Hp),au H H'→H' y=some (.tup [.ref X,.ref Z])→H' X=some (.lst xs)→ie (RT aD β) (parts dU es es.length) (xs.length:Int)→Q (.ref y) H')→su aD [.ref l,.ref pb] H Q E0:=fun aD k=>by
  refine ⟨l,pb,rfl,l,pb,es,150,150,β,aD,rfl,hl,hR,U4,lI,h33,h30,fb.qt,by decide,by decide,by decide,fun y X Z ps H' s ey nX eX hP afO hT _ _ _ _ _ _ _=>k y X Z _ H' s ey eX ?_⟩
  obtain ⟨qss,e1,e2⟩:=hT
  rw [jH] at e1
  have:=Tu hr1 e1
  rw [← e2,gJ] at this
  rw [show (mH ps).length=ps.length by unfold mH;rw [gJ]]
  exact this
 refine ⟨l,pb,wy,rfl,fun e=>?_,fun e=>?_,fun e=>?_,fun e=>?_⟩
 ·subst e
  refine ⟨l,pb,es,β,150,150,rfl,hl,hR,U4,lI,fb.qt,lV,by decide,by decide,by decide,fun y X Z zs H' s ey nX nZ Pg eX eZ hA=>k y X Z _ H' s ey eX ?_⟩
  rw [gJ]
  exact Tq lV hr1 hA
 ·subst e
  exact ⟨l,pb,es,β,150,150,rfl,hl,hR,U4,lI,fb,lV,by decide,by decide,by decide,by decide,fun y X Z zs H' s ey nX nZ Pg eX eZ hA=>k y X Z _ H' s ey eX (Tt lV hr1 hA)⟩
 ·subst e
  exact tt false k
 ·subst e
  exact tt true k
theorem Bq:∀i,i≤es.length→∀j,fz es i≤j→j<i→∃e,es[j]?=some e∧dU e=true
 | 0,_,j,_,h=>absurd h (D7 _)
 | i+1,hi,j,h1,h2=>by
   obtain ⟨e,he⟩:∃e,es[i]?=some e:=⟨_,mX 0#c⟩
   unfold fz at h1
   rw [he] at h1
   cases hs:dU e with
   | false=>
     rw [if_pos (by show (!dU e)=true;rw [hs];rfl)] at h1
     simp?
   | true=>
     rw [if_neg (by show ¬(!dU e)=true;rw [hs];decide)] at h1
     by_cases e':j=i
     ·subst e'
      exact ⟨e,he,hs⟩
     ·exact Bq i 0#c j h1 0#c
theorem Fz (es:List En):iR (es.drop (fz es es.length)):=fun x hx=>by
 obtain ⟨j,hj⟩:=List.mem_iff_getElem?.mp hx
 rw [ly] at hj
 have:=(lR.mp hj).1
 obtain ⟨e,he,hs⟩:=Bq es.length (dz _) _ (EO _ j) this
 rw [hj] at he
 cases he
 exact hs
theorem Nc (es:List En):∀i,i≤es.length→cy dU es (fz es i)=false
 | 0,_=>rfl
 | i+1,hi=>by
   obtain ⟨e,he⟩:∃e,es[i]?=some e:=⟨_,mX 0#c⟩
   unfold fz
   rw [he]
   cases hs:dU e with
   | false=>
     rw [if_pos (by show (!dU e)=true;rw [hs];rfl),iW he]
     exact hs
   | true=>
     rw [if_neg (by show ¬(!dU e)=true;rw [hs];decide)]
     exact Nc es i 0#c
theorem Nd (es:List En):cy dU (es.take (fz es es.length)) (es.take (fz es es.length)).length=false:=by
 have hle:=xF es es.length
 rw [wZ,ES hle]
 have:=(pT (s:=dU) (as:=es.take (fz es es.length)) (bs:=es.drop (fz es es.length)) (fz es es.length) (by rw [wZ,ES hle];exact dz _)).2
 rw [JW] at this
 rw [← this]
 exact Nc es es.length (dz _)
def yz (es:List En) (u:Int):List En:=es.filter (upto u)
def P6 (es:List En) (u:Int):List En:=(yz es u).take (fz (yz es u) (yz es u).length)
def Ds (es:List En) (u:Int):List En:=(yz es u).drop (fz (yz es u) (yz es u).length)
inductive Tj (vs:List V) (H:Hp) (Q:VK) (E_:XK):Prop where
 | mk (l pb:av) (es:List En) (β:Rat) (wy:Wy) (u:Int):vs=[.ref l,.str (Ql wy),.ref pb,.int u]→H l=some (.lst (vals es))→Row H es 150→rising es→es.length≤40→(parts dU (P6 es u) (P6 es u).length).length≤33→(∀r∈parts dU (P6 es u) (P6 es u).length,r.length≤30)→(Ds es u).length≤30→dF H pb β 150→0≤β→Sz 150 (u+1)→(∀(y:av) (v:Int) (wv:V) (H':Hp),au H H'→H' y=some (.tup [.int v,wv])→ZK wy β (P6 es u) (Ds es u) v→Q (.ref y) H')→Tj vs H Q E_
section
theorem Hf:aF ["row","way","bound","moment","parts","ahead","found"] ["row","way","bound","moment"] (ah SS):=0#a
theorem aaY (F:cT K "few" "few" SS f fd) (T:Txt mg) (jr:Dn P w K mg base 1 "settled_entries" ["row","moment"] yH) (kF:Dn P w K mg base 1 "parted_at_gap" ["settled"] CF) (sO:Dn P w K mg base 10 "told_by" ["row","way","bound"] (wH aC)) (AW:Dn P w K mg base 7 "spared" ["run","way","bound","moment"] wD):bf P w K mg base c7 11 f fd ["row","way","bound","moment"] Tj:=by
 refine F.ok Hf 0#f 0#b
 ·obtain ⟨l,pb,es,β,wy,u,rfl,_⟩:=h
  rfl
 obtain ⟨l,pb,es,β,wy,u,rfl,hl,hR,U4,lI,h33,h30,aeJ,fb,lV,zu,k⟩:=h
 have sub:(yz es u).Sublist es:=JZ
 have hlen:(yz es u).length≤40:=eE sub.length_le lI
 have abw:(P6 es u).Sublist es:=(CW _ _).trans sub
 have subB:(Ds es u).Sublist es:=(CY _ _).trans sub
 have hSB:iR (Ds es u):=Fz (yz es u)
 refine bI ⟨_,(ao (aK 4 Hf.nd (Jd.c1 kF hr (bY jr hr 0#l (aa 3)))) (ao (aK 5 Hf.nd (gB K T.gc (aJ K (Jd.c3 sO hr (aJ K (aa 4)) 0#r 0#w)))) (ao (b9 (bF d7 (gB K T.gc (aJ K (aa 4))) aq (aH _)) (aI (aU (bG (bC (aa 5) dH)))) cF) (ao (b9 (Jd.xA (Jd.Jw (bF d7 0#r mD (aH _)) (Jd.Cc (bF d7 0#r mD (aH _))))) (aI (aU (bG (bC (aG aV (aa 5) (gB K T.gc (aJ K (Jd.c3 sO hr (aJ K (aa 4)) 0#r 0#w)))) dH)))) cF) (ao (aK 6 Hf.nd (fN AW 0#A rfl (Jd.a4 (aJ K (aa 4)) 0#r 0#w (aa 3)) (he:=qD) (hpl:=(cD bK (cD bK (cD bK cB)))))) (aI (aU (bG (bC (aG aV (aa 5) (aJ K (aa 6))) (aJ K (aa 6))))))))))),?_⟩
 rw?
 refine ⟨l,es,u,150,rfl,hl,hR,lI,fun D H1 s1 nD eD=>?_⟩
 rw?
 refine ⟨D,yz es u,150,rfl,eD,fun x hx=>(hR.up s1) x (sub.subset hx),hlen,fun y A' B' H2 s2 ey eA eB=>?_⟩
 have gD:=s1.trans s2
 rw?
 refine JP (es:=P6 es u) (β:=β) eA (fun x hx=>(hR.up gD) x (abw.subset hx)) (U4.sublist abw) (eE abw.length_le lI) h33 h30 (fb.up gD) lV fun y3 X3 Z3 xs3 H3 s3 ey3 eX3 hd=>?_
 have eyP:=s3 _ _ ey
 rw?
 refine cP (.inl (aX.of eX3)) ?_
 rw?
 refine cP (.inl (aX.of (show H3 B'=some (.lst (vals (Ds es u))) from s3 _ _ eB))) ?_
 rw [aO]
 rw?
 have mK:=gD.trans s3
 by_cases h0:(Ds es u).length=0
 ·rw [jJ (show ((Ds es u).length:Int)=0 by simp?)]
  refine cu ?_
  rw?
  refine aE (mk:=.tup) 0#e fun y4 H4 s4 n4 e4=>?_
  exact k y4 _ .bM H4 (mK.trans s4) e4 ⟨_,hd,.inl ⟨NV.mp h0,rfl⟩⟩
 ·rw [qu (show ¬((Ds es u).length:Int)=0 by simp?)]
  refine bU ?_
  have hne:Ds es u≠[]:=fun z=>h0 (by rw [z];rfl)
  have hp1:parts dU (Ds es u) (Ds es u).length=[Ds es u]:=EC hSB hne
  have eB3:H3 B'=some (.lst (vals (Ds es u))):=s3 _ _ eB
  have hRB:Row H3 (Ds es u) 150:=fun x hx=>(hR.up mK) x (subB.subset hx)
  have again:(wy=.ap∨wy=.jo)→∀{Q':VK},(∀(y X Z:av) (xs:List V) (H':Hp),au H3 H'→H' y=some (.tup [.ref X,.ref Z])→H' X=some (.lst xs)→RC wy β (Ds es u) (xs.length:Int)→Q' (.ref y) H')→wH aC [.ref B',.str (Ql wy),.ref pb] H3 Q' E0:=fun _ {Q'} kk=>JP (es:=Ds es u) (β:=β) eB3 hRB (U4.sublist subB) (eE subB.length_le lI) (by rw [hp1];exact (show 1≤33 by decide)) (fun r hr=>by rw [hp1] at hr;rw [EM.mp hr];exact aeJ) (fb.up mK) lV fun y X Z xs H' s e1 e2 hs=>kk y X Z xs H' s e1 e2 (by
   rw [hp1] at hs
   generalize (xs.length:Int)=d at hs
   cases hs with
   | cons a b=>cases b;rw [Zx];exact a)
  have fin:∀(aD:Bool),wy=(if aD=true then .ch else .sp)→∀{Q':VK},(∀(y:av) (x:Int) (wv:V) (H':Hp),au H3 H'→H' y=some (.tup [.int x,wv])→BC wy β (Ds es u) x→Q' (.ref y) H')→wD [.ref B',.str (Ql wy),.ref pb,.int u] H3 Q' E0:=fun aD hw {Q'} kk=>by
   subst hw
   refine ⟨B',pb,Ds es u,150,150,β,aD,u,rfl,eB3,hRB,hSB,U4.sublist subB,by simp?,by simp?,(fb.up mK).qt,by decide,by decide,by decide,zu,fun y v wv t H' s e1 hF hL=>kk y v wv H' s e1 ?_⟩
   cases aD <;> exact ⟨t,hF,hL⟩
  rw?
  cases wy with
  | ap=>
    refine fV (c:=true) 0#g ?_
    rw?
    refine cu ?_
    rw?
    refine cu ?_
    rw?
    refine again (.inl rfl) fun y4 X4 Z4 xs4 H4 s4 ey4 eX4 hd4=>?_
    rw?
    refine cP (.inl (aX.of eX4)) ?_
    rw?
    refine aE (mk:=.tup) 0#e fun y5 H5 s5 n5 e5=>?_
    exact k y5 _ .bM H5 (mK.trans (s4.trans s5)) e5 ⟨_,hd,.inr ⟨hne,_,hd4,rfl⟩⟩
  | jo=>
    refine fV (c:=false) 0#g ?_
    rw?
    refine bU ?_
    rw?
    refine fV (c:=true) 0#g ?_
    rw?
    refine cu ?_
    rw?
    refine again (.inr rfl) fun y4 X4 Z4 xs4 H4 s4 ey4 eX4 hd4=>?_
    rw?
    refine cP (.inl (aX.of eX4)) ?_
    rw?
    refine aE (mk:=.tup) 0#e fun y5 H5 s5 n5 e5=>?_
    exact k y5 _ .bM H5 (mK.trans (s4.trans s5)) e5 ⟨_,hd,.inr ⟨hne,_,hd4,rfl⟩⟩
  | sp=>
    refine fV (c:=false) 0#g ?_
    rw?
    refine bU ?_
    rw?
    refine fV (c:=false) 0#g ?_
    rw?
    refine bU ?_
    rw?
    refine fin false rfl fun y4 x4 wv4 H4 s4 ey4 hB=>?_
    rw?
    refine aE (mk:=.tup) 0#e fun y5 H5 s5 n5 e5=>?_
    exact k y5 _ _ H5 (mK.trans (s4.trans s5)) e5 ⟨_,hd,.inr ⟨hne,_,hB,rfl⟩⟩
  | ch=>
    refine fV (c:=false) 0#g ?_
    rw?
    refine bU ?_
    rw?
    refine fV (c:=false) 0#g ?_
    rw?
    refine bU ?_
    rw?
    refine fin true rfl fun y4 x4 wv4 H4 s4 ey4 hB=>?_
    rw?
    refine aE (mk:=.tup) 0#e fun y5 H5 s5 n5 e5=>?_
    exact k y5 _ _ H5 (mK.trans (s4.trans s5)) e5 ⟨_,hd,.inr ⟨hne,_,hB,rfl⟩⟩
end
inductive yG (vs:List V) (H:Hp) (Q:VK) (E_:XK):Prop where
 | mk (l r:av) (hs:List Nn) (xs:List Int) (d0 d1:Int):vs=[.ref l,.ref r]→H l=some (.lst (bJ hs))→ic H hs 45 150→hs.length≤40→H r=some (.lst (xs.map V.int))→xs[0]?=some d0→0≤d0→d0<40→xs[1]?=some d1→0≤d1→d1<4→(∀(z:Int) (H':Hp),au H H'→Sz 46 z→Q (.int z) H')→yG vs H Q E_
theorem Xc (xs:List Int) (n:Nat):jS (xs.map V.int) (some (n:Int)) none=(xs.drop n).map V.int:=by rw [Vt,Oq]
section
theorem t9:aF ["_law_row_here","_law_some","_law_moment_here"] ["_law_row_here","_law_some"] (ah qb):=0#a
theorem DO (F:cT K "_law_moment" "_law_moment" qb f fd) (T:Txt mg):bf P w K mg base c7 1 f fd ["_law_row_here","_law_some"] yG:=by
 refine F.ok t9 0#f 0#b
 ·obtain ⟨l,r,hs,xs,d0,d1,rfl,_⟩:=h
  rfl
 obtain ⟨l,r,hs,xs,d0,d1,rfl,hl,hes,lI,er,g0,a0,b0,g1,a1,b1,k⟩:=h
 refine bI ⟨_,(ao (b9 (bF d7 (gB K T.gc 0#l) aq (aH _)) (aI (aU (aG bP (Jd.iL K 0#r) aq))) cF) (ao (aK 2 t9.nd (aJ K (bD (fK K) 0#l (aG gI (Jd.iL K 0#r) (gB K T.gc 0#l)) 0#h))) (aI (aU (aG aV 0#w (bD (fK K) (dg (Jd.a4 aq aq (eV cW aq) (aG pS aq aq))) (Jd.iL K 0#r) 0#h)))))),?_⟩
 rw?
 refine cP (.inl (aX.of hl)) ?_
 rw [bA]
 rw?
 refine cE 0#B 0#B
 ·rw?
  refine cA er (aZ g0 rfl) ?_
  rw?
  exact k _ H (au.refl _) (show (d0-5).natAbs<2 ^ 46 by simp?)
 ·have c':=iH (gY.mpr c)
  rw?
  refine cA er (aZ g0 rfl) ?_
  rw?
  refine cP (.inl (aX.of hl)) ?_
  rw [bA]
  refine fF (show (0:Int)<_ by simp?) ?_
  obtain ⟨e,he,_,ea⟩:=Bf (es:=hs) (i:=d0 % (hs.length:Int)) (yQ _ 0#c) (wY _ 0#c)
  obtain ⟨ee,z1,_⟩:=hes e he
  refine cA hl ea ?_
  rw?
  refine aE (mk:=.lst) 0#e fun l6 H6 s6 n6 e6=>?_
  rw?
  refine cA (s6 _ _ er) (aZ g1 rfl) ?_
  obtain ⟨v,ev,zv⟩:=zD (zs:=[0,0,-1,10 ^ (9:Int).toNat]) (fun z=>z.natAbs≤10 ^ 9) 0#g a1 b1
  refine cA e6 ev ?_
  rw?
  exact k _ H6 s6 (z1.add (Sz.of_lt (m:=45) (k:=10 ^ 9+1) 0#c 0#i))
end
inductive Hj (vs:List V) (H:Hp) (Q:VK) (E_:XK):Prop where
 | mk (l r:av) (hs:List Nn) (xs:List Int) (d0 d1 d2 c:Int):vs=[.ref l,.ref r,.int c]→H l=some (.lst (bJ hs))→ic H hs 45 150→Km hs→hs.length≤40→H r=some (.lst (xs.map V.int))→xs[0]?=some d0→0≤d0→d0<40→xs[1]?=some d1→0≤d1→d1<40→xs[2]?=some d2→0≤d2→d2<4→Sz 150 c→(∀H',au H H'→Q .bM H')→(∀(y o:av) (m v b r:Int) (H':Hp),au H H'→H' y=some (.tup [.ref o,.int b,.int r])→H' o=some (.tup [.int m,.int v])→Sz 45 m→Sz 150 v→1≤b→Sz 46 b→Sz 152 r→Q (.ref y) H')→Hj vs H Q E_
def Bhd (hs os:List Nn) (b:Int):Prop:=∃ys:List (Int×Option Int),os.map (·.2)=hs.map (fun x=>(x.2.1,x.2.2.map (·*b)))++ys
inductive Cw (K:bZ) (vs:List V) (H:Hp) (Q:VK) (E_:XK):Prop where
 | mk (a:av) (ns:List Int) (l:av) (hs:List Nn) (u c:Int):vs=[.ref a,.int 2,.ref l,.int u,.int c]→aX K H a (ns.map V.int)→H l=some (.lst (bJ hs))→ic H hs 45 150→dO hs→hs.length≤20→(∀x∈hs,x.2.1≤u)→Sz 46 u→Sz 150 c→(∀(y R:av) (os:List Nn) (b:Int) (H':Hp),au H H'→H' y=some (.tup [.ref R,.int b])→H' R=some (.lst (bJ os))→ic H' os 48 210→dO os→os.length≤30→1≤b→Sz 46 b→Bhd hs os b→Q (.ref y) H')→Cw K vs H Q E_
def OF:List Int:=[6,40,40,4,3,3,9,25,3,9,25,3,9,25,3,9,25,3,9,25]
theorem ZZ:∀k,k<5→OF[3*k+5]?=some 3∧OF[3*k+6]?=some 9∧OF[3*k+7]?=some 25:=by decide
section
theorem lN:aF ["_law_held","_law_some","_law_bound","_law_one","_law_two","_law_put"] ["_law_held","_law_some","_law_bound"] (ah rK):=0#a
theorem Gj (F:cT K "_law_aimed" "_law_aimed" rK f fd) (T:Txt mg):bf P w K mg base c7 1 f fd ["_law_held","_law_some","_law_bound"] Hj:=by
 refine F.ok lN 0#f 0#b
 ·obtain ⟨l,r,hs,xs,d0,d1,d2,c,rfl,_⟩:=h
  rfl
 obtain ⟨l,r,hs,xs,d0,d1,d2,c,rfl,hl,hes,hS,lI,er,g0,a0,b0,g1,a1,b1,g2,a2,b2,zc,kN,k⟩:=h
 refine bI ⟨_,(ao (b9 (bF lD (gB K T.gc 0#l) aq (aH _)) (aI (aU dH)) cF) (ao (aK 3 lN.nd (bD (fK K) 0#l (aG gI (Jd.iL K 0#r) (gB K T.gc 0#l)) 0#h)) (ao (aK 4 lN.nd (bD (fK K) 0#l (aG gI (Jd.iL K 0#r) (gB K T.gc 0#l)) 0#h)) (ao (b9 (bF Sf (aJ K (aa 3)) (aJ K (aa 4)) (aH _)) (aI (aU dH)) cF) (ao (aK 5 lN.nd (bD (fK K) (dg (Jd.a4 (eV cW 0#w) 0#w aq (aG d8 0#w aq))) (Jd.iL K 0#r) 0#h)) (aI (aU (bG (Jd.a3 (aa 3) (aG bP (aJ K (aa 4)) (aJ K (aa 3))) (aG bP (aG aV (aJ K (aa 4)) (aa 5)) (aJ K (aa 3)))))))))))),?_⟩
 rw?
 refine cP (.inl (aX.of hl)) ?_
 rw [bA]
 rw?
 refine cE (fun c1=>?_) (fun c1=>?_)
 ·rw?
  exact kN H (au.refl _)
 have tH:=iH (gY.mpr c1)
 have at_:∀d:Int,0≤d→∃(e:Nn) (v:Int),pM (bJ hs) (d % (hs.length:Int))=some (.ref e.1)∧H e.1=some (.tup [.int e.2.1,.int v])∧Sz 45 e.2.1∧Sz 150 v:=fun d _=>by
  obtain ⟨e,he,_,ea⟩:=Bf (es:=hs) (i:=d % (hs.length:Int)) (yQ _ 0#c) (wY _ 0#c)
  obtain ⟨ee,z1,z2⟩:=hes e he
  have hs':=hS e he
  unfold vL at hs'
  cases hv:e.2.2 with
  | none=>rw [hv] at hs';cases hs'
  | some v=>
    rw [hv] at ee
    exact ⟨e,v,ea,ee,z1,z2 v hv⟩
 obtain ⟨e0,v0,t0,q0,y0,x0⟩:=at_ d0 a0
 obtain ⟨e1,v1,t1,q1,y1,x1⟩:=at_ d1 a1
 rw?
 refine cA er (aZ g0 rfl) ?_
 rw?
 refine cP (.inl (aX.of hl)) ?_
 rw [bA]
 refine fF (show (0:Int)<_ by simp?) ?_
 refine cA hl t0 ?_
 rw?
 refine cA er (aZ g1 rfl) ?_
 rw?
 refine cP (.inl (aX.of hl)) ?_
 rw [bA]
 refine fF (show (0:Int)<_ by simp?) ?_
 refine cA hl t1 ?_
 rw?
 refine cE (fun c2=>?_) (fun c2=>?_)
 ·rw?
  exact kN H (au.refl _)
 have Vn:=iH (gY.mpr c2)
 rw?
 refine fF (show yT _ _ from ⟨by decide,by decide +kernel⟩) ?_
 rw?
 refine aE (mk:=.lst) 0#e fun l6 H6 s6 n6 e6=>?_
 rw?
 refine cA (s6 _ _ er) (aZ g2 rfl) ?_
 obtain ⟨v,ev,zv⟩:=zD (zs:=[-c,c,0,c.fdiv 2]) (fun z=>z.natAbs≤c.natAbs) (by
  intro z hz
  rw [yN _ 0#i] at hz
  simp only [qv,List.not_mem_nil,or_false] at hz
  rcases hz with rfl | rfl | rfl | rfl <;> simp?) a2 b2
 refine cA e6 ev ?_
 have q0':=s6 _ _ q0
 have q1':=s6 _ _ q1
 rw?
 refine aE (mk:=.tup) 0#e fun y7 H7 s7 n7 e7=>?_
 exact k y7 e0.1 e0.2.1 v0 _ _ H7 (s6.trans s7) e7 (s7 _ _ q0') y0 x0 0#c (y1.sub y0) ((x1.add (zc.of_le zv)).sub (x0.mono 0#i))
theorem bW:aF ["_law_script","_law_place","_law_row_here","_law_moment_here","_law_bound","_law_some","_law_held","_law_aim","_law_by","_law_when","_law_other","_law_high","_law_k"] ["_law_script","_law_place","_law_row_here","_law_moment_here","_law_bound"] (ah pY):=0#a
theorem DM (F:cT K "_law_behind" "_law_behind" pY f fd) (T:Txt mg) (ia:Dn P w K mg base 3 "_law_row" ["_law_script","_law_place","_law_sizes"] (JH K)) (qK:Dn P w K mg base 1 "_law_aimed" ["_law_held","_law_some","_law_bound"] Hj) (je:Dn P w K mg base 1 "_law_times" ["_law_row_here","_law_by"] AQ):bf P w K mg base c7 4 f fd ["_law_script","_law_place","_law_row_here","_law_moment_here","_law_bound"] (Cw K):=by
 refine F.ok bW 0#f 0#b
 ·obtain ⟨a,ns,l,hs,u,c,rfl,_⟩:=h
  rfl
 obtain ⟨a,ns,l,hs,u,c,rfl,hS,hl,hes,dX,h20,hle,zu,zc,k⟩:=h
 refine bI (Jd.cut 9 (fun σ H'=>ZT fun (lw R:av) (xs:List Int) (os:List Nn) (Hx:Hp) (b wh hi:Int) (v6 v7 HD:Option V)=>σ=[some (.ref a),some (.int 2),some (.ref l),some (.int u),some (.int c),some (.ref lw),v6,v7,some (.int b),some (.int wh),some (.ref R),some (.int hi),HD] ∧
  au H Hx∧au Hx H'∧Hx R=none∧Hx lw=some (.lst (xs.map V.int))∧(∃x,xs[0]?=some x∧0≤x∧x<6)∧(∀k,k<5→∃x y z,xs[3*k+5]?=some x∧0≤x∧x<3∧xs[3*k+6]?=some y∧xs[3*k+7]?=some z∧0≤z∧z<25)∧H' R=some (.lst (bJ os))∧ic H' os 48 210∧dO os∧os.length≤21∧(∀x∈os,x.2.1≤wh)∧u≤wh∧wh≤u+3∧Sz 202 hi∧1≤b∧Sz 46 b∧Bhd hs os b) ?_ fun uu hu hR=>?_)
 ·refine ⟨_,(ao (dP gF rfl (zj rfl T.range (dG (Jd.iL K (aa 5)))) (cg (i:=12) bW.nd rfl 0#m) (ao (aK 9 bW.nd (aG aV (aG aV (aa 9) aq) (bD (fK K) (aa 5) (aG aV (aG aP aq (aa 12)) aq) 0#h))) (aI (b9 (bF d7 (bD (fK K) (aa 5) (aG aV (aG aP aq (aa 12)) aq) 0#h) aq (aH _)) (aI (dZ (fZ K (aa 10) (bG (bC (aa 9) dH))) (hs:=dM))) (ao (aK 11 bW.nd (aG aV (aa 11) (aG d8 (aG aP (aG bP (bD (fK K) (aa 5) (aG aV (aG aP aq (aa 12)) aq) 0#h) aq) (aG aV (aG aP (aa 4) (aa 8)) aq)) aq))) (aI (dZ (fZ K (aa 10) (bG (bC (aa 9) (aa 11)))) (hs:=dM)))))))) (aI (aU (bG (bC (aa 10) (aa 8)))))),?_⟩
  rintro σ H1 ⟨lw,R,xs,os,Hx,b,wh,hi,v6,v7,HD,rfl,s0,s1,nR,ew,⟨x0,g0,a0,b0⟩,hx,eR,hos,tN,h21,hlo,w1,w2,zh,hb,zb,hB⟩
  have zcb:Sz 196 (c*b):=zc.mul zb
  rw?
  refine eF (uO ?_)
  rw?
  refine cA (s1 _ _ ew) (aZ g0 rfl) ?_
  refine ⟨_,rfl,by lia,by lia,cX (fun j σ H3=>P5 fun (os:List Nn) (wh hi:Int) (HD:Option V)=>σ=[some (.ref a),some (.int 2),some (.ref l),some (.int u),some (.int c),some (.ref lw),v6,v7,some (.int b),some (.int wh),some (.ref R),some (.int hi),HD]∧au Hx H3∧H3 R=some (.lst (bJ os))∧ic H3 os 48 210∧dO os∧os.length≤21+j∧(∀x∈os,x.2.1≤wh)∧u≤wh∧wh≤u+3+3*j∧Sz (202+j) hi∧Bhd hs os b) ?_ ?_ ?_⟩
  ·exact ⟨os,wh,hi,HD,rfl,s1,eR,hos,tN,h21,hlo,w1,by simp?,zh,hB⟩
  ·rintro j σ H3 hj ⟨os,wh,hi,HD,rfl,s3,e3,hos,tN,h21,hlo,w1,w2,zh,hB⟩
   refine eU fun M Bk RR hM _ _=>?_
   obtain ⟨x,y,z,gx,ax,bx,gy,gz,az,bz⟩:=hx j 0#c
   have w3:=s3 _ _ ew
   have fin:∀(p:Nn) (H5:Hp) (hi':Int) (HD:Option V),p.2.1=wh+1+x→au H3 H5→zZ H5 p 48 210→Sz (202+(j+1)) hi'→M [some (.ref a),some (.int 2),some (.ref l),some (.int u),some (.int c),some (.ref lw),v6,v7,some (.int b),some (.int (wh+1+x)),some (.ref R),some (.int hi'),HD] (upd H5 R (.lst (bJ os++[.ref p.1]))):=fun p H5 hi' HD hp s5 f5 z5=>by
    have eR5:=s5 _ _ e3
    refine hM _ _ ⟨os++[p],wh+1+x,hi',HD,rfl,aY (s3.trans s5) nR,by rw [aA,gn],((hos.up s5).snoc f5).app eR5,?_,by rw [fq,HK];simp?,fun q hq=>?_,by simp?,by simp?,z5,?_⟩
    ·refine N3.mpr ⟨tN,NU _ _,fun q hq r hr=>?_⟩
     obtain rfl:r=p:=by simpa using hr
     have:=hlo q hq
     simp?
    ·rcases dN.mp hq with t | t
     ·have:=hlo q t
      simp?
     ·obtain rfl:q=p:=by simpa using t
      simp?
    ·obtain ⟨ys,hy⟩:=hB
     exact ⟨ys++[p.2],by rw [i9,hy,zJ];rfl⟩
   have zwh:Sz 48 (wh+1+x):=by
    have:u.natAbs<2 ^ 46:=zu
    show (wh+1+x).natAbs<2 ^ 48
    simp?
   rw?
   refine cA w3 (aZ gx 0#c) ?_
   rw?
   refine cA w3 (aZ gy 0#c) ?_
   rw?
   refine cE (fun c1=>?_) (fun c1=>?_)
   ·rw?
    refine ⟨.inl ⟨rfl,_,aX.of e3⟩,?_⟩
    rw?
    refine aE (mk:=.tup) 0#e fun pe H7 s7 n7 e7=>?_
    rw?
    refine cz (s7 _ _ e3) (by rw [bA];exact aN 0#c) ?_
    exact fin (pe,wh+1+x,none) H7 _ _ rfl s7 ⟨e7,zwh,fun z q=>by cases q⟩ (zh.mono 0#c)
   ·have z12:Sz 4 (z-12):=show (z-12).natAbs<2 ^ 4 by simp?
    have zc1:Sz 197 (c*b+1):=zcb.add (show Sz 196 1 by decide)
    have zp:=z12.mul zc1
    rw?
    refine cA w3 (aZ gz 0#c) ?_
    rw?
    refine fF (bQ zc zb) ?_
    rw?
    refine fF (bQ z12 zc1) ?_
    rw?
    refine fF (show yT _ _ from ⟨by decide,by decide +kernel⟩) ?_
    rw?
    refine ⟨.inl ⟨rfl,_,aX.of e3⟩,?_⟩
    rw?
    refine aE (mk:=.tup) 0#e fun pe H7 s7 n7 e7=>?_
    rw?
    refine cz (s7 _ _ e3) (by rw [bA];exact aN 0#c) ?_
    have zd:Sz (202+j) (((z-12)*(c*b+1)).fdiv 5):=by
     refine (zp.of_le ?_).mono 0#c
     rw [yN _ 0#i]
     generalize (z-12)*(c*b+1)=g
     simp?
    exact fin (pe,wh+1+x,some _) H7 _ _ rfl s7 ⟨e7,zwh,fun z q=>by
     cases q
     exact (zh.add zd).mono 0#c⟩ (zh.add zd)
  ·rintro σ H3 ⟨os,wh,hi,HD,rfl,s3,e3,hos,tN,h21,hlo,w1,w2,zh,hB⟩
   rw?
   refine aE (mk:=.tup) 0#e fun y H7 s7 n7 e7=>?_
   exact k y R os b H7 (s0.trans (s3.trans s7)) e7 (s7 _ _ e3) (hos.up s7) tN 0#c hb zb hB
 refine ⟨_,(ao (aK 5 bW.nd (Jd.c3 ia hr 0#l 0#r (aG BV (dg (cO aq (Jd.a4 aq aq aq aq) i6)) (aG LO (dg (Jd.a3 aq aq aq)) aq)))) (ao (qy (O:=["_law_one"]) (N':=[]) (cap:=[]) (i:=6) bW.nd rfl 0#m rfl (di K 0#w) (fun _ _ _ _ _=>(cg (i:=0) (show i8 [("_law_one":Str)] by decide +kernel) rfl 0#m)) (fun _ _ _ _ _=>(tX (bF ir (bD (Et K) 0#l aq 0#h) dH (aH _)))) (fun _ _ _ _ _=>0#l) rfl trivial rfl 0#g rfl 0#g (by rfl)) (ao (aK 7 bW.nd (Jd.c3 qK hr (aa 6) (qW (Tf K) (aa 5) (qY aq) qX) (aa 4))) (ao (aK 8 bW.nd aq) (ao (aK 9 bW.nd (aa 3)) (ao (b9 (bF ir (aa 7) dH (aH _)) (aI (aK 8 bW.nd (aJ K (aa 7)))) cF) (ao (aK 10 bW.nd (bY je hr 0#w (aa 8))) (ao (aK 11 bW.nd aq) (ao (b9 (Jd.xA (rf (bF ir (aa 7) dH (aH _)) (tY (bF dI (Jd.iL K (aa 5)) aq (aH _))))) (ao (aK 9 bW.nd (aG aV (aa 3) (Jd.iL K (aa 5)))) (ao (aK 11 bW.nd (aG aV (aG aP (aJ K (aJ K (aa 7))) (aa 8)) (aG aP (aJ K (aa 7)) (aG bP (aa 9) (aJ K (aJ K (aa 7))))))) (aI (dZ (fZ K (aa 10) (bG (bC (aa 9) (aa 11)))) (hs:=dM))))) cF) hu))))))))),?_⟩
 rw?
 refine aE (mk:=.lst) 0#e fun l1 H1 s1 n1 e1=>?_
 rw?
 refine aE (mk:=.lst) 0#e fun l2 H2 s2 n2 e2=>?_
 rw?
 refine SD e2 0#c 0#c ?_
 refine aE (mk:=.lst) (by rw [len_rep];decide) fun l3 H3 s3 n3 e3=>?_
 rw?
 refine Jy (s3 _ _ (s2 _ _ e1)) e3 ?_
 refine aE (mk:=.lst) (by rw [fq,len_rep];decide) fun l4 H4 s4 n4 e4=>?_
 have vg:=s1.trans (s2.trans (s3.trans s4))
 rw?
 refine ⟨a,ns,2,l4,OF,rfl,vg.seq hS,by decide,by decide,by rw [e4];rfl,by decide,by decide,fun lw xs H5 s5 n5 e5 hlen hxs=>?_⟩
 have JB:=vg.trans s5
 obtain ⟨x0,g0,a0,b0⟩:=cj hlen hxs 0 (z:=6) rfl
 obtain ⟨x1,g1,a1,b1⟩:=cj hlen hxs 1 (z:=40) rfl
 obtain ⟨x2,g2,a2,b2⟩:=cj hlen hxs 2 (z:=40) rfl
 obtain ⟨x3,g3,a3,b3⟩:=cj hlen hxs 3 (z:=4) rfl
 obtain ⟨x4,g4,a4,b4⟩:=cj hlen hxs 4 (z:=3) rfl
 have hx:∀k,k<5→∃x y z,xs[3*k+5]?=some x∧0≤x∧x<3∧xs[3*k+6]?=some y∧xs[3*k+7]?=some z∧0≤z∧z<25:=fun k hk=>by
  obtain ⟨q1,q2,q3⟩:=ZZ k hk
  obtain ⟨x,r1,r2,r3⟩:=cj hlen hxs _ q1
  obtain ⟨y,r4,_⟩:=cj hlen hxs _ q2
  obtain ⟨z,r5,r6,r7⟩:=cj hlen hxs _ q3
  exact ⟨x,y,z,r1,r2,r3,r4,r5,r6,r7⟩
 rw?
 refine iw ?_
 rw?
 refine ⟨l,rfl,⟨_,aX.of (JB _ _ hl)⟩,?_⟩
 refine cC (xs:=bJ hs) bV (fun H3 s3=>aX.of (s3 _ _ (JB _ _ hl))) (by rw [bA];simp?) (fun i ys G=>ys=bJ ((hs.take i).filter vL)) rfl ?_ ?_
 ·rintro D i x ys H3 jK N N0 h0 hD eD s3 hx hy rfl kY kN
  obtain ⟨e,he,rfl⟩:=oQ hx
  obtain ⟨ee,_⟩:=(hes e (mY he)).up (JB.trans s3)
  have ts:=HJ vL hs i e he
  obtain ⟨ae,me,ve⟩:=e
  refine fD h0 ?_
  cases ve with
  | none=>
    rw?
    refine ⟨rfl,?_⟩
    rw?
    refine bU ?_
    rw [show vL (ae,me,none)=false from rfl,if_neg dD,sG] at ts
    exact kN H3 (au.refl _) (by rw [ts])
  | some z=>
    rw?
    refine ⟨rfl,?_⟩
    rw?
    refine cu ?_
    rw?
    rw [show vL (ae,me,some z)=true from rfl,if_pos rfl] at ts
    exact kY _ H3 (au.refl _) (by rw [ts,← gn])
 rintro D ys H6 hD eD s6 hy rfl
 rw [bA,jH] at eD
 have Dp:=JB.trans s6
 walk_at "vd"
 refine vS (s6 _ _ e5) fun S H7 s7 n7 e7=>?_
 rw [show (some (1:Int))=some ((1:Nat):Int) from rfl,Xc] at e7
 rw?
 have EH:=Dp.trans s7
 have ew7:=(s6.trans s7) _ _ e5
 have row:∀(b:Int) (R:av) (es':List Nn) (H9:Hp),ic H9 es' 45 (150+46)→es'.map (·.2)=hs.map (fun x=>(x.2.1,x.2.2.map (·*b)))→ic H9 es' 48 210∧dO es'∧es'.length≤20∧(∀x∈es',x.2.1≤u)∧Bhd hs es' b:=fun b R es' H9 hn hm=>by
  have e1:es'.map (fun x=>x.2.1)=hs.map (fun x=>x.2.1):=by
   have:=congrArg (zR US) hm
   rw [qB,qB] at this
   exact this
  refine ⟨fun x hx=>?_,?_,by have:=congrArg tT e1;simp at this;simp?,fun x hx=>?_,[],by rw [sG];exact hm⟩
  ·obtain ⟨q1,q2,q3⟩:=hn x hx
   exact ⟨q1,q2.mono 0#i,fun z hz=>(q3 z hz).mono 0#i⟩
  ·exact BI e1 dX
  ·have:x.2.1∈hs.map (fun x=>x.2.1):=e1▸gP.mpr ⟨x,hx,rfl⟩
   obtain ⟨y,hy,e⟩:=gP.mp this
   rw [← e]
   exact hle y hy
 refine ⟨D,S,hs.filter vL,xs.drop 1,x1,x2,x3,c,rfl,s7 _ _ eD,fun x hx=>(hes.up EH) x (JZ.subset hx),fun x hx=>(Df.mp hx).2,eE JZ.length_le 0#c,e7,by rw [ly];exact g1,a1,b1,by rw [ly];exact g2,a2,b2,by rw [ly];exact g3,a3,b3,zc,fun H8 s8=>?_,fun y o m v b r H8 s8 ey eo zm zv hb zb zr=>?_⟩
 ·rw?
  refine ⟨rfl,?_⟩
  rw?
  refine bU ?_
  rw?
  refine ⟨l,hs,1,150,46,rfl,(EH.trans s8) _ _ hl,hes.up (EH.trans s8),by simp?,by decide,by decide,fun R es' H9 s9 n9 e9 hn hm=>?_⟩
  rw?
  refine ⟨rfl,?_⟩
  rw?
  refine bU ?_
  rw?
  obtain ⟨q1,q2,q3,q4,q5⟩:=row 1 R es' H9 hn hm
  exact hR _ _ ⟨lw,R,xs,es',H8,1,u,0,_,_,_,rfl,EH.trans s8,s9,n9,s8 _ _ ew7,⟨x0,g0,a0,b0⟩,hx,e9,q1,q2,by simp?,q4,EW _,by simp?,by decide,by decide,by decide,q5⟩
 ·rw?
  refine ⟨rfl,?_⟩
  rw?
  refine cu ?_
  rw?
  refine ⟨l,hs,b,150,46,rfl,(EH.trans s8) _ _ hl,hes.up (EH.trans s8),by simp?,zb,by decide,fun R es' H9 s9 n9 e9 hn hm=>?_⟩
  obtain ⟨q1,q2,q3,q4,q5⟩:=row b R es' H9 hn hm
  have ey9:=s9 _ _ ey
  have eo9:=s9 _ _ eo
  have ew9:=(s8.trans s9) _ _ ew7
  rw?
  refine ⟨rfl,?_⟩
  rw?
  refine cu ?_
  rw?
  refine cA ew9 (aZ g4 rfl) ?_
  rw?
  refine cE (fun c1=>?_) (fun c1=>?_)
  ·have tH:=jM c1
   have zw:Sz 48 (u+x4-m):=by
    have h1:u.natAbs<2 ^ 46:=zu
    have h2:m.natAbs<2 ^ 45:=zm
    show (u+x4-m).natAbs<2 ^ 48
    simp?
   have zwu:Sz 48 (u+x4):=by
    have h1:u.natAbs<2 ^ 46:=zu
    show (u+x4).natAbs<2 ^ 48
    simp?
   rw?
   refine cA ew9 (aZ g4 rfl) ?_
   rw?
   refine fF (bQ zv zb) ?_
   rw?
   refine fF (bQ zr zw) ?_
   rw?
   refine ⟨.inl ⟨rfl,_,aX.of e9⟩,?_⟩
   rw?
   refine aE (mk:=.tup) 0#e fun pe tU oV xq Di=>?_
   rw?
   have ab1:=oV _ _ e9
   refine cz ab1 (by rw [bA];exact aN 0#c) ?_
   have zh:Sz 201 (v*b+r*(u+x4-m)):=((zv.mul zb).mono (show 150+46≤200 by decide)).add (zr.mul zw)
   have f10:zZ tU (pe,u+x4,some (v*b+r*(u+x4-m))) 48 210:=⟨Di,zwu,fun z q=>by
    cases q
    exact zh.mono 0#i⟩
   refine hR _ _ ⟨lw,R,xs,es'++[(pe,u+x4,some (v*b+r*(u+x4-m)))],H8,b,u+x4,_,_,_,_,rfl,EH.trans s8,aY (s9.trans oV) n9,n9,s8 _ _ ew7,⟨x0,g0,a0,b0⟩,hx,by rw [aA,← gn],((q1.up oV).snoc f10).app ab1,?_,by rw [fq,HK];simp?,fun q hq=>?_,by simp?,by simp?,zh.mono 0#i,hb,zb,?_⟩
   ·refine N3.mpr ⟨q2,NU _ _,fun q hq t ht=>?_⟩
    obtain rfl:=EM.mp ht
    have:=q4 q hq
    show q.2.1<u+x4
    simp?
   ·rcases dN.mp hq with t | t
    ·have:=q4 q t
     simp?
    ·obtain rfl:=EM.mp t
     exact EW _
   ·obtain ⟨ys,hy⟩:=q5
    exact ⟨ys++[(u+x4,some (v*b+r*(u+x4-m)))],by rw [i9,hy,zJ];rfl⟩
  ·rw?
   exact hR _ _ ⟨lw,R,xs,es',H8,b,u,0,_,_,_,rfl,EH.trans s8,s9,n9,s8 _ _ ew7,⟨x0,g0,a0,b0⟩,hx,e9,q1,q2,by simp?,q4,EW _,by simp?,by decide,hb,zb,q5⟩
end
theorem Td {hs:List Nn} (h:es.map (·.2)=hs.map (fun x=>cU b x.2)) (u:Int):(yz es u).map (·.2)=(hs.filter (fun x=>decide (x.2.1≤u))).map (fun x=>cU b x.2):=by
 have a:(yz es u).map (·.2)=(es.map (·.2)).filter (fun v:Int×Option Rat=>decide (v.1≤u)):=by rw [Ur];rfl
 have c:(hs.filter (fun x=>decide (x.2.1≤u))).map (fun x=>cU b x.2)=(hs.map (fun x=>cU b x.2)).filter (fun v:Int×Option Rat=>decide (v.1≤u)):=by rw [Ur];rfl
 rw [a,c,h]
theorem Vl {os:List Nn} (hb:1≤b) (hy:1≤E9) (h:Bhd hs os E9):∃ys,(gh os (b*E9)).map (·.2)=hs.map (fun x=>cU b x.2)++ys:=by
 obtain ⟨ys,h⟩:=h
 refine ⟨ys.map (cU (b*E9)),?_⟩
 have e:=congrArg (zR (cU (b*E9))) h
 rw [i9,qB,qB] at e
 rw [xH]
 refine e.trans ?_
 congr 1
 refine T7 fun x _=>?_
 show cU (b*E9) (x.2.1,x.2.2.map (·*E9))=cU b x.2
 unfold cU
 rw [Za]
 congr 2
 funext z
 show ((z*E9:Int):Rat)/((b*E9:Int):Rat)=(z:Rat)/(b:Rat)
 have h1:=cS (b:=b) 0#c
 have h2:=cS (b:=E9) 0#c
 simp only [o9]
 grind
theorem Vj (h:es[es.length-1]?=some x):pM (bJ es) (-1)=some (.ref x.1):=by
 have hl:=(lR.mp h).1
 unfold pM
 rw [bA,pN (m:=es.length-1) 0#c]
 show (bJ es)[es.length-1]?=_
 unfold bJ
 rw [dm,h]
 rfl
inductive JG (K:bZ) (vs:List V) (H:Hp) (Q:VK) (E_:XK):Prop where
 | mk (a:av) (ns:List Int):vs=[.ref a]→aX K H a (ns.map V.int)→ns.length≤63→(∀H',Q (.bl true) H')→JG K vs H Q E_
section
theorem jA:aF ["_law_script","_law_more","_law_way","_law_share","_law_row_here","_law_bottom","_law_bound","_law_moment_here","_law_held","_law_other","_law_by","_law_within","_law_number"] ["_law_script"] (ah SV):=0#a
theorem aaZ (F:cT K "law" "law" SV f fd) (T:Txt mg) (ia:Dn P w K mg base 3 "_law_row" ["_law_script","_law_place","_law_sizes"] (JH K)) (qM:Dn P w K mg base 4 "_law_drawn" ["_law_script","_law_place","_law_most","_law_share"] (Cz K)) (pF:Dn P w K mg base 1 "_law_moment" ["_law_row_here","_law_some"] yG) (pB:Dn P w K mg base 4 "_law_behind" ["_law_script","_law_place","_law_row_here","_law_moment_here","_law_bound"] (Cw K)) (jc:Dn P w K mg base 1 "_law_ratio" ["_law_top","_law_bottom"] wA) (pD:Dn P w K mg base 2 "_law_handed" ["_law_row_here","_law_bottom"] CA) (Qn:Dn P w K mg base 11 "few" ["row","way","bound","moment"] Tj) (m9:Dn P w K mg base 5 "_law_total" ["_law_row_here","_law_way","_law_bound"] CN):bf P w K mg base c7 12 f fd ["_law_script"] (JG K):=by
 refine F.ok jA 0#f 0#b
 ·obtain ⟨a,ns,rfl,_⟩:=h
  rfl
 obtain ⟨a,ns,rfl,hS,hn,k⟩:=h
 refine bI ⟨_,(ao (aK 1 jA.nd (Jd.c3 ia hr 0#l aq (dg (Jd.a4 aq aq aq aq)))) (ao (aK 2 jA.nd (bD (fK K) (dg (cO mD (cO mD (Jd.a4 mD mD mD mD) i6) i6)) (Jd.iL K 0#r) 0#h)) (ao (aK 3 jA.nd (bD (fK K) (dg (cO aq (cO aq (Jd.a4 aq aq aq aq) i6) i6)) (Jd.iL K 0#r) 0#h)) (ao (Jd.yg (fN qM 0#A rfl (Jd.a4 0#l aq aq (aa 3)) (he:=bK) (hpl:=(cD i6 (cD i6 (cD bK cB))))) (Jd.Qf K (n:=3) rfl (gM (cg (i:=4) jA.nd rfl 0#m) (gM (cg (i:=5) jA.nd rfl 0#m) (gM (cg (i:=6) jA.nd rfl 0#m) qZ))))) (ao (kj (i:=7) jA.nd rfl (Or.inr rfl) (bY pF hr (aa 4) (qW (Tf K) 0#r (qY aq) qX)) (hs:=dM)) (ao (b9 (Jd.xA (rf (bF d7 (Jd.iL K 0#r) aq (aH _)) (tY (bF dI (gB K T.gc (aa 4)) aq (aH _))))) (aI (kj (i:=7) jA.nd rfl (Or.inr rfl) (aJ K (bD (fK K) (aa 4) (eV cW aq) 0#h)) (hs:=MI))) cF) (ao (qy (O:=["_law_one"]) (N':=["_law_moment_here"]) (cap:=[7]) (i:=8) jA.nd rfl 0#m rfl (di K (aa 4)) (fun _ _ _ _ _=>(cg (i:=0) (show i8 [("_law_one":Str),("_law_moment_here":Str)] by decide +kernel) rfl 0#m)) (fun _ _ _ _ _=>(tX (bF EA (bD (Et K) 0#l aq 0#h) 0#r (aH _)))) (fun _ _ _ _ _=>0#l) rfl 0#u rfl 0#g rfl 0#g (by rfl)) (ao (Jd.yg (fN pB 0#A rfl (cO 0#l (Jd.a4 aq (aa 8) (aa 7) (aa 6)) bK) (he:=bK) (hpl:=(cD i6 (cD bK (cD bK (cD bK cB)))))) (Jd.Qf K (n:=2) rfl (gM (cg (i:=9) jA.nd rfl 0#m) (gM (cg (i:=10) jA.nd rfl 0#m) qZ)))) (ao (aK 11 jA.nd (bY jc hr (aa 6) (aa 5))) (ao (aK 12 jA.nd (aJ K (fN Qn 0#A (by rfl) (Jd.a4 (bY pD hr (aa 4) (aa 5)) 0#w (aa 11) (aa 7)) (he:=Ax) (hpl:=(cD bK (cD bK (cD bK cB))))))) (ao (b9 (Jd.xA (Jd.Jw (nv (fU (acH K) rfl T.zf XG (bC (aa 12) (Jd.NB rfl T.abY aec)) (he:=bK) (hpl:=(cD bK cB)))) (Jd.Cc (Jd.Cb (nv (fU (acH K) rfl T.zf XG (bC (aa 12) (Jd.NB rfl T.acF Ye)) (he:=bK) (hpl:=(cD bK cB)))))))) (aI (aU Jd.oS)) cF) (ao (b9 (bF dI (aa 12) (Jd.c3 m9 hr (aa 8) 0#w (aa 6)) (aH _)) (aI (aU Jd.oS)) cF) (aI (aU (tZ EA (aa 12) (Jd.c3 m9 hr (aa 9) 0#w (aG aP (aa 6) (aa 10))) (aH _)))))))))))))))),?_⟩
 rw?
 refine aE (mk:=.lst) 0#e fun l1 H1 s1 n1 e1=>?_
 rw?
 refine ⟨a,ns,1,l1,[6,40,4,2],rfl,s1.seq hS,by decide,by decide,by rw [e1];rfl,by decide,by decide,fun lw xs H2 s2 n2 e2 hlen hxs=>?_⟩
 obtain ⟨d0,g0,a0,b0⟩:=cj hlen hxs 0 (z:=6) rfl
 obtain ⟨d1,g1,a1,b1⟩:=cj hlen hxs 1 (z:=40) rfl
 obtain ⟨d2,g2,a2,b2⟩:=cj hlen hxs 2 (z:=4) rfl
 obtain ⟨d3,g3,a3,b3⟩:=cj hlen hxs 3 (z:=2) rfl
 rw?
 refine aE (mk:=.lst) 0#e fun l3 H3 s3 n3 e3=>?_
 rw?
 refine cA (s3 _ _ e2) (aZ g0 rfl) ?_
 obtain ⟨wy,ewy⟩:∃wy:Wy,pM [V.str (EV "spans"),V.str (EV "chain"),V.str (EV "spans"),V.str (EV "chain"),V.str (EV "apart"),V.str (EV "joined")] d0=some (.str (Ql wy)):=by
  rcases (show d0=0∨d0=1∨d0=2∨d0=3∨d0=4∨d0=5 by simp?) with rfl | rfl | rfl | rfl | rfl | rfl
  ·exact ⟨.sp,rfl⟩
  ·exact ⟨.ch,rfl⟩
  ·exact ⟨.sp,rfl⟩
  ·exact ⟨.ch,rfl⟩
  ·exact ⟨.ap,rfl⟩
  ·exact ⟨.jo,rfl⟩
 refine cA e3 ewy ?_
 rw?
 refine aE (mk:=.lst) 0#e fun l4 H4 s4 n4 e4=>?_
 rw?
 refine cA ((s3.trans s4) _ _ e2) (aZ g0 rfl) ?_
 obtain ⟨sh,esh,zsh⟩:=zD (zs:=[1,1,1,1,2,2]) (fun z=>0≤z∧z≤2) 0#g a0 b0
 refine cA e4 esh ?_
 have SQ:=s3.trans s4
 have vg:=s1.trans (s2.trans SQ)
 rw?
 refine NH ?_
 rw?
 refine ⟨a,ns,0,10,sh,rfl,vg.seq hS,by decide,by decide,by decide,zsh.1,zsh.2,fun p R hs b c H5 s5 e5 nR eR acw hle dX hb zb hc zc=>?_⟩
 refine PB e5 ?_
 walk_at "vd"
 refine vS ((SQ.trans s5) _ _ e2) fun S H6 s6 n6 e6=>?_
 rw [show (some (1:Int))=some ((1:Nat):Int) from rfl,Xc] at e6
 rw?
 refine ⟨R,S,hs,xs.drop 1,d1,d2,rfl,s6 _ _ eR,acw.up s6,by simp?,e6,by rw [ly];exact g1,a1,b1,by rw [ly];exact g2,a2,b2,fun u0 H7 s7 zu0=>?_⟩
 have s57:=s6.trans s7
 have eR7:=s57 _ _ eR
 have Rp:=acw.up s57
 have ew7:=(SQ.trans (s5.trans s57)) _ _ e2
 refine Nx ?_
 with_reducible refine jE (fun σ' H'=>∃u:Int,σ'=[some (.ref a),some (.ref lw),some (.str (Ql wy)),some (.int sh),some (.ref R),some (.int b),some (.int c),some (.int u),none,none,none,none,none]∧H'=H7∧Sz 46 u) (fun σ' H' hP=>?_) (fun N hN=>?_)
 rotate_left
 ·rw?
  refine cA ew7 (aZ g3 rfl) ?_
  rw?
  refine cE (fun c1=>?_) (fun c1=>?_)
  ·rw?
   refine cP (.inl (aX.of eR7)) ?_
   rw [bA]
   rw?
   refine cE (fun c2=>?_) (fun c2=>?_)
   ·have Vn:=jM c2
    obtain ⟨e,he⟩:∃e,hs[hs.length-1]?=some e:=⟨_,mX 0#c⟩
    obtain ⟨ee,z1,_⟩:=Rp e (mY he)
    rw?
    refine cA eR7 (Vj he) ?_
    rw?
    exact hN _ _ ⟨_,rfl,rfl,z1.mono 0#i⟩
   ·rw?
    exact hN _ _ ⟨_,rfl,rfl,zu0⟩
  ·refine bU ?_
   rw?
   exact hN _ _ ⟨_,rfl,rfl,zu0⟩
 obtain ⟨u,rfl,rfl,zu⟩:=hP
 rw?
 refine iw ?_
 rw?
 refine ⟨R,rfl,⟨_,aX.of eR7⟩,?_⟩
 refine cC (xs:=bJ hs) bV (fun H3 s3=>aX.of (s3 _ _ eR7)) (by rw [bA];simp?) (fun i ys G=>ys=bJ ((hs.take i).filter (fun x=>decide (x.2.1≤u)))) rfl ?_ ?_
 ·rintro D i x ys H3 jK N N0 h0 hD eD s3 hx hy rfl kY kN
  obtain ⟨e,he,rfl⟩:=oQ hx
  obtain ⟨ee,_⟩:=(Rp e (mY he)).up s3
  have ts:=HJ (fun x:Nn=>decide (x.2.1≤u)) hs i e he
  refine fD h0 ?_
  rw?
  refine cE 0#B 0#B
  ·rw [c,if_pos rfl] at ts
   rw?
   exact kY _ H3 (au.refl _) (by rw [ts,← gn])
  ·rw [if_neg c,sG] at ts
   exact kN H3 (au.refl _) (by rw [ts])
 rintro D ys H8 hD eD s8 hy rfl
 rw [bA,jH] at eD
 have sub:(hs.filter (fun x:Nn=>decide (x.2.1≤u))).Sublist hs:=JZ
 have afT:(hs.filter (fun x:Nn=>decide (x.2.1≤u))).length≤10:=eE sub.length_le hle
 have hnr:dO (hs.filter (fun x:Nn=>decide (x.2.1≤u))):=dX.sublist sub
 have Rq:=Rp.up s8
 have NI:au H H8:=vg.trans (s5.trans (s57.trans s8))
 rw?
 refine NH ?_
 rw?
 refine ⟨a,ns,D,hs.filter (fun x:Nn=>decide (x.2.1≤u)),u,c,rfl,NI.seq hS,eD,fun x hx=>Rq x (sub.subset hx),hnr,by simp?,fun x hx=>jM (Df.mp hx).2,zu,zc,fun y9 O os E9 H9 s9 e9 eO hos tN h30 hy1 zy hB=>?_⟩
 refine lY e9 ?_
 rw?
 refine Ir (n:=150) 0#c zc (zb.mono 0#i) 0#i fun pb tU oV f10=>?_
 have lV:=RP hb hc
 have yi:=s9.trans oV
 rw?
 refine ⟨R,hs,b,45,150,80,150,rfl,(s8.trans yi) _ _ eR7,Rq.up yi,by simp?,hb,zb,by decide,by decide,by decide,by decide,fun L es MS Dq nL eL hR hmap=>?_⟩
 have hlen:=RD hmap
 have U4:=rj hmap dX
 have adv:(yz es u).Sublist es:=JZ
 have lA:(P6 es u).length≤10:=eE ((CW _ _).trans adv).length_le 0#c
 have lB:(Ds es u).length≤10:=eE ((CY _ _).trans adv).length_le 0#c
 rw?
 refine ⟨L,pb,es,_,wy,u,rfl,eL,hR,U4,by simp?,eE (sU (s:=dU) (es:=P6 es u) _) 0#c,fun r hr=>eE (BX (s:=dU) (es:=P6 es u) _ r hr) 0#c,by simp?,f10.up Dq,lV,?_,fun y12 v wv H12 s12 Xd hF=>?_⟩
 ·have h1:u.natAbs<2 ^ 46:=zu
  refine Sz.of_lt (m:=150) (k:=2 ^ 47) ?_ 0#i
  simp?
 have hFN:=hF
 have both:(P6 es u++Ds es u).map (·.2)=(hs.filter (fun x:Nn=>decide (x.2.1≤u))).map (fun x=>cU b x.2):=by
  unfold P6 Ds
  rw [JW]
  exact Td hmap u
 have WI:=oV.trans (Dq.trans s12)
 rw?
 refine XA (.int v) aaI ?_
 rw?
 refine bU ?_
 rw?
 refine XA (.int v) aaJ ?_
 rw?
 refine bU ?_
 rw?
 refine ⟨D,hs.filter (fun x:Nn=>decide (x.2.1≤u)),wy,c,b,45,150,rfl,(s9.trans WI) _ _ eD,fun x hx=>(Rq.up (s9.trans WI)) x (sub.subset hx),hnr,by simp?,zc,by decide,by decide,hb,hc,fun t1 H13 xr ht1=>?_⟩
 have le1:v≤t1:=hFN.le (Nd _) (Fz _) (rj (xH _ b) hnr) (ys:=[]) (by rw [xH,both,sG]) ht1
 rw?
 rw [qu (show ¬t1<v by simp?)]
 refine bU ?_
 rw?
 refine fF (bQ zc zy) ?_
 rw?
 have hcb:((c*E9:Int):Rat)/((b*E9:Int):Rat)=(c:Rat)/(b:Rat):=by
  have h1:=cS (b:=b) 0#c
  have h2:=cS (b:=E9) 0#c
  simp only [o9]
  grind
 refine ⟨O,os,wy,c*E9,b*E9,48,210,rfl,(WI.trans xr) _ _ eO,hos.up (WI.trans xr),tN,by simp?,(zc.mul zy).mono 0#i,by decide,by decide,mF hb hy1,oG hc 0#c,fun t2 H14 SN ht2=>?_⟩
 rw [hcb] at ht2
 obtain ⟨ys,hys⟩:=Vl hb hy1 hB
 have le2:v≤t2:=hFN.le (Nd _) (Fz _) (rj (xH _ (b*E9)) tN) (ys:=ys) (by rw [hys,both]) ht2
 rw?
 rw [jJ le2]
 exact k H14
end
theorem all_mk {l:Um} (X:K.In h) (G:h.Ns fH mg) (hfa:mg "law"=some (.ref fa)) 
 (OC:i7 K fH "Stretch"=some (some (.ref aR))) (LZ:EN K aR UR=true) (K3:J2 K aR=true) (L4:N9 K aR=true) (Mp:j4 K (.ref aR) "__setattr__"=some (some (.builtin "object.__setattr__"))) (Li:Og K aR=true) (Lc:xh K (.ref aR)=true)
 (xR:j4 K (.ref aR) "twice"=some none)
 (uJ:j4 K (.ref aR) "samples"=some none)
 (tO:j4 K (.ref aR) "gentlest"=some none)
 (tP:j4 K (.ref aR) "steepest"=some none)
 (ZU:i7 K fH "Bend"=some (some (.ref aC))) (Ww:EN K aC UR=true) (VU:J2 K aC=true) (Wz:N9 K aC=true) (WJ:j4 K (.ref aC) "__setattr__"=some (some (.builtin "object.__setattr__"))) (Wb:Og K aC=true) (V5:xh K (.ref aC)=true)
 (DI:j4 K (.ref aC) "bound"=some none)
 (DJ:j4 K (.ref aC) "twice"=some none)
 (DH:j4 K (.ref aC) "below"=some none)
 (DG:j4 K (.ref aC) "above"=some none)
 (xP:j4 K (.ref aC) "gentlest"=some none)
 (xQ:j4 K (.ref aC) "steepest"=some none)
 (KR:Fx K "_law_cell" uR)
 (OW:Fx K "_law_mix" yo)
 (OX:Fx K "_law_row" yp)
 (IE:Fx K "_law_ratio" rN)
 (Ad:Fx K "plain_divisor" kT)
 (xK:Fx K "steps_of_heads" jV)
 (OU:Fx K "divisor" yk)
 (VO:Fx K "ratio" G4)
 (OZ:Fx K "reduced" yr)
 (FL:Fx K "loose_plus" qe)
 (tW:Fx K "loose_minus" j8)
 (Dz:Fx K "loose_times" oA)
 (VM:Fx K "minus" G2)
 (aau:Fx K "plus" Ml)
 (aat:Fx K "over" Mj)
 (oh:Fx K "loose_slope" iN)
 (Dw:Fx K "loose_along" ow)
 (Bw:Fx K "loose_height" mR)
 (IL:Fx K "loose_off" rT)
 (VP:Fx K "slope" G5)
 (OY:Fx K "line_by" yq)
 (Rg:Fx K "height" Ci)
 (aas:Fx K "meet" Mi)
 (VN:Fx K "order" G3)
 (h_size:Fx K "size" Mn)
 (Dy:Fx K "loose_stand" oz)
 (aav:Fx K "runs" Mm)
 (FJ:Fx K "_law_shaped" qd)
 (II:Fx K "_law_times" rQ)
 (FI:Fx K "_law_picked" qc)
 (ID:Fx K "_law_drawn" rM)
 (xJ:Fx K "loose_farthest" jU)
 (FG:Fx K "_law_handed" pZ)
 (IF:Fx K "_law_stand" rO)
 (KQ:Fx K "greatest" uQ)
 (K0:Fx K "smallest" uX)
 (Dv:Fx K "good_behind" ou)
 (VJ:Fx K "leaps" GZ)
 (IA:Fx K "labels_by" rJ)
 (Ri:Fx K "labels" Ck)
 (OT:Fx K "bars_by" yj)
 (uG:Fx K "places_of_pieces" iY)
 (Ac:Fx K "piece_between" kR)
 (K2:Fx K "tied_run" uZ)
 (K1:Fx K "tied_row" uY)
 (VQ:Fx K "spans" G6)
 (VI:Fx K "chain" GY)
 (Bt:Fm K aR "__init__" "Stretch.__init__" mO)
 (Aa:Fx K "gentlest_with" kP)
 (Af:Fx K "steepest_with" kX)
 (z8:Fm K aR "takes" "Stretch.takes" kM)
 (Bu:Fm K aR "kept" "Stretch.kept" mP)
 (IM:Fx K "stretches" rV)
 (By:Fx K "whole_points" mT)
 (Du:Fx K "above_chord" oq)
 (DB:Fx K "scaled_offs" oE)
 (Iz:Fx K "exchanged" rH)
 (z9:Fx K "forcing_three" kO)
 (VR:Fx K "stand" G7)
 (VS:Fx K "times" G8)
 (aar:Fx K "best" Mh)
 (DA:Fx K "piece_along" oB)
 (FA:Fx K "best_piece" pW)
 (Bv:Fx K "ending_three" mQ)
 (VH:Fx K "apart" GX)
 (KY:Fx K "opposite" uV)
 (FD:Fx K "is_steeper" pX)
 (O1:Fx K "touched" yu)
 (Iv:Fm K aC "__init__" "Bend.__init__" rF)
 (Bs:Fm K aC "line_of" "Bend.line_of" mL)
 (tK:Fm K aC "ended_in_cap" "Bend.ended_in_cap" iF)
 (tL:Fm K aC "ended_in_cup" "Bend.ended_in_cup" iG)
 (Iw:Fm K aC "take" "Bend.take" rG)
 (z7:Fm K aC "line_now" "Bend.line_now" kL)
 (KW:Fx K "links_of" uU)
 (KZ:Fx K "point_on" uW)
 (Bx:Fx K "pieces_along" mS)
 (Rh:Fx K "joined" Cj)
 (KS:Fx K "_law_runs" uS)
 (KU:Fx K "_law_turn" uT)
 (IK:Fx K "_law_turns" rS)
 (vB:Fx K "settled_entries" jy)
 (Ab:Fx K "parted_at_gap" kQ)
 (O0:Fx K "told_by" yt)
 (Ae:Fx K "slope_through" kW)
 (Rj:Fx K "spared" Cm)
 (OV:Fx K "_law_far" ym)
 (IG:Fx K "_law_steps" rP)
 (IC:Fx K "_law_count" rL)
 (IJ:Fx K "_law_total" rR)
 (acf:Fx K "few" SS)
 (FH:Fx K "_law_moment" qb)
 (IB:Fx K "_law_aimed" rK)
 (FE:Fx K "_law_behind" pY)
 (acg:Fx K "law" SV)
 (aao:i7 K fH "HEAD"=some (some (.int 256 aey)))
 (adE:i7 K fH "len"=some none)
 (adA:i7 K fH "abs"=some none)
 (W0:i7 K fH "range"=some none)
 (HF:i7 K fH "isinstance"=some none)
 (adD:i7 K fH "int"=some none)
 (abK:i7 K fH "bool"=some none)
 (W2:i7 K fH "tuple"=some none)
 (abL:i7 K fH "list"=some none)
 (adF:i7 K fH "max"=some none)
 (adG:i7 K fH "min"=some none)
 (JR:i7 K fH "enumerate"=some none)
 (adJ:i7 K fH "zip"=some none)
 (adB:i7 K fH "all"=some none)
 (adC:i7 K fH "any"=some none)
 (adI:i7 K fH "sum"=some none)
 (TX:i7 K fH "sorted"=some none)
 (MN:i7 K fH "reversed"=some none)
 (adH:i7 K fH "str"=some none) :
 ∃fd:jF,(∀(s:bq) (v:aL),BindsTo s fd ⟨[v],[]⟩ [("_law_script",v)])∧∀base:cJ,K.In base→base.Ns fH mg→bf l.prog w K mg base c7 12 fa fd ["_law_script"] (JG K):=by
 obtain ⟨_,aah,abX,W4⟩:=acg
 have e:=hfa.symm.trans (Kc X G abX)
 cases e
 have T:Txt mg:=⟨qE X G adE,qE X G adA,qE X G W0,qE X G HF,qE X G adD,qE X G abK,qE X G W2,qE X G abL,qE X G adF,qE X G adG,qE X G JR,qE X G adJ,qE X G adB,qE X G adC,qE X G adI,qE X G TX,qE X G MN,qE X G adH⟩
 obtain ⟨_,_,Be,BD,qQ⟩:=Bt
 obtain ⟨_,_,Ib,IU,yU⟩:=Iv
 have ur:Cn mg "HEAD" 256:=⟨_,Kc X G aao⟩
 have aW:Cl K mg "Stretch" aR ["twice","samples","gentlest","steepest"]:=⟨⟨LZ,K3,L4,Mp⟩,Kc X G OC,⟨xR,uJ,tO,tP,trivial⟩⟩
 have aQ:Cl K mg "Bend" aC ["bound","twice","below","above","gentlest","steepest"]:=⟨⟨Ww,VU,Wz,WJ⟩,Kc X G ZU,⟨DI,DJ,DH,DG,xP,xQ,trivial⟩⟩
 refine ⟨aah,fun s v=>?_,fun base _ _=>?_⟩
 ·obtain ⟨_,_,_,_,_,_,_,_,_,rfl,_,_⟩:=W4.ex
  exact .of_eq rfl
 have Y:Tp l.prog w K mg base:=⟨h,X,G⟩
 have pC:=Y.d KR fun F=>Jk F T
 have sL:=Y.d OW fun F=>LH F
 have ia:=Y.d OX fun F=>LI F T pC sL
 have jc:=Y.d IE fun F=>Gn F T
 have kH:=Y.d Ad fun F=>xZ F T
 have jQ:=Y.d xK fun F=>vN F ur
 have lS:=Y.d OU fun F=>LF F T ur kH jQ
 have sN:=Y.d VO fun F=>R8 F T lS
 have bE:=Y.d OZ fun F=>LK F sN
 have bO:=Y.d FL fun F=>DR F
 have aS:=Y.d tW fun F=>BO F
 have dc:=Y.d Dz fun F=>BR F
 have Ay:=Y.d VM fun F=>RZ F aS bE
 have pI:=Y.d aau fun F=>Wl F bO bE
 have Ku:=Y.d aat fun F=>Wk F sN
 have gH:=Y.d oh fun F=>BP F aS
 have ck:=Y.d Dw fun F=>BN F bO dc
 have fL:=Y.d Bw fun F=>Am F bO dc
 have qO:=Y.d IL fun F=>Gw F aS fL
 have Az:=Y.d VP fun F=>Sa F gH bE
 have jN:=Y.d OY fun F=>LJ F ck bE
 have iI:=Y.d Rg fun F=>Po F fL bE
 have Ks:=Y.d aas fun F=>Wj F Ku Ay iI
 have cM:=Y.d VN fun F=>R1 F
 have nQ:=Y.d Dy fun F=>BQ F aS ck gH
 have pK:=Y.d aav fun F=>Wm F T
 have pH:=Y.d FJ fun F=>DQ F T
 have je:=Y.d II fun F=>Gs F
 have pG:=Y.d FI fun F=>DP F T
 have qM:=Y.d ID fun F=>Gm F T ia pH pG je
 have mh:=Y.d tW fun F=>An F
 have mj:=Y.d oh fun F=>Ao F mh
 have jO:=Y.d xJ fun F=>vM F T cM mj
 have pD:=Y.d FG fun F=>DN F jc
 have jd:=Y.d IF fun F=>Gp F
 have c8:=Y.d KQ fun F=>Jj F cM
 have fX:=Y.d K0 fun F=>Jr F cM
 have bL:=Y.d oh fun F=>Aq F aS
 have nO:=Y.d Dv fun F=>BL F T cM bO aS bL c8 fX
 have sM:=Y.d VJ fun F=>RY F T nO
 have jb:=Y.d IA fun F=>Gi F T
 have AV:=Y.d Ri fun F=>Pq F T sM jb
 have xw:=Y.d OT fun F=>LD F T jO
 have iS:=Y.d uG fun F=>tQ F T
 have kG:=Y.d Ac fun F=>xY F T
 have uy:=Y.d K2 fun F=>Jt F T sM jb iS kG xw
 have jR:=Y.d K1 fun F=>Js F T pK uy
 have E2:=Y.d VQ fun F=>Sb F T jR
 have EZ:=Y.d VI fun F=>RX F T jR
 have sJ:Dk l.prog w K mg base 6 "Stretch" aR ["self","bound"] (CB aR):=⟨_,_,Aj qQ aW pI,⟨Li,Be,BD,Lc⟩,(qQ.E8 fun _ _ _ _ _ _ _ _=>rfl),aW.at_⟩
 have cL:=Y.d Aa fun F=>xW F T aS bL c8
 have cN:=Y.d Af fun F=>yb F T bO bL fX
 have iQ:=Y.m z8 fun F=>xU F T aW cL cN cM
 have jq:=Y.m Bu fun F=>Ak F T aW
 have qP:=Y.d IM fun F=>Gx F T aW sJ iQ jq
 have mw:=Y.d By fun F=>As F lS
 have j5:=Y.d Du fun F=>BK F
 have nV:=Y.d DB fun F=>BU F j5
 have qJ:=Y.d Iz fun F=>Gh F
 have kE:=Y.d z9 fun F=>xV F T mw nV qJ
 have E3:=Y.d VR fun F=>Sd F bE nQ
 have E4:=Y.d VS fun F=>Se F dc bE
 have E1:=Y.d h_size fun F=>R9 F T
 have xx:=Y.d aar fun F=>Wi F T Az jN kE E4 E3 pI E1
 have nU:=Y.d DA fun F=>BS F iI
 have pA:=Y.d FA fun F=>DK F nU xx
 have l9:=Y.d Bv fun F=>Al F T xx
 have EY:=Y.d VH fun F=>RW F T pK qP pA l9
 have jP:=Y.d KY fun F=>Jp F
 have lG:=Y.d FD fun F=>DL F cM
 have jf:=Y.d O1 fun F=>LN F cM qO
 have Kr:Dk l.prog w K mg base 6 "Bend" aC ["self","bound"] (AN aC):=⟨_,_,Gf yU aQ pI,⟨Wb,Ib,IU,V5⟩,(yU.E8 fun _ _ _ _ _ _ _ _=>rfl),aQ.at_⟩
 have cG:=Y.m Bs fun F=>Ai F aQ bE ck aS c8
 have iC:=Y.m tK fun F=>rz F aQ cG jf jP cN
 have iD:=Y.m tL fun F=>rA F aQ cG jf jP cL
 have qI:=Y.m Iw fun F=>Gg F aQ cL cN lG iC iD
 have kD:=Y.m z7 fun F=>xT F T aQ jN cG
 have ux:=Y.d KW fun F=>Jo F T aQ Kr qI kD
 have pJ:=Y.d KZ fun F=>Jq F iI
 have mq:=Y.d Bx fun F=>Ar F T pJ Ks
 have AU:=Y.d Rh fun F=>Pp F T pK ux mq
 have uv:=Y.d KS fun F=>Jl F T
 have uw:=Y.d KU fun F=>Jm F T jd
 have ki:=Y.d IK fun F=>Gv F T uw
 have jr:=Y.d vB fun F=>uK F
 have kF:=Y.d Ab fun F=>xX F T
 have sO:=Y.d O0 fun F=>LM F EY AU E2 EZ
 have kI:=Y.d Ae fun F=>ya F aS bO bL c8 fX cM
 have AW:=Y.d Rj fun F=>Pu F T AV kI ck bE
 have xy:=Y.d OV fun F=>LG F T jd
 have qN:=Y.d IG fun F=>Gq F T xy
 have qL:=Y.d IC fun F=>Gk F T ki qN
 have m9:=Y.d IJ fun F=>Gu F T uv qL
 have Qn:=Y.d acf fun F=>aaY F T jr kF sO AW
 have pF:=Y.d FH fun F=>DO F T
 have qK:=Y.d IB fun F=>Gj F T
 have pB:=Y.d FE fun F=>DM F T ia qK je
 exact aaZ W4 T ia qM pF pB jc pD Qn m9
theorem walk {l:Um} {K:Params→bZ} (hn:l.most=some 63) (hdf:d.params.defaults=[])
 (hY:∀(w:eG) (h:cJ),YP w h→(K w.params).In h)
 (F:∀(w:eG) (mg:Str→Option aL) (fa:av) (h:cJ),(K w.params).In h→h.Ns fH mg→mg d.name=some (.ref fa) →
   ∃fd:jF,(∀(s:bq) (u:aL),BindsTo s fd ⟨[u],[]⟩ [("_law_script",u)])∧∀base:cJ,(K w.params).In base→base.Ns fH mg→bf l.prog w (K w.params) mg base c7 12 fa fd ["_law_script"] (JG (K w.params))) :
 Zg q loose XP YP l.row.toRowW d [] (fun f vs=>UO f vs):=
 L2.WZ (n:=63) (k:=12) (x := "_law_script") (CX:=fun _=>c7) (sp:=fun w=>JG (K w.params)) hn 0#i hdf ⟨rfl,by decide,by decide⟩ hY F (fun _ _ a ns hl _ hS=>⟨a,ns,rfl,hS,hl,fun _=>rfl⟩) fun _ _ _ _ _ z=>z
end Lw
open PySem PySem.W PyProof.Rows
set_option maxRecDepth 100000 in
set_option maxHeartbeats 0 in
theorem PySem.Challenge.cw_lath_k73_whole_never_fewer_holds : PySem.Challenge.rw_lath_k73_whole_never_fewer.Holds := by
 w_on;o_law;k_head;(case hw=>w_witness2)
 k_fill
 refine Lw.walk (l:=PySem.Challenge.rw_lath_k73_whole_never_fewer) rfl rfl (fun w h Y=>PySem.W.kIn_of Y) ?F
 case F=>
  intro w mg fa h KX G hmg
  refine' Lw.all_mk KX G hmg .. <;> first | done | walk_at "fz" | skip
