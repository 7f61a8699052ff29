import PyProof.Rows.All
import Wide.FinOn
import KE.KFromBytes
import KE.KIntText
import KE.KItem
import KE.KListMore
import KE.KRevIter
import KE.LcSums
import KE.RegKIsAll
import KE.RegKTryMore
import PySem.Challenge.RW_lath_k71_sure
set_option Elab.async false
set_option linter.all false
set_option compiler.extract_closed false
set_option maxRecDepth 100000
noncomputable section
set_option hygiene false
local macro_rules
|`(0#a)=>`(⟨rfl,rfl,rfl,by decide +kernel,rfl,by decide +kernel,by decide +kernel⟩)
local macro_rules
|`(0#b)=>`((by simp?))
local macro_rules
|`(0#c)=>`((by try?))
local macro_rules
|`(0#d)=>`((by simp))
local macro_rules
|`(0#e)=>`((by decide +kernel))
local macro_rules
|`(0#f)=>`((by decide))
local macro_rules
|`(0#g)=>`((λ_ _=>rfl))
local macro_rules
|`(0#h)=>`((aa 0))
local macro_rules
|`(0#i)=>`((aA "steepest" .bK (aA "gentlest" (.ref ps) (aA "above" (.ref D) fs))))
local macro_rules
|`(0#j)=>`((aA "gentlest" .bK (aA "steepest" (.ref ps) (aA "below" (.ref D) fs))))
local macro_rules
|`(0#k)=>`((Or.inl rfl))
local macro_rules
|`(0#l)=>`((model X.prog X.w))
local macro_rules
|`(0#m)=>`((cZ X (O++N') scope (iO X.env.cells scope.names []) C s0 H0 ex' kF))
local macro_rules
|`(0#n)=>`((aa 1))
local macro_rules
|`(0#o)=>`((.tup xs))
local macro_rules
|`(0#p)=>`((.ListComp elt [⟨tg,iter,ifs,0⟩] scope pos))
local macro_rules
|`(0#q)=>`((aa 2))
local macro_rules
|`(0#r)=>`((aA "twice" (.ref tw) (aA "bound" (.ref pb) [])))
local macro_rules
|`(0#s)=>`((.lst (vals es)))
local macro_rules
|`(0#t)=>`((ao.refl _))
local macro_rules
|`(0#u)=>`(⟨⟨rfl,rfl,rfl,rfl⟩,trivial⟩)
local macro_rules
|`(0#w)=>`((λc=>?_))
local macro_rules
|`(0#x)=>`((x==("__debug__":Str)))
local macro_rules
|`(0#y)=>`(((c:Rat)/(b:Rat)))
local macro_rules
|`(0#z)=>`((hr.mono 0#f))
local macro_rules
|`(0#A)=>`((aa 3))
local macro_rules
|`(0#B)=>`((by grind))
local macro_rules
|`(0#C)=>`((ss++[(x,m,some q)]))
local macro_rules
|`(0#D)=>`((false,eval e X.env))
local macro_rules
|`(0#E)=>`((ns.map V.int))
local macro_rules
|`(0#F)=>`(⟨rfl,?_⟩)
local macro_rules
|`(0#G)=>`((cZ X (O++N') scope cl h3.objs.size { s2 with heap:=h3,toks:=s2.toks } (upd H2 D (.lst [])) fp (X.pn++pins)))
local macro_rules
|`(0#H)=>`((uP x qual (gZ st) (fT st) (cL st) .none kV doc pm an cdv ct))
local macro_rules
|`(0#I)=>`((aH K 0#h))
local macro_rules
|`(0#J)=>`((λc1=>?_))
local macro_rules
|`(0#K)=>`((aE _))
local macro_rules
|`(0#L)=>`((s.heap.objs.size+1))
local macro_rules
|`(0#M)=>`((apos.endLine==cpos.line))
local macro_rules
|`(0#N)=>`((s3.trans s4))
local macro_rules
|`(0#O)=>`((.ref l))
local macro_rules
|`(0#P)=>`((fS K 0#h))
local macro_rules
|`(0#Q)=>`((aH K 0#n))
local macro_rules
|`(0#R)=>`((model prog w))
local macro_rules
|`(0#S)=>`(((mo es k:Rat)-(mo es i:Rat)))
local macro_rules
|`(0#T)=>`(⟨_,rfl,?_⟩)
local macro_rules
|`(0#U)=>`(⟨rfl,rfl⟩)
local macro_rules
|`(0#V)=>`((.ins C dx fs))
local macro_rules
|`(0#W)=>`((s4.trans s5))
set_option hygiene true
open List renaming length_append→fh,getElem?_eq_getElem→jY,length_map→gI,getElem?_eq_some_iff→nH,mem_of_getElem?→mT,getElem?_map→kE,map_append→jD,mem_append→fK,take_length→jt,size_toArray→jZ,getElem?_append_left→vn,length_drop→mO,range→gD,getElem?_append_right→yR,length_take→oQ,mem_map→jB,append_nil→nv,replicate→lW,getElem?_drop→rQ,take_add_one→sC,Nodup→kD,mem_cons→pZ,flatten_cons→wZ,mem_cons_of_mem→B9,append_assoc→yS,mem_append_right→E2,mem_range→uN,filter_append→Ca,drop_append_of_le_length→Pk,getElem?_range→E3,length_pos_iff→E4,length_singleton→Kd,range_succ→AQ,mem_cons_self→Ge,map_take→yU,replicate_succ→Kf,take_append_drop→MG,mem_filter→E5,length_cons→Gg,flatten_append→Bl,filter_sublist→Bm,length→oK,take_sublist→yE,drop_sublist→yF,length_eq_zero_iff→G5,map_map→se,length_replicate→G6,filter_cons→Bp,sublist_append_left→Me,mem_append_left→G7,filter_cons_of_pos→Mg,take_of_length_le→Mh,getElem?_take→G9,take_succ→Bs,length_filter_le→Mm,eq_nil_or_concat→Mn,mem_of_mem_take→Mp,pairwise_map→Hg,length_range→Hh,map_cons→Bu,getElem_mem→Hj,filter_cons_of_neg→Q4,take_append_of_le_length→WG,drop_of_length_le→Q5,filter_eq_nil_iff→Q7,map_drop→ES,getElem?_eq_none→Q9,take_zero→Hq,sublist_append_right→WH,lookup→EV,getElem?_replicate→WI,pairwise_singleton→WJ,ext_getElem?→Ri,nodup_append→Rk,map_eq_append_iff→WK,flatten_singleton→WL,prefix_refl→Rm,mem_of_mem_drop→WM,pairwise_append→WN,nodup_cons→Rq,filterMap_cons→WO,take_succ_cons→WR,map_congr_left→WS,mem_singleton→WW,pairwise_iff_getElem→aax,all_cons→Rx,lookup_cons→W3,mem_flatMap→W4,getElem?_set_self→aaB,of_mem_zip→W6,nil_append→W7,filter_nil→Xb,filter_map→Xc,dropLast_sublist→aaM,mem_iff_getElem?→aaN,concat_eq_append→aaO,getElem?_set_ne→aaP,map→Ht,getElem?_of_mem→aaS,flatMap_append→aaV,filter_eq_self→aaW,mem_filterMap→aaZ,pairwise_cons→aa3,prefix_append→aa5,map_nil→Xj,reverse_cons→abd,all_eq_true→abm,map_reverse→abp,drop_length→abq,length_nil→abu,take_range→abv,take_left'→abw,foldl→Xw,drop_zero→abz,drop_drop→abG,any_cons→abK
open PySem.W renaming Frag→cj,findIn→lE,nsIn→jC,mg_none_of→sA,fnOf→uP,keepIn→yT,kia_one→E6,emptyDict→yD,codeIn→yL,instObj→Bq,plainGet→Hi,isFn→Bv,mg_of→ER,hasDictIn→Mr,plainOver→Rg,makesIn→Rp,plainGet_of→WQ,lookIn→Ru,kitOne→Rv,callWith_K→WU,methodObj→WZ,cellsFrom_some→aaD,takerIn→W5,OpenLaw→W8,methodCall_KW→aaK,kitx_list→aba,kitx_dict→abb,handedIn→abi,WalkO→abM
open PySem renaming Addr→aq,starEach→bG,Value→aJ,Shared→bC,mainGlobals→gC,wpAny_bind→ie,Stmt→aU,Expr→bA,wpAny→cD,Str→j0,attributeBase→uO,take_succ_filter→Kc,assignEach→oS,wpAny_pure→oU,compareOp→oV,backTo→iU,foldedSetIterable→yC,FuncData→jW,swapsWith→mS,Program→jA,wpAny_mono→qA,bootBuiltins→vG,keywordEach→uL,World→fN,wpAny_passesOwn→EM,wpAny_truthy_bool→Hf,Heap→cP,wpAny_holding→Bt,mem_of_lookup→Mq,binaryOp→pC,intBits_le_iff→Ho,Keyword→pD,backToKw→uM,wpAny_Call_Name_kw→Rf,sliceBounds→EW,Around→oO,call_meets→EX,wpAny_standAt→Mx,NameKind→yP,wpAny_execs_nil→Rn,PyData→qC,bindArgs→EY,standAt→Bx,wpAny_pyNext_list_item→aaC,codeAny→By,codeAny_mono→Rz,Scope→qD,wpAny_pyNext_list_end→aaJ,callerA→E1,Within→Xf,wpAny_assign_Name→aa6,wpAny_newObj_type→aa8,wpAny_pyIter_list→aa9,seqIndex_neg→Xk,slot_list_getitem→abc,wpAny_pyIter_enum→abe,wpAny_execs_cons→abh,PassesOwn→RE,noFill_tuple_add→abk,wpAny_pyIter_zip→abn,seqIndex_of→Xo,wpAny_Name→Xu,wpAny_bindName→abx,bindL→BA,bindC→BB,typeIs_int→Xv,call→Xx,numAt_eq→RH,getD_mem→abA,mem_getD→abB,boot_len→abC,intBits_le_64→abH,seq_tuple_add→abI,evalPart_none→abJ,call_list_seq→abL,nums_intItems→abO
open Nat renaming le_refl→dS,le_trans→dR,lt_of_lt_of_le→rP,ne_of_lt→mP,le_of_lt→nA,zero_le→lX,lt_of_le_of_lt→Gf,not_lt_zero→Cc,le_add_right→yH,succ_le_succ→yI,le_succ_of_le→Bo,lt_trichotomy→EL,min_eq_left→Br,add_sub_cancel→G8,add_sub_cancel_left→Q3,le_succ→yM,lt_irrefl→EO,lt_trans→EU,add_comm→Hr,lt_or_ge→Mz,succ_pos→MA,sub_self→RA,add_zero→RB,two_pow_pos→W9,pow_le_pow_right→aaQ,gcd_zero_right→aa1,eq_zero_or_pos→aa2,ne_of_gt→Xg,gcd_dvd_right→abf,lt_succ_self→abj,min_eq_right→abo,add_mul→Xr,one_mul→Xs,gcd→ME,mul_le_mul→abD,le_of_dvd→abP,add_assoc→abS,le_of_eq→abU,mul_comm→abV,gcd_comm→abW,le_total→abZ,zero_add→ab0,mod_lt→acg
open Bool renaming false_ne_true→fQ,eq_false_iff→jr,and_eq_true→yG,eq_iff_iff→Ro,false_eq_true→aa0
open PySem.PassesOwn renaming never→gR
open PySem.Heap renaming get?_push_of_some→pX,lt_size→gT,get?_push_size→Gd,SameBut→ET,get?_update_other→aaG,size_push→aby,ExtBut→ab9
open Rat renaming mul_le_mul_of_nonneg_right→AM,intCast_lt_intCast→sy,intCast_mul→sD,intCast_sub→sF,not_lt→kB,mul_lt_mul_of_pos_right→J8,mul_lt_mul_right→Ke,le_antisymm→vF,not_le→oN,le_refl→qz,le_trans→vH,intCast_le_intCast→Mi,le_of_mul_le_mul_right→QY,intCast_inj→Mu,mul_eq_zero→Mv,mul_nonneg→Mw,intCast_neg→Rr,intCast_pos→Rt,le_of_lt→MB,lt_of_mul_lt_mul_right→aaw,lt_irrefl→Xe,intCast_add→abt,div_lt_iff→abE,lt_div_iff→abF,zero_mul→ab1,mul_comm→ab2,mul_pos→ab8
open Int renaming gcd→cN,fdiv_eq_ediv_of_nonneg→B8,mul_nonneg→qF,mul_le_mul_of_nonneg_right→MF,emod_lt_of_pos→AO,gcd_pos_of_ne_zero_right→Tq,emod_nonneg→Cb,mul_comm→qy,mul_ediv_add_emod→Mj,dvd_mul_of_dvd_right→Q2,mul_le_mul→EN,mul_pos→yN,not_lt→vI,gcd_dvd_right→Ms,gcd_dvd_left→Mt,natCast_nonneg→Rc,natAbs_add_le→Rh,ediv_le_self→Rl,natAbs_neg→Rw,natAbs_natCast→WV,lt_of_lt_of_le→WY,toNat_natCast→W0,mul_neg→MC,mul_fdiv_cancel_left→aaz,ediv_le_ediv→W2,le_ediv_iff_mul_le→aaI,fdiv_nonneg→Xa,natAbs_dvd_natAbs→aaL,natAbs_mul→Xd,neg_mul→RD,natAbs_of_nonneg→aaR,ediv_mul_cancel→aaT,toNat_of_nonneg→aaU,gcd_comm→Xl,le_of_lt→Xm,toNat→RG,neg_neg→Xp,pow_pos→Xq,ediv_nonneg→abr,add_assoc→abQ,lt_or_le→abX,le_trans→abY,add_zero→ab3,dvd_gcd→ab5,dvd_add→ab6,pow_add→ab7,le_refl→acd,natAbs→ach
open PySem.Builtin.Int renaming intBits→vo
open Option.some renaming inj→qE
open PyProof.Rows renaming boot_abs→AN,callWith_type1→Mc,boot_max→Ml,boot_list→Q6,boot_min→Q8,assignInOrder_cons→WT,AllBare→yQ,envOfC→vJ,subscriptTail_builtinR→aaF,IntsAre→EZ,assignInOrder_nil→aa7,callWith_builtin1→agm,boot_isinstance→agn,boot_sorted→agK,boot_tuple→agM,boot_int→agN
open Classical renaming byContradiction→J9
open Option renaming map_eq_some_iff→Ka,isSome_iff_exists→QZ,toList_some→aa4,getD_none→abl
open Ne renaming symm→j4
open PySem.PyData renaming eqv→oM,depthAll→yJ,canLayAll0→Rj,eqvAll→Ry,depth→Xn
open PySem.Str renaming ofString→sq,empty→Xz
open PySem.F renaming plainAttrs_list→Mf,args_tuple_add_2→aay,entry_tuple_add→aaA,slot_tuple_add→aaE
open False renaming elim→qB
open PySem.Builtin.List renaming listTooLong→Q0
open PySem.SeqAt renaming shaped→Bw,EqAt→ace
open Array renaming length_toList→Rb,toList→abT
open PySem.Calls renaming Name_function_global→aav,callWith_builtin→aaH
open PySem.Obj renaming mapSeq→MD
open PySem.SeqAt.EqAt renaming int_str→aaX,str_int→aaY,none_bool→agO,bool_none→agP,bool_bool→agQ,none_int→agT,none_str→agU,bool_int→agV,bool_str→agW,int_none→agX,int_bool→agY,str_none→agZ,str_bool→ag0,int_int→ag4,str_str→ag5,same→ag8
open PySem.Around renaming under→Xh
open PySem.Code renaming isFrame→Xi,frames→ab4
open List.Sublist renaming refl→abg,append→ag1
open PySem.EqNone renaming eq_none_none→ago,eq_none_bool→agp,eq_bool_none→agq,ne_none_none→agt,ne_none_bool→agu,ne_bool_none→agv,eq_none_int→agy,eq_none_str→agz,eq_int_none→agA,eq_str_none→agC,ne_none_int→agE,ne_none_str→agF,ne_int_none→agG,ne_str_none→agI
open PySem.EqMixed renaming eq_bool_str→agr,eq_str_bool→ags,ne_bool_str→agw,ne_str_bool→agx,eq_int_str→agB,eq_str_int→agD,ne_int_str→agH,ne_str_int→agJ
open Int.ofNat renaming inj→abN
open List.cons renaming inj→abR
open PyProof.Rows.IsTup renaming new→Xy
open PySem.Builtin.Range renaming rangeSize→agL
open PySem.MeetsSeq.EqGives renaming int→agR
open List.Pairwise renaming filter→agS
open PySem.W.Looks renaming here→ag2
open PySem.Heap.IsSliceOf renaming new→ag3
open PySem.W.WShape renaming has→acf
open PySem.Within renaming cons→ag6
open PySem.Heap.SameBut renaming refl→ag7
open Prod renaming fst→aci
abbrev dM:=@of_decide_eq_true
abbrev jO:=@of_decide_eq_false
abbrev je:=@decide_eq_true
abbrev pY:=@decide_eq_false
abbrev yK:=@and_congr_right
abbrev Hl:=@decide_eq_decide
abbrev yO:=@beq_iff_eq
abbrev Ra:=@beq_eq_false_iff_ne
abbrev Hs:=@exists_congr
abbrev WX:=@decide_eq_true_iff
local macro_rules | `(tactic| simp?) => `(tactic| first | lia | omega)
local macro_rules | `(tactic| apply $e) => `(tactic| (refine $e; rw?))
set_option bootstrap.genMatcherCode false
abbrev bI:j0:="_law_script"
abbrev cH:j0:="_law_place"
abbrev gn:j0:="_law_cell_here"
abbrev eY:j0:="_law_k"
abbrev eG:j0:="_law_one"
abbrev cE:j0:="_law_some"
abbrev dD:j0:="_law_bottom"
abbrev aQ:j0:="one"
abbrev aG:j0:="other"
abbrev dN:j0:="found"
abbrev gr:j0:="steep"
abbrev bw:j0:="sample"
abbrev dU:j0:="moment"
abbrev cQ:j0:="line"
abbrev cY:j0:="last"
abbrev b9:j0:="row"
abbrev aV:j0:="_law_moment_here"
abbrev aM:j0:="_law_row_here"
abbrev ig:j0:="_law_held"
abbrev aZ:j0:="samples"
abbrev cV:j0:="first"
abbrev ir:j0:="quotients"
abbrev aO:j0:="bound"
abbrev iV:j0:="gentlest"
abbrev iW:j0:="steepest"
abbrev cz:j0:="self"
abbrev iu:j0:="stretch"
abbrev cA:j0:="_law_run"
abbrev aW:j0:="_law_bound"
abbrev fF:j0:="_law_way"
namespace PySem.W.Fast
def tw4227630314965611137:=Nat
def tw4335864752645574688:=Nat
def tw13527932475105950752:=Nat
def tw2512422472079912032:=Nat
def tw15383573082403276032:=Nat
def tw2157546078196266240:=Nat
def tw7398948086787904832:=Nat
def tw6450818401140858240:=Nat
def tw1181791564193319296:=Nat
def tw7950782596027735424:=Nat
def tw1760982206578017696:=Nat
def tw5716805552231120352:=Nat
def tw15246350149726773760:=Nat
def tw867525648500819648:=Nat
def tw14306695286937625280:=Nat
def tw5446740598309625568:=Nat
def tw16754332172060182304:=Nat
def tw15557771720633656160:=Nat
def tw8876371362841532256:=Nat
def tw16358078582609094528:=Nat
def tw9649594992050555808:=Nat
def tw13484509305719712736:=Nat
def tw10000982872203410433:=Nat
def tw4841917216113837089:=Nat
def tw5884491864702901281:=Nat
def tw5473744590039724161:=Nat
def tw16159256310521301153:=Nat
def tw5496882824623394977:=Nat
def tw6708973861613699265:=Nat
def tw53985402401896801:=Nat
def tw12862906432439213409:=Nat
def tw13085346937712568673:=Nat
def tw7951526025604055425:=Nat
def tw18312823157384262081:=Nat
def tw1413239685125770721:=Nat
def tw16517993426462493313:=Nat
def tw935616280726165217:=Nat
def tw3030744157345021665:=Nat
def tw5055594934481259265:=Nat
def tw7667015012551416801:=Nat
def tw2314450383116571650:=Nat
def tw11130280668356820034:=Nat
def tw17956653803067164866:=Nat
def tw13517934168318747874:=Nat
def tw12330545860942976226:=Nat
def tw9092821594782400770:=Nat
def tw18392913391214250306:=Nat
def tw8525777748425865538:=Nat
def tw13253731511839243618:=Nat
def tw9760327965132786178:=Nat
def tw1109183032524734018:=Nat
def tw17908307236673422946:=Nat
def tw5881575802039750274:=Nat
def tw10189882192571788034:=Nat
def tw5422665163037216546:=Nat
def tw3085297055956255522:=Nat
def tw15523837660086271171:=Nat
def tw2025999734514848163:=Nat
def tw2000421579253490243:=Nat
def tw6396283616329312867:=Nat
def tw4369843966651832067:=Nat
def tw17411030064901760771:=Nat
def tw2245335072997980963:=Nat
def tw10496018819196767011:=Nat
def tw13318905125153589059:=Nat
def tw2569079270589487939:=Nat
def tw4787906853269996451:=Nat
def tw2934170805270078403:=Nat
def tw18402138584498549731:=Nat
def tw540845279191717859:=Nat
def tw3330165233996681220:=Nat
def tw17520493189393709092:=Nat
def tw12873888758541952068:=Nat
def tw17374968308150091908:=Nat
def tw7156932884937694436:=Nat
def tw9605602248252219684:=Nat
def tw6528708826536872420:=Nat
def tw16242166507107328484:=Nat
def tw18091533652329838212:=Nat
def tw10712104409166331524:=Nat
def tw15177084422852974244:=Nat
def tw9059141390667926180:=Nat
def tw14931569678600898308:=Nat
def tw322691200315735876:=Nat
def tw16100564045923382116:=Nat
def tw1047551295319267204:=Nat
def tw8932774242211294116:=Nat
def tw8673569689846842373:=Nat
def tw15285196668813510757:=Nat
def tw15064542345142786341:=Nat
def tw2985423632355908069:=Nat
def tw4228607372927738373:=Nat
def tw4793711174113404421:=Nat
def tw8369261195535268389:=Nat
def tw12709643553385839205:=Nat
def tw12446696181313745509:=Nat
def tw13135094534029907653:=Nat
def tw818158302865433445:=Nat
def tw17385035000607069061:=Nat
def tw1057392175485220741:=Nat
def tw10411377019882132614:=Nat
def tw4792210523026367654:=Nat
def tw13874346875528776934:=Nat
def tw1597845472270393734:=Nat
def tw13266108230611250598:=Nat
def tw13217271593080961446:=Nat
def tw15046216543650872742:=Nat
def tw18155789336785229286:=Nat
def tw7324002696392992230:=Nat
def tw17024484099607084550:=Nat
def tw3974353293570875174:=Nat
def tw10791925013486237735:=Nat
def tw4967670159685425223:=Nat
def tw16985450391148671047:=Nat
def tw1755465112571039047:=Nat
def tw13520039478461084007:=Nat
def tw1848531283581101511:=Nat
def tw4564595822351957511:=Nat
def tw14761009929123397223:=Nat
def tw14456080619375328903:=Nat
def tw743255498534093575:=Nat
def tw12511356539772544807:=Nat
def tw12905671975534293959:=Nat
def tw17239426545221789671:=Nat
def tw6375508468033058791:=Nat
def tw17838816233682500712:=Nat
def tw9179155148786222216:=Nat
def tw13675214571998593224:=Nat
def tw15841163052194584808:=Nat
def tw5320720620623759656:=Nat
def tw4101808500111535592:=Nat
def tw9331965525670005448:=Nat
def tw6000953280970951432:=Nat
def tw12219021504330047304:=Nat
def tw16264474960096806921:=Nat
def tw18207053566999796777:=Nat
def tw1995201524061668585:=Nat
def tw5911292055098036457:=Nat
def tw4241991246612853001:=Nat
def tw6624996504906822025:=Nat
def tw9210761863742143913:=Nat
def tw10352913636310501801:=Nat
def tw12187974606554131881:=Nat
def tw17641898505108454857:=Nat
def tw13390338707402066473:=Nat
def tw9604540021366364745:=Nat
def tw12433184826998918761:=Nat
def tw4945264636366493289:=Nat
def tw11708134841992721097:=Nat
def tw1110169950587344585:=Nat
def tw16558419653844303593:=Nat
def tw5888226001634373385:=Nat
def tw10613150184811821833:=Nat
def tw13785440642691442473:=Nat
def tw5505118622366684969:=Nat
def tw15707962603549545289:=Nat
def tw6216605892370339753:=Nat
def tw6225786847716767657:=Nat
def tw3050470145139013577:=Nat
def tw15225719881326886922:=Nat
def tw1463132777618476042:=Nat
def tw6884565215387900938:=Nat
def tw7729932385293590634:=Nat
def tw7769719886296917450:=Nat
def tw14756093773907076586:=Nat
def tw10154538262718297578:=Nat
def tw3036795414051398250:=Nat
def tw10566077839703064234:=Nat
def tw12906524104319435466:=Nat
def tw7508425255054332650:=Nat
def tw15313740879613963114:=Nat
def tw16693396372404248587:=Nat
def tw17520033479506510955:=Nat
def tw9317391854302338187:=Nat
def tw6994940266946514059:=Nat
def tw4390281281778461867:=Nat
def tw1812158679669591339:=Nat
def tw4005648052581952843:=Nat
def tw18349308338569246027:=Nat
def tw6129771026713553355:=Nat
def tw9541236215932388875:=Nat
def tw2198107680916586059:=Nat
def tw7564625576110370411:=Nat
def tw18277982297847001707:=Nat
def tw12627492303469510283:=Nat
def tw11244727475124883403:=Nat
def tw9985184773328114667:=Nat
def tw1709412439128089676:=Nat
def tw8628212546874887308:=Nat
def tw5725499232468364524:=Nat
def tw14778607731050548588:=Nat
def tw14635755121385784748:=Nat
def tw11566547445051444716:=Nat
def tw11856881580890976780:=Nat
def tw14914447181836082732:=Nat
def tw10576008473779351116:=Nat
def tw6746635188783878988:=Nat
def tw2700828358388748140:=Nat
def tw1306566322618341228:=Nat
def tw4154223650155304940:=Nat
def tw15979898068812033004:=Nat
def tw8157149370259476493:=Nat
def tw9986008423431396493:=Nat
def tw16830692784344997005:=Nat
def tw7757836564229560589:=Nat
def tw16712598175748006317:=Nat
def tw3234904481740618189:=Nat
def tw10877563944704639469:=Nat
def tw6278420793822300685:=Nat
def tw12281101764931193389:=Nat
def tw14421896586301427277:=Nat
def tw6073711030146560653:=Nat
def tw3365099310277554957:=Nat
def tw4028713758249259853:=Nat
def tw15796141879813452653:=Nat
def tw17363243100102703021:=Nat
def tw6541200094772811790:=Nat
def tw16451803382721134702:=Nat
def tw7901247288267615406:=Nat
def tw15494091029239970990:=Nat
def tw15296127760670344398:=Nat
def tw18062485510364579214:=Nat
def tw13055595843756028366:=Nat
def tw7094225700295458286:=Nat
def tw14885496903042089486:=Nat
def tw815841464779482702:=Nat
def tw9327478032343973582:=Nat
def tw3957141159202743022:=Nat
def tw16774208248144279310:=Nat
def tw11279926211281027950:=Nat
def tw11889862293484893038:=Nat
def tw4615832019905801102:=Nat
def tw7159704441884577935:=Nat
def tw9108484779915063471:=Nat
def tw9630772482285467855:=Nat
def tw410591836151125231:=Nat
def tw16989977882823572719:=Nat
def tw11868616495442059631:=Nat
def tw5072553319293111727:=Nat
def tw9595679810987590383:=Nat
def tw18074253576906293071:=Nat
def tw8037551728648290287:=Nat
def tw2812057786614946832:=Nat
def tw8984898877384669200:=Nat
def tw4860424657987180688:=Nat
def tw1909004753799311600:=Nat
def tw4547792764137746704:=Nat
def tw8954563548293356848:=Nat
def tw10628037101116109136:=Nat
def tw4416051358266456400:=Nat
def tw18229200247546430832:=Nat
def tw5743628458749576624:=Nat
def tw1979444318161599952:=Nat
def tw9602445022953679440:=Nat
def tw11211955803008994928:=Nat
def tw10444589987636785808:=Nat
def tw418583236358567632:=Nat
def tw14371973364422776688:=Nat
def tw15976502678878980016:=Nat
def tw11738480870945962928:=Nat
def tw17200331421957867504:=Nat
def tw17505713851257670640:=Nat
def tw6955765563704530928:=Nat
def tw282866448376740913:=Nat
def tw17798695161020426321:=Nat
def tw10578861349118779537:=Nat
def tw11610988475409966257:=Nat
def tw8287665262544789713:=Nat
def tw11422603964790002897:=Nat
def tw15951930474033132785:=Nat
def tw15508906537740542353:=Nat
def tw13471856438361707921:=Nat
def tw1329643089666045457:=Nat
def tw11839736707779142193:=Nat
def tw14148343436237993681:=Nat
def tw4507778486828455697:=Nat
def tw1583950754216637265:=Nat
def tw4838994386799792402:=Nat
def tw5998053533949439250:=Nat
def tw14603828883119295794:=Nat
def tw11928701440540438866:=Nat
def tw14442769081117016466:=Nat
def tw13977441616540075410:=Nat
def tw10655371436533193138:=Nat
def tw8697125808863130034:=Nat
def tw18289036085597027890:=Nat
def tw8706318317678179986:=Nat
def tw11859261736515678034:=Nat
def tw7126507037741922130:=Nat
def tw2748760654909597522:=Nat
def tw15962794518506508178:=Nat
def tw17105491516555808658:=Nat
def tw10358941248846608306:=Nat
def tw6796678730665077779:=Nat
def tw4716906289433027635:=Nat
def tw14385815188179546227:=Nat
def tw1356481138271410387:=Nat
def tw810471293918137619:=Nat
def tw14074975141994241427:=Nat
def tw9034345216222239283:=Nat
def tw14349585945287501427:=Nat
def tw1948939098381239059:=Nat
def tw10072595670900860691:=Nat
def tw3083328386046126931:=Nat
def tw7101998784145812307:=Nat
def tw8205199832526782291:=Nat
def tw14596611579891856243:=Nat
def tw7160125775798630259:=Nat
def tw13624889612018964467:=Nat
def tw16840221665108989972:=Nat
def tw14027380645765743668:=Nat
def tw13363357403073296532:=Nat
def tw18260620876412323124:=Nat
def tw7716763199460258260:=Nat
def tw4563714206991688180:=Nat
def tw15535965330102808052:=Nat
def tw8622355488967886388:=Nat
def tw10118614622345754164:=Nat
def tw2116742420655260244:=Nat
def tw11407488194407784020:=Nat
def tw4081550851107257972:=Nat
def tw10196829780633190036:=Nat
def tw1235289082429398708:=Nat
def tw13876888813164092212:=Nat
def tw6598487219609435956:=Nat
def tw13820203049466948436:=Nat
def tw14668785152294840180:=Nat
def tw2854358543419744212:=Nat
def tw16288699486089290708:=Nat
def tw17754645955346634740:=Nat
def tw12992012945979346965:=Nat
def tw10768763685451405461:=Nat
def tw12436409526933565621:=Nat
def tw9907770584447535285:=Nat
def tw7361330800222371061:=Nat
def tw12369420377895792949:=Nat
def tw11922376321688858965:=Nat
def tw1530389158368676245:=Nat
def tw4479316127350119893:=Nat
def tw12675636532420393493:=Nat
def tw15895310737331970677:=Nat
def tw11045615635916426901:=Nat
def tw1279124188363558549:=Nat
def tw15904845461972239061:=Nat
def tw6776629471715837653:=Nat
def tw1677307511705971445:=Nat
def tw7649341034048372469:=Nat
def tw2061610759907759861:=Nat
def tw6707216584348205845:=Nat
def tw4592720555728916245:=Nat
def tw10095360091992445717:=Nat
def tw72840326376375093:=Nat
def tw5714801484640853813:=Nat
def tw3847299747052297045:=Nat
def tw12610158779294192533:=Nat
def tw6205514380063785973:=Nat
def tw13945628266316553366:=Nat
def tw11232385062072466774:=Nat
def tw11855504562514053462:=Nat
def tw10313401123743990262:=Nat
def tw10871668815172273814:=Nat
def tw16693564395781256886:=Nat
def tw14252989194199403190:=Nat
def tw7660406521883680470:=Nat
def tw6111272587135015670:=Nat
def tw15488436527732481910:=Nat
def tw3561556704922776599:=Nat
def tw6707166675269943447:=Nat
def tw6123566004400273559:=Nat
def tw11479248006825937143:=Nat
def tw1487826867697673495:=Nat
def tw15908398656546824503:=Nat
def tw14725129285151838583:=Nat
def tw1906083657851457911:=Nat
def tw7261291323489813975:=Nat
def tw5245570658563429879:=Nat
def tw5999580802378734071:=Nat
def tw13100689163387500055:=Nat
def tw12387968137955285559:=Nat
def tw18174477822441070167:=Nat
def tw14000698217874027095:=Nat
def tw7015063186875981431:=Nat
def tw15751095362902169239:=Nat
def tw13466233516661222039:=Nat
def tw6148339516947356407:=Nat
def tw12969937318621180759:=Nat
def tw15518775312062019415:=Nat
def tw17665651149534346296:=Nat
def tw12979491769668886680:=Nat
def tw11259577588451018936:=Nat
def tw3829919291351101688:=Nat
def tw1499003881186689368:=Nat
def tw4090947401243894584:=Nat
def tw14688967655739447128:=Nat
def tw1042349083850280856:=Nat
def tw12007084980425877945:=Nat
def tw13103199888120719833:=Nat
def tw2923456847583650361:=Nat
def tw4290898083635412537:=Nat
def tw17278220236878840409:=Nat
def tw18214410896753022585:=Nat
def tw14866911022802206393:=Nat
def tw14516301283292611449:=Nat
def tw10081491538626748506:=Nat
def tw4216896946296527994:=Nat
def tw7510104035770120314:=Nat
def tw6444612503939525786:=Nat
def tw2480497863482916026:=Nat
def tw17015311408697698522:=Nat
def tw6100404381885698298:=Nat
def tw7476269579341154586:=Nat
def tw11262380018282915098:=Nat
def tw3920689517726462298:=Nat
def tw6525218249180742138:=Nat
def tw9132028592611266074:=Nat
def tw10409616232196997690:=Nat
def tw7925971969100256826:=Nat
def tw998843663036244762:=Nat
def tw3218099274360575802:=Nat
def tw18025420732844806138:=Nat
def tw310562765506062330:=Nat
def tw18308885629325345883:=Nat
def tw9109443660966513787:=Nat
def tw14936398343892123:=Nat
def tw9191535869003848891:=Nat
def tw16403757743421471035:=Nat
def tw11978684893468522907:=Nat
def tw1536418547987277307:=Nat
def tw10598336774984820251:=Nat
def tw18107409560390868571:=Nat
def tw3535937500622412379:=Nat
def tw1557912994337097339:=Nat
def tw8559200613695593083:=Nat
def tw2681373029762003611:=Nat
def tw9497934924272627387:=Nat
def tw3745845763233533755:=Nat
def tw12455424970056234811:=Nat
def tw469938549861119803:=Nat
def tw14309926673289760892:=Nat
def tw5524388578181757180:=Nat
def tw4136201351243245852:=Nat
def tw6904658828495320348:=Nat
def tw17068390679250200892:=Nat
def tw12032689419824671100:=Nat
def tw16723877642737389052:=Nat
def tw3871187375094303292:=Nat
def tw4375297078742891164:=Nat
def tw12992418479152087708:=Nat
def tw14645636602168985276:=Nat
def tw12949026000226894620:=Nat
def tw6465140477780997948:=Nat
def tw6420332345718656892:=Nat
def tw4877437403242007452:=Nat
def tw149292878671267772:=Nat
def tw11107270615308732380:=Nat
def tw3362983979402740732:=Nat
def tw12432023504130025468:=Nat
def tw6355086568467879965:=Nat
def tw1880548731301858333:=Nat
def tw12370402796447088669:=Nat
def tw4439057367796452445:=Nat
def tw9449265531290867805:=Nat
def tw6976419198541923453:=Nat
def tw16496318783257414877:=Nat
def tw13319885009938984221:=Nat
def tw9009127464293572925:=Nat
def tw18147079212230486589:=Nat
def tw10467179614999023165:=Nat
def tw17069658987826540157:=Nat
def tw3419186150180605661:=Nat
def tw13671975350434766621:=Nat
def tw9791284419444265789:=Nat
def tw18296788453280242493:=Nat
def tw11972088373477246813:=Nat
def tw12201055897019072381:=Nat
def tw9944638884240138237:=Nat
def tw8725826267018507294:=Nat
def tw4921330956514725182:=Nat
def tw9488083427664761182:=Nat
def tw7634360255048813950:=Nat
def tw3250084006542922206:=Nat
def tw14144295272485550686:=Nat
def tw9934498305705403006:=Nat
def tw1922048732558226142:=Nat
def tw11078251882289536766:=Nat
def tw1991768180417381118:=Nat
def tw13626225627239584638:=Nat
def tw17651278770864016575:=Nat
def tw18270307877745816799:=Nat
def tw4710888685223174687:=Nat
def tw2016159702043076191:=Nat
def tw3238337551168084575:=Nat
def tw10266771015940896351:=Nat
def tw11552442170673363615:=Nat
def tw6451566233616573215:=Nat
def tw1180657681974072127:=Nat
def tw10644539978334436159:=Nat
def tw9305735881786650623:=Nat
end PySem.W.Fast
namespace L2
open PySem PySem.Spec PyProof.Rows
abbrev Key:=Sum Int Str
def aaf:Key→aJ→Bool
 | .inl k,v=>Value.isInt k v
 | .inr x,v=>Value.isStrOf x v
def ahQ (w:fN):Key→Int
 | .inl k=>hashInt k
 | .inr x=>hashStr w x
theorem fV:∀{k:Key} {v:aJ},aaf k v=true→(∃i t,k=Sum.inl i∧v=Value.int i t)∨(∃x t,k=Sum.inr x∧v=Value.str x t)
 | .inl i,v,h=>by
   obtain ⟨t,e⟩:=Value.isInt_shape (k:=i) (v:=v) h
   exact .inl ⟨i,t,rfl,e⟩
 | .inr x,v,h=>by
   obtain ⟨t,e⟩:=Value.isStrOf_shape (x:=x) (v:=v) h
   exact .inr ⟨x,t,rfl,e⟩
theorem adi (a b:Int):decide ((Sum.inl a:Key)=Sum.inl b)=(a==b):=by
 by_cases e:a=b
 ·subst e;simp
 ·have h:¬(Sum.inl a:Key)=Sum.inl b:=λq=>e (Sum.inl.inj q)
  rw [pY h]
  exact (Ra.mpr e).symm
theorem adl (a b:Str):decide ((Sum.inr a:Key)=Sum.inr b)=decide (a=b):=by
 by_cases e:a=b
 ·subst e;simp
 ·have h:¬(Sum.inr a:Key)=Sum.inr b:=λq=>e (Sum.inr.inj q)
  rw [pY h,pY e]
theorem adj (a:Int) (b:Str):decide ((Sum.inl a:Key)=Sum.inr b)=false:=pY (λq=>nomatch q)
theorem adk (a:Str) (b:Int):decide ((Sum.inr a:Key)=Sum.inl b)=false:=pY (λq=>nomatch q)
def Qw (prog:jA) (w:fN):PySem.KeyKind prog w Key where
 is:=aaf
 hash:=ahQ w
 inj:=λv a b ha hb=>by
  rcases fV ha with ⟨i,t,rfl,rfl⟩ | ⟨x,t,rfl,rfl⟩
  ·rcases fV hb with ⟨j,u,rfl,e⟩ | ⟨y,u,rfl,e⟩
   ·injection e with e1 _;rw [e1]
   ·exact nomatch e
  ·rcases fV hb with ⟨j,u,rfl,e⟩ | ⟨y,u,rfl,e⟩
   ·exact nomatch e
   ·injection e with e1 _;rw [e1]
 byValue:=λk v h=>by
  rcases fV h with ⟨i,t,rfl,rfl⟩ | ⟨x,t,rfl,rfl⟩ <;> rfl
 pyHash:=λhv h=>by
  rcases fV hv with ⟨i,t,rfl,rfl⟩ | ⟨x,t,rfl,rfl⟩
  ·exact wpAny_pyHash_int h
  ·exact wpAny_pyHash_str h
 eqBool:=λhu hv h=>by
  rcases fV hu with ⟨i,t,rfl,rfl⟩ | ⟨x,t,rfl,rfl⟩
  ·rcases fV hv with ⟨j,u,rfl,rfl⟩ | ⟨y,u,rfl,rfl⟩
   ·rw [adi] at h;exact wpAny_eqBool_int h
   ·rw [adj] at h;exact aaX i t y u _ _ _ _ h
  ·rcases fV hv with ⟨j,u,rfl,rfl⟩ | ⟨y,u,rfl,rfl⟩
   ·rw [adk] at h;exact aaY x t j u _ _ _ _ h
   ·rw [adl] at h;exact wpAny_eqBool_str h
 «strs»:=λk x t v h=>by
  rcases fV h with ⟨i,u,rfl,e⟩ | ⟨y,u,rfl,e⟩
  ·exact nomatch e
  ·injection e with e1 _
   subst e1
   cases v <;> rfl
inductive V where
 | bK | bl (b:Bool) | int (i:Int) | str (x:Str) | Tt (b:Array UInt8) | flt (b:UInt64) | ref (a:aq) | ty (n:String)
 deriving DecidableEq
def RelV:V→aJ→Prop
 | .bK,u=>u=Value.none
 | .bl b,u=>u=Value.bool b
 | .int i,u=>∃t,u=Value.int i t
 | .str x,u=>∃t,u=Value.str x t
 | .Tt b,u=>∃t,u=Value.bytes b t
 | .flt b,u=>∃t,u=Value.float b t
 | .ref a,u=>u=Value.ref a
 | .ty n,u=>u=Value.type n
abbrev Vals:List V→List aJ→Prop:=Paired RelV
theorem Vals.length (r:Vals xs us):xs.length=us.length:=Paired.length r
theorem Vals.get:∀{xs:List V} {us:List aJ} {i:Nat} {x:V},Vals xs us→xs[i]?=some x→∃u,us[i]?=some u∧RelV x u
 | _,_,_,_,.nil,e=>by simp at e
 | _,_,0,_,.cons r _,e=>by simp at e;subst e;exact ⟨_,rfl,r⟩
 | _,_,i+1,x,.cons _ t,e=>by
   obtain ⟨u,h1,h2⟩:=Vals.get (i:=i) (x:=x) t (by simpa using e)
   exact ⟨u,by simpa using h1,h2⟩
theorem Vals.set (r:RelV x u):∀{xs:List V} {us:List aJ} (i:Nat),Vals xs us→Vals (xs.set i x) (us.set i u)
 | _,_,_,.nil=>.nil
 | _,_,0,.cons _ t=>.cons r t
 | _,_,i+1,.cons q t=>.cons q (Vals.set r i t)
theorem Vals.append:∀{xs ys:List V} {us ws:List aJ},Vals xs us→Vals ys ws→Vals (xs++ys) (us++ws)
 | _,_,_,_,.nil,s=>s
 | _,_,_,_,.cons r t,s=>.cons r (Vals.append t s)
theorem Vals.take:∀{xs:List V} {us:List aJ} (n:Nat),Vals xs us→Vals (xs.take n) (us.take n)
 | _,_,0,_=>.nil
 | _,_,_+1,.nil=>.nil
 | _,_,n+1,.cons r t=>.cons r (Vals.take n t)
theorem Vals.drop:∀{xs:List V} {us:List aJ} (n:Nat),Vals xs us→Vals (xs.drop n) (us.drop n)
 | _,_,0,r=>r
 | _,_,_+1,.nil=>.nil
 | _,_,n+1,.cons _ t=>Vals.drop n t
def Fc:Option V→Option aJ→Prop
 | some v,some u=>RelV v u
 | none,none=>True
 | _,_=>False
def KV {κ:Type}:List (κ×V)→List (κ×aJ)→Prop:=Paired λ(p:κ×V) (q:κ×aJ)=>p.1=q.1∧RelV p.2 q.2
def kV:Key→V
 | .inl i=>.int i
 | .inr x=>.str x
inductive HO where
 /-- a list -/
 | lst (xs:List V)
 /-- a tuple (never changes) -/
 | tup (xs:List V)
 /-- a dict whose keys are ints and texts;one whose keys are tuples of ints and texts (the empty one is both) -/
 | dK (kvs:List (Key×V)) | dT (kvs:List (List Key×V))
 /-- a set of ints: its members,its size -/
 | set (S:Int→Bool) (n:Nat)
 /-- an instance of the class at C,its dict at dx,its attributes -/
 | ins (C dx:aq) (fs:List (Str×V))
 /-- the dict of the instance at x -/
 | own (x:aq)
 /-- the dict of an exception -/
 | xd (fs:List (Str×V))
 /-- a bound method,f of x -/
 | met (f x:aq)
 /-- a range object lo,lo+1,.. below hi -/
 | rng (lo hi:Int)
 /-- a thing that is known to the object (the script;a dict while a loop walks it): read,never written while it is so -/
 | P7 (o:Obj) (u:HO)
 /-- a code object's table -/
 | tbl (ps:Array aJ)
 /-- any other thing,by what is true of its one object (a def of one's own: SetO a S n:=HO.ext λh=>..) -/
 | ext (φ:cP→Prop)
abbrev Hp:=aq→Option HO
def upd (H:Hp) (a:aq) (o:HO):Hp:=λb=>if b=a then some o else H b
theorem av:upd H a o a=some o:=by unfold upd;rw [if_pos rfl]
theorem aK (h:b≠a):upd H a o b=H b:=by unfold upd;rw [if_neg h]
theorem rO:upd (upd H a o) a u=upd H a u:=by
 funext b;unfold upd;split <;> rfl
theorem bJ {H:Hp} (h:H a=some o) (h':H b=none):a≠b:=by
 intro e;subst e;rw [h] at h';cases h'
section
variable (P:jA) (w:fN)
def iw (H:Hp) (h:cP) (a:aq):HO→Prop
 | .lst xs=>xs.length≤sizeLine∧∃(its:List aJ) (n:Nat),Vals xs its∧h.get? a=some { cls:=.type "list",data:=.seq its.toArray n }
 | .tup xs=>xs.length≤sizeLine∧∃its:List aJ,Vals xs its∧IsTup h a its.toArray
 | .dK kvs=>kvs.length≤sizeLine∧(a==sysModules)=false∧∃vs,KV kvs vs∧h.DictOf (Qw P w) a vs
 | .dT kvs=>kvs.length≤sizeLine∧(a==sysModules)=false∧∃xs:List (List Key×aq×aJ),
  Paired (λ(p:List Key×V) (q:List Key×aq×aJ)=>p.1=q.1∧H q.2.1=some (.tup (p.1.map kV))∧RelV p.2 q.2.2) kvs xs ∧
  ∃o es ep,h.get? a=some o∧o.ExactDict∧o.data=.dict es ep∧es.toList=xs.map (entryOfKey (tupleKind (Qw P w)))∧(xs.map (·.1)).Nodup
 | .set S n=>h.SetOf (intKind P w) a S n
 | .ins C dx fs=>H dx=some (.own a)∧fs.length≤1000∧dx≠a∧h.get? a=some (Bq C dx) ∧
  ∃mA,h.Ns1 dx mA∧(∀f,Fc (fs.lookup f) (mA f))∧Xf mA (fs.map (·.1))
 | .own _=>∃o,h.get? a=some o
 | .xd fs=>∃mA,h.Ns1 a mA∧∀f,Fc (fs.lookup f) (mA f)
 | .rng lo hi=>∃t u v,h.get? a=some { cls:=.type "range",data:=.fields #[.int lo t,.int hi u,.int 1 v] }
 | .P7 o u=>h.get? a=some o∧iw H h a u
 | .tbl ps=>h.get? a=some { cls:=.none,data:=.fields ps }
 | .met f x=>h.get? a=some (WZ (.ref f) (.ref x))
 | .ext φ=>φ h∧(∃o,h.get? a=some o)∧∀h1 h2:cP,φ h1→(∀o,h1.get? a=some o→h2.get? a=some o)→φ h2
def yV (H:Hp) (h:cP):Prop:=∀a o,H a=some o→iw P w H h a o
end
theorem iw.lt (x:iw P w H h a o):a<h.objs.size:=by
 cases o with
 | lst xs=>obtain ⟨_,_,_,_,e⟩:=x;exact gT e
 | tup xs=>obtain ⟨_,_,_,p⟩:=x;exact p.lt
 | dK kvs=>obtain ⟨_,_,_,_,o,_,_,e,_⟩:=x;exact gT e
 | dT kvs=>obtain ⟨_,_,_,_,o,_,_,e,_⟩:=x;exact gT e
 | set S n=>obtain ⟨o,_,_,_,e,_⟩:=x;exact gT e
 | ins C dx fs=>obtain ⟨_,_,_,e,_⟩:=x;exact gT e
 | own y=>obtain ⟨_,e⟩:=x;exact gT e
 | xd fs=>obtain ⟨_,⟨_,_,_,e,_⟩,_⟩:=x;exact gT e
 | rng lo hi=>obtain ⟨_,_,_,e⟩:=x;exact gT e
 | P7 ob u=>obtain ⟨e,_⟩:=x;exact gT e
 | tbl ps=>exact gT (show h.get? a=some _ from x)
 | met f y=>exact gT (show h.get? a=some _ from x)
 | ext φ=>obtain ⟨_,⟨_,e⟩,_⟩:=x;exact gT e
theorem Paired.afn:∀{l₁:List α} {l₂:List β},Paired F l₁ l₂→(∀a b,F a b→G a b)→Paired G l₁ l₂
 | _,_,.nil,_=>.nil
 | _,_,.cons r t,f=>.cons (f _ _ r) (Paired.afn t f)
theorem iw.stay (x:iw P w H h a o) (k:∀b u,(b=a∨H b=some (.own a))→h.get? b=some u→h'.get? b=some u)
 (ho:∀b,H b=some (.own a)→H' b=some (.own a)) (ht:∀b xs,H b=some 0#o→H' b=some 0#o):iw P w H' h' a o:=by
 induction o with
 | lst xs=>obtain ⟨z,its,n,r,e⟩:=x;exact ⟨z,its,n,r,k _ _ (.inl rfl) e⟩
 | tup xs=>obtain ⟨z,its,r,ob,e,c⟩:=x;exact ⟨z,its,r,ob,k _ _ (.inl rfl) e,c⟩
 | dK kvs=>obtain ⟨z,y,vs,r,ob,es,ep,e,c⟩:=x;exact ⟨z,y,vs,r,ob,es,ep,k _ _ (.inl rfl) e,c⟩
 | dT kvs=>
   obtain ⟨z,y,xs,r,ob,es,ep,e,c⟩:=x
   exact ⟨z,y,xs,Paired.afn r λp q z=>⟨z.1,ht _ _ z.2.1,z.2.2⟩,ob,es,ep,k _ _ (.inl rfl) e,c⟩
 | set S n=>obtain ⟨ob,es,ep,t,e,c⟩:=x;exact ⟨ob,es,ep,t,k _ _ (.inl rfl) e,c⟩
 | ins C dx fs=>
   obtain ⟨d,z,ne,e,mA,⟨od,es,ep,e2,c⟩,r⟩:=x
   exact ⟨ho _ d,z,ne,k _ _ (.inl rfl) e,mA,⟨od,es,ep,k _ _ (.inr d) e2,c⟩,r⟩
 | own y=>obtain ⟨ob,e⟩:=x;exact ⟨ob,k _ _ (.inl rfl) e⟩
 | xd fs=>obtain ⟨mA,⟨od,es,ep,e,c⟩,r⟩:=x;exact ⟨mA,⟨od,es,ep,k _ _ (.inl rfl) e,c⟩,r⟩
 | rng lo hi=>obtain ⟨t,u,v,e⟩:=x;exact ⟨t,u,v,k _ _ (.inl rfl) e⟩
 | P7 ob u ih=>obtain ⟨e,q⟩:=x;exact ⟨k _ _ (.inl rfl) e,ih q⟩
 | tbl ps=>
   have e:h.get? a=some { cls:=.none,data:=.fields ps }:=x
   show h'.get? a=some { cls:=.none,data:=.fields ps }
   exact k a _ (.inl rfl) e
 | met f y=>
   have e:h.get? a=some (WZ (.ref f) (.ref y)):=x
   show h'.get? a=some (WZ (.ref f) (.ref y))
   exact k a _ (.inl rfl) e
 | ext φ=>obtain ⟨p,⟨o,e⟩,st⟩:=x;exact ⟨st _ _ p λo q=>k _ _ (.inl rfl) q,⟨o,k _ _ (.inl rfl) e⟩,st⟩
theorem yV.lt (x:yV P w H h) (e:H a=some o):a<h.objs.size:=(x a o e).lt
theorem yV.fresh {a:aq} (x:yV P w H h) (e:h.objs.size≤a):H a=none:=by
 cases q:H a with
 | none=>rfl
 | some u=>exact absurd (rP (x.lt q) e) (EO _)
theorem yV.kept (x:yV P w H h) (k:∀b u,h.get? b=some u→h'.get? b=some u):yV P w H h':=λa o e=>
 (x a o e).stay (λb u _ q=>k b u q) (λ_ q=>q) λ_ _ q=>q
theorem yV.laid {a:aq} (x:yV P w H h) (k:∀b u,h.get? b=some u→h'.get? b=some u) (hp:h.objs.size≤a) (new:iw P w (upd H a o) h' a o):yV P w (upd H a o) h':=λb u e=>by
 have hn:=x.fresh hp
 by_cases hb:b=a
 ·subst hb;rw [av] at e;cases e;exact new
 ·rw [aK hb] at e
  exact (x b u e).stay (λc v _ q=>k c v q) (λc q=>by rw [aK (bJ q hn)];exact q) λc xs q=>by rw [aK (bJ q hn)];exact q
def Rd (H:Hp) (a:aq) (u:HO):Prop:=H a=some u∨∃o,H a=some (.P7 o u)
theorem Rd.ok (r:Rd H a u) (x:yV P w H h):iw P w H h a u:=by
 rcases r with r | ⟨o,r⟩
 ·exact x a u r
 ·obtain ⟨_,q⟩:=x a _ r
  exact q
def Mut:Option HO→Prop
 | some (.lst _)=>True
 | some (.dK _)=>True
 | some (.dT _)=>True
 | some (.set _ _)=>True
 | some (.ins _ _ _)=>True
 | some (.ext _)=>True
 | _=>False
theorem yV.write (ok:yV P w H h) (mu:Mut (H x)) (he:e=x∨H e=some (.own x)) (k:∀b u,b≠e→h.get? b=some u→h'.get? b=some u) (heo:∃u,h'.get? e=some u)
 (new:iw P w (upd H x o') h' x o'):yV P w (upd H x o') h':=λb u q=>by
 have aft:∀c y,H c=some (.own y)→c≠x:=λc y r z=>by subst z;rw [r] at mu;exact mu
 have ah5:∀c xs,H c=some 0#o→c≠x:=λc xs r z=>by subst z;rw [r] at mu;exact mu
 by_cases hb:b=x
 ·subst hb;rw [av] at q;cases q;exact new
 ·rw [aK hb] at q
  by_cases hbe:b=e
  ·have q':H b=some (.own x):=by
    rcases he with z | z
    ·exact absurd (hbe.trans z) hb
    ·rw [hbe];exact z
   rw [q] at q';cases q'
   obtain ⟨v,hv⟩:=heo
   exact ⟨v,by rw [hbe];exact hv⟩
  ·refine (ok b u q).stay (λc v hc r=>k c v ?_ r) (λc r=>by rw [aK (aft c b r)];exact r) λc xs r=>by rw [aK (ah5 c xs r)];exact r
   rcases hc with rfl | hc
   ·exact hbe
   ·rintro rfl
    rcases he with z | z
    ·exact aft c b hc z
    ·rw [hc] at z;cases z;exact hb rfl
structure Un (fs ex:List aq) (H H':Hp) (h h':cP):Prop where
 keep:∀b o,h.get? b=some o→H b=none→b∉fs→b∉ex→h'.get? b=some o
 slot:∀b o,h.get? b=some o→H b=none→b∈fs→b∉ex→∃sl,h'.get? b=some { o with slots:=sl }
 free:∀b o,h.get? b=some o→H b=none→b∉ex→H' b=none
 there:∀b o,h.get? b=some o→b∉ex→∃o',h'.get? b=some o'
 tups:∀b xs,H b=some 0#o→H' b=some 0#o
 HN:∀b o u,H b=some (.P7 o u)→H' b=some (.P7 o u)
 L6:∀b ps,H b=some (.tbl ps)→∃more,H' b=some (.tbl (ps++more))
theorem Un.any (u:Un fs ex H H1 h h1)  (q:h.get? b=some ob) (n:H b=none) (hx:b∉ex):∃sl,h1.get? b=some { ob with slots:=sl }:=by
 by_cases hb:b∈fs
 ·exact u.slot b ob q n hb hx
 ·exact ⟨ob.slots,u.keep b ob q n hb hx⟩
theorem Un.kept (k:∀b u,h.get? b=some u→h'.get? b=some u):Un fs ex H H h h':=
 ⟨λb ob q _ _ _=>k b ob q,λb ob q _ _ _=>⟨ob.slots,k b ob q⟩,λ_ _ _ n _=>n,λb ob q _=>⟨ob,k b ob q⟩,λ_ _ q=>q,λ_ _ _ q=>q,λ_ ps q=>⟨#[],by rw [q];simp⟩⟩
theorem Un.refl:Un fs ex H H h h:=Un.kept λ_ _ q=>q
theorem Un.laid {h:cP} {a:aq} (k:∀b u,h.get? b=some u→h'.get? b=some u) (hp:h.objs.size≤a) (hn:H a=none):Un fs ex H (upd H a o) h h' where
 keep:=λb u q _ _ _=>k b u q
 slot:=λb u q _ _ _=>⟨u.slots,k b u q⟩
 free:=λb u q n _=>by rw [aK (mP (rP (gT q) hp))];exact n
 there:=λb u q _=>⟨u,k b u q⟩
 tups:=λb xs q=>by rw [aK (bJ q hn)];exact q
 HN:=λb u xs q=>by rw [aK (bJ q hn)];exact q
 L6:=λb ps q=>⟨#[],by rw [aK (bJ q hn),q];simp⟩
theorem Un.write (mu:Mut (H x)) (he:e=x∨H e=some (.own x)) (k:∀b u,b≠e→h.get? b=some u→h'.get? b=some u) (heo:∃u,h'.get? e=some u):Un fs ex H (upd H x o) h h':=by
 have hx:∀b,H b=none→b≠x:=λb n z=>by subst z;rw [n] at mu;exact mu
 have hb:∀b,H b=none→b≠e:=λb n z=>by
  subst z
  rcases he with r | r
  ·exact hx b n r
  ·rw [n] at r;cases r
 have hm:∀b u,H b=some u→¬Mut (some u)→b≠x:=λb u q nm z=>by subst z;rw [q] at mu;exact nm mu
 refine ⟨λb u q n _ _=>k b u (hb b n) q,λb u q n _ _=>⟨u.slots,k b u (hb b n) q⟩,λb u q n _=>by rw [aK (hx b n)];exact n,λb u q _=>?_,
  λb xs q=>by rw [aK (hm b _ q λz=>z)];exact q,λb u xs q=>by rw [aK (hm b _ q λz=>z)];exact q,λb ps q=>⟨#[],by rw [aK (hm b _ q λz=>z),q];simp⟩⟩
 by_cases hbe:b=e
 ·subst hbe;exact heo
 ·exact ⟨u,k b u hbe q⟩
def trk (h:cP) (H:Hp):List aq:=(gD h.objs.size).filter λa=>(H a).isSome
def Ia (h:cP) (H:Hp):cP:=PySem.W.hideAll h (trk h H)
theorem So (h:cP) (H:Hp):(Ia h H).objs.size=h.objs.size:=PySem.W.hideAll_size _ _
theorem UM (e:h.get? b=some o) (n:H b=none):(Ia h H).get? b=some o:=
 PySem.W.hideAll_get _ e λhm=>by
  have q:(H b).isSome=true:=(E5.mp hm).2
  rw [n] at q;simp at q
theorem Ze (e:(Ia h H).get? b=some o):h.get? b=some o∧H b=none:=by
 have e':h.get? b=some o:=PySem.W.of_hideAll (trk h H) e
 refine ⟨e',?_⟩
 cases q:H b with
 | none=>rfl
 | some x=>
   have hm:b∈trk h H:=E5.mpr ⟨uN.mpr (gT e'),by simp [q]⟩
   have z:(Ia h H).get? b=none:=PySem.W.hideAll_none (trk h H) hm
   rw [z] at e;cases e
structure Mod (K:cj) (mg:Str→Option aJ) (base:cP):Prop where
 kin:K.In base
 glob:base.Ns gC mg
 blt:∃mb,base.Ns builtinsNs mb∧∀x:Str,x ≠ "__name__"→mb x=vG x
 nolimit:base.NoLimit
structure Cx where
 prog:jA
 w:fN
 K:cj
 mg:Str→Option aJ
 base:cP
 A:oO
 N:List Str
 s₀:bC
 H₀:Hp
 env:Env
 outer:List Env
 stack:List Env
 ex:List aq
 fn:Str→Bool
 calm:Bool
 pn:List (aq×Obj)
 xe:aJ→bC→Prop
def frs (l:List Env):List aq:=l.filterMap (·.frame)
abbrev Cx.fs (X:Cx):List aq:=frs X.outer
def Vis (sc:qD) (x:Str):Prop:=sc.names.lookup x=some .local∨sc.names.lookup x=some .cell∨sc.names.lookup x=some .free
def Loc (sc:qD) (x:Str):Prop:=sc.names.lookup x=some .local∨sc.names.lookup x=some .cell
def Look (env:Env) (h:cP) (m:Str→Option aJ) (x:Str) (u:aJ):Prop:=
 (env.kindOf x=some .local∧m x=some u)∨((env.kindOf x=some .cell∨env.kindOf x=some .free)∧∃c,env.cells.lookup x=some c∧h.IsCell c (some u))
structure Cx.Ok (X:Cx):Prop where
 mod:Mod X.K X.mg X.base
 kind:X.env.scope.kind=.function
 glob:X.env.globals=gC
 blt:X.env.builtins=builtinsNs
 above:X.s₀.heap.objs.size≤X.env.locals
 inj:∀x y c,X.env.cells.lookup x=some c→X.env.cells.lookup y=some c→x=y
 has:∀x,(X.env.kindOf x=some .cell∨X.env.kindOf x=some .free)→∃c,X.env.cells.lookup x=some c
 cab:∀x c,X.fn x=true→X.env.cells.lookup x=some c→X.s₀.heap.objs.size≤c
 hd:X.calm=true→X.A.handled=none
 frames:X.A.frames=some X.stack
 stk:X.stack=X.outer∨(X.stack=X.env::X.outer∧X.env.frame=some X.env.locals)
 exf:∀b∈X.ex,b≠X.env.locals∧∀x c,X.env.cells.lookup x=some c→c≠b
 bs:∀b o,X.base.get? b=some o→X.s₀.heap.get? b=some o∧X.H₀ b=none
 Z9:X.base.objs.size≤X.s₀.heap.objs.size
 Vj:∀b o,X.base.get? b=some o→b∉X.ex
 Ys:∀b∈X.ex,b∉X.fs
 BF:X.s₀.heap.FunFrames X.base X.outer
 frf:∀b∈X.fs,X.H₀ b=none
structure Inv (X:Cx) (pins:List (aq×Obj)) (σ:List (Option V)) (H:Hp) (s:bC):Prop where
 ok:X.Ok
 os:s.os=X.s₀.os
 bare:yQ s.gens
 base:Un X.fs X.ex X.H₀ H X.s₀.heap s.heap
 loc:∃m,s.heap.Ns X.env.locals m∧∀(i:Nat) (x:Str) (v:V),X.N[i]?=some x→σ[i]?=some (some v)→Vis X.env.scope x→∃u,RelV v u∧Look X.env s.heap m x u
 cell:∀x c,X.env.cells.lookup x=some c→∃v,s.heap.IsCell c v
 free:H X.env.locals=none
 vq:∀x c,X.env.cells.lookup x=some c→H c=none
 pin:∀p∈X.pn++pins,s.heap.get? p.1=some p.2∧H p.1=none∧p.1≠X.env.locals∧p.1∉X.fs∧∀v,p.2.data≠.cell v
 hok:yV X.prog X.w H s.heap
 len:σ.length=X.N.length
theorem Cx.Ok.ah3 {X:Cx} (ok:X.Ok)  (e:X.base.get? b=some o):b∉X.fs:=λhb=>by
 have:=(ok.BF.mem hb).1
 rw [e] at this;cases this
theorem Inv.bs (I:Inv X pins σ H s):∀b o,X.base.get? b=some o→s.heap.get? b=some o∧H b=none:=λb o e=>
 ⟨I.base.keep b o (I.ok.bs b o e).1 (I.ok.bs b o e).2 (I.ok.ah3 e) (I.ok.Vj b o e),I.base.free b o (I.ok.bs b o e).1 (I.ok.bs b o e).2 (I.ok.Vj b o e)⟩
theorem Inv.bk (I:Inv X pins σ H s):∀b o,X.base.get? b=some o→s.heap.get? b=some o:=λb o e=>(I.bs b o e).1
theorem Inv.mod (I:Inv X pins σ H s):Mod X.K X.mg X.base:=I.ok.mod
theorem Inv.BQ (I:Inv X pins σ H s):X.K.In s.heap:=I.ok.mod.kin.keeps I.bk
theorem Inv.lt (I:Inv X pins σ H s):X.env.locals<s.heap.objs.size:=let ⟨_,hn,_⟩:=I.loc;hn.lt
theorem Inv.sz (I:Inv X pins σ H s):X.s₀.heap.objs.size≤s.heap.objs.size:=dR I.ok.above (nA I.lt)
theorem Inv.ah4 (I:Inv X pins σ H s) {a:aq} (h:s.heap.objs.size≤a):a∉X.fs:=λhb=>by
 obtain ⟨_,o,ho,_⟩:=I.ok.BF.mem hb
 exact absurd (rP (gT ho) (dR I.sz h)) (EO _)
theorem Inv.cne (I:Inv X pins σ H s):∀x c,X.env.cells.lookup x=some c→c≠X.env.locals:=λx c e z=>by
 obtain ⟨v,o,ho,hd⟩:=I.cell x c e
 obtain ⟨m,⟨o',es,ep,ho',hd',_⟩,_⟩:=I.loc
 rw [z,ho'] at ho;cases ho;rw [hd'] at hd;cases hd
theorem Inv.BF (I:Inv X pins σ H s):s.heap.FunFrames X.base X.outer:=by
 have all:∀(l:List Env),(∀b∈frs l,b∈X.fs)→X.s₀.heap.FunFrames X.base l→s.heap.FunFrames X.base l:=by
  intro l
  induction l with
  | nil=>intro _ _;trivial
  | cons env r ih=>
    intro hs hl
    obtain ⟨hk,⟨L,o,hf,hn,ho,hd⟩,hr⟩:=hl
    have hL:L∈X.fs:=hs L (by unfold frs;rw [WO,hf];exact Ge)
    obtain ⟨sl,e⟩:=I.base.slot L o ho (I.ok.frf L hL) hL λz=>I.ok.Ys L z hL
    exact ⟨hk,⟨L,_,hf,hn,e,hd⟩,ih (λb hb=>hs b (by unfold frs;rw [WO,hf];exact B9 _ hb)) hr⟩
 exact all X.outer (λ_ hb=>hb) I.ok.BF
theorem Inv.stack (I:Inv X pins σ H s):s.heap.FunFrames X.base X.stack:=by
 rcases I.ok.stk with e | ⟨e,hf⟩
 ·rw [e];exact I.BF
 ·rw [e]
  obtain ⟨m,hn,_⟩:=I.loc
  refine .cons (by rw [I.ok.kind];decide) hf hn ?_ I.BF
  exact Heap.get?_none_of_le (dR I.ok.Z9 I.ok.above)
theorem Inv.J2 (I:Inv X pins σ H s):∀b∈frs X.stack,b∈X.env.locals::X.fs:=λb hb=>by
 rcases I.ok.stk with e | ⟨e,hf⟩
 ·rw [e] at hb;exact B9 _ hb
 ·rw [e] at hb
  unfold frs at hb
  rw [WO,hf] at hb
  exact hb
theorem Inv.QU (I:Inv X pins σ H s):∀b∈frs X.stack,H b=none:=λb hb=>by
 rcases pZ.mp (I.J2 b hb) with e | hb
 ·rw [e];exact I.free
 ·obtain ⟨_,o,ho,_⟩:=I.ok.BF.mem hb
  exact I.base.free b o ho (I.ok.frf b hb) λz=>I.ok.Ys b z hb
theorem Inv.step {ch:List aq} (I:Inv X pins σ H s)
 (hch:∀b∈ch,(b∈X.ex∨X.s₀.heap.objs.size≤b)∧b≠X.env.locals∧(∀x c,X.env.cells.lookup x=some c→c≠b)∧∀p∈X.pn++pins,p.1≠b)
 (keep:∀b o,b≠X.env.locals→b∉X.fs→b∉ch→s.heap.get? b=some o→H b=none→h'.get? b=some o)
 (slot:∀b o,b≠X.env.locals→b∈X.fs→b∉ch→s.heap.get? b=some o→H b=none→∃sl,h'.get? b=some { o with slots:=sl }) (free:∀b o,b∉ch→s.heap.get? b=some o→H b=none→H' b=none)
 (there:∀b o,b∉ch→s.heap.get? b=some o→∃o',h'.get? b=some o')
 (tups:∀b xs,H b=some 0#o→H' b=some 0#o) (HN:∀b o u,H b=some (.P7 o u)→H' b=some (.P7 o u)) (L6:∀b ps,H b=some (.tbl ps)→∃more,H' b=some (.tbl (ps++more)))
 (ns:∀m,s.heap.Ns X.env.locals m→h'.Ns X.env.locals m) (hok:yV X.prog X.w H' h') (hg:yQ g') :
 Inv X pins σ H' { s with heap:=h',gens:=g',drawn:=d',toks:=t' }:=by
 have neL:∀b o,X.s₀.heap.get? b=some o→b≠X.env.locals:=λb o e=>mP (rP (gT e) I.ok.above)
 have neC:∀b o,X.s₀.heap.get? b=some o→b∉X.ex→b∉ch:=λb o e hx hb=>by
  rcases (hch b hb).1 with z | z
  ·exact hx z
  ·exact absurd (rP (gT e) z) (EO _)
 have cellK:∀x c,X.env.cells.lookup x=some c→∀v,s.heap.IsCell c v→h'.IsCell c v:=λx c e v ⟨o,ho,hd⟩=>by
  have nch:c∉ch:=λz=>(hch c z).2.2.1 x c e rfl
  by_cases hc:c∈X.fs
  ·obtain ⟨sl,q⟩:=slot c o (I.cne x c e) hc nch ho (I.vq x c e)
   exact ⟨_,q,hd⟩
  ·exact ⟨o,keep c o (I.cne x c e) hc nch ho (I.vq x c e),hd⟩
 refine ⟨I.ok,I.os,hg,⟨λb o e n hb hx=>?_,λb o e n hb hx=>?_,λb o e n hx=>?_,λb o e hx=>?_,λb xs e=>tups b xs (I.base.tups b xs e),λb o xs e=>HN b o xs (I.base.HN b o xs e),λb ps e=>?_⟩,?_,λx c e=>?_,?_,λx c e=>?_,λp hp=>?_,hok,I.len⟩
 ·exact keep b o (neL b o e) hb (neC b o e hx) (I.base.keep b o e n hb hx) (I.base.free b o e n hx)
 ·obtain ⟨sl,e1⟩:=I.base.slot b o e n hb hx
  obtain ⟨sl',e2⟩:=slot b _ (neL b o e) hb (neC b o e hx) e1 (I.base.free b o e n hx)
  exact ⟨sl',e2⟩
 ·obtain ⟨o',e1⟩:=I.base.there b o e hx
  exact free b o' (neC b o e hx) e1 (I.base.free b o e n hx)
 ·obtain ⟨o',e1⟩:=I.base.there b o e hx
  exact there b o' (neC b o e hx) e1
 ·obtain ⟨m1,e1⟩:=I.base.L6 b ps e
  obtain ⟨m2,e2⟩:=L6 b _ e1
  exact ⟨m1++m2,by rw [e2,Array.append_assoc]⟩
 ·obtain ⟨m,hn,hl⟩:=I.loc
  refine ⟨m,ns m hn,λi x v e1 e2 e3=>?_⟩
  obtain ⟨u,r,l⟩:=hl i x v e1 e2 e3
  refine ⟨u,r,?_⟩
  rcases l with l | ⟨k,c,e,z⟩
  ·exact .inl l
  ·exact .inr ⟨k,c,e,cellK x c e _ z⟩
 ·obtain ⟨v,z⟩:=I.cell x c e
  exact ⟨v,cellK x c e v z⟩
 ·obtain ⟨m,⟨o,_,_,ho,_⟩,_⟩:=I.loc
  exact free _ o (λz=>(hch _ z).2.1 rfl) ho I.free
 ·obtain ⟨v,o,ho,hd⟩:=I.cell x c e
  exact free c o (λz=>(hch c z).2.2.1 x c e rfl) ho (I.vq x c e)
 ·obtain ⟨e,n,ne,nf,d⟩:=I.pin p hp
  have nch:p.1∉ch:=λz=>(hch p.1 z).2.2.2 p hp rfl
  exact ⟨keep p.1 p.2 ne nf nch e n,free p.1 p.2 nch e n,ne,nf,d⟩
theorem Inv.un (I:Inv X pins σ H s) (u:Un X.fs [] H H' s.heap h') (hok:yV X.prog X.w H' h'):Inv X pins σ H' { s with heap:=h',toks:=t' }:=by
 obtain ⟨m,⟨o,es,ep,ho,r⟩,_⟩:=id I.loc
 obtain ⟨sl,hL⟩:=u.any ho I.free 0#d
 exact I.step (g':=s.gens) (d':=s.drawn) (ch:=[]) (λ_ z=>nomatch z) (λb o _ hb _ e n=>u.keep b o e n hb 0#d) (λb o _ hb _ e n=>u.slot b o e n hb 0#d) (λb o _ e n=>u.free b o e n 0#d) (λb o _ e=>u.there b o e 0#d) u.tups u.HN u.L6 (λm' hm=>by
  obtain ⟨o',es',ep',ho',r'⟩:=hm
  rw [ho] at ho';cases ho'
  exact ⟨_,es',ep',hL,r'⟩) hok I.bare
theorem Inv.call (I:Inv X pins σ H s) (u:Un (frs X.stack) ch H H' s.heap h') (hok:yV X.prog X.w H' h') (hg:yQ g')
 (hch:∀b∈ch,(b∈X.ex∨X.s₀.heap.objs.size≤b)∧b≠X.env.locals∧(∀x c,X.env.cells.lookup x=some c→c≠b)∧∀p∈X.pn++pins,p.1≠b) :
 Inv X pins σ H' { s with heap:=h',gens:=g',drawn:=d',toks:=t' }:=by
 obtain ⟨m,⟨o,es,ep,ho,r⟩,_⟩:=id I.loc
 obtain ⟨sl,hL⟩:=u.any ho I.free λz=>(hch _ z).2.1 rfl
 exact I.step (ch:=ch) hch (λb o hL hb hc e n=>u.keep b o e n (λz=>(pZ.mp (I.J2 b z)).elim hL hb) hc) (λb o _ _ hc e n=>u.any e n hc) (λb o hc e n=>u.free b o e n hc) (λb o hc e=>u.there b o e hc) u.tups u.HN u.L6 (λm' hm=>by
  obtain ⟨o',es',ep',ho',r'⟩:=hm
  rw [ho] at ho';cases ho'
  exact ⟨_,es',ep',hL,r'⟩) hok hg
theorem Inv.turned (I:Inv X pins σ H s) (k:∀b o,b≠it→s.heap.get? b=some o→h'.get? b=some o) (hn:H it=none) (hL:it≠X.env.locals)
 (h1:it∈X.ex∨X.s₀.heap.objs.size≤it) (h2:∀x c,X.env.cells.lookup x=some c→c≠it) (h3:∀p∈X.pn++pins,p.1≠it):Inv X pins σ H { s with heap:=h',toks:=t' }:=by
 have nit:∀b u,H b=some u→b≠it:=λb u e z=>by rw [z,hn] at e;cases e
 refine I.step (g':=s.gens) (d':=s.drawn) (ch:=[it]) (λb hb=>?_) (λb o _ _ hc e _=>k b o (λz=>hc (by simp [z])) e) (λb o _ _ hc e _=>⟨o.slots,k b o (λz=>hc (by simp [z])) e⟩) (λ_ _ _ _ n=>n)
  (λb o hc e=>⟨o,k b o (λz=>hc (by simp [z])) e⟩) (λ_ _ e=>e) (λ_ _ _ e=>e) (λb ps e=>⟨#[],by rw [e];simp⟩) (λm hm=>?_) (λb u e=>?_) I.bare
 ·have e:b=it:=by simpa using hb
  subst e
  exact ⟨h1,hL,h2,h3⟩
 ·obtain ⟨o,es,ep,ho,r⟩:=hm
  exact ⟨o,es,ep,k _ o (j4 hL) ho,r⟩
 ·refine (I.hok b u e).stay (λc v hc q=>k c v ?_ q) (λ_ q=>q) λ_ _ q=>q
  rcases hc with z | z
  ·rw [z];exact nit b u e
  ·exact nit c _ z
theorem Inv.tok (I:Inv X pins σ H s) (t:Nat):Inv X pins σ H { s with toks:=t }:=I.un (h':=s.heap) (t':=t) Un.refl I.hok
theorem Inv.kept (I:Inv X pins σ H s) (k:∀b u,s.heap.get? b=some u→h'.get? b=some u):Inv X pins σ H { s with heap:=h',toks:=t' }:=I.un (Un.kept k) (I.hok.kept k)
theorem Inv.laid {a:aq} (I:Inv X pins σ H s) (k:∀b u,s.heap.get? b=some u→h'.get? b=some u) (hp:s.heap.objs.size≤a) (new:iw X.prog X.w (upd H a o) h' a o) :
 Inv X pins σ (upd H a o) { s with heap:=h',toks:=t' }:=I.un (Un.laid k hp (I.hok.fresh hp)) (I.hok.laid k hp new)
theorem Inv.write (I:Inv X pins σ H s) (mu:Mut (H x)) (he:e=x∨H e=some (.own x)) (k:∀b u,b≠e→s.heap.get? b=some u→h'.get? b=some u) (heo:∃u,h'.get? e=some u)
 (new:iw X.prog X.w (upd H x o) h' x o):Inv X pins σ (upd H x o) { s with heap:=h',toks:=t' }:=I.un (Un.write mu he k heo) (I.hok.write mu he k heo new)
theorem Inv.QD (I:Inv X pins σ H s) (h:∀p∈afw,s.heap.get? p.1=some p.2∧H p.1=none∧p.1≠X.env.locals∧p.1∉X.fs∧∀v,p.2.data≠.cell v):Inv X afw σ H s:=
 ⟨I.ok,I.os,I.bare,I.base,I.loc,I.cell,I.free,I.vq,λp hp=>(fK.mp hp).elim (λz=>I.pin p (G7 _ z)) (h p),I.hok,I.len⟩
theorem Lq {N:List Str} (hN:N.Nodup) {i:Nat} (a:N[i]?=some x) (b:N[j]?=some x):i=j:=by
 obtain ⟨h1,e1⟩:=nH.mp a
 obtain ⟨h2,e2⟩:=nH.mp b
 exact (List.getElem_inj hN).mp (e1.trans e2.symm)
theorem G3 {X:Cx} {pins:List (aq×Obj)} {σ:List (Option V)} {H:Hp} {s:bC} {M:Model} {A:oO} {E:aJ→bC→Prop} {i:Nat} {x:Str} {v:V} {u:aJ} {Q:Unit→bC→Prop} (I:Inv X pins σ H s) (hN:X.N.Nodup) (hi:X.N[i]?=some x) (hx:Loc X.env.scope x) (r:RelV v u)
 (h:∀s',Inv X pins (σ.set i (some v)) H s'→(∃a,ET a s.heap s'.heap∧(a=X.env.locals∨X.env.cells.lookup x=some a))→Q () s') (hf:X.fn x=true∨X.env.scope.names.lookup x=some .local:=by first | exact .inl rfl | exact .inr rfl | assumption):cD M A (storeName X.env x u) Q E s:=by
 obtain ⟨m,hn,hl⟩:=id I.loc
 have hcls:(X.env.scope.kind==.class||(X.env.scope.kind==.module&&X.env.locals != X.env.globals))=false:=by rw [I.ok.kind];rfl
 have ae8:i<σ.length:=by rw [I.len];exact (nH.mp hi).1
 have cne:=I.cne
 have tracked:∀{a:aq} {h':cP},(∃o,s.heap.get? a=some o∧H a=none)→ET a s.heap h'→yV X.prog X.w H h':=λ{a h'} ha hs b ob e=>by
  obtain ⟨_,_,hfree⟩:=ha
  refine (I.hok b ob e).stay (λc w' hc q=>(hs.2 c ?_).trans q) (λ_ q=>q) λ_ _ q=>q
  rintro rfl
  rcases hc with rfl | hc
  ·rw [hfree] at e;cases e
  ·rw [hfree] at hc;cases hc
 rcases hx with hk | hk
 ·refine wpAny_storeName_local hk hn (λh' hn' hs=>?_) hcls
  obtain ⟨oL,_,_,hoL,_⟩:=id hn
  refine h _ ⟨I.ok,I.os,I.bare,⟨λb o e n hb hx=>?_,λb o e n hb hx=>?_,I.base.free,λb o e hx=>?_,I.base.tups,I.base.HN,I.base.L6⟩,⟨_,hn',λj y v' e1 e2 e3=>?_⟩,λy c e=>?_,I.free,I.vq,λp hp=>?_,tracked ⟨oL,hoL,I.free⟩ hs,by simpa using I.len⟩ ⟨_,hs,.inl rfl⟩
  ·exact (hs.2 b (mP (rP (gT e) I.ok.above))).trans (I.base.keep b o e n hb hx)
  ·obtain ⟨sl,e1⟩:=I.base.slot b o e n hb hx
   exact ⟨sl,(hs.2 b (mP (rP (gT e) I.ok.above))).trans e1⟩
  ·obtain ⟨o',e1⟩:=I.base.there b o e hx
   exact ⟨o',(hs.2 b (mP (rP (gT e) I.ok.above))).trans e1⟩
  ·by_cases hj:j=i
   ·subst hj
    rw [hi] at e1;cases e1
    rw [aaB ae8] at e2
    cases e2
    exact ⟨u,r,.inl ⟨hk,by simp⟩⟩
   ·rw [aaP (j4 hj)] at e2
    obtain ⟨u',r',q⟩:=hl j y v' e1 e2 e3
    refine ⟨u',r',?_⟩
    rcases q with ⟨k,e⟩ | ⟨k,c,e,z⟩
    ·refine .inl ⟨k,?_⟩
     have:y≠x:=λe=>hj (Lq hN e1 (e▸hi))
     simp [this,e]
    ·exact .inr ⟨k,c,e,z.sameBut hs (cne y c e)⟩
  ·obtain ⟨w',z⟩:=I.cell y c e
   exact ⟨w',z.sameBut hs (cne y c e)⟩
  ·obtain ⟨e,n,ne,nf,d⟩:=I.pin p hp
   exact ⟨(hs.2 p.1 ne).trans e,n,ne,nf,d⟩
 ·have hfn:X.fn x=true:=by
   rcases hf with z | z
   ·exact z
   ·rw [z] at hk;cases hk
  obtain ⟨c,hc⟩:=I.ok.has x (.inl hk)
  obtain ⟨w',z⟩:=I.cell x c hc
  refine wpAny_storeName_cell I.ok.kind hk hc z (λh' hc' hs=>?_)
  obtain ⟨oc,hoc,ahD⟩:=id z
  refine h { s with heap:=h' } ⟨I.ok,I.os,I.bare,⟨λb o e n hb hx=>?_,λb o e n hb hx=>?_,I.base.free,λb o e hx=>?_,I.base.tups,I.base.HN,I.base.L6⟩,⟨m,hn.sameBut hs (j4 (cne x c hc)),λj y v' e1 e2 e3=>?_⟩,λy c' e=>?_,I.free,I.vq,λp hp=>?_,tracked ⟨oc,hoc,I.vq x c hc⟩ hs,by simpa using I.len⟩ ⟨c,hs,.inr hc⟩
  ·exact (hs.2 b (mP (rP (gT e) (I.ok.cab x c hfn hc)))).trans (I.base.keep b o e n hb hx)
  ·obtain ⟨sl,e1⟩:=I.base.slot b o e n hb hx
   exact ⟨sl,(hs.2 b (mP (rP (gT e) (I.ok.cab x c hfn hc)))).trans e1⟩
  ·obtain ⟨o',e1⟩:=I.base.there b o e hx
   exact ⟨o',(hs.2 b (mP (rP (gT e) (I.ok.cab x c hfn hc)))).trans e1⟩
  ·by_cases hj:j=i
   ·subst hj
    rw [hi] at e1;cases e1
    rw [aaB ae8] at e2
    cases e2
    exact ⟨u,r,.inr ⟨.inl hk,c,hc,hc'⟩⟩
   ·rw [aaP (j4 hj)] at e2
    obtain ⟨u',r',q⟩:=hl j y v' e1 e2 e3
    refine ⟨u',r',?_⟩
    rcases q with q | ⟨k,c',e,z'⟩
    ·exact .inl q
    ·refine .inr ⟨k,c',e,z'.sameBut hs ?_⟩
     rintro rfl
     exact hj (Lq hN e1 (I.ok.inj _ _ _ e hc▸hi))
  ·by_cases hcc:c'=c
   ·subst hcc;exact ⟨_,hc'⟩
   ·obtain ⟨w2,z2⟩:=I.cell y c' e
    exact ⟨w2,z2.sameBut hs hcc⟩
  ·obtain ⟨e,n,ne,nf,d⟩:=I.pin p hp
   refine ⟨(hs.2 p.1 ?_).trans e,n,ne,nf,d⟩
   intro q
   rw [q,hoc] at e
   have q':oc=p.2:=qE e
   exact d w' (by rw [← q'];exact ahD)
theorem yu {X:Cx} {pins:List (aq×Obj)} {σ:List (Option V)} {H:Hp} {s:bC} {M:Model} {A:oO} {E:aJ→bC→Prop} {i:Nat} {x:Str} {v:V} {u:aJ} {Q:Unit→bC→Prop} (I:Inv X pins σ H s) (hN:X.N.Nodup) (hi:X.N[i]?=some x) (hx:Loc X.env.scope x) (r:RelV v u)
 (h:∀s',Inv X pins (σ.set i (some v)) H s'→Q () s') (hf:X.fn x=true∨X.env.scope.names.lookup x=some .local:=by first | exact .inl rfl | exact .inr rfl | assumption):cD M A (storeName X.env x u) Q E s:=
 G3 I hN hi hx r (λs' I' _=>h s' I') hf
theorem Inv.aaa (I:Inv X pins σ H s) (ho:s'.os=s.os) (u:Un (frs X.stack) ch H H' s.heap s'.heap) (hok:yV X.prog X.w H' s'.heap) (hg:yQ s'.gens)
 (hch:∀b∈ch,(b∈X.ex∨X.s₀.heap.objs.size≤b)∧b≠X.env.locals∧(∀x c,X.env.cells.lookup x=some c→c≠b)∧∀p∈X.pn++pins,p.1≠b):Inv X pins σ H' s':=by
 obtain ⟨h',g',d',t',o'⟩:=s'
 have e:o'=s.os:=ho
 subst e
 exact I.call (g':=g') (t':=t') (d':=d') u hok hg hch
abbrev XK:=aJ→Option aq→Hp→Prop
abbrev St:=List (Option V)
abbrev VK:=V→Hp→Prop
abbrev TE:=St→Hp→VK→Prop
abbrev TT:=St→Hp→(Bool→Hp→Prop)→Prop
abbrev TA:=St→Hp→(List V→Hp→Prop)→Prop
structure Ends where
 nx:St→Hp→Prop
 rt:VK
 bk:St→Hp→Prop:=λ_ _=>False
 ct:St→Hp→Prop:=λ_ _=>False
abbrev TS:=Ends→St→Hp→Prop
def EP (X:Cx) (pins:List (aq×Obj)) (σ:St) (Q:VK) (u:aJ) (s':bC):Prop:=∃v H',Inv X pins σ H' s'∧RelV v u∧Q v H'
def TP (X:Cx) (pins:List (aq×Obj)) (σ:St) (Q:Bool→Hp→Prop) (b:Bool) (s':bC):Prop:=∃H',Inv X pins σ H' s'∧Q b H'
def AP (X:Cx) (pins:List (aq×Obj)) (σ:St) (Q:List V→Hp→Prop) (us:List aJ) (s':bC):Prop:=∃vs H',Inv X pins σ H' s'∧Vals vs us∧Q vs H'
def SP (X:Cx) (pins:List (aq×Obj)) (D:Ends) (f:Flow) (s':bC):Prop:=
 match f with
 | .next=>∃σ' H',Inv X pins σ' H' s'∧D.nx σ' H'
 | .brk=>∃σ' H',Inv X pins σ' H' s'∧D.bk σ' H'
 | .cont=>∃σ' H',Inv X pins σ' H' s'∧D.ct σ' H'
 | .ret u=>∃v σ' H',Inv X pins σ' H' s'∧RelV v u∧D.rt v H'
def PE (X:Cx) (e:bA) (t:TE):Prop:=
 ∀(pins:List (aq×Obj)) (s:bC) (σ:St) (H:Hp) (Q:VK),Inv X pins σ H s→t σ H Q→cD 0#l X.A (eval e X.env) (EP X pins σ Q) X.xe s
def PT (X:Cx) (e:bA) (t:TT):Prop:=
 ∀(pins:List (aq×Obj)) (s:bC) (σ:St) (H:Hp) (Q:Bool→Hp→Prop),Inv X pins σ H s→t σ H Q→cD 0#l X.A (isTrue e X.env (eval e X.env)) (TP X pins σ Q) X.xe s
def PW (X:Cx) (e:bA) (t:TT):Prop:=
 ∀(whole:Sem aJ) (pins:List (aq×Obj)) (s:bC) (σ:St) (H:Hp) (Q:Bool→Hp→Prop),Inv X pins σ H s→t σ H Q→cD 0#l X.A (isTrue e X.env whole) (TP X pins σ Q) X.xe s
theorem PW.pt (h:PW X e t):PT X e t:=h _
def PA (X:Cx) (es:List bA) (t:TA):Prop:=
 ∀(pos:Pos) (pins:List (aq×Obj)) (s:bC) (σ:St) (H:Hp) (Q:List V→Hp→Prop),Inv X pins σ H s→t σ H Q→cD 0#l X.A (spliced (iU pos (bG es X.env))) (AP X pins σ Q) X.xe s
def PS (X:Cx) (st:aU) (t:TS):Prop:=
 ∀(pins:List (aq×Obj)) (s:bC) (σ:St) (H:Hp) (D:Ends),Inv X pins σ H s→t D σ H→cD 0#l X.A (exec st X.env) (SP X pins D) X.xe s
def MH (X:Cx) (st:List aU) (t:TS):Prop:=
 ∀(pins:List (aq×Obj)) (s:bC) (σ:St) (H:Hp) (D:Ends),Inv X pins σ H s→t D σ H→cD 0#l X.A (execs st X.env) (SP X pins D) X.xe s
theorem iI (h:cD M A t Q E s) (hQ:∀a s,Q a s→Q' a s):cD M A t Q' E s:=qA h hQ λ_ _ x=>x
def ZU (i:Nat):TE:=λσ H Q=>∃v,σ[i]?=some (some v)∧Q v H
def tC (v:V):TE:=λ_ H Q=>Q v H
theorem adE (hN:X.N[i]?=some x) (hv:Vis X.env.scope x) (hd:0#x=false:=by decide) (hcd:(x==("__classdict__":Str))=false:=by decide):PE X (.Name x pos) (ZU i):=by
 intro pins s σ H Q I h
 obtain ⟨v,e,h⟩:=h
 obtain ⟨m,hn,hl⟩:=I.loc
 obtain ⟨u,r,l⟩:=hl i x v hN e hv
 have fin:EP X pins σ Q u s:=⟨v,H,I,r,h⟩
 rcases l with ⟨hk,hm⟩ | ⟨hk,c,hc,hcell⟩
 ·exact Xu (wpAny_loadName_local I.ok.kind hk hn hm fin) hd
 ·rcases hk with hk | hk
  ·exact Xu (wpAny_loadName_cell I.ok.kind hk hc hcell fin) hd
  ·exact Xu (wpAny_loadName_free I.ok.kind hk hc hcell fin hcd) hd
theorem DG {X:Cx} {i j pos}:PE X (.Constant (.int i) j pos) (tC (.int i)):=λ_ _ _ H _ I h=>wpAny_Constant_int ⟨.int i,H,I.tok _,⟨_,rfl⟩,h⟩
theorem VA {X:Cx} {b j pos}:PE X (.Constant (.bool b) j pos) (tC (.bl b)):=λ_ _ _ H _ I h=>Constant_bool ⟨.bl b,H,I,rfl,h⟩
theorem Oj {X:Cx} {j pos}:PE X (.Constant .none j pos) (tC .bK):=λ_ _ _ H _ I h=>Constant_none ⟨.bK,H,I,rfl,h⟩
theorem Om {X:Cx} {x j pos}:PE X (.Constant (.str x) j pos) (tC (.str x)):=λ_ _ _ H _ I h=>Calls.Constant_str ⟨.str x,H,I.tok _,⟨_,rfl⟩,h⟩
def Gl (X:Cx) (x:Str):Prop:=X.env.kindOf x=some .globalImplicit
theorem Ik {σ:St} (I:Inv X pins σ H s) (hg:Gl X x) (hm:X.mg x=some u) (h:Q u s)
 (hd:0#x=false:=by decide):cD 0#l X.A (eval (.Name x pos) X.env) Q E s:=
 aav I.ok.kind hg (Calls.loadGlobal_global (by rw [I.ok.glob];exact I.mod.glob.keeps I.bk) hm h) hd
theorem wj {σ:St} (I:Inv X pins σ H s) (hg:Gl X x) (hm:X.mg x=none) (hv:vG x=some u) (h:Q u s)
 (hn:x ≠ "__name__":=by decide) (hd:0#x=false:=by decide):cD 0#l X.A (eval (.Name x pos) X.env) Q E s:=by
 obtain ⟨mb,h1,h2⟩:=I.mod.blt
 exact aav I.ok.kind hg (Calls.loadGlobal_builtin (by rw [I.ok.glob];exact I.mod.glob.keeps I.bk) hm (by rw [I.ok.blt];exact h1.keeps I.bk) ((h2 x hn).trans hv) h) hd
theorem QC (hg:Gl X x) (hm:X.mg x=some u) (r:RelV v u) (hd:0#x=false:=by decide):PE X (.Name x pos) (tC v):=
 λ_ _ _ H _ I h=>Ik I hg hm ⟨v,H,I,r,h⟩ hd
theorem Zp (hg:Gl X x) (hm:X.mg x=none) (hv:vG x=some u) (r:RelV v u) (hn:x ≠ "__name__":=by decide) (hd:0#x=false:=by decide):PE X (.Name x pos) (tC v):=
 λ_ _ _ H _ I h=>wj I hg hm hv ⟨v,H,I,r,h⟩ hn hd
def tB (t:TE):TT:=λσ H Q=>t σ H λx H1=>∃c,x=.bl c∧Q c H1
theorem OA {X:Cx} {e:bA} {t:TE} (h:PE X e t) (he:∀whole,isTrue e X.env whole=(do let v ← whole;Bx e.pos;holding [v] (truthy v)):=by intro _;rfl):PT X e (tB t):=by
 intro pins s σ H Q I hw
 refine isTrue_plain (iI (h pins s σ H _ I hw) λv s1 ⟨x,H1,I1,r1,q1⟩=>?_) (he _)
 obtain ⟨d,rfl,q⟩:=q1
 cases r1
 exact Hf ⟨H1,I1,q⟩
def aeb (t u:TT):TT:=λσ H Q=>t σ H λc H1=>if c=true then u σ H1 Q else Q false H1
def tOr (t u:TT):TT:=λσ H Q=>t σ H λc H1=>if c=true then Q true H1 else u σ H1 Q
def aeg (t:TT):TT:=λσ H Q=>t σ H λc H1=>Q (!c) H1
theorem lJ (ha:PT X a tA):PW X (.BoolOp .And [a] pos) tA:=by
 intro wh pins s σ H Q I h
 refine isTrue_and (iI (ha pins s σ H Q I h) λc s1 e=>?_)
 cases c with
 | true=>exact isTrue_and_nil e
 | false=>exact e
theorem Ag (ha:PT X a tA):PW X (.BoolOp .Or [a] pos) tA:=by
 intro wh pins s σ H Q I h
 refine isTrue_or (iI (ha pins s σ H Q I h) λc s1 e=>?_)
 cases c with
 | false=>exact isTrue_or_nil e
 | true=>exact e
theorem oq (ha:PT X a tA) (hb:PW X (.BoolOp .And (b::rest) pos) tB'):PW X (.BoolOp .And (a::b::rest) pos) (aeb tA tB'):=by
 intro wh pins s σ H Q I h
 refine isTrue_and (iI (ha pins s σ H _ I h) λc s1 ⟨H1,I1,q1⟩=>?_)
 cases c with
 | true=>exact hb wh pins s1 σ H1 Q I1 q1
 | false=>exact ⟨H1,I1,q1⟩
theorem GV (ha:PT X a tA) (hb:PW X (.BoolOp .Or (b::rest) pos) tB'):PW X (.BoolOp .Or (a::b::rest) pos) (tOr tA tB'):=by
 intro wh pins s σ H Q I h
 refine isTrue_or (iI (ha pins s σ H _ I h) λc s1 ⟨H1,I1,q1⟩=>?_)
 cases c with
 | true=>exact ⟨H1,I1,q1⟩
 | false=>exact hb wh pins s1 σ H1 Q I1 q1
theorem DR (ha:PT X a tA):PT X (.UnaryOp .Not a pos) (aeg tA):=by
 intro pins s σ H Q I h
 exact isTrue_not (ha pins s σ H (λc H1=>Q (!c) H1) I h)
def Wl (ta tb:TE):TE:=λσ H Q=>ta σ H λx H1=>∃c,x=.bl c∧if c=true then tb σ H1 Q else Q (.bl false) H1
def Ws (ta:TE):TE:=λσ H Q=>ta σ H λx H1=>∃c,x=.bl c∧Q (.bl (!c)) H1
theorem DH {X:Cx} {a:bA} {pos:Pos} {op} {t:TE} (h:PE X a t):PE X (.BoolOp op [a] pos) t:=λpins s σ H Q I hw=>BoolOp_one (h pins s σ H Q I hw)
theorem z9 (ha:PE X a ta) (hb:PE X (.BoolOp .And (b::rest) pos) tb):PE X (.BoolOp .And (a::b::rest) pos) (Wl ta tb):=by
 intro pins s σ H Q I h
 refine BoolOp_and (iI (ha pins s σ H _ I h) λv s1 ⟨x,H1,I1,r1,q1⟩=>?_)
 obtain ⟨c,rfl,q1⟩:=q1
 cases r1
 refine Hf ?_
 cases c with
 | true=>exact hb pins s1 σ H1 Q I1 q1
 | false=>exact ⟨.bl false,H1,I1,rfl,q1⟩
theorem Ol (ha:PE X a ta):PE X (.UnaryOp .Not a pos) (Ws ta):=by
 intro pins s σ H Q I h
 refine UnaryOp_ (iI (ha pins s σ H _ I h) λv s1 ⟨x,H1,I1,r1,q1⟩=>?_)
 obtain ⟨c,rfl,q1⟩:=q1
 cases r1
 exact not_of (Hf ⟨.bl (!c),H1,I1,rfl,q1⟩)
def tIf (t:TT) (ta tb:TE):TE:=λσ H Q=>t σ H λc H1=>if c=true then ta σ H1 Q else tb σ H1 Q
theorem DF (hc:PT X c tA) (ha:PE X a ta) (hb:PE X b tb):PE X (.IfExp c a b pos) (tIf tA ta tb):=by
 intro pins s σ H Q I h
 refine wpAny_IfExp (iI (hc pins s σ H _ I h) λd s1 ⟨H1,I1,q1⟩=>?_)
 cases d with
 | true=>exact ha pins s1 σ H1 Q I1 q1
 | false=>exact hb pins s1 σ H1 Q I1 q1
def bq (K:cj) (H:Hp) (a:aq) (xs:List V):Prop:=
 Rd H a (.lst xs) ∨
  ∃(o:Obj) (its:Array aJ) (n:Nat),K.lookup a=some o∧o.cls=.type "list"∧o.dict=none∧o.data=.seq its n∧its.size≤sizeLine∧Vals xs its.toList
def tD (K:cj) (H:Hp) (a:aq) (xs:List V):Prop:=
 Rd H a 0#o ∨
  ∃(o:Obj) (its:Array aJ) (n:Nat),K.lookup a=some o∧o.cls=.type "tuple"∧o.data=.seq its n∧its.size≤sizeLine∧Vals xs its.toList
def ahf:aJ→Option V
 | .none=>some .bK
 | .bool b=>some (.bl b)
 | .int i _=>some (.int i)
 | .str x _=>some (.str x)
 | .bytes b _=>some (.Tt b)
 | .float b _=>some (.flt b)
 | .ref a=>some (.ref a)
 | .type n=>some (.ty n)
 | _=>none
theorem RelV.abs (r:RelV x u):ahf u=some x:=by
 cases x with
 | bK=>cases r;rfl
 | bl _=>cases r;rfl
 | int _=>obtain ⟨t,rfl⟩:=r;rfl
 | str _=>obtain ⟨t,rfl⟩:=r;rfl
 | Tt _=>obtain ⟨t,rfl⟩:=r;rfl
 | flt _=>obtain ⟨t,rfl⟩:=r;rfl
 | ref _=>cases r;rfl
 | ty _=>cases r;rfl
theorem RelV.inj (r:RelV x u) (q:RelV y u):x=y:=qE (r.abs.symm.trans q.abs)
theorem Vals.inj:∀{xs ys:List V} {us:List aJ},Vals xs us→Vals ys us→xs=ys
 | _,_,_,.nil,.nil=>rfl
 | _,_,_,.cons r t,.cons r' t'=>by rw [r.inj r',Vals.inj t t']
theorem bq.of {K:cj} (h:H a=some (.lst xs)):bq K H a xs:=.inl (.inl h)
theorem tD.of {K:cj} (h:H a=some 0#o):tD K H a xs:=.inl (.inl h)
theorem Inv.list {σ:St} (I:Inv X pins σ H s) (h:bq X.K H a xs):∃its:List aJ,Vals xs its∧PlainL s.heap a its.toArray∧xs.length≤sizeLine:=by
 rcases h with h | ⟨o,its,n,hk,hc,hd,hs,hz,r⟩
 ·obtain ⟨z,its,n,r,e⟩:=h.ok I.hok
  exact ⟨its,r,⟨_,n,e,rfl,rfl,rfl⟩,z⟩
 ·refine ⟨its.toList,r,⟨o,n,I.BQ a o hk,hc,hd,by simpa using hs⟩,?_⟩
  have e:=r.length
  simp only [Rb] at e
  simp?
theorem Inv.tuple {σ:St} (I:Inv X pins σ H s) (h:tD X.K H a xs):∃its:List aJ,Vals xs its∧IsTup s.heap a its.toArray∧xs.length≤sizeLine:=by
 rcases h with h | ⟨o,its,n,hk,hc,hs,hz,r⟩
 ·obtain ⟨z,its,r,p⟩:=h.ok I.hok
  exact ⟨its,r,p,z⟩
 ·refine ⟨its.toList,r,⟨o,I.BQ a o hk,hc,n,by simpa using hs⟩,?_⟩
  have e:=r.length
  simp only [Rb] at e
  simp?
theorem Inv.xP {σ:St} (I:Inv X pins σ H s) (h:bq X.K H a xs) (h':bq X.K H a ys):xs=ys:=by
 obtain ⟨its,r,⟨o,n,e,_,_,d⟩,_⟩:=I.list h
 obtain ⟨its',r',⟨o',n',e',_,_,d'⟩,_⟩:=I.list h'
 rw [e] at e';cases e'
 rw [d] at d'
 injection d' with d1 _
 have:its=its':=by simpa using congrArg abT d1
 subst this
 exact r.inj r'
theorem Inv.Ti {σ:St} (I:Inv X pins σ H s) (h:tD X.K H a xs) (h':tD X.K H a ys):xs=ys:=by
 obtain ⟨its,r,⟨o,e,_,n,d⟩,_⟩:=I.tuple h
 obtain ⟨its',r',⟨o',e',_,n',d'⟩,_⟩:=I.tuple h'
 rw [e] at e';cases e'
 rw [d] at d'
 injection d' with d1 _
 have:its=its':=by simpa using congrArg abT d1
 subst this
 exact r.inj r'
abbrev Cx.Gb (X:Cx) (E:aJ→bC→Prop):Cx:={ X with xe:=E }
abbrev Cx.nox (X:Cx):Cx:=X.Gb λ_ _=>False
theorem Cx.Ok.Gb {X:Cx} (ok:X.Ok) (E:aJ→bC→Prop):(X.Gb E).Ok:=
 ⟨ok.mod,ok.kind,ok.glob,ok.blt,ok.above,ok.inj,ok.has,ok.cab,ok.hd,ok.frames,ok.stk,ok.exf,ok.bs,ok.Z9,ok.Vj,ok.Ys,ok.BF,ok.frf⟩
theorem Cx.Ok.uI {X:Cx} (ok:(X.Gb E).Ok):X.Ok:=
 ⟨ok.mod,ok.kind,ok.glob,ok.blt,ok.above,ok.inj,ok.has,ok.cab,ok.hd,ok.frames,ok.stk,ok.exf,ok.bs,ok.Z9,ok.Vj,ok.Ys,ok.BF,ok.frf⟩
theorem Inv.Gb {σ:St} (I:Inv X pins σ H s) (E:aJ→bC→Prop):Inv (X.Gb E) pins σ H s:=⟨I.ok.Gb E,I.os,I.bare,I.base,I.loc,I.cell,I.free,I.vq,I.pin,I.hok,I.len⟩
theorem Inv.uI {σ:St} (I:Inv (X.Gb E) pins σ H s):Inv X pins σ H s:=⟨I.ok.uI,I.os,I.bare,I.base,I.loc,I.cell,I.free,I.vq,I.pin,I.hok,I.len⟩
theorem SP.uI (h:SP (X.Gb E) pins D f s'):SP X pins D f s':=by
 cases f with
 | next=>obtain ⟨σ',H',I,q⟩:=h;exact ⟨σ',H',I.uI,q⟩
 | brk=>obtain ⟨σ',H',I,q⟩:=h;exact ⟨σ',H',I.uI,q⟩
 | cont=>obtain ⟨σ',H',I,q⟩:=h;exact ⟨σ',H',I.uI,q⟩
 | ret u=>obtain ⟨v,σ',H',I,r,q⟩:=h;exact ⟨v,σ',H',I.uI,r,q⟩
theorem MH.nox {st:List aU} (h:MH X.nox st t):MH X st t:=λpins s σ H D I hw=>
 qA (h pins s σ H D (I.Gb _) hw) (λ_ _ q=>q.uI) λ_ _ z=>qB z
def Wr:TS:=λD σ H=>D.nx σ H
def EH (t u:TS):TS:=λD σ H=>t { D with nx:=u D } σ H
theorem Jk {X:Cx}:MH X [] Wr:=λ_ _ σ H _ I h=>Rn ⟨σ,H,I,h⟩
theorem DP {X:Cx} {st:aU} {rest:List aU} {t u:TS} (h1:PS X st t) (h2:MH X rest u):MH X (st::rest) (EH t u):=by
 intro pins s σ H D I h
 refine abh (iI (h1 pins s σ H { D with nx:=u D } I h) λf s1 q=>?_)
 cases f with
 | next=>
   obtain ⟨σ',H',I',q⟩:=q
   exact h2 pins s1 σ' H' D I' q
 | ret v=>exact q
 | brk=>exact q
 | cont=>exact q
theorem Jl {X:Cx} {st:aU} {t:TS} (h1:PS X st t):MH X [st] t:=by
 intro pins s σ H D I h
 refine abh (iI (h1 pins s σ H D I h) λf s1 q=>?_)
 cases f with
 | next=>exact Rn q
 | ret v=>exact q
 | brk=>exact q
 | cont=>exact q
def Wm:TS:=λD σ H=>D.ct σ H
theorem tU:PS X (.Continue pos) Wm:=λ_ _ σ H _ I h=>wpAny_Continue ⟨σ,H,I,h⟩
theorem Inv.quiet {σ:St} (I:Inv X pins σ H s):interactive X.env=false:=by simp [interactive,I.ok.kind]
def Wn (te:TE):TS:=λD σ H=>te σ H λ_ H1=>D.nx σ H1
theorem Jh {X:Cx} {e:bA} {te:TE} {pos:Pos} (he:PE X e te) (hs:mS e none pos.line X.env=pure false:=by rfl):PS X (.Expr e pos) (Wn te):=by
 intro pins s σ H D I h
 exact wpAny_Expr_any (iI (he pins s σ H _ I h) λv s1 ⟨x,H1,I1,r1,q1⟩=>⟨σ,H1,I1,q1⟩) I.quiet hs
def aei (te:TE):TS:=λD σ H=>te σ H D.rt
theorem Oz {X:Cx} {e:bA} {te:TE} {pos:Pos} (he:PE X e te):PS X (.Return (some e) pos) (aei te):=by
 intro pins s σ H D I h
 exact wpAny_Return_some (iI (he pins s σ H _ I h) λv s1 ⟨x,H1,I1,r1,q1⟩=>⟨x,σ,H1,I1,r1,q1⟩)
def aee (c:TT) (t u:TS):TS:=λD σ H=>c σ H λb H1=>if b=true then t D σ H1 else u D σ H1
theorem VJ {X:Cx} {t u:TS} {pos:Pos} {c:bA} {a b:List aU} {tc:TT} (hc:PT X c tc) (ha:MH X a t) (hb:MH X b u):PS X (.If c a b pos) (aee tc t u):=by
 intro pins s σ H D I h
 refine wpAny_If (iI (hc pins s σ H _ I h) λd s1 ⟨H1,I1,q1⟩=>?_)
 cases d with
 | true=>exact ha pins s1 σ H1 D I1 q1
 | false=>exact hb pins s1 σ H1 D I1 q1
def Wq:TS:=λ_ _ _=>False
theorem qq {st:aU}:PS X st Wq:=λ_ _ _ _ _ _ h=>h.elim
abbrev TG:=V→St→Hp→(St→Hp→Prop)→Prop
abbrev X5:=List V→St→Hp→(St→Hp→Prop)→Prop
def PG (X:Cx) (target:bA) (t:TG):Prop:=
 ∀(pins:List (aq×Obj)) (s:bC) (σ:St) (H:Hp) (v:V) (u:aJ) (Q:St→Hp→Prop),Inv X pins σ H s→RelV v u→t v σ H Q →
  cD 0#l X.A (assign target X.env u) (λ_ s'=>∃σ' H',Inv X pins σ' H' s'∧Q σ' H') X.xe s
def Z5 (X:Cx) (ts:List bA) (t:X5):Prop:=
 ∀(pins:List (aq×Obj)) (s:bC) (σ:St) (H:Hp) (vs:List V) (us:List aJ) (Q:St→Hp→Prop),Inv X pins σ H s→Vals vs us→t vs σ H Q →
  cD 0#l X.A (assignInOrder ((oS ts X.env).map (·.2)) us) (λ_ s'=>∃σ' H',Inv X pins σ' H' s'∧Q σ' H') X.xe s
abbrev aev:=V→V→V→Hp→(Hp→Prop)→Prop
def acu (X:Cx) (t:aev):Prop:=
 ∀(pins:List (aq×Obj)) (s:bC) (σ:St) (H:Hp) (o i v:V) (ov iv u:aJ) (Q:Hp→Prop),Inv X pins σ H s→RelV o ov→RelV i iv→RelV v u→t o i v H Q →
  cD 0#l X.A (setItem ov iv u) (λ_ s'=>∃H',Inv X pins σ H' s'∧Q H') X.xe s
def jw (i:Nat):TG:=λv σ H Q=>Q (σ.set i (some v)) H
theorem Jb {X:Cx} {pos:Pos} {i:Nat} {x:Str} (hN:X.N.Nodup) (hi:X.N[i]?=some x) (hx:Loc X.env.scope x) (hf:X.fn x=true∨X.env.scope.names.lookup x=some .local:=by first | exact .inl rfl | exact .inr rfl | assumption):PG X (.Name x pos) (jw i):=by
 intro pins s σ H v u Q I r h
 exact aa6 (yu I hN hi hx r (λs' I'=>⟨_,H,I',h⟩) hf)
def R1:X5:=λvs σ H Q=>vs=[]∧Q σ H
def rV (t:TG) (u:X5):X5:=λvs σ H Q=>∃v r,vs=v::r∧t v σ H λσ' H'=>u r σ' H' Q
theorem Jc {X:Cx}:Z5 X [] R1:=by
 intro pins s σ H vs us Q I r h
 obtain ⟨e,h⟩:=h
 subst e
 cases r
 exact aa7 ⟨σ,H,I,h⟩
theorem DJ {X:Cx} {e:bA} {es:List bA} {t:TG} {u:X5} (h1:PG X e t) (h2:Z5 X es u)
 (hs:(oS (e::es) X.env).map (·.2)=assign e X.env::(oS es X.env).map (·.2):=by rfl):Z5 X (e::es) (rV t u):=by
 intro pins s σ H vs us Q I r h
 obtain ⟨v,vr,e1,h⟩:=h
 subst e1
 cases r with
 | cons r rr=>
   rw [hs]
   refine WT (iI (h1 pins s σ H _ _ _ I r h) λ_ s1 ⟨σ1,H1,I1,q1⟩=>?_)
   exact h2 pins s1 σ1 H1 _ _ Q I1 rr q1
def R8 (K:cj) (n:Nat) (t:X5):TG:=λv σ H Q=>∃a xs,v=.ref a∧tD K H a xs∧xs.length=n∧t xs σ H Q
theorem adG (hc:X.calm=true) (h:Z5 X es t)
 (hn:(oS es X.env).length=n:=by rfl) (hst:(oS es X.env).findIdx? (·.1)=none:=by rfl):PG X (.Tuple es k pos) (R8 X.K n t):=by
 intro pins s σ H v u Q I r hw
 obtain ⟨a,xs,e1,hq,hl,hw⟩:=hw
 subst e1
 cases r
 obtain ⟨its,rv,ht,hz⟩:=I.tuple hq
 refine assign_Tuple_tuple (I.ok.hd hc) ht (by simp [hn,← hl,rv.length]) hst λh' hx=>?_
 have I1:Inv X pins σ H { s with heap:=h' }:=I.kept (t':=s.toks) λb o e=>hx b o (mP (gT e)) e
 exact h pins _ σ H xs _ Q I1 (by simpa using rv) hw
def acX (to ti:TE) (t:aev):TG:=λv σ H Q=>to σ H λo H1=>ti σ H1 λi H2=>t o i v H2 λH3=>Q σ H3
theorem Ot (ho:PE X o to) (hi:PE X i ti) (hs:acu X t)
 (ha:∀v,assign (.Subscript o i pos) X.env v=(do
   let ov ← holding [v] (eval o X.env)
   let iv ← holding [v,ov] (eval i X.env)
   Bx pos
   holding [v,ov,iv] (setItem ov iv v)
   release [v,ov,iv] []):=by intro _;rfl):PG X (.Subscript o i pos) (acX to ti t):=by
 intro pins s σ H v u Q I r h
 rw [ha]
 refine ie (Bt (iI (ho pins s σ H _ I h) λov s1 ⟨x,H1,I1,r1,q1⟩=>?_))
 refine ie (Bt (iI (hi pins s1 σ H1 _ I1 q1) λiv s2 ⟨y,H2,I2,r2,q2⟩=>?_))
 refine ie (Mx (ie (Bt (iI (hs pins s2 σ H2 x y v ov iv u _ I2 r1 r2 r q2) λ_ s3 ⟨H3,I3,q3⟩=>?_))))
 exact wpAny_release ⟨σ,H3,I3,q3⟩
def Ga (te:TE) (g:TG):TS:=λD σ H=>te σ H λx H1=>g x σ H1 D.nx
theorem Af (he:PE X e te) (hg:PG X tg g) (hs:swapsWithSole [tg] e pos.line X.env=pure false:=by rfl) (hw:swappedStores [tg] e X.env=pure none:=by rfl)
 (h1:(oS [tg] X.env).map (·.2)=[assign tg X.env]:=by rfl):PS X (.Assign [tg] e pos) (Ga te g):=by
 intro pins s σ H D I h
 refine wpAny_Assign_stores (iI (he pins s σ H _ I h) λv s1 ⟨x,H1,I1,r1,q1⟩=>?_) hs hw
 rw [h1]
 exact iI (hg pins s1 σ H1 x v _ I1 r1 q1) λ_ s2 q=>q
theorem Jj {X:Cx} {pos:Pos} {i:Nat} {x:Str} {e:bA} {te:TE} {pos':Pos} (hN:X.N.Nodup) (hi:X.N[i]?=some x) (hx:Loc X.env.scope x) (he:PE X e te) (hs:mS e (some (.Name x pos')) pos.line X.env=pure false:=by rfl) (hf:X.fn x=true∨X.env.scope.names.lookup x=some .local:=by first | exact .inl rfl | exact .inr rfl | assumption) :
 PS X (.Assign [.Name x pos'] e pos) (Ga te (jw i)):=by
 intro pins s σ H D I h
 refine wpAny_Assign_Name (iI (he pins s σ H _ I h) λv s1 ⟨y,H1,I1,r1,q1⟩=>?_) hs
 exact yu I1 hN hi hx r1 (λs2 I2=>⟨_,H1,I2,q1⟩) hf
def aeh (i j:Nat) (ta:TA):TS:=λD σ H=>ta σ H λvs H1=>∃v w,vs=[v,w]∧D.nx ((σ.set i (some v)).set j (some w)) H1
theorem Ji (hc:X.calm=true) (hN:X.N.Nodup) (hi:X.N[i]?=some x) (hj:X.N[j]?=some y) (hij:i≠j)
 (hx:X.env.scope.names.lookup x=some .local) (hy:X.env.scope.names.lookup y=some .local) (ha:PA X [a,b] ta)
 (hw:swappedStores [.Tuple [.Name x px,.Name y py] kt pt] (.Tuple [a,b] k2 pt2) X.env=pure (some [x,y]))
 (hs:swapsWithSole [.Tuple [.Name x px,.Name y py] kt pt] (.Tuple [a,b] k2 pt2) pos.line X.env=pure false:=by rfl) :
 PS X (.Assign [.Tuple [.Name x px,.Name y py] kt pt] (.Tuple [a,b] k2 pt2) pos) (aeh i j ta):=by
 intro pins s σ H D I h
 rw [exec_Assign_arm]
 refine ie (Mx ?_)
 rw [hs]
 refine ie (oU ?_)
 rw [if_neg 0#f]
 refine ie (Tuple_ (iI (ha _ pins s σ H _ I h) λus s1 ⟨vs,H1,I1,r1,q1⟩=>?_))
 obtain ⟨v,w,e1,q1⟩:=q1
 subst e1
 obtain ⟨u1,u2,rfl,rv,rw'⟩:∃u1 u2,us=[u1,u2]∧RelV v u1∧RelV w u2:=by
  cases r1 with
  | cons p q=>
    cases q with
    | cons p' q'=>
      cases q'
      exact ⟨_,_,rfl,p,p'⟩
 refine aa8 ?_ (by show 2≤sizeLine;decide)
 have I2:Inv X pins σ H1 { s1 with heap:=s1.heap.push { cls:=.type "tuple",data:=.seq [u1,u2].toArray } }:=I1.kept (t':=s1.toks) λb o e=>pX _ e
 rw [hw]
 refine ie (oU ?_)
 show cD 0#l X.A (do rule "assign.swapped-stores";let items ← unpackItems (.ref s1.heap.objs.size) 2 none;assignInOrder [λv=>bindName X.env y v,λv=>bindName X.env x v] items.reverse;pure Flow.next) _ _ _
 refine ie (wpAny_rule (ie (unpackItems_tuple (items:=#[u1,u2]) (I.ok.hd hc) (Xy s1.heap _) λh' hx'=>?_)))
 have I3:=I2.kept (h':=h') (t':=s1.toks) λb o e=>hx' b o (mP (gT e)) e
 show cD _ _ (assignInOrder [λv=>bindName X.env y v,λv=>bindName X.env x v] [u2,u1] >>= λ_=>pure Flow.next) _ _ _
 refine ie (WT (abx (yu I3 hN hj (.inl hy) rw' (λs2 I4=>?_) (.inr hy))))
 refine WT (abx (yu I4 hN hi (.inl hx) rv (λs3 I5=>aa7 (oU ?_)) (.inr hx)))
 rw [List.set_comm _ _ (j4 hij)] at I5
 exact ⟨_,H1,I5,q1⟩
def EI (c:TT) (tb:TS):TS:=λD σ H=>∃W:Nat→St→Hp→Prop,(∃m,W m σ H)∧∀m σ H,W m σ H →
 c σ H λb H1=>if b=true then ∃N:St→Hp→Prop,(∀σ' H',N σ' H'→∃m',m'<m∧W m' σ' H')∧tb { D with nx:=N,ct:=N,bk:=D.nx } σ H1 else D.nx σ H1
theorem lT (hp:RE 0#l X.A X.env X.xe) (hc:PT X c tc) (hb:MH X body tb):PS X (.While c body [] pos) (EI tc tb):=by
 intro pins s σ H D I h
 obtain ⟨W,⟨m0,w0⟩,turn⟩:=h
 refine wpAny_While (codeAny_whileLoop (λn s'=>∃σ' H',Inv X pins σ' H' s'∧W n σ' H') ?_ m0 ⟨σ,H,I,w0⟩)
 rintro n s1 ⟨σ1,H1,I1,w1⟩
 refine EM hp (iI (hc pins s1 σ1 H1 _ I1 (turn n σ1 H1 w1)) λb s2 ⟨H2,I2,q2⟩=>?_)
 cases b with
 | true=>
   obtain ⟨N,hN,q2⟩:=q2
   rw [if_pos rfl]
   refine EM hp (iI (hb pins s2 σ1 H2 _ I2 q2) λf s3 q3=>?_)
   cases f with
   | next=>
     obtain ⟨σ3,H3,I3,n3⟩:=q3
     obtain ⟨m',hm,w3⟩:=hN σ3 H3 n3
     exact ⟨m',hm,σ3,H3,I3,w3⟩
   | cont=>
     obtain ⟨σ3,H3,I3,n3⟩:=q3
     obtain ⟨m',hm,w3⟩:=hN σ3 H3 n3
     exact ⟨m',hm,σ3,H3,I3,w3⟩
   | brk=>exact q3
   | ret v=>exact q3
 | false=>
   rw [if_neg fQ]
   exact Rn ⟨σ1,H2,I2,q2⟩
structure It where
 go:Nat→Hp→Prop
 WC:Nat→Hp→V→Hp→Prop
 stop:Nat→Hp→Prop
def BD (X:Cx) (pins:List (aq×Obj)) (H:Hp) (b:aq):Prop:=
 H b=none∧b≠X.env.locals∧b∉X.fs∧(b∈X.ex∨X.s₀.heap.objs.size≤b)∧(∀x c,X.env.cells.lookup x=some c→c≠b)∧∀p∈X.pn++pins,p.1≠b
theorem Inv.M5 {σ:St} {b:aq} (I:Inv X pins σ H s) (hb:s.heap.objs.size≤b) (hn:H' b=none):BD X pins H' b:=by
 refine ⟨hn,Xg (rP I.lt hb),I.ah4 hb,.inr (dR I.sz hb),λx c e z=>?_,λp hp z=>?_⟩
 ·obtain ⟨v,q⟩:=I.cell x c e
  exact absurd (rP q.lt (by rw [z];exact hb)) (EO _)
 ·exact absurd (rP (gT (I.pin p hp).1) (by rw [z];exact hb)) (EO _)
structure Turn (P:jA) (w:fN) (K:cj) (tg:bA) (J:It) (fp:List aq) (it:aq) (tn:Nat→cP→Prop):Prop where
 mem:it∈fp
 obj:∀i h,tn i h→∀b∈fp,∃o,h.get? b=some o∧∀v,o.data≠.cell v
 keep:∀i h h',tn i h→(∀b∈fp,∀o,h.get? b=some o→h'.get? b=some o)→tn i h'
 item:∀(X:Cx),X.prog=P→X.w=w→X.K=K→X.calm=true→∀(i:Nat) (pins:List (aq×Obj)) (s:bC) (σ:St) (H:Hp) (E:aJ→bC→Prop),Inv X pins σ H s→(∀b∈fp,BD X pins H b)→tn i s.heap→J.go i H →
  cD (model P w) X.A (pyNext (.ref it)) (λr s1=>∃u,r=some u ∧
   cD (model P w) X.A (letOwnedTupleGo tg (.ref it) u) (λ_ s2=>∃x H',Inv X pins σ H' s2∧RelV x u∧J.WC i H x H'∧tn (i+1) s2.heap∧∀b∈fp,H' b=none) E s1) E s
 done:∀(X:Cx),X.prog=P→X.w=w→X.K=K→X.calm=true→∀(i:Nat) (pins:List (aq×Obj)) (s:bC) (σ:St) (H:Hp) (E:aJ→bC→Prop),Inv X pins σ H s→(∀b∈fp,BD X pins H b)→tn i s.heap→J.stop i H →
  cD (model P w) X.A (pyNext (.ref it)) (λr s1=>r=none∧Inv X pins σ H s1) E s
 self:∀(A:oO) (i:Nat) (s:bC) (Q:aJ→bC→Prop) (E:aJ→bC→Prop),tn i s.heap→Q (.ref it) s→cD (model P w) A (pyIter (.ref it)) Q E s
abbrev TI:=St→Hp→(It→Hp→Prop)→Prop
def PIE (X:Cx) (pins:List (aq×Obj)) (σ:St) (tg:bA) (R:It→Hp→Prop) (itv:aJ) (s2:bC):Prop:=
 ∃(it:aq) (fp:List aq) (tn:Nat→cP→Prop) (J:It) (H':Hp),itv=.ref it∧Inv X pins σ H' s2∧Turn X.prog X.w X.K tg J fp it tn∧tn 0 s2.heap∧(∀b∈fp,BD X pins H' b)∧R J H'
def PI (X:Cx) (tg iter:bA) (wi:TI):Prop:=
 ∀(pins:List (aq×Obj)) (s:bC) (σ:St) (H:Hp) (R:It→Hp→Prop),Inv X pins σ H s→wi σ H R →
  cD 0#l X.A (eval iter X.env) (λv s1=>cD 0#l X.A (pyIter v) (PIE X pins σ tg R) X.xe s1) X.xe s
theorem UE (ho:s.heap.get? it=some o) (hc:o.cls=.type n) (hd:o.data=.fields vs)
 (hn:["enumerate","zip","dict_itemiterator","dict_reverseitemiterator","odict_iterator","itertools.zip_longest","itertools.pairwise"].contains n=false) (hQ:Q () s):cD M A (letOwnedTupleGo tg (.ref it) u) Q E s:=by
 unfold letOwnedTupleGo
 cases tg <;> first
  | exact oU hQ
  | (cases u <;> first
      | exact oU hQ
      | (refine ie (wpAny_load ho ?_)
         rw [hc,hd]
         show cD M A (if (["enumerate","zip","dict_itemiterator","dict_reverseitemiterator","odict_iterator","itertools.zip_longest","itertools.pairwise"].contains n&&vs[0]?==some (rawInt _))=true then _ else _) Q E s
         rw [if_neg (by intro h;rw [hn,Bool.false_and] at h;cases h)]
         exact oU hQ))
def Itl (K:cj) (a:aq):It:=
 ⟨λi H=>∃xs x,bq K H a xs∧xs[i]?=some x,λi H x H'=>H'=H∧∀xs,bq K H a xs→xs[i]?=some x,λi H=>∃xs,bq K H a xs∧xs.length≤i⟩
def Itt (K:cj) (a:aq):It:=
 ⟨λi H=>∃xs x,tD K H a xs∧xs[i]?=some x,λi H x H'=>H'=H∧∀xs,tD K H a xs→xs[i]?=some x,λi H=>∃xs,tD K H a xs∧xs.length≤i⟩
def XC (lo:Int) (n:Nat):It:=⟨λi _=>i<n,λi H x H'=>H'=H∧x=.int (lo+i),λi _=>n≤i⟩
theorem Tn {K:cj} (a it:aq):Turn P w K tg (Itl K a) [it] it (λi h=>h.IsListIter it a i) where
 mem:=by simp
 obj:=λi h st b hb=>by
  have e:b=it:=by simpa using hb
  subst e
  obtain ⟨o,e,c,d⟩:=st
  exact ⟨o,e,λv z=>by rw [d] at z;cases z⟩
 keep:=λi h h' st k=>st.at λo e=>k it 0#d o e
 item:=by
  intro X hP hw hK hc i pins s σ H E I hf st hg
  subst hP hw hK
  obtain ⟨xs,x,hq,hx⟩:=hg
  obtain ⟨its,rv,p,hz⟩:=I.list hq
  obtain ⟨u,hu,ru⟩:=rv.get hx
  obtain ⟨f0,f1,f2,f3,f4,f5⟩:=hf it 0#d
  refine aaC st p.isList (x:=u) (by simpa using hu) λh' st' sb=>?_
  have I1:Inv X pins σ H { s with heap:=h' }:=I.turned (t':=s.toks) (λb o hb e=>(sb.2 b hb).trans e) f0 f1 f3 f4 f5
  obtain ⟨o,e,c,d⟩:=id st'
  exact ⟨u,rfl,UE (s:={ s with heap:=h' }) e c d 0#f ⟨x,H,I1,ru,⟨rfl,λys hy=>by rw [I.xP hy hq];exact hx⟩,st',λb hb=>(hf b hb).1⟩⟩
 done:=by
  intro X hP hw hK hc i pins s σ H E I hf st hg
  subst hP hw hK
  obtain ⟨xs,hq,hx⟩:=hg
  obtain ⟨its,rv,p,hz⟩:=I.list hq
  obtain ⟨f0,f1,f2,f3,f4,f5⟩:=hf it 0#d
  have hl:=rv.length
  exact aaJ (I.ok.hd hc) st p.isList (by simp;simp?) λh' eb=>⟨rfl,I.turned (t':=s.toks) (λb o hb e=>eb b o hb e) f0 f1 f3 f4 f5⟩
 self:=λ_ _ _ _ _ st h=>wpAny_pyIter_listiter st h
theorem Pg {K:cj} (a it:aq):Turn P w K tg (Itt K a) [it] it (λi h=>h.IsTupleIter it a i) where
 mem:=by simp
 obj:=λi h st b hb=>by
  have e:b=it:=by simpa using hb
  subst e
  obtain ⟨o,e,c,d⟩:=st
  exact ⟨o,e,λv z=>by rw [d] at z;cases z⟩
 keep:=λi h h' st k=>st.at λo e=>k it 0#d o e
 item:=by
  intro X hP hw hK hc i pins s σ H E I hf st hg
  subst hP hw hK
  obtain ⟨xs,x,hq,hx⟩:=hg
  obtain ⟨its,rv,p,hz⟩:=I.tuple hq
  obtain ⟨u,hu,ru⟩:=rv.get hx
  obtain ⟨f0,f1,f2,f3,f4,f5⟩:=hf it 0#d
  refine wpAny_pyNext_tuple_item st (show s.heap.IsTuple a its.toArray from p) (x:=u) (by simpa using hu) λh' st' sb=>?_
  have I1:Inv X pins σ H { s with heap:=h' }:=I.turned (t':=s.toks) (λb o hb e=>(sb.2 b hb).trans e) f0 f1 f3 f4 f5
  obtain ⟨o,e,c,d⟩:=id st'
  exact ⟨u,rfl,UE (s:={ s with heap:=h' }) e c d 0#f ⟨x,H,I1,ru,⟨rfl,λys hy=>by rw [I.Ti hy hq];exact hx⟩,st',λb hb=>(hf b hb).1⟩⟩
 done:=by
  intro X hP hw hK hc i pins s σ H E I hf st hg
  subst hP hw hK
  obtain ⟨xs,hq,hx⟩:=hg
  obtain ⟨its,rv,p,hz⟩:=I.tuple hq
  obtain ⟨f0,f1,f2,f3,f4,f5⟩:=hf it 0#d
  have hl:=rv.length
  exact wpAny_pyNext_tuple_end (I.ok.hd hc) st (show s.heap.IsTuple a its.toArray from p) (by simp;simp?) λh' eb=>⟨rfl,I.turned (t':=s.toks) (λb o hb e=>eb b o hb e) f0 f1 f3 f4 f5⟩
 self:=λ_ _ _ _ _ st h=>wpAny_pyIter_tupleiter st h
theorem Pf {K:cj} (it:aq) (lo:Int) (n:Nat):Turn P w K tg (XC lo n) [it] it (λi h=>IsRangeIter h it (lo+(i:Nat)*1) ((n:Int)-(i:Nat)) 1) where
 mem:=by simp
 obj:=λi h st b hb=>by
  have e:b=it:=by simpa using hb
  subst e
  exact ⟨_,st,λv z=>by
   have z':Data.fields _=Data.cell v:=z
   cases z'⟩
 keep:=λi h h' st k=>k it 0#d _ st
 item:=by
  intro X hP hw hK hc i pins s σ H E I hf st hg
  subst hP hw hK
  obtain ⟨f0,f1,f2,f3,f4,f5⟩:=hf it 0#d
  have W:=Walks.range (prog:=X.prog) (w:=X.w) (I.ok.hd hc) it lo 1 n
  refine W.item i s _ _ hg st λv h' tk hv st' kk=>?_
  obtain ⟨t,rfl⟩:=hv
  have I1:Inv X pins σ H { s with heap:=h',toks:=tk }:=I.turned (λb o hb e=>kk b o (by simpa using hb) e) f0 f1 f3 f4 f5
  refine ⟨_,rfl,UE (s:={ s with heap:=h',toks:=tk }) (n := "range_iterator") st' rfl rfl 0#f ⟨.int (lo+i),H,I1,⟨t,?_⟩,0#U,st',λb hb=>(hf b hb).1⟩⟩
  rw [Int.mul_one]
 done:=by
  intro X hP hw hK hc i pins s σ H E I hf st hg
  subst hP hw hK
  obtain ⟨f0,f1,f2,f3,f4,f5⟩:=hf it 0#d
  exact wpAny_pyNext_range_end (I.ok.hd hc) st (by have:n≤i:=hg;simp?) λh' eb=>⟨rfl,I.turned (t':=s.toks) (λb o hb e=>eb b o hb e) f0 f1 f3 f4 f5⟩
 self:=λ_ _ _ _ _ st h=>wpAny_pyIter_rangeiter st h
def Qf (K:cj) (tl:TE):TI:=λσ H R=>tl σ H λx H1=>∃a,x=.ref a∧(∃xs,bq K H1 a xs)∧R (Itl K a) H1
def YT (K:cj) (tl:TE):TI:=λσ H R=>tl σ H λx H1=>∃a,x=.ref a∧(∃xs,tD K H1 a xs)∧R (Itt K a) H1
theorem Zu (hl:PE X l tl):PI X tg l (Qf X.K tl):=by
 intro pins s σ H R I h
 refine iI (hl pins s σ H _ I h) λv s1 ⟨x,H1,I1,r1,q1⟩=>?_
 obtain ⟨a,e,⟨xs,hq⟩,q⟩:=q1
 subst e
 cases r1
 obtain ⟨its,rv,p,hz⟩:=I1.list hq
 refine aa9 p.isList ?_
 refine ⟨s1.heap.objs.size,[s1.heap.objs.size],_,_,H1,rfl,I1.kept (t':=s1.toks) λb o e=>pX _ e,Tn a _,⟨_,Gd _ rfl,rfl,rfl⟩,λb hb=>?_,q⟩
 have e:b=s1.heap.objs.size:=by simpa using hb
 subst e
 exact I1.M5 (dS _) (I1.hok.fresh (dS _))
theorem adH (hl:PE X l tl):PI X tg l (YT X.K tl):=by
 intro pins s σ H R I h
 refine iI (hl pins s σ H _ I h) λv s1 ⟨x,H1,I1,r1,q1⟩=>?_
 obtain ⟨a,e,⟨xs,hq⟩,q⟩:=q1
 subst e
 cases r1
 obtain ⟨its,rv,p,hz⟩:=I1.tuple hq
 refine wpAny_pyIter_tuple (show s1.heap.IsTuple a its.toArray from p) ?_
 refine ⟨s1.heap.objs.size,[s1.heap.objs.size],_,_,H1,rfl,I1.kept (t':=s1.toks) λb o e=>pX _ e,Pg a _,⟨_,Gd _ rfl,rfl,rfl⟩,λb hb=>?_,q⟩
 have e:b=s1.heap.objs.size:=by simpa using hb
 subst e
 exact I1.M5 (dS _) (I1.hok.fresh (dS _))
theorem LK {σ:St} {lo:Int} (I:Inv X pins σ H s) (h1:-(2 ^ 62)≤lo) (h2:lo<2 ^ 62) (h3:-(2 ^ 62)≤hi) (h4:hi<2 ^ 62)
 (q:R (XC lo (hi-lo).toNat) H):cD 0#l X.A (pyIter (.ref s.heap.objs.size)) (PIE X pins σ tg R) E { s with heap:=s.heap.push { cls:=.type "range",data:=.fields #[.int lo t,.int hi u,.int 1 v] },toks:=tk }:=by
 refine wpAny_pyIter_range (IsRange.new ..) (small_one h1 h2 h3 h4) ?_
 have I1:Inv X pins σ H { s with heap:=s.heap.push { cls:=.type "range",data:=.fields #[.int lo t,.int hi u,.int 1 v] },toks:=tk }:=I.kept λb o e=>pX _ e
 refine ⟨(s.heap.push { cls:=.type "range",data:=.fields #[.int lo t,.int hi u,.int 1 v] }).objs.size,[(s.heap.push { cls:=.type "range",data:=.fields #[.int lo t,.int hi u,.int 1 v] }).objs.size],_,_,H,rfl,
  I1.kept (t':=tk) λb o e=>pX _ e,Pf _ lo (hi-lo).toNat,?_,λb hb=>?_,q⟩
 ·have e1:lo+((0:Nat):Int)*1=lo:=by simp
  have e2:(((hi-lo).toNat:Nat):Int)-((0:Nat):Int)=agL lo hi 1:=by rw [rangeSize_one];split <;> simp?
  show IsRangeIter _ _ (lo+((0:Nat):Int)*1) ((((hi-lo).toNat:Nat):Int)-((0:Nat):Int)) 1
  rw [e1,e2]
  exact Gd _ rfl
 ·have e:b=(s.heap.push { cls:=.type "range",data:=.fields #[.int lo t,.int hi u,.int 1 v] }).objs.size:=by simpa using hb
  subst e
  exact I1.M5 (dS _) (I1.hok.fresh (dS _))
def UW (ta:TA):TI:=λσ H R=>ta σ H λvs H1=>∃j:Int,vs=[.int j]∧-(2 ^ 62)≤j∧j<2 ^ 62∧R (XC 0 j.toNat) H1
def UX (ta:TA):TI:=λσ H R=>ta σ H λvs H1=>∃i j:Int,vs=[.int i,.int j]∧(-(2 ^ 62)≤i∧i<2 ^ 62∧-(2 ^ 62)≤j∧j<2 ^ 62)∧R (XC i (j-i).toNat) H1
theorem Aa (hg:Gl X "range") (hm:X.mg "range"=none) (ha:PA X [a] ta) (hs:bG [a] X.env=[(false,eval a X.env)]:=by rfl):PI X tg (.Call (.Name "range" p) [a] [] pos) (UW ta):=by
 intro pins s σ H R I h
 refine Call_ (wj I hg hm boot_range (Mc (iI (ha pos pins s σ H _ I h) λus s1 ⟨vs,H1,I1,r1,q1⟩=>?_) hs rfl))
 obtain ⟨j,e,q1,q2,q⟩:=q1
 subst e
 cases r1 with
 | cons r rr=>
   cases rr
   obtain ⟨t,rfl⟩:=r
   exact call_range_1 (LK I1 0#b 0#b q1 q2 (by simpa using q))
theorem Ab (hg:Gl X "range") (hm:X.mg "range"=none) (ha:PA X [a,b] ta) (hs:bG [a,b] X.env=[(false,eval a X.env),(false,eval b X.env)]:=by rfl) (hs2:bG [b] X.env=[(false,eval b X.env)]:=by rfl) :
 PI X tg (.Call (.Name "range" p) [a,b] [] pos) (UX ta):=by
 intro pins s σ H R I h
 refine Call_ (wj I hg hm boot_range (Mc (iI (ha pos pins s σ H _ I h) λus s1 ⟨vs,H1,I1,r1,q1⟩=>?_) (by rw [hs,hs2]) (by rw [hs2];rfl)))
 obtain ⟨i,j,e,⟨q1,q2,q3,q4⟩,q⟩:=q1
 subst e
 cases r1 with
 | cons r rr=>
   cases rr with
   | cons r' rr=>
     cases rr
     obtain ⟨t,rfl⟩:=r
     obtain ⟨t',rfl⟩:=r'
     exact call_range_2 (LK I1 q1 q2 q3 q4 q)
def aed (wi:TI) (g:TG) (tb:TS):TS:=λD σ H=>wi σ H λJ H1=>∃W:Nat→Nat→St→Hp→Prop,(∃m,W 0 m σ H1)∧∀i m σ H,W i m σ H →
 (J.stop i H∧D.nx σ H)∨(J.go i H∧∃N:St→Hp→Prop,(∀σ' H',N σ' H'→∃m',m'<m∧W (i+1) m' σ' H')∧∀x H',J.WC i H x H'→g x σ H' λσ2 H2=>tb { D with nx:=N,ct:=N,bk:=D.nx } σ2 H2)
def DN (fp:List aq) (h:cP):List (aq×Obj):=fp.filterMap λb=>(h.get? b).map λo=>(b,o)
theorem qS (hb:b∈fp) (e:h.get? b=some o):(b,o)∈DN fp h:=aaZ.mpr ⟨b,hb,by rw [e];rfl⟩
theorem SM (hp:p∈DN fp h):p.1∈fp∧h.get? p.1=some p.2:=by
 obtain ⟨b,hb,e⟩:=aaZ.mp hp
 cases q:h.get? b with
 | none=>rw [q] at e;cases e
 | some o=>
   rw [q] at e
   have e':(b,o)=p:=qE e
   subst e'
   exact ⟨hb,q⟩
theorem Inv.pinned {σ:St} (I:Inv X pins σ H s) (hf:∀b∈fp,BD X pins H b) (ho:∀b∈fp,∃o,s.heap.get? b=some o∧∀v,o.data≠.cell v):Inv X (pins++DN fp s.heap) σ H s:=
 I.QD λp hp=>(fK.mp hp).elim (λz=>I.pin p (E2 _ z)) λz=>by
  obtain ⟨hb,e⟩:=SM z
  obtain ⟨f0,f1,f2,_⟩:=hf p.1 hb
  obtain ⟨o,e',d⟩:=ho p.1 hb
  rw [e] at e';cases e'
  exact ⟨e,f0,f1,f2,d⟩
theorem Inv.uH {σ:St} (I:Inv X (pins++pl) σ H s):Inv X pins σ H s:=I.QD λp hp=>I.pin p (E2 _ (G7 _ hp))
theorem Ox {X:Cx} {tg:bA} {iter:bA} {body:List aU} {wi:TI} {g:TG} {tb:TS} {pos:Pos} (hp:RE 0#l X.A X.env X.xe) (hc:X.calm=true) (hi:PI X tg iter wi) (hg:PG X tg g) (hb:MH X body tb)
 (hs:∀x,yC iter X.env x=pure x:=by intro _;rfl):PS X (.For tg iter body [] pos) (aed wi g tb):=by
 intro pins s σ H D I h
 refine wpAny_For (iI (hi pins s σ H _ I h) λv s1 h1=>iI h1 λitv s2 h2=>?_) hs
 obtain ⟨it,fp,tn,J,H2,e,I2,T,st2,f2,W,⟨m0,w0⟩,turn⟩:=h2
 subst e
  -- what stays true of the iterator's objects through the loop
 have ad9:∀{H':Hp},(∀b∈fp,H' b=none)→∀b∈fp,BD X pins H' b:=λhn b hb=>⟨hn b hb,(f2 b hb).2⟩
 refine codeAny_forLoop_any (λn s'=>∃i σ' H',Inv X pins σ' H' s'∧tn i s'.heap∧(∀b∈fp,H' b=none)∧W i n σ' H') ?_ m0 ⟨0,σ,H2,I2,st2,λb hb=>(f2 b hb).1,w0⟩
 rintro n s3 ⟨i,σ3,H3,I3,st3,fr3,w3⟩
 rcases turn i n σ3 H3 w3 with ⟨stop,qn⟩ | ⟨go,N,hN,step⟩
 ·refine EM hp (iI (T.done X rfl rfl rfl hc i pins s3 σ3 H3 X.xe I3 (ad9 fr3) st3 stop) λr s4 ⟨hr,I4⟩=>?_)
  subst hr
  exact Rn ⟨σ3,H3,I4,qn⟩
 ·refine EM hp (iI (T.item X rfl rfl rfl hc i pins s3 σ3 H3 X.xe I3 (ad9 fr3) st3 go) λr s4 ⟨u,hr,h4⟩=>?_)
  subst hr
  refine EM hp (iI h4 λ_ s5 ⟨x,H5,I5,r5,y5,st5,fr5⟩=>?_)
  have I5':=I5.pinned (ad9 fr5) (T.obj _ _ st5)
  refine EM hp (iI (hg _ s5 σ3 H5 x u _ I5' r5 (step x H5 y5)) λ_ s6 ⟨σ6,H6,I6,q6⟩=>?_)
  refine EM hp (iI (hb _ s6 σ6 H6 _ I6 q6) λf s7 q7=>?_)
  have again:∀{XA:St} {H7:Hp},Inv X (pins++DN fp s5.heap) XA H7 s7→N XA H7→∃m,m<n∧∃i σ' H',Inv X pins σ' H' s7∧tn i s7.heap∧(∀b∈fp,H' b=none)∧W i m σ' H':=λ{XA H7} I7 n7=>by
   obtain ⟨m',hm,w7⟩:=hN XA H7 n7
   refine ⟨m',hm,i+1,XA,H7,I7.uH,T.keep _ _ _ st5 λb hb o e=>(I7.pin (b,o) (E2 _ (E2 _ (qS hb e)))).1,λb hb=>?_,w7⟩
   obtain ⟨o,e,d⟩:=T.obj _ _ st5 b hb
   exact (I7.pin (b,o) (E2 _ (E2 _ (qS hb e)))).2.1
  cases f with
  | next=>obtain ⟨XA,H7,I7,n7⟩:=q7;exact again I7 n7
  | cont=>obtain ⟨XA,H7,I7,n7⟩:=q7;exact again I7 n7
  | brk=>obtain ⟨XA,H7,I7,q7⟩:=q7;exact ⟨XA,H7,I7.uH,q7⟩
  | ret v=>obtain ⟨x7,XA,H7,I7,r7,q7⟩:=q7;exact ⟨x7,XA,H7,I7.uH,r7,q7⟩
theorem d8 {K:cj} {a:aq} {g:TG} {tb:TS} {D:Ends} {σ:St} {H:Hp} (Pv:Nat→St→Hp→Prop) (h0:Pv 0 σ H) (hl:∀i σ H,i≤xs.length→Pv i σ H→bq K H a xs)
 (hs:∀i x σ H,xs[i]?=some x→Pv i σ H→g x σ H λσ2 H2=>tb { D with nx:=Pv (i+1),ct:=Pv (i+1),bk:=D.nx } σ2 H2) (hd:∀σ H,Pv xs.length σ H→D.nx σ H) :
 ∃W:Nat→Nat→St→Hp→Prop,(∃m,W 0 m σ H)∧∀i m σ H,W i m σ H →
  ((Itl K a).stop i H∧D.nx σ H)∨((Itl K a).go i H∧∃N:St→Hp→Prop,(∀σ' H',N σ' H'→∃m',m'<m∧W (i+1) m' σ' H')∧∀x H',(Itl K a).WC i H x H'→g x σ H' λσ2 H2=>tb { D with nx:=N,ct:=N,bk:=D.nx } σ2 H2):=by
 refine ⟨λi m σ H=>m=xs.length-i∧i≤xs.length∧Pv i σ H,⟨xs.length,by simp,lX _,h0⟩,?_⟩
 rintro i m σ H ⟨rfl,hi,p⟩
 have q:=hl i σ H hi p
 by_cases hlt:i<xs.length
 ·refine .inr ⟨⟨xs,xs[i],q,by simp [hlt]⟩,Pv (i+1),λσ' H' p'=>⟨xs.length-(i+1),by simp?,rfl,hlt,p'⟩,λx H' y=>?_⟩
  obtain ⟨e,y⟩:=y
  subst e
  exact hs i x σ _ (y xs q) p
 ·have e:i=xs.length:=by simp?
  subst e
  exact .inl ⟨⟨xs,q,dS _⟩,hd σ H p⟩
theorem dc {lo:Int} {n:Nat} {g:TG} {tb:TS} {D:Ends} {H:Hp} (Pv:Nat→St→Hp→Prop) (h0:Pv 0 σ H)
 (hs:∀i σ H,i<n→Pv i σ H→g (.int (lo+i)) σ H λσ2 H2=>tb { D with nx:=Pv (i+1),ct:=Pv (i+1),bk:=D.nx } σ2 H2) (hd:∀σ H,Pv n σ H→D.nx σ H) :
 ∃W:Nat→Nat→St→Hp→Prop,(∃m,W 0 m σ H)∧∀i m σ H,W i m σ H →
  ((XC lo n).stop i H∧D.nx σ H)∨((XC lo n).go i H∧∃N:St→Hp→Prop,(∀σ' H',N σ' H'→∃m',m'<m∧W (i+1) m' σ' H')∧∀x H',(XC lo n).WC i H x H'→g x σ H' λσ2 H2=>tb { D with nx:=N,ct:=N,bk:=D.nx } σ2 H2):=by
 refine ⟨λi m σ H=>m=n-i∧i≤n∧Pv i σ H,⟨n,by simp,lX _,h0⟩,?_⟩
 rintro i m σ H ⟨rfl,hi,p⟩
 by_cases hlt:i<n
 ·refine .inr ⟨hlt,Pv (i+1),λσ' H' p'=>⟨n-(i+1),by simp?,rfl,hlt,p'⟩,λx H' y=>?_⟩
  obtain ⟨e,y⟩:=y
  subst e y
  exact hs i σ _ hlt p
 ·have e:i=n:=by simp?
  subst e
  exact .inl ⟨dS _,hd σ H p⟩
theorem yz (Pv:St→Hp→Prop) (μ:St→Hp→Nat) (h0:Pv σ H)
 (hs:∀σ H,Pv σ H→c σ H λb H1=>if b=true then tb { D with nx:=λσ' H'=>Pv σ' H'∧μ σ' H'<μ σ H,ct:=λσ' H'=>Pv σ' H'∧μ σ' H'<μ σ H,bk:=D.nx } σ H1 else D.nx σ H1)
 (mono:∀σ H Q Q',(∀b H1,Q b H1→Q' b H1)→c σ H Q→c σ H Q'):EI c tb D σ H:=by
 refine ⟨λm σ H=>m=μ σ H∧Pv σ H,⟨_,rfl,h0⟩,?_⟩
 rintro m σ H ⟨rfl,p⟩
 refine mono σ H _ _ (λb H1 q=>?_) (hs σ H p)
 cases b with
 | true=>exact ⟨_,λσ' H' ⟨p',l⟩=>⟨_,l,rfl,p'⟩,q⟩
 | false=>exact q
abbrev R2:=V→V→Hp→VK→Prop
def rT (X:Cx) (f:aJ→aJ→Sem aJ) (r:R2):Prop:=
 ∀(pins:List (aq×Obj)) (s:bC) (σ:St) (H:Hp) (x y:V) (v u:aJ) (Q:VK),Inv X pins σ H s→RelV x v→RelV y u→r x y H Q →
  cD 0#l X.A (f v u) (EP X pins σ Q) X.xe s
def UnR (X:Cx) (f:aJ→Sem aJ) (r:V→Hp→VK→Prop):Prop:=
 ∀(pins:List (aq×Obj)) (s:bC) (σ:St) (H:Hp) (x:V) (v:aJ) (Q:VK),Inv X pins σ H s→RelV x v→r x H Q →
  cD 0#l X.A (f v) (EP X pins σ Q) X.xe s
def jP (X:Cx) (f:aJ) (r:List V→Hp→VK→Prop):Prop:=
 ∀(pins:List (aq×Obj)) (s:bC) (σ:St) (H:Hp) (xs:List V) (us:List aJ) (Q:VK),Inv X pins σ H s→Vals xs us→r xs H Q →
  cD 0#l X.A (call f us) (EP X pins σ Q) X.xe s
def Wt (r:R2) (ta tb:TE):TE:=λσ H Q=>ta σ H λx H1=>tb σ H1 λy H2=>r x y H2 Q
def ZT (r:V→Hp→VK→Prop) (ta:TE):TE:=λσ H Q=>ta σ H λx H1=>r x H1 Q
def rI (C:Int→Int→Prop) (g:Int→Int→V):R2:=λx y H Q=>∃i j,x=.int i∧y=.int j∧C i j∧Q (g i j) H
def Zw (g:Int→Int→V):R2:=λx y H Q=>∃i j,x=.int i∧y=.int j∧Q (g i j) H
def rU (g:Int→V):V→Hp→VK→Prop:=λx H Q=>∃i,x=.int i∧Q (g i) H
theorem acz {X:Cx} {a b:bA} {ta tb:TE} (ha:PE X a ta) (hb:PE X b tb)  {s:bC} {σ:St} {H:Hp} {R:V→V→Hp→Prop} (I:Inv X pins σ H s)
 (h:ta σ H λx H1=>tb σ H1 λy H2=>R x y H2) {Q:aJ→bC→Prop} {f:aJ→aJ→Sem aJ}
 (hf:∀v u s2 x y H2,Inv X pins σ H2 s2→RelV x v→RelV y u→R x y H2→cD 0#l X.A (f v u) Q X.xe s2) :
 cD 0#l X.A (eval a X.env) (λv s₁=>cD 0#l X.A (eval b X.env) (λu s₂=>cD 0#l X.A (f v u) Q X.xe s₂) X.xe s₁) X.xe s:=by
 refine iI (ha pins s σ H _ I h) λv s1 ⟨x,H1,I1,r1,q1⟩=>?_
 refine iI (hb pins s1 σ H1 _ I1 q1) λu s2 ⟨y,H2,I2,r2,q2⟩=>?_
 exact hf v u s2 x y H2 I2 r1 r2 q2
theorem VF {X:Cx} {a b:bA} {ta tb:TE} {pos:Pos} {op:Operator} {r:R2} (ho:rT X (pC op) r) (ha:PE X a ta) (hb:PE X b tb):PE X (.BinOp a op b pos) (Wt r ta tb):=by
 intro pins s σ H Q I h
 exact wpAny_BinOp (acz ha hb I h λv u s2 x y H2 I2 rx ry q=>ho pins s2 σ H2 x y v u Q I2 rx ry q)
theorem VH {X:Cx} {a:bA} {ta:TE} {pos:Pos} {op:UnaryOp} {r:V→Hp→VK→Prop} (ho:UnR X (unaryOp op) r) (ha:PE X a ta):PE X (.UnaryOp op a pos) (ZT r ta):=by
 intro pins s σ H Q I h
 exact UnaryOp_ (iI (ha pins s σ H _ I h) λv s1 ⟨x,H1,I1,r1,q1⟩=>ho pins s1 σ H1 x v Q I1 r1 q1)
theorem opI {g:Int→Int→Int}
 (rule:∀(i j:Int) (t u:Tok) (s:bC) (Q:aJ→bC→Prop) (E:aJ→bC→Prop),C i j→Q (.int (g i j) s.toks) { s with toks:=s.toks+1 }→cD 0#l X.A (f (.int i t) (.int j u)) Q E s) :
 rT X f (rI C λi j=>.int (g i j)):=by
 intro pins s σ H x y v u Q I rx ry h
 obtain ⟨i,j,rfl,rfl,hc,q⟩:=h
 obtain ⟨t,rfl⟩:=rx
 obtain ⟨t',rfl⟩:=ry
 exact rule i j t t' s _ _ hc ⟨.int (g i j),H,I.tok _,⟨_,rfl⟩,q⟩
theorem afu {g:Int→Int→Int}
 (rule:∀(i j:Int) (t u:Tok) (s:bC) (Q:aJ→bC→Prop) (E:aJ→bC→Prop),Q (.int (g i j) s.toks) { s with toks:=s.toks+1 }→cD 0#l X.A (f (.int i t) (.int j u)) Q E s) :
 rT X f (Zw λi j=>.int (g i j)):=by
 intro pins s σ H x y v u Q I rx ry h
 obtain ⟨i,j,rfl,rfl,q⟩:=h
 obtain ⟨t,rfl⟩:=rx
 obtain ⟨t',rfl⟩:=ry
 exact rule i j t t' s _ _ ⟨.int (g i j),H,I.tok _,⟨_,rfl⟩,q⟩
theorem Zm {g:Int→Int→Bool}
 (rule:∀(i j:Int) (t u:Tok) (s:bC) (Q:aJ→bC→Prop) (E:aJ→bC→Prop),Q (.bool (g i j)) s→cD 0#l X.A (f (.int i t) (.int j u)) Q E s) :
 rT X f (Zw λi j=>.bl (g i j)):=by
 intro pins s σ H x y v u Q I rx ry h
 obtain ⟨i,j,rfl,rfl,q⟩:=h
 obtain ⟨t,rfl⟩:=rx
 obtain ⟨t',rfl⟩:=ry
 exact rule i j t t' s _ _ ⟨.bl (g i j),H,I,rfl,q⟩
def aer (i j:Int):Prop:=0≤j∧j≤1000000∧i.natAbs<2 ^ 64
def XZ (i j:Int):Prop:=(-(2 ^ 64)<i∧i<2 ^ 64)∨(-(2 ^ 64)<j∧j<2 ^ 64)
theorem XZ.ok (h:XZ i j):IntMulOk i j:=by
 rcases h with ⟨h1,h2⟩ | ⟨h1,h2⟩
 ·exact .of_left (abH h1 h2)
 ·exact .of_right (abH h1 h2)
theorem Ph (k:Nat):(0:Int)≤2 ^ k:=by
 rw [two_pow_cast]
 exact Rc _
theorem bB:rT X (pC .Add) (Zw λi j=>.int (i+j)):=afu λ_ _ _ _ _ _ _ q=>add_int q
theorem bT:rT X (pC .Sub) (Zw λi j=>.int (i-j)):=afu λ_ _ _ _ _ _ _ q=>sub_int q
theorem jl:rT X (pC .Mod) (rI (λ_ j=>0<j) λi j=>.int (i % j)):=opI λi j _ _ _ _ _ hc q=>by
 have h1:(0:Int)<j:=hc
 exact mod_int' 0#b (by rw [Int.fmod_eq_emod_of_nonneg i 0#b];exact q)
theorem qW:rT X (pC .Pow) (rI aer λi j=>.int (i ^ j.toNat)):=opI λ_ _ _ _ _ _ _ hc q=>pow_int_small hc.1 hc.2.1 hc.2.2 q
theorem Vx:rT X (pC .RShift) (rI (λ_ j=>0≤j) λi j=>.int (i/2 ^ j.toNat)):=opI λi j _ _ _ _ _ hc q=>
 rshift_int hc (by rw [B8 i (Ph _)];exact q)
theorem unI {g:Int→Int}
 (rule:∀(i:Int) (t:Tok) (s:bC) (Q:aJ→bC→Prop) (E:aJ→bC→Prop),Q (.int (g i) s.toks) { s with toks:=s.toks+1 }→cD 0#l X.A (f (.int i t)) Q E s) :
 UnR X f (rU λi=>.int (g i)):=by
 intro pins s σ H x v Q I rx h
 obtain ⟨i,rfl,q⟩:=h
 obtain ⟨t,rfl⟩:=rx
 exact rule i t s _ _ ⟨.int (g i),H,I.tok _,⟨_,rfl⟩,q⟩
theorem dH:UnR X (unaryOp .USub) (rU λi=>.int (-i)):=unI λ_ _ _ _ _ q=>neg_int q
def ZL:V→V→Bool
 | .bK,.bK=>true | .bK,.int _=>true | .int _,.bK=>true | .bK,.bl _=>true | .bl _,.bK=>true | .bK,.str _=>true | .str _,.bK=>true
 | .int _,.int _=>true | .bl _,.bl _=>true | .str _,.str _=>true | .Tt _,.Tt _=>true
 | .int _,.str _=>true | .str _,.int _=>true | .bl _,.str _=>true | .str _,.bl _=>true
 | _,_=>false
def rEq:R2:=λx y H Q=>ZL x y=true∧Q (.bl (decide (x=y))) H
def rNe:R2:=λx y H Q=>ZL x y=true∧Q (.bl (!decide (x=y))) H
theorem PU:decide (V.int i=V.int j)=(i==j):=by
 rw [Ro]
 simp
theorem Ul:decide (V.bl i=V.bl j)=(i==j):=by
 rw [Ro]
 simp
theorem PV:decide (V.str i=V.str j)=(i==j):=by
 rw [Ro]
 simp
theorem PR:decide (V.Tt i=V.Tt j)=(i.toList==j.toList):=by
 rw [Ro]
 cases i
 cases j
 simp
theorem cU {σ:St} (I:Inv X pins σ H s) (q:Q (.bl k) H) (e:k=k'):EP X pins σ Q (.bool k') s:=by
 subst e
 exact ⟨.bl k,H,I,rfl,q⟩
theorem fE:rT X (oV .Eq) rEq:=by
 intro pins s σ H x y v u Q I rx ry h
 obtain ⟨hs,q⟩:=h
 cases x with
 | bK=>
   cases rx
   cases y with
   | bK=>cases ry;exact ago (cU I q 0#d)
   | bl j=>cases ry;exact agp (cU I q 0#d)
   | int j=>obtain ⟨t',rfl⟩:=ry;exact agy (cU I q 0#d)
   | str j=>obtain ⟨t',rfl⟩:=ry;exact agz (cU I q 0#d)
   | _=>exact absurd (show false=true from hs) fQ
 | bl i=>
   cases rx
   cases y with
   | bK=>cases ry;exact agq (cU I q 0#d)
   | bl j=>cases ry;exact eq_bool (cU I q Ul)
   | str j=>obtain ⟨t',rfl⟩:=ry;exact agr (cU I q 0#d)
   | _=>exact absurd (show false=true from hs) fQ
 | int i=>
   obtain ⟨t,rfl⟩:=rx
   cases y with
   | bK=>cases ry;exact agA (cU I q 0#d)
   | int j=>obtain ⟨t',rfl⟩:=ry;exact eq_int (cU I q PU)
   | str j=>obtain ⟨t',rfl⟩:=ry;exact agB (cU I q 0#d)
   | _=>exact absurd (show false=true from hs) fQ
 | str i=>
   obtain ⟨t,rfl⟩:=rx
   cases y with
   | bK=>cases ry;exact agC (cU I q 0#d)
   | bl j=>cases ry;exact ags (cU I q 0#d)
   | int j=>obtain ⟨t',rfl⟩:=ry;exact agD (cU I q 0#d)
   | str j=>obtain ⟨t',rfl⟩:=ry;exact eq_str (cU I q PV)
   | _=>exact absurd (show false=true from hs) fQ
 | Tt i=>
   obtain ⟨t,rfl⟩:=rx
   cases y with
   | Tt j=>obtain ⟨t',rfl⟩:=ry;exact PySem.W.eq_bytes (cU I q PR)
   | _=>exact absurd (show false=true from hs) fQ
 | _=>cases y <;> exact absurd (show false=true from hs) fQ
theorem aal:rT X (oV .NotEq) rNe:=by
 intro pins s σ H x y v u Q I rx ry h
 obtain ⟨hs,q⟩:=h
 cases x with
 | bK=>
   cases rx
   cases y with
   | bK=>cases ry;exact agt (cU I q 0#d)
   | bl j=>cases ry;exact agu (cU I q 0#d)
   | int j=>obtain ⟨t',rfl⟩:=ry;exact agE (cU I q 0#d)
   | str j=>obtain ⟨t',rfl⟩:=ry;exact agF (cU I q 0#d)
   | _=>exact absurd (show false=true from hs) fQ
 | bl i=>
   cases rx
   cases y with
   | bK=>cases ry;exact agv (cU I q 0#d)
   | bl j=>cases ry;exact ne_bool (cU I q (congrArg not Ul))
   | str j=>obtain ⟨t',rfl⟩:=ry;exact agw (cU I q 0#d)
   | _=>exact absurd (show false=true from hs) fQ
 | int i=>
   obtain ⟨t,rfl⟩:=rx
   cases y with
   | bK=>cases ry;exact agG (cU I q 0#d)
   | int j=>obtain ⟨t',rfl⟩:=ry;exact ne_int (cU I q (congrArg not PU))
   | str j=>obtain ⟨t',rfl⟩:=ry;exact agH (cU I q 0#d)
   | _=>exact absurd (show false=true from hs) fQ
 | str i=>
   obtain ⟨t,rfl⟩:=rx
   cases y with
   | bK=>cases ry;exact agI (cU I q 0#d)
   | bl j=>cases ry;exact agx (cU I q 0#d)
   | int j=>obtain ⟨t',rfl⟩:=ry;exact agJ (cU I q 0#d)
   | str j=>obtain ⟨t',rfl⟩:=ry;exact ne_str (cU I q (congrArg not PV))
   | _=>exact absurd (show false=true from hs) fQ
 | Tt i=>
   obtain ⟨t,rfl⟩:=rx
   cases y with
   | Tt j=>obtain ⟨t',rfl⟩:=ry;exact PySem.W.ne_bytes (cU I q (congrArg not PR))
   | _=>exact absurd (show false=true from hs) fQ
 | _=>cases y <;> exact absurd (show false=true from hs) fQ
theorem oh:rT X (oV .Lt) (Zw λi j=>.bl (decide (i<j))):=Zm λ_ _ _ _ _ _ _ q=>lt_int q
theorem GP:rT X (oV .LtE) (Zw λi j=>.bl (decide (i≤j))):=Zm λ_ _ _ _ _ _ _ q=>le_int q
theorem fM:rT X (oV .Gt) (Zw λi j=>.bl (decide (j<i))):=Zm λ_ _ _ _ _ _ _ q=>gt_int q
theorem Qy:rT X (oV .GtE) (Zw λi j=>.bl (decide (j≤i))):=Zm λ_ _ _ _ _ _ _ q=>ge_int q
theorem tS:rT X (oV .Is) (λx y H Q=>y=.bK∧Q (.bl (decide (x=.bK))) H):=by
 intro pins s σ H x y v u Q I rx ry h
 obtain ⟨rfl,q⟩:=h
 cases ry
 refine is_none_gen (cU I q ?_)
 cases x <;> first
  | (cases rx;rfl)
  | (obtain ⟨t,rfl⟩:=rx;rfl)
theorem j9:rT X (oV .IsNot) (λx y H Q=>y=.bK∧Q (.bl (!decide (x=.bK))) H):=by
 intro pins s σ H x y v u Q I rx ry h
 obtain ⟨rfl,q⟩:=h
 cases ry
 refine isnot_none_gen (cU I q ?_)
 cases x <;> first
  | (cases rx;rfl)
  | (obtain ⟨t,rfl⟩:=rx;rfl)
theorem aE (b:bA)  (h:op≠.In:=by decide) (h2:op≠.NotIn:=by decide):behindInMarks op b=false:=by
 have e1:(op==CmpOp.In)=false:=by cases op <;> first | rfl | exact absurd rfl h
 have e2:(op==CmpOp.NotIn)=false:=by cases op <;> first | rfl | exact absurd rfl h2
 cases b <;> simp [behindInMarks,e1,e2]
theorem I0 {X:Cx} {a b:bA} {ta tb:TE} {pos:Pos} {op:CmpOp} {r:R2} (ho:rT X (oV op) r) (ha:PE X a ta) (hb:PE X b tb) (hm:behindInMarks op b=false):PE X (.Compare a [op] [b] pos) (Wt r ta tb):=by
 intro pins s σ H Q I h
 exact wpAny_Compare1 (acz ha hb I h λv u s2 x y H2 I2 rx ry q=>ho pins s2 σ H2 x y v u Q I2 rx ry q) hm
def LZ (t:TE):TT:=λσ H Q=>t σ H λx H'=>∃k,x=.bl k∧Q k H'
theorem Jm {X:Cx} {a b:bA} {ta tb:TE} {pos:Pos} {op:CmpOp} {r:R2} (ho:rT X (oV op) r) (ha:PE X a ta) (hb:PE X b tb) (hm:behindInMarks op b=false):PT X (.Compare a [op] [b] pos) (LZ (Wt r ta tb)):=by
 intro pins s σ H Q I h
 refine wpAny_isTrue_Compare1 (iI (ha pins s σ H _ I h) λv s1 ⟨x,H1,I1,r1,q1⟩=>iI (hb pins s1 σ H1 _ I1 q1) λu s2 ⟨y,H2,I2,r2,q2⟩=>
  iI (ho pins s2 σ H2 x y v u _ I2 r1 r2 q2) λc s3 ⟨z,H3,I3,r3,k,e,q3⟩=>?_) hm
 subst e
 cases r3
 exact Hf ⟨H3,I3,q3⟩
def Pd (r r':R2) (ta tb tc:TE):TE:=λσ H Q=>ta σ H λx H1=>tb σ H1 λy H2=>r x y H2 λz H3=>∃k,z=.bl k ∧
 (if k=true then tc σ H3 λw' H4=>r' y w' H4 Q else Q (.bl false) H3)
theorem DQ (ho:rT X (oV op) r) (ho':rT X (oV op') r') (ha:PE X a ta) (hb:PE X b tb) (hc:PE X c tc)
 (hm:lastMarks [op,op'] [b,c]=false:=by with_unfolding_all rfl):PT X (.Compare a [op,op'] [b,c] pos) (LZ (Pd r r' ta tb tc)):=by
 intro pins s σ H Q I h
 refine isTrue_chain (iI (ha pins s σ H _ I h) λv s1 ⟨x,H1,I1,r1,q1⟩=>test_link (iI (hb pins s1 σ H1 _ I1 q1) λu s2 ⟨y,H2,I2,r2,q2⟩=>
  iI (ho pins s2 σ H2 x y v u _ I2 r1 r2 q2) λd s3 ⟨z,H3,I3,r3,k,e,q3⟩=>?_)) hm
 subst e
 cases r3
 refine Hf ?_
 cases k with
 | false=>
   obtain ⟨k',e',q'⟩:=q3
   cases e'
   exact ite_ff ⟨H3,I3,q'⟩
 | true=>
   refine ite_tt (test_last (iI (hc pins s3 σ H3 _ I3 q3) λw' s4 ⟨z',H4,I4,r4,q4⟩=>iI (ho' pins s4 σ H4 y z' u w' _ I4 r2 r4 q4) λd' s5 ⟨z2,H5,I5,r5,k2,e2,q5⟩=>?_))
   subst e2
   cases r5
   exact Hf ⟨H5,I5,q5⟩
theorem Il:(sizeLine:Nat)<2 ^ 63:=by rw [sizeLine_eq];decide
theorem vals1 (r:Vals [x] us):∃u,us=[u]∧RelV x u:=by
 cases r with
 | cons r1 r2=>cases r2;exact ⟨_,rfl,r1⟩
theorem vals2 (r:Vals [x,y] us):∃u w',us=[u,w']∧RelV x u∧RelV y w':=by
 cases r with
 | cons r1 r2=>
   cases r2 with
   | cons r3 r4=>cases r4;exact ⟨_,_,rfl,r1,r3⟩
theorem Ub:jP X (.builtin "abs") (λxs H Q=>∃i,xs=[.int i]∧Q (.int (if i<0 then -i else i)) H):=by
 intro pins s σ H xs us Q I r h
 obtain ⟨i,rfl,q⟩:=h
 obtain ⟨u,rfl,t,rfl⟩:=vals1 r
 exact call_abs_int λu tk=>⟨.int (if i<0 then -i else i),H,I.tok _,⟨_,rfl⟩,q⟩
theorem RS (hc:X.calm=true):jP X (.builtin "max") (λxs H Q=>∃i j,xs=[.int i,.int j]∧Q (.int (if j>i then j else i)) H):=by
 intro pins s σ H xs us Q I r h
 obtain ⟨i,j,rfl,q⟩:=h
 obtain ⟨u,w',rfl,⟨t,rfl⟩,⟨t',rfl⟩⟩:=vals2 r
 refine max_two_ints (I.ok.hd hc) λh' tk k=>⟨_,H,I.kept k,?_,q⟩
 by_cases hj:j>i
 ·rw [if_pos hj,if_pos hj];exact ⟨_,rfl⟩
 ·rw [if_neg hj,if_neg hj];exact ⟨_,rfl⟩
theorem RU (hc:X.calm=true):jP X (.builtin "min") (λxs H Q=>∃i j,xs=[.int i,.int j]∧Q (.int (if j<i then j else i)) H):=by
 intro pins s σ H xs us Q I r h
 obtain ⟨i,j,rfl,q⟩:=h
 obtain ⟨u,w',rfl,⟨t,rfl⟩,⟨t',rfl⟩⟩:=vals2 r
 refine min_two_ints (I.ok.hd hc) λh' tk k=>⟨_,H,I.kept k,?_,q⟩
 by_cases hj:j<i
 ·rw [if_pos hj,if_pos hj];exact ⟨_,rfl⟩
 ·rw [if_neg hj,if_neg hj];exact ⟨_,rfl⟩
theorem RQ:jP X (.type "int") (λxs H Q=>(∃i,xs=[.int i]∧Q (.int i) H)∨∃k,xs=[.bl k]∧Q (.int (if k then 1 else 0)) H):=by
 intro pins s σ H xs us Q I r h
 rcases h with ⟨i,rfl,q⟩ | ⟨k,rfl,q⟩
 ·obtain ⟨u,rfl,t,rfl⟩:=vals1 r
  exact call_int_int ⟨.int i,H,I,⟨_,rfl⟩,q⟩
 ·obtain ⟨u,rfl,r1⟩:=vals1 r
  cases r1
  exact call_int_bool ⟨.int (if k then 1 else 0),H,I.tok _,⟨_,rfl⟩,q⟩
structure MT (h:cP) (x dx C:aq) (mA:Str→Option aJ):Prop where
 obj:h.get? x=some (Bq C dx)
 ns:h.Ns1 dx mA
 ne:dx≠x
theorem SE {h:cP} (n:h.Ns1 dx mA):∃od,h.get? dx=some od∧∀name,Ru name od=some (mA name):=by
 obtain ⟨o,es,ep,ho,hd,hk,_,hm⟩:=n
 refine ⟨o,ho,λname=>?_⟩
 have e:=hm name
 unfold nsFind findBy at e
 rw [← Array.find?_toList] at e
 unfold Ru
 rw [hd]
 dsimp only
 split
 ·rename_i y q
  rw [q] at e
  exact congrArg some e
 ·rename_i q
  rw [q] at e
  have a:es.toList.any (·.refKey)=false:=by
   rw [List.any_eq_false]
   intro y hy
   obtain ⟨z,t,hkey⟩:=hk y (Array.mem_toList_iff.mp hy)
   simp [DictEntry.refKey,hkey]
  have a':¬es.toList.any (·.refKey)=true:=by rw [a];exact fQ
  rw [if_neg a']
  exact congrArg some e
theorem MT.look (I:MT h x dx C mA):∃od,PySem.W.InstAt h x (Bq C dx) C (some od)∧∀name,Ru name od=some (mA name):=
 let ⟨od,ho,hl⟩:=SE I.ns
 ⟨od,⟨I.obj,rfl,rfl,ho⟩,hl⟩
theorem get_map {K:cj} (X:K.In s.heap) (I:MT s.heap x dx C mA) (hg:Hi K C name=true) (hh:Mr K C=true)
 (ha:lE K (.ref C) name=some none) (hv:mA name=some v) (hv':abi v=true) (h:Q v { s with toks:=s.toks+1 }) :
 cD 0#R A (getAttr (.ref x) name expr) Q E s:=by
 obtain ⟨od,J,hl⟩:=I.look
 exact PySem.W.get_value X J (WQ hg).1 (PySem.W.findObj_own hh ha rfl (by rw [hl,hv])) hv' h
theorem UC {K:cj} (X:K.In s.heap) (I:MT s.heap x dx C mA) (hg:Hi K C name=true)
 (hf:lE K (.ref C) name=some (some (.ref f))) (ht:Bv K (.ref f)=true) (hv:mA name=none) (h:Q (.ref f,[.ref x]) s) :
 cD 0#R A (getMethod (.ref x) name pl) Q E s:=by
 obtain ⟨od,J,hl⟩:=I.look
 exact PySem.W.method_fn X J (WQ hg).1 (WQ hg).2 hf (yO.mp ht) (by show (Ru name od).map (·.isSome)=some false;rw [hl,hv];rfl) h
theorem ZN {K:cj} (X:K.In s.heap) (I:MT s.heap x dx C mA)
 (hs:lE K (.ref C) "__setattr__"=some (some (.builtin "object.__setattr__"))) (hp:Rg K C=true) (ht:W5 K C name=some none) (hh:Mr K C=true)
 (hw:Xf mA ns) (hsz:ns.length≤sizeLine)
 (h:∀h',MT h' x dx C (λy=>if y=name then some v else mA y)→ET dx s.heap h'→Q () { s with heap:=h',toks:=s.toks+2 }) :
 cD 0#R A (setAttr (.ref x) name v) Q E s:=by
 obtain ⟨od,J,hl⟩:=I.look
 refine PySem.W.set_plain X J hs (PySem.W.osa_open (s:={ s with toks:=s.toks+1 }) (r:=none) X J hp ht λb=>?_)
 obtain ⟨cd,hc,hd'⟩:=PySem.W.any_some hh
 have hx:s.heap.get? x=some ⟨.ref C,some dx,.plain,#[]⟩:=I.obj
 refine ie (oU (ie (ie (wpAny_loadPart hx (ie (ag2 (s:={ s with toks:=s.toks+1 }) (PySem.W.looks_clsIn X hc) ?_))))))
 rw [hd']
 refine oU (a:=some dx) (ie (oU (ie ?_)))
 refine wpAny_nsSet1 (s:={ s with toks:=s.toks+1 }) I.ns λh' hn2 hs2=>?_
 obtain ⟨oD,esD,epD,hoD,hdD,hcD⟩:=hn2.count (ag6 name v hw)
 refine ie (wpAny_lookBehind hoD (by rw [hdD];exact pastItsLine_dict (dR hcD (by rw [Gg];simp?))) ?_)
 exact oU (h _ ⟨(hs2.2 _ (j4 I.ne)).trans I.obj,hn2,I.ne⟩ hs2)
theorem U6 {s:bC} {K:cj} (X:K.In s.heap) (hm:Rp K C=true)
 (hi:lE K (.ref C) "__init__"=some (some (.ref f))) (hf:PySem.W.typeIn K (.ref f)=some (.type "function"))
 (h:By 0#R (A.under (.builtin "type.__call__" ⟨.ref C::vs,kw⟩)) (.call (.ref f) ⟨.ref 0#L::vs,kw⟩) (PySem.W.InitBack 0#L R)
   { s with heap:=(s.heap.push yD).push (Bq C s.heap.objs.size) }) :
 By 0#R A (.call (.ref C) ⟨vs,kw⟩) R s:=by
 obtain ⟨hh,g,d,t,os⟩:=s
 exact PySem.W.make_core (PySem.W.makes_of X hm) (PySem.W.looks_findIn X hi) (λself=>PySem.W.bind_fn X self hf) (.inl rfl) h
def aA (f:Str) (v:V):List (Str×V)→List (Str×V)
 | []=>[(f,v)]
 | (g,x)::r=>if g=f then (g,v)::r else (g,x)::aA f v r
theorem af (f g:Str) (v:V):∀fs:List (Str×V),(aA f v fs).lookup g=if g=f then some v else fs.lookup g
 | []=>by
   show EV g [(f,v)]=_
   by_cases h:g=f
   ·have hb:(g==f)=true:=yO.mpr h
    simp only [EV,hb,if_pos h]
   ·have hb:(g==f)=false:=Ra.mpr h
    simp only [EV,hb,if_neg h]
 | (k,x)::r=>by
   have ih:=af f g v r
   rw [show aA f v ((k,x)::r)=(if k=f then (k,v)::r else (k,x)::aA f v r) from rfl]
   by_cases hk:k=f
   ·rw [if_pos hk]
    by_cases h:g=k
    ·have hb:(g==k)=true:=yO.mpr h
     simp only [EV,hb,if_pos (h.trans hk)]
    ·have hb:(g==k)=false:=Ra.mpr h
     simp only [EV,hb,if_neg (λe:g=f=>h (e.trans hk.symm))]
   ·rw [if_neg hk]
    by_cases h:g=k
    ·have hb:(g==k)=true:=yO.mpr h
     simp only [EV,hb,if_neg (λe:g=f=>hk (h.symm.trans e))]
    ·have hb:(g==k)=false:=Ra.mpr h
     simp only [EV,hb]
     exact ih
theorem zK (f:Str) (v:V):∀fs:List (Str×V),f∈(aA f v fs).map (·.1)∧∀g,g∈fs.map (·.1)→g∈(aA f v fs).map (·.1)
 | []=>⟨by simp [aA],λg h=>by simp at h⟩
 | (k,x)::r=>by
   obtain ⟨i1,i2⟩:=zK f v r
   rw [show aA f v ((k,x)::r)=(if k=f then (k,v)::r else (k,x)::aA f v r) from rfl]
   by_cases hk:k=f
   ·rw [if_pos hk]
    subst hk
    exact ⟨by simp,λg h=>by simpa using h⟩
   ·rw [if_neg hk]
    refine ⟨?_,λg h=>?_⟩
    ·rw [Bu]
     exact B9 _ i1
    ·rw [Bu] at h ⊢
     rcases pZ.mp h with e | e
     ·exact pZ.mpr (.inl e)
     ·exact B9 _ (i2 g e)
theorem AZ (f:Str) (v:V):∀fs:List (Str×V),(aA f v fs).length≤fs.length+1
 | []=>by simp [aA]
 | (k,x)::r=>by
   have ih:=AZ f v r
   rw [show aA f v ((k,x)::r)=(if k=f then (k,v)::r else (k,x)::aA f v r) from rfl]
   by_cases hk:k=f
   ·rw [if_pos hk,Gg,Gg];simp?
   ·rw [if_neg hk,Gg,Gg];simp?
theorem Fc.some_of (r:Fc (some v) o):∃u,o=some u∧RelV v u:=by
 cases o with
 | none=>exact (show False from r).elim
 | some u=>exact ⟨u,rfl,r⟩
theorem Fc.none_of (r:Fc none o):o=none:=by
 cases o with
 | none=>rfl
 | some u=>exact (show False from r).elim
theorem Sm (r:RelV v u):abi u=true:=by
 cases v with
 | bK=>cases (show u=Value.none from r);rfl
 | bl b=>cases (show u=Value.bool b from r);rfl
 | int i=>obtain ⟨t,e⟩:=(show ∃t,u=Value.int i t from r);cases e;rfl
 | str x=>obtain ⟨t,e⟩:=(show ∃t,u=Value.str x t from r);cases e;rfl
 | Tt b=>obtain ⟨t,e⟩:=(show ∃t,u=Value.bytes b t from r);cases e;rfl
 | flt b=>obtain ⟨t,e⟩:=(show ∃t,u=Value.float b t from r);cases e;rfl
 | ref a=>cases (show u=Value.ref a from r);rfl
 | ty n=>cases (show u=Value.type n from r);rfl
theorem Ci (hok:yV P w H h) (e:H a=some 0#V):∃mA,MT h a dx C mA∧(∀f,Fc (fs.lookup f) (mA f))∧Xf mA (fs.map (·.1))∧fs.length≤1000∧H dx=some (.own a):=by
 obtain ⟨d,z,ne,ob,mA,n,r,q⟩:=(show iw P w H h a 0#V from hok a _ e)
 exact ⟨mA,⟨ob,n,ne⟩,r,q,z,d⟩
structure ML (K:cj) (C:aq):Prop where
 pg:Hi K C Xz=true
 hd:Mr K C=true
 po:Rg K C=true
 sa:lE K (.ref C) "__setattr__"=some (some (.builtin "object.__setattr__"))
theorem ML.get {K:cj} (c:ML K C) (f:Str):Hi K C f=true:=c.pg
def pL (K:cj) (C:aq) (f:Str):Prop:=lE K (.ref C) f=some none
theorem pL.af8 {K:cj} (n:pL K C f):W5 K C f=some none:=by
 unfold W5
 rw [show lE K (.ref C) f=some none from n]
 rfl
structure Meth (K:cj) (C:aq) (m:Str) (f:aq):Prop where
 at_:lE K (.ref C) m=some (some (.ref f))
 fn:Bv K (.ref f)=true
 kp:yT K (.ref f)=true
theorem M7 {σ:St} (I:Inv X pins σ H s) (e:H a=some 0#V) (c:ML X.K C) (n:pL X.K C f) (l:fs.lookup f=some v)
 (h:∀u s',Inv X pins σ H s'→RelV v u→Q u s'):cD 0#l A (getAttr (.ref a) f b) Q E s:=by
 obtain ⟨mA,O,r,_,_,_⟩:=Ci I.hok e
 obtain ⟨u,hu,ru⟩:=Fc.some_of (v:=v) (o:=mA f) (by rw [← l];exact r f)
 exact get_map I.BQ O (c.get f) c.hd n hu (Sm ru) (h u _ (I.tok _) ru)
theorem C1 {σ:St} (I:Inv X pins σ H s) (e:H a=some 0#V) (c:ML X.K C) (k:Meth X.K C m g) (l:fs.lookup m=none)
 (h:Q (.ref g,[.ref a]) s):cD 0#l A (getMethod (.ref a) m pl) Q E s:=by
 obtain ⟨mA,O,r,_,_,_⟩:=Ci I.hok e
 have hn:mA m=none:=Fc.none_of (by rw [← l];exact r m)
 exact UC I.BQ O (c.get m) k.at_ k.fn hn h
theorem OU {σ:St} (I:Inv X pins σ H s) (e:H a=some 0#V) (c:ML X.K C) (n:pL X.K C f) (hl:fs.length<1000) (ry:RelV y u)
 (h:∀s',Inv X pins σ (upd H a (.ins C dx (aA f y fs))) s'→Q () s'):cD 0#l A (setAttr (.ref a) f u) Q E s:=by
 obtain ⟨mA,O,r,wi,_,ho⟩:=Ci I.hok e
 have hz:(fs.map (·.1)).length≤sizeLine:=by rw [gI,sizeLine_eq];simp?
 refine ZN I.BQ O c.sa c.po n.af8 c.hd wi hz λh' O' sb=>h _ ?_
 have hd:∃o,h'.get? dx=some o:=let ⟨o,_,_,e',_⟩:=O'.ns;⟨o,e'⟩
 refine I.write (x:=a) (e:=dx) (by rw [e];exact True.intro) (.inr ho) (λb q hb z=>(sb.2 b hb).trans z) hd ?_
 refine ⟨by rw [aK O.ne];exact ho,?_,O.ne,O'.obj,_,O'.ns,λg=>?_,λg hg=>?_⟩
 ·have:=AZ f y fs;simp?
 ·show Fc ((aA f y fs).lookup g) (if g=f then some u else mA g)
  rw [af]
  by_cases q:g=f
  ·rw [if_pos q,if_pos q];exact ry
  ·rw [if_neg q,if_neg q];exact r g
 ·by_cases q:g=f
  ·rw [q];exact (zK f y fs).1
  ·refine (zK f y fs).2 g (wi g λz=>hg ?_)
   show (if g=f then some u else mA g)=none
   rw [if_neg q];exact z
theorem Inv.made {σ:St} (I:Inv X pins σ H s):Inv X pins σ (upd (upd H s.heap.objs.size (.own 0#L)) 0#L (.ins C s.heap.objs.size []))
 { s with heap:=(s.heap.push yD).push (Bq C s.heap.objs.size) }:=by
 have e1:(s.heap.push yD).get? s.heap.objs.size=some yD:=Gd s.heap rfl
 have e2:((s.heap.push yD).push (Bq C s.heap.objs.size)).get? 0#L=some (Bq C s.heap.objs.size):=by
  have:=Gd (s.heap.push yD) (o:=Bq C s.heap.objs.size) rfl
  rwa [aby] at this
 have e3:(s.heap.push yD).Ns s.heap.objs.size (λ_=>none):=⟨yD,#[],_,e1,rfl,(λe he=>absurd he 0#d),λ_=>rfl⟩
 have I1:=I.laid (a:=s.heap.objs.size) (o:=.own 0#L) (h':=s.heap.push yD) (t':=s.toks) (λb u q=>pX _ q) (dS _) ⟨_,e1⟩
 refine I1.laid (a:=s.heap.objs.size+1) (o:=.ins C s.heap.objs.size []) (t':=s.toks) (λb u q=>pX _ q) (abU (aby _ _)) ?_
 have ne:s.heap.objs.size≠s.heap.objs.size+1:=mP (abj _)
 refine ⟨by rw [aK ne,av],lX _,ne,e2,λ_=>none,(Heap.Ns1.of_empty e3).at λo q=>pX _ q,λ_=>True.intro,λy hy=>absurd rfl hy⟩
theorem X8 (hb:uO e f env (eval e env)=eval e env)
 (h:cD 0#R A (eval e env) (λo s₁=>cD 0#R A (getAttr o f true) Q E s₁) E s):cD 0#R A (eval (.Attribute e f pos) env) Q E s:=
 Attribute_any_ h (by rw [arm_eval_Attribute,hb])
def aec (K:cj) (ta:TE) (f:Str):TE:=λσ H Q=>ta σ H λx H1=>∃a C dx fs v,x=.ref a∧H1 a=some 0#V∧ML K C∧pL K C f∧fs.lookup f=some v∧Q v H1
def ad6 (K:cj) (ta tv:TE) (f:Str):TS:=λD σ H=>tv σ H λy H1=>ta σ H1 λx H2=>∃a C dx fs,x=.ref a∧H2 a=some 0#V∧ML K C∧pL K C f∧fs.length<1000 ∧
 D.nx σ (upd H2 a (.ins C dx (aA f y fs)))
theorem Oh {X:Cx} {e:bA} {f:Str} {pos:Pos} {ta:TE} (he:PE X e ta) (hb:uO e f X.env (eval e X.env)=eval e X.env):PE X (.Attribute e f pos) (aec X.K ta f):=by
 intro pins s σ H Q I h
 refine X8 hb (iI (he pins s σ H _ I h) λu s1 ⟨x,H1,I1,rx,a,C,dx,fs,v,ex,ea,c,n,l,q⟩=>?_)
 subst ex
 obtain rfl:u=Value.ref a:=rx
 exact M7 I1 ea c n l λu' s2 I2 ru=>⟨v,H1,I2,ru,q⟩
theorem Ow {X:Cx} {o value:bA} {f:Str} {pos pos':Pos} {ta tv:TE} (ha:PE X o ta) (hv:PE X value tv) (hs:mS value (some (.Attribute o f pos')) pos.line X.env=pure false):PS X (.Assign [.Attribute o f pos'] value pos) (ad6 X.K ta tv f):=by
 intro pins s σ H D I h
 refine plainObj_wpAny_Assign_Attribute (iI (hv pins s σ H _ I h) λu s1 ⟨y,H1,I1,ry,q⟩=>iI (ha pins s1 σ H1 _ I1 q) λov s2 ⟨x,H2,I2,rx,a,C,dx,fs,ex,ea,c,n,l,q2⟩=>?_) hs
 subst ex
 obtain rfl:ov=Value.ref a:=rx
 exact OU I2 ea c n l ry λs3 I3=>⟨σ,_,I3,q2⟩
inductive xx (K:cj) (H:Hp):V→aJ→Prop where
 | bK:xx K H .bK (.type "NoneType")
 | bl (x:Bool):xx K H (.bl x) (.type "bool")
 | int (i:Int):xx K H (.int i) (.type "int")
 | str (x:Str):xx K H (.str x) (.type "str")
 | flt (x:UInt64):xx K H (.flt x) (.type "float")
 | lst {a:aq} {xs:List V} (e:H a=some (.lst xs)):xx K H (.ref a) (.type "list")
 | P7 {a:aq} {o:Obj} {xs:List V} (e:H a=some (.P7 o (.lst xs))):xx K H (.ref a) (.type "list")
 | tup {a:aq} {xs:List V} (e:H a=some (.tup xs)):xx K H (.ref a) (.type "tuple")
 | dK {a:aq} {kvs:List (Key×V)} (e:H a=some (.dK kvs)):xx K H (.ref a) (.type "dict")
 | dT {a:aq} {kvs:List (List Key×V)} (e:H a=some (.dT kvs)):xx K H (.ref a) (.type "dict")
 | ins {a C dx:aq} {fs:List (Str×V)} (e:H a=some (.ins C dx fs)) (cl:ML K C) (ha:lE K (.ref C) "__class__"=some (some (.builtin "object.__class__")))
  (hn:PySem.W.specialIn K (.builtin "object.__class__") "__get__"=some (some (.builtin "getset_descriptor.__get__"))) (htk:PySem.W.takesIn K (.builtin "object.__class__")=some true)
  (hm:PySem.W.mroIn K C (.type "object")=some true):xx K H (.ref a) (.ref C)
theorem Sy {σ:St} (I:Inv X pins σ H s) (rx:RelV x u) (ty:xx X.K H x t) (e:Rv X.K t c=some b) (h:∀tk,Q (.bool b) { s with toks:=tk }) :
 cD 0#l A (call (.builtin "isinstance") [u,c]) Q E s:=by
 cases ty with
 | bK=>cases (show u=Value.none from rx);exact E6 PySem.W.kitx_none I.BQ True.intro e (λz=>nomatch z) h
 | bl y=>cases (show u=Value.bool y from rx);exact E6 PySem.W.kitx_bool I.BQ True.intro e (λz=>nomatch z) h
 | int i=>obtain ⟨t,q⟩:=(show ∃t,u=Value.int i t from rx);cases q;exact E6 PySem.W.kitx_int I.BQ True.intro e (λz=>nomatch z) h
 | str y=>obtain ⟨t,q⟩:=(show ∃t,u=Value.str y t from rx);cases q;exact E6 PySem.W.kitx_str I.BQ True.intro e (λz=>nomatch z) h
 | flt y=>obtain ⟨t,q⟩:=(show ∃t,u=Value.float y t from rx);cases q;exact E6 PySem.W.kitx_float I.BQ True.intro e (λz=>nomatch z) h
 | @lst a xs ea=>
   cases (show u=Value.ref a from rx)
   obtain ⟨_,_,n,_,h1⟩:=(show iw X.prog X.w H s.heap a (.lst xs) from I.hok a _ ea)
   exact E6 aba I.BQ ⟨_,h1,rfl⟩ e (λz=>nomatch z) h
 | @P7 a ob xs ea=>
   cases (show u=Value.ref a from rx)
   obtain ⟨_,_,_,n,_,h1⟩:=(show iw X.prog X.w H s.heap a (.P7 ob (.lst xs)) from I.hok a _ ea)
   exact E6 aba I.BQ ⟨_,h1,rfl⟩ e (λz=>nomatch z) h
 | @tup a xs ea=>
   cases (show u=Value.ref a from rx)
   obtain ⟨_,_,_,p⟩:=(show iw X.prog X.w H s.heap a 0#o from I.hok a _ ea)
   obtain ⟨o,h1,h2,_⟩:=p
   exact E6 PySem.W.kitx_tuple I.BQ ⟨o,h1,h2⟩ e (λz=>nomatch z) h
 | @dK a kvs ea=>
   cases (show u=Value.ref a from rx)
   obtain ⟨_,_,vs,_,p⟩:=(show iw X.prog X.w H s.heap a (.dK kvs) from I.hok a _ ea)
   obtain ⟨o,es,ep,h1,h2,_⟩:=p
   exact E6 abb I.BQ ⟨o,h1,h2.1⟩ e (λz=>nomatch z) h
 | @dT a kvs ea=>
   cases (show u=Value.ref a from rx)
   obtain ⟨_,_,xs,_,o,es,ep,h1,h2,_⟩:=(show iw X.prog X.w H s.heap a (.dT kvs) from I.hok a _ ea)
   exact E6 abb I.BQ ⟨o,h1,h2.1⟩ e (λz=>nomatch z) h
 | @ins a C dx fs ea cl ha hn htk hm=>
   cases (show u=Value.ref a from rx)
   obtain ⟨mA,O,_⟩:=Ci I.hok ea
   obtain ⟨od,J,_⟩:=O.look
   exact E6 (PySem.W.kitx_own (cl.get _) cl.hd ha hn htk hm) I.BQ J e (λz=>nomatch z) h
structure jj (k:Nat) (A:oO):Prop where
 hd:A.handled=none
 dp:A.depth+3*k+5<recursionLimit
 un:A.units+16*k+200<cLine
theorem jj.mono (r:jj k A) (h:j≤k):jj j A:=⟨r.hd,by have:=r.dp;simp?,by have:=r.un;simp?⟩
theorem jj.deeper (r:jj (k+1) A) (env:Env):jj k (A.deeper env):=
 ⟨r.hd,by have:=r.dp;show A.depth+1+3*k+5<_;simp?,by have:=r.un;show A.units+3+16*k+200<_;simp?⟩
theorem NG {A:oO}:(A.under (.builtin "type.__call__" ⟨.ref C::us,kw⟩)).depth=A.depth+1:=by
 first | rfl | simp [Xh,Code.weight,Code.isCreation,Code.isGuard,Code.isCaller,ab4,Xi,guardIds]
theorem NH {A:oO}:(A.under (.builtin "type.__call__" ⟨.ref C::us,kw⟩)).units=A.units+1:=by
 first | rfl | simp [Xh,Code.cUnits,ab4,Xi]
theorem jj.make (r:jj (k+1) A) (C:aq) (us:List aJ) (kw:List (Str×aJ)):jj k (A.under (.builtin "type.__call__" ⟨.ref C::us,kw⟩)):=
 ⟨r.hd,by have:=r.dp;rw [NG];simp?,by have:=r.un;rw [NH];simp?⟩
theorem jj.depth (r:jj k A):A.depth<recursionLimit:=by have:=r.dp;simp?
theorem jj.units (r:jj k A):A.units+64<cLine:=by have:=r.un;simp?
def rK:TA:=λ_ H Q=>Q [] H
def gW (ta:TE) (tr:TA):TA:=λσ H Q=>ta σ H λx H1=>tr σ H1 λxs H2=>Q (x::xs) H2
theorem wB {X:Cx}:PA X [] rK:=λ_ _ _ _ H Q I h=>Calls.spliced_nil ⟨[],H,I,.nil,h⟩
theorem lI {X:Cx} {e:bA} {es:List bA} {te:TE} {t:TA} (ha:PE X e te) (hr:PA X es t) (hs:bG (e::es) X.env=0#D::bG es X.env:=by rfl):PA X (e::es) (gW te t):=by
 intro pos pins s σ H Q I h
 rw [hs]
 show cD _ _ (spliced (0#D::iU pos (bG es X.env))) _ _ s
 refine Calls.spliced_cons (iI (ha pins s σ H _ I h) λu s1 ⟨x,H1,I1,r1,q1⟩=>?_)
 exact iI (hr pos pins s1 σ H1 _ I1 q1) λus s2 ⟨xs,H2,I2,r2,q2⟩=>⟨x::xs,H2,I2,.cons r1 r2,q2⟩
def aej (t:TA):TE:=λσ H Q=>t σ H λxs H1=>xs.length≤sizeLine∧∀p,H1 p=none→Q (.ref p) (upd H1 p 0#o)
def aef (t:TA):TE:=λσ H Q=>t σ H λxs H1=>xs.length≤sizeLine∧∀p,H1 p=none→Q (.ref p) (upd H1 p (.lst xs))
theorem Oo {X:Cx} {es:List bA} {t:TA} {pos:Pos} {x1} (h:PA X es t):PE X (.Tuple es x1 pos) (aej t):=by
 intro pins s σ H Q I hq
 refine wpAny_Tuple_spliced (iI (h pos pins s σ H _ I hq) λus s1 ⟨xs,H1,I1,r,z,q⟩=>⟨by rw [← r.length];exact z,?_⟩)
 have hf:H1 s1.heap.objs.size=none:=I1.hok.fresh (dS _)
 refine ⟨.ref s1.heap.objs.size,upd H1 s1.heap.objs.size 0#o,I1.laid (t':=s1.toks) (λb u e=>pX _ e) (dS _) ?_,rfl,q _ hf⟩
 exact ⟨z,us,r,⟨_,Gd _ rfl,rfl,_,rfl⟩⟩
theorem Oi {X:Cx} {es:List bA} {t:TA} {pos:Pos} (h:PA X es t):PE X (.List es pos) (aef t):=by
 intro pins s σ H Q I hq
 refine wpAny_List_spliced (iI (h pos pins s σ H _ I hq) λus s1 ⟨xs,H1,I1,r,z,q⟩=>⟨by rw [← r.length];exact z,?_⟩)
 have hf:H1 s1.heap.objs.size=none:=I1.hok.fresh (dS _)
 refine ⟨.ref s1.heap.objs.size,upd H1 s1.heap.objs.size (.lst xs),I1.laid (t':=s1.toks) (λb u e=>pX _ e) (dS _) ?_,rfl,q _ hf⟩
 exact ⟨z,us,0,r,Gd _ rfl⟩
abbrev Sp:=List V→Hp→VK→XK→Prop
abbrev X0:=List Env→Hp→bC→XK→aJ→bC→Prop
structure MR (P:jA) (w:fN) (K:cj) (mg:Str→Option aJ) (base:cP) (A:oO) (outer:List Env) (s:bC) (H:Hp):Prop where
 frames:A.frames=some outer
 mod:Mod K mg base
 bs:∀b o,base.get? b=some o→s.heap.get? b=some o∧H b=none
 Z9:base.objs.size≤s.heap.objs.size
 BF:s.heap.FunFrames base outer
 frf:∀b∈frs outer,H b=none
 hok:yV P w H s.heap
 bare:yQ s.gens
def CE (outer:List Env) (P:jA) (w:fN) (H:Hp) (s:bC) (Q:VK) (u:aJ) (s':bC):Prop:=
 ∃v H',s'.os=s.os∧yQ s'.gens∧Un (frs outer) [] H H' s.heap s'.heap∧yV P w H' s'.heap∧RelV v u∧Q v H'
def CR (CX:X0) (outer:List Env) (P:jA) (w:fN) (H:Hp) (s:bC) (Q:VK) (E:XK) (r:Result) (s':bC):Prop:=
 match r with
 | .ok (.ret u)=>CE outer P w H s Q u s'
 | .ok _=>False
 | .error e=>CX outer H s E e s'
structure bh (P:jA) (w:fN) (K:cj) (mg:Str→Option aJ) (base:cP) (CX:X0) (k:Nat) (f:aq) (fd:jW) (ps:List Str) (sp:Sp):Prop where
 len:∀vs H Q E,sp vs H Q E→vs.length=ps.length
 run:∀(A:oO) (outer:List Env) (s:bC) (H:Hp) (args:Args) (us:List aJ) (vs:List V) (Q:VK) (E:XK),jj k A→MR P w K mg base A outer s H→BindsTo s fd args (ps.zip us)→Vals vs us→sp vs H Q E →
  By (model P w) A (.call (.ref f) args) (CR CX outer P w H s Q E) s
theorem MR.make {K:cj} (e:MR P w K mg base A outer s H) (C:aq) (us:List aJ) (kw:List (Str×aJ)) :
 MR P w K mg base (A.under (.builtin "type.__call__" ⟨.ref C::us,kw⟩)) outer s H:=⟨by first | exact e.frames | (simpa [Xh,Code.envs,Xi,pushEnvs] using e.frames),e.mod,e.bs,e.Z9,e.BF,e.frf,e.hok,e.bare⟩
theorem Inv.aeL {σ:St} (I:Inv X pins σ H s):MR X.prog X.w X.K X.mg X.base X.A X.stack s H:=
 ⟨I.ok.frames,I.ok.mod,I.bs,dR I.ok.Z9 I.sz,I.stack,I.QU,I.hok,I.bare⟩
theorem Inv.after {σ:St} (I:Inv X pins σ H s) (h:CE X.stack X.prog X.w H s Q u s'):EP X pins σ Q u s':=by
 obtain ⟨v,H',os,bare,un,hok,r,q⟩:=h
 obtain ⟨hh,g,d,t,os'⟩:=s'
 obtain rfl:os'=s.os:=os
 exact ⟨v,H',I.call (h':=hh) (g':=g) (d':=d) (t':=t) (ch:=[]) un hok bare (λb z=>absurd z 0#d),r,q⟩
def EG (sp:Sp) (E7:List V) (E:XK) (t:TA):TE:=λσ H Q=>t σ H λvs H1=>sp (vs++E7) H1 Q E
def LY (C:aq) (m:Str) (sp:Sp) (E7:List V) (E:XK) (ta:TE) (t:TA):TE:=λσ H Q=>ta σ H λx H1=>∃a dx fs,x=.ref a∧H1 a=some 0#V∧fs.lookup m=none ∧
 t σ H1 λvs H2=>sp (x::(vs++E7)) H2 Q E
def Wo (C:aq) (sp:Sp) (E7:List V) (E:XK) (t:TA):TE:=λσ H Q=>t σ H λvs H1=>∀x dx,H1 x=none→H1 dx=none→dx≠x →
 sp (.ref x::(vs++E7)) (upd (upd H1 dx (.own x)) x (.ins C dx [])) (λv H2=>v=.bK∧Q (.ref x) H2) E
def Binds (K:cj) (fd:jW) (ps:List Str) (ds:List aJ):Prop:=
 ∀(s:bC) (us:List aJ),K.In s.heap→(us++ds).length=ps.length→BindsTo s fd ⟨us,[]⟩ (ps.zip (us++ds))
theorem Binds.all {K:cj} (h:∀us:List aJ,us.length=ps.length→EY fd ⟨us,[]⟩=pure (ps.zip us)):Binds K fd ps []:=λs us _ hl=>by
 rw [nv] at hl ⊢
 exact .of_eq (h us hl)
def Passes (CX:X0) (X:Cx) (E:XK):Prop:=∀(pins:List (aq×Obj)) (σ:St) (H:Hp) (s:bC) (e:aJ) (s':bC),Inv X pins σ H s→CX X.stack H s E e s'→X.xe e s'
theorem OE {σ:St} (F:bh X.prog X.w X.K X.mg X.base CX k f fd ps sp) (hr:jj k X.A) (hb:Binds X.K fd ps ds) (hd:Vals E7 ds) (hx:Passes CX X E)
 (I:Inv X pins σ H s) (r:Vals vs us) (h:sp (vs++E7) H Q E):cD 0#l X.A (call (.ref f) us) (EP X pins σ Q) X.xe s:=by
 have r2:Vals (vs++E7) (us++ds):=r.append hd
 have hl:(us++ds).length=ps.length:=by rw [← r2.length];exact F.len _ _ _ _ h
 refine wpAny_call (Rz (F.run X.A X.stack s H ⟨us,[]⟩ (us++ds) (vs++E7) Q E hr I.aeL (hb s us I.BQ hl) r2 h) λr s' hq=>?_)
 cases r with
 | error e=>exact hx pins σ H s e s' I hq
 | ok fl=>
   cases fl with
   | ret u=>exact I.after hq
   | next=>exact qB hq
   | brk=>exact qB hq
   | cont=>exact qB hq
theorem Zq (F:bh X.prog X.w X.K X.mg X.base CX k f fd ps sp) (hr:jj k X.A) (hg:Gl X x) (hm:X.mg x=some (.ref f)) (hk:yT X.K (.ref f)=true) (hb:Binds X.K fd ps ds) (hd:Vals E7 ds) (hx:Passes CX X E)
 (ha:PA X (e::es) t) (hdb:0#x=false:=by decide) (he:bG (e::es) X.env=0#D::bG es X.env:=by rfl) (hpl:(iU pos (bG es X.env)).any (·.1)=false:=by rfl) :
 PE X (.Call (.Name x p) (e::es) [] pos) (EG sp E7 E t):=by
 intro pins s σ H Q I h
 refine Rf (Ik I hg hm ?_ hdb)
 refine WU (h₀:=X.base) I.ok.mod.kin hk (iI (ha pos pins s σ H _ I h) λus s1 ⟨vs,H1,I1,r,q⟩=>⟨I1.BQ,?_⟩) he hpl
 exact OE F hr hb hd hx I1 r q
theorem Zs {X:Cx} {CX:X0} {k:Nat} {f C:aq} {fd:jW} {ps:List Str} {sp:Sp} {E7:List V} {ds:List aJ} {E:XK} {m:Str} {pos apos:Pos} {e o:bA} {es:List bA} {ta:TE} {t:TA} {pl:Sem Bool} (he:PE X o ta) (c:ML X.K C) (hm:Meth X.K C m f) (F:bh X.prog X.w X.K X.mg X.base CX k f fd ps sp) (hr:jj k X.A) (hb:Binds X.K fd ps ds) (hd:Vals E7 ds) (hx:Passes CX X E) (ha:PA X (e::es) t)
 (hst:bG (e::es) X.env=0#D::bG es X.env:=by rfl) (hpl:(iU pos (bG es X.env)).any (·.1)=false:=by rfl)
 (ht:eval (.Call (.Attribute o m apos) (e::es) [] pos) X.env=(do
   let ov ← eval o X.env
   Bx apos.atName
   let (f,first) ← holding [ov] (getMethod ov m pl)
   callWith pos f first (iU pos (bG (e::es) X.env)) (uM pos (uL [] X.env))):=by rfl) :
 PE X (.Call (.Attribute o m apos) (e::es) [] pos) (LY C m sp E7 E ta t):=by
 intro pins s σ H Q I h
 refine aaK (pl:=pl) (iI (he pins s σ H _ I h) λu s1 ⟨x,H1,I1,rx,a,dx,fs,ex,ea,l,q⟩=>?_) ht
 subst ex
 obtain rfl:u=Value.ref a:=rx
 refine C1 I1 ea c hm l ?_
 refine WU (first:=[.ref a]) (h₀:=X.base) I.ok.mod.kin hm.kp (iI (ha pos pins s1 σ H1 _ I1 q) λus s2 ⟨vs,H2,I2,r,q2⟩=>⟨I2.BQ,?_⟩) hst hpl
 exact OE (us:=.ref a::us) (vs:=.ref a::vs) F hr hb hd hx I2 (.cons rfl r) q2
theorem VE {X:Cx} {CX:X0} {k:Nat} {f C:aq} {fd:jW} {ps:List Str} {sp:Sp} {E7:List V} {ds:List aJ} {E:XK} {m:Str} {pos apos:Pos} {o:bA} {ta:TE} {pl:Sem Bool} (he:PE X o ta) (c:ML X.K C) (hm:Meth X.K C m f) (F:bh X.prog X.w X.K X.mg X.base CX k f fd ps sp) (hr:jj k X.A) (hb:Binds X.K fd ps ds) (hd:Vals E7 ds) (hx:Passes CX X E)
 (ht:eval (.Call (.Attribute o m apos) [] [] pos) X.env=(do
   let ov ← eval o X.env
   Bx apos.atName
   let (f,first) ← holding [ov] (getMethod ov m pl)
   callWith pos f first (iU pos (bG [] X.env)) (uM pos (uL [] X.env))):=by rfl) :
 PE X (.Call (.Attribute o m apos) [] [] pos) (LY C m sp E7 E ta rK):=by
 intro pins s σ H Q I h
 refine aaK (pl:=pl) (iI (he pins s σ H _ I h) λu s1 ⟨x,H1,I1,rx,a,dx,fs,ex,ea,l,q⟩=>?_) ht
 subst ex
 obtain rfl:u=Value.ref a:=rx
 refine C1 I1 ea c hm l ?_
 exact PySem.W.callWith_K0 (first:=[.ref a]) I1.BQ hm.kp (OE (us:=[.ref a]) (vs:=[.ref a]) F hr hb hd hx I1 (.cons rfl .nil) q)
structure Mk (K:cj) (C f:aq):Prop where
 makes:Rp K C=true
 init:lE K (.ref C) "__init__"=some (some (.ref f))
 fn:Bv K (.ref f)=true
 kp:yT K (.ref C)=true
theorem VX {σ:St} (M:Mk X.K C f) (F:bh X.prog X.w X.K X.mg X.base CX k f fd ps sp) (hr:jj (k+1) X.A) (hb:Binds X.K fd ps ds) (hd:Vals E7 ds)
 (hx:Passes CX X E) (I:Inv X pins σ H s) (r:Vals vs us)
 (h:∀x dx,H x=none→H dx=none→dx≠x→sp (.ref x::(vs++E7)) (upd (upd H dx (.own x)) x (.ins C dx [])) (λv H2=>v=.bK∧Q (.ref x) H2) E) :
 cD 0#l X.A (call (.ref C) us) (EP X pins σ Q) X.xe s:=by
 have hq:=h 0#L s.heap.objs.size (I.hok.fresh (yM _)) (I.hok.fresh (dS _)) (mP (abj _))
 have I2:=Inv.made (C:=C) I
 have r2:Vals (V.ref 0#L::(vs++E7)) (Value.ref 0#L::(us++ds)):=.cons rfl (r.append hd)
 have hl:(Value.ref 0#L::us++ds).length=ps.length:=by
  have e:=r2.length
  rw [F.len _ _ _ _ hq] at e
  exact e.symm
 refine wpAny_call (U6 (f:=f) I.BQ M.makes M.init (yO.mp M.fn) (Rz (F.run _ X.stack _ _ ⟨Value.ref 0#L::us,[]⟩ (Value.ref 0#L::(us++ds)) _ _ E (hr.make C us [])
  (I2.aeL.make C us []) (hb _ (Value.ref 0#L::us) I2.BQ hl) r2 hq) λr s' hq'=>?_))
 cases r with
 | error e=>exact hx pins σ _ _ e s' I2 hq'
 | ok fl=>
   cases fl with
   | ret u=>
     obtain ⟨v,H',I3,rv,ev,q3⟩:=I2.after hq'
     subst ev
     exact ⟨rv,⟨V.ref 0#L,H',I3,rfl,q3⟩⟩
   | next=>exact qB hq'
   | brk=>exact qB hq'
   | cont=>exact qB hq'
theorem Zr (M:Mk X.K C f) (F:bh X.prog X.w X.K X.mg X.base CX k f fd ps sp) (hr:jj (k+1) X.A) (hg:Gl X x) (hm:X.mg x=some (.ref C)) (hb:Binds X.K fd ps ds) (hd:Vals E7 ds) (hx:Passes CX X E)
 (ha:PA X (e::es) t) (hdb:0#x=false:=by decide) (he:bG (e::es) X.env=0#D::bG es X.env:=by rfl) (hpl:(iU pos (bG es X.env)).any (·.1)=false:=by rfl) :
 PE X (.Call (.Name x p) (e::es) [] pos) (Wo C sp E7 E t):=by
 intro pins s σ H Q I h
 refine Rf (Ik I hg hm ?_ hdb)
 refine WU (h₀:=X.base) I.ok.mod.kin M.kp (iI (ha pos pins s σ H _ I h) λus s1 ⟨vs,H1,I1,r,q⟩=>⟨I1.BQ,?_⟩) he hpl
 exact VX M F hr hb hd hx I1 r q
structure xr (N P:List Str) (sc:qD):Prop where
 kind:sc.kind=.function
 co:sc.isCoroutine=false
 gen:sc.isGenerator=false
 nd:N.Nodup
 pre:N.take P.length=P
 par:∀x∈P,sc.names.lookup x=some .local∨sc.names.lookup x=some .cell
 ady:∀y∈sc.names,y.2≠.free
theorem Gn {kindOf:Str→Option yP}:∀{binds:List (Str×aJ)} {m:Str→Option aJ},(∀v,(x,v)∉binds)→BA kindOf binds m x=m x
 | [],_,_=>rfl
 | (n,v)::r,m,h=>by
   unfold BA
   rw [Gn λw hw=>h w (B9 _ hw)]
   split
   ·have:x≠n:=by rintro rfl;exact h v Ge
    simp [this]
   ·rfl
theorem Gk {kindOf:Str→Option yP}:∀{binds:List (Str×aJ)} {m:Str→Option aJ},(∀v,(x,v)∉binds)→BB kindOf binds m x=m x
 | [],_,_=>rfl
 | (n,v)::r,m,h=>by
   unfold BB
   rw [Gk λw hw=>h w (B9 _ hw)]
   split
   ·rfl
   ·have:x≠n:=by rintro rfl;exact h v Ge
    simp [this]
theorem Gm {kindOf:Str→Option yP}:∀{P:List Str} {vs:List aJ} {i:Nat} {m:Str→Option aJ},P.Nodup→P[i]?=some x→vs[i]?=some v→kindOf x=some .local →
 BA kindOf (P.zip vs) m x=some v
 | [],_,_,_,_,h,_,_=>by simp at h
 | _::_,[],_,_,_,_,h,_=>by simp at h
 | p::P,w::vs,0,m,nd,h1,h2,hk=>by
   simp at h1 h2;subst h1;subst h2
   show BA kindOf ((p,w)::P.zip vs) m p=_
   unfold BA
   rw [Gn λv hv=>(Rq.mp nd).1 (W6 hv).1,if_pos hk]
   simp
 | p::P,w::vs,i+1,m,nd,h1,h2,hk=>by
   show BA kindOf ((p,w)::P.zip vs) m x=_
   unfold BA
   exact Gm (i:=i) (Rq.mp nd).2 (by simpa using h1) (by simpa using h2) hk
theorem Gj {kindOf:Str→Option yP}:∀{P:List Str} {vs:List aJ} {i:Nat} {m:Str→Option aJ},P.Nodup→P[i]?=some x→vs[i]?=some v→kindOf x≠some .local →
 BB kindOf (P.zip vs) m x=some v
 | [],_,_,_,_,h,_,_=>by simp at h
 | _::_,[],_,_,_,_,h,_=>by simp at h
 | p::P,w::vs,0,m,nd,h1,h2,hk=>by
   simp at h1 h2;subst h1;subst h2
   show BB kindOf ((p,w)::P.zip vs) m p=_
   unfold BB
   rw [Gk λv hv=>(Rq.mp nd).1 (W6 hv).1,if_neg hk]
   simp
 | p::P,w::vs,i+1,m,nd,h1,h2,hk=>by
   show BB kindOf ((p,w)::P.zip vs) m x=_
   unfold BB
   exact Gj (i:=i) (Rq.mp nd).2 (by simpa using h1) (by simpa using h2) hk
def start (N:List Str) (vs:List V):St:=vs.map some++lW (N.length-vs.length) none
def MZ (CX:X0) (P:jA) (w:fN) (K:cj) (mg:Str→Option aJ) (base:cP) (N:List Str) (qual:Str) (scope:qD) (f:aq) (cd:aJ) (A:oO) (outer:List Env) (s:bC) (H:Hp) (E:XK):Cx where
 prog:=P
 w:=w
 K:=K
 mg:=mg
 base:=base
 A:=A.deeper (vJ qual scope s.heap.objs.size f cd)
 N:=N
 s₀:=s
 H₀:=H
 env:=vJ qual scope s.heap.objs.size f cd
 outer:=outer
 stack:=vJ qual scope s.heap.objs.size f cd::outer
 ex:=[]
 calm:=true
 fn:=λ_=>true
 pn:=[]
 xe:=λe s'=>cD (model P w) (A.deeper (vJ qual scope s.heap.objs.size f cd)) (leaving (vJ qual scope s.heap.objs.size f cd) e) (λ_ s''=>CX outer H s E e s'') (λe' s''=>CX outer H s E e' s'') s'
theorem Ku {sc:qD} (h:sc.names.lookup x=some .cell):∃c,(cellsFrom n sc.names []).lookup x=some c:=by
 have q:=aaD sc.names n [] (.inl h)
 exact QZ.mp q
theorem Sx {K:cj}
 (S:xr N ps scope) (hd:A.handled=none) (e0:MR P w K mg base A outer s H) (hl:vs.length=ps.length) (r:Vals vs us)
 (x:InCallC s s.heap.objs.size (BA (vJ qual scope s.heap.objs.size f cd).kindOf (ps.zip us) λ_=>none) (cellsFrom 0#L scope.names []) (BB (vJ qual scope s.heap.objs.size f cd).kindOf (ps.zip us) λ_=>none) s1) :
 Inv (MZ CX P w K mg base N qual scope f cd A outer s H E) [] (start N vs) H s1:=by
 have hpl:ps.length≤N.length:=by have:=congrArg oK S.pre;rw [oQ] at this;simp?
 obtain ⟨h1,tk,rfl,hk⟩:=x.done
 have noA:∀b:aq,b∉(MZ CX P w K mg base N qual scope f cd A outer s H E).ex:=λb z=>absurd (show b∈([]:List aq) from z) 0#d
 refine ⟨⟨e0.mod,S.kind,rfl,rfl,dS _,λy z c h1 h2=>?_,λy hy=>?_,λy c _ h=>?_,λ_=>hd,Around.frames_deeper e0.frames,.inr 0#U,λb z=>absurd z (noA b),e0.bs,e0.Z9,λb _ _=>noA b,λb z=>absurd z (noA b),e0.BF,e0.frf⟩,
  rfl,e0.bare,Un.kept hk,⟨_,x.toInCall.ns,λi y v h1 h2 h3=>?_⟩,λy c h=>⟨_,x.cell y c h⟩,e0.hok.fresh (dS _),λy c h=>?_,λp hp=>absurd (show p∈([]:List (aq×Obj)) from hp) 0#d,e0.hok.kept hk,?_⟩
 ·exact name_of_addr x.apart (Mq h1) (Mq h2)
 ·have hy:scope.names.lookup y=some .cell∨scope.names.lookup y=some .free:=hy
  rcases hy with hy | hy
  ·exact Ku hy
  ·exact absurd rfl (S.ady _ (Mq hy))
 ·exact nA (x.above y c (Mq h))
 ·have hi:i<vs.length:=by
   unfold start at h2
   by_cases hi:i<vs.length
   ·exact hi
   ·rw [yR (by simpa using hi)] at h2
    rw [WI] at h2
    split at h2 <;> cases h2
  have ha:vs[i]?=some v:=by
   unfold start at h2
   rw [vn (by simpa using hi),kE] at h2
   cases e:vs[i]? with
   | none=>rw [e] at h2;cases h2
   | some a=>rw [e] at h2;cases h2;rfl
  obtain ⟨u,hu,rv⟩:=r.get ha
  have hp:ps[i]?=some y:=by
   rw [← S.pre,List.getElem?_take_of_lt 0#b];exact h1
  have ndP:ps.Nodup:=by rw [← S.pre];exact S.nd.sublist (yE _ _)
  refine ⟨u,rv,?_⟩
  rcases S.par y (mT hp) with k | k
  ·exact .inl ⟨k,Gm ndP hp hu k⟩
  ·obtain ⟨c,e⟩:=Ku (n:=s.heap.objs.size+1) k
   refine .inr ⟨.inl k,c,e,?_⟩
   have q:=x.cell y c e
   rw [Gj ndP hp hu (by show scope.names.lookup y≠_;rw [k];decide)] at q
   exact q
 ·exact e0.hok.fresh (nA (x.above y c (Mq h)))
 ·unfold start
  show _=N.length
  rw [fh,gI,G6]
  simp?
theorem aeR {CX:X0} {P:jA} {w:fN} {K:cj} {mg:Str→Option aJ} {base:cP} {k:Nat} {f:aq} {name qual:Str} {body:List aU} {scope:qD} {dV kV doc pm cdv ct oc:aJ} {an od:Option aq}
 {osl:Array (Option aJ)} {N ps:List Str} {sp:Sp} (lk:K.lookup f=some ⟨oc,od,.func (uP name qual params body scope dV kV doc pm an cdv ct),osl⟩) (hcd:yL K cdv qual=true) (S:xr N ps scope)
 (len:∀vs H Q E,sp vs H Q E→vs.length=ps.length)
 (hbody:∀(A:oO) (outer:List Env) (s:bC) (H:Hp) (vs:List V) (Q:VK) (E:XK),jj k (A.deeper (vJ qual scope s.heap.objs.size f cdv))→sp vs H Q E →
   ∃t,MH (MZ CX P w K mg base N qual scope f cdv A outer s H E) body t∧t { nx:=λ_ H'=>Q .bK H',rt:=Q } (start N vs) H) :
 bh P w K mg base CX (k+1) f (uP name qual params body scope dV kV doc pm an cdv ct) ps sp:=by
 refine ⟨len,λA outer s H args us vs Q E hr e0 hb r hsp=>?_⟩
 have hl:=len _ _ _ _ hsp
 have KX:K.In s.heap:=e0.mod.kin.keeps λb o e=>(e0.bs b o e).1
 have lim:s.heap.NoLimit:=e0.mod.nolimit.keeps λb o e=>(e0.bs b o e).1
 have hkind:∀y∈ps.zip us,scope.names.lookup y.1=some .local∨(scope.names.lookup y.1=some .cell∧((cellsFrom 0#L scope.names []).lookup y.1).isSome=true):=λ⟨n,v⟩ hy=>by
  rcases S.par n (W6 hy).1 with q | q
  ·exact .inl q
  ·exact .inr ⟨q,aaD _ _ _ (.inl q)⟩
 refine codeAny_call_function hr.depth (KX _ _ lk) rfl S.co S.gen rfl (PySem.W.codeRec_of KX hcd) (hb _ _ _ _ ?_)
 refine wpAny_newFunctionEnv_cells S.kind hkind λenv he s1 x=>?_
 subst he
 refine ⟨lim.keeps x.toInCall.keep,codeAny_func ?_⟩
 obtain ⟨t,ht,hq⟩:=hbody A outer s H vs Q E (hr.deeper _) hsp
 have I:Inv (MZ CX P w K mg base N qual scope f cdv A outer s H E) [] (start N vs) H s1:=Sx S hr.hd e0 hl r x
 refine qA (ht [] s1 (start N vs) H _ I hq) (λfl s' hs=>?_) λe s' hs=>hs
 have fin:∀{σ':St} {H':Hp} {v:V} {u:aJ},Inv (MZ CX P w K mg base N qual scope f cdv A outer s H E) [] σ' H' s'→RelV v u→Q v H'→CE outer P w H s Q u s':=
  λ{σ' H' v u} J rv q=>⟨v,H',J.os,J.bare,J.base,J.hok,rv,q⟩
 cases fl with
 | ret u=>
   obtain ⟨v,σ',H',J,rv,q⟩:=hs
   exact fin J rv q
 | next=>
   obtain ⟨σ',H',J,q⟩:=hs
   exact fin (v:=V.bK) (u:=Value.none) J rfl q
 | brk=>
   obtain ⟨_,_,_,q⟩:=hs
   exact qB q
 | cont=>
   obtain ⟨_,_,_,q⟩:=hs
   exact qB q
def tCB (r:List V→Hp→VK→Prop) (t:TA):TE:=λσ H Q=>t σ H λvs H1=>r vs H1 Q
theorem xX {X:Cx} {x:Str} {p pos:Pos} {e:bA} {es:List bA} {t:TA} {id:String} {r:List V→Hp→VK→Prop} (hc:jP X (.builtin id) r) (hg:Gl X x) (hm:X.mg x=none) (hv:vG x=some (.builtin id)) (ha:PA X (e::es) t) (hn:x ≠ "__name__":=by decide) (hdb:0#x=false:=by decide)
 (he:bG (e::es) X.env=0#D::bG es X.env:=by rfl) (hpl:(iU pos (bG es X.env)).any (·.1)=false:=by rfl):PE X (.Call (.Name x p) (e::es) [] pos) (tCB r t):=by
 intro pins s σ H Q I h
 refine Rf (wj I hg hm hv ?_ hn hdb)
 exact agm (iI (ha pos pins s σ H _ I h) λus s1 ⟨vs,H1,I1,r1,q1⟩=>hc pins s1 σ H1 vs us Q I1 r1 q1) he hpl
theorem kW {X:Cx} {x:Str} {p pos:Pos} {e:bA} {es:List bA} {t:TA} {T:String} {r:List V→Hp→VK→Prop} (hc:jP X (.type T) r) (hg:Gl X x) (hm:X.mg x=none) (hv:vG x=some (.type T)) (ha:PA X (e::es) t) (hn:x ≠ "__name__":=by decide) (hdb:0#x=false:=by decide)
 (he:bG (e::es) X.env=0#D::bG es X.env:=by rfl) (hpl:(iU pos (bG es X.env)).any (·.1)=false:=by rfl):PE X (.Call (.Name x p) (e::es) [] pos) (tCB r t):=by
 intro pins s σ H Q I h
 refine Rf (wj I hg hm hv ?_ hn hdb)
 exact Mc (iI (ha pos pins s σ H _ I h) λus s1 ⟨vs,H1,I1,r1,q1⟩=>hc pins s1 σ H1 vs us Q I1 r1 q1) he hpl
end L2
namespace HT
open PySem PyProof.Rows
theorem Yc (ht:IsTup s.heap t vs.toArray) (hb:IsTup s.heap b ws.toArray) (hv:vs≠[])
 (h1:ws=[]→Q (.ref t) s) (h2:ws≠[]→Q (.ref s.heap.objs.size) { s with heap:=s.heap.push { cls:=.type "tuple",data:=.seq (vs++ws).toArray } })
 (hsz:vs.length+ws.length≤sizeLine):cD 0#R A (pC .Add (.ref t) (.ref b)) Q E s:=by
 obtain ⟨⟨cls,dd,data,sl⟩,ho,hc,n,hd⟩:=id ht
 obtain ⟨⟨aiA,dd2,data2,sl2⟩,ho2,hc2,n2,hd2⟩:=id hb
 simp only at hc hd hc2 hd2
 subst hc hd hc2 hd2
 have e:vs.toArray++ws.toArray=(vs++ws).toArray:=by simp
 by_cases hw:ws=[]
 ·exact concat_meets ⟨_,ho,rfl⟩ ⟨_,ho2,rfl⟩ abk abI aaE aaA (aay _ _)
   (tuple_addW1 t b vs.toArray ws.toArray n n2 dd dd2 sl sl2 (by simpa using hv) (by simp [hw])) ⟨ho,ho2,h1 hw⟩
 ·refine concat_meets ⟨_,ho,rfl⟩ ⟨_,ho2,rfl⟩ abk abI aaE aaA (aay _ _)
   (tuple_addW2 t b vs.toArray ws.toArray n n2 dd dd2 sl sl2 (by simpa using hv) (by simpa using hw) (by rw [jZ,jZ];exact hsz)) ⟨ho,ho2,?_⟩
  rw [e]
  exact h2 hw
def G2 (n d:Nat):Option Int→Nat
 | none=>d
 | some v=>if v<0 then (v+(n:Int)).toNat else min v.toNat n
theorem Ct (n d k:Nat):G2 n d (some (k:Int))=min k n:=by
 show (if (k:Int)<0 then ((k:Int)+(n:Int)).toNat else min (k:Int).toNat n)=min k n
 rw [if_neg 0#b,W0]
end HT
namespace L2
open PySem PySem.Spec PyProof.Rows
abbrev TO:=St→Hp→(Option Int→Hp→Prop)→Prop
def PO (X:Cx) (e:Option bA) (t:TO):Prop:=
 ∀(pins:List (aq×Obj)) (s:bC) (σ:St) (H:Hp) (Q:Option Int→Hp→Prop),Inv X pins σ H s→t σ H Q →
  cD 0#l X.A (evalPart e X.env) (λu s'=>∃o H',Inv X pins σ H' s'∧IsPart u o∧Q o H') X.xe s
def J3:TO:=λ_ H Q=>Q none H
def Wu (t:TE):TO:=λσ H Q=>t σ H λx H1=>∃i,x=.int i∧Q (some i) H1
theorem intsAre_of:∀{us:List aJ},Vals 0#E us→EZ us ns:=by
 induction ns with
 | nil=>intro us r;rw [Xj] at r;cases r;exact .nil
 | cons n ns ih=>
   intro us r
   rw [Bu] at r
   cases r with
   | cons r1 r2=>
     obtain ⟨t,e⟩:=r1
     subst e
     exact .cons n t (ih r2)
theorem Je {X:Cx}:PO X none J3:=by
 intro pins s σ H Q I h
 rw [abJ]
 exact oU ⟨none,H,I,.none,h⟩
theorem Jf {X:Cx} {e:bA} {te:TE} (h:PE X e te):PO X (some e) (Wu te):=by
 intro pins s σ H Q I hw
 rw [evalPart_some]
 refine iI (h pins s σ H _ I hw) λu s1 ⟨x,H1,I1,r1,q1⟩=>?_
 obtain ⟨i,rfl,q⟩:=q1
 obtain ⟨t,rfl⟩:=r1
 exact ⟨some i,H1,I1,.int i t,q⟩
def SlR (X:Cx) (r:V→Option Int→Option Int→Hp→VK→Prop):Prop:=
 ∀(pins:List (aq×Obj)) (s:bC) (σ:St) (H:Hp) (x:V) (v vl vu:aJ) (lo hi:Option Int) (sl:aq) (Q:VK),Inv X pins σ H s→RelV x v→s.heap.IsSliceOf sl vl vu .none→IsPart vl lo→IsPart vu hi→r x lo hi H Q →
  ∃T id,typeLookup (.type T) "__getitem__"=pure (some (.builtin id))∧s.TypeIs v T∧cD 0#l X.A (getItem v (.ref sl)) (EP X pins σ Q) X.xe s
def tSl (r:V→Option Int→Option Int→Hp→VK→Prop) (te:TE) (tl th:TO):TE:=λσ H Q=>te σ H λx H1=>tl σ H1 λl H2=>th σ H2 λu H3=>r x l u H3 Q
theorem DI {X:Cx} {e:bA} {te:TE} {lo hi:Option bA} {tl th:TO} {pos p2:Pos} {r:V→Option Int→Option Int→Hp→VK→Prop} (hr:SlR X r) (he:PE X e te) (hl:PO X lo tl) (hu:PO X hi th):PE X (.Subscript e (.Slice lo hi none p2) pos) (tSl r te tl th):=by
 intro pins s σ H Q I h
 refine Subscript_ (iI (he pins s σ H _ I h) λv s1 ⟨x,H1,I1,r1,q1⟩=>?_)
 refine wpAny_Slice (iI (hl pins s1 σ H1 _ I1 q1) λvl s2 ⟨l,H2,I2,pl,q2⟩=>iI (hu pins s2 σ H2 _ I2 q2) λvu s3 ⟨u,H3,I3,pu,q3⟩=>?_)
 rw [abJ]
 refine oU ?_
 have I4:Inv X pins σ H3 { s3 with heap:=s3.heap.push { cls:=.type "slice",data:=.fields #[vl,vu,.none] } }:=I3.kept (t':=s3.toks) λb ob q=>pX _ q
 obtain ⟨T,id,hT,ht,hg⟩:=hr pins { s3 with heap:=s3.heap.push { cls:=.type "slice",data:=.fields #[vl,vu,.none] } } σ H3 x v vl vu l u s3.heap.objs.size Q I4 r1 (ag3 ..) pl pu q3
 show cD 0#l X.A (subscriptTail e (.Slice lo hi none p2) v (.ref s3.heap.objs.size)) (EP X pins σ Q) X.xe { s3 with heap:=s3.heap.push { cls:=.type "slice",data:=.fields #[vl,vu,.none] } }
 exact tail_any (ops:=[.ref s3.heap.objs.size,v]) ht hT hg (by with_unfolding_all rfl)
def j8 (xs:List V) (lo hi:Option Int):List V:=(xs.drop (HT.G2 xs.length 0 lo)).take (HT.G2 xs.length xs.length hi-HT.G2 xs.length 0 lo)
theorem Kz (xs:List V) (lo hi:Option Int):(j8 xs lo hi).length≤xs.length:=by
 unfold j8
 rw [oQ,mO]
 simp?
def VM (K:cj):R2:=λx y H Q=>∃a b xs ys,x=.ref a∧y=.ref b∧tD K H a xs∧tD K H b ys∧xs≠[]∧xs.length+ys.length≤sizeLine ∧
 (ys=[]→Q (.ref a) H)∧(ys≠[]→∀p,H p=none→Q (.ref p) (upd H p (.tup (xs++ys))))
theorem Vals.IB (r:Vals xs us):us=[]↔xs=[]:=by
 cases r with
 | nil=>simp
 | cons _ _=>simp
theorem Zn:rT X (pC .Add) (VM X.K):=by
 intro pins s σ H x y v u Q I rx ry h
 obtain ⟨a,b,xs,ys,rfl,rfl,ha,hb,hx,hz,q1,q2⟩:=h
 cases rx
 cases ry
 obtain ⟨its,r1,p1,_⟩:=I.tuple ha
 obtain ⟨its2,r2,p2,_⟩:=I.tuple hb
 refine HT.Yc p1 p2 (λz=>hx (r1.IB.mp z)) (λz=>⟨.ref a,H,I,rfl,q1 (r2.IB.mp z)⟩) (λz=>?_) (by rw [← r1.length,← r2.length];exact hz)
 refine ⟨.ref s.heap.objs.size,_,I.laid (t':=s.toks) (o:=.tup (xs++ys)) (λb ob q=>pX _ q) (dS _) ?_,rfl,q2 (λw=>z (r2.IB.mpr w)) _ (I.hok.fresh (dS _))⟩
 exact ⟨by rw [fh];exact hz,_,r1.append r2,Xy _ _⟩
def Tz (n:Nat) (i:Int):Option Nat:=if 0≤i then (if i<n then some i.toNat else none) else if -(n:Int)≤i then some (i+n).toNat else none
def sI {α:Type} (xs:List α) (i:Int):Option α:=(Tz xs.length i).bind λj=>xs[j]?
theorem Qj (h:Tz n i=some j):seqIndex? i n=some j∧j<n∧-(n:Int)≤i∧i<n:=by
 unfold Tz at h
 by_cases h0:0≤i
 ·rw [if_pos h0] at h
  by_cases h1:i<n
  ·rw [if_pos h1] at h
   have e:i.toNat=j:=qE h
   exact ⟨by rw [Xo h0 h1,e],by simp?,by simp?,h1⟩
  ·rw [if_neg h1] at h;cases h
 ·rw [if_neg h0] at h
  by_cases h1:-(n:Int)≤i
  ·rw [if_pos h1] at h
   have e:(i+n).toNat=j:=qE h
   exact ⟨by rw [Xk 0#b h1,e],by simp?,h1,by simp?⟩
  ·rw [if_neg h1] at h;cases h
theorem PC (h:sI xs i=some v):∃j,seqIndex? i xs.length=some j∧xs[j]?=some v∧j<xs.length∧-(xs.length:Int)≤i∧i<xs.length:=by
 unfold sI at h
 cases e:Tz xs.length i with
 | none=>rw [e] at h;cases h
 | some j=>
   rw [e] at h
   obtain ⟨h1,h2,h3,h4⟩:=Qj e
   exact ⟨j,h1,h,h2,h3,h4⟩
theorem iG {j:Nat} (h:xs[j]?=some v):sI xs (j:Int)=some v:=by
 have hj:j<xs.length:=(nH.mp h).1
 have e:Tz xs.length (j:Int)=some j:=by
  unfold Tz
  rw [if_pos 0#b,if_pos 0#b];simp
 unfold sI;rw [e];exact h
def Px (b:bA):Prop:=∀o i,subscripted b false o i=operate [o,i] (getItem o i)
def IxR (X:Cx) (r:R2):Prop:=
 ∀(value slice:bA) (pins:List (aq×Obj)) (s:bC) (σ:St) (H:Hp) (x y:V) (v u:aJ) (Q:VK),Inv X pins σ H s→RelV x v→RelV y u→r x y H Q →
  subscripted slice false v u=operate [v,u] (getItem v u)→cD 0#l X.A (subscriptTail value slice v u) (EP X pins σ Q) X.xe s
def MtR (X:Cx) (id:String) (r:V→List V→Hp→VK→Prop):Prop:=
 ∀(pins:List (aq×Obj)) (s:bC) (σ:St) (H:Hp) (x:V) (xs:List V) (v:aJ) (us:List aJ) (Q:VK),Inv X pins σ H s→RelV x v→Vals xs us→r x xs H Q →
  cD 0#l X.A (call (.builtin id) (v::us)) (EP X pins σ Q) X.xe s
section
variable {X:Cx} {a b:bA} {ta tb:TE} {pos:Pos}
theorem LI {r:R2} (hr:IxR X r) (ha:PE X a ta) (hb:PE X b tb) (hs:Px b):PE X (.Subscript a b pos) (Wt r ta tb):=by
 intro pins s σ H Q I h
 exact Subscript_ (acz ha hb I h λv u s2 x y H2 I2 rx ry q=>hr a b pins s2 σ H2 x y v u Q I2 rx ry q (hs _ _))
def Zx (K:cj):R2:=λx y H Q=>∃p xs i v,x=.ref p∧y=.int i∧bq K H p xs∧sI xs i=some v∧Q v H
def OD (K:cj):R2:=λx y H Q=>∃p xs i v,x=.ref p∧y=.int i∧tD K H p xs∧sI xs i=some v∧Q v H
theorem YX:IxR X (Zx X.K):=by
 intro value slice pins s σ H x y v u Q I rx ry h hs
 obtain ⟨p,xs,i,z,rfl,rfl,hq,he,q⟩:=h
 cases rx
 obtain ⟨t,rfl⟩:=ry
 obtain ⟨its,r,pl,hz⟩:=I.list hq
 obtain ⟨j,h1,h2,h3,h4,h5⟩:=PC he
 obtain ⟨w,ew,rw'⟩:=r.get h2
 have hl:=r.length
 have hn:=Il
 have fin:EP X pins σ Q w s:=⟨z,H,I,rw',q⟩
 by_cases h0:0≤i
 ·have hj:i.toNat=j:=by
   rw [Xo h0 h5] at h1
   exact qE h1
  exact item_listR pl.isList h0 0#b (by rw [hj];simpa using ew) fin hs
 ·have hj:(i+(its.toArray.size:Int)).toNat=j:=by
   rw [Xk 0#b h4] at h1
   rw [jZ,← hl]
   exact qE h1
  exact aaF (x:=w) pl.isList.typeIs abc.lookup
   (wpAny_getItem_list_neg (Q:=λr s'=>r=w∧EP X pins σ Q r s') pl.isList 0#b (by rw [jZ] <;> simp?) 0#b (by rw [hj];simpa using ew) ⟨rfl,fin⟩) hs
theorem adh:IxR X (OD X.K):=by
 intro value slice pins s σ H x y v u Q I rx ry h hs
 obtain ⟨p,xs,i,z,rfl,rfl,hq,he,q⟩:=h
 cases rx
 obtain ⟨t,rfl⟩:=ry
 obtain ⟨its,r,pl,hz⟩:=I.tuple hq
 obtain ⟨j,h1,h2,h3,h4,h5⟩:=PC he
 obtain ⟨w,ew,rw'⟩:=r.get h2
 have hl:=r.length
 have hn:=Il
 have fin:EP X pins σ Q w s:=⟨z,H,I,rw',q⟩
 exact aaF (x:=w) pl.typeIs slot_tuple_getitem.lookup
  (getItem_tuple (j:=j) (Q:=λr s'=>r=w∧EP X pins σ Q r s') pl 0#b 0#b (by rw [jZ,← hl];exact h1) (by simpa using ew) ⟨rfl,fin⟩) hs
theorem NI (its:List aJ) (n j:Nat) (u:aJ):MD (·.setIfInBounds j u) { cls:=.type "list",data:=.seq its.toArray n }={ cls:=.type "list",data:=.seq (its.set j u).toArray n }:=by
 simp [MD]
theorem Inv.lst {pins:List (aq×Obj)} {σ:St} {H:Hp} {s:bC} {p:aq} {xs:List V} (I:Inv X pins σ H s) (h:H p=some (.lst xs)) :
 ∃(its:List aJ) (n:Nat),Vals xs its∧s.heap.get? p=some { cls:=.type "list",data:=.seq its.toArray n }∧xs.length≤sizeLine:=by
 obtain ⟨z,its,n,r,e⟩:=I.hok p _ h
 exact ⟨its,n,r,e,z⟩
theorem Inv.adq {σ:St} {its:List aJ} (I:Inv X pins σ H s) (h:H p=some (.lst xs))
 (ho:s.heap.get? p=some { cls:=.type "list",data:=.seq its.toArray n }) (hf:f { cls:=.type "list",data:=.seq its.toArray n }={ cls:=.type "list",data:=.seq its'.toArray n' }) (r:Vals ys its') (hz:ys.length≤sizeLine) (t:Nat) :
 Inv X pins σ (upd H p (.lst ys)) { s with heap:=s.heap.update p f,toks:=t }:=by
 have e:(s.heap.update p f).get? p=some { cls:=.type "list",data:=.seq its'.toArray n' }:=by
  rw [Heap.get?_update_self f ho (by rw [hf] <;> rfl),hf]
 refine I.write (x:=p) (e:=p) (by rw [h];trivial) (.inl rfl) (λb u hb q=>(aaG _ _ (j4 hb)).trans q) ⟨_,e⟩ ?_
 exact ⟨hz,its',n',r,e⟩
def aaq:V→V→V→Hp→(Hp→Prop)→Prop:=λo i v H Q=>∃p xs k j,o=.ref p∧i=.int k∧H p=some (.lst xs)∧Tz xs.length k=some j∧Q (upd H p (.lst (xs.set j v)))
theorem set_list:acu X aaq:=by
 intro pins s σ H o i v ov iv u Q I ro ri rv h
 obtain ⟨p,xs,k,j,rfl,rfl,hp,hj,q⟩:=h
 cases ro
 obtain ⟨t,rfl⟩:=ri
 obtain ⟨its,n,r,ho,hz⟩:=I.lst hp
 obtain ⟨h1,h2,h3,h4⟩:=Qj hj
 have hl:=r.length
 have hn:=Il
 have I':Inv X pins σ (upd H p (.lst (xs.set j v))) { s with heap:=s.heap.update p (MD (·.setIfInBounds j u)) }:=
  I.adq hp ho (NI its n j u) (r.set rv j) (by rw [List.length_set];exact hz) s.toks
 by_cases h0:0≤k
 ·have hk:k.toNat=j:=by
   rw [Xo h0 h4] at h1
   exact qE h1
  exact PySem.W.ki_setAt ho h0 0#b (by rw [jZ,← hl];exact h4) (by rw [hk];exact ⟨_,I',q⟩)
 ·have hk:(k+(its.toArray.size:Int)).toNat=j:=by
   rw [Xk 0#b h3] at h1
   rw [jZ,← hl]
   exact qE h1
  exact PySem.W.ki_setBack ho 0#b (by rw [jZ,← hl];exact h3) 0#b (by rw [hk];exact ⟨_,I',q⟩)
theorem JH (lo hi:Option Int) (n:Nat):(EW lo hi none n).1=((HT.G2 n 0 lo:Nat):Int)∧(EW lo hi none n).2.1=((HT.G2 n n hi:Nat):Int)∧(EW lo hi none n).2.2=1:=by
 refine ⟨?_,?_,rfl⟩
 ·cases lo with
  | none=>simp [EW,HT.G2]
  | some i=>
    simp only [EW,HT.G2,abl,show (1:Int)>0 by decide,if_true]
    by_cases h:i<0
    ·simp only [h,if_true] <;> simp?
    ·simp only [h,if_false] <;> simp?
 ·cases hi with
  | none=>simp [EW,HT.G2]
  | some i=>
    simp only [EW,HT.G2,abl,show (1:Int)>0 by decide,if_true]
    by_cases h:i<0
    ·simp only [h,if_true] <;> simp?
    ·simp only [h,if_false] <;> simp?
theorem F9 (its:List aJ) (lo hi:Option Int):slicePick its.toArray lo hi none=((its.drop (HT.G2 its.length 0 lo)).take (HT.G2 its.length its.length hi-HT.G2 its.length 0 lo)).toArray:=by
 obtain ⟨h1,h2,h3⟩:=JH lo hi its.toArray.size
 unfold slicePick
 rw [h1,h2,h3]
 simp only [sliceRange_one,pick_run,jZ] <;> rfl
def adL (K:cj):V→Option Int→Option Int→Hp→VK→Prop:=λx lo hi H Q=>∃a xs,x=.ref a∧bq K H a xs∧∀p,H p=none→Q (.ref p) (upd H p (.lst (j8 xs lo hi)))
theorem ZO:SlR X (adL X.K):=by
 intro pins s σ H x v vl vu lo hi sl Q I rx hs pl pu h
 obtain ⟨a,xs,rfl,hx,q⟩:=h
 cases rx
 obtain ⟨its,r,ht,hz⟩:=I.list hx
 have hlen:=r.length
 refine ⟨"list",_,abc.lookup,ht.isList.typeIs,?_⟩
 refine wpAny_getItem_list_slice ht.isList hs pl pu .none 0#d ?_ (by rw [jZ] <;> simp?)
 rw [F9,← hlen]
 refine ⟨.ref s.heap.objs.size,_,I.laid (t':=s.toks) (o:=.lst (j8 xs lo hi)) (λb ob q=>pX _ q) (dS _) ?_,rfl,q _ (I.hok.fresh (dS _))⟩
 exact ⟨dR (Kz xs lo hi) hz,_,0,(r.drop (HT.G2 xs.length 0 lo)).take (HT.G2 xs.length xs.length hi-HT.G2 xs.length 0 lo),Gd _ rfl⟩
def AX:V→Bool
 | .bK=>true
 | .bl _=>true
 | .int _=>true
 | .str _=>true
 | _=>false
def XG:V→V→Bool
 | .bK,.bK=>true
 | .bl a,.bl b=>a==b
 | .bl a,.int b=>(if a then 1 else 0)==b
 | .int a,.bl b=>a==(if b then 1 else 0)
 | .int a,.int b=>a==b
 | .str a,.str b=>a==b
 | _,_=>false
theorem acM (ry:RelV y u) (rx:RelV x v) (fy:AX y=true) (fx:AX x=true):ace A s u v (XG y x):=by
 cases y with
 | bK=>
   cases ry
   cases x with
   | bK=>cases rx;exact ag8 _
   | bl b=>cases rx;exact agO b
   | int b=>obtain ⟨t,rfl⟩:=rx;exact agT b t
   | str b=>obtain ⟨t,rfl⟩:=rx;exact agU b t
   | _=>exact absurd (show false=true from fx) fQ
 | bl a=>
   cases ry
   cases x with
   | bK=>cases rx;exact agP a
   | bl b=>cases rx;exact agQ a b
   | int b=>obtain ⟨t,rfl⟩:=rx;exact agV a b t
   | str b=>obtain ⟨t,rfl⟩:=rx;exact agW a b t
   | _=>exact absurd (show false=true from fx) fQ
 | int a=>
   obtain ⟨t',rfl⟩:=ry
   cases x with
   | bK=>cases rx;exact agX a t'
   | bl b=>cases rx;exact agY a t' b
   | int b=>obtain ⟨t,rfl⟩:=rx;exact ag4 a t' b t
   | str b=>obtain ⟨t,rfl⟩:=rx;exact aaX a t' b t
   | _=>exact absurd (show false=true from fx) fQ
 | str a=>
   obtain ⟨t',rfl⟩:=ry
   cases x with
   | bK=>cases rx;exact agZ a t'
   | bl b=>cases rx;exact ag0 a t' b
   | int b=>obtain ⟨t,rfl⟩:=rx;exact aaY a t' b t
   | str b=>obtain ⟨t,rfl⟩:=rx;exact ag5 a t' b t
   | _=>exact absurd (show false=true from fx) fQ
 | _=>exact absurd (show false=true from fy) fQ
def M1 (x:V) (u:aJ):Bool:=match u with
 | .none=>XG .bK x
 | .bool b=>XG (.bl b) x
 | .int i _=>XG (.int i) x
 | .str z _=>XG (.str z) x
 | _=>false
theorem Ut (r:RelV y u) (f:AX y=true):M1 x u=XG y x:=by
 cases y with
 | bK=>cases r;rfl
 | bl b=>cases r;rfl
 | int i=>obtain ⟨t,rfl⟩:=r;rfl
 | str z=>obtain ⟨t,rfl⟩:=r;rfl
 | _=>exact absurd (show false=true from f) fQ
theorem xy:∀{xs:List V} {us:List aJ},Vals xs us→xs.all AX=true→us.any (M1 x)=xs.any λy=>XG y x
 | _,_,.nil,_=>rfl
 | y::xs,u::us,.cons r t,f=>by
   rw [Rx,yG] at f
   rw [abK,abK,Ut r f.1,xy t f.2]
theorem tO (rx:RelV x v) (fx:AX x=true):∀{xs:List V} {us:List aJ},Vals xs us→xs.all AX=true→∀u∈us,ace A s u v (M1 x u)
 | _,_,.nil,_=>λu hu=>by cases hu
 | y::xs,u::us,.cons r t,f=>λu' hu=>by
   rw [Rx,yG] at f
   rcases pZ.mp hu with rfl | hu
   ·rw [Ut r f.1];exact acM r rx f.1 fx
   ·exact tO rx fx t f.2 u' hu
def XS (x:V) (xs:List V):Bool:=xs.any λy=>XG y x
def rIn (K:cj) (neg:Bool):R2:=λx y H Q=>∃p xs,y=.ref p∧(bq K H p xs∨tD K H p xs)∧AX x=true∧xs.all AX=true∧Q (.bl (if neg then !XS x xs else XS x xs)) H
theorem SW:rT X (oV .In) (rIn X.K false):=by
 intro pins s σ H x y v u Q I rx ry h
 obtain ⟨p,xs,rfl,hq,fx,fs,q⟩:=h
 cases ry
 rcases hq with hq | hq
 ·obtain ⟨its,r,pl,hz⟩:=I.list hq
  refine SeqAt.in_listAt (M1 x) pl.isList (λw hw=>tO rx fx r fs w (by simpa using hw)) ⟨.bl _,H,I,rfl,?_⟩
  rw [show its.toArray.any (M1 x)=its.any (M1 x) by simp,xy r fs]
  exact q
 ·obtain ⟨its,r,pl,hz⟩:=I.tuple hq
  refine SeqAt.in_tupleAt (M1 x) pl (λw hw=>tO rx fx r fs w (by simpa using hw)) ⟨.bl _,H,I,rfl,?_⟩
  rw [show its.toArray.any (M1 x)=its.any (M1 x) by simp,xy r fs]
  exact q
theorem IY:rT X (oV .NotIn) (rIn X.K true):=by
 intro pins s σ H x y v u Q I rx ry h
 obtain ⟨p,xs,rfl,hq,fx,fs,q⟩:=h
 cases ry
 rcases hq with hq | hq
 ·obtain ⟨its,r,pl,hz⟩:=I.list hq
  refine SeqAt.notIn_listAt (M1 x) pl.isList (λw hw=>tO rx fx r fs w (by simpa using hw)) ⟨.bl _,H,I,rfl,?_⟩
  rw [show its.toArray.any (M1 x)=its.any (M1 x) by simp,xy r fs]
  exact q
 ·obtain ⟨its,r,pl,hz⟩:=I.tuple hq
  refine SeqAt.notIn_tupleAt (M1 x) pl (λw hw=>tO rx fx r fs w (by simpa using hw)) ⟨.bl _,H,I,rfl,?_⟩
  rw [show its.toArray.any (M1 x)=its.any (M1 x) by simp,xy r fs]
  exact q
theorem HE:jP X (.builtin "len") (λxs H Q=>∃p ys,xs=[.ref p]∧(bq X.K H p ys∨tD X.K H p ys)∧Q (.int ys.length) H):=by
 intro pins s σ H xs us Q I r h
 obtain ⟨p,ys,rfl,hq,q⟩:=h
 obtain ⟨u,rfl,rx⟩:=vals1 r
 cases rx
 have hn:=Il
 rcases hq with hq | hq
 ·obtain ⟨its,r',pl,hz⟩:=I.list hq
  have hlen:=r'.length
  exact Calls.call_len_list pl.isList (by simp only [jZ] <;> simp?) ⟨.int ys.length,H,I.tok _,⟨s.toks+1,by rw [jZ,hlen]⟩,q⟩
 ·obtain ⟨its,r',pl,hz⟩:=I.tuple hq
  have hlen:=r'.length
  exact len_tuple pl (by simp only [jZ] <;> simp?) ⟨.int ys.length,H,I.tok _,⟨s.toks+1,by rw [jZ,hlen]⟩,q⟩
theorem qQ:jP X (.type "list") (λxs H Q=>∃p ys,xs=[.ref p]∧(bq X.K H p ys∨tD X.K H p ys)∧∀l,H l=none→Q 0#O (upd H l (.lst ys))):=by
 intro pins s σ H xs us Q I r h
 obtain ⟨p,ys,rfl,hq,q⟩:=h
 obtain ⟨u,rfl,rx⟩:=vals1 r
 cases rx
 have fin:∀(its:List aJ),Vals ys its→ys.length≤sizeLine→∀(h':cP) (c':Nat),(∀b o',s.heap.get? b=some o'→h'.get? b=some o') →
  h'.get? s.heap.objs.size=some { cls:=.type "list",dict:=none,data:=.seq its.toArray c',slots:=#[] }→EP X pins σ Q (.ref s.heap.objs.size) { s with heap:=h' }:=λits r' hz h' c' kp e=>
  ⟨.ref s.heap.objs.size,_,I.laid (t':=s.toks) kp (dS _) (show iw X.prog X.w _ h' _ (.lst ys) from ⟨hz,its,c',r',e⟩),rfl,q _ (I.hok.fresh (dS _))⟩
 rcases hq with hq | hq
 ·obtain ⟨its,r',pl,hz⟩:=I.list hq
  have hlen:=r'.length
  obtain ⟨o,ho,hc,n,hd⟩:=pl.isList
  exact abL p (.inl rfl) ho hc hd (λh' c' kp e=>fin its r' hz h' c' kp e) (by simp only [jZ] <;> simp?)
 ·obtain ⟨its,r',pl,hz⟩:=I.tuple hq
  have hlen:=r'.length
  obtain ⟨o,ho,hc,n,hd⟩:=pl
  exact abL p (.inr rfl) ho hc hd (λh' c' kp e=>fin its r' hz h' c' kp e) (by simp only [jZ] <;> simp?)
theorem Fe:jP X (.type "tuple") (λxs H Q=>∃p ys,xs=[.ref p]∧((bq X.K H p ys∧∀l,H l=none→Q 0#O (upd H l (.tup ys)))∨(tD X.K H p ys∧Q (.ref p) H))):=by
 intro pins s σ H xs us Q I r h
 obtain ⟨p,ys,rfl,h⟩:=h
 obtain ⟨u,rfl,rx⟩:=vals1 r
 cases rx
 rcases h with ⟨hq,q⟩ | ⟨hq,q⟩
 ·obtain ⟨its,r',pl,hz⟩:=I.list hq
  have hlen:=r'.length
  refine call_tuple_list pl.isList (λh' kp=>?_) (by simp only [jZ] <;> simp?)
  have I1:Inv X pins σ H { s with heap:=h' }:=I.kept (t':=s.toks) kp
  have I2:Inv X pins σ (upd H h'.objs.size (.tup ys)) { s with heap:=h'.push { cls:=.type "tuple",data:=.seq its.toArray } }:=
   I1.laid (t':=s.toks) (λb o e=>pX _ e) (dS _) (show iw X.prog X.w _ _ _ (.tup ys) from ⟨hz,its,r',Xy _ _⟩)
  exact ⟨.ref h'.objs.size,_,I2,rfl,q _ (I1.hok.fresh (dS _))⟩
 ·obtain ⟨its,r',pl,hz⟩:=I.tuple hq
  exact call_tuple_same pl ⟨.ref p,H,I,rfl,q⟩
def Wx (K:cj) (T:String) (x:V) (H:Hp):Prop:=match x with
 | .str _=>T = "str"
 | .int _=>T = "int"
 | .ref p=>(T = "list"∧∃xs,bq K H p xs)∨(T = "tuple"∧∃o,K.lookup p=some o∧o.cls=.type "tuple"∧o.dict=none) ∨
  (T = "dict"∧((∃kvs,H p=some (.dK kvs))∨∃kvs,H p=some (.dT kvs)))∨(T = "set"∧∃S n,H p=some (.set S n))
 | _=>False
theorem Wz {σ:St} (I:Inv X pins σ H s) (r:RelV x v) (ty:Wx X.K T x H) :
 s.TypeIs v T∧∀a,v=.ref a→∃ob,s.heap.get? a=some ob∧ob.dict=none:=by
 cases x with
 | str z=>
   obtain ⟨t,rfl⟩:=r
   cases (show T = "str" from ty)
   exact ⟨typeIs_str s z t,λ_ e=>nomatch e⟩
 | int i=>
   obtain ⟨t,rfl⟩:=r
   cases (show T = "int" from ty)
   exact ⟨Xv s i t,λ_ e=>nomatch e⟩
 | ref p=>
   cases r
   rcases ty with ⟨rfl,xs,hq⟩ | ⟨rfl,o,hk,hc,hd⟩ | ⟨rfl,hk⟩ | ⟨rfl,S,n,hk⟩
   ·obtain ⟨its,_,pl,_⟩:=I.list hq
    refine ⟨pl.isList.typeIs,λa e=>?_⟩
    cases e
    obtain ⟨o,n,e,c,hd,_⟩:=pl
    exact ⟨o,e,hd⟩
   ·refine ⟨⟨o,I.BQ p o hk,hc⟩,λa e=>?_⟩
    cases e
    exact ⟨o,I.BQ _ o hk,hd⟩
   ·have z:∃o,s.heap.get? p=some o∧o.ExactDict:=by
     rcases hk with ⟨kvs,hk⟩ | ⟨kvs,hk⟩
     ·obtain ⟨_,_,_,_,o,_,_,e,ex,_⟩:=I.hok p _ hk
      exact ⟨o,e,ex⟩
     ·obtain ⟨_,_,_,_,o,_,_,e,ex,_⟩:=I.hok p _ hk
      exact ⟨o,e,ex⟩
    obtain ⟨o,e,ex⟩:=z
    refine ⟨⟨o,e,ex.1⟩,λa e2=>?_⟩
    cases e2
    exact ⟨o,e,ex.2.1⟩
   ·obtain ⟨o,_,_,_,e,ex,_⟩:=I.hok p _ hk
    refine ⟨⟨o,e,ex.1⟩,λa e2=>?_⟩
    cases e2
    exact ⟨o,e,ex.2.1⟩
 | _=>exact qB ty
def aiv (K:cj) (T:String) (r:V→List V→Hp→VK→Prop) (to:TE):TE:=λσ H Q=>to σ H λx H1=>Wx K T x H1∧r x [] H1 Q
def tBM (K:cj) (T:String) (r:V→List V→Hp→VK→Prop) (to:TE) (t:TA):TE:=λσ H Q=>to σ H λx H1=>Wx K T x H1∧t σ H1 λxs H2=>r x xs H2 Q
variable {o e:bA} {es:List bA} {to:TE} {t:TA} {name:Str} {apos cpos:Pos} {T id:String} {r:V→List V→Hp→VK→Prop}
theorem Of (pa:PlainAttrs T) (slot:Slot T name id) (hty:typeOf (.builtin id)=pure (.type "method_descriptor")) (hm:MtR X id r) (ho:PE X o to)
 (hbase:uO o name X.env (eval o X.env)=eval o X.env:=by rfl) (hline:0#M=true:=by rfl):PE X (.Call (.Attribute o name apos) [] [] cpos) (aiv X.K T r to):=by
 intro pins s σ H Q I h
 refine wpAny_Call_method0_late hbase hline (iI (ho pins s σ H _ I h) λv s1 ⟨x,H1,I1,r1,ty,q1⟩=>?_)
 obtain ⟨h1,h2⟩:=Wz I1 r1 ty
 exact ⟨T,id,pa,slot,hty,h1,h2,aaH rfl (PySem.evalArgs_none (hm pins s1 σ H1 x [] v [] Q I1 r1 .nil q1))⟩
theorem VB (pa:PlainAttrs T) (slot:Slot T name id) (hty:typeOf (.builtin id)=pure (.type "method_descriptor")) (hm:MtR X id r) (ho:PE X o to) (ha:PA X (e::es) t)
 (hbase:uO o name X.env (eval o X.env)=eval o X.env:=by rfl)
 (hfew:((iU cpos (bG (e::es) X.env)).all (λx=>!x.1)&&(uM cpos (uL [] X.env)).all (λx=>x.1.isSome)
   && decide ((e::es).length+([]:List pD).length+(if ([]:List pD).isEmpty then 0 else 1)<30))=true:=by rfl)
 (hline:0#M=true:=by rfl) (hs:bG (e::es) X.env=0#D::bG es X.env:=by rfl) (hplain:(iU cpos (bG es X.env)).any (·.1)=false:=by rfl) :
 PE X (.Call (.Attribute o name apos) (e::es) [] cpos) (tBM X.K T r to t):=by
 intro pins s σ H Q I h
 refine wpAny_Call_method_late hbase hfew hline rfl (iI (ho pins s σ H _ I h) λv s1 ⟨x,H1,I1,r1,ty,q1⟩=>?_)
 obtain ⟨h1,h2⟩:=Wz I1 r1 ty
 refine ⟨T,id,pa,slot,hty,h1,h2,?_⟩
 have hA:=ha cpos pins s1 σ H1 _ I1 q1
 rw [hs] at hA ⊢
 refine aaH (by show (false||(iU cpos (bG es X.env)).any (·.1))=false;rw [hplain] <;> rfl) (Calls.evalArgs_plain ?_)
 exact iI hA λus s2 ⟨vs,H2,I2,r2,q2⟩=>hm pins s2 σ H2 x vs v us Q I2 r1 r2 q2
/- xs.append(e),list.index on a module's tuple .. are MtR facts of 06m -/
end
def MtM (X:Cx) (id:String) (r:V→List V→Hp→VK→Prop):Prop:=
 ∀(pins:List (aq×Obj)) (s:bC) (σ:St) (H:Hp) (x:V) (xs:List V) (v:aJ) (us:List aJ) (Q:VK),Inv X pins σ H s→RelV x v→Vals xs us→r x xs H Q →
  cD 0#l X.A (call (.builtin id) (v::us)) (EP X pins σ Q) X.xe s
theorem Vals.one:∀{x:V} {us:List aJ},Vals [x] us→∃u,us=[u]∧RelV x u
 | _,_,.cons r .nil=>⟨_,rfl,r⟩
theorem Vals.zero:∀{us:List aJ},Vals [] us→us=[]
 | _,.nil=>rfl
theorem Vals.reverse (h:Vals xs us):Vals xs.reverse us.reverse:=by
 induction h with
 | nil=>exact .nil
 | cons r t ih=>rw [abd,abd];exact Vals.append ih (.cons r .nil)
theorem Vals.rep (h:Vals xs us):∀k:Nat,Vals (lW k xs).flatten (lW k us).flatten
 | 0=>.nil
 | k+1=>by
   rw [Kf,Kf,wZ,wZ]
   exact Vals.append h (Vals.rep h k)
theorem foldl_rep (its:List aJ):∀(k:Nat) (acc:List aJ),
 Xw (λx1 x2=>x1++x2) acc.toArray (lW k its.toArray)=(acc++(lW k its).flatten).toArray
 | 0,acc=>by simp
 | k+1,acc=>by
   have e:acc.toArray++its.toArray=(acc++its).toArray:=by simp
   have e2:(acc++its)++(lW k its).flatten=acc++(lW (k+1) its).flatten:=by
    rw [Kf,wZ,yS]
   rw [← e2,← foldl_rep its k (acc++its),← e,Kf,List.foldl_cons]
theorem Inv.Y5 {σ:St} {its:List aJ} (I:Inv X pins σ H s) (hH:H l=some (.lst xs))
 (e:s.heap.get? l=some { cls:=.type "list",data:=.seq its.toArray n }) (hf:f its.toArray=its'.toArray) (hv:Vals ys its') (hz:ys.length≤sizeLine) :
 Inv X pins σ (upd H l (.lst ys)) { s with heap:=s.heap.update l (MD f),toks:=t' }:=by
 have q:=PySem.IsL.update e f
 rw [hf] at q
 refine I.write (x:=l) (e:=l) (by rw [hH];exact trivial) (.inl rfl) (λb' u hb hu=>(aaG s.heap (MD f) (j4 hb)).trans hu) ⟨_,q⟩ ?_
 exact ⟨hz,its',_,hv,q⟩
theorem Inv.adn {σ:St} (I:Inv X pins σ H s) (hv:Vals ys its) (hz:ys.length≤sizeLine) :
 Inv X pins σ (upd H s.heap.objs.size (.lst ys)) { s with heap:=s.heap.push { cls:=.type "list",data:=.seq its.toArray },toks:=t' }:=
 I.laid (λ_ _ q=>pX _ q) (dS _) ⟨hz,its,0,hv,Gd _ rfl⟩
theorem Inv.fresh {σ:St} (I:Inv X pins σ H s):H s.heap.objs.size=none:=I.hok.fresh (dS _)
theorem Inv.Iq {σ:St} (I:Inv X pins σ H s) (hH:H l=some (.lst xs)):xs.length≤sizeLine∧∃(its:List aJ) (n:Nat),Vals xs its∧xs.length=its.length∧s.heap.get? l=some { cls:=.type "list",data:=.seq its.toArray n }:=by
 obtain ⟨z,its,n,r,e⟩:=I.hok l _ hH
 exact ⟨z,its,n,r,r.length,e⟩
theorem Lu (h:n≤sizeLine):Q0 n=false:=by
 unfold Q0
 exact pY 0#b
def Cq:V→List V→Hp→VK→Prop:=λx vs H Q=>∃l xs y,x=.ref l∧vs=[y]∧H l=some (.lst xs)∧xs.length<sizeLine∧Q .bK (upd H l (.lst (xs++[y])))
theorem GL:MtM X "list.append" Cq:=by
 intro pins s σ H x vs v us Q I rx rv h
 obtain ⟨l,xs,y,rfl,rfl,hH,hz,q⟩:=h
 cases rx
 obtain ⟨u,rfl,ru⟩:=rv.one
 obtain ⟨z,its,n,r,hl,e⟩:=I.Iq hH
 refine EX F.slot_list_append ⟨_,e,rfl⟩ F.entry_list_append (F.args_list_append_2 _ _) (PySem.list_append l its.toArray n u (by rw [jZ];simp?)) ⟨e,?_⟩
 refine ⟨.bK,_,I.Y5 (its':=its++[u]) hH e 0#d (r.append (.cons ru .nil)) ?_,rfl,q⟩
 rw [fh,Kd]
 simp?
def Cr:V→List V→Hp→VK→Prop:=λx vs H Q=>∃l b xs zs,x=.ref l∧vs=[.ref b]∧H l=some (.lst xs)∧H b=some (.lst zs)∧xs.length+zs.length≤sizeLine∧Q .bK (upd H l (.lst (xs++zs)))
theorem SH:MtM X "list.extend" Cr:=by
 intro pins s σ H x vs v us Q I rx rv h
 obtain ⟨l,b,xs,zs,rfl,rfl,hH,hB,hz,q⟩:=h
 cases rx
 obtain ⟨u,rfl,ru⟩:=rv.one
 cases ru
 obtain ⟨z,its,n,r,hl,e⟩:=I.Iq hH
 obtain ⟨z2,its2,n2,r2,hl2,e2⟩:=I.Iq hB
 have hsz:its.toArray.size+its2.toArray.size≤sizeLine:=by rw [jZ,jZ];simp?
 have UO:¬(!its.toArray.isEmpty&&Q0 (its.toArray.size+its2.toArray.size))=true:=by
  rw [Lu hsz,Bool.and_false]
  exact fQ
 refine EX F.slot_list_extend ⟨_,e,rfl⟩ F.entry_list_extend (F.args_list_extend_2 _ _)
  (AutoSeq1.list_extend_list_list_0 l its.toArray n b its2.toArray n2 UO (by rw [jZ];simp?) 0#b) ⟨e,e2,?_⟩
 refine ⟨.bK,_,I.Y5 (its':=its++its2) hH e 0#d (r.append r2) ?_,rfl,q⟩
 rw [fh]
 simp?
def xZ:V→List V→Hp→VK→Prop:=λx vs H Q=>∃l xs,x=.ref l∧vs=[]∧H l=some (.lst xs)∧Q .bK (upd H l (.lst xs.reverse))
theorem NO:MtM X "list.reverse" xZ:=by
 intro pins s σ H x vs v us Q I rx rv h
 obtain ⟨l,xs,rfl,rfl,hH,q⟩:=h
 cases rx
 have Ih:=rv.zero
 subst Ih
 obtain ⟨z,its,n,r,hl,e⟩:=I.Iq hH
 refine EX F.slot_list_reverse ⟨_,e,rfl⟩ F.entry_list_reverse (F.args_list_reverse_1 _) (AutoSeq1.list_reverse_list_0 l its.toArray n (by rw [jZ];simp?)) ⟨e,?_⟩
 refine ⟨.bK,_,I.Y5 (its':=its.reverse) hH e 0#d r.reverse ?_,rfl,q⟩
 rw [List.length_reverse]
 simp?
def Jq:V→List V→Hp→VK→Prop:=λx vs H Q=>∃l xs,x=.ref l∧vs=[]∧H l=some (.lst xs)∧Q .bK (upd H l (.lst []))
theorem Vd:MtM X "list.clear" Jq:=by
 intro pins s σ H x vs v us Q I rx rv h
 obtain ⟨l,xs,rfl,rfl,hH,q⟩:=h
 cases rx
 have Ih:=rv.zero
 subst Ih
 obtain ⟨z,its,n,r,hl,e⟩:=I.Iq hH
 refine EX F.slot_list_clear ⟨_,e,rfl⟩ F.entry_list_clear (F.args_list_clear_1 _) (AutoSeq1.list_clear_list_0 l its.toArray n (by rw [jZ];simp?)) ⟨e,?_⟩
 exact ⟨.bK,_,I.Y5 (its':=[]) (ys:=[]) hH e rfl .nil (lX _),rfl,q⟩
def afA:R2:=λx y H Q=>∃l b xs zs,x=.ref l∧y=.ref b∧H l=some (.lst xs)∧H b=some (.lst zs)∧xs.length+zs.length≤sizeLine∧∀p,H p=none→Q (.ref p) (upd H p (.lst (xs++zs)))
theorem z6:rT X (pC .Add) afA:=by
 intro pins s σ H x y v u Q I rx ry h
 obtain ⟨l,b,xs,zs,rfl,rfl,hH,hB,hz,q⟩:=h
 cases rx
 cases ry
 obtain ⟨z,its,n,r,hl,e⟩:=I.Iq hH
 obtain ⟨z2,its2,n2,r2,hl2,e2⟩:=I.Iq hB
 refine PySem.P.add_list e e2 ?_ (by rw [jZ,jZ];simp?)
 have ea:its.toArray++its2.toArray=(its++its2).toArray:=by simp
 rw [ea]
 exact ⟨.ref _,_,I.adn (t':=s.toks) (r.append r2) (by rw [fh];simp?),rfl,q _ I.fresh⟩
def afF:R2:=λx y H Q=>∃l k xs,x=.ref l∧y=.int k∧H l=some (.lst xs)∧-(2 ^ 63)≤k∧k<2 ^ 63∧xs.length*k.toNat≤sizeLine ∧
 ∀p,H p=none→Q (.ref p) (upd H p (.lst (lW k.toNat xs).flatten))
theorem len_rep {α:Type} (xs:List α) (k:Nat):(lW k xs).flatten.length=k*xs.length:=by
 induction k with
 | zero=>simp
 | succ k ih=>rw [Kf,wZ,fh,ih,Nat.succ_mul,Hr]
theorem Oe:rT X (pC .Mult) afF:=by
 intro pins s σ H x y v u Q I rx ry h
 obtain ⟨l,k,xs,rfl,rfl,hH,h1,h2,hz,q⟩:=h
 cases rx
 obtain ⟨t,rfl⟩:=ry
 obtain ⟨z,its,n,r,hl,e⟩:=I.Iq hH
 have hlen:its.toArray.size*k.toNat≤sizeLine:=by rw [jZ,← hl];exact hz
 have hcap:¬its.toArray.size*k.toNat>(2 ^ 63-1)/8:=by
  have:(sizeLine:Nat)≤(2 ^ 63-1)/8:=by decide
  simp?
 have hfit:¬(!Builtin.List.listFitsIndex k)=true:=by
  rw [fitsIndex_both h1 h2]
  exact fQ
 have UO:¬Q0 (its.toArray.size*k.toNat)=true:=by
  rw [Lu hlen]
  exact fQ
 have hnew:Xw (λx1 x2=>x1++x2) #[] (lW (if its.toArray.isEmpty=true then 0 else k.toNat) its.toArray)=(lW k.toNat its).flatten.toArray:=by
  have f0:∀m:Nat,Xw (λx1 x2=>x1++x2) #[] (lW m its.toArray)=(lW m its).flatten.toArray:=λm=>by
   have:=foldl_rep its m []
   rw [W7] at this
   exact this
  rw [f0]
  cases its with
  | nil=>simp
  | cons a r'=>rw [if_neg 0#d]
 refine wpAny_binaryOp_repeat_ref (T := "list") (U := "int") 0#f ⟨_,e,rfl⟩ (λs'=>Xv s' k t) noFill_list_mul F.fills_int_mul F.slot_int_rmul repeat_list F.slot_int_index.lookup
  (EX F.slot_int_rmul (Xv s k t) F.entry_int_rmul (F.args_int_rmul_2 _ _) (int___rmul___int_list k t l its.toArray n)
    ⟨e,rfl,⟨_,e,rfl⟩,EX F.slot_list_mul ⟨_,e,rfl⟩ F.entry_list_mul (F.args_list_mul_2 _ _) (AutoListH.list___mul___list_int_3 l its.toArray n k t hfit hcap UO) ⟨e,?_⟩⟩)
 rw [hnew]
 exact ⟨.ref _,_,I.adn (t':=s.toks) (r.rep k.toNat) (by rw [len_rep,abV];exact hz),rfl,q _ I.fresh⟩
end L2
namespace Att
open PySem PySem.W PySem.Calls PyProof.Rows
theorem BP:∀(ns:List Int) (vs:List aJ),WellAll P h vs (ns.map WData.int)→EZ vs ns:=by
 intro ns
 induction ns with
 | nil=>
   intro vs w
   rw [Xj] at w
   cases w
   exact .nil
 | cons n ns ih=>
   intro vs w
   rw [Bu] at w
   cases w with
   | cons a b=>
     cases a
     exact .cons _ _ (ih _ b)
theorem Te {l:OpenLaw} (hn:l.most=some n) 
 (hpre:l.row.toRowW.claim.pre args=true) (hwl:WellAll P h vals args) :
 ∃a vs ns,vals=[Value.ref a]∧args=[WData.list (ns.map WData.int)]∧h.get? a=some { cls:=.type "list",data:=.seq vs.toArray }∧EZ vs ns∧ns.length≤n:=by
 have hsh:WShape.hasAll [] args [.list .int]=true:=(pre_splitW hpre).1
 have hc:l.pre.holds [] { args:=args }=true:=(pre_splitW hpre).2
 obtain ⟨d,r,rfl,h1,h2⟩:=hasAllW_cons hsh
 obtain rfl:=hasAllW_nil h2
 obtain ⟨xs,rfl,h3⟩:=hasW_list h1
 obtain ⟨ns,rfl⟩:=items_int h3
 have hlen:ns.length≤n:=by
  unfold OpenLaw.pre at hc
  have h4:(WTm.not (.lt (.lit (.int (n:Int))) (.len (.arg 0)))).holds [] { args:=[.list (ns.map .int)] }=true:=by
   have h4:=(holds_andW hc).1
   rw [hn] at h4
   exact h4
  have h5:=condW_of h4 (w_not (w_lt w_lit (w_len_list (w_arg rfl))))
  rw [gI] at h5
  refine Nat.le_of_not_lt λq=>?_
  have q':(n:Int)<((ns.length:Nat):Int):=by simp?
  first
   | (rw [je q'] at h5;exact absurd h5 (by decide))
   | (simp at h5;omega)
 cases hwl with
 | cons w1 w2=>
   cases w2
   cases w1 with
   | list ho hall=>exact ⟨_,_,ns,rfl,rfl,ho,BP ns _ hall,hlen⟩
theorem SY (l:OpenLaw) (args:List WData):l.row.toRowW.claim.post args (.bool true) args=true:=
 postW_of (r:=l.row.toRowW) (X:=(true==true))
  (show acf [] (.bool true) .bool=true by first | rfl | decide | simp [acf,WShape.arms,WShape.armsAll])
  (show (WTm.eq .res (.lit (.bool true))).value [] { args:=args,res:=some (.bool true),after:=args }=some (.bool (true==true)) from w_eq_bool (w_res rfl) w_lit) rfl
theorem Ks {l:OpenLaw}
 (hn:l.most=some n) (hdf:d.params.defaults=[])
 (call:∀(w:fN) (s₀ s₁:bC) (mg mb:Str→Option aJ) (fa:aq) (o:Obj) (pm cd doc:aJ) (a:aq) (vs:List aJ) (ns:List Int),
   Ground q loose [] XP w s₀ mg mb s₁.heap→YP w s₁.heap →
   s₁.heap.get? fa=some o→o.data=.func (docDef d.name d.params d.body d.scope pm cd doc)→s₁.heap.CodeRec cd d.name→mg d.name=some (.ref fa) →
   s₁.heap.get? a=some { cls:=.type "list",data:=.seq vs.toArray }→EZ vs ns→ns.length≤n→s₁.gens=#[] →
   By (model l.prog w) E1 (.call (.ref fa) ⟨[.ref a],[]⟩) (λr s'=>r=.ok (.ret (.bool true))∧OldK s₁.heap s'.heap∧s'.os=s₁.os∧yQ s'.gens) s₁) :
 WalkO q loose XP YP l.row.toRowW d [] (λf vs=>Xx f vs):=by
 intro w s₀ s₁ mg mb G Y fa o pm cd doc dV kV ho hd hcd hD hmg hg args vals as hpre hlay hrd hwl hlo
 obtain rfl:dV=.none:=Dflts.none hD hdf
 obtain rfl:kV=.none:=Dflts.noKw hD
 obtain ⟨a,vs,ns,rfl,rfl,hobj,hints,hlen⟩:=Te hn hpre hwl
 refine enter_call (Rz (call w s₀ s₁ mg mb fa o pm cd doc a vs ns G Y ho (fd_plain hd) hcd hmg hobj hints hlen hg) λr s' hq=>?_)
 obtain ⟨rfl,h2,h3,h4⟩:=hq
 exact ⟨.inl ⟨.bool true,.bool true,[],rfl,λ_=>rfl,.bool true,SY l _,λ_=>⟨List.Pairwise.nil,λ_ hm=>(nomatch hm)⟩⟩,h2,h3,h4⟩
end Att
namespace L2
open PySem PySem.Spec PyProof.Rows
theorem qx:∀{vs:List aJ} {ns:List Int},EZ vs ns→Vals 0#E vs
 | _,_,.nil=>.nil
 | _,_,.cons n t h=>.cons ⟨t,rfl⟩ (qx h)
def acs (H:Hp):Prop:=∀b,H b=none∨∃o xs,H b=some (.P7 o (.lst xs))
theorem U1 {K:cj}
 (KX:K.In s₁.heap) (hns:s₁.heap.Ns gC mg) (hb:s₁.heap.Ns builtinsNs mb) (hbb:∀x:Str,x ≠ "__name__"→mb x=vG x) (hlim:s₁.heap.NoLimit) (hg:s₁.gens=#[])
 (ha:s₁.heap.get? a=some { cls:=.type "list",data:=.seq vs.toArray }) (hi:EZ vs ns) (hl:ns.length≤sizeLine) (hr:jj k E1)
 (F:∀base:cP,K.In base→base.Ns gC mg→bh P w K mg base CX k fa fd [x] sp) (hbind:∀(s:bC) (u:aJ),BindsTo s fd ⟨[u],[]⟩ [(x,u)])
 (hsp:∀H:Hp,acs H→bq K H a 0#E→sp [.ref a] H (λv _=>v=.bl true) λ_ _ _=>False)
 (hCX:∀H e s',CX [] H s₁ (λ_ _ _=>False) e s'→False) :
 By (model P w) E1 (.call (.ref fa) ⟨[.ref a],[]⟩) (λr s'=>r=.ok (.ret (.bool true))∧OldK s₁.heap s'.heap∧s'.os=s₁.os∧yQ s'.gens) s₁:=by
 have rv:=qx hi
 have ahS:=hi.length
  -- from an abstract heap in which nothing but the script may be tracked
 have core:∀H:Hp,acs H→bq K H a 0#E→yV P w H s₁.heap→(∀b,H b≠none→b=a)→(H a≠none→K.lookup a=none) →
  By (model P w) E1 (.call (.ref fa) ⟨[.ref a],[]⟩) (λr s'=>r=.ok (.ret (.bool true))∧OldK s₁.heap s'.heap∧s'.os=s₁.os∧yQ s'.gens) s₁:=by
  intro H hO hS hok hA hK
  have PD:∀{b:aq} {o:Obj},s₁.heap.get? b=some o→H b=none→(Ia s₁.heap H).get? b=some o:=λe n=>UM e n
  have noA:∀{b:aq} {o:Obj} {es:Array DictEntry} {ep:Nat},s₁.heap.get? b=some o→o.data=.dict es ep→H b=none:=λ{b o es ep} e d=>by
   cases q:H b with
   | none=>rfl
   | some u=>
     have e':b=a:=hA b (by rw [q];simp)
     subst e'
     rw [ha] at e;cases e
     have d':Data.seq vs.toArray _=Data.dict es ep:=d
     cases d'
  have nsK:∀{b:aq} {m:Str→Option aJ},s₁.heap.Ns b m→(Ia s₁.heap H).Ns b m:=λ{b m} ⟨o,es,ep,e,d,r⟩=>⟨o,es,ep,PD e (noA e d),d,r⟩
  have hKb:K.In (Ia s₁.heap H):=λb o e=>PD (KX b o e) (by
   cases q:H b with
   | none=>rfl
   | some u=>
     have e':b=a:=hA b (by rw [q];simp)
     subst e'
     rw [hK (by rw [q];simp)] at e;cases e)
  have hM:Mod K mg (Ia s₁.heap H):=⟨hKb,nsK hns,⟨mb,nsK hb,hbb⟩,let ⟨mc,h1,h2⟩:=hlim;⟨mc,nsK h1,h2⟩⟩
  have e0:MR P w K mg (Ia s₁.heap H) E1 [] s₁ H:=⟨rfl,hM,λb o e=>Ze e,abU (So _ _),trivial,λb hb=>absurd (show b∈([]:List aq) from hb) 0#d,hok,.of_eq hg⟩
  refine Rz ((F _ hKb (nsK hns)).run E1 [] s₁ H ⟨[.ref a],[]⟩ [.ref a] [.ref a] _ _ hr e0 (hbind s₁ (.ref a)) (.cons rfl .nil) (hsp H hO hS)) λr s' h=>?_
  cases r with
  | error e=>exact (hCX H e s' h).elim
  | ok fl=>
    cases fl with
    | next=>exact qB h
    | brk=>exact qB h
    | cont=>exact qB h
    | ret u=>
      obtain ⟨v,H',os,bare,un,ahE,r',q⟩:=h
      have q':v=.bl true:=q
      subst q'
      obtain rfl:u=Value.bool true:=r'
      refine ⟨rfl,OldK.of_keep λb o e=>?_,os,bare⟩
      cases q:H b with
      | none=>exact un.keep b o e q (by intro z;exact absurd (show b∈([]:List aq) from z) 0#d) 0#d
      | some u=>
        rcases hO b with z | ⟨ob,xs,z⟩
        ·rw [q] at z;cases z
        ·have z2:=un.HN b ob _ z
         obtain ⟨e1,_⟩:=hok b _ z
         obtain ⟨e2,_⟩:=ahE b _ z2
         rw [e] at e1;cases e1
         exact e2
 cases hk:K.lookup a with
 | some o=>
    -- the script is one of the module's own objects
   have e:=KX a o hk
   rw [ha] at e
   cases e
   refine core (λ_=>none) (λ_=>.inl rfl) (.inr ⟨_,vs.toArray,_,hk,rfl,rfl,rfl,by rw [jZ,ahS];exact hl,by simpa using rv⟩) (λb u z=>by have z':(none:Option HO)=some u:=z;cases z') (λb z=>absurd rfl z) λz=>absurd rfl z
 | none=>
   refine core (λb=>if b=a then some (.P7 { cls:=.type "list",data:=.seq vs.toArray } (.lst 0#E)) else none) (λb=>?_) (.inl (.inr ⟨{ cls:=.type "list",data:=.seq vs.toArray },if_pos rfl⟩)) (λb u z=>?_) (λb z=>?_) λ_=>hk
   ·by_cases hb:b=a
    ·exact .inr ⟨_,_,if_pos hb⟩
    ·exact .inl (if_neg hb)
   ·by_cases hb:b=a
    ·have z':=(if_pos hb).symm.trans z
     cases z'
     subst hb
     exact ⟨ha,by rw [gI];exact hl,vs,_,rv,ha⟩
    ·have z':=(if_neg hb).symm.trans z
     cases z'
   ·by_cases hb:b=a
    ·exact hb
    ·exact absurd (if_neg hb) z
theorem ZW {l:W8} {n k:Nat} {q:jA} {XP:(Str→Option aJ)→cP→Prop} {YP:fN→cP→Prop} {d:DefRec} {K:Params→cj} {CX:fN→X0} {sp:fN→Sp} {x:Str}
 (hn:l.most=some n) (hn2:n≤sizeLine) (hdf:d.params.defaults=[]) (hr:jj k E1)
 (hY:∀(w:fN) (h:cP),YP w h→(K w.params).In h)
 (F:∀(w:fN) (mg:Str→Option aJ) (fa:aq) (h:cP),(K w.params).In h→h.Ns gC mg→mg d.name=some (.ref fa) →
   ∃fd:jW,(∀(s:bC) (u:aJ),BindsTo s fd ⟨[u],[]⟩ [(x,u)]) ∧
    ∀base:cP,(K w.params).In base→base.Ns gC mg→bh l.prog w (K w.params) mg base (CX w) k fa fd [x] (sp w))
 (hsp:∀(w:fN) (H:Hp) (a:aq) (ns:List Int),ns.length≤n→acs H→bq (K w.params) H a 0#E→sp w [.ref a] H (λv _=>v=.bl true) λ_ _ _=>False)
 (hCX:∀(w:fN) (H:Hp) (s:bC) (e:aJ) (s':bC),CX w [] H s (λ_ _ _=>False) e s'→False) :
 abM q loose XP YP l.row.toRowW d [] (λf vs=>Xx f vs):=by
 refine Att.Ks hn hdf λw s₀ s₁ mg mb fa o pm cd doc a vs ns G Y ho hd hcd hmg hobj hints hlen hg=>?_
 have KX:=hY w _ Y
 obtain ⟨fd,hb,hF⟩:=F w mg fa _ KX G.T.g hmg
 exact U1 KX G.T.g G.T.b G.T.builtins G.T.nolimit hg hobj hints (dR hlen hn2) hr hF hb (λH hO hS=>hsp w H a ns hlen hO hS) λH e s'=>hCX w H s₁ e s'
def inClass (s:aU) (j:Nat):aU:=match s with
 | .ClassDef _ _ _ body _ _ _ _ _ _ _=>body.getD j (.Pass ⟨0,0,0,0⟩)
 | _=>.Pass ⟨0,0,0,0⟩
def gZ (s:aU):Arguments:=match s with
 | .FunctionDef _ a _ _ _ _ _ _ _ _=>a
 | _=>{ posonlyargs:=[],args:=[],vararg:=none,kwonlyargs:=[],kw_defaults:=[],kwarg:=none,defaults:=[] }
def fT (s:aU):List aU:=match s with
 | .FunctionDef _ _ b _ _ _ _ _ _ _=>b
 | _=>[]
def cL (s:aU):qD:=match s with
 | .FunctionDef _ _ _ _ _ _ sc _ _ _=>sc
 | _=>{ kind:=.function,names:=[],isGenerator:=false,isCoroutine:=false }
abbrev dm:X0:=λ_ _ _ _ _ _=>False
abbrev E0:XK:=λ_ _ _=>False
theorem QB:Passes dm X E0:=λ_ _ _ _ _ _ _ h=>h.elim
structure su (K:cj) (x qual:Str) (st:aU) (f:aq) (fd:jW):Prop where
 ex:∃(oc:aJ) (od:Option aq) (kV doc pm:aJ) (an:Option aq) (cdv ct:aJ) (osl:Array (Option aJ)),
  fd=uP x qual (gZ st) (fT st) (cL st) .none kV doc pm an cdv ct∧K.lookup f=some ⟨oc,od,.func fd,osl⟩∧yL K cdv qual=true
 kp:yT K (.ref f)=true
theorem su.ok {K:cj} {st:aU} (F:su K x qual st f fd) (S:xr N ps (cL st)) (len:∀vs H Q E,sp vs H Q E→vs.length=ps.length)
 (hbody:∀(cdv:aJ) (A:oO) (outer:List Env) (s:bC) (H:Hp) (vs:List V) (Q:VK) (E:XK),jj k (A.deeper (vJ qual (cL st) s.heap.objs.size f cdv))→sp vs H Q E →
   ∃t,MH (MZ dm P w K mg base N qual (cL st) f cdv A outer s H E).nox (fT st) t∧t { nx:=λ_ H'=>Q .bK H',rt:=Q } (start N vs) H):bh P w K mg base dm (k+1) f fd ps sp:=by
 obtain ⟨oc,od,kV,doc,pm,an,cdv,ct,osl,rfl,lk,hcd⟩:=F.ex
 refine aeR lk hcd S len λA outer s H vs Q E hr hsp=>?_
 obtain ⟨t,h,q⟩:=hbody cdv A outer s H vs Q E hr hsp
 exact ⟨t,h.nox,q⟩
theorem su.eU {P:jA} {w:fN} {K:cj} {mg:Str→Option aJ} {base:cP} {x qual:Str} {st:aU} {f:aq} {fd:jW} {N ps:List Str} {k:Nat} {sp:Sp} (F:su K x qual st f fd) (S:xr N ps (cL st))
 (hbody:∀(cdv:aJ) (A:oO) (outer:List Env) (s:bC) (H:Hp) (vs:List V) (Q:VK) (E:XK),jj k (A.deeper (vJ qual (cL st) s.heap.objs.size f cdv))→sp vs H Q E →
   ∃t,MH (MZ dm P w K mg base N qual (cL st) f cdv A outer s H E).nox (fT st) t∧t { nx:=λ_ H'=>Q .bK H',rt:=Q } (start N vs) H) (len:∀vs H Q E,sp vs H Q E→vs.length=ps.length:=by intro _ _ _ _ h;cases h;subst_vars;rfl):bh P w K mg base dm (k+1) f fd ps sp:=F.ok S len hbody
abbrev fO (K:cj) (x:Str):=su K x x
abbrev fz (n:Nat) (N:List Str) (st:aU):=xr N (N.take n) (cL st)
theorem su.binds {K:cj} {st:aU} (F:su K x qual st f fd)
 (h:∀(kV doc pm:aJ) (an:Option aq) (cdv ct:aJ) (us:List aJ),us.length=ps.length→EY 0#H ⟨us,[]⟩=pure (ps.zip us)):Binds K fd ps []:=by
 obtain ⟨oc,od,kV,doc,pm,an,cdv,ct,osl,rfl,lk,hcd⟩:=F.ex
 exact .all (h kV doc pm an cdv ct)
theorem M6 {K:cj} {x:Str} {st:aU} {f:aq} {oc:aJ} {od an:Option aq} {osl:Array (Option aJ)} {kV doc pm cdv ct:aJ} (l:K.lookup f=some ⟨oc,od,.func 0#H,osl⟩)
 (c:yL K cdv qual=true) (k:yT K (.ref f)=true):su K x qual st f 0#H:=⟨⟨oc,od,kV,doc,pm,an,cdv,ct,osl,rfl,l,c⟩,k⟩
theorem aN (h:n≤1000):n<sizeLine:=Gf h 0#f
theorem pv {X:Cx} (i:Nat) {x:Str} {pos:Pos} (hN:X.N[i]?=some x:=by rfl) (hv:Vis X.env.scope x:=by first | exact Or.inl rfl | exact Or.inr (Or.inl rfl) | exact Or.inr (Or.inr rfl)) (hd:0#x=false:=by decide)
 (hcd:(x==("__classdict__":Str))=false:=by decide):PE X (.Name x pos) (ZU i):=adE hN hv hd hcd
theorem bR {A:Prop} (h:B):if false=true then A else B:=by
 rw [if_neg fQ]
 exact h
theorem cI {A:Prop} (h:A):if true=true then A else B:=by
 rw [if_pos rfl]
 exact h
theorem c6 {A:Prop} [Decidable c] (h1:c→A) (h2:¬c→B):if c then A else B:=by
 by_cases h:c
 ·rw [if_pos h]
  exact h1 h
 ·rw [if_neg h]
  exact h2 h
def ao (H H':Hp):Prop:=∀b o,H b=some o→H' b=some o
theorem ao.refl (H:Hp):ao H H:=λ_ _ h=>h
theorem ao.trans (a:ao H H1) (b:ao H1 H2):ao H H2:=λc o h=>b c o (a c o h)
theorem ao.free (e:ao H H')  (h:H' l=Option.none):H l=Option.none:=by
 cases q:H l with
 | none=>rfl
 | some o=>
   rw [e l o q] at h
   cases h
theorem ao.seq {K:cj} (e:ao H H') (h:bq K H a xs):bq K H' a xs:=by
 rcases h with (h | ⟨o,h⟩) | h
 ·exact .inl (.inl (e _ _ h))
 ·exact .inl (.inr ⟨o,e _ _ h⟩)
 ·exact .inr h
end L2
set_option maxHeartbeats 4000000
namespace Mth
def Sz (n:Nat) (x:Int):Prop:=x.natAbs<2 ^ n
instance {n:Nat} {x:Int}:Decidable (Sz n x):=inferInstanceAs (Decidable (x.natAbs<2 ^ n))
theorem Sz.mono (h:Sz m x) (hm:m≤n):Sz n x:=
 rP h (aaQ 0#f hm)
theorem Sz.mul (hx:Sz m x) (hy:Sz n y):Sz (m+n) (x*y):=by
 unfold Sz at *
 rw [Xd,Nat.pow_add]
 exact Nat.mul_lt_mul'' hx hy
theorem Sz.add (hx:Sz m x) (hy:Sz m y):Sz (m+1) (x+y):=by
 unfold Sz at *
 rw [Nat.pow_succ]
 have:=Rh x y
 simp?
theorem Sz.neg (hx:Sz m x):Sz m (-x):=by
 unfold Sz at *
 rw [Rw];exact hx
theorem Sz.sub (hx:Sz m x) (hy:Sz m y):Sz (m+1) (x-y):=by
 rw [Int.sub_eq_add_neg];exact hx.add hy.neg
theorem Sz.of_le (hx:Sz m x) (h:y.natAbs≤x.natAbs):Sz m y:=Gf h hx
theorem Sz.log (hx:Sz m x) (hm:m≤9000) (h0:0<m):x.natAbs.log2<9000:=by
 by_cases h:x.natAbs=0
 ·rw [h];decide
 ·have:=(Nat.log2_lt h).mpr hx
  simp?
theorem Sz.of_lt (h:x.natAbs<k) (hk:k≤2 ^ m):Sz m x:=rP h hk
structure Z4 (t b t' b':Int):Prop where
 pos:1≤b'
 co:cN t' b'=1
 eq:t'*b=t*b'
 tb:t'.natAbs≤t.natAbs
 bb:b'.natAbs≤b.natAbs
theorem KH (x y:Nat):ME y (x % y)=ME x y:=by
 rw [abW y,← Nat.gcd_rec,abW]
theorem Ur (hb:b≠0):cN (t/(cN t b:Int)) (b/(cN t b:Int))=1:=by
 have hp:0<cN t b:=Tq t hb
 rw [Int.gcd_ediv (Mt ..) (Ms ..)]
 rw [WV]
 exact Nat.div_self hp
theorem GH {g:Nat} (hg:0<g) (e:a*(g:Int)=c):a.natAbs≤c.natAbs:=by
 subst e
 rw [Xd,WV]
 exact Nat.le_mul_of_pos_right _ hg
theorem ado {g:Nat} (hg:0<g) (e1:t'*(g:Int)=t) (e2:b'*(g:Int)=b) (hb:0<b) (hc:cN t' b'=1):Z4 t b t' b':=by
 refine ⟨?_,hc,?_,GH hg e1,GH hg e2⟩
 ·have:0<b':=Int.pos_of_mul_pos_left (b:=(g:Int)) (by rw [e2];exact hb) 0#b
  simp?
 ·rw [← e1,← e2,Int.mul_assoc,qy (g:Int) b']
theorem Ip (hb:0<b):Z4 t b (t.fdiv (cN t b:Int)) (b.fdiv (cN t b:Int)):=by
 have hp:0<cN t b:=Tq t 0#b
 have h1:(cN t b:Int)∣t:=Mt ..
 have h2:(cN t b:Int)∣b:=Ms ..
 rw [B8 _ 0#b,B8 _ 0#b]
 exact ado hp (aaT h1) (aaT h2) hb (Ur 0#b)
theorem xD (a:Int) (g:Nat):a.fdiv (-(g:Int))=(-a).fdiv (g:Int):=by
 have:=Int.neg_fdiv_neg a (-(g:Int))
 rw [Xp] at this
 exact this.symm
theorem Y4 (hb:b<0):Z4 (-t) (-b) (t.fdiv (-(cN t b:Int))) (b.fdiv (-(cN t b:Int))):=by
 have e:cN t b=cN (-t) (-b):=by rw [Int.gcd_neg,Int.neg_gcd]
 rw [xD,xD,e]
 exact Ip 0#b
theorem Uh (hc:cN b a=1) (h:b∣a*d):b∣d:=by
 have h':b.natAbs∣a.natAbs*d.natAbs:=by rw [← Xd];exact aaL.mpr h
 have hc':Nat.Coprime b.natAbs a.natAbs:=hc
 exact aaL.mp (hc'.dvd_of_dvd_mul_left h')
theorem NF (hb:1≤b) (hd:1≤d) (h1:cN a b=1) (h2:cN c d=1) (e:a*d=c*b):a=c∧b=d:=by
 have k1:b∣d:=by
  have:b∣a*d:=⟨c,by rw [e,qy]⟩
  exact Uh (by rw [Xl];exact h1) this
 have k2:d∣b:=by
  have:d∣c*b:=⟨a,by rw [← e,qy]⟩
  exact Uh (by rw [Xl];exact h2) this
 have hbd:b=d:=Int.dvd_antisymm 0#b 0#b k1 k2
 subst hbd
 exact ⟨Int.eq_of_mul_eq_mul_right 0#b e,rfl⟩
structure j7 (H L high low x0 y0 x1 y1:Int):Prop where
 sg:(x0*y1-x1*y0=1∧0≤x0∧y0≤0∧x1≤0∧1≤y1)∨(x0*y1-x1*y0=-1∧x0≤0∧0≤y0∧0≤x1∧y1≤-1)
 eh:x0*H+y0*L=high
 el:x1*H+y1*L=low
 l0:0≤low
 lh:low≤high
 st:(x0=1∧y0=0∧x1=0∧y1=1)∨(y0≠0∧high≤L∧340282366920938463463374607431768211456≤high∧x0.natAbs≤x1.natAbs∧y0.natAbs≤y1.natAbs)
theorem j7.init (h0:0≤L) (h:L≤H):j7 H L H L 1 0 0 1:=⟨.inl 0#b,by simp?,by simp?,h0,h,.inl 0#b⟩
theorem Um {x:Int} (hx:0≤x) (hy:0≤y):(x/y).natAbs≤x.natAbs:=by
 have h1:=Rl (a:=x) y hx
 have h2:=abr hx hy
 simp?
theorem mw {q:Int} (hq:1≤q) (hz:0≤z):z≤q*z:=by
 have:=MF hq hz
 simp?
theorem j7.step (h:j7 H L high low x0 y0 x1 y1) (hl:340282366920938463463374607431768211456≤low) (hq:q=high/low) :
 j7 H L low (high-q*low) x1 y1 (x0-q*x1) (y0-q*y1):=by
 obtain ⟨sg,eh,el,l0,lh,st⟩:=h
 have q1:1≤q:=by
  rw [hq];exact (aaI 0#b).mpr 0#b
 have em:high-q*low=high % low:=by
  have:=Mj high low
  rw [hq,qy];simp?
 have m0:0≤high % low:=Cb _ 0#b
 have m1:high % low<low:=AO _ 0#b
 have hlL:low≤L:=by
  rcases st with ⟨a,b,c,d⟩ | ⟨_,a,_⟩
  ·subst a b c d;simp?
  ·simp?
 have det:x1*(y0-q*y1)-(x0-q*x1)*y1=-(x0*y1-x1*y0):=by grind
 have hel:(x0-q*x1)*H+(y0-q*y1)*L=high-q*low:=by rw [← eh,← el];grind
 refine ⟨?_,el,hel,by simp?,by simp?,.inr ⟨?_,hlL,hl,?_,?_⟩⟩
 ·rcases sg with ⟨d,a,b,c,e⟩ | ⟨d,a,b,c,e⟩
  ·right
   have k1:=mw q1 (z:=-x1) 0#b
   have k2:=mw q1 (z:=y1) 0#b
   rw [MC] at k1
   exact ⟨by simp?,by simp?,by simp?,by simp?,by simp?⟩
  ·left
   have k1:=mw q1 (z:=x1) 0#b
   have k2:=mw q1 (z:=-y1) 0#b
   rw [MC] at k2
   exact ⟨by simp?,by simp?,by simp?,by simp?,by simp?⟩
 ·rcases sg with ⟨d,a,b,c,e⟩ | ⟨d,a,b,c,e⟩ <;> simp?
 ·rcases sg with ⟨d,a,b,c,e⟩ | ⟨d,a,b,c,e⟩
  ·have k1:=mw q1 (z:=-x1) 0#b
   rw [MC] at k1
   simp?
  ·have k1:=mw q1 (z:=x1) 0#b
   simp?
 ·rcases sg with ⟨d,a,b,c,e⟩ | ⟨d,a,b,c,e⟩
  ·have k1:=mw q1 (z:=y1) 0#b
   simp?
  ·have k1:=mw q1 (z:=-y1) 0#b
   rw [MC] at k1
   simp?
theorem j7.YQ (h:j7 H L high low x0 y0 x1 y1) (h1:L≤H):high≤H:=by
 obtain ⟨sg,eh,el,l0,lh,st⟩:=h
 rcases st with ⟨a,b,c,d⟩ | ⟨_,a,_⟩
 ·subst a b c d;simp?
 ·simp?
theorem j7.adz (h:j7 H L high low x0 y0 x1 y1) (hh:1≤high):x1.natAbs≤L.natAbs∧y1.natAbs≤H.natAbs:=by
 obtain ⟨sg,eh,el,l0,lh,st⟩:=h
 rcases sg with ⟨d,a,b,c,e⟩ | ⟨d,a,b,c,e⟩
 ·have e1:y1*high+(-y0)*low=H:=by
   have:y1*high+(-y0)*low=(x0*y1-x1*y0)*H:=by rw [← eh,← el];grind
   rw [this,d];simp?
  have e2:(-x1)*high+x0*low=L:=by
   have:(-x1)*high+x0*low=(x0*y1-x1*y0)*L:=by rw [← eh,← el];grind
   rw [this,d];simp?
  have n1:0≤(-y0)*low:=qF 0#b l0
  have n2:0≤x0*low:=qF 0#b l0
  have k1:y1≤y1*high:=by rw [qy];exact mw hh 0#b
  have k2:-x1≤(-x1)*high:=by rw [qy];exact mw hh 0#b
  simp?
 ·have e1:(-y1)*high+y0*low=H:=by
   have:(-y1)*high+y0*low=-(x0*y1-x1*y0)*H:=by rw [← eh,← el];grind
   rw [this,d];simp?
  have e2:x1*high+(-x0)*low=L:=by
   have:x1*high+(-x0)*low=-(x0*y1-x1*y0)*L:=by rw [← eh,← el];grind
   rw [this,d];simp?
  have n1:0≤y0*low:=qF 0#b l0
  have n2:0≤(-x0)*low:=qF 0#b l0
  have k1:-y1≤(-y1)*high:=by rw [qy];exact mw hh 0#b
  have k2:x1≤x1*high:=by rw [qy];exact mw hh 0#b
  simp?
theorem nh {B:Int} (hy:0≤y) (hh:340282366920938463463374607431768211456≤h) (hm:y*h≤B) (hB:B<115792089237316195423570985008687907853269984665640564039457584007913129639936):y≤340282366920938463463374607431768211456:=by
 by_cases c:y≤340282366920938463463374607431768211456
 ·exact c
 ·have:=EN (a:=340282366920938463463374607431768211456) (c:=y) (b:=340282366920938463463374607431768211456) (d:=h) 0#b hh 0#b hy
  simp?
theorem j7.small (h:j7 H L high low x0 y0 x1 y1) (hy:y0≠0) (hL:L≤H) (hH:H<115792089237316195423570985008687907853269984665640564039457584007913129639936) :
 x0.natAbs≤340282366920938463463374607431768211456∧y0.natAbs≤340282366920938463463374607431768211456∧x1.natAbs≤340282366920938463463374607431768211456∧y1.natAbs≤340282366920938463463374607431768211456:=by
 obtain ⟨sg,eh,el,l0,lh,st⟩:=h
 rcases st with ⟨_,z,_⟩ | ⟨_,hl,hh,ax,ay⟩
 ·exact absurd z hy
 rcases sg with ⟨d,a,b,c,e⟩ | ⟨d,a,b,c,e⟩
 ·have e1:y1*high+(-y0)*low=H:=by
   have:y1*high+(-y0)*low=(x0*y1-x1*y0)*H:=by rw [← eh,← el];grind
   rw [this,d];simp?
  have e2:(-x1)*high+x0*low=L:=by
   have:(-x1)*high+x0*low=(x0*y1-x1*y0)*L:=by rw [← eh,← el];grind
   rw [this,d];simp?
  have n1:0≤(-y0)*low:=qF 0#b l0
  have n2:0≤x0*low:=qF 0#b l0
  have k1:=nh (y:=y1) (B:=H) 0#b hh 0#b hH
  have k2:=nh (y:=-x1) (B:=H) 0#b hh 0#b hH
  simp?
 ·have e1:(-y1)*high+y0*low=H:=by
   have:(-y1)*high+y0*low=-(x0*y1-x1*y0)*H:=by rw [← eh,← el];grind
   rw [this,d];simp?
  have e2:x1*high+(-x0)*low=L:=by
   have:x1*high+(-x0)*low=-(x0*y1-x1*y0)*L:=by rw [← eh,← el];grind
   rw [this,d];simp?
  have n1:0≤y0*low:=qF 0#b l0
  have n2:0≤(-x0)*low:=qF 0#b l0
  have k1:=nh (y:=-y1) (B:=H) 0#b hh 0#b hH
  have k2:=nh (y:=x1) (B:=H) 0#b hh 0#b hH
  simp?
theorem Va {M:Int} (hx:x.natAbs≤M) (hy:y.natAbs≤M) (f0:0≤f) (f1:f≤T) (r0:0≤r) (r1:r≤T) (hs:(0≤x∧y≤0)∨(x≤0∧0≤y)):(x*f+y*r).natAbs≤M*T:=by
 rcases hs with ⟨a,b⟩ | ⟨a,b⟩
 ·have k1:=EN (a:=x) (c:=M) (b:=f) (d:=T) 0#b f1 f0 0#b
  have k2:=EN (a:=-y) (c:=M) (b:=r) (d:=T) 0#b r1 r0 0#b
  have k3:=qF a f0
  have k4:=qF (a:=-y) (b:=r) 0#b r0
  rw [RD] at k2 k4
  simp?
 ·have k1:=EN (a:=-x) (c:=M) (b:=f) (d:=T) 0#b f1 f0 0#b
  have k2:=EN (a:=y) (c:=M) (b:=r) (d:=T) 0#b r1 r0 0#b
  have k3:=qF (a:=-x) (b:=f) 0#b f0
  have k4:=qF (a:=y) (b:=r) 0#b r0
  rw [RD] at k1 k3
  simp?
theorem j7.less (h:j7 H L high low x0 y0 x1 y1) (hy:y0≠0) (hL:L≤H) (h1:57896044618658097711785492504343953926634992332820282019728792003956564819968≤H)
 (hH:H<115792089237316195423570985008687907853269984665640564039457584007913129639936) (hl:low≤340282366920938463463374607431768211456) (f0:0≤f) (f1:f<T) (r0:0≤r) (r1:r<T) :
 (x0*(H*T+f)+y0*(L*T+r)).natAbs+(x1*(H*T+f)+y1*(L*T+r)).natAbs<(H*T+f).natAbs+(L*T+r).natAbs:=by
 obtain ⟨sx0,sy0,sx1,sy1⟩:=h.small hy hL hH
 obtain ⟨sg,eh,el,l0,lh,st⟩:=h
 rcases st with ⟨_,z,_⟩ | ⟨_,hhL,hh,ax,ay⟩
 ·exact absurd z hy
 have A:x0*(H*T+f)+y0*(L*T+r)=high*T+(x0*f+y0*r):=by rw [← eh];grind
 have B:x1*(H*T+f)+y1*(L*T+r)=low*T+(x1*f+y1*r):=by rw [← el];grind
 have mA:=Va (x:=x0) (y:=y0) (f:=f) (r:=r) (T:=T) (M:=340282366920938463463374607431768211456) 0#b 0#b f0 0#b r0 0#b (by rcases sg with ⟨d,a,b,c,e⟩ | ⟨d,a,b,c,e⟩ <;> simp?)
 have mB:=Va (x:=x1) (y:=y1) (f:=f) (r:=r) (T:=T) (M:=340282366920938463463374607431768211456) 0#b 0#b f0 0#b r0 0#b (by rcases sg with ⟨d,a,b,c,e⟩ | ⟨d,a,b,c,e⟩ <;> simp?)
 have t1:0≤high*T:=qF 0#b 0#b
 have t2:0≤low*T:=qF l0 0#b
 have t3:high*T≤L*T:=MF hhL 0#b
 have t4:low*T≤340282366920938463463374607431768211456*T:=MF hl 0#b
 have t5:57896044618658097711785492504343953926634992332820282019728792003956564819968*T≤H*T:=MF h1 0#b
 rw [A,B]
 simp?
theorem Qc (d:x0*y1-x1*y0=1∨x0*y1-x1*y0=-1):cN (x0*a+y0*b) (x1*a+y1*b)=cN a b:=by
 refine Nat.dvd_antisymm ?_ ?_
 ·have h1:(cN (x0*a+y0*b) (x1*a+y1*b):Int)∣x0*a+y0*b:=Mt ..
  have h2:(cN (x0*a+y0*b) (x1*a+y1*b):Int)∣x1*a+y1*b:=Ms ..
  generalize (cN (x0*a+y0*b) (x1*a+y1*b))=g at h1 h2
  obtain ⟨u,hu⟩:=h1
  obtain ⟨v,hv⟩:=h2
  refine ab5 ?_ ?_
  ·rcases d with d | d
   ·exact ⟨y1*u-y0*v,by
     have:(x0*y1-x1*y0)*a=g*(y1*u-y0*v):=by grind
     rw [d] at this;simp?⟩
   ·exact ⟨-(y1*u-y0*v),by
     have:-(x0*y1-x1*y0)*a=g*(-(y1*u-y0*v)):=by grind
     rw [d] at this;simp?⟩
  ·rcases d with d | d
   ·exact ⟨x0*v-x1*u,by
     have:(x0*y1-x1*y0)*b=g*(x0*v-x1*u):=by grind
     rw [d] at this;simp?⟩
   ·exact ⟨-(x0*v-x1*u),by
     have:-(x0*y1-x1*y0)*b=g*(-(x0*v-x1*u)):=by grind
     rw [d] at this;simp?⟩
 ·have h1:(cN a b:Int)∣a:=Mt ..
  have h2:(cN a b:Int)∣b:=Ms ..
  exact ab5 (ab6 (Q2 h1) (Q2 h2)) (ab6 (Q2 h1) (Q2 h2))
theorem j7.gcd (h:j7 H L high low x0 y0 x1 y1):cN (x0*a+y0*b) (x1*a+y1*b)=cN a b:=
 Qc (h.sg.imp (·.1) (·.1))
theorem Qe (lo:(2:Int) ^ (255+t)≤x) (hi:x<(2:Int) ^ (256+t)) :
 57896044618658097711785492504343953926634992332820282019728792003956564819968≤x/2 ^ t∧x/2 ^ t<115792089237316195423570985008687907853269984665640564039457584007913129639936:=by
 have tp:(0:Int)<2 ^ t:=Xq 0#f
 refine ⟨(aaI tp).mpr ?_,(Int.ediv_lt_iff_lt_mul tp).mpr ?_⟩
 ·rw [ab7] at lo;exact lo
 ·rw [ab7] at hi;exact hi
theorem Nr (h:j7 H L high low x0 y0 x1 y1) (hy:y0≠0) (yx:y≤x) (lo:(2:Int) ^ (255+t)≤x) (hi:x<(2:Int) ^ (256+t))
 (eH:H=x/2 ^ t) (eL:L=y/2 ^ t) (hl:low≤340282366920938463463374607431768211456) :
 (x0*x+y0*y).natAbs+(x1*x+y1*y).natAbs<x.natAbs+y.natAbs:=by
 have tp:(0:Int)<2 ^ t:=Xq 0#f
 have hd:=Qe lo hi
 have e1:=Mj x (2 ^ t)
 have e2:=Mj y (2 ^ t)
 have m1:=Cb x (b:=2 ^ t) 0#b
 have m2:=Cb y (b:=2 ^ t) 0#b
 have l1:=AO x tp
 have l2:=AO y tp
 have hLH:L≤H:=by rw [eH,eL];exact W2 tp yx
 have:=h.less hy hLH (by rw [eH];exact hd.1) (by rw [eH];exact hd.2) hl m1 l1 m2 l2
 rw [eH,eL,qy (x/2 ^ t),qy (y/2 ^ t),e1,e2] at this
 exact this
theorem vZ (hp:p=if b>a then b else a) (hq:q=if b<a then b else a):cN p q=cN a b:=by
 subst hp hq
 by_cases h:b>a
 ·rw [if_pos h,if_neg 0#b];exact Xl b a
 ·by_cases k:b<a
  ·rw [if_neg h,if_pos k]
  ·have:a=b:=by simp?
   subst this;simp
theorem Vc (A B:Nat):0≤(if (B:Int)<(A:Int) then (B:Int) else (A:Int)):=by
 split
 ·exact Rc _
 ·exact Rc _
theorem NL (A B:Nat):((if (B:Int)>(A:Int) then (B:Int) else (A:Int))=(B:Int)∧(if (B:Int)<(A:Int) then (B:Int) else (A:Int))=(A:Int)∧(A:Int)≤(B:Int))∨((if (B:Int)>(A:Int) then (B:Int) else (A:Int))=(A:Int)∧(if (B:Int)<(A:Int) then (B:Int) else (A:Int))=(B:Int)∧(B:Int)≤(A:Int)):=by
 rcases abX (A:Int) (B:Int) with h | h
 ·exact .inl ⟨if_pos h,if_neg (vI.mpr (Xm h)),Xm h⟩
 ·refine .inr ⟨if_neg (vI.mpr h),?_,h⟩
  split
  ·rfl
  ·rename_i h2
   exact Int.le_antisymm (vI.mp h2) h
theorem Vb (A B:Nat):(if (B:Int)<(A:Int) then (B:Int) else (A:Int))≤(if (B:Int)>(A:Int) then (B:Int) else (A:Int)):=by
 rcases NL A B with ⟨e1,e2,h⟩ | ⟨e1,e2,h⟩ <;> rw [e1,e2] <;> exact h
theorem NK {z:Int} (h:A+B≤z.natAbs):((if (B:Int)>(A:Int) then (B:Int) else (A:Int))+(if (B:Int)<(A:Int) then (B:Int) else (A:Int))).natAbs≤z.natAbs:=by
 rcases NL A B with ⟨e1,e2,_⟩ | ⟨e1,e2,_⟩ <;> rw [e1,e2]
 ·exact dR (Rh _ _) (by rw [Hr];exact h)
 ·exact dR (Rh _ _) h
theorem aag {A:Nat} (ls:A+B<x.natAbs+y.natAbs) (y0:0≤y) (yx:y≤x):RG (if (B:Int)>(A:Int) then (B:Int) else (A:Int))+RG (if (B:Int)<(A:Int) then (B:Int) else (A:Int))<RG x+RG y:=by
 have ex:x.toNat=x.natAbs:=aaU (abY y0 yx) |> λe=>abN (e.trans (aaR (abY y0 yx)).symm)
 have ey:y.toNat=y.natAbs:=aaU y0 |> λe=>abN (e.trans (aaR y0).symm)
 rw [ex,ey]
 rcases NL A B with ⟨e1,e2,_⟩ | ⟨e1,e2,_⟩ <;> rw [e1,e2,W0,W0]
 ·rw [Hr]
  exact ls
 ·exact ls
theorem nab {a:Int} (ha:a.natAbs≤p) (hb:b.natAbs≤q) (h:p+q≤r):(a+b).natAbs≤r:=dR (Rh a b) (dR (Nat.add_le_add ha hb) h)
theorem ahZ {w:Int} (h0:0≤w) (h5:w<5):(w-1).natAbs≤3:=by lia
theorem afq {z:Int} (h0:0≤z) (h:z<25):(z-12).natAbs≤12:=by lia
theorem ahY {w:Int} (h0:0≤w) (h5:w<3):w.natAbs≤12:=by lia
theorem ah0 {st:Int} (h0:0≤st) (h:st≤2*1009):(1+st).natAbs≤2100:=by lia
theorem aah {x:Int} (ls:A+B<x.natAbs+y.natAbs) (y0:0≤y) (yx:y≤x):A+B≤(x+y).natAbs:=by simp?
theorem acS (y0:0≤y):1*x+-(x.fdiv y)*y=x % y:=by
 have em:=Mj x y
 rw [qy] at em
 rw [B8 _ y0,RD]
 simp?
theorem Yt {x:Int} (y1:1≤y) (yx:y≤x):(0*x+1*y).natAbs+(1*x+-(x.fdiv y)*y).natAbs<x.natAbs+y.natAbs:=by
 have m0:=Cb x (b:=y) 0#b
 have m1:=AO x (b:=y) 0#b
 rw [acS 0#b]
 simp?
structure Qt (t b:Int) (q:Rat):Prop where
 pos:1≤b
 eq:(t:Rat)=q*(b:Rat)
structure Fr (t b:Int) (q:Rat):Prop where
 pos:1≤b
 co:cN t b=1
 eq:(t:Rat)=q*(b:Rat)
theorem Fr.qt (h:Fr t b q):Qt t b q:=⟨h.pos,h.eq⟩
theorem eS {b:Int} (h:b≠0):(b:Rat)≠0:=by
 intro e
 first|exact h|refine h ?_|refine h ?_ ?_
 have:((b:Int):Rat)=((0:Int):Rat):=by rw [e];rfl
 exact Mu.mp this
theorem Fr.N2 (h:Z4 T B t b) (hB:B≠0) (e:(T:Rat)=q*(B:Rat)):Fr t b q:=by
 refine ⟨h.pos,h.co,?_⟩
 have k:=congrArg (λx:Int=>(x:Rat)) h.eq
 simp only [sD] at k
 have hB':=eS hB
 grind
theorem Fr.unique (h:Fr t b q) (h':Fr t' b' q):t=t'∧b=b':=by
 refine NF h.pos h'.pos h.co h'.co ?_
 have e:((t*b':Int):Rat)=((t'*b:Int):Rat):=by
  have e1:=h.eq
  have e2:=h'.eq
  simp only [sD]
  grind
 exact Mu.mp e
theorem Fr.worth (h:Fr t b q) (h':Fr t' b' q') (e:t=t') (e':b=b'):q=q':=by
 subst e e'
 have hb:=eS (b:=b) (by have:=h.pos;simp?)
 have e1:=h.eq
 have e2:=h'.eq
 grind
theorem ql {b:Int} (hb:1≤b) (hd:1≤d):1≤b*d:=by
 have:=yN (show 0<b by simp?) (show 0<d by simp?)
 simp?
theorem Qt.plus (h:Qt a b q) (k:Qt c d r):Qt (a*d+c*b) (b*d) (q+r):=by
 refine ⟨ql h.pos k.pos,?_⟩
 have e1:=h.eq
 have e2:=k.eq
 simp only [sD,abt]
 grind
theorem Qt.minus (h:Qt a b q) (k:Qt c d r):Qt (a*d-c*b) (b*d) (q-r):=by
 refine ⟨ql h.pos k.pos,?_⟩
 have e1:=h.eq
 have e2:=k.eq
 simp only [sD,sF]
 grind
theorem Qt.times (h:Qt a b q) (k:Qt c d r):Qt (a*c) (b*d) (q*r):=by
 refine ⟨ql h.pos k.pos,?_⟩
 have e1:=h.eq
 have e2:=k.eq
 simp only [sD]
 grind
theorem Qt.neg (h:Qt a b q):Qt (-a) b (-q):=by
 refine ⟨h.pos,?_⟩
 have e1:=h.eq
 simp only [Rr]
 grind
theorem Qt.whole (m:Int):Qt m 1 (m:Rat):=⟨by simp?,by simp⟩
theorem Fr.whole (m:Int):Fr m 1 (m:Rat):=⟨by simp?,by simp,by simp⟩
theorem Qt.div (h:Qt a b q) (hs:0<s):Qt a (b*s) (q/(s:Rat)):=by
 refine ⟨ql h.pos 0#b,?_⟩
 have e1:=h.eq
 have hs':=eS (b:=s) 0#b
 simp only [sD]
 grind
theorem Qt.ahh (h:Qt a b q) (hs:s<0):Qt (-a) (b*-s) (q/(s:Rat)):=by
 have k:=h.neg.div (s:=-s) 0#b
 have hs':=eS (b:=s) 0#b
 have e:-q/((-s:Int):Rat)=q/(s:Rat):=by
  simp only [Rr]
  grind
 rw [e] at k
 exact k
theorem Zo (h:Qt a b q) (k:Qt c d r) (hc:c≠0):b*c≠0∧((a*d:Int):Rat)=q/r*((b*c:Int):Rat):=by
 have hb:=h.pos
 have hd:=k.pos
 refine ⟨Int.mul_ne_zero 0#b hc,?_⟩
 have e1:=h.eq
 have e2:=k.eq
 have hc':=eS hc
 have hd':=eS (b:=d) 0#b
 have hr:r≠0:=by
  intro z
  rw [z] at e2
  first|exact hc'|refine hc' ?_|refine hc' ?_ ?_
  grind
 simp only [sD]
 grind
theorem Qt.WE (h:Qt a b q):a=0↔q=0:=by
 have e:=h.eq
 have hb:=eS (b:=b) (by have:=h.pos;simp?)
 constructor
 ·intro z
  subst z
  have:(0:Rat)=q*(b:Rat):=by rw [← e];rfl
  grind
 ·intro z
  subst z
  have:((a:Int):Rat)=((0:Int):Rat):=by rw [e];grind
  exact Mu.mp this
theorem Qt.lt_iff (h:Qt a b q) (k:Qt c d r):a*d<c*b↔q<r:=by
 have e1:=h.eq
 have e2:=k.eq
 have hb:(0:Rat)<(b:Rat):=by have:=h.pos;exact Rt.mpr 0#b
 have hd:(0:Rat)<(d:Rat):=by have:=k.pos;exact Rt.mpr 0#b
 have hbd:(0:Rat)<(b:Rat)*(d:Rat):=ab8 hb hd
 have l:((a*d:Int):Rat)=q*((b:Rat)*(d:Rat)):=by simp only [sD];grind
 have m:((c*b:Int):Rat)=r*((b:Rat)*(d:Rat)):=by simp only [sD];grind
 rw [← sy,l,m]
 exact Ke hbd
def dP (q:Rat):Rat:=if q<0 then -q else q
theorem ZC (q:Rat):0≤dP q:=by unfold dP;split <;> grind
theorem kg:dP q≤w↔-w≤q∧q≤w:=by unfold dP;split <;> grind
theorem Qt.abs (h:Qt a b q):Qt (a.natAbs:Int) b (dP q):=by
 have hb:(0:Rat)<(b:Rat):=by have:=h.pos;exact Rt.mpr 0#b
 have z:a<0↔q<0:=by
  have l:=Qt.lt_iff h (Qt.whole 0)
  simp at l
  exact l
 unfold dP
 by_cases h0:a<0
 ·rw [if_pos (z.mp h0)]
  have e:(a.natAbs:Int)=-a:=by simp?
  rw [e]
  exact h.neg
 ·rw [if_neg (λq=>h0 (z.mpr q))]
  have e:(a.natAbs:Int)=a:=by simp?
  rw [e]
  exact h
def dJ (t:Rat) (q:Rat) (u:Rat) (t':Rat) (q':Rat):Rat:=(q*(t'-u)+q'*(u-t))/(t'-t)
theorem AV (h:t≠t'):q+(q'-q)/(t'-t)*(u-t)=dJ t q u t' q':=by
 unfold dJ
 have:t'-t≠0:=by grind
 grind
theorem Fr.own (q:Rat):Fr q.num (q.den:Int) q:=by
 have hp:=q.den_pos
 have hd:((q.den:Int):Rat)≠0:=eS 0#b
 refine ⟨by simp?,?_,?_⟩
 ·have:=q.reduced
  exact this
 ·have h:=Rat.num_divInt_den q
  rw [Rat.divInt_eq_div] at h
  grind
theorem Fr.xS (h:Fr t b q):t=q.num∧b=(q.den:Int):=h.unique (Fr.own q)
def bU {α:Type} (s:α→Bool) (es:List α) (i:Nat):Bool:=decide (0<i)&&((es[i-1]?).map s).getD false
def parts {α:Type} (s:α→Bool) (es:List α):Nat→List (List α)
 | 0=>[]
 | i+1=>match es[i]? with
   | none=>parts s es i
   | some e=>if s e=true then (if bU s es i=true then (parts s es i).dropLast++[((parts s es i).getLast?.getD [])++[e]] else parts s es i++[[e]]) else parts s es i
section
variable {α:Type} {s:α→Bool} {es:List α} {i:Nat} {e:α}
theorem i8 (h:es[i]?=some e) (hs:s e=false):parts s es (i+1)=parts s es i:=by
 show (match es[i]? with | none=>_ | some e=>_)=_
 rw [h]
 show (if s e=true then _ else _)=_
 rw [hs]
 rfl
theorem i9 (h:es[i]?=some e) (hs:s e=true) (hi:bU s es i=false):parts s es (i+1)=parts s es i++[[e]]:=by
 show (match es[i]? with | none=>_ | some e=>_)=_
 rw [h]
 show (if s e=true then (if bU s es i=true then _ else _) else _)=_
 rw [hs,hi]
 rfl
theorem kc (h:es[i]?=some e) (hs:s e=true) (hi:bU s es i=true) (hp:parts s es i=t++[r]):parts s es (i+1)=t++[r++[e]]:=by
 show (match es[i]? with | none=>_ | some e=>_)=_
 rw [h]
 show (if s e=true then (if bU s es i=true then _ else _) else _)=_
 rw [hs,hi,hp]
 simp
theorem uX:∀i:Nat,(parts s es i).length≤i
 | 0=>dS _
 | i+1=>by
   have ih:=uX i
   show (match es[i]? with | none=>_ | some e=>_:List (List α)).length≤i+1
   cases es[i]? with
   | none=>exact Bo ih
   | some e=>
     show (if s e=true then (if bU s es i=true then _ else _) else _:List (List α)).length≤i+1
     split
     ·split
      ·rw [fh,List.length_dropLast]
       simp
       simp?
      ·rw [fh]
       simp
       simp?
     ·exact Bo ih
theorem tT (h:bU s es i=true):∃t r,parts s es i=t++[r]:=by
 unfold bU at h
 rw [yG] at h
 obtain ⟨h0,h1⟩:=h
 have h0:=dM h0
 obtain ⟨j,rfl⟩:∃j,i=j+1:=⟨i-1,by simp?⟩
 rw [G8] at h1
 cases e:es[j]? with
 | none=>rw [e] at h1;simp at h1
 | some d=>
   rw [e] at h1
   have hd:s d=true:=by simpa using h1
   cases hr:bU s es j with
   | true=>
     refine ⟨(parts s es j).dropLast,((parts s es j).getLast?.getD [])++[d],?_⟩
     show (match es[j]? with | none=>_ | some e=>_)=_
     rw [e]
     show (if s d=true then (if bU s es j=true then _ else _) else _)=_
     rw [hd,hr]
     rfl
   | false=>exact ⟨_,_,i9 e hd hr⟩
theorem DC:∀(i:Nat) (r:List α),r∈parts s es i→r.length≤i
 | 0,r,h=>absurd h (by simp [parts])
 | i+1,r,h=>by
   have ih:=DC i
   unfold parts at h
   cases e:es[i]? with
   | none=>rw [e] at h;exact Bo (ih r h)
   | some y=>
     rw [e] at h
     dsimp only at h
     split at h
     ·split at h
      ·rcases fK.mp h with z | z
       ·exact Bo (ih r (aaM _ |>.subset z))
       ·obtain rfl:r=((parts s es i).getLast?.getD [])++[y]:=by simpa using z
        rw [fh]
        cases g:(parts s es i).getLast? with
        | none=>simp
        | some r'=>
          have:=ih r' (List.mem_of_getLast? g)
          simp
          simp?
      ·rcases fK.mp h with z | z
       ·exact Bo (ih r z)
       ·obtain rfl:r=[y]:=by simpa using z
        simp
     ·exact Bo (ih r h)
theorem gw (h:es[i]?=some e):bU s es (i+1)=s e:=by
 unfold bU
 rw [G8,h]
 simp
end
theorem ya (h:0<s):dP (q*s)=dP q*s:=by
 unfold dP
 by_cases h0:q<0
 ·have:q*s<0:=by
   have:=J8 h0 h
   grind
  rw [if_pos h0,if_pos this]
  grind
 ·have:¬q*s<0:=by
   have h1:0≤q:=by grind
   have:=Mw h1 (show 0≤s by grind)
   grind
  rw [if_neg h0,if_neg this]
theorem cast_pos {b:Int} (h:0<b):(0:Rat)<(b:Rat):=Rt.mpr h
theorem AU {t:Int} (h:t<t'):((t':Rat)-(t:Rat))≠0:=by
 have:(t:Rat)<(t':Rat):=sy.mpr h
 grind
theorem nB (h:t'-t≠0):dJ t q u t' q'*(t'-t)=q*(t'-u)+q'*(u-t):=by
 unfold dJ
 grind
theorem acP (hi:Fr a b qi) (hj:Fr a' b' qj) (hp:Fr c e qp) (h:ti<tj) :
 Qt (c*(b'*b*(tj-ti))-e*(a*(b'*(tj-ti))+(a'*b-a*b')*(tp-ti))) e ((qp-dJ ti qi tp tj qj)*((b'*b*(tj-ti):Int):Rat)):=by
 refine ⟨hp.pos,?_⟩
 have e1:=hi.eq
 have e2:=hj.eq
 have e3:=hp.eq
 have hX:=nB (t:=(ti:Rat)) (q:=qi) (u:=(tp:Rat)) (t':=(tj:Rat)) (q':=qj) (AU h)
 simp only [sD,sF,abt]
 generalize dJ (ti:Rat) qi (tp:Rat) (tj:Rat) qj=X at *
 grind
structure kH (s:Nat→Rat) (i m k:Nat):Prop where
 lo:i<k
 hi:k<m
 top:∀k',i<k'→k'<m→s k'≤s k
 fst:∀k',i<k'→k'<k→s k'<s k
section
variable {s s':Nat→Rat} {i m k k':Nat} {c:Rat}
theorem kH.first:kH s i (i+2) (i+1):=⟨by simp?,by simp?,λk' h1 h2=>by
 obtain rfl:k'=i+1:=by simp?
 exact qz,λk' h1 h2=>by simp?⟩
theorem kH.keep (h:kH s i m k) (h1:s m≤s k):kH s i (m+1) k:=⟨h.lo,by have:=h.hi;simp?,λk' h2 h3=>by
 by_cases e:k'=m
 ·subst e;exact h1
 ·exact h.top k' h2 0#b,h.fst⟩
theorem kH.next (h:kH s i m k) (h1:s k<s m):kH s i (m+1) m:=⟨by have:=h.lo;have:=h.hi;simp?,by simp?,λk' h2 h3=>by
 by_cases e:k'=m
 ·subst e;exact qz
 ·have:=h.top k' h2 0#b
  grind,λk' h2 h3=>by
 have:=h.top k' h2 0#b
 grind⟩
theorem kH.unique (h:kH s i m k) (h':kH s i m k'):k=k':=by
 by_cases e:k<k'
 ·have h1:=h'.fst k h.lo e
  have h2:=h.top k' h'.lo h'.hi
  grind
 ·by_cases e':k'<k
  ·have h1:=h.fst k' h'.lo e'
   have h2:=h'.top k h.lo h.hi
   grind
  ·simp?
end
structure qO (L:Nat→Nat→Prop) (N:Nat) (t:Nat→Int):Prop where
 first:t 0=0
 le:∀i j,i<j→j<N→L i j→t j≤t i+1
 ex:∀j,0<j→j<N→∃i,i<j∧L i j∧t j=t i+1
structure qP (L:Nat→Nat→Prop) (N f:Nat) (t:Nat→Int):Prop where
 first:t 0=0
 le:∀i j,i<f→i<j→j<N→L i j→t j≤t i+1
 ex:∀j,0<j→j<N→t j=(N:Int)∨∃i,i<f∧i<j∧L i j∧t j=t i+1
 lo:∀j,j<N→0≤t j
 hi:∀j,j<N→t j≤(N:Int)
theorem qP.start:qP L N 0 (λj=>if j=0 then 0 else (N:Int)):=by
 refine ⟨rfl,λi j h=>absurd h (Cc _),λj h0 _=>.inl (if_neg 0#b),λj _=>?_,λj _=>?_⟩ <;> (show _≤_;split <;> simp?)
theorem qP.step (h:qP L N f t) (hL:∀j,L f j→f<j) (e:∀j,j<N→(L f j→u j=if t f+1<t j then t f+1 else t j)∧(¬L f j→u j=t j)) (hf:f<N):qP L N (f+1) u:=by
 have same:∀i,i≤f→i<N→u i=t i:=λi hi hN=>(e i hN).2 λz=>by have:=hL i z;simp?
 have h0:u 0=0:=by rw [same 0 0#b 0#b];exact h.first
 have hl:=h.lo f hf
 refine ⟨h0,λi j hi hij hj aeU=>?_,λj h0j hj=>?_,λj hj=>?_,λj hj=>?_⟩
 ·rw [same i 0#b 0#b]
  by_cases hi':i=f
  ·subst hi'
   rw [(e j hj).1 aeU]
   split <;> simp?
  ·have h1:=h.le i j 0#b hij hj aeU
   by_cases hLf:L f j
   ·rw [(e j hj).1 hLf]
    split <;> simp?
   ·rw [(e j hj).2 hLf]
    exact h1
 ·by_cases hLf:L f j
  ·have hfj:=hL j hLf
   have ej:=(e j hj).1 hLf
   by_cases hc:t f+1<t j
   ·rw [if_pos hc] at ej
    exact .inr ⟨f,by simp?,hfj,hLf,by rw [ej,same f 0#b hf]⟩
   ·rw [if_neg hc] at ej
    rcases h.ex j h0j hj with z | ⟨i,i1,i2,i3,i4⟩
    ·exact .inl (ej.trans z)
    ·exact .inr ⟨i,by simp?,i2,i3,by rw [ej,same i 0#b 0#b];exact i4⟩
  ·have ej:=(e j hj).2 hLf
   rcases h.ex j h0j hj with z | ⟨i,i1,i2,i3,i4⟩
   ·exact .inl (ej.trans z)
   ·exact .inr ⟨i,by simp?,i2,i3,by rw [ej,same i 0#b 0#b];exact i4⟩
 ·have h1:=h.lo j hj
  by_cases hLf:L f j
  ·rw [(e j hj).1 hLf]
   split <;> simp?
  ·rw [(e j hj).2 hLf]
   exact h1
 ·have h1:=h.hi j hj
  by_cases hLf:L f j
  ·rw [(e j hj).1 hLf]
   split <;> simp?
  ·rw [(e j hj).2 hLf]
   exact h1
theorem qP.done (h:qP L N f t) (hs:∀j,0<j→j<N→L (j-1) j) (hf:N≤f+1):qO L N t:=by
 have up:∀j,j<N→t j≤(j:Int):=by
  intro j
  induction j with
  | zero=>intro _;rw [h.first];simp?
  | succ j ih=>
    intro hj
    have h1:=ih 0#b
    have h2:=h.le j (j+1) 0#b 0#b hj (hs (j+1) 0#b hj)
    simp?
 refine ⟨h.first,λi j hij hj hL=>h.le i j 0#b hij hj hL,λj h0 hj=>?_⟩
 rcases h.ex j h0 hj with z | ⟨i,i1,i2,i3,i4⟩
 ·have:=up j hj
  simp?
 ·exact ⟨i,i2,i3,i4⟩
theorem FG {α:Type} (N:Nat) (f:Nat→α) (j:Nat) (v:α):((gD N).map f).set j v=(gD N).map (λi=>if i=j then v else f i):=by
 first|exact Ri|refine Ri ?_|refine Ri ?_ ?_
 intro i
 rw [List.getElem?_set]
 by_cases hi:i<N
 ·rw [kE,E3 hi,kE,E3 hi]
  by_cases e:j=i
  ·subst e
   simp [hi]
  ·have e':¬i=j:=λz=>e z.symm
   simp [e,e']
 ·have h1:(gD N)[i]?=none:=by simp;simp?
  rw [kE,kE,h1]
  by_cases e:j=i
  ·subst e
   simp;simp?
  ·simp [e]
theorem xQ {α:Type} {f:Nat→α} (h:j<N):((gD N).map f)[j]?=some (f j):=by
 rw [kE,E3 h]
 rfl
theorem uZ {a:Rat} (h:0<c):a/c≤b↔a≤b*c:=by
 have e:a/c*c=a:=by grind
 constructor
 ·intro z
  have:=AM z (show 0≤c by grind)
  rw [e] at this
  exact this
 ·intro z
  exact QY (by rw [e];exact z) h
theorem o6 {a:Rat} (h:0<c):a≤b/c↔a*c≤b:=by
 have e:b/c*c=b:=by grind
 constructor
 ·intro z
  have:=AM z (show 0≤c by grind)
  rw [e] at this
  exact this
 ·intro z
  exact QY (by rw [e];exact z) h
theorem HG (h1:ti<tk) (h2:tk<tj) :
 dP (qk-dJ ti qi tk tj qj)≤β↔(qk-β-qi)/(tk-ti)≤(qj-qi)/(tj-ti)∧(qj-qi)/(tj-ti)≤(qk+β-qi)/(tk-ti):=by
 rw [← AV (u:=tk) (show ti≠tj by grind)]
 have hd:0<tk-ti:=by grind
 generalize (qj-qi)/(tj-ti)=s
 rw [kg,uZ hd,o6 hd]
 constructor <;> rintro ⟨a,b⟩ <;> constructor <;> grind
def loP (t v:Nat→Rat) (B:Rat) (i j:Nat):Rat:=(v j-B-v i)/(t j-t i)
def hiP (t v:Nat→Rat) (B:Rat) (i j:Nat):Rat:=(v j+B-v i)/(t j-t i)
def ZR (t v:Nat→Rat) (i j k:Nat):Rat:=v j-dJ (t i) (v i) (t j) (t k) (v k)
def aeu (t:Nat→Rat) (n:Nat):Prop:=∀i j,i<j→j<n→t i<t j
theorem tE (s:Rat) (h:ta<tc):dJ ta (x-s*ta) tb tc (y-s*tc)=dJ ta x tb tc y-s*tb:=by
 have h1:=nB (t:=ta) (q:=x-s*ta) (u:=tb) (t':=tc) (q':=y-s*tc) 0#B
 have h2:=nB (t:=ta) (q:=x) (u:=tb) (t':=tc) (q':=y) 0#B
 have h0:tc-ta≠0:=by grind
 have e:(dJ ta (x-s*ta) tb tc (y-s*tc)-(dJ ta x tb tc y-s*tb))*(tc-ta)=0:=by grind
 rcases Mv.mp e with z | z
 ·grind
 ·exact absurd z h0
theorem Kw (h1:ta<tb) (h2:tb<tc) (hx:x<M) (hy:y<M):dJ ta x tb tc y<M:=by
 have e:=nB (t:=ta) (q:=x) (u:=tb) (t':=tc) (q':=y) 0#B
 have p1:=(Ke (show 0<tc-tb by grind)).mpr hx
 have p2:=(Ke (show 0<tb-ta by grind)).mpr hy
 refine (Ke (show 0<tc-ta by grind)).mp ?_
 rw [e]
 grind
theorem Kv (h1:ta<tb) (h2:tb<tc) (hx:M<x) (hy:M<y):M<dJ ta x tb tc y:=by
 have e:=nB (t:=ta) (q:=x) (u:=tb) (t':=tc) (q':=y) 0#B
 have p1:=(Ke (show 0<tc-tb by grind)).mpr hx
 have p2:=(Ke (show 0<tb-ta by grind)).mpr hy
 refine (Ke (show 0<tc-ta by grind)).mp ?_
 rw [e]
 grind
theorem PJ (h1:t i<t j) (h2:t j<t k) (a:B<(v j-s*t j)-(v i-s*t i)) (b:B<(v j-s*t j)-(v k-s*t k)):B<ZR t v i j k:=by
 have c:=Kw (M:=v j-s*t j-B) h1 h2 (show v i-s*t i<_ by grind) (show v k-s*t k<_ by grind)
 rw [tE s 0#B] at c
 unfold ZR
 grind
theorem PL (h1:t i<t j) (h2:t j<t k) (a:B<(v i-s*t i)-(v j-s*t j)) (b:B<(v k-s*t k)-(v j-s*t j)):B < -ZR t v i j k:=by
 have c:=Kv (M:=v j-s*t j+B) h1 h2 (show _<v i-s*t i by grind) (show _<v k-s*t k by grind)
 rw [tE s 0#B] at c
 unfold ZR
 grind
theorem ZA (h:w<q∨w < -q):w<dP q:=by
 unfold dP
 split <;> grind
theorem ae1 (hr:aeu t n) (hp:∀i j k,i<j→j<k→k<n→dP (ZR t v i j k)≤B) (hB:0≤B) (hij:i<j) (hj:j<n) (Sq:k<l) (hl:l<n):loP t v B i j≤hiP t v B k l:=by
 first|exact kB.mp|refine kB.mp ?_|refine kB.mp ?_ ?_
 intro hlt
 have dj:=hr i j hij hj
 have dl:=hr k l Sq hl
 obtain ⟨s,s1,s2⟩:∃s,hiP t v B k l<s∧s<loP t v B i j:=⟨(hiP t v B k l+loP t v B i j)/2,by grind,by grind⟩
 have e1:B<(v j-s*t j)-(v i-s*t i):=by
  have h:=(o6 (a:=s) (b:=v j-B-v i) (c:=t j-t i) 0#B)
  have:¬(v j-B-v i)/(t j-t i)≤s:=by unfold loP at s2;grind
  rw [uZ 0#B] at this
  grind
 have e2:B<(v k-s*t k)-(v l-s*t l):=by
  have:¬s≤(v l+B-v k)/(t l-t k):=by unfold hiP at s1;grind
  rw [o6 0#B] at this
  grind
 have bad:∀a b c,a<b→b<c→c<n→(B<ZR t v a b c∨B < -ZR t v a b c)→False:=λa b c h1 h2 h3 h4=>by
  have g1:=hp a b c h1 h2 h3
  have g2:=ZA h4
  grind
 by_cases hc:v k-s*t k≤v j-s*t j
 ·by_cases hjl:j<l
  ·exact bad i j l hij hjl hl (.inl (PJ dj (hr j l hjl hl) e1 0#B))
  ·have hne:j≠l:=λz=>by subst z;grind
   have hlj:l<j:=by simp?
   exact bad k l j Sq hlj hj (.inr (PL dl (hr l j hlj hj) e2 0#B))
 ·by_cases hik:i<k
  ·exact bad i k l hik Sq hl (.inl (PJ (hr i k hik 0#b) dl 0#B e2))
  ·have hne:i≠k:=λz=>by subst z;grind
   have hki:k<i:=by simp?
   exact bad k i j hki hij hj (.inr (PL (hr k i hki 0#b) dj 0#B e1))
theorem L7 (h1:t i<t j) (h2:t j<t k) (a1:loP t v B i j≤s) (a2:s≤hiP t v B i j) (b1:loP t v B j k≤s) (b2:s≤hiP t v B j k):dP (ZR t v i j k)≤B:=by
 have h3:t i<t k:=by grind
 unfold loP at a1 b1
 unfold hiP at a2 b2
 rw [uZ 0#B] at a1 b1
 rw [o6 0#B] at a2 b2
 rw [kg]
 unfold ZR
 have e:=tE (ta:=t i) (tb:=t j) (tc:=t k) (x:=v i) (y:=v k) s h3
 constructor
 ·first|exact kB.mp|refine kB.mp ?_|refine kB.mp ?_ ?_
  intro z
  have c:=Kw (M:=v j-s*t j-(v j-dJ (t i) (v i) (t j) (t k) (v k))) (x:=v i-s*t i) (y:=v k-s*t k) h1 h2 0#B 0#B
  rw [e] at c
  grind
 ·first|exact kB.mp|refine kB.mp ?_|refine kB.mp ?_ ?_
  intro z
  have c:=Kv (M:=v j-s*t j-(v j-dJ (t i) (v i) (t j) (t k) (v k))) (x:=v i-s*t i) (y:=v k-s*t k) h1 h2 0#B 0#B
  rw [e] at c
  grind
end Mth
namespace My
open PySem PySem.Spec PyProof.Rows L2 Mth
theorem ck (hx:Sz m x) (hy:Sz n y) (h:m+n≤134217728:=by decide):IntMulOk x y:=
 IntMulOk.of_le (Ho.mpr hx) (Ho.mpr hy) h
theorem mulR (h1:-(2 ^ 64)<y) (h2:y<2 ^ 64):IntMulOk x y:=XZ.ok (.inr ⟨h1,h2⟩)
theorem mulL (h1:-(2 ^ 64)<x) (h2:x<2 ^ 64):IntMulOk x y:=XZ.ok (.inl ⟨h1,h2⟩)
def CB (_ j:Int):Prop:=j≠0∧j.natAbs.log2<9000
theorem aS:rT X (pC .Mult) (rI IntMulOk λi j=>.int (i*j)):=opI λ_ _ _ _ _ _ _ hc q=>mul_int q hc
theorem fY:rT X (pC .FloorDiv) (rI CB λi j=>.int (i.fdiv j)):=opI λ_ _ _ _ _ _ _ hc q=>floordiv_int hc.1 q (.inl (PyProof.noPylong_of_log2 hc.2))
mutual
inductive Den (H:Hp):V→qC→Prop where
 | bK:Den H .bK .none
 | bl (b:Bool):Den H (.bl b) (.bool b)
 | int (i:Int):Den H (.int i) (.int i)
 | str (x:Str):Den H (.str x) (.str x)
 | tup {a:aq} {xs:List V} {ds:List qC}:H a=some (.tup xs)→sr H xs ds→Den H (.ref a) (.tuple ds)
 | lst {a:aq} {xs:List V} {ds:List qC}:H a=some (.lst xs)→sr H xs ds→Den H (.ref a) (.list ds)
inductive sr (H:Hp):List V→List qC→Prop where
 | nil:sr H [] []
 | cons {x:V} {xs:List V} {d:qC} {ds:List qC}:Den H x d→sr H xs ds→sr H (x::xs) (d::ds)
end
mutual
theorem Den.reads (ok:yV P w H h):∀{v:V} {d:qC},Den H v d→∀{u:aJ},RelV v u→∃as,Reads h u d as
 | _,_,.bK,u,r=>by cases (show u=Value.none from r);exact ⟨_,Reads.none⟩
 | _,_,.bl b,u,r=>by cases (show u=Value.bool b from r);exact ⟨_,Reads.bool b⟩
 | _,_,.int i,u,r=>by obtain ⟨t,q⟩:=(show ∃t,u=Value.int i t from r);cases q;exact ⟨_,Reads.int i t⟩
 | _,_,.str x,u,r=>by obtain ⟨t,q⟩:=(show ∃t,u=Value.str x t from r);cases q;exact ⟨_,Reads.str x t⟩
 | _,_,@Den.tup _ a xs ds e dd,u,r=>by
   cases (show u=Value.ref a from r)
   obtain ⟨_,its,rv,o,h1,h2,n,h3⟩:=(show iw P w H h a 0#o from ok a _ e)
   obtain ⟨as,q⟩:=sr.reads ok dd rv
   exact ⟨as,reads_tuple_at h1 h2 h3 (by simpa using q)⟩
 | _,_,@Den.lst _ a xs ds e dd,u,r=>by
   cases (show u=Value.ref a from r)
   obtain ⟨_,its,n,rv,h1⟩:=(show iw P w H h a (.lst xs) from ok a _ e)
   obtain ⟨as,q⟩:=sr.reads ok dd rv
   exact ⟨_,reads_list_at h1 rfl rfl (by simpa using q)⟩
theorem sr.reads (ok:yV P w H h):∀{vs:List V} {ds:List qC},sr H vs ds→∀{us:List aJ},Vals vs us→∃as,ReadsAll h us ds as
 | _,_,.nil,_,.nil=>⟨_,ReadsAll.nil⟩
 | _,_,.cons d dd,_,.cons r rr=>by
   obtain ⟨as,q⟩:=Den.reads ok d r
   obtain ⟨bs,p⟩:=sr.reads ok dd rr
   exact ⟨_,ReadsAll.cons q p⟩
end
def afB:R2:=λx y H Q=>∃d e,Den H x d∧Den H y e∧Bw d=true∧Bw e=true∧Q (.bl (oM d e)) H
def adK:R2:=λx y H Q=>∃d e,Den H x d∧Den H y e∧Bw d=true∧Bw e=true∧Q (.bl (!PyData.eqv d e)) H
theorem adC (hu:X.A.units+64<cLine):rT X (oV .Eq) afB:=by
 intro pins s σ H x y v u Q I rx ry h
 obtain ⟨d,e,hd,he,s1,s2,q⟩:=h
 obtain ⟨as,r1⟩:=hd.reads I.hok rx
 obtain ⟨bs,r2⟩:=he.reads I.hok ry
 exact eq_dataH r1 r2 s1 s2 hu ⟨.bl _,H,I,rfl,q⟩
theorem IX (hu:X.A.units+64<cLine):rT X (oV .NotEq) adK:=by
 intro pins s σ H x y v u Q I rx ry h
 obtain ⟨d,e,hd,he,s1,s2,q⟩:=h
 obtain ⟨as,r1⟩:=hd.reads I.hok rx
 obtain ⟨bs,r2⟩:=he.reads I.hok ry
 exact ne_dataH r1 r2 s1 s2 hu ⟨.bl _,H,I,rfl,q⟩
def adI (K:cj):List V→Hp→VK→Prop:=λxs H Q=>∃x n t b,xs=[x,.ty n]∧xx K H x t∧Rv K t (.type n)=some b∧Q (.bl b) H
theorem Uc:jP X (.builtin "isinstance") (adI X.K):=by
 intro pins s σ H xs us Q I r h
 obtain ⟨x,n,t,b,rfl,ty,e,q⟩:=h
 obtain ⟨u,u2,rfl,rx,rn⟩:=vals2 r
 cases (show u2=Value.type n from rn)
 exact Sy I rx ty e λtk=>⟨.bl b,H,I.tok tk,rfl,q⟩
theorem cR:(iU pos (bG [] env)).any (·.1)=false:=by rfl
theorem cO (h:bG (e::es) env=(false,eval e env)::bG es env) (k:(iU pos (bG es env)).any (·.1)=false):(iU pos (bG (e::es) env)).any (·.1)=false:=by
 rw [h]
 exact k
theorem lV:bG (.Constant c k pos::es) env=(false,eval (.Constant c k pos) env)::bG es env:=by rfl
theorem bP:bG (.Name x pos::es) env=(false,eval (.Name x pos) env)::bG es env:=by rfl
theorem J1:bG (.BinOp a op b pos::es) env=(false,eval (.BinOp a op b pos) env)::bG es env:=by rfl
theorem EF:bG (.Subscript a b pos::es) env=(false,eval (.Subscript a b pos) env)::bG es env:=by rfl
theorem EE:bG (.Call f as kw pos::es) env=(false,eval (.Call f as kw pos) env)::bG es env:=by rfl
theorem ait:mS (.Constant c k pos) tg l env=pure false:=by rfl
theorem aea:mS (.BinOp a op b pos) tg l env=pure false:=by rfl
theorem Wk:mS (.Subscript a b pos) tg l env=pure false:=by rfl
theorem eK:mS (.Call f as kw pos) tg l env=pure false:=by rfl
theorem af7:mS (.Tuple as k pos) tg l env=pure false:=by rfl
theorem aiu:mS (.IfExp a b c pos) tg l env=pure false:=by rfl
structure Dn (P:jA) (w:fN) (K:cj) (mg:Str→Option aJ) (base:cP) (k:Nat) (x:Str) (ps:List Str) (sp:Sp):Prop where
 ex:∃(f:aq) (fd:jW),bh P w K mg base dm k f fd ps sp∧mg x=some (.ref f)∧yT K (.ref f)=true∧Binds K fd ps []
theorem GU {X:Cx} {k:Nat} {x:Str} {ps:List Str} {sp:Sp} {p pos:Pos} {e:bA} {es:List bA} {t:TA} (D:Dn X.prog X.w X.K X.mg X.base k x ps sp) (hr:jj k X.A) (hg:Gl X x) (ha:PA X (e::es) t) (hdb:0#x=false:=by decide)
 (he:bG (e::es) X.env=0#D::bG es X.env:=by rfl) (hpl:(iU pos (bG es X.env)).any (·.1)=false:=by rfl):PE X (.Call (.Name x p) (e::es) [] pos) (EG sp [] E0 t):=by
 obtain ⟨f,fd,ok,hm,hk,hb⟩:=D.ex
 exact Zq ok hr hg hm hk hb .nil QB ha hdb he hpl
theorem aeD {K:cj} {st:aU} (F:su K x qual st f fd) (ok:bh P w K mg base dm k f fd ps sp)
 (hm:mg x=some (.ref f)) (hb:Binds K fd ps []):Dn P w K mg base k x ps sp:=⟨f,fd,ok,hm,F.kp,hb⟩
theorem afU (h:t { D with nx:=u D } σ H):EH t u D σ H:=h
theorem afV (h:te σ H λx H1=>D.nx (σ.set i (some x)) H1):Ga te (jw i) D σ H:=h
theorem afS (h:te σ H D.rt):aei te D σ H:=h
theorem adT (h:te σ H λ_ H1=>D.nx σ H1):Wn te D σ H:=h
theorem aih (h:c σ H λb H1=>if b=true then t D σ H1 else u D σ H1):aee c t u D σ H:=h
theorem VP (h:D.nx σ H):Wr D σ H:=h
theorem afY (e:σ[i]?=some (some v)) (q:Q v H):ZU i σ H Q:=⟨v,e,q⟩
theorem r_c (q:Q v H):tC v σ H Q:=q
theorem aij (h:ta σ H λx H1=>tb σ H1 λy H2=>r x y H2 Q):Wt r ta tb σ H Q:=h
theorem air (h:ta σ H λx H1=>r x H1 Q):ZT r ta σ H Q:=h
theorem afG (q:Q (g m n) H):Zw g (.int m) (.int n) H Q:=⟨m,n,rfl,rfl,q⟩
theorem iF (hc:C m n) (q:Q (g m n) H):rI C g (.int m) (.int n) H Q:=⟨m,n,rfl,rfl,hc,q⟩
theorem r_U (q:Q (g m) H):rU g (.int m) H Q:=⟨m,rfl,q⟩
theorem ad3 (h:te σ H λx H'=>∃k,x=.bl k∧B k H'):LZ te σ H B:=h
theorem r_B (h:te σ H λx H'=>∃k,x=.bl k∧B k H'):tB te σ H B:=h
theorem ah7 {R:Bool→Prop} (h:R b):∃k,V.bl b=.bl k∧R k:=⟨b,rfl,h⟩
theorem ah9 (h:ts σ H λvs H1=>r vs H1 Q):tCB r ts σ H Q:=h
theorem adR (h:te σ H λx H1=>ts σ H1 λxs H2=>R (x::xs) H2):gW te ts σ H R:=h
theorem afP (h:R [] H):rK σ H R:=h
def Nw (mk:List V→HO) (xs:List V) (H:Hp) (Q:VK):Prop:=xs.length≤sizeLine∧∀p,H p=none→Q (.ref p) (upd H p (mk xs))
theorem afW (h:ts σ H λxs H1=>Nw .tup xs H1 Q):aej ts σ H Q:=h
theorem afM (h:ts σ H λxs H1=>Nw .lst xs H1 Q):aef ts σ H Q:=h
theorem adP (h:ts σ H λvs H1=>sp (vs++[]) H1 Q E0):EG sp [] E0 ts σ H Q:=h
theorem afR (h:ts σ H λvs H1=>∃v w,vs=[v,w]∧D.nx ((σ.set a (some v)).set b (some w)) H1):aeh a b ts D σ H:=h
theorem afQ (h:c σ H λb H1=>B (!b) H1):aeg c σ H B:=h
theorem afH (h:c σ H λb H1=>if b=true then d σ H1 B else B false H1):aeb c d σ H B:=h
theorem aik (h:c σ H λb H1=>if b=true then B true H1 else d σ H1 B):tOr c d σ H B:=h
theorem adN (h:ta σ H λx H1=>∃k,x=.bl k∧if k=true then tb σ H1 Q else Q (.bl false) H1):Wl ta tb σ H Q:=h
theorem adZ (h:ta σ H λx H1=>∃k,x=.bl k∧Q (.bl (!k)) H1):Ws ta σ H Q:=h
theorem afK (h:c σ H λb H1=>if b=true then ta σ H1 Q else tb σ H1 Q):tIf c ta tb σ H Q:=h
theorem aid (hs:ZL (.int m) (.int n)=true) (q:Q (.bl (decide (m=n))) H):rEq (.int m) (.int n) H Q:=⟨hs,by
 have e:decide (V.int m=V.int n)=decide (m=n):=by simp
 rw [e];exact q⟩
theorem aii (hs:ZL (.int m) (.int n)=true) (q:Q (.bl (!decide (m=n))) H):rNe (.int m) (.int n) H Q:=⟨hs,by
 have e:decide (V.int m=V.int n)=decide (m=n):=by simp
 rw [e];exact q⟩
theorem at0 {x:V}:sI (x::xs) 0=some x:=iG (j:=0) rfl
theorem at1 {x:V}:sI (x::y::xs) 1=some y:=iG (j:=1) rfl
theorem at2 {x:V}:sI (x::y::z::xs) 2=some z:=iG (j:=2) rfl
theorem ain {K:cj} (h:H p=some (.tup (x::xs))) (q:Q x H):OD K (.ref p) (.int 0) H Q:=⟨p,_,0,x,rfl,rfl,tD.of h,at0,q⟩
theorem aio {K:cj} (h:H p=some (.tup (x::y::xs))) (q:Q y H):OD K (.ref p) (.int 1) H Q:=⟨p,_,1,y,rfl,rfl,tD.of h,at1,q⟩
theorem aip {K:cj} (h:H p=some (.tup (x::y::z::xs))) (q:Q z H):OD K (.ref p) (.int 2) H Q:=⟨p,_,2,z,rfl,rfl,tD.of h,at2,q⟩
def adJ (K:cj):List V→Hp→VK→Prop:=λxs H Q=>∃p ys,xs=[.ref p]∧(bq K H p ys∨tD K H p ys)∧Q (.int ys.length) H
theorem dW {K:cj} (h:bq K H p ys∨tD K H p ys) (q:Q (.int ys.length) H):adJ K [.ref p] H Q:=⟨p,ys,rfl,h,q⟩
def afz:List V→Hp→VK→Prop:=λxs H Q=>∃i,xs=[.int i]∧Q (.int (if i<0 then -i else i)) H
theorem adM (q:Q (.int (if m<0 then -m else m)) H):afz [.int m] H Q:=⟨m,rfl,q⟩
section
variable {X:Cx} (K:cj)
theorem gU (h:X.K=K:=by rfl):IxR X (Zx K):=h▸YX
theorem MI (h:X.K=K:=by rfl):IxR X (OD K):=h▸adh
theorem TM (h:X.K=K:=by rfl):SlR X (adL K):=h▸ZO
theorem afl (h:X.K=K:=by rfl):jP X (.builtin "len") (adJ K):=h▸HE
theorem ahP (h:X.K=K:=by rfl):jP X (.builtin "isinstance") (adI K):=h▸Uc
theorem VG (hg:Gl X x) (hm:X.mg x=none) (hv:vG x=some (.type n)) (hn:x ≠ "__name__":=by decide) (hd:0#x=false:=by decide):PE X (.Name x pos) (tC (.ty n)):=
 Zp hg hm hv (show RelV (.ty n) (.type n) from rfl) hn hd
theorem zA:jP X (.builtin "abs") afz:=Ub
theorem piL {tg l:bA} {tl:TE} (hl:PE X l tl) (h:X.K=K:=by rfl):PI X tg l (Qf K tl):=h▸Zu hl
theorem piT (hl:PE X l tl) (h:X.K=K:=by rfl):PI X tg l (YT K tl):=h▸adH hl
theorem TH (hc:X.calm=true) (g:Z5 X es t)
 (hn:(oS es X.env).length=n:=by rfl) (hst:(oS es X.env).findIdx? (·.1)=none:=by rfl) (h:X.K=K:=by rfl):PG X (.Tuple es k pos) (R8 K n t):=h▸adG hc g hn hst
theorem acy {o e:bA} {to te:TE} {apos cpos:Pos} (ho:PE X o to) (he:PE X e te) (h:X.K=K:=by rfl)
 (hbase:uO o "append" X.env (eval o X.env)=eval o X.env:=by rfl)
 (hfew:((iU cpos (bG (e::[]) X.env)).all (λx=>!x.1)&&(uM cpos (uL [] X.env)).all (λx=>x.1.isSome)
   && decide ((e::([]:List bA)).length+([]:List pD).length+(if ([]:List pD).isEmpty then 0 else 1)<30))=true:=by rfl)
 (hline:0#M=true:=by rfl) (hs:bG (e::[]) X.env=0#D::bG [] X.env:=by rfl) (hplain:(iU cpos (bG [] X.env)).any (·.1)=false:=by rfl) :
 PE X (.Call (.Attribute o "append" apos) [e] [] cpos) (tBM K "list" Cq to (gW te rK)):=
 h▸VB Mf PySem.F.slot_list_append PySem.F.type_list_append GL ho (lI he wB hs) hbase hfew hline hs hplain
end
theorem jz (h:H p=none) (o:HO):ao H (upd H p o):=λb u q=>by rw [aK (bJ q h)];exact q
theorem aC (hl:xs.length≤1000) (h:∀p H1,ao H H1→H p=none→H1 p=some (mk xs)→Q (.ref p) H1):Nw mk xs H Q:=
 ⟨nA (aN hl),λp hp=>h p _ (jz hp _) hp av⟩
theorem r_g (h:R (σ.set i (some v)) H):jw i v σ H R:=h
theorem dg {K:cj} (h:H p=some (.lst xs)) (e:sI xs j=some v) (q:Q v H):Zx K (.ref p) (.int j) H Q:=⟨p,_,j,v,rfl,rfl,bq.of h,e,q⟩
theorem ah8 {K:cj} (h:te σ H λx H1=>Wx K T x H1∧ts σ H1 λxs H2=>r x xs H2 Q):tBM K T r te ts σ H Q:=h
theorem cM (h:H p=some (.lst xs)) (hl:xs.length<sizeLine) (q:Q .bK (upd H p (.lst (xs++[v])))):Cq (.ref p) [v] H Q:=⟨p,xs,v,rfl,rfl,h,hl,q⟩
theorem bf (s:ao H1 H2) (n:H1 p=none):ao H1 (upd H2 p o):=λb x e=>by rw [aK (bJ e n)];exact s b x e
theorem bM {xs:List Int} {j:Nat} (h:xs[j]?=some x) (hk:k=(j:Int)):sI (xs.map V.int) k=some (.int x):=by
 subst hk
 exact iG (by rw [kE,h];rfl)
theorem afX {R:V→V→Prop} (h:R x y):∃v w,[x,y]=[v,w]∧R v w:=⟨x,y,rfl,h⟩
theorem fq (h:wi σ H λJ H1=>∃W:Nat→Nat→L2.St→Hp→Prop,(∃m,W 0 m σ H1)∧∀i m σ H,W i m σ H →
 (J.stop i H∧D.nx σ H)∨(J.go i H∧∃N:L2.St→Hp→Prop,(∀σ' H',N σ' H'→∃m',m'<m∧W (i+1) m' σ' H')∧∀x H',J.WC i H x H'→g x σ H' λσ2 H2=>tb { D with nx:=N,ct:=N,bk:=D.nx } σ2 H2)):aed wi g tb D σ H:=h
theorem jb {K:cj} (h:te σ H λx H1=>∃a,x=.ref a∧(∃xs,bq K H1 a xs)∧R (Itl K a) H1):Qf K te σ H R:=h
theorem afL {K:cj} (h:xx K H x tv) (e:Rv K tv (.type ty)=some b) (q:Q (.bl b) H):adI K [x,.ty ty] H Q:=⟨x,ty,tv,b,rfl,h,e,q⟩
section
variable {prog:jA} {w:fN} {A:oO} {E:aJ→bC→Prop} {s:bC}
theorem Gv (hne:l≠it):∀(n i:Nat) (s:bC) (Q:List aJ→bC→Prop),s.heap.IsListIter it l i→s.heap.IsList l items→i+n≤items.size →
 (∀h',h'.IsListIter it l (i+n)→ET it s.heap h'→Q ((items.toList.drop i).take n) { s with heap:=h' })→cD 0#R A (draw (.ref it) n) Q E s
 | 0,i,s,Q,hit,_,_,hQ=>by
   show cD _ _ (pure []) Q E s
   exact oU (by simpa using hQ s.heap hit (ag7 ..))
 | n+1,i,s,Q,hit,ht,hle,hQ=>by
   have hlt:i<items.size:=by simp?
   show cD _ _ (pyNext (.ref it) >>= _) Q E s
   refine ie (aaC hit ht (x:=items[i]) (by simp [hlt]) λh₁ Nv hs₁=>?_)
   refine ie (Bt (Gv hne n (i+1) _ _ Nv (ht.extBut hs₁.extBut hne) 0#b λh₂ ac9 hs₂=>oU ?_))
   have hd:items.toList.drop i=items[i]::items.toList.drop (i+1):=by simp [List.drop_eq_getElem_cons,hlt]
   have:=hQ h₂ (by rw [show i+(n+1)=i+1+n by simp?];exact ac9) (hs₁.trans hs₂)
   rw [hd,WR] at this
   exact this
theorem AL (hh:A.handled=none) (ht:s.heap.IsList t items)
 (hQ:∀h',ab9 s.heap.objs.size s.heap h'→Q items.toList { s with heap:=h' }):cD 0#R A (unpackItems (.ref t) items.size none) Q E s:=by
 have hlt:t≠s.heap.objs.size:=by obtain ⟨o,ho,_⟩:=id ht;exact mP (gT ho)
 unfold unpackItems
 refine ie ?_
 ·unfold notIterableAtAll
  refine ie (wpAny_specialOf ht.typeIs PySem.slot_list_iter.lookup ?_)
  refine oU ?_
  simp only [aa0,if_false]
  refine ie (Bt (aa9 ht ?_))
  have hp:(s.heap.push { cls:=.type "list_iterator",data:=.fields #[.ref t,.int 0 0] }).IsList t items:=ht.extBut (b:=s.heap.objs.size) (λb o _ e=>pX _ e) hlt
  refine ie (Bt (Gv hlt items.size 0 _ _ ⟨_,Gd _ rfl,rfl,rfl⟩ hp 0#b λh₁ Nv hs₁=>?_))
  have hall:List.take items.size (List.drop 0 items.toList)=items.toList:=by
   rw [abz];exact Mh 0#d
  rw [hall]
  rw [if_neg 0#d]
  have ht₁:h₁.IsList t items:=hp.extBut hs₁.extBut hlt
  refine ie (Bt (aaJ hh Nv ht₁ 0#d λh₂ ae4=>?_))
  simp only [Option.isSome_none,aa0,if_false]
  refine oU (hQ h₂ λb o hb e=>ae4 b o hb (hs₁.extBut b o hb (pX _ e)))
theorem xA (hh:A.handled=none) (ht:s.heap.IsList t items)
 (hn:(oS elts env).length=items.size) (hstar:(oS elts env).findIdx? (·.1)=none)
 (h:∀h',ab9 s.heap.objs.size s.heap h'→cD 0#R A (assignInOrder ((oS elts env).map (·.2)) items.toList) Q E { s with heap:=h' }) :
 cD 0#R A (assign (.Tuple elts x1 pos) env (.ref t)) Q E s:=by
 rw [assign_Tuple]
 refine ie (Mx ?_)
 unfold unpack
 rw [hn,hstar]
 exact ie (Bt (AL hh ht h))
end
def Yx (K:cj) (n:Nat) (t:X5):TG:=λv σ H Q=>∃a xs,v=.ref a∧bq K H a xs∧xs.length=n∧t xs σ H Q
theorem adF (hc:X.calm=true) (h:Z5 X es t)
 (hn:(oS es X.env).length=n:=by rfl) (hst:(oS es X.env).findIdx? (·.1)=none:=by rfl):PG X (.Tuple es k pos) (Yx X.K n t):=by
 intro pins s σ H v u Q I r hw
 obtain ⟨a,xs,e1,hq,hl,hw⟩:=hw
 subst e1
 cases r
 obtain ⟨its,rv,ht,hz⟩:=I.list hq
 refine xA (I.ok.hd hc) ht.isList (by simp [hn,← hl,rv.length]) hst λh' hx=>?_
 have I1:Inv X pins σ H { s with heap:=h' }:=I.kept (t':=s.toks) λb o e=>hx b o (mP (gT e)) e
 exact h pins _ σ H xs _ Q I1 (by simpa using rv) hw
theorem pgL (K:cj)  (hc:X.calm=true) (g:Z5 X es t)
 (hn:(oS es X.env).length=n:=by rfl) (hst:(oS es X.env).findIdx? (·.1)=none:=by rfl) (h:X.K=K:=by rfl):PG X (.Tuple es k pos) (Yx K n t):=h▸adF hc g hn hst
theorem aar (q:Q (.bl (a==b)) H):rEq (.bl a) (.bl b) H Q:=⟨rfl,by
 have e:decide (V.bl a=V.bl b)=(a==b):=by cases a <;> cases b <;> rfl
 rw [e];exact q⟩
theorem S3 {K:cj} (h:H p=some (.lst [x,y,z])) (q:R (((σ.set i (some x)).set j (some y)).set k (some z)) H):Yx K 3 (rV (jw i) (rV (jw j) (rV (jw k) R1))) (.ref p) σ H R:=
 ⟨p,_,rfl,bq.of h,rfl,x,_,rfl,y,_,rfl,z,_,rfl,rfl,q⟩
def cZ (X:Cx) (N':List Str) (scope:qD) (cl:List (Str×aq)) (C:aq) (s0:bC) (H0:Hp) (ex':List aq) (kF:List (aq×Obj)):Cx:=
 { X with N:=N',s₀:=s0,H₀:=H0,env:=compEnvC scope cl C X.env,outer:=X.stack,ex:=ex',fn:=λ_=>false,pn:=kF,xe:=λ_ _=>False }
def oR (cap:List Nat) (σ:L2.St):L2.St:=cap.map λj=>(σ[j]?).getD none
theorem YS (x:yV P w H h) (n:H C=none) (k:∀b o,b≠C→h.get? b=some o→h'.get? b=some o):yV P w H h':=λb u e=>
 (x b u e).stay (λc v hc q=>k c v (by
   rcases hc with z | z
   ·rw [z];exact bJ e n
   ·exact bJ z n) q) (λ_ q=>q) λ_ _ q=>q
theorem HH {prog:jA} {w:fN} {A:oO} {R:Result→bC→Prop} {s:bC} {elt iter tg:bA} {ifs:List bA} {scope:qD} {pos:Pos} {it acc:aJ} {env:Env} (I:Nat→bC→Prop)
 (turn:∀n s,I n s→cD 0#R A (pyNext it) (λr s₁=>match r with
   | none=>R (.ok .next) s₁
   | some v=>cD 0#R A (letOwnedTupleGo tg it v) (λ_ s₁'=>cD 0#R A (assign tg env v) (λ_ s₂=>
    cD 0#R A (forIn ifs true λc r=>if r=true then do let ok ← isTrue c env (eval c env);pure (ForInStep.yield ok) else pure (ForInStep.yield r)) (λok s₃=>
     if ok=true then cD 0#R A (eval elt env) (λx s₄=>
      cD 0#R A (call (.builtin "list.append") [acc,x]) (λ_ s₅=>∃m,m<n∧I m s₅) (notedBy 0#R A env λe s'=>R (.error e) s') s₄) (notedBy 0#R A env λe s'=>R (.error e) s') s₃
     else ∃m,m<n∧I m s₃) (notedBy 0#R A env λe s'=>R (.error e) s') s₂) (notedBy 0#R A env λe s'=>R (.error e) s') s₁') (notedBy 0#R A env λe s'=>R (.error e) s') s₁) (notedBy 0#R A env λe s'=>R (.error e) s') s)
 (n:Nat) (h:I n s):By 0#R A (.compLoop 0#p 0 it acc env) R s:=by
 refine codeAny_loop rfl I (λn s hI=>?_) n h
 show cD _ A ((compTurn 0#p 0 it acc env).onRaise (λx=>do noteFrame x env;theTreesLotGoes x)) _ _ s
 refine wpAny_noted ?_
 rw [compTurn_list]
 refine ie (Mx (ie (qA (turn n s hI) (λr s₁ h₁=>?_) λ_ _ h'=>h')))
 cases r with
 | none=>exact oU h₁
 | some v=>
   refine ie (qA h₁ (λ_ s₂ h₂=>ie (qA h₂ (λ_ s₃ h₃=>ie (qA h₃ (λok s₄ h₄=>?_) λ_ _ h'=>h')) λ_ _ h'=>h')) λ_ _ h'=>h')
   cases ok with
   | false=>exact oU ⟨rfl,h₄⟩
   | true=>
     exact ie (ie (qA h₄ (λx s₄ h₄=>ie (qA h₄ (λ_ s₅ h₅=>oU (oU ⟨rfl,h₅⟩)) λ_ _ h'=>h')) λ_ _ h'=>h'))
def Z6 (X:Cx) (ifs:List bA) (t:TT):Prop:=
 ∀(pins:List (aq×Obj)) (s:bC) (σ:L2.St) (H:Hp) (Q:Bool→Hp→Prop),Inv X pins σ H s→t σ H Q →
  cD 0#l X.A (forIn ifs true λc r=>if r=true then do let ok ← isTrue c X.env (eval c X.env);pure (ForInStep.yield ok) else pure (ForInStep.yield r)) (TP X pins σ Q) X.xe s
def aek:TT:=λ_ H B=>B true H
theorem Jo {X:Cx}:Z6 X [] aek:=λ_ _ _ H _ I h=>wpAny_tests_nil ⟨H,I,h⟩
theorem Jp (h:PT X c t):Z6 X [c] t:=λpins s σ H Q I q=>wpAny_tests_one (h pins s σ H Q I q)
def xo (X:Cx) (scope:qD) (cl:List (Str×aq)):List Str→List Nat→Prop
 | [],[]=>True
 | y::ys,j::js=>(X.N[j]?=some y∧X.env.kindOf y=some .cell∧(relabel scope X.env).names.lookup y=some .cell∧cl.lookup y=X.env.cells.lookup y)∧xo X scope cl ys js
 | _,_=>False
theorem xo.len:∀{ys:List Str} {js:List Nat},xo X scope cl ys js→ys.length=js.length
 | [],[],_=>rfl
 | _::_,_::_,h=>congrArg (·+1) h.2.len
theorem xo.at:∀{ys:List Str} {js:List Nat},xo X scope cl ys js→∀(i j:Nat) (y:Str),ys[i]?=some y→js[i]?=some j →
 X.N[j]?=some y∧X.env.kindOf y=some .cell∧(relabel scope X.env).names.lookup y=some .cell∧cl.lookup y=X.env.cells.lookup y
 | [],[],_,i,_,_,e,_=>by simp at e
 | _::_,_::_,h,0,j,y,e1,e2=>by
   simp at e1 e2
   subst e1 e2
   exact h.1
 | _::_,_::_,h,i+1,j,y,e1,e2=>h.2.at i j y (by simpa using e1) (by simpa using e2)
def Bh (wi:TI) (n:Nat) (cap:List Nat) (g:TG) (tt:TT) (te:TE):TE:=λσ H Q=>wi σ H λJ H1=>∀D,H1 D=none→∃W:Nat→Nat→List V→Hp→Prop,(∃m,W 0 m [] (upd H1 D (.lst []))) ∧
 ∀i m xs H2,W i m xs H2→H2 D=some (.lst xs)∧((J.stop i H2∧Q (.ref D) H2)∨(J.go i H2∧xs.length<sizeLine∧∀x H3 lF,lF.length=n→J.WC i H2 x H3 →
  g x (lF++oR cap σ) H3 λσ2 H4=>(∃σ1,σ1.length=n∧σ2=σ1++oR cap σ)∧tt σ2 H4 λb H5=>if b=true then te σ2 H5 λy H6=>H6 D=some (.lst xs)∧∃m',m'<m∧W (i+1) m' (xs++[y]) (upd H6 D (.lst (xs++[y])))
    else ∃m',m'<m∧W (i+1) m' xs H5))
theorem Qg {σ:L2.St} (I:L2.Inv X pins σ H s) (hC:BD X pins H C) (sb:ET C s.heap h'):L2.Inv X pins σ H { s with heap:=h' }:=by
 have k:∀b o,s.heap.get? b=some o→b∉[C]→h'.get? b=some o:=λb o e hb=>(sb.2 b (λz=>hb (by rw [z];exact WW.mpr rfl))).trans e
 refine I.aaa (s':={ s with heap:=h' }) (ch:=[C]) rfl ⟨λb o e _ _ hb=>k b o e hb,λb o e _ _ hb=>⟨o.slots,k b o e hb⟩,λb o _ n _=>n,λb o e hb=>⟨o,k b o e hb⟩,λ_ _ q=>q,λ_ _ _ q=>q,λ_ ps q=>⟨#[],by simpa using q⟩⟩
  (YS I.hok hC.1 λb o hb e=>(sb.2 b hb).trans e) I.bare λb hb=>?_
 obtain rfl:b=C:=WW.mp hb
 exact ⟨hC.2.2.2.1,hC.2.1,hC.2.2.2.2.1,hC.2.2.2.2.2⟩
theorem Kx {σ:L2.St} (use:Option (aJ→Sem Unit)) (Q':aJ→bC→Prop) (hc:X.calm=true) (hi:PI X tg iter wi)
 (hg:∀(C:aq) (s0:bC) (H0:Hp) (ex':List aq) (kF:List (aq×Obj)),PG (cZ X (O++N') scope cl C s0 H0 ex' kF) tg g)
 (Sv:∀(C:aq) (s0:bC) (H0:Hp) (ex':List aq) (kF:List (aq×Obj)),Z6 (cZ X (O++N') scope cl C s0 H0 ex' kF) ifs tt)
 (helt:∀(C:aq) (s0:bC) (H0:Hp) (ex':List aq) (kF:List (aq×Obj)),PE (cZ X (O++N') scope cl C s0 H0 ex' kF) elt te)
 (hO:O.length=n) (hcap:xo X scope cl N' cap)
 (hclos:closureFor scope X.env=pure cl) (hcell:∀y∈scope.names,y.2≠.cell) (hkind:scope.kind=.function) (hnames:∀y∈scope.names,y.2=.local→scope.names.lookup y.1=some .local)
 (FD:∀y c,cl.lookup y=some c→X.env.cells.lookup y=some c) (hhas:∀y,((relabel scope X.env).names.lookup y=some .cell∨(relabel scope X.env).names.lookup y=some .free)→∃c,cl.lookup y=some c)
 (hs:∀z,yC iter X.env z=pure z)
 (I:L2.Inv X pins σ H s) (h:Bh wi n cap g tt te σ H Q)
 (fin:∀(D:aq) (H5:Hp) (s6:bC) (C:aq),L2.Inv X pins σ H5 s6→BD X pins H5 C→(∃m,s6.heap.Ns C m)→Q (.ref D) H5→compPost 0#l X.A X.xe use Q' (.ref D) C (.ok .next) s6) :
 cD 0#l X.A (comprehension 0#p scope X.env cpos (newList []) false (eval iter X.env) use) Q' X.xe s:=by
 refine wpAny_comprehension_free (use:=use) rfl hs hclos hkind hnames (iI (hi pins s σ H _ I h) λv s1 h1=>iI h1 λitv s2 h2=>?_)
 obtain ⟨it,fp,tn,J,H2,e,I2,T,st2,f2,q2⟩:=h2
 subst e
 refine aa8 (wpAny_newFunctionEnv hcell (by intro y hy;simp at hy) (λh₁ Ie Ig=>?_) hkind)
 dsimp only at Ie Ig ⊢
  -- the list, then the block's own names
 have I3:Inv X pins σ (upd H2 s2.heap.objs.size (.lst [])) { s2 with heap:=s2.heap.push { cls:=.type "list",data:=.seq ([]:List aJ).toArray },toks:=s2.toks }:=I2.adn (its:=[]) (t':=s2.toks) .nil (lX _)
 generalize hH3:s2.heap.push { cls:=.type "list",dict:=none,data:=.seq ([]:List aJ).toArray }=h3 at Ie Ig I3 ⊢
 have q3:=q2 s2.heap.objs.size (I2.hok.fresh (dS _))
 generalize hD:s2.heap.objs.size=D at I3 q3 Ie Ig ⊢
 obtain ⟨W,⟨m0,w0⟩,turn⟩:=q3
 have hC:∀b o,h3.get? b=some o→b≠h3.objs.size:=λb o e=>mP (gT e)
 have old:∀b o,h3.get? b=some o→h₁.get? b=some o:=λb o e=>Ig.extBut b o (hC b o e) (pX _ e)
 have P6:∀b∈fp,∃o,h3.get? b=some o:=λb hb=>by
  obtain ⟨o,e,_⟩:=T.obj _ _ st2 b hb
  exact ⟨o,by rw [← hH3];exact pX _ e⟩
 have fp3:∀b∈fp,upd H2 D (.lst []) b=none:=λb hb=>by
  have n:=(f2 b hb).1
  obtain ⟨o,e,_⟩:=T.obj _ _ st2 b hb
  rw [aK (by rw [← hD];exact mP (gT e))]
  exact n
 have stk:∀b∈fp,b∉frs X.stack:=λb hb z=>by
  rcases pZ.mp (I3.J2 b z) with e | e
  ·exact (f2 b hb).2.1 e
  ·exact (f2 b hb).2.2.1 e
 have ok:(cZ X (O++N') scope cl h3.objs.size { s2 with heap:=h3,toks:=s2.toks } (upd H2 D (.lst [])) fp (X.pn++pins)).Ok:=
  ⟨I.ok.mod,hkind,I.ok.glob,I.ok.blt,dS _,λy z c a b=>I.ok.inj y z c (FD y c a) (FD z c b),hhas,λ_ _ z=>absurd z fQ,I.ok.hd,I.ok.frames,.inl rfl,
   λb hb=>⟨by obtain ⟨o,e⟩:=P6 b hb;exact hC b o e,λy c a=>(f2 b hb).2.2.2.2.1 y c (FD y c a)⟩,I3.bs,dR I3.ok.Z9 I3.sz,
   λb o e hb=>by
    rcases (f2 b hb).2.2.2.1 with z | z
    ·exact I.ok.Vj b o e z
    ·exact absurd (rP (gT (I.ok.bs b o e).1) z) (EO _),
   stk,I3.stack,I3.QU⟩
 have I4:Inv 0#G [] (lW n none++oR cap σ) (upd H2 D (.lst [])) { s2 with heap:=h₁,toks:=s2.toks+([]:List (Str×aJ)).length }:=by
  refine ⟨ok,rfl,I3.bare,Un.kept old,⟨_,Ie,λi y v e1 e2 e3=>?_⟩,λy c a=>?_,I3.hok.fresh (dS _),λy c a=>I3.vq y c (FD y c a),λp hp=>?_,I3.hok.kept old,?_⟩
  ·by_cases hin:i<n
   ·rw [vn (by rw [G6];exact hin),WI,if_pos hin] at e2
    cases e2
   ·have e1':N'[i-n]?=some y:=by
     have z:(O++N')[i]?=some y:=e1
     rw [yR 0#b,hO] at z
     exact z
    have hi':i-n<cap.length:=by rw [← hcap.len];exact (nH.mp e1').1
    obtain ⟨j,ej⟩:∃j,cap[i-n]?=some j:=⟨_,jY hi'⟩
    obtain ⟨a1,a2,a3,a4⟩:=hcap.at (i-n) j y e1' ej
    have Ym:σ[j]?=some (some v):=by
     have z:(oR cap σ)[i-n]?=some (some v):=by
      rw [yR (by rw [G6];simp?),G6] at e2
      exact e2
     unfold oR at z
     rw [kE,ej] at z
     have z2:(σ[j]?).getD none=some v:=by simpa using z
     cases q:σ[j]? with
     | none=>rw [q] at z2;cases z2
     | some o=>rw [q] at z2;exact congrArg some z2
    obtain ⟨m,hn,hl⟩:=I3.loc
    obtain ⟨u,r,l⟩:=hl j y v a1 Ym (.inr (.inl a2))
    refine ⟨u,r,.inr ⟨.inl a3,?_⟩⟩
    rcases l with ⟨k,_⟩ | ⟨_,c,ec,o,ho,hd⟩
    ·rw [a2] at k;cases k
    ·exact ⟨c,a4.trans ec,o,old c o ho,hd⟩
  ·obtain ⟨v,o,ho,hd⟩:=I3.cell y c (FD y c a)
   exact ⟨v,o,old c o ho,hd⟩
  ·have GD:p∈X.pn++pins:=by simpa [cZ] using hp
   obtain ⟨e,n,ne,nf,d⟩:=I3.pin p GD
   refine ⟨old _ _ e,n,hC _ _ e,λz=>?_,d⟩
   rcases pZ.mp (I3.J2 p.1 z) with e | e
   ·exact ne e
   ·exact nf e
  ·show (lW n none++oR cap σ).length=(O++N').length
   unfold oR
   rw [fh,fh,G6,gI,hcap.len,hO]
 have loop:By 0#l X.A (.compLoop 0#p 0 (.ref it) (.ref D) (compEnvC scope cl h3.objs.size X.env))
  (compPost 0#l X.A X.xe use Q' (.ref D) h3.objs.size) { s2 with heap:=h₁,toks:=s2.toks+([]:List (Str×aJ)).length }:=by
  have fpk:∀{H':Hp},(∀b∈fp,H' b=none)→∀b∈fp,BD 0#G [] H' b:=λhn b hb=>by
   obtain ⟨o,e⟩:=P6 b hb
   refine ⟨hn b hb,hC b o e,stk b hb,.inl hb,λy c a=>(f2 b hb).2.2.2.2.1 y c (FD y c a),λp hp=>?_⟩
   have GD:p∈X.pn++pins:=by simpa [cZ] using hp
   exact (f2 b hb).2.2.2.2.2 p GD
  refine HH (λmm s'=>∃(i:Nat) (xs:List V) (H':Hp) (lF:L2.St),lF.length=n∧Inv 0#G [] (lF++oR cap σ) H' s'∧tn i s'.heap∧(∀b∈fp,H' b=none)∧W i mm xs H') ?_ m0
   ⟨0,[],_,lW n none,G6,I4,T.keep _ _ _ st2 λb hb o e=>old b o (by rw [← hH3];exact pX _ e),fp3,w0⟩
  rintro mm s5 ⟨i,xs,H5,lF,ahL,I5,st5,fr5,w5⟩
  obtain ⟨e5,tw⟩:=turn i mm xs H5 w5
  rcases tw with ⟨stop,qn⟩ | ⟨go,hz,step⟩
  ·refine iI (T.done 0#G rfl rfl rfl hc i [] s5 _ H5 _ I5 (fpk fr5) st5 stop) λr s6 ⟨hr,I6⟩=>?_
   subst hr
   obtain ⟨m,hn,_⟩:=id I6.loc
   have J6:L2.Inv X pins σ H5 s6:=I3.aaa (s':=s6) (ch:=fp) I6.os I6.base I6.hok I6.bare λb hb=>by
    obtain ⟨_,g1,_,g3,g4,g5⟩:=f2 b hb
    exact ⟨g3,g1,g4,g5⟩
   exact fin D H5 s6 _ J6 (I3.M5 (dS _) I6.free) ⟨m,hn⟩ qn
  ·refine iI (T.item 0#G rfl rfl rfl hc i [] s5 _ H5 _ I5 (fpk fr5) st5 go) λr s6 ⟨u,hr,h6⟩=>?_
   subst hr
   refine iI h6 λ_ s7 ⟨xv,H7,I7,r7,y7,st7,fr7⟩=>?_
   have I7':=I7.pinned (fpk fr7) (T.obj _ _ st7)
   refine qA (hg _ _ _ _ _ _ s7 _ H7 xv u _ I7' r7 (step xv H7 lF ahL y7)) (λ_ s8 ⟨σ2,H8,I8,⟨σ1,afi,e2⟩,q8⟩=>?_) λ_ _ z=>z.elim
   refine qA (Sv _ _ _ _ _ _ s8 σ2 H8 _ I8 q8) (λok s9 ⟨H9,I9,q9⟩=>?_) λ_ _ z=>z.elim
   subst e2
   have keep:∀{s':bC} {σ':L2.St} {H':Hp},Inv 0#G ([]++DN fp s7.heap) σ' H' s'→tn (i+1) s'.heap∧∀b∈fp,H' b=none:=λ{s' σ' H'} J=>
    ⟨T.keep _ _ _ st7 λb hb o e=>(J.pin (b,o) (E2 _ (E2 _ (qS hb e)))).1,λb hb=>by
     obtain ⟨o,e,d⟩:=T.obj _ _ st7 b hb
     exact (J.pin (b,o) (E2 _ (E2 _ (qS hb e)))).2.1⟩
   cases ok with
   | false=>
     rw [if_neg fQ] at q9 ⊢
     obtain ⟨m',hm,w9⟩:=q9
     exact ⟨m',hm,i+1,xs,H9,σ1,afi,I9.uH,(keep I9).1,(keep I9).2,w9⟩
   | true=>
     rw [if_pos rfl] at q9 ⊢
     refine qA (helt _ _ _ _ _ _ s9 _ H9 _ I9 q9) (λyv rf ⟨y,xg,I10,r10,Gw,m',hm,w10⟩=>?_) λ_ _ z=>z.elim
     refine qA (GL (X:=cZ X (O++N') scope cl h3.objs.size { s2 with heap:=h3,toks:=s2.toks } (upd H2 D (.lst [])) fp (X.pn++pins)) _ rf _ xg (.ref D) [y] (.ref D) [yv] (λ_ H'=>H'=upd xg D (.lst (xs++[y]))) I10 rfl (.cons r10 .nil) ⟨D,xs,y,rfl,rfl,Gw,hz,rfl⟩) (λ_ B4 ⟨_,Pw,I11,_,e11⟩=>?_) λ_ _ z=>z.elim
     subst e11
     exact ⟨m',hm,i+1,xs++[y],_,σ1,afi,I11.uH,(keep I11).1,(keep I11).2,w10⟩
 exact codeAny_compStart_list loop (T.self _ 0 _ _ _ (T.keep _ _ _ st2 λb hb o e=>old b o (by rw [← hH3];exact pX _ e)) loop)
theorem Ja {X:Cx} {elt iter tg:bA} {ifs:List bA} {pos:Pos} {scope:qD} {cl:List (Str×aq)} {wi:TI} {te:TE} {tt:TT} {g:TG} {O N':List Str} {cap:List Nat} {n:Nat} (hc:X.calm=true) (hi:PI X tg iter wi)
 (hg:∀(C:aq) (s0:bC) (H0:Hp) (ex':List aq) (kF:List (aq×Obj)),PG (cZ X (O++N') scope cl C s0 H0 ex' kF) tg g)
 (Sv:∀(C:aq) (s0:bC) (H0:Hp) (ex':List aq) (kF:List (aq×Obj)),Z6 (cZ X (O++N') scope cl C s0 H0 ex' kF) ifs tt)
 (helt:∀(C:aq) (s0:bC) (H0:Hp) (ex':List aq) (kF:List (aq×Obj)),PE (cZ X (O++N') scope cl C s0 H0 ex' kF) elt te)
 (hO:O.length=n) (hcap:xo X scope cl N' cap)
 (hclos:closureFor scope X.env=pure cl) (hcell:∀y∈scope.names,y.2≠.cell) (hkind:scope.kind=.function) (hnames:∀y∈scope.names,y.2=.local→scope.names.lookup y.1=some .local)
 (FD:∀y c,cl.lookup y=some c→X.env.cells.lookup y=some c) (hhas:∀y,((relabel scope X.env).names.lookup y=some .cell∨(relabel scope X.env).names.lookup y=some .free)→∃c,cl.lookup y=some c)
 (hs:∀z,yC iter X.env z=pure z:=by intro _;rfl) :
 PE X 0#p (Bh wi n cap g tt te):=by
 intro pins s σ H Q I h
 rw [eval_ListComp]
 exact Kx none (EP X pins σ Q) hc hi hg Sv helt hO hcap hclos hcell hkind hnames FD hhas hs I h λD H5 s6 C J fC ⟨m,hn⟩ q=>⟨m,hn,λh' sb=>⟨.ref D,H5,Qg J fC sb,rfl,q⟩⟩
theorem Jg (hN:X.N.Nodup) (hix:X.N[i]?=some x) (hx:Loc X.env.scope x) (hc:X.calm=true) (hi:PI X tg iter wi)
 (hg:∀(C:aq) (s0:bC) (H0:Hp) (ex':List aq) (kF:List (aq×Obj)),PG (cZ X (O++N') scope cl C s0 H0 ex' kF) tg g)
 (Sv:∀(C:aq) (s0:bC) (H0:Hp) (ex':List aq) (kF:List (aq×Obj)),Z6 (cZ X (O++N') scope cl C s0 H0 ex' kF) ifs tt)
 (helt:∀(C:aq) (s0:bC) (H0:Hp) (ex':List aq) (kF:List (aq×Obj)),PE (cZ X (O++N') scope cl C s0 H0 ex' kF) elt te)
 (hO:O.length=n) (hcap:xo X scope cl N' cap)
 (hclos:closureFor scope X.env=pure cl) (hcell:∀y∈scope.names,y.2≠.cell) (hkind:scope.kind=.function) (hnames:∀y∈scope.names,y.2=.local→scope.names.lookup y.1=some .local)
 (FD:∀y c,cl.lookup y=some c→X.env.cells.lookup y=some c) (hhas:∀y,((relabel scope X.env).names.lookup y=some .cell∨(relabel scope X.env).names.lookup y=some .free)→∃c,cl.lookup y=some c)
 (hsw:mS 0#p (some (.Name x pos')) spos.line X.env=pure true)
 (hs:∀z,yC iter X.env z=pure z:=by intro _;rfl) (hf:X.fn x=true∨X.env.scope.names.lookup x=some .local:=by first | exact .inl rfl | exact .inr rfl | assumption) :
 PS X (.Assign [.Name x pos'] 0#p spos) (Ga (Bh wi n cap g tt te) (jw i)):=by
 intro pins s σ H D I h
 rw [exec_Assign_Name_used _ _ _ _ hsw]
 refine ie (Mx (ie ?_))
 show cD _ _ (comprehension 0#p scope X.env _ (newList []) false (eval iter X.env) (some (assign (.Name x pos') X.env)) >>= λ_=>pure ()) _ _ s
 refine ie (Kx (some (assign (.Name x pos') X.env)) (λ_ s'=>cD _ _ (pure ()) _ _ s') hc hi hg Sv helt hO hcap hclos hcell hkind hnames FD hhas hs I h λDl H5 s6 C J fC ⟨m,hn⟩ q=>?_)
 refine aa6 (G3 J hN hix hx (show RelV (.ref Dl) (.ref Dl) from rfl) (λs7 I7 ⟨a,sb,ha⟩=>⟨m,hn.sameBut sb ?_,λh' sb'=>oU (oU ⟨_,H5,Qg I7 fC sb',q⟩)⟩) hf)
 rcases ha with rfl | e
 ·exact fC.2.1
 ·exact λz=>fC.2.2.2.2.1 x a e z.symm
structure Cn (mg:Str→Option aJ) (x:Str) (n:Int):Prop where
 ex:∃t,mg x=some (.int n t)
theorem GS (hg:Gl X x) (C:Cn X.mg x n) (hd:0#x=false:=by decide):PE X (.Name x pos) (tC (.int n)):=by
 obtain ⟨t,h⟩:=C.ex
 exact L2.QC hg h ⟨t,rfl⟩ hd
def QH:V→Hp→VK→Prop:=λx H Q=>∃i:Int,x=.int i∧Q (.int ((vo i:Nat):Int)) H
theorem Za:MtR X "int.bit_length" (λx vs H Q=>vs=[]∧QH x H Q):=by
 intro pins s σ H x vs v us Q I rx rv h
 obtain ⟨rfl,i,rfl,q⟩:=h
 cases rv
 obtain ⟨t,rfl⟩:=rx
 exact call_int_bit_length ⟨.int ((vo i:Nat):Int),H,I.tok _,⟨_,rfl⟩,q⟩
theorem xW (ho:PE X o to) (hbase:uO o "bit_length" X.env (eval o X.env)=eval o X.env:=by rfl) (hline:0#M=true:=by rfl) :
 PE X (.Call (.Attribute o "bit_length" apos) [] [] cpos) (ZT (λx H Q=>Wx X.K "int" x H∧([]:List V)=[]∧QH x H Q) to):=
 Of PySem.F.plainAttrs_int slot_int_bit_length type_int_bit_length Za ho hbase hline
theorem adO {K:cj} (q:Q (.int ((vo m:Nat):Int)) H):Wx K "int" (.int m) H∧([]:List V)=[]∧QH (.int m) H Q:=⟨rfl,rfl,m,rfl,q⟩
def afD:List V→Hp→VK→Prop:=λxs H Q=>∃i j:Int,xs=[.int i,.int j]∧Q (.int (if j>i then j else i)) H
def afE:List V→Hp→VK→Prop:=λxs H Q=>∃i j:Int,xs=[.int i,.int j]∧Q (.int (if j<i then j else i)) H
theorem Y7 (hc:X.calm=true):jP X (.builtin "max") afD:=RS hc
theorem ads (hc:X.calm=true):jP X (.builtin "min") afE:=RU hc
theorem afN (q:Q (.int (if n>m then n else m)) H):afD [.int m,.int n] H Q:=⟨m,n,rfl,q⟩
theorem afO (q:Q (.int (if n<m then n else m)) H):afE [.int m,.int n] H Q:=⟨m,n,rfl,q⟩
theorem aeB (K:cj) (h:X.K=K:=by rfl):rT X (pC .Add) (VM K):=h▸Zn
theorem VN {K:cj} (hp:H p=some (.tup (x::xs))) (hr:H r=some (.tup (y::ys))) (h:Nw .tup (x::xs++y::ys) H Q):VM K (.ref p) (.ref r) H Q:=
 ⟨p,r,_,_,rfl,rfl,tD.of hp,tD.of hr,by simp,by have:=h.1;rw [fh] at this;exact this,λe=>by simp at e,λ_=>h.2⟩
theorem GX (hp:H p=some (.lst xs)) (hr:H r=some (.lst ys)) (h:Nw .lst (xs++ys) H Q):afA (.ref p) (.ref r) H Q:=⟨p,r,_,_,rfl,rfl,hp,hr,by have:=h.1;rw [fh] at this;exact this,h.2⟩
theorem VR (hp:H p=some (.lst xs)) (h1:-(2 ^ 63)≤k) (h2:k<2 ^ 63) (h:Nw .lst (lW k.toNat xs).flatten H Q):afF (.ref p) (.int k) H Q:=
 ⟨p,k,xs,rfl,rfl,hp,h1,h2,by have:=h.1;rw [len_rep] at this;rw [abV];exact this,h.2⟩
theorem at3 {u:V}:sI (x::y::z::u::xs) 3=some u:=iG (j:=3) rfl
theorem aiq {K:cj} (h:H p=some (.tup (x::y::z::u::xs))) (q:Q u H):OD K (.ref p) (.int 3) H Q:=⟨p,_,3,u,rfl,rfl,tD.of h,at3,q⟩
theorem QK (h:te σ H λx H1=>g x σ H1 D.nx):Ga te g D σ H:=h
theorem adU (h:to σ H λo H1=>ti σ H1 λi H2=>ts o i v H2 λH3=>R σ H3):acX to ti ts v σ H R:=h
theorem ad1 (h:H p=some (.lst xs)) (e:Tz xs.length k=some j) (q:Q (upd H p (.lst (xs.set j v)))):aaq (.ref p) (.int k) v H Q:=⟨p,xs,k,j,rfl,rfl,h,e,q⟩
theorem Sn (c:((vo low:Nat):Int)>128) (h0:0≤low):340282366920938463463374607431768211456≤low:=by
 have h:¬vo low≤128:=by simp?
 have k:¬low.natAbs<2 ^ 128:=λq=>h (Ho.mpr q)
 have e:(2:Nat) ^ 128=340282366920938463463374607431768211456:=by decide
 simp?
theorem K4 (c:¬((vo low:Nat):Int)>128):low≤340282366920938463463374607431768211456:=by
 have h:vo low≤128:=by simp?
 have k:low.natAbs<2 ^ 128:=Ho.mp h
 have e:(2:Nat) ^ 128=340282366920938463463374607431768211456:=by decide
 simp?
theorem Nt (c:((vo y:Nat):Int)>256) (y0:0≤y) (yx:y≤x) :
 ∃t:Nat,((vo x:Nat):Int)-256=(t:Int)∧(2:Int) ^ (255+t)≤x∧x<(2:Int) ^ (256+t):=by
 have hb:vo y≤vo x:=intBits_le_of_natAbs 0#b (dS _)
 obtain ⟨t,ht⟩:∃t,vo x=256+t:=⟨vo x-256,by simp?⟩
 have h1:x.natAbs<2 ^ (256+t):=Ho.mp 0#b
 have h2:¬x.natAbs<2 ^ (255+t):=λq=>by have:=Ho.mpr q;simp?
 refine ⟨t,by simp?,?_,?_⟩
 ·have:(((2:Nat) ^ (255+t):Nat):Int)=(2:Int) ^ (255+t):=by simp
  rw [← this];simp?
 ·have:(((2:Nat) ^ (256+t):Nat):Int)=(2:Int) ^ (256+t):=by simp
  rw [← this];simp?
end My
namespace Jd
open PySem PySem.Spec PyProof.Rows L2 My
structure QE (X:Cx) (e:bA) (t:TE):Prop where
 h:PE X e t
structure QT (X:Cx) (e:bA) (t:TT):Prop where
 h:PT X e t
structure QW (X:Cx) (e:bA) (t:TT):Prop where
 h:PW X e t
structure QA (X:Cx) (es:List bA) (t:TA):Prop where
 h:PA X es t
structure QS (X:Cx) (st:aU) (t:TS):Prop where
 h:PS X st t
structure RL (X:Cx) (st:List aU) (t:TS):Prop where
 h:MH X st t
structure QG (X:Cx) (e:bA) (t:TG):Prop where
 h:PG X e t
structure QGs (X:Cx) (es:List bA) (t:X5):Prop where
 h:Z5 X es t
structure QI (X:Cx) (tg e:bA) (t:TI):Prop where
 h:PI X tg e t
structure QO (X:Cx) (e:Option bA) (t:TO):Prop where
 h:PO X e t
theorem go {X:Cx} {body:List aU} {D:Ends} {σ:L2.St} {H:Hp} (h:∃t,RL X body t∧t D σ H):∃t,MH X body t∧t D σ H:=let ⟨t,h,k⟩:=h;⟨t,h.h,k⟩
theorem cut (n:Nat) (Pv:L2.St→Hp→Prop) (tail:∃t,RL X (body.drop n) t∧∀σ H,Pv σ H→t D σ H)
 (main:∀u,RL X (body.drop n) u→(∀σ H,Pv σ H→u D σ H)→∃t,RL X body t∧t D σ H):∃t,RL X body t∧t D σ H:=
 let ⟨u,h1,h2⟩:=tail
 main u h1 h2
theorem pv {X:Cx} {pos:Pos} {x:Str} (i:Nat) (hN:X.N[i]?=some x:=by rfl) (hv:Vis X.env.scope x:=by first | exact Or.inl rfl | exact Or.inr (Or.inl rfl) | exact Or.inr (Or.inr rfl)) (hd:0#x=false:=by decide)
 (hcd:(x==("__classdict__":Str))=false:=by decide):QE X (.Name x pos) (ZU i):=⟨L2.pv i hN hv hd hcd⟩
theorem DG {X:Cx} {pos:Pos} {i j}:QE X (.Constant (.int i) j pos) (tC (.int i)):=⟨L2.DG⟩
theorem VA {X:Cx} {pos:Pos} {i j}:QE X (.Constant (.bool i) j pos) (tC (.bl i)):=⟨L2.VA⟩
theorem Oj {X:Cx} {pos:Pos} {j}:QE X (.Constant .none j pos) (tC .bK):=⟨L2.Oj⟩
theorem Om {X:Cx} {pos:Pos} {i j}:QE X (.Constant (.str i) j pos) (tC (.str i)):=⟨L2.Om⟩
theorem VG (hg:Gl X x) (hm:X.mg x=none) (hv:vG x=some (.type n)) (hn:x ≠ "__name__":=by decide) (hd:0#x=false:=by decide):QE X (.Name x pos) (tC (.ty n)):=⟨My.VG hg hm hv hn hd⟩
theorem VF {X:Cx} {a b:bA} {ta tb:TE} {pos:Pos} {op:Operator} {r:R2} (ho:rT X (pC op) r) (ha:QE X a ta) (hb:QE X b tb):QE X (.BinOp a op b pos) (Wt r ta tb):=⟨L2.VF ho ha.h hb.h⟩
theorem VH {X:Cx} {a:bA} {ta:TE} {pos:Pos} {op:UnaryOp} {r:V→Hp→VK→Prop} (ho:UnR X (unaryOp op) r) (ha:QE X a ta):QE X (.UnaryOp op a pos) (ZT r ta):=⟨L2.VH ho ha.h⟩
theorem Ol (ha:QE X a ta):QE X (.UnaryOp .Not a pos) (Ws ta):=⟨L2.Ol ha.h⟩
theorem I0 {X:Cx} {a b:bA} {ta tb:TE} {pos:Pos} {op:CmpOp} {r:R2} (ho:rT X (oV op) r) (ha:QE X a ta) (hb:QE X b tb) (hm:behindInMarks op b=false):QE X (.Compare a [op] [b] pos) (Wt r ta tb):=⟨L2.I0 ho ha.h hb.h hm⟩
theorem Jm {X:Cx} {a b:bA} {ta tb:TE} {pos:Pos} {op:CmpOp} {r:R2} (ho:rT X (oV op) r) (ha:QE X a ta) (hb:QE X b tb) (hm:behindInMarks op b=false):QT X (.Compare a [op] [b] pos) (LZ (Wt r ta tb)):=⟨L2.Jm ho ha.h hb.h hm⟩
theorem DR (ha:QT X a tA):QT X (.UnaryOp .Not a pos) (aeg tA):=⟨L2.DR ha.h⟩
theorem OA {X:Cx} {e:bA} {te:TE} (h:QE X e te) (he:∀whole,isTrue e X.env whole=(do let v ← whole;Bx e.pos;holding [v] (truthy v)):=by intro _;rfl):QT X e (tB te):=⟨L2.OA h.h he⟩
theorem BE {X:Cx} {e:bA} {tA:TT} (h:QW X e tA):QT X e tA:=⟨h.h.pt⟩
theorem lJ (ha:QT X a tA):QW X (.BoolOp .And [a] pos) tA:=⟨L2.lJ ha.h⟩
theorem Ag (ha:QT X a tA):QW X (.BoolOp .Or [a] pos) tA:=⟨L2.Ag ha.h⟩
theorem oq (ha:QT X a tA) (hb:QW X (.BoolOp .And (b::es) pos) tB'):QW X (.BoolOp .And (a::b::es) pos) (aeb tA tB'):=⟨L2.oq ha.h hb.h⟩
theorem GV (ha:QT X a tA) (hb:QW X (.BoolOp .Or (b::es) pos) tB'):QW X (.BoolOp .Or (a::b::es) pos) (tOr tA tB'):=⟨L2.GV ha.h hb.h⟩
theorem DH {X:Cx} {a:bA} {te:TE} {pos:Pos} {op} (h:QE X a te):QE X (.BoolOp op [a] pos) te:=⟨L2.DH h.h⟩
theorem z9 (ha:QE X a ta) (hb:QE X (.BoolOp .And (b::es) pos) tb):QE X (.BoolOp .And (a::b::es) pos) (Wl ta tb):=⟨L2.z9 ha.h hb.h⟩
theorem DF (hc:QT X c tA) (ha:QE X a ta) (hb:QE X b tb):QE X (.IfExp c a b pos) (tIf tA ta tb):=⟨L2.DF hc.h ha.h hb.h⟩
theorem wB {X:Cx}:QA X [] rK:=⟨L2.wB⟩
theorem lI {X:Cx} {e:bA} {es:List bA} {te:TE} {t:TA} (ha:QE X e te) (hr:QA X es t) (hs:bG (e::es) X.env=0#D::bG es X.env:=by rfl):QA X (e::es) (gW te t):=⟨L2.lI ha.h hr.h hs⟩
theorem Oo {X:Cx} {es:List bA} {t:TA} {pos:Pos} {k:Nat} (h:QA X es t):QE X (.Tuple es k pos) (aej t):=⟨L2.Oo h.h⟩
theorem Oi {X:Cx} {es:List bA} {t:TA} {pos:Pos} (h:QA X es t):QE X (.List es pos) (aef t):=⟨L2.Oi h.h⟩
theorem Je {X:Cx}:QO X none J3:=⟨L2.Je⟩
theorem Jf {X:Cx} {e:bA} {te:TE} (h:QE X e te):QO X (some e) (Wu te):=⟨L2.Jf h.h⟩
theorem DI {X:Cx} {e:bA} {te:TE} {pos p2:Pos} {r:V→Option Int→Option Int→Hp→VK→Prop} {lo hi:Option bA} {tl th:TO} (hr:SlR X r) (he:QE X e te) (hl:QO X lo tl) (hu:QO X hi th):QE X (.Subscript e (.Slice lo hi none p2) pos) (tSl r te tl th):=⟨L2.DI hr he.h hl.h hu.h⟩
theorem LI {X:Cx} {a b:bA} {ta tb:TE} {pos:Pos} {r:R2} (hr:IxR X r) (ha:QE X a ta) (hb:QE X b tb) (hs:Px b):QE X (.Subscript a b pos) (Wt r ta tb):=⟨L2.LI hr ha.h hb.h hs⟩
theorem xX {X:Cx} {e:bA} {es:List bA} {t:TA} {pos p:Pos} {x:Str} {id:String} {r:List V→Hp→VK→Prop} (hc:jP X (.builtin id) r) (hg:Gl X x) (hm:X.mg x=none) (hv:vG x=some (.builtin id)) (ha:QA X (e::es) t) (hn:x ≠ "__name__":=by decide) (hdb:0#x=false:=by decide)
 (he:bG (e::es) X.env=0#D::bG es X.env:=by rfl) (hpl:(iU pos (bG es X.env)).any (·.1)=false:=by rfl):QE X (.Call (.Name x p) (e::es) [] pos) (tCB r t):=⟨L2.xX hc hg hm hv ha.h hn hdb he hpl⟩
theorem kW {X:Cx} {e:bA} {es:List bA} {t:TA} {pos p:Pos} {x:Str} {T:String} {r:List V→Hp→VK→Prop} (hc:jP X (.type T) r) (hg:Gl X x) (hm:X.mg x=none) (hv:vG x=some (.type T)) (ha:QA X (e::es) t) (hn:x ≠ "__name__":=by decide) (hdb:0#x=false:=by decide)
 (he:bG (e::es) X.env=0#D::bG es X.env:=by rfl) (hpl:(iU pos (bG es X.env)).any (·.1)=false:=by rfl):QE X (.Call (.Name x p) (e::es) [] pos) (tCB r t):=⟨L2.kW hc hg hm hv ha.h hn hdb he hpl⟩
theorem GU {X:Cx} {e:bA} {es:List bA} {t:TA} {pos p:Pos} {x:Str} {k:Nat} {ps:List Str} {sp:Sp} (D:Dn X.prog X.w X.K X.mg X.base k x ps sp) (hr:jj k X.A) (hg:Gl X x) (ha:QA X (e::es) t) (hdb:0#x=false:=by decide)
 (he:bG (e::es) X.env=0#D::bG es X.env:=by rfl) (hpl:(iU pos (bG es X.env)).any (·.1)=false:=by rfl):QE X (.Call (.Name x p) (e::es) [] pos) (EG sp [] E0 t):=⟨My.GU D hr hg ha.h hdb he hpl⟩
theorem acy {X:Cx} {e o:bA} {te to:TE} {apos cpos:Pos} (K:cj) (ho:QE X o to) (he:QE X e te) (h:X.K=K:=by rfl)
 (hbase:uO o "append" X.env (eval o X.env)=eval o X.env:=by rfl)
 (hfew:((iU cpos (bG (e::[]) X.env)).all (λx=>!x.1)&&(uM cpos (uL [] X.env)).all (λx=>x.1.isSome)
   && decide ((e::([]:List bA)).length+([]:List pD).length+(if ([]:List pD).isEmpty then 0 else 1)<30))=true:=by rfl)
 (hline:0#M=true:=by rfl) (hs:bG (e::[]) X.env=0#D::bG [] X.env:=by rfl) (hplain:(iU cpos (bG [] X.env)).any (·.1)=false:=by rfl) :
 QE X (.Call (.Attribute o "append" apos) [e] [] cpos) (tBM K "list" Cq to (gW te rK)):=⟨My.acy K ho.h he.h h hbase hfew hline hs hplain⟩
theorem Jk {X:Cx}:RL X [] Wr:=⟨L2.Jk⟩
theorem DP {X:Cx} {st:aU} {rest:List aU} {s1 s2:TS} (h1:QS X st s1) (h2:RL X rest s2):RL X (st::rest) (EH s1 s2):=⟨L2.DP h1.h h2.h⟩
theorem Jl {X:Cx} {st:aU} {s1:TS} (h1:QS X st s1):RL X [st] s1:=⟨L2.Jl h1.h⟩
theorem qq {st:aU}:QS X st Wq:=⟨L2.qq⟩
theorem Oz {X:Cx} {e:bA} {te:TE} {pos:Pos} (he:QE X e te):QS X (.Return (some e) pos) (aei te):=⟨L2.Oz he.h⟩
theorem Jh {X:Cx} {e:bA} {te:TE} {pos:Pos} (he:QE X e te) (hs:mS e none pos.line X.env=pure false:=by rfl):QS X (.Expr e pos) (Wn te):=⟨L2.Jh he.h hs⟩
theorem Jj {X:Cx} {e:bA} {te:TE} {pos:Pos} {x:Str} {i:Nat} {pos':Pos} (hN:X.N.Nodup) (hi:X.N[i]?=some x) (hx:Loc X.env.scope x) (he:QE X e te) (hs:mS e (some (.Name x pos')) pos.line X.env=pure false:=by rfl) (hf:X.fn x=true∨X.env.scope.names.lookup x=some .local:=by first | exact .inl rfl | exact .inr rfl | assumption) :
 QS X (.Assign [.Name x pos'] e pos) (Ga te (jw i)):=⟨L2.Jj hN hi hx he.h hs hf⟩
theorem Af (he:QE X e te) (hg:QG X tg g) (hs:swapsWithSole [tg] e pos.line X.env=pure false:=by rfl) (hw:swappedStores [tg] e X.env=pure none:=by rfl)
 (h1:(oS [tg] X.env).map (·.2)=[assign tg X.env]:=by rfl):QS X (.Assign [tg] e pos) (Ga te g):=⟨L2.Af he.h hg.h hs hw h1⟩
theorem Ji (hc:X.calm=true) (hN:X.N.Nodup) (hi:X.N[i]?=some x) (hj:X.N[j]?=some y) (hij:i≠j)
 (hx:X.env.scope.names.lookup x=some .local) (hy:X.env.scope.names.lookup y=some .local) (ha:QA X [a,b] ta)
 (hw:swappedStores [.Tuple [.Name x px,.Name y py] kt pt] (.Tuple [a,b] k2 pt2) X.env=pure (some [x,y]))
 (hs:swapsWithSole [.Tuple [.Name x px,.Name y py] kt pt] (.Tuple [a,b] k2 pt2) pos.line X.env=pure false:=by rfl) :
 QS X (.Assign [.Tuple [.Name x px,.Name y py] kt pt] (.Tuple [a,b] k2 pt2) pos) (aeh i j ta):=⟨L2.Ji hc hN hi hj hij hx hy ha.h hw hs⟩
theorem VJ {X:Cx} {c:bA} {pos:Pos} {s1 s2:TS} {ss ss':List aU} {tc:TT} (hc:QT X c tc) (ha:RL X ss s1) (hb:RL X ss' s2):QS X (.If c ss ss' pos) (aee tc s1 s2):=⟨L2.VJ hc.h ha.h hb.h⟩
theorem lT (hp:RE 0#l X.A X.env X.xe) (hc:QT X c tc) (hb:RL X sts s1):QS X (.While c sts [] pos) (EI tc s1):=⟨L2.lT hp hc.h hb.h⟩
theorem Ox {X:Cx} {e:bA} {pos:Pos} {sts:List aU} {s1:TS} {tg:bA} {wi:TI} {g:TG} (hp:RE 0#l X.A X.env X.xe) (hc:X.calm=true) (hi:QI X tg e wi) (hg:QG X tg g) (hb:RL X sts s1)
 (hs:∀x,yC e X.env x=pure x:=by intro _;rfl):QS X (.For tg e sts [] pos) (aed wi g s1):=⟨L2.Ox hp hc hi.h hg.h hb.h hs⟩
theorem Jb {X:Cx} {pos:Pos} {x:Str} {i:Nat} (hN:X.N.Nodup) (hi:X.N[i]?=some x) (hx:Loc X.env.scope x) (hf:X.fn x=true∨X.env.scope.names.lookup x=some .local:=by first | exact .inl rfl | exact .inr rfl | assumption):QG X (.Name x pos) (jw i):=⟨L2.Jb hN hi hx hf⟩
theorem Jc {X:Cx}:QGs X [] R1:=⟨L2.Jc⟩
theorem DJ {X:Cx} {e:bA} {es:List bA} {g:TG} {u:X5} (h1:QG X e g) (h2:QGs X es u) (hs:(oS (e::es) X.env).map (·.2)=assign e X.env::(oS es X.env).map (·.2):=by rfl):QGs X (e::es) (rV g u):=⟨L2.DJ h1.h h2.h hs⟩
theorem TH (K:cj)  (hc:X.calm=true) (h2:QGs X es g) (hn:(oS es X.env).length=n:=by rfl) (hst:(oS es X.env).findIdx? (·.1)=none:=by rfl) (h:X.K=K:=by rfl):QG X (.Tuple es k pos) (R8 K n g):=⟨My.TH K hc h2.h hn hst h⟩
theorem pgL (K:cj)  (hc:X.calm=true) (h2:QGs X es g) (hn:(oS es X.env).length=n:=by rfl) (hst:(oS es X.env).findIdx? (·.1)=none:=by rfl) (h:X.K=K:=by rfl):QG X (.Tuple es k pos) (Yx K n g):=⟨My.pgL K hc h2.h hn hst h⟩
theorem piL {X:Cx} {e:bA} {te:TE} (K:cj) {tg:bA} (hl:QE X e te) (h:X.K=K:=by rfl):QI X tg e (Qf K te):=⟨My.piL K hl.h h⟩
theorem piT (K:cj)  (hl:QE X e te) (h:X.K=K:=by rfl):QI X tg e (YT K te):=⟨My.piT K hl.h h⟩
theorem Aa (hg:Gl X "range") (hm:X.mg "range"=none) (ha:QA X [a] t) (hs:bG [a] X.env=[(false,eval a X.env)]:=by rfl):QI X tg (.Call (.Name "range" p) [a] [] pos) (UW t):=⟨L2.Aa hg hm ha.h hs⟩
theorem GS (hg:Gl X x) (C:Cn X.mg x n) (hd:0#x=false:=by decide):QE X (.Name x pos) (tC (.int n)):=⟨My.GS hg C hd⟩
theorem xW (ho:QE X o to) (hbase:uO o "bit_length" X.env (eval o X.env)=eval o X.env:=by rfl) (hline:0#M=true:=by rfl) :
 QE X (.Call (.Attribute o "bit_length" apos) [] [] cpos) (ZT (λx H Q=>Wx X.K "int" x H∧([]:List V)=[]∧QH x H Q) to):=⟨My.xW ho.h hbase hline⟩
theorem Ot (ho:QE X o to) (hi:QE X i ti) (hs:acu X ts)
 (ha:∀v,assign (.Subscript o i pos) X.env v=(holding [v] (eval o X.env) >>= λov=>holding [v,ov] (eval i X.env) >>= λiv=>Bx pos >>= λ_=>holding [v,ov,iv] (setItem ov iv v) >>= λ_=>release [v,ov,iv] []):=by intro _;rfl) :
 QG X (.Subscript o i pos) (acX to ti ts):=⟨L2.Ot ho.h hi.h hs ha⟩
theorem DQ (ho:rT X (oV op) r) (ho':rT X (oV op') r') (ha:QE X a ta) (hb:QE X b tb) (hc:QE X c tc)
 (hm:lastMarks [op,op'] [b,c]=false:=by with_unfolding_all rfl):QT X (.Compare a [op,op'] [b,c] pos) (LZ (Pd r r' ta tb tc)):=⟨L2.DQ ho ho' ha.h hb.h hc.h hm⟩
end Jd
namespace My
open PySem PySem.Spec PyProof.Rows L2 Mth
def iO (cells:List (Str×aq)):List (Str×yP)→List (Str×aq)→List (Str×aq)
 | [],cs=>cs
 | (y,k)::r,cs=>iO cells r (if k=.free then ((cells.lookup y).map λc=>(y,c)).toList++cs else cs)
def i6 (cells:List (Str×aq)) (names:List (Str×yP)):Bool:=names.all λp=>!(p.2==NameKind.free)||(cells.lookup p.1).isSome
theorem vW {env:Env}:∀(names:List (Str×yP)) (cs:List (Str×aq)),i6 env.cells names=true →
 (forIn (m:=Sem) names cs λx r=>match x with | (name,kind)=>if (kind==NameKind.free)=true then do let a ← cellOf env name;pure (ForInStep.yield ((name,a)::r)) else pure (ForInStep.yield r))=pure (iO env.cells names cs)
 | [],cs,_=>rfl
 | (y,k)::r,cs,h=>by
   have h2:i6 env.cells r=true:=by
    unfold i6 at h ⊢
    rw [Rx,yG] at h
    exact h.2
   rw [List.forIn_cons]
   by_cases hk:k=.free
   ·subst hk
    have h1:(env.cells.lookup y).isSome=true:=by
     unfold i6 at h
     rw [Rx,yG] at h
     simpa using h.1
    obtain ⟨c,hc⟩:=QZ.mp h1
    have ih:=vW r ((y,c)::cs) h2
    have e:cellOf env y=pure c:=by unfold cellOf;rw [hc]
    show (((if (NameKind.free==NameKind.free)=true then do let a ← cellOf env y;pure (ForInStep.yield ((y,a)::cs)) else pure (ForInStep.yield cs)):Sem _) >>= _)=_
    rw [if_pos (by rfl),e,pure_bind,pure_bind]
    show forIn (m:=Sem) r ((y,c)::cs) _=_
    rw [ih]
    show _=pure (iO env.cells r (if NameKind.free=.free then ((env.cells.lookup y).map λc=>(y,c)).toList++cs else cs))
    rw [if_pos rfl,hc]
    rfl
   ·have ih:=vW r cs h2
    have hk':(k==NameKind.free)=false:=by simpa using hk
    show (((if (k==NameKind.free)=true then do let a ← cellOf env y;pure (ForInStep.yield ((y,a)::cs)) else pure (ForInStep.yield cs)):Sem _) >>= _)=_
    rw [hk',if_neg fQ,pure_bind]
    show forIn (m:=Sem) r cs _=_
    rw [ih]
    show _=pure (iO env.cells r (if k=.free then _ else cs))
    rw [if_neg hk]
theorem CQ (h:i6 env.cells scope.names=true):closureFor scope env=pure (iO env.cells scope.names []):=by
 have e:=vW (env:=env) scope.names [] h
 show (forIn (m:=Sem) scope.names [] _ >>= λcs=>pure cs)=_
 exact (congrArg (· >>= λcs=>pure cs) e).trans (pure_bind _ _)
theorem Gs:∀(names:List (Str×yP)) (cs:List (Str×aq)) (p:Str×aq),p∈iO cells names cs→p∈cs∨cells.lookup p.1=some p.2
 | [],_,_,h=>.inl h
 | (y,k)::r,cs,p,h=>by
   rcases Gs r _ p h with q | q
   ·by_cases hk:k=.free
    ·rw [if_pos hk] at q
     rcases fK.mp q with z | z
     ·cases e:cells.lookup y with
      | none=>rw [e] at z;simp at z
      | some c=>rw [e] at z;simp at z;subst z;exact .inr e
     ·exact .inl z
    ·rw [if_neg hk] at q
     exact .inl q
   ·exact .inr q
theorem Gq:∀(names:List (Str×yP)) (cs:List (Str×aq)) (y:Str) (c:aq),((y,NameKind.free)∈names∧cells.lookup y=some c)∨(y,c)∈cs→(y,c)∈iO cells names cs
 | [],_,_,_,h=>h.elim (λz=>by simp at z) id
 | (z,k)::r,cs,y,c,h=>by
   refine Gq r _ y c ?_
   rcases h with ⟨m,e⟩ | m
   ·rcases pZ.mp m with q | q
    ·cases q
     right
     rw [if_pos rfl,e]
     simp
    ·exact .inl ⟨q,e⟩
   ·right
    by_cases hk:k=.free
    ·rw [if_pos hk];exact E2 _ m
    ·rw [if_neg hk];exact m
theorem uV {α:Type}:∀{l:List (Str×α)} {x:Str} {v:α},l.lookup x=some v→(x,v)∈l
 | (y,u)::r,x,v,h=>by
   rw [W3] at h
   cases e:x==y with
   | true=>
     rw [e] at h
     cases h
     have:x=y:=by simpa using e
     subst this
     exact Ge
   | false=>
     rw [e] at h
     exact B9 _ (uV h)
theorem GK {α:Type}:∀{l:List (Str×α)} {x:Str} {v:α},(x,v)∈l→∃u,l.lookup x=some u
 | (y,u)::r,x,v,h=>by
   rw [W3]
   cases e:x==y with
   | true=>exact ⟨_,rfl⟩
   | false=>
     rcases pZ.mp h with q | q
     ·cases q;simp at e
     ·exact GK q
theorem vV (h:(iO cells names []).lookup y=some c):cells.lookup y=some c:=
 (Gs names [] (y,c) (uV h)).elim (λz=>by simp at z) id
theorem CP (h:(y,NameKind.free)∈names) (e:cells.lookup y=some c):(iO cells names []).lookup y=some c:=by
 obtain ⟨u,q⟩:=GK (Gq names [] y c (.inl ⟨h,e⟩))
 rw [q]
 rw [vV q] at e
 exact e
def Kh (X:Cx) (scope:qD):List Str→List Nat→Prop
 | [],[]=>True
 | y::ys,j::js=>(X.N[j]?=some y∧X.env.kindOf y=some .cell∧scope.names.lookup y=some .free∧(relabel scope X.env).names.lookup y=some .cell)∧Kh X scope ys js
 | _,_=>False
theorem Gx (h:i6 cells names=true) (m:(y,NameKind.free)∈names):∃c,cells.lookup y=some c:=by
 unfold i6 at h
 have q:=abm.mp h _ m
 exact QZ.mp (by simpa using q)
theorem Kh.ok (h:i6 X.env.cells scope.names=true):∀{ys:List Str} {js:List Nat},Kh X scope ys js→xo X scope (iO X.env.cells scope.names []) ys js
 | [],[],_=>trivial
 | y::ys,j::js,⟨⟨a,b,c,d⟩,r⟩=>by
   have m:=uV c
   obtain ⟨e,he⟩:=Gx h m
   exact ⟨⟨a,b,d,by rw [CP m he,he]⟩,Kh.ok h r⟩
theorem Be (h:i6 env.cells scope.names=true) (hcell:∀y∈scope.names,y.2≠.cell) (y:Str)
 (q:(relabel scope env).names.lookup y=some .cell∨(relabel scope env).names.lookup y=some .free):∃c,(iO env.cells scope.names []).lookup y=some c:=by
 have m:(y,NameKind.free)∈scope.names:=by
  rcases q with q | q
  all_goals
   have m:=uV q
   unfold relabel at m
   obtain ⟨⟨n,k⟩,hm,e⟩:=jB.mp m
   dsimp only at e
   split at e
   ·rename_i hc
    rw [yG,yG] at hc
    have hk:k=.free:=by simpa using hc.1.1
    subst hk
    cases e
    first | exact hm | done
   ·cases e
    first | exact hm | exact absurd rfl (hcell _ hm)
 obtain ⟨c,hc⟩:=Gx h m
 exact ⟨c,CP m hc⟩
theorem VC (hc:X.calm=true) (hi:PI X tg iter wi)
 (hg:∀(C:aq) (s0:bC) (H0:Hp) (ex':List aq) (kF:List (aq×Obj)),PG 0#m tg g)
 (Sv:∀(C:aq) (s0:bC) (H0:Hp) (ex':List aq) (kF:List (aq×Obj)),Z6 0#m ifs tt)
 (helt:∀(C:aq) (s0:bC) (H0:Hp) (ex':List aq) (kF:List (aq×Obj)),PE 0#m elt te)
 (hO:O.length=n) (hcap:Kh X scope N' cap) (hf:i6 X.env.cells scope.names=true) (hcell:∀y∈scope.names,y.2≠.cell) (hkind:scope.kind=.function) (hnames:∀y∈scope.names,y.2=.local→scope.names.lookup y.1=some .local)
 (hs:∀z,yC iter X.env z=pure z:=by intro _;rfl) :
 PE X 0#p (Bh wi n cap g tt te):=
 Ja hc hi hg Sv helt hO (hcap.ok hf) (CQ hf) hcell hkind hnames (λ_ _=>vV) (Be hf hcell) hs
theorem VI (hN:X.N.Nodup) (hix:X.N[i]?=some x) (hx:Loc X.env.scope x) (hc:X.calm=true) (hi:PI X tg iter wi)
 (hg:∀(C:aq) (s0:bC) (H0:Hp) (ex':List aq) (kF:List (aq×Obj)),PG 0#m tg g)
 (Sv:∀(C:aq) (s0:bC) (H0:Hp) (ex':List aq) (kF:List (aq×Obj)),Z6 0#m ifs tt)
 (helt:∀(C:aq) (s0:bC) (H0:Hp) (ex':List aq) (kF:List (aq×Obj)),PE 0#m elt te)
 (hO:O.length=n) (hcap:Kh X scope N' cap) (hf:i6 X.env.cells scope.names=true) (hcell:∀y∈scope.names,y.2≠.cell) (hkind:scope.kind=.function) (hnames:∀y∈scope.names,y.2=.local→scope.names.lookup y.1=some .local)
 (hsw:mS 0#p (some (.Name x pos')) spos.line X.env=pure true)
 (hs:∀z,yC iter X.env z=pure z:=by intro _;rfl) (hfn:X.fn x=true∨X.env.scope.names.lookup x=some .local:=by first | exact .inl rfl | exact .inr rfl | assumption) :
 PS X (.Assign [.Name x pos'] 0#p spos) (Ga (Bh wi n cap g tt te) (jw i)):=
 Jg hN hix hx hc hi hg Sv helt hO (hcap.ok hf) (CQ hf) hcell hkind hnames (λ_ _=>vV) (Be hf hcell) hsw hs hfn
def rm (D:aq) (H:Hp):Hp:=λb=>if b=D then none else H b
theorem ou (h:b≠D):rm D H b=H b:=if_neg h
theorem jG:ao (rm D H) H:=λb o e=>by
 unfold rm at e
 by_cases h:b=D
 ·rw [if_pos h] at e;cases e
 ·rw [if_neg h] at e;exact e
theorem yd (s:ao H H'):ao (rm D H) (rm D H'):=λb o e=>by
 unfold rm at e ⊢
 by_cases h:b=D
 ·rw [if_pos h] at e;cases e
 ·rw [if_neg h] at e ⊢;exact s b o e
theorem Ah:rm D (upd H D o)=rm D H:=by
 funext b
 unfold rm
 by_cases h:b=D
 ·rw [if_pos h,if_pos h]
 ·rw [if_neg h,if_neg h,aK h]
theorem gA (hD:H D=some (.lst ys)) (h:H p=some 0#o):rm D H p=some 0#o:=by
 rw [ou (λe=>by rw [e,hD] at h;cases h)];exact h
theorem vC (D:aq) (H:Hp) (o:HO):ao (rm D H) (upd H D o):=λb u e=>by
 unfold rm at e
 by_cases h:b=D
 ·rw [if_pos h] at e;cases e
 ·rw [if_neg h] at e;rw [aK h];exact e
theorem uU (h:n=m+1):Tz n (-1)=some m:=by
 subst h
 unfold Tz
 rw [if_neg 0#b,if_pos 0#b]
 congr 1
 simp?
theorem UZ {n:Nat} (h0:0≤i) (h:i<(n:Int)):Tz n i=some i.toNat:=by
 unfold Tz
 rw [if_pos h0,if_pos h]
structure Tells (J:It) (ok:Hp→Prop) (xs:List V):Prop where
 go:∀i H,ok H→i<xs.length→J.go i H∧∀x H',J.WC i H x H'→H'=H∧xs[i]?=some x
 stop:∀H,ok H→J.stop xs.length H
theorem cC {K:cj}:Tells (Itl K a) (λH=>bq K H a xs) xs:=
 ⟨λi H h hi=>⟨⟨xs,xs[i],h,by simp [hi]⟩,λx H' y=>⟨y.1,y.2 xs h⟩⟩,λH h=>⟨xs,h,dS _⟩⟩
theorem Tg {K:cj}:Tells (Itt K a) (λH=>tD K H a xs) xs:=
 ⟨λi H h hi=>⟨⟨xs,xs[i],h,by simp [hi]⟩,λx H' y=>⟨y.1,y.2 xs h⟩⟩,λH h=>⟨xs,h,dS _⟩⟩
theorem Tf {lo:Int}:Tells (XC lo n) (λ_=>True) ((gD n).map λ(i:Nat)=>V.int (lo+(i:Int))):=
 ⟨λi H h hi=>⟨show i<n by simpa using hi,λx H' y=>⟨y.1,by
  have hi':i<n:=by simpa using hi
  rw [kE,E3 hi']
  exact congrArg some y.2.symm⟩⟩,λH h=>by show n≤_;simp⟩
def Pp (n:Nat) (cap:List Nat) (g:TG) (tt:TT) (te:TE) (σ:L2.St) (Q:VK) (J:It) (H1:Hp):Prop:=∀D,H1 D=none→∃W:Nat→Nat→List V→Hp→Prop,(∃m,W 0 m [] (upd H1 D (.lst []))) ∧
 ∀i m xs H2,W i m xs H2→H2 D=some (.lst xs)∧((J.stop i H2∧Q (.ref D) H2)∨(J.go i H2∧xs.length<sizeLine∧∀x H3 lF,lF.length=n→J.WC i H2 x H3 →
  g x (lF++oR cap σ) H3 λσ2 H4=>(∃σ1,σ1.length=n∧σ2=σ1++oR cap σ)∧tt σ2 H4 λb H5=>if b=true then te σ2 H5 λy H6=>H6 D=some (.lst xs)∧∃m',m'<m∧W (i+1) m' (xs++[y]) (upd H6 D (.lst (xs++[y])))
    else ∃m',m'<m∧W (i+1) m' xs H5))
theorem adQ (h:wi σ H λJ H1=>Pp n cap g tt te σ Q J H1):Bh wi n cap g tt te σ H Q:=h
theorem tV (h:ta σ H λvs H1=>∃j:Int,vs=[.int j]∧-(2 ^ 62)≤j∧j<2 ^ 62∧R (XC 0 j.toNat) H1):UW ta σ H R:=h
theorem afZ (h:B true H):aek σ H B:=h
theorem c9 (T:Tells J ok xs) (hok:∀H2,ao H H2→ok H2) (hl:xs.length≤1000000) (P:Nat→List V→Hp→Prop) (h0:P 0 [] H)
 (step:∀(D:aq) (i:Nat) (x:V) (ys:List V) (H2:Hp) (lF:L2.St) (N:VK) (N0:Hp→Prop),lF.length=n→H D=none→H2 D=some (.lst ys)→ao H H2→xs[i]?=some x→ys.length≤i→P i ys (rm D H2) →
   (∀y H6,ao H2 H6→P (i+1) (ys++[y]) (rm D H6)→N y H6)→(∀H5,ao H2 H5→P (i+1) ys (rm D H5)→N0 H5) →
   g x (lF++oR cap σ) H2 λσ2 H4=>(∃σ1,σ1.length=n∧σ2=σ1++oR cap σ)∧tt σ2 H4 λb H5=>if b=true then te σ2 H5 N else N0 H5)
 (done:∀(D:aq) (ys:List V) (H2:Hp),H D=none→H2 D=some (.lst ys)→ao H H2→ys.length≤xs.length→P xs.length ys (rm D H2)→Q (.ref D) H2):Pp n cap g tt te σ Q J H:=by
 intro D hD
 refine ⟨λi m ys H2=>H2 D=some (.lst ys)∧ao H H2∧ys.length≤i∧i≤xs.length∧m=xs.length-i∧P i ys (rm D H2),⟨xs.length,av,bf 0#t hD,lX _,lX _,rfl,?_⟩,?_⟩
 ·rw [Ah]
  have e:rm D H=H:=by
   funext b
   by_cases h:b=D
   ·rw [h,hD];exact if_pos rfl
   ·exact ou h
  rw [e];exact h0
 ·rintro i m ys H2 ⟨e,s,hy,hi,rfl,p⟩
  refine ⟨e,?_⟩
  by_cases hlt:i<xs.length
  ·obtain ⟨go,WC⟩:=T.go i H2 (hok H2 s) hlt
   refine .inr ⟨go,Gf (dR (dR hy hi) hl) 0#f,λx H3 lF h0 y=>?_⟩
   obtain ⟨rfl,hx⟩:=WC x H3 y
   refine step D i x ys _ lF _ _ h0 hD e s hx hy p (λy H6 s6 p6=>?_) λH5 s5 p5=>?_
   ·refine ⟨s6 _ _ e,xs.length-(i+1),by simp?,av,bf (s.trans s6) hD,?_,by simp?,rfl,?_⟩
    ·rw [fh,Kd];simp?
    ·rw [Ah];exact p6
   ·exact ⟨xs.length-(i+1),by simp?,s5 _ _ e,s.trans s5,by simp?,by simp?,rfl,p5⟩
  ·have ei:i=xs.length:=by simp?
   subst ei
   exact .inl ⟨T.stop H2 (hok H2 s),done D ys H2 hD e s hy p⟩
theorem ic {R:L2.St→Hp→Prop} (h0:lF.length=1) (h:R (some x::oR cap σ) H):jw 0 x (lF++oR cap σ) H λσ2 H4=>(∃σ1,σ1.length=1∧σ2=σ1++oR cap σ)∧R σ2 H4:=by
 match lF,h0 with
 | [v],_=>exact ⟨⟨[some x],rfl,rfl⟩,h⟩
theorem DS {K:cj} {R:L2.St→Hp→Prop} (h0:lF.length=2) (hp:H p=some (.tup [x,y])) (h:R (some x::some y::oR cap σ) H) :
 R8 K 2 (rV (jw 0) (rV (jw 1) R1)) (.ref p) (lF++oR cap σ) H λσ2 H4=>(∃σ1,σ1.length=2∧σ2=σ1++oR cap σ)∧R σ2 H4:=by
 match lF,h0 with
 | [v,u],_=>exact ⟨p,_,rfl,tD.of hp,rfl,x,_,rfl,y,_,rfl,rfl,⟨[some x,some y],rfl,rfl⟩,h⟩
end My
namespace Jd
open PySem PySem.Spec PyProof.Rows L2 My
structure QTs (X:Cx) (ifs:List bA) (t:TT):Prop where
 h:Z6 X ifs t
theorem Jo {X:Cx}:QTs X [] aek:=⟨My.Jo⟩
theorem Jp (h:QT X c tt):QTs X [c] tt:=⟨My.Jp h.h⟩
theorem Ja {X:Cx} {elt iter tg:bA} {ifs:List bA} {pos:Pos} {scope:qD} {wi:TI} {te:TE} {tt:TT} {g:TG} {O N':List Str} {cap:List Nat} {n:Nat} (hc:X.calm=true) (hi:QI X tg iter wi)
 (hg:∀(C:aq) (s0:bC) (H0:Hp) (ex':List aq) (kF:List (aq×Obj)),QG 0#m tg g)
 (Sv:∀(C:aq) (s0:bC) (H0:Hp) (ex':List aq) (kF:List (aq×Obj)),QTs 0#m ifs tt)
 (helt:∀(C:aq) (s0:bC) (H0:Hp) (ex':List aq) (kF:List (aq×Obj)),QE 0#m elt te)
 (hO:O.length=n) (hcap:Kh X scope N' cap) (hf:i6 X.env.cells scope.names=true) (hcell:∀y∈scope.names,y.2≠.cell) (hkind:scope.kind=.function) (hnames:∀y∈scope.names,y.2=.local→scope.names.lookup y.1=some .local)
 (hs:∀z,yC iter X.env z=pure z:=by intro _;rfl) :
 QE X 0#p (Bh wi n cap g tt te):=
 ⟨My.VC hc hi.h (λC s0 H0 ex' kF=>(hg C s0 H0 ex' kF).h) (λC s0 H0 ex' kF=>(Sv C s0 H0 ex' kF).h) (λC s0 H0 ex' kF=>(helt C s0 H0 ex' kF).h) hO hcap hf hcell hkind hnames hs⟩
theorem Jg (hN:X.N.Nodup) (hix:X.N[i]?=some x) (hx:Loc X.env.scope x) (hc:X.calm=true) (hi:QI X tg iter wi)
 (hg:∀(C:aq) (s0:bC) (H0:Hp) (ex':List aq) (kF:List (aq×Obj)),QG 0#m tg g)
 (Sv:∀(C:aq) (s0:bC) (H0:Hp) (ex':List aq) (kF:List (aq×Obj)),QTs 0#m ifs tt)
 (helt:∀(C:aq) (s0:bC) (H0:Hp) (ex':List aq) (kF:List (aq×Obj)),QE 0#m elt te)
 (hO:O.length=n) (hcap:Kh X scope N' cap) (hf:i6 X.env.cells scope.names=true) (hcell:∀y∈scope.names,y.2≠.cell) (hkind:scope.kind=.function) (hnames:∀y∈scope.names,y.2=.local→scope.names.lookup y.1=some .local)
 (hsw:mS 0#p (some (.Name x pos')) spos.line X.env=pure true)
 (hs:∀z,yC iter X.env z=pure z:=by intro _;rfl) (hfn:X.fn x=true∨X.env.scope.names.lookup x=some .local:=by first | exact .inl rfl | exact .inr rfl | assumption) :
 QS X (.Assign [.Name x pos'] 0#p spos) (Ga (Bh wi n cap g tt te) (jw i)):=
 ⟨My.VI hN hix hx hc hi.h (λC s0 H0 ex' kF=>(hg C s0 H0 ex' kF).h) (λC s0 H0 ex' kF=>(Sv C s0 H0 ex' kF).h) (λC s0 H0 ex' kF=>(helt C s0 H0 ex' kF).h) hO hcap hf hcell hkind hnames hsw hs hfn⟩
end Jd
namespace My
open PySem PySem.Spec PyProof.Rows L2 Mth
def Qz (K:cj) (C fI:aq):Bool:=match K.lookup C with
 | some ⟨.type "type",_,.cls cd,sl⟩=>(match cd.mro,sl.toList with
   | .ref C'::bm,[_,_,_,_,some (.builtin n),_]=>C'==C&&n == "ValueError.__new__"&&!cd.hasDel&&cd.hasDict&&PySem.W.tailIn K [.type "ValueError",.type "Exception",.type "BaseException",.type "object"] bm&&PySem.W.nsOkIn K cd.ns&&jC K cd.ns "__init__"==some (some (.ref fI))
   | _,_=>false)
 | _=>false
end My
namespace Jd
open PySem PySem.Spec PyProof.Rows L2 My
theorem afv (hg:Gl X x) (hm:X.mg x=some (.ref C)) (hd:0#x=false:=by decide):QE X (.Name x pos) (tC (.ref C)):=⟨L2.QC hg hm (show RelV (.ref C) (.ref C) from rfl) hd⟩
end Jd
namespace My
open PySem PySem.Spec PyProof.Rows L2 Mth
theorem qx:∀{us:List aJ} {ns:List Int},EZ us ns→Vals 0#E us
 | _,_,.nil=>.nil
 | _,_,.cons n t r=>.cons ⟨t,rfl⟩ (qx r)
def QJ (K:cj):List V→Hp→VK→Prop:=λxs H Q=>∃(l:aq) (ns:List Int),xs=[.ref l]∧bq K H l 0#E∧ns.length<64 ∧
 ∀(p:aq) (ns':List Int),H p=none→ns'.Perm ns→ns'.Pairwise (·≤·)→Q (.ref p) (upd H p (.lst (ns'.map V.int)))
theorem ZP (K:cj) (hK:X.K=K:=by rfl):jP X (.builtin "sorted") (QJ K):=by
 subst hK
 intro pins s σ H xs us Q I r h
 obtain ⟨l,ns,rfl,hq,h64,q⟩:=h
 obtain ⟨u,rfl,rx⟩:=vals1 r
 cases rx
 obtain ⟨its,rv,p,hz⟩:=I.list hq
 have hl:=rv.length
 rw [gI] at hl
 refine sorted_ints p.isList (intsAre_of rv) 0#b λout ns' a1 a2 a3=>?_
 obtain ⟨e,he⟩:=sortedAll_at s.heap its out
 have hn:H 0#L=none:=I.hok.fresh (yM _)
 refine ⟨.ref 0#L,_,I.laid (t':=s.toks) (o:=.lst (ns'.map V.int)) (λb o z=>sortedAll_old z) (yM _) ?_,rfl,q _ ns' hn a2 a3⟩
 refine ⟨?_,out.toList,e,qx a1,?_⟩
 ·rw [gI,a2.length_eq]
  exact nA (aN 0#b)
 ·rw [he]
theorem VS {K:cj} (h:bq K H l 0#E) (h64:ns.length<64) (q:∀(p:aq) (ns':List Int) (H':Hp),ao H H'→H p=none→H' p=some (.lst (ns'.map V.int))→ns'.Perm ns→ns'.Pairwise (·≤·)→Q (.ref p) H'):QJ K [.ref l] H Q:=
 ⟨l,ns,rfl,h,h64,λp ns' hp h1 h2=>q p ns' _ (bf 0#t hp) hp av h1 h2⟩
theorem Zy (h:ta σ H λx H1=>tb σ H1 λy H2=>r x y H2 λz H3=>∃k,z=.bl k∧(if k=true then tc σ H3 λw' H4=>r' y w' H4 Q else Q (.bl false) H3)):Pd r r' ta tb tc σ H Q:=h
theorem qZ (h:ta σ H λvs H1=>∃i j:Int,vs=[.int i,.int j]∧(-(2 ^ 62)≤i∧i<2 ^ 62∧-(2 ^ 62)≤j∧j<2 ^ 62)∧R (XC i (j-i).toNat) H1):UX ta σ H R:=h
end My
namespace Jd
open PySem PySem.Spec PyProof.Rows L2 My
theorem Ab (hg:Gl X "range") (hm:X.mg "range"=none) (ha:QA X [a,b] t) (hs:bG [a,b] X.env=[(false,eval a X.env),(false,eval b X.env)]:=by rfl) (hs2:bG [b] X.env=[(false,eval b X.env)]:=by rfl) :
 QI X tg (.Call (.Name "range" p) [a,b] [] pos) (UX t):=⟨L2.Ab hg hm ha.h hs hs2⟩
end Jd
namespace My
open PySem PySem.Spec PyProof.Rows L2 Mth
theorem tH {σ:L2.St} {T:aq} (ch:List aq) (I:L2.Inv X pins σ H s) (k:∀b u,b∉ch→s.heap.get? b=some u→h'.get? b=some u)
 (hf:∀b∈ch,BD X pins H b) (hT:s.heap.objs.size≤T) (new:iw X.prog X.w (upd H T o) h' T o):L2.Inv X pins σ (upd H T o) { s with heap:=h',toks:=t' }:=by
 have hn:H T=none:=I.hok.fresh hT
 have out:∀b u,H b=some u→b∉ch:=λb u e z=>by rw [(hf b z).1] at e;cases e
 have old:∀b u,H b=some u→upd H T o b=some u:=λb u e=>by rw [aK (bJ e hn)];exact e
 refine I.step (g':=s.gens) (d':=s.drawn) (ch:=ch) (λb hb=>?_) (λb u _ _ hc e _=>k b u hc e) (λb u _ _ hc e _=>⟨u.slots,k b u hc e⟩) (λb u hc e z=>?_) (λb u hc e=>⟨u,k b u hc e⟩)
  (λb xs e=>old b _ e) (λb u v e=>old b _ e) (λb ps e=>⟨#[],by rw [old b _ e];simp⟩) (λm hm=>?_) (λb u e=>?_) I.bare
 ·obtain ⟨_,f1,_,f3,f4,f5⟩:=hf b hb
  exact ⟨f3,f1,f4,f5⟩
 ·have hb:b≠T:=mP (rP (gT e) hT)
  rw [aK hb]
  exact z
 ·obtain ⟨u,es,ep,hu,r⟩:=hm
  exact ⟨u,es,ep,k _ u (λz=>(hf _ z).2.1 rfl) hu,r⟩
 ·by_cases hb:b=T
  ·subst hb
   rw [av] at e
   cases e
   exact new
  ·rw [aK hb] at e
   exact iw.stay (I.hok b u e) (λc v hc q=>k c v (hc.elim (λz=>z▸out b u e) λz=>out c _ z) q) (λc q=>old c _ q) λc xs q=>old c _ q
def Ite (K:cj) (a:aq):It:=
 ⟨λi H=>∃xs x,bq K H a xs∧xs[i]?=some x,λi H v H'=>∃(p:aq) (x:V),H p=none∧v=.ref p∧H'=upd H p (.tup [.int (i:Int),x])∧∀xs,bq K H a xs→xs[i]?=some x,λi H=>∃xs,bq K H a xs∧xs.length≤i⟩
theorem Tj {K:cj} (a e it:aq) (hei:e≠it) :
 Turn P w K (.Tuple elts kt tpos) (Ite K a) [e,it] e (λi h=>(∃old,IsEnum h e it (i:Int) old)∧h.IsListIter it a i) where
 mem:=by simp
 obj:=λi h st b hb=>by
  obtain ⟨⟨old,he⟩,o,eo,c,d⟩:=st
  rcases (show b=e∨b=it by simpa using hb) with rfl | rfl
  ·exact ⟨_,he,λv z=>by cases z⟩
  ·exact ⟨o,eo,λv z=>by rw [d] at z;cases z⟩
 keep:=λi h h' st k=>⟨let ⟨old,he⟩:=st.1;⟨old,k e 0#d _ he⟩,st.2.at λo q=>k it 0#d o q⟩
 item:=by
  intro X hP hw hK hc i pins s σ H E I hf st hg
  subst hP hw hK
  obtain ⟨⟨old,he⟩,hit⟩:=st
  obtain ⟨xs,x,hq,hx⟩:=hg
  obtain ⟨its,rv,p,hz⟩:=I.list hq
  obtain ⟨u,hu,ru⟩:=rv.get hx
  refine wpAny_pyNext_enum_item he hit p.isList (x:=u) (by simpa using hu) hei λh1 ho ahx hT hsz hk=>?_
  refine ⟨_,rfl,wpAny_letOwnedTupleGo_enum (s:={ s with heap:=h1,toks:=s.toks+1 }) ho λh2 XO hs2=>?_⟩
  have ade:ET e h1 h2:=hs2
  have ke:∀b o,b∉[e,it]→s.heap.get? b=some o→h2.get? b=some o:=λb o hb q=>by
   have hb1:b≠e:=λz=>hb (by simp [z])
   have hb2:b≠it:=λz=>hb (by simp [z])
   exact (ade.2 b hb1).trans (hk b o hb1 hb2 q)
  have elt:e<s.heap.objs.size:=gT he
  have hT2:h2.get? s.heap.objs.size=some { cls:=.type "tuple",data:=.seq #[.int i s.toks,u] }:=(ade.2 _ (Xg elt)).trans hT
  have hn:H s.heap.objs.size=none:=I.hok.fresh (dS _)
  have I2:L2.Inv X pins σ (upd H s.heap.objs.size (.tup [.int (i:Int),x])) { s with heap:=h2,toks:=s.toks+1 }:=by
   refine tH [e,it] I ke hf (dS _) ?_
   exact ⟨by show 2≤sizeLine;decide,[.int (i:Int) s.toks,u],.cons ⟨_,rfl⟩ (.cons ru .nil),_,hT2,rfl,_,rfl⟩
  refine ⟨.ref s.heap.objs.size,upd H s.heap.objs.size (.tup [.int (i:Int),x]),I2,rfl,⟨s.heap.objs.size,x,hn,rfl,rfl,λys hy=>by rw [I.xP hy hq];exact hx⟩,⟨⟨u,?_⟩,ahx.at λo q=>(ade.2 it (j4 hei)).trans q⟩,λb hb=>?_⟩
  ·have:=XO
   simpa using this
  ·have hb1:=(hf b hb).1
   have ilt:it<s.heap.objs.size:=by
    obtain ⟨o,eo,_⟩:=hit
    exact gT eo
   have hb2:b≠s.heap.objs.size:=by
    rcases (show b=e∨b=it by simpa using hb) with rfl | rfl
    ·exact mP elt
    ·exact mP ilt
   rw [aK hb2]
   exact hb1
 done:=by
  intro X hP hw hK hc i pins s σ H E I hf st hg
  subst hP hw hK
  obtain ⟨⟨old,he⟩,hit⟩:=st
  obtain ⟨xs,hq,hx⟩:=hg
  obtain ⟨its,rv,p,hz⟩:=I.list hq
  have hl:=rv.length
  obtain ⟨f0,f1,f2,f3,f4,f5⟩:=hf it 0#d
  exact wpAny_pyNext_enum_end (I.ok.hd hc) he hit p.isList (by simp;simp?) λh' eb=>⟨rfl,I.turned (t':=s.toks) (λb o hb q=>eb b o hb q) f0 f1 f3 f4 f5⟩
 self:=λ_ _ _ _ _ st h=>let ⟨_,he⟩:=st.1;abe he h
def UU (K:cj) (ta:TA):TI:=λσ H R=>ta σ H λvs H1=>∃a xs,vs=[.ref a]∧bq K H1 a xs∧R (Ite K a) H1
theorem Cp (K:cj) (hg:Gl X "enumerate") (hm:X.mg "enumerate"=none) (ha:PA X [a] ta) (hs:bG [a] X.env=[(false,eval a X.env)]:=by rfl) (hK:X.K=K:=by rfl) :
 PI X (.Tuple elts kt tpos) (.Call (.Name "enumerate" p) [a] [] pos) (UU K ta):=by
 subst hK
 intro pins s σ H R I h
 refine Call_ (wj I hg hm boot_enumerate (Mc (iI (ha pos pins s σ H _ I h) λus s1 ⟨vs,H1,I1,r1,q1⟩=>?_) hs rfl))
 obtain ⟨l,xs,e,hq,q⟩:=q1
 subst e
 cases r1 with
 | cons r rr=>
   cases rr
   cases r
   obtain ⟨its,rv,pl,hz⟩:=I1.list hq
   refine call_enumerate_list pl.isList λh' he hit hsz hk=>?_
   have I2:L2.Inv X pins σ H1 { s1 with heap:=h' }:=I1.kept (t':=s1.toks) hk
   refine abe (s:={ s1 with heap:=h' }) he ?_
   refine ⟨s1.heap.objs.size+1,[s1.heap.objs.size+1,s1.heap.objs.size],_,_,H1,rfl,I2,Tj l (s1.heap.objs.size+1) s1.heap.objs.size (Nat.succ_ne_self _),⟨⟨_,he⟩,hit⟩,λb hb=>?_,q⟩
   rcases (show b=s1.heap.objs.size+1∨b=s1.heap.objs.size by simpa using hb) with rfl | rfl
   ·exact I1.M5 (yM _) (I1.hok.fresh (yM _))
   ·exact I1.M5 (dS _) (I1.hok.fresh (dS _))
theorem VO {K:cj} (h:ta σ H λvs H1=>∃a xs,vs=[.ref a]∧bq K H1 a xs∧R (Ite K a) H1):UU K ta σ H R:=h
theorem Uz {σ:L2.St} {H:Hp} {K:cj} {a:aq} {g:TG} {tb:TS} {D:Ends} (Pv:Nat→L2.St→Hp→Prop) (h0:Pv 0 σ H) (hl:∀i σ H,i≤xs.length→Pv i σ H→bq K H a xs)
 (hs:∀(i:Nat) (x:V) (σ:L2.St) (H:Hp) (p:aq) (H':Hp),xs[i]?=some x→Pv i σ H→ao H H'→H p=none→H' p=some (.tup [.int (i:Int),x])→g (.ref p) σ H' λσ2 H2=>tb { D with nx:=Pv (i+1),ct:=Pv (i+1),bk:=D.nx } σ2 H2)
 (hd:∀σ H,Pv xs.length σ H→D.nx σ H) :
 ∃W:Nat→Nat→L2.St→Hp→Prop,(∃m,W 0 m σ H)∧∀i m σ H,W i m σ H →
  ((Ite K a).stop i H∧D.nx σ H)∨((Ite K a).go i H∧∃N:L2.St→Hp→Prop,(∀σ' H',N σ' H'→∃m',m'<m∧W (i+1) m' σ' H')∧∀x H',(Ite K a).WC i H x H'→g x σ H' λσ2 H2=>tb { D with nx:=N,ct:=N,bk:=D.nx } σ2 H2):=by
 refine ⟨λi m σ H=>m=xs.length-i∧i≤xs.length∧Pv i σ H,⟨xs.length,rfl,lX _,h0⟩,?_⟩
 rintro i m σ H ⟨rfl,hi,p⟩
 have q:=hl i σ H hi p
 rcases Mz i xs.length with hlt | hge
 ·refine .inr ⟨⟨xs,xs[i],q,jY hlt⟩,Pv (i+1),λσ' H' p'=>⟨xs.length-(i+1),by simp?,rfl,hlt,p'⟩,λx H' y=>?_⟩
  obtain ⟨pt,y',hn,rfl,rfl,hy⟩:=y
  exact hs i y' σ H pt _ (hy xs q) p (jz hn _) hn av
 ·have ei:i=xs.length:=by simp?
  subst ei
  exact .inl ⟨⟨xs,q,dS _⟩,hd σ H p⟩
theorem adS (h:D.ct σ H):Wm D σ H:=h
theorem aad (K:cj) (h:X.K=K:=by rfl):rT X (oV .In) (rIn K false):=h▸SW
theorem Vk (K:cj) (h:X.K=K:=by rfl):rT X (oV .NotIn) (rIn K true):=h▸IY
def aap (K:cj):List V→Hp→VK→Prop:=λxs H Q=>∃(l:aq) (ns:List Int),xs=[.ref l]∧bq K H l 0#E∧0<ns.length∧∀M:Int,M∈ns→(∀a∈ns,M≤a)→Q (.int M) H
theorem ahV (K:cj) (hc:X.calm=true) (hK:X.K=K:=by rfl):jP X (.builtin "min") (aap K):=by
 subst hK
 intro pins s σ H xs us Q I r h
 obtain ⟨l,ns,rfl,hq,hpos,q⟩:=h
 obtain ⟨u,rfl,rx⟩:=vals1 r
 cases rx
 obtain ⟨its,rv,p,hz⟩:=I.list hq
 have hi:=intsAre_of rv
 obtain ⟨ys,e⟩:=hi.allInts.items
 have hns:ns=ys.toList.map (·.1):=by
  have h2:=abO ys
  rw [← e] at h2
  exact hi.numsOf.symm.trans h2
 have GD:s.heap.IsList l (intItems ys):=by rw [← e];exact p.isList
 have hlen:ns.length=ys.size:=by rw [hns,gI,Rb]
 refine min_intList (I.ok.hd hc) GD 0#b λv h' tk hv hk=>?_
 obtain ⟨t,rfl⟩:=intItems_at hv
 obtain ⟨h1,h2⟩:=argBest_lt (numAt ys) (ys.size-1)
 refine ⟨.int _,H,I.kept hk,⟨t,rfl⟩,q _ ?_ λa ha=>?_⟩
 ·rw [RH,← hns]
  exact abA 0#b
 ·obtain ⟨j,hj,rfl⟩:=abB ha
  have:=h2 j 0#b
  rw [RH ys j,← hns] at this
  exact this
theorem adY {K:cj} {ns:List Int} (h:bq K H l 0#E) (hp:0<ns.length) (q:∀M:Int,M∈ns→(∀a∈ns,M≤a)→Q (.int M) H):aap K [.ref l] H Q:=⟨l,ns,rfl,h,hp,q⟩
end My
namespace Jd
open PySem PySem.Spec PyProof.Rows L2 My
theorem tU:QS X (.Continue pos) Wm:=⟨L2.tU⟩
theorem Cp (K:cj)  (hg:Gl X "enumerate") (hm:X.mg "enumerate"=none) (ha:QA X [a] ta) (hs:bG [a] X.env=[(false,eval a X.env)]:=by rfl) (hK:X.K=K:=by rfl) :
 QI X (.Tuple elts kt tpos) (.Call (.Name "enumerate" p) [a] [] pos) (UU K ta):=⟨My.Cp K hg hm ha.h hs hK⟩
end Jd
namespace My
open PySem PySem.Spec PyProof.Rows L2 Mth
def xu (K:cj) (C:aq):List Str→Prop
 | []=>True
 | f::fs=>pL K C f∧xu K C fs
theorem xu.of {K:cj}:∀{fs:List Str},xu K C fs→f∈fs→pL K C f
 | g::fs,h,hm=>by
   rcases pZ.mp hm with z | z
   ·rw [z];exact h.1
   ·exact xu.of h.2 z
structure Cl (K:cj) (mg:Str→Option aJ) (x:Str) (C:aq) (fs:List Str):Prop where
 cl:ML K C
 at_:mg x=some (.ref C)
 no:xu K C fs
structure Dm (P:jA) (w:fN) (K:cj) (mg:Str→Option aJ) (base:cP) (k:Nat) (C:aq) (m:Str) (ps:List Str) (sp:Sp):Prop where
 ex:∃(f:aq) (fd:jW),bh P w K mg base dm k f fd ps sp∧Meth K C m f∧Binds K fd ps []
structure Dk (P:jA) (w:fN) (K:cj) (mg:Str→Option aJ) (base:cP) (k:Nat) (x:Str) (C:aq) (ps:List Str) (sp:Sp):Prop where
 ex:∃(f:aq) (fd:jW),bh P w K mg base dm k f fd ps sp∧Mk K C f∧Binds K fd ps []∧mg x=some (.ref C)
def afC (K:cj) (f:Str):V→Hp→VK→Prop:=λx H Q=>∃a C dx fs v,x=.ref a∧H a=some 0#V∧ML K C∧pL K C f∧fs.lookup f=some v∧Q v H
def aam (K:cj) (f:Str) (y:V) (N:Hp→Prop):V→Hp→Prop:=λx H=>∃a C dx fs,x=.ref a∧H a=some 0#V∧ML K C∧pL K C f∧fs.length<1000∧N (upd H a (.ins C dx (aA f y fs)))
def aao (C:aq) (m:Str) (sp:Sp) (σ:L2.St) (t:TA):V→Hp→VK→Prop:=λx H1 Q=>∃a dx fs,x=.ref a∧H1 a=some 0#V∧fs.lookup m=none∧t σ H1 λvs H2=>sp (x::(vs++[])) H2 Q E0
theorem afI {K:cj} (h:to σ H λx H1=>afC K f x H1 Q):aec K to f σ H Q:=h
theorem ad2 {K:cj} (h:tv σ H λy H1=>to σ H1 λx H2=>aam K f y (λH3=>D.nx σ H3) x H2):ad6 K to tv f D σ H:=h
theorem adX (h:to σ H λx H1=>aao C m sp σ t x H1 Q):LY C m sp [] E0 to t σ H Q:=h
theorem adV (h:t σ H λvs H1=>∀x dx,H1 x=none→H1 dx=none→dx≠x→sp (.ref x::(vs++[])) (upd (upd H1 dx (.own x)) x (.ins C dx [])) (λv H2=>v=.bK∧Q (.ref x) H2) E0):Wo C sp [] E0 t σ H Q:=h
theorem kG {K:cj} (k:Cl K mg x C fn) (ha:H a=some 0#V) (hl:fs.lookup f=some v) (q:Q v H) (hf:f∈fn:=by decide):afC K f (.ref a) H Q:=⟨a,C,dx,fs,v,rfl,ha,k.cl,k.no.of hf,hl,q⟩
theorem Bd {K:cj} (k:Cl K mg x C fn) (ha:H a=some 0#V) (hn:fs.length<1000) (q:N (upd H a (.ins C dx (aA f y fs)))) (hf:f∈fn:=by decide):aam K f y N (.ref a) H:=⟨a,C,dx,fs,rfl,ha,k.cl,k.no.of hf,hn,q⟩
theorem TJ (ha:H a=some 0#V) (hm:fs.lookup m=none) (q:t σ H λvs H2=>sp (.ref a::(vs++[])) H2 Q E0):aao C m sp σ t (.ref a) H Q:=⟨a,dx,fs,rfl,ha,hm,q⟩
end My
namespace Jd
open PySem PySem.Spec PyProof.Rows L2 My
theorem Oh {X:Cx} {f:Str} {pos:Pos} {e:bA} {to:TE} (K:cj) (he:QE X e to) (hb:uO e f X.env (eval e X.env)=eval e X.env:=by rfl) (hK:X.K=K:=by rfl):QE X (.Attribute e f pos) (aec K to f):=⟨hK▸L2.Oh he.h hb⟩
theorem Ow {X:Cx} {f:Str} {pos:Pos} {o value:bA} {to tv:TE} (K:cj) {pos':Pos} (ha:QE X o to) (hv:QE X value tv) (hs:mS value (some (.Attribute o f pos')) pos.line X.env=pure false:=by rfl) (hK:X.K=K:=by rfl):QS X (.Assign [.Attribute o f pos'] value pos) (ad6 K to tv f):=⟨hK▸L2.Ow ha.h hv.h hs⟩
theorem VD (D:Dk X.prog X.w X.K X.mg X.base k x C ps sp) (hr:jj (k+1) X.A) (hg:Gl X x) (ha:QA X (e::es) t) (hdb:0#x=false:=by decide)
 (he:bG (e::es) X.env=0#D::bG es X.env:=by rfl) (hpl:(iU pos (bG es X.env)).any (·.1)=false:=by rfl):QE X (.Call (.Name x p) (e::es) [] pos) (Wo C sp [] E0 t):=by
 obtain ⟨fa,fd,ok,hk,hb,hm⟩:=D.ex
 exact ⟨Zr hk ok hr hg hm hb .nil QB ha.h hdb he hpl⟩
theorem xY {X:Cx} {k:Nat} {m:Str} {ps:List Str} {sp:Sp} {pos apos:Pos} {o e:bA} {es:List bA} {to:TE} {t:TA} {C:aq} (D:Dm X.prog X.w X.K X.mg X.base k C m ps sp) (c:ML X.K C) (hr:jj k X.A) (ho:QE X o to) (ha:QA X (e::es) t) {pl:Sem Bool}
 (he:bG (e::es) X.env=0#D::bG es X.env:=by rfl) (hpl:(iU pos (bG es X.env)).any (·.1)=false:=by rfl)
 (ht:eval (.Call (.Attribute o m apos) (e::es) [] pos) X.env=(do
   let ov ← eval o X.env
   Bx apos.atName
   let (g,first) ← holding [ov] (getMethod ov m pl)
   callWith pos g first (iU pos (bG (e::es) X.env)) (uM pos (uL [] X.env))):=by rfl):QE X (.Call (.Attribute o m apos) (e::es) [] pos) (LY C m sp [] E0 to t):=by
 obtain ⟨fa,fd,ok,hm,hb⟩:=D.ex
 exact ⟨Zs ho.h c hm ok hr hb .nil QB ha.h he hpl ht⟩
theorem Og {X:Cx} {k:Nat} {m:Str} {ps:List Str} {sp:Sp} {pos apos:Pos} {o:bA} {to:TE} {C:aq} (D:Dm X.prog X.w X.K X.mg X.base k C m ps sp) (c:ML X.K C) (hr:jj k X.A) (ho:QE X o to) {pl:Sem Bool}
 (ht:eval (.Call (.Attribute o m apos) [] [] pos) X.env=(do
   let ov ← eval o X.env
   Bx apos.atName
   let (g,first) ← holding [ov] (getMethod ov m pl)
   callWith pos g first (iU pos (bG [] X.env)) (uM pos (uL [] X.env))):=by rfl):QE X (.Call (.Attribute o m apos) [] [] pos) (LY C m sp [] E0 to rK):=by
 obtain ⟨fa,fd,ok,hm,hb⟩:=D.ex
 exact ⟨VE ho.h c hm ok hr hb .nil QB ht⟩
end Jd
namespace My
open PySem PySem.Spec PyProof.Rows L2 Mth
theorem acC (K:cj)  (ho:PE X o to) (h:X.K=K:=by rfl) (hbase:uO o "clear" X.env (eval o X.env)=eval o X.env:=by rfl) (hline:0#M=true:=by rfl) :
 PE X (.Call (.Attribute o "clear" apos) [] [] cpos) (ZT (λx H Q=>Wx K "list" x H∧Jq x [] H Q) to):=
 h▸Of Mf PySem.F.slot_list_clear PySem.F.type_list_clear Vd ho hbase hline
theorem Zz (h:H p=some (.lst xs)) (q:Q .bK (upd H p (.lst []))):Jq (.ref p) [] H Q:=⟨p,xs,rfl,rfl,h,q⟩
theorem ad4 (K:cj)  (ho:PE X o to) (h:X.K=K:=by rfl) (hbase:uO o "reverse" X.env (eval o X.env)=eval o X.env:=by rfl) (hline:0#M=true:=by rfl) :
 PE X (.Call (.Attribute o "reverse" apos) [] [] cpos) (ZT (λx H Q=>Wx K "list" x H∧xZ x [] H Q) to):=
 h▸Of Mf PySem.F.slot_list_reverse PySem.F.type_list_reverse NO ho hbase hline
theorem afT (h:H p=some (.lst xs)) (q:Q .bK (upd H p (.lst xs.reverse))):xZ (.ref p) [] H Q:=⟨p,xs,rfl,rfl,h,q⟩
theorem KC (K:cj)  (ho:PE X o to) (he:PE X e te) (h:X.K=K:=by rfl)
 (hbase:uO o "extend" X.env (eval o X.env)=eval o X.env:=by rfl)
 (hfew:((iU cpos (bG (e::[]) X.env)).all (λx=>!x.1)&&(uM cpos (uL [] X.env)).all (λx=>x.1.isSome)
   && decide ((e::([]:List bA)).length+([]:List pD).length+(if ([]:List pD).isEmpty then 0 else 1)<30))=true:=by rfl)
 (hline:0#M=true:=by rfl) (hs:bG (e::[]) X.env=0#D::bG [] X.env:=by rfl) (hplain:(iU cpos (bG [] X.env)).any (·.1)=false:=by rfl) :
 PE X (.Call (.Attribute o "extend" apos) [e] [] cpos) (tBM K "list" Cr to (gW te rK)):=
 h▸VB Mf PySem.F.slot_list_extend PySem.F.type_list_extend SH ho (lI he wB hs) hbase hfew hline hs hplain
theorem GY (h:H p=some (.lst xs)) (hb:H b=some (.lst zs)) (hl:xs.length+zs.length≤sizeLine) (q:Q .bK (upd H p (.lst (xs++zs)))):Cr (.ref p) [.ref b] H Q:=⟨p,b,xs,zs,rfl,rfl,h,hb,hl,q⟩
end My
namespace Jd
open PySem PySem.Spec PyProof.Rows L2 Mth
theorem acC (K:cj)  (ho:QE X o to) (h:X.K=K:=by rfl) (hbase:uO o "clear" X.env (eval o X.env)=eval o X.env:=by rfl) (hline:0#M=true:=by rfl) :
 QE X (.Call (.Attribute o "clear" apos) [] [] cpos) (ZT (λx H Q=>Wx K "list" x H∧Jq x [] H Q) to):=⟨My.acC K ho.h h hbase hline⟩
theorem ad4 (K:cj)  (ho:QE X o to) (h:X.K=K:=by rfl) (hbase:uO o "reverse" X.env (eval o X.env)=eval o X.env:=by rfl) (hline:0#M=true:=by rfl) :
 QE X (.Call (.Attribute o "reverse" apos) [] [] cpos) (ZT (λx H Q=>Wx K "list" x H∧xZ x [] H Q) to):=⟨My.ad4 K ho.h h hbase hline⟩
theorem KC (K:cj)  (ho:QE X o to) (he:QE X e te) (h:X.K=K:=by rfl)
 (hbase:uO o "extend" X.env (eval o X.env)=eval o X.env:=by rfl)
 (hfew:((iU cpos (bG (e::[]) X.env)).all (λx=>!x.1)&&(uM cpos (uL [] X.env)).all (λx=>x.1.isSome)
   && decide ((e::([]:List bA)).length+([]:List pD).length+(if ([]:List pD).isEmpty then 0 else 1)<30))=true:=by rfl)
 (hline:0#M=true:=by rfl) (hs:bG (e::[]) X.env=0#D::bG [] X.env:=by rfl) (hplain:(iU cpos (bG [] X.env)).any (·.1)=false:=by rfl) :
 QE X (.Call (.Attribute o "extend" apos) [e] [] cpos) (tBM K "list" Cr to (gW te rK)):=⟨My.KC K ho.h he.h h hbase hfew hline hs hplain⟩
end Jd
namespace L2
open PySem PySem.Spec PyProof.Rows
theorem wm {α:Type}:∀{us:List α},us.length=n+1→∃(a:α) (as:List α),us=a::as∧as.length=n
 | [],h=>nomatch h
 | a::as,h=>⟨a,as,rfl,Nat.succ.inj h⟩
theorem len0 {α:Type}:∀{us:List α},us.length=0→us=[]
 | [],_=>rfl
 | _::_,h=>nomatch h
theorem su.T8 {K:cj} {st:aU} (F:su K x qual st f fd) (h:∀(kV doc pm:aJ) (an:Option aq) (cdv ct ua:aJ),EY 0#H ⟨[ua],[]⟩=pure [(pa,ua)]):Binds K fd [pa] []:=
 F.binds λkV doc pm an cdv ct us hl=>by
  obtain ⟨ua,us0,rfl,YR⟩:=wm (n:=0) hl
  obtain rfl:=len0 YR
  exact h kV doc pm an cdv ct ua
theorem su.HD {K:cj} {st:aU} (F:su K x qual st f fd) (h:∀(kV doc pm:aJ) (an:Option aq) (cdv ct ua ub:aJ),EY 0#H ⟨[ua,ub],[]⟩=pure [(pa,ua),(pb,ub)]):Binds K fd [pa,pb] []:=
 F.binds λkV doc pm an cdv ct us hl=>by
  obtain ⟨ua,us1,rfl,hl1⟩:=wm (n:=1) hl
  obtain ⟨ub,us0,rfl,YR⟩:=wm (n:=0) hl1
  obtain rfl:=len0 YR
  exact h kV doc pm an cdv ct ua ub
theorem su.T9 {K:cj} {st:aU} (F:su K x qual st f fd) (h:∀(kV doc pm:aJ) (an:Option aq) (cdv ct ua ub uc:aJ),EY 0#H ⟨[ua,ub,uc],[]⟩=pure [(pa,ua),(pb,ub),(pc,uc)]):Binds K fd [pa,pb,pc] []:=
 F.binds λkV doc pm an cdv ct us hl=>by
  obtain ⟨ua,us2,rfl,hl2⟩:=wm (n:=2) hl
  obtain ⟨ub,us1,rfl,hl1⟩:=wm (n:=1) hl2
  obtain ⟨uc,us0,rfl,YR⟩:=wm (n:=0) hl1
  obtain rfl:=len0 YR
  exact h kV doc pm an cdv ct ua ub uc
theorem su.Ua {K:cj} {st:aU} (F:su K x qual st f fd) (h:∀(kV doc pm:aJ) (an:Option aq) (cdv ct ua ub uc ud:aJ),EY 0#H ⟨[ua,ub,uc,ud],[]⟩=pure [(pa,ua),(pb,ub),(pc,uc),(pd,ud)]):Binds K fd [pa,pb,pc,pd] []:=
 F.binds λkV doc pm an cdv ct us hl=>by
  obtain ⟨ua,us3,rfl,hl3⟩:=wm (n:=3) hl
  obtain ⟨ub,us2,rfl,hl2⟩:=wm (n:=2) hl3
  obtain ⟨uc,us1,rfl,hl1⟩:=wm (n:=1) hl2
  obtain ⟨ud,us0,rfl,YR⟩:=wm (n:=0) hl1
  obtain rfl:=len0 YR
  exact h kV doc pm an cdv ct ua ub uc ud
theorem su.acA {K:cj} {st:aU} (F:su K x qual st f fd) (h:∀(kV doc pm:aJ) (an:Option aq) (cdv ct ua ub uc ud ue:aJ),EY 0#H ⟨[ua,ub,uc,ud,ue],[]⟩=pure [(pa,ua),(pb,ub),(pc,uc),(pd,ud),(pe,ue)]):Binds K fd [pa,pb,pc,pd,pe] []:=
 F.binds λkV doc pm an cdv ct us hl=>by
  obtain ⟨ua,us4,rfl,hl4⟩:=wm (n:=4) hl
  obtain ⟨ub,us3,rfl,hl3⟩:=wm (n:=3) hl4
  obtain ⟨uc,us2,rfl,hl2⟩:=wm (n:=2) hl3
  obtain ⟨ud,us1,rfl,hl1⟩:=wm (n:=1) hl2
  obtain ⟨ue,us0,rfl,YR⟩:=wm (n:=0) hl1
  obtain rfl:=len0 YR
  exact h kV doc pm an cdv ct ua ub uc ud ue
end L2
namespace My
open PySem PySem.Spec PyProof.Rows L2
theorem jH (Pv:L2.St→Hp→Prop) (rest:∀σ' H',Pv σ' H'→u D σ' H') (h:∀N:L2.St→Hp→Prop,(∀σ' H',Pv σ' H'→N σ' H')→t { D with nx:=N } σ H):EH t u D σ H:=h (u D) rest
theorem LV (Pv:L2.St→Hp→Prop) (rest:∀σ' H',Pv σ' H'→u D σ' H') (h:∀N:L2.St→Hp→Prop,(∀σ' H',Pv σ' H'→N σ' H')→EH a (EH b (EH c d)) { D with nx:=N } σ H):EH a (EH b (EH c (EH d u))) D σ H:=h (u D) rest
theorem Qx (h:N σ H):(Ends.mk N rt bk ct).nx σ H:=h
theorem c8 {g:TG} {tb:TS} (h:∀(M B:L2.St→Hp→Prop) (R:VK),(∀σ H,Pv σ H→M σ H)→(∀σ H,bk σ H→B σ H)→(∀v H,rt v H→R v H)→g x σ H λσ2 H2=>tb (Ends.mk M R B M) σ2 H2):g x σ H λσ2 H2=>tb (Ends.mk Pv rt bk Pv) σ2 H2:=h Pv bk rt (λ_ _ z=>z) (λ_ _ z=>z) (λ_ _ z=>z)
end My
namespace My
open PySem PySem.Spec PyProof.Rows L2 Mth
def aan (K:cj):List V→Hp→VK→Prop:=λxs H Q=>∃(l:aq) (ns:List Int),xs=[.ref l]∧bq K H l 0#E∧0<ns.length∧∀M:Int,M∈ns→(∀a∈ns,a≤M)→Q (.int M) H
theorem ahU (K:cj) (hc:X.calm=true) (hK:X.K=K:=by rfl):jP X (.builtin "max") (aan K):=by
 subst hK
 intro pins s σ H xs us Q I r h
 obtain ⟨l,ns,rfl,hq,hpos,q⟩:=h
 obtain ⟨u,rfl,rx⟩:=vals1 r
 cases rx
 obtain ⟨its,rv,p,hz⟩:=I.list hq
 have hi:=intsAre_of rv
 obtain ⟨ys,e⟩:=hi.allInts.items
 have hns:ns=ys.toList.map (·.1):=by
  have h2:=abO ys
  rw [← e] at h2
  exact hi.numsOf.symm.trans h2
 have GD:s.heap.IsList l (intItems ys):=by rw [← e];exact p.isList
 have hlen:ns.length=ys.size:=by rw [hns,gI,Rb]
 refine max_intList (I.ok.hd hc) GD 0#b λv h' tk hv hk=>?_
 obtain ⟨t,rfl⟩:=intItems_at hv
 obtain ⟨h1,h2⟩:=argBest_gt (numAt ys) (ys.size-1)
 refine ⟨.int _,H,I.kept hk,⟨t,rfl⟩,q _ ?_ λa ha=>?_⟩
 ·rw [RH,← hns]
  exact abA 0#b
 ·obtain ⟨j,hj,rfl⟩:=abB ha
  have:=h2 j 0#b
  rw [RH ys j,← hns] at this
  exact this
theorem adW {K:cj} {ns:List Int} (h:bq K H l 0#E) (hp:0<ns.length) (q:∀M:Int,M∈ns→(∀a∈ns,a≤M)→Q (.int M) H):aan K [.ref l] H Q:=⟨l,ns,rfl,h,hp,q⟩
def Jr:V→List V→Hp→VK→Prop:=λx vs H Q=>∃(l:aq) (ns:List Int) (k:Int),x=.ref l∧vs=[.int k]∧H l=some (.lst 0#E)∧ns.length≤1000∧k∈ns∧∀j:Nat,ns[j]?=some k→Q (.int (j:Int)) H
theorem Ld:∀{ns:List Int},k∈ns→∃j:Nat,ns[j]?=some k∧∀i:Nat,i<j→ns[i]?≠some k
 | a::ns,h=>by
   by_cases e:a=k
   ·exact ⟨0,by rw [e];rfl,λi hi=>absurd hi (Cc _)⟩
   ·rcases pZ.mp h with z | z
    ·exact absurd z.symm e
    ·obtain ⟨j,h1,h2⟩:=Ld z
     refine ⟨j+1,h1,λi hi=>?_⟩
     cases i with
     | zero=>exact λq=>e (qE q)
     | succ i=>exact h2 i (Nat.lt_of_succ_lt_succ hi)
theorem Ve:MtM X "list.index" Jr:=by
 intro pins s σ H x vs v us Q I rx rv h
 obtain ⟨l,ns,k,rfl,rfl,hH,aix,hk,q⟩:=h
 cases rx
 obtain ⟨u,rfl,ru⟩:=rv.one
 obtain ⟨t,rfl⟩:=ru
 obtain ⟨j,hj,hno⟩:=Ld hk
 obtain ⟨z,its,n,r,hl,e⟩:=I.Iq hH
 have hlen:its.length=ns.length:=by rw [← hl,gI]
 have hjn:j<ns.length:=(nH.mp hj).1
 have at_:∀(i:Nat) (a:Int),ns[i]?=some a→∃t',its[i]?=some (Value.int a t'):=λi a ha=>by
  obtain ⟨u,hu,ru⟩:=Vals.get r (i:=i) (x:=.int a) (by rw [kE,ha];rfl)
  obtain ⟨t',rfl⟩:=ru
  exact ⟨t',hu⟩
 have at2:∀(i:Nat) (hi:i<its.length),∃(a:Int) (t':Nat),ns[i]?=some a∧its[i]=Value.int a t':=λi hi=>by
  have ha:ns[i]?=some ns[i]:=jY 0#b
  obtain ⟨t',h'⟩:=at_ i _ ha
  rw [jY hi] at h'
  exact ⟨_,t',ha,qE h'⟩
 refine EX F.slot_list_index ⟨_,e,rfl⟩ F.entry_list_index (F.args_list_index_2 _ _)
  (MeetsSeq.list_index l its.toArray n (.int k t) (isInt k) (λy hy=>?_) j (by rw [jZ];simp?) 0#b ?_ (λm hm hlt=>?_)) ⟨e,?_⟩
 ·obtain ⟨i,hi,rfl⟩:=List.mem_iff_getElem.mp (List.mem_toArray.mp hy)
  obtain ⟨a,t',_,h'⟩:=at2 i hi
  rw [h']
  exact agR a k t' t
 ·obtain ⟨a,t',ha,h'⟩:=at2 j 0#b
  rw [hj] at ha
  cases ha
  show isInt k its[j]=true
  rw [h']
  simp [isInt]
 ·obtain ⟨a,t',ha,h'⟩:=at2 m (by rw [jZ] at hm;exact hm)
  show isInt k (its[m]'(by rw [jZ] at hm;exact hm))=false
  rw [h']
  have:a≠k:=λq=>hno m hlt (by rw [ha,q])
  simp [isInt,this]
 ·exact ⟨.int (j:Int),H,I.tok _,⟨_,rfl⟩,q j hj⟩
theorem adg (K:cj)  (ho:PE X o to) (he:PE X e te) (h:X.K=K:=by rfl)
 (hbase:uO o "index" X.env (eval o X.env)=eval o X.env:=by rfl)
 (hfew:((iU cpos (bG (e::[]) X.env)).all (λx=>!x.1)&&(uM cpos (uL [] X.env)).all (λx=>x.1.isSome)
   && decide ((e::([]:List bA)).length+([]:List pD).length+(if ([]:List pD).isEmpty then 0 else 1)<30))=true:=by rfl)
 (hline:0#M=true:=by rfl) (hs:bG (e::[]) X.env=0#D::bG [] X.env:=by rfl) (hplain:(iU cpos (bG [] X.env)).any (·.1)=false:=by rfl) :
 PE X (.Call (.Attribute o "index" apos) [e] [] cpos) (tBM K "list" Jr to (gW te rK)):=
 h▸VB Mf PySem.F.slot_list_index PySem.F.type_list_index Ve ho (lI he wB hs) hbase hfew hline hs hplain
theorem afJ {ns:List Int} (h:H p=some (.lst 0#E)) (hl:ns.length≤1000) (hk:k∈ns) (q:∀j:Nat,ns[j]?=some k→Q (.int (j:Int)) H):Jr (.ref p) [.int k] H Q:=⟨p,ns,k,rfl,rfl,h,hl,hk,q⟩
end My
namespace Jd
open PySem PySem.Spec PyProof.Rows L2 Mth
theorem adg (K:cj)  (ho:QE X o to) (he:QE X e te) (h:X.K=K:=by rfl)
 (hbase:uO o "index" X.env (eval o X.env)=eval o X.env:=by rfl)
 (hfew:((iU cpos (bG (e::[]) X.env)).all (λx=>!x.1)&&(uM cpos (uL [] X.env)).all (λx=>x.1.isSome)
   && decide ((e::([]:List bA)).length+([]:List pD).length+(if ([]:List pD).isEmpty then 0 else 1)<30))=true:=by rfl)
 (hline:0#M=true:=by rfl) (hs:bG (e::[]) X.env=0#D::bG [] X.env:=by rfl) (hplain:(iU cpos (bG [] X.env)).any (·.1)=false:=by rfl) :
 QE X (.Call (.Attribute o "index" apos) [e] [] cpos) (tBM K "list" My.Jr to (gW te rK)):=⟨My.adg K ho.h he.h h hbase hfew hline hs hplain⟩
end Jd
namespace My
open PySem PySem.Spec PyProof.Rows L2 Mth
theorem Nz {σ:L2.St} (ch:List aq) (I:L2.Inv X pins σ H s) (k:∀b u,b∉ch→s.heap.get? b=some u→h'.get? b=some u)
 (hf:∀b∈ch,BD X pins H b):L2.Inv X pins σ H { s with heap:=h',toks:=t' }:=by
 have out:∀b u,H b=some u→b∉ch:=λb u e z=>by rw [(hf b z).1] at e;cases e
 refine I.step (g':=s.gens) (d':=s.drawn) (ch:=ch) (λb hb=>?_) (λb u _ _ hc e _=>k b u hc e) (λb u _ _ hc e _=>⟨u.slots,k b u hc e⟩) (λb u hc e z=>z) (λb u hc e=>⟨u,k b u hc e⟩)
  (λb xs e=>e) (λb u v e=>e) (λb ps e=>⟨#[],by rw [e];simp⟩) (λm hm=>?_) (λb u e=>?_) I.bare
 ·obtain ⟨_,f1,_,f3,f4,f5⟩:=hf b hb
  exact ⟨f3,f1,f4,f5⟩
 ·obtain ⟨u,es,ep,hu,r⟩:=hm
  exact ⟨u,es,ep,k _ u (λz=>(hf _ z).2.1 rfl) hu,r⟩
 ·exact iw.stay (I.hok b u e) (λc v hc q=>k c v (hc.elim (λz=>z▸out b u e) λz=>out c _ z) q) (λc q=>q) λc xs q=>q
def Itz (K:cj) (a b:aq):It:=
 ⟨λi H=>∃xs ys x y,bq K H a xs∧bq K H b ys∧xs[i]?=some x∧ys[i]?=some y,
  λi H v H'=>∃(p:aq) (x y:V),H p=none∧v=.ref p∧H'=upd H p (.tup [x,y])∧(∀xs,bq K H a xs→xs[i]?=some x)∧∀ys,bq K H b ys→ys[i]?=some y,
  λi H=>∃xs ys,bq K H a xs∧bq K H b ys∧(xs.length≤i∨ys.length≤i)⟩
theorem Ww {K:cj} (z TI TO i1 i2 a b:aq) (D:ZipApart z TI TO i1 i2 a b) :
 Turn P w K (.Tuple elts kt tpos) (Itz K a b) [z,TI,TO,i1,i2] z (λi h=>IsZip h z TI TO .none∧IsPair h TI (.ref i1) (.ref i2)∧(∃u v,IsPair h TO u v)∧h.IsListIter i1 a i∧h.IsListIter i2 b i) where
 mem:=by simp
 obj:=λi h st c hc=>by
  obtain ⟨hz,hTI,⟨u,v,hTO⟩,⟨o1,e1,_,d1⟩,⟨o2,e2,_,d2⟩⟩:=st
  rcases (show c=z∨c=TI∨c=TO∨c=i1∨c=i2 by simpa using hc) with rfl | rfl | rfl | rfl | rfl
  ·exact ⟨_,hz,λv q=>by cases q⟩
  ·exact ⟨_,hTI,λv q=>by cases q⟩
  ·exact ⟨_,hTO,λv q=>by cases q⟩
  ·exact ⟨o1,e1,λv q=>by rw [d1] at q;cases q⟩
  ·exact ⟨o2,e2,λv q=>by rw [d2] at q;cases q⟩
 keep:=λi h h' st k=>by
  obtain ⟨hz,hTI,⟨u,v,hTO⟩,h1,h2⟩:=st
  exact ⟨k z 0#d _ hz,k TI 0#d _ hTI,⟨u,v,k TO 0#d _ hTO⟩,h1.at λo q=>k i1 0#d o q,h2.at λo q=>k i2 0#d o q⟩
 item:=by
  intro X hP hw hK hc i pins s σ H E I hf st hg
  subst hP hw hK
  obtain ⟨hz,hTI,⟨u0,v0,hTO⟩,h1,h2⟩:=st
  obtain ⟨xs,ys,x,y,hq,hq',hx,hy⟩:=hg
  obtain ⟨its,rv,p,_⟩:=I.list hq
  obtain ⟨its',rv',p',_⟩:=I.list hq'
  obtain ⟨u,hu,ru⟩:=rv.get hx
  obtain ⟨v,hv,ru'⟩:=rv'.get hy
  refine wpAny_pyNext_zip_item D hz hTI hTO h1 h2 p.isList p'.isList (x:=u) (y:=v) (by simpa using hu) (by simpa using hv) λh' a1 a2 a3 a4 a5 a6 hk=>?_
  refine ⟨_,rfl,wpAny_letOwnedTupleGo_zip (s:={ s with heap:=h' }) a1 λh3 hz3 hs3=>?_⟩
  have Ss:ET z h' h3:=hs3
  have ke:∀c o,c∉[z,TI,TO,i1,i2]→s.heap.get? c=some o→h3.get? c=some o:=λc o hc' q=>by
   have c1:c≠z:=λe=>hc' (by simp [e])
   exact (Ss.2 c c1).trans (hk c o c1 (λe=>hc' (by simp [e])) (λe=>hc' (by simp [e])) (λe=>hc' (by simp [e])) q)
  have zlt:z<s.heap.objs.size:=gT hz
  have ahe:TO<s.heap.objs.size:=gT hTO
  have ahc:TI<s.heap.objs.size:=gT hTI
  have ahM:i1<s.heap.objs.size:=by obtain ⟨_,e,_⟩:=h1;exact gT e
  have ahN:i2<s.heap.objs.size:=by obtain ⟨_,e,_⟩:=h2;exact gT e
  have XN:h3.get? s.heap.objs.size=some { cls:=.type "tuple",data:=.seq #[u,v] }:=(Ss.2 _ (Xg zlt)).trans a5
  have hn:H s.heap.objs.size=none:=I.hok.fresh (dS _)
  have I2:L2.Inv X pins σ (upd H s.heap.objs.size (.tup [x,y])) { s with heap:=h3 }:=by
   refine tH (t':=s.toks) [z,TI,TO,i1,i2] I ke hf (dS _) ?_
   exact ⟨by show 2≤sizeLine;decide,[u,v],.cons ru (.cons ru' .nil),_,XN,rfl,_,rfl⟩
  refine ⟨.ref s.heap.objs.size,upd H s.heap.objs.size (.tup [x,y]),I2,rfl,⟨s.heap.objs.size,x,y,hn,rfl,rfl,λzs hz'=>by rw [I.xP hz' hq];exact hx,λzs hz'=>by rw [I.xP hz' hq'];exact hy⟩,⟨hz3,?_,⟨u,v,(Ss.2 TO D.TOz).trans a2⟩,a3.at λo q=>(Ss.2 i1 D.i1z).trans q,a4.at λo q=>(Ss.2 i2 D.i2z).trans q⟩,λc hc'=>?_⟩
  ·exact (Ss.2 TI D.TIz).trans (hk TI _ D.TIz D.TITO D.TIi1 D.TIi2 hTI)
  ·have hc1:=(hf c hc').1
   have hc2:c≠s.heap.objs.size:=by
    rcases (show c=z∨c=TI∨c=TO∨c=i1∨c=i2 by simpa using hc') with rfl | rfl | rfl | rfl | rfl
    ·exact mP zlt
    ·exact mP ahc
    ·exact mP ahe
    ·exact mP ahM
    ·exact mP ahN
   rw [aK hc2]
   exact hc1
 done:=by
  intro X hP hw hK hc i pins s σ H E I hf st hg
  subst hP hw hK
  obtain ⟨hz,hTI,⟨u0,v0,hTO⟩,h1,h2⟩:=st
  obtain ⟨xs,ys,hq,hq',hx⟩:=hg
  obtain ⟨its,rv,p,_⟩:=I.list hq
  obtain ⟨its',rv',p',_⟩:=I.list hq'
  have hl:=rv.length
  have hl':=rv'.length
  refine wpAny_pyNext_zip_end (I.ok.hd hc) D hz hTI hTO h1 h2 p.isList p'.isList ?_ λh' hk=>0#F
  ·rcases hx with q | q
   ·exact .inl (by simp;simp?)
   ·exact .inr (by simp;simp?)
  ·exact Nz (t':=s.toks) [z,TI,TO,i1,i2] I (λc o hc' q=>hk c o (λe=>hc' (by simp [e])) (λe=>hc' (by simp [e])) (λe=>hc' (by simp [e])) (λe=>hc' (by simp [e])) q) hf
 self:=λ_ _ _ _ _ st h=>abn st.1 h
def adf (K:cj) (ta:TA):TI:=λσ H R=>ta σ H λvs H1=>∃a b xs ys,vs=[.ref a,.ref b]∧bq K H1 a xs∧bq K H1 b ys∧R (Itz K a b) H1
theorem DK (K:cj) (hg:Gl X "zip") (hm:X.mg "zip"=none) (ha:PA X [a,b] ta) (hs:bG [a,b] X.env=(false,eval a X.env)::bG [b] X.env:=by rfl) (hs2:bG [b] X.env=[(false,eval b X.env)]:=by rfl) (hK:X.K=K:=by rfl) :
 PI X (.Tuple elts kt tpos) (.Call (.Name "zip" p) [a,b] [] pos) (adf K ta):=by
 subst hK
 intro pins s σ H R I h
 refine Call_ (wj I hg hm boot_zip (Mc (iI (ha pos pins s σ H _ I h) λus s1 ⟨vs,H1,I1,r1,q1⟩=>?_) hs (by rw [hs2];rfl)))
 obtain ⟨l,l',xs,ys,e,hq,hq',q⟩:=q1
 subst e
 cases r1 with
 | cons r rr=>
   cases rr with
   | cons r' rr'=>
     cases rr'
     cases r
     cases r'
     obtain ⟨its,rv,pl,_⟩:=I1.list hq
     obtain ⟨its',rv',pl',_⟩:=I1.list hq'
     have a1:l<s1.heap.objs.size:=by obtain ⟨_,e,_⟩:=pl.isList;exact gT e
     have a2:l'<s1.heap.objs.size:=by obtain ⟨_,e,_⟩:=pl'.isList;exact gT e
     refine call_zip_2 pl.isList pl'.isList λh' hz hTI hTO hi1 hi2 hsz hk=>?_
     have I2:L2.Inv X pins σ H1 { s1 with heap:=h' }:=I1.kept (t':=s1.toks) hk
     refine abn (s:={ s1 with heap:=h' }) hz ?_
     refine ⟨s1.heap.objs.size+4,[s1.heap.objs.size+4,s1.heap.objs.size+2,s1.heap.objs.size+3,s1.heap.objs.size,s1.heap.objs.size+1],_,_,H1,rfl,I2,Ww _ _ _ _ _ l l' (zipApart_new a1 a2),⟨hz,hTI,⟨_,_,hTO⟩,hi1,hi2⟩,λc hc=>?_,q⟩
     have fp:∀k,BD X pins H1 (s1.heap.objs.size+k):=λk=>I1.M5 (yH _ _) (I1.hok.fresh (yH _ _))
     rcases (show c=s1.heap.objs.size+4∨c=s1.heap.objs.size+2∨c=s1.heap.objs.size+3∨c=s1.heap.objs.size∨c=s1.heap.objs.size+1 by simpa using hc) with rfl | rfl | rfl | rfl | rfl
     ·exact fp 4
     ·exact fp 2
     ·exact fp 3
     ·exact fp 0
     ·exact fp 1
theorem VT {K:cj} (h:ta σ H λvs H1=>∃a b xs ys,vs=[.ref a,.ref b]∧bq K H1 a xs∧bq K H1 b ys∧R (Itz K a b) H1):adf K ta σ H R:=h
theorem zE {K:cj} (hn1:Km≤xs.length) (hn2:Km≤ys.length) (hn:xs.length≤Km∨ys.length≤Km) (hok:∀H2,ao H H2→bq K H2 a xs∧bq K H2 b ys) (hl:Km≤1000) (P:Nat→List V→Hp→Prop) (h0:P 0 [] H)
 (step:∀(D:aq) (i:Nat) (x y:V) (us:List V) (H2 H3:Hp) (p:aq) (lF:L2.St) (N:VK) (N0:Hp→Prop),lF.length=n→H D=none→H2 D=some (.lst us)→ao H H2→ao H2 H3→H3 p=some (.tup [x,y])→i<Km→xs[i]?=some x→ys[i]?=some y→us.length≤i→P i us (rm D H2) →
   (∀v H6,ao H3 H6→P (i+1) (us++[v]) (rm D H6)→N v H6)→(∀H5,ao H3 H5→P (i+1) us (rm D H5)→N0 H5) →
   g (.ref p) (lF++oR cap σ) H3 λσ2 H4=>(∃σ1,σ1.length=n∧σ2=σ1++oR cap σ)∧tt σ2 H4 λb H5=>if b=true then te σ2 H5 N else N0 H5)
 (done:∀(D:aq) (us:List V) (H2:Hp),H D=none→H2 D=some (.lst us)→ao H H2→us.length≤Km→P Km us (rm D H2)→Q (.ref D) H2):Pp n cap g tt te σ Q (Itz K a b) H:=by
 intro D hD
 refine ⟨λi m us H2=>H2 D=some (.lst us)∧ao H H2∧us.length≤i∧i≤Km∧m=Km-i∧P i us (rm D H2),⟨Km,av,bf 0#t hD,lX _,lX _,rfl,?_⟩,?_⟩
 ·rw [Ah]
  have e:rm D H=H:=by
   funext b
   by_cases h:b=D
   ·rw [h,hD];exact if_pos rfl
   ·exact ou h
  rw [e];exact h0
 ·rintro i m us H2 ⟨e,s,hu,hi,rfl,p⟩
  refine ⟨e,?_⟩
  obtain ⟨q,q'⟩:=hok H2 s
  by_cases hlt:i<Km
  ·refine .inr ⟨⟨xs,ys,xs[i],ys[i],q,q',jY _,jY _⟩,Gf (dR hu hi) (aN hl),λv H3 lF h0 y=>?_⟩
   obtain ⟨pt,x',y',hnp,rfl,rfl,hx,hy⟩:=y
   have s3:=jz hnp (.tup [x',y'])
   refine step D i x' y' us H2 _ pt lF _ _ h0 hD e s s3 av hlt (hx xs q) (hy ys q') hu p (λv H6 s6 p6=>?_) λH5 s5 p5=>?_
   ·refine ⟨(s3.trans s6) _ _ e,Km-(i+1),by simp?,av,bf (s.trans (s3.trans s6)) hD,?_,by simp?,rfl,?_⟩
    ·rw [fh,Kd];simp?
    ·rw [Ah];exact p6
   ·exact ⟨Km-(i+1),by simp?,(s3.trans s5) _ _ e,s.trans (s3.trans s5),by simp?,by simp?,rfl,p5⟩
  ·have ei:i=Km:=by simp?
   subst ei
   exact .inl ⟨⟨xs,ys,q,q',hn⟩,done D us H2 hD e s hu p⟩
end My
namespace Jd
open PySem PySem.Spec PyProof.Rows L2 My
theorem DK (K:cj)  (hg:Gl X "zip") (hm:X.mg "zip"=none) (ha:QA X [a,b] ta) (hs:bG [a,b] X.env=(false,eval a X.env)::bG [b] X.env:=by rfl) (hs2:bG [b] X.env=[(false,eval b X.env)]:=by rfl) (hK:X.K=K:=by rfl) :
 QI X (.Tuple elts kt tpos) (.Call (.Name "zip" p) [a,b] [] pos) (adf K ta):=⟨My.DK K hg hm ha.h hs hs2 hK⟩
end Jd
namespace My
open PySem PySem.Spec PyProof.Rows L2 Mth
def Fx (K:cj) (x:Str) (st:aU):Prop:=∃(f:aq) (fd:jW),jC K gC x=some (some (.ref f))∧su K x x st f fd
def Fm (K:cj) (C:aq) (m q:Str) (st:aU):Prop:=∃(f:aq) (fd:jW),lE K (.ref C) m=some (some (.ref f))∧Bv K (.ref f)=true∧su K m q st f fd
def Fi (K:cj) (C:aq) (q:Str) (st:aU):Prop:=∃(f:aq) (fd:jW),lE K (.ref C) "__init__"=some (some (.ref f))∧Qz K C f=true∧Bv K (.ref f)=true∧su K "__init__" q st f fd
theorem aeS {K:cj} {st:aU} {kV:aJ} (a:jC K gC x=some (some (.ref f))) (l:K.lookup f=some ⟨oc,od,.func (uP x x (gZ st) (fT st) (cL st) .none kV doc pm an cdv ct),osl⟩) (c:yL K cdv x=true) (k:yT K (.ref f)=true):Fx K x st:=⟨f,_,a,M6 l c k⟩
theorem aeP {K:cj} {q:Str} {st:aU} {f C:aq} {oc:aJ} {od an:Option aq} {kV doc pm cdv ct:aJ} (a:lE K (.ref C) "__init__"=some (some (.ref f))) (o:Qz K C f=true) (i:Bv K (.ref f)=true) (l:K.lookup f=some ⟨oc,od,.func (uP "__init__" q (gZ st) (fT st) (cL st) .none kV doc pm an cdv ct),osl⟩) (c:yL K cdv q=true) (k:yT K (.ref f)=true):Fi K C q st:=⟨f,_,a,o,i,M6 l c k⟩
theorem aeQ {K:cj} {m q:Str} {st:aU} {f C:aq} {oc:aJ} {od an:Option aq} {kV doc pm cdv ct:aJ} (a:lE K (.ref C) m=some (some (.ref f))) (i:Bv K (.ref f)=true) (l:K.lookup f=some ⟨oc,od,.func (uP m q (gZ st) (fT st) (cL st) .none kV doc pm an cdv ct),osl⟩) (c:yL K cdv q=true) (k:yT K (.ref f)=true):Fm K C m q st:=⟨f,_,a,i,M6 l c k⟩
section
variable (P:jA) (w:fN) (base:cP) {K:cj} {mg:Str→Option aJ} {h:cP} {k:Nat} {x m q:Str} {ps:List Str} {sp:Sp} {st:aU} {f C:aq} {fd:jW}
theorem dnm (X:K.In h) (G:h.Ns gC mg) (a:jC K gC x=some (some (.ref f))) (F:su K x x st f fd) (ok:bh P w K mg base dm k f fd ps sp) (b:Binds K fd ps []):Dn P w K mg base k x ps sp:=aeD F ok (ER X G a) b
theorem dmm (a:lE K (.ref C) m=some (some (.ref f))) (i:Bv K (.ref f)=true) (F:su K m q st f fd) (ok:bh P w K mg base dm k f fd ps sp) (b:Binds K fd ps []):Dm P w K mg base k C m ps sp:=⟨f,fd,ok,⟨a,i,F.kp⟩,b⟩
end
structure Tp (P:jA) (w:fN) (K:cj) (mg:Str→Option aJ) (base:cP):Prop where
 ex:∃h:cP,K.In h∧h.Ns gC mg
theorem Tp.d {K:cj} {st:aU} (Y:Tp P w K mg base) (h:Fx K x st) (ok:∀{f fd},su K x x st f fd→bh P w K mg base dm k f fd ps sp) (b:∀{f fd},su K x x st f fd→Binds K fd ps []:=by intro _ _ F;first | exact F.HD λ_ _ _ _ _ _ _ _=>rfl | exact F.T8 λ_ _ _ _ _ _ _=>rfl | exact F.T9 λ_ _ _ _ _ _ _ _ _=>rfl | exact F.Ua λ_ _ _ _ _ _ _ _ _ _=>rfl | exact F.acA λ_ _ _ _ _ _ _ _ _ _ _=>rfl):Dn P w K mg base k x ps sp:=
 have ⟨_,X,G⟩:=Y.ex
 have ⟨_,_,a,F⟩:=h
 dnm P w base X G a F (ok F) (b F)
theorem Tp.m {P:jA} {w:fN} {K:cj} {mg:Str→Option aJ} {base:cP} {m q:Str} {C:aq} {st:aU} {k:Nat} {ps:List Str} {sp:Sp} (_:Tp P w K mg base) (h:Fm K C m q st) (ok:∀{f fd},su K m q st f fd→bh P w K mg base dm k f fd ps sp) (b:∀{f fd},su K m q st f fd→Binds K fd ps []:=by intro _ _ F;first | exact F.HD λ_ _ _ _ _ _ _ _=>rfl | exact F.T8 λ_ _ _ _ _ _ _=>rfl | exact F.T9 λ_ _ _ _ _ _ _ _ _=>rfl | exact F.Ua λ_ _ _ _ _ _ _ _ _ _=>rfl):Dm P w K mg base k C m ps sp:=
 have ⟨_,_,a,i,F⟩:=h
 dmm P w base a i F (ok F) (b F)
theorem aim (h:te σ H λx H1=>tl σ H1 λl H2=>th σ H2 λu H3=>r x l u H3 Q):tSl r te tl th σ H Q:=h
theorem ad0 (h:t σ H λx H1=>∃i,x=.int i∧R (some i) H1):Wu t σ H R:=h
theorem VQ (h:R none H):J3 σ H R:=h
theorem ail {R:Int→Prop} (h:R i):∃j,V.int i=V.int j∧R j:=⟨i,rfl,h⟩
theorem acD {m:Nat} (h1:n≤m) (h2:m≤xs.length):j8 xs (some (n:Int)) (some (m:Int))=(xs.drop n).take (m-n):=by
 unfold j8
 rw [HT.Ct,HT.Ct,Br h2,Br (dR h1 h2)]
theorem acE (xs:List V) (n:Nat):j8 xs (some (n:Int)) none=xs.drop n:=by
 unfold j8
 rw [HT.Ct,show HT.G2 xs.length xs.length none=xs.length from rfl]
 rcases abZ n xs.length with z | z
 ·rw [Br z]
  exact Mh (by rw [mO];exact dS _)
 ·rw [abo z,Q5 z,Q5 (dS _)]
  simp
theorem vB {K:cj} {lo:Option Int} (h:H a=some (.lst xs)) (k:∀(p:aq) (H':Hp),ao H H'→H p=none→H' p=some (.lst (j8 xs lo hi))→Q (.ref p) H'):adL K (.ref a) lo hi H Q:=
 ⟨a,xs,rfl,bq.of h,λp hp=>k p _ (jz hp _) hp av⟩
mutual
theorem Den.up (s:ao H H'):∀{v:V} {d:qC},Den H v d→Den H' v d
 | _,_,.bK=>.bK
 | _,_,.bl b=>.bl b
 | _,_,.int i=>.int i
 | _,_,.str x=>.str x
 | _,_,.tup e dd=>.tup (s _ _ e) (sr.up s dd)
 | _,_,.lst e dd=>.lst (s _ _ e) (sr.up s dd)
theorem sr.up (s:ao H H'):∀{vs:List V} {ds:List qC},sr H vs ds→sr H' vs ds
 | _,_,.nil=>.nil
 | _,_,.cons d dd=>.cons (Den.up s d) (sr.up s dd)
end
end My
namespace My
open PySem PySem.Spec PySem.Calls PyProof.Rows L2 Mth
structure aet (K:cj) (x qual:Str) (st:aU) (f:aq) (fd:jW) (d:aJ):Prop where
 ex:∃(T:aq) (oc:aJ) (od:Option aq) (kV doc pm:aJ) (an:Option aq) (cdv ct:aJ) (osl:Array (Option aJ)) (tc:aJ) (td:Option aq) (tn:Nat) (tsl:Array (Option aJ)),
  fd=uP x qual (gZ st) (fT st) (cL st) (.ref T) kV doc pm an cdv ct∧K.lookup f=some ⟨oc,od,.func fd,osl⟩∧yL K cdv qual=true∧K.lookup T=some ⟨tc,td,.seq #[d] tn,tsl⟩
 kp:yT K (.ref f)=true
def Fxd (K:cj) (x:Str) (st:aU) (i:Int):Prop:=∃(f:aq) (fd:jW) (tk:Tok),jC K gC x=some (some (.ref f))∧aet K x x st f fd (.int i tk)
theorem acW {K:cj} {x:Str} {st:aU} {i:Int} {f T:aq} {oc tc:aJ} {od an td:Option aq} {osl:Array (Option aJ)} {kV doc pm cdv ct:aJ} {tk:Tok} {tn:Nat} (a:jC K gC x=some (some (.ref f)))
 (l:K.lookup f=some ⟨oc,od,.func (uP x x (gZ st) (fT st) (cL st) (.ref T) kV doc pm an cdv ct),osl⟩) (t:K.lookup T=some ⟨tc,td,.seq #[.int i tk] tn,tsl⟩) (c:yL K cdv x=true) (k:yT K (.ref f)=true):Fxd K x st i:=
 ⟨f,_,tk,a,⟨T,oc,od,kV,doc,pm,an,cdv,ct,osl,tc,td,tn,tsl,rfl,l,c,t⟩,k⟩
def Gt (K:cj) (x:Str) (a:aq) (z1 z2 z3 z4:Str):Prop:=jC K gC x=some (some (.ref a))∧∀H,tD K H a [.str z1,.str z2,.str z3,.str z4]
theorem aeT {K:cj} (h:jC K gC x=some (some (.ref a)))
 (l:K.lookup a=some ⟨.type "tuple",td,.seq #[.str z1 t1,.str z2 t2,.str z3 t3,.str z4 t4] n,sl⟩):Gt K x a z1 z2 z3 z4:=
 ⟨h,λ_=>.inr ⟨_,_,_,l,rfl,rfl,by show 4≤sizeLine;decide,.cons ⟨t1,rfl⟩ (.cons ⟨t2,rfl⟩ (.cons ⟨t3,rfl⟩ (.cons ⟨t4,rfl⟩ .nil)))⟩⟩
def Fxb (K:cj) (x:Str) (st:aU) (b:Bool):Prop:=∃(f:aq) (fd:jW),jC K gC x=some (some (.ref f))∧aet K x x st f fd (.bool b)
theorem acV {K:cj} {x:Str} {st:aU} {b:Bool} {f T:aq} {oc tc:aJ} {od an td:Option aq} {osl:Array (Option aJ)} {kV doc pm cdv ct:aJ} {tn:Nat} (a:jC K gC x=some (some (.ref f)))
 (l:K.lookup f=some ⟨oc,od,.func (uP x x (gZ st) (fT st) (cL st) (.ref T) kV doc pm an cdv ct),osl⟩) (t:K.lookup T=some ⟨tc,td,.seq #[.bool b] tn,tsl⟩) (c:yL K cdv x=true) (k:yT K (.ref f)=true):Fxb K x st b:=
 ⟨f,_,a,⟨T,oc,od,kV,doc,pm,an,cdv,ct,osl,tc,td,tn,tsl,rfl,l,c,t⟩,k⟩
end My
namespace Jd
open PySem PySem.Spec PyProof.Rows L2 Mth My
def Cm:bA→Bool
 | .Starred ..=>false
 | _=>true
theorem oJ (h:Cm e=true):bG (e::es) env=(false,eval e env)::bG es env:=by
 cases e <;> first | rfl | cases h
theorem a1 {X:Cx} {a:bA} {ta:TE} (h1:QE X a ta) (n1:Cm a=true:=by rfl):QA X [a] (gW ta rK):=lI h1 wB (oJ n1)
theorem a2 {X:Cx} {a b:bA} {ta tb:TE} (h1:QE X a ta) (h2:QE X b tb) (n1:Cm a=true:=by rfl) (n2:Cm b=true:=by rfl):QA X [a,b] (gW ta (gW tb rK)):=lI h1 (a1 h2 n2) (oJ n1)
theorem a3 (h1:QE X a ta) (h2:QE X b tb) (h3:QE X c tc) (n1:Cm a=true:=by rfl) (n2:Cm b=true:=by rfl) (n3:Cm c=true:=by rfl):QA X [a,b,c] (gW ta (gW tb (gW tc rK))):=lI h1 (a2 h2 h3 n2 n3) (oJ n1)
theorem a4 (h1:QE X a ta) (h2:QE X b tb) (h3:QE X c tc) (h4:QE X d td) (n1:Cm a=true:=by rfl) (n2:Cm b=true:=by rfl) (n3:Cm c=true:=by rfl) (n4:Cm d=true:=by rfl):QA X [a,b,c,d] (gW ta (gW tb (gW tc (gW td rK)))):=lI h1 (a3 h2 h3 h4 n2 n3 n4) (oJ n1)
theorem c1 (D:Dn X.prog X.w X.K X.mg X.base k x ps sp) (hr:jj m X.A) (h1:QE X a ta) (hk:k≤m:=by decide) (hg:Gl X x:=by rfl) (hd:0#x=false:=by decide) (n1:Cm a=true:=by rfl):QE X (.Call (.Name x p) [a] [] pos) (EG sp [] E0 (gW ta rK)):=GU D (hr.mono hk) hg (a1 h1 n1) hd (oJ n1) cR
theorem c2 {X:Cx} {a b:bA} {ta tb:TE} {pos p:Pos} {x:Str} {k m:Nat} {ps:List Str} {sp:Sp} (D:Dn X.prog X.w X.K X.mg X.base k x ps sp) (hr:jj m X.A) (h1:QE X a ta) (h2:QE X b tb) (hk:k≤m:=by decide) (hg:Gl X x:=by rfl) (hd:0#x=false:=by decide) (n1:Cm a=true:=by rfl) (n2:Cm b=true:=by rfl):QE X (.Call (.Name x p) [a,b] [] pos) (EG sp [] E0 (gW ta (gW tb rK))):=GU D (hr.mono hk) hg (a2 h1 h2 n1 n2) hd (oJ n1) (cO (oJ n2) cR)
theorem c3 (D:Dn X.prog X.w X.K X.mg X.base k x ps sp) (hr:jj m X.A) (h1:QE X a ta) (h2:QE X b tb) (h3:QE X c tc) (hk:k≤m:=by decide) (hg:Gl X x:=by rfl) (hd:0#x=false:=by decide) (n1:Cm a=true:=by rfl) (n2:Cm b=true:=by rfl) (n3:Cm c=true:=by rfl):QE X (.Call (.Name x p) [a,b,c] [] pos) (EG sp [] E0 (gW ta (gW tb (gW tc rK)))):=GU D (hr.mono hk) hg (a3 h1 h2 h3 n1 n2 n3) hd (oJ n1) (cO (oJ n2) (cO (oJ n3) cR))
theorem ahR {X:Cx} {a:bA} {ta:TE} {pos p:Pos} (K:cj) (hm:X.mg "len"=none) (h1:QE X a ta) (h:X.K=K:=by rfl) (hg:Gl X "len":=by rfl) (n1:Cm a=true:=by rfl):QE X (.Call (.Name "len" p) [a] [] pos) (tCB (adJ K) (gW ta rK)):=by
 subst h
 exact xX (afl X.K) hg hm abC (a1 h1 n1) (he:=oJ n1) (hpl:=cR)
theorem iT {X:Cx} {a:bA} {ta:TE} {pos:Pos} (K:cj) (h1:QE X a ta) {n:Int} {j:Nat} {q:Pos} (h:X.K=K:=by rfl):QE X (.Subscript a (.Constant (.int n) j q) pos) (Wt (OD K) ta (tC (.int n))):=by
 subst h
 exact LI (MI X.K) h1 DG λ_ _=>rfl
theorem iL {X:Cx} {a:bA} {ta:TE} {pos:Pos} (K:cj) (h1:QE X a ta) {n:Int} {j:Nat} {q:Pos} (h:X.K=K:=by rfl):QE X (.Subscript a (.Constant (.int n) j q) pos) (Wt (Zx K) ta (tC (.int n))):=by
 subst h
 exact LI (gU X.K) h1 DG λ_ _=>rfl
theorem sE {X:Cx} {e:bA} {te:TE} {pos:Pos} {x:Str} (i:Nat) {pos':Pos} (hN:X.N.Nodup) (he:QE X e te) (hi:X.N[i]?=some x:=by rfl) (hx:Loc X.env.scope x:=by exact Or.inl rfl) (hs:mS e (some (.Name x pos')) pos.line X.env=pure false:=by rfl) (hf:X.fn x=true∨X.env.scope.names.lookup x=some .local:=by first | exact .inl rfl | exact .inr rfl | assumption):QS X (.Assign [.Name x pos'] e pos) (Ga te (jw i)):=Jj hN hi hx he hs hf
end Jd
abbrev aa:=@Jd.pv
abbrev ah:=@Jd.DP
abbrev au:=@Jd.DG
abbrev aD:=@Jd.Jl
abbrev aF:=@Jd.VF
abbrev aH:=@Jd.iT
abbrev aL:=@Jd.sE
abbrev aX:=@Jd.Oz
abbrev bD:=@Jd.Jm
abbrev bF:=@Jd.go
abbrev bL:=@Jd.a2
abbrev bO:=@Jd.LI
abbrev bW:=@Jd.Oo
abbrev bZ:=@Jd.c2
abbrev cy:=@Jd.VJ
abbrev cB:=@Jd.Jb
abbrev cG:=@Jd.Jk
abbrev dO:=@Jd.Oi
abbrev dZ:=@Jd.a1
abbrev fm:=@Jd.Jh
abbrev fL:=@Jd.lI
abbrev fS:=@Jd.Oh
abbrev fU:=@Jd.Oj
abbrev gH:=@Jd.wB
abbrev ia:=@Jd.acy
abbrev iP:=@Jd.Ox
abbrev eE:=@Jd.piL
abbrev fj:=@Jd.ahR
abbrev gF:=@Jd.VH
abbrev iz:=@Jd.xX
abbrev iA:=@Jd.GU
abbrev iH:=@Jd.DJ
abbrev jg:=@Jd.Ow
abbrev lR:=@Jd.VA
abbrev mR:=@Jd.Om
abbrev oW:=@Jd.Ja
abbrev oX:=@Jd.Jo
abbrev oY:=@Jd.Jj
abbrev qf:=@Jd.OA
abbrev rW:=@Jd.DI
abbrev rX:=@Jd.Je
abbrev rY:=@Jd.Jf
abbrev tK:=@Jd.Jc
abbrev tL:=@Jd.I0
abbrev vv:=@Jd.Jg
abbrev vz:=@Jd.Jp
abbrev vA:=@Jd.DF
abbrev xH:=@Jd.Aa
abbrev xJ:=@Jd.Ab
namespace My
open PySem PySem.Spec PyProof.Rows L2 Mth
theorem MW {K:cj} (hok:∀H2,ao H H2→bq K H2 a xs) (hl:xs.length≤1000) (P:Nat→List V→Hp→Prop) (h0:P 0 [] H)
 (step:∀(D:aq) (i:Nat) (x:V) (us:List V) (H2 H3:Hp) (p:aq) (lF:L2.St) (N:VK) (N0:Hp→Prop),lF.length=n→H D=none→H2 D=some (.lst us)→ao H H2→ao H2 H3→H3 p=some (.tup [.int (i:Int),x])→xs[i]?=some x→us.length≤i→P i us (rm D H2) →
   (∀v H6,ao H3 H6→P (i+1) (us++[v]) (rm D H6)→N v H6)→(∀H5,ao H3 H5→P (i+1) us (rm D H5)→N0 H5) →
   g (.ref p) (lF++oR cap σ) H3 λσ2 H4=>(∃σ1,σ1.length=n∧σ2=σ1++oR cap σ)∧tt σ2 H4 λb H5=>if b=true then te σ2 H5 N else N0 H5)
 (done:∀(D:aq) (us:List V) (H2:Hp),H D=none→H2 D=some (.lst us)→ao H H2→us.length≤xs.length→P xs.length us (rm D H2)→Q (.ref D) H2):Pp n cap g tt te σ Q (Ite K a) H:=by
 intro D hD
 refine ⟨λi m us H2=>H2 D=some (.lst us)∧ao H H2∧us.length≤i∧i≤xs.length∧m=xs.length-i∧P i us (rm D H2),⟨xs.length,av,bf 0#t hD,lX _,lX _,rfl,?_⟩,?_⟩
 ·rw [Ah]
  have e:rm D H=H:=by
   funext b
   by_cases h:b=D
   ·rw [h,hD];exact if_pos rfl
   ·exact ou h
  rw [e];exact h0
 ·rintro i m us H2 ⟨e,s,hu,hi,rfl,p⟩
  refine ⟨e,?_⟩
  have q:=hok H2 s
  by_cases hlt:i<xs.length
  ·refine .inr ⟨⟨xs,xs[i],q,jY _⟩,Gf (dR hu hi) (aN hl),λv H3 lF h0 y=>?_⟩
   obtain ⟨pt,x',hnp,rfl,rfl,hx⟩:=y
   have s3:=jz hnp (.tup [.int (i:Int),x'])
   refine step D i x' us H2 _ pt lF _ _ h0 hD e s s3 av (hx xs q) hu p (λv H6 s6 p6=>?_) λH5 s5 p5=>?_
   ·refine ⟨(s3.trans s6) _ _ e,xs.length-(i+1),by simp?,av,bf (s.trans (s3.trans s6)) hD,?_,by simp?,rfl,?_⟩
    ·rw [fh,Kd];simp?
    ·rw [Ah];exact p6
   ·exact ⟨xs.length-(i+1),by simp?,(s3.trans s5) _ _ e,s.trans (s3.trans s5),by simp?,by simp?,rfl,p5⟩
  ·have ei:i=xs.length:=by simp?
   subst ei
   exact .inl ⟨⟨xs,q,dS _⟩,done D us H2 hD e s hu p⟩
end My
local macro_rules | `(tactic| rw?) => `(tactic| repeat (first
 | apply_rules (transparency:=.reducible) (exfalso:=false) (symm:=false) only [My.afU,My.afV,My.afS,My.adT,My.aih,My.VP,My.adS,My.Zy,My.afI,My.ad2,My.adX,My.adV,My.r_c,My.aij,My.air,My.afG,My.r_U,My.ad3,My.r_B,My.ah7,My.ah9,My.adR,My.afP,My.afW,My.afM,My.adP,My.afR,My.r_g,My.adM,My.adO,My.adQ,My.afZ,My.adU,My.afN,My.afO,My.afX,My.ah8,My.afQ,My.afH,My.aik,My.adN,My.adZ,My.afK]
  | ((with_reducible refine' My.afY ?e1 ?_); (case e1 => rfl))
  | ((with_reducible refine My.iF ?e7 ?_); (case e7 => first | decide | assumption | exact ⟨by decide, by decide, by decide⟩ | (show (0 : Int) < _; first | decide | simp?) | exact My.mulR (by decide) (by decide) | exact My.mulL (by decide) (by decide)))
  | ((with_reducible refine My.aid ?e2 ?_); (case e2 => rfl))
  | ((with_reducible refine My.aii ?e3 ?_); (case e3 => rfl))
  | ((with_reducible refine' My.ain ?e4 ?_); (case e4 => assumption))
  | ((with_reducible refine' My.aio ?e5 ?_); (case e5 => assumption))
  | ((with_reducible refine' My.aip ?e6 ?_); (case e6 => assumption))
  | ((with_reducible refine' My.aiq ?e8 ?_); (case e8 => assumption))))
local macro_rules | `(tactic| try?) => `(tactic| first
 | assumption
 | exact nA (by assumption)
 | exact EU (by assumption) (by assumption)
 | exact rP (by assumption) (by assumption)
 | exact dR (by assumption) (by assumption)
 | exact Xm (by assumption)
 | exact Int.ne_of_gt (by assumption)
 | exact Int.ne_of_lt (by assumption)
 | exact Rc _
 | lia
 | omega)
local macro_rules | `(tactic| walk_at "fx") => `(tactic| (refine' My.aeS ?a ?l ?c ?k; (case a => k_is); (case l => k_is); (case c => k_is); (case k => k_is)))
local macro_rules | `(tactic| walk_at "fm") => `(tactic| (refine' My.aeQ ?a ?i ?l ?c ?k; (case a => k_is); (case i => k_is); (case l => k_is); (case c => k_is); (case k => k_is)))
local macro_rules | `(tactic| walk_at "fi") => `(tactic| (refine' My.aeP ?a ?o ?i ?l ?c ?k; (case a => k_is); (case o => kernel_rfl); (case i => k_is); (case l => k_is); (case c => k_is); (case k => k_is)))
local macro_rules | `(tactic| walk_at "fd") => `(tactic| (refine' My.acW ?a ?l ?t ?c ?k; (case a => k_is); (case l => k_is); (case t => k_is); (case c => k_is); (case k => k_is)))
local macro_rules | `(tactic| walk_at "fb") => `(tactic| (refine' My.acV ?a ?l ?t ?c ?k; (case a => k_is); (case l => k_is); (case t => k_is); (case c => k_is); (case k => k_is)))
local macro_rules | `(tactic| walk_at "fg") => `(tactic| (refine' My.aeT ?h ?l; (case h => k_is); (case l => k_is)))
local macro_rules | `(tactic| walk_at "fy") => `(tactic| (refine' My.ahm ?a ?l ?c ?k; (case a => k_is); (case l => k_is); (case c => k_is); (case k => k_is)))
local macro_rules | `(tactic| walk_at "fe") => `(tactic| (refine' My.ahl ?a ?j ?l ?t ?c ?k; (case a => k_is); (case j => k_is); (case l => k_is); (case t => k_is); (case c => k_is); (case k => k_is)))
local macro_rules | `(tactic| walk_at "fz") => `(tactic| first | walk_at "fx" | walk_at "fy" | walk_at "fe" | walk_at "fd" | walk_at "fb" | walk_at "fg" | walk_at "fm" | walk_at "fi" | k_is | k_exc | kts_exm | kit_is)
local macro_rules | `(tactic| walk_at "vs") => `(tactic| first
  | with_reducible refine My.aim ?_
  | with_reducible refine My.ad0 ?_
  | with_reducible refine My.VQ ?_
  | with_reducible refine My.ail ?_)
local macro_rules | `(tactic| walk_at "vd") => `(tactic| ((rw?); (repeat ((walk_at "vs"); (rw?)))))
local macro_rules | `(tactic| walk_at "ve") => `(tactic| ((rw?); (repeat ((first | with_reducible refine My.aia ?_ | with_reducible refine My.aic ?_ | with_reducible refine My.aie ?_ | with_reducible refine My.aib ?_ | with_reducible refine My.aiQ ?_ | with_reducible refine My.aiP ?_ | with_reducible refine My.aiR ?_); (rw?)))))
--@squeeze
--@short
--@mini
--@ind
--@exn
--@lam
--@join
--@twins 250
--@slim
--@pack 48
namespace Lw
inductive RM {A0 A1:Type} (p:A0→A1→Prop):Prop
 | mk (a0:A0) (a1:A1):p a0 a1→RM p
inductive Py {A0 A1 A2:Type} (p:A0→A1→A2→Prop):Prop
 | mk (a0:A0) (a1:A1) (a2:A2):p a0 a1 a2→Py p
inductive XE {A0 A1 A2 A3:Type} (p:A0→A1→A2→A3→Prop):Prop
 | mk (a0:A0) (a1:A1) (a2:A2) (a3:A3):p a0 a1 a2 a3→XE p
inductive Xs5 {A0 A1 A2 A3 A4:Type} (p:A0→A1→A2→A3→A4→Prop):Prop
 | mk (a0:A0) (a1:A1) (a2:A2) (a3:A3) (a4:A4):p a0 a1 a2 a3 a4→Xs5 p
inductive Xs6 {A0 A1 A2 A3 A4 A5:Type} (p:A0→A1→A2→A3→A4→A5→Prop):Prop
 | mk (a0:A0) (a1:A1) (a2:A2) (a3:A3) (a4:A4) (a5:A5):p a0 a1 a2 a3 a4 a5→Xs6 p
inductive Xs7 {A0 A1 A2 A3 A4 A5 A6:Type} (p:A0→A1→A2→A3→A4→A5→A6→Prop):Prop
 | mk (a0:A0) (a1:A1) (a2:A2) (a3:A3) (a4:A4) (a5:A5) (a6:A6):p a0 a1 a2 a3 a4 a5 a6→Xs7 p
inductive Xs8 {A0 A1 A2 A3 A4 A5 A6 A7:Type} (p:A0→A1→A2→A3→A4→A5→A6→A7→Prop):Prop
 | mk (a0:A0) (a1:A1) (a2:A2) (a3:A3) (a4:A4) (a5:A5) (a6:A6) (a7:A7):p a0 a1 a2 a3 a4 a5 a6 a7→Xs8 p
inductive Xs9 {A0 A1 A2 A3 A4 A5 A6 A7 A8:Type} (p:A0→A1→A2→A3→A4→A5→A6→A7→A8→Prop):Prop
 | mk (a0:A0) (a1:A1) (a2:A2) (a3:A3) (a4:A4) (a5:A5) (a6:A6) (a7:A7) (a8:A8):p a0 a1 a2 a3 a4 a5 a6 a7 a8→Xs9 p
inductive aex {A0 A1 A2 A3 A4 A5 A6 A7 A8 A9:Type} (p:A0→A1→A2→A3→A4→A5→A6→A7→A8→A9→Prop):Prop
 | mk (a0:A0) (a1:A1) (a2:A2) (a3:A3) (a4:A4) (a5:A5) (a6:A6) (a7:A7) (a8:A8) (a9:A9):p a0 a1 a2 a3 a4 a5 a6 a7 a8 a9→aex p
inductive aey {A0 A1 A2 A3 A4 A5 A6 A7 A8 A9 A10:Type} (p:A0→A1→A2→A3→A4→A5→A6→A7→A8→A9→A10→Prop):Prop
 | mk (a0:A0) (a1:A1) (a2:A2) (a3:A3) (a4:A4) (a5:A5) (a6:A6) (a7:A7) (a8:A8) (a9:A9) (a10:A10):p a0 a1 a2 a3 a4 a5 a6 a7 a8 a9 a10→aey p
inductive aez {A0 A1 A2 A3 A4 A5 A6 A7 A8 A9 A10 A11:Type} (p:A0→A1→A2→A3→A4→A5→A6→A7→A8→A9→A10→A11→Prop):Prop
 | mk (a0:A0) (a1:A1) (a2:A2) (a3:A3) (a4:A4) (a5:A5) (a6:A6) (a7:A7) (a8:A8) (a9:A9) (a10:A10) (a11:A11):p a0 a1 a2 a3 a4 a5 a6 a7 a8 a9 a10 a11→aez p
open PySem L2 Mth My
def top (i:Nat):aU:=PySem.Challenge.pw_lath_k71_sure.main.body.getD i (.Pass ⟨0,0,0,0⟩)
abbrev wI:aU:=top 95
abbrev Ao:aU:=top 96
abbrev Aq:aU:=top 97
abbrev uo:aU:=top 98
abbrev mJ:aU:=top 9
abbrev lu:aU:=top 10
abbrev Al:aU:=top 11
abbrev Jz:aU:=top 13
abbrev As:aU:=top 14
abbrev rE:aU:=top 15
abbrev lK:aU:=top 16
abbrev pT:aU:=top 17
abbrev Jx:aU:=top 19
abbrev OJ:aU:=top 18
abbrev OI:aU:=top 21
abbrev jy:aU:=top 28
abbrev pR:aU:=top 29
abbrev oE:aU:=top 30
abbrev ux:aU:=top 31
abbrev JA:aU:=top 32
abbrev Ar:aU:=top 33
abbrev DZ:aU:=top 34
abbrev OH:aU:=top 35
abbrev Jy:aU:=top 22
abbrev OM:aU:=top 23
abbrev pS:aU:=top 43
abbrev OL:aU:=top 56
abbrev rD:aU:=top 99
abbrev uu:aU:=top 100
abbrev rC:aU:=top 101
abbrev uf:aU:=top 102
abbrev lg:aU:=top 37
abbrev rq:aU:=top 103
abbrev uq:aU:=top 104
abbrev wG:aU:=top 25
abbrev wO:aU:=top 26
abbrev pP:aU:=top 38
abbrev Jw:aU:=top 39
abbrev t8:aU:=top 40
abbrev Aj:aU:=top 41
abbrev jM:aU:=top 77
abbrev mH:aU:=top 78
abbrev wR:aU:=top 79
abbrev wQ:aU:=top 80
abbrev JB:aU:=top 81
abbrev Jv:aU:=top 82
abbrev oz:aU:=inClass (top 60) 0
abbrev mF:aU:=top 58
abbrev mK:aU:=top 59
abbrev mD:aU:=inClass (top 60) 1
abbrev oA:aU:=inClass (top 60) 2
abbrev uy:aU:=top 61
abbrev oG:aU:=top 46
abbrev pN:aU:=top 47
abbrev pV:aU:=top 48
abbrev t6:aU:=top 49
abbrev mE:aU:=top 50
abbrev JC:aU:=top 44
abbrev JD:aU:=top 20
abbrev OG:aU:=top 51
abbrev pU:aU:=top 63
abbrev rg:aU:=top 64
abbrev oB:aU:=top 65
abbrev Ju:aU:=top 66
abbrev wM:aU:=top 24
abbrev rj:aU:=top 68
abbrev Av:aU:=top 69
abbrev tX:aU:=inClass (top 70) 0
abbrev ow:aU:=inClass (top 70) 4
abbrev jn:aU:=inClass (top 70) 2
abbrev jq:aU:=inClass (top 70) 3
abbrev tY:aU:=inClass (top 70) 1
abbrev mC:aU:=inClass (top 70) 5
abbrev wL:aU:=top 72
abbrev wN:aU:=top 73
abbrev oF:aU:=top 74
abbrev D0:aU:=top 75
abbrev wJ:aU:=top 105
abbrev wK:aU:=top 106
abbrev uw:aU:=top 107
abbrev kh:aU:=top 90
abbrev mG:aU:=top 91
abbrev Au:aU:=top 87
abbrev An:aU:=top 108
abbrev ur:aU:=top 109
abbrev t9:aU:=top 110
abbrev uv:aU:=top 111
abbrev rz:aU:=top 113
abbrev um:aU:=top 112
abbrev kZ:aU:=top 92
abbrev ON:aU:=top 93
abbrev pQ:aU:=top 12
abbrev wH:aU:=top 54
abbrev Ak:aU:=top 55
abbrev tZ:aU:=top 85
abbrev pO:aU:=top 86
abbrev DY:aU:=top 88
abbrev Am:aU:=top 114
abbrev uh:aU:=top 115
abbrev V1:aU:=top 116
inductive OW (K:cj) (vs:List V) (H:Hp) (Q:VK) (E_:XK):Prop where
 | mk (a:aq) (ns:List Int) (i:Int):vs=[.ref a,.int i]→bq K H a 0#E→0≤i→i<1000→(∀(c:Int) (H':Hp),ao H H'→Q (.int c) H')→OW K vs H Q E_
inductive Wh (vs:List V) (H:Hp) (Q:VK) (E_:XK):Prop where
 | mk (c k:Int):vs=[.int c,.int k]→0≤k→k<1000→(∀z:Int,Q (.int z) H)→Wh vs H Q E_
inductive Wj (K:cj) (vs:List V) (H:Hp) (Q:VK) (E_:XK):Prop where
 | mk (a:aq) (ns:List Int) (i:Int) (l:aq) (zs:List Int):vs=[.ref a,.int i,.ref l]→bq K H a 0#E→0≤i→i<900→H l=some (.lst (zs.map V.int))→zs.length≤900→(∀z∈zs,0<z∧z<2 ^ 60)→(∀(p:aq) (xs:List Int) (H':Hp),ao H H'→H p=none→H' p=some (.lst (xs.map V.int))→xs.length=zs.length→(∀(j:Nat) (x z:Int),xs[j]?=some x→zs[j]?=some z→0≤x∧x<z)→Q (.ref p) H')→Wj K vs H Q E_
inductive yr (vs:List V) (H:Hp) (Q:VK) (E_:XK):Prop where
 | mk (t b:Int):vs=[.int t,.int b]→0<b→Sz 8000 b→(∀(p:aq) (t' b':Int) (H':Hp),ao H H'→H' p=some (.tup [.int t',.int b'])→Z4 t b t' b'→Q (.ref p) H')→yr vs H Q E_
structure Txt (mg:Str→Option aJ):Prop where
 i7:mg "len"=none
 zD:mg "abs"=none
 range:mg "range"=none
 Lf:mg "isinstance"=none
 ahO:mg "int"=none
 aiw:mg "bool"=none
 aem:mg "tuple"=none
 Qq:mg "list"=none
 U7:mg "max"=none
 Y8:mg "min"=none
 CY:mg "enumerate"=none
 aep:mg "zip"=none
 aiy:mg "all"=none
 aiz:mg "any"=none
 aiT:mg "sum"=none
 ZQ:mg "sorted"=none
 aeq:mg "reversed"=none
 aiS:mg "str"=none
theorem YU {ns:List Int} (h0:0≤i) (h:i<(ns.length:Int)):∃v:Int,sI 0#E i=some (.int v):=by
 have hk:i.toNat<ns.length:=by try?
 exact ⟨ns[i.toNat],bM (jY hk) 0#c⟩
theorem Yg {ns:List Int} {i:Nat} (h:(j8 0#E lo hi)[i]?=some y):∃m:Int,y=.int m:=by
 have hm:y∈j8 0#E lo hi:=mT h
 unfold j8 at hm
 obtain ⟨m,_,e⟩:=jB.mp (WM (Mp hm))
 exact ⟨m,e.symm⟩
theorem Qv (x y:Nat):((x:Int) % (y:Int))=((x % y:Nat):Int):=(Int.natCast_emod x y).symm
theorem jv (t:Int):(if t<0 then -t else t)=(t.natAbs:Int):=by split <;> try?
def Ud (i:Nat) (σ:St):Nat:=match σ[i]? with | some (some (V.int n))=>n.toNat | _=>0
def aau (σ:St):Nat:=match σ[3]? with | some (some (V.int n))=>n.toNat | _=>0
theorem pA:fz 2 [bI,cH,"_law_seed",gn] wI:=0#a
theorem Ly (F:fO K "_law_cell" wI f fd) (T:Txt mg):bh P w K mg base dm 1 f fd [bI,cH] (OW K):=by
 refine F.eU pA λcdv A outer s H vs Q E hr h=>?_
 obtain ⟨a,ns,i,rfl,hS,h0,h1,k⟩:=h
 apply bF ⟨_,(ah (cy (bD oh 0#n (fj K T.i7 0#h) 0#K) (aD (aX (bO (gU K) 0#h 0#n 0#g))) cG) (ah (aL 2 pA.nd au) (ah (iP gR rfl (eE K (rW (TM K) 0#h rX (rY au))) (cB (i:=3) pA.nd rfl 0#k) (aD (aL 2 pA.nd (aF jl (aF bB (aF bB (aF aS 0#q au) (aF jl 0#A au)) au) au)))) (aD (aX (aF jl (aF bB 0#q (aF aS au 0#n)) au)))))),?_⟩
 apply dW (.inl hS) ?_
 refine c6 0#w 0#w
 ·have c':=dM c
  rw [gI] at c'
  obtain ⟨v,hv⟩:=YU (ns:=ns) h0 c'
  rw?
  exact ⟨a,_,i,_,rfl,rfl,hS,hv,k v H 0#t⟩
 ·rw?
  refine ⟨_,rfl,_,rfl,a,_,rfl,hS,λp hp=>?_⟩
  have s1:ao H (upd H p (.lst (j8 0#E none (some 63)))):=jz hp _
  have e1:upd H p (.lst (j8 0#E none (some 63))) p=some (.lst (j8 0#E none (some 63))):=av
  refine ⟨p,rfl,⟨_,bq.of e1⟩,d8 (K:=K) (a:=p) (xs:=j8 0#E none (some 63)) (λ_ σ H2=>RM λ(z:Int) (v:Option V)=>σ=[some (.ref a),some (.int i),some (.int z),v]∧0≤z∧z<2147483647∧ao (upd H p (.lst (j8 0#E none (some 63)))) H2)
   ⟨5,none,rfl,by decide,by decide,ao.refl _⟩ (λ_ σ H2 _ ⟨_,_,_,_,_,s2⟩=>bq.of (s2 _ _ e1)) ?_ ?_⟩
  ·rintro j y σ H2 hj ⟨z,v,rfl,z0,z1,s2⟩
   obtain ⟨m,rfl⟩:=Yg hj
   rw?
   exact ⟨_,_,rfl,Cb _ 0#f,AO _ 0#f,s2⟩
  ·rintro σ H2 ⟨z,v,rfl,z0,z1,s2⟩
   rw?
   exact k _ _ (s1.trans s2)
theorem wV:fz 2 [gn,eY,eG,"_law_two"] Ao:=0#a
theorem N8 (F:fO K "_law_mix" Ao f fd):bh P w K mg base dm 1 f fd [gn,eY] Wh:=by
 refine F.eU wV λcdv A outer s H vs Q E hr h=>?_
 obtain ⟨c,j,rfl,h0,h1,k⟩:=h
 refine bF ⟨_,(ah (aL 2 wV.nd (aF jl (aF qW (aF bB (aF bB (aF jl 0#h au) (aF aS au 0#n)) au) au) au)) (ah (aL 3 wV.nd (aF jl (aF bB (aF bB (aF aS 0#q au) (aF aS (aF aS au 0#n) 0#n)) au) au)) (aD (aX (aF fY 0#A au))))),?_⟩
 have b0:0≤c % 2147483629:=Cb _ 0#f
 have b1:c % 2147483629<2147483629:=AO _ 0#f
 rw?
 apply iF (show aer _ _ from ⟨by decide,by decide,by try?⟩) ?_
 apply iF (mulR 0#c 0#c) ?_
 refine iF (show CB _ _ from ⟨by decide,by decide +kernel⟩) ?_
 exact k _
theorem jN:fz 3 [bI,cH,"_law_sizes",gn,"_law_left",cE,eY,"_law_other_here"] Aq:=0#a
theorem N9 (F:fO K "_law_row" Aq f fd) (T:Txt mg) (qH:Dn P w K mg base 1 "_law_cell" [bI,cH] (OW K)) (uR:Dn P w K mg base 1 "_law_mix" [gn,eY] Wh) :
 bh P w K mg base dm 3 f fd [bI,cH,"_law_sizes"] (Wj K):=by
 refine F.eU jN λcdv A outer s H vs Q E hr h=>?_
 obtain ⟨a,ns,i,l,zs,rfl,hS,h0,h1,hl,hz,hzs,k⟩:=h
 apply bF ⟨_,(ah (aL 3 jN.nd (bZ qH hr 0#h 0#n)) (ah (aL 4 jN.nd 0#A) (ah (aL 5 jN.nd (dO gH)) (ah (iP gR rfl (xH rfl T.range (dZ (fj K T.i7 0#q))) (cB (i:=6) jN.nd rfl 0#k) (aD (cy (bD oh 0#A (aF qW au au) 0#K) (aD (fm (ia K (aa 5) (aF jl (bZ uR hr 0#A (aa 6)) (bO (gU K) 0#q (aa 6) 0#g))) (hs:=eK))) (aD (cy (bD fM (aa 4) au 0#K) (ah (fm (ia K (aa 5) (aF jl (aa 4) (bO (gU K) 0#q (aa 6) 0#g))) (hs:=eK)) (aD (aL 4 jN.nd (aF fY (aa 4) (bO (gU K) 0#q (aa 6) 0#g))))) (ah (aL 7 jN.nd (bZ qH hr 0#h (aF jl (aF bB (aF bB 0#n au) (aa 6)) au))) (aD (fm (ia K (aa 5) (aF jl (bZ uR hr (aa 7) (aa 6)) (bO (gU K) 0#q (aa 6) 0#g))) (hs:=eK))))))))) (aD (aX (aa 5))))))),?_⟩
 apply ⟨a,ns,i,rfl,hS,h0,by try?,λc H1 s1=>?_⟩
 apply aC (mk:=.lst) 0#d λp H2 s2 n2 e2=>?_
 have hl2:H2 l=some (.lst (zs.map V.int)):=s2 _ _ (s1 _ _ hl)
 refine ⟨_,rfl,l,_,rfl,.inl (bq.of hl2),_,rfl,by lia,by rw [gI];lia,dc (λj σ H3=>XE λ(left:Int) (xs:List Int) (v6 v7:Option V)=>
  σ=[some (.ref a),some (.int i),some 0#O,some (.int c),some (.int left),some (.ref p),v6,v7]∧ao H1 H3∧H3 p=some (.lst (xs.map V.int))∧xs.length=j∧(∀(j:Nat) (x z:Int),xs[j]?=some x→zs[j]?=some z→0≤x∧x<z)) ?_ ?_ ?_⟩
 ·exact ⟨c,[],none,none,rfl,s2,e2,rfl,λj x z e _=>by simp at e⟩
 ·rintro j σ H3 hj ⟨left,xs,v6,v7,rfl,s3,e3,hx,hxs⟩
  have hj':j<zs.length:=by simpa using hj
  obtain ⟨z,ez⟩:∃z,zs[j]?=some z:=⟨_,jY hj'⟩
  obtain ⟨zp,zq⟩:=hzs z (mT ez)
  have hl3:H3 l=some (.lst (zs.map V.int)):=s3 _ _ (s1 _ _ hl)
  have ea:sI (zs.map V.int) (0+(j:Int))=some (.int z):=bM ez 0#c
  have hS3:bq K H3 a 0#E:=(s1.trans s3).seq hS
    -- one more item
  have fin:∀(y left':Int) (v6 v7:Option V) (H4:Hp),ao H3 H4→H4 p=some (.lst (xs.map V.int))→XE λ(left:Int) (xs':List Int) (v6' v7':Option V)=>
   [some (.ref a),some (.int i),some 0#O,some (.int c),some (.int left'),some (.ref p),v6,v7]=[some (.ref a),some (.int i),some 0#O,some (.int c),some (.int left),some (.ref p),v6',v7'] ∧
   ao H1 (upd H4 p (.lst (xs.map V.int++[.int (y % z)])))∧upd H4 p (.lst (xs.map V.int++[.int (y % z)])) p=some (.lst (xs'.map V.int))∧xs'.length=j+1∧(∀(j:Nat) (x z:Int),xs'[j]?=some x→zs[j]?=some z→0≤x∧x<z):=by
   intro y left' v6 v7 H4 s4 e4
   refine ⟨left',xs++[y % z],v6,v7,rfl,bf 0#N n2,?_,by rw [fh,hx];rfl,λm x z' e1 e2=>?_⟩
   ·rw [av,jD];rfl
   ·by_cases hm:m<xs.length
    ·rw [vn hm] at e1
     exact hxs m x z' e1 e2
    ·have hm2:m=j:=by
      have:=(nH.mp e1).1
      rw [fh] at this
      simp at this
      try?
     subst hm2
     rw [yR 0#c,hx] at e1
     simp at e1
     rw [ez] at e2
     cases e2
     subst e1
     exact ⟨Cb _ 0#c,AO _ zp⟩
  have OV:(xs.map V.int).length<sizeLine:=by rw [gI];exact aN 0#c
  rw?
  refine c6 (λ_=>?_) (λ_=>?_)
  ·rw?
   apply ⟨.inl ⟨rfl,_,bq.of e3⟩,?_⟩
   apply ⟨_,_,rfl,by try?,by try?,λy=>?_⟩
   refine dg hl3 ea ?_
   apply iF (show (0:Int)<z from zp) ?_
   refine cM e3 OV ?_
   exact fin y _ _ _ _ 0#t e3
  ·rw?
   refine c6 (λ_=>?_) (λ_=>?_)
   ·rw?
    apply ⟨.inl ⟨rfl,_,bq.of e3⟩,?_⟩
    refine dg hl3 ea ?_
    apply iF (show (0:Int)<z from zp) ?_
    apply cM e3 OV ?_
    refine dg (by rw [aK (bJ (s1 _ _ hl) n2)];exact hl3) ea ?_
    refine iF (show CB _ _ from ⟨by try?,Sz.log (m:=60) (Sz.of_lt (k:=2 ^ 60) 0#c (dS _)) 0#f 0#f⟩) ?_
    exact fin left _ _ _ _ 0#t e3
   ·rw?
    have q0:0≤(i+1+(0+(j:Int))) % 63:=Cb _ 0#f
    have q1:(i+1+(0+(j:Int))) % 63<63:=AO _ 0#f
    apply ⟨a,ns,_,rfl,hS3,q0,by try?,λc2 H4 s4=>?_⟩
    apply ⟨.inl ⟨rfl,_,bq.of (s4 _ _ e3)⟩,?_⟩
    apply ⟨_,_,rfl,by try?,by try?,λy=>?_⟩
    refine dg (s4 _ _ hl3) ea ?_
    apply iF (show (0:Int)<z from zp) ?_
    refine cM (s4 _ _ e3) OV ?_
    exact fin y _ _ _ _ s4 (s4 _ _ e3)
 ·rintro σ H3 ⟨left,xs,v6,v7,rfl,s3,e3,hx,hxs⟩
  rw?
  exact k p xs H3 (s1.trans s3) (s1.free n2) e3 (by simpa using hx) hxs
theorem rH:fz 2 ["_law_top",dD,eG,"_law_two"] uo:=0#a
theorem IM (F:fO K "_law_ratio" uo f fd) (T:Txt mg):bh P w K mg base dm 1 f fd ["_law_top",dD] yr:=by
 refine F.eU rH λcdv A outer s H vs Q E hr h=>?_
 obtain ⟨t,b,rfl,hb,hz,k⟩:=h
 apply bF ⟨_,(ah (Jd.Ji (i:=2) (j:=3) rfl rH.nd rfl rfl 0#f rfl rfl (bL (iz zA rfl T.zD AN (dZ 0#h) (he:=bP) (hpl:=cR)) 0#n) rfl) (ah (Jd.lT gR (bD fM 0#A au 0#K) (aD (Jd.Ji (i:=2) (j:=3) rfl rH.nd rfl rfl 0#f rfl rfl (bL 0#A (aF jl 0#q 0#A)) rfl))) (aD (aX (bW (bL (aF fY 0#h 0#q) (aF fY 0#n 0#q))))))),?_⟩
 have hgb:cN t b≤b.natAbs:=by
  have:=Int.gcd_le_right (a:=t) (b:=b) 0#c
  try?
 refine yz (λσ H'=>H'=H∧RM λx y:Nat=>σ=[some (.int t),some (.int b),some (.int x),some (.int y)]∧ME x y=cN t b) (λσ _=>aau σ) ?_ ?_ ?_
 ·refine ⟨rfl,t.natAbs,b.natAbs,?_,rfl⟩
  rw [jv]
  have e:b=((b.natAbs:Nat):Int):=by try?
  rw [← e]
  rfl
 ·rintro σ H' ⟨rfl,x,y,rfl,hg⟩
  rw?
  refine c6 0#w 0#w
  ·have c':(0:Int)<(y:Int):=dM c
   rw?
   refine ⟨⟨rfl,y,x % y,?_,by rw [KH];exact hg⟩,?_⟩
   ·rw [← Qv];rfl
   ·show ((x:Int) % (y:Int)).toNat<(y:Int).toNat
    rw [Qv]
    have:=acg x (y:=y) 0#c
    try?
  ·have c':¬(0:Int)<(y:Int):=jO (jr.mpr c)
   have y0:y=0:=by try?
   subst y0
   rw [aa1] at hg
   subst hg
   have gp:0<cN t b:=Tq t 0#c
   have cd:CB t ((cN t b:Nat):Int):=⟨by try?,Sz.log (m:=8000) (Sz.of_le hz 0#c) 0#f 0#f⟩
   rw?
   refine aC (mk:=.tup) 0#d λp H1 s1 n1 e1=>?_
   exact k p _ _ H1 s1 e1 (Ip hb)
 ·intro σ H Q Q' h q
  obtain ⟨v,e,i,j,e1,e2,b,e3,q⟩:=q
  exact ⟨v,e,i,j,e1,e2,b,e3,h _ _ q⟩
def b8 (H:Hp) (p:aq) (q:Rat) (n:Nat):Prop:=∃t b:Int,H p=some (.tup [.int t,.int b])∧Qt t b q∧Sz n t∧Sz n b
def dF (H:Hp) (p:aq) (q:Rat) (n:Nat):Prop:=∃t b:Int,H p=some (.tup [.int t,.int b])∧Fr t b q∧Sz n t∧Sz n b
def jK (H:Hp) (p:aq) (m:Int) (q:Rat) (n:Nat):Prop:=∃v:aq,H p=some (.tup [.int m,.ref v])∧dF H v q n∧Sz n m
def jJ (H:Hp) (p:aq) (s h:Rat) (n:Nat):Prop:=∃a b:aq,H p=some (.tup [.ref a,.ref b])∧dF H a s n∧dF H b h n
theorem dF.qt (f:dF H p q n):b8 H p q n:=let ⟨t,b,e,f,z⟩:=f;⟨t,b,e,f.qt,z⟩
theorem b8.mono (f:b8 H p q m) (h:m≤n):b8 H p q n:=let ⟨t,b,e,f,z1,z2⟩:=f;⟨t,b,e,f,z1.mono h,z2.mono h⟩
theorem dF.mono (f:dF H p q m) (h:m≤n):dF H p q n:=let ⟨t,b,e,f,z1,z2⟩:=f;⟨t,b,e,f,z1.mono h,z2.mono h⟩
theorem b8.up (f:b8 H p q n) (s:ao H H'):b8 H' p q n:=let ⟨t,b,e,f⟩:=f;⟨t,b,s _ _ e,f⟩
theorem dF.up (f:dF H p q n) (s:ao H H'):dF H' p q n:=let ⟨t,b,e,f⟩:=f;⟨t,b,s _ _ e,f⟩
theorem jK.up (f:jK H p t q n) (s:ao H H'):jK H' p t q n:=let ⟨v,e,f,z⟩:=f;⟨v,s _ _ e,f.up s,z⟩
theorem jJ.up (f:jJ H p q h n) (s:ao H H'):jJ H' p q h n:=let ⟨a,b,e,f,g⟩:=f;⟨a,b,s _ _ e,f.up s,g.up s⟩
theorem dF.den (f:dF H p q n):∃t b:Int,Den H (.ref p) (.tuple [.int t,.int b])∧Fr t b q:=let ⟨t,b,e,f,_⟩:=f;⟨t,b,.tup e (.cons (.int _) (.cons (.int _) .nil)),f⟩
inductive JR (vs:List V) (H:Hp) (Q:VK) (E_:XK):Prop where
 | mk (m n:Int):vs=[.int m,.int n]→0≤m→0≤n→Q (.int (cN m n:Nat)) H→JR vs H Q E_
inductive JW (vs:List V) (H:Hp) (Q:VK) (E_:XK):Prop where
 | mk (m n:Int):vs=[.int m,.int n]→0≤n→n≤m→m<115792089237316195423570985008687907853269984665640564039457584007913129639936→(∀(p:aq) (x0 y0 x1 y1 high low:Int) (H':Hp),ao H H'→H' p=some (.tup [.int x0,.int y0,.int x1,.int y1])→j7 m n high low x0 y0 x1 y1→low≤340282366920938463463374607431768211456→Q (.ref p) H')→JW vs H Q E_
inductive AA (vs:List V) (H:Hp) (Q:VK) (E_:XK):Prop where
 | mk (m n:Int):vs=[.int m,.int n]→Sz 8000 m→Sz 8000 n→(∀H',ao H H'→Q (.int (cN m n:Nat)) H')→AA vs H Q E_
inductive yt (vs:List V) (H:Hp) (Q:VK) (E_:XK):Prop where
 | mk (t b:Int):vs=[.int t,.int b]→b≠0→Sz 8000 t→Sz 8000 b→(∀(p:aq) (t' b':Int) (H':Hp),ao H H'→H' p=some (.tup [.int t',.int b'])→Z4 t b t' b'→Q (.ref p) H')→yt vs H Q E_
inductive AH (vs:List V) (H:Hp) (Q:VK) (E_:XK):Prop where
 | mk (p:aq) (q:Rat) (n:Nat):vs=[.ref p]→b8 H p q n→n≤8000→(∀(r:aq) (H':Hp),ao H H'→dF H' r q n→Q (.ref r) H')→AH vs H Q E_
inductive jV (f:Rat→Rat→Rat) (k:Nat) (vs:List V) (H:Hp) (Q:VK) (E_:XK):Prop where
 | mk (p r:aq) (q q':Rat) (m n:Nat):vs=[.ref p,.ref r]→b8 H p q m→b8 H r q' n→m+n≤100000→(∀(s:aq) (H':Hp),ao H H'→b8 H' s (f q q') (m+n+k)→Q (.ref s) H')→jV f k vs H Q E_
inductive rJ (f:Rat→Rat→Rat) (k:Nat) (vs:List V) (H:Hp) (Q:VK) (E_:XK):Prop where
 | mk (p r:aq) (q q':Rat) (m n:Nat):vs=[.ref p,.ref r]→b8 H p q m→b8 H r q' n→m+n+k≤8000→(∀(s:aq) (H':Hp),ao H H'→dF H' s (f q q') (m+n+k)→Q (.ref s) H')→rJ f k vs H Q E_
inductive O7 (vs:List V) (H:Hp) (Q:VK) (E_:XK):Prop where
 | mk (p r:aq) (q q':Rat) (m n:Nat):vs=[.ref p,.ref r]→b8 H p q m→b8 H r q' n→m+n≤8000→q'≠0→(∀(s:aq) (H':Hp),ao H H'→dF H' s (q/q') (m+n)→Q (.ref s) H')→O7 vs H Q E_
inductive yq (vs:List V) (H:Hp) (Q:VK) (E_:XK):Prop where
 | mk (p r:aq) (t t':Int) (q q':Rat) (n:Nat):vs=[.ref p,.ref r]→jK H p t q n→jK H r t' q' n→t≠t'→n≤2000→(∀(s:aq) (H':Hp),ao H H'→b8 H' s ((q'-q)/((t'-t:Int):Rat)) (4*n+3)→Q (.ref s) H')→yq vs H Q E_
inductive JU (vs:List V) (H:Hp) (Q:VK) (E_:XK):Prop where
 | mk (p r:aq) (t t':Int) (q q':Rat) (n:Nat):vs=[.ref p,.ref r]→jK H p t q n→jK H r t' q' n→t≠t'→n≤1000→(∀(s:aq) (H':Hp),ao H H'→dF H' s ((q'-q)/((t'-t:Int):Rat)) (4*n+3)→Q (.ref s) H')→JU vs H Q E_
inductive El (vs:List V) (H:Hp) (Q:VK) (E_:XK):Prop where
 | mk (p r:aq) (s q:Rat) (t u:Int) (m n:Nat):vs=[.ref p,.ref r,.int u]→b8 H p s m→jK H r t q n→Sz n u→m≤20000→n≤20000→(∀(x:aq) (H':Hp),ao H H'→b8 H' x (q+s*((u-t:Int):Rat)) (m+2*n+2)→Q (.ref x) H')→El vs H Q E_
theorem fJ:fz 2 [aQ,aG,dN,"rest","left"] mJ:=0#a
theorem zZ (F:fO K "plain_divisor" mJ f fd) (T:Txt mg):bh P w K mg base dm 1 f fd [aQ,aG] JR:=by
 refine F.eU fJ λcdv A outer s H vs Q E hr h=>?_
 obtain ⟨m,n,rfl,hm,hn,k⟩:=h
 apply bF ⟨_,(ah (aL 2 fJ.nd 0#h) (ah (aL 3 fJ.nd 0#n) (ah (Jd.lT gR (bD aal 0#A au 0#K) (ah (aL 4 fJ.nd (aF jl 0#q 0#A)) (ah (aL 2 fJ.nd 0#A) (aD (aL 3 fJ.nd (aa 4)))))) (aD (aX 0#q))))),?_⟩
 refine yz (λσ H'=>H'=H∧Py λ(x y:Nat) (v:Option V)=>σ=[some (.int m),some (.int n),some (.int x),some (.int y),v]∧ME x y=cN m n) (λσ _=>aau σ) ?_ ?_ ?_
 ·refine ⟨rfl,m.natAbs,n.natAbs,none,?_,rfl⟩
  rw [show ((m.natAbs:Nat):Int)=m by try?,show ((n.natAbs:Nat):Int)=n by try?]
  rfl
 ·rintro σ H' ⟨rfl,x,y,v,rfl,hg⟩
  rw?
  refine c6 0#w 0#w
  ·have c':¬(y:Int)=0:=by simpa using c
   rw?
   refine ⟨⟨rfl,y,x % y,some (.int ((x % y:Nat):Int)),?_,by rw [KH];exact hg⟩,?_⟩
   ·rw [Qv];rfl
   ·show ((x:Int) % (y:Int)).toNat<(y:Int).toNat
    rw [Qv]
    have:=acg x (y:=y) 0#c
    try?
  ·have c':(y:Int)=0:=by simpa using c
   have y0:y=0:=by try?
   subst y0
   rw [aa1] at hg
   subst hg
   rw?
   exact k
 ·intro σ H Q Q' h q
  obtain ⟨v,e,hs,b,e3,q⟩:=q
  exact ⟨v,e,hs,b,e3,h _ _ q⟩
theorem cg:fz 2 ["high","low","ahead","now","many","left","behind"] lu:=0#a
theorem xV (F:fO K "steps_of_heads" lu f fd) (vL:Cn mg "HEAD" 256):bh P w K mg base dm 1 f fd ["high","low"] JW:=by
 refine F.eU cg λcdv A outer s H vs Q E hr h=>?_
 obtain ⟨hd,ld,rfl,h0,h1,h2,k⟩:=h
 apply bF ⟨_,(ah (aL 2 cg.nd (bW (bL au au))) (ah (aL 3 cg.nd (bW (bL au au))) (ah (Jd.lT gR (bD fM (Jd.xW 0#n) (aF fY (Jd.GS rfl vL) au) 0#K) (ah (aL 4 cg.nd (aF fY 0#h 0#n)) (ah (aL 5 cg.nd (aF bT 0#h (aF aS (aa 4) 0#n))) (ah (aL 0 cg.nd 0#n) (ah (aL 1 cg.nd (aa 5)) (ah (aL 6 cg.nd (bW (bL (aF bT (aH K 0#q) (aF aS (aa 4) (aH K 0#A))) (aF bT (aH K 0#q) (aF aS (aa 4) (aH K 0#A)))))) (ah (aL 2 cg.nd 0#A) (aD (aL 3 cg.nd (aa 6)))))))))) (aD (aX (aF (aeB K) 0#q 0#A)))))),?_⟩
 apply aC (mk:=.tup) 0#d λpa Ha sa na ea=>?_
 apply aC (mk:=.tup) 0#d λpn Hn sn nn en=>?_
 refine yz (λσ H'=>ao H H'∧aey λ(high low x0 y0 x1 y1:Int) (pa pn:aq) (v4 v5 v6:Option V)=>σ=[some (.int high),some (.int low),some (.ref pa),some (.ref pn),v4,v5,v6] ∧
  H' pa=some (.tup [.int x0,.int y0])∧H' pn=some (.tup [.int x1,.int y1])∧j7 hd ld high low x0 y0 x1 y1) (λσ _=>Ud 1 σ) ?_ ?_ ?_
 ·exact ⟨sa.trans sn,hd,ld,1,0,0,1,pa,pn,none,none,none,rfl,sn _ _ ea,en,j7.init h0 h1⟩
 ·rintro σ H' ⟨sH,high,low,x0,y0,x1,y1,pa,pn,v4,v5,v6,rfl,ea,en,S⟩
  rw?
  apply iF ⟨by decide,by decide⟩ ?_
  refine c6 0#w 0#w
  ·have c':=dM c
   rw [show Int.fdiv 256 2=128 by decide] at c'
   have hlow:=Sn c' S.l0
   have hq:=S.step hlow rfl
   have hH:hd.natAbs<2 ^ 256:=by
    have:(2:Nat) ^ 256=115792089237316195423570985008687907853269984665640564039457584007913129639936:=by decide
    try?
   have zl:Sz 256 ld:=Sz.of_le (m:=256) (x:=hd) hH 0#c
   have zh:Sz 256 high:=Sz.of_le (m:=256) (x:=hd) hH (by have:=S.YQ h1;have:=S.lh;have:=S.l0;try?)
   have nb:=S.adz (by have:=S.lh;try?)
   have zx:Sz 256 x1:=Sz.of_le zl nb.1
   have zy:Sz 256 y1:=Sz.of_le (m:=256) (x:=hd) hH nb.2
   have zlo:Sz 256 low:=zh.of_le (by have:=S.lh;have:=S.l0;try?)
   have eq:high.fdiv low=high/low:=B8 _ S.l0
   have zq:Sz 256 (high/low):=zh.of_le (Um (by have:=S.lh;have:=S.l0;try?) S.l0)
   rw?
   refine iF ⟨by try?,zlo.log 0#f 0#f⟩ ?_
   rw [eq]
   rw?
   apply iF (ck zq zlo) ?_
   apply iF (ck zq zx) ?_
   apply iF (ck zq zy) ?_
   apply aC (mk:=.tup) 0#d λpb Hb sb nb eb=>?_
   refine ⟨⟨sH.trans sb,low,high-high/low*low,x1,y1,x0-high/low*x1,y0-high/low*y1,pn,pb,_,_,_,rfl,sb _ _ en,eb,hq⟩,?_⟩
   show (high-high/low*low).toNat<low.toNat
   have e:=Mj high low
   rw [qy] at e
   have:=AO high (b:=low) 0#c
   try?
  ·have c':=jO (jr.mpr c)
   rw [show Int.fdiv 256 2=128 by decide] at c'
   have hlow:=K4 c'
   rw?
   refine VN ea en ?_
   refine aC (mk:=.tup) 0#d λpb Hb sb nb eb=>?_
   exact k pb x0 y0 x1 y1 high low Hb (sH.trans sb) eb S 0#c
 ·intro σ H Q Q' h q
  obtain ⟨v,e,a1,a2,i,a3,m,n,e1,e2,hc,m',n',e3,e4,b,e5,q⟩:=q
  exact ⟨v,e,a1,a2,i,a3,m,n,e1,e2,hc,m',n',e3,e4,b,e5,h _ _ q⟩
theorem gB:fz 2 [aQ,aG,dN,"rest","tail","steps","ahead","now"] Al:=0#a
theorem N5 (F:fO K "divisor" Al f fd) (T:Txt mg) (vL:Cn mg "HEAD" 256) (mj:Dn P w K mg base 1 "plain_divisor" [aQ,aG] JR) (kP:Dn P w K mg base 1 "steps_of_heads" ["high","low"] JW) :
 bh P w K mg base dm 2 f fd [aQ,aG] AA:=by
 refine F.eU gB λcdv A outer s H vs Q E hr h=>?_
 obtain ⟨m,n,rfl,zm,zn,k⟩:=h
 apply bF ⟨_,(ah (aL 2 gB.nd (iz (Y7 rfl) rfl T.U7 Ml (bL (iz zA rfl T.zD AN (dZ 0#h) (he:=bP) (hpl:=cR)) (iz zA rfl T.zD AN (dZ 0#n) (he:=bP) (hpl:=cR))) (he:=EE) (hpl:=(cO EE cR)))) (ah (aL 3 gB.nd (iz (ads rfl) rfl T.Y8 Q8 (bL (iz zA rfl T.zD AN (dZ 0#h) (he:=bP) (hpl:=cR)) (iz zA rfl T.zD AN (dZ 0#n) (he:=bP) (hpl:=cR))) (he:=EE) (hpl:=(cO EE cR)))) (ah (Jd.lT gR (bD fM (Jd.xW 0#A) (Jd.GS rfl vL) 0#K) (ah (aL 4 gB.nd (aF bT (Jd.xW 0#q) (Jd.GS rfl vL))) (ah (aL 5 gB.nd (bZ kP hr (aF Vx 0#q (aa 4)) (aF Vx 0#A (aa 4)))) (ah (cy (bD fE (aH K (aa 5)) au 0#K) (aD (aL 5 gB.nd (bW (Jd.a4 au au au (gF dH (aF fY 0#q 0#A)))))) cG) (ah (aL 6 gB.nd (iz zA rfl T.zD AN (dZ (aF bB (aF aS (aH K (aa 5)) 0#q) (aF aS (aH K (aa 5)) 0#A))) (he:=J1) (hpl:=cR))) (ah (aL 7 gB.nd (iz zA rfl T.zD AN (dZ (aF bB (aF aS (aH K (aa 5)) 0#q) (aF aS (aH K (aa 5)) 0#A))) (he:=J1) (hpl:=cR))) (ah (aL 2 gB.nd (iz (Y7 rfl) rfl T.U7 Ml (bL (aa 6) (aa 7)) (he:=bP) (hpl:=(cO bP cR)))) (aD (aL 3 gB.nd (iz (ads rfl) rfl T.Y8 Q8 (bL (aa 6) (aa 7)) (he:=bP) (hpl:=(cO bP cR)))))))))))) (aD (aX (bZ mj hr 0#q 0#A)))))),?_⟩
 rw [jv,jv]
 refine yz (λσ H'=>ao H H'∧Xs6 λ(x y:Int) (v4 v5 v6 v7:Option V)=>σ=[some (.int m),some (.int n),some (.int x),some (.int y),v4,v5,v6,v7] ∧
  0≤y∧y≤x∧cN x y=cN m n∧Sz 8001 (x+y)) (λσ _=>Ud 2 σ+Ud 3 σ) ?_ ?_ ?_
 ·refine ⟨ao.refl _,_,_,none,none,none,none,rfl,?_,?_,(vZ rfl rfl).trans ?_,?_⟩
  ·exact Vc _ _
  ·exact Vb _ _
  ·rfl
  ·have z:=(zm.of_le (y:=(m.natAbs:Int)) 0#d).add (zn.of_le (y:=(n.natAbs:Int)) 0#d)
   exact z.of_le (NK 0#c)
 ·rintro σ H' ⟨sH,x,y,v4,v5,v6,v7,rfl,y0,yx,hg,zs⟩
  have zx:Sz 8001 x:=zs.of_le 0#c
  have zy:Sz 8001 y:=zs.of_le 0#c
  rw?
  refine c6 0#w 0#w
  ·have c':=dM c
   obtain ⟨t,ht,lo,hi⟩:=Nt c' y0 yx
   have tp:(0:Int)<2 ^ t:=Xq 0#f
   have hd:=Qe lo hi
   have ypos:1≤y:=by
    have:(256:Int)<(vo y:Nat):=c'
    by_cases e:y=0
    ·subst e;simp [vo] at this
    ·try?
   rw?
   apply iF (show (0:Int)≤_ by try?) ?_
   apply iF (show (0:Int)≤_ by try?) ?_
   rw [show ((vo x:Nat)-256:Int).toNat=t by try?]
   apply ⟨x/2 ^ t,y/2 ^ t,rfl,abr y0 0#c,W2 tp yx,hd.2,λps x0 y0' x1 y1 high low H1 s1 e1 S hl=>?_⟩
   refine c6 (λc2=>?_) (λc2=>?_)
   ·have c3:y0'=0:=dM c2
    have zq:Sz 8001 (x.fdiv y):=by
     rw [B8 _ y0]
     exact zx.of_le (Um 0#c y0)
    rw?
    apply iF ⟨by try?,zy.log 0#f 0#f⟩ ?_
    refine aC (mk:=.tup) 0#d λp2 H2 s2 n2 e2=>?_
    have sH2:=(sH.trans s1).trans s2
    have za:Sz 8001 (0:Int):=by decide
    have zb:Sz 8001 (1:Int):=by decide
    have zc:Sz 8001 (1:Int):=zb
    have zd:Sz 8001 (-(x.fdiv y)):=zq.neg
    have gg:cN (0*x+1*y) (1*x+-(x.fdiv y)*y)=cN x y:=Qc (.inr 0#c)
    have ls:=Yt ypos yx
    rw?
    apply iF (ck zd zy) ?_
    simp only [jv]
    refine ⟨⟨sH2,_,_,_,_,_,_,rfl,?_,?_,(vZ rfl rfl).trans (gg.trans hg),?_⟩,?_⟩
    ·exact Vc _ _
    ·exact Vb _ _
    ·exact zs.of_le (NK (aah ls y0 yx))
    ·exact aag ls y0 yx
   ·have c3:y0'≠0:=jO (jr.mpr c2)
    have sH2:=sH.trans s1
    have sm:=S.small c3 (W2 tp yx) hd.2
    have YZ:(340282366920938463463374607431768211456:Nat)<2 ^ 8001:=by decide +kernel
    have za:Sz 8001 x0:=Gf sm.1 YZ
    have zb:Sz 8001 y0':=Gf sm.2.1 YZ
    have zc:Sz 8001 x1:=Gf sm.2.2.1 YZ
    have zd:Sz 8001 y1:=Gf sm.2.2.2 YZ
    have gg:cN (x0*x+y0'*y) (x1*x+y1*y)=cN x y:=S.gcd
    have ls:=Nr S c3 yx lo hi rfl rfl hl
    rw?
    apply iF (ck za zx) ?_
    apply iF (ck zb zy) ?_
    apply iF (ck zc zx) ?_
    apply iF (ck zd zy) ?_
    simp only [jv]
    refine ⟨⟨sH2,_,_,_,_,_,_,rfl,?_,?_,(vZ rfl rfl).trans (gg.trans hg),?_⟩,?_⟩
    ·exact Vc _ _
    ·exact Vb _ _
    ·exact zs.of_le (NK (aah ls y0 yx))
    ·exact aag ls y0 yx
  ·rw?
   refine ⟨x,y,rfl,by try?,y0,?_⟩
   rw [hg]
   exact k H' sH
 ·intro σ H Q Q' h q
  obtain ⟨v,e,a1,a2,i,a3,m',n',e3,e4,b,e5,q⟩:=q
  exact ⟨v,e,a1,a2,i,a3,m',n',e3,e4,b,e5,h _ _ q⟩
theorem Eb:fz 2 ["top","bottom","shared"] Jz:=0#a
theorem SG (hb:b≠0):Z4 t b (t.fdiv (if b<0 then -(cN t b:Int) else (cN t b:Int))) (b.fdiv (if b<0 then -(cN t b:Int) else (cN t b:Int))):=by
 by_cases h:b<0
 ·rw [if_pos h]
  have l:=Y4 (t:=t) h
  exact ⟨l.pos,l.co,by have:=l.eq;rw [MC,RD] at this;try?,by rw [← Rw t];exact l.tb,by rw [← Rw b];exact l.bb⟩
 ·rw [if_neg h]
  exact Ip 0#c
abbrev acj P w K mg base:=Dn P w K mg base 2 "divisor" [aQ,aG] AA
theorem Vr (F:fO K "ratio" Jz f fd) (T:Txt mg) (iX:acj P w K mg base):bh P w K mg base dm 3 f fd ["top","bottom"] yt:=by
 refine F.eU Eb λcdv A outer s H vs Q E hr h=>?_
 obtain ⟨t,b,rfl,hb,hzt,hz,k⟩:=h
 apply bF ⟨_,(ah (cy (bD fE 0#n au 0#K) (aD Jd.qq) cG) (ah (aL 2 Eb.nd (bZ iX hr 0#h 0#n)) (ah (cy (bD oh 0#n au 0#K) (aD (aL 2 Eb.nd (gF dH 0#q))) cG) (aD (aX (bW (bL (aF fY 0#h 0#q) (aF fY 0#n 0#q)))))))),?_⟩
 rw [pY hb]
 apply bR ?_
 refine ⟨t,b,rfl,hzt,hz,λH0 s0=>?_⟩
 have gp:0<cN t b:=Tq t hb
 have hgb:cN t b≤b.natAbs:=abP 0#c (abf _ _)
 have cd:∀x:Int,CB x (if b<0 then -(cN t b:Int) else (cN t b:Int)):=λx=>by
  refine ⟨by split <;> try?,Sz.log (m:=8000) (Sz.of_le hz ?_) 0#f 0#f⟩
  split <;> try?
 have lo:=SG (t:=t) hb
 rw?
 refine c6 0#w 0#w
 ·have c':=dM c
  rw [if_pos c'] at lo
  simp only [if_pos c'] at cd
  rw?
  apply iF (cd t) ?_
  apply iF (cd b) ?_
  refine aC (mk:=.tup) 0#d λp H1 s1 n1 e1=>?_
  exact k p _ _ H1 (s0.trans s1) e1 lo
 ·have c':=jO (jr.mpr c)
  rw [if_neg c'] at lo
  simp only [if_neg c'] at cd
  rw?
  apply iF (cd t) ?_
  apply iF (cd b) ?_
  refine aC (mk:=.tup) 0#d λp H1 s1 n1 e1=>?_
  exact k p _ _ H1 (s0.trans s1) e1 lo
theorem OR:fz 1 ["quotient"] As:=0#a
theorem Ob (F:fO K "reduced" As f fd) (uS:Dn P w K mg base 3 "ratio" ["top","bottom"] yt):bh P w K mg base dm 4 f fd ["quotient"] AH:=by
 refine F.eU OR λcdv A outer s H vs Q E hr h=>?_
 obtain ⟨p,q,n,rfl,⟨t,b,hp,hq,zt,zb⟩,hn,k⟩:=h
 refine bF ⟨_,(aD (aX (bZ uS hr 0#I 0#I))),?_⟩
 have hb:=hq.pos
 rw?
 refine ⟨t,b,rfl,by try?,zt.mono hn,zb.mono hn,λr t' b' H1 s1 e1 lo=>?_⟩
 exact k r H1 s1 ⟨t',b',e1,Fr.N2 lo 0#c hq.eq,zt.of_le lo.tb,zb.of_le lo.bb⟩
theorem F7:fz 2 [aQ,aG] rE:=0#a
theorem FW (F:fO K "loose_plus" rE f fd):bh P w K mg base dm 1 f fd [aQ,aG] (jV (·+·) 1):=by
 refine F.eU F7 λcdv A outer s H vs Q E hr h=>?_
 obtain ⟨p,r,q,q',m,n,rfl,⟨a,b,hp,hq,za,zb⟩,⟨c,d,hr',hq',zc,zd⟩,hn,k⟩:=h
 apply bF ⟨_,(aD (aX (bW (bL (aF bB (aF aS 0#I 0#Q) (aF aS 0#Q 0#I)) (aF aS 0#I 0#Q))))),?_⟩
 apply iF (ck za zd 0#c) ?_
 apply iF (ck zc zb 0#c) ?_
 apply iF (ck zb zd 0#c) ?_
 refine aC (mk:=.tup) 0#d λx H1 s1 n1 e1=>?_
 exact k x H1 s1 ⟨_,_,e1,hq.plus hq',(za.mul zd).add ((zc.mul zb).mono 0#c),(zb.mul zd).mono 0#c⟩
theorem uB:fz 2 [aQ,aG] lK:=0#a
theorem Dv (F:fO K "loose_minus" lK f fd):bh P w K mg base dm 1 f fd [aQ,aG] (jV (·-·) 1):=by
 refine F.eU uB λcdv A outer s H vs Q E hr h=>?_
 obtain ⟨p,r,q,q',m,n,rfl,⟨a,b,hp,hq,za,zb⟩,⟨c,d,hr',hq',zc,zd⟩,hn,k⟩:=h
 apply bF ⟨_,(aD (aX (bW (bL (aF bT (aF aS 0#I 0#Q) (aF aS 0#Q 0#I)) (aF aS 0#I 0#Q))))),?_⟩
 apply iF (ck za zd 0#c) ?_
 apply iF (ck zc zb 0#c) ?_
 apply iF (ck zb zd 0#c) ?_
 refine aC (mk:=.tup) 0#d λx H1 s1 n1 e1=>?_
 exact k x H1 s1 ⟨_,_,e1,hq.minus hq',(za.mul zd).sub ((zc.mul zb).mono 0#c),(zb.mul zd).mono 0#c⟩
theorem D8:fz 2 [aQ,aG] pT:=0#a
theorem Dz (F:fO K "loose_times" pT f fd):bh P w K mg base dm 1 f fd [aQ,aG] (jV (·*·) 0):=by
 refine F.eU D8 λcdv A outer s H vs Q E hr h=>?_
 obtain ⟨p,r,q,q',m,n,rfl,⟨a,b,hp,hq,za,zb⟩,⟨c,d,hr',hq',zc,zd⟩,hn,k⟩:=h
 apply bF ⟨_,(aD (aX (bW (bL (aF aS 0#I 0#Q) (aF aS 0#I 0#Q))))),?_⟩
 apply iF (ck za zc 0#c) ?_
 apply iF (ck zb zd 0#c) ?_
 refine aC (mk:=.tup) 0#d λx H1 s1 n1 e1=>?_
 exact k x H1 s1 ⟨_,_,e1,hq.times hq',za.mul zc,zb.mul zd⟩
inductive u5 (vs:List V) (H:Hp) (Q:VK) (E_:XK):Prop where
 | mk (p r:aq) (s h x:Rat) (m n:Nat):vs=[.ref p,.ref r]→jJ H p s h n→b8 H r x m→m≤20000→n≤20000→(∀(z:aq) (H':Hp),ao H H'→b8 H' z (s*x+h) (m+2*n+1)→Q (.ref z) H')→u5 vs H Q E_
inductive Ej (vs:List V) (H:Hp) (Q:VK) (E_:XK):Prop where
 | mk (p r:aq) (s h x:Rat) (m n:Nat):vs=[.ref p,.ref r]→jJ H p s h n→b8 H r x m→m+2*n+1≤8000→(∀(z:aq) (H':Hp),ao H H'→dF H' z (s*x+h) (m+2*n+1)→Q (.ref z) H')→Ej vs H Q E_
inductive O4 (vs:List V) (H:Hp) (Q:VK) (E_:XK):Prop where
 | mk (p r:aq) (s h q:Rat) (t:Int) (m n:Nat):vs=[.ref p,.ref r]→jJ H p s h n→jK H r t q m→1≤m→m≤20000→n≤20000→(∀(z:aq) (H':Hp),ao H H'→b8 H' z (q-(s*(t:Rat)+h)) (2*m+2*n+2)→Q (.ref z) H')→O4 vs H Q E_
inductive yp (vs:List V) (H:Hp) (Q:VK) (E_:XK):Prop where
 | mk (p r:aq) (s q:Rat) (t:Int) (m n:Nat):vs=[.ref p,.ref r]→dF H p s m→jK H r t q n→1≤n→m+2*n+2≤8000→(∀(z r':aq) (H':Hp),ao H H'→H' z=some (.tup [.ref p,.ref r'])→dF H' r' (q-s*(t:Rat)) (m+2*n+2)→Q (.ref z) H')→yp vs H Q E_
inductive O5 (vs:List V) (H:Hp) (Q:VK) (E_:XK):Prop where
 | mk (p r:aq) (s h s' h':Rat) (n:Nat):vs=[.ref p,.ref r]→jJ H p s h n→jJ H r s' h' n→1≤n→n≤1300→(s=s'→∀H',ao H H'→Q .bK H')→(s≠s'→∀(z a b:aq) (H':Hp),ao H H'→H' z=some (.tup [.ref a,.ref b])→dF H' a ((h'-h)/(s-s')) (4*n+2)→dF H' b (s*((h'-h)/(s-s'))+h) (6*n+3)→Q (.ref z) H')→O5 vs H Q E_
theorem acU (h:Fr t b q) (h':Fr t' b' q'):oM (.tuple [.int t,.int b]) (.tuple [.int t',.int b'])=decide (q=q'):=by
 have e:oM (.tuple [.int t,.int b]) (.tuple [.int t',.int b'])=(t==t'&&(b==b'&&true)):=rfl
 rw [e]
 by_cases hq:q=q'
 ·subst hq
  obtain ⟨rfl,rfl⟩:=h.unique h'
  simp
 ·rw [pY hq]
  by_cases e1:t=t'
  ·by_cases e2:b=b'
   ·exact absurd (h.worth h' e1 e2) hq
   ·simp [e2]
  ·simp [e1]
theorem qV (h:1≤n):Sz n 1:=by
 have:(2:Nat) ^ 1≤2 ^ n:=aaQ 0#f h
 show ach 1<2 ^ n
 have e:ach 1=1:=rfl
 try?
theorem uJ (h:H p=some (.tup [.int m,.int 1])) (z:Sz n m) (hn:1≤n):b8 H p (m:Rat) n:=⟨m,1,h,Qt.whole m,z,qV hn⟩
theorem V3:fz 2 [aQ,aG] Jx:=0#a
abbrev Kl P w K mg base:=Dn P w K mg base 4 "reduced" ["quotient"] AH
theorem Vp (F:fO K "minus" Jx f fd) (aY:Dn P w K mg base 1 "loose_minus" [aQ,aG] (jV (·-·) 1)) (bV:Kl P w K mg base):bh P w K mg base dm 5 f fd [aQ,aG] (rJ (·-·) 1):=by
 refine F.eU V3 λcdv A outer s H vs Q E hr h=>?_
 obtain ⟨p,r,q,q',m,n,rfl,h1,h2,hn,k⟩:=h
 apply bF ⟨_,(aD (aX (Jd.c1 bV hr (bZ aY hr 0#h 0#n)))),?_⟩
 apply ⟨p,r,q,q',m,n,rfl,h1,h2,by try?,λx H1 s1 e1=>?_⟩
 refine ⟨x,_,_,rfl,e1,hn,λy H2 s2 e2=>?_⟩
 exact k y H2 (s1.trans s2) e2
theorem ZJ:fz 2 [aQ,aG] OJ:=0#a
theorem Zj (F:fO K "plus" OJ f fd) (cu:Dn P w K mg base 1 "loose_plus" [aQ,aG] (jV (·+·) 1)) (bV:Kl P w K mg base):bh P w K mg base dm 5 f fd [aQ,aG] (rJ (·+·) 1):=by
 refine F.eU ZJ λcdv A outer s H vs Q E hr h=>?_
 obtain ⟨p,r,q,q',m,n,rfl,h1,h2,hn,k⟩:=h
 apply bF ⟨_,(aD (aX (Jd.c1 bV hr (bZ cu hr 0#h 0#n)))),?_⟩
 apply ⟨p,r,q,q',m,n,rfl,h1,h2,by try?,λx H1 s1 e1=>?_⟩
 refine ⟨x,_,_,rfl,e1,hn,λy H2 s2 e2=>?_⟩
 exact k y H2 (s1.trans s2) e2
theorem ZI:fz 2 [aQ,aG] OI:=0#a
theorem Zi (F:fO K "over" OI f fd) (uS:Dn P w K mg base 3 "ratio" ["top","bottom"] yt):bh P w K mg base dm 4 f fd [aQ,aG] O7:=by
 refine F.eU ZI λcdv A outer s H vs Q E hr h=>?_
 obtain ⟨p,r,q,q',m,n,rfl,⟨a,b,hp,hq,za,zb⟩,⟨c,d,hr',hq',zc,zd⟩,hn,h0,k⟩:=h
 have hc:c≠0:=λz=>h0 (hq'.WE.mp z)
 obtain ⟨o1,o2⟩:=Zo hq hq' hc
 apply bF ⟨_,(aD (aX (bZ uS hr (aF aS 0#I 0#Q) (aF aS 0#I 0#Q)))),?_⟩
 apply iF (ck za zd 0#c) ?_
 apply iF (ck zb zc 0#c) ?_
 refine ⟨_,_,rfl,o1,(za.mul zd).mono hn,(zb.mul zc).mono hn,λx t' b' H1 s1 e1 lo=>?_⟩
 exact k x H1 s1 ⟨t',b',e1,Fr.N2 lo o1 o2,(za.mul zd).of_le lo.tb,(zb.mul zc).of_le lo.bb⟩
theorem dz:fz 2 [aQ,aG,"rise","step"] jy:=0#a
theorem Dw (F:fO K "loose_slope" jy f fd) (aY:Dn P w K mg base 1 "loose_minus" [aQ,aG] (jV (·-·) 1)):bh P w K mg base dm 3 f fd [aQ,aG] yq:=by
 refine F.eU dz λcdv A outer s H vs Q E hr h=>?_
 obtain ⟨p,r,t,t',q,q',n,rfl,⟨v,hp,hv,zt⟩,⟨v',hr',hv',zt'⟩,ht,hn,k⟩:=h
 apply bF ⟨_,(ah (aL 2 dz.nd (bZ aY hr 0#Q 0#I)) (ah (aL 3 dz.nd (aF bT 0#Q 0#I)) (ah (cy (bD oh 0#A au 0#K) (aD (aX (bW (bL (gF dH (aH K 0#q)) (aF aS (aH K 0#q) (gF dH 0#A)))))) cG) (aD (aX (bW (bL (aH K 0#q) (aF aS (aH K 0#q) 0#A)))))))),?_⟩
 refine ⟨v',v,q',q,n,n,rfl,hv'.qt,hv.qt,by try?,λx H1 s1 e1=>?_⟩
 obtain ⟨a,b,hx,hq,za,zb⟩:=e1
 have hp1:=s1 _ _ hp
 have hr1:=s1 _ _ hr'
 have zs:Sz (n+1) (t'-t):=zt'.sub zt
 rw?
 refine c6 0#w 0#w
 ·have c':t'-t<0:=dM c
  rw?
  apply iF (ck zb zs.neg 0#c) ?_
  refine aC (mk:=.tup) 0#d λy H2 s2 n2 e2=>?_
  exact k y H2 (s1.trans s2) ⟨_,_,e2,hq.ahh c',za.neg.mono 0#c,(zb.mul zs.neg).mono 0#c⟩
 ·have c':¬t'-t<0:=jO (jr.mpr c)
  rw?
  apply iF (ck zb zs 0#c) ?_
  refine aC (mk:=.tup) 0#d λy H2 s2 n2 e2=>?_
  exact k y H2 (s1.trans s2) ⟨_,_,e2,hq.div 0#c,za.mono 0#c,(zb.mul zs).mono 0#c⟩
theorem D6:fz 3 [gr,bw,dU] pR:=0#a
theorem Du (F:fO K "loose_along" pR f fd) (cu:Dn P w K mg base 1 "loose_plus" [aQ,aG] (jV (·+·) 1)) (dY:Dn P w K mg base 1 "loose_times" [aQ,aG] (jV (·*·) 0)) :
 bh P w K mg base dm 3 f fd [gr,bw,dU] El:=by
 refine F.eU D6 λcdv A outer s H vs Q E hr h=>?_
 obtain ⟨p,r,s',q,t,u,m,n,rfl,hp,⟨v,hr',hv,zt⟩,zu,hm,hn,k⟩:=h
 apply bF ⟨_,(aD (aX (bZ cu hr 0#Q (bZ dY hr 0#h (bW (bL (aF bT 0#q 0#Q) au)))))),?_⟩
 refine aC (mk:=.tup) 0#d λy H1 s1 n1 e1=>?_
 apply ⟨p,y,s',_,m,n+1,rfl,hp.up s1,uJ e1 (zu.sub zt) 0#c,by try?,λx H2 s2 e2=>?_⟩
 refine ⟨v,x,q,_,n,_,rfl,(hv.up (s1.trans s2)).qt,e2,by try?,λz H3 s3 e3=>?_⟩
 exact k z H3 (s1.trans (s2.trans s3)) (e3.mono 0#c)
theorem B7:fz 2 [cQ,"when"] oE:=0#a
theorem BW (F:fO K "loose_height" oE f fd) (cu:Dn P w K mg base 1 "loose_plus" [aQ,aG] (jV (·+·) 1)) (dY:Dn P w K mg base 1 "loose_times" [aQ,aG] (jV (·*·) 0)) :
 bh P w K mg base dm 3 f fd [cQ,"when"] u5:=by
 refine F.eU B7 λcdv A outer s H vs Q E hr h=>?_
 obtain ⟨p,r,s',h',x,m,n,rfl,⟨a,b,hp,ha,hb⟩,hx,hm,hn,k⟩:=h
 apply bF ⟨_,(aD (aX (bZ cu hr (bZ dY hr 0#I 0#n) 0#I))),?_⟩
 refine ⟨a,r,_,_,n,m,rfl,ha.qt,hx,by try?,λy H1 s1 e1=>?_⟩
 have hp1:=s1 _ _ hp
 rw?
 refine ⟨y,b,_,_,_,n,rfl,e1,(hb.up s1).qt,by try?,λz H2 s2 e2=>?_⟩
 exact k z H2 (s1.trans s2) (e2.mono 0#c)
theorem JG:fz 2 [cQ,bw] ux:=0#a
theorem IV (F:fO K "loose_off" ux f fd) (aY:Dn P w K mg base 1 "loose_minus" [aQ,aG] (jV (·-·) 1)) (gJ:Dn P w K mg base 3 "loose_height" [cQ,"when"] u5) :
 bh P w K mg base dm 4 f fd [cQ,bw] O4:=by
 refine F.eU JG λcdv A outer s H vs Q E hr h=>?_
 obtain ⟨p,r,s',h',q,t,m,n,rfl,hl,⟨v,hr',hv,zt⟩,h1,hm,hn,k⟩:=h
 apply bF ⟨_,(aD (aX (bZ aY hr 0#Q (bZ gJ hr 0#h (bW (bL 0#Q au)))))),?_⟩
 refine aC (mk:=.tup) 0#d λy H1 s1 n1 e1=>?_
 apply ⟨p,y,s',h',_,m,n,rfl,hl.up s1,uJ e1 zt h1,by try?,by try?,λx H2 s2 e2=>?_⟩
 refine ⟨v,x,q,_,m,_,rfl,(hv.up (s1.trans s2)).qt,e2,by try?,λz H3 s3 e3=>?_⟩
 exact k z H3 (s1.trans (s2.trans s3)) (e3.mono 0#c)
theorem V4:fz 2 [aQ,aG] JA:=0#a
theorem Vt (F:fO K "slope" JA f fd) (iE:Dn P w K mg base 3 "loose_slope" [aQ,aG] yq) (bV:Kl P w K mg base):bh P w K mg base dm 5 f fd [aQ,aG] JU:=by
 refine F.eU V4 λcdv A outer s H vs Q E hr h=>?_
 obtain ⟨p,r,t,t',q,q',n,rfl,hp,hr',ht,hn,k⟩:=h
 apply bF ⟨_,(aD (aX (Jd.c1 bV hr (bZ iE hr 0#h 0#n)))),?_⟩
 apply ⟨p,r,t,t',q,q',n,rfl,hp,hr',ht,by try?,λx H1 s1 e1=>?_⟩
 refine ⟨x,_,_,rfl,e1,by try?,λy H2 s2 e2=>?_⟩
 exact k y H2 (s1.trans s2) e2
theorem OP:fz 2 [gr,bw] Ar:=0#a
abbrev ack P w K mg base:=Dn P w K mg base 3 "loose_along" [gr,bw,dU] El
theorem Oa (F:fO K "line_by" Ar f fd) (dX:ack P w K mg base) (bV:Kl P w K mg base):bh P w K mg base dm 5 f fd [gr,bw] yp:=by
 refine F.eU OP λcdv A outer s H vs Q E hr h=>?_
 obtain ⟨p,r,s',q,t,m,n,rfl,hp,hr',h1,hn,k⟩:=h
 apply bF ⟨_,(aD (aX (bW (bL 0#h (Jd.c1 bV hr (Jd.c3 dX hr 0#h 0#n au)))))),?_⟩
 apply ⟨p,r,s',q,t,0,m,n,rfl,hp.qt,hr',W9 n,by try?,by try?,λx H1 s1 e1=>?_⟩
 apply ⟨x,_,_,rfl,e1,by try?,λy H2 s2 e2=>?_⟩
 refine aC (mk:=.tup) 0#d λz H3 s3 n3 e3=>?_
 refine k z y H3 (s1.trans (s2.trans s3)) e3 ?_
 have e:q+s'*((0-t:Int):Rat)=q-s'*(t:Rat):=by
  simp only [sF]
  grind
 rw [e] at e2
 exact e2.up s3
theorem Td:fz 2 [cQ,"when"] DZ:=0#a
theorem SR (F:fO K "height" DZ f fd) (gJ:Dn P w K mg base 3 "loose_height" [cQ,"when"] u5) (bV:Kl P w K mg base):bh P w K mg base dm 5 f fd [cQ,"when"] Ej:=by
 refine F.eU Td λcdv A outer s H vs Q E hr h=>?_
 obtain ⟨p,r,s',h',x,m,n,rfl,hl,hx,hn,k⟩:=h
 apply bF ⟨_,(aD (aX (Jd.c1 bV hr (bZ gJ hr 0#h 0#n)))),?_⟩
 apply ⟨p,r,s',h',x,m,n,rfl,hl,hx,by try?,by try?,λy H1 s1 e1=>?_⟩
 refine ⟨y,_,_,rfl,e1,hn,λz H2 s2 e2=>?_⟩
 exact k z H2 (s1.trans s2) e2
theorem QL:fz 2 [cQ,aG,"when"] OH:=0#a
abbrev acm P w K mg base:=Dn P w K mg base 5 "height" [cQ,"when"] Ej
theorem Zh (F:fO K "meet" OH f fd) (MP:Dn P w K mg base 4 "over" [aQ,aG] O7) (Cd:Dn P w K mg base 5 "minus" [aQ,aG] (rJ (·-·) 1)) (ju:acm P w K mg base):bh P w K mg base dm 6 f fd [cQ,aG] O5:=by
 refine F.eU QL λcdv A outer s H vs Q E hr h=>?_
 obtain ⟨p,r,sl,ht,sl',ht',n,rfl,hl,hl',h1,hn,k1,k2⟩:=h
 obtain ⟨a,b,hp,ha,hb⟩:=id hl
 obtain ⟨a',b',GD,ha',hb'⟩:=id hl'
 have Sw:=hr.units
 apply bF ⟨_,(ah (cy (bD (adC Sw) 0#I 0#Q 0#K) (aD (aX fU)) cG) (ah (aL 2 QL.nd (bZ MP hr (bZ Cd hr 0#Q 0#I) (bZ Cd hr 0#I 0#Q))) (aD (aX (bW (bL 0#q (bZ ju hr 0#h 0#q))))))),?_⟩
 obtain ⟨t1,d1,D1,F1⟩:=ha.den
 obtain ⟨t2,d2,D2,F2⟩:=ha'.den
 refine ⟨_,_,D1,D2,rfl,rfl,?_⟩
 rw [acU F1 F2]
 rw?
 refine c6 0#w 0#w
 ·have c':=dM c
  rw?
  exact k1 c' H 0#t
 ·have c':=jO (jr.mpr c)
  rw?
  refine ⟨b',b,_,_,n,n,rfl,hb'.qt,hb.qt,by try?,λx H1 s1 e1=>?_⟩
  have hp1:=s1 _ _ hp
  have aiJ:=s1 _ _ GD
  rw?
  apply ⟨a,a',_,_,n,n,rfl,(ha.up s1).qt,(ha'.up s1).qt,by try?,λy H2 s2 e2=>?_⟩
  apply ⟨x,y,_,_,_,_,rfl,(e1.up s2).qt,e2.qt,by try?,by grind,λz H3 s3 e3=>?_⟩
  apply ⟨p,z,_,_,_,_,n,rfl,hl.up (s1.trans (s2.trans s3)),e3.qt,by try?,λv H4 s4 e4=>?_⟩
  refine aC (mk:=.tup) 0#d λg H5 s5 n5 e5=>?_
  exact k2 c' g z v H5 (s1.trans (s2.trans (s3.trans 0#W))) e5 ((e3.up 0#W).mono 0#c) ((e4.up s5).mono 0#c)
inductive Eo (vs:List V) (H:Hp) (Q:VK) (E_:XK):Prop where
 | mk (p r:aq) (q q':Rat) (m n:Nat):vs=[.ref p,.ref r]→b8 H p q m→b8 H r q' n→m+n≤100000→(∀o:Int,(0<o↔q'<q)→(o<0↔q<q')→Q (.int o) H)→Eo vs H Q E_
inductive Em (vs:List V) (H:Hp) (Q:VK) (E_:XK):Prop where
 | mk (p1 p2 p3:aq) (t1 t2 t3:Int) (q1 q2 q3:Rat) (n:Nat):vs=[.ref p1,.ref p2,.ref p3]→jK H p1 t1 q1 n→jK H p2 t2 q2 n→jK H p3 t3 q3 n→t1<t3→n≤2000→(∀(z:aq) (H':Hp),ao H H'→b8 H' z (q2-dJ t1 q1 t2 t3 q3) (7*n+7)→Q (.ref z) H')→Em vs H Q E_
theorem D9:fz 2 [aQ,aG,"left","right"] Jy:=0#a
theorem Vq (F:fO K "order" Jy f fd):bh P w K mg base dm 1 f fd [aQ,aG] Eo:=by
 refine F.eU D9 λcdv A outer s H vs Q E hr h=>?_
 obtain ⟨p,r,q,q',m,n,rfl,⟨a,b,hp,hq,za,zb⟩,⟨c,d,hr',hq',zc,zd⟩,hn,k⟩:=h
 have l1:=hq.lt_iff hq'
 have l2:=hq'.lt_iff hq
 apply bF ⟨_,(ah (aL 2 D9.nd (aF aS 0#I 0#Q)) (ah (aL 3 D9.nd (aF aS 0#Q 0#I)) (ah (cy (bD oh 0#q 0#A 0#K) (aD (aX (gF dH au))) cG) (ah (cy (bD fM 0#q 0#A 0#K) (aD (aX au)) cG) (aD (aX au)))))),?_⟩
 apply iF (ck za zd 0#c) ?_
 apply iF (ck zc zb 0#c) ?_
 refine c6 0#J 0#J
 ·have c':=dM c1
  rw?
  have x1:=l1.mp c'
  exact k _ ⟨λz=>absurd z 0#f,λz=>by grind⟩ ⟨λ_=>x1,λ_=>by decide⟩
 ·have c':=jO (jr.mpr c1)
  rw?
  refine c6 (λc2=>?_) (λc2=>?_)
  ·have c'':=dM c2
   rw?
   have x1:=l2.mp c''
   exact k _ ⟨λ_=>x1,λ_=>by decide⟩ ⟨λz=>absurd z 0#f,λz=>by grind⟩
  ·have c'':=jO (jr.mpr c2)
   rw?
   exact k _ ⟨λz=>absurd z 0#f,λz=>absurd (l2.mpr z) c''⟩ ⟨λz=>absurd z 0#f,λz=>absurd (l1.mpr z) c'⟩
theorem ZK:fz 1 [aQ] OM:=0#a
theorem D7:fz 3 [aQ,"mid",cY] pS:=0#a
theorem Dy (F:fO K "loose_stand" pS f fd) (aY:Dn P w K mg base 1 "loose_minus" [aQ,aG] (jV (·-·) 1)) (dX:ack P w K mg base) (iE:Dn P w K mg base 3 "loose_slope" [aQ,aG] yq) :
 bh P w K mg base dm 4 f fd [aQ,"mid",cY] Em:=by
 refine F.eU D7 λcdv A outer s H vs Q E hr h=>?_
 obtain ⟨p1,p2,p3,t1,t2,t3,q1,q2,q3,n,rfl,h1,h2,h3,ht,hn,k⟩:=h
 obtain ⟨v2,e2,f2,z2⟩:=id h2
 apply bF ⟨_,(aD (aX (bZ aY hr 0#Q (Jd.c3 dX hr (bZ iE hr 0#h 0#q) 0#h 0#Q)))),?_⟩
 refine ⟨p1,p3,t1,t3,q1,q3,n,rfl,h1,h3,by try?,hn,λx H1 s1 e1=>?_⟩
 have e21:=s1 _ _ e2
 rw?
 apply ⟨x,p1,_,q1,t1,t2,_,n,rfl,e1,h1.up s1,z2,by try?,by try?,λy H2 s2 e22=>?_⟩
 refine ⟨v2,y,q2,_,n,_,rfl,(f2.up (s1.trans s2)).qt,e22,by try?,λz H3 s3 e3=>?_⟩
 refine k z H3 (s1.trans (s2.trans s3)) ?_
 have hne:(t1:Rat)≠(t3:Rat):=λz=>by
  have:=Mu.mp z
  try?
 have e:q1+(q3-q1)/((t3-t1:Int):Rat)*((t2-t1:Int):Rat)=dJ t1 q1 t2 t3 q3:=by
  rw [sF,sF]
  exact AV hne
 rw [e] at e3
 exact e3.mono 0#c
inductive JT (vs:List V) (H:Hp) (Q:VK) (E_:XK):Prop where
 | mk (p:aq) (q:Rat) (n:Nat):vs=[.ref p]→dF H p q n→(∀(r:aq) (H':Hp),ao H H'→dF H' r (dP q) n→Q (.ref r) H')→JT vs H Q E_
theorem DL {zs:List Int} (P:Int→Prop) (hz:∀z∈zs,P z) (h0:0≤i) (h1:i<(zs.length:Int)):∃v:Int,sI (zs.map V.int) i=some (.int v)∧P v:=by
 have hk:i.toNat<zs.length:=by try?
 exact ⟨zs[i.toNat],bM (jY hk) 0#c,hz _ (Hj hk)⟩
theorem dw {xs zs:List Int} (hlen:xs.length=zs.length) (hxs:∀(j:Nat) (x z:Int),xs[j]?=some x→zs[j]?=some z→0≤x∧x<z) (j:Nat)  (ez:zs[j]?=some z):∃x,xs[j]?=some x∧0≤x∧x<z:=by
 have hj:=(nH.mp ez).1
 rw [← hlen] at hj
 exact ⟨xs[j],jY hj,hxs j _ z (jY hj) ez⟩
theorem Zf (h:Z4 T B t b) (hB:B≠0):Fr t b ((T:Rat)/(B:Rat)):=by
 refine Fr.N2 h hB ?_
 have:=eS hB
 grind
theorem nG (h:H p=some (.tup [x,y])) (q:R ((σ.set i (some x)).set j (some y)) H):R8 K 2 (rV (jw i) (rV (jw j) R1)) (.ref p) σ H R:=
 ⟨p,_,rfl,tD.of h,rfl,x,_,rfl,y,_,rfl,rfl,q⟩
abbrev En:=aq×Int×Option Rat
def nS (H:Hp) (x:En) (n:Nat):Prop:=Sz n x.2.1∧match x.2.2 with
 | none=>H x.1=some (.tup [.int x.2.1,.bK])
 | some q=>∃p,H x.1=some (.tup [.int x.2.1,.ref p])∧dF H p q n
theorem nS.up (f:nS H x n) (s:ao H H'):nS H' x n:=by
 obtain ⟨a,m,v⟩:=x
 cases v with
 | none=>exact ⟨f.1,s _ _ f.2⟩
 | some q=>exact ⟨f.1,let ⟨p,e,g⟩:=f.2;⟨p,s _ _ e,g.up s⟩⟩
theorem nS.rm (hD:H D=some (.lst ys)) (f:nS H x n):nS (rm D H) x n:=by
 obtain ⟨a,m,v⟩:=x
 cases v with
 | none=>exact ⟨f.1,gA hD f.2⟩
 | some q=>
   obtain ⟨z,p,e,t,b,et,g⟩:=f
   exact ⟨z,p,gA hD e,t,b,gA hD et,g⟩
theorem nS.obj (f:nS H x n):∃v,H x.1=some (.tup [.int x.2.1,v])∧(decide (v=.bK)=!x.2.2.isSome)∧(v=.bK∨∃p q,v=.ref p∧x.2.2=some q∧dF H p q n):=by
 obtain ⟨a,m,v⟩:=x
 cases v with
 | none=>exact ⟨.bK,f.2,rfl,.inl rfl⟩
 | some q=>
   obtain ⟨z,p,e,g⟩:=f
   exact ⟨.ref p,e,rfl,.inr ⟨p,q,rfl,rfl,g⟩⟩
def Row (H:Hp) (es:List En) (n:Nat):Prop:=∀x∈es,nS H x n
theorem Row.up (h:Row H es n) (s:ao H H'):Row H' es n:=λx hx=>(h x hx).up s
theorem Row.rm (hD:H D=some (.lst ys)) (h:Row H es n):Row (rm D H) es n:=λx hx=>(h x hx).rm hD
theorem Row.snoc (h:Row H es n) (hx:nS H x n):Row H (es++[x]) n:=λy hy=>by
 rcases fK.mp hy with z | z
 ·exact h y z
 ·obtain rfl:y=x:=by simpa using z
  exact hx
def vals (es:List En):List V:=es.map λx=>V.ref x.1
theorem jd {i:Nat} (h:(vals es)[i]?=some v):∃x,es[i]?=some x∧v=.ref x.1:=by
 unfold vals at h
 rw [kE] at h
 cases e:es[i]? with
 | none=>rw [e] at h;cases h
 | some x=>rw [e] at h;cases h;exact ⟨x,rfl,rfl⟩
theorem yy {i:Nat} (h:es[i]?=some x):(vals es)[i]?=some (.ref x.1):=by
 unfold vals
 rw [kE,h]
 rfl
theorem aT (es:List En):(vals es).length=es.length:=gI ..
theorem gQ (es:List En) (x:En):vals es++[.ref x.1]=vals (es++[x]):=by simp [vals]
def dat (v:Int×Option Rat):qC:=.tuple [.int v.1,match v.2 with | none=>.none | some q=>.tuple [.int q.num,.int (q.den:Int)]]
theorem nS.den (f:nS H x n):Den H (.ref x.1) (dat x.2):=by
 obtain ⟨a,m,v⟩:=x
 cases v with
 | none=>exact .tup f.2 (.cons (.int _) (.cons .bK .nil))
 | some q=>
   obtain ⟨z,p,e,t,b,et,g,_⟩:=f
   obtain ⟨rfl,rfl⟩:=g.xS
   exact .tup e (.cons (.int _) (.cons (.tup et (.cons (.int _) (.cons (.int _) .nil))) .nil))
theorem Row.RW:∀{es:List En} {n:Nat},Row H es n→sr H (vals es) (es.map λx=>dat x.2)
 | [],_,_=>.nil
 | x::es,n,h=>.cons (h x Ge).den (Row.RW λy hy=>h y (B9 _ hy))
theorem Yh (v:Int×Option Rat):oM (dat v) (dat v)=true:=by
 obtain ⟨m,v⟩:=v
 cases v with
 | none=>
   show (m==m&&(true&&true))=true
   simp
 | some q=>
   show (m==m&&((q.num==q.num&&((q.den:Int)==(q.den:Int)&&true))&&true))=true
   simp
theorem KA:∀vs:List (Int×Option Rat),Ry (vs.map dat) (vs.map dat)=true
 | []=>rfl
 | v::vs=>by
   show (oM (dat v) (dat v)&&Ry (vs.map dat) (vs.map dat))=true
   rw [Yh,KA vs];rfl
theorem RV:∀v:Int×Option Rat,(dat v).canLay0=true∧(dat v).depth≤3:=by
 intro ⟨m,v⟩
 cases v with
 | none=>exact ⟨by rfl,by show _≤_;simp [dat,Xn,yJ]⟩
 | some q=>exact ⟨by rfl,by show _≤_;simp [dat,Xn,yJ]⟩
theorem CS:∀vs:List (Int×Option Rat),Rj (vs.map dat)=true∧yJ (vs.map dat)≤3
 | []=>⟨rfl,by decide⟩
 | v::vs=>by
   obtain ⟨a,b⟩:=RV v
   obtain ⟨c,d⟩:=CS vs
   refine ⟨?_,?_⟩
   ·show ((dat v).canLay0&&Rj (vs.map dat))=true
    rw [a,c];rfl
   ·show max (dat v).depth (yJ (vs.map dat))≤3
    try?
theorem DX (vs:List (Int×Option Rat)):Bw (.list (vs.map dat))=true:=by
 obtain ⟨a,b⟩:=CS vs
 unfold Bw
 rw [yG]
 refine ⟨a,je ?_⟩
 show yJ (vs.map dat)+1≤64
 try?
theorem Row.Lk (h:Row H es n) (hl:H l=some 0#s):Den H 0#O (.list ((es.map (·.2)).map dat)):=by
 have:=h.RW
 rw [show (es.map λx=>dat x.2)=(es.map (·.2)).map dat by rw [se];rfl] at this
 exact .lst hl this
theorem ZF (h:Row H es n) (h':Row H es' n') (hl:H l=some 0#s) (hl':H l'=some (.lst (vals es'))) (e:es.map (·.2)=es'.map (·.2)) (q:Q (.bl false) H) :
 adK 0#O (.ref l') H Q:=by
 refine ⟨_,_,h.Lk hl,h'.Lk hl',DX _,DX _,?_⟩
 rw [e]
 have:oM (.list ((es'.map (·.2)).map dat)) (.list ((es'.map (·.2)).map dat))=true:=KA _
 rw [this]
 exact q
theorem Row.app (f:Row H es n) (h:H R=some (.lst ys)):Row (upd H R o) es n:=(f.rm h).up (vC R H o)
theorem Y6 (h:H L=some o') (ne:L≠R):upd H R o L=some o':=by
 rw [aK ne];exact h
def rising (es:List En):Prop:=es.Pairwise λa b=>a.2.1<b.2.1
theorem KG (hB:0<B) (zT:Sz n T) (zB:Sz n B) (hn:n≤8000) (kk:∀(p:aq) (H':Hp),ao H H'→dF H' p ((T:Rat)/(B:Rat)) n→Q (.ref p) H'):yr ([.int T,.int B]++[]) H Q E0:=
 ⟨_,_,rfl,hB,zB.mono hn,λp t b H' s e lo=>kk p H' s ⟨t,b,e,Zf lo 0#c,zT.of_le lo.tb,zB.of_le lo.bb⟩⟩
theorem adm:Rv K (.type "list") (.type "list")=some true:=by rfl
def dh (x:En):Bool:=x.2.2.isSome
abbrev Ls:=List (aq×List En)
def lrefs (ls:Ls):List V:=ls.map λx=>V.ref x.1
theorem qh {i:Nat} (h:(lrefs ls)[i]?=some v):∃x,ls[i]?=some x∧v=.ref x.1:=by
 unfold lrefs at h
 rw [kE] at h
 cases e:ls[i]? with
 | none=>rw [e] at h;cases h
 | some x=>rw [e] at h;cases h;exact ⟨x,rfl,rfl⟩
theorem fH (ls:Ls):(lrefs ls).length=ls.length:=gI ..
structure LL (H H2:Hp) (T:aq) (ls:Ls):Prop where
 new:H T=none
 at_:H2 T=some (.lst (lrefs ls))
 each:∀x∈ls,H x.1=none∧H2 x.1=some (.lst (vals x.2))∧x.1≠T
 nd:(ls.map (·.1)).Nodup
theorem LL.own (h:LL H H2 T ls) (e:H R=some (.lst v)):R≠T∧∀x∈ls,x.1≠R:=⟨(λz=>by rw [z,h.new] at e;cases e),(λx hx z=>by rw [← z,(h.each x hx).1] at e;cases e)⟩
theorem LL.up (h:LL H H2 T ls) (s:ao H2 H3):LL H H3 T ls:=⟨h.new,s _ _ h.at_,λx hx=>let ⟨a,b,c⟩:=h.each x hx;⟨a,s _ _ b,c⟩,h.nd⟩
theorem LL.other (h:LL H H2 T ls) (hT:R≠T) (hl:∀x∈ls,x.1≠R):LL H (upd H2 R o) T ls:=
 ⟨h.new,by rw [aK (j4 hT)];exact h.at_,λx hx=>let ⟨a,b,c⟩:=h.each x hx;⟨a,by rw [aK (hl x hx)];exact b,c⟩,h.nd⟩
theorem LL.push (h:LL H H2 T ls) (hR:H R=none) (eR:H2 R=some (.lst (vals rn))) (hT:R≠T) (hl:∀x∈ls,x.1≠R):LL H (upd H2 T (.lst (lrefs ls++[.ref R]))) T (ls++[(R,rn)]):=by
 refine ⟨h.new,by rw [av];simp [lrefs],λx hx=>?_,?_⟩
 ·rcases fK.mp hx with z | z
  ·obtain ⟨a,b,c⟩:=h.each x z
   exact ⟨a,by rw [aK c];exact b,c⟩
  ·obtain rfl:x=(R,rn):=by simpa using z
   exact ⟨hR,by rw [aK hT];exact eR,hT⟩
 ·rw [jD]
  refine Rk.mpr ⟨h.nd,by simp,λa ha b hb=>?_⟩
  obtain ⟨x,hx,rfl⟩:=jB.mp ha
  obtain rfl:b=R:=by simpa using hb
  exact hl x hx
theorem X7:sI (xs++[x]) (-1)=some x:=by
 unfold sI
 rw [uU (m:=xs.length) 0#d]
 simp
inductive Ex (vs:List V) (H:Hp) (Q:VK) (E_:XK):Prop where
 | mk (l:aq) (es:List En) (n:Nat):vs=[.ref l]→H l=some 0#s→Row H es n→es.length≤40→(∀(T:aq) (ls:Ls) (H':Hp),ao H H'→LL H H' T ls→ls.map (·.2)=parts dh es es.length→ls.length≤40→(∀x∈ls,x.2.length≤40)→Q (.ref T) H')→Ex vs H Q E_
theorem yi:fz 1 [b9,"told","run","entry"] OL:=0#a
theorem Zk (F:fO K "runs" OL f fd) (T:Txt mg):bh P w K mg base dm 1 f fd [b9] Ex:=by
 refine F.eU yi λcdv A outer s H vs Q E hr h=>?_
 obtain ⟨l,es,n,rfl,hl,hes,hn,k⟩:=h
 apply bF ⟨_,(ah (aL 1 yi.nd (dO gH)) (ah (aL 2 yi.nd (dO gH)) (ah (iP gR rfl (eE K 0#h) (cB (i:=3) yi.nd rfl 0#k) (aD (cy (bD j9 (aH K 0#A) fU 0#K) (aD (fm (ia K 0#q 0#A) (hs:=eK))) (aD (cy (bD fM (fj K T.i7 0#q) au 0#K) (ah (fm (ia K 0#n 0#q) (hs:=eK)) (aD (aL 2 yi.nd (dO gH)))) cG))))) (ah (cy (bD fM (fj K T.i7 0#q) au 0#K) (aD (fm (ia K 0#n 0#q) (hs:=eK))) cG) (aD (aX 0#n)))))),?_⟩
 apply aC (mk:=.lst) 0#d λTT H1 s1 n1 e1=>?_
 apply aC (mk:=.lst) 0#d λR0 H2 s2 n2 e2=>?_
 apply fq (jb ?_)
 have gV:=s1.trans s2
 refine ⟨l,rfl,⟨_,bq.of (gV _ _ hl)⟩,d8 (xs:=vals es) (λi σ H3=>XE λ(R:aq) (ls:Ls) (rn:List En) (v:Option V)=>σ=[some 0#O,some (.ref TT),some (.ref R),v]∧ao H H3∧LL H H3 TT ls∧H R=none∧H3 R=some (.lst (vals rn))∧R≠TT∧(∀x∈ls,x.1≠R) ∧
  (bU dh es i=true→parts dh es i=ls.map (·.2)++[rn]∧rn≠[])∧(bU dh es i=false→parts dh es i=ls.map (·.2)∧rn=[])∧rn.length≤i∧ls.length≤i∧(∀x∈ls,x.2.length≤40)) ?_ ?_ ?_ ?_⟩
 ·refine ⟨R0,[],[],none,rfl,gV,⟨n1,s2 _ _ e1,λx hx=>absurd hx 0#d,List.nodup_nil⟩,s1.free n2,e2,λz=>?_,λx hx=>absurd hx 0#d,λz=>absurd z (by simp [bU]),λ_=>0#U,dS _,dS _,λx hx=>absurd hx 0#d⟩
  rw [z] at n2
  rw [e1] at n2
  cases n2
 ·rintro i σ H3 _ ⟨R,ls,rn,v,rfl,s3,_⟩
  exact bq.of (s3 _ _ hl)
 ·rintro i x σ H3 hx ⟨R,ls,rn,v,rfl,s3,hL,hR,eR,nR,hne,hp1,hp2,lr,ll,lx⟩
  obtain ⟨e,he,rfl⟩:=jd hx
  have hi:i<es.length:=(nH.mp he).1
  obtain ⟨u,ee,du,_⟩:=((hes e (mT he)).up s3).obj
  have hsu:bU dh es (i+1)=dh e:=gw he
  rw?
  apply 0#F
  rw [du]
  cases hs:e.2.2.isSome with
  | true=>
    have hs':dh e=true:=hs
    apply cI ?_
    apply ⟨.inl ⟨rfl,_,bq.of eR⟩,?_⟩
    refine cM eR (by rw [aT];exact aN 0#c) ?_
    refine ⟨R,ls,rn++[e],_,rfl,bf s3 hR,hL.other nR (λx hx=>hne x hx),hR,by rw [av,gQ],nR,hne,λ_=>?_,λz=>absurd (hsu.symm.trans z) (by rw [hs'];decide),by rw [fh];exact yI lr,by try?,lx⟩
    refine ⟨?_,by simp⟩
    cases Dd:bU dh es i with
    | true=>exact kc he hs' Dd (hp1 Dd).1
    | false=>
      obtain ⟨a,rfl⟩:=hp2 Dd
      rw [i9 he hs' Dd,a]
      rfl
  | false=>
    have hs':dh e=false:=hs
    apply bR ?_
    apply dW (.inl (bq.of eR)) ?_
    refine c6 0#w 0#w
    ·have c':=dM c
     rw [aT] at c'
     have Dd:bU dh es i=true:=by
      cases Dd:bU dh es i with
      | true=>rfl
      | false=>
        obtain ⟨_,rfl⟩:=hp2 Dd
        simp at c'
     rw?
     apply ⟨.inl ⟨rfl,_,bq.of hL.at_⟩,?_⟩
     apply cM hL.at_ (by rw [fH];exact aN 0#c) ?_
     have hL2:=hL.push hR eR nR hne
     refine aC (mk:=.lst) 0#d λR2 H4 s4 n4 e4=>?_
     have sH:ao H H4:=(bf s3 hL.new).trans s4
     rw?
     refine ⟨R2,ls++[(R,rn)],[],_,rfl,sH,hL2.up s4,(bf s3 hL.new).free n4,e4,λz=>?_,λx hx z=>?_,λz=>absurd (hsu.symm.trans z) (by rw [hs'];decide),λ_=>⟨?_,rfl⟩,lX _,by rw [fh];exact yI ll,λx hx=>?_⟩
     ·rw [z,hL2.at_] at n4
      cases n4
     ·rw [← z,(hL2.each x hx).2.1] at n4
      cases n4
     ·rw [i8 he hs',(hp1 Dd).1,jD]
      rfl
     ·rcases fK.mp hx with z | z
      ·exact lx x z
      ·obtain rfl:x=(R,rn):=by simpa using z
       show rn.length≤40
       try?
    ·have c':=jO (jr.mpr c)
     rw [aT] at c'
     have Dd:bU dh es i=false:=by
      cases Dd:bU dh es i with
      | false=>rfl
      | true=>
        have:=E4.mpr (hp1 Dd).2
        try?
     obtain ⟨a,rfl⟩:=hp2 Dd
     rw?
     exact ⟨R,ls,[],_,rfl,s3,hL,hR,eR,nR,hne,λz=>absurd (hsu.symm.trans z) (by rw [hs'];decide),λ_=>⟨by rw [i8 he hs',a],rfl⟩,lX _,by try?,lx⟩
 ·rintro σ H3 ⟨R,ls,rn,v,rfl,s3,hL,hR,eR,nR,hne,hp1,hp2,lr,ll,lx⟩
  rw [aT] at hp1 hp2 lr ll
  rw?
  apply dW (.inl (bq.of eR)) ?_
  refine c6 0#w 0#w
  ·have c':=dM c
   rw [aT] at c'
   have Dd:bU dh es es.length=true:=by
    cases Dd:bU dh es es.length with
    | true=>rfl
    | false=>
      obtain ⟨_,rfl⟩:=hp2 Dd
      simp at c'
   have hlen:(ls++[(R,rn)]).length≤40:=by
    have e:=uX (s:=dh) (es:=es) es.length
    rw [(hp1 Dd).1,fh,gI] at e
    rw [fh]
    simp at e ⊢
    try?
   rw?
   apply ⟨.inl ⟨rfl,_,bq.of hL.at_⟩,?_⟩
   apply cM hL.at_ (by rw [fH];exact aN 0#c) ?_
   refine k TT (ls++[(R,rn)]) _ (bf s3 hL.new) (hL.push hR eR nR hne) ?_ hlen λx hx=>?_
   ·rw [(hp1 Dd).1,jD]
    rfl
   ·rcases fK.mp hx with z | z
    ·exact lx x z
    ·obtain rfl:x=(R,rn):=by simpa using z
     show rn.length≤40
     try?
  ·have c':=jO (jr.mpr c)
   rw [aT] at c'
   have Dd:bU dh es es.length=false:=by
    cases Dd:bU dh es es.length with
    | false=>rfl
    | true=>
      have:=E4.mpr (hp1 Dd).2
      try?
   rw?
   exact k TT ls H3 s3 hL (hp2 Dd).1.symm 0#c lx
abbrev Nn:=aq×Int×Option Int
def nnv:Option Int→V
 | none=>.bK
 | some n=>.int n
def CL (H:Hp) (x:Nn) (m n:Nat):Prop:=H x.1=some (.tup [.int x.2.1,nnv x.2.2])∧Sz m x.2.1∧∀z,x.2.2=some z→Sz n z
theorem CL.up (f:CL H x m n) (s:ao H H'):CL H' x m n:=⟨s _ _ f.1,f.2⟩
theorem CL.rm (hD:H D=some (.lst ys)) (f:CL H x m n):CL (rm D H) x m n:=⟨gA hD f.1,f.2⟩
def iN (H:Hp) (es:List Nn) (m n:Nat):Prop:=∀x∈es,CL H x m n
theorem iN.up (h:iN H es m n) (s:ao H H'):iN H' es m n:=λx hx=>(h x hx).up s
theorem iN.app (f:iN H es m n) (h:H R=some (.lst ys)):iN (upd H R o) es m n:=λx hx=>((f x hx).rm h).up (vC R H o)
theorem iN.snoc (h:iN H es m n) (hx:CL H x m n):iN H (es++[x]) m n:=λy hy=>by
 rcases fK.mp hy with z | z
 ·exact h y z
 ·obtain rfl:y=x:=by simpa using z
  exact hx
def bH (es:List Nn):List V:=es.map λx=>V.ref x.1
theorem bQ (es:List Nn):(bH es).length=es.length:=gI ..
theorem iQ (es:List Nn) (x:Nn):bH es++[.ref x.1]=bH (es++[x]):=by simp [bH]
theorem nY {i:Nat} (h:(bH es)[i]?=some v):∃x,es[i]?=some x∧v=.ref x.1:=by
 unfold bH at h
 rw [kE] at h
 cases e:es[i]? with
 | none=>rw [e] at h;cases h
 | some x=>rw [e] at h;cases h;exact ⟨x,rfl,rfl⟩
def fP (es:List Nn):Prop:=es.Pairwise λa b=>a.2.1<b.2.1
structure Shp (xs:List Int) (c:Nat):Prop where
 x0:xs[0]?=some (c:Int)
 x1:∃x,xs[1]?=some x∧0≤x∧x<4
 x4:∃x,xs[4]?=some x∧0≤x∧x<3
 x5:∃x,xs[5]?=some x∧0≤x∧x<4
 x12:∃x,xs[12]?=some x∧0≤x∧x<3
 each:∀k,k<c→∃x y z,xs[3*k+13]?=some x∧xs[3*k+14]?=some y∧xs[3*k+15]?=some z∧0≤x∧x<3∧0≤y∧y<9∧0≤z∧z<25
inductive Ey (vs:List V) (H:Hp) (Q:VK) (E_:XK):Prop where
 | mk (lw tl:aq) (xs:List Int) (c:Nat) (sc t0 t1:Int):vs=[.ref lw,.int sc,.ref tl]→H lw=some (.lst (xs.map V.int))→Shp xs c→c≤40→H tl=some (.tup [.int t0,.int t1])→Sz 45 sc→Sz 45 t0→Sz 45 t1→(∀(R:aq) (es:List Nn) (H':Hp),ao H H'→H R=none→H' R=some (.lst (bH es))→iN H' es 45 100→es.length=c→fP es→Q (.ref R) H')→Ey vs H Q E_
theorem bY:fz 3 [cE,"_law_scale","_law_tilt",aV,"_law_up","_law_rise",aM,eY,"_law_at","_law_high","_law_lean"] rD:=0#a
theorem FU (F:fO K "_law_shaped" rD f fd) (T:Txt mg):bh P w K mg base dm 1 f fd [cE,"_law_scale","_law_tilt"] Ey:=by
 refine F.eU bY λcdv A outer s H vs Q E hr h=>?_
 obtain ⟨lw,tl,xs,c,sc,t0,t1,rfl,e0,S,hc,et,zsc,zt0,zt1,k⟩:=h
 obtain ⟨x1,g1,a1,b1⟩:=S.x1
 obtain ⟨x4,g4,a4,b4⟩:=S.x4
 obtain ⟨x5,g5,a5,b5⟩:=S.x5
 obtain ⟨x12,g12,a12,b12⟩:=S.x12
 have w:∀{H':Hp},ao H H'→H' lw=some (.lst (xs.map V.int)):=λs=>s _ _ e0
 apply bF ⟨_,(ah (aL 3 bY.nd (bO (gU K) (dO (Jd.a4 (gF dH au) (gF dH au) au (gF dH (aF qW au au)))) (Jd.iL K 0#h) 0#g)) (ah (aL 4 bY.nd au) (ah (aL 5 bY.nd au) (ah (aL 6 bY.nd (dO gH)) (ah (iP gR rfl (xH rfl T.range (dZ (Jd.iL K 0#h))) (cB (i:=7) bY.nd rfl 0#k) (ah (aL 8 bY.nd (aF bB (aF aS au (aa 7)) au)) (ah (aL 3 bY.nd (aF bB (aF bB 0#A au) (aF aS (bO (gU K) 0#h (aa 8) 0#g) (bO (gU K) (dO (Jd.a3 au au au)) (Jd.iL K 0#h) 0#g)))) (ah (aL 9 bY.nd (aF bT (bO (gU K) 0#h (aF bB (aa 8) au) 0#g) au)) (ah (cy (bD fE (Jd.iL K 0#h) au 0#K) (aD (aL 4 bY.nd (aa 9))) cG) (ah (cy (bD fE (Jd.iL K 0#h) au 0#K) (ah (aL 5 bY.nd (aF bT (aF bB (aa 5) (aF jl (aa 9) au)) au)) (aD (aL 4 bY.nd (aF bB (aa 4) (aa 5))))) cG) (ah (cy (bD fE (Jd.iL K 0#h) au 0#K) (aD (aL 4 bY.nd (aF bB (aa 4) (aa 9)))) cG) (ah (cy (bD fE (Jd.iL K 0#h) au 0#K) (aD (aL 4 bY.nd (aF jl (aa 9) au))) cG) (aD (cy (bD oh (bO (gU K) 0#h (aF bB (aa 8) au) 0#g) (bO (gU K) (dO (Jd.a3 au au au)) (Jd.iL K 0#h) 0#g) 0#K) (aD (fm (ia K (aa 6) (bW (bL 0#A fU))) (hs:=eK))) (ah (aL 10 bY.nd (aF bB (aF aS (aH K 0#q) 0#A) (aH K 0#q))) (aD (fm (ia K (aa 6) (bW (bL 0#A (aF bB (aF aS (aa 4) 0#n) (aa 10))))) (hs:=eK)))))))))))))) (aD (aX (aa 6)))))))),?_⟩
 apply aC (mk:=.lst) 0#d λl1 H1 s1 n1 e1=>?_
 refine dg (w s1) (bM g1 rfl) ?_
 obtain ⟨mo,emo,zmo⟩:=DL (zs:=[-1,-5,1000003,-(10 ^ (12:Int).toNat)]) (λz=>z.natAbs≤10 ^ 12) 0#e a1 b1
 apply dg e1 emo ?_
 refine aC (mk:=.lst) 0#d λR H2 s2 n2 e2=>?_
 have gV:=s1.trans s2
 rw?
 apply fq (tV ?_)
 apply dg (w gV) (bM S.x0 rfl) ?_
 refine ⟨c,rfl,by lia,by lia,dc (λj σ H3=>Xs8 λ(m up rise:Int) (es:List Nn) (v7 v8 v9 v10:Option V)=>σ=[some (.ref lw),some (.int sc),some (.ref tl),some (.int m),some (.int up),some (.int rise),some (.ref R),v7,v8,v9,v10] ∧
  ao H1 H3∧H3 R=some (.lst (bH es))∧iN H3 es 45 100∧es.length=j∧m.natAbs≤10 ^ 12+3000*j∧rise.natAbs≤3*j∧up.natAbs≤130*j+12∧fP es∧∀x∈es,x.2.1≤m) ?_ ?_ ?_⟩
 ·exact ⟨mo,0,0,[],none,none,none,none,rfl,s2,e2,λx hx=>absurd hx 0#d,rfl,by simpa using zmo,by decide,by decide,List.Pairwise.nil,λx hx=>absurd hx 0#d⟩
 ·rintro j σ H3 hj ⟨m,up,rise,es,v7,v8,v9,v10,rfl,s3,e3,hes,hl,hm,d9,hup,hrs,hle⟩
  refine c8 λMM Bk RR hMM _ _=>?_
  have hj':j<c:=by simpa using hj
  obtain ⟨x,y,z,gx,gy,gz,ax,bx,ay,by',az,bz⟩:=S.each j hj'
  have xh:=s1.trans s3
  have w3:=w xh
  rw?
  apply dg w3 (bM gx 0#c) ?_
  apply aC (mk:=.lst) 0#d λl4 H4 s4 n4 e4=>?_
  refine dg (s4 _ _ w3) (bM g4 rfl) ?_
  obtain ⟨wd,ewd,zwd⟩:=DL (zs:=[1,1,1009]) (λz=>1≤z∧z≤1009) 0#e a4 b4
  apply dg e4 ewd ?_
  refine iF (mulL 0#c 0#c) ?_
  have p5:0≤x*wd:=qF ax 0#c
  have q5:x*wd≤2*1009:=EN 0#c zwd.2 0#c 0#c
  generalize x*wd=st at p5 q5 ⊢
  have ten:(10:Nat) ^ 12+3000*41<2 ^ 44:=by decide +kernel
  have bm:(m+1+st).natAbs≤10 ^ 12+3000*(j+1):=by
   rw [abQ]
   exact nab hm (ah0 p5 q5) (by lia)
  have zm:Sz 44 (m+1+st):=Gf bm (by lia)
  have w4:=s4 _ _ w3
  rw?
  refine dg w4 (bM gz 0#c) ?_
  have aiF:j<40:=by try?
  have XU:=s3.trans s4
    -- the row's next entry
  have fin:∀(u:Nn) (H5:Hp) (up' Bf:Int) (v7 v8 v9 v10:Option V),u.2.1=m+1+st→ao H4 H5→CL H5 u 45 100→Bf.natAbs≤3*(j+1)→up'.natAbs≤130*(j+1)+12→MM [some (.ref lw),some (.int sc),some (.ref tl),some (.int (m+1+st)),some (.int up'),some (.int Bf),some (.ref R),v7,v8,v9,v10] (upd H5 R (.lst (bH es++[.ref u.1]))):=by
   intro u H5 up' Bf v7 v8 v9 v10 hu s5 f5 h1 h2
   have s35:=s4.trans s5
   have eR:=s35 _ _ e3
   refine hMM _ _ ⟨m+1+st,up',Bf,es++[u],v7,v8,v9,v10,rfl,bf (s3.trans s35) n2,by rw [av,iQ],((hes.up s35).snoc f5).app eR,by rw [fh,hl];rfl,bm,h1,h2,?_,λy hy=>?_⟩
   ·refine WN.mpr ⟨hrs,WJ _ _,λy hy z hz=>?_⟩
    obtain rfl:z=u:=by simpa using hz
    have:=hle y hy
    try?
   ·rcases fK.mp hy with z | z
    ·have:=hle y z
     try?
    ·obtain rfl:y=u:=by simpa using z
     try?
  obtain ⟨th,eth,zth⟩:=DL (zs:=[0,1,3]) (λz=>0≤z) 0#e a12 b12
  have et4:=(xh.trans s4) _ _ et
  have m5a:0≤(z-12) % 5:=Cb _ 0#f
  have m5b:(z-12) % 5<5:=AO _ 0#f
  have m3a:0≤(z-12) % 3:=Cb _ 0#f
  have m3b:(z-12) % 3<3:=AO _ 0#f
  refine r_c ?_
  refine afG ?_
  refine r_g ?_
  refine Qx ?_
  refine LV (λσ' H'=>H'=H4∧RM λup' Bf:Int=>σ'=[some (.ref lw),some (.int sc),some (.ref tl),some (.int (m+1+st)),some (.int up'),some (.int Bf),some (.ref R),some (.int (0+(j:Int))),some (.int (3*(0+(j:Int))+13)),some (.int (z-12)),v10]∧Bf.natAbs≤3*(j+1)∧up'.natAbs≤130*(j+1)+12) (λσ' H' hP=>?_) (λN rest=>?_)
  rotate_left
  ·rw?
   apply dg w4 (bM g5 rfl) ?_
   rcases (show x5=0∨x5=1∨x5=2∨x5=3 by try?) with rfl | rfl | rfl | rfl
   ·apply cI ?_
    apply dg w4 (bM g5 rfl) ?_
    apply bR ?_
    apply dg w4 (bM g5 rfl) ?_
    apply bR ?_
    apply dg w4 (bM g5 rfl) ?_
    apply bR ?_
    exact rest _ _ ⟨rfl,_,_,rfl,dR d9 (by lia),dR (afq az bz) (by lia)⟩
   ·apply bR ?_
    apply dg w4 (bM g5 rfl) ?_
    apply cI ?_
    apply dg w4 (bM g5 rfl) ?_
    apply bR ?_
    apply dg w4 (bM g5 rfl) ?_
    apply bR ?_
    have r1:(rise+(z-12) % 5-1).natAbs≤3*(j+1):=by
     rw [Int.add_sub_assoc]
     exact nab d9 (ahZ m5a m5b) (by lia)
    exact rest _ _ ⟨rfl,_,_,rfl,r1,nab hup r1 (by lia)⟩
   ·apply bR ?_
    apply dg w4 (bM g5 rfl) ?_
    apply bR ?_
    apply dg w4 (bM g5 rfl) ?_
    apply cI ?_
    apply dg w4 (bM g5 rfl) ?_
    apply bR ?_
    exact rest _ _ ⟨rfl,_,_,rfl,dR d9 (by lia),nab hup (afq az bz) (by lia)⟩
   ·apply bR ?_
    apply dg w4 (bM g5 rfl) ?_
    apply bR ?_
    apply dg w4 (bM g5 rfl) ?_
    apply bR ?_
    apply dg w4 (bM g5 rfl) ?_
    apply cI ?_
    exact rest _ _ ⟨rfl,_,_,rfl,dR d9 (by lia),dR (ahY m3a m3b) (by lia)⟩
  obtain ⟨rfl,up',Bf,rfl,br,bu⟩:=hP
  rw?
  apply dg w4 (bM gy 0#c) ?_
  apply aC (mk:=.lst) 0#d λl6 H6 s6 n6 e6=>?_
  refine dg (s6 _ _ w4) (bM g12 rfl) ?_
  apply dg e6 eth ?_
  have e36:=s6 _ _ (s4 _ _ e3)
  refine c6 0#w 0#w
  ·rw?
   apply ⟨.inl ⟨rfl,_,bq.of e36⟩,?_⟩
   apply aC (mk:=.tup) 0#d λpe H7 s7 n7 e7=>?_
   refine cM (s7 _ _ e36) (by rw [bQ];exact aN 0#c) ?_
   exact fin (pe,m+1+st,none) H7 _ _ _ _ _ _ rfl (s6.trans s7) ⟨e7,zm.mono 0#f,λz q=>by cases q⟩ br bu
  ·have et6:=s6 _ _ et4
   rw?
   apply iF (ck zt0 zm) ?_
   apply ⟨.inl ⟨rfl,_,bq.of e36⟩,?_⟩
   have zu:Sz 14 up':=show up'.natAbs<2 ^ 14 by try?
   apply iF (ck zu zsc) ?_
   apply aC (mk:=.tup) 0#d λpe H7 s7 n7 e7=>?_
   refine cM (s7 _ _ e36) (by rw [bQ];exact aN 0#c) ?_
   exact fin (pe,m+1+st,some _) H7 _ _ _ _ _ _ rfl (s6.trans s7) ⟨e7,zm.mono 0#f,λz q=>by
    cases q
    exact (((zu.mul zsc).mono (show 14+45≤90 by decide)).add (((zt0.mul zm).mono (show 45+44≤89 by decide)).add (zt1.mono 0#f))).mono 0#f⟩ br bu
 ·rintro σ H3 ⟨m,up,rise,es,v7,v8,v9,v10,rfl,s3,e3,hes,hl,hm,d9,hup,hrs,hle⟩
  rw?
  exact k R es H3 (s1.trans s3) (s1.free n2) e3 hes (by simpa using hl) hrs
inductive JZ (vs:List V) (H:Hp) (Q:VK) (E_:XK):Prop where
 | mk (l:aq) (es:List Nn) (b:Int) (n nb:Nat):vs=[.ref l,.int b]→H l=some (.lst (bH es))→iN H es 45 n→es.length≤40→Sz nb b→n+nb≤8000→(∀(R:aq) (es':List Nn) (H':Hp),ao H H'→H R=none→H' R=some (.lst (bH es'))→iN H' es' 45 (n+nb)→es'.map (·.2)=es.map (λx=>(x.2.1,x.2.2.map (·*b)))→Q (.ref R) H')→JZ vs H Q E_
theorem m8:fz 2 [aM,"_law_by",cE,aV,"_law_number"] uu:=0#a
theorem IS (F:fO K "_law_times" uu f fd):bh P w K mg base dm 1 f fd [aM,"_law_by"] JZ:=by
 refine F.eU m8 λcdv A outer s H vs Q E hr h=>?_
 obtain ⟨l,es,b,n,nb,rfl,hl,hes,mX,zb,hn,k⟩:=h
 apply bF ⟨_,(ah (aL 2 m8.nd (dO gH)) (ah (iP gR rfl (eE K 0#h) (Jd.TH K (n:=2) rfl (iH (cB (i:=3) m8.nd rfl 0#k) (iH (cB (i:=4) m8.nd rfl 0#k) tK))) (aD (cy (bD tS (aa 4) fU 0#K) (aD (fm (ia K 0#q (bW (bL 0#A fU))) (hs:=eK))) (aD (fm (ia K 0#q (bW (bL 0#A (aF aS (aa 4) 0#n)))) (hs:=eK)))))) (aD (aX 0#q)))),?_⟩
 apply aC (mk:=.lst) 0#d λR H1 s1 n1 e1=>?_
 apply fq (jb ?_)
 refine ⟨l,rfl,⟨_,bq.of (s1 _ _ hl)⟩,d8 (xs:=bH es) (λi σ H3=>Py λ(es':List Nn) (v3 v4:Option V)=>σ=[some 0#O,some (.int b),some (.ref R),v3,v4]∧ao H H3∧H3 R=some (.lst (bH es'))∧iN H3 es' 45 (n+nb)∧es'.length=i∧es'.map (·.2)=(es.take i).map (λx=>(x.2.1,x.2.2.map (·*b)))) ?_ ?_ ?_ ?_⟩
 ·exact ⟨[],none,none,rfl,s1,e1,λx hx=>absurd hx 0#d,rfl,rfl⟩
 ·rintro i σ H3 _ ⟨es',v3,v4,rfl,s3,_⟩
  exact bq.of (s3 _ _ hl)
 ·rintro i x σ H3 hx ⟨es',v3,v4,rfl,s3,e3,Nu,hl',hmap⟩
  obtain ⟨e,he,rfl⟩:=nY hx
  have hi:i<es.length:=(nH.mp he).1
  have fe:=(hes e (mT he)).up s3
  have tk:es.take (i+1)=es.take i++[e]:=by rw [sC,he];rfl
  have fin:∀(y:aq) (H4:Hp) (v3 v4:Option V),ao H3 H4→CL H4 (y,e.2.1,e.2.2.map (·*b)) 45 (n+nb)→Py λ(HJ:List Nn) (v3' v4':Option V)=>[some 0#O,some (.int b),some (.ref R),v3,v4]=[some 0#O,some (.int b),some (.ref R),v3',v4'] ∧
   ao H (upd H4 R (.lst (bH es'++[.ref y])))∧upd H4 R (.lst (bH es'++[.ref y])) R=some (.lst (bH HJ))∧iN (upd H4 R (.lst (bH es'++[.ref y]))) HJ 45 (n+nb)∧HJ.length=i+1∧HJ.map (·.2)=(es.take (i+1)).map (λx=>(x.2.1,x.2.2.map (·*b))):=by
   intro y H4 v3 v4 s4 f4
   have e4:=s4 _ _ e3
   refine ⟨es'++[(y,e.2.1,e.2.2.map (·*b))],v3,v4,rfl,bf 0#N n1,by rw [av];exact congrArg (λz=>some (HO.lst z)) (iQ es' (y,e.2.1,e.2.2.map (·*b))),((Nu.up s4).snoc f4).app e4,by rw [fh,hl'];rfl,?_⟩
   rw [tk,jD,jD,hmap]
   rfl
  obtain ⟨a,m,v⟩:=e
  cases v with
  | none=>
    apply nG fe.1 ?_
    apply 0#F
    apply cI ?_
    apply ⟨.inl ⟨rfl,_,bq.of e3⟩,?_⟩
    apply aC (mk:=.tup) 0#d λy H4 s4 n4 e4=>?_
    refine cM (s4 _ _ e3) (by rw [bQ];exact aN 0#c) ?_
    exact fin y H4 _ _ s4 ⟨e4,fe.2.1,λz q=>by cases q⟩
  | some z=>
    have zz:=fe.2.2 z rfl
    apply nG fe.1 ?_
    apply 0#F
    apply bR ?_
    apply ⟨.inl ⟨rfl,_,bq.of e3⟩,?_⟩
    apply iF (ck zz zb 0#c) ?_
    apply aC (mk:=.tup) 0#d λy H4 s4 n4 e4=>?_
    refine cM (s4 _ _ e3) (by rw [bQ];exact aN 0#c) ?_
    exact fin y H4 _ _ s4 ⟨e4,fe.2.1,λz' q=>by
     cases q
     exact zz.mul zb⟩
 ·rintro σ H3 ⟨es',v3,v4,rfl,s3,e3,Nu,hl',hmap⟩
  rw [bQ,jt] at hmap
  rw?
  exact k R es' H3 s3 n1 e3 Nu hmap
def tP (x:Nn):Bool:=x.2.2.isSome
theorem SJ {i:Nat} (h:es[i]?=some x):(bH es)[i]?=some (.ref x.1):=by
 unfold bH
 rw [kE,h]
 rfl
theorem jF {i:Nat} (h:es[i]?=some x) (hj:j=(i:Int)):sI (bH es) j=some (.ref x.1):=by
 subst hj
 exact iG (SJ h)
theorem Kr (h0:0≤i) (h1:i<(es.length:Int)):∃x,x∈es∧es[i.toNat]?=some x∧sI (bH es) i=some (.ref x.1):=by
 have hk:i.toNat<es.length:=by try?
 exact ⟨es[i.toNat],Hj hk,jY hk,jF (jY hk) 0#c⟩
theorem N1 (h:es'.map (λx=>x.2.1)=es.map (λx=>x.2.1)) (hr:fP es):fP es':=by
 have k:(es.map λx=>x.2.1).Pairwise (·<·):=Hg.mpr hr
 rw [← h] at k
 exact Hg.mp k
theorem Dp (h:tP x=true):∃z,x.2.2=some z:=QZ.mp h
def Uo (m:Nat):List Int:=[(m:Int)+1,4,5,12,3,4,7,3,40,40,40,4,3]++(lW m [3,9,25]).flatten
theorem VU (m:Nat) (xs:List Int):(lW m (xs.map V.int)).flatten=((lW m xs).flatten).map V.int:=by
 induction m with
 | zero=>rfl
 | succ m ih=>rw [Kf,wZ,ih,Kf,wZ,jD]
theorem LM {xs:List Int} (hn:xs.length=n):∀{m k j:Nat},k<m→j<n→(lW m xs).flatten[n*k+j]?=xs[j]?
 | 0,_,_,hk,_=>absurd hk (Cc _)
 | m+1,0,j,_,hj=>by
   rw [Kf,wZ,Nat.mul_zero,ab0,vn 0#c]
 | m+1,k+1,j,hk,hj=>by
   have e:n*(k+1)+j=n+(n*k+j):=by rw [Nat.mul_add];try?
   rw [Kf,wZ,e,yR 0#c,hn,Q3]
   exact LM hn 0#c hj
theorem Yj (m:Nat):[V.int ((m:Int)+1),.int 4,.int 5,.int 12,.int 3,.int 4,.int 7,.int 3,.int 40,.int 40,.int 40,.int 4,.int 3]++(lW m [V.int 3,.int 9,.int 25]).flatten=(Uo m).map V.int:=by
 unfold Uo
 rw [jD,← VU]
 rfl
theorem Yi (m:Nat):(Uo m).length=13+3*m:=by
 unfold Uo
 rw [fh,List.length_flatten,List.map_replicate,List.sum_replicate_nat]
 simp
 try?
theorem Yk (hm:m≤40):∀z∈Uo m,0<z∧z<2 ^ 60:=by
 intro z hz
 unfold Uo at hz
 rcases fK.mp hz with h | h
 ·simp at h
  try?
 ·obtain ⟨l,hl,hzl⟩:=List.mem_flatten.mp h
  rw [(List.mem_replicate.mp hl).2] at hzl
  simp at hzl
  try?
theorem M0 (hk:k<m) (hj:j<3):(Uo m)[3*k+(13+j)]?=[(3:Int),9,25][j]?:=by
 unfold Uo
 rw [yR (by simp;try?)]
 have e:3*k+(13+j)-[(m:Int)+1,4,5,12,3,4,7,3,40,40,40,4,3].length=3*k+j:=by simp;try?
 rw [e]
 exact LM rfl hk hj
theorem Yl (hlen:xs.length=(Uo m).length) (hxs:∀(j:Nat) (x z:Int),xs[j]?=some x→(Uo m)[j]?=some z→0≤x∧x<z):∃c,c≤m∧Shp xs c:=by
 obtain ⟨x0,g0,a0,b0⟩:=dw hlen hxs 0 (z:=(m:Int)+1) rfl
 refine ⟨x0.toNat,by try?,⟨by rw [g0];congr 1;try?,dw hlen hxs 1 rfl,dw hlen hxs 4 rfl,dw hlen hxs 5 rfl,dw hlen hxs 12 rfl,λk hk=>?_⟩⟩
 have hk':k<m:=by try?
 obtain ⟨x,gx,ax,bx⟩:=dw hlen hxs _ (z:=3) ((M0 hk' (j:=0) 0#f).trans rfl)
 obtain ⟨y,gy,ay,by'⟩:=dw hlen hxs _ (z:=9) ((M0 hk' (j:=1) 0#f).trans rfl)
 obtain ⟨z,gz,az,bz⟩:=dw hlen hxs _ (z:=25) ((M0 hk' (j:=2) 0#f).trans rfl)
 exact ⟨x,y,z,gx,gy,gz,ax,bx,ay,by',az,bz⟩
inductive Et (vs:List V) (H:Hp) (Q:VK) (E_:XK):Prop where
 | mk (l lw:aq) (es:List Nn) (xs:List Int):vs=[.ref l,.ref lw]→H l=some (.lst (bH es))→H lw=some (.lst (xs.map V.int))→1≤es.length→es.length≤40→(∀k,k<3→∃x,xs[k+8]?=some x)→(∀(R:aq) (a b c:Nn) (H':Hp),ao H H'→a∈es→b∈es→c∈es→H' R=some (.lst [.ref a.1,.ref b.1,.ref c.1])→Q (.ref R) H')→Et vs H Q E_
inductive Eg (K:cj) (vs:List V) (H:Hp) (Q:VK) (E_:XK):Prop where
 | mk (a:aq) (ns:List Int) (i:Int) (most:Nat) (share:Int):vs=[.ref a,.int i,.int (most:Int),.int share]→bq K H a 0#E→0≤i→i<800→most≤40→0≤share→share≤2→(∀(p R:aq) (es:List Nn) (b c:Int) (H':Hp),ao H H'→H' p=some (.tup [.ref R,.int b,.int c])→H R=none→H' R=some (.lst (bH es))→iN H' es 45 150→es.length≤most→fP es→1≤b→Sz 80 b→0≤c→Sz 150 c→Q (.ref p) H')→Eg K vs H Q E_
theorem lN:fz 2 [ig,cE,"_law_places",eY] rC:=0#a
theorem FT (F:fO K "_law_picked" rC f fd) (T:Txt mg):bh P w K mg base dm 1 f fd [ig,cE] Et:=by
 refine F.eU lN λcdv A outer s H vs Q E hr h=>?_
 obtain ⟨l,lw,es,xs,rfl,hl,hw,h1,mX,hx,k⟩:=h
 apply bF ⟨_,(ah (aL 2 lN.nd (dO gH)) (ah (iP gR rfl (xJ rfl T.range (bL au au)) (cB (i:=3) lN.nd rfl 0#k) (aD (fm (ia K 0#q (aF jl (bO (gU K) 0#n 0#A 0#g) (fj K T.i7 0#h))) (hs:=eK)))) (ah (aL 2 lN.nd (iz (ZP K) rfl T.ZQ agK (dZ 0#q) (he:=bP) (hpl:=cR))) (aD (aX (oW (O:=["_law_at"]) (N':=[ig]) (cap:=[0]) rfl (eE K 0#q) (λ_ _ _ _ _=>(cB (i:=0) (show kD [("_law_at":Str),("_law_held":Str)] by decide +kernel) rfl 0#k)) (λ_ _ _ _ _=>oX) (λ_ _ _ _ _=>(bO (gU K) 0#n 0#h 0#g)) rfl 0#u rfl 0#e rfl 0#e)))))),?_⟩
 apply aC (mk:=.lst) 0#d λpl H1 s1 n1 e1=>?_
 apply fq (qZ ?_)
 refine ⟨8,11,rfl,by decide,dc (n:=3) (λj σ H3=>RM λ(ys:List Int) (v:Option V)=>σ=[some 0#O,some (.ref lw),some (.ref pl),v]∧ao H H3∧H3 pl=some (.lst (ys.map V.int))∧ys.length=j∧∀y∈ys,0≤y∧y<(es.length:Int)) ?_ ?_ ?_⟩
 ·exact ⟨[],none,rfl,s1,e1,rfl,λy hy=>absurd hy 0#d⟩
 ·rintro j σ H3 hj ⟨ys,v,rfl,s3,e3,hy,hys⟩
  obtain ⟨x,gx⟩:=hx j hj
  rw?
  apply ⟨.inl ⟨rfl,_,bq.of e3⟩,?_⟩
  apply dg (s3 _ _ hw) (bM gx 0#c) ?_
  refine dW (.inl (bq.of (s3 _ _ hl))) ?_
  rw [bQ]
  apply iF (show (0:Int)<_ by try?) ?_
  refine cM e3 (by rw [gI];exact aN 0#c) ?_
  refine ⟨ys++[x % (es.length:Int)],_,rfl,bf s3 n1,by rw [av,jD];rfl,by rw [fh,hy];rfl,λy hy=>?_⟩
  rcases fK.mp hy with z | z
  ·exact hys y z
  ·obtain rfl:y=x % (es.length:Int):=by simpa using z
   exact ⟨Cb _ 0#c,AO _ 0#c⟩
 ·rintro σ H3 ⟨ys,v,rfl,s3,e3,hy,hys⟩
  rw?
  apply VS (bq.of e3) 0#c λp ns' H4 s4 n4 e4 hp hs=>?_
  apply jb ?_
  refine ⟨p,rfl,⟨_,bq.of e4⟩,?_⟩
  have hl':ns'.length=3:=by rw [hp.length_eq,hy]
  refine c9 (xs:=ns'.map V.int) cC (λH5 s5=>bq.of (s5 _ _ e4)) (by rw [gI];try?) (λi ys G=>∃zs:List Nn,ys=bH zs∧zs.length=i∧∀z∈zs,z∈es) ⟨[],rfl,rfl,λx hx=>absurd hx 0#d⟩ ?_ ?_
  ·rintro D i x ys' H5 lF N N0 h0 hD eD s5 hx hy' ⟨zs,rfl,hz,hm⟩ kY kN
   rw [kE] at hx
   obtain ⟨y,gy,rfl⟩:=Ka.mp hx
   obtain ⟨y0,y1⟩:=hys y (hp.mem_iff.mp (mT gy))
   obtain ⟨e,he,_,ea⟩:=Kr y0 y1
   apply ic h0 ?_
   apply cI ?_
   refine dg ((s3.trans 0#W) _ _ hl) ea ?_
   refine kY _ H5 0#t ⟨zs++[e],iQ zs e,by rw [fh,hz];rfl,λz hz=>?_⟩
   rcases fK.mp hz with q | q
   ·exact hm z q
   ·obtain rfl:z=e:=by simpa using q
    exact he
  ·rintro D ys' H5 hD eD s5 hy' ⟨zs,rfl,hz,hm⟩
   rw [gI,hl'] at hz
   match zs,hz with
   | [x,y,z],_=>exact k D x y z H5 (s3.trans 0#W) (hm x 0#d) (hm y 0#d) (hm z 0#d) eD
theorem bX:fz 4 [bI,cH,"_law_most","_law_share","_law_sizes",cE,dD,"_law_scale","_law_tilt","_law_far_here",aM,ig,eG,"_law_mid","_law_last","_law_span","_law_stood","_law_by"] uf:=0#a
abbrev acn P w K mg base:=Dn P w K mg base 3 "_law_row" [bI,cH,"_law_sizes"] (Wj K)
theorem IJ (F:fO K "_law_drawn" uf f fd) (T:Txt mg) (iY:acn P w K mg base) (qK:Dn P w K mg base 1 "_law_shaped" [cE,"_law_scale","_law_tilt"] Ey)
 (qJ:Dn P w K mg base 1 "_law_picked" [ig,cE] Et) (sV:Dn P w K mg base 1 "_law_times" [aM,"_law_by"] JZ):bh P w K mg base dm 4 f fd [bI,cH,"_law_most","_law_share"] (Eg K):=by
 refine F.eU bX λcdv A outer s H vs Q E hr h=>?_
 obtain ⟨a,ns,i,most,share,rfl,hS,h0,h1,hm,hs0,hs2,k⟩:=h
 refine bF (Jd.cut 6 (λσ H'=>aez λ(lw tl:aq) (xs:List Int) (c:Nat) (b sc t0 t1 x6 x7:Int) (v4 v9:Option V)=>σ=[some (.ref a),some (.int i),some (.int most),some (.int share),v4,some (.ref lw),some (.int b),some (.int sc),some (.ref tl),v9,none,none,none,none,none,none,none,none] ∧
  ao H H'∧H' lw=some (.lst (xs.map V.int))∧c≤most∧Shp xs c∧xs[6]?=some x6∧0≤x6∧x6<7∧xs[7]?=some x7∧(∀k,k<3→∃x,xs[k+8]?=some x)∧1≤b∧Sz 30 b∧0≤sc∧Sz 45 sc∧H' tl=some (.tup [.int t0,.int t1])∧Sz 45 t0∧Sz 45 t1) ?_ λu hu hR=>?_)
 ·refine ⟨_,(ah (aL 10 bX.nd (Jd.c3 qK hr (aa 5) (aa 7) (aa 8))) (ah (vv (O:=[eG]) (N':=[]) (cap:=[]) (i:=11) bX.nd rfl 0#k rfl (eE K (aa 10)) (λ_ _ _ _ _=>(cB (i:=0) (show kD [("_law_one":Str)] by decide +kernel) rfl 0#k)) (λ_ _ _ _ _=>(vz (bD j9 (bO (MI K) 0#h au 0#g) fU 0#K))) (λ_ _ _ _ _=>0#h) rfl trivial rfl 0#e rfl 0#e (by rfl)) (ah (cy (Jd.BE (Jd.oq (bD fM 0#A au 0#K) (Jd.oq (bD fE (Jd.iL K (aa 5)) au 0#K) (Jd.lJ (bD fM (fj K T.i7 (aa 11)) au 0#K))))) (ah (Jd.Af (bZ qJ hr (aa 11) (aa 5)) (Jd.pgL K (n:=3) rfl (iH (cB (i:=12) bX.nd rfl 0#k) (iH (cB (i:=13) bX.nd rfl 0#k) (iH (cB (i:=14) bX.nd rfl 0#k) tK))))) (aD (cy (Jd.DQ oh oh (aH K (aa 12)) (aH K (aa 13)) (aH K (aa 14))) (ah (aL 15 bX.nd (aF bT (aH K (aa 14)) (aH K (aa 12)))) (ah (aL 16 bX.nd (aF bT (aF aS (aH K (aa 13)) (aa 15)) (aF aS (aH K (aa 12)) (aF bT (aH K (aa 14)) (aH K (aa 13)))))) (ah (aL 16 bX.nd (iz zA rfl T.zD AN (dZ (aF bT (aa 16) (aF aS (aH K (aa 14)) (aF bT (aH K (aa 13)) (aH K (aa 12)))))) (he:=J1) (hpl:=cR))) (ah (aL 17 bX.nd (aF aS 0#A (aa 15))) (aD (aX (bW (Jd.a3 (bZ sV hr (aa 10) (aa 17)) (aF aS (aa 6) (aa 17)) (aa 16))))))))) cG))) cG) (aD (aX (bW (Jd.a3 (aa 10) (aa 6) (aF aS (Jd.iL K (aa 5)) (aa 7))))))))),?_⟩
  rintro σ H1 ⟨lw,tl,xs,c,b,sc,t0,t1,x6,x7,v4,v9,rfl,s1,ew,hc,S,g6,a6,b6,g7,g8,b1,zb,sc0,zsc,et,zt0,zt1⟩
  rw?
  refine ⟨lw,tl,xs,c,sc,t0,t1,rfl,ew,S,by try?,et,zsc,zt0,zt1,λR es H2 s2 nR eR hes hlen d9=>?_⟩
  have ew2:=s2 _ _ ew
  rw?
  apply jb ?_
  refine ⟨R,rfl,⟨_,bq.of eR⟩,?_⟩
  refine c9 (xs:=bH es) cC (λH3 s3=>bq.of (s3 _ _ eR)) (by rw [bQ];try?) (λi ys G=>ys=bH ((es.take i).filter tP)) rfl ?_ ?_
  ·rintro D i x ys H3 lF N N0 h0 hD eD s3 hx hy rfl kY kN
   obtain ⟨e,he,rfl⟩:=nY hx
   obtain ⟨ee,_⟩:=(hes e (mT he)).up s3
   have ts:=Kc tP es i e he
   obtain ⟨ae,me,ve⟩:=e
   refine ic h0 ?_
   cases ve with
   | none=>
     rw?
     apply 0#F
     refine bR ?_
     rw [show tP (ae,me,none)=false from rfl,if_neg fQ,nv] at ts
     exact kN H3 0#t (by rw [ts])
   | some z=>
     rw?
     apply 0#F
     apply cI ?_
     rw [show tP (ae,me,some z)=true from rfl,if_pos rfl] at ts
     exact kY _ H3 0#t (by rw [ts,← iQ])
  ·rintro D ys H3 hD eD s3 hy rfl
   rw [bQ,jt] at eD
   have xh:=s1.trans (s2.trans s3)
   have eR3:=s3 _ _ eR
   have ew3:=s3 _ _ ew2
   have plain:∀(p:aq) (H4:Hp),ao H3 H4→H4 p=some (.tup [.ref R,.int b,.int (x6*sc)])→Q (.ref p) H4:=λp H4 s4 e4=>
    k p R es b (x6*sc) H4 (xh.trans s4) e4 (s1.free nR) (s4 _ _ eR3) (λx hx=>let ⟨q1,q2,q3⟩:=(hes x hx).up 0#N;⟨q1,q2,λz hz=>(q3 z hz).mono 0#f⟩) 0#c d9 b1 (zb.mono 0#f) (qF a6 sc0) (((show Sz 3 x6 from by show x6.natAbs<2 ^ 3;try?).mul zsc).mono 0#f)
   refine r_g ?_
   refine Qx ?_
   with_reducible refine jH (λσ' H'=>Xs6 λ(w1 w2 w3 w4 w5 w6:Option V)=>σ'=[some (.ref a),some (.int i),some (.int most),some (.int share),v4,some (.ref lw),some (.int b),some (.int sc),some (.ref tl),v9,some (.ref R),some (.ref D),w1,w2,w3,w4,w5,w6]∧ao H3 H') (λσ' H' hP=>?_) (λN hN=>?_)
   ·obtain ⟨w1,w2,w3,w4,w5,w6,rfl,s4⟩:=hP
    rw?
    apply dg (s4 _ _ ew3) (bM g6 rfl) ?_
    apply iF (ck (show Sz 3 x6 from by show x6.natAbs<2 ^ 3;try?) zsc) ?_
    refine aC (mk:=.tup) 0#d λp6 H6 s6 n6 e6=>?_
    exact plain p6 H6 (s4.trans s6) e6
   rw?
   refine c6 0#J 0#J
   ·have vU:0<share:=dM c1
    rw?
    apply dg ew3 (bM g7 rfl) ?_
    refine c6 (λc2=>?_) (λc2=>?_)
    ·rw?
     apply dW (.inl (bq.of eD)) ?_
     rw [bQ]
     refine c6 (λc3=>?_) (λc3=>?_)
     ·have c3':=dM c3
      have hfl:(es.filter tP).length≤es.length:=Mm ..
      rw?
      apply QK ?_
      refine ⟨D,lw,es.filter tP,xs,rfl,eD,ew3,by try?,by try?,g8,λR3 x y z H4 s4 hx hy hz e4=>?_⟩
      refine S3 e4 ?_
      obtain ⟨hx1,XR⟩:=E5.mp hx
      obtain ⟨hy1,hy2⟩:=E5.mp hy
      obtain ⟨hz1,hz2⟩:=E5.mp hz
      obtain ⟨fx1,fx2,fx3⟩:=(hes x hx1).up 0#N
      obtain ⟨fy1,fy2,fy3⟩:=(hes y hy1).up 0#N
      obtain ⟨fz1,fz2,fz3⟩:=(hes z hz1).up 0#N
      obtain ⟨nx,ex⟩:=Dp XR
      obtain ⟨ny,ey⟩:=Dp hy2
      obtain ⟨nz,ez⟩:=Dp hz2
      have zx:=fx3 nx ex
      have zy:=fy3 ny ey
      have zz:=fz3 nz ez
      rw [ex] at fx1
      rw [ey] at fy1
      rw [ez] at fz1
      simp only [nnv] at fx1 fy1 fz1
      rw?
      have ew4:=s4 _ _ ew3
      refine c6 (λc4=>?_) (λc4=>?_)
      ·have c4':=dM c4
       rw?
       refine c6 (λc5=>?_) (λc5=>?_)
       ·have c5':=dM c5
        have zs1:Sz 46 (z.2.1-x.2.1):=fz2.sub fx2
        have zs2:Sz 46 (z.2.1-y.2.1):=fz2.sub fy2
        have zs3:Sz 46 (y.2.1-x.2.1):=fy2.sub fx2
        have zsh:Sz 2 share:=show share.natAbs<2 ^ 2 by try?
        have m1:Sz 146 (ny*(z.2.1-x.2.1)):=zy.mul zs1
        have m2:Sz 146 (nx*(z.2.1-y.2.1)):=zx.mul zs2
        have m3:Sz 146 (nz*(y.2.1-x.2.1)):=zz.mul zs3
        rw?
        apply iF (ck zy zs1) ?_
        apply iF (ck zx zs2) ?_
        apply iF (ck zz zs3) ?_
        apply iF (ck zsh zs1) ?_
        have zby:Sz 48 (share*(z.2.1-x.2.1)):=zsh.mul zs1
        apply ⟨R,es,share*(z.2.1-x.2.1),100,48,rfl,s4 _ _ eR3,λu hu=>(hes u hu).up 0#N,by try?,zby,by decide,λR5 es5 H5 s5 n5 e5 aht hmap=>?_⟩
        apply iF (ck zb zby) ?_
        rw [jv]
        refine aC (mk:=.tup) 0#d λp6 H6 s6 n6 e6=>?_
        have hle:es5.length=es.length:=by
         have:=congrArg oK hmap
         simpa using this
        have p1:1≤share*(z.2.1-x.2.1):=ql 0#c 0#c
        have zst:Sz 148 (ny*(z.2.1-x.2.1)-nx*(z.2.1-y.2.1)-nz*(y.2.1-x.2.1)):=(m1.sub m2).sub (m3.mono 0#f)
        refine k p6 R5 es5 _ _ H6 ((xh.trans s4).trans (s5.trans s6)) e6 ((xh.trans s4).free n5) (s6 _ _ e5) (λx hx=>let ⟨q1,q2,q3⟩:=(aht x hx).up s6;⟨q1,q2,λz hz=>(q3 z hz).mono 0#f⟩) 0#c ?_ (ql b1 p1) ((zb.mul zby).mono 0#f) 0#c ((zst.of_le 0#d).mono 0#f)
        refine N1 ?_ d9
        have e:=congrArg (Ht aci) hmap
        rw [se,se] at e
        exact e
       ·rw?
        exact hN _ _ ⟨_,_,_,_,_,_,rfl,s4⟩
      ·rw?
       apply bR ?_
       exact hN _ _ ⟨_,_,_,_,_,_,rfl,s4⟩
     ·rw?
      exact hN _ _ ⟨_,_,_,_,_,_,rfl,0#t⟩
    ·apply bR ?_
     exact hN _ _ ⟨_,_,_,_,_,_,rfl,0#t⟩
   ·apply bR ?_
    exact hN _ _ ⟨_,_,_,_,_,_,rfl,0#t⟩
 apply ⟨_,(ah (aL 4 bX.nd (dO (fL (aF bB 0#q au) (fL au (fL au (fL au (fL au (fL au (fL au (fL au (fL au (Jd.a4 au au au au) lV) lV) lV) lV) lV) lV) lV) lV) J1))) (ah (aL 5 bX.nd (Jd.c3 iY hr 0#h 0#n (aF z6 (aa 4) (aF Oe (dO (Jd.a3 au au au)) 0#q)))) (ah (aL 6 bX.nd (bO (gU K) (dO (fL au (fL au (fL au (fL au (fL au (fL au (fL au (fL au (Jd.a4 au au au (aF bB (aF qW au au) au)) lV) lV) lV) lV) lV) lV) lV) lV)) (Jd.iL K (aa 5)) 0#g)) (ah (aL 7 bX.nd (bO (gU K) (dO (fL au (Jd.a4 au au (aF qW au au) (aF bB (aF qW au au) au)) lV)) (Jd.iL K (aa 5)) 0#g)) (ah (aL 8 bX.nd (bW (bL au au))) (ah (cy (bD fM 0#A au 0#K) (ah (aL 9 bX.nd (aF bT (gF dH (aF qW au au)) au)) (aD (aL 8 bX.nd (bO (gU K) (dO (Jd.a4 (bW (bL au au)) (bW (bL au au)) (bW (bL au (gF dH au))) (bW (bL (aa 9) (aF qW au au))))) (Jd.iL K (aa 5)) 0#g)))) cG) hu)))))),?_⟩
 apply aC (mk:=.lst) 0#d λl1 H1 s1 n1 e1=>?_
 apply aC (mk:=.lst) 0#d λl2 H2 s2 n2 e2=>?_
 refine VR e2 0#b 0#b ?_
 apply aC (mk:=.lst) (by rw [len_rep];simp;try?) λl3 H3 s3 n3 e3=>?_
 refine GX (s3 _ _ (s2 _ _ e1)) e3 ?_
 refine aC (mk:=.lst) (by rw [fh,len_rep];simp;try?) λl4 H4 s4 n4 e4=>?_
 have Ai:=s1.trans (s2.trans 0#N)
 rw?
 refine ⟨a,ns,i,l4,Uo most,rfl,Ai.seq hS,h0,by try?,by rw [e4];exact congrArg (λz=>some (HO.lst z)) (Yj most),by rw [Yi];try?,Yk hm,λlw xs H5 s5 n5 e5 hlen hxs=>?_⟩
 obtain ⟨c,hc,S⟩:=Yl hlen hxs
 obtain ⟨x2,g2,a2,b2⟩:=dw hlen hxs 2 (z:=5) rfl
 obtain ⟨x3,g3,a3,b3⟩:=dw hlen hxs 3 (z:=12) rfl
 obtain ⟨x6,g6,a6,b6⟩:=dw hlen hxs 6 (z:=7) rfl
 obtain ⟨x7,g7,a7,b7⟩:=dw hlen hxs 7 (z:=3) rfl
 obtain ⟨x8,g8,_⟩:=dw hlen hxs 8 (z:=40) rfl
 obtain ⟨x9,g9,_⟩:=dw hlen hxs 9 (z:=40) rfl
 obtain ⟨x10,g10,_⟩:=dw hlen hxs 10 (z:=40) rfl
 obtain ⟨x11,g11,a11,b11⟩:=dw hlen hxs 11 (z:=4) rfl
 have g8':∀k,k<3→∃x,xs[k+8]?=some x:=λk hk=>by
  rcases (show k=0∨k=1∨k=2 by try?) with rfl | rfl | rfl
  ·exact ⟨_,g8⟩
  ·exact ⟨_,g9⟩
  ·exact ⟨_,g10⟩
 rw?
 apply aC (mk:=.lst) 0#d λl6 H6 s6 n6 e6=>?_
 refine dg (s6 _ _ e5) (bM g3 rfl) ?_
 obtain ⟨b,eb,hb1,hb2⟩:=DL (zs:=[1,2,3,4,5,6,12,30,60,1001,9699690,10 ^ (9:Int).toNat+7]) (λz=>1≤z∧Sz 30 z) 0#e a3 b3
 apply dg e6 eb ?_
 apply aC (mk:=.lst) 0#d λl7 H7 s7 n7 e7=>?_
 refine dg (s7 _ _ (s6 _ _ e5)) (bM g2 rfl) ?_
 obtain ⟨sc,esc,US,hsc⟩:=DL (zs:=[1,1,7,10 ^ (6:Int).toNat,10 ^ (12:Int).toNat+39]) (λz=>0≤z∧Sz 45 z) 0#e a2 b2
 apply dg e7 esc ?_
 refine aC (mk:=.tup) 0#d λt0 H8 s8 n8 e8=>?_
 have s58:=s6.trans (s7.trans s8)
 have ZG:=(Ai.trans s5).trans s58
 have e58:=s58 _ _ e5
 rw?
 refine c6 0#J 0#J
 ·rw?
  apply aC (mk:=.tup) 0#d λp1 H9 s9 n9 e9=>?_
  apply aC (mk:=.tup) 0#d λp2 xg rf zM Gw=>?_
  apply aC (mk:=.tup) 0#d λp3 Pw B4 n11 e11=>?_
  apply aC (mk:=.tup) 0#d λp4 H12 s12 n12 e12=>?_
  refine aC (mk:=.lst) 0#d λl8 TU xh n13 Tu=>?_
  have Jt:=s9.trans (rf.trans (B4.trans (s12.trans xh)))
  rw?
  refine dg (Jt _ _ e58) (bM g11 rfl) ?_
  have vD:=s12.trans xh
  rcases (show x11=0∨x11=1∨x11=2∨x11=3 by try?) with rfl | rfl | rfl | rfl
  ·refine dg Tu at0 ?_
   exact hR _ _ ⟨lw,p1,xs,c,b,sc,0,0,x6,x7,_,_,rfl,ZG.trans Jt,Jt _ _ e58,hc,S,g6,a6,b6,g7,g8',hb1,hb2,US,hsc,(rf.trans (B4.trans vD)) _ _ e9,by decide,by decide⟩
  ·refine dg Tu at1 ?_
   exact hR _ _ ⟨lw,p2,xs,c,b,sc,0,0,x6,x7,_,_,rfl,ZG.trans Jt,Jt _ _ e58,hc,S,g6,a6,b6,g7,g8',hb1,hb2,US,hsc,(B4.trans vD) _ _ Gw,by decide,by decide⟩
  ·refine dg Tu at2 ?_
   exact hR _ _ ⟨lw,p3,xs,c,b,sc,7,-3,x6,x7,_,_,rfl,ZG.trans Jt,Jt _ _ e58,hc,S,g6,a6,b6,g7,g8',hb1,hb2,US,hsc,vD _ _ e11,by decide,by decide⟩
  ·refine dg Tu at3 ?_
   exact hR _ _ ⟨lw,p4,xs,c,b,sc,_,_,x6,x7,_,_,rfl,ZG.trans Jt,Jt _ _ e58,hc,S,g6,a6,b6,g7,g8',hb1,hb2,US,hsc,xh _ _ e12,by decide +kernel,by decide +kernel⟩
 ·rw?
  exact hR _ _ ⟨lw,t0,xs,c,b,sc,0,0,x6,x7,_,_,rfl,ZG,e58,hc,S,g6,a6,b6,g7,g8',hb1,hb2,US,hsc,e8,by decide,by decide⟩
def mo (es:List En) (k:Nat):Int:=((es[k]?).map (·.2.1)).getD 0
def wo (es:List En) (k:Nat):Rat:=((es[k]?).bind (·.2.2)).getD 0
def sd (es:List En) (i k j:Nat):Rat:=wo es k-dJ (mo es i) (wo es i) (mo es k) (mo es j) (wo es j)
def iK (es:List En):Prop:=∀x∈es,dh x=true
theorem dG (hR:Row H es n) (hS:iK es) (hk:k<es.length):∃x,es[k]?=some x∧jK H x.1 (mo es k) (wo es k) n:=by
 have g:es[k]?=some es[k]:=jY hk
 have hm:es[k]∈es:=Hj hk
 refine ⟨es[k],g,?_⟩
 have h1:=hR _ hm
 have h2:(es[k]).2.2.isSome=true:=hS _ hm
 unfold mo wo
 rw [g]
 generalize es[k]=x at *
 obtain ⟨a,m,v⟩:=x
 cases v with
 | none=>cases h2
 | some q=>
   obtain ⟨z,p,e,f⟩:=h1
   exact ⟨p,e,f,z⟩
theorem iC (h:rising es) (hij:i<j) (hj:j<es.length):mo es i<mo es j:=by
 have hi:i<es.length:=by try?
 unfold mo
 rw [jY hi,jY hj]
 exact aax.mp h i j hi hj hij
theorem fB {i:Nat} (h:es[i]?=some x) (hj:j=(i:Int)):sI (vals es) j=some (.ref x.1):=by
 subst hj
 exact iG (yy h)
inductive AD (vs:List V) (H:Hp) (Q:VK) (E_:XK):Prop where
 | mk (p r:aq) (a b c d:Int) (n:Nat):vs=[.ref p,.ref r]→H p=some (.tup [.int a,.int b])→H r=some (.tup [.int c,.int d])→Sz n a→Sz n b→Sz n c→Sz n d→n≤10000→(∀(s:aq) (H':Hp),ao H H'→H' s=some (.tup [.int (a*d-c*b),.int (b*d)])→Q (.ref s) H')→AD vs H Q E_
inductive AE (vs:List V) (H:Hp) (Q:VK) (E_:XK):Prop where
 | mk (p r v v':aq) (t t' a b a' b':Int) (n:Nat):vs=[.ref p,.ref r]→H p=some (.tup [.int t,.ref v])→H v=some (.tup [.int a,.int b])→H r=some (.tup [.int t',.ref v'])→H v'=some (.tup [.int a',.int b'])→t<t'→Sz n t→Sz n a→Sz n b→Sz n t'→Sz n a'→Sz n b'→n≤10000→(∀(s:aq) (H':Hp),ao H H'→H' s=some (.tup [.int (a'*b-a*b'),.int (b'*b*(t'-t))])→Q (.ref s) H')→AE vs H Q E_
inductive O3 (vs:List V) (H:Hp) (Q:VK) (E_:XK):Prop where
 | mk (l:aq) (es:List En) (i j n:Nat):vs=[.ref l,.int (i:Int),.int (j:Int)]→H l=some 0#s→Row H es n→iK es→rising es→i<j→j<es.length→es.length≤1000→n≤900→(j=i+1→∀H',ao H H'→Q .bK H')→(i+1<j→∀(z p:aq) (k:Nat) (H':Hp),ao H H'→H' z=some (.tup [.int (k:Int),.ref p])→b8 H' p (dP (sd es i k j)) (8*n+5)→kH (λk=>dP (sd es i k j)) i j k→Q (.ref z) H')→O3 vs H Q E_
theorem BX (F:fO K "loose_minus" lK f fd):bh P w K mg base dm 1 f fd [aQ,aG] AD:=by
 refine F.eU uB λcdv A outer s H vs Q E hr h=>?_
 obtain ⟨p,r,a,b,c,d,n,rfl,hp,hr',za,zb,zc,zd,hn,k⟩:=h
 apply bF ⟨_,(aD (aX (bW (bL (aF bT (aF aS 0#I 0#Q) (aF aS 0#Q 0#I)) (aF aS 0#I 0#Q))))),?_⟩
 apply iF (ck za zd 0#c) ?_
 apply iF (ck zc zb 0#c) ?_
 apply iF (ck zb zd 0#c) ?_
 refine aC (mk:=.tup) 0#d λx H1 s1 n1 e1=>?_
 exact k x H1 s1 e1
theorem BY (F:fO K "loose_slope" jy f fd) (nJ:Dn P w K mg base 1 "loose_minus" [aQ,aG] AD):bh P w K mg base dm 3 f fd [aQ,aG] AE:=by
 refine F.eU dz λcdv A outer s H vs Q E hr h=>?_
 obtain ⟨p,r,v,v',t,t',a,b,a',b',n,rfl,hp,hv,hr',hv',ht,zt,za,zb,zt',za',zb',hn,k⟩:=h
 apply bF ⟨_,(ah (aL 2 dz.nd (bZ nJ hr 0#Q 0#I)) (ah (aL 3 dz.nd (aF bT 0#Q 0#I)) (ah (cy (bD oh 0#A au 0#K) (aD (aX (bW (bL (gF dH (aH K 0#q)) (aF aS (aH K 0#q) (gF dH 0#A)))))) cG) (aD (aX (bW (bL (aH K 0#q) (aF aS (aH K 0#q) 0#A)))))))),?_⟩
 refine ⟨v',v,a',b',a,b,n,rfl,hv',hv,za',zb',za,zb,hn,λx H1 s1 e1=>?_⟩
 have hp1:=s1 _ _ hp
 have hr1:=s1 _ _ hr'
 have zs:Sz (n+1) (t'-t):=zt'.sub zt
 rw?
 refine c6 0#w 0#w
 ·have c':t'-t<0:=dM c
  try?
 ·rw?
  apply iF (ck (zb'.mul zb) zs 0#c) ?_
  refine aC (mk:=.tup) 0#d λy H2 s2 n2 e2=>?_
  exact k y H2 (s1.trans s2) e2
theorem bE:fz 3 [aZ,cV,cY,"start",gr,"base",dN,"miss","place",dU,"value","along","stood"] lg:=0#a
abbrev MQ P w K mg base:=Dn P w K mg base 1 "order" [aQ,aG] Eo
theorem xU (F:fO K "loose_farthest" lg f fd) (T:Txt mg) (dI:MQ P w K mg base) (nK:Dn P w K mg base 3 "loose_slope" [aQ,aG] AE) :
 bh P w K mg base dm 4 f fd [aZ,cV,cY] O3:=by
 refine F.eU bE λcdv A outer s H vs Q E hr h=>?_
 obtain ⟨l,es,i,j,n,rfl,hl,hR,hS,d9,hij,hj,mX,hn,k0,k1⟩:=h
 obtain ⟨xi,gi,vi,ei,⟨a,b,eb,fb,za,zb⟩,zti⟩:=dG hR hS (show i<es.length by try?)
 obtain ⟨xj,gj,vj,ej,⟨a',b',eb',fb',za',zb'⟩,ztj⟩:=dG hR hS hj
 have ht:=iC d9 hij hj
 have hb1:=fb.pos
 have hb2:=fb'.pos
 have zd:Sz (n+1) (mo es j-mo es i):=ztj.sub zti
 have zS:Sz (3*n+1) (b'*b*(mo es j-mo es i)):=((zb'.mul zb).mul zd).mono 0#c
 have zS2:Sz (2*n+1) (b'*(mo es j-mo es i)):=(zb'.mul zd).mono 0#c
 have zT:Sz (2*n+1) (a'*b-a*b'):=((za'.mul zb).sub (za.mul zb')).mono 0#c
 have hdv:(b'*b*(mo es j-mo es i)).fdiv b=b'*(mo es j-mo es i):=by
  rw [B8 _ 0#c,Int.mul_right_comm]
  exact Int.mul_ediv_cancel _ 0#c
 have X4:0<b'*b*(mo es j-mo es i):=yN (yN 0#c 0#c) 0#c
 apply bF ⟨_,(ah (aL 3 bE.nd (bO (gU K) 0#h 0#n 0#g)) (ah (aL 4 bE.nd (bZ nK hr 0#A (bO (gU K) 0#h 0#q 0#g))) (ah (aL 5 bE.nd (aF aS (aH K (aH K 0#A)) (aF fY (aH K (aa 4)) (aH K (aH K 0#A))))) (ah (aL 6 bE.nd fU) (ah (aL 7 bE.nd (bW (bL au au))) (ah (iP gR rfl (xJ rfl T.range (bL (aF bB 0#n au) 0#q)) (cB (i:=8) bE.nd rfl 0#k) (ah (aL 9 bE.nd (aH K (bO (gU K) 0#h (aa 8) 0#g))) (ah (aL 10 bE.nd (aH K (bO (gU K) 0#h (aa 8) 0#g))) (ah (aL 11 bE.nd (aF bB (aa 5) (aF aS (aH K (aa 4)) (aF bT (aa 9) (aH K 0#A))))) (ah (aL 12 bE.nd (bW (bL (iz zA rfl T.zD AN (dZ (aF bT (aF aS (aH K (aa 10)) (aH K (aa 4))) (aF aS (aH K (aa 10)) (aa 11)))) (he:=J1) (hpl:=cR)) (aH K (aa 10))))) (aD (cy (Jd.BE (Jd.GV (bD tS (aa 6) fU 0#K) (Jd.Ag (bD fM (bZ dI hr (aa 12) (aa 7)) au 0#K)))) (ah (aL 6 bE.nd (aa 8)) (aD (aL 7 bE.nd (aa 12)))) cG))))))) (aD (aX (vA (bD tS (aa 6) fU 0#K) fU (bW (bL (aa 6) (bW (bL (aH K (aa 7)) (aF aS (aH K (aa 7)) (aH K (aa 4)))))))))))))))),?_⟩
 apply dg hl (fB gi rfl) ?_
 apply dg hl (fB gj rfl) ?_
 refine ⟨xi.1,xj.1,vi,vj,mo es i,mo es j,a,b,a',b',n,rfl,ei,eb,ej,eb',ht,zti,za,zb,ztj,za',zb',by try?,λps H1 s1 e1=>?_⟩
 have ei1:=s1 _ _ ei
 have eb1:=s1 _ _ eb
 rw?
 refine iF ⟨by try?,zb.log 0#c ?_⟩ ?_
 ·rcases aa2 n with z | z
  ·subst z
   have:b.natAbs<2 ^ 0:=zb
   try?
  ·exact z
 rw [hdv]
 apply iF (ck za zS2 0#c) ?_
 apply aC (mk:=.tup) 0#d λpm0 H2 s2 n2 e2=>?_
 apply fq (qZ ?_)
 have ah6:Sz (5*n+4) 1:=qV 0#c
 have zer:Sz (5*n+4) 0:=W9 _
 refine ⟨_,_,rfl,⟨by lia,by lia,by lia,by lia⟩,dc (λm σ H3=>Xs7 λ(fv:V) (pm:aq) (v8 v9 v10 v11 TR:Option V)=>σ=[some 0#O,some (.int i),some (.int j),some (.ref xi.1),some (.ref ps),some (.int (a*(b'*(mo es j-mo es i)))),some fv,some (.ref pm),v8,v9,v10,v11,TR] ∧
  ao H1 H3∧((m=0∧fv=.bK∧b8 H3 pm 0 (5*n+4))∨∃k:Nat,fv=.int (k:Int)∧b8 H3 pm (dP (sd es i k j)*((b'*b*(mo es j-mo es i):Int):Rat)) (5*n+4)∧kH (λk=>dP (sd es i k j)) i (i+1+m) k)) ?_ ?_ ?_⟩
 ·exact ⟨.bK,pm0,none,none,none,none,none,rfl,s2,.inl ⟨rfl,rfl,0,1,e2,Qt.whole 0,zer,ah6⟩⟩
 ·rintro m σ H3 hm ⟨fv,pm,v8,v9,v10,v11,TR,rfl,s3,hI⟩
  refine c8 λM Bk RR hM _ _=>?_
  have hp:i+1+m<j:=by try?
  have qu:=s1.trans s3
  obtain ⟨xp,gp,vp,ep,⟨c,e,ec,fc,zc,ze⟩,ztp⟩:=dG (hR.up qu) hS (show i+1+m<es.length by try?)
  have ei3:=qu _ _ ei
  have Tu:=s3 _ _ e1
  have qt:=acP fb fb' fc (tp:=mo es (i+1+m)) ht
  have qa:=qt.abs
  rw [ya (cast_pos X4)] at qa
  have ztt:Sz (n+1) (mo es (i+1+m)-mo es i):=ztp.sub zti
  have agl:Sz (4*n+2) (a*(b'*(mo es j-mo es i))):=(za.mul zS2).mono 0#c
  have zst:Sz (4*n+2) ((a'*b-a*b')*(mo es (i+1+m)-mo es i)):=(zT.mul ztt).mono 0#c
  have zal:Sz (4*n+3) (a*(b'*(mo es j-mo es i))+(a'*b-a*b')*(mo es (i+1+m)-mo es i)):=agl.add zst
  have zcS:Sz (5*n+3) (c*(b'*b*(mo es j-mo es i))):=(zc.mul zS).mono 0#c
  have zea:Sz (5*n+3) (e*(a*(b'*(mo es j-mo es i))+(a'*b-a*b')*(mo es (i+1+m)-mo es i))):=(ze.mul zal).mono 0#c
  rw?
  apply dg (qu _ _ hl) (fB gp 0#c) ?_
  apply dg (qu _ _ hl) (fB gp 0#c) ?_
  apply iF (ck zT ztt 0#c) ?_
  apply iF (ck zc zS 0#c) ?_
  apply iF (ck ze zal 0#c) ?_
  rw [jv]
  refine aC (mk:=.tup) 0#d λpst H4 s4 n4 e4=>?_
  have qs:b8 H4 pst (dP (sd es i (i+1+m) j)*((b'*b*(mo es j-mo es i):Int):Rat)) (5*n+4):=
   ⟨_,_,e4,qa,(zcS.sub zea).of_le 0#d,ze.mono 0#c⟩
  rw?
  rcases hI with ⟨rfl,rfl,hq⟩ | ⟨kk,rfl,hq,hF⟩
  ·apply 0#F
   refine cI ?_
   apply cI ?_
   exact hM _ _ ⟨_,_,_,_,_,_,_,rfl,s3.trans s4,.inr ⟨i+1,by simp,qs,kH.first⟩⟩
  ·apply 0#F
   apply bR ?_
   apply ⟨pst,pm,_,_,_,_,rfl,qs,hq.up s4,by try?,λo Tw ho2=>?_⟩
   refine c6 0#J 0#J
   ·have c':0<o:=dM c1
    have l1:=(Ke (cast_pos X4)).mp (Tw.mp c')
    rw?
    refine hM _ _ ⟨_,_,_,_,_,_,_,rfl,s3.trans s4,.inr ⟨i+1+m,by simp,qs,?_⟩⟩
    exact hF.next l1
   ·have c':¬0<o:=jO (jr.mpr c1)
    have l1:¬dP (sd es i kk j)<dP (sd es i (i+1+m) j):=λz=>c' (Tw.mpr ((Ke (cast_pos X4)).mpr z))
    rw?
    refine hM _ _ ⟨_,_,_,_,_,_,_,rfl,s3.trans s4,.inr ⟨kk,rfl,hq.up s4,?_⟩⟩
    exact hF.keep (kB.mp l1)
 ·rintro σ H3 ⟨fv,pm,v8,v9,v10,v11,TR,rfl,s3,hI⟩
  have Tu:=s3 _ _ e1
  rw?
  rcases hI with ⟨hm,rfl,hq⟩ | ⟨kk,rfl,⟨x,y,exy,qxy,zx,zy⟩,hF⟩
  ·apply 0#F
   apply cI ?_
   exact k0 0#c H3 (s1.trans s3)
  ·apply 0#F
   apply bR ?_
   apply iF (ck zy zS 0#c) ?_
   apply aC (mk:=.tup) 0#d λp4 H4 s4 n4 e4=>?_
   refine aC (mk:=.tup) 0#d λp5 H5 s5 n5 e5=>?_
   have hF':kH (λk=>dP (sd es i k j)) i j kk:=by
    have e:i+1+((j:Int)-((i:Int)+1)).toNat=j:=by try?
    rw [e] at hF
    exact hF
   have hlo:=hF'.lo
   have hhi:=hF'.hi
   refine k1 0#c p5 p4 kk H5 ((s1.trans s3).trans 0#W) e5 ?_ hF'
   have q:=qxy.div (s:=b'*b*(mo es j-mo es i)) X4
   have hne:=eS (b:=b'*b*(mo es j-mo es i)) 0#c
   rw [show dP (sd es i kk j)*((b'*b*(mo es j-mo es i):Int):Rat)/((b'*b*(mo es j-mo es i):Int):Rat)=dP (sd es i kk j) by generalize ((b'*b*(mo es j-mo es i):Int):Rat)=S at hne;grind] at q
   exact ⟨_,_,s5 _ _ e4,q,zx.mono 0#c,(zy.mul zS).mono 0#c⟩
def c7 (b:Int) (x:Int×Option Int):Int×Option Rat:=(x.1,x.2.map λz:Int=>(z:Rat)/(b:Rat))
def Cm (m1 n1 m2 n2 m3 n3:Int):Int:=n2*(m3-m1)-n1*(m3-m2)-n3*(m2-m1)
inductive Ei (vs:List V) (H:Hp) (Q:VK) (E_:XK):Prop where
 | mk (l:aq) (es:List Nn) (b:Int) (m n nb N:Nat):vs=[.ref l,.int b]→H l=some (.lst (bH es))→iN H es m n→es.length≤900→1≤b→Sz nb b→m≤N→n≤N→nb≤N→N≤8000→(∀(R:aq) (es':List En) (H':Hp),ao H H'→H R=none→H' R=some (.lst (vals es'))→Row H' es' N→es'.map (·.2)=es.map (λx=>c7 b x.2)→Q (.ref R) H')→Ei vs H Q E_
inductive EA (vs:List V) (H:Hp) (Q:VK) (E_:XK):Prop where
 | mk (p1 p2 p3:aq) (m1 n1 m2 n2 m3 n3:Int) (m n:Nat):vs=[.ref p1,.ref p2,.ref p3]→H p1=some (.tup [.int m1,.int n1])→H p2=some (.tup [.int m2,.int n2])→H p3=some (.tup [.int m3,.int n3])→Sz m m1→Sz m m2→Sz m m3→Sz n n1→Sz n n2→Sz n n3→m+n≤100000→Q (.int (Cm m1 n1 m2 n2 m3 n3)) H→EA vs H Q E_
theorem adA (a1:Sz m m1) (a2:Sz m m2) (a3:Sz m m3) (b1:Sz n n1) (b2:Sz n n2) (b3:Sz n n3):Sz (m+n+3) (Cm m1 n1 m2 n2 m3 n3):=by
 unfold Cm
 have x1:Sz (m+n+1) (n2*(m3-m1)):=(b2.mul (a3.sub a1)).mono 0#c
 have x2:Sz (m+n+1) (n1*(m3-m2)):=(b1.mul (a3.sub a2)).mono 0#c
 have x3:Sz (m+n+2) (n3*(m2-m1)):=(b3.mul (a2.sub a1)).mono 0#c
 exact (x1.sub x2).sub x3
theorem S4 (h:H p=some (.tup [x,y,z])) (q:R (((σ.set i (some x)).set j (some y)).set k (some z)) H):R8 K 3 (rV (jw i) (rV (jw j) (rV (jw k) R1))) (.ref p) σ H R:=
 ⟨p,_,rfl,tD.of h,rfl,x,_,rfl,y,_,rfl,z,_,rfl,rfl,q⟩
theorem lM:fz 2 [aM,dD,"_law_handed_here",aV,"_law_number"] rq:=0#a
theorem FP (F:fO K "_law_handed" rq f fd) (jQ:Dn P w K mg base 1 "_law_ratio" ["_law_top",dD] yr):bh P w K mg base dm 2 f fd [aM,dD] Ei:=by
 refine F.eU lM λcdv A outer s H vs Q E hr h=>?_
 obtain ⟨l,es,b,m,n,nb,N,rfl,hl,hes,mX,hb,zb,hmN,hnN,hbN,hN,k⟩:=h
 apply bF ⟨_,(ah (aL 2 lM.nd (dO gH)) (ah (iP gR rfl (eE K 0#h) (Jd.TH K (n:=2) rfl (iH (cB (i:=3) lM.nd rfl 0#k) (iH (cB (i:=4) lM.nd rfl 0#k) tK))) (aD (cy (bD tS (aa 4) fU 0#K) (aD (fm (ia K 0#q (bW (bL 0#A fU))) (hs:=eK))) (aD (fm (ia K 0#q (bW (bL 0#A (bZ jQ hr (aa 4) 0#n)))) (hs:=eK)))))) (aD (aX 0#q)))),?_⟩
 apply aC (mk:=.lst) 0#d λR H1 s1 n1 e1=>?_
 apply fq (jb ?_)
 refine ⟨l,rfl,⟨_,bq.of (s1 _ _ hl)⟩,d8 (xs:=bH es) (λi σ H3=>Py λ(es':List En) (v3 v4:Option V)=>σ=[some 0#O,some (.int b),some (.ref R),v3,v4]∧ao H H3∧H3 R=some (.lst (vals es'))∧Row H3 es' N∧es'.length=i∧es'.map (·.2)=(es.take i).map (λx=>c7 b x.2)) ?_ ?_ ?_ ?_⟩
 ·exact ⟨[],none,none,rfl,s1,e1,λx hx=>absurd hx 0#d,rfl,rfl⟩
 ·rintro i σ H3 _ ⟨es',v3,v4,rfl,s3,_⟩
  exact bq.of (s3 _ _ hl)
 ·rintro i x σ H3 hx ⟨es',v3,v4,rfl,s3,e3,Nu,hl',hmap⟩
  obtain ⟨e,he,rfl⟩:=nY hx
  have hi:i<es.length:=(nH.mp he).1
  have fe:=(hes e (mT he)).up s3
  have tk:es.take (i+1)=es.take i++[e]:=by rw [sC,he];rfl
  have fin:∀(y:aq) (H4:Hp) (v3 v4:Option V),ao H3 H4→nS H4 (y,c7 b e.2) N→Py λ(HJ:List En) (v3' v4':Option V)=>[some 0#O,some (.int b),some (.ref R),v3,v4]=[some 0#O,some (.int b),some (.ref R),v3',v4'] ∧
   ao H (upd H4 R (.lst (vals es'++[.ref y])))∧upd H4 R (.lst (vals es'++[.ref y])) R=some (.lst (vals HJ))∧Row (upd H4 R (.lst (vals es'++[.ref y]))) HJ N∧HJ.length=i+1∧HJ.map (·.2)=(es.take (i+1)).map (λx=>c7 b x.2):=by
   intro y H4 v3 v4 s4 f4
   have e4:=s4 _ _ e3
   refine ⟨es'++[(y,c7 b e.2)],v3,v4,rfl,bf 0#N n1,by rw [av];exact congrArg (λz=>some (HO.lst z)) (gQ es' (y,c7 b e.2)),((Nu.up s4).snoc f4).app e4,by rw [fh,hl'];rfl,?_⟩
   rw [tk,jD,jD,hmap]
   rfl
  obtain ⟨a,mm,v⟩:=e
  cases v with
  | none=>
    apply nG fe.1 ?_
    apply 0#F
    apply cI ?_
    apply ⟨.inl ⟨rfl,_,bq.of e3⟩,?_⟩
    apply aC (mk:=.tup) 0#d λy H4 s4 n4 e4=>?_
    refine cM (s4 _ _ e3) (by rw [aT];exact aN 0#c) ?_
    exact fin y H4 _ _ s4 ⟨fe.2.1.mono hmN,e4⟩
  | some z=>
    have zz:=fe.2.2 z rfl
    apply nG fe.1 ?_
    apply 0#F
    apply bR ?_
    apply ⟨.inl ⟨rfl,_,bq.of e3⟩,?_⟩
    apply KG (n:=N) 0#c (zz.mono hnN) (zb.mono hbN) hN λp H4 s4 f4=>?_
    apply aC (mk:=.tup) 0#d λy H5 s5 n5 e5=>?_
    refine cM (0#W _ _ e3) (by rw [aT];exact aN 0#c) ?_
    exact fin y H5 _ _ 0#W ⟨fe.2.1.mono hmN,p,e5,f4.up s5⟩
 ·rintro σ H3 ⟨es',v3,v4,rfl,s3,e3,Nu,hl',hmap⟩
  rw [bQ,jt] at hmap
  rw?
  exact k R es' H3 s3 n1 e3 Nu hmap
theorem yg:fz 3 [eG,"_law_mid","_law_last","_law_up"] uq:=0#a
theorem IP (F:fO K "_law_stand" uq f fd):bh P w K mg base dm 1 f fd [eG,"_law_mid","_law_last"] EA:=by
 refine F.eU yg λcdv A outer s H vs Q E hr h=>?_
 obtain ⟨p1,p2,p3,m1,n1,m2,n2,m3,n3,m,n,rfl,e1,e2,e3,a1,a2,a3,b1,b2,b3,hmn,k⟩:=h
 apply bF ⟨_,(ah (aL 3 yg.nd (aF aS 0#Q (aF bT (aH K 0#q) 0#I))) (aD (aX (aF bT (aF bT 0#A (aF aS 0#I (aF bT (aH K 0#q) 0#Q))) (aF aS (aH K 0#q) (aF bT 0#Q 0#I)))))),?_⟩
 apply iF (ck b2 (a3.sub a1) 0#c) ?_
 apply iF (ck b1 (a3.sub a2) 0#c) ?_
 apply iF (ck b3 (a2.sub a1) 0#c) ?_
 exact k
def iJ (hs:List Nn) (k:Nat):Int:=((hs[k]?).map (·.2.1)).getD 0
def NZ (hs:List Nn) (k:Nat):Int:=((hs[k]?).bind (·.2.2)).getD 0
def zQ (hs:List Nn) (i k j:Nat):Int:=Cm (iJ hs i) (NZ hs i) (iJ hs k) (NZ hs k) (iJ hs j) (NZ hs j)
def CA (hs:List Nn):Prop:=∀x∈hs,tP x=true
theorem GN (hR:iN H hs m n) (hS:CA hs) (hk:k<hs.length):∃x,hs[k]?=some x∧H x.1=some (.tup [.int (iJ hs k),.int (NZ hs k)])∧Sz m (iJ hs k)∧Sz n (NZ hs k):=by
 have g:hs[k]?=some hs[k]:=jY hk
 have hm:hs[k]∈hs:=Hj hk
 refine ⟨hs[k],g,?_⟩
 have h1:=hR _ hm
 have h2:(hs[k]).2.2.isSome=true:=hS _ hm
 unfold iJ NZ
 rw [g]
 generalize hs[k]=x at *
 obtain ⟨a,m,v⟩:=x
 cases v with
 | none=>cases h2
 | some q=>exact ⟨h1.1,h1.2.1,h1.2.2 q rfl⟩
theorem NY (h:fP hs) (hij:i<j) (hj:j<hs.length):iJ hs i<iJ hs j:=by
 have hi:i<hs.length:=by try?
 unfold iJ
 rw [jY hi,jY hj]
 exact aax.mp h i j hi hj hij
section
variable {es:List En} {hs:List Nn} {b:Int} (h:es.map (·.2)=hs.map (λx=>c7 b x.2))
include h
theorem Im (k:Nat):mo es k=iJ hs k∧wo es k=(NZ hs k:Rat)/(b:Rat):=by
 have e:(es.map (·.2))[k]?=(hs.map (λx=>c7 b x.2))[k]?:=by rw [h]
 rw [kE,kE] at e
 unfold mo iJ wo NZ
 have z:(0:Rat)=((0:Int):Rat)/(b:Rat):=by
  rw [show ((0:Int):Rat)=0 from rfl,Rat.div_def,ab1]
 cases e1:es[k]? with
 | none=>
   rw [e1] at e
   cases e2:hs[k]? with
   | none=>exact ⟨rfl,z⟩
   | some y=>rw [e2] at e;cases e
 | some x=>
   rw [e1] at e
   cases e2:hs[k]? with
   | none=>rw [e2] at e;cases e
   | some y=>
     rw [e2] at e
     have q:x.2=c7 b y.2:=qE e
     obtain ⟨ax,tx,vx⟩:=x
     obtain ⟨ay,ty,vy⟩:=y
     cases vy with
     | none=>
       cases q
       exact ⟨rfl,z⟩
     | some w=>
       cases q
       exact 0#U
theorem xO:es.length=hs.length:=by
 have:=congrArg oK h
 simpa using this
theorem o4 (hr:fP hs):rising es:=by
 have k:(hs.map λx=>x.2.1).Pairwise (·<·):=Hg.mpr hr
 have e:=congrArg (Ht aci) h
 rw [se,se] at e
 have e':es.map (λx=>x.2.1)=hs.map (λx=>x.2.1):=e
 rw [← e'] at k
 exact Hg.mp k
theorem U5 (hS:CA hs):iK es:=by
 intro x hx
 have hm:x.2∈es.map (·.2):=jB.mpr ⟨x,hx,rfl⟩
 rw [h] at hm
 obtain ⟨y,hy,e⟩:=jB.mp hm
 have:=hS y hy
 unfold dh
 rw [← e]
 unfold c7 tP at *
 rw [Option.isSome_map]
 exact this
theorem Qp (hb:1≤b) (ht:iJ hs i<iJ hs j):((zQ hs i k j:Int):Rat)=sd es i k j*(((iJ hs j-iJ hs i)*b:Int):Rat):=by
 obtain ⟨i1,i2⟩:=Im h i
 obtain ⟨j1,j2⟩:=Im h j
 obtain ⟨k1,k2⟩:=Im h k
 unfold sd zQ Cm
 rw [i1,i2,j1,j2,k1,k2]
 have hX:=nB (t:=(iJ hs i:Rat)) (q:=(NZ hs i:Rat)/(b:Rat)) (u:=(iJ hs k:Rat)) (t':=(iJ hs j:Rat)) (q':=(NZ hs j:Rat)/(b:Rat)) (AU ht)
 have hb':=eS (b:=b) 0#c
 simp only [sD,sF]
 generalize dJ (iJ hs i:Rat) ((NZ hs i:Rat)/(b:Rat)) (iJ hs k:Rat) (iJ hs j:Rat) ((NZ hs j:Rat)/(b:Rat))=X at *
 generalize (iJ hs i:Rat)=ti at *
 generalize (iJ hs j:Rat)=tj at *
 generalize (iJ hs k:Rat)=tk at *
 generalize (NZ hs i:Rat)=ni at *
 generalize (NZ hs j:Rat)=nj at *
 generalize (NZ hs k:Rat)=nk at *
 grind
end
theorem NX (x:Int):((x.natAbs:Int):Rat)=dP (x:Rat):=by
 have:=(Qt.whole x).abs.eq
 simpa using this
theorem U4 (h:es.map (·.2)=hs.map (λx=>c7 b x.2))  (hb:1≤b) (ht:iJ hs i<iJ hs j):(((zQ hs i k j).natAbs:Int):Rat)=dP (sd es i k j)*(((iJ hs j-iJ hs i)*b:Int):Rat):=by
 rw [NX,Qp h hb ht,ya (cast_pos (yN 0#c 0#c))]
theorem fW (h:es.map (·.2)=es'.map (·.2)) (k:Nat):mo es k=mo es' k∧wo es k=wo es' k:=by
 have e:(es.map (·.2))[k]?=(es'.map (·.2))[k]?:=by rw [h]
 rw [kE,kE] at e
 unfold mo wo
 cases h1:es[k]? with
 | none=>
   cases h2:es'[k]? with
   | none=>exact 0#U
   | some y=>rw [h1,h2] at e;cases e
 | some x=>
   cases h2:es'[k]? with
   | none=>rw [h1,h2] at e;cases e
   | some y=>
     rw [h1,h2] at e
     have e':x.2=y.2:=by simpa using e
     simp only [Option.map_some,Option.bind_some,e',Option.getD_some,and_self]
abbrev Qs:=List (aq×Rat)
def eV (rs:Qs):List V:=rs.map λx=>V.ref x.1
theorem LJ {i:Nat} (h:(eV rs)[i]?=some v):∃x,rs[i]?=some x∧v=.ref x.1:=by
 unfold eV at h
 rw [kE] at h
 cases e:rs[i]? with
 | none=>rw [e] at h;cases h
 | some x=>rw [e] at h;cases h;exact ⟨x,rfl,rfl⟩
def Hu (H:Hp) (rs:Qs) (n:Nat):Prop:=∀x∈rs,b8 H x.1 x.2 n
def gM (js:List Nat):List V:=js.map λj:Nat=>V.int (j:Int)
theorem jT (js:List Nat):(gM js).length=js.length:=gI ..
theorem qU (js:List Nat) (j:Nat):gM js++[.int (j:Int)]=gM (js++[j]):=by simp [gM]
theorem Lo {i:Nat} (h:(gM js)[i]?=some v):∃j,js[i]?=some j∧v=.int (j:Int):=by
 unfold gM at h
 rw [kE] at h
 cases e:js[i]? with
 | none=>rw [e] at h;cases h
 | some x=>rw [e] at h;cases h;exact ⟨x,rfl,rfl⟩
theorem b8.app (f:b8 H p q n) (h:H R=some (.lst ys)):b8 (upd H R o) p q n:=
 let ⟨t,b,e,f⟩:=f
 ⟨t,b,(vC R H o) _ _ (gA h e),f⟩
def Z7 (H:Hp) (p:aq) (t:Int) (q:Rat) (n m:Nat):Prop:=∃v:aq,H p=some (.tup [.int t,.ref v])∧b8 H v q n∧Sz m t
theorem Z7.up (f:Z7 H p t q n m) (s:ao H H'):Z7 H' p t q n m:=let ⟨v,e,f,z⟩:=f;⟨v,s _ _ e,f.up s,z⟩
theorem jK.saq (f:jK H p t q n):Z7 H p t q n n:=let ⟨v,e,f,z⟩:=f;⟨v,e,f.qt,z⟩
def Good (es:List En) (β:Rat) (i j:Nat):Prop:=∀k,i<k→k<j→dP (sd es i k j)≤β
def jX (es:List En) (β:Rat) (aI:Bool) (i j:Nat):Prop:=if aI=true then i<j∧j<es.length∧Good es β i j else i<es.length∧(j=i+1∨(i+1<j∧j≤es.length∧Good es β i (j-1)))
def slo (es:List En) (i j:Nat):Rat:=(wo es j-wo es i)/((mo es j:Rat)-(mo es i:Rat))
def jx (es:List En) (β:Rat) (i k:Nat):Rat:=(wo es k-β-wo es i)/0#S
def gE (es:List En) (β:Rat) (i k:Nat):Rat:=(wo es k+β-wo es i)/0#S
theorem C2 (h:rising es) (hik:i<k) (hkj:k<j) (hj:j<es.length):dP (sd es i k j)≤β↔jx es β i k≤slo es i j∧slo es i j≤gE es β i k:=
 HG (sy.mpr (iC h hik 0#c)) (sy.mpr (iC h hkj hj))
inductive AF (vs:List V) (H:Hp) (Q:VK) (E_:XK):Prop where
 | mk (p r:aq) (t t':Int) (q q':Rat) (n n' m:Nat):vs=[.ref p,.ref r]→Z7 H p t q n m→Z7 H r t' q' n' m→t<t'→n+n'+m≤20000→(∀(s:aq) (H':Hp),ao H H'→b8 H' s ((q'-q)/((t':Rat)-(t:Rat))) (n+n'+m+2)→Q (.ref s) H')→AF vs H Q E_
inductive JN (vs:List V) (H:Hp) (Q:VK) (E_:XK):Prop where
 | mk (l:aq) (rs:Qs) (n:Nat):vs=[.ref l]→H l=some (.lst (eV rs))→Hu H rs n→n≤20000→0<rs.length→(∀x∈rs,(∀y∈rs,y.2≤x.2)→Q (.ref x.1) H)→JN vs H Q E_
inductive Cy (vs:List V) (H:Hp) (Q:VK) (E_:XK):Prop where
 | mk (l:aq) (rs:Qs) (n:Nat):vs=[.ref l]→H l=some (.lst (eV rs))→Hu H rs n→n≤20000→0<rs.length→(∀x∈rs,(∀y∈rs,x.2≤y.2)→Q (.ref x.1) H)→Cy vs H Q E_
inductive JM (vs:List V) (H:Hp) (Q:VK) (E_:XK):Prop where
 | mk (l pb:aq) (es:List En) (i n nb:Nat) (β:Rat):vs=[.ref l,.int (i:Int),.ref pb]→H l=some 0#s→Row H es n→iK es→rising es→i<es.length→es.length≤900→b8 H pb β nb→n≤1000→nb≤1000→(∀(R:aq) (js:List Nat) (H':Hp),ao H H'→H R=none→H' R=some (.lst (gM js))→js.length≤es.length→(∀j,j∈js↔i<j∧j<es.length∧Good es β i j)→Q (.ref R) H')→JM vs H Q E_
structure TY (H:Hp) (F:aq) (rs:List (aq×List Nat)):Prop where
 at_:H F=some (.lst (rs.map λx=>V.ref x.1))
 each:∀x∈rs,H x.1=some (.lst (gM x.2))∧x.1≠F
theorem TY.up (h:TY H F rs) (s:ao H H'):TY H' F rs:=⟨s _ _ h.at_,λx hx=>⟨s _ _ (h.each x hx).1,(h.each x hx).2⟩⟩
theorem TY.push (h:TY H F rs) (hR:H R=some (.lst (gM js))) (ne:R≠F):TY (upd H F (.lst (rs.map (λx=>V.ref x.1)++[.ref R]))) F (rs++[(R,js)]):=by
 refine ⟨by rw [av,jD];rfl,λx hx=>?_⟩
 rcases fK.mp hx with z | z
 ·exact ⟨by rw [aK (h.each x z).2];exact (h.each x z).1,(h.each x z).2⟩
 ·obtain rfl:x=(R,js):=by simpa using z
  exact ⟨by rw [aK ne];exact hR,ne⟩
def CK (es:List En) (β:Rat) (aI:Bool) (rs:List (aq×List Nat)):Prop:=∀i x,rs[i]?=some x→(x.2.length≤es.length+1)∧∀j,j∈x.2↔jX es β aI i j
inductive JO (vs:List V) (H:Hp) (Q:VK) (E_:XK):Prop where
 | mk (l pb:aq) (es:List En) (n nb:Nat) (β:Rat) (aI:Bool):vs=[.ref l,.ref pb,.bl aI]→H l=some 0#s→Row H es n→iK es→rising es→es.length≤900→b8 H pb β nb→n≤1000→nb≤1000→(∀(F:aq) (rs:List (aq×List Nat)) (H':Hp),ao H H'→H F=none→TY H' F rs→rs.length=es.length→CK es β aI rs→Q (.ref F) H')→JO vs H Q E_
def jf (N:Nat) (t:Nat→Int):List V:=(gD N).map λj=>V.int (t j)
theorem nE (N:Nat) (t:Nat→Int):(jf N t).length=N:=by simp [jf]
theorem nV {N:Nat} (h:j<N) (hi:i=(j:Int)):sI (jf N t) i=some (.int (t j)):=by
 subst hi
 exact iG (xQ h)
inductive Cw (vs:List V) (H:Hp) (Q:VK) (E_:XK):Prop where
 | mk (F:aq) (rs:List (aq×List Nat)) (N:Nat) (L:Nat→Nat→Prop):vs=[.ref F,.int (N:Int)]→TY H F rs→1≤N→N≤900→N≤rs.length+1→rs.length≤N→(∀i x,rs[i]?=some x→∀j,j∈x.2↔L i j)→(∀i j,L i j→i<j∧j<N)→(∀j,0<j→j<N→L (j-1) j)→(∀(R:aq) (t:Nat→Int) (H':Hp),ao H H'→H R=none→H' R=some (.lst (jf N t))→qO L N t→Q (.ref R) H')→Cw vs H Q E_
theorem o9:fz 1 [ir,dN,"quotient"] wG:=0#a
theorem Lv (F:fO K "greatest" wG f fd) (dI:MQ P w K mg base):bh P w K mg base dm 2 f fd [ir] JN:=by
 refine F.eU o9 λcdv A outer s H vs Q E hr h=>?_
 obtain ⟨l,rs,n,rfl,hl,hq,hn,hp,k⟩:=h
 have g0:rs[0]?=some rs[0]:=jY hp
 apply bF ⟨_,(ah (aL 1 o9.nd (Jd.iL K 0#h)) (ah (iP gR rfl (eE K 0#h) (cB (i:=2) o9.nd rfl 0#k) (aD (cy (bD fM (bZ dI hr 0#q 0#n) au 0#K) (aD (aL 1 o9.nd 0#q)) cG))) (aD (aX 0#n)))),?_⟩
 apply dg hl (v:=.ref (rs[0]).1) (iG (j:=0) (by unfold eV;rw [kE,g0];rfl)) ?_
 apply fq (jb ?_)
 refine ⟨l,rfl,⟨_,bq.of hl⟩,d8 (xs:=eV rs) (λi σ H3=>H3=H∧∃(x:aq×Rat) (v:Option V),x∈rs∧σ=[some 0#O,some (.ref x.1),v]∧∀y∈rs.take i,y.2≤x.2) ?_ ?_ ?_ ?_⟩
 ·exact ⟨rfl,rs[0],none,Hj hp,rfl,λy hy=>by simp at hy⟩
 ·rintro i σ H3 _ ⟨rfl,_⟩
  exact bq.of hl
 ·rintro i v σ H3 hx ⟨rfl,x,v2,hm,rfl,hle⟩
  obtain ⟨y,gy,rfl⟩:=LJ hx
  have hy:=mT gy
  have tk:rs.take (i+1)=rs.take i++[y]:=by rw [sC,gy];rfl
  rw?
  apply ⟨y.1,x.1,y.2,x.2,n,n,rfl,hq y hy,hq x hm,by try?,λo Tw ho2=>?_⟩
  refine c6 0#w 0#w
  ·have c':=Tw.mp (dM c)
   rw?
   refine ⟨rfl,y,_,hy,rfl,λz hz=>?_⟩
   rw [tk] at hz
   rcases fK.mp hz with q | q
   ·have:=hle z q
    grind
   ·obtain rfl:z=y:=by simpa using q
    exact qz
  ·have c':¬x.2<y.2:=λz=>jO (jr.mpr c) (Tw.mpr z)
   rw?
   refine ⟨rfl,x,_,hm,rfl,λz hz=>?_⟩
   rw [tk] at hz
   rcases fK.mp hz with q | q
   ·exact hle z q
   ·obtain rfl:z=y:=by simpa using q
    exact kB.mp c'
 ·rintro σ H3 ⟨rfl,x,v2,hm,rfl,hle⟩
  rw?
  refine k x hm λy hy=>hle y ?_
  have e:(eV rs).length=rs.length:=gI ..
  rw [e,jt]
  exact hy
theorem pB:fz 1 [ir,dN,"quotient"] wO:=0#a
theorem LF (F:fO K "smallest" wO f fd) (dI:MQ P w K mg base):bh P w K mg base dm 2 f fd [ir] Cy:=by
 refine F.eU pB λcdv A outer s H vs Q E hr h=>?_
 obtain ⟨l,rs,n,rfl,hl,hq,hn,hp,k⟩:=h
 have g0:rs[0]?=some rs[0]:=jY hp
 apply bF ⟨_,(ah (aL 1 pB.nd (Jd.iL K 0#h)) (ah (iP gR rfl (eE K 0#h) (cB (i:=2) pB.nd rfl 0#k) (aD (cy (bD oh (bZ dI hr 0#q 0#n) au 0#K) (aD (aL 1 pB.nd 0#q)) cG))) (aD (aX 0#n)))),?_⟩
 apply dg hl (v:=.ref (rs[0]).1) (iG (j:=0) (by unfold eV;rw [kE,g0];rfl)) ?_
 apply fq (jb ?_)
 refine ⟨l,rfl,⟨_,bq.of hl⟩,d8 (xs:=eV rs) (λi σ H3=>H3=H∧∃(x:aq×Rat) (v:Option V),x∈rs∧σ=[some 0#O,some (.ref x.1),v]∧∀y∈rs.take i,x.2≤y.2) ?_ ?_ ?_ ?_⟩
 ·exact ⟨rfl,rs[0],none,Hj hp,rfl,λy hy=>by simp at hy⟩
 ·rintro i σ H3 _ ⟨rfl,_⟩
  exact bq.of hl
 ·rintro i v σ H3 hx ⟨rfl,x,v2,hm,rfl,hle⟩
  obtain ⟨y,gy,rfl⟩:=LJ hx
  have hy:=mT gy
  have tk:rs.take (i+1)=rs.take i++[y]:=by rw [sC,gy];rfl
  rw?
  apply ⟨y.1,x.1,y.2,x.2,n,n,rfl,hq y hy,hq x hm,by try?,λo Tw ho2=>?_⟩
  refine c6 0#w 0#w
  ·have c':=ho2.mp (dM c)
   rw?
   refine ⟨rfl,y,_,hy,rfl,λz hz=>?_⟩
   rw [tk] at hz
   rcases fK.mp hz with q | q
   ·have:=hle z q
    grind
   ·obtain rfl:z=y:=by simpa using q
    exact qz
  ·have c':¬y.2<x.2:=λz=>jO (jr.mpr c) (ho2.mpr z)
   rw?
   refine ⟨rfl,x,_,hm,rfl,λz hz=>?_⟩
   rw [tk] at hz
   rcases fK.mp hz with q | q
   ·exact hle z q
   ·obtain rfl:z=y:=by simpa using q
    exact kB.mp c'
 ·rintro σ H3 ⟨rfl,x,v2,hm,rfl,hle⟩
  rw?
  refine k x hm λy hy=>hle y ?_
  have e:(eV rs).length=rs.length:=gI ..
  rw [e,jt]
  exact hy
theorem BZ (F:fO K "loose_slope" jy f fd) (aY:Dn P w K mg base 1 "loose_minus" [aQ,aG] (jV (·-·) 1)):bh P w K mg base dm 3 f fd [aQ,aG] AF:=by
 refine F.eU dz λcdv A outer s H vs Q E hr h=>?_
 obtain ⟨p,r,t,t',q,q',n,n',m,rfl,⟨v,hp,hv,zt⟩,⟨v',hr',hv',zt'⟩,ht,hn,k⟩:=h
 apply bF ⟨_,(ah (aL 2 dz.nd (bZ aY hr 0#Q 0#I)) (ah (aL 3 dz.nd (aF bT 0#Q 0#I)) (ah (cy (bD oh 0#A au 0#K) (aD (aX (bW (bL (gF dH (aH K 0#q)) (aF aS (aH K 0#q) (gF dH 0#A)))))) cG) (aD (aX (bW (bL (aH K 0#q) (aF aS (aH K 0#q) 0#A)))))))),?_⟩
 refine ⟨v',v,q',q,n',n,rfl,hv',hv,by try?,λx H1 s1 e1=>?_⟩
 obtain ⟨a,b,hx,hq,za,zb⟩:=e1
 have hp1:=s1 _ _ hp
 have hr1:=s1 _ _ hr'
 have zs:Sz (m+1) (t'-t):=zt'.sub zt
 rw?
 refine c6 0#w 0#w
 ·have c':t'-t<0:=dM c
  try?
 ·rw?
  apply iF (ck zb zs 0#c) ?_
  refine aC (mk:=.tup) 0#d λy H2 s2 n2 e2=>?_
  have q2:=hq.div (s:=t'-t) 0#c
  rw [sF] at q2
  exact k y H2 (s1.trans s2) ⟨_,_,e2,q2,za.mono 0#c,(zb.mul zs).mono 0#c⟩
theorem bN:fz 3 [aZ,cV,aO,"start",dN,iV,iW,"place",dU,"value",gr,"gentle","steeper"] pP:=0#a
abbrev aco P w K mg base:=Dn P w K mg base 3 "loose_slope" [aQ,aG] AF
abbrev acp P w K mg base:=Dn P w K mg base 2 "greatest" [ir] JN
theorem Ds (F:fO K "good_behind" pP f fd) (T:Txt mg) (dI:MQ P w K mg base) (cu:Dn P w K mg base 1 "loose_plus" [aQ,aG] (jV (·+·) 1)) (aY:Dn P w K mg base 1 "loose_minus" [aQ,aG] (jV (·-·) 1))
 (cF:aco P w K mg base) (gX:acp P w K mg base) (kO:Dn P w K mg base 2 "smallest" [ir] Cy):bh P w K mg base dm 4 f fd [aZ,cV,aO] JM:=by
 refine F.eU bN λcdv A outer s H vs Q E hr h=>?_
 obtain ⟨l,pb,es,i,n,nb,β,rfl,hl,hR,hS,d9,hi,kR,hb,hn,hnb,k⟩:=h
 obtain ⟨xi,gi,fi⟩:=dG hR hS hi
 apply bF ⟨_,(ah (aL 3 bN.nd (bO (gU K) 0#h 0#n 0#g)) (ah (aL 4 bN.nd (dO gH)) (ah (aL 5 bN.nd fU) (ah (aL 6 bN.nd fU) (ah (iP gR rfl (xJ rfl T.range (bL (aF bB 0#n au) (fj K T.i7 0#h))) (cB (i:=7) bN.nd rfl 0#k) (ah (aL 8 bN.nd (aH K (bO (gU K) 0#h (aa 7) 0#g))) (ah (aL 9 bN.nd (aH K (bO (gU K) 0#h (aa 7) 0#g))) (ah (aL 10 bN.nd (bZ cF hr 0#A (bO (gU K) 0#h (aa 7) 0#g))) (ah (aL 11 bN.nd (bZ cF hr 0#A (bW (bL (aa 8) (bZ aY hr (aa 9) 0#q))))) (ah (aL 12 bN.nd (bZ cF hr 0#A (bW (bL (aa 8) (bZ cu hr (aa 9) 0#q))))) (ah (cy (bD tS (aa 5) fU 0#K) (ah (aL 5 bN.nd (aa 11)) (ah (aL 6 bN.nd (aa 12)) (ah (fm (ia K (aa 4) (aa 7)) (hs:=eK)) (aD Jd.tU)))) cG) (ah (cy (Jd.BE (Jd.oq (bD GP (bZ dI hr (aa 5) (aa 10)) au 0#K) (Jd.lJ (bD GP (bZ dI hr (aa 10) (aa 6)) au 0#K)))) (aD (fm (ia K (aa 4) (aa 7)) (hs:=eK))) cG) (ah (aL 5 bN.nd (Jd.c1 gX hr (dO (bL (aa 5) (aa 11))))) (aD (aL 6 bN.nd (Jd.c1 kO hr (dO (bL (aa 6) (aa 12))))))))))))))) (aD (aX (aa 4)))))))),?_⟩
 apply dg hl (fB gi rfl) ?_
 apply aC (mk:=.lst) 0#d λR H1 s1 n1 e1=>?_
 apply fq (qZ ?_)
 refine dW (.inl (bq.of (s1 _ _ hl))) ?_
 rw [aT]
 rw?
 refine ⟨_,_,rfl,⟨by lia,by lia,by lia,by lia⟩,dc (λm σ H3=>Xs9 λ(js:List Nat) (gv sv:V) (v7 v8 v9 v10 v11 TR:Option V)=>σ=[some 0#O,some (.int i),some (.ref pb),some (.ref xi.1),some (.ref R),some gv,some sv,v7,v8,v9,v10,v11,TR] ∧
  ao H H3∧H3 R=some (.lst (gM js))∧js.length≤m∧(∀j,j∈js↔i<j∧j<i+1+m∧Good es β i j)∧((m=0∧gv=.bK)∨(0<m∧∃(pg ps:aq) (G S:Rat),gv=.ref pg∧sv=.ref ps∧b8 H3 pg G (3*n+nb+3)∧b8 H3 ps S (3*n+nb+3) ∧
   (∀k,i<k→k<i+1+m→jx es β i k≤G∧S≤gE es β i k)∧(∃k,i<k∧k<i+1+m∧jx es β i k=G)∧∃k,i<k∧k<i+1+m∧gE es β i k=S))) ?_ ?_ ?_⟩
 ·exact ⟨[],.bK,.bK,none,none,none,none,none,none,rfl,s1,e1,lX _,λj=>⟨λz=>absurd z 0#d,λz=>absurd z 0#c⟩,.inl 0#U⟩
 ·rintro m σ H3 hm ⟨js,gv,sv,v7,v8,v9,v10,v11,TR,rfl,s3,e3,hlen,XQ,hI⟩
  refine c8 λM Bk RR hM _ _=>?_
  have hp:i+1+m<es.length:=by try?
  obtain ⟨xp,gp,fp⟩:=dG (hR.up s3) hS hp
  obtain ⟨vp,ep,fvp,ztp⟩:=id fp
  have ht:=iC d9 (show i<i+1+m by try?) hp
  have hl3:=s3 _ _ hl
  rw?
  apply dg hl3 (fB gp 0#c) ?_
  apply dg hl3 (fB gp 0#c) ?_
  apply dg hl3 (fB gp 0#c) ?_
  apply ⟨xi.1,xp.1,_,_,_,_,n,n,n,rfl,(fi.up s3).saq,fp.saq,ht,by try?,λps4 H4 s4 f4=>?_⟩
  apply ⟨vp,pb,_,_,n,nb,rfl,(fvp.up s4).qt,hb.up 0#N,by try?,λy5 H5 s5 f5=>?_⟩
  refine aC (mk:=.tup) 0#d λy6 H6 s6 n6 e6=>?_
  have s36:=s4.trans (s5.trans s6)
  apply ⟨xi.1,y6,_,_,_,_,n,n+nb+1,n,rfl,(fi.up (s3.trans s36)).saq,⟨y5,e6,f5.up s6,ztp⟩,ht,by try?,λpg7 H7 s7 f7=>?_⟩
  have s37:=s36.trans s7
  apply ⟨vp,pb,_,_,n,nb,rfl,(fvp.up s37).qt,hb.up (s3.trans s37),by try?,λy8 H8 s8 f8=>?_⟩
  refine aC (mk:=.tup) 0#d λy9 H9 s9 n9 e9=>?_
  have s39:=s37.trans (s8.trans s9)
  refine ⟨xi.1,y9,_,_,_,_,n,n+nb+1,n,rfl,(fi.up (s3.trans s39)).saq,⟨y8,e9,f8.up s9,ztp⟩,ht,by try?,λOv xg rf f10=>?_⟩
  have F0:=s39.trans rf
  have V0:=s8.trans (s9.trans rf)
  have Gw:=F0 _ _ e3
  have adp:b8 xg pg7 (jx es β i (i+1+m)) (3*n+nb+3):=(f7.up V0).mono 0#c
  have UN:b8 xg Ov (gE es β i (i+1+m)) (3*n+nb+3):=f10.mono 0#c
  have af4:b8 xg ps4 (slo es i (i+1+m)) (3*n+2):=(f4.up ((s5.trans (s6.trans s7)).trans V0)).mono 0#c
  have af5:((i:Int)+1+(m:Int))=((i+1+m:Nat):Int):=by try?
  rw?
  rcases hI with ⟨rfl,rfl⟩ | ⟨hm0,pg,ps,G,S,rfl,rfl,hG,hS2,hall,ae2,ae3⟩
  ·apply 0#F
   apply cI ?_
   apply ⟨.inl ⟨rfl,_,bq.of Gw⟩,?_⟩
   rw [af5]
   apply cM Gw (by rw [jT];exact aN 0#c) ?_
   refine hM _ _ ⟨js++[i+1+0],_,_,_,_,_,_,_,_,rfl,bf (s3.trans F0) n1,by rw [av,← qU],by rw [fh];show js.length+1≤1;try?,λj=>?_,.inr ⟨by try?,pg7,Ov,_,_,rfl,rfl,adp.app Gw,UN.app Gw,λk h1 h2=>?_,⟨i+1+0,by try?,by try?,rfl⟩,⟨i+1+0,by try?,by try?,rfl⟩⟩⟩
   ·have hj0:js=[]:=G5.mp 0#c
    rw [hj0]
    constructor
    ·intro z
     obtain rfl:j=i+1+0:=by simpa using z
     exact ⟨by try?,by try?,λk h1 h2=>by try?⟩
    ·rintro ⟨h1,h2,_⟩
     have:j=i+1+0:=by try?
     simp [this]
   ·obtain rfl:k=i+1+0:=by try?
    exact ⟨qz,qz⟩
  ·apply 0#F
   refine bR ?_
   have hgood:∀{P:Prop},(G≤slo es i (i+1+m)∧slo es i (i+1+m)≤S)=P→(Good es β i (i+1+m)↔P):=λe=>by
    rw [← e]
    constructor
    ·intro g
     obtain ⟨k1,a1,b1,c1⟩:=ae2
     obtain ⟨k2,a2,b2,c2⟩:=ae3
     exact ⟨by rw [← c1];exact ((C2 d9 a1 b1 hp).mp (g k1 a1 b1)).1,by rw [← c2];exact ((C2 d9 a2 b2 hp).mp (g k2 a2 b2)).2⟩
    ·rintro ⟨g1,g2⟩ k h1 h2
     obtain ⟨l1,l2⟩:=hall k h1 h2
     exact (C2 d9 h1 h2 hp).mpr ⟨by grind,by grind⟩
   have keep:¬Good es β i (i+1+m)→∀j,j∈js↔i<j∧j<i+1+(m+1)∧Good es β i j:=λng j=>by
    rw [XQ j]
    constructor
    ·rintro ⟨a,b,c⟩
     exact ⟨a,by try?,c⟩
    ·rintro ⟨a,b,c⟩
     refine ⟨a,?_,c⟩
     by_cases hj:j=i+1+m
     ·subst hj
      exact absurd c ng
     ·try?
   have more:Good es β i (i+1+m)→∀j,j∈js++[i+1+m]↔i<j∧j<i+1+(m+1)∧Good es β i j:=λg j=>by
    rw [fK,XQ j,WW]
    constructor
    ·rintro (⟨a,b,c⟩ | rfl)
     ·exact ⟨a,by try?,c⟩
     ·exact ⟨by try?,by try?,g⟩
    ·rintro ⟨a,b,c⟩
     by_cases hj:j=i+1+m
     ·exact .inr hj
     ·exact .inl ⟨a,by try?,c⟩
   with_reducible refine VP ?_
   with_reducible refine jH (λσ' H'=>∃TF:List Nat,σ'=[some 0#O,some (.int (i:Int)),some (.ref pb),some (.ref xi.1),some (.ref R),some (.ref pg),some (.ref ps),some (.int ((i:Int)+1+(m:Int))),some (.int (mo es (i+1+m))),some (.ref vp),some (.ref ps4),some (.ref pg7),some (.ref Ov)]∧ao H H'∧(∀{p:aq} {q:Rat},b8 xg p q (3*n+nb+3)→b8 H' p q (3*n+nb+3))∧H' R=some (.lst (gM TF))∧TF.length≤m+1∧∀j,j∈TF↔i<j∧j<i+1+(m+1)∧Good es β i j) (λσ' H' hP=>?_) (λN hN=>?_)
   rotate_left
   ·rw?
    refine ⟨pg,ps4,_,_,_,_,rfl,hG.up F0,af4,by try?,λo Tw ho2=>?_⟩
    have no:¬Good es β i (i+1+m)→N _ xg:=λng=>hN _ _ ⟨js,rfl,s3.trans F0,λf=>f,Gw,by try?,keep ng⟩
    rw?
    refine c6 0#J 0#J
    ·have vU:G≤slo es i (i+1+m):=kB.mp λz=>by
      have:=Tw.mpr z
      have:=dM c1
      try?
     rw?
     apply ⟨ps4,ps,_,_,_,_,rfl,af4,hS2.up F0,by try?,λo2 ho3 ho4=>?_⟩
     refine c6 (λc2=>?_) (λc2=>?_)
     ·have c2':slo es i (i+1+m)≤S:=kB.mp λz=>by
       have:=ho3.mpr z
       have:=dM c2
       try?
      rw?
      apply ⟨.inl ⟨rfl,_,bq.of Gw⟩,?_⟩
      refine cM Gw (by rw [jT];exact aN 0#c) ?_
      exact hN _ _ ⟨js++[i+1+m],rfl,bf (s3.trans F0) n1,λf=>f.app Gw,by rw [av,af5,← qU],by rw [fh];show js.length+1≤m+1;try?,more ((hgood rfl).mpr ⟨vU,c2'⟩)⟩
     ·rw?
      refine no λg=>?_
      have h1:¬0<o2:=λq=>by
       have:=ho3.mp q
       have:=((hgood rfl).mp g).2
       grind
      have h2:=jO (jr.mpr c2)
      try?
    ·apply bR ?_
     refine no λg=>?_
     have h1:¬0<o:=λq=>by
      have:=Tw.mp q
      have:=((hgood rfl).mp g).1
      grind
     have h2:=jO (jr.mpr c1)
     try?
   obtain ⟨TF,rfl,sH,lq,eR',hl',ahy⟩:=hP
   rw?
   apply aC (mk:=.lst) 0#d λl12 H12 s12 n12 e12=>?_
   refine ⟨l12,[(pg,G),(pg7,jx es β i (i+1+m))],3*n+nb+3,rfl,e12,λx hx=>?_,by try?,MA _,λx hx xG=>?_⟩
   ·rcases (show x=(pg,G)∨x=(pg7,jx es β i (i+1+m)) by simpa using hx) with rfl | rfl
    ·exact (lq (hG.up F0)).up s12
    ·exact (lq adp).up s12
   rw?
   apply aC (mk:=.lst) 0#d λl13 TU xh n13 Tu=>?_
   refine ⟨l13,[(ps,S),(Ov,gE es β i (i+1+m))],3*n+nb+3,rfl,Tu,λy hy=>?_,by try?,MA _,λy hy hmin=>?_⟩
   ·rcases (show y=(ps,S)∨y=(Ov,gE es β i (i+1+m)) by simpa using hy) with rfl | rfl
    ·exact (lq (hS2.up F0)).up (s12.trans xh)
    ·exact (lq UN).up (s12.trans xh)
   rw?
   have vD:=s12.trans xh
   have hx':(x=(pg,G)∨x=(pg7,jx es β i (i+1+m))):=by simpa using hx
   have hy':(y=(ps,S)∨y=(Ov,gE es β i (i+1+m))):=by simpa using hy
   have x1:=xG (pg,G) 0#d
   have x2:=xG (pg7,jx es β i (i+1+m)) 0#d
   have y1:=hmin (ps,S) 0#d
   have y2:=hmin (Ov,gE es β i (i+1+m)) 0#d
   refine hM _ _ ⟨TF,_,_,_,_,_,_,_,_,rfl,sH.trans vD,vD _ _ eR',hl',ahy,.inr ⟨by try?,x.1,y.1,x.2,y.2,rfl,rfl,?_,?_,λk h1 h2=>?_,?_,?_⟩⟩
   ·rcases hx' with rfl | rfl
    ·exact (lq (hG.up F0)).up vD
    ·exact (lq adp).up vD
   ·rcases hy' with rfl | rfl
    ·exact (lq (hS2.up F0)).up vD
    ·exact (lq UN).up vD
   ·by_cases hk:k=i+1+m
    ·subst hk
     exact ⟨x2,y2⟩
    ·obtain ⟨l1,l2⟩:=hall k h1 0#c
     exact ⟨vH l1 x1,vH y1 l2⟩
   ·rcases hx' with rfl | rfl
    ·obtain ⟨k1,a1,b1,c1⟩:=ae2
     exact ⟨k1,a1,by try?,c1⟩
    ·exact ⟨i+1+m,by try?,by try?,rfl⟩
   ·rcases hy' with rfl | rfl
    ·obtain ⟨k1,a1,b1,c1⟩:=ae3
     exact ⟨k1,a1,by try?,c1⟩
    ·exact ⟨i+1+m,by try?,by try?,rfl⟩
 ·rintro σ H3 ⟨js,gv,sv,v7,v8,v9,v10,v11,TR,rfl,s3,e3,hlen,XQ,hI⟩
  rw?
  have hjl:js.length≤es.length:=by
   clear hI XQ
   try?
  refine k R js H3 s3 n1 e3 hjl λj=>?_
  rw [XQ j]
  have e:i+1+((es.length:Int)-((i:Int)+1)).toNat=es.length:=by
   clear hI XQ
   try?
  rw [e]
theorem yh:fz 3 [aZ,aO,"tied",dN,cV,"good"] Jw:=0#a
theorem Vo (F:fO K "leaps" Jw f fd) (T:Txt mg) (pG:Dn P w K mg base 4 "good_behind" [aZ,cV,aO] JM):bh P w K mg base dm 5 f fd [aZ,aO,"tied"] JO:=by
 refine F.eU yh λcdv A outer s H vs Q E hr h=>?_
 obtain ⟨l,pb,es,n,nb,β,aI,rfl,hl,hR,hS,d9,kR,hb,hn,hnb,k⟩:=h
 apply bF ⟨_,(ah (aL 3 yh.nd (dO gH)) (ah (iP gR rfl (xH rfl T.range (dZ (fj K T.i7 0#h))) (cB (i:=4) yh.nd rfl 0#k) (ah (aL 5 yh.nd (Jd.c3 pG hr 0#h (aa 4) 0#n)) (aD (fm (ia K 0#A (vA (qf 0#q) (aa 5) (aF z6 (dO (dZ (aF bB (aa 4) au))) (oW (O:=[cY]) (N':=[]) (cap:=[]) rfl (eE K (aa 5)) (λ_ _ _ _ _=>(cB (i:=0) (show kD [("last":Str)] by decide +kernel) rfl 0#k)) (λ_ _ _ _ _=>oX) (λ_ _ _ _ _=>(aF bB 0#h au)) rfl trivial rfl 0#e rfl 0#e)))) (hs:=eK))))) (aD (aX 0#A)))),?_⟩
 apply aC (mk:=.lst) 0#d λFF H1 s1 n1 e1=>?_
 apply fq (tV ?_)
 refine dW (.inl (bq.of (s1 _ _ hl))) ?_
 rw [aT]
 rw?
 refine ⟨_,rfl,by lia,by lia,dc (λm σ H3=>Py λ(rs:List (aq×List Nat)) (v4 v5:Option V)=>σ=[some 0#O,some (.ref pb),some (.bl aI),some (.ref FF),v4,v5]∧ao H H3∧TY H3 FF rs∧rs.length=m∧CK es β aI rs) ?_ ?_ ?_⟩
 ·exact ⟨[],none,none,rfl,s1,⟨e1,λx hx=>absurd hx 0#d⟩,rfl,λi x hx=>by simp at hx⟩
 ·rintro m σ H3 hm ⟨rs,v4,v5,rfl,s3,hL,hlen,hle⟩
  have hm':m<es.length:=by try?
  rw [show (0:Int)+(m:Int)=(m:Int) by try?]
  rw?
  refine ⟨l,pb,es,m,n,nb,β,rfl,s3 _ _ hl,hR.up s3,hS,d9,hm',kR,hb.up s3,hn,hnb,λR js H4 s4 nR eR hjl XQ=>?_⟩
  have Cg:=hL.up s4
  have nRF:R≠FF:=λz=>by
   rw [z,hL.at_] at nR
   cases nR
  have small:(rs.map λx=>V.ref x.1).length<sizeLine:=by rw [gI];exact aN 0#c
    -- one list more
  have fin:∀(R':aq) (TF:List Nat) (H5:Hp) (v4 v5:Option V),ao H4 H5→H5 R'=some (.lst (gM TF))→R'≠FF→TF.length≤es.length+1→(∀j,j∈TF↔jX es β aI m j) →
   Py λ(rs':List (aq×List Nat)) (w4 w5:Option V)=>[some 0#O,some (.ref pb),some (.bl aI),some (.ref FF),v4,v5]=[some 0#O,some (.ref pb),some (.bl aI),some (.ref FF),w4,w5]∧ao H (upd H5 FF (.lst (rs.map (λx=>V.ref x.1)++[.ref R'])))∧TY (upd H5 FF (.lst (rs.map (λx=>V.ref x.1)++[.ref R']))) FF rs'∧rs'.length=m+1∧CK es β aI rs':=by
   intro R' TF H5 v4 v5 s5 eR' nR' hl' hj'
   refine ⟨rs++[(R',TF)],v4,v5,rfl,bf ((s3.trans s4).trans s5) n1,(Cg.up s5).push eR' nR',by rw [fh,hlen];rfl,λi x hx=>?_⟩
   by_cases hi:i<rs.length
   ·rw [vn hi] at hx
    exact hle i x hx
   ·rw [yR 0#c] at hx
    have hi2:i-rs.length=0:=by
     have:=(nH.mp hx).1
     simp at this
     try?
    rw [hi2] at hx
    obtain rfl:(R',TF)=x:=by simpa using hx
    have:i=m:=by try?
    subst this
    exact ⟨hl',hj'⟩
  rw?
  apply ⟨.inl ⟨rfl,_,bq.of Cg.at_⟩,?_⟩
  cases aI with
  | true=>
    apply cI ?_
    refine cM Cg.at_ small ?_
    exact fin R js H4 _ _ 0#t eR nRF 0#c λj=>by
     unfold jX
     rw [if_pos rfl]
     exact XQ j
  | false=>
    apply bR ?_
    apply aC (mk:=.lst) 0#d λl5 H5 s5 n5 e5=>?_
    apply jb ?_
    refine ⟨R,rfl,⟨_,bq.of (s5 _ _ eR)⟩,?_⟩
    refine c9 (xs:=gM js) cC (λH6 s6=>bq.of (s6 _ _ (s5 _ _ eR))) (by rw [jT];try?) (λi ys G=>ys=gM ((js.take i).map (·+1))) rfl ?_ ?_
    ·rintro D i x ys H6 lF N N0 h0 hD eD s6 hx hy rfl kY kN
     obtain ⟨j,gj,rfl⟩:=Lo hx
     have tk:js.take (i+1)=js.take i++[j]:=by rw [sC,gj];rfl
     apply ic h0 ?_
     apply cI ?_
     refine kY _ H6 0#t ?_
     rw [tk,jD]
     exact qU _ (j+1)
    ·rintro D ys H6 hD eD s6 hy rfl
     rw [jT,jt] at eD
     refine GX (s6 _ _ e5) eD ?_
     refine aC (mk:=.lst) (by rw [fh,jT,gI];simp;try?) λR7 H7 s7 n7 e7=>?_
     have s47:=s5.trans (s6.trans s7)
     have e7':H7 R7=some (.lst (gM ((m+1)::js.map (·+1)))):=e7
     rw?
     refine cM (Cg.up s47).at_ small ?_
     refine fin R7 ((m+1)::js.map (·+1)) H7 _ _ s47 e7' (λz=>?_) (by simp;try?) λj=>?_
     ·rw [z,((Cg.up s5).up s6).at_] at n7
      cases n7
     ·unfold jX
      rw [if_neg fQ,pZ,jB]
      constructor
      ·rintro (rfl | ⟨j',hj',rfl⟩)
       ·exact ⟨hm',.inl rfl⟩
       ·obtain ⟨a,b,c⟩:=(XQ j').mp hj'
        exact ⟨hm',.inr ⟨by try?,by try?,c⟩⟩
      ·rintro ⟨_,rfl | ⟨a,b,c⟩⟩
       ·exact .inl rfl
       ·exact .inr ⟨j-1,(XQ (j-1)).mpr ⟨by try?,by try?,c⟩,by try?⟩
 ·rintro σ H3 ⟨rs,v4,v5,rfl,s3,hL,hlen,hle⟩
  rw?
  exact k FF rs H3 s3 n1 hL 0#c hle
theorem af9 (N:Nat) (h:1≤N):[V.int 0]++(lW ((N:Int)-1).toNat [V.int (N:Int)]).flatten=jf N (λj=>if j=0 then 0 else (N:Int)):=by
 obtain ⟨m,rfl⟩:∃m,N=m+1:=⟨N-1,by try?⟩
 have e:(((m+1:Nat):Int)-1).toNat=m:=by try?
 rw [e]
 unfold jf
 first|exact Ri|refine Ri ?_|refine Ri ?_ ?_
 intro i
 by_cases hi:i<m+1
 ·rw [xQ hi]
  cases i with
  | zero=>rfl
  | succ i=>
    show ((lW m [V.int ((m+1:Nat):Int)]).flatten)[i]?=_
    rw [show (lW m [V.int ((m+1:Nat):Int)]).flatten=lW m (V.int ((m+1:Nat):Int)) from List.flatten_replicate_singleton]
    rw [WI,if_pos 0#c]
    rfl
 ·rw [Q9 (by rw [fh,len_rep];simp;try?),Q9 (by simp;try?)]
theorem ki:fz 2 [dN,"many","told",cV,"behind",cY] t8:=0#a
theorem IG (F:fO K "labels_by" t8 f fd) (T:Txt mg):bh P w K mg base dm 1 f fd [dN,"many"] Cw:=by
 refine F.eU ki λcdv A outer s H vs Q E hr h=>?_
 obtain ⟨FF,rs,N,L,rfl,hF,h1,kR,hNr,hrN,hrs,ac1,hs,k⟩:=h
 apply bF ⟨_,(ah (aL 2 ki.nd (aF z6 (dO (dZ au)) (aF Oe (dO (dZ 0#n)) (aF bT 0#n au)))) (ah (iP gR rfl (Jd.Cp K rfl T.CY (dZ 0#h)) (Jd.TH K (n:=2) rfl (iH (cB (i:=3) ki.nd rfl 0#k) (iH (cB (i:=4) ki.nd rfl 0#k) tK))) (aD (iP gR rfl (eE K (aa 4)) (cB (i:=5) ki.nd rfl 0#k) (aD (Jd.Af (iz (ads rfl) rfl T.Y8 Q8 (bL (bO (gU K) 0#q (aa 5) 0#g) (aF bB (bO (gU K) 0#q 0#A 0#g) au)) (he:=EF) (hpl:=(cO J1 cR))) (Jd.Ot 0#q (aa 5) set_list)))))) (aD (aX 0#q)))),?_⟩
 apply aC (mk:=.lst) 0#d λl1 H1 s1 n1 e1=>?_
 apply aC (mk:=.lst) 0#d λl2 H2 s2 n2 e2=>?_
 refine VR e2 0#b 0#b ?_
 apply aC (mk:=.lst) (by rw [len_rep];simp;try?) λl3 H3 s3 n3 e3=>?_
 refine GX (s3 _ _ (s2 _ _ e1)) e3 ?_
 refine aC (mk:=.lst) (by rw [fh,len_rep];simp;try?) λR H4 s4 n4 e4=>?_
 rw [af9 N h1] at e4
 have qu:=s1.trans (s2.trans s3)
 have nR:H R=none:=qu.free n4
 have Ai:=qu.trans s4
 rw?
 apply fq (VO ?_)
 refine ⟨FF,_,rfl,bq.of (hF.up Ai).at_,Uz (xs:=rs.map λx=>V.ref x.1) (λg σ H5=>XE λ(t:Nat→Int) (v3 v4 v5:Option V)=>σ=[some (.ref FF),some (.int (N:Int)),some (.ref R),v3,v4,v5]∧ao H H5∧H5 R=some (.lst (jf N t))∧qP L N g t) ?_ ?_ ?_ ?_⟩
 ·exact ⟨_,none,none,none,rfl,Ai,e4,qP.start⟩
 ·rintro g σ H5 _ ⟨t,v3,v4,v5,rfl,s5,_⟩
  exact bq.of (hF.up s5).at_
 ·rintro g v σ H5 p H6 hx ⟨t,v3,v4,v5,rfl,s5,e5,hT⟩ s6 np ep
  rw [kE] at hx
  obtain ⟨x,gx,rfl⟩:=Ka.mp hx
  have hg:g<rs.length:=(nH.mp gx).1
  have hgN:g<N:=by try?
  have XR:=hrs g x gx
  have ex:=(hF.each x (mT gx)).1
  have E9:=s5.trans s6
  have tf0:=hT.lo g hgN
  have tf1:=hT.hi g hgN
  apply nG ep ?_
  apply fq (jb ?_)
  refine ⟨x.1,rfl,⟨_,bq.of (E9 _ _ ex)⟩,d8 (xs:=gM x.2) (λm σ H7=>RM λ(u:Nat→Int) (w5:Option V)=>σ=[some (.ref FF),some (.int (N:Int)),some (.ref R),some (.int (g:Int)),some (.ref x.1),w5]∧ao H H7∧H7 R=some (.lst (jf N u)) ∧
   ∀j,j<N→(j∈x.2.take m→u j=if t g+1<t j then t g+1 else t j)∧(j∉x.2.take m→u j=t j)) ?_ ?_ ?_ ?_⟩
  ·exact ⟨t,_,rfl,E9,s6 _ _ e5,λj _=>⟨λz=>by simp at z,λ_=>rfl⟩⟩
  ·rintro m σ H7 _ ⟨u,w5,rfl,s7,_⟩
   exact bq.of (s7 _ _ ex)
  ·rintro m v σ H7 hv ⟨u,w5,rfl,s7,e7,hu⟩
   obtain ⟨j,gj,rfl⟩:=Lo hv
   have hj:=(XR j).mp (mT gj)
   obtain ⟨hgj,hjN⟩:=ac1 g j hj
   have tk:x.2.take (m+1)=x.2.take m++[j]:=by rw [sC,gj];rfl
   have ng:g∉x.2.take m:=λz=>by
    have:=ac1 g g ((XR g).mp (Mp z))
    try?
   have ug:=(hu g hgN).2 ng
   rw?
   apply QK ?_
   apply dg e7 (nV hjN rfl) ?_
   apply dg e7 (nV hgN rfl) ?_
   refine ad1 e7 (j:=j) (by rw [nE];exact UZ 0#c 0#c) ?_
   refine ⟨λi=>if i=j then (if u g+1<u j then u g+1 else u j) else u i,_,rfl,bf s7 nR,?_,λi hi=>?_⟩
   ·rw [av]
    unfold jf
    rw [FG]
    refine congrArg (λz=>some (HO.lst z)) (WS λi _=>?_)
    by_cases e:i=j
    ·simp [e]
    ·simp [e]
   ·rw [tk,ug]
    obtain ⟨hu1,hu2⟩:=hu i hi
    refine ⟨λz=>?_,λz=>?_⟩
    ·by_cases e:i=j
     ·subst e
      show (if i=i then _ else _)=_
      rw [if_pos rfl]
      by_cases hm:i∈x.2.take m
      ·rw [hu1 hm]
       by_cases q:t g+1<t i
       ·rw [if_pos q,if_neg 0#c]
       ·rw [if_neg q,if_neg q]
      ·rw [hu2 hm]
     ·show (if i=j then _ else _)=_
      rw [if_neg e]
      rcases fK.mp z with q | q
      ·exact hu1 q
      ·exact absurd (by simpa using q) e
    ·have e:i≠j:=λq=>z (by rw [q];simp)
     show (if i=j then _ else _)=_
     rw [if_neg e]
     exact hu2 λq=>z (G7 _ q)
  ·rintro σ H7 ⟨u,w5,rfl,s7,e7,hu⟩
   rw [jT,jt] at hu
   refine ⟨u,_,_,_,rfl,s7,e7,hT.step (λj hj=>(ac1 g j hj).1) (λj hj=>⟨λz=>(hu j hj).1 ((XR j).mpr z),λz=>(hu j hj).2 λq=>z ((XR j).mp q)⟩) hgN⟩
 ·rintro σ H5 ⟨t,v3,v4,v5,rfl,s5,e5,hT⟩
  rw [gI] at hT
  rw?
  exact k R t H5 s5 nR e5 (hT.done hs 0#c)
theorem SD {b:Int} (h:es.map (·.2)=hs.map (λx=>c7 b x.2))  (hb:1≤b) (d9:fP hs) (hij:i≤j) (hj:j<hs.length) :
 (∀k,i<k→k<j→((zQ hs i k j).natAbs:Int)≤c*(iJ hs j-iJ hs i))↔Good es 0#y i j:=by
 unfold Good
 by_cases e:i=j
 ·subst e
  exact ⟨λ_ k h1 h2=>by try?,λ_ k h1 h2=>by try?⟩
 ·have ht:=NY d9 (show i<j by try?) hj
  have hp:=cast_pos (b:=(iJ hs j-iJ hs i)*b) (yN 0#c 0#c)
  have hb':=eS (b:=b) 0#c
  have one:∀k,((zQ hs i k j).natAbs:Int)≤c*(iJ hs j-iJ hs i)↔dP (sd es i k j)≤(c:Rat)/(b:Rat):=λk=>by
   have e1:0#y*(((iJ hs j-iJ hs i)*b:Int):Rat)=((c*(iJ hs j-iJ hs i):Int):Rat):=by
    simp only [sD,sF]
    grind
   rw [← Mi,U4 h hb ht,← e1]
   constructor
   ·intro z
    exact QY z hp
   ·intro z
    exact AM z 0#B
  exact ⟨λz k h1 h2=>(one k).mp (z k h1 h2),λz k h1 h2=>(one k).mpr (z k h1 h2)⟩
def bS (aI:Bool):Nat:=if aI=true then 0 else 1
theorem GI (hk:k<a) (ha:a<es.length+bS aI):jX es β aI k a↔Good es β k (a-bS aI):=by
 unfold jX bS at *
 cases aI with
 | true=>
   rw [if_pos rfl] at ha ⊢
   rw [if_pos rfl]
   exact ⟨λz=>z.2.2,λz=>⟨hk,by try?,z⟩⟩
 | false=>
   rw [if_neg fQ] at ha ⊢
   rw [if_neg fQ]
   constructor
   ·rintro ⟨_,rfl | ⟨_,_,g⟩⟩
    ·exact λk' h1 h2=>by try?
    ·exact g
   ·intro g
    refine ⟨by try?,?_⟩
    by_cases e:a=k+1
    ·exact .inl e
    ·exact .inr ⟨by try?,by try?,g⟩
def YY {α:Type} (c:Nat→Nat→Bool) (v:Nat→Nat→α) (i m:Nat):List α:=((gD m).filter λq=>c i (i+1+q)).map λq=>v i (i+1+q)
def Ii {α:Type} (c:Nat→Nat→Bool) (v:Nat→Nat→α) (N n:Nat):List α:=(gD n).flatMap λi=>YY c v i (N-(i+1))
theorem Lg (c:Nat→Nat→Bool) (v:Nat→Nat→α) (i m:Nat):YY c v i (m+1)=YY c v i m++(if c i (i+1+m)=true then [v i (i+1+m)] else []):=by
 unfold YY
 rw [AQ,Ca,jD]
 congr 1
 by_cases h:c i (i+1+m)=true
 ·simp [h]
 ·simp [h]
theorem GG (c:Nat→Nat→Bool) (v:Nat→Nat→α) (N n:Nat):Ii c v N (n+1)=Ii c v N n++YY c v n (N-(n+1)):=by
 unfold Ii
 rw [AQ,aaV]
 simp
theorem Qk (c:Nat→Nat→Bool) (v:Nat→Nat→α) (i m:Nat):(YY c v i m).length≤m:=by
 unfold YY
 rw [gI]
 exact dR (Mm ..) 0#d
theorem Lh (c:Nat→Nat→Bool) (v:Nat→Nat→α) (N:Nat):∀n,(Ii c v N n).length≤n*N
 | 0=>by simp [Ii]
 | n+1=>by
   rw [GG,fh]
   have h1:=Lh c v N n
   have h2:=Qk c v n (N-(n+1))
   have e:(n+1)*N=n*N+N:=by rw [Xr,Xs]
   try?
open Classical in
def Uv (s:Nat→Rat) (i j:Nat):Nat:=if h:∃k,kH s i j k then Classical.choose h else 0
theorem Uw (h:kH s i j k):Uv s i j=k:=by
 unfold Uv
 rw [dif_pos ⟨k,h⟩]
 exact (Classical.choose_spec (⟨k,h⟩:∃k,kH s i j k)).unique h
def jmp (t:Nat→Int) (i j:Nat):Bool:=decide (t j>t i+1)
def three (es:List En) (sh i j:Nat):Int×Int×Int:=(mo es i,mo es (Uv (λk=>dP (sd es i k (j-sh))) i (j-sh)),mo es (j-sh))
abbrev Th:=aq×Int×Int×Int
def aew (H:Hp) (x:Th):Prop:=H x.1=some (.tup [.int x.2.1,.int x.2.2.1,.int x.2.2.2])
def rM (ts:List Th):List V:=ts.map λx=>V.ref x.1
theorem L8 (ts:List Th) (x:Th):rM ts++[.ref x.1]=rM (ts++[x]):=by simp [rM]
theorem Pe (ts:List Th):(rM ts).length=ts.length:=gI ..
def xm (H:Hp) (ts:List Th):Prop:=∀x∈ts,aew H x
theorem xm.up (h:xm H ts) (s:ao H H'):xm H' ts:=λx hx=>s _ _ (h x hx)
theorem xm.app (f:xm H ts) (h:H R=some (.lst ys)):xm (upd H R o) ts:=λx hx=>(vC R H o) _ _ (gA h (f x hx))
theorem xm.snoc (h:xm H ts) (hx:aew H x):xm H (ts++[x]):=λy hy=>by
 rcases fK.mp hy with z | z
 ·exact h y z
 ·obtain rfl:y=x:=by simpa using z
  exact hx
inductive Ef (vs:List V) (H:Hp) (Q:VK) (E_:XK):Prop where
 | mk (l T:aq) (es:List En) (n:Nat) (β:Rat) (aI:Bool) (t:Nat→Int):vs=[.ref l,.ref T,.bl aI]→H l=some 0#s→Row H es n→iK es→rising es→1≤es.length→es.length≤30→n≤900→H T=some (.lst (jf (es.length+bS aI) t))→qO (jX es β aI) (es.length+bS aI) t→(∀(R:aq) (ts:List Th) (H':Hp),ao H H'→H R=none→H' R=some (.lst (rM ts))→xm H' ts→ts.map (·.2)=Ii (jmp t) (three es (bS aI)) (es.length+bS aI) (es.length+bS aI)→Q (.ref R) H')→Ef vs H Q E_
theorem U0 (hF:qO (jX es β aI) (es.length+bS aI) t) (hij:i<j) (hj:j<es.length+bS aI) (aiH:t j>t i+1):i+1<j-bS aI∧j-bS aI<es.length∧∃k,i<k∧k<j-bS aI∧β<dP (sd es i k (j-bS aI)):=by
 have hsh:bS aI≤1:=by unfold bS;split <;> try?
 have nL:¬jX es β aI i j:=λz=>by
  have:=hF.le i j hij hj z
  try?
 rw [GI hij hj] at nL
 have:∃k,i<k∧k<j-bS aI∧β<dP (sd es i k (j-bS aI)):=by
  first|exact J9|refine J9 ?_|refine J9 ?_ ?_
  intro z
  first|exact nL|refine nL ?_|refine nL ?_ ?_
  intro k h1 h2
  first|exact kB.mp|refine kB.mp ?_|refine kB.mp ?_ ?_
  intro q
  exact z ⟨k,h1,h2,q⟩
 obtain ⟨k,h1,h2,h3⟩:=this
 exact ⟨by try?,by try?,k,h1,h2,h3⟩
theorem lz:fz 3 [aZ,"told","tied",dN,cV,cY,"end","mid"] Aj:=0#a
theorem N3 (F:fO K "bars_by" Aj f fd) (T:Txt mg) (kL:Dn P w K mg base 4 "loose_farthest" [aZ,cV,cY] O3):bh P w K mg base dm 5 f fd [aZ,"told","tied"] Ef:=by
 refine F.eU lz λcdv A outer s H vs Q E hr h=>?_
 obtain ⟨l,TT,es,n,β,aI,t,rfl,hl,hR,hS,d9,h1,h30,hn,eT,hF,k⟩:=h
 have hsh:bS aI≤1:=by unfold bS;split <;> try?
 generalize hN:es.length+bS aI=N at *
 apply bF ⟨_,(ah (aL 3 lz.nd (dO gH)) (ah (iP gR rfl (xH rfl T.range (dZ (fj K T.i7 0#n))) (cB (i:=4) lz.nd rfl 0#k) (aD (iP gR rfl (xJ rfl T.range (bL (aF bB (aa 4) au) (fj K T.i7 0#n))) (cB (i:=5) lz.nd rfl 0#k) (aD (cy (bD fM (bO (gU K) 0#n (aa 5) 0#g) (aF bB (bO (gU K) 0#n (aa 4) 0#g) au) 0#K) (ah (aL 6 lz.nd (vA (qf 0#q) (aa 5) (aF bT (aa 5) au))) (ah (aL 7 lz.nd (aH K (Jd.c3 kL hr 0#h (aa 4) (aa 6)))) (aD (fm (ia K 0#A (bW (Jd.a3 (aH K (bO (gU K) 0#h (aa 4) 0#g)) (aH K (bO (gU K) 0#h (aa 7) 0#g)) (aH K (bO (gU K) 0#h (aa 6) 0#g))))) (hs:=eK))))) cG))))) (aD (aX 0#A)))),?_⟩
 apply aC (mk:=.lst) 0#d λR H1 s1 n1 e1=>?_
 apply fq (tV ?_)
 refine dW (.inl (bq.of (s1 _ _ eT))) ?_
 rw [nE]
 rw?
 refine ⟨_,rfl,by lia,by lia,dc (λi σ H3=>Xs5 λ(ts:List Th) (v4 v5 v6 v7:Option V)=>σ=[some 0#O,some (.ref TT),some (.bl aI),some (.ref R),v4,v5,v6,v7]∧ao H H3∧H3 R=some (.lst (rM ts))∧xm H3 ts∧ts.map (·.2)=Ii (jmp t) (three es (bS aI)) N i) ?_ ?_ ?_⟩
 ·exact ⟨[],none,none,none,none,rfl,s1,e1,λx hx=>absurd hx 0#d,rfl⟩
 ·rintro i σ H3 hi ⟨ts,v4,v5,v6,v7,rfl,s3,e3,hts,hmap⟩
  refine c8 λM Bk RR hM _ _=>?_
  have hi':i<N:=by try?
  rw [show (0:Int)+(i:Int)=(i:Int) by try?]
  rw?
  apply fq (qZ ?_)
  refine dW (.inl (bq.of (s3 _ _ eT))) ?_
  rw [nE]
  rw?
  refine ⟨_,_,rfl,⟨by lia,by lia,by lia,by lia⟩,dc (λm σ H4=>XE λ(us:List Th) (w5 w6 w7:Option V)=>σ=[some 0#O,some (.ref TT),some (.bl aI),some (.ref R),some (.int (i:Int)),w5,w6,w7]∧ao H H4∧H4 R=some (.lst (rM us))∧xm H4 us∧us.map (·.2)=Ii (jmp t) (three es (bS aI)) N i++YY (jmp t) (three es (bS aI)) i m) ?_ ?_ ?_⟩
  ·exact ⟨ts,_,_,_,rfl,s3,e3,hts,by rw [hmap];simp [YY]⟩
  ·rintro m σ H4 hm ⟨us,w5,w6,w7,rfl,s4,e4,Ih,K8⟩
   refine c8 λM2 B2 R2 XM _ _=>?_
   have hp:i+1+m<N:=by try?
   rw [show (i:Int)+1+(m:Int)=((i+1+m:Nat):Int) by try?]
   have Up:=s4 _ _ eT
   have hl4:=s4 _ _ hl
   rw?
   apply dg Up (nV hp rfl) ?_
   apply dg Up (nV hi' rfl) ?_
   refine c6 0#J 0#J
   ·have vU:t (i+1+m)>t i+1:=dM c1
    obtain ⟨q1,q2,_⟩:=U0 (by rw [hN];exact hF) (show i<i+1+m by try?) (by rw [hN];exact hp) vU
    have hlen2:us.length≤950:=by
     have e:=congrArg oK K8
     rw [gI,fh] at e
     have j1:=Lh (jmp t) (three es (bS aI)) N i
     have j2:=Qk (jmp t) (three es (bS aI)) i m
     have:i*N≤29*31:=abD 0#c 0#c
     try?
    have done:∀(a b cc:Int) (y:aq) (H6:Hp) (w5 w6 w7:Option V),ao H4 H6→H6 y=some (.tup [.int a,.int b,.int cc])→(a,b,cc)=three es (bS aI) i (i+1+m) →
     M2 [some 0#O,some (.ref TT),some (.bl aI),some (.ref R),some (.int (i:Int)),w5,w6,w7] (upd H6 R (.lst (rM us++[.ref y]))):=by
     intro a b cc y H6 w5 w6 w7 s6 ey Yn
     refine XM _ _ ⟨us++[(y,a,b,cc)],w5,w6,w7,rfl,bf (s4.trans s6) n1,by rw [av];exact congrArg (λz=>some (HO.lst z)) (L8 us (y,a,b,cc)),(xm.snoc (x:=(y,a,b,cc)) (Ih.up s6) ey).app (s6 _ _ e4),?_⟩
     rw [jD,K8,Lg,if_pos (show jmp t i (i+1+m)=true from je vU),yS]
     congr 2
     show [(a,b,cc)]=_
     rw [Yn]
    obtain ⟨xi,gi,vi,ei,_⟩:=dG (hR.up s4) hS (show i<es.length by try?)
    obtain ⟨xj,gj,vj,ej,_⟩:=dG (hR.up s4) hS q2
    with_reducible refine jH (λσ' H'=>σ'=[some 0#O,some (.ref TT),some (.bl aI),some (.ref R),some (.int (i:Int)),some (.int ((i+1+m:Nat):Int)),some (.int ((i+1+m-bS aI:Nat):Int)),w7]∧H4=H') (λσ' H' hP=>?_) (λN hN=>?_)
    rotate_left
    ·rw?
     cases aI with
     | true=>
       apply cI ?_
       exact hN _ _ 0#U
     | false=>
       apply bR ?_
       rw [show ((i+1+m:Nat):Int)-1=((i+1+m-bS false:Nat):Int) by (have:bS false=1:=rfl);try?]
       exact hN _ _ 0#U
    obtain ⟨rfl,rfl⟩:=hP
    rw?
    refine ⟨l,es,i,i+1+m-bS aI,n,rfl,hl4,hR.up s4,hS,d9,by try?,q2,by try?,hn,λz=>absurd z 0#c,λ_ z p kk H5 s5 e5 f5 ae6=>?_⟩
    obtain ⟨xk,gk,vk,ek,_⟩:=dG (hR.up 0#W) hS (show kk<es.length by have:=ae6.hi;try?)
    have ei5:=s5 _ _ ei
    have ej5:=s5 _ _ ej
    rw?
    apply ⟨.inl ⟨rfl,_,bq.of (s5 _ _ e4)⟩,?_⟩
    apply dg (s5 _ _ hl4) (fB gi rfl) ?_
    apply dg (s5 _ _ hl4) (fB gk rfl) ?_
    apply dg (s5 _ _ hl4) (fB gj rfl) ?_
    apply aC (mk:=.tup) 0#d λy H6 s6 n6 e6=>?_
    refine cM ((s5.trans s6) _ _ e4) (by rw [Pe];exact aN 0#c) ?_
    refine done _ _ _ y H6 _ _ _ (s5.trans s6) e6 ?_
    unfold three
    rw [Uw ae6]
   ·rw?
    refine XM _ _ ⟨us,_,_,_,rfl,s4,e4,Ih,?_⟩
    have vU:¬(jmp t i (i+1+m)=true):=λz=>c1 z
    rw [K8,Lg,if_neg vU,nv]
  ·rintro σ H4 ⟨us,w5,w6,w7,rfl,s4,e4,Ih,K8⟩
   refine hM _ _ ⟨us,_,_,_,_,rfl,s4,e4,Ih,?_⟩
   rw [K8,GG]
   congr 2
   try?
 ·rintro σ H3 ⟨ts,v4,v5,v6,v7,rfl,s3,e3,hts,hmap⟩
  rw?
  refine k R ts H3 s3 n1 e3 hts ?_
  rw [hmap]
  congr 1
def gK {α β:Type} (R:α→β→Prop):List α→List β→Prop
 | [],[]=>True
 | a::as,b::bs=>R a b∧gK R as bs
 | _,_=>False
theorem SA:∀{as:List α} {bs:List β},gK R as bs→as.length=bs.length
 | [],[],_=>rfl
 | _::as,_::bs,h=>congrArg (·+1) (SA (as:=as) (bs:=bs) h.2)
 | [],_::_,h=>h.elim
 | _::_,[],h=>h.elim
theorem nW:∀{as:List α} {bs:List β},gK R as bs→R a b→gK R (as++[a]) (bs++[b])
 | [],[],_,r=>⟨r,trivial⟩
 | _::_,_::_,h,r=>⟨h.1,nW h.2 r⟩
 | [],_::_,h,_=>h.elim
 | _::_,[],h,_=>h.elim
theorem uT:∀{as:List α} {bs:List β},(∀a b,a∈as→R a b→S a b)→gK R as bs→gK S as bs
 | [],[],_,_=>trivial
 | _::_,_::_,u,r=>⟨u _ _ 0#d r.1,uT (λa b ha=>u a b (by simp [ha])) r.2⟩
 | [],_::_,_,r=>r.elim
 | _::_,[],_,r=>r.elim
theorem kT:∀(i:Nat) (r:List α),r∈parts s es i→r≠[]∧(∀x∈r,s x=true)∧r.Sublist (es.take i)
 | 0,r,h=>absurd h (by simp [parts])
 | i+1,r,h=>by
   have ih:=kT (s:=s) (es:=es) i
   have up:∀r:List α,r.Sublist (es.take i)→r.Sublist (es.take (i+1)):=λr q=>q.trans (List.take_sublist_take_left (yM _))
   unfold parts at h
   cases e:es[i]? with
   | none=>rw [e] at h;exact ⟨(ih r h).1,(ih r h).2.1,up r (ih r h).2.2⟩
   | some y=>
     rw [e] at h
     have tk:es.take (i+1)=es.take i++[y]:=by rw [sC,e];rfl
     dsimp only at h
     split at h
     ·rename_i hs
      split at h
      ·rename_i hr
       obtain ⟨t,r',hp⟩:=tT hr
       have hm:r'∈parts s es i:=by rw [hp];simp
       have hgl:(parts s es i).getLast?.getD []=r':=by rw [hp];simp
       rcases fK.mp h with z | z
       ·have q:=ih r (aaM _ |>.subset z)
        exact ⟨q.1,q.2.1,up r q.2.2⟩
       ·obtain rfl:r=((parts s es i).getLast?.getD [])++[y]:=by simpa using z
        rw [hgl]
        refine ⟨by simp,λx hx=>?_,by rw [tk];exact ag1 (ih r' hm).2.2 (abg _)⟩
        rcases fK.mp hx with q | q
        ·exact (ih r' hm).2.1 x q
        ·obtain rfl:x=y:=by simpa using q
         exact hs
      ·rcases fK.mp h with z | z
       ·exact ⟨(ih r z).1,(ih r z).2.1,up r (ih r z).2.2⟩
       ·obtain rfl:r=[y]:=by simpa using z
        refine ⟨by simp,λx hx=>?_,by rw [tk];exact WH _ _⟩
        obtain rfl:x=y:=by simpa using hx
        exact hs
     ·exact ⟨(ih r h).1,(ih r h).2.1,up r (ih r h).2.2⟩
abbrev Pc:=aq×(Rat×Rat×Rat×Rat)
def xw (H:Hp) (x:Pc) (n:Nat):Prop:=∃a b c d:aq,H x.1=some (.tup [.ref a,.ref b,.ref c,.ref d])∧dF H a x.2.1 n∧dF H b x.2.2.1 n∧dF H c x.2.2.2.1 n∧dF H d x.2.2.2.2 n
theorem xw.mv (t:∀{b:aq} {xs:List V},H b=some 0#o→H' b=some 0#o) (f:xw H x n):xw H' x n:=by
 obtain ⟨a,b,c,d,e,f1,f2,f3,f4⟩:=f
 have m:∀{b:aq} {q:Rat},dF H b q n→dF H' b q n:=λf=>let ⟨x,d,e,f⟩:=f;⟨x,d,t e,f⟩
 exact ⟨a,b,c,d,t e,m f1,m f2,m f3,m f4⟩
theorem xw.up (f:xw H x n) (s:ao H H'):xw H' x n:=f.mv λe=>s _ _ e
def cJ (ps:List Pc):List V:=ps.map λx=>V.ref x.1
theorem ja (ps:List Pc):(cJ ps).length=ps.length:=gI ..
def AllP (H:Hp) (ps:List Pc) (n:Nat):Prop:=∀x∈ps,xw H x n
theorem AllP.up (h:AllP H ps n) (s:ao H H'):AllP H' ps n:=λx hx=>(h x hx).up s
theorem AllP.app (h:AllP H ps n) (e:H R=some (.lst ys)):AllP (upd H R o) ps n:=λx hx=>(h x hx).mv λ{b xs} z=>by
 rw [aK (λq=>by rw [q,e] at z;cases z)]
 exact z
theorem AllP.append (h:AllP H ps n) (h':AllP H qs n):AllP H (ps++qs) n:=λx hx=>by
 rcases fK.mp hx with z | z
 ·exact h x z
 ·exact h' x z
theorem WB (Pv:St→Hp→Prop) (μ:St→Hp→Nat) (h0:Pv σ H)
 (hs:∀σ H,Pv σ H→∀R:Bool→Hp→Prop,(∀H1,(∀M:St→Hp→Prop,(∀σ' H',Pv σ' H'→μ σ' H'<μ σ H→M σ' H')→tb { D with nx:=M,ct:=M,bk:=D.nx } σ H1)→R true H1)→(∀H1,D.nx σ H1→R false H1)→c σ H R):EI c tb D σ H:=by
 refine ⟨λm σ H=>m=μ σ H∧Pv σ H,⟨_,rfl,h0⟩,?_⟩
 rintro m σ H ⟨rfl,p⟩
 refine hs σ H p _ (λH1 q=>?_) (λH1 q=>?_)
 ·rw [if_pos rfl]
  exact ⟨λσ' H'=>Pv σ' H'∧μ σ' H'<μ σ H,λσ' H' ⟨p',l⟩=>⟨_,l,rfl,p'⟩,q _ λ_ _ a b=>⟨a,b⟩⟩
 ·rw [if_neg fQ]
  exact q
def Pu (L:Nat→Nat→Prop) (t:Nat→Int) (a p:Nat):Prop:=a<p∧L a p∧t a+1=t p∧∀k,k<a→¬(L k p∧t k+1=t p)
inductive Way (L:Nat→Nat→Prop) (t:Nat→Int):Nat→List (Nat×Nat)→Prop
 | nil:Way L t 0 []
 | cons {a p:Nat} {ps:List (Nat×Nat)}:Pu L t a p→Way L t a ps→Way L t p (ps++[(a,p)])
theorem Pu.eq (h:Pu L t a p) (h':Pu L t b p):a=b:=by
 obtain ⟨_,l1,e1,n1⟩:=h
 obtain ⟨_,l2,e2,n2⟩:=h'
 rcases EL a b with z | z | z
 ·exact absurd ⟨l1,e1⟩ (n2 a z)
 ·exact z
 ·exact absurd ⟨l2,e2⟩ (n1 b z)
theorem Way.eq (h:Way L t p ps):∀{qs:List (Nat×Nat)},Way L t p qs→ps=qs:=by
 induction h with
 | nil=>
   intro qs h'
   cases h' with
   | nil=>rfl
   | cons f _=>exact absurd f.1 (Cc _)
 | cons f w ih=>
   intro qs h'
   cases h' with
   | nil=>exact absurd f.1 (Cc _)
   | cons f' w'=>
     obtain rfl:=f.eq f'
     rw [ih w']
theorem Way.lt (h:Way L t p ps):∀x∈ps,x.1<x.2∧x.2≤p:=by
 induction h with
 | nil=>intro x hx;exact absurd hx 0#d
 | @cons a p ps f w ih=>
   intro x hx
   rcases fK.mp hx with z | z
   ·have:=ih x z
    have:=f.1
    try?
   ·obtain rfl:x=(a,p):=by simpa using z
    exact ⟨f.1,dS _⟩
theorem Way.len (h:Way L t p ps):ps.length≤p:=by
 induction h with
 | nil=>exact dS _
 | cons f w ih=>
   rw [fh,Kd]
   have:=f.1
   try?
theorem Way.congr (e:∀j,j<N→t j=t' j) (h:Way L t p ps):p<N→Way L t' p ps:=by
 induction h with
 | nil=>intro _;exact .nil
 | @cons a p ps f w ih=>
   intro hp
   obtain ⟨f1,f2,f3,f4⟩:=f
   refine .cons ⟨f1,f2,by rw [← e a 0#c,← e p hp];exact f3,λk hk q=>f4 k hk ⟨q.1,?_⟩⟩ (ih 0#c)
   rw [e k 0#c,e p hp]
   exact q.2
theorem HL (h:qO L N t) (h':qO L N t'):∀j,j<N→t j=t' j:=by
 intro j
 induction j using Nat.strongRecOn with
 | ind j ih=>
   intro hj
   by_cases h0:j=0
   ·subst h0
    rw [h.first,h'.first]
   ·obtain ⟨i,i1,i2,i3⟩:=h.ex j 0#c hj
    obtain ⟨k,k1,k2,k3⟩:=h'.ex j 0#c hj
    have a1:=h'.le i j i1 hj i2
    have a2:=h.le k j k1 hj k2
    have b1:=ih i i1 0#c
    have b2:=ih k k1 0#c
    try?
def OC (es:List En) (i j:Nat):Rat×Rat×Rat×Rat:=((mo es i:Rat),wo es i,(mo es j:Rat),wo es j)
def Told (es:List En) (β:Rat) (aI:Bool) (l:List (Rat×Rat×Rat×Rat)):Prop:=∃(t:Nat→Int) (ps:List (Nat×Nat)),qO (jX es β aI) (es.length+bS aI) t∧Way (jX es β aI) t (es.length+bS aI-1) ps∧l=(if es.length+bS aI=1 then [(0,0)] else ps).map (λx=>OC es x.1 (x.2-bS aI))
theorem Dh (h:es.map (·.2)=es'.map (·.2)):jX es β aI=jX es' β aI:=by
 have hl:es.length=es'.length:=by simpa using congrArg oK h
 have hs:∀i k j,sd es i k j=sd es' i k j:=λi k j=>by
  unfold sd
  rw [(fW h i).1,(fW h i).2,(fW h j).1,(fW h j).2,(fW h k).1,(fW h k).2]
 funext i j
 unfold jX Good
 simp only [hl,hs]
abbrev Pr:=aq×Nat×Nat
def FY (ps:List Pr):List V:=ps.map λx=>V.ref x.1
theorem DO (ps:List Pr):(FY ps).length=ps.length:=gI ..
def Pn (H:Hp) (ps:List Pr):Prop:=∀x∈ps,H x.1=some (.tup [.int (x.2.1:Int),.int (x.2.2:Int)])
theorem HM (h:(gD p).filter f=a::r):f a=true∧a<p∧∀k,k<a→f k=false:=by
 have hm:a∈(gD p).filter f:=by rw [h];simp
 have hm':=E5.mp hm
 have ha:=uN.mp hm'.1
 refine ⟨hm'.2,ha,λk hk=>?_⟩
 cases e:f k with
 | false=>rfl
 | true=>
   have hk':k∈(gD p).filter f:=E5.mpr ⟨uN.mpr 0#c,e⟩
   have hp:((gD p).filter f).Pairwise (·<·):=agS _ List.pairwise_lt_range
   rw [h] at hk' hp
   rcases pZ.mp hk' with z | z
   ·try?
   ·have:=(aa3.mp hp).1 k z
    try?
open Classical in
def goes (L:Nat→Nat→Prop) (t:Nat→Int) (p k:Nat):Bool:=decide (L k p∧t k+1=t p)
theorem Lc {j:Nat}:XS (.int (j:Int)) (gM js)=true↔j∈js:=by
 unfold XS gM
 rw [List.any_eq_true]
 constructor
 ·rintro ⟨v,hv,e⟩
  obtain ⟨k,hk,rfl⟩:=jB.mp hv
  have:(k:Int)=(j:Int):=by simpa [XG] using e
  rw [show j=k by try?]
  exact hk
 ·intro h
  exact ⟨_,jB.mpr ⟨j,h,rfl⟩,by simp [XG]⟩
inductive Eu (vs:List V) (H:Hp) (Q:VK) (E_:XK):Prop where
 | mk (F T:aq) (rs:List (aq×List Nat)) (N:Nat) (L:Nat→Nat→Prop) (t:Nat→Int):vs=[.ref F,.ref T]→TY H F rs→H T=some (.lst (jf N t))→1≤N→N≤900→N≤rs.length+1→(∀i x,rs[i]?=some x→∀j,j∈x.2↔L i j)→qO L N t→(∀(R:aq) (ps:List Pr) (H':Hp),ao H H'→H R=none→H' R=some (.lst (FY ps))→Pn H' ps→Way L t (N-1) (ps.map (·.2))→Q (.ref R) H')→Eu vs H Q E_
inductive Ay (vs:List V) (H:Hp) (Q:VK) (E_:XK):Prop where
 | mk (x y:aq) (m m':Int) (q q':Rat) (n:Nat):vs=[.ref x,.ref y]→jK H x m q n→jK H y m' q' n→1≤n→(∀(p:aq) (H':Hp),ao H H'→xw H' (p,(m:Rat),q,(m':Rat),q') n→Q (.ref p) H')→Ay vs H Q E_
abbrev Ent:=aq×aq×aq
def xq (H:Hp) (x:Ent) (es:List En) (β:Rat) (aI:Bool):Prop:=∃(t:Nat→Int) (ts:List Th),H x.1=some (.tup [.ref x.2.1,.ref x.2.2])∧H x.2.1=some (.lst (jf (es.length+bS aI) t))∧qO (jX es β aI) (es.length+bS aI) t∧H x.2.2=some (.lst (rM ts))∧xm H ts∧ts.map (·.2)=Ii (jmp t) (three es (bS aI)) (es.length+bS aI) (es.length+bS aI)
theorem xq.up (f:xq H x es β aI) (s:ao H H'):xq H' x es β aI:=by
 obtain ⟨t,ts,e1,e2,f,e3,e4,e5⟩:=f
 exact ⟨t,ts,s _ _ e1,s _ _ e2,f,s _ _ e3,λx hx=>s _ _ (e4 x hx),e5⟩
theorem xq.put (f:xq H x es β aI) (hX:H X=some (.lst xs)) (h1:x.2.1≠X) (h2:x.2.2≠X):xq (upd H X o) x es β aI:=by
 obtain ⟨t,ts,e1,e2,f,e3,e4,e5⟩:=f
 have tup:∀{b:aq} {ys:List V},H b=some (.tup ys)→upd H X o b=some (.tup ys):=λ{b ys} e=>vC X H _ _ _ (gA hX e)
 exact ⟨t,ts,tup e1,by rw [aK h1];exact e2,f,by rw [aK h2];exact e3,λx hx=>tup (e4 x hx),e5⟩
structure Own (H:Hp) (xs:List Ent):Prop where
 new:∀x∈xs,H x.2.1=none∧H x.2.2=none
 nd:(xs.flatMap λx=>[x.2.1,x.2.2]).Nodup
inductive AK (vs:List V) (H:Hp) (Q:VK) (E_:XK):Prop where
 | mk (l pb:aq) (es:List En) (n nb:Nat) (β:Rat) (aI:Bool):vs=[.ref l,.ref pb,.bl aI]→H l=some 0#s→Row H es n→iK es→rising es→1≤es.length→es.length≤30→b8 H pb β nb→1≤n→n≤900→nb≤1000→(∀(y X Z:aq) (ps:List Pc) (H':Hp),ao H H'→H' y=some (.tup [.ref X,.ref Z])→H X=none→H' X=some (.lst (cJ ps))→AllP H' ps n→Told es β aI (ps.map (·.2))→∀TT RR:aq,xq H' (Z,TT,RR) es β aI→H TT=none→H RR=none→TT≠RR→Q (.ref y) H')→AK vs H Q E_
section
open Classical in
theorem tG:goes L t p k=true↔L k p∧t k+1=t p:=by unfold goes;exact WX
theorem MV {i:Nat} {v:V} (h:xs[i]?=some v):sI xs (i:Int)=some v:=by
 unfold sI
 rw [UZ 0#b (by have:=(nH.mp h).1;simp?)]
 exact h
def intAt (σ:St) (i:Nat):Nat:=match σ.getD i none with | some (.int i)=>i.toNat | _=>0
theorem yb (h:i<p):((gD p).take (i+1)).filter f=((gD p).take i).filter f++(if f i=true then [i] else []):=Kc f (gD p) i i (by rw [E3 h])
theorem Lp (js:List Nat) (j:Nat):gM js++[.int (j:Int)]=gM (js++[j]):=by simp [gM]
theorem fu:fz 2 [dN,"told","pairs","place","ahead"] jM:=0#a
theorem vm (F:fO K "places_of_pieces" jM f fd) (T:Txt mg):bh P w K mg base dm 1 f fd [dN,"told"] Eu:=by
 refine F.eU fu λcdv A outer s H vs Q E hr h=>?_
 obtain ⟨FF,TT,rs,N,L,t,rfl,hF,eT,h1,kR,hNr,hrs,ae5,k⟩:=h
 apply bF ⟨_,(ah (aL 2 fu.nd (dO gH)) (ah (oY (i:=3) fu.nd rfl (Or.inr rfl) (aF bT (fj K T.i7 0#n) au) (hs:=aea)) (ah (Jd.lT gR (bD fM 0#A au 0#K) (ah (vv (O:=[cV]) (N':=["place","told" ,"found" ]) (cap:=[3,1,0]) (i:=4) fu.nd rfl 0#k rfl (xH rfl T.range (dZ 0#A)) (λ_ _ _ _ _=>(cB (i:=0) (show kD [("first":Str),("place":Str),("told":Str),("found":Str)] by decide +kernel) rfl 0#k)) (λ_ _ _ _ _=>(vz (Jd.BE (Jd.oq (bD fE (aF bB (bO (gU K) 0#q 0#h 0#g) au) (bO (gU K) 0#q 0#n 0#g) 0#K) (Jd.lJ (bD (aad K) 0#n (bO (gU K) 0#A 0#h 0#g) rfl)))))) (λ_ _ _ _ _=>0#h) rfl ⟨⟨rfl,rfl,rfl,rfl⟩,⟨⟨rfl,rfl,rfl,rfl⟩,0#u⟩⟩ rfl 0#e rfl 0#e (by rfl)) (ah (fm (ia K 0#q (bW (bL (Jd.iL K (aa 4)) 0#A))) (hs:=eK)) (aD (oY (i:=3) fu.nd rfl (Or.inr rfl) (Jd.iL K (aa 4)) (hs:=Wk)))))) (ah (fm (Jd.ad4 K 0#q) (hs:=eK)) (aD (aX 0#q)))))),?_⟩
 apply aC (mk:=.lst) 0#d λR H1 s1 n1 e1=>?_
 refine dW (.inl (bq.of (s1 _ _ eT))) ?_
 rw [nE]
 rw?
 refine WB (λσ H3=>Py λ(p:Nat) (ps:List Pr) (v4:Option V)=>σ=[some (.ref FF),some (.ref TT),some (.ref R),some (.int (p:Int)),v4]∧ao H H3∧H3 R=some (.lst (FY ps))∧Pn H3 ps∧p<N∧ps.length+p≤N∧∀qs,Way L t p qs→Way L t (N-1) (qs++(ps.map (·.2)).reverse)) (λσ _=>intAt σ 3) ?_ ?_
 ·exact ⟨N-1,[],none,by rw [show (N:Int)-1=((N-1:Nat):Int) by simp?];rfl,s1,e1,λx hx=>absurd hx 0#d,by simp?,by simp,λqs h=>by simpa using h⟩
 rintro σ H3 ⟨p,ps,v4,rfl,s3,e3,hps,hp,hlen,afg⟩ RR hy hn
 rw?
 by_cases h0:0<(p:Int)
 ·rw [je h0]
  refine hy _ λM hM=>?_
  have eT3:=s3 _ _ eT
  rw?
  apply tV ?_
  refine ⟨_,rfl,by lia,by lia,?_⟩
  refine c9 Tf (λ_ _=>trivial) (by simp;lia) (λi zs G=>zs=gM (((gD p).take i).filter (goes L t p))) rfl ?_ ?_
  ·rintro D i x zs H4 lF NN N0 hσ hD eD s4 hx hz rfl kY kN
   have hi:i<p:=by
    have:=(nH.mp hx).1
    simpa using this
   obtain rfl:x=.int (0+(i:Int)):=by
    rw [kE,E3 (by simpa using hi)] at hx
    exact (qE hx).symm
   rw [show (0:Int)+(i:Int)=(i:Int) by simp?]
   have tk:=yb (f:=goes L t p) hi
   refine ic hσ ?_
   have Up:=s4 _ _ eT3
   rw?
   apply dg Up (nV (show i<N by simp?) rfl) ?_
   apply dg Up (nV hp rfl) ?_
   have no:¬(L i p∧t i+1=t p)→N0 H4:=λz=>by
    refine kN H4 0#t ?_
    rw [tk,if_neg (λq=>z (tG.mp q)),nv]
   refine c6 0#J 0#J
   ·have Dd:i<rs.length:=by simp?
    have gx:rs[i]?=some rs[i]:=jY Dd
    have ex:=((hF.up 0#N).each _ (mT gx)).1
    rw?
    apply dg (hF.up 0#N).at_ (MV (by rw [kE,gx];rfl)) ?_
    refine ⟨_,_,rfl,.inl (bq.of ex),rfl,?_,?_⟩
    ·exact abm.mpr λv hv=>by
      obtain ⟨j,_,rfl⟩:=jB.mp hv
      rfl
    ·rw?
     show if XS (.int (p:Int)) (gM rs[i].2)=true then _ else _
     refine c6 (λc2=>?_) (λc2=>?_)
     ·rw?
      refine kY _ H4 0#t ?_
      rw [tk,if_pos (tG.mpr ⟨(hrs i _ gx p).mp (Lc.mp c2),dM c1⟩)]
      exact Lp _ _
     ·exact no λz=>c2 (Lc.mpr ((hrs i _ gx p).mpr z.1))
   ·refine bR ?_
    exact no λz=>c1 (je z.2)
  ·rintro D zs H4 hD eD s4 hz rfl
   rw [gI,Hh,show (p:Int).toNat=p by simp?,Mh 0#d] at eD
   obtain ⟨i0,hi0,hL0,ht0⟩:=ae5.ex p 0#b hp
   have hm:i0∈(gD p).filter (goes L t p):=E5.mpr ⟨uN.mpr hi0,tG.mpr ⟨hL0,by simp?⟩⟩
   obtain ⟨a,r,har⟩:∃a r,(gD p).filter (goes L t p)=a::r:=by
    cases e:(gD p).filter (goes L t p) with
    | nil=>rw [e] at hm;exact absurd hm 0#d
    | cons a r=>exact ⟨a,r,rfl⟩
   obtain ⟨ha,hap,hno⟩:=HM har
   obtain ⟨hLa,hta⟩:=tG.mp ha
   rw [har] at eD
   have e4:=s4 _ _ e3
   rw?
   apply ⟨.inl ⟨rfl,_,bq.of e4⟩,?_⟩
   apply dg eD (MV (i:=0) rfl) ?_
   apply aC (mk:=.tup) 0#d λy H5 s5 n5 e5=>?_
   apply cM (s5 _ _ e4) (by rw [DO];exact aN 0#b) ?_
   have nD:D≠R:=λz=>by rw [z,e3] at hD;cases hD
   apply dg (by rw [aK nD];exact s5 _ _ eD) (MV (i:=0) rfl) ?_
   refine hM _ _ ⟨a,ps++[(y,a,p)],_,rfl,bf ((s3.trans s4).trans s5) n1,by rw [av];simp [FY],λx hx=>?_,by simp?,by simp;simp?,λqs hq=>?_⟩ ?_
   ·refine vC R H5 _ _ _ (gA (s5 _ _ e4) ?_)
    rcases fK.mp hx with z | z
    ·exact 0#W _ _ (hps x z)
    ·obtain rfl:x=(y,a,p):=by simpa using z
     exact e5
   ·rw [jD,List.reverse_append]
    have:=afg (qs++[(a,p)]) (.cons ⟨hap,hLa,hta,λk hk z=>absurd ((hno k hk).symm.trans (tG.mpr z)) 0#f⟩ hq)
    simpa using this
   ·show (a:Int).toNat<(p:Int).toNat
    simp?
 ·rw [pY h0]
  refine hn _ ?_
  have hp0:p=0:=by simp?
  subst hp0
  rw?
  refine ⟨.inl ⟨rfl,_,bq.of e3⟩,?_⟩
  apply afT e3 ?_
  refine k R ps.reverse _ (bf s3 n1) n1 (by rw [av,FY,FY,abp]) (λx hx=>vC R H3 _ _ _ (gA e3 (hps x (List.mem_reverse.mp hx)))) ?_
  rw [abp]
  exact afg [] .nil
theorem Ax:fz 2 [aQ,aG] mH:=0#a
theorem zY (F:fO K "piece_between" mH f fd) (T:Txt mg):bh P w K mg base dm 1 f fd [aQ,aG] Ay:=by
 refine F.eU Ax λcdv A outer s H vs Q E hr h=>?_
 obtain ⟨x,y,m,m',q,q',n,rfl,⟨v,ex,fv,zm⟩,⟨v',ey,fv',zm'⟩,hn,k⟩:=h
 apply bF ⟨_,(aD (aX (bW (Jd.a4 (bW (bL 0#I au)) 0#I (bW (bL 0#Q au)) 0#Q)))),?_⟩
 refine aC (mk:=.tup) 0#d λa H1 s1 n1 e1=>?_
 have ex1:=s1 _ _ ex
 have ey1:=s1 _ _ ey
 rw?
 refine aC (mk:=.tup) 0#d λb H2 s2 n2 e2=>?_
 have ey2:=s2 _ _ ey1
 rw?
 refine aC (mk:=.tup) 0#d λc H3 s3 n3 e3=>?_
 have xh:=s2.trans s3
 have qu:=s1.trans xh
 exact k c H3 qu ⟨a,v,b,v',e3,⟨m,1,xh _ _ e1,Fr.whole m,zm,qV hn⟩,fv.up qu,⟨m',1,s3 _ _ e2,Fr.whole m',zm',qV hn⟩,fv'.up qu⟩
theorem Y3 (hL:jX es β aI i j):i<j∧j<es.length+bS aI:=by
 unfold jX at hL
 unfold bS
 cases aI with
 | true=>
   rw [if_pos rfl] at *
   exact ⟨hL.1,hL.2.1⟩
 | false=>
   rw [if_neg fQ] at *
   rcases hL with ⟨a,rfl | ⟨b,c,_⟩⟩
   ·exact ⟨by try?,by try?⟩
   ·exact ⟨by try?,by try?⟩
theorem GJ (h0:0<j) (hj:j<es.length+bS aI):jX es β aI (j-1) j:=by
 unfold jX
 unfold bS at hj
 cases aI with
 | true=>
   rw [if_pos rfl] at *
   exact ⟨by try?,hj,λk h1 h2=>by try?⟩
 | false=>
   rw [if_neg fQ] at *
   exact ⟨by try?,.inl 0#c⟩
theorem iS:fz 3 ["run",aO,"tied",dN,"told","pairs","back","pieces"] wR:=0#a
theorem LH (F:fO K "tied_run" wR f fd) (T:Txt mg) (Hx:Dn P w K mg base 5 "leaps" [aZ,aO,"tied"] JO) (sO:Dn P w K mg base 1 "labels_by" [dN,"many"] Cw) (jI:Dn P w K mg base 1 "places_of_pieces" [dN,"told"] Eu) (mh:Dn P w K mg base 1 "piece_between" [aQ,aG] Ay) (yZ:Dn P w K mg base 5 "bars_by" [aZ,"told","tied"] Ef):bh P w K mg base dm 6 f fd ["run",aO,"tied"] AK:=by
 refine F.eU iS λcdv A outer s H vs Q E hr h=>?_
 obtain ⟨l,pb,es,n,nb,β,aI,rfl,hl,hR,hS,d9,h1,h30,hb,hn1,hn,hnb,k⟩:=h
 have hsh:bS aI≤1:=by unfold bS;split <;> try?
 apply bF ⟨_,(ah (aL 3 iS.nd (Jd.c3 Hx hr 0#h 0#n 0#q)) (ah (aL 4 iS.nd (bZ sO hr 0#A (vA (qf 0#q) (fj K T.i7 0#h) (aF bB (fj K T.i7 0#h) au)))) (ah (aL 5 iS.nd (bZ jI hr 0#A (aa 4))) (ah (cy (Jd.BE (Jd.oq (qf 0#q) (Jd.lJ (bD fE (fj K T.i7 0#h) au 0#K)))) (aD (aL 5 iS.nd (dO (dZ (bW (bL au au)))))) cG) (ah (oY (i:=6) iS.nd rfl (Or.inr rfl) (vA (qf 0#q) au au) (hs:=aiu)) (ah (vv (O:=[cV,cY]) (N':=["run","back" ]) (cap:=[0,6]) (i:=7) iS.nd rfl 0#k rfl (eE K (aa 5)) (λ_ _ _ _ _=>(Jd.TH K (n:=2) rfl (iH (cB (i:=0) (show kD [("first":Str),("last":Str),("run":Str),("back":Str)] by decide +kernel) rfl 0#k) (iH (cB (i:=1) (show kD [("first":Str),("last":Str),("run":Str),("back":Str)] by decide +kernel) rfl 0#k) tK)))) (λ_ _ _ _ _=>oX) (λ_ _ _ _ _=>(iA mh 0#z rfl (fL (bO (gU K) 0#q 0#h 0#g) (fL (bO (gU K) 0#q (aF bT 0#n 0#A) 0#g) gH EF) EF) (he:=EF) (hpl:=(cO EF cR)))) rfl ⟨⟨rfl,rfl,rfl,rfl⟩,0#u⟩ rfl 0#e rfl 0#e (by rfl)) (aD (aX (bW (bL (aa 7) (bW (bL (aa 4) (Jd.c3 yZ hr 0#h (aa 4) 0#q))))))))))))),?_⟩
 refine ⟨l,pb,es,n,nb,β,aI,rfl,hl,hR,hS,d9,by try?,hb,by try?,hnb,λFF rs H1 s1 nF hF hlen hle=>?_⟩
 refine Qx ?_
 refine jH (λσ' H2=>RM λ(TT:aq) (t:Nat→Int)=>σ'=[some 0#O,some (.ref pb),some (.bl aI),some (.ref FF),some (.ref TT),none,none,none]∧ao H1 H2∧H2 TT=some (.lst (jf (es.length+bS aI) t))∧qO (jX es β aI) (es.length+bS aI) t∧H1 TT=none) (λσ' H2 hP=>?_) (λN rest=>?_)
 rotate_left
 ·have go:∀(Q':VK) (E':XK),(∀(TT:aq) (t:Nat→Int) (H2:Hp),ao H1 H2→H1 TT=none→H2 TT=some (.lst (jf (es.length+bS aI) t))→qO (jX es β aI) (es.length+bS aI) t→Q' (.ref TT) H2)→Cw [.ref FF,.int ((es.length+bS aI:Nat):Int)] H1 Q' E':=λQ' E' kk=>⟨FF,rs,_,jX es β aI,rfl,hF,by try?,by try?,by try?,by try?,λi x hx=>(hle i x hx).2,λi j hL=>Y3 hL,λj h0 hj=>GJ h0 hj,λR t H2 s2 nR eR hf=>kk R t H2 s2 nR eR hf⟩
  rw?
  have s1l:=s1 _ _ hl
  cases aI with
  | true=>
    apply cI ?_
    refine dW (.inl (bq.of s1l)) ?_
    rw [aT]
    rw?
    exact go _ _ λTT t H2 s2 nT e2 hf=>rest _ _ ⟨TT,t,rfl,s2,e2,hf,nT⟩
  | false=>
    apply bR ?_
    refine dW (.inl (bq.of s1l)) ?_
    rw [aT]
    rw?
    exact go _ _ λTT t H2 s2 nT e2 hf=>rest _ _ ⟨TT,t,rfl,s2,e2,hf,nT⟩
 obtain ⟨TT,t,rfl,s2,eT,hf,nTT⟩:=hP
 refine jH (λσ' H3=>RM λ(PP:aq) (ps:List Pr)=>σ'=[some 0#O,some (.ref pb),some (.bl aI),some (.ref FF),some (.ref TT),some (.ref PP),none,none]∧ao H2 H3∧H3 PP=some (.lst (FY ps))∧Pn H3 ps∧Way (jX es β aI) t (es.length+bS aI-1) (ps.map (·.2))) (λσ' H3 hP=>?_) (λN rest=>?_)
 rotate_left
 ·rw?
  exact ⟨FF,TT,rs,_,_,t,rfl,hF.up s2,eT,by try?,by try?,by try?,λi x hx=>(hle i x hx).2,hf,λPP ps H3 s3 nP eP hps hw=>rest _ _ ⟨PP,ps,rfl,s3,eP,hps,hw⟩⟩
 obtain ⟨PP,ps,rfl,s3,eP,hps,hw⟩:=hP
 refine jH (λσ' H4=>RM λ(PP:aq) (ps':List Pr)=>σ'=[some 0#O,some (.ref pb),some (.bl aI),some (.ref FF),some (.ref TT),some (.ref PP),none,none]∧ao H3 H4∧H4 PP=some (.lst (FY ps'))∧Pn H4 ps'∧ps'.length≤31∧ps'.map (·.2)=if es.length+bS aI=1 then [(0,0)] else ps.map (·.2)) (λσ' H4 hP=>?_) (λN rest=>?_)
 rotate_left
 ·have hwl:=hw.len
  rw [gI] at hwl
  have xh:=(s1.trans s2).trans s3
  have keep:es.length+bS aI≠1→N [some 0#O,some (.ref pb),some (.bl aI),some (.ref FF),some (.ref TT),some (.ref PP),none,none] H3:=λz=>rest _ _ ⟨PP,ps,rfl,ao.refl _,eP,hps,by try?,by rw [if_neg z]⟩
  rw?
  cases aI with
  | true=>
    apply cI ?_
    refine dW (.inl (bq.of (xh _ _ hl))) ?_
    rw [aT]
    rw?
    refine c6 0#J 0#J
    ·have vU:(es.length:Int)=1:=dM c1
     rw?
     apply aC (mk:=.tup) 0#d λy H4 s4 n4 e4=>?_
     apply aC (mk:=.lst) 0#d λy' H5 s5 n5 e5=>?_
     refine rest _ _ ⟨y',[(y,0,0)],rfl,s4.trans s5,e5,λx hx=>?_,by simp,?_⟩
     ·obtain rfl:x=(y,0,0):=by simpa using hx
      exact s5 _ _ e4
     ·rw [if_pos (show es.length+bS true=1 by show es.length+0=1;try?)]
      rfl
    ·rw?
     exact keep λz=>c1 (je (by have:es.length+0=1:=z;try?))
  | false=>
    refine bR ?_
    apply bR ?_
    exact keep λz=>by have:es.length+1=1:=z;try?
 obtain ⟨PP,ps',rfl,s4,eP,ahF,hl',hm'⟩:=hP
 refine jH (λσ' H5=>H5=H4∧σ'=[some 0#O,some (.ref pb),some (.bl aI),some (.ref FF),some (.ref TT),some (.ref PP),some (.int (bS aI:Int)),none]) (λσ' H5 hP=>?_) (λN rest=>?_)
 rotate_left
 ·rw?
  cases aI with
  | true=>
    apply cI ?_
    exact rest _ _ 0#U
  | false=>
    apply bR ?_
    exact rest _ _ 0#U
 obtain ⟨rfl,rfl⟩:=hP
 have Js:=((s1.trans s2).trans s3).trans s4
 have inb:∀x∈ps',x.2.1<es.length∧x.2.2-bS aI<es.length∧((x.2.2:Int)-(bS aI:Int)=((x.2.2-bS aI:Nat):Int)):=λx hx=>by
  have hx':x.2∈ps'.map (·.2):=jB.mpr ⟨x,hx,rfl⟩
  rw [hm'] at hx'
  by_cases hN:es.length+bS aI=1
  ·rw [if_pos hN] at hx'
   have:x.2=(0,0):=by simpa using hx'
   rw [this]
   exact ⟨by try?,by try?,by try?⟩
  ·rw [if_neg hN] at hx'
   have:=hw.lt _ hx'
   exact ⟨by try?,by try?,by try?⟩
 rw?
 apply jb ?_
 refine ⟨PP,rfl,⟨_,bq.of eP⟩,?_⟩
 refine c9 (xs:=FY ps') cC (λH6 s6=>bq.of (s6 _ _ eP)) (by rw [DO];try?) (λi ys G=>∃GQ:List Pc,ys=cJ GQ∧AllP G GQ n∧GQ.map (·.2)=(ps'.take i).map λx=>OC es x.2.1 (x.2.2-bS aI)) ⟨[],rfl,λx hx=>absurd hx 0#d,rfl⟩ ?_ ?_
 ·rintro D i x ys H6 lF NN N0 h0 hD eD s6 hx hy ⟨GQ,rfl,ada,hmap⟩ kY kN
  unfold FY at hx
  rw [kE] at hx
  obtain ⟨x,gx,rfl⟩:=Ka.mp hx
  have Tv:=mT gx
  obtain ⟨b1,b2,b3⟩:=inb x Tv
  have tk:ps'.take (i+1)=ps'.take i++[x]:=by rw [sC,gx];rfl
  refine DS h0 (s6 _ _ (ahF x Tv)) ?_
  have E9:=Js.trans s6
  obtain ⟨xi,gi,si⟩:=dG (hR.up E9) hS b1
  obtain ⟨xj,gj,sj⟩:=dG (hR.up E9) hS b2
  rw?
  apply cI ?_
  apply dg (E9 _ _ hl) (fB gi rfl) ?_
  apply dg (E9 _ _ hl) (fB gj b3) ?_
  refine ⟨xi.1,xj.1,_,_,_,_,n,rfl,si,sj,hn1,λp H7 s7 f7=>?_⟩
  refine kY _ H7 s7 ⟨GQ++[(p,OC es x.2.1 (x.2.2-bS aI))],by simp [cJ],?_,by rw [tk,jD,jD,hmap];rfl⟩
  refine (ada.up (yd s7)).append λz hz=>?_
  obtain rfl:z=(p,OC es x.2.1 (x.2.2-bS aI)):=by simpa using hz
  exact f7.mv λ{b xs} z=>gA (s7 _ _ eD) z
 ·rintro D ys H6 hD eD s6 hy ⟨GQ,rfl,ada,hmap⟩
  rw [DO,jt] at hmap
  have E9:=Js.trans s6
  rw?
  apply ⟨l,TT,es,n,β,aI,t,rfl,E9 _ _ hl,hR.up E9,hS,d9,h1,h30,hn,(s3.trans (s4.trans s6)) _ _ eT,hf,λR ts H7 s7 nR eR hts ahC=>?_⟩
  apply aC (mk:=.tup) 0#d λz H8 s8 n8 e8=>?_
  refine aC (mk:=.tup) 0#d λy H9 s9 n9 e9=>?_
  have XX:=s8.trans s9
  have s69:=s7.trans XX
  refine k y D z GQ H9 (E9.trans s69) e9 (Js.free hD) (s69 _ _ eD) (λx hx=>(ada x hx).mv λ{b xs} q=>s69 _ _ (jG _ _ q)) ⟨t,ps.map (·.2),hf,hw,?_⟩ TT R ⟨t,ts,s9 _ _ e8,(s3.trans (s4.trans (s6.trans s69))) _ _ eT,hf,XX _ _ eR,hts.up XX,ahC⟩ (s1.free nTT) (E9.free nR) (λz=>by rw [← z,(s3.trans (s4.trans s6)) _ _ eT] at nR;cases nR)
  rw [hmap,← hm',se]
  rfl
end
def CM (es:List En) (β:Rat) (aI:Bool) (m:Nat) (q:List (Rat×Rat×Rat×Rat)):Prop:=∃qss:List (List (Rat×Rat×Rat×Rat)),gK (λr l=>Told r β aI l) ((parts dh es es.length).take m) qss∧q=qss.flatten
theorem CM.snoc (h:CM es β aI m q) (hr:(parts dh es es.length)[m]?=some r) (hl:Told r β aI l):CM es β aI (m+1) (q++l):=by
 obtain ⟨qss,h1,rfl⟩:=h
 refine ⟨qss++[l],?_,by simp⟩
 rw [sC,hr]
 exact nW h1 hl
theorem Told.len (h:Told es β aI l) (h1:1≤es.length):l.length≤es.length:=by
 obtain ⟨t,ps,_,w,rfl⟩:=h
 have hsh:bS aI≤1:=by unfold bS;split <;> try?
 have:=w.len
 rw [gI]
 split
 ·exact h1
 ·try?
inductive qw (vs:List V) (H:Hp) (Q:VK) (E_:XK):Prop where
 | mk (l pb:aq) (es:List En) (n nb:Nat) (β:Rat) (aI:Bool):vs=[.ref l,.ref pb,.bl aI]→H l=some 0#s→Row H es n→rising es→es.length≤40→(parts dh es es.length).length≤33→(∀r∈parts dh es es.length,r.length≤30)→b8 H pb β nb→1≤n→n≤900→nb≤1000→(∀(y X Z:aq) (ps:List Pc) (H':Hp),ao H H'→H' y=some (.tup [.ref X,.ref Z])→H X=none→H' X=some (.lst (cJ ps))→AllP H' ps n→ps.length≤990→CM es β aI (parts dh es es.length).length (ps.map (·.2))→∀ents:List Ent,H Z=none→X≠Z→H' Z=some (.lst (ents.map λx=>V.ref x.1))→gK (λr x=>xq H' x r β aI) (parts dh es es.length) ents→Own H ents→(∀x∈ents,x.2.1≠X∧x.2.1≠Z∧x.2.2≠X∧x.2.2≠Z)→Q (.ref y) H')→qw vs H Q E_
inductive uF (aI:Bool) (vs:List V) (H:Hp) (Q:VK) (E_:XK):Prop where
 | mk (l pb:aq):vs=[.ref l,.ref pb]→qw [.ref l,.ref pb,.bl aI] H Q E0→uF aI vs H Q E_
theorem vX:∀{as:List α} {bs:List β},(∀a b,b∈bs→R a b→S a b)→gK R as bs→gK S as bs
 | [],[],_,_=>trivial
 | _::_,_::_,h,g=>⟨h _ _ 0#d g.1,vX (λa b hb=>h a b (by simp [hb])) g.2⟩
 | [],_::_,_,g=>g.elim
 | _::_,[],_,g=>g.elim
theorem CV:∀{as:List α} {bs:List β},gK R as bs→∀b∈bs,∃a,R a b
 | [],[],_,b,h=>absurd h 0#d
 | x::_,y::_,h,b,hb=>by
   rcases pZ.mp hb with rfl | z
   ·exact ⟨x,h.1⟩
   ·exact CV h.2 b z
 | [],_::_,h,_,_=>h.elim
 | _::_,[],h,_,_=>h.elim
theorem Own.snoc (h:Own H xs) (s:ao H H4) (hin:∀y∈xs,H4 y.2.1≠none∧H4 y.2.2≠none) (n1:H4 x.2.1=none) (n2:H4 x.2.2=none) (ne:x.2.1≠x.2.2):Own H (xs++[x]):=by
 refine ⟨λy hy=>?_,?_⟩
 ·rcases fK.mp hy with z | z
  ·exact h.new y z
  ·obtain rfl:y=x:=by simpa using z
   exact ⟨s.free n1,s.free n2⟩
 ·rw [aaV]
  refine Rk.mpr ⟨h.nd,by simp [ne],λa ha b hb=>?_⟩
  obtain ⟨y,hy,hya⟩:=W4.mp ha
  have hb':b=x.2.1∨b=x.2.2:=by simpa using hb
  have hnb:H4 b=none:=by rcases hb' with z | z <;> rw [z] <;> assumption
  intro e
  subst e
  have:a=y.2.1∨a=y.2.2:=by simpa using hya
  rcases this with z | z
  ·exact (hin y hy).1 (by rw [← z];exact hnb)
  ·exact (hin y hy).2 (by rw [← z];exact hnb)
theorem lU:fz 3 [b9,aO,"tied","telling","paper","run","told"] wQ:=0#a
theorem LG (F:fO K "tied_row" wQ f fd) (T:Txt mg) (qN:Dn P w K mg base 1 "runs" [b9] Ex) (vQ:Dn P w K mg base 6 "tied_run" ["run",aO,"tied"] AK):bh P w K mg base dm 7 f fd [b9,aO,"tied"] qw:=by
 refine F.eU lU λcdv A outer s H vs Q E hr h=>?_
 obtain ⟨l,pb,es,n,nb,β,aI,rfl,hl,hR,d9,h30,h33,ahJ,hb,hn1,hn,hnb,k⟩:=h
 apply bF ⟨_,(ah (aL 3 lU.nd (dO gH)) (ah (aL 4 lU.nd (dO gH)) (ah (iP gR rfl (eE K (Jd.c1 qN hr 0#h)) (cB (i:=5) lU.nd rfl 0#k) (ah (aL 6 lU.nd (Jd.c3 vQ hr (aa 5) 0#n 0#q)) (ah (fm (Jd.KC K 0#A (aH K (aa 6))) (hs:=eK)) (aD (fm (ia K (aa 4) (aH K (aa 6))) (hs:=eK)))))) (aD (aX (bW (bL 0#A (aa 4)))))))),?_⟩
 apply aC (mk:=.lst) 0#d λX H1 s1 n1 e1=>?_
 refine aC (mk:=.lst) 0#d λZ H2 s2 n2 e2=>?_
 have gV:=s1.trans s2
 have SI:X≠Z:=λz=>by rw [← z,e1] at n2;cases n2
 rw?
 apply fq (jb ?_)
 refine ⟨l,es,n,rfl,gV _ _ hl,hR.up gV,by try?,λTT ls H3 s3 E8 hls _ _=>?_⟩
 have hpl:=uX (s:=dh) (es:=es) es.length
 have hll:ls.length=(parts dh es es.length).length:=by rw [← hls,gI]
 refine ⟨TT,rfl,⟨_,bq.of E8.at_⟩,d8 (xs:=lrefs ls) (λi σ H4=>XE λ(ps:List Pc) (ents:List Ent) (v5 v6:Option V)=>σ=[some 0#O,some (.ref pb),some (.bl aI),some (.ref X),some (.ref Z),v5,v6]∧ao H H4∧LL H2 H4 TT ls∧H4 X=some (.lst (cJ ps))∧H4 Z=some (.lst (ents.map λx=>V.ref x.1))∧ents.length≤i∧AllP H4 ps n∧ps.length≤30*i∧CM es β aI i (ps.map (·.2))∧gK (λr x=>xq H4 x r β aI) ((parts dh es es.length).take i) ents∧Own H ents∧(∀x∈ents,x.2.1≠X∧x.2.1≠Z∧x.2.2≠X∧x.2.2≠Z)) ?_ ?_ ?_ ?_⟩
 ·exact ⟨[],[],none,none,rfl,gV.trans s3,E8,(s2.trans s3) _ _ e1,s3 _ _ e2,dS _,λx hx=>absurd hx 0#d,dS _,⟨[],trivial,rfl⟩,trivial,⟨λx hx=>absurd hx 0#d,by simp⟩,λx hx=>absurd hx 0#d⟩
 ·rintro i σ H4 _ ⟨ps,ents,v5,v6,rfl,s4,Cg,_⟩
  exact bq.of Cg.at_
 ·rintro i x σ H4 hx ⟨ps,ents,v5,v6,rfl,s4,Cg,eX,eZ,hz,hps,afc,hti,hE,hO,hne⟩
  refine c8 λM B R hM _ _=>?_
  obtain ⟨x,gx,rfl⟩:=qh hx
  have hi:i<ls.length:=(nH.mp gx).1
  have Tv:=mT gx
  have hp:(parts dh es es.length)[i]?=some x.2:=by rw [← hls,kE,gx];rfl
  obtain ⟨o1,o2,o3⟩:=kT es.length x.2 (mT hp)
  rw [jt] at o3
  obtain ⟨_,ex,_⟩:=Cg.each x Tv
  have hx1:1≤x.2.length:=E4.mpr o1
  have aiN:=ahJ _ (mT hp)
  rw?
  refine ⟨x.1,pb,x.2,n,nb,β,aI,rfl,ex,λz hz=>hR.up s4 z (o3.subset hz),o2,d9.sublist o3,hx1,by try?,hb.up s4,hn1,hn,hnb,λy X' Z' GQ H5 s5 ey nX' eX' hpc aac TT' RR' hEn nT' nR' ahX=>?_⟩
  have afb:=aac.len hx1
  rw [gI] at afb
  have eX5:=s5 _ _ eX
  have eZ5:=s5 _ _ eZ
  have hL5:=Cg.up s5
  obtain ⟨a1,a2⟩:=E8.own (s2 _ _ e1)
  obtain ⟨b1,b2⟩:=E8.own e2
  rw?
  apply ⟨.inl ⟨rfl,_,bq.of eX5⟩,?_⟩
  refine GY eX5 eX' (by rw [ja,ja];exact nA (aN 0#c)) ?_
  have eZ6:upd H5 X (.lst (cJ ps++cJ GQ)) Z=some (.lst (ents.map λx=>V.ref x.1)):=by rw [aK (j4 SI)];exact eZ5
  have ey6:upd H5 X (.lst (cJ ps++cJ GQ)) y=some (.tup [.ref X',.ref Z']):=vC X H5 _ _ _ (gA eX5 ey)
  rw?
  apply ⟨.inl ⟨rfl,_,bq.of eZ6⟩,?_⟩
  refine cM eZ6 (by rw [gI];exact aN 0#c) ?_
  have nq:∀{A B:aq} {v:List V},H4 A=none→H4 B=some (.lst v)→A≠B:=λh1 h2 z=>by rw [z,h2] at h1;cases h1
  refine hM _ _ ⟨ps++GQ,ents++[(Z',TT',RR')],_,_,rfl,bf (bf 0#W (n1)) (s1.free n2),(hL5.other a1 a2).other b1 b2,?_,by rw [av,jD];rfl,by simp;try?,((hps.up s5).append hpc).app eX5 |>.app eZ6,by simp;try?,?_,?_,hO.snoc s4 (λy hy=>?_) nT' nR' ahX,λy hy=>?_⟩
  ·rw [aK SI,av,cJ,cJ,cJ,jD]
  ·rw [jD]
   exact hti.snoc hp aac
  ·rw [sC,hp]
   refine nW (vX (λr x hx f=>?_) hE) ?_
   ·obtain ⟨c1,c2,c3,c4⟩:=hne x hx
    exact ((f.up s5).put eX5 c1 c3).put eZ6 c2 c4
   ·exact (hEn.put eX5 (nq nT' eX) (nq nR' eX)).put eZ6 (nq nT' eZ) (nq nR' eZ)
  ·obtain ⟨r,t',ts',_,q2,_,q3,_⟩:=CV hE y hy
   exact ⟨by rw [q2];simp,by rw [q3];simp⟩
  ·rcases fK.mp hy with z | z
   ·exact hne y z
   ·obtain rfl:y=(Z',TT',RR'):=by simpa using z
    exact ⟨nq nT' eX,nq nT' eZ,nq nR' eX,nq nR' eZ⟩
 ·rintro σ H4 ⟨ps,ents,v5,v6,rfl,s4,Cg,eX,eZ,hz,hps,afc,hti,hE,hO,hne⟩
  rw [fH] at afc hti
  rw?
  refine aC (mk:=.tup) 0#d λy H5 s5 n5 e5=>?_
  rw [hll] at hti
  rw [fH,hll,jt] at hE
  exact k y X Z ps H5 0#W e5 n1 (s5 _ _ eX) (hps.up s5) 0#c hti ents (s1.free n2) SI (s5 _ _ eZ) (vX (λ_ _ _ f=>f.up s5) hE) hO hne
theorem V5:fz 2 [b9,aO] JB:=0#a
theorem Vu (F:fO K "spans" JB f fd) (T:Txt mg) (kQ:Dn P w K mg base 7 "tied_row" [b9,aO,"tied"] qw):bh P w K mg base dm 8 f fd [b9,aO] (uF false):=by
 refine F.eU V5 λcdv A outer s H vs Q E hr h=>?_
 obtain ⟨l,pb,rfl,h⟩:=h
 apply bF ⟨_,(aD (aX (Jd.c3 kQ hr 0#h 0#n lR))),?_⟩
 exact h
theorem V2:fz 2 [b9,aO] Jv:=0#a
theorem Vn (F:fO K "chain" Jv f fd) (T:Txt mg) (kQ:Dn P w K mg base 7 "tied_row" [b9,aO,"tied"] qw):bh P w K mg base dm 8 f fd [b9,aO] (uF true):=by
 refine F.eU V2 λcdv A outer s H vs Q E hr h=>?_
 obtain ⟨l,pb,rfl,h⟩:=h
 apply bF ⟨_,(aD (aX (Jd.c3 kQ hr 0#h 0#n lR))),?_⟩
 exact h
theorem gO:∀{fs:List (Str×V)} {x:V},fs.lookup f=some x→(aA f v fs).length=fs.length
 | [],_,h=>by cases h
 | (g,y)::r,x,h=>by
   unfold aA
   by_cases e:g=f
   ·rw [if_pos e];rfl
   ·rw [if_neg e]
    have e':(f==g)=false:=by
     have:¬f=g:=λz=>e z.symm
     simpa using this
    rw [W3,e'] at h
    show (aA f v r).length+1=r.length+1
    rw [gO h]
structure Pq (fs:List (Str×V)) (tw sl:aq) (g s:V):Prop where
 len:fs.length≤10
 tw:fs.lookup ("twice":Str)=some (.ref tw)
 sl:fs.lookup ("samples":Str)=some (.ref sl)
 g:fs.lookup ("gentlest":Str)=some g
 s:fs.lookup ("steepest":Str)=some s
 no:∀m:Str,m ≠ "twice"→m ≠ "samples"→m ≠ "gentlest"→m ≠ "steepest"→fs.lookup m=none
theorem Pq.init (tw sl:aq) (g s:V):Pq (aA "steepest" s (aA "gentlest" g (aA "samples" (.ref sl) (aA "twice" (.ref tw) [])))) tw sl g s:=by
 have a1:¬(("twice":Str) = "steepest"):=by decide +kernel
 have a2:¬(("twice":Str) = "gentlest"):=by decide +kernel
 have a3:¬(("twice":Str) = "samples"):=by decide +kernel
 have a4:¬(("samples":Str) = "steepest"):=by decide +kernel
 have a5:¬(("samples":Str) = "gentlest"):=by decide +kernel
 have a6:¬(("gentlest":Str) = "steepest"):=by decide +kernel
 refine ⟨?_,?_,?_,?_,?_,λm m1 m2 m3 m4=>?_⟩
 ·have l:∀(f:Str) (v:V) (fs:List (Str×V)),(aA f v fs).length≤fs.length+1:=by
   intro f v fs
   induction fs with
   | nil=>exact dS _
   | cons x r ih=>
     obtain ⟨g,y⟩:=x
     unfold aA
     split
     ·exact yM _
     ·exact yI ih
  have l1:=l "steepest" s (aA "gentlest" g (aA "samples" (.ref sl) (aA "twice" (.ref tw) [])))
  have l2:=l "gentlest" g (aA "samples" (.ref sl) (aA "twice" (.ref tw) []))
  have l3:=l "samples" (.ref sl) (aA "twice" (.ref tw) [])
  have l4:=l "twice" (.ref tw) []
  simp only [abu] at l4
  try?
 ·rw [af,if_neg a1,af,if_neg a2,af,if_neg a3,af,if_pos rfl]
 ·rw [af,if_neg a4,af,if_neg a5,af,if_pos rfl]
 ·rw [af,if_neg a6,af,if_pos rfl]
 ·rw [af,if_pos rfl]
 ·rw [af,if_neg m4,af,if_neg m3,af,if_neg m2,af,if_neg m1]
  rfl
theorem Pq.setG {tw sl:aq} {g s y:V} (h:Pq fs tw sl g s):Pq (aA "gentlest" y fs) tw sl y s:=by
 have a2:¬(("twice":Str) = "gentlest"):=by decide +kernel
 have a5:¬(("samples":Str) = "gentlest"):=by decide +kernel
 have a6:¬(("steepest":Str) = "gentlest"):=by decide +kernel
 refine ⟨by rw [gO h.g];exact h.len,?_,?_,?_,?_,λm m1 m2 m3 m4=>?_⟩
 ·rw [af,if_neg a2];exact h.tw
 ·rw [af,if_neg a5];exact h.sl
 ·rw [af,if_pos rfl]
 ·rw [af,if_neg a6];exact h.s
 ·rw [af,if_neg m3];exact h.no m m1 m2 m3 m4
theorem Pq.ad8 {tw sl:aq} {g s y:V} (h:Pq fs tw sl g s):Pq (aA "steepest" y fs) tw sl g y:=by
 have a2:¬(("twice":Str) = "steepest"):=by decide +kernel
 have a5:¬(("samples":Str) = "steepest"):=by decide +kernel
 have a6:¬(("gentlest":Str) = "steepest"):=by decide +kernel
 refine ⟨by rw [gO h.s];exact h.len,?_,?_,?_,?_,λm m1 m2 m3 m4=>?_⟩
 ·rw [af,if_neg a2];exact h.tw
 ·rw [af,if_neg a5];exact h.sl
 ·rw [af,if_neg a6];exact h.g
 ·rw [af,if_pos rfl]
 ·rw [af,if_neg m4];exact h.no m m1 m2 m3 m4
theorem Pq.zL {fs:List (Str×V)} {tw sl:aq} {g s:V} (h:Pq fs tw sl g s) (m:Str) (m1:m ≠ "twice":=by decide +kernel) (m2:m ≠ "samples":=by decide +kernel) (m3:m ≠ "gentlest":=by decide +kernel) (m4:m ≠ "steepest":=by decide +kernel):fs.lookup m=none:=h.no m m1 m2 m3 m4
def TL (p L:aq) (H:Hp):Hp:=rm p (rm L H)
theorem DV (h1:b≠p) (h2:b≠L):TL p L H b=H b:=by unfold TL;rw [ou h1,ou h2]
theorem VV:ao (TL p L H) H:=λb o e=>jG _ _ (jG _ _ e)
theorem Cs (hp:H p=some 0#V) (hL:H L=some (.lst ys)) (h:H b=some 0#o):TL p L H b=some 0#o:=by
 rw [DV (λe=>by rw [e,hp] at h;cases h) (λe=>by rw [e,hL] at h;cases h)]
 exact h
theorem b8.out (hp:H p=some 0#V) (hL:H L=some (.lst ys)) (f:b8 H b q n):b8 (TL p L H) b q n:=let ⟨t,d,e,f⟩:=f;⟨t,d,Cs hp hL e,f⟩
theorem dF.out (hp:H p=some 0#V) (hL:H L=some (.lst ys)) (f:dF H b q n):dF (TL p L H) b q n:=let ⟨t,d,e,f⟩:=f;⟨t,d,Cs hp hL e,f⟩
theorem nS.out (hp:H p=some 0#V) (hL:H L=some (.lst ys)) (f:nS H x n):nS (TL p L H) x n:=by
 obtain ⟨a,m,v⟩:=x
 cases v with
 | none=>exact ⟨f.1,Cs hp hL f.2⟩
 | some q=>
   obtain ⟨z,r,e,g⟩:=f
   exact ⟨z,r,Cs hp hL e,g.out hp hL⟩
theorem Row.out (hp:H p=some 0#V) (hL:H L=some (.lst ys)) (f:Row H es n):Row (TL p L H) es n:=λx hx=>(f x hx).out hp hL
theorem jK.en (f:jK H b t q n):nS H (b,t,some q) n:=let ⟨v,e,f,z⟩:=f;⟨z,v,e,f⟩
theorem nS.sa (f:nS H (b,t,some q) n):jK H b t q n:=let ⟨z,v,e,f⟩:=f;⟨v,e,f,z⟩
def BC (es:List En) (B:Rat):Prop:=∀i j k l,i<j→j<es.length→k<l→l<es.length→jx es B i j≤gE es B k l
def IsG (es:List En) (B G:Rat):Prop:=(∀i j,i<j→j<es.length→jx es B i j≤G)∧∃i j,i<j∧j<es.length∧jx es B i j=G
def IsS (es:List En) (B S:Rat):Prop:=(∀i j,i<j→j<es.length→S≤gE es B i j)∧∃i j,i<j∧j<es.length∧gE es B i j=S
theorem P4 (g:IsG es B G) (s:IsS es B S):BC es B↔G≤S:=by
 constructor
 ·intro h
  obtain ⟨i,j,a1,a2,a3⟩:=g.2
  obtain ⟨k,l,b1,b2,b3⟩:=s.2
  rw [← a3,← b3]
  exact h i j k l a1 a2 b1 b2
 ·intro h i j k l a1 a2 b1 b2
  have:=g.1 i j a1 a2
  have:=s.1 k l b1 b2
  grind
def vR (C:aq) (H:Hp) (p L:aq) (es:List En) (B:Rat) (n nb:Nat):Prop:=∃(dx tw:aq) (fs:List (Str×V)) (g s:V),H p=some 0#V∧Pq fs tw L g s∧H L=some 0#s∧Row H es n∧iK es∧rising es∧b8 H tw B nb ∧
 ((es.length<2∧g=.bK∧s=.bK)∨(2≤es.length∧∃(pg ps:aq) (G S:Rat),g=.ref pg∧s=.ref ps∧b8 H pg G (3*n+nb+3)∧b8 H ps S (3*n+nb+3)∧IsG es B G∧IsS es B S∧G≤S))
theorem vR.up (h:vR C H p L es B n nb) (s:ao H H'):vR C H' p L es B n nb:=by
 obtain ⟨dx,tw,fs,g,s',h1,h2,h3,h4,h5,h6,h7,h8⟩:=h
 refine ⟨dx,tw,fs,g,s',s _ _ h1,h2,s _ _ h3,h4.up s,h5,h6,h7.up s,?_⟩
 rcases h8 with z | ⟨z,pg,ps,G,S,e1,e2,q1,q2,r⟩
 ·exact .inl z
 ·exact .inr ⟨z,pg,ps,G,S,e1,e2,q1.up s,q2.up s,r⟩
inductive Ek (C:aq) (vs:List V) (H:Hp) (Q:VK) (E_:XK):Prop where
 | mk (p dx pb:aq) (β:Rat) (n:Nat):vs=[.ref p,.ref pb]→H p=some (.ins C dx [])→b8 H pb β n→n≤1000→(∀(L:aq) (H':Hp) (k:Nat),ao (rm p H) H'→H L=none→vR C H' p L [] (2*β) k (2*n+1)→Q .bK H')→Ek C vs H Q E_
def eW (es:List En) (B:Rat) (m:Int) (q:Rat) (i:Nat):Rat:=(q+B-wo es i)/((m:Rat)-(mo es i:Rat))
inductive Eh (vs:List V) (H:Hp) (Q:VK) (E_:XK):Prop where
 | mk (kv:V) (l x tw:aq) (es:List En) (m:Int) (q B:Rat) (n nb:Nat):vs=[kv,.ref l,.ref x,.ref tw]→H l=some 0#s→Row H es n→iK es→jK H x m q n→b8 H tw B nb→es.length≤900→n≤1500→nb≤3000→(∀i,i<es.length→mo es i<m)→(kv=.bK∨(0<es.length∧∃pk Kq,kv=.ref pk∧b8 H pk Kq (3*n+nb+3)))→(es.length=0→kv=.bK→∀H',ao H H'→Q .bK H')→(0<es.length→∀(pg:aq) (G:Rat) (H':Hp),ao H H'→b8 H' pg G (3*n+nb+3)→(∀pk Kq,kv=.ref pk→b8 H pk Kq (3*n+nb+3)→Kq≤G)→(∀i,i<es.length→eW es (-B) m q i≤G)→((∃i,i<es.length∧eW es (-B) m q i=G)∨∃pk,kv=.ref pk∧b8 H pk G (3*n+nb+3))→Q (.ref pg) H')→Eh vs H Q E_
inductive JV (vs:List V) (H:Hp) (Q:VK) (E_:XK):Prop where
 | mk (kv:V) (l x tw:aq) (es:List En) (m:Int) (q B:Rat) (n nb:Nat):vs=[kv,.ref l,.ref x,.ref tw]→H l=some 0#s→Row H es n→iK es→jK H x m q n→b8 H tw B nb→es.length≤900→n≤1500→nb≤3000→(∀i,i<es.length→mo es i<m)→(kv=.bK∨(0<es.length∧∃pk Kq,kv=.ref pk∧b8 H pk Kq (3*n+nb+3)))→(es.length=0→kv=.bK→∀H',ao H H'→Q .bK H')→(0<es.length→∀(pg:aq) (G:Rat) (H':Hp),ao H H'→b8 H' pg G (3*n+nb+3)→(∀pk Kq,kv=.ref pk→b8 H pk Kq (3*n+nb+3)→G≤Kq)→(∀i,i<es.length→G≤eW es B m q i)→((∃i,i<es.length∧eW es B m q i=G)∨∃pk,kv=.ref pk∧b8 H pk G (3*n+nb+3))→Q (.ref pg) H')→JV vs H Q E_
inductive JY (C:aq) (vs:List V) (H:Hp) (Q:VK) (E_:XK):Prop where
 | mk (p L x:aq) (es:List En) (m:Int) (q B:Rat) (n nb:Nat):vs=[.ref p,.ref x]→vR C H p L es B n nb→jK H x m q n→(∀i,i<es.length→mo es i<m)→es.length≤900→n≤1000→nb≤3000→0≤B→(∀(r:Bool) (H':Hp),ao (TL p L H) H'→(r=true↔BC (es++[(x,m,some q)]) B)→vR C H' p L (if r=true then es++[(x,m,some q)] else es) B n nb→Q (.bl r) H')→JY C vs H Q E_
inductive O2 (C:aq) (vs:List V) (H:Hp) (Q:VK) (E_:XK):Prop where
 | mk (p L:aq) (es:List En) (B:Rat) (n nb:Nat):vs=[.ref p]→vR C H p L es B n nb→(∀(R:aq) (H':Hp),ao H H'→H R=none→H' R=some 0#s→Q (.ref R) H')→O2 C vs H Q E_
theorem GW (a:b8 H p q n) (b:b8 H p r m):q=r:=by
 obtain ⟨t,d,e,f,_⟩:=a
 obtain ⟨t',d',e',f',_⟩:=b
 rw [e] at e'
 cases e'
 have h1:=f.eq
 have h2:=f'.eq
 have hd:=eS (b:=d) (by have:=f.pos;try?)
 grind
theorem B5:fz 2 [cz,aO] oz:=0#a
abbrev mV K mg c:=Cl K mg "Stretch" c ["twice",aZ,iV,iW]
theorem BS (F:su K "__init__" "Stretch.__init__" oz f fd) (bg:mV K mg aR) (qL:Dn P w K mg base 5 "plus" [aQ,aG] (rJ (·+·) 1)):bh P w K mg base dm 6 f fd [cz,aO] (Ek aR):=by
 refine F.eU B5 λcdv A outer s H vs Q E hr h=>?_
 obtain ⟨p,dx,pb,β,n,rfl,hp,hb,hn,k⟩:=h
 apply bF ⟨_,(ah (jg K 0#h (bZ qL hr 0#n 0#n)) (ah (jg K 0#h (dO gH)) (ah (jg K 0#h fU) (aD (jg K 0#h fU))))),?_⟩
 apply ⟨pb,pb,β,β,n,n,rfl,hb,hb,by try?,λtw H1 s1 f1=>?_⟩
 have hp1:=s1 _ _ hp
 apply Bd bg hp1 (by show 0<1000;decide) ?_
 refine aC (mk:=.lst) 0#d λL H2 s2 n2 e2=>?_
 have Vf:L≠p:=λz=>by
  rw [z,av] at n2
  cases n2
 have hp2:=s2 _ _ (av (H:=H1) (a:=p) (o:=.ins aR dx (aA "twice" (.ref tw) [])))
 rw?
 apply Bd bg hp2 (by have:(aA "twice" (.ref tw) ([]:List (Str×V))).length=1:=rfl;try?) ?_
 refine Bd bg av (by
  have h3:=(Pq.init tw L .bK .bK).len
  have l:∀(f:Str) (v:V) (fs:List (Str×V)),fs.length≤(aA f v fs).length:=by
   intro f v fs
   induction fs with
   | nil=>exact lX _
   | cons x r ih=>
     obtain ⟨g,y⟩:=x
     unfold aA
     split
     ·exact dS _
     ·exact yI ih
  have l1:=l "steepest" .bK (aA "gentlest" .bK (aA "samples" (.ref L) (aA "twice" (.ref tw) [])))
  have l2:=l "gentlest" .bK (aA "samples" (.ref L) (aA "twice" (.ref tw) []))
  try?) ?_
 rw?
 refine Bd bg av (by
  have h3:=(Pq.init tw L .bK .bK).len
  have l:∀(f:Str) (v:V) (fs:List (Str×V)),fs.length≤(aA f v fs).length:=by
   intro f v fs
   induction fs with
   | nil=>exact lX _
   | cons x r ih=>
     obtain ⟨g,y⟩:=x
     unfold aA
     split
     ·exact dS _
     ·exact yI ih
  have l1:=l "steepest" .bK (aA "gentlest" .bK (aA "samples" (.ref L) (aA "twice" (.ref tw) [])))
  try?) ?_
 rw?
 rw [rO,rO]
 have n0:H L=none:=by
  cases g:H L with
  | none=>rfl
  | some o=>
    have:=s1 _ _ g
    rw [aK Vf,this] at n2
    cases n2
 have sH:ao (rm p H) (upd H2 p (.ins aR dx (aA "steepest" .bK (aA "gentlest" .bK (aA "samples" (.ref L) (aA "twice" (.ref tw) [])))))):=λb o e=>by
  by_cases hb:b=p
  ·rw [hb] at e
   unfold rm at e
   rw [if_pos rfl] at e
   cases e
  ·rw [ou hb] at e
   rw [aK hb]
   refine s2 _ _ ?_
   rw [aK hb]
   exact s1 _ _ e
 have sH1:ao (rm p H1) (upd H2 p (.ins aR dx (aA "steepest" .bK (aA "gentlest" .bK (aA "samples" (.ref L) (aA "twice" (.ref tw) [])))))):=λb o e=>by
  by_cases hb:b=p
  ·rw [hb] at e
   unfold rm at e
   rw [if_pos rfl] at e
   cases e
  ·rw [ou hb] at e
   rw [aK hb]
   refine s2 _ _ ?_
   rw [aK hb]
   exact e
 refine k L _ 0 sH n0 ⟨dx,tw,_,.bK,.bK,av,Pq.init tw L .bK .bK,by rw [aK Vf];exact e2,λx hx=>absurd hx 0#d,λx hx=>absurd hx 0#d,List.Pairwise.nil,?_,.inl ⟨by decide,rfl,rfl⟩⟩
 obtain ⟨t,d,e,ff,z1,z2⟩:=f1
 have etw:rm p H1 tw=some (.tup [.int t,.int d]):=by
  rw [ou (λz=>by rw [z,hp1] at e;cases e)]
  exact e
 refine b8.mono (n:=2*n+1) ⟨t,d,sH1 _ _ etw,?_,z1,z2⟩ 0#c
 have Ym:(2*β:Rat)=β+β:=by grind
 rw [Ym]
 exact ff.qt
theorem lA:fz 4 ["known","earlier",bw,"twice","lowered",dN] mF:=0#a
theorem zW (F:fO K "gentlest_with" mF f fd) (T:Txt mg) (aY:Dn P w K mg base 1 "loose_minus" [aQ,aG] (jV (·-·) 1)) (cF:aco P w K mg base) (gX:acp P w K mg base) :
 bh P w K mg base dm 4 f fd ["known","earlier",bw,"twice"] Eh:=by
 refine F.eU lA λcdv A outer s H vs Q E hr h=>?_
 obtain ⟨kv,l,x,tw,es,m,q,B,n,nb,rfl,hl,hR,hS,hx,htw,kR,hn,hnb,hm,hkv,k0,k1⟩:=h
 obtain ⟨vx,ex,fx,zm⟩:=hx
 apply bF ⟨_,(ah (oY (i:=4) lA.nd rfl (Or.inr rfl) (bW (bL (aH K 0#q) (bZ aY hr (aH K 0#q) 0#A))) (hs:=af7)) (ah (vv (O:=[aQ]) (N':=["lowered"]) (cap:=[4]) (i:=5) lA.nd rfl 0#k rfl (eE K 0#n) (λ_ _ _ _ _=>(cB (i:=0) (show kD [("one":Str),("lowered":Str)] by decide +kernel) rfl 0#k)) (λ_ _ _ _ _=>oX) (λ_ _ _ _ _=>(iA cF 0#z rfl (fL 0#h (fL 0#n gH bP) bP) (he:=bP) (hpl:=(cO bP cR)))) rfl 0#u rfl 0#e rfl 0#e (by rfl)) (ah (cy (bD j9 0#h fU 0#K) (aD (fm (ia K (aa 5) 0#h) (hs:=eK))) cG) (aD (aX (vA (bD fM (fj K T.i7 (aa 5)) au 0#K) (Jd.c1 gX hr (aa 5)) fU)))))),?_⟩
 apply ⟨vx,tw,q,B,n,nb,rfl,fx.qt,htw,by try?,λy1 H1 s1 f1=>?_⟩
 refine aC (mk:=.tup) 0#d λlo H2 s2 n2 e2=>?_
 have gV:=s1.trans s2
 have flo:Z7 H2 lo m (q-B) (n+nb+1) n:=⟨y1,e2,f1.up s2,zm⟩
 rw?
 apply jb ?_
 refine ⟨l,rfl,⟨_,bq.of (gV _ _ hl)⟩,?_⟩
 refine c9 (xs:=vals es) cC (λH3 s3=>bq.of (s3 _ _ (gV _ _ hl))) (by rw [aT];try?) (λi ys G=>∃rs:Qs,ys=eV rs∧Hu G rs (3*n+nb+3)∧rs.map (·.2)=(gD i).map (λj=>eW es (-B) m q j)) ⟨[],rfl,λz hz=>absurd hz 0#d,rfl⟩ ?_ ?_
 ·rintro D i v ys H3 lF N N0 h0 hD eD s3 hv hy ⟨rs,rfl,hrs,hmap⟩ kY kN
  obtain ⟨e,he,rfl⟩:=jd hv
  have hi:i<es.length:=(nH.mp he).1
  obtain ⟨xi,gi,fi⟩:=dG (hR.up (gV.trans s3)) hS hi
  rw [he] at gi
  cases gi
  apply ic h0 ?_
  apply cI ?_
  refine ⟨e.1,lo,_,_,_,_,n,n+nb+1,n,rfl,fi.saq,flo.up s3,hm i hi,by try?,λz H4 s4 f4=>?_⟩
  refine kY _ H4 s4 ⟨rs++[(z,eW es (-B) m q i)],by simp [eV],λu hu=>?_,?_⟩
  ·rcases fK.mp hu with w | w
   ·exact (hrs u w).up (yd s4)
   ·obtain rfl:u=(z,eW es (-B) m q i):=by simpa using w
    obtain ⟨t,d,e',ff⟩:=f4.mono (show n+(n+nb+1)+n+2≤3*n+nb+3 by try?)
    refine ⟨t,d,gA (s4 _ _ eD) e',?_⟩
    have eq:(q-B-wo es i)/((m:Rat)-(mo es i:Rat))=eW es (-B) m q i:=by
     unfold eW
     rw [show q+-B-wo es i=q-B-wo es i by grind]
    rw [← eq]
    exact ff
  ·rw [jD,hmap,AQ,jD]
   rfl
 ·rintro D ys H3 hD eD s3 hy ⟨rs,rfl,hrs,hmap⟩
  rw [aT] at hmap
  have Nx:Hu H3 rs (3*n+nb+3):=λu hu=>(hrs u hu).up jG
  have qu:=gV.trans s3
  have hlen:rs.length=es.length:=by
   have:=congrArg oK hmap
   simpa using this
  have inR:∀i,i<es.length→∃u∈rs,u.2=eW es (-B) m q i:=λi hi=>by
   have:eW es (-B) m q i∈rs.map (·.2):=by rw [hmap];exact jB.mpr ⟨i,uN.mpr hi,rfl⟩
   obtain ⟨u,hu,e⟩:=jB.mp this
   exact ⟨u,hu,e⟩
  have ofR:∀u∈rs,∃i,i<es.length∧eW es (-B) m q i=u.2:=λu hu=>by
   have:u.2∈rs.map (·.2):=jB.mpr ⟨u,hu,rfl⟩
   rw [hmap] at this
   obtain ⟨i,hi,e⟩:=jB.mp this
   exact ⟨i,uN.mp hi,e⟩
  rw?
  rcases hkv with rfl | ⟨hpos,pk,Kq,rfl,hK⟩
  ·apply 0#F
   apply bR ?_
   apply dW (.inl (bq.of eD)) ?_
   refine c6 0#w 0#w
   ·have c':=dM c
    have hpos:0<rs.length:=by
     have e:(eV rs).length=rs.length:=gI ..
     rw [e] at c'
     try?
    rw?
    apply ⟨D,rs,3*n+nb+3,rfl,eD,Nx,by try?,hpos,λu hu xG=>?_⟩
    refine k1 0#c u.1 u.2 H3 qu (Nx u hu) (λpk Kq e=>by cases e) (λi hi=>?_) (.inl (ofR u hu))
    obtain ⟨z,hz,e⟩:=inR i hi
    rw [← e]
    exact xG z hz
   ·have c':=jO (jr.mpr c)
    rw?
    refine k0 ?_ rfl H3 qu
    have e:(eV rs).length=rs.length:=gI ..
    rw [e] at c'
    try?
  ·apply 0#F
   apply cI ?_
   apply ⟨.inl ⟨rfl,_,bq.of eD⟩,?_⟩
   have e:(eV rs).length=rs.length:=gI ..
   refine cM eD (by rw [e];exact aN 0#c) ?_
   have e4:upd H3 D (.lst (eV rs++[.ref pk])) D=some (.lst (eV (rs++[(pk,Kq)]))):=by rw [av];simp [eV]
   have hK3:=hK.up qu
   generalize hG:upd H3 D (.lst (eV rs++[.ref pk]))=H4 at *
   have Ai:ao H2 H4:=by rw [← hG];exact bf s3 hD
   have hq4:Hu H4 (rs++[(pk,Kq)]) (3*n+nb+3):=λu hu=>by
    rcases fK.mp hu with w | w
    ·rw [← hG];exact (Nx u w).app eD
    ·obtain rfl:u=(pk,Kq):=by simpa using w
     rw [← hG];exact hK3.app eD
   rw?
   apply dW (.inl (bq.of e4)) ?_
   have e':(eV (rs++[(pk,Kq)])).length=rs.length+1:=by simp [eV]
   rw [e',show decide ((((rs.length+1:Nat):Int))>0)=true from je 0#c]
   apply cI ?_
   apply ⟨D,rs++[(pk,Kq)],3*n+nb+3,rfl,e4,hq4,by try?,by simp,λu hu xG=>?_⟩
   refine k1 hpos u.1 u.2 H4 (gV.trans Ai) (hq4 u hu) (λpk' Kq' e1 q1=>?_) (λi hi=>?_) ?_
   ·cases e1
    rw [GW q1 hK]
    exact xG (pk,Kq) 0#d
   ·obtain ⟨z,hz,e1⟩:=inR i hi
    rw [← e1]
    exact xG z (G7 _ hz)
   ·rcases fK.mp hu with w | w
    ·exact .inl (ofR u w)
    ·obtain rfl:u=(pk,Kq):=by simpa using w
     exact .inr ⟨pk,rfl,hK⟩
theorem lD:fz 4 ["known","earlier",bw,"twice","raised",dN] mK:=0#a
theorem z5 (F:fO K "steepest_with" mK f fd) (T:Txt mg) (cu:Dn P w K mg base 1 "loose_plus" [aQ,aG] (jV (·+·) 1)) (cF:aco P w K mg base) (kO:Dn P w K mg base 2 "smallest" [ir] Cy) :
 bh P w K mg base dm 4 f fd ["known","earlier",bw,"twice"] JV:=by
 refine F.eU lD λcdv A outer s H vs Q E hr h=>?_
 obtain ⟨kv,l,x,tw,es,m,q,B,n,nb,rfl,hl,hR,hS,hx,htw,kR,hn,hnb,hm,hkv,k0,k1⟩:=h
 obtain ⟨vx,ex,fx,zm⟩:=hx
 apply bF ⟨_,(ah (oY (i:=4) lD.nd rfl (Or.inr rfl) (bW (bL (aH K 0#q) (bZ cu hr (aH K 0#q) 0#A))) (hs:=af7)) (ah (vv (O:=[aQ]) (N':=["raised"]) (cap:=[4]) (i:=5) lD.nd rfl 0#k rfl (eE K 0#n) (λ_ _ _ _ _=>(cB (i:=0) (show kD [("one":Str),("raised":Str)] by decide +kernel) rfl 0#k)) (λ_ _ _ _ _=>oX) (λ_ _ _ _ _=>(iA cF 0#z rfl (fL 0#h (fL 0#n gH bP) bP) (he:=bP) (hpl:=(cO bP cR)))) rfl 0#u rfl 0#e rfl 0#e (by rfl)) (ah (cy (bD j9 0#h fU 0#K) (aD (fm (ia K (aa 5) 0#h) (hs:=eK))) cG) (aD (aX (vA (bD fM (fj K T.i7 (aa 5)) au 0#K) (Jd.c1 kO hr (aa 5)) fU)))))),?_⟩
 apply ⟨vx,tw,q,B,n,nb,rfl,fx.qt,htw,by try?,λy1 H1 s1 f1=>?_⟩
 refine aC (mk:=.tup) 0#d λlo H2 s2 n2 e2=>?_
 have gV:=s1.trans s2
 have flo:Z7 H2 lo m (q+B) (n+nb+1) n:=⟨y1,e2,f1.up s2,zm⟩
 rw?
 apply jb ?_
 refine ⟨l,rfl,⟨_,bq.of (gV _ _ hl)⟩,?_⟩
 refine c9 (xs:=vals es) cC (λH3 s3=>bq.of (s3 _ _ (gV _ _ hl))) (by rw [aT];try?) (λi ys G=>∃rs:Qs,ys=eV rs∧Hu G rs (3*n+nb+3)∧rs.map (·.2)=(gD i).map (λj=>eW es B m q j)) ⟨[],rfl,λz hz=>absurd hz 0#d,rfl⟩ ?_ ?_
 ·rintro D i v ys H3 lF N N0 h0 hD eD s3 hv hy ⟨rs,rfl,hrs,hmap⟩ kY kN
  obtain ⟨e,he,rfl⟩:=jd hv
  have hi:i<es.length:=(nH.mp he).1
  obtain ⟨xi,gi,fi⟩:=dG (hR.up (gV.trans s3)) hS hi
  rw [he] at gi
  cases gi
  apply ic h0 ?_
  apply cI ?_
  refine ⟨e.1,lo,_,_,_,_,n,n+nb+1,n,rfl,fi.saq,flo.up s3,hm i hi,by try?,λz H4 s4 f4=>?_⟩
  refine kY _ H4 s4 ⟨rs++[(z,eW es B m q i)],by simp [eV],λu hu=>?_,?_⟩
  ·rcases fK.mp hu with w | w
   ·exact (hrs u w).up (yd s4)
   ·obtain rfl:u=(z,eW es B m q i):=by simpa using w
    obtain ⟨t,d,e',ff⟩:=f4.mono (show n+(n+nb+1)+n+2≤3*n+nb+3 by try?)
    refine ⟨t,d,gA (s4 _ _ eD) e',?_⟩
    have eq:(q+B-wo es i)/((m:Rat)-(mo es i:Rat))=eW es B m q i:=by
     rfl
    rw [← eq]
    exact ff
  ·rw [jD,hmap,AQ,jD]
   rfl
 ·rintro D ys H3 hD eD s3 hy ⟨rs,rfl,hrs,hmap⟩
  rw [aT] at hmap
  have Nx:Hu H3 rs (3*n+nb+3):=λu hu=>(hrs u hu).up jG
  have qu:=gV.trans s3
  have hlen:rs.length=es.length:=by
   have:=congrArg oK hmap
   simpa using this
  have inR:∀i,i<es.length→∃u∈rs,u.2=eW es B m q i:=λi hi=>by
   have:eW es B m q i∈rs.map (·.2):=by rw [hmap];exact jB.mpr ⟨i,uN.mpr hi,rfl⟩
   obtain ⟨u,hu,e⟩:=jB.mp this
   exact ⟨u,hu,e⟩
  have ofR:∀u∈rs,∃i,i<es.length∧eW es B m q i=u.2:=λu hu=>by
   have:u.2∈rs.map (·.2):=jB.mpr ⟨u,hu,rfl⟩
   rw [hmap] at this
   obtain ⟨i,hi,e⟩:=jB.mp this
   exact ⟨i,uN.mp hi,e⟩
  rw?
  rcases hkv with rfl | ⟨hpos,pk,Kq,rfl,hK⟩
  ·apply 0#F
   apply bR ?_
   apply dW (.inl (bq.of eD)) ?_
   refine c6 0#w 0#w
   ·have c':=dM c
    have hpos:0<rs.length:=by
     have e:(eV rs).length=rs.length:=gI ..
     rw [e] at c'
     try?
    rw?
    apply ⟨D,rs,3*n+nb+3,rfl,eD,Nx,by try?,hpos,λu hu xG=>?_⟩
    refine k1 0#c u.1 u.2 H3 qu (Nx u hu) (λpk Kq e=>by cases e) (λi hi=>?_) (.inl (ofR u hu))
    obtain ⟨z,hz,e⟩:=inR i hi
    rw [← e]
    exact xG z hz
   ·have c':=jO (jr.mpr c)
    rw?
    refine k0 ?_ rfl H3 qu
    have e:(eV rs).length=rs.length:=gI ..
    rw [e] at c'
    try?
  ·apply 0#F
   apply cI ?_
   apply ⟨.inl ⟨rfl,_,bq.of eD⟩,?_⟩
   have e:(eV rs).length=rs.length:=gI ..
   refine cM eD (by rw [e];exact aN 0#c) ?_
   have e4:upd H3 D (.lst (eV rs++[.ref pk])) D=some (.lst (eV (rs++[(pk,Kq)]))):=by rw [av];simp [eV]
   have hK3:=hK.up qu
   generalize hG:upd H3 D (.lst (eV rs++[.ref pk]))=H4 at *
   have Ai:ao H2 H4:=by rw [← hG];exact bf s3 hD
   have hq4:Hu H4 (rs++[(pk,Kq)]) (3*n+nb+3):=λu hu=>by
    rcases fK.mp hu with w | w
    ·rw [← hG];exact (Nx u w).app eD
    ·obtain rfl:u=(pk,Kq):=by simpa using w
     rw [← hG];exact hK3.app eD
   rw?
   apply dW (.inl (bq.of e4)) ?_
   have e':(eV (rs++[(pk,Kq)])).length=rs.length+1:=by simp [eV]
   rw [e',show decide ((((rs.length+1:Nat):Int))>0)=true from je 0#c]
   apply cI ?_
   apply ⟨D,rs++[(pk,Kq)],3*n+nb+3,rfl,e4,hq4,by try?,by simp,λu hu xG=>?_⟩
   refine k1 hpos u.1 u.2 H4 (gV.trans Ai) (hq4 u hu) (λpk' Kq' e1 q1=>?_) (λi hi=>?_) ?_
   ·cases e1
    rw [GW q1 hK]
    exact xG (pk,Kq) 0#d
   ·obtain ⟨z,hz,e1⟩:=inR i hi
    rw [← e1]
    exact xG z (G7 _ hz)
   ·rcases fK.mp hu with w | w
    ·exact .inl (ofR u w)
    ·obtain rfl:u=(pk,Kq):=by simpa using w
     exact .inr ⟨pk,rfl,hK⟩
theorem lH (h:i<es.length):mo (es++fs) i=mo es i:=by unfold mo;rw [vn h]
theorem lP (h:i<es.length):wo (es++fs) i=wo es i:=by unfold wo;rw [vn h]
theorem Ir {es:List En}:mo (es++[(a,m,some q)]) es.length=m:=by unfold mo;simp
theorem J4 {es:List En}:wo (es++[(a,m,some q)]) es.length=q:=by unfold wo;simp
theorem qg (hij:i<j) (hj:j<es.length):jx (es++[(a,m,some q)]) B i j=jx es B i j:=by
 unfold jx
 rw [lH hj,lP hj,lH 0#c,lP 0#c]
theorem nC (hij:i<j) (hj:j<es.length):gE (es++[(a,m,some q)]) B i j=gE es B i j:=by
 unfold gE
 rw [lH hj,lP hj,lH 0#c,lP 0#c]
theorem Cj (hi:i<es.length):jx (es++[(a,m,some q)]) B i es.length=eW es (-B) m q i:=by
 unfold jx eW
 rw [Ir,J4,lH hi,lP hi,show q+-B=q-B by grind]
theorem xF (hi:i<es.length):gE (es++[(a,m,some q)]) B i es.length=eW es B m q i:=by
 unfold gE eW
 rw [Ir,J4,lH hi,lP hi]
theorem YV (h0:0<es.length) (h1:2≤es.length→∃G0,IsG es B G0∧G0≤G) (hall:∀i,i<es.length→eW es (-B) m q i≤G) (hex:(∃i,i<es.length∧eW es (-B) m q i=G)∨(2≤es.length∧IsG es B G)):IsG (es++[(a,m,some q)]) B G:=by
 refine ⟨λi j hij hj=>?_,?_⟩
 ·rw [fh] at hj
  have hj':j<es.length+1:=hj
  by_cases e:j=es.length
  ·subst e
   rw [Cj hij]
   exact hall i hij
  ·rw [qg hij 0#c]
   obtain ⟨G0,g,le⟩:=h1 0#c
   have:=g.1 i j hij 0#c
   grind
 ·rcases hex with ⟨i,hi,e⟩ | ⟨h2,g⟩
  ·exact ⟨i,es.length,hi,by rw [fh];show _<es.length+1;try?,by rw [Cj hi];exact e⟩
  ·obtain ⟨i,j,a1,a2,a3⟩:=g.2
   exact ⟨i,j,a1,by rw [fh];show _<es.length+1;try?,by rw [qg a1 a2];exact a3⟩
theorem YW (h0:0<es.length) (h1:2≤es.length→∃S0,IsS es B S0∧S≤S0) (hall:∀i,i<es.length→S≤eW es B m q i) (hex:(∃i,i<es.length∧eW es B m q i=S)∨(2≤es.length∧IsS es B S)):IsS (es++[(a,m,some q)]) B S:=by
 refine ⟨λi j hij hj=>?_,?_⟩
 ·rw [fh] at hj
  have hj':j<es.length+1:=hj
  by_cases e:j=es.length
  ·subst e
   rw [xF hij]
   exact hall i hij
  ·rw [nC hij 0#c]
   obtain ⟨S0,g,le⟩:=h1 0#c
   have:=g.1 i j hij 0#c
   grind
 ·rcases hex with ⟨i,hi,e⟩ | ⟨h2,g⟩
  ·exact ⟨i,es.length,hi,by rw [fh];show _<es.length+1;try?,by rw [xF hi];exact e⟩
  ·obtain ⟨i,j,a1,a2,a3⟩:=g.2
   exact ⟨i,j,a1,by rw [fh];show _<es.length+1;try?,by rw [nC a1 a2];exact a3⟩
theorem DU (h:rising es) (hm:∀i,i<es.length→mo es i<m):rising (es++[(a,m,some q)]):=by
 refine WN.mpr ⟨h,WJ _ _,λx hx y hy=>?_⟩
 obtain rfl:y=(a,m,some q):=by simpa using hy
 obtain ⟨i,hi,rfl⟩:=List.getElem_of_mem hx
 have:=hm i hi
 unfold mo at this
 rw [jY hi] at this
 exact this
theorem qd (h:iK es):iK (es++[(a,m,some q)]):=λx hx=>by
 rcases fK.mp hx with z | z
 ·exact h x z
 ·obtain rfl:x=(a,m,some q):=by simpa using z
  rfl
theorem aae (s:ao H H2):ao (TL p L H) (upd (upd (upd H2 p o1) p o2) L o3):=λb o e=>by
 unfold TL rm at e
 by_cases h1:b=p
 ·rw [if_pos h1] at e;cases e
 ·rw [if_neg h1] at e
  by_cases h2:b=L
  ·rw [if_pos h2] at e;cases e
  ·rw [if_neg h2] at e
   rw [aK h2,aK h1,aK h1]
   exact s _ _ e
theorem ly:fz 2 [cz,bw,iV,iW] mD:=0#a
abbrev acq P w K mg base:=Dn P w K mg base 4 "gentlest_with" ["known","earlier",bw,"twice"] Eh
abbrev acr P w K mg base:=Dn P w K mg base 4 "steepest_with" ["known","earlier",bw,"twice"] JV
theorem zU (F:su K "takes" "Stretch.takes" mD f fd) (T:Txt mg) (bg:mV K mg aR) (cW:acq P w K mg base) (cX:acr P w K mg base)
 (dI:MQ P w K mg base):bh P w K mg base dm 5 f fd [cz,bw] (JY aR):=by
 refine F.eU ly λcdv A outer s H vs Q E hr h=>?_
 obtain ⟨p,L,x,es,m,q,B,n,nb,rfl,hSt,hx,hm,kR,hn,hnb,hB,k⟩:=h
 obtain ⟨dx,tw,fs,g,s',ep,hF,eL,hR,hS,d9,htw,hI⟩:=id hSt
 have Vf:L≠p:=λz=>by rw [z,ep] at eL;cases eL
 have fl:=hF.len
  -- the sample is taken: the two slopes stand at gv, sv
 have take:∀(gv sv:V) (H2:Hp),ao H H2→BC (es++[(x,m,some q)]) B →
  ((es.length=0∧gv=.bK∧sv=.bK)∨(0<es.length∧∃(pg ps:aq) (G S:Rat),gv=.ref pg∧sv=.ref ps∧b8 H2 pg G (3*n+nb+3)∧b8 H2 ps S (3*n+nb+3)∧IsG (es++[(x,m,some q)]) B G∧IsS (es++[(x,m,some q)]) B S∧G≤S)) →
  Q (.bl true) (upd (upd (upd H2 p (.ins aR dx (aA "gentlest" gv fs))) p (.ins aR dx (aA "steepest" sv (aA "gentlest" gv fs)))) L (.lst (vals es++[.ref x]))):=by
  intro gv sv H2 s2 hfit aeZ
  have Us:=s2 _ _ ep
  have eL2:=s2 _ _ eL
  have k3:=aae (p:=p) (L:=L) (o1:=.ins aR dx (aA "gentlest" gv fs)) (o2:=.ins aR dx (aA "steepest" sv (aA "gentlest" gv fs))) (o3:=.lst (vals es++[.ref x])) (ao.refl H2)
  refine k true _ (aae s2) ⟨λ_=>hfit,λ_=>rfl⟩ ?_
  rw [if_pos rfl]
  refine ⟨dx,tw,_,gv,sv,by rw [aK (j4 Vf),av],hF.setG.ad8,by rw [av];exact congrArg (λz=>some (HO.lst z)) (gQ es (x,m,some q)),?_,qd hS,DU d9 hm,((htw.up s2).out Us eL2).up k3,?_⟩
  ·exact Row.up ((Row.out Us eL2 (hR.up s2)).snoc (nS.out Us eL2 (hx.up s2).en)) k3
  ·rw [fh]
   rcases aeZ with ⟨h0,e1,e2⟩ | ⟨h0,pg,ps,G,S,e1,e2,q1,q2,g1,g2,g3⟩
   ·exact .inl ⟨by show es.length+1<2;try?,e1,e2⟩
   ·exact .inr ⟨by show 2≤es.length+1;try?,pg,ps,G,S,e1,e2,(q1.out Us eL2).up k3,(q2.out Us eL2).up k3,g1,g2,g3⟩
 apply bF ⟨_,(ah (aL 2 ly.nd (iA cW 0#z rfl (Jd.a4 0#P 0#P 0#n 0#P) (he:=(by rfl)) (hpl:=(cO (by rfl) (cO bP (cO (by rfl) cR)))))) (ah (aL 3 ly.nd (iA cX 0#z rfl (Jd.a4 0#P 0#P 0#n 0#P) (he:=(by rfl)) (hpl:=(cO (by rfl) (cO bP (cO (by rfl) cR)))))) (ah (cy (Jd.BE (Jd.oq (bD fM (fj K T.i7 0#P) au 0#K) (Jd.lJ (bD fM (bZ dI hr 0#q 0#A) au 0#K)))) (aD (aX lR)) cG) (ah (jg K 0#h 0#q) (ah (jg K 0#h 0#A) (ah (fm (ia K 0#P 0#n) (hs:=eK)) (aD (aX lR)))))))),?_⟩
 apply kG bg ep hF.g ?_
 apply kG bg ep hF.sl ?_
 apply kG bg ep hF.tw ?_
 refine ⟨g,L,x,tw,es,m,q,B,n,nb,rfl,eL,hR,hS,hx,htw,kR,dR hn 0#f,dR hnb 0#f,hm,?_,λh0 hg H1 s1=>?_,λhpos pg G H1 s1 f1 hK hall hex=>?_⟩
 ·rcases hI with ⟨_,z,_⟩ | ⟨z,pg,ps,G,S,e1,_,q1,_⟩
  ·exact .inl z
  ·exact .inr ⟨by try?,pg,G,e1,q1⟩
 ·have ep1:=s1 _ _ ep
  have hs':s'=.bK:=by
   rcases hI with ⟨_,_,z⟩ | ⟨z,_⟩
   ·exact z
   ·try?
  rw?
  apply kG bg ep1 hF.s ?_
  apply kG bg ep1 hF.sl ?_
  apply kG bg ep1 hF.tw ?_
  refine ⟨s',L,x,tw,es,m,q,B,n,nb,rfl,s1 _ _ eL,hR.up s1,hS,hx.up s1,htw.up s1,kR,dR hn 0#f,dR hnb 0#f,hm,.inl hs',λ_ _ H2 s2=>?_,λhpos=>absurd hpos 0#c⟩
  have gV:=s1.trans s2
  have Us:=gV _ _ ep
  rw?
  apply kG bg Us hF.sl ?_
  refine dW (.inl (bq.of (gV _ _ eL))) ?_
  rw [aT]
  rw?
  rw [show decide (((es.length:Nat):Int)>0)=false from pY 0#c]
  refine bR ?_
  apply bR ?_
  apply Bd bg Us 0#c ?_
  apply Bd bg av (by rw [gO hF.g];try?) ?_
  apply kG bg av hF.setG.ad8.sl ?_
  have Ff:upd (upd H2 p (.ins aR dx (aA "gentlest" .bK fs))) p (.ins aR dx (aA "steepest" .bK (aA "gentlest" .bK fs))) L=some 0#s:=by
   rw [aK Vf,aK Vf]
   exact gV _ _ eL
  apply ⟨.inl ⟨rfl,_,bq.of Ff⟩,?_⟩
  apply cM Ff (by rw [aT];exact aN 0#c) ?_
  refine take .bK .bK H2 gV (λi j k l a1 a2 b1 b2=>?_) (.inl ⟨h0,rfl,rfl⟩)
  rw [fh,h0] at a2
  have a2':j<0+1:=a2
  try?
 ·have ep1:=s1 _ _ ep
  rw?
  apply kG bg ep1 hF.s ?_
  apply kG bg ep1 hF.sl ?_
  apply kG bg ep1 hF.tw ?_
  refine ⟨s',L,x,tw,es,m,q,B,n,nb,rfl,s1 _ _ eL,hR.up s1,hS,hx.up s1,htw.up s1,kR,dR hn 0#f,dR hnb 0#f,hm,?_,λh0=>absurd h0 0#c,λ_ ps S H2 s2 f2 hK2 Dc hex2=>?_⟩
  ·rcases hI with ⟨_,_,z⟩ | ⟨z,pg,ps,G,S,_,e1,_,q1,_⟩
   ·exact .inl z
   ·exact .inr ⟨by try?,ps,S,e1,q1.up s1⟩
  have gV:=s1.trans s2
  have Us:=gV _ _ ep
  have gG:IsG (es++[(x,m,some q)]) B G:=by
   refine YV hpos (λh2=>?_) hall ?_
   ·rcases hI with ⟨z,_⟩ | ⟨_,pg0,ps0,G0,S0,e1,e2,q1,q2,g1,g2,g3⟩
    ·try?
    ·exact ⟨G0,g1,hK pg0 G0 e1 q1⟩
   ·rcases hex with z | ⟨pk,e,qk⟩
    ·exact .inl z
    ·rcases hI with ⟨_,z,_⟩ | ⟨z,pg0,ps0,G0,S0,e1,e2,q1,q2,g1,g2,g3⟩
     ·rw [z] at e;cases e
     ·rw [e1] at e
      cases e
      rw [GW qk q1]
      exact .inr ⟨z,g1⟩
  have gS:IsS (es++[(x,m,some q)]) B S:=by
   refine YW hpos (λh2=>?_) Dc ?_
   ·rcases hI with ⟨z,_⟩ | ⟨_,pg0,ps0,G0,S0,e1,e2,q1,q2,g1,g2,g3⟩
    ·try?
    ·exact ⟨S0,g2,hK2 ps0 S0 e2 (q2.up s1)⟩
   ·rcases hex2 with z | ⟨pk,e,qk⟩
    ·exact .inl z
    ·rcases hI with ⟨_,_,z⟩ | ⟨z,pg0,ps0,G0,S0,e1,e2,q1,q2,g1,g2,g3⟩
     ·rw [z] at e;cases e
     ·rw [e2] at e
      cases e
      rw [GW qk (q2.up s1)]
      exact .inr ⟨z,g2⟩
  have fit:=P4 gG gS
  rw?
  apply kG bg Us hF.sl ?_
  refine dW (.inl (bq.of (gV _ _ eL))) ?_
  rw [aT]
  rw?
  rw [show decide (((es.length:Nat):Int)>0)=true from je 0#c]
  apply cI ?_
  apply ⟨pg,ps,G,S,_,_,rfl,f1.up s2,f2,by try?,λo Tw ho2=>?_⟩
  refine c6 0#w 0#w
  ·have c':S<G:=Tw.mp (dM c)
   rw?
   refine k false H2 (λb o e=>gV _ _ (VV _ _ e)) ⟨λz=>absurd z 0#f,λz=>?_⟩ ?_
   ·have:=fit.mp z
    grind
   ·rw [if_neg fQ]
    exact hSt.up gV
  ·have c':G≤S:=kB.mp λz=>jO (jr.mpr c) (Tw.mpr z)
   rw?
   apply Bd bg Us 0#c ?_
   apply Bd bg av (by rw [gO hF.g];try?) ?_
   apply kG bg av hF.setG.ad8.sl ?_
   have Ff:upd (upd H2 p (.ins aR dx (aA "gentlest" (.ref pg) fs))) p (.ins aR dx (aA "steepest" (.ref ps) (aA "gentlest" (.ref pg) fs))) L=some 0#s:=by
    rw [aK Vf,aK Vf]
    exact gV _ _ eL
   apply ⟨.inl ⟨rfl,_,bq.of Ff⟩,?_⟩
   apply cM Ff (by rw [aT];exact aN 0#c) ?_
   exact take (.ref pg) (.ref ps) H2 gV (fit.mpr c') (.inr ⟨hpos,pg,ps,G,S,rfl,rfl,f1.up s2,f2,gG,gS,c'⟩)
theorem B6:fz 1 [cz] oA:=0#a
theorem BU (F:su K "kept" "Stretch.kept" oA f fd) (T:Txt mg) (bg:mV K mg aR):bh P w K mg base dm 1 f fd [cz] (O2 aR):=by
 refine F.eU B6 λcdv A outer s H vs Q E hr h=>?_
 obtain ⟨p,L,es,B,n,nb,rfl,⟨dx,tw,fs,g,s',ep,hF,eL,_⟩,k⟩:=h
 apply bF ⟨_,(aD (aX (Jd.kW qQ rfl T.Qq Q6 (dZ 0#P)))),?_⟩
 apply kG bg ep hF.sl ?_
 exact ⟨L,_,rfl,.inl (bq.of eL),λR nR=>k R _ (jz nR _) nR av⟩
theorem vR.fresh (h:vR C H p L [] B n nb) (hn:nb≤nb'):vR C H p L [] B n' nb':=by
 obtain ⟨dx',tw,fs,g,s',h1,h2,h3,h4,h5,h6,h7,h8⟩:=h
 refine ⟨dx',tw,fs,g,s',h1,h2,h3,λx hx=>absurd hx 0#d,h5,h6,h7.mono hn,?_⟩
 rcases h8 with z | ⟨z,_⟩
 ·exact .inl z
 ·exact absurd z 0#f
theorem vR.fit (h:vR C H p L es B n nb):BC es B:=by
 obtain ⟨dx,tw,fs,g,s',h1,h2,h3,h4,h5,h6,h7,h8⟩:=h
 rcases h8 with ⟨z,_⟩ | ⟨z,pg,ps,G,S,e1,e2,q1,q2,g1,g2,g3⟩
 ·intro i j k l a1 a2 b1 b2
  try?
 ·exact (P4 g1 g2).mpr g3
def piece (es:List En) (n m:Nat):List En:=(es.drop n).take (m-n)
def Cut (es:List En) (B:Rat) (qs:List (List En)) (n:Nat):Prop:=∃pos:Nat→Nat,pos 0=0∧pos qs.length=n∧∀i q,qs[i]?=some q→pos i<pos (i+1)∧pos (i+1)≤es.length∧q=piece es (pos i) (pos (i+1))∧BC q B∧(pos (i+1)<es.length→¬BC (piece es (pos i) (pos (i+1)+1)) B)
theorem Cut.nil:Cut es B [] 0:=⟨λ_=>0,rfl,rfl,λi q h=>by simp at h⟩
theorem Cut.snoc (h:Cut es B qs n) (h1:n<n') (h2:n'≤es.length) (hf:BC (piece es n n') B) (hn:n'<es.length→¬BC (piece es n (n'+1)) B):Cut es B (qs++[piece es n n']) n':=by
 obtain ⟨pos,p0,pn,h⟩:=h
 refine ⟨λj=>if j≤qs.length then pos j else n',?_,?_,λi q hi=>?_⟩
 ·show (if 0≤qs.length then pos 0 else n')=0
  rw [if_pos (lX _)]
  exact p0
 ·show (if (qs++[piece es n n']).length≤qs.length then pos (qs++[piece es n n']).length else n')=n'
  rw [if_neg (by rw [fh];show ¬qs.length+1≤qs.length;try?)]
 ·by_cases hi':i<qs.length
  ·rw [vn hi'] at hi
   simp only [if_pos (show i≤qs.length by try?),if_pos (show i+1≤qs.length by try?)]
   exact h i q hi
  ·have hi2:=(nH.mp hi).1
   rw [fh] at hi2
   have hi3:i<qs.length+1:=hi2
   obtain rfl:i=qs.length:=by try?
   rw [yR (dS _),RA] at hi
   obtain rfl:piece es n n'=q:=by simpa using hi
   simp only [if_pos (dS _),if_neg (show ¬qs.length+1≤qs.length by try?),pn]
   exact ⟨h1,h2,trivial,hf,hn⟩
theorem qo (h:j<m-n):(piece es n m)[j]?=es[n+j]?:=by
 unfold piece
 rw [G9,if_pos h,rQ]
theorem kX (h:m≤es.length):(piece es n m).length=m-n:=by
 unfold piece
 rw [oQ,mO]
 try?
theorem qY (h:n≤i) (he:es[i]?=some e):piece es n (i+1)=piece es n i++[e]:=by
 unfold piece
 rw [show i+1-n=(i-n)+1 by try?,sC,rQ,show n+(i-n)=i by try?,he]
 rfl
theorem piece_nil:piece es n n=[]:=by unfold piece;simp
theorem xR (h:j<m-n):mo (piece es n m) j=mo es (n+j):=by unfold mo;rw [qo h]
theorem P5 (h:es.length≤1):BC es B:=λi j k l a1 a2 b1 b2=>by try?
theorem LL.mv (h:LL H H2 T ls) (ep:H2 p=some 0#V) (nT:T≠L) (nl:∀x∈ls,x.1≠L) (s:ao (TL p L H2) H3):LL H H3 T ls:=by
 have e:=h.at_
 refine ⟨h.new,s _ _ (by rw [DV (λq=>by rw [q,ep] at e;cases e) nT];exact e),λx hx=>?_,h.nd⟩
 obtain ⟨a,b,c⟩:=h.each x hx
 exact ⟨a,s _ _ (by rw [DV (λq=>by rw [q,ep] at b;cases b) (nl x hx)];exact b),c⟩
inductive uE (C:aq) (vs:List V) (H:Hp) (Q:VK) (E_:XK):Prop where
 | mk (l pb:aq) (es:List En) (β:Rat) (N n:Nat):vs=[.ref l,.ref pb]→H l=some 0#s→Row H es N→iK es→rising es→b8 H pb β n→0≤β→N≤1000→n≤1000→es.length≤40→(∀(T:aq) (ls:Ls) (H':Hp),ao H H'→LL H H' T ls→Cut es (2*β) (ls.map (·.2)) es.length→ls.length≤40→Q (.ref T) H')→uE C vs H Q E_
theorem ku:fz 2 [aZ,aO,"told",iu,bw] uy:=0#a
theorem IW (F:fO K "stretches" uy f fd) (T:Txt mg) (bg:mV K mg aR) (uQ:Dk P w K mg base 6 "Stretch" aR [cz,aO] (Ek aR)) (jE:Dm P w K mg base 5 aR "takes" [cz,bw] (JY aR)) (j5:Dm P w K mg base 1 aR "kept" [cz] (O2 aR)) :
 bh P w K mg base dm 8 f fd [aZ,aO] (uE aR):=by
 refine F.eU ku λcdv A outer s H vs Q E hr h=>?_
 obtain ⟨l,pb,es,β,N,n,rfl,hl,hes,hS,d9,hpb,iy,hN,hn,mX,k⟩:=h
 have hB0:(0:Rat)≤2*β:=by grind
  -- a new Stretch
 have fresh:∀{G:Hp} {QQ:Hp→Prop} {p dx:aq},ao H G→G p=none→G dx=none→(∀(L:aq) (G':Hp),ao G G'→G L=none→vR aR G' p L [] (2*β) N (2*n+1)→QQ G') →
  Ek aR [.ref p,.ref pb] (upd (upd G dx (.own p)) p (.ins aR dx [])) (λv G'=>v=.bK∧QQ G') E0:=λ{G QQ p dx} s np ndx kk=>by
  have s1:ao G (upd (upd G dx (.own p)) p (.ins aR dx [])):=λb' o e=>by
   rw [aK (bJ e np),aK (bJ e ndx)]
   exact e
  refine ⟨p,dx,pb,β,n,rfl,av,hpb.up (s.trans s1),hn,λL G' kn s2 nL hst=>0#F⟩
  exact kk L G' (λb' o e=>s2 _ _ (by rw [ou (bJ e np)];exact s1 _ _ e)) (s1.free nL) (vR.fresh hst (dS _))
 apply bF ⟨_,(ah (aL 2 ku.nd (dO gH)) (ah (aL 3 ku.nd (Jd.VD uQ 0#z rfl (dZ 0#n) (he:=bP) (hpl:=cR))) (ah (iP gR rfl (eE K 0#h) (cB (i:=4) ku.nd rfl 0#k) (aD (cy (Jd.DR (qf (Jd.xY jE bg.cl 0#z 0#A (dZ (aa 4)) (he:=bP) (hpl:=cR)))) (ah (fm (ia K 0#q (Jd.Og j5 bg.cl 0#z 0#A)) (hs:=eK)) (ah (aL 3 ku.nd (Jd.VD uQ 0#z rfl (dZ 0#n) (he:=bP) (hpl:=cR))) (aD (fm (Jd.xY jE bg.cl 0#z 0#A (dZ (aa 4)) (he:=bP) (hpl:=cR)) (hs:=eK))))) cG))) (ah (cy (bD fM (fj K T.i7 0#h) au 0#K) (aD (fm (ia K 0#q (Jd.Og j5 bg.cl 0#z 0#A)) (hs:=eK))) cG) (aD (aX 0#q)))))),?_⟩
 apply aC (mk:=.lst) 0#d λTT H1 s1 n1 e1=>?_
 refine λp dx np ndx _=>fresh s1 np ndx λL H2 s2 nL hst=>?_
 have gV:=s1.trans s2
 rw?
 apply fq (jb ?_)
 refine ⟨l,rfl,⟨_,bq.of (gV _ _ hl)⟩,d8 (xs:=vals es) (λi σ H3=>Xs5 λ(p L:aq) (ls:Ls) (n0:Nat) (v:Option V)=>σ=[some 0#O,some (.ref pb),some (.ref TT),some (.ref p),v]∧ao H H3∧LL H H3 TT ls∧Cut es (2*β) (ls.map (·.2)) n0∧n0≤i∧(0<i→n0<i)∧ls.length≤n0∧vR aR H3 p L (piece es n0 i) (2*β) N (2*n+1)∧H p=none∧H L=none∧TT≠L∧∀x∈ls,x.1≠L) ?_ ?_ ?_ ?_⟩
 ·refine ⟨p,L,[],0,none,rfl,gV,⟨n1,s2 _ _ e1,λx hx=>absurd hx 0#d,by simp⟩,Cut.nil,dS _,λh=>absurd h 0#f,dS _,?_,s1.free np,s1.free nL,λq=>?_,λx hx=>absurd hx 0#d⟩
  ·rw [piece_nil];exact hst
  ·rw [← q,e1] at nL;cases nL
 ·rintro i σ H3 _ ⟨p,L,ls,n0,v,rfl,s3,_⟩
  exact bq.of (s3 _ _ hl)
 ·rintro i x σ H3 hx ⟨p,L,ls,n0,v,rfl,s3,E8,hC,h0i,ac0,ae9,hst,np,nL,nTL,nlL⟩
  refine c8 λM Bk RR hM _ _=>?_
  obtain ⟨e,he,rfl⟩:=jd hx
  have hi:i<es.length:=(nH.mp he).1
  obtain ⟨e',he',hsa⟩:=dG (hes.up s3) hS hi
  rw [he] at he'
  cases he'
  have ee:e=(e.1,mo es i,some (wo es i)):=by
   have hs:=hS e (mT he)
   obtain ⟨a,m,v⟩:=e
   cases v with
   | none=>cases hs
   | some q=>
     unfold mo wo
     rw [he]
     rfl
  have hlen:(piece es n0 i).length=i-n0:=kX 0#c
  have hm:∀j,j<(piece es n0 i).length→mo (piece es n0 i) j<mo es i:=λj hj=>by
   rw [hlen] at hj
   rw [xR hj]
   exact iC d9 0#c hi
  have hnext:=qY h0i he
  rw [ee] at hnext
  obtain ⟨dx3,tw,fs,g,s',ep,hF,eL,_⟩:=id hst
  rw?
  apply TJ ep (hF.zL "takes") ?_
  refine ⟨p,L,e.1,piece es n0 i,mo es i,wo es i,_,N,2*n+1,rfl,hst,hsa,hm,by try?,hN,by try?,hB0,λr H4 s4 hfit Su=>?_⟩
  rw [← hnext] at hfit Su
  have Ai:ao H H4:=λb' o q=>s4 _ _ (by rw [DV (bJ q np) (bJ q nL)];exact s3 _ _ q)
  have UH:=E8.mv ep nTL nlL s4
  cases r with
  | true=>
    rw [if_pos rfl] at Su
    rw?
    apply bR ?_
    exact hM _ _ ⟨p,L,ls,n0,_,rfl,Ai,UH,hC,by try?,λ_=>by try?,ae9,Su,np,nL,nTL,nlL⟩
  | false=>
    rw [if_neg fQ] at Su
    have nf:¬BC (piece es n0 (i+1)) (2*β):=λq=>absurd (hfit.mpr q) 0#f
    have ahn:n0<i:=by
     first|exact J9|refine J9 ?_|refine J9 ?_ ?_
     intro q
     exact nf (P5 (by rw [kX 0#c];try?))
    have hC':Cut es (2*β) (ls.map (·.2)++[piece es n0 i]) i:=hC.snoc ahn 0#c hst.fit λ_=>nf
    obtain ⟨dx4,tw4,fs4,g4,s4',ep4,hF4,Ff,_⟩:=id Su
    rw?
    apply cI ?_
    apply ⟨.inl ⟨rfl,_,bq.of UH.at_⟩,?_⟩
    apply TJ ep4 (hF4.zL "kept") ?_
    refine ⟨p,L,_,_,_,_,rfl,Su,λR H5 s5 nR eR=>?_⟩
    have UI:=UH.up s5
    have hRT:R≠TT:=λq=>by rw [q,UH.at_] at nR;cases nR
    have hRl:∀x∈ls,x.1≠R:=λx hx q=>by
     have:=(UH.each x hx).2.1
     rw [q,nR] at this
     cases this
    rw?
    refine cM UI.at_ (by rw [fH];exact aN 0#c) ?_
    have R9:=UI.push (Ai.free nR) eR hRT hRl
    have E9:ao H (upd H5 TT (.lst (lrefs ls++[.ref R]))):=bf (Ai.trans s5) n1
    generalize upd H5 TT (.lst (lrefs ls++[.ref R]))=H6 at R9 E9 ⊢
    rw?
    refine λp' dx' np' ah2 _=>fresh E9 np' ah2 λL' H7 s7 nL' afd=>?_
    have s07:=E9.trans s7
    have Na:=R9.up s7
    obtain ⟨dx7,tw7,fs7,g7,s7',ep7,hF7,eL7,_⟩:=id afd
    rw?
    apply TJ ep7 (hF7.zL "takes") ?_
    refine ⟨p',L',e.1,[],mo es i,wo es i,_,N,2*n+1,rfl,afd,?_,λj hj=>absurd hj (Cc _),lX _,hN,by try?,hB0,λr2 H8 s8 ae7 afe=>?_⟩
    ·obtain ⟨e2,XO,ahK⟩:=dG (hes.up s07) hS hi
     rw [he] at XO
     cases XO
     exact ahK
    have hr2:r2=true:=ae7.mpr (P5 0#d)
    rw [if_pos hr2,W7,← ee] at afe
    have afo:TT≠L':=λq=>by rw [← q,R9.at_] at nL';cases nL'
    have afr:∀x∈ls++[(R,piece es n0 i)],x.1≠L':=λx hx q=>by
     have:=(R9.each x hx).2.1
     rw [q,nL'] at this
     cases this
    have aho:=Na.mv ep7 afo afr s8
    rw?
    refine hM _ _ ⟨p',L',ls++[(R,piece es n0 i)],i,_,rfl,λb' o q=>s8 _ _ (by rw [DV (bJ q (E9.free np')) (bJ q (E9.free nL'))];exact s07 _ _ q),aho,?_,by try?,λ_=>by try?,by rw [fh];show ls.length+1≤i;try?,?_,E9.free np',E9.free nL',afo,afr⟩
    ·rw [jD]
     exact hC'
    ·rw [qY (dS _) he,piece_nil]
     exact afe
 ·rintro σ H3 ⟨p,L,ls,n0,v,rfl,s3,E8,hC,h0i,ac0,ae9,hst,np,nL,nTL,nlL⟩
  rw [aT] at h0i ac0 hst
  rw?
  refine dW (.inl (bq.of (s3 _ _ hl))) ?_
  rw [aT]
  rw?
  refine c6 0#w 0#w
  ·have c':=dM c
   obtain ⟨dx4,tw4,fs4,g4,s4',ep4,hF4,Ff,_⟩:=id hst
   rw?
   apply ⟨.inl ⟨rfl,_,bq.of E8.at_⟩,?_⟩
   apply TJ ep4 (hF4.zL "kept") ?_
   refine ⟨p,L,_,_,_,_,rfl,hst,λR H5 s5 nR eR=>?_⟩
   have UI:=E8.up s5
   have hRT:R≠TT:=λq=>by rw [q,E8.at_] at nR;cases nR
   have hRl:∀x∈ls,x.1≠R:=λx hx q=>by
    have:=(E8.each x hx).2.1
    rw [q,nR] at this
    cases this
   have hlt:n0<es.length:=ac0 0#c
   rw?
   refine cM UI.at_ (by rw [fH];exact aN 0#c) ?_
   have R9:=UI.push (s3.free nR) eR hRT hRl
   rw?
   refine k TT _ _ (bf (s3.trans s5) n1) R9 ?_ (by rw [fh];show ls.length+1≤40;try?)
   rw [jD]
   exact hC.snoc hlt (dS _) hst.fit λq=>absurd q (EO _)
  ·have c':=jO (jr.mpr c)
   rw?
   refine k TT ls H3 s3 E8 ?_ 0#c
   rw [show es.length=n0 by try?]
   exact hC
section
variable (t y:Nat→Int)
def ab (i k p:Nat):Int:=y p*(t k-t i)-y i*(t k-t p)-y k*(t p-t i)
def qm (i j k p:Nat):Int:=2*ab t y i k p-ab t y i k j
def CT (i j k:Nat):Rat:=((ab t y i k j).natAbs:Int)/((t k-t i:Int):Rat)
end
theorem acw:2*(t k-t i)*ab t y a c b=qm t y i j k b*(t c-t a)-qm t y i j k a*(t c-t b)-qm t y i j k c*(t b-t a):=by
 unfold qm ab
 grind
theorem SN:qm t y i j k i=- ab t y i k j:=by
 unfold qm ab
 grind
theorem Vl:qm t y i j k k=- ab t y i k j:=by
 unfold qm ab
 grind
theorem Co:qm t y i j k j=ab t y i k j:=by
 unfold qm
 try?
theorem T4 {m:Int} (hx:m≤x) (hu:m≤u) (hz:m≤z) (h:m<x∨m<u∨m<z) (hq:0<q) (hr:0<r):2*m*(q+r)<u*(q+r)+x*q+z*r:=by
 have e:u*(q+r)+x*q+z*r-2*m*(q+r)=(u-m)*(q+r)+(x-m)*q+(z-m)*r:=by grind
 have h1:0≤(u-m)*(q+r):=qF 0#c 0#c
 have h2:0≤(x-m)*q:=qF 0#c 0#c
 have h3:0≤(z-m)*r:=qF 0#c 0#c
 rcases h with h | h | h
 ·have:0<(x-m)*q:=yN 0#c hq
  try?
 ·have:0<(u-m)*(q+r):=yN 0#c 0#c
  try?
 ·have:0<(z-m)*r:=yN 0#c hr
  try?
def Alt (O:Nat→Int) (m:Int) (a b c:Nat):Prop:=((m≤O b∧m≤- O a∧m≤- O c)∨(m≤- O b∧m≤O a∧m≤O c))∧((m<O a∨m < - O a)∨(m<O b∨m < - O b)∨(m<O c∨m < - O c))
theorem acF (hik:t i<t k) (hab:t a<t b) (hbc:t b<t c) (h:Alt (qm t y i j k) ((ab t y i k j).natAbs:Int) a b c):CT t y i j k<CT t y a b c:=by
 have key:((ab t y i k j).natAbs:Int)*(t c-t a)<((ab t y a c b).natAbs:Int)*(t k-t i):=by
  have id:=acw (t:=t) (y:=y) (i:=i) (j:=j) (k:=k) (a:=a) (b:=b) (c:=c)
  generalize qm t y i j k=O at *
  generalize hm:((ab t y i k j).natAbs:Int)=m at *
  have hm0:0≤m:=by try?
  obtain ⟨h1,h2⟩:=h
  rcases h1 with ⟨u1,u2,u3⟩ | ⟨u1,u2,u3⟩
  ·have g:=T4 (x:=- O a) (u:=O b) (z:=- O c) (q:=t c-t b) (r:=t b-t a) u2 u1 u3 0#c 0#c 0#c
   have e1:O b*(t c-t b+(t b-t a))+- O a*(t c-t b)+- O c*(t b-t a)=O b*(t c-t a)-O a*(t c-t b)-O c*(t b-t a):=by grind
   rw [e1,← id] at g
   have e2:2*m*(t c-t b+(t b-t a))=2*(m*(t c-t a)):=by grind
   rw [e2] at g
   have e3:2*(t k-t i)*ab t y a c b=2*(ab t y a c b*(t k-t i)):=by grind
   rw [e3] at g
   have g2:m*(t c-t a)<ab t y a c b*(t k-t i):=by try?
   exact WY g2 (MF 0#c 0#c)
  ·have g:=T4 (x:=O a) (u:=- O b) (z:=O c) (q:=t c-t b) (r:=t b-t a) u2 u1 u3 0#c 0#c 0#c
   have e1:- O b*(t c-t b+(t b-t a))+O a*(t c-t b)+O c*(t b-t a)=- (O b*(t c-t a)-O a*(t c-t b)-O c*(t b-t a)):=by grind
   rw [e1,← id] at g
   have e2:2*m*(t c-t b+(t b-t a))=2*(m*(t c-t a)):=by grind
   rw [e2] at g
   have e3:- (2*(t k-t i)*ab t y a c b)=2*(- ab t y a c b*(t k-t i)):=by grind
   rw [e3] at g
   have g2:m*(t c-t a) < - ab t y a c b*(t k-t i):=by try?
   exact WY g2 (MF 0#c 0#c)
 unfold CT
 have hT:=cast_pos (b:=t k-t i) 0#c
 have hp:=cast_pos (b:=t c-t a) 0#c
 rw [abE hT]
 have e:(((ab t y a c b).natAbs:Int):Rat)/((t c-t a:Int):Rat)*((t k-t i:Int):Rat)=((((ab t y a c b).natAbs:Int)*(t k-t i):Int):Rat)/((t c-t a:Int):Rat):=by
  rw [sD]
  grind
 rw [e,abF hp,← sD]
 exact sy.mpr key
def ael (n:Nat):List (Nat×Nat×Nat):=(gD n).flatMap λa=>(gD n).flatMap λb=>(gD n).map λc=>(a,b,c)
theorem U8 (ha:a<n) (hb:b<n) (hc:c<n):(a,b,c)∈ael n:=by
 unfold ael
 exact W4.mpr ⟨a,uN.mpr ha,W4.mpr ⟨b,uN.mpr hb,jB.mpr ⟨c,uN.mpr hc,rfl⟩⟩⟩
open Classical in
def beyond (t y:Nat→Int) (n:Nat) (d:Rat):Nat:=((ael n).filter λx=>decide (d<CT t y x.1 x.2.1 x.2.2)).length
theorem filter_lt {α:Type} {p q:α→Bool}:∀{l:List α},(∀x,q x=true→p x=true)→(∃x,x∈l∧p x=true∧q x=false)→(l.filter q).length<(l.filter p).length
 | [],_,h=>by obtain ⟨x,hx,_⟩:=h;exact absurd hx 0#d
 | a::l,hq,h=>by
   have le:∀l:List α,(l.filter q).length≤(l.filter p).length:=λl=>by
    induction l with
    | nil=>exact dS _
    | cons b l ih=>
      rw [Bp,Bp]
      cases hb:q b with
      | true=>rw [hq b hb,if_pos rfl,if_pos rfl];exact yI ih
      | false=>
        rw [if_neg fQ]
        split
        ·exact Bo ih
        ·exact ih
   obtain ⟨x,hx,hp,hqx⟩:=h
   rw [Bp,Bp]
   rcases pZ.mp hx with rfl | hx
   ·rw [hqx,hp,if_neg fQ,if_pos rfl]
    exact Nat.lt_succ_of_le (le l)
   ·have ih:=filter_lt (l:=l) hq ⟨x,hx,hp,hqx⟩
    cases hb:q a with
    | true=>rw [hq a hb,if_pos rfl,if_pos rfl];exact Nat.succ_lt_succ ih
    | false=>
      rw [if_neg fQ]
      split
      ·exact Nat.lt_succ_of_lt ih
      ·exact ih
open Classical in
theorem RP (ha:a<n) (hb:b<n) (hc:c<n) (h:d<CT t y a b c):beyond t y n (CT t y a b c)<beyond t y n d:=by
 unfold beyond
 refine filter_lt (λx hx=>je (by have:=dM hx;grind)) ⟨(a,b,c),U8 ha hb hc,je h,pY (Xe)⟩
theorem U3 {C:Int} (hC:1≤C) (hb:1≤b):1≤C.fdiv (cN C b:Nat)*b∧C.fdiv (cN C b:Nat)*b≤C*b∧C∣C.fdiv (cN C b:Nat)*b∧b∣C.fdiv (cN C b:Nat)*b:=by
 have gp:0<cN C b:=Tq C 0#c
 obtain ⟨c,hc⟩:=Mt (a:=C) (b:=b)
 obtain ⟨d,hd⟩:=Ms (a:=C) (b:=b)
 generalize hg:((cN C b:Nat):Int)=g at *
 have g1:0<g:=by try?
 have e:C.fdiv g=c:=by
  conv=>lhs;rw [hc]
  exact aaz c 0#c
 rw [e]
 have hc1:1≤c:=by
  rcases abX c 1 with z | z
  ·have:g*c≤0:=Int.mul_nonpos_of_nonneg_of_nonpos 0#c 0#c
   try?
  ·exact z
 have hcC:c≤C:=by
  rw [hc]
  have:=MF (show 1≤g by try?) (show 0≤c by try?)
  try?
 refine ⟨?_,MF hcC 0#c,⟨d,?_⟩,⟨c,qy _ _⟩⟩
 ·have:=EN hc1 hb 0#c 0#c
  try?
 ·rw [hc]
  conv=>lhs;rw [hd]
  grind
structure Pts (H:Hp) (L:aq) (ps:List aq) (t y:Nat→Int):Prop where
 at_:H L=some (.lst (ps.map V.ref))
 each:∀i a,ps[i]?=some a→H a=some (.tup [.int (t i),.int (y i)])
theorem Pts.up (h:Pts H L ps t y) (s:ao H H'):Pts H' L ps t y:=⟨s _ _ h.at_,λi a e=>s _ _ (h.each i a e)⟩
theorem OB {ps:List aq} (h:i<ps.length) (hj:j=(i:Int)):∃a,ps[i]?=some a∧sI (ps.map V.ref) j=some (.ref a):=⟨ps[i],jY h,by
 subst hj
 exact iG (by rw [kE,jY h];rfl)⟩
inductive Ew (vs:List V) (H:Hp) (Q:VK) (E_:XK):Prop where
 | mk (l:aq) (es:List En) (n:Nat):vs=[.ref l]→H l=some 0#s→Row H es n→iK es→1≤n→es.length*n+n≤7000→es.length≤40→(∀(L:aq) (ps:List aq) (y:Nat→Int) (C:Int) (H':Hp),ao H H'→H L=none→Pts H' L ps (mo es) y→ps.length=es.length→1≤C→(∀i,i<es.length→(y i:Rat)=wo es i*(C:Rat)∧Sz 8000 (y i))→Q (.ref L) H')→Ew vs H Q E_
inductive JI (vs:List V) (H:Hp) (Q:VK) (E_:XK):Prop where
 | mk (p1 p2 p3:aq) (m1 n1 m2 n2 m3 n3:Int):vs=[.ref p1,.ref p2,.ref p3]→H p1=some (.tup [.int m1,.int n1])→H p2=some (.tup [.int m2,.int n2])→H p3=some (.tup [.int m3,.int n3])→Sz 8000 m1→Sz 8000 m2→Sz 8000 m3→Sz 8000 n1→Sz 8000 n2→Sz 8000 n3→Q (.int (n3*(m2-m1)-n1*(m2-m3)-n2*(m3-m1))) H→JI vs H Q E_
inductive O6 (vs:List V) (H:Hp) (Q:VK) (E_:XK):Prop where
 | mk (L r:aq) (ps:List aq) (t y:Nat→Int) (i j k:Nat):vs=[.ref L,.ref r]→Pts H L ps t y→ps.length≤40→H r=some (.tup [.int (i:Int),.int (j:Int),.int (k:Int)])→i<ps.length→j<ps.length→k<ps.length→(∀q,q<ps.length→Sz 8000 (t q)∧Sz 8000 (y q))→(∀(D:aq) (H':Hp),ao H H'→H D=none→H' D=some (.lst (((gD ps.length).map (qm t y i j k)).map V.int))→Q (.ref D) H')→O6 vs H Q E_
inductive OY (vs:List V) (H:Hp) (Q:VK) (E_:XK):Prop where
 | mk (r D:aq) (i j k p n:Nat) (O:Nat→Int) (m:Int):vs=[.ref r,.int (p:Int),.ref D]→H r=some (.tup [.int (i:Int),.int (j:Int),.int (k:Int)])→H D=some (.lst (((gD n).map O).map V.int))→i<j→j<k→k<n→p<n→0≤m→((m=O j∧O i=- O j∧O k=- O j)∨(m=- O j∧O i=- O j∧O k=- O j))→(m<O p∨m < - O p)→(∀(r':aq) (a b c:Nat) (H':Hp),ao H H'→H' r'=some (.tup [.int (a:Int),.int (b:Int),.int (c:Int)])→a<b→b<c→c<n→Alt O m a b c→Q (.ref r') H')→OY vs H Q E_
def Flat (t y:Nat→Int) (n i j k:Nat):Prop:=i<j∧j<k∧k<n∧∀p,p<n→(qm t y i j k p).natAbs≤(ab t y i k j).natAbs
inductive AB (vs:List V) (H:Hp) (Q:VK) (E_:XK):Prop where
 | mk (l:aq) (es:List En) (n:Nat):vs=[.ref l]→H l=some 0#s→Row H es n→iK es→rising es→1≤n→es.length*n+n≤7000→3≤es.length→es.length≤40→(∀(r:aq) (i j k:Nat) (y:Nat→Int) (C:Int) (H':Hp),ao H H'→H' r=some (.tup [.int (i:Int),.int (j:Int),.int (k:Int)])→1≤C→(∀i,i<es.length→(y i:Rat)=wo es i*(C:Rat))→Flat (mo es) y es.length i j k→Q (.ref r) H')→AB vs H Q E_
theorem iD:fz 1 [aZ,"common",bw,"bottom"] oG:=0#a
theorem B3 (F:fO K "whole_points" oG f fd) (iX:acj P w K mg base):bh P w K mg base dm 3 f fd [aZ] Ew:=by
 refine F.eU iD λcdv A outer s H vs Q E hr h=>?_
 obtain ⟨l,es,n,rfl,hl,hR,hS,hn1,hn,mX,k⟩:=h
 have hin:∀i,i<es.length→i*n+n≤es.length*n:=λi hi=>by
  have:=Nat.mul_le_mul_right n (show i+1≤es.length by try?)
  rw [Xr,Xs] at this
  exact this
 have cd:∀{x d:Int},1≤d→Sz 8000 d→CB x d:=λhd hz=>⟨by try?,Sz.log (m:=8000) hz 0#f 0#f⟩
 apply bF ⟨_,(ah (oY (i:=1) iD.nd rfl (Or.inr rfl) au (hs:=ait)) (ah (iP gR rfl (eE K 0#h) (cB (i:=2) iD.nd rfl 0#k) (ah (aL 3 iD.nd (aH K (aH K 0#q))) (aD (oY (i:=1) iD.nd rfl (Or.inr rfl) (aF aS (aF fY 0#n (bZ iX hr 0#n 0#A)) 0#A) (hs:=aea))))) (aD (aX (oW (O:=[bw]) (N':=["common"]) (cap:=[1]) rfl (eE K 0#h) (λ_ _ _ _ _=>(cB (i:=0) (show kD [("sample":Str),("common":Str)] by decide +kernel) rfl 0#k)) (λ_ _ _ _ _=>oX) (λ_ _ _ _ _=>(bW (fL (bO (MI K) 0#h au 0#g) (fL (aF aS (bO (MI K) (bO (MI K) 0#h au 0#g) au 0#g) (aF fY 0#n (bO (MI K) (bO (MI K) 0#h au 0#g) au 0#g))) gH J1) EF))) rfl 0#u rfl 0#e rfl 0#e))))),?_⟩
 apply fq (jb ?_)
 refine ⟨l,rfl,⟨_,bq.of hl⟩,d8 (xs:=vals es) (λi σ H3=>Py λ(C:Int) (v2 v3:Option V)=>σ=[some 0#O,some (.int C),v2,v3]∧ao H H3∧1≤C∧Sz (i*n+1) C∧∀j,j<i→((wo es j).den:Int)∣C) ?_ ?_ ?_ ?_⟩
 ·exact ⟨1,none,none,rfl,ao.refl _,acd _,by rw [Nat.zero_mul];exact qV 0#c,λj hj=>by try?⟩
 ·rintro i σ H3 _ ⟨C,v2,v3,rfl,s3,_⟩
  exact bq.of (s3 _ _ hl)
 ·rintro i x σ H3 hx ⟨C,v2,v3,rfl,s3,hC,zC,hdv⟩
  refine c8 λM B RR hM _ _=>?_
  obtain ⟨e,he,rfl⟩:=jd hx
  have hi:i<es.length:=(nH.mp he).1
  obtain ⟨e',he',v,ev,⟨tp,b,eb,hfr,zt,zb⟩,zm⟩:=dG (hR.up s3) hS hi
  rw [he] at he'
  cases he'
  have hb:=hfr.pos
  obtain ⟨_,hbd⟩:=hfr.xS
  have ahw:=hin i hi
  rw?
  refine ⟨C,b,rfl,zC.mono 0#c,zb.mono 0#c,λH4 s4=>?_⟩
  obtain ⟨u1,u2,u3,u4⟩:=U3 hC hb
  have zg:Sz 8000 ((cN C b:Nat):Int):=by
   have:cN C b≤b.natAbs:=abP 0#c (abf _ _)
   exact Sz.of_le (zb.mono 0#c) 0#c
  have gp:0<cN C b:=Tq C 0#c
  have zC':Sz ((i+1)*n+1) (C.fdiv (cN C b:Nat)*b):=by
   have e1:(i+1)*n+1=i*n+1+n:=by rw [Xr,Xs];try?
   rw [e1]
   refine Sz.of_le (zC.mul zb) ?_
   generalize C.fdiv (cN C b:Nat)*b=A at *
   generalize C*b=B at *
   try?
  have zq:Sz 8000 (C.fdiv (cN C b:Nat)):=by
   refine Sz.of_le (zC.mono (show i*n+1≤8000 by try?)) ?_
   have h0:0≤C.fdiv (cN C b:Nat):=Xa 0#c 0#c
   have:C.fdiv (cN C b:Nat)≤C:=by
    rw [B8 _ 0#c]
    exact Rl _ 0#c
   try?
  rw?
  apply iF (cd 0#c zg) ?_
  apply iF (ck zq (zb.mono (show n≤8000 by try?)) 0#f) ?_
  refine hM _ _ ⟨_,_,_,rfl,s3.trans s4,u1,zC',λj hj=>?_⟩
  by_cases e:j=i
  ·rw [e,← hbd];exact u4
  ·exact Int.dvd_trans (hdv j 0#c) u3
 ·rintro σ H3 ⟨C,v2,v3,rfl,s3,hC,zC,hdv⟩
  rw [aT] at zC hdv
  have hl3:=s3 _ _ hl
  rw?
  apply jb ?_
  refine ⟨l,rfl,⟨_,bq.of hl3⟩,?_⟩
  refine c9 (xs:=vals es) cC (λH4 s4=>bq.of (s4 _ _ hl3)) (by rw [aT];try?) (λi ys G=>∃(ps:List aq),ys=ps.map V.ref∧ps.length=i∧∀q a,ps[q]?=some a→G a=some (.tup [.int (mo es q),.int ((wo es q).num*(C.fdiv ((wo es q).den:Int)))])) ⟨[],rfl,rfl,λq a h=>by simp at h⟩ ?_ ?_
  ·rintro D i x ys H4 lF NN N0 h0 hD eD s4 hx hy ⟨ps,rfl,hps,hat⟩ kY kN
   obtain ⟨e,he,rfl⟩:=jd hx
   have hi:i<es.length:=(nH.mp he).1
   obtain ⟨e',he',v,ev,⟨tp,b,eb,hfr,zt,zb⟩,zm⟩:=dG (hR.up 0#N) hS hi
   rw [he] at he'
   cases he'
   have hb:=hfr.pos
   obtain ⟨htn,hbd⟩:=hfr.xS
   apply ic h0 ?_
   apply cI ?_
   apply iF (cd hb (zb.mono 0#c)) ?_
   have zq:Sz 8000 (C.fdiv b):=by
    refine Sz.of_le (zC.mono (show es.length*n+1≤8000 by try?)) ?_
    have h0:0≤C.fdiv b:=Xa 0#c 0#c
    have:C.fdiv b≤C:=by
     rw [B8 _ 0#c]
     exact Rl _ 0#c
    try?
   apply iF (ck (zt.mono (show n≤8000 by try?)) zq 0#f) ?_
   refine aC (mk:=.tup) 0#d λp H5 s5 n5 e5=>?_
   refine kY _ H5 s5 ⟨ps++[p],by simp,by simp [hps],λq a hq=>?_⟩
   by_cases hqi:q<ps.length
   ·rw [vn hqi] at hq
    exact (yd s5) _ _ (hat q a hq)
   ·rw [yR 0#c] at hq
    have hq0:q=i:=by
     have:=(nH.mp hq).1
     simp at this
     try?
    subst hq0
    rw [hps,RA] at hq
    obtain rfl:p=a:=by simpa using hq
    rw [← htn,← hbd]
    exact gA (s5 _ _ eD) e5
  ·rintro D ys H4 hD eD s4 hy ⟨ps,rfl,hps,hat⟩
   rw [aT] at hps
   refine k D ps (λq=>(wo es q).num*(C.fdiv ((wo es q).den:Int))) C H4 0#N (s3.free hD) ⟨eD,λq a h=>jG _ _ (hat q a h)⟩ hps hC (λi hi=>?_)
   obtain ⟨e',he',v,ev,⟨tp,b,eb,hfr,zt,zb⟩,zm⟩:=dG hR hS hi
   obtain ⟨htn,hbd⟩:=hfr.xS
   have hb:=hfr.pos
   obtain ⟨c,hc⟩:=hdv i hi
   rw [← hbd] at hc
   have e1:C.fdiv b=c:=by
    conv=>lhs;rw [hc]
    exact aaz c 0#c
   have aeY:=eS (b:=b) 0#c
   have ahw:=hin i hi
   refine ⟨?_,?_⟩
   ·show (((wo es i).num*(C.fdiv ((wo es i).den:Int)):Int):Rat)=_
    rw [← hbd,← htn,e1,hc,sD,sD]
    have:=hfr.eq
    grind
   ·show Sz 8000 ((wo es i).num*(C.fdiv ((wo es i).den:Int)))
    rw [← hbd,← htn]
    have zq:Sz (es.length*n+1) (C.fdiv b):=by
     refine Sz.of_le zC ?_
     have h0:0≤C.fdiv b:=Xa 0#c 0#c
     have:C.fdiv b≤C:=by
      rw [B8 _ 0#c]
      exact Rl _ 0#c
     try?
    exact (zt.mul zq).mono 0#c
theorem oH:fz 3 [aQ,cY,"point","ahead","behind"] pN:=0#a
theorem Dq (F:fO K "above_chord" pN f fd):bh P w K mg base dm 1 f fd [aQ,cY,"point"] JI:=by
 refine F.eU oH λcdv A outer s H vs Q E hr h=>?_
 obtain ⟨p1,p2,p3,m1,n1,m2,n2,m3,n3,rfl,e1,e2,e3,a1,a2,a3,b1,b2,b3,k⟩:=h
 apply bF ⟨_,(ah (aL 3 oH.nd (aF aS 0#I (aF bT 0#Q (aH K 0#q)))) (ah (aL 4 oH.nd (aF aS 0#Q (aF bT (aH K 0#q) 0#I))) (aD (aX (aF bT (aF bT (aF aS (aH K 0#q) (aF bT 0#Q 0#I)) 0#A) (aa 4)))))),?_⟩
 apply iF (ck b1 (a2.sub a3) 0#f) ?_
 apply iF (ck b2 (a3.sub a1) 0#f) ?_
 apply iF (ck b3 (a2.sub a1) 0#f) ?_
 exact k
theorem kr:fz 2 ["points","three",aQ,cY,"lift"] pV:=0#a
theorem DB (F:fO K "scaled_offs" pV f fd) (lG:Dn P w K mg base 1 "above_chord" [aQ,cY,"point"] JI):bh P w K mg base dm 2 f fd ["points","three"] O6:=by
 refine F.eU kr λcdv A outer s H vs Q E hr h=>?_
 obtain ⟨L,r,ps,t,y,i,j,kk,rfl,hP,mX,er,hi,hj,hk,hz,k⟩:=h
 obtain ⟨ai,gi,ti⟩:=OB hi (j:=(i:Int)) rfl
 obtain ⟨aj,gj,tj⟩:=OB hj (j:=(j:Int)) rfl
 obtain ⟨ak,gk,tk⟩:=OB hk (j:=(kk:Int)) rfl
 have ei:=hP.each _ _ gi
 have ej:=hP.each _ _ gj
 have ek:=hP.each _ _ gk
 apply bF ⟨_,(ah (oY (i:=2) kr.nd rfl (Or.inr rfl) (bO (gU K) 0#h 0#Q 0#g) (hs:=Wk)) (ah (oY (i:=3) kr.nd rfl (Or.inr rfl) (bO (gU K) 0#h 0#Q 0#g) (hs:=Wk)) (ah (oY (i:=4) kr.nd rfl (Or.inr rfl) (Jd.c3 lG hr 0#q 0#A (bO (gU K) 0#h 0#Q 0#g)) (hs:=eK)) (aD (aX (oW (O:=["point"]) (N':=["lift","one" ,"last" ]) (cap:=[4,2,3]) rfl (eE K 0#h) (λ_ _ _ _ _=>(cB (i:=0) (show kD [("point":Str),("lift":Str),("one":Str),("last":Str)] by decide +kernel) rfl 0#k)) (λ_ _ _ _ _=>oX) (λ_ _ _ _ _=>(aF bT (aF aS au (iA lG 0#z rfl (fL 0#q (fL 0#A (fL 0#h gH bP) bP) bP) (he:=bP) (hpl:=(cO bP (cO bP cR))))) 0#n)) rfl ⟨⟨rfl,rfl,rfl,rfl⟩,⟨⟨rfl,rfl,rfl,rfl⟩,0#u⟩⟩ rfl 0#e rfl 0#e)))))),?_⟩
 apply dg hP.at_ ti ?_
 apply dg hP.at_ tk ?_
 apply dg hP.at_ tj ?_
 apply ⟨ai,ak,aj,_,_,_,_,_,_,rfl,ei,ek,ej,(hz i hi).1,(hz kk hk).1,(hz j hj).1,(hz i hi).2,(hz kk hk).2,(hz j hj).2,?_⟩
 apply jb ?_
 refine ⟨L,rfl,⟨_,bq.of hP.at_⟩,?_⟩
 refine c9 (xs:=ps.map V.ref) cC (λH4 s4=>bq.of (s4 _ _ hP.at_)) (by rw [gI];try?) (λq ys G=>ys=((gD q).map (qm t y i j kk)).map V.int) rfl ?_ ?_
 ·rintro D q x ys H4 lF NN N0 h0 hD eD s4 hx hy rfl kY kN
  rw [kE] at hx
  obtain ⟨a,ga,rfl⟩:=Ka.mp hx
  have hq:q<ps.length:=(nH.mp ga).1
  apply ic h0 ?_
  apply cI ?_
  apply ⟨ai,ak,a,_,_,_,_,_,_,rfl,s4 _ _ ei,s4 _ _ ek,s4 _ _ (hP.each _ _ ga),(hz i hi).1,(hz kk hk).1,(hz q hq).1,(hz i hi).2,(hz kk hk).2,(hz q hq).2,?_⟩
  refine kY _ H4 0#t ?_
  rw [AQ,jD,jD]
  rfl
 ·rintro D ys H4 hD eD s4 hy rfl
  rw [gI] at eD
  exact k D H4 s4 hD eD
theorem P0 (h0:0≤m) (hm:m=oj∨m=-oj) (hi:oi=-oj) (hp:m<op∨m < -op) (hs:0<op↔0<oi):(m≤oj∧m≤-op)∨(m≤-oj∧m≤op):=by
 have:(0<op∧0<oi)∨(op≤0∧oi≤0):=by
  by_cases z:0<op
  ·exact .inl ⟨z,hs.mp z⟩
  ·exact .inr ⟨vI.mp z,vI.mp λq=>z (hs.mpr q)⟩
 lia
theorem HK (h0:0≤m) (hm:m=oj∨m=-oj) (hi:oi=-oj) (hp:m<op∨m < -op) (hs:(0<op∧oi≤0)∨(op≤0∧0<oi)):(m≤op∧m≤oj)∨(m≤-op∧m≤-oj):=by
 lia
theorem xB (h:q<n):sI (((gD n).map O).map V.int) (q:Int)=some (.int (O q)):=iG (by rw [kE,kE,E3 h];rfl)
theorem m7:fz 3 ["three","far","offs",cV,"mid",cY] t6:=0#a
theorem IF (F:fO K "exchanged" t6 f fd):bh P w K mg base dm 1 f fd ["three","far","offs"] OY:=by
 refine F.eU m7 λcdv A outer s H vs Q E hr h=>?_
 obtain ⟨r,D,i,j,kk,p,n,O,m,rfl,er,eD,hij,hjk,hkn,hpn,hm0,hm,hp,k⟩:=h
 have tell:∀{a b c:Nat} {H1:Hp} {r':aq},ao H H1→H1 r'=some (.tup [.int (a:Int),.int (b:Int),.int (c:Int)])→a<b→b<c→c<n→((m≤O b∧m≤- O a∧m≤- O c)∨(m≤- O b∧m≤O a∧m≤O c))→(a=p∨b=p∨c=p)→Q (.ref r') H1:=λs1 e1 h1 h2 h3 h4 h5=>k _ _ _ _ _ s1 e1 h1 h2 h3 ⟨h4,by
  rcases h5 with rfl | rfl | rfl
  ·exact .inl hp
  ·exact .inr (.inl hp)
  ·exact .inr (.inr hp)⟩
 obtain ⟨hmj,oi,ok⟩:(m=O j∨m=-O j)∧O i=-O j∧O kk=-O j:=by
  rcases hm with ⟨m1,m2,m3⟩ | ⟨m1,m2,m3⟩
  ·exact ⟨.inl m1,m2,m3⟩
  ·exact ⟨.inr m1,m2,m3⟩
 have oi':-O i=O j:=by rw [oi,Xp]
 have ok':-O kk=O j:=by rw [ok,Xp]
 have hpi:p≠i:=λz=>by subst z;lia
 have hpj:p≠j:=λz=>by subst z;lia
 have hpk:p≠kk:=λz=>by subst z;lia
 refine bF ⟨_,(ah (aL 3 m7.nd 0#I) (ah (aL 4 m7.nd 0#I) (ah (aL 5 m7.nd 0#I) (ah (cy (Jd.BE (Jd.oq (bD oh 0#n (aa 4) 0#K) (Jd.lJ (bD fE (tL fM (bO (gU K) 0#q 0#n 0#g) au 0#K) (tL fM (bO (gU K) 0#q 0#A 0#g) au 0#K) 0#K)))) (aD (aX (bW (Jd.a3 0#n (aa 4) (aa 5))))) cG) (ah (cy (Jd.BE (Jd.oq (bD fM 0#n (aa 4) 0#K) (Jd.lJ (bD fE (tL fM (bO (gU K) 0#q 0#n 0#g) au 0#K) (tL fM (bO (gU K) 0#q (aa 5) 0#g) au 0#K) 0#K)))) (aD (aX (bW (Jd.a3 0#A (aa 4) 0#n)))) cG) (ah (cy (bD oh 0#n 0#A 0#K) (aD (aX (bW (Jd.a3 0#n 0#A (aa 4))))) cG) (ah (cy (bD fM 0#n (aa 5) 0#K) (aD (aX (bW (Jd.a3 (aa 4) (aa 5) 0#n)))) cG) (aD (aX (bW (Jd.a3 0#A 0#n (aa 5)))))))))))),?_⟩
 refine LV (λσ' H'=>H'=H∧σ'=[some (.ref r),some (.int (p:Int)),some (.ref D),some (.int (i:Int)),some (.int (j:Int)),some (.int (kk:Int))]∧(p<j→¬(0<O p↔0<O i))) (λσ' H' hP=>?_) (λN rest=>?_)
 rotate_left
 ·rw?
  refine c6 0#J 0#J
  ·have vU:=dM c1
   rw?
   apply dg eD (xB hpn) ?_
   apply dg eD (xB (show i<n by lia)) ?_
   apply aar ?_
   refine c6 (λc2=>?_) (λc2=>?_)
   ·have c2':(0<O p↔0<O i):=by
     have:=yO.mp c2
     exact Hl.mp this
    rw?
    refine aC (mk:=.tup) 0#d λr' H1 s1 n1 e1=>?_
    refine tell s1 e1 (by lia) hjk hkn ?_ (.inl rfl)
    rcases P0 hm0 hmj oi hp c2' with ⟨u,v⟩ | ⟨u,v⟩
    ·exact .inl ⟨u,v,by rw [ok'];exact u⟩
    ·exact .inr ⟨u,v,by rw [ok];exact u⟩
   ·rw?
    refine rest _ _ ⟨rfl,rfl,λ_ z=>c2 (yO.mpr (Hl.mpr z))⟩
  ·have vU:¬(p:Int)<(j:Int):=λz=>c1 (je z)
   apply bR ?_
   exact rest _ _ ⟨rfl,rfl,λz=>absurd (by lia) vU⟩
 obtain ⟨rfl,rfl,h1⟩:=hP
 refine jH (λσ' H''=>H''=H'∧σ'=[some (.ref r),some (.int (p:Int)),some (.ref D),some (.int (i:Int)),some (.int (j:Int)),some (.int (kk:Int))]∧(j<p→¬(0<O p↔0<O kk))) (λσ' H'' hP=>?_) (λN rest=>?_)
 rotate_left
 ·rw?
  refine c6 0#J 0#J
  ·have vU:=dM c1
   rw?
   apply dg eD (xB hpn) ?_
   apply dg eD (xB hkn) ?_
   apply aar ?_
   refine c6 (λc2=>?_) (λc2=>?_)
   ·have c2':(0<O p↔0<O kk):=Hl.mp (yO.mp c2)
    rw?
    refine aC (mk:=.tup) 0#d λr' H1 s1 n1 e1=>?_
    refine tell s1 e1 hij (by lia) hpn ?_ (.inr (.inr rfl))
    rcases P0 hm0 hmj ok hp c2' with ⟨u,v⟩ | ⟨u,v⟩
    ·exact .inl ⟨u,by rw [oi'];exact u,v⟩
    ·exact .inr ⟨u,by rw [oi];exact u,v⟩
   ·rw?
    refine rest _ _ ⟨rfl,rfl,λ_ z=>c2 (yO.mpr (Hl.mpr z))⟩
  ·have vU:¬(j:Int)<(p:Int):=λz=>c1 (je z)
   apply bR ?_
   exact rest _ _ ⟨rfl,rfl,λz=>absurd (by lia) vU⟩
 obtain ⟨rfl,rfl,h2⟩:=hP
 have far:∀{q:Nat},¬(0<O p↔0<O q)→(0<O p∧O q≤0)∨(O p≤0∧0<O q):=λ{q} z=>by
  by_cases a1:0<O p
  ·exact .inl ⟨a1,vI.mp λb1=>z ⟨λ_=>b1,λ_=>a1⟩⟩
  ·exact .inr ⟨vI.mp a1,J9 λb1=>z ⟨λc=>absurd c a1,λc=>absurd c b1⟩⟩
 rw?
 refine c6 0#J 0#J
 ·have vU:=dM c1
  have hf:=far (h1 (by lia))
  rw?
  refine aC (mk:=.tup) 0#d λr' H1 s1 n1 e1=>?_
  refine tell s1 e1 (by lia) hij (by lia) ?_ (.inl rfl)
  rcases HK hm0 hmj oi hp hf with ⟨u,v⟩ | ⟨u,v⟩
  ·exact .inr ⟨by rw [oi'];exact v,u,v⟩
  ·exact .inl ⟨by rw [oi];exact v,u,v⟩
 ·have vU:¬(p:Int)<(i:Int):=λz=>c1 (je z)
  rw?
  refine c6 (λc2=>?_) (λc2=>?_)
  ·have c2':=dM c2
   have hf:=far (h2 (by lia))
   rw?
   refine aC (mk:=.tup) 0#d λr' H1 s1 n1 e1=>?_
   refine tell s1 e1 hjk (by lia) hpn ?_ (.inr (.inr rfl))
   rcases HK hm0 hmj ok hp hf with ⟨u,v⟩ | ⟨u,v⟩
   ·exact .inr ⟨by rw [ok'];exact v,v,u⟩
   ·exact .inl ⟨by rw [ok];exact v,v,u⟩
  ·have c2':¬(kk:Int)<(p:Int):=λz=>c2 (je z)
   rw?
   refine aC (mk:=.tup) 0#d λr' H1 s1 n1 e1=>?_
   refine tell s1 e1 (by lia) (by lia) hkn ?_ (.inr (.inl rfl))
   have hf:(m≤O p∧m≤O j)∨(m≤-O p∧m≤-O j):=by
    rcases Mz p j with z | z
    ·exact HK hm0 hmj oi hp (far (h1 z))
    ·exact HK hm0 hmj ok hp (far (h2 (by lia)))
   rcases hf with ⟨u,v⟩ | ⟨u,v⟩
   ·exact .inl ⟨u,by rw [oi'];exact v,by rw [ok'];exact v⟩
   ·exact .inr ⟨u,by rw [oi];exact v,by rw [ok];exact v⟩
theorem To (W:Nat→St→Hp→Prop) (h0:∃m,W m σ H)
 (hs:∀m σ H,W m σ H→∀R:Bool→Hp→Prop,(∀H1,(∀M:St→Hp→Prop,(∀σ' H' m',W m' σ' H'→m'<m→M σ' H')→tb { D with nx:=M,ct:=M,bk:=D.nx } σ H1)→R true H1)→(∀H1,D.nx σ H1→R false H1)→c σ H R):EI c tb D σ H:=by
 refine ⟨W,h0,?_⟩
 intro m σ H p
 refine hs m σ H p _ (λH1 q=>?_) (λH1 q=>?_)
 ·rw [if_pos rfl]
  exact ⟨λσ' H'=>∃m',m'<m∧W m' σ' H',λσ' H' ⟨m',l,z⟩=>⟨m',l,z⟩,q _ λ_ _ m' a b=>⟨m',b,a⟩⟩
 ·rw [if_neg fQ]
  exact q
theorem dQ:fz 1 [aZ,"points","three","offs","misses","worst"] mE:=0#a
theorem zV (F:fO K "forcing_three" mE f fd) (T:Txt mg) (nQ:Dn P w K mg base 3 "whole_points" [aZ] Ew) (pK:Dn P w K mg base 2 "scaled_offs" ["points","three"] O6) (sN:Dn P w K mg base 1 "exchanged" ["three","far","offs"] OY):bh P w K mg base dm 4 f fd [aZ] AB:=by
 refine F.eU dQ λcdv A outer s H vs Q E hr h=>?_
 obtain ⟨l,es,n,rfl,hl,hR,hS,d9,hn1,hn,h3,mX,k⟩:=h
 apply bF ⟨_,(ah (aL 1 dQ.nd (Jd.c1 nQ hr 0#h)) (ah (aL 2 dQ.nd (bW (Jd.a3 au (aF fY (fj K T.i7 0#n) au) (aF bT (fj K T.i7 0#n) au)))) (aD (Jd.lT gR (qf lR) (ah (aL 3 dQ.nd (bZ pK hr 0#n 0#q)) (ah (vv (O:=["scaled"]) (N':=[]) (cap:=[]) (i:=4) dQ.nd rfl 0#k rfl (eE K 0#A) (λ_ _ _ _ _=>(cB (i:=0) (show kD [("scaled":Str)] by decide +kernel) rfl 0#k)) (λ_ _ _ _ _=>oX) (λ_ _ _ _ _=>(iz zA rfl T.zD AN (fL 0#h gH bP) (he:=bP) (hpl:=cR))) rfl trivial rfl 0#e rfl 0#e (by rfl)) (ah (aL 5 dQ.nd (iz (ahU K rfl) rfl T.U7 Ml (dZ (aa 4)) (he:=bP) (hpl:=cR))) (ah (cy (bD fE (aa 5) (bO (gU K) (aa 4) (aH K 0#q) 0#g) 0#K) (aD (aX 0#q)) cG) (aD (aL 2 dQ.nd (Jd.c3 sN hr 0#q (Jd.adg K (aa 4) (aa 5)) 0#A))))))))))),?_⟩
 refine ⟨l,es,n,rfl,hl,hR,hS,hn1,hn,mX,λL ps y C H1 s1 nL hP hpl hC hy=>?_⟩
 have hz:∀q,q<ps.length→Sz 8000 (mo es q)∧Sz 8000 (y q):=λq hq=>by
  obtain ⟨_,_,_,_,_,zm⟩:=dG hR hS (show q<es.length by try?)
  exact ⟨zm.mono 0#c,(hy q 0#c).2⟩
 have hlt:∀{a b:Nat},a<b→b<ps.length→mo es a<mo es b:=λh1 h2=>iC d9 h1 0#c
 rw [← hpl] at h3 mX
 rw?
 refine dW (.inl (bq.of hP.at_)) ?_
 rw [gI]
 rw?
 apply iF ⟨by decide,by decide⟩ ?_
 refine dW (.inl (bq.of hP.at_)) ?_
 rw [gI]
 rw?
 refine aC (mk:=.tup) 0#d λr0 H2 s2 n2 e2=>?_
 have Ym:H2 r0=some (.tup [.int ((0:Nat):Int),.int ((ps.length/2:Nat):Int),.int ((ps.length-1:Nat):Int)]):=by
  rw [e2]
  have a1:(ps.length:Int).fdiv 2=((ps.length/2:Nat):Int):=by
   rw [B8 _ 0#c]
   rfl
  have a2:(ps.length:Int)-1=((ps.length-1:Nat):Int):=by try?
  rw [a1,a2]
  rfl
 rw?
 refine To (λm σ H3=>Xs7 λ(i j kk:Nat) (r:aq) (v3 v4 v5:Option V)=>σ=[some 0#O,some (.ref L),some (.ref r),v3,v4,v5]∧ao H1 H3∧H3 r=some (.tup [.int (i:Int),.int (j:Int),.int (kk:Int)])∧i<j∧j<kk∧kk<ps.length∧m=beyond (mo es) y ps.length (CT (mo es) y i j kk)) ⟨_,0,ps.length/2,ps.length-1,r0,none,none,none,rfl,s2,Ym,by try?,by try?,by try?,rfl⟩ ?_
 rintro m σ H3 ⟨i,j,kk,r,v3,v4,v5,rfl,s3,er,hij,hjk,hkn,rfl⟩ RR hyes hno
 rw?
 apply hyes _ λM hM=>?_
 refine ⟨L,r,ps,mo es,y,i,j,kk,rfl,hP.up s3,mX,er,by try?,by try?,hkn,hz,λD H4 s4 nD eD=>?_⟩
 have er4:=s4 _ _ er
 generalize hO:qm (mo es) y i j kk=O at *
 have o1:O i=- O j:=by rw [← hO,SN,Co]
 have o2:O kk=- O j:=by rw [← hO,Vl,Co]
 have o3:O j=ab (mo es) y i kk j:=by rw [← hO,Co]
 rw?
 apply jb ?_
 refine ⟨D,rfl,⟨_,bq.of eD⟩,?_⟩
 refine c9 (xs:=((gD ps.length).map O).map V.int) cC (λH5 s5=>bq.of (s5 _ _ eD)) (by simp;try?) (λq ys G=>ys=((gD q).map λq=>((O q).natAbs:Int)).map V.int) rfl ?_ ?_
 ·rintro D' q x ys H5 lF NN N0 h0 hD' PZ s5 hx hyl rfl kY kN
  rw [kE,kE] at hx
  obtain ⟨z,gz,rfl⟩:=Ka.mp hx
  obtain ⟨q',gq,rfl⟩:=Ka.mp gz
  obtain ⟨hq1,hq2⟩:=nH.mp gq
  obtain rfl:q=q':=by simpa using hq2
  apply ic h0 ?_
  apply cI ?_
  refine kY _ H5 0#t ?_
  rw [AQ,jD,jD,jv]
  rfl
 ·rintro D' ys H5 hD' PZ s5 hyl rfl
  rw [gI,gI,Hh] at PZ
  have er5:=s5 _ _ er4
  rw?
  apply adW (bq.of PZ) (by simp;try?) λM' hM1 XM=>?_
  apply dg PZ (xB (O:=λq=>((O q).natAbs:Int)) (show j<ps.length by try?)) ?_
  refine c6 0#J 0#J
  ·have vU:M'=((O j).natAbs:Int):=dM c1
   rw?
   refine k r i j kk y C H5 (s1.trans (s3.trans 0#W)) er5 hC (λi hi=>(hy i hi).1) ⟨hij,hjk,by try?,λp hp=>?_⟩
   have:=XM ((O p).natAbs:Int) (jB.mpr ⟨p,uN.mpr 0#c,rfl⟩)
   rw [hO,← o3]
   try?
  ·have vU:¬M'=((O j).natAbs:Int):=λz=>c1 (je z)
   have aiG:=XM ((O j).natAbs:Int) (jB.mpr ⟨j,uN.mpr 0#c,rfl⟩)
   rw?
   apply ⟨.inl ⟨rfl,_,bq.of PZ⟩,?_⟩
   refine afJ PZ (by simp;try?) hM1 λp gp=>?_
   rw [kE] at gp
   obtain ⟨p',gp',hpe⟩:=Ka.mp gp
   obtain ⟨hp1,hp2⟩:=nH.mp gp'
   obtain rfl:p=p':=by simpa using hp2
   have hpn:p<ps.length:=by simpa using hp1
   rw?
   apply ⟨r,D,i,j,kk,p,ps.length,O,((O j).natAbs:Int),rfl,er5,s5 _ _ eD,hij,hjk,hkn,hpn,by try?,by try?,by try?,λr' a b c H6 s6 e6 hab hbc hcn halt=>?_⟩
   refine hM _ _ _ ⟨a,b,c,r',_,_,_,rfl,s3.trans (s4.trans (s5.trans s6)),e6,hab,hbc,hcn,rfl⟩ ?_
   refine RP 0#c 0#c hcn (acF (j:=j) (hlt 0#c hkn) (hlt hab 0#c) (hlt hbc hcn) ?_)
   rw [hO,← o3]
   exact halt
def fX (es:List En) (s h:Rat) (p:Nat):Rat:=wo es p-(s*(mo es p:Rat)+h)
structure sJ (es:List En) (s h w:Rat) (F:Option (Nat×Nat×Nat)):Prop where
 nn:0≤w
 le:∀p,p<es.length→dP (fX es s h p)≤w
 none_:F=none→w=0
 We:∀i j k,F=some (i,j,k)→w≠0∧i<j∧j<k∧k<es.length∧((fX es s h i=-w∧fX es s h j=w∧fX es s h k=-w)∨(fX es s h i=w∧fX es s h j=-w∧fX es s h k=w))
def XD (es:List En) (s h:Rat):Prop:=(es.length=1∧s=0∧h=wo es 0)∨∃i j k,i<k∧k<es.length∧j<es.length∧s=(wo es k-wo es i)/((mo es k-mo es i:Int):Rat)∧(h=wo es i-s*(mo es i:Rat)∨h=wo es i-s*(mo es i:Rat)+sd es i j k*(1/2))
def aes (H:Hp) (F:Option (Nat×Nat×Nat)) (v:V):Prop:=match F with
 | none=>v=.bK
 | some (i,j,k)=>∃r,v=.ref r∧H r=some (.tup [.int (i:Int),.int (j:Int),.int (k:Int)])
theorem Uy {C:Int} (hC:1≤C) (ht:mo es i<mo es k) (hy:∀q,q<es.length→(y q:Rat)=wo es q*(C:Rat)) (hi:i<es.length) (hj:j<es.length) (hk:k<es.length) (hp:p<es.length) :
 (qm (mo es) y i j k p:Rat)=2*(C:Rat)*0#S*(fX es ((wo es k-wo es i)/0#S) (wo es i-(wo es k-wo es i)/0#S*(mo es i:Rat)+(wo es j-dJ (mo es i) (wo es i) (mo es j) (mo es k) (wo es k))/2) p):=by
 have hT:0#S≠0:=by
  have:=eS (b:=mo es k-mo es i) 0#c
  rw [sF] at this
  exact this
 unfold qm ab fX dJ
 simp only [sD,sF,hy i hi,hy j hj,hy k hk,hy p hp]
 generalize (mo es k:Rat)=tk at *
 generalize (mo es i:Rat)=ti at *
 generalize (mo es j:Rat)=tj at *
 generalize (mo es p:Rat)=tp at *
 generalize (C:Rat)=c at *
 have e2:((2:Int):Rat)=2:=rfl
 rw [e2]
 grind
theorem RY {C:Int} (hC:1≤C) (d9:rising es) (hy:∀q,q<es.length→(y q:Rat)=wo es q*(C:Rat)) (hf:Flat (mo es) y es.length i j k)  (hs:s=(wo es k-wo es i)/0#S) (hd:d=(wo es j-dJ (mo es i) (wo es i) (mo es j) (mo es k) (wo es k))/2) (hh:h=wo es i-s*(mo es i:Rat)+d) :
 sJ es s h (dP d) (if d=0 then none else some (i,j,k)):=by
 obtain ⟨hij,hjk,hkn,hle⟩:=hf
 have ht:mo es i<mo es k:=iC d9 0#c hkn
 have hp0:(0:Rat)<2*(C:Rat)*0#S:=by
  have a:=cast_pos (b:=C) 0#c
  have b:=cast_pos (b:=mo es k-mo es i) 0#c
  rw [sF] at b
  exact ab8 0#B b
 generalize hS:2*(C:Rat)*0#S=S at hp0
 have off:∀p,p<es.length→(qm (mo es) y i j k p:Rat)=S*fX es s h p:=λp hp=>by
  rw [Uy hC ht hy 0#c 0#c hkn hp,hS,hh,hd,hs]
 have oj:fX es s h j=d∧fX es s h i=-d∧fX es s h k=-d:=by
  have hT:0#S≠0:=by
   have:=eS (b:=mo es k-mo es i) 0#c
   rw [sF] at this
   exact this
  unfold fX
  rw [hh]
  unfold dJ at hd
  generalize (mo es k:Rat)=tk at *
  generalize (mo es i:Rat)=ti at *
  generalize (mo es j:Rat)=tj at *
  refine ⟨?_,?_,?_⟩
  ·rw [hs,hd]
   grind
  ·rw [hs,hd]
   grind
  ·rw [hs,hd]
   grind
 have cab:∀x:Int,(((x.natAbs:Nat):Int):Rat)=dP (x:Rat):=λx=>by
  unfold dP
  by_cases e:x<0
  ·rw [if_pos (by have:=sy.mpr e;simpa using this),show ((x.natAbs:Nat):Int)=-x by try?,Rr]
  ·rw [if_neg (by have:=Mi.mpr (vI.mp e);grind),show ((x.natAbs:Nat):Int)=x by try?]
 have le:∀p,p<es.length→dP (fX es s h p)≤dP d:=λp hp=>by
  have h1:=hle p hp
  have h2:((((qm (mo es) y i j k p).natAbs:Nat):Int):Rat)≤((((ab (mo es) y i k j).natAbs:Nat):Int):Rat):=Mi.mpr 0#c
  rw [cab,cab,← Co (t:=mo es) (y:=y) (i:=i) (j:=j) (k:=k),off p hp,off j 0#c,oj.1,ab2 S,ab2 S,ya hp0,ya hp0] at h2
  exact QY h2 hp0
 refine ⟨ZC d,le,λe=>?_,λi' j' k' e=>?_⟩
 ·by_cases z:d=0
  ·rw [z];rfl
  ·rw [if_neg z] at e;cases e
 ·by_cases z:d=0
  ·rw [if_pos z] at e;cases e
  ·rw [if_neg z] at e
   cases e
   obtain ⟨o1,o2,o3⟩:=oj
   refine ⟨λq=>z ?_,hij,hjk,hkn,?_⟩
   ·unfold dP at q
    split at q <;> grind
   ·rw [o1,o2,o3]
    unfold dP
    split
    ·exact .inr ⟨rfl,by grind,rfl⟩
    ·exact .inl ⟨rfl,rfl,rfl⟩
inductive JK (vs:List V) (H:Hp) (Q:VK) (E_:XK):Prop where
 | mk (l:aq) (es:List En) (n:Nat):vs=[.ref l]→H l=some 0#s→Row H es n→iK es→rising es→1≤n→n≤600→es.length*n+n≤7000→1≤es.length→es.length≤40→(∀(z zl zw:aq) (F:V) (s h w:Rat) (Fo:Option (Nat×Nat×Nat)) (H':Hp),ao H H'→H' z=some (.tup [.ref zl,.ref zw,F])→jJ H' zl s h (13*n+15)→dF H' zw w (7*n+9)→aes H' Fo F→sJ es s h w Fo→XD es s h→Q (.ref z) H')→JK vs H Q E_
inductive Ez (vs:List V) (H:Hp) (Q:VK) (E_:XK):Prop where
 | mk (p1 p2 p3:aq) (t1 t2 t3:Int) (q1 q2 q3:Rat) (n:Nat):vs=[.ref p1,.ref p2,.ref p3]→jK H p1 t1 q1 n→jK H p2 t2 q2 n→jK H p3 t3 q3 n→t1<t3→7*n+7≤8000→(∀(z:aq) (H':Hp),ao H H'→dF H' z (q2-dJ t1 q1 t2 t3 q3) (7*n+7)→Q (.ref z) H')→Ez vs H Q E_
theorem V6:fz 3 [aQ,"mid",cY] JC:=0#a
theorem Vv (F:fO K "stand" JC f fd) (bV:Kl P w K mg base) (pI:Dn P w K mg base 4 "loose_stand" [aQ,"mid",cY] Em):bh P w K mg base dm 5 f fd [aQ,"mid",cY] Ez:=by
 refine F.eU V6 λcdv A outer s H vs Q E hr h=>?_
 obtain ⟨p1,p2,p3,t1,t2,t3,q1,q2,q3,n,rfl,h1,h2,h3,ht,hn,k⟩:=h
 apply bF ⟨_,(aD (aX (Jd.c1 bV hr (Jd.c3 pI hr 0#h 0#n 0#q)))),?_⟩
 apply ⟨p1,p2,p3,t1,t2,t3,q1,q2,q3,n,rfl,h1,h2,h3,ht,by try?,λx H1 s1 e1=>?_⟩
 refine ⟨x,_,_,rfl,e1,hn,λz H2 s2 e2=>?_⟩
 exact k z H2 (s1.trans s2) e2
theorem V7:fz 2 [aQ,aG] JD:=0#a
theorem Vw (F:fO K "times" JD f fd) (dY:Dn P w K mg base 1 "loose_times" [aQ,aG] (jV (·*·) 0)) (bV:Kl P w K mg base):bh P w K mg base dm 5 f fd [aQ,aG] (rJ (·*·) 0):=by
 refine F.eU V7 λcdv A outer s H vs Q E hr h=>?_
 obtain ⟨p,r,q,q',m,n,rfl,hp,hr',hn,k⟩:=h
 apply bF ⟨_,(aD (aX (Jd.c1 bV hr (bZ dY hr 0#h 0#n)))),?_⟩
 apply ⟨p,r,q,q',m,n,rfl,hp,hr',by try?,λx H1 s1 e1=>?_⟩
 refine ⟨x,_,_,rfl,e1,hn,λy H2 s2 e2=>?_⟩
 exact k y H2 (s1.trans s2) e2
theorem Vs (F:fO K "size" OM f fd) (T:Txt mg):bh P w K mg base dm 1 f fd [aQ] JT:=by
 refine F.eU ZK λcdv A outer s H vs Q E hr h=>?_
 obtain ⟨p,q,n,rfl,⟨a,b,hp,hq,za,zb⟩,k⟩:=h
 apply bF ⟨_,(aD (aX (bW (bL (iz zA rfl T.zD AN (dZ 0#I) (he:=EF) (hpl:=cR)) 0#I)))),?_⟩
 rw [jv]
 refine aC (mk:=.tup) 0#d λp1 H1 s1 n1 e1=>?_
 refine k p1 H1 s1 ⟨_,_,e1,?_,za.of_le 0#c,zb⟩
 have:=hq.qt.abs
 exact ⟨hq.pos,by show ME ((a.natAbs:Int).natAbs) b.natAbs=1;rw [WV];exact hq.co,this.eq⟩
theorem o7:fz 1 [aZ,cV,"three",aQ,cY,"half","chord","forced"] OG:=0#a
theorem Zg (F:fO K "best" OG f fd) (T:Txt mg) (Ce:Dn P w K mg base 5 "slope" [aQ,aG] JU) (kK:Dn P w K mg base 5 "line_by" [gr,bw] yp) (lZ:Dn P w K mg base 4 "forcing_three" [aZ] AB) (HB:Dn P w K mg base 5 "times" [aQ,aG] (rJ (·*·) 0)) (HA:Dn P w K mg base 5 "stand" [aQ,"mid",cY] Ez) (qL:Dn P w K mg base 5 "plus" [aQ,aG] (rJ (·+·) 1)) (Hy:Dn P w K mg base 1 "size" [aQ] JT):bh P w K mg base dm 6 f fd [aZ] JK:=by
 refine F.eU o7 λcdv A outer s H vs Q E hr h=>?_
 obtain ⟨l,es,n,rfl,hl,hR,hS,d9,hn1,hn6,hn,h1,mX,k⟩:=h
 obtain ⟨x0,g0,sa0⟩:=dG hR hS (show 0<es.length by try?)
 obtain ⟨v0,ev0,fv0,zm0⟩:=id sa0
 have z1:∀{m:Nat},1≤m→Sz m 1:=λh=>qV h
 have zero:∀{G:Hp} {p:aq} {m:Nat},G p=some (.tup [.int 0,.int 1])→1≤m→dF G p 0 m:=λe h=>⟨0,1,e,by have:=Fr.whole 0;simpa using this,Sz.of_le (z1 h) 0#f,z1 h⟩
 refine bF ⟨_,(ah (aL 1 o7.nd (Jd.iL K 0#h)) (ah (cy (bD fE (fj K T.i7 0#h) au 0#K) (aD (aX (bW (Jd.a3 (bW (bL (bW (bL au au)) 0#Q)) (bW (bL au au)) fU)))) cG) (ah (cy (bD fE (fj K T.i7 0#h) au 0#K) (aD (aX (bW (Jd.a3 (bZ kK hr (bZ Ce hr 0#n (Jd.iL K 0#h)) 0#n) (bW (bL au au)) fU)))) cG) (ah (aL 2 o7.nd (Jd.c1 lZ hr 0#h)) (ah (aL 3 o7.nd (bO (gU K) 0#h (aH K 0#q) 0#g)) (ah (aL 4 o7.nd (bO (gU K) 0#h (aH K 0#q) 0#g)) (ah (aL 5 o7.nd (bZ HB hr (Jd.c3 HA hr 0#A (bO (gU K) 0#h (aH K 0#q) 0#g) (aa 4)) (bW (bL au au)))) (ah (aL 6 o7.nd (bZ kK hr (bZ Ce hr 0#A (aa 4)) 0#A)) (ah (aL 7 o7.nd (vA (bD fE (aH K (aa 5)) au 0#K) fU 0#q)) (aD (aX (bW (Jd.a3 (bW (bL (aH K (aa 6)) (bZ qL hr (aH K (aa 6)) (aa 5)))) (Jd.c1 Hy hr (aa 5)) (aa 7)))))))))))))),?_⟩
 refine jH (λσ' H'=>H'=H∧σ'=[some 0#O,some (.ref x0.1),none,none,none,none,none,none]) (λσ' H' hP=>?_) (λN rest=>?_)
 rotate_left
 ·rw?
  apply dg hl (fB (i:=0) g0 rfl) ?_
  exact rest _ _ 0#U
 obtain ⟨rfl,rfl⟩:=hP
 refine jH (λσ' H''=>H''=H'∧σ'=[some 0#O,some (.ref x0.1),none,none,none,none,none,none]∧es.length≠1) (λσ' H'' hP=>?_) (λN rest=>?_)
 rotate_left
 ·rw?
  refine dW (.inl (bq.of hl)) ?_
  rw [aT]
  rw?
  refine c6 0#J 0#J
  ·have vU:(es.length:Int)=1:=dM c1
   rw?
   refine aC (mk:=.tup) 0#d λp1 H1 s1 n1 e1=>?_
   have ev1:=s1 _ _ ev0
   rw?
   apply aC (mk:=.tup) 0#d λp2 H2 s2 n2 e2=>?_
   apply aC (mk:=.tup) 0#d λp3 H3 s3 n3 e3=>?_
   refine aC (mk:=.tup) 0#d λp4 H4 s4 n4 e4=>?_
   have S7:=s3.trans s4
   have XU:=s2.trans S7
   refine k p4 p2 p3 .bK 0 (wo es 0) 0 none H4 (s1.trans XU) e4 ⟨p1,v0,S7 _ _ e2,zero (XU _ _ e1) 0#c,(fv0.up (s1.trans XU)).mono 0#c⟩ (zero (s4 _ _ e3) 0#c) rfl ⟨qz,λp hp=>?_,λ_=>rfl,λ_ _ _ e=>nomatch e⟩ (.inl ⟨by try?,rfl,rfl⟩)
   obtain rfl:p=0:=by try?
   unfold fX
   rw [show wo es 0-(0*(mo es 0:Rat)+wo es 0)=0 by grind]
   exact qz
  ·rw?
   exact rest _ _ ⟨rfl,rfl,λz=>c1 (je 0#c)⟩
 obtain ⟨rfl,rfl,aiI⟩:=hP
 refine jH (λσ' H'=>H'=H''∧σ'=[some 0#O,some (.ref x0.1),none,none,none,none,none,none]∧3≤es.length) (λσ' H' hP=>?_) (λN rest=>?_)
 rotate_left
 ·rw?
  refine dW (.inl (bq.of hl)) ?_
  rw [aT]
  rw?
  refine c6 0#J 0#J
  ·have vU:(es.length:Int)=2:=dM c1
   obtain ⟨x1,g1,sa1⟩:=dG hR hS (show 1<es.length by try?)
   have hlt:=iC d9 (show 0<1 by decide) (show 1<es.length by try?)
   rw?
   apply dg hl (fB (i:=1) g1 rfl) ?_
   apply ⟨x0.1,x1.1,_,_,_,_,n,rfl,sa0,sa1,by try?,by try?,λp1 H1 s1 f1=>?_⟩
   apply ⟨p1,x0.1,_,_,_,_,n,rfl,f1,sa0.up s1,hn1,by try?,λzl r' H2 s2 ez fr=>?_⟩
   apply aC (mk:=.tup) 0#d λp3 H3 s3 n3 e3=>?_
   refine aC (mk:=.tup) 0#d λp4 H4 s4 n4 e4=>?_
   have S7:=s3.trans s4
   refine k p4 zl p3 .bK _ _ 0 none H4 (s1.trans (s2.trans S7)) e4 ⟨p1,r',S7 _ _ ez,(f1.up (s2.trans S7)).mono 0#c,(fr.up S7).mono 0#c⟩ (zero (s4 _ _ e3) 0#c) rfl ⟨qz,λp hp=>?_,λ_=>rfl,λ_ _ _ e=>nomatch e⟩ (.inr ⟨0,0,1,by decide,by try?,by try?,rfl,.inl rfl⟩)
   have hT:=eS (b:=mo es 1-mo es 0) 0#c
   rw [sF] at hT
   have:fX es ((wo es 1-wo es 0)/((mo es 1-mo es 0:Int):Rat)) (wo es 0-(wo es 1-wo es 0)/((mo es 1-mo es 0:Int):Rat)*(mo es 0:Rat)) p=0:=by
    unfold fX
    rw [sF]
    rcases (show p=0∨p=1 by try?) with rfl | rfl
    ·grind
    ·grind
   rw [this]
   exact qz
  ·rw?
   exact rest _ _ ⟨rfl,rfl,by
    have:¬(es.length:Int)=2:=λz=>c1 (je z)
    try?⟩
 obtain ⟨rfl,rfl,h3⟩:=hP
 rw?
 refine ⟨l,es,n,rfl,hl,hR,hS,d9,hn1,hn,h3,mX,λr i j kk y C H1 s1 er hC hy K5=>?_⟩
 obtain ⟨hij,hjk,hkn,_⟩:=id K5
 have hlt:=iC d9 (show i<kk by try?) hkn
 have hl1:=s1 _ _ hl
 obtain ⟨xi,gi,si⟩:=dG (hR.up s1) hS (show i<es.length by try?)
 obtain ⟨xj,gj,sj⟩:=dG (hR.up s1) hS (show j<es.length by try?)
 obtain ⟨xk,gk,sk⟩:=dG (hR.up s1) hS hkn
 rw?
 apply dg hl1 (fB gi rfl) ?_
 apply dg hl1 (fB gk rfl) ?_
 apply dg hl1 (fB gj rfl) ?_
 apply ⟨xi.1,xj.1,xk.1,_,_,_,_,_,_,n,rfl,si,sj,sk,hlt,by try?,λp2 H2 s2 f2=>?_⟩
 apply aC (mk:=.tup) 0#d λp3 H3 s3 n3 e3=>?_
 refine ⟨p2,p3,_,1/2,_,2,rfl,(f2.up s3).qt,⟨1,2,e3,⟨by decide,by decide +kernel⟩,by decide,by decide⟩,by try?,λp4 H4 s4 f4=>?_⟩
 have XU:=s2.trans 0#N
 rw?
 apply ⟨xi.1,xk.1,_,_,_,_,n,rfl,si.up XU,sk.up XU,by try?,by try?,λp5 H5 s5 f5=>?_⟩
 refine ⟨p5,xi.1,_,_,_,_,n,rfl,f5,si.up (XU.trans s5),hn1,by try?,λzc rc H6 s6 ec fc=>?_⟩
 have XW:=s5.trans s6
 try dsimp only at f4
 generalize hd:(wo es j-dJ (mo es i) (wo es i) (mo es j) (mo es kk) (wo es kk))*(1/2)=d at f4
 generalize hs:(wo es kk-wo es i)/((mo es kk-mo es i:Int):Rat)=sl at f5 fc
 have hB:=RY hC d9 hy K5 (s:=sl) (d:=d) (h:=wo es i-sl*(mo es i:Rat)+d) (by rw [← hs,sF]) (by rw [← hd];grind) rfl
 have f46:=f4.up XW
 obtain ⟨tp,bt,e6,fr6,zt6,zb6⟩:=id f46
 have er6:=(XU.trans XW) _ _ er
 have ht0:tp=0↔d=0:=by
  have aeY:=eS (b:=bt) (by have:=fr6.pos;try?)
  have he:=fr6.eq
  constructor
  ·intro z
   rw [z] at he
   have:((0:Int):Rat)=0:=rfl
   rw [this] at he
   rcases Mv.mp he.symm with q | q
   ·exact q
   ·exact absurd q aeY
  ·intro z
   rw [z,ab1] at he
   exact Mu.mp he
 refine Qx ?_
 refine jH (λσ' H'=>H'=H6∧∃v,σ'=[some 0#O,some (.ref x0.1),some (.ref r),some (.ref xi.1),some (.ref xk.1),some (.ref p4),some (.ref zc),some v]∧aes H6 (if d=0 then none else some (i,j,kk)) v) (λσ' H' hP=>?_) (λN rest=>?_)
 rotate_left
 ·rw?
  refine c6 0#J 0#J
  ·have vU:=ht0.mp (dM c1)
   rw?
   exact rest _ _ ⟨rfl,.bK,rfl,by rw [if_pos vU];rfl⟩
  ·have vU:¬d=0:=λz=>c1 (je (ht0.mpr z))
   rw?
   exact rest _ _ ⟨rfl,.ref r,rfl,by rw [if_neg vU];exact ⟨r,rfl,er6⟩⟩
 obtain ⟨rfl,v,rfl,hv⟩:=hP
 rw?
 apply ⟨rc,p4,_,_,_,_,rfl,fc.qt,f46.qt,by try?,λp7 H7 s7 f7=>?_⟩
 refine aC (mk:=.tup) 0#d λp8 H8 s8 n8 e8=>?_
 have s68:=s7.trans s8
 rw?
 apply ⟨p4,_,_,rfl,f46.up s68,λp9 H9 s9 f9=>?_⟩
 refine aC (mk:=.tup) 0#d λp10 xg rf zM Gw=>?_
 have F3:=s9.trans rf
 have ad5:=s68.trans F3
 refine k p10 p8 p9 v sl _ _ _ xg (s1.trans (XU.trans (XW.trans ad5))) Gw ⟨p5,p7,F3 _ _ e8,(f5.up (s6.trans ad5)).mono 0#c,(f7.up (s8.trans F3)).mono 0#c⟩ ((f9.up rf).mono 0#c) ?_ hB (.inr ⟨i,j,kk,by try?,hkn,by try?,hs.symm,.inr (by rw [← hd];rfl)⟩)
 by_cases z:d=0
 ·rw [if_pos z] at hv ⊢
  exact hv
 ·rw [if_neg z] at hv ⊢
  obtain ⟨r',e1,e2⟩:=hv
  exact ⟨r',e1,ad5 _ _ e2⟩
def AY (es:List En) (a b c:Nat):Rat:=dP (sd es a b c)/2
theorem V9 (hac:mo es a<mo es c):sd es a b c=fX es s h b-dJ (mo es a) (fX es s h a) (mo es b) (mo es c) (fX es s h c):=by
 have hT:((mo es c:Rat)-(mo es a:Rat))≠0:=by
  have:=eS (b:=mo es c-mo es a) 0#c
  rw [sF] at this
  exact this
 unfold sd fX dJ
 generalize (mo es a:Rat)=ta at *
 generalize (mo es b:Rat)=tb at *
 generalize (mo es c:Rat)=tc at *
 grind
theorem Ug (h1:ta<tb) (h2:tb<tc) (hx:x≤M) (hy:y≤M):dJ ta x tb tc y≤M:=by
 have a:=AM hx (show 0≤tc-tb by grind)
 have b:=AM hy (show 0≤tb-ta by grind)
 refine kB.mp λz=>?_
 unfold dJ at z
 rw [abF 0#B] at z
 grind
theorem Ue (h1:ta<tb) (h2:tb<tc) (hx:M≤x) (hy:M≤y):M≤dJ ta x tb tc y:=by
 have a:=AM hx (show 0≤tc-tb by grind)
 have b:=AM hy (show 0≤tb-ta by grind)
 refine kB.mp λz=>?_
 unfold dJ at z
 rw [abE 0#B] at z
 grind
theorem YN (d9:rising es) (hle:∀p,p<es.length→dP (fX es s h p)≤w)  (hab:a<b) (hbc:b<c) (hc:c<es.length):AY es a b c≤w:=by
 have t1:(mo es a:Rat)<(mo es b:Rat):=sy.mpr (iC d9 hab 0#c)
 have t2:(mo es b:Rat)<(mo es c:Rat):=sy.mpr (iC d9 hbc hc)
 have e:=V9 (es:=es) (s:=s) (h:=h) (a:=a) (b:=b) (c:=c) (iC d9 0#c hc)
 obtain ⟨a1,a2⟩:=kg.mp (hle a 0#c)
 obtain ⟨b1,b2⟩:=kg.mp (hle b 0#c)
 obtain ⟨c1,c2⟩:=kg.mp (hle c hc)
 have u1:=Ug t1 t2 a2 c2
 have u2:=Ue t1 t2 a1 c1
 have:dP (sd es a b c)≤2*w:=kg.mpr (by rw [e];constructor <;> grind)
 unfold AY
 grind
theorem CO (d9:rising es) (hB:sJ es s h w (some (i,j,k))):i<j∧j<k∧k<es.length∧AY es i j k=w∧w≠0:=by
 obtain ⟨hw,hij,hjk,hk,ho⟩:=hB.We i j k rfl
 have t1:(mo es i:Rat)<(mo es j:Rat):=sy.mpr (iC d9 hij 0#c)
 have t2:(mo es j:Rat)<(mo es k:Rat):=sy.mpr (iC d9 hjk hk)
 have e:=V9 (es:=es) (s:=s) (h:=h) (a:=i) (b:=j) (c:=k) (iC d9 0#c hk)
 have hn:=hB.nn
 refine ⟨hij,hjk,hk,?_,hw⟩
 unfold AY
 have one:∀x:Rat,dJ (mo es i) x (mo es j) (mo es k) x=x:=λx=>by
  unfold dJ
  generalize (mo es i:Rat)=ta at *
  generalize (mo es j:Rat)=tb at *
  generalize (mo es k:Rat)=tc at *
  grind
 rcases ho with ⟨o1,o2,o3⟩ | ⟨o1,o2,o3⟩
 ·rw [e,o1,o2,o3,one]
  unfold dP
  split <;> grind
 ·rw [e,o1,o2,o3,one]
  unfold dP
  split <;> grind
theorem vY (d9:rising es) (hB:0≤B):BC es B↔∀i j k,i<j→j<k→k<es.length→dP (sd es i j k)≤B:=by
 have hr:aeu (λi=>(mo es i:Rat)) es.length:=λi j hij hj=>sy.mpr (iC d9 hij hj)
 constructor
 ·intro hF i j k hij hjk hk
  have hj:j<es.length:=EU hjk hk
  have d1:=hr i j hij hj
  have d2:=hr j k hjk hk
  have q1:=hF i j i j hij hj hij hj
  have q2:=hF i j j k hij hj hjk hk
  have q3:=hF j k i j hjk hk hij hj
  have q4:=hF j k j k hjk hk hjk hk
  by_cases hc:jx es B i j≤jx es B j k
  ·exact L7 (s:=jx es B j k) (t:=λi=>(mo es i:Rat)) (v:=wo es) d1 d2 hc q3 qz q4
  ·exact L7 (s:=jx es B i j) (t:=λi=>(mo es i:Rat)) (v:=wo es) d1 d2 qz q1 (MB (oN.mp hc)) q2
 ·intro hp i j k l hij hj Sq hl
  exact ae1 (t:=λi=>(mo es i:Rat)) (v:=wo es) hr (λa b c h1 h2 h3=>hp a b c h1 h2 h3) hB hij hj Sq hl
theorem T7 (d9:rising es) (hB:sJ es s h w F) (iy:0≤β):BC es (2*β)↔w≤β:=by
 rw [vY d9 0#B]
 constructor
 ·intro hp
  cases F with
  | none=>rw [hB.none_ rfl];exact iy
  | some x=>
    obtain ⟨i,j,k⟩:=x
    obtain ⟨q1,q2,q3,q4,_⟩:=CO d9 hB
    have:=hp i j k q1 q2 q3
    unfold AY at q4
    grind
 ·intro hw i j k hij hjk hk
  have:=YN d9 hB.le hij hjk hk
  unfold AY at this
  grind
def Kg (H:Hp) (p:aq) (q:List En) (N:Nat):Prop:=∃(s h w:Rat) (Fo:Option (Nat×Nat×Nat)),xw H (p,(mo q 0:Rat),s*(mo q 0:Rat)+h,(mo q (q.length-1):Rat),s*(mo q (q.length-1):Rat)+h) N∧sJ q s h w Fo∧XD q s h
theorem Kg.mv (t:∀{b:aq} {xs:List V},H b=some 0#o→H' b=some 0#o) (f:Kg H p q N):Kg H' p q N:=by
 obtain ⟨s,h,w,Fo,f,b⟩:=f
 exact ⟨s,h,w,Fo,f.mv t,b⟩
def Gh (H:Hp) (t:aq) (es:List En) (β:Rat):Prop:=∃i j:Nat,i<j∧j+1<es.length∧H t=some (.tup [.int (mo es i),.int (mo es j),.int (mo es (es.length-1))])∧β<AY es i j (es.length-1)
theorem Gh.mv (t:∀{b:aq} {xs:List V},H b=some 0#o→H' b=some 0#o) (f:Gh H p q β):Gh H' p q β:=by
 obtain ⟨i,j,a,b,e,g⟩:=f
 exact ⟨i,j,a,b,t e,g⟩
structure Po (H:Hp) (run:List En) (β:Rat) (N:Nat) (qs:List (List En)) (ps ts:List aq):Prop where
 cut:Cut run (2*β) qs run.length
 lp:ps.length=qs.length
 lt:ts.length+1=qs.length
 pc:∀(i:Nat) (q:List En) (p:aq),qs[i]?=some q→ps[i]?=some p→Kg H p q N
 th:∀(i:Nat) (q q':List En) (x:En) (t:aq),qs[i]?=some q→qs[i+1]?=some q'→q'[0]?=some x→ts[i]?=some t→Gh H t (q++[x]) β
theorem Po.mv {run:List En} (t:∀{b:aq} {xs:List V},H b=some 0#o→H' b=some 0#o) (f:Po H run β N qs ps ts):Po H' run β N qs ps ts:=
 ⟨f.cut,f.lp,f.lt,λi q p h1 h2=>(f.pc i q p h1 h2).mv t,λi q q' x t' h1 h2 h3 h4=>(f.th i q q' x t' h1 h2 h3 h4).mv t⟩
def yX (H:Hp) (β:Rat) (N:Nat) (rs:List (List En)) (zs:List (List (List En)×List aq×List aq)):Prop:=gK (λr z=>Po H r β N z.1 z.2.1 z.2.2) rs zs
theorem yX.mv (t:∀{b:aq} {xs:List V},H b=some 0#o→H' b=some 0#o) (f:yX H β N rs zs):yX H' β N rs zs:=uT (λ_ _ _ r=>r.mv t) f
def uG (zs:List (List (List En)×List aq×List aq)):List aq:=zs.flatMap (·.2.1)
def Ba (zs:List (List (List En)×List aq×List aq)):List aq:=zs.flatMap (·.2.2)
theorem ahg (xs:List V):j8 xs (some 1) none=xs.drop 1:=by
 unfold j8 HT.G2
 cases xs with
 | nil=>rfl
 | cons x xs=>simp
theorem Cut.afx (h:Cut es B qs n) {i:Nat} (hq:qs[i]?=some q):1≤q.length∧q.length≤es.length:=by
 obtain ⟨pos,_,_,h⟩:=h
 obtain ⟨h1,h2,rfl,_⟩:=h i q hq
 rw [kX h2]
 try?
theorem Cut.len (h:Cut es B qs n):qs.length≤n:=by
 obtain ⟨pos,p0,pn,h⟩:=h
 have st:∀i,i≤qs.length→i≤pos i:=by
  intro i
  induction i with
  | zero=>intro _;exact lX _
  | succ i ih=>
    intro hi
    have a:=ih 0#c
    obtain ⟨h1,_⟩:=h i _ (jY (show i<qs.length by try?))
    try?
 have:=st qs.length (dS _)
 try?
theorem wC:∀i:Nat,(parts s es i).flatten=(es.take i).filter s
 | 0=>by simp [parts]
 | i+1=>by
   have ih:=wC (s:=s) (es:=es) i
   unfold parts
   cases e:es[i]? with
   | none=>
     rw [sC,e]
     simpa using ih
   | some y=>
     have tk:es.take (i+1)=es.take i++[y]:=by rw [sC,e];rfl
     rw [tk,Ca]
     dsimp only
     split
     ·rename_i hs
      split
      ·rename_i hr
       obtain ⟨t,r',hp⟩:=tT hr
       rw [hp] at ih ⊢
       rw [← ih]
       simp [hs]
      ·rw [Bl,ih]
       simp [hs]
     ·rename_i hs
      rw [ih]
      simp [hs]
theorem RZ {α:Type} {l:List (List α)} (i:Nat):(l.take i).flatten.length≤l.flatten.length:=by
 have e:l.flatten=(l.take i).flatten++(l.drop i).flatten:=by rw [← Bl,MG]
 rw [e,fh]
 exact yH _ _
theorem Cut.sub (h:Cut es B qs n) {i:Nat} (hq:qs[i]?=some q):q.Sublist es∧BC q B:=by
 obtain ⟨pos,_,_,h⟩:=h
 obtain ⟨h1,h2,rfl,hf,_⟩:=h i q hq
 exact ⟨(yE _ _).trans (yF _ _),hf⟩
theorem Cut.next (h:Cut es B qs n)  (hq:qs[i]?=some q) (hq':qs[i+1]?=some q'):∃x,q'[0]?=some x∧(q++[x]).Sublist es∧¬BC (q++[x]) B:=by
 obtain ⟨pos,_,_,h⟩:=h
 obtain ⟨h1,h2,rfl,hf,hn⟩:=h i q hq
 obtain ⟨k1,k2,rfl,_,_⟩:=h (i+1) q' hq'
 have hlt:pos (i+1)<es.length:=by try?
 have hx:es[pos (i+1)]?=some es[pos (i+1)]:=jY hlt
 refine ⟨es[pos (i+1)],by rw [qo 0#c,RB];exact hx,?_,?_⟩
 ·rw [← qY 0#c hx]
  exact (yE _ _).trans (yF _ _)
 ·rw [← qY 0#c hx]
  exact hn hlt
theorem T6 (h:es[es.length-1]?=some x):sI (vals es) (-1)=some (.ref x.1):=by
 have hl:=(nH.mp h).1
 unfold sI
 rw [aT,uU (m:=es.length-1) 0#c]
 exact yy h
inductive Ed (vs:List V) (H:Hp) (Q:VK) (E_:XK):Prop where
 | mk (p:aq) (s h:Rat) (a b:Int) (m n:Nat):vs=[.ref p,.int a,.int b]→jJ H p s h n→Sz m a→Sz m b→1≤m→m+2*n+1≤8000→(∀(z:aq) (H':Hp),ao H H'→xw H' (z,(a:Rat),s*(a:Rat)+h,(b:Rat),s*(b:Rat)+h) (m+2*n+1)→Q (.ref z) H')→Ed vs H Q E_
inductive uC (vs:List V) (H:Hp) (Q:VK) (E_:XK):Prop where
 | mk (l:aq) (es:List En) (n:Nat):vs=[.ref l]→H l=some 0#s→Row H es n→iK es→rising es→1≤n→n≤200→es.length*n+n≤7000→1≤es.length→es.length≤40→(∀(p:aq) (H':Hp),ao H H'→Kg H' p es 6000→Q (.ref p) H')→uC vs H Q E_
inductive wY (vs:List V) (H:Hp) (Q:VK) (E_:XK):Prop where
 | mk (l x:aq) (es:List En) (m:Int) (q β:Rat) (n:Nat):vs=[.ref l,.ref x]→H l=some 0#s→Row H es n→jK H x m q n→iK es→rising (es++[(x,m,some q)])→1≤n→n≤200→(es.length+1)*n+n≤7000→es.length<40→0≤β→BC es (2*β)→¬BC (es++[(x,m,some q)]) (2*β)→(∀(t:aq) (H':Hp),ao H H'→Gh H' t (es++[(x,m,some q)]) β→Q (.ref t) H')→wY vs H Q E_
inductive Cu (vs:List V) (H:Hp) (Q:VK) (E_:XK):Prop where
 | mk (l pb:aq) (es:List En) (β:Rat) (n nb:Nat):vs=[.ref l,.ref pb]→H l=some 0#s→Row H es n→rising es→es.length≤40→b8 H pb β nb→0≤β→1≤n→n≤165→nb≤1000→(∀(y X Z:aq) (zs:List (List (List En)×List aq×List aq)) (H':Hp),ao H H'→H' y=some (.tup [.ref X,.ref Z])→H X=none→H Z=none→X≠Z→H' X=some (.lst ((uG zs).map V.ref))→H' Z=some (.lst ((Ba zs).map V.ref))→yX H' β 6000 (parts dh es es.length) zs→Q (.ref y) H')→Cu vs H Q E_
theorem Ea:fz 3 [cQ,cV,cY] pU:=0#a
theorem DA (F:fO K "piece_along" pU f fd) (ju:acm P w K mg base):bh P w K mg base dm 6 f fd [cQ,cV,cY] Ed:=by
 refine F.eU Ea λcdv A outer s H vs Q E hr h=>?_
 obtain ⟨p,s,h,a,b,m,n,rfl,hln,za,zb,hm,hmn,k⟩:=h
 apply bF ⟨_,(aD (aX (bW (Jd.a4 (bW (bL 0#n au)) (bZ ju hr 0#h (bW (bL 0#n au))) (bW (bL 0#q au)) (bZ ju hr 0#h (bW (bL 0#q au))))))),?_⟩
 apply aC (mk:=.tup) 0#d λp1 H1 s1 n1 e1=>?_
 refine aC (mk:=.tup) 0#d λp2 H2 s2 n2 e2=>?_
 have gV:=s1.trans s2
 rw?
 refine ⟨p,p2,s,h,_,m,n,rfl,jJ.up hln gV,uJ e2 za hm,hmn,λp3 H3 s3 f3=>?_⟩
 have qu:=gV.trans s3
 rw?
 apply aC (mk:=.tup) 0#d λp4 H4 s4 n4 e4=>?_
 refine aC (mk:=.tup) 0#d λp5 H5 s5 n5 e5=>?_
 have Js:=qu.trans 0#W
 rw?
 apply ⟨p,p5,s,h,_,m,n,rfl,jJ.up hln Js,uJ e5 zb hm,hmn,λp6 H6 s6 f6=>?_⟩
 refine aC (mk:=.tup) 0#d λz H7 s7 n7 e7=>?_
 have s47:=s5.trans (s6.trans s7)
 have s37:=s4.trans s47
 have one:∀{y:Int},Sz m y→Sz (m+2*n+1) y:=λz=>z.mono 0#c
 exact k z H7 (qu.trans s37) ⟨p1,p3,p4,p6,e7,⟨a,1,(s2.trans (s3.trans s37)) _ _ e1,Fr.whole a,one za,qV 0#c⟩,f3.up s37,⟨b,1,s47 _ _ e4,Fr.whole b,one zb,qV 0#c⟩,f6.up s7⟩
theorem F4:fz 1 [iu] rg:=0#a
theorem FN (F:fO K "best_piece" rg f fd) (pJ:Dn P w K mg base 6 "piece_along" [cQ,cV,cY] Ed) (zf:Dn P w K mg base 6 "best" [aZ] JK):bh P w K mg base dm 7 f fd [iu] uC:=by
 refine F.eU F4 λcdv A outer s H vs Q E hr h=>?_
 obtain ⟨l,es,n,rfl,hl,hR,hA,d9,hn1,hn,hln,h1,mX,k⟩:=h
 apply bF ⟨_,(aD (aX (Jd.c3 pJ hr (aH K (Jd.c1 zf hr 0#h)) (aH K (Jd.iL K 0#h)) (aH K (bO (gU K) 0#h (gF dH au) 0#g))))),?_⟩
 refine ⟨l,es,n,rfl,hl,hR,hA,d9,hn1,by try?,hln,h1,mX,λz zl zw Fv sl ht w' Fo H1 s1 ez hL _ _ hB ahp=>?_⟩
 obtain ⟨e0,g0,v0,ev0,fv0,zt0⟩:=dG (hR.up s1) hA (show 0<es.length by try?)
 obtain ⟨e1,g1,v1,ev1,fv1,zt1⟩:=dG (hR.up s1) hA (show es.length-1<es.length by try?)
 have hl1:=s1 _ _ hl
 rw?
 apply dg hl1 (fB g0 rfl) ?_
 apply dg hl1 (T6 g1) ?_
 refine ⟨zl,sl,ht,_,_,n,13*n+15,rfl,hL,zt0,zt1,hn1,by try?,λp H2 s2 f2=>?_⟩
 refine k p H2 (s1.trans s2) ⟨sl,ht,w',Fo,?_,hB,ahp⟩
 obtain ⟨a,b,c,d,e,f1,f2,f3,f4⟩:=f2
 exact ⟨a,b,c,d,e,f1.mono 0#c,f2.mono 0#c,f3.mono 0#c,f4.mono 0#c⟩
theorem aif (h:te σ H λx H1=>∃a,x=.ref a∧(∃xs,tD K H1 a xs)∧R (Itt K a) H1):YT K te σ H R:=h
theorem r8:fz 2 [iu,"behind",aZ] oB:=0#a
theorem BV (F:fO K "ending_three" oB f fd) (T:Txt mg) (zf:Dn P w K mg base 6 "best" [aZ] JK):bh P w K mg base dm 7 f fd [iu,"behind"] wY:=by
 refine F.eU r8 λcdv A outer s H vs Q E hr h=>?_
 obtain ⟨l,x,es,m,q,β,n,rfl,hl,hR,hx,hA,d9,hn1,hn,hln,mX,iy,hf,hnf,k⟩:=h
 generalize hes:es++[(x,m,some q)]=fs at *
 have hlf:fs.length=es.length+1:=by rw [← hes];simp
 have hRf:Row H fs n:=by rw [← hes];exact hR.snoc hx.en
 have hAf:iK fs:=by rw [← hes];exact qd hA
 have hrs:rising es:=by rw [← hes] at d9;exact d9.sublist (Me _ _)
 apply bF ⟨_,(ah (oY (i:=2) r8.nd rfl (Or.inr rfl) (aF z6 0#h (dO (dZ 0#n))) (hs:=aea)) (aD (aX (Jd.kW Fe rfl T.aem agM (dZ (oW (O:=["place"]) (N':=[aZ]) (cap:=[2]) rfl (Jd.piT K (aH K (Jd.c1 zf hr 0#q))) (λ_ _ _ _ _=>(cB (i:=0) (show kD [("place":Str),("samples":Str)] by decide +kernel) rfl 0#k)) (λ_ _ _ _ _=>oX) (λ_ _ _ _ _=>(bO (MI K) (bO (gU K) 0#n 0#h 0#g) au 0#g)) rfl 0#u rfl 0#e rfl 0#e)))))),?_⟩
 apply aC (mk:=.lst) 0#d λl1 H1 s1 n1 e1=>?_
 refine GX (s1 _ _ hl) e1 ?_
 refine aC (mk:=.lst) (by rw [fh,aT];simp;try?) λL H2 s2 n2 e2=>?_
 have eL:H2 L=some (.lst (vals fs)):=by rw [e2,← hes];simp [vals]
 have gV:=s1.trans s2
 rw?
 apply aif ?_
 refine ⟨L,fs,n,rfl,eL,hRf.up gV,hAf,d9,hn1,by try?,by rw [hlf];exact hln,by try?,by try?,λz zl zw Fv sl ht w' Fo H3 s3 ez _ _ hFo hB _=>?_⟩
 have hw:β<w':=oN.mp λz=>hnf ((T7 d9 hB iy).mpr z)
 cases Fo with
 | none=>exact absurd (hB.none_ rfl) 0#B
 | some y=>
   obtain ⟨i,j,kk⟩:=y
   obtain ⟨q1,q2,q3,q4,_⟩:=CO d9 hB
   have hk:kk=es.length:=by
    refine J9 λhne=>?_
    have Sq:kk<es.length:=by try?
    have h1:=(vY hrs (show (0:Rat)≤2*β by grind)).mp hf i j kk q1 q2 Sq
    have e:sd es i j kk=sd fs i j kk:=by
     unfold sd
     rw [← hes,lH (show i<es.length by try?),lP (show i<es.length by try?),lH (show j<es.length by try?),lP (show j<es.length by try?),lH Sq,lP Sq]
    unfold AY at q4
    rw [e] at h1
    grind
   subst hk
   obtain ⟨r,rfl,er⟩:=hFo
   have qu:=gV.trans s3
   have eL3:=s3 _ _ eL
   rw?
   refine ⟨r,rfl,⟨_,tD.of er⟩,?_⟩
   refine c9 (xs:=[.int (i:Int),.int (j:Int),.int (es.length:Int)]) Tg (λH4 s4=>tD.of (s4 _ _ er)) 0#d (λc ys G=>ys=([i,j,es.length].take c).map λp=>V.int (mo fs p)) rfl ?_ ?_
   ·rintro D c v ys H4 lF NN N0 h0 hD eD s4 hv hy rfl kY kN
    obtain ⟨pq,gpq,rfl,hpq⟩:∃pq:Nat,[i,j,es.length][c]?=some pq∧v=.int (pq:Int)∧pq<fs.length:=by
     have hq:c<3:=(nH.mp hv).1
     rcases (show c=0∨c=1∨c=2 by try?) with rfl | rfl | rfl
     ·exact ⟨i,rfl,by cases hv;rfl,by try?⟩
     ·exact ⟨j,rfl,by cases hv;rfl,by try?⟩
     ·exact ⟨es.length,rfl,by cases hv;rfl,by try?⟩
    obtain ⟨e,ge,v',ev,fv,zv⟩:=dG (hRf.up (qu.trans s4)) hAf hpq
    apply ic h0 ?_
    apply cI ?_
    apply dg (s4 _ _ eL3) (fB ge rfl) ?_
    refine kY _ H4 0#t ?_
    rw [sC,gpq,jD]
    rfl
   ·rintro D ys H4 hD eD s4 hy rfl
    rw?
    refine ⟨D,_,rfl,.inl ⟨bq.of eD,λt nt=>?_⟩⟩
    refine k t _ ((qu.trans s4).trans (jz nt _)) ⟨i,j,q1,by try?,?_,?_⟩
    ·rw [av,hlf]
     rfl
    ·rw [hlf,show es.length+1-1=es.length by try?,q4]
     exact hw
theorem uz:fz 2 [b9,aO,"telling","paper","run","parts"] Ju:=0#a
theorem Vm (F:fO K "apart" Ju f fd) (T:Txt mg) (qN:Dn P w K mg base 1 "runs" [b9] Ex) (sY:Dn P w K mg base 8 "stretches" [aZ,aO] (uE aR)) (qG:Dn P w K mg base 7 "best_piece" [iu] uC) (nI:Dn P w K mg base 7 "ending_three" [iu,"behind"] wY):bh P w K mg base dm 9 f fd [b9,aO] Cu:=by
 refine F.eU uz λcdv A outer s H vs Q E hr h=>?_
 obtain ⟨l,pb,es,β,n,nb,rfl,hl,hR,d9,mX,hb,iy,hn1,hn,hnb,k⟩:=h
 apply bF ⟨_,(ah (aL 2 uz.nd (dO gH)) (ah (aL 3 uz.nd (dO gH)) (ah (iP gR rfl (eE K (Jd.c1 qN hr 0#h)) (cB (i:=4) uz.nd rfl 0#k) (ah (aL 5 uz.nd (bZ sY hr (aa 4) 0#n)) (ah (fm (Jd.KC K 0#q (oW (O:=[iu]) (N':=[]) (cap:=[]) rfl (eE K (aa 5)) (λ_ _ _ _ _=>(cB (i:=0) (show kD [("stretch":Str)] by decide +kernel) rfl 0#k)) (λ_ _ _ _ _=>oX) (λ_ _ _ _ _=>(iA qG 0#z rfl (fL 0#h gH bP) (he:=bP) (hpl:=cR))) rfl trivial rfl 0#e rfl 0#e)) (hs:=eK)) (aD (fm (Jd.KC K 0#A (oW (O:=[iu,"behind"]) (N':=[]) (cap:=[]) rfl (Jd.DK K rfl T.aep (bL (aa 5) (rW (TM K) (aa 5) (rY au) rX))) (λ_ _ _ _ _=>(Jd.TH K (n:=2) rfl (iH (cB (i:=0) (show kD [("stretch":Str),("behind":Str)] by decide +kernel) rfl 0#k) (iH (cB (i:=1) (show kD [("stretch":Str),("behind":Str)] by decide +kernel) rfl 0#k) tK)))) (λ_ _ _ _ _=>oX) (λ_ _ _ _ _=>(iA nI 0#z rfl (fL 0#h (fL (bO (gU K) 0#n au 0#g) gH EF) bP) (he:=bP) (hpl:=(cO EF cR)))) rfl trivial rfl 0#e rfl 0#e)) (hs:=eK)))))) (aD (aX (bW (bL 0#q 0#A))))))),?_⟩
 apply aC (mk:=.lst) 0#d λX H1 s1 n1 e1=>?_
 refine aC (mk:=.lst) 0#d λZ H2 s2 n2 e2=>?_
 have gV:=s1.trans s2
 have SI:X≠Z:=λz=>by rw [← z,e1] at n2;cases n2
 rw?
 apply fq (jb ?_)
 refine ⟨l,es,n,rfl,gV _ _ hl,hR.up gV,mX,λTT ls H3 s3 E8 hls ahz _=>?_⟩
 have hll:ls.length=(parts dh es es.length).length:=by rw [← hls,gI]
 obtain ⟨a1,a2⟩:=E8.own (s2 _ _ e1)
 obtain ⟨b1,b2⟩:=E8.own e2
 have hF:∀i,((parts dh es es.length).take i).flatten.length≤40:=λi=>by
  have q1:=RZ (l:=parts dh es es.length) i
  rw [wC,jt] at q1
  have q2:(es.filter dh).length≤es.length:=Mm ..
  try?
 refine ⟨TT,rfl,⟨_,bq.of E8.at_⟩,d8 (xs:=lrefs ls) (λi σ H4=>Py λ(zs:List (List (List En)×List aq×List aq)) (v5 v6:Option V)=>σ=[some 0#O,some (.ref pb),some (.ref X),some (.ref Z),v5,v6]∧ao H H4∧LL H2 H4 TT ls∧H4 X=some (.lst ((uG zs).map V.ref))∧H4 Z=some (.lst ((Ba zs).map V.ref))∧(uG zs).length≤((parts dh es es.length).take i).flatten.length∧(Ba zs).length≤((parts dh es es.length).take i).flatten.length∧yX H4 β 6000 ((parts dh es es.length).take i) zs) ?_ ?_ ?_ ?_⟩
 ·exact ⟨[],none,none,rfl,gV.trans s3,E8,(s2.trans s3) _ _ e1,s3 _ _ e2,dS _,dS _,trivial⟩
 ·rintro i σ H4 _ ⟨zs,v5,v6,rfl,s4,Cg,_⟩
  exact bq.of Cg.at_
 ·rintro i x σ H4 hx ⟨zs,v5,v6,rfl,s4,Cg,eX,eZ,hz1,hz2,hAp⟩
  refine c8 λM B RR hM _ _=>?_
  obtain ⟨x,gx,rfl⟩:=qh hx
  have hi:i<ls.length:=(nH.mp gx).1
  have Tv:=mT gx
  have hp:(parts dh es es.length)[i]?=some x.2:=by rw [← hls,kE,gx];rfl
  obtain ⟨o1,o2,o3⟩:=kT es.length x.2 (mT hp)
  rw [jt] at o3
  obtain ⟨_,ex,_⟩:=Cg.each x Tv
  have hx1:1≤x.2.length:=E4.mpr o1
  have afh:x.2.length≤40:=dR o3.length_le mX
  have hRx:Row H4 x.2 n:=λz hz=>hR.up s4 z (o3.subset hz)
  have hrx:rising x.2:=d9.sublist o3
  have eX0:=eX
  have eZ0:=eZ
  rw?
  refine ⟨x.1,pb,x.2,β,n,nb,rfl,ex,hRx,o2,hrx,hb.up s4,iy,by try?,hnb,afh,λPT ls' H5 s5 M9 hC hl5=>?_⟩
  generalize hqs:ls'.map (·.2)=qs at *
  have hql:qs.length=ls'.length:=by rw [← hqs,gI]
  have hq1:1≤qs.length:=by
   obtain ⟨pos,p0,pn,_⟩:=hC
   rcases aa2 qs.length with z | z
   ·rw [z,p0] at pn;try?
   ·exact z
  have gq:∀{c:Nat} {y:aq×List En},ls'[c]?=some y→qs[c]?=some y.2:=λ{c y} g=>by rw [← hqs,kE,g];rfl
  have hmul:∀{c:Nat},c≤41→c*n+n≤7000:=λ{c} hc=>by
   have:=abD hc hn
   try?
  rw?
  apply ⟨.inl ⟨rfl,_,bq.of (s5 _ _ eX)⟩,?_⟩
  apply jb ?_
  refine ⟨PT,rfl,⟨_,bq.of M9.at_⟩,?_⟩
  refine c9 (xs:=lrefs ls') cC (λH6 s6=>bq.of (s6 _ _ M9.at_)) (by rw [fH];try?) (λc ys G=>∃ps:List aq,ys=ps.map V.ref∧ps.length=c∧∀(d:Nat) (q:List En) (p:aq),qs[d]?=some q→ps[d]?=some p→Kg G p q 6000) ⟨[],rfl,rfl,λd q p _ h=>by simp at h⟩ ?_ ?_
  ·rintro D c v ys H6 lF NN N0 h0 hD eD s6 hv hy ⟨ps,rfl,hpl,hps⟩ kY kN
   obtain ⟨y,gy,rfl⟩:=qh hv
   obtain ⟨_,ey,_⟩:=(M9.up s6).each y (mT gy)
   obtain ⟨l1,l2⟩:=hC.afx (gq gy)
   obtain ⟨u1,u2⟩:=hC.sub (gq gy)
   apply ic h0 ?_
   apply cI ?_
   refine ⟨y.1,y.2,n,rfl,ey,λz hz=>(hRx.up (s5.trans s6)) z (u1.subset hz),λz hz=>o2 z (u1.subset hz),hrx.sublist u1,hn1,by try?,hmul 0#c,l1,by try?,λp H7 s7 f7=>?_⟩
   refine kY _ H7 s7 ⟨ps++[p],by simp,by simp [hpl],λd q p' hd GD=>?_⟩
   by_cases hdc:d<ps.length
   ·rw [vn hdc] at GD
    exact (hps d q p' hd GD).mv λ{b xs} z=>(yd s7) _ _ z
   ·rw [yR 0#c] at GD
    have hd0:d-ps.length=0:=by
     have:=(nH.mp GD).1
     simp at this
     try?
    rw [hd0] at GD
    obtain rfl:p=p':=by simpa using GD
    have ac8:d=c:=by try?
    subst ac8
    cases (gq gy).symm.trans hd
    exact f7.mv λ{b xs} z=>gA (s7 _ _ eD) z
  ·rintro D ys H6 hD eD s6 hy ⟨ps,rfl,hpl,hps⟩
   rw [fH] at hpl
   have XW:=s5.trans s6
   have eX6:=XW _ _ eX
   have eZ6:=XW _ _ eZ
   have ahG:∀(d:Nat) (q:List En) (p:aq),qs[d]?=some q→ps[d]?=some p→Kg H6 p q 6000:=λd q p hd GD=>(hps d q p hd GD).mv λ{b xs} z=>jG _ _ z
   rw?
   refine GY eX6 eD (by rw [gI,gI];exact nA (aN (by have:=hF i;try?))) ?_
   generalize hH7:upd H6 X (.lst ((uG zs).map V.ref++ps.map V.ref))=H7
   have aga:∀{b:aq} {xs:List V},H6 b=some 0#o→H7 b=some 0#o:=λ{b xs} e=>by
    rw [← hH7]
    exact vC X H6 _ _ _ (gA eX6 e)
   have ahT:∀{b:aq} {o:HO},H6 b=some o→b≠X→H7 b=some o:=λ{b o} e ne=>by
    rw [← hH7]
    exact Y6 e ne
   have eX7:H7 X=some (.lst ((uG zs++ps).map V.ref)):=by rw [← hH7,av,jD]
   have eZ7:=ahT eZ6 (j4 SI)
   have nPX:PT≠X:=λz=>by rw [z] at M9;have:=M9.new;rw [eX] at this;cases this
   have nlX:∀y∈ls',y.1≠X:=λy hy z=>by have:=(M9.each y hy).1;rw [z,eX] at this;cases this
   have Na:LL H4 H7 PT ls':=by rw [← hH7];exact (M9.up s6).other (j4 nPX) nlX
   have hR7:Row H7 x.2 n:=by rw [← hH7];exact (hRx.up XW).app eX6
   have s07:ao H H7:=by rw [← hH7];exact bf (s4.trans XW) n1
   rw?
   apply ⟨.inl ⟨rfl,_,bq.of eZ7⟩,?_⟩
   apply VT ?_
   refine ⟨_,rfl,1,rfl,PT,_,rfl,bq.of Na.at_,λP1 nP1=>?_⟩
   rw [ahg]
   have s8:ao H7 (upd H7 P1 (.lst ((lrefs ls').drop 1))):=bf 0#t nP1
   have e8:upd H7 P1 (.lst ((lrefs ls').drop 1)) P1=some (.lst ((lrefs ls').drop 1)):=av
   generalize upd H7 P1 (.lst ((lrefs ls').drop 1))=H8 at *
   rw?
   refine ⟨PT,P1,_,_,rfl,bq.of (s8 _ _ Na.at_),bq.of e8,?_⟩
   refine zE (Km:=ls'.length-1) (by rw [fH];try?) (by rw [mO,fH];try?) (.inr (by rw [mO,fH];try?)) (λH9 s9=>⟨bq.of ((s8.trans s9) _ _ Na.at_),bq.of (s9 _ _ e8)⟩) 0#c (λc ys G=>∃ts:List aq,ys=ts.map V.ref∧ts.length=c∧∀(d:Nat) (q q':List En) (y:En) (t:aq),qs[d]?=some q→qs[d+1]?=some q'→q'[0]?=some y→ts[d]?=some t→Gh G t (q++[y]) β) ⟨[],rfl,rfl,λd q q' y t _ _ _ h=>by simp at h⟩ ?_ ?_
   ·rintro D' c v v' ys H9 xg pp lF NN N0 h0 hD' PZ s9 rf epp hc hv hv' hy ⟨ts,rfl,htl,hts⟩ kY kN
    obtain ⟨y,gy,rfl⟩:=qh hv
    rw [rQ,Hr] at hv'
    obtain ⟨y',gy',rfl⟩:=qh hv'
    have F3:=s8.trans (s9.trans rf)
    obtain ⟨_,ey,_⟩:=(Na.up F3).each y (mT gy)
    obtain ⟨_,ey',_⟩:=(Na.up F3).each y' (mT gy')
    obtain ⟨l1,l2⟩:=hC.afx (gq gy)
    obtain ⟨u1,u2⟩:=hC.sub (gq gy)
    obtain ⟨z,gz,w1,w2⟩:=hC.next (gq gy) (gq gy')
    have hRs:=hR7.up F3
    have hzm:z∈x.2:=w1.subset 0#d
    have ez:z=(z.1,z.2.1,some (z.2.2.getD 0)):=by
     have:=o2 z hzm
     obtain ⟨za,zm,zv⟩:=z
     cases zv with
     | none=>cases this
     | some q=>rfl
    have hz:=hRs z hzm
    rw [ez] at w1 w2 hz
    have hlen2:y.2.length+1≤40:=by
     have:=w1.length_le
     simp at this
     try?
    apply DS h0 epp ?_
    apply cI ?_
    apply dg ey' (fB gz rfl) ?_
    refine ⟨y.1,z.1,y.2,_,_,β,n,rfl,ey,λu hu=>hRs u (u1.subset hu),hz.sa,λu hu=>o2 u (u1.subset hu),hrx.sublist w1,hn1,by try?,hmul 0#c,by try?,iy,u2,w2,λt Pw B4 f11=>?_⟩
    rw [← ez] at f11
    have S8:=rf.trans B4
    refine kY _ Pw B4 ⟨ts++[t],by simp,by simp [htl],λd q q' y0 t' hd hd' hy0 ht'=>?_⟩
    by_cases hdc:d<ts.length
    ·rw [vn hdc] at ht'
     exact (hts d q q' y0 t' hd hd' hy0 ht').mv λ{b xs} z=>(yd S8) _ _ z
    ·rw [yR 0#c] at ht'
     have hd0:d-ts.length=0:=by
      have:=(nH.mp ht').1
      simp at this
      try?
     rw [hd0] at ht'
     obtain rfl:t=t':=by simpa using ht'
     have ac8:d=c:=by try?
     subst ac8
     cases (gq gy).symm.trans hd
     cases (gq gy').symm.trans hd'
     cases gz.symm.trans hy0
     exact f11.mv λ{b xs} z=>gA (S8 _ _ PZ) z
   ·rintro D' ys H9 hD' PZ s9 hy ⟨ts,rfl,htl,hts⟩
    have XX:=s8.trans s9
    have eX9:=XX _ _ eX7
    have eZ9:=XX _ _ eZ7
    rw?
    refine GY eZ9 PZ (by rw [gI,gI];exact nA (aN (by have:=hF i;try?))) ?_
    have K5:((parts dh es es.length).take (i+1)).flatten.length=((parts dh es es.length).take i).flatten.length+x.2.length:=by
     rw [sC,hp,Bl,fh]
     simp
    have hcl:=hC.len
    refine hM _ _ ⟨zs++[(qs,ps,ts)],_,_,rfl,bf (s07.trans XX) (s1.free n2),?_,?_,?_,?_,?_,?_⟩
    ·have h6:LL H2 H7 TT ls:=by rw [← hH7];exact (Cg.up XW).other a1 a2
     exact (h6.up XX).other b1 b2
    ·rw [aK SI,eX9]
     simp [uG]
    ·rw [av]
     simp [Ba]
    ·have e:uG (zs++[(qs,ps,ts)])=uG zs++ps:=by simp [uG]
     rw [K5,e,fh]
     try?
    ·have e:Ba (zs++[(qs,ps,ts)])=Ba zs++ts:=by simp [Ba]
     rw [K5,e,fh]
     try?
    ·have mvZ:∀{b:aq} {xs:List V},H9 b=some 0#o→upd H9 Z (.lst ((Ba zs).map V.ref++ts.map V.ref)) b=some 0#o:=λ{b xs} e=>vC Z H9 _ _ _ (gA eZ9 e)
     rw [sC,hp]
     refine nW (hAp.mv λ{b xs} e=>mvZ (XX _ _ (aga (XW _ _ e)))) ?_
     refine ⟨hC,by rw [hpl,hql],by show ts.length+1=qs.length;try?,λd q p hd GD=>(ahG d q p hd GD).mv λ{b xs} e=>mvZ (XX _ _ (aga e)),λd q q' y t hd hd' hy0 ht'=>(hts d q q' y t hd hd' hy0 ht').mv λ{b xs} e=>mvZ (jG _ _ e)⟩
 ·rintro σ H4 ⟨zs,v5,v6,rfl,s4,Cg,eX,eZ,hz1,hz2,hAp⟩
  rw [fH,hll,jt] at hAp
  rw?
  refine aC (mk:=.tup) 0#d λy H5 s5 n5 e5=>?_
  exact k y X Z zs H5 0#W e5 n1 (s1.free n2) SI (s5 _ _ eX) (s5 _ _ eZ) (hAp.mv λ{b xs} e=>s5 _ _ e)
def TX (ss:List En) (B:Rat) (fl ro:Nat) (G:Rat):Prop:=∀q p,ro≤q→q<p→fl≤p→p<ss.length→jx ss B q p≤G
def TV (ss:List En) (B:Rat) (fl ro:Nat) (S:Rat):Prop:=∀q p,fl≤q→q<p→ro≤p→p<ss.length→S≤gE ss B q p
def GF (ss:List En) (B:Rat) (fl ro:Nat) (G:Rat):Prop:=TX ss B fl ro G∧∃q p,ro≤q∧q<p∧fl≤p∧p<ss.length∧jx ss B q p=G
def SF (ss:List En) (B:Rat) (fl ro:Nat) (S:Rat):Prop:=TV ss B fl ro S∧∃q p,fl≤q∧q<p∧ro≤p∧p<ss.length∧gE ss B q p=S
def cS (ss:List En) (T:Rat) (i:Nat):Rat:=wo ss i-T*(mo ss i:Rat)
theorem tW {a:Rat} (h:a=b):a≤b:=h▸qz
theorem jL (h:rising ss) (hij:i<j) (hj:j<ss.length):(0:Rat)<(mo ss j:Rat)-(mo ss i:Rat):=by
 have:=sy.mpr (iC h hij hj)
 grind
theorem uW (h:rising ss) (hij:i<j) (hj:j<ss.length):jx ss B i j≤G↔cS ss G j≤cS ss G i+B:=by
 unfold jx cS
 rw [uZ (jL h hij hj)]
 constructor
 ·intro _;grind
 ·intro _;grind
theorem Qn (h:rising ss) (hij:i<j) (hj:j<ss.length):G≤jx ss B i j↔cS ss G i+B≤cS ss G j:=by
 unfold jx cS
 rw [o6 (jL h hij hj)]
 constructor
 ·intro _;grind
 ·intro _;grind
theorem qe (h:rising ss) (hij:i<j) (hj:j<ss.length):S≤gE ss B i j↔cS ss S i≤cS ss S j+B:=by
 unfold gE cS
 rw [o6 (jL h hij hj)]
 constructor
 ·intro _;grind
 ·intro _;grind
theorem Lj (h:rising ss) (hij:i<j) (hj:j<ss.length):gE ss B i j≤S↔cS ss S j+B≤cS ss S i:=by
 unfold gE cS
 rw [uZ (jL h hij hj)]
 constructor
 ·intro _;grind
 ·intro _;grind
theorem ND (h:rising ss) (hij:i<j) (hj:j<ss.length):jx ss B i j=G↔cS ss G j=cS ss G i+B:=
 ⟨λe=>vF ((uW h hij hj).mp (tW e)) ((Qn h hij hj).mp (tW e.symm)),λe=>vF ((uW h hij hj).mpr (tW e)) ((Qn h hij hj).mpr (tW e.symm))⟩
theorem Ic (h:rising ss) (hij:i<j) (hj:j<ss.length):gE ss B i j=S↔cS ss S i=cS ss S j+B:=
 ⟨λe=>vF ((qe h hij hj).mp (tW e.symm)) ((Lj h hij hj).mp (tW e)),λe=>vF ((Lj h hij hj).mpr (tW e.symm)) ((qe h hij hj).mpr (tW e))⟩
theorem TX.mono (h:TX ss B fl ro G) (g:G≤T):TX ss B fl ro T:=λq p a1 a2 a3 a4=>vH (h q p a1 a2 a3 a4) g
theorem TV.mono (h:TV ss B fl ro S) (g:T≤S):TV ss B fl ro T:=λq p a1 a2 a3 a4=>vH g (h q p a1 a2 a3 a4)
theorem RO (hB:0≤B) (hr:rising ss) (hL:TX ss B fl ro T) (hH:TV ss B fl ro T) (ha:ro≤a) (hb:fl≤b) (la:a<ss.length) (lb:b<ss.length):cS ss T b≤cS ss T a+B:=by
 rcases EL a b with z | z | z
 ·exact (uW hr z lb).mp (hL a b ha z hb lb)
 ·subst z;grind
 ·exact (qe hr z la).mp (hH b a hb z ha la)
theorem xN (hi:i<ss.length):cS (ss++ys) T i=cS ss T i:=by
 unfold cS
 rw [lH hi,lP hi]
theorem xM {ss:List En} {m:Int}:cS 0#C T ss.length=q-T*(m:Rat):=by
 unfold cS
 rw [Ir,J4]
theorem o5:mo (ss.drop j) i=mo ss (j+i):=by unfold mo;rw [rQ]
theorem QX:wo (ss.drop j) i=wo ss (j+i):=by unfold wo;rw [rQ]
theorem AW (h:rising ss):rising (ss.drop j):=h.sublist (yF ..)
theorem Li:cS (ss.drop j) T i=cS ss T (j+i):=by unfold cS;rw [o5,QX]
theorem rN:eW (ss.drop j) B m q i=eW ss B m q (j+i):=by unfold eW;rw [o5,QX]
theorem UD (h1:∀G0,g=some G0→GF ss B fl ro G0∧G0≤G) (hN:g=none→∀q p,ro≤q→q<p→fl≤p→¬p<ss.length) (hfl:fl≤ss.length) (hall:∀i,i<(ss.drop ro).length→eW (ss.drop ro) (-B) m q i≤G) (hex:(∃i,i<(ss.drop ro).length∧eW (ss.drop ro) (-B) m q i=G)∨g=some G):GF 0#C B fl ro G:=by
 have ld:(ss.drop ro).length=ss.length-ro:=mO ..
 rw [ld] at hall hex
 refine ⟨λi j hi hij hkj hj=>?_,?_⟩
 ·rw [fh] at hj
  have hj':j<ss.length+1:=hj
  by_cases e:j=ss.length
  ·subst e
   rw [Cj hij]
   have:=hall (i-ro) 0#b
   rw [rN,show ro+(i-ro)=i by simp?] at this
   exact this
  ·rw [qg hij 0#b]
   cases hg:g with
   | none=>exact absurd (show j<ss.length by simp?) (hN hg i j hi hij hkj)
   | some G0=>
     obtain ⟨g1,le⟩:=h1 G0 hg
     exact vH (g1.1 i j hi hij hkj 0#b) le
 ·rcases hex with ⟨i,hi,e⟩ | e
  ·refine ⟨ro+i,ss.length,by simp?,by simp?,hfl,by rw [fh];show _<ss.length+1;simp?,?_⟩
   rw [Cj 0#b,← rN]
   exact e
  ·obtain ⟨i,j,a0,a1,a2,a3,a4⟩:=(h1 G e).1.2
   exact ⟨i,j,a0,a1,a2,by rw [fh];show _<ss.length+1;simp?,by rw [qg a1 a3];exact a4⟩
theorem Wd (h1:∀S0,s=some S0→SF ss B fl ro S0∧S≤S0) (hN:s=none→∀q p,fl≤q→q<p→ro≤p→¬p<ss.length) (wg:ro≤ss.length) (hall:∀i,i<(ss.drop fl).length→S≤eW (ss.drop fl) B m q i) (hex:(∃i,i<(ss.drop fl).length∧eW (ss.drop fl) B m q i=S)∨s=some S):SF 0#C B fl ro S:=by
 have ld:(ss.drop fl).length=ss.length-fl:=mO ..
 rw [ld] at hall hex
 refine ⟨λi j hi hij hkj hj=>?_,?_⟩
 ·rw [fh] at hj
  have hj':j<ss.length+1:=hj
  by_cases e:j=ss.length
  ·subst e
   rw [xF hij]
   have:=hall (i-fl) 0#b
   rw [rN,show fl+(i-fl)=i by simp?] at this
   exact this
  ·rw [nC hij 0#b]
   cases hg:s with
   | none=>exact absurd (show j<ss.length by simp?) (hN hg i j hi hij hkj)
   | some S0=>
     obtain ⟨g1,le⟩:=h1 S0 hg
     exact vH le (g1.1 i j hi hij hkj 0#b)
 ·rcases hex with ⟨i,hi,e⟩ | e
  ·refine ⟨fl+i,ss.length,by simp?,by simp?,wg,by rw [fh];show _<ss.length+1;simp?,?_⟩
   rw [xF 0#b,← rN]
   exact e
  ·obtain ⟨i,j,a0,a1,a2,a3,a4⟩:=(h1 S e).1.2
   exact ⟨i,j,a0,a1,a2,by rw [fh];show _<ss.length+1;simp?,by rw [nC a1 a3];exact a4⟩
theorem jk {ss:List En}:(ss++[(x,m,some q)]).length=ss.length+1:=by simp
theorem HF {m:Int} (hr:rising 0#C) (s:SF 0#C B fl ro S) (hG:TV ss B fl ro G) (wg:ro≤ss.length):S<G↔∃i,fl≤i∧i<ss.length∧q-G*(m:Rat)+B<cS ss G i:=by
 constructor
 ·intro h
  obtain ⟨i,j,a0,a1,a2,a3,a4⟩:=s.2
  rw [jk] at a3
  by_cases e:j=ss.length
  ·subst e
   refine ⟨i,a0,a1,oN.mp λz=>?_⟩
   have:=(qe (B:=B) (S:=G) hr a1 (by rw [jk];simp?)).mpr (by rw [xM,xN a1];exact z)
   rw [a4] at this
   exact absurd h (kB.mpr this)
  ·have:=hG i j a0 a1 a2 0#b
   rw [nC a1 0#b] at a4
   rw [a4] at this
   exact absurd h (kB.mpr this)
 ·rintro ⟨i,a0,a1,h⟩
  refine oN.mp λz=>?_
  have:=s.1 i ss.length a0 a1 wg (by rw [jk];simp?)
  have:=(qe hr a1 (by rw [jk];simp?)).mp (vH z this)
  rw [xM,xN a1] at this
  exact absurd h (kB.mpr this)
theorem PM {m:Int} (hr:rising 0#C) (g:GF 0#C B fl ro G) (hS:TX ss B fl ro S) (hfl:fl≤ss.length):S<G↔∃i,ro≤i∧i<ss.length∧cS ss S i+B<q-S*(m:Rat):=by
 constructor
 ·intro h
  obtain ⟨i,j,a0,a1,a2,a3,a4⟩:=g.2
  rw [jk] at a3
  by_cases e:j=ss.length
  ·subst e
   refine ⟨i,a0,a1,oN.mp λz=>?_⟩
   have:=(uW (B:=B) (G:=S) hr a1 (by rw [jk];simp?)).mpr (by rw [xM,xN a1];exact z)
   rw [a4] at this
   exact absurd h (kB.mpr this)
  ·have:=hS i j a0 a1 a2 0#b
   rw [qg a1 0#b] at a4
   rw [a4] at this
   exact absurd h (kB.mpr this)
 ·rintro ⟨i,a0,a1,h⟩
  refine oN.mp λz=>?_
  have:=g.1 i ss.length a0 a1 hfl (by rw [jk];simp?)
  have:=(uW hr a1 (by rw [jk];simp?)).mp (vH this z)
  rw [xM,xN a1] at this
  exact absurd h (kB.mpr this)
theorem Ky {B:Rat} (hB:0≤B) (hb:mb<m) (ea:v-G*m=va-G*ma+B) (eb:vb-S*mb=v-S*m+B) (h:vb-G*mb≤va-G*ma+B):G≤S:=by
 refine kB.mp λhlt=>?_
 have p:(0:Rat)<m-mb:=by grind
 have:=J8 hlt p
 grind
theorem MX {B:Rat} (hB:0≤B) (ha:ma<m) (ea:v-G*m=va-G*ma+B) (eb:vb-S*mb=v-S*m+B) (h:vb-S*mb≤va-S*ma+B):G≤S:=by
 refine kB.mp λhlt=>?_
 have p:(0:Rat)<m-ma:=by grind
 have:=J8 hlt p
 grind
theorem X9 (hB:0≤B) (hr:rising 0#C) (g:GF 0#C B fl ro G) (s:SF 0#C B fl ro S)
 (h1:∀i j,ro≤i→i<j→fl≤j→j<ss.length→jx ss B i j≤S) (h2:∀i j,fl≤i→i<j→ro≤j→j<ss.length→G≤gE ss B i j):G≤S:=by
 obtain ⟨i,j,a0,a1,a2,a3,a4⟩:=g.2
 obtain ⟨k,l,b0,b1,b2,b3,b4⟩:=s.2
 rw [jk] at a3 b3
 by_cases e:j=ss.length
 ·by_cases e':l=ss.length
  ·subst e
   subst e'
   have ea:=(ND hr a1 (by rw [jk];simp?)).mp a4
   have eb:=(Ic hr b1 (by rw [jk];simp?)).mp b4
   have mi:=jL hr a1 (by rw [jk];simp?)
   have mk:=jL hr b1 (by rw [jk];simp?)
   unfold cS at ea eb
   rcases EL i k with z | z | z
   ·have:=(uW hr z (by rw [jk];simp?)).mp (g.1 i k a0 z 0#b (by rw [jk];simp?))
    unfold cS at this
    exact Ky hB 0#B ea eb this
   ·subst z
    exact Ky hB 0#B ea eb 0#B
   ·have:=(qe hr z (by rw [jk];simp?)).mp (s.1 k i b0 z 0#b (by rw [jk];simp?))
    unfold cS at this
    exact MX hB 0#B ea eb this
  ·rw [nC b1 0#b] at b4
   rw [← b4]
   exact h2 k l b0 b1 b2 0#b
 ·rw [qg a1 0#b] at a4
  rw [← a4]
  exact h1 i j a0 a1 a2 0#b
structure rR (ss:List En) (β:Rat) (fl ro:Nat) (m:Int) (q G f:Rat) (a b:Nat):Prop where
 gf:GF ss (2*β) fl ro G
 off:∃i,fl≤i∧i<ss.length∧q-G*(m:Rat)+2*β<cS ss G i
 lo:∀i,fl≤i→i<ss.length→cS ss G i-β≤f
 hi:∀i,ro≤i→i<ss.length→f≤cS ss G i+β
 ha:ro≤a
 ea:cS ss G a+β=f
 hb:fl≤b
 lb:b<ss.length
 eb:cS ss G b-β=f
 fb:∀i,b<i→i<ss.length→cS ss G i-β≠f
 hab:a<b
structure rS (ss:List En) (β:Rat) (fl ro:Nat) (m:Int) (q S f:Rat) (a b:Nat):Prop where
 sf:SF ss (2*β) fl ro S
 off:∃i,ro≤i∧i<ss.length∧cS ss S i+2*β<q-S*(m:Rat)
 lo:∀i,fl≤i→i<ss.length→cS ss S i-β≤f
 hi:∀i,ro≤i→i<ss.length→f≤cS ss S i+β
 ha:fl≤a
 ea:cS ss S a-β=f
 hb:ro≤b
 lb:b<ss.length
 eb:cS ss S b+β=f
 fb:∀i,b<i→i<ss.length→cS ss S i+β≠f
 hab:a<b
theorem KD {α:Type} (P:α→Bool):∀(l:List α),(∃x∈l,P x=true)→∃(a:Nat) (x:α),l[a]?=some x∧P x=true∧(l.filter P)[0]?=some x∧∀(i:Nat) y,i<a→l[i]?=some y→P y=false
 | [],h=>by obtain ⟨x,hx,_⟩:=h;cases hx
 | y::r,h=>by
   by_cases hy:P y=true
   ·exact ⟨0,y,rfl,hy,by rw [Mg hy];rfl,λi _ hi=>absurd hi (Cc _)⟩
   ·obtain ⟨x,hx,px⟩:=h
    have hr:x∈r:=by
     rcases pZ.mp hx with e | e
     ·rw [e] at px;exact absurd px hy
     ·exact e
    obtain ⟨a,z,g,pz,e0,hn⟩:=KD P r ⟨x,hr,px⟩
    refine ⟨a+1,z,g,pz,by rw [Q4 hy];exact e0,λi u hi gu=>?_⟩
    cases i with
    | zero=>cases gu;exact jr.mpr hy
    | succ i=>exact hn i u 0#b gu
theorem Qm {α:Type} (P:α→Bool):∀(l:List α),(∃x∈l,P x=true)→∃(b:Nat) (x:α),l[b]?=some x∧P x=true∧(l.filter P)[(l.filter P).length-1]?=some x∧∀(i:Nat) y,b<i→l[i]?=some y→P y=false
 | [],h=>by obtain ⟨x,hx,_⟩:=h;cases hx
 | y::r,h=>by
   by_cases hr:∃x∈r,P x=true
   ·obtain ⟨b,z,g,pz,e0,hn⟩:=Qm P r hr
    refine ⟨b+1,z,g,pz,?_,λi u hi gu=>?_⟩
    ·by_cases hy:P y=true
     ·rw [Mg hy]
      have hl:0<(r.filter P).length:=by
       cases e:r.filter P with
       | nil=>rw [e] at e0;cases e0
       | cons c d=>exact MA _
      show (y::r.filter P)[(r.filter P).length+1-1]?=some z
      rw [show (r.filter P).length+1-1=((r.filter P).length-1)+1 by simp?,List.getElem?_cons_succ]
      exact e0
     ·rw [Q4 hy];exact e0
    ·cases i with
     | zero=>simp?
     | succ i=>exact hn i u 0#b gu
   ·have hy:P y=true:=by
     obtain ⟨x,hx,px⟩:=h
     rcases pZ.mp hx with e | e
     ·rw [e] at px;exact px
     ·exact absurd ⟨x,e,px⟩ hr
    have e0:r.filter P=[]:=Q7.mpr λx hx px=>hr ⟨x,hx,px⟩
    refine ⟨0,y,rfl,hy,by rw [Mg hy,e0];rfl,λi u hi gu=>?_⟩
    cases i with
    | zero=>simp?
    | succ i=>exact jr.mpr λz=>hr ⟨u,mT gu,z⟩
theorem PY (h:rising es)  (hk:es[k]?=some x):es.filter (λy=>decide (x.2.1≤y.2.1))=es.drop k:=by
 have hl:k<es.length:=(nH.mp hk).1
 have mk:∀i y,es[i]?=some y→(k≤i↔x.2.1≤y.2.1):=λi y hy=>by
  have hi:i<es.length:=(nH.mp hy).1
  have e1:mo es k=x.2.1:=by unfold mo;rw [hk];rfl
  have e2:mo es i=y.2.1:=by unfold mo;rw [hy];rfl
  rcases EL i k with z | z | z
  ·have:=iC h z hl;simp?
  ·subst z;simp?
  ·have:=iC h z hi;simp?
 conv=>lhs;rw [← MG k es]
 rw [Ca]
 have h1:(es.take k).filter (λy=>decide (x.2.1≤y.2.1))=[]:=Q7.mpr λy hy=>by
  obtain ⟨i,hi⟩:=aaS hy
  rw [G9] at hi
  split at hi
  ·have:=mk i y hi
   rw [WX]
   simp?
  ·cases hi
 have h2:(es.drop k).filter (λy=>decide (x.2.1≤y.2.1))=es.drop k:=aaW.mpr λy hy=>by
  obtain ⟨i,hi⟩:=aaS hy
  rw [rQ] at hi
  exact je ((mk _ y hi).mp (yH _ _))
 rw [h1,h2]
 rfl
structure Fb (fs:List (Str×V)) (bd tw bl ab:aq) (g s:V):Prop where
 len:fs.length≤10
 bd:fs.lookup ("bound":Str)=some (.ref bd)
 tw:fs.lookup ("twice":Str)=some (.ref tw)
 bl:fs.lookup ("below":Str)=some (.ref bl)
 ab:fs.lookup ("above":Str)=some (.ref ab)
 g:fs.lookup ("gentlest":Str)=some g
 s:fs.lookup ("steepest":Str)=some s
 no:∀m:Str,m ≠ "bound"→m ≠ "twice"→m ≠ "below"→m ≠ "above"→m ≠ "gentlest"→m ≠ "steepest"→fs.lookup m=none
theorem Fb.init (bd tw bl ab:aq) (g s:V):Fb (aA "steepest" s (aA "gentlest" g (aA "above" (.ref ab) (aA "below" (.ref bl) (aA "twice" (.ref tw) (aA "bound" (.ref bd) [])))))) bd tw bl ab g s:=by
 have Zd:¬(("bound":Str) = "twice"):=by decide +kernel
 have Iv:¬(("bound":Str) = "below"):=by decide +kernel
 have Iu:¬(("bound":Str) = "above"):=by decide +kernel
 have NR:¬(("bound":Str) = "gentlest"):=by decide +kernel
 have NS:¬(("bound":Str) = "steepest"):=by decide +kernel
 have IA:¬(("twice":Str) = "below"):=by decide +kernel
 have Iz:¬(("twice":Str) = "above"):=by decide +kernel
 have NV:¬(("twice":Str) = "gentlest"):=by decide +kernel
 have NW:¬(("twice":Str) = "steepest"):=by decide +kernel
 have Iw:¬(("below":Str) = "above"):=by decide +kernel
 have NT:¬(("below":Str) = "gentlest"):=by decide +kernel
 have NU:¬(("below":Str) = "steepest"):=by decide +kernel
 have NP:¬(("above":Str) = "gentlest"):=by decide +kernel
 have NQ:¬(("above":Str) = "steepest"):=by decide +kernel
 have Vg:¬(("gentlest":Str) = "steepest"):=by decide +kernel
 have l:∀(f:Str) (v:V) (fs:List (Str×V)),(aA f v fs).length≤fs.length+1:=by
  intro f v fs
  induction fs with
  | nil=>exact dS _
  | cons x r ih=>
    obtain ⟨g,y⟩:=x
    unfold aA
    split
    ·exact yM _
    ·exact yI ih
 refine ⟨?_,?_,?_,?_,?_,?_,?_,λm m1 m2 m3 m4 m5 m6=>?_⟩
 ·have l0:=l "bound" (.ref bd) []
  have l1:=l "twice" (.ref tw) (aA "bound" (.ref bd) [])
  have l2:=l "below" (.ref bl) (aA "twice" (.ref tw) (aA "bound" (.ref bd) []))
  have l3:=l "above" (.ref ab) (aA "below" (.ref bl) (aA "twice" (.ref tw) (aA "bound" (.ref bd) [])))
  have l4:=l "gentlest" g (aA "above" (.ref ab) (aA "below" (.ref bl) (aA "twice" (.ref tw) (aA "bound" (.ref bd) []))))
  have l5:=l "steepest" s (aA "gentlest" g (aA "above" (.ref ab) (aA "below" (.ref bl) (aA "twice" (.ref tw) (aA "bound" (.ref bd) [])))))
  simp only [abu] at l0
  simp?
 ·rw [af,if_neg NS,af,if_neg NR,af,if_neg Iu,af,if_neg Iv,af,if_neg Zd,af,if_pos rfl]
 ·rw [af,if_neg NW,af,if_neg NV,af,if_neg Iz,af,if_neg IA,af,if_pos rfl]
 ·rw [af,if_neg NU,af,if_neg NT,af,if_neg Iw,af,if_pos rfl]
 ·rw [af,if_neg NQ,af,if_neg NP,af,if_pos rfl]
 ·rw [af,if_neg Vg,af,if_pos rfl]
 ·rw [af,if_pos rfl]
 ·rw [af,if_neg m6,af,if_neg m5,af,if_neg m4,af,if_neg m3,af,if_neg m2,af,if_neg m1]
  rfl
theorem Fb.Wb {bd tw bl ab:aq} {g s:V} {y:aq} (h:Fb fs bd tw bl ab g s):Fb (aA "below" (.ref y) fs) bd tw y ab g s:=by
 have Iv:¬(("bound":Str) = "below"):=by decide +kernel
 have IA:¬(("twice":Str) = "below"):=by decide +kernel
 have Zc:¬(("above":Str) = "below"):=by decide +kernel
 have adu:¬(("gentlest":Str) = "below"):=by decide +kernel
 have adw:¬(("steepest":Str) = "below"):=by decide +kernel
 refine ⟨by rw [gO h.bl];exact h.len,?_,?_,?_,?_,?_,?_,λm m1 m2 m3 m4 m5 m6=>?_⟩
 ·rw [af,if_neg Iv];exact h.bd
 ·rw [af,if_neg IA];exact h.tw
 ·rw [af,if_pos rfl]
 ·rw [af,if_neg Zc];exact h.ab
 ·rw [af,if_neg adu];exact h.g
 ·rw [af,if_neg adw];exact h.s
 ·rw [af,if_neg m3];exact h.no m m1 m2 m3 m4 m5 m6
theorem Fb.Wa {bd tw bl ab:aq} {g s:V} {y:aq} (h:Fb fs bd tw bl ab g s):Fb (aA "above" (.ref y) fs) bd tw bl y g s:=by
 have Iu:¬(("bound":Str) = "above"):=by decide +kernel
 have Iz:¬(("twice":Str) = "above"):=by decide +kernel
 have Iw:¬(("below":Str) = "above"):=by decide +kernel
 have adt:¬(("gentlest":Str) = "above"):=by decide +kernel
 have adv:¬(("steepest":Str) = "above"):=by decide +kernel
 refine ⟨by rw [gO h.ab];exact h.len,?_,?_,?_,?_,?_,?_,λm m1 m2 m3 m4 m5 m6=>?_⟩
 ·rw [af,if_neg Iu];exact h.bd
 ·rw [af,if_neg Iz];exact h.tw
 ·rw [af,if_neg Iw];exact h.bl
 ·rw [af,if_pos rfl]
 ·rw [af,if_neg adt];exact h.g
 ·rw [af,if_neg adv];exact h.s
 ·rw [af,if_neg m4];exact h.no m m1 m2 m3 m4 m5 m6
theorem Fb.yj {bd tw bl ab:aq} {g s:V} {y:V} (h:Fb fs bd tw bl ab g s):Fb (aA "gentlest" y fs) bd tw bl ab y s:=by
 have NR:¬(("bound":Str) = "gentlest"):=by decide +kernel
 have NV:¬(("twice":Str) = "gentlest"):=by decide +kernel
 have NT:¬(("below":Str) = "gentlest"):=by decide +kernel
 have NP:¬(("above":Str) = "gentlest"):=by decide +kernel
 have afp:¬(("steepest":Str) = "gentlest"):=by decide +kernel
 refine ⟨by rw [gO h.g];exact h.len,?_,?_,?_,?_,?_,?_,λm m1 m2 m3 m4 m5 m6=>?_⟩
 ·rw [af,if_neg NR];exact h.bd
 ·rw [af,if_neg NV];exact h.tw
 ·rw [af,if_neg NT];exact h.bl
 ·rw [af,if_neg NP];exact h.ab
 ·rw [af,if_pos rfl]
 ·rw [af,if_neg afp];exact h.s
 ·rw [af,if_neg m5];exact h.no m m1 m2 m3 m4 m5 m6
theorem Fb.yk {bd tw bl ab:aq} {g s:V} {y:V} (h:Fb fs bd tw bl ab g s):Fb (aA "steepest" y fs) bd tw bl ab g y:=by
 have NS:¬(("bound":Str) = "steepest"):=by decide +kernel
 have NW:¬(("twice":Str) = "steepest"):=by decide +kernel
 have NU:¬(("below":Str) = "steepest"):=by decide +kernel
 have NQ:¬(("above":Str) = "steepest"):=by decide +kernel
 have Vg:¬(("gentlest":Str) = "steepest"):=by decide +kernel
 refine ⟨by rw [gO h.s];exact h.len,?_,?_,?_,?_,?_,?_,λm m1 m2 m3 m4 m5 m6=>?_⟩
 ·rw [af,if_neg NS];exact h.bd
 ·rw [af,if_neg NW];exact h.tw
 ·rw [af,if_neg NU];exact h.bl
 ·rw [af,if_neg NQ];exact h.ab
 ·rw [af,if_neg Vg];exact h.g
 ·rw [af,if_pos rfl]
 ·rw [af,if_neg m6];exact h.no m m1 m2 m3 m4 m5 m6
theorem Fb.zL {fs:List (Str×V)} {bd tw bl ab:aq} {g s:V} (h:Fb fs bd tw bl ab g s) (m:Str) (m1:m ≠ "bound":=by decide +kernel) (m2:m ≠ "twice":=by decide +kernel) (m3:m ≠ "below":=by decide +kernel) (m4:m ≠ "above":=by decide +kernel) (m5:m ≠ "gentlest":=by decide +kernel) (m6:m ≠ "steepest":=by decide +kernel):fs.lookup m=none:=h.no m m1 m2 m3 m4 m5 m6
def S6 (p L M:aq) (H:Hp):Hp:=rm p (rm L (rm M H))
theorem wF (h1:b≠p) (h2:b≠L) (h3:b≠M):S6 p L M H b=H b:=by unfold S6;rw [ou h1,ou h2,ou h3]
theorem DW (h:S6 p L M H b=some o):b≠p∧b≠L∧b≠M∧H b=some o:=by
 have h1:b≠p:=λq=>by rw [q] at h;unfold S6 rm at h;simp at h
 have h2:b≠L:=λq=>by rw [q] at h;unfold S6 rm at h;simp at h
 have h3:b≠M:=λq=>by rw [q] at h;unfold S6 rm at h;simp at h
 rw [wF h1 h2 h3] at h
 exact ⟨h1,h2,h3,h⟩
theorem b8.tv (t:∀{b:aq} {xs:List V},H b=some 0#o→H' b=some 0#o) (f:b8 H b q n):b8 H' b q n:=let ⟨x,d,e,f⟩:=f;⟨x,d,t e,f⟩
theorem dF.tv (t:∀{b:aq} {xs:List V},H b=some 0#o→H' b=some 0#o) (f:dF H b q n):dF H' b q n:=let ⟨x,d,e,f⟩:=f;⟨x,d,t e,f⟩
theorem jJ.tv (t:∀{b:aq} {xs:List V},H b=some 0#o→H' b=some 0#o) (f:jJ H b q h n):jJ H' b q h n:=let ⟨x,d,e,f1,f2⟩:=f;⟨x,d,t e,f1.tv t,f2.tv t⟩
theorem nS.tv (t:∀{b:aq} {xs:List V},H b=some 0#o→H' b=some 0#o) (f:nS H x n):nS H' x n:=by
 obtain ⟨a,m,v⟩:=x
 cases v with
 | none=>exact ⟨f.1,t f.2⟩
 | some q=>
   obtain ⟨z,r,e,x,d,g,f⟩:=f
   exact ⟨z,r,t e,x,d,t g,f⟩
theorem Row.tv (t:∀{b:aq} {xs:List V},H b=some 0#o→H' b=some 0#o) (f:Row H es n):Row H' es n:=λx hx=>(f x hx).tv t
def OQ (H:Hp) (v:V) (N:Nat):Option Rat→Prop
 | none=>v=.bK
 | some G=>∃p,v=.ref p∧b8 H p G N
theorem OQ.tv (t:∀{b:aq} {xs:List V},H b=some 0#o→H' b=some 0#o) (f:OQ H v N g):OQ H' v N g:=by
 cases g with
 | none=>exact f
 | some G=>exact let ⟨p,e,f⟩:=f;⟨p,e,f.tv t⟩
def GO (ss:List En) (B:Rat) (fl ro:Nat):Option Rat→Prop
 | none=>∀q p,ro≤q→q<p→fl≤p→¬p<ss.length
 | some G=>GF ss B fl ro G
def SO (ss:List En) (B:Rat) (fl ro:Nat):Option Rat→Prop
 | none=>∀q p,fl≤q→q<p→ro≤p→¬p<ss.length
 | some S=>SF ss B fl ro S
structure yY (ss:List En) (fl ro:Nat) (β:Rat) (g s:Option Rat):Prop where
 all:iK ss
 FZ:rising ss
 hfl:fl≤ss.length
 wg:ro≤ss.length
 lt:0<ss.length→fl<ss.length∧ro<ss.length
 go:GO ss (2*β) fl ro g
 so:SO ss (2*β) fl ro s
 le:∀G S,g=some G→s=some S→G≤S
 df:fl=ro→fl=0
structure XY (C:aq) (H:Hp) (p Lb La:aq) (ss:List En) (fl ro:Nat) (β:Rat) (n nb:Nat) (g s:Option Rat) (dx bd tw:aq) (fs:List (Str×V)) (gv sv:V):Prop where
 at_:H p=some 0#V
 F:Fb fs bd tw Lb La gv sv
 eb:H Lb=some (.lst (vals (ss.drop fl)))
 ea:H La=some (.lst (vals (ss.drop ro)))
 ne:Lb≠La
 row:Row H ss n
 XI:dF H bd β nb
 Yw:b8 H tw (2*β) (2*nb+1)
 G:OQ H gv (3*n+(2*nb+1)+3) g
 S:OQ H sv (3*n+(2*nb+1)+3) s
 P:yY ss fl ro β g s
def mU (C:aq) (H:Hp) (p Lb La:aq) (ss:List En) (fl ro:Nat) (β:Rat) (n nb:Nat) (g s:Option Rat):Prop:=∃dx bd tw fs gv sv,XY C H p Lb La ss fl ro β n nb g s dx bd tw fs gv sv
theorem XY.mv (h:XY C H p Lb La ss fl ro β n nb g s dx bd tw fs gv sv) (t:∀{b:aq} {xs:List V},H b=some 0#o→H' b=some 0#o) (hp:H' p=H p) (h1:H' Lb=H Lb) (h2:H' La=H La):XY C H' p Lb La ss fl ro β n nb g s dx bd tw fs gv sv:=
 ⟨hp.trans h.at_,h.F,h1.trans h.eb,h2.trans h.ea,h.ne,h.row.tv t,h.XI.tv t,h.Yw.tv t,h.G.tv t,h.S.tv t,h.P⟩
theorem XY.up (h:XY C H p Lb La ss fl ro β n nb g s dx bd tw fs gv sv) (k:ao H H'):XY C H' p Lb La ss fl ro β n nb g s dx bd tw fs gv sv:=
 h.mv (λ{b xs} e=>k _ _ e) ((k _ _ h.at_).trans h.at_.symm) ((k _ _ h.eb).trans h.eb.symm) ((k _ _ h.ea).trans h.ea.symm)
theorem mU.up (h:mU C H p Lb La ss fl ro β n nb g s) (k:ao H H'):mU C H' p Lb La ss fl ro β n nb g s:=
 let ⟨dx,bd,tw,fs,gv,sv,h⟩:=h;⟨dx,bd,tw,fs,gv,sv,h.up k⟩
theorem yY.hiG (h:yY ss fl ro β g s) (e:g=some G):GF ss (2*β) fl ro G∧TV ss (2*β) fl ro G:=by
 have go:=h.go
 have so:=h.so
 rw [e] at go
 refine ⟨go,?_⟩
 cases hs:s with
 | none=>
   rw [hs] at so
   exact λq p a b c d=>absurd d (so q p a b c)
 | some S=>
   rw [hs] at so
   exact TV.mono so.1 (h.le G S e hs)
theorem yY.loS (h:yY ss fl ro β g s) (e:s=some S):SF ss (2*β) fl ro S∧TX ss (2*β) fl ro S:=by
 have go:=h.go
 have so:=h.so
 rw [e] at so
 refine ⟨so,?_⟩
 cases hs:g with
 | none=>
   rw [hs] at go
   exact λq p a b c d=>absurd d (go q p a b c)
 | some G=>
   rw [hs] at go
   exact TX.mono go.1 (h.le G S hs e)
inductive QN (vs:List V) (H:Hp) (Q:VK) (E_:XK):Prop where
 | mk (p:aq) (q:Rat) (n:Nat):vs=[.ref p]→b8 H p q n→(∀(r:aq) (H':Hp),ao H H'→b8 H' r (-q) n→Q (.ref r) H')→QN vs H Q E_
inductive AJ (vs:List V) (H:Hp) (Q:VK) (E_:XK):Prop where
 | mk (a b:V) (g s:Option Rat) (m n:Nat):vs=[a,b]→OQ H a m g→OQ H b n s→m+n≤100000→(∀r:Bool,(r=true↔∃G S,g=some G∧s=some S∧S<G)→Q (.bl r) H)→AJ vs H Q E_
def SV (T f l:Rat) (x:En):Bool:=decide (x.2.2.getD 0-(T*(x.2.1:Rat)+f)=l)
theorem wA (h:es[i]?=some x):SV T f l x=true↔cS es T i-f=l:=by
 unfold SV cS mo wo
 rw [WX,h]
 show x.2.2.getD 0-(T*(x.2.1:Rat)+f)=l↔x.2.2.getD 0-T*(x.2.1:Rat)-f=l
 constructor
 ·intro h;rw [← h];grind
 ·intro h;rw [← h];grind
inductive u7 (vs:List V) (H:Hp) (Q:VK) (E_:XK):Prop where
 | mk (l ln pb:aq) (es:List En) (T f lam:Rat) (n M nb:Nat):vs=[.ref l,.ref ln,.ref pb]→H l=some 0#s→Row H es n→iK es→jJ H ln T f M→b8 H pb lam nb→1≤n→n≤10000→M≤10000→nb≤10000→es.length≤900→(∀(R:aq) (H':Hp),ao H H'→H R=none→H' R=some (.lst (vals (es.filter (SV T f lam))))→Q (.ref R) H')→u7 vs H Q E_
theorem LQ:fz 1 [aQ] wM:=0#a
theorem LC (F:fO K "opposite" wM f fd):bh P w K mg base dm 1 f fd [aQ] QN:=by
 refine F.eU LQ λcdv A outer s H vs Q E hr h=>?_
 obtain ⟨p,q,n,rfl,⟨a,b,hp,hq,za,zb⟩,k⟩:=h
 apply bF ⟨_,(aD (aX (bW (bL (gF dH 0#I) 0#I)))),?_⟩
 refine aC (mk:=.tup) 0#d λp1 H1 s1 n1 e1=>?_
 exact k p1 H1 s1 ⟨_,_,e1,hq.neg,by unfold Sz at *;rw [Rw];exact za,zb⟩
theorem F5:fz 2 [aQ,aG] rj:=0#a
theorem FO (F:fO K "is_steeper" rj f fd) (dI:MQ P w K mg base):bh P w K mg base dm 2 f fd [aQ,aG] AJ:=by
 refine F.eU F5 λcdv A outer s H vs Q E hr h=>?_
 obtain ⟨a,b,g,s',m,n,rfl,ha,hb,hmn,k⟩:=h
 refine bF ⟨_,(aD (aX (Jd.z9 (tL j9 0#h fU 0#K) (Jd.z9 (tL j9 0#n fU 0#K) (Jd.DH (tL fM (bZ dI hr 0#h 0#n) au 0#K)))))),?_⟩
 cases g with
 | none=>
   obtain rfl:a=.bK:=ha
   rw?
   refine ⟨rfl,_,rfl,bR ?_⟩
   exact k false ⟨λz=>absurd z 0#f,λ⟨_,_,e,_⟩=>by cases e⟩
 | some G=>
   obtain ⟨pa,rfl,fa⟩:=ha
   cases s' with
   | none=>
     obtain rfl:b=.bK:=hb
     rw?
     apply ⟨rfl,_,rfl,cI ?_⟩
     refine ⟨rfl,_,rfl,bR ?_⟩
     exact k false ⟨λz=>absurd z 0#f,λ⟨_,_,_,e,_⟩=>by cases e⟩
   | some S=>
     obtain ⟨pb,rfl,fb⟩:=hb
     rw?
     apply ⟨rfl,_,rfl,cI ?_⟩
     apply ⟨rfl,_,rfl,cI ?_⟩
     apply ⟨pa,pb,G,S,m,n,rfl,fa,fb,hmn,λo h1 h2=>?_⟩
     refine k _ ⟨λz=>⟨G,S,rfl,rfl,h1.mp (dM z)⟩,λ⟨_,_,e1,e2,z⟩=>?_⟩
     cases e1
     cases e2
     exact je (h1.mpr z)
theorem OT:fz 3 [aZ,cQ,"lift"] Av:=0#a
theorem Od (F:fO K "touched" Av f fd) (dI:MQ P w K mg base) (sX:Dn P w K mg base 4 "loose_off" [cQ,bw] O4):bh P w K mg base dm 5 f fd [aZ,cQ,"lift"] u7:=by
 refine F.eU OT λcdv A outer s H vs Q E hr h=>?_
 obtain ⟨l,ln,pb,es,T,fo,lam,n,M,nb,rfl,hl,hR,hS,hln,hpb,h1,hn,hM,hnb,kR,k⟩:=h
 apply bF ⟨_,(aD (aX (oW (O:=[bw]) (N':=["lift","line" ]) (cap:=[2,1]) rfl (eE K 0#h) (λ_ _ _ _ _=>(cB (i:=0) (show kD [("sample":Str),("lift":Str),("line":Str)] by decide +kernel) rfl 0#k)) (λ_ _ _ _ _=>(vz (bD fE (iA dI 0#z rfl (fL (iA sX 0#z rfl (fL 0#q (fL 0#h gH bP) bP) (he:=bP) (hpl:=(cO bP cR))) (fL 0#n gH bP) EE) (he:=EE) (hpl:=(cO bP cR))) au 0#K))) (λ_ _ _ _ _=>0#h) rfl ⟨⟨rfl,rfl,rfl,rfl⟩,0#u⟩ rfl 0#e rfl 0#e))),?_⟩
 apply jb ?_
 refine ⟨l,rfl,⟨_,bq.of hl⟩,?_⟩
 refine c9 (xs:=vals es) cC (λH3 s3=>bq.of (s3 _ _ hl)) (by rw [aT];try?) (λi ys G=>ys=vals ((es.take i).filter (SV T fo lam))) rfl ?_ ?_
 ·rintro D i x ys H3 lF N N0 h0 hD eD s3 hx hy rfl kY kN
  obtain ⟨e,he,rfl⟩:=jd hx
  have hi:i<es.length:=(nH.mp he).1
  obtain ⟨xi,gi,fi⟩:=dG (hR.up s3) hS hi
  rw [he] at gi
  cases gi
  have ts:=Kc (SV T fo lam) es i e he
  apply ic h0 ?_
  apply ⟨ln,e.1,T,fo,_,_,n,M,rfl,hln.up s3,fi,h1,by try?,by try?,λz H4 s4 f4=>?_⟩
  refine ⟨z,pb,_,lam,_,nb,rfl,f4,hpb.up 0#N,by try?,λo o1 o2=>?_⟩
  have key:o=0↔cS es T i-fo=lam:=by
   have e1:wo es i-(T*(mo es i:Rat)+fo)=cS es T i-fo:=by unfold cS;grind
   rw [e1] at o1 o2
   constructor
   ·intro h
    refine vF (kB.mp λz=>?_) (kB.mp λz=>?_)
    ·have:=o1.mpr z;simp?
    ·have:=o2.mpr z;simp?
   ·intro h
    rw [h] at o1 o2
    have p1:¬0<o:=λz=>Xe (o1.mp z)
    have p2:¬o<0:=λz=>Xe (o2.mp z)
    simp?
  rw?
  cases hs:decide (o=0) with
  | true=>
    rw [(wA he).mpr (key.mp (dM hs)),if_pos rfl] at ts
    apply cI ?_
    exact kY _ H4 s4 (by rw [ts,← gQ])
  | false=>
    have:SV T fo lam e=false:=jr.mpr λz=>jO hs (key.mpr ((wA he).mp z))
    rw [this,if_neg fQ,nv] at ts
    refine bR ?_
    exact kN H4 s4 (by rw [ts])
 ·rintro D ys H3 hD eD s3 hy rfl
  rw [aT,jt] at eD
  rw?
  exact k D H3 s3 hD eD
def Kp (F:aq→Prop) (H H':Hp):Prop:=∀b o,¬F b→H b=some o→H' b=some o
theorem Kp.of (s:ao H H'):Kp F H H':=λb o _ e=>s b o e
theorem Kp.trans (h:Kp F H H') (h':Kp F H' H2):Kp F H H2:=λb o n e=>h' b o n (h b o n e)
theorem Kp.upd (h:Kp F H H') (hF:F a):Kp F H (upd H' a o):=λb u n e=>by
 rw [aK (show b≠a from λq=>n (by rw [q];exact hF))]
 exact h b u n e
theorem Kp.sm (h:Kp F H H') (s:ao H' H2):Kp F H H2:=h.trans (.of s)
theorem QF (f:Str) (v:V):∀fs:List (Str×V),(aA f v fs).length≤fs.length+1
 | []=>dS _
 | (g,y)::r=>by
   unfold aA
   split
   ·exact yM _
   ·exact yI (QF f v r)
def qc (ss:List En) (β:Rat) (fl:Nat) (g s:Option Rat) (T f:Rat):Prop:=
 ((g=some T∨(g=none∧s=some T))∧(∀i,fl≤i→i<ss.length→cS ss T i-β≤f)∧∃i,fl≤i∧i<ss.length∧cS ss T i-β=f)∨(g=none∧s=none∧T=0∧f=wo ss fl)
inductive Cv (C:aq) (vs:List V) (H:Hp) (Q:VK) (E_:XK):Prop where
 | mk (p dx pb:aq) (β:Rat) (n:Nat):vs=[.ref p,.ref pb]→H p=some (.ins C dx [])→dF H pb β n→n≤1000→(∀(Lb La:aq) (H':Hp) (k:Nat),ao (rm p H) H'→H Lb=none→H La=none→mU C H' p Lb La [] 0 0 β k n none none→Q .bK H')→Cv C vs H Q E_
inductive uD (C:aq) (vs:List V) (H:Hp) (Q:VK) (E_:XK):Prop where
 | mk (p Lb La pt:aq) (ss:List En) (fl ro:Nat) (β T:Rat) (n nb:Nat) (g s:Option Rat):vs=[.ref p,.ref pt]→mU C H p Lb La ss fl ro β n nb g s→b8 H pt T (3*n+(2*nb+1)+3)→0<ss.length→ss.length≤900→n≤1500→(5*n+4*nb≤7900∧nb≤1000)→(∀(r:aq) (f:Rat) (H':Hp),ao H H'→jJ H' r T f (5*n+3*nb+7)→(∀i,fl≤i→i<ss.length→cS ss T i-β≤f)→(∃i,fl≤i∧i<ss.length∧cS ss T i-β=f)→Q (.ref r) H')→uD C vs H Q E_
inductive Wf (C:aq) (vs:List V) (H:Hp) (Q:VK) (E_:XK):Prop where
 | mk (p Lb La x:aq) (ss:List En) (fl ro:Nat) (m:Int) (q β G:Rat) (n nb:Nat) (s:Option Rat):vs=[.ref p,.ref x]→mU C H p Lb La ss fl ro β n nb (some G) s→jK H x m q n→(∀i,i<ss.length→mo ss i<m)→ss.length≤900→1≤n→n≤1500→(5*n+4*nb≤7900∧nb≤1000)→0≤β→(∃i,fl≤i∧i<ss.length∧q-G*(m:Rat)+2*β<cS ss G i)→(∀(r ln th CJ CI:aq) (f:Rat) (a b:Nat) (s':Option Rat) (H':Hp),ao (S6 p Lb La H) H'→rR ss β fl ro m q G f a b→H' r=some (.tup [.ref ln,.ref th])→jJ H' ln G f (5*n+3*nb+7)→H' th=some (.tup [.int (mo ss a),.int (mo ss b),.int m])→mU C H' p CJ CI 0#C b ss.length β n nb none s'→H CJ=none→H CI=none→Q (.ref r) H')→Wf C vs H Q E_
inductive Wg (C:aq) (vs:List V) (H:Hp) (Q:VK) (E_:XK):Prop where
 | mk (p Lb La x:aq) (ss:List En) (fl ro:Nat) (m:Int) (q β S:Rat) (n nb:Nat) (g:Option Rat):vs=[.ref p,.ref x]→mU C H p Lb La ss fl ro β n nb g (some S)→jK H x m q n→(∀i,i<ss.length→mo ss i<m)→ss.length≤900→1≤n→n≤1500→(5*n+4*nb≤7900∧nb≤1000)→0≤β→(∃i,ro≤i∧i<ss.length∧cS ss S i+2*β<q-S*(m:Rat))→(∀(r ln th CJ CI:aq) (f:Rat) (a b:Nat) (g':Option Rat) (H':Hp),ao (S6 p Lb La H) H'→rS ss β fl ro m q S f a b→H' r=some (.tup [.ref ln,.ref th])→jJ H' ln S f (5*n+3*nb+7)→H' th=some (.tup [.int (mo ss a),.int (mo ss b),.int m])→mU C H' p CJ CI 0#C ss.length b β n nb g' none→H CJ=none→H CI=none→Q (.ref r) H')→Wg C vs H Q E_
def tu (ss:List En) (β:Rat) (fl ro:Nat) (g s:Option Rat) (m:Int) (q:Rat):Prop:=(∀G,g=some G→∀i,fl≤i→i<ss.length→cS ss G i≤q-G*(m:Rat)+2*β)∧(∀S,s=some S→∀i,ro≤i→i<ss.length→q-S*(m:Rat)≤cS ss S i+2*β)
inductive O8 (C:aq) (vs:List V) (H:Hp) (Q:VK) (E_:XK):Prop where
 | mk (p Lb La x:aq) (ss:List En) (fl ro:Nat) (m:Int) (q β:Rat) (n nb:Nat) (g s:Option Rat):vs=[.ref p,.ref x]→mU C H p Lb La ss fl ro β n nb g s→jK H x m q n→(∀i,i<ss.length→mo ss i<m)→ss.length≤900→1≤n→n≤1500→(5*n+4*nb≤7900∧nb≤1000)→0≤β→(∀(g' s':Option Rat) (H':Hp),ao (S6 p Lb La H) H'→tu ss β fl ro g s m q→mU C H' p Lb La 0#C fl ro β n nb g' s'→Q .bK H')→(∀(r ln th CJ CI:aq) (G f:Rat) (a b:Nat) (s':Option Rat) (H':Hp),ao (S6 p Lb La H) H'→g=some G→rR ss β fl ro m q G f a b→H' r=some (.tup [.ref ln,.ref th])→jJ H' ln G f (5*n+3*nb+7)→H' th=some (.tup [.int (mo ss a),.int (mo ss b),.int m])→mU C H' p CJ CI 0#C b ss.length β n nb none s'→H CJ=none→H CI=none→Q (.ref r) H')→(∀(r ln th CJ CI:aq) (S f:Rat) (a b:Nat) (g':Option Rat) (H':Hp),ao (S6 p Lb La H) H'→s=some S→¬(∃G,g=some G∧∃i,fl≤i∧i<ss.length∧q-G*(m:Rat)+2*β<cS ss G i)→rS ss β fl ro m q S f a b→H' r=some (.tup [.ref ln,.ref th])→jJ H' ln S f (5*n+3*nb+7)→H' th=some (.tup [.int (mo ss a),.int (mo ss b),.int m])→mU C H' p CJ CI 0#C ss.length b β n nb g' none→H CJ=none→H CI=none→Q (.ref r) H')→O8 C vs H Q E_
inductive Wi (C:aq) (vs:List V) (H:Hp) (Q:VK) (E_:XK):Prop where
 | mk (p Lb La:aq) (ss:List En) (fl ro:Nat) (β:Rat) (n nb:Nat) (g s:Option Rat):vs=[.ref p]→mU C H p Lb La ss fl ro β n nb g s→ss.length≤900→1≤n→n≤1500→(5*n+4*nb≤7900∧nb≤1000)→(ss=[]→Q .bK H)→(0<ss.length→∀(r:aq) (T f:Rat) (H':Hp),ao H H'→jJ H' r T f (5*n+3*nb+7)→qc ss β fl g s T f→Q (.ref r) H')→Wi C vs H Q E_
theorem jJ.QV (f:jJ H p s h n) (k:ao H H'):jJ H' p s h n:=f.tv λ{b xs} e=>k _ _ e
theorem Gp (iy:0≤β) (hr:rising ss) (g:GF ss (2*β) fl ro G) (hH:TV ss (2*β) fl ro G) (lo:∀i,fl≤i→i<ss.length→cS ss G i-β≤f) (ex:∃i,fl≤i∧i<ss.length∧cS ss G i-β=f) :
 (∀i,ro≤i→i<ss.length→f≤cS ss G i+β)∧∃q p,ro≤q∧q<p∧fl≤p∧p<ss.length∧cS ss G q+β=f∧cS ss G p-β=f:=by
 obtain ⟨b,hb,lb,eb⟩:=ex
 have hi:∀i,ro≤i→i<ss.length→f≤cS ss G i+β:=λi h l=>by
  have:=RO 0#B hr g.1 hH h hb l lb
  grind
 refine ⟨hi,?_⟩
 obtain ⟨q,p,a1,a2,a3,a4,e⟩:=g.2
 have e':=(ND hr a2 a4).mp e
 have l1:=lo p a3 a4
 have l2:=hi q a1 0#b
 exact ⟨q,p,a1,a2,a3,a4,by grind,by grind⟩
theorem Gu (iy:0≤β) (hr:rising ss) (g:SF ss (2*β) fl ro S) (hL:TX ss (2*β) fl ro S) (lo:∀i,fl≤i→i<ss.length→cS ss S i-β≤f) (ex:∃i,fl≤i∧i<ss.length∧cS ss S i-β=f) :
 (∀i,ro≤i→i<ss.length→f≤cS ss S i+β)∧∃q p,fl≤q∧q<p∧ro≤p∧p<ss.length∧cS ss S q-β=f∧cS ss S p+β=f:=by
 obtain ⟨b,hb,lb,eb⟩:=ex
 have hi:∀i,ro≤i→i<ss.length→f≤cS ss S i+β:=λi h l=>by
  have:=RO 0#B hr hL g.1 h hb l lb
  grind
 refine ⟨hi,?_⟩
 obtain ⟨q,p,a1,a2,a3,a4,e⟩:=g.2
 have e':=(Ic hr a2 a4).mp e
 have l1:=lo q a1 0#b
 have l2:=hi p a3 a4
 exact ⟨q,p,a1,a2,a3,a4,by grind,by grind⟩
theorem PX {es:List En} (h:(es.drop j)[i]?=some x):es[j+i]?=some x:=by rw [← rQ];exact h
theorem Bj (h1:lo≤q) (h2:q<es.length) (e:cS es T q-f=l):∃a x,lo≤a∧a≤q∧es[a]?=some x∧((es.drop lo).filter (SV T f l))[0]?=some x∧cS es T a-f=l:=by
 have gq:(es.drop lo)[q-lo]?=some es[q]:=by rw [rQ,show lo+(q-lo)=q by simp?,jY h2]
 have pq:SV T f l es[q]=true:=(wA (jY h2)).mpr e
 obtain ⟨a,x,g,px,e0,hn⟩:=KD (SV T f l) (es.drop lo) ⟨_,mT gq,pq⟩
 have g':=PX g
 refine ⟨lo+a,x,by simp?,?_,g',e0,(wA g').mp px⟩
 by_cases z:q-lo<a
 ·have:=hn _ _ z gq
  rw [pq] at this
  cases this
 ·simp?
theorem EJ (h1:lo≤q) (h2:q<es.length) (e:cS es T q-f=l):∃a x,q≤a∧a<es.length∧es[a]?=some x∧((es.drop lo).filter (SV T f l))[((es.drop lo).filter (SV T f l)).length-1]?=some x∧cS es T a-f=l∧∀i,a<i→i<es.length→cS es T i-f≠l:=by
 have gq:(es.drop lo)[q-lo]?=some es[q]:=by rw [rQ,show lo+(q-lo)=q by simp?,jY h2]
 have pq:SV T f l es[q]=true:=(wA (jY h2)).mpr e
 obtain ⟨a,x,g,px,e0,hn⟩:=Qm (SV T f l) (es.drop lo) ⟨_,mT gq,pq⟩
 have g':=PX g
 refine ⟨lo+a,x,?_,(nH.mp g').1,g',e0,(wA g').mp px,λi hi hl ei=>?_⟩
 ·by_cases z:a<q-lo
  ·have:=hn _ _ z gq
   rw [pq] at this
   cases this
  ·simp?
 ·have gi:(es.drop lo)[i-lo]?=some es[i]:=by rw [rQ,show lo+(i-lo)=i by simp?,jY hl]
  have:=hn (i-lo) _ 0#b gi
  rw [(wA (jY hl)).mpr ei] at this
  cases this
theorem HC (h:es[es.length-1]?=some x):sI (vals es) (-1)=some (.ref x.1):=by
 have hl:=(nH.mp h).1
 unfold sI
 rw [aT,uU (m:=es.length-1) 0#c]
 exact yy h
theorem Cf (h:es[0]?=some x):sI (vals es) 0=some (.ref x.1):=iG (j:=0) (yy h)
theorem yc (h:rising ss) (hm:∀i,i<ss.length→mo ss i<m):rising 0#C:=DU h hm
theorem yY.next (h:yY ss fl ro β g s) (iy:0≤β) (hm:∀i,i<ss.length→mo ss i<m) (gG:GF 0#C (2*β) fl ro G') (sS:SF 0#C (2*β) fl ro S')
 (n1:¬ ∃G S,g=some G∧some S'=some S∧S<G) (n2:¬ ∃G S,some G'=some G∧s=some S∧S<G):yY 0#C fl ro β (some G') (some S')∧tu ss β fl ro g s m q:=by
 have hr:=yc (x:=x) (q:=q) h.FZ hm
 have k1:∀G,g=some G→G≤S':=λG e=>kB.mp λz=>n1 ⟨G,S',e,rfl,z⟩
 have k2:∀S,s=some S→G'≤S:=λS e=>kB.mp λz=>n2 ⟨G',S,rfl,e,z⟩
 have hfl:=h.hfl
 have wg:=h.wg
 refine ⟨⟨qd h.all,hr,by rw [jk];simp?,by rw [jk];simp?,λ_=>by rw [jk];simp?,gG,sS,?_,h.df⟩,λG e i hi hl=>?_,λS e i hi hl=>?_⟩
 ·intro G S e1 e2
  cases e1
  cases e2
  refine X9 0#B hr gG sS (λi j a b c d=>?_) (λi j a b c d=>?_)
  ·have go:=h.go
   cases hg:g with
   | none=>rw [hg] at go;exact absurd d (go i j a b c)
   | some G0=>rw [hg] at go;exact vH (go.1 i j a b c d) (k1 G0 hg)
  ·have so:=h.so
   cases hs:s with
   | none=>rw [hs] at so;exact absurd d (so i j a b c)
   | some S0=>rw [hs] at so;exact vH (k2 S0 hs) (so.1 i j a b c d)
 ·refine kB.mp λz=>?_
  exact absurd ((HF hr sS (h.hiG e).2 wg).mpr ⟨i,hi,hl,z⟩) (kB.mpr (k1 G e))
 ·refine kB.mp λz=>?_
  exact absurd ((PM hr gG (h.loS e).2 hfl).mpr ⟨i,hi,hl,z⟩) (kB.mpr (k2 S e))
theorem JE:fz 2 [cz,aO] tX:=0#a
abbrev kI K mg c:=Cl K mg "Bend" c [aO,"twice","below","above",iV,iW]
theorem IC (F:su K "__init__" "Bend.__init__" tX f fd) (aP:kI K mg aB) (qL:Dn P w K mg base 5 "plus" [aQ,aG] (rJ (·+·) 1)):bh P w K mg base dm 6 f fd [cz,aO] (Cv aB):=by
 refine F.eU JE λcdv A outer s H vs Q E hr h=>?_
 obtain ⟨p,dx,pb,β,n,rfl,hp,hb,hn,k⟩:=h
 have lp:∀(f:Str) (v:V) (fs:List (Str×V)),fs.length≤(aA f v fs).length:=by
  intro f v fs
  induction fs with
  | nil=>exact lX _
  | cons x r ih=>
    obtain ⟨g,y⟩:=x
    unfold aA
    split
    ·exact dS _
    ·exact yI ih
 have Fp:∀{H H':Hp} {fs:List (Str×V)} {b:aq} {xs:List V},Kp (·=p) H H'→H p=some (.ins aB dx fs)→H b=some 0#o→H' b=some 0#o:=λh hp e=>h _ _ (λz=>by rw [z,hp] at e;cases e) e
 apply bF ⟨_,(ah (jg K 0#h 0#n) (ah (jg K 0#h (bZ qL hr 0#n 0#n)) (ah (jg K 0#h (dO gH)) (ah (jg K 0#h (dO gH)) (ah (jg K 0#h fU) (aD (jg K 0#h fU))))))),?_⟩
 refine Bd aP hp (by show 0<1000;decide) ?_
 have k1:Kp (·=p) H (upd H p (.ins aB dx (aA "bound" (.ref pb) []))):=(Kp.of 0#t).upd rfl
 have hb1:=hb.tv (Fp k1 hp)
 have hp1:upd H p (.ins aB dx (aA "bound" (.ref pb) [])) p=some (.ins aB dx (aA "bound" (.ref pb) [])):=av
 generalize upd H p (.ins aB dx (aA "bound" (.ref pb) []))=H1 at *
 rw?
 refine ⟨pb,pb,β,β,n,n,rfl,hb1.qt,hb1.qt,by try?,λtw H2 s2 f2=>?_⟩
 have k2:=k1.sm s2
 have hp2:=s2 _ _ hp1
 have hb2:=hb1.up s2
 rw?
 have F6:=λLb La=>(Fb.init pb tw Lb La .bK .bK).len
 refine Bd aP hp2 (by have:=F6 pb pb;have:=lp "twice" (.ref tw) (aA "bound" (.ref pb) []);have:(aA "bound" (.ref pb) ([]:List (Str×V))).length=1:=rfl;try?) ?_
 have k3:Kp (·=p) H (upd H2 p (.ins aB dx 0#r)):=k2.upd rfl
 have k23:Kp (·=p) H2 (upd H2 p (.ins aB dx 0#r)):=(Kp.of 0#t).upd rfl
 have hb3:=hb2.tv (Fp k23 hp2)
 have f3:=f2.tv (Fp k23 hp2)
 have hp3:upd H2 p (.ins aB dx 0#r) p=some (.ins aB dx 0#r):=av
 generalize upd H2 p (.ins aB dx 0#r)=H3 at *
 rw?
 refine aC (mk:=.lst) 0#d λLb H4 s4 n4 e4=>?_
 have k4:=k3.sm s4
 have hp4:=s4 _ _ hp3
 have nb0:H Lb=none:=by
  cases g:H Lb with
  | none=>rfl
  | some o=>
    by_cases z:Lb=p
    ·rw [z,hp3] at n4;cases n4
    ·rw [k3 _ _ z g] at n4;cases n4
 have Vf:Lb≠p:=λz=>by rw [z,hp3] at n4;cases n4
 rw?
 refine Bd aP hp4 (by have z1:=QF "twice" (.ref tw) (aA "bound" (.ref pb) []);have z2:(aA "bound" (.ref pb) ([]:List (Str×V))).length=1:=rfl;try?) ?_
 have k45:Kp (·=p) H4 (upd H4 p (.ins aB dx (aA "below" (.ref Lb) 0#r))):=(Kp.of 0#t).upd rfl
 have hb5:=(hb3.up s4).tv (Fp k45 hp4)
 have f5:=(f3.up s4).tv (Fp k45 hp4)
 have e5:=k45 _ _ Vf e4
 have k5:=k4.trans k45
 have hp5:upd H4 p (.ins aB dx (aA "below" (.ref Lb) 0#r)) p=some (.ins aB dx (aA "below" (.ref Lb) 0#r)):=av
 generalize upd H4 p (.ins aB dx (aA "below" (.ref Lb) 0#r))=H5 at *
 rw?
 refine aC (mk:=.lst) 0#d λLa H6 s6 n6 e6=>?_
 have k6:=k5.sm s6
 have hp6:=s6 _ _ hp5
 have na0:H La=none:=by
  cases g:H La with
  | none=>rfl
  | some o=>
    by_cases z:La=p
    ·rw [z,hp5] at n6;cases n6
    ·rw [k5 _ _ z g] at n6;cases n6
 have nMp:La≠p:=λz=>by rw [z,hp5] at n6;cases n6
 have ne:Lb≠La:=λz=>by rw [← z,e5] at n6;cases n6
 have F:=Fb.init pb tw Lb La .bK .bK
 have l0:=F.len
 have l1:=lp "steepest" .bK (aA "gentlest" .bK (aA "above" (.ref La) (aA "below" (.ref Lb) 0#r)))
 have l2:=lp "gentlest" .bK (aA "above" (.ref La) (aA "below" (.ref Lb) 0#r))
 have l3:=lp "above" (.ref La) (aA "below" (.ref Lb) 0#r)
 rw?
 apply Bd aP hp6 0#c ?_
 apply Bd aP av 0#c ?_
 apply Bd aP av 0#c ?_
 rw [rO,rO]
 have k67:Kp (·=p) H6 (upd H6 p (.ins aB dx (aA "steepest" .bK (aA "gentlest" .bK (aA "above" (.ref La) (aA "below" (.ref Lb) 0#r)))))):=(Kp.of 0#t).upd rfl
 have k7:=k6.trans k67
 refine k Lb La _ 0 (λb o e=>?_) nb0 na0 ⟨dx,pb,tw,_,.bK,.bK,av,F,k67 _ _ Vf (s6 _ _ e5),k67 _ _ nMp e6,ne,λx hx=>absurd hx 0#d,(hb5.up s6).tv (Fp k67 hp6),?_,rfl,rfl,⟨λx hx=>absurd hx 0#d,List.Pairwise.nil,dS _,dS _,λz=>absurd z 0#d,λq p _ _ _ z=>absurd z 0#d,λq p _ _ _ z=>absurd z 0#d,λ_ _ e=>(by cases e),λ_=>rfl⟩⟩
 ·by_cases hb':b=p
  ·rw [hb'] at e
   unfold rm at e
   rw [if_pos rfl] at e
   cases e
  ·rw [ou hb'] at e
   exact k7 _ _ hb' e
 ·have:=((f5.up s6).tv (Fp k67 hp6)).qt
  have Ym:(2*β:Rat)=β+β:=by grind
  rw [Ym]
  exact this.mono 0#c
theorem in_of {rs:Qs} (hm:rs.map (·.2)=(gD N).map h):(∀i,i<N→∃x∈rs,x.2=h i)∧(∀x∈rs,∃i,i<N∧h i=x.2):=by
 constructor
 ·intro i hi
  have:h i∈rs.map (·.2):=by rw [hm];exact jB.mpr ⟨i,uN.mpr hi,rfl⟩
  obtain ⟨x,hx,e⟩:=jB.mp this
  exact ⟨x,hx,e⟩
 ·intro x hx
  have:x.2∈rs.map (·.2):=jB.mpr ⟨x,hx,rfl⟩
  rw [hm] at this
  obtain ⟨i,hi,e⟩:=jB.mp this
  exact ⟨i,uN.mp hi,e⟩
theorem fG (h:iK es):iK (es.drop j):=λx hx=>h x (WM hx)
theorem gP (h:Row H es n):Row H (es.drop j) n:=λx hx=>h x (WM hx)
theorem ZZ:Sz n 0:=W9 n
theorem mL:fz 2 [cz,gr,"told","lows"] ow:=0#a
theorem BR (F:su K "line_of" "Bend.line_of" ow f fd) (aP:kI K mg aB) (bV:Kl P w K mg base) (dX:ack P w K mg base) (aY:Dn P w K mg base 1 "loose_minus" [aQ,aG] (jV (·-·) 1)) (gX:acp P w K mg base):bh P w K mg base dm 5 f fd [cz,gr] (uD aB):=by
 refine F.eU mL λcdv A outer s H vs Q E hr h=>?_
 obtain ⟨p,Lb,La,pt,ss,fl,ro,β,T,n,nb,g,s',rfl,⟨dx,bd,tw,fs,gv,sv,hB⟩,ht,h0,kR,hn,hnb,k⟩:=h
 have hlt:=(hB.P.lt h0).1
 have ld:(ss.drop fl).length=ss.length-fl:=mO ..
 apply bF ⟨_,(ah (oY (i:=2) mL.nd rfl (Or.inr rfl) (Jd.c1 bV hr 0#n) (hs:=eK)) (ah (vv (O:=[bw]) (N':=["told","self" ]) (cap:=[2,0]) (i:=3) mL.nd rfl 0#k rfl (eE K 0#P) (λ_ _ _ _ _=>(cB (i:=0) (show kD [("sample":Str),("told":Str),("self":Str)] by decide +kernel) rfl 0#k)) (λ_ _ _ _ _=>oX) (λ_ _ _ _ _=>(iA aY 0#z rfl (fL (iA dX 0#z rfl (fL 0#n (fL 0#h (fL au gH lV) bP) bP) (he:=bP) (hpl:=(cO bP (cO lV cR)))) (fL (fS K 0#q) gH) EE) (he:=EE) (hpl:=(cO (by rfl) cR)))) rfl ⟨⟨rfl,rfl,rfl,rfl⟩,0#u⟩ rfl 0#e rfl 0#e (by rfl)) (aD (aX (bW (bL 0#q (Jd.c1 bV hr (Jd.c1 gX hr 0#A)))))))),?_⟩
 apply ⟨pt,T,_,rfl,ht,by try?,λto H1 s1 f1=>?_⟩
 apply jb ?_
 refine kG aP (s1 _ _ hB.at_) hB.F.bl ?_
 refine ⟨Lb,rfl,⟨_,bq.of (s1 _ _ hB.eb)⟩,?_⟩
 refine c9 (xs:=vals (ss.drop fl)) cC (λH3 s3=>bq.of (s3 _ _ (s1 _ _ hB.eb))) (by rw [aT];try?) (λi ys G'=>∃rs:Qs,ys=eV rs∧Hu G' rs (5*n+3*nb+7)∧rs.map (·.2)=(gD i).map (λj=>cS (ss.drop fl) T j-β)) ⟨[],rfl,λz hz=>absurd hz 0#d,rfl⟩ ?_ ?_
 ·rintro D i v ys H3 lF N N0 h0' hD eD s3 hv hy ⟨rs,rfl,hrs,hmap⟩ kY kN
  obtain ⟨e,he,rfl⟩:=jd hv
  have hi:i<(ss.drop fl).length:=(nH.mp he).1
  obtain ⟨xi,gi,fi⟩:=dG (gP (hB.row.up (s1.trans s3))) (fG hB.P.all) hi
  rw [he] at gi
  cases gi
  apply ic h0' ?_
  apply cI ?_
  apply ⟨to,e.1,T,_,_,0,_,n,rfl,(f1.up s3).qt,fi,ZZ,by try?,by try?,λx H4 s4 f4=>?_⟩
  apply kG aP ((s1.trans 0#N) _ _ hB.at_) hB.F.bd ?_
  refine ⟨x,bd,_,β,_,nb,rfl,f4,(hB.XI.up (s1.trans 0#N)).qt,by try?,λx5 H5 s5 f5=>?_⟩
  refine kY _ H5 0#W ⟨rs++[(x5,cS (ss.drop fl) T i-β)],by simp [eV],λy hy'=>?_,?_⟩
  ·rcases fK.mp hy' with w | w
   ·exact (hrs y w).up (yd 0#W)
   ·obtain rfl:y=(x5,cS (ss.drop fl) T i-β):=by simpa using w
    have e1:wo (ss.drop fl) i+T*((0-mo (ss.drop fl) i:Int):Rat)-β=cS (ss.drop fl) T i-β:=by
     unfold cS
     rw [sF]
     grind
    have f5:b8 H5 x5 (wo (ss.drop fl) i+T*((0-mo (ss.drop fl) i:Int):Rat)-β) _:=f5
    rw [e1] at f5
    obtain ⟨t,d,e',ff⟩:=f5.mono (show 3*n+(2*nb+1)+3+2*n+2+nb+1≤5*n+3*nb+7 by try?)
    exact ⟨t,d,gA (0#W _ _ eD) e',ff⟩
  ·rw [jD,hmap,AQ,jD]
   rfl
 rintro D ys H3 hD eD s3 hy ⟨rs,rfl,hrs,hmap⟩
 rw [aT] at hmap
 have hlen:rs.length=(ss.drop fl).length:=by
  have:=congrArg oK hmap
  simpa using this
 obtain ⟨inR,ofR⟩:=in_of hmap
 rw?
 apply ⟨D,rs,5*n+3*nb+7,rfl,eD,λx hx=>(hrs x hx).up jG,by try?,by try?,λmx Tv xG=>?_⟩
 apply ⟨mx.1,mx.2,_,rfl,(hrs mx Tv).up jG,by try?,λr4 H4 s4 f4=>?_⟩
 refine aC (mk:=.tup) 0#d λy H5 s5 n5 e5=>?_
 refine k y mx.2 H5 (s1.trans (s3.trans 0#W)) ⟨to,r4,e5,(f1.up (s3.trans 0#W)).mono 0#c,f4.up s5⟩ (λi hi hl=>?_) ?_
 ·obtain ⟨x,hx,e⟩:=inR (i-fl) 0#c
  have:=xG x hx
  rw [e,Li,show fl+(i-fl)=i by try?] at this
  exact this
 ·obtain ⟨i,hi,e⟩:=ofR mx Tv
  exact ⟨fl+i,by try?,by try?,by rw [← Li];exact e⟩
theorem gc:fz 2 [cz,bw,cQ,cV,"mid"] jn:=0#a
theorem tQ (F:su K "ended_in_cap" "Bend.ended_in_cap" jn f fd) (aP:kI K mg aB) (cT:Dm P w K mg base 5 aB "line_of" [cz,gr] (uD aB)) (jS:Dn P w K mg base 5 "touched" [aZ,cQ,"lift"] u7) (kM:Dn P w K mg base 1 "opposite" [aQ] QN) (cX:acr P w K mg base):bh P w K mg base dm 6 f fd [cz,bw] (Wf aB):=by
 refine F.eU gc λcdv A outer s H vs Q E hr h=>?_
 obtain ⟨p,Lb,La,x,ss,fl,ro,m,q,β,G,n,nb,s',rfl,⟨dx,bd,tw,fs,gv,sv,hB⟩,hx,hm,kR,h1,hn,hnb,iy,hoff,k⟩:=h
 have h0:0<ss.length:=by obtain ⟨i,_,hi,_⟩:=hoff;try?
 obtain ⟨hfl,wg⟩:=hB.P.lt h0
 obtain ⟨pg,rfl,fg⟩:=id hB.G
 obtain ⟨gG,hG⟩:=hB.P.hiG rfl
 have FZ:=hB.P.FZ
 apply bF ⟨_,(ah (aL 2 gc.nd (Jd.xY cT aP.cl 0#z 0#h (dZ 0#P) (he:=(by rfl)) (hpl:=cR))) (ah (aL 3 gc.nd (Jd.iL K (Jd.c3 jS hr 0#P 0#q (Jd.c1 kM hr 0#P)))) (ah (oY (i:=4) gc.nd rfl (Or.inr rfl) (bO (gU K) (Jd.c3 jS hr 0#P 0#q 0#P) (gF dH au) 0#g) (hs:=Wk)) (ah (jg K 0#h (oW (O:=[aG]) (N':=["mid"]) (cap:=[4]) rfl (eE K 0#P) (λ_ _ _ _ _=>(cB (i:=0) (show kD [("other":Str),("mid":Str)] by decide +kernel) rfl 0#k)) (λ_ _ _ _ _=>(vz (bD Qy (bO (MI K) 0#h au 0#g) (bO (MI K) 0#n au 0#g) 0#K))) (λ_ _ _ _ _=>0#h) rfl 0#u rfl 0#e rfl 0#e)) (ah (jg K 0#h (iA cX 0#z rfl (Jd.a4 fU 0#P 0#n 0#P) (he:=lV) (hpl:=(cO (by rfl) (cO bP (cO (by rfl) cR)))))) (ah (jg K 0#h fU) (ah (fm (ia K 0#P 0#n) (hs:=eK)) (ah (jg K 0#h (dO (dZ 0#n))) (aD (aX (bW (bL 0#q (bW (Jd.a3 (aH K 0#A) (aH K (aa 4)) 0#Q)))))))))))))),?_⟩
 apply TJ hB.at_ (hB.F.zL "line_of") ?_
 apply kG aP hB.at_ hB.F.g ?_
 refine ⟨p,Lb,La,pg,ss,fl,ro,β,G,n,nb,some G,s',rfl,⟨dx,bd,tw,fs,_,sv,hB⟩,fg,h0,kR,hn,hnb,λln fo H1 s1 f1 lo ex=>?_⟩
 obtain ⟨hi,q0,p0,a1,a2,a3,a4,eq0,ep0⟩:=Gp iy FZ gG hG lo ex
 have wc:=hB.up s1
 rw?
 apply kG aP wc.at_ hB.F.ab ?_
 apply kG aP wc.at_ hB.F.bd ?_
 refine ⟨bd,β,nb,rfl,wc.XI.qt,λob H2 s2 f2=>?_⟩
 have hB2:=wc.up s2
 rw?
 refine ⟨La,ln,ob,ss.drop ro,G,fo,-β,n,_,nb,rfl,hB2.ea,gP hB2.row,fG hB.P.all,f1.QV s2,f2,h1,by try?,by try?,by try?,by rw [mO];try?,λR3 H3 s3 n3 e3=>?_⟩
 have GB:=hB2.up s3
 obtain ⟨a,xa,b1,b2,ga,g0,ea⟩:=Bj (l:=-β) (f:=fo) a1 0#c (show cS ss G q0-fo=-β by grind)
 obtain ⟨xa',ga',fa⟩:=dG (GB.row) hB.P.all (show a<ss.length by try?)
 rw [ga] at ga'
 cases ga'
 rw?
 apply dg e3 (Cf g0) ?_
 apply kG aP GB.at_ hB.F.bl ?_
 apply kG aP GB.at_ hB.F.bd ?_
 refine ⟨Lb,ln,bd,ss.drop fl,G,fo,β,n,_,nb,rfl,GB.eb,gP GB.row,fG hB.P.all,f1.QV (s2.trans s3),GB.XI.qt,h1,by try?,by try?,by try?,by rw [mO];try?,λR4 H4 s4 n4 e4=>?_⟩
 have GC:=GB.up s4
 have Ai:=s1.trans (s2.trans 0#N)
 obtain ⟨b,xb,c1,c2,gb,g1,eb,fb⟩:=EJ (l:=β) (f:=fo) a3 a4 (show cS ss G p0-fo=β by grind)
 obtain ⟨xb',gb',fxb⟩:=dG GC.row hB.P.all c2
 rw [gb] at gb'
 cases gb'
 obtain ⟨vb,evb,_⟩:=id fxb
 obtain ⟨va,eva,_⟩:=id (fa.up s4)
 have mb:xb.2.1=mo ss b:=by unfold mo;rw [gb];rfl
 have gdb:(ss.drop fl)[b-fl]?=some xb:=by rw [rQ,show fl+(b-fl)=b by try?];exact gb
 have edb:(ss.drop fl).filter (λy=>decide (xb.2.1≤y.2.1))=ss.drop b:=by
  rw [PY (AW FZ) gdb,abG,show fl+(b-fl)=b by try?]
 rw?
 apply dg e4 (HC g1) ?_
 apply jb ?_
 refine kG aP GC.at_ hB.F.bl ?_
 refine ⟨Lb,rfl,⟨_,bq.of GC.eb⟩,?_⟩
 refine c9 (xs:=vals (ss.drop fl)) cC (λH5 s5=>bq.of (s5 _ _ GC.eb)) (by rw [aT,mO];try?) (λi ys _=>ys=vals (((ss.drop fl).take i).filter (λy=>decide (xb.2.1≤y.2.1)))) rfl ?_ ?_
 ·rintro D i v ys H5 lF N N0 h0' hD eD s5 hv hy rfl kY kN
  obtain ⟨e,he,rfl⟩:=jd hv
  have hi:i<(ss.drop fl).length:=(nH.mp he).1
  obtain ⟨xi,gi,⟨vi,ei,_⟩⟩:=dG (gP (GC.row.up s5)) (fG hB.P.all) hi
  rw [he] at gi
  cases gi
  have me:mo (ss.drop fl) i=e.2.1:=by unfold mo;rw [he];rfl
  have ts:=Kc (λy:En=>decide (xb.2.1≤y.2.1)) (ss.drop fl) i e he
  have ahk:=s5 _ _ evb
  apply ic h0' ?_
  cases hs:decide (xb.2.1≤e.2.1) with
  | true=>
    rw [hs,if_pos rfl] at ts
    have hs':=dM hs
    rw [show decide (mo ss b≤mo (ss.drop fl) i)=true from je (by rw [me,← mb];exact hs')]
    apply cI ?_
    exact kY _ H5 0#t (by rw [ts,← gQ])
  | false=>
    rw [hs,if_neg fQ,nv] at ts
    have hs':=jO hs
    rw [show decide (mo ss b≤mo (ss.drop fl) i)=false from pY (by rw [me,← mb];exact hs')]
    refine bR ?_
    exact kN H5 0#t (by rw [ts])
 rintro D ys H5 hD eD s5 hy rfl
 rw [aT,jt,edb] at eD
 have M8:=GC.up s5
 have Js:=Ai.trans s5
 have nD:H D=none:=by
  cases g:H D with
  | none=>rfl
  | some o=>rw [Ai _ _ g] at hD;cases hD
 have Zb:D≠p:=λz=>by rw [z,hB.at_] at nD;cases nD
 have fl0:=hB.F.len
 rw?
 refine Bd aP M8.at_ 0#c ?_
 have kd:Kp (λb=>b=p) H5 (upd H5 p (.ins aB dx (aA "below" (.ref D) fs))):=(Kp.of 0#t).upd rfl
 have Yq:upd H5 p (.ins aB dx (aA "below" (.ref D) fs)) p=some (.ins aB dx (aA "below" (.ref D) fs)):=av
 have k6:Kp (λb=>b=p∨b=D) H (upd H5 p (.ins aB dx (aA "below" (.ref D) fs))):=(Kp.of Js).upd (.inl rfl)
 have eD6:=kd _ _ Zb eD
 have tp:∀{b:aq} {xs:List V},H5 b=some 0#o→upd H5 p (.ins aB dx (aA "below" (.ref D) fs)) b=some 0#o:=λe=>kd _ _ (λz=>by rw [z,M8.at_] at e;cases e) e
 have VW:=(M8.row).tv tp
 have hx6:=((hx.up Js).en.tv tp).sa
 have UB:=M8.Yw.tv tp
 have acQ:=M8.XI.tv tp
 have acT:=(f1.QV (s2.trans (s3.trans 0#W))).tv tp
 have acN:=tp (s5 _ _ eva)
 have acO:=tp (s5 _ _ evb)
 generalize upd H5 p (.ins aB dx (aA "below" (.ref D) fs))=H6 at *
 have F6:=hB.F.Wb (y:=D)
 have l6:=F6.len
 rw?
 apply kG aP Yq F6.bl ?_
 apply kG aP Yq F6.tw ?_
 have ldb:(ss.drop b).length=ss.length-b:=mO ..
 refine ⟨.bK,D,x,tw,ss.drop b,m,q,2*β,n,2*nb+1,rfl,eD6,gP VW,fG hB.P.all,hx6,UB,by try?,by try?,by try?,λi hi=>by rw [o5];exact hm _ 0#c,.inl rfl,λz=>absurd z 0#c,λ_ ps S H7 s7 f7 _ hall hex=>?_⟩
 have sS:SF 0#C (2*β) b ss.length S:=Wd (s:=none) (λ_ e=>by cases e) (λ_ i j _ _ z=>by try?) (dS _) hall (by
  rcases hex with z | ⟨pk,e,_⟩
  ·exact .inl z
  ·cases e)
 rw?
 have ep7:=s7 _ _ Yq
 apply Bd aP ep7 0#c ?_
 apply Bd aP av (by rw [gO F6.s];try?) ?_
 apply kG aP av F6.yk.yj.bl ?_
 rw [rO]
 have k8:Kp (λb=>b=p∨b=D) H (upd H7 p (.ins aB dx 0#j)):=(k6.sm s7).upd (.inl rfl)
 have ep8:upd H7 p (.ins aB dx 0#j) p=some (.ins aB dx 0#j):=av
 have k78:Kp (λb=>b=p) H7 (upd H7 p (.ins aB dx 0#j)):=(Kp.of 0#t).upd rfl
 have eD8:=k78 _ _ Zb (s7 _ _ eD6)
 have tp8:∀{b:aq} {xs:List V},H6 b=some 0#o→upd H7 p (.ins aB dx 0#j) b=some 0#o:=λe=>k78 _ _ (λz=>by rw [z,Yq] at e;cases e) (s7 _ _ e)
 have f8:b8 (upd H7 p (.ins aB dx 0#j)) ps S (3*n+(2*nb+1)+3):=f7.tv λ{b xs} e=>k78 _ _ (λz=>by rw [z,ep7] at e;cases e) e
 generalize upd H7 p (.ins aB dx 0#j)=H8 at *
 have F8:=F6.yk (y:=.ref ps) |>.yj (y:=.bK)
 apply ⟨.inl ⟨rfl,_,bq.of eD8⟩,?_⟩
 refine cM eD8 (by rw [aT];exact aN 0#c) ?_
 have k9:Kp (λb=>b=p∨b=D) H (upd H8 D (.lst (vals (ss.drop b)++[.ref x]))):=k8.upd (.inr rfl)
 have ep9:upd H8 D (.lst (vals (ss.drop b)++[.ref x])) p=some (.ins aB dx 0#j):=by rw [aK (j4 Zb)];exact ep8
 have eD9:upd H8 D (.lst (vals (ss.drop b)++[.ref x])) D=some (.lst (vals ((ss++[(x,m,some q)]).drop b))):=by
  rw [av,Pk 0#c,← gQ]
 have tp9:∀{b':aq} {xs:List V},H8 b'=some 0#o→upd H8 D (.lst (vals (ss.drop b)++[.ref x])) b'=some 0#o:=λe=>by rw [aK (λz=>by rw [z,eD8] at e;cases e)];exact e
 generalize upd H8 D (.lst (vals (ss.drop b)++[.ref x]))=H9 at *
 rw?
 refine aC (mk:=.lst) 0#d λM xg rf zM Gw=>?_
 have nM:H M=none:=by
  cases g:H M with
  | none=>rfl
  | some o=>
    by_cases z:M=p
    ·rw [z,ep9] at zM;cases zM
    ·by_cases z2:M=D
     ·rw [z2,eD9] at zM;cases zM
     ·rw [k9 _ _ (λu=>by rcases u with u | u;exact z u;exact z2 u) g] at zM;cases zM
 have nMp:M≠p:=λz=>by rw [z,hB.at_] at nM;cases nM
 have nMD:D≠M:=λz=>by rw [← z,eD9] at zM;cases zM
 rw?
 have l8:=F8.len
 refine Bd aP (rf _ _ ep9) 0#c ?_
 have F11:=F8.Wa (y:=M)
 have k11:Kp (λb=>b=p∨b=D) H (upd xg p (.ins aB dx (aA "above" (.ref M) 0#j))):=(k9.sm rf).upd (.inl rfl)
 have acL:upd xg p (.ins aB dx (aA "above" (.ref M) 0#j)) p=some (.ins aB dx (aA "above" (.ref M) 0#j)):=av
 have Dg:Kp (λb=>b=p) xg (upd xg p (.ins aB dx (aA "above" (.ref M) 0#j))):=(Kp.of 0#t).upd rfl
 have acH:=Dg _ _ Zb (rf _ _ eD9)
 have acK:=Dg _ _ nMp Gw
 have Wv:∀{b:aq} {xs:List V},H9 b=some 0#o→upd xg p (.ins aB dx (aA "above" (.ref M) 0#j)) b=some 0#o:=λe=>Dg _ _ (λz=>by rw [z,ep9] at e;cases e) (rf _ _ e)
 generalize upd xg p (.ins aB dx (aA "above" (.ref M) 0#j))=Pw at *
 have LX:∀{b:aq} {xs:List V},H6 b=some 0#o→Pw b=some 0#o:=λe=>Wv (tp9 (tp8 e))
 have aeM:=LX acN
 have aeN:=LX acO
 obtain ⟨vx,evx,_⟩:=id hx6
 have aeO:=LX evx
 rw?
 apply aC (mk:=.tup) 0#d λth H12 s12 n12 e12=>?_
 refine aC (mk:=.tup) 0#d λr TU xh n13 Tu=>?_
 have OF:=s12.trans xh
 refine k r ln th D M fo a b (some S) TU (λb' o e=>?_) ⟨gG,hoff,lo,hi,b1,by grind,by try?,c2,by grind,λi hi hl z=>fb i hi hl 0#B,by try?⟩ Tu ((acT.tv LX).QV OF) (xh _ _ e12) ⟨dx,bd,tw,_,.bK,.ref ps,XY.up ⟨acL,F11,acH,?_,nMD,?_,acQ.tv LX,UB.tv LX,rfl,⟨ps,rfl,(f8.tv λe=>Wv (tp9 e))⟩,?_⟩ OF⟩ nD nM
 ·obtain ⟨n1,n2,n3,e⟩:=DW e
  refine OF _ _ (k11 _ _ (λz=>?_) e)
  rcases z with z | z
  ·exact n1 z
  ·rw [z,nD] at e;cases e
 ·rw [Pk (dS _),abq]
  exact acK
 ·exact (VW.tv LX).snoc (hx6.en.tv LX)
 ·refine ⟨qd hB.P.all,yc FZ hm,by rw [jk];try?,by rw [jk];try?,λ_=>by rw [jk];try?,λi j hi hij _ hj=>?_,sS,λ_ _ e=>(by cases e),λz=>absurd z 0#c⟩
  rw [jk] at hj
  try?
theorem gm:fz 2 [cz,bw,cQ,cV,"mid"] jq:=0#a
theorem tR (F:su K "ended_in_cup" "Bend.ended_in_cup" jq f fd) (aP:kI K mg aB) (cT:Dm P w K mg base 5 aB "line_of" [cz,gr] (uD aB)) (jS:Dn P w K mg base 5 "touched" [aZ,cQ,"lift"] u7) (kM:Dn P w K mg base 1 "opposite" [aQ] QN) (cW:acq P w K mg base):bh P w K mg base dm 6 f fd [cz,bw] (Wg aB):=by
 refine F.eU gm λcdv A outer s H vs Q E hr h=>?_
 obtain ⟨p,Lb,La,x,ss,fl,ro,m,q,β,G,n,nb,s',rfl,⟨dx,bd,tw,fs,gv,sv,hB⟩,hx,hm,kR,h1,hn,hnb,iy,hoff,k⟩:=h
 have h0:0<ss.length:=by obtain ⟨i,_,hi,_⟩:=hoff;try?
 obtain ⟨hfl,wg⟩:=hB.P.lt h0
 obtain ⟨pg,rfl,fg⟩:=id hB.S
 obtain ⟨gG,hG⟩:=hB.P.loS rfl
 have FZ:=hB.P.FZ
 apply bF ⟨_,(ah (aL 2 gm.nd (Jd.xY cT aP.cl 0#z 0#h (dZ 0#P) (he:=(by rfl)) (hpl:=cR))) (ah (aL 3 gm.nd (Jd.iL K (Jd.c3 jS hr 0#P 0#q 0#P))) (ah (oY (i:=4) gm.nd rfl (Or.inr rfl) (bO (gU K) (Jd.c3 jS hr 0#P 0#q (Jd.c1 kM hr 0#P)) (gF dH au) 0#g) (hs:=Wk)) (ah (jg K 0#h (oW (O:=[aG]) (N':=["mid"]) (cap:=[4]) rfl (eE K 0#P) (λ_ _ _ _ _=>(cB (i:=0) (show kD [("other":Str),("mid":Str)] by decide +kernel) rfl 0#k)) (λ_ _ _ _ _=>(vz (bD Qy (bO (MI K) 0#h au 0#g) (bO (MI K) 0#n au 0#g) 0#K))) (λ_ _ _ _ _=>0#h) rfl 0#u rfl 0#e rfl 0#e)) (ah (jg K 0#h (iA cW 0#z rfl (Jd.a4 fU 0#P 0#n 0#P) (he:=lV) (hpl:=(cO (by rfl) (cO bP (cO (by rfl) cR)))))) (ah (jg K 0#h fU) (ah (fm (ia K 0#P 0#n) (hs:=eK)) (ah (jg K 0#h (dO (dZ 0#n))) (aD (aX (bW (bL 0#q (bW (Jd.a3 (aH K 0#A) (aH K (aa 4)) 0#Q)))))))))))))),?_⟩
 apply TJ hB.at_ (hB.F.zL "line_of") ?_
 apply kG aP hB.at_ hB.F.s ?_
 refine ⟨p,Lb,La,pg,ss,fl,ro,β,G,n,nb,s',some G,rfl,⟨dx,bd,tw,fs,gv,_,hB⟩,fg,h0,kR,hn,hnb,λln fo H1 s1 f1 lo ex=>?_⟩
 obtain ⟨hi,q0,p0,a1,a2,a3,a4,eq0,ep0⟩:=Gu iy FZ gG hG lo ex
 have wc:=hB.up s1
 rw?
 apply kG aP wc.at_ hB.F.bl ?_
 apply kG aP wc.at_ hB.F.bd ?_
 refine ⟨Lb,ln,bd,ss.drop fl,G,fo,β,n,_,nb,rfl,wc.eb,gP wc.row,fG hB.P.all,f1,wc.XI.qt,h1,by try?,by try?,by try?,by rw [mO];try?,λR3 H3 s3 n3 e3=>?_⟩
 have GB:=wc.up s3
 obtain ⟨a,xa,b1,b2,ga,g0,ea⟩:=Bj (l:=β) (f:=fo) a1 0#c (show cS ss G q0-fo=β by grind)
 obtain ⟨xa',ga',fa⟩:=dG (GB.row) hB.P.all (show a<ss.length by try?)
 rw [ga] at ga'
 cases ga'
 rw?
 apply dg e3 (Cf g0) ?_
 apply kG aP GB.at_ hB.F.ab ?_
 apply kG aP GB.at_ hB.F.bd ?_
 refine ⟨bd,β,nb,rfl,GB.XI.qt,λob H2 s2 f2=>?_⟩
 have hB2:=GB.up s2
 rw?
 refine ⟨La,ln,ob,ss.drop ro,G,fo,-β,n,_,nb,rfl,hB2.ea,gP hB2.row,fG hB.P.all,f1.QV (s3.trans s2),f2,h1,by try?,by try?,by try?,by rw [mO];try?,λR4 H4 s4 n4 e4=>?_⟩
 have GC:=hB2.up s4
 have Ai:=s1.trans (s3.trans (s2.trans s4))
 obtain ⟨b,xb,c1,c2,gb,g1,eb,fb⟩:=EJ (l:=-β) (f:=fo) a3 a4 (show cS ss G p0-fo=-β by grind)
 obtain ⟨xb',gb',fxb⟩:=dG GC.row hB.P.all c2
 rw [gb] at gb'
 cases gb'
 obtain ⟨vb,evb,_⟩:=id fxb
 obtain ⟨va,eva,_⟩:=id (fa.up (s2.trans s4))
 have mb:xb.2.1=mo ss b:=by unfold mo;rw [gb];rfl
 have gdb:(ss.drop ro)[b-ro]?=some xb:=by rw [rQ,show ro+(b-ro)=b by try?];exact gb
 have edb:(ss.drop ro).filter (λy=>decide (xb.2.1≤y.2.1))=ss.drop b:=by
  rw [PY (AW FZ) gdb,abG,show ro+(b-ro)=b by try?]
 rw?
 apply dg e4 (HC g1) ?_
 apply jb ?_
 refine kG aP GC.at_ hB.F.ab ?_
 refine ⟨La,rfl,⟨_,bq.of GC.ea⟩,?_⟩
 refine c9 (xs:=vals (ss.drop ro)) cC (λH5 s5=>bq.of (s5 _ _ GC.ea)) (by rw [aT,mO];try?) (λi ys _=>ys=vals (((ss.drop ro).take i).filter (λy=>decide (xb.2.1≤y.2.1)))) rfl ?_ ?_
 ·rintro D i v ys H5 lF N N0 h0' hD eD s5 hv hy rfl kY kN
  obtain ⟨e,he,rfl⟩:=jd hv
  have hi:i<(ss.drop ro).length:=(nH.mp he).1
  obtain ⟨xi,gi,⟨vi,ei,_⟩⟩:=dG (gP (GC.row.up s5)) (fG hB.P.all) hi
  rw [he] at gi
  cases gi
  have me:mo (ss.drop ro) i=e.2.1:=by unfold mo;rw [he];rfl
  have ts:=Kc (λy:En=>decide (xb.2.1≤y.2.1)) (ss.drop ro) i e he
  have ahk:=s5 _ _ evb
  apply ic h0' ?_
  cases hs:decide (xb.2.1≤e.2.1) with
  | true=>
    rw [hs,if_pos rfl] at ts
    have hs':=dM hs
    rw [show decide (mo ss b≤mo (ss.drop ro) i)=true from je (by rw [me,← mb];exact hs')]
    apply cI ?_
    exact kY _ H5 0#t (by rw [ts,← gQ])
  | false=>
    rw [hs,if_neg fQ,nv] at ts
    have hs':=jO hs
    rw [show decide (mo ss b≤mo (ss.drop ro) i)=false from pY (by rw [me,← mb];exact hs')]
    refine bR ?_
    exact kN H5 0#t (by rw [ts])
 rintro D ys H5 hD eD s5 hy rfl
 rw [aT,jt,edb] at eD
 have M8:=GC.up s5
 have Js:=Ai.trans s5
 have nD:H D=none:=by
  cases g:H D with
  | none=>rfl
  | some o=>rw [Ai _ _ g] at hD;cases hD
 have Zb:D≠p:=λz=>by rw [z,hB.at_] at nD;cases nD
 have fl0:=hB.F.len
 rw?
 refine Bd aP M8.at_ 0#c ?_
 have kd:Kp (λb=>b=p) H5 (upd H5 p (.ins aB dx (aA "above" (.ref D) fs))):=(Kp.of 0#t).upd rfl
 have Yq:upd H5 p (.ins aB dx (aA "above" (.ref D) fs)) p=some (.ins aB dx (aA "above" (.ref D) fs)):=av
 have k6:Kp (λb=>b=p∨b=D) H (upd H5 p (.ins aB dx (aA "above" (.ref D) fs))):=(Kp.of Js).upd (.inl rfl)
 have eD6:=kd _ _ Zb eD
 have tp:∀{b:aq} {xs:List V},H5 b=some 0#o→upd H5 p (.ins aB dx (aA "above" (.ref D) fs)) b=some 0#o:=λe=>kd _ _ (λz=>by rw [z,M8.at_] at e;cases e) e
 have VW:=(M8.row).tv tp
 have hx6:=((hx.up Js).en.tv tp).sa
 have UB:=M8.Yw.tv tp
 have acQ:=M8.XI.tv tp
 have acT:=(f1.QV (s3.trans (s2.trans 0#W))).tv tp
 have acN:=tp (s5 _ _ eva)
 have acO:=tp (s5 _ _ evb)
 generalize upd H5 p (.ins aB dx (aA "above" (.ref D) fs))=H6 at *
 have F6:=hB.F.Wa (y:=D)
 have l6:=F6.len
 rw?
 apply kG aP Yq F6.ab ?_
 apply kG aP Yq F6.tw ?_
 have ldb:(ss.drop b).length=ss.length-b:=mO ..
 refine ⟨.bK,D,x,tw,ss.drop b,m,q,2*β,n,2*nb+1,rfl,eD6,gP VW,fG hB.P.all,hx6,UB,by try?,by try?,by try?,λi hi=>by rw [o5];exact hm _ 0#c,.inl rfl,λz=>absurd z 0#c,λ_ ps S H7 s7 f7 _ hall hex=>?_⟩
 have sS:GF 0#C (2*β) ss.length b S:=UD (g:=none) (λ_ e=>by cases e) (λ_ i j _ _ z=>by try?) (dS _) hall (by
  rcases hex with z | ⟨pk,e,_⟩
  ·exact .inl z
  ·cases e)
 rw?
 have ep7:=s7 _ _ Yq
 apply Bd aP ep7 0#c ?_
 apply Bd aP av (by rw [gO F6.g];try?) ?_
 apply kG aP av F6.yj.yk.ab ?_
 rw [rO]
 have k8:Kp (λb=>b=p∨b=D) H (upd H7 p (.ins aB dx 0#i)):=(k6.sm s7).upd (.inl rfl)
 have ep8:upd H7 p (.ins aB dx 0#i) p=some (.ins aB dx 0#i):=av
 have k78:Kp (λb=>b=p) H7 (upd H7 p (.ins aB dx 0#i)):=(Kp.of 0#t).upd rfl
 have eD8:=k78 _ _ Zb (s7 _ _ eD6)
 have tp8:∀{b:aq} {xs:List V},H6 b=some 0#o→upd H7 p (.ins aB dx 0#i) b=some 0#o:=λe=>k78 _ _ (λz=>by rw [z,Yq] at e;cases e) (s7 _ _ e)
 have f8:b8 (upd H7 p (.ins aB dx 0#i)) ps S (3*n+(2*nb+1)+3):=f7.tv λ{b xs} e=>k78 _ _ (λz=>by rw [z,ep7] at e;cases e) e
 generalize upd H7 p (.ins aB dx 0#i)=H8 at *
 have F8:=F6.yj (y:=.ref ps) |>.yk (y:=.bK)
 apply ⟨.inl ⟨rfl,_,bq.of eD8⟩,?_⟩
 refine cM eD8 (by rw [aT];exact aN 0#c) ?_
 have k9:Kp (λb=>b=p∨b=D) H (upd H8 D (.lst (vals (ss.drop b)++[.ref x]))):=k8.upd (.inr rfl)
 have ep9:upd H8 D (.lst (vals (ss.drop b)++[.ref x])) p=some (.ins aB dx 0#i):=by rw [aK (j4 Zb)];exact ep8
 have eD9:upd H8 D (.lst (vals (ss.drop b)++[.ref x])) D=some (.lst (vals ((ss++[(x,m,some q)]).drop b))):=by
  rw [av,Pk 0#c,← gQ]
 have tp9:∀{b':aq} {xs:List V},H8 b'=some 0#o→upd H8 D (.lst (vals (ss.drop b)++[.ref x])) b'=some 0#o:=λe=>by rw [aK (λz=>by rw [z,eD8] at e;cases e)];exact e
 generalize upd H8 D (.lst (vals (ss.drop b)++[.ref x]))=H9 at *
 rw?
 refine aC (mk:=.lst) 0#d λM xg rf zM Gw=>?_
 have nM:H M=none:=by
  cases g:H M with
  | none=>rfl
  | some o=>
    by_cases z:M=p
    ·rw [z,ep9] at zM;cases zM
    ·by_cases z2:M=D
     ·rw [z2,eD9] at zM;cases zM
     ·rw [k9 _ _ (λu=>by rcases u with u | u;exact z u;exact z2 u) g] at zM;cases zM
 have nMp:M≠p:=λz=>by rw [z,hB.at_] at nM;cases nM
 have nMD:D≠M:=λz=>by rw [← z,eD9] at zM;cases zM
 rw?
 have l8:=F8.len
 refine Bd aP (rf _ _ ep9) 0#c ?_
 have F11:=F8.Wb (y:=M)
 have k11:Kp (λb=>b=p∨b=D) H (upd xg p (.ins aB dx (aA "below" (.ref M) 0#i))):=(k9.sm rf).upd (.inl rfl)
 have acL:upd xg p (.ins aB dx (aA "below" (.ref M) 0#i)) p=some (.ins aB dx (aA "below" (.ref M) 0#i)):=av
 have Dg:Kp (λb=>b=p) xg (upd xg p (.ins aB dx (aA "below" (.ref M) 0#i))):=(Kp.of 0#t).upd rfl
 have acH:=Dg _ _ Zb (rf _ _ eD9)
 have acK:=Dg _ _ nMp Gw
 have Wv:∀{b:aq} {xs:List V},H9 b=some 0#o→upd xg p (.ins aB dx (aA "below" (.ref M) 0#i)) b=some 0#o:=λe=>Dg _ _ (λz=>by rw [z,ep9] at e;cases e) (rf _ _ e)
 generalize upd xg p (.ins aB dx (aA "below" (.ref M) 0#i))=Pw at *
 have LX:∀{b:aq} {xs:List V},H6 b=some 0#o→Pw b=some 0#o:=λe=>Wv (tp9 (tp8 e))
 have aeM:=LX acN
 have aeN:=LX acO
 obtain ⟨vx,evx,_⟩:=id hx6
 have aeO:=LX evx
 rw?
 apply aC (mk:=.tup) 0#d λth H12 s12 n12 e12=>?_
 refine aC (mk:=.tup) 0#d λr TU xh n13 Tu=>?_
 have OF:=s12.trans xh
 refine k r ln th M D fo a b (some S) TU (λb' o e=>?_) ⟨gG,hoff,lo,hi,b1,by grind,by try?,c2,by grind,λi hi hl z=>fb i hi hl 0#B,by try?⟩ Tu ((acT.tv LX).QV OF) (xh _ _ e12) ⟨dx,bd,tw,_,.ref ps,.bK,XY.up ⟨acL,F11,?_,acH,j4 nMD,?_,acQ.tv LX,UB.tv LX,⟨ps,rfl,(f8.tv λe=>Wv (tp9 e))⟩,rfl,?_⟩ OF⟩ nM nD
 ·obtain ⟨n1,n2,n3,e⟩:=DW e
  refine OF _ _ (k11 _ _ (λz=>?_) e)
  rcases z with z | z
  ·exact n1 z
  ·rw [z,nD] at e;cases e
 ·rw [Pk (dS _),abq]
  exact acK
 ·exact (VW.tv LX).snoc (hx6.en.tv LX)
 ·refine ⟨qd hB.P.all,yc FZ hm,by rw [jk];try?,by rw [jk];try?,λ_=>by rw [jk];try?,sS,λi j hi hij _ hj=>?_,λ_ _ _ e=>(by cases e),λz=>absurd z 0#c⟩
  rw [jk] at hj
  try?
theorem yY.afs (h:yY ss fl ro β g s) (h0:ss.length=0):g=none∧s=none:=by
 have go:=h.go
 have so:=h.so
 constructor
 ·cases g with
  | none=>rfl
  | some G=>
    obtain ⟨q,p,_,_,_,z,_⟩:=go.2
    simp?
 ·cases s with
  | none=>rfl
  | some S=>
    obtain ⟨q,p,_,_,_,z,_⟩:=so.2
    simp?
theorem rF:fz 2 [cz,bw,iV,iW] tY:=0#a
theorem ID (F:su K "take" "Bend.take" tY f fd) (aP:kI K mg aB) (cW:acq P w K mg base) (cX:acr P w K mg base) (mW:Dn P w K mg base 2 "is_steeper" [aQ,aG] AJ)
 (jh:Dm P w K mg base 6 aB "ended_in_cap" [cz,bw] (Wf aB)) (ji:Dm P w K mg base 6 aB "ended_in_cup" [cz,bw] (Wg aB)):bh P w K mg base dm 7 f fd [cz,bw] (O8 aB):=by
 refine F.eU rF λcdv A outer s H vs Q E hr h=>?_
 obtain ⟨p,Lb,La,x,ss,fl,ro,m,q,β,n,nb,g,s',rfl,⟨dx,bd,tw,fs,gv,sv,hB⟩,hx,hm,kR,h1,hn,hnb,iy,kN,kC,kU⟩:=h
 have fl0:=hB.F.len
 have hfl:=hB.P.hfl
 have wg:=hB.P.wg
 have lda:(ss.drop ro).length=ss.length-ro:=mO ..
 have ldb:(ss.drop fl).length=ss.length-fl:=mO ..
 have nbp:Lb≠p:=λz=>by have:=hB.eb;rw [z,hB.at_] at this;cases this
 have nap:La≠p:=λz=>by have:=hB.ea;rw [z,hB.at_] at this;cases this
  -- the sample is taken
 have stay:∀(gv' sv':V) (g' s2:Option Rat) (H2:Hp),ao H H2→OQ H2 gv' (3*n+(2*nb+1)+3) g'→OQ H2 sv' (3*n+(2*nb+1)+3) s2→yY 0#C fl ro β g' s2→tu ss β fl ro g s' m q →
  Q .bK (upd (upd (upd (upd H2 p (.ins aB dx (aA "gentlest" gv' fs))) p (.ins aB dx (aA "steepest" sv' (aA "gentlest" gv' fs)))) Lb (.lst (vals (ss.drop fl)++[.ref x]))) La (.lst (vals (ss.drop ro)++[.ref x]))):=by
  intro gv' sv' g' s2 H2 gV og os hP hN
  rw [rO]
  have hB2:=hB.up gV
  have kk:Kp (λb=>b=p∨b=Lb∨b=La) H2 (upd (upd (upd H2 p (.ins aB dx (aA "steepest" sv' (aA "gentlest" gv' fs)))) Lb (.lst (vals (ss.drop fl)++[.ref x]))) La (.lst (vals (ss.drop ro)++[.ref x]))):=((((Kp.of 0#t).upd (.inl rfl)).upd (.inr (.inl rfl))).upd (.inr (.inr rfl)))
  have tp:∀{b:aq} {xs:List V},H2 b=some 0#o→upd (upd (upd H2 p (.ins aB dx (aA "steepest" sv' (aA "gentlest" gv' fs)))) Lb (.lst (vals (ss.drop fl)++[.ref x]))) La (.lst (vals (ss.drop ro)++[.ref x])) b=some 0#o:=λe=>kk _ _ (λz=>by
   rcases z with z | z | z
   ·rw [z,hB2.at_] at e;cases e
   ·rw [z,hB2.eb] at e;cases e
   ·rw [z,hB2.ea] at e;cases e) e
  refine kN g' s2 _ (λb o e=>?_) hN ⟨dx,bd,tw,_,gv',sv',?_,hB.F.yj.yk,?_,?_,hB.ne,?_,hB2.XI.tv tp,hB2.Yw.tv tp,og.tv tp,os.tv tp,hP⟩
  ·obtain ⟨n1,n2,n3,e⟩:=DW e
   exact kk _ _ (λz=>by rcases z with z | z | z;exact n1 z;exact n2 z;exact n3 z) (gV _ _ e)
  ·rw [aK (j4 nap),aK (j4 nbp),av]
  ·rw [aK hB.ne,av,Pk hfl,← gQ]
  ·rw [av,Pk wg,← gQ]
  ·exact (hB2.row.tv tp).snoc ((hx.up gV).en.tv tp)
 apply bF ⟨_,(ah (aL 2 rF.nd (iA cW 0#z rfl (Jd.a4 0#P 0#P 0#n 0#P) (he:=(by rfl)) (hpl:=(cO (by rfl) (cO bP (cO (by rfl) cR)))))) (ah (aL 3 rF.nd (iA cX 0#z rfl (Jd.a4 0#P 0#P 0#n 0#P) (he:=(by rfl)) (hpl:=(cO (by rfl) (cO bP (cO (by rfl) cR)))))) (ah (cy (qf (bZ mW hr 0#P 0#A)) (aD (aX (Jd.xY jh aP.cl 0#z 0#h (dZ 0#n) (he:=bP) (hpl:=cR)))) cG) (ah (cy (qf (bZ mW hr 0#q 0#P)) (aD (aX (Jd.xY ji aP.cl 0#z 0#h (dZ 0#n) (he:=bP) (hpl:=cR)))) cG) (ah (jg K 0#h 0#q) (ah (jg K 0#h 0#A) (ah (fm (ia K 0#P 0#n) (hs:=eK)) (ah (fm (ia K 0#P 0#n) (hs:=eK)) (aD (aX fU)))))))))),?_⟩
 apply kG aP hB.at_ hB.F.g ?_
 apply kG aP hB.at_ hB.F.ab ?_
 apply kG aP hB.at_ hB.F.tw ?_
 by_cases h0:ss.length=0
 ·obtain ⟨rfl,rfl⟩:=hB.P.afs h0
  obtain rfl:gv=.bK:=hB.G
  obtain rfl:sv=.bK:=hB.S
  refine ⟨.bK,La,x,tw,ss.drop ro,m,q,2*β,n,2*nb+1,rfl,hB.ea,gP hB.row,fG hB.P.all,hx,hB.Yw,by try?,by try?,by try?,λi hi=>by rw [o5];exact hm _ 0#c,.inl rfl,λ_ _ H1 s1=>?_,λz=>absurd z 0#c⟩
  have wc:=hB.up s1
  rw?
  apply kG aP wc.at_ hB.F.s ?_
  apply kG aP wc.at_ hB.F.bl ?_
  apply kG aP wc.at_ hB.F.tw ?_
  refine ⟨.bK,Lb,x,tw,ss.drop fl,m,q,2*β,n,2*nb+1,rfl,wc.eb,gP wc.row,fG hB.P.all,hx.up s1,wc.Yw,by try?,by try?,by try?,λi hi=>by rw [o5];exact hm _ 0#c,.inl rfl,λ_ _ H2 s2=>?_,λz=>absurd z 0#c⟩
  have gV:=s1.trans s2
  have hB2:=hB.up gV
  rw?
  apply kG aP hB2.at_ hB.F.g ?_
  refine ⟨.bK,.bK,none,none,0,0,rfl,rfl,rfl,by decide,λr hr'=>?_⟩
  obtain rfl:r=false:=jr.mpr λz=>by obtain ⟨_,_,e,_⟩:=hr'.mp z;cases e
  rw?
  apply bR ?_
  apply kG aP hB2.at_ hB.F.s ?_
  refine ⟨.bK,.bK,none,none,0,0,rfl,rfl,rfl,by decide,λr hr2=>?_⟩
  obtain rfl:r=false:=jr.mpr λz=>by obtain ⟨_,_,e,_⟩:=hr2.mp z;cases e
  rw?
  apply bR ?_
  apply Bd aP hB2.at_ 0#c ?_
  apply Bd aP av (by rw [gO hB.F.g];try?) ?_
  apply kG aP av hB.F.yj.yk.bl ?_
  have eb4:upd (upd H2 p (.ins aB dx (aA "gentlest" .bK fs))) p (.ins aB dx (aA "steepest" .bK (aA "gentlest" .bK fs))) Lb=some (.lst (vals (ss.drop fl))):=by
   rw [aK nbp,aK nbp]
   exact hB2.eb
  apply ⟨.inl ⟨rfl,_,bq.of eb4⟩,?_⟩
  apply cM eb4 (by rw [aT];exact aN 0#c) ?_
  apply kG aP (by rw [aK (j4 nbp)];exact av) hB.F.yj.yk.ab ?_
  have ea5:upd (upd (upd H2 p (.ins aB dx (aA "gentlest" .bK fs))) p (.ins aB dx (aA "steepest" .bK (aA "gentlest" .bK fs)))) Lb (.lst (vals (ss.drop fl)++[.ref x])) La=some (.lst (vals (ss.drop ro))):=by
   rw [aK (j4 hB.ne),aK nap,aK nap]
   exact hB2.ea
  apply ⟨.inl ⟨rfl,_,bq.of ea5⟩,?_⟩
  apply cM ea5 (by rw [aT];exact aN 0#c) ?_
  refine stay .bK .bK none none H2 gV rfl rfl ?_ ⟨λ_ e=>(by cases e),λ_ e=>(by cases e)⟩
  refine ⟨qd hB.P.all,yc hB.P.FZ hm,by rw [jk];try?,by rw [jk];try?,λ_=>by rw [jk];try?,λi j _ hij _ hj=>?_,λi j _ hij _ hj=>?_,λ_ _ e=>(by cases e),hB.P.df⟩
  ·rw [jk] at hj
   try?
  ·rw [jk] at hj
   try?
 ·obtain ⟨aiE,aiM⟩:=hB.P.lt 0#c
  refine ⟨gv,La,x,tw,ss.drop ro,m,q,2*β,n,2*nb+1,rfl,hB.ea,gP hB.row,fG hB.P.all,hx,hB.Yw,by try?,by try?,by try?,λi hi=>by rw [o5];exact hm _ 0#c,?_,λz=>absurd z 0#c,λ_ pg G1 H1 s1 f1 hK1 aeX ahu=>?_⟩
  ·have hG:=hB.G
   cases g with
   | none=>exact .inl hG
   | some G=>exact let ⟨pk,e,fk⟩:=hG;.inr ⟨by try?,pk,G,e,fk⟩
  have gG:GF 0#C (2*β) fl ro G1:=by
   have hG:=hB.G
   refine UD (g:=g) (λG0 e=>?_) (λe=>?_) hfl aeX ?_
   ·rw [e] at hG
    obtain ⟨pk,e',fk⟩:=hG
    exact ⟨(hB.P.hiG e).1,hK1 pk G0 e' fk⟩
   ·have go:=hB.P.go
    rw [e] at go
    exact go
   ·rcases ahu with z | ⟨pk,e,fk⟩
    ·exact .inl z
    ·refine .inr ?_
     cases g with
     | none=>rw [show gv=.bK from hG] at e;cases e
     | some G0=>
       obtain ⟨pk',e',fk'⟩:=hG
       rw [e] at e'
       cases e'
       rw [GW fk fk']
  have wc:=hB.up s1
  rw?
  apply kG aP wc.at_ hB.F.s ?_
  apply kG aP wc.at_ hB.F.bl ?_
  apply kG aP wc.at_ hB.F.tw ?_
  refine ⟨sv,Lb,x,tw,ss.drop fl,m,q,2*β,n,2*nb+1,rfl,wc.eb,gP wc.row,fG hB.P.all,hx.up s1,wc.Yw,by try?,by try?,by try?,λi hi=>by rw [o5];exact hm _ 0#c,?_,λz=>absurd z 0#c,λ_ ps S1 H2 s2 f2 hK2 Dc hex2=>?_⟩
  ·have hS:=wc.S
   cases s' with
   | none=>exact .inl hS
   | some S=>exact let ⟨pk,e,fk⟩:=hS;.inr ⟨by try?,pk,S,e,fk⟩
  have sS:SF 0#C (2*β) fl ro S1:=by
   have hS:=wc.S
   refine Wd (s:=s') (λS0 e=>?_) (λe=>?_) wg Dc ?_
   ·rw [e] at hS
    obtain ⟨pk,e',fk⟩:=hS
    exact ⟨(hB.P.loS e).1,hK2 pk S0 e' fk⟩
   ·have so:=hB.P.so
    rw [e] at so
    exact so
   ·rcases hex2 with z | ⟨pk,e,fk⟩
    ·exact .inl z
    ·refine .inr ?_
     cases s' with
     | none=>rw [show sv=.bK from hS] at e;cases e
     | some S0=>
       obtain ⟨pk',e',fk'⟩:=hS
       rw [e] at e'
       cases e'
       rw [GW fk fk']
  have gV:=s1.trans s2
  have hB2:=hB.up gV
  have d9:=yc (x:=x) (q:=q) hB.P.FZ hm
  rw?
  apply kG aP hB2.at_ hB.F.g ?_
  apply ⟨gv,.ref ps,g,some S1,_,_,rfl,hB2.G,⟨ps,rfl,f2⟩,by try?,λr hr1=>?_⟩
  refine c6 0#w 0#w
  ·obtain ⟨G,S,rfl,e2,lt⟩:=hr1.mp c
   cases e2
   rw?
   apply TJ hB2.at_ (hB.F.zL "ended_in_cap") ?_
   refine ⟨p,Lb,La,x,ss,fl,ro,m,q,β,G,n,nb,s',rfl,⟨dx,bd,tw,fs,gv,sv,hB2⟩,hx.up gV,hm,kR,h1,hn,hnb,iy,(HF d9 sS (hB.P.hiG rfl).2 wg).mp lt,λr ln th CJ CI fo a b s2' H' k1 k2 k3 k4 k5 k6 k7 k8=>?_⟩
   refine kC r ln th CJ CI G fo a b s2' H' (λb' o e=>k1 _ _ ?_) rfl k2 k3 k4 k5 k6 (gV.free k7) (gV.free k8)
   obtain ⟨n1,n2,n3,e⟩:=DW e
   rw [wF n1 n2 n3]
   exact gV _ _ e
  ·have nc:¬ ∃G S,g=some G∧some S1=some S∧S<G:=λz=>c (hr1.mpr z)
   have ah1:¬ ∃G,g=some G∧∃i,fl≤i∧i<ss.length∧q-G*(m:Rat)+2*β<cS ss G i:=λ⟨G,e,z⟩=>nc ⟨G,S1,e,rfl,(HF d9 sS (hB.P.hiG e).2 wg).mpr z⟩
   rw?
   apply kG aP hB2.at_ hB.F.s ?_
   apply ⟨.ref pg,sv,some G1,s',_,_,rfl,⟨pg,rfl,f1.up s2⟩,hB2.S,by try?,λr2 hr2=>?_⟩
   refine c6 (λc2=>?_) (λc2=>?_)
   ·obtain ⟨G,S,e1,rfl,lt⟩:=hr2.mp c2
    cases e1
    rw?
    apply TJ hB2.at_ (hB.F.zL "ended_in_cup") ?_
    refine ⟨p,Lb,La,x,ss,fl,ro,m,q,β,S,n,nb,g,rfl,⟨dx,bd,tw,fs,gv,sv,hB2⟩,hx.up gV,hm,kR,h1,hn,hnb,iy,(PM d9 gG (hB.P.loS rfl).2 hfl).mp lt,λr ln th CJ CI fo a b s2' H' k1 k2 k3 k4 k5 k6 k7 k8=>?_⟩
    refine kU r ln th CJ CI S fo a b s2' H' (λb' o e=>k1 _ _ ?_) rfl ah1 k2 k3 k4 k5 k6 (gV.free k7) (gV.free k8)
    obtain ⟨n1,n2,n3,e⟩:=DW e
    rw [wF n1 n2 n3]
    exact gV _ _ e
   ·have nu:¬ ∃G S,some G1=some G∧s'=some S∧S<G:=λz=>c2 (hr2.mpr z)
    obtain ⟨hP,hN⟩:=hB.P.next iy hm gG sS nc nu
    rw?
    apply Bd aP hB2.at_ 0#c ?_
    apply Bd aP av (by rw [gO hB.F.g];try?) ?_
    apply kG aP av hB.F.yj.yk.bl ?_
    have eb4:upd (upd H2 p (.ins aB dx (aA "gentlest" (.ref pg) fs))) p (.ins aB dx (aA "steepest" (.ref ps) (aA "gentlest" (.ref pg) fs))) Lb=some (.lst (vals (ss.drop fl))):=by
     rw [aK nbp,aK nbp]
     exact hB2.eb
    apply ⟨.inl ⟨rfl,_,bq.of eb4⟩,?_⟩
    apply cM eb4 (by rw [aT];exact aN 0#c) ?_
    apply kG aP (by rw [aK (j4 nbp)];exact av) hB.F.yj.yk.ab ?_
    have ea5:upd (upd (upd H2 p (.ins aB dx (aA "gentlest" (.ref pg) fs))) p (.ins aB dx (aA "steepest" (.ref ps) (aA "gentlest" (.ref pg) fs)))) Lb (.lst (vals (ss.drop fl)++[.ref x])) La=some (.lst (vals (ss.drop ro))):=by
     rw [aK (j4 hB.ne),aK nap,aK nap]
     exact hB2.ea
    apply ⟨.inl ⟨rfl,_,bq.of ea5⟩,?_⟩
    apply cM ea5 (by rw [aT];exact aN 0#c) ?_
    exact stay (.ref pg) (.ref ps) (some G1) (some S1) H2 gV ⟨pg,rfl,f1.up s2⟩ ⟨ps,rfl,f2⟩ hP hN
theorem Aw:fz 1 [cz] mC:=0#a
theorem zR (F:su K "line_now" "Bend.line_now" mC f fd) (T:Txt mg) (aP:kI K mg aB) (kK:Dn P w K mg base 5 "line_by" [gr,bw] yp) (cT:Dm P w K mg base 5 aB "line_of" [cz,gr] (uD aB)):bh P w K mg base dm 6 f fd [cz] (Wi aB):=by
 refine F.eU Aw λcdv A outer s H vs Q E hr h=>?_
 obtain ⟨p,Lb,La,ss,fl,ro,β,n,nb,g,s',rfl,⟨dx,bd,tw,fs,gv,sv,hB⟩,kR,h1,hn,hnb,k0,k1⟩:=h
 have ld:(ss.drop fl).length=ss.length-fl:=mO ..
 apply bF ⟨_,(ah (cy (bD fE (fj K T.i7 0#P) au 0#K) (aD (aX fU)) cG) (ah (cy (bD j9 0#P fU 0#K) (aD (aX (Jd.xY cT aP.cl 0#z 0#h (dZ 0#P) (he:=(by rfl)) (hpl:=cR)))) cG) (ah (cy (bD j9 0#P fU 0#K) (aD (aX (Jd.xY cT aP.cl 0#z 0#h (dZ 0#P) (he:=(by rfl)) (hpl:=cR)))) cG) (aD (aX (bZ kK hr (bW (bL au au)) (Jd.iL K 0#P))))))),?_⟩
 apply kG aP hB.at_ hB.F.bl ?_
 refine dW (.inl (bq.of hB.eb)) ?_
 rw [aT]
 rw?
 refine c6 0#w 0#w
 ·have c':=dM c
  rw?
  refine k0 (G5.mp ?_)
  by_cases z:0<ss.length
  ·have:=(hB.P.lt z).1
   try?
  ·try?
 ·have c':=jO (jr.mpr c)
  have h0:0<ss.length:=by try?
  obtain ⟨hfl,wg⟩:=hB.P.lt h0
  rw?
  refine kG aP hB.at_ hB.F.g ?_
  cases g with
  | some G=>
    obtain ⟨pg,rfl,fg⟩:=id hB.G
    rw?
    apply 0#F
    apply cI ?_
    apply TJ hB.at_ (hB.F.zL "line_of") ?_
    apply kG aP hB.at_ hB.F.g ?_
    refine ⟨p,Lb,La,pg,ss,fl,ro,β,G,n,nb,some G,s',rfl,⟨dx,bd,tw,fs,_,sv,hB⟩,fg,h0,kR,hn,hnb,λln fo H1 s1 f1 lo ex=>?_⟩
    exact k1 h0 ln G fo H1 s1 f1 (.inl ⟨.inl rfl,lo,ex⟩)
  | none=>
    obtain rfl:gv=.bK:=hB.G
    rw?
    apply 0#F
    apply bR ?_
    refine kG aP hB.at_ hB.F.s ?_
    cases s' with
    | some S=>
      obtain ⟨pg,rfl,fg⟩:=id hB.S
      rw?
      apply 0#F
      apply cI ?_
      apply TJ hB.at_ (hB.F.zL "line_of") ?_
      apply kG aP hB.at_ hB.F.s ?_
      refine ⟨p,Lb,La,pg,ss,fl,ro,β,S,n,nb,none,some S,rfl,⟨dx,bd,tw,fs,_,_,hB⟩,fg,h0,kR,hn,hnb,λln fo H1 s1 f1 lo ex=>?_⟩
      exact k1 h0 ln S fo H1 s1 f1 (.inl ⟨.inr 0#U,lo,ex⟩)
    | none=>
      obtain rfl:sv=.bK:=hB.S
      rw?
      apply 0#F
      apply bR ?_
      refine aC (mk:=.tup) 0#d λz1 H1 s1 n1 e1=>?_
      have wc:=hB.up s1
      obtain ⟨xa,ga,fa⟩:=dG wc.row hB.P.all hfl
      rw?
      apply kG aP wc.at_ hB.F.bl ?_
      apply dg wc.eb (Cf (x:=xa) (by rw [rQ,RB];exact ga)) ?_
      have f0:dF H1 z1 0 1:=⟨0,1,e1,⟨by decide,by decide,by grind⟩,by decide,by decide⟩
      refine ⟨z1,xa.1,0,_,_,1,n,rfl,f0,fa,h1,by try?,λz r' H2 s2 e2 f2=>?_⟩
      refine k1 h0 z 0 (wo ss fl) H2 (s1.trans s2) ⟨z1,r',e2,(f0.up s2).mono 0#c,?_⟩ (.inr ⟨rfl,rfl,rfl,rfl⟩)
      have e3:wo ss fl-0*(mo ss fl:Rat)=wo ss fl:=by grind
      rw [e3] at f2
      exact f2.mono 0#c
theorem mU.fresh (h:mU C H p Lb La [] 0 0 β n nb none none):mU C H p Lb La [] 0 0 β n' nb none none:=
 let ⟨dx,bd,tw,fs,gv,sv,h⟩:=h;⟨dx,bd,tw,fs,gv,sv,h.at_,h.F,h.eb,h.ea,h.ne,λx hx=>absurd hx 0#d,h.XI,h.Yw,h.G,h.S,h.P⟩
theorem afk (s:ao H0 H) (np:H0 p=none) (nb:H0 Lb=none) (na:H0 La=none) (k:ao (S6 p Lb La H) H'):ao H0 H':=λb o e=>k _ _ (by
 rw [wF (bJ e np) (bJ e nb) (bJ e na)]
 exact s _ _ e)
theorem yY.two (h:yY ss fl ro β g s):(ss.length<2↔g=none∧s=none):=by
 constructor
 ·intro h2
  have go:=h.go
  have so:=h.so
  constructor
  ·cases g with
   | none=>rfl
   | some G=>
     obtain ⟨q,p,_,_,_,z,_⟩:=go.2
     simp?
  ·cases s with
   | none=>rfl
   | some S=>
     obtain ⟨q,p,_,_,_,z,_⟩:=so.2
     simp?
 ·rintro ⟨rfl,rfl⟩
  refine Nat.lt_of_not_le λh2=>?_
  obtain ⟨l1,l2⟩:=h.lt 0#b
  have df:=h.df
  have go:∀q p,ro≤q→q<p→fl≤p→¬p<ss.length:=h.go
  have so:∀q p,fl≤q→q<p→ro≤p→¬p<ss.length:=h.so
  have g1:=go ro (ss.length-1) 0#b
  have s1:=so fl (ss.length-1) 0#b
  by_cases e:ro<ss.length-1
  ·exact g1 e 0#b 0#b
  ·by_cases e2:fl<ss.length-1
   ·exact s1 e2 0#b 0#b
   ·have:=df 0#b
    simp?
theorem af2 (hr:rising ss) (hab:a<b) (hbk:b<k) (hk:k<ss.length) (ea:cS ss T a+β=f) (eb:cS ss T b-β=f) (ek:cS ss T k+β<f):2*β<sd ss a b k:=by
 have d1:=jL hr hab 0#b
 have d2:=jL hr hbk hk
 have d3:=jL hr (EU hab hbk) hk
 unfold cS at ea eb ek
 unfold sd dJ
 refine oN.mp λz=>?_
 have z':wo ss b-2*β≤(wo ss a*((mo ss k:Rat)-(mo ss b:Rat))+wo ss k*((mo ss b:Rat)-(mo ss a:Rat)))/((mo ss k:Rat)-(mo ss a:Rat)):=by grind
 rw [o6 d3] at z'
 have l:wo ss k<T*(mo ss k:Rat)+f-β:=by grind
 have:=J8 l d1
 have e1:wo ss a=T*(mo ss a:Rat)+f-β:=by grind
 have e2:wo ss b=T*(mo ss b:Rat)+f+β:=by grind
 rw [e1,e2] at z'
 grind
theorem af3 (hr:rising ss) (hab:a<b) (hbk:b<k) (hk:k<ss.length) (ea:cS ss T a-β=f) (eb:cS ss T b+β=f) (ek:f<cS ss T k-β):sd ss a b k < -(2*β):=by
 have d1:=jL hr hab 0#b
 have d2:=jL hr hbk hk
 have d3:=jL hr (EU hab hbk) hk
 unfold cS at ea eb ek
 unfold sd dJ
 refine oN.mp λz=>?_
 have z':(wo ss a*((mo ss k:Rat)-(mo ss b:Rat))+wo ss k*((mo ss b:Rat)-(mo ss a:Rat)))/((mo ss k:Rat)-(mo ss a:Rat))≤wo ss b+2*β:=by grind
 rw [uZ d3] at z'
 have l:T*(mo ss k:Rat)+f+β<wo ss k:=by grind
 have:=J8 l d1
 have e1:wo ss a=T*(mo ss a:Rat)+f+β:=by grind
 have e2:wo ss b=T*(mo ss b:Rat)+f-β:=by grind
 rw [e1,e2] at z'
 grind
inductive Tr (es:List En) (β:Rat):Nat→Nat→Nat→List (Rat×Rat)→List (Bool×Nat×Nat×Nat)→Prop where
 | nil:Tr es β 0 0 0 [] []
 | stay {k fl ro:Nat} {ls:List (Rat×Rat)} {ts:List (Bool×Nat×Nat×Nat)} {g s g' s':Option Rat} (h:Tr es β k fl ro ls ts) (hk:k<es.length) (hP:yY (es.take k) fl ro β g s) (Qd:yY (es.take (k+1)) fl ro β g' s') (hN:tu (es.take k) β fl ro g s (mo es k) (wo es k)):Tr es β (k+1) fl ro ls ts
 | cap {k fl ro a b:Nat} {ls:List (Rat×Rat)} {ts:List (Bool×Nat×Nat×Nat)} {s:Option Rat} {G f:Rat} (h:Tr es β k fl ro ls ts) (hk:k<es.length) (hP:yY (es.take k) fl ro β (some G) s) (hC:rR (es.take k) β fl ro (mo es k) (wo es k) G f a b):Tr es β (k+1) b k (ls++[(G,f)]) (ts++[(true,a,b,k)])
 | PK {k fl ro a b:Nat} {ls:List (Rat×Rat)} {ts:List (Bool×Nat×Nat×Nat)} {g:Option Rat} {S f:Rat} (h:Tr es β k fl ro ls ts) (hk:k<es.length) (hP:yY (es.take k) fl ro β g (some S)) (hn:¬ ∃G,g=some G∧∃i,fl≤i∧i<(es.take k).length∧wo es k-G*(mo es k:Rat)+2*β<cS (es.take k) G i) (hC:rS (es.take k) β fl ro (mo es k) (wo es k) S f a b):Tr es β (k+1) k b (ls++[(S,f)]) (ts++[(false,a,b,k)])
abbrev Ln:=aq×Rat×Rat
def lS (ls:List Ln):List V:=ls.map λx=>V.ref x.1
def vK (H:Hp) (ls:List Ln) (n:Nat):Prop:=∀x∈ls,jJ H x.1 x.2.1 x.2.2 n
abbrev X6:=aq×(Bool×Nat×Nat×Nat)
def T3 (H:Hp) (es:List En) (x:X6):Prop:=H x.1=some (.tup [.int (mo es x.2.2.1),.int (mo es x.2.2.2.1),.int (mo es x.2.2.2.2)])
theorem vK.tv (t:∀{b:aq} {xs:List V},H b=some 0#o→H' b=some 0#o) (h:vK H ls n):vK H' ls n:=λx hx=>(h x hx).tv t
theorem vK.snoc (h:vK H ls n) (hx:jJ H x.1 x.2.1 x.2.2 n):vK H (ls++[x]) n:=λy hy=>by
 rcases fK.mp hy with z | z
 ·exact h y z
 ·obtain rfl:y=x:=by simpa using z
  exact hx
theorem lO (e:H L=some (.lst ys))  (h:H b=some 0#o):upd H L (.lst zs) b=some 0#o:=by
 rw [aK (λq=>by rw [q,e] at h;cases h)]
 exact h
theorem mU.app (h:mU C H p Lb La ss fl ro β n nb g s) (e:H L=some (.lst ys)) (n1:L≠Lb) (n2:L≠La):mU C (upd H L (.lst zs)) p Lb La ss fl ro β n nb g s:=by
 obtain ⟨dx,bd,tw,fs,gv,sv,h⟩:=h
 exact ⟨dx,bd,tw,fs,gv,sv,h.mv (λ{b xs} z=>lO e z) (aK (λq=>by have:=h.at_;rw [q,e] at this;cases this)) (aK (j4 n1)) (aK (j4 n2))⟩
theorem mU.ats (h:mU C H p Lb La ss fl ro β n nb g s):(∃dx fs,H p=some 0#V∧(fs.lookup ("take":Str)=none∧fs.lookup ("line_now":Str)=none))∧(∃ys,H Lb=some (.lst ys))∧(∃ys,H La=some (.lst ys))∧yY ss fl ro β g s:=
 let ⟨_,_,_,_,_,_,h⟩:=h;⟨⟨_,_,h.at_,h.F.zL "take",h.F.zL "line_now"⟩,⟨_,h.eb⟩,⟨_,h.ea⟩,h.P⟩
theorem take_snoc (hS:iK es) (gx:es[j]?=some x):es.take (j+1)=es.take j++[(x.1,mo es j,some (wo es j))]:=by
 have xe:x=(x.1,mo es j,some (wo es j)):=by
  have:=hS x (mT gx)
  obtain ⟨ax,mx,vx⟩:=x
  unfold mo wo
  rw [gx]
  cases vx with
  | none=>cases this
  | some q=>rfl
 rw [← xe,Bs,gx]
 rfl
theorem mZ (h:i<j):mo (es.take j) i=mo es i:=by unfold mo;rw [G9,if_pos h]
theorem Cz (h:i<j):wo (es.take j) i=wo es i:=by unfold wo;rw [G9,if_pos h]
theorem iB (h:i<j):cS (es.take j) T i=cS es T i:=by unfold cS;rw [mZ h,Cz h]
inductive JP (C:aq) (vs:List V) (H:Hp) (Q:VK) (E_:XK):Prop where
 | mk (l pb:aq) (es:List En) (β:Rat) (n nb:Nat):vs=[.ref l,.ref pb]→H l=some 0#s→Row H es n→iK es→rising es→0<es.length→es.length≤800→dF H pb β nb→0≤β→1≤n→n≤1500→(5*n+4*nb≤7900∧nb≤1000)→(∀(y Ll Lt:aq) (ls:List Ln) (yw:List X6) (ks:List (Rat×Rat)) (fl ro:Nat) (g s:Option Rat) (T f:Rat) (H':Hp),ao H H'→H' y=some (.tup [.ref Ll,.ref Lt])→H Ll=none→H Lt=none→H' Ll=some (.lst (lS ls))→vK H' ls (5*n+3*nb+7)→ls.map (·.2)=ks++[(T,f)]→H' Lt=some (.lst (yw.map λx=>V.ref x.1))→(∀x∈yw,T3 H' es x)→Tr es β es.length fl ro ks (yw.map (·.2))→yY es fl ro β g s→qc es β fl g s T f→ks.length≤es.length→yw.length≤es.length→Q (.ref y) H')→JP C vs H Q E_
theorem jU:fz 2 ["run",aO,"bend","links","threes",bw,"ended"] wL:=0#a
theorem LB (F:fO K "links_of" wL f fd) (T:Txt mg) (aP:kI K mg aB) (MN:Dk P w K mg base 6 "Bend" aB [cz,aO] (Cv aB)) (sL:Dm P w K mg base 7 aB "take" [cz,bw] (O8 aB)) (lY:Dm P w K mg base 6 aB "line_now" [cz] (Wi aB)):bh P w K mg base dm 8 f fd ["run",aO] (JP aB):=by
 refine F.eU jU λcdv A outer s H vs Q E hr h=>?_
 obtain ⟨l,pb,es,β,n,nb,rfl,hl,hR,hS,d9,h0,aiC,hb,iy,h1,hn,hnb,k⟩:=h
 apply bF ⟨_,(ah (aL 2 jU.nd (Jd.VD MN 0#z rfl (dZ 0#n) (he:=bP) (hpl:=cR))) (ah (aL 3 jU.nd (dO gH)) (ah (aL 4 jU.nd (dO gH)) (ah (iP gR rfl (eE K 0#h) (cB (i:=5) jU.nd rfl 0#k) (ah (aL 6 jU.nd (Jd.xY sL aP.cl 0#z 0#q (dZ (aa 5)) (he:=bP) (hpl:=cR))) (aD (cy (bD j9 (aa 6) fU 0#K) (ah (fm (ia K 0#A (aH K (aa 6))) (hs:=eK)) (aD (fm (ia K (aa 4) (aH K (aa 6))) (hs:=eK)))) cG)))) (ah (fm (ia K 0#A (Jd.Og lY aP.cl 0#z 0#q)) (hs:=eK)) (aD (aX (bW (bL 0#A (aa 4)))))))))),?_⟩
 intro p dx np ndx aiO
 have hp7:upd (upd H dx (.own p)) p (.ins aB dx []) p=some (.ins aB dx []):=av
 have s7:ao H (upd (upd H dx (.own p)) p (.ins aB dx [])):=λb' o e=>by
  rw [aK (bJ e np),aK (bJ e ndx)]
  exact e
 generalize upd (upd H dx (.own p)) p (.ins aB dx [])=H7 at *
 refine ⟨p,dx,pb,β,nb,rfl,hp7,hb.up s7,by try?,λLb La H8 kk s8 nb8 na8 hB8=>0#F⟩
 have ZG:ao H H8:=λb' o e=>s8 _ _ (by rw [ou (bJ e np)];exact s7 _ _ e)
 have nb0:H Lb=none:=s7.free nb8
 have na0:H La=none:=s7.free na8
 have hB0:mU aB H8 p Lb La [] 0 0 β n nb none none:=hB8.fresh
 rw?
 apply aC (mk:=.lst) 0#d λLl H9 s9 n9 e9=>?_
 refine aC (mk:=.lst) 0#d λLt xg rf zM Gw=>?_
 have F3:=s9.trans rf
 have VY:=ZG.trans F3
 have nl0:H Ll=none:=ZG.free n9
 have nt0:H Lt=none:=(ZG.trans s9).free zM
 have nlt:Ll≠Lt:=λz=>by rw [← z,e9] at zM;cases zM
 obtain ⟨_,⟨_,eb0⟩,⟨_,ea0⟩,_⟩:=hB0.ats
 rw?
 apply fq (jb ?_)
 refine ⟨l,rfl,⟨_,bq.of (VY _ _ hl)⟩,d8 (xs:=vals es) (λi σ H3=>aex λ(v5 v6:Option V) (Lb La:aq) (fl ro:Nat) (g s:Option Rat) (ls:List Ln) (yw:List X6)=>σ=[some 0#O,some (.ref pb),some (.ref p),some (.ref Ll),some (.ref Lt),v5,v6]∧ao H H3∧H Lb=none∧H La=none∧Ll≠Lb∧Ll≠La∧Lt≠Lb∧Lt≠La∧mU aB H3 p Lb La (es.take i) fl ro β n nb g s∧H3 Ll=some (.lst (lS ls))∧H3 Lt=some (.lst (yw.map λx=>V.ref x.1))∧vK H3 ls (5*n+3*nb+7)∧(∀x∈yw,T3 H3 es x)∧Tr es β i fl ro (ls.map (·.2)) (yw.map (·.2))∧ls.length≤i∧yw.length≤i) ?_ ?_ ?_ ?_⟩
 ·refine ⟨none,none,Lb,La,0,0,none,none,[],[],rfl,VY,nb0,na0,λz=>?_,λz=>?_,λz=>?_,λz=>?_,hB0.up F3,rf _ _ e9,Gw,λx hx=>absurd hx 0#d,λx hx=>absurd hx 0#d,.nil,dS _,dS _⟩
  ·rw [z,eb0] at n9;cases n9
  ·rw [z,ea0] at n9;cases n9
  ·rw [z,s9 _ _ eb0] at zM;cases zM
  ·rw [z,s9 _ _ ea0] at zM;cases zM
 ·rintro i σ H3 _ ⟨v5,v6,Lb,La,fl,ro,g,s,ls,yw,rfl,s3,_⟩
  exact bq.of (s3 _ _ hl)
 ·rintro i v σ H3 hv ⟨v5,v6,Lb,La,fl,ro,g,s,ls,yw,rfl,s3,nb3,na3,q1,q2,q3,q4,GB,XF,Yr,hL3,XN,hTr,ll,lt⟩
  obtain ⟨x,gx,rfl⟩:=jd hv
  have hi:i<es.length:=(nH.mp gx).1
  obtain ⟨x',Yy,fx⟩:=dG (hR.up s3) hS hi
  rw [gx] at Yy
  cases Yy
  have tl:(es.take i).length=i:=by rw [oQ];try?
  have tk:=take_snoc hS gx
  obtain ⟨⟨dx3,fs3,ep3,mt3,_⟩,⟨_,eb3⟩,⟨_,ea3⟩,YC⟩:=GB.ats
  have npl:Ll≠p:=λz=>by rw [z,ep3] at XF;cases XF
  have npt:Lt≠p:=λz=>by rw [z,ep3] at Yr;cases Yr
  have hm:∀c,c<(es.take i).length→mo (es.take i) c<mo es i:=λc hc=>by
   rw [tl] at hc
   rw [mZ hc]
   exact iC d9 hc hi
  apply c8 λM B RR hM hB hR'=>?_
  apply TJ ep3 mt3 ?_
  have tup:∀{H4:Hp},ao (S6 p Lb La H3) H4→(∀{b:aq} {xs:List V},H3 b=some 0#o→H4 b=some 0#o)∧ao H H4∧H4 Ll=some (.lst (lS ls))∧H4 Lt=some (.lst (yw.map λx=>V.ref x.1)):=λ{H4} ks=>by
   refine ⟨λ{b xs} e=>ks _ _ ?_,afk s3 np nb3 na3 ks,ks _ _ ?_,ks _ _ ?_⟩
   ·rw [wF (λz=>by rw [z,ep3] at e;cases e) (λz=>by rw [z,eb3] at e;cases e) (λz=>by rw [z,ea3] at e;cases e)]
    exact e
   ·rw [wF npl q1 q2]
    exact XF
   ·rw [wF npt q3 q4]
    exact Yr
  refine ⟨p,Lb,La,x.1,es.take i,fl,ro,mo es i,wo es i,β,n,nb,g,s,rfl,GB,fx,hm,by try?,h1,hn,hnb,iy,λg' s' H4 ks hN GC=>?_,λr ln th CJ CI G fo a b s2' H4 ks eg hC er fl4 eth GC n1 n2=>?_,λr ln th CJ CI S fo a b g2' H4 ks es' hno hC er fl4 eth GC n1 n2=>?_⟩
  ·obtain ⟨tp,sH,Ff,Up⟩:=tup ks
   rw?
   apply 0#F
   apply bR ?_
   exact hM _ _ ⟨_,_,Lb,La,fl,ro,g',s',ls,yw,rfl,sH,nb3,na3,q1,q2,q3,q4,by rw [tk];exact GC,Ff,Up,hL3.tv tp,λx hx=>tp (XN x hx),.stay hTr hi YC (by rw [tk];exact GC.ats.2.2.2) hN,by try?,by try?⟩
  ·subst eg
   obtain ⟨tp,sH,Ff,Up⟩:=tup ks
   have hbl:=hC.lb
   have hab:=hC.hab
   rw [tl] at hbl
   rw?
   apply 0#F
   apply cI ?_
   apply ⟨.inl ⟨rfl,_,bq.of Ff⟩,?_⟩
   refine cM Ff (by unfold lS;rw [gI];exact aN 0#c) ?_
   have nl1:Ll≠CJ:=λz=>by rw [← z,XF] at n1;cases n1
   have nl2:Ll≠CI:=λz=>by rw [← z,XF] at n2;cases n2
   have nt1:Lt≠CJ:=λz=>by rw [← z,Yr] at n1;cases n1
   have nt2:Lt≠CI:=λz=>by rw [← z,Yr] at n2;cases n2
   have M8:=GC.app (zs:=lS ls++[.ref ln]) Ff nl1 nl2
   have TQ:∀{b:aq} {xs:List V},H4 b=some 0#o→upd H4 Ll (.lst (lS ls++[.ref ln])) b=some 0#o:=λe=>lO Ff e
   have eL5:upd H4 Ll (.lst (lS ls++[.ref ln])) Ll=some (.lst (lS (ls++[(ln,G,fo)]))):=by rw [av];simp [lS]
   have Uq:upd H4 Ll (.lst (lS ls++[.ref ln])) Lt=some (.lst (yw.map λx=>V.ref x.1)):=by rw [aK (j4 nlt)];exact Up
   have sH5:ao H (upd H4 Ll (.lst (lS ls++[.ref ln]))):=bf sH nl0
   have er5:=TQ er
   generalize upd H4 Ll (.lst (lS ls++[.ref ln]))=H5 at *
   rw?
   apply ⟨.inl ⟨rfl,_,bq.of Uq⟩,?_⟩
   refine cM Uq (by rw [gI];exact aN 0#c) ?_
   have tp6:∀{b:aq} {xs:List V},H5 b=some 0#o→upd H5 Lt (.lst ((yw.map λx=>V.ref x.1)++[.ref th])) b=some 0#o:=λe=>lO Uq e
   refine hM _ _ ⟨_,_,CJ,CI,b,(es.take i).length,none,s2',ls++[(ln,G,fo)],yw++[(th,(true,a,b,i))],rfl,bf sH5 nt0,s3.free n1,s3.free n2,nl1,nl2,nt1,nt2,by rw [tk];exact M8.app Uq nt1 nt2,by rw [aK nlt];exact eL5,by rw [av];simp,?_,λz hz=>?_,?_,by rw [fh];show _+1≤i+1;try?,by rw [fh];show _+1≤i+1;try?⟩
   ·exact (((hL3.tv tp).snoc fl4).tv TQ).tv tp6
   ·rcases fK.mp hz with z | z
    ·exact tp6 (TQ (tp (XN _ z)))
    ·obtain rfl:_=(th,(true,a,b,i)):=by simpa using z
     refine tp6 (TQ ?_)
     show H4 th=_
     rw [eth,mZ (show a<i by try?),mZ hbl]
   ·rw [tl,jD,jD]
    exact .cap hTr hi YC hC
  ·subst es'
   obtain ⟨tp,sH,Ff,Up⟩:=tup ks
   have hbl:=hC.lb
   have hab:=hC.hab
   rw [tl] at hbl
   rw?
   apply 0#F
   apply cI ?_
   apply ⟨.inl ⟨rfl,_,bq.of Ff⟩,?_⟩
   refine cM Ff (by unfold lS;rw [gI];exact aN 0#c) ?_
   have nl1:Ll≠CJ:=λz=>by rw [← z,XF] at n1;cases n1
   have nl2:Ll≠CI:=λz=>by rw [← z,XF] at n2;cases n2
   have nt1:Lt≠CJ:=λz=>by rw [← z,Yr] at n1;cases n1
   have nt2:Lt≠CI:=λz=>by rw [← z,Yr] at n2;cases n2
   have M8:=GC.app (zs:=lS ls++[.ref ln]) Ff nl1 nl2
   have TQ:∀{b:aq} {xs:List V},H4 b=some 0#o→upd H4 Ll (.lst (lS ls++[.ref ln])) b=some 0#o:=λe=>lO Ff e
   have eL5:upd H4 Ll (.lst (lS ls++[.ref ln])) Ll=some (.lst (lS (ls++[(ln,S,fo)]))):=by rw [av];simp [lS]
   have Uq:upd H4 Ll (.lst (lS ls++[.ref ln])) Lt=some (.lst (yw.map λx=>V.ref x.1)):=by rw [aK (j4 nlt)];exact Up
   have sH5:ao H (upd H4 Ll (.lst (lS ls++[.ref ln]))):=bf sH nl0
   have er5:=TQ er
   generalize upd H4 Ll (.lst (lS ls++[.ref ln]))=H5 at *
   rw?
   apply ⟨.inl ⟨rfl,_,bq.of Uq⟩,?_⟩
   refine cM Uq (by rw [gI];exact aN 0#c) ?_
   have tp6:∀{b:aq} {xs:List V},H5 b=some 0#o→upd H5 Lt (.lst ((yw.map λx=>V.ref x.1)++[.ref th])) b=some 0#o:=λe=>lO Uq e
   refine hM _ _ ⟨_,_,CJ,CI,(es.take i).length,b,g2',none,ls++[(ln,S,fo)],yw++[(th,(false,a,b,i))],rfl,bf sH5 nt0,s3.free n1,s3.free n2,nl1,nl2,nt1,nt2,by rw [tk];exact M8.app Uq nt1 nt2,by rw [aK nlt];exact eL5,by rw [av];simp,?_,λz hz=>?_,?_,by rw [fh];show _+1≤i+1;try?,by rw [fh];show _+1≤i+1;try?⟩
   ·exact (((hL3.tv tp).snoc fl4).tv TQ).tv tp6
   ·rcases fK.mp hz with z | z
    ·exact tp6 (TQ (tp (XN _ z)))
    ·obtain rfl:_=(th,(false,a,b,i)):=by simpa using z
     refine tp6 (TQ ?_)
     show H4 th=_
     rw [eth,mZ (show a<i by try?),mZ hbl]
   ·rw [tl,jD,jD]
    exact .PK hTr hi YC hno hC
 ·rintro σ H3 ⟨v5,v6,Lb,La,fl,ro,g,s,ls,yw,rfl,s3,nb3,na3,q1,q2,q3,q4,GB,XF,Yr,hL3,XN,hTr,ll,lt⟩
  rw [aT] at *
  rw [jt] at GB
  obtain ⟨⟨dx3,fs3,ep3,_,mn3⟩,_,_,YC⟩:=GB.ats
  rw?
  apply ⟨.inl ⟨rfl,_,bq.of XF⟩,?_⟩
  apply TJ ep3 mn3 ?_
  refine ⟨p,Lb,La,es,fl,ro,β,n,nb,g,s,rfl,GB,by try?,h1,hn,hnb,λz=>absurd h0 (by rw [z];decide),λ_ ln TT fo H4 s4 f4 YA=>?_⟩
  have el4:=s4 _ _ XF
  rw?
  apply cM el4 (by unfold lS;rw [gI];exact aN 0#c) ?_
  have TQ:∀{b:aq} {xs:List V},H4 b=some 0#o→upd H4 Ll (.lst (lS ls++[.ref ln])) b=some 0#o:=λe=>lO el4 e
  refine aC (mk:=.tup) 0#d λy H6 s6 n6 e6=>?_
  refine k y Ll Lt (ls++[(ln,TT,fo)]) yw (ls.map (·.2)) fl ro g s TT fo H6 (λb o e=>s6 _ _ (bf 0#N nl0 _ _ e)) e6 nl0 nt0 (s6 _ _ ?_) (vK.tv (λ{b xs} e=>s6 _ _ e) (((hL3.tv λ{b xs} e=>s4 _ _ e).snoc f4).tv TQ)) 0#d (s6 _ _ ?_) (λx hx=>s6 _ _ (TQ (s4 _ _ (XN x hx)))) hTr YC YA (by rw [gI];exact ll) lt
  ·rw [av];simp [lS]
  ·rw [aK (j4 nlt)];exact s4 _ _ Yr
def FE (ks:List (Rat×Rat)) (i:Nat):Rat:=((ks[i]?).map (·.1)).getD 0
def MJ (ks:List (Rat×Rat)) (i:Nat):Rat:=((ks[i]?).map (·.2)).getD 0
def xAt (ks:List (Rat×Rat)) (i:Nat):Rat:=(MJ ks (i+1)-MJ ks i)/(FE ks i-FE ks (i+1))
def jm (ks:List (Rat×Rat)) (t0 t1:Int) (i:Nat):Rat×Rat:=
 if i=0 then ((t0:Rat),FE ks 0*(t0:Rat)+MJ ks 0) else if i<ks.length then (xAt ks (i-1),FE ks (i-1)*xAt ks (i-1)+MJ ks (i-1)) else ((t1:Rat),FE ks (ks.length-1)*(t1:Rat)+MJ ks (ks.length-1))
def IZ (ks:List (Rat×Rat)) (t0 t1:Int) (i:Nat):Rat×Rat×Rat×Rat:=((jm ks t0 t1 i).1,(jm ks t0 t1 i).2,(jm ks t0 t1 (i+1)).1,(jm ks t0 t1 (i+1)).2)
theorem mY (ls:List Ln):(lS ls).length=ls.length:=gI ..
theorem Io {i:Nat} (h:(lS ls)[i]?=some v):∃x,ls[i]?=some x∧v=.ref x.1:=by
 unfold lS at h
 rw [kE] at h
 cases e:ls[i]? with
 | none=>rw [e] at h;cases h
 | some x=>rw [e] at h;cases h;exact ⟨x,rfl,rfl⟩
theorem Qu {i:Nat} (h:ls[i]?=some x):(lS ls)[i]?=some (.ref x.1):=by
 unfold lS
 rw [kE,h]
 rfl
theorem afm {ls:List Ln} (h:ls[i]?=some x):FE (ls.map (·.2)) i=x.2.1∧MJ (ls.map (·.2)) i=x.2.2:=by
 unfold FE MJ
 rw [kE,h]
 exact 0#U
theorem Ui (xs:List V):j8 xs (some 1) none=xs.drop 1:=by
 unfold j8
 rw [show (1:Int)=((1:Nat):Int) from rfl,HT.Ct,show HT.G2 xs.length xs.length none=xs.length from rfl]
 rcases abZ 1 xs.length with z | z
 ·rw [Br z]
  exact Mh (by rw [mO];exact dS _)
 ·rw [abo z,Q5 z,Q5 (dS _)]
  simp
inductive JS (vs:List V) (H:Hp) (Q:VK) (E_:XK):Prop where
 | mk (p:aq) (T f:Rat) (t:Int) (n:Nat):vs=[.ref p,.int t]→jJ H p T f n→Sz n t→1≤n→n≤1300→(∀(y:aq) (H':Hp),ao H H'→jJ H' y (t:Rat) (T*(t:Rat)+f) (6*n+3)→Q (.ref y) H')→JS vs H Q E_
inductive JJ (vs:List V) (H:Hp) (Q:VK) (E_:XK):Prop where
 | mk (l:aq) (ls:List Ln) (t0 t1:Int) (n:Nat):vs=[.ref l,.int t0,.int t1]→H l=some (.lst (lS ls))→vK H ls n→0<ls.length→ls.length≤900→Sz n t0→Sz n t1→1≤n→n≤1300→(∀i,i+1<ls.length→FE (ls.map (·.2)) i≠FE (ls.map (·.2)) (i+1))→(∀(R:aq) (ps:List Pc) (H':Hp),ao H H'→H R=none→H' R=some (.lst (ps.map λx=>V.ref x.1))→AllP H' ps (6*n+3)→ps.map (·.2)=(gD ls.length).map (IZ (ls.map (·.2)) t0 t1)→Q (.ref R) H')→JJ vs H Q E_
theorem LR:fz 2 [cQ,dU] wN:=0#a
theorem LD (F:fO K "point_on" wN f fd) (ju:acm P w K mg base):bh P w K mg base dm 6 f fd [cQ,dU] JS:=by
 refine F.eU LR λcdv A outer s H vs Q E hr h=>?_
 obtain ⟨p,TT,fo,t,n,rfl,hL,zt,h1,hn,k⟩:=h
 apply bF ⟨_,(aD (aX (bW (bL (bW (bL 0#n au)) (bZ ju hr 0#h (bW (bL 0#n au))))))),?_⟩
 refine aC (mk:=.tup) 0#d λa H1 s1 n1 e1=>?_
 have fa:dF H1 a (t:Rat) n:=⟨t,1,e1,⟨by decide,by simp,by grind⟩,zt,qV h1⟩
 rw?
 apply aC (mk:=.tup) 0#d λb H2 s2 n2 e2=>?_
 apply ⟨p,b,TT,fo,(t:Rat),n,n,rfl,hL.QV (s1.trans s2),uJ e2 zt h1,by try?,λz H3 s3 f3=>?_⟩
 refine aC (mk:=.tup) 0#d λy H4 s4 n4 e4=>?_
 exact k y H4 (s1.trans (s2.trans 0#N)) ⟨a,z,e4,(fa.up (s2.trans 0#N)).mono 0#c,(f3.up s4).mono 0#c⟩
theorem r9:fz 3 ["links",cV,cY,"points"] oF:=0#a
theorem B0 (F:fO K "pieces_along" oF f fd) (T:Txt mg) (qM:Dn P w K mg base 6 "point_on" [cQ,dU] JS) (MO:Dn P w K mg base 6 "meet" [cQ,aG] O5):bh P w K mg base dm 7 f fd ["links",cV,cY] JJ:=by
 refine F.eU r9 λcdv A outer s H vs Q E hr h=>?_
 obtain ⟨l,ls,t0,t1,n,rfl,hl,hL,h0,kR,z0,z1,h1,hn,hne,k⟩:=h
 generalize hks:ls.map (·.2)=ks at *
 have Sq:ks.length=ls.length:=by rw [← hks,gI]
 have lat:∀{i:Nat} {x:Ln},ls[i]?=some x→FE ks i=x.2.1∧MJ ks i=x.2.2:=λ{i x} h=>by rw [← hks];exact afm h
 obtain ⟨x0,g0⟩:∃x,ls[0]?=some x:=⟨ls[0],jY h0⟩
 obtain ⟨xl,gl⟩:∃x,ls[ls.length-1]?=some x:=⟨ls[ls.length-1],jY 0#c⟩
 apply bF ⟨_,(ah (aL 3 r9.nd (dO (dZ (bZ qM hr (Jd.iL K 0#h) 0#n)))) (ah (fm (Jd.KC K 0#A (oW (O:=[cQ,"behind"]) (N':=[]) (cap:=[]) rfl (Jd.DK K rfl T.aep (bL 0#h (rW (TM K) 0#h (rY au) rX))) (λ_ _ _ _ _=>(Jd.TH K (n:=2) rfl (iH (cB (i:=0) (show kD [("line":Str),("behind":Str)] by decide +kernel) rfl 0#k) (iH (cB (i:=1) (show kD [("line":Str),("behind":Str)] by decide +kernel) rfl 0#k) tK)))) (λ_ _ _ _ _=>oX) (λ_ _ _ _ _=>(iA MO 0#z rfl (fL 0#h (fL 0#n gH bP) bP) (he:=bP) (hpl:=(cO bP cR)))) rfl trivial rfl 0#e rfl 0#e)) (hs:=eK)) (ah (fm (ia K 0#A (bZ qM hr (bO (gU K) 0#h (gF dH au) 0#g) 0#q)) (hs:=eK)) (aD (aX (oW (O:=["start","end"]) (N':=[]) (cap:=[]) rfl (Jd.DK K rfl T.aep (bL 0#A (rW (TM K) 0#A (rY au) rX))) (λ_ _ _ _ _=>(Jd.TH K (n:=2) rfl (iH (cB (i:=0) (show kD [("start":Str),("end":Str)] by decide +kernel) rfl 0#k) (iH (cB (i:=1) (show kD [("start":Str),("end":Str)] by decide +kernel) rfl 0#k) tK)))) (λ_ _ _ _ _=>oX) (λ_ _ _ _ _=>(aF (aeB K) 0#h 0#n)) rfl trivial rfl 0#e rfl 0#e)))))),?_⟩
 apply dg hl (iG (j:=0) (Qu g0)) ?_
 apply ⟨x0.1,x0.2.1,x0.2.2,t0,n,rfl,hL x0 (mT g0),z0,h1,hn,λy0 H1 s1 f1=>?_⟩
 refine aC (mk:=.lst) 0#d λPT H2 s2 n2 e2=>?_
 have gV:=s1.trans s2
 have nPT:H PT=none:=s1.free n2
 rw?
 apply ⟨.inl ⟨rfl,_,bq.of e2⟩,?_⟩
 apply VT ?_
 refine ⟨_,rfl,1,rfl,l,_,rfl,bq.of (gV _ _ hl),λP1 nP1=>?_⟩
 rw [Ui]
 have s3:ao H2 (upd H2 P1 (.lst ((lS ls).drop 1))):=bf 0#t nP1
 have e3:upd H2 P1 (.lst ((lS ls).drop 1)) P1=some (.lst ((lS ls).drop 1)):=av
 generalize upd H2 P1 (.lst ((lS ls).drop 1))=H3 at *
 have qu:=gV.trans s3
 rw?
 refine ⟨l,P1,_,_,rfl,bq.of (qu _ _ hl),bq.of e3,?_⟩
 refine zE (Km:=ls.length-1) (by rw [mY];try?) (by rw [mO,mY];try?) (.inr (by rw [mO,mY];try?)) (λH9 s9=>⟨bq.of ((qu.trans s9) _ _ hl),bq.of (s9 _ _ e3)⟩) 0#c (λc ys G=>∃qs:List Ln,ys=lS qs∧vK G qs (6*n+3)∧qs.map (·.2)=(gD c).map λi=>jm ks t0 t1 (i+1)) ⟨[],rfl,λx hx=>absurd hx 0#d,rfl⟩ ?_ ?_
 ·rintro D c v v' ys H9 xg pp lF NN N0 hh0 hD eD s9 rf epp hc hv hv' hy ⟨qs,rfl,hqs,hmap⟩ kY kN
  obtain ⟨x,gx,rfl⟩:=Io hv
  rw [rQ,Hr] at hv'
  obtain ⟨x',Yy,rfl⟩:=Io hv'
  have VY:=qu.trans (s9.trans rf)
  obtain ⟨l1,l2⟩:=lat gx
  obtain ⟨l3,l4⟩:=lat Yy
  have hc':c+1<ls.length:=(nH.mp Yy).1
  have ne:x.2.1≠x'.2.1:=by rw [← l1,← l3];exact hne c hc'
  apply DS hh0 epp ?_
  apply cI ?_
  refine ⟨x.1,x'.1,_,_,_,_,n,rfl,(hL x (mT gx)).QV VY,(hL x' (mT Yy)).QV VY,h1,hn,λz=>absurd z ne,λ_ z a b Pw B4 e11 fa fb=>?_⟩
  have pe:jm ks t0 t1 (c+1)=((x'.2.2-x.2.2)/(x.2.1-x'.2.1),x.2.1*((x'.2.2-x.2.2)/(x.2.1-x'.2.1))+x.2.2):=by
   unfold jm xAt
   rw [if_neg 0#b,if_pos 0#b,G8,l1,l2,l3,l4]
  refine kY _ Pw B4 ⟨qs++[(z,jm ks t0 t1 (c+1))],by simp [lS],λy hy'=>?_,?_⟩
  ·rcases fK.mp hy' with w | w
   ·exact (hqs y w).tv λ{b xs} e=>(yd (rf.trans B4)) _ _ e
   ·obtain rfl:y=(z,jm ks t0 t1 (c+1)):=by simpa using w
    rw [pe]
    have ln:jJ Pw z ((x'.2.2-x.2.2)/(x.2.1-x'.2.1)) (x.2.1*((x'.2.2-x.2.2)/(x.2.1-x'.2.1))+x.2.2) (6*n+3):=⟨a,b,e11,fa.mono 0#c,fb⟩
    exact ln.tv λ{b xs} e=>gA ((rf.trans B4) _ _ eD) e
  ·rw [jD,hmap,AQ,jD]
   rfl
 rintro D ys H4 hD eD s4 hy ⟨qs,rfl,hqs,hmap⟩
 have Ai:=qu.trans s4
 have e24:=0#N _ _ e2
 have f14:=f1.QV (s2.trans 0#N)
 have ahH:vK H4 qs (6*n+3):=hqs.tv λ{b xs} e=>jG _ _ e
 have hql:qs.length=ls.length-1:=by
  have:=congrArg oK hmap
  simpa using this
 rw?
 refine GY e24 eD (by rw [mY];exact nA (aN (by show 1+qs.length≤1000;try?))) ?_
 have t5:∀{b:aq} {xs:List V},H4 b=some 0#o→upd H4 PT (.lst ([.ref y0]++lS qs)) b=some 0#o:=λe=>lO e24 e
 have e5:upd H4 PT (.lst ([.ref y0]++lS qs)) PT=some (.lst (lS ((y0,jm ks t0 t1 0)::qs))):=by rw [av];rfl
 have s5:ao H (upd H4 PT (.lst ([.ref y0]++lS qs))):=bf Ai nPT
 have p0:jm ks t0 t1 0=((t0:Rat),x0.2.1*(t0:Rat)+x0.2.2):=by
  unfold jm
  rw [if_pos rfl,(lat g0).1,(lat g0).2]
 have hA5:vK (upd H4 PT (.lst ([.ref y0]++lS qs))) ((y0,jm ks t0 t1 0)::qs) (6*n+3):=λy hy'=>by
  rcases pZ.mp hy' with w | w
  ·subst w
   rw [p0]
   exact f14.tv t5
  ·exact (ahH y w).tv t5
 generalize upd H4 PT (.lst ([.ref y0]++lS qs))=H5 at *
 rw?
 apply ⟨.inl ⟨rfl,_,bq.of e5⟩,?_⟩
 refine dg (s5 _ _ hl) (v:=.ref xl.1) ?_ ?_
 ·unfold sI
  rw [uU (m:=ls.length-1) (by rw [mY];try?)]
  exact Qu gl
 rw?
 refine ⟨xl.1,xl.2.1,xl.2.2,t1,n,rfl,(hL xl (mT gl)).QV s5,z1,h1,hn,λyl H6 s6 f6=>?_⟩
 have e6:=s6 _ _ e5
 rw?
 refine cM e6 (by rw [mY];exact aN (by show qs.length+1≤1000;try?)) ?_
 have pn:jm ks t0 t1 ls.length=((t1:Rat),xl.2.1*(t1:Rat)+xl.2.2):=by
  unfold jm
  rw [if_neg 0#b,if_neg 0#b,Sq,(lat gl).1,(lat gl).2]
 have t7:∀{b:aq} {xs:List V},H6 b=some 0#o→upd H6 PT (.lst (lS ((y0,jm ks t0 t1 0)::qs)++[.ref yl])) b=some 0#o:=λe=>lO e6 e
 have e7:upd H6 PT (.lst (lS ((y0,jm ks t0 t1 0)::qs)++[.ref yl])) PT=some (.lst (lS ((y0,jm ks t0 t1 0)::qs++[(yl,jm ks t0 t1 ls.length)]))):=by rw [av];simp [lS]
 have s7:ao H (upd H6 PT (.lst (lS ((y0,jm ks t0 t1 0)::qs)++[.ref yl]))):=bf (s5.trans s6) nPT
 have hA7:vK (upd H6 PT (.lst (lS ((y0,jm ks t0 t1 0)::qs)++[.ref yl]))) ((y0,jm ks t0 t1 0)::qs++[(yl,jm ks t0 t1 ls.length)]) (6*n+3):=by
  refine vK.snoc ((hA5.tv λ{b xs} e=>s6 _ _ e).tv t7) ?_
  show jJ _ yl _ _ _
  rw [pn]
  exact f6.tv t7
 have hm7:((y0,jm ks t0 t1 0)::qs++[(yl,jm ks t0 t1 ls.length)]).map (·.2)=(gD (ls.length+1)).map (jm ks t0 t1):=by
  rw [jD,Bu,hmap,AQ,jD]
  congr 1
  rw [show ls.length=(ls.length-1)+1 by try?,List.range_succ_eq_map,Bu,se,G8]
  rfl
 generalize aiL:(y0,jm ks t0 t1 0)::qs++[(yl,jm ks t0 t1 ls.length)]=pts at *
 generalize upd H6 PT (.lst (lS ((y0,jm ks t0 t1 0)::qs)++[.ref yl]))=H7 at *
 have hpl:pts.length=ls.length+1:=by
  have:=congrArg oK hm7
  simpa using this
 have pat:∀{i:Nat} {x:Ln},pts[i]?=some x→x.2=jm ks t0 t1 i:=λ{i x} h=>by
  have hi:i<pts.length:=(nH.mp h).1
  have e1:(pts.map (·.2))[i]?=some x.2:=by rw [kE,h];rfl
  rw [hm7,kE,E3 0#c] at e1
  exact (qE e1).symm
 rw?
 apply VT ?_
 refine ⟨_,rfl,1,rfl,PT,_,rfl,bq.of e7,λP8 nP8=>?_⟩
 rw [Ui]
 have s8:ao H7 (upd H7 P8 (.lst ((lS pts).drop 1))):=bf 0#t nP8
 have e8:upd H7 P8 (.lst ((lS pts).drop 1)) P8=some (.lst ((lS pts).drop 1)):=av
 generalize upd H7 P8 (.lst ((lS pts).drop 1))=H8 at *
 rw?
 refine ⟨PT,P8,_,_,rfl,bq.of (s8 _ _ e7),bq.of e8,?_⟩
 refine zE (Km:=ls.length) (by rw [mY];try?) (by rw [mO,mY];try?) (.inr (by rw [mO,mY];try?)) (λH9 s9=>⟨bq.of ((s8.trans s9) _ _ e7),bq.of (s9 _ _ e8)⟩) 0#c (λc ys G=>∃ps:List Pc,ys=(ps.map λx=>V.ref x.1)∧AllP G ps (6*n+3)∧ps.map (·.2)=(gD c).map (IZ ks t0 t1)) ⟨[],rfl,λx hx=>absurd hx 0#d,rfl⟩ ?_ ?_
 ·rintro D' c v v' ys H9 xg pp lF NN N0 hh0 hD' PZ s9 rf epp hc hv hv' hy ⟨ps,rfl,hps,hmp⟩ kY kN
  obtain ⟨x,gx,rfl⟩:=Io hv
  rw [rQ,Hr] at hv'
  obtain ⟨x',Yy,rfl⟩:=Io hv'
  have V0:=s8.trans (s9.trans rf)
  obtain ⟨a1,b1,ex,fa1,fb1⟩:=(hA7 x (mT gx)).QV V0
  obtain ⟨a2,b2,ex',fa2,fb2⟩:=(hA7 x' (mT Yy)).QV V0
  apply DS hh0 epp ?_
  apply cI ?_
  refine VN ex ex' ?_
  refine aC (mk:=.tup) 0#d λz Pw B4 n11 e11=>?_
  refine kY _ Pw B4 ⟨ps++[(z,IZ ks t0 t1 c)],by simp,λy hy'=>?_,?_⟩
  ·rcases fK.mp hy' with w | w
   ·exact (hps y w).mv λ{b xs} e=>(yd (rf.trans B4)) _ _ e
   ·obtain rfl:y=(z,IZ ks t0 t1 c):=by simpa using w
    have q1:=pat gx
    have q2:=pat Yy
    have pc:xw Pw (z,IZ ks t0 t1 c) (6*n+3):=by
     unfold IZ
     rw [← q1,← q2]
     exact ⟨a1,b1,a2,b2,e11,fa1.up B4,fb1.up B4,fa2.up B4,fb2.up B4⟩
    exact pc.mv λ{b xs} e=>gA ((rf.trans B4) _ _ PZ) e
  ·rw [jD,hmp,AQ,jD]
   rfl
 rintro D' ys H9 hD' PZ s9 hy ⟨ps,rfl,hps,hmp⟩
 rw?
 exact k D' ps H9 (s7.trans (s8.trans s9)) ((s7.trans s8).free hD') PZ (λx hx=>(hps x hx).mv λ{b xs} e=>jG _ _ e) hmp
def CG (es:List En) (β:Rat) (k fl ro:Nat) (L:Rat×Rat):Prop:=(∀i,fl≤i→i<k→cS es L.1 i-β≤L.2)∧∀i,ro≤i→i<k→L.2≤cS es L.1 i+β
theorem rR.M3 (hk:k≤es.length) (h:rR (es.take k) β fl ro m q G f a b):CG es β k fl ro (G,f):=by
 have tl:(es.take k).length=k:=by rw [oQ];simp?
 refine ⟨λi h1 h2=>?_,λi h1 h2=>?_⟩
 ·have:=h.lo i h1 (by rw [tl];exact h2)
  rw [iB h2] at this
  exact this
 ·have:=h.hi i h1 (by rw [tl];exact h2)
  rw [iB h2] at this
  exact this
theorem rS.M3 (hk:k≤es.length) (h:rS (es.take k) β fl ro m q S f a b):CG es β k fl ro (S,f):=by
 have tl:(es.take k).length=k:=by rw [oQ];simp?
 refine ⟨λi h1 h2=>?_,λi h1 h2=>?_⟩
 ·have:=h.lo i h1 (by rw [tl];exact h2)
  rw [iB h2] at this
  exact this
 ·have:=h.hi i h1 (by rw [tl];exact h2)
  rw [iB h2] at this
  exact this
theorem qc.M3 (h:yY es fl ro β g s) (iy:0≤β) (hN:qc es β fl g s T f):CG es β es.length fl ro (T,f):=by
 rcases hN with ⟨hc,lo,ex⟩ | ⟨eg,es',eT,ef⟩
 ·refine ⟨lo,?_⟩
  rcases hc with eg | ⟨eg,es'⟩
  ·obtain ⟨g1,g2⟩:=h.hiG eg
   exact (Gp iy h.FZ g1 g2 lo ex).1
  ·obtain ⟨g1,g2⟩:=h.loS es'
   exact (Gu iy h.FZ g1 g2 lo ex).1
 ·have h2:=h.two.mpr ⟨eg,es'⟩
  refine ⟨λi h1 hi=>?_,λi h1 hi=>?_⟩
  ·obtain rfl:i=fl:=by have:=h.lt 0#b;simp?
   show cS es T i-β≤f
   unfold cS
   rw [eT,ef]
   grind
  ·have:=h.lt 0#b
   obtain rfl:i=fl:=by simp?
   show f≤cS es T i+β
   unfold cS
   rw [eT,ef]
   grind
def Rel (es:List En) (z:Bool×Nat×Nat×Nat) (L0 L1:Rat×Rat):Prop:=z.2.2.1<z.2.2.2∧z.2.2.2<es.length ∧
 if z.1=true then L0.1*(mo es z.2.2.1:Rat)+L0.2≤L1.1*(mo es z.2.2.1:Rat)+L1.2∧L1.1*(mo es z.2.2.2:Rat)+L1.2<L0.1*(mo es z.2.2.2:Rat)+L0.2
 else L1.1*(mo es z.2.2.1:Rat)+L1.2≤L0.1*(mo es z.2.2.1:Rat)+L0.2∧L0.1*(mo es z.2.2.2:Rat)+L0.2<L1.1*(mo es z.2.2.2:Rat)+L1.2
inductive Ch (es:List En):List (Rat×Rat)→List (Bool×Nat×Nat×Nat)→Rat×Rat→Prop where
 | one {L:Rat×Rat}:Ch es [] [] L
 | more {ks:List (Rat×Rat)} {ts:List (Bool×Nat×Nat×Nat)} {L0 L1:Rat×Rat} {z:Bool×Nat×Nat×Nat} (h:Ch es ks ts L0) (hR:Rel es z L0 L1):Ch es (ks++[L0]) (ts++[z]) L1
theorem Yb (hk:k<es.length) (h:rR (es.take k) β fl ro (mo es k) (wo es k) G f a b) (hF:CG es β (k+1) b k L):Rel es (true,a,b,k) (G,f) L:=by
 have tl:(es.take k).length=k:=by rw [oQ];simp?
 have hb:=h.lb
 rw [tl] at hb
 have eb:=h.eb
 rw [iB hb] at eb
 obtain ⟨i,i1,i2,ei⟩:=h.off
 have li:=h.lo i i1 i2
 have f1:=hF.1 b (dS _) 0#b
 have f2:=hF.2 k (dS _) 0#b
 unfold cS at eb f1 f2
 refine ⟨hb,hk,?_⟩
 rw [if_pos rfl]
 refine ⟨by show G*(mo es b:Rat)+f≤L.1*(mo es b:Rat)+L.2;grind,?_⟩
 show L.1*(mo es k:Rat)+L.2<G*(mo es k:Rat)+f
 grind
theorem Ye (hk:k<es.length) (h:rS (es.take k) β fl ro (mo es k) (wo es k) S f a b) (hF:CG es β (k+1) k b L):Rel es (false,a,b,k) (S,f) L:=by
 have tl:(es.take k).length=k:=by rw [oQ];simp?
 have hb:=h.lb
 rw [tl] at hb
 have eb:=h.eb
 rw [iB hb] at eb
 obtain ⟨i,i1,i2,ei⟩:=h.off
 have li:=h.hi i i1 i2
 have f1:=hF.2 b (dS _) 0#b
 have f2:=hF.1 k (dS _) 0#b
 unfold cS at eb f1 f2
 refine ⟨hb,hk,?_⟩
 rw [if_neg fQ]
 refine ⟨by show L.1*(mo es b:Rat)+L.2≤S*(mo es b:Rat)+f;grind,?_⟩
 show S*(mo es k:Rat)+f<L.1*(mo es k:Rat)+L.2
 grind
theorem Tr.ch (h:Tr es β k fl ro ks ts):∀L,CG es β k fl ro L→Ch es ks ts L:=by
 induction h with
 | nil=>exact λL _=>.one
 | stay h hk hP Qd hN ih=>exact λL hF=>ih L ⟨λi a b=>hF.1 i a 0#b,λi a b=>hF.2 i a 0#b⟩
 | cap h hk hP hC ih=>exact λL hF=>.more (ih _ (hC.M3 (nA hk))) (Yb hk hC hF)
 | PK h hk hP hn hC ih=>exact λL hF=>.more (ih _ (hC.M3 (nA hk))) (Ye hk hC hF)
theorem Tr.len (h:Tr es β k fl ro ks ts):ks.length=ts.length∧ks.length≤k:=by
 induction h with
 | nil=>exact ⟨rfl,dS _⟩
 | stay h hk hP Qd hN ih=>exact ⟨ih.1,by simp?⟩
 | cap h hk hP hC ih=>exact ⟨by rw [fh,fh,ih.1];rfl,by rw [fh];show _+1≤_;simp?⟩
 | PK h hk hP hn hC ih=>exact ⟨by rw [fh,fh,ih.1];rfl,by rw [fh];show _+1≤_;simp?⟩
theorem Rel.ne (hr:rising es)  (h:Rel es z L0 L1):L0.1≠L1.1:=by
 obtain ⟨h1,h2,h3⟩:=h
 intro e
 split at h3
 ·rw [e] at h3
  grind
 ·rw [e] at h3
  grind
theorem Dj (h:i<ks.length):FE (ks++[L]) i=FE ks i∧MJ (ks++[L]) i=MJ ks i:=by
 unfold FE MJ
 rw [vn h]
 exact 0#U
theorem Lm:FE (ks++[L]) ks.length=L.1∧MJ (ks++[L]) ks.length=L.2:=by
 unfold FE MJ
 simp
theorem Ch.sep (hr:rising es)  (h:Ch es ks ts L):∀i,i<ks.length→FE (ks++[L]) i≠FE (ks++[L]) (i+1):=by
 induction h with
 | one=>exact λi hi=>absurd hi (Cc _)
 | @more ks ts L0 L1 z h hR ih=>
   intro i hi
   rw [fh] at hi
   have hi':i<ks.length+1:=hi
   by_cases e:i=ks.length
   ·subst e
    have e1:FE (ks++[L0]++[L1]) (ks.length+1)=L1.1:=by
     have:=(Lm (ks:=ks++[L0]) (L:=L1)).1
     rw [fh] at this
     exact this
    rw [e1,(Dj (by rw [fh];show ks.length<ks.length+1;simp?)).1,(Lm).1]
    exact hR.ne hr
   ·have q1:=(Dj (ks:=ks++[L0]) (L:=L1) (i:=i) (by rw [fh];exact hi')).1
    have q2:=(Dj (ks:=ks++[L0]) (L:=L1) (i:=i+1) (by rw [fh];show i+1<ks.length+1;simp?)).1
    rw [q1,q2]
    exact ih i 0#b
def RJ (H:Hp) (β:Rat) (N:Nat) (r:List En) (z:List Pc×List X6):Prop:=AllP H z.1 N∧(∀x∈z.2,T3 H r x)∧∃(ks:List (Rat×Rat)) (L:Rat×Rat) (fl ro:Nat) (g s:Option Rat),Tr r β r.length fl ro ks (z.2.map (·.2))∧yY r fl ro β g s∧qc r β fl g s L.1 L.2∧z.1.map (·.2)=(gD (ks.length+1)).map (IZ (ks++[L]) (mo r 0) (mo r (r.length-1)))
theorem RJ.tv (t:∀{b:aq} {xs:List V},H b=some 0#o→H' b=some 0#o) (h:RJ H β N r z):RJ H' β N r z:=⟨λx hx=>(h.1 x hx).mv t,λx hx=>t (h.2.1 x hx),h.2.2⟩
def tM (zs:List (List Pc×List X6)):List V:=(zs.map λz=>z.1.map λx=>V.ref x.1).flatten
def Ij (zs:List (List Pc×List X6)):List V:=(zs.map λz=>z.2.map λx=>V.ref x.1).flatten
inductive yo (C:aq) (vs:List V) (H:Hp) (Q:VK) (E_:XK):Prop where
 | mk (l pb:aq) (es:List En) (β:Rat) (n nb:Nat):vs=[.ref l,.ref pb]→H l=some 0#s→Row H es n→rising es→es.length≤40→dF H pb β nb→0≤β→1≤n→n≤1500→(5*n+4*nb≤7900∧nb≤1000)→5*n+3*nb+7≤1300→(∀(y X Z:aq) (zs:List (List Pc×List X6)) (H':Hp),ao H H'→H' y=some (.tup [.ref X,.ref Z])→H X=none→H Z=none→X≠Z→H' X=some (.lst (tM zs))→H' Z=some (.lst (Ij zs))→gK (RJ H' β (6*(5*n+3*nb+7)+3)) (parts dh es es.length) zs→Q (.ref y) H')→yo C vs H Q E_
section
variable {P:jA} {w:fN} {K:cj} {mg:Str→Option aJ} {base:cP} {f aB:aq} {fd:jW}
theorem Bb:∀i:Nat,(parts s es i).flatten=(es.take i).filter s
 | 0=>by simp [parts]
 | i+1=>by
   have ih:=Bb (s:=s) (es:=es) i
   unfold parts
   cases e:es[i]? with
   | none=>
     dsimp only
     rw [ih,sC,e]
     simp
   | some x=>
     have tk:es.take (i+1)=es.take i++[x]:=by rw [sC,e];rfl
     rw [tk,Ca]
     dsimp only
     split
     ·rename_i hs
      split
      ·rename_i hr
       obtain ⟨t,r,hp⟩:=tT hr
       rw [← ih,hp]
       simp [hs]
      ·rw [Bl,ih]
       simp [hs]
     ·rename_i hs
      rw [ih]
      simp [hs]
theorem M4 {α:Type} {l:List (List α)} (i:Nat):(l.take i).flatten.length≤l.flatten.length:=by
 conv=>rhs;rw [← MG i l]
 rw [Bl,fh]
 simp?
theorem qv:fz 2 [b9,aO,"telling","paper","run",dN] D0:=0#a
theorem SS (F:fO K "joined" D0 f fd) (T:Txt mg) (qN:Dn P w K mg base 1 "runs" [b9] Ex) (vP:Dn P w K mg base 8 "links_of" ["run",aO] (JP aB)) (nN:Dn P w K mg base 7 "pieces_along" ["links",cV,cY] JJ):bh P w K mg base dm 9 f fd [b9,aO] (yo aB):=by
 refine F.eU qv λcdv A outer s H vs Q E hr h=>?_
 obtain ⟨l,pb,es,β,n,nb,rfl,hl,hR,d9,mX,hb,iy,h1,hn,hnb,hM,k⟩:=h
 apply bF ⟨_,(ah (aL 2 qv.nd (dO gH)) (ah (aL 3 qv.nd (dO gH)) (ah (iP gR rfl (eE K (Jd.c1 qN hr 0#h)) (cB (i:=4) qv.nd rfl 0#k) (ah (aL 5 qv.nd (bZ vP hr (aa 4) 0#n)) (ah (fm (Jd.KC K 0#q (Jd.c3 nN hr (aH K (aa 5)) (aH K (Jd.iL K (aa 4))) (aH K (bO (gU K) (aa 4) (gF dH au) 0#g)))) (hs:=eK)) (aD (fm (Jd.KC K 0#A (aH K (aa 5))) (hs:=eK)))))) (aD (aX (bW (bL 0#q 0#A))))))),?_⟩
 apply aC (mk:=.lst) 0#d λX H1 s1 n1 e1=>?_
 refine aC (mk:=.lst) 0#d λZ H2 s2 n2 e2=>?_
 have gV:=s1.trans s2
 have SI:X≠Z:=λz=>by rw [← z,e1] at n2;cases n2
 have nZ0:H Z=none:=s1.free n2
 rw?
 apply fq (jb ?_)
 refine ⟨l,es,n,rfl,gV _ _ hl,hR.up gV,mX,λTT ls H3 s3 E8 hls ahz _=>?_⟩
 have hll:ls.length=(parts dh es es.length).length:=by rw [← hls,gI]
 obtain ⟨a1,a2⟩:=E8.own (s2 _ _ e1)
 obtain ⟨b1,b2⟩:=E8.own e2
 have hF:∀i,((parts dh es es.length).take i).flatten.length≤40:=λi=>by
  have q1:=M4 (l:=parts dh es es.length) i
  rw [Bb,jt] at q1
  have q2:(es.filter dh).length≤es.length:=Mm ..
  try?
 refine ⟨TT,rfl,⟨_,bq.of E8.at_⟩,d8 (xs:=lrefs ls) (λi σ H4=>Py λ(zs:List (List Pc×List X6)) (v5 v6:Option V)=>σ=[some 0#O,some (.ref pb),some (.ref X),some (.ref Z),v5,v6]∧ao H H4∧LL H2 H4 TT ls∧H4 X=some (.lst (tM zs))∧H4 Z=some (.lst (Ij zs))∧(tM zs).length≤2*((parts dh es es.length).take i).flatten.length∧(Ij zs).length≤((parts dh es es.length).take i).flatten.length∧gK (RJ H4 β (6*(5*n+3*nb+7)+3)) ((parts dh es es.length).take i) zs) ?_ ?_ ?_ ?_⟩
 ·exact ⟨[],none,none,rfl,gV.trans s3,E8,(s2.trans s3) _ _ e1,s3 _ _ e2,lX _,dS _,trivial⟩
 ·rintro i σ H4 _ ⟨zs,v5,v6,rfl,s4,Cg,_⟩
  exact bq.of Cg.at_
 ·rintro i x σ H4 hx ⟨zs,v5,v6,rfl,s4,Cg,eX,eZ,hz1,hz2,hJ⟩
  refine c8 λM B RR hM' _ _=>?_
  obtain ⟨x,gx,rfl⟩:=qh hx
  have hi:i<ls.length:=(nH.mp gx).1
  have Tv:=mT gx
  have hp:(parts dh es es.length)[i]?=some x.2:=by rw [← hls,kE,gx];rfl
  obtain ⟨o1,o2,o3⟩:=kT es.length x.2 (mT hp)
  rw [jt] at o3
  obtain ⟨_,ex,_⟩:=Cg.each x Tv
  have hx1:1≤x.2.length:=E4.mpr o1
  have afh:x.2.length≤40:=dR o3.length_le mX
  have hRx:Row H4 x.2 n:=λz hz=>hR.up s4 z (o3.subset hz)
  have hrx:rising x.2:=d9.sublist o3
  have tkF:((parts dh es es.length).take (i+1)).flatten.length=((parts dh es es.length).take i).flatten.length+x.2.length:=by
   rw [Bs,hp,Bl,fh]
   simp
  have hF1:=hF (i+1)
  rw?
  refine ⟨x.1,pb,x.2,β,n,nb,rfl,ex,hRx,o2,hrx,hx1,by try?,hb.up s4,iy,h1,hn,hnb,λy5 Ll Lt ln yw ks fl ro g s T5 f5 H5 s5 e5 nl5 nt5 eL5 hA5 hmap Uq hT5 hTr hP YA hk5 ht5=>?_⟩
  have hch:=hTr.ch (T5,f5) (YA.M3 hP iy)
  have hsep:=hch.sep hrx
  have ahB:ln.length=ks.length+1:=by
   have:=congrArg oK hmap
   simpa using this
  have Js:=s4.trans s5
  have hL5:=Cg.up s5
  obtain ⟨_,ex5,_⟩:=hL5.each x Tv
  obtain ⟨xa,ga,fa⟩:=dG (hRx.up s5) o2 (show 0<x.2.length by try?)
  obtain ⟨xb,gb,fb⟩:=dG (hRx.up s5) o2 (show x.2.length-1<x.2.length by try?)
  obtain ⟨va,ea,_,zma⟩:=id fa
  obtain ⟨vb,eb,_,zmb⟩:=id fb
  rw?
  apply ⟨.inl ⟨rfl,_,bq.of (s5 _ _ eX)⟩,?_⟩
  apply dg ex5 (Cf ga) ?_
  apply dg ex5 (HC gb) ?_
  refine ⟨Ll,ln,mo x.2 0,mo x.2 (x.2.length-1),5*n+3*nb+7,rfl,eL5,hA5,by try?,by try?,zma.mono 0#c,zmb.mono 0#c,by try?,hM,?_,λR6 ps H6 s6 nR6 eR6 hP6 hm6=>?_⟩
  ·intro j hj
   rw [hmap]
   exact hsep j 0#c
  rw [hmap,ahB] at hm6
  have s56:=s5.trans s6
  have eX6:=s56 _ _ eX
  have aiK:ps.length=ks.length+1:=by
   have:=congrArg oK hm6
   simpa using this
  have e56:=s6 _ _ e5
  rw?
  refine GY eX6 eR6 (by rw [gI];exact nA (aN 0#c)) ?_
  have tp7:∀{b:aq} {xs:List V},H6 b=some 0#o→upd H6 X (.lst (tM zs++ps.map λx=>V.ref x.1)) b=some 0#o:=λe=>lO eX6 e
  have eX7:upd H6 X (.lst (tM zs++ps.map λx=>V.ref x.1)) X=some (.lst (tM (zs++[(ps,yw)]))):=by rw [av];simp [tM]
  have nZX:Z≠X:=j4 SI
  have eZ7:upd H6 X (.lst (tM zs++ps.map λx=>V.ref x.1)) Z=some (.lst (Ij zs)):=by rw [aK nZX];exact s56 _ _ eZ
  have ahW:Lt≠X:=λz=>by rw [z,eX] at nt5;cases nt5
  have eT7:upd H6 X (.lst (tM zs++ps.map λx=>V.ref x.1)) Lt=some (.lst (yw.map λx=>V.ref x.1)):=by rw [aK ahW];exact s6 _ _ Uq
  have hL7:LL H2 (upd H6 X (.lst (tM zs++ps.map λx=>V.ref x.1))) TT ls:=(Cg.up s56).other a1 a2
  have s07:ao H (upd H6 X (.lst (tM zs++ps.map λx=>V.ref x.1))):=bf (s4.trans s56) n1
  have e57:=tp7 e56
  generalize upd H6 X (.lst (tM zs++ps.map λx=>V.ref x.1))=H7 at *
  rw?
  apply ⟨.inl ⟨rfl,_,bq.of eZ7⟩,?_⟩
  refine GY eZ7 eT7 (by rw [gI];exact nA (aN 0#c)) ?_
  have tp8:∀{b:aq} {xs:List V},H7 b=some 0#o→upd H7 Z (.lst (Ij zs++yw.map λx=>V.ref x.1)) b=some 0#o:=λe=>lO eZ7 e
  have l1:(tM (zs++[(ps,yw)])).length=(tM zs).length+ps.length:=by simp [tM]
  have l2:(Ij (zs++[(ps,yw)])).length=(Ij zs).length+yw.length:=by simp [Ij]
  refine hM' _ _ ⟨zs++[(ps,yw)],_,_,rfl,bf s07 nZ0,hL7.other b1 b2,by rw [aK SI];exact eX7,by rw [av];simp [Ij],by rw [l1,tkF];try?,by rw [l2,tkF];try?,?_⟩
  rw [Bs,hp]
  refine nW (uT (λa b _ h=>h.tv λ{b xs} e=>tp8 (tp7 (s56 _ _ e))) hJ) ⟨λz hz=>((hP6 z hz).mv tp7).mv tp8,λz hz=>tp8 (tp7 (s6 _ _ (hT5 z hz))),ks,(T5,f5),fl,ro,g,s,hTr,hP,YA,hm6⟩
 ·rintro σ H4 ⟨zs,v5,v6,rfl,s4,Cg,eX,eZ,_,_,hJ⟩
  rw [fH,hll,jt] at hJ
  rw?
  refine aC (mk:=.tup) 0#d λy H5 s5 n5 e5=>?_
  exact k y X Z zs H5 0#W e5 n1 nZ0 SI (s5 _ _ eX) (s5 _ _ eZ) (uT (λa b _ h=>h.tv λ{b xs} e=>s5 _ _ e) hJ)
end
def qb (t w:Nat→Rat) (β:Rat) (k fl ro:Nat) (T f:Rat):Prop:=(∀i,fl≤i→i<k→w i-T*t i-β≤f)∧∀i,ro≤i→i<k→f≤w i-T*t i+β
structure CH (t w:Nat→Rat) (β:Rat) (k fl ro F:Nat):Prop where
 le:F≤ro
 below:∀T f,qb t w β k fl ro T f→∀i,F≤i→i<k→f≤w i-T*t i+β
 acB:∀T f,qb t w β k fl ro T f→∀i j,F≤i→i<j→j<k→∀x v:Rat,(∀m,m<k→t m<x)→T*x+f≤v→(w j-β)*(x-t i)≤(w i+β)*(x-t j)+v*(t j-t i)
theorem afj:CH t w β 0 0 0 0:=⟨dS _,λ_ _ _ i _ h=>absurd h (Cc _),λ_ _ _ i j _ _ h=>absurd h (Cc _)⟩
theorem U9 {T:Rat} (h1:ti<tk) (h2:tk<x) (hb:f≤wi-T*ti+β) (hl:wk-T*tk-β≤f) (hv:T*x+f≤v):(wk-β)*(x-ti)≤(wi+β)*(x-tk)+v*(tk-ti):=by
 have a1:0≤x-tk:=by grind
 have a2:0≤tk-ti:=by grind
 have a3:0≤x-ti:=by grind
 have m1:=AM (show T*ti+f≤wi+β by grind) a1
 have m2:=AM hv a2
 have m3:=AM (show wk-β≤T*tk+f by grind) a3
 grind
theorem Le (hr:∀i j,i<j→j<k+1→t i<t j) (hfl:fl≤k) (wg:ro≤k) (h:CH t w β k fl ro F):CH t w β (k+1) fl ro F:=by
 have old:∀{T f:Rat},qb t w β (k+1) fl ro T f→qb t w β k fl ro T f:=λhF=>⟨λi a b=>hF.1 i a 0#b,λi a b=>hF.2 i a 0#b⟩
 have bl:∀T f,qb t w β (k+1) fl ro T f→∀i,F≤i→i<k+1→f≤w i-T*t i+β:=λT f hF i h1 h2=>by
  by_cases e:i=k
  ·subst e
   exact hF.2 i wg 0#b
  ·exact h.below T f (old hF) i h1 0#b
 refine ⟨h.le,bl,λT f hF i j h1 h2 h3 x v hx hv=>?_⟩
 by_cases e:j=k
 ·subst e
  exact U9 (hr i j h2 0#b) (hx j 0#b) (bl T f hF i h1 0#b) (hF.1 j hfl 0#b) hv
 ·exact h.acB T f (old hF) i j h1 h2 0#b x v (λm hm=>hx m 0#b) hv
theorem Qh:CH t w β (k+1) b k k:=
 ⟨dS _,λT f hF i h1 h2=>hF.2 i h1 h2,λT f hF i j h1 h2 h3=>absurd h3 0#b⟩
theorem Qi (hr:∀i j,i<j→j<k+1→t i<t j) (h:CH t w β k fl ro F) (hF0:qb t w β k fl ro S f0) (hb1:ro≤b) (hb2:b<k) (eb:w b-S*t b+β=f0) (ek:f0<w k-S*t k-β):CH t w β (k+1) k b F:=by
 have key:∀T f,qb t w β (k+1) k b T f→S<T∧T*t b+f≤S*t b+f0∧S*t k+f0<T*t k+f:=λT f hF=>by
  have l1:=hF.1 k (dS _) 0#b
  have l2:=hF.2 b (dS _) 0#b
  have d:=hr b k hb2 0#b
  have a1:T*t b+f≤S*t b+f0:=by grind
  have a2:S*t k+f0<T*t k+f:=by grind
  refine ⟨oN.mp λz=>?_,a1,a2⟩
  have:=AM z (show 0≤t k-t b by grind)
  grind
 have bl:∀T f,qb t w β (k+1) k b T f→∀i,F≤i→i<k+1→f≤w i-T*t i+β:=λT f hF i h1 h2=>by
  by_cases e:b≤i
  ·exact hF.2 i e h2
  ·obtain ⟨q1,q2,q3⟩:=key T f hF
   have d:=hr i b 0#b 0#b
   have o:=h.below S f0 hF0 i h1 0#b
   have:=AM (MB q1) (show 0≤t b-t i by grind)
   grind
 refine ⟨dR h.le hb1,bl,λT f hF i j h1 h2 h3 x v hx hv=>?_⟩
 by_cases e:j=k
 ·subst e
  exact U9 (hr i j h2 0#b) (hx j 0#b) (bl T f hF i h1 0#b) (hF.1 j (dS _) 0#b) hv
 ·obtain ⟨q1,q2,q3⟩:=key T f hF
  refine h.acB S f0 hF0 i j h1 h2 0#b x v (λm hm=>hx m 0#b) ?_
  have dx:=hx k 0#b
  have:=AM (MB q1) (show 0≤x-t k by grind)
  grind
theorem Vi (hr:∀i j,i<j→j<k+1→t i<t j) (h:CH t w β k fl ro F) (hF0:qb t w β k fl ro S f0) (ek:S*t k+f0≤w k+β)  (h1:F≤i) (h2:i<j) (h3:j<k):w j*(t k-t i)-w i*(t k-t j)-w k*(t j-t i)≤2*β*(t k-t i):=by
 have:=h.acB S f0 hF0 i j h1 h2 h3 (t k) (w k+β) (λm hm=>hr m k hm 0#b) ek
 grind
inductive Gr (E:Nat→Nat→Prop):Nat→Nat→Nat→Prop where
 | nil:Gr E 0 0 0
 | no {k F n:Nat} (h:Gr E k F n) (he:¬E F k):Gr E (k+1) F n
 | yes {k F n:Nat} (h:Gr E k F n) (he:E F k):Gr E (k+1) k (n+1)
theorem Gr.uniq (h:Gr E k F n):∀{F' n':Nat},Gr E k F' n'→F=F'∧n=n':=by
 induction h with
 | nil=>intro F' n' h';cases h';exact 0#U
 | no h he ih=>
   intro F' n' h'
   cases h' with
   | no h2 XO=>exact ih h2
   | yes h2 XO=>
     obtain ⟨rfl,rfl⟩:=ih h2
     exact absurd XO he
 | yes h he ih=>
   intro F' n' h'
   cases h' with
   | no h2 XO=>
     obtain ⟨rfl,rfl⟩:=ih h2
     exact absurd he XO
   | yes h2 XO=>exact ⟨rfl,by rw [(ih h2).2]⟩
def Hig (es:List En) (β:Rat) (F k:Nat):Prop:=∃i j,F≤i∧i<j∧j<k∧2*β<sd es i j k
def MS (es:List En) (β:Rat) (F k:Nat):Prop:=∃i j,F≤i∧i<j∧j<k∧sd es i j k < -(2*β)
theorem V8 (hr:rising es)  (h1:i<j) (h2:j<k) (h3:k<es.length):sd es i j k*0#S=wo es j*0#S-wo es i*((mo es k:Rat)-(mo es j:Rat))-wo es k*((mo es j:Rat)-(mo es i:Rat)):=by
 have d:=jL hr (EU h1 h2) h3
 unfold sd dJ
 generalize hD:(mo es k:Rat)-(mo es i:Rat)=D at *
 have:D≠0:=by grind
 grind
theorem yY.line (h:yY ss fl ro β g s) (iy:0≤β) (h0:0<ss.length):∃L,CG ss β ss.length fl ro L:=by
 cases hg:g with
 | some G=>
   obtain ⟨g1,g2⟩:=h.hiG hg
   obtain ⟨q,p,a1,a2,a3,a4,e⟩:=id g1.2
   have e':=(ND h.FZ a2 a4).mp e
   refine ⟨(G,cS ss G q+β),λi hi hl=>?_,λi hi hl=>?_⟩
   ·have:=RO (a:=q) (b:=i) 0#B h.FZ g1.1 g2 a1 hi 0#b hl
    show cS ss G i-β≤cS ss G q+β
    grind
   ·have:=RO (a:=i) (b:=p) 0#B h.FZ g1.1 g2 hi a3 hl a4
    show cS ss G q+β≤cS ss G i+β
    grind
 | none=>
   cases hs:s with
   | some S=>
     obtain ⟨g1,g2⟩:=h.loS hs
     obtain ⟨q,p,a1,a2,a3,a4,e⟩:=id g1.2
     have e':=(Ic h.FZ a2 a4).mp e
     refine ⟨(S,cS ss S q-β),λi hi hl=>?_,λi hi hl=>?_⟩
     ·have:=RO (a:=p) (b:=i) 0#B h.FZ g2 g1.1 a3 hi a4 hl
      show cS ss S i-β≤cS ss S q-β
      grind
     ·have:=RO (a:=i) (b:=q) 0#B h.FZ g2 g1.1 hi a1 hl 0#b
      show cS ss S q-β≤cS ss S i+β
      grind
   | none=>
     have h2:=h.two.mpr ⟨hg,hs⟩
     refine ⟨(0,wo ss 0),λi hi hl=>?_,λi hi hl=>?_⟩
     ·obtain rfl:i=0:=by simp?
      show cS ss 0 0-β≤wo ss 0
      unfold cS
      grind
     ·obtain rfl:i=0:=by simp?
      show wo ss 0≤cS ss 0 0+β
      unfold cS
      grind
def xK (c:Bool):List (Bool×Nat×Nat×Nat)→Nat:=λts=>(ts.filter (λz=>z.1==c)).getLast?.elim 0 (·.2.2.2)
def cnt (c:Bool) (ts:List (Bool×Nat×Nat×Nat)):Nat:=(ts.filter (λz=>z.1==c)).length
theorem qR:xK c (ts++[(c,a,b,k)])=k∧cnt c (ts++[(c,a,b,k)])=cnt c ts+1:=by
 unfold xK cnt
 rw [Ca]
 simp
theorem oZ (h:d≠c):xK c (ts++[(d,a,b,k)])=xK c ts∧cnt c (ts++[(d,a,b,k)])=cnt c ts:=by
 unfold xK cnt
 rw [Ca]
 have:(d==c)=false:=by simpa using h
 simp [this]
theorem Yd (ts:List (Bool×Nat×Nat×Nat)):cnt true ts+cnt false ts=ts.length:=by
 unfold cnt
 induction ts with
 | nil=>rfl
 | cons z r ih=>
   obtain ⟨c,z⟩:=z
   cases c with
   | true=>
     rw [Mg (by rfl),Q4 0#d]
     simp only [Gg]
     simp?
   | false=>
     rw [Q4 0#d,Mg (by rfl)]
     simp only [Gg]
     simp?
theorem CZ (h:CG es β k fl ro L):qb (λi=>(mo es i:Rat)) (wo es) β k fl ro L.1 L.2:=⟨λi a b=>h.1 i a b,λi a b=>h.2 i a b⟩
theorem zF (h:CG es β k fl ro L):qb (λi=>(mo es i:Rat)) (λi=>- wo es i) β k ro fl (-L.1) (-L.2):=
 ⟨λi a b=>by
  have:=h.2 i a b
  unfold cS at this
  grind,λi a b=>by
  have:=h.1 i a b
  unfold cS at this
  grind⟩
theorem Tr.most (hr:rising es) (iy:0≤β)  (h:Tr es β k fl ro ks ts) :
 CH (λi=>(mo es i:Rat)) (wo es) β k fl ro (xK true ts)∧CH (λi=>(mo es i:Rat)) (λi=>- wo es i) β k ro fl (xK false ts)∧Gr (Hig es β) k (xK true ts) (cnt true ts)∧Gr (MS es β) k (xK false ts) (cnt false ts):=by
 have hrk:∀{k:Nat},k<es.length→∀i j,i<j→j<k+1→(λi=>(mo es i:Rat)) i<(λi=>(mo es i:Rat)) j:=λhk i j h1 h2=>sy.mpr (iC hr h1 0#b)
 have aaj:∀{k fl ro F:Nat} {T f:Rat},k<es.length→CH (λi=>(mo es i:Rat)) (wo es) β k fl ro F→qb (λi=>(mo es i:Rat)) (wo es) β k fl ro T f→T*(mo es k:Rat)+f≤wo es k+β→¬Hig es β F k:=λ{k fl ro F T f} hk hI hF ek ⟨i,j,h1,h2,h3,h4⟩=>by
  have:=Vi (hrk hk) hI hF ek h1 h2 h3
  have e:=V8 hr h2 h3 hk
  have m:=J8 h4 (jL hr (EU h2 h3) hk)
  grind
 have aak:∀{k fl ro F:Nat} {T f:Rat},k<es.length→CH (λi=>(mo es i:Rat)) (λi=>- wo es i) β k ro fl F→qb (λi=>(mo es i:Rat)) (λi=>- wo es i) β k ro fl T f→T*(mo es k:Rat)+f≤- wo es k+β→¬MS es β F k:=λ{k fl ro F T f} hk hI hF ek ⟨i,j,h1,h2,h3,h4⟩=>by
  have:=Vi (hrk hk) hI hF ek h1 h2 h3
  have e:=V8 hr h2 h3 hk
  have m:=J8 h4 (jL hr (EU h2 h3) hk)
  grind
 have aiB:∀{k i a b:Nat},k≤es.length→i<k→a<k→b<k→sd (es.take k) i a b=sd es i a b:=λhk hi ha hb=>by
  unfold sd
  rw [mZ hi,Cz hi,mZ ha,Cz ha,mZ hb,Cz hb]
 induction h with
 | nil=>exact ⟨afj,afj,.nil,.nil⟩
 | @stay k fl ro ls ts g s g' s' h hk hP Qd hN ih=>
   obtain ⟨i1,i2,g1,g2⟩:=ih
   have tl:(es.take k).length=k:=by rw [oQ];simp?
   have tl':(es.take (k+1)).length=k+1:=by rw [oQ];simp?
   have hfl:=hP.hfl
   have wg:=hP.wg
   rw [tl] at hfl wg
   obtain ⟨L,hL⟩:=Qd.line iy (by rw [tl'];simp?)
   rw [tl'] at hL
   have hL':CG es β (k+1) fl ro L:=⟨λi a b=>by have:=hL.1 i a b;rw [iB b] at this;exact this,λi a b=>by have:=hL.2 i a b;rw [iB b] at this;exact this⟩
   have hL0:CG es β k fl ro L:=⟨λi a b=>hL'.1 i a 0#b,λi a b=>hL'.2 i a 0#b⟩
   have u1:=hL'.1 k hfl 0#b
   have u2:=hL'.2 k wg 0#b
   unfold cS at u1 u2
   refine ⟨Le (hrk hk) hfl wg i1,Le (hrk hk) wg hfl i2,.no g1 ?_,.no g2 ?_⟩
   ·exact aaj hk i1 (CZ hL0) 0#B
   ·exact aak hk i2 (zF hL0) 0#B
 | @cap k fl ro a b ls ts s G f h hk hP hC ih=>
   obtain ⟨i1,i2,g1,g2⟩:=ih
   have tl:(es.take k).length=k:=by rw [oQ];simp?
   have hb:=hC.lb
   have hab:=hC.hab
   rw [tl] at hb
   have hF:=hC.M3 (nA hk)
   have eb:=hC.eb
   rw [iB hb] at eb
   obtain ⟨i,j1,j2,ej⟩:=hC.off
   have lj:=hC.lo i j1 j2
   obtain ⟨x,gx⟩:∃x,es[k]?=some x:=⟨es[k],jY hk⟩
   have low:f<wo es k-G*(mo es k:Rat)-β→False:=λz=>by grind
   have up:wo es k-G*(mo es k:Rat)+β<f:=by grind
   rw [(qR).1,(qR).2,(oZ 0#f).1,(oZ 0#f).2]
   have sdk:2*β<sd es a b k:=by
    refine af2 (T:=G) (f:=f) hr hab hb hk ?_ eb ?_
    ·have:=hC.ea
     rw [iB 0#b] at this
     exact this
    ·unfold cS
     grind
   refine ⟨Qh,?_,.yes g1 ⟨a,b,dR i1.le hC.ha,hab,hb,sdk⟩,.no g2 ?_⟩
   ·refine Qi (S:=-G) (f0:=-f) (hrk hk) i2 (zF hF) hC.hb hb ?_ ?_
    ·unfold cS at eb
     grind
    ·grind
   ·exact aak hk i2 (zF hF) (by show -G*(mo es k:Rat)+-f≤- wo es k+β;grind)
 | @PK k fl ro a b ls ts g S f h hk hP hn hC ih=>
   obtain ⟨i1,i2,g1,g2⟩:=ih
   have tl:(es.take k).length=k:=by rw [oQ];simp?
   have hb:=hC.lb
   have hab:=hC.hab
   rw [tl] at hb
   have hF:=hC.M3 (nA hk)
   have eb:=hC.eb
   rw [iB hb] at eb
   obtain ⟨i,j1,j2,ej⟩:=hC.off
   have lj:=hC.hi i j1 j2
   have up:f<wo es k-S*(mo es k:Rat)-β:=by grind
   rw [(qR).1,(qR).2,(oZ 0#f).1,(oZ 0#f).2]
   have sdk:sd es a b k < -(2*β):=by
    refine af3 (T:=S) (f:=f) hr hab hb hk ?_ eb ?_
    ·have:=hC.ea
     rw [iB 0#b] at this
     exact this
    ·unfold cS
     grind
   refine ⟨?_,Qh,.no g1 ?_,.yes g2 ⟨a,b,dR i2.le hC.ha,hab,hb,sdk⟩⟩
   ·refine Qi (S:=S) (f0:=f) (hrk hk) i1 (CZ hF) hC.hb hb ?_ ?_
    ·unfold cS at eb
     grind
    ·grind
   ·exact aaj hk i1 (CZ hF) (by show S*(mo es k:Rat)+f≤wo es k+β;grind)
def Seg (es:List Nn) (i:Nat) (ls:List (List Nn)) (c:List Nn):Prop:=(ls++[c]).filter (λr=>!r.isEmpty)=parts tP es i∧(bU tP es i=true↔c≠[])
theorem ZM (h:Seg es i ls c) (he:es[i]?=some e) (hs:tP e=false):Seg es (i+1) (ls++[c]) []:=by
 obtain ⟨h1,h2⟩:=h
 refine ⟨?_,?_⟩
 ·rw [i8 he hs,← h1,Ca (l₁:=ls++[c])]
  simp
 ·rw [gw he,hs]
  simp
theorem ad7 (h:Seg es i ls c) (he:es[i]?=some e) (hs:tP e=true):Seg es (i+1) ls (c++[e]):=by
 obtain ⟨h1,h2⟩:=h
 refine ⟨?_,?_⟩
 ·rw [Ca] at h1 ⊢
  cases hi:bU tP es i with
  | true=>
    have hc:=h2.mp hi
    have:(!c.isEmpty)=true:=by cases c with | nil=>exact absurd rfl hc | cons a b=>rfl
    rw [Bp,this,if_pos rfl,Xb] at h1
    rw [kc he hs hi h1.symm]
    simp
  | false=>
    have hc:c=[]:=J9 λz=>by rw [h2.mpr z] at hi;cases hi
    subst hc
    rw [i9 he hs hi,← h1]
    simp
 ·rw [gw he,hs]
  simp
structure VL (H H2:Hp) (T:aq) (ls:List (aq×List V)):Prop where
 new:H T=none
 at_:H2 T=some (.lst (ls.map λx=>V.ref x.1))
 each:∀x∈ls,H x.1=none∧H2 x.1=some (.lst x.2)∧x.1≠T
 nd:(ls.map (·.1)).Nodup
theorem VL.up (h:VL H H2 T ls) (s:ao H2 H3):VL H H3 T ls:=⟨h.new,s _ _ h.at_,λx hx=>let ⟨a,b,c⟩:=h.each x hx;⟨a,s _ _ b,c⟩,h.nd⟩
theorem VL.push (h:VL H H2 T ls) (hR:H R=none) (eR:H2 R=some (.lst rn)) (hT:R≠T) (hl:∀x∈ls,x.1≠R):VL H (upd H2 T (.lst (ls.map (λx=>V.ref x.1)++[.ref R]))) T (ls++[(R,rn)]):=by
 refine ⟨h.new,by rw [av];simp,λx hx=>?_,?_⟩
 ·rcases fK.mp hx with z | z
  ·obtain ⟨a,b,c⟩:=h.each x z
   exact ⟨a,by rw [aK c];exact b,c⟩
  ·obtain rfl:x=(R,rn):=by simpa using z
   exact ⟨hR,by rw [aK hT];exact eR,hT⟩
 ·rw [jD]
  refine Rk.mpr ⟨h.nd,by simp,λa ha b hb=>?_⟩
  obtain ⟨x,hx,rfl⟩:=jB.mp ha
  obtain rfl:b=R:=by simpa using hb
  exact hl x hx
theorem VL.last (h:VL H H2 T (ls++[(L,c)])):VL H (upd H2 L (.lst (c++[x]))) T (ls++[(L,c++[x])]):=by
 obtain ⟨hL,eL,nL⟩:=h.each (L,c) 0#d
 have hnd:=h.nd
 rw [jD] at hnd
 have hne:∀y∈ls,y.1≠L:=λy hy z=>(Rk.mp hnd).2.2 y.1 (jB.mpr ⟨y,hy,rfl⟩) L 0#d z
 refine ⟨h.new,?_,λy hy=>?_,by rw [jD];exact hnd⟩
 ·rw [aK (j4 nL)]
  have:=h.at_
  simpa using this
 ·rcases fK.mp hy with z | z
  ·obtain ⟨a,b,c'⟩:=h.each y (G7 _ z)
   exact ⟨a,by rw [aK (hne y z)];exact b,c'⟩
  ·obtain rfl:y=(L,c++[x]):=by simpa using z
   exact ⟨hL,av,nL⟩
abbrev Nls:=List (aq×List Nn)
def SK (ls:Nls):List (aq×List V):=ls.map λx=>(x.1,bH x.2)
inductive JQ (vs:List V) (H:Hp) (Q:VK) (E_:XK):Prop where
 | mk (l:aq) (es:List Nn) (m n:Nat):vs=[.ref l]→H l=some (.lst (bH es))→iN H es m n→es.length≤40→(∀(D:aq) (ls:Nls) (H':Hp),ao H H'→H D=none→H' D=some (.lst (ls.map λx=>V.ref x.1))→(∀x∈ls,H x.1=none∧H' x.1=some (.lst (bH x.2)))→ls.map (·.2)=parts tP es es.length→Q (.ref D) H')→JQ vs H Q E_
theorem uA:fz 1 [aM,"_law_parts_here",eG] wJ:=0#a
theorem Lz (F:fO K "_law_runs" wJ f fd) (T:Txt mg):bh P w K mg base dm 1 f fd [aM] JQ:=by
 refine F.eU uA λcdv A outer s H vs Q E hr h=>?_
 obtain ⟨l,es,m,n,rfl,hl,hes,hn,k⟩:=h
 apply bF ⟨_,(ah (aL 1 uA.nd (dO (dZ (dO gH)))) (ah (iP gR rfl (eE K 0#h) (cB (i:=2) uA.nd rfl 0#k) (aD (cy (bD tS (aH K 0#q) fU 0#K) (aD (fm (ia K 0#n (dO gH)) (hs:=eK))) (aD (fm (ia K (bO (gU K) 0#n (gF dH au) 0#g) 0#q) (hs:=eK)))))) (aD (aX (oW (O:=["_law_part"]) (N':=[]) (cap:=[]) rfl (eE K 0#n) (λ_ _ _ _ _=>(cB (i:=0) (show kD [("_law_part":Str)] by decide +kernel) rfl 0#k)) (λ_ _ _ _ _=>(vz (bD fM (iz (afl K) rfl T.i7 abC (fL 0#h gH bP) (he:=bP) (hpl:=cR)) au 0#K))) (λ_ _ _ _ _=>0#h) rfl trivial rfl 0#e rfl 0#e))))),?_⟩
 apply aC (mk:=.lst) 0#d λL0 H1 s1 n1 e1=>?_
 refine aC (mk:=.lst) 0#d λTT H2 s2 n2 e2=>?_
 have gV:=s1.trans s2
 rw?
 apply fq (jb ?_)
 refine ⟨l,rfl,⟨_,bq.of (gV _ _ hl)⟩,d8 (xs:=bH es) (λi σ H3=>XE λ(ls:Nls) (L:aq) (c:List Nn) (v:Option V)=>σ=[some 0#O,some (.ref TT),v]∧ao H H3∧VL H H3 TT (SK ls++[(L,bH c)])∧ls.length≤i∧c.length≤i∧Seg es i (ls.map (·.2)) c) ?_ ?_ ?_ ?_⟩
 ·refine ⟨[],L0,[],none,rfl,gV,⟨s1.free n2,e2,λx hx=>?_,by simp [SK]⟩,dS _,dS _,rfl,by simp [bU]⟩
  obtain rfl:x=(L0,[]):=by simpa [SK,bH] using hx
  exact ⟨n1,s2 _ _ e1,λz=>by rw [← z] at n2;exact absurd (n2.symm.trans e1) 0#d⟩
 ·rintro i σ H3 _ ⟨ls,L,c,v,rfl,s3,_⟩
  exact bq.of (s3 _ _ hl)
 ·rintro i x σ H3 hx ⟨ls,L,c,v,rfl,s3,hV,hls,hc,UT⟩
  refine c8 λM B R hM _ _=>?_
  obtain ⟨e,he,rfl⟩:=nY hx
  have hi:i<es.length:=(nH.mp he).1
  have fe:=((hes e (mT he)).up s3).1
  have hat:=hV.at_
  rw?
  apply 0#F
  cases hs:e.2.2 with
  | none=>
    have hs':tP e=false:=by unfold tP;rw [hs];rfl
    apply cI ?_
    apply ⟨.inl ⟨rfl,_,bq.of hat⟩,?_⟩
    apply aC (mk:=.lst) 0#d λR2 H4 s4 n4 e4=>?_
    have hV4:=hV.up s4
    refine cM hV4.at_ (by simp [SK];exact aN 0#c) ?_
    have hold:∀x∈SK ls++[(L,bH c)],x.1≠R2:=λx hx z=>by
     rw [← z,(hV.each x hx).2.1] at n4
     cases n4
    refine hM _ _ ⟨ls++[(L,c)],R2,[],_,rfl,bf 0#N hV.new,?_,by simp;try?,lX _,?_⟩
    ·have:=hV4.push (s3.free n4) e4 (λz=>by rw [z,hat] at n4;cases n4) hold
     rw [show SK (ls++[(L,c)])=SK ls++[(L,bH c)] by simp [SK]]
     exact this
    ·rw [jD]
     exact ZM UT he hs'
  | some z=>
    have hs':tP e=true:=by unfold tP;rw [hs];rfl
    apply bR ?_
    refine dg hat (v:=.ref L) (by rw [jD];exact X7) ?_
    have eL:=(hV.each (L,bH c) 0#d).2.1
    apply ⟨.inl ⟨rfl,_,bq.of eL⟩,?_⟩
    refine cM eL (by rw [bQ];exact aN 0#c) ?_
    refine hM _ _ ⟨ls,L,c++[e],_,rfl,bf s3 (hV.each (L,bH c) 0#d).1,?_,by try?,by simp;try?,ad7 UT he hs'⟩
    rw [← iQ]
    exact hV.last
 ·rintro σ H3 ⟨ls,L,c,v,rfl,s3,hV,hls,hc,UT⟩
  rw?
  apply jb ?_
  rw [bQ] at hls hc UT
  have hall:(SK ls++[(L,bH c)])=SK (ls++[(L,c)]):=by simp [SK]
  rw [hall] at hV
  have hat:=hV.at_
  generalize Ih:ls++[(L,c)]=us at *
  have hul:us.length≤41:=by rw [← Ih];simp;try?
  have eu:(SK us).map (λx=>V.ref x.1)=us.map λx=>V.ref x.1:=by unfold SK;rw [se];rfl
  rw [eu] at hat
  refine ⟨TT,rfl,⟨_,bq.of hat⟩,?_⟩
  refine c9 (xs:=us.map λx=>V.ref x.1) cC (λH4 s4=>bq.of (s4 _ _ hat)) (by rw [gI];try?) (λi ys G=>ys=((us.take i).filter λx=>!x.2.isEmpty).map λx=>V.ref x.1) rfl ?_ ?_
  ·rintro D i x ys H4 lF NN N0 h0 hD eD s4 hx hy rfl kY kN
   rw [kE] at hx
   obtain ⟨x,gx,rfl⟩:=Ka.mp hx
   have ex:=(hV.each (x.1,bH x.2) (jB.mpr ⟨x,mT gx,rfl⟩)).2.1
   have ts:=Kc (λx:aq×List Nn=>!x.2.isEmpty) us i x gx
   apply ic h0 ?_
   refine dW (.inl (bq.of (s4 _ _ ex))) ?_
   rw [bQ]
   rw?
   refine c6 0#J 0#J
   ·have vU:=dM c1
    rw?
    refine kY _ H4 0#t ?_
    have:(!x.2.isEmpty)=true:=by cases XR:x.2 with | nil=>rw [XR] at vU;exact absurd vU 0#d | cons a b=>rfl
    rw [ts,this,if_pos rfl,jD]
    rfl
   ·refine kN H4 0#t ?_
    have:(!x.2.isEmpty)=false:=by cases XR:x.2 with | nil=>rfl | cons a b=>rw [XR] at c1;exact absurd (je (show (0:Int)<(((a::b).length:Nat):Int) by rw [Gg];simp?)) c1
    rw [ts,this,if_neg fQ,nv]
  ·rintro D ys H4 hD eD s4 hy rfl
   rw [gI,jt] at eD
   refine k D _ H4 0#N (s3.free hD) eD (λx hx=>?_) ?_
   ·have hx':=hV.each (x.1,bH x.2) (jB.mpr ⟨x,(E5.mp hx).1,rfl⟩)
    exact ⟨hx'.1,s4 _ _ hx'.2.1⟩
   ·have e:=UT.1
    rw [← e,show ls.map (·.2)++[c]=us.map (·.2) by rw [← Ih];simp,Xc]
    rfl
def gh (hs:List Nn) (b:Int):List En:=hs.map λx=>(x.1,c7 b x.2)
theorem HR (hs:List Nn) (b:Int):(gh hs b).map (·.2)=hs.map (λx=>c7 b x.2):=by unfold gh;rw [se];rfl
theorem tF (hs:List Nn) (b:Int):(gh hs b).length=hs.length:=gI ..
theorem Uu:qO L 1 λ_=>0:=⟨rfl,λi j h1 h2=>by simp?,λj h1 h2=>by simp?⟩
theorem RX (h:qO L N t) (h1:1≤N) (hle:∀k,k<N→L k N→u≤t k+1) (hex:∃k,k<N∧L k N∧u=t k+1):qO L (N+1) λj=>if j=N then u else t j:=by
 refine ⟨?_,λi j hij hj hL=>?_,λj h0 hj=>?_⟩
 ·show (if 0=N then u else t 0)=0
  rw [if_neg 0#b]
  exact h.first
 ·show (if j=N then u else t j)≤(if i=N then u else t i)+1
  rw [if_neg (show i≠N by simp?)]
  by_cases e:j=N
  ·rw [if_pos e]
   subst e
   exact hle i hij hL
  ·rw [if_neg e]
   exact h.le i j hij 0#b hL
 ·by_cases e:j=N
  ·obtain ⟨k,hk,hL,hu⟩:=hex
   refine ⟨k,by simp?,by rw [e];exact hL,?_⟩
   show (if j=N then u else t j)=(if k=N then u else t k)+1
   rw [if_pos e,if_neg 0#b]
   exact hu
  ·obtain ⟨k,hk,hL,hu⟩:=h.ex j h0 0#b
   refine ⟨k,hk,hL,?_⟩
   show (if j=N then u else t j)=(if k=N then u else t k)+1
   rw [if_neg e,if_neg 0#b]
   exact hu
theorem Ny (N:Nat) (t:Nat→Int) (u:Int):jf N t++[.int u]=jf (N+1) λj=>if j=N then u else t j:=by
 unfold jf
 rw [AQ,jD]
 congr 1
 ·refine WS λj hj=>?_
  show V.int (t j)=V.int (if j=N then u else t j)
  rw [if_neg (mP (uN.mp hj))]
 ·simp
theorem uY (f:α→β) (s:β→Bool) (es:List α):∀i,(parts (λx=>s (f x)) es i).map (Ht f)=parts s (es.map f) i
 | 0=>rfl
 | i+1=>by
   have ih:=uY f s es i
   have hr:bU s (es.map f) i=bU (λx=>s (f x)) es i:=by
    unfold bU
    rw [kE]
    cases es[i-1]? <;> rfl
   cases e:es[i]? with
   | none=>
     have e':(es.map f)[i]?=none:=by rw [kE,e];rfl
     unfold parts
     rw [e,e']
     exact ih
   | some x=>
     have e':(es.map f)[i]?=some (f x):=by rw [kE,e];rfl
     cases hs:s (f x) with
     | false=>rw [i8 (s:=λx=>s (f x)) e hs,i8 e' hs,ih]
     | true=>
       cases hi:bU (λx=>s (f x)) es i with
       | false=>rw [i9 (s:=λx=>s (f x)) e hs hi,i9 e' hs (hr.trans hi),jD,ih];rfl
       | true=>
         obtain ⟨t,r,hp⟩:=tT hi
         rw [kc (s:=λx=>s (f x)) e hs hi hp,kc e' hs (hr.trans hi) (t:=t.map (Ht f)) (r:=r.map f) (by rw [← ih,hp,jD];rfl)]
         simp
theorem CW {γ:Type} {f:α→γ} {g:β→γ}:∀{as:List α} {bs:List β},as.map f=bs.map g→gK (λa b=>f a=g b) as bs
 | [],[],_=>trivial
 | _::_,_::_,h=>⟨(abR h).1,CW (abR h).2⟩
 | [],_::_,h=>nomatch h
 | _::_,[],h=>nomatch h
def TN (sg x:Int):Int:=if sg<0 then -(if sg=0 then (if x<0 then -x else x) else x) else (if sg=0 then (if x<0 then -x else x) else x)
def NE3 (hs:List Nn) (c sg:Int) (F k:Nat):Prop:=∃i j,F≤i∧i<j∧j<k∧2*c*(iJ hs k-iJ hs i)<TN sg (zQ hs i j k)
inductive O9 (vs:List V) (H:Hp) (Q:VK) (E_:XK):Prop where
 | mk (l:aq) (hs:List Nn) (a k:Nat) (c sg:Int) (m n:Nat):vs=[.ref l,.int (a:Int),.int (k:Int),.int c,.int sg]→H l=some (.lst (bH hs))→iN H hs m n→CA hs→k<hs.length→hs.length≤40→a≤k→Sz n c→m≤2000→n≤2000→(∀r:Bool,(r=true↔NE3 hs c sg a k)→Q (.bl r) H)→O9 vs H Q E_
inductive J0 (vs:List V) (H:Hp) (Q:VK) (E_:XK):Prop where
 | mk (l:aq) (hs:List Nn) (c sg:Int) (m n:Nat):vs=[.ref l,.int c,.int sg]→H l=some (.lst (bH hs))→iN H hs m n→CA hs→hs.length≤40→Sz n c→m≤2000→n≤2000→(∀F v:Nat,Gr (NE3 hs c sg) hs.length F v→Q (.int (v:Int)) H)→J0 vs H Q E_
theorem iR:fz 5 [cA,"_law_free",eY,aW,"_law_sign","_law_j","_law_i","_law_span","_law_stood"] wK:=0#a
abbrev Z0 P w K mg base:=Dn P w K mg base 1 "_law_stand" [eG,"_law_mid","_law_last"] EA
theorem LA (F:fO K "_law_turn" wK f fd) (T:Txt mg) (jR:Z0 P w K mg base):bh P w K mg base dm 2 f fd [cA,"_law_free",eY,aW,"_law_sign"] O9:=by
 refine F.eU iR λcdv A outer s H vs Q E hr h=>?_
 obtain ⟨l,hs,a,kk,c,sg,em,en,rfl,hl,hes,hS,hk,mX,hak,zc,hm,hn,k⟩:=h
 obtain ⟨xk,gk,ek,zk1,zk2⟩:=GN hes hS hk
 apply bF ⟨_,(ah (iP gR rfl (xJ rfl T.range (bL (aF bB 0#n au) 0#q)) (cB (i:=5) iR.nd rfl 0#k) (aD (iP gR rfl (xJ rfl T.range (bL 0#n (aa 5))) (cB (i:=6) iR.nd rfl 0#k) (ah (aL 7 iR.nd (aF bT (aH K (bO (gU K) 0#h 0#q 0#g)) (aH K (bO (gU K) 0#h (aa 6) 0#g)))) (ah (aL 8 iR.nd (Jd.c3 jR hr (bO (gU K) 0#h (aa 6) 0#g) (bO (gU K) 0#h (aa 5) 0#g) (bO (gU K) 0#h 0#q 0#g))) (ah (cy (bD fE (aa 4) au 0#K) (aD (aL 8 iR.nd (iz zA rfl T.zD AN (dZ (aa 8)) (he:=bP) (hpl:=cR)))) cG) (ah (cy (bD oh (aa 4) au 0#K) (aD (aL 8 iR.nd (gF dH (aa 8)))) cG) (aD (cy (bD fM (aa 8) (aF aS (aF aS au 0#A) (aa 7)) 0#K) (aD (aX lR)) cG))))))))) (aD (aX lR))),?_⟩
 apply fq (qZ ?_)
 refine ⟨_,_,rfl,⟨by lia,by lia,by lia,by lia⟩,dc (λm σ H3=>H3=H∧XE λv5 v6 v7 v8:Option V=>σ=[some 0#O,some (.int (a:Int)),some (.int (kk:Int)),some (.int c),some (.int sg),v5,v6,v7,v8]∧∀i j,a≤i→i<j→j<a+1+m→¬(2*c*(iJ hs kk-iJ hs i)<TN sg (zQ hs i j kk))) ?_ ?_ ?_⟩
 ·exact ⟨rfl,none,none,none,none,rfl,λi j h1 h2 h3=>by try?⟩
 ·rintro m σ H3 hm' ⟨rfl,v5,v6,v7,v8,rfl,hall⟩
  refine c8 λM Bk RR hM _ hR=>?_
  obtain ⟨xj,gj,ej,zj1,zj2⟩:=GN hes hS (show a+1+m<hs.length by try?)
  rw?
  apply fq (qZ ?_)
  refine ⟨_,_,rfl,⟨by lia,by lia,by lia,by lia⟩,dc (λn σ H4=>H4=H3∧Py λv6 v7 v8:Option V=>σ=[some 0#O,some (.int (a:Int)),some (.int (kk:Int)),some (.int c),some (.int sg),some (.int ((a:Int)+1+(m:Int))),v6,v7,v8]∧∀i,a≤i→i<a+n→¬(2*c*(iJ hs kk-iJ hs i)<TN sg (zQ hs i (a+1+m) kk))) ?_ ?_ ?_⟩
  ·exact ⟨rfl,v6,v7,v8,rfl,λi h1 h2=>by try?⟩
  ·rintro n σ H4 hn' ⟨rfl,v6,v7,v8,rfl,Dc⟩
   refine c8 λM2 Bk2 RR2 XM _ hR2=>?_
   obtain ⟨xi,gi,ei,zi1,zi2⟩:=GN hes hS (show a+n<hs.length by try?)
   rw?
   apply dg hl (jF gk rfl) ?_
   apply dg hl (jF gi 0#c) ?_
   apply dg hl (jF gi 0#c) ?_
   apply dg hl (jF gj 0#c) ?_
   apply dg hl (jF gk rfl) ?_
   refine ⟨xi.1,xj.1,xk.1,_,_,_,_,_,_,em,en,rfl,ei,ej,ek,zi1,zj1,zk1,zi2,zj2,zk2,by try?,?_⟩
   have zst:=adA zi1 zj1 zk1 zi2 zj2 zk2
   have eU:=ck ((show Sz 2 (2:Int) by decide).mul zc) (zk1.sub zi1) 0#c
   have ok1:=ck (show Sz 2 (2:Int) by decide) zc 0#c
   have yes:2*c*(iJ hs kk-iJ hs (a+n))<TN sg (zQ hs (a+n) (a+1+m) kk)→RR2 (.bl true) H4:=λc1=>hR2 _ _ (hR _ _ (k true ⟨λ_=>⟨a+n,a+1+m,by try?,by try?,by try?,c1⟩,λ_=>rfl⟩))
   have no:∀v7 v8:Option V,¬2*c*(iJ hs kk-iJ hs (a+n))<TN sg (zQ hs (a+n) (a+1+m) kk)→M2 [some 0#O,some (.int (a:Int)),some (.int (kk:Int)),some (.int c),some (.int sg),some (.int ((a:Int)+1+(m:Int))),some (.int ((a:Int)+(n:Int))),v7,v8] H4:=λv7 v8 c1=>XM _ _ ⟨rfl,_,v7,v8,rfl,λi h1 h2=>by
    by_cases e:i=a+n
    ·subst e
     exact c1
    ·exact Dc i h1 0#c⟩
   rw?
   rcases Int.lt_trichotomy sg 0 with hg | hg | hg
   ·rw [pY (show ¬sg=0 by simp?)]
    apply bR ?_
    rw [je hg]
    apply cI ?_
    have es:TN sg (zQ hs (a+n) (a+1+m) kk)=-zQ hs (a+n) (a+1+m) kk:=by unfold TN;rw [if_pos hg,if_neg 0#b]
    rw [es] at yes no
    exact c6 (λc1=>yes (dM c1)) (λc1=>no _ _ (jO (jr.mpr c1)))
   ·subst hg
    apply cI ?_
    apply bR ?_
    have es:TN 0 (zQ hs (a+n) (a+1+m) kk)=(if zQ hs (a+n) (a+1+m) kk<0 then -zQ hs (a+n) (a+1+m) kk else zQ hs (a+n) (a+1+m) kk):=by unfold TN;rw [if_neg 0#f,if_pos rfl]
    rw [es] at yes no
    exact c6 (λc1=>yes (dM c1)) (λc1=>no _ _ (jO (jr.mpr c1)))
   ·rw [pY (show ¬sg=0 by simp?)]
    apply bR ?_
    rw [pY (show ¬sg<0 by simp?)]
    apply bR ?_
    have es:TN sg (zQ hs (a+n) (a+1+m) kk)=zQ hs (a+n) (a+1+m) kk:=by unfold TN;rw [if_neg 0#b,if_neg 0#b]
    rw [es] at yes no
    exact c6 (λc1=>yes (dM c1)) (λc1=>no _ _ (jO (jr.mpr c1)))
  ·rintro σ H4 ⟨rfl,v6,v7,v8,rfl,Dc⟩
   refine hM _ _ ⟨rfl,_,_,_,_,rfl,λi j h1 h2 h3=>?_⟩
   by_cases e:j=a+1+m
   ·subst e
    exact Dc i h1 0#c
   ·exact hall i j h1 h2 0#c
 ·rintro σ H3 ⟨rfl,v5,v6,v7,v8,rfl,hall⟩
  rw?
  refine k false ⟨λz=>absurd z 0#f,?_⟩
  rintro ⟨i,j,h1,h2,h3,hp⟩
  exact absurd hp (hall i j h1 h2 0#c)
theorem jc:fz 3 [cA,aW,"_law_sign","_law_free","_law_found",eY] uw:=0#a
theorem IU (F:fO K "_law_turns" uw f fd) (T:Txt mg) (vO:Dn P w K mg base 2 "_law_turn" [cA,"_law_free",eY,aW,"_law_sign"] O9):bh P w K mg base dm 3 f fd [cA,aW,"_law_sign"] J0:=by
 refine F.eU jc λcdv A outer s H vs Q E hr h=>?_
 obtain ⟨l,hs,c,sg,em,en,rfl,hl,hes,hS,mX,zc,hm,hn,k⟩:=h
 apply bF ⟨_,(ah (aL 3 jc.nd au) (ah (aL 4 jc.nd au) (ah (iP gR rfl (xJ rfl T.range (bL au (fj K T.i7 0#h))) (cB (i:=5) jc.nd rfl 0#k) (aD (cy (qf (iA vO 0#z rfl (fL 0#h (Jd.a4 0#A (aa 5) 0#n 0#q) bP) (he:=bP) (hpl:=(cO bP (cO bP (cO bP (cO bP cR))))))) (ah (aL 4 jc.nd (aF bB (aa 4) au)) (aD (aL 3 jc.nd (aa 5)))) cG))) (aD (aX (aa 4)))))),?_⟩
 apply fq (qZ ?_)
 refine dW (.inl (bq.of hl)) ?_
 rw [bQ]
 rw?
 have Lr:∀F k,k<2→¬NE3 hs c sg F k:=λF k h2=>by
  rintro ⟨i,j,h1,h3,h4,_⟩
  simp?
 refine ⟨_,_,rfl,⟨by lia,by lia,by lia,by lia⟩,dc (λj σ H3=>H3=H∧Py λ(a m:Nat) (v5:Option V)=>σ=[some 0#O,some (.int c),some (.int sg),some (.int (a:Int)),some (.int (m:Int)),v5]∧a≤j+2∧Gr (NE3 hs c sg) (j+2) a m) ?_ ?_ ?_⟩
 ·exact ⟨rfl,0,0,none,rfl,by simp?,.no (.no .nil (Lr _ _ 0#b)) (Lr _ _ 0#b)⟩
 ·rintro j σ H3 hj ⟨rfl,a,m,v5,rfl,haj,hG⟩
  rw [show (2:Int)+(j:Int)=((j+2:Nat):Int) by try?]
  rw?
  apply ⟨l,hs,a,j+2,c,sg,em,en,rfl,hl,hes,hS,by try?,mX,haj,zc,hm,hn,λr hr'=>?_⟩
  cases r with
  | true=>
    apply cI ?_
    exact ⟨rfl,j+2,m+1,_,rfl,by try?,.yes hG (hr'.mp rfl)⟩
  | false=>
    apply bR ?_
    exact ⟨rfl,a,m,_,rfl,by try?,.no hG λz=>absurd (hr'.mpr z) 0#f⟩
 ·rintro σ H3 ⟨rfl,a,m,v5,rfl,haj,hG⟩
  rw?
  by_cases h2:2≤hs.length
  ·rw [show ((hs.length:Int)-2).toNat+2=hs.length by simp?] at hG
   exact k a m hG
  ·rw [show ((hs.length:Int)-2).toNat+2=2 by simp?] at hG
   obtain ⟨rfl,rfl⟩:=hG.uniq (.no (.no .nil (Lr _ _ 0#b)) (Lr _ _ 0#b))
   refine k 0 0 ?_
   rcases Mz hs.length 1 with z | z
   ·rw [show hs.length=0 by simp?]
    exact .nil
   ·rw [show hs.length=0+1 by simp?]
    exact .no .nil (Lr _ _ 0#b)
def upto (t:Int) (e:En):Bool:=decide (e.2.1≤t)
def fD (es:List En):Nat→Nat
 | 0=>0
 | i+1=>if (es[i]?).elim false (λe=>!dh e)=true then i+1 else fD es i
theorem zG (es:List En):∀i,fD es i≤i
 | 0=>dS _
 | i+1=>by
   unfold fD
   split
   ·exact dS _
   ·exact Bo (zG es i)
def mq (es:List En) (i:Nat):List Nat:=(gD i).filter λj=>(es[j]?).elim false λe=>!dh e
theorem Gz (es:List En):∀i,(mq es i=[]∧fD es i=0)∨∃g,(mq es i).getLast?=some g∧fD es i=g+1
 | 0=>.inl 0#U
 | i+1=>by
   have e:mq es (i+1)=mq es i++(if (es[i]?).elim false (λe=>!dh e)=true then [i] else []):=by
    unfold mq
    rw [AQ,Ca]
    congr 1
    simp only [Bp,Xb]
   unfold fD
   split
   ·rename_i h
    rw [e,if_pos h]
    exact .inr ⟨i,by simp,rfl⟩
   ·rename_i h
    rw [e,if_neg h,nv]
    exact Gz es i
theorem Ko {g:Nat} (h:js.getLast?=some g):sI (gM js) (-1)=some (.int (g:Int)):=by
 rw [List.getLast?_eq_getElem?] at h
 have hl:=(nH.mp h).1
 unfold sI
 rw [jT,uU (m:=js.length-1) 0#b]
 show (gM js)[js.length-1]?=_
 unfold gM
 rw [kE,h]
 rfl
theorem MY {m:Nat} (h:m≤xs.length):j8 xs none (some (m:Int))=xs.take m:=by
 have:=acD (xs:=xs) (n:=0) (m:=m) (lX _) h
 rw [abz,Nat.sub_zero] at this
 rw [← this]
 rfl
inductive AI (vs:List V) (H:Hp) (Q:VK) (E_:XK):Prop where
 | mk (l:aq) (es:List En) (t:Int) (n:Nat):vs=[.ref l,.int t]→H l=some 0#s→Row H es n→es.length≤40→(∀(D:aq) (H':Hp),ao H H'→H D=none→H' D=some (.lst (vals (es.filter (upto t))))→Q (.ref D) H')→AI vs H Q E_
inductive Er (vs:List V) (H:Hp) (Q:VK) (E_:XK):Prop where
 | mk (l:aq) (es:List En) (n:Nat):vs=[.ref l]→H l=some 0#s→Row H es n→es.length≤40→(∀(y A B:aq) (H':Hp),ao H H'→H' y=some (.tup [.ref A,.ref B])→H' A=some (.lst (vals (es.take (fD es es.length))))→H' B=some (.lst (vals (es.drop (fD es es.length))))→Q (.ref y) H')→Er vs H Q E_
theorem wW:fz 2 [b9,dU] kh:=0#a
theorem wz (F:fO K "settled_entries" kh f fd):bh P w K mg base dm 1 f fd [b9,dU] AI:=by
 refine F.eU wW λcdv A outer s H vs Q E hr h=>?_
 obtain ⟨l,es,t,n,rfl,hl,hes,hn,k⟩:=h
 apply bF ⟨_,(aD (aX (oW (O:=["entry"]) (N':=[dU]) (cap:=[1]) rfl (eE K 0#h) (λ_ _ _ _ _=>(cB (i:=0) (show kD [("entry":Str),("moment":Str)] by decide +kernel) rfl 0#k)) (λ_ _ _ _ _=>(vz (bD GP (bO (MI K) 0#h au 0#g) 0#n 0#K))) (λ_ _ _ _ _=>0#h) rfl 0#u rfl 0#e rfl 0#e))),?_⟩
 apply jb ?_
 refine ⟨l,rfl,⟨_,bq.of hl⟩,?_⟩
 refine c9 (xs:=vals es) cC (λH3 s3=>bq.of (s3 _ _ hl)) (by rw [aT];try?) (λi ys G=>ys=vals ((es.take i).filter (upto t))) rfl ?_ ?_
 ·rintro D i x ys H3 lF N N0 h0 hD eD s3 hx hy rfl kY kN
  obtain ⟨e,he,rfl⟩:=jd hx
  obtain ⟨u,ee,du,_⟩:=((hes e (mT he)).up s3).obj
  have ts:=Kc (upto t) es i e he
  apply ic h0 ?_
  refine c6 0#w 0#w
  ·have hs':upto t e=true:=je (dM c)
   rw [hs',if_pos rfl] at ts
   rw?
   exact kY _ H3 0#t (by rw [ts,← gQ])
  ·have hs':upto t e=false:=pY (jO (jr.mpr c))
   rw [hs',if_neg fQ,nv] at ts
   exact kN H3 0#t (by rw [ts])
 ·rintro D ys H3 hD eD s3 hy rfl
  rw [aT,jt] at eD
  exact k D H3 s3 hD eD
theorem lC:fz 1 ["settled","gaps","behind"] mG:=0#a
theorem zX (F:fO K "parted_at_gap" mG f fd) (T:Txt mg):bh P w K mg base dm 1 f fd ["settled"] Er:=by
 refine F.eU lC λcdv A outer s H vs Q E hr h=>?_
 obtain ⟨l,es,n,rfl,hl,hes,hn,k⟩:=h
 apply bF ⟨_,(ah (vv (O:=["place","entry"]) (N':=[]) (cap:=[]) (i:=1) lC.nd rfl 0#k rfl (Jd.Cp K rfl T.CY (dZ 0#h)) (λ_ _ _ _ _=>(Jd.TH K (n:=2) rfl (iH (cB (i:=0) (show kD [("place":Str),("entry":Str)] by decide +kernel) rfl 0#k) (iH (cB (i:=1) (show kD [("place":Str),("entry":Str)] by decide +kernel) rfl 0#k) tK)))) (λ_ _ _ _ _=>(vz (bD tS (bO (MI K) 0#n au 0#g) fU 0#K))) (λ_ _ _ _ _=>0#h) rfl trivial rfl 0#e rfl 0#e (by rfl)) (ah (aL 2 lC.nd (vA (bD fM (fj K T.i7 0#n) au 0#K) (aF bB (bO (gU K) 0#n (gF dH au) 0#g) au) au)) (aD (aX (bW (bL (rW (TM K) 0#h rX (rY 0#q)) (rW (TM K) 0#h (rY 0#q) rX))))))),?_⟩
 apply VO ?_
 refine ⟨l,_,rfl,bq.of hl,?_⟩
 refine MW (xs:=vals es) (λH3 s3=>bq.of (s3 _ _ hl)) (by rw [aT];try?) (λi ys G=>ys=gM (mq es i)) rfl ?_ ?_
 ·rintro D i x ys H3 H4 pp lF N N0 h0 hD eD s3 s4 ep hx hy rfl kY kN
  obtain ⟨e,he,rfl⟩:=jd hx
  obtain ⟨u,ee,du,_⟩:=((hes e (mT he)).up 0#N).obj
  have ts:mq es (i+1)=mq es i++(if (!dh e)=true then [i] else []):=by
   unfold mq
   rw [AQ,Ca]
   congr 1
   simp only [Bp,Xb,he,Option.elim]
  apply DS h0 ep ?_
  apply 0#F
  rw [du]
  cases hs:e.2.2.isSome with
  | true=>
    have hs':dh e=true:=hs
    rw [hs',if_neg 0#f,nv] at ts
    refine bR ?_
    exact kN H4 0#t (by rw [ts])
  | false=>
    have hs':dh e=false:=hs
    rw [hs',if_pos (show (!false)=true from rfl)] at ts
    apply cI ?_
    exact kY _ H4 0#t (by rw [ts,← qU])
 ·rintro D ys H3 hD eD s3 hy rfl
  rw [aT] at eD
  have hl3:=s3 _ _ hl
  have fin:∀b:Nat,b=fD es es.length→∀(v:V),v=.int (b:Int)→∀(A':aq) (H4:Hp),ao H3 H4→H4 A'=some (.lst (j8 (vals es) none (some (b:Int))))→∀(B':aq) (H5:Hp),ao H4 H5→H5 B'=some (.lst (j8 (vals es) (some (b:Int)) none))→∀(y:aq) (H6:Hp),ao H5 H6→H6 y=some (.tup [.ref A',.ref B'])→Q (.ref y) H6:=λb hb v hv A' H4 s4 eA B' H5 s5 eB y H6 s6 ey=>by
   have hle:b≤es.length:=hb▸zG es es.length
   rw [acE,show (vals es).drop b=vals (es.drop b) by unfold vals;rw [ES]] at eB
   rw [show j8 (vals es) none (some (b:Int))=vals (es.take b) by rw [MY (by rw [aT];exact hle)];unfold vals;rw [yU]] at eA
   subst hb
   exact k y A' B' H6 (s3.trans (s4.trans (s5.trans s6))) ey ((s5.trans s6) _ _ eA) (s6 _ _ eB)
  rw?
  refine dW (.inl (bq.of eD)) ?_
  rw [jT]
  rw?
  rcases Gz es es.length with ⟨e0,e1⟩ | ⟨g,e0,e1⟩
  ·rw [e0]
   refine bR ?_
   walk_at "vd"
   refine vB hl3 λA' H4 s4 n4 e4=>?_
   walk_at "vd"
   apply vB (s4 _ _ hl3) λB' H5 s5 n5 e5=>?_
   refine aC (mk:=.tup) 0#d λy H6 s6 n6 e6=>?_
   exact fin 0 e1.symm _ rfl A' H4 s4 e4 B' H5 s5 e5 y H6 s6 e6
  ·have hne:0<(mq es es.length).length:=by
    rcases Mn (mq es es.length) with z | ⟨_,_,z⟩
    ·rw [z] at e0;cases e0
    ·rw [z];simp
   rw [je (show (0:Int)<((mq es es.length).length:Int) by simp?)]
   apply cI ?_
   refine dg eD (Ko e0) ?_
   walk_at "vd"
   refine vB hl3 λA' H4 s4 n4 e4=>?_
   walk_at "vd"
   apply vB (s4 _ _ hl3) λB' H5 s5 n5 e5=>?_
   refine aC (mk:=.tup) 0#d λy H6 s6 n6 e6=>?_
   exact fin (g+1) e1.symm _ rfl A' H4 s4 e4 B' H5 s5 e5 y H6 s6 e6
theorem fZ (hc:decide (a=b)=c) (q:Q (.bl c) H):rEq (.str a) (.str b) H Q:=⟨rfl,by
 rw [show decide (V.str a=V.str b)=c from hc▸Hl.mpr ⟨λh=>V.str.inj h,λh=>congrArg V.str h⟩]
 exact q⟩
inductive Wy
 | ap | jo | sp | ch
def J5:Wy→Str
 | .ap => "apart"
 | .jo => "joined"
 | .sp => "spans"
 | .ch => "chain"
inductive u6 (C:aq) (vs:List V) (H:Hp) (Q:VK) (E_:XK):Prop where
 | mk (l pb:aq) (wy:Wy):vs=[.ref l,.str (J5 wy),.ref pb]→(wy=.ap→Cu [.ref l,.ref pb] H Q E0)→(wy=.jo→yo C [.ref l,.ref pb] H Q E0)→(wy=.sp→uF false [.ref l,.ref pb] H Q E0)→(wy=.ch→uF true [.ref l,.ref pb] H Q E0)→u6 C vs H Q E_
theorem OS:fz 3 [b9,"way",aO] Au:=0#a
theorem Oc (F:fO K "told_by" Au f fd) (Hv:Dn P w K mg base 9 "apart" [b9,aO] Cu) (CD:Dn P w K mg base 9 "joined" [b9,aO] (yo aB)) (Hz:Dn P w K mg base 8 "spans" [b9,aO] (uF false)) (Hw:Dn P w K mg base 8 "chain" [b9,aO] (uF true)):bh P w K mg base dm 10 f fd [b9,"way",aO] (u6 aB):=by
 refine F.eU OS λcdv A outer s H vs Q E hr h=>?_
 obtain ⟨l,pb,wy,rfl,h1,h2,h3,h4⟩:=h
 apply bF ⟨_,(ah (cy (bD fE 0#n mR 0#K) (aD (aX (bZ Hv hr 0#h 0#q))) cG) (ah (cy (bD fE 0#n mR 0#K) (aD (aX (bZ CD hr 0#h 0#q))) cG) (ah (cy (bD fE 0#n mR 0#K) (aD (aX (bZ Hz hr 0#h 0#q))) cG) (aD (aX (bZ Hw hr 0#h 0#q)))))),?_⟩
 cases wy with
 | ap=>
   refine fZ (c:=true) 0#e ?_
   refine 0#T
   apply cI ?_
   exact h1 rfl
 | jo=>
   refine fZ (c:=false) 0#e ?_
   refine 0#T
   apply bR ?_
   refine fZ (c:=true) 0#e ?_
   refine 0#T
   apply cI ?_
   exact h2 rfl
 | sp=>
   refine fZ (c:=false) 0#e ?_
   refine 0#T
   apply bR ?_
   refine fZ (c:=false) 0#e ?_
   refine 0#T
   apply bR ?_
   refine fZ (c:=true) 0#e ?_
   refine 0#T
   apply cI ?_
   exact h3 rfl
 | ch=>
   refine fZ (c:=false) 0#e ?_
   refine 0#T
   apply bR ?_
   refine fZ (c:=false) 0#e ?_
   refine 0#T
   apply bR ?_
   refine fZ (c:=false) 0#e ?_
   refine 0#T
   apply bR ?_
   exact h4 rfl
theorem AS (h:0<N):sI (jf N t) (-1)=some (.int (t (N-1))):=by
 unfold sI
 rw [nE,uU (m:=N-1) 0#b]
 show (jf N t)[N-1]?=_
 unfold jf
 rw [kE,E3 0#b]
 rfl
theorem EK (h:j<m-n):wo (piece es n m) j=wo es (n+j):=by unfold wo;rw [qo h]
theorem LU (hi:i<m-n) (hj:j<m-n) (hk:k<m-n):sd (piece es n m) i j k=sd es (n+i) (n+j) (n+k):=by
 unfold sd
 rw [xR hi,xR hj,xR hk,EK hi,EK hj,EK hk]
theorem LS (h:es.map (·.2)=es'.map (·.2)) (i j k:Nat):sd es i j k=sd es' i j k:=by
 unfold sd
 rw [(fW h i).1,(fW h i).2,(fW h j).1,(fW h j).2,(fW h k).1,(fW h k).2]
theorem qT (h:i<es.length):mo (es++xs) i=mo es i∧wo (es++xs) i=wo es i:=by
 unfold mo wo
 rw [vn h]
 exact 0#U
theorem Gr.congr (h:Gr E n F m):(∀F k,k<n→(E F k↔E' F k))→Gr E' n F m:=by
 induction h with
 | nil=>exact λ_=>.nil
 | no h he ih=>exact λu=>.no (ih λF k hk=>u F k 0#b) λz=>he ((u _ _ 0#b).mpr z)
 | yes h he ih=>exact λu=>.yes (ih λF k hk=>u F k 0#b) ((u _ _ 0#b).mp he)
theorem Gr.on (h:Gr E k F n):∀d,(∀k',k≤k'→k'<k+d→¬E F k')→Gr E (k+d) F n
 | 0,_=>h
 | d+1,u=>.no (Gr.on h d λk' a b=>u k' a 0#b) (u (k+d) 0#b 0#b)
def Pin (es:List En) (β:Rat) (F k:Nat):Prop:=∃i j,F≤i∧i<j∧j<k∧2*β<dP (sd es i j k)
theorem Cut.pin (hr:rising es) (iy:0≤β) (h1:1≤es.length) (h:Cut es (2*β) qs es.length):∃F v:Nat,Gr (Pin es β) es.length F v∧(qs.length:Int)=1+v:=by
 obtain ⟨pos,p0,pn,hq⟩:=h
 have hB:0≤2*β:=by grind
 have rp:∀n m,rising (piece es n m):=λn m=>hr.sublist ((yE _ _).trans (yF _ _))
 have ft:∀n m,m≤es.length→(BC (piece es n m) (2*β)↔∀i j k,n≤i→i<j→j<k→k<m→dP (sd es i j k)≤2*β):=λn m hm=>by
  rw [vY (rp n m) hB,kX hm]
  constructor
  ·intro z i j k a b c d
   have:=z (i-n) (j-n) (k-n) 0#b 0#b 0#b
   rw [LU 0#b 0#b 0#b,show n+(i-n)=i by simp?,show n+(j-n)=j by simp?,show n+(k-n)=k by simp?] at this
   exact this
  ·intro z i j k a b c
   rw [LU 0#b 0#b 0#b]
   exact z _ _ _ 0#b 0#b 0#b 0#b
 have hqi:∀i,i<qs.length→pos i<pos (i+1)∧pos (i+1)≤es.length∧(∀k,k<pos (i+1)→¬Pin es β (pos i) k)∧(pos (i+1)<es.length→Pin es β (pos i) (pos (i+1))):=λi hi=>by
  obtain ⟨a,b,c,d,e⟩:=hq i _ (jY hi)
  rw [c,ft _ _ b] at d
  refine ⟨a,b,λk hk ⟨x,y,u1,u2,u3,u4⟩=>absurd (d x y k u1 u2 u3 hk) (oN.mpr u4),λhlt=>?_⟩
  have:=e hlt
  rw [ft _ _ 0#b] at this
  refine J9 λnp=>this λx y k u1 u2 u3 u4=>kB.mp λz=>?_
  by_cases ek:k=pos (i+1)
  ·subst ek
   exact np ⟨x,y,u1,u2,u3,z⟩
  ·exact absurd (d x y k u1 u2 u3 0#b) (oN.mpr z)
 have h0:0<qs.length:=Nat.pos_of_ne_zero λz=>by rw [z,p0] at pn;simp?
 have all:∀i,i<qs.length→Gr (Pin es β) (pos (i+1)) (pos i) i:=by
  intro i
  induction i with
  | zero=>
    intro hi
    obtain ⟨a,b,c,d⟩:=hqi 0 hi
    rw [p0] at c ⊢
    have:=Gr.on (E:=Pin es β) .nil (pos (0+1)) λk' _ z=>c k' 0#b
    rw [ab0] at this
    exact this
  | succ i ih=>
    intro hi
    obtain ⟨a,b,c,d⟩:=hqi (i+1) hi
    obtain ⟨a',b',c',d'⟩:=hqi i 0#b
    have g:=Gr.yes (ih 0#b) (d' 0#b)
    have:=g.on (pos (i+1+1)-(pos (i+1)+1)) λk' _ z=>c k' 0#b
    rw [show pos (i+1)+1+(pos (i+1+1)-(pos (i+1)+1))=pos (i+1+1) by simp?] at this
    exact this
 have:=all (qs.length-1) 0#b
 rw [show qs.length-1+1=qs.length by simp?,pn] at this
 exact ⟨_,_,this,by simp?⟩
theorem G4 (h1:1≤es.length) (h:Told es β aI l) (hf:qO (jX es β aI) (es.length+bS aI) t):(l.length:Int)=max 1 (t (es.length+bS aI-1)):=by
 obtain ⟨t',ps,hf',hw,rfl⟩:=h
 have e:=HL hf hf' (es.length+bS aI-1) 0#b
 rw [gI,e]
 have lab:∀{L:Nat→Nat→Prop} {p:Nat} {ps:List (Nat×Nat)},Way L t' p ps→(ps.length:Int)=t' p:=λ{L p ps} h=>by
  induction h with
  | nil=>rw [hf'.first];rfl
  | @cons a p ps f w ih=>
    rw [fh,Kd]
    have:=f.2.2.1
    simp?
 have hl:=lab hw
 by_cases z:es.length+bS aI=1
 ·rw [if_pos z,z,RA,hf'.first]
  rfl
 ·rw [if_neg z]
  have pos:∀{L:Nat→Nat→Prop} {p:Nat} {ps:List (Nat×Nat)},Way L t' p ps→0<p→1≤ps.length:=λ{L p ps} h hp=>by
   cases h with
   | nil=>simp?
   | cons f w=>rw [fh,Kd];simp?
  have:=pos hw 0#b
  simp?
def RT (aI:Bool) (β:Rat) (es:List En) (d:Int):Prop:=∃t,qO (jX es β aI) (es.length+bS aI) t∧d=max 1 (t (es.length+bS aI-1))
def RC (wy:Wy) (β:Rat) (es:List En) (d:Int):Prop:=match wy with
 | .ap=>∃F v:Nat,Gr (Pin es β) es.length F v∧d=1+v
 | .jo=>∃F F' u v:Nat,Gr (Hig es β) es.length F u∧Gr (MS es β) es.length F' v∧d=1+u+v
 | .sp=>RT false β es d
 | .ch=>RT true β es d
theorem cK {es es':List En} (h:es.map (·.2)=es'.map (·.2)):es.length=es'.length:=by simpa using congrArg oK h
theorem RT.congr (h:es.map (·.2)=es'.map (·.2)) (g:RT aI β es d):RT aI β es' d:=by
 obtain ⟨t,a,b⟩:=g
 rw [Dh h,cK h] at a
 rw [cK h] at b
 exact ⟨t,a,b⟩
theorem Ae (h:es.map (·.2)=es'.map (·.2)):Pin es β=Pin es' β∧Hig es β=Hig es' β∧MS es β=MS es' β:=by
 unfold Pin Hig MS
 simp only [LS h]
 exact ⟨trivial,trivial,trivial⟩
theorem RC.congr (h:es.map (·.2)=es'.map (·.2)) (g:RC wy β es d):RC wy β es' d:=by
 cases wy with
 | ap=>
   obtain ⟨F,v,a,b⟩:=g
   rw [(Ae h).1,cK h] at a
   exact ⟨F,v,a,b⟩
 | jo=>
   obtain ⟨F,F',u,v,a,a',b⟩:=g
   rw [(Ae h).2.1,cK h] at a
   rw [(Ae h).2.2,cK h] at a'
   exact ⟨F,F',u,v,a,a',b⟩
 | sp=>exact RT.congr h g
 | ch=>exact RT.congr h g
theorem RC.uniq (g:RC wy β es d) (g':RC wy β es d'):d=d':=by
 have tt:∀{aI:Bool},RT aI β es d→RT aI β es d'→d=d':=λ{aI} ⟨t,a,b⟩ ⟨t',a',b'⟩=>by
  rw [b,b']
  by_cases z:es.length+bS aI=0
  ·rw [z,Nat.zero_sub,a.first,a'.first]
  ·rw [HL a a' _ 0#b]
 cases wy with
 | ap=>
   obtain ⟨F,v,a,b⟩:=g
   obtain ⟨F',v',a',b'⟩:=g'
   rw [b,b',(a.uniq a').2]
 | jo=>
   obtain ⟨F,G,u,v,a,c,b⟩:=g
   obtain ⟨F',G',u',v',a',c',b'⟩:=g'
   rw [b,b',(a.uniq a').2,(c.uniq c').2]
 | sp=>exact tt g g'
 | ch=>exact tt g g'
theorem RC.pos (g:RC wy β es d):1≤d:=by
 cases wy with
 | ap=>obtain ⟨F,v,a,b⟩:=g;simp?
 | jo=>obtain ⟨F,G,u,v,a,c,b⟩:=g;simp?
 | sp=>obtain ⟨t,a,b⟩:=g;simp?
 | ch=>obtain ⟨t,a,b⟩:=g;simp?
inductive nU (R:List En→Int→Prop):List (List En)→Int→Prop
 | nil:nU R [] 0
 | cons {r:List En} {rs:List (List En)} {c d:Int}:R r c→nU R rs d→nU R (r::rs) (c+d)
theorem nU.snoc (h:nU R rs d) (hc:R r c):nU R (rs++[r]) (d+c):=by
 induction h with
 | nil=>have:=nU.cons hc .nil;rw [ab3] at this;rw [Int.zero_add];exact this
 | cons a b ih=>rw [abQ];exact .cons a ih
theorem nU.imp (e:∀r r' c,r.map (·.2)=r'.map (·.2)→R r c→R' r' c) (h:nU R rs d):∀{rs'},gK (λr r':List En=>r.map (·.2)=r'.map (·.2)) rs rs'→nU R' rs' d:=by
 induction h with
 | nil=>
   intro rs' g
   cases rs' with
   | nil=>exact .nil
   | cons _ _=>exact g.elim
 | cons a b ih=>
   intro rs' g
   cases rs' with
   | nil=>exact g.elim
   | cons _ _=>exact .cons (e _ _ _ g.1 a) (ih g.2)
theorem nU.uniq (u:∀r c c',R r c→R r c'→c=c') (h:nU R rs d):nU R rs d'→d=d':=by
 induction h generalizing d' with
 | nil=>intro g;cases g;rfl
 | cons a b ih=>intro g;cases g with | cons a' b'=>rw [u _ _ _ a a',ih b']
section
variable {α:Type} {s:α→Bool} {as bs:List α}
theorem om:∀i,i≤as.length→parts s (as++bs) i=parts s as i∧bU s (as++bs) i=bU s as i
 | 0,_=>0#U
 | i+1,h=>by
   have ih:=om i 0#b
   have g:(as++bs)[i]?=as[i]?:=vn 0#b
   refine ⟨?_,?_⟩
   ·unfold parts
    rw [g,ih.1,ih.2]
   ·unfold bU
    rw [G8,g]
theorem z7 (h:bU s as as.length=false):∀i,i≤bs.length→parts s (as++bs) (as.length+i)=parts s as as.length++parts s bs i∧bU s (as++bs) (as.length+i)=bU s bs i
 | 0,_=>by
   obtain ⟨a,b⟩:=om (s:=s) (bs:=bs) as.length (dS _)
   rw [RB,a,b,h]
   exact ⟨(nv _).symm,rfl⟩
 | i+1,hi=>by
   obtain ⟨a,b⟩:=z7 h i 0#b
   have g:(as++bs)[as.length+i]?=bs[i]?:=by rw [yR 0#b,Q3]
   obtain ⟨x,hx⟩:∃x,bs[i]?=some x:=⟨_,jY 0#b⟩
   rw [hx] at g
   rw [← abS]
   refine ⟨?_,by rw [gw g,gw hx]⟩
   cases hs:s x with
   | false=>rw [i8 g hs,i8 hx hs,a]
   | true=>
     cases hi:bU s bs i with
     | false=>rw [i9 g hs (b.trans hi),i9 hx hs hi,a,yS]
     | true=>
       obtain ⟨t,r,hp⟩:=tT hi
       rw [kc hx hs hi hp,kc g hs (b.trans hi) (t:=parts s as as.length++t) (r:=r) (by rw [a,hp,yS]),yS]
theorem z8 (h:∀x∈as,s x=true) (h0:as≠[]):parts s as as.length=[as]:=by
 have all:∀i,i+1≤as.length→parts s as (i+1)=[as.take (i+1)]:=by
  intro i
  induction i with
  | zero=>
    intro hi
    obtain ⟨x,hx⟩:∃x,as[0]?=some x:=⟨_,jY 0#b⟩
    rw [i9 hx (h x (mT hx)) rfl,Bs,hx]
    rfl
  | succ i ih=>
    intro hi
    obtain ⟨x,hx⟩:∃x,as[i+1]?=some x:=⟨_,jY 0#b⟩
    obtain ⟨y,hy⟩:∃y,as[i]?=some y:=⟨_,jY 0#b⟩
    have hin:bU s as (i+1)=true:=by rw [gw hy];exact h y (mT hy)
    rw [kc hx (h x (mT hx)) hin (t:=[]) (r:=as.take (i+1)) (by rw [ih 0#b];rfl),Bs (i:=i+1),hx]
    rfl
 have:0<as.length:=E4.mpr h0
 have:=all (as.length-1) 0#b
 rw [show as.length-1+1=as.length by simp?,jt] at this
 exact this
theorem DE (h:∀x∈as,s x=true) (h0:as≠[]):∀i,i≤bs.length→∃zs rest,parts s (as++bs) (as.length+i)=(as++zs)::rest∧zs.Sublist (bs.take i)
 | 0,_=>by
   obtain ⟨a,b⟩:=om (s:=s) (bs:=bs) as.length (dS _)
   refine ⟨[],[],?_,by simp⟩
   rw [RB,a,z8 h h0,nv]
 | i+1,hi=>by
   obtain ⟨zs,rest,a,c⟩:=DE h h0 i 0#b
   have g:(as++bs)[as.length+i]?=bs[i]?:=by rw [yR 0#b,Q3]
   obtain ⟨x,hx⟩:∃x,bs[i]?=some x:=⟨_,jY 0#b⟩
   rw [hx] at g
   rw [← abS]
   have tk:bs.take (i+1)=bs.take i++[x]:=by rw [Bs,hx];rfl
   have sub:zs.Sublist (bs.take (i+1)):=by rw [tk];exact c.trans (Me _ _)
   cases hs:s x with
   | false=>exact ⟨zs,rest,by rw [i8 g hs,a],sub⟩
   | true=>
     cases hi:bU s (as++bs) (as.length+i) with
     | false=>exact ⟨zs,rest++[[x]],by rw [i9 g hs hi,a];rfl,sub⟩
     | true=>
       rcases Mn rest with z | ⟨t,r,z⟩
       ·subst z
        refine ⟨zs++[x],[],?_,by rw [tk];exact c.append (abg _)⟩
        rw [kc g hs hi (t:=[]) (r:=as++zs) a]
        simp
       ·rw [z] at a
        refine ⟨zs,t++[r++[x]],?_,sub⟩
        rw [kc g hs hi (t:=(as++zs)::t) (r:=r) (by rw [a];simp)]
        rfl
end
theorem qX (h:es.map (·.2)=es'.map (·.2)):gK (λr r':List En=>r.map (·.2)=r'.map (·.2)) (parts dh es es.length) (parts dh es' es'.length):=by
 refine CW ?_
 have a:=uY (λx:En=>x.2) (λv:Int×Option Rat=>v.2.isSome) es es.length
 have c:=uY (λx:En=>x.2) (λv:Int×Option Rat=>v.2.isSome) es' es'.length
 have a':(parts dh es es.length).map (Ht λx:En=>x.2)=parts (λv:Int×Option Rat=>v.2.isSome) (es.map λx=>x.2) es.length:=a
 have c':(parts dh es' es'.length).map (Ht λx:En=>x.2)=parts (λv:Int×Option Rat=>v.2.isSome) (es'.map λx=>x.2) es'.length:=c
 rw [a',c',h,cK h]
theorem adx {b:Int} (h:es.map (·.2)=hs.map (λx=>c7 b x.2)) (hb:1≤b) (ht:iJ hs i<iJ hs k):(2*c*(iJ hs k-iJ hs i)<zQ hs i j k↔2*0#y<sd es i j k)∧(2*c*(iJ hs k-iJ hs i) < - zQ hs i j k↔sd es i j k < -(2*0#y)):=by
 have hp:=cast_pos (b:=(iJ hs k-iJ hs i)*b) (yN 0#b 0#b)
 have hb':=eS (b:=b) 0#b
 have e1:((2*c*(iJ hs k-iJ hs i):Int):Rat)=2*0#y*(((iJ hs k-iJ hs i)*b:Int):Rat):=by
  simp only [sD,sF]
  have:((2:Int):Rat)=2:=rfl
  rw [this]
  grind
 have e2:=Qp h (i:=i) (k:=j) (j:=k) hb ht
 constructor
 ·rw [← sy,e1,e2]
  constructor
  ·intro z
   exact aaw z (MB hp)
  ·intro z
   exact J8 z hp
 ·rw [← sy,Rr,e1,e2]
  constructor
  ·intro z
   have:2*0#y < - sd es i j k:=aaw (c:=(((iJ hs k-iJ hs i)*b:Int):Rat)) 0#B (MB hp)
   grind
  ·intro z
   have:=J8 (show 2*0#y < - sd es i j k by grind) hp
   grind
theorem Vh {b c:Int} (hb:1≤b) (hc:0≤c):(0:Rat)≤(c:Rat)/(b:Rat):=by
 have h1:(0:Rat)<(b:Rat):=cast_pos 0#b
 have h2:(0:Rat)≤(c:Rat):=by
  have:=Mi.mpr hc
  simpa using this
 exact (o6 h1).mpr 0#B
theorem ZD (ha:0≤a):a<dP x↔a<x∨x < -a:=by
 unfold dP
 split <;> grind
theorem UG (hb:1≤b) (hc:0≤c) (hr:fP hs) :(Gr (NE3 hs c 0) hs.length F v→Gr (Pin (gh hs b) 0#y) (gh hs b).length F v)∧(Gr (NE3 hs c 1) hs.length F v→Gr (Hig (gh hs b) 0#y) (gh hs b).length F v)∧(Gr (NE3 hs c (-1)) hs.length F v→Gr (MS (gh hs b) 0#y) (gh hs b).length F v):=by
 rw [tF]
 have iy:0≤2*0#y:=by have:=Vh hb hc;grind
 have n1:∀{i j k:Nat},i<k→k<hs.length→_:=λ{i j k} h1 h2=>adx (j:=j) (c:=c) (HR hs b) hb (NY hr h1 h2)
 refine ⟨λg=>g.congr λF k hk=>?_,λg=>g.congr λF k hk=>?_,λg=>g.congr λF k hk=>?_⟩
 ·refine Hs λi=>Hs λj=>yK λh1=>yK λh2=>yK λh3=>?_
  obtain ⟨u1,u2⟩:=n1 (i:=i) (j:=j) (k:=k) 0#b hk
  rw [ZD iy,← u1,← u2,show TN 0 (zQ hs i j k)=(if zQ hs i j k<0 then -zQ hs i j k else zQ hs i j k) from rfl]
  have:0≤2*c*(iJ hs k-iJ hs i):=qF 0#b (by have:=NY hr (show i<k by simp?) hk;simp?)
  split <;> simp?
 ·refine Hs λi=>Hs λj=>yK λh1=>yK λh2=>yK λh3=>?_
  rw [← (n1 (i:=i) (j:=j) (k:=k) 0#b hk).1]
  exact Iff.rfl
 ·refine Hs λi=>Hs λj=>yK λh1=>yK λh2=>yK λh3=>?_
  rw [← (n1 (i:=i) (j:=j) (k:=k) 0#b hk).2]
  exact Iff.rfl
theorem Vy (hs:List Nn) (b:Int) (i:Nat):(parts tP hs i).map (gh · b)=parts dh (gh hs b) i:=by
 have c:=uY (λx:Nn=>((x.1,c7 b x.2):En)) dh hs i
 have e2:(λx:Nn=>dh ((x.1,c7 b x.2):En))=tP:=funext λx=>by unfold dh c7 tP;simp
 rw [show (λx:Nn=>dh ((λx:Nn=>((x.1,c7 b x.2):En)) x))=tP from e2] at c
 exact c
inductive OZ (vs:List V) (H:Hp) (Q:VK) (E_:XK):Prop where
 | mk (l:aq) (hs:List Nn) (i j:Nat) (c:Int) (m n:Nat):vs=[.ref l,.int (i:Int),.int (j:Int),.int c]→H l=some (.lst (bH hs))→iN H hs m n→CA hs→i≤j→j<hs.length→hs.length≤40→Sz n c→m≤2000→n≤2000→(∀r:Bool,(r=false↔∀k,i<k→k<j→((zQ hs i k j).natAbs:Int)≤c*(iJ hs j-iJ hs i))→Q (.bl r) H)→OZ vs H Q E_
inductive EB (vs:List V) (H:Hp) (Q:VK) (E_:XK):Prop where
 | mk (l:aq) (hs:List Nn) (c b:Int) (aI:Bool) (m n:Nat):vs=[.ref l,.int c,.int (1-(bS aI:Int))]→H l=some (.lst (bH hs))→iN H hs m n→CA hs→fP hs→1≤hs.length→hs.length≤40→Sz n c→m≤2000→n≤2000→1≤b→(∀(R:aq) (t:Nat→Int) (H':Hp),ao H H'→H' R=some (.lst (jf (hs.length+bS aI) t))→qO (jX (gh hs b) 0#y aI) (hs.length+bS aI) t→Q (.ref R) H')→EB vs H Q E_
inductive ym (vs:List V) (H:Hp) (Q:VK) (E_:XK):Prop where
 | mk (l:aq) (hs:List Nn) (wy:Wy) (c b:Int) (m n:Nat):vs=[.ref l,.str (J5 wy),.int c]→H l=some (.lst (bH hs))→iN H hs m n→CA hs→fP hs→1≤hs.length→hs.length≤40→Sz n c→m≤2000→n≤2000→1≤b→0≤c→(∀(d:Int) (H':Hp),ao H H'→RC wy 0#y (gh hs b) d→Q (.int d) H')→ym vs H Q E_
inductive EC (vs:List V) (H:Hp) (Q:VK) (E_:XK):Prop where
 | mk (l:aq) (hs:List Nn) (wy:Wy) (c b:Int) (m n:Nat):vs=[.ref l,.str (J5 wy),.int c]→H l=some (.lst (bH hs))→iN H hs m n→fP hs→hs.length≤40→Sz n c→m≤2000→n≤2000→1≤b→0≤c→(∀(d:Int) (H':Hp),ao H H'→nU (RC wy 0#y) (parts dh (gh hs b) (gh hs b).length) d→Q (.int d) H')→EC vs H Q E_
theorem wU:fz 4 [cA,"_law_i",eY,aW,"_law_span","_law_j"] An:=0#a
theorem N7 (F:fO K "_law_far" An f fd) (T:Txt mg) (jR:Z0 P w K mg base):bh P w K mg base dm 2 f fd [cA,"_law_i",eY,aW] OZ:=by
 refine F.eU wU λcdv A outer s H vs Q E hr h=>?_
 obtain ⟨l,hs,i,j,c,em,en,rfl,hl,hes,hS,hij,hj,mX,zc,hm,hn,k⟩:=h
 obtain ⟨xi,gi,ei,zi1,zi2⟩:=GN hes hS (show i<hs.length by simp?)
 obtain ⟨xj,gj,ej,zj1,zj2⟩:=GN hes hS hj
 have zsp:=zj1.sub zi1
 have ok1:=ck zc zsp 0#b
 apply bF ⟨_,(ah (aL 4 wU.nd (aF bT (aH K (bO (gU K) 0#h 0#q 0#g)) (aH K (bO (gU K) 0#h 0#n 0#g)))) (ah (iP gR rfl (xJ rfl T.range (bL (aF bB 0#n au) 0#q)) (cB (i:=5) wU.nd rfl 0#k) (aD (cy (bD fM (iz zA rfl T.zD AN (dZ (Jd.c3 jR hr (bO (gU K) 0#h 0#n 0#g) (bO (gU K) 0#h (aa 5) 0#g) (bO (gU K) 0#h 0#q 0#g))) (he:=EE) (hpl:=cR)) (aF aS 0#A (aa 4)) 0#K) (aD (aX lR)) cG))) (aD (aX lR)))),?_⟩
 apply dg hl (jF gj rfl) ?_
 apply dg hl (jF gi rfl) ?_
 apply fq (qZ ?_)
 refine ⟨_,_,rfl,⟨by lia,by lia,by lia,by lia⟩,dc (λm σ H3=>H3=H∧∃v5:Option V,σ=[some 0#O,some (.int i),some (.int j),some (.int c),some (.int (iJ hs j-iJ hs i)),v5]∧∀k,i<k→k<i+1+m→((zQ hs i k j).natAbs:Int)≤c*(iJ hs j-iJ hs i)) ?_ ?_ ?_⟩
 ·exact ⟨rfl,none,rfl,λk h1 h2=>by try?⟩
 ·rintro m σ H3 hm' ⟨rfl,v5,rfl,hall⟩
  obtain ⟨xp,gp,ep,zp1,zp2⟩:=GN hes hS (show i+1+m<hs.length by try?)
  rw?
  apply dg hl (jF gi rfl) ?_
  apply dg hl (jF gp 0#c) ?_
  apply dg hl (jF gj rfl) ?_
  apply ⟨xi.1,xp.1,xj.1,_,_,_,_,_,_,em,en,rfl,ei,ep,ej,zi1,zp1,zj1,zi2,zp2,zj2,by simp?,?_⟩
  rw [jv]
  refine c6 0#J 0#J
  ·have vU:=dM c1
   rw?
   refine k true ⟨λz=>absurd z 0#f,λz=>?_⟩
   have h2:((zQ hs i (i+1+m) j).natAbs:Int)≤c*(iJ hs j-iJ hs i):=z (i+1+m) 0#c 0#c
   exact absurd vU (vI.mpr h2)
  ·have vU:=jO (jr.mpr c1)
   rw?
   refine ⟨rfl,_,rfl,λk' h1 h2=>?_⟩
   by_cases e:k'=i+1+m
   ·subst e
    exact vI.mp vU
   ·exact hall k' h1 0#c
 ·rintro σ H3 ⟨rfl,v5,rfl,hall⟩
  rw?
  refine k false ⟨λ_ k' h1 h2=>hall k' h1 0#c,λ_=>rfl⟩
theorem kq:fz 3 [cA,aW,"_law_hangs","_law_steps_here","_law_upto","_law_ways","_law_i"] ur:=0#a
theorem IQ (F:fO K "_law_steps" ur f fd) (T:Txt mg) (zo:Dn P w K mg base 2 "_law_far" [cA,"_law_i",eY,aW] OZ):bh P w K mg base dm 3 f fd [cA,aW,"_law_hangs"] EB:=by
 refine F.eU kq λcdv A outer s H vs Q E hr h=>?_
 obtain ⟨l,hs,c,b,aI,em,en,rfl,hl,hes,hS,d9,h1,mX,zc,hm,hn,hb,k⟩:=h
 have s1':bS aI≤1:=by cases aI <;> decide
 apply bF ⟨_,(ah (aL 3 kq.nd (dO (dZ au))) (ah (iP gR rfl (xJ rfl T.range (bL au (aF bT (aF bB (fj K T.i7 0#h) au) 0#q))) (cB (i:=4) kq.nd rfl 0#k) (ah (aL 5 kq.nd (dO gH)) (ah (iP gR rfl (xH rfl T.range (dZ (aa 4))) (cB (i:=6) kq.nd rfl 0#k) (aD (cy (Jd.DR (qf (iA zo 0#z rfl (Jd.a4 0#h (aa 6) (aF bB (aF bT (aa 4) au) 0#q) 0#n) (he:=bP) (hpl:=(cO bP (cO J1 (cO bP cR))))))) (aD (fm (ia K (aa 5) (aF bB (bO (gU K) 0#A (aa 6) 0#g) au)) (hs:=eK))) cG))) (aD (fm (ia K 0#A (iz (ahV K rfl) rfl T.Y8 Q8 (dZ (aa 5)) (he:=bP) (hpl:=cR))) (hs:=eK)))))) (aD (aX 0#A)))),?_⟩
 apply aC (mk:=.lst) 0#d λR H1 s1 n1 e1=>?_
 apply fq (qZ ?_)
 refine dW (.inl (bq.of (s1 _ _ hl))) ?_
 rw [bQ]
 rw?
 refine ⟨_,_,rfl,⟨by lia,by lia,by lia,by lia⟩,dc (λi σ H3=>XE λ(t:Nat→Int) (v4 v5 v6:Option V)=>σ=[some 0#O,some (.int c),some (.int (1-(bS aI:Int))),some (.ref R),v4,v5,v6]∧ao H H3∧H3 R=some (.lst (jf (1+i) t))∧qO (jX (gh hs b) 0#y aI) (1+i) t) ?_ ?_ ?_⟩
 ·exact ⟨λ_=>0,none,none,none,rfl,s1,e1,Uu⟩
 ·rintro i σ H3 hi ⟨t,v4,v5,v6,rfl,s3,e3,hf⟩
  refine c8 λM Bk RR hM _ _=>?_
  have hi':1+i<hs.length+bS aI:=by simp?
  rw [show (1:Int)+(i:Int)=((1+i:Nat):Int) by simp?]
  rw?
  apply aC (mk:=.lst) 0#d λW H4 s4 n4 e4=>?_
  apply fq (tV ?_)
  refine ⟨_,rfl,by lia,by lia,dc (λm σ H5=>RM λ(us:List Int) (v6:Option V)=>σ=[some 0#O,some (.int c),some (.int (1-(bS aI:Int))),some (.ref R),some (.int ((1+i:Nat):Int)),some (.ref W),v6]∧ao H3 H5∧H5 W=some (.lst (us.map V.int))∧us.length≤m∧∀u,u∈us↔∃kk,kk<m∧jX (gh hs b) 0#y aI kk (1+i)∧u=t kk+1) ?_ ?_ ?_⟩
  ·exact ⟨[],_,rfl,s4,e4,dS _,λu=>⟨λz=>absurd z 0#d,λ⟨kk,z,_⟩=>absurd z 0#c⟩⟩
  ·rintro m σ H5 hm' ⟨us,v6,rfl,s5,e5,hul,Ih⟩
   refine c8 λM2 B2 R2 XM _ _=>?_
   have hm2:m<1+i:=by simp?
   rw [show (0:Int)+(m:Int)=(m:Int) by simp?]
   rw?
   refine ⟨l,hs,m,1+i-bS aI,c,em,en,?_,(s3.trans s5) _ _ hl,hes.up (s3.trans s5),hS,by simp?,by simp?,mX,zc,hm,hn,λr hr'=>?_⟩
   ·rw [show ((1+i:Nat):Int)-1+(1-(bS aI:Int))=((1+i-bS aI:Nat):Int) by simp?]
    rfl
   have aab:r=false↔jX (gh hs b) 0#y aI m (1+i):=by
    rw [hr',GI hm2 (by rw [tF];simp?)]
    exact SD (HR hs b) hb d9 0#b 0#b
   rw?
   cases r with
   | true=>
     apply bR ?_
     refine XM _ _ ⟨us,_,rfl,s5,e5,by simp?,λu=>?_⟩
     rw [Ih u]
     constructor
     ·rintro ⟨kk,z,z2⟩
      exact ⟨kk,by simp?,z2⟩
     ·rintro ⟨kk,z,z2,z3⟩
      refine ⟨kk,?_,z2,z3⟩
      by_cases e:kk=m
      ·subst e
       exact absurd (aab.mpr z2) 0#f
      ·simp?
   | false=>
     have hl':=aab.mp rfl
     apply cI ?_
     apply ⟨.inl ⟨rfl,_,bq.of e5⟩,?_⟩
     apply dg (s5 _ _ e3) (nV (j:=m) hm2 rfl) ?_
     refine cM e5 (by rw [gI];exact aN 0#b) ?_
     refine XM _ _ ⟨us++[t m+1],_,rfl,bf s5 n4,by rw [av];simp,by simp;simp?,λu=>?_⟩
     rw [fK,Ih u]
     constructor
     ·rintro (⟨kk,z,z2⟩ | z)
      ·exact ⟨kk,by simp?,z2⟩
      ·exact ⟨m,by simp?,hl',by simpa using z⟩
     ·rintro ⟨kk,z,z2,z3⟩
      by_cases e:kk=m
      ·subst e
       exact .inr (by simpa using z3)
      ·exact .inl ⟨kk,by simp?,z2,z3⟩
  ·rintro σ H5 ⟨us,v6,rfl,s5,e5,hul,Ih⟩
   have eN:(((1+i:Nat):Int)).toNat=1+i:=by simp?
   rw [eN] at Ih hul
   have hin:t i+1∈us:=(Ih _).mpr ⟨i,by simp?,by
    have:=GJ (es:=gh hs b) (β:=(c:Rat)/(b:Rat)) (aI:=aI) (j:=1+i) 0#b (by rw [tF];exact hi')
    rw [show 1+i-1=i by simp?] at this
    exact this,rfl⟩
   rw?
   apply ⟨.inl ⟨rfl,_,bq.of (s5 _ _ e3)⟩,?_⟩
   apply adY (bq.of e5) (List.length_pos_of_mem hin) λu hu hle=>?_
   refine cM (s5 _ _ e3) (by rw [nE];exact aN 0#b) ?_
   obtain ⟨kk,z1,z2,z3⟩:=(Ih u).mp hu
   refine hM _ _ ⟨_,_,_,_,rfl,bf (s3.trans s5) n1,by rw [av,Ny];rfl,RX hf (yH _ _) (λkk hk hL=>hle _ ((Ih _).mpr ⟨kk,hk,hL,rfl⟩)) ⟨kk,z1,z2,z3⟩⟩
 ·rintro σ H3 ⟨t,v4,v5,v6,rfl,s3,e3,hf⟩
  have eN:1+((hs.length:Int)+1-(1-(bS aI:Int))-1).toNat=hs.length+bS aI:=by simp?
  rw [eN] at e3 hf
  rw?
  exact k R t H3 s3 e3 hf
theorem yf:fz 3 [cA,fF,aW,"_law_found"] t9:=0#a
theorem II (F:fO K "_law_count" t9 f fd) (T:Txt mg) (lQ:Dn P w K mg base 3 "_law_turns" [cA,aW,"_law_sign"] J0) (sU:Dn P w K mg base 3 "_law_steps" [cA,aW,"_law_hangs"] EB):bh P w K mg base dm 4 f fd [cA,fF,aW] ym:=by
 refine F.eU yf λcdv A outer s H vs Q E hr h=>?_
 obtain ⟨l,hs,wy,c,b,em,en,rfl,hl,hes,hS,d9,h1,mX,zc,hm,hn,hb,hc,k⟩:=h
 have fin:∀(aI:Bool) (R:aq) (t:Nat→Int) (H1:Hp),ao H H1→qO (jX (gh hs b) 0#y aI) (hs.length+bS aI) t→RC (if aI=true then .ch else .sp) 0#y (gh hs b) (if t (hs.length+bS aI-1)>1 then t (hs.length+bS aI-1) else 1):=λaI R t H1 s1 hF=>by
  have e:(if t (hs.length+bS aI-1)>1 then t (hs.length+bS aI-1) else 1)=max 1 (t (hs.length+bS aI-1)):=by split <;> simp?
  rw [e]
  have:RT aI 0#y (gh hs b) (max 1 (t (hs.length+bS aI-1))):=⟨t,by rw [tF];exact hF,by rw [tF]⟩
  cases aI <;> exact this
 apply bF ⟨_,(ah (cy (bD fE 0#n mR 0#K) (aD (aX (aF bB au (Jd.c3 lQ hr 0#h 0#q au)))) cG) (ah (cy (bD fE 0#n mR 0#K) (ah (aL 3 yf.nd (Jd.c3 lQ hr 0#h 0#q au)) (aD (aX (aF bB (aF bB au 0#A) (Jd.c3 lQ hr 0#h 0#q (gF dH au)))))) cG) (aD (aX (iz (Y7 rfl) rfl T.U7 Ml (bL au (bO (gU K) (Jd.c3 sU hr 0#h 0#q (Jd.kW RQ rfl T.ahO agN (dZ (tL fE 0#n mR 0#K)))) (gF dH au) 0#g)) (he:=lV) (hpl:=(cO EF cR))))))),?_⟩
 cases wy with
 | ap=>
   refine fZ (c:=true) 0#e ?_
   refine 0#T
   apply cI ?_
   apply ⟨l,hs,c,0,em,en,rfl,hl,hes,hS,mX,zc,hm,hn,λF v hG=>?_⟩
   exact k _ H 0#t ⟨F,v,(UG hb hc d9).1 hG,rfl⟩
 | jo=>
   refine fZ (c:=false) 0#e ?_
   refine 0#T
   apply bR ?_
   refine fZ (c:=true) 0#e ?_
   refine 0#T
   apply cI ?_
   apply ⟨l,hs,c,1,em,en,rfl,hl,hes,hS,mX,zc,hm,hn,λF v hG=>?_⟩
   apply ⟨l,hs,c,-1,em,en,rfl,hl,hes,hS,mX,zc,hm,hn,λF' v' hG'=>?_⟩
   exact k _ H 0#t ⟨F,F',v,v',(UG hb hc d9).2.1 hG,(UG hb hc d9).2.2 hG',rfl⟩
 | sp=>
   refine fZ (c:=false) 0#e ?_
   refine 0#T
   apply bR ?_
   refine fZ (c:=false) 0#e ?_
   refine 0#T
   apply bR ?_
   apply fZ (c:=false) 0#e ?_
   apply .inr 0#T
   apply ⟨l,hs,c,b,false,em,en,rfl,hl,hes,hS,d9,h1,mX,zc,hm,hn,hb,λR t H1 s1 eR hF=>?_⟩
   apply dg eR (AS 0#b) ?_
   exact k _ H1 s1 (fin false R t H1 s1 hF)
 | ch=>
   refine fZ (c:=false) 0#e ?_
   refine 0#T
   apply bR ?_
   refine fZ (c:=false) 0#e ?_
   refine 0#T
   apply bR ?_
   apply fZ (c:=true) 0#e ?_
   apply .inr 0#T
   apply ⟨l,hs,c,b,true,em,en,rfl,hl,hes,hS,d9,h1,mX,zc,hm,hn,hb,λR t H1 s1 eR hF=>?_⟩
   apply dg eR (AS 0#b) ?_
   exact k _ H1 s1 (fin true R t H1 s1 hF)
theorem m9:fz 3 [aM,fF,aW,"_law_total_here",cA] uv:=0#a
abbrev Z1 P w K mg base:=Dn P w K mg base 4 "_law_count" [cA,fF,aW] ym
theorem IT (F:fO K "_law_total" uv f fd) (T:Txt mg) (vN:Dn P w K mg base 1 "_law_runs" [aM] JQ) (iM:Z1 P w K mg base):bh P w K mg base dm 5 f fd [aM,fF,aW] EC:=by
 refine F.eU m9 λcdv A outer s H vs Q E hr h=>?_
 obtain ⟨l,hs,wy,c,b,em,en,rfl,hl,hes,d9,mX,zc,hm,hn,hb,hc,k⟩:=h
 apply bF ⟨_,(ah (aL 3 m9.nd au) (ah (iP gR rfl (eE K (Jd.c1 vN hr 0#h)) (cB (i:=4) m9.nd rfl 0#k) (aD (aL 3 m9.nd (aF bB 0#A (Jd.c3 iM hr (aa 4) 0#n 0#q))))) (aD (aX 0#A)))),?_⟩
 apply fq (jb ?_)
 refine ⟨l,hs,em,en,rfl,hl,hes,mX,λD ls H1 s1 nD eD hls hmap=>?_⟩
 have own:=λr hr=>kT (s:=tP) (es:=hs) hs.length r hr
 refine ⟨D,rfl,⟨_,bq.of eD⟩,d8 (xs:=ls.map λx=>V.ref x.1) (λi σ H3=>RM λ(d:Int) (v5:Option V)=>σ=[some 0#O,some (.str (J5 wy)),some (.int c),some (.int d),v5]∧ao H1 H3∧nU (RC wy 0#y) (((ls.take i).map (·.2)).map (gh · b)) d) ?_ ?_ ?_ ?_⟩
 ·exact ⟨0,none,rfl,ao.refl _,.nil⟩
 ·rintro i σ H3 _ ⟨d,v5,rfl,s3,_⟩
  exact bq.of (s3 _ _ eD)
 ·rintro i x σ H3 hx ⟨d,v5,rfl,s3,hd⟩
  refine c8 λM Bk RR hM _ _=>?_
  rw [kE] at hx
  obtain ⟨y,hy,rfl⟩:=Ka.mp hx
  have hmem:=mT hy
  obtain ⟨o1,o2,o3⟩:=own y.2 (hmap▸jB.mpr ⟨y,hmem,rfl⟩)
  rw [jt] at o3
  rw?
  apply ⟨y.1,y.2,wy,c,b,em,en,rfl,s3 _ _ (hls y hmem).2,λz hz=>(hes.up (s1.trans s3)) z (o3.subset hz),o2,d9.sublist o3,E4.mpr o1,dR o3.length_le mX,zc,hm,hn,hb,hc,λd' H4 s4 hd'=>?_⟩
  refine hM _ _ ⟨d+d',_,rfl,s3.trans s4,?_⟩
  rw [Bs,hy]
  simp only [aa4,jD,Bu,Xj]
  exact hd.snoc hd'
 ·rintro σ H3 ⟨d,v5,rfl,s3,hd⟩
  rw?
  rw [gI,jt,hmap,Vy,← tF hs b] at hd
  exact k d H3 (s1.trans s3) hd
theorem C0:∀i,i≤es.length→∀j,fD es i≤j→j<i→∃e,es[j]?=some e∧dh e=true
 | 0,_,j,_,h=>absurd h (Cc _)
 | i+1,hi,j,h1,h2=>by
   obtain ⟨e,he⟩:∃e,es[i]?=some e:=⟨_,jY 0#b⟩
   unfold fD at h1
   rw [he] at h1
   cases hs:dh e with
   | false=>
     rw [if_pos (by show (!dh e)=true;rw [hs];rfl)] at h1
     simp?
   | true=>
     rw [if_neg (by show ¬(!dh e)=true;rw [hs];decide)] at h1
     by_cases e':j=i
     ·subst e'
      exact ⟨e,he,hs⟩
     ·exact C0 i 0#b j h1 0#b
theorem HQ (es:List En):iK (es.drop (fD es es.length)):=λx hx=>by
 obtain ⟨j,hj⟩:=aaN.mp hx
 rw [rQ] at hj
 have:=(nH.mp hj).1
 obtain ⟨e,he,hs⟩:=C0 es.length (dS _) _ (yH _ j) this
 rw [hj] at he
 cases he
 exact hs
theorem P9 (es:List En):∀i,i≤es.length→bU dh es (fD es i)=false
 | 0,_=>rfl
 | i+1,hi=>by
   obtain ⟨e,he⟩:∃e,es[i]?=some e:=⟨_,jY 0#b⟩
   unfold fD
   rw [he]
   cases hs:dh e with
   | false=>
     rw [if_pos (by show (!dh e)=true;rw [hs];rfl),gw he]
     exact hs
   | true=>
     rw [if_neg (by show ¬(!dh e)=true;rw [hs];decide)]
     exact P9 es i 0#b
theorem Qa (es:List En):bU dh (es.take (fD es es.length)) (es.take (fD es es.length)).length=false:=by
 have hle:=zG es es.length
 rw [oQ,Br hle]
 have:=(om (s:=dh) (as:=es.take (fD es es.length)) (bs:=es.drop (fD es es.length)) (fD es es.length) (by rw [oQ,Br hle];exact dS _)).2
 rw [MG] at this
 rw [← this]
 exact P9 es es.length (dS _)
def pW (es:List En) (u:Int):List En:=es.filter (upto u)
def Fd (es:List En) (u:Int):List En:=(pW es u).take (fD (pW es u) (pW es u).length)
def Gi (es:List En) (u:Int):List En:=(pW es u).drop (fD (pW es u) (pW es u).length)
inductive AG (vs:List V) (H:Hp) (Q:VK) (E_:XK):Prop where
 | mk (l r:aq) (hs:List Nn) (xs:List Int) (d0 d1:Int):vs=[.ref l,.ref r]→H l=some (.lst (bH hs))→iN H hs 45 150→hs.length≤40→H r=some (.lst (xs.map V.int))→xs[0]?=some d0→0≤d0→d0<40→xs[1]?=some d1→0≤d1→d1<4→(∀(z:Int) (H':Hp),ao H H'→Sz 46 z→Q (.int z) H')→AG vs H Q E_
theorem aeE (xs:List Int) (n:Nat):j8 (xs.map V.int) (some (n:Int)) none=(xs.drop n).map V.int:=by rw [acE,ES]
theorem vE:fz 2 [aM,cE,aV] rz:=0#a
theorem FQ (F:fO K "_law_moment" rz f fd) (T:Txt mg):bh P w K mg base dm 1 f fd [aM,cE] AG:=by
 refine F.eU vE λcdv A outer s H vs Q E hr h=>?_
 obtain ⟨l,r,hs,xs,d0,d1,rfl,hl,hes,mX,er,g0,a0,b0,g1,a1,b1,k⟩:=h
 apply bF ⟨_,(ah (cy (bD fE (fj K T.i7 0#h) au 0#K) (aD (aX (aF bT (Jd.iL K 0#n) au))) cG) (ah (aL 2 vE.nd (aH K (bO (gU K) 0#h (aF jl (Jd.iL K 0#n) (fj K T.i7 0#h)) 0#g))) (aD (aX (aF bB 0#q (bO (gU K) (dO (Jd.a4 au au (gF dH au) (aF qW au au))) (Jd.iL K 0#n) 0#g)))))),?_⟩
 refine dW (.inl (bq.of hl)) ?_
 rw [bQ]
 rw?
 refine c6 0#w 0#w
 ·rw?
  apply dg er (bM g0 rfl) ?_
  exact k _ H 0#t (show (d0-5).natAbs<2 ^ 46 by simp?)
 ·have c':=jO (jr.mpr c)
  rw?
  apply dg er (bM g0 rfl) ?_
  refine dW (.inl (bq.of hl)) ?_
  rw [bQ]
  refine iF (show (0:Int)<_ by simp?) ?_
  obtain ⟨e,he,_,ea⟩:=Kr (es:=hs) (i:=d0 % (hs.length:Int)) (Cb _ 0#b) (AO _ 0#b)
  obtain ⟨ee,z1,_⟩:=hes e he
  apply dg hl ea ?_
  apply aC (mk:=.lst) 0#d λl6 H6 s6 n6 e6=>?_
  refine dg (s6 _ _ er) (bM g1 rfl) ?_
  obtain ⟨v,ev,zv⟩:=DL (zs:=[0,0,-1,10 ^ (9:Int).toNat]) (λz=>z.natAbs≤10 ^ 9) 0#e a1 b1
  apply dg e6 ev ?_
  exact k _ H6 s6 (z1.add (Sz.of_lt (m:=45) (k:=10 ^ 9+1) 0#b 0#f))
inductive Es (vs:List V) (H:Hp) (Q:VK) (E_:XK):Prop where
 | mk (l:aq) (hs:List Nn) (u:Int) (m n:Nat):vs=[.ref l,.int u]→H l=some (.lst (bH hs))→iN H hs m n→hs.length≤40→(∀(y A B:aq) (as bs:List Nn) (H':Hp),ao H H'→H' y=some (.tup [.ref A,.ref B])→H' A=some (.lst (bH as))→H' B=some (.lst (bH bs))→as++bs=hs.filter (λx=>decide (x.2.1≤u))→CA bs→bU tP as as.length=false→Q (.ref y) H')→Es vs H Q E_
theorem ko:fz 2 [aM,aV,ig,"_law_cut","_law_at"] um:=0#a
theorem IL (F:fO K "_law_parts" um f fd) (T:Txt mg):bh P w K mg base dm 1 f fd [aM,aV] Es:=by
 refine F.eU ko λcdv A outer s H vs Q E hr h=>?_
 obtain ⟨l,hs,u,em,en,rfl,hl,hes,mX,k⟩:=h
 apply bF ⟨_,(ah (vv (O:=[eG]) (N':=[aV]) (cap:=[1]) (i:=2) ko.nd rfl 0#k rfl (eE K 0#h) (λ_ _ _ _ _=>(cB (i:=0) (show kD [("_law_one":Str),("_law_moment_here":Str)] by decide +kernel) rfl 0#k)) (λ_ _ _ _ _=>(vz (bD GP (bO (MI K) 0#h au 0#g) 0#n 0#K))) (λ_ _ _ _ _=>0#h) rfl 0#u rfl 0#e rfl 0#e (by rfl)) (ah (aL 3 ko.nd au) (ah (iP gR rfl (xH rfl T.range (dZ (fj K T.i7 0#q))) (cB (i:=4) ko.nd rfl 0#k) (aD (cy (bD tS (aH K (bO (gU K) 0#q (aa 4) 0#g)) fU 0#K) (aD (aL 3 ko.nd (aF bB (aa 4) au))) cG))) (aD (aX (bW (bL (rW (TM K) 0#q rX (rY 0#A)) (rW (TM K) 0#q (rY 0#A) rX)))))))),?_⟩
 apply jb ?_
 refine ⟨l,rfl,⟨_,bq.of hl⟩,?_⟩
 refine c9 (xs:=bH hs) cC (λH3 s3=>bq.of (s3 _ _ hl)) (by rw [bQ];simp?) (λi ys G=>ys=bH ((hs.take i).filter (λx=>decide (x.2.1≤u)))) rfl ?_ ?_
 ·rintro D i x ys H3 lF N N0 h0 hD eD s3 hx hy rfl kY kN
  obtain ⟨e,he,rfl⟩:=nY hx
  obtain ⟨ee,_⟩:=(hes e (mT he)).up s3
  have ts:=Kc (λx:Nn=>decide (x.2.1≤u)) hs i e he
  apply ic h0 ?_
  refine c6 0#w 0#w
  ·rw [c,if_pos rfl] at ts
   rw?
   exact kY _ H3 0#t (by rw [ts,← iQ])
  ·rw [if_neg c,nv] at ts
   exact kN H3 0#t (by rw [ts])
 rintro D ys H1 hD eD s1 hy rfl
 rw [bQ,jt] at eD
 generalize hg:hs.filter (λx:Nn=>decide (x.2.1≤u))=gs at eD
 have hgs:iN H1 gs em en:=λx hx=>(hes.up s1) x (Bm.subset (hg▸hx))
 have hgl:gs.length≤40:=dR (hg▸Bm.length_le) mX
 rw?
 apply fq (tV ?_)
 refine dW (.inl (bq.of eD)) ?_
 rw [bQ]
 rw?
 refine ⟨_,rfl,by lia,by lia,dc (λj σ H3=>H3=H1∧RM λ(c:Nat) (v4:Option V)=>σ=[some 0#O,some (.int u),some (.ref D),some (.int (c:Int)),v4]∧c≤j∧bU tP gs c=false∧∀i e,c≤i→i<j→gs[i]?=some e→tP e=true) ?_ ?_ ?_⟩
 ·exact ⟨rfl,0,none,rfl,dS _,rfl,λi e _ h2=>absurd h2 (Cc _)⟩
 ·rintro j σ H3 hj ⟨rfl,c,v4,rfl,hc,hin,hall⟩
  rw [show (0:Int)+(j:Int)=(j:Int) by simp?]
  have hj':j<gs.length:=by simp?
  obtain ⟨e,he⟩:∃e,gs[j]?=some e:=⟨_,jY hj'⟩
  obtain ⟨ee,_⟩:=hgs e (mT he)
  obtain ⟨ae,me,ve⟩:=e
  rw?
  refine dg eD (jF he rfl) ?_
  cases ve with
  | none=>
    rw?
    apply 0#F
    apply cI ?_
    exact ⟨rfl,j+1,_,rfl,dS _,by rw [gw he];rfl,λi e h1 h2=>by simp?⟩
  | some z=>
    rw?
    apply 0#F
    apply bR ?_
    refine ⟨rfl,c,_,rfl,by simp?,hin,λi e h1 h2 h3=>?_⟩
    by_cases q:i=j
    ·subst q
     rw [he] at h3
     cases h3
     rfl
    ·exact hall i e h1 0#b h3
 ·rintro σ H3 ⟨rfl,c,v4,rfl,hc,hin,hall⟩
  have hc':c≤gs.length:=by simp?
  walk_at "vd"
  refine vB eD λA' H4 s4 n4 e4=>?_
  walk_at "vd"
  apply vB (s4 _ _ eD) λB' H5 s5 n5 e5=>?_
  refine aC (mk:=.tup) 0#d λy H6 s6 n6 e6=>?_
  rw [acE,show (bH gs).drop c=bH (gs.drop c) by unfold bH;rw [ES]] at e5
  rw [show j8 (bH gs) none (some (c:Int))=bH (gs.take c) by rw [MY (by rw [bQ];exact hc')];unfold bH;rw [yU]] at e4
  refine k y A' B' (gs.take c) (gs.drop c) H6 (s1.trans (s4.trans (s5.trans s6))) e6 ((s5.trans s6) _ _ e4) (s6 _ _ e5) (by rw [MG,hg]) (λx hx=>?_) ?_
  ·obtain ⟨i,hi⟩:=aaN.mp hx
   rw [rQ] at hi
   have:=(nH.mp hi).1
   exact hall (c+i) x 0#b 0#b hi
  ·rw [oQ,Br hc']
   have:=(om (s:=tP) (as:=gs.take c) (bs:=gs.drop c) c (by rw [oQ,Br hc'];exact dS _)).2
   rw [MG] at this
   rw [← this]
   exact hin
theorem Ec {hs:List Nn} (h:es.map (·.2)=hs.map (λx=>c7 b x.2)) (u:Int):(pW es u).map (·.2)=(hs.filter (λx=>decide (x.2.1≤u))).map (λx=>c7 b x.2):=by
 have a:(pW es u).map (·.2)=(es.map (·.2)).filter (λv:Int×Option Rat=>decide (v.1≤u)):=by rw [Xc];rfl
 have c:(hs.filter (λx=>decide (x.2.1≤u))).map (λx=>c7 b x.2)=(hs.map (λx=>c7 b x.2)).filter (λv:Int×Option Rat=>decide (v.1≤u)):=by rw [Xc];rfl
 rw [a,c,h]
theorem Df (h:A.map (·.2)=as.map (·.2)):bU dh A A.length=bU dh as as.length:=by
 have z:∀(X:List En) (n:Nat),(X[n]?).map dh=((X.map (·.2))[n]?).map λv:Int×Option Rat=>v.2.isSome:=λX n=>by
  rw [kE,Option.map_map]
  rfl
 unfold bU
 rw [z,h,← z,cK h]
theorem UY:bU dh (gh as b) (gh as b).length=bU tP as as.length:=by
 unfold bU
 rw [tF]
 unfold gh
 rw [kE]
 cases as[as.length-1]? with
 | none=>rfl
 | some x=>
   show _=(decide (0<as.length)&&tP x)
   congr 1
   show dh (x.1,c7 b x.2)=tP x
   unfold dh c7 tP
   simp
theorem GA (h:∀x∈ms,x.2.2=none):∀i,i≤ms.length→parts dh ms i=[]∧bU dh ms i=false
 | 0,_=>0#U
 | i+1,hi=>by
   obtain ⟨e,he⟩:∃e,ms[i]?=some e:=⟨_,jY 0#b⟩
   have hs:dh e=false:=by unfold dh;rw [h e (mT he)];rfl
   exact ⟨by rw [i8 he hs];exact (GA h i 0#b).1,by rw [gw he];exact hs⟩
theorem Uk (h:A++B=A'++B') (hA:bU dh A A.length=false) (hA':bU dh A' A'.length=false) (hB:iK B) (hB':iK B'):A=A'∧B=B':=by
 have key:∀{A B C B':List En},B=C++B'→iK B→bU dh (A++C) (A++C).length=false→C=[]:=λ{A B C B'} e hB hi=>by
  rcases Mn C with z | ⟨t,x,z⟩
  ·exact z
  ·rw [z,aaO,← yS,fh,Kd,gw (e:=x) (by rw [yR (dS _),RA];rfl)] at hi
   have:=hB x (by rw [e,z];simp)
   rw [this] at hi
   cases hi
 rcases List.append_eq_append_iff.mp h with ⟨C,e1,e2⟩ | ⟨C,e1,e2⟩
 ·obtain rfl:=key e2 hB (e1▸hA')
  rw [nv] at e1
  exact ⟨e1.symm,e2⟩
 ·obtain rfl:=key e2 hB' (e1▸hA)
  rw [nv] at e1
  exact ⟨e1,e2.symm⟩
theorem Yv {hs:List Nn} (hm:∀x∈ms,x.2.2=none) (h:es.map (·.2)=hs.map (λx=>c7 b x.2)) (hab:as++bs=hs.filter (λx=>decide (x.2.1≤u))) (hS:CA bs) (hin:bU tP as as.length=false):∃X,X.map (·.2)=(gh as b).map (·.2)∧(Gi (ms++es) u).map (·.2)=(gh bs b).map (·.2)∧parts dh (Fd (ms++es) u) (Fd (ms++es) u).length=parts dh X X.length:=by
 have e0:pW (ms++es) u=pW ms u++pW es u:=Ca ..
 have e1:=Ec h u
 rw [← hab,jD] at e1
 obtain ⟨X,Y,e2,hX,hY⟩:=WK.mp e1
 rw [← HR] at hX hY
 have hg:∀x∈pW ms u,x.2.2=none:=λx hx=>hm x (Bm.subset hx)
 obtain ⟨g1,g2⟩:=GA hg _ (dS _)
 have hc:=z7 (s:=dh) (as:=pW ms u) (bs:=X) g2 X.length (dS _)
 rw [← fh] at hc
 have hY':iK Y:=by
  have:=U5 (es:=Y) (hs:=bs) (b:=b) (by rw [hY,HR]) hS
  exact this
 have:=Uk (A:=Fd (ms++es) u) (B:=Gi (ms++es) u) (A':=pW ms u++X) (B':=Y) (by unfold Fd Gi;rw [MG,e0,e2,yS]) (Qa _) (by rw [hc.2,Df hX,UY];exact hin) (HQ _) hY'
 refine ⟨X,hX,by rw [this.2];exact hY,?_⟩
 rw [this.1,hc.1,g1]
 rfl
structure Z8 (es:List En) (s h g:Rat) (m:Nat):Prop where
 nn:0≤g
 le:∀p,p<m→dP (fX es s h p)≤g
 ex:g=0∨∃p,p<es.length∧g=dP (fX es s h p)
theorem tN:fX es s' h' p-fX es s h p=(s-s')*(mo es p:Rat)+(h-h'):=by
 unfold fX
 grind
theorem S9 {u:Rat} (hxy:x≠y) (h1:u*x+v=0) (h2:u*y+v=0):u=0∧v=0:=by
 have:u*(x-y)=0:=by grind
 rcases Mv.mp this with z | z
 ·exact ⟨z,by rw [z] at h1;grind⟩
 ·exact absurd 0#B hxy
theorem only (d9:rising es) (hB:sJ es s h w F) (hG:Z8 es s' h' g es.length) (h2:2≤es.length) (hne:¬(s'=s∧h'=h)):w<g:=by
 refine J9 λz=>hne ?_
 have hle:∀p,p<es.length→dP (fX es s' h' p)≤w:=λp hp=>by
  have:=hG.le p hp
  grind
 have fin:∀{p q:Nat},p<q→q<es.length→fX es s' h' p=fX es s h p→fX es s' h' q=fX es s h q→s'=s∧h'=h:=λ{p q} hpq hq e1 e2=>by
  have t1:(mo es p:Rat)<(mo es q:Rat):=sy.mpr (iC d9 hpq hq)
  have a:=tN (es:=es) (s:=s) (h:=h) (s':=s') (h':=h') (p:=p)
  have b:=tN (es:=es) (s:=s) (h:=h) (s':=s') (h':=h') (p:=q)
  rw [e1] at a
  rw [e2] at b
  obtain ⟨u,v⟩:=S9 (show (mo es p:Rat)≠(mo es q:Rat) by grind) (show (s-s')*(mo es p:Rat)+(h-h')=0 by grind) 0#B
  exact ⟨by grind,by grind⟩
 cases F with
 | none=>
   have w0:=hB.none_ rfl
   have nul:∀p,p<es.length→fX es s' h' p=fX es s h p:=λp hp=>by
    have a:=kg.mp (hle p hp)
    have b:=kg.mp (hB.le p hp)
    rw [w0] at a b
    grind
   exact fin (show 0<1 by decide) h2 (nul 0 0#c) (nul 1 h2)
 | some x=>
   obtain ⟨i,j,k⟩:=x
   obtain ⟨_,hij,hjk,hk,ho⟩:=hB.We i j k rfl
   have t1:(mo es i:Rat)<(mo es j:Rat):=sy.mpr (iC d9 hij 0#c)
   have t2:(mo es j:Rat)<(mo es k:Rat):=sy.mpr (iC d9 hjk hk)
   have ai:=kg.mp (hle i 0#c)
   have aj:=kg.mp (hle j 0#c)
   have ak:=kg.mp (hle k hk)
   have di:=tN (es:=es) (s:=s) (h:=h) (s':=s') (h':=h') (p:=i)
   have dj:=tN (es:=es) (s:=s) (h:=h) (s':=s') (h':=h') (p:=j)
   have dk:=tN (es:=es) (s:=s) (h:=h) (s':=s') (h':=h') (p:=k)
   have key:∀{x y z u v:Rat},0≤x→y≤0→0≤z→x=u*(mo es i:Rat)+v→y=u*(mo es j:Rat)+v→z=u*(mo es k:Rat)+v→x=0∧z=0:=λ{x y z u v} hx hy hz e1 e2 e3=>by
    have e:y*0#S=x*((mo es k:Rat)-(mo es j:Rat))+z*((mo es j:Rat)-(mo es i:Rat)):=by
     rw [e1,e2,e3]
     grind
    have g1:=Mw hx (show 0≤(mo es k:Rat)-(mo es j:Rat) by grind)
    have g2:=Mw hz (show 0≤(mo es j:Rat)-(mo es i:Rat) by grind)
    have g3:=Mw (show 0≤-y by grind) (show 0≤(mo es k:Rat)-(mo es i:Rat) by grind)
    have k1:x*((mo es k:Rat)-(mo es j:Rat))=0:=by grind
    have k2:z*((mo es j:Rat)-(mo es i:Rat))=0:=by grind
    refine ⟨?_,?_⟩
    ·rcases Mv.mp k1 with q | q
     ·exact q
     ·exact absurd q 0#B
    ·rcases Mv.mp k2 with q | q
     ·exact q
     ·exact absurd q 0#B
   rcases ho with ⟨o1,o2,o3⟩ | ⟨o1,o2,o3⟩
   ·obtain ⟨u,v⟩:=key (by rw [o1];grind) (by rw [o2];grind) (by rw [o3];grind) di dj dk
    exact fin (show i<k by try?) hk 0#B 0#B
   ·obtain ⟨u,v⟩:=key (x:=-(fX es s' h' i-fX es s h i)) (y:=-(fX es s' h' j-fX es s h j)) (z:=-(fX es s' h' k-fX es s h k)) (by rw [o1];grind) (by rw [o2];grind) (by rw [o3];grind) (show _=-(s-s')*(mo es i:Rat)+-(h-h') by rw [di];grind) (by rw [dj];grind) (by rw [dk];grind)
    exact fin (show i<k by try?) hk 0#B 0#B
theorem GO.uniq (h:GO ss B fl ro g) (h':GO ss B fl ro g'):g=g':=by
 cases g with
 | none=>
   cases g' with
   | none=>rfl
   | some G'=>
     obtain ⟨_,q,p,a,b,c,d,_⟩:=h'
     exact absurd d (h q p a b c)
 | some G=>
   cases g' with
   | none=>
     obtain ⟨_,q,p,a,b,c,d,_⟩:=h
     exact absurd d (h' q p a b c)
   | some G'=>
     obtain ⟨l,q,p,a,b,c,d,e⟩:=h
     obtain ⟨l',q',p',a',b',c',d',e'⟩:=h'
     have h1:=l' q p a b c d
     have h2:=l q' p' a' b' c' d'
     rw [e] at h1
     rw [e'] at h2
     rw [vF h1 h2]
theorem SO.uniq (h:SO ss B fl ro s) (h':SO ss B fl ro s'):s=s':=by
 cases s with
 | none=>
   cases s' with
   | none=>rfl
   | some G'=>
     obtain ⟨_,q,p,a,b,c,d,_⟩:=h'
     exact absurd d (h q p a b c)
 | some G=>
   cases s' with
   | none=>
     obtain ⟨_,q,p,a,b,c,d,_⟩:=h
     exact absurd d (h' q p a b c)
   | some G'=>
     obtain ⟨l,q,p,a,b,c,d,e⟩:=h
     obtain ⟨l',q',p',a',b',c',d',e'⟩:=h'
     have h1:=l' q p a b c d
     have h2:=l q' p' a' b' c' d'
     rw [e] at h1
     rw [e'] at h2
     rw [vF h2 h1]
theorem rR.uniq (h:rR ss β fl ro m q G f a b) (h':rR ss β fl ro m q G f' a' b'):f=f'∧b=b':=by
 have ef:f=f':=vF (by rw [← h.eb];exact h'.lo b h.hb h.lb) (by rw [← h'.eb];exact h.lo b' h'.hb h'.lb)
 subst ef
 refine 0#F
 rcases EL b b' with z | z | z
 ·exact absurd h'.eb (h.fb b' z h'.lb)
 ·exact z
 ·exact absurd h.eb (h'.fb b z h.lb)
theorem rS.uniq (h:rS ss β fl ro m q G f a b) (h':rS ss β fl ro m q G f' a' b'):f=f'∧b=b':=by
 have ef:f=f':=vF (by rw [← h'.eb];exact h.hi b' h'.hb h'.lb) (by rw [← h.eb];exact h'.hi b h.hb h.lb)
 subst ef
 refine 0#F
 rcases EL b b' with z | z | z
 ·exact absurd h'.eb (h.fb b' z h'.lb)
 ·exact z
 ·exact absurd h.eb (h'.fb b z h.lb)
theorem Tr.det (h:Tr es β k fl ro ks ts):∀{XJ XT:Nat} {ks':List (Rat×Rat)} {ts':List (Bool×Nat×Nat×Nat)},Tr es β k XJ XT ks' ts'→fl=XJ∧ro=XT∧ks=ks':=by
 induction h with
 | nil=>
   intro XJ XT ks' ts' h'
   cases h'
   exact ⟨rfl,rfl,rfl⟩
 | @stay k fl ro ls ts g s g1 s1 h hk hP Qd hN ih=>
   intro XJ XT ks' ts' h'
   cases h' with
   | stay h2 _ _ _ _=>exact ih h2
   | cap h2 _ Nb Yz=>
     obtain ⟨rfl,rfl,rfl⟩:=ih h2
     obtain ⟨i,i1,i2,i3⟩:=Yz.off
     exact absurd (hN.1 _ (hP.go.uniq Nb.go) i i1 i2) (oN.mpr i3)
   | PK h2 _ Nb _ Yz=>
     obtain ⟨rfl,rfl,rfl⟩:=ih h2
     obtain ⟨i,i1,i2,i3⟩:=Yz.off
     exact absurd (hN.2 _ (hP.so.uniq Nb.so) i i1 i2) (oN.mpr i3)
 | @cap k fl ro a b ls ts s G f h hk hP hC ih=>
   intro XJ XT ks' ts' h'
   cases h' with
   | stay h2 _ Nb _ hN2=>
     obtain ⟨rfl,rfl,rfl⟩:=ih h2
     obtain ⟨i,i1,i2,i3⟩:=hC.off
     exact absurd (hN2.1 _ (Nb.go.uniq hP.go) i i1 i2) (oN.mpr i3)
   | cap h2 _ Nb Yz=>
     obtain ⟨rfl,rfl,rfl⟩:=ih h2
     have e:=qE (hP.go.uniq Nb.go)
     subst e
     obtain ⟨rfl,rfl⟩:=hC.uniq Yz
     exact ⟨rfl,rfl,rfl⟩
   | PK h2 _ Nb hn2 _=>
     obtain ⟨rfl,rfl,rfl⟩:=ih h2
     exact absurd ⟨G,Nb.go.uniq hP.go,hC.off⟩ hn2
 | @PK k fl ro a b ls ts g S f h hk hP hn hC ih=>
   intro XJ XT ks' ts' h'
   cases h' with
   | stay h2 _ Nb _ hN2=>
     obtain ⟨rfl,rfl,rfl⟩:=ih h2
     obtain ⟨i,i1,i2,i3⟩:=hC.off
     exact absurd (hN2.2 _ (Nb.so.uniq hP.so) i i1 i2) (oN.mpr i3)
   | cap h2 _ Nb Yz=>
     obtain ⟨rfl,rfl,rfl⟩:=ih h2
     exact absurd ⟨_,hP.go.uniq Nb.go,Yz.off⟩ hn
   | PK h2 _ Nb _ Yz=>
     obtain ⟨rfl,rfl,rfl⟩:=ih h2
     have e:=qE (hP.so.uniq Nb.so)
     subst e
     obtain ⟨rfl,rfl⟩:=hC.uniq Yz
     exact ⟨rfl,rfl,rfl⟩
theorem Tr.pre (h:Tr es β k fl ro ks ts):∀m,m≤k→∃XJ XT ks' ts',Tr es β m XJ XT ks' ts'∧ks' <+: ks:=by
 induction h with
 | nil=>exact λm hm=>⟨0,0,[],[],by rw [show m=0 by simp?];exact .nil,Rm _⟩
 | @stay k fl ro ls ts g s g1 s1 h hk hP Qd hN ih=>
   intro m hm
   by_cases e:m=k+1
   ·subst e
    exact ⟨_,_,_,_,.stay h hk hP Qd hN,Rm _⟩
   ·exact ih m 0#b
 | @cap k fl ro a b ls ts s G f h hk hP hC ih=>
   intro m hm
   by_cases e:m=k+1
   ·subst e
    exact ⟨_,_,_,_,.cap h hk hP hC,Rm _⟩
   ·obtain ⟨f1,r1,k1,t1,q1,q2⟩:=ih m 0#b
    exact ⟨f1,r1,k1,t1,q1,q2.trans (aa5 _ _)⟩
 | @PK k fl ro a b ls ts g S f h hk hP hn hC ih=>
   intro m hm
   by_cases e:m=k+1
   ·subst e
    exact ⟨_,_,_,_,.PK h hk hP hn hC,Rm _⟩
   ·obtain ⟨f1,r1,k1,t1,q1,q2⟩:=ih m 0#b
    exact ⟨f1,r1,k1,t1,q1,q2.trans (aa5 _ _)⟩
theorem Ac (h:m≤es.length):piece (es++xs) n m=piece es n m:=by
 unfold piece
 rcases Mz n es.length with z | z
 ·rw [Pk (nA z),WG (by rw [mO];simp?)]
 ·rw [show m-n=0 by simp?,Hq,Hq]
theorem BC.sub (hm:m≤m') (hl:m'≤es.length) (h:BC (piece es n m') B):BC (piece es n m) B:=by
 have lo:∀i,i<m-n→mo (piece es n m) i=mo (piece es n m') i∧wo (piece es n m) i=wo (piece es n m') i:=λi hi=>by
  unfold mo wo
  rw [qo hi,qo 0#b]
  exact 0#U
 intro i j k l hij hj Sq hl'
 rw [kX 0#b] at hj hl'
 have:=h i j k l hij (by rw [kX hl];simp?) Sq (by rw [kX hl];simp?)
 unfold jx gE at this ⊢
 rw [(lo i 0#b).1,(lo i 0#b).2,(lo j hj).1,(lo j hj).2,(lo k 0#b).1,(lo k 0#b).2,(lo l hl').1,(lo l hl').2]
 exact this
theorem Cut.stay {es xs:List En} {B:Rat} {qs yW:List (List En)} (h:Cut es B qs es.length) (h':Cut (es++xs) B yW (es++xs).length):∀i,i+1<qs.length→yW[i]?=qs[i]?:=by
 obtain ⟨pos,p0,pn,hq⟩:=h
 obtain ⟨pos',p0',kF,hq'⟩:=h'
 have hl:(es++xs).length=es.length+xs.length:=fh
 have mono:∀{qs:List (List En)} {pos:Nat→Nat},(∀i q,qs[i]?=some q→pos i<pos (i+1))→∀i j,i<j→j≤qs.length→pos i<pos j:=λ{qs pos} hm i j hij=>by
  induction j with
  | zero=>simp?
  | succ j ih=>
    intro hj
    have a:=hm j _ (jY (show j<qs.length by simp?))
    by_cases e:i=j
    ·subst e
     exact a
    ·have:=ih 0#b 0#b
     simp?
 have m1:=mono (qs:=qs) (pos:=pos) λi q h=>(hq i q h).1
 have m2:=mono (qs:=yW) (pos:=pos') λi q h=>(hq' i q h).1
 have key:∀i,i<qs.length→i≤yW.length∧pos' i=pos i:=by
  intro i
  induction i with
  | zero=>exact λ_=>⟨lX _,p0'.trans p0.symm⟩
  | succ i ih=>
    intro hi
    obtain ⟨a,b⟩:=ih 0#b
    obtain ⟨c1,c2,c3,c4,c5⟩:=hq i _ (jY (show i<qs.length by simp?))
    have hlt:pos (i+1)<es.length:=by
     have:=m1 (i+1) qs.length hi (dS _)
     simp?
    have hi':i<yW.length:=by
     refine J9 λz=>?_
     have e:i=yW.length:=by simp?
     rw [e,kF] at b
     rw [← e] at b
     simp?
    obtain ⟨d1,d2,d3,d4,d5⟩:=hq' i _ (jY hi')
    refine ⟨hi',?_⟩
    rw [c3] at c4
    rw [d3,b] at d4
    rw [b] at d5 d1
    rcases EL (pos' (i+1)) (pos (i+1)) with z | z | z
    ·refine absurd ?_ (d5 0#b)
     rw [Ac 0#b]
     exact BC.sub 0#b c2 c4
    ·exact z
    ·refine absurd ?_ (c5 hlt)
     rw [← Ac (xs:=xs) 0#b]
     exact BC.sub 0#b d2 d4
 intro i hi
 obtain ⟨a,b⟩:=key i 0#b
 obtain ⟨a1,b1⟩:=key (i+1) hi
 have hi':i<yW.length:=by simp?
 obtain ⟨c1,c2,c3,_⟩:=hq i _ (jY (show i<qs.length by simp?))
 obtain ⟨d1,d2,d3,_⟩:=hq' i _ (jY hi')
 rw [jY hi',jY (show i<qs.length by simp?),d3,c3,b,b1,Ac c2]
theorem sJ.det (d9:rising q) (hB:sJ q s h w F) (hL:XD q s h) (hB':sJ q s' h' w' F') (hL':XD q s' h'):s=s'∧h=h':=by
 have wst:∀{s h w:Rat} {F:Option (Nat×Nat×Nat)},sJ q s h w F→Z8 q s h w q.length:=λ{s h w F} hB=>⟨hB.nn,hB.le,by
  cases F with
  | none=>exact .inl (hB.none_ rfl)
  | some x=>
    obtain ⟨i,j,k⟩:=x
    obtain ⟨_,h1,h2,h3,h4⟩:=hB.We i j k rfl
    have:=hB.nn
    refine .inr ⟨i,by simp?,?_⟩
    unfold dP
    rcases h4 with ⟨e,_⟩ | ⟨e,_⟩ <;> rw [e] <;> split <;> grind⟩
 rcases Mz q.length 2 with z | z
 ·rcases hL with ⟨_,a,b⟩ | ⟨i,j,k,h1,h2,_⟩
  ·rcases hL' with ⟨_,c,d⟩ | ⟨i,j,k,h1,h2,_⟩
   ·exact ⟨a.trans c.symm,b.trans d.symm⟩
   ·simp?
  ·simp?
 ·refine J9 λne=>?_
  have l1:=only d9 hB (wst hB') z λe=>ne ⟨e.1.symm,e.2.symm⟩
  have l2:=only d9 hB' (wst hB) z ne
  grind
def RI (β:Rat) (r:List En) (ds:List (Rat×Rat×Rat×Rat)):Prop:=∃qs,Cut r (2*β) qs r.length∧gK (λq d=>∃(s h w:Rat) (F:Option (Nat×Nat×Nat)),sJ q s h w F∧XD q s h∧d=((mo q 0:Rat),s*(mo q 0:Rat)+h,(mo q (q.length-1):Rat),s*(mo q (q.length-1):Rat)+h)) qs ds
def RK (β:Rat) (r:List En) (ds:List (Rat×Rat×Rat×Rat)):Prop:=∃(ks:List (Rat×Rat)) (ts:List (Bool×Nat×Nat×Nat)) (L:Rat×Rat) (fl ro:Nat) (g s:Option Rat),Tr r β r.length fl ro ks ts∧yY r fl ro β g s∧qc r β fl g s L.1 L.2∧ds=(gD (ks.length+1)).map (IZ (ks++[L]) (mo r 0) (mo r (r.length-1)))
def mQ (wy:Wy) (β:Rat) (r:List En) (ds:List (Rat×Rat×Rat×Rat)):Prop:=match wy with
 | .ap=>RI β r ds
 | .jo=>RK β r ds
 | .sp=>Told r β false ds
 | .ch=>Told r β true ds
theorem Cut.af6 (h:Cut es B qs n) {i:Nat} (hq:qs[i]?=some q):q.Sublist es:=by
 obtain ⟨pos,_,_,hp⟩:=h
 obtain ⟨_,_,e,_⟩:=hp i q hq
 rw [e]
 exact (yE _ _).trans (yF _ _)
theorem CU:∀{qs yW:List α} {ds ds':List γ} (m:Nat),gK R qs ds→gK R yW ds'→(∀i,i<m→yW[i]?=qs[i]?)→m≤qs.length→(∀(i:Nat) q d d',qs[i]?=some q→R q d→R q d'→d=d')→ds'.take m=ds.take m
 | _,_,_,_,0,_,_,_,_,_=>by rw [Hq,Hq]
 | [],_,_,_,m+1,_,_,_,h,_=>absurd h 0#d
 | q::qs,[],_,_,m+1,_,_,h,_,_=>nomatch h 0 (MA _)
 | q::qs,q'::yW,[],_,m+1,h,_,_,_,_=>h.elim
 | q::qs,q'::yW,_::_,[],m+1,_,h,_,_,_=>h.elim
 | q::qs,q'::yW,d::ds,d'::ds',m+1,h1,h2,h3,h4,h5=>by
   have e:q'=q:=qE (h3 0 (MA _))
   subst e
   rw [WR,WR,h5 0 q' d' d rfl h2.1 h1.1,CU m h1.2 h2.2 (λi hi=>h3 (i+1) 0#b) (by simp at h4;simp?) λi q d d' a=>h5 (i+1) q d d' a]
theorem RI.stay {β:Rat} {es xs:List En} {ds ds':List (Rat×Rat×Rat×Rat)} (hr:rising es) (h:RI β es ds) (h':RI β (es++xs) ds'):ds'.take (ds.length-1)=ds.take (ds.length-1):=by
 obtain ⟨qs,hC,hE⟩:=h
 obtain ⟨yW,hC',hE'⟩:=h'
 have hl:qs.length=ds.length:=by
  have:∀{α γ:Type} {R:α→γ→Prop} {as:List α} {bs:List γ},gK R as bs→as.length=bs.length:=λ{α γ R as bs} h=>by
   induction as generalizing bs with
   | nil=>cases bs with | nil=>rfl | cons _ _=>exact h.elim
   | cons a as ih=>cases bs with | nil=>exact h.elim | cons b bs=>rw [Gg,Gg,ih h.2]
  exact this hE
 refine CU (ds.length-1) hE hE' (λi hi=>Cut.stay hC hC' i 0#b) 0#b ?_
 rintro i q d d' hq ⟨s,h,w,F,a,b,rfl⟩ ⟨s',h',w',F',a',b',rfl⟩
 obtain ⟨rfl,rfl⟩:=sJ.det (hr.sublist (hC.af6 hq)) a b a' b'
 rfl
theorem Tr.cat (h:Tr es β k fl ro ks ts):Tr (es++xs) β k fl ro ks ts:=by
 have tk:∀{k:Nat},k≤es.length→(es++xs).take k=es.take k:=λhk=>WG hk
 have hl:es.length≤(es++xs).length:=by rw [fh];exact yH _ _
 induction h with
 | nil=>exact .nil
 | @stay k fl ro ls ts g s g1 s1 h hk hP Qd hN ih=>exact .stay ih 0#b (by rw [tk (nA hk)];exact hP) (by rw [tk hk];exact Qd) (by rw [tk (nA hk),(qT hk).1,(qT hk).2];exact hN)
 | @cap k fl ro a b ls ts s G f h hk hP hC ih=>exact .cap ih 0#b (by rw [tk (nA hk)];exact hP) (by rw [tk (nA hk),(qT hk).1,(qT hk).2];exact hC)
 | @PK k fl ro a b ls ts g S f h hk hP hn hC ih=>exact .PK ih 0#b (by rw [tk (nA hk)];exact hP) (by rw [tk (nA hk),(qT hk).1,(qT hk).2];exact hn) (by rw [tk (nA hk),(qT hk).1,(qT hk).2];exact hC)
theorem Ck (h:ks <+: ks')  (hj:j<ks.length):FE (ks'++[L']) j=FE (ks++[L]) j∧MJ (ks'++[L']) j=MJ (ks++[L]) j:=by
 obtain ⟨z,rfl⟩:=h
 unfold FE MJ
 rw [yS,vn hj,vn hj]
 exact 0#U
theorem RK.stay {β:Rat} {es xs:List En} {ds ds':List (Rat×Rat×Rat×Rat)} (h1:1≤es.length) (h:RK β es ds) (h':RK β (es++xs) ds'):ds'.take (ds.length-2)=ds.take (ds.length-2):=by
 obtain ⟨ks,ts,L,fl,ro,g,s,hT,_,_,rfl⟩:=h
 obtain ⟨ks',ts',L',XJ,XT,g',s',hT',_,_,rfl⟩:=h'
 obtain ⟨f1,r1,k1,t1,hT1,hpre⟩:=hT'.pre es.length (by rw [fh];exact yH _ _)
 obtain ⟨_,_,rfl⟩:=(hT.cat (xs:=xs)).det hT1
 have hle:=hpre.length_le
 rw [gI,Hh,← yU,← yU,abv,abv,show min (ks.length+1-2) (ks'.length+1)=min (ks.length+1-2) (ks.length+1) by simp?]
 refine WS λi hi=>?_
 have hi':i+1<ks.length:=by
  have:=uN.mp hi
  simp?
 have pt:∀j,j<ks.length→jm (ks'++[L']) (mo (es++xs) 0) (mo (es++xs) ((es++xs).length-1)) j=jm (ks++[L]) (mo es 0) (mo es (es.length-1)) j:=λj hj=>by
  unfold jm
  rw [(qT (xs:=xs) (show 0<es.length by simp?)).1]
  by_cases z:j=0
  ·rw [if_pos z,if_pos z,(Ck (L:=L) (L':=L') hpre (show 0<ks.length by simp?)).1,(Ck (L:=L) (L':=L') hpre (show 0<ks.length by simp?)).2]
  ·rw [if_neg z,if_neg z,if_pos (by rw [fh];simp?),if_pos (by rw [fh];simp?)]
   have a:=Ck (L:=L) (L':=L') hpre (show j-1<ks.length by simp?)
   have b:=Ck (L:=L) (L':=L') hpre (show j-1+1<ks.length by simp?)
   unfold xAt
   rw [a.1,a.2,b.1,b.2]
 unfold IZ
 rw [pt i 0#b,pt (i+1) hi']
theorem Ma (h1:1≤es.length) (h:Told es β aI l) (h':Told es β aI l'):l=l':=by
 obtain ⟨t,ps,hF,hW,rfl⟩:=h
 obtain ⟨t',ps',hF',hW',rfl⟩:=h'
 have:=(hW.congr (HL hF hF') 0#b).eq hW'
 rw [this]
theorem qc.uniq (h:qc ss β fl g s T f) (h':qc ss β fl g s T' f'):T=T'∧f=f':=by
 have eqf:∀{T f f':Rat},(∀i,fl≤i→i<ss.length→cS ss T i-β≤f)→(∃i,fl≤i∧i<ss.length∧cS ss T i-β=f)→(∀i,fl≤i→i<ss.length→cS ss T i-β≤f')→(∃i,fl≤i∧i<ss.length∧cS ss T i-β=f')→f=f':=λa ⟨i,i1,i2,i3⟩ b ⟨j,j1,j2,j3⟩=>vF (by rw [← i3];exact b i i1 i2) (by rw [← j3];exact a j j1 j2)
 rcases h with ⟨hT,a,b⟩ | ⟨a,b,rfl,rfl⟩
 ·rcases h' with ⟨hT',a',b'⟩ | ⟨a',b',rfl,rfl⟩
  ·have eT:T=T':=by
    rcases hT with e | ⟨e,e2⟩
    ·rcases hT' with e' | ⟨e',_⟩
     ·exact qE (e.symm.trans e')
     ·rw [e] at e';cases e'
    ·rcases hT' with e' | ⟨_,Ym⟩
     ·rw [e] at e';cases e'
     ·exact qE (e2.symm.trans Ym)
   subst eT
   exact ⟨rfl,eqf a b a' b'⟩
  ·rcases hT with e | ⟨_,e2⟩
   ·rw [a'] at e;cases e
   ·rw [b'] at e2;cases e2
 ·rcases h' with ⟨hT',a',b'⟩ | ⟨_,_,rfl,rfl⟩
  ·rcases hT' with e | ⟨_,e2⟩
   ·rw [a] at e;cases e
   ·rw [b] at e2;cases e2
  ·exact 0#U
theorem RK.uniq (h:RK β es ds) (h':RK β es ds'):ds=ds':=by
 obtain ⟨ks,ts,L,fl,ro,g,s,hT,hP,hN,rfl⟩:=h
 obtain ⟨ks',ts',L',XJ,XT,g',s',hT',Qd,hN',rfl⟩:=h'
 obtain ⟨rfl,rfl,rfl⟩:=hT.det hT'
 obtain rfl:=hP.go.uniq Qd.go
 obtain rfl:=hP.so.uniq Qd.so
 obtain ⟨e1,e2⟩:=hN.uniq hN'
 rw [show L=L' from Prod.ext e1 e2]
theorem Cut.det (h:Cut es B qs es.length) (h':Cut es B yW es.length):∀i,i+1<qs.length→yW[i]?=qs[i]?:=by
 have:=Cut.stay (xs:=[]) h (by rw [nv];exact h')
 exact this
theorem Cut.flat (h:Cut es B qs n):qs.flatten=es.take n:=by
 obtain ⟨pos,p0,pn,hq⟩:=h
 have all:∀i,i≤qs.length→(qs.take i).flatten=es.take (pos i):=by
  intro i
  induction i with
  | zero=>intro _;rw [p0,Hq,Hq];rfl
  | succ i ih=>
    intro hi
    obtain ⟨a,b,c,_⟩:=hq i _ (jY (show i<qs.length by simp?))
    rw [Bs,jY (show i<qs.length by simp?),Bl,ih 0#b,aa4,WL,c]
    unfold piece
    have e:pos (i+1)=pos i+(pos (i+1)-pos i):=by simp?
    conv=>rhs;rw [e,List.take_add]
 have:=all qs.length (dS _)
 rw [jt,pn] at this
 exact this
theorem Cut.uniq (hr:rising es) (iy:0≤β) (h1:1≤es.length) (h:Cut es (2*β) qs es.length) (h':Cut es (2*β) yW es.length):qs=yW:=by
 obtain ⟨F,v,g,e⟩:=h.pin hr iy h1
 obtain ⟨F',v',g',e'⟩:=h'.pin hr iy h1
 have ev:=(g.uniq g').2
 have hl:qs.length=yW.length:=by simp?
 have tk:qs.take (qs.length-1)=yW.take (qs.length-1):=Ri λi=>by
  rw [G9,G9]
  split
  ·exact (h.det h' i 0#b).symm
  ·rfl
 have f1:=h.flat
 have f2:=h'.flat
 rcases Mn qs with z | ⟨a,x,z⟩
 ·rw [z] at e;simp at e;simp?
 rcases Mn yW with z' | ⟨a',x',z'⟩
 ·rw [z'] at e';simp at e';simp?
 rw [aaO] at z z'
 subst z z'
 simp only [fh,Kd] at hl tk
 rw [G8,abw rfl,abw 0#b] at tk
 subst tk
 rw [Bl,WL] at f1 f2
 rw [List.append_cancel_left (f1.trans f2.symm)]
theorem RI.uniq (hr:rising es) (iy:0≤β) (h1:1≤es.length) (h:RI β es ds) (h':RI β es ds'):ds=ds':=by
 obtain ⟨qs,hC,hE⟩:=h
 obtain ⟨yW,hC',hE'⟩:=h'
 obtain rfl:=hC.uniq hr iy h1 hC'
 have:=CU qs.length hE hE' (λi hi=>rfl) (dS _) (by
  rintro i q d d' hq ⟨s,h,w,F,a,b,rfl⟩ ⟨s',h',w',F',a',b',rfl⟩
  obtain ⟨rfl,rfl⟩:=sJ.det (hr.sublist (hC.af6 hq)) a b a' b'
  rfl)
 rw [SA hE,jt,← SA hE,SA hE',jt] at this
 exact this.symm
theorem mQ.uniq (hr:rising es) (iy:0≤β) (h1:1≤es.length) (h:mQ wy β es ds) (h':mQ wy β es ds'):ds=ds':=by
 cases wy with
 | ap=>exact RI.uniq hr iy h1 h h'
 | jo=>exact RK.uniq h h'
 | sp=>exact Ma h1 h h'
 | ch=>exact Ma h1 h h'
theorem rZ (h:es.map (·.2)=es'.map (·.2)):mo es=mo es':=funext λk=>(fW h k).1
theorem uK (h:es.map (·.2)=es'.map (·.2)):wo es=wo es':=funext λk=>(fW h k).2
theorem NC (h:es.map (·.2)=es'.map (·.2)):jx es=jx es':=by
 funext β i k
 unfold jx
 rw [rZ h,uK h]
theorem Ib (h:es.map (·.2)=es'.map (·.2)):gE es=gE es':=by
 funext β i k
 unfold gE
 rw [rZ h,uK h]
theorem Di (h:es.map (·.2)=es'.map (·.2)):cS es=cS es':=by
 funext T i
 unfold cS
 rw [rZ h,uK h]
theorem Pz (h:es.map (·.2)=es'.map (·.2)) (hS:iK es):iK es':=λx hx=>by
 have:x.2∈es.map (·.2):=h▸jB.mpr ⟨x,hx,rfl⟩
 obtain ⟨y,hy,e⟩:=jB.mp this
 have:=hS y hy
 unfold dh at this ⊢
 rw [← e]
 exact this
theorem ZE (h:es.map (·.2)=es'.map (·.2)) (hr:rising es):rising es':=by
 have a:(es.map (·.2)).Pairwise (λa b:Int×Option Rat=>a.1<b.1):=(Hg (f:=λx:En=>x.2)).mpr hr
 rw [h] at a
 exact (Hg (f:=λx:En=>x.2)).mp a
theorem ZV {es es':List En} (h:es.map (·.2)=es'.map (·.2)) (k:Nat):(es.take k).map (·.2)=(es'.take k).map (·.2):=by rw [yU,yU,h]
theorem DM (h:es.map (·.2)=es'.map (·.2)) (n m:Nat):(piece es n m).map (·.2)=(piece es' n m).map (·.2):=by
 unfold piece
 rw [yU,yU,ES,ES,h]
theorem Ux (h:es.map (·.2)=es'.map (·.2)) (hf:BC es B):BC es' B:=by
 unfold BC at hf ⊢
 rw [NC h,Ib h,cK h] at hf
 exact hf
theorem yY.congr (h:es.map (·.2)=es'.map (·.2)) (p:yY es fl ro β g s):yY es' fl ro β g s:=by
 obtain ⟨a,b,c,d,e,f,f',l,df⟩:=p
 rw [cK h] at c d e
 refine ⟨Pz h a,ZE h b,c,d,e,?_,?_,l,df⟩
 ·cases g with
  | none=>unfold GO at f ⊢;rw [cK h] at f;exact f
  | some G=>unfold GO GF TX at f ⊢;rw [cK h,NC h] at f;exact f
 ·cases s with
  | none=>unfold SO at f' ⊢;rw [cK h] at f';exact f'
  | some S=>unfold SO SF TV at f' ⊢;rw [cK h,Ib h] at f';exact f'
theorem tu.congr (h:es.map (·.2)=es'.map (·.2)) (p:tu es β fl ro g s m q):tu es' β fl ro g s m q:=by
 unfold tu at p ⊢
 rw [cK h,Di h] at p
 exact p
theorem rR.congr (h:es.map (·.2)=es'.map (·.2)) (p:rR es β fl ro m q G f a b):rR es' β fl ro m q G f a b:=by
 obtain ⟨h1,h2,h3,h4,h5,h6,h7,h8,h9,h10,h11⟩:=p
 unfold GF TX at h1
 rw [cK h] at h1 h2 h3 h4 h8 h10
 rw [NC h] at h1
 rw [Di h] at h2 h3 h4 h6 h9 h10
 exact ⟨h1,h2,h3,h4,h5,h6,h7,h8,h9,h10,h11⟩
theorem rS.congr (h:es.map (·.2)=es'.map (·.2)) (p:rS es β fl ro m q G f a b):rS es' β fl ro m q G f a b:=by
 obtain ⟨h1,h2,h3,h4,h5,h6,h7,h8,h9,h10,h11⟩:=p
 unfold SF TV at h1
 rw [cK h] at h1 h2 h3 h4 h8 h10
 rw [Ib h] at h1
 rw [Di h] at h2 h3 h4 h6 h9 h10
 exact ⟨h1,h2,h3,h4,h5,h6,h7,h8,h9,h10,h11⟩
theorem Tr.congr (h:es.map (·.2)=es'.map (·.2)) (p:Tr es β k fl ro ks ts):Tr es' β k fl ro ks ts:=by
 have tk:=ZV h
 induction p with
 | nil=>exact .nil
 | @stay k fl ro ls ts g s g1 s1 p hk hP Qd hN ih=>exact .stay ih (cK h▸hk) (hP.congr (tk _)) (Qd.congr (tk _)) (by rw [← rZ h,← uK h];exact hN.congr (tk _))
 | @cap k fl ro a b ls ts s G f p hk hP hC ih=>exact .cap ih (cK h▸hk) (hP.congr (tk _)) (by rw [← rZ h,← uK h];exact hC.congr (tk _))
 | @PK k fl ro a b ls ts g S f p hk hP hn hC ih=>
   refine .PK ih (cK h▸hk) (hP.congr (tk _)) ?_ (by rw [← rZ h,← uK h];exact hC.congr (tk _))
   rw [← rZ h,← uK h,← Di (tk _),← cK (tk k)]
   exact hn
theorem qc.congr (h:es.map (·.2)=es'.map (·.2)) (p:qc es β fl g s T f):qc es' β fl g s T f:=by
 unfold qc at p ⊢
 rw [cK h,Di h,uK h] at p
 exact p
theorem RK.congr (h:es.map (·.2)=es'.map (·.2)) (p:RK β es ds):RK β es' ds:=by
 obtain ⟨ks,ts,L,fl,ro,g,s,hT,hP,hN,rfl⟩:=p
 refine ⟨ks,ts,L,fl,ro,g,s,cK h▸hT.congr h,hP.congr h,hN.congr h,?_⟩
 rw [rZ h,cK h]
theorem sJ.congr (e:es.map (·.2)=es'.map (·.2)) (p:sJ es s h w F):sJ es' s h w F:=by
 have eo:fX es=fX es':=by
  funext s h p
  unfold fX
  rw [rZ e,uK e]
 obtain ⟨a,b,c,d⟩:=p
 rw [eo,cK e] at b d
 exact ⟨a,b,c,d⟩
theorem XD.congr (e:es.map (·.2)=es'.map (·.2)) (p:XD es s h):XD es' s h:=by
 have XH:sd es=sd es':=by
  funext i j k
  exact LS e i j k
 unfold XD at p ⊢
 rw [cK e,rZ e,uK e,XH] at p
 exact p
theorem RI.congr (h:es.map (·.2)=es'.map (·.2)) (p:RI β es ds):RI β es' ds:=by
 obtain ⟨qs,⟨pos,p0,pn,hq⟩,hE⟩:=p
 refine ⟨(gD qs.length).map λi=>piece es' (pos i) (pos (i+1)),⟨pos,p0,by rw [gI,Hh,pn,cK h],λi q hi=>?_⟩,?_⟩
 ·have il:i<qs.length:=by
   have:=(nH.mp hi).1
   simpa using this
  rw [kE,E3 il] at hi
  obtain rfl:=qE hi
  obtain ⟨a,b,c,d,e⟩:=hq i _ (jY il)
  rw [c] at d
  refine ⟨a,cK h▸b,rfl,Ux (DM h _ _) d,λz f=>e (cK h▸z) (Ux (DM h.symm _ _) f)⟩
 ·have eq:qs.map (·.map (·.2))=((gD qs.length).map λi=>piece es' (pos i) (pos (i+1))).map (·.map (·.2)):=by
   refine Ri λi=>?_
   by_cases il:i<qs.length
   ·rw [kE,kE,kE,E3 il,jY il]
    obtain ⟨_,_,c,_⟩:=hq i _ (jY il)
    rw [c]
    exact congrArg some (DM h _ _)
   ·rw [Q9 (by simpa using il),Q9 (by simpa using il)]
  have e2:=CW eq
  generalize ((gD qs.length).map λi=>piece es' (pos i) (pos (i+1)))=yW at e2
  clear hq pn p0 eq
  induction qs generalizing yW ds with
  | nil=>cases yW with | nil=>exact hE | cons _ _=>exact e2.elim
  | cons q qs ih=>
    cases yW with
    | nil=>exact e2.elim
    | cons q' yW=>
      cases ds with
      | nil=>exact hE.elim
      | cons d ds=>
        refine ⟨?_,ih hE.2 yW e2.2⟩
        obtain ⟨s,h,w,F,a,b,rfl⟩:=hE.1
        exact ⟨s,h,w,F,a.congr e2.1,b.congr e2.1,by rw [rZ e2.1,cK e2.1]⟩
theorem Told.congr (h:es.map (·.2)=es'.map (·.2)) (p:Told es β aI ds):Told es' β aI ds:=by
 obtain ⟨t,ps,hF,hW,rfl⟩:=p
 have eq:OC es=OC es':=by
  funext i j
  unfold OC
  rw [rZ h,uK h]
 rw [Dh h,cK h] at hF hW
 exact ⟨t,ps,hF,hW,by rw [eq,cK h]⟩
theorem mQ.congr (h:es.map (·.2)=es'.map (·.2)) (p:mQ wy β es ds):mQ wy β es' ds:=by
 cases wy with
 | ap=>exact RI.congr h p
 | jo=>exact RK.congr h p
 | sp=>exact Told.congr h p
 | ch=>exact Told.congr h p
def vc (q:Rat):qC:=.tuple [.int q.num,.int (q.den:Int)]
def mz (v:Rat×Rat×Rat×Rat):qC:=.tuple [vc v.1,vc v.2.1,vc v.2.2.1,vc v.2.2.2]
theorem dF.Yu (f:dF H p q n):Den H (.ref p) (vc q):=by
 obtain ⟨t,b,e,g,_⟩:=f
 obtain ⟨rfl,rfl⟩:=g.xS
 exact .tup e (.cons (.int _) (.cons (.int _) .nil))
theorem AllP.RW:∀{ps:List Pc},AllP H ps n→sr H (cJ ps) (ps.map λx=>mz x.2)
 | [],_=>.nil
 | x::ps,h=>by
   obtain ⟨a,b,c,d,e,f1,f2,f3,f4⟩:=h x Ge
   exact .cons (.tup e (.cons (dF.Yu f1) (.cons (dF.Yu f2) (.cons (dF.Yu f3) (.cons (dF.Yu f4) .nil))))) (AllP.RW λy hy=>h y (B9 _ hy))
theorem Vz (v:Rat×Rat×Rat×Rat):oM (mz v) (mz v)=true:=by
 have one:∀q:Rat,oM (vc q) (vc q)=true:=λq=>by
  show (q.num==q.num&&((q.den:Int)==(q.den:Int)&&true))=true
  simp
 show (oM (vc v.1) (vc v.1)&&(oM (vc v.2.1) (vc v.2.1)&&(oM (vc v.2.2.1) (vc v.2.2.1)&&(oM (vc v.2.2.2) (vc v.2.2.2)&&true))))=true
 rw [one,one,one,one]
 rfl
theorem GR:∀vs:List (Rat×Rat×Rat×Rat),Ry (vs.map mz) (vs.map mz)=true
 | []=>rfl
 | v::vs=>by
   show (oM (mz v) (mz v)&&Ry (vs.map mz) (vs.map mz))=true
   rw [Vz,GR vs];rfl
theorem Bc:∀vs:List (Rat×Rat×Rat×Rat),Rj (vs.map mz)=true∧yJ (vs.map mz)≤3
 | []=>⟨rfl,by decide⟩
 | v::vs=>by
   obtain ⟨c,d⟩:=Bc vs
   refine ⟨?_,?_⟩
   ·show ((mz v).canLay0&&Rj (vs.map mz))=true
    rw [c];rfl
   ·show max (mz v).depth (yJ (vs.map mz))≤3
    have:(mz v).depth≤3:=by simp [mz,vc,Xn,yJ]
    try?
theorem SX (h:AllP H ps n) (h':AllP H ps' n') (hl:H l=some (.lst (cJ ps))) (hl':H l'=some (.lst (cJ ps'))) (e:ps.map (·.2)=ps'.map (·.2)) (q:Q (.bl true) H):afB 0#O (.ref l') H Q:=by
 have sh:∀vs:List (Rat×Rat×Rat×Rat),Bw (.list (vs.map mz))=true:=λvs=>by
  obtain ⟨a,b⟩:=Bc vs
  unfold Bw
  rw [yG]
  refine ⟨a,je ?_⟩
  show yJ (vs.map mz)+1≤64
  try?
 have d1:=h.RW
 have d2:=h'.RW
 rw [show (ps.map λx=>mz x.2)=(ps.map (·.2)).map mz by rw [se];rfl] at d1
 rw [show (ps'.map λx=>mz x.2)=(ps'.map (·.2)).map mz by rw [se];rfl] at d2
 refine ⟨_,_,.lst hl d1,.lst hl' d2,sh _,sh _,?_⟩
 rw [e]
 have:oM (.list ((ps'.map (·.2)).map mz)) (.list ((ps'.map (·.2)).map mz))=true:=GR _
 rw [this]
 exact q
theorem xw.mono (f:xw H x n) (h:n≤m):xw H x m:=by
 obtain ⟨a,b,c,d,e,f1,f2,f3,f4⟩:=f
 exact ⟨a,b,c,d,e,f1.mono h,f2.mono h,f3.mono h,f4.mono h⟩
def fR (wy:Wy) (β:Rat) (rs:List (List En)) (ds:List (Rat×Rat×Rat×Rat)):Prop:=∃xC,gK (mQ wy β) rs xC∧ds=xC.flatten
theorem PF:∀{qs:List (List En)} {ps:List aq},ps.length=qs.length→(∀(i:Nat) (q:List En) (p:aq),qs[i]?=some q→ps[i]?=some p→Kg H p q N)→∃GQ:List Pc,GQ.map (·.1)=ps∧AllP H GQ N∧gK (λq d=>∃(s h w:Rat) (F:Option (Nat×Nat×Nat)),sJ q s h w F∧XD q s h∧d=((mo q 0:Rat),s*(mo q 0:Rat)+h,(mo q (q.length-1):Rat),s*(mo q (q.length-1):Rat)+h)) qs (GQ.map (·.2))
 | [],[],_,_=>⟨[],rfl,λx hx=>absurd hx 0#d,trivial⟩
 | q::qs,p::ps,hl,h=>by
   obtain ⟨GQ,a,b,c⟩:=PF (qs:=qs) (ps:=ps) (by simpa using hl) λi q p h1 h2=>h (i+1) q p h1 h2
   obtain ⟨s,e,w,F,f1,f2,f3⟩:=h 0 q p rfl rfl
   refine ⟨(p,_,_,_,_)::GQ,by rw [Bu,a],λx hx=>?_,⟨s,e,w,F,f2,f3,rfl⟩,c⟩
   rcases pZ.mp hx with rfl | z
   ·exact f1
   ·exact b x z
 | [],_::_,hl,_=>nomatch hl
 | _::_,[],hl,_=>nomatch hl
theorem PB:∀{rs:List (List En)} {zs:List (List (List En)×List aq×List aq)},yX H β N rs zs→∃ps:List Pc,cJ ps=(uG zs).map V.ref∧AllP H ps N∧fR .ap β rs (ps.map (·.2))
 | [],[],_=>⟨[],rfl,λx hx=>absurd hx 0#d,[],trivial,rfl⟩
 | r::rs,z::zs,h=>by
   obtain ⟨ps,a,b,xC,c,d⟩:=PB (rs:=rs) (zs:=zs) h.2
   obtain ⟨GQ,a',b',c'⟩:=PF h.1.lp h.1.pc
   refine ⟨GQ++ps,?_,b'.append b,(GQ.map (·.2))::xC,⟨⟨z.1,h.1.cut,c'⟩,c⟩,by rw [jD,d];rfl⟩
   unfold cJ at a ⊢
   unfold uG at a ⊢
   rw [jD,a,List.flatMap_cons,jD,← a',se]
   rfl
 | [],_::_,h=>h.elim
 | _::_,[],h=>h.elim
theorem Ql:∀{rs:List (List En)} {zs:List (List Pc×List X6)},gK (RJ H β N) rs zs→∃ps:List Pc,cJ ps=tM zs∧AllP H ps N∧fR .jo β rs (ps.map (·.2))
 | [],[],_=>⟨[],rfl,λx hx=>absurd hx 0#d,[],trivial,rfl⟩
 | r::rs,z::zs,h=>by
   obtain ⟨ps,a,b,xC,c,d⟩:=Ql (rs:=rs) (zs:=zs) h.2
   obtain ⟨b',_,ks,L,fl,ro,g,s,hT,hP,hN,hps⟩:=h.1
   refine ⟨z.1++ps,?_,AllP.append b' b,(z.1.map (·.2))::xC,⟨⟨ks,_,L,fl,ro,g,s,hT,hP,hN,hps⟩,c⟩,by rw [jD,d];rfl⟩
   unfold cJ tM at a ⊢
   rw [jD,a]
   rfl
 | [],_::_,h=>h.elim
 | _::_,[],h=>h.elim
theorem mQ.len (h1:1≤r.length) (h:mQ wy β r ds):ds.length≤r.length+1:=by
 have tt:∀{aI:Bool},Told r β aI ds→ds.length≤r.length+1:=λ{aI} ⟨t,ps,_,hW,e⟩=>by
  have s1:bS aI≤1:=by cases aI <;> decide
  have:=hW.len
  rw [e,gI]
  split
  ·show 1≤_
   simp?
  ·simp?
 cases wy with
 | ap=>
   obtain ⟨qs,hC,hE⟩:=h
   have:=hC.len
   rw [SA hE] at this
   simp?
 | jo=>
   obtain ⟨ks,ts,L,fl,ro,g,s,hT,_,_,rfl⟩:=h
   have:=hT.len.2
   rw [gI,Hh]
   simp?
 | sp=>exact tt h
 | ch=>exact tt h
theorem fR.len:∀{rs:List (List En)} {ds:List (Rat×Rat×Rat×Rat)},(∀r∈rs,1≤r.length)→fR wy β rs ds→ds.length≤2*rs.flatten.length
 | [],_,_,⟨[],_,e⟩=>by rw [e];exact dS _
 | [],_,_,⟨_::_,h,_⟩=>h.elim
 | _::_,_,_,⟨[],h,_⟩=>h.elim
 | r::rs,_,hr,⟨d::xC,h,e⟩=>by
   have a:=h.1.len (hr r (Ge ..))
   have b:=fR.len (rs:=rs) (ds:=xC.flatten) (λx hx=>hr x (B9 _ hx)) ⟨xC,h.2,rfl⟩
   have:=hr r (Ge ..)
   rw [e,wZ,fh,wZ,fh]
   simp?
theorem rL (h30:es.length≤30) (h:fR wy β (parts dh es es.length) ds):ds.length≤60:=by
 have:=fR.len (λr hr=>E4.mpr (kT es.length r hr).1) h
 rw [wC,jt] at this
 have:(es.filter dh).length≤es.length:=Mm ..
 simp?
theorem u9 (hl:H l=some 0#s) (hR:Row H es 160) (K6:rising es) (h30:es.length≤30) (fb:dF H pb β 150) (iy:0≤β) (k:∀(y X Z:aq) (ps:List Pc) (H':Hp),ao H H'→H' y=some (.tup [.ref X,.ref Z])→H' X=some (.lst (cJ ps))→AllP H' ps 8000→fR wy β (parts dh es es.length) (ps.map (·.2))→Q (.ref y) H'):u6 C [.ref l,.str (J5 wy),.ref pb] H Q E0:=by
 have pm:∀{H:Hp} {ps:List Pc} {n:Nat},AllP H ps n→n≤8000→AllP H ps 8000:=λh hn x hx=>(h x hx).mono hn
 have h33:=uX (s:=dh) (es:=es) es.length
 have hrr:∀r∈parts dh es es.length,r.length≤30:=λr hr=>dR (DC (s:=dh) (es:=es) _ r hr) h30
 have tt:∀(aI:Bool),(∀(y X Z:aq) (ps:List Pc) (H':Hp),ao H H'→H' y=some (.tup [.ref X,.ref Z])→H' X=some (.lst (cJ ps))→AllP H' ps 8000→(∃xC,gK (λr l=>Told r β aI l) (parts dh es es.length) xC∧ps.map (·.2)=xC.flatten)→Q (.ref y) H')→uF aI [.ref l,.ref pb] H Q E0:=λaI k=>by
  refine ⟨l,pb,rfl,l,pb,es,160,150,β,aI,rfl,hl,hR,K6,by simp?,by simp?,hrr,fb.qt,by decide,by decide,by decide,λy X Z ps H' s ey nX eX hP aiD hT _ _ _ _ _ _ _=>k y X Z ps H' s ey eX (pm hP 0#f) ?_⟩
  obtain ⟨qss,e1,e2⟩:=hT
  rw [jt] at e1
  exact ⟨qss,e1,e2⟩
 refine ⟨l,pb,wy,rfl,λe=>?_,λe=>?_,λe=>?_,λe=>?_⟩
 ·subst e
  refine ⟨l,pb,es,β,160,150,rfl,hl,hR,K6,by simp?,fb.qt,iy,by decide,by decide,by decide,λy X Z zs H' s ey nX nZ SI eX eZ hA=>?_⟩
  obtain ⟨ps,a,b,c⟩:=PB hA
  exact k y X Z ps H' s ey (by rw [a];exact eX) (pm b 0#f) c
 ·subst e
  refine ⟨l,pb,es,β,160,150,rfl,hl,hR,K6,by simp?,fb,iy,by decide,by decide,by decide,by decide,λy X Z zs H' s ey nX nZ SI eX eZ hA=>?_⟩
  obtain ⟨ps,a,b,c⟩:=Ql hA
  exact k y X Z ps H' s ey (by rw [a];exact eX) (pm b 0#f) c
 ·subst e
  exact tt false k
 ·subst e
  exact tt true k
def cuts:Wy→Nat
 | .ap=>1
 | _=>2
def TZ (wy:Wy) (β:Rat) (es:List En) (ds:List (Rat×Rat×Rat×Rat)):Prop:=((wy=.sp∨wy=.ch)∧ds=[])∨((wy=.ap∨wy=.jo)∧∃d0,fR wy β (parts dh es es.length) d0∧ds=d0.take (d0.length-cuts wy))
theorem PN (xs:List V) (n:Nat) (h:0<n):j8 xs none (some (-(n:Int)))=xs.take (xs.length-n):=by
 have e:HT.G2 xs.length xs.length (some (-(n:Int)))=xs.length-n:=by
  show (if -(n:Int)<0 then (-(n:Int)+(xs.length:Int)).toNat else min (-(n:Int)).toNat xs.length)=xs.length-n
  rw [if_pos 0#b]
  simp?
 unfold j8
 rw [e]
 rfl
theorem wD (ps:List Pc) (n:Nat):(cJ ps).take n=cJ (ps.take n):=by unfold cJ;rw [yU]
theorem S2 (ps qs:List Pc):cJ ps++cJ qs=cJ (ps++qs):=by unfold cJ;rw [jD]
inductive Az (vs:List V) (H:Hp) (Q:VK) (E_:XK):Prop where
 | mk (l pb:aq) (es:List En) (β:Rat) (wy:Wy):vs=[.ref l,.str (J5 wy),.ref pb]→H l=some 0#s→Row H es 160→rising es→es.length≤30→dF H pb β 150→0≤β→(∀(R:aq) (ps:List Pc) (H':Hp),ao H H'→H' R=some (.lst (cJ ps))→AllP H' ps 8000→TZ wy β es (ps.map (·.2))→Q (.ref R) H')→Az vs H Q E_
inductive JX (vs:List V) (H:Hp) (Q:VK) (E_:XK):Prop where
 | mk (l pb:aq) (es:List En) (β:Rat) (wy:Wy) (u:Int):vs=[.ref l,.str (J5 wy),.ref pb,.int u]→H l=some 0#s→Row H es 160→rising es→es.length≤30→dF H pb β 150→0≤β→(∀(R:aq) (ps:List Pc) (H':Hp),ao H H'→H R=none→H' R=some (.lst (cJ ps))→AllP H' ps 8000→(∃d1 d2,fR wy β (parts dh (Fd es u) (Fd es u).length) d1∧TZ wy β (Gi es u) d2∧ps.map (·.2)=d1++d2)→Q (.ref R) H')→JX vs H Q E_
theorem o8:fz 3 ["run","way",aO,"pieces"] kZ:=0#a
theorem xT (F:fO K "certain_of_run" kZ f fd) (iZ:Dn P w K mg base 10 "told_by" [b9,"way",aO] (u6 aB)):bh P w K mg base dm 11 f fd ["run","way",aO] Az:=by
 refine F.eU o8 λcdv A outer s H vs Q E hr h=>?_
 obtain ⟨l,pb,es,β,wy,rfl,hl,hR,K6,h30,fb,iy,k⟩:=h
 apply bF ⟨_,(ah (cy (Jd.BE (Jd.GV (bD fE 0#n mR 0#K) (Jd.Ag (bD fE 0#n mR 0#K)))) (aD (aX (dO gH))) cG) (ah (aL 3 o8.nd (aH K (Jd.c3 iZ hr 0#h 0#n 0#q))) (aD (aX (vA (bD fE 0#n mR 0#K) (rW (TM K) 0#A rX (rY (gF dH au))) (rW (TM K) 0#A rX (rY (gF dH au)))))))),?_⟩
 cases wy with
 | sp=>
   apply fZ (c:=true) 0#e ?_
   apply cI ?_
   apply cI ?_
   refine aC (mk:=.lst) 0#d λR H1 s1 n1 e1=>?_
   exact k R [] H1 s1 e1 (λx hx=>absurd hx 0#d) (.inl ⟨.inl rfl,rfl⟩)
 | ch=>
   apply fZ (c:=false) 0#e ?_
   apply bR ?_
   apply fZ (c:=true) 0#e ?_
   apply cI ?_
   refine aC (mk:=.lst) 0#d λR H1 s1 n1 e1=>?_
   exact k R [] H1 s1 e1 (λx hx=>absurd hx 0#d) (.inl ⟨.inr rfl,rfl⟩)
 | ap=>
   apply fZ (c:=false) 0#e ?_
   apply bR ?_
   apply fZ (c:=false) 0#e ?_
   apply bR ?_
   apply u9 hl hR K6 h30 fb iy λy X Z ps H1 s1 ey eX hP hT=>?_
   apply fZ (c:=true) 0#e ?_
   refine cI ?_
   walk_at "vd"
   refine vB eX λS H2 s2 n2 e2=>?_
   rw [show (some (-1:Int))=some (-((1:Nat):Int)) from rfl,PN _ _ 0#f,ja,wD] at e2
   refine k S _ H2 (s1.trans s2) e2 (λx hx=>(hP.up s2) x (Mp hx)) (.inr ⟨.inl rfl,_,hT,?_⟩)
   rw [yU,gI]
   rfl
 | jo=>
   apply fZ (c:=false) 0#e ?_
   apply bR ?_
   apply fZ (c:=false) 0#e ?_
   apply bR ?_
   apply u9 hl hR K6 h30 fb iy λy X Z ps H1 s1 ey eX hP hT=>?_
   apply fZ (c:=false) 0#e ?_
   refine bR ?_
   walk_at "vd"
   refine vB eX λS H2 s2 n2 e2=>?_
   rw [show (some (-2:Int))=some (-((2:Nat):Int)) from rfl,PN _ _ 0#f,ja,wD] at e2
   refine k S _ H2 (s1.trans s2) e2 (λx hx=>(hP.up s2) x (Mp hx)) (.inr ⟨.inr rfl,_,hT,?_⟩)
   rw [yU,gI]
   rfl
theorem QM:fz 4 [b9,"way",aO,dU,"parts"] ON:=0#a
theorem Zl (F:fO K "sure" ON f fd) (T:Txt mg) (j6:Dn P w K mg base 1 "settled_entries" [b9,dU] AI) (l9:Dn P w K mg base 1 "parted_at_gap" ["settled"] Er) (iZ:Dn P w K mg base 10 "told_by" [b9,"way",aO] (u6 aB)) (kJ:Dn P w K mg base 11 "certain_of_run" ["run","way",aO] Az):bh P w K mg base dm 12 f fd [b9,"way",aO,dU] JX:=by
 refine F.eU QM λcdv A outer s H vs Q E hr h=>?_
 obtain ⟨l,pb,es,β,wy,u,rfl,hl,hR,K6,h30,fb,iy,k⟩:=h
 have sub:(pW es u).Sublist es:=Bm
 have ZS:(Fd es u).Sublist es:=(yE _ _).trans sub
 have subB:(Gi es u).Sublist es:=(yF _ _).trans sub
 apply bF ⟨_,(ah (aL 4 QM.nd (Jd.c1 l9 hr (bZ j6 hr 0#h 0#A))) (aD (aX (aF z6 (aH K (Jd.c3 iZ hr (aH K (aa 4)) 0#n 0#q)) (Jd.c3 kJ hr (aH K (aa 4)) 0#n 0#q))))),?_⟩
 apply ⟨l,es,u,160,rfl,hl,hR,by simp?,λD H1 s1 nD eD=>?_⟩
 refine ⟨D,pW es u,160,rfl,eD,λx hx=>(hR.up s1) x (sub.subset hx),dR sub.length_le 0#b,λy A' B' H2 s2 ey eA eB=>?_⟩
 have gV:=s1.trans s2
 rw?
 refine u9 (es:=Fd es u) (β:=β) eA (λx hx=>(hR.up gV) x (ZS.subset hx)) (K6.sublist ZS) (dR ZS.length_le h30) (fb.up gV) iy λy3 X3 Z3 ps3 H3 s3 ey3 eX3 YC XN=>?_
 have eyP:=s3 _ _ ey
 have qu:=gV.trans s3
 rw?
 apply ⟨B',pb,Gi es u,β,wy,rfl,s3 _ _ eB,λx hx=>(hR.up qu) x (subB.subset hx),K6.sublist subB,dR subB.length_le h30,fb.up qu,iy,λR4 ps4 H4 s4 e4 hP4 hT4=>?_⟩
 refine GX (s4 _ _ eX3) e4 ?_
 rw [S2]
 have l3:=rL (dR ZS.length_le h30) XN
 have l4:(ps4.map (·.2)).length≤60:=by
  rcases hT4 with ⟨_,e⟩ | ⟨_,d0,h0,e⟩
  ·rw [e];exact lX _
  ·rw [e,oQ]
   have:=rL (dR subB.length_le h30) h0
   simp?
 rw [gI] at l3 l4
 refine aC (mk:=.lst) (by rw [ja,fh];simp?) λR H5 s5 n5 e5=>?_
 exact k R (ps3++ps4) H5 (qu.trans 0#W) ((qu.trans s4).free n5) e5 (AllP.append (YC.up 0#W) (hP4.up s5)) ⟨_,_,XN,hT4,jD ..⟩
def Qo (q:Int×Int):Bool:=decide (1≤q.2)&&decide (cN q.1 q.2=1)
inductive O1 (vs:List V) (H:Hp) (Q:VK) (E_:XK):Prop where
 | mk (p:aq) (a b:Int):vs=[.ref p]→H p=some (.tup [.int a,.int b])→Sz 8000 a→Sz 8000 b→(∀H',ao H H'→Q (.bl (Qo (a,b))) H')→O1 vs H Q E_
theorem D5:fz 1 ["pair"] pQ:=0#a
theorem Dt (F:fO K "is_fraction" pQ f fd) (iX:acj P w K mg base):bh P w K mg base dm 3 f fd ["pair"] O1:=by
 refine F.eU D5 λcdv A outer s H vs Q E hr h=>?_
 obtain ⟨p,a,b,rfl,hp,za,zb,k⟩:=h
 apply bF ⟨_,(aD (aX (Jd.z9 (tL Qy 0#I au 0#K) (Jd.DH (tL fE (bZ iX hr 0#I 0#I) au 0#K))))),?_⟩
 unfold Qo at k
 refine c6 0#w 0#w
 ·rw [je (dM c)] at k
  rw?
  apply ⟨a,b,rfl,za,zb,λH1 s1=>?_⟩
  have:=k H1 s1
  rw [Bool.true_and] at this
  have e:decide (((cN a b:Nat):Int)=1)=decide (cN a b=1):=Hl.mpr 0#c
  rw [e]
  exact this
 ·rw [pY (jO (jr.mpr c))] at k
  exact k H 0#t
theorem aai (h:es[i]?=some x):mo es i=x.2.1:=by unfold mo;rw [h];rfl
theorem afy (h:Qt t b q) (hq:0≤q):0≤t:=by
 have hb:(0:Rat)≤(b:Rat):=by have:=cast_pos (b:=b) (by have:=h.pos;simp?);grind
 have:((0:Int):Rat)≤(t:Rat):=by rw [h.eq];exact Mw hq hb
 exact Mi.mp this
theorem UA (h:Fr t b q):Qo (t,b)=true:=by
 unfold Qo
 rw [je (show (1:Int)≤b by have:=h.pos;simp?),je h.co]
 rfl
inductive ED (vs:List V) (H:Hp) (Q:VK) (E_:XK):Prop where
 | mk (l:aq) (es:List En) (n i:Nat):vs=[.ref l,.int (i:Int)]→H l=some 0#s→Row H es n→rising es→i<es.length→es.length≤40→n≤8000→(∀H',ao H H'→Q (.bl false) H')→ED vs H Q E_
inductive wX (vs:List V) (H:Hp) (Q:VK) (E_:XK):Prop where
 | mk (l:aq) (es:List En) (n:Nat):vs=[.ref l]→H l=some 0#s→Row H es n→rising es→es.length≤40→n≤8000→(∀(R:aq) (H':Hp),ao H H'→H R=none→H' R=some 0#s→Q (.ref R) H')→wX vs H Q E_
inductive Pa (vs:List V) (H:Hp) (Q:VK) (E_:XK):Prop where
 | mk (wy:Wy):vs=[.str (J5 wy)]→Q .bK H→Pa vs H Q E_
inductive JL (vs:List V) (H:Hp) (Q:VK) (E_:XK):Prop where
 | mk (p:aq) (t b:Int):vs=[.ref p]→H p=some (.tup [.int t,.int b])→0≤t→Q .bK H→JL vs H Q E_
inductive O0 (vs:List V) (H:Hp) (Q:VK) (E_:XK):Prop where
 | mk (l pb:aq) (es:List En) (β:Rat) (wy:Wy):vs=[.ref l,.str (J5 wy),.ref pb]→H l=some 0#s→Row H es 160→rising es→es.length≤30→dF H pb β 150→0≤β→(∀(y X Z:aq) (ps:List Pc) (H':Hp),ao H H'→H' y=some (.tup [.ref X,.ref Z])→H' X=some (.lst (cJ ps))→AllP H' ps 8000→fR wy β (parts dh es es.length) (ps.map (·.2))→Q (.ref y) H')→O0 vs H Q E_
theorem Bg:fz 2 [b9,"place","value"] wH:=0#a
theorem Lx (F:fO K "is_wrong" wH f fd) (T:Txt mg) (MK:Cn mg "MOST" 40) (pH:Dn P w K mg base 3 "is_fraction" ["pair"] O1):bh P w K mg base dm 4 f fd [b9,"place"] ED:=by
 refine F.eU Bg λcdv A outer s H vs Q E hr h=>?_
 obtain ⟨l,es,n,i,rfl,hl,hR,d9,hi,mX,hn,k⟩:=h
 obtain ⟨x,hx⟩:∃x,es[i]?=some x:=⟨_,jY hi⟩
 obtain ⟨v,ev,hv,hq⟩:=(hR x (mT hx)).obj
 refine bF (Jd.cut 2 (λσ H'=>σ=[some 0#O,some (.int (i:Int)),none]∧H'=H) ?_ λu hu hR'=>?_)
 ·refine ⟨_,(ah (aL 2 Bg.nd (aH K (bO (gU K) 0#h 0#n 0#g))) (aD (aX (Jd.z9 (tL j9 0#q fU 0#K) (Jd.DH (Jd.Ol (Jd.c1 pH hr 0#q))))))),?_⟩
  rintro σ H1 ⟨rfl,rfl⟩
  rw?
  apply dg hl (fB hx rfl) ?_
  apply 0#F
  rcases hq with rfl | ⟨p,q,rfl,hq,t,b,ep,fr,zt,zb⟩
  ·refine bR ?_
   exact k H1 0#t
  ·apply cI ?_
   refine ⟨p,t,b,rfl,ep,zt.mono hn,zb.mono hn,λH2 s2=>?_⟩
   rw [UA fr]
   rw?
   exact k H2 s2
 apply ⟨_,(ah (cy (bD Qy 0#n (Jd.GS rfl MK) 0#K) (aD (aX lR)) cG) (ah (cy (Jd.BE (Jd.oq (bD fM 0#n au 0#K) (Jd.lJ (bD GP (aH K (bO (gU K) 0#h 0#n 0#g)) (aH K (bO (gU K) 0#h (aF bT 0#n au) 0#g)) 0#K)))) (aD (aX lR)) cG) hu)),?_⟩
 rw [pY (show ¬(i:Int)≥40 by simp?)]
 apply bR ?_
 refine c6 0#w 0#w
 ·have c:(i:Int)>0:=dM c
  obtain ⟨y,hy⟩:∃y,es[i-1]?=some y:=⟨_,jY 0#b⟩
  obtain ⟨v',ev',_⟩:=(hR y (mT hy)).obj
  have hlt:=iC d9 (show i-1<i by simp?) hi
  rw [aai hx,aai hy] at hlt
  rw?
  apply dg hl (fB hx rfl) ?_
  apply dg hl (fB hy 0#b) ?_
  rw [pY (show ¬x.2.1≤y.2.1 by simp?)]
  apply bR ?_
  exact hR' _ _ 0#U
 ·rw?
  apply bR ?_
  exact hR' _ _ 0#U
theorem D4:fz 1 [b9,"place"] Ak:=0#a
theorem N4 (F:fO K "checked" Ak f fd) (T:Txt mg) (vM:Dn P w K mg base 4 "is_wrong" [b9,"place"] ED):bh P w K mg base dm 5 f fd [b9] wX:=by
 refine F.eU D4 λcdv A outer s H vs Q E hr h=>?_
 obtain ⟨l,es,n,rfl,hl,hR,d9,mX,hn,k⟩:=h
 apply bF ⟨_,(ah (iP gR rfl (xH rfl T.range (dZ (fj K T.i7 0#h))) (cB (i:=1) D4.nd rfl 0#k) (aD (cy (qf (bZ vM hr 0#h 0#n)) (aD Jd.qq) cG))) (aD (aX (Jd.kW qQ rfl T.Qq Q6 (dZ 0#h))))),?_⟩
 apply fq (tV ?_)
 refine dW (.inl (bq.of hl)) ?_
 rw [aT]
 rw?
 refine ⟨_,rfl,by simp?,by simp?,dc (λi σ H3=>ao H H3∧∃v:Option V,σ=[some 0#O,v]) ⟨ao.refl _,none,rfl⟩ ?_ ?_⟩
 ·rintro i σ H3 hi ⟨s3,v,rfl⟩
  have hi:i<es.length:=by simpa using hi
  rw [show (0:Int)+(i:Int)=(i:Int) by simp?]
  rw?
  apply ⟨l,es,n,i,rfl,s3 _ _ hl,hR.up s3,d9,hi,mX,hn,λH4 s4=>?_⟩
  apply bR ?_
  exact ⟨s3.trans s4,_,rfl⟩
 ·rintro σ H3 ⟨s3,v,rfl⟩
  rw?
  refine ⟨l,_,rfl,.inl (bq.of (s3 _ _ hl)),λR nR=>?_⟩
  exact k R _ (s3.trans (jz nR _)) (s3.free nR) av
theorem JF:fz 1 ["way"] tZ:=0#a
theorem IE (F:fO K "check_way" tZ f fd) (MU:mg "WAYS"=some (.ref HP)) (hw:∀H,tD K H HP [.str "apart",.str "joined",.str "spans",.str "chain"]):bh P w K mg base dm 1 f fd ["way"] Pa:=by
 refine F.eU JF λcdv A outer s H vs Q E hr h=>?_
 obtain ⟨wy,rfl,k⟩:=h
 apply bF ⟨_,(aD (cy (bD (Vk K) 0#h (Jd.afv rfl MU) rfl) (aD Jd.qq) cG)),?_⟩
 refine ⟨HP,_,rfl,.inr (hw H),rfl,by decide,?_⟩
 have e:XS (.str (J5 wy)) [V.str "apart",.str "joined",.str "spans",.str "chain"]=true:=by cases wy <;> decide +kernel
 rw [e]
 rw?
 apply bR ?_
 exact k
theorem D3:fz 1 [aO] pO:=0#a
theorem Dr (F:fO K "check_bound" pO f fd):bh P w K mg base dm 1 f fd [aO] JL:=by
 refine F.eU D3 λcdv A outer s H vs Q E hr h=>?_
 obtain ⟨p,t,b,rfl,hp,h0,k⟩:=h
 apply bF ⟨_,(aD (cy (bD oh 0#I au 0#K) (aD Jd.qq) cG)),?_⟩
 rw [pY (show ¬t<0 by simp?)]
 apply bR ?_
 exact k
theorem Tc:fz 3 [b9,"way",aO] DY:=0#a
theorem SQ (F:fO K "fewest" DY f fd) (sM:Dn P w K mg base 1 "check_way" ["way"] Pa) (pF:Dn P w K mg base 1 "check_bound" [aO] JL) (zj:Dn P w K mg base 5 "checked" [b9] wX) (iZ:Dn P w K mg base 10 "told_by" [b9,"way",aO] (u6 aB)):bh P w K mg base dm 11 f fd [b9,"way",aO] O0:=by
 refine F.eU Tc λcdv A outer s H vs Q E hr h=>?_
 obtain ⟨l,pb,es,β,wy,rfl,hl,hR,d9,h30,hb,iy,k⟩:=h
 have hb0:=hb
 obtain ⟨t,b,ep,fr,zt,zb⟩:=hb
 have ht:0≤t:=afy fr.qt iy
 apply bF ⟨_,(ah (fm (Jd.c1 sM hr 0#n) (hs:=eK)) (ah (fm (Jd.c1 pF hr 0#q) (hs:=eK)) (aD (aX (Jd.c3 iZ hr (Jd.c1 zj hr 0#h) 0#n 0#q))))),?_⟩
 apply ⟨wy,rfl,?_⟩
 apply ⟨pb,t,b,rfl,ep,ht,?_⟩
 apply ⟨l,es,160,rfl,hl,hR,d9,dR h30 0#f,by decide,λR H1 s1 nR eR=>?_⟩
 exact u9 eR (hR.up s1) d9 h30 (hb0.up s1) iy λy X Z ps H2 s2 ey eX hP hT=>k y X Z ps H2 (s1.trans s2) ey eX hP hT
theorem mQ.num (hr:rising r) (iy:0≤β) (h1:1≤r.length) (h:mQ wy β r ds):RC wy β r (ds.length:Int):=by
 cases wy with
 | ap=>
   obtain ⟨qs,hC,hE⟩:=h
   obtain ⟨F,v,g,e⟩:=hC.pin hr iy h1
   rw [SA hE] at e
   exact ⟨F,v,g,e⟩
 | jo=>
   obtain ⟨ks,ts,L,fl,ro,g,s,hT,_,_,rfl⟩:=h
   obtain ⟨l1,_⟩:=hT.len
   obtain ⟨_,_,g1,g2⟩:=hT.most hr iy
   have ca:=Yd ts
   refine ⟨_,_,_,_,g1,g2,?_⟩
   rw [gI,Hh]
   simp?
 | sp=>
   obtain ⟨t,ps,hf,_⟩:=id h
   exact ⟨t,hf,G4 h1 h hf⟩
 | ch=>
   obtain ⟨t,ps,hf,_⟩:=id h
   exact ⟨t,hf,G4 h1 h hf⟩
theorem fR.num (iy:0≤β):∀{rs:List (List En)} {ds:List (Rat×Rat×Rat×Rat)},(∀r∈rs,rising r∧1≤r.length)→fR wy β rs ds→nU (RC wy β) rs (ds.length:Int)
 | [],_,_,⟨[],_,e⟩=>by rw [e];exact .nil
 | [],_,_,⟨_::_,h,_⟩=>h.elim
 | _::_,_,_,⟨[],h,_⟩=>h.elim
 | r::rs,_,hr,⟨d::xC,h,e⟩=>by
   obtain ⟨a,b⟩:=hr r (Ge ..)
   have ih:=fR.num iy (rs:=rs) (ds:=xC.flatten) (λx hx=>hr x (B9 _ hx)) ⟨xC,h.2,rfl⟩
   have:=nU.cons (R:=RC wy β) (mQ.num a iy b h.1) ih
   rw [e,wZ,fh,show ((d.length+xC.flatten.length:Nat):Int)=(d.length:Int)+(xC.flatten.length:Int) by simp?]
   exact this
theorem fR.uniq (iy:0≤β):∀{rs rs':List (List En)} {ds ds':List (Rat×Rat×Rat×Rat)},gK (λr r':List En=>r.map (·.2)=r'.map (·.2)) rs rs'→(∀r∈rs',rising r∧1≤r.length)→fR wy β rs ds→fR wy β rs' ds'→ds=ds'
 | [],[],_,_,_,_,⟨[],_,e⟩,⟨[],_,e'⟩=>by rw [e,e']
 | r::rs,r'::rs',_,_,hm,hr,⟨d::xC,h,e⟩,⟨d'::ahi,h',e'⟩=>by
   obtain ⟨a,b⟩:=hr r' (Ge ..)
   have ih:=fR.uniq iy hm.2 (λx hx=>hr x (B9 _ hx)) ⟨xC,h.2,rfl⟩ ⟨ahi,h'.2,rfl⟩
   rw [e,e',wZ,wZ,ih,mQ.uniq a iy b (mQ.congr hm.1 h.1) h'.1]
 | [],_::_,_,_,h,_,_,_=>h.elim
 | _::_,[],_,_,h,_,_,_=>h.elim
 | [],[],_,_,_,_,⟨_::_,h,_⟩,_=>h.elim
 | [],[],_,_,_,_,_,⟨_::_,h,_⟩=>h.elim
 | _::_,_::_,_,_,_,_,⟨[],h,_⟩,_=>h.elim
 | _::_,_::_,_,_,_,_,_,⟨[],h,_⟩=>h.elim
theorem fR.split:∀{rs rs':List (List En)} {ds:List (Rat×Rat×Rat×Rat)},fR wy β (rs++rs') ds→∃d1 d2,fR wy β rs d1∧fR wy β rs' d2∧ds=d1++d2
 | [],rs',ds,h=>⟨[],ds,⟨[],trivial,rfl⟩,h,rfl⟩
 | r::rs,rs',_,⟨[],h,_⟩=>h.elim
 | r::rs,rs',_,⟨d::xC,h,e⟩=>by
   obtain ⟨d1,d2,⟨x1,h1,e1⟩,h2,e2⟩:=fR.split (rs:=rs) (rs':=rs') (ds:=xC.flatten) ⟨xC,h.2,rfl⟩
   exact ⟨d++d1,d2,⟨d::x1,⟨h.1,h1⟩,by rw [e1];rfl⟩,h2,by rw [e,wZ,e2,yS]⟩
def vS (wy:Wy) (β:Rat) (A B:List En) (ds:List (Rat×Rat×Rat×Rat)):Prop:=∃d1 d2,fR wy β (parts dh A A.length) d1∧TZ wy β B d2∧ds=d1++d2
theorem ye (hr:rising es):∀r∈parts dh es es.length,rising r∧1≤r.length:=λr h=>by
 obtain ⟨o1,o2,o3⟩:=kT es.length r h
 rw [jt] at o3
 exact ⟨hr.sublist o3,E4.mpr o1⟩
theorem vS.uniq (iy:0≤β) (hA:A.map (·.2)=A'.map (·.2)) (hB:B.map (·.2)=B'.map (·.2)) (rA:rising A') (rB:rising B') (h:vS wy β A B ds) (h':vS wy β A' B' ds'):ds=ds':=by
 obtain ⟨d1,d2,a,b,rfl⟩:=h
 obtain ⟨e1,e2,a',b',rfl⟩:=h'
 rw [fR.uniq iy (qX hA) (ye rA) a a']
 congr 1
 rcases b with ⟨w,rfl⟩ | ⟨w,d0,h0,rfl⟩
 ·rcases b' with ⟨_,rfl⟩ | ⟨w',_⟩
  ·rfl
  ·rcases w with rfl | rfl <;> rcases w' with w' | w' <;> cases w'
 ·rcases b' with ⟨w',_⟩ | ⟨_,d0',h0',rfl⟩
  ·rcases w with rfl | rfl <;> rcases w' with w' | w' <;> cases w'
  ·rw [fR.uniq iy (qX hB) (ye rB) h0 h0']
theorem vS.num (iy:0≤β) (rA:rising A) (rB:rising B) (hS:iK B) (h:vS wy β A B ds):∃d1:Int,nU (RC wy β) (parts dh A A.length) d1∧(((B=[]∨wy=.sp∨wy=.ch)∧(ds.length:Int)=d1)∨(B≠[]∧(wy=.ap∨wy=.jo)∧∃x:Int,RC wy β B x∧(ds.length:Int)=d1+max 0 (x-(cuts wy:Int)))):=by
 obtain ⟨d1,d2,a,b,rfl⟩:=h
 refine ⟨d1.length,fR.num iy (ye rA) a,?_⟩
 rcases b with ⟨w,rfl⟩ | ⟨w,d0,h0,rfl⟩
 ·exact .inl ⟨.inr w,by rw [nv]⟩
 ·by_cases z:B=[]
  ·subst z
   obtain ⟨xC,hd,e⟩:=h0
   cases xC with
   | nil=>subst e;exact .inl ⟨.inl rfl,by simp⟩
   | cons _ _=>exact hd.elim
  ·have hn:=fR.num iy (ye rB) h0
   rw [z8 hS z] at hn
   refine .inr ⟨z,w,d0.length,?_,?_⟩
   ·generalize (d0.length:Int)=q at hn
    cases hn with
    | cons x y=>cases y;rw [ab3];exact x
   ·rw [fh,oQ]
    simp?
theorem vS.stay {wy:Wy} {β:Rat} {A B es:List En} {ys:List (Int×Option Rat)} {ds ts:List (Rat×Rat×Rat×Rat)} (iy:0≤β) (hg:bU dh A A.length=false) (hS:iK B) (hr:rising es) (hm:es.map (·.2)=(A++B).map (·.2)++ys) (h:vS wy β A B ds) (ht:fR wy β (parts dh es es.length) ts):ts.take ds.length=ds:=by
 obtain ⟨d1,d2,a,b,rfl⟩:=h
 obtain ⟨A',B',Y,rfl,hA,hB⟩:∃A' B' Y:List En,es=A'++(B'++Y)∧A'.map (·.2)=A.map (·.2)∧B'.map (·.2)=B.map (·.2):=by
  rw [jD,yS] at hm
  obtain ⟨A',X,rfl,hA,hX⟩:=WK.mp hm
  obtain ⟨B',Y,rfl,hB,_⟩:=WK.mp hX
  exact ⟨A',B',Y,rfl,hA,hB⟩
 have rA:rising A':=hr.sublist (Me _ _)
 have rBY:rising (B'++Y):=hr.sublist (WH _ _)
 have rB:rising B':=rBY.sublist (Me _ _)
 have hgA:bU dh A' A'.length=false:=by rw [Df hA];exact hg
 have hc:=z7 (s:=dh) (as:=A') (bs:=B'++Y) hgA (B'++Y).length (dS _)
 rw [fh (as:=A'),hc.1] at ht
 obtain ⟨t1,t2,h1,h2,rfl⟩:=ht.split
 obtain rfl:=fR.uniq iy (qX hA.symm) (ye rA) a h1
 have fin:t2.take d2.length=d2→(d1++t2).take (d1++d2).length=d1++d2:=λe=>by
  rw [fh,List.take_append,Mh (yH _ _),Q3,e]
 refine fin ?_
 rcases b with ⟨w,rfl⟩ | ⟨w,d0,h0,rfl⟩
 ·rfl
 by_cases z:B=[]
 ·subst z
  obtain ⟨xC,hd,e⟩:=h0
  cases xC with
  | nil=>subst e;simp
  | cons _ _=>exact hd.elim
 have hB0:B'≠[]:=λq=>z (G5.mp (by rw [← cK hB,q];rfl))
 have hS':iK B':=Pz hB.symm hS
 obtain ⟨zs,rest,hp,hsub⟩:=DE (s:=dh) (bs:=Y) hS' hB0 Y.length (dS _)
 rw [fh (as:=B'),hp] at h2
 obtain ⟨xC,hd,e⟩:=h2
 cases xC with
 | nil=>exact hd.elim
 | cons dB xC=>
   have t0:mQ wy β B' d0:=by
    rw [z8 hS z] at h0
    obtain ⟨x0,hx,rfl⟩:=h0
    cases x0 with
    | nil=>exact hx.elim
    | cons y ys=>
      cases ys with
      | nil=>rw [WL];exact mQ.congr hB.symm hx.1
      | cons _ _=>exact hx.2.elim
   have key:dB.take (d0.length-cuts wy)=d0.take (d0.length-cuts wy):=by
    rcases w with rfl | rfl
    ·exact RI.stay rB t0 hd.1
    ·exact RK.stay (E4.mpr hB0) t0 hd.1
   have hl:=congrArg oK key
   rw [oQ,oQ] at hl
   rw [e,wZ,oQ,WG 0#b,show min (d0.length-cuts wy) d0.length=d0.length-cuts wy by simp?]
   exact key
inductive OX (vs:List V) (H:Hp) (Q:VK) (E_:XK):Prop where
 | mk (l:aq) (hs:List Nn) (wy:Wy) (c b u:Int):vs=[.ref l,.str (J5 wy),.int c,.int u]→H l=some (.lst (bH hs))→iN H hs 45 150→fP hs→hs.length≤40→Sz 150 c→1≤b→0≤c→(∀(d d1:Int) (as bs:List Nn) (H':Hp),ao H H'→as++bs=hs.filter (λx=>decide (x.2.1≤u))→CA bs→bU tP as as.length=false→nU (RC wy 0#y) (parts dh (gh as b) (gh as b).length) d1→(((bs=[]∨wy=.sp∨wy=.ch)∧d=d1)∨(bs≠[]∧(wy=.ap∨wy=.jo)∧∃x:Int,RC wy 0#y (gh bs b) x∧d=d1+max 0 (x-(cuts wy:Int))))→Q (.int d) H')→OX vs H Q E_
inductive Ep (K:cj) (vs:List V) (H:Hp) (Q:VK) (E_:XK):Prop where
 | mk (a:aq) (ns:List Int) (l:aq) (hs:List Nn) (u c:Int):vs=[.ref a,.int 2,.ref l,.int u,.int c]→bq K H a 0#E→H l=some (.lst (bH hs))→iN H hs 45 150→fP hs→hs.length≤12→Sz 46 u→Sz 150 c→(∀(O:aq) (os ys:List Nn) (H':Hp),ao H H'→H O=none→H' O=some (.lst (bH os))→iN H' os 48 155→fP os→os.length≤17→os=hs.filter (λx=>decide (x.2.1≤u))++ys→(∀y∈ys,u<y.2.1)→Q (.ref O) H')→Ep K vs H Q E_
def osz:List Int:=[6,3,9,25,3,9,25,3,9,25,3,9,25,3,9,25]
theorem adD:∀k,k<5→osz[3*k+1]?=some 3∧osz[3*k+2]?=some 9∧osz[3*k+3]?=some 25:=by decide
inductive LW (K:cj) (vs:List V) (H:Hp) (Q:VK) (E_:XK):Prop where
 | mk (a:aq) (ns:List Int):vs=[.ref a]→bq K H a 0#E→ns.length≤63→(∀H',Q (.bl true) H')→LW K vs H Q E_
theorem rG:fz 4 [aM,fF,aW,aV,"_law_shut","_law_still","_law_due_here"] Am:=0#a
theorem N6 (F:fO K "_law_due" Am f fd) (T:Txt mg) (sR:Dn P w K mg base 1 "_law_parts" [aM,aV] Es) (sW:Dn P w K mg base 5 "_law_total" [aM,fF,aW] EC) (iM:Z1 P w K mg base):bh P w K mg base dm 6 f fd [aM,fF,aW,aV] OX:=by
 refine F.eU rG λcdv A outer s H vs Q E hr h=>?_
 obtain ⟨l,hs,wy,c,b,u,rfl,hl,hes,d9,mX,zc,hb,hc,k⟩:=h
 apply bF ⟨_,(ah (Jd.Af (bZ sR hr 0#h 0#A) (Jd.TH K (n:=2) rfl (iH (cB (i:=4) rG.nd rfl 0#k) (iH (cB (i:=5) rG.nd rfl 0#k) tK)))) (ah (aL 6 rG.nd (Jd.c3 sW hr (aa 4) 0#n 0#q)) (ah (cy (Jd.BE (Jd.GV (bD fE (fj K T.i7 (aa 5)) au 0#K) (Jd.Ag (bD (aad K) 0#n (bW (bL mR mR)) rfl)))) (aD (aX (aa 6))) cG) (ah (cy (bD fE 0#n mR 0#K) (aD (aX (aF bT (aF bB (aa 6) (Jd.c3 iM hr (aa 5) 0#n 0#q)) au))) cG) (aD (aX (aF bB (aa 6) (iz (Y7 rfl) rfl T.U7 Ml (bL au (aF bT (Jd.c3 iM hr (aa 5) 0#n 0#q) au)) (he:=lV) (hpl:=(cO J1 cR)))))))))),?_⟩
 apply QK ?_
 refine ⟨l,hs,u,45,150,rfl,hl,hes,mX,λy A' B' as bs H1 s1 e1 eA eB hab hSb hin=>?_⟩
 refine nG e1 ?_
 have sub:(hs.filter (λx:Nn=>decide (x.2.1≤u))).Sublist hs:=Bm
 have sa:as.Sublist hs:=(Me as bs).trans (hab▸sub)
 have sb:bs.Sublist hs:=(WH as bs).trans (hab▸sub)
 rw?
 refine ⟨A',as,wy,c,b,45,150,rfl,eA,λx hx=>(hes.up s1) x (sa.subset hx),d9.sublist sa,dR sa.length_le mX,zc,by decide,by decide,hb,hc,λd1 H2 s2 hd1=>?_⟩
 have eB2:=s2 _ _ eB
 have gV:=s1.trans s2
 rw?
 refine dW (.inl (bq.of eB2)) ?_
 rw [bQ]
 rw?
 refine c6 (λc0=>?_) (λc0=>?_)
 ·rw?
  apply cI ?_
  exact k d1 d1 as bs H2 gV hab hSb hin hd1 (.inl ⟨.inl (G5.mp (by have:=dM c0;simp?)),rfl⟩)
 have hne:bs≠[]:=λz=>(jO (jr.mpr c0)) (by rw [z];rfl)
 rw?
 refine aC (mk:=.tup) 0#d λp2 H3 s3 n3 e3=>?_
 have qu:=gV.trans s3
 rw?
 refine ⟨p2,_,rfl,.inr (tD.of e3),rfl,rfl,?_⟩
 have aeC:∀{Q':VK},(∀(x:Int) (H':Hp),ao H3 H'→RC wy 0#y (gh bs b) x→Q' (.int x) H')→ym [.ref B',.str (J5 wy),.int c] H3 Q' E0:=λ{Q'} kk=>⟨B',bs,wy,c,b,45,150,rfl,s3 _ _ eB2,λx hx=>(hes.up qu) x (sb.subset hx),hSb,d9.sublist sb,E4.mpr hne,dR sb.length_le mX,zc,by decide,by decide,hb,hc,kk⟩
 cases wy with
 | sp=>
   refine 0#T
   rw [show XS (.str (J5 .sp)) [V.str (sq "spans"),V.str (sq "chain")]=true by decide +kernel]
   apply cI ?_
   exact k d1 d1 as bs H3 qu hab hSb hin hd1 (.inl ⟨.inr (.inl rfl),rfl⟩)
 | ch=>
   refine 0#T
   rw [show XS (.str (J5 .ch)) [V.str (sq "spans"),V.str (sq "chain")]=true by decide +kernel]
   apply cI ?_
   exact k d1 d1 as bs H3 qu hab hSb hin hd1 (.inl ⟨.inr (.inr rfl),rfl⟩)
 | ap=>
   refine 0#T
   rw [show XS (.str (J5 .ap)) [V.str (sq "spans"),V.str (sq "chain")]=false by decide +kernel]
   apply bR ?_
   refine fZ (c:=true) 0#e ?_
   refine 0#T
   apply cI ?_
   apply aeC λx H4 s4 hx=>?_
   refine k _ d1 as bs H4 (qu.trans s4) hab hSb hin hd1 (.inr ⟨hne,.inl rfl,x,hx,?_⟩)
   have:=RC.pos hx
   show d1+x-1=d1+max 0 (x-1)
   simp?
 | jo=>
   refine 0#T
   rw [show XS (.str (J5 .jo)) [V.str (sq "spans"),V.str (sq "chain")]=false by decide +kernel]
   apply bR ?_
   refine fZ (c:=false) 0#e ?_
   refine 0#T
   apply bR ?_
   apply aeC λx H4 s4 hx=>?_
   refine k _ d1 as bs H4 (qu.trans s4) hab hSb hin hd1 (.inr ⟨hne,.inr rfl,x,hx,?_⟩)
   show d1+_=d1+max 0 (x-2)
   congr 1
   split <;> simp?
theorem d7:fz 5 [bI,cH,aM,aV,aW,cE,"_law_other_here","_law_high",eG,"_law_when",eY,"_law_by"] uh:=0#a
theorem IK (F:fO K "_law_other" uh f fd) (T:Txt mg) (iY:acn P w K mg base):bh P w K mg base dm 4 f fd [bI,cH,aM,aV,aW] (Ep K):=by
 refine F.eU d7 λcdv A outer s H vs Q E hr h=>?_
 obtain ⟨a,ns,l,hs,u,c,rfl,hS,hl,hes,d9,h12,zu,zc,k⟩:=h
 apply bF ⟨_,(ah (aL 5 d7.nd (Jd.c3 iY hr 0#h 0#n (aF z6 (dO (dZ au)) (aF Oe (dO (Jd.a3 au au au)) au)))) (ah (vv (O:=[eG]) (N':=[aV]) (cap:=[3]) (i:=6) d7.nd rfl 0#k rfl (eE K 0#q) (λ_ _ _ _ _=>(cB (i:=0) (show kD [("_law_one":Str),("_law_moment_here":Str)] by decide +kernel) rfl 0#k)) (λ_ _ _ _ _=>(vz (bD GP (bO (MI K) 0#h au 0#g) 0#n 0#K))) (λ_ _ _ _ _=>0#h) rfl 0#u rfl 0#e rfl 0#e (by rfl)) (ah (aL 7 d7.nd au) (ah (iP gR rfl (eE K (aa 6)) (cB (i:=8) d7.nd rfl 0#k) (aD (cy (bD j9 (aH K (aa 8)) fU 0#K) (aD (aL 7 d7.nd (aH K (aa 8)))) cG))) (ah (aL 9 d7.nd 0#A) (ah (iP gR rfl (xH rfl T.range (dZ (Jd.iL K (aa 5)))) (cB (i:=10) d7.nd rfl 0#k) (ah (aL 9 d7.nd (aF bB (aF bB (aa 9) au) (bO (gU K) (aa 5) (aF bB (aF aS au (aa 10)) au) 0#g))) (ah (aL 11 d7.nd (aF fY (aF aS (aF bT (bO (gU K) (aa 5) (aF bB (aF aS au (aa 10)) au) 0#g) au) (aF bB (aa 4) au)) au)) (aD (cy (bD fE (bO (gU K) (aa 5) (aF bB (aF aS au (aa 10)) au) 0#g) au 0#K) (aD (fm (ia K (aa 6) (bW (bL (aa 9) fU))) (hs:=eK))) (aD (fm (ia K (aa 6) (bW (bL (aa 9) (aF bB (aa 7) (aa 11))))) (hs:=eK)))))))) (aD (aX (aa 6))))))))),?_⟩
 apply aC (mk:=.lst) 0#d λl1 H1 s1 n1 e1=>?_
 apply aC (mk:=.lst) 0#d λl2 H2 s2 n2 e2=>?_
 refine VR e2 0#b 0#b ?_
 apply aC (mk:=.lst) (by rw [len_rep];decide) λl3 H3 s3 n3 e3=>?_
 refine GX (s3 _ _ (s2 _ _ e1)) e3 ?_
 refine aC (mk:=.lst) (by rw [fh,len_rep];decide) λl4 H4 s4 n4 e4=>?_
 have Ai:=s1.trans (s2.trans 0#N)
 rw?
 refine ⟨a,ns,2,l4,osz,rfl,Ai.seq hS,by decide,by decide,by rw [e4];rfl,by decide,by decide,λlw xs H5 s5 n5 e5 hlen hxs=>?_⟩
 have Js:=Ai.trans s5
 obtain ⟨x0,g0,a0,b0⟩:=dw hlen hxs 0 (z:=6) rfl
 have hx:∀k,k<5→∃x y z,xs[3*k+1]?=some x∧0≤x∧x<3∧xs[3*k+2]?=some y∧xs[3*k+3]?=some z∧0≤z∧z<25:=λk hk=>by
  obtain ⟨q1,q2,q3⟩:=adD k hk
  obtain ⟨x,r1,r2,r3⟩:=dw hlen hxs _ q1
  obtain ⟨y,r4,_⟩:=dw hlen hxs _ q2
  obtain ⟨z,r5,r6,r7⟩:=dw hlen hxs _ q3
  exact ⟨x,y,z,r1,r2,r3,r4,r5,r6,r7⟩
 rw?
 apply jb ?_
 refine ⟨l,rfl,⟨_,bq.of (Js _ _ hl)⟩,?_⟩
 refine c9 (xs:=bH hs) cC (λH3 s3=>bq.of (s3 _ _ (Js _ _ hl))) (by rw [bQ];simp?) (λi ys G=>ys=bH ((hs.take i).filter (λx=>decide (x.2.1≤u)))) rfl ?_ ?_
 ·rintro D i x ys H3 lF N N0 h0 hD eD s3 hx hy rfl kY kN
  obtain ⟨e,he,rfl⟩:=nY hx
  obtain ⟨ee,_⟩:=(hes e (mT he)).up (Js.trans s3)
  have ts:=Kc (λx:Nn=>decide (x.2.1≤u)) hs i e he
  apply ic h0 ?_
  refine c6 0#w 0#w
  ·rw [c,if_pos rfl] at ts
   rw?
   exact kY _ H3 0#t (by rw [ts,← iQ])
  ·rw [if_neg c,nv] at ts
   exact kN H3 0#t (by rw [ts])
 rintro O ys H6 hO eO s6 hy rfl
 rw [bQ,jt] at eO
 have E9:=Js.trans s6
 generalize hfs:hs.filter (λx:Nn=>decide (x.2.1≤u))=fs at eO
 have sub:fs.Sublist hs:=hfs▸Bm
 have hfl:fs.length≤12:=dR sub.length_le h12
 have ahv:∀x∈fs,x.2.1≤u:=λx hx=>dM (E5.mp (hfs▸hx:x∈hs.filter (λx:Nn=>decide (x.2.1≤u)))).2
 have hfr:iN H6 fs 45 150:=λx hx=>(hes.up E9) x (sub.subset hx)
 rw?
 apply fq (jb ?_)
 refine ⟨O,rfl,⟨_,bq.of eO⟩,d8 (xs:=bH fs) (λi σ H7=>H7=H6∧Xs5 λ(hi:Int) (v8 v9 v10 v11:Option V)=>σ=[some (.ref a),some (.int 2),some 0#O,some (.int u),some (.int c),some (.ref lw),some (.ref O),some (.int hi),v8,v9,v10,v11]∧Sz 150 hi) ?_ ?_ ?_ ?_⟩
 ·exact ⟨rfl,0,none,none,none,none,rfl,by decide⟩
 ·rintro i σ H7 _ ⟨rfl,_⟩
  exact bq.of eO
 ·rintro i x σ H7 hx7 ⟨rfl,hi,v8,v9,v10,v11,rfl,zh⟩
  refine c8 λM Bk RR hM _ _=>?_
  obtain ⟨e,he,rfl⟩:=nY hx7
  obtain ⟨ee,z1,z2⟩:=hfr e (mT he)
  obtain ⟨ae,me,ve⟩:=e
  cases ve with
  | none=>
    rw?
    apply 0#F
    apply bR ?_
    exact hM _ _ ⟨rfl,hi,_,_,_,_,rfl,zh⟩
  | some v=>
    rw?
    apply 0#F
    apply cI ?_
    exact hM _ _ ⟨rfl,v,_,_,_,_,rfl,z2 v rfl⟩
 rintro σ H7 ⟨rfl,hi,v8,v9,v10,v11,rfl,zh⟩
 have zc1:Sz 151 (c+1):=zc.add (show Sz 150 1 by decide)
 rw?
 apply fq (tV ?_)
 refine dg (s6 _ _ e5) (bM g0 rfl) ?_
 have h6:iN H7 fs 48 155:=λx hx=>let ⟨q1,q2,q3⟩:=hfr x hx;⟨q1,q2.mono 0#f,λz hz=>(q3 z hz).mono 0#f⟩
 refine ⟨_,rfl,by lia,by lia,dc (λj σ H3=>Xs5 λ(ys:List Nn) (wh:Int) (v8 v10 v11:Option V)=>σ=[some (.ref a),some (.int 2),some 0#O,some (.int u),some (.int c),some (.ref lw),some (.ref O),some (.int hi),v8,some (.int wh),v10,v11]∧ao H5 H3∧H3 O=some (.lst (bH (fs++ys)))∧iN H3 (fs++ys) 48 155∧fP (fs++ys)∧ys.length=j∧(∀x∈fs++ys,x.2.1≤wh)∧u≤wh∧wh≤u+3*j∧∀y∈ys,u<y.2.1) ?_ ?_ ?_⟩
 ·exact ⟨[],u,_,_,_,rfl,s6,by rw [nv];exact eO,by rw [nv];exact h6,by rw [nv];exact d9.sublist sub,rfl,by rw [nv];exact ahv,acd _,by simp?,λy hy=>absurd hy 0#d⟩
 ·rintro j σ H3 hj ⟨ys,wh,v8,v10,v11,rfl,s3',Yn,hos,wg,hyl,hlo,w1,w2,hgt⟩
  refine c8 λM Bk RR hM _ _=>?_
  obtain ⟨x,y,z,gx,ax,bx,gy,gz,az,bz⟩:=hx j 0#b
  have w3:=s3' _ _ e5
  have zwh:Sz 48 (wh+1+x):=by
   have:u.natAbs<2 ^ 46:=zu
   show (wh+1+x).natAbs<2 ^ 48
   simp?
  have z12:Sz 4 (z-12):=show (z-12).natAbs<2 ^ 4 by simp?
  have zp:=z12.mul zc1
  have fin:∀(p:Nn) (H5':Hp) (v8 v10 v11:Option V),p.2.1=wh+1+x→ao H3 H5'→CL H5' p 48 155→M [some (.ref a),some (.int 2),some 0#O,some (.int u),some (.int c),some (.ref lw),some (.ref O),some (.int hi),v8,some (.int (wh+1+x)),v10,v11] (upd H5' O (.lst (bH (fs++ys)++[.ref p.1]))):=λp H5' v8 v10 v11 hp s5' f5=>by
   have eR5:=s5' _ _ Yn
   refine hM _ _ ⟨ys++[p],wh+1+x,v8,v10,v11,rfl,bf (s3'.trans s5') hO,by rw [av,iQ,yS],by rw [← yS];exact ((hos.up s5').snoc f5).app eR5,?_,by rw [fh,hyl];rfl,λq hq=>?_,by simp?,by simp?,λq hq=>?_⟩
   ·rw [← yS]
    refine WN.mpr ⟨wg,WJ _ _,λq hq r hr=>?_⟩
    obtain rfl:r=p:=by simpa using hr
    have:=hlo q hq
    simp?
   ·rw [← yS] at hq
    rcases fK.mp hq with t | t
    ·have:=hlo q t
     simp?
    ·obtain rfl:q=p:=by simpa using t
     simp?
   ·rcases fK.mp hq with t | t
    ·exact hgt q t
    ·obtain rfl:q=p:=by simpa using t
     simp?
  rw?
  apply dg w3 (bM gx 0#b) ?_
  apply dg w3 (bM gz 0#b) ?_
  apply iF (ck z12 zc1) ?_
  apply iF (show CB _ _ from ⟨by decide,by decide +kernel⟩) ?_
  apply dg w3 (bM gy 0#b) ?_
  refine c6 0#J 0#J
  ·rw?
   apply ⟨.inl ⟨rfl,_,bq.of Yn⟩,?_⟩
   apply aC (mk:=.tup) 0#d λpe H7 s7 n7 e7=>?_
   refine cM (s7 _ _ Yn) (by rw [bQ,fh];exact aN 0#b) ?_
   exact fin (pe,wh+1+x,none) H7 _ _ _ rfl s7 ⟨e7,zwh,λz q=>by cases q⟩
  ·rw?
   apply ⟨.inl ⟨rfl,_,bq.of Yn⟩,?_⟩
   apply aC (mk:=.tup) 0#d λpe H7 s7 n7 e7=>?_
   refine cM (s7 _ _ Yn) (by rw [bQ,fh];exact aN 0#b) ?_
   have zd:Sz 154 (((z-12)*(c+1)).fdiv 4):=by
    have h1:((z-12)*(c+1)).natAbs<2 ^ (4+151):=zp
    show (((z-12)*(c+1)).fdiv 4).natAbs<2 ^ 154
    rw [B8 _ 0#f]
    generalize (z-12)*(c+1)=g at h1
    have:(2:Nat) ^ (4+151)=2*2 ^ 154:=by decide
    simp?
   exact fin (pe,wh+1+x,some _) H7 _ _ _ rfl s7 ⟨e7,zwh,λz q=>by
    cases q
    exact (zh.mono 0#f).add zd⟩
 ·rintro σ H3 ⟨ys,wh,v8,v10,v11,rfl,s3',Yn,hos,wg,hyl,hlo,w1,w2,hgt⟩
  rw?
  exact k O (fs++ys) ys H3 (Js.trans s3') (Js.free hO) Yn hos wg (by rw [fh];simp?) (by rw [hfs]) hgt
theorem Ad (h:AllP H ps n) (h':AllP H ps' n') (hl:H l=some (.lst (cJ ps))) (hl':H l'=some (.lst (cJ ps'))) (e:ps.map (·.2)=ps'.map (·.2)) (q:Q (.bl false) H):adK 0#O (.ref l') H Q:=by
 obtain ⟨d,d',a,b,c1,c2,z⟩:=SX (Q:=λv H'=>v=.bl true) h h' hl hl' e rfl
 refine ⟨d,d',a,b,c1,c2,?_⟩
 have:oM d d'=true:=V.bl.inj z
 rw [this]
 exact q
theorem Gy (h:es.map (·.2)=es'.map (·.2)):∀i,fD es i=fD es' i
 | 0=>rfl
 | i+1=>by
   have z:∀X:List En,(X[i]?).elim false (λe=>!dh e)=((X.map (·.2))[i]?).elim false (λv:Int×Option Rat=>!v.2.isSome):=λX=>by
    rw [kE]
    cases X[i]? <;> rfl
   unfold fD
   rw [z,h,← z,Gy h i]
theorem Uj (h:(pW es u).map (·.2)=(pW es' u).map (·.2)):(Fd es u).map (·.2)=(Fd es' u).map (·.2)∧(Gi es u).map (·.2)=(Gi es' u).map (·.2):=by
 unfold Fd Gi
 rw [yU,yU,ES,ES,h,cK h,Gy h]
 exact 0#U
theorem DT (u:Int):∀{hs:List Nn},fP hs→∃ys,hs=hs.filter (λx=>decide (x.2.1≤u))++ys∧∀y∈ys,u<y.2.1
 | [],_=>⟨[],rfl,λy hy=>absurd hy 0#d⟩
 | x::hs,h=>by
   obtain ⟨a,b⟩:=aa3.mp h
   by_cases c:x.2.1≤u
   ·obtain ⟨ys,e,g⟩:=DT u b
    refine ⟨ys,?_,g⟩
    rw [Bp,if_pos (je c),List.cons_append,← e]
   ·refine ⟨x::hs,?_,λy hy=>?_⟩
    ·rw [Q7.mpr λy hy=>?_,W7]
     rcases pZ.mp hy with rfl | z
     ·simpa using c
     ·have:=a y z
      simp
      simp?
    ·rcases pZ.mp hy with rfl | z
     ·simp?
     ·have:=a y z
      simp?
theorem vS.small (hA:A.length≤30) (hB:B.length≤30) (h:vS wy β A B ds):ds.length≤120:=by
 obtain ⟨d1,d2,a,b,rfl⟩:=h
 have:=rL hA a
 rw [fh]
 rcases b with ⟨_,rfl⟩ | ⟨_,d0,h0,rfl⟩
 ·simp
  simp?
 ·have:=rL hB h0
  rw [oQ]
  simp?
theorem acG {b c:Int} {hs:List Nn} (iy:(0:Rat)≤(c:Rat)/(b:Rat)) (K6:rising es) (h:es.map (·.2)=hs.map (λx=>c7 b x.2)) (hab:as++bs=hs.filter (λx=>decide (x.2.1≤u))) (hS:CA bs) (hin:bU tP as as.length=false) (hd1:nU (RC wy 0#y) (parts dh (gh as b) (gh as b).length) d1) (hd:((bs=[]∨wy=.sp∨wy=.ch)∧d=d1)∨(bs≠[]∧(wy=.ap∨wy=.jo)∧∃x:Int,RC wy 0#y (gh bs b) x∧d=d1+max 0 (x-(cuts wy:Int)))) (hs':vS wy 0#y (Fd es u) (Gi es u) ds):(ds.length:Int)=d:=by
 obtain ⟨X,hX,hB,hp⟩:=Yv (ms:=[]) (b:=b) (λx hx=>absurd hx 0#d) h hab hS hin
 have hB:(Gi es u).map (·.2)=(gh bs b).map (·.2):=hB
 have hp:parts dh (Fd es u) (Fd es u).length=parts dh X X.length:=hp
 have Pb:(pW es u).Sublist es:=Bm
 obtain ⟨D,hD,hc⟩:=vS.num (A:=Fd es u) (B:=Gi es u) iy (K6.sublist ((yE _ _).trans Pb)) (K6.sublist ((yF _ _).trans Pb)) (HQ _) hs'
 rw [hp] at hD
 have hD':nU (RC wy 0#y) (parts dh (gh as b) (gh as b).length) D:=nU.imp (R:=RC wy 0#y) (R':=RC wy 0#y) (λr r' c m z=>RC.congr (wy:=wy) (d:=c) m z) hD (qX hX)
 have eD:D=d1:=nU.uniq (R:=RC wy 0#y) (λr c c' a b=>RC.uniq (wy:=wy) a b) hD' hd1
 have lB:(Gi es u).length=bs.length:=(cK hB).trans (tF bs b)
 have e0:Gi es u=[]↔bs=[]:=by rw [← G5,← G5,lB]
 rcases hc with ⟨w,e⟩ | ⟨n0,w,x,hx,e⟩
 ·rcases hd with ⟨_,e'⟩ | ⟨n0',w',_⟩
  ·rw [e,e',eD]
  ·rcases w with w | w
   ·exact absurd (e0.mp w) n0'
   ·rcases w with rfl | rfl <;> rcases w' with w' | w' <;> cases w'
 ·rcases hd with ⟨w',_⟩ | ⟨_,_,x',hx',e'⟩
  ·rcases w' with w' | w'
   ·exact absurd (e0.mpr w') n0
   ·rcases w with rfl | rfl <;> rcases w' with w' | w' <;> cases w'
  ·have ex:x=x':=RC.uniq (RC.congr hB hx) hx'
   rw [e,e',eD,ex]
theorem Wc {os:List Nn} (ho:os=fs++ys) (h1:∀x∈fs,x.2.1≤u) (h2:∀y∈ys,u<y.2.1):os.filter (λx=>decide (x.2.1≤u))=fs:=by
 rw [ho,Ca,aaW.mpr (λx hx=>je (h1 x hx)),Q7.mpr (λy hy=>by have:=h2 y hy;simp;simp?),nv]
theorem kj:fz 1 [bI,"_law_more",fF,aM,dD,aW,aV,"_law_other_here","_law_within","_law_handed_here","_law_found",ig,cE,"_law_telling"] V1:=0#a
theorem adB (F:fO K "law" V1 f fd) (T:Txt mg) (iY:acn P w K mg base) (sP:Dn P w K mg base 4 "_law_drawn" [bI,cH,"_law_most","_law_share"] (Eg K)) (qI:Dn P w K mg base 1 "_law_moment" [aM,cE] AG) (sQ:Dn P w K mg base 4 "_law_other" [bI,cH,aM,aV,aW] (Ep K)) (jQ:Dn P w K mg base 1 "_law_ratio" ["_law_top",dD] yr) (gY:Dn P w K mg base 2 "_law_handed" [aM,dD] Ei) (CF:Dn P w K mg base 12 "sure" [b9,"way",aO,dU] JX) (zk:Dn P w K mg base 6 "_law_due" [aM,fF,aW,aV] OX) (CC:Dn P w K mg base 11 "fewest" [b9,"way",aO] O0):bh P w K mg base dm 13 f fd [bI] (LW K):=by
 refine F.eU kj λcdv A outer s H vs Q E hr h=>?_
 obtain ⟨a,ns,rfl,hS,hn,k⟩:=h
 have Sw:=hr.units
 apply bF ⟨_,(ah (aL 1 kj.nd (Jd.c3 iY hr 0#h au (dO (Jd.a3 au au au)))) (ah (aL 2 kj.nd (bO (gU K) (dO (Jd.a4 mR mR mR mR)) (Jd.iL K 0#n) 0#g)) (ah (Jd.Af (iA sP 0#z rfl (Jd.a4 0#h au au (bO (gU K) (dO (Jd.a4 au au au au)) (Jd.iL K 0#n) 0#g)) (he:=bP) (hpl:=(cO lV (cO lV (cO EF cR))))) (Jd.TH K (n:=3) rfl (iH (cB (i:=3) kj.nd rfl 0#k) (iH (cB (i:=4) kj.nd rfl 0#k) (iH (cB (i:=5) kj.nd rfl 0#k) tK))))) (ah (aL 6 kj.nd (bZ qI hr 0#A (rW (TM K) 0#n (rY au) rX))) (ah (aL 7 kj.nd (iA sQ 0#z rfl (fL 0#h (Jd.a4 au 0#A (aa 6) (aa 5)) bP) (he:=bP) (hpl:=(cO lV (cO bP (cO bP (cO bP cR))))))) (ah (aL 8 kj.nd (bZ jQ hr (aa 5) (aa 4))) (ah (aL 9 kj.nd (bZ gY hr 0#A (aa 4))) (ah (aL 10 kj.nd (iA CF 0#z rfl (Jd.a4 (aa 9) 0#q (aa 8) (aa 6)) (he:=bP) (hpl:=(cO bP (cO bP (cO bP cR)))))) (ah (cy (Jd.BE (Jd.GV (Jd.DR (qf (iz (ahP K) rfl T.Lf agn (bL (aa 10) (Jd.VG rfl T.Qq Q6)) (he:=bP) (hpl:=(cO bP cR))))) (Jd.Ag (bD (IX Sw) (aa 9) (bZ gY hr 0#A (aa 4)) 0#K)))) (aD (aX lR)) cG) (ah (cy (bD aal (fj K T.i7 (aa 10)) (iA zk 0#z rfl (Jd.a4 0#A 0#q (aa 5) (aa 6)) (he:=bP) (hpl:=(cO bP (cO bP (cO bP cR))))) 0#K) (aD (aX lR)) cG) (ah (aL 11 kj.nd (Jd.kW qQ rfl T.Qq Q6 (dZ (aa 10)))) (ah (fm (ia K (aa 10) fU) (hs:=eK)) (ah (fm (Jd.acC K (aa 9)) (hs:=eK)) (ah (cy (bD (IX Sw) (iA CF 0#z rfl (Jd.a4 (bZ gY hr (aa 7) (aa 4)) 0#q (aa 8) (aa 6)) (he:=EE) (hpl:=(cO bP (cO bP (cO bP cR))))) (aa 11) 0#K) (aD (aX lR)) cG) (ah (cy (bD (IX Sw) (iA CF 0#z rfl (Jd.a4 (bZ gY hr 0#A (aa 4)) 0#q (aa 8) (aa 6)) (he:=EE) (hpl:=(cO bP (cO bP (cO bP cR))))) (aa 11) 0#K) (aD (aX lR)) cG) (ah (iP gR rfl (eE K (dO (bL 0#A (aa 7)))) (cB (i:=12) kj.nd rfl 0#k) (ah (aL 13 kj.nd (aH K (Jd.c3 CC hr (bZ gY hr (aa 12) (aa 4)) 0#q (aa 8)))) (aD (cy (bD (IX Sw) (rW (TM K) (aa 13) rX (rY (fj K T.i7 (aa 11)))) (aa 11) 0#K) (aD (aX lR)) cG)))) (aD (aX lR)))))))))))))))))),?_⟩
 apply aC (mk:=.lst) 0#d λl1 H1 s1 n1 e1=>?_
 refine ⟨a,ns,1,l1,[4,40,4],rfl,s1.seq hS,by decide,by decide,by rw [e1];rfl,by decide,by decide,λlw xs H2 s2 n2 e2 hlen hxs=>?_⟩
 obtain ⟨d0,g0,a0,b0⟩:=dw hlen hxs 0 (z:=4) rfl
 obtain ⟨d1,g1,a1,b1⟩:=dw hlen hxs 1 (z:=40) rfl
 obtain ⟨d2,g2,a2,b2⟩:=dw hlen hxs 2 (z:=4) rfl
 rw?
 apply aC (mk:=.lst) 0#d λl3 H3 s3 n3 e3=>?_
 refine dg (s3 _ _ e2) (bM g0 rfl) ?_
 obtain ⟨wy,ewy⟩:∃wy:Wy,sI [V.str (sq "apart"),V.str (sq "joined"),V.str (sq "spans"),V.str (sq "chain")] d0=some (.str (J5 wy)):=by
  rcases (show d0=0∨d0=1∨d0=2∨d0=3 by simp?) with rfl | rfl | rfl | rfl
  ·exact ⟨.ap,rfl⟩
  ·exact ⟨.jo,rfl⟩
  ·exact ⟨.sp,rfl⟩
  ·exact ⟨.ch,rfl⟩
 apply dg e3 ewy ?_
 apply QK ?_
 apply aC (mk:=.lst) 0#d λl4 H4 s4 n4 e4=>?_
 refine dg (0#N _ _ e2) (bM g0 rfl) ?_
 obtain ⟨sh,esh,zsh⟩:=DL (zs:=[2,2,1,1]) (λz=>0≤z∧z≤2) 0#e a0 b0
 refine dg e4 esh ?_
 have S7:=s3.trans s4
 have Ai:=s1.trans (s2.trans S7)
 rw?
 refine ⟨a,ns,0,12,sh,rfl,Ai.seq hS,by decide,by decide,by decide,zsh.1,zsh.2,λp R hs b c H5 s5 e5 nR eR adb hle d9 hb zb hc zc=>?_⟩
 have mX:hs.length≤40:=dR hle 0#f
 have kR:hs.length≤900:=dR hle 0#f
 have b0':0<b:=WY 0#f hb
 have iy:=Vh hb hc
 refine S4 e5 ?_
 walk_at "vd"
 refine vB ((S7.trans s5) _ _ e2) λS H6 s6 n6 e6=>?_
 rw [show (some (1:Int))=some ((1:Nat):Int) from rfl,aeE] at e6
 rw?
 refine ⟨R,S,hs,xs.drop 1,d1,d2,rfl,s6 _ _ eR,adb.up s6,mX,e6,by rw [rQ];exact g1,a1,b1,by rw [rQ];exact g2,a2,b2,λu H7 s7 zu=>?_⟩
 have s57:=s6.trans s7
 have s07:=Ai.trans (s5.trans s57)
 rw?
 refine ⟨a,ns,R,hs,u,c,rfl,s07.seq hS,s57 _ _ eR,adb.up s57,d9,hle,zu,zc,λO os ys H8 s8 nO eO hos wg h17 heq hgt=>?_⟩
 have hfs:os.filter (λx:Nn=>decide (x.2.1≤u))=hs.filter (λx:Nn=>decide (x.2.1≤u)):=Wc heq (λx hx=>dM (E5.mp hx).2) hgt
 have s58:=s57.trans s8
 have eR8:=s58 _ _ eR
 have K7:=adb.up s58
 rw?
 apply KG (n:=150) b0' zc (zb.mono 0#f) 0#f λpb H9 s9 f9=>?_
 refine ⟨R,hs,b,45,150,80,160,rfl,s9 _ _ eR8,K7.up s9,kR,hb,zb,by decide,by decide,by decide,by decide,λL es xg rf nL eL hR hmap=>?_⟩
 have hlen':=xO hmap
 have K6:=o4 hmap d9
 have l30:es.length≤30:=by rw [hlen'];exact dR hle 0#f
 have sS:(pW es u).map (·.2)=(hs.filter (λx:Nn=>decide (x.2.1≤u))).map (λx=>c7 b x.2):=Ec hmap u
 have Pb:(pW es u).Sublist es:=Bm
 have rA:rising (Fd es u):=K6.sublist ((yE _ _).trans Pb)
 have rB:rising (Gi es u):=K6.sublist ((yF _ _).trans Pb)
 have same:∀{es1:List En} {hs1:List Nn},es1.map (·.2)=hs1.map (λx=>c7 b x.2)→hs1.filter (λx:Nn=>decide (x.2.1≤u))=hs.filter (λx:Nn=>decide (x.2.1≤u))→(Fd es1 u).map (·.2)=(Fd es u).map (·.2)∧(Gi es1 u).map (·.2)=(Gi es u).map (·.2):=λ{es1 hs1} m1 hf=>Uj (by rw [Ec m1 u,hf,sS])
 rw?
 refine ⟨L,pb,es,_,wy,u,rfl,eL,hR,K6,l30,f9.up rf,iy,λFo ps Pw B4 nF eF hP hD=>?_⟩
 have hD:vS wy 0#y (Fd es u) (Gi es u) (ps.map (·.2)):=hD
 have S8:=rf.trans B4
 rw?
 apply afL (.lst eF) adm ?_
 apply bR ?_
 apply ⟨R,hs,b,45,150,80,160,rfl,(s9.trans S8) _ _ eR8,K7.up (s9.trans S8),kR,hb,zb,by decide,by decide,by decide,by decide,λL2 es2 H12 s12 nL2 eL2 hR2 afa=>?_⟩
 apply ZF (hR.up (B4.trans s12)) hR2 ((B4.trans s12) _ _ eL) eL2 (by rw [hmap,afa]) ?_
 refine bR ?_
 have aeF:=s12 _ _ eF
 rw?
 refine dW (.inl (bq.of aeF)) ?_
 rw [ja]
 rw?
 have af0:=S8.trans s12
 refine ⟨R,hs,wy,c,b,u,rfl,(s9.trans af0) _ _ eR8,K7.up (s9.trans af0),d9,mX,zc,hb,hc,λd dd1 as bs TU xh hab hSb hin hd1 hd=>?_⟩
 have ae0:=acG iy K6 hmap hab hSb hin hd1 hd hD
 rw [gI] at ae0
 rw?
 rw [je ae0]
 refine bR ?_
 have acI:=xh _ _ aeF
 rw?
 refine ⟨Fo,_,rfl,.inl (bq.of acI),λhd' nhd=>?_⟩
 have LN:ao TU (upd TU hd' (.lst (cJ ps))):=jz nhd _
 have ehd:upd TU hd' (.lst (cJ ps)) hd'=some (.lst (cJ ps)):=av
 generalize upd TU hd' (.lst (cJ ps))=H14 at LN ehd ⊢
 have acJ:=LN _ _ acI
 have ahq:AllP H14 ps 8000:=hP.up (s12.trans (xh.trans LN))
 have neF:hd'≠Fo:=λq=>by rw [q,acI] at nhd;cases nhd
 have aeG:TU L=some 0#s:=(B4.trans (s12.trans xh)) _ _ eL
 have neL:hd'≠L:=λq=>by rw [q,aeG] at nhd;cases nhd
 have ahj:=LN _ _ aeG
 have ahb:L≠Fo:=λq=>by rw [← q,eL] at nF;cases nF
 have ais:ao H9 H14:=rf.trans (B4.trans (s12.trans (xh.trans LN)))
 rw?
 apply ⟨.inl ⟨rfl,_,bq.of acJ⟩,?_⟩
 have lps:ps.length≤120:=by
  have:=vS.small (dR ((yE _ _).trans Pb).length_le l30) (dR ((yF _ _).trans Pb).length_le l30) hD
  rw [gI] at this
  exact this
 refine cM acJ (by rw [ja];exact aN 0#b) ?_
 have af1:ao H9 (upd H14 Fo (.lst (cJ ps++[.bK]))):=bf ais (rf.free nF)
 have aeV:AllP (upd H14 Fo (.lst (cJ ps++[.bK]))) ps 8000:=ahq.app acJ
 have aeJ:upd H14 Fo (.lst (cJ ps++[.bK])) hd'=some (.lst (cJ ps)):=by rw [aK neF];exact ehd
 have Yo:upd H14 Fo (.lst (cJ ps++[.bK])) L=some 0#s:=by rw [aK ahb];exact ahj
 generalize upd H14 Fo (.lst (cJ ps++[.bK]))=H15 at af1 aeV aeJ Yo ⊢
 rw?
 refine ⟨.inl ⟨rfl,_,bq.of Yo⟩,Zz Yo ?_⟩
 have LP:ao H9 (upd H15 L (.lst [])):=bf af1 nL
 have YB:AllP (upd H15 L (.lst [])) ps 8000:=aeV.app Yo
 have Yp:upd H15 L (.lst []) hd'=some (.lst (cJ ps)):=by rw [aK neL];exact aeJ
 generalize upd H15 L (.lst [])=H16 at LP YB Yp ⊢
 have aeI:=(s9.trans LP) _ _ eR8
 have aeH:=(s9.trans LP) _ _ eO
 have f16:=f9.up LP
  -- sure once more, of a row that is the same up to the moment
 have again:∀{G:Hp} {L3:aq} {XH:List En} {hs3:List Nn} {Q':VK},ao H16 G→G L3=some (.lst (vals XH))→Row G XH 160→rising XH→XH.length≤30→XH.map (·.2)=hs3.map (λx=>c7 b x.2)→hs3.filter (λx:Nn=>decide (x.2.1≤u))=hs.filter (λx:Nn=>decide (x.2.1≤u))→(∀(R3:aq) (ps3:List Pc) (G':Hp),ao G G'→G' R3=some (.lst (cJ ps3))→AllP G' ps3 8000→ps3.map (·.2)=ps.map (·.2)→Q' (.ref R3) G')→JX [.ref L3,.str (J5 wy),.ref pb,.int u] G Q' E0:=λ{G L3 XH hs3 Q'} sG eL3 hR3 hr3 l3 hm3 hf3 kk=>by
  refine ⟨L3,pb,XH,_,wy,u,rfl,eL3,hR3,hr3,l3,f16.up sG,iy,λR3 ps3 G' sG' _ e3 YC hD3=>kk R3 ps3 G' sG' e3 YC ?_⟩
  obtain ⟨c1,c2⟩:=same hm3 hf3
  exact vS.uniq iy c1 c2 rA rB hD3 hD
 rw?
 apply ⟨O,os,b,48,155,80,160,rfl,aeH,hos.up (s9.trans LP),dR h17 0#f,hb,zb,by decide,by decide,by decide,by decide,λL3 XH H17 s17 nL3 eL3 hR3 UP=>?_⟩
 refine again s17 eL3 hR3 (o4 UP wg) (by rw [xO UP];simp?) UP hfs λR3 ps3 H18 s18 e18 ahr hq=>?_
 have GZ:=s17.trans s18
 rw?
 apply Ad ahr (YB.up GZ) e18 (GZ _ _ Yp) hq ?_
 apply bR ?_
 apply ⟨R,hs,b,45,150,80,160,rfl,GZ _ _ aeI,K7.up (s9.trans (LP.trans GZ)),kR,hb,zb,by decide,by decide,by decide,by decide,λL4 es4 H19 s19 nL4 Ff hR4 UQ=>?_⟩
 refine again (GZ.trans s19) Ff hR4 (o4 UQ d9) (by rw [xO UQ];simp?) UQ rfl λR4 ps4 H20 s20 e20 ahs hq4=>?_
 have VZ:=GZ.trans (s19.trans s20)
 rw?
 apply Ad ahs (YB.up VZ) e20 (VZ _ _ Yp) hq4 ?_
 apply bR ?_
 apply fq (jb ?_)
 refine aC (mk:=.lst) 0#d λW H21 s21 n21 e21=>?_
 have LO:=VZ.trans s21
 have rows:∀(i:Nat) (x:V),[V.ref R,V.ref O][i]?=some x→∃(r:aq) (hs5 ys5:List Nn),x=.ref r∧H21 r=some (.lst (bH hs5))∧iN H21 hs5 48 155∧fP hs5∧hs5.length≤17∧hs5=hs.filter (λx:Nn=>decide (x.2.1≤u))++ys5:=λi x hx=>by
  match i,hx with
  | 0,hx=>
    cases hx
    obtain ⟨ys5,e5',_⟩:=DT u d9
    exact ⟨R,hs,ys5,rfl,LO _ _ aeI,λx hx=>let ⟨q1,q2,q3⟩:=(K7.up (s9.trans (LP.trans LO))) x hx;⟨q1,q2.mono 0#f,λz hz=>(q3 z hz).mono 0#f⟩,d9,by simp?,e5'⟩
  | 1,hx=>
    cases hx
    exact ⟨O,os,ys,rfl,LO _ _ aeH,hos.up (s9.trans (LP.trans LO)),wg,h17,heq⟩
  | n+2,hx=>cases hx
 refine ⟨W,rfl,⟨_,bq.of e21⟩,d8 (xs:=[V.ref R,V.ref O]) (λi σ H22=>RM λTR v13:Option V=>σ=[some (.ref a),some (.ref lw),some (.str (J5 wy)),some (.ref R),some (.int b),some (.int c),some (.int u),some (.ref O),some (.ref pb),some (.ref L),some (.ref Fo),some (.ref hd'),TR,v13]∧ao H21 H22) ?_ ?_ ?_ ?_⟩
 ·exact ⟨none,none,rfl,ao.refl _⟩
 ·rintro i σ H22 _ ⟨TR,v13,rfl,s22⟩
  exact bq.of (s22 _ _ e21)
 ·rintro i x σ H22 hx ⟨TR,v13,rfl,s22⟩
  refine c8 λM Bk RR hM _ _=>?_
  obtain ⟨r,hs5,ys5,rfl,er,hr5,ahI,h5,eq5⟩:=rows i x hx
  rw?
  apply ⟨r,hs5,b,48,155,80,160,rfl,s22 _ _ er,hr5.up s22,dR h5 0#f,hb,zb,by decide,by decide,by decide,by decide,λL5 es5 H23 s23 nL5 eL5 hR5 UR=>?_⟩
  have re5:=o4 UR ahI
  have aas:=LO.trans (s22.trans s23)
  refine ⟨L5,pb,es5,_,wy,rfl,eL5,hR5,re5,by rw [xO UR];simp?,f16.up aas,iy,λy X Z ps5 H24 S7 ey eX hP5 hT5=>?_⟩
  have aat:=aas.trans S7
  have aeK:=aat _ _ Yp
  have stay:(ps5.take ps.length).map (·.2)=ps.map (·.2):=by
   have:=vS.stay (A:=Fd es u) (B:=Gi es u) (ys:=ys5.map (λx=>c7 b x.2)) iy (Qa _) (HQ _) re5 (by
    rw [UR,eq5,jD,← sS]
    unfold Fd Gi
    rw [MG]) hD hT5
   rw [gI] at this
   rw [yU]
   exact this
  walk_at "vd"
  refine dW (.inl (bq.of aeK)) ?_
  rw [ja]
  walk_at "vd"
  have ahA:ps.length≤ps5.length:=by
   have:=congrArg oK stay
   rw [gI,gI,oQ] at this
   simp?
  refine vB eX λS5 H25 s25 n25 e25=>?_
  rw [MY (by rw [ja];exact ahA),wD] at e25
  rw?
  apply Ad (λx hx=>(hP5.up s25) x (Mp hx)) (YB.up (aat.trans s25)) e25 (s25 _ _ aeK) stay ?_
  apply bR ?_
  exact hM _ _ ⟨_,_,rfl,s22.trans (s23.trans (S7.trans s25))⟩
 ·rintro σ H22 ⟨TR,v13,rfl,s22⟩
  rw?
  exact k H22
theorem all_mk {l:W8} (X:K.In h) (G:h.Ns gC mg) (hfa:mg "law"=some (.ref fa)) 
 (RN:jC K gC "Stretch"=some (some (.ref aR))) (Oq:Hi K aR Xz=true) (Nq:Mr K aR=true) (Ou:Rg K aR=true) (OO:lE K (.ref aR) "__setattr__"=some (some (.builtin "object.__setattr__"))) (NJ:Rp K aR=true) (NB:yT K (.ref aR)=true)
 (zP:lE K (.ref aR) "twice"=some none)
 (wu:lE K (.ref aR) "samples"=some none)
 (vg:lE K (.ref aR) "gentlest"=some none)
 (vh:lE K (.ref aR) "steepest"=some none)
 (acv:jC K gC "Bend"=some (some (.ref aB))) (Zt:Hi K aB Xz=true) (YO:Mr K aB=true) (Zv:Rg K aB=true) (ZH:lE K (.ref aB) "__setattr__"=some (some (.builtin "object.__setattr__"))) (Y9:Rp K aB=true) (Y0:yT K (.ref aB)=true)
 (FJ:lE K (.ref aB) "bound"=some none)
 (FL:lE K (.ref aB) "twice"=some none)
 (FI:lE K (.ref aB) "below"=some none)
 (FH:lE K (.ref aB) "above"=some none)
 (zN:lE K (.ref aB) "gentlest"=some none)
 (zO:lE K (.ref aB) "steepest"=some none)
 (Nf:Fx K "_law_cell" wI)
 (Sg:Fx K "_law_mix" Ao)
 (Sh:Fx K "_law_row" Aq)
 (KU:Fx K "_law_ratio" uo)
 (BN:Fx K "plain_divisor" mJ)
 (zJ:Fx K "steps_of_heads" lu)
 (Sd:Fx K "divisor" Al)
 (YI:Fx K "ratio" Jz)
 (Sj:Fx K "reduced" As)
 (HZ:Fx K "loose_plus" rE)
 (vt:Fx K "loose_minus" lK)
 (Fy:Fx K "loose_times" pT)
 (YG:Fx K "minus" Jx)
 (ac5:Fx K "plus" OJ)
 (ac4:Fx K "over" OI)
 (pM:Fx K "loose_slope" jy)
 (Ft:Fx K "loose_along" pR)
 (C7:Fx K "loose_height" oE)
 (K2:Fx K "loose_off" ux)
 (YJ:Fx K "slope" JA)
 (Si:Fx K "line_by" Ar)
 (UK:Fx K "height" DZ)
 (ac3:Fx K "meet" OH)
 (YH:Fx K "order" Jy)
 (h_size:Fx K "size" OM)
 (Fw:Fx K "loose_stand" pS)
 (ac6:Fx K "runs" OL)
 (HY:Fx K "_law_shaped" rD)
 (KZ:Fx K "_law_times" uu)
 (HX:Fx K "_law_picked" rC)
 (KQ:Fx K "_law_drawn" uf)
 (zI:Fx K "loose_farthest" lg)
 (HV:Fx K "_law_handed" rq)
 (KW:Fx K "_law_stand" uq)
 (Nc:Fx K "greatest" wG)
 (Nl:Fx K "smallest" wO)
 (Fl:Fx K "good_behind" pP)
 (YF:Fx K "leaps" Jw)
 (KO:Fx K "labels_by" t8)
 (Sa:Fx K "bars_by" Aj)
 (we:Fx K "places_of_pieces" jM)
 (BL:Fx K "piece_between" mH)
 (Np:Fx K "tied_run" wR)
 (Nm:Fx K "tied_row" wQ)
 (YK:Fx K "spans" JB)
 (YE:Fx K "chain" Jv)
 (C4:Fm K aR "__init__" "Stretch.__init__" oz)
 (BJ:Fx K "gentlest_with" mF)
 (BO:Fx K "steepest_with" mK)
 (BH:Fm K aR "takes" "Stretch.takes" mD)
 (C5:Fm K aR "kept" "Stretch.kept" oA)
 (K3:Fx K "stretches" uy)
 (C9:Fx K "whole_points" oG)
 (Fg:Fx K "above_chord" pN)
 (FA:Fx K "scaled_offs" pV)
 (KN:Fx K "exchanged" t6)
 (BI:Fx K "forcing_three" mE)
 (YL:Fx K "stand" JC)
 (YM:Fx K "times" JD)
 (ac2:Fx K "best" OG)
 (Fz:Fx K "piece_along" pU)
 (HS:Fx K "best_piece" rg)
 (C6:Fx K "ending_three" oB)
 (YD:Fx K "apart" Ju)
 (Nj:Fx K "opposite" wM)
 (HU:Fx K "is_steeper" rj)
 (Sl:Fx K "touched" Av)
 (KI:Fm K aB "__init__" "Bend.__init__" tX)
 (C3:Fm K aB "line_of" "Bend.line_of" ow)
 (vd:Fm K aB "ended_in_cap" "Bend.ended_in_cap" jn)
 (vf:Fm K aB "ended_in_cup" "Bend.ended_in_cup" jq)
 (KJ:Fm K aB "take" "Bend.take" tY)
 (BG:Fm K aB "line_now" "Bend.line_now" mC)
 (Ni:Fx K "links_of" wL)
 (Nk:Fx K "point_on" wN)
 (C8:Fx K "pieces_along" oF)
 (UL:Fx K "joined" D0)
 (Ng:Fx K "_law_runs" wJ)
 (Nh:Fx K "_law_turn" wK)
 (K1:Fx K "_law_turns" uw)
 (xE:Fx K "settled_entries" kh)
 (BK:Fx K "parted_at_gap" mG)
 (Sk:Fx K "told_by" Au)
 (Sf:Fx K "_law_far" An)
 (KY:Fx K "_law_steps" ur)
 (KP:Fx K "_law_count" t9)
 (K0:Fx K "_law_total" uv)
 (HW:Fx K "_law_moment" rz)
 (KS:Fx K "_law_parts" um)
 (zH:Fx K "certain_of_run" kZ)
 (ac7:Fx K "sure" ON)
 (Fq:Fx K "is_fraction" pQ)
 (Nd:Fx K "is_wrong" wH)
 (Sb:Fx K "checked" Ak)
 (KL:Fx K "check_way" tZ)
 (Fj:Fx K "check_bound" pO)
 (UJ:Fx K "fewest" DY)
 (Se:Fx K "_law_due" Am)
 (KR:Fx K "_law_other" uh)
 (aeW:Fx K "law" V1)
 (acY:jC K gC "HEAD"=some (some (.int 256 ag9)))
 (acZ:jC K gC "MOST"=some (some (.int 40 aha)))
 (WA:Gt K "WAYS" HP "apart" "joined" "spans" "chain")
 (agf:jC K gC "len"=some none)
 (agb:jC K gC "abs"=some none)
 (ZX:jC K gC "range"=some none)
 (J7:jC K gC "isinstance"=some none)
 (age:jC K gC "int"=some none)
 (aen:jC K gC "bool"=some none)
 (ZY:jC K gC "tuple"=some none)
 (aeo:jC K gC "list"=some none)
 (agg:jC K gC "max"=some none)
 (agh:jC K gC "min"=some none)
 (Mb:jC K gC "enumerate"=some none)
 (agk:jC K gC "zip"=some none)
 (agc:jC K gC "all"=some none)
 (agd:jC K gC "any"=some none)
 (agj:jC K gC "sum"=some none)
 (WD:jC K gC "sorted"=some none)
 (Pj:jC K gC "reversed"=some none)
 (agi:jC K gC "str"=some none) :
 ∃fd:jW,(∀(s:bC) (v:aJ),BindsTo s fd ⟨[v],[]⟩ [("_law_script",v)])∧∀base:cP,K.In base→base.Ns gC mg→bh l.prog w K mg base dm 13 fa fd [bI] (LW K):=by
 obtain ⟨_,acR,aeA,Z2⟩:=aeW
 have e:=hfa.symm.trans (ER X G aeA)
 cases e
 have T:Txt mg:=⟨sA X G agf,sA X G agb,sA X G ZX,sA X G J7,sA X G age,sA X G aen,sA X G ZY,sA X G aeo,sA X G agg,sA X G agh,sA X G Mb,sA X G agk,sA X G agc,sA X G agd,sA X G agj,sA X G WD,sA X G Pj,sA X G agi⟩
 obtain ⟨_,_,CN,De,sZ⟩:=C4
 obtain ⟨_,_,Kn,K9,AR⟩:=KI
 have vL:Cn mg "HEAD" 256:=⟨_,ER X G acY⟩
 have MK:Cn mg "MOST" 40:=⟨_,ER X G acZ⟩
 have bg:Cl K mg "Stretch" aR ["twice",aZ,iV,iW]:=⟨⟨Oq,Nq,Ou,OO⟩,ER X G RN,⟨zP,wu,vg,vh,trivial⟩⟩
 have aP:Cl K mg "Bend" aB [aO,"twice","below","above",iV,iW]:=⟨⟨Zt,YO,Zv,ZH⟩,ER X G acv,⟨FJ,FL,FI,FH,zN,zO,trivial⟩⟩
 have MU:mg "WAYS"=some (.ref HP):=ER X G WA.1
 refine ⟨acR,λs v=>?_,λbase _ _=>?_⟩
 ·obtain ⟨_,_,_,_,_,_,_,_,_,rfl,_,_⟩:=Z2.ex
  exact .of_eq rfl
 have Y:Tp l.prog w K mg base:=⟨h,X,G⟩
 have qH:=Y.d Nf λF=>Ly F T
 have uR:=Y.d Sg λF=>N8 F
 have iY:=Y.d Sh λF=>N9 F T qH uR
 have jQ:=Y.d KU λF=>IM F T
 have mj:=Y.d BN λF=>zZ F T
 have kP:=Y.d zJ λF=>xV F vL
 have iX:=Y.d Sd λF=>N5 F T vL mj kP
 have uS:=Y.d YI λF=>Vr F T iX
 have bV:=Y.d Sj λF=>Ob F uS
 have cu:=Y.d HZ λF=>FW F
 have aY:=Y.d vt λF=>Dv F
 have dY:=Y.d Fy λF=>Dz F
 have Cd:=Y.d YG λF=>Vp F aY bV
 have qL:=Y.d ac5 λF=>Zj F cu bV
 have MP:=Y.d ac4 λF=>Zi F uS
 have iE:=Y.d pM λF=>Dw F aY
 have dX:=Y.d Ft λF=>Du F cu dY
 have gJ:=Y.d C7 λF=>BW F cu dY
 have sX:=Y.d K2 λF=>IV F aY gJ
 have Ce:=Y.d YJ λF=>Vt F iE bV
 have kK:=Y.d Si λF=>Oa F dX bV
 have ju:=Y.d UK λF=>SR F gJ bV
 have MO:=Y.d ac3 λF=>Zh F MP Cd ju
 have dI:=Y.d YH λF=>Vq F
 have pI:=Y.d Fw λF=>Dy F aY dX iE
 have qN:=Y.d ac6 λF=>Zk F T
 have qK:=Y.d HY λF=>FU F T
 have sV:=Y.d KZ λF=>IS F
 have qJ:=Y.d HX λF=>FT F T
 have sP:=Y.d KQ λF=>IJ F T iY qK qJ sV
 have nJ:=Y.d vt λF=>BX F
 have nK:=Y.d pM λF=>BY F nJ
 have kL:=Y.d zI λF=>xU F T dI nK
 have gY:=Y.d HV λF=>FP F jQ
 have jR:=Y.d KW λF=>IP F
 have gX:=Y.d Nc λF=>Lv F dI
 have kO:=Y.d Nl λF=>LF F dI
 have cF:=Y.d pM λF=>BZ F aY
 have pG:=Y.d Fl λF=>Ds F T dI cu aY cF gX kO
 have Hx:=Y.d YF λF=>Vo F T pG
 have sO:=Y.d KO λF=>IG F T
 have yZ:=Y.d Sa λF=>N3 F T kL
 have jI:=Y.d we λF=>vm F T
 have mh:=Y.d BL λF=>zY F T
 have vQ:=Y.d Np λF=>LH F T Hx sO jI mh yZ
 have kQ:=Y.d Nm λF=>LG F T qN vQ
 have Hz:=Y.d YK λF=>Vu F T kQ
 have Hw:=Y.d YE λF=>Vn F T kQ
 have uQ:Dk l.prog w K mg base 6 "Stretch" aR [cz,aO] (Ek aR):=⟨_,_,BS sZ bg qL,⟨NJ,CN,De,NB⟩,(sZ.HD λ_ _ _ _ _ _ _ _=>rfl),bg.at_⟩
 have cW:=Y.d BJ λF=>zW F T aY cF gX
 have cX:=Y.d BO λF=>z5 F T cu cF kO
 have jE:=Y.m BH λF=>zU F T bg cW cX dI
 have j5:=Y.m C5 λF=>BU F T bg
 have sY:=Y.d K3 λF=>IW F T bg uQ jE j5
 have nQ:=Y.d C9 λF=>B3 F iX
 have lG:=Y.d Fg λF=>Dq F
 have pK:=Y.d FA λF=>DB F lG
 have sN:=Y.d KN λF=>IF F
 have lZ:=Y.d BI λF=>zV F T nQ pK sN
 have HA:=Y.d YL λF=>Vv F bV pI
 have HB:=Y.d YM λF=>Vw F dY bV
 have Hy:=Y.d h_size λF=>Vs F T
 have zf:=Y.d ac2 λF=>Zg F T Ce kK lZ HB HA qL Hy
 have pJ:=Y.d Fz λF=>DA F ju
 have qG:=Y.d HS λF=>FN F pJ zf
 have nI:=Y.d C6 λF=>BV F T zf
 have Hv:=Y.d YD λF=>Vm F T qN sY qG nI
 have kM:=Y.d Nj λF=>LC F
 have mW:=Y.d HU λF=>FO F dI
 have jS:=Y.d Sl λF=>Od F dI sX
 have MN:Dk l.prog w K mg base 6 "Bend" aB [cz,aO] (Cv aB):=⟨_,_,IC AR aP qL,⟨Y9,Kn,K9,Y0⟩,(AR.HD λ_ _ _ _ _ _ _ _=>rfl),aP.at_⟩
 have cT:=Y.m C3 λF=>BR F aP bV dX aY gX
 have jh:=Y.m vd λF=>tQ F aP cT jS kM cX
 have ji:=Y.m vf λF=>tR F aP cT jS kM cW
 have sL:=Y.m KJ λF=>ID F aP cW cX mW jh ji
 have lY:=Y.m BG λF=>zR F T aP kK cT
 have vP:=Y.d Ni λF=>LB F T aP MN sL lY
 have qM:=Y.d Nk λF=>LD F ju
 have nN:=Y.d C8 λF=>B0 F T qM MO
 have CD:=Y.d UL λF=>SS F T qN vP nN
 have vN:=Y.d Ng λF=>Lz F T
 have vO:=Y.d Nh λF=>LA F T jR
 have lQ:=Y.d K1 λF=>IU F T vO
 have j6:=Y.d xE λF=>wz F
 have l9:=Y.d BK λF=>zX F T
 have iZ:=Y.d Sk λF=>Oc F Hv CD Hz Hw
 have zo:=Y.d Sf λF=>N7 F T jR
 have sU:=Y.d KY λF=>IQ F T zo
 have iM:=Y.d KP λF=>II F T lQ sU
 have sW:=Y.d K0 λF=>IT F T vN iM
 have qI:=Y.d HW λF=>FQ F T
 have sR:=Y.d KS λF=>IL F T
 have kJ:=Y.d zH λF=>xT F iZ
 have CF:=Y.d ac7 λF=>Zl F T j6 l9 iZ kJ
 have pH:=Y.d Fq λF=>Dt F iX
 have vM:=Y.d Nd λF=>Lx F T MK pH
 have zj:=Y.d Sb λF=>N4 F T vM
 have sM:=Y.d KL λF=>IE F MU WA.2
 have pF:=Y.d Fj λF=>Dr F
 have CC:=Y.d UJ λF=>SQ F sM pF zj iZ
 have zk:=Y.d Se λF=>N6 F T sR sW iM
 have sQ:=Y.d KR λF=>IK F T iY
 exact adB Z2 T iY sP qI sQ jQ gY CF zk CC
theorem walk {l:W8} {K:Params→cj} (hn:l.most=some 63) (hdf:d.params.defaults=[])
 (hY:∀(w:fN) (h:cP),YP w h→(K w.params).In h)
 (F:∀(w:fN) (mg:Str→Option aJ) (fa:aq) (h:cP),(K w.params).In h→h.Ns gC mg→mg d.name=some (.ref fa) →
   ∃fd:jW,(∀(s:bC) (u:aJ),BindsTo s fd ⟨[u],[]⟩ [("_law_script",u)])∧∀base:cP,(K w.params).In base→base.Ns gC mg→bh l.prog w (K w.params) mg base dm 13 fa fd [bI] (LW (K w.params))) :
 abM q loose XP YP l.row.toRowW d [] (λf vs=>Xx f vs):=
 L2.ZW (n:=63) (k:=13) (x := "_law_script") (CX:=λ_=>dm) (sp:=λw=>LW (K w.params)) hn 0#f hdf ⟨rfl,by decide,by decide⟩ hY F (λ_ _ a ns hl _ hS=>⟨a,ns,rfl,hS,hl,λ_=>rfl⟩) λ_ _ _ _ _ z=>z
end Lw
open PySem PySem.W PyProof.Rows
set_option maxRecDepth 100000 in
set_option maxHeartbeats 0 in
theorem PySem.Challenge.cw_lath_k71_sure_holds : PySem.Challenge.rw_lath_k71_sure.Holds := by
 w_on;o_law;k_head;(case hw=>w_witness2)
 k_fill
 refine Lw.walk (l:=PySem.Challenge.rw_lath_k71_sure) rfl rfl (fun w h Y=>PySem.W.kIn_of Y) ?F
 case F=>
  intro w mg fa h KX G hmg
  refine' Lw.all_mk KX G hmg .. <;> first | done | walk_at "fz" | skip
