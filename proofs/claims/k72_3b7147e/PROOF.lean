import PyProof.Rows.All
import Wide.FinOn
import KE.KFromBytes
import KE.KIntText
import KE.KItem
import KE.KListMore
import KE.KRevIter
import KE.LcSums
import KE.RegKIsAll
import KE.RegKTryMore
import PySem.Challenge.RW_lath_k72_few
set_option Elab.async false
set_option linter.all false
set_option compiler.extract_closed false
set_option maxRecDepth 100000
noncomputable section
set_option hygiene false
local macro_rules
|`(0#a)=>`(⟨rfl,rfl,rfl,by decide +kernel,rfl,by decide +kernel,by decide +kernel⟩)
|`(1#a)=>`((.ref p))
local macro_rules
|`(0#b)=>`((λcdv A outer s H vs Q E hr h=>?_))
|`(1#b)=>`(⟨by lia,by lia,by lia,by lia⟩)
local macro_rules
|`(0#c)=>`((by simp?))
|`(1#c)=>`((.lst (vals (ss.drop b)++[.ref x])))
local macro_rules
|`(0#d)=>`((by try?))
|`(1#d)=>`((λ_ _ _ _ _=>kL))
local macro_rules
|`(0#e)=>`((λvs H Q E h=>?_))
|`(1#e)=>`(((mo es k:Rat)-(mo es i:Rat)))
local macro_rules
|`(0#f)=>`((by simp))
local macro_rules
|`(0#g)=>`((by decide +kernel))
local macro_rules
|`(0#h)=>`((λ_ _=>rfl))
local macro_rules
|`(0#i)=>`((by decide))
local macro_rules
|`(0#j)=>`((aa 0))
local macro_rules
|`(0#k)=>`((Or.inl rfl))
local macro_rules
|`(0#l)=>`((aC "steepest" .bM (aC "gentlest" (.ref ps) (aC "above" (.ref D) fs))))
local macro_rules
|`(0#m)=>`((aC "gentlest" .bM (aC "steepest" (.ref ps) (aC "below" (.ref D) fs))))
local macro_rules
|`(0#n)=>`((model X.prog X.w))
local macro_rules
|`(0#o)=>`((cU X (O++N') scope (ie X.env.cells scope.names []) C s0 H0 ex' j7))
local macro_rules
|`(0#p)=>`((aa 1))
local macro_rules
|`(0#q)=>`((.tup xs))
local macro_rules
|`(0#r)=>`((.ListComp elt [⟨tg,iter,ifs,0⟩] scope pos))
local macro_rules
|`(0#s)=>`((aa 2))
local macro_rules
|`(0#t)=>`(((c:Rat)/(b:Rat)))
local macro_rules
|`(0#u)=>`(⟨⟨rfl,rfl,rfl,rfl⟩,trivial⟩)
local macro_rules
|`(0#w)=>`((aC "twice" (.ref tw) (aC "bound" (.ref pb) [])))
local macro_rules
|`(0#x)=>`((au.refl _))
local macro_rules
|`(0#y)=>`((λc=>?_))
local macro_rules
|`(0#z)=>`((hr.mono 0#i))
local macro_rules
|`(0#A)=>`((.lst (vals es)))
local macro_rules
|`(0#B)=>`((x==("__debug__":Str)))
local macro_rules
|`(0#C)=>`((λc1=>?_))
local macro_rules
|`(0#D)=>`((rJ x qual (fU st) (fD st) (ah st) .none kV doc pm an cdv ct))
local macro_rules
|`(0#E)=>`((aa 3))
local macro_rules
|`(0#F)=>`((ss++[(x,m,some q)]))
local macro_rules
|`(0#G)=>`((false,eval e X.env))
local macro_rules
|`(0#H)=>`((es.length+aU ao))
local macro_rules
|`(0#I)=>`((aJ K 0#j))
local macro_rules
|`(0#J)=>`((aG _))
local macro_rules
|`(0#K)=>`((cU X (O++N') scope cl h3.objs.size { s2 with heap:=h3,toks:=s2.toks } (upd H2 D (.lst [])) fp (X.pn++pins)))
local macro_rules
|`(0#L)=>`((ns.map V.int))
local macro_rules
|`(0#M)=>`(⟨rfl,?_⟩)
local macro_rules
|`(0#N)=>`((s.heap.objs.size+1))
local macro_rules
|`(0#O)=>`((by grind))
local macro_rules
|`(0#P)=>`((fh K 0#j))
local macro_rules
|`(0#Q)=>`((aJ K 0#p))
local macro_rules
|`(0#R)=>`((s4.trans s5))
local macro_rules
|`(0#S)=>`((s3.trans s4))
local macro_rules
|`(0#T)=>`((model prog w))
local macro_rules
|`(0#U)=>`((.ref l))
local macro_rules
|`(0#V)=>`((eY K T.eU 0#j))
local macro_rules
|`(0#W)=>`((apos.endLine==cpos.line))
local macro_rules
|`(0#X)=>`((aa 4))
local macro_rules
|`(0#Y)=>`((.ins C dx fs))
local macro_rules
|`(0#Z)=>`((fF K))
set_option hygiene true
open PySem.W renaming Frag→b9,findIn→ko,nsIn→jc,mg_none_of→rE,fnOf→rJ,keepIn→yd,kia_one→DT,emptyDict→IJ,codeIn→xU,instObj→Aj,plainGet→FG,isFn→Am,hasDictIn→KQ,kitOne→FJ,plainOver→O1,mg_of→K2,makesIn→O8,plainGet_of→U7,lookIn→Pe,callWith_K→Va,methodObj→Ve,cellsFrom_some→YY,takerIn→Vk,OpenLaw→Vm,methodCall_KW→Y8,kitx_list→Zx,kitx_dict→Zy,handedIn→ZI,WalkO→aae
open List renaming length_append→fj,getElem?_eq_some_iff→lS,getElem?_eq_getElem→mC,length_map→gV,mem_of_getElem?→lP,map_append→iI,getElem?_map→dw,mem_append→dg,length_drop→iX,size_toArray→jQ,mem_map→gD,take_length→jR,getElem?_drop→nW,range→fM,getElem?_append_right→ya,getElem?_append_left→yb,replicate→kT,take_add_one→rF,Nodup→jd,mem_append_right→Bc,length_take→uL,mem_range→rH,mem_cons→qU,mem_cons_of_mem→DP,append_nil→vX,range_succ→vY,mem_singleton→DQ,filter_append→DR,length_singleton→ID,drop_append_of_le_length→Q6,length→tY,replicate_succ→IF,getElem?_range→IG,take_append_drop→Lc,length_eq_zero_iff→NH,mem_filter→DS,length_pos_iff→Ld,flatten_cons→xR,map_map→pT,mem_cons_self→Ae,drop_sublist→Ag,length_replicate→Fy,length_cons→Ah,mem_append_left→Fz,pairwise_append→FA,append_assoc→Dz,pairwise_singleton→KC,filter_cons_of_pos→KD,flatten_append→FD,filter_sublist→FE,filter_cons→DA,mem_of_mem_drop→KL,getElem_mem→FI,filter_cons_of_neg→OR,take_succ→DE,take_of_length_le→OS,drop_of_length_le→OT,map_cons→DG,length_filter_le→OV,take_sublist→KR,map_drop→FN,getElem?_take→O0,lookup→DI,getElem?_replicate→U4,nodup_append→O3,pairwise_map→O4,nodup_cons→O9,filterMap_cons→U6,map_congr_left→U8,map→Ar,pairwise_iff_getElem→YO,sublist_append_right→YQ,all_cons→Pg,sublist_append_left→YT,lookup_cons→Vi,mem_flatMap→Vj,getElem?_set_self→YW,filter_eq_nil_iff→Y6,of_mem_zip→Vl,filter_nil→Vr,filter_map→Vs,dropLast_sublist→Za,getElem?_eq_none→Zb,eq_nil_or_concat→Zc,mem_iff_getElem?→Zd,getElem?_set_ne→Ze,mem_of_mem_take→Zh,getElem?_of_mem→Zi,flatMap_append→Zl,map_take→Vv,mem_filterMap→Zo,pairwise_cons→Zs,map_nil→VA,reverse_cons→ZA,ext_getElem?→ZC,length_range→ZG,all_eq_true→ZM,map_reverse→ZP,drop_length→ZQ,nil_append→ZR,length_nil→ZV,foldl→VP,drop_zero→ZY,drop_drop→Z7,any_cons→aac
open PySem renaming Addr→av,starEach→bD,Value→aL,Shared→bA,mainGlobals→fT,wpAny_bind→gJ,Stmt→aT,Expr→bg,wpAny→ck,assignEach→oq,wpAny_pure→ou,attributeBase→vZ,take_succ_filter→K9,backTo→iA,compareOp→pZ,foldedSetIterable→II,FuncData→jP,swapsWith→lR,wpAny_mono→pW,Program→jv,bootBuiltins→uV,keywordEach→tU,wpAny_passesOwn→DB,World→eV,wpAny_holding→Al,Heap→cN,mem_of_lookup→KN,binaryOp→oK,wpAny_truthy_bool→KP,intBits_le_iff→FL,Keyword→oM,backToKw→tW,wpAny_Call_Name_kw→OZ,sliceBounds→DJ,Around→oN,wpAny_standAt→K1,NameKind→xX,wpAny_execs_nil→O6,bindArgs→Aq,call_meets→FQ,PyData→tX,standAt→As,wpAny_pyNext_list_item→YX,codeAny→Au,codeAny_mono→Ph,Scope→pY,wpAny_pyNext_list_end→Y7,callerA→DN,Within→Vw,wpAny_assign_Name→Zt,wpAny_newObj_type→Zv,wpAny_pyIter_list→Zw,seqIndex_neg→VB,slot_list_getitem→Zz,wpAny_pyIter_enum→ZD,wpAny_execs_cons→ZH,PassesOwn→Pp,noFill_tuple_add→ZK,wpAny_pyIter_zip→ZN,seqIndex_of→VG,wpAny_Name→VN,wpAny_bindName→ZW,bindL→Av,bindC→Aw,typeIs_int→VO,call→VQ,numAt_eq→Pu,getD_mem→ZZ,mem_getD→Z0,boot_len→Z1,intBits_le_64→Z9,seq_tuple_add→aaa,evalPart_none→aab,call_list_seq→aad,nums_intItems→aag
open Nat renaming le_refl→dG,le_trans→dP,lt_of_lt_of_le→qT,ne_of_lt→lO,zero_le→mD,le_of_lt→uM,lt_of_le_of_lt→EC,not_lt_zero→Be,succ_le_succ→xS,le_succ_of_le→Af,min_eq_left→Ak,le_succ→tV,le_add_right→FH,add_comm→An,add_sub_cancel→KO,lt_trans→Ao,lt_irrefl→DF,strongRecOn→Pd,sub_self→K3,lt_trichotomy→Vg,add_sub_cancel_left→YV,add_zero→Pn,two_pow_pos→Vp,pow_le_pow_right→Zf,gcd_zero_right→Zq,eq_zero_or_pos→Zr,ne_of_gt→Vx,lt_or_ge→VD,gcd_dvd_right→ZE,succ_pos→VE,lt_succ_self→ZJ,min_eq_right→ZO,add_mul→VJ,one_mul→VM,gcd→K7,mul_le_mul→Z2,le_of_dvd→aah,le_of_eq→aam,mul_comm→aan,gcd_comm→aao,le_total→aaq,zero_add→aas,zero_sub→aav,mod_lt→aaE
open Bool renaming false_ne_true→dW,eq_false_iff→gQ,and_eq_true→Ai,eq_iff_iff→O7,false_eq_true→Zp
open PySem.PassesOwn renaming never→fQ
open PySem.Heap renaming get?_push_of_some→pA,lt_size→gC,get?_push_size→EB,SameBut→DH,get?_update_other→Y3,size_push→ZX,ExtBut→aaB
open Rat renaming mul_le_mul_of_nonneg_right→zQ,intCast_lt_intCast→vW,intCast_mul→nY,intCast_sub→oh,not_lt→jz,mul_lt_mul_of_pos_right→IB,mul_lt_mul_right→IE,le_trans→pU,le_refl→pV,intCast_le_intCast→KG,le_of_mul_le_mul_right→OJ,not_le→rB,intCast_inj→KY,le_antisymm→K0,intCast_neg→Pa,intCast_pos→Pb,le_of_lt→K4,lt_of_mul_lt_mul_right→YN,intCast_add→Vo,lt_irrefl→Vu,mul_eq_zero→ZT,div_lt_iff→Z5,lt_div_iff→Z6,zero_mul→aat,mul_comm→aau,mul_pos→aaA
open Int renaming gcd→cH,fdiv_eq_ediv_of_nonneg→DO,mul_nonneg→pB,mul_le_mul_of_nonneg_right→K8,emod_lt_of_pos→zU,gcd_pos_of_ne_zero_right→Q7,emod_nonneg→Bd,mul_comm→pS,mul_ediv_add_emod→KH,dvd_mul_of_dvd_right→ON,mul_le_mul→DC,mul_pos→xV,not_lt→uX,gcd_dvd_right→KS,gcd_dvd_left→KU,natCast_nonneg→OY,le_refl→DK,natAbs_add_le→O2,ediv_le_self→O5,natAbs_neg→Pf,natAbs_natCast→Vb,lt_of_lt_of_le→Vd,toNat_natCast→Vf,mul_neg→K5,mul_fdiv_cancel_left→YS,ediv_le_ediv→Vh,le_ediv_iff_mul_le→Y5,le_of_lt→Pj,le_trans→Pk,le_antisymm→Vn,fdiv_nonneg→Vq,natAbs_dvd_natAbs→Y9,natAbs_mul→Vt,neg_mul→Po,natAbs_of_nonneg→Zg,ediv_mul_cancel→Zj,toNat_of_nonneg→Zk,gcd_comm→VC,add_zero→VF,toNat→Pq,neg_neg→VH,pow_pos→VI,ediv_nonneg→ZS,add_assoc→aaj,lt_or_le→aap,dvd_gcd→aax,dvd_add→aay,pow_add→aaz,natAbs→aaF
open PySem.Builtin.Int renaming intBits→uK
open PyProof.Rows renaming boot_abs→zR,boot_isinstance→IA,callWith_type1→KA,boot_int→KI,boot_max→KJ,boot_tuple→OP,boot_min→OU,boot_bool→U5,assignInOrder_cons→U9,AllBare→xY,subscriptTail_builtinR→Y0,envOfC→xZ,IntsAre→DM,assignInOrder_nil→Zu,callWith_builtin1→aez,boot_sorted→aeW,boot_list→aeY
open Option.some renaming inj→yc
open Option renaming map_eq_some_iff→IC,isSome_iff_exists→OL,getD_none→ZL,map_some→ZU,map_map→Z8
open Ne renaming symm→jA
open Classical renaming byContradiction→Q8
open False renaming elim→pX
open PySem.Str renaming ofString→uW,empty→VS
open PySem.Builtin.List renaming listTooLong→OM
open PySem.F renaming plainAttrs_list→OO,args_tuple_add_2→YR,entry_tuple_add→YU,slot_tuple_add→YZ
open Array renaming length_toList→OX,toList→aal
open PySem.PyData renaming depthAll→KZ,eqv→DL,canLayAll0→ZF,eqvAll→aai,depth→aar
open PySem.SeqAt renaming shaped→FO,EqAt→aaC
open PySem.Calls renaming Name_function_global→YM,callWith_builtin→Y4
open PySem.Obj renaming mapSeq→K6
open PySem.SeqAt.EqAt renaming int_str→Zm,str_int→Zn,none_bool→aeZ,bool_none→ae0,bool_bool→ae1,none_int→ae4,none_str→ae5,bool_int→ae6,bool_str→ae7,int_none→ae8,int_bool→ae9,str_none→afa,str_bool→afb,int_int→afg,str_str→afh,same→afl
open PySem.Around renaming under→Vy
open PySem.Code renaming isFrame→Vz,frames→aaw
open PySem.EqNone renaming eq_none_none→aeA,eq_none_bool→aeB,eq_bool_none→aeC,ne_none_none→aeF,ne_none_bool→aeG,ne_bool_none→aeH,eq_none_int→aeK,eq_none_str→aeL,eq_int_none→aeM,eq_str_none→aeO,ne_none_int→aeQ,ne_none_str→aeR,ne_int_none→aeS,ne_str_none→aeU
open PySem.EqMixed renaming eq_bool_str→aeD,eq_str_bool→aeE,ne_bool_str→aeI,ne_str_bool→aeJ,eq_int_str→aeN,eq_str_int→aeP,ne_int_str→aeT,ne_str_int→aeV
open Int.ofNat renaming inj→aaf
open List.cons renaming inj→aak
open PyProof.Rows.IsTup renaming new→VR
open PySem.Builtin.Range renaming rangeSize→aeX
open PySem.MeetsSeq.EqGives renaming int→ae2
open Prod renaming fst→VT
open List.Pairwise renaming filter→ae3
open List.Sublist renaming append→afc,refl→afk
open PySem.W.Looks renaming here→afd
open PySem.Heap.IsSliceOf renaming new→afe
open PySem.W.WShape renaming has→aaD
open PySem.Within renaming cons→afi
open PySem.Heap.SameBut renaming refl→afj
abbrev jw:=@of_decide_eq_true
abbrev gY:=@of_decide_eq_false
abbrev jb:=@decide_eq_true
abbrev rG:=@decide_eq_false
abbrev xT:=@and_congr_right
abbrev xW:=@beq_iff_eq
abbrev KW:=@decide_eq_decide
abbrev OW:=@beq_eq_false_iff_ne
abbrev FP:=@exists_congr
abbrev Vc:=@decide_eq_true_iff
local macro_rules | `(tactic| simp?) => `(tactic| first | lia | omega)
set_option bootstrap.genMatcherCode false
namespace PySem.W.Fast
def tw17144988997324987260:=Nat
def tw18304281600649467040:=Nat
def tw6083155365354888384:=Nat
def tw11313356503297326304:=Nat
def tw13353821603841207552:=Nat
def tw13880237474102376000:=Nat
def tw11361690575303612096:=Nat
def tw9806857309709072064:=Nat
def tw1955068323594765024:=Nat
def tw7430148198578868032:=Nat
def tw2163063783726843776:=Nat
def tw13600884372756212865:=Nat
def tw5686522750376812705:=Nat
def tw18236899911602002273:=Nat
def tw1805330105127344609:=Nat
def tw16074076766692967969:=Nat
def tw1039470935083113057:=Nat
def tw9309636279736970881:=Nat
def tw4962648884694413985:=Nat
def tw5662896245599779521:=Nat
def tw16851347823280347009:=Nat
def tw9224145966259134369:=Nat
def tw2841865601436502945:=Nat
def tw13527973624656021826:=Nat
def tw8825223179072027042:=Nat
def tw9685556404093710882:=Nat
def tw7493637899280044610:=Nat
def tw16708045987878114018:=Nat
def tw7654402832747516770:=Nat
def tw3882175731295498339:=Nat
def tw8236759081943970915:=Nat
def tw3372894411393958051:=Nat
def tw5996470018141250723:=Nat
def tw12244693346666482019:=Nat
def tw663516579120399747:=Nat
def tw16629522226391841187:=Nat
def tw5712051915370572291:=Nat
def tw11886165901348635235:=Nat
def tw14811282830156075683:=Nat
def tw14388049051786931971:=Nat
def tw16160825761642460612:=Nat
def tw4907228774979659236:=Nat
def tw3563788533310828132:=Nat
def tw6534258048222526116:=Nat
def tw96642376429036228:=Nat
def tw15823478266312225508:=Nat
def tw6316044864392483588:=Nat
def tw10527529214361984772:=Nat
def tw2359483374867773220:=Nat
def tw16423947824265711428:=Nat
def tw5562985078455171908:=Nat
def tw9209998033472703332:=Nat
def tw14011311243319376740:=Nat
def tw38439681717957508:=Nat
def tw12371926544229822372:=Nat
def tw7469520833724397540:=Nat
def tw1465402189871693829:=Nat
def tw4857387938394658949:=Nat
def tw10346657257582388581:=Nat
def tw17429342416239825253:=Nat
def tw15138606596067021221:=Nat
def tw18127592615537061349:=Nat
def tw2885101192610410021:=Nat
def tw9213184451857859141:=Nat
def tw2772954269328064101:=Nat
def tw16151573208635345669:=Nat
def tw7272992368498131749:=Nat
def tw13765666495657300805:=Nat
def tw9579061802662715526:=Nat
def tw12909912631876085894:=Nat
def tw3926466951131901094:=Nat
def tw3034227731016545446:=Nat
def tw837898570308695334:=Nat
def tw5076556382424223046:=Nat
def tw832117233900807494:=Nat
def tw4393308738454964806:=Nat
def tw13557130013137922630:=Nat
def tw16976462647092150918:=Nat
def tw1490704905703754406:=Nat
def tw1381509852778667814:=Nat
def tw11558843819111379846:=Nat
def tw6406378568721658758:=Nat
def tw12436700486112360422:=Nat
def tw1577193832248780871:=Nat
def tw18058053718640935111:=Nat
def tw15487886430130820327:=Nat
def tw3617317168918381831:=Nat
def tw15650393511563991367:=Nat
def tw16286294397286885703:=Nat
def tw15911629755040884071:=Nat
def tw9614991249997038023:=Nat
def tw12760238916944863751:=Nat
def tw10641019187892362823:=Nat
def tw183035590858369639:=Nat
def tw5979192354628045447:=Nat
def tw7364118844166513351:=Nat
def tw2721268082054316775:=Nat
def tw14792717731842410215:=Nat
def tw2898610833909955335:=Nat
def tw7567163198638373671:=Nat
def tw692712076003790856:=Nat
def tw3836069756929056872:=Nat
def tw4564161047558623400:=Nat
def tw11706567041654680744:=Nat
def tw11989208522190066856:=Nat
def tw644526514202842344:=Nat
def tw8936439892591389960:=Nat
def tw7038150162774455560:=Nat
def tw3944198154817636744:=Nat
def tw18325608214837777832:=Nat
def tw3223292533087235560:=Nat
def tw15450614337119459848:=Nat
def tw5559057450026599016:=Nat
def tw13296375817717422760:=Nat
def tw9101664915757318824:=Nat
def tw12048234871348563752:=Nat
def tw2525322424398657320:=Nat
def tw1923819224173115208:=Nat
def tw4413951141554350984:=Nat
def tw8495720855680460744:=Nat
def tw9988291490373321672:=Nat
def tw657172423899745481:=Nat
def tw14011410397390717225:=Nat
def tw6866020771733844393:=Nat
def tw7518313248073933257:=Nat
def tw17896467622919948745:=Nat
def tw16401415876979878473:=Nat
def tw14033404914460356169:=Nat
def tw10250055404023080617:=Nat
def tw12426777146607638377:=Nat
def tw198876438211518313:=Nat
def tw18287924770525112169:=Nat
def tw6200875468611459977:=Nat
def tw14870024790546754473:=Nat
def tw11154408963488792489:=Nat
def tw9701287269751357353:=Nat
def tw10786014123016830921:=Nat
def tw4892102608188823594:=Nat
def tw17416544130680843434:=Nat
def tw530913104073469258:=Nat
def tw9770201545808612778:=Nat
def tw3649521647360532202:=Nat
def tw10001540645627451178:=Nat
def tw17446924037524982634:=Nat
def tw64506296204848010:=Nat
def tw14063842501176580010:=Nat
def tw3106787937507308555:=Nat
def tw16973229285036892363:=Nat
def tw9649181843061656811:=Nat
def tw1555279271437010187:=Nat
def tw790154561982046475:=Nat
def tw4444569893749642507:=Nat
def tw9813807989726485003:=Nat
def tw7814494063304146475:=Nat
def tw6825752840026530379:=Nat
def tw13221916713734596235:=Nat
def tw16641235709950466731:=Nat
def tw6498501248769656619:=Nat
def tw12959661010418346859:=Nat
def tw5137166507293191019:=Nat
def tw16940271045631152011:=Nat
def tw9924052817221958571:=Nat
def tw12785290097787418539:=Nat
def tw4884443680052332459:=Nat
def tw2438397003160751051:=Nat
def tw17959622809932900299:=Nat
def tw1519825764551289900:=Nat
def tw7016480429349525612:=Nat
def tw8330226301946621132:=Nat
def tw7888539423391119660:=Nat
def tw17410446998672206348:=Nat
def tw465454119987967532:=Nat
def tw7122967960454582828:=Nat
def tw141047463992296012:=Nat
def tw17859528166797589100:=Nat
def tw13389817062803637964:=Nat
def tw3940715251839382316:=Nat
def tw15338301494528164748:=Nat
def tw16581820084591389580:=Nat
def tw9579155118164362220:=Nat
def tw6744988083483607085:=Nat
def tw16487824584277950509:=Nat
def tw14069245952524366925:=Nat
def tw16502667675558471757:=Nat
def tw758473967605667021:=Nat
def tw602015251502957901:=Nat
def tw10202061609605892429:=Nat
def tw1200738943542335821:=Nat
def tw7391404958440663405:=Nat
def tw3471224512486193517:=Nat
def tw8797664629076346221:=Nat
def tw6948014381235979789:=Nat
def tw13404207775205805613:=Nat
def tw12187536031396545101:=Nat
def tw17002583626486083213:=Nat
def tw8634259090529304269:=Nat
def tw15072486546959937261:=Nat
def tw13993084035637478253:=Nat
def tw17471740041920534702:=Nat
def tw4716637026681384142:=Nat
def tw6621595312570100942:=Nat
def tw14982299667777823982:=Nat
def tw15292658933538323726:=Nat
def tw10763010988946195758:=Nat
def tw2963518737900309870:=Nat
def tw13345620379894413710:=Nat
def tw15200032917715056078:=Nat
def tw17661989684278179502:=Nat
def tw3341652850225003246:=Nat
def tw14360384095859433422:=Nat
def tw12641689444025475022:=Nat
def tw10466925311305463823:=Nat
def tw17796181432376532239:=Nat
def tw8551715449533291951:=Nat
def tw5973997305116390831:=Nat
def tw2420025120864972303:=Nat
def tw17248556112185168431:=Nat
def tw10957938779364002415:=Nat
def tw7636460529225439023:=Nat
def tw5593090349767050063:=Nat
def tw7286420999235784559:=Nat
def tw16037545825037780879:=Nat
def tw929686862165827600:=Nat
def tw4246166194960213008:=Nat
def tw11955933803317024848:=Nat
def tw2982348109409366096:=Nat
def tw13135344191550164112:=Nat
def tw3511967746733202640:=Nat
def tw15003545881940376816:=Nat
def tw15415467994534096400:=Nat
def tw5978618997063423568:=Nat
def tw2932470098852142832:=Nat
def tw1035770231409149969:=Nat
def tw15496971802595632497:=Nat
def tw17343085786128750129:=Nat
def tw11915188057055572529:=Nat
def tw4098000360672456497:=Nat
def tw3893229125755596625:=Nat
def tw3212512429602144081:=Nat
def tw12153950571453606865:=Nat
def tw13638849677831187506:=Nat
def tw7691553745207252178:=Nat
def tw17659994520658322834:=Nat
def tw13735331899685202482:=Nat
def tw15252056571894292050:=Nat
def tw4203085550734845618:=Nat
def tw3222190260732645074:=Nat
def tw13787083964256013042:=Nat
def tw3671017699819257586:=Nat
def tw11486553255089349394:=Nat
def tw17777121405812713234:=Nat
def tw14942982413311133586:=Nat
def tw5607385686963492850:=Nat
def tw1037140281920832595:=Nat
def tw12868394606304687315:=Nat
def tw8515076762338156915:=Nat
def tw2071695513826134451:=Nat
def tw10025879972236654003:=Nat
def tw14801971213323676211:=Nat
def tw1852298104843335219:=Nat
def tw9264235214733628115:=Nat
def tw8954489768643074803:=Nat
def tw10551514896494374739:=Nat
def tw6302185439187878771:=Nat
def tw5113970860566962067:=Nat
def tw16431924133199957012:=Nat
def tw10247545934671553716:=Nat
def tw13953764205384716468:=Nat
def tw14024666890550874324:=Nat
def tw10699718077491201236:=Nat
def tw7139743712471045332:=Nat
def tw5834433261072569620:=Nat
def tw2232386489961418036:=Nat
def tw8019406949350707540:=Nat
def tw5737385092201468276:=Nat
def tw1096036147740693972:=Nat
def tw13637678121063648852:=Nat
def tw6800821092443077364:=Nat
def tw3520715696479001460:=Nat
def tw753236097956172981:=Nat
def tw6041400485217154261:=Nat
def tw14972278807806018805:=Nat
def tw9400673599647375637:=Nat
def tw15262073982768252213:=Nat
def tw14787585766534318389:=Nat
def tw3793528134198014453:=Nat
def tw6435664861452604438:=Nat
def tw13184374370930106518:=Nat
def tw12899281879518061750:=Nat
def tw1437097753990374646:=Nat
def tw14841089589182232118:=Nat
def tw17389261016511038102:=Nat
def tw9714493959425234678:=Nat
def tw7994202744169975542:=Nat
def tw6268810714907784022:=Nat
def tw13417796145957617654:=Nat
def tw12072365545580626999:=Nat
def tw7186576319447305271:=Nat
def tw16272071460679892055:=Nat
def tw8813231689095064823:=Nat
def tw14548728726680381975:=Nat
def tw11483244702255440471:=Nat
def tw18292902305002163895:=Nat
def tw83366510666292023:=Nat
def tw18088613279042453335:=Nat
def tw12230041104470499223:=Nat
def tw6275628661755601815:=Nat
def tw8398568527702678584:=Nat
def tw1682025267088380024:=Nat
def tw9912512445473932408:=Nat
def tw6394337212042334360:=Nat
def tw4202972278937547960:=Nat
def tw3404214806915018968:=Nat
def tw16382572793719049464:=Nat
def tw16718978298498768248:=Nat
def tw7530066467383225752:=Nat
def tw12382037781561224792:=Nat
def tw802094391667937912:=Nat
def tw217456091518129144:=Nat
def tw137522847461113881:=Nat
def tw12566119618474077273:=Nat
def tw3209135886671971577:=Nat
def tw2665862066981515545:=Nat
def tw7793546094263924025:=Nat
def tw3050619320806091097:=Nat
def tw11409133254975551833:=Nat
def tw8727582533830851097:=Nat
def tw12319098180022200921:=Nat
def tw10340383483741563609:=Nat
def tw7554286879883343609:=Nat
def tw10539076368181130041:=Nat
def tw18219186823546147769:=Nat
def tw7076183046567482426:=Nat
def tw6729796379692034138:=Nat
def tw7055605695751734490:=Nat
def tw12232598582227242362:=Nat
def tw4692587745353777562:=Nat
def tw5186189753680827066:=Nat
def tw14885255067279681306:=Nat
def tw14330239267108206426:=Nat
def tw7606669159317541882:=Nat
def tw7912272986746708123:=Nat
def tw11572822065841607867:=Nat
def tw9042802530083908891:=Nat
def tw10871411305633705371:=Nat
def tw6606687869109339931:=Nat
def tw11470701161808435003:=Nat
def tw6704996427513443163:=Nat
def tw13252324818552338267:=Nat
def tw377815291613534043:=Nat
def tw2401004924701310939:=Nat
def tw18423285861412367516:=Nat
def tw10933192707457813692:=Nat
def tw18369513962684985628:=Nat
def tw709555654595618076:=Nat
def tw4291548767037701468:=Nat
def tw11726897669048398204:=Nat
def tw15083492239857297852:=Nat
def tw608543581990845916:=Nat
def tw17382705466822746716:=Nat
def tw14315581513330221692:=Nat
def tw10844777958353562396:=Nat
def tw17517155853839917980:=Nat
def tw25086973443285021:=Nat
def tw15387436282917813341:=Nat
def tw1642100887515439229:=Nat
def tw15129869632569225437:=Nat
def tw15187370742581171549:=Nat
def tw4805645290576972285:=Nat
def tw5032741801645116957:=Nat
def tw5975703892551502397:=Nat
def tw16710703216198272573:=Nat
def tw11161097971648437885:=Nat
def tw10319075543036645021:=Nat
def tw11968877316313537277:=Nat
def tw1973421132263942909:=Nat
def tw15183732468156233501:=Nat
def tw15668590683848015645:=Nat
def tw3568511886153604925:=Nat
def tw4968679487731429277:=Nat
def tw14440145217998897085:=Nat
def tw18432468121747896285:=Nat
def tw15458947148488151070:=Nat
def tw14965948094420684094:=Nat
def tw15482800546072047966:=Nat
def tw16528799584702665086:=Nat
def tw16786084932760293886:=Nat
def tw13016111010269956766:=Nat
def tw12805834774534308702:=Nat
def tw1925928459817823102:=Nat
def tw16190639015901431742:=Nat
def tw9749208287367073758:=Nat
def tw12591950738414650366:=Nat
def tw14818692464330263647:=Nat
def tw6402108883319603455:=Nat
def tw12490642659598911839:=Nat
def tw4829744122982322559:=Nat
def tw15849148299598253503:=Nat
def tw5783972484195463615:=Nat
def tw11029419532054739679:=Nat
def tw16386425890861773567:=Nat
def tw14708049668357759775:=Nat
def tw6669560228349801311:=Nat
def tw16001758357848037311:=Nat
def tw12434314233068959679:=Nat
def tw13113965904836343775:=Nat
end PySem.W.Fast
namespace L2
open PySem PySem.Spec PyProof.Rows
abbrev Key:=Sum Int Str
def Yv:Key→aL→Bool
 | .inl k,v=>Value.isInt k v
 | .inr x,v=>Value.isStrOf x v
def afY (w:eV):Key→Int
 | .inl k=>hashInt k
 | .inr x=>hashStr w x
theorem fH:∀{k:Key} {v:aL},Yv k v=true→(∃i t,k=Sum.inl i∧v=Value.int i t)∨(∃x t,k=Sum.inr x∧v=Value.str x t)
 | .inl i,v,h=>by
   obtain ⟨t,e⟩:=Value.isInt_shape (k:=i) (v:=v) h
   exact .inl ⟨i,t,rfl,e⟩
 | .inr x,v,h=>by
   obtain ⟨t,e⟩:=Value.isStrOf_shape (x:=x) (v:=v) h
   exact .inr ⟨x,t,rfl,e⟩
theorem abq (a b:Int):decide ((Sum.inl a:Key)=Sum.inl b)=(a==b):=by
 by_cases e:a=b
 ·subst e;simp
 ·have h:¬(Sum.inl a:Key)=Sum.inl b:=λq=>e (Sum.inl.inj q)
  rw [rG h]
  exact (OW.mpr e).symm
theorem abu (a b:Str):decide ((Sum.inr a:Key)=Sum.inr b)=decide (a=b):=by
 by_cases e:a=b
 ·subst e;simp
 ·have h:¬(Sum.inr a:Key)=Sum.inr b:=λq=>e (Sum.inr.inj q)
  rw [rG h,rG e]
theorem abr (a:Int) (b:Str):decide ((Sum.inl a:Key)=Sum.inr b)=false:=rG (λq=>nomatch q)
theorem abt (a:Str) (b:Int):decide ((Sum.inr a:Key)=Sum.inl b)=false:=rG (λq=>nomatch q)
def Ou (prog:jv) (w:eV):PySem.KeyKind prog w Key where
 is:=Yv
 hash:=afY w
 inj:=λv a b ha hb=>by
  rcases fH ha with ⟨i,t,rfl,rfl⟩ | ⟨x,t,rfl,rfl⟩
  ·rcases fH hb with ⟨j,u,rfl,e⟩ | ⟨y,u,rfl,e⟩
   ·injection e with e1 _;rw [e1]
   ·exact nomatch e
  ·rcases fH hb with ⟨j,u,rfl,e⟩ | ⟨y,u,rfl,e⟩
   ·exact nomatch e
   ·injection e with e1 _;rw [e1]
 byValue:=λk v h=>by
  rcases fH h with ⟨i,t,rfl,rfl⟩ | ⟨x,t,rfl,rfl⟩ <;> rfl
 pyHash:=λhv h=>by
  rcases fH hv with ⟨i,t,rfl,rfl⟩ | ⟨x,t,rfl,rfl⟩
  ·exact wpAny_pyHash_int h
  ·exact wpAny_pyHash_str h
 eqBool:=λhu hv h=>by
  rcases fH hu with ⟨i,t,rfl,rfl⟩ | ⟨x,t,rfl,rfl⟩
  ·rcases fH hv with ⟨j,u,rfl,rfl⟩ | ⟨y,u,rfl,rfl⟩
   ·rw [abq] at h;exact wpAny_eqBool_int h
   ·rw [abr] at h;exact Zm i t y u _ _ _ _ h
  ·rcases fH hv with ⟨j,u,rfl,rfl⟩ | ⟨y,u,rfl,rfl⟩
   ·rw [abt] at h;exact Zn x t j u _ _ _ _ h
   ·rw [abu] at h;exact wpAny_eqBool_str h
 «strs»:=λk x t v h=>by
  rcases fH h with ⟨i,u,rfl,e⟩ | ⟨y,u,rfl,e⟩
  ·exact nomatch e
  ·injection e with e1 _
   subst e1
   cases v <;> rfl
inductive V where
 | bM | bl (b:Bool) | int (i:Int) | str (x:Str) | Q9 (b:Array UInt8) | flt (b:UInt64) | ref (a:av) | ty (n:String)
 deriving DecidableEq
def RelV:V→aL→Prop
 | .bM,u=>u=Value.none
 | .bl b,u=>u=Value.bool b
 | .int i,u=>∃t,u=Value.int i t
 | .str x,u=>∃t,u=Value.str x t
 | .Q9 b,u=>∃t,u=Value.bytes b t
 | .flt b,u=>∃t,u=Value.float b t
 | .ref a,u=>u=Value.ref a
 | .ty n,u=>u=Value.type n
abbrev Vals:List V→List aL→Prop:=Paired RelV
theorem Vals.length (r:Vals xs us):xs.length=us.length:=Paired.length r
theorem Vals.get:∀{xs:List V} {us:List aL} {i:Nat} {x:V},Vals xs us→xs[i]?=some x→∃u,us[i]?=some u∧RelV x u
 | _,_,_,_,.nil,e=>by simp at e
 | _,_,0,_,.cons r _,e=>by simp at e;subst e;exact ⟨_,rfl,r⟩
 | _,_,i+1,x,.cons _ t,e=>by
   obtain ⟨u,h1,h2⟩:=Vals.get (i:=i) (x:=x) t (by simpa using e)
   exact ⟨u,by simpa using h1,h2⟩
theorem Vals.set (r:RelV x u):∀{xs:List V} {us:List aL} (i:Nat),Vals xs us→Vals (xs.set i x) (us.set i u)
 | _,_,_,.nil=>.nil
 | _,_,0,.cons _ t=>.cons r t
 | _,_,i+1,.cons q t=>.cons q (Vals.set r i t)
theorem Vals.append:∀{xs ys:List V} {us ws:List aL},Vals xs us→Vals ys ws→Vals (xs++ys) (us++ws)
 | _,_,_,_,.nil,s=>s
 | _,_,_,_,.cons r t,s=>.cons r (Vals.append t s)
theorem Vals.take:∀{xs:List V} {us:List aL} (n:Nat),Vals xs us→Vals (xs.take n) (us.take n)
 | _,_,0,_=>.nil
 | _,_,_+1,.nil=>.nil
 | _,_,n+1,.cons r t=>.cons r (Vals.take n t)
theorem Vals.drop:∀{xs:List V} {us:List aL} (n:Nat),Vals xs us→Vals (xs.drop n) (us.drop n)
 | _,_,0,r=>r
 | _,_,_+1,.nil=>.nil
 | _,_,n+1,.cons _ t=>Vals.drop n t
def DX:Option V→Option aL→Prop
 | some v,some u=>RelV v u
 | none,none=>True
 | _,_=>False
def KV {κ:Type}:List (κ×V)→List (κ×aL)→Prop:=Paired λ(p:κ×V) (q:κ×aL)=>p.1=q.1∧RelV p.2 q.2
def kV:Key→V
 | .inl i=>.int i
 | .inr x=>.str x
inductive HO where
 /-- a list -/
 | lst (xs:List V)
 /-- a tuple (never changes) -/
 | tup (xs:List V)
 /-- a dict whose keys are ints and texts;one whose keys are tuples of ints and texts (the empty one is both) -/
 | dK (kvs:List (Key×V)) | dT (kvs:List (List Key×V))
 /-- a set of ints: its members,its size -/
 | set (S:Int→Bool) (n:Nat)
 /-- an instance of the class at C,its dict at dx,its attributes -/
 | ins (C dx:av) (fs:List (Str×V))
 /-- the dict of the instance at x -/
 | own (x:av)
 /-- the dict of an exception -/
 | xd (fs:List (Str×V))
 /-- a bound method,f of x -/
 | met (f x:av)
 /-- a range object lo,lo+1,.. below hi -/
 | rng (lo hi:Int)
 /-- a thing that is known to the object (the script;a dict while a loop walks it): read,never written while it is so -/
 | N7 (o:Obj) (u:HO)
 /-- a code object's table -/
 | tbl (ps:Array aL)
 /-- any other thing,by what is true of its one object (a def of one's own: SetO a S n:=HO.ext λh=>..) -/
 | ext (φ:cN→Prop)
abbrev Hp:=av→Option HO
def upd (H:Hp) (a:av) (o:HO):Hp:=λb=>if b=a then some o else H b
theorem aB:upd H a o a=some o:=by unfold upd;rw [if_pos rfl]
theorem aM (h:b≠a):upd H a o b=H b:=by unfold upd;rw [if_neg h]
theorem qS:upd (upd H a o) a u=upd H a u:=by
 funext b;unfold upd;split <;> rfl
theorem bK {H:Hp} (h:H a=some o) (h':H b=none):a≠b:=by
 intro e;subst e;rw [h] at h';cases h'
section
variable (P:jv) (w:eV)
def gK (H:Hp) (h:cN) (a:av):HO→Prop
 | .lst xs=>xs.length≤sizeLine∧∃(its:List aL) (n:Nat),Vals xs its∧h.get? a=some { cls:=.type "list",data:=.seq its.toArray n }
 | .tup xs=>xs.length≤sizeLine∧∃its:List aL,Vals xs its∧IsTup h a its.toArray
 | .dK kvs=>kvs.length≤sizeLine∧(a==sysModules)=false∧∃vs,KV kvs vs∧h.DictOf (Ou P w) a vs
 | .dT kvs=>kvs.length≤sizeLine∧(a==sysModules)=false∧∃xs:List (List Key×av×aL),
  Paired (λ(p:List Key×V) (q:List Key×av×aL)=>p.1=q.1∧H q.2.1=some (.tup (p.1.map kV))∧RelV p.2 q.2.2) kvs xs ∧
  ∃o es ep,h.get? a=some o∧o.ExactDict∧o.data=.dict es ep∧es.toList=xs.map (entryOfKey (tupleKind (Ou P w)))∧(xs.map (·.1)).Nodup
 | .set S n=>h.SetOf (intKind P w) a S n
 | .ins C dx fs=>H dx=some (.own a)∧fs.length≤1000∧dx≠a∧h.get? a=some (Aj C dx) ∧
  ∃mA,h.Ns1 dx mA∧(∀f,DX (fs.lookup f) (mA f))∧Vw mA (fs.map (·.1))
 | .own _=>∃o,h.get? a=some o
 | .xd fs=>∃mA,h.Ns1 a mA∧∀f,DX (fs.lookup f) (mA f)
 | .rng lo hi=>∃t u v,h.get? a=some { cls:=.type "range",data:=.fields #[.int lo t,.int hi u,.int 1 v] }
 | .N7 o u=>h.get? a=some o∧gK H h a u
 | .tbl ps=>h.get? a=some { cls:=.none,data:=.fields ps }
 | .met f x=>h.get? a=some (Ve (.ref f) (.ref x))
 | .ext φ=>φ h∧(∃o,h.get? a=some o)∧∀h1 h2:cN,φ h1→(∀o,h1.get? a=some o→h2.get? a=some o)→φ h2
def ye (H:Hp) (h:cN):Prop:=∀a o,H a=some o→gK P w H h a o
end
section
theorem gK.lt (x:gK P w H h a o):a<h.objs.size:=by
 cases o with
 | lst xs=>obtain ⟨_,_,_,_,e⟩:=x;exact gC e
 | tup xs=>obtain ⟨_,_,_,p⟩:=x;exact p.lt
 | dK kvs=>obtain ⟨_,_,_,_,o,_,_,e,_⟩:=x;exact gC e
 | dT kvs=>obtain ⟨_,_,_,_,o,_,_,e,_⟩:=x;exact gC e
 | set S n=>obtain ⟨o,_,_,_,e,_⟩:=x;exact gC e
 | ins C dx fs=>obtain ⟨_,_,_,e,_⟩:=x;exact gC e
 | own y=>obtain ⟨_,e⟩:=x;exact gC e
 | xd fs=>obtain ⟨_,⟨_,_,_,e,_⟩,_⟩:=x;exact gC e
 | rng lo hi=>obtain ⟨_,_,_,e⟩:=x;exact gC e
 | N7 ob u=>obtain ⟨e,_⟩:=x;exact gC e
 | tbl ps=>exact gC (show h.get? a=some _ from x)
 | met f y=>exact gC (show h.get? a=some _ from x)
 | ext φ=>obtain ⟨_,⟨_,e⟩,_⟩:=x;exact gC e
theorem Paired.adD:∀{l₁:List α} {l₂:List β},Paired F l₁ l₂→(∀a b,F a b→G a b)→Paired G l₁ l₂
 | _,_,.nil,_=>.nil
 | _,_,.cons r t,f=>.cons (f _ _ r) (Paired.adD t f)
theorem gK.stay (x:gK P w H h a o) (k:∀b u,(b=a∨H b=some (.own a))→h.get? b=some u→h'.get? b=some u)
 (ho:∀b,H b=some (.own a)→H' b=some (.own a)) (ht:∀b xs,H b=some 0#q→H' b=some 0#q):gK P w H' h' a o:=by
 induction o with
 | lst xs=>obtain ⟨z,its,n,r,e⟩:=x;exact ⟨z,its,n,r,k _ _ (.inl rfl) e⟩
 | tup xs=>obtain ⟨z,its,r,ob,e,c⟩:=x;exact ⟨z,its,r,ob,k _ _ (.inl rfl) e,c⟩
 | dK kvs=>obtain ⟨z,y,vs,r,ob,es,ep,e,c⟩:=x;exact ⟨z,y,vs,r,ob,es,ep,k _ _ (.inl rfl) e,c⟩
 | dT kvs=>
   obtain ⟨z,y,xs,r,ob,es,ep,e,c⟩:=x
   exact ⟨z,y,xs,Paired.adD r λp q z=>⟨z.1,ht _ _ z.2.1,z.2.2⟩,ob,es,ep,k _ _ (.inl rfl) e,c⟩
 | set S n=>obtain ⟨ob,es,ep,t,e,c⟩:=x;exact ⟨ob,es,ep,t,k _ _ (.inl rfl) e,c⟩
 | ins C dx fs=>
   obtain ⟨d,z,ne,e,mA,⟨od,es,ep,e2,c⟩,r⟩:=x
   exact ⟨ho _ d,z,ne,k _ _ (.inl rfl) e,mA,⟨od,es,ep,k _ _ (.inr d) e2,c⟩,r⟩
 | own y=>obtain ⟨ob,e⟩:=x;exact ⟨ob,k _ _ (.inl rfl) e⟩
 | xd fs=>obtain ⟨mA,⟨od,es,ep,e,c⟩,r⟩:=x;exact ⟨mA,⟨od,es,ep,k _ _ (.inl rfl) e,c⟩,r⟩
 | rng lo hi=>obtain ⟨t,u,v,e⟩:=x;exact ⟨t,u,v,k _ _ (.inl rfl) e⟩
 | N7 ob u ih=>obtain ⟨e,q⟩:=x;exact ⟨k _ _ (.inl rfl) e,ih q⟩
 | tbl ps=>
   have e:h.get? a=some { cls:=.none,data:=.fields ps }:=x
   show h'.get? a=some { cls:=.none,data:=.fields ps }
   exact k a _ (.inl rfl) e
 | met f y=>
   have e:h.get? a=some (Ve (.ref f) (.ref y)):=x
   show h'.get? a=some (Ve (.ref f) (.ref y))
   exact k a _ (.inl rfl) e
 | ext φ=>obtain ⟨p,⟨o,e⟩,st⟩:=x;exact ⟨st _ _ p λo q=>k _ _ (.inl rfl) q,⟨o,k _ _ (.inl rfl) e⟩,st⟩
theorem ye.lt (x:ye P w H h) (e:H a=some o):a<h.objs.size:=(x a o e).lt
theorem ye.fresh {a:av} (x:ye P w H h) (e:h.objs.size≤a):H a=none:=by
 cases q:H a with
 | none=>rfl
 | some u=>exact absurd (qT (x.lt q) e) (DF _)
theorem ye.kept (x:ye P w H h) (k:∀b u,h.get? b=some u→h'.get? b=some u):ye P w H h':=λa o e=>
 (x a o e).stay (λb u _ q=>k b u q) (λ_ q=>q) λ_ _ q=>q
theorem ye.laid {a:av} (x:ye P w H h) (k:∀b u,h.get? b=some u→h'.get? b=some u) (hp:h.objs.size≤a) (new:gK P w (upd H a o) h' a o):ye P w (upd H a o) h':=λb u e=>by
 have hn:=x.fresh hp
 by_cases hb:b=a
 ·subst hb;rw [aB] at e;cases e;exact new
 ·rw [aM hb] at e
  exact (x b u e).stay (λc v _ q=>k c v q) (λc q=>by rw [aM (bK q hn)];exact q) λc xs q=>by rw [aM (bK q hn)];exact q
end
def Rd (H:Hp) (a:av) (u:HO):Prop:=H a=some u∨∃o,H a=some (.N7 o u)
theorem Rd.ok (r:Rd H a u) (x:ye P w H h):gK P w H h a u:=by
 rcases r with r | ⟨o,r⟩
 ·exact x a u r
 ·obtain ⟨_,q⟩:=x a _ r
  exact q
def Mut:Option HO→Prop
 | some (.lst _)=>True
 | some (.dK _)=>True
 | some (.dT _)=>True
 | some (.set _ _)=>True
 | some (.ins _ _ _)=>True
 | some (.ext _)=>True
 | _=>False
section
theorem ye.write (ok:ye P w H h) (mu:Mut (H x)) (he:e=x∨H e=some (.own x)) (k:∀b u,b≠e→h.get? b=some u→h'.get? b=some u) (heo:∃u,h'.get? e=some u)
 (new:gK P w (upd H x o') h' x o'):ye P w (upd H x o') h':=λb u q=>by
 have adJ:∀c y,H c=some (.own y)→c≠x:=λc y r z=>by subst z;rw [r] at mu;exact mu
 have agd:∀c xs,H c=some 0#q→c≠x:=λc xs r z=>by subst z;rw [r] at mu;exact mu
 by_cases hb:b=x
 ·subst hb;rw [aB] at q;cases q;exact new
 ·rw [aM hb] at q
  by_cases hbe:b=e
  ·have q':H b=some (.own x):=by
    rcases he with z | z
    ·exact absurd (hbe.trans z) hb
    ·rw [hbe];exact z
   rw [q] at q';cases q'
   obtain ⟨v,hv⟩:=heo
   exact ⟨v,by rw [hbe];exact hv⟩
  ·refine (ok b u q).stay (λc v hc r=>k c v ?_ r) (λc r=>by rw [aM (adJ c b r)];exact r) λc xs r=>by rw [aM (agd c xs r)];exact r
   rcases hc with rfl | hc
   ·exact hbe
   ·rintro rfl
    rcases he with z | z
    ·exact adJ c b hc z
    ·rw [hc] at z;cases z;exact hb rfl
end
structure Un (fs ex:List av) (H H':Hp) (h h':cN):Prop where
 keep:∀b o,h.get? b=some o→H b=none→b∉fs→b∉ex→h'.get? b=some o
 slot:∀b o,h.get? b=some o→H b=none→b∈fs→b∉ex→∃sl,h'.get? b=some { o with slots:=sl }
 free:∀b o,h.get? b=some o→H b=none→b∉ex→H' b=none
 there:∀b o,h.get? b=some o→b∉ex→∃o',h'.get? b=some o'
 tups:∀b xs,H b=some 0#q→H' b=some 0#q
 Gj:∀b o u,H b=some (.N7 o u)→H' b=some (.N7 o u)
 Kv:∀b ps,H b=some (.tbl ps)→∃more,H' b=some (.tbl (ps++more))
section
theorem Un.any (u:Un fs ex H H1 h h1)  (q:h.get? b=some ob) (n:H b=none) (hx:b∉ex):∃sl,h1.get? b=some { ob with slots:=sl }:=by
 by_cases hb:b∈fs
 ·exact u.slot b ob q n hb hx
 ·exact ⟨ob.slots,u.keep b ob q n hb hx⟩
theorem Un.kept (k:∀b u,h.get? b=some u→h'.get? b=some u):Un fs ex H H h h':=
 ⟨λb ob q _ _ _=>k b ob q,λb ob q _ _ _=>⟨ob.slots,k b ob q⟩,λ_ _ _ n _=>n,λb ob q _=>⟨ob,k b ob q⟩,λ_ _ q=>q,λ_ _ _ q=>q,λ_ ps q=>⟨#[],by rw [q];simp⟩⟩
theorem Un.refl:Un fs ex H H h h:=Un.kept λ_ _ q=>q
theorem Un.laid {h:cN} {a:av} (k:∀b u,h.get? b=some u→h'.get? b=some u) (hp:h.objs.size≤a) (hn:H a=none):Un fs ex H (upd H a o) h h' where
 keep:=λb u q _ _ _=>k b u q
 slot:=λb u q _ _ _=>⟨u.slots,k b u q⟩
 free:=λb u q n _=>by rw [aM (lO (qT (gC q) hp))];exact n
 there:=λb u q _=>⟨u,k b u q⟩
 tups:=λb xs q=>by rw [aM (bK q hn)];exact q
 Gj:=λb u xs q=>by rw [aM (bK q hn)];exact q
 Kv:=λb ps q=>⟨#[],by rw [aM (bK q hn),q];simp⟩
theorem Un.write (mu:Mut (H x)) (he:e=x∨H e=some (.own x)) (k:∀b u,b≠e→h.get? b=some u→h'.get? b=some u) (heo:∃u,h'.get? e=some u):Un fs ex H (upd H x o) h h':=by
 have hx:∀b,H b=none→b≠x:=λb n z=>by subst z;rw [n] at mu;exact mu
 have hb:∀b,H b=none→b≠e:=λb n z=>by
  subst z
  rcases he with r | r
  ·exact hx b n r
  ·rw [n] at r;cases r
 have hm:∀b u,H b=some u→¬Mut (some u)→b≠x:=λb u q nm z=>by subst z;rw [q] at mu;exact nm mu
 refine ⟨λb u q n _ _=>k b u (hb b n) q,λb u q n _ _=>⟨u.slots,k b u (hb b n) q⟩,λb u q n _=>by rw [aM (hx b n)];exact n,λb u q _=>?_,
  λb xs q=>by rw [aM (hm b _ q λz=>z)];exact q,λb u xs q=>by rw [aM (hm b _ q λz=>z)];exact q,λb ps q=>⟨#[],by rw [aM (hm b _ q λz=>z),q];simp⟩⟩
 by_cases hbe:b=e
 ·subst hbe;exact heo
 ·exact ⟨u,k b u hbe q⟩
end
def trk (h:cN) (H:Hp):List av:=(fM h.objs.size).filter λa=>(H a).isSome
def Gx (h:cN) (H:Hp):cN:=PySem.W.hideAll h (trk h H)
theorem Qd (h:cN) (H:Hp):(Gx h H).objs.size=h.objs.size:=PySem.W.hideAll_size _ _
theorem Ss (e:h.get? b=some o) (n:H b=none):(Gx h H).get? b=some o:=
 PySem.W.hideAll_get _ e λhm=>by
  have q:(H b).isSome=true:=(DS.mp hm).2
  rw [n] at q;simp at q
theorem Xi (e:(Gx h H).get? b=some o):h.get? b=some o∧H b=none:=by
 have e':h.get? b=some o:=PySem.W.of_hideAll (trk h H) e
 refine ⟨e',?_⟩
 cases q:H b with
 | none=>rfl
 | some x=>
   have hm:b∈trk h H:=DS.mpr ⟨rH.mpr (gC e'),by simp [q]⟩
   have z:(Gx h H).get? b=none:=PySem.W.hideAll_none (trk h H) hm
   rw [z] at e;cases e
structure Mod (K:b9) (mg:Str→Option aL) (base:cN):Prop where
 kin:K.In base
 glob:base.Ns fT mg
 blt:∃mb,base.Ns builtinsNs mb∧∀x:Str,x ≠ "__name__"→mb x=uV x
 nolimit:base.NoLimit
structure Cx where
 prog:jv
 w:eV
 K:b9
 mg:Str→Option aL
 base:cN
 A:oN
 N:List Str
 s₀:bA
 H₀:Hp
 env:Env
 outer:List Env
 stack:List Env
 ex:List av
 fn:Str→Bool
 calm:Bool
 pn:List (av×Obj)
 xe:aL→bA→Prop
def frs (l:List Env):List av:=l.filterMap (·.frame)
abbrev Cx.fs (X:Cx):List av:=frs X.outer
def Vis (sc:pY) (x:Str):Prop:=sc.names.lookup x=some .local∨sc.names.lookup x=some .cell∨sc.names.lookup x=some .free
def Loc (sc:pY) (x:Str):Prop:=sc.names.lookup x=some .local∨sc.names.lookup x=some .cell
def Look (env:Env) (h:cN) (m:Str→Option aL) (x:Str) (u:aL):Prop:=
 (env.kindOf x=some .local∧m x=some u)∨((env.kindOf x=some .cell∨env.kindOf x=some .free)∧∃c,env.cells.lookup x=some c∧h.IsCell c (some u))
structure Cx.Ok (X:Cx):Prop where
 mod:Mod X.K X.mg X.base
 kind:X.env.scope.kind=.function
 glob:X.env.globals=fT
 blt:X.env.builtins=builtinsNs
 above:X.s₀.heap.objs.size≤X.env.locals
 inj:∀x y c,X.env.cells.lookup x=some c→X.env.cells.lookup y=some c→x=y
 has:∀x,(X.env.kindOf x=some .cell∨X.env.kindOf x=some .free)→∃c,X.env.cells.lookup x=some c
 Yk:∀x c,X.fn x=true→X.env.cells.lookup x=some c→X.s₀.heap.objs.size≤c
 hd:X.calm=true→X.A.handled=none
 frames:X.A.frames=some X.stack
 stk:X.stack=X.outer∨(X.stack=X.env::X.outer∧X.env.frame=some X.env.locals)
 exf:∀b∈X.ex,b≠X.env.locals∧∀x c,X.env.cells.lookup x=some c→c≠b
 bs:∀b o,X.base.get? b=some o→X.s₀.heap.get? b=some o∧X.H₀ b=none
 Yj:X.base.objs.size≤X.s₀.heap.objs.size
 S9:∀b o,X.base.get? b=some o→b∉X.ex
 WA:∀b∈X.ex,b∉X.fs
 Ay:X.s₀.heap.FunFrames X.base X.outer
 frf:∀b∈X.fs,X.H₀ b=none
structure Inv (X:Cx) (pins:List (av×Obj)) (σ:List (Option V)) (H:Hp) (s:bA):Prop where
 ok:X.Ok
 os:s.os=X.s₀.os
 bare:xY s.gens
 base:Un X.fs X.ex X.H₀ H X.s₀.heap s.heap
 loc:∃m,s.heap.Ns X.env.locals m∧∀(i:Nat) (x:Str) (v:V),X.N[i]?=some x→σ[i]?=some (some v)→Vis X.env.scope x→∃u,RelV v u∧Look X.env s.heap m x u
 cell:∀x c,X.env.cells.lookup x=some c→∃v,s.heap.IsCell c v
 free:H X.env.locals=none
 uO:∀x c,X.env.cells.lookup x=some c→H c=none
 pin:∀p∈X.pn++pins,s.heap.get? p.1=some p.2∧H p.1=none∧p.1≠X.env.locals∧p.1∉X.fs∧∀v,p.2.data≠.cell v
 hok:ye X.prog X.w H s.heap
 len:σ.length=X.N.length
section
theorem Cx.Ok.agb {X:Cx} (ok:X.Ok)  (e:X.base.get? b=some o):b∉X.fs:=λhb=>by
 have:=(ok.Ay.mem hb).1
 rw [e] at this;cases this
theorem Inv.bs (I:Inv X pins σ H s):∀b o,X.base.get? b=some o→s.heap.get? b=some o∧H b=none:=λb o e=>
 ⟨I.base.keep b o (I.ok.bs b o e).1 (I.ok.bs b o e).2 (I.ok.agb e) (I.ok.S9 b o e),I.base.free b o (I.ok.bs b o e).1 (I.ok.bs b o e).2 (I.ok.S9 b o e)⟩
theorem Inv.bk (I:Inv X pins σ H s):∀b o,X.base.get? b=some o→s.heap.get? b=some o:=λb o e=>(I.bs b o e).1
theorem Inv.mod (I:Inv X pins σ H s):Mod X.K X.mg X.base:=I.ok.mod
theorem Inv.AK (I:Inv X pins σ H s):X.K.In s.heap:=I.ok.mod.kin.keeps I.bk
theorem Inv.lt (I:Inv X pins σ H s):X.env.locals<s.heap.objs.size:=let ⟨_,hn,_⟩:=I.loc;hn.lt
theorem Inv.sz (I:Inv X pins σ H s):X.s₀.heap.objs.size≤s.heap.objs.size:=dP I.ok.above (uM I.lt)
theorem Inv.agc (I:Inv X pins σ H s) {a:av} (h:s.heap.objs.size≤a):a∉X.fs:=λhb=>by
 obtain ⟨_,o,ho,_⟩:=I.ok.Ay.mem hb
 exact absurd (qT (gC ho) (dP I.sz h)) (DF _)
theorem Inv.cne (I:Inv X pins σ H s):∀x c,X.env.cells.lookup x=some c→c≠X.env.locals:=λx c e z=>by
 obtain ⟨v,o,ho,hd⟩:=I.cell x c e
 obtain ⟨m,⟨o',es,ep,ho',hd',_⟩,_⟩:=I.loc
 rw [z,ho'] at ho;cases ho;rw [hd'] at hd;cases hd
theorem Inv.Ay (I:Inv X pins σ H s):s.heap.FunFrames X.base X.outer:=by
 have all:∀(l:List Env),(∀b∈frs l,b∈X.fs)→X.s₀.heap.FunFrames X.base l→s.heap.FunFrames X.base l:=by
  intro l
  induction l with
  | nil=>intro _ _;trivial
  | cons env r ih=>
    intro hs hl
    obtain ⟨hk,⟨L,o,hf,hn,ho,hd⟩,hr⟩:=hl
    have hL:L∈X.fs:=hs L (by unfold frs;rw [U6,hf];exact Ae)
    obtain ⟨sl,e⟩:=I.base.slot L o ho (I.ok.frf L hL) hL λz=>I.ok.WA L z hL
    exact ⟨hk,⟨L,_,hf,hn,e,hd⟩,ih (λb hb=>hs b (by unfold frs;rw [U6,hf];exact DP _ hb)) hr⟩
 exact all X.outer (λ_ hb=>hb) I.ok.Ay
theorem Inv.stack (I:Inv X pins σ H s):s.heap.FunFrames X.base X.stack:=by
 rcases I.ok.stk with e | ⟨e,hf⟩
 ·rw [e];exact I.Ay
 ·rw [e]
  obtain ⟨m,hn,_⟩:=I.loc
  refine .cons (by rw [I.ok.kind];decide) hf hn ?_ I.Ay
  exact Heap.get?_none_of_le (dP I.ok.Yj I.ok.above)
theorem Inv.Ir (I:Inv X pins σ H s):∀b∈frs X.stack,b∈X.env.locals::X.fs:=λb hb=>by
 rcases I.ok.stk with e | ⟨e,hf⟩
 ·rw [e] at hb;exact DP _ hb
 ·rw [e] at hb
  unfold frs at hb
  rw [U6,hf] at hb
  exact hb
theorem Inv.OG (I:Inv X pins σ H s):∀b∈frs X.stack,H b=none:=λb hb=>by
 rcases qU.mp (I.Ir b hb) with e | hb
 ·rw [e];exact I.free
 ·obtain ⟨_,o,ho,_⟩:=I.ok.Ay.mem hb
  exact I.base.free b o ho (I.ok.frf b hb) λz=>I.ok.WA b z hb
theorem Inv.step {ch:List av} (I:Inv X pins σ H s)
 (hch:∀b∈ch,(b∈X.ex∨X.s₀.heap.objs.size≤b)∧b≠X.env.locals∧(∀x c,X.env.cells.lookup x=some c→c≠b)∧∀p∈X.pn++pins,p.1≠b)
 (keep:∀b o,b≠X.env.locals→b∉X.fs→b∉ch→s.heap.get? b=some o→H b=none→h'.get? b=some o)
 (slot:∀b o,b≠X.env.locals→b∈X.fs→b∉ch→s.heap.get? b=some o→H b=none→∃sl,h'.get? b=some { o with slots:=sl }) (free:∀b o,b∉ch→s.heap.get? b=some o→H b=none→H' b=none)
 (there:∀b o,b∉ch→s.heap.get? b=some o→∃o',h'.get? b=some o')
 (tups:∀b xs,H b=some 0#q→H' b=some 0#q) (Gj:∀b o u,H b=some (.N7 o u)→H' b=some (.N7 o u)) (Kv:∀b ps,H b=some (.tbl ps)→∃more,H' b=some (.tbl (ps++more)))
 (ns:∀m,s.heap.Ns X.env.locals m→h'.Ns X.env.locals m) (hok:ye X.prog X.w H' h') (hg:xY g') :
 Inv X pins σ H' { s with heap:=h',gens:=g',drawn:=d',toks:=t' }:=by
 have neL:∀b o,X.s₀.heap.get? b=some o→b≠X.env.locals:=λb o e=>lO (qT (gC e) I.ok.above)
 have neC:∀b o,X.s₀.heap.get? b=some o→b∉X.ex→b∉ch:=λb o e hx hb=>by
  rcases (hch b hb).1 with z | z
  ·exact hx z
  ·exact absurd (qT (gC e) z) (DF _)
 have cellK:∀x c,X.env.cells.lookup x=some c→∀v,s.heap.IsCell c v→h'.IsCell c v:=λx c e v ⟨o,ho,hd⟩=>by
  have nch:c∉ch:=λz=>(hch c z).2.2.1 x c e rfl
  by_cases hc:c∈X.fs
  ·obtain ⟨sl,q⟩:=slot c o (I.cne x c e) hc nch ho (I.uO x c e)
   exact ⟨_,q,hd⟩
  ·exact ⟨o,keep c o (I.cne x c e) hc nch ho (I.uO x c e),hd⟩
 refine ⟨I.ok,I.os,hg,⟨λb o e n hb hx=>?_,λb o e n hb hx=>?_,λb o e n hx=>?_,λb o e hx=>?_,λb xs e=>tups b xs (I.base.tups b xs e),λb o xs e=>Gj b o xs (I.base.Gj b o xs e),λb ps e=>?_⟩,?_,λx c e=>?_,?_,λx c e=>?_,λp hp=>?_,hok,I.len⟩
 ·exact keep b o (neL b o e) hb (neC b o e hx) (I.base.keep b o e n hb hx) (I.base.free b o e n hx)
 ·obtain ⟨sl,e1⟩:=I.base.slot b o e n hb hx
  obtain ⟨sl',e2⟩:=slot b _ (neL b o e) hb (neC b o e hx) e1 (I.base.free b o e n hx)
  exact ⟨sl',e2⟩
 ·obtain ⟨o',e1⟩:=I.base.there b o e hx
  exact free b o' (neC b o e hx) e1 (I.base.free b o e n hx)
 ·obtain ⟨o',e1⟩:=I.base.there b o e hx
  exact there b o' (neC b o e hx) e1
 ·obtain ⟨m1,e1⟩:=I.base.Kv b ps e
  obtain ⟨m2,e2⟩:=Kv b _ e1
  exact ⟨m1++m2,by rw [e2,Array.append_assoc]⟩
 ·obtain ⟨m,hn,hl⟩:=I.loc
  refine ⟨m,ns m hn,λi x v e1 e2 e3=>?_⟩
  obtain ⟨u,r,l⟩:=hl i x v e1 e2 e3
  refine ⟨u,r,?_⟩
  rcases l with l | ⟨k,c,e,z⟩
  ·exact .inl l
  ·exact .inr ⟨k,c,e,cellK x c e _ z⟩
 ·obtain ⟨v,z⟩:=I.cell x c e
  exact ⟨v,cellK x c e v z⟩
 ·obtain ⟨m,⟨o,_,_,ho,_⟩,_⟩:=I.loc
  exact free _ o (λz=>(hch _ z).2.1 rfl) ho I.free
 ·obtain ⟨v,o,ho,hd⟩:=I.cell x c e
  exact free c o (λz=>(hch c z).2.2.1 x c e rfl) ho (I.uO x c e)
 ·obtain ⟨e,n,ne,nf,d⟩:=I.pin p hp
  have nch:p.1∉ch:=λz=>(hch p.1 z).2.2.2 p hp rfl
  exact ⟨keep p.1 p.2 ne nf nch e n,free p.1 p.2 nch e n,ne,nf,d⟩
theorem Inv.un (I:Inv X pins σ H s) (u:Un X.fs [] H H' s.heap h') (hok:ye X.prog X.w H' h'):Inv X pins σ H' { s with heap:=h',toks:=t' }:=by
 obtain ⟨m,⟨o,es,ep,ho,r⟩,_⟩:=id I.loc
 obtain ⟨sl,hL⟩:=u.any ho I.free 0#f
 exact I.step (g':=s.gens) (d':=s.drawn) (ch:=[]) (λ_ z=>nomatch z) (λb o _ hb _ e n=>u.keep b o e n hb 0#f) (λb o _ hb _ e n=>u.slot b o e n hb 0#f) (λb o _ e n=>u.free b o e n 0#f) (λb o _ e=>u.there b o e 0#f) u.tups u.Gj u.Kv (λm' hm=>by
  obtain ⟨o',es',ep',ho',r'⟩:=hm
  rw [ho] at ho';cases ho'
  exact ⟨_,es',ep',hL,r'⟩) hok I.bare
theorem Inv.call (I:Inv X pins σ H s) (u:Un (frs X.stack) ch H H' s.heap h') (hok:ye X.prog X.w H' h') (hg:xY g')
 (hch:∀b∈ch,(b∈X.ex∨X.s₀.heap.objs.size≤b)∧b≠X.env.locals∧(∀x c,X.env.cells.lookup x=some c→c≠b)∧∀p∈X.pn++pins,p.1≠b) :
 Inv X pins σ H' { s with heap:=h',gens:=g',drawn:=d',toks:=t' }:=by
 obtain ⟨m,⟨o,es,ep,ho,r⟩,_⟩:=id I.loc
 obtain ⟨sl,hL⟩:=u.any ho I.free λz=>(hch _ z).2.1 rfl
 exact I.step (ch:=ch) hch (λb o hL hb hc e n=>u.keep b o e n (λz=>(qU.mp (I.Ir b z)).elim hL hb) hc) (λb o _ _ hc e n=>u.any e n hc) (λb o hc e n=>u.free b o e n hc) (λb o hc e=>u.there b o e hc) u.tups u.Gj u.Kv (λm' hm=>by
  obtain ⟨o',es',ep',ho',r'⟩:=hm
  rw [ho] at ho';cases ho'
  exact ⟨_,es',ep',hL,r'⟩) hok hg
theorem Inv.turned (I:Inv X pins σ H s) (k:∀b o,b≠it→s.heap.get? b=some o→h'.get? b=some o) (hn:H it=none) (hL:it≠X.env.locals)
 (h1:it∈X.ex∨X.s₀.heap.objs.size≤it) (h2:∀x c,X.env.cells.lookup x=some c→c≠it) (h3:∀p∈X.pn++pins,p.1≠it):Inv X pins σ H { s with heap:=h',toks:=t' }:=by
 have nit:∀b u,H b=some u→b≠it:=λb u e z=>by rw [z,hn] at e;cases e
 refine I.step (g':=s.gens) (d':=s.drawn) (ch:=[it]) (λb hb=>?_) (λb o _ _ hc e _=>k b o (λz=>hc (by simp [z])) e) (λb o _ _ hc e _=>⟨o.slots,k b o (λz=>hc (by simp [z])) e⟩) (λ_ _ _ _ n=>n)
  (λb o hc e=>⟨o,k b o (λz=>hc (by simp [z])) e⟩) (λ_ _ e=>e) (λ_ _ _ e=>e) (λb ps e=>⟨#[],by rw [e];simp⟩) (λm hm=>?_) (λb u e=>?_) I.bare
 ·have e:b=it:=by simpa using hb
  subst e
  exact ⟨h1,hL,h2,h3⟩
 ·obtain ⟨o,es,ep,ho,r⟩:=hm
  exact ⟨o,es,ep,k _ o (jA hL) ho,r⟩
 ·refine (I.hok b u e).stay (λc v hc q=>k c v ?_ q) (λ_ q=>q) λ_ _ q=>q
  rcases hc with z | z
  ·rw [z];exact nit b u e
  ·exact nit c _ z
theorem Inv.tok (I:Inv X pins σ H s) (t:Nat):Inv X pins σ H { s with toks:=t }:=I.un (h':=s.heap) (t':=t) Un.refl I.hok
theorem Inv.kept (I:Inv X pins σ H s) (k:∀b u,s.heap.get? b=some u→h'.get? b=some u):Inv X pins σ H { s with heap:=h',toks:=t' }:=I.un (Un.kept k) (I.hok.kept k)
theorem Inv.laid {a:av} (I:Inv X pins σ H s) (k:∀b u,s.heap.get? b=some u→h'.get? b=some u) (hp:s.heap.objs.size≤a) (new:gK X.prog X.w (upd H a o) h' a o) :
 Inv X pins σ (upd H a o) { s with heap:=h',toks:=t' }:=I.un (Un.laid k hp (I.hok.fresh hp)) (I.hok.laid k hp new)
theorem Inv.write (I:Inv X pins σ H s) (mu:Mut (H x)) (he:e=x∨H e=some (.own x)) (k:∀b u,b≠e→s.heap.get? b=some u→h'.get? b=some u) (heo:∃u,h'.get? e=some u)
 (new:gK X.prog X.w (upd H x o) h' x o):Inv X pins σ (upd H x o) { s with heap:=h',toks:=t' }:=I.un (Un.write mu he k heo) (I.hok.write mu he k heo new)
theorem Inv.Oz (I:Inv X pins σ H s) (h:∀p∈adL,s.heap.get? p.1=some p.2∧H p.1=none∧p.1≠X.env.locals∧p.1∉X.fs∧∀v,p.2.data≠.cell v):Inv X adL σ H s:=
 ⟨I.ok,I.os,I.bare,I.base,I.loc,I.cell,I.free,I.uO,λp hp=>(dg.mp hp).elim (λz=>I.pin p (Fz _ z)) (h p),I.hok,I.len⟩
theorem JU {N:List Str} (hN:N.Nodup) {i:Nat} (a:N[i]?=some x) (b:N[j]?=some x):i=j:=by
 obtain ⟨h1,e1⟩:=lS.mp a
 obtain ⟨h2,e2⟩:=lS.mp b
 exact (List.getElem_inj hN).mp (e1.trans e2.symm)
theorem Ft {X:Cx} {pins:List (av×Obj)} {σ:List (Option V)} {H:Hp} {s:bA} {M:Model} {A:oN} {E:aL→bA→Prop} {i:Nat} {x:Str} {v:V} {u:aL} {Q:Unit→bA→Prop} (I:Inv X pins σ H s) (hN:X.N.Nodup) (hi:X.N[i]?=some x) (hx:Loc X.env.scope x) (r:RelV v u)
 (h:∀s',Inv X pins (σ.set i (some v)) H s'→(∃a,DH a s.heap s'.heap∧(a=X.env.locals∨X.env.cells.lookup x=some a))→Q () s') (hf:X.fn x=true∨X.env.scope.names.lookup x=some .local:=by first | exact .inl rfl | exact .inr rfl | assumption):ck M A (storeName X.env x u) Q E s:=by
 obtain ⟨m,hn,hl⟩:=id I.loc
 have hcls:(X.env.scope.kind==.class||(X.env.scope.kind==.module&&X.env.locals != X.env.globals))=false:=by rw [I.ok.kind];rfl
 have adl:i<σ.length:=by rw [I.len];exact (lS.mp hi).1
 have cne:=I.cne
 have tracked:∀{a:av} {h':cN},(∃o,s.heap.get? a=some o∧H a=none)→DH a s.heap h'→ye X.prog X.w H h':=λ{a h'} ha hs b ob e=>by
  obtain ⟨_,_,hfree⟩:=ha
  refine (I.hok b ob e).stay (λc w' hc q=>(hs.2 c ?_).trans q) (λ_ q=>q) λ_ _ q=>q
  rintro rfl
  rcases hc with rfl | hc
  ·rw [hfree] at e;cases e
  ·rw [hfree] at hc;cases hc
 rcases hx with hk | hk
 ·refine wpAny_storeName_local hk hn (λh' hn' hs=>?_) hcls
  obtain ⟨oL,_,_,hoL,_⟩:=id hn
  refine h _ ⟨I.ok,I.os,I.bare,⟨λb o e n hb hx=>?_,λb o e n hb hx=>?_,I.base.free,λb o e hx=>?_,I.base.tups,I.base.Gj,I.base.Kv⟩,⟨_,hn',λj y v' e1 e2 e3=>?_⟩,λy c e=>?_,I.free,I.uO,λp hp=>?_,tracked ⟨oL,hoL,I.free⟩ hs,by simpa using I.len⟩ ⟨_,hs,.inl rfl⟩
  ·exact (hs.2 b (lO (qT (gC e) I.ok.above))).trans (I.base.keep b o e n hb hx)
  ·obtain ⟨sl,e1⟩:=I.base.slot b o e n hb hx
   exact ⟨sl,(hs.2 b (lO (qT (gC e) I.ok.above))).trans e1⟩
  ·obtain ⟨o',e1⟩:=I.base.there b o e hx
   exact ⟨o',(hs.2 b (lO (qT (gC e) I.ok.above))).trans e1⟩
  ·by_cases hj:j=i
   ·subst hj
    rw [hi] at e1;cases e1
    rw [YW adl] at e2
    cases e2
    exact ⟨u,r,.inl ⟨hk,by simp⟩⟩
   ·rw [Ze (jA hj)] at e2
    obtain ⟨u',r',q⟩:=hl j y v' e1 e2 e3
    refine ⟨u',r',?_⟩
    rcases q with ⟨k,e⟩ | ⟨k,c,e,z⟩
    ·refine .inl ⟨k,?_⟩
     have:y≠x:=λe=>hj (JU hN e1 (e▸hi))
     simp [this,e]
    ·exact .inr ⟨k,c,e,z.sameBut hs (cne y c e)⟩
  ·obtain ⟨w',z⟩:=I.cell y c e
   exact ⟨w',z.sameBut hs (cne y c e)⟩
  ·obtain ⟨e,n,ne,nf,d⟩:=I.pin p hp
   exact ⟨(hs.2 p.1 ne).trans e,n,ne,nf,d⟩
 ·have hfn:X.fn x=true:=by
   rcases hf with z | z
   ·exact z
   ·rw [z] at hk;cases hk
  obtain ⟨c,hc⟩:=I.ok.has x (.inl hk)
  obtain ⟨w',z⟩:=I.cell x c hc
  refine wpAny_storeName_cell I.ok.kind hk hc z (λh' hc' hs=>?_)
  obtain ⟨oc,hoc,afM⟩:=id z
  refine h { s with heap:=h' } ⟨I.ok,I.os,I.bare,⟨λb o e n hb hx=>?_,λb o e n hb hx=>?_,I.base.free,λb o e hx=>?_,I.base.tups,I.base.Gj,I.base.Kv⟩,⟨m,hn.sameBut hs (jA (cne x c hc)),λj y v' e1 e2 e3=>?_⟩,λy c' e=>?_,I.free,I.uO,λp hp=>?_,tracked ⟨oc,hoc,I.uO x c hc⟩ hs,by simpa using I.len⟩ ⟨c,hs,.inr hc⟩
  ·exact (hs.2 b (lO (qT (gC e) (I.ok.Yk x c hfn hc)))).trans (I.base.keep b o e n hb hx)
  ·obtain ⟨sl,e1⟩:=I.base.slot b o e n hb hx
   exact ⟨sl,(hs.2 b (lO (qT (gC e) (I.ok.Yk x c hfn hc)))).trans e1⟩
  ·obtain ⟨o',e1⟩:=I.base.there b o e hx
   exact ⟨o',(hs.2 b (lO (qT (gC e) (I.ok.Yk x c hfn hc)))).trans e1⟩
  ·by_cases hj:j=i
   ·subst hj
    rw [hi] at e1;cases e1
    rw [YW adl] at e2
    cases e2
    exact ⟨u,r,.inr ⟨.inl hk,c,hc,hc'⟩⟩
   ·rw [Ze (jA hj)] at e2
    obtain ⟨u',r',q⟩:=hl j y v' e1 e2 e3
    refine ⟨u',r',?_⟩
    rcases q with q | ⟨k,c',e,z'⟩
    ·exact .inl q
    ·refine .inr ⟨k,c',e,z'.sameBut hs ?_⟩
     rintro rfl
     exact hj (JU hN e1 (I.ok.inj _ _ _ e hc▸hi))
  ·by_cases hcc:c'=c
   ·subst hcc;exact ⟨_,hc'⟩
   ·obtain ⟨w2,z2⟩:=I.cell y c' e
    exact ⟨w2,z2.sameBut hs hcc⟩
  ·obtain ⟨e,n,ne,nf,d⟩:=I.pin p hp
   refine ⟨(hs.2 p.1 ?_).trans e,n,ne,nf,d⟩
   intro q
   rw [q,hoc] at e
   have q':oc=p.2:=yc e
   exact d w' (by rw [← q'];exact afM)
theorem xN {X:Cx} {pins:List (av×Obj)} {σ:List (Option V)} {H:Hp} {s:bA} {M:Model} {A:oN} {E:aL→bA→Prop} {i:Nat} {x:Str} {v:V} {u:aL} {Q:Unit→bA→Prop} (I:Inv X pins σ H s) (hN:X.N.Nodup) (hi:X.N[i]?=some x) (hx:Loc X.env.scope x) (r:RelV v u)
 (h:∀s',Inv X pins (σ.set i (some v)) H s'→Q () s') (hf:X.fn x=true∨X.env.scope.names.lookup x=some .local:=by first | exact .inl rfl | exact .inr rfl | assumption):ck M A (storeName X.env x u) Q E s:=
 Ft I hN hi hx r (λs' I' _=>h s' I') hf
theorem Inv.Yl (I:Inv X pins σ H s) (ho:s'.os=s.os) (u:Un (frs X.stack) ch H H' s.heap s'.heap) (hok:ye X.prog X.w H' s'.heap) (hg:xY s'.gens)
 (hch:∀b∈ch,(b∈X.ex∨X.s₀.heap.objs.size≤b)∧b≠X.env.locals∧(∀x c,X.env.cells.lookup x=some c→c≠b)∧∀p∈X.pn++pins,p.1≠b):Inv X pins σ H' s':=by
 obtain ⟨h',g',d',t',o'⟩:=s'
 have e:o'=s.os:=ho
 subst e
 exact I.call (g':=g') (t':=t') (d':=d') u hok hg hch
end
abbrev XK:=aL→Option av→Hp→Prop
abbrev St:=List (Option V)
abbrev VK:=V→Hp→Prop
abbrev TE:=St→Hp→VK→Prop
abbrev TT:=St→Hp→(Bool→Hp→Prop)→Prop
abbrev TA:=St→Hp→(List V→Hp→Prop)→Prop
structure Ends where
 nx:St→Hp→Prop
 rt:VK
 bk:St→Hp→Prop:=λ_ _=>False
 ct:St→Hp→Prop:=λ_ _=>False
abbrev TS:=Ends→St→Hp→Prop
def EP (X:Cx) (pins:List (av×Obj)) (σ:St) (Q:VK) (u:aL) (s':bA):Prop:=∃v H',Inv X pins σ H' s'∧RelV v u∧Q v H'
def TP (X:Cx) (pins:List (av×Obj)) (σ:St) (Q:Bool→Hp→Prop) (b:Bool) (s':bA):Prop:=∃H',Inv X pins σ H' s'∧Q b H'
def AP (X:Cx) (pins:List (av×Obj)) (σ:St) (Q:List V→Hp→Prop) (us:List aL) (s':bA):Prop:=∃vs H',Inv X pins σ H' s'∧Vals vs us∧Q vs H'
def SP (X:Cx) (pins:List (av×Obj)) (D:Ends) (f:Flow) (s':bA):Prop:=
 match f with
 | .next=>∃σ' H',Inv X pins σ' H' s'∧D.nx σ' H'
 | .brk=>∃σ' H',Inv X pins σ' H' s'∧D.bk σ' H'
 | .cont=>∃σ' H',Inv X pins σ' H' s'∧D.ct σ' H'
 | .ret u=>∃v σ' H',Inv X pins σ' H' s'∧RelV v u∧D.rt v H'
def PE (X:Cx) (e:bg) (t:TE):Prop:=
 ∀(pins:List (av×Obj)) (s:bA) (σ:St) (H:Hp) (Q:VK),Inv X pins σ H s→t σ H Q→ck 0#n X.A (eval e X.env) (EP X pins σ Q) X.xe s
def PT (X:Cx) (e:bg) (t:TT):Prop:=
 ∀(pins:List (av×Obj)) (s:bA) (σ:St) (H:Hp) (Q:Bool→Hp→Prop),Inv X pins σ H s→t σ H Q→ck 0#n X.A (isTrue e X.env (eval e X.env)) (TP X pins σ Q) X.xe s
def PW (X:Cx) (e:bg) (t:TT):Prop:=
 ∀(whole:Sem aL) (pins:List (av×Obj)) (s:bA) (σ:St) (H:Hp) (Q:Bool→Hp→Prop),Inv X pins σ H s→t σ H Q→ck 0#n X.A (isTrue e X.env whole) (TP X pins σ Q) X.xe s
theorem PW.pt (h:PW X e t):PT X e t:=h _
def PA (X:Cx) (es:List bg) (t:TA):Prop:=
 ∀(pos:Pos) (pins:List (av×Obj)) (s:bA) (σ:St) (H:Hp) (Q:List V→Hp→Prop),Inv X pins σ H s→t σ H Q→ck 0#n X.A (spliced (iA pos (bD es X.env))) (AP X pins σ Q) X.xe s
def PS (X:Cx) (st:aT) (t:TS):Prop:=
 ∀(pins:List (av×Obj)) (s:bA) (σ:St) (H:Hp) (D:Ends),Inv X pins σ H s→t D σ H→ck 0#n X.A (exec st X.env) (SP X pins D) X.xe s
def Lp (X:Cx) (st:List aT) (t:TS):Prop:=
 ∀(pins:List (av×Obj)) (s:bA) (σ:St) (H:Hp) (D:Ends),Inv X pins σ H s→t D σ H→ck 0#n X.A (execs st X.env) (SP X pins D) X.xe s
theorem gZ (h:ck M A t Q E s) (hQ:∀a s,Q a s→Q' a s):ck M A t Q' E s:=pW h hQ λ_ _ x=>x
section
def X6 (i:Nat):TE:=λσ H Q=>∃v,σ[i]?=some (some v)∧Q v H
def tC (v:V):TE:=λ_ H Q=>Q v H
theorem abM (hN:X.N[i]?=some x) (hv:Vis X.env.scope x) (hd:0#B=false:=by decide) (hcd:(x==("__classdict__":Str))=false:=by decide):PE X (.Name x pos) (X6 i):=by
 intro pins s σ H Q I h
 obtain ⟨v,e,h⟩:=h
 obtain ⟨m,hn,hl⟩:=I.loc
 obtain ⟨u,r,l⟩:=hl i x v hN e hv
 have fin:EP X pins σ Q u s:=⟨v,H,I,r,h⟩
 rcases l with ⟨hk,hm⟩ | ⟨hk,c,hc,hcell⟩
 ·exact VN (wpAny_loadName_local I.ok.kind hk hn hm fin) hd
 ·rcases hk with hk | hk
  ·exact VN (wpAny_loadName_cell I.ok.kind hk hc hcell fin) hd
  ·exact VN (wpAny_loadName_free I.ok.kind hk hc hcell fin hcd) hd
theorem CC {X:Cx} {i j pos}:PE X (.Constant (.int i) j pos) (tC (.int i)):=λ_ _ _ H _ I h=>wpAny_Constant_int ⟨.int i,H,I.tok _,⟨_,rfl⟩,h⟩
theorem TM {X:Cx} {b j pos}:PE X (.Constant (.bool b) j pos) (tC (.bl b)):=λ_ _ _ H _ I h=>Constant_bool ⟨.bl b,H,I,rfl,h⟩
theorem MN {X:Cx} {j pos}:PE X (.Constant .none j pos) (tC .bM):=λ_ _ _ H _ I h=>Constant_none ⟨.bM,H,I,rfl,h⟩
theorem MO {X:Cx} {x j pos}:PE X (.Constant (.str x) j pos) (tC (.str x)):=λ_ _ _ H _ I h=>Calls.Constant_str ⟨.str x,H,I.tok _,⟨_,rfl⟩,h⟩
def Gl (X:Cx) (x:Str):Prop:=X.env.kindOf x=some .globalImplicit
theorem GI {σ:St} (I:Inv X pins σ H s) (hg:Gl X x) (hm:X.mg x=some u) (h:Q u s)
 (hd:0#B=false:=by decide):ck 0#n X.A (eval (.Name x pos) X.env) Q E s:=
 YM I.ok.kind hg (Calls.loadGlobal_global (by rw [I.ok.glob];exact I.mod.glob.keeps I.bk) hm h) hd
theorem vz {σ:St} (I:Inv X pins σ H s) (hg:Gl X x) (hm:X.mg x=none) (hv:uV x=some u) (h:Q u s)
 (hn:x ≠ "__name__":=by decide) (hd:0#B=false:=by decide):ck 0#n X.A (eval (.Name x pos) X.env) Q E s:=by
 obtain ⟨mb,h1,h2⟩:=I.mod.blt
 exact YM I.ok.kind hg (Calls.loadGlobal_builtin (by rw [I.ok.glob];exact I.mod.glob.keeps I.bk) hm (by rw [I.ok.blt];exact h1.keeps I.bk) ((h2 x hn).trans hv) h) hd
theorem Xv (hg:Gl X x) (hm:X.mg x=some u) (r:RelV v u) (hd:0#B=false:=by decide):PE X (.Name x pos) (tC v):=
 λ_ _ _ H _ I h=>GI I hg hm ⟨v,H,I,r,h⟩ hd
theorem Xs (hg:Gl X x) (hm:X.mg x=none) (hv:uV x=some u) (r:RelV v u) (hn:x ≠ "__name__":=by decide) (hd:0#B=false:=by decide):PE X (.Name x pos) (tC v):=
 λ_ _ _ H _ I h=>vz I hg hm hv ⟨v,H,I,r,h⟩ hn hd
def tB (t:TE):TT:=λσ H Q=>t σ H λx H1=>∃c,x=.bl c∧Q c H1
theorem MX {X:Cx} {e:bg} {t:TE} (h:PE X e t) (he:∀whole,isTrue e X.env whole=(do let v ← whole;As e.pos;holding [v] (truthy v)):=by intro _;rfl):PT X e (tB t):=by
 intro pins s σ H Q I hw
 refine isTrue_plain (gZ (h pins s σ H _ I hw) λv s1 ⟨x,H1,I1,r1,q1⟩=>?_) (he _)
 obtain ⟨d,rfl,q⟩:=q1
 cases r1
 exact KP ⟨H1,I1,q⟩
def acn (t u:TT):TT:=λσ H Q=>t σ H λc H1=>if c=true then u σ H1 Q else Q false H1
def tOr (t u:TT):TT:=λσ H Q=>t σ H λc H1=>if c=true then Q true H1 else u σ H1 Q
def acs (t:TT):TT:=λσ H Q=>t σ H λc H1=>Q (!c) H1
theorem HB (ha:PT X a tA):PW X (.BoolOp .And [a] pos) tA:=by
 intro wh pins s σ H Q I h
 refine isTrue_and (gZ (ha pins s σ H Q I h) λc s1 e=>?_)
 cases c with
 | true=>exact isTrue_and_nil e
 | false=>exact e
theorem nA (ha:PT X a tA):PW X (.BoolOp .Or [a] pos) tA:=by
 intro wh pins s σ H Q I h
 refine isTrue_or (gZ (ha pins s σ H Q I h) λc s1 e=>?_)
 cases c with
 | false=>exact isTrue_or_nil e
 | true=>exact e
theorem MZ (ha:PT X a tA) (hb:PW X (.BoolOp .And (b::rest) pos) tB'):PW X (.BoolOp .And (a::b::rest) pos) (acn tA tB'):=by
 intro wh pins s σ H Q I h
 refine isTrue_and (gZ (ha pins s σ H _ I h) λc s1 ⟨H1,I1,q1⟩=>?_)
 cases c with
 | true=>exact hb wh pins s1 σ H1 Q I1 q1
 | false=>exact ⟨H1,I1,q1⟩
theorem sJ (ha:PT X a tA) (hb:PW X (.BoolOp .Or (b::rest) pos) tB'):PW X (.BoolOp .Or (a::b::rest) pos) (tOr tA tB'):=by
 intro wh pins s σ H Q I h
 refine isTrue_or (gZ (ha pins s σ H _ I h) λc s1 ⟨H1,I1,q1⟩=>?_)
 cases c with
 | true=>exact ⟨H1,I1,q1⟩
 | false=>exact hb wh pins s1 σ H1 Q I1 q1
theorem nv (ha:PT X a tA):PT X (.UnaryOp .Not a pos) (acs tA):=by
 intro pins s σ H Q I h
 exact isTrue_not (ha pins s σ H (λc H1=>Q (!c) H1) I h)
def UO (ta tb:TE):TE:=λσ H Q=>ta σ H λx H1=>∃c,x=.bl c∧if c=true then tb σ H1 Q else Q (.bl false) H1
theorem CD {X:Cx} {a:bg} {pos:Pos} {op} {t:TE} (h:PE X a t):PE X (.BoolOp op [a] pos) t:=λpins s σ H Q I hw=>BoolOp_one (h pins s σ H Q I hw)
theorem yP (ha:PE X a ta) (hb:PE X (.BoolOp .And (b::rest) pos) tb):PE X (.BoolOp .And (a::b::rest) pos) (UO ta tb):=by
 intro pins s σ H Q I h
 refine BoolOp_and (gZ (ha pins s σ H _ I h) λv s1 ⟨x,H1,I1,r1,q1⟩=>?_)
 obtain ⟨c,rfl,q1⟩:=q1
 cases r1
 refine KP ?_
 cases c with
 | true=>exact hb pins s1 σ H1 Q I1 q1
 | false=>exact ⟨.bl false,H1,I1,rfl,q1⟩
def tIf (t:TT) (ta tb:TE):TE:=λσ H Q=>t σ H λc H1=>if c=true then ta σ H1 Q else tb σ H1 Q
theorem CB (hc:PT X c tA) (ha:PE X a ta) (hb:PE X b tb):PE X (.IfExp c a b pos) (tIf tA ta tb):=by
 intro pins s σ H Q I h
 refine wpAny_IfExp (gZ (hc pins s σ H _ I h) λd s1 ⟨H1,I1,q1⟩=>?_)
 cases d with
 | true=>exact ha pins s1 σ H1 Q I1 q1
 | false=>exact hb pins s1 σ H1 Q I1 q1
end
def aX (K:b9) (H:Hp) (a:av) (xs:List V):Prop:=
 Rd H a (.lst xs) ∨
  ∃(o:Obj) (its:Array aL) (n:Nat),K.lookup a=some o∧o.cls=.type "list"∧o.dict=none∧o.data=.seq its n∧its.size≤sizeLine∧Vals xs its.toList
def qb (K:b9) (H:Hp) (a:av) (xs:List V):Prop:=
 Rd H a 0#q ∨
  ∃(o:Obj) (its:Array aL) (n:Nat),K.lookup a=some o∧o.cls=.type "tuple"∧o.data=.seq its n∧its.size≤sizeLine∧Vals xs its.toList
def afq:aL→Option V
 | .none=>some .bM
 | .bool b=>some (.bl b)
 | .int i _=>some (.int i)
 | .str x _=>some (.str x)
 | .bytes b _=>some (.Q9 b)
 | .float b _=>some (.flt b)
 | .ref a=>some (.ref a)
 | .type n=>some (.ty n)
 | _=>none
theorem RelV.abs (r:RelV x u):afq u=some x:=by
 cases x with
 | bM=>cases r;rfl
 | bl _=>cases r;rfl
 | int _=>obtain ⟨t,rfl⟩:=r;rfl
 | str _=>obtain ⟨t,rfl⟩:=r;rfl
 | Q9 _=>obtain ⟨t,rfl⟩:=r;rfl
 | flt _=>obtain ⟨t,rfl⟩:=r;rfl
 | ref _=>cases r;rfl
 | ty _=>cases r;rfl
theorem RelV.inj (r:RelV x u) (q:RelV y u):x=y:=yc (r.abs.symm.trans q.abs)
theorem Vals.inj:∀{xs ys:List V} {us:List aL},Vals xs us→Vals ys us→xs=ys
 | _,_,_,.nil,.nil=>rfl
 | _,_,_,.cons r t,.cons r' t'=>by rw [r.inj r',Vals.inj t t']
section
theorem aX.of {K:b9} (h:H a=some (.lst xs)):aX K H a xs:=.inl (.inl h)
theorem qb.of {K:b9} (h:H a=some 0#q):qb K H a xs:=.inl (.inl h)
theorem Inv.list {σ:St} (I:Inv X pins σ H s) (h:aX X.K H a xs):∃its:List aL,Vals xs its∧PlainL s.heap a its.toArray∧xs.length≤sizeLine:=by
 rcases h with h | ⟨o,its,n,hk,hc,hd,hs,hz,r⟩
 ·obtain ⟨z,its,n,r,e⟩:=h.ok I.hok
  exact ⟨its,r,⟨_,n,e,rfl,rfl,rfl⟩,z⟩
 ·refine ⟨its.toList,r,⟨o,n,I.AK a o hk,hc,hd,by simpa using hs⟩,?_⟩
  have e:=r.length
  simp only [OX] at e
  simp?
theorem Inv.tuple {σ:St} (I:Inv X pins σ H s) (h:qb X.K H a xs):∃its:List aL,Vals xs its∧IsTup s.heap a its.toArray∧xs.length≤sizeLine:=by
 rcases h with h | ⟨o,its,n,hk,hc,hs,hz,r⟩
 ·obtain ⟨z,its,r,p⟩:=h.ok I.hok
  exact ⟨its,r,p,z⟩
 ·refine ⟨its.toList,r,⟨o,I.AK a o hk,hc,n,by simpa using hs⟩,?_⟩
  have e:=r.length
  simp only [OX] at e
  simp?
theorem Inv.wL {σ:St} (I:Inv X pins σ H s) (h:aX X.K H a xs) (h':aX X.K H a ys):xs=ys:=by
 obtain ⟨its,r,⟨o,n,e,_,_,d⟩,_⟩:=I.list h
 obtain ⟨its',r',⟨o',n',e',_,_,d'⟩,_⟩:=I.list h'
 rw [e] at e';cases e'
 rw [d] at d'
 injection d' with d1 _
 have:its=its':=by simpa using congrArg aal d1
 subst this
 exact r.inj r'
theorem Inv.Q2 {σ:St} (I:Inv X pins σ H s) (h:qb X.K H a xs) (h':qb X.K H a ys):xs=ys:=by
 obtain ⟨its,r,⟨o,e,_,n,d⟩,_⟩:=I.tuple h
 obtain ⟨its',r',⟨o',e',_,n',d'⟩,_⟩:=I.tuple h'
 rw [e] at e';cases e'
 rw [d] at d'
 injection d' with d1 _
 have:its=its':=by simpa using congrArg aal d1
 subst this
 exact r.inj r'
end
abbrev Cx.EA (X:Cx) (E:aL→bA→Prop):Cx:={ X with xe:=E }
abbrev Cx.nox (X:Cx):Cx:=X.EA λ_ _=>False
theorem Cx.Ok.EA {X:Cx} (ok:X.Ok) (E:aL→bA→Prop):(X.EA E).Ok:=
 ⟨ok.mod,ok.kind,ok.glob,ok.blt,ok.above,ok.inj,ok.has,ok.Yk,ok.hd,ok.frames,ok.stk,ok.exf,ok.bs,ok.Yj,ok.S9,ok.WA,ok.Ay,ok.frf⟩
theorem Cx.Ok.tS {X:Cx} (ok:(X.EA E).Ok):X.Ok:=
 ⟨ok.mod,ok.kind,ok.glob,ok.blt,ok.above,ok.inj,ok.has,ok.Yk,ok.hd,ok.frames,ok.stk,ok.exf,ok.bs,ok.Yj,ok.S9,ok.WA,ok.Ay,ok.frf⟩
section
theorem Inv.EA {σ:St} (I:Inv X pins σ H s) (E:aL→bA→Prop):Inv (X.EA E) pins σ H s:=⟨I.ok.EA E,I.os,I.bare,I.base,I.loc,I.cell,I.free,I.uO,I.pin,I.hok,I.len⟩
theorem Inv.tS {σ:St} (I:Inv (X.EA E) pins σ H s):Inv X pins σ H s:=⟨I.ok.tS,I.os,I.bare,I.base,I.loc,I.cell,I.free,I.uO,I.pin,I.hok,I.len⟩
theorem SP.tS (h:SP (X.EA E) pins D f s'):SP X pins D f s':=by
 cases f with
 | next=>obtain ⟨σ',H',I,q⟩:=h;exact ⟨σ',H',I.tS,q⟩
 | brk=>obtain ⟨σ',H',I,q⟩:=h;exact ⟨σ',H',I.tS,q⟩
 | cont=>obtain ⟨σ',H',I,q⟩:=h;exact ⟨σ',H',I.tS,q⟩
 | ret u=>obtain ⟨v,σ',H',I,r,q⟩:=h;exact ⟨v,σ',H',I.tS,r,q⟩
theorem Lp.nox {st:List aT} (h:Lp X.nox st t):Lp X st t:=λpins s σ H D I hw=>
 pW (h pins s σ H D (I.EA _) hw) (λ_ _ q=>q.tS) λ_ _ z=>pX z
def UT:TS:=λD σ H=>D.nx σ H
def Du (t u:TS):TS:=λD σ H=>t { D with nx:=u D } σ H
theorem Hw {X:Cx}:Lp X [] UT:=λ_ _ σ H _ I h=>O6 ⟨σ,H,I,h⟩
theorem CM {X:Cx} {st:aT} {rest:List aT} {t u:TS} (h1:PS X st t) (h2:Lp X rest u):Lp X (st::rest) (Du t u):=by
 intro pins s σ H D I h
 refine ZH (gZ (h1 pins s σ H { D with nx:=u D } I h) λf s1 q=>?_)
 cases f with
 | next=>
   obtain ⟨σ',H',I',q⟩:=q
   exact h2 pins s1 σ' H' D I' q
 | ret v=>exact q
 | brk=>exact q
 | cont=>exact q
theorem Hx {X:Cx} {st:aT} {t:TS} (h1:PS X st t):Lp X [st] t:=by
 intro pins s σ H D I h
 refine ZH (gZ (h1 pins s σ H D I h) λf s1 q=>?_)
 cases f with
 | next=>exact O6 q
 | ret v=>exact q
 | brk=>exact q
 | cont=>exact q
def UP:TS:=λD σ H=>D.ct σ H
theorem sI:PS X (.Continue pos) UP:=λ_ _ σ H _ I h=>wpAny_Continue ⟨σ,H,I,h⟩
theorem Inv.quiet {σ:St} (I:Inv X pins σ H s):interactive X.env=false:=by simp [interactive,I.ok.kind]
def UQ (te:TE):TS:=λD σ H=>te σ H λ_ H1=>D.nx σ H1
theorem Ht {X:Cx} {e:bg} {te:TE} {pos:Pos} (he:PE X e te) (hs:lR e none pos.line X.env=pure false:=by rfl):PS X (.Expr e pos) (UQ te):=by
 intro pins s σ H D I h
 exact wpAny_Expr_any (gZ (he pins s σ H _ I h) λv s1 ⟨x,H1,I1,r1,q1⟩=>⟨σ,H1,I1,q1⟩) I.quiet hs
def acv (te:TE):TS:=λD σ H=>te σ H D.rt
theorem MW {X:Cx} {e:bg} {te:TE} {pos:Pos} (he:PE X e te):PS X (.Return (some e) pos) (acv te):=by
 intro pins s σ H D I h
 exact wpAny_Return_some (gZ (he pins s σ H _ I h) λv s1 ⟨x,H1,I1,r1,q1⟩=>⟨x,σ,H1,I1,r1,q1⟩)
def acq (c:TT) (t u:TS):TS:=λD σ H=>c σ H λb H1=>if b=true then t D σ H1 else u D σ H1
theorem T3 {X:Cx} {t u:TS} {pos:Pos} {c:bg} {a b:List aT} {tc:TT} (hc:PT X c tc) (ha:Lp X a t) (hb:Lp X b u):PS X (.If c a b pos) (acq tc t u):=by
 intro pins s σ H D I h
 refine wpAny_If (gZ (hc pins s σ H _ I h) λd s1 ⟨H1,I1,q1⟩=>?_)
 cases d with
 | true=>exact ha pins s1 σ H1 D I1 q1
 | false=>exact hb pins s1 σ H1 D I1 q1
def US:TS:=λ_ _ _=>False
theorem CL {st:aT}:PS X st US:=λ_ _ _ _ _ _ h=>h.elim
end
abbrev TG:=V→St→Hp→(St→Hp→Prop)→Prop
abbrev We:=List V→St→Hp→(St→Hp→Prop)→Prop
def PG (X:Cx) (target:bg) (t:TG):Prop:=
 ∀(pins:List (av×Obj)) (s:bA) (σ:St) (H:Hp) (v:V) (u:aL) (Q:St→Hp→Prop),Inv X pins σ H s→RelV v u→t v σ H Q →
  ck 0#n X.A (assign target X.env u) (λ_ s'=>∃σ' H',Inv X pins σ' H' s'∧Q σ' H') X.xe s
def Yg (X:Cx) (ts:List bg) (t:We):Prop:=
 ∀(pins:List (av×Obj)) (s:bA) (σ:St) (H:Hp) (vs:List V) (us:List aL) (Q:St→Hp→Prop),Inv X pins σ H s→Vals vs us→t vs σ H Q →
  ck 0#n X.A (assignInOrder ((oq ts X.env).map (·.2)) us) (λ_ s'=>∃σ' H',Inv X pins σ' H' s'∧Q σ' H') X.xe s
abbrev acK:=V→V→V→Hp→(Hp→Prop)→Prop
def aaI (X:Cx) (t:acK):Prop:=
 ∀(pins:List (av×Obj)) (s:bA) (σ:St) (H:Hp) (o i v:V) (ov iv u:aL) (Q:Hp→Prop),Inv X pins σ H s→RelV o ov→RelV i iv→RelV v u→t o i v H Q →
  ck 0#n X.A (setItem ov iv u) (λ_ s'=>∃H',Inv X pins σ H' s'∧Q H') X.xe s
section
def iU (i:Nat):TG:=λv σ H Q=>Q (σ.set i (some v)) H
theorem Hl {X:Cx} {pos:Pos} {i:Nat} {x:Str} (hN:X.N.Nodup) (hi:X.N[i]?=some x) (hx:Loc X.env.scope x) (hf:X.fn x=true∨X.env.scope.names.lookup x=some .local:=by first | exact .inl rfl | exact .inr rfl | assumption):PG X (.Name x pos) (iU i):=by
 intro pins s σ H v u Q I r h
 exact Zt (xN I hN hi hx r (λs' I'=>⟨_,H,I',h⟩) hf)
def PN:We:=λvs σ H Q=>vs=[]∧Q σ H
def qW (t:TG) (u:We):We:=λvs σ H Q=>∃v r,vs=v::r∧t v σ H λσ' H'=>u r σ' H' Q
theorem Ho {X:Cx}:Yg X [] PN:=by
 intro pins s σ H vs us Q I r h
 obtain ⟨e,h⟩:=h
 subst e
 cases r
 exact Zu ⟨σ,H,I,h⟩
theorem CG {X:Cx} {e:bg} {es:List bg} {t:TG} {u:We} (h1:PG X e t) (h2:Yg X es u)
 (hs:(oq (e::es) X.env).map (·.2)=assign e X.env::(oq es X.env).map (·.2):=by rfl):Yg X (e::es) (qW t u):=by
 intro pins s σ H vs us Q I r h
 obtain ⟨v,vr,e1,h⟩:=h
 subst e1
 cases r with
 | cons r rr=>
   rw [hs]
   refine U9 (gZ (h1 pins s σ H _ _ _ I r h) λ_ s1 ⟨σ1,H1,I1,q1⟩=>?_)
   exact h2 pins s1 σ1 H1 _ _ Q I1 rr q1
def PR (K:b9) (n:Nat) (t:We):TG:=λv σ H Q=>∃a xs,v=.ref a∧qb K H a xs∧xs.length=n∧t xs σ H Q
theorem abO (hc:X.calm=true) (h:Yg X es t)
 (hn:(oq es X.env).length=n:=by rfl) (hst:(oq es X.env).findIdx? (·.1)=none:=by rfl):PG X (.Tuple es k pos) (PR X.K n t):=by
 intro pins s σ H v u Q I r hw
 obtain ⟨a,xs,e1,hq,hl,hw⟩:=hw
 subst e1
 cases r
 obtain ⟨its,rv,ht,hz⟩:=I.tuple hq
 refine assign_Tuple_tuple (I.ok.hd hc) ht (by simp [hn,← hl,rv.length]) hst λh' hx=>?_
 have I1:Inv X pins σ H { s with heap:=h' }:=I.kept (t':=s.toks) λb o e=>hx b o (lO (gC e)) e
 exact h pins _ σ H xs _ Q I1 (by simpa using rv) hw
def aa9 (to ti:TE) (t:acK):TG:=λv σ H Q=>to σ H λo H1=>ti σ H1 λi H2=>t o i v H2 λH3=>Q σ H3
theorem MR (ho:PE X o to) (hi:PE X i ti) (hs:aaI X t)
 (ha:∀v,assign (.Subscript o i pos) X.env v=(do
   let ov ← holding [v] (eval o X.env)
   let iv ← holding [v,ov] (eval i X.env)
   As pos
   holding [v,ov,iv] (setItem ov iv v)
   release [v,ov,iv] []):=by intro _;rfl):PG X (.Subscript o i pos) (aa9 to ti t):=by
 intro pins s σ H v u Q I r h
 rw [ha]
 refine gJ (Al (gZ (ho pins s σ H _ I h) λov s1 ⟨x,H1,I1,r1,q1⟩=>?_))
 refine gJ (Al (gZ (hi pins s1 σ H1 _ I1 q1) λiv s2 ⟨y,H2,I2,r2,q2⟩=>?_))
 refine gJ (K1 (gJ (Al (gZ (hs pins s2 σ H2 x y v ov iv u _ I2 r1 r2 r q2) λ_ s3 ⟨H3,I3,q3⟩=>?_))))
 exact wpAny_release ⟨σ,H3,I3,q3⟩
def Ez (te:TE) (g:TG):TS:=λD σ H=>te σ H λx H1=>g x σ H1 D.nx
theorem sG (he:PE X e te) (hg:PG X tg g) (hs:swapsWithSole [tg] e pos.line X.env=pure false:=by rfl) (hw:swappedStores [tg] e X.env=pure none:=by rfl)
 (h1:(oq [tg] X.env).map (·.2)=[assign tg X.env]:=by rfl):PS X (.Assign [tg] e pos) (Ez te g):=by
 intro pins s σ H D I h
 refine wpAny_Assign_stores (gZ (he pins s σ H _ I h) λv s1 ⟨x,H1,I1,r1,q1⟩=>?_) hs hw
 rw [h1]
 exact gZ (hg pins s1 σ H1 x v _ I1 r1 q1) λ_ s2 q=>q
theorem Hv {X:Cx} {pos:Pos} {i:Nat} {x:Str} {e:bg} {te:TE} {pos':Pos} (hN:X.N.Nodup) (hi:X.N[i]?=some x) (hx:Loc X.env.scope x) (he:PE X e te) (hs:lR e (some (.Name x pos')) pos.line X.env=pure false:=by rfl) (hf:X.fn x=true∨X.env.scope.names.lookup x=some .local:=by first | exact .inl rfl | exact .inr rfl | assumption) :
 PS X (.Assign [.Name x pos'] e pos) (Ez te (iU i)):=by
 intro pins s σ H D I h
 refine wpAny_Assign_Name (gZ (he pins s σ H _ I h) λv s1 ⟨y,H1,I1,r1,q1⟩=>?_) hs
 exact xN I1 hN hi hx r1 (λs2 I2=>⟨_,H1,I2,q1⟩) hf
def acu (i j:Nat) (ta:TA):TS:=λD σ H=>ta σ H λvs H1=>∃v w,vs=[v,w]∧D.nx ((σ.set i (some v)).set j (some w)) H1
theorem Hu (hc:X.calm=true) (hN:X.N.Nodup) (hi:X.N[i]?=some x) (hj:X.N[j]?=some y) (hij:i≠j)
 (hx:X.env.scope.names.lookup x=some .local) (hy:X.env.scope.names.lookup y=some .local) (ha:PA X [a,b] ta)
 (hw:swappedStores [.Tuple [.Name x px,.Name y py] kt pt] (.Tuple [a,b] k2 pt2) X.env=pure (some [x,y]))
 (hs:swapsWithSole [.Tuple [.Name x px,.Name y py] kt pt] (.Tuple [a,b] k2 pt2) pos.line X.env=pure false:=by rfl) :
 PS X (.Assign [.Tuple [.Name x px,.Name y py] kt pt] (.Tuple [a,b] k2 pt2) pos) (acu i j ta):=by
 intro pins s σ H D I h
 rw [exec_Assign_arm]
 refine gJ (K1 ?_)
 rw [hs]
 refine gJ (ou ?_)
 rw [if_neg 0#i]
 refine gJ (Tuple_ (gZ (ha _ pins s σ H _ I h) λus s1 ⟨vs,H1,I1,r1,q1⟩=>?_))
 obtain ⟨v,w,e1,q1⟩:=q1
 subst e1
 obtain ⟨u1,u2,rfl,rv,rw'⟩:∃u1 u2,us=[u1,u2]∧RelV v u1∧RelV w u2:=by
  cases r1 with
  | cons p q=>
    cases q with
    | cons p' q'=>
      cases q'
      exact ⟨_,_,rfl,p,p'⟩
 refine Zv ?_ (by show 2≤sizeLine;decide)
 have I2:Inv X pins σ H1 { s1 with heap:=s1.heap.push { cls:=.type "tuple",data:=.seq [u1,u2].toArray } }:=I1.kept (t':=s1.toks) λb o e=>pA _ e
 rw [hw]
 refine gJ (ou ?_)
 show ck 0#n X.A (do rule "assign.swapped-stores";let items ← unpackItems (.ref s1.heap.objs.size) 2 none;assignInOrder [λv=>bindName X.env y v,λv=>bindName X.env x v] items.reverse;pure Flow.next) _ _ _
 refine gJ (wpAny_rule (gJ (unpackItems_tuple (items:=#[u1,u2]) (I.ok.hd hc) (VR s1.heap _) λh' hx'=>?_)))
 have I3:=I2.kept (h':=h') (t':=s1.toks) λb o e=>hx' b o (lO (gC e)) e
 show ck _ _ (assignInOrder [λv=>bindName X.env y v,λv=>bindName X.env x v] [u2,u1] >>= λ_=>pure Flow.next) _ _ _
 refine gJ (U9 (ZW (xN I3 hN hj (.inl hy) rw' (λs2 I4=>?_) (.inr hy))))
 refine U9 (ZW (xN I4 hN hi (.inl hx) rv (λs3 I5=>Zu (ou ?_)) (.inr hx)))
 rw [List.set_comm _ _ (jA hij)] at I5
 exact ⟨_,H1,I5,q1⟩
def Dv (c:TT) (tb:TS):TS:=λD σ H=>∃W:Nat→St→Hp→Prop,(∃m,W m σ H)∧∀m σ H,W m σ H →
 c σ H λb H1=>if b=true then ∃N:St→Hp→Prop,(∀σ' H',N σ' H'→∃m',m'<m∧W m' σ' H')∧tb { D with nx:=N,ct:=N,bk:=D.nx } σ H1 else D.nx σ H1
theorem kO (hp:Pp 0#n X.A X.env X.xe) (hc:PT X c tc) (hb:Lp X body tb):PS X (.While c body [] pos) (Dv tc tb):=by
 intro pins s σ H D I h
 obtain ⟨W,⟨m0,w0⟩,turn⟩:=h
 refine wpAny_While (codeAny_whileLoop (λn s'=>∃σ' H',Inv X pins σ' H' s'∧W n σ' H') ?_ m0 ⟨σ,H,I,w0⟩)
 rintro n s1 ⟨σ1,H1,I1,w1⟩
 refine DB hp (gZ (hc pins s1 σ1 H1 _ I1 (turn n σ1 H1 w1)) λb s2 ⟨H2,I2,q2⟩=>?_)
 cases b with
 | true=>
   obtain ⟨N,hN,q2⟩:=q2
   rw [if_pos rfl]
   refine DB hp (gZ (hb pins s2 σ1 H2 _ I2 q2) λf s3 q3=>?_)
   cases f with
   | next=>
     obtain ⟨σ3,H3,I3,n3⟩:=q3
     obtain ⟨m',hm,w3⟩:=hN σ3 H3 n3
     exact ⟨m',hm,σ3,H3,I3,w3⟩
   | cont=>
     obtain ⟨σ3,H3,I3,n3⟩:=q3
     obtain ⟨m',hm,w3⟩:=hN σ3 H3 n3
     exact ⟨m',hm,σ3,H3,I3,w3⟩
   | brk=>exact q3
   | ret v=>exact q3
 | false=>
   rw [if_neg dW]
   exact O6 ⟨σ1,H2,I2,q2⟩
end
structure It where
 go:Nat→Hp→Prop
 Ro:Nat→Hp→V→Hp→Prop
 stop:Nat→Hp→Prop
def Ax (X:Cx) (pins:List (av×Obj)) (H:Hp) (b:av):Prop:=
 H b=none∧b≠X.env.locals∧b∉X.fs∧(b∈X.ex∨X.s₀.heap.objs.size≤b)∧(∀x c,X.env.cells.lookup x=some c→c≠b)∧∀p∈X.pn++pins,p.1≠b
theorem Inv.LA {σ:St} {b:av} (I:Inv X pins σ H s) (hb:s.heap.objs.size≤b) (hn:H' b=none):Ax X pins H' b:=by
 refine ⟨hn,Vx (qT I.lt hb),I.agc hb,.inr (dP I.sz hb),λx c e z=>?_,λp hp z=>?_⟩
 ·obtain ⟨v,q⟩:=I.cell x c e
  exact absurd (qT q.lt (by rw [z];exact hb)) (DF _)
 ·exact absurd (qT (gC (I.pin p hp).1) (by rw [z];exact hb)) (DF _)
structure Turn (P:jv) (w:eV) (K:b9) (tg:bg) (J:It) (fp:List av) (it:av) (tn:Nat→cN→Prop):Prop where
 mem:it∈fp
 obj:∀i h,tn i h→∀b∈fp,∃o,h.get? b=some o∧∀v,o.data≠.cell v
 keep:∀i h h',tn i h→(∀b∈fp,∀o,h.get? b=some o→h'.get? b=some o)→tn i h'
 item:∀(X:Cx),X.prog=P→X.w=w→X.K=K→X.calm=true→∀(i:Nat) (pins:List (av×Obj)) (s:bA) (σ:St) (H:Hp) (E:aL→bA→Prop),Inv X pins σ H s→(∀b∈fp,Ax X pins H b)→tn i s.heap→J.go i H →
  ck (model P w) X.A (pyNext (.ref it)) (λr s1=>∃u,r=some u ∧
   ck (model P w) X.A (letOwnedTupleGo tg (.ref it) u) (λ_ s2=>∃x H',Inv X pins σ H' s2∧RelV x u∧J.Ro i H x H'∧tn (i+1) s2.heap∧∀b∈fp,H' b=none) E s1) E s
 done:∀(X:Cx),X.prog=P→X.w=w→X.K=K→X.calm=true→∀(i:Nat) (pins:List (av×Obj)) (s:bA) (σ:St) (H:Hp) (E:aL→bA→Prop),Inv X pins σ H s→(∀b∈fp,Ax X pins H b)→tn i s.heap→J.stop i H →
  ck (model P w) X.A (pyNext (.ref it)) (λr s1=>r=none∧Inv X pins σ H s1) E s
 self:∀(A:oN) (i:Nat) (s:bA) (Q:aL→bA→Prop) (E:aL→bA→Prop),tn i s.heap→Q (.ref it) s→ck (model P w) A (pyIter (.ref it)) Q E s
abbrev TI:=St→Hp→(It→Hp→Prop)→Prop
def PIE (X:Cx) (pins:List (av×Obj)) (σ:St) (tg:bg) (R:It→Hp→Prop) (itv:aL) (s2:bA):Prop:=
 ∃(it:av) (fp:List av) (tn:Nat→cN→Prop) (J:It) (H':Hp),itv=.ref it∧Inv X pins σ H' s2∧Turn X.prog X.w X.K tg J fp it tn∧tn 0 s2.heap∧(∀b∈fp,Ax X pins H' b)∧R J H'
def PI (X:Cx) (tg iter:bg) (wi:TI):Prop:=
 ∀(pins:List (av×Obj)) (s:bA) (σ:St) (H:Hp) (R:It→Hp→Prop),Inv X pins σ H s→wi σ H R →
  ck 0#n X.A (eval iter X.env) (λv s1=>ck 0#n X.A (pyIter v) (PIE X pins σ tg R) X.xe s1) X.xe s
theorem Sh (ho:s.heap.get? it=some o) (hc:o.cls=.type n) (hd:o.data=.fields vs)
 (hn:["enumerate","zip","dict_itemiterator","dict_reverseitemiterator","odict_iterator","itertools.zip_longest","itertools.pairwise"].contains n=false) (hQ:Q () s):ck M A (letOwnedTupleGo tg (.ref it) u) Q E s:=by
 unfold letOwnedTupleGo
 cases tg <;> first
  | exact ou hQ
  | (cases u <;> first
      | exact ou hQ
      | (refine gJ (wpAny_load ho ?_)
         rw [hc,hd]
         show ck M A (if (["enumerate","zip","dict_itemiterator","dict_reverseitemiterator","odict_iterator","itertools.zip_longest","itertools.pairwise"].contains n&&vs[0]?==some (rawInt _))=true then _ else _) Q E s
         rw [if_neg (by intro h;rw [hn,Bool.false_and] at h;cases h)]
         exact ou hQ))
def Itl (K:b9) (a:av):It:=
 ⟨λi H=>∃xs x,aX K H a xs∧xs[i]?=some x,λi H x H'=>H'=H∧∀xs,aX K H a xs→xs[i]?=some x,λi H=>∃xs,aX K H a xs∧xs.length≤i⟩
def Itt (K:b9) (a:av):It:=
 ⟨λi H=>∃xs x,qb K H a xs∧xs[i]?=some x,λi H x H'=>H'=H∧∀xs,qb K H a xs→xs[i]?=some x,λi H=>∃xs,qb K H a xs∧xs.length≤i⟩
def VV (lo:Int) (n:Nat):It:=⟨λi _=>i<n,λi H x H'=>H'=H∧x=.int (lo+i),λi _=>n≤i⟩
theorem Q4 {K:b9} (a it:av):Turn P w K tg (Itl K a) [it] it (λi h=>h.IsListIter it a i) where
 mem:=by simp
 obj:=λi h st b hb=>by
  have e:b=it:=by simpa using hb
  subst e
  obtain ⟨o,e,c,d⟩:=st
  exact ⟨o,e,λv z=>by rw [d] at z;cases z⟩
 keep:=λi h h' st k=>st.at λo e=>k it 0#f o e
 item:=by
  intro X hP hw hK hc i pins s σ H E I hf st hg
  subst hP hw hK
  obtain ⟨xs,x,hq,hx⟩:=hg
  obtain ⟨its,rv,p,hz⟩:=I.list hq
  obtain ⟨u,hu,ru⟩:=rv.get hx
  obtain ⟨f0,f1,f2,f3,f4,f5⟩:=hf it 0#f
  refine YX st p.isList (x:=u) (by simpa using hu) λh' st' sb=>?_
  have I1:Inv X pins σ H { s with heap:=h' }:=I.turned (t':=s.toks) (λb o hb e=>(sb.2 b hb).trans e) f0 f1 f3 f4 f5
  obtain ⟨o,e,c,d⟩:=id st'
  exact ⟨u,rfl,Sh (s:={ s with heap:=h' }) e c d 0#i ⟨x,H,I1,ru,⟨rfl,λys hy=>by rw [I.wL hy hq];exact hx⟩,st',λb hb=>(hf b hb).1⟩⟩
 done:=by
  intro X hP hw hK hc i pins s σ H E I hf st hg
  subst hP hw hK
  obtain ⟨xs,hq,hx⟩:=hg
  obtain ⟨its,rv,p,hz⟩:=I.list hq
  obtain ⟨f0,f1,f2,f3,f4,f5⟩:=hf it 0#f
  have hl:=rv.length
  exact Y7 (I.ok.hd hc) st p.isList (by simp;simp?) λh' eb=>⟨rfl,I.turned (t':=s.toks) (λb o hb e=>eb b o hb e) f0 f1 f3 f4 f5⟩
 self:=λ_ _ _ _ _ st h=>wpAny_pyIter_listiter st h
theorem ND {K:b9} (a it:av):Turn P w K tg (Itt K a) [it] it (λi h=>h.IsTupleIter it a i) where
 mem:=by simp
 obj:=λi h st b hb=>by
  have e:b=it:=by simpa using hb
  subst e
  obtain ⟨o,e,c,d⟩:=st
  exact ⟨o,e,λv z=>by rw [d] at z;cases z⟩
 keep:=λi h h' st k=>st.at λo e=>k it 0#f o e
 item:=by
  intro X hP hw hK hc i pins s σ H E I hf st hg
  subst hP hw hK
  obtain ⟨xs,x,hq,hx⟩:=hg
  obtain ⟨its,rv,p,hz⟩:=I.tuple hq
  obtain ⟨u,hu,ru⟩:=rv.get hx
  obtain ⟨f0,f1,f2,f3,f4,f5⟩:=hf it 0#f
  refine wpAny_pyNext_tuple_item st (show s.heap.IsTuple a its.toArray from p) (x:=u) (by simpa using hu) λh' st' sb=>?_
  have I1:Inv X pins σ H { s with heap:=h' }:=I.turned (t':=s.toks) (λb o hb e=>(sb.2 b hb).trans e) f0 f1 f3 f4 f5
  obtain ⟨o,e,c,d⟩:=id st'
  exact ⟨u,rfl,Sh (s:={ s with heap:=h' }) e c d 0#i ⟨x,H,I1,ru,⟨rfl,λys hy=>by rw [I.Q2 hy hq];exact hx⟩,st',λb hb=>(hf b hb).1⟩⟩
 done:=by
  intro X hP hw hK hc i pins s σ H E I hf st hg
  subst hP hw hK
  obtain ⟨xs,hq,hx⟩:=hg
  obtain ⟨its,rv,p,hz⟩:=I.tuple hq
  obtain ⟨f0,f1,f2,f3,f4,f5⟩:=hf it 0#f
  have hl:=rv.length
  exact wpAny_pyNext_tuple_end (I.ok.hd hc) st (show s.heap.IsTuple a its.toArray from p) (by simp;simp?) λh' eb=>⟨rfl,I.turned (t':=s.toks) (λb o hb e=>eb b o hb e) f0 f1 f3 f4 f5⟩
 self:=λ_ _ _ _ _ st h=>wpAny_pyIter_tupleiter st h
theorem NC {K:b9} (it:av) (lo:Int) (n:Nat):Turn P w K tg (VV lo n) [it] it (λi h=>IsRangeIter h it (lo+(i:Nat)*1) ((n:Int)-(i:Nat)) 1) where
 mem:=by simp
 obj:=λi h st b hb=>by
  have e:b=it:=by simpa using hb
  subst e
  exact ⟨_,st,λv z=>by
   have z':Data.fields _=Data.cell v:=z
   cases z'⟩
 keep:=λi h h' st k=>k it 0#f _ st
 item:=by
  intro X hP hw hK hc i pins s σ H E I hf st hg
  subst hP hw hK
  obtain ⟨f0,f1,f2,f3,f4,f5⟩:=hf it 0#f
  have W:=Walks.range (prog:=X.prog) (w:=X.w) (I.ok.hd hc) it lo 1 n
  refine W.item i s _ _ hg st λv h' tk hv st' kk=>?_
  obtain ⟨t,rfl⟩:=hv
  have I1:Inv X pins σ H { s with heap:=h',toks:=tk }:=I.turned (λb o hb e=>kk b o (by simpa using hb) e) f0 f1 f3 f4 f5
  refine ⟨_,rfl,Sh (s:={ s with heap:=h',toks:=tk }) (n := "range_iterator") st' rfl rfl 0#i ⟨.int (lo+i),H,I1,⟨t,?_⟩,⟨rfl,rfl⟩,st',λb hb=>(hf b hb).1⟩⟩
  rw [Int.mul_one]
 done:=by
  intro X hP hw hK hc i pins s σ H E I hf st hg
  subst hP hw hK
  obtain ⟨f0,f1,f2,f3,f4,f5⟩:=hf it 0#f
  exact wpAny_pyNext_range_end (I.ok.hd hc) st (by have:n≤i:=hg;simp?) λh' eb=>⟨rfl,I.turned (t':=s.toks) (λb o hb e=>eb b o hb e) f0 f1 f3 f4 f5⟩
 self:=λ_ _ _ _ _ st h=>wpAny_pyIter_rangeiter st h
section
def Oe (K:b9) (tl:TE):TI:=λσ H R=>tl σ H λx H1=>∃a,x=.ref a∧(∃xs,aX K H1 a xs)∧R (Itl K a) H1
def WZ (K:b9) (tl:TE):TI:=λσ H R=>tl σ H λx H1=>∃a,x=.ref a∧(∃xs,qb K H1 a xs)∧R (Itt K a) H1
theorem Xz (hl:PE X l tl):PI X tg l (Oe X.K tl):=by
 intro pins s σ H R I h
 refine gZ (hl pins s σ H _ I h) λv s1 ⟨x,H1,I1,r1,q1⟩=>?_
 obtain ⟨a,e,⟨xs,hq⟩,q⟩:=q1
 subst e
 cases r1
 obtain ⟨its,rv,p,hz⟩:=I1.list hq
 refine Zw p.isList ?_
 refine ⟨s1.heap.objs.size,[s1.heap.objs.size],_,_,H1,rfl,I1.kept (t':=s1.toks) λb o e=>pA _ e,Q4 a _,⟨_,EB _ rfl,rfl,rfl⟩,λb hb=>?_,q⟩
 have e:b=s1.heap.objs.size:=by simpa using hb
 subst e
 exact I1.LA (dG _) (I1.hok.fresh (dG _))
theorem abP (hl:PE X l tl):PI X tg l (WZ X.K tl):=by
 intro pins s σ H R I h
 refine gZ (hl pins s σ H _ I h) λv s1 ⟨x,H1,I1,r1,q1⟩=>?_
 obtain ⟨a,e,⟨xs,hq⟩,q⟩:=q1
 subst e
 cases r1
 obtain ⟨its,rv,p,hz⟩:=I1.tuple hq
 refine wpAny_pyIter_tuple (show s1.heap.IsTuple a its.toArray from p) ?_
 refine ⟨s1.heap.objs.size,[s1.heap.objs.size],_,_,H1,rfl,I1.kept (t':=s1.toks) λb o e=>pA _ e,ND a _,⟨_,EB _ rfl,rfl,rfl⟩,λb hb=>?_,q⟩
 have e:b=s1.heap.objs.size:=by simpa using hb
 subst e
 exact I1.LA (dG _) (I1.hok.fresh (dG _))
theorem Kf {σ:St} {lo:Int} (I:Inv X pins σ H s) (h1:-(2 ^ 62)≤lo) (h2:lo<2 ^ 62) (h3:-(2 ^ 62)≤hi) (h4:hi<2 ^ 62)
 (q:R (VV lo (hi-lo).toNat) H):ck 0#n X.A (pyIter (.ref s.heap.objs.size)) (PIE X pins σ tg R) E { s with heap:=s.heap.push { cls:=.type "range",data:=.fields #[.int lo t,.int hi u,.int 1 v] },toks:=tk }:=by
 refine wpAny_pyIter_range (IsRange.new ..) (small_one h1 h2 h3 h4) ?_
 have I1:Inv X pins σ H { s with heap:=s.heap.push { cls:=.type "range",data:=.fields #[.int lo t,.int hi u,.int 1 v] },toks:=tk }:=I.kept λb o e=>pA _ e
 refine ⟨(s.heap.push { cls:=.type "range",data:=.fields #[.int lo t,.int hi u,.int 1 v] }).objs.size,[(s.heap.push { cls:=.type "range",data:=.fields #[.int lo t,.int hi u,.int 1 v] }).objs.size],_,_,H,rfl,
  I1.kept (t':=tk) λb o e=>pA _ e,NC _ lo (hi-lo).toNat,?_,λb hb=>?_,q⟩
 ·have e1:lo+((0:Nat):Int)*1=lo:=by simp
  have e2:(((hi-lo).toNat:Nat):Int)-((0:Nat):Int)=aeX lo hi 1:=by rw [rangeSize_one];split <;> simp?
  show IsRangeIter _ _ (lo+((0:Nat):Int)*1) ((((hi-lo).toNat:Nat):Int)-((0:Nat):Int)) 1
  rw [e1,e2]
  exact EB _ rfl
 ·have e:b=(s.heap.push { cls:=.type "range",data:=.fields #[.int lo t,.int hi u,.int 1 v] }).objs.size:=by simpa using hb
  subst e
  exact I1.LA (dG _) (I1.hok.fresh (dG _))
def SG (ta:TA):TI:=λσ H R=>ta σ H λvs H1=>∃j:Int,vs=[.int j]∧-(2 ^ 62)≤j∧j<2 ^ 62∧R (VV 0 j.toNat) H1
def SH (ta:TA):TI:=λσ H R=>ta σ H λvs H1=>∃i j:Int,vs=[.int i,.int j]∧(-(2 ^ 62)≤i∧i<2 ^ 62∧-(2 ^ 62)≤j∧j<2 ^ 62)∧R (VV i (j-i).toNat) H1
theorem yQ (hg:Gl X "range") (hm:X.mg "range"=none) (ha:PA X [a] ta) (hs:bD [a] X.env=[(false,eval a X.env)]:=by rfl):PI X tg (.Call (.Name "range" p) [a] [] pos) (SG ta):=by
 intro pins s σ H R I h
 refine Call_ (vz I hg hm boot_range (KA (gZ (ha pos pins s σ H _ I h) λus s1 ⟨vs,H1,I1,r1,q1⟩=>?_) hs rfl))
 obtain ⟨j,e,q1,q2,q⟩:=q1
 subst e
 cases r1 with
 | cons r rr=>
   cases rr
   obtain ⟨t,rfl⟩:=r
   exact call_range_1 (Kf I1 0#c 0#c q1 q2 (by simpa using q))
theorem yR (hg:Gl X "range") (hm:X.mg "range"=none) (ha:PA X [a,b] ta) (hs:bD [a,b] X.env=[(false,eval a X.env),(false,eval b X.env)]:=by rfl) (hs2:bD [b] X.env=[(false,eval b X.env)]:=by rfl) :
 PI X tg (.Call (.Name "range" p) [a,b] [] pos) (SH ta):=by
 intro pins s σ H R I h
 refine Call_ (vz I hg hm boot_range (KA (gZ (ha pos pins s σ H _ I h) λus s1 ⟨vs,H1,I1,r1,q1⟩=>?_) (by rw [hs,hs2]) (by rw [hs2];rfl)))
 obtain ⟨i,j,e,⟨q1,q2,q3,q4⟩,q⟩:=q1
 subst e
 cases r1 with
 | cons r rr=>
   cases rr with
   | cons r' rr=>
     cases rr
     obtain ⟨t,rfl⟩:=r
     obtain ⟨t',rfl⟩:=r'
     exact call_range_2 (Kf I1 q1 q2 q3 q4 q)
def acp (wi:TI) (g:TG) (tb:TS):TS:=λD σ H=>wi σ H λJ H1=>∃W:Nat→Nat→St→Hp→Prop,(∃m,W 0 m σ H1)∧∀i m σ H,W i m σ H →
 (J.stop i H∧D.nx σ H)∨(J.go i H∧∃N:St→Hp→Prop,(∀σ' H',N σ' H'→∃m',m'<m∧W (i+1) m' σ' H')∧∀x H',J.Ro i H x H'→g x σ H' λσ2 H2=>tb { D with nx:=N,ct:=N,bk:=D.nx } σ2 H2)
def CJ (fp:List av) (h:cN):List (av×Obj):=fp.filterMap λb=>(h.get? b).map λo=>(b,o)
theorem qw (hb:b∈fp) (e:h.get? b=some o):(b,o)∈CJ fp h:=Zo.mpr ⟨b,hb,by rw [e];rfl⟩
theorem Qu (hp:p∈CJ fp h):p.1∈fp∧h.get? p.1=some p.2:=by
 obtain ⟨b,hb,e⟩:=Zo.mp hp
 cases q:h.get? b with
 | none=>rw [q] at e;cases e
 | some o=>
   rw [q] at e
   have e':(b,o)=p:=yc e
   subst e'
   exact ⟨hb,q⟩
theorem Inv.pinned {σ:St} (I:Inv X pins σ H s) (hf:∀b∈fp,Ax X pins H b) (ho:∀b∈fp,∃o,s.heap.get? b=some o∧∀v,o.data≠.cell v):Inv X (pins++CJ fp s.heap) σ H s:=
 I.Oz λp hp=>(dg.mp hp).elim (λz=>I.pin p (Bc _ z)) λz=>by
  obtain ⟨hb,e⟩:=Qu z
  obtain ⟨f0,f1,f2,_⟩:=hf p.1 hb
  obtain ⟨o,e',d⟩:=ho p.1 hb
  rw [e] at e';cases e'
  exact ⟨e,f0,f1,f2,d⟩
theorem Inv.tR {σ:St} (I:Inv X (pins++pl) σ H s):Inv X pins σ H s:=I.Oz λp hp=>I.pin p (Bc _ (Fz _ hp))
theorem MV {X:Cx} {tg:bg} {iter:bg} {body:List aT} {wi:TI} {g:TG} {tb:TS} {pos:Pos} (hp:Pp 0#n X.A X.env X.xe) (hc:X.calm=true) (hi:PI X tg iter wi) (hg:PG X tg g) (hb:Lp X body tb)
 (hs:∀x,II iter X.env x=pure x:=by intro _;rfl):PS X (.For tg iter body [] pos) (acp wi g tb):=by
 intro pins s σ H D I h
 refine wpAny_For (gZ (hi pins s σ H _ I h) λv s1 h1=>gZ h1 λitv s2 h2=>?_) hs
 obtain ⟨it,fp,tn,J,H2,e,I2,T,st2,f2,W,⟨m0,w0⟩,turn⟩:=h2
 subst e
  -- what stays true of the iterator's objects through the loop
 have acj:∀{H':Hp},(∀b∈fp,H' b=none)→∀b∈fp,Ax X pins H' b:=λhn b hb=>⟨hn b hb,(f2 b hb).2⟩
 refine codeAny_forLoop_any (λn s'=>∃i σ' H',Inv X pins σ' H' s'∧tn i s'.heap∧(∀b∈fp,H' b=none)∧W i n σ' H') ?_ m0 ⟨0,σ,H2,I2,st2,λb hb=>(f2 b hb).1,w0⟩
 rintro n s3 ⟨i,σ3,H3,I3,st3,fr3,w3⟩
 rcases turn i n σ3 H3 w3 with ⟨stop,qn⟩ | ⟨go,N,hN,step⟩
 ·refine DB hp (gZ (T.done X rfl rfl rfl hc i pins s3 σ3 H3 X.xe I3 (acj fr3) st3 stop) λr s4 ⟨hr,I4⟩=>?_)
  subst hr
  exact O6 ⟨σ3,H3,I4,qn⟩
 ·refine DB hp (gZ (T.item X rfl rfl rfl hc i pins s3 σ3 H3 X.xe I3 (acj fr3) st3 go) λr s4 ⟨u,hr,h4⟩=>?_)
  subst hr
  refine DB hp (gZ h4 λ_ s5 ⟨x,H5,I5,r5,y5,st5,fr5⟩=>?_)
  have I5':=I5.pinned (acj fr5) (T.obj _ _ st5)
  refine DB hp (gZ (hg _ s5 σ3 H5 x u _ I5' r5 (step x H5 y5)) λ_ s6 ⟨σ6,H6,I6,q6⟩=>?_)
  refine DB hp (gZ (hb _ s6 σ6 H6 _ I6 q6) λf s7 q7=>?_)
  have again:∀{VU:St} {H7:Hp},Inv X (pins++CJ fp s5.heap) VU H7 s7→N VU H7→∃m,m<n∧∃i σ' H',Inv X pins σ' H' s7∧tn i s7.heap∧(∀b∈fp,H' b=none)∧W i m σ' H':=λ{VU H7} I7 n7=>by
   obtain ⟨m',hm,w7⟩:=hN VU H7 n7
   refine ⟨m',hm,i+1,VU,H7,I7.tR,T.keep _ _ _ st5 λb hb o e=>(I7.pin (b,o) (Bc _ (Bc _ (qw hb e)))).1,λb hb=>?_,w7⟩
   obtain ⟨o,e,d⟩:=T.obj _ _ st5 b hb
   exact (I7.pin (b,o) (Bc _ (Bc _ (qw hb e)))).2.1
  cases f with
  | next=>obtain ⟨VU,H7,I7,n7⟩:=q7;exact again I7 n7
  | cont=>obtain ⟨VU,H7,I7,n7⟩:=q7;exact again I7 n7
  | brk=>obtain ⟨VU,H7,I7,q7⟩:=q7;exact ⟨VU,H7,I7.tR,q7⟩
  | ret v=>obtain ⟨x7,VU,H7,I7,r7,q7⟩:=q7;exact ⟨x7,VU,H7,I7.tR,r7,q7⟩
end
theorem eK {K:b9} {a:av} {g:TG} {tb:TS} {D:Ends} {σ:St} {H:Hp} (Pv:Nat→St→Hp→Prop) (h0:Pv 0 σ H) (hl:∀i σ H,i≤xs.length→Pv i σ H→aX K H a xs)
 (hs:∀i x σ H,xs[i]?=some x→Pv i σ H→g x σ H λσ2 H2=>tb { D with nx:=Pv (i+1),ct:=Pv (i+1),bk:=D.nx } σ2 H2) (hd:∀σ H,Pv xs.length σ H→D.nx σ H) :
 ∃W:Nat→Nat→St→Hp→Prop,(∃m,W 0 m σ H)∧∀i m σ H,W i m σ H →
  ((Itl K a).stop i H∧D.nx σ H)∨((Itl K a).go i H∧∃N:St→Hp→Prop,(∀σ' H',N σ' H'→∃m',m'<m∧W (i+1) m' σ' H')∧∀x H',(Itl K a).Ro i H x H'→g x σ H' λσ2 H2=>tb { D with nx:=N,ct:=N,bk:=D.nx } σ2 H2):=by
 refine ⟨λi m σ H=>m=xs.length-i∧i≤xs.length∧Pv i σ H,⟨xs.length,by simp,mD _,h0⟩,?_⟩
 rintro i m σ H ⟨rfl,hi,p⟩
 have q:=hl i σ H hi p
 by_cases hlt:i<xs.length
 ·refine .inr ⟨⟨xs,xs[i],q,by simp [hlt]⟩,Pv (i+1),λσ' H' p'=>⟨xs.length-(i+1),by simp?,rfl,hlt,p'⟩,λx H' y=>?_⟩
  obtain ⟨e,y⟩:=y
  subst e
  exact hs i x σ _ (y xs q) p
 ·have e:i=xs.length:=by simp?
  subst e
  exact .inl ⟨⟨xs,q,dG _⟩,hd σ H p⟩
theorem WD {K:b9} {a:av} {g:TG} {tb:TS} {D:Ends} {σ:St} {H:Hp} (Pv:Nat→St→Hp→Prop) (h0:Pv 0 σ H) (hl:∀i σ H,i≤xs.length→Pv i σ H→qb K H a xs)
 (hs:∀i x σ H,xs[i]?=some x→Pv i σ H→g x σ H λσ2 H2=>tb { D with nx:=Pv (i+1),ct:=Pv (i+1),bk:=D.nx } σ2 H2) (hd:∀σ H,Pv xs.length σ H→D.nx σ H) :
 ∃W:Nat→Nat→St→Hp→Prop,(∃m,W 0 m σ H)∧∀i m σ H,W i m σ H →
  ((Itt K a).stop i H∧D.nx σ H)∨((Itt K a).go i H∧∃N:St→Hp→Prop,(∀σ' H',N σ' H'→∃m',m'<m∧W (i+1) m' σ' H')∧∀x H',(Itt K a).Ro i H x H'→g x σ H' λσ2 H2=>tb { D with nx:=N,ct:=N,bk:=D.nx } σ2 H2):=by
 refine ⟨λi m σ H=>m=xs.length-i∧i≤xs.length∧Pv i σ H,⟨xs.length,by simp,mD _,h0⟩,?_⟩
 rintro i m σ H ⟨rfl,hi,p⟩
 have q:=hl i σ H hi p
 by_cases hlt:i<xs.length
 ·refine .inr ⟨⟨xs,xs[i],q,by simp [hlt]⟩,Pv (i+1),λσ' H' p'=>⟨xs.length-(i+1),by simp?,rfl,hlt,p'⟩,λx H' y=>?_⟩
  obtain ⟨e,y⟩:=y
  subst e
  exact hs i x σ _ (y xs q) p
 ·have e:i=xs.length:=by simp?
  subst e
  exact .inl ⟨⟨xs,q,dG _⟩,hd σ H p⟩
theorem cA {lo:Int} {n:Nat} {g:TG} {tb:TS} {D:Ends} {H:Hp} (Pv:Nat→St→Hp→Prop) (h0:Pv 0 σ H)
 (hs:∀i σ H,i<n→Pv i σ H→g (.int (lo+i)) σ H λσ2 H2=>tb { D with nx:=Pv (i+1),ct:=Pv (i+1),bk:=D.nx } σ2 H2) (hd:∀σ H,Pv n σ H→D.nx σ H) :
 ∃W:Nat→Nat→St→Hp→Prop,(∃m,W 0 m σ H)∧∀i m σ H,W i m σ H →
  ((VV lo n).stop i H∧D.nx σ H)∨((VV lo n).go i H∧∃N:St→Hp→Prop,(∀σ' H',N σ' H'→∃m',m'<m∧W (i+1) m' σ' H')∧∀x H',(VV lo n).Ro i H x H'→g x σ H' λσ2 H2=>tb { D with nx:=N,ct:=N,bk:=D.nx } σ2 H2):=by
 refine ⟨λi m σ H=>m=n-i∧i≤n∧Pv i σ H,⟨n,by simp,mD _,h0⟩,?_⟩
 rintro i m σ H ⟨rfl,hi,p⟩
 by_cases hlt:i<n
 ·refine .inr ⟨hlt,Pv (i+1),λσ' H' p'=>⟨n-(i+1),by simp?,rfl,hlt,p'⟩,λx H' y=>?_⟩
  obtain ⟨e,y⟩:=y
  subst e y
  exact hs i σ _ hlt p
 ·have e:i=n:=by simp?
  subst e
  exact .inl ⟨dG _,hd σ H p⟩
theorem xQ (Pv:St→Hp→Prop) (μ:St→Hp→Nat) (h0:Pv σ H)
 (hs:∀σ H,Pv σ H→c σ H λb H1=>if b=true then tb { D with nx:=λσ' H'=>Pv σ' H'∧μ σ' H'<μ σ H,ct:=λσ' H'=>Pv σ' H'∧μ σ' H'<μ σ H,bk:=D.nx } σ H1 else D.nx σ H1)
 (mono:∀σ H Q Q',(∀b H1,Q b H1→Q' b H1)→c σ H Q→c σ H Q'):Dv c tb D σ H:=by
 refine ⟨λm σ H=>m=μ σ H∧Pv σ H,⟨_,rfl,h0⟩,?_⟩
 rintro m σ H ⟨rfl,p⟩
 refine mono σ H _ _ (λb H1 q=>?_) (hs σ H p)
 cases b with
 | true=>exact ⟨_,λσ' H' ⟨p',l⟩=>⟨_,l,rfl,p'⟩,q⟩
 | false=>exact q
abbrev R2:=V→V→Hp→VK→Prop
def rK (X:Cx) (f:aL→aL→Sem aL) (r:R2):Prop:=
 ∀(pins:List (av×Obj)) (s:bA) (σ:St) (H:Hp) (x y:V) (v u:aL) (Q:VK),Inv X pins σ H s→RelV x v→RelV y u→r x y H Q →
  ck 0#n X.A (f v u) (EP X pins σ Q) X.xe s
def UnR (X:Cx) (f:aL→Sem aL) (r:V→Hp→VK→Prop):Prop:=
 ∀(pins:List (av×Obj)) (s:bA) (σ:St) (H:Hp) (x:V) (v:aL) (Q:VK),Inv X pins σ H s→RelV x v→r x H Q →
  ck 0#n X.A (f v) (EP X pins σ Q) X.xe s
def je (X:Cx) (f:aL) (r:List V→Hp→VK→Prop):Prop:=
 ∀(pins:List (av×Obj)) (s:bA) (σ:St) (H:Hp) (xs:List V) (us:List aL) (Q:VK),Inv X pins σ H s→Vals xs us→r xs H Q →
  ck 0#n X.A (call f us) (EP X pins σ Q) X.xe s
def UU (r:R2) (ta tb:TE):TE:=λσ H Q=>ta σ H λx H1=>tb σ H1 λy H2=>r x y H2 Q
def tUn (r:V→Hp→VK→Prop) (ta:TE):TE:=λσ H Q=>ta σ H λx H1=>r x H1 Q
def rI (C:Int→Int→Prop) (g:Int→Int→V):R2:=λx y H Q=>∃i j,x=.int i∧y=.int j∧C i j∧Q (g i j) H
def XD (g:Int→Int→V):R2:=λx y H Q=>∃i j,x=.int i∧y=.int j∧Q (g i j) H
def rU (g:Int→V):V→Hp→VK→Prop:=λx H Q=>∃i,x=.int i∧Q (g i) H
section
theorem aaM {X:Cx} {a b:bg} {ta tb:TE} (ha:PE X a ta) (hb:PE X b tb)  {s:bA} {σ:St} {H:Hp} {R:V→V→Hp→Prop} (I:Inv X pins σ H s)
 (h:ta σ H λx H1=>tb σ H1 λy H2=>R x y H2) {Q:aL→bA→Prop} {f:aL→aL→Sem aL}
 (hf:∀v u s2 x y H2,Inv X pins σ H2 s2→RelV x v→RelV y u→R x y H2→ck 0#n X.A (f v u) Q X.xe s2) :
 ck 0#n X.A (eval a X.env) (λv s₁=>ck 0#n X.A (eval b X.env) (λu s₂=>ck 0#n X.A (f v u) Q X.xe s₂) X.xe s₁) X.xe s:=by
 refine gZ (ha pins s σ H _ I h) λv s1 ⟨x,H1,I1,r1,q1⟩=>?_
 refine gZ (hb pins s1 σ H1 _ I1 q1) λu s2 ⟨y,H2,I2,r2,q2⟩=>?_
 exact hf v u s2 x y H2 I2 r1 r2 q2
theorem TX {X:Cx} {a b:bg} {ta tb:TE} {pos:Pos} {op:Operator} {r:R2} (ho:rK X (oK op) r) (ha:PE X a ta) (hb:PE X b tb):PE X (.BinOp a op b pos) (UU r ta tb):=by
 intro pins s σ H Q I h
 exact wpAny_BinOp (aaM ha hb I h λv u s2 x y H2 I2 rx ry q=>ho pins s2 σ H2 x y v u Q I2 rx ry q)
theorem TY {X:Cx} {a:bg} {ta:TE} {pos:Pos} {op:UnaryOp} {r:V→Hp→VK→Prop} (ho:UnR X (unaryOp op) r) (ha:PE X a ta):PE X (.UnaryOp op a pos) (tUn r ta):=by
 intro pins s σ H Q I h
 exact UnaryOp_ (gZ (ha pins s σ H _ I h) λv s1 ⟨x,H1,I1,r1,q1⟩=>ho pins s1 σ H1 x v Q I1 r1 q1)
theorem opI {g:Int→Int→Int}
 (rule:∀(i j:Int) (t u:Tok) (s:bA) (Q:aL→bA→Prop) (E:aL→bA→Prop),C i j→Q (.int (g i j) s.toks) { s with toks:=s.toks+1 }→ck 0#n X.A (f (.int i t) (.int j u)) Q E s) :
 rK X f (rI C λi j=>.int (g i j)):=by
 intro pins s σ H x y v u Q I rx ry h
 obtain ⟨i,j,rfl,rfl,hc,q⟩:=h
 obtain ⟨t,rfl⟩:=rx
 obtain ⟨t',rfl⟩:=ry
 exact rule i j t t' s _ _ hc ⟨.int (g i j),H,I.tok _,⟨_,rfl⟩,q⟩
theorem adK {g:Int→Int→Int}
 (rule:∀(i j:Int) (t u:Tok) (s:bA) (Q:aL→bA→Prop) (E:aL→bA→Prop),Q (.int (g i j) s.toks) { s with toks:=s.toks+1 }→ck 0#n X.A (f (.int i t) (.int j u)) Q E s) :
 rK X f (XD λi j=>.int (g i j)):=by
 intro pins s σ H x y v u Q I rx ry h
 obtain ⟨i,j,rfl,rfl,q⟩:=h
 obtain ⟨t,rfl⟩:=rx
 obtain ⟨t',rfl⟩:=ry
 exact rule i j t t' s _ _ ⟨.int (g i j),H,I.tok _,⟨_,rfl⟩,q⟩
theorem Xp {g:Int→Int→Bool}
 (rule:∀(i j:Int) (t u:Tok) (s:bA) (Q:aL→bA→Prop) (E:aL→bA→Prop),Q (.bool (g i j)) s→ck 0#n X.A (f (.int i t) (.int j u)) Q E s) :
 rK X f (XD λi j=>.bl (g i j)):=by
 intro pins s σ H x y v u Q I rx ry h
 obtain ⟨i,j,rfl,rfl,q⟩:=h
 obtain ⟨t,rfl⟩:=rx
 obtain ⟨t',rfl⟩:=ry
 exact rule i j t t' s _ _ ⟨.bl (g i j),H,I,rfl,q⟩
def acE (i j:Int):Prop:=0≤j∧j≤1000000∧i.natAbs<2 ^ 64
def V9 (i j:Int):Prop:=(-(2 ^ 64)<i∧i<2 ^ 64)∨(-(2 ^ 64)<j∧j<2 ^ 64)
theorem V9.ok (h:V9 i j):IntMulOk i j:=by
 rcases h with ⟨h1,h2⟩ | ⟨h1,h2⟩
 ·exact .of_left (Z9 h1 h2)
 ·exact .of_right (Z9 h1 h2)
theorem NF (k:Nat):(0:Int)≤2 ^ k:=by
 rw [two_pow_cast]
 exact OY _
theorem aW:rK X (oK .Add) (XD λi j=>.int (i+j)):=adK λ_ _ _ _ _ _ _ q=>add_int q
theorem bL:rK X (oK .Sub) (XD λi j=>.int (i-j)):=adK λ_ _ _ _ _ _ _ q=>sub_int q
theorem iN:rK X (oK .Mod) (rI (λ_ j=>0<j) λi j=>.int (i % j)):=opI λi j _ _ _ _ _ hc q=>by
 have h1:(0:Int)<j:=hc
 exact mod_int' 0#c (by rw [Int.fmod_eq_emod_of_nonneg i 0#c];exact q)
theorem qA:rK X (oK .Pow) (rI acE λi j=>.int (i ^ j.toNat)):=opI λ_ _ _ _ _ _ _ hc q=>pow_int_small hc.1 hc.2.1 hc.2.2 q
theorem TH:rK X (oK .RShift) (rI (λ_ j=>0≤j) λi j=>.int (i/2 ^ j.toNat)):=opI λi j _ _ _ _ _ hc q=>
 rshift_int hc (by rw [DO i (NF _)];exact q)
theorem unI {g:Int→Int}
 (rule:∀(i:Int) (t:Tok) (s:bA) (Q:aL→bA→Prop) (E:aL→bA→Prop),Q (.int (g i) s.toks) { s with toks:=s.toks+1 }→ck 0#n X.A (f (.int i t)) Q E s) :
 UnR X f (rU λi=>.int (g i)):=by
 intro pins s σ H x v Q I rx h
 obtain ⟨i,rfl,q⟩:=h
 obtain ⟨t,rfl⟩:=rx
 exact rule i t s _ _ ⟨.int (g i),H,I.tok _,⟨_,rfl⟩,q⟩
theorem cZ:UnR X (unaryOp .USub) (rU λi=>.int (-i)):=unI λ_ _ _ _ _ q=>neg_int q
end
def XR:V→V→Bool
 | .bM,.bM=>true | .bM,.int _=>true | .int _,.bM=>true | .bM,.bl _=>true | .bl _,.bM=>true | .bM,.str _=>true | .str _,.bM=>true
 | .int _,.int _=>true | .bl _,.bl _=>true | .str _,.str _=>true | .Q9 _,.Q9 _=>true
 | .int _,.str _=>true | .str _,.int _=>true | .bl _,.str _=>true | .str _,.bl _=>true
 | _,_=>false
def rEq:R2:=λx y H Q=>XR x y=true∧Q (.bl (decide (x=y))) H
def rNe:R2:=λx y H Q=>XR x y=true∧Q (.bl (!decide (x=y))) H
theorem NW:decide (V.int i=V.int j)=(i==j):=by
 rw [O7]
 simp
theorem RS:decide (V.bl i=V.bl j)=(i==j):=by
 rw [O7]
 simp
theorem NX:decide (V.str i=V.str j)=(i==j):=by
 rw [O7]
 simp
theorem NV:decide (V.Q9 i=V.Q9 j)=(i.toList==j.toList):=by
 rw [O7]
 cases i
 cases j
 simp
section
theorem cM {σ:St} (I:Inv X pins σ H s) (q:Q (.bl k) H) (e:k=k'):EP X pins σ Q (.bool k') s:=by
 subst e
 exact ⟨.bl k,H,I,rfl,q⟩
theorem dF:rK X (pZ .Eq) rEq:=by
 intro pins s σ H x y v u Q I rx ry h
 obtain ⟨hs,q⟩:=h
 cases x with
 | bM=>
   cases rx
   cases y with
   | bM=>cases ry;exact aeA (cM I q 0#f)
   | bl j=>cases ry;exact aeB (cM I q 0#f)
   | int j=>obtain ⟨t',rfl⟩:=ry;exact aeK (cM I q 0#f)
   | str j=>obtain ⟨t',rfl⟩:=ry;exact aeL (cM I q 0#f)
   | _=>exact absurd (show false=true from hs) dW
 | bl i=>
   cases rx
   cases y with
   | bM=>cases ry;exact aeC (cM I q 0#f)
   | bl j=>cases ry;exact eq_bool (cM I q RS)
   | str j=>obtain ⟨t',rfl⟩:=ry;exact aeD (cM I q 0#f)
   | _=>exact absurd (show false=true from hs) dW
 | int i=>
   obtain ⟨t,rfl⟩:=rx
   cases y with
   | bM=>cases ry;exact aeM (cM I q 0#f)
   | int j=>obtain ⟨t',rfl⟩:=ry;exact eq_int (cM I q NW)
   | str j=>obtain ⟨t',rfl⟩:=ry;exact aeN (cM I q 0#f)
   | _=>exact absurd (show false=true from hs) dW
 | str i=>
   obtain ⟨t,rfl⟩:=rx
   cases y with
   | bM=>cases ry;exact aeO (cM I q 0#f)
   | bl j=>cases ry;exact aeE (cM I q 0#f)
   | int j=>obtain ⟨t',rfl⟩:=ry;exact aeP (cM I q 0#f)
   | str j=>obtain ⟨t',rfl⟩:=ry;exact eq_str (cM I q NX)
   | _=>exact absurd (show false=true from hs) dW
 | Q9 i=>
   obtain ⟨t,rfl⟩:=rx
   cases y with
   | Q9 j=>obtain ⟨t',rfl⟩:=ry;exact PySem.W.eq_bytes (cM I q NV)
   | _=>exact absurd (show false=true from hs) dW
 | _=>cases y <;> exact absurd (show false=true from hs) dW
theorem E7:rK X (pZ .NotEq) rNe:=by
 intro pins s σ H x y v u Q I rx ry h
 obtain ⟨hs,q⟩:=h
 cases x with
 | bM=>
   cases rx
   cases y with
   | bM=>cases ry;exact aeF (cM I q 0#f)
   | bl j=>cases ry;exact aeG (cM I q 0#f)
   | int j=>obtain ⟨t',rfl⟩:=ry;exact aeQ (cM I q 0#f)
   | str j=>obtain ⟨t',rfl⟩:=ry;exact aeR (cM I q 0#f)
   | _=>exact absurd (show false=true from hs) dW
 | bl i=>
   cases rx
   cases y with
   | bM=>cases ry;exact aeH (cM I q 0#f)
   | bl j=>cases ry;exact ne_bool (cM I q (congrArg not RS))
   | str j=>obtain ⟨t',rfl⟩:=ry;exact aeI (cM I q 0#f)
   | _=>exact absurd (show false=true from hs) dW
 | int i=>
   obtain ⟨t,rfl⟩:=rx
   cases y with
   | bM=>cases ry;exact aeS (cM I q 0#f)
   | int j=>obtain ⟨t',rfl⟩:=ry;exact ne_int (cM I q (congrArg not NW))
   | str j=>obtain ⟨t',rfl⟩:=ry;exact aeT (cM I q 0#f)
   | _=>exact absurd (show false=true from hs) dW
 | str i=>
   obtain ⟨t,rfl⟩:=rx
   cases y with
   | bM=>cases ry;exact aeU (cM I q 0#f)
   | bl j=>cases ry;exact aeJ (cM I q 0#f)
   | int j=>obtain ⟨t',rfl⟩:=ry;exact aeV (cM I q 0#f)
   | str j=>obtain ⟨t',rfl⟩:=ry;exact ne_str (cM I q (congrArg not NX))
   | _=>exact absurd (show false=true from hs) dW
 | Q9 i=>
   obtain ⟨t,rfl⟩:=rx
   cases y with
   | Q9 j=>obtain ⟨t',rfl⟩:=ry;exact PySem.W.ne_bytes (cM I q (congrArg not NV))
   | _=>exact absurd (show false=true from hs) dW
 | _=>cases y <;> exact absurd (show false=true from hs) dW
theorem lQ:rK X (pZ .Lt) (XD λi j=>.bl (decide (i<j))):=Xp λ_ _ _ _ _ _ _ q=>lt_int q
theorem Ka:rK X (pZ .LtE) (XD λi j=>.bl (decide (i≤j))):=Xp λ_ _ _ _ _ _ _ q=>le_int q
theorem dS:rK X (pZ .Gt) (XD λi j=>.bl (decide (j<i))):=Xp λ_ _ _ _ _ _ _ q=>gt_int q
theorem Tz:rK X (pZ .GtE) (XD λi j=>.bl (decide (j≤i))):=Xp λ_ _ _ _ _ _ _ q=>ge_int q
theorem qz:rK X (pZ .Is) (λx y H Q=>y=.bM∧Q (.bl (decide (x=.bM))) H):=by
 intro pins s σ H x y v u Q I rx ry h
 obtain ⟨rfl,q⟩:=h
 cases ry
 refine is_none_gen (cM I q ?_)
 cases x <;> first
  | (cases rx;rfl)
  | (obtain ⟨t,rfl⟩:=rx;rfl)
theorem jI:rK X (pZ .IsNot) (λx y H Q=>y=.bM∧Q (.bl (!decide (x=.bM))) H):=by
 intro pins s σ H x y v u Q I rx ry h
 obtain ⟨rfl,q⟩:=h
 cases ry
 refine isnot_none_gen (cM I q ?_)
 cases x <;> first
  | (cases rx;rfl)
  | (obtain ⟨t,rfl⟩:=rx;rfl)
theorem aG (b:bg)  (h:op≠.In:=by decide) (h2:op≠.NotIn:=by decide):behindInMarks op b=false:=by
 have e1:(op==CmpOp.In)=false:=by cases op <;> first | rfl | exact absurd rfl h
 have e2:(op==CmpOp.NotIn)=false:=by cases op <;> first | rfl | exact absurd rfl h2
 cases b <;> simp [behindInMarks,e1,e2]
theorem Hi {X:Cx} {a b:bg} {ta tb:TE} {pos:Pos} {op:CmpOp} {r:R2} (ho:rK X (pZ op) r) (ha:PE X a ta) (hb:PE X b tb) (hm:behindInMarks op b=false):PE X (.Compare a [op] [b] pos) (UU r ta tb):=by
 intro pins s σ H Q I h
 exact wpAny_Compare1 (aaM ha hb I h λv u s2 x y H2 I2 rx ry q=>ho pins s2 σ H2 x y v u Q I2 rx ry q) hm
def Ku (t:TE):TT:=λσ H Q=>t σ H λx H'=>∃k,x=.bl k∧Q k H'
theorem Hy {X:Cx} {a b:bg} {ta tb:TE} {pos:Pos} {op:CmpOp} {r:R2} (ho:rK X (pZ op) r) (ha:PE X a ta) (hb:PE X b tb) (hm:behindInMarks op b=false):PT X (.Compare a [op] [b] pos) (Ku (UU r ta tb)):=by
 intro pins s σ H Q I h
 refine wpAny_isTrue_Compare1 (gZ (ha pins s σ H _ I h) λv s1 ⟨x,H1,I1,r1,q1⟩=>gZ (hb pins s1 σ H1 _ I1 q1) λu s2 ⟨y,H2,I2,r2,q2⟩=>
  gZ (ho pins s2 σ H2 x y v u _ I2 r1 r2 q2) λc s3 ⟨z,H3,I3,r3,k,e,q3⟩=>?_) hm
 subst e
 cases r3
 exact KP ⟨H3,I3,q3⟩
def Nz (r r':R2) (ta tb tc:TE):TE:=λσ H Q=>ta σ H λx H1=>tb σ H1 λy H2=>r x y H2 λz H3=>∃k,z=.bl k ∧
 (if k=true then tc σ H3 λw' H4=>r' y w' H4 Q else Q (.bl false) H3)
theorem CN (ho:rK X (pZ op) r) (ho':rK X (pZ op') r') (ha:PE X a ta) (hb:PE X b tb) (hc:PE X c tc)
 (hm:lastMarks [op,op'] [b,c]=false:=by with_unfolding_all rfl):PT X (.Compare a [op,op'] [b,c] pos) (Ku (Nz r r' ta tb tc)):=by
 intro pins s σ H Q I h
 refine isTrue_chain (gZ (ha pins s σ H _ I h) λv s1 ⟨x,H1,I1,r1,q1⟩=>test_link (gZ (hb pins s1 σ H1 _ I1 q1) λu s2 ⟨y,H2,I2,r2,q2⟩=>
  gZ (ho pins s2 σ H2 x y v u _ I2 r1 r2 q2) λd s3 ⟨z,H3,I3,r3,k,e,q3⟩=>?_)) hm
 subst e
 cases r3
 refine KP ?_
 cases k with
 | false=>
   obtain ⟨k',e',q'⟩:=q3
   cases e'
   exact ite_ff ⟨H3,I3,q'⟩
 | true=>
   refine ite_tt (test_last (gZ (hc pins s3 σ H3 _ I3 q3) λw' s4 ⟨z',H4,I4,r4,q4⟩=>gZ (ho' pins s4 σ H4 y z' u w' _ I4 r2 r4 q4) λd' s5 ⟨z2,H5,I5,r5,k2,e2,q5⟩=>?_))
   subst e2
   cases r5
   exact KP ⟨H5,I5,q5⟩
theorem GJ:(sizeLine:Nat)<2 ^ 63:=by rw [sizeLine_eq];decide
theorem vals1 (r:Vals [x] us):∃u,us=[u]∧RelV x u:=by
 cases r with
 | cons r1 r2=>cases r2;exact ⟨_,rfl,r1⟩
theorem vals2 (r:Vals [x,y] us):∃u w',us=[u,w']∧RelV x u∧RelV y w':=by
 cases r with
 | cons r1 r2=>
   cases r2 with
   | cons r3 r4=>cases r4;exact ⟨_,_,rfl,r1,r3⟩
theorem RG:je X (.builtin "abs") (λxs H Q=>∃i,xs=[.int i]∧Q (.int (if i<0 then -i else i)) H):=by
 intro pins s σ H xs us Q I r h
 obtain ⟨i,rfl,q⟩:=h
 obtain ⟨u,rfl,t,rfl⟩:=vals1 r
 exact call_abs_int λu tk=>⟨.int (if i<0 then -i else i),H,I.tok _,⟨_,rfl⟩,q⟩
theorem PC (hc:X.calm=true):je X (.builtin "max") (λxs H Q=>∃i j,xs=[.int i,.int j]∧Q (.int (if j>i then j else i)) H):=by
 intro pins s σ H xs us Q I r h
 obtain ⟨i,j,rfl,q⟩:=h
 obtain ⟨u,w',rfl,⟨t,rfl⟩,⟨t',rfl⟩⟩:=vals2 r
 refine max_two_ints (I.ok.hd hc) λh' tk k=>⟨_,H,I.kept k,?_,q⟩
 by_cases hj:j>i
 ·rw [if_pos hj,if_pos hj];exact ⟨_,rfl⟩
 ·rw [if_neg hj,if_neg hj];exact ⟨_,rfl⟩
theorem PD (hc:X.calm=true):je X (.builtin "min") (λxs H Q=>∃i j,xs=[.int i,.int j]∧Q (.int (if j<i then j else i)) H):=by
 intro pins s σ H xs us Q I r h
 obtain ⟨i,j,rfl,q⟩:=h
 obtain ⟨u,w',rfl,⟨t,rfl⟩,⟨t',rfl⟩⟩:=vals2 r
 refine min_two_ints (I.ok.hd hc) λh' tk k=>⟨_,H,I.kept k,?_,q⟩
 by_cases hj:j<i
 ·rw [if_pos hj,if_pos hj];exact ⟨_,rfl⟩
 ·rw [if_neg hj,if_neg hj];exact ⟨_,rfl⟩
theorem EM:je X (.type "int") (λxs H Q=>(∃i,xs=[.int i]∧Q (.int i) H)∨∃k,xs=[.bl k]∧Q (.int (if k then 1 else 0)) H):=by
 intro pins s σ H xs us Q I r h
 rcases h with ⟨i,rfl,q⟩ | ⟨k,rfl,q⟩
 ·obtain ⟨u,rfl,t,rfl⟩:=vals1 r
  exact call_int_int ⟨.int i,H,I,⟨_,rfl⟩,q⟩
 ·obtain ⟨u,rfl,r1⟩:=vals1 r
  cases r1
  exact call_int_bool ⟨.int (if k then 1 else 0),H,I.tok _,⟨_,rfl⟩,q⟩
end
structure Lo (h:cN) (x dx C:av) (mA:Str→Option aL):Prop where
 obj:h.get? x=some (Aj C dx)
 ns:h.Ns1 dx mA
 ne:dx≠x
theorem Ql {h:cN} (n:h.Ns1 dx mA):∃od,h.get? dx=some od∧∀name,Pe name od=some (mA name):=by
 obtain ⟨o,es,ep,ho,hd,hk,_,hm⟩:=n
 refine ⟨o,ho,λname=>?_⟩
 have e:=hm name
 unfold nsFind findBy at e
 rw [← Array.find?_toList] at e
 unfold Pe
 rw [hd]
 dsimp only
 split
 ·rename_i y q
  rw [q] at e
  exact congrArg some e
 ·rename_i q
  rw [q] at e
  have a:es.toList.any (·.refKey)=false:=by
   rw [List.any_eq_false]
   intro y hy
   obtain ⟨z,t,hkey⟩:=hk y (Array.mem_toList_iff.mp hy)
   simp [DictEntry.refKey,hkey]
  have a':¬es.toList.any (·.refKey)=true:=by rw [a];exact dW
  rw [if_neg a']
  exact congrArg some e
theorem Lo.look (I:Lo h x dx C mA):∃od,PySem.W.InstAt h x (Aj C dx) C (some od)∧∀name,Pe name od=some (mA name):=
 let ⟨od,ho,hl⟩:=Ql I.ns
 ⟨od,⟨I.obj,rfl,rfl,ho⟩,hl⟩
section
theorem get_map {K:b9} (X:K.In s.heap) (I:Lo s.heap x dx C mA) (hg:FG K C name=true) (hh:KQ K C=true)
 (ha:ko K (.ref C) name=some none) (hv:mA name=some v) (hv':ZI v=true) (h:Q v { s with toks:=s.toks+1 }) :
 ck 0#T A (getAttr (.ref x) name expr) Q E s:=by
 obtain ⟨od,J,hl⟩:=I.look
 exact PySem.W.get_value X J (U7 hg).1 (PySem.W.findObj_own hh ha rfl (by rw [hl,hv])) hv' h
theorem Sf {K:b9} (X:K.In s.heap) (I:Lo s.heap x dx C mA) (hg:FG K C name=true)
 (hf:ko K (.ref C) name=some (some (.ref f))) (ht:Am K (.ref f)=true) (hv:mA name=none) (h:Q (.ref f,[.ref x]) s) :
 ck 0#T A (getMethod (.ref x) name pl) Q E s:=by
 obtain ⟨od,J,hl⟩:=I.look
 exact PySem.W.method_fn X J (U7 hg).1 (U7 hg).2 hf (xW.mp ht) (by show (Pe name od).map (·.isSome)=some false;rw [hl,hv];rfl) h
theorem XT {K:b9} (X:K.In s.heap) (I:Lo s.heap x dx C mA)
 (hs:ko K (.ref C) "__setattr__"=some (some (.builtin "object.__setattr__"))) (hp:O1 K C=true) (ht:Vk K C name=some none) (hh:KQ K C=true)
 (hw:Vw mA ns) (hsz:ns.length≤sizeLine)
 (h:∀h',Lo h' x dx C (λy=>if y=name then some v else mA y)→DH dx s.heap h'→Q () { s with heap:=h',toks:=s.toks+2 }) :
 ck 0#T A (setAttr (.ref x) name v) Q E s:=by
 obtain ⟨od,J,hl⟩:=I.look
 refine PySem.W.set_plain X J hs (PySem.W.osa_open (s:={ s with toks:=s.toks+1 }) (r:=none) X J hp ht λb=>?_)
 obtain ⟨cd,hc,hd'⟩:=PySem.W.any_some hh
 have hx:s.heap.get? x=some ⟨.ref C,some dx,.plain,#[]⟩:=I.obj
 refine gJ (ou (gJ (gJ (wpAny_loadPart hx (gJ (afd (s:={ s with toks:=s.toks+1 }) (PySem.W.looks_clsIn X hc) ?_))))))
 rw [hd']
 refine ou (a:=some dx) (gJ (ou (gJ ?_)))
 refine wpAny_nsSet1 (s:={ s with toks:=s.toks+1 }) I.ns λh' hn2 hs2=>?_
 obtain ⟨oD,esD,epD,hoD,hdD,hcD⟩:=hn2.count (afi name v hw)
 refine gJ (wpAny_lookBehind hoD (by rw [hdD];exact pastItsLine_dict (dP hcD (by rw [Ah];simp?))) ?_)
 exact ou (h _ ⟨(hs2.2 _ (jA I.ne)).trans I.obj,hn2,I.ne⟩ hs2)
theorem SR {s:bA} {K:b9} (X:K.In s.heap) (hm:O8 K C=true)
 (hi:ko K (.ref C) "__init__"=some (some (.ref f))) (hf:PySem.W.typeIn K (.ref f)=some (.type "function"))
 (h:Au 0#T (A.under (.builtin "type.__call__" ⟨.ref C::vs,kw⟩)) (.call (.ref f) ⟨.ref 0#N::vs,kw⟩) (PySem.W.InitBack 0#N R)
   { s with heap:=(s.heap.push IJ).push (Aj C s.heap.objs.size) }) :
 Au 0#T A (.call (.ref C) ⟨vs,kw⟩) R s:=by
 obtain ⟨hh,g,d,t,os⟩:=s
 exact PySem.W.make_core (PySem.W.makes_of X hm) (PySem.W.looks_findIn X hi) (λself=>PySem.W.bind_fn X self hf) (.inl rfl) h
end
def aC (f:Str) (v:V):List (Str×V)→List (Str×V)
 | []=>[(f,v)]
 | (g,x)::r=>if g=f then (g,v)::r else (g,x)::aC f v r
theorem af (f g:Str) (v:V):∀fs:List (Str×V),(aC f v fs).lookup g=if g=f then some v else fs.lookup g
 | []=>by
   show DI g [(f,v)]=_
   by_cases h:g=f
   ·have hb:(g==f)=true:=xW.mpr h
    simp only [DI,hb,if_pos h]
   ·have hb:(g==f)=false:=OW.mpr h
    simp only [DI,hb,if_neg h]
 | (k,x)::r=>by
   have ih:=af f g v r
   rw [show aC f v ((k,x)::r)=(if k=f then (k,v)::r else (k,x)::aC f v r) from rfl]
   by_cases hk:k=f
   ·rw [if_pos hk]
    by_cases h:g=k
    ·have hb:(g==k)=true:=xW.mpr h
     simp only [DI,hb,if_pos (h.trans hk)]
    ·have hb:(g==k)=false:=OW.mpr h
     simp only [DI,hb,if_neg (λe:g=f=>h (e.trans hk.symm))]
   ·rw [if_neg hk]
    by_cases h:g=k
    ·have hb:(g==k)=true:=xW.mpr h
     simp only [DI,hb,if_neg (λe:g=f=>hk (h.symm.trans e))]
    ·have hb:(g==k)=false:=OW.mpr h
     simp only [DI,hb]
     exact ih
theorem yw (f:Str) (v:V):∀fs:List (Str×V),f∈(aC f v fs).map (·.1)∧∀g,g∈fs.map (·.1)→g∈(aC f v fs).map (·.1)
 | []=>⟨by simp [aC],λg h=>by simp at h⟩
 | (k,x)::r=>by
   obtain ⟨i1,i2⟩:=yw f v r
   rw [show aC f v ((k,x)::r)=(if k=f then (k,v)::r else (k,x)::aC f v r) from rfl]
   by_cases hk:k=f
   ·rw [if_pos hk]
    subst hk
    exact ⟨by simp,λg h=>by simpa using h⟩
   ·rw [if_neg hk]
    refine ⟨?_,λg h=>?_⟩
    ·rw [DG]
     exact DP _ i1
    ·rw [DG] at h ⊢
     rcases qU.mp h with e | e
     ·exact qU.mpr (.inl e)
     ·exact DP _ (i2 g e)
theorem z6 (f:Str) (v:V):∀fs:List (Str×V),(aC f v fs).length≤fs.length+1
 | []=>by simp [aC]
 | (k,x)::r=>by
   have ih:=z6 f v r
   rw [show aC f v ((k,x)::r)=(if k=f then (k,v)::r else (k,x)::aC f v r) from rfl]
   by_cases hk:k=f
   ·rw [if_pos hk,Ah,Ah];simp?
   ·rw [if_neg hk,Ah,Ah];simp?
theorem DX.some_of (r:DX (some v) o):∃u,o=some u∧RelV v u:=by
 cases o with
 | none=>exact (show False from r).elim
 | some u=>exact ⟨u,rfl,r⟩
theorem DX.none_of (r:DX none o):o=none:=by
 cases o with
 | none=>rfl
 | some u=>exact (show False from r).elim
theorem Qa (r:RelV v u):ZI u=true:=by
 cases v with
 | bM=>cases (show u=Value.none from r);rfl
 | bl b=>cases (show u=Value.bool b from r);rfl
 | int i=>obtain ⟨t,e⟩:=(show ∃t,u=Value.int i t from r);cases e;rfl
 | str x=>obtain ⟨t,e⟩:=(show ∃t,u=Value.str x t from r);cases e;rfl
 | Q9 b=>obtain ⟨t,e⟩:=(show ∃t,u=Value.bytes b t from r);cases e;rfl
 | flt b=>obtain ⟨t,e⟩:=(show ∃t,u=Value.float b t from r);cases e;rfl
 | ref a=>cases (show u=Value.ref a from r);rfl
 | ty n=>cases (show u=Value.type n from r);rfl
section
theorem Bm (hok:ye P w H h) (e:H a=some 0#Y):∃mA,Lo h a dx C mA∧(∀f,DX (fs.lookup f) (mA f))∧Vw mA (fs.map (·.1))∧fs.length≤1000∧H dx=some (.own a):=by
 obtain ⟨d,z,ne,ob,mA,n,r,q⟩:=(show gK P w H h a 0#Y from hok a _ e)
 exact ⟨mA,⟨ob,n,ne⟩,r,q,z,d⟩
end
structure Lf (K:b9) (C:av):Prop where
 pg:FG K C VS=true
 hd:KQ K C=true
 po:O1 K C=true
 sa:ko K (.ref C) "__setattr__"=some (some (.builtin "object.__setattr__"))
theorem Lf.get {K:b9} (c:Lf K C) (f:Str):FG K C f=true:=c.pg
def oU (K:b9) (C:av) (f:Str):Prop:=ko K (.ref C) f=some none
theorem oU.aek {K:b9} (n:oU K C f):Vk K C f=some none:=by
 unfold Vk
 rw [show ko K (.ref C) f=some none from n]
 rfl
structure Meth (K:b9) (C:av) (m:Str) (f:av):Prop where
 at_:ko K (.ref C) m=some (some (.ref f))
 fn:Am K (.ref f)=true
 kp:yd K (.ref f)=true
section
theorem LC {σ:St} (I:Inv X pins σ H s) (e:H a=some 0#Y) (c:Lf X.K C) (n:oU X.K C f) (l:fs.lookup f=some v)
 (h:∀u s',Inv X pins σ H s'→RelV v u→Q u s'):ck 0#n A (getAttr (.ref a) f b) Q E s:=by
 obtain ⟨mA,O,r,_,_,_⟩:=Bm I.hok e
 obtain ⟨u,hu,ru⟩:=DX.some_of (v:=v) (o:=mA f) (by rw [← l];exact r f)
 exact get_map I.AK O (c.get f) c.hd n hu (Qa ru) (h u _ (I.tok _) ru)
theorem B3 {σ:St} (I:Inv X pins σ H s) (e:H a=some 0#Y) (c:Lf X.K C) (k:Meth X.K C m g) (l:fs.lookup m=none)
 (h:Q (.ref g,[.ref a]) s):ck 0#n A (getMethod (.ref a) m pl) Q E s:=by
 obtain ⟨mA,O,r,_,_,_⟩:=Bm I.hok e
 have hn:mA m=none:=DX.none_of (by rw [← l];exact r m)
 exact Sf I.AK O (c.get m) k.at_ k.fn hn h
theorem Ni {σ:St} (I:Inv X pins σ H s) (e:H a=some 0#Y) (c:Lf X.K C) (n:oU X.K C f) (hl:fs.length<1000) (ry:RelV y u)
 (h:∀s',Inv X pins σ (upd H a (.ins C dx (aC f y fs))) s'→Q () s'):ck 0#n A (setAttr (.ref a) f u) Q E s:=by
 obtain ⟨mA,O,r,wi,_,ho⟩:=Bm I.hok e
 have hz:(fs.map (·.1)).length≤sizeLine:=by rw [gV,sizeLine_eq];simp?
 refine XT I.AK O c.sa c.po n.aek c.hd wi hz λh' O' sb=>h _ ?_
 have hd:∃o,h'.get? dx=some o:=let ⟨o,_,_,e',_⟩:=O'.ns;⟨o,e'⟩
 refine I.write (x:=a) (e:=dx) (by rw [e];exact True.intro) (.inr ho) (λb q hb z=>(sb.2 b hb).trans z) hd ?_
 refine ⟨by rw [aM O.ne];exact ho,?_,O.ne,O'.obj,_,O'.ns,λg=>?_,λg hg=>?_⟩
 ·have:=z6 f y fs;simp?
 ·show DX ((aC f y fs).lookup g) (if g=f then some u else mA g)
  rw [af]
  by_cases q:g=f
  ·rw [if_pos q,if_pos q];exact ry
  ·rw [if_neg q,if_neg q];exact r g
 ·by_cases q:g=f
  ·rw [q];exact (yw f y fs).1
  ·refine (yw f y fs).2 g (wi g λz=>hg ?_)
   show (if g=f then some u else mA g)=none
   rw [if_neg q];exact z
theorem Inv.made {σ:St} (I:Inv X pins σ H s):Inv X pins σ (upd (upd H s.heap.objs.size (.own 0#N)) 0#N (.ins C s.heap.objs.size []))
 { s with heap:=(s.heap.push IJ).push (Aj C s.heap.objs.size) }:=by
 have e1:(s.heap.push IJ).get? s.heap.objs.size=some IJ:=EB s.heap rfl
 have e2:((s.heap.push IJ).push (Aj C s.heap.objs.size)).get? 0#N=some (Aj C s.heap.objs.size):=by
  have:=EB (s.heap.push IJ) (o:=Aj C s.heap.objs.size) rfl
  rwa [ZX] at this
 have e3:(s.heap.push IJ).Ns s.heap.objs.size (λ_=>none):=⟨IJ,#[],_,e1,rfl,(λe he=>absurd he 0#f),λ_=>rfl⟩
 have I1:=I.laid (a:=s.heap.objs.size) (o:=.own 0#N) (h':=s.heap.push IJ) (t':=s.toks) (λb u q=>pA _ q) (dG _) ⟨_,e1⟩
 refine I1.laid (a:=s.heap.objs.size+1) (o:=.ins C s.heap.objs.size []) (t':=s.toks) (λb u q=>pA _ q) (aam (ZX _ _)) ?_
 have ne:s.heap.objs.size≠s.heap.objs.size+1:=lO (ZJ _)
 refine ⟨by rw [aM ne,aB],mD _,ne,e2,λ_=>none,(Heap.Ns1.of_empty e3).at λo q=>pA _ q,λ_=>True.intro,λy hy=>absurd rfl hy⟩
theorem Wi (hb:vZ e f env (eval e env)=eval e env)
 (h:ck 0#T A (eval e env) (λo s₁=>ck 0#T A (getAttr o f true) Q E s₁) E s):ck 0#T A (eval (.Attribute e f pos) env) Q E s:=
 Attribute_any_ h (by rw [arm_eval_Attribute,hb])
end
def aco (K:b9) (ta:TE) (f:Str):TE:=λσ H Q=>ta σ H λx H1=>∃a C dx fs v,x=.ref a∧H1 a=some 0#Y∧Lf K C∧oU K C f∧fs.lookup f=some v∧Q v H1
def acg (K:b9) (ta tv:TE) (f:Str):TS:=λD σ H=>tv σ H λy H1=>ta σ H1 λx H2=>∃a C dx fs,x=.ref a∧H2 a=some 0#Y∧Lf K C∧oU K C f∧fs.length<1000 ∧
 D.nx σ (upd H2 a (.ins C dx (aC f y fs)))
section
theorem MK {X:Cx} {e:bg} {f:Str} {pos:Pos} {ta:TE} (he:PE X e ta) (hb:vZ e f X.env (eval e X.env)=eval e X.env):PE X (.Attribute e f pos) (aco X.K ta f):=by
 intro pins s σ H Q I h
 refine Wi hb (gZ (he pins s σ H _ I h) λu s1 ⟨x,H1,I1,rx,a,C,dx,fs,v,ex,ea,c,n,l,q⟩=>?_)
 subst ex
 obtain rfl:u=Value.ref a:=rx
 exact LC I1 ea c n l λu' s2 I2 ru=>⟨v,H1,I2,ru,q⟩
theorem MU {X:Cx} {o value:bg} {f:Str} {pos pos':Pos} {ta tv:TE} (ha:PE X o ta) (hv:PE X value tv) (hs:lR value (some (.Attribute o f pos')) pos.line X.env=pure false):PS X (.Assign [.Attribute o f pos'] value pos) (acg X.K ta tv f):=by
 intro pins s σ H D I h
 refine plainObj_wpAny_Assign_Attribute (gZ (hv pins s σ H _ I h) λu s1 ⟨y,H1,I1,ry,q⟩=>gZ (ha pins s1 σ H1 _ I1 q) λov s2 ⟨x,H2,I2,rx,a,C,dx,fs,ex,ea,c,n,l,q2⟩=>?_) hs
 subst ex
 obtain rfl:ov=Value.ref a:=rx
 exact Ni I2 ea c n l ry λs3 I3=>⟨σ,_,I3,q2⟩
inductive wu (K:b9) (H:Hp):V→aL→Prop where
 | bM:wu K H .bM (.type "NoneType")
 | bl (x:Bool):wu K H (.bl x) (.type "bool")
 | int (i:Int):wu K H (.int i) (.type "int")
 | str (x:Str):wu K H (.str x) (.type "str")
 | flt (x:UInt64):wu K H (.flt x) (.type "float")
 | lst {a:av} {xs:List V} (e:H a=some (.lst xs)):wu K H (.ref a) (.type "list")
 | N7 {a:av} {o:Obj} {xs:List V} (e:H a=some (.N7 o (.lst xs))):wu K H (.ref a) (.type "list")
 | tup {a:av} {xs:List V} (e:H a=some (.tup xs)):wu K H (.ref a) (.type "tuple")
 | dK {a:av} {kvs:List (Key×V)} (e:H a=some (.dK kvs)):wu K H (.ref a) (.type "dict")
 | dT {a:av} {kvs:List (List Key×V)} (e:H a=some (.dT kvs)):wu K H (.ref a) (.type "dict")
 | ins {a C dx:av} {fs:List (Str×V)} (e:H a=some (.ins C dx fs)) (cl:Lf K C) (ha:ko K (.ref C) "__class__"=some (some (.builtin "object.__class__")))
  (hn:PySem.W.specialIn K (.builtin "object.__class__") "__get__"=some (some (.builtin "getset_descriptor.__get__"))) (htk:PySem.W.takesIn K (.builtin "object.__class__")=some true)
  (hm:PySem.W.mroIn K C (.type "object")=some true):wu K H (.ref a) (.ref C)
theorem Qi {σ:St} (I:Inv X pins σ H s) (rx:RelV x u) (ty:wu X.K H x t) (e:FJ X.K t c=some b) (h:∀tk,Q (.bool b) { s with toks:=tk }) :
 ck 0#n A (call (.builtin "isinstance") [u,c]) Q E s:=by
 cases ty with
 | bM=>cases (show u=Value.none from rx);exact DT PySem.W.kitx_none I.AK True.intro e (λz=>nomatch z) h
 | bl y=>cases (show u=Value.bool y from rx);exact DT PySem.W.kitx_bool I.AK True.intro e (λz=>nomatch z) h
 | int i=>obtain ⟨t,q⟩:=(show ∃t,u=Value.int i t from rx);cases q;exact DT PySem.W.kitx_int I.AK True.intro e (λz=>nomatch z) h
 | str y=>obtain ⟨t,q⟩:=(show ∃t,u=Value.str y t from rx);cases q;exact DT PySem.W.kitx_str I.AK True.intro e (λz=>nomatch z) h
 | flt y=>obtain ⟨t,q⟩:=(show ∃t,u=Value.float y t from rx);cases q;exact DT PySem.W.kitx_float I.AK True.intro e (λz=>nomatch z) h
 | @lst a xs ea=>
   cases (show u=Value.ref a from rx)
   obtain ⟨_,_,n,_,h1⟩:=(show gK X.prog X.w H s.heap a (.lst xs) from I.hok a _ ea)
   exact DT Zx I.AK ⟨_,h1,rfl⟩ e (λz=>nomatch z) h
 | @N7 a ob xs ea=>
   cases (show u=Value.ref a from rx)
   obtain ⟨_,_,_,n,_,h1⟩:=(show gK X.prog X.w H s.heap a (.N7 ob (.lst xs)) from I.hok a _ ea)
   exact DT Zx I.AK ⟨_,h1,rfl⟩ e (λz=>nomatch z) h
 | @tup a xs ea=>
   cases (show u=Value.ref a from rx)
   obtain ⟨_,_,_,p⟩:=(show gK X.prog X.w H s.heap a 0#q from I.hok a _ ea)
   obtain ⟨o,h1,h2,_⟩:=p
   exact DT PySem.W.kitx_tuple I.AK ⟨o,h1,h2⟩ e (λz=>nomatch z) h
 | @dK a kvs ea=>
   cases (show u=Value.ref a from rx)
   obtain ⟨_,_,vs,_,p⟩:=(show gK X.prog X.w H s.heap a (.dK kvs) from I.hok a _ ea)
   obtain ⟨o,es,ep,h1,h2,_⟩:=p
   exact DT Zy I.AK ⟨o,h1,h2.1⟩ e (λz=>nomatch z) h
 | @dT a kvs ea=>
   cases (show u=Value.ref a from rx)
   obtain ⟨_,_,xs,_,o,es,ep,h1,h2,_⟩:=(show gK X.prog X.w H s.heap a (.dT kvs) from I.hok a _ ea)
   exact DT Zy I.AK ⟨o,h1,h2.1⟩ e (λz=>nomatch z) h
 | @ins a C dx fs ea cl ha hn htk hm=>
   cases (show u=Value.ref a from rx)
   obtain ⟨mA,O,_⟩:=Bm I.hok ea
   obtain ⟨od,J,_⟩:=O.look
   exact DT (PySem.W.kitx_own (cl.get _) cl.hd ha hn htk hm) I.AK J e (λz=>nomatch z) h
end
structure iR (k:Nat) (A:oN):Prop where
 hd:A.handled=none
 dp:A.depth+3*k+5<recursionLimit
 un:A.units+16*k+200<cLine
theorem iR.mono (r:iR k A) (h:j≤k):iR j A:=⟨r.hd,by have:=r.dp;simp?,by have:=r.un;simp?⟩
theorem iR.deeper (r:iR (k+1) A) (env:Env):iR k (A.deeper env):=
 ⟨r.hd,by have:=r.dp;show A.depth+1+3*k+5<_;simp?,by have:=r.un;show A.units+3+16*k+200<_;simp?⟩
theorem Me {A:oN}:(A.under (.builtin "type.__call__" ⟨.ref C::us,kw⟩)).depth=A.depth+1:=by
 first | rfl | simp [Vy,Code.weight,Code.isCreation,Code.isGuard,Code.isCaller,aaw,Vz,guardIds]
theorem Mf {A:oN}:(A.under (.builtin "type.__call__" ⟨.ref C::us,kw⟩)).units=A.units+1:=by
 first | rfl | simp [Vy,Code.cUnits,aaw,Vz]
theorem iR.make (r:iR (k+1) A) (C:av) (us:List aL) (kw:List (Str×aL)):iR k (A.under (.builtin "type.__call__" ⟨.ref C::us,kw⟩)):=
 ⟨r.hd,by have:=r.dp;rw [Me];simp?,by have:=r.un;rw [Mf];simp?⟩
theorem iR.depth (r:iR k A):A.depth<recursionLimit:=by have:=r.dp;simp?
theorem iR.units (r:iR k A):A.units+64<cLine:=by have:=r.un;simp?
def qP:TA:=λ_ H Q=>Q [] H
def gE (ta:TE) (tr:TA):TA:=λσ H Q=>ta σ H λx H1=>tr σ H1 λxs H2=>Q (x::xs) H2
section
theorem vD {X:Cx}:PA X [] qP:=λ_ _ _ _ H Q I h=>Calls.spliced_nil ⟨[],H,I,.nil,h⟩
theorem ku {X:Cx} {e:bg} {es:List bg} {te:TE} {t:TA} (ha:PE X e te) (hr:PA X es t) (hs:bD (e::es) X.env=0#G::bD es X.env:=by rfl):PA X (e::es) (gE te t):=by
 intro pos pins s σ H Q I h
 rw [hs]
 show ck _ _ (spliced (0#G::iA pos (bD es X.env))) _ _ s
 refine Calls.spliced_cons (gZ (ha pins s σ H _ I h) λu s1 ⟨x,H1,I1,r1,q1⟩=>?_)
 exact gZ (hr pos pins s1 σ H1 _ I1 q1) λus s2 ⟨xs,H2,I2,r2,q2⟩=>⟨x::xs,H2,I2,.cons r1 r2,q2⟩
def acw (t:TA):TE:=λσ H Q=>t σ H λxs H1=>xs.length≤sizeLine∧∀p,H1 p=none→Q 1#a (upd H1 p 0#q)
def acr (t:TA):TE:=λσ H Q=>t σ H λxs H1=>xs.length≤sizeLine∧∀p,H1 p=none→Q 1#a (upd H1 p (.lst xs))
theorem MP {X:Cx} {es:List bg} {t:TA} {pos:Pos} {x1} (h:PA X es t):PE X (.Tuple es x1 pos) (acw t):=by
 intro pins s σ H Q I hq
 refine wpAny_Tuple_spliced (gZ (h pos pins s σ H _ I hq) λus s1 ⟨xs,H1,I1,r,z,q⟩=>⟨by rw [← r.length];exact z,?_⟩)
 have hf:H1 s1.heap.objs.size=none:=I1.hok.fresh (dG _)
 refine ⟨.ref s1.heap.objs.size,upd H1 s1.heap.objs.size 0#q,I1.laid (t':=s1.toks) (λb u e=>pA _ e) (dG _) ?_,rfl,q _ hf⟩
 exact ⟨z,us,r,⟨_,EB _ rfl,rfl,_,rfl⟩⟩
theorem ML {X:Cx} {es:List bg} {t:TA} {pos:Pos} (h:PA X es t):PE X (.List es pos) (acr t):=by
 intro pins s σ H Q I hq
 refine wpAny_List_spliced (gZ (h pos pins s σ H _ I hq) λus s1 ⟨xs,H1,I1,r,z,q⟩=>⟨by rw [← r.length];exact z,?_⟩)
 have hf:H1 s1.heap.objs.size=none:=I1.hok.fresh (dG _)
 refine ⟨.ref s1.heap.objs.size,upd H1 s1.heap.objs.size (.lst xs),I1.laid (t':=s1.toks) (λb u e=>pA _ e) (dG _) ?_,rfl,q _ hf⟩
 exact ⟨z,us,0,r,EB _ rfl⟩
end
abbrev Sp:=List V→Hp→VK→XK→Prop
abbrev Wa:=List Env→Hp→bA→XK→aL→bA→Prop
structure Lj (P:jv) (w:eV) (K:b9) (mg:Str→Option aL) (base:cN) (A:oN) (outer:List Env) (s:bA) (H:Hp):Prop where
 frames:A.frames=some outer
 mod:Mod K mg base
 bs:∀b o,base.get? b=some o→s.heap.get? b=some o∧H b=none
 Yj:base.objs.size≤s.heap.objs.size
 Ay:s.heap.FunFrames base outer
 frf:∀b∈frs outer,H b=none
 hok:ye P w H s.heap
 bare:xY s.gens
def CE (outer:List Env) (P:jv) (w:eV) (H:Hp) (s:bA) (Q:VK) (u:aL) (s':bA):Prop:=
 ∃v H',s'.os=s.os∧xY s'.gens∧Un (frs outer) [] H H' s.heap s'.heap∧ye P w H' s'.heap∧RelV v u∧Q v H'
def CR (CX:Wa) (outer:List Env) (P:jv) (w:eV) (H:Hp) (s:bA) (Q:VK) (E:XK) (r:Result) (s':bA):Prop:=
 match r with
 | .ok (.ret u)=>CE outer P w H s Q u s'
 | .ok _=>False
 | .error e=>CX outer H s E e s'
structure bf (P:jv) (w:eV) (K:b9) (mg:Str→Option aL) (base:cN) (CX:Wa) (k:Nat) (f:av) (fd:jP) (ps:List Str) (sp:Sp):Prop where
 len:∀vs H Q E,sp vs H Q E→vs.length=ps.length
 run:∀(A:oN) (outer:List Env) (s:bA) (H:Hp) (args:Args) (us:List aL) (vs:List V) (Q:VK) (E:XK),iR k A→Lj P w K mg base A outer s H→BindsTo s fd args (ps.zip us)→Vals vs us→sp vs H Q E →
  Au (model P w) A (.call (.ref f) args) (CR CX outer P w H s Q E) s
theorem Lj.make {K:b9} (e:Lj P w K mg base A outer s H) (C:av) (us:List aL) (kw:List (Str×aL)) :
 Lj P w K mg base (A.under (.builtin "type.__call__" ⟨.ref C::us,kw⟩)) outer s H:=⟨by first | exact e.frames | (simpa [Vy,Code.envs,Vz,pushEnvs] using e.frames),e.mod,e.bs,e.Yj,e.Ay,e.frf,e.hok,e.bare⟩
section
theorem Inv.acV {σ:St} (I:Inv X pins σ H s):Lj X.prog X.w X.K X.mg X.base X.A X.stack s H:=
 ⟨I.ok.frames,I.ok.mod,I.bs,dP I.ok.Yj I.sz,I.stack,I.OG,I.hok,I.bare⟩
theorem Inv.after {σ:St} (I:Inv X pins σ H s) (h:CE X.stack X.prog X.w H s Q u s'):EP X pins σ Q u s':=by
 obtain ⟨v,H',os,bare,un,hok,r,q⟩:=h
 obtain ⟨hh,g,d,t,os'⟩:=s'
 obtain rfl:os'=s.os:=os
 exact ⟨v,H',I.call (h':=hh) (g':=g) (d':=d) (t':=t) (ch:=[]) un hok bare (λb z=>absurd z 0#f),r,q⟩
end
def Dt (sp:Sp) (DU:List V) (E:XK) (t:TA):TE:=λσ H Q=>t σ H λvs H1=>sp (vs++DU) H1 Q E
def Ks (C:av) (m:Str) (sp:Sp) (DU:List V) (E:XK) (ta:TE) (t:TA):TE:=λσ H Q=>ta σ H λx H1=>∃a dx fs,x=.ref a∧H1 a=some 0#Y∧fs.lookup m=none ∧
 t σ H1 λvs H2=>sp (x::(vs++DU)) H2 Q E
def UR (C:av) (sp:Sp) (DU:List V) (E:XK) (t:TA):TE:=λσ H Q=>t σ H λvs H1=>∀x dx,H1 x=none→H1 dx=none→dx≠x →
 sp (.ref x::(vs++DU)) (upd (upd H1 dx (.own x)) x (.ins C dx [])) (λv H2=>v=.bM∧Q (.ref x) H2) E
def Binds (K:b9) (fd:jP) (ps:List Str) (ds:List aL):Prop:=
 ∀(s:bA) (us:List aL),K.In s.heap→(us++ds).length=ps.length→BindsTo s fd ⟨us,[]⟩ (ps.zip (us++ds))
theorem Binds.all {K:b9} (h:∀us:List aL,us.length=ps.length→Aq fd ⟨us,[]⟩=pure (ps.zip us)):Binds K fd ps []:=λs us _ hl=>by
 rw [vX] at hl ⊢
 exact .of_eq (h us hl)
def Passes (CX:Wa) (X:Cx) (E:XK):Prop:=∀(pins:List (av×Obj)) (σ:St) (H:Hp) (s:bA) (e:aL) (s':bA),Inv X pins σ H s→CX X.stack H s E e s'→X.xe e s'
section
theorem M3 {σ:St} (F:bf X.prog X.w X.K X.mg X.base CX k f fd ps sp) (hr:iR k X.A) (hb:Binds X.K fd ps ds) (hd:Vals DU ds) (hx:Passes CX X E)
 (I:Inv X pins σ H s) (r:Vals vs us) (h:sp (vs++DU) H Q E):ck 0#n X.A (call (.ref f) us) (EP X pins σ Q) X.xe s:=by
 have r2:Vals (vs++DU) (us++ds):=r.append hd
 have hl:(us++ds).length=ps.length:=by rw [← r2.length];exact F.len _ _ _ _ h
 refine wpAny_call (Ph (F.run X.A X.stack s H ⟨us,[]⟩ (us++ds) (vs++DU) Q E hr I.acV (hb s us I.AK hl) r2 h) λr s' hq=>?_)
 cases r with
 | error e=>exact hx pins σ H s e s' I hq
 | ok fl=>
   cases fl with
   | ret u=>exact I.after hq
   | next=>exact pX hq
   | brk=>exact pX hq
   | cont=>exact pX hq
theorem Xu (F:bf X.prog X.w X.K X.mg X.base CX k f fd ps sp) (hr:iR k X.A) (hg:Gl X x) (hm:X.mg x=some (.ref f)) (hk:yd X.K (.ref f)=true) (hb:Binds X.K fd ps ds) (hd:Vals DU ds) (hx:Passes CX X E)
 (ha:PA X (e::es) t) (hdb:0#B=false:=by decide) (he:bD (e::es) X.env=0#G::bD es X.env:=by rfl) (hpl:(iA pos (bD es X.env)).any (·.1)=false:=by rfl) :
 PE X (.Call (.Name x p) (e::es) [] pos) (Dt sp DU E t):=by
 intro pins s σ H Q I h
 refine OZ (GI I hg hm ?_ hdb)
 refine Va (h₀:=X.base) I.ok.mod.kin hk (gZ (ha pos pins s σ H _ I h) λus s1 ⟨vs,H1,I1,r,q⟩=>⟨I1.AK,?_⟩) he hpl
 exact M3 F hr hb hd hx I1 r q
theorem Xx {X:Cx} {CX:Wa} {k:Nat} {f C:av} {fd:jP} {ps:List Str} {sp:Sp} {DU:List V} {ds:List aL} {E:XK} {m:Str} {pos apos:Pos} {e o:bg} {es:List bg} {ta:TE} {t:TA} {pl:Sem Bool} (he:PE X o ta) (c:Lf X.K C) (hm:Meth X.K C m f) (F:bf X.prog X.w X.K X.mg X.base CX k f fd ps sp) (hr:iR k X.A) (hb:Binds X.K fd ps ds) (hd:Vals DU ds) (hx:Passes CX X E) (ha:PA X (e::es) t)
 (hst:bD (e::es) X.env=0#G::bD es X.env:=by rfl) (hpl:(iA pos (bD es X.env)).any (·.1)=false:=by rfl)
 (ht:eval (.Call (.Attribute o m apos) (e::es) [] pos) X.env=(do
   let ov ← eval o X.env
   As apos.atName
   let (f,first) ← holding [ov] (getMethod ov m pl)
   callWith pos f first (iA pos (bD (e::es) X.env)) (tW pos (tU [] X.env))):=by rfl) :
 PE X (.Call (.Attribute o m apos) (e::es) [] pos) (Ks C m sp DU E ta t):=by
 intro pins s σ H Q I h
 refine Y8 (pl:=pl) (gZ (he pins s σ H _ I h) λu s1 ⟨x,H1,I1,rx,a,dx,fs,ex,ea,l,q⟩=>?_) ht
 subst ex
 obtain rfl:u=Value.ref a:=rx
 refine B3 I1 ea c hm l ?_
 refine Va (first:=[.ref a]) (h₀:=X.base) I.ok.mod.kin hm.kp (gZ (ha pos pins s1 σ H1 _ I1 q) λus s2 ⟨vs,H2,I2,r,q2⟩=>⟨I2.AK,?_⟩) hst hpl
 exact M3 (us:=.ref a::us) (vs:=.ref a::vs) F hr hb hd hx I2 (.cons rfl r) q2
theorem TV {X:Cx} {CX:Wa} {k:Nat} {f C:av} {fd:jP} {ps:List Str} {sp:Sp} {DU:List V} {ds:List aL} {E:XK} {m:Str} {pos apos:Pos} {o:bg} {ta:TE} {pl:Sem Bool} (he:PE X o ta) (c:Lf X.K C) (hm:Meth X.K C m f) (F:bf X.prog X.w X.K X.mg X.base CX k f fd ps sp) (hr:iR k X.A) (hb:Binds X.K fd ps ds) (hd:Vals DU ds) (hx:Passes CX X E)
 (ht:eval (.Call (.Attribute o m apos) [] [] pos) X.env=(do
   let ov ← eval o X.env
   As apos.atName
   let (f,first) ← holding [ov] (getMethod ov m pl)
   callWith pos f first (iA pos (bD [] X.env)) (tW pos (tU [] X.env))):=by rfl) :
 PE X (.Call (.Attribute o m apos) [] [] pos) (Ks C m sp DU E ta qP):=by
 intro pins s σ H Q I h
 refine Y8 (pl:=pl) (gZ (he pins s σ H _ I h) λu s1 ⟨x,H1,I1,rx,a,dx,fs,ex,ea,l,q⟩=>?_) ht
 subst ex
 obtain rfl:u=Value.ref a:=rx
 refine B3 I1 ea c hm l ?_
 exact PySem.W.callWith_K0 (first:=[.ref a]) I1.AK hm.kp (M3 (us:=[.ref a]) (vs:=[.ref a]) F hr hb hd hx I1 (.cons rfl .nil) q)
structure Mk (K:b9) (C f:av):Prop where
 makes:O8 K C=true
 init:ko K (.ref C) "__init__"=some (some (.ref f))
 fn:Am K (.ref f)=true
 kp:yd K (.ref C)=true
theorem Ug {σ:St} (M:Mk X.K C f) (F:bf X.prog X.w X.K X.mg X.base CX k f fd ps sp) (hr:iR (k+1) X.A) (hb:Binds X.K fd ps ds) (hd:Vals DU ds)
 (hx:Passes CX X E) (I:Inv X pins σ H s) (r:Vals vs us)
 (h:∀x dx,H x=none→H dx=none→dx≠x→sp (.ref x::(vs++DU)) (upd (upd H dx (.own x)) x (.ins C dx [])) (λv H2=>v=.bM∧Q (.ref x) H2) E) :
 ck 0#n X.A (call (.ref C) us) (EP X pins σ Q) X.xe s:=by
 have hq:=h 0#N s.heap.objs.size (I.hok.fresh (tV _)) (I.hok.fresh (dG _)) (lO (ZJ _))
 have I2:=Inv.made (C:=C) I
 have r2:Vals (V.ref 0#N::(vs++DU)) (Value.ref 0#N::(us++ds)):=.cons rfl (r.append hd)
 have hl:(Value.ref 0#N::us++ds).length=ps.length:=by
  have e:=r2.length
  rw [F.len _ _ _ _ hq] at e
  exact e.symm
 refine wpAny_call (SR (f:=f) I.AK M.makes M.init (xW.mp M.fn) (Ph (F.run _ X.stack _ _ ⟨Value.ref 0#N::us,[]⟩ (Value.ref 0#N::(us++ds)) _ _ E (hr.make C us [])
  (I2.acV.make C us []) (hb _ (Value.ref 0#N::us) I2.AK hl) r2 hq) λr s' hq'=>?_))
 cases r with
 | error e=>exact hx pins σ _ _ e s' I2 hq'
 | ok fl=>
   cases fl with
   | ret u=>
     obtain ⟨v,H',I3,rv,ev,q3⟩:=I2.after hq'
     subst ev
     exact ⟨rv,⟨V.ref 0#N,H',I3,rfl,q3⟩⟩
   | next=>exact pX hq'
   | brk=>exact pX hq'
   | cont=>exact pX hq'
theorem Xw (M:Mk X.K C f) (F:bf X.prog X.w X.K X.mg X.base CX k f fd ps sp) (hr:iR (k+1) X.A) (hg:Gl X x) (hm:X.mg x=some (.ref C)) (hb:Binds X.K fd ps ds) (hd:Vals DU ds) (hx:Passes CX X E)
 (ha:PA X (e::es) t) (hdb:0#B=false:=by decide) (he:bD (e::es) X.env=0#G::bD es X.env:=by rfl) (hpl:(iA pos (bD es X.env)).any (·.1)=false:=by rfl) :
 PE X (.Call (.Name x p) (e::es) [] pos) (UR C sp DU E t):=by
 intro pins s σ H Q I h
 refine OZ (GI I hg hm ?_ hdb)
 refine Va (h₀:=X.base) I.ok.mod.kin M.kp (gZ (ha pos pins s σ H _ I h) λus s1 ⟨vs,H1,I1,r,q⟩=>⟨I1.AK,?_⟩) he hpl
 exact Ug M F hr hb hd hx I1 r q
end
structure aE (N P:List Str) (sc:pY):Prop where
 kind:sc.kind=.function
 co:sc.isCoroutine=false
 gen:sc.isGenerator=false
 nd:N.Nodup
 pre:N.take P.length=P
 par:∀x∈P,sc.names.lookup x=some .local∨sc.names.lookup x=some .cell
 abG:∀y∈sc.names,y.2≠.free
theorem EL {kindOf:Str→Option xX}:∀{binds:List (Str×aL)} {m:Str→Option aL},(∀v,(x,v)∉binds)→Av kindOf binds m x=m x
 | [],_,_=>rfl
 | (n,v)::r,m,h=>by
   unfold Av
   rw [EL λw hw=>h w (DP _ hw)]
   split
   ·have:x≠n:=by rintro rfl;exact h v Ae
    simp [this]
   ·rfl
theorem EJ {kindOf:Str→Option xX}:∀{binds:List (Str×aL)} {m:Str→Option aL},(∀v,(x,v)∉binds)→Aw kindOf binds m x=m x
 | [],_,_=>rfl
 | (n,v)::r,m,h=>by
   unfold Aw
   rw [EJ λw hw=>h w (DP _ hw)]
   split
   ·rfl
   ·have:x≠n:=by rintro rfl;exact h v Ae
    simp [this]
theorem EK {kindOf:Str→Option xX}:∀{P:List Str} {vs:List aL} {i:Nat} {m:Str→Option aL},P.Nodup→P[i]?=some x→vs[i]?=some v→kindOf x=some .local →
 Av kindOf (P.zip vs) m x=some v
 | [],_,_,_,_,h,_,_=>by simp at h
 | _::_,[],_,_,_,_,h,_=>by simp at h
 | p::P,w::vs,0,m,nd,h1,h2,hk=>by
   simp at h1 h2;subst h1;subst h2
   show Av kindOf ((p,w)::P.zip vs) m p=_
   unfold Av
   rw [EL λv hv=>(O9.mp nd).1 (Vl hv).1,if_pos hk]
   simp
 | p::P,w::vs,i+1,m,nd,h1,h2,hk=>by
   show Av kindOf ((p,w)::P.zip vs) m x=_
   unfold Av
   exact EK (i:=i) (O9.mp nd).2 (by simpa using h1) (by simpa using h2) hk
theorem EI {kindOf:Str→Option xX}:∀{P:List Str} {vs:List aL} {i:Nat} {m:Str→Option aL},P.Nodup→P[i]?=some x→vs[i]?=some v→kindOf x≠some .local →
 Aw kindOf (P.zip vs) m x=some v
 | [],_,_,_,_,h,_,_=>by simp at h
 | _::_,[],_,_,_,_,h,_=>by simp at h
 | p::P,w::vs,0,m,nd,h1,h2,hk=>by
   simp at h1 h2;subst h1;subst h2
   show Aw kindOf ((p,w)::P.zip vs) m p=_
   unfold Aw
   rw [EJ λv hv=>(O9.mp nd).1 (Vl hv).1,if_neg hk]
   simp
 | p::P,w::vs,i+1,m,nd,h1,h2,hk=>by
   show Aw kindOf ((p,w)::P.zip vs) m x=_
   unfold Aw
   exact EI (i:=i) (O9.mp nd).2 (by simpa using h1) (by simpa using h2) hk
def start (N:List Str) (vs:List V):St:=vs.map some++kT (N.length-vs.length) none
def PF (CX:Wa) (P:jv) (w:eV) (K:b9) (mg:Str→Option aL) (base:cN) (N:List Str) (qual:Str) (scope:pY) (f:av) (cd:aL) (A:oN) (outer:List Env) (s:bA) (H:Hp) (E:XK):Cx where
 prog:=P
 w:=w
 K:=K
 mg:=mg
 base:=base
 A:=A.deeper (xZ qual scope s.heap.objs.size f cd)
 N:=N
 s₀:=s
 H₀:=H
 env:=xZ qual scope s.heap.objs.size f cd
 outer:=outer
 stack:=xZ qual scope s.heap.objs.size f cd::outer
 ex:=[]
 calm:=true
 fn:=λ_=>true
 pn:=[]
 xe:=λe s'=>ck (model P w) (A.deeper (xZ qual scope s.heap.objs.size f cd)) (leaving (xZ qual scope s.heap.objs.size f cd) e) (λ_ s''=>CX outer H s E e s'') (λe' s''=>CX outer H s E e' s'') s'
theorem IX {sc:pY} (h:sc.names.lookup x=some .cell):∃c,(cellsFrom n sc.names []).lookup x=some c:=by
 have q:=YY sc.names n [] (.inl h)
 exact OL.mp q
theorem Qh {K:b9}
 (S:aE N ps scope) (hd:A.handled=none) (e0:Lj P w K mg base A outer s H) (hl:vs.length=ps.length) (r:Vals vs us)
 (x:InCallC s s.heap.objs.size (Av (xZ qual scope s.heap.objs.size f cd).kindOf (ps.zip us) λ_=>none) (cellsFrom 0#N scope.names []) (Aw (xZ qual scope s.heap.objs.size f cd).kindOf (ps.zip us) λ_=>none) s1) :
 Inv (PF CX P w K mg base N qual scope f cd A outer s H E) [] (start N vs) H s1:=by
 have hpl:ps.length≤N.length:=by have:=congrArg tY S.pre;rw [uL] at this;simp?
 obtain ⟨h1,tk,rfl,hk⟩:=x.done
 have noA:∀b:av,b∉(PF CX P w K mg base N qual scope f cd A outer s H E).ex:=λb z=>absurd (show b∈([]:List av) from z) 0#f
 refine ⟨⟨e0.mod,S.kind,rfl,rfl,dG _,λy z c h1 h2=>?_,λy hy=>?_,λy c _ h=>?_,λ_=>hd,Around.frames_deeper e0.frames,.inr ⟨rfl,rfl⟩,λb z=>absurd z (noA b),e0.bs,e0.Yj,λb _ _=>noA b,λb z=>absurd z (noA b),e0.Ay,e0.frf⟩,
  rfl,e0.bare,Un.kept hk,⟨_,x.toInCall.ns,λi y v h1 h2 h3=>?_⟩,λy c h=>⟨_,x.cell y c h⟩,e0.hok.fresh (dG _),λy c h=>?_,λp hp=>absurd (show p∈([]:List (av×Obj)) from hp) 0#f,e0.hok.kept hk,?_⟩
 ·exact name_of_addr x.apart (KN h1) (KN h2)
 ·have hy:scope.names.lookup y=some .cell∨scope.names.lookup y=some .free:=hy
  rcases hy with hy | hy
  ·exact IX hy
  ·exact absurd rfl (S.abG _ (KN hy))
 ·exact uM (x.above y c (KN h))
 ·have hi:i<vs.length:=by
   unfold start at h2
   by_cases hi:i<vs.length
   ·exact hi
   ·rw [ya (by simpa using hi)] at h2
    rw [U4] at h2
    split at h2 <;> cases h2
  have ha:vs[i]?=some v:=by
   unfold start at h2
   rw [yb (by simpa using hi),dw] at h2
   cases e:vs[i]? with
   | none=>rw [e] at h2;cases h2
   | some a=>rw [e] at h2;cases h2;rfl
  obtain ⟨u,hu,rv⟩:=r.get ha
  have hp:ps[i]?=some y:=by
   rw [← S.pre,List.getElem?_take_of_lt 0#c];exact h1
  have ndP:ps.Nodup:=by rw [← S.pre];exact S.nd.sublist (KR _ _)
  refine ⟨u,rv,?_⟩
  rcases S.par y (lP hp) with k | k
  ·exact .inl ⟨k,EK ndP hp hu k⟩
  ·obtain ⟨c,e⟩:=IX (n:=s.heap.objs.size+1) k
   refine .inr ⟨.inl k,c,e,?_⟩
   have q:=x.cell y c e
   rw [EI ndP hp hu (by show scope.names.lookup y≠_;rw [k];decide)] at q
   exact q
 ·exact e0.hok.fresh (uM (x.above y c (KN h)))
 ·unfold start
  show _=N.length
  rw [fj,gV,Fy]
  simp?
theorem ac1 {CX:Wa} {P:jv} {w:eV} {K:b9} {mg:Str→Option aL} {base:cN} {k:Nat} {f:av} {name qual:Str} {body:List aT} {scope:pY} {dV kV doc pm cdv ct oc:aL} {an od:Option av}
 {osl:Array (Option aL)} {N ps:List Str} {sp:Sp} (lk:K.lookup f=some ⟨oc,od,.func (rJ name qual params body scope dV kV doc pm an cdv ct),osl⟩) (hcd:xU K cdv qual=true) (S:aE N ps scope)
 (len:∀vs H Q E,sp vs H Q E→vs.length=ps.length)
 (hbody:∀(A:oN) (outer:List Env) (s:bA) (H:Hp) (vs:List V) (Q:VK) (E:XK),iR k (A.deeper (xZ qual scope s.heap.objs.size f cdv))→sp vs H Q E →
   ∃t,Lp (PF CX P w K mg base N qual scope f cdv A outer s H E) body t∧t { nx:=λ_ H'=>Q .bM H',rt:=Q } (start N vs) H) :
 bf P w K mg base CX (k+1) f (rJ name qual params body scope dV kV doc pm an cdv ct) ps sp:=by
 refine ⟨len,λA outer s H args us vs Q E hr e0 hb r Yr=>?_⟩
 have hl:=len _ _ _ _ Yr
 have KX:K.In s.heap:=e0.mod.kin.keeps λb o e=>(e0.bs b o e).1
 have lim:s.heap.NoLimit:=e0.mod.nolimit.keeps λb o e=>(e0.bs b o e).1
 have hkind:∀y∈ps.zip us,scope.names.lookup y.1=some .local∨(scope.names.lookup y.1=some .cell∧((cellsFrom 0#N scope.names []).lookup y.1).isSome=true):=λ⟨n,v⟩ hy=>by
  rcases S.par n (Vl hy).1 with q | q
  ·exact .inl q
  ·exact .inr ⟨q,YY _ _ _ (.inl q)⟩
 refine codeAny_call_function hr.depth (KX _ _ lk) rfl S.co S.gen rfl (PySem.W.codeRec_of KX hcd) (hb _ _ _ _ ?_)
 refine wpAny_newFunctionEnv_cells S.kind hkind λenv he s1 x=>?_
 subst he
 refine ⟨lim.keeps x.toInCall.keep,codeAny_func ?_⟩
 obtain ⟨t,ht,hq⟩:=hbody A outer s H vs Q E (hr.deeper _) Yr
 have I:Inv (PF CX P w K mg base N qual scope f cdv A outer s H E) [] (start N vs) H s1:=Qh S hr.hd e0 hl r x
 refine pW (ht [] s1 (start N vs) H _ I hq) (λfl s' hs=>?_) λe s' hs=>hs
 have fin:∀{σ':St} {H':Hp} {v:V} {u:aL},Inv (PF CX P w K mg base N qual scope f cdv A outer s H E) [] σ' H' s'→RelV v u→Q v H'→CE outer P w H s Q u s':=
  λ{σ' H' v u} J rv q=>⟨v,H',J.os,J.bare,J.base,J.hok,rv,q⟩
 cases fl with
 | ret u=>
   obtain ⟨v,σ',H',J,rv,q⟩:=hs
   exact fin J rv q
 | next=>
   obtain ⟨σ',H',J,q⟩:=hs
   exact fin (v:=V.bM) (u:=Value.none) J rfl q
 | brk=>
   obtain ⟨_,_,_,q⟩:=hs
   exact pX q
 | cont=>
   obtain ⟨_,_,_,q⟩:=hs
   exact pX q
section
def tCB (r:List V→Hp→VK→Prop) (t:TA):TE:=λσ H Q=>t σ H λvs H1=>r vs H1 Q
theorem wV {X:Cx} {x:Str} {p pos:Pos} {e:bg} {es:List bg} {t:TA} {id:String} {r:List V→Hp→VK→Prop} (hc:je X (.builtin id) r) (hg:Gl X x) (hm:X.mg x=none) (hv:uV x=some (.builtin id)) (ha:PA X (e::es) t) (hn:x ≠ "__name__":=by decide) (hdb:0#B=false:=by decide)
 (he:bD (e::es) X.env=0#G::bD es X.env:=by rfl) (hpl:(iA pos (bD es X.env)).any (·.1)=false:=by rfl):PE X (.Call (.Name x p) (e::es) [] pos) (tCB r t):=by
 intro pins s σ H Q I h
 refine OZ (vz I hg hm hv ?_ hn hdb)
 exact aez (gZ (ha pos pins s σ H _ I h) λus s1 ⟨vs,H1,I1,r1,q1⟩=>hc pins s1 σ H1 vs us Q I1 r1 q1) he hpl
theorem mO {X:Cx} {x:Str} {p pos:Pos} {e:bg} {es:List bg} {t:TA} {T:String} {r:List V→Hp→VK→Prop} (hc:je X (.type T) r) (hg:Gl X x) (hm:X.mg x=none) (hv:uV x=some (.type T)) (ha:PA X (e::es) t) (hn:x ≠ "__name__":=by decide) (hdb:0#B=false:=by decide)
 (he:bD (e::es) X.env=0#G::bD es X.env:=by rfl) (hpl:(iA pos (bD es X.env)).any (·.1)=false:=by rfl):PE X (.Call (.Name x p) (e::es) [] pos) (tCB r t):=by
 intro pins s σ H Q I h
 refine OZ (vz I hg hm hv ?_ hn hdb)
 exact KA (gZ (ha pos pins s σ H _ I h) λus s1 ⟨vs,H1,I1,r1,q1⟩=>hc pins s1 σ H1 vs us Q I1 r1 q1) he hpl
end
end L2
namespace HT
open PySem PyProof.Rows
section
theorem Wm (ht:IsTup s.heap t vs.toArray) (hb:IsTup s.heap b ws.toArray) (hv:vs≠[])
 (h1:ws=[]→Q (.ref t) s) (h2:ws≠[]→Q (.ref s.heap.objs.size) { s with heap:=s.heap.push { cls:=.type "tuple",data:=.seq (vs++ws).toArray } })
 (hsz:vs.length+ws.length≤sizeLine):ck 0#T A (oK .Add (.ref t) (.ref b)) Q E s:=by
 obtain ⟨⟨cls,dd,data,sl⟩,ho,hc,n,hd⟩:=id ht
 obtain ⟨⟨agG,dd2,data2,sl2⟩,ho2,hc2,n2,hd2⟩:=id hb
 simp only at hc hd hc2 hd2
 subst hc hd hc2 hd2
 have e:vs.toArray++ws.toArray=(vs++ws).toArray:=by simp
 by_cases hw:ws=[]
 ·exact concat_meets ⟨_,ho,rfl⟩ ⟨_,ho2,rfl⟩ ZK aaa YZ YU (YR _ _)
   (tuple_addW1 t b vs.toArray ws.toArray n n2 dd dd2 sl sl2 (by simpa using hv) (by simp [hw])) ⟨ho,ho2,h1 hw⟩
 ·refine concat_meets ⟨_,ho,rfl⟩ ⟨_,ho2,rfl⟩ ZK aaa YZ YU (YR _ _)
   (tuple_addW2 t b vs.toArray ws.toArray n n2 dd dd2 sl sl2 (by simpa using hv) (by simpa using hw) (by rw [jQ,jQ];exact hsz)) ⟨ho,ho2,?_⟩
  rw [e]
  exact h2 hw
def HE (n d:Nat):Option Int→Nat
 | none=>d
 | some v=>if v<0 then (v+(n:Int)).toNat else min v.toNat n
theorem Bw (n d k:Nat):HE n d (some (k:Int))=min k n:=by
 show (if (k:Int)<0 then ((k:Int)+(n:Int)).toNat else min (k:Int).toNat n)=min k n
 rw [if_neg 0#c,Vf]
end
end HT
namespace L2
open PySem PySem.Spec PyProof.Rows
abbrev TO:=St→Hp→(Option Int→Hp→Prop)→Prop
def PO (X:Cx) (e:Option bg) (t:TO):Prop:=
 ∀(pins:List (av×Obj)) (s:bA) (σ:St) (H:Hp) (Q:Option Int→Hp→Prop),Inv X pins σ H s→t σ H Q →
  ck 0#n X.A (evalPart e X.env) (λu s'=>∃o H',Inv X pins σ H' s'∧IsPart u o∧Q o H') X.xe s
def Iu:TO:=λ_ H Q=>Q none H
def UW (t:TE):TO:=λσ H Q=>t σ H λx H1=>∃i,x=.int i∧Q (some i) H1
theorem intsAre_of:∀{us:List aL},Vals 0#L us→DM us ns:=by
 induction ns with
 | nil=>intro us r;rw [VA] at r;cases r;exact .nil
 | cons n ns ih=>
   intro us r
   rw [DG] at r
   cases r with
   | cons r1 r2=>
     obtain ⟨t,e⟩:=r1
     subst e
     exact .cons n t (ih r2)
section
theorem Hq {X:Cx}:PO X none Iu:=by
 intro pins s σ H Q I h
 rw [aab]
 exact ou ⟨none,H,I,.none,h⟩
theorem Hr {X:Cx} {e:bg} {te:TE} (h:PE X e te):PO X (some e) (UW te):=by
 intro pins s σ H Q I hw
 rw [evalPart_some]
 refine gZ (h pins s σ H _ I hw) λu s1 ⟨x,H1,I1,r1,q1⟩=>?_
 obtain ⟨i,rfl,q⟩:=q1
 obtain ⟨t,rfl⟩:=r1
 exact ⟨some i,H1,I1,.int i t,q⟩
def SlR (X:Cx) (r:V→Option Int→Option Int→Hp→VK→Prop):Prop:=
 ∀(pins:List (av×Obj)) (s:bA) (σ:St) (H:Hp) (x:V) (v vl vu:aL) (lo hi:Option Int) (sl:av) (Q:VK),Inv X pins σ H s→RelV x v→s.heap.IsSliceOf sl vl vu .none→IsPart vl lo→IsPart vu hi→r x lo hi H Q →
  ∃T id,typeLookup (.type T) "__getitem__"=pure (some (.builtin id))∧s.TypeIs v T∧ck 0#n X.A (getItem v (.ref sl)) (EP X pins σ Q) X.xe s
def tSl (r:V→Option Int→Option Int→Hp→VK→Prop) (te:TE) (tl th:TO):TE:=λσ H Q=>te σ H λx H1=>tl σ H1 λl H2=>th σ H2 λu H3=>r x l u H3 Q
theorem CF {X:Cx} {e:bg} {te:TE} {lo hi:Option bg} {tl th:TO} {pos p2:Pos} {r:V→Option Int→Option Int→Hp→VK→Prop} (hr:SlR X r) (he:PE X e te) (hl:PO X lo tl) (hu:PO X hi th):PE X (.Subscript e (.Slice lo hi none p2) pos) (tSl r te tl th):=by
 intro pins s σ H Q I h
 refine Subscript_ (gZ (he pins s σ H _ I h) λv s1 ⟨x,H1,I1,r1,q1⟩=>?_)
 refine wpAny_Slice (gZ (hl pins s1 σ H1 _ I1 q1) λvl s2 ⟨l,H2,I2,pl,q2⟩=>gZ (hu pins s2 σ H2 _ I2 q2) λvu s3 ⟨u,H3,I3,pu,q3⟩=>?_)
 rw [aab]
 refine ou ?_
 have I4:Inv X pins σ H3 { s3 with heap:=s3.heap.push { cls:=.type "slice",data:=.fields #[vl,vu,.none] } }:=I3.kept (t':=s3.toks) λb ob q=>pA _ q
 obtain ⟨T,id,hT,ht,hg⟩:=hr pins { s3 with heap:=s3.heap.push { cls:=.type "slice",data:=.fields #[vl,vu,.none] } } σ H3 x v vl vu l u s3.heap.objs.size Q I4 r1 (afe ..) pl pu q3
 show ck 0#n X.A (subscriptTail e (.Slice lo hi none p2) v (.ref s3.heap.objs.size)) (EP X pins σ Q) X.xe { s3 with heap:=s3.heap.push { cls:=.type "slice",data:=.fields #[vl,vu,.none] } }
 exact tail_any (ops:=[.ref s3.heap.objs.size,v]) ht hT hg (by with_unfolding_all rfl)
def jT (xs:List V) (lo hi:Option Int):List V:=(xs.drop (HT.HE xs.length 0 lo)).take (HT.HE xs.length xs.length hi-HT.HE xs.length 0 lo)
theorem Jb (xs:List V) (lo hi:Option Int):(jT xs lo hi).length≤xs.length:=by
 unfold jT
 rw [uL,iX]
 simp?
def T4 (K:b9):R2:=λx y H Q=>∃a b xs ys,x=.ref a∧y=.ref b∧qb K H a xs∧qb K H b ys∧xs≠[]∧xs.length+ys.length≤sizeLine ∧
 (ys=[]→Q (.ref a) H)∧(ys≠[]→∀p,H p=none→Q 1#a (upd H p (.tup (xs++ys))))
theorem Vals.GV (r:Vals xs us):us=[]↔xs=[]:=by
 cases r with
 | nil=>simp
 | cons _ _=>simp
theorem Xq:rK X (oK .Add) (T4 X.K):=by
 intro pins s σ H x y v u Q I rx ry h
 obtain ⟨a,b,xs,ys,rfl,rfl,ha,hb,hx,hz,q1,q2⟩:=h
 cases rx
 cases ry
 obtain ⟨its,r1,p1,_⟩:=I.tuple ha
 obtain ⟨its2,r2,p2,_⟩:=I.tuple hb
 refine HT.Wm p1 p2 (λz=>hx (r1.GV.mp z)) (λz=>⟨.ref a,H,I,rfl,q1 (r2.GV.mp z)⟩) (λz=>?_) (by rw [← r1.length,← r2.length];exact hz)
 refine ⟨.ref s.heap.objs.size,_,I.laid (t':=s.toks) (o:=.tup (xs++ys)) (λb ob q=>pA _ q) (dG _) ?_,rfl,q2 (λw=>z (r2.GV.mpr w)) _ (I.hok.fresh (dG _))⟩
 exact ⟨by rw [fj];exact hz,_,r1.append r2,VR _ _⟩
end
def Rf (n:Nat) (i:Int):Option Nat:=if 0≤i then (if i<n then some i.toNat else none) else if -(n:Int)≤i then some (i+n).toNat else none
def qV {α:Type} (xs:List α) (i:Int):Option α:=(Rf xs.length i).bind λj=>xs[j]?
theorem Oi (h:Rf n i=some j):seqIndex? i n=some j∧j<n∧-(n:Int)≤i∧i<n:=by
 unfold Rf at h
 by_cases h0:0≤i
 ·rw [if_pos h0] at h
  by_cases h1:i<n
  ·rw [if_pos h1] at h
   have e:i.toNat=j:=yc h
   exact ⟨by rw [VG h0 h1,e],by simp?,by simp?,h1⟩
  ·rw [if_neg h1] at h;cases h
 ·rw [if_neg h0] at h
  by_cases h1:-(n:Int)≤i
  ·rw [if_pos h1] at h
   have e:(i+n).toNat=j:=yc h
   exact ⟨by rw [VB 0#c h1,e],by simp?,h1,by simp?⟩
  ·rw [if_neg h1] at h;cases h
theorem NQ (h:qV xs i=some v):∃j,seqIndex? i xs.length=some j∧xs[j]?=some v∧j<xs.length∧-(xs.length:Int)≤i∧i<xs.length:=by
 unfold qV at h
 cases e:Rf xs.length i with
 | none=>rw [e] at h;cases h
 | some j=>
   rw [e] at h
   obtain ⟨h1,h2,h3,h4⟩:=Oi e
   exact ⟨j,h1,h,h2,h3,h4⟩
theorem gW {j:Nat} (h:xs[j]?=some v):qV xs (j:Int)=some v:=by
 have hj:j<xs.length:=(lS.mp h).1
 have e:Rf xs.length (j:Int)=some j:=by
  unfold Rf
  rw [if_pos 0#c,if_pos 0#c];simp
 unfold qV;rw [e];exact h
def NO (b:bg):Prop:=∀o i,subscripted b false o i=operate [o,i] (getItem o i)
def IxR (X:Cx) (r:R2):Prop:=
 ∀(value slice:bg) (pins:List (av×Obj)) (s:bA) (σ:St) (H:Hp) (x y:V) (v u:aL) (Q:VK),Inv X pins σ H s→RelV x v→RelV y u→r x y H Q →
  subscripted slice false v u=operate [v,u] (getItem v u)→ck 0#n X.A (subscriptTail value slice v u) (EP X pins σ Q) X.xe s
def MtR (X:Cx) (id:String) (r:V→List V→Hp→VK→Prop):Prop:=
 ∀(pins:List (av×Obj)) (s:bA) (σ:St) (H:Hp) (x:V) (xs:List V) (v:aL) (us:List aL) (Q:VK),Inv X pins σ H s→RelV x v→Vals xs us→r x xs H Q →
  ck 0#n X.A (call (.builtin id) (v::us)) (EP X pins σ Q) X.xe s
section
variable {X:Cx} {a b:bg} {ta tb:TE} {pos:Pos}
theorem Kd {r:R2} (hr:IxR X r) (ha:PE X a ta) (hb:PE X b tb) (hs:NO b):PE X (.Subscript a b pos) (UU r ta tb):=by
 intro pins s σ H Q I h
 exact Subscript_ (aaM ha hb I h λv u s2 x y H2 I2 rx ry q=>hr a b pins s2 σ H2 x y v u Q I2 rx ry q (hs _ _))
def XE (K:b9):R2:=λx y H Q=>∃p xs i v,x=.ref p∧y=.int i∧aX K H p xs∧qV xs i=some v∧Q v H
def M1 (K:b9):R2:=λx y H Q=>∃p xs i v,x=.ref p∧y=.int i∧qb K H p xs∧qV xs i=some v∧Q v H
theorem W4:IxR X (XE X.K):=by
 intro value slice pins s σ H x y v u Q I rx ry h hs
 obtain ⟨p,xs,i,z,rfl,rfl,hq,he,q⟩:=h
 cases rx
 obtain ⟨t,rfl⟩:=ry
 obtain ⟨its,r,pl,hz⟩:=I.list hq
 obtain ⟨j,h1,h2,h3,h4,h5⟩:=NQ he
 obtain ⟨w,ew,rw'⟩:=r.get h2
 have hl:=r.length
 have hn:=GJ
 have fin:EP X pins σ Q w s:=⟨z,H,I,rw',q⟩
 by_cases h0:0≤i
 ·have hj:i.toNat=j:=by
   rw [VG h0 h5] at h1
   exact yc h1
  exact item_listR pl.isList h0 0#c (by rw [hj];simpa using ew) fin hs
 ·have hj:(i+(its.toArray.size:Int)).toNat=j:=by
   rw [VB 0#c h4] at h1
   rw [jQ,← hl]
   exact yc h1
  exact Y0 (x:=w) pl.isList.typeIs Zz.lookup
   (wpAny_getItem_list_neg (Q:=λr s'=>r=w∧EP X pins σ Q r s') pl.isList 0#c (by rw [jQ] <;> simp?) 0#c (by rw [hj];simpa using ew) ⟨rfl,fin⟩) hs
theorem abp:IxR X (M1 X.K):=by
 intro value slice pins s σ H x y v u Q I rx ry h hs
 obtain ⟨p,xs,i,z,rfl,rfl,hq,he,q⟩:=h
 cases rx
 obtain ⟨t,rfl⟩:=ry
 obtain ⟨its,r,pl,hz⟩:=I.tuple hq
 obtain ⟨j,h1,h2,h3,h4,h5⟩:=NQ he
 obtain ⟨w,ew,rw'⟩:=r.get h2
 have hl:=r.length
 have hn:=GJ
 have fin:EP X pins σ Q w s:=⟨z,H,I,rw',q⟩
 exact Y0 (x:=w) pl.typeIs slot_tuple_getitem.lookup
  (getItem_tuple (j:=j) (Q:=λr s'=>r=w∧EP X pins σ Q r s') pl 0#c 0#c (by rw [jQ,← hl];exact h1) (by simpa using ew) ⟨rfl,fin⟩) hs
theorem Mg (its:List aL) (n j:Nat) (u:aL):K6 (·.setIfInBounds j u) { cls:=.type "list",data:=.seq its.toArray n }={ cls:=.type "list",data:=.seq (its.set j u).toArray n }:=by
 simp [K6]
theorem Inv.lst {pins:List (av×Obj)} {σ:St} {H:Hp} {s:bA} {p:av} {xs:List V} (I:Inv X pins σ H s) (h:H p=some (.lst xs)) :
 ∃(its:List aL) (n:Nat),Vals xs its∧s.heap.get? p=some { cls:=.type "list",data:=.seq its.toArray n }∧xs.length≤sizeLine:=by
 obtain ⟨z,its,n,r,e⟩:=I.hok p _ h
 exact ⟨its,n,r,e,z⟩
theorem Inv.abz {σ:St} {its:List aL} (I:Inv X pins σ H s) (h:H p=some (.lst xs))
 (ho:s.heap.get? p=some { cls:=.type "list",data:=.seq its.toArray n }) (hf:f { cls:=.type "list",data:=.seq its.toArray n }={ cls:=.type "list",data:=.seq its'.toArray n' }) (r:Vals ys its') (hz:ys.length≤sizeLine) (t:Nat) :
 Inv X pins σ (upd H p (.lst ys)) { s with heap:=s.heap.update p f,toks:=t }:=by
 have e:(s.heap.update p f).get? p=some { cls:=.type "list",data:=.seq its'.toArray n' }:=by
  rw [Heap.get?_update_self f ho (by rw [hf] <;> rfl),hf]
 refine I.write (x:=p) (e:=p) (by rw [h];trivial) (.inl rfl) (λb u hb q=>(Y3 _ _ (jA hb)).trans q) ⟨_,e⟩ ?_
 exact ⟨hz,its',n',r,e⟩
def YF:V→V→V→Hp→(Hp→Prop)→Prop:=λo i v H Q=>∃p xs k j,o=.ref p∧i=.int k∧H p=some (.lst xs)∧Rf xs.length k=some j∧Q (upd H p (.lst (xs.set j v)))
theorem set_list:aaI X YF:=by
 intro pins s σ H o i v ov iv u Q I ro ri rv h
 obtain ⟨p,xs,k,j,rfl,rfl,hp,hj,q⟩:=h
 cases ro
 obtain ⟨t,rfl⟩:=ri
 obtain ⟨its,n,r,ho,hz⟩:=I.lst hp
 obtain ⟨h1,h2,h3,h4⟩:=Oi hj
 have hl:=r.length
 have hn:=GJ
 have I':Inv X pins σ (upd H p (.lst (xs.set j v))) { s with heap:=s.heap.update p (K6 (·.setIfInBounds j u)) }:=
  I.abz hp ho (Mg its n j u) (r.set rv j) (by rw [List.length_set];exact hz) s.toks
 by_cases h0:0≤k
 ·have hk:k.toNat=j:=by
   rw [VG h0 h4] at h1
   exact yc h1
  exact PySem.W.ki_setAt ho h0 0#c (by rw [jQ,← hl];exact h4) (by rw [hk];exact ⟨_,I',q⟩)
 ·have hk:(k+(its.toArray.size:Int)).toNat=j:=by
   rw [VB 0#c h3] at h1
   rw [jQ,← hl]
   exact yc h1
  exact PySem.W.ki_setBack ho 0#c (by rw [jQ,← hl];exact h3) 0#c (by rw [hk];exact ⟨_,I',q⟩)
theorem HW (lo hi:Option Int) (n:Nat):(DJ lo hi none n).1=((HT.HE n 0 lo:Nat):Int)∧(DJ lo hi none n).2.1=((HT.HE n n hi:Nat):Int)∧(DJ lo hi none n).2.2=1:=by
 refine ⟨?_,?_,rfl⟩
 ·cases lo with
  | none=>simp [DJ,HT.HE]
  | some i=>
    simp only [DJ,HT.HE,ZL,show (1:Int)>0 by decide,if_true]
    by_cases h:i<0
    ·simp only [h,if_true] <;> simp?
    ·simp only [h,if_false] <;> simp?
 ·cases hi with
  | none=>simp [DJ,HT.HE]
  | some i=>
    simp only [DJ,HT.HE,ZL,show (1:Int)>0 by decide,if_true]
    by_cases h:i<0
    ·simp only [h,if_true] <;> simp?
    ·simp only [h,if_false] <;> simp?
theorem Ey (its:List aL) (lo hi:Option Int):slicePick its.toArray lo hi none=((its.drop (HT.HE its.length 0 lo)).take (HT.HE its.length its.length hi-HT.HE its.length 0 lo)).toArray:=by
 obtain ⟨h1,h2,h3⟩:=HW lo hi its.toArray.size
 unfold slicePick
 rw [h1,h2,h3]
 simp only [sliceRange_one,pick_run,jQ] <;> rfl
def abS (K:b9):V→Option Int→Option Int→Hp→VK→Prop:=λx lo hi H Q=>∃a xs,x=.ref a∧aX K H a xs∧∀p,H p=none→Q 1#a (upd H p (.lst (jT xs lo hi)))
theorem XU:SlR X (abS X.K):=by
 intro pins s σ H x v vl vu lo hi sl Q I rx hs pl pu h
 obtain ⟨a,xs,rfl,hx,q⟩:=h
 cases rx
 obtain ⟨its,r,ht,hz⟩:=I.list hx
 have hlen:=r.length
 refine ⟨"list",_,Zz.lookup,ht.isList.typeIs,?_⟩
 refine wpAny_getItem_list_slice ht.isList hs pl pu .none 0#f ?_ (by rw [jQ] <;> simp?)
 rw [Ey,← hlen]
 refine ⟨.ref s.heap.objs.size,_,I.laid (t':=s.toks) (o:=.lst (jT xs lo hi)) (λb ob q=>pA _ q) (dG _) ?_,rfl,q _ (I.hok.fresh (dG _))⟩
 exact ⟨dP (Jb xs lo hi) hz,_,0,(r.drop (HT.HE xs.length 0 lo)).take (HT.HE xs.length xs.length hi-HT.HE xs.length 0 lo),EB _ rfl⟩
def zY:V→Bool
 | .bM=>true
 | .bl _=>true
 | .int _=>true
 | .str _=>true
 | _=>false
def V0:V→V→Bool
 | .bM,.bM=>true
 | .bl a,.bl b=>a==b
 | .bl a,.int b=>(if a then 1 else 0)==b
 | .int a,.bl b=>a==(if b then 1 else 0)
 | .int a,.int b=>a==b
 | .str a,.str b=>a==b
 | _,_=>false
theorem aaY (ry:RelV y u) (rx:RelV x v) (fy:zY y=true) (fx:zY x=true):aaC A s u v (V0 y x):=by
 cases y with
 | bM=>
   cases ry
   cases x with
   | bM=>cases rx;exact afl _
   | bl b=>cases rx;exact aeZ b
   | int b=>obtain ⟨t,rfl⟩:=rx;exact ae4 b t
   | str b=>obtain ⟨t,rfl⟩:=rx;exact ae5 b t
   | _=>exact absurd (show false=true from fx) dW
 | bl a=>
   cases ry
   cases x with
   | bM=>cases rx;exact ae0 a
   | bl b=>cases rx;exact ae1 a b
   | int b=>obtain ⟨t,rfl⟩:=rx;exact ae6 a b t
   | str b=>obtain ⟨t,rfl⟩:=rx;exact ae7 a b t
   | _=>exact absurd (show false=true from fx) dW
 | int a=>
   obtain ⟨t',rfl⟩:=ry
   cases x with
   | bM=>cases rx;exact ae8 a t'
   | bl b=>cases rx;exact ae9 a t' b
   | int b=>obtain ⟨t,rfl⟩:=rx;exact afg a t' b t
   | str b=>obtain ⟨t,rfl⟩:=rx;exact Zm a t' b t
   | _=>exact absurd (show false=true from fx) dW
 | str a=>
   obtain ⟨t',rfl⟩:=ry
   cases x with
   | bM=>cases rx;exact afa a t'
   | bl b=>cases rx;exact afb a t' b
   | int b=>obtain ⟨t,rfl⟩:=rx;exact Zn a t' b t
   | str b=>obtain ⟨t,rfl⟩:=rx;exact afh a t' b t
   | _=>exact absurd (show false=true from fx) dW
 | _=>exact absurd (show false=true from fy) dW
def Wx (x:V) (u:aL):Bool:=match u with
 | .none=>V0 .bM x
 | .bool b=>V0 (.bl b) x
 | .int i _=>V0 (.int i) x
 | .str z _=>V0 (.str z) x
 | _=>false
theorem R1 (r:RelV y u) (f:zY y=true):Wx x u=V0 y x:=by
 cases y with
 | bM=>cases r;rfl
 | bl b=>cases r;rfl
 | int i=>obtain ⟨t,rfl⟩:=r;rfl
 | str z=>obtain ⟨t,rfl⟩:=r;rfl
 | _=>exact absurd (show false=true from f) dW
theorem F4:∀{xs:List V} {us:List aL},Vals xs us→xs.all zY=true→us.any (Wx x)=xs.any λy=>V0 y x
 | _,_,.nil,_=>rfl
 | y::xs,u::us,.cons r t,f=>by
   rw [Pg,Ai] at f
   rw [aac,aac,R1 r f.1,F4 t f.2]
theorem Cj (rx:RelV x v) (fx:zY x=true):∀{xs:List V} {us:List aL},Vals xs us→xs.all zY=true→∀u∈us,aaC A s u v (Wx x u)
 | _,_,.nil,_=>λu hu=>by cases hu
 | y::xs,u::us,.cons r t,f=>λu' hu=>by
   rw [Pg,Ai] at f
   rcases qU.mp hu with rfl | hu
   ·rw [R1 r f.1];exact aaY r rx f.1 fx
   ·exact Cj rx fx t f.2 u' hu
def inV (x:V) (xs:List V):Bool:=xs.any λy=>V0 y x
def rIn (K:b9) (neg:Bool):R2:=λx y H Q=>∃p xs,y=.ref p∧(aX K H p xs∨qb K H p xs)∧zY x=true∧xs.all zY=true∧Q (.bl (if neg then !inV x xs else inV x xs)) H
theorem QC:rK X (pZ .In) (rIn X.K false):=by
 intro pins s σ H x y v u Q I rx ry h
 obtain ⟨p,xs,rfl,hq,fx,fs,q⟩:=h
 cases ry
 rcases hq with hq | hq
 ·obtain ⟨its,r,pl,hz⟩:=I.list hq
  refine SeqAt.in_listAt (Wx x) pl.isList (λw hw=>Cj rx fx r fs w (by simpa using hw)) ⟨.bl _,H,I,rfl,?_⟩
  rw [show its.toArray.any (Wx x)=its.any (Wx x) by simp,F4 r fs]
  exact q
 ·obtain ⟨its,r,pl,hz⟩:=I.tuple hq
  refine SeqAt.in_tupleAt (Wx x) pl (λw hw=>Cj rx fx r fs w (by simpa using hw)) ⟨.bl _,H,I,rfl,?_⟩
  rw [show its.toArray.any (Wx x)=its.any (Wx x) by simp,F4 r fs]
  exact q
theorem F9:je X (.builtin "len") (λxs H Q=>∃p ys,xs=[.ref p]∧(aX X.K H p ys∨qb X.K H p ys)∧Q (.int ys.length) H):=by
 intro pins s σ H xs us Q I r h
 obtain ⟨p,ys,rfl,hq,q⟩:=h
 obtain ⟨u,rfl,rx⟩:=vals1 r
 cases rx
 have hn:=GJ
 rcases hq with hq | hq
 ·obtain ⟨its,r',pl,hz⟩:=I.list hq
  have hlen:=r'.length
  exact Calls.call_len_list pl.isList (by simp only [jQ] <;> simp?) ⟨.int ys.length,H,I.tok _,⟨s.toks+1,by rw [jQ,hlen]⟩,q⟩
 ·obtain ⟨its,r',pl,hz⟩:=I.tuple hq
  have hlen:=r'.length
  exact len_tuple pl (by simp only [jQ] <;> simp?) ⟨.int ys.length,H,I.tok _,⟨s.toks+1,by rw [jQ,hlen]⟩,q⟩
theorem Ga:je X (.type "list") (λxs H Q=>∃p ys,xs=[.ref p]∧(aX X.K H p ys∨qb X.K H p ys)∧∀l,H l=none→Q 0#U (upd H l (.lst ys))):=by
 intro pins s σ H xs us Q I r h
 obtain ⟨p,ys,rfl,hq,q⟩:=h
 obtain ⟨u,rfl,rx⟩:=vals1 r
 cases rx
 have fin:∀(its:List aL),Vals ys its→ys.length≤sizeLine→∀(h':cN) (c':Nat),(∀b o',s.heap.get? b=some o'→h'.get? b=some o') →
  h'.get? s.heap.objs.size=some { cls:=.type "list",dict:=none,data:=.seq its.toArray c',slots:=#[] }→EP X pins σ Q (.ref s.heap.objs.size) { s with heap:=h' }:=λits r' hz h' c' kp e=>
  ⟨.ref s.heap.objs.size,_,I.laid (t':=s.toks) kp (dG _) (show gK X.prog X.w _ h' _ (.lst ys) from ⟨hz,its,c',r',e⟩),rfl,q _ (I.hok.fresh (dG _))⟩
 rcases hq with hq | hq
 ·obtain ⟨its,r',pl,hz⟩:=I.list hq
  have hlen:=r'.length
  obtain ⟨o,ho,hc,n,hd⟩:=pl.isList
  exact aad p (.inl rfl) ho hc hd (λh' c' kp e=>fin its r' hz h' c' kp e) (by simp only [jQ] <;> simp?)
 ·obtain ⟨its,r',pl,hz⟩:=I.tuple hq
  have hlen:=r'.length
  obtain ⟨o,ho,hc,n,hd⟩:=pl
  exact aad p (.inr rfl) ho hc hd (λh' c' kp e=>fin its r' hz h' c' kp e) (by simp only [jQ] <;> simp?)
theorem DY:je X (.type "tuple") (λxs H Q=>∃p ys,xs=[.ref p]∧((aX X.K H p ys∧∀l,H l=none→Q 0#U (upd H l (.tup ys)))∨(qb X.K H p ys∧Q 1#a H))):=by
 intro pins s σ H xs us Q I r h
 obtain ⟨p,ys,rfl,h⟩:=h
 obtain ⟨u,rfl,rx⟩:=vals1 r
 cases rx
 rcases h with ⟨hq,q⟩ | ⟨hq,q⟩
 ·obtain ⟨its,r',pl,hz⟩:=I.list hq
  have hlen:=r'.length
  refine call_tuple_list pl.isList (λh' kp=>?_) (by simp only [jQ] <;> simp?)
  have I1:Inv X pins σ H { s with heap:=h' }:=I.kept (t':=s.toks) kp
  have I2:Inv X pins σ (upd H h'.objs.size (.tup ys)) { s with heap:=h'.push { cls:=.type "tuple",data:=.seq its.toArray } }:=
   I1.laid (t':=s.toks) (λb o e=>pA _ e) (dG _) (show gK X.prog X.w _ _ _ (.tup ys) from ⟨hz,its,r',VR _ _⟩)
  exact ⟨.ref h'.objs.size,_,I2,rfl,q _ (I1.hok.fresh (dG _))⟩
 ·obtain ⟨its,r',pl,hz⟩:=I.tuple hq
  exact call_tuple_same pl ⟨.ref p,H,I,rfl,q⟩
def X7 (K:b9) (T:String) (x:V) (H:Hp):Prop:=match x with
 | .str _=>T = "str"
 | .int _=>T = "int"
 | .ref p=>(T = "list"∧∃xs,aX K H p xs)∨(T = "tuple"∧∃o,K.lookup p=some o∧o.cls=.type "tuple"∧o.dict=none) ∨
  (T = "dict"∧((∃kvs,H p=some (.dK kvs))∨∃kvs,H p=some (.dT kvs)))∨(T = "set"∧∃S n,H p=some (.set S n))
 | _=>False
theorem UZ {σ:St} (I:Inv X pins σ H s) (r:RelV x v) (ty:X7 X.K T x H) :
 s.TypeIs v T∧∀a,v=.ref a→∃ob,s.heap.get? a=some ob∧ob.dict=none:=by
 cases x with
 | str z=>
   obtain ⟨t,rfl⟩:=r
   cases (show T = "str" from ty)
   exact ⟨typeIs_str s z t,λ_ e=>nomatch e⟩
 | int i=>
   obtain ⟨t,rfl⟩:=r
   cases (show T = "int" from ty)
   exact ⟨VO s i t,λ_ e=>nomatch e⟩
 | ref p=>
   cases r
   rcases ty with ⟨rfl,xs,hq⟩ | ⟨rfl,o,hk,hc,hd⟩ | ⟨rfl,hk⟩ | ⟨rfl,S,n,hk⟩
   ·obtain ⟨its,_,pl,_⟩:=I.list hq
    refine ⟨pl.isList.typeIs,λa e=>?_⟩
    cases e
    obtain ⟨o,n,e,c,hd,_⟩:=pl
    exact ⟨o,e,hd⟩
   ·refine ⟨⟨o,I.AK p o hk,hc⟩,λa e=>?_⟩
    cases e
    exact ⟨o,I.AK _ o hk,hd⟩
   ·have z:∃o,s.heap.get? p=some o∧o.ExactDict:=by
     rcases hk with ⟨kvs,hk⟩ | ⟨kvs,hk⟩
     ·obtain ⟨_,_,_,_,o,_,_,e,ex,_⟩:=I.hok p _ hk
      exact ⟨o,e,ex⟩
     ·obtain ⟨_,_,_,_,o,_,_,e,ex,_⟩:=I.hok p _ hk
      exact ⟨o,e,ex⟩
    obtain ⟨o,e,ex⟩:=z
    refine ⟨⟨o,e,ex.1⟩,λa e2=>?_⟩
    cases e2
    exact ⟨o,e,ex.2.1⟩
   ·obtain ⟨o,_,_,_,e,ex,_⟩:=I.hok p _ hk
    refine ⟨⟨o,e,ex.1⟩,λa e2=>?_⟩
    cases e2
    exact ⟨o,e,ex.2.1⟩
 | _=>exact pX ty
def agA (K:b9) (T:String) (r:V→List V→Hp→VK→Prop) (to:TE):TE:=λσ H Q=>to σ H λx H1=>X7 K T x H1∧r x [] H1 Q
def YK (K:b9) (T:String) (r:V→List V→Hp→VK→Prop) (to:TE) (t:TA):TE:=λσ H Q=>to σ H λx H1=>X7 K T x H1∧t σ H1 λxs H2=>r x xs H2 Q
variable {o e:bg} {es:List bg} {to:TE} {t:TA} {name:Str} {apos cpos:Pos} {T id:String} {r:V→List V→Hp→VK→Prop}
theorem TQ (pa:PlainAttrs T) (slot:Slot T name id) (hty:typeOf (.builtin id)=pure (.type "method_descriptor")) (hm:MtR X id r) (ho:PE X o to)
 (hbase:vZ o name X.env (eval o X.env)=eval o X.env:=by rfl) (hline:0#W=true:=by rfl):PE X (.Call (.Attribute o name apos) [] [] cpos) (agA X.K T r to):=by
 intro pins s σ H Q I h
 refine wpAny_Call_method0_late hbase hline (gZ (ho pins s σ H _ I h) λv s1 ⟨x,H1,I1,r1,ty,q1⟩=>?_)
 obtain ⟨h1,h2⟩:=UZ I1 r1 ty
 exact ⟨T,id,pa,slot,hty,h1,h2,Y4 rfl (PySem.evalArgs_none (hm pins s1 σ H1 x [] v [] Q I1 r1 .nil q1))⟩
theorem TN (pa:PlainAttrs T) (slot:Slot T name id) (hty:typeOf (.builtin id)=pure (.type "method_descriptor")) (hm:MtR X id r) (ho:PE X o to) (ha:PA X (e::es) t)
 (hbase:vZ o name X.env (eval o X.env)=eval o X.env:=by rfl)
 (hfew:((iA cpos (bD (e::es) X.env)).all (λx=>!x.1)&&(tW cpos (tU [] X.env)).all (λx=>x.1.isSome)
   && decide ((e::es).length+([]:List oM).length+(if ([]:List oM).isEmpty then 0 else 1)<30))=true:=by rfl)
 (hline:0#W=true:=by rfl) (hs:bD (e::es) X.env=0#G::bD es X.env:=by rfl) (hplain:(iA cpos (bD es X.env)).any (·.1)=false:=by rfl) :
 PE X (.Call (.Attribute o name apos) (e::es) [] cpos) (YK X.K T r to t):=by
 intro pins s σ H Q I h
 refine wpAny_Call_method_late hbase hfew hline rfl (gZ (ho pins s σ H _ I h) λv s1 ⟨x,H1,I1,r1,ty,q1⟩=>?_)
 obtain ⟨h1,h2⟩:=UZ I1 r1 ty
 refine ⟨T,id,pa,slot,hty,h1,h2,?_⟩
 have hA:=ha cpos pins s1 σ H1 _ I1 q1
 rw [hs] at hA ⊢
 refine Y4 (by show (false||(iA cpos (bD es X.env)).any (·.1))=false;rw [hplain] <;> rfl) (Calls.evalArgs_plain ?_)
 exact gZ hA λus s2 ⟨vs,H2,I2,r2,q2⟩=>hm pins s2 σ H2 x vs v us Q I2 r1 r2 q2
/- xs.append(e),list.index on a module's tuple .. are MtR facts of 06m -/
end
def MtM (X:Cx) (id:String) (r:V→List V→Hp→VK→Prop):Prop:=
 ∀(pins:List (av×Obj)) (s:bA) (σ:St) (H:Hp) (x:V) (xs:List V) (v:aL) (us:List aL) (Q:VK),Inv X pins σ H s→RelV x v→Vals xs us→r x xs H Q →
  ck 0#n X.A (call (.builtin id) (v::us)) (EP X pins σ Q) X.xe s
theorem Vals.one:∀{x:V} {us:List aL},Vals [x] us→∃u,us=[u]∧RelV x u
 | _,_,.cons r .nil=>⟨_,rfl,r⟩
theorem Vals.zero:∀{us:List aL},Vals [] us→us=[]
 | _,.nil=>rfl
theorem Vals.reverse (h:Vals xs us):Vals xs.reverse us.reverse:=by
 induction h with
 | nil=>exact .nil
 | cons r t ih=>rw [ZA,ZA];exact Vals.append ih (.cons r .nil)
theorem Vals.rep (h:Vals xs us):∀k:Nat,Vals (kT k xs).flatten (kT k us).flatten
 | 0=>.nil
 | k+1=>by
   rw [IF,IF,xR,xR]
   exact Vals.append h (Vals.rep h k)
theorem foldl_rep (its:List aL):∀(k:Nat) (acc:List aL),
 VP (λx1 x2=>x1++x2) acc.toArray (kT k its.toArray)=(acc++(kT k its).flatten).toArray
 | 0,acc=>by simp
 | k+1,acc=>by
   have e:acc.toArray++its.toArray=(acc++its).toArray:=by simp
   have e2:(acc++its)++(kT k its).flatten=acc++(kT (k+1) its).flatten:=by
    rw [IF,xR,Dz]
   rw [← e2,← foldl_rep its k (acc++its),← e,IF,List.foldl_cons]
section
theorem Inv.aby {σ:St} {its:List aL} (I:Inv X pins σ H s) (hH:H l=some (.lst xs))
 (e:s.heap.get? l=some { cls:=.type "list",data:=.seq its.toArray n }) (hf:f its.toArray=its'.toArray) (hv:Vals ys its') (hz:ys.length≤sizeLine) :
 Inv X pins σ (upd H l (.lst ys)) { s with heap:=s.heap.update l (K6 f),toks:=t' }:=by
 have q:=PySem.IsL.update e f
 rw [hf] at q
 refine I.write (x:=l) (e:=l) (by rw [hH];exact trivial) (.inl rfl) (λb' u hb hu=>(Y3 s.heap (K6 f) (jA hb)).trans hu) ⟨_,q⟩ ?_
 exact ⟨hz,its',_,hv,q⟩
theorem Inv.abv {σ:St} (I:Inv X pins σ H s) (hv:Vals ys its) (hz:ys.length≤sizeLine) :
 Inv X pins σ (upd H s.heap.objs.size (.lst ys)) { s with heap:=s.heap.push { cls:=.type "list",data:=.seq its.toArray },toks:=t' }:=
 I.laid (λ_ _ q=>pA _ q) (dG _) ⟨hz,its,0,hv,EB _ rfl⟩
theorem Inv.fresh {σ:St} (I:Inv X pins σ H s):H s.heap.objs.size=none:=I.hok.fresh (dG _)
theorem Inv.JR {σ:St} (I:Inv X pins σ H s) (hH:H l=some (.lst xs)):xs.length≤sizeLine∧∃(its:List aL) (n:Nat),Vals xs its∧xs.length=its.length∧s.heap.get? l=some { cls:=.type "list",data:=.seq its.toArray n }:=by
 obtain ⟨z,its,n,r,e⟩:=I.hok l _ hH
 exact ⟨z,its,n,r,r.length,e⟩
theorem JW (h:n≤sizeLine):OM n=false:=by
 unfold OM
 exact rG 0#c
def Bt:V→List V→Hp→VK→Prop:=λx vs H Q=>∃l xs y,x=.ref l∧vs=[y]∧H l=some (.lst xs)∧xs.length<sizeLine∧Q .bM (upd H l (.lst (xs++[y])))
theorem E5:MtM X "list.append" Bt:=by
 intro pins s σ H x vs v us Q I rx rv h
 obtain ⟨l,xs,y,rfl,rfl,hH,hz,q⟩:=h
 cases rx
 obtain ⟨u,rfl,ru⟩:=rv.one
 obtain ⟨z,its,n,r,hl,e⟩:=I.JR hH
 refine FQ F.slot_list_append ⟨_,e,rfl⟩ F.entry_list_append (F.args_list_append_2 _ _) (PySem.list_append l its.toArray n u (by rw [jQ];simp?)) ⟨e,?_⟩
 refine ⟨.bM,_,I.aby (its':=its++[u]) hH e 0#f (r.append (.cons ru .nil)) ?_,rfl,q⟩
 rw [fj,ID]
 simp?
def Bu:V→List V→Hp→VK→Prop:=λx vs H Q=>∃l b xs zs,x=.ref l∧vs=[.ref b]∧H l=some (.lst xs)∧H b=some (.lst zs)∧xs.length+zs.length≤sizeLine∧Q .bM (upd H l (.lst (xs++zs)))
theorem Qn:MtM X "list.extend" Bu:=by
 intro pins s σ H x vs v us Q I rx rv h
 obtain ⟨l,b,xs,zs,rfl,rfl,hH,hB,hz,q⟩:=h
 cases rx
 obtain ⟨u,rfl,ru⟩:=rv.one
 cases ru
 obtain ⟨z,its,n,r,hl,e⟩:=I.JR hH
 obtain ⟨z2,its2,n2,r2,hl2,e2⟩:=I.JR hB
 have hsz:its.toArray.size+its2.toArray.size≤sizeLine:=by rw [jQ,jQ];simp?
 have Sx:¬(!its.toArray.isEmpty&&OM (its.toArray.size+its2.toArray.size))=true:=by
  rw [JW hsz,Bool.and_false]
  exact dW
 refine FQ F.slot_list_extend ⟨_,e,rfl⟩ F.entry_list_extend (F.args_list_extend_2 _ _)
  (AutoSeq1.list_extend_list_list_0 l its.toArray n b its2.toArray n2 Sx (by rw [jQ];simp?) 0#c) ⟨e,e2,?_⟩
 refine ⟨.bM,_,I.aby (its':=its++its2) hH e 0#f (r.append r2) ?_,rfl,q⟩
 rw [fj]
 simp?
def wX:V→List V→Hp→VK→Prop:=λx vs H Q=>∃l xs,x=.ref l∧vs=[]∧H l=some (.lst xs)∧Q .bM (upd H l (.lst xs.reverse))
theorem Ml:MtM X "list.reverse" wX:=by
 intro pins s σ H x vs v us Q I rx rv h
 obtain ⟨l,xs,rfl,rfl,hH,q⟩:=h
 cases rx
 have JC:=rv.zero
 subst JC
 obtain ⟨z,its,n,r,hl,e⟩:=I.JR hH
 refine FQ F.slot_list_reverse ⟨_,e,rfl⟩ F.entry_list_reverse (F.args_list_reverse_1 _) (AutoSeq1.list_reverse_list_0 l its.toArray n (by rw [jQ];simp?)) ⟨e,?_⟩
 refine ⟨.bM,_,I.aby (its':=its.reverse) hH e 0#f r.reverse ?_,rfl,q⟩
 rw [List.length_reverse]
 simp?
def adO:R2:=λx y H Q=>∃l b xs zs,x=.ref l∧y=.ref b∧H l=some (.lst xs)∧H b=some (.lst zs)∧xs.length+zs.length≤sizeLine∧∀p,H p=none→Q 1#a (upd H p (.lst (xs++zs)))
theorem yO:rK X (oK .Add) adO:=by
 intro pins s σ H x y v u Q I rx ry h
 obtain ⟨l,b,xs,zs,rfl,rfl,hH,hB,hz,q⟩:=h
 cases rx
 cases ry
 obtain ⟨z,its,n,r,hl,e⟩:=I.JR hH
 obtain ⟨z2,its2,n2,r2,hl2,e2⟩:=I.JR hB
 refine PySem.P.add_list e e2 ?_ (by rw [jQ,jQ];simp?)
 have ea:its.toArray++its2.toArray=(its++its2).toArray:=by simp
 rw [ea]
 exact ⟨.ref _,_,I.abv (t':=s.toks) (r.append r2) (by rw [fj];simp?),rfl,q _ I.fresh⟩
def adT:R2:=λx y H Q=>∃l k xs,x=.ref l∧y=.int k∧H l=some (.lst xs)∧-(2 ^ 63)≤k∧k<2 ^ 63∧xs.length*k.toNat≤sizeLine ∧
 ∀p,H p=none→Q 1#a (upd H p (.lst (kT k.toNat xs).flatten))
theorem len_rep {α:Type} (xs:List α) (k:Nat):(kT k xs).flatten.length=k*xs.length:=by
 induction k with
 | zero=>simp
 | succ k ih=>rw [IF,xR,fj,ih,Nat.succ_mul,An]
theorem TF:rK X (oK .Mult) adT:=by
 intro pins s σ H x y v u Q I rx ry h
 obtain ⟨l,k,xs,rfl,rfl,hH,h1,h2,hz,q⟩:=h
 cases rx
 obtain ⟨t,rfl⟩:=ry
 obtain ⟨z,its,n,r,hl,e⟩:=I.JR hH
 have hlen:its.toArray.size*k.toNat≤sizeLine:=by rw [jQ,← hl];exact hz
 have hcap:¬its.toArray.size*k.toNat>(2 ^ 63-1)/8:=by
  have:(sizeLine:Nat)≤(2 ^ 63-1)/8:=by decide
  simp?
 have hfit:¬(!Builtin.List.listFitsIndex k)=true:=by
  rw [fitsIndex_both h1 h2]
  exact dW
 have Sx:¬OM (its.toArray.size*k.toNat)=true:=by
  rw [JW hlen]
  exact dW
 have hnew:VP (λx1 x2=>x1++x2) #[] (kT (if its.toArray.isEmpty=true then 0 else k.toNat) its.toArray)=(kT k.toNat its).flatten.toArray:=by
  have f0:∀m:Nat,VP (λx1 x2=>x1++x2) #[] (kT m its.toArray)=(kT m its).flatten.toArray:=λm=>by
   have:=foldl_rep its m []
   rw [ZR] at this
   exact this
  rw [f0]
  cases its with
  | nil=>simp
  | cons a r'=>rw [if_neg 0#f]
 refine wpAny_binaryOp_repeat_ref (T := "list") (U := "int") 0#i ⟨_,e,rfl⟩ (λs'=>VO s' k t) noFill_list_mul F.fills_int_mul F.slot_int_rmul repeat_list F.slot_int_index.lookup
  (FQ F.slot_int_rmul (VO s k t) F.entry_int_rmul (F.args_int_rmul_2 _ _) (int___rmul___int_list k t l its.toArray n)
    ⟨e,rfl,⟨_,e,rfl⟩,FQ F.slot_list_mul ⟨_,e,rfl⟩ F.entry_list_mul (F.args_list_mul_2 _ _) (AutoListH.list___mul___list_int_3 l its.toArray n k t hfit hcap Sx) ⟨e,?_⟩⟩)
 rw [hnew]
 exact ⟨.ref _,_,I.abv (t':=s.toks) (r.rep k.toNat) (by rw [len_rep,aan];exact hz),rfl,q _ I.fresh⟩
end
end L2
namespace Att
open PySem PySem.W PySem.Calls PyProof.Rows
theorem AJ:∀(ns:List Int) (vs:List aL),WellAll P h vs (ns.map WData.int)→DM vs ns:=by
 intro ns
 induction ns with
 | nil=>
   intro vs w
   rw [VA] at w
   cases w
   exact .nil
 | cons n ns ih=>
   intro vs w
   rw [DG] at w
   cases w with
   | cons a b=>
     cases a
     exact .cons _ _ (ih _ b)
theorem QU {l:OpenLaw} (hn:l.most=some n) 
 (hpre:l.row.toRowW.claim.pre args=true) (hwl:WellAll P h vals args) :
 ∃a vs ns,vals=[Value.ref a]∧args=[WData.list (ns.map WData.int)]∧h.get? a=some { cls:=.type "list",data:=.seq vs.toArray }∧DM vs ns∧ns.length≤n:=by
 have hsh:WShape.hasAll [] args [.list .int]=true:=(pre_splitW hpre).1
 have hc:l.pre.holds [] { args:=args }=true:=(pre_splitW hpre).2
 obtain ⟨d,r,rfl,h1,h2⟩:=hasAllW_cons hsh
 obtain rfl:=hasAllW_nil h2
 obtain ⟨xs,rfl,h3⟩:=hasW_list h1
 obtain ⟨ns,rfl⟩:=items_int h3
 have hlen:ns.length≤n:=by
  unfold OpenLaw.pre at hc
  have h4:(WTm.not (.lt (.lit (.int (n:Int))) (.len (.arg 0)))).holds [] { args:=[.list (ns.map .int)] }=true:=by
   have h4:=(holds_andW hc).1
   rw [hn] at h4
   exact h4
  have h5:=condW_of h4 (w_not (w_lt w_lit (w_len_list (w_arg rfl))))
  rw [gV] at h5
  refine Nat.le_of_not_lt λq=>?_
  have q':(n:Int)<((ns.length:Nat):Int):=by simp?
  first
   | (rw [jb q'] at h5;exact absurd h5 (by decide))
   | (simp at h5;omega)
 cases hwl with
 | cons w1 w2=>
   cases w2
   cases w1 with
   | list ho hall=>exact ⟨_,_,ns,rfl,rfl,ho,AJ ns _ hall,hlen⟩
theorem QD (l:OpenLaw) (args:List WData):l.row.toRowW.claim.post args (.bool true) args=true:=
 postW_of (r:=l.row.toRowW) (X:=(true==true))
  (show aaD [] (.bool true) .bool=true by first | rfl | decide | simp [aaD,WShape.arms,WShape.armsAll])
  (show (WTm.eq .res (.lit (.bool true))).value [] { args:=args,res:=some (.bool true),after:=args }=some (.bool (true==true)) from w_eq_bool (w_res rfl) w_lit) rfl
theorem IW {l:OpenLaw}
 (hn:l.most=some n) (hdf:d.params.defaults=[])
 (call:∀(w:eV) (s₀ s₁:bA) (mg mb:Str→Option aL) (fa:av) (o:Obj) (pm cd doc:aL) (a:av) (vs:List aL) (ns:List Int),
   Ground q loose [] XP w s₀ mg mb s₁.heap→YP w s₁.heap →
   s₁.heap.get? fa=some o→o.data=.func (docDef d.name d.params d.body d.scope pm cd doc)→s₁.heap.CodeRec cd d.name→mg d.name=some (.ref fa) →
   s₁.heap.get? a=some { cls:=.type "list",data:=.seq vs.toArray }→DM vs ns→ns.length≤n→s₁.gens=#[] →
   Au (model l.prog w) DN (.call (.ref fa) ⟨[.ref a],[]⟩) (λr s'=>r=.ok (.ret (.bool true))∧OldK s₁.heap s'.heap∧s'.os=s₁.os∧xY s'.gens) s₁) :
 WalkO q loose XP YP l.row.toRowW d [] (λf vs=>VQ f vs):=by
 intro w s₀ s₁ mg mb G Y fa o pm cd doc dV kV ho hd hcd hD hmg hg args vals as hpre hlay hrd hwl hlo
 obtain rfl:dV=.none:=Dflts.none hD hdf
 obtain rfl:kV=.none:=Dflts.noKw hD
 obtain ⟨a,vs,ns,rfl,rfl,hobj,hints,hlen⟩:=QU hn hpre hwl
 refine enter_call (Ph (call w s₀ s₁ mg mb fa o pm cd doc a vs ns G Y ho (fd_plain hd) hcd hmg hobj hints hlen hg) λr s' hq=>?_)
 obtain ⟨rfl,h2,h3,h4⟩:=hq
 exact ⟨.inl ⟨.bool true,.bool true,[],rfl,λ_=>rfl,.bool true,QD l _,λ_=>⟨List.Pairwise.nil,λ_ hm=>(nomatch hm)⟩⟩,h2,h3,h4⟩
end Att
namespace L2
open PySem PySem.Spec PyProof.Rows
theorem pR:∀{vs:List aL} {ns:List Int},DM vs ns→Vals 0#L vs
 | _,_,.nil=>.nil
 | _,_,.cons n t h=>.cons ⟨t,rfl⟩ (pR h)
def aaH (H:Hp):Prop:=∀b,H b=none∨∃o xs,H b=some (.N7 o (.lst xs))
theorem SM {K:b9}
 (KX:K.In s₁.heap) (hns:s₁.heap.Ns fT mg) (hb:s₁.heap.Ns builtinsNs mb) (hbb:∀x:Str,x ≠ "__name__"→mb x=uV x) (hlim:s₁.heap.NoLimit) (hg:s₁.gens=#[])
 (ha:s₁.heap.get? a=some { cls:=.type "list",data:=.seq vs.toArray }) (hi:DM vs ns) (hl:ns.length≤sizeLine) (hr:iR k DN)
 (F:∀base:cN,K.In base→base.Ns fT mg→bf P w K mg base CX k fa fd [x] sp) (hbind:∀(s:bA) (u:aL),BindsTo s fd ⟨[u],[]⟩ [(x,u)])
 (Yr:∀H:Hp,aaH H→aX K H a 0#L→sp [.ref a] H (λv _=>v=.bl true) λ_ _ _=>False)
 (hCX:∀H e s',CX [] H s₁ (λ_ _ _=>False) e s'→False) :
 Au (model P w) DN (.call (.ref fa) ⟨[.ref a],[]⟩) (λr s'=>r=.ok (.ret (.bool true))∧OldK s₁.heap s'.heap∧s'.os=s₁.os∧xY s'.gens) s₁:=by
 have rv:=pR hi
 have af0:=hi.length
  -- from an abstract heap in which nothing but the script may be tracked
 have core:∀H:Hp,aaH H→aX K H a 0#L→ye P w H s₁.heap→(∀b,H b≠none→b=a)→(H a≠none→K.lookup a=none) →
  Au (model P w) DN (.call (.ref fa) ⟨[.ref a],[]⟩) (λr s'=>r=.ok (.ret (.bool true))∧OldK s₁.heap s'.heap∧s'.os=s₁.os∧xY s'.gens) s₁:=by
  intro H hO hS hok hA hK
  have NR:∀{b:av} {o:Obj},s₁.heap.get? b=some o→H b=none→(Gx s₁.heap H).get? b=some o:=λe n=>Ss e n
  have noA:∀{b:av} {o:Obj} {es:Array DictEntry} {ep:Nat},s₁.heap.get? b=some o→o.data=.dict es ep→H b=none:=λ{b o es ep} e d=>by
   cases q:H b with
   | none=>rfl
   | some u=>
     have e':b=a:=hA b (by rw [q];simp)
     subst e'
     rw [ha] at e;cases e
     have d':Data.seq vs.toArray _=Data.dict es ep:=d
     cases d'
  have nsK:∀{b:av} {m:Str→Option aL},s₁.heap.Ns b m→(Gx s₁.heap H).Ns b m:=λ{b m} ⟨o,es,ep,e,d,r⟩=>⟨o,es,ep,NR e (noA e d),d,r⟩
  have hKb:K.In (Gx s₁.heap H):=λb o e=>NR (KX b o e) (by
   cases q:H b with
   | none=>rfl
   | some u=>
     have e':b=a:=hA b (by rw [q];simp)
     subst e'
     rw [hK (by rw [q];simp)] at e;cases e)
  have hM:Mod K mg (Gx s₁.heap H):=⟨hKb,nsK hns,⟨mb,nsK hb,hbb⟩,let ⟨mc,h1,h2⟩:=hlim;⟨mc,nsK h1,h2⟩⟩
  have e0:Lj P w K mg (Gx s₁.heap H) DN [] s₁ H:=⟨rfl,hM,λb o e=>Xi e,aam (Qd _ _),trivial,λb hb=>absurd (show b∈([]:List av) from hb) 0#f,hok,.of_eq hg⟩
  refine Ph ((F _ hKb (nsK hns)).run DN [] s₁ H ⟨[.ref a],[]⟩ [.ref a] [.ref a] _ _ hr e0 (hbind s₁ (.ref a)) (.cons rfl .nil) (Yr H hO hS)) λr s' h=>?_
  cases r with
  | error e=>exact (hCX H e s' h).elim
  | ok fl=>
    cases fl with
    | next=>exact pX h
    | brk=>exact pX h
    | cont=>exact pX h
    | ret u=>
      obtain ⟨v,H',os,bare,un,afN,r',q⟩:=h
      have q':v=.bl true:=q
      subst q'
      obtain rfl:u=Value.bool true:=r'
      refine ⟨rfl,OldK.of_keep λb o e=>?_,os,bare⟩
      cases q:H b with
      | none=>exact un.keep b o e q (by intro z;exact absurd (show b∈([]:List av) from z) 0#f) 0#f
      | some u=>
        rcases hO b with z | ⟨ob,xs,z⟩
        ·rw [q] at z;cases z
        ·have z2:=un.Gj b ob _ z
         obtain ⟨e1,_⟩:=hok b _ z
         obtain ⟨e2,_⟩:=afN b _ z2
         rw [e] at e1;cases e1
         exact e2
 cases hk:K.lookup a with
 | some o=>
    -- the script is one of the module's own objects
   have e:=KX a o hk
   rw [ha] at e
   cases e
   refine core (λ_=>none) (λ_=>.inl rfl) (.inr ⟨_,vs.toArray,_,hk,rfl,rfl,rfl,by rw [jQ,af0];exact hl,by simpa using rv⟩) (λb u z=>by have z':(none:Option HO)=some u:=z;cases z') (λb z=>absurd rfl z) λz=>absurd rfl z
 | none=>
   refine core (λb=>if b=a then some (.N7 { cls:=.type "list",data:=.seq vs.toArray } (.lst 0#L)) else none) (λb=>?_) (.inl (.inr ⟨{ cls:=.type "list",data:=.seq vs.toArray },if_pos rfl⟩)) (λb u z=>?_) (λb z=>?_) λ_=>hk
   ·by_cases hb:b=a
    ·exact .inr ⟨_,_,if_pos hb⟩
    ·exact .inl (if_neg hb)
   ·by_cases hb:b=a
    ·have z':=(if_pos hb).symm.trans z
     cases z'
     subst hb
     exact ⟨ha,by rw [gV];exact hl,vs,_,rv,ha⟩
    ·have z':=(if_neg hb).symm.trans z
     cases z'
   ·by_cases hb:b=a
    ·exact hb
    ·exact absurd (if_neg hb) z
theorem X8 {l:Vm} {n k:Nat} {q:jv} {XP:(Str→Option aL)→cN→Prop} {YP:eV→cN→Prop} {d:DefRec} {K:Params→b9} {CX:eV→Wa} {sp:eV→Sp} {x:Str}
 (hn:l.most=some n) (hn2:n≤sizeLine) (hdf:d.params.defaults=[]) (hr:iR k DN)
 (hY:∀(w:eV) (h:cN),YP w h→(K w.params).In h)
 (F:∀(w:eV) (mg:Str→Option aL) (fa:av) (h:cN),(K w.params).In h→h.Ns fT mg→mg d.name=some (.ref fa) →
   ∃fd:jP,(∀(s:bA) (u:aL),BindsTo s fd ⟨[u],[]⟩ [(x,u)]) ∧
    ∀base:cN,(K w.params).In base→base.Ns fT mg→bf l.prog w (K w.params) mg base (CX w) k fa fd [x] (sp w))
 (Yr:∀(w:eV) (H:Hp) (a:av) (ns:List Int),ns.length≤n→aaH H→aX (K w.params) H a 0#L→sp w [.ref a] H (λv _=>v=.bl true) λ_ _ _=>False)
 (hCX:∀(w:eV) (H:Hp) (s:bA) (e:aL) (s':bA),CX w [] H s (λ_ _ _=>False) e s'→False) :
 aae q loose XP YP l.row.toRowW d [] (λf vs=>VQ f vs):=by
 refine Att.IW hn hdf λw s₀ s₁ mg mb fa o pm cd doc a vs ns G Y ho hd hcd hmg hobj hints hlen hg=>?_
 have KX:=hY w _ Y
 obtain ⟨fd,hb,hF⟩:=F w mg fa _ KX G.T.g hmg
 exact SM KX G.T.g G.T.b G.T.builtins G.T.nolimit hg hobj hints (dP hlen hn2) hr hF hb (λH hO hS=>Yr w H a ns hlen hO hS) λH e s'=>hCX w H s₁ e s'
def inClass (s:aT) (j:Nat):aT:=match s with
 | .ClassDef _ _ _ body _ _ _ _ _ _ _=>body.getD j (.Pass ⟨0,0,0,0⟩)
 | _=>.Pass ⟨0,0,0,0⟩
def fU (s:aT):Arguments:=match s with
 | .FunctionDef _ a _ _ _ _ _ _ _ _=>a
 | _=>{ posonlyargs:=[],args:=[],vararg:=none,kwonlyargs:=[],kw_defaults:=[],kwarg:=none,defaults:=[] }
def fD (s:aT):List aT:=match s with
 | .FunctionDef _ _ b _ _ _ _ _ _ _=>b
 | _=>[]
def ah (s:aT):pY:=match s with
 | .FunctionDef _ _ _ _ _ _ sc _ _ _=>sc
 | _=>{ kind:=.function,names:=[],isGenerator:=false,isCoroutine:=false }
abbrev cY:Wa:=λ_ _ _ _ _ _=>False
abbrev E0:XK:=λ_ _ _=>False
theorem Ow:Passes cY X E0:=λ_ _ _ _ _ _ _ h=>h.elim
structure cR (K:b9) (x qual:Str) (st:aT) (f:av) (fd:jP):Prop where
 ex:∃(oc:aL) (od:Option av) (kV doc pm:aL) (an:Option av) (cdv ct:aL) (osl:Array (Option aL)),
  fd=rJ x qual (fU st) (fD st) (ah st) .none kV doc pm an cdv ct∧K.lookup f=some ⟨oc,od,.func fd,osl⟩∧xU K cdv qual=true
 kp:yd K (.ref f)=true
section
theorem cR.ok {K:b9} {st:aT} (F:cR K x qual st f fd) (S:aE N ps (ah st)) (len:∀vs H Q E,sp vs H Q E→vs.length=ps.length)
 (hbody:∀(cdv:aL) (A:oN) (outer:List Env) (s:bA) (H:Hp) (vs:List V) (Q:VK) (E:XK),iR k (A.deeper (xZ qual (ah st) s.heap.objs.size f cdv))→sp vs H Q E →
   ∃t,Lp (PF cY P w K mg base N qual (ah st) f cdv A outer s H E).nox (fD st) t∧t { nx:=λ_ H'=>Q .bM H',rt:=Q } (start N vs) H):bf P w K mg base cY (k+1) f fd ps sp:=by
 obtain ⟨oc,od,kV,doc,pm,an,cdv,ct,osl,rfl,lk,hcd⟩:=F.ex
 refine ac1 lk hcd S len λA outer s H vs Q E hr Yr=>?_
 obtain ⟨t,h,q⟩:=hbody cdv A outer s H vs Q E hr Yr
 exact ⟨t,h.nox,q⟩
theorem cR.binds {K:b9} {st:aT} (F:cR K x qual st f fd)
 (h:∀(kV doc pm:aL) (an:Option av) (cdv ct:aL) (us:List aL),us.length=ps.length→Aq 0#D ⟨us,[]⟩=pure (ps.zip us)):Binds K fd ps []:=by
 obtain ⟨oc,od,kV,doc,pm,an,cdv,ct,osl,rfl,lk,hcd⟩:=F.ex
 exact .all (h kV doc pm an cdv ct)
theorem LB {K:b9} {x:Str} {st:aT} {f:av} {oc:aL} {od an:Option av} {osl:Array (Option aL)} {kV doc pm cdv ct:aL} (l:K.lookup f=some ⟨oc,od,.func 0#D,osl⟩)
 (c:xU K cdv qual=true) (k:yd K (.ref f)=true):cR K x qual st f 0#D:=⟨⟨oc,od,kV,doc,pm,an,cdv,ct,osl,rfl,l,c⟩,k⟩
end
theorem aO (h:n≤1000):n<sizeLine:=EC h 0#i
section
theorem pv {X:Cx} (i:Nat) {x:Str} {pos:Pos} (hN:X.N[i]?=some x:=by rfl) (hv:Vis X.env.scope x:=by first | exact Or.inl rfl | exact Or.inr (Or.inl rfl) | exact Or.inr (Or.inr rfl)) (hd:0#B=false:=by decide)
 (hcd:(x==("__classdict__":Str))=false:=by decide):PE X (.Name x pos) (X6 i):=abM hN hv hd hcd
end
theorem bI {A:Prop} (h:B):if false=true then A else B:=by
 rw [if_neg dW]
 exact h
theorem cB {A:Prop} (h:A):if true=true then A else B:=by
 rw [if_pos rfl]
 exact h
theorem cD {A:Prop} [Decidable c] (h1:c→A) (h2:¬c→B):if c then A else B:=by
 by_cases h:c
 ·rw [if_pos h]
  exact h1 h
 ·rw [if_neg h]
  exact h2 h
def au (H H':Hp):Prop:=∀b o,H b=some o→H' b=some o
theorem au.refl (H:Hp):au H H:=λ_ _ h=>h
theorem au.trans (a:au H H1) (b:au H1 H2):au H H2:=λc o h=>b c o (a c o h)
theorem au.free (e:au H H')  (h:H' l=Option.none):H l=Option.none:=by
 cases q:H l with
 | none=>rfl
 | some o=>
   rw [e l o q] at h
   cases h
theorem au.seq {K:b9} (e:au H H') (h:aX K H a xs):aX K H' a xs:=by
 rcases h with (h | ⟨o,h⟩) | h
 ·exact .inl (.inl (e _ _ h))
 ·exact .inl (.inr ⟨o,e _ _ h⟩)
 ·exact .inr h
end L2
set_option maxHeartbeats 4000000
namespace Mth
def Sz (n:Nat) (x:Int):Prop:=x.natAbs<2 ^ n
instance {n:Nat} {x:Int}:Decidable (Sz n x):=inferInstanceAs (Decidable (x.natAbs<2 ^ n))
theorem Sz.mono (h:Sz m x) (hm:m≤n):Sz n x:=
 qT h (Zf 0#i hm)
theorem Sz.mul (hx:Sz m x) (hy:Sz n y):Sz (m+n) (x*y):=by
 unfold Sz at *
 rw [Vt,Nat.pow_add]
 exact Nat.mul_lt_mul'' hx hy
theorem Sz.add (hx:Sz m x) (hy:Sz m y):Sz (m+1) (x+y):=by
 unfold Sz at *
 rw [Nat.pow_succ]
 have:=O2 x y
 simp?
theorem Sz.neg (hx:Sz m x):Sz m (-x):=by
 unfold Sz at *
 rw [Pf];exact hx
theorem Sz.sub (hx:Sz m x) (hy:Sz m y):Sz (m+1) (x-y):=by
 rw [Int.sub_eq_add_neg];exact hx.add hy.neg
theorem Sz.of_le (hx:Sz m x) (h:y.natAbs≤x.natAbs):Sz m y:=EC h hx
theorem Sz.log (hx:Sz m x) (hm:m≤9000) (h0:0<m):x.natAbs.log2<9000:=by
 by_cases h:x.natAbs=0
 ·rw [h];decide
 ·have:=(Nat.log2_lt h).mpr hx
  simp?
theorem Sz.of_lt (h:x.natAbs<k) (hk:k≤2 ^ m):Sz m x:=qT h hk
structure VW (t b t' b':Int):Prop where
 pos:1≤b'
 co:cH t' b'=1
 eq:t'*b=t*b'
 tb:t'.natAbs≤t.natAbs
 bb:b'.natAbs≤b.natAbs
theorem Ji (x y:Nat):K7 y (x % y)=K7 x y:=by
 rw [aao y,← Nat.gcd_rec,aao]
theorem RY (hb:b≠0):cH (t/(cH t b:Int)) (b/(cH t b:Int))=1:=by
 have hp:0<cH t b:=Q7 t hb
 rw [Int.gcd_ediv (KU ..) (KS ..)]
 rw [Vb]
 exact Nat.div_self hp
theorem E3 {g:Nat} (hg:0<g) (e:a*(g:Int)=c):a.natAbs≤c.natAbs:=by
 subst e
 rw [Vt,Vb]
 exact Nat.le_mul_of_pos_right _ hg
theorem abw {g:Nat} (hg:0<g) (e1:t'*(g:Int)=t) (e2:b'*(g:Int)=b) (hb:0<b) (hc:cH t' b'=1):VW t b t' b':=by
 refine ⟨?_,hc,?_,E3 hg e1,E3 hg e2⟩
 ·have:0<b':=Int.pos_of_mul_pos_left (b:=(g:Int)) (by rw [e2];exact hb) 0#c
  simp?
 ·rw [← e1,← e2,Int.mul_assoc,pS (g:Int) b']
theorem GL (hb:0<b):VW t b (t.fdiv (cH t b:Int)) (b.fdiv (cH t b:Int)):=by
 have hp:0<cH t b:=Q7 t 0#c
 have h1:(cH t b:Int)∣t:=KU ..
 have h2:(cH t b:Int)∣b:=KS ..
 rw [DO _ 0#c,DO _ 0#c]
 exact abw hp (Zj h1) (Zj h2) hb (RY 0#c)
theorem wC (a:Int) (g:Nat):a.fdiv (-(g:Int))=(-a).fdiv (g:Int):=by
 have:=Int.neg_fdiv_neg a (-(g:Int))
 rw [VH] at this
 exact this.symm
theorem W9 (hb:b<0):VW (-t) (-b) (t.fdiv (-(cH t b:Int))) (b.fdiv (-(cH t b:Int))):=by
 have e:cH t b=cH (-t) (-b):=by rw [Int.gcd_neg,Int.neg_gcd]
 rw [wC,wC,e]
 exact GL 0#c
theorem RL (hc:cH b a=1) (h:b∣a*d):b∣d:=by
 have h':b.natAbs∣a.natAbs*d.natAbs:=by rw [← Vt];exact Y9.mpr h
 have hc':Nat.Coprime b.natAbs a.natAbs:=hc
 exact Y9.mp (hc'.dvd_of_dvd_mul_left h')
theorem Cg (hb:1≤b) (hd:1≤d) (h1:cH a b=1) (h2:cH c d=1) (e:a*d=c*b):a=c∧b=d:=by
 have k1:b∣d:=by
  have:b∣a*d:=⟨c,by rw [e,pS]⟩
  exact RL (by rw [VC];exact h1) this
 have k2:d∣b:=by
  have:d∣c*b:=⟨a,by rw [← e,pS]⟩
  exact RL (by rw [VC];exact h2) this
 have hbd:b=d:=Int.dvd_antisymm 0#c 0#c k1 k2
 subst hbd
 exact ⟨Int.eq_of_mul_eq_mul_right 0#c e,rfl⟩
theorem VW.self (h:VW t b t' b') (hb:1≤b) (hc:cH t b=1):t'=t∧b'=b:=
 let ⟨a,c⟩:=Cg hb h.pos hc h.co h.eq.symm
 ⟨a.symm,c.symm⟩
structure jF (H L high low x0 y0 x1 y1:Int):Prop where
 sg:(x0*y1-x1*y0=1∧0≤x0∧y0≤0∧x1≤0∧1≤y1)∨(x0*y1-x1*y0=-1∧x0≤0∧0≤y0∧0≤x1∧y1≤-1)
 eh:x0*H+y0*L=high
 el:x1*H+y1*L=low
 l0:0≤low
 lh:low≤high
 st:(x0=1∧y0=0∧x1=0∧y1=1)∨(y0≠0∧high≤L∧340282366920938463463374607431768211456≤high∧x0.natAbs≤x1.natAbs∧y0.natAbs≤y1.natAbs)
theorem jF.init (h0:0≤L) (h:L≤H):jF H L H L 1 0 0 1:=⟨.inl 0#c,by simp?,by simp?,h0,h,.inl 0#c⟩
theorem RU {x:Int} (hx:0≤x) (hy:0≤y):(x/y).natAbs≤x.natAbs:=by
 have h1:=O5 (a:=x) y hx
 have h2:=ZS hx hy
 simp?
theorem lC {q:Int} (hq:1≤q) (hz:0≤z):z≤q*z:=by
 have:=K8 hq hz
 simp?
theorem jF.step (h:jF H L high low x0 y0 x1 y1) (hl:340282366920938463463374607431768211456≤low) (hq:q=high/low) :
 jF H L low (high-q*low) x1 y1 (x0-q*x1) (y0-q*y1):=by
 obtain ⟨sg,eh,el,l0,lh,st⟩:=h
 have q1:1≤q:=by
  rw [hq];exact (Y5 0#c).mpr 0#c
 have em:high-q*low=high % low:=by
  have:=KH high low
  rw [hq,pS];simp?
 have m0:0≤high % low:=Bd _ 0#c
 have m1:high % low<low:=zU _ 0#c
 have hlL:low≤L:=by
  rcases st with ⟨a,b,c,d⟩ | ⟨_,a,_⟩
  ·subst a b c d;simp?
  ·simp?
 have det:x1*(y0-q*y1)-(x0-q*x1)*y1=-(x0*y1-x1*y0):=by grind
 have hel:(x0-q*x1)*H+(y0-q*y1)*L=high-q*low:=by rw [← eh,← el];grind
 refine ⟨?_,el,hel,by simp?,by simp?,.inr ⟨?_,hlL,hl,?_,?_⟩⟩
 ·rcases sg with ⟨d,a,b,c,e⟩ | ⟨d,a,b,c,e⟩
  ·right
   have k1:=lC q1 (z:=-x1) 0#c
   have k2:=lC q1 (z:=y1) 0#c
   rw [K5] at k1
   exact ⟨by simp?,by simp?,by simp?,by simp?,by simp?⟩
  ·left
   have k1:=lC q1 (z:=x1) 0#c
   have k2:=lC q1 (z:=-y1) 0#c
   rw [K5] at k2
   exact ⟨by simp?,by simp?,by simp?,by simp?,by simp?⟩
 ·rcases sg with ⟨d,a,b,c,e⟩ | ⟨d,a,b,c,e⟩ <;> simp?
 ·rcases sg with ⟨d,a,b,c,e⟩ | ⟨d,a,b,c,e⟩
  ·have k1:=lC q1 (z:=-x1) 0#c
   rw [K5] at k1
   simp?
  ·have k1:=lC q1 (z:=x1) 0#c
   simp?
 ·rcases sg with ⟨d,a,b,c,e⟩ | ⟨d,a,b,c,e⟩
  ·have k1:=lC q1 (z:=y1) 0#c
   simp?
  ·have k1:=lC q1 (z:=-y1) 0#c
   rw [K5] at k1
   simp?
theorem jF.WW (h:jF H L high low x0 y0 x1 y1) (h1:L≤H):high≤H:=by
 obtain ⟨sg,eh,el,l0,lh,st⟩:=h
 rcases st with ⟨a,b,c,d⟩ | ⟨_,a,_⟩
 ·subst a b c d;simp?
 ·simp?
theorem jF.abH (h:jF H L high low x0 y0 x1 y1) (hh:1≤high):x1.natAbs≤L.natAbs∧y1.natAbs≤H.natAbs:=by
 obtain ⟨sg,eh,el,l0,lh,st⟩:=h
 rcases sg with ⟨d,a,b,c,e⟩ | ⟨d,a,b,c,e⟩
 ·have e1:y1*high+(-y0)*low=H:=by
   have:y1*high+(-y0)*low=(x0*y1-x1*y0)*H:=by rw [← eh,← el];grind
   rw [this,d];simp?
  have e2:(-x1)*high+x0*low=L:=by
   have:(-x1)*high+x0*low=(x0*y1-x1*y0)*L:=by rw [← eh,← el];grind
   rw [this,d];simp?
  have n1:0≤(-y0)*low:=pB 0#c l0
  have n2:0≤x0*low:=pB 0#c l0
  have k1:y1≤y1*high:=by rw [pS];exact lC hh 0#c
  have k2:-x1≤(-x1)*high:=by rw [pS];exact lC hh 0#c
  simp?
 ·have e1:(-y1)*high+y0*low=H:=by
   have:(-y1)*high+y0*low=-(x0*y1-x1*y0)*H:=by rw [← eh,← el];grind
   rw [this,d];simp?
  have e2:x1*high+(-x0)*low=L:=by
   have:x1*high+(-x0)*low=-(x0*y1-x1*y0)*L:=by rw [← eh,← el];grind
   rw [this,d];simp?
  have n1:0≤y0*low:=pB 0#c l0
  have n2:0≤(-x0)*low:=pB 0#c l0
  have k1:-y1≤(-y1)*high:=by rw [pS];exact lC hh 0#c
  have k2:x1≤x1*high:=by rw [pS];exact lC hh 0#c
  simp?
theorem mw {B:Int} (hy:0≤y) (hh:340282366920938463463374607431768211456≤h) (hm:y*h≤B) (hB:B<115792089237316195423570985008687907853269984665640564039457584007913129639936):y≤340282366920938463463374607431768211456:=by
 by_cases c:y≤340282366920938463463374607431768211456
 ·exact c
 ·have:=DC (a:=340282366920938463463374607431768211456) (c:=y) (b:=340282366920938463463374607431768211456) (d:=h) 0#c hh 0#c hy
  simp?
theorem jF.small (h:jF H L high low x0 y0 x1 y1) (hy:y0≠0) (hL:L≤H) (hH:H<115792089237316195423570985008687907853269984665640564039457584007913129639936) :
 x0.natAbs≤340282366920938463463374607431768211456∧y0.natAbs≤340282366920938463463374607431768211456∧x1.natAbs≤340282366920938463463374607431768211456∧y1.natAbs≤340282366920938463463374607431768211456:=by
 obtain ⟨sg,eh,el,l0,lh,st⟩:=h
 rcases st with ⟨_,z,_⟩ | ⟨_,hl,hh,ax,ay⟩
 ·exact absurd z hy
 rcases sg with ⟨d,a,b,c,e⟩ | ⟨d,a,b,c,e⟩
 ·have e1:y1*high+(-y0)*low=H:=by
   have:y1*high+(-y0)*low=(x0*y1-x1*y0)*H:=by rw [← eh,← el];grind
   rw [this,d];simp?
  have e2:(-x1)*high+x0*low=L:=by
   have:(-x1)*high+x0*low=(x0*y1-x1*y0)*L:=by rw [← eh,← el];grind
   rw [this,d];simp?
  have n1:0≤(-y0)*low:=pB 0#c l0
  have n2:0≤x0*low:=pB 0#c l0
  have k1:=mw (y:=y1) (B:=H) 0#c hh 0#c hH
  have k2:=mw (y:=-x1) (B:=H) 0#c hh 0#c hH
  simp?
 ·have e1:(-y1)*high+y0*low=H:=by
   have:(-y1)*high+y0*low=-(x0*y1-x1*y0)*H:=by rw [← eh,← el];grind
   rw [this,d];simp?
  have e2:x1*high+(-x0)*low=L:=by
   have:x1*high+(-x0)*low=-(x0*y1-x1*y0)*L:=by rw [← eh,← el];grind
   rw [this,d];simp?
  have n1:0≤y0*low:=pB 0#c l0
  have n2:0≤(-x0)*low:=pB 0#c l0
  have k1:=mw (y:=-y1) (B:=H) 0#c hh 0#c hH
  have k2:=mw (y:=x1) (B:=H) 0#c hh 0#c hH
  simp?
theorem SX {M:Int} (hx:x.natAbs≤M) (hy:y.natAbs≤M) (f0:0≤f) (f1:f≤T) (r0:0≤r) (r1:r≤T) (hs:(0≤x∧y≤0)∨(x≤0∧0≤y)):(x*f+y*r).natAbs≤M*T:=by
 rcases hs with ⟨a,b⟩ | ⟨a,b⟩
 ·have k1:=DC (a:=x) (c:=M) (b:=f) (d:=T) 0#c f1 f0 0#c
  have k2:=DC (a:=-y) (c:=M) (b:=r) (d:=T) 0#c r1 r0 0#c
  have k3:=pB a f0
  have k4:=pB (a:=-y) (b:=r) 0#c r0
  rw [Po] at k2 k4
  simp?
 ·have k1:=DC (a:=-x) (c:=M) (b:=f) (d:=T) 0#c f1 f0 0#c
  have k2:=DC (a:=y) (c:=M) (b:=r) (d:=T) 0#c r1 r0 0#c
  have k3:=pB (a:=-x) (b:=f) 0#c f0
  have k4:=pB (a:=y) (b:=r) 0#c r0
  rw [Po] at k1 k3
  simp?
theorem jF.less (h:jF H L high low x0 y0 x1 y1) (hy:y0≠0) (hL:L≤H) (h1:57896044618658097711785492504343953926634992332820282019728792003956564819968≤H)
 (hH:H<115792089237316195423570985008687907853269984665640564039457584007913129639936) (hl:low≤340282366920938463463374607431768211456) (f0:0≤f) (f1:f<T) (r0:0≤r) (r1:r<T) :
 (x0*(H*T+f)+y0*(L*T+r)).natAbs+(x1*(H*T+f)+y1*(L*T+r)).natAbs<(H*T+f).natAbs+(L*T+r).natAbs:=by
 obtain ⟨sx0,sy0,sx1,sy1⟩:=h.small hy hL hH
 obtain ⟨sg,eh,el,l0,lh,st⟩:=h
 rcases st with ⟨_,z,_⟩ | ⟨_,hhL,hh,ax,ay⟩
 ·exact absurd z hy
 have A:x0*(H*T+f)+y0*(L*T+r)=high*T+(x0*f+y0*r):=by rw [← eh];grind
 have B:x1*(H*T+f)+y1*(L*T+r)=low*T+(x1*f+y1*r):=by rw [← el];grind
 have mA:=SX (x:=x0) (y:=y0) (f:=f) (r:=r) (T:=T) (M:=340282366920938463463374607431768211456) 0#c 0#c f0 0#c r0 0#c (by rcases sg with ⟨d,a,b,c,e⟩ | ⟨d,a,b,c,e⟩ <;> simp?)
 have mB:=SX (x:=x1) (y:=y1) (f:=f) (r:=r) (T:=T) (M:=340282366920938463463374607431768211456) 0#c 0#c f0 0#c r0 0#c (by rcases sg with ⟨d,a,b,c,e⟩ | ⟨d,a,b,c,e⟩ <;> simp?)
 have t1:0≤high*T:=pB 0#c 0#c
 have t2:0≤low*T:=pB l0 0#c
 have t3:high*T≤L*T:=K8 hhL 0#c
 have t4:low*T≤340282366920938463463374607431768211456*T:=K8 hl 0#c
 have t5:57896044618658097711785492504343953926634992332820282019728792003956564819968*T≤H*T:=K8 h1 0#c
 rw [A,B]
 simp?
theorem Oa (d:x0*y1-x1*y0=1∨x0*y1-x1*y0=-1):cH (x0*a+y0*b) (x1*a+y1*b)=cH a b:=by
 refine Nat.dvd_antisymm ?_ ?_
 ·have h1:(cH (x0*a+y0*b) (x1*a+y1*b):Int)∣x0*a+y0*b:=KU ..
  have h2:(cH (x0*a+y0*b) (x1*a+y1*b):Int)∣x1*a+y1*b:=KS ..
  generalize (cH (x0*a+y0*b) (x1*a+y1*b))=g at h1 h2
  obtain ⟨u,hu⟩:=h1
  obtain ⟨v,hv⟩:=h2
  refine aax ?_ ?_
  ·rcases d with d | d
   ·exact ⟨y1*u-y0*v,by
     have:(x0*y1-x1*y0)*a=g*(y1*u-y0*v):=by grind
     rw [d] at this;simp?⟩
   ·exact ⟨-(y1*u-y0*v),by
     have:-(x0*y1-x1*y0)*a=g*(-(y1*u-y0*v)):=by grind
     rw [d] at this;simp?⟩
  ·rcases d with d | d
   ·exact ⟨x0*v-x1*u,by
     have:(x0*y1-x1*y0)*b=g*(x0*v-x1*u):=by grind
     rw [d] at this;simp?⟩
   ·exact ⟨-(x0*v-x1*u),by
     have:-(x0*y1-x1*y0)*b=g*(-(x0*v-x1*u)):=by grind
     rw [d] at this;simp?⟩
 ·have h1:(cH a b:Int)∣a:=KU ..
  have h2:(cH a b:Int)∣b:=KS ..
  exact aax (aay (ON h1) (ON h2)) (aay (ON h1) (ON h2))
theorem jF.gcd (h:jF H L high low x0 y0 x1 y1):cH (x0*a+y0*b) (x1*a+y1*b)=cH a b:=
 Oa (h.sg.imp (·.1) (·.1))
theorem Ob (lo:(2:Int) ^ (255+t)≤x) (hi:x<(2:Int) ^ (256+t)) :
 57896044618658097711785492504343953926634992332820282019728792003956564819968≤x/2 ^ t∧x/2 ^ t<115792089237316195423570985008687907853269984665640564039457584007913129639936:=by
 have tp:(0:Int)<2 ^ t:=VI 0#i
 refine ⟨(Y5 tp).mpr ?_,(Int.ediv_lt_iff_lt_mul tp).mpr ?_⟩
 ·rw [aaz] at lo;exact lo
 ·rw [aaz] at hi;exact hi
theorem LW (h:jF H L high low x0 y0 x1 y1) (hy:y0≠0) (yx:y≤x) (lo:(2:Int) ^ (255+t)≤x) (hi:x<(2:Int) ^ (256+t))
 (eH:H=x/2 ^ t) (eL:L=y/2 ^ t) (hl:low≤340282366920938463463374607431768211456) :
 (x0*x+y0*y).natAbs+(x1*x+y1*y).natAbs<x.natAbs+y.natAbs:=by
 have tp:(0:Int)<2 ^ t:=VI 0#i
 have hd:=Ob lo hi
 have e1:=KH x (2 ^ t)
 have e2:=KH y (2 ^ t)
 have m1:=Bd x (b:=2 ^ t) 0#c
 have m2:=Bd y (b:=2 ^ t) 0#c
 have l1:=zU x tp
 have l2:=zU y tp
 have hLH:L≤H:=by rw [eH,eL];exact Vh tp yx
 have:=h.less hy hLH (by rw [eH];exact hd.1) (by rw [eH];exact hd.2) hl m1 l1 m2 l2
 rw [eH,eL,pS (x/2 ^ t),pS (y/2 ^ t),e1,e2] at this
 exact this
theorem vq (hp:p=if b>a then b else a) (hq:q=if b<a then b else a):cH p q=cH a b:=by
 subst hp hq
 by_cases h:b>a
 ·rw [if_pos h,if_neg 0#c];exact VC b a
 ·by_cases k:b<a
  ·rw [if_neg h,if_pos k]
  ·have:a=b:=by simp?
   subst this;simp
theorem S3 (A B:Nat):0≤(if (B:Int)<(A:Int) then (B:Int) else (A:Int)):=by
 split
 ·exact OY _
 ·exact OY _
theorem Mj (A B:Nat):((if (B:Int)>(A:Int) then (B:Int) else (A:Int))=(B:Int)∧(if (B:Int)<(A:Int) then (B:Int) else (A:Int))=(A:Int)∧(A:Int)≤(B:Int))∨((if (B:Int)>(A:Int) then (B:Int) else (A:Int))=(A:Int)∧(if (B:Int)<(A:Int) then (B:Int) else (A:Int))=(B:Int)∧(B:Int)≤(A:Int)):=by
 rcases aap (A:Int) (B:Int) with h | h
 ·exact .inl ⟨if_pos h,if_neg (uX.mpr (Pj h)),Pj h⟩
 ·refine .inr ⟨if_neg (uX.mpr h),?_,h⟩
  split
  ·rfl
  ·rename_i h2
   exact Vn (uX.mp h2) h
theorem SY (A B:Nat):(if (B:Int)<(A:Int) then (B:Int) else (A:Int))≤(if (B:Int)>(A:Int) then (B:Int) else (A:Int)):=by
 rcases Mj A B with ⟨e1,e2,h⟩ | ⟨e1,e2,h⟩ <;> rw [e1,e2] <;> exact h
theorem Mi {z:Int} (h:A+B≤z.natAbs):((if (B:Int)>(A:Int) then (B:Int) else (A:Int))+(if (B:Int)<(A:Int) then (B:Int) else (A:Int))).natAbs≤z.natAbs:=by
 rcases Mj A B with ⟨e1,e2,_⟩ | ⟨e1,e2,_⟩ <;> rw [e1,e2]
 ·exact dP (O2 _ _) (by rw [An];exact h)
 ·exact dP (O2 _ _) h
theorem Yw {A:Nat} (ls:A+B<x.natAbs+y.natAbs) (y0:0≤y) (yx:y≤x):Pq (if (B:Int)>(A:Int) then (B:Int) else (A:Int))+Pq (if (B:Int)<(A:Int) then (B:Int) else (A:Int))<Pq x+Pq y:=by
 have ex:x.toNat=x.natAbs:=Zk (Pk y0 yx) |> λe=>aaf (e.trans (Zg (Pk y0 yx)).symm)
 have ey:y.toNat=y.natAbs:=Zk y0 |> λe=>aaf (e.trans (Zg y0).symm)
 rw [ex,ey]
 rcases Mj A B with ⟨e1,e2,_⟩ | ⟨e1,e2,_⟩ <;> rw [e1,e2,Vf,Vf]
 ·rw [An]
  exact ls
 ·exact ls
theorem nab {a:Int} (ha:a.natAbs≤p) (hb:b.natAbs≤q) (h:p+q≤r):(a+b).natAbs≤r:=dP (O2 a b) (dP (Nat.add_le_add ha hb) h)
theorem af7 {w:Int} (h0:0≤w) (h5:w<5):(w-1).natAbs≤3:=by lia
theorem adG {z:Int} (h0:0≤z) (h:z<25):(z-12).natAbs≤12:=by lia
theorem af6 {w:Int} (h0:0≤w) (h5:w<3):w.natAbs≤12:=by lia
theorem af8 {st:Int} (h0:0≤st) (h:st≤2*1009):(1+st).natAbs≤2100:=by lia
theorem Yx {x:Int} (ls:A+B<x.natAbs+y.natAbs) (y0:0≤y) (yx:y≤x):A+B≤(x+y).natAbs:=by simp?
theorem aa4 (y0:0≤y):1*x+-(x.fdiv y)*y=x % y:=by
 have em:=KH x y
 rw [pS] at em
 rw [DO _ y0,Po]
 simp?
theorem WB {x:Int} (y1:1≤y) (yx:y≤x):(0*x+1*y).natAbs+(1*x+-(x.fdiv y)*y).natAbs<x.natAbs+y.natAbs:=by
 have m0:=Bd x (b:=y) 0#c
 have m1:=zU x (b:=y) 0#c
 rw [aa4 0#c]
 simp?
structure Qt (t b:Int) (q:Rat):Prop where
 pos:1≤b
 eq:(t:Rat)=q*(b:Rat)
structure Fr (t b:Int) (q:Rat):Prop where
 pos:1≤b
 co:cH t b=1
 eq:(t:Rat)=q*(b:Rat)
theorem Fr.qt (h:Fr t b q):Qt t b q:=⟨h.pos,h.eq⟩
theorem cI {b:Int} (h:b≠0):(b:Rat)≠0:=by
 intro e
 apply h
 have:((b:Int):Rat)=((0:Int):Rat):=by rw [e];rfl
 exact KY.mp this
theorem Fr.Mw (h:VW T B t b) (hB:B≠0) (e:(T:Rat)=q*(B:Rat)):Fr t b q:=by
 refine ⟨h.pos,h.co,?_⟩
 have k:=congrArg (λx:Int=>(x:Rat)) h.eq
 simp only [nY] at k
 have hB':=cI hB
 grind
theorem Fr.unique (h:Fr t b q) (h':Fr t' b' q):t=t'∧b=b':=by
 refine Cg h.pos h'.pos h.co h'.co ?_
 have e:((t*b':Int):Rat)=((t'*b:Int):Rat):=by
  have e1:=h.eq
  have e2:=h'.eq
  simp only [nY]
  grind
 exact KY.mp e
theorem Fr.worth (h:Fr t b q) (h':Fr t' b' q') (e:t=t') (e':b=b'):q=q':=by
 subst e e'
 have hb:=cI (b:=b) (by have:=h.pos;simp?)
 have e1:=h.eq
 have e2:=h'.eq
 grind
theorem m7 {b:Int} (hb:1≤b) (hd:1≤d):1≤b*d:=by
 have:=xV (show 0<b by simp?) (show 0<d by simp?)
 simp?
theorem Qt.plus (h:Qt a b q) (k:Qt c d r):Qt (a*d+c*b) (b*d) (q+r):=by
 refine ⟨m7 h.pos k.pos,?_⟩
 have e1:=h.eq
 have e2:=k.eq
 simp only [nY,Vo]
 grind
theorem Qt.minus (h:Qt a b q) (k:Qt c d r):Qt (a*d-c*b) (b*d) (q-r):=by
 refine ⟨m7 h.pos k.pos,?_⟩
 have e1:=h.eq
 have e2:=k.eq
 simp only [nY,oh]
 grind
theorem Qt.times (h:Qt a b q) (k:Qt c d r):Qt (a*c) (b*d) (q*r):=by
 refine ⟨m7 h.pos k.pos,?_⟩
 have e1:=h.eq
 have e2:=k.eq
 simp only [nY]
 grind
theorem Qt.neg (h:Qt a b q):Qt (-a) b (-q):=by
 refine ⟨h.pos,?_⟩
 have e1:=h.eq
 simp only [Pa]
 grind
theorem Qt.whole (m:Int):Qt m 1 (m:Rat):=⟨by simp?,by simp⟩
theorem Fr.whole (m:Int):Fr m 1 (m:Rat):=⟨by simp?,by simp,by simp⟩
theorem Qt.div (h:Qt a b q) (hs:0<s):Qt a (b*s) (q/(s:Rat)):=by
 refine ⟨m7 h.pos 0#c,?_⟩
 have e1:=h.eq
 have hs':=cI (b:=s) 0#c
 simp only [nY]
 grind
theorem Qt.aft (h:Qt a b q) (hs:s<0):Qt (-a) (b*-s) (q/(s:Rat)):=by
 have k:=h.neg.div (s:=-s) 0#c
 have hs':=cI (b:=s) 0#c
 have e:-q/((-s:Int):Rat)=q/(s:Rat):=by
  simp only [Pa]
  grind
 rw [e] at k
 exact k
theorem Xr (h:Qt a b q) (k:Qt c d r) (hc:c≠0):b*c≠0∧((a*d:Int):Rat)=q/r*((b*c:Int):Rat):=by
 have hb:=h.pos
 have hd:=k.pos
 refine ⟨Int.mul_ne_zero 0#c hc,?_⟩
 have e1:=h.eq
 have e2:=k.eq
 have hc':=cI hc
 have hd':=cI (b:=d) 0#c
 have hr:r≠0:=by
  intro z
  rw [z] at e2
  apply hc'
  grind
 simp only [nY]
 grind
theorem Qt.U3 (h:Qt a b q):a=0↔q=0:=by
 have e:=h.eq
 have hb:=cI (b:=b) (by have:=h.pos;simp?)
 constructor
 ·intro z
  subst z
  have:(0:Rat)=q*(b:Rat):=by rw [← e];rfl
  grind
 ·intro z
  subst z
  have:((a:Int):Rat)=((0:Int):Rat):=by rw [e];grind
  exact KY.mp this
theorem Qt.lt_iff (h:Qt a b q) (k:Qt c d r):a*d<c*b↔q<r:=by
 have e1:=h.eq
 have e2:=k.eq
 have hb:(0:Rat)<(b:Rat):=by have:=h.pos;exact Pb.mpr 0#c
 have hd:(0:Rat)<(d:Rat):=by have:=k.pos;exact Pb.mpr 0#c
 have hbd:(0:Rat)<(b:Rat)*(d:Rat):=aaA hb hd
 have l:((a*d:Int):Rat)=q*((b:Rat)*(d:Rat)):=by simp only [nY];grind
 have m:((c*b:Int):Rat)=r*((b:Rat)*(d:Rat)):=by simp only [nY];grind
 rw [← vW,l,m]
 exact IE hbd
def dO (q:Rat):Rat:=if q<0 then -q else q
theorem XH (q:Rat):0≤dO q:=by unfold dO;split <;> grind
theorem ux:dO q≤w↔-w≤q∧q≤w:=by unfold dO;split <;> grind
theorem Qt.abs (h:Qt a b q):Qt (a.natAbs:Int) b (dO q):=by
 have hb:(0:Rat)<(b:Rat):=by have:=h.pos;exact Pb.mpr 0#c
 have z:a<0↔q<0:=by
  have l:=Qt.lt_iff h (Qt.whole 0)
  simp at l
  exact l
 unfold dO
 by_cases h0:a<0
 ·rw [if_pos (z.mp h0)]
  have e:(a.natAbs:Int)=-a:=by simp?
  rw [e]
  exact h.neg
 ·rw [if_neg (λq=>h0 (z.mpr q))]
  have e:(a.natAbs:Int)=a:=by simp?
  rw [e]
  exact h
def c6 (t:Rat) (q:Rat) (u:Rat) (t':Rat) (q':Rat):Rat:=(q*(t'-u)+q'*(u-t))/(t'-t)
theorem zW (h:t≠t'):q+(q'-q)/(t'-t)*(u-t)=c6 t q u t' q':=by
 unfold c6
 have:t'-t≠0:=by grind
 grind
theorem Fr.own (q:Rat):Fr q.num (q.den:Int) q:=by
 have hp:=q.den_pos
 have hd:((q.den:Int):Rat)≠0:=cI 0#c
 refine ⟨by simp?,?_,?_⟩
 ·have:=q.reduced
  exact this
 ·have h:=Rat.num_divInt_den q
  rw [Rat.divInt_eq_div] at h
  grind
theorem Fr.Bq (h:Fr t b q):t=q.num∧b=(q.den:Int):=h.unique (Fr.own q)
def bU {α:Type} (s:α→Bool) (es:List α) (i:Nat):Bool:=decide (0<i)&&((es[i-1]?).map s).getD false
def parts {α:Type} (s:α→Bool) (es:List α):Nat→List (List α)
 | 0=>[]
 | i+1=>match es[i]? with
   | none=>parts s es i
   | some e=>if s e=true then (if bU s es i=true then (parts s es i).dropLast++[((parts s es i).getLast?.getD [])++[e]] else parts s es i++[[e]]) else parts s es i
section
variable {α:Type} {s:α→Bool} {es:List α} {i:Nat} {e:α}
theorem jm (h:es[i]?=some e) (hs:s e=false):parts s es (i+1)=parts s es i:=by
 show (match es[i]? with | none=>_ | some e=>_)=_
 rw [h]
 show (if s e=true then _ else _)=_
 rw [hs]
 rfl
theorem jn (h:es[i]?=some e) (hs:s e=true) (hi:bU s es i=false):parts s es (i+1)=parts s es i++[[e]]:=by
 show (match es[i]? with | none=>_ | some e=>_)=_
 rw [h]
 show (if s e=true then (if bU s es i=true then _ else _) else _)=_
 rw [hs,hi]
 rfl
theorem m9 (h:es[i]?=some e) (hs:s e=true) (hi:bU s es i=true) (hp:parts s es i=t++[r]):parts s es (i+1)=t++[r++[e]]:=by
 show (match es[i]? with | none=>_ | some e=>_)=_
 rw [h]
 show (if s e=true then (if bU s es i=true then _ else _) else _)=_
 rw [hs,hi,hp]
 simp
theorem uu:∀i:Nat,(parts s es i).length≤i
 | 0=>dG _
 | i+1=>by
   have ih:=uu i
   show (match es[i]? with | none=>_ | some e=>_:List (List α)).length≤i+1
   cases es[i]? with
   | none=>exact Af ih
   | some e=>
     show (if s e=true then (if bU s es i=true then _ else _) else _:List (List α)).length≤i+1
     split
     ·split
      ·rw [fj,List.length_dropLast]
       simp
       simp?
      ·rw [fj]
       simp
       simp?
     ·exact Af ih
theorem sD (h:bU s es i=true):∃t r,parts s es i=t++[r]:=by
 unfold bU at h
 rw [Ai] at h
 obtain ⟨h0,h1⟩:=h
 have h0:=jw h0
 obtain ⟨j,rfl⟩:∃j,i=j+1:=⟨i-1,by simp?⟩
 rw [KO] at h1
 cases e:es[j]? with
 | none=>rw [e] at h1;simp at h1
 | some d=>
   rw [e] at h1
   have hd:s d=true:=by simpa using h1
   cases hr:bU s es j with
   | true=>
     refine ⟨(parts s es j).dropLast,((parts s es j).getLast?.getD [])++[d],?_⟩
     show (match es[j]? with | none=>_ | some e=>_)=_
     rw [e]
     show (if s d=true then (if bU s es j=true then _ else _) else _)=_
     rw [hd,hr]
     rfl
   | false=>exact ⟨_,_,jn e hd hr⟩
theorem CA:∀(i:Nat) (r:List α),r∈parts s es i→r.length≤i
 | 0,r,h=>absurd h (by simp [parts])
 | i+1,r,h=>by
   have ih:=CA i
   unfold parts at h
   cases e:es[i]? with
   | none=>rw [e] at h;exact Af (ih r h)
   | some y=>
     rw [e] at h
     dsimp only at h
     split at h
     ·split at h
      ·rcases dg.mp h with z | z
       ·exact Af (ih r (Za _ |>.subset z))
       ·obtain rfl:r=((parts s es i).getLast?.getD [])++[y]:=by simpa using z
        rw [fj]
        cases g:(parts s es i).getLast? with
        | none=>simp
        | some r'=>
          have:=ih r' (List.mem_of_getLast? g)
          simp
          simp?
      ·rcases dg.mp h with z | z
       ·exact Af (ih r z)
       ·obtain rfl:r=[y]:=by simpa using z
        simp
     ·exact Af (ih r h)
theorem fN (h:es[i]?=some e):bU s es (i+1)=s e:=by
 unfold bU
 rw [KO,h]
 simp
end
theorem wZ (h:0<s):dO (q*s)=dO q*s:=by
 unfold dO
 by_cases h0:q<0
 ·have:q*s<0:=by
   have:=IB h0 h
   grind
  rw [if_pos h0,if_pos this]
  grind
 ·have:¬q*s<0:=by
   have h1:0≤q:=by grind
   have:=Rat.mul_nonneg h1 (show 0≤s by grind)
   grind
  rw [if_neg h0,if_neg this]
theorem cast_pos {b:Int} (h:0<b):(0:Rat)<(b:Rat):=Pb.mpr h
theorem rX {t:Int} (h:t<t'):((t':Rat)-(t:Rat))≠0:=by
 have:(t:Rat)<(t':Rat):=vW.mpr h
 grind
theorem mG (h:t'-t≠0):c6 t q u t' q'*(t'-t)=q*(t'-u)+q'*(u-t):=by
 unfold c6
 grind
theorem aa1 (hi:Fr a b qi) (hj:Fr a' b' qj) (hp:Fr c e qp) (h:ti<tj) :
 Qt (c*(b'*b*(tj-ti))-e*(a*(b'*(tj-ti))+(a'*b-a*b')*(tp-ti))) e ((qp-c6 ti qi tp tj qj)*((b'*b*(tj-ti):Int):Rat)):=by
 refine ⟨hp.pos,?_⟩
 have e1:=hi.eq
 have e2:=hj.eq
 have e3:=hp.eq
 have hX:=mG (t:=(ti:Rat)) (q:=qi) (u:=(tp:Rat)) (t':=(tj:Rat)) (q':=qj) (rX h)
 simp only [nY,oh,Vo]
 generalize c6 (ti:Rat) qi (tp:Rat) (tj:Rat) qj=X at *
 grind
structure jW (s:Nat→Rat) (i m k:Nat):Prop where
 lo:i<k
 hi:k<m
 top:∀k',i<k'→k'<m→s k'≤s k
 fst:∀k',i<k'→k'<k→s k'<s k
section
variable {s s':Nat→Rat} {i m k k':Nat} {c:Rat}
theorem jW.first:jW s i (i+2) (i+1):=⟨by simp?,by simp?,λk' h1 h2=>by
 obtain rfl:k'=i+1:=by simp?
 exact pV,λk' h1 h2=>by simp?⟩
theorem jW.keep (h:jW s i m k) (h1:s m≤s k):jW s i (m+1) k:=⟨h.lo,by have:=h.hi;simp?,λk' h2 h3=>by
 by_cases e:k'=m
 ·subst e;exact h1
 ·exact h.top k' h2 0#c,h.fst⟩
theorem jW.next (h:jW s i m k) (h1:s k<s m):jW s i (m+1) m:=⟨by have:=h.lo;have:=h.hi;simp?,by simp?,λk' h2 h3=>by
 by_cases e:k'=m
 ·subst e;exact pV
 ·have:=h.top k' h2 0#c
  grind,λk' h2 h3=>by
 have:=h.top k' h2 0#c
 grind⟩
theorem jW.unique (h:jW s i m k) (h':jW s i m k'):k=k':=by
 by_cases e:k<k'
 ·have h1:=h'.fst k h.lo e
  have h2:=h.top k' h'.lo h'.hi
  grind
 ·by_cases e':k'<k
  ·have h1:=h.fst k' h'.lo e'
   have h2:=h'.top k h.lo h.hi
   grind
  ·simp?
end
structure jE (L:Nat→Nat→Prop) (N:Nat) (t:Nat→Int):Prop where
 first:t 0=0
 le:∀i j,i<j→j<N→L i j→t j≤t i+1
 ex:∀j,0<j→j<N→∃i,i<j∧L i j∧t j=t i+1
structure qq (L:Nat→Nat→Prop) (N f:Nat) (t:Nat→Int):Prop where
 first:t 0=0
 le:∀i j,i<f→i<j→j<N→L i j→t j≤t i+1
 ex:∀j,0<j→j<N→t j=(N:Int)∨∃i,i<f∧i<j∧L i j∧t j=t i+1
 lo:∀j,j<N→0≤t j
 hi:∀j,j<N→t j≤(N:Int)
section
theorem qq.start:qq L N 0 (λj=>if j=0 then 0 else (N:Int)):=by
 refine ⟨rfl,λi j h=>absurd h (Be _),λj h0 _=>.inl (if_neg 0#c),λj _=>?_,λj _=>?_⟩ <;> (show _≤_;split <;> simp?)
theorem qq.step (h:qq L N f t) (hL:∀j,L f j→f<j) (e:∀j,j<N→(L f j→u j=if t f+1<t j then t f+1 else t j)∧(¬L f j→u j=t j)) (hf:f<N):qq L N (f+1) u:=by
 have same:∀i,i≤f→i<N→u i=t i:=λi hi hN=>(e i hN).2 λz=>by have:=hL i z;simp?
 have h0:u 0=0:=by rw [same 0 0#c 0#c];exact h.first
 have hl:=h.lo f hf
 refine ⟨h0,λi j hi hij hj ac5=>?_,λj h0j hj=>?_,λj hj=>?_,λj hj=>?_⟩
 ·rw [same i 0#c 0#c]
  by_cases hi':i=f
  ·subst hi'
   rw [(e j hj).1 ac5]
   split <;> simp?
  ·have h1:=h.le i j 0#c hij hj ac5
   by_cases hLf:L f j
   ·rw [(e j hj).1 hLf]
    split <;> simp?
   ·rw [(e j hj).2 hLf]
    exact h1
 ·by_cases hLf:L f j
  ·have hfj:=hL j hLf
   have ej:=(e j hj).1 hLf
   by_cases hc:t f+1<t j
   ·rw [if_pos hc] at ej
    exact .inr ⟨f,by simp?,hfj,hLf,by rw [ej,same f 0#c hf]⟩
   ·rw [if_neg hc] at ej
    rcases h.ex j h0j hj with z | ⟨i,i1,i2,i3,i4⟩
    ·exact .inl (ej.trans z)
    ·exact .inr ⟨i,by simp?,i2,i3,by rw [ej,same i 0#c 0#c];exact i4⟩
  ·have ej:=(e j hj).2 hLf
   rcases h.ex j h0j hj with z | ⟨i,i1,i2,i3,i4⟩
   ·exact .inl (ej.trans z)
   ·exact .inr ⟨i,by simp?,i2,i3,by rw [ej,same i 0#c 0#c];exact i4⟩
 ·have h1:=h.lo j hj
  by_cases hLf:L f j
  ·rw [(e j hj).1 hLf]
   split <;> simp?
  ·rw [(e j hj).2 hLf]
   exact h1
 ·have h1:=h.hi j hj
  by_cases hLf:L f j
  ·rw [(e j hj).1 hLf]
   split <;> simp?
  ·rw [(e j hj).2 hLf]
   exact h1
theorem qq.done (h:qq L N f t) (hs:∀j,0<j→j<N→L (j-1) j) (hf:N≤f+1):jE L N t:=by
 have up:∀j,j<N→t j≤(j:Int):=by
  intro j
  induction j with
  | zero=>intro _;rw [h.first];simp?
  | succ j ih=>
    intro hj
    have h1:=ih 0#c
    have h2:=h.le j (j+1) 0#c 0#c hj (hs (j+1) 0#c hj)
    simp?
 refine ⟨h.first,λi j hij hj hL=>h.le i j 0#c hij hj hL,λj h0 hj=>?_⟩
 rcases h.ex j h0 hj with z | ⟨i,i1,i2,i3,i4⟩
 ·have:=up j hj
  simp?
 ·exact ⟨i,i2,i3,i4⟩
end
theorem Ea {α:Type} (N:Nat) (f:Nat→α) (j:Nat) (v:α):((fM N).map f).set j v=(fM N).map (λi=>if i=j then v else f i):=by
 apply ZC
 intro i
 rw [List.getElem?_set]
 by_cases hi:i<N
 ·rw [dw,IG hi,dw,IG hi]
  by_cases e:j=i
  ·subst e
   simp [hi]
  ·have e':¬i=j:=λz=>e z.symm
   simp [e,e']
 ·have h1:(fM N)[i]?=none:=by simp;simp?
  rw [dw,dw,h1]
  by_cases e:j=i
  ·subst e
   simp;simp?
  ·simp [e]
theorem wM {α:Type} {f:Nat→α} (h:j<N):((fM N).map f)[j]?=some (f j):=by
 rw [dw,IG h]
 rfl
theorem oE {a:Rat} (h:0<c):a/c≤b↔a≤b*c:=by
 have e:a/c*c=a:=by grind
 constructor
 ·intro z
  have:=zQ z (show 0≤c by grind)
  rw [e] at this
  exact this
 ·intro z
  exact OJ (by rw [e];exact z) h
theorem l9 {a:Rat} (h:0<c):a≤b/c↔a*c≤b:=by
 have e:b/c*c=b:=by grind
 constructor
 ·intro z
  have:=zQ z (show 0≤c by grind)
  rw [e] at this
  exact this
 ·intro z
  exact OJ (by rw [e];exact z) h
theorem Gd (h1:ti<tk) (h2:tk<tj) :
 dO (qk-c6 ti qi tk tj qj)≤β↔(qk-β-qi)/(tk-ti)≤(qj-qi)/(tj-ti)∧(qj-qi)/(tj-ti)≤(qk+β-qi)/(tk-ti):=by
 rw [← zW (u:=tk) (show ti≠tj by grind)]
 have hd:0<tk-ti:=by grind
 generalize (qj-qi)/(tj-ti)=s
 rw [ux,oE hd,l9 hd]
 constructor <;> rintro ⟨a,b⟩ <;> constructor <;> grind
section
def loP (t v:Nat→Rat) (B:Rat) (i j:Nat):Rat:=(v j-B-v i)/(t j-t i)
def hiP (t v:Nat→Rat) (B:Rat) (i j:Nat):Rat:=(v j+B-v i)/(t j-t i)
def XZ (t v:Nat→Rat) (i j k:Nat):Rat:=v j-c6 (t i) (v i) (t j) (t k) (v k)
def acJ (t:Nat→Rat) (n:Nat):Prop:=∀i j,i<j→j<n→t i<t j
theorem rY (s:Rat) (h:ta<tc):c6 ta (x-s*ta) tb tc (y-s*tc)=c6 ta x tb tc y-s*tb:=by
 have h1:=mG (t:=ta) (q:=x-s*ta) (u:=tb) (t':=tc) (q':=y-s*tc) 0#O
 have h2:=mG (t:=ta) (q:=x) (u:=tb) (t':=tc) (q':=y) 0#O
 have h0:tc-ta≠0:=by grind
 have e:(c6 ta (x-s*ta) tb tc (y-s*tc)-(c6 ta x tb tc y-s*tb))*(tc-ta)=0:=by grind
 rcases ZT.mp e with z | z
 ·grind
 ·exact absurd z h0
theorem IZ (h1:ta<tb) (h2:tb<tc) (hx:x<M) (hy:y<M):c6 ta x tb tc y<M:=by
 have e:=mG (t:=ta) (q:=x) (u:=tb) (t':=tc) (q':=y) 0#O
 have p1:=(IE (show 0<tc-tb by grind)).mpr hx
 have p2:=(IE (show 0<tb-ta by grind)).mpr hy
 refine (IE (show 0<tc-ta by grind)).mp ?_
 rw [e]
 grind
theorem IY (h1:ta<tb) (h2:tb<tc) (hx:M<x) (hy:M<y):M<c6 ta x tb tc y:=by
 have e:=mG (t:=ta) (q:=x) (u:=tb) (t':=tc) (q':=y) 0#O
 have p1:=(IE (show 0<tc-tb by grind)).mpr hx
 have p2:=(IE (show 0<tb-ta by grind)).mpr hy
 refine (IE (show 0<tc-ta by grind)).mp ?_
 rw [e]
 grind
theorem NS (h1:t i<t j) (h2:t j<t k) (a:B<(v j-s*t j)-(v i-s*t i)) (b:B<(v j-s*t j)-(v k-s*t k)):B<XZ t v i j k:=by
 have c:=IZ (M:=v j-s*t j-B) h1 h2 (show v i-s*t i<_ by grind) (show v k-s*t k<_ by grind)
 rw [rY s 0#O] at c
 unfold XZ
 grind
theorem NT (h1:t i<t j) (h2:t j<t k) (a:B<(v i-s*t i)-(v j-s*t j)) (b:B<(v k-s*t k)-(v j-s*t j)):B < -XZ t v i j k:=by
 have c:=IY (M:=v j-s*t j+B) h1 h2 (show _<v i-s*t i by grind) (show _<v k-s*t k by grind)
 rw [rY s 0#O] at c
 unfold XZ
 grind
theorem XG (h:w<q∨w < -q):w<dO q:=by
 unfold dO
 split <;> grind
theorem ade (hr:acJ t n) (hp:∀i j k,i<j→j<k→k<n→dO (XZ t v i j k)≤B) (hB:0≤B) (hij:i<j) (hj:j<n) (Sv:k<l) (hl:l<n):loP t v B i j≤hiP t v B k l:=by
 apply jz.mp
 intro hlt
 have dj:=hr i j hij hj
 have dl:=hr k l Sv hl
 obtain ⟨s,s1,s2⟩:∃s,hiP t v B k l<s∧s<loP t v B i j:=⟨(hiP t v B k l+loP t v B i j)/2,by grind,by grind⟩
 have e1:B<(v j-s*t j)-(v i-s*t i):=by
  have h:=(l9 (a:=s) (b:=v j-B-v i) (c:=t j-t i) 0#O)
  have:¬(v j-B-v i)/(t j-t i)≤s:=by unfold loP at s2;grind
  rw [oE 0#O] at this
  grind
 have e2:B<(v k-s*t k)-(v l-s*t l):=by
  have:¬s≤(v l+B-v k)/(t l-t k):=by unfold hiP at s1;grind
  rw [l9 0#O] at this
  grind
 have bad:∀a b c,a<b→b<c→c<n→(B<XZ t v a b c∨B < -XZ t v a b c)→False:=λa b c h1 h2 h3 h4=>by
  have g1:=hp a b c h1 h2 h3
  have g2:=XG h4
  grind
 by_cases hc:v k-s*t k≤v j-s*t j
 ·by_cases hjl:j<l
  ·exact bad i j l hij hjl hl (.inl (NS dj (hr j l hjl hl) e1 0#O))
  ·have hne:j≠l:=λz=>by subst z;grind
   have hlj:l<j:=by simp?
   exact bad k l j Sv hlj hj (.inr (NT dl (hr l j hlj hj) e2 0#O))
 ·by_cases hik:i<k
  ·exact bad i k l hik Sv hl (.inl (NS (hr i k hik 0#c) dl 0#O e2))
  ·have hne:i≠k:=λz=>by subst z;grind
   have hki:k<i:=by simp?
   exact bad k i j hki hij hj (.inr (NT (hr k i hki 0#c) dj 0#O e1))
theorem Kw (h1:t i<t j) (h2:t j<t k) (a1:loP t v B i j≤s) (a2:s≤hiP t v B i j) (b1:loP t v B j k≤s) (b2:s≤hiP t v B j k):dO (XZ t v i j k)≤B:=by
 have h3:t i<t k:=by grind
 unfold loP at a1 b1
 unfold hiP at a2 b2
 rw [oE 0#O] at a1 b1
 rw [l9 0#O] at a2 b2
 rw [ux]
 unfold XZ
 have e:=rY (ta:=t i) (tb:=t j) (tc:=t k) (x:=v i) (y:=v k) s h3
 constructor
 ·apply jz.mp
  intro z
  have c:=IZ (M:=v j-s*t j-(v j-c6 (t i) (v i) (t j) (t k) (v k))) (x:=v i-s*t i) (y:=v k-s*t k) h1 h2 0#O 0#O
  rw [e] at c
  grind
 ·apply jz.mp
  intro z
  have c:=IY (M:=v j-s*t j-(v j-c6 (t i) (v i) (t j) (t k) (v k))) (x:=v i-s*t i) (y:=v k-s*t k) h1 h2 0#O 0#O
  rw [e] at c
  grind
end
end Mth
namespace My
open PySem PySem.Spec PyProof.Rows L2 Mth
theorem bV (hx:Sz m x) (hy:Sz n y) (h:m+n≤134217728:=by decide):IntMulOk x y:=
 IntMulOk.of_le (FL.mpr hx) (FL.mpr hy) h
theorem mulR (h1:-(2 ^ 64)<y) (h2:y<2 ^ 64):IntMulOk x y:=V9.ok (.inr ⟨h1,h2⟩)
theorem mulL (h1:-(2 ^ 64)<x) (h2:x<2 ^ 64):IntMulOk x y:=V9.ok (.inl ⟨h1,h2⟩)
def ED (_ j:Int):Prop:=j≠0∧j.natAbs.log2<9000
section
theorem aQ:rK X (oK .Mult) (rI IntMulOk λi j=>.int (i*j)):=opI λ_ _ _ _ _ _ _ hc q=>mul_int q hc
theorem gc:rK X (oK .FloorDiv) (rI ED λi j=>.int (i.fdiv j)):=opI λ_ _ _ _ _ _ _ hc q=>floordiv_int hc.1 q (.inl (PyProof.noPylong_of_log2 hc.2))
end
mutual
inductive Den (H:Hp):V→tX→Prop where
 | bM:Den H .bM .none
 | bl (b:Bool):Den H (.bl b) (.bool b)
 | int (i:Int):Den H (.int i) (.int i)
 | str (x:Str):Den H (.str x) (.str x)
 | tup {a:av} {xs:List V} {ds:List tX}:H a=some (.tup xs)→rS H xs ds→Den H (.ref a) (.tuple ds)
 | lst {a:av} {xs:List V} {ds:List tX}:H a=some (.lst xs)→rS H xs ds→Den H (.ref a) (.list ds)
inductive rS (H:Hp):List V→List tX→Prop where
 | nil:rS H [] []
 | cons {x:V} {xs:List V} {d:tX} {ds:List tX}:Den H x d→rS H xs ds→rS H (x::xs) (d::ds)
end
section
mutual
theorem Den.reads (ok:ye P w H h):∀{v:V} {d:tX},Den H v d→∀{u:aL},RelV v u→∃as,Reads h u d as
 | _,_,.bM,u,r=>by cases (show u=Value.none from r);exact ⟨_,Reads.none⟩
 | _,_,.bl b,u,r=>by cases (show u=Value.bool b from r);exact ⟨_,Reads.bool b⟩
 | _,_,.int i,u,r=>by obtain ⟨t,q⟩:=(show ∃t,u=Value.int i t from r);cases q;exact ⟨_,Reads.int i t⟩
 | _,_,.str x,u,r=>by obtain ⟨t,q⟩:=(show ∃t,u=Value.str x t from r);cases q;exact ⟨_,Reads.str x t⟩
 | _,_,@Den.tup _ a xs ds e dd,u,r=>by
   cases (show u=Value.ref a from r)
   obtain ⟨_,its,rv,o,h1,h2,n,h3⟩:=(show gK P w H h a 0#q from ok a _ e)
   obtain ⟨as,q⟩:=rS.reads ok dd rv
   exact ⟨as,reads_tuple_at h1 h2 h3 (by simpa using q)⟩
 | _,_,@Den.lst _ a xs ds e dd,u,r=>by
   cases (show u=Value.ref a from r)
   obtain ⟨_,its,n,rv,h1⟩:=(show gK P w H h a (.lst xs) from ok a _ e)
   obtain ⟨as,q⟩:=rS.reads ok dd rv
   exact ⟨_,reads_list_at h1 rfl rfl (by simpa using q)⟩
theorem rS.reads (ok:ye P w H h):∀{vs:List V} {ds:List tX},rS H vs ds→∀{us:List aL},Vals vs us→∃as,ReadsAll h us ds as
 | _,_,.nil,_,.nil=>⟨_,ReadsAll.nil⟩
 | _,_,.cons d dd,_,.cons r rr=>by
   obtain ⟨as,q⟩:=Den.reads ok d r
   obtain ⟨bs,p⟩:=rS.reads ok dd rr
   exact ⟨_,ReadsAll.cons q p⟩
end
end
def agf:R2:=λx y H Q=>∃d e,Den H x d∧Den H y e∧FO d=true∧FO e=true∧Q (.bl (DL d e)) H
def adS:R2:=λx y H Q=>∃d e,Den H x d∧Den H y e∧FO d=true∧FO e=true∧Q (.bl (!PyData.eqv d e)) H
section
theorem Tw (hu:X.A.units+64<cLine):rK X (pZ .Eq) agf:=by
 intro pins s σ H x y v u Q I rx ry h
 obtain ⟨d,e,hd,he,s1,s2,q⟩:=h
 obtain ⟨as,r1⟩:=hd.reads I.hok rx
 obtain ⟨bs,r2⟩:=he.reads I.hok ry
 exact eq_dataH r1 r2 s1 s2 hu ⟨.bl _,H,I,rfl,q⟩
theorem abL (hu:X.A.units+64<cLine):rK X (pZ .NotEq) adS:=by
 intro pins s σ H x y v u Q I rx ry h
 obtain ⟨d,e,hd,he,s1,s2,q⟩:=h
 obtain ⟨as,r1⟩:=hd.reads I.hok rx
 obtain ⟨bs,r2⟩:=he.reads I.hok ry
 exact ne_dataH r1 r2 s1 s2 hu ⟨.bl _,H,I,rfl,q⟩
def abQ (K:b9):List V→Hp→VK→Prop:=λxs H Q=>∃x n t b,xs=[x,.ty n]∧wu K H x t∧FJ K t (.type n)=some b∧Q (.bl b) H
theorem RH:je X (.builtin "isinstance") (abQ X.K):=by
 intro pins s σ H xs us Q I r h
 obtain ⟨x,n,t,b,rfl,ty,e,q⟩:=h
 obtain ⟨u,u2,rfl,rx,rn⟩:=vals2 r
 cases (show u2=Value.type n from rn)
 exact Qi I rx ty e λtk=>⟨.bl b,H,I.tok tk,rfl,q⟩
theorem Mb {K:b9}:FJ K (.type "tuple") (.type "tuple")=some true:=by rfl
theorem Ma {K:b9}:FJ K (.type "int") (.type "int")=some true:=by rfl
theorem L8 {K:b9}:FJ K (.type "int") (.type "bool")=some false:=by rfl
theorem cg:(iA pos (bD [] env)).any (·.1)=false:=by rfl
theorem cu (h:bD (e::es) env=(false,eval e env)::bD es env) (k:(iA pos (bD es env)).any (·.1)=false):(iA pos (bD (e::es) env)).any (·.1)=false:=by
 rw [h]
 exact k
theorem jy:bD (.Constant c k pos::es) env=(false,eval (.Constant c k pos) env)::bD es env:=by rfl
theorem bw:bD (.Name x pos::es) env=(false,eval (.Name x pos) env)::bD es env:=by rfl
theorem Iq:bD (.BinOp a op b pos::es) env=(false,eval (.BinOp a op b pos) env)::bD es env:=by rfl
theorem o9:bD (.Subscript a b pos::es) env=(false,eval (.Subscript a b pos) env)::bD es env:=by rfl
theorem Bb:bD (.Call f as kw pos::es) env=(false,eval (.Call f as kw pos) env)::bD es env:=by rfl
theorem X5:bD (.Tuple as k pos::es) env=(false,eval (.Tuple as k pos) env)::bD es env:=by rfl
theorem agy:lR (.Constant c k pos) tg l env=pure false:=by rfl
theorem acm:lR (.BinOp a op b pos) tg l env=pure false:=by rfl
theorem QV:lR (.Subscript a b pos) tg l env=pure false:=by rfl
theorem eF:lR (.Call f as kw pos) tg l env=pure false:=by rfl
theorem aej:lR (.Tuple as k pos) tg l env=pure false:=by rfl
theorem agz:lR (.IfExp a b c pos) tg l env=pure false:=by rfl
end
structure Dn (P:jv) (w:eV) (K:b9) (mg:Str→Option aL) (base:cN) (k:Nat) (x:Str) (ps:List Str) (sp:Sp):Prop where
 ex:∃(f:av) (fd:jP),bf P w K mg base cY k f fd ps sp∧mg x=some (.ref f)∧yd K (.ref f)=true∧Binds K fd ps []
section
theorem Fc {X:Cx} {k:Nat} {x:Str} {ps:List Str} {sp:Sp} {p pos:Pos} {e:bg} {es:List bg} {t:TA} (D:Dn X.prog X.w X.K X.mg X.base k x ps sp) (hr:iR k X.A) (hg:Gl X x) (ha:PA X (e::es) t) (hdb:0#B=false:=by decide)
 (he:bD (e::es) X.env=0#G::bD es X.env:=by rfl) (hpl:(iA pos (bD es X.env)).any (·.1)=false:=by rfl):PE X (.Call (.Name x p) (e::es) [] pos) (Dt sp [] E0 t):=by
 obtain ⟨f,fd,ok,hm,hk,hb⟩:=D.ex
 exact Xu ok hr hg hm hk hb .nil Ow ha hdb he hpl
end
theorem acS {K:b9} {st:aT} (F:cR K x qual st f fd) (ok:bf P w K mg base cY k f fd ps sp)
 (hm:mg x=some (.ref f)) (hb:Binds K fd ps []):Dn P w K mg base k x ps sp:=⟨f,fd,ok,hm,F.kp,hb⟩
section
theorem ad7 (h:t { D with nx:=u D } σ H):Du t u D σ H:=h
theorem ad8 (h:te σ H λx H1=>D.nx (σ.set i (some x)) H1):Ez te (iU i) D σ H:=h
theorem ad5 (h:te σ H D.rt):acv te D σ H:=h
theorem ab0 (h:te σ H λ_ H1=>D.nx σ H1):UQ te D σ H:=h
theorem agn (h:c σ H λb H1=>if b=true then t D σ H1 else u D σ H1):acq c t u D σ H:=h
theorem T8 (h:D.nx σ H):UT D σ H:=h
theorem aeb (e:σ[i]?=some (some v)) (q:Q v H):X6 i σ H Q:=⟨v,e,q⟩
theorem r_c (q:Q v H):tC v σ H Q:=q
theorem agp (h:ta σ H λx H1=>tb σ H1 λy H2=>r x y H2 Q):UU r ta tb σ H Q:=h
theorem agx (h:ta σ H λx H1=>r x H1 Q):tUn r ta σ H Q:=h
theorem adU (q:Q (g m n) H):XD g (.int m) (.int n) H Q:=⟨m,n,rfl,rfl,q⟩
theorem gT (hc:C m n) (q:Q (g m n) H):rI C g (.int m) (.int n) H Q:=⟨m,n,rfl,rfl,hc,q⟩
theorem r_U (q:Q (g m) H):rU g (.int m) H Q:=⟨m,rfl,q⟩
theorem ab9 (h:te σ H λx H'=>∃k,x=.bl k∧B k H'):Ku te σ H B:=h
theorem r_B (h:te σ H λx H'=>∃k,x=.bl k∧B k H'):tB te σ H B:=h
theorem agg {R:Bool→Prop} (h:R b):∃k,V.bl b=.bl k∧R k:=⟨b,rfl,h⟩
theorem agi (h:ts σ H λvs H1=>r vs H1 Q):tCB r ts σ H Q:=h
theorem abY (h:te σ H λx H1=>ts σ H1 λxs H2=>R (x::xs) H2):gE te ts σ H R:=h
theorem ad2 (h:R [] H):qP σ H R:=h
def Nw (mk:List V→HO) (xs:List V) (H:Hp) (Q:VK):Prop:=xs.length≤sizeLine∧∀p,H p=none→Q 1#a (upd H p (mk xs))
theorem ad9 (h:ts σ H λxs H1=>Nw .tup xs H1 Q):acw ts σ H Q:=h
theorem adZ (h:ts σ H λxs H1=>Nw .lst xs H1 Q):acr ts σ H Q:=h
theorem abW (h:ts σ H λvs H1=>sp (vs++[]) H1 Q E0):Dt sp [] E0 ts σ H Q:=h
theorem ad4 (h:ts σ H λvs H1=>∃v w,vs=[v,w]∧D.nx ((σ.set a (some v)).set b (some w)) H1):acu a b ts D σ H:=h
theorem ad3 (h:c σ H λb H1=>B (!b) H1):acs c σ H B:=h
theorem adV (h:c σ H λb H1=>if b=true then d σ H1 B else B false H1):acn c d σ H B:=h
theorem agq (h:c σ H λb H1=>if b=true then B true H1 else d σ H1 B):tOr c d σ H B:=h
theorem abU (h:ta σ H λx H1=>∃k,x=.bl k∧if k=true then tb σ H1 Q else Q (.bl false) H1):UO ta tb σ H Q:=h
theorem adY (h:c σ H λb H1=>if b=true then ta σ H1 Q else tb σ H1 Q):tIf c ta tb σ H Q:=h
theorem agl (hs:XR (.int m) (.int n)=true) (q:Q (.bl (decide (m=n))) H):rEq (.int m) (.int n) H Q:=⟨hs,by
 have e:decide (V.int m=V.int n)=decide (m=n):=by simp
 rw [e];exact q⟩
theorem ago (hs:XR (.int m) (.int n)=true) (q:Q (.bl (!decide (m=n))) H):rNe (.int m) (.int n) H Q:=⟨hs,by
 have e:decide (V.int m=V.int n)=decide (m=n):=by simp
 rw [e];exact q⟩
theorem at0 {x:V}:qV (x::xs) 0=some x:=gW (j:=0) rfl
theorem at1 {x:V}:qV (x::y::xs) 1=some y:=gW (j:=1) rfl
theorem at2 {x:V}:qV (x::y::z::xs) 2=some z:=gW (j:=2) rfl
theorem agt {K:b9} (h:H p=some (.tup (x::xs))) (q:Q x H):M1 K 1#a (.int 0) H Q:=⟨p,_,0,x,rfl,rfl,qb.of h,at0,q⟩
theorem agu {K:b9} (h:H p=some (.tup (x::y::xs))) (q:Q y H):M1 K 1#a (.int 1) H Q:=⟨p,_,1,y,rfl,rfl,qb.of h,at1,q⟩
theorem agv {K:b9} (h:H p=some (.tup (x::y::z::xs))) (q:Q z H):M1 K 1#a (.int 2) H Q:=⟨p,_,2,z,rfl,rfl,qb.of h,at2,q⟩
def abR (K:b9):List V→Hp→VK→Prop:=λxs H Q=>∃p ys,xs=[.ref p]∧(aX K H p ys∨qb K H p ys)∧Q (.int ys.length) H
theorem cy {K:b9} (h:aX K H p ys∨qb K H p ys) (q:Q (.int ys.length) H):abR K [.ref p] H Q:=⟨p,ys,rfl,h,q⟩
def adN:List V→Hp→VK→Prop:=λxs H Q=>∃i,xs=[.int i]∧Q (.int (if i<0 then -i else i)) H
theorem abT (q:Q (.int (if m<0 then -m else m)) H):adN [.int m] H Q:=⟨m,rfl,q⟩
section
variable {X:Cx} (K:b9)
theorem fF (h:X.K=K:=by rfl):IxR X (XE K):=h▸W4
theorem D9 (h:X.K=K:=by rfl):IxR X (M1 K):=h▸abp
theorem Rl (h:X.K=K:=by rfl):SlR X (abS K):=h▸XU
theorem adA (h:X.K=K:=by rfl):je X (.builtin "len") (abR K):=h▸F9
theorem GD (h:X.K=K:=by rfl):je X (.builtin "isinstance") (abQ K):=h▸RH
theorem sF (hg:Gl X x) (hm:X.mg x=none) (hv:uV x=some (.type n)) (hn:x ≠ "__name__":=by decide) (hd:0#B=false:=by decide):PE X (.Name x pos) (tC (.ty n)):=
 Xs hg hm hv (show RelV (.ty n) (.type n) from rfl) hn hd
theorem ym:je X (.builtin "abs") adN:=RG
theorem piL {tg l:bg} {tl:TE} (hl:PE X l tl) (h:X.K=K:=by rfl):PI X tg l (Oe K tl):=h▸Xz hl
theorem piT (hl:PE X l tl) (h:X.K=K:=by rfl):PI X tg l (WZ K tl):=h▸abP hl
theorem Ox (hc:X.calm=true) (g:Yg X es t)
 (hn:(oq es X.env).length=n:=by rfl) (hst:(oq es X.env).findIdx? (·.1)=none:=by rfl) (h:X.K=K:=by rfl):PG X (.Tuple es k pos) (PR K n t):=h▸abO hc g hn hst
theorem aaL {o e:bg} {to te:TE} {apos cpos:Pos} (ho:PE X o to) (he:PE X e te) (h:X.K=K:=by rfl)
 (hbase:vZ o "append" X.env (eval o X.env)=eval o X.env:=by rfl)
 (hfew:((iA cpos (bD (e::[]) X.env)).all (λx=>!x.1)&&(tW cpos (tU [] X.env)).all (λx=>x.1.isSome)
   && decide ((e::([]:List bg)).length+([]:List oM).length+(if ([]:List oM).isEmpty then 0 else 1)<30))=true:=by rfl)
 (hline:0#W=true:=by rfl) (hs:bD (e::[]) X.env=0#G::bD [] X.env:=by rfl) (hplain:(iA cpos (bD [] X.env)).any (·.1)=false:=by rfl) :
 PE X (.Call (.Attribute o "append" apos) [e] [] cpos) (YK K "list" Bt to (gE te qP)):=
 h▸TN OO PySem.F.slot_list_append PySem.F.type_list_append E5 ho (ku he vD hs) hbase hfew hline hs hplain
end
theorem kP (h:H p=none) (o:HO):au H (upd H p o):=λb u q=>by rw [aM (bK q h)];exact q
theorem aF (hl:xs.length≤1000) (h:∀p H1,au H H1→H p=none→H1 p=some (mk xs)→Q 1#a H1):Nw mk xs H Q:=
 ⟨uM (aO hl),λp hp=>h p _ (kP hp _) hp aB⟩
theorem r_g (h:R (σ.set i (some v)) H):iU i v σ H R:=h
theorem cK {K:b9} (h:H p=some (.lst xs)) (e:qV xs j=some v) (q:Q v H):XE K 1#a (.int j) H Q:=⟨p,_,j,v,rfl,rfl,aX.of h,e,q⟩
theorem agh {K:b9} (h:te σ H λx H1=>X7 K T x H1∧ts σ H1 λxs H2=>r x xs H2 Q):YK K T r te ts σ H Q:=h
theorem cJ (h:H p=some (.lst xs)) (hl:xs.length<sizeLine) (q:Q .bM (upd H p (.lst (xs++[v])))):Bt 1#a [v] H Q:=⟨p,xs,v,rfl,rfl,h,hl,q⟩
theorem aZ (s:au H1 H2) (n:H1 p=none):au H1 (upd H2 p o):=λb x e=>by rw [aM (bK e n)];exact s b x e
theorem bQ {xs:List Int} {j:Nat} (h:xs[j]?=some x) (hk:k=(j:Int)):qV (xs.map V.int) k=some (.int x):=by
 subst hk
 exact gW (by rw [dw,h];rfl)
theorem aea {R:V→V→Prop} (h:R x y):∃v w,[x,y]=[v,w]∧R v w:=⟨x,y,rfl,h⟩
theorem dJ (h:wi σ H λJ H1=>∃W:Nat→Nat→L2.St→Hp→Prop,(∃m,W 0 m σ H1)∧∀i m σ H,W i m σ H →
 (J.stop i H∧D.nx σ H)∨(J.go i H∧∃N:L2.St→Hp→Prop,(∀σ' H',N σ' H'→∃m',m'<m∧W (i+1) m' σ' H')∧∀x H',J.Ro i H x H'→g x σ H' λσ2 H2=>tb { D with nx:=N,ct:=N,bk:=D.nx } σ2 H2)):acp wi g tb D σ H:=h
theorem iD {K:b9} (h:te σ H λx H1=>∃a,x=.ref a∧(∃xs,aX K H1 a xs)∧R (Itl K a) H1):Oe K te σ H R:=h
theorem wY {K:b9} (h:wu K H x tv) (e:FJ K tv (.type ty)=some b) (q:Q (.bl b) H):abQ K [x,.ty ty] H Q:=⟨x,ty,tv,b,rfl,h,e,q⟩
end
section
variable {prog:jv} {w:eV} {A:oN} {E:aL→bA→Prop} {s:bA}
theorem ET (hne:l≠it):∀(n i:Nat) (s:bA) (Q:List aL→bA→Prop),s.heap.IsListIter it l i→s.heap.IsList l items→i+n≤items.size →
 (∀h',h'.IsListIter it l (i+n)→DH it s.heap h'→Q ((items.toList.drop i).take n) { s with heap:=h' })→ck 0#T A (draw (.ref it) n) Q E s
 | 0,i,s,Q,hit,_,_,hQ=>by
   show ck _ _ (pure []) Q E s
   exact ou (by simpa using hQ s.heap hit (afj ..))
 | n+1,i,s,Q,hit,ht,hle,hQ=>by
   have hlt:i<items.size:=by simp?
   show ck _ _ (pyNext (.ref it) >>= _) Q E s
   refine gJ (YX hit ht (x:=items[i]) (by simp [hlt]) λh₁ LZ hs₁=>?_)
   refine gJ (Al (ET hne n (i+1) _ _ LZ (ht.extBut hs₁.extBut hne) 0#c λh₂ abj hs₂=>ou ?_))
   have hd:items.toList.drop i=items[i]::items.toList.drop (i+1):=by simp [List.drop_eq_getElem_cons,hlt]
   have:=hQ h₂ (by rw [show i+(n+1)=i+1+n by simp?];exact abj) (hs₁.trans hs₂)
   rw [hd,List.take_succ_cons] at this
   exact this
theorem zP (hh:A.handled=none) (ht:s.heap.IsList t items)
 (hQ:∀h',aaB s.heap.objs.size s.heap h'→Q items.toList { s with heap:=h' }):ck 0#T A (unpackItems (.ref t) items.size none) Q E s:=by
 have hlt:t≠s.heap.objs.size:=by obtain ⟨o,ho,_⟩:=id ht;exact lO (gC ho)
 unfold unpackItems
 refine gJ ?_
 ·unfold notIterableAtAll
  refine gJ (wpAny_specialOf ht.typeIs PySem.slot_list_iter.lookup ?_)
  refine ou ?_
  simp only [Zp,if_false]
  refine gJ (Al (Zw ht ?_))
  have hp:(s.heap.push { cls:=.type "list_iterator",data:=.fields #[.ref t,.int 0 0] }).IsList t items:=ht.extBut (b:=s.heap.objs.size) (λb o _ e=>pA _ e) hlt
  refine gJ (Al (ET hlt items.size 0 _ _ ⟨_,EB _ rfl,rfl,rfl⟩ hp 0#c λh₁ LZ hs₁=>?_))
  have hall:List.take items.size (List.drop 0 items.toList)=items.toList:=by
   rw [ZY];exact OS 0#f
  rw [hall]
  rw [if_neg 0#f]
  have ht₁:h₁.IsList t items:=hp.extBut hs₁.extBut hlt
  refine gJ (Al (Y7 hh LZ ht₁ 0#f λh₂ adh=>?_))
  simp only [Option.isSome_none,Zp,if_false]
  refine ou (hQ h₂ λb o hb e=>adh b o hb (hs₁.extBut b o hb (pA _ e)))
theorem wz (hh:A.handled=none) (ht:s.heap.IsList t items)
 (hn:(oq elts env).length=items.size) (hstar:(oq elts env).findIdx? (·.1)=none)
 (h:∀h',aaB s.heap.objs.size s.heap h'→ck 0#T A (assignInOrder ((oq elts env).map (·.2)) items.toList) Q E { s with heap:=h' }) :
 ck 0#T A (assign (.Tuple elts x1 pos) env (.ref t)) Q E s:=by
 rw [assign_Tuple]
 refine gJ (K1 ?_)
 unfold unpack
 rw [hn,hstar]
 exact gJ (Al (zP hh ht h))
end
section
def WG (K:b9) (n:Nat) (t:We):TG:=λv σ H Q=>∃a xs,v=.ref a∧aX K H a xs∧xs.length=n∧t xs σ H Q
theorem abN (hc:X.calm=true) (h:Yg X es t)
 (hn:(oq es X.env).length=n:=by rfl) (hst:(oq es X.env).findIdx? (·.1)=none:=by rfl):PG X (.Tuple es k pos) (WG X.K n t):=by
 intro pins s σ H v u Q I r hw
 obtain ⟨a,xs,e1,hq,hl,hw⟩:=hw
 subst e1
 cases r
 obtain ⟨its,rv,ht,hz⟩:=I.list hq
 refine wz (I.ok.hd hc) ht.isList (by simp [hn,← hl,rv.length]) hst λh' hx=>?_
 have I1:Inv X pins σ H { s with heap:=h' }:=I.kept (t':=s.toks) λb o e=>hx b o (lO (gC e)) e
 exact h pins _ σ H xs _ Q I1 (by simpa using rv) hw
theorem pgL (K:b9)  (hc:X.calm=true) (g:Yg X es t)
 (hn:(oq es X.env).length=n:=by rfl) (hst:(oq es X.env).findIdx? (·.1)=none:=by rfl) (h:X.K=K:=by rfl):PG X (.Tuple es k pos) (WG K n t):=h▸abN hc g hn hst
theorem YG (q:Q (.bl (a==b)) H):rEq (.bl a) (.bl b) H Q:=⟨rfl,by
 have e:decide (V.bl a=V.bl b)=(a==b):=by cases a <;> cases b <;> rfl
 rw [e];exact q⟩
theorem QF {K:b9} (h:H p=some (.lst [x,y,z])) (q:R (((σ.set i (some x)).set j (some y)).set k (some z)) H):WG K 3 (qW (iU i) (qW (iU j) (qW (iU k) PN))) 1#a σ H R:=
 ⟨p,_,rfl,aX.of h,rfl,x,_,rfl,y,_,rfl,z,_,rfl,rfl,q⟩
end
def cU (X:Cx) (N':List Str) (scope:pY) (cl:List (Str×av)) (C:av) (s0:bA) (H0:Hp) (ex':List av) (j7:List (av×Obj)):Cx:=
 { X with N:=N',s₀:=s0,H₀:=H0,env:=compEnvC scope cl C X.env,outer:=X.stack,ex:=ex',fn:=λ_=>false,pn:=j7,xe:=λ_ _=>False }
def om (cap:List Nat) (σ:L2.St):L2.St:=cap.map λj=>(σ[j]?).getD none
theorem WX (x:ye P w H h) (n:H C=none) (k:∀b o,b≠C→h.get? b=some o→h'.get? b=some o):ye P w H h':=λb u e=>
 (x b u e).stay (λc v hc q=>k c v (by
   rcases hc with z | z
   ·rw [z];exact bK e n
   ·exact bK z n) q) (λ_ q=>q) λ_ _ q=>q
theorem Ge {prog:jv} {w:eV} {A:oN} {R:Result→bA→Prop} {s:bA} {elt iter tg:bg} {ifs:List bg} {scope:pY} {pos:Pos} {it acc:aL} {env:Env} (I:Nat→bA→Prop)
 (turn:∀n s,I n s→ck 0#T A (pyNext it) (λr s₁=>match r with
   | none=>R (.ok .next) s₁
   | some v=>ck 0#T A (letOwnedTupleGo tg it v) (λ_ s₁'=>ck 0#T A (assign tg env v) (λ_ s₂=>
    ck 0#T A (forIn ifs true λc r=>if r=true then do let ok ← isTrue c env (eval c env);pure (ForInStep.yield ok) else pure (ForInStep.yield r)) (λok s₃=>
     if ok=true then ck 0#T A (eval elt env) (λx s₄=>
      ck 0#T A (call (.builtin "list.append") [acc,x]) (λ_ s₅=>∃m,m<n∧I m s₅) (notedBy 0#T A env λe s'=>R (.error e) s') s₄) (notedBy 0#T A env λe s'=>R (.error e) s') s₃
     else ∃m,m<n∧I m s₃) (notedBy 0#T A env λe s'=>R (.error e) s') s₂) (notedBy 0#T A env λe s'=>R (.error e) s') s₁') (notedBy 0#T A env λe s'=>R (.error e) s') s₁) (notedBy 0#T A env λe s'=>R (.error e) s') s)
 (n:Nat) (h:I n s):Au 0#T A (.compLoop 0#r 0 it acc env) R s:=by
 refine codeAny_loop rfl I (λn s hI=>?_) n h
 show ck _ A ((compTurn 0#r 0 it acc env).onRaise (λx=>do noteFrame x env;theTreesLotGoes x)) _ _ s
 refine wpAny_noted ?_
 rw [compTurn_list]
 refine gJ (K1 (gJ (pW (turn n s hI) (λr s₁ h₁=>?_) λ_ _ h'=>h')))
 cases r with
 | none=>exact ou h₁
 | some v=>
   refine gJ (pW h₁ (λ_ s₂ h₂=>gJ (pW h₂ (λ_ s₃ h₃=>gJ (pW h₃ (λok s₄ h₄=>?_) λ_ _ h'=>h')) λ_ _ h'=>h')) λ_ _ h'=>h')
   cases ok with
   | false=>exact ou ⟨rfl,h₄⟩
   | true=>
     exact gJ (gJ (pW h₄ (λx s₄ h₄=>gJ (pW h₄ (λ_ s₅ h₅=>ou (ou ⟨rfl,h₅⟩)) λ_ _ h'=>h')) λ_ _ h'=>h'))
def Yh (X:Cx) (ifs:List bg) (t:TT):Prop:=
 ∀(pins:List (av×Obj)) (s:bA) (σ:L2.St) (H:Hp) (Q:Bool→Hp→Prop),Inv X pins σ H s→t σ H Q →
  ck 0#n X.A (forIn ifs true λc r=>if r=true then do let ok ← isTrue c X.env (eval c X.env);pure (ForInStep.yield ok) else pure (ForInStep.yield r)) (TP X pins σ Q) X.xe s
def acy:TT:=λ_ H B=>B true H
theorem Hz {X:Cx}:Yh X [] acy:=λ_ _ _ H _ I h=>wpAny_tests_nil ⟨H,I,h⟩
theorem HA (h:PT X c t):Yh X [c] t:=λpins s σ H Q I q=>wpAny_tests_one (h pins s σ H Q I q)
def wg (X:Cx) (scope:pY) (cl:List (Str×av)):List Str→List Nat→Prop
 | [],[]=>True
 | y::ys,j::js=>(X.N[j]?=some y∧X.env.kindOf y=some .cell∧(relabel scope X.env).names.lookup y=some .cell∧cl.lookup y=X.env.cells.lookup y)∧wg X scope cl ys js
 | _,_=>False
theorem wg.len:∀{ys:List Str} {js:List Nat},wg X scope cl ys js→ys.length=js.length
 | [],[],_=>rfl
 | _::_,_::_,h=>congrArg (·+1) h.2.len
theorem wg.at:∀{ys:List Str} {js:List Nat},wg X scope cl ys js→∀(i j:Nat) (y:Str),ys[i]?=some y→js[i]?=some j →
 X.N[j]?=some y∧X.env.kindOf y=some .cell∧(relabel scope X.env).names.lookup y=some .cell∧cl.lookup y=X.env.cells.lookup y
 | [],[],_,i,_,_,e,_=>by simp at e
 | _::_,_::_,h,0,j,y,e1,e2=>by
   simp at e1 e2
   subst e1 e2
   exact h.1
 | _::_,_::_,h,i+1,j,y,e1,e2=>h.2.at i j y (by simpa using e1) (by simpa using e2)
def Ac (wi:TI) (n:Nat) (cap:List Nat) (g:TG) (tt:TT) (te:TE):TE:=λσ H Q=>wi σ H λJ H1=>∀D,H1 D=none→∃W:Nat→Nat→List V→Hp→Prop,(∃m,W 0 m [] (upd H1 D (.lst []))) ∧
 ∀i m xs H2,W i m xs H2→H2 D=some (.lst xs)∧((J.stop i H2∧Q (.ref D) H2)∨(J.go i H2∧xs.length<sizeLine∧∀x H3 jV,jV.length=n→J.Ro i H2 x H3 →
  g x (jV++om cap σ) H3 λσ2 H4=>(∃σ1,σ1.length=n∧σ2=σ1++om cap σ)∧tt σ2 H4 λb H5=>if b=true then te σ2 H5 λy H6=>H6 D=some (.lst xs)∧∃m',m'<m∧W (i+1) m' (xs++[y]) (upd H6 D (.lst (xs++[y])))
    else ∃m',m'<m∧W (i+1) m' xs H5))
section
theorem Of {σ:L2.St} (I:L2.Inv X pins σ H s) (hC:Ax X pins H C) (sb:DH C s.heap h'):L2.Inv X pins σ H { s with heap:=h' }:=by
 have k:∀b o,s.heap.get? b=some o→b∉[C]→h'.get? b=some o:=λb o e hb=>(sb.2 b (λz=>hb (by rw [z];exact DQ.mpr rfl))).trans e
 refine I.Yl (s':={ s with heap:=h' }) (ch:=[C]) rfl ⟨λb o e _ _ hb=>k b o e hb,λb o e _ _ hb=>⟨o.slots,k b o e hb⟩,λb o _ n _=>n,λb o e hb=>⟨o,k b o e hb⟩,λ_ _ q=>q,λ_ _ _ q=>q,λ_ ps q=>⟨#[],by simpa using q⟩⟩
  (WX I.hok hC.1 λb o hb e=>(sb.2 b hb).trans e) I.bare λb hb=>?_
 obtain rfl:b=C:=DQ.mp hb
 exact ⟨hC.2.2.2.1,hC.2.1,hC.2.2.2.2.1,hC.2.2.2.2.2⟩
theorem I0 {σ:L2.St} (use:Option (aL→Sem Unit)) (Q':aL→bA→Prop) (hc:X.calm=true) (hi:PI X tg iter wi)
 (hg:∀(C:av) (s0:bA) (H0:Hp) (ex':List av) (j7:List (av×Obj)),PG (cU X (O++N') scope cl C s0 H0 ex' j7) tg g)
 (Qg:∀(C:av) (s0:bA) (H0:Hp) (ex':List av) (j7:List (av×Obj)),Yh (cU X (O++N') scope cl C s0 H0 ex' j7) ifs tt)
 (helt:∀(C:av) (s0:bA) (H0:Hp) (ex':List av) (j7:List (av×Obj)),PE (cU X (O++N') scope cl C s0 H0 ex' j7) elt te)
 (hO:O.length=n) (hcap:wg X scope cl N' cap)
 (hclos:closureFor scope X.env=pure cl) (hcell:∀y∈scope.names,y.2≠.cell) (hkind:scope.kind=.function) (hnames:∀y∈scope.names,y.2=.local→scope.names.lookup y.1=some .local)
 (D8:∀y c,cl.lookup y=some c→X.env.cells.lookup y=some c) (hhas:∀y,((relabel scope X.env).names.lookup y=some .cell∨(relabel scope X.env).names.lookup y=some .free)→∃c,cl.lookup y=some c)
 (hs:∀z,II iter X.env z=pure z)
 (I:L2.Inv X pins σ H s) (h:Ac wi n cap g tt te σ H Q)
 (fin:∀(D:av) (H5:Hp) (s6:bA) (C:av),L2.Inv X pins σ H5 s6→Ax X pins H5 C→(∃m,s6.heap.Ns C m)→Q (.ref D) H5→compPost 0#n X.A X.xe use Q' (.ref D) C (.ok .next) s6) :
 ck 0#n X.A (comprehension 0#r scope X.env cpos (newList []) false (eval iter X.env) use) Q' X.xe s:=by
 refine wpAny_comprehension_free (use:=use) rfl hs hclos hkind hnames (gZ (hi pins s σ H _ I h) λv s1 h1=>gZ h1 λitv s2 h2=>?_)
 obtain ⟨it,fp,tn,J,H2,e,I2,T,st2,f2,q2⟩:=h2
 subst e
 refine Zv (wpAny_newFunctionEnv hcell (by intro y hy;simp at hy) (λh₁ Gz GC=>?_) hkind)
 dsimp only at Gz GC ⊢
  -- the list, then the block's own names
 have I3:Inv X pins σ (upd H2 s2.heap.objs.size (.lst [])) { s2 with heap:=s2.heap.push { cls:=.type "list",data:=.seq ([]:List aL).toArray },toks:=s2.toks }:=I2.abv (its:=[]) (t':=s2.toks) .nil (mD _)
 generalize hH3:s2.heap.push { cls:=.type "list",dict:=none,data:=.seq ([]:List aL).toArray }=h3 at Gz GC I3 ⊢
 have q3:=q2 s2.heap.objs.size (I2.hok.fresh (dG _))
 generalize hD:s2.heap.objs.size=D at I3 q3 Gz GC ⊢
 obtain ⟨W,⟨m0,w0⟩,turn⟩:=q3
 have hC:∀b o,h3.get? b=some o→b≠h3.objs.size:=λb o e=>lO (gC e)
 have old:∀b o,h3.get? b=some o→h₁.get? b=some o:=λb o e=>GC.extBut b o (hC b o e) (pA _ e)
 have N6:∀b∈fp,∃o,h3.get? b=some o:=λb hb=>by
  obtain ⟨o,e,_⟩:=T.obj _ _ st2 b hb
  exact ⟨o,by rw [← hH3];exact pA _ e⟩
 have fp3:∀b∈fp,upd H2 D (.lst []) b=none:=λb hb=>by
  have n:=(f2 b hb).1
  obtain ⟨o,e,_⟩:=T.obj _ _ st2 b hb
  rw [aM (by rw [← hD];exact lO (gC e))]
  exact n
 have stk:∀b∈fp,b∉frs X.stack:=λb hb z=>by
  rcases qU.mp (I3.Ir b z) with e | e
  ·exact (f2 b hb).2.1 e
  ·exact (f2 b hb).2.2.1 e
 have ok:(cU X (O++N') scope cl h3.objs.size { s2 with heap:=h3,toks:=s2.toks } (upd H2 D (.lst [])) fp (X.pn++pins)).Ok:=
  ⟨I.ok.mod,hkind,I.ok.glob,I.ok.blt,dG _,λy z c a b=>I.ok.inj y z c (D8 y c a) (D8 z c b),hhas,λ_ _ z=>absurd z dW,I.ok.hd,I.ok.frames,.inl rfl,
   λb hb=>⟨by obtain ⟨o,e⟩:=N6 b hb;exact hC b o e,λy c a=>(f2 b hb).2.2.2.2.1 y c (D8 y c a)⟩,I3.bs,dP I3.ok.Yj I3.sz,
   λb o e hb=>by
    rcases (f2 b hb).2.2.2.1 with z | z
    ·exact I.ok.S9 b o e z
    ·exact absurd (qT (gC (I.ok.bs b o e).1) z) (DF _),
   stk,I3.stack,I3.OG⟩
 have I4:Inv 0#K [] (kT n none++om cap σ) (upd H2 D (.lst [])) { s2 with heap:=h₁,toks:=s2.toks+([]:List (Str×aL)).length }:=by
  refine ⟨ok,rfl,I3.bare,Un.kept old,⟨_,Gz,λi y v e1 e2 e3=>?_⟩,λy c a=>?_,I3.hok.fresh (dG _),λy c a=>I3.uO y c (D8 y c a),λp hp=>?_,I3.hok.kept old,?_⟩
  ·by_cases hin:i<n
   ·rw [yb (by rw [Fy];exact hin),U4,if_pos hin] at e2
    cases e2
   ·have e1':N'[i-n]?=some y:=by
     have z:(O++N')[i]?=some y:=e1
     rw [ya 0#c,hO] at z
     exact z
    have hi':i-n<cap.length:=by rw [← hcap.len];exact (lS.mp e1').1
    obtain ⟨j,ej⟩:∃j,cap[i-n]?=some j:=⟨_,mC hi'⟩
    obtain ⟨a1,a2,a3,a4⟩:=hcap.at (i-n) j y e1' ej
    have e2':σ[j]?=some (some v):=by
     have z:(om cap σ)[i-n]?=some (some v):=by
      rw [ya (by rw [Fy];simp?),Fy] at e2
      exact e2
     unfold om at z
     rw [dw,ej] at z
     have z2:(σ[j]?).getD none=some v:=by simpa using z
     cases q:σ[j]? with
     | none=>rw [q] at z2;cases z2
     | some o=>rw [q] at z2;exact congrArg some z2
    obtain ⟨m,hn,hl⟩:=I3.loc
    obtain ⟨u,r,l⟩:=hl j y v a1 e2' (.inr (.inl a2))
    refine ⟨u,r,.inr ⟨.inl a3,?_⟩⟩
    rcases l with ⟨k,_⟩ | ⟨_,c,ec,o,ho,hd⟩
    ·rw [a2] at k;cases k
    ·exact ⟨c,a4.trans ec,o,old c o ho,hd⟩
  ·obtain ⟨v,o,ho,hd⟩:=I3.cell y c (D8 y c a)
   exact ⟨v,o,old c o ho,hd⟩
  ·have E1:p∈X.pn++pins:=by simpa [cU] using hp
   obtain ⟨e,n,ne,nf,d⟩:=I3.pin p E1
   refine ⟨old _ _ e,n,hC _ _ e,λz=>?_,d⟩
   rcases qU.mp (I3.Ir p.1 z) with e | e
   ·exact ne e
   ·exact nf e
  ·show (kT n none++om cap σ).length=(O++N').length
   unfold om
   rw [fj,fj,Fy,gV,hcap.len,hO]
 have loop:Au 0#n X.A (.compLoop 0#r 0 (.ref it) (.ref D) (compEnvC scope cl h3.objs.size X.env))
  (compPost 0#n X.A X.xe use Q' (.ref D) h3.objs.size) { s2 with heap:=h₁,toks:=s2.toks+([]:List (Str×aL)).length }:=by
  have fpk:∀{H':Hp},(∀b∈fp,H' b=none)→∀b∈fp,Ax 0#K [] H' b:=λhn b hb=>by
   obtain ⟨o,e⟩:=N6 b hb
   refine ⟨hn b hb,hC b o e,stk b hb,.inl hb,λy c a=>(f2 b hb).2.2.2.2.1 y c (D8 y c a),λp hp=>?_⟩
   have E1:p∈X.pn++pins:=by simpa [cU] using hp
   exact (f2 b hb).2.2.2.2.2 p E1
  refine Ge (λmm s'=>∃(i:Nat) (xs:List V) (H':Hp) (jV:L2.St),jV.length=n∧Inv 0#K [] (jV++om cap σ) H' s'∧tn i s'.heap∧(∀b∈fp,H' b=none)∧W i mm xs H') ?_ m0
   ⟨0,[],_,kT n none,Fy,I4,T.keep _ _ _ st2 λb hb o e=>old b o (by rw [← hH3];exact pA _ e),fp3,w0⟩
  rintro mm s5 ⟨i,xs,H5,jV,afV,I5,st5,fr5,w5⟩
  obtain ⟨e5,tw⟩:=turn i mm xs H5 w5
  rcases tw with ⟨stop,qn⟩ | ⟨go,hz,step⟩
  ·refine gZ (T.done 0#K rfl rfl rfl hc i [] s5 _ H5 _ I5 (fpk fr5) st5 stop) λr s6 ⟨hr,I6⟩=>?_
   subst hr
   obtain ⟨m,hn,_⟩:=id I6.loc
   have J6:L2.Inv X pins σ H5 s6:=I3.Yl (s':=s6) (ch:=fp) I6.os I6.base I6.hok I6.bare λb hb=>by
    obtain ⟨_,g1,_,g3,g4,g5⟩:=f2 b hb
    exact ⟨g3,g1,g4,g5⟩
   exact fin D H5 s6 _ J6 (I3.LA (dG _) I6.free) ⟨m,hn⟩ qn
  ·refine gZ (T.item 0#K rfl rfl rfl hc i [] s5 _ H5 _ I5 (fpk fr5) st5 go) λr s6 ⟨u,hr,h6⟩=>?_
   subst hr
   refine gZ h6 λ_ s7 ⟨xv,H7,I7,r7,y7,st7,fr7⟩=>?_
   have I7':=I7.pinned (fpk fr7) (T.obj _ _ st7)
   refine pW (hg _ _ _ _ _ _ s7 _ H7 xv u _ I7' r7 (step xv H7 jV afV y7)) (λ_ s8 ⟨σ2,H8,I8,⟨σ1,adw,e2⟩,q8⟩=>?_) λ_ _ z=>z.elim
   refine pW (Qg _ _ _ _ _ _ s8 σ2 H8 _ I8 q8) (λok s9 ⟨H9,I9,q9⟩=>?_) λ_ _ z=>z.elim
   subst e2
   have keep:∀{s':bA} {σ':L2.St} {H':Hp},Inv 0#K ([]++CJ fp s7.heap) σ' H' s'→tn (i+1) s'.heap∧∀b∈fp,H' b=none:=λ{s' σ' H'} J=>
    ⟨T.keep _ _ _ st7 λb hb o e=>(J.pin (b,o) (Bc _ (Bc _ (qw hb e)))).1,λb hb=>by
     obtain ⟨o,e,d⟩:=T.obj _ _ st7 b hb
     exact (J.pin (b,o) (Bc _ (Bc _ (qw hb e)))).2.1⟩
   cases ok with
   | false=>
     rw [if_neg dW] at q9 ⊢
     obtain ⟨m',hm,w9⟩:=q9
     exact ⟨m',hm,i+1,xs,H9,σ1,adw,I9.tR,(keep I9).1,(keep I9).2,w9⟩
   | true=>
     rw [if_pos rfl] at q9 ⊢
     refine pW (helt _ _ _ _ _ _ s9 _ H9 _ I9 q9) (λyv pC ⟨y,vf,I10,r10,DV,m',hm,w10⟩=>?_) λ_ _ z=>z.elim
     refine pW (E5 (X:=cU X (O++N') scope cl h3.objs.size { s2 with heap:=h3,toks:=s2.toks } (upd H2 D (.lst [])) fp (X.pn++pins)) _ pC _ vf (.ref D) [y] (.ref D) [yv] (λ_ H'=>H'=upd vf D (.lst (xs++[y]))) I10 rfl (.cons r10 .nil) ⟨D,xs,y,rfl,rfl,DV,hz,rfl⟩) (λ_ CU ⟨_,Lk,I11,_,VX⟩=>?_) λ_ _ z=>z.elim
     subst VX
     exact ⟨m',hm,i+1,xs++[y],_,σ1,adw,I11.tR,(keep I11).1,(keep I11).2,w10⟩
 exact codeAny_compStart_list loop (T.self _ 0 _ _ _ (T.keep _ _ _ st2 λb hb o e=>old b o (by rw [← hH3];exact pA _ e)) loop)
theorem Hj {X:Cx} {elt iter tg:bg} {ifs:List bg} {pos:Pos} {scope:pY} {cl:List (Str×av)} {wi:TI} {te:TE} {tt:TT} {g:TG} {O N':List Str} {cap:List Nat} {n:Nat} (hc:X.calm=true) (hi:PI X tg iter wi)
 (hg:∀(C:av) (s0:bA) (H0:Hp) (ex':List av) (j7:List (av×Obj)),PG (cU X (O++N') scope cl C s0 H0 ex' j7) tg g)
 (Qg:∀(C:av) (s0:bA) (H0:Hp) (ex':List av) (j7:List (av×Obj)),Yh (cU X (O++N') scope cl C s0 H0 ex' j7) ifs tt)
 (helt:∀(C:av) (s0:bA) (H0:Hp) (ex':List av) (j7:List (av×Obj)),PE (cU X (O++N') scope cl C s0 H0 ex' j7) elt te)
 (hO:O.length=n) (hcap:wg X scope cl N' cap)
 (hclos:closureFor scope X.env=pure cl) (hcell:∀y∈scope.names,y.2≠.cell) (hkind:scope.kind=.function) (hnames:∀y∈scope.names,y.2=.local→scope.names.lookup y.1=some .local)
 (D8:∀y c,cl.lookup y=some c→X.env.cells.lookup y=some c) (hhas:∀y,((relabel scope X.env).names.lookup y=some .cell∨(relabel scope X.env).names.lookup y=some .free)→∃c,cl.lookup y=some c)
 (hs:∀z,II iter X.env z=pure z:=by intro _;rfl) :
 PE X 0#r (Ac wi n cap g tt te):=by
 intro pins s σ H Q I h
 rw [eval_ListComp]
 exact I0 none (EP X pins σ Q) hc hi hg Qg helt hO hcap hclos hcell hkind hnames D8 hhas hs I h λD H5 s6 C J fC ⟨m,hn⟩ q=>⟨m,hn,λh' sb=>⟨.ref D,H5,Of J fC sb,rfl,q⟩⟩
theorem Hs (hN:X.N.Nodup) (hix:X.N[i]?=some x) (hx:Loc X.env.scope x) (hc:X.calm=true) (hi:PI X tg iter wi)
 (hg:∀(C:av) (s0:bA) (H0:Hp) (ex':List av) (j7:List (av×Obj)),PG (cU X (O++N') scope cl C s0 H0 ex' j7) tg g)
 (Qg:∀(C:av) (s0:bA) (H0:Hp) (ex':List av) (j7:List (av×Obj)),Yh (cU X (O++N') scope cl C s0 H0 ex' j7) ifs tt)
 (helt:∀(C:av) (s0:bA) (H0:Hp) (ex':List av) (j7:List (av×Obj)),PE (cU X (O++N') scope cl C s0 H0 ex' j7) elt te)
 (hO:O.length=n) (hcap:wg X scope cl N' cap)
 (hclos:closureFor scope X.env=pure cl) (hcell:∀y∈scope.names,y.2≠.cell) (hkind:scope.kind=.function) (hnames:∀y∈scope.names,y.2=.local→scope.names.lookup y.1=some .local)
 (D8:∀y c,cl.lookup y=some c→X.env.cells.lookup y=some c) (hhas:∀y,((relabel scope X.env).names.lookup y=some .cell∨(relabel scope X.env).names.lookup y=some .free)→∃c,cl.lookup y=some c)
 (hsw:lR 0#r (some (.Name x pos')) spos.line X.env=pure true)
 (hs:∀z,II iter X.env z=pure z:=by intro _;rfl) (hf:X.fn x=true∨X.env.scope.names.lookup x=some .local:=by first | exact .inl rfl | exact .inr rfl | assumption) :
 PS X (.Assign [.Name x pos'] 0#r spos) (Ez (Ac wi n cap g tt te) (iU i)):=by
 intro pins s σ H D I h
 rw [exec_Assign_Name_used _ _ _ _ hsw]
 refine gJ (K1 (gJ ?_))
 show ck _ _ (comprehension 0#r scope X.env _ (newList []) false (eval iter X.env) (some (assign (.Name x pos') X.env)) >>= λ_=>pure ()) _ _ s
 refine gJ (I0 (some (assign (.Name x pos') X.env)) (λ_ s'=>ck _ _ (pure ()) _ _ s') hc hi hg Qg helt hO hcap hclos hcell hkind hnames D8 hhas hs I h λDl H5 s6 C J fC ⟨m,hn⟩ q=>?_)
 refine Zt (Ft J hN hix hx (show RelV (.ref Dl) (.ref Dl) from rfl) (λs7 I7 ⟨a,sb,ha⟩=>⟨m,hn.sameBut sb ?_,λh' sb'=>ou (ou ⟨_,H5,Of I7 fC sb',q⟩)⟩) hf)
 rcases ha with rfl | e
 ·exact fC.2.1
 ·exact λz=>fC.2.2.2.2.1 x a e z.symm
end
structure Cn (mg:Str→Option aL) (x:Str) (n:Int):Prop where
 ex:∃t,mg x=some (.int n t)
section
theorem Kc (hg:Gl X x) (C:Cn X.mg x n) (hd:0#B=false:=by decide):PE X (.Name x pos) (tC (.int n)):=by
 obtain ⟨t,h⟩:=C.ex
 exact L2.Xv hg h ⟨t,rfl⟩ hd
def OB:V→Hp→VK→Prop:=λx H Q=>∃i:Int,x=.int i∧Q (.int ((uK i:Nat):Int)) H
theorem Xe:MtR X "int.bit_length" (λx vs H Q=>vs=[]∧OB x H Q):=by
 intro pins s σ H x vs v us Q I rx rv h
 obtain ⟨rfl,i,rfl,q⟩:=h
 cases rv
 obtain ⟨t,rfl⟩:=rx
 exact call_int_bit_length ⟨.int ((uK i:Nat):Int),H,I.tok _,⟨_,rfl⟩,q⟩
theorem wU (ho:PE X o to) (hbase:vZ o "bit_length" X.env (eval o X.env)=eval o X.env:=by rfl) (hline:0#W=true:=by rfl) :
 PE X (.Call (.Attribute o "bit_length" apos) [] [] cpos) (tUn (λx H Q=>X7 X.K "int" x H∧([]:List V)=[]∧OB x H Q) to):=
 TQ PySem.F.plainAttrs_int slot_int_bit_length type_int_bit_length Xe ho hbase hline
theorem abV {K:b9} (q:Q (.int ((uK m:Nat):Int)) H):X7 K "int" (.int m) H∧([]:List V)=[]∧OB (.int m) H Q:=⟨rfl,rfl,m,rfl,q⟩
def adQ:List V→Hp→VK→Prop:=λxs H Q=>∃i j:Int,xs=[.int i,.int j]∧Q (.int (if j>i then j else i)) H
def adR:List V→Hp→VK→Prop:=λxs H Q=>∃i j:Int,xs=[.int i,.int j]∧Q (.int (if j<i then j else i)) H
theorem Xb (hc:X.calm=true):je X (.builtin "max") adQ:=PC hc
theorem abA (hc:X.calm=true):je X (.builtin "min") adR:=PD hc
theorem ad0 (q:Q (.int (if n>m then n else m)) H):adQ [.int m,.int n] H Q:=⟨m,n,rfl,q⟩
theorem ad1 (q:Q (.int (if n<m then n else m)) H):adR [.int m,.int n] H Q:=⟨m,n,rfl,q⟩
theorem acQ (K:b9) (h:X.K=K:=by rfl):rK X (oK .Add) (T4 K):=h▸Xq
theorem T6 {K:b9} (hp:H p=some (.tup (x::xs))) (hr:H r=some (.tup (y::ys))) (h:Nw .tup (x::xs++y::ys) H Q):T4 K 1#a (.ref r) H Q:=
 ⟨p,r,_,_,rfl,rfl,qb.of hp,qb.of hr,by simp,by have:=h.1;rw [fj] at this;exact this,λe=>by simp at e,λ_=>h.2⟩
theorem Fg (hp:H p=some (.lst xs)) (hr:H r=some (.lst ys)) (h:Nw .lst (xs++ys) H Q):adO 1#a (.ref r) H Q:=⟨p,r,_,_,rfl,rfl,hp,hr,by have:=h.1;rw [fj] at this;exact this,h.2⟩
theorem YH (hp:H p=some (.lst xs)) (h1:-(2 ^ 63)≤k) (h2:k<2 ^ 63) (h:Nw .lst (kT k.toNat xs).flatten H Q):adT 1#a (.int k) H Q:=
 ⟨p,k,xs,rfl,rfl,hp,h1,h2,by have:=h.1;rw [len_rep] at this;rw [aan];exact this,h.2⟩
theorem at3 {u:V}:qV (x::y::z::u::xs) 3=some u:=gW (j:=3) rfl
theorem agw {K:b9} (h:H p=some (.tup (x::y::z::u::xs))) (q:Q u H):M1 K 1#a (.int 3) H Q:=⟨p,_,3,u,rfl,rfl,qb.of h,at3,q⟩
theorem Ff (h:te σ H λx H1=>g x σ H1 D.nx):Ez te g D σ H:=h
theorem ab1 (h:to σ H λo H1=>ti σ H1 λi H2=>ts o i v H2 λH3=>R σ H3):aa9 to ti ts v σ H R:=h
theorem ab7 (h:H p=some (.lst xs)) (e:Rf xs.length k=some j) (q:Q (upd H p (.lst (xs.set j v)))):YF 1#a (.int k) v H Q:=⟨p,xs,k,j,rfl,rfl,h,e,q⟩
end
theorem Qc (c:((uK low:Nat):Int)>128) (h0:0≤low):340282366920938463463374607431768211456≤low:=by
 have h:¬uK low≤128:=by simp?
 have k:¬low.natAbs<2 ^ 128:=λq=>h (FL.mpr q)
 have e:(2:Nat) ^ 128=340282366920938463463374607431768211456:=by decide
 simp?
theorem Jz (c:¬((uK low:Nat):Int)>128):low≤340282366920938463463374607431768211456:=by
 have h:uK low≤128:=by simp?
 have k:low.natAbs<2 ^ 128:=FL.mp h
 have e:(2:Nat) ^ 128=340282366920938463463374607431768211456:=by decide
 simp?
theorem LX (c:((uK y:Nat):Int)>256) (y0:0≤y) (yx:y≤x) :
 ∃t:Nat,((uK x:Nat):Int)-256=(t:Int)∧(2:Int) ^ (255+t)≤x∧x<(2:Int) ^ (256+t):=by
 have hb:uK y≤uK x:=intBits_le_of_natAbs 0#c (dG _)
 obtain ⟨t,ht⟩:∃t,uK x=256+t:=⟨uK x-256,by simp?⟩
 have h1:x.natAbs<2 ^ (256+t):=FL.mp 0#c
 have h2:¬x.natAbs<2 ^ (255+t):=λq=>by have:=FL.mpr q;simp?
 refine ⟨t,by simp?,?_,?_⟩
 ·have:(((2:Nat) ^ (255+t):Nat):Int)=(2:Int) ^ (255+t):=by simp
  rw [← this];simp?
 ·have:(((2:Nat) ^ (256+t):Nat):Int)=(2:Int) ^ (256+t):=by simp
  rw [← this];simp?
end My
namespace Jd
open PySem PySem.Spec PyProof.Rows L2 My
structure QE (X:Cx) (e:bg) (t:TE):Prop where
 h:PE X e t
structure QT (X:Cx) (e:bg) (t:TT):Prop where
 h:PT X e t
structure QW (X:Cx) (e:bg) (t:TT):Prop where
 h:PW X e t
structure QA (X:Cx) (es:List bg) (t:TA):Prop where
 h:PA X es t
structure QS (X:Cx) (st:aT) (t:TS):Prop where
 h:PS X st t
structure Px (X:Cx) (st:List aT) (t:TS):Prop where
 h:Lp X st t
structure QG (X:Cx) (e:bg) (t:TG):Prop where
 h:PG X e t
structure QGs (X:Cx) (es:List bg) (t:We):Prop where
 h:Yg X es t
structure QI (X:Cx) (tg e:bg) (t:TI):Prop where
 h:PI X tg e t
structure QO (X:Cx) (e:Option bg) (t:TO):Prop where
 h:PO X e t
section
theorem go {X:Cx} {body:List aT} {D:Ends} {σ:L2.St} {H:Hp} (h:∃t,Px X body t∧t D σ H):∃t,Lp X body t∧t D σ H:=let ⟨t,h,k⟩:=h;⟨t,h.h,k⟩
theorem cut (n:Nat) (Pv:L2.St→Hp→Prop) (tail:∃t,Px X (body.drop n) t∧∀σ H,Pv σ H→t D σ H)
 (main:∀u,Px X (body.drop n) u→(∀σ H,Pv σ H→u D σ H)→∃t,Px X body t∧t D σ H):∃t,Px X body t∧t D σ H:=
 let ⟨u,h1,h2⟩:=tail
 main u h1 h2
theorem pv {X:Cx} {pos:Pos} {x:Str} (i:Nat) (hN:X.N[i]?=some x:=by rfl) (hv:Vis X.env.scope x:=by first | exact Or.inl rfl | exact Or.inr (Or.inl rfl) | exact Or.inr (Or.inr rfl)) (hd:0#B=false:=by decide)
 (hcd:(x==("__classdict__":Str))=false:=by decide):QE X (.Name x pos) (X6 i):=⟨L2.pv i hN hv hd hcd⟩
theorem CC {X:Cx} {pos:Pos} {i j}:QE X (.Constant (.int i) j pos) (tC (.int i)):=⟨L2.CC⟩
theorem TM {X:Cx} {pos:Pos} {i j}:QE X (.Constant (.bool i) j pos) (tC (.bl i)):=⟨L2.TM⟩
theorem MN {X:Cx} {pos:Pos} {j}:QE X (.Constant .none j pos) (tC .bM):=⟨L2.MN⟩
theorem MO {X:Cx} {pos:Pos} {i j}:QE X (.Constant (.str i) j pos) (tC (.str i)):=⟨L2.MO⟩
theorem sF (hg:Gl X x) (hm:X.mg x=none) (hv:uV x=some (.type n)) (hn:x ≠ "__name__":=by decide) (hd:0#B=false:=by decide):QE X (.Name x pos) (tC (.ty n)):=⟨My.sF hg hm hv hn hd⟩
theorem TX {X:Cx} {a b:bg} {ta tb:TE} {pos:Pos} {op:Operator} {r:R2} (ho:rK X (oK op) r) (ha:QE X a ta) (hb:QE X b tb):QE X (.BinOp a op b pos) (UU r ta tb):=⟨L2.TX ho ha.h hb.h⟩
theorem TY {X:Cx} {a:bg} {ta:TE} {pos:Pos} {op:UnaryOp} {r:V→Hp→VK→Prop} (ho:UnR X (unaryOp op) r) (ha:QE X a ta):QE X (.UnaryOp op a pos) (tUn r ta):=⟨L2.TY ho ha.h⟩
theorem Hi {X:Cx} {a b:bg} {ta tb:TE} {pos:Pos} {op:CmpOp} {r:R2} (ho:rK X (pZ op) r) (ha:QE X a ta) (hb:QE X b tb) (hm:behindInMarks op b=false):QE X (.Compare a [op] [b] pos) (UU r ta tb):=⟨L2.Hi ho ha.h hb.h hm⟩
theorem Hy {X:Cx} {a b:bg} {ta tb:TE} {pos:Pos} {op:CmpOp} {r:R2} (ho:rK X (pZ op) r) (ha:QE X a ta) (hb:QE X b tb) (hm:behindInMarks op b=false):QT X (.Compare a [op] [b] pos) (Ku (UU r ta tb)):=⟨L2.Hy ho ha.h hb.h hm⟩
theorem nv (ha:QT X a tA):QT X (.UnaryOp .Not a pos) (acs tA):=⟨L2.nv ha.h⟩
theorem MX {X:Cx} {e:bg} {te:TE} (h:QE X e te) (he:∀whole,isTrue e X.env whole=(do let v ← whole;As e.pos;holding [v] (truthy v)):=by intro _;rfl):QT X e (tB te):=⟨L2.MX h.h he⟩
theorem afn {X:Cx} {e:bg} {tA:TT} (h:QW X e tA):QT X e tA:=⟨h.h.pt⟩
theorem HB (ha:QT X a tA):QW X (.BoolOp .And [a] pos) tA:=⟨L2.HB ha.h⟩
theorem nA (ha:QT X a tA):QW X (.BoolOp .Or [a] pos) tA:=⟨L2.nA ha.h⟩
theorem MZ (ha:QT X a tA) (hb:QW X (.BoolOp .And (b::es) pos) tB'):QW X (.BoolOp .And (a::b::es) pos) (acn tA tB'):=⟨L2.MZ ha.h hb.h⟩
theorem sJ (ha:QT X a tA) (hb:QW X (.BoolOp .Or (b::es) pos) tB'):QW X (.BoolOp .Or (a::b::es) pos) (tOr tA tB'):=⟨L2.sJ ha.h hb.h⟩
theorem CD {X:Cx} {a:bg} {te:TE} {pos:Pos} {op} (h:QE X a te):QE X (.BoolOp op [a] pos) te:=⟨L2.CD h.h⟩
theorem yP (ha:QE X a ta) (hb:QE X (.BoolOp .And (b::es) pos) tb):QE X (.BoolOp .And (a::b::es) pos) (UO ta tb):=⟨L2.yP ha.h hb.h⟩
theorem CB (hc:QT X c tA) (ha:QE X a ta) (hb:QE X b tb):QE X (.IfExp c a b pos) (tIf tA ta tb):=⟨L2.CB hc.h ha.h hb.h⟩
theorem vD {X:Cx}:QA X [] qP:=⟨L2.vD⟩
theorem ku {X:Cx} {e:bg} {es:List bg} {te:TE} {t:TA} (ha:QE X e te) (hr:QA X es t) (hs:bD (e::es) X.env=0#G::bD es X.env:=by rfl):QA X (e::es) (gE te t):=⟨L2.ku ha.h hr.h hs⟩
theorem MP {X:Cx} {es:List bg} {t:TA} {pos:Pos} {k:Nat} (h:QA X es t):QE X (.Tuple es k pos) (acw t):=⟨L2.MP h.h⟩
theorem ML {X:Cx} {es:List bg} {t:TA} {pos:Pos} (h:QA X es t):QE X (.List es pos) (acr t):=⟨L2.ML h.h⟩
theorem Hq {X:Cx}:QO X none Iu:=⟨L2.Hq⟩
theorem Hr {X:Cx} {e:bg} {te:TE} (h:QE X e te):QO X (some e) (UW te):=⟨L2.Hr h.h⟩
theorem CF {X:Cx} {e:bg} {te:TE} {pos p2:Pos} {r:V→Option Int→Option Int→Hp→VK→Prop} {lo hi:Option bg} {tl th:TO} (hr:SlR X r) (he:QE X e te) (hl:QO X lo tl) (hu:QO X hi th):QE X (.Subscript e (.Slice lo hi none p2) pos) (tSl r te tl th):=⟨L2.CF hr he.h hl.h hu.h⟩
theorem Kd {X:Cx} {a b:bg} {ta tb:TE} {pos:Pos} {r:R2} (hr:IxR X r) (ha:QE X a ta) (hb:QE X b tb) (hs:NO b):QE X (.Subscript a b pos) (UU r ta tb):=⟨L2.Kd hr ha.h hb.h hs⟩
theorem wV {X:Cx} {e:bg} {es:List bg} {t:TA} {pos p:Pos} {x:Str} {id:String} {r:List V→Hp→VK→Prop} (hc:je X (.builtin id) r) (hg:Gl X x) (hm:X.mg x=none) (hv:uV x=some (.builtin id)) (ha:QA X (e::es) t) (hn:x ≠ "__name__":=by decide) (hdb:0#B=false:=by decide)
 (he:bD (e::es) X.env=0#G::bD es X.env:=by rfl) (hpl:(iA pos (bD es X.env)).any (·.1)=false:=by rfl):QE X (.Call (.Name x p) (e::es) [] pos) (tCB r t):=⟨L2.wV hc hg hm hv ha.h hn hdb he hpl⟩
theorem mO {X:Cx} {e:bg} {es:List bg} {t:TA} {pos p:Pos} {x:Str} {T:String} {r:List V→Hp→VK→Prop} (hc:je X (.type T) r) (hg:Gl X x) (hm:X.mg x=none) (hv:uV x=some (.type T)) (ha:QA X (e::es) t) (hn:x ≠ "__name__":=by decide) (hdb:0#B=false:=by decide)
 (he:bD (e::es) X.env=0#G::bD es X.env:=by rfl) (hpl:(iA pos (bD es X.env)).any (·.1)=false:=by rfl):QE X (.Call (.Name x p) (e::es) [] pos) (tCB r t):=⟨L2.mO hc hg hm hv ha.h hn hdb he hpl⟩
theorem Fc {X:Cx} {e:bg} {es:List bg} {t:TA} {pos p:Pos} {x:Str} {k:Nat} {ps:List Str} {sp:Sp} (D:Dn X.prog X.w X.K X.mg X.base k x ps sp) (hr:iR k X.A) (hg:Gl X x) (ha:QA X (e::es) t) (hdb:0#B=false:=by decide)
 (he:bD (e::es) X.env=0#G::bD es X.env:=by rfl) (hpl:(iA pos (bD es X.env)).any (·.1)=false:=by rfl):QE X (.Call (.Name x p) (e::es) [] pos) (Dt sp [] E0 t):=⟨My.Fc D hr hg ha.h hdb he hpl⟩
theorem aaL {X:Cx} {e o:bg} {te to:TE} {apos cpos:Pos} (K:b9) (ho:QE X o to) (he:QE X e te) (h:X.K=K:=by rfl)
 (hbase:vZ o "append" X.env (eval o X.env)=eval o X.env:=by rfl)
 (hfew:((iA cpos (bD (e::[]) X.env)).all (λx=>!x.1)&&(tW cpos (tU [] X.env)).all (λx=>x.1.isSome)
   && decide ((e::([]:List bg)).length+([]:List oM).length+(if ([]:List oM).isEmpty then 0 else 1)<30))=true:=by rfl)
 (hline:0#W=true:=by rfl) (hs:bD (e::[]) X.env=0#G::bD [] X.env:=by rfl) (hplain:(iA cpos (bD [] X.env)).any (·.1)=false:=by rfl) :
 QE X (.Call (.Attribute o "append" apos) [e] [] cpos) (YK K "list" Bt to (gE te qP)):=⟨My.aaL K ho.h he.h h hbase hfew hline hs hplain⟩
theorem Hw {X:Cx}:Px X [] UT:=⟨L2.Hw⟩
theorem CM {X:Cx} {st:aT} {rest:List aT} {s1 s2:TS} (h1:QS X st s1) (h2:Px X rest s2):Px X (st::rest) (Du s1 s2):=⟨L2.CM h1.h h2.h⟩
theorem Hx {X:Cx} {st:aT} {s1:TS} (h1:QS X st s1):Px X [st] s1:=⟨L2.Hx h1.h⟩
theorem CL {st:aT}:QS X st US:=⟨L2.CL⟩
theorem MW {X:Cx} {e:bg} {te:TE} {pos:Pos} (he:QE X e te):QS X (.Return (some e) pos) (acv te):=⟨L2.MW he.h⟩
theorem Ht {X:Cx} {e:bg} {te:TE} {pos:Pos} (he:QE X e te) (hs:lR e none pos.line X.env=pure false:=by rfl):QS X (.Expr e pos) (UQ te):=⟨L2.Ht he.h hs⟩
theorem Hv {X:Cx} {e:bg} {te:TE} {pos:Pos} {x:Str} {i:Nat} {pos':Pos} (hN:X.N.Nodup) (hi:X.N[i]?=some x) (hx:Loc X.env.scope x) (he:QE X e te) (hs:lR e (some (.Name x pos')) pos.line X.env=pure false:=by rfl) (hf:X.fn x=true∨X.env.scope.names.lookup x=some .local:=by first | exact .inl rfl | exact .inr rfl | assumption) :
 QS X (.Assign [.Name x pos'] e pos) (Ez te (iU i)):=⟨L2.Hv hN hi hx he.h hs hf⟩
theorem sG (he:QE X e te) (hg:QG X tg g) (hs:swapsWithSole [tg] e pos.line X.env=pure false:=by rfl) (hw:swappedStores [tg] e X.env=pure none:=by rfl)
 (h1:(oq [tg] X.env).map (·.2)=[assign tg X.env]:=by rfl):QS X (.Assign [tg] e pos) (Ez te g):=⟨L2.sG he.h hg.h hs hw h1⟩
theorem Hu (hc:X.calm=true) (hN:X.N.Nodup) (hi:X.N[i]?=some x) (hj:X.N[j]?=some y) (hij:i≠j)
 (hx:X.env.scope.names.lookup x=some .local) (hy:X.env.scope.names.lookup y=some .local) (ha:QA X [a,b] ta)
 (hw:swappedStores [.Tuple [.Name x px,.Name y py] kt pt] (.Tuple [a,b] k2 pt2) X.env=pure (some [x,y]))
 (hs:swapsWithSole [.Tuple [.Name x px,.Name y py] kt pt] (.Tuple [a,b] k2 pt2) pos.line X.env=pure false:=by rfl) :
 QS X (.Assign [.Tuple [.Name x px,.Name y py] kt pt] (.Tuple [a,b] k2 pt2) pos) (acu i j ta):=⟨L2.Hu hc hN hi hj hij hx hy ha.h hw hs⟩
theorem T3 {X:Cx} {c:bg} {pos:Pos} {s1 s2:TS} {ss ss':List aT} {tc:TT} (hc:QT X c tc) (ha:Px X ss s1) (hb:Px X ss' s2):QS X (.If c ss ss' pos) (acq tc s1 s2):=⟨L2.T3 hc.h ha.h hb.h⟩
theorem kO (hp:Pp 0#n X.A X.env X.xe) (hc:QT X c tc) (hb:Px X sts s1):QS X (.While c sts [] pos) (Dv tc s1):=⟨L2.kO hp hc.h hb.h⟩
theorem MV {X:Cx} {e:bg} {pos:Pos} {sts:List aT} {s1:TS} {tg:bg} {wi:TI} {g:TG} (hp:Pp 0#n X.A X.env X.xe) (hc:X.calm=true) (hi:QI X tg e wi) (hg:QG X tg g) (hb:Px X sts s1)
 (hs:∀x,II e X.env x=pure x:=by intro _;rfl):QS X (.For tg e sts [] pos) (acp wi g s1):=⟨L2.MV hp hc hi.h hg.h hb.h hs⟩
theorem Hl {X:Cx} {pos:Pos} {x:Str} {i:Nat} (hN:X.N.Nodup) (hi:X.N[i]?=some x) (hx:Loc X.env.scope x) (hf:X.fn x=true∨X.env.scope.names.lookup x=some .local:=by first | exact .inl rfl | exact .inr rfl | assumption):QG X (.Name x pos) (iU i):=⟨L2.Hl hN hi hx hf⟩
theorem Ho {X:Cx}:QGs X [] PN:=⟨L2.Ho⟩
theorem CG {X:Cx} {e:bg} {es:List bg} {g:TG} {u:We} (h1:QG X e g) (h2:QGs X es u) (hs:(oq (e::es) X.env).map (·.2)=assign e X.env::(oq es X.env).map (·.2):=by rfl):QGs X (e::es) (qW g u):=⟨L2.CG h1.h h2.h hs⟩
theorem Ox (K:b9)  (hc:X.calm=true) (h2:QGs X es g) (hn:(oq es X.env).length=n:=by rfl) (hst:(oq es X.env).findIdx? (·.1)=none:=by rfl) (h:X.K=K:=by rfl):QG X (.Tuple es k pos) (PR K n g):=⟨My.Ox K hc h2.h hn hst h⟩
theorem pgL (K:b9)  (hc:X.calm=true) (h2:QGs X es g) (hn:(oq es X.env).length=n:=by rfl) (hst:(oq es X.env).findIdx? (·.1)=none:=by rfl) (h:X.K=K:=by rfl):QG X (.Tuple es k pos) (WG K n g):=⟨My.pgL K hc h2.h hn hst h⟩
theorem piL {X:Cx} {e:bg} {te:TE} (K:b9) {tg:bg} (hl:QE X e te) (h:X.K=K:=by rfl):QI X tg e (Oe K te):=⟨My.piL K hl.h h⟩
theorem piT (K:b9)  (hl:QE X e te) (h:X.K=K:=by rfl):QI X tg e (WZ K te):=⟨My.piT K hl.h h⟩
theorem yQ (hg:Gl X "range") (hm:X.mg "range"=none) (ha:QA X [a] t) (hs:bD [a] X.env=[(false,eval a X.env)]:=by rfl):QI X tg (.Call (.Name "range" p) [a] [] pos) (SG t):=⟨L2.yQ hg hm ha.h hs⟩
theorem Kc (hg:Gl X x) (C:Cn X.mg x n) (hd:0#B=false:=by decide):QE X (.Name x pos) (tC (.int n)):=⟨My.Kc hg C hd⟩
theorem wU (ho:QE X o to) (hbase:vZ o "bit_length" X.env (eval o X.env)=eval o X.env:=by rfl) (hline:0#W=true:=by rfl) :
 QE X (.Call (.Attribute o "bit_length" apos) [] [] cpos) (tUn (λx H Q=>X7 X.K "int" x H∧([]:List V)=[]∧OB x H Q) to):=⟨My.wU ho.h hbase hline⟩
theorem MR (ho:QE X o to) (hi:QE X i ti) (hs:aaI X ts)
 (ha:∀v,assign (.Subscript o i pos) X.env v=(holding [v] (eval o X.env) >>= λov=>holding [v,ov] (eval i X.env) >>= λiv=>As pos >>= λ_=>holding [v,ov,iv] (setItem ov iv v) >>= λ_=>release [v,ov,iv] []):=by intro _;rfl) :
 QG X (.Subscript o i pos) (aa9 to ti ts):=⟨L2.MR ho.h hi.h hs ha⟩
theorem CN (ho:rK X (pZ op) r) (ho':rK X (pZ op') r') (ha:QE X a ta) (hb:QE X b tb) (hc:QE X c tc)
 (hm:lastMarks [op,op'] [b,c]=false:=by with_unfolding_all rfl):QT X (.Compare a [op,op'] [b,c] pos) (Ku (Nz r r' ta tb tc)):=⟨L2.CN ho ho' ha.h hb.h hc.h hm⟩
end
end Jd
namespace My
open PySem PySem.Spec PyProof.Rows L2 Mth
def ie (cells:List (Str×av)):List (Str×xX)→List (Str×av)→List (Str×av)
 | [],cs=>cs
 | (y,k)::r,cs=>ie cells r (if k=.free then ((cells.lookup y).map λc=>(y,c)).toList++cs else cs)
def iC (cells:List (Str×av)) (names:List (Str×xX)):Bool:=names.all λp=>!(p.2==NameKind.free)||(cells.lookup p.1).isSome
theorem vm {env:Env}:∀(names:List (Str×xX)) (cs:List (Str×av)),iC env.cells names=true →
 (forIn (m:=Sem) names cs λx r=>match x with | (name,kind)=>if (kind==NameKind.free)=true then do let a ← cellOf env name;pure (ForInStep.yield ((name,a)::r)) else pure (ForInStep.yield r))=pure (ie env.cells names cs)
 | [],cs,_=>rfl
 | (y,k)::r,cs,h=>by
   have h2:iC env.cells r=true:=by
    unfold iC at h ⊢
    rw [Pg,Ai] at h
    exact h.2
   rw [List.forIn_cons]
   by_cases hk:k=.free
   ·subst hk
    have h1:(env.cells.lookup y).isSome=true:=by
     unfold iC at h
     rw [Pg,Ai] at h
     simpa using h.1
    obtain ⟨c,hc⟩:=OL.mp h1
    have ih:=vm r ((y,c)::cs) h2
    have e:cellOf env y=pure c:=by unfold cellOf;rw [hc]
    show (((if (NameKind.free==NameKind.free)=true then do let a ← cellOf env y;pure (ForInStep.yield ((y,a)::cs)) else pure (ForInStep.yield cs)):Sem _) >>= _)=_
    rw [if_pos (by rfl),e,pure_bind,pure_bind]
    show forIn (m:=Sem) r ((y,c)::cs) _=_
    rw [ih]
    show _=pure (ie env.cells r (if NameKind.free=.free then ((env.cells.lookup y).map λc=>(y,c)).toList++cs else cs))
    rw [if_pos rfl,hc]
    rfl
   ·have ih:=vm r cs h2
    have hk':(k==NameKind.free)=false:=by simpa using hk
    show (((if (k==NameKind.free)=true then do let a ← cellOf env y;pure (ForInStep.yield ((y,a)::cs)) else pure (ForInStep.yield cs)):Sem _) >>= _)=_
    rw [hk',if_neg dW,pure_bind]
    show forIn (m:=Sem) r cs _=_
    rw [ih]
    show _=pure (ie env.cells r (if k=.free then _ else cs))
    rw [if_neg hk]
theorem BU (h:iC env.cells scope.names=true):closureFor scope env=pure (ie env.cells scope.names []):=by
 have e:=vm (env:=env) scope.names [] h
 show (forIn (m:=Sem) scope.names [] _ >>= λcs=>pure cs)=_
 exact (congrArg (· >>= λcs=>pure cs) e).trans (pure_bind _ _)
theorem ER:∀(names:List (Str×xX)) (cs:List (Str×av)) (p:Str×av),p∈ie cells names cs→p∈cs∨cells.lookup p.1=some p.2
 | [],_,_,h=>.inl h
 | (y,k)::r,cs,p,h=>by
   rcases ER r _ p h with q | q
   ·by_cases hk:k=.free
    ·rw [if_pos hk] at q
     rcases dg.mp q with z | z
     ·cases e:cells.lookup y with
      | none=>rw [e] at z;simp at z
      | some c=>rw [e] at z;simp at z;subst z;exact .inr e
     ·exact .inl z
    ·rw [if_neg hk] at q
     exact .inl q
   ·exact .inr q
theorem EO:∀(names:List (Str×xX)) (cs:List (Str×av)) (y:Str) (c:av),((y,NameKind.free)∈names∧cells.lookup y=some c)∨(y,c)∈cs→(y,c)∈ie cells names cs
 | [],_,_,_,h=>h.elim (λz=>by simp at z) id
 | (z,k)::r,cs,y,c,h=>by
   refine EO r _ y c ?_
   rcases h with ⟨m,e⟩ | m
   ·rcases qU.mp m with q | q
    ·cases q
     right
     rw [if_pos rfl,e]
     simp
    ·exact .inl ⟨q,e⟩
   ·right
    by_cases hk:k=.free
    ·rw [if_pos hk];exact Bc _ m
    ·rw [if_neg hk];exact m
theorem uq {α:Type}:∀{l:List (Str×α)} {x:Str} {v:α},l.lookup x=some v→(x,v)∈l
 | (y,u)::r,x,v,h=>by
   rw [Vi] at h
   cases e:x==y with
   | true=>
     rw [e] at h
     cases h
     have:x=y:=by simpa using e
     subst this
     exact Ae
   | false=>
     rw [e] at h
     exact DP _ (uq h)
theorem E4 {α:Type}:∀{l:List (Str×α)} {x:Str} {v:α},(x,v)∈l→∃u,l.lookup x=some u
 | (y,u)::r,x,v,h=>by
   rw [Vi]
   cases e:x==y with
   | true=>exact ⟨_,rfl⟩
   | false=>
     rcases qU.mp h with q | q
     ·cases q;simp at e
     ·exact E4 q
theorem vh (h:(ie cells names []).lookup y=some c):cells.lookup y=some c:=
 (ER names [] (y,c) (uq h)).elim (λz=>by simp at z) id
theorem BS (h:(y,NameKind.free)∈names) (e:cells.lookup y=some c):(ie cells names []).lookup y=some c:=by
 obtain ⟨u,q⟩:=E4 (EO names [] y c (.inl ⟨h,e⟩))
 rw [q]
 rw [vh q] at e
 exact e
def IM (X:Cx) (scope:pY):List Str→List Nat→Prop
 | [],[]=>True
 | y::ys,j::js=>(X.N[j]?=some y∧X.env.kindOf y=some .cell∧scope.names.lookup y=some .free∧(relabel scope X.env).names.lookup y=some .cell)∧IM X scope ys js
 | _,_=>False
theorem EV (h:iC cells names=true) (m:(y,NameKind.free)∈names):∃c,cells.lookup y=some c:=by
 unfold iC at h
 have q:=ZM.mp h _ m
 exact OL.mp (by simpa using q)
theorem IM.ok (h:iC X.env.cells scope.names=true):∀{ys:List Str} {js:List Nat},IM X scope ys js→wg X scope (ie X.env.cells scope.names []) ys js
 | [],[],_=>trivial
 | y::ys,j::js,⟨⟨a,b,c,d⟩,r⟩=>by
   have m:=uq c
   obtain ⟨e,he⟩:=EV h m
   exact ⟨⟨a,b,d,by rw [BS m he,he]⟩,IM.ok h r⟩
theorem Aa (h:iC env.cells scope.names=true) (hcell:∀y∈scope.names,y.2≠.cell) (y:Str)
 (q:(relabel scope env).names.lookup y=some .cell∨(relabel scope env).names.lookup y=some .free):∃c,(ie env.cells scope.names []).lookup y=some c:=by
 have m:(y,NameKind.free)∈scope.names:=by
  rcases q with q | q
  all_goals
   have m:=uq q
   unfold relabel at m
   obtain ⟨⟨n,k⟩,hm,e⟩:=gD.mp m
   dsimp only at e
   split at e
   ·rename_i hc
    rw [Ai,Ai] at hc
    have hk:k=.free:=by simpa using hc.1.1
    subst hk
    cases e
    first | exact hm | done
   ·cases e
    first | exact hm | exact absurd rfl (hcell _ hm)
 obtain ⟨c,hc⟩:=EV h m
 exact ⟨c,BS m hc⟩
section
theorem TR (hc:X.calm=true) (hi:PI X tg iter wi)
 (hg:∀(C:av) (s0:bA) (H0:Hp) (ex':List av) (j7:List (av×Obj)),PG 0#o tg g)
 (Qg:∀(C:av) (s0:bA) (H0:Hp) (ex':List av) (j7:List (av×Obj)),Yh 0#o ifs tt)
 (helt:∀(C:av) (s0:bA) (H0:Hp) (ex':List av) (j7:List (av×Obj)),PE 0#o elt te)
 (hO:O.length=n) (hcap:IM X scope N' cap) (hf:iC X.env.cells scope.names=true) (hcell:∀y∈scope.names,y.2≠.cell) (hkind:scope.kind=.function) (hnames:∀y∈scope.names,y.2=.local→scope.names.lookup y.1=some .local)
 (hs:∀z,II iter X.env z=pure z:=by intro _;rfl) :
 PE X 0#r (Ac wi n cap g tt te):=
 Hj hc hi hg Qg helt hO (hcap.ok hf) (BU hf) hcell hkind hnames (λ_ _=>vh) (Aa hf hcell) hs
theorem TZ (hN:X.N.Nodup) (hix:X.N[i]?=some x) (hx:Loc X.env.scope x) (hc:X.calm=true) (hi:PI X tg iter wi)
 (hg:∀(C:av) (s0:bA) (H0:Hp) (ex':List av) (j7:List (av×Obj)),PG 0#o tg g)
 (Qg:∀(C:av) (s0:bA) (H0:Hp) (ex':List av) (j7:List (av×Obj)),Yh 0#o ifs tt)
 (helt:∀(C:av) (s0:bA) (H0:Hp) (ex':List av) (j7:List (av×Obj)),PE 0#o elt te)
 (hO:O.length=n) (hcap:IM X scope N' cap) (hf:iC X.env.cells scope.names=true) (hcell:∀y∈scope.names,y.2≠.cell) (hkind:scope.kind=.function) (hnames:∀y∈scope.names,y.2=.local→scope.names.lookup y.1=some .local)
 (hsw:lR 0#r (some (.Name x pos')) spos.line X.env=pure true)
 (hs:∀z,II iter X.env z=pure z:=by intro _;rfl) (hfn:X.fn x=true∨X.env.scope.names.lookup x=some .local:=by first | exact .inl rfl | exact .inr rfl | assumption) :
 PS X (.Assign [.Name x pos'] 0#r spos) (Ez (Ac wi n cap g tt te) (iU i)):=
 Hs hN hix hx hc hi hg Qg helt hO (hcap.ok hf) (BU hf) hcell hkind hnames (λ_ _=>vh) (Aa hf hcell) hsw hs hfn
end
def rm (D:av) (H:Hp):Hp:=λb=>if b=D then none else H b
theorem nC (h:b≠D):rm D H b=H b:=if_neg h
theorem gH:au (rm D H) H:=λb o e=>by
 unfold rm at e
 by_cases h:b=D
 ·rw [if_pos h] at e;cases e
 ·rw [if_neg h] at e;exact e
theorem rj (s:au H H'):au (rm D H) (rm D H'):=λb o e=>by
 unfold rm at e ⊢
 by_cases h:b=D
 ·rw [if_pos h] at e;cases e
 ·rw [if_neg h] at e ⊢;exact s b o e
theorem yU:rm D (upd H D o)=rm D H:=by
 funext b
 unfold rm
 by_cases h:b=D
 ·rw [if_pos h,if_pos h]
 ·rw [if_neg h,if_neg h,aM h]
theorem dY (hD:H D=some (.lst ys)) (h:H p=some 0#q):rm D H p=some 0#q:=by
 rw [nC (λe=>by rw [e,hD] at h;cases h)];exact h
theorem uS (D:av) (H:Hp) (o:HO):au (rm D H) (upd H D o):=λb u e=>by
 unfold rm at e
 by_cases h:b=D
 ·rw [if_pos h] at e;cases e
 ·rw [if_neg h] at e;rw [aM h];exact e
theorem qu (h:n=m+1):Rf n (-1)=some m:=by
 subst h
 unfold Rf
 rw [if_neg 0#c,if_pos 0#c]
 congr 1
 simp?
theorem SJ {n:Nat} (h0:0≤i) (h:i<(n:Int)):Rf n i=some i.toNat:=by
 unfold Rf
 rw [if_pos h0,if_pos h]
structure Tells (J:It) (ok:Hp→Prop) (xs:List V):Prop where
 go:∀i H,ok H→i<xs.length→J.go i H∧∀x H',J.Ro i H x H'→H'=H∧xs[i]?=some x
 stop:∀H,ok H→J.stop xs.length H
theorem bZ {K:b9}:Tells (Itl K a) (λH=>aX K H a xs) xs:=
 ⟨λi H h hi=>⟨⟨xs,xs[i],h,by simp [hi]⟩,λx H' y=>⟨y.1,y.2 xs h⟩⟩,λH h=>⟨xs,h,dG _⟩⟩
theorem QY {K:b9}:Tells (Itt K a) (λH=>qb K H a xs) xs:=
 ⟨λi H h hi=>⟨⟨xs,xs[i],h,by simp [hi]⟩,λx H' y=>⟨y.1,y.2 xs h⟩⟩,λH h=>⟨xs,h,dG _⟩⟩
theorem QX {lo:Int}:Tells (VV lo n) (λ_=>True) ((fM n).map λ(i:Nat)=>V.int (lo+(i:Int))):=
 ⟨λi H h hi=>⟨show i<n by simpa using hi,λx H' y=>⟨y.1,by
  have hi':i<n:=by simpa using hi
  rw [dw,IG hi']
  exact congrArg some y.2.symm⟩⟩,λH h=>by show n≤_;simp⟩
def NK (n:Nat) (cap:List Nat) (g:TG) (tt:TT) (te:TE) (σ:L2.St) (Q:VK) (J:It) (H1:Hp):Prop:=∀D,H1 D=none→∃W:Nat→Nat→List V→Hp→Prop,(∃m,W 0 m [] (upd H1 D (.lst []))) ∧
 ∀i m xs H2,W i m xs H2→H2 D=some (.lst xs)∧((J.stop i H2∧Q (.ref D) H2)∨(J.go i H2∧xs.length<sizeLine∧∀x H3 jV,jV.length=n→J.Ro i H2 x H3 →
  g x (jV++om cap σ) H3 λσ2 H4=>(∃σ1,σ1.length=n∧σ2=σ1++om cap σ)∧tt σ2 H4 λb H5=>if b=true then te σ2 H5 λy H6=>H6 D=some (.lst xs)∧∃m',m'<m∧W (i+1) m' (xs++[y]) (upd H6 D (.lst (xs++[y])))
    else ∃m',m'<m∧W (i+1) m' xs H5))
section
theorem abX (h:wi σ H λJ H1=>NK n cap g tt te σ Q J H1):Ac wi n cap g tt te σ H Q:=h
theorem qD (h:ta σ H λvs H1=>∃j:Int,vs=[.int j]∧-(2 ^ 62)≤j∧j<2 ^ 62∧R (VV 0 j.toNat) H1):SG ta σ H R:=h
theorem aec (h:B true H):acy σ H B:=h
theorem cF (T:Tells J ok xs) (hok:∀H2,au H H2→ok H2) (hl:xs.length≤1000000) (P:Nat→List V→Hp→Prop) (h0:P 0 [] H)
 (step:∀(D:av) (i:Nat) (x:V) (ys:List V) (H2:Hp) (jV:L2.St) (N:VK) (N0:Hp→Prop),jV.length=n→H D=none→H2 D=some (.lst ys)→au H H2→xs[i]?=some x→ys.length≤i→P i ys (rm D H2) →
   (∀y H6,au H2 H6→P (i+1) (ys++[y]) (rm D H6)→N y H6)→(∀H5,au H2 H5→P (i+1) ys (rm D H5)→N0 H5) →
   g x (jV++om cap σ) H2 λσ2 H4=>(∃σ1,σ1.length=n∧σ2=σ1++om cap σ)∧tt σ2 H4 λb H5=>if b=true then te σ2 H5 N else N0 H5)
 (done:∀(D:av) (ys:List V) (H2:Hp),H D=none→H2 D=some (.lst ys)→au H H2→ys.length≤xs.length→P xs.length ys (rm D H2)→Q (.ref D) H2):NK n cap g tt te σ Q J H:=by
 intro D hD
 refine ⟨λi m ys H2=>H2 D=some (.lst ys)∧au H H2∧ys.length≤i∧i≤xs.length∧m=xs.length-i∧P i ys (rm D H2),⟨xs.length,aB,aZ 0#x hD,mD _,mD _,rfl,?_⟩,?_⟩
 ·rw [yU]
  have e:rm D H=H:=by
   funext b
   by_cases h:b=D
   ·rw [h,hD];exact if_pos rfl
   ·exact nC h
  rw [e];exact h0
 ·rintro i m ys H2 ⟨e,s,hy,hi,rfl,p⟩
  refine ⟨e,?_⟩
  by_cases hlt:i<xs.length
  ·obtain ⟨go,Ro⟩:=T.go i H2 (hok H2 s) hlt
   refine .inr ⟨go,EC (dP (dP hy hi) hl) 0#i,λx H3 jV h0 y=>?_⟩
   obtain ⟨rfl,hx⟩:=Ro x H3 y
   refine step D i x ys _ jV _ _ h0 hD e s hx hy p (λy H6 s6 p6=>?_) λH5 s5 p5=>?_
   ·refine ⟨s6 _ _ e,xs.length-(i+1),by simp?,aB,aZ (s.trans s6) hD,?_,by simp?,rfl,?_⟩
    ·rw [fj,ID];simp?
    ·rw [yU];exact p6
   ·exact ⟨xs.length-(i+1),by simp?,s5 _ _ e,s.trans s5,by simp?,by simp?,rfl,p5⟩
  ·have ei:i=xs.length:=by simp?
   subst ei
   exact .inl ⟨T.stop H2 (hok H2 s),done D ys H2 hD e s hy p⟩
theorem fO {R:L2.St→Hp→Prop} (h0:jV.length=1) (h:R (some x::om cap σ) H):iU 0 x (jV++om cap σ) H λσ2 H4=>(∃σ1,σ1.length=1∧σ2=σ1++om cap σ)∧R σ2 H4:=by
 match jV,h0 with
 | [v],_=>exact ⟨⟨[some x],rfl,rfl⟩,h⟩
theorem CO {K:b9} {R:L2.St→Hp→Prop} (h0:jV.length=2) (hp:H p=some (.tup [x,y])) (h:R (some x::some y::om cap σ) H) :
 PR K 2 (qW (iU 0) (qW (iU 1) PN)) 1#a (jV++om cap σ) H λσ2 H4=>(∃σ1,σ1.length=2∧σ2=σ1++om cap σ)∧R σ2 H4:=by
 match jV,h0 with
 | [v,u],_=>exact ⟨p,_,rfl,qb.of hp,rfl,x,_,rfl,y,_,rfl,rfl,⟨[some x,some y],rfl,rfl⟩,h⟩
end
end My
namespace Jd
open PySem PySem.Spec PyProof.Rows L2 My
structure QTs (X:Cx) (ifs:List bg) (t:TT):Prop where
 h:Yh X ifs t
section
theorem Hz {X:Cx}:QTs X [] acy:=⟨My.Hz⟩
theorem HA (h:QT X c tt):QTs X [c] tt:=⟨My.HA h.h⟩
theorem Hj {X:Cx} {elt iter tg:bg} {ifs:List bg} {pos:Pos} {scope:pY} {wi:TI} {te:TE} {tt:TT} {g:TG} {O N':List Str} {cap:List Nat} {n:Nat} (hc:X.calm=true) (hi:QI X tg iter wi)
 (hg:∀(C:av) (s0:bA) (H0:Hp) (ex':List av) (j7:List (av×Obj)),QG 0#o tg g)
 (Qg:∀(C:av) (s0:bA) (H0:Hp) (ex':List av) (j7:List (av×Obj)),QTs 0#o ifs tt)
 (helt:∀(C:av) (s0:bA) (H0:Hp) (ex':List av) (j7:List (av×Obj)),QE 0#o elt te)
 (hO:O.length=n) (hcap:IM X scope N' cap) (hf:iC X.env.cells scope.names=true) (hcell:∀y∈scope.names,y.2≠.cell) (hkind:scope.kind=.function) (hnames:∀y∈scope.names,y.2=.local→scope.names.lookup y.1=some .local)
 (hs:∀z,II iter X.env z=pure z:=by intro _;rfl) :
 QE X 0#r (Ac wi n cap g tt te):=
 ⟨My.TR hc hi.h (λC s0 H0 ex' j7=>(hg C s0 H0 ex' j7).h) (λC s0 H0 ex' j7=>(Qg C s0 H0 ex' j7).h) (λC s0 H0 ex' j7=>(helt C s0 H0 ex' j7).h) hO hcap hf hcell hkind hnames hs⟩
theorem Hs (hN:X.N.Nodup) (hix:X.N[i]?=some x) (hx:Loc X.env.scope x) (hc:X.calm=true) (hi:QI X tg iter wi)
 (hg:∀(C:av) (s0:bA) (H0:Hp) (ex':List av) (j7:List (av×Obj)),QG 0#o tg g)
 (Qg:∀(C:av) (s0:bA) (H0:Hp) (ex':List av) (j7:List (av×Obj)),QTs 0#o ifs tt)
 (helt:∀(C:av) (s0:bA) (H0:Hp) (ex':List av) (j7:List (av×Obj)),QE 0#o elt te)
 (hO:O.length=n) (hcap:IM X scope N' cap) (hf:iC X.env.cells scope.names=true) (hcell:∀y∈scope.names,y.2≠.cell) (hkind:scope.kind=.function) (hnames:∀y∈scope.names,y.2=.local→scope.names.lookup y.1=some .local)
 (hsw:lR 0#r (some (.Name x pos')) spos.line X.env=pure true)
 (hs:∀z,II iter X.env z=pure z:=by intro _;rfl) (hfn:X.fn x=true∨X.env.scope.names.lookup x=some .local:=by first | exact .inl rfl | exact .inr rfl | assumption) :
 QS X (.Assign [.Name x pos'] 0#r spos) (Ez (Ac wi n cap g tt te) (iU i)):=
 ⟨My.TZ hN hix hx hc hi.h (λC s0 H0 ex' j7=>(hg C s0 H0 ex' j7).h) (λC s0 H0 ex' j7=>(Qg C s0 H0 ex' j7).h) (λC s0 H0 ex' j7=>(helt C s0 H0 ex' j7).h) hO hcap hf hcell hkind hnames hsw hs hfn⟩
end
end Jd
namespace My
open PySem PySem.Spec PyProof.Rows L2 Mth
def Ov (K:b9) (C fI:av):Bool:=match K.lookup C with
 | some ⟨.type "type",_,.cls cd,sl⟩=>(match cd.mro,sl.toList with
   | .ref C'::bm,[_,_,_,_,some (.builtin n),_]=>C'==C&&n == "ValueError.__new__"&&!cd.hasDel&&cd.hasDict&&PySem.W.tailIn K [.type "ValueError",.type "Exception",.type "BaseException",.type "object"] bm&&PySem.W.nsOkIn K cd.ns&&jc K cd.ns "__init__"==some (some (.ref fI))
   | _,_=>false)
 | _=>false
theorem pR:∀{us:List aL} {ns:List Int},DM us ns→Vals 0#L us
 | _,_,.nil=>.nil
 | _,_,.cons n t r=>.cons ⟨t,rfl⟩ (pR r)
def OC (K:b9):List V→Hp→VK→Prop:=λxs H Q=>∃(l:av) (ns:List Int),xs=[.ref l]∧aX K H l 0#L∧ns.length<64 ∧
 ∀(p:av) (ns':List Int),H p=none→ns'.Perm ns→ns'.Pairwise (·≤·)→Q 1#a (upd H p (.lst (ns'.map V.int)))
theorem XW (K:b9) (hK:X.K=K:=by rfl):je X (.builtin "sorted") (OC K):=by
 subst hK
 intro pins s σ H xs us Q I r h
 obtain ⟨l,ns,rfl,hq,h64,q⟩:=h
 obtain ⟨u,rfl,rx⟩:=vals1 r
 cases rx
 obtain ⟨its,rv,p,hz⟩:=I.list hq
 have hl:=rv.length
 rw [gV] at hl
 refine sorted_ints p.isList (intsAre_of rv) 0#c λout ns' a1 a2 a3=>?_
 obtain ⟨e,he⟩:=sortedAll_at s.heap its out
 have hn:H 0#N=none:=I.hok.fresh (tV _)
 refine ⟨.ref 0#N,_,I.laid (t':=s.toks) (o:=.lst (ns'.map V.int)) (λb o z=>sortedAll_old z) (tV _) ?_,rfl,q _ ns' hn a2 a3⟩
 refine ⟨?_,out.toList,e,pR a1,?_⟩
 ·rw [gV,a2.length_eq]
  exact uM (aO 0#c)
 ·rw [he]
theorem Ua {K:b9} (h:aX K H l 0#L) (h64:ns.length<64) (q:∀(p:av) (ns':List Int) (H':Hp),au H H'→H p=none→H' p=some (.lst (ns'.map V.int))→ns'.Perm ns→ns'.Pairwise (·≤·)→Q 1#a H'):OC K [.ref l] H Q:=
 ⟨l,ns,rfl,h,h64,λp ns' hp h1 h2=>q p ns' _ (aZ 0#x hp) hp aB h1 h2⟩
section
theorem XF (h:ta σ H λx H1=>tb σ H1 λy H2=>r x y H2 λz H3=>∃k,z=.bl k∧(if k=true then tc σ H3 λw' H4=>r' y w' H4 Q else Q (.bl false) H3)):Nz r r' ta tb tc σ H Q:=h
theorem nB (h:ta σ H λvs H1=>∃i j:Int,vs=[.int i,.int j]∧(-(2 ^ 62)≤i∧i<2 ^ 62∧-(2 ^ 62)≤j∧j<2 ^ 62)∧R (VV i (j-i).toNat) H1):SH ta σ H R:=h
end
end My
namespace Jd
open PySem PySem.Spec PyProof.Rows L2 My
theorem yR (hg:Gl X "range") (hm:X.mg "range"=none) (ha:QA X [a,b] t) (hs:bD [a,b] X.env=[(false,eval a X.env),(false,eval b X.env)]:=by rfl) (hs2:bD [b] X.env=[(false,eval b X.env)]:=by rfl) :
 QI X tg (.Call (.Name "range" p) [a,b] [] pos) (SH t):=⟨L2.yR hg hm ha.h hs hs2⟩
end Jd
namespace My
open PySem PySem.Spec PyProof.Rows L2 Mth
theorem se {σ:L2.St} {T:av} (ch:List av) (I:L2.Inv X pins σ H s) (k:∀b u,b∉ch→s.heap.get? b=some u→h'.get? b=some u)
 (hf:∀b∈ch,Ax X pins H b) (hT:s.heap.objs.size≤T) (new:gK X.prog X.w (upd H T o) h' T o):L2.Inv X pins σ (upd H T o) { s with heap:=h',toks:=t' }:=by
 have hn:H T=none:=I.hok.fresh hT
 have out:∀b u,H b=some u→b∉ch:=λb u e z=>by rw [(hf b z).1] at e;cases e
 have old:∀b u,H b=some u→upd H T o b=some u:=λb u e=>by rw [aM (bK e hn)];exact e
 refine I.step (g':=s.gens) (d':=s.drawn) (ch:=ch) (λb hb=>?_) (λb u _ _ hc e _=>k b u hc e) (λb u _ _ hc e _=>⟨u.slots,k b u hc e⟩) (λb u hc e z=>?_) (λb u hc e=>⟨u,k b u hc e⟩)
  (λb xs e=>old b _ e) (λb u v e=>old b _ e) (λb ps e=>⟨#[],by rw [old b _ e];simp⟩) (λm hm=>?_) (λb u e=>?_) I.bare
 ·obtain ⟨_,f1,_,f3,f4,f5⟩:=hf b hb
  exact ⟨f3,f1,f4,f5⟩
 ·have hb:b≠T:=lO (qT (gC e) hT)
  rw [aM hb]
  exact z
 ·obtain ⟨u,es,ep,hu,r⟩:=hm
  exact ⟨u,es,ep,k _ u (λz=>(hf _ z).2.1 rfl) hu,r⟩
 ·by_cases hb:b=T
  ·subst hb
   rw [aB] at e
   cases e
   exact new
  ·rw [aM hb] at e
   exact gK.stay (I.hok b u e) (λc v hc q=>k c v (hc.elim (λz=>z▸out b u e) λz=>out c _ z) q) (λc q=>old c _ q) λc xs q=>old c _ q
def Ite (K:b9) (a:av):It:=
 ⟨λi H=>∃xs x,aX K H a xs∧xs[i]?=some x,λi H v H'=>∃(p:av) (x:V),H p=none∧v=.ref p∧H'=upd H p (.tup [.int (i:Int),x])∧∀xs,aX K H a xs→xs[i]?=some x,λi H=>∃xs,aX K H a xs∧xs.length≤i⟩
theorem Q3 {K:b9} (a e it:av) (hei:e≠it) :
 Turn P w K (.Tuple elts kt tpos) (Ite K a) [e,it] e (λi h=>(∃old,IsEnum h e it (i:Int) old)∧h.IsListIter it a i) where
 mem:=by simp
 obj:=λi h st b hb=>by
  obtain ⟨⟨old,he⟩,o,eo,c,d⟩:=st
  rcases (show b=e∨b=it by simpa using hb) with rfl | rfl
  ·exact ⟨_,he,λv z=>by cases z⟩
  ·exact ⟨o,eo,λv z=>by rw [d] at z;cases z⟩
 keep:=λi h h' st k=>⟨let ⟨old,he⟩:=st.1;⟨old,k e 0#f _ he⟩,st.2.at λo q=>k it 0#f o q⟩
 item:=by
  intro X hP hw hK hc i pins s σ H E I hf st hg
  subst hP hw hK
  obtain ⟨⟨old,he⟩,hit⟩:=st
  obtain ⟨xs,x,hq,hx⟩:=hg
  obtain ⟨its,rv,p,hz⟩:=I.list hq
  obtain ⟨u,hu,ru⟩:=rv.get hx
  refine wpAny_pyNext_enum_item he hit p.isList (x:=u) (by simpa using hu) hei λh1 ho afG hT hsz hk=>?_
  refine ⟨_,rfl,wpAny_letOwnedTupleGo_enum (s:={ s with heap:=h1,toks:=s.toks+1 }) ho λh2 V2 hs2=>?_⟩
  have abm:DH e h1 h2:=hs2
  have ke:∀b o,b∉[e,it]→s.heap.get? b=some o→h2.get? b=some o:=λb o hb q=>by
   have hb1:b≠e:=λz=>hb (by simp [z])
   have hb2:b≠it:=λz=>hb (by simp [z])
   exact (abm.2 b hb1).trans (hk b o hb1 hb2 q)
  have elt:e<s.heap.objs.size:=gC he
  have hT2:h2.get? s.heap.objs.size=some { cls:=.type "tuple",data:=.seq #[.int i s.toks,u] }:=(abm.2 _ (Vx elt)).trans hT
  have hn:H s.heap.objs.size=none:=I.hok.fresh (dG _)
  have I2:L2.Inv X pins σ (upd H s.heap.objs.size (.tup [.int (i:Int),x])) { s with heap:=h2,toks:=s.toks+1 }:=by
   refine se [e,it] I ke hf (dG _) ?_
   exact ⟨by show 2≤sizeLine;decide,[.int (i:Int) s.toks,u],.cons ⟨_,rfl⟩ (.cons ru .nil),_,hT2,rfl,_,rfl⟩
  refine ⟨.ref s.heap.objs.size,upd H s.heap.objs.size (.tup [.int (i:Int),x]),I2,rfl,⟨s.heap.objs.size,x,hn,rfl,rfl,λys hy=>by rw [I.wL hy hq];exact hx⟩,⟨⟨u,?_⟩,afG.at λo q=>(abm.2 it (jA hei)).trans q⟩,λb hb=>?_⟩
  ·have:=V2
   simpa using this
  ·have hb1:=(hf b hb).1
   have ilt:it<s.heap.objs.size:=by
    obtain ⟨o,eo,_⟩:=hit
    exact gC eo
   have hb2:b≠s.heap.objs.size:=by
    rcases (show b=e∨b=it by simpa using hb) with rfl | rfl
    ·exact lO elt
    ·exact lO ilt
   rw [aM hb2]
   exact hb1
 done:=by
  intro X hP hw hK hc i pins s σ H E I hf st hg
  subst hP hw hK
  obtain ⟨⟨old,he⟩,hit⟩:=st
  obtain ⟨xs,hq,hx⟩:=hg
  obtain ⟨its,rv,p,hz⟩:=I.list hq
  have hl:=rv.length
  obtain ⟨f0,f1,f2,f3,f4,f5⟩:=hf it 0#f
  exact wpAny_pyNext_enum_end (I.ok.hd hc) he hit p.isList (by simp;simp?) λh' eb=>⟨rfl,I.turned (t':=s.toks) (λb o hb q=>eb b o hb q) f0 f1 f3 f4 f5⟩
 self:=λ_ _ _ _ _ st h=>let ⟨_,he⟩:=st.1;ZD he h
def SE (K:b9) (ta:TA):TI:=λσ H R=>ta σ H λvs H1=>∃a xs,vs=[.ref a]∧aX K H1 a xs∧R (Ite K a) H1
section
theorem Bs (K:b9) (hg:Gl X "enumerate") (hm:X.mg "enumerate"=none) (ha:PA X [a] ta) (hs:bD [a] X.env=[(false,eval a X.env)]:=by rfl) (hK:X.K=K:=by rfl) :
 PI X (.Tuple elts kt tpos) (.Call (.Name "enumerate" p) [a] [] pos) (SE K ta):=by
 subst hK
 intro pins s σ H R I h
 refine Call_ (vz I hg hm boot_enumerate (KA (gZ (ha pos pins s σ H _ I h) λus s1 ⟨vs,H1,I1,r1,q1⟩=>?_) hs rfl))
 obtain ⟨l,xs,e,hq,q⟩:=q1
 subst e
 cases r1 with
 | cons r rr=>
   cases rr
   cases r
   obtain ⟨its,rv,pl,hz⟩:=I1.list hq
   refine call_enumerate_list pl.isList λh' he hit hsz hk=>?_
   have I2:L2.Inv X pins σ H1 { s1 with heap:=h' }:=I1.kept (t':=s1.toks) hk
   refine ZD (s:={ s1 with heap:=h' }) he ?_
   refine ⟨s1.heap.objs.size+1,[s1.heap.objs.size+1,s1.heap.objs.size],_,_,H1,rfl,I2,Q3 l (s1.heap.objs.size+1) s1.heap.objs.size (Nat.succ_ne_self _),⟨⟨_,he⟩,hit⟩,λb hb=>?_,q⟩
   rcases (show b=s1.heap.objs.size+1∨b=s1.heap.objs.size by simpa using hb) with rfl | rfl
   ·exact I1.LA (tV _) (I1.hok.fresh (tV _))
   ·exact I1.LA (dG _) (I1.hok.fresh (dG _))
theorem T7 {K:b9} (h:ta σ H λvs H1=>∃a xs,vs=[.ref a]∧aX K H1 a xs∧R (Ite K a) H1):SE K ta σ H R:=h
theorem Sd {σ:L2.St} {H:Hp} {K:b9} {a:av} {g:TG} {tb:TS} {D:Ends} (Pv:Nat→L2.St→Hp→Prop) (h0:Pv 0 σ H) (hl:∀i σ H,i≤xs.length→Pv i σ H→aX K H a xs)
 (hs:∀(i:Nat) (x:V) (σ:L2.St) (H:Hp) (p:av) (H':Hp),xs[i]?=some x→Pv i σ H→au H H'→H p=none→H' p=some (.tup [.int (i:Int),x])→g 1#a σ H' λσ2 H2=>tb { D with nx:=Pv (i+1),ct:=Pv (i+1),bk:=D.nx } σ2 H2)
 (hd:∀σ H,Pv xs.length σ H→D.nx σ H) :
 ∃W:Nat→Nat→L2.St→Hp→Prop,(∃m,W 0 m σ H)∧∀i m σ H,W i m σ H →
  ((Ite K a).stop i H∧D.nx σ H)∨((Ite K a).go i H∧∃N:L2.St→Hp→Prop,(∀σ' H',N σ' H'→∃m',m'<m∧W (i+1) m' σ' H')∧∀x H',(Ite K a).Ro i H x H'→g x σ H' λσ2 H2=>tb { D with nx:=N,ct:=N,bk:=D.nx } σ2 H2):=by
 refine ⟨λi m σ H=>m=xs.length-i∧i≤xs.length∧Pv i σ H,⟨xs.length,rfl,mD _,h0⟩,?_⟩
 rintro i m σ H ⟨rfl,hi,p⟩
 have q:=hl i σ H hi p
 rcases VD i xs.length with hlt | hge
 ·refine .inr ⟨⟨xs,xs[i],q,mC hlt⟩,Pv (i+1),λσ' H' p'=>⟨xs.length-(i+1),by simp?,rfl,hlt,p'⟩,λx H' y=>?_⟩
  obtain ⟨pt,y',hn,rfl,rfl,hy⟩:=y
  exact hs i y' σ H pt _ (hy xs q) p (kP hn _) hn aB
 ·have ei:i=xs.length:=by simp?
  subst ei
  exact .inl ⟨⟨xs,q,dG _⟩,hd σ H p⟩
theorem abZ (h:D.ct σ H):UP D σ H:=h
theorem Yt (K:b9) (h:X.K=K:=by rfl):rK X (pZ .In) (rIn K false):=h▸QC
end
def YE (K:b9):List V→Hp→VK→Prop:=λxs H Q=>∃(l:av) (ns:List Int),xs=[.ref l]∧aX K H l 0#L∧0<ns.length∧∀M:Int,M∈ns→(∀a∈ns,M≤a)→Q (.int M) H
theorem af3 (K:b9) (hc:X.calm=true) (hK:X.K=K:=by rfl):je X (.builtin "min") (YE K):=by
 subst hK
 intro pins s σ H xs us Q I r h
 obtain ⟨l,ns,rfl,hq,hpos,q⟩:=h
 obtain ⟨u,rfl,rx⟩:=vals1 r
 cases rx
 obtain ⟨its,rv,p,hz⟩:=I.list hq
 have hi:=intsAre_of rv
 obtain ⟨ys,e⟩:=hi.allInts.items
 have hns:ns=ys.toList.map (·.1):=by
  have h2:=aag ys
  rw [← e] at h2
  exact hi.numsOf.symm.trans h2
 have E1:s.heap.IsList l (intItems ys):=by rw [← e];exact p.isList
 have hlen:ns.length=ys.size:=by rw [hns,gV,OX]
 refine min_intList (I.ok.hd hc) E1 0#c λv h' tk hv hk=>?_
 obtain ⟨t,rfl⟩:=intItems_at hv
 obtain ⟨h1,h2⟩:=argBest_lt (numAt ys) (ys.size-1)
 refine ⟨.int _,H,I.kept hk,⟨t,rfl⟩,q _ ?_ λa ha=>?_⟩
 ·rw [Pu,← hns]
  exact ZZ 0#c
 ·obtain ⟨j,hj,rfl⟩:=Z0 ha
  have:=h2 j 0#c
  rw [Pu ys j,← hns] at this
  exact this
theorem ab5 {K:b9} {ns:List Int} (h:aX K H l 0#L) (hp:0<ns.length) (q:∀M:Int,M∈ns→(∀a∈ns,M≤a)→Q (.int M) H):YE K [.ref l] H Q:=⟨l,ns,rfl,h,hp,q⟩
end My
namespace Jd
open PySem PySem.Spec PyProof.Rows L2 My
theorem sI:QS X (.Continue pos) UP:=⟨L2.sI⟩
theorem Bs (K:b9)  (hg:Gl X "enumerate") (hm:X.mg "enumerate"=none) (ha:QA X [a] ta) (hs:bD [a] X.env=[(false,eval a X.env)]:=by rfl) (hK:X.K=K:=by rfl) :
 QI X (.Tuple elts kt tpos) (.Call (.Name "enumerate" p) [a] [] pos) (SE K ta):=⟨My.Bs K hg hm ha.h hs hK⟩
end Jd
namespace My
open PySem PySem.Spec PyProof.Rows L2 Mth
def wm (K:b9) (C:av):List Str→Prop
 | []=>True
 | f::fs=>oU K C f∧wm K C fs
theorem wm.of {K:b9}:∀{fs:List Str},wm K C fs→f∈fs→oU K C f
 | g::fs,h,hm=>by
   rcases qU.mp hm with z | z
   ·rw [z];exact h.1
   ·exact wm.of h.2 z
structure Cl (K:b9) (mg:Str→Option aL) (x:Str) (C:av) (fs:List Str):Prop where
 cl:Lf K C
 at_:mg x=some (.ref C)
 no:wm K C fs
structure Dm (P:jv) (w:eV) (K:b9) (mg:Str→Option aL) (base:cN) (k:Nat) (C:av) (m:Str) (ps:List Str) (sp:Sp):Prop where
 ex:∃(f:av) (fd:jP),bf P w K mg base cY k f fd ps sp∧Meth K C m f∧Binds K fd ps []
structure Dk (P:jv) (w:eV) (K:b9) (mg:Str→Option aL) (base:cN) (k:Nat) (x:Str) (C:av) (ps:List Str) (sp:Sp):Prop where
 ex:∃(f:av) (fd:jP),bf P w K mg base cY k f fd ps sp∧Mk K C f∧Binds K fd ps []∧mg x=some (.ref C)
def adP (K:b9) (f:Str):V→Hp→VK→Prop:=λx H Q=>∃a C dx fs v,x=.ref a∧H a=some 0#Y∧Lf K C∧oU K C f∧fs.lookup f=some v∧Q v H
def YB (K:b9) (f:Str) (y:V) (N:Hp→Prop):V→Hp→Prop:=λx H=>∃a C dx fs,x=.ref a∧H a=some 0#Y∧Lf K C∧oU K C f∧fs.length<1000∧N (upd H a (.ins C dx (aC f y fs)))
def YD (C:av) (m:Str) (sp:Sp) (σ:L2.St) (t:TA):V→Hp→VK→Prop:=λx H1 Q=>∃a dx fs,x=.ref a∧H1 a=some 0#Y∧fs.lookup m=none∧t σ H1 λvs H2=>sp (x::(vs++[])) H2 Q E0
section
theorem adW {K:b9} (h:to σ H λx H1=>adP K f x H1 Q):aco K to f σ H Q:=h
theorem ab8 {K:b9} (h:tv σ H λy H1=>to σ H1 λx H2=>YB K f y (λH3=>D.nx σ H3) x H2):acg K to tv f D σ H:=h
theorem ab4 (h:to σ H λx H1=>YD C m sp σ t x H1 Q):Ks C m sp [] E0 to t σ H Q:=h
theorem ab2 (h:t σ H λvs H1=>∀x dx,H1 x=none→H1 dx=none→dx≠x→sp (.ref x::(vs++[])) (upd (upd H1 dx (.own x)) x (.ins C dx [])) (λv H2=>v=.bM∧Q (.ref x) H2) E0):UR C sp [] E0 t σ H Q:=h
theorem jU {K:b9} (k:Cl K mg x C fn) (ha:H a=some 0#Y) (hl:fs.lookup f=some v) (q:Q v H) (hf:f∈fn:=by decide):adP K f (.ref a) H Q:=⟨a,C,dx,fs,v,rfl,ha,k.cl,k.no.of hf,hl,q⟩
theorem z9 {K:b9} (k:Cl K mg x C fn) (ha:H a=some 0#Y) (hn:fs.length<1000) (q:N (upd H a (.ins C dx (aC f y fs)))) (hf:f∈fn:=by decide):YB K f y N (.ref a) H:=⟨a,C,dx,fs,rfl,ha,k.cl,k.no.of hf,hn,q⟩
theorem Rh (ha:H a=some 0#Y) (hm:fs.lookup m=none) (q:t σ H λvs H2=>sp (.ref a::(vs++[])) H2 Q E0):YD C m sp σ t (.ref a) H Q:=⟨a,dx,fs,rfl,ha,hm,q⟩
end
end My
namespace Jd
open PySem PySem.Spec PyProof.Rows L2 My
section
theorem MK {X:Cx} {f:Str} {pos:Pos} {e:bg} {to:TE} (K:b9) (he:QE X e to) (hb:vZ e f X.env (eval e X.env)=eval e X.env:=by rfl) (hK:X.K=K:=by rfl):QE X (.Attribute e f pos) (aco K to f):=⟨hK▸L2.MK he.h hb⟩
theorem MU {X:Cx} {f:Str} {pos:Pos} {o value:bg} {to tv:TE} (K:b9) {pos':Pos} (ha:QE X o to) (hv:QE X value tv) (hs:lR value (some (.Attribute o f pos')) pos.line X.env=pure false:=by rfl) (hK:X.K=K:=by rfl):QS X (.Assign [.Attribute o f pos'] value pos) (acg K to tv f):=⟨hK▸L2.MU ha.h hv.h hs⟩
theorem TU (D:Dk X.prog X.w X.K X.mg X.base k x C ps sp) (hr:iR (k+1) X.A) (hg:Gl X x) (ha:QA X (e::es) t) (hdb:0#B=false:=by decide)
 (he:bD (e::es) X.env=0#G::bD es X.env:=by rfl) (hpl:(iA pos (bD es X.env)).any (·.1)=false:=by rfl):QE X (.Call (.Name x p) (e::es) [] pos) (UR C sp [] E0 t):=by
 obtain ⟨fa,fd,ok,hk,hb,hm⟩:=D.ex
 exact ⟨Xw hk ok hr hg hm hb .nil Ow ha.h hdb he hpl⟩
theorem wW {X:Cx} {k:Nat} {m:Str} {ps:List Str} {sp:Sp} {pos apos:Pos} {o e:bg} {es:List bg} {to:TE} {t:TA} {C:av} (D:Dm X.prog X.w X.K X.mg X.base k C m ps sp) (c:Lf X.K C) (hr:iR k X.A) (ho:QE X o to) (ha:QA X (e::es) t) {pl:Sem Bool}
 (he:bD (e::es) X.env=0#G::bD es X.env:=by rfl) (hpl:(iA pos (bD es X.env)).any (·.1)=false:=by rfl)
 (ht:eval (.Call (.Attribute o m apos) (e::es) [] pos) X.env=(do
   let ov ← eval o X.env
   As apos.atName
   let (g,first) ← holding [ov] (getMethod ov m pl)
   callWith pos g first (iA pos (bD (e::es) X.env)) (tW pos (tU [] X.env))):=by rfl):QE X (.Call (.Attribute o m apos) (e::es) [] pos) (Ks C m sp [] E0 to t):=by
 obtain ⟨fa,fd,ok,hm,hb⟩:=D.ex
 exact ⟨Xx ho.h c hm ok hr hb .nil Ow ha.h he hpl ht⟩
theorem MJ {X:Cx} {k:Nat} {m:Str} {ps:List Str} {sp:Sp} {pos apos:Pos} {o:bg} {to:TE} {C:av} (D:Dm X.prog X.w X.K X.mg X.base k C m ps sp) (c:Lf X.K C) (hr:iR k X.A) (ho:QE X o to) {pl:Sem Bool}
 (ht:eval (.Call (.Attribute o m apos) [] [] pos) X.env=(do
   let ov ← eval o X.env
   As apos.atName
   let (g,first) ← holding [ov] (getMethod ov m pl)
   callWith pos g first (iA pos (bD [] X.env)) (tW pos (tU [] X.env))):=by rfl):QE X (.Call (.Attribute o m apos) [] [] pos) (Ks C m sp [] E0 to qP):=by
 obtain ⟨fa,fd,ok,hm,hb⟩:=D.ex
 exact ⟨TV ho.h c hm ok hr hb .nil Ow ht⟩
end
end Jd
namespace My
open PySem PySem.Spec PyProof.Rows L2 Mth
theorem acd (K:b9)  (ho:PE X o to) (h:X.K=K:=by rfl) (hbase:vZ o "reverse" X.env (eval o X.env)=eval o X.env:=by rfl) (hline:0#W=true:=by rfl) :
 PE X (.Call (.Attribute o "reverse" apos) [] [] cpos) (tUn (λx H Q=>X7 K "list" x H∧wX x [] H Q) to):=
 h▸TQ OO PySem.F.slot_list_reverse PySem.F.type_list_reverse Ml ho hbase hline
theorem ad6 (h:H p=some (.lst xs)) (q:Q .bM (upd H p (.lst xs.reverse))):wX 1#a [] H Q:=⟨p,xs,rfl,rfl,h,q⟩
theorem Jf (K:b9)  (ho:PE X o to) (he:PE X e te) (h:X.K=K:=by rfl)
 (hbase:vZ o "extend" X.env (eval o X.env)=eval o X.env:=by rfl)
 (hfew:((iA cpos (bD (e::[]) X.env)).all (λx=>!x.1)&&(tW cpos (tU [] X.env)).all (λx=>x.1.isSome)
   && decide ((e::([]:List bg)).length+([]:List oM).length+(if ([]:List oM).isEmpty then 0 else 1)<30))=true:=by rfl)
 (hline:0#W=true:=by rfl) (hs:bD (e::[]) X.env=0#G::bD [] X.env:=by rfl) (hplain:(iA cpos (bD [] X.env)).any (·.1)=false:=by rfl) :
 PE X (.Call (.Attribute o "extend" apos) [e] [] cpos) (YK K "list" Bu to (gE te qP)):=
 h▸TN OO PySem.F.slot_list_extend PySem.F.type_list_extend Qn ho (ku he vD hs) hbase hfew hline hs hplain
theorem Fj (h:H p=some (.lst xs)) (hb:H b=some (.lst zs)) (hl:xs.length+zs.length≤sizeLine) (q:Q .bM (upd H p (.lst (xs++zs)))):Bu 1#a [.ref b] H Q:=⟨p,b,xs,zs,rfl,rfl,h,hb,hl,q⟩
end My
namespace Jd
open PySem PySem.Spec PyProof.Rows L2 Mth
theorem acd (K:b9)  (ho:QE X o to) (h:X.K=K:=by rfl) (hbase:vZ o "reverse" X.env (eval o X.env)=eval o X.env:=by rfl) (hline:0#W=true:=by rfl) :
 QE X (.Call (.Attribute o "reverse" apos) [] [] cpos) (tUn (λx H Q=>X7 K "list" x H∧wX x [] H Q) to):=⟨My.acd K ho.h h hbase hline⟩
theorem Jf (K:b9)  (ho:QE X o to) (he:QE X e te) (h:X.K=K:=by rfl)
 (hbase:vZ o "extend" X.env (eval o X.env)=eval o X.env:=by rfl)
 (hfew:((iA cpos (bD (e::[]) X.env)).all (λx=>!x.1)&&(tW cpos (tU [] X.env)).all (λx=>x.1.isSome)
   && decide ((e::([]:List bg)).length+([]:List oM).length+(if ([]:List oM).isEmpty then 0 else 1)<30))=true:=by rfl)
 (hline:0#W=true:=by rfl) (hs:bD (e::[]) X.env=0#G::bD [] X.env:=by rfl) (hplain:(iA cpos (bD [] X.env)).any (·.1)=false:=by rfl) :
 QE X (.Call (.Attribute o "extend" apos) [e] [] cpos) (YK K "list" Bu to (gE te qP)):=⟨My.Jf K ho.h he.h h hbase hfew hline hs hplain⟩
end Jd
namespace L2
open PySem PySem.Spec PyProof.Rows
theorem oX {α:Type}:∀{us:List α},us.length=n+1→∃(a:α) (as:List α),us=a::as∧as.length=n
 | [],h=>nomatch h
 | a::as,h=>⟨a,as,rfl,Nat.succ.inj h⟩
theorem len0 {α:Type}:∀{us:List α},us.length=0→us=[]
 | [],_=>rfl
 | _::_,h=>nomatch h
theorem cR.RA {K:b9} {st:aT} (F:cR K x qual st f fd) (h:∀(kV doc pm:aL) (an:Option av) (cdv ct ua:aL),Aq 0#D ⟨[ua],[]⟩=pure [(pa,ua)]):Binds K fd [pa] []:=
 F.binds λkV doc pm an cdv ct us hl=>by
  obtain ⟨ua,us0,rfl,Sw⟩:=oX (n:=0) hl
  obtain rfl:=len0 Sw
  exact h kV doc pm an cdv ct ua
theorem cR.F7 {K:b9} {st:aT} (F:cR K x qual st f fd) (h:∀(kV doc pm:aL) (an:Option av) (cdv ct ua ub:aL),Aq 0#D ⟨[ua,ub],[]⟩=pure [(pa,ua),(pb,ub)]):Binds K fd [pa,pb] []:=
 F.binds λkV doc pm an cdv ct us hl=>by
  obtain ⟨ua,us1,rfl,hl1⟩:=oX (n:=1) hl
  obtain ⟨ub,us0,rfl,Sw⟩:=oX (n:=0) hl1
  obtain rfl:=len0 Sw
  exact h kV doc pm an cdv ct ua ub
theorem cR.RB {K:b9} {st:aT} (F:cR K x qual st f fd) (h:∀(kV doc pm:aL) (an:Option av) (cdv ct ua ub uc:aL),Aq 0#D ⟨[ua,ub,uc],[]⟩=pure [(pa,ua),(pb,ub),(pc,uc)]):Binds K fd [pa,pb,pc] []:=
 F.binds λkV doc pm an cdv ct us hl=>by
  obtain ⟨ua,us2,rfl,hl2⟩:=oX (n:=2) hl
  obtain ⟨ub,us1,rfl,hl1⟩:=oX (n:=1) hl2
  obtain ⟨uc,us0,rfl,Sw⟩:=oX (n:=0) hl1
  obtain rfl:=len0 Sw
  exact h kV doc pm an cdv ct ua ub uc
theorem cR.RD {K:b9} {st:aT} (F:cR K x qual st f fd) (h:∀(kV doc pm:aL) (an:Option av) (cdv ct ua ub uc ud:aL),Aq 0#D ⟨[ua,ub,uc,ud],[]⟩=pure [(pa,ua),(pb,ub),(pc,uc),(pd,ud)]):Binds K fd [pa,pb,pc,pd] []:=
 F.binds λkV doc pm an cdv ct us hl=>by
  obtain ⟨ua,us3,rfl,hl3⟩:=oX (n:=3) hl
  obtain ⟨ub,us2,rfl,hl2⟩:=oX (n:=2) hl3
  obtain ⟨uc,us1,rfl,hl1⟩:=oX (n:=1) hl2
  obtain ⟨ud,us0,rfl,Sw⟩:=oX (n:=0) hl1
  obtain rfl:=len0 Sw
  exact h kV doc pm an cdv ct ua ub uc ud
theorem cR.aaN {K:b9} {st:aT} (F:cR K x qual st f fd) (h:∀(kV doc pm:aL) (an:Option av) (cdv ct ua ub uc ud ue:aL),Aq 0#D ⟨[ua,ub,uc,ud,ue],[]⟩=pure [(pa,ua),(pb,ub),(pc,uc),(pd,ud),(pe,ue)]):Binds K fd [pa,pb,pc,pd,pe] []:=
 F.binds λkV doc pm an cdv ct us hl=>by
  obtain ⟨ua,us4,rfl,Yo⟩:=oX (n:=4) hl
  obtain ⟨ub,us3,rfl,hl3⟩:=oX (n:=3) Yo
  obtain ⟨uc,us2,rfl,hl2⟩:=oX (n:=2) hl3
  obtain ⟨ud,us1,rfl,hl1⟩:=oX (n:=1) hl2
  obtain ⟨ue,us0,rfl,Sw⟩:=oX (n:=0) hl1
  obtain rfl:=len0 Sw
  exact h kV doc pm an cdv ct ua ub uc ud ue
theorem cR.aaO {K:b9} {st:aT} (F:cR K x qual st f fd) (h:∀(kV doc pm:aL) (an:Option av) (cdv ct ua ub uc ud ue uf:aL),Aq 0#D ⟨[ua,ub,uc,ud,ue,uf],[]⟩=pure [(pa,ua),(pb,ub),(pc,uc),(pd,ud),(pe,ue),(pf,uf)]):Binds K fd [pa,pb,pc,pd,pe,pf] []:=
 F.binds λkV doc pm an cdv ct us hl=>by
  obtain ⟨ua,us5,rfl,hl5⟩:=oX (n:=5) hl
  obtain ⟨ub,us4,rfl,Yo⟩:=oX (n:=4) hl5
  obtain ⟨uc,us3,rfl,hl3⟩:=oX (n:=3) Yo
  obtain ⟨ud,us2,rfl,hl2⟩:=oX (n:=2) hl3
  obtain ⟨ue,us1,rfl,hl1⟩:=oX (n:=1) hl2
  obtain ⟨uf,us0,rfl,Sw⟩:=oX (n:=0) hl1
  obtain rfl:=len0 Sw
  exact h kV doc pm an cdv ct ua ub uc ud ue uf
end L2
namespace My
open PySem PySem.Spec PyProof.Rows L2
theorem gX (Pv:L2.St→Hp→Prop) (rest:∀σ' H',Pv σ' H'→u D σ' H') (h:∀N:L2.St→Hp→Prop,(∀σ' H',Pv σ' H'→N σ' H')→t { D with nx:=N } σ H):Du t u D σ H:=h (u D) rest
theorem Kn (Pv:L2.St→Hp→Prop) (rest:∀σ' H',Pv σ' H'→u D σ' H') (h:∀N:L2.St→Hp→Prop,(∀σ' H',Pv σ' H'→N σ' H')→Du a (Du b (Du c d)) { D with nx:=N } σ H):Du a (Du b (Du c (Du d u))) D σ H:=h (u D) rest
theorem E6 (h:N σ H):(Ends.mk N rt bk ct).nx σ H:=h
theorem cE {g:TG} {tb:TS} (h:∀(M B:L2.St→Hp→Prop) (R:VK),(∀σ H,Pv σ H→M σ H)→(∀σ H,bk σ H→B σ H)→(∀v H,rt v H→R v H)→g x σ H λσ2 H2=>tb (Ends.mk M R B M) σ2 H2):g x σ H λσ2 H2=>tb (Ends.mk Pv rt bk Pv) σ2 H2:=h Pv bk rt (λ_ _ z=>z) (λ_ _ z=>z) (λ_ _ z=>z)
end My
namespace My
open PySem PySem.Spec PyProof.Rows L2 Mth
def YC (K:b9):List V→Hp→VK→Prop:=λxs H Q=>∃(l:av) (ns:List Int),xs=[.ref l]∧aX K H l 0#L∧0<ns.length∧∀M:Int,M∈ns→(∀a∈ns,a≤M)→Q (.int M) H
theorem af2 (K:b9) (hc:X.calm=true) (hK:X.K=K:=by rfl):je X (.builtin "max") (YC K):=by
 subst hK
 intro pins s σ H xs us Q I r h
 obtain ⟨l,ns,rfl,hq,hpos,q⟩:=h
 obtain ⟨u,rfl,rx⟩:=vals1 r
 cases rx
 obtain ⟨its,rv,p,hz⟩:=I.list hq
 have hi:=intsAre_of rv
 obtain ⟨ys,e⟩:=hi.allInts.items
 have hns:ns=ys.toList.map (·.1):=by
  have h2:=aag ys
  rw [← e] at h2
  exact hi.numsOf.symm.trans h2
 have E1:s.heap.IsList l (intItems ys):=by rw [← e];exact p.isList
 have hlen:ns.length=ys.size:=by rw [hns,gV,OX]
 refine max_intList (I.ok.hd hc) E1 0#c λv h' tk hv hk=>?_
 obtain ⟨t,rfl⟩:=intItems_at hv
 obtain ⟨h1,h2⟩:=argBest_gt (numAt ys) (ys.size-1)
 refine ⟨.int _,H,I.kept hk,⟨t,rfl⟩,q _ ?_ λa ha=>?_⟩
 ·rw [Pu,← hns]
  exact ZZ 0#c
 ·obtain ⟨j,hj,rfl⟩:=Z0 ha
  have:=h2 j 0#c
  rw [Pu ys j,← hns] at this
  exact this
theorem ab3 {K:b9} {ns:List Int} (h:aX K H l 0#L) (hp:0<ns.length) (q:∀M:Int,M∈ns→(∀a∈ns,a≤M)→Q (.int M) H):YC K [.ref l] H Q:=⟨l,ns,rfl,h,hp,q⟩
def HC:V→List V→Hp→VK→Prop:=λx vs H Q=>∃(l:av) (ns:List Int) (k:Int),x=.ref l∧vs=[.int k]∧H l=some (.lst 0#L)∧ns.length≤1000∧k∈ns∧∀j:Nat,ns[j]?=some k→Q (.int (j:Int)) H
theorem JG:∀{ns:List Int},k∈ns→∃j:Nat,ns[j]?=some k∧∀i:Nat,i<j→ns[i]?≠some k
 | a::ns,h=>by
   by_cases e:a=k
   ·exact ⟨0,by rw [e];rfl,λi hi=>absurd hi (Be _)⟩
   ·rcases qU.mp h with z | z
    ·exact absurd z.symm e
    ·obtain ⟨j,h1,h2⟩:=JG z
     refine ⟨j+1,h1,λi hi=>?_⟩
     cases i with
     | zero=>exact λq=>e (yc q)
     | succ i=>exact h2 i (Nat.lt_of_succ_lt_succ hi)
theorem S4:MtM X "list.index" HC:=by
 intro pins s σ H x vs v us Q I rx rv h
 obtain ⟨l,ns,k,rfl,rfl,hH,agC,hk,q⟩:=h
 cases rx
 obtain ⟨u,rfl,ru⟩:=rv.one
 obtain ⟨t,rfl⟩:=ru
 obtain ⟨j,hj,hno⟩:=JG hk
 obtain ⟨z,its,n,r,hl,e⟩:=I.JR hH
 have hlen:its.length=ns.length:=by rw [← hl,gV]
 have hjn:j<ns.length:=(lS.mp hj).1
 have at_:∀(i:Nat) (a:Int),ns[i]?=some a→∃t',its[i]?=some (Value.int a t'):=λi a ha=>by
  obtain ⟨u,hu,ru⟩:=Vals.get r (i:=i) (x:=.int a) (by rw [dw,ha];rfl)
  obtain ⟨t',rfl⟩:=ru
  exact ⟨t',hu⟩
 have at2:∀(i:Nat) (hi:i<its.length),∃(a:Int) (t':Nat),ns[i]?=some a∧its[i]=Value.int a t':=λi hi=>by
  have ha:ns[i]?=some ns[i]:=mC 0#c
  obtain ⟨t',h'⟩:=at_ i _ ha
  rw [mC hi] at h'
  exact ⟨_,t',ha,yc h'⟩
 refine FQ F.slot_list_index ⟨_,e,rfl⟩ F.entry_list_index (F.args_list_index_2 _ _)
  (MeetsSeq.list_index l its.toArray n (.int k t) (isInt k) (λy hy=>?_) j (by rw [jQ];simp?) 0#c ?_ (λm hm hlt=>?_)) ⟨e,?_⟩
 ·obtain ⟨i,hi,rfl⟩:=List.mem_iff_getElem.mp (List.mem_toArray.mp hy)
  obtain ⟨a,t',_,h'⟩:=at2 i hi
  rw [h']
  exact ae2 a k t' t
 ·obtain ⟨a,t',ha,h'⟩:=at2 j 0#c
  rw [hj] at ha
  cases ha
  show isInt k its[j]=true
  rw [h']
  simp [isInt]
 ·obtain ⟨a,t',ha,h'⟩:=at2 m (by rw [jQ] at hm;exact hm)
  show isInt k (its[m]'(by rw [jQ] at hm;exact hm))=false
  rw [h']
  have:a≠k:=λq=>hno m hlt (by rw [ha,q])
  simp [isInt,this]
 ·exact ⟨.int (j:Int),H,I.tok _,⟨_,rfl⟩,q j hj⟩
theorem abo (K:b9)  (ho:PE X o to) (he:PE X e te) (h:X.K=K:=by rfl)
 (hbase:vZ o "index" X.env (eval o X.env)=eval o X.env:=by rfl)
 (hfew:((iA cpos (bD (e::[]) X.env)).all (λx=>!x.1)&&(tW cpos (tU [] X.env)).all (λx=>x.1.isSome)
   && decide ((e::([]:List bg)).length+([]:List oM).length+(if ([]:List oM).isEmpty then 0 else 1)<30))=true:=by rfl)
 (hline:0#W=true:=by rfl) (hs:bD (e::[]) X.env=0#G::bD [] X.env:=by rfl) (hplain:(iA cpos (bD [] X.env)).any (·.1)=false:=by rfl) :
 PE X (.Call (.Attribute o "index" apos) [e] [] cpos) (YK K "list" HC to (gE te qP)):=
 h▸TN OO PySem.F.slot_list_index PySem.F.type_list_index S4 ho (ku he vD hs) hbase hfew hline hs hplain
theorem adX {ns:List Int} (h:H p=some (.lst 0#L)) (hl:ns.length≤1000) (hk:k∈ns) (q:∀j:Nat,ns[j]?=some k→Q (.int (j:Int)) H):HC 1#a [.int k] H Q:=⟨p,ns,k,rfl,rfl,h,hl,hk,q⟩
end My
namespace Jd
open PySem PySem.Spec PyProof.Rows L2 Mth
theorem abo (K:b9)  (ho:QE X o to) (he:QE X e te) (h:X.K=K:=by rfl)
 (hbase:vZ o "index" X.env (eval o X.env)=eval o X.env:=by rfl)
 (hfew:((iA cpos (bD (e::[]) X.env)).all (λx=>!x.1)&&(tW cpos (tU [] X.env)).all (λx=>x.1.isSome)
   && decide ((e::([]:List bg)).length+([]:List oM).length+(if ([]:List oM).isEmpty then 0 else 1)<30))=true:=by rfl)
 (hline:0#W=true:=by rfl) (hs:bD (e::[]) X.env=0#G::bD [] X.env:=by rfl) (hplain:(iA cpos (bD [] X.env)).any (·.1)=false:=by rfl) :
 QE X (.Call (.Attribute o "index" apos) [e] [] cpos) (YK K "list" My.HC to (gE te qP)):=⟨My.abo K ho.h he.h h hbase hfew hline hs hplain⟩
end Jd
namespace My
open PySem PySem.Spec PyProof.Rows L2 Mth
theorem L6 {σ:L2.St} (ch:List av) (I:L2.Inv X pins σ H s) (k:∀b u,b∉ch→s.heap.get? b=some u→h'.get? b=some u)
 (hf:∀b∈ch,Ax X pins H b):L2.Inv X pins σ H { s with heap:=h',toks:=t' }:=by
 have out:∀b u,H b=some u→b∉ch:=λb u e z=>by rw [(hf b z).1] at e;cases e
 refine I.step (g':=s.gens) (d':=s.drawn) (ch:=ch) (λb hb=>?_) (λb u _ _ hc e _=>k b u hc e) (λb u _ _ hc e _=>⟨u.slots,k b u hc e⟩) (λb u hc e z=>z) (λb u hc e=>⟨u,k b u hc e⟩)
  (λb xs e=>e) (λb u v e=>e) (λb ps e=>⟨#[],by rw [e];simp⟩) (λm hm=>?_) (λb u e=>?_) I.bare
 ·obtain ⟨_,f1,_,f3,f4,f5⟩:=hf b hb
  exact ⟨f3,f1,f4,f5⟩
 ·obtain ⟨u,es,ep,hu,r⟩:=hm
  exact ⟨u,es,ep,k _ u (λz=>(hf _ z).2.1 rfl) hu,r⟩
 ·exact gK.stay (I.hok b u e) (λc v hc q=>k c v (hc.elim (λz=>z▸out b u e) λz=>out c _ z) q) (λc q=>q) λc xs q=>q
def Itz (K:b9) (a b:av):It:=
 ⟨λi H=>∃xs ys x y,aX K H a xs∧aX K H b ys∧xs[i]?=some x∧ys[i]?=some y,
  λi H v H'=>∃(p:av) (x y:V),H p=none∧v=.ref p∧H'=upd H p (.tup [x,y])∧(∀xs,aX K H a xs→xs[i]?=some x)∧∀ys,aX K H b ys→ys[i]?=some y,
  λi H=>∃xs ys,aX K H a xs∧aX K H b ys∧(xs.length≤i∨ys.length≤i)⟩
theorem UY {K:b9} (z TI TO i1 i2 a b:av) (D:ZipApart z TI TO i1 i2 a b) :
 Turn P w K (.Tuple elts kt tpos) (Itz K a b) [z,TI,TO,i1,i2] z (λi h=>IsZip h z TI TO .none∧IsPair h TI (.ref i1) (.ref i2)∧(∃u v,IsPair h TO u v)∧h.IsListIter i1 a i∧h.IsListIter i2 b i) where
 mem:=by simp
 obj:=λi h st c hc=>by
  obtain ⟨hz,hTI,⟨u,v,hTO⟩,⟨o1,e1,_,d1⟩,⟨o2,e2,_,d2⟩⟩:=st
  rcases (show c=z∨c=TI∨c=TO∨c=i1∨c=i2 by simpa using hc) with rfl | rfl | rfl | rfl | rfl
  ·exact ⟨_,hz,λv q=>by cases q⟩
  ·exact ⟨_,hTI,λv q=>by cases q⟩
  ·exact ⟨_,hTO,λv q=>by cases q⟩
  ·exact ⟨o1,e1,λv q=>by rw [d1] at q;cases q⟩
  ·exact ⟨o2,e2,λv q=>by rw [d2] at q;cases q⟩
 keep:=λi h h' st k=>by
  obtain ⟨hz,hTI,⟨u,v,hTO⟩,h1,h2⟩:=st
  exact ⟨k z 0#f _ hz,k TI 0#f _ hTI,⟨u,v,k TO 0#f _ hTO⟩,h1.at λo q=>k i1 0#f o q,h2.at λo q=>k i2 0#f o q⟩
 item:=by
  intro X hP hw hK hc i pins s σ H E I hf st hg
  subst hP hw hK
  obtain ⟨hz,hTI,⟨u0,v0,hTO⟩,h1,h2⟩:=st
  obtain ⟨xs,ys,x,y,hq,hq',hx,hy⟩:=hg
  obtain ⟨its,rv,p,_⟩:=I.list hq
  obtain ⟨its',rv',p',_⟩:=I.list hq'
  obtain ⟨u,hu,ru⟩:=rv.get hx
  obtain ⟨v,hv,ru'⟩:=rv'.get hy
  refine wpAny_pyNext_zip_item D hz hTI hTO h1 h2 p.isList p'.isList (x:=u) (y:=v) (by simpa using hu) (by simpa using hv) λh' a1 a2 a3 a4 a5 a6 hk=>?_
  refine ⟨_,rfl,wpAny_letOwnedTupleGo_zip (s:={ s with heap:=h' }) a1 λh3 hz3 hs3=>?_⟩
  have Qe:DH z h' h3:=hs3
  have ke:∀c o,c∉[z,TI,TO,i1,i2]→s.heap.get? c=some o→h3.get? c=some o:=λc o hc' q=>by
   have c1:c≠z:=λe=>hc' (by simp [e])
   exact (Qe.2 c c1).trans (hk c o c1 (λe=>hc' (by simp [e])) (λe=>hc' (by simp [e])) (λe=>hc' (by simp [e])) q)
  have zlt:z<s.heap.objs.size:=gC hz
  have afp:TO<s.heap.objs.size:=gC hTO
  have afo:TI<s.heap.objs.size:=gC hTI
  have afW:i1<s.heap.objs.size:=by obtain ⟨_,e,_⟩:=h1;exact gC e
  have afX:i2<s.heap.objs.size:=by obtain ⟨_,e,_⟩:=h2;exact gC e
  have hT3:h3.get? s.heap.objs.size=some { cls:=.type "tuple",data:=.seq #[u,v] }:=(Qe.2 _ (Vx zlt)).trans a5
  have hn:H s.heap.objs.size=none:=I.hok.fresh (dG _)
  have I2:L2.Inv X pins σ (upd H s.heap.objs.size (.tup [x,y])) { s with heap:=h3 }:=by
   refine se (t':=s.toks) [z,TI,TO,i1,i2] I ke hf (dG _) ?_
   exact ⟨by show 2≤sizeLine;decide,[u,v],.cons ru (.cons ru' .nil),_,hT3,rfl,_,rfl⟩
  refine ⟨.ref s.heap.objs.size,upd H s.heap.objs.size (.tup [x,y]),I2,rfl,⟨s.heap.objs.size,x,y,hn,rfl,rfl,λzs hz'=>by rw [I.wL hz' hq];exact hx,λzs hz'=>by rw [I.wL hz' hq'];exact hy⟩,⟨hz3,?_,⟨u,v,(Qe.2 TO D.TOz).trans a2⟩,a3.at λo q=>(Qe.2 i1 D.i1z).trans q,a4.at λo q=>(Qe.2 i2 D.i2z).trans q⟩,λc hc'=>?_⟩
  ·exact (Qe.2 TI D.TIz).trans (hk TI _ D.TIz D.TITO D.TIi1 D.TIi2 hTI)
  ·have hc1:=(hf c hc').1
   have hc2:c≠s.heap.objs.size:=by
    rcases (show c=z∨c=TI∨c=TO∨c=i1∨c=i2 by simpa using hc') with rfl | rfl | rfl | rfl | rfl
    ·exact lO zlt
    ·exact lO afo
    ·exact lO afp
    ·exact lO afW
    ·exact lO afX
   rw [aM hc2]
   exact hc1
 done:=by
  intro X hP hw hK hc i pins s σ H E I hf st hg
  subst hP hw hK
  obtain ⟨hz,hTI,⟨u0,v0,hTO⟩,h1,h2⟩:=st
  obtain ⟨xs,ys,hq,hq',hx⟩:=hg
  obtain ⟨its,rv,p,_⟩:=I.list hq
  obtain ⟨its',rv',p',_⟩:=I.list hq'
  have hl:=rv.length
  have hl':=rv'.length
  refine wpAny_pyNext_zip_end (I.ok.hd hc) D hz hTI hTO h1 h2 p.isList p'.isList ?_ λh' hk=>0#M
  ·rcases hx with q | q
   ·exact .inl (by simp;simp?)
   ·exact .inr (by simp;simp?)
  ·exact L6 (t':=s.toks) [z,TI,TO,i1,i2] I (λc o hc' q=>hk c o (λe=>hc' (by simp [e])) (λe=>hc' (by simp [e])) (λe=>hc' (by simp [e])) (λe=>hc' (by simp [e])) q) hf
 self:=λ_ _ _ _ _ st h=>ZN st.1 h
def abn (K:b9) (ta:TA):TI:=λσ H R=>ta σ H λvs H1=>∃a b xs ys,vs=[.ref a,.ref b]∧aX K H1 a xs∧aX K H1 b ys∧R (Itz K a b) H1
section
theorem CH (K:b9) (hg:Gl X "zip") (hm:X.mg "zip"=none) (ha:PA X [a,b] ta) (hs:bD [a,b] X.env=(false,eval a X.env)::bD [b] X.env:=by rfl) (hs2:bD [b] X.env=[(false,eval b X.env)]:=by rfl) (hK:X.K=K:=by rfl) :
 PI X (.Tuple elts kt tpos) (.Call (.Name "zip" p) [a,b] [] pos) (abn K ta):=by
 subst hK
 intro pins s σ H R I h
 refine Call_ (vz I hg hm boot_zip (KA (gZ (ha pos pins s σ H _ I h) λus s1 ⟨vs,H1,I1,r1,q1⟩=>?_) hs (by rw [hs2];rfl)))
 obtain ⟨l,l',xs,ys,e,hq,hq',q⟩:=q1
 subst e
 cases r1 with
 | cons r rr=>
   cases rr with
   | cons r' rr'=>
     cases rr'
     cases r
     cases r'
     obtain ⟨its,rv,pl,_⟩:=I1.list hq
     obtain ⟨its',rv',pl',_⟩:=I1.list hq'
     have a1:l<s1.heap.objs.size:=by obtain ⟨_,e,_⟩:=pl.isList;exact gC e
     have a2:l'<s1.heap.objs.size:=by obtain ⟨_,e,_⟩:=pl'.isList;exact gC e
     refine call_zip_2 pl.isList pl'.isList λh' hz hTI hTO hi1 hi2 hsz hk=>?_
     have I2:L2.Inv X pins σ H1 { s1 with heap:=h' }:=I1.kept (t':=s1.toks) hk
     refine ZN (s:={ s1 with heap:=h' }) hz ?_
     refine ⟨s1.heap.objs.size+4,[s1.heap.objs.size+4,s1.heap.objs.size+2,s1.heap.objs.size+3,s1.heap.objs.size,s1.heap.objs.size+1],_,_,H1,rfl,I2,UY _ _ _ _ _ l l' (zipApart_new a1 a2),⟨hz,hTI,⟨_,_,hTO⟩,hi1,hi2⟩,λc hc=>?_,q⟩
     have fp:∀k,Ax X pins H1 (s1.heap.objs.size+k):=λk=>I1.LA (FH _ _) (I1.hok.fresh (FH _ _))
     rcases (show c=s1.heap.objs.size+4∨c=s1.heap.objs.size+2∨c=s1.heap.objs.size+3∨c=s1.heap.objs.size∨c=s1.heap.objs.size+1 by simpa using hc) with rfl | rfl | rfl | rfl | rfl
     ·exact fp 4
     ·exact fp 2
     ·exact fp 3
     ·exact fp 0
     ·exact fp 1
theorem Ub {K:b9} (h:ta σ H λvs H1=>∃a b xs ys,vs=[.ref a,.ref b]∧aX K H1 a xs∧aX K H1 b ys∧R (Itz K a b) H1):abn K ta σ H R:=h
theorem yp {K:b9} (hn1:IQ≤xs.length) (hn2:IQ≤ys.length) (hn:xs.length≤IQ∨ys.length≤IQ) (hok:∀H2,au H H2→aX K H2 a xs∧aX K H2 b ys) (hl:IQ≤1000) (P:Nat→List V→Hp→Prop) (h0:P 0 [] H)
 (step:∀(D:av) (i:Nat) (x y:V) (us:List V) (H2 H3:Hp) (p:av) (jV:L2.St) (N:VK) (N0:Hp→Prop),jV.length=n→H D=none→H2 D=some (.lst us)→au H H2→au H2 H3→H3 p=some (.tup [x,y])→i<IQ→xs[i]?=some x→ys[i]?=some y→us.length≤i→P i us (rm D H2) →
   (∀v H6,au H3 H6→P (i+1) (us++[v]) (rm D H6)→N v H6)→(∀H5,au H3 H5→P (i+1) us (rm D H5)→N0 H5) →
   g 1#a (jV++om cap σ) H3 λσ2 H4=>(∃σ1,σ1.length=n∧σ2=σ1++om cap σ)∧tt σ2 H4 λb H5=>if b=true then te σ2 H5 N else N0 H5)
 (done:∀(D:av) (us:List V) (H2:Hp),H D=none→H2 D=some (.lst us)→au H H2→us.length≤IQ→P IQ us (rm D H2)→Q (.ref D) H2):NK n cap g tt te σ Q (Itz K a b) H:=by
 intro D hD
 refine ⟨λi m us H2=>H2 D=some (.lst us)∧au H H2∧us.length≤i∧i≤IQ∧m=IQ-i∧P i us (rm D H2),⟨IQ,aB,aZ 0#x hD,mD _,mD _,rfl,?_⟩,?_⟩
 ·rw [yU]
  have e:rm D H=H:=by
   funext b
   by_cases h:b=D
   ·rw [h,hD];exact if_pos rfl
   ·exact nC h
  rw [e];exact h0
 ·rintro i m us H2 ⟨e,s,hu,hi,rfl,p⟩
  refine ⟨e,?_⟩
  obtain ⟨q,q'⟩:=hok H2 s
  by_cases hlt:i<IQ
  ·refine .inr ⟨⟨xs,ys,xs[i],ys[i],q,q',mC _,mC _⟩,EC (dP hu hi) (aO hl),λv H3 jV h0 y=>?_⟩
   obtain ⟨pt,x',y',hnp,rfl,rfl,hx,hy⟩:=y
   have s3:=kP hnp (.tup [x',y'])
   refine step D i x' y' us H2 _ pt jV _ _ h0 hD e s s3 aB hlt (hx xs q) (hy ys q') hu p (λv H6 s6 p6=>?_) λH5 s5 p5=>?_
   ·refine ⟨(s3.trans s6) _ _ e,IQ-(i+1),by simp?,aB,aZ (s.trans (s3.trans s6)) hD,?_,by simp?,rfl,?_⟩
    ·rw [fj,ID];simp?
    ·rw [yU];exact p6
   ·exact ⟨IQ-(i+1),by simp?,(s3.trans s5) _ _ e,s.trans (s3.trans s5),by simp?,by simp?,rfl,p5⟩
  ·have ei:i=IQ:=by simp?
   subst ei
   exact .inl ⟨⟨xs,ys,q,q',hn⟩,done D us H2 hD e s hu p⟩
end
end My
namespace Jd
open PySem PySem.Spec PyProof.Rows L2 My
theorem CH (K:b9)  (hg:Gl X "zip") (hm:X.mg "zip"=none) (ha:QA X [a,b] ta) (hs:bD [a,b] X.env=(false,eval a X.env)::bD [b] X.env:=by rfl) (hs2:bD [b] X.env=[(false,eval b X.env)]:=by rfl) (hK:X.K=K:=by rfl) :
 QI X (.Tuple elts kt tpos) (.Call (.Name "zip" p) [a,b] [] pos) (abn K ta):=⟨My.CH K hg hm ha.h hs hs2 hK⟩
end Jd
namespace My
open PySem PySem.Spec PyProof.Rows L2 Mth
def Fx (K:b9) (x:Str) (st:aT):Prop:=∃(f:av) (fd:jP),jc K fT x=some (some (.ref f))∧cR K x x st f fd
def Fm (K:b9) (C:av) (m q:Str) (st:aT):Prop:=∃(f:av) (fd:jP),ko K (.ref C) m=some (some (.ref f))∧Am K (.ref f)=true∧cR K m q st f fd
def Fi (K:b9) (C:av) (q:Str) (st:aT):Prop:=∃(f:av) (fd:jP),ko K (.ref C) "__init__"=some (some (.ref f))∧Ov K C f=true∧Am K (.ref f)=true∧cR K "__init__" q st f fd
section
theorem ac2 {K:b9} {st:aT} {kV:aL} (a:jc K fT x=some (some (.ref f))) (l:K.lookup f=some ⟨oc,od,.func (rJ x x (fU st) (fD st) (ah st) .none kV doc pm an cdv ct),osl⟩) (c:xU K cdv x=true) (k:yd K (.ref f)=true):Fx K x st:=⟨f,_,a,LB l c k⟩
theorem acZ {K:b9} {q:Str} {st:aT} {f C:av} {oc:aL} {od an:Option av} {kV doc pm cdv ct:aL} (a:ko K (.ref C) "__init__"=some (some (.ref f))) (o:Ov K C f=true) (i:Am K (.ref f)=true) (l:K.lookup f=some ⟨oc,od,.func (rJ "__init__" q (fU st) (fD st) (ah st) .none kV doc pm an cdv ct),osl⟩) (c:xU K cdv q=true) (k:yd K (.ref f)=true):Fi K C q st:=⟨f,_,a,o,i,LB l c k⟩
theorem ac0 {K:b9} {m q:Str} {st:aT} {f C:av} {oc:aL} {od an:Option av} {kV doc pm cdv ct:aL} (a:ko K (.ref C) m=some (some (.ref f))) (i:Am K (.ref f)=true) (l:K.lookup f=some ⟨oc,od,.func (rJ m q (fU st) (fD st) (ah st) .none kV doc pm an cdv ct),osl⟩) (c:xU K cdv q=true) (k:yd K (.ref f)=true):Fm K C m q st:=⟨f,_,a,i,LB l c k⟩
end
section
variable (P:jv) (w:eV) (base:cN) {K:b9} {mg:Str→Option aL} {h:cN} {k:Nat} {x m q:Str} {ps:List Str} {sp:Sp} {st:aT} {f C:av} {fd:jP}
theorem dnm (X:K.In h) (G:h.Ns fT mg) (a:jc K fT x=some (some (.ref f))) (F:cR K x x st f fd) (ok:bf P w K mg base cY k f fd ps sp) (b:Binds K fd ps []):Dn P w K mg base k x ps sp:=acS F ok (K2 X G a) b
theorem dmm (a:ko K (.ref C) m=some (some (.ref f))) (i:Am K (.ref f)=true) (F:cR K m q st f fd) (ok:bf P w K mg base cY k f fd ps sp) (b:Binds K fd ps []):Dm P w K mg base k C m ps sp:=⟨f,fd,ok,⟨a,i,F.kp⟩,b⟩
end
structure Tp (P:jv) (w:eV) (K:b9) (mg:Str→Option aL) (base:cN):Prop where
 ex:∃h:cN,K.In h∧h.Ns fT mg
theorem Tp.d {K:b9} {st:aT} (Y:Tp P w K mg base) (h:Fx K x st) (ok:∀{f fd},cR K x x st f fd→bf P w K mg base cY k f fd ps sp) (b:∀{f fd},cR K x x st f fd→Binds K fd ps []:=by intro _ _ F;first | exact F.F7 λ_ _ _ _ _ _ _ _=>rfl | exact F.RA λ_ _ _ _ _ _ _=>rfl | exact F.RB λ_ _ _ _ _ _ _ _ _=>rfl | exact F.RD λ_ _ _ _ _ _ _ _ _ _=>rfl | exact F.aaN λ_ _ _ _ _ _ _ _ _ _ _=>rfl):Dn P w K mg base k x ps sp:=
 have ⟨_,X,G⟩:=Y.ex
 have ⟨_,_,a,F⟩:=h
 dnm P w base X G a F (ok F) (b F)
theorem Tp.m {P:jv} {w:eV} {K:b9} {mg:Str→Option aL} {base:cN} {m q:Str} {C:av} {st:aT} {k:Nat} {ps:List Str} {sp:Sp} (_:Tp P w K mg base) (h:Fm K C m q st) (ok:∀{f fd},cR K m q st f fd→bf P w K mg base cY k f fd ps sp) (b:∀{f fd},cR K m q st f fd→Binds K fd ps []:=by intro _ _ F;first | exact F.F7 λ_ _ _ _ _ _ _ _=>rfl | exact F.RA λ_ _ _ _ _ _ _=>rfl | exact F.RB λ_ _ _ _ _ _ _ _ _=>rfl | exact F.RD λ_ _ _ _ _ _ _ _ _ _=>rfl):Dm P w K mg base k C m ps sp:=
 have ⟨_,_,a,i,F⟩:=h
 dmm P w base a i F (ok F) (b F)
section
theorem ags (h:te σ H λx H1=>tl σ H1 λl H2=>th σ H2 λu H3=>r x l u H3 Q):tSl r te tl th σ H Q:=h
theorem ab6 (h:t σ H λx H1=>∃i,x=.int i∧R (some i) H1):UW t σ H R:=h
theorem T9 (h:R none H):Iu σ H R:=h
theorem agr {R:Int→Prop} (h:R i):∃j,V.int i=V.int j∧R j:=⟨i,rfl,h⟩
theorem aaR {m:Nat} (h1:n≤m) (h2:m≤xs.length):jT xs (some (n:Int)) (some (m:Int))=(xs.drop n).take (m-n):=by
 unfold jT
 rw [HT.Bw,HT.Bw,Ak h2,Ak (dP h1 h2)]
theorem RQ (xs:List V) (n:Nat):jT xs (some (n:Int)) none=xs.drop n:=by
 unfold jT
 rw [HT.Bw,show HT.HE xs.length xs.length none=xs.length from rfl]
 rcases aaq n xs.length with z | z
 ·rw [Ak z]
  exact OS (by rw [iX];exact dG _)
 ·rw [ZO z,OT z,OT (dG _)]
  simp
theorem uR {K:b9} {lo:Option Int} (h:H a=some (.lst xs)) (k:∀(p:av) (H':Hp),au H H'→H p=none→H' p=some (.lst (jT xs lo hi))→Q 1#a H'):abS K (.ref a) lo hi H Q:=
 ⟨a,xs,rfl,aX.of h,λp hp=>k p _ (kP hp _) hp aB⟩
end
mutual
theorem Den.up (s:au H H'):∀{v:V} {d:tX},Den H v d→Den H' v d
 | _,_,.bM=>.bM
 | _,_,.bl b=>.bl b
 | _,_,.int i=>.int i
 | _,_,.str x=>.str x
 | _,_,.tup e dd=>.tup (s _ _ e) (rS.up s dd)
 | _,_,.lst e dd=>.lst (s _ _ e) (rS.up s dd)
theorem rS.up (s:au H H'):∀{vs:List V} {ds:List tX},rS H vs ds→rS H' vs ds
 | _,_,.nil=>.nil
 | _,_,.cons d dd=>.cons (Den.up s d) (rS.up s dd)
end
end My
namespace My
open PySem PySem.Spec PySem.Calls PyProof.Rows L2 Mth
structure acI (K:b9) (x qual:Str) (st:aT) (f:av) (fd:jP) (d:aL):Prop where
 ex:∃(T:av) (oc:aL) (od:Option av) (kV doc pm:aL) (an:Option av) (cdv ct:aL) (osl:Array (Option aL)) (tc:aL) (td:Option av) (tn:Nat) (tsl:Array (Option aL)),
  fd=rJ x qual (fU st) (fD st) (ah st) (.ref T) kV doc pm an cdv ct∧K.lookup f=some ⟨oc,od,.func fd,osl⟩∧xU K cdv qual=true∧K.lookup T=some ⟨tc,td,.seq #[d] tn,tsl⟩
 kp:yd K (.ref f)=true
def Fxd (K:b9) (x:Str) (st:aT) (i:Int):Prop:=∃(f:av) (fd:jP) (tk:Tok),jc K fT x=some (some (.ref f))∧acI K x x st f fd (.int i tk)
theorem aa8 {K:b9} {x:Str} {st:aT} {i:Int} {f T:av} {oc tc:aL} {od an td:Option av} {osl:Array (Option aL)} {kV doc pm cdv ct:aL} {tk:Tok} {tn:Nat} (a:jc K fT x=some (some (.ref f)))
 (l:K.lookup f=some ⟨oc,od,.func (rJ x x (fU st) (fD st) (ah st) (.ref T) kV doc pm an cdv ct),osl⟩) (t:K.lookup T=some ⟨tc,td,.seq #[.int i tk] tn,tsl⟩) (c:xU K cdv x=true) (k:yd K (.ref f)=true):Fxd K x st i:=
 ⟨f,_,tk,a,⟨T,oc,od,kV,doc,pm,an,cdv,ct,osl,tc,td,tn,tsl,rfl,l,c,t⟩,k⟩
def Gt (K:b9) (x:Str) (a:av) (z1 z2 z3 z4:Str):Prop:=jc K fT x=some (some (.ref a))∧∀H,qb K H a [.str z1,.str z2,.str z3,.str z4]
theorem ac4 {K:b9} (h:jc K fT x=some (some (.ref a)))
 (l:K.lookup a=some ⟨.type "tuple",td,.seq #[.str z1 t1,.str z2 t2,.str z3 t3,.str z4 t4] n,sl⟩):Gt K x a z1 z2 z3 z4:=
 ⟨h,λ_=>.inr ⟨_,_,_,l,rfl,rfl,by show 4≤sizeLine;decide,.cons ⟨t1,rfl⟩ (.cons ⟨t2,rfl⟩ (.cons ⟨t3,rfl⟩ (.cons ⟨t4,rfl⟩ .nil)))⟩⟩
def Fxb (K:b9) (x:Str) (st:aT) (b:Bool):Prop:=∃(f:av) (fd:jP),jc K fT x=some (some (.ref f))∧acI K x x st f fd (.bool b)
theorem aa7 {K:b9} {x:Str} {st:aT} {b:Bool} {f T:av} {oc tc:aL} {od an td:Option av} {osl:Array (Option aL)} {kV doc pm cdv ct:aL} {tn:Nat} (a:jc K fT x=some (some (.ref f)))
 (l:K.lookup f=some ⟨oc,od,.func (rJ x x (fU st) (fD st) (ah st) (.ref T) kV doc pm an cdv ct),osl⟩) (t:K.lookup T=some ⟨tc,td,.seq #[.bool b] tn,tsl⟩) (c:xU K cdv x=true) (k:yd K (.ref f)=true):Fxb K x st b:=
 ⟨f,_,a,⟨T,oc,od,kV,doc,pm,an,cdv,ct,osl,tc,td,tn,tsl,rfl,l,c,t⟩,k⟩
end My
namespace Jd
open PySem PySem.Spec PyProof.Rows L2 Mth My
def Bp:bg→Bool
 | .Starred ..=>false
 | _=>true
theorem nV (h:Bp e=true):bD (e::es) env=(false,eval e env)::bD es env:=by
 cases e <;> first | rfl | cases h
section
theorem a1 {X:Cx} {a:bg} {ta:TE} (h1:QE X a ta) (n1:Bp a=true:=by rfl):QA X [a] (gE ta qP):=ku h1 vD (nV n1)
theorem a2 {X:Cx} {a b:bg} {ta tb:TE} (h1:QE X a ta) (h2:QE X b tb) (n1:Bp a=true:=by rfl) (n2:Bp b=true:=by rfl):QA X [a,b] (gE ta (gE tb qP)):=ku h1 (a1 h2 n2) (nV n1)
theorem a3 (h1:QE X a ta) (h2:QE X b tb) (h3:QE X c tc) (n1:Bp a=true:=by rfl) (n2:Bp b=true:=by rfl) (n3:Bp c=true:=by rfl):QA X [a,b,c] (gE ta (gE tb (gE tc qP))):=ku h1 (a2 h2 h3 n2 n3) (nV n1)
theorem a4 (h1:QE X a ta) (h2:QE X b tb) (h3:QE X c tc) (h4:QE X d td) (n1:Bp a=true:=by rfl) (n2:Bp b=true:=by rfl) (n3:Bp c=true:=by rfl) (n4:Bp d=true:=by rfl):QA X [a,b,c,d] (gE ta (gE tb (gE tc (gE td qP)))):=ku h1 (a3 h2 h3 h4 n2 n3 n4) (nV n1)
theorem c1 (D:Dn X.prog X.w X.K X.mg X.base k x ps sp) (hr:iR m X.A) (h1:QE X a ta) (hk:k≤m:=by decide) (hg:Gl X x:=by rfl) (hd:0#B=false:=by decide) (n1:Bp a=true:=by rfl):QE X (.Call (.Name x p) [a] [] pos) (Dt sp [] E0 (gE ta qP)):=Fc D (hr.mono hk) hg (a1 h1 n1) hd (nV n1) cg
theorem c2 {X:Cx} {a b:bg} {ta tb:TE} {pos p:Pos} {x:Str} {k m:Nat} {ps:List Str} {sp:Sp} (D:Dn X.prog X.w X.K X.mg X.base k x ps sp) (hr:iR m X.A) (h1:QE X a ta) (h2:QE X b tb) (hk:k≤m:=by decide) (hg:Gl X x:=by rfl) (hd:0#B=false:=by decide) (n1:Bp a=true:=by rfl) (n2:Bp b=true:=by rfl):QE X (.Call (.Name x p) [a,b] [] pos) (Dt sp [] E0 (gE ta (gE tb qP))):=Fc D (hr.mono hk) hg (a2 h1 h2 n1 n2) hd (nV n1) (cu (nV n2) cg)
theorem c3 (D:Dn X.prog X.w X.K X.mg X.base k x ps sp) (hr:iR m X.A) (h1:QE X a ta) (h2:QE X b tb) (h3:QE X c tc) (hk:k≤m:=by decide) (hg:Gl X x:=by rfl) (hd:0#B=false:=by decide) (n1:Bp a=true:=by rfl) (n2:Bp b=true:=by rfl) (n3:Bp c=true:=by rfl):QE X (.Call (.Name x p) [a,b,c] [] pos) (Dt sp [] E0 (gE ta (gE tb (gE tc qP)))):=Fc D (hr.mono hk) hg (a3 h1 h2 h3 n1 n2 n3) hd (nV n1) (cu (nV n2) (cu (nV n3) cg))
theorem afZ {X:Cx} {a:bg} {ta:TE} {pos p:Pos} (K:b9) (hm:X.mg "len"=none) (h1:QE X a ta) (h:X.K=K:=by rfl) (hg:Gl X "len":=by rfl) (n1:Bp a=true:=by rfl):QE X (.Call (.Name "len" p) [a] [] pos) (tCB (abR K) (gE ta qP)):=by
 subst h
 exact wV (adA X.K) hg hm Z1 (a1 h1 n1) (he:=nV n1) (hpl:=cg)
theorem iT {X:Cx} {a:bg} {ta:TE} {pos:Pos} (K:b9) (h1:QE X a ta) {n:Int} {j:Nat} {q:Pos} (h:X.K=K:=by rfl):QE X (.Subscript a (.Constant (.int n) j q) pos) (UU (M1 K) ta (tC (.int n))):=by
 subst h
 exact Kd (D9 X.K) h1 CC λ_ _=>rfl
theorem iL {X:Cx} {a:bg} {ta:TE} {pos:Pos} (K:b9) (h1:QE X a ta) {n:Int} {j:Nat} {q:Pos} (h:X.K=K:=by rfl):QE X (.Subscript a (.Constant (.int n) j q) pos) (UU (XE K) ta (tC (.int n))):=by
 subst h
 exact Kd (fF X.K) h1 CC λ_ _=>rfl
theorem sE {X:Cx} {e:bg} {te:TE} {pos:Pos} {x:Str} (i:Nat) {pos':Pos} (hN:X.N.Nodup) (he:QE X e te) (hi:X.N[i]?=some x:=by rfl) (hx:Loc X.env.scope x:=by exact Or.inl rfl) (hs:lR e (some (.Name x pos')) pos.line X.env=pure false:=by rfl) (hf:X.fn x=true∨X.env.scope.names.lookup x=some .local:=by first | exact .inl rfl | exact .inr rfl | assumption):QS X (.Assign [.Name x pos'] e pos) (Ez te (iU i)):=Hv hN hi hx he hs hf
end
end Jd
abbrev aa:=@Jd.pv
abbrev aq:=@Jd.CM
abbrev aA:=@Jd.CC
abbrev aH:=@Jd.Hx
abbrev aI:=@Jd.TX
abbrev aJ:=@Jd.iT
abbrev aK:=@Jd.sE
abbrev aV:=@Jd.MW
abbrev bq:=@Jd.a2
abbrev bB:=@Jd.Kd
abbrev bC:=@Jd.Hy
abbrev bG:=@Jd.go
abbrev bJ:=@Jd.MP
abbrev bW:=@Jd.T3
abbrev bX:=@Jd.Hl
abbrev bY:=@Jd.c2
abbrev cj:=@Jd.Hw
abbrev cG:=@Jd.ku
abbrev dD:=@Jd.a1
abbrev dI:=@Jd.ML
abbrev dN:=@Jd.MN
abbrev dX:=@Jd.vD
abbrev eO:=@Jd.Ht
abbrev eY:=@Jd.afZ
abbrev fh:=@Jd.MK
abbrev gM:=@Jd.aaL
abbrev c7:=@Jd.MV
abbrev dB:=@Jd.piL
abbrev dQ:=@Jd.wV
abbrev fR:=@Jd.TY
abbrev fS:=@Jd.CG
abbrev fY:=@Jd.Fc
abbrev ir:=@Jd.MX
abbrev iG:=@Jd.MU
abbrev jj:=@Jd.afn
abbrev jX:=@Jd.MO
abbrev kK:=@Jd.TM
abbrev kL:=@Jd.Hz
abbrev mY:=@Jd.Hi
abbrev mZ:=@Jd.Hv
abbrev oz:=@Jd.Hj
abbrev pH:=@Jd.Ho
abbrev qX:=@Jd.CF
abbrev qY:=@Jd.Hq
abbrev qZ:=@Jd.Hr
abbrev rf:=@Jd.Hs
abbrev rg:=@Jd.MZ
abbrev sq:=@Jd.yR
abbrev sr:=@Jd.HB
abbrev su:=@Jd.CB
abbrev uQ:=@Jd.yQ
abbrev wH:=@Jd.HA
namespace My
open PySem PySem.Spec PyProof.Rows L2 Mth
section
theorem Lu {K:b9} (hok:∀H2,au H H2→aX K H2 a xs) (hl:xs.length≤1000) (P:Nat→List V→Hp→Prop) (h0:P 0 [] H)
 (step:∀(D:av) (i:Nat) (x:V) (us:List V) (H2 H3:Hp) (p:av) (jV:L2.St) (N:VK) (N0:Hp→Prop),jV.length=n→H D=none→H2 D=some (.lst us)→au H H2→au H2 H3→H3 p=some (.tup [.int (i:Int),x])→xs[i]?=some x→us.length≤i→P i us (rm D H2) →
   (∀v H6,au H3 H6→P (i+1) (us++[v]) (rm D H6)→N v H6)→(∀H5,au H3 H5→P (i+1) us (rm D H5)→N0 H5) →
   g 1#a (jV++om cap σ) H3 λσ2 H4=>(∃σ1,σ1.length=n∧σ2=σ1++om cap σ)∧tt σ2 H4 λb H5=>if b=true then te σ2 H5 N else N0 H5)
 (done:∀(D:av) (us:List V) (H2:Hp),H D=none→H2 D=some (.lst us)→au H H2→us.length≤xs.length→P xs.length us (rm D H2)→Q (.ref D) H2):NK n cap g tt te σ Q (Ite K a) H:=by
 intro D hD
 refine ⟨λi m us H2=>H2 D=some (.lst us)∧au H H2∧us.length≤i∧i≤xs.length∧m=xs.length-i∧P i us (rm D H2),⟨xs.length,aB,aZ 0#x hD,mD _,mD _,rfl,?_⟩,?_⟩
 ·rw [yU]
  have e:rm D H=H:=by
   funext b
   by_cases h:b=D
   ·rw [h,hD];exact if_pos rfl
   ·exact nC h
  rw [e];exact h0
 ·rintro i m us H2 ⟨e,s,hu,hi,rfl,p⟩
  refine ⟨e,?_⟩
  have q:=hok H2 s
  by_cases hlt:i<xs.length
  ·refine .inr ⟨⟨xs,xs[i],q,mC _⟩,EC (dP hu hi) (aO hl),λv H3 jV h0 y=>?_⟩
   obtain ⟨pt,x',hnp,rfl,rfl,hx⟩:=y
   have s3:=kP hnp (.tup [.int (i:Int),x'])
   refine step D i x' us H2 _ pt jV _ _ h0 hD e s s3 aB (hx xs q) hu p (λv H6 s6 p6=>?_) λH5 s5 p5=>?_
   ·refine ⟨(s3.trans s6) _ _ e,xs.length-(i+1),by simp?,aB,aZ (s.trans (s3.trans s6)) hD,?_,by simp?,rfl,?_⟩
    ·rw [fj,ID];simp?
    ·rw [yU];exact p6
   ·exact ⟨xs.length-(i+1),by simp?,(s3.trans s5) _ _ e,s.trans (s3.trans s5),by simp?,by simp?,rfl,p5⟩
  ·have ei:i=xs.length:=by simp?
   subst ei
   exact .inl ⟨⟨xs,q,dG _⟩,done D us H2 hD e s hu p⟩
end
end My
local macro_rules | `(tactic| rw?) => `(tactic| repeat (first
 | apply_rules (transparency:=.reducible) (exfalso:=false) (symm:=false) only [My.ad7,My.ad8,My.ad5,My.ab0,My.agn,My.T8,My.abZ,My.XF,My.adW,My.ab8,My.ab4,My.ab2,My.r_c,My.agp,My.agx,My.adU,My.r_U,My.ab9,My.r_B,My.agg,My.agi,My.abY,My.ad2,My.ad9,My.adZ,My.abW,My.ad4,My.r_g,My.abT,My.abV,My.abX,My.aec,My.ab1,My.ad0,My.ad1,My.aea,My.agh,My.ad3,My.adV,My.agq,My.abU,My.adY]
  | ((with_reducible refine' My.aeb ?e1 ?_); (case e1 => rfl))
  | ((with_reducible refine My.gT ?e7 ?_); (case e7 => first | decide | assumption | exact ⟨by decide, by decide, by decide⟩ | (show (0 : Int) < _; first | decide | simp?) | exact My.mulR (by decide) (by decide) | exact My.mulL (by decide) (by decide)))
  | ((with_reducible refine My.agl ?e2 ?_); (case e2 => rfl))
  | ((with_reducible refine My.ago ?e3 ?_); (case e3 => rfl))
  | ((with_reducible refine' My.agt ?e4 ?_); (case e4 => assumption))
  | ((with_reducible refine' My.agu ?e5 ?_); (case e5 => assumption))
  | ((with_reducible refine' My.agv ?e6 ?_); (case e6 => assumption))
  | ((with_reducible refine' My.agw ?e8 ?_); (case e8 => assumption))))
local macro_rules | `(tactic| try?) => `(tactic| first
 | assumption
 | exact uM (by assumption)
 | exact Ao (by assumption) (by assumption)
 | exact qT (by assumption) (by assumption)
 | exact dP (by assumption) (by assumption)
 | exact Pj (by assumption)
 | exact Int.ne_of_gt (by assumption)
 | exact Int.ne_of_lt (by assumption)
 | exact OY _
 | lia
 | omega)
local macro_rules | `(tactic| walk_at "fx") => `(tactic| (refine' My.ac2 ?a ?l ?c ?k; (case a => k_is); (case l => k_is); (case c => k_is); (case k => k_is)))
local macro_rules | `(tactic| walk_at "fm") => `(tactic| (refine' My.ac0 ?a ?i ?l ?c ?k; (case a => k_is); (case i => k_is); (case l => k_is); (case c => k_is); (case k => k_is)))
local macro_rules | `(tactic| walk_at "fi") => `(tactic| (refine' My.acZ ?a ?o ?i ?l ?c ?k; (case a => k_is); (case o => kernel_rfl); (case i => k_is); (case l => k_is); (case c => k_is); (case k => k_is)))
local macro_rules | `(tactic| walk_at "fd") => `(tactic| (refine' My.aa8 ?a ?l ?t ?c ?k; (case a => k_is); (case l => k_is); (case t => k_is); (case c => k_is); (case k => k_is)))
local macro_rules | `(tactic| walk_at "fb") => `(tactic| (refine' My.aa7 ?a ?l ?t ?c ?k; (case a => k_is); (case l => k_is); (case t => k_is); (case c => k_is); (case k => k_is)))
local macro_rules | `(tactic| walk_at "fg") => `(tactic| (refine' My.ac4 ?h ?l; (case h => k_is); (case l => k_is)))
local macro_rules | `(tactic| walk_at "fz") => `(tactic| first | walk_at "fx" | walk_at "fd" | walk_at "fb" | walk_at "fg" | walk_at "fm" | walk_at "fi" | k_is | k_exc | kts_exm | kit_is)
local macro_rules | `(tactic| walk_at "vs") => `(tactic| first
  | with_reducible refine My.ags ?_
  | with_reducible refine My.ab6 ?_
  | with_reducible refine My.T9 ?_
  | with_reducible refine My.agr ?_)
local macro_rules | `(tactic| walk_at "vd") => `(tactic| ((rw?); (repeat ((walk_at "vs"); (rw?)))))
local macro_rules | `(tactic| walk_at "ve") => `(tactic| ((rw?); (repeat ((first | with_reducible refine My.agj ?_ | with_reducible refine My.agk ?_); (rw?)))))
--@squeeze
--@short
--@mini
--@ind
--@exn
--@lam
--@twins 500
--@pack 56
namespace Lw
inductive Lq {A0 A1:Type} (p:A0→A1→Prop):Prop
 | mk (a0:A0) (a1:A1):p a0 a1→Lq p
inductive NP {A0 A1 A2:Type} (p:A0→A1→A2→Prop):Prop
 | mk (a0:A0) (a1:A1) (a2:A2):p a0 a1 a2→NP p
inductive Rv {A0 A1 A2 A3:Type} (p:A0→A1→A2→A3→Prop):Prop
 | mk (a0:A0) (a1:A1) (a2:A2) (a3:A3):p a0 a1 a2 a3→Rv p
inductive Xs5 {A0 A1 A2 A3 A4:Type} (p:A0→A1→A2→A3→A4→Prop):Prop
 | mk (a0:A0) (a1:A1) (a2:A2) (a3:A3) (a4:A4):p a0 a1 a2 a3 a4→Xs5 p
inductive Xs6 {A0 A1 A2 A3 A4 A5:Type} (p:A0→A1→A2→A3→A4→A5→Prop):Prop
 | mk (a0:A0) (a1:A1) (a2:A2) (a3:A3) (a4:A4) (a5:A5):p a0 a1 a2 a3 a4 a5→Xs6 p
inductive Xs7 {A0 A1 A2 A3 A4 A5 A6:Type} (p:A0→A1→A2→A3→A4→A5→A6→Prop):Prop
 | mk (a0:A0) (a1:A1) (a2:A2) (a3:A3) (a4:A4) (a5:A5) (a6:A6):p a0 a1 a2 a3 a4 a5 a6→Xs7 p
inductive Xs8 {A0 A1 A2 A3 A4 A5 A6 A7:Type} (p:A0→A1→A2→A3→A4→A5→A6→A7→Prop):Prop
 | mk (a0:A0) (a1:A1) (a2:A2) (a3:A3) (a4:A4) (a5:A5) (a6:A6) (a7:A7):p a0 a1 a2 a3 a4 a5 a6 a7→Xs8 p
inductive Xs9 {A0 A1 A2 A3 A4 A5 A6 A7 A8:Type} (p:A0→A1→A2→A3→A4→A5→A6→A7→A8→Prop):Prop
 | mk (a0:A0) (a1:A1) (a2:A2) (a3:A3) (a4:A4) (a5:A5) (a6:A6) (a7:A7) (a8:A8):p a0 a1 a2 a3 a4 a5 a6 a7 a8→Xs9 p
inductive acM {A0 A1 A2 A3 A4 A5 A6 A7 A8 A9:Type} (p:A0→A1→A2→A3→A4→A5→A6→A7→A8→A9→Prop):Prop
 | mk (a0:A0) (a1:A1) (a2:A2) (a3:A3) (a4:A4) (a5:A5) (a6:A6) (a7:A7) (a8:A8) (a9:A9):p a0 a1 a2 a3 a4 a5 a6 a7 a8 a9→acM p
inductive acN {A0 A1 A2 A3 A4 A5 A6 A7 A8 A9 A10:Type} (p:A0→A1→A2→A3→A4→A5→A6→A7→A8→A9→A10→Prop):Prop
 | mk (a0:A0) (a1:A1) (a2:A2) (a3:A3) (a4:A4) (a5:A5) (a6:A6) (a7:A7) (a8:A8) (a9:A9) (a10:A10):p a0 a1 a2 a3 a4 a5 a6 a7 a8 a9 a10→acN p
inductive acO {A0 A1 A2 A3 A4 A5 A6 A7 A8 A9 A10 A11:Type} (p:A0→A1→A2→A3→A4→A5→A6→A7→A8→A9→A10→A11→Prop):Prop
 | mk (a0:A0) (a1:A1) (a2:A2) (a3:A3) (a4:A4) (a5:A5) (a6:A6) (a7:A7) (a8:A8) (a9:A9) (a10:A10) (a11:A11):p a0 a1 a2 a3 a4 a5 a6 a7 a8 a9 a10 a11→acO p
open PySem L2 Mth My
def top (i:Nat):aT:=PySem.Challenge.pw_lath_k72_few.main.body.getD i (.Pass ⟨0,0,0,0⟩)
abbrev vG:aT:=top 86
abbrev yY:aT:=top 87
abbrev yZ:aT:=top 88
abbrev sV:aT:=top 89
abbrev nK:aT:=top 94
abbrev lJ:aT:=top 6
abbrev j9:aT:=top 7
abbrev yW:aT:=top 8
abbrev HL:aT:=top 9
abbrev zj:aT:=top 10
abbrev qL:aT:=top 11
abbrev kB:aT:=top 12
abbrev o6:aT:=top 13
abbrev HJ:aT:=top 15
abbrev M9:aT:=top 14
abbrev M8:aT:=top 17
abbrev iV:aT:=top 24
abbrev o4:aT:=top 25
abbrev nN:aT:=top 26
abbrev tD:aT:=top 27
abbrev HM:aT:=top 28
abbrev zf:aT:=top 29
abbrev CV:aT:=top 30
abbrev M7:aT:=top 31
abbrev HK:aT:=top 18
abbrev Nb:aT:=top 19
abbrev o5:aT:=top 40
abbrev Na:aT:=top 50
abbrev qK:aT:=top 90
abbrev sY:aT:=top 91
abbrev qJ:aT:=top 92
abbrev sR:aT:=top 93
abbrev j8:aT:=top 33
abbrev qH:aT:=top 95
abbrev sW:aT:=top 96
abbrev vF:aT:=top 21
abbrev vO:aT:=top 22
abbrev oZ:aT:=top 34
abbrev HH:aT:=top 35
abbrev sP:aT:=top 36
abbrev CY:aT:=top 37
abbrev yV:aT:=top 38
abbrev i9:aT:=top 71
abbrev lI:aT:=top 72
abbrev vQ:aT:=top 73
abbrev vP:aT:=top 74
abbrev HN:aT:=top 75
abbrev HG:aT:=top 76
abbrev nH:aT:=inClass (top 54) 0
abbrev lG:aT:=top 52
abbrev lM:aT:=top 53
abbrev lE:aT:=inClass (top 54) 1
abbrev nI:aT:=inClass (top 54) 2
abbrev tE:aT:=top 55
abbrev nQ:aT:=top 43
abbrev oY:aT:=top 44
abbrev o8:aT:=top 45
abbrev sO:aT:=top 46
abbrev lF:aT:=top 47
abbrev HP:aT:=top 41
abbrev HQ:aT:=top 16
abbrev M6:aT:=top 48
abbrev o7:aT:=top 57
abbrev qE:aT:=top 58
abbrev nJ:aT:=top 59
abbrev HF:aT:=top 60
abbrev vM:aT:=top 20
abbrev qF:aT:=top 62
abbrev zo:aT:=top 63
abbrev sM:aT:=inClass (top 64) 0
abbrev nG:aT:=inClass (top 64) 4
abbrev iO:aT:=inClass (top 64) 2
abbrev iP:aT:=inClass (top 64) 3
abbrev sN:aT:=inClass (top 64) 1
abbrev lD:aT:=inClass (top 64) 5
abbrev vL:aT:=top 66
abbrev vN:aT:=top 67
abbrev nO:aT:=top 68
abbrev CW:aT:=top 69
abbrev vJ:aT:=top 97
abbrev vK:aT:=top 98
abbrev tu:aT:=top 99
abbrev jJ:aT:=top 80
abbrev lH:aT:=top 81
abbrev zk:aT:=top 78
abbrev lK:aT:=top 82
abbrev CZ:aT:=top 83
abbrev yX:aT:=top 100
abbrev sX:aT:=top 101
abbrev sQ:aT:=top 102
abbrev sZ:aT:=top 103
abbrev Up:aT:=top 84
abbrev qI:aT:=top 105
abbrev sU:aT:=top 104
abbrev vH:aT:=top 106
abbrev vI:aT:=top 107
abbrev qG:aT:=top 108
abbrev Uq:aT:=top 109
inductive Nk (K:b9) (vs:List V) (H:Hp) (Q:VK) (E_:XK):Prop where
 | mk (a:av) (ns:List Int) (i:Int):vs=[.ref a,.int i]→aX K H a 0#L→0≤i→i<1000→(∀(c:Int) (H':Hp),au H H'→Q (.int c) H')→Nk K vs H Q E_
inductive UJ (vs:List V) (H:Hp) (Q:VK) (E_:XK):Prop where
 | mk (c k:Int):vs=[.int c,.int k]→0≤k→k<1000→(∀z:Int,Q (.int z) H)→UJ vs H Q E_
inductive OF (K:b9) (vs:List V) (H:Hp) (Q:VK) (E_:XK):Prop where
 | mk (a:av) (ns:List Int) (i:Int) (l:av) (zs:List Int):vs=[.ref a,.int i,.ref l]→aX K H a 0#L→0≤i→i<900→H l=some (.lst (zs.map V.int))→zs.length≤900→(∀z∈zs,0<z∧z<2 ^ 60)→(∀(p:av) (xs:List Int) (H':Hp),au H H'→H p=none→H' p=some (.lst (xs.map V.int))→xs.length=zs.length→(∀(j:Nat) (x z:Int),xs[j]?=some x→zs[j]?=some z→0≤x∧x<z)→Q 1#a H')→OF K vs H Q E_
inductive uB (vs:List V) (H:Hp) (Q:VK) (E_:XK):Prop where
 | mk (t b:Int):vs=[.int t,.int b]→0<b→Sz 8000 b→(∀(p:av) (t' b':Int) (H':Hp),au H H'→H' p=some (.tup [.int t',.int b'])→VW t b t' b'→Q 1#a H')→uB vs H Q E_
inductive XY (vs:List V) (H:Hp) (Q:VK) (E_:XK):Prop where
 | mk (p:av) (a b:Int):vs=[.ref p]→H p=some (.tup [.int a,.int b])→Sz 8000 b→(∀(r:Bool) (H':Hp),au H H'→(r=true↔1≤b∧cH a b=1)→Q (.bl r) H')→XY vs H Q E_
structure Txt (mg:Str→Option aL):Prop where
 eU:mg "len"=none
 yo:mg "abs"=none
 range:mg "range"=none
 fE:mg "isinstance"=none
 SI:mg "int"=none
 RE:mg "bool"=none
 Iv:mg "tuple"=none
 adB:mg "list"=none
 SS:mg "max"=none
 Xc:mg "min"=none
 BY:mg "enumerate"=none
 acC:mg "zip"=none
 agE:mg "all"=none
 agF:mg "any"=none
 agV:mg "sum"=none
 XX:mg "sorted"=none
 acD:mg "reversed"=none
 agU:mg "str"=none
theorem W0 {ns:List Int} (h0:0≤i) (h:i<(ns.length:Int)):∃v:Int,qV 0#L i=some (.int v):=by
 have hk:i.toNat<ns.length:=by try?
 exact ⟨ns[i.toNat],bQ (mC hk) 0#d⟩
theorem Wq {ns:List Int} {i:Nat} (h:(jT 0#L lo hi)[i]?=some y):∃m:Int,y=.int m:=by
 have hm:y∈jT 0#L lo hi:=lP h
 unfold jT at hm
 obtain ⟨m,_,e⟩:=gD.mp (KL (Zh hm))
 exact ⟨m,e.symm⟩
theorem Ot (x y:Nat):((x:Int) % (y:Int))=((x % y:Nat):Int):=(Int.natCast_emod x y).symm
theorem iS (t:Int):(if t<0 then -t else t)=(t.natAbs:Int):=by split <;> try?
def RI (i:Nat) (σ:St):Nat:=match σ[i]? with | some (some (V.int n))=>n.toNat | _=>0
def YL (σ:St):Nat:=match σ[3]? with | some (some (V.int n))=>n.toNat | _=>0
section
theorem oH:aE ["_law_script","_law_place","_law_seed","_law_cell_here"] ["_law_script","_law_place"] (ah vG):=0#a
theorem JY (F:cR K "_law_cell" "_law_cell" vG f fd) (T:Txt mg):bf P w K mg base cY 1 f fd ["_law_script","_law_place"] (Nk K):=by
 refine F.ok oH 0#e 0#b
 ·obtain ⟨a,ns,i,rfl,_⟩:=h
  rfl
 obtain ⟨a,ns,i,rfl,hS,h0,h1,k⟩:=h
 refine bG ⟨_,(aq (bW (bC lQ 0#p 0#V 0#J) (aH (aV (bB 0#Z 0#j 0#p 0#h))) cj) (aq (aK 2 oH.nd aA) (aq (c7 fQ rfl (dB K (qX (Rl K) 0#j qY (qZ aA))) (bX (i:=3) oH.nd rfl 0#k) (aH (aK 2 oH.nd (aI iN (aI aW (aI aW (aI aQ 0#s aA) (aI iN 0#E aA)) aA) aA)))) (aH (aV (aI iN (aI aW 0#s (aI aQ aA 0#p)) aA)))))),?_⟩
 rw?
 refine cy (.inl hS) ?_
 rw?
 refine cD 0#y 0#y
 ·have c':=jw c
  rw [gV] at c'
  obtain ⟨v,hv⟩:=W0 (ns:=ns) h0 c'
  rw?
  exact ⟨a,_,i,_,rfl,rfl,hS,hv,k v H 0#x⟩
 ·rw?
  refine ⟨_,rfl,_,rfl,a,_,rfl,hS,λp hp=>?_⟩
  have s1:au H (upd H p (.lst (jT 0#L none (some 63)))):=kP hp _
  have e1:upd H p (.lst (jT 0#L none (some 63))) p=some (.lst (jT 0#L none (some 63))):=aB
  refine ⟨p,rfl,⟨_,aX.of e1⟩,eK (K:=K) (a:=p) (xs:=jT 0#L none (some 63)) (λ_ σ H2=>Lq λ(z:Int) (v:Option V)=>σ=[some (.ref a),some (.int i),some (.int z),v]∧0≤z∧z<2147483647∧au (upd H p (.lst (jT 0#L none (some 63)))) H2)
   ⟨5,none,rfl,by decide,by decide,au.refl _⟩ (λ_ σ H2 _ ⟨_,_,_,_,_,s2⟩=>aX.of (s2 _ _ e1)) ?_ ?_⟩
  ·rintro j y σ H2 hj ⟨z,v,rfl,z0,z1,s2⟩
   obtain ⟨m,rfl⟩:=Wq hj
   rw?
   exact ⟨_,_,rfl,Bd _ 0#i,zU _ 0#i,s2⟩
  ·rintro σ H2 ⟨z,v,rfl,z0,z1,s2⟩
   rw?
   exact k _ _ (s1.trans s2)
theorem vS:aE ["_law_cell_here","_law_k","_law_one","_law_two"] ["_law_cell_here","_law_k"] (ah yY):=0#a
theorem MB (F:cR K "_law_mix" "_law_mix" yY f fd):bf P w K mg base cY 1 f fd ["_law_cell_here","_law_k"] UJ:=by
 refine F.ok vS 0#e 0#b
 ·obtain ⟨c,k,rfl,_⟩:=h
  rfl
 obtain ⟨c,j,rfl,h0,h1,k⟩:=h
 refine bG ⟨_,(aq (aK 2 vS.nd (aI iN (aI qA (aI aW (aI aW (aI iN 0#j aA) (aI aQ aA 0#p)) aA) aA) aA)) (aq (aK 3 vS.nd (aI iN (aI aW (aI aW (aI aQ 0#s aA) (aI aQ (aI aQ aA 0#p) 0#p)) aA) aA)) (aH (aV (aI gc 0#E aA))))),?_⟩
 have b0:0≤c % 2147483629:=Bd _ 0#i
 have b1:c % 2147483629<2147483629:=zU _ 0#i
 rw?
 refine gT (show acE _ _ from ⟨by decide,by decide,by try?⟩) ?_
 rw?
 refine gT (mulR 0#d 0#d) ?_
 rw?
 refine gT (show ED _ _ from ⟨by decide,by decide +kernel⟩) ?_
 exact k _
theorem ja:aE ["_law_script","_law_place","_law_sizes","_law_cell_here","_law_left","_law_some","_law_k","_law_other"] ["_law_script","_law_place","_law_sizes"] (ah yZ):=0#a
theorem MC (F:cR K "_law_row" "_law_row" yZ f fd) (T:Txt mg) (qe:Dn P w K mg base 1 "_law_cell" ["_law_script","_law_place"] (Nk K)) (t6:Dn P w K mg base 1 "_law_mix" ["_law_cell_here","_law_k"] UJ) :
 bf P w K mg base cY 3 f fd ["_law_script","_law_place","_law_sizes"] (OF K):=by
 refine F.ok ja 0#e 0#b
 ·obtain ⟨a,ns,i,l,zs,rfl,_⟩:=h
  rfl
 obtain ⟨a,ns,i,l,zs,rfl,hS,h0,h1,hl,hz,hzs,k⟩:=h
 refine bG ⟨_,(aq (aK 3 ja.nd (bY qe hr 0#j 0#p)) (aq (aK 4 ja.nd 0#E) (aq (aK 5 ja.nd (dI dX)) (aq (c7 fQ rfl (uQ rfl T.range (dD (eY K T.eU 0#s))) (bX (i:=6) ja.nd rfl 0#k) (aH (bW (bC lQ 0#E (aI qA aA aA) 0#J) (aH (eO (gM K (aa 5) (aI iN (bY t6 hr 0#E (aa 6)) (bB 0#Z 0#s (aa 6) 0#h))) (hs:=eF))) (aH (bW (bC dS 0#X aA 0#J) (aq (eO (gM K (aa 5) (aI iN 0#X (bB 0#Z 0#s (aa 6) 0#h))) (hs:=eF)) (aH (aK 4 ja.nd (aI gc 0#X (bB 0#Z 0#s (aa 6) 0#h))))) (aq (aK 7 ja.nd (bY qe hr 0#j (aI iN (aI aW (aI aW 0#p aA) (aa 6)) aA))) (aH (eO (gM K (aa 5) (aI iN (bY t6 hr (aa 7) (aa 6)) (bB 0#Z 0#s (aa 6) 0#h))) (hs:=eF))))))))) (aH (aV (aa 5))))))),?_⟩
 rw?
 refine ⟨a,ns,i,rfl,hS,h0,by try?,λc H1 s1=>?_⟩
 rw?
 refine aF (mk:=.lst) 0#f λp H2 s2 n2 e2=>?_
 rw?
 have hl2:H2 l=some (.lst (zs.map V.int)):=s2 _ _ (s1 _ _ hl)
 refine ⟨_,rfl,l,_,rfl,.inl (aX.of hl2),_,rfl,by lia,by rw [gV];lia,cA (λj σ H3=>Rv λ(left:Int) (xs:List Int) (v6 v7:Option V)=>
  σ=[some (.ref a),some (.int i),some 0#U,some (.int c),some (.int left),some 1#a,v6,v7]∧au H1 H3∧H3 p=some (.lst (xs.map V.int))∧xs.length=j∧(∀(j:Nat) (x z:Int),xs[j]?=some x→zs[j]?=some z→0≤x∧x<z)) ?_ ?_ ?_⟩
 ·exact ⟨c,[],none,none,rfl,s2,e2,rfl,λj x z e _=>by simp at e⟩
 ·rintro j σ H3 hj ⟨left,xs,v6,v7,rfl,s3,e3,hx,hxs⟩
  have hj':j<zs.length:=by simpa using hj
  obtain ⟨z,ez⟩:∃z,zs[j]?=some z:=⟨_,mC hj'⟩
  obtain ⟨zp,zq⟩:=hzs z (lP ez)
  have hl3:H3 l=some (.lst (zs.map V.int)):=s3 _ _ (s1 _ _ hl)
  have ea:qV (zs.map V.int) (0+(j:Int))=some (.int z):=bQ ez 0#d
  have hS3:aX K H3 a 0#L:=(s1.trans s3).seq hS
    -- one more item
  have fin:∀(y left':Int) (v6 v7:Option V) (H4:Hp),au H3 H4→H4 p=some (.lst (xs.map V.int))→Rv λ(left:Int) (xs':List Int) (v6' v7':Option V)=>
   [some (.ref a),some (.int i),some 0#U,some (.int c),some (.int left'),some 1#a,v6,v7]=[some (.ref a),some (.int i),some 0#U,some (.int c),some (.int left),some 1#a,v6',v7'] ∧
   au H1 (upd H4 p (.lst (xs.map V.int++[.int (y % z)])))∧upd H4 p (.lst (xs.map V.int++[.int (y % z)])) p=some (.lst (xs'.map V.int))∧xs'.length=j+1∧(∀(j:Nat) (x z:Int),xs'[j]?=some x→zs[j]?=some z→0≤x∧x<z):=by
   intro y left' v6 v7 H4 s4 e4
   refine ⟨left',xs++[y % z],v6,v7,rfl,aZ 0#S n2,?_,by rw [fj,hx];rfl,λm x z' e1 e2=>?_⟩
   ·rw [aB,iI];rfl
   ·by_cases hm:m<xs.length
    ·rw [yb hm] at e1
     exact hxs m x z' e1 e2
    ·have hm2:m=j:=by
      have:=(lS.mp e1).1
      rw [fj] at this
      simp at this
      try?
     subst hm2
     rw [ya 0#d,hx] at e1
     simp at e1
     rw [ez] at e2
     cases e2
     subst e1
     exact ⟨Bd _ 0#d,zU _ zp⟩
  have Nj:(xs.map V.int).length<sizeLine:=by rw [gV];exact aO 0#d
  rw?
  refine cD (λ_=>?_) (λ_=>?_)
  ·rw?
   refine ⟨.inl ⟨rfl,_,aX.of e3⟩,?_⟩
   rw?
   refine ⟨_,_,rfl,by try?,by try?,λy=>?_⟩
   rw?
   refine cK hl3 ea ?_
   refine gT (show (0:Int)<z from zp) ?_
   rw?
   refine cJ e3 Nj ?_
   exact fin y _ _ _ _ 0#x e3
  ·rw?
   refine cD (λ_=>?_) (λ_=>?_)
   ·rw?
    refine ⟨.inl ⟨rfl,_,aX.of e3⟩,?_⟩
    rw?
    refine cK hl3 ea ?_
    refine gT (show (0:Int)<z from zp) ?_
    rw?
    refine cJ e3 Nj ?_
    rw?
    refine cK (by rw [aM (bK (s1 _ _ hl) n2)];exact hl3) ea ?_
    refine gT (show ED _ _ from ⟨by try?,Sz.log (m:=60) (Sz.of_lt (k:=2 ^ 60) 0#d (dG _)) 0#i 0#i⟩) ?_
    exact fin left _ _ _ _ 0#x e3
   ·rw?
    have q0:0≤(i+1+(0+(j:Int))) % 63:=Bd _ 0#i
    have q1:(i+1+(0+(j:Int))) % 63<63:=zU _ 0#i
    refine ⟨a,ns,_,rfl,hS3,q0,by try?,λc2 H4 s4=>?_⟩
    rw?
    refine ⟨.inl ⟨rfl,_,aX.of (s4 _ _ e3)⟩,?_⟩
    rw?
    refine ⟨_,_,rfl,by try?,by try?,λy=>?_⟩
    rw?
    refine cK (s4 _ _ hl3) ea ?_
    refine gT (show (0:Int)<z from zp) ?_
    rw?
    refine cJ (s4 _ _ e3) Nj ?_
    exact fin y _ _ _ _ s4 (s4 _ _ e3)
 ·rintro σ H3 ⟨left,xs,v6,v7,rfl,s3,e3,hx,hxs⟩
  rw?
  exact k p xs H3 (s1.trans s3) (s1.free n2) e3 (by simpa using hx) hxs
theorem qN:aE ["_law_top","_law_bottom","_law_one","_law_two"] ["_law_top","_law_bottom"] (ah sV):=0#a
theorem G5 (F:cR K "_law_ratio" "_law_ratio" sV f fd) (T:Txt mg):bf P w K mg base cY 1 f fd ["_law_top","_law_bottom"] uB:=by
 refine F.ok qN 0#e 0#b
 ·obtain ⟨t,b,rfl,_⟩:=h
  rfl
 obtain ⟨t,b,rfl,hb,hz,k⟩:=h
 refine bG ⟨_,(aq (Jd.Hu (i:=2) (j:=3) rfl qN.nd rfl rfl 0#i rfl rfl (bq (dQ ym rfl T.yo zR (dD 0#j) (he:=bw) (hpl:=cg)) 0#p) rfl) (aq (Jd.kO fQ (bC dS 0#E aA 0#J) (aH (Jd.Hu (i:=2) (j:=3) rfl qN.nd rfl rfl 0#i rfl rfl (bq 0#E (aI iN 0#s 0#E)) rfl))) (aH (aV (bJ (bq (aI gc 0#j 0#s) (aI gc 0#p 0#s))))))),?_⟩
 rw?
 have hgb:cH t b≤b.natAbs:=by
  have:=Int.gcd_le_right (a:=t) (b:=b) 0#d
  try?
 refine xQ (λσ H'=>H'=H∧Lq λx y:Nat=>σ=[some (.int t),some (.int b),some (.int x),some (.int y)]∧K7 x y=cH t b) (λσ _=>YL σ) ?_ ?_ ?_
 ·refine ⟨rfl,t.natAbs,b.natAbs,?_,rfl⟩
  rw [iS]
  have e:b=((b.natAbs:Nat):Int):=by try?
  rw [← e]
  rfl
 ·rintro σ H' ⟨rfl,x,y,rfl,hg⟩
  rw?
  refine cD 0#y 0#y
  ·have c':(0:Int)<(y:Int):=jw c
   rw?
   refine ⟨⟨rfl,y,x % y,?_,by rw [Ji];exact hg⟩,?_⟩
   ·rw [← Ot];rfl
   ·show ((x:Int) % (y:Int)).toNat<(y:Int).toNat
    rw [Ot]
    have:=aaE x (y:=y) 0#d
    try?
  ·have c':¬(0:Int)<(y:Int):=gY (gQ.mpr c)
   have y0:y=0:=by try?
   subst y0
   rw [Zq] at hg
   subst hg
   have gp:0<cH t b:=Q7 t 0#d
   have cd:ED t ((cH t b:Nat):Int):=⟨by try?,Sz.log (m:=8000) (Sz.of_le hz 0#d) 0#i 0#i⟩
   rw?
   refine aF (mk:=.tup) 0#f λp H1 s1 n1 e1=>?_
   exact k p _ _ H1 s1 e1 (GL hb)
 ·intro σ H Q Q' h q
  obtain ⟨v,e,i,j,e1,e2,b,e3,q⟩:=q
  exact ⟨v,e,i,j,e1,e2,b,e3,h _ _ q⟩
theorem rz:aE ["_law_one","_law_part"] ["_law_one"] (ah nK):=0#a
theorem AQ (F:cR K "_law_is_ratio" "_law_is_ratio" nK f fd) (T:Txt mg) (fB:Dn P w K mg base 1 "_law_ratio" ["_law_top","_law_bottom"] uB):bf P w K mg base cY 3 f fd ["_law_one"] XY:=by
 refine F.ok rz 0#e 0#b
 ·obtain ⟨p,a,b,rfl,_⟩:=h
  rfl
 obtain ⟨p,a,b,rfl,hp,hz,k⟩:=h
 have SD:=hr.units
 refine bG ⟨_,(aq (bW (jj (Jd.sJ (Jd.nv (ir (dQ (GD K) rfl T.fE IA (bq 0#j (Jd.sF rfl T.Iv OP)) (he:=bw) (hpl:=(cu bw cg))))) (Jd.nA (bC E7 0#V aA 0#J)))) (aH (aV kK)) cj) (aq (c7 fQ rfl (Jd.piT K 0#j) (bX (i:=1) rz.nd rfl 0#k) (aH (bW (jj (Jd.sJ (ir (dQ (GD K) rfl T.fE IA (bq 0#p (Jd.sF rfl T.RE U5)) (he:=bw) (hpl:=(cu bw cg)))) (Jd.nA (Jd.nv (ir (dQ (GD K) rfl T.fE IA (bq 0#p (Jd.sF rfl T.SI KI)) (he:=bw) (hpl:=(cu bw cg)))))))) (aH (aV kK)) cj))) (aH (aV (Jd.yP (mY Tz 0#I aA 0#J) (Jd.CD (mY (Tw SD) (bY fB hr 0#I 0#I) 0#j 0#J))))))),?_⟩
 rw?
 refine wY (.tup hp) Mb ?_
 rw?
 refine bI ?_
 rw?
 refine cy (.inr (qb.of hp)) ?_
 rw?
 refine bI ?_
 rw?
 refine ⟨_,rfl,p,rfl,⟨_,qb.of hp⟩,WD (K:=K) (a:=p) (xs:=[.int a,.int b]) (λ_ σ H2=>H2=H∧∃v:Option V,σ=[some 1#a,v]) ⟨rfl,none,rfl⟩ (λ_ σ H2 _ ⟨e,_⟩=>by subst e;exact qb.of hp) ?_ ?_⟩
 ·rintro j y σ H2 hj ⟨rfl,v,rfl⟩
  obtain ⟨m,rfl⟩:∃m:Int,y=.int m:=by
   have hm:=lP hj
   simp at hm
   rcases hm with h | h
   ·exact ⟨_,h⟩
   ·exact ⟨_,h⟩
  rw?
  refine wY (.int m) L8 ?_
  rw?
  refine bI ?_
  rw?
  refine wY (.int m) Ma ?_
  rw?
  refine bI ?_
  rw?
  exact ⟨rfl,_,rfl⟩
 ·rintro σ H2 ⟨rfl,v,rfl⟩
  rw?
  refine cD 0#y 0#y
  ·have c':(1:Int)≤b:=jw c
   rw?
   refine ⟨_,_,rfl,by try?,hz,λp' t' b' H3 s3 e3 lo=>?_⟩
   rw?
   refine ⟨_,_,.tup e3 (.cons (.int _) (.cons (.int _) .nil)),.tup (s3 _ _ hp) (.cons (.int _) (.cons (.int _) .nil)),rfl,rfl,?_⟩
   refine k _ H3 s3 ?_
   have e:DL (.tuple [.int t',.int b']) (.tuple [.int a,.int b])=(t'==a&&(b'==b&&true)):=rfl
   rw [e]
   constructor
   ·intro q
    simp at q
    obtain ⟨rfl,rfl⟩:=q
    exact ⟨c',lo.co⟩
   ·rintro ⟨_,q⟩
    obtain ⟨rfl,rfl⟩:=lo.self c' q
    simp
  ·have c':¬(1:Int)≤b:=gY (gQ.mpr c)
   exact k false H2 0#x ⟨λq=>absurd q 0#i,λq=>absurd q.1 c'⟩
end
def bS (H:Hp) (p:av) (q:Rat) (n:Nat):Prop:=∃t b:Int,H p=some (.tup [.int t,.int b])∧Qt t b q∧Sz n t∧Sz n b
def dz (H:Hp) (p:av) (q:Rat) (n:Nat):Prop:=∃t b:Int,H p=some (.tup [.int t,.int b])∧Fr t b q∧Sz n t∧Sz n b
def i7 (H:Hp) (p:av) (m:Int) (q:Rat) (n:Nat):Prop:=∃v:av,H p=some (.tup [.int m,.ref v])∧dz H v q n∧Sz n m
def i6 (H:Hp) (p:av) (s h:Rat) (n:Nat):Prop:=∃a b:av,H p=some (.tup [.ref a,.ref b])∧dz H a s n∧dz H b h n
section
theorem dz.qt (f:dz H p q n):bS H p q n:=let ⟨t,b,e,f,z⟩:=f;⟨t,b,e,f.qt,z⟩
theorem bS.mono (f:bS H p q m) (h:m≤n):bS H p q n:=let ⟨t,b,e,f,z1,z2⟩:=f;⟨t,b,e,f,z1.mono h,z2.mono h⟩
theorem dz.mono (f:dz H p q m) (h:m≤n):dz H p q n:=let ⟨t,b,e,f,z1,z2⟩:=f;⟨t,b,e,f,z1.mono h,z2.mono h⟩
theorem bS.up (f:bS H p q n) (s:au H H'):bS H' p q n:=let ⟨t,b,e,f⟩:=f;⟨t,b,s _ _ e,f⟩
theorem dz.up (f:dz H p q n) (s:au H H'):dz H' p q n:=let ⟨t,b,e,f⟩:=f;⟨t,b,s _ _ e,f⟩
theorem i7.up (f:i7 H p t q n) (s:au H H'):i7 H' p t q n:=let ⟨v,e,f,z⟩:=f;⟨v,s _ _ e,f.up s,z⟩
theorem i6.up (f:i6 H p q h n) (s:au H H'):i6 H' p q h n:=let ⟨a,b,e,f,g⟩:=f;⟨a,b,s _ _ e,f.up s,g.up s⟩
theorem dz.den (f:dz H p q n):∃t b:Int,Den H 1#a (.tuple [.int t,.int b])∧Fr t b q:=let ⟨t,b,e,f,_⟩:=f;⟨t,b,.tup e (.cons (.int _) (.cons (.int _) .nil)),f⟩
end
inductive Ig (vs:List V) (H:Hp) (Q:VK) (E_:XK):Prop where
 | mk (m n:Int):vs=[.int m,.int n]→0≤m→0≤n→Q (.int (cH m n:Nat)) H→Ig vs H Q E_
inductive Il (vs:List V) (H:Hp) (Q:VK) (E_:XK):Prop where
 | mk (m n:Int):vs=[.int m,.int n]→0≤n→n≤m→m<115792089237316195423570985008687907853269984665640564039457584007913129639936→(∀(p:av) (x0 y0 x1 y1 high low:Int) (H':Hp),au H H'→H' p=some (.tup [.int x0,.int y0,.int x1,.int y1])→jF m n high low x0 y0 x1 y1→low≤340282366920938463463374607431768211456→Q 1#a H')→Il vs H Q E_
inductive uy (vs:List V) (H:Hp) (Q:VK) (E_:XK):Prop where
 | mk (m n:Int):vs=[.int m,.int n]→Sz 8000 m→Sz 8000 n→(∀H',au H H'→Q (.int (cH m n:Nat)) H')→uy vs H Q E_
inductive xE (vs:List V) (H:Hp) (Q:VK) (E_:XK):Prop where
 | mk (t b:Int):vs=[.int t,.int b]→b≠0→Sz 8000 t→Sz 8000 b→(∀(p:av) (t' b':Int) (H':Hp),au H H'→H' p=some (.tup [.int t',.int b'])→VW t b t' b'→Q 1#a H')→xE vs H Q E_
inductive gB (vs:List V) (H:Hp) (Q:VK) (E_:XK):Prop where
 | mk (p:av) (q:Rat) (n:Nat):vs=[.ref p]→bS H p q n→n≤8000→(∀(r:av) (H':Hp),au H H'→dz H' r q n→Q (.ref r) H')→gB vs H Q E_
inductive iH (f:Rat→Rat→Rat) (k:Nat) (vs:List V) (H:Hp) (Q:VK) (E_:XK):Prop where
 | mk (p r:av) (q q':Rat) (m n:Nat):vs=[.ref p,.ref r]→bS H p q m→bS H r q' n→m+n≤100000→(∀(s:av) (H':Hp),au H H'→bS H' s (f q q') (m+n+k)→Q (.ref s) H')→iH f k vs H Q E_
inductive qO (f:Rat→Rat→Rat) (k:Nat) (vs:List V) (H:Hp) (Q:VK) (E_:XK):Prop where
 | mk (p r:av) (q q':Rat) (m n:Nat):vs=[.ref p,.ref r]→bS H p q m→bS H r q' n→m+n+k≤8000→(∀(s:av) (H':Hp),au H H'→dz H' s (f q q') (m+n+k)→Q (.ref s) H')→qO f k vs H Q E_
inductive Nv (vs:List V) (H:Hp) (Q:VK) (E_:XK):Prop where
 | mk (p r:av) (q q':Rat) (m n:Nat):vs=[.ref p,.ref r]→bS H p q m→bS H r q' n→m+n≤8000→q'≠0→(∀(s:av) (H':Hp),au H H'→dz H' s (q/q') (m+n)→Q (.ref s) H')→Nv vs H Q E_
inductive xD (vs:List V) (H:Hp) (Q:VK) (E_:XK):Prop where
 | mk (p r:av) (t t':Int) (q q':Rat) (n:Nat):vs=[.ref p,.ref r]→i7 H p t q n→i7 H r t' q' n→t≠t'→n≤2000→(∀(s:av) (H':Hp),au H H'→bS H' s ((q'-q)/((t'-t:Int):Rat)) (4*n+3)→Q (.ref s) H')→xD vs H Q E_
inductive Ik (vs:List V) (H:Hp) (Q:VK) (E_:XK):Prop where
 | mk (p r:av) (t t':Int) (q q':Rat) (n:Nat):vs=[.ref p,.ref r]→i7 H p t q n→i7 H r t' q' n→t≠t'→n≤1000→(∀(s:av) (H':Hp),au H H'→dz H' s ((q'-q)/((t'-t:Int):Rat)) (4*n+3)→Q (.ref s) H')→Ik vs H Q E_
inductive pO (vs:List V) (H:Hp) (Q:VK) (E_:XK):Prop where
 | mk (p r:av) (s q:Rat) (t u:Int) (m n:Nat):vs=[.ref p,.ref r,.int u]→bS H p s m→i7 H r t q n→Sz n u→m≤20000→n≤20000→(∀(x:av) (H':Hp),au H H'→bS H' x (q+s*((u-t:Int):Rat)) (m+2*n+2)→Q (.ref x) H')→pO vs H Q E_
section
theorem eE:aE ["one","other","found","rest","left"] ["one","other"] (ah lJ):=0#a
theorem yL (F:cR K "plain_divisor" "plain_divisor" lJ f fd) (T:Txt mg):bf P w K mg base cY 1 f fd ["one","other"] Ig:=by
 refine F.ok eE 0#e 0#b
 ·obtain ⟨m,n,rfl,_⟩:=h
  rfl
 obtain ⟨m,n,rfl,hm,hn,k⟩:=h
 refine bG ⟨_,(aq (aK 2 eE.nd 0#j) (aq (aK 3 eE.nd 0#p) (aq (Jd.kO fQ (bC E7 0#E aA 0#J) (aq (aK 4 eE.nd (aI iN 0#s 0#E)) (aq (aK 2 eE.nd 0#E) (aH (aK 3 eE.nd 0#X))))) (aH (aV 0#s))))),?_⟩
 rw?
 refine xQ (λσ H'=>H'=H∧NP λ(x y:Nat) (v:Option V)=>σ=[some (.int m),some (.int n),some (.int x),some (.int y),v]∧K7 x y=cH m n) (λσ _=>YL σ) ?_ ?_ ?_
 ·refine ⟨rfl,m.natAbs,n.natAbs,none,?_,rfl⟩
  rw [show ((m.natAbs:Nat):Int)=m by try?,show ((n.natAbs:Nat):Int)=n by try?]
  rfl
 ·rintro σ H' ⟨rfl,x,y,v,rfl,hg⟩
  rw?
  refine cD 0#y 0#y
  ·have c':¬(y:Int)=0:=by simpa using c
   rw?
   refine ⟨⟨rfl,y,x % y,some (.int ((x % y:Nat):Int)),?_,by rw [Ji];exact hg⟩,?_⟩
   ·rw [Ot];rfl
   ·show ((x:Int) % (y:Int)).toNat<(y:Int).toNat
    rw [Ot]
    have:=aaE x (y:=y) 0#d
    try?
  ·have c':(y:Int)=0:=by simpa using c
   have y0:y=0:=by try?
   subst y0
   rw [Zq] at hg
   subst hg
   rw?
   exact k
 ·intro σ H Q Q' h q
  obtain ⟨v,e,hs,b,e3,q⟩:=q
  exact ⟨v,e,hs,b,e3,h _ _ q⟩
theorem b8:aE ["high","low","ahead","now","many","left","behind"] ["high","low"] (ah j9):=0#a
theorem wR (F:cR K "steps_of_heads" "steps_of_heads" j9 f fd) (uZ:Cn mg "HEAD" 256):bf P w K mg base cY 1 f fd ["high","low"] Il:=by
 refine F.ok b8 0#e 0#b
 ·obtain ⟨m,n,rfl,_⟩:=h
  rfl
 obtain ⟨hd,ld,rfl,h0,h1,h2,k⟩:=h
 refine bG ⟨_,(aq (aK 2 b8.nd (bJ (bq aA aA))) (aq (aK 3 b8.nd (bJ (bq aA aA))) (aq (Jd.kO fQ (bC dS (Jd.wU 0#p) (aI gc (Jd.Kc rfl uZ) aA) 0#J) (aq (aK 4 b8.nd (aI gc 0#j 0#p)) (aq (aK 5 b8.nd (aI bL 0#j (aI aQ 0#X 0#p))) (aq (aK 0 b8.nd 0#p) (aq (aK 1 b8.nd (aa 5)) (aq (aK 6 b8.nd (bJ (bq (aI bL (aJ K 0#s) (aI aQ 0#X (aJ K 0#E))) (aI bL (aJ K 0#s) (aI aQ 0#X (aJ K 0#E)))))) (aq (aK 2 b8.nd 0#E) (aH (aK 3 b8.nd (aa 6)))))))))) (aH (aV (aI (acQ K) 0#s 0#E)))))),?_⟩
 rw?
 refine aF (mk:=.tup) 0#f λpa Ha sa na ea=>?_
 rw?
 refine aF (mk:=.tup) 0#f λpn Hn sn nn en=>?_
 rw?
 refine xQ (λσ H'=>au H H'∧acN λ(high low x0 y0 x1 y1:Int) (pa pn:av) (v4 v5 v6:Option V)=>σ=[some (.int high),some (.int low),some (.ref pa),some (.ref pn),v4,v5,v6] ∧
  H' pa=some (.tup [.int x0,.int y0])∧H' pn=some (.tup [.int x1,.int y1])∧jF hd ld high low x0 y0 x1 y1) (λσ _=>RI 1 σ) ?_ ?_ ?_
 ·exact ⟨sa.trans sn,hd,ld,1,0,0,1,pa,pn,none,none,none,rfl,sn _ _ ea,en,jF.init h0 h1⟩
 ·rintro σ H' ⟨sH,high,low,x0,y0,x1,y1,pa,pn,v4,v5,v6,rfl,ea,en,S⟩
  rw?
  refine gT ⟨by decide,by decide⟩ ?_
  rw?
  refine cD 0#y 0#y
  ·have c':=jw c
   rw [show Int.fdiv 256 2=128 by decide] at c'
   have hlow:=Qc c' S.l0
   have hq:=S.step hlow rfl
   have hH:hd.natAbs<2 ^ 256:=by
    have:(2:Nat) ^ 256=115792089237316195423570985008687907853269984665640564039457584007913129639936:=by decide
    try?
   have zl:Sz 256 ld:=Sz.of_le (m:=256) (x:=hd) hH 0#d
   have zh:Sz 256 high:=Sz.of_le (m:=256) (x:=hd) hH (by have:=S.WW h1;have:=S.lh;have:=S.l0;try?)
   have nb:=S.abH (by have:=S.lh;try?)
   have zx:Sz 256 x1:=Sz.of_le zl nb.1
   have zy:Sz 256 y1:=Sz.of_le (m:=256) (x:=hd) hH nb.2
   have zlo:Sz 256 low:=zh.of_le (by have:=S.lh;have:=S.l0;try?)
   have eq:high.fdiv low=high/low:=DO _ S.l0
   have zq:Sz 256 (high/low):=zh.of_le (RU (by have:=S.lh;have:=S.l0;try?) S.l0)
   rw?
   refine gT ⟨by try?,zlo.log 0#i 0#i⟩ ?_
   rw [eq]
   rw?
   refine gT (bV zq zlo) ?_
   rw?
   refine gT (bV zq zx) ?_
   rw?
   refine gT (bV zq zy) ?_
   rw?
   refine aF (mk:=.tup) 0#f λpb Hb sb nb eb=>?_
   rw?
   refine ⟨⟨sH.trans sb,low,high-high/low*low,x1,y1,x0-high/low*x1,y0-high/low*y1,pn,pb,_,_,_,rfl,sb _ _ en,eb,hq⟩,?_⟩
   show (high-high/low*low).toNat<low.toNat
   have e:=KH high low
   rw [pS] at e
   have:=zU high (b:=low) 0#d
   try?
  ·have c':=gY (gQ.mpr c)
   rw [show Int.fdiv 256 2=128 by decide] at c'
   have hlow:=Jz c'
   rw?
   refine T6 ea en ?_
   refine aF (mk:=.tup) 0#f λpb Hb sb nb eb=>?_
   exact k pb x0 y0 x1 y1 high low Hb (sH.trans sb) eb S 0#d
 ·intro σ H Q Q' h q
  obtain ⟨v,e,a1,a2,i,a3,m,n,e1,e2,hc,m',n',e3,e4,b,e5,q⟩:=q
  exact ⟨v,e,a1,a2,i,a3,m,n,e1,e2,hc,m',n',e3,e4,b,e5,h _ _ q⟩
theorem fP:aE ["one","other","found","rest","tail","steps","ahead","now"] ["one","other"] (ah yW):=0#a
theorem Mz (F:cR K "divisor" "divisor" yW f fd) (T:Txt mg) (uZ:Cn mg "HEAD" 256) (ly:Dn P w K mg base 1 "plain_divisor" ["one","other"] Ig) (j4:Dn P w K mg base 1 "steps_of_heads" ["high","low"] Il) :
 bf P w K mg base cY 2 f fd ["one","other"] uy:=by
 refine F.ok fP 0#e 0#b
 ·obtain ⟨m,n,rfl,_⟩:=h
  rfl
 obtain ⟨m,n,rfl,zm,zn,k⟩:=h
 refine bG ⟨_,(aq (aK 2 fP.nd (dQ (Xb rfl) rfl T.SS KJ (bq (dQ ym rfl T.yo zR (dD 0#j) (he:=bw) (hpl:=cg)) (dQ ym rfl T.yo zR (dD 0#p) (he:=bw) (hpl:=cg))) (he:=Bb) (hpl:=(cu Bb cg)))) (aq (aK 3 fP.nd (dQ (abA rfl) rfl T.Xc OU (bq (dQ ym rfl T.yo zR (dD 0#j) (he:=bw) (hpl:=cg)) (dQ ym rfl T.yo zR (dD 0#p) (he:=bw) (hpl:=cg))) (he:=Bb) (hpl:=(cu Bb cg)))) (aq (Jd.kO fQ (bC dS (Jd.wU 0#E) (Jd.Kc rfl uZ) 0#J) (aq (aK 4 fP.nd (aI bL (Jd.wU 0#s) (Jd.Kc rfl uZ))) (aq (aK 5 fP.nd (bY j4 hr (aI TH 0#s 0#X) (aI TH 0#E 0#X))) (aq (bW (bC dF (aJ K (aa 5)) aA 0#J) (aH (aK 5 fP.nd (bJ (Jd.a4 aA aA aA (fR cZ (aI gc 0#s 0#E)))))) cj) (aq (aK 6 fP.nd (dQ ym rfl T.yo zR (dD (aI aW (aI aQ (aJ K (aa 5)) 0#s) (aI aQ (aJ K (aa 5)) 0#E))) (he:=Iq) (hpl:=cg))) (aq (aK 7 fP.nd (dQ ym rfl T.yo zR (dD (aI aW (aI aQ (aJ K (aa 5)) 0#s) (aI aQ (aJ K (aa 5)) 0#E))) (he:=Iq) (hpl:=cg))) (aq (aK 2 fP.nd (dQ (Xb rfl) rfl T.SS KJ (bq (aa 6) (aa 7)) (he:=bw) (hpl:=(cu bw cg)))) (aH (aK 3 fP.nd (dQ (abA rfl) rfl T.Xc OU (bq (aa 6) (aa 7)) (he:=bw) (hpl:=(cu bw cg)))))))))))) (aH (aV (bY ly hr 0#s 0#E)))))),?_⟩
 rw?
 rw [iS,iS]
 refine xQ (λσ H'=>au H H'∧Xs6 λ(x y:Int) (v4 v5 v6 v7:Option V)=>σ=[some (.int m),some (.int n),some (.int x),some (.int y),v4,v5,v6,v7] ∧
  0≤y∧y≤x∧cH x y=cH m n∧Sz 8001 (x+y)) (λσ _=>RI 2 σ+RI 3 σ) ?_ ?_ ?_
 ·refine ⟨au.refl _,_,_,none,none,none,none,rfl,?_,?_,(vq rfl rfl).trans ?_,?_⟩
  ·exact S3 _ _
  ·exact SY _ _
  ·rfl
  ·have z:=(zm.of_le (y:=(m.natAbs:Int)) 0#f).add (zn.of_le (y:=(n.natAbs:Int)) 0#f)
   exact z.of_le (Mi 0#d)
 ·rintro σ H' ⟨sH,x,y,v4,v5,v6,v7,rfl,y0,yx,hg,zs⟩
  have zx:Sz 8001 x:=zs.of_le 0#d
  have zy:Sz 8001 y:=zs.of_le 0#d
  rw?
  refine cD 0#y 0#y
  ·have c':=jw c
   obtain ⟨t,ht,lo,hi⟩:=LX c' y0 yx
   have tp:(0:Int)<2 ^ t:=VI 0#i
   have hd:=Ob lo hi
   have ypos:1≤y:=by
    have:(256:Int)<(uK y:Nat):=c'
    by_cases e:y=0
    ·subst e;simp [uK] at this
    ·try?
   rw?
   refine gT (show (0:Int)≤_ by try?) ?_
   rw?
   refine gT (show (0:Int)≤_ by try?) ?_
   rw?
   rw [show ((uK x:Nat)-256:Int).toNat=t by try?]
   refine ⟨x/2 ^ t,y/2 ^ t,rfl,ZS y0 0#d,Vh tp yx,hd.2,λps x0 y0' x1 y1 high low H1 s1 e1 S hl=>?_⟩
   rw?
   refine cD (λc2=>?_) (λc2=>?_)
   ·have c3:y0'=0:=jw c2
    have zq:Sz 8001 (x.fdiv y):=by
     rw [DO _ y0]
     exact zx.of_le (RU 0#d y0)
    rw?
    refine gT ⟨by try?,zy.log 0#i 0#i⟩ ?_
    rw?
    refine aF (mk:=.tup) 0#f λp2 H2 s2 n2 e2=>?_
    have sH2:=(sH.trans s1).trans s2
    have za:Sz 8001 (0:Int):=by decide
    have zb:Sz 8001 (1:Int):=by decide
    have zc:Sz 8001 (1:Int):=zb
    have zd:Sz 8001 (-(x.fdiv y)):=zq.neg
    have gg:cH (0*x+1*y) (1*x+-(x.fdiv y)*y)=cH x y:=Oa (.inr 0#d)
    have ls:=WB ypos yx
    rw?
    refine gT (bV zd zy) ?_
    rw?
    simp only [iS]
    refine ⟨⟨sH2,_,_,_,_,_,_,rfl,?_,?_,(vq rfl rfl).trans (gg.trans hg),?_⟩,?_⟩
    ·exact S3 _ _
    ·exact SY _ _
    ·exact zs.of_le (Mi (Yx ls y0 yx))
    ·exact Yw ls y0 yx
   ·have c3:y0'≠0:=gY (gQ.mpr c2)
    have sH2:=sH.trans s1
    have sm:=S.small c3 (Vh tp yx) hd.2
    have W6:(340282366920938463463374607431768211456:Nat)<2 ^ 8001:=by decide +kernel
    have za:Sz 8001 x0:=EC sm.1 W6
    have zb:Sz 8001 y0':=EC sm.2.1 W6
    have zc:Sz 8001 x1:=EC sm.2.2.1 W6
    have zd:Sz 8001 y1:=EC sm.2.2.2 W6
    have gg:cH (x0*x+y0'*y) (x1*x+y1*y)=cH x y:=S.gcd
    have ls:=LW S c3 yx lo hi rfl rfl hl
    rw?
    refine gT (bV za zx) ?_
    rw?
    refine gT (bV zb zy) ?_
    rw?
    refine gT (bV zc zx) ?_
    rw?
    refine gT (bV zd zy) ?_
    rw?
    simp only [iS]
    refine ⟨⟨sH2,_,_,_,_,_,_,rfl,?_,?_,(vq rfl rfl).trans (gg.trans hg),?_⟩,?_⟩
    ·exact S3 _ _
    ·exact SY _ _
    ·exact zs.of_le (Mi (Yx ls y0 yx))
    ·exact Yw ls y0 yx
  ·rw?
   refine ⟨x,y,rfl,by try?,y0,?_⟩
   rw [hg]
   exact k H' sH
 ·intro σ H Q Q' h q
  obtain ⟨v,e,a1,a2,i,a3,m',n',e3,e4,b,e5,q⟩:=q
  exact ⟨v,e,a1,a2,i,a3,m',n',e3,e4,b,e5,h _ _ q⟩
theorem C5:aE ["top","bottom","shared"] ["top","bottom"] (ah HL):=0#a
theorem Qm (hb:b≠0):VW t b (t.fdiv (if b<0 then -(cH t b:Int) else (cH t b:Int))) (b.fdiv (if b<0 then -(cH t b:Int) else (cH t b:Int))):=by
 by_cases h:b<0
 ·rw [if_pos h]
  have l:=W9 (t:=t) h
  exact ⟨l.pos,l.co,by have:=l.eq;rw [K5,Po] at this;try?,by rw [← Pf t];exact l.tb,by rw [← Pf b];exact l.bb⟩
 ·rw [if_neg h]
  exact GL 0#d
theorem Tn (F:cR K "ratio" "ratio" HL f fd) (T:Txt mg) (mE:Dn P w K mg base 2 "divisor" ["one","other"] uy):bf P w K mg base cY 3 f fd ["top","bottom"] xE:=by
 refine F.ok C5 0#e 0#b
 ·obtain ⟨t,b,rfl,_⟩:=h
  rfl
 obtain ⟨t,b,rfl,hb,hzt,hz,k⟩:=h
 refine bG ⟨_,(aq (bW (bC dF 0#p aA 0#J) (aH Jd.CL) cj) (aq (aK 2 C5.nd (bY mE hr 0#j 0#p)) (aq (bW (bC lQ 0#p aA 0#J) (aH (aK 2 C5.nd (fR cZ 0#s))) cj) (aH (aV (bJ (bq (aI gc 0#j 0#s) (aI gc 0#p 0#s)))))))),?_⟩
 rw?
 rw [rG hb]
 refine bI ?_
 rw?
 refine ⟨t,b,rfl,hzt,hz,λH0 s0=>?_⟩
 have gp:0<cH t b:=Q7 t hb
 have hgb:cH t b≤b.natAbs:=aah 0#d (ZE _ _)
 have cd:∀x:Int,ED x (if b<0 then -(cH t b:Int) else (cH t b:Int)):=λx=>by
  refine ⟨by split <;> try?,Sz.log (m:=8000) (Sz.of_le hz ?_) 0#i 0#i⟩
  split <;> try?
 have lo:=Qm (t:=t) hb
 rw?
 refine cD 0#y 0#y
 ·have c':=jw c
  rw [if_pos c'] at lo
  simp only [if_pos c'] at cd
  rw?
  refine gT (cd t) ?_
  rw?
  refine gT (cd b) ?_
  rw?
  refine aF (mk:=.tup) 0#f λp H1 s1 n1 e1=>?_
  exact k p _ _ H1 (s0.trans s1) e1 lo
 ·have c':=gY (gQ.mpr c)
  rw [if_neg c'] at lo
  simp only [if_neg c'] at cd
  rw?
  refine gT (cd t) ?_
  rw?
  refine gT (cd b) ?_
  rw?
  refine aF (mk:=.tup) 0#f λp H1 s1 n1 e1=>?_
  exact k p _ _ H1 (s0.trans s1) e1 lo
theorem Nf:aE ["quotient"] ["quotient"] (ah zj):=0#a
theorem ME (F:cR K "reduced" "reduced" zj f fd) (t9:Dn P w K mg base 3 "ratio" ["top","bottom"] xE):bf P w K mg base cY 4 f fd ["quotient"] gB:=by
 refine F.ok Nf 0#e 0#b
 ·obtain ⟨p,q,n,rfl,_⟩:=h
  rfl
 obtain ⟨p,q,n,rfl,⟨t,b,hp,hq,zt,zb⟩,hn,k⟩:=h
 refine bG ⟨_,(aH (aV (bY t9 hr 0#I 0#I))),?_⟩
 have hb:=hq.pos
 rw?
 refine ⟨t,b,rfl,by try?,zt.mono hn,zb.mono hn,λr t' b' H1 s1 e1 lo=>?_⟩
 exact k r H1 s1 ⟨t',b',e1,Fr.Mw lo 0#d hq.eq,zt.of_le lo.tb,zb.of_le lo.bb⟩
theorem Ex:aE ["one","other"] ["one","other"] (ah qL):=0#a
theorem Eo (F:cR K "loose_plus" "loose_plus" qL f fd):bf P w K mg base cY 1 f fd ["one","other"] (iH (·+·) 1):=by
 refine F.ok Ex 0#e 0#b
 ·obtain ⟨p,r,q,q',m,n,rfl,_⟩:=h
  rfl
 obtain ⟨p,r,q,q',m,n,rfl,⟨a,b,hp,hq,za,zb⟩,⟨c,d,hr',hq',zc,zd⟩,hn,k⟩:=h
 refine bG ⟨_,(aH (aV (bJ (bq (aI aW (aI aQ 0#I 0#Q) (aI aQ 0#Q 0#I)) (aI aQ 0#I 0#Q))))),?_⟩
 rw?
 refine gT (bV za zd 0#d) ?_
 rw?
 refine gT (bV zc zb 0#d) ?_
 rw?
 refine gT (bV zb zd 0#d) ?_
 rw?
 refine aF (mk:=.tup) 0#f λx H1 s1 n1 e1=>?_
 exact k x H1 s1 ⟨_,_,e1,hq.plus hq',(za.mul zd).add ((zc.mul zb).mono 0#d),(zb.mul zd).mono 0#d⟩
theorem tH:aE ["one","other"] ["one","other"] (ah kB):=0#a
theorem Cs (F:cR K "loose_minus" "loose_minus" kB f fd):bf P w K mg base cY 1 f fd ["one","other"] (iH (·-·) 1):=by
 refine F.ok tH 0#e 0#b
 ·obtain ⟨p,r,q,q',m,n,rfl,_⟩:=h
  rfl
 obtain ⟨p,r,q,q',m,n,rfl,⟨a,b,hp,hq,za,zb⟩,⟨c,d,hr',hq',zc,zd⟩,hn,k⟩:=h
 refine bG ⟨_,(aH (aV (bJ (bq (aI bL (aI aQ 0#I 0#Q) (aI aQ 0#Q 0#I)) (aI aQ 0#I 0#Q))))),?_⟩
 rw?
 refine gT (bV za zd 0#d) ?_
 rw?
 refine gT (bV zc zb 0#d) ?_
 rw?
 refine gT (bV zb zd 0#d) ?_
 rw?
 refine aF (mk:=.tup) 0#f λx H1 s1 n1 e1=>?_
 exact k x H1 s1 ⟨_,_,e1,hq.minus hq',(za.mul zd).sub ((zc.mul zb).mono 0#d),(zb.mul zd).mono 0#d⟩
theorem C2:aE ["one","other"] ["one","other"] (ah o6):=0#a
theorem Cv (F:cR K "loose_times" "loose_times" o6 f fd):bf P w K mg base cY 1 f fd ["one","other"] (iH (·*·) 0):=by
 refine F.ok C2 0#e 0#b
 ·obtain ⟨p,r,q,q',m,n,rfl,_⟩:=h
  rfl
 obtain ⟨p,r,q,q',m,n,rfl,⟨a,b,hp,hq,za,zb⟩,⟨c,d,hr',hq',zc,zd⟩,hn,k⟩:=h
 refine bG ⟨_,(aH (aV (bJ (bq (aI aQ 0#I 0#Q) (aI aQ 0#I 0#Q))))),?_⟩
 rw?
 refine gT (bV za zc 0#d) ?_
 rw?
 refine gT (bV zb zd 0#d) ?_
 rw?
 refine aF (mk:=.tup) 0#f λx H1 s1 n1 e1=>?_
 exact k x H1 s1 ⟨_,_,e1,hq.times hq',za.mul zc,zb.mul zd⟩
end
inductive uA (vs:List V) (H:Hp) (Q:VK) (E_:XK):Prop where
 | mk (p r:av) (s h x:Rat) (m n:Nat):vs=[.ref p,.ref r]→i6 H p s h n→bS H r x m→m≤20000→n≤20000→(∀(z:av) (H':Hp),au H H'→bS H' z (s*x+h) (m+2*n+1)→Q (.ref z) H')→uA vs H Q E_
inductive tN (vs:List V) (H:Hp) (Q:VK) (E_:XK):Prop where
 | mk (p r:av) (s h x:Rat) (m n:Nat):vs=[.ref p,.ref r]→i6 H p s h n→bS H r x m→m+2*n+1≤8000→(∀(z:av) (H':Hp),au H H'→dz H' z (s*x+h) (m+2*n+1)→Q (.ref z) H')→tN vs H Q E_
inductive Nr (vs:List V) (H:Hp) (Q:VK) (E_:XK):Prop where
 | mk (p r:av) (s h q:Rat) (t:Int) (m n:Nat):vs=[.ref p,.ref r]→i6 H p s h n→i7 H r t q m→1≤m→m≤20000→n≤20000→(∀(z:av) (H':Hp),au H H'→bS H' z (q-(s*(t:Rat)+h)) (2*m+2*n+2)→Q (.ref z) H')→Nr vs H Q E_
inductive xC (vs:List V) (H:Hp) (Q:VK) (E_:XK):Prop where
 | mk (p r:av) (s q:Rat) (t:Int) (m n:Nat):vs=[.ref p,.ref r]→dz H p s m→i7 H r t q n→1≤n→m+2*n+2≤8000→(∀(z r':av) (H':Hp),au H H'→H' z=some (.tup [.ref p,.ref r'])→dz H' r' (q-s*(t:Rat)) (m+2*n+2)→Q (.ref z) H')→xC vs H Q E_
inductive Nt (vs:List V) (H:Hp) (Q:VK) (E_:XK):Prop where
 | mk (p r:av) (s h s' h':Rat) (n:Nat):vs=[.ref p,.ref r]→i6 H p s h n→i6 H r s' h' n→1≤n→n≤1300→(s=s'→∀H',au H H'→Q .bM H')→(s≠s'→∀(z a b:av) (H':Hp),au H H'→H' z=some (.tup [.ref a,.ref b])→dz H' a ((h'-h)/(s-s')) (4*n+2)→dz H' b (s*((h'-h)/(s-s'))+h) (6*n+3)→Q (.ref z) H')→Nt vs H Q E_
theorem aa6 (h:Fr t b q) (h':Fr t' b' q'):DL (.tuple [.int t,.int b]) (.tuple [.int t',.int b'])=decide (q=q'):=by
 have e:DL (.tuple [.int t,.int b]) (.tuple [.int t',.int b'])=(t==t'&&(b==b'&&true)):=rfl
 rw [e]
 by_cases hq:q=q'
 ·subst hq
  obtain ⟨rfl,rfl⟩:=h.unique h'
  simp
 ·rw [rG hq]
  by_cases e1:t=t'
  ·by_cases e2:b=b'
   ·exact absurd (h.worth h' e1 e2) hq
   ·simp [e2]
  ·simp [e1]
theorem qy (h:1≤n):Sz n 1:=by
 have:(2:Nat) ^ 1≤2 ^ n:=Zf 0#i h
 show aaF 1<2 ^ n
 have e:aaF 1=1:=rfl
 try?
theorem tT (h:H p=some (.tup [.int m,.int 1])) (z:Sz n m) (hn:1≤n):bS H p (m:Rat) n:=⟨m,1,h,Qt.whole m,z,qy hn⟩
section
theorem Us:aE ["one","other"] ["one","other"] (ah HJ):=0#a
theorem Ti (F:cR K "minus" "minus" HJ f fd) (aS:Dn P w K mg base 1 "loose_minus" ["one","other"] (iH (·-·) 1)) (bH:Dn P w K mg base 4 "reduced" ["quotient"] gB):bf P w K mg base cY 5 f fd ["one","other"] (qO (·-·) 1):=by
 refine F.ok Us 0#e 0#b
 ·obtain ⟨p,r,q,q',m,n,rfl,_⟩:=h
  rfl
 obtain ⟨p,r,q,q',m,n,rfl,h1,h2,hn,k⟩:=h
 refine bG ⟨_,(aH (aV (Jd.c1 bH hr (bY aS hr 0#j 0#p)))),?_⟩
 rw?
 refine ⟨p,r,q,q',m,n,rfl,h1,h2,by try?,λx H1 s1 e1=>?_⟩
 rw?
 refine ⟨x,_,_,rfl,e1,hn,λy H2 s2 e2=>?_⟩
 exact k y H2 (s1.trans s2) e2
theorem XO:aE ["one","other"] ["one","other"] (ah M9):=0#a
theorem Xn (F:cR K "plus" "plus" M9 f fd) (bP:Dn P w K mg base 1 "loose_plus" ["one","other"] (iH (·+·) 1)) (bH:Dn P w K mg base 4 "reduced" ["quotient"] gB):bf P w K mg base cY 5 f fd ["one","other"] (qO (·+·) 1):=by
 refine F.ok XO 0#e 0#b
 ·obtain ⟨p,r,q,q',m,n,rfl,_⟩:=h
  rfl
 obtain ⟨p,r,q,q',m,n,rfl,h1,h2,hn,k⟩:=h
 refine bG ⟨_,(aH (aV (Jd.c1 bH hr (bY bP hr 0#j 0#p)))),?_⟩
 rw?
 refine ⟨p,r,q,q',m,n,rfl,h1,h2,by try?,λx H1 s1 e1=>?_⟩
 rw?
 refine ⟨x,_,_,rfl,e1,hn,λy H2 s2 e2=>?_⟩
 exact k y H2 (s1.trans s2) e2
theorem XN:aE ["one","other"] ["one","other"] (ah M8):=0#a
theorem Xm (F:cR K "over" "over" M8 f fd) (t9:Dn P w K mg base 3 "ratio" ["top","bottom"] xE):bf P w K mg base cY 4 f fd ["one","other"] Nv:=by
 refine F.ok XN 0#e 0#b
 ·obtain ⟨p,r,q,q',m,n,rfl,_⟩:=h
  rfl
 obtain ⟨p,r,q,q',m,n,rfl,⟨a,b,hp,hq,za,zb⟩,⟨c,d,hr',hq',zc,zd⟩,hn,h0,k⟩:=h
 have hc:c≠0:=λz=>h0 (hq'.U3.mp z)
 obtain ⟨o1,o2⟩:=Xr hq hq' hc
 refine bG ⟨_,(aH (aV (bY t9 hr (aI aQ 0#I 0#Q) (aI aQ 0#I 0#Q)))),?_⟩
 rw?
 refine gT (bV za zd 0#d) ?_
 rw?
 refine gT (bV zb zc 0#d) ?_
 rw?
 refine ⟨_,_,rfl,o1,(za.mul zd).mono hn,(zb.mul zc).mono hn,λx t' b' H1 s1 e1 lo=>?_⟩
 exact k x H1 s1 ⟨t',b',e1,Fr.Mw lo o1 o2,(za.mul zd).of_le lo.tb,(zb.mul zc).of_le lo.bb⟩
theorem cW:aE ["one","other","rise","step"] ["one","other"] (ah iV):=0#a
theorem Ct (F:cR K "loose_slope" "loose_slope" iV f fd) (aS:Dn P w K mg base 1 "loose_minus" ["one","other"] (iH (·-·) 1)):bf P w K mg base cY 3 f fd ["one","other"] xD:=by
 refine F.ok cW 0#e 0#b
 ·obtain ⟨p,r,t,t',q,q',n,rfl,_⟩:=h
  rfl
 obtain ⟨p,r,t,t',q,q',n,rfl,⟨v,hp,hv,zt⟩,⟨v',hr',hv',zt'⟩,ht,hn,k⟩:=h
 refine bG ⟨_,(aq (aK 2 cW.nd (bY aS hr 0#Q 0#I)) (aq (aK 3 cW.nd (aI bL 0#Q 0#I)) (aq (bW (bC lQ 0#E aA 0#J) (aH (aV (bJ (bq (fR cZ (aJ K 0#s)) (aI aQ (aJ K 0#s) (fR cZ 0#E)))))) cj) (aH (aV (bJ (bq (aJ K 0#s) (aI aQ (aJ K 0#s) 0#E)))))))),?_⟩
 rw?
 refine ⟨v',v,q',q,n,n,rfl,hv'.qt,hv.qt,by try?,λx H1 s1 e1=>?_⟩
 obtain ⟨a,b,hx,hq,za,zb⟩:=e1
 have hp1:=s1 _ _ hp
 have hr1:=s1 _ _ hr'
 have zs:Sz (n+1) (t'-t):=zt'.sub zt
 rw?
 refine cD 0#y 0#y
 ·have c':t'-t<0:=jw c
  rw?
  refine gT (bV zb zs.neg 0#d) ?_
  rw?
  refine aF (mk:=.tup) 0#f λy H2 s2 n2 e2=>?_
  exact k y H2 (s1.trans s2) ⟨_,_,e2,hq.aft c',za.neg.mono 0#d,(zb.mul zs.neg).mono 0#d⟩
 ·have c':¬t'-t<0:=gY (gQ.mpr c)
  rw?
  refine gT (bV zb zs 0#d) ?_
  rw?
  refine aF (mk:=.tup) 0#f λy H2 s2 n2 e2=>?_
  exact k y H2 (s1.trans s2) ⟨_,_,e2,hq.div 0#d,za.mono 0#d,(zb.mul zs).mono 0#d⟩
theorem C0:aE ["steep","sample","moment"] ["steep","sample","moment"] (ah o4):=0#a
theorem Cr (F:cR K "loose_along" "loose_along" o4 f fd) (bP:Dn P w K mg base 1 "loose_plus" ["one","other"] (iH (·+·) 1)) (dh:Dn P w K mg base 1 "loose_times" ["one","other"] (iH (·*·) 0)) :
 bf P w K mg base cY 3 f fd ["steep","sample","moment"] pO:=by
 refine F.ok C0 0#e 0#b
 ·obtain ⟨p,r,s',q,t,u,m,n,rfl,_⟩:=h
  rfl
 obtain ⟨p,r,s',q,t,u,m,n,rfl,hp,⟨v,hr',hv,zt⟩,zu,hm,hn,k⟩:=h
 refine bG ⟨_,(aH (aV (bY bP hr 0#Q (bY dh hr 0#j (bJ (bq (aI bL 0#s 0#Q) aA)))))),?_⟩
 rw?
 refine aF (mk:=.tup) 0#f λy H1 s1 n1 e1=>?_
 refine ⟨p,y,s',_,m,n+1,rfl,hp.up s1,tT e1 (zu.sub zt) 0#d,by try?,λx H2 s2 e2=>?_⟩
 rw?
 refine ⟨v,x,q,_,n,_,rfl,(hv.up (s1.trans s2)).qt,e2,by try?,λz H3 s3 e3=>?_⟩
 exact k z H3 (s1.trans (s2.trans s3)) (e3.mono 0#d)
theorem Ba:aE ["line","when"] ["line","when"] (ah nN):=0#a
theorem AR (F:cR K "loose_height" "loose_height" nN f fd) (bP:Dn P w K mg base 1 "loose_plus" ["one","other"] (iH (·+·) 1)) (dh:Dn P w K mg base 1 "loose_times" ["one","other"] (iH (·*·) 0)) :
 bf P w K mg base cY 3 f fd ["line","when"] uA:=by
 refine F.ok Ba 0#e 0#b
 ·obtain ⟨p,r,s',h',x,m,n,rfl,_⟩:=h
  rfl
 obtain ⟨p,r,s',h',x,m,n,rfl,⟨a,b,hp,ha,hb⟩,hx,hm,hn,k⟩:=h
 refine bG ⟨_,(aH (aV (bY bP hr (bY dh hr 0#I 0#p) 0#I))),?_⟩
 rw?
 refine ⟨a,r,_,_,n,m,rfl,ha.qt,hx,by try?,λy H1 s1 e1=>?_⟩
 have hp1:=s1 _ _ hp
 rw?
 refine ⟨y,b,_,_,_,n,rfl,e1,(hb.up s1).qt,by try?,λz H2 s2 e2=>?_⟩
 exact k z H2 (s1.trans s2) (e2.mono 0#d)
theorem HU:aE ["line","sample"] ["line","sample"] (ah tD):=0#a
theorem Hg (F:cR K "loose_off" "loose_off" tD f fd) (aS:Dn P w K mg base 1 "loose_minus" ["one","other"] (iH (·-·) 1)) (fX:Dn P w K mg base 3 "loose_height" ["line","when"] uA) :
 bf P w K mg base cY 4 f fd ["line","sample"] Nr:=by
 refine F.ok HU 0#e 0#b
 ·obtain ⟨p,r,s',h',q,t,m,n,rfl,_⟩:=h
  rfl
 obtain ⟨p,r,s',h',q,t,m,n,rfl,hl,⟨v,hr',hv,zt⟩,h1,hm,hn,k⟩:=h
 refine bG ⟨_,(aH (aV (bY aS hr 0#Q (bY fX hr 0#j (bJ (bq 0#Q aA)))))),?_⟩
 rw?
 refine aF (mk:=.tup) 0#f λy H1 s1 n1 e1=>?_
 refine ⟨p,y,s',h',_,m,n,rfl,hl.up s1,tT e1 zt h1,by try?,by try?,λx H2 s2 e2=>?_⟩
 rw?
 refine ⟨v,x,q,_,m,_,rfl,(hv.up (s1.trans s2)).qt,e2,by try?,λz H3 s3 e3=>?_⟩
 exact k z H3 (s1.trans (s2.trans s3)) (e3.mono 0#d)
theorem Ut:aE ["one","other"] ["one","other"] (ah HM):=0#a
theorem Tq (F:cR K "slope" "slope" HM f fd) (gR:Dn P w K mg base 3 "loose_slope" ["one","other"] xD) (bH:Dn P w K mg base 4 "reduced" ["quotient"] gB):bf P w K mg base cY 5 f fd ["one","other"] Ik:=by
 refine F.ok Ut 0#e 0#b
 ·obtain ⟨p,r,t,t',q,q',n,rfl,_⟩:=h
  rfl
 obtain ⟨p,r,t,t',q,q',n,rfl,hp,hr',ht,hn,k⟩:=h
 refine bG ⟨_,(aH (aV (Jd.c1 bH hr (bY gR hr 0#j 0#p)))),?_⟩
 rw?
 refine ⟨p,r,t,t',q,q',n,rfl,hp,hr',ht,by try?,λx H1 s1 e1=>?_⟩
 rw?
 refine ⟨x,_,_,rfl,e1,by try?,λy H2 s2 e2=>?_⟩
 exact k y H2 (s1.trans s2) e2
theorem Nd:aE ["steep","sample"] ["steep","sample"] (ah zf):=0#a
theorem MD (F:cR K "line_by" "line_by" zf f fd) (cC:Dn P w K mg base 3 "loose_along" ["steep","sample","moment"] pO) (bH:Dn P w K mg base 4 "reduced" ["quotient"] gB):bf P w K mg base cY 5 f fd ["steep","sample"] xC:=by
 refine F.ok Nd 0#e 0#b
 ·obtain ⟨p,r,s',q,t,m,n,rfl,_⟩:=h
  rfl
 obtain ⟨p,r,s',q,t,m,n,rfl,hp,hr',h1,hn,k⟩:=h
 refine bG ⟨_,(aH (aV (bJ (bq 0#j (Jd.c1 bH hr (Jd.c3 cC hr 0#j 0#p aA)))))),?_⟩
 rw?
 refine ⟨p,r,s',q,t,0,m,n,rfl,hp.qt,hr',Vp n,by try?,by try?,λx H1 s1 e1=>?_⟩
 rw?
 refine ⟨x,_,_,rfl,e1,by try?,λy H2 s2 e2=>?_⟩
 rw?
 refine aF (mk:=.tup) 0#f λz H3 s3 n3 e3=>?_
 refine k z y H3 (s1.trans (s2.trans s3)) e3 ?_
 have e:q+s'*((0-t:Int):Rat)=q-s'*(t:Rat):=by
  simp only [oh]
  grind
 rw [e] at e2
 exact e2.up s3
theorem QM:aE ["line","when"] ["line","when"] (ah CV):=0#a
theorem Qw (F:cR K "height" "height" CV f fd) (fX:Dn P w K mg base 3 "loose_height" ["line","when"] uA) (bH:Dn P w K mg base 4 "reduced" ["quotient"] gB):bf P w K mg base cY 5 f fd ["line","when"] tN:=by
 refine F.ok QM 0#e 0#b
 ·obtain ⟨p,r,s',h',x,m,n,rfl,_⟩:=h
  rfl
 obtain ⟨p,r,s',h',x,m,n,rfl,hl,hx,hn,k⟩:=h
 refine bG ⟨_,(aH (aV (Jd.c1 bH hr (bY fX hr 0#j 0#p)))),?_⟩
 rw?
 refine ⟨p,r,s',h',x,m,n,rfl,hl,hx,by try?,by try?,λy H1 s1 e1=>?_⟩
 rw?
 refine ⟨y,_,_,rfl,e1,hn,λz H2 s2 e2=>?_⟩
 exact k z H2 (s1.trans s2) e2
theorem OD:aE ["line","other","when"] ["line","other"] (ah M7):=0#a
theorem Xl (F:cR K "meet" "meet" M7 f fd) (Li:Dn P w K mg base 4 "over" ["one","other"] Nv) (Bf:Dn P w K mg base 5 "minus" ["one","other"] (qO (·-·) 1)) (iQ:Dn P w K mg base 5 "height" ["line","when"] tN):bf P w K mg base cY 6 f fd ["line","other"] Nt:=by
 refine F.ok OD 0#e 0#b
 ·obtain ⟨p,r,s',h',s2',h2',n,rfl,_⟩:=h
  rfl
 obtain ⟨p,r,sl,ht,sl',ht',n,rfl,hl,hl',h1,hn,k1,k2⟩:=h
 obtain ⟨a,b,hp,ha,hb⟩:=id hl
 obtain ⟨a',b',E1,ha',hb'⟩:=id hl'
 have SD:=hr.units
 refine bG ⟨_,(aq (bW (bC (Tw SD) 0#I 0#Q 0#J) (aH (aV dN)) cj) (aq (aK 2 OD.nd (bY Li hr (bY Bf hr 0#Q 0#I) (bY Bf hr 0#I 0#Q))) (aH (aV (bJ (bq 0#s (bY iQ hr 0#j 0#s))))))),?_⟩
 rw?
 obtain ⟨t1,d1,D1,F1⟩:=ha.den
 obtain ⟨t2,d2,D2,F2⟩:=ha'.den
 refine ⟨_,_,D1,D2,rfl,rfl,?_⟩
 rw [aa6 F1 F2]
 rw?
 refine cD 0#y 0#y
 ·have c':=jw c
  rw?
  exact k1 c' H 0#x
 ·have c':=gY (gQ.mpr c)
  rw?
  refine ⟨b',b,_,_,n,n,rfl,hb'.qt,hb.qt,by try?,λx H1 s1 e1=>?_⟩
  have hp1:=s1 _ _ hp
  have agO:=s1 _ _ E1
  rw?
  refine ⟨a,a',_,_,n,n,rfl,(ha.up s1).qt,(ha'.up s1).qt,by try?,λy H2 s2 e2=>?_⟩
  rw?
  refine ⟨x,y,_,_,_,_,rfl,(e1.up s2).qt,e2.qt,by try?,by grind,λz H3 s3 e3=>?_⟩
  rw?
  refine ⟨p,z,_,_,_,_,n,rfl,hl.up (s1.trans (s2.trans s3)),e3.qt,by try?,λv H4 s4 e4=>?_⟩
  rw?
  refine aF (mk:=.tup) 0#f λg H5 s5 n5 e5=>?_
  exact k2 c' g z v H5 (s1.trans (s2.trans (s3.trans 0#R))) e5 ((e3.up 0#R).mono 0#d) ((e4.up s5).mono 0#d)
end
inductive iW (vs:List V) (H:Hp) (Q:VK) (E_:XK):Prop where
 | mk (p r:av) (q q':Rat) (m n:Nat):vs=[.ref p,.ref r]→bS H p q m→bS H r q' n→m+n≤100000→(∀o:Int,(0<o↔q'<q)→(o<0↔q<q')→Q (.int o) H)→iW vs H Q E_
inductive De (vs:List V) (H:Hp) (Q:VK) (E_:XK):Prop where
 | mk (p1 p2 p3:av) (t1 t2 t3:Int) (q1 q2 q3:Rat) (n:Nat):vs=[.ref p1,.ref p2,.ref p3]→i7 H p1 t1 q1 n→i7 H p2 t2 q2 n→i7 H p3 t3 q3 n→t1<t3→n≤2000→(∀(z:av) (H':Hp),au H H'→bS H' z (q2-c6 t1 q1 t2 t3 q3) (7*n+7)→Q (.ref z) H')→De vs H Q E_
section
theorem C3:aE ["one","other","left","right"] ["one","other"] (ah HK):=0#a
theorem Tj (F:cR K "order" "order" HK f fd):bf P w K mg base cY 1 f fd ["one","other"] iW:=by
 refine F.ok C3 0#e 0#b
 ·obtain ⟨p,r,q,q',m,n,rfl,_⟩:=h
  rfl
 obtain ⟨p,r,q,q',m,n,rfl,⟨a,b,hp,hq,za,zb⟩,⟨c,d,hr',hq',zc,zd⟩,hn,k⟩:=h
 have l1:=hq.lt_iff hq'
 have l2:=hq'.lt_iff hq
 refine bG ⟨_,(aq (aK 2 C3.nd (aI aQ 0#I 0#Q)) (aq (aK 3 C3.nd (aI aQ 0#Q 0#I)) (aq (bW (bC lQ 0#s 0#E 0#J) (aH (aV (fR cZ aA))) cj) (aq (bW (bC dS 0#s 0#E 0#J) (aH (aV aA)) cj) (aH (aV aA)))))),?_⟩
 rw?
 refine gT (bV za zd 0#d) ?_
 rw?
 refine gT (bV zc zb 0#d) ?_
 rw?
 refine cD 0#C 0#C
 ·have c':=jw c1
  rw?
  have x1:=l1.mp c'
  exact k _ ⟨λz=>absurd z 0#i,λz=>by grind⟩ ⟨λ_=>x1,λ_=>by decide⟩
 ·have c':=gY (gQ.mpr c1)
  rw?
  refine cD (λc2=>?_) (λc2=>?_)
  ·have c'':=jw c2
   rw?
   have x1:=l2.mp c''
   exact k _ ⟨λ_=>x1,λ_=>by decide⟩ ⟨λz=>absurd z 0#i,λz=>by grind⟩
  ·have c'':=gY (gQ.mpr c2)
   rw?
   exact k _ ⟨λz=>absurd z 0#i,λz=>absurd (l2.mpr z) c''⟩ ⟨λz=>absurd z 0#i,λz=>absurd (l1.mpr z) c'⟩
theorem XQ:aE ["one"] ["one"] (ah Nb):=0#a
theorem C1:aE ["one","mid","last"] ["one","mid","last"] (ah o5):=0#a
theorem Cu (F:cR K "loose_stand" "loose_stand" o5 f fd) (aS:Dn P w K mg base 1 "loose_minus" ["one","other"] (iH (·-·) 1)) (cC:Dn P w K mg base 3 "loose_along" ["steep","sample","moment"] pO) (gR:Dn P w K mg base 3 "loose_slope" ["one","other"] xD) :
 bf P w K mg base cY 4 f fd ["one","mid","last"] De:=by
 refine F.ok C1 0#e 0#b
 ·obtain ⟨p1,p2,p3,t1,t2,t3,q1,q2,q3,n,rfl,_⟩:=h
  rfl
 obtain ⟨p1,p2,p3,t1,t2,t3,q1,q2,q3,n,rfl,h1,h2,h3,ht,hn,k⟩:=h
 obtain ⟨v2,e2,f2,z2⟩:=id h2
 refine bG ⟨_,(aH (aV (bY aS hr 0#Q (Jd.c3 cC hr (bY gR hr 0#j 0#s) 0#j 0#Q)))),?_⟩
 rw?
 refine ⟨p1,p3,t1,t3,q1,q3,n,rfl,h1,h3,by try?,hn,λx H1 s1 e1=>?_⟩
 have e21:=s1 _ _ e2
 rw?
 refine ⟨x,p1,_,q1,t1,t2,_,n,rfl,e1,h1.up s1,z2,by try?,by try?,λy H2 s2 e22=>?_⟩
 rw?
 refine ⟨v2,y,q2,_,n,_,rfl,(f2.up (s1.trans s2)).qt,e22,by try?,λz H3 s3 e3=>?_⟩
 refine k z H3 (s1.trans (s2.trans s3)) ?_
 have hne:(t1:Rat)≠(t3:Rat):=λz=>by
  have:=KY.mp z
  try?
 have e:q1+(q3-q1)/((t3-t1:Int):Rat)*((t2-t1:Int):Rat)=c6 t1 q1 t2 t3 q3:=by
  rw [oh,oh]
  exact zW hne
 rw [e] at e3
 exact e3.mono 0#d
end
inductive Ij (vs:List V) (H:Hp) (Q:VK) (E_:XK):Prop where
 | mk (p:av) (q:Rat) (n:Nat):vs=[.ref p]→dz H p q n→(∀(r:av) (H':Hp),au H H'→dz H' r (dO q) n→Q (.ref r) H')→Ij vs H Q E_
theorem CI {zs:List Int} (P:Int→Prop) (hz:∀z∈zs,P z) (h0:0≤i) (h1:i<(zs.length:Int)):∃v:Int,qV (zs.map V.int) i=some (.int v)∧P v:=by
 have hk:i.toNat<zs.length:=by try?
 exact ⟨zs[i.toNat],bQ (mC hk) 0#d,hz _ (FI hk)⟩
theorem dm {xs zs:List Int} (hlen:xs.length=zs.length) (hxs:∀(j:Nat) (x z:Int),xs[j]?=some x→zs[j]?=some z→0≤x∧x<z) (j:Nat)  (ez:zs[j]?=some z):∃x,xs[j]?=some x∧0≤x∧x<z:=by
 have hj:=(lS.mp ez).1
 rw [← hlen] at hj
 exact ⟨xs[j],mC hj,hxs j _ z (mC hj) ez⟩
theorem Xj (h:VW T B t b) (hB:B≠0):Fr t b ((T:Rat)/(B:Rat)):=by
 refine Fr.Mw h hB ?_
 have:=cI hB
 grind
theorem ady (f:dz H p q n) (hn:n≤8000) (k:∀H',au H H'→Q (.bl true) H'):XY ([.ref p]++[]) H Q E0:=by
 obtain ⟨t,b,e,f,zt,zb⟩:=f
 refine ⟨p,t,b,rfl,e,zb.mono hn,λr H' s hr=>?_⟩
 obtain rfl:r=true:=hr.mpr ⟨f.pos,f.co⟩
 exact k H' s
theorem jq (h:H p=some (.tup [x,y])) (q:R ((σ.set i (some x)).set j (some y)) H):PR K 2 (qW (iU i) (qW (iU j) PN)) 1#a σ H R:=
 ⟨p,_,rfl,qb.of h,rfl,x,_,rfl,y,_,rfl,rfl,q⟩
abbrev En:=av×Int×Option Rat
def mW (H:Hp) (x:En) (n:Nat):Prop:=Sz n x.2.1∧match x.2.2 with
 | none=>H x.1=some (.tup [.int x.2.1,.bM])
 | some q=>∃p,H x.1=some (.tup [.int x.2.1,.ref p])∧dz H p q n
theorem mW.up (f:mW H x n) (s:au H H'):mW H' x n:=by
 obtain ⟨a,m,v⟩:=x
 cases v with
 | none=>exact ⟨f.1,s _ _ f.2⟩
 | some q=>exact ⟨f.1,let ⟨p,e,g⟩:=f.2;⟨p,s _ _ e,g.up s⟩⟩
theorem mW.rm (hD:H D=some (.lst ys)) (f:mW H x n):mW (rm D H) x n:=by
 obtain ⟨a,m,v⟩:=x
 cases v with
 | none=>exact ⟨f.1,dY hD f.2⟩
 | some q=>
   obtain ⟨z,p,e,t,b,et,g⟩:=f
   exact ⟨z,p,dY hD e,t,b,dY hD et,g⟩
theorem mW.obj (f:mW H x n):∃v,H x.1=some (.tup [.int x.2.1,v])∧(decide (v=.bM)=!x.2.2.isSome)∧(v=.bM∨∃p q,v=.ref p∧x.2.2=some q∧dz H p q n):=by
 obtain ⟨a,m,v⟩:=x
 cases v with
 | none=>exact ⟨.bM,f.2,rfl,.inl rfl⟩
 | some q=>
   obtain ⟨z,p,e,g⟩:=f
   exact ⟨.ref p,e,rfl,.inr ⟨p,q,rfl,rfl,g⟩⟩
def Row (H:Hp) (es:List En) (n:Nat):Prop:=∀x∈es,mW H x n
theorem Row.up (h:Row H es n) (s:au H H'):Row H' es n:=λx hx=>(h x hx).up s
theorem Row.rm (hD:H D=some (.lst ys)) (h:Row H es n):Row (rm D H) es n:=λx hx=>(h x hx).rm hD
theorem Row.snoc (h:Row H es n) (hx:mW H x n):Row H (es++[x]) n:=λy hy=>by
 rcases dg.mp hy with z | z
 ·exact h y z
 ·obtain rfl:y=x:=by simpa using z
  exact hx
def vals (es:List En):List V:=es.map λx=>V.ref x.1
theorem gI {i:Nat} (h:(vals es)[i]?=some v):∃x,es[i]?=some x∧v=.ref x.1:=by
 unfold vals at h
 rw [dw] at h
 cases e:es[i]? with
 | none=>rw [e] at h;cases h
 | some x=>rw [e] at h;cases h;exact ⟨x,rfl,rfl⟩
theorem xP {i:Nat} (h:es[i]?=some x):(vals es)[i]?=some (.ref x.1):=by
 unfold vals
 rw [dw,h]
 rfl
theorem aN (es:List En):(vals es).length=es.length:=gV ..
theorem fu (es:List En) (x:En):vals es++[.ref x.1]=vals (es++[x]):=by simp [vals]
def dat (v:Int×Option Rat):tX:=.tuple [.int v.1,match v.2 with | none=>.none | some q=>.tuple [.int q.num,.int (q.den:Int)]]
theorem mW.den (f:mW H x n):Den H (.ref x.1) (dat x.2):=by
 obtain ⟨a,m,v⟩:=x
 cases v with
 | none=>exact .tup f.2 (.cons (.int _) (.cons .bM .nil))
 | some q=>
   obtain ⟨z,p,e,t,b,et,g,_⟩:=f
   obtain ⟨rfl,rfl⟩:=g.Bq
   exact .tup e (.cons (.int _) (.cons (.tup et (.cons (.int _) (.cons (.int _) .nil))) .nil))
theorem Row.acR:∀{es:List En} {n:Nat},Row H es n→rS H (vals es) (es.map λx=>dat x.2)
 | [],_,_=>.nil
 | x::es,n,h=>.cons (h x Ae).den (Row.acR λy hy=>h y (DP _ hy))
theorem Wr (v:Int×Option Rat):DL (dat v) (dat v)=true:=by
 obtain ⟨m,v⟩:=v
 cases v with
 | none=>
   show (m==m&&(true&&true))=true
   simp
 | some q=>
   show (m==m&&((q.num==q.num&&((q.den:Int)==(q.den:Int)&&true))&&true))=true
   simp
theorem Jc:∀vs:List (Int×Option Rat),aai (vs.map dat) (vs.map dat)=true
 | []=>rfl
 | v::vs=>by
   show (DL (dat v) (dat v)&&aai (vs.map dat) (vs.map dat))=true
   rw [Wr,Jc vs];rfl
theorem PJ:∀v:Int×Option Rat,(dat v).canLay0=true∧(dat v).depth≤3:=by
 intro ⟨m,v⟩
 cases v with
 | none=>exact ⟨by rfl,by show _≤_;simp [dat,aar,KZ]⟩
 | some q=>exact ⟨by rfl,by show _≤_;simp [dat,aar,KZ]⟩
theorem BV:∀vs:List (Int×Option Rat),ZF (vs.map dat)=true∧KZ (vs.map dat)≤3
 | []=>⟨rfl,by decide⟩
 | v::vs=>by
   obtain ⟨a,b⟩:=PJ v
   obtain ⟨c,d⟩:=BV vs
   refine ⟨?_,?_⟩
   ·show ((dat v).canLay0&&ZF (vs.map dat))=true
    rw [a,c];rfl
   ·show max (dat v).depth (KZ (vs.map dat))≤3
    try?
theorem CT (vs:List (Int×Option Rat)):FO (.list (vs.map dat))=true:=by
 obtain ⟨a,b⟩:=BV vs
 unfold FO
 rw [Ai]
 refine ⟨a,jb ?_⟩
 show KZ (vs.map dat)+1≤64
 try?
theorem Row.JP (h:Row H es n) (hl:H l=some 0#A):Den H 0#U (.list ((es.map (·.2)).map dat)):=by
 have:=h.acR
 rw [show (es.map λx=>dat x.2)=(es.map (·.2)).map dat by rw [pT];rfl] at this
 exact .lst hl this
theorem XJ (h:Row H es n) (h':Row H es' n') (hl:H l=some 0#A) (hl':H l'=some (.lst (vals es'))) (e:es.map (·.2)=es'.map (·.2)) (q:Q (.bl false) H) :
 adS 0#U (.ref l') H Q:=by
 refine ⟨_,_,h.JP hl,h'.JP hl',CT _,CT _,?_⟩
 rw [e]
 have:DL (.list ((es'.map (·.2)).map dat)) (.list ((es'.map (·.2)).map dat))=true:=Jc _
 rw [this]
 exact q
theorem Row.app (f:Row H es n) (h:H R=some (.lst ys)):Row (upd H R o) es n:=(f.rm h).up (uS R H o)
theorem Xa (h:H L=some o') (ne:L≠R):upd H R o L=some o':=by
 rw [aM ne];exact h
def rising (es:List En):Prop:=es.Pairwise λa b=>a.2.1<b.2.1
theorem Jh (hB:0<B) (zT:Sz n T) (zB:Sz n B) (hn:n≤8000) (kk:∀(p:av) (H':Hp),au H H'→dz H' p ((T:Rat)/(B:Rat)) n→Q 1#a H'):uB ([.int T,.int B]++[]) H Q E0:=
 ⟨_,_,rfl,hB,zB.mono hn,λp t b H' s e lo=>kk p H' s ⟨t,b,e,Xj lo 0#d,zT.of_le lo.tb,zB.of_le lo.bb⟩⟩
def c8 (x:En):Bool:=x.2.2.isSome
abbrev Ls:=List (av×List En)
def lrefs (ls:Ls):List V:=ls.map λx=>V.ref x.1
theorem pK {i:Nat} (h:(lrefs ls)[i]?=some v):∃x,ls[i]?=some x∧v=.ref x.1:=by
 unfold lrefs at h
 rw [dw] at h
 cases e:ls[i]? with
 | none=>rw [e] at h;cases h
 | some x=>rw [e] at h;cases h;exact ⟨x,rfl,rfl⟩
theorem d9 (ls:Ls):(lrefs ls).length=ls.length:=gV ..
structure LL (H H2:Hp) (T:av) (ls:Ls):Prop where
 new:H T=none
 at_:H2 T=some (.lst (lrefs ls))
 each:∀x∈ls,H x.1=none∧H2 x.1=some (.lst (vals x.2))∧x.1≠T
 nd:(ls.map (·.1)).Nodup
section
theorem LL.up (h:LL H H2 T ls) (s:au H2 H3):LL H H3 T ls:=⟨h.new,s _ _ h.at_,λx hx=>let ⟨a,b,c⟩:=h.each x hx;⟨a,s _ _ b,c⟩,h.nd⟩
theorem LL.other (h:LL H H2 T ls) (hT:R≠T) (hl:∀x∈ls,x.1≠R):LL H (upd H2 R o) T ls:=
 ⟨h.new,by rw [aM (jA hT)];exact h.at_,λx hx=>let ⟨a,b,c⟩:=h.each x hx;⟨a,by rw [aM (hl x hx)];exact b,c⟩,h.nd⟩
theorem LL.push (h:LL H H2 T ls) (hR:H R=none) (eR:H2 R=some (.lst (vals rn))) (hT:R≠T) (hl:∀x∈ls,x.1≠R):LL H (upd H2 T (.lst (lrefs ls++[.ref R]))) T (ls++[(R,rn)]):=by
 refine ⟨h.new,by rw [aB];simp [lrefs],λx hx=>?_,?_⟩
 ·rcases dg.mp hx with z | z
  ·obtain ⟨a,b,c⟩:=h.each x z
   exact ⟨a,by rw [aM c];exact b,c⟩
  ·obtain rfl:x=(R,rn):=by simpa using z
   exact ⟨hR,by rw [aM hT];exact eR,hT⟩
 ·rw [iI]
  refine O3.mpr ⟨h.nd,by simp,λa ha b hb=>?_⟩
  obtain ⟨x,hx,rfl⟩:=gD.mp ha
  obtain rfl:b=R:=by simpa using hb
  exact hl x hx
end
theorem Wg:qV (xs++[x]) (-1)=some x:=by
 unfold qV
 rw [qu (m:=xs.length) 0#f]
 simp
inductive Dp (vs:List V) (H:Hp) (Q:VK) (E_:XK):Prop where
 | mk (l:av) (es:List En) (n:Nat):vs=[.ref l]→H l=some 0#A→Row H es n→es.length≤40→(∀(T:av) (ls:Ls) (H':Hp),au H H'→LL H H' T ls→ls.map (·.2)=parts c8 es es.length→ls.length≤40→(∀x∈ls,x.2.length≤40)→Q (.ref T) H')→Dp vs H Q E_
section
theorem xw:aE ["row","told","run","entry"] ["row"] (ah Na):=0#a
theorem Xo (F:cR K "runs" "runs" Na f fd) (T:Txt mg):bf P w K mg base cY 1 f fd ["row"] Dp:=by
 refine F.ok xw 0#e 0#b
 ·obtain ⟨l,es,n,rfl,_⟩:=h
  rfl
 obtain ⟨l,es,n,rfl,hl,hes,hn,k⟩:=h
 refine bG ⟨_,(aq (aK 1 xw.nd (dI dX)) (aq (aK 2 xw.nd (dI dX)) (aq (c7 fQ rfl (dB K 0#j) (bX (i:=3) xw.nd rfl 0#k) (aH (bW (bC jI (aJ K 0#E) dN 0#J) (aH (eO (gM K 0#s 0#E) (hs:=eF))) (aH (bW (bC dS (eY K T.eU 0#s) aA 0#J) (aq (eO (gM K 0#p 0#s) (hs:=eF)) (aH (aK 2 xw.nd (dI dX)))) cj))))) (aq (bW (bC dS (eY K T.eU 0#s) aA 0#J) (aH (eO (gM K 0#p 0#s) (hs:=eF))) cj) (aH (aV 0#p)))))),?_⟩
 rw?
 refine aF (mk:=.lst) 0#f λTT H1 s1 n1 e1=>?_
 rw?
 refine aF (mk:=.lst) 0#f λR0 H2 s2 n2 e2=>?_
 rw?
 refine dJ (iD ?_)
 rw?
 have fW:=s1.trans s2
 refine ⟨l,rfl,⟨_,aX.of (fW _ _ hl)⟩,eK (xs:=vals es) (λi σ H3=>Rv λ(R:av) (ls:Ls) (rn:List En) (v:Option V)=>σ=[some 0#U,some (.ref TT),some (.ref R),v]∧au H H3∧LL H H3 TT ls∧H R=none∧H3 R=some (.lst (vals rn))∧R≠TT∧(∀x∈ls,x.1≠R) ∧
  (bU c8 es i=true→parts c8 es i=ls.map (·.2)++[rn]∧rn≠[])∧(bU c8 es i=false→parts c8 es i=ls.map (·.2)∧rn=[])∧rn.length≤i∧ls.length≤i∧(∀x∈ls,x.2.length≤40)) ?_ ?_ ?_ ?_⟩
 ·refine ⟨R0,[],[],none,rfl,fW,⟨n1,s2 _ _ e1,λx hx=>absurd hx 0#f,List.nodup_nil⟩,s1.free n2,e2,λz=>?_,λx hx=>absurd hx 0#f,λz=>absurd z (by simp [bU]),λ_=>⟨rfl,rfl⟩,dG _,dG _,λx hx=>absurd hx 0#f⟩
  rw [z] at n2
  rw [e1] at n2
  cases n2
 ·rintro i σ H3 _ ⟨R,ls,rn,v,rfl,s3,_⟩
  exact aX.of (s3 _ _ hl)
 ·rintro i x σ H3 hx ⟨R,ls,rn,v,rfl,s3,hL,hR,eR,nR,hne,hp1,hp2,lr,ll,lx⟩
  obtain ⟨e,he,rfl⟩:=gI hx
  have hi:i<es.length:=(lS.mp he).1
  obtain ⟨u,ee,du,_⟩:=((hes e (lP he)).up s3).obj
  have hsu:bU c8 es (i+1)=c8 e:=fN he
  rw?
  refine 0#M
  rw?
  rw [du]
  cases hs:e.2.2.isSome with
  | true=>
    have hs':c8 e=true:=hs
    refine cB ?_
    rw?
    refine ⟨.inl ⟨rfl,_,aX.of eR⟩,?_⟩
    rw?
    refine cJ eR (by rw [aN];exact aO 0#d) ?_
    refine ⟨R,ls,rn++[e],_,rfl,aZ s3 hR,hL.other nR (λx hx=>hne x hx),hR,by rw [aB,fu],nR,hne,λ_=>?_,λz=>absurd (hsu.symm.trans z) (by rw [hs'];decide),by rw [fj];exact xS lr,by try?,lx⟩
    refine ⟨?_,by simp⟩
    cases Cc:bU c8 es i with
    | true=>exact m9 he hs' Cc (hp1 Cc).1
    | false=>
      obtain ⟨a,rfl⟩:=hp2 Cc
      rw [jn he hs' Cc,a]
      rfl
  | false=>
    have hs':c8 e=false:=hs
    refine bI ?_
    rw?
    refine cy (.inl (aX.of eR)) ?_
    rw?
    refine cD 0#y 0#y
    ·have c':=jw c
     rw [aN] at c'
     have Cc:bU c8 es i=true:=by
      cases Cc:bU c8 es i with
      | true=>rfl
      | false=>
        obtain ⟨_,rfl⟩:=hp2 Cc
        simp at c'
     rw?
     refine ⟨.inl ⟨rfl,_,aX.of hL.at_⟩,?_⟩
     rw?
     refine cJ hL.at_ (by rw [d9];exact aO 0#d) ?_
     rw?
     have hL2:=hL.push hR eR nR hne
     refine aF (mk:=.lst) 0#f λR2 H4 s4 n4 e4=>?_
     have sH:au H H4:=(aZ s3 hL.new).trans s4
     rw?
     refine ⟨R2,ls++[(R,rn)],[],_,rfl,sH,hL2.up s4,(aZ s3 hL.new).free n4,e4,λz=>?_,λx hx z=>?_,λz=>absurd (hsu.symm.trans z) (by rw [hs'];decide),λ_=>⟨?_,rfl⟩,mD _,by rw [fj];exact xS ll,λx hx=>?_⟩
     ·rw [z,hL2.at_] at n4
      cases n4
     ·rw [← z,(hL2.each x hx).2.1] at n4
      cases n4
     ·rw [jm he hs',(hp1 Cc).1,iI]
      rfl
     ·rcases dg.mp hx with z | z
      ·exact lx x z
      ·obtain rfl:x=(R,rn):=by simpa using z
       show rn.length≤40
       try?
    ·have c':=gY (gQ.mpr c)
     rw [aN] at c'
     have Cc:bU c8 es i=false:=by
      cases Cc:bU c8 es i with
      | false=>rfl
      | true=>
        have:=Ld.mpr (hp1 Cc).2
        try?
     obtain ⟨a,rfl⟩:=hp2 Cc
     rw?
     exact ⟨R,ls,[],_,rfl,s3,hL,hR,eR,nR,hne,λz=>absurd (hsu.symm.trans z) (by rw [hs'];decide),λ_=>⟨by rw [jm he hs',a],rfl⟩,mD _,by try?,lx⟩
 ·rintro σ H3 ⟨R,ls,rn,v,rfl,s3,hL,hR,eR,nR,hne,hp1,hp2,lr,ll,lx⟩
  rw [aN] at hp1 hp2 lr ll
  rw?
  refine cy (.inl (aX.of eR)) ?_
  rw?
  refine cD 0#y 0#y
  ·have c':=jw c
   rw [aN] at c'
   have Cc:bU c8 es es.length=true:=by
    cases Cc:bU c8 es es.length with
    | true=>rfl
    | false=>
      obtain ⟨_,rfl⟩:=hp2 Cc
      simp at c'
   have hlen:(ls++[(R,rn)]).length≤40:=by
    have e:=uu (s:=c8) (es:=es) es.length
    rw [(hp1 Cc).1,fj,gV] at e
    rw [fj]
    simp at e ⊢
    try?
   rw?
   refine ⟨.inl ⟨rfl,_,aX.of hL.at_⟩,?_⟩
   rw?
   refine cJ hL.at_ (by rw [d9];exact aO 0#d) ?_
   rw?
   refine k TT (ls++[(R,rn)]) _ (aZ s3 hL.new) (hL.push hR eR nR hne) ?_ hlen λx hx=>?_
   ·rw [(hp1 Cc).1,iI]
    rfl
   ·rcases dg.mp hx with z | z
    ·exact lx x z
    ·obtain rfl:x=(R,rn):=by simpa using z
     show rn.length≤40
     try?
  ·have c':=gY (gQ.mpr c)
   rw [aN] at c'
   have Cc:bU c8 es es.length=false:=by
    cases Cc:bU c8 es es.length with
    | false=>rfl
    | true=>
      have:=Ld.mpr (hp1 Cc).2
      try?
   rw?
   exact k TT ls H3 s3 hL (hp2 Cc).1.symm 0#d lx
end
abbrev Nn:=av×Int×Option Int
def nnv:Option Int→V
 | none=>.bM
 | some n=>.int n
def BN (H:Hp) (x:Nn) (m n:Nat):Prop:=H x.1=some (.tup [.int x.2.1,nnv x.2.2])∧Sz m x.2.1∧∀z,x.2.2=some z→Sz n z
theorem BN.up (f:BN H x m n) (s:au H H'):BN H' x m n:=⟨s _ _ f.1,f.2⟩
theorem BN.rm (hD:H D=some (.lst ys)) (f:BN H x m n):BN (rm D H) x m n:=⟨dY hD f.1,f.2⟩
def iB (H:Hp) (es:List Nn) (m n:Nat):Prop:=∀x∈es,BN H x m n
theorem iB.up (h:iB H es m n) (s:au H H'):iB H' es m n:=λx hx=>(h x hx).up s
theorem iB.app (f:iB H es m n) (h:H R=some (.lst ys)):iB (upd H R o) es m n:=λx hx=>((f x hx).rm h).up (uS R H o)
theorem iB.snoc (h:iB H es m n) (hx:BN H x m n):iB H (es++[x]) m n:=λy hy=>by
 rcases dg.mp hy with z | z
 ·exact h y z
 ·obtain rfl:y=x:=by simpa using z
  exact hx
def bE (es:List Nn):List V:=es.map λx=>V.ref x.1
theorem bh (es:List Nn):(bE es).length=es.length:=gV ..
theorem iw (es:List Nn) (x:Nn):bE es++[.ref x.1]=bE (es++[x]):=by simp [bE]
theorem pL {i:Nat} (h:(bE es)[i]?=some v):∃x,es[i]?=some x∧v=.ref x.1:=by
 unfold bE at h
 rw [dw] at h
 cases e:es[i]? with
 | none=>rw [e] at h;cases h
 | some x=>rw [e] at h;cases h;exact ⟨x,rfl,rfl⟩
def fV (es:List Nn):Prop:=es.Pairwise λa b=>a.2.1<b.2.1
structure Shp (xs:List Int) (c:Nat):Prop where
 x0:xs[0]?=some (c:Int)
 x1:∃x,xs[1]?=some x∧0≤x∧x<4
 x4:∃x,xs[4]?=some x∧0≤x∧x<3
 x5:∃x,xs[5]?=some x∧0≤x∧x<4
 x12:∃x,xs[12]?=some x∧0≤x∧x<3
 each:∀k,k<c→∃x y z,xs[3*k+13]?=some x∧xs[3*k+14]?=some y∧xs[3*k+15]?=some z∧0≤x∧x<3∧0≤y∧y<9∧0≤z∧z<25
inductive Dq (vs:List V) (H:Hp) (Q:VK) (E_:XK):Prop where
 | mk (lw tl:av) (xs:List Int) (c:Nat) (sc t0 t1:Int):vs=[.ref lw,.int sc,.ref tl]→H lw=some (.lst (xs.map V.int))→Shp xs c→c≤40→H tl=some (.tup [.int t0,.int t1])→Sz 45 sc→Sz 45 t0→Sz 45 t1→(∀(R:av) (es:List Nn) (H':Hp),au H H'→H R=none→H' R=some (.lst (bE es))→iB H' es 45 100→es.length=c→fV es→Q (.ref R) H')→Dq vs H Q E_
section
theorem bT:aE ["_law_some","_law_scale","_law_tilt","_law_moment_here","_law_up","_law_rise","_law_row_here","_law_k","_law_at","_law_high","_law_lean"] ["_law_some","_law_scale","_law_tilt"] (ah qK):=0#a
theorem Em (F:cR K "_law_shaped" "_law_shaped" qK f fd) (T:Txt mg):bf P w K mg base cY 1 f fd ["_law_some","_law_scale","_law_tilt"] Dq:=by
 refine F.ok bT 0#e 0#b
 ·obtain ⟨lw,tl,xs,c,sc,t0,t1,rfl,_⟩:=h
  rfl
 obtain ⟨lw,tl,xs,c,sc,t0,t1,rfl,e0,S,hc,et,zsc,zt0,zt1,k⟩:=h
 obtain ⟨x1,g1,a1,b1⟩:=S.x1
 obtain ⟨x4,g4,a4,b4⟩:=S.x4
 obtain ⟨x5,g5,a5,b5⟩:=S.x5
 obtain ⟨x12,g12,a12,b12⟩:=S.x12
 have w:∀{H':Hp},au H H'→H' lw=some (.lst (xs.map V.int)):=λs=>s _ _ e0
 refine bG ⟨_,(aq (aK 3 bT.nd (bB 0#Z (dI (Jd.a4 (fR cZ aA) (fR cZ aA) aA (fR cZ (aI qA aA aA)))) (Jd.iL K 0#j) 0#h)) (aq (aK 4 bT.nd aA) (aq (aK 5 bT.nd aA) (aq (aK 6 bT.nd (dI dX)) (aq (c7 fQ rfl (uQ rfl T.range (dD (Jd.iL K 0#j))) (bX (i:=7) bT.nd rfl 0#k) (aq (aK 8 bT.nd (aI aW (aI aQ aA (aa 7)) aA)) (aq (aK 3 bT.nd (aI aW (aI aW 0#E aA) (aI aQ (bB 0#Z 0#j (aa 8) 0#h) (bB 0#Z (dI (Jd.a3 aA aA aA)) (Jd.iL K 0#j) 0#h)))) (aq (aK 9 bT.nd (aI bL (bB 0#Z 0#j (aI aW (aa 8) aA) 0#h) aA)) (aq (bW (bC dF (Jd.iL K 0#j) aA 0#J) (aH (aK 4 bT.nd (aa 9))) cj) (aq (bW (bC dF (Jd.iL K 0#j) aA 0#J) (aq (aK 5 bT.nd (aI bL (aI aW (aa 5) (aI iN (aa 9) aA)) aA)) (aH (aK 4 bT.nd (aI aW 0#X (aa 5))))) cj) (aq (bW (bC dF (Jd.iL K 0#j) aA 0#J) (aH (aK 4 bT.nd (aI aW 0#X (aa 9)))) cj) (aq (bW (bC dF (Jd.iL K 0#j) aA 0#J) (aH (aK 4 bT.nd (aI iN (aa 9) aA))) cj) (aH (bW (bC lQ (bB 0#Z 0#j (aI aW (aa 8) aA) 0#h) (bB 0#Z (dI (Jd.a3 aA aA aA)) (Jd.iL K 0#j) 0#h) 0#J) (aH (eO (gM K (aa 6) (bJ (bq 0#E dN))) (hs:=eF))) (aq (aK 10 bT.nd (aI aW (aI aQ (aJ K 0#s) 0#E) (aJ K 0#s))) (aH (eO (gM K (aa 6) (bJ (bq 0#E (aI aW (aI aQ 0#X 0#p) (aa 10))))) (hs:=eF)))))))))))))) (aH (aV (aa 6)))))))),?_⟩
 rw?
 refine aF (mk:=.lst) 0#f λl1 H1 s1 n1 e1=>?_
 rw?
 refine cK (w s1) (bQ g1 rfl) ?_
 obtain ⟨mo,emo,zmo⟩:=CI (zs:=[-1,-5,1000003,-(10 ^ (12:Int).toNat)]) (λz=>z.natAbs≤10 ^ 12) 0#g a1 b1
 refine cK e1 emo ?_
 rw?
 refine aF (mk:=.lst) 0#f λR H2 s2 n2 e2=>?_
 have fW:=s1.trans s2
 rw?
 refine dJ (qD ?_)
 rw?
 refine cK (w fW) (bQ S.x0 rfl) ?_
 rw?
 refine ⟨c,rfl,by lia,by lia,cA (λj σ H3=>Xs8 λ(m up rise:Int) (es:List Nn) (v7 v8 v9 v10:Option V)=>σ=[some (.ref lw),some (.int sc),some (.ref tl),some (.int m),some (.int up),some (.int rise),some (.ref R),v7,v8,v9,v10] ∧
  au H1 H3∧H3 R=some (.lst (bE es))∧iB H3 es 45 100∧es.length=j∧m.natAbs≤10 ^ 12+3000*j∧rise.natAbs≤3*j∧up.natAbs≤130*j+12∧fV es∧∀x∈es,x.2.1≤m) ?_ ?_ ?_⟩
 ·exact ⟨mo,0,0,[],none,none,none,none,rfl,s2,e2,λx hx=>absurd hx 0#f,rfl,by simpa using zmo,by decide,by decide,List.Pairwise.nil,λx hx=>absurd hx 0#f⟩
 ·rintro j σ H3 hj ⟨m,up,rise,es,v7,v8,v9,v10,rfl,s3,e3,hes,hl,hm,dH,hup,hrs,hle⟩
  refine cE λMM Bk RR hMM _ _=>?_
  have hj':j<c:=by simpa using hj
  obtain ⟨x,y,z,gx,gy,gz,ax,bx,ay,by',az,bz⟩:=S.each j hj'
  have xo:=s1.trans s3
  have w3:=w xo
  rw?
  refine cK w3 (bQ gx 0#d) ?_
  rw?
  refine aF (mk:=.lst) 0#f λl4 H4 s4 n4 e4=>?_
  rw?
  refine cK (s4 _ _ w3) (bQ g4 rfl) ?_
  obtain ⟨wd,ewd,zwd⟩:=CI (zs:=[1,1,1009]) (λz=>1≤z∧z≤1009) 0#g a4 b4
  refine cK e4 ewd ?_
  rw?
  refine gT (mulL 0#d 0#d) ?_
  have p5:0≤x*wd:=pB ax 0#d
  have q5:x*wd≤2*1009:=DC 0#d zwd.2 0#d 0#d
  generalize x*wd=st at p5 q5 ⊢
  have ten:(10:Nat) ^ 12+3000*41<2 ^ 44:=by decide +kernel
  have bm:(m+1+st).natAbs≤10 ^ 12+3000*(j+1):=by
   rw [aaj]
   exact nab hm (af8 p5 q5) (by lia)
  have zm:Sz 44 (m+1+st):=EC bm (by lia)
  have w4:=s4 _ _ w3
  rw?
  refine cK w4 (bQ gz 0#d) ?_
  have agK:j<40:=by try?
  have QK:=s3.trans s4
    -- the row's next entry
  have fin:∀(u:Nn) (H5:Hp) (up' Ab:Int) (v7 v8 v9 v10:Option V),u.2.1=m+1+st→au H4 H5→BN H5 u 45 100→Ab.natAbs≤3*(j+1)→up'.natAbs≤130*(j+1)+12→MM [some (.ref lw),some (.int sc),some (.ref tl),some (.int (m+1+st)),some (.int up'),some (.int Ab),some (.ref R),v7,v8,v9,v10] (upd H5 R (.lst (bE es++[.ref u.1]))):=by
   intro u H5 up' Ab v7 v8 v9 v10 hu s5 f5 h1 h2
   have M5:=s4.trans s5
   have eR:=M5 _ _ e3
   refine hMM _ _ ⟨m+1+st,up',Ab,es++[u],v7,v8,v9,v10,rfl,aZ (s3.trans M5) n2,by rw [aB,iw],((hes.up M5).snoc f5).app eR,by rw [fj,hl];rfl,bm,h1,h2,?_,λy hy=>?_⟩
   ·refine FA.mpr ⟨hrs,KC _ _,λy hy z hz=>?_⟩
    obtain rfl:z=u:=by simpa using hz
    have:=hle y hy
    try?
   ·rcases dg.mp hy with z | z
    ·have:=hle y z
     try?
    ·obtain rfl:y=u:=by simpa using z
     try?
  obtain ⟨th,eth,zth⟩:=CI (zs:=[0,1,3]) (λz=>0≤z) 0#g a12 b12
  have et4:=(xo.trans s4) _ _ et
  have m5a:0≤(z-12) % 5:=Bd _ 0#i
  have m5b:(z-12) % 5<5:=zU _ 0#i
  have m3a:0≤(z-12) % 3:=Bd _ 0#i
  have m3b:(z-12) % 3<3:=zU _ 0#i
  refine r_c ?_
  refine adU ?_
  refine r_g ?_
  refine E6 ?_
  refine Kn (λσ' H'=>H'=H4∧Lq λup' Ab:Int=>σ'=[some (.ref lw),some (.int sc),some (.ref tl),some (.int (m+1+st)),some (.int up'),some (.int Ab),some (.ref R),some (.int (0+(j:Int))),some (.int (3*(0+(j:Int))+13)),some (.int (z-12)),v10]∧Ab.natAbs≤3*(j+1)∧up'.natAbs≤130*(j+1)+12) (λσ' H' hP=>?_) (λN rest=>?_)
  rotate_left
  ·rw?
   refine cK w4 (bQ g5 rfl) ?_
   rw?
   rcases (show x5=0∨x5=1∨x5=2∨x5=3 by try?) with rfl | rfl | rfl | rfl
   ·refine cB ?_
    rw?
    refine cK w4 (bQ g5 rfl) ?_
    rw?
    refine bI ?_
    rw?
    refine cK w4 (bQ g5 rfl) ?_
    rw?
    refine bI ?_
    rw?
    refine cK w4 (bQ g5 rfl) ?_
    rw?
    refine bI ?_
    rw?
    exact rest _ _ ⟨rfl,_,_,rfl,dP dH (by lia),dP (adG az bz) (by lia)⟩
   ·refine bI ?_
    rw?
    refine cK w4 (bQ g5 rfl) ?_
    rw?
    refine cB ?_
    rw?
    refine cK w4 (bQ g5 rfl) ?_
    rw?
    refine bI ?_
    rw?
    refine cK w4 (bQ g5 rfl) ?_
    rw?
    refine bI ?_
    rw?
    have r1:(rise+(z-12) % 5-1).natAbs≤3*(j+1):=by
     rw [Int.add_sub_assoc]
     exact nab dH (af7 m5a m5b) (by lia)
    exact rest _ _ ⟨rfl,_,_,rfl,r1,nab hup r1 (by lia)⟩
   ·refine bI ?_
    rw?
    refine cK w4 (bQ g5 rfl) ?_
    rw?
    refine bI ?_
    rw?
    refine cK w4 (bQ g5 rfl) ?_
    rw?
    refine cB ?_
    rw?
    refine cK w4 (bQ g5 rfl) ?_
    rw?
    refine bI ?_
    rw?
    exact rest _ _ ⟨rfl,_,_,rfl,dP dH (by lia),nab hup (adG az bz) (by lia)⟩
   ·refine bI ?_
    rw?
    refine cK w4 (bQ g5 rfl) ?_
    rw?
    refine bI ?_
    rw?
    refine cK w4 (bQ g5 rfl) ?_
    rw?
    refine bI ?_
    rw?
    refine cK w4 (bQ g5 rfl) ?_
    rw?
    refine cB ?_
    rw?
    exact rest _ _ ⟨rfl,_,_,rfl,dP dH (by lia),dP (af6 m3a m3b) (by lia)⟩
  obtain ⟨rfl,up',Ab,rfl,br,bu⟩:=hP
  rw?
  refine cK w4 (bQ gy 0#d) ?_
  rw?
  refine aF (mk:=.lst) 0#f λl6 H6 s6 n6 e6=>?_
  rw?
  refine cK (s6 _ _ w4) (bQ g12 rfl) ?_
  refine cK e6 eth ?_
  rw?
  have e36:=s6 _ _ (s4 _ _ e3)
  refine cD 0#y 0#y
  ·rw?
   refine ⟨.inl ⟨rfl,_,aX.of e36⟩,?_⟩
   rw?
   refine aF (mk:=.tup) 0#f λpe H7 s7 n7 e7=>?_
   rw?
   refine cJ (s7 _ _ e36) (by rw [bh];exact aO 0#d) ?_
   exact fin (pe,m+1+st,none) H7 _ _ _ _ _ _ rfl (s6.trans s7) ⟨e7,zm.mono 0#i,λz q=>by cases q⟩ br bu
  ·have et6:=s6 _ _ et4
   rw?
   refine gT (bV zt0 zm) ?_
   rw?
   refine ⟨.inl ⟨rfl,_,aX.of e36⟩,?_⟩
   rw?
   have zu:Sz 14 up':=show up'.natAbs<2 ^ 14 by try?
   refine gT (bV zu zsc) ?_
   rw?
   refine aF (mk:=.tup) 0#f λpe H7 s7 n7 e7=>?_
   rw?
   refine cJ (s7 _ _ e36) (by rw [bh];exact aO 0#d) ?_
   exact fin (pe,m+1+st,some _) H7 _ _ _ _ _ _ rfl (s6.trans s7) ⟨e7,zm.mono 0#i,λz q=>by
    cases q
    exact (((zu.mul zsc).mono (show 14+45≤90 by decide)).add (((zt0.mul zm).mono (show 45+44≤89 by decide)).add (zt1.mono 0#i))).mono 0#i⟩ br bu
 ·rintro σ H3 ⟨m,up,rise,es,v7,v8,v9,v10,rfl,s3,e3,hes,hl,hm,dH,hup,hrs,hle⟩
  rw?
  exact k R es H3 (s1.trans s3) (s1.free n2) e3 hes (by simpa using hl) hrs
inductive Io (vs:List V) (H:Hp) (Q:VK) (E_:XK):Prop where
 | mk (l:av) (es:List Nn) (b:Int) (n nb:Nat):vs=[.ref l,.int b]→H l=some (.lst (bE es))→iB H es 45 n→es.length≤40→Sz nb b→n+nb≤8000→(∀(R:av) (es':List Nn) (H':Hp),au H H'→H R=none→H' R=some (.lst (bE es'))→iB H' es' 45 (n+nb)→es'.map (·.2)=es.map (λx=>(x.2.1,x.2.2.map (·*b)))→Q (.ref R) H')→Io vs H Q E_
theorem mj:aE ["_law_row_here","_law_by","_law_some","_law_moment_here","_law_number"] ["_law_row_here","_law_by"] (ah sY):=0#a
theorem G8 (F:cR K "_law_times" "_law_times" sY f fd):bf P w K mg base cY 1 f fd ["_law_row_here","_law_by"] Io:=by
 refine F.ok mj 0#e 0#b
 ·obtain ⟨l,es,b,n,nb,rfl,_⟩:=h
  rfl
 obtain ⟨l,es,b,n,nb,rfl,hl,hes,jS,zb,hn,k⟩:=h
 refine bG ⟨_,(aq (aK 2 mj.nd (dI dX)) (aq (c7 fQ rfl (dB K 0#j) (Jd.Ox K (n:=2) rfl (fS (bX (i:=3) mj.nd rfl 0#k) (fS (bX (i:=4) mj.nd rfl 0#k) pH))) (aH (bW (bC qz 0#X dN 0#J) (aH (eO (gM K 0#s (bJ (bq 0#E dN))) (hs:=eF))) (aH (eO (gM K 0#s (bJ (bq 0#E (aI aQ 0#X 0#p)))) (hs:=eF)))))) (aH (aV 0#s)))),?_⟩
 rw?
 refine aF (mk:=.lst) 0#f λR H1 s1 n1 e1=>?_
 rw?
 refine dJ (iD ?_)
 rw?
 refine ⟨l,rfl,⟨_,aX.of (s1 _ _ hl)⟩,eK (xs:=bE es) (λi σ H3=>NP λ(es':List Nn) (v3 v4:Option V)=>σ=[some 0#U,some (.int b),some (.ref R),v3,v4]∧au H H3∧H3 R=some (.lst (bE es'))∧iB H3 es' 45 (n+nb)∧es'.length=i∧es'.map (·.2)=(es.take i).map (λx=>(x.2.1,x.2.2.map (·*b)))) ?_ ?_ ?_ ?_⟩
 ·exact ⟨[],none,none,rfl,s1,e1,λx hx=>absurd hx 0#f,rfl,rfl⟩
 ·rintro i σ H3 _ ⟨es',v3,v4,rfl,s3,_⟩
  exact aX.of (s3 _ _ hl)
 ·rintro i x σ H3 hx ⟨es',v3,v4,rfl,s3,e3,LY,hl',hmap⟩
  obtain ⟨e,he,rfl⟩:=pL hx
  have hi:i<es.length:=(lS.mp he).1
  have fe:=(hes e (lP he)).up s3
  have tk:es.take (i+1)=es.take i++[e]:=by rw [rF,he];rfl
  have fin:∀(y:av) (H4:Hp) (v3 v4:Option V),au H3 H4→BN H4 (y,e.2.1,e.2.2.map (·*b)) 45 (n+nb)→NP λ(Gg:List Nn) (v3' v4':Option V)=>[some 0#U,some (.int b),some (.ref R),v3,v4]=[some 0#U,some (.int b),some (.ref R),v3',v4'] ∧
   au H (upd H4 R (.lst (bE es'++[.ref y])))∧upd H4 R (.lst (bE es'++[.ref y])) R=some (.lst (bE Gg))∧iB (upd H4 R (.lst (bE es'++[.ref y]))) Gg 45 (n+nb)∧Gg.length=i+1∧Gg.map (·.2)=(es.take (i+1)).map (λx=>(x.2.1,x.2.2.map (·*b))):=by
   intro y H4 v3 v4 s4 f4
   have e4:=s4 _ _ e3
   refine ⟨es'++[(y,e.2.1,e.2.2.map (·*b))],v3,v4,rfl,aZ 0#S n1,by rw [aB];exact congrArg (λz=>some (HO.lst z)) (iw es' (y,e.2.1,e.2.2.map (·*b))),((LY.up s4).snoc f4).app e4,by rw [fj,hl'];rfl,?_⟩
   rw [tk,iI,iI,hmap]
   rfl
  obtain ⟨a,m,v⟩:=e
  cases v with
  | none=>
    refine jq fe.1 ?_
    rw?
    refine 0#M
    rw?
    refine cB ?_
    rw?
    refine ⟨.inl ⟨rfl,_,aX.of e3⟩,?_⟩
    rw?
    refine aF (mk:=.tup) 0#f λy H4 s4 n4 e4=>?_
    rw?
    refine cJ (s4 _ _ e3) (by rw [bh];exact aO 0#d) ?_
    exact fin y H4 _ _ s4 ⟨e4,fe.2.1,λz q=>by cases q⟩
  | some z=>
    have zz:=fe.2.2 z rfl
    refine jq fe.1 ?_
    rw?
    refine 0#M
    rw?
    refine bI ?_
    rw?
    refine ⟨.inl ⟨rfl,_,aX.of e3⟩,?_⟩
    rw?
    refine gT (bV zz zb 0#d) ?_
    rw?
    refine aF (mk:=.tup) 0#f λy H4 s4 n4 e4=>?_
    rw?
    refine cJ (s4 _ _ e3) (by rw [bh];exact aO 0#d) ?_
    exact fin y H4 _ _ s4 ⟨e4,fe.2.1,λz' q=>by
     cases q
     exact zz.mul zb⟩
 ·rintro σ H3 ⟨es',v3,v4,rfl,s3,e3,LY,hl',hmap⟩
  rw [bh,jR] at hmap
  rw?
  exact k R es' H3 s3 n1 e3 LY hmap
end
def rC (x:Nn):Bool:=x.2.2.isSome
theorem Qp {i:Nat} (h:es[i]?=some x):(bE es)[i]?=some (.ref x.1):=by
 unfold bE
 rw [dw,h]
 rfl
theorem di {i:Nat} (h:es[i]?=some x) (hj:j=(i:Int)):qV (bE es) j=some (.ref x.1):=by
 subst hj
 exact gW (Qp h)
theorem IV (h0:0≤i) (h1:i<(es.length:Int)):∃x,x∈es∧es[i.toNat]?=some x∧qV (bE es) i=some (.ref x.1):=by
 have hk:i.toNat<es.length:=by try?
 exact ⟨es[i.toNat],FI hk,mC hk,di (mC hk) 0#d⟩
theorem Cm (h:es'.map (λx=>x.2.1)=es.map (λx=>x.2.1)) (hr:fV es):fV es':=by
 have k:(es.map λx=>x.2.1).Pairwise (·<·):=O4.mpr hr
 rw [← h] at k
 exact O4.mp k
theorem Co (h:rC x=true):∃z,x.2.2=some z:=OL.mp h
def RV (m:Nat):List Int:=[(m:Int)+1,4,5,12,3,4,7,3,40,40,40,4,3]++(kT m [3,9,25]).flatten
theorem Uc (m:Nat) (xs:List Int):(kT m (xs.map V.int)).flatten=((kT m xs).flatten).map V.int:=by
 induction m with
 | zero=>rfl
 | succ m ih=>rw [IF,xR,ih,IF,xR,iI]
theorem Kg {xs:List Int} (hn:xs.length=n):∀{m k j:Nat},k<m→j<n→(kT m xs).flatten[n*k+j]?=xs[j]?
 | 0,_,_,hk,_=>absurd hk (Be _)
 | m+1,0,j,_,hj=>by
   rw [IF,xR,Nat.mul_zero,aas,yb 0#d]
 | m+1,k+1,j,hk,hj=>by
   have e:n*(k+1)+j=n+(n*k+j):=by rw [Nat.mul_add];try?
   rw [IF,xR,e,ya 0#d,hn,YV]
   exact Kg hn 0#d hj
theorem Wt (m:Nat):[V.int ((m:Int)+1),.int 4,.int 5,.int 12,.int 3,.int 4,.int 7,.int 3,.int 40,.int 40,.int 40,.int 4,.int 3]++(kT m [V.int 3,.int 9,.int 25]).flatten=(RV m).map V.int:=by
 unfold RV
 rw [iI,← Uc]
 rfl
theorem Ws (m:Nat):(RV m).length=13+3*m:=by
 unfold RV
 rw [fj,List.length_flatten,List.map_replicate,List.sum_replicate_nat]
 simp
 try?
theorem Wu (hm:m≤40):∀z∈RV m,0<z∧z<2 ^ 60:=by
 intro z hz
 unfold RV at hz
 rcases dg.mp hz with h | h
 ·simp at h
  try?
 ·obtain ⟨l,hl,hzl⟩:=List.mem_flatten.mp h
  rw [(List.mem_replicate.mp hl).2] at hzl
  simp at hzl
  try?
theorem Lx (hk:k<m) (hj:j<3):(RV m)[3*k+(13+j)]?=[(3:Int),9,25][j]?:=by
 unfold RV
 rw [ya (by simp;try?)]
 have e:3*k+(13+j)-[(m:Int)+1,4,5,12,3,4,7,3,40,40,40,4,3].length=3*k+j:=by simp;try?
 rw [e]
 exact Kg rfl hk hj
theorem Wv (hlen:xs.length=(RV m).length) (hxs:∀(j:Nat) (x z:Int),xs[j]?=some x→(RV m)[j]?=some z→0≤x∧x<z):∃c,c≤m∧Shp xs c:=by
 obtain ⟨x0,g0,a0,b0⟩:=dm hlen hxs 0 (z:=(m:Int)+1) rfl
 refine ⟨x0.toNat,by try?,⟨by rw [g0];congr 1;try?,dm hlen hxs 1 rfl,dm hlen hxs 4 rfl,dm hlen hxs 5 rfl,dm hlen hxs 12 rfl,λk hk=>?_⟩⟩
 have hk':k<m:=by try?
 obtain ⟨x,gx,ax,bx⟩:=dm hlen hxs _ (z:=3) ((Lx hk' (j:=0) 0#i).trans rfl)
 obtain ⟨y,gy,ay,by'⟩:=dm hlen hxs _ (z:=9) ((Lx hk' (j:=1) 0#i).trans rfl)
 obtain ⟨z,gz,az,bz⟩:=dm hlen hxs _ (z:=25) ((Lx hk' (j:=2) 0#i).trans rfl)
 exact ⟨x,y,z,gx,gy,gz,ax,bx,ay,by',az,bz⟩
inductive Dh (vs:List V) (H:Hp) (Q:VK) (E_:XK):Prop where
 | mk (l lw:av) (es:List Nn) (xs:List Int):vs=[.ref l,.ref lw]→H l=some (.lst (bE es))→H lw=some (.lst (xs.map V.int))→1≤es.length→es.length≤40→(∀k,k<3→∃x,xs[k+8]?=some x)→(∀(R:av) (a b c:Nn) (H':Hp),au H H'→a∈es→b∈es→c∈es→H' R=some (.lst [.ref a.1,.ref b.1,.ref c.1])→Q (.ref R) H')→Dh vs H Q E_
inductive C8 (K:b9) (vs:List V) (H:Hp) (Q:VK) (E_:XK):Prop where
 | mk (a:av) (ns:List Int) (i:Int) (most:Nat) (share:Int):vs=[.ref a,.int i,.int (most:Int),.int share]→aX K H a 0#L→0≤i→i<800→most≤40→0≤share→share≤2→(∀(p R:av) (es:List Nn) (b c:Int) (H':Hp),au H H'→H' p=some (.tup [.ref R,.int b,.int c])→H R=none→H' R=some (.lst (bE es))→iB H' es 45 150→es.length≤most→fV es→1≤b→Sz 80 b→0≤c→Sz 150 c→Q 1#a H')→C8 K vs H Q E_
section
theorem kF:aE ["_law_held","_law_some","_law_places","_law_k"] ["_law_held","_law_some"] (ah qJ):=0#a
theorem El (F:cR K "_law_picked" "_law_picked" qJ f fd) (T:Txt mg):bf P w K mg base cY 1 f fd ["_law_held","_law_some"] Dh:=by
 refine F.ok kF 0#e 0#b
 ·obtain ⟨l,lw,es,xs,rfl,_⟩:=h
  rfl
 obtain ⟨l,lw,es,xs,rfl,hl,hw,h1,jS,hx,k⟩:=h
 refine bG ⟨_,(aq (aK 2 kF.nd (dI dX)) (aq (c7 fQ rfl (sq rfl T.range (bq aA aA)) (bX (i:=3) kF.nd rfl 0#k) (aH (eO (gM K 0#s (aI iN (bB 0#Z 0#p 0#E 0#h) 0#V)) (hs:=eF)))) (aq (aK 2 kF.nd (dQ (XW K) rfl T.XX aeW (dD 0#s) (he:=bw) (hpl:=cg))) (aH (aV (oz (O:=["_law_at"]) (N':=["_law_held"]) (cap:=[0]) rfl (dB K 0#s) (λ_ _ _ _ _=>(bX (i:=0) (show jd [("_law_at":Str),("_law_held":Str)] by decide +kernel) rfl 0#k)) 1#d (λ_ _ _ _ _=>(bB 0#Z 0#p 0#j 0#h)) rfl 0#u rfl 0#g rfl 0#g)))))),?_⟩
 rw?
 refine aF (mk:=.lst) 0#f λpl H1 s1 n1 e1=>?_
 rw?
 refine dJ (nB ?_)
 rw?
 refine ⟨8,11,rfl,by decide,cA (n:=3) (λj σ H3=>Lq λ(ys:List Int) (v:Option V)=>σ=[some 0#U,some (.ref lw),some (.ref pl),v]∧au H H3∧H3 pl=some (.lst (ys.map V.int))∧ys.length=j∧∀y∈ys,0≤y∧y<(es.length:Int)) ?_ ?_ ?_⟩
 ·exact ⟨[],none,rfl,s1,e1,rfl,λy hy=>absurd hy 0#f⟩
 ·rintro j σ H3 hj ⟨ys,v,rfl,s3,e3,hy,hys⟩
  obtain ⟨x,gx⟩:=hx j hj
  rw?
  refine ⟨.inl ⟨rfl,_,aX.of e3⟩,?_⟩
  rw?
  refine cK (s3 _ _ hw) (bQ gx 0#d) ?_
  rw?
  refine cy (.inl (aX.of (s3 _ _ hl))) ?_
  rw [bh]
  refine gT (show (0:Int)<_ by try?) ?_
  rw?
  refine cJ e3 (by rw [gV];exact aO 0#d) ?_
  refine ⟨ys++[x % (es.length:Int)],_,rfl,aZ s3 n1,by rw [aB,iI];rfl,by rw [fj,hy];rfl,λy hy=>?_⟩
  rcases dg.mp hy with z | z
  ·exact hys y z
  ·obtain rfl:y=x % (es.length:Int):=by simpa using z
   exact ⟨Bd _ 0#d,zU _ 0#d⟩
 ·rintro σ H3 ⟨ys,v,rfl,s3,e3,hy,hys⟩
  rw?
  refine Ua (aX.of e3) 0#d λp ns' H4 s4 n4 e4 hp hs=>?_
  rw?
  refine iD ?_
  rw?
  refine ⟨p,rfl,⟨_,aX.of e4⟩,?_⟩
  have hl':ns'.length=3:=by rw [hp.length_eq,hy]
  refine cF (xs:=ns'.map V.int) bZ (λH5 s5=>aX.of (s5 _ _ e4)) (by rw [gV];try?) (λi ys G=>∃zs:List Nn,ys=bE zs∧zs.length=i∧∀z∈zs,z∈es) ⟨[],rfl,rfl,λx hx=>absurd hx 0#f⟩ ?_ ?_
  ·rintro D i x ys' H5 jV N N0 h0 hD eD s5 hx hy' ⟨zs,rfl,hz,hm⟩ kY kN
   rw [dw] at hx
   obtain ⟨y,gy,rfl⟩:=IC.mp hx
   obtain ⟨y0,y1⟩:=hys y (hp.mem_iff.mp (lP gy))
   obtain ⟨e,he,_,ea⟩:=IV y0 y1
   refine fO h0 ?_
   rw?
   refine cB ?_
   rw?
   refine cK ((s3.trans 0#R) _ _ hl) ea ?_
   refine kY _ H5 0#x ⟨zs++[e],iw zs e,by rw [fj,hz];rfl,λz hz=>?_⟩
   rcases dg.mp hz with q | q
   ·exact hm z q
   ·obtain rfl:z=e:=by simpa using q
    exact he
  ·rintro D ys' H5 hD eD s5 hy' ⟨zs,rfl,hz,hm⟩
   rw [gV,hl'] at hz
   match zs,hz with
   | [x,y,z],_=>exact k D x y z H5 (s3.trans 0#R) (hm x 0#f) (hm y 0#f) (hm z 0#f) eD
theorem bR:aE ["_law_script","_law_place","_law_most","_law_share","_law_sizes","_law_some","_law_bottom","_law_scale","_law_tilt","_law_far_here","_law_row_here","_law_held","_law_one","_law_mid","_law_last","_law_span","_law_stood","_law_by"] ["_law_script","_law_place","_law_most","_law_share"] (ah sR):=0#a
theorem G3 (F:cR K "_law_drawn" "_law_drawn" sR f fd) (T:Txt mg) (mF:Dn P w K mg base 3 "_law_row" ["_law_script","_law_place","_law_sizes"] (OF K)) (qh:Dn P w K mg base 1 "_law_shaped" ["_law_some","_law_scale","_law_tilt"] Dq)
 (qg:Dn P w K mg base 1 "_law_picked" ["_law_held","_law_some"] Dh) (rP:Dn P w K mg base 1 "_law_times" ["_law_row_here","_law_by"] Io):bf P w K mg base cY 4 f fd ["_law_script","_law_place","_law_most","_law_share"] (C8 K):=by
 refine F.ok bR 0#e 0#b
 ·obtain ⟨a,ns,i,most,share,rfl,_⟩:=h
  rfl
 obtain ⟨a,ns,i,most,share,rfl,hS,h0,h1,hm,hs0,hs2,k⟩:=h
 refine bG (Jd.cut 6 (λσ H'=>acO λ(lw tl:av) (xs:List Int) (c:Nat) (b sc t0 t1 x6 x7:Int) (v4 v9:Option V)=>σ=[some (.ref a),some (.int i),some (.int most),some (.int share),v4,some (.ref lw),some (.int b),some (.int sc),some (.ref tl),v9,none,none,none,none,none,none,none,none] ∧
  au H H'∧H' lw=some (.lst (xs.map V.int))∧c≤most∧Shp xs c∧xs[6]?=some x6∧0≤x6∧x6<7∧xs[7]?=some x7∧(∀k,k<3→∃x,xs[k+8]?=some x)∧1≤b∧Sz 30 b∧0≤sc∧Sz 45 sc∧H' tl=some (.tup [.int t0,.int t1])∧Sz 45 t0∧Sz 45 t1) ?_ λu hu hR=>?_)
 ·refine ⟨_,(aq (aK 10 bR.nd (Jd.c3 qh hr (aa 5) (aa 7) (aa 8))) (aq (rf (O:=["_law_one"]) (N':=[]) (cap:=[]) (i:=11) bR.nd rfl 0#k rfl (dB K (aa 10)) (λ_ _ _ _ _=>(bX (i:=0) (show jd [("_law_one":Str)] by decide +kernel) rfl 0#k)) (λ_ _ _ _ _=>(wH (bC jI (bB (D9 K) 0#j aA 0#h) dN 0#J))) (λ_ _ _ _ _=>0#j) rfl trivial rfl 0#g rfl 0#g (by rfl)) (aq (bW (jj (rg (bC dS 0#E aA 0#J) (rg (bC dF (Jd.iL K (aa 5)) aA 0#J) (sr (bC dS (eY K T.eU (aa 11)) aA 0#J))))) (aq (Jd.sG (bY qg hr (aa 11) (aa 5)) (Jd.pgL K (n:=3) rfl (fS (bX (i:=12) bR.nd rfl 0#k) (fS (bX (i:=13) bR.nd rfl 0#k) (fS (bX (i:=14) bR.nd rfl 0#k) pH))))) (aH (bW (Jd.CN lQ lQ (aJ K (aa 12)) (aJ K (aa 13)) (aJ K (aa 14))) (aq (aK 15 bR.nd (aI bL (aJ K (aa 14)) (aJ K (aa 12)))) (aq (aK 16 bR.nd (aI bL (aI aQ (aJ K (aa 13)) (aa 15)) (aI aQ (aJ K (aa 12)) (aI bL (aJ K (aa 14)) (aJ K (aa 13)))))) (aq (aK 16 bR.nd (dQ ym rfl T.yo zR (dD (aI bL (aa 16) (aI aQ (aJ K (aa 14)) (aI bL (aJ K (aa 13)) (aJ K (aa 12)))))) (he:=Iq) (hpl:=cg))) (aq (aK 17 bR.nd (aI aQ 0#E (aa 15))) (aH (aV (bJ (Jd.a3 (bY rP hr (aa 10) (aa 17)) (aI aQ (aa 6) (aa 17)) (aa 16))))))))) cj))) cj) (aH (aV (bJ (Jd.a3 (aa 10) (aa 6) (aI aQ (Jd.iL K (aa 5)) (aa 7))))))))),?_⟩
  rintro σ H1 ⟨lw,tl,xs,c,b,sc,t0,t1,x6,x7,v4,v9,rfl,s1,ew,hc,S,g6,a6,b6,g7,g8,b1,zb,sc0,zsc,et,zt0,zt1⟩
  rw?
  refine ⟨lw,tl,xs,c,sc,t0,t1,rfl,ew,S,by try?,et,zsc,zt0,zt1,λR es H2 s2 nR eR hes hlen dH=>?_⟩
  have ew2:=s2 _ _ ew
  rw?
  refine iD ?_
  rw?
  refine ⟨R,rfl,⟨_,aX.of eR⟩,?_⟩
  refine cF (xs:=bE es) bZ (λH3 s3=>aX.of (s3 _ _ eR)) (by rw [bh];try?) (λi ys G=>ys=bE ((es.take i).filter rC)) rfl ?_ ?_
  ·rintro D i x ys H3 jV N N0 h0 hD eD s3 hx hy rfl kY kN
   obtain ⟨e,he,rfl⟩:=pL hx
   obtain ⟨ee,_⟩:=(hes e (lP he)).up s3
   have ts:=K9 rC es i e he
   obtain ⟨ae,me,ve⟩:=e
   refine fO h0 ?_
   cases ve with
   | none=>
     rw?
     refine 0#M
     rw?
     refine bI ?_
     rw [show rC (ae,me,none)=false from rfl,if_neg dW,vX] at ts
     exact kN H3 0#x (by rw [ts])
   | some z=>
     rw?
     refine 0#M
     rw?
     refine cB ?_
     rw?
     rw [show rC (ae,me,some z)=true from rfl,if_pos rfl] at ts
     exact kY _ H3 0#x (by rw [ts,← iw])
  ·rintro D ys H3 hD eD s3 hy rfl
   rw [bh,jR] at eD
   have xo:=s1.trans (s2.trans s3)
   have eR3:=s3 _ _ eR
   have ew3:=s3 _ _ ew2
   have plain:∀(p:av) (H4:Hp),au H3 H4→H4 p=some (.tup [.ref R,.int b,.int (x6*sc)])→Q 1#a H4:=λp H4 s4 e4=>
    k p R es b (x6*sc) H4 (xo.trans s4) e4 (s1.free nR) (s4 _ _ eR3) (λx hx=>let ⟨q1,q2,q3⟩:=(hes x hx).up 0#S;⟨q1,q2,λz hz=>(q3 z hz).mono 0#i⟩) 0#d dH b1 (zb.mono 0#i) (pB a6 sc0) (((show Sz 3 x6 from by show x6.natAbs<2 ^ 3;try?).mul zsc).mono 0#i)
   refine r_g ?_
   refine E6 ?_
   with_reducible refine gX (λσ' H'=>Xs6 λ(w1 w2 w3 w4 w5 w6:Option V)=>σ'=[some (.ref a),some (.int i),some (.int most),some (.int share),v4,some (.ref lw),some (.int b),some (.int sc),some (.ref tl),v9,some (.ref R),some (.ref D),w1,w2,w3,w4,w5,w6]∧au H3 H') (λσ' H' hP=>?_) (λN hN=>?_)
   ·obtain ⟨w1,w2,w3,w4,w5,w6,rfl,s4⟩:=hP
    rw?
    refine cK (s4 _ _ ew3) (bQ g6 rfl) ?_
    rw?
    refine gT (bV (show Sz 3 x6 from by show x6.natAbs<2 ^ 3;try?) zsc) ?_
    rw?
    refine aF (mk:=.tup) 0#f λp6 H6 s6 n6 e6=>?_
    exact plain p6 H6 (s4.trans s6) e6
   rw?
   refine cD 0#C 0#C
   ·have rW:0<share:=jw c1
    rw?
    refine cK ew3 (bQ g7 rfl) ?_
    rw?
    refine cD (λc2=>?_) (λc2=>?_)
    ·rw?
     refine cy (.inl (aX.of eD)) ?_
     rw?
     rw [bh]
     refine cD (λc3=>?_) (λc3=>?_)
     ·have c3':=jw c3
      have hfl:(es.filter rC).length≤es.length:=OV ..
      rw?
      refine Ff ?_
      rw?
      refine ⟨D,lw,es.filter rC,xs,rfl,eD,ew3,by try?,by try?,g8,λR3 x y z H4 s4 hx hy hz e4=>?_⟩
      refine QF e4 ?_
      obtain ⟨hx1,V5⟩:=DS.mp hx
      obtain ⟨hy1,hy2⟩:=DS.mp hy
      obtain ⟨hz1,hz2⟩:=DS.mp hz
      obtain ⟨fx1,fx2,fx3⟩:=(hes x hx1).up 0#S
      obtain ⟨fy1,fy2,fy3⟩:=(hes y hy1).up 0#S
      obtain ⟨fz1,fz2,fz3⟩:=(hes z hz1).up 0#S
      obtain ⟨nx,ex⟩:=Co V5
      obtain ⟨ny,ey⟩:=Co hy2
      obtain ⟨nz,ez⟩:=Co hz2
      have zx:=fx3 nx ex
      have zy:=fy3 ny ey
      have zz:=fz3 nz ez
      rw [ex] at fx1
      rw [ey] at fy1
      rw [ez] at fz1
      simp only [nnv] at fx1 fy1 fz1
      rw?
      have ew4:=s4 _ _ ew3
      refine cD (λc4=>?_) (λc4=>?_)
      ·have c4':=jw c4
       rw?
       refine cD (λc5=>?_) (λc5=>?_)
       ·have c5':=jw c5
        have zs1:Sz 46 (z.2.1-x.2.1):=fz2.sub fx2
        have zs2:Sz 46 (z.2.1-y.2.1):=fz2.sub fy2
        have zs3:Sz 46 (y.2.1-x.2.1):=fy2.sub fx2
        have zsh:Sz 2 share:=show share.natAbs<2 ^ 2 by try?
        have m1:Sz 146 (ny*(z.2.1-x.2.1)):=zy.mul zs1
        have m2:Sz 146 (nx*(z.2.1-y.2.1)):=zx.mul zs2
        have m3:Sz 146 (nz*(y.2.1-x.2.1)):=zz.mul zs3
        rw?
        refine gT (bV zy zs1) ?_
        rw?
        refine gT (bV zx zs2) ?_
        rw?
        refine gT (bV zz zs3) ?_
        rw?
        refine gT (bV zsh zs1) ?_
        rw?
        have zby:Sz 48 (share*(z.2.1-x.2.1)):=zsh.mul zs1
        refine ⟨R,es,share*(z.2.1-x.2.1),100,48,rfl,s4 _ _ eR3,λu hu=>(hes u hu).up 0#S,by try?,zby,by decide,λR5 es5 H5 s5 n5 e5 afC hmap=>?_⟩
        rw?
        refine gT (bV zb zby) ?_
        rw?
        rw [iS]
        refine aF (mk:=.tup) 0#f λp6 H6 s6 n6 e6=>?_
        have hle:es5.length=es.length:=by
         have:=congrArg tY hmap
         simpa using this
        have p1:1≤share*(z.2.1-x.2.1):=m7 0#d 0#d
        have zst:Sz 148 (ny*(z.2.1-x.2.1)-nx*(z.2.1-y.2.1)-nz*(y.2.1-x.2.1)):=(m1.sub m2).sub (m3.mono 0#i)
        refine k p6 R5 es5 _ _ H6 ((xo.trans s4).trans (s5.trans s6)) e6 ((xo.trans s4).free n5) (s6 _ _ e5) (λx hx=>let ⟨q1,q2,q3⟩:=(afC x hx).up s6;⟨q1,q2,λz hz=>(q3 z hz).mono 0#i⟩) 0#d ?_ (m7 b1 p1) ((zb.mul zby).mono 0#i) 0#d ((zst.of_le 0#f).mono 0#i)
        refine Cm ?_ dH
        have e:=congrArg (Ar VT) hmap
        rw [pT,pT] at e
        exact e
       ·rw?
        exact hN _ _ ⟨_,_,_,_,_,_,rfl,s4⟩
      ·rw?
       refine bI ?_
       rw?
       exact hN _ _ ⟨_,_,_,_,_,_,rfl,s4⟩
     ·rw?
      exact hN _ _ ⟨_,_,_,_,_,_,rfl,0#x⟩
    ·refine bI ?_
     rw?
     exact hN _ _ ⟨_,_,_,_,_,_,rfl,0#x⟩
   ·refine bI ?_
    rw?
    exact hN _ _ ⟨_,_,_,_,_,_,rfl,0#x⟩
 refine ⟨_,(aq (aK 4 bR.nd (dI (cG (aI aW 0#s aA) (cG aA (cG aA (cG aA (cG aA (cG aA (cG aA (cG aA (cG aA (Jd.a4 aA aA aA aA) jy) jy) jy) jy) jy) jy) jy) jy) Iq))) (aq (aK 5 bR.nd (Jd.c3 mF hr 0#j 0#p (aI yO 0#X (aI TF (dI (Jd.a3 aA aA aA)) 0#s)))) (aq (aK 6 bR.nd (bB 0#Z (dI (cG aA (cG aA (cG aA (cG aA (cG aA (cG aA (cG aA (cG aA (Jd.a4 aA aA aA (aI aW (aI qA aA aA) aA)) jy) jy) jy) jy) jy) jy) jy) jy)) (Jd.iL K (aa 5)) 0#h)) (aq (aK 7 bR.nd (bB 0#Z (dI (cG aA (Jd.a4 aA aA (aI qA aA aA) (aI aW (aI qA aA aA) aA)) jy)) (Jd.iL K (aa 5)) 0#h)) (aq (aK 8 bR.nd (bJ (bq aA aA))) (aq (bW (bC dS 0#E aA 0#J) (aq (aK 9 bR.nd (aI bL (fR cZ (aI qA aA aA)) aA)) (aH (aK 8 bR.nd (bB 0#Z (dI (Jd.a4 (bJ (bq aA aA)) (bJ (bq aA aA)) (bJ (bq aA (fR cZ aA))) (bJ (bq (aa 9) (aI qA aA aA))))) (Jd.iL K (aa 5)) 0#h)))) cj) hu)))))),?_⟩
 rw?
 refine aF (mk:=.lst) 0#f λl1 H1 s1 n1 e1=>?_
 rw?
 refine aF (mk:=.lst) 0#f λl2 H2 s2 n2 e2=>?_
 rw?
 refine YH e2 0#c 0#c ?_
 refine aF (mk:=.lst) (by rw [len_rep];simp;try?) λl3 H3 s3 n3 e3=>?_
 rw?
 refine Fg (s3 _ _ (s2 _ _ e1)) e3 ?_
 refine aF (mk:=.lst) (by rw [fj,len_rep];simp;try?) λl4 H4 s4 n4 e4=>?_
 have yg:=s1.trans (s2.trans 0#S)
 rw?
 refine ⟨a,ns,i,l4,RV most,rfl,yg.seq hS,h0,by try?,by rw [e4];exact congrArg (λz=>some (HO.lst z)) (Wt most),by rw [Ws];try?,Wu hm,λlw xs H5 s5 n5 e5 hlen hxs=>?_⟩
 obtain ⟨c,hc,S⟩:=Wv hlen hxs
 obtain ⟨x2,g2,a2,b2⟩:=dm hlen hxs 2 (z:=5) rfl
 obtain ⟨x3,g3,a3,b3⟩:=dm hlen hxs 3 (z:=12) rfl
 obtain ⟨x6,g6,a6,b6⟩:=dm hlen hxs 6 (z:=7) rfl
 obtain ⟨x7,g7,a7,b7⟩:=dm hlen hxs 7 (z:=3) rfl
 obtain ⟨x8,g8,_⟩:=dm hlen hxs 8 (z:=40) rfl
 obtain ⟨x9,g9,_⟩:=dm hlen hxs 9 (z:=40) rfl
 obtain ⟨x10,g10,_⟩:=dm hlen hxs 10 (z:=40) rfl
 obtain ⟨x11,g11,a11,b11⟩:=dm hlen hxs 11 (z:=4) rfl
 have g8':∀k,k<3→∃x,xs[k+8]?=some x:=λk hk=>by
  rcases (show k=0∨k=1∨k=2 by try?) with rfl | rfl | rfl
  ·exact ⟨_,g8⟩
  ·exact ⟨_,g9⟩
  ·exact ⟨_,g10⟩
 rw?
 refine aF (mk:=.lst) 0#f λl6 H6 s6 n6 e6=>?_
 rw?
 refine cK (s6 _ _ e5) (bQ g3 rfl) ?_
 obtain ⟨b,eb,hb1,hb2⟩:=CI (zs:=[1,2,3,4,5,6,12,30,60,1001,9699690,10 ^ (9:Int).toNat+7]) (λz=>1≤z∧Sz 30 z) 0#g a3 b3
 refine cK e6 eb ?_
 rw?
 refine aF (mk:=.lst) 0#f λl7 H7 s7 n7 e7=>?_
 rw?
 refine cK (s7 _ _ (s6 _ _ e5)) (bQ g2 rfl) ?_
 obtain ⟨sc,esc,Sy,hsc⟩:=CI (zs:=[1,1,7,10 ^ (6:Int).toNat,10 ^ (12:Int).toNat+39]) (λz=>0≤z∧Sz 45 z) 0#g a2 b2
 refine cK e7 esc ?_
 rw?
 refine aF (mk:=.tup) 0#f λt0 H8 s8 n8 e8=>?_
 have s58:=s6.trans (s7.trans s8)
 have Rk:=(yg.trans s5).trans s58
 have e58:=s58 _ _ e5
 rw?
 refine cD 0#C 0#C
 ·rw?
  refine aF (mk:=.tup) 0#f λp1 H9 s9 n9 e9=>?_
  rw?
  refine aF (mk:=.tup) 0#f λp2 vf pC yf DV=>?_
  rw?
  refine aF (mk:=.tup) 0#f λp3 Lk CU n11 VX=>?_
  rw?
  refine aF (mk:=.tup) 0#f λp4 H12 s12 n12 e12=>?_
  rw?
  refine aF (mk:=.lst) 0#f λl8 H13 xo n13 N1=>?_
  have HD:=s9.trans (pC.trans (CU.trans (s12.trans xo)))
  rw?
  refine cK (HD _ _ e58) (bQ g11 rfl) ?_
  have uT:=s12.trans xo
  rcases (show x11=0∨x11=1∨x11=2∨x11=3 by try?) with rfl | rfl | rfl | rfl
  ·refine cK N1 at0 ?_
   exact hR _ _ ⟨lw,p1,xs,c,b,sc,0,0,x6,x7,_,_,rfl,Rk.trans HD,HD _ _ e58,hc,S,g6,a6,b6,g7,g8',hb1,hb2,Sy,hsc,(pC.trans (CU.trans uT)) _ _ e9,by decide,by decide⟩
  ·refine cK N1 at1 ?_
   exact hR _ _ ⟨lw,p2,xs,c,b,sc,0,0,x6,x7,_,_,rfl,Rk.trans HD,HD _ _ e58,hc,S,g6,a6,b6,g7,g8',hb1,hb2,Sy,hsc,(CU.trans uT) _ _ DV,by decide,by decide⟩
  ·refine cK N1 at2 ?_
   exact hR _ _ ⟨lw,p3,xs,c,b,sc,7,-3,x6,x7,_,_,rfl,Rk.trans HD,HD _ _ e58,hc,S,g6,a6,b6,g7,g8',hb1,hb2,Sy,hsc,uT _ _ VX,by decide,by decide⟩
  ·refine cK N1 at3 ?_
   exact hR _ _ ⟨lw,p4,xs,c,b,sc,_,_,x6,x7,_,_,rfl,Rk.trans HD,HD _ _ e58,hc,S,g6,a6,b6,g7,g8',hb1,hb2,Sy,hsc,xo _ _ e12,by decide +kernel,by decide +kernel⟩
 ·rw?
  exact hR _ _ ⟨lw,t0,xs,c,b,sc,0,0,x6,x7,_,_,rfl,Rk,e58,hc,S,g6,a6,b6,g7,g8',hb1,hb2,Sy,hsc,e8,by decide,by decide⟩
end
def mo (es:List En) (k:Nat):Int:=((es[k]?).map (·.2.1)).getD 0
def wo (es:List En) (k:Nat):Rat:=((es[k]?).bind (·.2.2)).getD 0
def sd (es:List En) (i k j:Nat):Rat:=wo es k-c6 (mo es i) (wo es i) (mo es k) (mo es j) (wo es j)
def ia (es:List En):Prop:=∀x∈es,c8 x=true
theorem cT (hR:Row H es n) (hS:ia es) (hk:k<es.length):∃x,es[k]?=some x∧i7 H x.1 (mo es k) (wo es k) n:=by
 have g:es[k]?=some es[k]:=mC hk
 have hm:es[k]∈es:=FI hk
 refine ⟨es[k],g,?_⟩
 have h1:=hR _ hm
 have h2:(es[k]).2.2.isSome=true:=hS _ hm
 unfold mo wo
 rw [g]
 generalize es[k]=x at *
 obtain ⟨a,m,v⟩:=x
 cases v with
 | none=>cases h2
 | some q=>
   obtain ⟨z,p,e,f⟩:=h1
   exact ⟨p,e,f,z⟩
theorem iu (h:rising es) (hij:i<j) (hj:j<es.length):mo es i<mo es j:=by
 have hi:i<es.length:=by try?
 unfold mo
 rw [mC hi,mC hj]
 exact YO.mp h i j hi hj hij
theorem eG {i:Nat} (h:es[i]?=some x) (hj:j=(i:Int)):qV (vals es) j=some (.ref x.1):=by
 subst hj
 exact gW (xP h)
inductive zI (vs:List V) (H:Hp) (Q:VK) (E_:XK):Prop where
 | mk (p r:av) (a b c d:Int) (n:Nat):vs=[.ref p,.ref r]→H p=some (.tup [.int a,.int b])→H r=some (.tup [.int c,.int d])→Sz n a→Sz n b→Sz n c→Sz n d→n≤10000→(∀(s:av) (H':Hp),au H H'→H' s=some (.tup [.int (a*d-c*b),.int (b*d)])→Q (.ref s) H')→zI vs H Q E_
inductive zJ (vs:List V) (H:Hp) (Q:VK) (E_:XK):Prop where
 | mk (p r v v':av) (t t' a b a' b':Int) (n:Nat):vs=[.ref p,.ref r]→H p=some (.tup [.int t,.ref v])→H v=some (.tup [.int a,.int b])→H r=some (.tup [.int t',.ref v'])→H v'=some (.tup [.int a',.int b'])→t<t'→Sz n t→Sz n a→Sz n b→Sz n t'→Sz n a'→Sz n b'→n≤10000→(∀(s:av) (H':Hp),au H H'→H' s=some (.tup [.int (a'*b-a*b'),.int (b'*b*(t'-t))])→Q (.ref s) H')→zJ vs H Q E_
inductive Nq (vs:List V) (H:Hp) (Q:VK) (E_:XK):Prop where
 | mk (l:av) (es:List En) (i j n:Nat):vs=[.ref l,.int (i:Int),.int (j:Int)]→H l=some 0#A→Row H es n→ia es→rising es→i<j→j<es.length→es.length≤1000→n≤900→(j=i+1→∀H',au H H'→Q .bM H')→(i+1<j→∀(z p:av) (k:Nat) (H':Hp),au H H'→H' z=some (.tup [.int (k:Int),.ref p])→bS H' p (dO (sd es i k j)) (8*n+5)→jW (λk=>dO (sd es i k j)) i j k→Q (.ref z) H')→Nq vs H Q E_
section
theorem AS (F:cR K "loose_minus" "loose_minus" kB f fd):bf P w K mg base cY 1 f fd ["one","other"] zI:=by
 refine F.ok tH 0#e 0#b
 ·obtain ⟨p,r,a,b,c,d,n,rfl,_⟩:=h
  rfl
 obtain ⟨p,r,a,b,c,d,n,rfl,hp,hr',za,zb,zc,zd,hn,k⟩:=h
 refine bG ⟨_,(aH (aV (bJ (bq (aI bL (aI aQ 0#I 0#Q) (aI aQ 0#Q 0#I)) (aI aQ 0#I 0#Q))))),?_⟩
 rw?
 refine gT (bV za zd 0#d) ?_
 rw?
 refine gT (bV zc zb 0#d) ?_
 rw?
 refine gT (bV zb zd 0#d) ?_
 rw?
 refine aF (mk:=.tup) 0#f λx H1 s1 n1 e1=>?_
 exact k x H1 s1 e1
theorem AU (F:cR K "loose_slope" "loose_slope" iV f fd) (mS:Dn P w K mg base 1 "loose_minus" ["one","other"] zI):bf P w K mg base cY 3 f fd ["one","other"] zJ:=by
 refine F.ok cW 0#e 0#b
 ·obtain ⟨p,r,v,v',t,t',a,b,a',b',n,rfl,_⟩:=h
  rfl
 obtain ⟨p,r,v,v',t,t',a,b,a',b',n,rfl,hp,hv,hr',hv',ht,zt,za,zb,zt',za',zb',hn,k⟩:=h
 refine bG ⟨_,(aq (aK 2 cW.nd (bY mS hr 0#Q 0#I)) (aq (aK 3 cW.nd (aI bL 0#Q 0#I)) (aq (bW (bC lQ 0#E aA 0#J) (aH (aV (bJ (bq (fR cZ (aJ K 0#s)) (aI aQ (aJ K 0#s) (fR cZ 0#E)))))) cj) (aH (aV (bJ (bq (aJ K 0#s) (aI aQ (aJ K 0#s) 0#E)))))))),?_⟩
 rw?
 refine ⟨v',v,a',b',a,b,n,rfl,hv',hv,za',zb',za,zb,hn,λx H1 s1 e1=>?_⟩
 have hp1:=s1 _ _ hp
 have hr1:=s1 _ _ hr'
 have zs:Sz (n+1) (t'-t):=zt'.sub zt
 rw?
 refine cD 0#y 0#y
 ·have c':t'-t<0:=jw c
  try?
 ·rw?
  refine gT (bV (zb'.mul zb) zs 0#d) ?_
  rw?
  refine aF (mk:=.tup) 0#f λy H2 s2 n2 e2=>?_
  exact k y H2 (s1.trans s2) e2
theorem bF:aE ["samples","first","last","start","steep","base","found","miss","place","moment","value","along","stood"] ["samples","first","last"] (ah j8):=0#a
theorem wQ (F:cR K "loose_farthest" "loose_farthest" j8 f fd) (T:Txt mg) (cP:Dn P w K mg base 1 "order" ["one","other"] iW) (mT:Dn P w K mg base 3 "loose_slope" ["one","other"] zJ) :
 bf P w K mg base cY 4 f fd ["samples","first","last"] Nq:=by
 refine F.ok bF 0#e 0#b
 ·obtain ⟨l,es,i,j,n,rfl,_⟩:=h
  rfl
 obtain ⟨l,es,i,j,n,rfl,hl,hR,hS,dH,hij,hj,jS,hn,k0,k1⟩:=h
 obtain ⟨xi,gi,vi,ei,⟨a,b,eb,fb,za,zb⟩,zti⟩:=cT hR hS (show i<es.length by try?)
 obtain ⟨xj,gj,vj,ej,⟨a',b',eb',fb',za',zb'⟩,ztj⟩:=cT hR hS hj
 have ht:=iu dH hij hj
 have hb1:=fb.pos
 have hb2:=fb'.pos
 have zd:Sz (n+1) (mo es j-mo es i):=ztj.sub zti
 have zS:Sz (3*n+1) (b'*b*(mo es j-mo es i)):=((zb'.mul zb).mul zd).mono 0#d
 have zS2:Sz (2*n+1) (b'*(mo es j-mo es i)):=(zb'.mul zd).mono 0#d
 have zT:Sz (2*n+1) (a'*b-a*b'):=((za'.mul zb).sub (za.mul zb')).mono 0#d
 have hdv:(b'*b*(mo es j-mo es i)).fdiv b=b'*(mo es j-mo es i):=by
  rw [DO _ 0#d,Int.mul_right_comm]
  exact Int.mul_ediv_cancel _ 0#d
 have Wd:0<b'*b*(mo es j-mo es i):=xV (xV 0#d 0#d) 0#d
 refine bG ⟨_,(aq (aK 3 bF.nd (bB 0#Z 0#j 0#p 0#h)) (aq (aK 4 bF.nd (bY mT hr 0#E (bB 0#Z 0#j 0#s 0#h))) (aq (aK 5 bF.nd (aI aQ (aJ K (aJ K 0#E)) (aI gc (aJ K 0#X) (aJ K (aJ K 0#E))))) (aq (aK 6 bF.nd dN) (aq (aK 7 bF.nd (bJ (bq aA aA))) (aq (c7 fQ rfl (sq rfl T.range (bq (aI aW 0#p aA) 0#s)) (bX (i:=8) bF.nd rfl 0#k) (aq (aK 9 bF.nd (aJ K (bB 0#Z 0#j (aa 8) 0#h))) (aq (aK 10 bF.nd (aJ K (bB 0#Z 0#j (aa 8) 0#h))) (aq (aK 11 bF.nd (aI aW (aa 5) (aI aQ (aJ K 0#X) (aI bL (aa 9) (aJ K 0#E))))) (aq (aK 12 bF.nd (bJ (bq (dQ ym rfl T.yo zR (dD (aI bL (aI aQ (aJ K (aa 10)) (aJ K 0#X)) (aI aQ (aJ K (aa 10)) (aa 11)))) (he:=Iq) (hpl:=cg)) (aJ K (aa 10))))) (aH (bW (jj (Jd.sJ (bC qz (aa 6) dN 0#J) (Jd.nA (bC dS (bY cP hr (aa 12) (aa 7)) aA 0#J)))) (aq (aK 6 bF.nd (aa 8)) (aH (aK 7 bF.nd (aa 12)))) cj))))))) (aH (aV (su (bC qz (aa 6) dN 0#J) dN (bJ (bq (aa 6) (bJ (bq (aJ K (aa 7)) (aI aQ (aJ K (aa 7)) (aJ K 0#X))))))))))))))),?_⟩
 rw?
 refine cK hl (eG gi rfl) ?_
 rw?
 refine cK hl (eG gj rfl) ?_
 rw?
 refine ⟨xi.1,xj.1,vi,vj,mo es i,mo es j,a,b,a',b',n,rfl,ei,eb,ej,eb',ht,zti,za,zb,ztj,za',zb',by try?,λps H1 s1 e1=>?_⟩
 have ei1:=s1 _ _ ei
 have eb1:=s1 _ _ eb
 rw?
 refine gT ⟨by try?,zb.log 0#d ?_⟩ ?_
 ·rcases Zr n with z | z
  ·subst z
   have:b.natAbs<2 ^ 0:=zb
   try?
  ·exact z
 rw [hdv]
 refine gT (bV za zS2 0#d) ?_
 rw?
 refine aF (mk:=.tup) 0#f λpm0 H2 s2 n2 e2=>?_
 rw?
 refine dJ (nB ?_)
 rw?
 have age:Sz (5*n+4) 1:=qy 0#d
 have zer:Sz (5*n+4) 0:=Vp _
 refine ⟨_,_,rfl,1#b,cA (λm σ H3=>Xs7 λ(fv:V) (pm:av) (v8 v9 v10 v11 v12:Option V)=>σ=[some 0#U,some (.int i),some (.int j),some (.ref xi.1),some (.ref ps),some (.int (a*(b'*(mo es j-mo es i)))),some fv,some (.ref pm),v8,v9,v10,v11,v12] ∧
  au H1 H3∧((m=0∧fv=.bM∧bS H3 pm 0 (5*n+4))∨∃k:Nat,fv=.int (k:Int)∧bS H3 pm (dO (sd es i k j)*((b'*b*(mo es j-mo es i):Int):Rat)) (5*n+4)∧jW (λk=>dO (sd es i k j)) i (i+1+m) k)) ?_ ?_ ?_⟩
 ·exact ⟨.bM,pm0,none,none,none,none,none,rfl,s2,.inl ⟨rfl,rfl,0,1,e2,Qt.whole 0,zer,age⟩⟩
 ·rintro m σ H3 hm ⟨fv,pm,v8,v9,v10,v11,v12,rfl,s3,hI⟩
  refine cE λM Bk RR hM _ _=>?_
  have hp:i+1+m<j:=by try?
  have nE:=s1.trans s3
  obtain ⟨xp,gp,vp,ep,⟨c,e,ec,fc,zc,ze⟩,ztp⟩:=cT (hR.up nE) hS (show i+1+m<es.length by try?)
  have ei3:=nE _ _ ei
  have N1:=s3 _ _ e1
  have qt:=aa1 fb fb' fc (tp:=mo es (i+1+m)) ht
  have qa:=qt.abs
  rw [wZ (cast_pos Wd)] at qa
  have ztt:Sz (n+1) (mo es (i+1+m)-mo es i):=ztp.sub zti
  have aey:Sz (4*n+2) (a*(b'*(mo es j-mo es i))):=(za.mul zS2).mono 0#d
  have zst:Sz (4*n+2) ((a'*b-a*b')*(mo es (i+1+m)-mo es i)):=(zT.mul ztt).mono 0#d
  have zal:Sz (4*n+3) (a*(b'*(mo es j-mo es i))+(a'*b-a*b')*(mo es (i+1+m)-mo es i)):=aey.add zst
  have zcS:Sz (5*n+3) (c*(b'*b*(mo es j-mo es i))):=(zc.mul zS).mono 0#d
  have zea:Sz (5*n+3) (e*(a*(b'*(mo es j-mo es i))+(a'*b-a*b')*(mo es (i+1+m)-mo es i))):=(ze.mul zal).mono 0#d
  rw?
  refine cK (nE _ _ hl) (eG gp 0#d) ?_
  rw?
  refine cK (nE _ _ hl) (eG gp 0#d) ?_
  rw?
  refine gT (bV zT ztt 0#d) ?_
  rw?
  refine gT (bV zc zS 0#d) ?_
  rw?
  refine gT (bV ze zal 0#d) ?_
  rw?
  rw [iS]
  refine aF (mk:=.tup) 0#f λpst H4 s4 n4 e4=>?_
  have qs:bS H4 pst (dO (sd es i (i+1+m) j)*((b'*b*(mo es j-mo es i):Int):Rat)) (5*n+4):=
   ⟨_,_,e4,qa,(zcS.sub zea).of_le 0#f,ze.mono 0#d⟩
  rw?
  rcases hI with ⟨rfl,rfl,hq⟩ | ⟨kk,rfl,hq,hF⟩
  ·refine 0#M
   rw?
   refine cB ?_
   refine cB ?_
   rw?
   exact hM _ _ ⟨_,_,_,_,_,_,_,rfl,s3.trans s4,.inr ⟨i+1,by simp,qs,jW.first⟩⟩
  ·refine 0#M
   rw?
   refine bI ?_
   rw?
   refine ⟨pst,pm,_,_,_,_,rfl,qs,hq.up s4,by try?,λo Rc ho2=>?_⟩
   rw?
   refine cD 0#C 0#C
   ·have c':0<o:=jw c1
    have l1:=(IE (cast_pos Wd)).mp (Rc.mp c')
    rw?
    refine hM _ _ ⟨_,_,_,_,_,_,_,rfl,s3.trans s4,.inr ⟨i+1+m,by simp,qs,?_⟩⟩
    exact hF.next l1
   ·have c':¬0<o:=gY (gQ.mpr c1)
    have l1:¬dO (sd es i kk j)<dO (sd es i (i+1+m) j):=λz=>c' (Rc.mpr ((IE (cast_pos Wd)).mpr z))
    rw?
    refine hM _ _ ⟨_,_,_,_,_,_,_,rfl,s3.trans s4,.inr ⟨kk,rfl,hq.up s4,?_⟩⟩
    exact hF.keep (jz.mp l1)
 ·rintro σ H3 ⟨fv,pm,v8,v9,v10,v11,v12,rfl,s3,hI⟩
  have N1:=s3 _ _ e1
  rw?
  rcases hI with ⟨hm,rfl,hq⟩ | ⟨kk,rfl,⟨x,y,exy,qxy,zx,zy⟩,hF⟩
  ·refine 0#M
   rw?
   refine cB ?_
   rw?
   exact k0 0#d H3 (s1.trans s3)
  ·refine 0#M
   rw?
   refine bI ?_
   rw?
   refine gT (bV zy zS 0#d) ?_
   rw?
   refine aF (mk:=.tup) 0#f λp4 H4 s4 n4 e4=>?_
   rw?
   refine aF (mk:=.tup) 0#f λp5 H5 s5 n5 e5=>?_
   have PU:jW (λk=>dO (sd es i k j)) i j kk:=by
    have e:i+1+((j:Int)-((i:Int)+1)).toNat=j:=by try?
    rw [e] at hF
    exact hF
   have hlo:=PU.lo
   have hhi:=PU.hi
   refine k1 0#d p5 p4 kk H5 ((s1.trans s3).trans 0#R) e5 ?_ PU
   have q:=qxy.div (s:=b'*b*(mo es j-mo es i)) Wd
   have hne:=cI (b:=b'*b*(mo es j-mo es i)) 0#d
   rw [show dO (sd es i kk j)*((b'*b*(mo es j-mo es i):Int):Rat)/((b'*b*(mo es j-mo es i):Int):Rat)=dO (sd es i kk j) by generalize ((b'*b*(mo es j-mo es i):Int):Rat)=S at hne;grind] at q
   exact ⟨_,_,s5 _ _ e4,q,zx.mono 0#d,(zy.mul zS).mono 0#d⟩
end
def cz (b:Int) (x:Int×Option Int):Int×Option Rat:=(x.1,x.2.map λz:Int=>(z:Rat)/(b:Rat))
def Bp (m1 n1 m2 n2 m3 n3:Int):Int:=n2*(m3-m1)-n1*(m3-m2)-n3*(m2-m1)
inductive C9 (vs:List V) (H:Hp) (Q:VK) (E_:XK):Prop where
 | mk (l:av) (es:List Nn) (b:Int) (m n nb N:Nat):vs=[.ref l,.int b]→H l=some (.lst (bE es))→iB H es m n→es.length≤900→1≤b→Sz nb b→m≤N→n≤N→nb≤N→N≤8000→(∀(R:av) (es':List En) (H':Hp),au H H'→H R=none→H' R=some (.lst (vals es'))→Row H' es' N→es'.map (·.2)=es.map (λx=>cz b x.2)→Q (.ref R) H')→C9 vs H Q E_
inductive xH (vs:List V) (H:Hp) (Q:VK) (E_:XK):Prop where
 | mk (p1 p2 p3:av) (m1 n1 m2 n2 m3 n3:Int) (m n:Nat):vs=[.ref p1,.ref p2,.ref p3]→H p1=some (.tup [.int m1,.int n1])→H p2=some (.tup [.int m2,.int n2])→H p3=some (.tup [.int m3,.int n3])→Sz m m1→Sz m m2→Sz m m3→Sz n n1→Sz n n2→Sz n n3→m+n≤100000→Q (.int (Bp m1 n1 m2 n2 m3 n3)) H→xH vs H Q E_
theorem abI (a1:Sz m m1) (a2:Sz m m2) (a3:Sz m m3) (b1:Sz n n1) (b2:Sz n n2) (b3:Sz n n3):Sz (m+n+3) (Bp m1 n1 m2 n2 m3 n3):=by
 unfold Bp
 have x1:Sz (m+n+1) (n2*(m3-m1)):=(b2.mul (a3.sub a1)).mono 0#d
 have x2:Sz (m+n+1) (n1*(m3-m2)):=(b1.mul (a3.sub a2)).mono 0#d
 have x3:Sz (m+n+2) (n3*(m2-m1)):=(b3.mul (a2.sub a1)).mono 0#d
 exact (x1.sub x2).sub x3
theorem QH (h:H p=some (.tup [x,y,z])) (q:R (((σ.set i (some x)).set j (some y)).set k (some z)) H):PR K 3 (qW (iU i) (qW (iU j) (qW (iU k) PN))) 1#a σ H R:=
 ⟨p,_,rfl,qb.of h,rfl,x,_,rfl,y,_,rfl,z,_,rfl,rfl,q⟩
section
theorem kE:aE ["_law_row_here","_law_bottom","_law_handed_here","_law_moment_here","_law_number"] ["_law_row_here","_law_bottom"] (ah qH):=0#a
theorem Ej (F:cR K "_law_handed" "_law_handed" qH f fd) (fB:Dn P w K mg base 1 "_law_ratio" ["_law_top","_law_bottom"] uB):bf P w K mg base cY 2 f fd ["_law_row_here","_law_bottom"] C9:=by
 refine F.ok kE 0#e 0#b
 ·obtain ⟨l,es,b,m,n,nb,N,rfl,_⟩:=h
  rfl
 obtain ⟨l,es,b,m,n,nb,N,rfl,hl,hes,jS,hb,zb,hmN,hnN,hbN,hN,k⟩:=h
 refine bG ⟨_,(aq (aK 2 kE.nd (dI dX)) (aq (c7 fQ rfl (dB K 0#j) (Jd.Ox K (n:=2) rfl (fS (bX (i:=3) kE.nd rfl 0#k) (fS (bX (i:=4) kE.nd rfl 0#k) pH))) (aH (bW (bC qz 0#X dN 0#J) (aH (eO (gM K 0#s (bJ (bq 0#E dN))) (hs:=eF))) (aH (eO (gM K 0#s (bJ (bq 0#E (bY fB hr 0#X 0#p)))) (hs:=eF)))))) (aH (aV 0#s)))),?_⟩
 rw?
 refine aF (mk:=.lst) 0#f λR H1 s1 n1 e1=>?_
 rw?
 refine dJ (iD ?_)
 rw?
 refine ⟨l,rfl,⟨_,aX.of (s1 _ _ hl)⟩,eK (xs:=bE es) (λi σ H3=>NP λ(es':List En) (v3 v4:Option V)=>σ=[some 0#U,some (.int b),some (.ref R),v3,v4]∧au H H3∧H3 R=some (.lst (vals es'))∧Row H3 es' N∧es'.length=i∧es'.map (·.2)=(es.take i).map (λx=>cz b x.2)) ?_ ?_ ?_ ?_⟩
 ·exact ⟨[],none,none,rfl,s1,e1,λx hx=>absurd hx 0#f,rfl,rfl⟩
 ·rintro i σ H3 _ ⟨es',v3,v4,rfl,s3,_⟩
  exact aX.of (s3 _ _ hl)
 ·rintro i x σ H3 hx ⟨es',v3,v4,rfl,s3,e3,LY,hl',hmap⟩
  obtain ⟨e,he,rfl⟩:=pL hx
  have hi:i<es.length:=(lS.mp he).1
  have fe:=(hes e (lP he)).up s3
  have tk:es.take (i+1)=es.take i++[e]:=by rw [rF,he];rfl
  have fin:∀(y:av) (H4:Hp) (v3 v4:Option V),au H3 H4→mW H4 (y,cz b e.2) N→NP λ(Gg:List En) (v3' v4':Option V)=>[some 0#U,some (.int b),some (.ref R),v3,v4]=[some 0#U,some (.int b),some (.ref R),v3',v4'] ∧
   au H (upd H4 R (.lst (vals es'++[.ref y])))∧upd H4 R (.lst (vals es'++[.ref y])) R=some (.lst (vals Gg))∧Row (upd H4 R (.lst (vals es'++[.ref y]))) Gg N∧Gg.length=i+1∧Gg.map (·.2)=(es.take (i+1)).map (λx=>cz b x.2):=by
   intro y H4 v3 v4 s4 f4
   have e4:=s4 _ _ e3
   refine ⟨es'++[(y,cz b e.2)],v3,v4,rfl,aZ 0#S n1,by rw [aB];exact congrArg (λz=>some (HO.lst z)) (fu es' (y,cz b e.2)),((LY.up s4).snoc f4).app e4,by rw [fj,hl'];rfl,?_⟩
   rw [tk,iI,iI,hmap]
   rfl
  obtain ⟨a,mm,v⟩:=e
  cases v with
  | none=>
    refine jq fe.1 ?_
    rw?
    refine 0#M
    rw?
    refine cB ?_
    rw?
    refine ⟨.inl ⟨rfl,_,aX.of e3⟩,?_⟩
    rw?
    refine aF (mk:=.tup) 0#f λy H4 s4 n4 e4=>?_
    rw?
    refine cJ (s4 _ _ e3) (by rw [aN];exact aO 0#d) ?_
    exact fin y H4 _ _ s4 ⟨fe.2.1.mono hmN,e4⟩
  | some z=>
    have zz:=fe.2.2 z rfl
    refine jq fe.1 ?_
    rw?
    refine 0#M
    rw?
    refine bI ?_
    rw?
    refine ⟨.inl ⟨rfl,_,aX.of e3⟩,?_⟩
    rw?
    refine Jh (n:=N) 0#d (zz.mono hnN) (zb.mono hbN) hN λp H4 s4 f4=>?_
    rw?
    refine aF (mk:=.tup) 0#f λy H5 s5 n5 e5=>?_
    rw?
    refine cJ (0#R _ _ e3) (by rw [aN];exact aO 0#d) ?_
    exact fin y H5 _ _ 0#R ⟨fe.2.1.mono hmN,p,e5,f4.up s5⟩
 ·rintro σ H3 ⟨es',v3,v4,rfl,s3,e3,LY,hl',hmap⟩
  rw [bh,jR] at hmap
  rw?
  exact k R es' H3 s3 n1 e3 LY hmap
theorem xr:aE ["_law_one","_law_mid","_law_last","_law_up"] ["_law_one","_law_mid","_law_last"] (ah sW):=0#a
theorem G6 (F:cR K "_law_stand" "_law_stand" sW f fd):bf P w K mg base cY 1 f fd ["_law_one","_law_mid","_law_last"] xH:=by
 refine F.ok xr 0#e 0#b
 ·obtain ⟨p1,p2,p3,m1,n1,m2,n2,m3,n3,m,n,rfl,_⟩:=h
  rfl
 obtain ⟨p1,p2,p3,m1,n1,m2,n2,m3,n3,m,n,rfl,e1,e2,e3,a1,a2,a3,b1,b2,b3,hmn,k⟩:=h
 refine bG ⟨_,(aq (aK 3 xr.nd (aI aQ 0#Q (aI bL (aJ K 0#s) 0#I))) (aH (aV (aI bL (aI bL 0#E (aI aQ 0#I (aI bL (aJ K 0#s) 0#Q))) (aI aQ (aJ K 0#s) (aI bL 0#Q 0#I)))))),?_⟩
 rw?
 refine gT (bV b2 (a3.sub a1) 0#d) ?_
 rw?
 refine gT (bV b1 (a3.sub a2) 0#d) ?_
 rw?
 refine gT (bV b3 (a2.sub a1) 0#d) ?_
 rw?
 exact k
end
def dZ (hs:List Nn) (k:Nat):Int:=((hs[k]?).map (·.2.1)).getD 0
def sy (hs:List Nn) (k:Nat):Int:=((hs[k]?).bind (·.2.2)).getD 0
def yE (hs:List Nn) (i k j:Nat):Int:=Bp (dZ hs i) (sy hs i) (dZ hs k) (sy hs k) (dZ hs j) (sy hs j)
def uD (hs:List Nn):Prop:=∀x∈hs,rC x=true
theorem wO (hR:iB H hs m n) (hS:uD hs) (hk:k<hs.length):∃x,hs[k]?=some x∧H x.1=some (.tup [.int (dZ hs k),.int (sy hs k)])∧Sz m (dZ hs k)∧Sz n (sy hs k):=by
 have g:hs[k]?=some hs[k]:=mC hk
 have hm:hs[k]∈hs:=FI hk
 refine ⟨hs[k],g,?_⟩
 have h1:=hR _ hm
 have h2:(hs[k]).2.2.isSome=true:=hS _ hm
 unfold dZ sy
 rw [g]
 generalize hs[k]=x at *
 obtain ⟨a,m,v⟩:=x
 cases v with
 | none=>cases h2
 | some q=>exact ⟨h1.1,h1.2.1,h1.2.2 q rfl⟩
theorem Ck (h:fV hs) (hij:i<j) (hj:j<hs.length):dZ hs i<dZ hs j:=by
 have hi:i<hs.length:=by try?
 unfold dZ
 rw [mC hi,mC hj]
 exact YO.mp h i j hi hj hij
section
variable {es:List En} {hs:List Nn} {b:Int} (h:es.map (·.2)=hs.map (λx=>cz b x.2))
include h
theorem lW (k:Nat):mo es k=dZ hs k∧wo es k=(sy hs k:Rat)/(b:Rat):=by
 have e:(es.map (·.2))[k]?=(hs.map (λx=>cz b x.2))[k]?:=by rw [h]
 rw [dw,dw] at e
 unfold mo dZ wo sy
 have z:(0:Rat)=((0:Int):Rat)/(b:Rat):=by
  rw [show ((0:Int):Rat)=0 from rfl,Rat.div_def,aat]
 cases e1:es[k]? with
 | none=>
   rw [e1] at e
   cases e2:hs[k]? with
   | none=>exact ⟨rfl,z⟩
   | some y=>rw [e2] at e;cases e
 | some x=>
   rw [e1] at e
   cases e2:hs[k]? with
   | none=>rw [e2] at e;cases e
   | some y=>
     rw [e2] at e
     have q:x.2=cz b y.2:=yc e
     obtain ⟨ax,tx,vx⟩:=x
     obtain ⟨ay,ty,vy⟩:=y
     cases vy with
     | none=>
       cases q
       exact ⟨rfl,z⟩
     | some w=>
       cases q
       exact ⟨rfl,rfl⟩
theorem JN:es.length=hs.length:=by
 have:=congrArg tY h
 simpa using this
theorem JO (hr:fV hs):rising es:=by
 have k:(hs.map λx=>x.2.1).Pairwise (·<·):=O4.mpr hr
 have e:=congrArg (Ar VT) h
 rw [pT,pT] at e
 have e':es.map (λx=>x.2.1)=hs.map (λx=>x.2.1):=e
 rw [← e'] at k
 exact O4.mp k
theorem JM (hS:uD hs):ia es:=by
 intro x hx
 have hm:x.2∈es.map (·.2):=gD.mpr ⟨x,hx,rfl⟩
 rw [h] at hm
 obtain ⟨y,hy,e⟩:=gD.mp hm
 have:=hS y hy
 unfold c8
 rw [← e]
 unfold cz rC at *
 rw [Option.isSome_map]
 exact this
theorem Oo (hb:1≤b) (ht:dZ hs i<dZ hs j):((yE hs i k j:Int):Rat)=sd es i k j*(((dZ hs j-dZ hs i)*b:Int):Rat):=by
 obtain ⟨i1,i2⟩:=lW h i
 obtain ⟨j1,j2⟩:=lW h j
 obtain ⟨k1,k2⟩:=lW h k
 unfold sd yE Bp
 rw [i1,i2,j1,j2,k1,k2]
 have hX:=mG (t:=(dZ hs i:Rat)) (q:=(sy hs i:Rat)/(b:Rat)) (u:=(dZ hs k:Rat)) (t':=(dZ hs j:Rat)) (q':=(sy hs j:Rat)/(b:Rat)) (rX ht)
 have hb':=cI (b:=b) 0#d
 simp only [nY,oh]
 generalize c6 (dZ hs i:Rat) ((sy hs i:Rat)/(b:Rat)) (dZ hs k:Rat) (dZ hs j:Rat) ((sy hs j:Rat)/(b:Rat))=X at *
 generalize (dZ hs i:Rat)=ti at *
 generalize (dZ hs j:Rat)=tj at *
 generalize (dZ hs k:Rat)=tk at *
 generalize (sy hs i:Rat)=ni at *
 generalize (sy hs j:Rat)=nj at *
 generalize (sy hs k:Rat)=nk at *
 grind
end
theorem Mv (x:Int):((x.natAbs:Int):Rat)=dO (x:Rat):=by
 have:=(Qt.whole x).abs.eq
 simpa using this
theorem SQ (h:es.map (·.2)=hs.map (λx=>cz b x.2))  (hb:1≤b) (ht:dZ hs i<dZ hs j):(((yE hs i k j).natAbs:Int):Rat)=dO (sd es i k j)*(((dZ hs j-dZ hs i)*b:Int):Rat):=by
 rw [Mv,Oo h hb ht,wZ (cast_pos (xV 0#d 0#d))]
theorem fJ (h:es.map (·.2)=es'.map (·.2)) (k:Nat):mo es k=mo es' k∧wo es k=wo es' k:=by
 have e:(es.map (·.2))[k]?=(es'.map (·.2))[k]?:=by rw [h]
 rw [dw,dw] at e
 unfold mo wo
 cases h1:es[k]? with
 | none=>
   cases h2:es'[k]? with
   | none=>exact ⟨rfl,rfl⟩
   | some y=>rw [h1,h2] at e;cases e
 | some x=>
   cases h2:es'[k]? with
   | none=>rw [h1,h2] at e;cases e
   | some y=>
     rw [h1,h2] at e
     have e':x.2=y.2:=by simpa using e
     simp only [ZU,Option.bind_some,e',Option.getD_some,and_self]
abbrev Qs:=List (av×Rat)
def cX (rs:Qs):List V:=rs.map λx=>V.ref x.1
theorem Ke {i:Nat} (h:(cX rs)[i]?=some v):∃x,rs[i]?=some x∧v=.ref x.1:=by
 unfold cX at h
 rw [dw] at h
 cases e:rs[i]? with
 | none=>rw [e] at h;cases h
 | some x=>rw [e] at h;cases h;exact ⟨x,rfl,rfl⟩
def wc (H:Hp) (rs:Qs) (n:Nat):Prop:=∀x∈rs,bS H x.1 x.2 n
def fZ (js:List Nat):List V:=js.map λj:Nat=>V.int (j:Int)
theorem jl (js:List Nat):(fZ js).length=js.length:=gV ..
theorem qx (js:List Nat) (j:Nat):fZ js++[.int (j:Int)]=fZ (js++[j]):=by simp [fZ]
theorem JS {i:Nat} (h:(fZ js)[i]?=some v):∃j,js[i]?=some j∧v=.int (j:Int):=by
 unfold fZ at h
 rw [dw] at h
 cases e:js[i]? with
 | none=>rw [e] at h;cases h
 | some x=>rw [e] at h;cases h;exact ⟨x,rfl,rfl⟩
theorem bS.app (f:bS H p q n) (h:H R=some (.lst ys)):bS (upd H R o) p q n:=
 let ⟨t,b,e,f⟩:=f
 ⟨t,b,(uS R H o) _ _ (dY h e),f⟩
def Yi (H:Hp) (p:av) (t:Int) (q:Rat) (n m:Nat):Prop:=∃v:av,H p=some (.tup [.int t,.ref v])∧bS H v q n∧Sz m t
theorem Yi.up (f:Yi H p t q n m) (s:au H H'):Yi H' p t q n m:=let ⟨v,e,f,z⟩:=f;⟨v,s _ _ e,f.up s,z⟩
theorem i7.YJ (f:i7 H p t q n):Yi H p t q n n:=let ⟨v,e,f,z⟩:=f;⟨v,e,f.qt,z⟩
def Good (es:List En) (β:Rat) (i j:Nat):Prop:=∀k,i<k→k<j→dO (sd es i k j)≤β
def d7 (es:List En) (β:Rat) (ao:Bool) (i j:Nat):Prop:=if ao=true then i<j∧j<es.length∧Good es β i j else i<es.length∧(j=i+1∨(i+1<j∧j≤es.length∧Good es β i (j-1)))
def UE (es:List En) (i j:Nat):Rat:=(wo es j-wo es i)/((mo es j:Rat)-(mo es i:Rat))
def dR (es:List En) (β:Rat) (i k:Nat):Rat:=(wo es k-β-wo es i)/1#e
def cS (es:List En) (β:Rat) (i k:Nat):Rat:=(wo es k+β-wo es i)/1#e
theorem r8 (h:rising es) (hik:i<k) (hkj:k<j) (hj:j<es.length):dO (sd es i k j)≤β↔dR es β i k≤UE es i j∧UE es i j≤cS es β i k:=
 Gd (vW.mpr (iu h hik 0#d)) (vW.mpr (iu h hkj hj))
inductive mP (vs:List V) (H:Hp) (Q:VK) (E_:XK):Prop where
 | mk (p r:av) (t t':Int) (q q':Rat) (n n' m:Nat):vs=[.ref p,.ref r]→Yi H p t q n m→Yi H r t' q' n' m→t<t'→n+n'+m≤20000→(∀(s:av) (H':Hp),au H H'→bS H' s ((q'-q)/((t':Rat)-(t:Rat))) (n+n'+m+2)→Q (.ref s) H')→mP vs H Q E_
inductive uz (vs:List V) (H:Hp) (Q:VK) (E_:XK):Prop where
 | mk (l:av) (rs:Qs) (n:Nat):vs=[.ref l]→H l=some (.lst (cX rs))→wc H rs n→n≤20000→0<rs.length→(∀x∈rs,(∀y∈rs,y.2≤x.2)→Q (.ref x.1) H)→uz vs H Q E_
inductive xF (vs:List V) (H:Hp) (Q:VK) (E_:XK):Prop where
 | mk (l:av) (rs:Qs) (n:Nat):vs=[.ref l]→H l=some (.lst (cX rs))→wc H rs n→n≤20000→0<rs.length→(∀x∈rs,(∀y∈rs,x.2≤y.2)→Q (.ref x.1) H)→xF vs H Q E_
inductive Ib (vs:List V) (H:Hp) (Q:VK) (E_:XK):Prop where
 | mk (l pb:av) (es:List En) (i n nb:Nat) (β:Rat):vs=[.ref l,.int (i:Int),.ref pb]→H l=some 0#A→Row H es n→ia es→rising es→i<es.length→es.length≤900→bS H pb β nb→n≤1000→nb≤1000→(∀(R:av) (js:List Nat) (H':Hp),au H H'→H R=none→H' R=some (.lst (fZ js))→js.length≤es.length→(∀j,j∈js↔i<j∧j<es.length∧Good es β i j)→Q (.ref R) H')→Ib vs H Q E_
structure Rr (H:Hp) (F:av) (rs:List (av×List Nat)):Prop where
 at_:H F=some (.lst (rs.map λx=>V.ref x.1))
 each:∀x∈rs,H x.1=some (.lst (fZ x.2))∧x.1≠F
theorem Rr.up (h:Rr H F rs) (s:au H H'):Rr H' F rs:=⟨s _ _ h.at_,λx hx=>⟨s _ _ (h.each x hx).1,(h.each x hx).2⟩⟩
theorem Rr.push (h:Rr H F rs) (hR:H R=some (.lst (fZ js))) (ne:R≠F):Rr (upd H F (.lst (rs.map (λx=>V.ref x.1)++[.ref R]))) F (rs++[(R,js)]):=by
 refine ⟨by rw [aB,iI];rfl,λx hx=>?_⟩
 rcases dg.mp hx with z | z
 ·exact ⟨by rw [aM (h.each x z).2];exact (h.each x z).1,(h.each x z).2⟩
 ·obtain rfl:x=(R,js):=by simpa using z
  exact ⟨by rw [aM ne];exact hR,ne⟩
def BL (es:List En) (β:Rat) (ao:Bool) (rs:List (av×List Nat)):Prop:=∀i x,rs[i]?=some x→(x.2.length≤es.length+1)∧∀j,j∈x.2↔d7 es β ao i j
inductive BA (vs:List V) (H:Hp) (Q:VK) (E_:XK):Prop where
 | mk (l pb:av) (es:List En) (n nb:Nat) (β:Rat) (ao:Bool):vs=[.ref l,.ref pb,.bl ao]→H l=some 0#A→Row H es n→ia es→rising es→es.length≤900→bS H pb β nb→n≤1000→nb≤1000→(∀(F:av) (rs:List (av×List Nat)) (H':Hp),au H H'→H F=none→Rr H' F rs→rs.length=es.length→BL es β ao rs→Q (.ref F) H')→BA vs H Q E_
def ig (N:Nat) (t:Nat→Int):List V:=(fM N).map λj=>V.int (t j)
theorem mK (N:Nat) (t:Nat→Int):(ig N t).length=N:=by simp [ig]
theorem ic {N:Nat} (h:j<N) (hi:i=(j:Int)):qV (ig N t) i=some (.int (t j)):=by
 subst hi
 exact gW (wM h)
inductive xB (vs:List V) (H:Hp) (Q:VK) (E_:XK):Prop where
 | mk (F:av) (rs:List (av×List Nat)) (N:Nat) (L:Nat→Nat→Prop):vs=[.ref F,.int (N:Int)]→Rr H F rs→1≤N→N≤900→N≤rs.length+1→rs.length≤N→(∀i x,rs[i]?=some x→∀j,j∈x.2↔L i j)→(∀i j,L i j→i<j∧j<N)→(∀j,0<j→j<N→L (j-1) j)→(∀(R:av) (t:Nat→Int) (H':Hp),au H H'→H R=none→H' R=some (.lst (ig N t))→jE L N t→Q (.ref R) H')→xB vs H Q E_
inductive Dd (vs:List V) (H:Hp) (Q:VK) (E_:XK):Prop where
 | mk (l pb:av) (es:List En) (n nb:Nat) (β:Rat) (ao:Bool):vs=[.ref l,.ref pb,.bl ao]→H l=some 0#A→Row H es n→ia es→rising es→1≤es.length→es.length≤800→bS H pb β nb→n≤1000→nb≤1000→(∀(R:av) (t:Nat→Int) (H':Hp),au H H'→H R=none→H' R=some (.lst (ig (if ao=true then es.length else es.length+1) t))→jE (d7 es β ao) (if ao=true then es.length else es.length+1) t→Q (.ref R) H')→Dd vs H Q E_
section
theorem oG:aE ["quotients","found","quotient"] ["quotients"] (ah vF):=0#a
theorem JX (F:cR K "greatest" "greatest" vF f fd) (cP:Dn P w K mg base 1 "order" ["one","other"] iW):bf P w K mg base cY 2 f fd ["quotients"] uz:=by
 refine F.ok oG 0#e 0#b
 ·obtain ⟨l,rs,n,rfl,_⟩:=h
  rfl
 obtain ⟨l,rs,n,rfl,hl,hq,hn,hp,k⟩:=h
 have g0:rs[0]?=some rs[0]:=mC hp
 refine bG ⟨_,(aq (aK 1 oG.nd (Jd.iL K 0#j)) (aq (c7 fQ rfl (dB K 0#j) (bX (i:=2) oG.nd rfl 0#k) (aH (bW (bC dS (bY cP hr 0#s 0#p) aA 0#J) (aH (aK 1 oG.nd 0#s)) cj))) (aH (aV 0#p)))),?_⟩
 rw?
 refine cK hl (v:=.ref (rs[0]).1) (gW (j:=0) (by unfold cX;rw [dw,g0];rfl)) ?_
 rw?
 refine dJ (iD ?_)
 rw?
 refine ⟨l,rfl,⟨_,aX.of hl⟩,eK (xs:=cX rs) (λi σ H3=>H3=H∧∃(x:av×Rat) (v:Option V),x∈rs∧σ=[some 0#U,some (.ref x.1),v]∧∀y∈rs.take i,y.2≤x.2) ?_ ?_ ?_ ?_⟩
 ·exact ⟨rfl,rs[0],none,FI hp,rfl,λy hy=>by simp at hy⟩
 ·rintro i σ H3 _ ⟨rfl,_⟩
  exact aX.of hl
 ·rintro i v σ H3 hx ⟨rfl,x,v2,hm,rfl,hle⟩
  obtain ⟨y,gy,rfl⟩:=Ke hx
  have hy:=lP gy
  have tk:rs.take (i+1)=rs.take i++[y]:=by rw [rF,gy];rfl
  rw?
  refine ⟨y.1,x.1,y.2,x.2,n,n,rfl,hq y hy,hq x hm,by try?,λo Rc ho2=>?_⟩
  rw?
  refine cD 0#y 0#y
  ·have c':=Rc.mp (jw c)
   rw?
   refine ⟨rfl,y,_,hy,rfl,λz hz=>?_⟩
   rw [tk] at hz
   rcases dg.mp hz with q | q
   ·have:=hle z q
    grind
   ·obtain rfl:z=y:=by simpa using q
    exact pV
  ·have c':¬x.2<y.2:=λz=>gY (gQ.mpr c) (Rc.mpr z)
   rw?
   refine ⟨rfl,x,_,hm,rfl,λz hz=>?_⟩
   rw [tk] at hz
   rcases dg.mp hz with q | q
   ·exact hle z q
   ·obtain rfl:z=y:=by simpa using q
    exact jz.mp c'
 ·rintro σ H3 ⟨rfl,x,v2,hm,rfl,hle⟩
  rw?
  refine k x hm λy hy=>hle y ?_
  have e:(cX rs).length=rs.length:=gV ..
  rw [e,jR]
  exact hy
theorem oJ:aE ["quotients","found","quotient"] ["quotients"] (ah vO):=0#a
theorem J7 (F:cR K "smallest" "smallest" vO f fd) (cP:Dn P w K mg base 1 "order" ["one","other"] iW):bf P w K mg base cY 2 f fd ["quotients"] xF:=by
 refine F.ok oJ 0#e 0#b
 ·obtain ⟨l,rs,n,rfl,_⟩:=h
  rfl
 obtain ⟨l,rs,n,rfl,hl,hq,hn,hp,k⟩:=h
 have g0:rs[0]?=some rs[0]:=mC hp
 refine bG ⟨_,(aq (aK 1 oJ.nd (Jd.iL K 0#j)) (aq (c7 fQ rfl (dB K 0#j) (bX (i:=2) oJ.nd rfl 0#k) (aH (bW (bC lQ (bY cP hr 0#s 0#p) aA 0#J) (aH (aK 1 oJ.nd 0#s)) cj))) (aH (aV 0#p)))),?_⟩
 rw?
 refine cK hl (v:=.ref (rs[0]).1) (gW (j:=0) (by unfold cX;rw [dw,g0];rfl)) ?_
 rw?
 refine dJ (iD ?_)
 rw?
 refine ⟨l,rfl,⟨_,aX.of hl⟩,eK (xs:=cX rs) (λi σ H3=>H3=H∧∃(x:av×Rat) (v:Option V),x∈rs∧σ=[some 0#U,some (.ref x.1),v]∧∀y∈rs.take i,x.2≤y.2) ?_ ?_ ?_ ?_⟩
 ·exact ⟨rfl,rs[0],none,FI hp,rfl,λy hy=>by simp at hy⟩
 ·rintro i σ H3 _ ⟨rfl,_⟩
  exact aX.of hl
 ·rintro i v σ H3 hx ⟨rfl,x,v2,hm,rfl,hle⟩
  obtain ⟨y,gy,rfl⟩:=Ke hx
  have hy:=lP gy
  have tk:rs.take (i+1)=rs.take i++[y]:=by rw [rF,gy];rfl
  rw?
  refine ⟨y.1,x.1,y.2,x.2,n,n,rfl,hq y hy,hq x hm,by try?,λo Rc ho2=>?_⟩
  rw?
  refine cD 0#y 0#y
  ·have c':=ho2.mp (jw c)
   rw?
   refine ⟨rfl,y,_,hy,rfl,λz hz=>?_⟩
   rw [tk] at hz
   rcases dg.mp hz with q | q
   ·have:=hle z q
    grind
   ·obtain rfl:z=y:=by simpa using q
    exact pV
  ·have c':¬y.2<x.2:=λz=>gY (gQ.mpr c) (ho2.mpr z)
   rw?
   refine ⟨rfl,x,_,hm,rfl,λz hz=>?_⟩
   rw [tk] at hz
   rcases dg.mp hz with q | q
   ·exact hle z q
   ·obtain rfl:z=y:=by simpa using q
    exact jz.mp c'
 ·rintro σ H3 ⟨rfl,x,v2,hm,rfl,hle⟩
  rw?
  refine k x hm λy hy=>hle y ?_
  have e:(cX rs).length=rs.length:=gV ..
  rw [e,jR]
  exact hy
theorem AV (F:cR K "loose_slope" "loose_slope" iV f fd) (aS:Dn P w K mg base 1 "loose_minus" ["one","other"] (iH (·-·) 1)):bf P w K mg base cY 3 f fd ["one","other"] mP:=by
 refine F.ok cW 0#e 0#b
 ·obtain ⟨p,r,t,t',q,q',n,n',m,rfl,_⟩:=h
  rfl
 obtain ⟨p,r,t,t',q,q',n,n',m,rfl,⟨v,hp,hv,zt⟩,⟨v',hr',hv',zt'⟩,ht,hn,k⟩:=h
 refine bG ⟨_,(aq (aK 2 cW.nd (bY aS hr 0#Q 0#I)) (aq (aK 3 cW.nd (aI bL 0#Q 0#I)) (aq (bW (bC lQ 0#E aA 0#J) (aH (aV (bJ (bq (fR cZ (aJ K 0#s)) (aI aQ (aJ K 0#s) (fR cZ 0#E)))))) cj) (aH (aV (bJ (bq (aJ K 0#s) (aI aQ (aJ K 0#s) 0#E)))))))),?_⟩
 rw?
 refine ⟨v',v,q',q,n',n,rfl,hv',hv,by try?,λx H1 s1 e1=>?_⟩
 obtain ⟨a,b,hx,hq,za,zb⟩:=e1
 have hp1:=s1 _ _ hp
 have hr1:=s1 _ _ hr'
 have zs:Sz (m+1) (t'-t):=zt'.sub zt
 rw?
 refine cD 0#y 0#y
 ·have c':t'-t<0:=jw c
  try?
 ·rw?
  refine gT (bV zb zs 0#d) ?_
  rw?
  refine aF (mk:=.tup) 0#f λy H2 s2 n2 e2=>?_
  have q2:=hq.div (s:=t'-t) 0#d
  rw [oh] at q2
  exact k y H2 (s1.trans s2) ⟨_,_,e2,q2,za.mono 0#d,(zb.mul zs).mono 0#d⟩
theorem bO:aE ["samples","first","bound","start","found","gentlest","steepest","place","moment","value","steep","gentle","steeper"] ["samples","first","bound"] (ah oZ):=0#a
theorem Cq (F:cR K "good_behind" "good_behind" oZ f fd) (T:Txt mg) (cP:Dn P w K mg base 1 "order" ["one","other"] iW) (bP:Dn P w K mg base 1 "loose_plus" ["one","other"] (iH (·+·) 1)) (aS:Dn P w K mg base 1 "loose_minus" ["one","other"] (iH (·-·) 1))
 (bN:Dn P w K mg base 3 "loose_slope" ["one","other"] mP) (c9:Dn P w K mg base 2 "greatest" ["quotients"] uz) (gF:Dn P w K mg base 2 "smallest" ["quotients"] xF):bf P w K mg base cY 4 f fd ["samples","first","bound"] Ib:=by
 refine F.ok bO 0#e 0#b
 ·obtain ⟨l,pb,es,i,n,nb,β,rfl,_⟩:=h
  rfl
 obtain ⟨l,pb,es,i,n,nb,β,rfl,hl,hR,hS,dH,hi,kJ,hb,hn,hnb,k⟩:=h
 obtain ⟨xi,gi,fi⟩:=cT hR hS hi
 refine bG ⟨_,(aq (aK 3 bO.nd (bB 0#Z 0#j 0#p 0#h)) (aq (aK 4 bO.nd (dI dX)) (aq (aK 5 bO.nd dN) (aq (aK 6 bO.nd dN) (aq (c7 fQ rfl (sq rfl T.range (bq (aI aW 0#p aA) 0#V)) (bX (i:=7) bO.nd rfl 0#k) (aq (aK 8 bO.nd (aJ K (bB 0#Z 0#j (aa 7) 0#h))) (aq (aK 9 bO.nd (aJ K (bB 0#Z 0#j (aa 7) 0#h))) (aq (aK 10 bO.nd (bY bN hr 0#E (bB 0#Z 0#j (aa 7) 0#h))) (aq (aK 11 bO.nd (bY bN hr 0#E (bJ (bq (aa 8) (bY aS hr (aa 9) 0#s))))) (aq (aK 12 bO.nd (bY bN hr 0#E (bJ (bq (aa 8) (bY bP hr (aa 9) 0#s))))) (aq (bW (bC qz (aa 5) dN 0#J) (aq (aK 5 bO.nd (aa 11)) (aq (aK 6 bO.nd (aa 12)) (aq (eO (gM K 0#X (aa 7)) (hs:=eF)) (aH Jd.sI)))) cj) (aq (bW (jj (rg (bC Ka (bY cP hr (aa 5) (aa 10)) aA 0#J) (sr (bC Ka (bY cP hr (aa 10) (aa 6)) aA 0#J)))) (aH (eO (gM K 0#X (aa 7)) (hs:=eF))) cj) (aq (aK 5 bO.nd (Jd.c1 c9 hr (dI (bq (aa 5) (aa 11))))) (aH (aK 6 bO.nd (Jd.c1 gF hr (dI (bq (aa 6) (aa 12))))))))))))))) (aH (aV 0#X))))))),?_⟩
 rw?
 refine cK hl (eG gi rfl) ?_
 rw?
 refine aF (mk:=.lst) 0#f λR H1 s1 n1 e1=>?_
 rw?
 refine dJ (nB ?_)
 rw?
 refine cy (.inl (aX.of (s1 _ _ hl))) ?_
 rw [aN]
 rw?
 refine ⟨_,_,rfl,1#b,cA (λm σ H3=>Xs9 λ(js:List Nat) (gv sv:V) (v7 v8 v9 v10 v11 v12:Option V)=>σ=[some 0#U,some (.int i),some (.ref pb),some (.ref xi.1),some (.ref R),some gv,some sv,v7,v8,v9,v10,v11,v12] ∧
  au H H3∧H3 R=some (.lst (fZ js))∧js.length≤m∧(∀j,j∈js↔i<j∧j<i+1+m∧Good es β i j)∧((m=0∧gv=.bM)∨(0<m∧∃(pg ps:av) (G S:Rat),gv=.ref pg∧sv=.ref ps∧bS H3 pg G (3*n+nb+3)∧bS H3 ps S (3*n+nb+3) ∧
   (∀k,i<k→k<i+1+m→dR es β i k≤G∧S≤cS es β i k)∧(∃k,i<k∧k<i+1+m∧dR es β i k=G)∧∃k,i<k∧k<i+1+m∧cS es β i k=S))) ?_ ?_ ?_⟩
 ·exact ⟨[],.bM,.bM,none,none,none,none,none,none,rfl,s1,e1,mD _,λj=>⟨λz=>absurd z 0#f,λz=>absurd z 0#d⟩,.inl ⟨rfl,rfl⟩⟩
 ·rintro m σ H3 hm ⟨js,gv,sv,v7,v8,v9,v10,v11,v12,rfl,s3,e3,hlen,V3,hI⟩
  refine cE λM Bk RR hM _ _=>?_
  have hp:i+1+m<es.length:=by try?
  obtain ⟨xp,gp,fp⟩:=cT (hR.up s3) hS hp
  obtain ⟨vp,ep,fvp,ztp⟩:=id fp
  have ht:=iu dH (show i<i+1+m by try?) hp
  have hl3:=s3 _ _ hl
  rw?
  refine cK hl3 (eG gp 0#d) ?_
  rw?
  refine cK hl3 (eG gp 0#d) ?_
  rw?
  refine cK hl3 (eG gp 0#d) ?_
  rw?
  refine ⟨xi.1,xp.1,_,_,_,_,n,n,n,rfl,(fi.up s3).YJ,fp.YJ,ht,by try?,λps4 H4 s4 f4=>?_⟩
  rw?
  refine ⟨vp,pb,_,_,n,nb,rfl,(fvp.up s4).qt,hb.up 0#S,by try?,λy5 H5 s5 f5=>?_⟩
  rw?
  refine aF (mk:=.tup) 0#f λy6 H6 s6 n6 e6=>?_
  have V6:=s4.trans (s5.trans s6)
  refine ⟨xi.1,y6,_,_,_,_,n,n+nb+1,n,rfl,(fi.up (s3.trans V6)).YJ,⟨y5,e6,f5.up s6,ztp⟩,ht,by try?,λpg7 H7 s7 f7=>?_⟩
  rw?
  have s37:=V6.trans s7
  refine ⟨vp,pb,_,_,n,nb,rfl,(fvp.up s37).qt,hb.up (s3.trans s37),by try?,λy8 H8 s8 f8=>?_⟩
  rw?
  refine aF (mk:=.tup) 0#f λy9 H9 s9 n9 e9=>?_
  have s39:=s37.trans (s8.trans s9)
  refine ⟨xi.1,y9,_,_,_,_,n,n+nb+1,n,rfl,(fi.up (s3.trans s39)).YJ,⟨y8,e9,f8.up s9,ztp⟩,ht,by try?,λMT vf pC f10=>?_⟩
  have Es:=s39.trans pC
  have Um:=s8.trans (s9.trans pC)
  have DV:=Es _ _ e3
  have abx:bS vf pg7 (dR es β i (i+1+m)) (3*n+nb+3):=(f7.up Um).mono 0#d
  have Su:bS vf MT (cS es β i (i+1+m)) (3*n+nb+3):=f10.mono 0#d
  have aeg:bS vf ps4 (UE es i (i+1+m)) (3*n+2):=(f4.up ((s5.trans (s6.trans s7)).trans Um)).mono 0#d
  have aei:((i:Int)+1+(m:Int))=((i+1+m:Nat):Int):=by try?
  rw?
  rcases hI with ⟨rfl,rfl⟩ | ⟨hm0,pg,ps,G,S,rfl,rfl,hG,hS2,hall,adf,adg⟩
  ·refine 0#M
   rw?
   refine cB ?_
   rw?
   refine ⟨.inl ⟨rfl,_,aX.of DV⟩,?_⟩
   rw?
   rw [aei]
   refine cJ DV (by rw [jl];exact aO 0#d) ?_
   rw?
   refine hM _ _ ⟨js++[i+1+0],_,_,_,_,_,_,_,_,rfl,aZ (s3.trans Es) n1,by rw [aB,← qx],by rw [fj];show js.length+1≤1;try?,λj=>?_,.inr ⟨by try?,pg7,MT,_,_,rfl,rfl,abx.app DV,Su.app DV,λk h1 h2=>?_,⟨i+1+0,by try?,by try?,rfl⟩,⟨i+1+0,by try?,by try?,rfl⟩⟩⟩
   ·have hj0:js=[]:=NH.mp 0#d
    rw [hj0]
    constructor
    ·intro z
     obtain rfl:j=i+1+0:=by simpa using z
     exact ⟨by try?,by try?,λk h1 h2=>by try?⟩
    ·rintro ⟨h1,h2,_⟩
     have:j=i+1+0:=by try?
     simp [this]
   ·obtain rfl:k=i+1+0:=by try?
    exact ⟨pV,pV⟩
  ·refine 0#M
   rw?
   refine bI ?_
   have hgood:∀{P:Prop},(G≤UE es i (i+1+m)∧UE es i (i+1+m)≤S)=P→(Good es β i (i+1+m)↔P):=λe=>by
    rw [← e]
    constructor
    ·intro g
     obtain ⟨k1,a1,b1,c1⟩:=adf
     obtain ⟨k2,a2,b2,c2⟩:=adg
     exact ⟨by rw [← c1];exact ((r8 dH a1 b1 hp).mp (g k1 a1 b1)).1,by rw [← c2];exact ((r8 dH a2 b2 hp).mp (g k2 a2 b2)).2⟩
    ·rintro ⟨g1,g2⟩ k h1 h2
     obtain ⟨l1,l2⟩:=hall k h1 h2
     exact (r8 dH h1 h2 hp).mpr ⟨by grind,by grind⟩
   have keep:¬Good es β i (i+1+m)→∀j,j∈js↔i<j∧j<i+1+(m+1)∧Good es β i j:=λng j=>by
    rw [V3 j]
    constructor
    ·rintro ⟨a,b,c⟩
     exact ⟨a,by try?,c⟩
    ·rintro ⟨a,b,c⟩
     refine ⟨a,?_,c⟩
     by_cases hj:j=i+1+m
     ·subst hj
      exact absurd c ng
     ·try?
   have more:Good es β i (i+1+m)→∀j,j∈js++[i+1+m]↔i<j∧j<i+1+(m+1)∧Good es β i j:=λg j=>by
    rw [dg,V3 j,DQ]
    constructor
    ·rintro (⟨a,b,c⟩ | rfl)
     ·exact ⟨a,by try?,c⟩
     ·exact ⟨by try?,by try?,g⟩
    ·rintro ⟨a,b,c⟩
     by_cases hj:j=i+1+m
     ·exact .inr hj
     ·exact .inl ⟨a,by try?,c⟩
   with_reducible refine T8 ?_
   with_reducible refine gX (λσ' H'=>∃Rg:List Nat,σ'=[some 0#U,some (.int (i:Int)),some (.ref pb),some (.ref xi.1),some (.ref R),some (.ref pg),some (.ref ps),some (.int ((i:Int)+1+(m:Int))),some (.int (mo es (i+1+m))),some (.ref vp),some (.ref ps4),some (.ref pg7),some (.ref MT)]∧au H H'∧(∀{p:av} {q:Rat},bS vf p q (3*n+nb+3)→bS H' p q (3*n+nb+3))∧H' R=some (.lst (fZ Rg))∧Rg.length≤m+1∧∀j,j∈Rg↔i<j∧j<i+1+(m+1)∧Good es β i j) (λσ' H' hP=>?_) (λN hN=>?_)
   rotate_left
   ·rw?
    refine ⟨pg,ps4,_,_,_,_,rfl,hG.up Es,aeg,by try?,λo Rc ho2=>?_⟩
    have no:¬Good es β i (i+1+m)→N _ vf:=λng=>hN _ _ ⟨js,rfl,s3.trans Es,λf=>f,DV,by try?,keep ng⟩
    rw?
    refine cD 0#C 0#C
    ·have rW:G≤UE es i (i+1+m):=jz.mp λz=>by
      have:=Rc.mpr z
      have:=jw c1
      try?
     rw?
     refine ⟨ps4,ps,_,_,_,_,rfl,aeg,hS2.up Es,by try?,λo2 ho3 ho4=>?_⟩
     rw?
     refine cD (λc2=>?_) (λc2=>?_)
     ·have Wk:UE es i (i+1+m)≤S:=jz.mp λz=>by
       have:=ho3.mpr z
       have:=jw c2
       try?
      rw?
      refine ⟨.inl ⟨rfl,_,aX.of DV⟩,?_⟩
      rw?
      refine cJ DV (by rw [jl];exact aO 0#d) ?_
      exact hN _ _ ⟨js++[i+1+m],rfl,aZ (s3.trans Es) n1,λf=>f.app DV,by rw [aB,aei,← qx],by rw [fj];show js.length+1≤m+1;try?,more ((hgood rfl).mpr ⟨rW,Wk⟩)⟩
     ·rw?
      refine no λg=>?_
      have h1:¬0<o2:=λq=>by
       have:=ho3.mp q
       have:=((hgood rfl).mp g).2
       grind
      have h2:=gY (gQ.mpr c2)
      try?
    ·refine bI ?_
     rw?
     refine no λg=>?_
     have h1:¬0<o:=λq=>by
      have:=Rc.mp q
      have:=((hgood rfl).mp g).1
      grind
     have h2:=gY (gQ.mpr c1)
     try?
   obtain ⟨Rg,rfl,sH,lq,eR',hl',afH⟩:=hP
   rw?
   refine aF (mk:=.lst) 0#f λl12 H12 s12 n12 e12=>?_
   rw?
   refine ⟨l12,[(pg,G),(pg7,dR es β i (i+1+m))],3*n+nb+3,rfl,e12,λx hx=>?_,by try?,VE _,λx hx uG=>?_⟩
   ·rcases (show x=(pg,G)∨x=(pg7,dR es β i (i+1+m)) by simpa using hx) with rfl | rfl
    ·exact (lq (hG.up Es)).up s12
    ·exact (lq abx).up s12
   rw?
   refine aF (mk:=.lst) 0#f λl13 H13 xo n13 N1=>?_
   rw?
   refine ⟨l13,[(ps,S),(MT,cS es β i (i+1+m))],3*n+nb+3,rfl,N1,λy hy=>?_,by try?,VE _,λy hy hmin=>?_⟩
   ·rcases (show y=(ps,S)∨y=(MT,cS es β i (i+1+m)) by simpa using hy) with rfl | rfl
    ·exact (lq (hS2.up Es)).up (s12.trans xo)
    ·exact (lq Su).up (s12.trans xo)
   rw?
   have uT:=s12.trans xo
   have hx':(x=(pg,G)∨x=(pg7,dR es β i (i+1+m))):=by simpa using hx
   have hy':(y=(ps,S)∨y=(MT,cS es β i (i+1+m))):=by simpa using hy
   have x1:=uG (pg,G) 0#f
   have x2:=uG (pg7,dR es β i (i+1+m)) 0#f
   have y1:=hmin (ps,S) 0#f
   have y2:=hmin (MT,cS es β i (i+1+m)) 0#f
   refine hM _ _ ⟨Rg,_,_,_,_,_,_,_,_,rfl,sH.trans uT,uT _ _ eR',hl',afH,.inr ⟨by try?,x.1,y.1,x.2,y.2,rfl,rfl,?_,?_,λk h1 h2=>?_,?_,?_⟩⟩
   ·rcases hx' with rfl | rfl
    ·exact (lq (hG.up Es)).up uT
    ·exact (lq abx).up uT
   ·rcases hy' with rfl | rfl
    ·exact (lq (hS2.up Es)).up uT
    ·exact (lq Su).up uT
   ·by_cases hk:k=i+1+m
    ·subst hk
     exact ⟨x2,y2⟩
    ·obtain ⟨l1,l2⟩:=hall k h1 0#d
     exact ⟨pU l1 x1,pU y1 l2⟩
   ·rcases hx' with rfl | rfl
    ·obtain ⟨k1,a1,b1,c1⟩:=adf
     exact ⟨k1,a1,by try?,c1⟩
    ·exact ⟨i+1+m,by try?,by try?,rfl⟩
   ·rcases hy' with rfl | rfl
    ·obtain ⟨k1,a1,b1,c1⟩:=adg
     exact ⟨k1,a1,by try?,c1⟩
    ·exact ⟨i+1+m,by try?,by try?,rfl⟩
 ·rintro σ H3 ⟨js,gv,sv,v7,v8,v9,v10,v11,v12,rfl,s3,e3,hlen,V3,hI⟩
  rw?
  have hjl:js.length≤es.length:=by
   clear hI V3
   try?
  refine k R js H3 s3 n1 e3 hjl λj=>?_
  rw [V3 j]
  have e:i+1+((es.length:Int)-((i:Int)+1)).toNat=es.length:=by
   clear hI V3
   try?
  rw [e]
theorem xu:aE ["samples","bound","tied","found","first","good"] ["samples","bound","tied"] (ah HH):=0#a
theorem Tg (F:cR K "leaps" "leaps" HH f fd) (T:Txt mg) (oO:Dn P w K mg base 4 "good_behind" ["samples","first","bound"] Ib):bf P w K mg base cY 5 f fd ["samples","bound","tied"] BA:=by
 refine F.ok xu 0#e 0#b
 ·obtain ⟨l,pb,es,n,nb,β,ao,rfl,_⟩:=h
  rfl
 obtain ⟨l,pb,es,n,nb,β,ao,rfl,hl,hR,hS,dH,kJ,hb,hn,hnb,k⟩:=h
 refine bG ⟨_,(aq (aK 3 xu.nd (dI dX)) (aq (c7 fQ rfl (uQ rfl T.range (dD 0#V)) (bX (i:=4) xu.nd rfl 0#k) (aq (aK 5 xu.nd (Jd.c3 oO hr 0#j 0#X 0#p)) (aH (eO (gM K 0#E (su (ir 0#s) (aa 5) (aI yO (dI (dD (aI aW 0#X aA))) (oz (O:=["last"]) (N':=[]) (cap:=[]) rfl (dB K (aa 5)) (λ_ _ _ _ _=>(bX (i:=0) (show jd [("last":Str)] by decide +kernel) rfl 0#k)) 1#d (λ_ _ _ _ _=>(aI aW 0#j aA)) rfl trivial rfl 0#g rfl 0#g)))) (hs:=eF))))) (aH (aV 0#E)))),?_⟩
 rw?
 refine aF (mk:=.lst) 0#f λFF H1 s1 n1 e1=>?_
 rw?
 refine dJ (qD ?_)
 rw?
 refine cy (.inl (aX.of (s1 _ _ hl))) ?_
 rw [aN]
 rw?
 refine ⟨_,rfl,by lia,by lia,cA (λm σ H3=>NP λ(rs:List (av×List Nat)) (v4 v5:Option V)=>σ=[some 0#U,some (.ref pb),some (.bl ao),some (.ref FF),v4,v5]∧au H H3∧Rr H3 FF rs∧rs.length=m∧BL es β ao rs) ?_ ?_ ?_⟩
 ·exact ⟨[],none,none,rfl,s1,⟨e1,λx hx=>absurd hx 0#f⟩,rfl,λi x hx=>by simp at hx⟩
 ·rintro m σ H3 hm ⟨rs,v4,v5,rfl,s3,hL,hlen,hle⟩
  have hm':m<es.length:=by try?
  rw [show (0:Int)+(m:Int)=(m:Int) by try?]
  rw?
  refine ⟨l,pb,es,m,n,nb,β,rfl,s3 _ _ hl,hR.up s3,hS,dH,hm',kJ,hb.up s3,hn,hnb,λR js H4 s4 nR eR hjl V3=>?_⟩
  have Bl:=hL.up s4
  have nRF:R≠FF:=λz=>by
   rw [z,hL.at_] at nR
   cases nR
  have small:(rs.map λx=>V.ref x.1).length<sizeLine:=by rw [gV];exact aO 0#d
    -- one list more
  have fin:∀(R':av) (Rg:List Nat) (H5:Hp) (v4 v5:Option V),au H4 H5→H5 R'=some (.lst (fZ Rg))→R'≠FF→Rg.length≤es.length+1→(∀j,j∈Rg↔d7 es β ao m j) →
   NP λ(rs':List (av×List Nat)) (w4 w5:Option V)=>[some 0#U,some (.ref pb),some (.bl ao),some (.ref FF),v4,v5]=[some 0#U,some (.ref pb),some (.bl ao),some (.ref FF),w4,w5]∧au H (upd H5 FF (.lst (rs.map (λx=>V.ref x.1)++[.ref R'])))∧Rr (upd H5 FF (.lst (rs.map (λx=>V.ref x.1)++[.ref R']))) FF rs'∧rs'.length=m+1∧BL es β ao rs':=by
   intro R' Rg H5 v4 v5 s5 eR' nR' hl' hj'
   refine ⟨rs++[(R',Rg)],v4,v5,rfl,aZ ((s3.trans s4).trans s5) n1,(Bl.up s5).push eR' nR',by rw [fj,hlen];rfl,λi x hx=>?_⟩
   by_cases hi:i<rs.length
   ·rw [yb hi] at hx
    exact hle i x hx
   ·rw [ya 0#d] at hx
    have hi2:i-rs.length=0:=by
     have:=(lS.mp hx).1
     simp at this
     try?
    rw [hi2] at hx
    obtain rfl:(R',Rg)=x:=by simpa using hx
    have:i=m:=by try?
    subst this
    exact ⟨hl',hj'⟩
  rw?
  refine ⟨.inl ⟨rfl,_,aX.of Bl.at_⟩,?_⟩
  rw?
  cases ao with
  | true=>
    refine cB ?_
    rw?
    refine cJ Bl.at_ small ?_
    exact fin R js H4 _ _ 0#x eR nRF 0#d λj=>by
     unfold d7
     rw [if_pos rfl]
     exact V3 j
  | false=>
    refine bI ?_
    rw?
    refine aF (mk:=.lst) 0#f λl5 H5 s5 n5 e5=>?_
    rw?
    refine iD ?_
    rw?
    refine ⟨R,rfl,⟨_,aX.of (s5 _ _ eR)⟩,?_⟩
    refine cF (xs:=fZ js) bZ (λH6 s6=>aX.of (s6 _ _ (s5 _ _ eR))) (by rw [jl];try?) (λi ys G=>ys=fZ ((js.take i).map (·+1))) rfl ?_ ?_
    ·rintro D i x ys H6 jV N N0 h0 hD eD s6 hx hy rfl kY kN
     obtain ⟨j,gj,rfl⟩:=JS hx
     have tk:js.take (i+1)=js.take i++[j]:=by rw [rF,gj];rfl
     refine fO h0 ?_
     rw?
     refine cB ?_
     rw?
     refine kY _ H6 0#x ?_
     rw [tk,iI]
     exact qx _ (j+1)
    ·rintro D ys H6 hD eD s6 hy rfl
     rw [jl,jR] at eD
     refine Fg (s6 _ _ e5) eD ?_
     refine aF (mk:=.lst) (by rw [fj,jl,gV];simp;try?) λR7 H7 s7 n7 e7=>?_
     have s47:=s5.trans (s6.trans s7)
     have e7':H7 R7=some (.lst (fZ ((m+1)::js.map (·+1)))):=e7
     rw?
     refine cJ (Bl.up s47).at_ small ?_
     refine fin R7 ((m+1)::js.map (·+1)) H7 _ _ s47 e7' (λz=>?_) (by simp;try?) λj=>?_
     ·rw [z,((Bl.up s5).up s6).at_] at n7
      cases n7
     ·unfold d7
      rw [if_neg dW,qU,gD]
      constructor
      ·rintro (rfl | ⟨j',hj',rfl⟩)
       ·exact ⟨hm',.inl rfl⟩
       ·obtain ⟨a,b,c⟩:=(V3 j').mp hj'
        exact ⟨hm',.inr ⟨by try?,by try?,c⟩⟩
      ·rintro ⟨_,rfl | ⟨a,b,c⟩⟩
       ·exact .inl rfl
       ·exact .inr ⟨j-1,(V3 (j-1)).mpr ⟨by try?,by try?,c⟩,by try?⟩
 ·rintro σ H3 ⟨rs,v4,v5,rfl,s3,hL,hlen,hle⟩
  rw?
  exact k FF rs H3 s3 n1 hL 0#d hle
theorem aem (N:Nat) (h:1≤N):[V.int 0]++(kT ((N:Int)-1).toNat [V.int (N:Int)]).flatten=ig N (λj=>if j=0 then 0 else (N:Int)):=by
 obtain ⟨m,rfl⟩:∃m,N=m+1:=⟨N-1,by try?⟩
 have e:(((m+1:Nat):Int)-1).toNat=m:=by try?
 rw [e]
 unfold ig
 apply ZC
 intro i
 by_cases hi:i<m+1
 ·rw [wM hi]
  cases i with
  | zero=>rfl
  | succ i=>
    show ((kT m [V.int ((m+1:Nat):Int)]).flatten)[i]?=_
    rw [show (kT m [V.int ((m+1:Nat):Int)]).flatten=kT m (V.int ((m+1:Nat):Int)) from List.flatten_replicate_singleton]
    rw [U4,if_pos 0#d]
    rfl
 ·rw [Zb (by rw [fj,len_rep];simp;try?),Zb (by simp;try?)]
theorem jK:aE ["found","many","told","first","behind","last"] ["found","many"] (ah sP):=0#a
theorem GZ (F:cR K "labels_by" "labels_by" sP f fd) (T:Txt mg):bf P w K mg base cY 1 f fd ["found","many"] xB:=by
 refine F.ok jK 0#e 0#b
 ·obtain ⟨FF,rs,N,L,rfl,_⟩:=h
  rfl
 obtain ⟨FF,rs,N,L,rfl,hF,h1,kJ,hNr,hrN,hrs,abc,hs,k⟩:=h
 refine bG ⟨_,(aq (aK 2 jK.nd (aI yO (dI (dD aA)) (aI TF (dI (dD 0#p)) (aI bL 0#p aA)))) (aq (c7 fQ rfl (Jd.Bs K rfl T.BY (dD 0#j)) (Jd.Ox K (n:=2) rfl (fS (bX (i:=3) jK.nd rfl 0#k) (fS (bX (i:=4) jK.nd rfl 0#k) pH))) (aH (c7 fQ rfl (dB K 0#X) (bX (i:=5) jK.nd rfl 0#k) (aH (Jd.sG (dQ (abA rfl) rfl T.Xc OU (bq (bB 0#Z 0#s (aa 5) 0#h) (aI aW (bB 0#Z 0#s 0#E 0#h) aA)) (he:=o9) (hpl:=(cu Iq cg))) (Jd.MR 0#s (aa 5) set_list)))))) (aH (aV 0#s)))),?_⟩
 rw?
 refine aF (mk:=.lst) 0#f λl1 H1 s1 n1 e1=>?_
 rw?
 refine aF (mk:=.lst) 0#f λl2 H2 s2 n2 e2=>?_
 rw?
 refine YH e2 0#c 0#c ?_
 refine aF (mk:=.lst) (by rw [len_rep];simp;try?) λl3 H3 s3 n3 e3=>?_
 rw?
 refine Fg (s3 _ _ (s2 _ _ e1)) e3 ?_
 refine aF (mk:=.lst) (by rw [fj,len_rep];simp;try?) λR H4 s4 n4 e4=>?_
 rw [aem N h1] at e4
 have nE:=s1.trans (s2.trans s3)
 have nR:H R=none:=nE.free n4
 have yg:=nE.trans s4
 rw?
 refine dJ (T7 ?_)
 rw?
 refine ⟨FF,_,rfl,aX.of (hF.up yg).at_,Sd (xs:=rs.map λx=>V.ref x.1) (λg σ H5=>Rv λ(t:Nat→Int) (v3 v4 v5:Option V)=>σ=[some (.ref FF),some (.int (N:Int)),some (.ref R),v3,v4,v5]∧au H H5∧H5 R=some (.lst (ig N t))∧qq L N g t) ?_ ?_ ?_ ?_⟩
 ·exact ⟨_,none,none,none,rfl,yg,e4,qq.start⟩
 ·rintro g σ H5 _ ⟨t,v3,v4,v5,rfl,s5,_⟩
  exact aX.of (hF.up s5).at_
 ·rintro g v σ H5 p H6 hx ⟨t,v3,v4,v5,rfl,s5,e5,hT⟩ s6 np ep
  rw [dw] at hx
  obtain ⟨x,gx,rfl⟩:=IC.mp hx
  have hg:g<rs.length:=(lS.mp gx).1
  have hgN:g<N:=by try?
  have V5:=hrs g x gx
  have ex:=(hF.each x (lP gx)).1
  have Fl:=s5.trans s6
  have tf0:=hT.lo g hgN
  have tf1:=hT.hi g hgN
  refine jq ep ?_
  rw?
  refine dJ (iD ?_)
  rw?
  refine ⟨x.1,rfl,⟨_,aX.of (Fl _ _ ex)⟩,eK (xs:=fZ x.2) (λm σ H7=>Lq λ(u:Nat→Int) (w5:Option V)=>σ=[some (.ref FF),some (.int (N:Int)),some (.ref R),some (.int (g:Int)),some (.ref x.1),w5]∧au H H7∧H7 R=some (.lst (ig N u)) ∧
   ∀j,j<N→(j∈x.2.take m→u j=if t g+1<t j then t g+1 else t j)∧(j∉x.2.take m→u j=t j)) ?_ ?_ ?_ ?_⟩
  ·exact ⟨t,_,rfl,Fl,s6 _ _ e5,λj _=>⟨λz=>by simp at z,λ_=>rfl⟩⟩
  ·rintro m σ H7 _ ⟨u,w5,rfl,s7,_⟩
   exact aX.of (s7 _ _ ex)
  ·rintro m v σ H7 hv ⟨u,w5,rfl,s7,e7,hu⟩
   obtain ⟨j,gj,rfl⟩:=JS hv
   have hj:=(V5 j).mp (lP gj)
   obtain ⟨hgj,hjN⟩:=abc g j hj
   have tk:x.2.take (m+1)=x.2.take m++[j]:=by rw [rF,gj];rfl
   have ng:g∉x.2.take m:=λz=>by
    have:=abc g g ((V5 g).mp (Zh z))
    try?
   have ug:=(hu g hgN).2 ng
   rw?
   refine Ff ?_
   rw?
   refine cK e7 (ic hjN rfl) ?_
   rw?
   refine cK e7 (ic hgN rfl) ?_
   rw?
   refine ab7 e7 (j:=j) (by rw [mK];exact SJ 0#d 0#d) ?_
   refine ⟨λi=>if i=j then (if u g+1<u j then u g+1 else u j) else u i,_,rfl,aZ s7 nR,?_,λi hi=>?_⟩
   ·rw [aB]
    unfold ig
    rw [Ea]
    refine congrArg (λz=>some (HO.lst z)) (U8 λi _=>?_)
    by_cases e:i=j
    ·simp [e]
    ·simp [e]
   ·rw [tk,ug]
    obtain ⟨hu1,hu2⟩:=hu i hi
    refine ⟨λz=>?_,λz=>?_⟩
    ·by_cases e:i=j
     ·subst e
      show (if i=i then _ else _)=_
      rw [if_pos rfl]
      by_cases hm:i∈x.2.take m
      ·rw [hu1 hm]
       by_cases q:t g+1<t i
       ·rw [if_pos q,if_neg 0#d]
       ·rw [if_neg q,if_neg q]
      ·rw [hu2 hm]
     ·show (if i=j then _ else _)=_
      rw [if_neg e]
      rcases dg.mp z with q | q
      ·exact hu1 q
      ·exact absurd (by simpa using q) e
    ·have e:i≠j:=λq=>z (by rw [q];simp)
     show (if i=j then _ else _)=_
     rw [if_neg e]
     exact hu2 λq=>z (Fz _ q)
  ·rintro σ H7 ⟨u,w5,rfl,s7,e7,hu⟩
   rw [jl,jR] at hu
   refine ⟨u,_,_,_,rfl,s7,e7,hT.step (λj hj=>(abc g j hj).1) (λj hj=>⟨λz=>(hu j hj).1 ((V5 j).mpr z),λz=>(hu j hj).2 λq=>z ((V5 j).mp q)⟩) hgN⟩
 ·rintro σ H5 ⟨t,v3,v4,v5,rfl,s5,e5,hT⟩
  rw [gV] at hT
  rw?
  exact k R t H5 s5 nR e5 (hT.done hs 0#d)
theorem QN:aE ["samples","bound","tied"] ["samples","bound","tied"] (ah CY):=0#a
theorem Qy (F:cR K "labels" "labels" CY f fd) (T:Txt mg) (t8:Dn P w K mg base 5 "leaps" ["samples","bound","tied"] BA) (jf:Dn P w K mg base 1 "labels_by" ["found","many"] xB):bf P w K mg base cY 6 f fd ["samples","bound","tied"] Dd:=by
 refine F.ok QN 0#e 0#b
 ·obtain ⟨l,pb,es,n,nb,β,ao,rfl,_⟩:=h
  rfl
 obtain ⟨l,pb,es,n,nb,β,ao,rfl,hl,hR,hS,dH,h1,afw,hb,hn,hnb,k⟩:=h
 refine bG ⟨_,(aH (aV (bY jf hr (Jd.c3 t8 hr 0#j 0#p 0#s) (su (ir 0#s) 0#V (aI aW 0#V aA))))),?_⟩
 rw?
 refine ⟨l,pb,es,n,nb,β,ao,rfl,hl,hR,hS,dH,by try?,hb,hn,hnb,λFF rs H1 s1 nF hF hlen hle=>?_⟩
 rw?
 have s1l:=s1 _ _ hl
 cases ao with
 | true=>
   refine cB ?_
   rw?
   refine cy (.inl (aX.of s1l)) ?_
   rw [aN]
   rw?
   refine ⟨FF,rs,es.length,d7 es β true,rfl,hF,h1,by try?,by try?,by try?,λi x hx=>(hle i x hx).2,λi j hL=>?_,λj h0 hj=>?_,λR t H2 s2 nR eR hf=>?_⟩
   ·unfold d7 at hL
    rw [if_pos rfl] at hL
    exact ⟨hL.1,hL.2.1⟩
   ·unfold d7
    rw [if_pos rfl]
    exact ⟨by try?,hj,λk h1 h2=>by try?⟩
   ·exact k R t H2 (s1.trans s2) (s1.free nR) (by rw [if_pos rfl];exact eR) (by rw [if_pos rfl];exact hf)
 | false=>
   refine bI ?_
   rw?
   refine cy (.inl (aX.of s1l)) ?_
   rw [aN]
   rw?
   refine ⟨FF,rs,es.length+1,d7 es β false,rfl,hF,by try?,by try?,by try?,by try?,λi x hx=>(hle i x hx).2,λi j hL=>?_,λj h0 hj=>?_,λR t H2 s2 nR eR hf=>?_⟩
   ·unfold d7 at hL
    rw [if_neg dW] at hL
    rcases hL with ⟨a,rfl | ⟨b,c,_⟩⟩
    ·exact ⟨by try?,by try?⟩
    ·exact ⟨by try?,by try?⟩
   ·unfold d7
    rw [if_neg dW]
    exact ⟨by try?,.inl 0#d⟩
   ·exact k R t H2 (s1.trans s2) (s1.free nR) (by rw [if_neg dW];exact eR) (by rw [if_neg dW];exact hf)
end
theorem Qk {b:Int} (h:es.map (·.2)=hs.map (λx=>cz b x.2))  (hb:1≤b) (dH:fV hs) (hij:i≤j) (hj:j<hs.length) :
 (∀k,i<k→k<j→((yE hs i k j).natAbs:Int)≤c*(dZ hs j-dZ hs i))↔Good es 0#t i j:=by
 unfold Good
 by_cases e:i=j
 ·subst e
  exact ⟨λ_ k h1 h2=>by try?,λ_ k h1 h2=>by try?⟩
 ·have ht:=Ck dH (show i<j by try?) hj
  have hp:=cast_pos (b:=(dZ hs j-dZ hs i)*b) (xV 0#d 0#d)
  have hb':=cI (b:=b) 0#d
  have one:∀k,((yE hs i k j).natAbs:Int)≤c*(dZ hs j-dZ hs i)↔dO (sd es i k j)≤(c:Rat)/(b:Rat):=λk=>by
   have e1:0#t*(((dZ hs j-dZ hs i)*b:Int):Rat)=((c*(dZ hs j-dZ hs i):Int):Rat):=by
    simp only [nY,oh]
    grind
   rw [← KG,SQ h hb ht,← e1]
   constructor
   ·intro z
    exact OJ z hp
   ·intro z
    exact zQ z 0#O
  exact ⟨λz k h1 h2=>(one k).mp (z k h1 h2),λz k h1 h2=>(one k).mpr (z k h1 h2)⟩
def aU (ao:Bool):Nat:=if ao=true then 0 else 1
theorem jk (hk:k<a) (ha:a<es.length+aU ao):d7 es β ao k a↔Good es β k (a-aU ao):=by
 unfold d7 aU at *
 cases ao with
 | true=>
   rw [if_pos rfl] at ha ⊢
   rw [if_pos rfl]
   exact ⟨λz=>z.2.2,λz=>⟨hk,by try?,z⟩⟩
 | false=>
   rw [if_neg dW] at ha ⊢
   rw [if_neg dW]
   constructor
   ·rintro ⟨_,rfl | ⟨_,_,g⟩⟩
    ·exact λk' h1 h2=>by try?
    ·exact g
   ·intro g
    refine ⟨by try?,?_⟩
    by_cases e:a=k+1
    ·exact .inl e
    ·exact .inr ⟨by try?,by try?,g⟩
def W5 {α:Type} (c:Nat→Nat→Bool) (v:Nat→Nat→α) (i m:Nat):List α:=((fM m).filter λq=>c i (i+1+q)).map λq=>v i (i+1+q)
def GG {α:Type} (c:Nat→Nat→Bool) (v:Nat→Nat→α) (N n:Nat):List α:=(fM n).flatMap λi=>W5 c v i (N-(i+1))
theorem JI (c:Nat→Nat→Bool) (v:Nat→Nat→α) (i m:Nat):W5 c v i (m+1)=W5 c v i m++(if c i (i+1+m)=true then [v i (i+1+m)] else []):=by
 unfold W5
 rw [vY,DR,iI]
 congr 1
 by_cases h:c i (i+1+m)=true
 ·simp [h]
 ·simp [h]
theorem E2 (c:Nat→Nat→Bool) (v:Nat→Nat→α) (N n:Nat):GG c v N (n+1)=GG c v N n++W5 c v n (N-(n+1)):=by
 unfold GG
 rw [vY,Zl]
 simp
theorem Oj (c:Nat→Nat→Bool) (v:Nat→Nat→α) (i m:Nat):(W5 c v i m).length≤m:=by
 unfold W5
 rw [gV]
 exact dP (OV ..) 0#f
theorem JJ (c:Nat→Nat→Bool) (v:Nat→Nat→α) (N:Nat):∀n,(GG c v N n).length≤n*N
 | 0=>by simp [GG]
 | n+1=>by
   rw [E2,fj]
   have h1:=JJ c v N n
   have h2:=Oj c v n (N-(n+1))
   have e:(n+1)*N=n*N+N:=by rw [VJ,VM]
   try?
open Classical in
def R9 (s:Nat→Rat) (i j:Nat):Nat:=if h:∃k,jW s i j k then Classical.choose h else 0
theorem Sa (h:jW s i j k):R9 s i j=k:=by
 unfold R9
 rw [dif_pos ⟨k,h⟩]
 exact (Classical.choose_spec (⟨k,h⟩:∃k,jW s i j k)).unique h
def jmp (t:Nat→Int) (i j:Nat):Bool:=decide (t j>t i+1)
def three (es:List En) (sh i j:Nat):Int×Int×Int:=(mo es i,mo es (R9 (λk=>dO (sd es i k (j-sh))) i (j-sh)),mo es (j-sh))
abbrev Th:=av×Int×Int×Int
def acL (H:Hp) (x:Th):Prop:=H x.1=some (.tup [.int x.2.1,.int x.2.2.1,.int x.2.2.2])
def qQ (ts:List Th):List V:=ts.map λx=>V.ref x.1
theorem Kx (ts:List Th) (x:Th):qQ ts++[.ref x.1]=qQ (ts++[x]):=by simp [qQ]
theorem NB (ts:List Th):(qQ ts).length=ts.length:=gV ..
def we (H:Hp) (ts:List Th):Prop:=∀x∈ts,acL H x
theorem we.up (h:we H ts) (s:au H H'):we H' ts:=λx hx=>s _ _ (h x hx)
theorem we.app (f:we H ts) (h:H R=some (.lst ys)):we (upd H R o) ts:=λx hx=>(uS R H o) _ _ (dY h (f x hx))
theorem we.snoc (h:we H ts) (hx:acL H x):we H (ts++[x]):=λy hy=>by
 rcases dg.mp hy with z | z
 ·exact h y z
 ·obtain rfl:y=x:=by simpa using z
  exact hx
inductive C7 (vs:List V) (H:Hp) (Q:VK) (E_:XK):Prop where
 | mk (l T:av) (es:List En) (n:Nat) (β:Rat) (ao:Bool) (t:Nat→Int):vs=[.ref l,.ref T,.bl ao]→H l=some 0#A→Row H es n→ia es→rising es→1≤es.length→es.length≤30→n≤900→H T=some (.lst (ig 0#H t))→jE (d7 es β ao) 0#H t→(∀(R:av) (ts:List Th) (H':Hp),au H H'→H R=none→H' R=some (.lst (qQ ts))→we H' ts→ts.map (·.2)=GG (jmp t) (three es (aU ao)) 0#H 0#H→Q (.ref R) H')→C7 vs H Q E_
theorem SK (hF:jE (d7 es β ao) 0#H t) (hij:i<j) (hj:j<es.length+aU ao) (agM:t j>t i+1):i+1<j-aU ao∧j-aU ao<es.length∧∃k,i<k∧k<j-aU ao∧β<dO (sd es i k (j-aU ao)):=by
 have hsh:aU ao≤1:=by unfold aU;split <;> try?
 have nL:¬d7 es β ao i j:=λz=>by
  have:=hF.le i j hij hj z
  try?
 rw [jk hij hj] at nL
 have:∃k,i<k∧k<j-aU ao∧β<dO (sd es i k (j-aU ao)):=by
  apply Q8
  intro z
  apply nL
  intro k h1 h2
  apply jz.mp
  intro q
  exact z ⟨k,h1,h2,q⟩
 obtain ⟨k,h1,h2,h3⟩:=this
 exact ⟨by try?,by try?,k,h1,h2,h3⟩
section
theorem kg:aE ["samples","told","tied","found","first","last","end","mid"] ["samples","told","tied"] (ah yV):=0#a
theorem Mx (F:cR K "bars_by" "bars_by" yV f fd) (T:Txt mg) (jZ:Dn P w K mg base 4 "loose_farthest" ["samples","first","last"] Nq):bf P w K mg base cY 5 f fd ["samples","told","tied"] C7:=by
 refine F.ok kg 0#e 0#b
 ·obtain ⟨l,TT,es,n,β,ao,t,rfl,_⟩:=h
  rfl
 obtain ⟨l,TT,es,n,β,ao,t,rfl,hl,hR,hS,dH,h1,h30,hn,eT,hF,k⟩:=h
 have hsh:aU ao≤1:=by unfold aU;split <;> try?
 generalize hN:es.length+aU ao=N at *
 refine bG ⟨_,(aq (aK 3 kg.nd (dI dX)) (aq (c7 fQ rfl (uQ rfl T.range (dD (eY K T.eU 0#p))) (bX (i:=4) kg.nd rfl 0#k) (aH (c7 fQ rfl (sq rfl T.range (bq (aI aW 0#X aA) (eY K T.eU 0#p))) (bX (i:=5) kg.nd rfl 0#k) (aH (bW (bC dS (bB 0#Z 0#p (aa 5) 0#h) (aI aW (bB 0#Z 0#p 0#X 0#h) aA) 0#J) (aq (aK 6 kg.nd (su (ir 0#s) (aa 5) (aI bL (aa 5) aA))) (aq (aK 7 kg.nd (aJ K (Jd.c3 jZ hr 0#j 0#X (aa 6)))) (aH (eO (gM K 0#E (bJ (Jd.a3 (aJ K (bB 0#Z 0#j 0#X 0#h)) (aJ K (bB 0#Z 0#j (aa 7) 0#h)) (aJ K (bB 0#Z 0#j (aa 6) 0#h))))) (hs:=eF))))) cj))))) (aH (aV 0#E)))),?_⟩
 rw?
 refine aF (mk:=.lst) 0#f λR H1 s1 n1 e1=>?_
 rw?
 refine dJ (qD ?_)
 rw?
 refine cy (.inl (aX.of (s1 _ _ eT))) ?_
 rw [mK]
 rw?
 refine ⟨_,rfl,by lia,by lia,cA (λi σ H3=>Xs5 λ(ts:List Th) (v4 v5 v6 v7:Option V)=>σ=[some 0#U,some (.ref TT),some (.bl ao),some (.ref R),v4,v5,v6,v7]∧au H H3∧H3 R=some (.lst (qQ ts))∧we H3 ts∧ts.map (·.2)=GG (jmp t) (three es (aU ao)) N i) ?_ ?_ ?_⟩
 ·exact ⟨[],none,none,none,none,rfl,s1,e1,λx hx=>absurd hx 0#f,rfl⟩
 ·rintro i σ H3 hi ⟨ts,v4,v5,v6,v7,rfl,s3,e3,hts,hmap⟩
  refine cE λM Bk RR hM _ _=>?_
  have hi':i<N:=by try?
  rw [show (0:Int)+(i:Int)=(i:Int) by try?]
  rw?
  refine dJ (nB ?_)
  rw?
  refine cy (.inl (aX.of (s3 _ _ eT))) ?_
  rw [mK]
  rw?
  refine ⟨_,_,rfl,1#b,cA (λm σ H4=>Rv λ(us:List Th) (w5 w6 w7:Option V)=>σ=[some 0#U,some (.ref TT),some (.bl ao),some (.ref R),some (.int (i:Int)),w5,w6,w7]∧au H H4∧H4 R=some (.lst (qQ us))∧we H4 us∧us.map (·.2)=GG (jmp t) (three es (aU ao)) N i++W5 (jmp t) (three es (aU ao)) i m) ?_ ?_ ?_⟩
  ·exact ⟨ts,_,_,_,rfl,s3,e3,hts,by rw [hmap];simp [W5]⟩
  ·rintro m σ H4 hm ⟨us,w5,w6,w7,rfl,s4,e4,JC,JB⟩
   refine cE λM2 B2 R2 Ra _ _=>?_
   have hp:i+1+m<N:=by try?
   rw [show (i:Int)+1+(m:Int)=((i+1+m:Nat):Int) by try?]
   have RW:=s4 _ _ eT
   have Yo:=s4 _ _ hl
   rw?
   refine cK RW (ic hp rfl) ?_
   rw?
   refine cK RW (ic hi' rfl) ?_
   rw?
   refine cD 0#C 0#C
   ·have rW:t (i+1+m)>t i+1:=jw c1
    obtain ⟨q1,q2,_⟩:=SK (by rw [hN];exact hF) (show i<i+1+m by try?) (by rw [hN];exact hp) rW
    have hlen2:us.length≤950:=by
     have e:=congrArg tY JB
     rw [gV,fj] at e
     have j1:=JJ (jmp t) (three es (aU ao)) N i
     have j2:=Oj (jmp t) (three es (aU ao)) i m
     have:i*N≤29*31:=Z2 0#d 0#d
     try?
    have done:∀(a b cc:Int) (y:av) (H6:Hp) (w5 w6 w7:Option V),au H4 H6→H6 y=some (.tup [.int a,.int b,.int cc])→(a,b,cc)=three es (aU ao) i (i+1+m) →
     M2 [some 0#U,some (.ref TT),some (.bl ao),some (.ref R),some (.int (i:Int)),w5,w6,w7] (upd H6 R (.lst (qQ us++[.ref y]))):=by
     intro a b cc y H6 w5 w6 w7 s6 ey e3'
     refine Ra _ _ ⟨us++[(y,a,b,cc)],w5,w6,w7,rfl,aZ (s4.trans s6) n1,by rw [aB];exact congrArg (λz=>some (HO.lst z)) (Kx us (y,a,b,cc)),(we.snoc (x:=(y,a,b,cc)) (JC.up s6) ey).app (s6 _ _ e4),?_⟩
     rw [iI,JB,JI,if_pos (show jmp t i (i+1+m)=true from jb rW),Dz]
     congr 2
     show [(a,b,cc)]=_
     rw [e3']
    obtain ⟨xi,gi,vi,ei,_⟩:=cT (hR.up s4) hS (show i<es.length by try?)
    obtain ⟨xj,gj,vj,ej,_⟩:=cT (hR.up s4) hS q2
    with_reducible refine gX (λσ' H'=>σ'=[some 0#U,some (.ref TT),some (.bl ao),some (.ref R),some (.int (i:Int)),some (.int ((i+1+m:Nat):Int)),some (.int ((i+1+m-aU ao:Nat):Int)),w7]∧H4=H') (λσ' H' hP=>?_) (λN hN=>?_)
    rotate_left
    ·rw?
     cases ao with
     | true=>
       refine cB ?_
       rw?
       exact hN _ _ ⟨rfl,rfl⟩
     | false=>
       refine bI ?_
       rw?
       rw [show ((i+1+m:Nat):Int)-1=((i+1+m-aU false:Nat):Int) by (have:aU false=1:=rfl);try?]
       exact hN _ _ ⟨rfl,rfl⟩
    obtain ⟨rfl,rfl⟩:=hP
    rw?
    refine ⟨l,es,i,i+1+m-aU ao,n,rfl,Yo,hR.up s4,hS,dH,by try?,q2,by try?,hn,λz=>absurd z 0#d,λ_ z p kk H5 s5 e5 f5 adj=>?_⟩
    obtain ⟨xk,gk,vk,ek,_⟩:=cT (hR.up 0#R) hS (show kk<es.length by have:=adj.hi;try?)
    have ei5:=s5 _ _ ei
    have ej5:=s5 _ _ ej
    rw?
    refine ⟨.inl ⟨rfl,_,aX.of (s5 _ _ e4)⟩,?_⟩
    rw?
    refine cK (s5 _ _ Yo) (eG gi rfl) ?_
    rw?
    refine cK (s5 _ _ Yo) (eG gk rfl) ?_
    rw?
    refine cK (s5 _ _ Yo) (eG gj rfl) ?_
    rw?
    refine aF (mk:=.tup) 0#f λy H6 s6 n6 e6=>?_
    rw?
    refine cJ ((s5.trans s6) _ _ e4) (by rw [NB];exact aO 0#d) ?_
    refine done _ _ _ y H6 _ _ _ (s5.trans s6) e6 ?_
    unfold three
    rw [Sa adj]
   ·rw?
    refine Ra _ _ ⟨us,_,_,_,rfl,s4,e4,JC,?_⟩
    have rW:¬(jmp t i (i+1+m)=true):=λz=>c1 z
    rw [JB,JI,if_neg rW,vX]
  ·rintro σ H4 ⟨us,w5,w6,w7,rfl,s4,e4,JC,JB⟩
   refine hM _ _ ⟨us,_,_,_,_,rfl,s4,e4,JC,?_⟩
   rw [JB,E2]
   congr 2
   try?
 ·rintro σ H3 ⟨ts,v4,v5,v6,v7,rfl,s3,e3,hts,hmap⟩
  rw?
  refine k R ts H3 s3 n1 e3 hts ?_
  rw [hmap]
  congr 1
end
def jD {α β:Type} (R:α→β→Prop):List α→List β→Prop
 | [],[]=>True
 | a::as,b::bs=>R a b∧jD R as bs
 | _,_=>False
theorem mX:∀{as:List α} {bs:List β},jD R as bs→R a b→jD R (as++[a]) (bs++[b])
 | [],[],_,r=>⟨r,trivial⟩
 | _::_,_::_,h,r=>⟨h.1,mX h.2 r⟩
 | [],_::_,h,_=>h.elim
 | _::_,[],h,_=>h.elim
theorem um:∀{as:List α} {bs:List β},(∀a b,a∈as→R a b→S a b)→jD R as bs→jD S as bs
 | [],[],_,_=>trivial
 | _::_,_::_,u,r=>⟨u _ _ 0#f r.1,um (λa b ha=>u a b (by simp [ha])) r.2⟩
 | [],_::_,_,r=>r.elim
 | _::_,[],_,r=>r.elim
theorem mL:∀(i:Nat) (r:List α),r∈parts s es i→r≠[]∧(∀x∈r,s x=true)∧r.Sublist (es.take i)
 | 0,r,h=>absurd h (by simp [parts])
 | i+1,r,h=>by
   have ih:=mL (s:=s) (es:=es) i
   have up:∀r:List α,r.Sublist (es.take i)→r.Sublist (es.take (i+1)):=λr q=>q.trans (List.take_sublist_take_left (tV _))
   unfold parts at h
   cases e:es[i]? with
   | none=>rw [e] at h;exact ⟨(ih r h).1,(ih r h).2.1,up r (ih r h).2.2⟩
   | some y=>
     rw [e] at h
     have tk:es.take (i+1)=es.take i++[y]:=by rw [rF,e];rfl
     dsimp only at h
     split at h
     ·rename_i hs
      split at h
      ·rename_i hr
       obtain ⟨t,r',hp⟩:=sD hr
       have hm:r'∈parts s es i:=by rw [hp];simp
       have hgl:(parts s es i).getLast?.getD []=r':=by rw [hp];simp
       rcases dg.mp h with z | z
       ·have q:=ih r (Za _ |>.subset z)
        exact ⟨q.1,q.2.1,up r q.2.2⟩
       ·obtain rfl:r=((parts s es i).getLast?.getD [])++[y]:=by simpa using z
        rw [hgl]
        refine ⟨by simp,λx hx=>?_,by rw [tk];exact afc (ih r' hm).2.2 (afk _)⟩
        rcases dg.mp hx with q | q
        ·exact (ih r' hm).2.1 x q
        ·obtain rfl:x=y:=by simpa using q
         exact hs
      ·rcases dg.mp h with z | z
       ·exact ⟨(ih r z).1,(ih r z).2.1,up r (ih r z).2.2⟩
       ·obtain rfl:r=[y]:=by simpa using z
        refine ⟨by simp,λx hx=>?_,by rw [tk];exact YQ _ _⟩
        obtain rfl:x=y:=by simpa using hx
        exact hs
     ·exact ⟨(ih r h).1,(ih r h).2.1,up r (ih r h).2.2⟩
abbrev Pc:=av×(Rat×Rat×Rat×Rat)
def BO (H:Hp) (x:Pc) (n:Nat):Prop:=∃a b c d:av,H x.1=some (.tup [.ref a,.ref b,.ref c,.ref d])∧dz H a x.2.1 n∧dz H b x.2.2.1 n∧dz H c x.2.2.2.1 n∧dz H d x.2.2.2.2 n
theorem BO.mv (t:∀{b:av} {xs:List V},H b=some 0#q→H' b=some 0#q) (f:BO H x n):BO H' x n:=by
 obtain ⟨a,b,c,d,e,f1,f2,f3,f4⟩:=f
 have m:∀{b:av} {q:Rat},dz H b q n→dz H' b q n:=λf=>let ⟨x,d,e,f⟩:=f;⟨x,d,t e,f⟩
 exact ⟨a,b,c,d,t e,m f1,m f2,m f3,m f4⟩
theorem BO.up (f:BO H x n) (s:au H H'):BO H' x n:=f.mv λe=>s _ _ e
def nh (ps:List Pc):List V:=ps.map λx=>V.ref x.1
theorem Fd (ps:List Pc):(nh ps).length=ps.length:=gV ..
def AllP (H:Hp) (ps:List Pc) (n:Nat):Prop:=∀x∈ps,BO H x n
theorem AllP.up (h:AllP H ps n) (s:au H H'):AllP H' ps n:=λx hx=>(h x hx).up s
theorem AllP.app (h:AllP H ps n) (e:H R=some (.lst ys)):AllP (upd H R o) ps n:=λx hx=>(h x hx).mv λ{b xs} z=>by
 rw [aM (λq=>by rw [q,e] at z;cases z)]
 exact z
theorem AllP.append (h:AllP H ps n) (h':AllP H qs n):AllP H (ps++qs) n:=λx hx=>by
 rcases dg.mp hx with z | z
 ·exact h x z
 ·exact h' x z
theorem U0 (Pv:St→Hp→Prop) (μ:St→Hp→Nat) (h0:Pv σ H)
 (hs:∀σ H,Pv σ H→∀R:Bool→Hp→Prop,(∀H1,(∀M:St→Hp→Prop,(∀σ' H',Pv σ' H'→μ σ' H'<μ σ H→M σ' H')→tb { D with nx:=M,ct:=M,bk:=D.nx } σ H1)→R true H1)→(∀H1,D.nx σ H1→R false H1)→c σ H R):Dv c tb D σ H:=by
 refine ⟨λm σ H=>m=μ σ H∧Pv σ H,⟨_,rfl,h0⟩,?_⟩
 rintro m σ H ⟨rfl,p⟩
 refine hs σ H p _ (λH1 q=>?_) (λH1 q=>?_)
 ·rw [if_pos rfl]
  exact ⟨λσ' H'=>Pv σ' H'∧μ σ' H'<μ σ H,λσ' H' ⟨p',l⟩=>⟨_,l,rfl,p'⟩,q _ λ_ _ a b=>⟨a,b⟩⟩
 ·rw [if_neg dW]
  exact q
def acG (L:Nat→Nat→Prop) (t:Nat→Int) (a p:Nat):Prop:=a<p∧L a p∧t a+1=t p∧∀k,k<a→¬(L k p∧t k+1=t p)
inductive Way (L:Nat→Nat→Prop) (t:Nat→Int):Nat→List (Nat×Nat)→Prop
 | nil:Way L t 0 []
 | cons {a p:Nat} {ps:List (Nat×Nat)}:acG L t a p→Way L t a ps→Way L t p (ps++[(a,p)])
section
theorem Way.lt (h:Way L t p ps):∀x∈ps,x.1<x.2∧x.2≤p:=by
 induction h with
 | nil=>intro x hx;exact absurd hx 0#f
 | @cons a p ps f w ih=>
   intro x hx
   rcases dg.mp hx with z | z
   ·have:=ih x z
    have:=f.1
    try?
   ·obtain rfl:x=(a,p):=by simpa using z
    exact ⟨f.1,dG _⟩
theorem Way.len (h:Way L t p ps):ps.length≤p:=by
 induction h with
 | nil=>exact dG _
 | cons f w ih=>
   rw [fj,ID]
   have:=f.1
   try?
theorem wB (h:jE L N t) (h':jE L N t'):∀j,j<N→t j=t' j:=by
 intro j
 induction j using Pd with
 | ind j ih=>
   intro hj
   by_cases h0:j=0
   ·subst h0
    rw [h.first,h'.first]
   ·obtain ⟨i,i1,i2,i3⟩:=h.ex j 0#d hj
    obtain ⟨k,k1,k2,k3⟩:=h'.ex j 0#d hj
    have a1:=h'.le i j i1 hj i2
    have a2:=h.le k j k1 hj k2
    have b1:=ih i i1 0#d
    have b2:=ih k k1 0#d
    try?
end
def XC (es:List En) (i j:Nat):Rat×Rat×Rat×Rat:=((mo es i:Rat),wo es i,(mo es j:Rat),wo es j)
def Told (es:List En) (β:Rat) (ao:Bool) (l:List (Rat×Rat×Rat×Rat)):Prop:=∃(t:Nat→Int) (ps:List (Nat×Nat)),jE (d7 es β ao) 0#H t∧Way (d7 es β ao) t (es.length+aU ao-1) ps∧l=(if es.length+aU ao=1 then [(0,0)] else ps).map (λx=>XC es x.1 (x.2-aU ao))
theorem Cf (h:es.map (·.2)=es'.map (·.2)):d7 es β ao=d7 es' β ao:=by
 have hl:es.length=es'.length:=by simpa using congrArg tY h
 have hs:∀i k j,sd es i k j=sd es' i k j:=λi k j=>by
  unfold sd
  rw [(fJ h i).1,(fJ h i).2,(fJ h j).1,(fJ h j).2,(fJ h k).1,(fJ h k).2]
 funext i j
 unfold d7 Good
 simp only [hl,hs]
abbrev Pr:=av×Nat×Nat
def Ep (ps:List Pr):List V:=ps.map λx=>V.ref x.1
theorem CK (ps:List Pr):(Ep ps).length=ps.length:=gV ..
def NI (H:Hp) (ps:List Pr):Prop:=∀x∈ps,H x.1=some (.tup [.int (x.2.1:Int),.int (x.2.2:Int)])
theorem Gi (h:(fM p).filter f=a::r):f a=true∧a<p∧∀k,k<a→f k=false:=by
 have hm:a∈(fM p).filter f:=by rw [h];simp
 have hm':=DS.mp hm
 have ha:=rH.mp hm'.1
 refine ⟨hm'.2,ha,λk hk=>?_⟩
 cases e:f k with
 | false=>rfl
 | true=>
   have hk':k∈(fM p).filter f:=DS.mpr ⟨rH.mpr 0#d,e⟩
   have hp:((fM p).filter f).Pairwise (·<·):=ae3 _ List.pairwise_lt_range
   rw [h] at hk' hp
   rcases qU.mp hk' with z | z
   ·try?
   ·have:=(Zs.mp hp).1 k z
    try?
open Classical in
def goes (L:Nat→Nat→Prop) (t:Nat→Int) (p k:Nat):Bool:=decide (L k p∧t k+1=t p)
theorem JF {j:Nat}:inV (.int (j:Int)) (fZ js)=true↔j∈js:=by
 unfold inV fZ
 rw [List.any_eq_true]
 constructor
 ·rintro ⟨v,hv,e⟩
  obtain ⟨k,hk,rfl⟩:=gD.mp hv
  have:(k:Int)=(j:Int):=by simpa [V0] using e
  rw [show j=k by try?]
  exact hk
 ·intro h
  exact ⟨_,gD.mpr ⟨j,h,rfl⟩,by simp [V0]⟩
inductive Di (vs:List V) (H:Hp) (Q:VK) (E_:XK):Prop where
 | mk (F T:av) (rs:List (av×List Nat)) (N:Nat) (L:Nat→Nat→Prop) (t:Nat→Int):vs=[.ref F,.ref T]→Rr H F rs→H T=some (.lst (ig N t))→1≤N→N≤900→N≤rs.length+1→(∀i x,rs[i]?=some x→∀j,j∈x.2↔L i j)→jE L N t→(∀(R:av) (ps:List Pr) (H':Hp),au H H'→H R=none→H' R=some (.lst (Ep ps))→NI H' ps→Way L t (N-1) (ps.map (·.2))→Q (.ref R) H')→Di vs H Q E_
inductive zF (vs:List V) (H:Hp) (Q:VK) (E_:XK):Prop where
 | mk (x y:av) (m m':Int) (q q':Rat) (n:Nat):vs=[.ref x,.ref y]→i7 H x m q n→i7 H y m' q' n→1≤n→(∀(p:av) (H':Hp),au H H'→BO H' (p,(m:Rat),q,(m':Rat),q') n→Q 1#a H')→zF vs H Q E_
abbrev Ent:=av×av×av
def wj (H:Hp) (x:Ent) (es:List En) (β:Rat) (ao:Bool):Prop:=∃(t:Nat→Int) (ts:List Th),H x.1=some (.tup [.ref x.2.1,.ref x.2.2])∧H x.2.1=some (.lst (ig 0#H t))∧jE (d7 es β ao) 0#H t∧H x.2.2=some (.lst (qQ ts))∧we H ts∧ts.map (·.2)=GG (jmp t) (three es (aU ao)) 0#H 0#H
theorem wj.up (f:wj H x es β ao) (s:au H H'):wj H' x es β ao:=by
 obtain ⟨t,ts,e1,e2,f,e3,e4,e5⟩:=f
 exact ⟨t,ts,s _ _ e1,s _ _ e2,f,s _ _ e3,λx hx=>s _ _ (e4 x hx),e5⟩
theorem wj.put (f:wj H x es β ao) (hX:H X=some (.lst xs)) (h1:x.2.1≠X) (h2:x.2.2≠X):wj (upd H X o) x es β ao:=by
 obtain ⟨t,ts,e1,e2,f,e3,e4,e5⟩:=f
 have tup:∀{b:av} {ys:List V},H b=some (.tup ys)→upd H X o b=some (.tup ys):=λ{b ys} e=>uS X H _ _ _ (dY hX e)
 exact ⟨t,ts,tup e1,by rw [aM h1];exact e2,f,by rw [aM h2];exact e3,λx hx=>tup (e4 x hx),e5⟩
structure Own (H:Hp) (xs:List Ent):Prop where
 new:∀x∈xs,H x.2.1=none∧H x.2.2=none
 nd:(xs.flatMap λx=>[x.2.1,x.2.2]).Nodup
inductive zO (vs:List V) (H:Hp) (Q:VK) (E_:XK):Prop where
 | mk (l pb:av) (es:List En) (n nb:Nat) (β:Rat) (ao:Bool):vs=[.ref l,.ref pb,.bl ao]→H l=some 0#A→Row H es n→ia es→rising es→1≤es.length→es.length≤30→bS H pb β nb→1≤n→n≤900→nb≤1000→(∀(y X Z:av) (ps:List Pc) (H':Hp),au H H'→H' y=some (.tup [.ref X,.ref Z])→H X=none→H' X=some (.lst (nh ps))→AllP H' ps n→Told es β ao (ps.map (·.2))→∀TT RR:av,wj H' (Z,TT,RR) es β ao→H TT=none→H RR=none→TT≠RR→Q (.ref y) H')→zO vs H Q E_
section
open Classical in
theorem r6:goes L t p k=true↔L k p∧t k+1=t p:=by unfold goes;exact Vc
theorem Lr {i:Nat} {v:V} (h:xs[i]?=some v):qV xs (i:Int)=some v:=by
 unfold qV
 rw [SJ 0#c (by have:=(lS.mp h).1;simp?)]
 exact h
def intAt (σ:St) (i:Nat):Nat:=match σ.getD i none with | some (.int i)=>i.toNat | _=>0
theorem xg (h:i<p):((fM p).take (i+1)).filter f=((fM p).take i).filter f++(if f i=true then [i] else []):=K9 f (fM p) i i (by rw [IG h])
theorem JT (js:List Nat) (j:Nat):fZ js++[.int (j:Int)]=fZ (js++[j]):=by simp [fZ]
theorem dU:aE ["found","told","pairs","place","ahead"] ["found","told"] (ah i9):=0#a
theorem uJ (F:cR K "places_of_pieces" "places_of_pieces" i9 f fd) (T:Txt mg):bf P w K mg base cY 1 f fd ["found","told"] Di:=by
 refine F.ok dU 0#e 0#b
 ·obtain ⟨FF,TT,rs,N,L,t,rfl,_⟩:=h
  rfl
 obtain ⟨FF,TT,rs,N,L,t,rfl,hF,eT,h1,kJ,hNr,hrs,adi,k⟩:=h
 refine bG ⟨_,(aq (aK 2 dU.nd (dI dX)) (aq (mZ (i:=3) dU.nd rfl (Or.inr rfl) (aI bL (eY K T.eU 0#p) aA) (hs:=acm)) (aq (Jd.kO fQ (bC dS 0#E aA 0#J) (aq (rf (O:=["first"]) (N':=["place","told" ,"found" ]) (cap:=[3,1,0]) (i:=4) dU.nd rfl 0#k rfl (uQ rfl T.range (dD 0#E)) (λ_ _ _ _ _=>(bX (i:=0) (show jd [("first":Str),("place":Str),("told":Str),("found":Str)] by decide +kernel) rfl 0#k)) (λ_ _ _ _ _=>(wH (jj (rg (bC dF (aI aW (bB 0#Z 0#s 0#j 0#h) aA) (bB 0#Z 0#s 0#p 0#h) 0#J) (sr (bC (Yt K) 0#p (bB 0#Z 0#E 0#j 0#h) rfl)))))) (λ_ _ _ _ _=>0#j) rfl ⟨⟨rfl,rfl,rfl,rfl⟩,⟨⟨rfl,rfl,rfl,rfl⟩,0#u⟩⟩ rfl 0#g rfl 0#g (by rfl)) (aq (eO (gM K 0#s (bJ (bq (Jd.iL K 0#X) 0#E))) (hs:=eF)) (aH (mZ (i:=3) dU.nd rfl (Or.inr rfl) (Jd.iL K 0#X) (hs:=QV)))))) (aq (eO (Jd.acd K 0#s) (hs:=eF)) (aH (aV 0#s)))))),?_⟩
 rw?
 refine aF (mk:=.lst) 0#f λR H1 s1 n1 e1=>?_
 rw?
 refine cy (.inl (aX.of (s1 _ _ eT))) ?_
 rw [mK]
 rw?
 refine U0 (λσ H3=>NP λ(p:Nat) (ps:List Pr) (v4:Option V)=>σ=[some (.ref FF),some (.ref TT),some (.ref R),some (.int (p:Int)),v4]∧au H H3∧H3 R=some (.lst (Ep ps))∧NI H3 ps∧p<N∧ps.length+p≤N∧∀qs,Way L t p qs→Way L t (N-1) (qs++(ps.map (·.2)).reverse)) (λσ _=>intAt σ 3) ?_ ?_
 ·exact ⟨N-1,[],none,by rw [show (N:Int)-1=((N-1:Nat):Int) by simp?];rfl,s1,e1,λx hx=>absurd hx 0#f,by simp?,by simp,λqs h=>by simpa using h⟩
 rintro σ H3 ⟨p,ps,v4,rfl,s3,e3,hps,hp,hlen,adu⟩ RR hy hn
 rw?
 by_cases h0:0<(p:Int)
 ·rw [jb h0]
  refine hy _ λM hM=>?_
  have eT3:=s3 _ _ eT
  rw?
  refine qD ?_
  rw?
  refine ⟨_,rfl,by lia,by lia,?_⟩
  refine cF QX (λ_ _=>trivial) (by simp;lia) (λi zs G=>zs=fZ (((fM p).take i).filter (goes L t p))) rfl ?_ ?_
  ·rintro D i x zs H4 jV NN N0 hσ hD eD s4 hx hz rfl kY kN
   have hi:i<p:=by
    have:=(lS.mp hx).1
    simpa using this
   obtain rfl:x=.int (0+(i:Int)):=by
    rw [dw,IG (by simpa using hi)] at hx
    exact (yc hx).symm
   rw [show (0:Int)+(i:Int)=(i:Int) by simp?]
   have tk:=xg (f:=goes L t p) hi
   refine fO hσ ?_
   have RW:=s4 _ _ eT3
   rw?
   refine cK RW (ic (show i<N by simp?) rfl) ?_
   rw?
   refine cK RW (ic hp rfl) ?_
   rw?
   have no:¬(L i p∧t i+1=t p)→N0 H4:=λz=>by
    refine kN H4 0#x ?_
    rw [tk,if_neg (λq=>z (r6.mp q)),vX]
   refine cD 0#C 0#C
   ·have Cc:i<rs.length:=by simp?
    have gx:rs[i]?=some rs[i]:=mC Cc
    have ex:=((hF.up 0#S).each _ (lP gx)).1
    rw?
    refine cK (hF.up 0#S).at_ (Lr (by rw [dw,gx];rfl)) ?_
    rw?
    refine ⟨_,_,rfl,.inl (aX.of ex),rfl,?_,?_⟩
    ·exact ZM.mpr λv hv=>by
      obtain ⟨j,_,rfl⟩:=gD.mp hv
      rfl
    ·rw?
     show if inV (.int (p:Int)) (fZ rs[i].2)=true then _ else _
     refine cD (λc2=>?_) (λc2=>?_)
     ·rw?
      refine kY _ H4 0#x ?_
      rw [tk,if_pos (r6.mpr ⟨(hrs i _ gx p).mp (JF.mp c2),jw c1⟩)]
      exact JT _ _
     ·exact no λz=>c2 (JF.mpr ((hrs i _ gx p).mpr z.1))
   ·refine bI ?_
    exact no λz=>c1 (jb z.2)
  ·rintro D zs H4 hD eD s4 hz rfl
   rw [gV,ZG,show (p:Int).toNat=p by simp?,OS 0#f] at eD
   obtain ⟨i0,hi0,hL0,ht0⟩:=adi.ex p 0#c hp
   have hm:i0∈(fM p).filter (goes L t p):=DS.mpr ⟨rH.mpr hi0,r6.mpr ⟨hL0,by simp?⟩⟩
   obtain ⟨a,r,har⟩:∃a r,(fM p).filter (goes L t p)=a::r:=by
    cases e:(fM p).filter (goes L t p) with
    | nil=>rw [e] at hm;exact absurd hm 0#f
    | cons a r=>exact ⟨a,r,rfl⟩
   obtain ⟨ha,hap,hno⟩:=Gi har
   obtain ⟨hLa,hta⟩:=r6.mp ha
   rw [har] at eD
   have e4:=s4 _ _ e3
   rw?
   refine ⟨.inl ⟨rfl,_,aX.of e4⟩,?_⟩
   rw?
   refine cK eD (Lr (i:=0) rfl) ?_
   rw?
   refine aF (mk:=.tup) 0#f λy H5 s5 n5 e5=>?_
   rw?
   refine cJ (s5 _ _ e4) (by rw [CK];exact aO 0#c) ?_
   rw?
   have nD:D≠R:=λz=>by rw [z,e3] at hD;cases hD
   refine cK (by rw [aM nD];exact s5 _ _ eD) (Lr (i:=0) rfl) ?_
   rw?
   refine hM _ _ ⟨a,ps++[(y,a,p)],_,rfl,aZ ((s3.trans s4).trans s5) n1,by rw [aB];simp [Ep],λx hx=>?_,by simp?,by simp;simp?,λqs hq=>?_⟩ ?_
   ·refine uS R H5 _ _ _ (dY (s5 _ _ e4) ?_)
    rcases dg.mp hx with z | z
    ·exact 0#R _ _ (hps x z)
    ·obtain rfl:x=(y,a,p):=by simpa using z
     exact e5
   ·rw [iI,List.reverse_append]
    have:=adu (qs++[(a,p)]) (.cons ⟨hap,hLa,hta,λk hk z=>absurd ((hno k hk).symm.trans (r6.mpr z)) 0#i⟩ hq)
    simpa using this
   ·show (a:Int).toNat<(p:Int).toNat
    simp?
 ·rw [rG h0]
  refine hn _ ?_
  have hp0:p=0:=by simp?
  subst hp0
  rw?
  refine ⟨.inl ⟨rfl,_,aX.of e3⟩,?_⟩
  refine ad6 e3 ?_
  rw?
  refine k R ps.reverse _ (aZ s3 n1) n1 (by rw [aB,Ep,Ep,ZP]) (λx hx=>uS R H3 _ _ _ (dY e3 (hps x (List.mem_reverse.mp hx)))) ?_
  rw [ZP]
  exact adu [] .nil
theorem zE:aE ["one","other"] ["one","other"] (ah lI):=0#a
theorem yK (F:cR K "piece_between" "piece_between" lI f fd) (T:Txt mg):bf P w K mg base cY 1 f fd ["one","other"] zF:=by
 refine F.ok zE 0#e 0#b
 ·obtain ⟨x,y,m,m',q,q',n,rfl,_⟩:=h
  rfl
 obtain ⟨x,y,m,m',q,q',n,rfl,⟨v,ex,fv,zm⟩,⟨v',ey,fv',zm'⟩,hn,k⟩:=h
 refine bG ⟨_,(aH (aV (bJ (Jd.a4 (bJ (bq 0#I aA)) 0#I (bJ (bq 0#Q aA)) 0#Q)))),?_⟩
 rw?
 refine aF (mk:=.tup) 0#f λa H1 s1 n1 e1=>?_
 have ex1:=s1 _ _ ex
 have ey1:=s1 _ _ ey
 rw?
 refine aF (mk:=.tup) 0#f λb H2 s2 n2 e2=>?_
 have ey2:=s2 _ _ ey1
 rw?
 refine aF (mk:=.tup) 0#f λc H3 s3 n3 e3=>?_
 have xo:=s2.trans s3
 have nE:=s1.trans xo
 exact k c H3 nE ⟨a,v,b,v',e3,⟨m,1,xo _ _ e1,Fr.whole m,zm,qy hn⟩,fv.up nE,⟨m',1,s3 _ _ e2,Fr.whole m',zm',qy hn⟩,fv'.up nE⟩
theorem W8 (hL:d7 es β ao i j):i<j∧j<es.length+aU ao:=by
 unfold d7 at hL
 unfold aU
 cases ao with
 | true=>
   rw [if_pos rfl] at *
   exact ⟨hL.1,hL.2.1⟩
 | false=>
   rw [if_neg dW] at *
   rcases hL with ⟨a,rfl | ⟨b,c,_⟩⟩
   ·exact ⟨by try?,by try?⟩
   ·exact ⟨by try?,by try?⟩
theorem uo (h0:0<j) (hj:j<es.length+aU ao):d7 es β ao (j-1) j:=by
 unfold d7
 unfold aU at hj
 cases ao with
 | true=>
   rw [if_pos rfl] at *
   exact ⟨by try?,hj,λk h1 h2=>by try?⟩
 | false=>
   rw [if_neg dW] at *
   exact ⟨by try?,.inl 0#d⟩
theorem iz:aE ["run","bound","tied","found","told","pairs","back","pieces"] ["run","bound","tied"] (ah vQ):=0#a
theorem J9 (F:cR K "tied_run" "tied_run" vQ f fd) (T:Txt mg) (t8:Dn P w K mg base 5 "leaps" ["samples","bound","tied"] BA) (jf:Dn P w K mg base 1 "labels_by" ["found","many"] xB) (iZ:Dn P w K mg base 1 "places_of_pieces" ["found","told"] Di) (lu:Dn P w K mg base 1 "piece_between" ["one","other"] zF) (yi:Dn P w K mg base 5 "bars_by" ["samples","told","tied"] C7):bf P w K mg base cY 6 f fd ["run","bound","tied"] zO:=by
 refine F.ok iz 0#e 0#b
 ·obtain ⟨l,pb,es,n,nb,β,ao,rfl,_⟩:=h
  rfl
 obtain ⟨l,pb,es,n,nb,β,ao,rfl,hl,hR,hS,dH,h1,h30,hb,hn1,hn,hnb,k⟩:=h
 have hsh:aU ao≤1:=by unfold aU;split <;> try?
 refine bG ⟨_,(aq (aK 3 iz.nd (Jd.c3 t8 hr 0#j 0#p 0#s)) (aq (aK 4 iz.nd (bY jf hr 0#E (su (ir 0#s) 0#V (aI aW 0#V aA)))) (aq (aK 5 iz.nd (bY iZ hr 0#E 0#X)) (aq (bW (jj (rg (ir 0#s) (sr (bC dF 0#V aA 0#J)))) (aH (aK 5 iz.nd (dI (dD (bJ (bq aA aA)))))) cj) (aq (mZ (i:=6) iz.nd rfl (Or.inr rfl) (su (ir 0#s) aA aA) (hs:=agz)) (aq (rf (O:=["first","last"]) (N':=["run","back" ]) (cap:=[0,6]) (i:=7) iz.nd rfl 0#k rfl (dB K (aa 5)) (λ_ _ _ _ _=>(Jd.Ox K (n:=2) rfl (fS (bX (i:=0) (show jd [("first":Str),("last":Str),("run":Str),("back":Str)] by decide +kernel) rfl 0#k) (fS (bX (i:=1) (show jd [("first":Str),("last":Str),("run":Str),("back":Str)] by decide +kernel) rfl 0#k) pH)))) 1#d (λ_ _ _ _ _=>(fY lu 0#z rfl (cG (bB 0#Z 0#s 0#j 0#h) (cG (bB 0#Z 0#s (aI bL 0#p 0#E) 0#h) dX o9) o9) (he:=o9) (hpl:=(cu o9 cg)))) rfl ⟨⟨rfl,rfl,rfl,rfl⟩,0#u⟩ rfl 0#g rfl 0#g (by rfl)) (aH (aV (bJ (bq (aa 7) (bJ (bq 0#X (Jd.c3 yi hr 0#j 0#X 0#s))))))))))))),?_⟩
 rw?
 refine ⟨l,pb,es,n,nb,β,ao,rfl,hl,hR,hS,dH,by try?,hb,by try?,hnb,λFF rs H1 s1 nF hF hlen hle=>?_⟩
 refine E6 ?_
 refine gX (λσ' H2=>Lq λ(TT:av) (t:Nat→Int)=>σ'=[some 0#U,some (.ref pb),some (.bl ao),some (.ref FF),some (.ref TT),none,none,none]∧au H1 H2∧H2 TT=some (.lst (ig 0#H t))∧jE (d7 es β ao) 0#H t∧H1 TT=none) (λσ' H2 hP=>?_) (λN rest=>?_)
 rotate_left
 ·have go:∀(Q':VK) (E':XK),(∀(TT:av) (t:Nat→Int) (H2:Hp),au H1 H2→H1 TT=none→H2 TT=some (.lst (ig 0#H t))→jE (d7 es β ao) 0#H t→Q' (.ref TT) H2)→xB [.ref FF,.int ((es.length+aU ao:Nat):Int)] H1 Q' E':=λQ' E' kk=>⟨FF,rs,_,d7 es β ao,rfl,hF,by try?,by try?,by try?,by try?,λi x hx=>(hle i x hx).2,λi j hL=>W8 hL,λj h0 hj=>uo h0 hj,λR t H2 s2 nR eR hf=>kk R t H2 s2 nR eR hf⟩
  rw?
  have s1l:=s1 _ _ hl
  cases ao with
  | true=>
    refine cB ?_
    rw?
    refine cy (.inl (aX.of s1l)) ?_
    rw [aN]
    rw?
    exact go _ _ λTT t H2 s2 nT e2 hf=>rest _ _ ⟨TT,t,rfl,s2,e2,hf,nT⟩
  | false=>
    refine bI ?_
    rw?
    refine cy (.inl (aX.of s1l)) ?_
    rw [aN]
    rw?
    exact go _ _ λTT t H2 s2 nT e2 hf=>rest _ _ ⟨TT,t,rfl,s2,e2,hf,nT⟩
 obtain ⟨TT,t,rfl,s2,eT,hf,nTT⟩:=hP
 refine gX (λσ' H3=>Lq λ(PP:av) (ps:List Pr)=>σ'=[some 0#U,some (.ref pb),some (.bl ao),some (.ref FF),some (.ref TT),some (.ref PP),none,none]∧au H2 H3∧H3 PP=some (.lst (Ep ps))∧NI H3 ps∧Way (d7 es β ao) t (es.length+aU ao-1) (ps.map (·.2))) (λσ' H3 hP=>?_) (λN rest=>?_)
 rotate_left
 ·rw?
  exact ⟨FF,TT,rs,_,_,t,rfl,hF.up s2,eT,by try?,by try?,by try?,λi x hx=>(hle i x hx).2,hf,λPP ps H3 s3 nP eP hps hw=>rest _ _ ⟨PP,ps,rfl,s3,eP,hps,hw⟩⟩
 obtain ⟨PP,ps,rfl,s3,eP,hps,hw⟩:=hP
 refine gX (λσ' H4=>Lq λ(PP:av) (ps':List Pr)=>σ'=[some 0#U,some (.ref pb),some (.bl ao),some (.ref FF),some (.ref TT),some (.ref PP),none,none]∧au H3 H4∧H4 PP=some (.lst (Ep ps'))∧NI H4 ps'∧ps'.length≤31∧ps'.map (·.2)=if es.length+aU ao=1 then [(0,0)] else ps.map (·.2)) (λσ' H4 hP=>?_) (λN rest=>?_)
 rotate_left
 ·have hwl:=hw.len
  rw [gV] at hwl
  have xo:=(s1.trans s2).trans s3
  have keep:es.length+aU ao≠1→N [some 0#U,some (.ref pb),some (.bl ao),some (.ref FF),some (.ref TT),some (.ref PP),none,none] H3:=λz=>rest _ _ ⟨PP,ps,rfl,au.refl _,eP,hps,by try?,by rw [if_neg z]⟩
  rw?
  cases ao with
  | true=>
    refine cB ?_
    rw?
    refine cy (.inl (aX.of (xo _ _ hl))) ?_
    rw [aN]
    rw?
    refine cD 0#C 0#C
    ·have rW:(es.length:Int)=1:=jw c1
     rw?
     refine aF (mk:=.tup) 0#f λy H4 s4 n4 e4=>?_
     rw?
     refine aF (mk:=.lst) 0#f λy' H5 s5 n5 e5=>?_
     rw?
     refine rest _ _ ⟨y',[(y,0,0)],rfl,s4.trans s5,e5,λx hx=>?_,by simp,?_⟩
     ·obtain rfl:x=(y,0,0):=by simpa using hx
      exact s5 _ _ e4
     ·rw [if_pos (show es.length+aU true=1 by show es.length+0=1;try?)]
      rfl
    ·rw?
     exact keep λz=>c1 (jb (by have:es.length+0=1:=z;try?))
  | false=>
    refine bI ?_
    refine bI ?_
    rw?
    exact keep λz=>by have:es.length+1=1:=z;try?
 obtain ⟨PP,ps',rfl,s4,eP,afQ,hl',hm'⟩:=hP
 refine gX (λσ' H5=>H5=H4∧σ'=[some 0#U,some (.ref pb),some (.bl ao),some (.ref FF),some (.ref TT),some (.ref PP),some (.int (aU ao:Int)),none]) (λσ' H5 hP=>?_) (λN rest=>?_)
 rotate_left
 ·rw?
  cases ao with
  | true=>
    refine cB ?_
    rw?
    exact rest _ _ ⟨rfl,rfl⟩
  | false=>
    refine bI ?_
    rw?
    exact rest _ _ ⟨rfl,rfl⟩
 obtain ⟨rfl,rfl⟩:=hP
 have Rj:=((s1.trans s2).trans s3).trans s4
 have inb:∀x∈ps',x.2.1<es.length∧x.2.2-aU ao<es.length∧((x.2.2:Int)-(aU ao:Int)=((x.2.2-aU ao:Nat):Int)):=λx hx=>by
  have hx':x.2∈ps'.map (·.2):=gD.mpr ⟨x,hx,rfl⟩
  rw [hm'] at hx'
  by_cases hN:es.length+aU ao=1
  ·rw [if_pos hN] at hx'
   have:x.2=(0,0):=by simpa using hx'
   rw [this]
   exact ⟨by try?,by try?,by try?⟩
  ·rw [if_neg hN] at hx'
   have:=hw.lt _ hx'
   exact ⟨by try?,by try?,by try?⟩
 rw?
 refine iD ?_
 rw?
 refine ⟨PP,rfl,⟨_,aX.of eP⟩,?_⟩
 refine cF (xs:=Ep ps') bZ (λH6 s6=>aX.of (s6 _ _ eP)) (by rw [CK];try?) (λi ys G=>∃TL:List Pc,ys=nh TL∧AllP G TL n∧TL.map (·.2)=(ps'.take i).map λx=>XC es x.2.1 (x.2.2-aU ao)) ⟨[],rfl,λx hx=>absurd hx 0#f,rfl⟩ ?_ ?_
 ·rintro D i x ys H6 jV NN N0 h0 hD eD s6 hx hy ⟨TL,rfl,abk,hmap⟩ kY kN
  unfold Ep at hx
  rw [dw] at hx
  obtain ⟨x,gx,rfl⟩:=IC.mp hx
  have Rb:=lP gx
  obtain ⟨b1,b2,b3⟩:=inb x Rb
  have tk:ps'.take (i+1)=ps'.take i++[x]:=by rw [rF,gx];rfl
  refine CO h0 (s6 _ _ (afQ x Rb)) ?_
  have Fl:=Rj.trans s6
  obtain ⟨xi,gi,si⟩:=cT (hR.up Fl) hS b1
  obtain ⟨xj,gj,sj⟩:=cT (hR.up Fl) hS b2
  rw?
  refine cB ?_
  rw?
  refine cK (Fl _ _ hl) (eG gi rfl) ?_
  rw?
  refine cK (Fl _ _ hl) (eG gj b3) ?_
  rw?
  refine ⟨xi.1,xj.1,_,_,_,_,n,rfl,si,sj,hn1,λp H7 s7 f7=>?_⟩
  refine kY _ H7 s7 ⟨TL++[(p,XC es x.2.1 (x.2.2-aU ao))],by simp [nh],?_,by rw [tk,iI,iI,hmap];rfl⟩
  refine (abk.up (rj s7)).append λz hz=>?_
  obtain rfl:z=(p,XC es x.2.1 (x.2.2-aU ao)):=by simpa using hz
  exact f7.mv λ{b xs} z=>dY (s7 _ _ eD) z
 ·rintro D ys H6 hD eD s6 hy ⟨TL,rfl,abk,hmap⟩
  rw [CK,jR] at hmap
  have Fl:=Rj.trans s6
  rw?
  refine ⟨l,TT,es,n,β,ao,t,rfl,Fl _ _ hl,hR.up Fl,hS,dH,h1,h30,hn,(s3.trans (s4.trans s6)) _ _ eT,hf,λR ts H7 s7 nR eR hts afL=>?_⟩
  rw?
  refine aF (mk:=.tup) 0#f λz H8 s8 n8 e8=>?_
  rw?
  refine aF (mk:=.tup) 0#f λy H9 s9 n9 e9=>?_
  have QL:=s8.trans s9
  have s69:=s7.trans QL
  refine k y D z TL H9 (Fl.trans s69) e9 (Rj.free hD) (s69 _ _ eD) (λx hx=>(abk x hx).mv λ{b xs} q=>s69 _ _ (gH _ _ q)) ⟨t,ps.map (·.2),hf,hw,?_⟩ TT R ⟨t,ts,s9 _ _ e8,(s3.trans (s4.trans (s6.trans s69))) _ _ eT,hf,QL _ _ eR,hts.up QL,afL⟩ (s1.free nTT) (Fl.free nR) (λz=>by rw [← z,(s3.trans (s4.trans s6)) _ _ eT] at nR;cases nR)
  rw [hmap,← hm',pT]
  rfl
end
def BP (es:List En) (β:Rat) (ao:Bool) (m:Nat) (q:List (Rat×Rat×Rat×Rat)):Prop:=∃qss:List (List (Rat×Rat×Rat×Rat)),jD (λr l=>Told r β ao l) ((parts c8 es es.length).take m) qss∧q=qss.flatten
theorem BP.snoc (h:BP es β ao m q) (hr:(parts c8 es es.length)[m]?=some r) (hl:Told r β ao l):BP es β ao (m+1) (q++l):=by
 obtain ⟨qss,h1,rfl⟩:=h
 refine ⟨qss++[l],?_,by simp⟩
 rw [rF,hr]
 exact mX h1 hl
theorem Told.len (h:Told es β ao l) (h1:1≤es.length):l.length≤es.length:=by
 obtain ⟨t,ps,_,w,rfl⟩:=h
 have hsh:aU ao≤1:=by unfold aU;split <;> try?
 have:=w.len
 rw [gV]
 split
 ·exact h1
 ·try?
inductive pP (vs:List V) (H:Hp) (Q:VK) (E_:XK):Prop where
 | mk (l pb:av) (es:List En) (n nb:Nat) (β:Rat) (ao:Bool):vs=[.ref l,.ref pb,.bl ao]→H l=some 0#A→Row H es n→rising es→es.length≤40→(parts c8 es es.length).length≤33→(∀r∈parts c8 es es.length,r.length≤30)→bS H pb β nb→1≤n→n≤900→nb≤1000→(∀(y X Z:av) (ps:List Pc) (H':Hp),au H H'→H' y=some (.tup [.ref X,.ref Z])→H X=none→H' X=some (.lst (nh ps))→AllP H' ps n→ps.length≤990→BP es β ao (parts c8 es es.length).length (ps.map (·.2))→∀ents:List Ent,H Z=none→X≠Z→H' Z=some (.lst (ents.map λx=>V.ref x.1))→jD (λr x=>wj H' x r β ao) (parts c8 es es.length) ents→Own H ents→(∀x∈ents,x.2.1≠X∧x.2.1≠Z∧x.2.2≠X∧x.2.2≠Z)→Q (.ref y) H')→pP vs H Q E_
inductive tQ (ao:Bool) (vs:List V) (H:Hp) (Q:VK) (E_:XK):Prop where
 | mk (l pb:av):vs=[.ref l,.ref pb]→pP [.ref l,.ref pb,.bl ao] H Q E0→tQ ao vs H Q E_
theorem vn:∀{as:List α} {bs:List β},(∀a b,b∈bs→R a b→S a b)→jD R as bs→jD S as bs
 | [],[],_,_=>trivial
 | _::_,_::_,h,g=>⟨h _ _ 0#f g.1,vn (λa b hb=>h a b (by simp [hb])) g.2⟩
 | [],_::_,_,g=>g.elim
 | _::_,[],_,g=>g.elim
theorem BX:∀{as:List α} {bs:List β},jD R as bs→∀b∈bs,∃a,R a b
 | [],[],_,b,h=>absurd h 0#f
 | x::_,y::_,h,b,hb=>by
   rcases qU.mp hb with rfl | z
   ·exact ⟨x,h.1⟩
   ·exact BX h.2 b z
 | [],_::_,h,_,_=>h.elim
 | _::_,[],h,_,_=>h.elim
theorem Own.snoc (h:Own H xs) (s:au H H4) (hin:∀y∈xs,H4 y.2.1≠none∧H4 y.2.2≠none) (n1:H4 x.2.1=none) (n2:H4 x.2.2=none) (ne:x.2.1≠x.2.2):Own H (xs++[x]):=by
 refine ⟨λy hy=>?_,?_⟩
 ·rcases dg.mp hy with z | z
  ·exact h.new y z
  ·obtain rfl:y=x:=by simpa using z
   exact ⟨s.free n1,s.free n2⟩
 ·rw [Zl]
  refine O3.mpr ⟨h.nd,by simp [ne],λa ha b hb=>?_⟩
  obtain ⟨y,hy,hya⟩:=Vj.mp ha
  have hb':b=x.2.1∨b=x.2.2:=by simpa using hb
  have hnb:H4 b=none:=by rcases hb' with z | z <;> rw [z] <;> assumption
  intro e
  subst e
  have:a=y.2.1∨a=y.2.2:=by simpa using hya
  rcases this with z | z
  ·exact (hin y hy).1 (by rw [← z];exact hnb)
  ·exact (hin y hy).2 (by rw [← z];exact hnb)
section
theorem kR:aE ["row","bound","tied","telling","paper","run","told"] ["row","bound","tied"] (ah vP):=0#a
theorem J8 (F:cR K "tied_row" "tied_row" vP f fd) (T:Txt mg) (qo:Dn P w K mg base 1 "runs" ["row"] Dp) (vd:Dn P w K mg base 6 "tied_run" ["run","bound","tied"] zO):bf P w K mg base cY 7 f fd ["row","bound","tied"] pP:=by
 refine F.ok kR 0#e 0#b
 ·obtain ⟨l,pb,es,n,nb,β,ao,rfl,_⟩:=h
  rfl
 obtain ⟨l,pb,es,n,nb,β,ao,rfl,hl,hR,dH,h30,h33,afT,hb,hn1,hn,hnb,k⟩:=h
 refine bG ⟨_,(aq (aK 3 kR.nd (dI dX)) (aq (aK 4 kR.nd (dI dX)) (aq (c7 fQ rfl (dB K (Jd.c1 qo hr 0#j)) (bX (i:=5) kR.nd rfl 0#k) (aq (aK 6 kR.nd (Jd.c3 vd hr (aa 5) 0#p 0#s)) (aq (eO (Jd.Jf K 0#E (aJ K (aa 6))) (hs:=eF)) (aH (eO (gM K 0#X (aJ K (aa 6))) (hs:=eF)))))) (aH (aV (bJ (bq 0#E 0#X))))))),?_⟩
 rw?
 refine aF (mk:=.lst) 0#f λX H1 s1 n1 e1=>?_
 rw?
 refine aF (mk:=.lst) 0#f λZ H2 s2 n2 e2=>?_
 have fW:=s1.trans s2
 have Qo:X≠Z:=λz=>by rw [← z,e1] at n2;cases n2
 rw?
 refine dJ (iD ?_)
 rw?
 refine ⟨l,es,n,rfl,fW _ _ hl,hR.up fW,by try?,λTT ls H3 s3 DW hls _ _=>?_⟩
 have hpl:=uu (s:=c8) (es:=es) es.length
 have hll:ls.length=(parts c8 es es.length).length:=by rw [← hls,gV]
 have own:∀{G:Hp} {R:av} {v:List V},LL H2 G TT ls→H2 R=some (.lst v)→R≠TT∧∀x∈ls,x.1≠R:=λhG e=>⟨(λz=>by rw [z,hG.new] at e;cases e),(λx hx z=>by rw [← z,(hG.each x hx).1] at e;cases e)⟩
 refine ⟨TT,rfl,⟨_,aX.of DW.at_⟩,eK (xs:=lrefs ls) (λi σ H4=>Rv λ(ps:List Pc) (ents:List Ent) (v5 v6:Option V)=>σ=[some 0#U,some (.ref pb),some (.bl ao),some (.ref X),some (.ref Z),v5,v6]∧au H H4∧LL H2 H4 TT ls∧H4 X=some (.lst (nh ps))∧H4 Z=some (.lst (ents.map λx=>V.ref x.1))∧ents.length≤i∧AllP H4 ps n∧ps.length≤30*i∧BP es β ao i (ps.map (·.2))∧jD (λr x=>wj H4 x r β ao) ((parts c8 es es.length).take i) ents∧Own H ents∧(∀x∈ents,x.2.1≠X∧x.2.1≠Z∧x.2.2≠X∧x.2.2≠Z)) ?_ ?_ ?_ ?_⟩
 ·exact ⟨[],[],none,none,rfl,fW.trans s3,DW,(s2.trans s3) _ _ e1,s3 _ _ e2,dG _,λx hx=>absurd hx 0#f,dG _,⟨[],trivial,rfl⟩,trivial,⟨λx hx=>absurd hx 0#f,by simp⟩,λx hx=>absurd hx 0#f⟩
 ·rintro i σ H4 _ ⟨ps,ents,v5,v6,rfl,s4,Bl,_⟩
  exact aX.of Bl.at_
 ·rintro i x σ H4 hx ⟨ps,ents,v5,v6,rfl,s4,Bl,eX,eZ,hz,hps,ado,hti,hE,hO,hne⟩
  refine cE λM B R hM _ _=>?_
  obtain ⟨x,gx,rfl⟩:=pK hx
  have hi:i<ls.length:=(lS.mp gx).1
  have Rb:=lP gx
  have hp:(parts c8 es es.length)[i]?=some x.2:=by rw [← hls,dw,gx];rfl
  obtain ⟨o1,o2,o3⟩:=mL es.length x.2 (lP hp)
  rw [jR] at o3
  obtain ⟨_,ex,_⟩:=Bl.each x Rb
  have hx1:1≤x.2.length:=Ld.mpr o1
  have agS:=afT _ (lP hp)
  rw?
  refine ⟨x.1,pb,x.2,n,nb,β,ao,rfl,ex,λz hz=>hR.up s4 z (o3.subset hz),o2,dH.sublist o3,hx1,by try?,hb.up s4,hn1,hn,hnb,λy X' Z' TL H5 s5 ey nX' eX' hpc Ys TT' RR' hEn nT' nR' af5=>?_⟩
  have adn:=Ys.len hx1
  rw [gV] at adn
  have eX5:=s5 _ _ eX
  have eZ5:=s5 _ _ eZ
  have hL5:=Bl.up s5
  obtain ⟨a1,a2⟩:=own DW (s2 _ _ e1)
  obtain ⟨b1,b2⟩:=own DW e2
  rw?
  refine ⟨.inl ⟨rfl,_,aX.of eX5⟩,?_⟩
  rw?
  refine Fj eX5 eX' (by rw [Fd,Fd];exact uM (aO 0#d)) ?_
  have eZ6:upd H5 X (.lst (nh ps++nh TL)) Z=some (.lst (ents.map λx=>V.ref x.1)):=by rw [aM (jA Qo)];exact eZ5
  have ey6:upd H5 X (.lst (nh ps++nh TL)) y=some (.tup [.ref X',.ref Z']):=uS X H5 _ _ _ (dY eX5 ey)
  rw?
  refine ⟨.inl ⟨rfl,_,aX.of eZ6⟩,?_⟩
  rw?
  refine cJ eZ6 (by rw [gV];exact aO 0#d) ?_
  have nq:∀{A B:av} {v:List V},H4 A=none→H4 B=some (.lst v)→A≠B:=λh1 h2 z=>by rw [z,h2] at h1;cases h1
  refine hM _ _ ⟨ps++TL,ents++[(Z',TT',RR')],_,_,rfl,aZ (aZ 0#R (n1)) (s1.free n2),(hL5.other a1 a2).other b1 b2,?_,by rw [aB,iI];rfl,by simp;try?,((hps.up s5).append hpc).app eX5 |>.app eZ6,by simp;try?,?_,?_,hO.snoc s4 (λy hy=>?_) nT' nR' af5,λy hy=>?_⟩
  ·rw [aM Qo,aB,nh,nh,nh,iI]
  ·rw [iI]
   exact hti.snoc hp Ys
  ·rw [rF,hp]
   refine mX (vn (λr x hx f=>?_) hE) ?_
   ·obtain ⟨c1,c2,c3,c4⟩:=hne x hx
    exact ((f.up s5).put eX5 c1 c3).put eZ6 c2 c4
   ·exact (hEn.put eX5 (nq nT' eX) (nq nR' eX)).put eZ6 (nq nT' eZ) (nq nR' eZ)
  ·obtain ⟨r,t',ts',_,q2,_,q3,_⟩:=BX hE y hy
   exact ⟨by rw [q2];simp,by rw [q3];simp⟩
  ·rcases dg.mp hy with z | z
   ·exact hne y z
   ·obtain rfl:y=(Z',TT',RR'):=by simpa using z
    exact ⟨nq nT' eX,nq nT' eZ,nq nR' eX,nq nR' eZ⟩
 ·rintro σ H4 ⟨ps,ents,v5,v6,rfl,s4,Bl,eX,eZ,hz,hps,ado,hti,hE,hO,hne⟩
  rw [d9] at ado hti
  rw?
  refine aF (mk:=.tup) 0#f λy H5 s5 n5 e5=>?_
  rw [hll] at hti
  rw [d9,hll,jR] at hE
  exact k y X Z ps H5 0#R e5 n1 (s5 _ _ eX) (hps.up s5) 0#d hti ents (s1.free n2) Qo (s5 _ _ eZ) (vn (λ_ _ _ f=>f.up s5) hE) hO hne
theorem Uu:aE ["row","bound"] ["row","bound"] (ah HN):=0#a
theorem Tt (F:cR K "spans" "spans" HN f fd) (T:Txt mg) (j5:Dn P w K mg base 7 "tied_row" ["row","bound","tied"] pP):bf P w K mg base cY 8 f fd ["row","bound"] (tQ false):=by
 refine F.ok Uu 0#e 0#b
 ·obtain ⟨l,pb,rfl,_⟩:=h
  rfl
 obtain ⟨l,pb,rfl,h⟩:=h
 refine bG ⟨_,(aH (aV (Jd.c3 j5 hr 0#j 0#p kK))),?_⟩
 rw?
 exact h
theorem Ur:aE ["row","bound"] ["row","bound"] (ah HG):=0#a
theorem Tf (F:cR K "chain" "chain" HG f fd) (T:Txt mg) (j5:Dn P w K mg base 7 "tied_row" ["row","bound","tied"] pP):bf P w K mg base cY 8 f fd ["row","bound"] (tQ true):=by
 refine F.ok Ur 0#e 0#b
 ·obtain ⟨l,pb,rfl,_⟩:=h
  rfl
 obtain ⟨l,pb,rfl,h⟩:=h
 refine bG ⟨_,(aH (aV (Jd.c3 j5 hr 0#j 0#p kK))),?_⟩
 rw?
 exact h
end
theorem gn:∀{fs:List (Str×V)} {x:V},fs.lookup f=some x→(aC f v fs).length=fs.length
 | [],_,h=>by cases h
 | (g,y)::r,x,h=>by
   unfold aC
   by_cases e:g=f
   ·rw [if_pos e];rfl
   ·rw [if_neg e]
    have e':(f==g)=false:=by
     have:¬f=g:=λz=>e z.symm
     simpa using this
    rw [Vi,e'] at h
    show (aC f v r).length+1=r.length+1
    rw [gn h]
structure NL (fs:List (Str×V)) (tw sl:av) (g s:V):Prop where
 len:fs.length≤10
 tw:fs.lookup ("twice":Str)=some (.ref tw)
 sl:fs.lookup ("samples":Str)=some (.ref sl)
 g:fs.lookup ("gentlest":Str)=some g
 s:fs.lookup ("steepest":Str)=some s
 no:∀m:Str,m ≠ "twice"→m ≠ "samples"→m ≠ "gentlest"→m ≠ "steepest"→fs.lookup m=none
theorem NL.init (tw sl:av) (g s:V):NL (aC "steepest" s (aC "gentlest" g (aC "samples" (.ref sl) (aC "twice" (.ref tw) [])))) tw sl g s:=by
 have a1:¬(("twice":Str) = "steepest"):=by decide +kernel
 have a2:¬(("twice":Str) = "gentlest"):=by decide +kernel
 have a3:¬(("twice":Str) = "samples"):=by decide +kernel
 have a4:¬(("samples":Str) = "steepest"):=by decide +kernel
 have a5:¬(("samples":Str) = "gentlest"):=by decide +kernel
 have a6:¬(("gentlest":Str) = "steepest"):=by decide +kernel
 refine ⟨?_,?_,?_,?_,?_,λm m1 m2 m3 m4=>?_⟩
 ·have l:∀(f:Str) (v:V) (fs:List (Str×V)),(aC f v fs).length≤fs.length+1:=by
   intro f v fs
   induction fs with
   | nil=>exact dG _
   | cons x r ih=>
     obtain ⟨g,y⟩:=x
     unfold aC
     split
     ·exact tV _
     ·exact xS ih
  have l1:=l "steepest" s (aC "gentlest" g (aC "samples" (.ref sl) (aC "twice" (.ref tw) [])))
  have l2:=l "gentlest" g (aC "samples" (.ref sl) (aC "twice" (.ref tw) []))
  have l3:=l "samples" (.ref sl) (aC "twice" (.ref tw) [])
  have l4:=l "twice" (.ref tw) []
  simp only [ZV] at l4
  try?
 ·rw [af,if_neg a1,af,if_neg a2,af,if_neg a3,af,if_pos rfl]
 ·rw [af,if_neg a4,af,if_neg a5,af,if_pos rfl]
 ·rw [af,if_neg a6,af,if_pos rfl]
 ·rw [af,if_pos rfl]
 ·rw [af,if_neg m4,af,if_neg m3,af,if_neg m2,af,if_neg m1]
  rfl
theorem NL.setG {tw sl:av} {g s y:V} (h:NL fs tw sl g s):NL (aC "gentlest" y fs) tw sl y s:=by
 have a2:¬(("twice":Str) = "gentlest"):=by decide +kernel
 have a5:¬(("samples":Str) = "gentlest"):=by decide +kernel
 have a6:¬(("steepest":Str) = "gentlest"):=by decide +kernel
 refine ⟨by rw [gn h.g];exact h.len,?_,?_,?_,?_,λm m1 m2 m3 m4=>?_⟩
 ·rw [af,if_neg a2];exact h.tw
 ·rw [af,if_neg a5];exact h.sl
 ·rw [af,if_pos rfl]
 ·rw [af,if_neg a6];exact h.s
 ·rw [af,if_neg m3];exact h.no m m1 m2 m3 m4
theorem NL.aci {tw sl:av} {g s y:V} (h:NL fs tw sl g s):NL (aC "steepest" y fs) tw sl g y:=by
 have a2:¬(("twice":Str) = "steepest"):=by decide +kernel
 have a5:¬(("samples":Str) = "steepest"):=by decide +kernel
 have a6:¬(("gentlest":Str) = "steepest"):=by decide +kernel
 refine ⟨by rw [gn h.s];exact h.len,?_,?_,?_,?_,λm m1 m2 m3 m4=>?_⟩
 ·rw [af,if_neg a2];exact h.tw
 ·rw [af,if_neg a5];exact h.sl
 ·rw [af,if_neg a6];exact h.g
 ·rw [af,if_pos rfl]
 ·rw [af,if_neg m4];exact h.no m m1 m2 m3 m4
theorem NL.yy {fs:List (Str×V)} {tw sl:av} {g s:V} (h:NL fs tw sl g s) (m:Str) (m1:m ≠ "twice":=by decide +kernel) (m2:m ≠ "samples":=by decide +kernel) (m3:m ≠ "gentlest":=by decide +kernel) (m4:m ≠ "steepest":=by decide +kernel):fs.lookup m=none:=h.no m m1 m2 m3 m4
def Ri (p L:av) (H:Hp):Hp:=rm p (rm L H)
theorem CQ (h1:b≠p) (h2:b≠L):Ri p L H b=H b:=by unfold Ri;rw [nC h1,nC h2]
theorem Ud:au (Ri p L H) H:=λb o e=>gH _ _ (gH _ _ e)
section
theorem Bv (hp:H p=some 0#Y) (hL:H L=some (.lst ys)) (h:H b=some 0#q):Ri p L H b=some 0#q:=by
 rw [CQ (λe=>by rw [e,hp] at h;cases h) (λe=>by rw [e,hL] at h;cases h)]
 exact h
theorem bS.out (hp:H p=some 0#Y) (hL:H L=some (.lst ys)) (f:bS H b q n):bS (Ri p L H) b q n:=let ⟨t,d,e,f⟩:=f;⟨t,d,Bv hp hL e,f⟩
theorem dz.out (hp:H p=some 0#Y) (hL:H L=some (.lst ys)) (f:dz H b q n):dz (Ri p L H) b q n:=let ⟨t,d,e,f⟩:=f;⟨t,d,Bv hp hL e,f⟩
theorem mW.out (hp:H p=some 0#Y) (hL:H L=some (.lst ys)) (f:mW H x n):mW (Ri p L H) x n:=by
 obtain ⟨a,m,v⟩:=x
 cases v with
 | none=>exact ⟨f.1,Bv hp hL f.2⟩
 | some q=>
   obtain ⟨z,r,e,g⟩:=f
   exact ⟨z,r,Bv hp hL e,g.out hp hL⟩
theorem Row.out (hp:H p=some 0#Y) (hL:H L=some (.lst ys)) (f:Row H es n):Row (Ri p L H) es n:=λx hx=>(f x hx).out hp hL
end
theorem i7.en (f:i7 H b t q n):mW H (b,t,some q) n:=let ⟨v,e,f,z⟩:=f;⟨z,v,e,f⟩
theorem mW.sa (f:mW H (b,t,some q) n):i7 H b t q n:=let ⟨z,v,e,f⟩:=f;⟨v,e,f,z⟩
def IP (es:List En) (B:Rat):Prop:=∀i j k l,i<j→j<es.length→k<l→l<es.length→dR es B i j≤cS es B k l
def IsG (es:List En) (B G:Rat):Prop:=(∀i j,i<j→j<es.length→dR es B i j≤G)∧∃i j,i<j∧j<es.length∧dR es B i j=G
def IsS (es:List En) (B S:Rat):Prop:=(∀i j,i<j→j<es.length→S≤cS es B i j)∧∃i j,i<j∧j<es.length∧cS es B i j=S
theorem N4 (g:IsG es B G) (s:IsS es B S):IP es B↔G≤S:=by
 constructor
 ·intro h
  obtain ⟨i,j,a1,a2,a3⟩:=g.2
  obtain ⟨k,l,b1,b2,b3⟩:=s.2
  rw [← a3,← b3]
  exact h i j k l a1 a2 b1 b2
 ·intro h i j k l a1 a2 b1 b2
  have:=g.1 i j a1 a2
  have:=s.1 k l b1 b2
  grind
def vg (C:av) (H:Hp) (p L:av) (es:List En) (B:Rat) (n nb:Nat):Prop:=∃(dx tw:av) (fs:List (Str×V)) (g s:V),H p=some 0#Y∧NL fs tw L g s∧H L=some 0#A∧Row H es n∧ia es∧rising es∧bS H tw B nb ∧
 ((es.length<2∧g=.bM∧s=.bM)∨(2≤es.length∧∃(pg ps:av) (G S:Rat),g=.ref pg∧s=.ref ps∧bS H pg G (3*n+nb+3)∧bS H ps S (3*n+nb+3)∧IsG es B G∧IsS es B S∧G≤S))
theorem vg.up (h:vg C H p L es B n nb) (s:au H H'):vg C H' p L es B n nb:=by
 obtain ⟨dx,tw,fs,g,s',h1,h2,h3,h4,h5,h6,h7,h8⟩:=h
 refine ⟨dx,tw,fs,g,s',s _ _ h1,h2,s _ _ h3,h4.up s,h5,h6,h7.up s,?_⟩
 rcases h8 with z | ⟨z,pg,ps,G,S,e1,e2,q1,q2,r⟩
 ·exact .inl z
 ·exact .inr ⟨z,pg,ps,G,S,e1,e2,q1.up s,q2.up s,r⟩
inductive Dc (C:av) (vs:List V) (H:Hp) (Q:VK) (E_:XK):Prop where
 | mk (p dx pb:av) (β:Rat) (n:Nat):vs=[.ref p,.ref pb]→H p=some (.ins C dx [])→bS H pb β n→n≤1000→(∀(L:av) (H':Hp) (k:Nat),au (rm p H) H'→H L=none→vg C H' p L [] (2*β) k (2*n+1)→Q .bM H')→Dc C vs H Q E_
def dM (es:List En) (B:Rat) (m:Int) (q:Rat) (i:Nat):Rat:=(q+B-wo es i)/((m:Rat)-(mo es i:Rat))
inductive tM (vs:List V) (H:Hp) (Q:VK) (E_:XK):Prop where
 | mk (kv:V) (l x tw:av) (es:List En) (m:Int) (q B:Rat) (n nb:Nat):vs=[kv,.ref l,.ref x,.ref tw]→H l=some 0#A→Row H es n→ia es→i7 H x m q n→bS H tw B nb→es.length≤900→n≤1500→nb≤3000→(∀i,i<es.length→mo es i<m)→(kv=.bM∨(0<es.length∧∃pk Kq,kv=.ref pk∧bS H pk Kq (3*n+nb+3)))→(es.length=0→kv=.bM→∀H',au H H'→Q .bM H')→(0<es.length→∀(pg:av) (G:Rat) (H':Hp),au H H'→bS H' pg G (3*n+nb+3)→(∀pk Kq,kv=.ref pk→bS H pk Kq (3*n+nb+3)→Kq≤G)→(∀i,i<es.length→dM es (-B) m q i≤G)→((∃i,i<es.length∧dM es (-B) m q i=G)∨∃pk,kv=.ref pk∧bS H pk G (3*n+nb+3))→Q (.ref pg) H')→tM vs H Q E_
inductive xJ (vs:List V) (H:Hp) (Q:VK) (E_:XK):Prop where
 | mk (kv:V) (l x tw:av) (es:List En) (m:Int) (q B:Rat) (n nb:Nat):vs=[kv,.ref l,.ref x,.ref tw]→H l=some 0#A→Row H es n→ia es→i7 H x m q n→bS H tw B nb→es.length≤900→n≤1500→nb≤3000→(∀i,i<es.length→mo es i<m)→(kv=.bM∨(0<es.length∧∃pk Kq,kv=.ref pk∧bS H pk Kq (3*n+nb+3)))→(es.length=0→kv=.bM→∀H',au H H'→Q .bM H')→(0<es.length→∀(pg:av) (G:Rat) (H':Hp),au H H'→bS H' pg G (3*n+nb+3)→(∀pk Kq,kv=.ref pk→bS H pk Kq (3*n+nb+3)→G≤Kq)→(∀i,i<es.length→G≤dM es B m q i)→((∃i,i<es.length∧dM es B m q i=G)∨∃pk,kv=.ref pk∧bS H pk G (3*n+nb+3))→Q (.ref pg) H')→xJ vs H Q E_
inductive Im (C:av) (vs:List V) (H:Hp) (Q:VK) (E_:XK):Prop where
 | mk (p L x:av) (es:List En) (m:Int) (q B:Rat) (n nb:Nat):vs=[.ref p,.ref x]→vg C H p L es B n nb→i7 H x m q n→(∀i,i<es.length→mo es i<m)→es.length≤900→n≤1000→nb≤3000→0≤B→(∀(r:Bool) (H':Hp),au (Ri p L H) H'→(r=true↔IP (es++[(x,m,some q)]) B)→vg C H' p L (if r=true then es++[(x,m,some q)] else es) B n nb→Q (.bl r) H')→Im C vs H Q E_
inductive Np (C:av) (vs:List V) (H:Hp) (Q:VK) (E_:XK):Prop where
 | mk (p L:av) (es:List En) (B:Rat) (n nb:Nat):vs=[.ref p]→vg C H p L es B n nb→(∀(R:av) (H':Hp),au H H'→H R=none→H' R=some 0#A→Q (.ref R) H')→Np C vs H Q E_
theorem Fe (a:bS H p q n) (b:bS H p r m):q=r:=by
 obtain ⟨t,d,e,f,_⟩:=a
 obtain ⟨t',d',e',f',_⟩:=b
 rw [e] at e'
 cases e'
 have h1:=f.eq
 have h2:=f'.eq
 have hd:=cI (b:=d) (by have:=f.pos;try?)
 grind
section
theorem AY:aE ["self","bound"] ["self","bound"] (ah nH):=0#a
theorem AM (F:cR K "__init__" "Stretch.__init__" nH f fd) (aY:Cl K mg "Stretch" aR ["twice","samples","gentlest","steepest"]) (ql:Dn P w K mg base 5 "plus" ["one","other"] (qO (·+·) 1)):bf P w K mg base cY 6 f fd ["self","bound"] (Dc aR):=by
 refine F.ok AY 0#e 0#b
 ·obtain ⟨p,dx,pb,β,n,rfl,_⟩:=h
  rfl
 obtain ⟨p,dx,pb,β,n,rfl,hp,hb,hn,k⟩:=h
 refine bG ⟨_,(aq (iG K 0#j (bY ql hr 0#p 0#p)) (aq (iG K 0#j (dI dX)) (aq (iG K 0#j dN) (aH (iG K 0#j dN))))),?_⟩
 rw?
 refine ⟨pb,pb,β,β,n,n,rfl,hb,hb,by try?,λtw H1 s1 f1=>?_⟩
 rw?
 have hp1:=s1 _ _ hp
 refine z9 aY hp1 (by show 0<1000;decide) ?_
 rw?
 refine aF (mk:=.lst) 0#f λL H2 s2 n2 e2=>?_
 have S5:L≠p:=λz=>by
  rw [z,aB] at n2
  cases n2
 have hp2:=s2 _ _ (aB (H:=H1) (a:=p) (o:=.ins aR dx (aC "twice" (.ref tw) [])))
 rw?
 refine z9 aY hp2 (by have:(aC "twice" (.ref tw) ([]:List (Str×V))).length=1:=rfl;try?) ?_
 rw?
 refine z9 aY aB (by
  have h3:=(NL.init tw L .bM .bM).len
  have l:∀(f:Str) (v:V) (fs:List (Str×V)),fs.length≤(aC f v fs).length:=by
   intro f v fs
   induction fs with
   | nil=>exact mD _
   | cons x r ih=>
     obtain ⟨g,y⟩:=x
     unfold aC
     split
     ·exact dG _
     ·exact xS ih
  have l1:=l "steepest" .bM (aC "gentlest" .bM (aC "samples" (.ref L) (aC "twice" (.ref tw) [])))
  have l2:=l "gentlest" .bM (aC "samples" (.ref L) (aC "twice" (.ref tw) []))
  try?) ?_
 rw?
 refine z9 aY aB (by
  have h3:=(NL.init tw L .bM .bM).len
  have l:∀(f:Str) (v:V) (fs:List (Str×V)),fs.length≤(aC f v fs).length:=by
   intro f v fs
   induction fs with
   | nil=>exact mD _
   | cons x r ih=>
     obtain ⟨g,y⟩:=x
     unfold aC
     split
     ·exact dG _
     ·exact xS ih
  have l1:=l "steepest" .bM (aC "gentlest" .bM (aC "samples" (.ref L) (aC "twice" (.ref tw) [])))
  try?) ?_
 rw?
 rw [qS,qS]
 have n0:H L=none:=by
  cases g:H L with
  | none=>rfl
  | some o=>
    have:=s1 _ _ g
    rw [aM S5,this] at n2
    cases n2
 have sH:au (rm p H) (upd H2 p (.ins aR dx (aC "steepest" .bM (aC "gentlest" .bM (aC "samples" (.ref L) (aC "twice" (.ref tw) [])))))):=λb o e=>by
  by_cases hb:b=p
  ·rw [hb] at e
   unfold rm at e
   rw [if_pos rfl] at e
   cases e
  ·rw [nC hb] at e
   rw [aM hb]
   refine s2 _ _ ?_
   rw [aM hb]
   exact s1 _ _ e
 have sH1:au (rm p H1) (upd H2 p (.ins aR dx (aC "steepest" .bM (aC "gentlest" .bM (aC "samples" (.ref L) (aC "twice" (.ref tw) [])))))):=λb o e=>by
  by_cases hb:b=p
  ·rw [hb] at e
   unfold rm at e
   rw [if_pos rfl] at e
   cases e
  ·rw [nC hb] at e
   rw [aM hb]
   refine s2 _ _ ?_
   rw [aM hb]
   exact e
 refine k L _ 0 sH n0 ⟨dx,tw,_,.bM,.bM,aB,NL.init tw L .bM .bM,by rw [aM S5];exact e2,λx hx=>absurd hx 0#f,λx hx=>absurd hx 0#f,List.Pairwise.nil,?_,.inl ⟨by decide,rfl,rfl⟩⟩
 obtain ⟨t,d,e,ff,z1,z2⟩:=f1
 have etw:rm p H1 tw=some (.tup [.int t,.int d]):=by
  rw [nC (λz=>by rw [z,hp1] at e;cases e)]
  exact e
 refine bS.mono (n:=2*n+1) ⟨t,d,sH1 _ _ etw,?_,z1,z2⟩ 0#d
 have e2':(2*β:Rat)=β+β:=by grind
 rw [e2']
 exact ff.qt
theorem kh:aE ["known","earlier","sample","twice","lowered","found"] ["known","earlier","sample","twice"] (ah lG):=0#a
theorem yI (F:cR K "gentlest_with" "gentlest_with" lG f fd) (T:Txt mg) (aS:Dn P w K mg base 1 "loose_minus" ["one","other"] (iH (·-·) 1)) (bN:Dn P w K mg base 3 "loose_slope" ["one","other"] mP) (c9:Dn P w K mg base 2 "greatest" ["quotients"] uz) :
 bf P w K mg base cY 4 f fd ["known","earlier","sample","twice"] tM:=by
 refine F.ok kh 0#e 0#b
 ·obtain ⟨kv,l,x,tw,es,m,q,B,n,nb,rfl,_⟩:=h
  rfl
 obtain ⟨kv,l,x,tw,es,m,q,B,n,nb,rfl,hl,hR,hS,hx,htw,kJ,hn,hnb,hm,hkv,k0,k1⟩:=h
 obtain ⟨vx,ex,fx,zm⟩:=hx
 refine bG ⟨_,(aq (mZ (i:=4) kh.nd rfl (Or.inr rfl) (bJ (bq (aJ K 0#s) (bY aS hr (aJ K 0#s) 0#E))) (hs:=aej)) (aq (rf (O:=["one"]) (N':=["lowered"]) (cap:=[4]) (i:=5) kh.nd rfl 0#k rfl (dB K 0#p) (λ_ _ _ _ _=>(bX (i:=0) (show jd [("one":Str),("lowered":Str)] by decide +kernel) rfl 0#k)) 1#d (λ_ _ _ _ _=>(fY bN 0#z rfl (cG 0#j (cG 0#p dX bw) bw) (he:=bw) (hpl:=(cu bw cg)))) rfl 0#u rfl 0#g rfl 0#g (by rfl)) (aq (bW (bC jI 0#j dN 0#J) (aH (eO (gM K (aa 5) 0#j) (hs:=eF))) cj) (aH (aV (su (bC dS (eY K T.eU (aa 5)) aA 0#J) (Jd.c1 c9 hr (aa 5)) dN)))))),?_⟩
 rw?
 refine ⟨vx,tw,q,B,n,nb,rfl,fx.qt,htw,by try?,λy1 H1 s1 f1=>?_⟩
 rw?
 refine aF (mk:=.tup) 0#f λlo H2 s2 n2 e2=>?_
 have fW:=s1.trans s2
 have flo:Yi H2 lo m (q-B) (n+nb+1) n:=⟨y1,e2,f1.up s2,zm⟩
 rw?
 refine iD ?_
 rw?
 refine ⟨l,rfl,⟨_,aX.of (fW _ _ hl)⟩,?_⟩
 refine cF (xs:=vals es) bZ (λH3 s3=>aX.of (s3 _ _ (fW _ _ hl))) (by rw [aN];try?) (λi ys G=>∃rs:Qs,ys=cX rs∧wc G rs (3*n+nb+3)∧rs.map (·.2)=(fM i).map (λj=>dM es (-B) m q j)) ⟨[],rfl,λz hz=>absurd hz 0#f,rfl⟩ ?_ ?_
 ·rintro D i v ys H3 jV N N0 h0 hD eD s3 hv hy ⟨rs,rfl,hrs,hmap⟩ kY kN
  obtain ⟨e,he,rfl⟩:=gI hv
  have hi:i<es.length:=(lS.mp he).1
  obtain ⟨xi,gi,fi⟩:=cT (hR.up (fW.trans s3)) hS hi
  rw [he] at gi
  cases gi
  refine fO h0 ?_
  rw?
  refine cB ?_
  rw?
  refine ⟨e.1,lo,_,_,_,_,n,n+nb+1,n,rfl,fi.YJ,flo.up s3,hm i hi,by try?,λz H4 s4 f4=>?_⟩
  refine kY _ H4 s4 ⟨rs++[(z,dM es (-B) m q i)],by simp [cX],λu hu=>?_,?_⟩
  ·rcases dg.mp hu with w | w
   ·exact (hrs u w).up (rj s4)
   ·obtain rfl:u=(z,dM es (-B) m q i):=by simpa using w
    obtain ⟨t,d,e',ff⟩:=f4.mono (show n+(n+nb+1)+n+2≤3*n+nb+3 by try?)
    refine ⟨t,d,dY (s4 _ _ eD) e',?_⟩
    have eq:(q-B-wo es i)/((m:Rat)-(mo es i:Rat))=dM es (-B) m q i:=by
     unfold dM
     rw [show q+-B-wo es i=q-B-wo es i by grind]
    rw [← eq]
    exact ff
  ·rw [iI,hmap,vY,iI]
   rfl
 ·rintro D ys H3 hD eD s3 hy ⟨rs,rfl,hrs,hmap⟩
  rw [aN] at hmap
  have GB:wc H3 rs (3*n+nb+3):=λu hu=>(hrs u hu).up gH
  have nE:=fW.trans s3
  have hlen:rs.length=es.length:=by
   have:=congrArg tY hmap
   simpa using this
  have inR:∀i,i<es.length→∃u∈rs,u.2=dM es (-B) m q i:=λi hi=>by
   have:dM es (-B) m q i∈rs.map (·.2):=by rw [hmap];exact gD.mpr ⟨i,rH.mpr hi,rfl⟩
   obtain ⟨u,hu,e⟩:=gD.mp this
   exact ⟨u,hu,e⟩
  have Tc:∀u∈rs,∃i,i<es.length∧dM es (-B) m q i=u.2:=λu hu=>by
   have:u.2∈rs.map (·.2):=gD.mpr ⟨u,hu,rfl⟩
   rw [hmap] at this
   obtain ⟨i,hi,e⟩:=gD.mp this
   exact ⟨i,rH.mp hi,e⟩
  rw?
  rcases hkv with rfl | ⟨hpos,pk,Kq,rfl,hK⟩
  ·refine 0#M
   rw?
   refine bI ?_
   rw?
   refine cy (.inl (aX.of eD)) ?_
   rw?
   refine cD 0#y 0#y
   ·have c':=jw c
    have hpos:0<rs.length:=by
     have e:(cX rs).length=rs.length:=gV ..
     rw [e] at c'
     try?
    rw?
    refine ⟨D,rs,3*n+nb+3,rfl,eD,GB,by try?,hpos,λu hu uG=>?_⟩
    rw?
    refine k1 0#d u.1 u.2 H3 nE (GB u hu) (λpk Kq e=>by cases e) (λi hi=>?_) (.inl (Tc u hu))
    obtain ⟨z,hz,e⟩:=inR i hi
    rw [← e]
    exact uG z hz
   ·have c':=gY (gQ.mpr c)
    rw?
    refine k0 ?_ rfl H3 nE
    have e:(cX rs).length=rs.length:=gV ..
    rw [e] at c'
    try?
  ·refine 0#M
   rw?
   refine cB ?_
   rw?
   refine ⟨.inl ⟨rfl,_,aX.of eD⟩,?_⟩
   rw?
   have e:(cX rs).length=rs.length:=gV ..
   refine cJ eD (by rw [e];exact aO 0#d) ?_
   have e4:upd H3 D (.lst (cX rs++[.ref pk])) D=some (.lst (cX (rs++[(pk,Kq)]))):=by rw [aB];simp [cX]
   have hK3:=hK.up nE
   generalize hG:upd H3 D (.lst (cX rs++[.ref pk]))=H4 at *
   have yg:au H2 H4:=by rw [← hG];exact aZ s3 hD
   have hq4:wc H4 (rs++[(pk,Kq)]) (3*n+nb+3):=λu hu=>by
    rcases dg.mp hu with w | w
    ·rw [← hG];exact (GB u w).app eD
    ·obtain rfl:u=(pk,Kq):=by simpa using w
     rw [← hG];exact hK3.app eD
   rw?
   refine cy (.inl (aX.of e4)) ?_
   rw?
   have e':(cX (rs++[(pk,Kq)])).length=rs.length+1:=by simp [cX]
   rw [e',show decide ((((rs.length+1:Nat):Int))>0)=true from jb 0#d]
   refine cB ?_
   rw?
   refine ⟨D,rs++[(pk,Kq)],3*n+nb+3,rfl,e4,hq4,by try?,by simp,λu hu uG=>?_⟩
   rw?
   refine k1 hpos u.1 u.2 H4 (fW.trans yg) (hq4 u hu) (λpk' Kq' e1 q1=>?_) (λi hi=>?_) ?_
   ·cases e1
    rw [Fe q1 hK]
    exact uG (pk,Kq) 0#f
   ·obtain ⟨z,hz,e1⟩:=inR i hi
    rw [← e1]
    exact uG z (Fz _ hz)
   ·rcases dg.mp hu with w | w
    ·exact .inl (Tc u w)
    ·obtain rfl:u=(pk,Kq):=by simpa using w
     exact .inr ⟨pk,rfl,hK⟩
theorem kj:aE ["known","earlier","sample","twice","raised","found"] ["known","earlier","sample","twice"] (ah lM):=0#a
theorem yN (F:cR K "steepest_with" "steepest_with" lM f fd) (T:Txt mg) (bP:Dn P w K mg base 1 "loose_plus" ["one","other"] (iH (·+·) 1)) (bN:Dn P w K mg base 3 "loose_slope" ["one","other"] mP) (gF:Dn P w K mg base 2 "smallest" ["quotients"] xF) :
 bf P w K mg base cY 4 f fd ["known","earlier","sample","twice"] xJ:=by
 refine F.ok kj 0#e 0#b
 ·obtain ⟨kv,l,x,tw,es,m,q,B,n,nb,rfl,_⟩:=h
  rfl
 obtain ⟨kv,l,x,tw,es,m,q,B,n,nb,rfl,hl,hR,hS,hx,htw,kJ,hn,hnb,hm,hkv,k0,k1⟩:=h
 obtain ⟨vx,ex,fx,zm⟩:=hx
 refine bG ⟨_,(aq (mZ (i:=4) kj.nd rfl (Or.inr rfl) (bJ (bq (aJ K 0#s) (bY bP hr (aJ K 0#s) 0#E))) (hs:=aej)) (aq (rf (O:=["one"]) (N':=["raised"]) (cap:=[4]) (i:=5) kj.nd rfl 0#k rfl (dB K 0#p) (λ_ _ _ _ _=>(bX (i:=0) (show jd [("one":Str),("raised":Str)] by decide +kernel) rfl 0#k)) 1#d (λ_ _ _ _ _=>(fY bN 0#z rfl (cG 0#j (cG 0#p dX bw) bw) (he:=bw) (hpl:=(cu bw cg)))) rfl 0#u rfl 0#g rfl 0#g (by rfl)) (aq (bW (bC jI 0#j dN 0#J) (aH (eO (gM K (aa 5) 0#j) (hs:=eF))) cj) (aH (aV (su (bC dS (eY K T.eU (aa 5)) aA 0#J) (Jd.c1 gF hr (aa 5)) dN)))))),?_⟩
 rw?
 refine ⟨vx,tw,q,B,n,nb,rfl,fx.qt,htw,by try?,λy1 H1 s1 f1=>?_⟩
 rw?
 refine aF (mk:=.tup) 0#f λlo H2 s2 n2 e2=>?_
 have fW:=s1.trans s2
 have flo:Yi H2 lo m (q+B) (n+nb+1) n:=⟨y1,e2,f1.up s2,zm⟩
 rw?
 refine iD ?_
 rw?
 refine ⟨l,rfl,⟨_,aX.of (fW _ _ hl)⟩,?_⟩
 refine cF (xs:=vals es) bZ (λH3 s3=>aX.of (s3 _ _ (fW _ _ hl))) (by rw [aN];try?) (λi ys G=>∃rs:Qs,ys=cX rs∧wc G rs (3*n+nb+3)∧rs.map (·.2)=(fM i).map (λj=>dM es B m q j)) ⟨[],rfl,λz hz=>absurd hz 0#f,rfl⟩ ?_ ?_
 ·rintro D i v ys H3 jV N N0 h0 hD eD s3 hv hy ⟨rs,rfl,hrs,hmap⟩ kY kN
  obtain ⟨e,he,rfl⟩:=gI hv
  have hi:i<es.length:=(lS.mp he).1
  obtain ⟨xi,gi,fi⟩:=cT (hR.up (fW.trans s3)) hS hi
  rw [he] at gi
  cases gi
  refine fO h0 ?_
  rw?
  refine cB ?_
  rw?
  refine ⟨e.1,lo,_,_,_,_,n,n+nb+1,n,rfl,fi.YJ,flo.up s3,hm i hi,by try?,λz H4 s4 f4=>?_⟩
  refine kY _ H4 s4 ⟨rs++[(z,dM es B m q i)],by simp [cX],λu hu=>?_,?_⟩
  ·rcases dg.mp hu with w | w
   ·exact (hrs u w).up (rj s4)
   ·obtain rfl:u=(z,dM es B m q i):=by simpa using w
    obtain ⟨t,d,e',ff⟩:=f4.mono (show n+(n+nb+1)+n+2≤3*n+nb+3 by try?)
    refine ⟨t,d,dY (s4 _ _ eD) e',?_⟩
    have eq:(q+B-wo es i)/((m:Rat)-(mo es i:Rat))=dM es B m q i:=by
     rfl
    rw [← eq]
    exact ff
  ·rw [iI,hmap,vY,iI]
   rfl
 ·rintro D ys H3 hD eD s3 hy ⟨rs,rfl,hrs,hmap⟩
  rw [aN] at hmap
  have GB:wc H3 rs (3*n+nb+3):=λu hu=>(hrs u hu).up gH
  have nE:=fW.trans s3
  have hlen:rs.length=es.length:=by
   have:=congrArg tY hmap
   simpa using this
  have inR:∀i,i<es.length→∃u∈rs,u.2=dM es B m q i:=λi hi=>by
   have:dM es B m q i∈rs.map (·.2):=by rw [hmap];exact gD.mpr ⟨i,rH.mpr hi,rfl⟩
   obtain ⟨u,hu,e⟩:=gD.mp this
   exact ⟨u,hu,e⟩
  have Tc:∀u∈rs,∃i,i<es.length∧dM es B m q i=u.2:=λu hu=>by
   have:u.2∈rs.map (·.2):=gD.mpr ⟨u,hu,rfl⟩
   rw [hmap] at this
   obtain ⟨i,hi,e⟩:=gD.mp this
   exact ⟨i,rH.mp hi,e⟩
  rw?
  rcases hkv with rfl | ⟨hpos,pk,Kq,rfl,hK⟩
  ·refine 0#M
   rw?
   refine bI ?_
   rw?
   refine cy (.inl (aX.of eD)) ?_
   rw?
   refine cD 0#y 0#y
   ·have c':=jw c
    have hpos:0<rs.length:=by
     have e:(cX rs).length=rs.length:=gV ..
     rw [e] at c'
     try?
    rw?
    refine ⟨D,rs,3*n+nb+3,rfl,eD,GB,by try?,hpos,λu hu uG=>?_⟩
    rw?
    refine k1 0#d u.1 u.2 H3 nE (GB u hu) (λpk Kq e=>by cases e) (λi hi=>?_) (.inl (Tc u hu))
    obtain ⟨z,hz,e⟩:=inR i hi
    rw [← e]
    exact uG z hz
   ·have c':=gY (gQ.mpr c)
    rw?
    refine k0 ?_ rfl H3 nE
    have e:(cX rs).length=rs.length:=gV ..
    rw [e] at c'
    try?
  ·refine 0#M
   rw?
   refine cB ?_
   rw?
   refine ⟨.inl ⟨rfl,_,aX.of eD⟩,?_⟩
   rw?
   have e:(cX rs).length=rs.length:=gV ..
   refine cJ eD (by rw [e];exact aO 0#d) ?_
   have e4:upd H3 D (.lst (cX rs++[.ref pk])) D=some (.lst (cX (rs++[(pk,Kq)]))):=by rw [aB];simp [cX]
   have hK3:=hK.up nE
   generalize hG:upd H3 D (.lst (cX rs++[.ref pk]))=H4 at *
   have yg:au H2 H4:=by rw [← hG];exact aZ s3 hD
   have hq4:wc H4 (rs++[(pk,Kq)]) (3*n+nb+3):=λu hu=>by
    rcases dg.mp hu with w | w
    ·rw [← hG];exact (GB u w).app eD
    ·obtain rfl:u=(pk,Kq):=by simpa using w
     rw [← hG];exact hK3.app eD
   rw?
   refine cy (.inl (aX.of e4)) ?_
   rw?
   have e':(cX (rs++[(pk,Kq)])).length=rs.length+1:=by simp [cX]
   rw [e',show decide ((((rs.length+1:Nat):Int))>0)=true from jb 0#d]
   refine cB ?_
   rw?
   refine ⟨D,rs++[(pk,Kq)],3*n+nb+3,rfl,e4,hq4,by try?,by simp,λu hu uG=>?_⟩
   rw?
   refine k1 hpos u.1 u.2 H4 (fW.trans yg) (hq4 u hu) (λpk' Kq' e1 q1=>?_) (λi hi=>?_) ?_
   ·cases e1
    rw [Fe q1 hK]
    exact uG (pk,Kq) 0#f
   ·obtain ⟨z,hz,e1⟩:=inR i hi
    rw [← e1]
    exact uG z (Fz _ hz)
   ·rcases dg.mp hu with w | w
    ·exact .inl (Tc u w)
    ·obtain rfl:u=(pk,Kq):=by simpa using w
     exact .inr ⟨pk,rfl,hK⟩
theorem kr (h:i<es.length):mo (es++fs) i=mo es i:=by unfold mo;rw [yb h]
theorem kH (h:i<es.length):wo (es++fs) i=wo es i:=by unfold wo;rw [yb h]
theorem GN {es:List En}:mo (es++[(a,m,some q)]) es.length=m:=by unfold mo;simp
theorem Iw {es:List En}:wo (es++[(a,m,some q)]) es.length=q:=by unfold wo;simp
section
theorem pJ (hij:i<j) (hj:j<es.length):dR (es++[(a,m,some q)]) B i j=dR es B i j:=by
 unfold dR
 rw [kr hj,kH hj,kr 0#d,kH 0#d]
theorem mH (hij:i<j) (hj:j<es.length):cS (es++[(a,m,some q)]) B i j=cS es B i j:=by
 unfold cS
 rw [kr hj,kH hj,kr 0#d,kH 0#d]
theorem Bo (hi:i<es.length):dR (es++[(a,m,some q)]) B i es.length=dM es (-B) m q i:=by
 unfold dR dM
 rw [GN,Iw,kr hi,kH hi,show q+-B=q-B by grind]
theorem wF (hi:i<es.length):cS (es++[(a,m,some q)]) B i es.length=dM es B m q i:=by
 unfold cS dM
 rw [GN,Iw,kr hi,kH hi]
theorem W2 (h0:0<es.length) (h1:2≤es.length→∃G0,IsG es B G0∧G0≤G) (hall:∀i,i<es.length→dM es (-B) m q i≤G) (hex:(∃i,i<es.length∧dM es (-B) m q i=G)∨(2≤es.length∧IsG es B G)):IsG (es++[(a,m,some q)]) B G:=by
 refine ⟨λi j hij hj=>?_,?_⟩
 ·rw [fj] at hj
  have hj':j<es.length+1:=hj
  by_cases e:j=es.length
  ·subst e
   rw [Bo hij]
   exact hall i hij
  ·rw [pJ hij 0#d]
   obtain ⟨G0,g,le⟩:=h1 0#d
   have:=g.1 i j hij 0#d
   grind
 ·rcases hex with ⟨i,hi,e⟩ | ⟨h2,g⟩
  ·exact ⟨i,es.length,hi,by rw [fj];show _<es.length+1;try?,by rw [Bo hi];exact e⟩
  ·obtain ⟨i,j,a1,a2,a3⟩:=g.2
   exact ⟨i,j,a1,by rw [fj];show _<es.length+1;try?,by rw [pJ a1 a2];exact a3⟩
theorem W3 (h0:0<es.length) (h1:2≤es.length→∃S0,IsS es B S0∧S≤S0) (hall:∀i,i<es.length→S≤dM es B m q i) (hex:(∃i,i<es.length∧dM es B m q i=S)∨(2≤es.length∧IsS es B S)):IsS (es++[(a,m,some q)]) B S:=by
 refine ⟨λi j hij hj=>?_,?_⟩
 ·rw [fj] at hj
  have hj':j<es.length+1:=hj
  by_cases e:j=es.length
  ·subst e
   rw [wF hij]
   exact hall i hij
  ·rw [mH hij 0#d]
   obtain ⟨S0,g,le⟩:=h1 0#d
   have:=g.1 i j hij 0#d
   grind
 ·rcases hex with ⟨i,hi,e⟩ | ⟨h2,g⟩
  ·exact ⟨i,es.length,hi,by rw [fj];show _<es.length+1;try?,by rw [wF hi];exact e⟩
  ·obtain ⟨i,j,a1,a2,a3⟩:=g.2
   exact ⟨i,j,a1,by rw [fj];show _<es.length+1;try?,by rw [mH a1 a2];exact a3⟩
theorem CP (h:rising es) (hm:∀i,i<es.length→mo es i<m):rising (es++[(a,m,some q)]):=by
 refine FA.mpr ⟨h,KC _ _,λx hx y hy=>?_⟩
 obtain rfl:y=(a,m,some q):=by simpa using hy
 obtain ⟨i,hi,rfl⟩:=List.getElem_of_mem hx
 have:=hm i hi
 unfold mo at this
 rw [mC hi] at this
 exact this
theorem pF (h:ia es):ia (es++[(a,m,some q)]):=λx hx=>by
 rcases dg.mp hx with z | z
 ·exact h x z
 ·obtain rfl:x=(a,m,some q):=by simpa using z
  rfl
end
theorem Yu (s:au H H2):au (Ri p L H) (upd (upd (upd H2 p o1) p o2) L o3):=λb o e=>by
 unfold Ri rm at e
 by_cases h1:b=p
 ·rw [if_pos h1] at e;cases e
 ·rw [if_neg h1] at e
  by_cases h2:b=L
  ·rw [if_pos h2] at e;cases e
  ·rw [if_neg h2] at e
   rw [aM h2,aM h1,aM h1]
   exact s _ _ e
theorem kc:aE ["self","sample","gentlest","steepest"] ["self","sample"] (ah lE):=0#a
theorem yG (F:cR K "takes" "Stretch.takes" lE f fd) (T:Txt mg) (aY:Cl K mg "Stretch" aR ["twice","samples","gentlest","steepest"]) (cO:Dn P w K mg base 4 "gentlest_with" ["known","earlier","sample","twice"] tM) (cQ:Dn P w K mg base 4 "steepest_with" ["known","earlier","sample","twice"] xJ)
 (cP:Dn P w K mg base 1 "order" ["one","other"] iW):bf P w K mg base cY 5 f fd ["self","sample"] (Im aR):=by
 refine F.ok kc 0#e 0#b
 ·obtain ⟨p,L,x,es,m,q,B,n,nb,rfl,_⟩:=h
  rfl
 obtain ⟨p,L,x,es,m,q,B,n,nb,rfl,hSt,hx,hm,kJ,hn,hnb,hB,k⟩:=h
 obtain ⟨dx,tw,fs,g,s',ep,hF,eL,hR,hS,dH,htw,hI⟩:=id hSt
 have S5:L≠p:=λz=>by rw [z,ep] at eL;cases eL
 have fl:=hF.len
  -- the sample is taken: the two slopes stand at gv, sv
 have take:∀(gv sv:V) (H2:Hp),au H H2→IP (es++[(x,m,some q)]) B →
  ((es.length=0∧gv=.bM∧sv=.bM)∨(0<es.length∧∃(pg ps:av) (G S:Rat),gv=.ref pg∧sv=.ref ps∧bS H2 pg G (3*n+nb+3)∧bS H2 ps S (3*n+nb+3)∧IsG (es++[(x,m,some q)]) B G∧IsS (es++[(x,m,some q)]) B S∧G≤S)) →
  Q (.bl true) (upd (upd (upd H2 p (.ins aR dx (aC "gentlest" gv fs))) p (.ins aR dx (aC "steepest" sv (aC "gentlest" gv fs)))) L (.lst (vals es++[.ref x]))):=by
  intro gv sv H2 s2 hfit adb
  have RZ:=s2 _ _ ep
  have eL2:=s2 _ _ eL
  have k3:=Yu (p:=p) (L:=L) (o1:=.ins aR dx (aC "gentlest" gv fs)) (o2:=.ins aR dx (aC "steepest" sv (aC "gentlest" gv fs))) (o3:=.lst (vals es++[.ref x])) (au.refl H2)
  refine k true _ (Yu s2) ⟨λ_=>hfit,λ_=>rfl⟩ ?_
  rw [if_pos rfl]
  refine ⟨dx,tw,_,gv,sv,by rw [aM (jA S5),aB],hF.setG.aci,by rw [aB];exact congrArg (λz=>some (HO.lst z)) (fu es (x,m,some q)),?_,pF hS,CP dH hm,((htw.up s2).out RZ eL2).up k3,?_⟩
  ·exact Row.up ((Row.out RZ eL2 (hR.up s2)).snoc (mW.out RZ eL2 (hx.up s2).en)) k3
  ·rw [fj]
   rcases adb with ⟨h0,e1,e2⟩ | ⟨h0,pg,ps,G,S,e1,e2,q1,q2,g1,g2,g3⟩
   ·exact .inl ⟨by show es.length+1<2;try?,e1,e2⟩
   ·exact .inr ⟨by show 2≤es.length+1;try?,pg,ps,G,S,e1,e2,(q1.out RZ eL2).up k3,(q2.out RZ eL2).up k3,g1,g2,g3⟩
 refine bG ⟨_,(aq (aK 2 kc.nd (fY cO 0#z rfl (Jd.a4 0#P 0#P 0#p 0#P) (he:=(by rfl)) (hpl:=(cu (by rfl) (cu bw (cu (by rfl) cg)))))) (aq (aK 3 kc.nd (fY cQ 0#z rfl (Jd.a4 0#P 0#P 0#p 0#P) (he:=(by rfl)) (hpl:=(cu (by rfl) (cu bw (cu (by rfl) cg)))))) (aq (bW (jj (rg (bC dS (eY K T.eU 0#P) aA 0#J) (sr (bC dS (bY cP hr 0#s 0#E) aA 0#J)))) (aH (aV kK)) cj) (aq (iG K 0#j 0#s) (aq (iG K 0#j 0#E) (aq (eO (gM K 0#P 0#p) (hs:=eF)) (aH (aV kK)))))))),?_⟩
 rw?
 refine jU aY ep hF.g ?_
 rw?
 refine jU aY ep hF.sl ?_
 rw?
 refine jU aY ep hF.tw ?_
 rw?
 refine ⟨g,L,x,tw,es,m,q,B,n,nb,rfl,eL,hR,hS,hx,htw,kJ,dP hn 0#i,dP hnb 0#i,hm,?_,λh0 hg H1 s1=>?_,λhpos pg G H1 s1 f1 hK hall hex=>?_⟩
 ·rcases hI with ⟨_,z,_⟩ | ⟨z,pg,ps,G,S,e1,_,q1,_⟩
  ·exact .inl z
  ·exact .inr ⟨by try?,pg,G,e1,q1⟩
 ·have ep1:=s1 _ _ ep
  have hs':s'=.bM:=by
   rcases hI with ⟨_,_,z⟩ | ⟨z,_⟩
   ·exact z
   ·try?
  rw?
  refine jU aY ep1 hF.s ?_
  rw?
  refine jU aY ep1 hF.sl ?_
  rw?
  refine jU aY ep1 hF.tw ?_
  rw?
  refine ⟨s',L,x,tw,es,m,q,B,n,nb,rfl,s1 _ _ eL,hR.up s1,hS,hx.up s1,htw.up s1,kJ,dP hn 0#i,dP hnb 0#i,hm,.inl hs',λ_ _ H2 s2=>?_,λhpos=>absurd hpos 0#d⟩
  have fW:=s1.trans s2
  have RZ:=fW _ _ ep
  rw?
  refine jU aY RZ hF.sl ?_
  rw?
  refine cy (.inl (aX.of (fW _ _ eL))) ?_
  rw [aN]
  rw?
  rw [show decide (((es.length:Nat):Int)>0)=false from rG 0#d]
  refine bI ?_
  refine bI ?_
  rw?
  refine z9 aY RZ 0#d ?_
  rw?
  refine z9 aY aB (by rw [gn hF.g];try?) ?_
  rw?
  refine jU aY aB hF.setG.aci.sl ?_
  rw?
  have Gf:upd (upd H2 p (.ins aR dx (aC "gentlest" .bM fs))) p (.ins aR dx (aC "steepest" .bM (aC "gentlest" .bM fs))) L=some 0#A:=by
   rw [aM S5,aM S5]
   exact fW _ _ eL
  refine ⟨.inl ⟨rfl,_,aX.of Gf⟩,?_⟩
  rw?
  refine cJ Gf (by rw [aN];exact aO 0#d) ?_
  rw?
  refine take .bM .bM H2 fW (λi j k l a1 a2 b1 b2=>?_) (.inl ⟨h0,rfl,rfl⟩)
  rw [fj,h0] at a2
  have a2':j<0+1:=a2
  try?
 ·have ep1:=s1 _ _ ep
  rw?
  refine jU aY ep1 hF.s ?_
  rw?
  refine jU aY ep1 hF.sl ?_
  rw?
  refine jU aY ep1 hF.tw ?_
  rw?
  refine ⟨s',L,x,tw,es,m,q,B,n,nb,rfl,s1 _ _ eL,hR.up s1,hS,hx.up s1,htw.up s1,kJ,dP hn 0#i,dP hnb 0#i,hm,?_,λh0=>absurd h0 0#d,λ_ ps S H2 s2 f2 hK2 r9 hex2=>?_⟩
  ·rcases hI with ⟨_,_,z⟩ | ⟨z,pg,ps,G,S,_,e1,_,q1,_⟩
   ·exact .inl z
   ·exact .inr ⟨by try?,ps,S,e1,q1.up s1⟩
  have fW:=s1.trans s2
  have RZ:=fW _ _ ep
  have gG:IsG (es++[(x,m,some q)]) B G:=by
   refine W2 hpos (λh2=>?_) hall ?_
   ·rcases hI with ⟨z,_⟩ | ⟨_,pg0,ps0,G0,S0,e1,e2,q1,q2,g1,g2,g3⟩
    ·try?
    ·exact ⟨G0,g1,hK pg0 G0 e1 q1⟩
   ·rcases hex with z | ⟨pk,e,qk⟩
    ·exact .inl z
    ·rcases hI with ⟨_,z,_⟩ | ⟨z,pg0,ps0,G0,S0,e1,e2,q1,q2,g1,g2,g3⟩
     ·rw [z] at e;cases e
     ·rw [e1] at e
      cases e
      rw [Fe qk q1]
      exact .inr ⟨z,g1⟩
  have gS:IsS (es++[(x,m,some q)]) B S:=by
   refine W3 hpos (λh2=>?_) r9 ?_
   ·rcases hI with ⟨z,_⟩ | ⟨_,pg0,ps0,G0,S0,e1,e2,q1,q2,g1,g2,g3⟩
    ·try?
    ·exact ⟨S0,g2,hK2 ps0 S0 e2 (q2.up s1)⟩
   ·rcases hex2 with z | ⟨pk,e,qk⟩
    ·exact .inl z
    ·rcases hI with ⟨_,_,z⟩ | ⟨z,pg0,ps0,G0,S0,e1,e2,q1,q2,g1,g2,g3⟩
     ·rw [z] at e;cases e
     ·rw [e2] at e
      cases e
      rw [Fe qk (q2.up s1)]
      exact .inr ⟨z,g2⟩
  have fit:=N4 gG gS
  rw?
  refine jU aY RZ hF.sl ?_
  rw?
  refine cy (.inl (aX.of (fW _ _ eL))) ?_
  rw [aN]
  rw?
  rw [show decide (((es.length:Nat):Int)>0)=true from jb 0#d]
  refine cB ?_
  rw?
  refine ⟨pg,ps,G,S,_,_,rfl,f1.up s2,f2,by try?,λo Rc ho2=>?_⟩
  rw?
  refine cD 0#y 0#y
  ·have c':S<G:=Rc.mp (jw c)
   rw?
   refine k false H2 (λb o e=>fW _ _ (Ud _ _ e)) ⟨λz=>absurd z 0#i,λz=>?_⟩ ?_
   ·have:=fit.mp z
    grind
   ·rw [if_neg dW]
    exact hSt.up fW
  ·have c':G≤S:=jz.mp λz=>gY (gQ.mpr c) (Rc.mpr z)
   rw?
   refine z9 aY RZ 0#d ?_
   rw?
   refine z9 aY aB (by rw [gn hF.g];try?) ?_
   rw?
   refine jU aY aB hF.setG.aci.sl ?_
   rw?
   have Gf:upd (upd H2 p (.ins aR dx (aC "gentlest" (.ref pg) fs))) p (.ins aR dx (aC "steepest" (.ref ps) (aC "gentlest" (.ref pg) fs))) L=some 0#A:=by
    rw [aM S5,aM S5]
    exact fW _ _ eL
   refine ⟨.inl ⟨rfl,_,aX.of Gf⟩,?_⟩
   rw?
   refine cJ Gf (by rw [aN];exact aO 0#d) ?_
   rw?
   exact take (.ref pg) (.ref ps) H2 fW (fit.mpr c') (.inr ⟨hpos,pg,ps,G,S,rfl,rfl,f1.up s2,f2,gG,gS,c'⟩)
theorem AZ:aE ["self"] ["self"] (ah nI):=0#a
theorem AN (F:cR K "kept" "Stretch.kept" nI f fd) (T:Txt mg) (aY:Cl K mg "Stretch" aR ["twice","samples","gentlest","steepest"]):bf P w K mg base cY 1 f fd ["self"] (Np aR):=by
 refine F.ok AZ 0#e 0#b
 ·obtain ⟨p,L,es,B,n,nb,rfl,_⟩:=h
  rfl
 obtain ⟨p,L,es,B,n,nb,rfl,⟨dx,tw,fs,g,s',ep,hF,eL,_⟩,k⟩:=h
 refine bG ⟨_,(aH (aV (Jd.mO Ga rfl T.adB aeY (dD 0#P)))),?_⟩
 rw?
 refine jU aY ep hF.sl ?_
 rw?
 exact ⟨L,_,rfl,.inl (aX.of eL),λR nR=>k R _ (kP nR _) nR aB⟩
end
theorem vg.fresh (h:vg C H p L [] B n nb) (hn:nb≤nb'):vg C H p L [] B n' nb':=by
 obtain ⟨dx',tw,fs,g,s',h1,h2,h3,h4,h5,h6,h7,h8⟩:=h
 refine ⟨dx',tw,fs,g,s',h1,h2,h3,λx hx=>absurd hx 0#f,h5,h6,h7.mono hn,?_⟩
 rcases h8 with z | ⟨z,_⟩
 ·exact .inl z
 ·exact absurd z 0#i
theorem vg.fit (h:vg C H p L es B n nb):IP es B:=by
 obtain ⟨dx,tw,fs,g,s',h1,h2,h3,h4,h5,h6,h7,h8⟩:=h
 rcases h8 with ⟨z,_⟩ | ⟨z,pg,ps,G,S,e1,e2,q1,q2,g1,g2,g3⟩
 ·intro i j k l a1 a2 b1 b2
  try?
 ·exact (N4 g1 g2).mpr g3
def piece (es:List En) (n m:Nat):List En:=(es.drop n).take (m-n)
def Cut (es:List En) (B:Rat) (qs:List (List En)) (n:Nat):Prop:=∃pos:Nat→Nat,pos 0=0∧pos qs.length=n∧∀i q,qs[i]?=some q→pos i<pos (i+1)∧pos (i+1)≤es.length∧q=piece es (pos i) (pos (i+1))∧IP q B∧(pos (i+1)<es.length→¬IP (piece es (pos i) (pos (i+1)+1)) B)
theorem Cut.nil:Cut es B [] 0:=⟨λ_=>0,rfl,rfl,λi q h=>by simp at h⟩
theorem Cut.snoc (h:Cut es B qs n) (h1:n<n') (h2:n'≤es.length) (hf:IP (piece es n n') B) (hn:n'<es.length→¬IP (piece es n (n'+1)) B):Cut es B (qs++[piece es n n']) n':=by
 obtain ⟨pos,p0,pn,h⟩:=h
 refine ⟨λj=>if j≤qs.length then pos j else n',?_,?_,λi q hi=>?_⟩
 ·show (if 0≤qs.length then pos 0 else n')=0
  rw [if_pos (mD _)]
  exact p0
 ·show (if (qs++[piece es n n']).length≤qs.length then pos (qs++[piece es n n']).length else n')=n'
  rw [if_neg (by rw [fj];show ¬qs.length+1≤qs.length;try?)]
 ·by_cases hi':i<qs.length
  ·rw [yb hi'] at hi
   simp only [if_pos (show i≤qs.length by try?),if_pos (show i+1≤qs.length by try?)]
   exact h i q hi
  ·have hi2:=(lS.mp hi).1
   rw [fj] at hi2
   have hi3:i<qs.length+1:=hi2
   obtain rfl:i=qs.length:=by try?
   rw [ya (dG _),K3] at hi
   obtain rfl:piece es n n'=q:=by simpa using hi
   simp only [if_pos (dG _),if_neg (show ¬qs.length+1≤qs.length by try?),pn]
   exact ⟨h1,h2,trivial,hf,hn⟩
theorem yS (h:j<m-n):(piece es n m)[j]?=es[n+j]?:=by
 unfold piece
 rw [O0,if_pos h,nW]
theorem uw (h:m≤es.length):(piece es n m).length=m-n:=by
 unfold piece
 rw [uL,iX]
 try?
theorem qC (h:n≤i) (he:es[i]?=some e):piece es n (i+1)=piece es n i++[e]:=by
 unfold piece
 rw [show i+1-n=(i-n)+1 by try?,rF,nW,show n+(i-n)=i by try?,he]
 rfl
theorem piece_nil:piece es n n=[]:=by unfold piece;simp
theorem wN (h:j<m-n):mo (piece es n m) j=mo es (n+j):=by unfold mo;rw [yS h]
theorem N5 (h:es.length≤1):IP es B:=λi j k l a1 a2 b1 b2=>by try?
theorem LL.mv (h:LL H H2 T ls) (ep:H2 p=some 0#Y) (nT:T≠L) (nl:∀x∈ls,x.1≠L) (s:au (Ri p L H2) H3):LL H H3 T ls:=by
 have e:=h.at_
 refine ⟨h.new,s _ _ (by rw [CQ (λq=>by rw [q,ep] at e;cases e) nT];exact e),λx hx=>?_,h.nd⟩
 obtain ⟨a,b,c⟩:=h.each x hx
 exact ⟨a,s _ _ (by rw [CQ (λq=>by rw [q,ep] at b;cases b) (nl x hx)];exact b),c⟩
inductive tP (C:av) (vs:List V) (H:Hp) (Q:VK) (E_:XK):Prop where
 | mk (l pb:av) (es:List En) (β:Rat) (N n:Nat):vs=[.ref l,.ref pb]→H l=some 0#A→Row H es N→ia es→rising es→bS H pb β n→0≤β→N≤1000→n≤1000→es.length≤40→(∀(T:av) (ls:Ls) (H':Hp),au H H'→LL H H' T ls→Cut es (2*β) (ls.map (·.2)) es.length→ls.length≤40→Q (.ref T) H')→tP C vs H Q E_
section
theorem jO:aE ["samples","bound","told","stretch","sample"] ["samples","bound"] (ah tE):=0#a
theorem Hh (F:cR K "stretches" "stretches" tE f fd) (T:Txt mg) (aY:Cl K mg "Stretch" aR ["twice","samples","gentlest","steepest"]) (tZ:Dk P w K mg base 6 "Stretch" aR ["self","bound"] (Dc aR)) (iY:Dm P w K mg base 5 aR "takes" ["self","sample"] (Im aR)) (jB:Dm P w K mg base 1 aR "kept" ["self"] (Np aR)) :
 bf P w K mg base cY 8 f fd ["samples","bound"] (tP aR):=by
 refine F.ok jO 0#e 0#b
 ·obtain ⟨l,pb,es,β,N,n,rfl,_⟩:=h
  rfl
 obtain ⟨l,pb,es,β,N,n,rfl,hl,hes,hS,dH,hpb,mJ,hN,hn,jS,k⟩:=h
 have hB0:(0:Rat)≤2*β:=by grind
  -- a new Stretch
 have fresh:∀{G:Hp} {QQ:Hp→Prop} {p dx:av},au H G→G p=none→G dx=none→(∀(L:av) (G':Hp),au G G'→G L=none→vg aR G' p L [] (2*β) N (2*n+1)→QQ G') →
  Dc aR [.ref p,.ref pb] (upd (upd G dx (.own p)) p (.ins aR dx [])) (λv G'=>v=.bM∧QQ G') E0:=λ{G QQ p dx} s np ndx kk=>by
  have s1:au G (upd (upd G dx (.own p)) p (.ins aR dx [])):=λb' o e=>by
   rw [aM (bK e np),aM (bK e ndx)]
   exact e
  refine ⟨p,dx,pb,β,n,rfl,aB,hpb.up (s.trans s1),hn,λL G' kn s2 nL hst=>0#M⟩
  exact kk L G' (λb' o e=>s2 _ _ (by rw [nC (bK e np)];exact s1 _ _ e)) (s1.free nL) (vg.fresh hst (dG _))
 refine bG ⟨_,(aq (aK 2 jO.nd (dI dX)) (aq (aK 3 jO.nd (Jd.TU tZ 0#z rfl (dD 0#p) (he:=bw) (hpl:=cg))) (aq (c7 fQ rfl (dB K 0#j) (bX (i:=4) jO.nd rfl 0#k) (aH (bW (Jd.nv (ir (Jd.wW iY aY.cl 0#z 0#E (dD 0#X) (he:=bw) (hpl:=cg)))) (aq (eO (gM K 0#s (Jd.MJ jB aY.cl 0#z 0#E)) (hs:=eF)) (aq (aK 3 jO.nd (Jd.TU tZ 0#z rfl (dD 0#p) (he:=bw) (hpl:=cg))) (aH (eO (Jd.wW iY aY.cl 0#z 0#E (dD 0#X) (he:=bw) (hpl:=cg)) (hs:=eF))))) cj))) (aq (bW (bC dS 0#V aA 0#J) (aH (eO (gM K 0#s (Jd.MJ jB aY.cl 0#z 0#E)) (hs:=eF))) cj) (aH (aV 0#s)))))),?_⟩
 rw?
 refine aF (mk:=.lst) 0#f λTT H1 s1 n1 e1=>?_
 rw?
 refine λp dx np ndx _=>fresh s1 np ndx λL H2 s2 nL hst=>?_
 have fW:=s1.trans s2
 rw?
 refine dJ (iD ?_)
 rw?
 refine ⟨l,rfl,⟨_,aX.of (fW _ _ hl)⟩,eK (xs:=vals es) (λi σ H3=>Xs5 λ(p L:av) (ls:Ls) (n0:Nat) (v:Option V)=>σ=[some 0#U,some (.ref pb),some (.ref TT),some 1#a,v]∧au H H3∧LL H H3 TT ls∧Cut es (2*β) (ls.map (·.2)) n0∧n0≤i∧(0<i→n0<i)∧ls.length≤n0∧vg aR H3 p L (piece es n0 i) (2*β) N (2*n+1)∧H p=none∧H L=none∧TT≠L∧∀x∈ls,x.1≠L) ?_ ?_ ?_ ?_⟩
 ·refine ⟨p,L,[],0,none,rfl,fW,⟨n1,s2 _ _ e1,λx hx=>absurd hx 0#f,by simp⟩,Cut.nil,dG _,λh=>absurd h 0#i,dG _,?_,s1.free np,s1.free nL,λq=>?_,λx hx=>absurd hx 0#f⟩
  ·rw [piece_nil];exact hst
  ·rw [← q,e1] at nL;cases nL
 ·rintro i σ H3 _ ⟨p,L,ls,n0,v,rfl,s3,_⟩
  exact aX.of (s3 _ _ hl)
 ·rintro i x σ H3 hx ⟨p,L,ls,n0,v,rfl,s3,DW,hC,h0i,abb,adm,hst,np,nL,nTL,nlL⟩
  refine cE λM Bk RR hM _ _=>?_
  obtain ⟨e,he,rfl⟩:=gI hx
  have hi:i<es.length:=(lS.mp he).1
  obtain ⟨e',he',hsa⟩:=cT (hes.up s3) hS hi
  rw [he] at he'
  cases he'
  have ee:e=(e.1,mo es i,some (wo es i)):=by
   have hs:=hS e (lP he)
   obtain ⟨a,m,v⟩:=e
   cases v with
   | none=>cases hs
   | some q=>
     unfold mo wo
     rw [he]
     rfl
  have hlen:(piece es n0 i).length=i-n0:=uw 0#d
  have hm:∀j,j<(piece es n0 i).length→mo (piece es n0 i) j<mo es i:=λj hj=>by
   rw [hlen] at hj
   rw [wN hj]
   exact iu dH 0#d hi
  have hnext:=qC h0i he
  rw [ee] at hnext
  obtain ⟨dx3,tw,fs,g,s',ep,hF,eL,_⟩:=id hst
  rw?
  refine Rh ep (hF.yy "takes") ?_
  rw?
  refine ⟨p,L,e.1,piece es n0 i,mo es i,wo es i,_,N,2*n+1,rfl,hst,hsa,hm,by try?,hN,by try?,hB0,λr H4 s4 hfit Qf=>?_⟩
  rw [← hnext] at hfit Qf
  have yg:au H H4:=λb' o q=>s4 _ _ (by rw [CQ (bK q np) (bK q nL)];exact s3 _ _ q)
  have Sj:=DW.mv ep nTL nlL s4
  cases r with
  | true=>
    rw [if_pos rfl] at Qf
    rw?
    refine bI ?_
    rw?
    exact hM _ _ ⟨p,L,ls,n0,_,rfl,yg,Sj,hC,by try?,λ_=>by try?,adm,Qf,np,nL,nTL,nlL⟩
  | false=>
    rw [if_neg dW] at Qf
    have nf:¬IP (piece es n0 (i+1)) (2*β):=λq=>absurd (hfit.mpr q) 0#i
    have afv:n0<i:=by
     apply Q8
     intro q
     exact nf (N5 (by rw [uw 0#d];try?))
    have hC':Cut es (2*β) (ls.map (·.2)++[piece es n0 i]) i:=hC.snoc afv 0#d hst.fit λ_=>nf
    obtain ⟨dx4,tw4,fs4,g4,s4',ep4,hF4,Gf,_⟩:=id Qf
    rw?
    refine cB ?_
    rw?
    refine ⟨.inl ⟨rfl,_,aX.of Sj.at_⟩,?_⟩
    rw?
    refine Rh ep4 (hF4.yy "kept") ?_
    rw?
    refine ⟨p,L,_,_,_,_,rfl,Qf,λR H5 s5 nR eR=>?_⟩
    have Sk:=Sj.up s5
    have hRT:R≠TT:=λq=>by rw [q,Sj.at_] at nR;cases nR
    have hRl:∀x∈ls,x.1≠R:=λx hx q=>by
     have:=(Sj.each x hx).2.1
     rw [q,nR] at this
     cases this
    rw?
    refine cJ Sk.at_ (by rw [d9];exact aO 0#d) ?_
    have PV:=Sk.push (yg.free nR) eR hRT hRl
    have Fl:au H (upd H5 TT (.lst (lrefs ls++[.ref R]))):=aZ (yg.trans s5) n1
    generalize upd H5 TT (.lst (lrefs ls++[.ref R]))=H6 at PV Fl ⊢
    rw?
    refine λp' dx' np' aga _=>fresh Fl np' aga λL' H7 s7 nL' ads=>?_
    have Ui:=Fl.trans s7
    have LG:=PV.up s7
    obtain ⟨dx7,tw7,fs7,g7,s7',Ym,hF7,eL7,_⟩:=id ads
    rw?
    refine Rh Ym (hF7.yy "takes") ?_
    rw?
    refine ⟨p',L',e.1,[],mo es i,wo es i,_,N,2*n+1,rfl,ads,?_,λj hj=>absurd hj (Be _),mD _,hN,by try?,hB0,λr2 H8 s8 adk adt=>?_⟩
    ·obtain ⟨e2,V2,afU⟩:=cT (hes.up Ui) hS hi
     rw [he] at V2
     cases V2
     exact afU
    have hr2:r2=true:=adk.mpr (N5 0#f)
    rw [if_pos hr2,ZR,← ee] at adt
    have adE:TT≠L':=λq=>by rw [← q,PV.at_] at nL';cases nL'
    have adH:∀x∈ls++[(R,piece es n0 i)],x.1≠L':=λx hx q=>by
     have:=(PV.each x hx).2.1
     rw [q,nL'] at this
     cases this
    have afx:=LG.mv Ym adE adH s8
    rw?
    refine hM _ _ ⟨p',L',ls++[(R,piece es n0 i)],i,_,rfl,λb' o q=>s8 _ _ (by rw [CQ (bK q (Fl.free np')) (bK q (Fl.free nL'))];exact Ui _ _ q),afx,?_,by try?,λ_=>by try?,by rw [fj];show ls.length+1≤i;try?,?_,Fl.free np',Fl.free nL',adE,adH⟩
    ·rw [iI]
     exact hC'
    ·rw [qC (dG _) he,piece_nil]
     exact adt
 ·rintro σ H3 ⟨p,L,ls,n0,v,rfl,s3,DW,hC,h0i,abb,adm,hst,np,nL,nTL,nlL⟩
  rw [aN] at h0i abb hst
  rw?
  refine cy (.inl (aX.of (s3 _ _ hl))) ?_
  rw [aN]
  rw?
  refine cD 0#y 0#y
  ·have c':=jw c
   obtain ⟨dx4,tw4,fs4,g4,s4',ep4,hF4,Gf,_⟩:=id hst
   rw?
   refine ⟨.inl ⟨rfl,_,aX.of DW.at_⟩,?_⟩
   rw?
   refine Rh ep4 (hF4.yy "kept") ?_
   rw?
   refine ⟨p,L,_,_,_,_,rfl,hst,λR H5 s5 nR eR=>?_⟩
   have Sk:=DW.up s5
   have hRT:R≠TT:=λq=>by rw [q,DW.at_] at nR;cases nR
   have hRl:∀x∈ls,x.1≠R:=λx hx q=>by
    have:=(DW.each x hx).2.1
    rw [q,nR] at this
    cases this
   have hlt:n0<es.length:=abb 0#d
   rw?
   refine cJ Sk.at_ (by rw [d9];exact aO 0#d) ?_
   have PV:=Sk.push (s3.free nR) eR hRT hRl
   rw?
   refine k TT _ _ (aZ (s3.trans s5) n1) PV ?_ (by rw [fj];show ls.length+1≤40;try?)
   rw [iI]
   exact hC.snoc hlt (dG _) hst.fit λq=>absurd q (DF _)
  ·have c':=gY (gQ.mpr c)
   rw?
   refine k TT ls H3 s3 DW ?_ 0#d
   rw [show es.length=n0 by try?]
   exact hC
end
section
variable (t y:Nat→Int)
def ab (i k p:Nat):Int:=y p*(t k-t i)-y i*(t k-t p)-y k*(t p-t i)
def pM (i j k p:Nat):Int:=2*ab t y i k p-ab t y i k j
def BW (i j k:Nat):Rat:=((ab t y i k j).natAbs:Int)/((t k-t i:Int):Rat)
end
section
theorem aaK:2*(t k-t i)*ab t y a c b=pM t y i j k b*(t c-t a)-pM t y i j k a*(t c-t b)-pM t y i j k c*(t b-t a):=by
 unfold pM ab
 grind
theorem Qv:pM t y i j k i=- ab t y i k j:=by
 unfold pM ab
 grind
theorem Td:pM t y i j k k=- ab t y i k j:=by
 unfold pM ab
 grind
theorem Br:pM t y i j k j=ab t y i k j:=by
 unfold pM
 try?
theorem Rx {m:Int} (hx:m≤x) (hu:m≤u) (hz:m≤z) (h:m<x∨m<u∨m<z) (hq:0<q) (hr:0<r):2*m*(q+r)<u*(q+r)+x*q+z*r:=by
 have e:u*(q+r)+x*q+z*r-2*m*(q+r)=(u-m)*(q+r)+(x-m)*q+(z-m)*r:=by grind
 have h1:0≤(u-m)*(q+r):=pB 0#d 0#d
 have h2:0≤(x-m)*q:=pB 0#d 0#d
 have h3:0≤(z-m)*r:=pB 0#d 0#d
 rcases h with h | h | h
 ·have:0<(x-m)*q:=xV 0#d hq
  try?
 ·have:0<(u-m)*(q+r):=xV 0#d 0#d
  try?
 ·have:0<(z-m)*r:=xV 0#d hr
  try?
def Alt (O:Nat→Int) (m:Int) (a b c:Nat):Prop:=((m≤O b∧m≤- O a∧m≤- O c)∨(m≤- O b∧m≤O a∧m≤O c))∧((m<O a∨m < - O a)∨(m<O b∨m < - O b)∨(m<O c∨m < - O c))
theorem aaT (hik:t i<t k) (hab:t a<t b) (hbc:t b<t c) (h:Alt (pM t y i j k) ((ab t y i k j).natAbs:Int) a b c):BW t y i j k<BW t y a b c:=by
 have key:((ab t y i k j).natAbs:Int)*(t c-t a)<((ab t y a c b).natAbs:Int)*(t k-t i):=by
  have id:=aaK (t:=t) (y:=y) (i:=i) (j:=j) (k:=k) (a:=a) (b:=b) (c:=c)
  generalize pM t y i j k=O at *
  generalize hm:((ab t y i k j).natAbs:Int)=m at *
  have hm0:0≤m:=by try?
  obtain ⟨h1,h2⟩:=h
  rcases h1 with ⟨u1,u2,u3⟩ | ⟨u1,u2,u3⟩
  ·have g:=Rx (x:=- O a) (u:=O b) (z:=- O c) (q:=t c-t b) (r:=t b-t a) u2 u1 u3 0#d 0#d 0#d
   have e1:O b*(t c-t b+(t b-t a))+- O a*(t c-t b)+- O c*(t b-t a)=O b*(t c-t a)-O a*(t c-t b)-O c*(t b-t a):=by grind
   rw [e1,← id] at g
   have e2:2*m*(t c-t b+(t b-t a))=2*(m*(t c-t a)):=by grind
   rw [e2] at g
   have e3:2*(t k-t i)*ab t y a c b=2*(ab t y a c b*(t k-t i)):=by grind
   rw [e3] at g
   have g2:m*(t c-t a)<ab t y a c b*(t k-t i):=by try?
   exact Vd g2 (K8 0#d 0#d)
  ·have g:=Rx (x:=O a) (u:=- O b) (z:=O c) (q:=t c-t b) (r:=t b-t a) u2 u1 u3 0#d 0#d 0#d
   have e1:- O b*(t c-t b+(t b-t a))+O a*(t c-t b)+O c*(t b-t a)=- (O b*(t c-t a)-O a*(t c-t b)-O c*(t b-t a)):=by grind
   rw [e1,← id] at g
   have e2:2*m*(t c-t b+(t b-t a))=2*(m*(t c-t a)):=by grind
   rw [e2] at g
   have e3:- (2*(t k-t i)*ab t y a c b)=2*(- ab t y a c b*(t k-t i)):=by grind
   rw [e3] at g
   have g2:m*(t c-t a) < - ab t y a c b*(t k-t i):=by try?
   exact Vd g2 (K8 0#d 0#d)
 unfold BW
 have hT:=cast_pos (b:=t k-t i) 0#d
 have hp:=cast_pos (b:=t c-t a) 0#d
 rw [Z5 hT]
 have e:(((ab t y a c b).natAbs:Int):Rat)/((t c-t a:Int):Rat)*((t k-t i:Int):Rat)=((((ab t y a c b).natAbs:Int)*(t k-t i):Int):Rat)/((t c-t a:Int):Rat):=by
  rw [nY]
  grind
 rw [e,Z6 hp,← nY]
 exact vW.mpr key
end
def acz (n:Nat):List (Nat×Nat×Nat):=(fM n).flatMap λa=>(fM n).flatMap λb=>(fM n).map λc=>(a,b,c)
theorem SV (ha:a<n) (hb:b<n) (hc:c<n):(a,b,c)∈acz n:=by
 unfold acz
 exact Vj.mpr ⟨a,rH.mpr ha,Vj.mpr ⟨b,rH.mpr hb,gD.mpr ⟨c,rH.mpr hc,rfl⟩⟩⟩
open Classical in
def beyond (t y:Nat→Int) (n:Nat) (d:Rat):Nat:=((acz n).filter λx=>decide (d<BW t y x.1 x.2.1 x.2.2)).length
theorem filter_lt {α:Type} {p q:α→Bool}:∀{l:List α},(∀x,q x=true→p x=true)→(∃x,x∈l∧p x=true∧q x=false)→(l.filter q).length<(l.filter p).length
 | [],_,h=>by obtain ⟨x,hx,_⟩:=h;exact absurd hx 0#f
 | a::l,hq,h=>by
   have le:∀l:List α,(l.filter q).length≤(l.filter p).length:=λl=>by
    induction l with
    | nil=>exact dG _
    | cons b l ih=>
      rw [DA,DA]
      cases hb:q b with
      | true=>rw [hq b hb,if_pos rfl,if_pos rfl];exact xS ih
      | false=>
        rw [if_neg dW]
        split
        ·exact Af ih
        ·exact ih
   obtain ⟨x,hx,hp,hqx⟩:=h
   rw [DA,DA]
   rcases qU.mp hx with rfl | hx
   ·rw [hqx,hp,if_neg dW,if_pos rfl]
    exact Nat.lt_succ_of_le (le l)
   ·have ih:=filter_lt (l:=l) hq ⟨x,hx,hp,hqx⟩
    cases hb:q a with
    | true=>rw [hq a hb,if_pos rfl,if_pos rfl];exact Nat.succ_lt_succ ih
    | false=>
      rw [if_neg dW]
      split
      ·exact Nat.lt_succ_of_lt ih
      ·exact ih
open Classical in
theorem PB (ha:a<n) (hb:b<n) (hc:c<n) (h:d<BW t y a b c):beyond t y n (BW t y a b c)<beyond t y n d:=by
 unfold beyond
 refine filter_lt (λx hx=>jb (by have:=jw hx;grind)) ⟨(a,b,c),SV ha hb hc,jb h,rG (Vu)⟩
theorem SN {C:Int} (hC:1≤C) (hb:1≤b):1≤C.fdiv (cH C b:Nat)*b∧C.fdiv (cH C b:Nat)*b≤C*b∧C∣C.fdiv (cH C b:Nat)*b∧b∣C.fdiv (cH C b:Nat)*b:=by
 have gp:0<cH C b:=Q7 C 0#d
 obtain ⟨c,hc⟩:=KU (a:=C) (b:=b)
 obtain ⟨d,hd⟩:=KS (a:=C) (b:=b)
 generalize hg:((cH C b:Nat):Int)=g at *
 have g1:0<g:=by try?
 have e:C.fdiv g=c:=by
  conv=>lhs;rw [hc]
  exact YS c 0#d
 rw [e]
 have hc1:1≤c:=by
  rcases aap c 1 with z | z
  ·have:g*c≤0:=Int.mul_nonpos_of_nonneg_of_nonpos 0#d 0#d
   try?
  ·exact z
 have hcC:c≤C:=by
  rw [hc]
  have:=K8 (show 1≤g by try?) (show 0≤c by try?)
  try?
 refine ⟨?_,K8 hcC 0#d,⟨d,?_⟩,⟨c,pS _ _⟩⟩
 ·have:=DC hc1 hb 0#d 0#d
  try?
 ·rw [hc]
  conv=>lhs;rw [hd]
  grind
structure Pts (H:Hp) (L:av) (ps:List av) (t y:Nat→Int):Prop where
 at_:H L=some (.lst (ps.map V.ref))
 each:∀i a,ps[i]?=some a→H a=some (.tup [.int (t i),.int (y i)])
theorem Pts.up (h:Pts H L ps t y) (s:au H H'):Pts H' L ps t y:=⟨s _ _ h.at_,λi a e=>s _ _ (h.each i a e)⟩
theorem MY {ps:List av} (h:i<ps.length) (hj:j=(i:Int)):∃a,ps[i]?=some a∧qV (ps.map V.ref) j=some (.ref a):=⟨ps[i],mC h,by
 subst hj
 exact gW (by rw [dw,mC h];rfl)⟩
inductive Dj (vs:List V) (H:Hp) (Q:VK) (E_:XK):Prop where
 | mk (l:av) (es:List En) (n:Nat):vs=[.ref l]→H l=some 0#A→Row H es n→ia es→1≤n→es.length*n+n≤7000→es.length≤40→(∀(L:av) (ps:List av) (y:Nat→Int) (C:Int) (H':Hp),au H H'→H L=none→Pts H' L ps (mo es) y→ps.length=es.length→1≤C→(∀i,i<es.length→(y i:Rat)=wo es i*(C:Rat)∧Sz 8000 (y i))→Q (.ref L) H')→Dj vs H Q E_
inductive HX (vs:List V) (H:Hp) (Q:VK) (E_:XK):Prop where
 | mk (p1 p2 p3:av) (m1 n1 m2 n2 m3 n3:Int):vs=[.ref p1,.ref p2,.ref p3]→H p1=some (.tup [.int m1,.int n1])→H p2=some (.tup [.int m2,.int n2])→H p3=some (.tup [.int m3,.int n3])→Sz 8000 m1→Sz 8000 m2→Sz 8000 m3→Sz 8000 n1→Sz 8000 n2→Sz 8000 n3→Q (.int (n3*(m2-m1)-n1*(m2-m3)-n2*(m3-m1))) H→HX vs H Q E_
inductive Nu (vs:List V) (H:Hp) (Q:VK) (E_:XK):Prop where
 | mk (L r:av) (ps:List av) (t y:Nat→Int) (i j k:Nat):vs=[.ref L,.ref r]→Pts H L ps t y→ps.length≤40→H r=some (.tup [.int (i:Int),.int (j:Int),.int (k:Int)])→i<ps.length→j<ps.length→k<ps.length→(∀q,q<ps.length→Sz 8000 (t q)∧Sz 8000 (y q))→(∀(D:av) (H':Hp),au H H'→H D=none→H' D=some (.lst (((fM ps.length).map (pM t y i j k)).map V.int))→Q (.ref D) H')→Nu vs H Q E_
inductive Nl (vs:List V) (H:Hp) (Q:VK) (E_:XK):Prop where
 | mk (r D:av) (i j k p n:Nat) (O:Nat→Int) (m:Int):vs=[.ref r,.int (p:Int),.ref D]→H r=some (.tup [.int (i:Int),.int (j:Int),.int (k:Int)])→H D=some (.lst (((fM n).map O).map V.int))→i<j→j<k→k<n→p<n→0≤m→((m=O j∧O i=- O j∧O k=- O j)∨(m=- O j∧O i=- O j∧O k=- O j))→(m<O p∨m < - O p)→(∀(r':av) (a b c:Nat) (H':Hp),au H H'→H' r'=some (.tup [.int (a:Int),.int (b:Int),.int (c:Int)])→a<b→b<c→c<n→Alt O m a b c→Q (.ref r') H')→Nl vs H Q E_
def Flat (t y:Nat→Int) (n i j k:Nat):Prop:=i<j∧j<k∧k<n∧∀p,p<n→(pM t y i j k p).natAbs≤(ab t y i k j).natAbs
inductive zH (vs:List V) (H:Hp) (Q:VK) (E_:XK):Prop where
 | mk (l:av) (es:List En) (n:Nat):vs=[.ref l]→H l=some 0#A→Row H es n→ia es→rising es→1≤n→es.length*n+n≤7000→3≤es.length→es.length≤40→(∀(r:av) (i j k:Nat) (y:Nat→Int) (C:Int) (H':Hp),au H H'→H' r=some (.tup [.int (i:Int),.int (j:Int),.int (k:Int)])→1≤C→(∀i,i<es.length→(y i:Rat)=wo es i*(C:Rat))→Flat (mo es) y es.length i j k→Q (.ref r) H')→zH vs H Q E_
section
theorem gP:aE ["samples","common","sample","bottom"] ["samples"] (ah nQ):=0#a
theorem AX (F:cR K "whole_points" "whole_points" nQ f fd) (mE:Dn P w K mg base 2 "divisor" ["one","other"] uy):bf P w K mg base cY 3 f fd ["samples"] Dj:=by
 refine F.ok gP 0#e 0#b
 ·obtain ⟨l,es,n,rfl,_⟩:=h
  rfl
 obtain ⟨l,es,n,rfl,hl,hR,hS,hn1,hn,jS,k⟩:=h
 have hin:∀i,i<es.length→i*n+n≤es.length*n:=λi hi=>by
  have:=Nat.mul_le_mul_right n (show i+1≤es.length by try?)
  rw [VJ,VM] at this
  exact this
 have cd:∀{x d:Int},1≤d→Sz 8000 d→ED x d:=λhd hz=>⟨by try?,Sz.log (m:=8000) hz 0#i 0#i⟩
 refine bG ⟨_,(aq (mZ (i:=1) gP.nd rfl (Or.inr rfl) aA (hs:=agy)) (aq (c7 fQ rfl (dB K 0#j) (bX (i:=2) gP.nd rfl 0#k) (aq (aK 3 gP.nd (aJ K (aJ K 0#s))) (aH (mZ (i:=1) gP.nd rfl (Or.inr rfl) (aI aQ (aI gc 0#p (bY mE hr 0#p 0#E)) 0#E) (hs:=acm))))) (aH (aV (oz (O:=["sample"]) (N':=["common"]) (cap:=[1]) rfl (dB K 0#j) (λ_ _ _ _ _=>(bX (i:=0) (show jd [("sample":Str),("common":Str)] by decide +kernel) rfl 0#k)) 1#d (λ_ _ _ _ _=>(bJ (cG (bB (D9 K) 0#j aA 0#h) (cG (aI aQ (bB (D9 K) (bB (D9 K) 0#j aA 0#h) aA 0#h) (aI gc 0#p (bB (D9 K) (bB (D9 K) 0#j aA 0#h) aA 0#h))) dX Iq) o9))) rfl 0#u rfl 0#g rfl 0#g))))),?_⟩
 rw?
 refine dJ (iD ?_)
 rw?
 refine ⟨l,rfl,⟨_,aX.of hl⟩,eK (xs:=vals es) (λi σ H3=>NP λ(C:Int) (v2 v3:Option V)=>σ=[some 0#U,some (.int C),v2,v3]∧au H H3∧1≤C∧Sz (i*n+1) C∧∀j,j<i→((wo es j).den:Int)∣C) ?_ ?_ ?_ ?_⟩
 ·exact ⟨1,none,none,rfl,au.refl _,DK _,by rw [Nat.zero_mul];exact qy 0#d,λj hj=>by try?⟩
 ·rintro i σ H3 _ ⟨C,v2,v3,rfl,s3,_⟩
  exact aX.of (s3 _ _ hl)
 ·rintro i x σ H3 hx ⟨C,v2,v3,rfl,s3,hC,zC,hdv⟩
  refine cE λM B RR hM _ _=>?_
  obtain ⟨e,he,rfl⟩:=gI hx
  have hi:i<es.length:=(lS.mp he).1
  obtain ⟨e',he',v,ev,⟨tp,b,eb,hfr,zt,zb⟩,zm⟩:=cT (hR.up s3) hS hi
  rw [he] at he'
  cases he'
  have hb:=hfr.pos
  obtain ⟨_,hbd⟩:=hfr.Bq
  have afE:=hin i hi
  rw?
  refine ⟨C,b,rfl,zC.mono 0#d,zb.mono 0#d,λH4 s4=>?_⟩
  obtain ⟨u1,u2,u3,u4⟩:=SN hC hb
  have zg:Sz 8000 ((cH C b:Nat):Int):=by
   have:cH C b≤b.natAbs:=aah 0#d (ZE _ _)
   exact Sz.of_le (zb.mono 0#d) 0#d
  have gp:0<cH C b:=Q7 C 0#d
  have zC':Sz ((i+1)*n+1) (C.fdiv (cH C b:Nat)*b):=by
   have e1:(i+1)*n+1=i*n+1+n:=by rw [VJ,VM];try?
   rw [e1]
   refine Sz.of_le (zC.mul zb) ?_
   generalize C.fdiv (cH C b:Nat)*b=A at *
   generalize C*b=B at *
   try?
  have zq:Sz 8000 (C.fdiv (cH C b:Nat)):=by
   refine Sz.of_le (zC.mono (show i*n+1≤8000 by try?)) ?_
   have h0:0≤C.fdiv (cH C b:Nat):=Vq 0#d 0#d
   have:C.fdiv (cH C b:Nat)≤C:=by
    rw [DO _ 0#d]
    exact O5 _ 0#d
   try?
  rw?
  refine gT (cd 0#d zg) ?_
  rw?
  refine gT (bV zq (zb.mono (show n≤8000 by try?)) 0#i) ?_
  rw?
  refine hM _ _ ⟨_,_,_,rfl,s3.trans s4,u1,zC',λj hj=>?_⟩
  by_cases e:j=i
  ·rw [e,← hbd];exact u4
  ·exact Int.dvd_trans (hdv j 0#d) u3
 ·rintro σ H3 ⟨C,v2,v3,rfl,s3,hC,zC,hdv⟩
  rw [aN] at zC hdv
  have hl3:=s3 _ _ hl
  rw?
  refine iD ?_
  rw?
  refine ⟨l,rfl,⟨_,aX.of hl3⟩,?_⟩
  refine cF (xs:=vals es) bZ (λH4 s4=>aX.of (s4 _ _ hl3)) (by rw [aN];try?) (λi ys G=>∃(ps:List av),ys=ps.map V.ref∧ps.length=i∧∀q a,ps[q]?=some a→G a=some (.tup [.int (mo es q),.int ((wo es q).num*(C.fdiv ((wo es q).den:Int)))])) ⟨[],rfl,rfl,λq a h=>by simp at h⟩ ?_ ?_
  ·rintro D i x ys H4 jV NN N0 h0 hD eD s4 hx hy ⟨ps,rfl,hps,hat⟩ kY kN
   obtain ⟨e,he,rfl⟩:=gI hx
   have hi:i<es.length:=(lS.mp he).1
   obtain ⟨e',he',v,ev,⟨tp,b,eb,hfr,zt,zb⟩,zm⟩:=cT (hR.up 0#S) hS hi
   rw [he] at he'
   cases he'
   have hb:=hfr.pos
   obtain ⟨htn,hbd⟩:=hfr.Bq
   refine fO h0 ?_
   rw?
   refine cB ?_
   rw?
   refine gT (cd hb (zb.mono 0#d)) ?_
   rw?
   have zq:Sz 8000 (C.fdiv b):=by
    refine Sz.of_le (zC.mono (show es.length*n+1≤8000 by try?)) ?_
    have h0:0≤C.fdiv b:=Vq 0#d 0#d
    have:C.fdiv b≤C:=by
     rw [DO _ 0#d]
     exact O5 _ 0#d
    try?
   refine gT (bV (zt.mono (show n≤8000 by try?)) zq 0#i) ?_
   rw?
   refine aF (mk:=.tup) 0#f λp H5 s5 n5 e5=>?_
   refine kY _ H5 s5 ⟨ps++[p],by simp,by simp [hps],λq a hq=>?_⟩
   by_cases hqi:q<ps.length
   ·rw [yb hqi] at hq
    exact (rj s5) _ _ (hat q a hq)
   ·rw [ya 0#d] at hq
    have hq0:q=i:=by
     have:=(lS.mp hq).1
     simp at this
     try?
    subst hq0
    rw [hps,K3] at hq
    obtain rfl:p=a:=by simpa using hq
    rw [← htn,← hbd]
    exact dY (s5 _ _ eD) e5
  ·rintro D ys H4 hD eD s4 hy ⟨ps,rfl,hps,hat⟩
   rw [aN] at hps
   refine k D ps (λq=>(wo es q).num*(C.fdiv ((wo es q).den:Int))) C H4 0#S (s3.free hD) ⟨eD,λq a h=>gH _ _ (hat q a h)⟩ hps hC (λi hi=>?_)
   obtain ⟨e',he',v,ev,⟨tp,b,eb,hfr,zt,zb⟩,zm⟩:=cT hR hS hi
   obtain ⟨htn,hbd⟩:=hfr.Bq
   have hb:=hfr.pos
   obtain ⟨c,hc⟩:=hdv i hi
   rw [← hbd] at hc
   have e1:C.fdiv b=c:=by
    conv=>lhs;rw [hc]
    exact YS c 0#d
   have ada:=cI (b:=b) 0#d
   have afE:=hin i hi
   refine ⟨?_,?_⟩
   ·show (((wo es i).num*(C.fdiv ((wo es i).den:Int)):Int):Rat)=_
    rw [← hbd,← htn,e1,hc,nY,nY]
    have:=hfr.eq
    grind
   ·show Sz 8000 ((wo es i).num*(C.fdiv ((wo es i).den:Int)))
    rw [← hbd,← htn]
    have zq:Sz (es.length*n+1) (C.fdiv b):=by
     refine Sz.of_le zC ?_
     have h0:0≤C.fdiv b:=Vq 0#d 0#d
     have:C.fdiv b≤C:=by
      rw [DO _ 0#d]
      exact O5 _ 0#d
     try?
    exact (zt.mul zq).mono 0#d
theorem nU:aE ["one","last","point","ahead","behind"] ["one","last","point"] (ah oY):=0#a
theorem Cp (F:cR K "above_chord" "above_chord" oY f fd):bf P w K mg base cY 1 f fd ["one","last","point"] HX:=by
 refine F.ok nU 0#e 0#b
 ·obtain ⟨p1,p2,p3,m1,n1,m2,n2,m3,n3,rfl,_⟩:=h
  rfl
 obtain ⟨p1,p2,p3,m1,n1,m2,n2,m3,n3,rfl,e1,e2,e3,a1,a2,a3,b1,b2,b3,k⟩:=h
 refine bG ⟨_,(aq (aK 3 nU.nd (aI aQ 0#I (aI bL 0#Q (aJ K 0#s)))) (aq (aK 4 nU.nd (aI aQ 0#Q (aI bL (aJ K 0#s) 0#I))) (aH (aV (aI bL (aI bL (aI aQ (aJ K 0#s) (aI bL 0#Q 0#I)) 0#E) 0#X))))),?_⟩
 rw?
 refine gT (bV b1 (a2.sub a3) 0#i) ?_
 rw?
 refine gT (bV b2 (a3.sub a1) 0#i) ?_
 rw?
 refine gT (bV b3 (a2.sub a1) 0#i) ?_
 rw?
 exact k
theorem jN:aE ["points","three","one","last","lift"] ["points","three"] (ah o8):=0#a
theorem Cy (F:cR K "scaled_offs" "scaled_offs" o8 f fd) (kq:Dn P w K mg base 1 "above_chord" ["one","last","point"] HX):bf P w K mg base cY 2 f fd ["points","three"] Nu:=by
 refine F.ok jN 0#e 0#b
 ·obtain ⟨L,r,ps,t,y,i,j,k,rfl,_⟩:=h
  rfl
 obtain ⟨L,r,ps,t,y,i,j,kk,rfl,hP,jS,er,hi,hj,hk,hz,k⟩:=h
 obtain ⟨ai,gi,ti⟩:=MY hi (j:=(i:Int)) rfl
 obtain ⟨aj,gj,tj⟩:=MY hj (j:=(j:Int)) rfl
 obtain ⟨ak,gk,tk⟩:=MY hk (j:=(kk:Int)) rfl
 have ei:=hP.each _ _ gi
 have ej:=hP.each _ _ gj
 have ek:=hP.each _ _ gk
 refine bG ⟨_,(aq (mZ (i:=2) jN.nd rfl (Or.inr rfl) (bB 0#Z 0#j 0#Q 0#h) (hs:=QV)) (aq (mZ (i:=3) jN.nd rfl (Or.inr rfl) (bB 0#Z 0#j 0#Q 0#h) (hs:=QV)) (aq (mZ (i:=4) jN.nd rfl (Or.inr rfl) (Jd.c3 kq hr 0#s 0#E (bB 0#Z 0#j 0#Q 0#h)) (hs:=eF)) (aH (aV (oz (O:=["point"]) (N':=["lift","one" ,"last" ]) (cap:=[4,2,3]) rfl (dB K 0#j) (λ_ _ _ _ _=>(bX (i:=0) (show jd [("point":Str),("lift":Str),("one":Str),("last":Str)] by decide +kernel) rfl 0#k)) 1#d (λ_ _ _ _ _=>(aI bL (aI aQ aA (fY kq 0#z rfl (cG 0#s (cG 0#E (cG 0#j dX bw) bw) bw) (he:=bw) (hpl:=(cu bw (cu bw cg))))) 0#p)) rfl ⟨⟨rfl,rfl,rfl,rfl⟩,⟨⟨rfl,rfl,rfl,rfl⟩,0#u⟩⟩ rfl 0#g rfl 0#g)))))),?_⟩
 rw?
 refine cK hP.at_ ti ?_
 rw?
 refine cK hP.at_ tk ?_
 rw?
 refine cK hP.at_ tj ?_
 rw?
 refine ⟨ai,ak,aj,_,_,_,_,_,_,rfl,ei,ek,ej,(hz i hi).1,(hz kk hk).1,(hz j hj).1,(hz i hi).2,(hz kk hk).2,(hz j hj).2,?_⟩
 rw?
 refine iD ?_
 rw?
 refine ⟨L,rfl,⟨_,aX.of hP.at_⟩,?_⟩
 refine cF (xs:=ps.map V.ref) bZ (λH4 s4=>aX.of (s4 _ _ hP.at_)) (by rw [gV];try?) (λq ys G=>ys=((fM q).map (pM t y i j kk)).map V.int) rfl ?_ ?_
 ·rintro D q x ys H4 jV NN N0 h0 hD eD s4 hx hy rfl kY kN
  rw [dw] at hx
  obtain ⟨a,ga,rfl⟩:=IC.mp hx
  have hq:q<ps.length:=(lS.mp ga).1
  refine fO h0 ?_
  rw?
  refine cB ?_
  rw?
  refine ⟨ai,ak,a,_,_,_,_,_,_,rfl,s4 _ _ ei,s4 _ _ ek,s4 _ _ (hP.each _ _ ga),(hz i hi).1,(hz kk hk).1,(hz q hq).1,(hz i hi).2,(hz kk hk).2,(hz q hq).2,?_⟩
  rw?
  refine kY _ H4 0#x ?_
  rw [vY,iI,iI]
  rfl
 ·rintro D ys H4 hD eD s4 hy rfl
  rw [gV] at eD
  exact k D H4 s4 hD eD
theorem N2 (h0:0≤m) (hm:m=oj∨m=-oj) (hi:oi=-oj) (hp:m<op∨m < -op) (hs:0<op↔0<oi):(m≤oj∧m≤-op)∨(m≤-oj∧m≤op):=by
 have:(0<op∧0<oi)∨(op≤0∧oi≤0):=by
  by_cases z:0<op
  ·exact .inl ⟨z,hs.mp z⟩
  ·exact .inr ⟨uX.mp z,uX.mp λq=>z (hs.mpr q)⟩
 lia
theorem Gh (h0:0≤m) (hm:m=oj∨m=-oj) (hi:oi=-oj) (hp:m<op∨m < -op) (hs:(0<op∧oi≤0)∨(op≤0∧0<oi)):(m≤op∧m≤oj)∨(m≤-op∧m≤-oj):=by
 lia
theorem wA (h:q<n):qV (((fM n).map O).map V.int) (q:Int)=some (.int (O q)):=gW (by rw [dw,dw,IG h];rfl)
theorem mh:aE ["three","far","offs","first","mid","last"] ["three","far","offs"] (ah sO):=0#a
theorem GY (F:cR K "exchanged" "exchanged" sO f fd):bf P w K mg base cY 1 f fd ["three","far","offs"] Nl:=by
 refine F.ok mh 0#e 0#b
 ·obtain ⟨r,D,i,j,k,p,n,O,m,rfl,_⟩:=h
  rfl
 obtain ⟨r,D,i,j,kk,p,n,O,m,rfl,er,eD,hij,hjk,hkn,hpn,hm0,hm,hp,k⟩:=h
 have tell:∀{a b c:Nat} {H1:Hp} {r':av},au H H1→H1 r'=some (.tup [.int (a:Int),.int (b:Int),.int (c:Int)])→a<b→b<c→c<n→((m≤O b∧m≤- O a∧m≤- O c)∨(m≤- O b∧m≤O a∧m≤O c))→(a=p∨b=p∨c=p)→Q (.ref r') H1:=λs1 e1 h1 h2 h3 h4 h5=>k _ _ _ _ _ s1 e1 h1 h2 h3 ⟨h4,by
  rcases h5 with rfl | rfl | rfl
  ·exact .inl hp
  ·exact .inr (.inl hp)
  ·exact .inr (.inr hp)⟩
 obtain ⟨hmj,oi,ok⟩:(m=O j∨m=-O j)∧O i=-O j∧O kk=-O j:=by
  rcases hm with ⟨m1,m2,m3⟩ | ⟨m1,m2,m3⟩
  ·exact ⟨.inl m1,m2,m3⟩
  ·exact ⟨.inr m1,m2,m3⟩
 have oi':-O i=O j:=by rw [oi,VH]
 have ok':-O kk=O j:=by rw [ok,VH]
 have hpi:p≠i:=λz=>by subst z;lia
 have hpj:p≠j:=λz=>by subst z;lia
 have hpk:p≠kk:=λz=>by subst z;lia
 refine bG ⟨_,(aq (aK 3 mh.nd 0#I) (aq (aK 4 mh.nd 0#I) (aq (aK 5 mh.nd 0#I) (aq (bW (jj (rg (bC lQ 0#p 0#X 0#J) (sr (bC dF (mY dS (bB 0#Z 0#s 0#p 0#h) aA 0#J) (mY dS (bB 0#Z 0#s 0#E 0#h) aA 0#J) 0#J)))) (aH (aV (bJ (Jd.a3 0#p 0#X (aa 5))))) cj) (aq (bW (jj (rg (bC dS 0#p 0#X 0#J) (sr (bC dF (mY dS (bB 0#Z 0#s 0#p 0#h) aA 0#J) (mY dS (bB 0#Z 0#s (aa 5) 0#h) aA 0#J) 0#J)))) (aH (aV (bJ (Jd.a3 0#E 0#X 0#p)))) cj) (aq (bW (bC lQ 0#p 0#E 0#J) (aH (aV (bJ (Jd.a3 0#p 0#E 0#X)))) cj) (aq (bW (bC dS 0#p (aa 5) 0#J) (aH (aV (bJ (Jd.a3 0#X (aa 5) 0#p)))) cj) (aH (aV (bJ (Jd.a3 0#E 0#p (aa 5)))))))))))),?_⟩
 refine Kn (λσ' H'=>H'=H∧σ'=[some (.ref r),some (.int (p:Int)),some (.ref D),some (.int (i:Int)),some (.int (j:Int)),some (.int (kk:Int))]∧(p<j→¬(0<O p↔0<O i))) (λσ' H' hP=>?_) (λN rest=>?_)
 rotate_left
 ·rw?
  refine cD 0#C 0#C
  ·have rW:=jw c1
   rw?
   refine cK eD (wA hpn) ?_
   rw?
   refine cK eD (wA (show i<n by lia)) ?_
   rw?
   refine YG ?_
   rw?
   refine cD (λc2=>?_) (λc2=>?_)
   ·have Wk:(0<O p↔0<O i):=by
     have:=xW.mp c2
     exact KW.mp this
    rw?
    refine aF (mk:=.tup) 0#f λr' H1 s1 n1 e1=>?_
    refine tell s1 e1 (by lia) hjk hkn ?_ (.inl rfl)
    rcases N2 hm0 hmj oi hp Wk with ⟨u,v⟩ | ⟨u,v⟩
    ·exact .inl ⟨u,v,by rw [ok'];exact u⟩
    ·exact .inr ⟨u,v,by rw [ok];exact u⟩
   ·rw?
    refine rest _ _ ⟨rfl,rfl,λ_ z=>c2 (xW.mpr (KW.mpr z))⟩
  ·have rW:¬(p:Int)<(j:Int):=λz=>c1 (jb z)
   refine bI ?_
   rw?
   exact rest _ _ ⟨rfl,rfl,λz=>absurd (by lia) rW⟩
 obtain ⟨rfl,rfl,h1⟩:=hP
 refine gX (λσ' H''=>H''=H'∧σ'=[some (.ref r),some (.int (p:Int)),some (.ref D),some (.int (i:Int)),some (.int (j:Int)),some (.int (kk:Int))]∧(j<p→¬(0<O p↔0<O kk))) (λσ' H'' hP=>?_) (λN rest=>?_)
 rotate_left
 ·rw?
  refine cD 0#C 0#C
  ·have rW:=jw c1
   rw?
   refine cK eD (wA hpn) ?_
   rw?
   refine cK eD (wA hkn) ?_
   rw?
   refine YG ?_
   rw?
   refine cD (λc2=>?_) (λc2=>?_)
   ·have Wk:(0<O p↔0<O kk):=KW.mp (xW.mp c2)
    rw?
    refine aF (mk:=.tup) 0#f λr' H1 s1 n1 e1=>?_
    refine tell s1 e1 hij (by lia) hpn ?_ (.inr (.inr rfl))
    rcases N2 hm0 hmj ok hp Wk with ⟨u,v⟩ | ⟨u,v⟩
    ·exact .inl ⟨u,by rw [oi'];exact u,v⟩
    ·exact .inr ⟨u,by rw [oi];exact u,v⟩
   ·rw?
    refine rest _ _ ⟨rfl,rfl,λ_ z=>c2 (xW.mpr (KW.mpr z))⟩
  ·have rW:¬(j:Int)<(p:Int):=λz=>c1 (jb z)
   refine bI ?_
   rw?
   exact rest _ _ ⟨rfl,rfl,λz=>absurd (by lia) rW⟩
 obtain ⟨rfl,rfl,h2⟩:=hP
 have far:∀{q:Nat},¬(0<O p↔0<O q)→(0<O p∧O q≤0)∨(O p≤0∧0<O q):=λ{q} z=>by
  by_cases a1:0<O p
  ·exact .inl ⟨a1,uX.mp λb1=>z ⟨λ_=>b1,λ_=>a1⟩⟩
  ·exact .inr ⟨uX.mp a1,Q8 λb1=>z ⟨λc=>absurd c a1,λc=>absurd c b1⟩⟩
 rw?
 refine cD 0#C 0#C
 ·have rW:=jw c1
  have hf:=far (h1 (by lia))
  rw?
  refine aF (mk:=.tup) 0#f λr' H1 s1 n1 e1=>?_
  refine tell s1 e1 (by lia) hij (by lia) ?_ (.inl rfl)
  rcases Gh hm0 hmj oi hp hf with ⟨u,v⟩ | ⟨u,v⟩
  ·exact .inr ⟨by rw [oi'];exact v,u,v⟩
  ·exact .inl ⟨by rw [oi];exact v,u,v⟩
 ·have rW:¬(p:Int)<(i:Int):=λz=>c1 (jb z)
  rw?
  refine cD (λc2=>?_) (λc2=>?_)
  ·have Wk:=jw c2
   have hf:=far (h2 (by lia))
   rw?
   refine aF (mk:=.tup) 0#f λr' H1 s1 n1 e1=>?_
   refine tell s1 e1 hjk (by lia) hpn ?_ (.inr (.inr rfl))
   rcases Gh hm0 hmj ok hp hf with ⟨u,v⟩ | ⟨u,v⟩
   ·exact .inr ⟨by rw [ok'];exact v,v,u⟩
   ·exact .inl ⟨by rw [ok];exact v,v,u⟩
  ·have Wk:¬(kk:Int)<(p:Int):=λz=>c2 (jb z)
   rw?
   refine aF (mk:=.tup) 0#f λr' H1 s1 n1 e1=>?_
   refine tell s1 e1 (by lia) (by lia) hkn ?_ (.inr (.inl rfl))
   have hf:(m≤O p∧m≤O j)∨(m≤-O p∧m≤-O j):=by
    rcases VD p j with z | z
    ·exact Gh hm0 hmj oi hp (far (h1 z))
    ·exact Gh hm0 hmj ok hp (far (h2 (by lia)))
   rcases hf with ⟨u,v⟩ | ⟨u,v⟩
   ·exact .inl ⟨u,by rw [oi'];exact v,by rw [ok'];exact v⟩
   ·exact .inr ⟨u,by rw [oi];exact v,by rw [ok];exact v⟩
end
theorem Q5 (W:Nat→St→Hp→Prop) (h0:∃m,W m σ H)
 (hs:∀m σ H,W m σ H→∀R:Bool→Hp→Prop,(∀H1,(∀M:St→Hp→Prop,(∀σ' H' m',W m' σ' H'→m'<m→M σ' H')→tb { D with nx:=M,ct:=M,bk:=D.nx } σ H1)→R true H1)→(∀H1,D.nx σ H1→R false H1)→c σ H R):Dv c tb D σ H:=by
 refine ⟨W,h0,?_⟩
 intro m σ H p
 refine hs m σ H p _ (λH1 q=>?_) (λH1 q=>?_)
 ·rw [if_pos rfl]
  exact ⟨λσ' H'=>∃m',m'<m∧W m' σ' H',λσ' H' ⟨m',l,z⟩=>⟨m',l,z⟩,q _ λ_ _ m' a b=>⟨m',b,a⟩⟩
 ·rw [if_neg dW]
  exact q
section
theorem dc:aE ["samples","points","three","offs","misses","worst"] ["samples"] (ah lF):=0#a
theorem yH (F:cR K "forcing_three" "forcing_three" lF f fd) (T:Txt mg) (mV:Dn P w K mg base 3 "whole_points" ["samples"] Dj) (oS:Dn P w K mg base 2 "scaled_offs" ["points","three"] Nu) (rM:Dn P w K mg base 1 "exchanged" ["three","far","offs"] Nl):bf P w K mg base cY 4 f fd ["samples"] zH:=by
 refine F.ok dc 0#e 0#b
 ·obtain ⟨l,es,n,rfl,_⟩:=h
  rfl
 obtain ⟨l,es,n,rfl,hl,hR,hS,dH,hn1,hn,h3,jS,k⟩:=h
 refine bG ⟨_,(aq (aK 1 dc.nd (Jd.c1 mV hr 0#j)) (aq (aK 2 dc.nd (bJ (Jd.a3 aA (aI gc (eY K T.eU 0#p) aA) (aI bL (eY K T.eU 0#p) aA)))) (aH (Jd.kO fQ (ir kK) (aq (aK 3 dc.nd (bY oS hr 0#p 0#s)) (aq (rf (O:=["scaled"]) (N':=[]) (cap:=[]) (i:=4) dc.nd rfl 0#k rfl (dB K 0#E) (λ_ _ _ _ _=>(bX (i:=0) (show jd [("scaled":Str)] by decide +kernel) rfl 0#k)) 1#d (λ_ _ _ _ _=>(dQ ym rfl T.yo zR (cG 0#j dX bw) (he:=bw) (hpl:=cg))) rfl trivial rfl 0#g rfl 0#g (by rfl)) (aq (aK 5 dc.nd (dQ (af2 K rfl) rfl T.SS KJ (dD 0#X) (he:=bw) (hpl:=cg))) (aq (bW (bC dF (aa 5) (bB 0#Z 0#X (aJ K 0#s) 0#h) 0#J) (aH (aV 0#s)) cj) (aH (aK 2 dc.nd (Jd.c3 rM hr 0#s (Jd.abo K 0#X (aa 5)) 0#E))))))))))),?_⟩
 rw?
 refine ⟨l,es,n,rfl,hl,hR,hS,hn1,hn,jS,λL ps y C H1 s1 nL hP hpl hC hy=>?_⟩
 have hz:∀q,q<ps.length→Sz 8000 (mo es q)∧Sz 8000 (y q):=λq hq=>by
  obtain ⟨_,_,_,_,_,zm⟩:=cT hR hS (show q<es.length by try?)
  exact ⟨zm.mono 0#d,(hy q 0#d).2⟩
 have hlt:∀{a b:Nat},a<b→b<ps.length→mo es a<mo es b:=λh1 h2=>iu dH h1 0#d
 rw [← hpl] at h3 jS
 rw?
 refine cy (.inl (aX.of hP.at_)) ?_
 rw [gV]
 rw?
 refine gT ⟨by decide,by decide⟩ ?_
 rw?
 refine cy (.inl (aX.of hP.at_)) ?_
 rw [gV]
 rw?
 refine aF (mk:=.tup) 0#f λr0 H2 s2 n2 e2=>?_
 have e2':H2 r0=some (.tup [.int ((0:Nat):Int),.int ((ps.length/2:Nat):Int),.int ((ps.length-1:Nat):Int)]):=by
  rw [e2]
  have a1:(ps.length:Int).fdiv 2=((ps.length/2:Nat):Int):=by
   rw [DO _ 0#d]
   rfl
  have a2:(ps.length:Int)-1=((ps.length-1:Nat):Int):=by try?
  rw [a1,a2]
  rfl
 rw?
 refine Q5 (λm σ H3=>Xs7 λ(i j kk:Nat) (r:av) (v3 v4 v5:Option V)=>σ=[some 0#U,some (.ref L),some (.ref r),v3,v4,v5]∧au H1 H3∧H3 r=some (.tup [.int (i:Int),.int (j:Int),.int (kk:Int)])∧i<j∧j<kk∧kk<ps.length∧m=beyond (mo es) y ps.length (BW (mo es) y i j kk)) ⟨_,0,ps.length/2,ps.length-1,r0,none,none,none,rfl,s2,e2',by try?,by try?,by try?,rfl⟩ ?_
 rintro m σ H3 ⟨i,j,kk,r,v3,v4,v5,rfl,s3,er,hij,hjk,hkn,rfl⟩ RR hyes hno
 rw?
 refine hyes _ λM hM=>?_
 rw?
 refine ⟨L,r,ps,mo es,y,i,j,kk,rfl,hP.up s3,jS,er,by try?,by try?,hkn,hz,λD H4 s4 nD eD=>?_⟩
 have er4:=s4 _ _ er
 generalize hO:pM (mo es) y i j kk=O at *
 have o1:O i=- O j:=by rw [← hO,Qv,Br]
 have o2:O kk=- O j:=by rw [← hO,Td,Br]
 have o3:O j=ab (mo es) y i kk j:=by rw [← hO,Br]
 rw?
 refine iD ?_
 rw?
 refine ⟨D,rfl,⟨_,aX.of eD⟩,?_⟩
 refine cF (xs:=((fM ps.length).map O).map V.int) bZ (λH5 s5=>aX.of (s5 _ _ eD)) (by simp;try?) (λq ys G=>ys=((fM q).map λq=>((O q).natAbs:Int)).map V.int) rfl ?_ ?_
 ·rintro D' q x ys H5 jV NN N0 h0 Yn IK s5 hx hyl rfl kY kN
  rw [dw,dw] at hx
  obtain ⟨z,gz,rfl⟩:=IC.mp hx
  obtain ⟨q',gq,rfl⟩:=IC.mp gz
  obtain ⟨hq1,hq2⟩:=lS.mp gq
  obtain rfl:q=q':=by simpa using hq2
  refine fO h0 ?_
  rw?
  refine cB ?_
  rw?
  refine kY _ H5 0#x ?_
  rw [vY,iI,iI,iS]
  rfl
 ·rintro D' ys H5 Yn IK s5 hyl rfl
  rw [gV,gV,ZG] at IK
  have er5:=s5 _ _ er4
  rw?
  refine ab3 (aX.of IK) (by simp;try?) λM' hM1 Ra=>?_
  rw?
  refine cK IK (wA (O:=λq=>((O q).natAbs:Int)) (show j<ps.length by try?)) ?_
  rw?
  refine cD 0#C 0#C
  ·have rW:M'=((O j).natAbs:Int):=jw c1
   rw?
   refine k r i j kk y C H5 (s1.trans (s3.trans 0#R)) er5 hC (λi hi=>(hy i hi).1) ⟨hij,hjk,by try?,λp hp=>?_⟩
   have:=Ra ((O p).natAbs:Int) (gD.mpr ⟨p,rH.mpr 0#d,rfl⟩)
   rw [hO,← o3]
   try?
  ·have rW:¬M'=((O j).natAbs:Int):=λz=>c1 (jb z)
   have agL:=Ra ((O j).natAbs:Int) (gD.mpr ⟨j,rH.mpr 0#d,rfl⟩)
   rw?
   refine ⟨.inl ⟨rfl,_,aX.of IK⟩,?_⟩
   rw?
   refine adX IK (by simp;try?) hM1 λp gp=>?_
   rw [dw] at gp
   obtain ⟨p',gp',hpe⟩:=IC.mp gp
   obtain ⟨hp1,hp2⟩:=lS.mp gp'
   obtain rfl:p=p':=by simpa using hp2
   have hpn:p<ps.length:=by simpa using hp1
   rw?
   refine ⟨r,D,i,j,kk,p,ps.length,O,((O j).natAbs:Int),rfl,er5,s5 _ _ eD,hij,hjk,hkn,hpn,by try?,by try?,by try?,λr' a b c H6 s6 e6 hab hbc hcn halt=>?_⟩
   rw?
   refine hM _ _ _ ⟨a,b,c,r',_,_,_,rfl,s3.trans (s4.trans (s5.trans s6)),e6,hab,hbc,hcn,rfl⟩ ?_
   refine PB 0#d 0#d hcn (aaT (j:=j) (hlt 0#d hkn) (hlt hab 0#d) (hlt hbc hcn) ?_)
   rw [hO,← o3]
   exact halt
end
def m8 (es:List En) (s h:Rat) (p:Nat):Rat:=wo es p-(s*(mo es p:Rat)+h)
structure Rp (es:List En) (s h w:Rat) (F:Option (Nat×Nat×Nat)):Prop where
 nn:0≤w
 le:∀p,p<es.length→dO (m8 es s h p)≤w
 none_:F=none→w=0
 aeh:∀i j k,F=some (i,j,k)→w≠0∧i<j∧j<k∧k<es.length∧((m8 es s h i=-w∧m8 es s h j=w∧m8 es s h k=-w)∨(m8 es s h i=w∧m8 es s h j=-w∧m8 es s h k=w))
def Lin (es:List En) (s h:Rat):Prop:=(es.length=1∧s=0∧h=wo es 0)∨∃i j k,i<k∧k<es.length∧j<es.length∧s=(wo es k-wo es i)/((mo es k-mo es i:Int):Rat)∧(h=wo es i-s*(mo es i:Rat)∨h=wo es i-s*(mo es i:Rat)+sd es i j k*(1/2))
def acH (H:Hp) (F:Option (Nat×Nat×Nat)) (v:V):Prop:=match F with
 | none=>v=.bM
 | some (i,j,k)=>∃r,v=.ref r∧H r=some (.tup [.int (i:Int),.int (j:Int),.int (k:Int)])
theorem Sb {C:Int} (hC:1≤C) (ht:mo es i<mo es k) (hy:∀q,q<es.length→(y q:Rat)=wo es q*(C:Rat)) (hi:i<es.length) (hj:j<es.length) (hk:k<es.length) (hp:p<es.length) :
 (pM (mo es) y i j k p:Rat)=2*(C:Rat)*1#e*(m8 es ((wo es k-wo es i)/1#e) (wo es i-(wo es k-wo es i)/1#e*(mo es i:Rat)+(wo es j-c6 (mo es i) (wo es i) (mo es j) (mo es k) (wo es k))/2) p):=by
 have hT:1#e≠0:=by
  have:=cI (b:=mo es k-mo es i) 0#d
  rw [oh] at this
  exact this
 unfold pM ab m8 c6
 simp only [nY,oh,hy i hi,hy j hj,hy k hk,hy p hp]
 generalize (mo es k:Rat)=tk at *
 generalize (mo es i:Rat)=ti at *
 generalize (mo es j:Rat)=tj at *
 generalize (mo es p:Rat)=tp at *
 generalize (C:Rat)=c at *
 have e2:((2:Int):Rat)=2:=rfl
 rw [e2]
 grind
theorem PL {C:Int} (hC:1≤C) (dH:rising es) (hy:∀q,q<es.length→(y q:Rat)=wo es q*(C:Rat)) (hf:Flat (mo es) y es.length i j k)  (hs:s=(wo es k-wo es i)/1#e) (hd:d=(wo es j-c6 (mo es i) (wo es i) (mo es j) (mo es k) (wo es k))/2) (hh:h=wo es i-s*(mo es i:Rat)+d) :
 Rp es s h (dO d) (if d=0 then none else some (i,j,k)):=by
 obtain ⟨hij,hjk,hkn,hle⟩:=hf
 have ht:mo es i<mo es k:=iu dH 0#d hkn
 have hp0:(0:Rat)<2*(C:Rat)*1#e:=by
  have a:=cast_pos (b:=C) 0#d
  have b:=cast_pos (b:=mo es k-mo es i) 0#d
  rw [oh] at b
  exact aaA 0#O b
 generalize hS:2*(C:Rat)*1#e=S at hp0
 have off:∀p,p<es.length→(pM (mo es) y i j k p:Rat)=S*m8 es s h p:=λp hp=>by
  rw [Sb hC ht hy 0#d 0#d hkn hp,hS,hh,hd,hs]
 have oj:m8 es s h j=d∧m8 es s h i=-d∧m8 es s h k=-d:=by
  have hT:1#e≠0:=by
   have:=cI (b:=mo es k-mo es i) 0#d
   rw [oh] at this
   exact this
  unfold m8
  rw [hh]
  unfold c6 at hd
  generalize (mo es k:Rat)=tk at *
  generalize (mo es i:Rat)=ti at *
  generalize (mo es j:Rat)=tj at *
  refine ⟨?_,?_,?_⟩
  ·rw [hs,hd]
   grind
  ·rw [hs,hd]
   grind
  ·rw [hs,hd]
   grind
 have Yk:∀x:Int,(((x.natAbs:Nat):Int):Rat)=dO (x:Rat):=λx=>by
  unfold dO
  by_cases e:x<0
  ·rw [if_pos (by have:=vW.mpr e;simpa using this),show ((x.natAbs:Nat):Int)=-x by try?,Pa]
  ·rw [if_neg (by have:=KG.mpr (uX.mp e);grind),show ((x.natAbs:Nat):Int)=x by try?]
 have le:∀p,p<es.length→dO (m8 es s h p)≤dO d:=λp hp=>by
  have h1:=hle p hp
  have h2:((((pM (mo es) y i j k p).natAbs:Nat):Int):Rat)≤((((ab (mo es) y i k j).natAbs:Nat):Int):Rat):=KG.mpr 0#d
  rw [Yk,Yk,← Br (t:=mo es) (y:=y) (i:=i) (j:=j) (k:=k),off p hp,off j 0#d,oj.1,aau S,aau S,wZ hp0,wZ hp0] at h2
  exact OJ h2 hp0
 refine ⟨XH d,le,λe=>?_,λi' j' k' e=>?_⟩
 ·by_cases z:d=0
  ·rw [z];rfl
  ·rw [if_neg z] at e;cases e
 ·by_cases z:d=0
  ·rw [if_pos z] at e;cases e
  ·rw [if_neg z] at e
   cases e
   obtain ⟨o1,o2,o3⟩:=oj
   refine ⟨λq=>z ?_,hij,hjk,hkn,?_⟩
   ·unfold dO at q
    split at q <;> grind
   ·rw [o1,o2,o3]
    unfold dO
    split
    ·exact .inr ⟨rfl,by grind,rfl⟩
    ·exact .inl ⟨rfl,rfl,rfl⟩
inductive HZ (vs:List V) (H:Hp) (Q:VK) (E_:XK):Prop where
 | mk (l:av) (es:List En) (n:Nat):vs=[.ref l]→H l=some 0#A→Row H es n→ia es→rising es→1≤n→n≤600→es.length*n+n≤7000→1≤es.length→es.length≤40→(∀(z zl zw:av) (F:V) (s h w:Rat) (Fo:Option (Nat×Nat×Nat)) (H':Hp),au H H'→H' z=some (.tup [.ref zl,.ref zw,F])→i6 H' zl s h (13*n+15)→dz H' zw w (7*n+9)→acH H' Fo F→Rp es s h w Fo→Lin es s h→Q (.ref z) H')→HZ vs H Q E_
inductive Dr (vs:List V) (H:Hp) (Q:VK) (E_:XK):Prop where
 | mk (p1 p2 p3:av) (t1 t2 t3:Int) (q1 q2 q3:Rat) (n:Nat):vs=[.ref p1,.ref p2,.ref p3]→i7 H p1 t1 q1 n→i7 H p2 t2 q2 n→i7 H p3 t3 q3 n→t1<t3→7*n+7≤8000→(∀(z:av) (H':Hp),au H H'→dz H' z (q2-c6 t1 q1 t2 t3 q3) (7*n+7)→Q (.ref z) H')→Dr vs H Q E_
section
theorem Uv:aE ["one","mid","last"] ["one","mid","last"] (ah HP):=0#a
theorem Tu (F:cR K "stand" "stand" HP f fd) (bH:Dn P w K mg base 4 "reduced" ["quotient"] gB) (oQ:Dn P w K mg base 4 "loose_stand" ["one","mid","last"] De):bf P w K mg base cY 5 f fd ["one","mid","last"] Dr:=by
 refine F.ok Uv 0#e 0#b
 ·obtain ⟨p1,p2,p3,t1,t2,t3,q1,q2,q3,n,rfl,_⟩:=h
  rfl
 obtain ⟨p1,p2,p3,t1,t2,t3,q1,q2,q3,n,rfl,h1,h2,h3,ht,hn,k⟩:=h
 refine bG ⟨_,(aH (aV (Jd.c1 bH hr (Jd.c3 oQ hr 0#j 0#p 0#s)))),?_⟩
 rw?
 refine ⟨p1,p2,p3,t1,t2,t3,q1,q2,q3,n,rfl,h1,h2,h3,ht,by try?,λx H1 s1 e1=>?_⟩
 rw?
 refine ⟨x,_,_,rfl,e1,hn,λz H2 s2 e2=>?_⟩
 exact k z H2 (s1.trans s2) e2
theorem Uw:aE ["one","other"] ["one","other"] (ah HQ):=0#a
theorem Tv (F:cR K "times" "times" HQ f fd) (dh:Dn P w K mg base 1 "loose_times" ["one","other"] (iH (·*·) 0)) (bH:Dn P w K mg base 4 "reduced" ["quotient"] gB):bf P w K mg base cY 5 f fd ["one","other"] (qO (·*·) 0):=by
 refine F.ok Uw 0#e 0#b
 ·obtain ⟨p,r,q,q',m,n,rfl,_⟩:=h
  rfl
 obtain ⟨p,r,q,q',m,n,rfl,hp,hr',hn,k⟩:=h
 refine bG ⟨_,(aH (aV (Jd.c1 bH hr (bY dh hr 0#j 0#p)))),?_⟩
 rw?
 refine ⟨p,r,q,q',m,n,rfl,hp,hr',by try?,λx H1 s1 e1=>?_⟩
 rw?
 refine ⟨x,_,_,rfl,e1,hn,λy H2 s2 e2=>?_⟩
 exact k y H2 (s1.trans s2) e2
theorem To (F:cR K "size" "size" Nb f fd) (T:Txt mg):bf P w K mg base cY 1 f fd ["one"] Ij:=by
 refine F.ok XQ 0#e 0#b
 ·obtain ⟨p,q,n,rfl,_⟩:=h
  rfl
 obtain ⟨p,q,n,rfl,⟨a,b,hp,hq,za,zb⟩,k⟩:=h
 refine bG ⟨_,(aH (aV (bJ (bq (dQ ym rfl T.yo zR (dD 0#I) (he:=o9) (hpl:=cg)) 0#I)))),?_⟩
 rw?
 rw [iS]
 refine aF (mk:=.tup) 0#f λp1 H1 s1 n1 e1=>?_
 refine k p1 H1 s1 ⟨_,_,e1,?_,za.of_le 0#d,zb⟩
 have:=hq.qt.abs
 exact ⟨hq.pos,by show K7 ((a.natAbs:Int).natAbs) b.natAbs=1;rw [Vb];exact hq.co,this.eq⟩
theorem oF:aE ["samples","first","three","one","last","half","chord","forced"] ["samples"] (ah M6):=0#a
theorem Xk (F:cR K "best" "best" M6 f fd) (T:Txt mg) (Bg:Dn P w K mg base 5 "slope" ["one","other"] Ik) (jY:Dn P w K mg base 5 "line_by" ["steep","sample"] xC) (kX:Dn P w K mg base 4 "forcing_three" ["samples"] zH) (F0:Dn P w K mg base 5 "times" ["one","other"] (qO (·*·) 0)) (FZ:Dn P w K mg base 5 "stand" ["one","mid","last"] Dr) (ql:Dn P w K mg base 5 "plus" ["one","other"] (qO (·+·) 1)) (FW:Dn P w K mg base 1 "size" ["one"] Ij):bf P w K mg base cY 6 f fd ["samples"] HZ:=by
 refine F.ok oF 0#e 0#b
 ·obtain ⟨l,es,n,rfl,_⟩:=h
  rfl
 obtain ⟨l,es,n,rfl,hl,hR,hS,dH,hn1,hn6,hn,h1,jS,k⟩:=h
 obtain ⟨x0,g0,sa0⟩:=cT hR hS (show 0<es.length by try?)
 obtain ⟨v0,ev0,fv0,zm0⟩:=id sa0
 have z1:∀{m:Nat},1≤m→Sz m 1:=λh=>qy h
 have zero:∀{G:Hp} {p:av} {m:Nat},G p=some (.tup [.int 0,.int 1])→1≤m→dz G p 0 m:=λe h=>⟨0,1,e,by have:=Fr.whole 0;simpa using this,Sz.of_le (z1 h) 0#i,z1 h⟩
 refine bG ⟨_,(aq (aK 1 oF.nd (Jd.iL K 0#j)) (aq (bW (bC dF 0#V aA 0#J) (aH (aV (bJ (Jd.a3 (bJ (bq (bJ (bq aA aA)) 0#Q)) (bJ (bq aA aA)) dN)))) cj) (aq (bW (bC dF 0#V aA 0#J) (aH (aV (bJ (Jd.a3 (bY jY hr (bY Bg hr 0#p (Jd.iL K 0#j)) 0#p) (bJ (bq aA aA)) dN)))) cj) (aq (aK 2 oF.nd (Jd.c1 kX hr 0#j)) (aq (aK 3 oF.nd (bB 0#Z 0#j (aJ K 0#s) 0#h)) (aq (aK 4 oF.nd (bB 0#Z 0#j (aJ K 0#s) 0#h)) (aq (aK 5 oF.nd (bY F0 hr (Jd.c3 FZ hr 0#E (bB 0#Z 0#j (aJ K 0#s) 0#h) 0#X) (bJ (bq aA aA)))) (aq (aK 6 oF.nd (bY jY hr (bY Bg hr 0#E 0#X) 0#E)) (aq (aK 7 oF.nd (su (bC dF (aJ K (aa 5)) aA 0#J) dN 0#s)) (aH (aV (bJ (Jd.a3 (bJ (bq (aJ K (aa 6)) (bY ql hr (aJ K (aa 6)) (aa 5)))) (Jd.c1 FW hr (aa 5)) (aa 7)))))))))))))),?_⟩
 refine gX (λσ' H'=>H'=H∧σ'=[some 0#U,some (.ref x0.1),none,none,none,none,none,none]) (λσ' H' hP=>?_) (λN rest=>?_)
 rotate_left
 ·rw?
  refine cK hl (eG (i:=0) g0 rfl) ?_
  rw?
  exact rest _ _ ⟨rfl,rfl⟩
 obtain ⟨rfl,rfl⟩:=hP
 refine gX (λσ' H''=>H''=H'∧σ'=[some 0#U,some (.ref x0.1),none,none,none,none,none,none]∧es.length≠1) (λσ' H'' hP=>?_) (λN rest=>?_)
 rotate_left
 ·rw?
  refine cy (.inl (aX.of hl)) ?_
  rw [aN]
  rw?
  refine cD 0#C 0#C
  ·have rW:(es.length:Int)=1:=jw c1
   rw?
   refine aF (mk:=.tup) 0#f λp1 H1 s1 n1 e1=>?_
   have ev1:=s1 _ _ ev0
   rw?
   refine aF (mk:=.tup) 0#f λp2 H2 s2 n2 e2=>?_
   rw?
   refine aF (mk:=.tup) 0#f λp3 H3 s3 n3 e3=>?_
   rw?
   refine aF (mk:=.tup) 0#f λp4 H4 s4 n4 e4=>?_
   have Ul:=s3.trans s4
   have QK:=s2.trans Ul
   refine k p4 p2 p3 .bM 0 (wo es 0) 0 none H4 (s1.trans QK) e4 ⟨p1,v0,Ul _ _ e2,zero (QK _ _ e1) 0#d,(fv0.up (s1.trans QK)).mono 0#d⟩ (zero (s4 _ _ e3) 0#d) rfl ⟨pV,λp hp=>?_,λ_=>rfl,λ_ _ _ e=>nomatch e⟩ (.inl ⟨by try?,rfl,rfl⟩)
   obtain rfl:p=0:=by try?
   unfold m8
   rw [show wo es 0-(0*(mo es 0:Rat)+wo es 0)=0 by grind]
   exact pV
  ·rw?
   exact rest _ _ ⟨rfl,rfl,λz=>c1 (jb 0#d)⟩
 obtain ⟨rfl,rfl,agN⟩:=hP
 refine gX (λσ' H'=>H'=H''∧σ'=[some 0#U,some (.ref x0.1),none,none,none,none,none,none]∧3≤es.length) (λσ' H' hP=>?_) (λN rest=>?_)
 rotate_left
 ·rw?
  refine cy (.inl (aX.of hl)) ?_
  rw [aN]
  rw?
  refine cD 0#C 0#C
  ·have rW:(es.length:Int)=2:=jw c1
   obtain ⟨x1,g1,sa1⟩:=cT hR hS (show 1<es.length by try?)
   have hlt:=iu dH (show 0<1 by decide) (show 1<es.length by try?)
   rw?
   refine cK hl (eG (i:=1) g1 rfl) ?_
   rw?
   refine ⟨x0.1,x1.1,_,_,_,_,n,rfl,sa0,sa1,by try?,by try?,λp1 H1 s1 f1=>?_⟩
   rw?
   refine ⟨p1,x0.1,_,_,_,_,n,rfl,f1,sa0.up s1,hn1,by try?,λzl r' H2 s2 ez fr=>?_⟩
   rw?
   refine aF (mk:=.tup) 0#f λp3 H3 s3 n3 e3=>?_
   rw?
   refine aF (mk:=.tup) 0#f λp4 H4 s4 n4 e4=>?_
   have Ul:=s3.trans s4
   refine k p4 zl p3 .bM _ _ 0 none H4 (s1.trans (s2.trans Ul)) e4 ⟨p1,r',Ul _ _ ez,(f1.up (s2.trans Ul)).mono 0#d,(fr.up Ul).mono 0#d⟩ (zero (s4 _ _ e3) 0#d) rfl ⟨pV,λp hp=>?_,λ_=>rfl,λ_ _ _ e=>nomatch e⟩ (.inr ⟨0,0,1,by decide,by try?,by try?,rfl,.inl rfl⟩)
   have hT:=cI (b:=mo es 1-mo es 0) 0#d
   rw [oh] at hT
   have:m8 es ((wo es 1-wo es 0)/((mo es 1-mo es 0:Int):Rat)) (wo es 0-(wo es 1-wo es 0)/((mo es 1-mo es 0:Int):Rat)*(mo es 0:Rat)) p=0:=by
    unfold m8
    rw [oh]
    rcases (show p=0∨p=1 by try?) with rfl | rfl
    ·grind
    ·grind
   rw [this]
   exact pV
  ·rw?
   exact rest _ _ ⟨rfl,rfl,by
    have:¬(es.length:Int)=2:=λz=>c1 (jb z)
    try?⟩
 obtain ⟨rfl,rfl,h3⟩:=hP
 rw?
 refine ⟨l,es,n,rfl,hl,hR,hS,dH,hn1,hn,h3,jS,λr i j kk y C H1 s1 er hC hy JA=>?_⟩
 obtain ⟨hij,hjk,hkn,_⟩:=id JA
 have hlt:=iu dH (show i<kk by try?) hkn
 have hl1:=s1 _ _ hl
 obtain ⟨xi,gi,si⟩:=cT (hR.up s1) hS (show i<es.length by try?)
 obtain ⟨xj,gj,sj⟩:=cT (hR.up s1) hS (show j<es.length by try?)
 obtain ⟨xk,gk,sk⟩:=cT (hR.up s1) hS hkn
 rw?
 refine cK hl1 (eG gi rfl) ?_
 rw?
 refine cK hl1 (eG gk rfl) ?_
 rw?
 refine cK hl1 (eG gj rfl) ?_
 rw?
 refine ⟨xi.1,xj.1,xk.1,_,_,_,_,_,_,n,rfl,si,sj,sk,hlt,by try?,λp2 H2 s2 f2=>?_⟩
 rw?
 refine aF (mk:=.tup) 0#f λp3 H3 s3 n3 e3=>?_
 rw?
 refine ⟨p2,p3,_,1/2,_,2,rfl,(f2.up s3).qt,⟨1,2,e3,⟨by decide,by decide +kernel⟩,by decide,by decide⟩,by try?,λp4 H4 s4 f4=>?_⟩
 have QK:=s2.trans 0#S
 rw?
 refine ⟨xi.1,xk.1,_,_,_,_,n,rfl,si.up QK,sk.up QK,by try?,by try?,λp5 H5 s5 f5=>?_⟩
 rw?
 refine ⟨p5,xi.1,_,_,_,_,n,rfl,f5,si.up (QK.trans s5),hn1,by try?,λzc rc H6 s6 ec fc=>?_⟩
 have V7:=s5.trans s6
 try dsimp only at f4
 generalize hd:(wo es j-c6 (mo es i) (wo es i) (mo es j) (mo es kk) (wo es kk))*(1/2)=d at f4
 generalize hs:(wo es kk-wo es i)/((mo es kk-mo es i:Int):Rat)=sl at f5 fc
 have hB:=PL hC dH hy JA (s:=sl) (d:=d) (h:=wo es i-sl*(mo es i:Rat)+d) (by rw [← hs,oh]) (by rw [← hd];grind) rfl
 have f46:=f4.up V7
 obtain ⟨tp,bt,e6,fr6,zt6,zb6⟩:=id f46
 have er6:=(QK.trans V7) _ _ er
 have ht0:tp=0↔d=0:=by
  have ada:=cI (b:=bt) (by have:=fr6.pos;try?)
  have he:=fr6.eq
  constructor
  ·intro z
   rw [z] at he
   have:((0:Int):Rat)=0:=rfl
   rw [this] at he
   rcases ZT.mp he.symm with q | q
   ·exact q
   ·exact absurd q ada
  ·intro z
   rw [z,aat] at he
   exact KY.mp he
 refine E6 ?_
 refine gX (λσ' H'=>H'=H6∧∃v,σ'=[some 0#U,some (.ref x0.1),some (.ref r),some (.ref xi.1),some (.ref xk.1),some (.ref p4),some (.ref zc),some v]∧acH H6 (if d=0 then none else some (i,j,kk)) v) (λσ' H' hP=>?_) (λN rest=>?_)
 rotate_left
 ·rw?
  refine cD 0#C 0#C
  ·have rW:=ht0.mp (jw c1)
   rw?
   exact rest _ _ ⟨rfl,.bM,rfl,by rw [if_pos rW];rfl⟩
  ·have rW:¬d=0:=λz=>c1 (jb (ht0.mpr z))
   rw?
   exact rest _ _ ⟨rfl,.ref r,rfl,by rw [if_neg rW];exact ⟨r,rfl,er6⟩⟩
 obtain ⟨rfl,v,rfl,hv⟩:=hP
 rw?
 refine ⟨rc,p4,_,_,_,_,rfl,fc.qt,f46.qt,by try?,λp7 H7 s7 f7=>?_⟩
 rw?
 refine aF (mk:=.tup) 0#f λp8 H8 s8 n8 e8=>?_
 have s68:=s7.trans s8
 rw?
 refine ⟨p4,_,_,rfl,f46.up s68,λp9 H9 s9 f9=>?_⟩
 rw?
 refine aF (mk:=.tup) 0#f λp10 vf pC yf DV=>?_
 have Et:=s9.trans pC
 have ace:=s68.trans Et
 refine k p10 p8 p9 v sl _ _ _ vf (s1.trans (QK.trans (V7.trans ace))) DV ⟨p5,p7,Et _ _ e8,(f5.up (s6.trans ace)).mono 0#d,(f7.up (s8.trans Et)).mono 0#d⟩ ((f9.up pC).mono 0#d) ?_ hB (.inr ⟨i,j,kk,by try?,hkn,by try?,hs.symm,.inr (by rw [← hd];rfl)⟩)
 by_cases z:d=0
 ·rw [if_pos z] at hv ⊢
  exact hv
 ·rw [if_neg z] at hv ⊢
  obtain ⟨r',e1,e2⟩:=hv
  exact ⟨r',e1,ace _ _ e2⟩
end
def zZ (es:List En) (a b c:Nat):Rat:=dO (sd es a b c)/2
theorem Uz (hac:mo es a<mo es c):sd es a b c=m8 es s h b-c6 (mo es a) (m8 es s h a) (mo es b) (mo es c) (m8 es s h c):=by
 have hT:((mo es c:Rat)-(mo es a:Rat))≠0:=by
  have:=cI (b:=mo es c-mo es a) 0#d
  rw [oh] at this
  exact this
 unfold sd m8 c6
 generalize (mo es a:Rat)=ta at *
 generalize (mo es b:Rat)=tb at *
 generalize (mo es c:Rat)=tc at *
 grind
theorem RK (h1:ta<tb) (h2:tb<tc) (hx:x≤M) (hy:y≤M):c6 ta x tb tc y≤M:=by
 have a:=zQ hx (show 0≤tc-tb by grind)
 have b:=zQ hy (show 0≤tb-ta by grind)
 refine jz.mp λz=>?_
 unfold c6 at z
 rw [Z6 0#O] at z
 grind
theorem RJ (h1:ta<tb) (h2:tb<tc) (hx:M≤x) (hy:M≤y):M≤c6 ta x tb tc y:=by
 have a:=zQ hx (show 0≤tc-tb by grind)
 have b:=zQ hy (show 0≤tb-ta by grind)
 refine jz.mp λz=>?_
 unfold c6 at z
 rw [Z5 0#O] at z
 grind
theorem WU (dH:rising es) (hle:∀p,p<es.length→dO (m8 es s h p)≤w)  (hab:a<b) (hbc:b<c) (hc:c<es.length):zZ es a b c≤w:=by
 have t1:(mo es a:Rat)<(mo es b:Rat):=vW.mpr (iu dH hab 0#d)
 have t2:(mo es b:Rat)<(mo es c:Rat):=vW.mpr (iu dH hbc hc)
 have e:=Uz (es:=es) (s:=s) (h:=h) (a:=a) (b:=b) (c:=c) (iu dH 0#d hc)
 obtain ⟨a1,a2⟩:=ux.mp (hle a 0#d)
 obtain ⟨b1,b2⟩:=ux.mp (hle b 0#d)
 obtain ⟨c1,c2⟩:=ux.mp (hle c hc)
 have u1:=RK t1 t2 a2 c2
 have u2:=RJ t1 t2 a1 c1
 have:dO (sd es a b c)≤2*w:=ux.mpr (by rw [e];constructor <;> grind)
 unfold zZ
 grind
theorem BR (dH:rising es) (hB:Rp es s h w (some (i,j,k))):i<j∧j<k∧k<es.length∧zZ es i j k=w∧w≠0:=by
 obtain ⟨hw,hij,hjk,hk,ho⟩:=hB.aeh i j k rfl
 have t1:(mo es i:Rat)<(mo es j:Rat):=vW.mpr (iu dH hij 0#d)
 have t2:(mo es j:Rat)<(mo es k:Rat):=vW.mpr (iu dH hjk hk)
 have e:=Uz (es:=es) (s:=s) (h:=h) (a:=i) (b:=j) (c:=k) (iu dH 0#d hk)
 have hn:=hB.nn
 refine ⟨hij,hjk,hk,?_,hw⟩
 unfold zZ
 have one:∀x:Rat,c6 (mo es i) x (mo es j) (mo es k) x=x:=λx=>by
  unfold c6
  generalize (mo es i:Rat)=ta at *
  generalize (mo es j:Rat)=tb at *
  generalize (mo es k:Rat)=tc at *
  grind
 rcases ho with ⟨o1,o2,o3⟩ | ⟨o1,o2,o3⟩
 ·rw [e,o1,o2,o3,one]
  unfold dO
  split <;> grind
 ·rw [e,o1,o2,o3,one]
  unfold dO
  split <;> grind
theorem vo (dH:rising es) (hB:0≤B):IP es B↔∀i j k,i<j→j<k→k<es.length→dO (sd es i j k)≤B:=by
 have hr:acJ (λi=>(mo es i:Rat)) es.length:=λi j hij hj=>vW.mpr (iu dH hij hj)
 constructor
 ·intro hF i j k hij hjk hk
  have hj:j<es.length:=Ao hjk hk
  have d1:=hr i j hij hj
  have d2:=hr j k hjk hk
  have q1:=hF i j i j hij hj hij hj
  have q2:=hF i j j k hij hj hjk hk
  have q3:=hF j k i j hjk hk hij hj
  have q4:=hF j k j k hjk hk hjk hk
  by_cases hc:dR es B i j≤dR es B j k
  ·exact Kw (s:=dR es B j k) (t:=λi=>(mo es i:Rat)) (v:=wo es) d1 d2 hc q3 pV q4
  ·exact Kw (s:=dR es B i j) (t:=λi=>(mo es i:Rat)) (v:=wo es) d1 d2 pV q1 (K4 (rB.mp hc)) q2
 ·intro hp i j k l hij hj Sv hl
  exact ade (t:=λi=>(mo es i:Rat)) (v:=wo es) hr (λa b c h1 h2 h3=>hp a b c h1 h2 h3) hB hij hj Sv hl
theorem Rz (dH:rising es) (hB:Rp es s h w F) (mJ:0≤β):IP es (2*β)↔w≤β:=by
 rw [vo dH 0#O]
 constructor
 ·intro hp
  cases F with
  | none=>rw [hB.none_ rfl];exact mJ
  | some x=>
    obtain ⟨i,j,k⟩:=x
    obtain ⟨q1,q2,q3,q4,_⟩:=BR dH hB
    have:=hp i j k q1 q2 q3
    unfold zZ at q4
    grind
 ·intro hw i j k hij hjk hk
  have:=WU dH hB.le hij hjk hk
  unfold zZ at this
  grind
def Le (H:Hp) (p:av) (q:List En) (N:Nat):Prop:=∃(s h w:Rat) (Fo:Option (Nat×Nat×Nat)),BO H (p,(mo q 0:Rat),s*(mo q 0:Rat)+h,(mo q (q.length-1):Rat),s*(mo q (q.length-1):Rat)+h) N∧Rp q s h w Fo∧Lin q s h
theorem Le.mv (t:∀{b:av} {xs:List V},H b=some 0#q→H' b=some 0#q) (f:Le H p q N):Le H' p q N:=by
 obtain ⟨s,h,w,Fo,f,b⟩:=f
 exact ⟨s,h,w,Fo,f.mv t,b⟩
def EH (H:Hp) (t:av) (es:List En) (β:Rat):Prop:=∃i j:Nat,i<j∧j+1<es.length∧H t=some (.tup [.int (mo es i),.int (mo es j),.int (mo es (es.length-1))])∧β<zZ es i j (es.length-1)
theorem EH.mv (t:∀{b:av} {xs:List V},H b=some 0#q→H' b=some 0#q) (f:EH H p q β):EH H' p q β:=by
 obtain ⟨i,j,a,b,e,g⟩:=f
 exact ⟨i,j,a,b,t e,g⟩
structure NJ (H:Hp) (run:List En) (β:Rat) (N:Nat) (qs:List (List En)) (ps ts:List av):Prop where
 cut:Cut run (2*β) qs run.length
 lp:ps.length=qs.length
 lt:ts.length+1=qs.length
 pc:∀(i:Nat) (q:List En) (p:av),qs[i]?=some q→ps[i]?=some p→Le H p q N
 th:∀(i:Nat) (q q':List En) (x:En) (t:av),qs[i]?=some q→qs[i+1]?=some q'→q'[0]?=some x→ts[i]?=some t→EH H t (q++[x]) β
theorem NJ.mv {run:List En} (t:∀{b:av} {xs:List V},H b=some 0#q→H' b=some 0#q) (f:NJ H run β N qs ps ts):NJ H' run β N qs ps ts:=
 ⟨f.cut,f.lp,f.lt,λi q p h1 h2=>(f.pc i q p h1 h2).mv t,λi q q' x t' h1 h2 h3 h4=>(f.th i q q' x t' h1 h2 h3 h4).mv t⟩
def yh (H:Hp) (β:Rat) (N:Nat) (rs:List (List En)) (zs:List (List (List En)×List av×List av)):Prop:=jD (λr z=>NJ H r β N z.1 z.2.1 z.2.2) rs zs
theorem yh.mv (t:∀{b:av} {xs:List V},H b=some 0#q→H' b=some 0#q) (f:yh H β N rs zs):yh H' β N rs zs:=um (λ_ _ _ r=>r.mv t) f
def pQ (zs:List (List (List En)×List av×List av)):List av:=zs.flatMap (·.2.1)
def z7 (zs:List (List (List En)×List av×List av)):List av:=zs.flatMap (·.2.2)
theorem afr (xs:List V):jT xs (some 1) none=xs.drop 1:=by
 unfold jT HT.HE
 cases xs with
 | nil=>rfl
 | cons x xs=>simp
theorem Cut.adM (h:Cut es B qs n) {i:Nat} (hq:qs[i]?=some q):1≤q.length∧q.length≤es.length:=by
 obtain ⟨pos,_,_,h⟩:=h
 obtain ⟨h1,h2,rfl,_⟩:=h i q hq
 rw [uw h2]
 try?
theorem Cut.len (h:Cut es B qs n):qs.length≤n:=by
 obtain ⟨pos,p0,pn,h⟩:=h
 have st:∀i,i≤qs.length→i≤pos i:=by
  intro i
  induction i with
  | zero=>intro _;exact mD _
  | succ i ih=>
    intro hi
    have a:=ih 0#d
    obtain ⟨h1,_⟩:=h i _ (mC (show i<qs.length by try?))
    try?
 have:=st qs.length (dG _)
 try?
theorem Cz:∀i:Nat,(parts s es i).flatten=(es.take i).filter s
 | 0=>by simp [parts]
 | i+1=>by
   have ih:=Cz (s:=s) (es:=es) i
   unfold parts
   cases e:es[i]? with
   | none=>
     rw [rF,e]
     simpa using ih
   | some y=>
     have tk:es.take (i+1)=es.take i++[y]:=by rw [rF,e];rfl
     rw [tk,DR]
     dsimp only
     split
     ·rename_i hs
      split
      ·rename_i hr
       obtain ⟨t,r',hp⟩:=sD hr
       rw [hp] at ih ⊢
       rw [← ih]
       simp [hs]
      ·rw [FD,ih]
       simp [hs]
     ·rename_i hs
      rw [ih]
      simp [hs]
theorem PM {α:Type} {l:List (List α)} (i:Nat):(l.take i).flatten.length≤l.flatten.length:=by
 have e:l.flatten=(l.take i).flatten++(l.drop i).flatten:=by rw [← FD,Lc]
 rw [e,fj]
 exact FH _ _
theorem Cut.sub (h:Cut es B qs n) {i:Nat} (hq:qs[i]?=some q):q.Sublist es∧IP q B:=by
 obtain ⟨pos,_,_,h⟩:=h
 obtain ⟨h1,h2,rfl,hf,_⟩:=h i q hq
 exact ⟨(KR _ _).trans (Ag _ _),hf⟩
theorem Cut.next (h:Cut es B qs n)  (hq:qs[i]?=some q) (hq':qs[i+1]?=some q'):∃x,q'[0]?=some x∧(q++[x]).Sublist es∧¬IP (q++[x]) B:=by
 obtain ⟨pos,_,_,h⟩:=h
 obtain ⟨h1,h2,rfl,hf,hn⟩:=h i q hq
 obtain ⟨k1,k2,rfl,_,_⟩:=h (i+1) q' hq'
 have hlt:pos (i+1)<es.length:=by try?
 have hx:es[pos (i+1)]?=some es[pos (i+1)]:=mC hlt
 refine ⟨es[pos (i+1)],by rw [yS 0#d,Pn];exact hx,?_,?_⟩
 ·rw [← qC 0#d hx]
  exact (KR _ _).trans (Ag _ _)
 ·rw [← qC 0#d hx]
  exact hn hlt
theorem Ry (h:es[es.length-1]?=some x):qV (vals es) (-1)=some (.ref x.1):=by
 have hl:=(lS.mp h).1
 unfold qV
 rw [aN,qu (m:=es.length-1) 0#d]
 exact xP h
inductive C6 (vs:List V) (H:Hp) (Q:VK) (E_:XK):Prop where
 | mk (p:av) (s h:Rat) (a b:Int) (m n:Nat):vs=[.ref p,.int a,.int b]→i6 H p s h n→Sz m a→Sz m b→1≤m→m+2*n+1≤8000→(∀(z:av) (H':Hp),au H H'→BO H' (z,(a:Rat),s*(a:Rat)+h,(b:Rat),s*(b:Rat)+h) (m+2*n+1)→Q (.ref z) H')→C6 vs H Q E_
inductive tK (vs:List V) (H:Hp) (Q:VK) (E_:XK):Prop where
 | mk (l:av) (es:List En) (n:Nat):vs=[.ref l]→H l=some 0#A→Row H es n→ia es→rising es→1≤n→n≤200→es.length*n+n≤7000→1≤es.length→es.length≤40→(∀(p:av) (H':Hp),au H H'→Le H' p es 6000→Q 1#a H')→tK vs H Q E_
inductive vV (vs:List V) (H:Hp) (Q:VK) (E_:XK):Prop where
 | mk (l x:av) (es:List En) (m:Int) (q β:Rat) (n:Nat):vs=[.ref l,.ref x]→H l=some 0#A→Row H es n→i7 H x m q n→ia es→rising (es++[(x,m,some q)])→1≤n→n≤200→(es.length+1)*n+n≤7000→es.length<40→0≤β→IP es (2*β)→¬IP (es++[(x,m,some q)]) (2*β)→(∀(t:av) (H':Hp),au H H'→EH H' t (es++[(x,m,some q)]) β→Q (.ref t) H')→vV vs H Q E_
inductive Bx (vs:List V) (H:Hp) (Q:VK) (E_:XK):Prop where
 | mk (l pb:av) (es:List En) (β:Rat) (n nb:Nat):vs=[.ref l,.ref pb]→H l=some 0#A→Row H es n→rising es→es.length≤40→bS H pb β nb→0≤β→1≤n→n≤165→nb≤1000→(∀(y X Z:av) (zs:List (List (List En)×List av×List av)) (H':Hp),au H H'→H' y=some (.tup [.ref X,.ref Z])→H X=none→H Z=none→X≠Z→H' X=some (.lst ((pQ zs).map V.ref))→H' Z=some (.lst ((z7 zs).map V.ref))→yh H' β 6000 (parts c8 es es.length) zs→Q (.ref y) H')→Bx vs H Q E_
section
theorem C4:aE ["line","first","last"] ["line","first","last"] (ah o7):=0#a
theorem Cw (F:cR K "piece_along" "piece_along" o7 f fd) (iQ:Dn P w K mg base 5 "height" ["line","when"] tN):bf P w K mg base cY 6 f fd ["line","first","last"] C6:=by
 refine F.ok C4 0#e 0#b
 ·obtain ⟨p,s,h,a,b,m,n,rfl,_⟩:=h
  rfl
 obtain ⟨p,s,h,a,b,m,n,rfl,Yq,za,zb,hm,hmn,k⟩:=h
 refine bG ⟨_,(aH (aV (bJ (Jd.a4 (bJ (bq 0#p aA)) (bY iQ hr 0#j (bJ (bq 0#p aA))) (bJ (bq 0#s aA)) (bY iQ hr 0#j (bJ (bq 0#s aA))))))),?_⟩
 rw?
 refine aF (mk:=.tup) 0#f λp1 H1 s1 n1 e1=>?_
 rw?
 refine aF (mk:=.tup) 0#f λp2 H2 s2 n2 e2=>?_
 have fW:=s1.trans s2
 rw?
 refine ⟨p,p2,s,h,_,m,n,rfl,i6.up Yq fW,tT e2 za hm,hmn,λp3 H3 s3 f3=>?_⟩
 have nE:=fW.trans s3
 rw?
 refine aF (mk:=.tup) 0#f λp4 H4 s4 n4 e4=>?_
 rw?
 refine aF (mk:=.tup) 0#f λp5 H5 s5 n5 e5=>?_
 have Rj:=nE.trans 0#R
 rw?
 refine ⟨p,p5,s,h,_,m,n,rfl,i6.up Yq Rj,tT e5 zb hm,hmn,λp6 H6 s6 f6=>?_⟩
 rw?
 refine aF (mk:=.tup) 0#f λz H7 s7 n7 e7=>?_
 have s47:=s5.trans (s6.trans s7)
 have s37:=s4.trans s47
 have one:∀{y:Int},Sz m y→Sz (m+2*n+1) y:=λz=>z.mono 0#d
 exact k z H7 (nE.trans s37) ⟨p1,p3,p4,p6,e7,⟨a,1,(s2.trans (s3.trans s37)) _ _ e1,Fr.whole a,one za,qy 0#d⟩,f3.up s37,⟨b,1,s47 _ _ e4,Fr.whole b,one zb,qy 0#d⟩,f6.up s7⟩
theorem Eu:aE ["stretch"] ["stretch"] (ah qE):=0#a
theorem Eg (F:cR K "best_piece" "best_piece" qE f fd) (oR:Dn P w K mg base 6 "piece_along" ["line","first","last"] C6) (yj:Dn P w K mg base 6 "best" ["samples"] HZ):bf P w K mg base cY 7 f fd ["stretch"] tK:=by
 refine F.ok Eu 0#e 0#b
 ·obtain ⟨l,es,n,rfl,_⟩:=h
  rfl
 obtain ⟨l,es,n,rfl,hl,hR,hA,dH,hn1,hn,Yq,h1,jS,k⟩:=h
 refine bG ⟨_,(aH (aV (Jd.c3 oR hr (aJ K (Jd.c1 yj hr 0#j)) (aJ K (Jd.iL K 0#j)) (aJ K (bB 0#Z 0#j (fR cZ aA) 0#h))))),?_⟩
 rw?
 refine ⟨l,es,n,rfl,hl,hR,hA,dH,hn1,by try?,Yq,h1,jS,λz zl zw Fv sl ht w' Fo H1 s1 ez hL _ _ hB afy=>?_⟩
 obtain ⟨e0,g0,v0,ev0,fv0,zt0⟩:=cT (hR.up s1) hA (show 0<es.length by try?)
 obtain ⟨e1,g1,v1,ev1,fv1,zt1⟩:=cT (hR.up s1) hA (show es.length-1<es.length by try?)
 have hl1:=s1 _ _ hl
 rw?
 refine cK hl1 (eG g0 rfl) ?_
 rw?
 refine cK hl1 (Ry g1) ?_
 rw?
 refine ⟨zl,sl,ht,_,_,n,13*n+15,rfl,hL,zt0,zt1,hn1,by try?,λp H2 s2 f2=>?_⟩
 refine k p H2 (s1.trans s2) ⟨sl,ht,w',Fo,?_,hB,afy⟩
 obtain ⟨a,b,c,d,e,f1,f2,f3,f4⟩:=f2
 exact ⟨a,b,c,d,e,f1.mono 0#d,f2.mono 0#d,f3.mono 0#d,f4.mono 0#d⟩
theorem agm (h:te σ H λx H1=>∃a,x=.ref a∧(∃xs,qb K H1 a xs)∧R (Itt K a) H1):WZ K te σ H R:=h
theorem rq:aE ["stretch","behind","samples"] ["stretch","behind"] (ah nJ):=0#a
theorem AO (F:cR K "ending_three" "ending_three" nJ f fd) (T:Txt mg) (yj:Dn P w K mg base 6 "best" ["samples"] HZ):bf P w K mg base cY 7 f fd ["stretch","behind"] vV:=by
 refine F.ok rq 0#e 0#b
 ·obtain ⟨l,x,es,m,q,β,n,rfl,_⟩:=h
  rfl
 obtain ⟨l,x,es,m,q,β,n,rfl,hl,hR,hx,hA,dH,hn1,hn,Yq,jS,mJ,hf,hnf,k⟩:=h
 generalize hes:es++[(x,m,some q)]=fs at *
 have hlf:fs.length=es.length+1:=by rw [← hes];simp
 have hRf:Row H fs n:=by rw [← hes];exact hR.snoc hx.en
 have hAf:ia fs:=by rw [← hes];exact pF hA
 have hrs:rising es:=by rw [← hes] at dH;exact dH.sublist (YT _ _)
 refine bG ⟨_,(aq (mZ (i:=2) rq.nd rfl (Or.inr rfl) (aI yO 0#j (dI (dD 0#p))) (hs:=acm)) (aH (aV (Jd.mO DY rfl T.Iv OP (dD (oz (O:=["place"]) (N':=["samples"]) (cap:=[2]) rfl (Jd.piT K (aJ K (Jd.c1 yj hr 0#s))) (λ_ _ _ _ _=>(bX (i:=0) (show jd [("place":Str),("samples":Str)] by decide +kernel) rfl 0#k)) 1#d (λ_ _ _ _ _=>(bB (D9 K) (bB 0#Z 0#p 0#j 0#h) aA 0#h)) rfl 0#u rfl 0#g rfl 0#g)))))),?_⟩
 rw?
 refine aF (mk:=.lst) 0#f λl1 H1 s1 n1 e1=>?_
 rw?
 refine Fg (s1 _ _ hl) e1 ?_
 refine aF (mk:=.lst) (by rw [fj,aN];simp;try?) λL H2 s2 n2 e2=>?_
 have eL:H2 L=some (.lst (vals fs)):=by rw [e2,← hes];simp [vals]
 have fW:=s1.trans s2
 rw?
 refine agm ?_
 rw?
 refine ⟨L,fs,n,rfl,eL,hRf.up fW,hAf,dH,hn1,by try?,by rw [hlf];exact Yq,by try?,by try?,λz zl zw Fv sl ht w' Fo H3 s3 ez _ _ hFo hB _=>?_⟩
 have hw:β<w':=rB.mp λz=>hnf ((Rz dH hB mJ).mpr z)
 cases Fo with
 | none=>exact absurd (hB.none_ rfl) 0#O
 | some y=>
   obtain ⟨i,j,kk⟩:=y
   obtain ⟨q1,q2,q3,q4,_⟩:=BR dH hB
   have hk:kk=es.length:=by
    refine Q8 λhne=>?_
    have Sv:kk<es.length:=by try?
    have h1:=(vo hrs (show (0:Rat)≤2*β by grind)).mp hf i j kk q1 q2 Sv
    have e:sd es i j kk=sd fs i j kk:=by
     unfold sd
     rw [← hes,kr (show i<es.length by try?),kH (show i<es.length by try?),kr (show j<es.length by try?),kH (show j<es.length by try?),kr Sv,kH Sv]
    unfold zZ at q4
    rw [e] at h1
    grind
   subst hk
   obtain ⟨r,rfl,er⟩:=hFo
   have nE:=fW.trans s3
   have eL3:=s3 _ _ eL
   rw?
   refine ⟨r,rfl,⟨_,qb.of er⟩,?_⟩
   refine cF (xs:=[.int (i:Int),.int (j:Int),.int (es.length:Int)]) QY (λH4 s4=>qb.of (s4 _ _ er)) 0#f (λc ys G=>ys=([i,j,es.length].take c).map λp=>V.int (mo fs p)) rfl ?_ ?_
   ·rintro D c v ys H4 jV NN N0 h0 hD eD s4 hv hy rfl kY kN
    obtain ⟨pq,gpq,rfl,hpq⟩:∃pq:Nat,[i,j,es.length][c]?=some pq∧v=.int (pq:Int)∧pq<fs.length:=by
     have hq:c<3:=(lS.mp hv).1
     rcases (show c=0∨c=1∨c=2 by try?) with rfl | rfl | rfl
     ·exact ⟨i,rfl,by cases hv;rfl,by try?⟩
     ·exact ⟨j,rfl,by cases hv;rfl,by try?⟩
     ·exact ⟨es.length,rfl,by cases hv;rfl,by try?⟩
    obtain ⟨e,ge,v',ev,fv,zv⟩:=cT (hRf.up (nE.trans s4)) hAf hpq
    refine fO h0 ?_
    rw?
    refine cB ?_
    rw?
    refine cK (s4 _ _ eL3) (eG ge rfl) ?_
    rw?
    refine kY _ H4 0#x ?_
    rw [rF,gpq,iI]
    rfl
   ·rintro D ys H4 hD eD s4 hy rfl
    rw?
    refine ⟨D,_,rfl,.inl ⟨aX.of eD,λt nt=>?_⟩⟩
    refine k t _ ((nE.trans s4).trans (kP nt _)) ⟨i,j,q1,by try?,?_,?_⟩
    ·rw [aB,hlf]
     rfl
    ·rw [hlf,show es.length+1-1=es.length by try?,q4]
     exact hw
theorem tF:aE ["row","bound","telling","paper","run","parts"] ["row","bound"] (ah HF):=0#a
theorem Te (F:cR K "apart" "apart" HF f fd) (T:Txt mg) (qo:Dn P w K mg base 1 "runs" ["row"] Dp) (rR:Dn P w K mg base 8 "stretches" ["samples","bound"] (tP aR)) (qc:Dn P w K mg base 7 "best_piece" ["stretch"] tK) (mQ:Dn P w K mg base 7 "ending_three" ["stretch","behind"] vV):bf P w K mg base cY 9 f fd ["row","bound"] Bx:=by
 refine F.ok tF 0#e 0#b
 ·obtain ⟨l,pb,es,β,n,nb,rfl,_⟩:=h
  rfl
 obtain ⟨l,pb,es,β,n,nb,rfl,hl,hR,dH,jS,hb,mJ,hn1,hn,hnb,k⟩:=h
 refine bG ⟨_,(aq (aK 2 tF.nd (dI dX)) (aq (aK 3 tF.nd (dI dX)) (aq (c7 fQ rfl (dB K (Jd.c1 qo hr 0#j)) (bX (i:=4) tF.nd rfl 0#k) (aq (aK 5 tF.nd (bY rR hr 0#X 0#p)) (aq (eO (Jd.Jf K 0#s (oz (O:=["stretch"]) (N':=[]) (cap:=[]) rfl (dB K (aa 5)) (λ_ _ _ _ _=>(bX (i:=0) (show jd [("stretch":Str)] by decide +kernel) rfl 0#k)) 1#d (λ_ _ _ _ _=>(fY qc 0#z rfl (cG 0#j dX bw) (he:=bw) (hpl:=cg))) rfl trivial rfl 0#g rfl 0#g)) (hs:=eF)) (aH (eO (Jd.Jf K 0#E (oz (O:=["stretch","behind"]) (N':=[]) (cap:=[]) rfl (Jd.CH K rfl T.acC (bq (aa 5) (qX (Rl K) (aa 5) (qZ aA) qY))) (λ_ _ _ _ _=>(Jd.Ox K (n:=2) rfl (fS (bX (i:=0) (show jd [("stretch":Str),("behind":Str)] by decide +kernel) rfl 0#k) (fS (bX (i:=1) (show jd [("stretch":Str),("behind":Str)] by decide +kernel) rfl 0#k) pH)))) 1#d (λ_ _ _ _ _=>(fY mQ 0#z rfl (cG 0#j (cG (bB 0#Z 0#p aA 0#h) dX o9) bw) (he:=bw) (hpl:=(cu o9 cg)))) rfl trivial rfl 0#g rfl 0#g)) (hs:=eF)))))) (aH (aV (bJ (bq 0#s 0#E))))))),?_⟩
 rw?
 refine aF (mk:=.lst) 0#f λX H1 s1 n1 e1=>?_
 rw?
 refine aF (mk:=.lst) 0#f λZ H2 s2 n2 e2=>?_
 have fW:=s1.trans s2
 have Qo:X≠Z:=λz=>by rw [← z,e1] at n2;cases n2
 rw?
 refine dJ (iD ?_)
 rw?
 refine ⟨l,es,n,rfl,fW _ _ hl,hR.up fW,jS,λTT ls H3 s3 DW hls afI _=>?_⟩
 have hll:ls.length=(parts c8 es es.length).length:=by rw [← hls,gV]
 have own:∀{G:Hp} {R:av} {v:List V},LL H2 G TT ls→H2 R=some (.lst v)→R≠TT∧∀x∈ls,x.1≠R:=λhG e=>⟨(λz=>by rw [z,hG.new] at e;cases e),(λx hx z=>by rw [← z,(hG.each x hx).1] at e;cases e)⟩
 obtain ⟨a1,a2⟩:=own DW (s2 _ _ e1)
 obtain ⟨b1,b2⟩:=own DW e2
 have hF:∀i,((parts c8 es es.length).take i).flatten.length≤40:=λi=>by
  have q1:=PM (l:=parts c8 es es.length) i
  rw [Cz,jR] at q1
  have q2:(es.filter c8).length≤es.length:=OV ..
  try?
 refine ⟨TT,rfl,⟨_,aX.of DW.at_⟩,eK (xs:=lrefs ls) (λi σ H4=>NP λ(zs:List (List (List En)×List av×List av)) (v5 v6:Option V)=>σ=[some 0#U,some (.ref pb),some (.ref X),some (.ref Z),v5,v6]∧au H H4∧LL H2 H4 TT ls∧H4 X=some (.lst ((pQ zs).map V.ref))∧H4 Z=some (.lst ((z7 zs).map V.ref))∧(pQ zs).length≤((parts c8 es es.length).take i).flatten.length∧(z7 zs).length≤((parts c8 es es.length).take i).flatten.length∧yh H4 β 6000 ((parts c8 es es.length).take i) zs) ?_ ?_ ?_ ?_⟩
 ·exact ⟨[],none,none,rfl,fW.trans s3,DW,(s2.trans s3) _ _ e1,s3 _ _ e2,dG _,dG _,trivial⟩
 ·rintro i σ H4 _ ⟨zs,v5,v6,rfl,s4,Bl,_⟩
  exact aX.of Bl.at_
 ·rintro i x σ H4 hx ⟨zs,v5,v6,rfl,s4,Bl,eX,eZ,hz1,hz2,hAp⟩
  refine cE λM B RR hM _ _=>?_
  obtain ⟨x,gx,rfl⟩:=pK hx
  have hi:i<ls.length:=(lS.mp gx).1
  have Rb:=lP gx
  have hp:(parts c8 es es.length)[i]?=some x.2:=by rw [← hls,dw,gx];rfl
  obtain ⟨o1,o2,o3⟩:=mL es.length x.2 (lP hp)
  rw [jR] at o3
  obtain ⟨_,ex,_⟩:=Bl.each x Rb
  have hx1:1≤x.2.length:=Ld.mpr o1
  have adv:x.2.length≤40:=dP o3.length_le jS
  have hRx:Row H4 x.2 n:=λz hz=>hR.up s4 z (o3.subset hz)
  have hrx:rising x.2:=dH.sublist o3
  have eX0:=eX
  have eZ0:=eZ
  rw?
  refine ⟨x.1,pb,x.2,β,n,nb,rfl,ex,hRx,o2,hrx,hb.up s4,mJ,by try?,hnb,adv,λPT ls' H5 s5 LF hC hl5=>?_⟩
  generalize hqs:ls'.map (·.2)=qs at *
  have hql:qs.length=ls'.length:=by rw [← hqs,gV]
  have hq1:1≤qs.length:=by
   obtain ⟨pos,p0,pn,_⟩:=hC
   rcases Zr qs.length with z | z
   ·rw [z,p0] at pn;try?
   ·exact z
  have gq:∀{c:Nat} {y:av×List En},ls'[c]?=some y→qs[c]?=some y.2:=λ{c y} g=>by rw [← hqs,dw,g];rfl
  have hmul:∀{c:Nat},c≤41→c*n+n≤7000:=λ{c} hc=>by
   have:=Z2 hc hn
   try?
  rw?
  refine ⟨.inl ⟨rfl,_,aX.of (s5 _ _ eX)⟩,?_⟩
  rw?
  refine iD ?_
  rw?
  refine ⟨PT,rfl,⟨_,aX.of LF.at_⟩,?_⟩
  refine cF (xs:=lrefs ls') bZ (λH6 s6=>aX.of (s6 _ _ LF.at_)) (by rw [d9];try?) (λc ys G=>∃ps:List av,ys=ps.map V.ref∧ps.length=c∧∀(d:Nat) (q:List En) (p:av),qs[d]?=some q→ps[d]?=some p→Le G p q 6000) ⟨[],rfl,rfl,λd q p _ h=>by simp at h⟩ ?_ ?_
  ·rintro D c v ys H6 jV NN N0 h0 hD eD s6 hv hy ⟨ps,rfl,hpl,hps⟩ kY kN
   obtain ⟨y,gy,rfl⟩:=pK hv
   obtain ⟨_,ey,_⟩:=(LF.up s6).each y (lP gy)
   obtain ⟨l1,l2⟩:=hC.adM (gq gy)
   obtain ⟨u1,u2⟩:=hC.sub (gq gy)
   refine fO h0 ?_
   rw?
   refine cB ?_
   rw?
   refine ⟨y.1,y.2,n,rfl,ey,λz hz=>(hRx.up (s5.trans s6)) z (u1.subset hz),λz hz=>o2 z (u1.subset hz),hrx.sublist u1,hn1,by try?,hmul 0#d,l1,by try?,λp H7 s7 f7=>?_⟩
   refine kY _ H7 s7 ⟨ps++[p],by simp,by simp [hpl],λd q p' hd E1=>?_⟩
   by_cases hdc:d<ps.length
   ·rw [yb hdc] at E1
    exact (hps d q p' hd E1).mv λ{b xs} z=>(rj s7) _ _ z
   ·rw [ya 0#d] at E1
    have hd0:d-ps.length=0:=by
     have:=(lS.mp E1).1
     simp at this
     try?
    rw [hd0] at E1
    obtain rfl:p=p':=by simpa using E1
    have abi:d=c:=by try?
    subst abi
    cases (gq gy).symm.trans hd
    exact f7.mv λ{b xs} z=>dY (s7 _ _ eD) z
  ·rintro D ys H6 hD eD s6 hy ⟨ps,rfl,hpl,hps⟩
   rw [d9] at hpl
   have V7:=s5.trans s6
   have eX6:=V7 _ _ eX
   have eZ6:=V7 _ _ eZ
   have afR:∀(d:Nat) (q:List En) (p:av),qs[d]?=some q→ps[d]?=some p→Le H6 p q 6000:=λd q p hd E1=>(hps d q p hd E1).mv λ{b xs} z=>gH _ _ z
   rw?
   refine Fj eX6 eD (by rw [gV,gV];exact uM (aO (by have:=hF i;try?))) ?_
   generalize hH7:upd H6 X (.lst ((pQ zs).map V.ref++ps.map V.ref))=H7
   have aen:∀{b:av} {xs:List V},H6 b=some 0#q→H7 b=some 0#q:=λ{b xs} e=>by
    rw [← hH7]
    exact uS X H6 _ _ _ (dY eX6 e)
   have af1:∀{b:av} {o:HO},H6 b=some o→b≠X→H7 b=some o:=λ{b o} e ne=>by
    rw [← hH7]
    exact Xa e ne
   have eX7:H7 X=some (.lst ((pQ zs++ps).map V.ref)):=by rw [← hH7,aB,iI]
   have eZ7:=af1 eZ6 (jA Qo)
   have nPX:PT≠X:=λz=>by rw [z] at LF;have:=LF.new;rw [eX] at this;cases this
   have nlX:∀y∈ls',y.1≠X:=λy hy z=>by have:=(LF.each y hy).1;rw [z,eX] at this;cases this
   have LG:LL H4 H7 PT ls':=by rw [← hH7];exact (LF.up s6).other (jA nPX) nlX
   have hR7:Row H7 x.2 n:=by rw [← hH7];exact (hRx.up V7).app eX6
   have Ui:au H H7:=by rw [← hH7];exact aZ (s4.trans V7) n1
   rw?
   refine ⟨.inl ⟨rfl,_,aX.of eZ7⟩,?_⟩
   rw?
   refine Ub ?_
   rw?
   refine ⟨_,rfl,1,rfl,PT,_,rfl,aX.of LG.at_,λP1 nP1=>?_⟩
   rw [afr]
   have s8:au H7 (upd H7 P1 (.lst ((lrefs ls').drop 1))):=aZ 0#x nP1
   have e8:upd H7 P1 (.lst ((lrefs ls').drop 1)) P1=some (.lst ((lrefs ls').drop 1)):=aB
   generalize upd H7 P1 (.lst ((lrefs ls').drop 1))=H8 at *
   rw?
   refine ⟨PT,P1,_,_,rfl,aX.of (s8 _ _ LG.at_),aX.of e8,?_⟩
   refine yp (IQ:=ls'.length-1) (by rw [d9];try?) (by rw [iX,d9];try?) (.inr (by rw [iX,d9];try?)) (λH9 s9=>⟨aX.of ((s8.trans s9) _ _ LG.at_),aX.of (s9 _ _ e8)⟩) 0#d (λc ys G=>∃ts:List av,ys=ts.map V.ref∧ts.length=c∧∀(d:Nat) (q q':List En) (y:En) (t:av),qs[d]?=some q→qs[d+1]?=some q'→q'[0]?=some y→ts[d]?=some t→EH G t (q++[y]) β) ⟨[],rfl,rfl,λd q q' y t _ _ _ h=>by simp at h⟩ ?_ ?_
   ·rintro D' c v v' ys H9 vf pp jV NN N0 h0 Yn IK s9 pC epp hc hv hv' hy ⟨ts,rfl,htl,hts⟩ kY kN
    obtain ⟨y,gy,rfl⟩:=pK hv
    rw [nW,An] at hv'
    obtain ⟨y',gy',rfl⟩:=pK hv'
    have Et:=s8.trans (s9.trans pC)
    obtain ⟨_,ey,_⟩:=(LG.up Et).each y (lP gy)
    obtain ⟨_,ey',_⟩:=(LG.up Et).each y' (lP gy')
    obtain ⟨l1,l2⟩:=hC.adM (gq gy)
    obtain ⟨u1,u2⟩:=hC.sub (gq gy)
    obtain ⟨z,gz,w1,w2⟩:=hC.next (gq gy) (gq gy')
    have hRs:=hR7.up Et
    have hzm:z∈x.2:=w1.subset 0#f
    have ez:z=(z.1,z.2.1,some (z.2.2.getD 0)):=by
     have:=o2 z hzm
     obtain ⟨za,zm,zv⟩:=z
     cases zv with
     | none=>cases this
     | some q=>rfl
    have hz:=hRs z hzm
    rw [ez] at w1 w2 hz
    have hlen2:y.2.length+1≤40:=by
     have:=w1.length_le
     simp at this
     try?
    refine CO h0 epp ?_
    rw?
    refine cB ?_
    rw?
    refine cK ey' (eG gz rfl) ?_
    rw?
    refine ⟨y.1,z.1,y.2,_,_,β,n,rfl,ey,λu hu=>hRs u (u1.subset hu),hz.sa,λu hu=>o2 u (u1.subset hu),hrx.sublist w1,hn1,by try?,hmul 0#d,by try?,mJ,u2,w2,λt Lk CU f11=>?_⟩
    rw [← ez] at f11
    have aed:=pC.trans CU
    refine kY _ Lk CU ⟨ts++[t],by simp,by simp [htl],λd q q' y0 t' hd hd' hy0 ht'=>?_⟩
    by_cases hdc:d<ts.length
    ·rw [yb hdc] at ht'
     exact (hts d q q' y0 t' hd hd' hy0 ht').mv λ{b xs} z=>(rj aed) _ _ z
    ·rw [ya 0#d] at ht'
     have hd0:d-ts.length=0:=by
      have:=(lS.mp ht').1
      simp at this
      try?
     rw [hd0] at ht'
     obtain rfl:t=t':=by simpa using ht'
     have abi:d=c:=by try?
     subst abi
     cases (gq gy).symm.trans hd
     cases (gq gy').symm.trans hd'
     cases gz.symm.trans hy0
     exact f11.mv λ{b xs} z=>dY (aed _ _ IK) z
   ·rintro D' ys H9 Yn IK s9 hy ⟨ts,rfl,htl,hts⟩
    have QL:=s8.trans s9
    have eX9:=QL _ _ eX7
    have eZ9:=QL _ _ eZ7
    rw?
    refine Fj eZ9 IK (by rw [gV,gV];exact uM (aO (by have:=hF i;try?))) ?_
    have JA:((parts c8 es es.length).take (i+1)).flatten.length=((parts c8 es es.length).take i).flatten.length+x.2.length:=by
     rw [rF,hp,FD,fj]
     simp
    have hcl:=hC.len
    refine hM _ _ ⟨zs++[(qs,ps,ts)],_,_,rfl,aZ (Ui.trans QL) (s1.free n2),?_,?_,?_,?_,?_,?_⟩
    ·have h6:LL H2 H7 TT ls:=by rw [← hH7];exact (Bl.up V7).other a1 a2
     exact (h6.up QL).other b1 b2
    ·rw [aM Qo,eX9]
     simp [pQ]
    ·rw [aB]
     simp [z7]
    ·have e:pQ (zs++[(qs,ps,ts)])=pQ zs++ps:=by simp [pQ]
     rw [JA,e,fj]
     try?
    ·have e:z7 (zs++[(qs,ps,ts)])=z7 zs++ts:=by simp [z7]
     rw [JA,e,fj]
     try?
    ·have mvZ:∀{b:av} {xs:List V},H9 b=some 0#q→upd H9 Z (.lst ((z7 zs).map V.ref++ts.map V.ref)) b=some 0#q:=λ{b xs} e=>uS Z H9 _ _ _ (dY eZ9 e)
     rw [rF,hp]
     refine mX (hAp.mv λ{b xs} e=>mvZ (QL _ _ (aen (V7 _ _ e)))) ?_
     refine ⟨hC,by rw [hpl,hql],by show ts.length+1=qs.length;try?,λd q p hd E1=>(afR d q p hd E1).mv λ{b xs} e=>mvZ (QL _ _ (aen e)),λd q q' y t hd hd' hy0 ht'=>(hts d q q' y t hd hd' hy0 ht').mv λ{b xs} e=>mvZ (gH _ _ e)⟩
 ·rintro σ H4 ⟨zs,v5,v6,rfl,s4,Bl,eX,eZ,hz1,hz2,hAp⟩
  rw [d9,hll,jR] at hAp
  rw?
  refine aF (mk:=.tup) 0#f λy H5 s5 n5 e5=>?_
  exact k y X Z zs H5 0#R e5 n1 (s1.free n2) Qo (s5 _ _ eX) (s5 _ _ eZ) (hAp.mv λ{b xs} e=>s5 _ _ e)
end
def Wc (ss:List En) (B:Rat) (fl ro:Nat) (G:Rat):Prop:=∀q p,ro≤q→q<p→fl≤p→p<ss.length→dR ss B q p≤G
def Wb (ss:List En) (B:Rat) (fl ro:Nat) (S:Rat):Prop:=∀q p,fl≤q→q<p→ro≤p→p<ss.length→S≤cS ss B q p
def GF (ss:List En) (B:Rat) (fl ro:Nat) (G:Rat):Prop:=Wc ss B fl ro G∧∃q p,ro≤q∧q<p∧fl≤p∧p<ss.length∧dR ss B q p=G
def SF (ss:List En) (B:Rat) (fl ro:Nat) (S:Rat):Prop:=Wb ss B fl ro S∧∃q p,fl≤q∧q<p∧ro≤p∧p<ss.length∧cS ss B q p=S
def cV (ss:List En) (T:Rat) (i:Nat):Rat:=wo ss i-T*(mo ss i:Rat)
theorem sL {a:Rat} (h:a=b):a≤b:=h▸pV
section
theorem i8 (h:rising ss) (hij:i<j) (hj:j<ss.length):(0:Rat)<(mo ss j:Rat)-(mo ss i:Rat):=by
 have:=vW.mpr (iu h hij hj)
 grind
theorem ur (h:rising ss) (hij:i<j) (hj:j<ss.length):dR ss B i j≤G↔cV ss G j≤cV ss G i+B:=by
 unfold dR cV
 rw [oE (i8 h hij hj)]
 constructor
 ·intro _;grind
 ·intro _;grind
theorem Om (h:rising ss) (hij:i<j) (hj:j<ss.length):G≤dR ss B i j↔cV ss G i+B≤cV ss G j:=by
 unfold dR cV
 rw [l9 (i8 h hij hj)]
 constructor
 ·intro _;grind
 ·intro _;grind
theorem pG (h:rising ss) (hij:i<j) (hj:j<ss.length):S≤cS ss B i j↔cV ss S i≤cV ss S j+B:=by
 unfold cS cV
 rw [l9 (i8 h hij hj)]
 constructor
 ·intro _;grind
 ·intro _;grind
theorem JL (h:rising ss) (hij:i<j) (hj:j<ss.length):cS ss B i j≤S↔cV ss S j+B≤cV ss S i:=by
 unfold cS cV
 rw [oE (i8 h hij hj)]
 constructor
 ·intro _;grind
 ·intro _;grind
theorem Mc (h:rising ss) (hij:i<j) (hj:j<ss.length):dR ss B i j=G↔cV ss G j=cV ss G i+B:=
 ⟨λe=>K0 ((ur h hij hj).mp (sL e)) ((Om h hij hj).mp (sL e.symm)),λe=>K0 ((ur h hij hj).mpr (sL e)) ((Om h hij hj).mpr (sL e.symm))⟩
theorem Gy (h:rising ss) (hij:i<j) (hj:j<ss.length):cS ss B i j=S↔cV ss S i=cV ss S j+B:=
 ⟨λe=>K0 ((pG h hij hj).mp (sL e.symm)) ((JL h hij hj).mp (sL e)),λe=>K0 ((JL h hij hj).mpr (sL e.symm)) ((pG h hij hj).mpr (sL e))⟩
theorem Wc.mono (h:Wc ss B fl ro G) (g:G≤T):Wc ss B fl ro T:=λq p a1 a2 a3 a4=>pU (h q p a1 a2 a3 a4) g
theorem Wb.mono (h:Wb ss B fl ro S) (g:T≤S):Wb ss B fl ro T:=λq p a1 a2 a3 a4=>pU g (h q p a1 a2 a3 a4)
theorem Pz (hB:0≤B) (hr:rising ss) (hL:Wc ss B fl ro T) (hH:Wb ss B fl ro T) (ha:ro≤a) (hb:fl≤b) (la:a<ss.length) (lb:b<ss.length):cV ss T b≤cV ss T a+B:=by
 rcases Vg a b with z | z | z
 ·exact (ur hr z lb).mp (hL a b ha z hb lb)
 ·subst z;grind
 ·exact (pG hr z la).mp (hH b a hb z ha la)
theorem wK (hi:i<ss.length):cV (ss++ys) T i=cV ss T i:=by
 unfold cV
 rw [kr hi,kH hi]
theorem wJ {ss:List En} {m:Int}:cV 0#F T ss.length=q-T*(m:Rat):=by
 unfold cV
 rw [GN,Iw]
theorem oB:mo (ss.drop j) i=mo ss (j+i):=by unfold mo;rw [nW]
theorem OI:wo (ss.drop j) i=wo ss (j+i):=by unfold wo;rw [nW]
theorem zX (h:rising ss):rising (ss.drop j):=h.sublist (Ag ..)
theorem JK:cV (ss.drop j) T i=cV ss T (j+i):=by unfold cV;rw [oB,OI]
theorem qR:dM (ss.drop j) B m q i=dM ss B m q (j+i):=by unfold dM;rw [oB,OI]
theorem Sg (h1:∀G0,g=some G0→GF ss B fl ro G0∧G0≤G) (hN:g=none→∀q p,ro≤q→q<p→fl≤p→¬p<ss.length) (hfl:fl≤ss.length) (hall:∀i,i<(ss.drop ro).length→dM (ss.drop ro) (-B) m q i≤G) (hex:(∃i,i<(ss.drop ro).length∧dM (ss.drop ro) (-B) m q i=G)∨g=some G):GF 0#F B fl ro G:=by
 have ld:(ss.drop ro).length=ss.length-ro:=iX ..
 rw [ld] at hall hex
 refine ⟨λi j hi hij hkj hj=>?_,?_⟩
 ·rw [fj] at hj
  have hj':j<ss.length+1:=hj
  by_cases e:j=ss.length
  ·subst e
   rw [Bo hij]
   have:=hall (i-ro) 0#c
   rw [qR,show ro+(i-ro)=i by simp?] at this
   exact this
  ·rw [pJ hij 0#c]
   cases hg:g with
   | none=>exact absurd (show j<ss.length by simp?) (hN hg i j hi hij hkj)
   | some G0=>
     obtain ⟨g1,le⟩:=h1 G0 hg
     exact pU (g1.1 i j hi hij hkj 0#c) le
 ·rcases hex with ⟨i,hi,e⟩ | e
  ·refine ⟨ro+i,ss.length,by simp?,by simp?,hfl,by rw [fj];show _<ss.length+1;simp?,?_⟩
   rw [Bo 0#c,← qR]
   exact e
  ·obtain ⟨i,j,a0,a1,a2,a3,a4⟩:=(h1 G e).1.2
   exact ⟨i,j,a0,a1,a2,by rw [fj];show _<ss.length+1;simp?,by rw [pJ a1 a3];exact a4⟩
theorem UD (h1:∀S0,s=some S0→SF ss B fl ro S0∧S≤S0) (hN:s=none→∀q p,fl≤q→q<p→ro≤p→¬p<ss.length) (z5:ro≤ss.length) (hall:∀i,i<(ss.drop fl).length→S≤dM (ss.drop fl) B m q i) (hex:(∃i,i<(ss.drop fl).length∧dM (ss.drop fl) B m q i=S)∨s=some S):SF 0#F B fl ro S:=by
 have ld:(ss.drop fl).length=ss.length-fl:=iX ..
 rw [ld] at hall hex
 refine ⟨λi j hi hij hkj hj=>?_,?_⟩
 ·rw [fj] at hj
  have hj':j<ss.length+1:=hj
  by_cases e:j=ss.length
  ·subst e
   rw [wF hij]
   have:=hall (i-fl) 0#c
   rw [qR,show fl+(i-fl)=i by simp?] at this
   exact this
  ·rw [mH hij 0#c]
   cases hg:s with
   | none=>exact absurd (show j<ss.length by simp?) (hN hg i j hi hij hkj)
   | some S0=>
     obtain ⟨g1,le⟩:=h1 S0 hg
     exact pU le (g1.1 i j hi hij hkj 0#c)
 ·rcases hex with ⟨i,hi,e⟩ | e
  ·refine ⟨fl+i,ss.length,by simp?,by simp?,z5,by rw [fj];show _<ss.length+1;simp?,?_⟩
   rw [wF 0#c,← qR]
   exact e
  ·obtain ⟨i,j,a0,a1,a2,a3,a4⟩:=(h1 S e).1.2
   exact ⟨i,j,a0,a1,a2,by rw [fj];show _<ss.length+1;simp?,by rw [mH a1 a3];exact a4⟩
theorem iM {ss:List En}:(ss++[(x,m,some q)]).length=ss.length+1:=by simp
theorem Gb {m:Int} (hr:rising 0#F) (s:SF 0#F B fl ro S) (hG:Wb ss B fl ro G) (z5:ro≤ss.length):S<G↔∃i,fl≤i∧i<ss.length∧q-G*(m:Rat)+B<cV ss G i:=by
 constructor
 ·intro h
  obtain ⟨i,j,a0,a1,a2,a3,a4⟩:=s.2
  rw [iM] at a3
  by_cases e:j=ss.length
  ·subst e
   refine ⟨i,a0,a1,rB.mp λz=>?_⟩
   have:=(pG (B:=B) (S:=G) hr a1 (by rw [iM];simp?)).mpr (by rw [wJ,wK a1];exact z)
   rw [a4] at this
   exact absurd h (jz.mpr this)
  ·have:=hG i j a0 a1 a2 0#c
   rw [mH a1 0#c] at a4
   rw [a4] at this
   exact absurd h (jz.mpr this)
 ·rintro ⟨i,a0,a1,h⟩
  refine rB.mp λz=>?_
  have:=s.1 i ss.length a0 a1 z5 (by rw [iM];simp?)
  have:=(pG hr a1 (by rw [iM];simp?)).mp (pU z this)
  rw [wJ,wK a1] at this
  exact absurd h (jz.mpr this)
theorem NU {m:Int} (hr:rising 0#F) (g:GF 0#F B fl ro G) (hS:Wc ss B fl ro S) (hfl:fl≤ss.length):S<G↔∃i,ro≤i∧i<ss.length∧cV ss S i+B<q-S*(m:Rat):=by
 constructor
 ·intro h
  obtain ⟨i,j,a0,a1,a2,a3,a4⟩:=g.2
  rw [iM] at a3
  by_cases e:j=ss.length
  ·subst e
   refine ⟨i,a0,a1,rB.mp λz=>?_⟩
   have:=(ur (B:=B) (G:=S) hr a1 (by rw [iM];simp?)).mpr (by rw [wJ,wK a1];exact z)
   rw [a4] at this
   exact absurd h (jz.mpr this)
  ·have:=hS i j a0 a1 a2 0#c
   rw [pJ a1 0#c] at a4
   rw [a4] at this
   exact absurd h (jz.mpr this)
 ·rintro ⟨i,a0,a1,h⟩
  refine rB.mp λz=>?_
  have:=g.1 i ss.length a0 a1 hfl (by rw [iM];simp?)
  have:=(ur hr a1 (by rw [iM];simp?)).mp (pU this z)
  rw [wJ,wK a1] at this
  exact absurd h (jz.mpr this)
theorem Ja {B:Rat} (hB:0≤B) (hb:mb<m) (ea:v-G*m=va-G*ma+B) (eb:vb-S*mb=v-S*m+B) (h:vb-G*mb≤va-G*ma+B):G≤S:=by
 refine jz.mp λhlt=>?_
 have p:(0:Rat)<m-mb:=by grind
 have:=IB hlt p
 grind
theorem Lv {B:Rat} (hB:0≤B) (ha:ma<m) (ea:v-G*m=va-G*ma+B) (eb:vb-S*mb=v-S*m+B) (h:vb-S*mb≤va-S*ma+B):G≤S:=by
 refine jz.mp λhlt=>?_
 have p:(0:Rat)<m-ma:=by grind
 have:=IB hlt p
 grind
theorem Wj (hB:0≤B) (hr:rising 0#F) (g:GF 0#F B fl ro G) (s:SF 0#F B fl ro S)
 (h1:∀i j,ro≤i→i<j→fl≤j→j<ss.length→dR ss B i j≤S) (h2:∀i j,fl≤i→i<j→ro≤j→j<ss.length→G≤cS ss B i j):G≤S:=by
 obtain ⟨i,j,a0,a1,a2,a3,a4⟩:=g.2
 obtain ⟨k,l,b0,b1,b2,b3,b4⟩:=s.2
 rw [iM] at a3 b3
 by_cases e:j=ss.length
 ·by_cases e':l=ss.length
  ·subst e
   subst e'
   have ea:=(Mc hr a1 (by rw [iM];simp?)).mp a4
   have eb:=(Gy hr b1 (by rw [iM];simp?)).mp b4
   have mi:=i8 hr a1 (by rw [iM];simp?)
   have mk:=i8 hr b1 (by rw [iM];simp?)
   unfold cV at ea eb
   rcases Vg i k with z | z | z
   ·have:=(ur hr z (by rw [iM];simp?)).mp (g.1 i k a0 z 0#c (by rw [iM];simp?))
    unfold cV at this
    exact Ja hB 0#O ea eb this
   ·subst z
    exact Ja hB 0#O ea eb 0#O
   ·have:=(pG hr z (by rw [iM];simp?)).mp (s.1 k i b0 z 0#c (by rw [iM];simp?))
    unfold cV at this
    exact Lv hB 0#O ea eb this
  ·rw [mH b1 0#c] at b4
   rw [← b4]
   exact h2 k l b0 b1 b2 0#c
 ·rw [pJ a1 0#c] at a4
  rw [← a4]
  exact h1 i j a0 a1 a2 0#c
end
structure EE (ss:List En) (β:Rat) (fl ro:Nat) (m:Int) (q G f:Rat) (a b:Nat):Prop where
 gf:GF ss (2*β) fl ro G
 off:∃i,fl≤i∧i<ss.length∧q-G*(m:Rat)+2*β<cV ss G i
 lo:∀i,fl≤i→i<ss.length→cV ss G i-β≤f
 hi:∀i,ro≤i→i<ss.length→f≤cV ss G i+β
 ha:ro≤a
 ea:cV ss G a+β=f
 hb:fl≤b
 lb:b<ss.length
 eb:cV ss G b-β=f
 fb:∀i,b<i→i<ss.length→cV ss G i-β≠f
 hab:a<b
structure EF (ss:List En) (β:Rat) (fl ro:Nat) (m:Int) (q S f:Rat) (a b:Nat):Prop where
 sf:SF ss (2*β) fl ro S
 off:∃i,ro≤i∧i<ss.length∧cV ss S i+2*β<q-S*(m:Rat)
 lo:∀i,fl≤i→i<ss.length→cV ss S i-β≤f
 hi:∀i,ro≤i→i<ss.length→f≤cV ss S i+β
 ha:fl≤a
 ea:cV ss S a-β=f
 hb:ro≤b
 lb:b<ss.length
 eb:cV ss S b+β=f
 fb:∀i,b<i→i<ss.length→cV ss S i+β≠f
 hab:a<b
theorem Jg {α:Type} (P:α→Bool):∀(l:List α),(∃x∈l,P x=true)→∃(a:Nat) (x:α),l[a]?=some x∧P x=true∧(l.filter P)[0]?=some x∧∀(i:Nat) y,i<a→l[i]?=some y→P y=false
 | [],h=>by obtain ⟨x,hx,_⟩:=h;cases hx
 | y::r,h=>by
   by_cases hy:P y=true
   ·exact ⟨0,y,rfl,hy,by rw [KD hy];rfl,λi _ hi=>absurd hi (Be _)⟩
   ·obtain ⟨x,hx,px⟩:=h
    have hr:x∈r:=by
     rcases qU.mp hx with e | e
     ·rw [e] at px;exact absurd px hy
     ·exact e
    obtain ⟨a,z,g,pz,e0,hn⟩:=Jg P r ⟨x,hr,px⟩
    refine ⟨a+1,z,g,pz,by rw [OR hy];exact e0,λi u hi gu=>?_⟩
    cases i with
    | zero=>cases gu;exact gQ.mpr hy
    | succ i=>exact hn i u 0#c gu
theorem Ol {α:Type} (P:α→Bool):∀(l:List α),(∃x∈l,P x=true)→∃(b:Nat) (x:α),l[b]?=some x∧P x=true∧(l.filter P)[(l.filter P).length-1]?=some x∧∀(i:Nat) y,b<i→l[i]?=some y→P y=false
 | [],h=>by obtain ⟨x,hx,_⟩:=h;cases hx
 | y::r,h=>by
   by_cases hr:∃x∈r,P x=true
   ·obtain ⟨b,z,g,pz,e0,hn⟩:=Ol P r hr
    refine ⟨b+1,z,g,pz,?_,λi u hi gu=>?_⟩
    ·by_cases hy:P y=true
     ·rw [KD hy]
      have hl:0<(r.filter P).length:=by
       cases e:r.filter P with
       | nil=>rw [e] at e0;cases e0
       | cons c d=>exact VE _
      show (y::r.filter P)[(r.filter P).length+1-1]?=some z
      rw [show (r.filter P).length+1-1=((r.filter P).length-1)+1 by simp?,List.getElem?_cons_succ]
      exact e0
     ·rw [OR hy];exact e0
    ·cases i with
     | zero=>simp?
     | succ i=>exact hn i u 0#c gu
   ·have hy:P y=true:=by
     obtain ⟨x,hx,px⟩:=h
     rcases qU.mp hx with e | e
     ·rw [e] at px;exact px
     ·exact absurd ⟨x,e,px⟩ hr
    have e0:r.filter P=[]:=Y6.mpr λx hx px=>hr ⟨x,hx,px⟩
    refine ⟨0,y,rfl,hy,by rw [KD hy,e0];rfl,λi u hi gu=>?_⟩
    cases i with
    | zero=>simp?
    | succ i=>exact gQ.mpr λz=>hr ⟨u,lP gu,z⟩
theorem NZ (h:rising es)  (hk:es[k]?=some x):es.filter (λy=>decide (x.2.1≤y.2.1))=es.drop k:=by
 have hl:k<es.length:=(lS.mp hk).1
 have mk:∀i y,es[i]?=some y→(k≤i↔x.2.1≤y.2.1):=λi y hy=>by
  have hi:i<es.length:=(lS.mp hy).1
  have e1:mo es k=x.2.1:=by unfold mo;rw [hk];rfl
  have e2:mo es i=y.2.1:=by unfold mo;rw [hy];rfl
  rcases Vg i k with z | z | z
  ·have:=iu h z hl;simp?
  ·subst z;simp?
  ·have:=iu h z hi;simp?
 conv=>lhs;rw [← Lc k es]
 rw [DR]
 have h1:(es.take k).filter (λy=>decide (x.2.1≤y.2.1))=[]:=Y6.mpr λy hy=>by
  obtain ⟨i,hi⟩:=Zi hy
  rw [O0] at hi
  split at hi
  ·have:=mk i y hi
   rw [Vc]
   simp?
  ·cases hi
 have h2:(es.drop k).filter (λy=>decide (x.2.1≤y.2.1))=es.drop k:=List.filter_eq_self.mpr λy hy=>by
  obtain ⟨i,hi⟩:=Zi hy
  rw [nW] at hi
  exact jb ((mk _ y hi).mp (FH _ _))
 rw [h1,h2]
 rfl
structure Fb (fs:List (Str×V)) (bd tw bl ab:av) (g s:V):Prop where
 len:fs.length≤10
 bd:fs.lookup ("bound":Str)=some (.ref bd)
 tw:fs.lookup ("twice":Str)=some (.ref tw)
 bl:fs.lookup ("below":Str)=some (.ref bl)
 ab:fs.lookup ("above":Str)=some (.ref ab)
 g:fs.lookup ("gentlest":Str)=some g
 s:fs.lookup ("steepest":Str)=some s
 no:∀m:Str,m ≠ "bound"→m ≠ "twice"→m ≠ "below"→m ≠ "above"→m ≠ "gentlest"→m ≠ "steepest"→fs.lookup m=none
theorem Fb.init (bd tw bl ab:av) (g s:V):Fb (aC "steepest" s (aC "gentlest" g (aC "above" (.ref ab) (aC "below" (.ref bl) (aC "twice" (.ref tw) (aC "bound" (.ref bd) [])))))) bd tw bl ab g s:=by
 have Xh:¬(("bound":Str) = "twice"):=by decide +kernel
 have GQ:¬(("bound":Str) = "below"):=by decide +kernel
 have GP:¬(("bound":Str) = "above"):=by decide +kernel
 have Mp:¬(("bound":Str) = "gentlest"):=by decide +kernel
 have Mq:¬(("bound":Str) = "steepest"):=by decide +kernel
 have GU:¬(("twice":Str) = "below"):=by decide +kernel
 have GS:¬(("twice":Str) = "above"):=by decide +kernel
 have Mt:¬(("twice":Str) = "gentlest"):=by decide +kernel
 have Mu:¬(("twice":Str) = "steepest"):=by decide +kernel
 have GR:¬(("below":Str) = "above"):=by decide +kernel
 have Mr:¬(("below":Str) = "gentlest"):=by decide +kernel
 have Ms:¬(("below":Str) = "steepest"):=by decide +kernel
 have Mm:¬(("above":Str) = "gentlest"):=by decide +kernel
 have Mn:¬(("above":Str) = "steepest"):=by decide +kernel
 have S6:¬(("gentlest":Str) = "steepest"):=by decide +kernel
 have l:∀(f:Str) (v:V) (fs:List (Str×V)),(aC f v fs).length≤fs.length+1:=by
  intro f v fs
  induction fs with
  | nil=>exact dG _
  | cons x r ih=>
    obtain ⟨g,y⟩:=x
    unfold aC
    split
    ·exact tV _
    ·exact xS ih
 refine ⟨?_,?_,?_,?_,?_,?_,?_,λm m1 m2 m3 m4 m5 m6=>?_⟩
 ·have l0:=l "bound" (.ref bd) []
  have l1:=l "twice" (.ref tw) (aC "bound" (.ref bd) [])
  have l2:=l "below" (.ref bl) (aC "twice" (.ref tw) (aC "bound" (.ref bd) []))
  have l3:=l "above" (.ref ab) (aC "below" (.ref bl) (aC "twice" (.ref tw) (aC "bound" (.ref bd) [])))
  have l4:=l "gentlest" g (aC "above" (.ref ab) (aC "below" (.ref bl) (aC "twice" (.ref tw) (aC "bound" (.ref bd) []))))
  have l5:=l "steepest" s (aC "gentlest" g (aC "above" (.ref ab) (aC "below" (.ref bl) (aC "twice" (.ref tw) (aC "bound" (.ref bd) [])))))
  simp only [ZV] at l0
  simp?
 ·rw [af,if_neg Mq,af,if_neg Mp,af,if_neg GP,af,if_neg GQ,af,if_neg Xh,af,if_pos rfl]
 ·rw [af,if_neg Mu,af,if_neg Mt,af,if_neg GS,af,if_neg GU,af,if_pos rfl]
 ·rw [af,if_neg Ms,af,if_neg Mr,af,if_neg GR,af,if_pos rfl]
 ·rw [af,if_neg Mn,af,if_neg Mm,af,if_pos rfl]
 ·rw [af,if_neg S6,af,if_pos rfl]
 ·rw [af,if_pos rfl]
 ·rw [af,if_neg m6,af,if_neg m5,af,if_neg m4,af,if_neg m3,af,if_neg m2,af,if_neg m1]
  rfl
theorem Fb.UB {bd tw bl ab:av} {g s:V} {y:av} (h:Fb fs bd tw bl ab g s):Fb (aC "below" (.ref y) fs) bd tw y ab g s:=by
 have GQ:¬(("bound":Str) = "below"):=by decide +kernel
 have GU:¬(("twice":Str) = "below"):=by decide +kernel
 have Xg:¬(("above":Str) = "below"):=by decide +kernel
 have abC:¬(("gentlest":Str) = "below"):=by decide +kernel
 have abE:¬(("steepest":Str) = "below"):=by decide +kernel
 refine ⟨by rw [gn h.bl];exact h.len,?_,?_,?_,?_,?_,?_,λm m1 m2 m3 m4 m5 m6=>?_⟩
 ·rw [af,if_neg GQ];exact h.bd
 ·rw [af,if_neg GU];exact h.tw
 ·rw [af,if_pos rfl]
 ·rw [af,if_neg Xg];exact h.ab
 ·rw [af,if_neg abC];exact h.g
 ·rw [af,if_neg abE];exact h.s
 ·rw [af,if_neg m3];exact h.no m m1 m2 m3 m4 m5 m6
theorem Fb.UA {bd tw bl ab:av} {g s:V} {y:av} (h:Fb fs bd tw bl ab g s):Fb (aC "above" (.ref y) fs) bd tw bl y g s:=by
 have GP:¬(("bound":Str) = "above"):=by decide +kernel
 have GS:¬(("twice":Str) = "above"):=by decide +kernel
 have GR:¬(("below":Str) = "above"):=by decide +kernel
 have abB:¬(("gentlest":Str) = "above"):=by decide +kernel
 have abD:¬(("steepest":Str) = "above"):=by decide +kernel
 refine ⟨by rw [gn h.ab];exact h.len,?_,?_,?_,?_,?_,?_,λm m1 m2 m3 m4 m5 m6=>?_⟩
 ·rw [af,if_neg GP];exact h.bd
 ·rw [af,if_neg GS];exact h.tw
 ·rw [af,if_neg GR];exact h.bl
 ·rw [af,if_pos rfl]
 ·rw [af,if_neg abB];exact h.g
 ·rw [af,if_neg abD];exact h.s
 ·rw [af,if_neg m4];exact h.no m m1 m2 m3 m4 m5 m6
theorem Fb.xx {bd tw bl ab:av} {g s:V} {y:V} (h:Fb fs bd tw bl ab g s):Fb (aC "gentlest" y fs) bd tw bl ab y s:=by
 have Mp:¬(("bound":Str) = "gentlest"):=by decide +kernel
 have Mt:¬(("twice":Str) = "gentlest"):=by decide +kernel
 have Mr:¬(("below":Str) = "gentlest"):=by decide +kernel
 have Mm:¬(("above":Str) = "gentlest"):=by decide +kernel
 have adF:¬(("steepest":Str) = "gentlest"):=by decide +kernel
 refine ⟨by rw [gn h.g];exact h.len,?_,?_,?_,?_,?_,?_,λm m1 m2 m3 m4 m5 m6=>?_⟩
 ·rw [af,if_neg Mp];exact h.bd
 ·rw [af,if_neg Mt];exact h.tw
 ·rw [af,if_neg Mr];exact h.bl
 ·rw [af,if_neg Mm];exact h.ab
 ·rw [af,if_pos rfl]
 ·rw [af,if_neg adF];exact h.s
 ·rw [af,if_neg m5];exact h.no m m1 m2 m3 m4 m5 m6
theorem Fb.xy {bd tw bl ab:av} {g s:V} {y:V} (h:Fb fs bd tw bl ab g s):Fb (aC "steepest" y fs) bd tw bl ab g y:=by
 have Mq:¬(("bound":Str) = "steepest"):=by decide +kernel
 have Mu:¬(("twice":Str) = "steepest"):=by decide +kernel
 have Ms:¬(("below":Str) = "steepest"):=by decide +kernel
 have Mn:¬(("above":Str) = "steepest"):=by decide +kernel
 have S6:¬(("gentlest":Str) = "steepest"):=by decide +kernel
 refine ⟨by rw [gn h.s];exact h.len,?_,?_,?_,?_,?_,?_,λm m1 m2 m3 m4 m5 m6=>?_⟩
 ·rw [af,if_neg Mq];exact h.bd
 ·rw [af,if_neg Mu];exact h.tw
 ·rw [af,if_neg Ms];exact h.bl
 ·rw [af,if_neg Mn];exact h.ab
 ·rw [af,if_neg S6];exact h.g
 ·rw [af,if_pos rfl]
 ·rw [af,if_neg m6];exact h.no m m1 m2 m3 m4 m5 m6
theorem Fb.yy {fs:List (Str×V)} {bd tw bl ab:av} {g s:V} (h:Fb fs bd tw bl ab g s) (m:Str) (m1:m ≠ "bound":=by decide +kernel) (m2:m ≠ "twice":=by decide +kernel) (m3:m ≠ "below":=by decide +kernel) (m4:m ≠ "above":=by decide +kernel) (m5:m ≠ "gentlest":=by decide +kernel) (m6:m ≠ "steepest":=by decide +kernel):fs.lookup m=none:=h.no m m1 m2 m3 m4 m5 m6
def QJ (p L M:av) (H:Hp):Hp:=rm p (rm L (rm M H))
theorem vE (h1:b≠p) (h2:b≠L) (h3:b≠M):QJ p L M H b=H b:=by unfold QJ;rw [nC h1,nC h2,nC h3]
theorem CS (h:QJ p L M H b=some o):b≠p∧b≠L∧b≠M∧H b=some o:=by
 have h1:b≠p:=λq=>by rw [q] at h;unfold QJ rm at h;simp at h
 have h2:b≠L:=λq=>by rw [q] at h;unfold QJ rm at h;simp at h
 have h3:b≠M:=λq=>by rw [q] at h;unfold QJ rm at h;simp at h
 rw [vE h1 h2 h3] at h
 exact ⟨h1,h2,h3,h⟩
section
theorem bS.tv (t:∀{b:av} {xs:List V},H b=some 0#q→H' b=some 0#q) (f:bS H b q n):bS H' b q n:=let ⟨x,d,e,f⟩:=f;⟨x,d,t e,f⟩
theorem dz.tv (t:∀{b:av} {xs:List V},H b=some 0#q→H' b=some 0#q) (f:dz H b q n):dz H' b q n:=let ⟨x,d,e,f⟩:=f;⟨x,d,t e,f⟩
theorem i6.tv (t:∀{b:av} {xs:List V},H b=some 0#q→H' b=some 0#q) (f:i6 H b q h n):i6 H' b q h n:=let ⟨x,d,e,f1,f2⟩:=f;⟨x,d,t e,f1.tv t,f2.tv t⟩
theorem mW.tv (t:∀{b:av} {xs:List V},H b=some 0#q→H' b=some 0#q) (f:mW H x n):mW H' x n:=by
 obtain ⟨a,m,v⟩:=x
 cases v with
 | none=>exact ⟨f.1,t f.2⟩
 | some q=>
   obtain ⟨z,r,e,x,d,g,f⟩:=f
   exact ⟨z,r,t e,x,d,t g,f⟩
theorem Row.tv (t:∀{b:av} {xs:List V},H b=some 0#q→H' b=some 0#q) (f:Row H es n):Row H' es n:=λx hx=>(f x hx).tv t
end
def OQ (H:Hp) (v:V) (N:Nat):Option Rat→Prop
 | none=>v=.bM
 | some G=>∃p,v=.ref p∧bS H p G N
theorem OQ.tv (t:∀{b:av} {xs:List V},H b=some 0#q→H' b=some 0#q) (f:OQ H v N g):OQ H' v N g:=by
 cases g with
 | none=>exact f
 | some G=>exact let ⟨p,e,f⟩:=f;⟨p,e,f.tv t⟩
def GO (ss:List En) (B:Rat) (fl ro:Nat):Option Rat→Prop
 | none=>∀q p,ro≤q→q<p→fl≤p→¬p<ss.length
 | some G=>GF ss B fl ro G
def SO (ss:List En) (B:Rat) (fl ro:Nat):Option Rat→Prop
 | none=>∀q p,fl≤q→q<p→ro≤p→¬p<ss.length
 | some S=>SF ss B fl ro S
structure BD (ss:List En) (fl ro:Nat) (β:Rat) (g s:Option Rat):Prop where
 all:ia ss
 Er:rising ss
 hfl:fl≤ss.length
 z5:ro≤ss.length
 lt:0<ss.length→fl<ss.length∧ro<ss.length
 go:GO ss (2*β) fl ro g
 so:SO ss (2*β) fl ro s
 le:∀G S,g=some G→s=some S→G≤S
 df:fl=ro→fl=0
structure V8 (C:av) (H:Hp) (p Lb La:av) (ss:List En) (fl ro:Nat) (β:Rat) (n nb:Nat) (g s:Option Rat) (dx bd tw:av) (fs:List (Str×V)) (gv sv:V):Prop where
 at_:H p=some 0#Y
 F:Fb fs bd tw Lb La gv sv
 eb:H Lb=some (.lst (vals (ss.drop fl)))
 ea:H La=some (.lst (vals (ss.drop ro)))
 ne:Lb≠La
 row:Row H ss n
 V1:dz H bd β nb
 WE:bS H tw (2*β) (2*nb+1)
 G:OQ H gv (3*n+(2*nb+1)+3) g
 S:OQ H sv (3*n+(2*nb+1)+3) s
 P:BD ss fl ro β g s
def lT (C:av) (H:Hp) (p Lb La:av) (ss:List En) (fl ro:Nat) (β:Rat) (n nb:Nat) (g s:Option Rat):Prop:=∃dx bd tw fs gv sv,V8 C H p Lb La ss fl ro β n nb g s dx bd tw fs gv sv
theorem V8.mv (h:V8 C H p Lb La ss fl ro β n nb g s dx bd tw fs gv sv) (t:∀{b:av} {xs:List V},H b=some 0#q→H' b=some 0#q) (hp:H' p=H p) (h1:H' Lb=H Lb) (h2:H' La=H La):V8 C H' p Lb La ss fl ro β n nb g s dx bd tw fs gv sv:=
 ⟨hp.trans h.at_,h.F,h1.trans h.eb,h2.trans h.ea,h.ne,h.row.tv t,h.V1.tv t,h.WE.tv t,h.G.tv t,h.S.tv t,h.P⟩
theorem V8.up (h:V8 C H p Lb La ss fl ro β n nb g s dx bd tw fs gv sv) (k:au H H'):V8 C H' p Lb La ss fl ro β n nb g s dx bd tw fs gv sv:=
 h.mv (λ{b xs} e=>k _ _ e) ((k _ _ h.at_).trans h.at_.symm) ((k _ _ h.eb).trans h.eb.symm) ((k _ _ h.ea).trans h.ea.symm)
theorem lT.up (h:lT C H p Lb La ss fl ro β n nb g s) (k:au H H'):lT C H' p Lb La ss fl ro β n nb g s:=
 let ⟨dx,bd,tw,fs,gv,sv,h⟩:=h;⟨dx,bd,tw,fs,gv,sv,h.up k⟩
theorem BD.hiG (h:BD ss fl ro β g s) (e:g=some G):GF ss (2*β) fl ro G∧Wb ss (2*β) fl ro G:=by
 have go:=h.go
 have so:=h.so
 rw [e] at go
 refine ⟨go,?_⟩
 cases hs:s with
 | none=>
   rw [hs] at so
   exact λq p a b c d=>absurd d (so q p a b c)
 | some S=>
   rw [hs] at so
   exact Wb.mono so.1 (h.le G S e hs)
theorem BD.loS (h:BD ss fl ro β g s) (e:s=some S):SF ss (2*β) fl ro S∧Wc ss (2*β) fl ro S:=by
 have go:=h.go
 have so:=h.so
 rw [e] at so
 refine ⟨so,?_⟩
 cases hs:g with
 | none=>
   rw [hs] at go
   exact λq p a b c d=>absurd d (go q p a b c)
 | some G=>
   rw [hs] at go
   exact Wc.mono go.1 (h.le G S hs e)
inductive OE (vs:List V) (H:Hp) (Q:VK) (E_:XK):Prop where
 | mk (p:av) (q:Rat) (n:Nat):vs=[.ref p]→bS H p q n→(∀(r:av) (H':Hp),au H H'→bS H' r (-q) n→Q (.ref r) H')→OE vs H Q E_
inductive zM (vs:List V) (H:Hp) (Q:VK) (E_:XK):Prop where
 | mk (a b:V) (g s:Option Rat) (m n:Nat):vs=[a,b]→OQ H a m g→OQ H b n s→m+n≤100000→(∀r:Bool,(r=true↔∃G S,g=some G∧s=some S∧S<G)→Q (.bl r) H)→zM vs H Q E_
def QB (T f l:Rat) (x:En):Bool:=decide (x.2.2.getD 0-(T*(x.2.1:Rat)+f)=l)
theorem vC (h:es[i]?=some x):QB T f l x=true↔cV es T i-f=l:=by
 unfold QB cV mo wo
 rw [Vc,h]
 show x.2.2.getD 0-(T*(x.2.1:Rat)+f)=l↔x.2.2.getD 0-T*(x.2.1:Rat)-f=l
 constructor
 ·intro h;rw [← h];grind
 ·intro h;rw [← h];grind
inductive uC (vs:List V) (H:Hp) (Q:VK) (E_:XK):Prop where
 | mk (l ln pb:av) (es:List En) (T f lam:Rat) (n M nb:Nat):vs=[.ref l,.ref ln,.ref pb]→H l=some 0#A→Row H es n→ia es→i6 H ln T f M→bS H pb lam nb→1≤n→n≤10000→M≤10000→nb≤10000→es.length≤900→(∀(R:av) (H':Hp),au H H'→H R=none→H' R=some (.lst (vals (es.filter (QB T f lam))))→Q (.ref R) H')→uC vs H Q E_
section
theorem Kh:aE ["one"] ["one"] (ah vM):=0#a
theorem J4 (F:cR K "opposite" "opposite" vM f fd):bf P w K mg base cY 1 f fd ["one"] OE:=by
 refine F.ok Kh 0#e 0#b
 ·obtain ⟨p,q,n,rfl,_⟩:=h
  rfl
 obtain ⟨p,q,n,rfl,⟨a,b,hp,hq,za,zb⟩,k⟩:=h
 refine bG ⟨_,(aH (aV (bJ (bq (fR cZ 0#I) 0#I)))),?_⟩
 rw?
 refine aF (mk:=.tup) 0#f λp1 H1 s1 n1 e1=>?_
 exact k p1 H1 s1 ⟨_,_,e1,hq.neg,by unfold Sz at *;rw [Pf];exact za,zb⟩
theorem Ew:aE ["one","other"] ["one","other"] (ah qF):=0#a
theorem Eh (F:cR K "is_steeper" "is_steeper" qF f fd) (cP:Dn P w K mg base 1 "order" ["one","other"] iW):bf P w K mg base cY 2 f fd ["one","other"] zM:=by
 refine F.ok Ew 0#e 0#b
 ·obtain ⟨a,b,g,s,m,n,rfl,_⟩:=h
  rfl
 obtain ⟨a,b,g,s',m,n,rfl,ha,hb,hmn,k⟩:=h
 refine bG ⟨_,(aH (aV (Jd.yP (mY jI 0#j dN 0#J) (Jd.yP (mY jI 0#p dN 0#J) (Jd.CD (mY dS (bY cP hr 0#j 0#p) aA 0#J)))))),?_⟩
 cases g with
 | none=>
   obtain rfl:a=.bM:=ha
   rw?
   refine ⟨rfl,_,rfl,bI ?_⟩
   exact k false ⟨λz=>absurd z 0#i,λ⟨_,_,e,_⟩=>by cases e⟩
 | some G=>
   obtain ⟨pa,rfl,fa⟩:=ha
   cases s' with
   | none=>
     obtain rfl:b=.bM:=hb
     rw?
     refine ⟨rfl,_,rfl,cB ?_⟩
     rw?
     refine ⟨rfl,_,rfl,bI ?_⟩
     exact k false ⟨λz=>absurd z 0#i,λ⟨_,_,_,e,_⟩=>by cases e⟩
   | some S=>
     obtain ⟨pb,rfl,fb⟩:=hb
     rw?
     refine ⟨rfl,_,rfl,cB ?_⟩
     rw?
     refine ⟨rfl,_,rfl,cB ?_⟩
     rw?
     refine ⟨pa,pb,G,S,m,n,rfl,fa,fb,hmn,λo h1 h2=>?_⟩
     rw?
     refine k _ ⟨λz=>⟨G,S,rfl,rfl,h1.mp (jw z)⟩,λ⟨_,_,e1,e2,z⟩=>?_⟩
     cases e1
     cases e2
     exact jb (h1.mpr z)
theorem Nh:aE ["samples","line","lift"] ["samples","line","lift"] (ah zo):=0#a
theorem MG (F:cR K "touched" "touched" zo f fd) (cP:Dn P w K mg base 1 "order" ["one","other"] iW) (rQ:Dn P w K mg base 4 "loose_off" ["line","sample"] Nr):bf P w K mg base cY 5 f fd ["samples","line","lift"] uC:=by
 refine F.ok Nh 0#e 0#b
 ·obtain ⟨l,ln,pb,es,T,f,lam,n,M,nb,rfl,_⟩:=h
  rfl
 obtain ⟨l,ln,pb,es,T,fo,lam,n,M,nb,rfl,hl,hR,hS,Yq,hpb,h1,hn,hM,hnb,kJ,k⟩:=h
 refine bG ⟨_,(aH (aV (oz (O:=["sample"]) (N':=["lift","line" ]) (cap:=[2,1]) rfl (dB K 0#j) (λ_ _ _ _ _=>(bX (i:=0) (show jd [("sample":Str),("lift":Str),("line":Str)] by decide +kernel) rfl 0#k)) (λ_ _ _ _ _=>(wH (bC dF (fY cP 0#z rfl (cG (fY rQ 0#z rfl (cG 0#s (cG 0#j dX bw) bw) (he:=bw) (hpl:=(cu bw cg))) (cG 0#p dX bw) Bb) (he:=Bb) (hpl:=(cu bw cg))) aA 0#J))) (λ_ _ _ _ _=>0#j) rfl ⟨⟨rfl,rfl,rfl,rfl⟩,0#u⟩ rfl 0#g rfl 0#g))),?_⟩
 rw?
 refine iD ?_
 rw?
 refine ⟨l,rfl,⟨_,aX.of hl⟩,?_⟩
 refine cF (xs:=vals es) bZ (λH3 s3=>aX.of (s3 _ _ hl)) (by rw [aN];try?) (λi ys G=>ys=vals ((es.take i).filter (QB T fo lam))) rfl ?_ ?_
 ·rintro D i x ys H3 jV N N0 h0 hD eD s3 hx hy rfl kY kN
  obtain ⟨e,he,rfl⟩:=gI hx
  have hi:i<es.length:=(lS.mp he).1
  obtain ⟨xi,gi,fi⟩:=cT (hR.up s3) hS hi
  rw [he] at gi
  cases gi
  have ts:=K9 (QB T fo lam) es i e he
  refine fO h0 ?_
  rw?
  refine ⟨ln,e.1,T,fo,_,_,n,M,rfl,Yq.up s3,fi,h1,by try?,by try?,λz H4 s4 f4=>?_⟩
  rw?
  refine ⟨z,pb,_,lam,_,nb,rfl,f4,hpb.up 0#S,by try?,λo o1 o2=>?_⟩
  have key:o=0↔cV es T i-fo=lam:=by
   have e1:wo es i-(T*(mo es i:Rat)+fo)=cV es T i-fo:=by unfold cV;grind
   rw [e1] at o1 o2
   constructor
   ·intro h
    refine K0 (jz.mp λz=>?_) (jz.mp λz=>?_)
    ·have:=o1.mpr z;simp?
    ·have:=o2.mpr z;simp?
   ·intro h
    rw [h] at o1 o2
    have p1:¬0<o:=λz=>Vu (o1.mp z)
    have p2:¬o<0:=λz=>Vu (o2.mp z)
    simp?
  rw?
  cases hs:decide (o=0) with
  | true=>
    rw [(vC he).mpr (key.mp (jw hs)),if_pos rfl] at ts
    refine cB ?_
    rw?
    exact kY _ H4 s4 (by rw [ts,← fu])
  | false=>
    have:QB T fo lam e=false:=gQ.mpr λz=>gY hs (key.mpr ((vC he).mp z))
    rw [this,if_neg dW,vX] at ts
    refine bI ?_
    exact kN H4 s4 (by rw [ts])
 ·rintro D ys H3 hD eD s3 hy rfl
  rw [aN,jR] at eD
  rw?
  exact k D H3 s3 hD eD
end
def Kp (F:av→Prop) (H H':Hp):Prop:=∀b o,¬F b→H b=some o→H' b=some o
theorem Kp.of (s:au H H'):Kp F H H':=λb o _ e=>s b o e
theorem Kp.trans (h:Kp F H H') (h':Kp F H' H2):Kp F H H2:=λb o n e=>h' b o n (h b o n e)
theorem Kp.upd (h:Kp F H H') (hF:F a):Kp F H (upd H' a o):=λb u n e=>by
 rw [aM (show b≠a from λq=>n (by rw [q];exact hF))]
 exact h b u n e
theorem Kp.sm (h:Kp F H H') (s:au H' H2):Kp F H H2:=h.trans (.of s)
theorem OA (f:Str) (v:V):∀fs:List (Str×V),(aC f v fs).length≤fs.length+1
 | []=>dG _
 | (g,y)::r=>by
   unfold aC
   split
   ·exact tV _
   ·exact xS (OA f v r)
def IS (ss:List En) (β:Rat) (fl:Nat) (g s:Option Rat) (T f:Rat):Prop:=
 ((g=some T∨(g=none∧s=some T))∧(∀i,fl≤i→i<ss.length→cV ss T i-β≤f)∧∃i,fl≤i∧i<ss.length∧cV ss T i-β=f)∨(g=none∧s=none∧T=0∧f=wo ss fl)
inductive By (C:av) (vs:List V) (H:Hp) (Q:VK) (E_:XK):Prop where
 | mk (p dx pb:av) (β:Rat) (n:Nat):vs=[.ref p,.ref pb]→H p=some (.ins C dx [])→dz H pb β n→n≤1000→(∀(Lb La:av) (H':Hp) (k:Nat),au (rm p H) H'→H Lb=none→H La=none→lT C H' p Lb La [] 0 0 β k n none none→Q .bM H')→By C vs H Q E_
inductive tO (C:av) (vs:List V) (H:Hp) (Q:VK) (E_:XK):Prop where
 | mk (p Lb La pt:av) (ss:List En) (fl ro:Nat) (β T:Rat) (n nb:Nat) (g s:Option Rat):vs=[.ref p,.ref pt]→lT C H p Lb La ss fl ro β n nb g s→bS H pt T (3*n+(2*nb+1)+3)→0<ss.length→ss.length≤900→n≤1500→(5*n+4*nb≤7900∧nb≤1000)→(∀(r:av) (f:Rat) (H':Hp),au H H'→i6 H' r T f (5*n+3*nb+7)→(∀i,fl≤i→i<ss.length→cV ss T i-β≤f)→(∃i,fl≤i∧i<ss.length∧cV ss T i-β=f)→Q (.ref r) H')→tO C vs H Q E_
inductive UG (C:av) (vs:List V) (H:Hp) (Q:VK) (E_:XK):Prop where
 | mk (p Lb La x:av) (ss:List En) (fl ro:Nat) (m:Int) (q β G:Rat) (n nb:Nat) (s:Option Rat):vs=[.ref p,.ref x]→lT C H p Lb La ss fl ro β n nb (some G) s→i7 H x m q n→(∀i,i<ss.length→mo ss i<m)→ss.length≤900→1≤n→n≤1500→(5*n+4*nb≤7900∧nb≤1000)→0≤β→(∃i,fl≤i∧i<ss.length∧q-G*(m:Rat)+2*β<cV ss G i)→(∀(r ln th BK BJ:av) (f:Rat) (a b:Nat) (s':Option Rat) (H':Hp),au (QJ p Lb La H) H'→EE ss β fl ro m q G f a b→H' r=some (.tup [.ref ln,.ref th])→i6 H' ln G f (5*n+3*nb+7)→H' th=some (.tup [.int (mo ss a),.int (mo ss b),.int m])→lT C H' p BK BJ 0#F b ss.length β n nb none s'→H BK=none→H BJ=none→Q (.ref r) H')→UG C vs H Q E_
inductive UH (C:av) (vs:List V) (H:Hp) (Q:VK) (E_:XK):Prop where
 | mk (p Lb La x:av) (ss:List En) (fl ro:Nat) (m:Int) (q β S:Rat) (n nb:Nat) (g:Option Rat):vs=[.ref p,.ref x]→lT C H p Lb La ss fl ro β n nb g (some S)→i7 H x m q n→(∀i,i<ss.length→mo ss i<m)→ss.length≤900→1≤n→n≤1500→(5*n+4*nb≤7900∧nb≤1000)→0≤β→(∃i,ro≤i∧i<ss.length∧cV ss S i+2*β<q-S*(m:Rat))→(∀(r ln th BK BJ:av) (f:Rat) (a b:Nat) (g':Option Rat) (H':Hp),au (QJ p Lb La H) H'→EF ss β fl ro m q S f a b→H' r=some (.tup [.ref ln,.ref th])→i6 H' ln S f (5*n+3*nb+7)→H' th=some (.tup [.int (mo ss a),.int (mo ss b),.int m])→lT C H' p BK BJ 0#F ss.length b β n nb g' none→H BK=none→H BJ=none→Q (.ref r) H')→UH C vs H Q E_
def F3 (ss:List En) (β:Rat) (fl ro:Nat) (g s:Option Rat) (m:Int) (q:Rat):Prop:=(∀G,g=some G→∀i,fl≤i→i<ss.length→cV ss G i≤q-G*(m:Rat)+2*β)∧(∀S,s=some S→∀i,ro≤i→i<ss.length→q-S*(m:Rat)≤cV ss S i+2*β)
inductive Nx (C:av) (vs:List V) (H:Hp) (Q:VK) (E_:XK):Prop where
 | mk (p Lb La x:av) (ss:List En) (fl ro:Nat) (m:Int) (q β:Rat) (n nb:Nat) (g s:Option Rat):vs=[.ref p,.ref x]→lT C H p Lb La ss fl ro β n nb g s→i7 H x m q n→(∀i,i<ss.length→mo ss i<m)→ss.length≤900→1≤n→n≤1500→(5*n+4*nb≤7900∧nb≤1000)→0≤β→(∀(g' s':Option Rat) (H':Hp),au (QJ p Lb La H) H'→F3 ss β fl ro g s m q→lT C H' p Lb La 0#F fl ro β n nb g' s'→Q .bM H')→(∀(r ln th BK BJ:av) (G f:Rat) (a b:Nat) (s':Option Rat) (H':Hp),au (QJ p Lb La H) H'→g=some G→EE ss β fl ro m q G f a b→H' r=some (.tup [.ref ln,.ref th])→i6 H' ln G f (5*n+3*nb+7)→H' th=some (.tup [.int (mo ss a),.int (mo ss b),.int m])→lT C H' p BK BJ 0#F b ss.length β n nb none s'→H BK=none→H BJ=none→Q (.ref r) H')→(∀(r ln th BK BJ:av) (S f:Rat) (a b:Nat) (g':Option Rat) (H':Hp),au (QJ p Lb La H) H'→s=some S→¬(∃G,g=some G∧∃i,fl≤i∧i<ss.length∧q-G*(m:Rat)+2*β<cV ss G i)→EF ss β fl ro m q S f a b→H' r=some (.tup [.ref ln,.ref th])→i6 H' ln S f (5*n+3*nb+7)→H' th=some (.tup [.int (mo ss a),.int (mo ss b),.int m])→lT C H' p BK BJ 0#F ss.length b β n nb g' none→H BK=none→H BJ=none→Q (.ref r) H')→Nx C vs H Q E_
inductive UK (C:av) (vs:List V) (H:Hp) (Q:VK) (E_:XK):Prop where
 | mk (p Lb La:av) (ss:List En) (fl ro:Nat) (β:Rat) (n nb:Nat) (g s:Option Rat):vs=[.ref p]→lT C H p Lb La ss fl ro β n nb g s→ss.length≤900→1≤n→n≤1500→(5*n+4*nb≤7900∧nb≤1000)→(ss=[]→Q .bM H)→(0<ss.length→∀(r:av) (T f:Rat) (H':Hp),au H H'→i6 H' r T f (5*n+3*nb+7)→IS ss β fl g s T f→Q (.ref r) H')→UK C vs H Q E_
theorem i6.OH (f:i6 H p s h n) (k:au H H'):i6 H' p s h n:=f.tv λ{b xs} e=>k _ _ e
theorem EN (mJ:0≤β) (hr:rising ss) (g:GF ss (2*β) fl ro G) (hH:Wb ss (2*β) fl ro G) (lo:∀i,fl≤i→i<ss.length→cV ss G i-β≤f) (ex:∃i,fl≤i∧i<ss.length∧cV ss G i-β=f) :
 (∀i,ro≤i→i<ss.length→f≤cV ss G i+β)∧∃q p,ro≤q∧q<p∧fl≤p∧p<ss.length∧cV ss G q+β=f∧cV ss G p-β=f:=by
 obtain ⟨b,hb,lb,eb⟩:=ex
 have hi:∀i,ro≤i→i<ss.length→f≤cV ss G i+β:=λi h l=>by
  have:=Pz 0#O hr g.1 hH h hb l lb
  grind
 refine ⟨hi,?_⟩
 obtain ⟨q,p,a1,a2,a3,a4,e⟩:=g.2
 have e':=(Mc hr a2 a4).mp e
 have l1:=lo p a3 a4
 have l2:=hi q a1 0#c
 exact ⟨q,p,a1,a2,a3,a4,by grind,by grind⟩
theorem ES (mJ:0≤β) (hr:rising ss) (g:SF ss (2*β) fl ro S) (hL:Wc ss (2*β) fl ro S) (lo:∀i,fl≤i→i<ss.length→cV ss S i-β≤f) (ex:∃i,fl≤i∧i<ss.length∧cV ss S i-β=f) :
 (∀i,ro≤i→i<ss.length→f≤cV ss S i+β)∧∃q p,fl≤q∧q<p∧ro≤p∧p<ss.length∧cV ss S q-β=f∧cV ss S p+β=f:=by
 obtain ⟨b,hb,lb,eb⟩:=ex
 have hi:∀i,ro≤i→i<ss.length→f≤cV ss S i+β:=λi h l=>by
  have:=Pz 0#O hr hL g.1 h hb l lb
  grind
 refine ⟨hi,?_⟩
 obtain ⟨q,p,a1,a2,a3,a4,e⟩:=g.2
 have e':=(Gy hr a2 a4).mp e
 have l1:=lo q a1 0#c
 have l2:=hi p a3 a4
 exact ⟨q,p,a1,a2,a3,a4,by grind,by grind⟩
theorem NY {es:List En} (h:(es.drop j)[i]?=some x):es[j+i]?=some x:=by rw [← nW];exact h
theorem Ad (h1:lo≤q) (h2:q<es.length) (e:cV es T q-f=l):∃a x,lo≤a∧a≤q∧es[a]?=some x∧((es.drop lo).filter (QB T f l))[0]?=some x∧cV es T a-f=l:=by
 have gq:(es.drop lo)[q-lo]?=some es[q]:=by rw [nW,show lo+(q-lo)=q by simp?,mC h2]
 have pq:QB T f l es[q]=true:=(vC (mC h2)).mpr e
 obtain ⟨a,x,g,px,e0,hn⟩:=Jg (QB T f l) (es.drop lo) ⟨_,lP gq,pq⟩
 have g':=NY g
 refine ⟨lo+a,x,by simp?,?_,g',e0,(vC g').mp px⟩
 by_cases z:q-lo<a
 ·have:=hn _ _ z gq
  rw [pq] at this
  cases this
 ·simp?
theorem Dw (h1:lo≤q) (h2:q<es.length) (e:cV es T q-f=l):∃a x,q≤a∧a<es.length∧es[a]?=some x∧((es.drop lo).filter (QB T f l))[((es.drop lo).filter (QB T f l)).length-1]?=some x∧cV es T a-f=l∧∀i,a<i→i<es.length→cV es T i-f≠l:=by
 have gq:(es.drop lo)[q-lo]?=some es[q]:=by rw [nW,show lo+(q-lo)=q by simp?,mC h2]
 have pq:QB T f l es[q]=true:=(vC (mC h2)).mpr e
 obtain ⟨a,x,g,px,e0,hn⟩:=Ol (QB T f l) (es.drop lo) ⟨_,lP gq,pq⟩
 have g':=NY g
 refine ⟨lo+a,x,?_,(lS.mp g').1,g',e0,(vC g').mp px,λi hi hl ei=>?_⟩
 ·by_cases z:a<q-lo
  ·have:=hn _ _ z gq
   rw [pq] at this
   cases this
  ·simp?
 ·have gi:(es.drop lo)[i-lo]?=some es[i]:=by rw [nW,show lo+(i-lo)=i by simp?,mC hl]
  have:=hn (i-lo) _ 0#c gi
  rw [(vC (mC hl)).mpr ei] at this
  cases this
theorem F5 (h:es[es.length-1]?=some x):qV (vals es) (-1)=some (.ref x.1):=by
 have hl:=(lS.mp h).1
 unfold qV
 rw [aN,qu (m:=es.length-1) 0#d]
 exact xP h
theorem Bh (h:es[0]?=some x):qV (vals es) 0=some (.ref x.1):=gW (j:=0) (xP h)
theorem xh (h:rising ss) (hm:∀i,i<ss.length→mo ss i<m):rising 0#F:=CP h hm
theorem BD.next (h:BD ss fl ro β g s) (mJ:0≤β) (hm:∀i,i<ss.length→mo ss i<m) (gG:GF 0#F (2*β) fl ro G') (sS:SF 0#F (2*β) fl ro S')
 (n1:¬ ∃G S,g=some G∧some S'=some S∧S<G) (n2:¬ ∃G S,some G'=some G∧s=some S∧S<G):BD 0#F fl ro β (some G') (some S')∧F3 ss β fl ro g s m q:=by
 have hr:=xh (x:=x) (q:=q) h.Er hm
 have k1:∀G,g=some G→G≤S':=λG e=>jz.mp λz=>n1 ⟨G,S',e,rfl,z⟩
 have k2:∀S,s=some S→G'≤S:=λS e=>jz.mp λz=>n2 ⟨G',S,rfl,e,z⟩
 have hfl:=h.hfl
 have z5:=h.z5
 refine ⟨⟨pF h.all,hr,by rw [iM];simp?,by rw [iM];simp?,λ_=>by rw [iM];simp?,gG,sS,?_,h.df⟩,λG e i hi hl=>?_,λS e i hi hl=>?_⟩
 ·intro G S e1 e2
  cases e1
  cases e2
  refine Wj 0#O hr gG sS (λi j a b c d=>?_) (λi j a b c d=>?_)
  ·have go:=h.go
   cases hg:g with
   | none=>rw [hg] at go;exact absurd d (go i j a b c)
   | some G0=>rw [hg] at go;exact pU (go.1 i j a b c d) (k1 G0 hg)
  ·have so:=h.so
   cases hs:s with
   | none=>rw [hs] at so;exact absurd d (so i j a b c)
   | some S0=>rw [hs] at so;exact pU (k2 S0 hs) (so.1 i j a b c d)
 ·refine jz.mp λz=>?_
  exact absurd ((Gb hr sS (h.hiG e).2 z5).mpr ⟨i,hi,hl,z⟩) (jz.mpr (k1 G e))
 ·refine jz.mp λz=>?_
  exact absurd ((NU hr gG (h.loS e).2 hfl).mpr ⟨i,hi,hl,z⟩) (jz.mpr (k2 S e))
section
theorem HR:aE ["self","bound"] ["self","bound"] (ah sM):=0#a
theorem GW (F:cR K "__init__" "Bend.__init__" sM f fd) (aP:Cl K mg "Bend" aD ["bound","twice","below","above","gentlest","steepest"]) (ql:Dn P w K mg base 5 "plus" ["one","other"] (qO (·+·) 1)):bf P w K mg base cY 6 f fd ["self","bound"] (By aD):=by
 refine F.ok HR 0#e 0#b
 ·obtain ⟨p,dx,pb,β,n,rfl,_⟩:=h
  rfl
 obtain ⟨p,dx,pb,β,n,rfl,hp,hb,hn,k⟩:=h
 have lp:∀(f:Str) (v:V) (fs:List (Str×V)),fs.length≤(aC f v fs).length:=by
  intro f v fs
  induction fs with
  | nil=>exact mD _
  | cons x r ih=>
    obtain ⟨g,y⟩:=x
    unfold aC
    split
    ·exact dG _
    ·exact xS ih
 have Fp:∀{H H':Hp} {fs:List (Str×V)} {b:av} {xs:List V},Kp (·=p) H H'→H p=some (.ins aD dx fs)→H b=some 0#q→H' b=some 0#q:=λh hp e=>h _ _ (λz=>by rw [z,hp] at e;cases e) e
 refine bG ⟨_,(aq (iG K 0#j 0#p) (aq (iG K 0#j (bY ql hr 0#p 0#p)) (aq (iG K 0#j (dI dX)) (aq (iG K 0#j (dI dX)) (aq (iG K 0#j dN) (aH (iG K 0#j dN))))))),?_⟩
 rw?
 refine z9 aP hp (by show 0<1000;decide) ?_
 have k1:Kp (·=p) H (upd H p (.ins aD dx (aC "bound" (.ref pb) []))):=(Kp.of 0#x).upd rfl
 have hb1:=hb.tv (Fp k1 hp)
 have hp1:upd H p (.ins aD dx (aC "bound" (.ref pb) [])) p=some (.ins aD dx (aC "bound" (.ref pb) [])):=aB
 generalize upd H p (.ins aD dx (aC "bound" (.ref pb) []))=H1 at *
 rw?
 refine ⟨pb,pb,β,β,n,n,rfl,hb1.qt,hb1.qt,by try?,λtw H2 s2 f2=>?_⟩
 have k2:=k1.sm s2
 have hp2:=s2 _ _ hp1
 have hb2:=hb1.up s2
 rw?
 have F6:=λLb La=>(Fb.init pb tw Lb La .bM .bM).len
 refine z9 aP hp2 (by have:=F6 pb pb;have:=lp "twice" (.ref tw) (aC "bound" (.ref pb) []);have:(aC "bound" (.ref pb) ([]:List (Str×V))).length=1:=rfl;try?) ?_
 have k3:Kp (·=p) H (upd H2 p (.ins aD dx 0#w)):=k2.upd rfl
 have k23:Kp (·=p) H2 (upd H2 p (.ins aD dx 0#w)):=(Kp.of 0#x).upd rfl
 have hb3:=hb2.tv (Fp k23 hp2)
 have f3:=f2.tv (Fp k23 hp2)
 have hp3:upd H2 p (.ins aD dx 0#w) p=some (.ins aD dx 0#w):=aB
 generalize upd H2 p (.ins aD dx 0#w)=H3 at *
 rw?
 refine aF (mk:=.lst) 0#f λLb H4 s4 n4 e4=>?_
 have k4:=k3.sm s4
 have hp4:=s4 _ _ hp3
 have nb0:H Lb=none:=by
  cases g:H Lb with
  | none=>rfl
  | some o=>
    by_cases z:Lb=p
    ·rw [z,hp3] at n4;cases n4
    ·rw [k3 _ _ z g] at n4;cases n4
 have S5:Lb≠p:=λz=>by rw [z,hp3] at n4;cases n4
 rw?
 refine z9 aP hp4 (by have z1:=OA "twice" (.ref tw) (aC "bound" (.ref pb) []);have z2:(aC "bound" (.ref pb) ([]:List (Str×V))).length=1:=rfl;try?) ?_
 have k45:Kp (·=p) H4 (upd H4 p (.ins aD dx (aC "below" (.ref Lb) 0#w))):=(Kp.of 0#x).upd rfl
 have hb5:=(hb3.up s4).tv (Fp k45 hp4)
 have f5:=(f3.up s4).tv (Fp k45 hp4)
 have e5:=k45 _ _ S5 e4
 have k5:=k4.trans k45
 have hp5:upd H4 p (.ins aD dx (aC "below" (.ref Lb) 0#w)) p=some (.ins aD dx (aC "below" (.ref Lb) 0#w)):=aB
 generalize upd H4 p (.ins aD dx (aC "below" (.ref Lb) 0#w))=H5 at *
 rw?
 refine aF (mk:=.lst) 0#f λLa H6 s6 n6 e6=>?_
 have k6:=k5.sm s6
 have hp6:=s6 _ _ hp5
 have na0:H La=none:=by
  cases g:H La with
  | none=>rfl
  | some o=>
    by_cases z:La=p
    ·rw [z,hp5] at n6;cases n6
    ·rw [k5 _ _ z g] at n6;cases n6
 have nMp:La≠p:=λz=>by rw [z,hp5] at n6;cases n6
 have ne:Lb≠La:=λz=>by rw [← z,e5] at n6;cases n6
 have F:=Fb.init pb tw Lb La .bM .bM
 have l0:=F.len
 have l1:=lp "steepest" .bM (aC "gentlest" .bM (aC "above" (.ref La) (aC "below" (.ref Lb) 0#w)))
 have l2:=lp "gentlest" .bM (aC "above" (.ref La) (aC "below" (.ref Lb) 0#w))
 have l3:=lp "above" (.ref La) (aC "below" (.ref Lb) 0#w)
 rw?
 refine z9 aP hp6 0#d ?_
 rw?
 refine z9 aP aB 0#d ?_
 rw?
 refine z9 aP aB 0#d ?_
 rw?
 rw [qS,qS]
 have k67:Kp (·=p) H6 (upd H6 p (.ins aD dx (aC "steepest" .bM (aC "gentlest" .bM (aC "above" (.ref La) (aC "below" (.ref Lb) 0#w)))))):=(Kp.of 0#x).upd rfl
 have k7:=k6.trans k67
 refine k Lb La _ 0 (λb o e=>?_) nb0 na0 ⟨dx,pb,tw,_,.bM,.bM,aB,F,k67 _ _ S5 (s6 _ _ e5),k67 _ _ nMp e6,ne,λx hx=>absurd hx 0#f,(hb5.up s6).tv (Fp k67 hp6),?_,rfl,rfl,⟨λx hx=>absurd hx 0#f,List.Pairwise.nil,dG _,dG _,λz=>absurd z 0#f,λq p _ _ _ z=>absurd z 0#f,λq p _ _ _ z=>absurd z 0#f,λ_ _ e=>(by cases e),λ_=>rfl⟩⟩
 ·by_cases hb':b=p
  ·rw [hb'] at e
   unfold rm at e
   rw [if_pos rfl] at e
   cases e
  ·rw [nC hb'] at e
   exact k7 _ _ hb' e
 ·have:=((f5.up s6).tv (Fp k67 hp6)).qt
  have e2':(2*β:Rat)=β+β:=by grind
  rw [e2']
  exact this.mono 0#d
theorem in_of {rs:Qs} (hm:rs.map (·.2)=(fM N).map h):(∀i,i<N→∃x∈rs,x.2=h i)∧(∀x∈rs,∃i,i<N∧h i=x.2):=by
 constructor
 ·intro i hi
  have:h i∈rs.map (·.2):=by rw [hm];exact gD.mpr ⟨i,rH.mpr hi,rfl⟩
  obtain ⟨x,hx,e⟩:=gD.mp this
  exact ⟨x,hx,e⟩
 ·intro x hx
  have:x.2∈rs.map (·.2):=gD.mpr ⟨x,hx,rfl⟩
  rw [hm] at this
  obtain ⟨i,hi,e⟩:=gD.mp this
  exact ⟨i,rH.mp hi,e⟩
theorem d8 (h:ia es):ia (es.drop j):=λx hx=>h x (KL hx)
theorem gw (h:Row H es n):Row H (es.drop j) n:=λx hx=>h x (KL hx)
theorem Yc:Sz n 0:=Vp n
theorem lN:aE ["self","steep","told","lows"] ["self","steep"] (ah nG):=0#a
theorem AL (F:cR K "line_of" "Bend.line_of" nG f fd) (aP:Cl K mg "Bend" aD ["bound","twice","below","above","gentlest","steepest"]) (bH:Dn P w K mg base 4 "reduced" ["quotient"] gB) (cC:Dn P w K mg base 3 "loose_along" ["steep","sample","moment"] pO) (aS:Dn P w K mg base 1 "loose_minus" ["one","other"] (iH (·-·) 1)) (c9:Dn P w K mg base 2 "greatest" ["quotients"] uz):bf P w K mg base cY 5 f fd ["self","steep"] (tO aD):=by
 refine F.ok lN 0#e 0#b
 ·obtain ⟨p,Lb,La,pt,ss,fl,ro,β,T,n,nb,g,s,rfl,_⟩:=h
  rfl
 obtain ⟨p,Lb,La,pt,ss,fl,ro,β,T,n,nb,g,s',rfl,⟨dx,bd,tw,fs,gv,sv,hB⟩,ht,h0,kJ,hn,hnb,k⟩:=h
 have hlt:=(hB.P.lt h0).1
 have ld:(ss.drop fl).length=ss.length-fl:=iX ..
 refine bG ⟨_,(aq (mZ (i:=2) lN.nd rfl (Or.inr rfl) (Jd.c1 bH hr 0#p) (hs:=eF)) (aq (rf (O:=["sample"]) (N':=["told","self" ]) (cap:=[2,0]) (i:=3) lN.nd rfl 0#k rfl (dB K 0#P) (λ_ _ _ _ _=>(bX (i:=0) (show jd [("sample":Str),("told":Str),("self":Str)] by decide +kernel) rfl 0#k)) 1#d (λ_ _ _ _ _=>(fY aS 0#z rfl (cG (fY cC 0#z rfl (cG 0#p (cG 0#j (cG aA dX jy) bw) bw) (he:=bw) (hpl:=(cu bw (cu jy cg)))) (cG (fh K 0#s) dX) Bb) (he:=Bb) (hpl:=(cu (by rfl) cg)))) rfl ⟨⟨rfl,rfl,rfl,rfl⟩,0#u⟩ rfl 0#g rfl 0#g (by rfl)) (aH (aV (bJ (bq 0#s (Jd.c1 bH hr (Jd.c1 c9 hr 0#E)))))))),?_⟩
 rw?
 refine ⟨pt,T,_,rfl,ht,by try?,λto H1 s1 f1=>?_⟩
 rw?
 refine iD ?_
 rw?
 refine jU aP (s1 _ _ hB.at_) hB.F.bl ?_
 refine ⟨Lb,rfl,⟨_,aX.of (s1 _ _ hB.eb)⟩,?_⟩
 refine cF (xs:=vals (ss.drop fl)) bZ (λH3 s3=>aX.of (s3 _ _ (s1 _ _ hB.eb))) (by rw [aN];try?) (λi ys G'=>∃rs:Qs,ys=cX rs∧wc G' rs (5*n+3*nb+7)∧rs.map (·.2)=(fM i).map (λj=>cV (ss.drop fl) T j-β)) ⟨[],rfl,λz hz=>absurd hz 0#f,rfl⟩ ?_ ?_
 ·rintro D i v ys H3 jV N N0 h0' hD eD s3 hv hy ⟨rs,rfl,hrs,hmap⟩ kY kN
  obtain ⟨e,he,rfl⟩:=gI hv
  have hi:i<(ss.drop fl).length:=(lS.mp he).1
  obtain ⟨xi,gi,fi⟩:=cT (gw (hB.row.up (s1.trans s3))) (d8 hB.P.all) hi
  rw [he] at gi
  cases gi
  refine fO h0' ?_
  rw?
  refine cB ?_
  rw?
  refine ⟨to,e.1,T,_,_,0,_,n,rfl,(f1.up s3).qt,fi,Yc,by try?,by try?,λx H4 s4 f4=>?_⟩
  rw?
  refine jU aP ((s1.trans 0#S) _ _ hB.at_) hB.F.bd ?_
  rw?
  refine ⟨x,bd,_,β,_,nb,rfl,f4,(hB.V1.up (s1.trans 0#S)).qt,by try?,λx5 H5 s5 f5=>?_⟩
  refine kY _ H5 0#R ⟨rs++[(x5,cV (ss.drop fl) T i-β)],by simp [cX],λy hy'=>?_,?_⟩
  ·rcases dg.mp hy' with w | w
   ·exact (hrs y w).up (rj 0#R)
   ·obtain rfl:y=(x5,cV (ss.drop fl) T i-β):=by simpa using w
    have e1:wo (ss.drop fl) i+T*((0-mo (ss.drop fl) i:Int):Rat)-β=cV (ss.drop fl) T i-β:=by
     unfold cV
     rw [oh]
     grind
    have f5:bS H5 x5 (wo (ss.drop fl) i+T*((0-mo (ss.drop fl) i:Int):Rat)-β) _:=f5
    rw [e1] at f5
    obtain ⟨t,d,e',ff⟩:=f5.mono (show 3*n+(2*nb+1)+3+2*n+2+nb+1≤5*n+3*nb+7 by try?)
    exact ⟨t,d,dY (0#R _ _ eD) e',ff⟩
  ·rw [iI,hmap,vY,iI]
   rfl
 rintro D ys H3 hD eD s3 hy ⟨rs,rfl,hrs,hmap⟩
 rw [aN] at hmap
 have hlen:rs.length=(ss.drop fl).length:=by
  have:=congrArg tY hmap
  simpa using this
 obtain ⟨inR,Tc⟩:=in_of hmap
 rw?
 refine ⟨D,rs,5*n+3*nb+7,rfl,eD,λx hx=>(hrs x hx).up gH,by try?,by try?,λmx Rb uG=>?_⟩
 rw?
 refine ⟨mx.1,mx.2,_,rfl,(hrs mx Rb).up gH,by try?,λr4 H4 s4 f4=>?_⟩
 rw?
 refine aF (mk:=.tup) 0#f λy H5 s5 n5 e5=>?_
 refine k y mx.2 H5 (s1.trans (s3.trans 0#R)) ⟨to,r4,e5,(f1.up (s3.trans 0#R)).mono 0#d,f4.up s5⟩ (λi hi hl=>?_) ?_
 ·obtain ⟨x,hx,e⟩:=inR (i-fl) 0#d
  have:=uG x hx
  rw [e,JK,show fl+(i-fl)=i by try?] at this
  exact this
 ·obtain ⟨i,hi,e⟩:=Tc mx Rb
  exact ⟨fl+i,by try?,by try?,by rw [← JK];exact e⟩
theorem fK:aE ["self","sample","line","first","mid"] ["self","sample"] (ah iO):=0#a
theorem sA (F:cR K "ended_in_cap" "Bend.ended_in_cap" iO f fd) (aP:Cl K mg "Bend" aD ["bound","twice","below","above","gentlest","steepest"]) (cL:Dm P w K mg base 5 aD "line_of" ["self","steep"] (tO aD)) (ji:Dn P w K mg base 5 "touched" ["samples","line","lift"] uC) (j3:Dn P w K mg base 1 "opposite" ["one"] OE) (cQ:Dn P w K mg base 4 "steepest_with" ["known","earlier","sample","twice"] xJ):bf P w K mg base cY 6 f fd ["self","sample"] (UG aD):=by
 refine F.ok fK 0#e 0#b
 ·obtain ⟨p,Lb,La,x,ss,fl,ro,m,q,β,G,n,nb,s,rfl,_⟩:=h
  rfl
 obtain ⟨p,Lb,La,x,ss,fl,ro,m,q,β,G,n,nb,s',rfl,⟨dx,bd,tw,fs,gv,sv,hB⟩,hx,hm,kJ,h1,hn,hnb,mJ,hoff,k⟩:=h
 have h0:0<ss.length:=by obtain ⟨i,_,hi,_⟩:=hoff;try?
 obtain ⟨hfl,z5⟩:=hB.P.lt h0
 obtain ⟨pg,rfl,fg⟩:=id hB.G
 obtain ⟨gG,hG⟩:=hB.P.hiG rfl
 have Er:=hB.P.Er
 refine bG ⟨_,(aq (aK 2 fK.nd (Jd.wW cL aP.cl 0#z 0#j (dD 0#P) (he:=(by rfl)) (hpl:=cg))) (aq (aK 3 fK.nd (Jd.iL K (Jd.c3 ji hr 0#P 0#s (Jd.c1 j3 hr 0#P)))) (aq (mZ (i:=4) fK.nd rfl (Or.inr rfl) (bB 0#Z (Jd.c3 ji hr 0#P 0#s 0#P) (fR cZ aA) 0#h) (hs:=QV)) (aq (iG K 0#j (oz (O:=["other"]) (N':=["mid"]) (cap:=[4]) rfl (dB K 0#P) (λ_ _ _ _ _=>(bX (i:=0) (show jd [("other":Str),("mid":Str)] by decide +kernel) rfl 0#k)) (λ_ _ _ _ _=>(wH (bC Tz (bB (D9 K) 0#j aA 0#h) (bB (D9 K) 0#p aA 0#h) 0#J))) (λ_ _ _ _ _=>0#j) rfl 0#u rfl 0#g rfl 0#g)) (aq (iG K 0#j (fY cQ 0#z rfl (Jd.a4 dN 0#P 0#p 0#P) (he:=jy) (hpl:=(cu (by rfl) (cu bw (cu (by rfl) cg)))))) (aq (iG K 0#j dN) (aq (eO (gM K 0#P 0#p) (hs:=eF)) (aq (iG K 0#j (dI (dD 0#p))) (aH (aV (bJ (bq 0#s (bJ (Jd.a3 (aJ K 0#E) (aJ K 0#X) 0#Q)))))))))))))),?_⟩
 rw?
 refine Rh hB.at_ (hB.F.yy "line_of") ?_
 rw?
 refine jU aP hB.at_ hB.F.g ?_
 rw?
 refine ⟨p,Lb,La,pg,ss,fl,ro,β,G,n,nb,some G,s',rfl,⟨dx,bd,tw,fs,_,sv,hB⟩,fg,h0,kJ,hn,hnb,λln fo H1 s1 f1 lo ex=>?_⟩
 obtain ⟨hi,q0,p0,a1,a2,a3,a4,eq0,ep0⟩:=EN mJ Er gG hG lo ex
 have vt:=hB.up s1
 rw?
 refine jU aP vt.at_ hB.F.ab ?_
 rw?
 refine jU aP vt.at_ hB.F.bd ?_
 rw?
 refine ⟨bd,β,nb,rfl,vt.V1.qt,λob H2 s2 f2=>?_⟩
 have hB2:=vt.up s2
 rw?
 refine ⟨La,ln,ob,ss.drop ro,G,fo,-β,n,_,nb,rfl,hB2.ea,gw hB2.row,d8 hB.P.all,f1.OH s2,f2,h1,by try?,by try?,by try?,by rw [iX];try?,λR3 H3 s3 n3 e3=>?_⟩
 have EY:=hB2.up s3
 obtain ⟨a,xa,b1,b2,ga,g0,ea⟩:=Ad (l:=-β) (f:=fo) a1 0#d (show cV ss G q0-fo=-β by grind)
 obtain ⟨xa',ga',fa⟩:=cT (EY.row) hB.P.all (show a<ss.length by try?)
 rw [ga] at ga'
 cases ga'
 rw?
 refine cK e3 (Bh g0) ?_
 rw?
 refine jU aP EY.at_ hB.F.bl ?_
 rw?
 refine jU aP EY.at_ hB.F.bd ?_
 rw?
 refine ⟨Lb,ln,bd,ss.drop fl,G,fo,β,n,_,nb,rfl,EY.eb,gw EY.row,d8 hB.P.all,f1.OH (s2.trans s3),EY.V1.qt,h1,by try?,by try?,by try?,by rw [iX];try?,λR4 H4 s4 n4 e4=>?_⟩
 have EZ:=EY.up s4
 have yg:=s1.trans (s2.trans 0#S)
 obtain ⟨b,xb,c1,c2,gb,g1,eb,fb⟩:=Dw (l:=β) (f:=fo) a3 a4 (show cV ss G p0-fo=β by grind)
 obtain ⟨xb',gb',fxb⟩:=cT EZ.row hB.P.all c2
 rw [gb] at gb'
 cases gb'
 obtain ⟨vb,evb,_⟩:=id fxb
 obtain ⟨va,eva,_⟩:=id (fa.up s4)
 have mb:xb.2.1=mo ss b:=by unfold mo;rw [gb];rfl
 have gdb:(ss.drop fl)[b-fl]?=some xb:=by rw [nW,show fl+(b-fl)=b by try?];exact gb
 have edb:(ss.drop fl).filter (λy=>decide (xb.2.1≤y.2.1))=ss.drop b:=by
  rw [NZ (zX Er) gdb,Z7,show fl+(b-fl)=b by try?]
 rw?
 refine cK e4 (F5 g1) ?_
 rw?
 refine iD ?_
 rw?
 refine jU aP EZ.at_ hB.F.bl ?_
 refine ⟨Lb,rfl,⟨_,aX.of EZ.eb⟩,?_⟩
 refine cF (xs:=vals (ss.drop fl)) bZ (λH5 s5=>aX.of (s5 _ _ EZ.eb)) (by rw [aN,iX];try?) (λi ys _=>ys=vals (((ss.drop fl).take i).filter (λy=>decide (xb.2.1≤y.2.1)))) rfl ?_ ?_
 ·rintro D i v ys H5 jV N N0 h0' hD eD s5 hv hy rfl kY kN
  obtain ⟨e,he,rfl⟩:=gI hv
  have hi:i<(ss.drop fl).length:=(lS.mp he).1
  obtain ⟨xi,gi,⟨vi,ei,_⟩⟩:=cT (gw (EZ.row.up s5)) (d8 hB.P.all) hi
  rw [he] at gi
  cases gi
  have me:mo (ss.drop fl) i=e.2.1:=by unfold mo;rw [he];rfl
  have ts:=K9 (λy:En=>decide (xb.2.1≤y.2.1)) (ss.drop fl) i e he
  have afu:=s5 _ _ evb
  refine fO h0' ?_
  rw?
  cases hs:decide (xb.2.1≤e.2.1) with
  | true=>
    rw [hs,if_pos rfl] at ts
    have hs':=jw hs
    rw [show decide (mo ss b≤mo (ss.drop fl) i)=true from jb (by rw [me,← mb];exact hs')]
    refine cB ?_
    rw?
    exact kY _ H5 0#x (by rw [ts,← fu])
  | false=>
    rw [hs,if_neg dW,vX] at ts
    have hs':=gY hs
    rw [show decide (mo ss b≤mo (ss.drop fl) i)=false from rG (by rw [me,← mb];exact hs')]
    refine bI ?_
    exact kN H5 0#x (by rw [ts])
 rintro D ys H5 hD eD s5 hy rfl
 rw [aN,jR,edb] at eD
 have LD:=EZ.up s5
 have Rj:=yg.trans s5
 have nD:H D=none:=by
  cases g:H D with
  | none=>rfl
  | some o=>rw [yg _ _ g] at hD;cases hD
 have Xf:D≠p:=λz=>by rw [z,hB.at_] at nD;cases nD
 have fl0:=hB.F.len
 rw?
 refine z9 aP LD.at_ 0#d ?_
 have kd:Kp (λb=>b=p) H5 (upd H5 p (.ins aD dx (aC "below" (.ref D) fs))):=(Kp.of 0#x).upd rfl
 have Ww:upd H5 p (.ins aD dx (aC "below" (.ref D) fs)) p=some (.ins aD dx (aC "below" (.ref D) fs)):=aB
 have k6:Kp (λb=>b=p∨b=D) H (upd H5 p (.ins aD dx (aC "below" (.ref D) fs))):=(Kp.of Rj).upd (.inl rfl)
 have eD6:=kd _ _ Xf eD
 have tp:∀{b:av} {xs:List V},H5 b=some 0#q→upd H5 p (.ins aD dx (aC "below" (.ref D) fs)) b=some 0#q:=λe=>kd _ _ (λz=>by rw [z,LD.at_] at e;cases e) e
 have Ue:=(LD.row).tv tp
 have hx6:=((hx.up Rj).en.tv tp).sa
 have Se:=LD.WE.tv tp
 have aa2:=LD.V1.tv tp
 have aa5:=(f1.OH (s2.trans (s3.trans 0#R))).tv tp
 have aaZ:=tp (s5 _ _ eva)
 have aa0:=tp (s5 _ _ evb)
 generalize upd H5 p (.ins aD dx (aC "below" (.ref D) fs))=H6 at *
 have F6:=hB.F.UB (y:=D)
 have l6:=F6.len
 rw?
 refine jU aP Ww F6.bl ?_
 rw?
 refine jU aP Ww F6.tw ?_
 rw?
 have ldb:(ss.drop b).length=ss.length-b:=iX ..
 refine ⟨.bM,D,x,tw,ss.drop b,m,q,2*β,n,2*nb+1,rfl,eD6,gw Ue,d8 hB.P.all,hx6,Se,by try?,by try?,by try?,λi hi=>by rw [oB];exact hm _ 0#d,.inl rfl,λz=>absurd z 0#d,λ_ ps S H7 s7 f7 _ hall hex=>?_⟩
 have sS:SF 0#F (2*β) b ss.length S:=UD (s:=none) (λ_ e=>by cases e) (λ_ i j _ _ z=>by try?) (dG _) hall (by
  rcases hex with z | ⟨pk,e,_⟩
  ·exact .inl z
  ·cases e)
 rw?
 have Ym:=s7 _ _ Ww
 refine z9 aP Ym 0#d ?_
 rw?
 refine z9 aP aB (by rw [gn F6.s];try?) ?_
 rw?
 refine jU aP aB F6.xy.xx.bl ?_
 rw?
 rw [qS]
 have k8:Kp (λb=>b=p∨b=D) H (upd H7 p (.ins aD dx 0#m)):=(k6.sm s7).upd (.inl rfl)
 have ep8:upd H7 p (.ins aD dx 0#m) p=some (.ins aD dx 0#m):=aB
 have k78:Kp (λb=>b=p) H7 (upd H7 p (.ins aD dx 0#m)):=(Kp.of 0#x).upd rfl
 have VY:=k78 _ _ Xf (s7 _ _ eD6)
 have tp8:∀{b:av} {xs:List V},H6 b=some 0#q→upd H7 p (.ins aD dx 0#m) b=some 0#q:=λe=>k78 _ _ (λz=>by rw [z,Ww] at e;cases e) (s7 _ _ e)
 have f8:bS (upd H7 p (.ins aD dx 0#m)) ps S (3*n+(2*nb+1)+3):=f7.tv λ{b xs} e=>k78 _ _ (λz=>by rw [z,Ym] at e;cases e) e
 generalize upd H7 p (.ins aD dx 0#m)=H8 at *
 have F8:=F6.xy (y:=.ref ps) |>.xx (y:=.bM)
 refine ⟨.inl ⟨rfl,_,aX.of VY⟩,?_⟩
 rw?
 refine cJ VY (by rw [aN];exact aO 0#d) ?_
 have k9:Kp (λb=>b=p∨b=D) H (upd H8 D 1#c):=k8.upd (.inr rfl)
 have ep9:upd H8 D 1#c p=some (.ins aD dx 0#m):=by rw [aM (jA Xf)];exact ep8
 have eD9:upd H8 D 1#c D=some (.lst (vals ((ss++[(x,m,some q)]).drop b))):=by
  rw [aB,Q6 0#d,← fu]
 have tp9:∀{b':av} {xs:List V},H8 b'=some 0#q→upd H8 D 1#c b'=some 0#q:=λe=>by rw [aM (λz=>by rw [z,VY] at e;cases e)];exact e
 generalize upd H8 D 1#c=H9 at *
 rw?
 refine aF (mk:=.lst) 0#f λM vf pC yf DV=>?_
 have nM:H M=none:=by
  cases g:H M with
  | none=>rfl
  | some o=>
    by_cases z:M=p
    ·rw [z,ep9] at yf;cases yf
    ·by_cases z2:M=D
     ·rw [z2,eD9] at yf;cases yf
     ·rw [k9 _ _ (λu=>by rcases u with u | u;exact z u;exact z2 u) g] at yf;cases yf
 have nMp:M≠p:=λz=>by rw [z,hB.at_] at nM;cases nM
 have nMD:D≠M:=λz=>by rw [← z,eD9] at yf;cases yf
 rw?
 have l8:=F8.len
 refine z9 aP (pC _ _ ep9) 0#d ?_
 have F11:=F8.UA (y:=M)
 have k11:Kp (λb=>b=p∨b=D) H (upd vf p (.ins aD dx (aC "above" (.ref M) 0#m))):=(k9.sm pC).upd (.inl rfl)
 have aaX:upd vf p (.ins aD dx (aC "above" (.ref M) 0#m)) p=some (.ins aD dx (aC "above" (.ref M) 0#m)):=aB
 have Ce:Kp (λb=>b=p) vf (upd vf p (.ins aD dx (aC "above" (.ref M) 0#m))):=(Kp.of 0#x).upd rfl
 have aaV:=Ce _ _ Xf (pC _ _ eD9)
 have aaW:=Ce _ _ nMp DV
 have UX:∀{b:av} {xs:List V},H9 b=some 0#q→upd vf p (.ins aD dx (aC "above" (.ref M) 0#m)) b=some 0#q:=λe=>Ce _ _ (λz=>by rw [z,ep9] at e;cases e) (pC _ _ e)
 generalize upd vf p (.ins aD dx (aC "above" (.ref M) 0#m))=Lk at *
 have Kr:∀{b:av} {xs:List V},H6 b=some 0#q→Lk b=some 0#q:=λe=>UX (tp9 (tp8 e))
 have acW:=Kr aaZ
 have acX:=Kr aa0
 obtain ⟨vx,evx,_⟩:=id hx6
 have acY:=Kr evx
 rw?
 refine aF (mk:=.tup) 0#f λth H12 s12 n12 e12=>?_
 rw?
 refine aF (mk:=.tup) 0#f λr H13 xo n13 N1=>?_
 have M4:=s12.trans xo
 refine k r ln th D M fo a b (some S) H13 (λb' o e=>?_) ⟨gG,hoff,lo,hi,b1,by grind,by try?,c2,by grind,λi hi hl z=>fb i hi hl 0#O,by try?⟩ N1 ((aa5.tv Kr).OH M4) (xo _ _ e12) ⟨dx,bd,tw,_,.bM,.ref ps,V8.up ⟨aaX,F11,aaV,?_,nMD,?_,aa2.tv Kr,Se.tv Kr,rfl,⟨ps,rfl,(f8.tv λe=>UX (tp9 e))⟩,?_⟩ M4⟩ nD nM
 ·obtain ⟨n1,n2,n3,e⟩:=CS e
  refine M4 _ _ (k11 _ _ (λz=>?_) e)
  rcases z with z | z
  ·exact n1 z
  ·rw [z,nD] at e;cases e
 ·rw [Q6 (dG _),ZQ]
  exact aaW
 ·exact (Ue.tv Kr).snoc (hx6.en.tv Kr)
 ·refine ⟨pF hB.P.all,xh Er hm,by rw [iM];try?,by rw [iM];try?,λ_=>by rw [iM];try?,λi j hi hij _ hj=>?_,sS,λ_ _ e=>(by cases e),λz=>absurd z 0#d⟩
  rw [iM] at hj
  try?
theorem fL:aE ["self","sample","line","first","mid"] ["self","sample"] (ah iP):=0#a
theorem sC (F:cR K "ended_in_cup" "Bend.ended_in_cup" iP f fd) (aP:Cl K mg "Bend" aD ["bound","twice","below","above","gentlest","steepest"]) (cL:Dm P w K mg base 5 aD "line_of" ["self","steep"] (tO aD)) (ji:Dn P w K mg base 5 "touched" ["samples","line","lift"] uC) (j3:Dn P w K mg base 1 "opposite" ["one"] OE) (cO:Dn P w K mg base 4 "gentlest_with" ["known","earlier","sample","twice"] tM):bf P w K mg base cY 6 f fd ["self","sample"] (UH aD):=by
 refine F.ok fL 0#e 0#b
 ·obtain ⟨p,Lb,La,x,ss,fl,ro,m,q,β,G,n,nb,s,rfl,_⟩:=h
  rfl
 obtain ⟨p,Lb,La,x,ss,fl,ro,m,q,β,G,n,nb,s',rfl,⟨dx,bd,tw,fs,gv,sv,hB⟩,hx,hm,kJ,h1,hn,hnb,mJ,hoff,k⟩:=h
 have h0:0<ss.length:=by obtain ⟨i,_,hi,_⟩:=hoff;try?
 obtain ⟨hfl,z5⟩:=hB.P.lt h0
 obtain ⟨pg,rfl,fg⟩:=id hB.S
 obtain ⟨gG,hG⟩:=hB.P.loS rfl
 have Er:=hB.P.Er
 refine bG ⟨_,(aq (aK 2 fL.nd (Jd.wW cL aP.cl 0#z 0#j (dD 0#P) (he:=(by rfl)) (hpl:=cg))) (aq (aK 3 fL.nd (Jd.iL K (Jd.c3 ji hr 0#P 0#s 0#P))) (aq (mZ (i:=4) fL.nd rfl (Or.inr rfl) (bB 0#Z (Jd.c3 ji hr 0#P 0#s (Jd.c1 j3 hr 0#P)) (fR cZ aA) 0#h) (hs:=QV)) (aq (iG K 0#j (oz (O:=["other"]) (N':=["mid"]) (cap:=[4]) rfl (dB K 0#P) (λ_ _ _ _ _=>(bX (i:=0) (show jd [("other":Str),("mid":Str)] by decide +kernel) rfl 0#k)) (λ_ _ _ _ _=>(wH (bC Tz (bB (D9 K) 0#j aA 0#h) (bB (D9 K) 0#p aA 0#h) 0#J))) (λ_ _ _ _ _=>0#j) rfl 0#u rfl 0#g rfl 0#g)) (aq (iG K 0#j (fY cO 0#z rfl (Jd.a4 dN 0#P 0#p 0#P) (he:=jy) (hpl:=(cu (by rfl) (cu bw (cu (by rfl) cg)))))) (aq (iG K 0#j dN) (aq (eO (gM K 0#P 0#p) (hs:=eF)) (aq (iG K 0#j (dI (dD 0#p))) (aH (aV (bJ (bq 0#s (bJ (Jd.a3 (aJ K 0#E) (aJ K 0#X) 0#Q)))))))))))))),?_⟩
 rw?
 refine Rh hB.at_ (hB.F.yy "line_of") ?_
 rw?
 refine jU aP hB.at_ hB.F.s ?_
 rw?
 refine ⟨p,Lb,La,pg,ss,fl,ro,β,G,n,nb,s',some G,rfl,⟨dx,bd,tw,fs,gv,_,hB⟩,fg,h0,kJ,hn,hnb,λln fo H1 s1 f1 lo ex=>?_⟩
 obtain ⟨hi,q0,p0,a1,a2,a3,a4,eq0,ep0⟩:=ES mJ Er gG hG lo ex
 have vt:=hB.up s1
 rw?
 refine jU aP vt.at_ hB.F.bl ?_
 rw?
 refine jU aP vt.at_ hB.F.bd ?_
 rw?
 refine ⟨Lb,ln,bd,ss.drop fl,G,fo,β,n,_,nb,rfl,vt.eb,gw vt.row,d8 hB.P.all,f1,vt.V1.qt,h1,by try?,by try?,by try?,by rw [iX];try?,λR3 H3 s3 n3 e3=>?_⟩
 have EY:=vt.up s3
 obtain ⟨a,xa,b1,b2,ga,g0,ea⟩:=Ad (l:=β) (f:=fo) a1 0#d (show cV ss G q0-fo=β by grind)
 obtain ⟨xa',ga',fa⟩:=cT (EY.row) hB.P.all (show a<ss.length by try?)
 rw [ga] at ga'
 cases ga'
 rw?
 refine cK e3 (Bh g0) ?_
 rw?
 refine jU aP EY.at_ hB.F.ab ?_
 rw?
 refine jU aP EY.at_ hB.F.bd ?_
 rw?
 refine ⟨bd,β,nb,rfl,EY.V1.qt,λob H2 s2 f2=>?_⟩
 have hB2:=EY.up s2
 rw?
 refine ⟨La,ln,ob,ss.drop ro,G,fo,-β,n,_,nb,rfl,hB2.ea,gw hB2.row,d8 hB.P.all,f1.OH (s3.trans s2),f2,h1,by try?,by try?,by try?,by rw [iX];try?,λR4 H4 s4 n4 e4=>?_⟩
 have EZ:=hB2.up s4
 have yg:=s1.trans (s3.trans (s2.trans s4))
 obtain ⟨b,xb,c1,c2,gb,g1,eb,fb⟩:=Dw (l:=-β) (f:=fo) a3 a4 (show cV ss G p0-fo=-β by grind)
 obtain ⟨xb',gb',fxb⟩:=cT EZ.row hB.P.all c2
 rw [gb] at gb'
 cases gb'
 obtain ⟨vb,evb,_⟩:=id fxb
 obtain ⟨va,eva,_⟩:=id (fa.up (s2.trans s4))
 have mb:xb.2.1=mo ss b:=by unfold mo;rw [gb];rfl
 have gdb:(ss.drop ro)[b-ro]?=some xb:=by rw [nW,show ro+(b-ro)=b by try?];exact gb
 have edb:(ss.drop ro).filter (λy=>decide (xb.2.1≤y.2.1))=ss.drop b:=by
  rw [NZ (zX Er) gdb,Z7,show ro+(b-ro)=b by try?]
 rw?
 refine cK e4 (F5 g1) ?_
 rw?
 refine iD ?_
 rw?
 refine jU aP EZ.at_ hB.F.ab ?_
 refine ⟨La,rfl,⟨_,aX.of EZ.ea⟩,?_⟩
 refine cF (xs:=vals (ss.drop ro)) bZ (λH5 s5=>aX.of (s5 _ _ EZ.ea)) (by rw [aN,iX];try?) (λi ys _=>ys=vals (((ss.drop ro).take i).filter (λy=>decide (xb.2.1≤y.2.1)))) rfl ?_ ?_
 ·rintro D i v ys H5 jV N N0 h0' hD eD s5 hv hy rfl kY kN
  obtain ⟨e,he,rfl⟩:=gI hv
  have hi:i<(ss.drop ro).length:=(lS.mp he).1
  obtain ⟨xi,gi,⟨vi,ei,_⟩⟩:=cT (gw (EZ.row.up s5)) (d8 hB.P.all) hi
  rw [he] at gi
  cases gi
  have me:mo (ss.drop ro) i=e.2.1:=by unfold mo;rw [he];rfl
  have ts:=K9 (λy:En=>decide (xb.2.1≤y.2.1)) (ss.drop ro) i e he
  have afu:=s5 _ _ evb
  refine fO h0' ?_
  rw?
  cases hs:decide (xb.2.1≤e.2.1) with
  | true=>
    rw [hs,if_pos rfl] at ts
    have hs':=jw hs
    rw [show decide (mo ss b≤mo (ss.drop ro) i)=true from jb (by rw [me,← mb];exact hs')]
    refine cB ?_
    rw?
    exact kY _ H5 0#x (by rw [ts,← fu])
  | false=>
    rw [hs,if_neg dW,vX] at ts
    have hs':=gY hs
    rw [show decide (mo ss b≤mo (ss.drop ro) i)=false from rG (by rw [me,← mb];exact hs')]
    refine bI ?_
    exact kN H5 0#x (by rw [ts])
 rintro D ys H5 hD eD s5 hy rfl
 rw [aN,jR,edb] at eD
 have LD:=EZ.up s5
 have Rj:=yg.trans s5
 have nD:H D=none:=by
  cases g:H D with
  | none=>rfl
  | some o=>rw [yg _ _ g] at hD;cases hD
 have Xf:D≠p:=λz=>by rw [z,hB.at_] at nD;cases nD
 have fl0:=hB.F.len
 rw?
 refine z9 aP LD.at_ 0#d ?_
 have kd:Kp (λb=>b=p) H5 (upd H5 p (.ins aD dx (aC "above" (.ref D) fs))):=(Kp.of 0#x).upd rfl
 have Ww:upd H5 p (.ins aD dx (aC "above" (.ref D) fs)) p=some (.ins aD dx (aC "above" (.ref D) fs)):=aB
 have k6:Kp (λb=>b=p∨b=D) H (upd H5 p (.ins aD dx (aC "above" (.ref D) fs))):=(Kp.of Rj).upd (.inl rfl)
 have eD6:=kd _ _ Xf eD
 have tp:∀{b:av} {xs:List V},H5 b=some 0#q→upd H5 p (.ins aD dx (aC "above" (.ref D) fs)) b=some 0#q:=λe=>kd _ _ (λz=>by rw [z,LD.at_] at e;cases e) e
 have Ue:=(LD.row).tv tp
 have hx6:=((hx.up Rj).en.tv tp).sa
 have Se:=LD.WE.tv tp
 have aa2:=LD.V1.tv tp
 have aa5:=(f1.OH (s3.trans (s2.trans 0#R))).tv tp
 have aaZ:=tp (s5 _ _ eva)
 have aa0:=tp (s5 _ _ evb)
 generalize upd H5 p (.ins aD dx (aC "above" (.ref D) fs))=H6 at *
 have F6:=hB.F.UA (y:=D)
 have l6:=F6.len
 rw?
 refine jU aP Ww F6.ab ?_
 rw?
 refine jU aP Ww F6.tw ?_
 rw?
 have ldb:(ss.drop b).length=ss.length-b:=iX ..
 refine ⟨.bM,D,x,tw,ss.drop b,m,q,2*β,n,2*nb+1,rfl,eD6,gw Ue,d8 hB.P.all,hx6,Se,by try?,by try?,by try?,λi hi=>by rw [oB];exact hm _ 0#d,.inl rfl,λz=>absurd z 0#d,λ_ ps S H7 s7 f7 _ hall hex=>?_⟩
 have sS:GF 0#F (2*β) ss.length b S:=Sg (g:=none) (λ_ e=>by cases e) (λ_ i j _ _ z=>by try?) (dG _) hall (by
  rcases hex with z | ⟨pk,e,_⟩
  ·exact .inl z
  ·cases e)
 rw?
 have Ym:=s7 _ _ Ww
 refine z9 aP Ym 0#d ?_
 rw?
 refine z9 aP aB (by rw [gn F6.g];try?) ?_
 rw?
 refine jU aP aB F6.xx.xy.ab ?_
 rw?
 rw [qS]
 have k8:Kp (λb=>b=p∨b=D) H (upd H7 p (.ins aD dx 0#l)):=(k6.sm s7).upd (.inl rfl)
 have ep8:upd H7 p (.ins aD dx 0#l) p=some (.ins aD dx 0#l):=aB
 have k78:Kp (λb=>b=p) H7 (upd H7 p (.ins aD dx 0#l)):=(Kp.of 0#x).upd rfl
 have VY:=k78 _ _ Xf (s7 _ _ eD6)
 have tp8:∀{b:av} {xs:List V},H6 b=some 0#q→upd H7 p (.ins aD dx 0#l) b=some 0#q:=λe=>k78 _ _ (λz=>by rw [z,Ww] at e;cases e) (s7 _ _ e)
 have f8:bS (upd H7 p (.ins aD dx 0#l)) ps S (3*n+(2*nb+1)+3):=f7.tv λ{b xs} e=>k78 _ _ (λz=>by rw [z,Ym] at e;cases e) e
 generalize upd H7 p (.ins aD dx 0#l)=H8 at *
 have F8:=F6.xx (y:=.ref ps) |>.xy (y:=.bM)
 refine ⟨.inl ⟨rfl,_,aX.of VY⟩,?_⟩
 rw?
 refine cJ VY (by rw [aN];exact aO 0#d) ?_
 have k9:Kp (λb=>b=p∨b=D) H (upd H8 D 1#c):=k8.upd (.inr rfl)
 have ep9:upd H8 D 1#c p=some (.ins aD dx 0#l):=by rw [aM (jA Xf)];exact ep8
 have eD9:upd H8 D 1#c D=some (.lst (vals ((ss++[(x,m,some q)]).drop b))):=by
  rw [aB,Q6 0#d,← fu]
 have tp9:∀{b':av} {xs:List V},H8 b'=some 0#q→upd H8 D 1#c b'=some 0#q:=λe=>by rw [aM (λz=>by rw [z,VY] at e;cases e)];exact e
 generalize upd H8 D 1#c=H9 at *
 rw?
 refine aF (mk:=.lst) 0#f λM vf pC yf DV=>?_
 have nM:H M=none:=by
  cases g:H M with
  | none=>rfl
  | some o=>
    by_cases z:M=p
    ·rw [z,ep9] at yf;cases yf
    ·by_cases z2:M=D
     ·rw [z2,eD9] at yf;cases yf
     ·rw [k9 _ _ (λu=>by rcases u with u | u;exact z u;exact z2 u) g] at yf;cases yf
 have nMp:M≠p:=λz=>by rw [z,hB.at_] at nM;cases nM
 have nMD:D≠M:=λz=>by rw [← z,eD9] at yf;cases yf
 rw?
 have l8:=F8.len
 refine z9 aP (pC _ _ ep9) 0#d ?_
 have F11:=F8.UB (y:=M)
 have k11:Kp (λb=>b=p∨b=D) H (upd vf p (.ins aD dx (aC "below" (.ref M) 0#l))):=(k9.sm pC).upd (.inl rfl)
 have aaX:upd vf p (.ins aD dx (aC "below" (.ref M) 0#l)) p=some (.ins aD dx (aC "below" (.ref M) 0#l)):=aB
 have Ce:Kp (λb=>b=p) vf (upd vf p (.ins aD dx (aC "below" (.ref M) 0#l))):=(Kp.of 0#x).upd rfl
 have aaV:=Ce _ _ Xf (pC _ _ eD9)
 have aaW:=Ce _ _ nMp DV
 have UX:∀{b:av} {xs:List V},H9 b=some 0#q→upd vf p (.ins aD dx (aC "below" (.ref M) 0#l)) b=some 0#q:=λe=>Ce _ _ (λz=>by rw [z,ep9] at e;cases e) (pC _ _ e)
 generalize upd vf p (.ins aD dx (aC "below" (.ref M) 0#l))=Lk at *
 have Kr:∀{b:av} {xs:List V},H6 b=some 0#q→Lk b=some 0#q:=λe=>UX (tp9 (tp8 e))
 have acW:=Kr aaZ
 have acX:=Kr aa0
 obtain ⟨vx,evx,_⟩:=id hx6
 have acY:=Kr evx
 rw?
 refine aF (mk:=.tup) 0#f λth H12 s12 n12 e12=>?_
 rw?
 refine aF (mk:=.tup) 0#f λr H13 xo n13 N1=>?_
 have M4:=s12.trans xo
 refine k r ln th M D fo a b (some S) H13 (λb' o e=>?_) ⟨gG,hoff,lo,hi,b1,by grind,by try?,c2,by grind,λi hi hl z=>fb i hi hl 0#O,by try?⟩ N1 ((aa5.tv Kr).OH M4) (xo _ _ e12) ⟨dx,bd,tw,_,.ref ps,.bM,V8.up ⟨aaX,F11,?_,aaV,jA nMD,?_,aa2.tv Kr,Se.tv Kr,⟨ps,rfl,(f8.tv λe=>UX (tp9 e))⟩,rfl,?_⟩ M4⟩ nM nD
 ·obtain ⟨n1,n2,n3,e⟩:=CS e
  refine M4 _ _ (k11 _ _ (λz=>?_) e)
  rcases z with z | z
  ·exact n1 z
  ·rw [z,nD] at e;cases e
 ·rw [Q6 (dG _),ZQ]
  exact aaW
 ·exact (Ue.tv Kr).snoc (hx6.en.tv Kr)
 ·refine ⟨pF hB.P.all,xh Er hm,by rw [iM];try?,by rw [iM];try?,λ_=>by rw [iM];try?,sS,λi j hi hij _ hj=>?_,λ_ _ _ e=>(by cases e),λz=>absurd z 0#d⟩
  rw [iM] at hj
  try?
end
theorem BD.adI (h:BD ss fl ro β g s) (h0:ss.length=0):g=none∧s=none:=by
 have go:=h.go
 have so:=h.so
 constructor
 ·cases g with
  | none=>rfl
  | some G=>
    obtain ⟨q,p,_,_,_,z,_⟩:=go.2
    simp?
 ·cases s with
  | none=>rfl
  | some S=>
    obtain ⟨q,p,_,_,_,z,_⟩:=so.2
    simp?
section
theorem qM:aE ["self","sample","gentlest","steepest"] ["self","sample"] (ah sN):=0#a
theorem GX (F:cR K "take" "Bend.take" sN f fd) (aP:Cl K mg "Bend" aD ["bound","twice","below","above","gentlest","steepest"]) (cO:Dn P w K mg base 4 "gentlest_with" ["known","earlier","sample","twice"] tM) (cQ:Dn P w K mg base 4 "steepest_with" ["known","earlier","sample","twice"] xJ) (lU:Dn P w K mg base 2 "is_steeper" ["one","other"] zM)
 (iJ:Dm P w K mg base 6 aD "ended_in_cap" ["self","sample"] (UG aD)) (iK:Dm P w K mg base 6 aD "ended_in_cup" ["self","sample"] (UH aD)):bf P w K mg base cY 7 f fd ["self","sample"] (Nx aD):=by
 refine F.ok qM 0#e 0#b
 ·obtain ⟨p,Lb,La,x,ss,fl,ro,m,q,β,n,nb,g,s,rfl,_⟩:=h
  rfl
 obtain ⟨p,Lb,La,x,ss,fl,ro,m,q,β,n,nb,g,s',rfl,⟨dx,bd,tw,fs,gv,sv,hB⟩,hx,hm,kJ,h1,hn,hnb,mJ,kN,kC,kU⟩:=h
 have fl0:=hB.F.len
 have hfl:=hB.P.hfl
 have z5:=hB.P.z5
 have lda:(ss.drop ro).length=ss.length-ro:=iX ..
 have ldb:(ss.drop fl).length=ss.length-fl:=iX ..
 have nbp:Lb≠p:=λz=>by have:=hB.eb;rw [z,hB.at_] at this;cases this
 have nap:La≠p:=λz=>by have:=hB.ea;rw [z,hB.at_] at this;cases this
  -- the sample is taken
 have stay:∀(gv' sv':V) (g' s2:Option Rat) (H2:Hp),au H H2→OQ H2 gv' (3*n+(2*nb+1)+3) g'→OQ H2 sv' (3*n+(2*nb+1)+3) s2→BD 0#F fl ro β g' s2→F3 ss β fl ro g s' m q →
  Q .bM (upd (upd (upd (upd H2 p (.ins aD dx (aC "gentlest" gv' fs))) p (.ins aD dx (aC "steepest" sv' (aC "gentlest" gv' fs)))) Lb (.lst (vals (ss.drop fl)++[.ref x]))) La (.lst (vals (ss.drop ro)++[.ref x]))):=by
  intro gv' sv' g' s2 H2 fW og os hP hN
  rw [qS]
  have hB2:=hB.up fW
  have kk:Kp (λb=>b=p∨b=Lb∨b=La) H2 (upd (upd (upd H2 p (.ins aD dx (aC "steepest" sv' (aC "gentlest" gv' fs)))) Lb (.lst (vals (ss.drop fl)++[.ref x]))) La (.lst (vals (ss.drop ro)++[.ref x]))):=((((Kp.of 0#x).upd (.inl rfl)).upd (.inr (.inl rfl))).upd (.inr (.inr rfl)))
  have tp:∀{b:av} {xs:List V},H2 b=some 0#q→upd (upd (upd H2 p (.ins aD dx (aC "steepest" sv' (aC "gentlest" gv' fs)))) Lb (.lst (vals (ss.drop fl)++[.ref x]))) La (.lst (vals (ss.drop ro)++[.ref x])) b=some 0#q:=λe=>kk _ _ (λz=>by
   rcases z with z | z | z
   ·rw [z,hB2.at_] at e;cases e
   ·rw [z,hB2.eb] at e;cases e
   ·rw [z,hB2.ea] at e;cases e) e
  refine kN g' s2 _ (λb o e=>?_) hN ⟨dx,bd,tw,_,gv',sv',?_,hB.F.xx.xy,?_,?_,hB.ne,?_,hB2.V1.tv tp,hB2.WE.tv tp,og.tv tp,os.tv tp,hP⟩
  ·obtain ⟨n1,n2,n3,e⟩:=CS e
   exact kk _ _ (λz=>by rcases z with z | z | z;exact n1 z;exact n2 z;exact n3 z) (fW _ _ e)
  ·rw [aM (jA nap),aM (jA nbp),aB]
  ·rw [aM hB.ne,aB,Q6 hfl,← fu]
  ·rw [aB,Q6 z5,← fu]
  ·exact (hB2.row.tv tp).snoc ((hx.up fW).en.tv tp)
 refine bG ⟨_,(aq (aK 2 qM.nd (fY cO 0#z rfl (Jd.a4 0#P 0#P 0#p 0#P) (he:=(by rfl)) (hpl:=(cu (by rfl) (cu bw (cu (by rfl) cg)))))) (aq (aK 3 qM.nd (fY cQ 0#z rfl (Jd.a4 0#P 0#P 0#p 0#P) (he:=(by rfl)) (hpl:=(cu (by rfl) (cu bw (cu (by rfl) cg)))))) (aq (bW (ir (bY lU hr 0#P 0#E)) (aH (aV (Jd.wW iJ aP.cl 0#z 0#j (dD 0#p) (he:=bw) (hpl:=cg)))) cj) (aq (bW (ir (bY lU hr 0#s 0#P)) (aH (aV (Jd.wW iK aP.cl 0#z 0#j (dD 0#p) (he:=bw) (hpl:=cg)))) cj) (aq (iG K 0#j 0#s) (aq (iG K 0#j 0#E) (aq (eO (gM K 0#P 0#p) (hs:=eF)) (aq (eO (gM K 0#P 0#p) (hs:=eF)) (aH (aV dN)))))))))),?_⟩
 rw?
 refine jU aP hB.at_ hB.F.g ?_
 rw?
 refine jU aP hB.at_ hB.F.ab ?_
 rw?
 refine jU aP hB.at_ hB.F.tw ?_
 rw?
 by_cases h0:ss.length=0
 ·obtain ⟨rfl,rfl⟩:=hB.P.adI h0
  obtain rfl:gv=.bM:=hB.G
  obtain rfl:sv=.bM:=hB.S
  refine ⟨.bM,La,x,tw,ss.drop ro,m,q,2*β,n,2*nb+1,rfl,hB.ea,gw hB.row,d8 hB.P.all,hx,hB.WE,by try?,by try?,by try?,λi hi=>by rw [oB];exact hm _ 0#d,.inl rfl,λ_ _ H1 s1=>?_,λz=>absurd z 0#d⟩
  have vt:=hB.up s1
  rw?
  refine jU aP vt.at_ hB.F.s ?_
  rw?
  refine jU aP vt.at_ hB.F.bl ?_
  rw?
  refine jU aP vt.at_ hB.F.tw ?_
  rw?
  refine ⟨.bM,Lb,x,tw,ss.drop fl,m,q,2*β,n,2*nb+1,rfl,vt.eb,gw vt.row,d8 hB.P.all,hx.up s1,vt.WE,by try?,by try?,by try?,λi hi=>by rw [oB];exact hm _ 0#d,.inl rfl,λ_ _ H2 s2=>?_,λz=>absurd z 0#d⟩
  have fW:=s1.trans s2
  have hB2:=hB.up fW
  rw?
  refine jU aP hB2.at_ hB.F.g ?_
  rw?
  refine ⟨.bM,.bM,none,none,0,0,rfl,rfl,rfl,by decide,λr hr'=>?_⟩
  obtain rfl:r=false:=gQ.mpr λz=>by obtain ⟨_,_,e,_⟩:=hr'.mp z;cases e
  rw?
  refine bI ?_
  rw?
  refine jU aP hB2.at_ hB.F.s ?_
  rw?
  refine ⟨.bM,.bM,none,none,0,0,rfl,rfl,rfl,by decide,λr hr2=>?_⟩
  obtain rfl:r=false:=gQ.mpr λz=>by obtain ⟨_,_,e,_⟩:=hr2.mp z;cases e
  rw?
  refine bI ?_
  rw?
  refine z9 aP hB2.at_ 0#d ?_
  rw?
  refine z9 aP aB (by rw [gn hB.F.g];try?) ?_
  rw?
  refine jU aP aB hB.F.xx.xy.bl ?_
  rw?
  have eb4:upd (upd H2 p (.ins aD dx (aC "gentlest" .bM fs))) p (.ins aD dx (aC "steepest" .bM (aC "gentlest" .bM fs))) Lb=some (.lst (vals (ss.drop fl))):=by
   rw [aM nbp,aM nbp]
   exact hB2.eb
  refine ⟨.inl ⟨rfl,_,aX.of eb4⟩,?_⟩
  rw?
  refine cJ eb4 (by rw [aN];exact aO 0#d) ?_
  rw?
  refine jU aP (by rw [aM (jA nbp)];exact aB) hB.F.xx.xy.ab ?_
  rw?
  have ea5:upd (upd (upd H2 p (.ins aD dx (aC "gentlest" .bM fs))) p (.ins aD dx (aC "steepest" .bM (aC "gentlest" .bM fs)))) Lb (.lst (vals (ss.drop fl)++[.ref x])) La=some (.lst (vals (ss.drop ro))):=by
   rw [aM (jA hB.ne),aM nap,aM nap]
   exact hB2.ea
  refine ⟨.inl ⟨rfl,_,aX.of ea5⟩,?_⟩
  rw?
  refine cJ ea5 (by rw [aN];exact aO 0#d) ?_
  rw?
  refine stay .bM .bM none none H2 fW rfl rfl ?_ ⟨λ_ e=>(by cases e),λ_ e=>(by cases e)⟩
  refine ⟨pF hB.P.all,xh hB.P.Er hm,by rw [iM];try?,by rw [iM];try?,λ_=>by rw [iM];try?,λi j _ hij _ hj=>?_,λi j _ hij _ hj=>?_,λ_ _ e=>(by cases e),hB.P.df⟩
  ·rw [iM] at hj
   try?
  ·rw [iM] at hj
   try?
 ·obtain ⟨agJ,agR⟩:=hB.P.lt 0#d
  refine ⟨gv,La,x,tw,ss.drop ro,m,q,2*β,n,2*nb+1,rfl,hB.ea,gw hB.row,d8 hB.P.all,hx,hB.WE,by try?,by try?,by try?,λi hi=>by rw [oB];exact hm _ 0#d,?_,λz=>absurd z 0#d,λ_ pg G1 H1 s1 f1 hK1 ac9 afD=>?_⟩
  ·have hG:=hB.G
   cases g with
   | none=>exact .inl hG
   | some G=>exact let ⟨pk,e,fk⟩:=hG;.inr ⟨by try?,pk,G,e,fk⟩
  have gG:GF 0#F (2*β) fl ro G1:=by
   have hG:=hB.G
   refine Sg (g:=g) (λG0 e=>?_) (λe=>?_) hfl ac9 ?_
   ·rw [e] at hG
    obtain ⟨pk,e',fk⟩:=hG
    exact ⟨(hB.P.hiG e).1,hK1 pk G0 e' fk⟩
   ·have go:=hB.P.go
    rw [e] at go
    exact go
   ·rcases afD with z | ⟨pk,e,fk⟩
    ·exact .inl z
    ·refine .inr ?_
     cases g with
     | none=>rw [show gv=.bM from hG] at e;cases e
     | some G0=>
       obtain ⟨pk',e',fk'⟩:=hG
       rw [e] at e'
       cases e'
       rw [Fe fk fk']
  have vt:=hB.up s1
  rw?
  refine jU aP vt.at_ hB.F.s ?_
  rw?
  refine jU aP vt.at_ hB.F.bl ?_
  rw?
  refine jU aP vt.at_ hB.F.tw ?_
  rw?
  refine ⟨sv,Lb,x,tw,ss.drop fl,m,q,2*β,n,2*nb+1,rfl,vt.eb,gw vt.row,d8 hB.P.all,hx.up s1,vt.WE,by try?,by try?,by try?,λi hi=>by rw [oB];exact hm _ 0#d,?_,λz=>absurd z 0#d,λ_ ps S1 H2 s2 f2 hK2 r9 hex2=>?_⟩
  ·have hS:=vt.S
   cases s' with
   | none=>exact .inl hS
   | some S=>exact let ⟨pk,e,fk⟩:=hS;.inr ⟨by try?,pk,S,e,fk⟩
  have sS:SF 0#F (2*β) fl ro S1:=by
   have hS:=vt.S
   refine UD (s:=s') (λS0 e=>?_) (λe=>?_) z5 r9 ?_
   ·rw [e] at hS
    obtain ⟨pk,e',fk⟩:=hS
    exact ⟨(hB.P.loS e).1,hK2 pk S0 e' fk⟩
   ·have so:=hB.P.so
    rw [e] at so
    exact so
   ·rcases hex2 with z | ⟨pk,e,fk⟩
    ·exact .inl z
    ·refine .inr ?_
     cases s' with
     | none=>rw [show sv=.bM from hS] at e;cases e
     | some S0=>
       obtain ⟨pk',e',fk'⟩:=hS
       rw [e] at e'
       cases e'
       rw [Fe fk fk']
  have fW:=s1.trans s2
  have hB2:=hB.up fW
  have dH:=xh (x:=x) (q:=q) hB.P.Er hm
  rw?
  refine jU aP hB2.at_ hB.F.g ?_
  rw?
  refine ⟨gv,.ref ps,g,some S1,_,_,rfl,hB2.G,⟨ps,rfl,f2⟩,by try?,λr hr1=>?_⟩
  rw?
  refine cD 0#y 0#y
  ·obtain ⟨G,S,rfl,e2,lt⟩:=hr1.mp c
   cases e2
   rw?
   refine Rh hB2.at_ (hB.F.yy "ended_in_cap") ?_
   rw?
   refine ⟨p,Lb,La,x,ss,fl,ro,m,q,β,G,n,nb,s',rfl,⟨dx,bd,tw,fs,gv,sv,hB2⟩,hx.up fW,hm,kJ,h1,hn,hnb,mJ,(Gb dH sS (hB.P.hiG rfl).2 z5).mp lt,λr ln th BK BJ fo a b s2' H' k1 k2 k3 k4 k5 k6 k7 k8=>?_⟩
   refine kC r ln th BK BJ G fo a b s2' H' (λb' o e=>k1 _ _ ?_) rfl k2 k3 k4 k5 k6 (fW.free k7) (fW.free k8)
   obtain ⟨n1,n2,n3,e⟩:=CS e
   rw [vE n1 n2 n3]
   exact fW _ _ e
  ·have nc:¬ ∃G S,g=some G∧some S1=some S∧S<G:=λz=>c (hr1.mpr z)
   have af9:¬ ∃G,g=some G∧∃i,fl≤i∧i<ss.length∧q-G*(m:Rat)+2*β<cV ss G i:=λ⟨G,e,z⟩=>nc ⟨G,S1,e,rfl,(Gb dH sS (hB.P.hiG e).2 z5).mpr z⟩
   rw?
   refine jU aP hB2.at_ hB.F.s ?_
   rw?
   refine ⟨.ref pg,sv,some G1,s',_,_,rfl,⟨pg,rfl,f1.up s2⟩,hB2.S,by try?,λr2 hr2=>?_⟩
   rw?
   refine cD (λc2=>?_) (λc2=>?_)
   ·obtain ⟨G,S,e1,rfl,lt⟩:=hr2.mp c2
    cases e1
    rw?
    refine Rh hB2.at_ (hB.F.yy "ended_in_cup") ?_
    rw?
    refine ⟨p,Lb,La,x,ss,fl,ro,m,q,β,S,n,nb,g,rfl,⟨dx,bd,tw,fs,gv,sv,hB2⟩,hx.up fW,hm,kJ,h1,hn,hnb,mJ,(NU dH gG (hB.P.loS rfl).2 hfl).mp lt,λr ln th BK BJ fo a b s2' H' k1 k2 k3 k4 k5 k6 k7 k8=>?_⟩
    refine kU r ln th BK BJ S fo a b s2' H' (λb' o e=>k1 _ _ ?_) rfl af9 k2 k3 k4 k5 k6 (fW.free k7) (fW.free k8)
    obtain ⟨n1,n2,n3,e⟩:=CS e
    rw [vE n1 n2 n3]
    exact fW _ _ e
   ·have nu:¬ ∃G S,some G1=some G∧s'=some S∧S<G:=λz=>c2 (hr2.mpr z)
    obtain ⟨hP,hN⟩:=hB.P.next mJ hm gG sS nc nu
    rw?
    refine z9 aP hB2.at_ 0#d ?_
    rw?
    refine z9 aP aB (by rw [gn hB.F.g];try?) ?_
    rw?
    refine jU aP aB hB.F.xx.xy.bl ?_
    rw?
    have eb4:upd (upd H2 p (.ins aD dx (aC "gentlest" (.ref pg) fs))) p (.ins aD dx (aC "steepest" (.ref ps) (aC "gentlest" (.ref pg) fs))) Lb=some (.lst (vals (ss.drop fl))):=by
     rw [aM nbp,aM nbp]
     exact hB2.eb
    refine ⟨.inl ⟨rfl,_,aX.of eb4⟩,?_⟩
    rw?
    refine cJ eb4 (by rw [aN];exact aO 0#d) ?_
    rw?
    refine jU aP (by rw [aM (jA nbp)];exact aB) hB.F.xx.xy.ab ?_
    rw?
    have ea5:upd (upd (upd H2 p (.ins aD dx (aC "gentlest" (.ref pg) fs))) p (.ins aD dx (aC "steepest" (.ref ps) (aC "gentlest" (.ref pg) fs)))) Lb (.lst (vals (ss.drop fl)++[.ref x])) La=some (.lst (vals (ss.drop ro))):=by
     rw [aM (jA hB.ne),aM nap,aM nap]
     exact hB2.ea
    refine ⟨.inl ⟨rfl,_,aX.of ea5⟩,?_⟩
    rw?
    refine cJ ea5 (by rw [aN];exact aO 0#d) ?_
    rw?
    exact stay (.ref pg) (.ref ps) (some G1) (some S1) H2 fW ⟨pg,rfl,f1.up s2⟩ ⟨ps,rfl,f2⟩ hP hN
theorem zD:aE ["self"] ["self"] (ah lD):=0#a
theorem yF (F:cR K "line_now" "Bend.line_now" lD f fd) (T:Txt mg) (aP:Cl K mg "Bend" aD ["bound","twice","below","above","gentlest","steepest"]) (jY:Dn P w K mg base 5 "line_by" ["steep","sample"] xC) (cL:Dm P w K mg base 5 aD "line_of" ["self","steep"] (tO aD)):bf P w K mg base cY 6 f fd ["self"] (UK aD):=by
 refine F.ok zD 0#e 0#b
 ·obtain ⟨p,Lb,La,ss,fl,ro,β,n,nb,g,s,rfl,_⟩:=h
  rfl
 obtain ⟨p,Lb,La,ss,fl,ro,β,n,nb,g,s',rfl,⟨dx,bd,tw,fs,gv,sv,hB⟩,kJ,h1,hn,hnb,k0,k1⟩:=h
 have ld:(ss.drop fl).length=ss.length-fl:=iX ..
 refine bG ⟨_,(aq (bW (bC dF (eY K T.eU 0#P) aA 0#J) (aH (aV dN)) cj) (aq (bW (bC jI 0#P dN 0#J) (aH (aV (Jd.wW cL aP.cl 0#z 0#j (dD 0#P) (he:=(by rfl)) (hpl:=cg)))) cj) (aq (bW (bC jI 0#P dN 0#J) (aH (aV (Jd.wW cL aP.cl 0#z 0#j (dD 0#P) (he:=(by rfl)) (hpl:=cg)))) cj) (aH (aV (bY jY hr (bJ (bq aA aA)) (Jd.iL K 0#P))))))),?_⟩
 rw?
 refine jU aP hB.at_ hB.F.bl ?_
 rw?
 refine cy (.inl (aX.of hB.eb)) ?_
 rw [aN]
 rw?
 refine cD 0#y 0#y
 ·have c':=jw c
  rw?
  refine k0 (NH.mp ?_)
  by_cases z:0<ss.length
  ·have:=(hB.P.lt z).1
   try?
  ·try?
 ·have c':=gY (gQ.mpr c)
  have h0:0<ss.length:=by try?
  obtain ⟨hfl,z5⟩:=hB.P.lt h0
  rw?
  refine jU aP hB.at_ hB.F.g ?_
  cases g with
  | some G=>
    obtain ⟨pg,rfl,fg⟩:=id hB.G
    rw?
    refine 0#M
    rw?
    refine cB ?_
    rw?
    refine Rh hB.at_ (hB.F.yy "line_of") ?_
    rw?
    refine jU aP hB.at_ hB.F.g ?_
    rw?
    refine ⟨p,Lb,La,pg,ss,fl,ro,β,G,n,nb,some G,s',rfl,⟨dx,bd,tw,fs,_,sv,hB⟩,fg,h0,kJ,hn,hnb,λln fo H1 s1 f1 lo ex=>?_⟩
    exact k1 h0 ln G fo H1 s1 f1 (.inl ⟨.inl rfl,lo,ex⟩)
  | none=>
    obtain rfl:gv=.bM:=hB.G
    rw?
    refine 0#M
    rw?
    refine bI ?_
    rw?
    refine jU aP hB.at_ hB.F.s ?_
    cases s' with
    | some S=>
      obtain ⟨pg,rfl,fg⟩:=id hB.S
      rw?
      refine 0#M
      rw?
      refine cB ?_
      rw?
      refine Rh hB.at_ (hB.F.yy "line_of") ?_
      rw?
      refine jU aP hB.at_ hB.F.s ?_
      rw?
      refine ⟨p,Lb,La,pg,ss,fl,ro,β,S,n,nb,none,some S,rfl,⟨dx,bd,tw,fs,_,_,hB⟩,fg,h0,kJ,hn,hnb,λln fo H1 s1 f1 lo ex=>?_⟩
      exact k1 h0 ln S fo H1 s1 f1 (.inl ⟨.inr ⟨rfl,rfl⟩,lo,ex⟩)
    | none=>
      obtain rfl:sv=.bM:=hB.S
      rw?
      refine 0#M
      rw?
      refine bI ?_
      rw?
      refine aF (mk:=.tup) 0#f λz1 H1 s1 n1 e1=>?_
      have vt:=hB.up s1
      obtain ⟨xa,ga,fa⟩:=cT vt.row hB.P.all hfl
      rw?
      refine jU aP vt.at_ hB.F.bl ?_
      rw?
      refine cK vt.eb (Bh (x:=xa) (by rw [nW,Pn];exact ga)) ?_
      rw?
      have f0:dz H1 z1 0 1:=⟨0,1,e1,⟨by decide,by decide,by grind⟩,by decide,by decide⟩
      refine ⟨z1,xa.1,0,_,_,1,n,rfl,f0,fa,h1,by try?,λz r' H2 s2 e2 f2=>?_⟩
      refine k1 h0 z 0 (wo ss fl) H2 (s1.trans s2) ⟨z1,r',e2,(f0.up s2).mono 0#d,?_⟩ (.inr ⟨rfl,rfl,rfl,rfl⟩)
      have e3:wo ss fl-0*(mo ss fl:Rat)=wo ss fl:=by grind
      rw [e3] at f2
      exact f2.mono 0#d
end
theorem lT.fresh (h:lT C H p Lb La [] 0 0 β n nb none none):lT C H p Lb La [] 0 0 β n' nb none none:=
 let ⟨dx,bd,tw,fs,gv,sv,h⟩:=h;⟨dx,bd,tw,fs,gv,sv,h.at_,h.F,h.eb,h.ea,h.ne,λx hx=>absurd hx 0#f,h.V1,h.WE,h.G,h.S,h.P⟩
theorem adz (s:au H0 H) (np:H0 p=none) (nb:H0 Lb=none) (na:H0 La=none) (k:au (QJ p Lb La H) H'):au H0 H':=λb o e=>k _ _ (by
 rw [vE (bK e np) (bK e nb) (bK e na)]
 exact s _ _ e)
theorem BD.two (h:BD ss fl ro β g s):(ss.length<2↔g=none∧s=none):=by
 constructor
 ·intro h2
  have go:=h.go
  have so:=h.so
  constructor
  ·cases g with
   | none=>rfl
   | some G=>
     obtain ⟨q,p,_,_,_,z,_⟩:=go.2
     simp?
  ·cases s with
   | none=>rfl
   | some S=>
     obtain ⟨q,p,_,_,_,z,_⟩:=so.2
     simp?
 ·rintro ⟨rfl,rfl⟩
  refine Nat.lt_of_not_le λh2=>?_
  obtain ⟨l1,l2⟩:=h.lt 0#c
  have df:=h.df
  have go:∀q p,ro≤q→q<p→fl≤p→¬p<ss.length:=h.go
  have so:∀q p,fl≤q→q<p→ro≤p→¬p<ss.length:=h.so
  have g1:=go ro (ss.length-1) 0#c
  have s1:=so fl (ss.length-1) 0#c
  by_cases e:ro<ss.length-1
  ·exact g1 e 0#c 0#c
  ·by_cases e2:fl<ss.length-1
   ·exact s1 e2 0#c 0#c
   ·have:=df 0#c
    simp?
theorem aee (hr:rising ss) (hab:a<b) (hbk:b<k) (hk:k<ss.length) (ea:cV ss T a+β=f) (eb:cV ss T b-β=f) (ek:cV ss T k+β<f):2*β<sd ss a b k:=by
 have d1:=i8 hr hab 0#c
 have d2:=i8 hr hbk hk
 have d3:=i8 hr (Ao hab hbk) hk
 unfold cV at ea eb ek
 unfold sd c6
 refine rB.mp λz=>?_
 have z':wo ss b-2*β≤(wo ss a*((mo ss k:Rat)-(mo ss b:Rat))+wo ss k*((mo ss b:Rat)-(mo ss a:Rat)))/((mo ss k:Rat)-(mo ss a:Rat)):=by grind
 rw [l9 d3] at z'
 have l:wo ss k<T*(mo ss k:Rat)+f-β:=by grind
 have:=IB l d1
 have e1:wo ss a=T*(mo ss a:Rat)+f-β:=by grind
 have e2:wo ss b=T*(mo ss b:Rat)+f+β:=by grind
 rw [e1,e2] at z'
 grind
theorem aef (hr:rising ss) (hab:a<b) (hbk:b<k) (hk:k<ss.length) (ea:cV ss T a-β=f) (eb:cV ss T b+β=f) (ek:f<cV ss T k-β):sd ss a b k < -(2*β):=by
 have d1:=i8 hr hab 0#c
 have d2:=i8 hr hbk hk
 have d3:=i8 hr (Ao hab hbk) hk
 unfold cV at ea eb ek
 unfold sd c6
 refine rB.mp λz=>?_
 have z':(wo ss a*((mo ss k:Rat)-(mo ss b:Rat))+wo ss k*((mo ss b:Rat)-(mo ss a:Rat)))/((mo ss k:Rat)-(mo ss a:Rat))≤wo ss b+2*β:=by grind
 rw [oE d3] at z'
 have l:T*(mo ss k:Rat)+f+β<wo ss k:=by grind
 have:=IB l d1
 have e1:wo ss a=T*(mo ss a:Rat)+f+β:=by grind
 have e2:wo ss b=T*(mo ss b:Rat)+f-β:=by grind
 rw [e1,e2] at z'
 grind
inductive Tr (es:List En) (β:Rat):Nat→Nat→Nat→List (Rat×Rat)→List (Bool×Nat×Nat×Nat)→Prop where
 | nil:Tr es β 0 0 0 [] []
 | stay {k fl ro:Nat} {ls:List (Rat×Rat)} {ts:List (Bool×Nat×Nat×Nat)} {g s g' s':Option Rat} (h:Tr es β k fl ro ls ts) (hk:k<es.length) (hP:BD (es.take k) fl ro β g s) (hP':BD (es.take (k+1)) fl ro β g' s') (hN:F3 (es.take k) β fl ro g s (mo es k) (wo es k)):Tr es β (k+1) fl ro ls ts
 | cap {k fl ro a b:Nat} {ls:List (Rat×Rat)} {ts:List (Bool×Nat×Nat×Nat)} {s:Option Rat} {G f:Rat} (h:Tr es β k fl ro ls ts) (hk:k<es.length) (hP:BD (es.take k) fl ro β (some G) s) (hC:EE (es.take k) β fl ro (mo es k) (wo es k) G f a b):Tr es β (k+1) b k (ls++[(G,f)]) (ts++[(true,a,b,k)])
 | cup {k fl ro a b:Nat} {ls:List (Rat×Rat)} {ts:List (Bool×Nat×Nat×Nat)} {g:Option Rat} {S f:Rat} (h:Tr es β k fl ro ls ts) (hk:k<es.length) (hP:BD (es.take k) fl ro β g (some S)) (hn:¬ ∃G,g=some G∧∃i,fl≤i∧i<(es.take k).length∧wo es k-G*(mo es k:Rat)+2*β<cV (es.take k) G i) (hC:EF (es.take k) β fl ro (mo es k) (wo es k) S f a b):Tr es β (k+1) k b (ls++[(S,f)]) (ts++[(false,a,b,k)])
abbrev Ln:=av×Rat×Rat
def kM (ls:List Ln):List V:=ls.map λx=>V.ref x.1
def uY (H:Hp) (ls:List Ln) (n:Nat):Prop:=∀x∈ls,i6 H x.1 x.2.1 x.2.2 n
abbrev Wf:=av×(Bool×Nat×Nat×Nat)
def Ru (H:Hp) (es:List En) (x:Wf):Prop:=H x.1=some (.tup [.int (mo es x.2.2.1),.int (mo es x.2.2.2.1),.int (mo es x.2.2.2.2)])
theorem uY.tv (t:∀{b:av} {xs:List V},H b=some 0#q→H' b=some 0#q) (h:uY H ls n):uY H' ls n:=λx hx=>(h x hx).tv t
theorem uY.snoc (h:uY H ls n) (hx:i6 H x.1 x.2.1 x.2.2 n):uY H (ls++[x]) n:=λy hy=>by
 rcases dg.mp hy with z | z
 ·exact h y z
 ·obtain rfl:y=x:=by simpa using z
  exact hx
theorem kG (e:H L=some (.lst ys))  (h:H b=some 0#q):upd H L (.lst zs) b=some 0#q:=by
 rw [aM (λq=>by rw [q,e] at h;cases h)]
 exact h
theorem lT.app (h:lT C H p Lb La ss fl ro β n nb g s) (e:H L=some (.lst ys)) (n1:L≠Lb) (n2:L≠La):lT C (upd H L (.lst zs)) p Lb La ss fl ro β n nb g s:=by
 obtain ⟨dx,bd,tw,fs,gv,sv,h⟩:=h
 exact ⟨dx,bd,tw,fs,gv,sv,h.mv (λ{b xs} z=>kG e z) (aM (λq=>by have:=h.at_;rw [q,e] at this;cases this)) (aM (jA n1)) (aM (jA n2))⟩
theorem lT.ats (h:lT C H p Lb La ss fl ro β n nb g s):(∃dx fs,H p=some 0#Y∧(fs.lookup ("take":Str)=none∧fs.lookup ("line_now":Str)=none))∧(∃ys,H Lb=some (.lst ys))∧(∃ys,H La=some (.lst ys))∧BD ss fl ro β g s:=
 let ⟨_,_,_,_,_,_,h⟩:=h;⟨⟨_,_,h.at_,h.F.yy "take",h.F.yy "line_now"⟩,⟨_,h.eb⟩,⟨_,h.ea⟩,h.P⟩
theorem take_snoc (hS:ia es) (gx:es[j]?=some x):es.take (j+1)=es.take j++[(x.1,mo es j,some (wo es j))]:=by
 have xe:x=(x.1,mo es j,some (wo es j)):=by
  have:=hS x (lP gx)
  obtain ⟨ax,mx,vx⟩:=x
  unfold mo wo
  rw [gx]
  cases vx with
  | none=>cases this
  | some q=>rfl
 rw [← xe,DE,gx]
 rfl
theorem lZ (h:i<j):mo (es.take j) i=mo es i:=by unfold mo;rw [O0,if_pos h]
theorem BB (h:i<j):wo (es.take j) i=wo es i:=by unfold wo;rw [O0,if_pos h]
theorem gO (h:i<j):cV (es.take j) T i=cV es T i:=by unfold cV;rw [lZ h,BB h]
inductive Ic (C:av) (vs:List V) (H:Hp) (Q:VK) (E_:XK):Prop where
 | mk (l pb:av) (es:List En) (β:Rat) (n nb:Nat):vs=[.ref l,.ref pb]→H l=some 0#A→Row H es n→ia es→rising es→0<es.length→es.length≤800→dz H pb β nb→0≤β→1≤n→n≤1500→(5*n+4*nb≤7900∧nb≤1000)→(∀(y Ll Lt:av) (ls:List Ln) (xO:List Wf) (ks:List (Rat×Rat)) (fl ro:Nat) (g s:Option Rat) (T f:Rat) (H':Hp),au H H'→H' y=some (.tup [.ref Ll,.ref Lt])→H Ll=none→H Lt=none→H' Ll=some (.lst (kM ls))→uY H' ls (5*n+3*nb+7)→ls.map (·.2)=ks++[(T,f)]→H' Lt=some (.lst (xO.map λx=>V.ref x.1))→(∀x∈xO,Ru H' es x)→Tr es β es.length fl ro ks (xO.map (·.2))→BD es fl ro β g s→IS es β fl g s T f→ks.length≤es.length→xO.length≤es.length→Q (.ref y) H')→Ic C vs H Q E_
section
theorem jt:aE ["run","bound","bend","links","threes","sample","ended"] ["run","bound"] (ah vL):=0#a
theorem J3 (F:cR K "links_of" "links_of" vL f fd) (T:Txt mg) (aP:Cl K mg "Bend" aD ["bound","twice","below","above","gentlest","steepest"]) (Lg:Dk P w K mg base 6 "Bend" aD ["self","bound"] (By aD)) (rL:Dm P w K mg base 7 aD "take" ["self","sample"] (Nx aD)) (kW:Dm P w K mg base 6 aD "line_now" ["self"] (UK aD)):bf P w K mg base cY 8 f fd ["run","bound"] (Ic aD):=by
 refine F.ok jt 0#e 0#b
 ·obtain ⟨l,pb,es,β,n,nb,rfl,_⟩:=h
  rfl
 obtain ⟨l,pb,es,β,n,nb,rfl,hl,hR,hS,dH,h0,afw,hb,mJ,h1,hn,hnb,k⟩:=h
 refine bG ⟨_,(aq (aK 2 jt.nd (Jd.TU Lg 0#z rfl (dD 0#p) (he:=bw) (hpl:=cg))) (aq (aK 3 jt.nd (dI dX)) (aq (aK 4 jt.nd (dI dX)) (aq (c7 fQ rfl (dB K 0#j) (bX (i:=5) jt.nd rfl 0#k) (aq (aK 6 jt.nd (Jd.wW rL aP.cl 0#z 0#s (dD (aa 5)) (he:=bw) (hpl:=cg))) (aH (bW (bC jI (aa 6) dN 0#J) (aq (eO (gM K 0#E (aJ K (aa 6))) (hs:=eF)) (aH (eO (gM K 0#X (aJ K (aa 6))) (hs:=eF)))) cj)))) (aq (eO (gM K 0#E (Jd.MJ kW aP.cl 0#z 0#s)) (hs:=eF)) (aH (aV (bJ (bq 0#E 0#X))))))))),?_⟩
 rw?
 intro p dx np ndx agT
 have hp7:upd (upd H dx (.own p)) p (.ins aD dx []) p=some (.ins aD dx []):=aB
 have s7:au H (upd (upd H dx (.own p)) p (.ins aD dx [])):=λb' o e=>by
  rw [aM (bK e np),aM (bK e ndx)]
  exact e
 generalize upd (upd H dx (.own p)) p (.ins aD dx [])=H7 at *
 refine ⟨p,dx,pb,β,nb,rfl,hp7,hb.up s7,by try?,λLb La H8 kk s8 nb8 na8 hB8=>0#M⟩
 have Rk:au H H8:=λb' o e=>s8 _ _ (by rw [nC (bK e np)];exact s7 _ _ e)
 have nb0:H Lb=none:=s7.free nb8
 have na0:H La=none:=s7.free na8
 have hB0:lT aD H8 p Lb La [] 0 0 β n nb none none:=hB8.fresh
 rw?
 refine aF (mk:=.lst) 0#f λLl H9 s9 n9 e9=>?_
 rw?
 refine aF (mk:=.lst) 0#f λLt vf pC yf DV=>?_
 have Et:=s9.trans pC
 have Uh:=Rk.trans Et
 have nl0:H Ll=none:=Rk.free n9
 have nt0:H Lt=none:=(Rk.trans s9).free yf
 have nlt:Ll≠Lt:=λz=>by rw [← z,e9] at yf;cases yf
 obtain ⟨_,⟨_,eb0⟩,⟨_,ea0⟩,_⟩:=hB0.ats
 rw?
 refine dJ (iD ?_)
 rw?
 refine ⟨l,rfl,⟨_,aX.of (Uh _ _ hl)⟩,eK (xs:=vals es) (λi σ H3=>acM λ(v5 v6:Option V) (Lb La:av) (fl ro:Nat) (g s:Option Rat) (ls:List Ln) (xO:List Wf)=>σ=[some 0#U,some (.ref pb),some 1#a,some (.ref Ll),some (.ref Lt),v5,v6]∧au H H3∧H Lb=none∧H La=none∧Ll≠Lb∧Ll≠La∧Lt≠Lb∧Lt≠La∧lT aD H3 p Lb La (es.take i) fl ro β n nb g s∧H3 Ll=some (.lst (kM ls))∧H3 Lt=some (.lst (xO.map λx=>V.ref x.1))∧uY H3 ls (5*n+3*nb+7)∧(∀x∈xO,Ru H3 es x)∧Tr es β i fl ro (ls.map (·.2)) (xO.map (·.2))∧ls.length≤i∧xO.length≤i) ?_ ?_ ?_ ?_⟩
 ·refine ⟨none,none,Lb,La,0,0,none,none,[],[],rfl,Uh,nb0,na0,λz=>?_,λz=>?_,λz=>?_,λz=>?_,hB0.up Et,pC _ _ e9,DV,λx hx=>absurd hx 0#f,λx hx=>absurd hx 0#f,.nil,dG _,dG _⟩
  ·rw [z,eb0] at n9;cases n9
  ·rw [z,ea0] at n9;cases n9
  ·rw [z,s9 _ _ eb0] at yf;cases yf
  ·rw [z,s9 _ _ ea0] at yf;cases yf
 ·rintro i σ H3 _ ⟨v5,v6,Lb,La,fl,ro,g,s,ls,xO,rfl,s3,_⟩
  exact aX.of (s3 _ _ hl)
 ·rintro i v σ H3 hv ⟨v5,v6,Lb,La,fl,ro,g,s,ls,xO,rfl,s3,nb3,na3,q1,q2,q3,q4,EY,VZ,Wz,hL3,hT3,Sl,ll,lt⟩
  obtain ⟨x,gx,rfl⟩:=gI hv
  have hi:i<es.length:=(lS.mp gx).1
  obtain ⟨x',WH,fx⟩:=cT (hR.up s3) hS hi
  rw [gx] at WH
  cases WH
  have tl:(es.take i).length=i:=by rw [uL];try?
  have tk:=take_snoc hS gx
  obtain ⟨⟨dx3,fs3,ep3,mt3,_⟩,⟨_,eb3⟩,⟨_,ea3⟩,hP3⟩:=EY.ats
  have npl:Ll≠p:=λz=>by rw [z,ep3] at VZ;cases VZ
  have npt:Lt≠p:=λz=>by rw [z,ep3] at Wz;cases Wz
  have hm:∀c,c<(es.take i).length→mo (es.take i) c<mo es i:=λc hc=>by
   rw [tl] at hc
   rw [lZ hc]
   exact iu dH hc hi
  refine cE λM B RR hM hB hR'=>?_
  rw?
  refine Rh ep3 mt3 ?_
  rw?
  have tup:∀{H4:Hp},au (QJ p Lb La H3) H4→(∀{b:av} {xs:List V},H3 b=some 0#q→H4 b=some 0#q)∧au H H4∧H4 Ll=some (.lst (kM ls))∧H4 Lt=some (.lst (xO.map λx=>V.ref x.1)):=λ{H4} ks=>by
   refine ⟨λ{b xs} e=>ks _ _ ?_,adz s3 np nb3 na3 ks,ks _ _ ?_,ks _ _ ?_⟩
   ·rw [vE (λz=>by rw [z,ep3] at e;cases e) (λz=>by rw [z,eb3] at e;cases e) (λz=>by rw [z,ea3] at e;cases e)]
    exact e
   ·rw [vE npl q1 q2]
    exact VZ
   ·rw [vE npt q3 q4]
    exact Wz
  refine ⟨p,Lb,La,x.1,es.take i,fl,ro,mo es i,wo es i,β,n,nb,g,s,rfl,EY,fx,hm,by try?,h1,hn,hnb,mJ,λg' s' H4 ks hN EZ=>?_,λr ln th BK BJ G fo a b s2' H4 ks eg hC er fl4 eth EZ n1 n2=>?_,λr ln th BK BJ S fo a b g2' H4 ks es' hno hC er fl4 eth EZ n1 n2=>?_⟩
  ·obtain ⟨tp,sH,Gf,RW⟩:=tup ks
   rw?
   refine 0#M
   rw?
   refine bI ?_
   rw?
   exact hM _ _ ⟨_,_,Lb,La,fl,ro,g',s',ls,xO,rfl,sH,nb3,na3,q1,q2,q3,q4,by rw [tk];exact EZ,Gf,RW,hL3.tv tp,λx hx=>tp (hT3 x hx),.stay Sl hi hP3 (by rw [tk];exact EZ.ats.2.2.2) hN,by try?,by try?⟩
  ·subst eg
   obtain ⟨tp,sH,Gf,RW⟩:=tup ks
   have hbl:=hC.lb
   have hab:=hC.hab
   rw [tl] at hbl
   rw?
   refine 0#M
   rw?
   refine cB ?_
   rw?
   refine ⟨.inl ⟨rfl,_,aX.of Gf⟩,?_⟩
   rw?
   refine cJ Gf (by unfold kM;rw [gV];exact aO 0#d) ?_
   have nl1:Ll≠BK:=λz=>by rw [← z,VZ] at n1;cases n1
   have nl2:Ll≠BJ:=λz=>by rw [← z,VZ] at n2;cases n2
   have nt1:Lt≠BK:=λz=>by rw [← z,Wz] at n1;cases n1
   have nt2:Lt≠BJ:=λz=>by rw [← z,Wz] at n2;cases n2
   have LD:=EZ.app (zs:=kM ls++[.ref ln]) Gf nl1 nl2
   have Rn:∀{b:av} {xs:List V},H4 b=some 0#q→upd H4 Ll (.lst (kM ls++[.ref ln])) b=some 0#q:=λe=>kG Gf e
   have eL5:upd H4 Ll (.lst (kM ls++[.ref ln])) Ll=some (.lst (kM (ls++[(ln,G,fo)]))):=by rw [aB];simp [kM]
   have RX:upd H4 Ll (.lst (kM ls++[.ref ln])) Lt=some (.lst (xO.map λx=>V.ref x.1)):=by rw [aM (jA nlt)];exact RW
   have sH5:au H (upd H4 Ll (.lst (kM ls++[.ref ln]))):=aZ sH nl0
   have er5:=Rn er
   generalize upd H4 Ll (.lst (kM ls++[.ref ln]))=H5 at *
   rw?
   refine ⟨.inl ⟨rfl,_,aX.of RX⟩,?_⟩
   rw?
   refine cJ RX (by rw [gV];exact aO 0#d) ?_
   have tp6:∀{b:av} {xs:List V},H5 b=some 0#q→upd H5 Lt (.lst ((xO.map λx=>V.ref x.1)++[.ref th])) b=some 0#q:=λe=>kG RX e
   refine hM _ _ ⟨_,_,BK,BJ,b,(es.take i).length,none,s2',ls++[(ln,G,fo)],xO++[(th,(true,a,b,i))],rfl,aZ sH5 nt0,s3.free n1,s3.free n2,nl1,nl2,nt1,nt2,by rw [tk];exact LD.app RX nt1 nt2,by rw [aM nlt];exact eL5,by rw [aB];simp,?_,λz hz=>?_,?_,by rw [fj];show _+1≤i+1;try?,by rw [fj];show _+1≤i+1;try?⟩
   ·exact (((hL3.tv tp).snoc fl4).tv Rn).tv tp6
   ·rcases dg.mp hz with z | z
    ·exact tp6 (Rn (tp (hT3 _ z)))
    ·obtain rfl:_=(th,(true,a,b,i)):=by simpa using z
     refine tp6 (Rn ?_)
     show H4 th=_
     rw [eth,lZ (show a<i by try?),lZ hbl]
   ·rw [tl,iI,iI]
    exact .cap Sl hi hP3 hC
  ·subst es'
   obtain ⟨tp,sH,Gf,RW⟩:=tup ks
   have hbl:=hC.lb
   have hab:=hC.hab
   rw [tl] at hbl
   rw?
   refine 0#M
   rw?
   refine cB ?_
   rw?
   refine ⟨.inl ⟨rfl,_,aX.of Gf⟩,?_⟩
   rw?
   refine cJ Gf (by unfold kM;rw [gV];exact aO 0#d) ?_
   have nl1:Ll≠BK:=λz=>by rw [← z,VZ] at n1;cases n1
   have nl2:Ll≠BJ:=λz=>by rw [← z,VZ] at n2;cases n2
   have nt1:Lt≠BK:=λz=>by rw [← z,Wz] at n1;cases n1
   have nt2:Lt≠BJ:=λz=>by rw [← z,Wz] at n2;cases n2
   have LD:=EZ.app (zs:=kM ls++[.ref ln]) Gf nl1 nl2
   have Rn:∀{b:av} {xs:List V},H4 b=some 0#q→upd H4 Ll (.lst (kM ls++[.ref ln])) b=some 0#q:=λe=>kG Gf e
   have eL5:upd H4 Ll (.lst (kM ls++[.ref ln])) Ll=some (.lst (kM (ls++[(ln,S,fo)]))):=by rw [aB];simp [kM]
   have RX:upd H4 Ll (.lst (kM ls++[.ref ln])) Lt=some (.lst (xO.map λx=>V.ref x.1)):=by rw [aM (jA nlt)];exact RW
   have sH5:au H (upd H4 Ll (.lst (kM ls++[.ref ln]))):=aZ sH nl0
   have er5:=Rn er
   generalize upd H4 Ll (.lst (kM ls++[.ref ln]))=H5 at *
   rw?
   refine ⟨.inl ⟨rfl,_,aX.of RX⟩,?_⟩
   rw?
   refine cJ RX (by rw [gV];exact aO 0#d) ?_
   have tp6:∀{b:av} {xs:List V},H5 b=some 0#q→upd H5 Lt (.lst ((xO.map λx=>V.ref x.1)++[.ref th])) b=some 0#q:=λe=>kG RX e
   refine hM _ _ ⟨_,_,BK,BJ,(es.take i).length,b,g2',none,ls++[(ln,S,fo)],xO++[(th,(false,a,b,i))],rfl,aZ sH5 nt0,s3.free n1,s3.free n2,nl1,nl2,nt1,nt2,by rw [tk];exact LD.app RX nt1 nt2,by rw [aM nlt];exact eL5,by rw [aB];simp,?_,λz hz=>?_,?_,by rw [fj];show _+1≤i+1;try?,by rw [fj];show _+1≤i+1;try?⟩
   ·exact (((hL3.tv tp).snoc fl4).tv Rn).tv tp6
   ·rcases dg.mp hz with z | z
    ·exact tp6 (Rn (tp (hT3 _ z)))
    ·obtain rfl:_=(th,(false,a,b,i)):=by simpa using z
     refine tp6 (Rn ?_)
     show H4 th=_
     rw [eth,lZ (show a<i by try?),lZ hbl]
   ·rw [tl,iI,iI]
    exact .cup Sl hi hP3 hno hC
 ·rintro σ H3 ⟨v5,v6,Lb,La,fl,ro,g,s,ls,xO,rfl,s3,nb3,na3,q1,q2,q3,q4,EY,VZ,Wz,hL3,hT3,Sl,ll,lt⟩
  rw [aN] at *
  rw [jR] at EY
  obtain ⟨⟨dx3,fs3,ep3,_,mn3⟩,_,_,hP3⟩:=EY.ats
  rw?
  refine ⟨.inl ⟨rfl,_,aX.of VZ⟩,?_⟩
  rw?
  refine Rh ep3 mn3 ?_
  rw?
  refine ⟨p,Lb,La,es,fl,ro,β,n,nb,g,s,rfl,EY,by try?,h1,hn,hnb,λz=>absurd h0 (by rw [z];decide),λ_ ln TT fo H4 s4 f4 WI=>?_⟩
  have el4:=s4 _ _ VZ
  rw?
  refine cJ el4 (by unfold kM;rw [gV];exact aO 0#d) ?_
  rw?
  have Rn:∀{b:av} {xs:List V},H4 b=some 0#q→upd H4 Ll (.lst (kM ls++[.ref ln])) b=some 0#q:=λe=>kG el4 e
  refine aF (mk:=.tup) 0#f λy H6 s6 n6 e6=>?_
  refine k y Ll Lt (ls++[(ln,TT,fo)]) xO (ls.map (·.2)) fl ro g s TT fo H6 (λb o e=>s6 _ _ (aZ 0#S nl0 _ _ e)) e6 nl0 nt0 (s6 _ _ ?_) (uY.tv (λ{b xs} e=>s6 _ _ e) (((hL3.tv λ{b xs} e=>s4 _ _ e).snoc f4).tv Rn)) 0#f (s6 _ _ ?_) (λx hx=>s6 _ _ (Rn (s4 _ _ (hT3 x hx)))) Sl hP3 WI (by rw [gV];exact ll) lt
  ·rw [aB];simp [kM]
  ·rw [aM (jA nlt)];exact s4 _ _ Wz
end
def IL (ks:List (Rat×Rat)) (i:Nat):Rat:=((ks[i]?).map (·.1)).getD 0
def Qj (ks:List (Rat×Rat)) (i:Nat):Rat:=((ks[i]?).map (·.2)).getD 0
def xAt (ks:List (Rat×Rat)) (i:Nat):Rat:=(Qj ks (i+1)-Qj ks i)/(IL ks i-IL ks (i+1))
def jx (ks:List (Rat×Rat)) (t0 t1:Int) (i:Nat):Rat×Rat:=
 if i=0 then ((t0:Rat),IL ks 0*(t0:Rat)+Qj ks 0) else if i<ks.length then (xAt ks (i-1),IL ks (i-1)*xAt ks (i-1)+Qj ks (i-1)) else ((t1:Rat),IL ks (ks.length-1)*(t1:Rat)+Qj ks (ks.length-1))
def MI (ks:List (Rat×Rat)) (t0 t1:Int) (i:Nat):Rat×Rat×Rat×Rat:=((jx ks t0 t1 i).1,(jx ks t0 t1 i).2,(jx ks t0 t1 (i+1)).1,(jx ks t0 t1 (i+1)).2)
theorem lY (ls:List Ln):(kM ls).length=ls.length:=gV ..
theorem GK {i:Nat} (h:(kM ls)[i]?=some v):∃x,ls[i]?=some x∧v=.ref x.1:=by
 unfold kM at h
 rw [dw] at h
 cases e:ls[i]? with
 | none=>rw [e] at h;cases h
 | some x=>rw [e] at h;cases h;exact ⟨x,rfl,rfl⟩
theorem Oq {i:Nat} (h:ls[i]?=some x):(kM ls)[i]?=some (.ref x.1):=by
 unfold kM
 rw [dw,h]
 rfl
theorem adC {ls:List Ln} (h:ls[i]?=some x):IL (ls.map (·.2)) i=x.2.1∧Qj (ls.map (·.2)) i=x.2.2:=by
 unfold IL Qj
 rw [dw,h]
 exact ⟨rfl,rfl⟩
theorem RN (xs:List V):jT xs (some 1) none=xs.drop 1:=by
 unfold jT
 rw [show (1:Int)=((1:Nat):Int) from rfl,HT.Bw,show HT.HE xs.length xs.length none=xs.length from rfl]
 rcases aaq 1 xs.length with z | z
 ·rw [Ak z]
  exact OS (by rw [iX];exact dG _)
 ·rw [ZO z,OT z,OT (dG _)]
  simp
inductive Ih (vs:List V) (H:Hp) (Q:VK) (E_:XK):Prop where
 | mk (p:av) (T f:Rat) (t:Int) (n:Nat):vs=[.ref p,.int t]→i6 H p T f n→Sz n t→1≤n→n≤1300→(∀(y:av) (H':Hp),au H H'→i6 H' y (t:Rat) (T*(t:Rat)+f) (6*n+3)→Q (.ref y) H')→Ih vs H Q E_
inductive HY (vs:List V) (H:Hp) (Q:VK) (E_:XK):Prop where
 | mk (l:av) (ls:List Ln) (t0 t1:Int) (n:Nat):vs=[.ref l,.int t0,.int t1]→H l=some (.lst (kM ls))→uY H ls n→0<ls.length→ls.length≤900→Sz n t0→Sz n t1→1≤n→n≤1300→(∀i,i+1<ls.length→IL (ls.map (·.2)) i≠IL (ls.map (·.2)) (i+1))→(∀(R:av) (ps:List Pc) (H':Hp),au H H'→H R=none→H' R=some (.lst (ps.map λx=>V.ref x.1))→AllP H' ps (6*n+3)→ps.map (·.2)=(fM ls.length).map (MI (ls.map (·.2)) t0 t1)→Q (.ref R) H')→HY vs H Q E_
section
theorem Kl:aE ["line","moment"] ["line","moment"] (ah vN):=0#a
theorem J5 (F:cR K "point_on" "point_on" vN f fd) (iQ:Dn P w K mg base 5 "height" ["line","when"] tN):bf P w K mg base cY 6 f fd ["line","moment"] Ih:=by
 refine F.ok Kl 0#e 0#b
 ·obtain ⟨p,T,f,t,n,rfl,_⟩:=h
  rfl
 obtain ⟨p,TT,fo,t,n,rfl,hL,zt,h1,hn,k⟩:=h
 refine bG ⟨_,(aH (aV (bJ (bq (bJ (bq 0#p aA)) (bY iQ hr 0#j (bJ (bq 0#p aA))))))),?_⟩
 rw?
 refine aF (mk:=.tup) 0#f λa H1 s1 n1 e1=>?_
 have fa:dz H1 a (t:Rat) n:=⟨t,1,e1,⟨by decide,by simp,by grind⟩,zt,qy h1⟩
 rw?
 refine aF (mk:=.tup) 0#f λb H2 s2 n2 e2=>?_
 rw?
 refine ⟨p,b,TT,fo,(t:Rat),n,n,rfl,hL.OH (s1.trans s2),tT e2 zt h1,by try?,λz H3 s3 f3=>?_⟩
 rw?
 refine aF (mk:=.tup) 0#f λy H4 s4 n4 e4=>?_
 exact k y H4 (s1.trans (s2.trans 0#S)) ⟨a,z,e4,(fa.up (s2.trans 0#S)).mono 0#d,(f3.up s4).mono 0#d⟩
theorem rA:aE ["links","first","last","points"] ["links","first","last"] (ah nO):=0#a
theorem AW (F:cR K "pieces_along" "pieces_along" nO f fd) (T:Txt mg) (qm:Dn P w K mg base 6 "point_on" ["line","moment"] Ih) (Lh:Dn P w K mg base 6 "meet" ["line","other"] Nt):bf P w K mg base cY 7 f fd ["links","first","last"] HY:=by
 refine F.ok rA 0#e 0#b
 ·obtain ⟨l,ls,t0,t1,n,rfl,_⟩:=h
  rfl
 obtain ⟨l,ls,t0,t1,n,rfl,hl,hL,h0,kJ,z0,z1,h1,hn,hne,k⟩:=h
 generalize hks:ls.map (·.2)=ks at *
 have Sv:ks.length=ls.length:=by rw [← hks,gV]
 have lat:∀{i:Nat} {x:Ln},ls[i]?=some x→IL ks i=x.2.1∧Qj ks i=x.2.2:=λ{i x} h=>by rw [← hks];exact adC h
 obtain ⟨x0,g0⟩:∃x,ls[0]?=some x:=⟨ls[0],mC h0⟩
 obtain ⟨xl,gl⟩:∃x,ls[ls.length-1]?=some x:=⟨ls[ls.length-1],mC 0#d⟩
 refine bG ⟨_,(aq (aK 3 rA.nd (dI (dD (bY qm hr (Jd.iL K 0#j) 0#p)))) (aq (eO (Jd.Jf K 0#E (oz (O:=["line","behind"]) (N':=[]) (cap:=[]) rfl (Jd.CH K rfl T.acC (bq 0#j (qX (Rl K) 0#j (qZ aA) qY))) (λ_ _ _ _ _=>(Jd.Ox K (n:=2) rfl (fS (bX (i:=0) (show jd [("line":Str),("behind":Str)] by decide +kernel) rfl 0#k) (fS (bX (i:=1) (show jd [("line":Str),("behind":Str)] by decide +kernel) rfl 0#k) pH)))) 1#d (λ_ _ _ _ _=>(fY Lh 0#z rfl (cG 0#j (cG 0#p dX bw) bw) (he:=bw) (hpl:=(cu bw cg)))) rfl trivial rfl 0#g rfl 0#g)) (hs:=eF)) (aq (eO (gM K 0#E (bY qm hr (bB 0#Z 0#j (fR cZ aA) 0#h) 0#s)) (hs:=eF)) (aH (aV (oz (O:=["start","end"]) (N':=[]) (cap:=[]) rfl (Jd.CH K rfl T.acC (bq 0#E (qX (Rl K) 0#E (qZ aA) qY))) (λ_ _ _ _ _=>(Jd.Ox K (n:=2) rfl (fS (bX (i:=0) (show jd [("start":Str),("end":Str)] by decide +kernel) rfl 0#k) (fS (bX (i:=1) (show jd [("start":Str),("end":Str)] by decide +kernel) rfl 0#k) pH)))) 1#d (λ_ _ _ _ _=>(aI (acQ K) 0#j 0#p)) rfl trivial rfl 0#g rfl 0#g)))))),?_⟩
 rw?
 refine cK hl (gW (j:=0) (Oq g0)) ?_
 rw?
 refine ⟨x0.1,x0.2.1,x0.2.2,t0,n,rfl,hL x0 (lP g0),z0,h1,hn,λy0 H1 s1 f1=>?_⟩
 rw?
 refine aF (mk:=.lst) 0#f λPT H2 s2 n2 e2=>?_
 have fW:=s1.trans s2
 have nPT:H PT=none:=s1.free n2
 rw?
 refine ⟨.inl ⟨rfl,_,aX.of e2⟩,?_⟩
 rw?
 refine Ub ?_
 rw?
 refine ⟨_,rfl,1,rfl,l,_,rfl,aX.of (fW _ _ hl),λP1 nP1=>?_⟩
 rw [RN]
 have s3:au H2 (upd H2 P1 (.lst ((kM ls).drop 1))):=aZ 0#x nP1
 have e3:upd H2 P1 (.lst ((kM ls).drop 1)) P1=some (.lst ((kM ls).drop 1)):=aB
 generalize upd H2 P1 (.lst ((kM ls).drop 1))=H3 at *
 have nE:=fW.trans s3
 rw?
 refine ⟨l,P1,_,_,rfl,aX.of (nE _ _ hl),aX.of e3,?_⟩
 refine yp (IQ:=ls.length-1) (by rw [lY];try?) (by rw [iX,lY];try?) (.inr (by rw [iX,lY];try?)) (λH9 s9=>⟨aX.of ((nE.trans s9) _ _ hl),aX.of (s9 _ _ e3)⟩) 0#d (λc ys G=>∃qs:List Ln,ys=kM qs∧uY G qs (6*n+3)∧qs.map (·.2)=(fM c).map λi=>jx ks t0 t1 (i+1)) ⟨[],rfl,λx hx=>absurd hx 0#f,rfl⟩ ?_ ?_
 ·rintro D c v v' ys H9 vf pp jV NN N0 hh0 hD eD s9 pC epp hc hv hv' hy ⟨qs,rfl,hqs,hmap⟩ kY kN
  obtain ⟨x,gx,rfl⟩:=GK hv
  rw [nW,An] at hv'
  obtain ⟨x',WH,rfl⟩:=GK hv'
  have Uh:=nE.trans (s9.trans pC)
  obtain ⟨l1,l2⟩:=lat gx
  obtain ⟨l3,l4⟩:=lat WH
  have hc':c+1<ls.length:=(lS.mp WH).1
  have ne:x.2.1≠x'.2.1:=by rw [← l1,← l3];exact hne c hc'
  refine CO hh0 epp ?_
  rw?
  refine cB ?_
  rw?
  refine ⟨x.1,x'.1,_,_,_,_,n,rfl,(hL x (lP gx)).OH Uh,(hL x' (lP WH)).OH Uh,h1,hn,λz=>absurd z ne,λ_ z a b Lk CU VX fa fb=>?_⟩
  have pe:jx ks t0 t1 (c+1)=((x'.2.2-x.2.2)/(x.2.1-x'.2.1),x.2.1*((x'.2.2-x.2.2)/(x.2.1-x'.2.1))+x.2.2):=by
   unfold jx xAt
   rw [if_neg 0#c,if_pos 0#c,KO,l1,l2,l3,l4]
  refine kY _ Lk CU ⟨qs++[(z,jx ks t0 t1 (c+1))],by simp [kM],λy hy'=>?_,?_⟩
  ·rcases dg.mp hy' with w | w
   ·exact (hqs y w).tv λ{b xs} e=>(rj (pC.trans CU)) _ _ e
   ·obtain rfl:y=(z,jx ks t0 t1 (c+1)):=by simpa using w
    rw [pe]
    have ln:i6 Lk z ((x'.2.2-x.2.2)/(x.2.1-x'.2.1)) (x.2.1*((x'.2.2-x.2.2)/(x.2.1-x'.2.1))+x.2.2) (6*n+3):=⟨a,b,VX,fa.mono 0#d,fb⟩
    exact ln.tv λ{b xs} e=>dY ((pC.trans CU) _ _ eD) e
  ·rw [iI,hmap,vY,iI]
   rfl
 rintro D ys H4 hD eD s4 hy ⟨qs,rfl,hqs,hmap⟩
 have yg:=nE.trans s4
 have e24:=0#S _ _ e2
 have f14:=f1.OH (s2.trans 0#S)
 have afS:uY H4 qs (6*n+3):=hqs.tv λ{b xs} e=>gH _ _ e
 have hql:qs.length=ls.length-1:=by
  have:=congrArg tY hmap
  simpa using this
 rw?
 refine Fj e24 eD (by rw [lY];exact uM (aO (by show 1+qs.length≤1000;try?))) ?_
 have t5:∀{b:av} {xs:List V},H4 b=some 0#q→upd H4 PT (.lst ([.ref y0]++kM qs)) b=some 0#q:=λe=>kG e24 e
 have e5:upd H4 PT (.lst ([.ref y0]++kM qs)) PT=some (.lst (kM ((y0,jx ks t0 t1 0)::qs))):=by rw [aB];rfl
 have s5:au H (upd H4 PT (.lst ([.ref y0]++kM qs))):=aZ yg nPT
 have p0:jx ks t0 t1 0=((t0:Rat),x0.2.1*(t0:Rat)+x0.2.2):=by
  unfold jx
  rw [if_pos rfl,(lat g0).1,(lat g0).2]
 have hA5:uY (upd H4 PT (.lst ([.ref y0]++kM qs))) ((y0,jx ks t0 t1 0)::qs) (6*n+3):=λy hy'=>by
  rcases qU.mp hy' with w | w
  ·subst w
   rw [p0]
   exact f14.tv t5
  ·exact (afS y w).tv t5
 generalize upd H4 PT (.lst ([.ref y0]++kM qs))=H5 at *
 rw?
 refine ⟨.inl ⟨rfl,_,aX.of e5⟩,?_⟩
 rw?
 refine cK (s5 _ _ hl) (v:=.ref xl.1) ?_ ?_
 ·unfold qV
  rw [qu (m:=ls.length-1) (by rw [lY];try?)]
  exact Oq gl
 rw?
 refine ⟨xl.1,xl.2.1,xl.2.2,t1,n,rfl,(hL xl (lP gl)).OH s5,z1,h1,hn,λyl H6 s6 f6=>?_⟩
 have e6:=s6 _ _ e5
 rw?
 refine cJ e6 (by rw [lY];exact aO (by show qs.length+1≤1000;try?)) ?_
 have pn:jx ks t0 t1 ls.length=((t1:Rat),xl.2.1*(t1:Rat)+xl.2.2):=by
  unfold jx
  rw [if_neg 0#c,if_neg 0#c,Sv,(lat gl).1,(lat gl).2]
 have t7:∀{b:av} {xs:List V},H6 b=some 0#q→upd H6 PT (.lst (kM ((y0,jx ks t0 t1 0)::qs)++[.ref yl])) b=some 0#q:=λe=>kG e6 e
 have e7:upd H6 PT (.lst (kM ((y0,jx ks t0 t1 0)::qs)++[.ref yl])) PT=some (.lst (kM ((y0,jx ks t0 t1 0)::qs++[(yl,jx ks t0 t1 ls.length)]))):=by rw [aB];simp [kM]
 have s7:au H (upd H6 PT (.lst (kM ((y0,jx ks t0 t1 0)::qs)++[.ref yl]))):=aZ (s5.trans s6) nPT
 have hA7:uY (upd H6 PT (.lst (kM ((y0,jx ks t0 t1 0)::qs)++[.ref yl]))) ((y0,jx ks t0 t1 0)::qs++[(yl,jx ks t0 t1 ls.length)]) (6*n+3):=by
  refine uY.snoc ((hA5.tv λ{b xs} e=>s6 _ _ e).tv t7) ?_
  show i6 _ yl _ _ _
  rw [pn]
  exact f6.tv t7
 have hm7:((y0,jx ks t0 t1 0)::qs++[(yl,jx ks t0 t1 ls.length)]).map (·.2)=(fM (ls.length+1)).map (jx ks t0 t1):=by
  rw [iI,DG,hmap,vY,iI]
  congr 1
  rw [show ls.length=(ls.length-1)+1 by try?,List.range_succ_eq_map,DG,pT,KO]
  rfl
 generalize agQ:(y0,jx ks t0 t1 0)::qs++[(yl,jx ks t0 t1 ls.length)]=YA at *
 generalize upd H6 PT (.lst (kM ((y0,jx ks t0 t1 0)::qs)++[.ref yl]))=H7 at *
 have hpl:YA.length=ls.length+1:=by
  have:=congrArg tY hm7
  simpa using this
 have pat:∀{i:Nat} {x:Ln},YA[i]?=some x→x.2=jx ks t0 t1 i:=λ{i x} h=>by
  have hi:i<YA.length:=(lS.mp h).1
  have e1:(YA.map (·.2))[i]?=some x.2:=by rw [dw,h];rfl
  rw [hm7,dw,IG 0#d] at e1
  exact (yc e1).symm
 rw?
 refine Ub ?_
 rw?
 refine ⟨_,rfl,1,rfl,PT,_,rfl,aX.of e7,λP8 nP8=>?_⟩
 rw [RN]
 have s8:au H7 (upd H7 P8 (.lst ((kM YA).drop 1))):=aZ 0#x nP8
 have e8:upd H7 P8 (.lst ((kM YA).drop 1)) P8=some (.lst ((kM YA).drop 1)):=aB
 generalize upd H7 P8 (.lst ((kM YA).drop 1))=H8 at *
 rw?
 refine ⟨PT,P8,_,_,rfl,aX.of (s8 _ _ e7),aX.of e8,?_⟩
 refine yp (IQ:=ls.length) (by rw [lY];try?) (by rw [iX,lY];try?) (.inr (by rw [iX,lY];try?)) (λH9 s9=>⟨aX.of ((s8.trans s9) _ _ e7),aX.of (s9 _ _ e8)⟩) 0#d (λc ys G=>∃ps:List Pc,ys=(ps.map λx=>V.ref x.1)∧AllP G ps (6*n+3)∧ps.map (·.2)=(fM c).map (MI ks t0 t1)) ⟨[],rfl,λx hx=>absurd hx 0#f,rfl⟩ ?_ ?_
 ·rintro D' c v v' ys H9 vf pp jV NN N0 hh0 Yn IK s9 pC epp hc hv hv' hy ⟨ps,rfl,hps,hmp⟩ kY kN
  obtain ⟨x,gx,rfl⟩:=GK hv
  rw [nW,An] at hv'
  obtain ⟨x',WH,rfl⟩:=GK hv'
  have Um:=s8.trans (s9.trans pC)
  obtain ⟨a1,b1,ex,fa1,fb1⟩:=(hA7 x (lP gx)).OH Um
  obtain ⟨a2,b2,ex',fa2,fb2⟩:=(hA7 x' (lP WH)).OH Um
  refine CO hh0 epp ?_
  rw?
  refine cB ?_
  rw?
  refine T6 ex ex' ?_
  refine aF (mk:=.tup) 0#f λz Lk CU n11 VX=>?_
  refine kY _ Lk CU ⟨ps++[(z,MI ks t0 t1 c)],by simp,λy hy'=>?_,?_⟩
  ·rcases dg.mp hy' with w | w
   ·exact (hps y w).mv λ{b xs} e=>(rj (pC.trans CU)) _ _ e
   ·obtain rfl:y=(z,MI ks t0 t1 c):=by simpa using w
    have q1:=pat gx
    have q2:=pat WH
    have pc:BO Lk (z,MI ks t0 t1 c) (6*n+3):=by
     unfold MI
     rw [← q1,← q2]
     exact ⟨a1,b1,a2,b2,VX,fa1.up CU,fb1.up CU,fa2.up CU,fb2.up CU⟩
    exact pc.mv λ{b xs} e=>dY ((pC.trans CU) _ _ IK) e
  ·rw [iI,hmp,vY,iI]
   rfl
 rintro D' ys H9 Yn IK s9 hy ⟨ps,rfl,hps,hmp⟩
 rw?
 exact k D' ps H9 (s7.trans (s8.trans s9)) ((s7.trans s8).free Yn) IK (λx hx=>(hps x hx).mv λ{b xs} e=>gH _ _ e) hmp
end
def BH (es:List En) (β:Rat) (k fl ro:Nat) (L:Rat×Rat):Prop:=(∀i,fl≤i→i<k→cV es L.1 i-β≤L.2)∧∀i,ro≤i→i<k→L.2≤cV es L.1 i+β
theorem EE.Ly (hk:k≤es.length) (h:EE (es.take k) β fl ro m q G f a b):BH es β k fl ro (G,f):=by
 have tl:(es.take k).length=k:=by rw [uL];simp?
 refine ⟨λi h1 h2=>?_,λi h1 h2=>?_⟩
 ·have:=h.lo i h1 (by rw [tl];exact h2)
  rw [gO h2] at this
  exact this
 ·have:=h.hi i h1 (by rw [tl];exact h2)
  rw [gO h2] at this
  exact this
theorem EF.Ly (hk:k≤es.length) (h:EF (es.take k) β fl ro m q S f a b):BH es β k fl ro (S,f):=by
 have tl:(es.take k).length=k:=by rw [uL];simp?
 refine ⟨λi h1 h2=>?_,λi h1 h2=>?_⟩
 ·have:=h.lo i h1 (by rw [tl];exact h2)
  rw [gO h2] at this
  exact this
 ·have:=h.hi i h1 (by rw [tl];exact h2)
  rw [gO h2] at this
  exact this
theorem IS.Ly (h:BD es fl ro β g s) (mJ:0≤β) (hN:IS es β fl g s T f):BH es β es.length fl ro (T,f):=by
 rcases hN with ⟨hc,lo,ex⟩ | ⟨eg,es',eT,ef⟩
 ·refine ⟨lo,?_⟩
  rcases hc with eg | ⟨eg,es'⟩
  ·obtain ⟨g1,g2⟩:=h.hiG eg
   exact (EN mJ h.Er g1 g2 lo ex).1
  ·obtain ⟨g1,g2⟩:=h.loS es'
   exact (ES mJ h.Er g1 g2 lo ex).1
 ·have h2:=h.two.mpr ⟨eg,es'⟩
  refine ⟨λi h1 hi=>?_,λi h1 hi=>?_⟩
  ·obtain rfl:i=fl:=by have:=h.lt 0#c;simp?
   show cV es T i-β≤f
   unfold cV
   rw [eT,ef]
   grind
  ·have:=h.lt 0#c
   obtain rfl:i=fl:=by simp?
   show f≤cV es T i+β
   unfold cV
   rw [eT,ef]
   grind
def Rel (es:List En) (z:Bool×Nat×Nat×Nat) (L0 L1:Rat×Rat):Prop:=z.2.2.1<z.2.2.2∧z.2.2.2<es.length ∧
 if z.1=true then L0.1*(mo es z.2.2.1:Rat)+L0.2≤L1.1*(mo es z.2.2.1:Rat)+L1.2∧L1.1*(mo es z.2.2.2:Rat)+L1.2<L0.1*(mo es z.2.2.2:Rat)+L0.2
 else L1.1*(mo es z.2.2.1:Rat)+L1.2≤L0.1*(mo es z.2.2.1:Rat)+L0.2∧L0.1*(mo es z.2.2.2:Rat)+L0.2<L1.1*(mo es z.2.2.2:Rat)+L1.2
inductive Ch (es:List En):List (Rat×Rat)→List (Bool×Nat×Nat×Nat)→Rat×Rat→Prop where
 | one {L:Rat×Rat}:Ch es [] [] L
 | more {ks:List (Rat×Rat)} {ts:List (Bool×Nat×Nat×Nat)} {L0 L1:Rat×Rat} {z:Bool×Nat×Nat×Nat} (h:Ch es ks ts L0) (hR:Rel es z L0 L1):Ch es (ks++[L0]) (ts++[z]) L1
theorem Wl (hk:k<es.length) (h:EE (es.take k) β fl ro (mo es k) (wo es k) G f a b) (hF:BH es β (k+1) b k L):Rel es (true,a,b,k) (G,f) L:=by
 have tl:(es.take k).length=k:=by rw [uL];simp?
 have hb:=h.lb
 rw [tl] at hb
 have eb:=h.eb
 rw [gO hb] at eb
 obtain ⟨i,i1,i2,ei⟩:=h.off
 have li:=h.lo i i1 i2
 have f1:=hF.1 b (dG _) 0#c
 have f2:=hF.2 k (dG _) 0#c
 unfold cV at eb f1 f2
 refine ⟨hb,hk,?_⟩
 rw [if_pos rfl]
 refine ⟨by show G*(mo es b:Rat)+f≤L.1*(mo es b:Rat)+L.2;grind,?_⟩
 show L.1*(mo es k:Rat)+L.2<G*(mo es k:Rat)+f
 grind
theorem Wo (hk:k<es.length) (h:EF (es.take k) β fl ro (mo es k) (wo es k) S f a b) (hF:BH es β (k+1) k b L):Rel es (false,a,b,k) (S,f) L:=by
 have tl:(es.take k).length=k:=by rw [uL];simp?
 have hb:=h.lb
 rw [tl] at hb
 have eb:=h.eb
 rw [gO hb] at eb
 obtain ⟨i,i1,i2,ei⟩:=h.off
 have li:=h.hi i i1 i2
 have f1:=hF.2 b (dG _) 0#c
 have f2:=hF.1 k (dG _) 0#c
 unfold cV at eb f1 f2
 refine ⟨hb,hk,?_⟩
 rw [if_neg dW]
 refine ⟨by show L.1*(mo es b:Rat)+L.2≤S*(mo es b:Rat)+f;grind,?_⟩
 show S*(mo es k:Rat)+f<L.1*(mo es k:Rat)+L.2
 grind
theorem Tr.ch (h:Tr es β k fl ro ks ts):∀L,BH es β k fl ro L→Ch es ks ts L:=by
 induction h with
 | nil=>exact λL _=>.one
 | stay h hk hP hP' hN ih=>exact λL hF=>ih L ⟨λi a b=>hF.1 i a 0#c,λi a b=>hF.2 i a 0#c⟩
 | cap h hk hP hC ih=>exact λL hF=>.more (ih _ (hC.Ly (uM hk))) (Wl hk hC hF)
 | cup h hk hP hn hC ih=>exact λL hF=>.more (ih _ (hC.Ly (uM hk))) (Wo hk hC hF)
theorem Tr.len (h:Tr es β k fl ro ks ts):ks.length=ts.length∧ks.length≤k:=by
 induction h with
 | nil=>exact ⟨rfl,dG _⟩
 | stay h hk hP hP' hN ih=>exact ⟨ih.1,by simp?⟩
 | cap h hk hP hC ih=>exact ⟨by rw [fj,fj,ih.1];rfl,by rw [fj];show _+1≤_;simp?⟩
 | cup h hk hP hn hC ih=>exact ⟨by rw [fj,fj,ih.1];rfl,by rw [fj];show _+1≤_;simp?⟩
theorem Rel.ne (hr:rising es)  (h:Rel es z L0 L1):L0.1≠L1.1:=by
 obtain ⟨h1,h2,h3⟩:=h
 intro e
 split at h3
 ·rw [e] at h3
  grind
 ·rw [e] at h3
  grind
theorem Ci (h:i<ks.length):IL (ks++[L]) i=IL ks i∧Qj (ks++[L]) i=Qj ks i:=by
 unfold IL Qj
 rw [yb h]
 exact ⟨rfl,rfl⟩
theorem JQ:IL (ks++[L]) ks.length=L.1∧Qj (ks++[L]) ks.length=L.2:=by
 unfold IL Qj
 simp
theorem Ch.sep (hr:rising es)  (h:Ch es ks ts L):∀i,i<ks.length→IL (ks++[L]) i≠IL (ks++[L]) (i+1):=by
 induction h with
 | one=>exact λi hi=>absurd hi (Be _)
 | @more ks ts L0 L1 z h hR ih=>
   intro i hi
   rw [fj] at hi
   have hi':i<ks.length+1:=hi
   by_cases e:i=ks.length
   ·subst e
    have e1:IL (ks++[L0]++[L1]) (ks.length+1)=L1.1:=by
     have:=(JQ (ks:=ks++[L0]) (L:=L1)).1
     rw [fj] at this
     exact this
    rw [e1,(Ci (by rw [fj];show ks.length<ks.length+1;simp?)).1,(JQ).1]
    exact hR.ne hr
   ·have q1:=(Ci (ks:=ks++[L0]) (L:=L1) (i:=i) (by rw [fj];exact hi')).1
    have q2:=(Ci (ks:=ks++[L0]) (L:=L1) (i:=i+1) (by rw [fj];show i+1<ks.length+1;simp?)).1
    rw [q1,q2]
    exact ih i 0#c
def Pw (H:Hp) (β:Rat) (N:Nat) (r:List En) (z:List Pc×List Wf):Prop:=AllP H z.1 N∧(∀x∈z.2,Ru H r x)∧∃(ks:List (Rat×Rat)) (L:Rat×Rat) (fl ro:Nat) (g s:Option Rat),Tr r β r.length fl ro ks (z.2.map (·.2))∧BD r fl ro β g s∧IS r β fl g s L.1 L.2∧z.1.map (·.2)=(fM (ks.length+1)).map (MI (ks++[L]) (mo r 0) (mo r (r.length-1)))
theorem Pw.tv (t:∀{b:av} {xs:List V},H b=some 0#q→H' b=some 0#q) (h:Pw H β N r z):Pw H' β N r z:=⟨λx hx=>(h.1 x hx).mv t,λx hx=>t (h.2.1 x hx),h.2.2⟩
def oW (zs:List (List Pc×List Wf)):List V:=(zs.map λz=>z.1.map λx=>V.ref x.1).flatten
def GH (zs:List (List Pc×List Wf)):List V:=(zs.map λz=>z.2.map λx=>V.ref x.1).flatten
inductive xA (C:av) (vs:List V) (H:Hp) (Q:VK) (E_:XK):Prop where
 | mk (l pb:av) (es:List En) (β:Rat) (n nb:Nat):vs=[.ref l,.ref pb]→H l=some 0#A→Row H es n→rising es→es.length≤40→dz H pb β nb→0≤β→1≤n→n≤1500→(5*n+4*nb≤7900∧nb≤1000)→5*n+3*nb+7≤1300→(∀(y X Z:av) (zs:List (List Pc×List Wf)) (H':Hp),au H H'→H' y=some (.tup [.ref X,.ref Z])→H X=none→H Z=none→X≠Z→H' X=some (.lst (oW zs))→H' Z=some (.lst (GH zs))→jD (Pw H' β (6*(5*n+3*nb+7)+3)) (parts c8 es es.length) zs→Q (.ref y) H')→xA C vs H Q E_
section
variable {P:jv} {w:eV} {K:b9} {mg:Str→Option aL} {base:cN} {f aD:av} {fd:jP}
theorem z8:∀i:Nat,(parts s es i).flatten=(es.take i).filter s
 | 0=>by simp [parts]
 | i+1=>by
   have ih:=z8 (s:=s) (es:=es) i
   unfold parts
   cases e:es[i]? with
   | none=>
     dsimp only
     rw [ih,rF,e]
     simp
   | some x=>
     have tk:es.take (i+1)=es.take i++[x]:=by rw [rF,e];rfl
     rw [tk,DR]
     dsimp only
     split
     ·rename_i hs
      split
      ·rename_i hr
       obtain ⟨t,r,hp⟩:=sD hr
       rw [← ih,hp]
       simp [hs]
      ·rw [FD,ih]
       simp [hs]
     ·rename_i hs
      rw [ih]
      simp [hs]
theorem Lz {α:Type} {l:List (List α)} (i:Nat):(l.take i).flatten.length≤l.flatten.length:=by
 conv=>rhs;rw [← Lc i l]
 rw [FD,fj]
 simp?
theorem pN:aE ["row","bound","telling","paper","run","found"] ["row","bound"] (ah CW):=0#a
theorem Qx (F:cR K "joined" "joined" CW f fd) (T:Txt mg) (qo:Dn P w K mg base 1 "runs" ["row"] Dp) (vc:Dn P w K mg base 8 "links_of" ["run","bound"] (Ic aD)) (mU:Dn P w K mg base 7 "pieces_along" ["links","first","last"] HY):bf P w K mg base cY 9 f fd ["row","bound"] (xA aD):=by
 refine F.ok pN 0#e 0#b
 ·obtain ⟨l,pb,es,β,n,nb,rfl,_⟩:=h
  rfl
 obtain ⟨l,pb,es,β,n,nb,rfl,hl,hR,dH,jS,hb,mJ,h1,hn,hnb,hM,k⟩:=h
 refine bG ⟨_,(aq (aK 2 pN.nd (dI dX)) (aq (aK 3 pN.nd (dI dX)) (aq (c7 fQ rfl (dB K (Jd.c1 qo hr 0#j)) (bX (i:=4) pN.nd rfl 0#k) (aq (aK 5 pN.nd (bY vc hr 0#X 0#p)) (aq (eO (Jd.Jf K 0#s (Jd.c3 mU hr (aJ K (aa 5)) (aJ K (Jd.iL K 0#X)) (aJ K (bB 0#Z 0#X (fR cZ aA) 0#h)))) (hs:=eF)) (aH (eO (Jd.Jf K 0#E (aJ K (aa 5))) (hs:=eF)))))) (aH (aV (bJ (bq 0#s 0#E))))))),?_⟩
 rw?
 refine aF (mk:=.lst) 0#f λX H1 s1 n1 e1=>?_
 rw?
 refine aF (mk:=.lst) 0#f λZ H2 s2 n2 e2=>?_
 have fW:=s1.trans s2
 have Qo:X≠Z:=λz=>by rw [← z,e1] at n2;cases n2
 have nZ0:H Z=none:=s1.free n2
 rw?
 refine dJ (iD ?_)
 rw?
 refine ⟨l,es,n,rfl,fW _ _ hl,hR.up fW,jS,λTT ls H3 s3 DW hls afI _=>?_⟩
 have hll:ls.length=(parts c8 es es.length).length:=by rw [← hls,gV]
 have own:∀{G:Hp} {R:av} {v:List V},LL H2 G TT ls→H2 R=some (.lst v)→R≠TT∧∀x∈ls,x.1≠R:=λhG e=>⟨(λz=>by rw [z,hG.new] at e;cases e),(λx hx z=>by rw [← z,(hG.each x hx).1] at e;cases e)⟩
 obtain ⟨a1,a2⟩:=own DW (s2 _ _ e1)
 obtain ⟨b1,b2⟩:=own DW e2
 have hF:∀i,((parts c8 es es.length).take i).flatten.length≤40:=λi=>by
  have q1:=Lz (l:=parts c8 es es.length) i
  rw [z8,jR] at q1
  have q2:(es.filter c8).length≤es.length:=OV ..
  try?
 refine ⟨TT,rfl,⟨_,aX.of DW.at_⟩,eK (xs:=lrefs ls) (λi σ H4=>NP λ(zs:List (List Pc×List Wf)) (v5 v6:Option V)=>σ=[some 0#U,some (.ref pb),some (.ref X),some (.ref Z),v5,v6]∧au H H4∧LL H2 H4 TT ls∧H4 X=some (.lst (oW zs))∧H4 Z=some (.lst (GH zs))∧(oW zs).length≤2*((parts c8 es es.length).take i).flatten.length∧(GH zs).length≤((parts c8 es es.length).take i).flatten.length∧jD (Pw H4 β (6*(5*n+3*nb+7)+3)) ((parts c8 es es.length).take i) zs) ?_ ?_ ?_ ?_⟩
 ·exact ⟨[],none,none,rfl,fW.trans s3,DW,(s2.trans s3) _ _ e1,s3 _ _ e2,mD _,dG _,trivial⟩
 ·rintro i σ H4 _ ⟨zs,v5,v6,rfl,s4,Bl,_⟩
  exact aX.of Bl.at_
 ·rintro i x σ H4 hx ⟨zs,v5,v6,rfl,s4,Bl,eX,eZ,hz1,hz2,hJ⟩
  refine cE λM B RR hM' _ _=>?_
  obtain ⟨x,gx,rfl⟩:=pK hx
  have hi:i<ls.length:=(lS.mp gx).1
  have Rb:=lP gx
  have hp:(parts c8 es es.length)[i]?=some x.2:=by rw [← hls,dw,gx];rfl
  obtain ⟨o1,o2,o3⟩:=mL es.length x.2 (lP hp)
  rw [jR] at o3
  obtain ⟨_,ex,_⟩:=Bl.each x Rb
  have hx1:1≤x.2.length:=Ld.mpr o1
  have adv:x.2.length≤40:=dP o3.length_le jS
  have hRx:Row H4 x.2 n:=λz hz=>hR.up s4 z (o3.subset hz)
  have hrx:rising x.2:=dH.sublist o3
  have tkF:((parts c8 es es.length).take (i+1)).flatten.length=((parts c8 es es.length).take i).flatten.length+x.2.length:=by
   rw [DE,hp,FD,fj]
   simp
  have hF1:=hF (i+1)
  rw?
  refine ⟨x.1,pb,x.2,β,n,nb,rfl,ex,hRx,o2,hrx,hx1,by try?,hb.up s4,mJ,h1,hn,hnb,λy5 Ll Lt ln xO ks fl ro g s T5 f5 H5 s5 e5 nl5 nt5 eL5 hA5 hmap RX hT5 Sl hP WI hk5 ht5=>?_⟩
  have hch:=Sl.ch (T5,f5) (WI.Ly hP mJ)
  have hsep:=hch.sep hrx
  have afK:ln.length=ks.length+1:=by
   have:=congrArg tY hmap
   simpa using this
  have Rj:=s4.trans s5
  have hL5:=Bl.up s5
  obtain ⟨_,ex5,_⟩:=hL5.each x Rb
  obtain ⟨xa,ga,fa⟩:=cT (hRx.up s5) o2 (show 0<x.2.length by try?)
  obtain ⟨xb,gb,fb⟩:=cT (hRx.up s5) o2 (show x.2.length-1<x.2.length by try?)
  obtain ⟨va,ea,_,zma⟩:=id fa
  obtain ⟨vb,eb,_,zmb⟩:=id fb
  rw?
  refine ⟨.inl ⟨rfl,_,aX.of (s5 _ _ eX)⟩,?_⟩
  rw?
  refine cK ex5 (Bh ga) ?_
  rw?
  refine cK ex5 (F5 gb) ?_
  rw?
  refine ⟨Ll,ln,mo x.2 0,mo x.2 (x.2.length-1),5*n+3*nb+7,rfl,eL5,hA5,by try?,by try?,zma.mono 0#d,zmb.mono 0#d,by try?,hM,?_,λR6 ps H6 s6 nR6 eR6 hP6 hm6=>?_⟩
  ·intro j hj
   rw [hmap]
   exact hsep j 0#d
  rw [hmap,afK] at hm6
  have s56:=s5.trans s6
  have eX6:=s56 _ _ eX
  have agP:ps.length=ks.length+1:=by
   have:=congrArg tY hm6
   simpa using this
  have e56:=s6 _ _ e5
  rw?
  refine Fj eX6 eR6 (by rw [gV];exact uM (aO 0#d)) ?_
  have tp7:∀{b:av} {xs:List V},H6 b=some 0#q→upd H6 X (.lst (oW zs++ps.map λx=>V.ref x.1)) b=some 0#q:=λe=>kG eX6 e
  have eX7:upd H6 X (.lst (oW zs++ps.map λx=>V.ref x.1)) X=some (.lst (oW (zs++[(ps,xO)]))):=by rw [aB];simp [oW]
  have nZX:Z≠X:=jA Qo
  have eZ7:upd H6 X (.lst (oW zs++ps.map λx=>V.ref x.1)) Z=some (.lst (GH zs)):=by rw [aM nZX];exact s56 _ _ eZ
  have af4:Lt≠X:=λz=>by rw [z,eX] at nt5;cases nt5
  have eT7:upd H6 X (.lst (oW zs++ps.map λx=>V.ref x.1)) Lt=some (.lst (xO.map λx=>V.ref x.1)):=by rw [aM af4];exact s6 _ _ RX
  have hL7:LL H2 (upd H6 X (.lst (oW zs++ps.map λx=>V.ref x.1))) TT ls:=(Bl.up s56).other a1 a2
  have Ui:au H (upd H6 X (.lst (oW zs++ps.map λx=>V.ref x.1))):=aZ (s4.trans s56) n1
  have e57:=tp7 e56
  generalize upd H6 X (.lst (oW zs++ps.map λx=>V.ref x.1))=H7 at *
  rw?
  refine ⟨.inl ⟨rfl,_,aX.of eZ7⟩,?_⟩
  rw?
  refine Fj eZ7 eT7 (by rw [gV];exact uM (aO 0#d)) ?_
  have tp8:∀{b:av} {xs:List V},H7 b=some 0#q→upd H7 Z (.lst (GH zs++xO.map λx=>V.ref x.1)) b=some 0#q:=λe=>kG eZ7 e
  have l1:(oW (zs++[(ps,xO)])).length=(oW zs).length+ps.length:=by simp [oW]
  have l2:(GH (zs++[(ps,xO)])).length=(GH zs).length+xO.length:=by simp [GH]
  refine hM' _ _ ⟨zs++[(ps,xO)],_,_,rfl,aZ Ui nZ0,hL7.other b1 b2,by rw [aM Qo];exact eX7,by rw [aB];simp [GH],by rw [l1,tkF];try?,by rw [l2,tkF];try?,?_⟩
  rw [DE,hp]
  refine mX (um (λa b _ h=>h.tv λ{b xs} e=>tp8 (tp7 (s56 _ _ e))) hJ) ⟨λz hz=>((hP6 z hz).mv tp7).mv tp8,λz hz=>tp8 (tp7 (s6 _ _ (hT5 z hz))),ks,(T5,f5),fl,ro,g,s,Sl,hP,WI,hm6⟩
 ·rintro σ H4 ⟨zs,v5,v6,rfl,s4,Bl,eX,eZ,_,_,hJ⟩
  rw [d9,hll,jR] at hJ
  rw?
  refine aF (mk:=.tup) 0#f λy H5 s5 n5 e5=>?_
  exact k y X Z zs H5 0#R e5 n1 nZ0 Qo (s5 _ _ eX) (s5 _ _ eZ) (um (λa b _ h=>h.tv λ{b xs} e=>s5 _ _ e) hJ)
end
def pD (t w:Nat→Rat) (β:Rat) (k fl ro:Nat) (T f:Rat):Prop:=(∀i,fl≤i→i<k→w i-T*t i-β≤f)∧∀i,ro≤i→i<k→f≤w i-T*t i+β
structure BI (t w:Nat→Rat) (β:Rat) (k fl ro F:Nat):Prop where
 le:F≤ro
 below:∀T f,pD t w β k fl ro T f→∀i,F≤i→i<k→f≤w i-T*t i+β
 aaQ:∀T f,pD t w β k fl ro T f→∀i j,F≤i→i<j→j<k→∀x v:Rat,(∀m,m<k→t m<x)→T*x+f≤v→(w j-β)*(x-t i)≤(w i+β)*(x-t j)+v*(t j-t i)
section
theorem adx:BI t w β 0 0 0 0:=⟨dG _,λ_ _ _ i _ h=>absurd h (Be _),λ_ _ _ i j _ _ h=>absurd h (Be _)⟩
theorem SW {T:Rat} (h1:ti<tk) (h2:tk<x) (hb:f≤wi-T*ti+β) (hl:wk-T*tk-β≤f) (hv:T*x+f≤v):(wk-β)*(x-ti)≤(wi+β)*(x-tk)+v*(tk-ti):=by
 have a1:0≤x-tk:=by grind
 have a2:0≤tk-ti:=by grind
 have a3:0≤x-ti:=by grind
 have m1:=zQ (show T*ti+f≤wi+β by grind) a1
 have m2:=zQ hv a2
 have m3:=zQ (show wk-β≤T*tk+f by grind) a3
 grind
theorem JH (hr:∀i j,i<j→j<k+1→t i<t j) (hfl:fl≤k) (z5:ro≤k) (h:BI t w β k fl ro F):BI t w β (k+1) fl ro F:=by
 have old:∀{T f:Rat},pD t w β (k+1) fl ro T f→pD t w β k fl ro T f:=λhF=>⟨λi a b=>hF.1 i a 0#c,λi a b=>hF.2 i a 0#c⟩
 have bl:∀T f,pD t w β (k+1) fl ro T f→∀i,F≤i→i<k+1→f≤w i-T*t i+β:=λT f hF i h1 h2=>by
  by_cases e:i=k
  ·subst e
   exact hF.2 i z5 0#c
  ·exact h.below T f (old hF) i h1 0#c
 refine ⟨h.le,bl,λT f hF i j h1 h2 h3 x v hx hv=>?_⟩
 by_cases e:j=k
 ·subst e
  exact SW (hr i j h2 0#c) (hx j 0#c) (bl T f hF i h1 0#c) (hF.1 j hfl 0#c) hv
 ·exact h.aaQ T f (old hF) i j h1 h2 0#c x v (λm hm=>hx m 0#c) hv
theorem Og:BI t w β (k+1) b k k:=
 ⟨dG _,λT f hF i h1 h2=>hF.2 i h1 h2,λT f hF i j h1 h2 h3=>absurd h3 0#c⟩
theorem Oh (hr:∀i j,i<j→j<k+1→t i<t j) (h:BI t w β k fl ro F) (hF0:pD t w β k fl ro S f0) (hb1:ro≤b) (hb2:b<k) (eb:w b-S*t b+β=f0) (ek:f0<w k-S*t k-β):BI t w β (k+1) k b F:=by
 have key:∀T f,pD t w β (k+1) k b T f→S<T∧T*t b+f≤S*t b+f0∧S*t k+f0<T*t k+f:=λT f hF=>by
  have l1:=hF.1 k (dG _) 0#c
  have l2:=hF.2 b (dG _) 0#c
  have d:=hr b k hb2 0#c
  have a1:T*t b+f≤S*t b+f0:=by grind
  have a2:S*t k+f0<T*t k+f:=by grind
  refine ⟨rB.mp λz=>?_,a1,a2⟩
  have:=zQ z (show 0≤t k-t b by grind)
  grind
 have bl:∀T f,pD t w β (k+1) k b T f→∀i,F≤i→i<k+1→f≤w i-T*t i+β:=λT f hF i h1 h2=>by
  by_cases e:b≤i
  ·exact hF.2 i e h2
  ·obtain ⟨q1,q2,q3⟩:=key T f hF
   have d:=hr i b 0#c 0#c
   have o:=h.below S f0 hF0 i h1 0#c
   have:=zQ (K4 q1) (show 0≤t b-t i by grind)
   grind
 refine ⟨dP h.le hb1,bl,λT f hF i j h1 h2 h3 x v hx hv=>?_⟩
 by_cases e:j=k
 ·subst e
  exact SW (hr i j h2 0#c) (hx j 0#c) (bl T f hF i h1 0#c) (hF.1 j (dG _) 0#c) hv
 ·obtain ⟨q1,q2,q3⟩:=key T f hF
  refine h.aaQ S f0 hF0 i j h1 h2 0#c x v (λm hm=>hx m 0#c) ?_
  have dx:=hx k 0#c
  have:=zQ (K4 q1) (show 0≤x-t k by grind)
  grind
theorem S8 (hr:∀i j,i<j→j<k+1→t i<t j) (h:BI t w β k fl ro F) (hF0:pD t w β k fl ro S f0) (ek:S*t k+f0≤w k+β)  (h1:F≤i) (h2:i<j) (h3:j<k):w j*(t k-t i)-w i*(t k-t j)-w k*(t j-t i)≤2*β*(t k-t i):=by
 have:=h.aaQ S f0 hF0 i j h1 h2 h3 (t k) (w k+β) (λm hm=>hr m k hm 0#c) ek
 grind
end
inductive Gr (E:Nat→Nat→Prop):Nat→Nat→Nat→Prop where
 | nil:Gr E 0 0 0
 | no {k F n:Nat} (h:Gr E k F n) (he:¬E F k):Gr E (k+1) F n
 | yes {k F n:Nat} (h:Gr E k F n) (he:E F k):Gr E (k+1) k (n+1)
theorem Gr.uniq (h:Gr E k F n):∀{F' n':Nat},Gr E k F' n'→F=F'∧n=n':=by
 induction h with
 | nil=>intro F' n' h';cases h';exact ⟨rfl,rfl⟩
 | no h he ih=>
   intro F' n' h'
   cases h' with
   | no h2 V2=>exact ih h2
   | yes h2 V2=>
     obtain ⟨rfl,rfl⟩:=ih h2
     exact absurd V2 he
 | yes h he ih=>
   intro F' n' h'
   cases h' with
   | no h2 V2=>
     obtain ⟨rfl,rfl⟩:=ih h2
     exact absurd he V2
   | yes h2 V2=>exact ⟨rfl,by rw [(ih h2).2]⟩
def Hig (es:List En) (β:Rat) (F k:Nat):Prop:=∃i j,F≤i∧i<j∧j<k∧2*β<sd es i j k
def Lm (es:List En) (β:Rat) (F k:Nat):Prop:=∃i j,F≤i∧i<j∧j<k∧sd es i j k < -(2*β)
theorem Uy (hr:rising es)  (h1:i<j) (h2:j<k) (h3:k<es.length):sd es i j k*1#e=wo es j*1#e-wo es i*((mo es k:Rat)-(mo es j:Rat))-wo es k*((mo es j:Rat)-(mo es i:Rat)):=by
 have d:=i8 hr (Ao h1 h2) h3
 unfold sd c6
 generalize hD:(mo es k:Rat)-(mo es i:Rat)=D at *
 have:D≠0:=by grind
 grind
theorem BD.line (h:BD ss fl ro β g s) (mJ:0≤β) (h0:0<ss.length):∃L,BH ss β ss.length fl ro L:=by
 cases hg:g with
 | some G=>
   obtain ⟨g1,g2⟩:=h.hiG hg
   obtain ⟨q,p,a1,a2,a3,a4,e⟩:=id g1.2
   have e':=(Mc h.Er a2 a4).mp e
   refine ⟨(G,cV ss G q+β),λi hi hl=>?_,λi hi hl=>?_⟩
   ·have:=Pz (a:=q) (b:=i) 0#O h.Er g1.1 g2 a1 hi 0#c hl
    show cV ss G i-β≤cV ss G q+β
    grind
   ·have:=Pz (a:=i) (b:=p) 0#O h.Er g1.1 g2 hi a3 hl a4
    show cV ss G q+β≤cV ss G i+β
    grind
 | none=>
   cases hs:s with
   | some S=>
     obtain ⟨g1,g2⟩:=h.loS hs
     obtain ⟨q,p,a1,a2,a3,a4,e⟩:=id g1.2
     have e':=(Gy h.Er a2 a4).mp e
     refine ⟨(S,cV ss S q-β),λi hi hl=>?_,λi hi hl=>?_⟩
     ·have:=Pz (a:=p) (b:=i) 0#O h.Er g2 g1.1 a3 hi a4 hl
      show cV ss S i-β≤cV ss S q-β
      grind
     ·have:=Pz (a:=i) (b:=q) 0#O h.Er g2 g1.1 hi a1 hl 0#c
      show cV ss S q-β≤cV ss S i+β
      grind
   | none=>
     have h2:=h.two.mpr ⟨hg,hs⟩
     refine ⟨(0,wo ss 0),λi hi hl=>?_,λi hi hl=>?_⟩
     ·obtain rfl:i=0:=by simp?
      show cV ss 0 0-β≤wo ss 0
      unfold cV
      grind
     ·obtain rfl:i=0:=by simp?
      show wo ss 0≤cV ss 0 0+β
      unfold cV
      grind
def wI (c:Bool):List (Bool×Nat×Nat×Nat)→Nat:=λts=>(ts.filter (λz=>z.1==c)).getLast?.elim 0 (·.2.2.2)
def cnt (c:Bool) (ts:List (Bool×Nat×Nat×Nat)):Nat:=(ts.filter (λz=>z.1==c)).length
theorem qv:wI c (ts++[(c,a,b,k)])=k∧cnt c (ts++[(c,a,b,k)])=cnt c ts+1:=by
 unfold wI cnt
 rw [DR]
 simp
theorem oA (h:d≠c):wI c (ts++[(d,a,b,k)])=wI c ts∧cnt c (ts++[(d,a,b,k)])=cnt c ts:=by
 unfold wI cnt
 rw [DR]
 have:(d==c)=false:=by simpa using h
 simp [this]
theorem Wn (ts:List (Bool×Nat×Nat×Nat)):cnt true ts+cnt false ts=ts.length:=by
 unfold cnt
 induction ts with
 | nil=>rfl
 | cons z r ih=>
   obtain ⟨c,z⟩:=z
   cases c with
   | true=>
     rw [KD (by rfl),OR 0#f]
     simp only [Ah]
     simp?
   | false=>
     rw [OR 0#f,KD (by rfl)]
     simp only [Ah]
     simp?
theorem BZ (h:BH es β k fl ro L):pD (λi=>(mo es i:Rat)) (wo es) β k fl ro L.1 L.2:=⟨λi a b=>h.1 i a b,λi a b=>h.2 i a b⟩
theorem yq (h:BH es β k fl ro L):pD (λi=>(mo es i:Rat)) (λi=>- wo es i) β k ro fl (-L.1) (-L.2):=
 ⟨λi a b=>by
  have:=h.2 i a b
  unfold cV at this
  grind,λi a b=>by
  have:=h.1 i a b
  unfold cV at this
  grind⟩
theorem Tr.most (hr:rising es) (mJ:0≤β)  (h:Tr es β k fl ro ks ts) :
 BI (λi=>(mo es i:Rat)) (wo es) β k fl ro (wI true ts)∧BI (λi=>(mo es i:Rat)) (λi=>- wo es i) β k ro fl (wI false ts)∧Gr (Hig es β) k (wI true ts) (cnt true ts)∧Gr (Lm es β) k (wI false ts) (cnt false ts):=by
 have hrk:∀{k:Nat},k<es.length→∀i j,i<j→j<k+1→(λi=>(mo es i:Rat)) i<(λi=>(mo es i:Rat)) j:=λhk i j h1 h2=>vW.mpr (iu hr h1 0#c)
 have Yy:∀{k fl ro F:Nat} {T f:Rat},k<es.length→BI (λi=>(mo es i:Rat)) (wo es) β k fl ro F→pD (λi=>(mo es i:Rat)) (wo es) β k fl ro T f→T*(mo es k:Rat)+f≤wo es k+β→¬Hig es β F k:=λ{k fl ro F T f} hk hI hF ek ⟨i,j,h1,h2,h3,h4⟩=>by
  have:=S8 (hrk hk) hI hF ek h1 h2 h3
  have e:=Uy hr h2 h3 hk
  have m:=IB h4 (i8 hr (Ao h2 h3) hk)
  grind
 have Yz:∀{k fl ro F:Nat} {T f:Rat},k<es.length→BI (λi=>(mo es i:Rat)) (λi=>- wo es i) β k ro fl F→pD (λi=>(mo es i:Rat)) (λi=>- wo es i) β k ro fl T f→T*(mo es k:Rat)+f≤- wo es k+β→¬Lm es β F k:=λ{k fl ro F T f} hk hI hF ek ⟨i,j,h1,h2,h3,h4⟩=>by
  have:=S8 (hrk hk) hI hF ek h1 h2 h3
  have e:=Uy hr h2 h3 hk
  have m:=IB h4 (i8 hr (Ao h2 h3) hk)
  grind
 have agH:∀{k i a b:Nat},k≤es.length→i<k→a<k→b<k→sd (es.take k) i a b=sd es i a b:=λhk hi ha hb=>by
  unfold sd
  rw [lZ hi,BB hi,lZ ha,BB ha,lZ hb,BB hb]
 induction h with
 | nil=>exact ⟨adx,adx,.nil,.nil⟩
 | @stay k fl ro ls ts g s g' s' h hk hP hP' hN ih=>
   obtain ⟨i1,i2,g1,g2⟩:=ih
   have tl:(es.take k).length=k:=by rw [uL];simp?
   have tl':(es.take (k+1)).length=k+1:=by rw [uL];simp?
   have hfl:=hP.hfl
   have z5:=hP.z5
   rw [tl] at hfl z5
   obtain ⟨L,hL⟩:=hP'.line mJ (by rw [tl'];simp?)
   rw [tl'] at hL
   have hL':BH es β (k+1) fl ro L:=⟨λi a b=>by have:=hL.1 i a b;rw [gO b] at this;exact this,λi a b=>by have:=hL.2 i a b;rw [gO b] at this;exact this⟩
   have hL0:BH es β k fl ro L:=⟨λi a b=>hL'.1 i a 0#c,λi a b=>hL'.2 i a 0#c⟩
   have u1:=hL'.1 k hfl 0#c
   have u2:=hL'.2 k z5 0#c
   unfold cV at u1 u2
   refine ⟨JH (hrk hk) hfl z5 i1,JH (hrk hk) z5 hfl i2,.no g1 ?_,.no g2 ?_⟩
   ·exact Yy hk i1 (BZ hL0) 0#O
   ·exact Yz hk i2 (yq hL0) 0#O
 | @cap k fl ro a b ls ts s G f h hk hP hC ih=>
   obtain ⟨i1,i2,g1,g2⟩:=ih
   have tl:(es.take k).length=k:=by rw [uL];simp?
   have hb:=hC.lb
   have hab:=hC.hab
   rw [tl] at hb
   have hF:=hC.Ly (uM hk)
   have eb:=hC.eb
   rw [gO hb] at eb
   obtain ⟨i,j1,j2,ej⟩:=hC.off
   have lj:=hC.lo i j1 j2
   obtain ⟨x,gx⟩:∃x,es[k]?=some x:=⟨es[k],mC hk⟩
   have low:f<wo es k-G*(mo es k:Rat)-β→False:=λz=>by grind
   have up:wo es k-G*(mo es k:Rat)+β<f:=by grind
   rw [(qv).1,(qv).2,(oA 0#i).1,(oA 0#i).2]
   have sdk:2*β<sd es a b k:=by
    refine aee (T:=G) (f:=f) hr hab hb hk ?_ eb ?_
    ·have:=hC.ea
     rw [gO 0#c] at this
     exact this
    ·unfold cV
     grind
   refine ⟨Og,?_,.yes g1 ⟨a,b,dP i1.le hC.ha,hab,hb,sdk⟩,.no g2 ?_⟩
   ·refine Oh (S:=-G) (f0:=-f) (hrk hk) i2 (yq hF) hC.hb hb ?_ ?_
    ·unfold cV at eb
     grind
    ·grind
   ·exact Yz hk i2 (yq hF) (by show -G*(mo es k:Rat)+-f≤- wo es k+β;grind)
 | @cup k fl ro a b ls ts g S f h hk hP hn hC ih=>
   obtain ⟨i1,i2,g1,g2⟩:=ih
   have tl:(es.take k).length=k:=by rw [uL];simp?
   have hb:=hC.lb
   have hab:=hC.hab
   rw [tl] at hb
   have hF:=hC.Ly (uM hk)
   have eb:=hC.eb
   rw [gO hb] at eb
   obtain ⟨i,j1,j2,ej⟩:=hC.off
   have lj:=hC.hi i j1 j2
   have up:f<wo es k-S*(mo es k:Rat)-β:=by grind
   rw [(qv).1,(qv).2,(oA 0#i).1,(oA 0#i).2]
   have sdk:sd es a b k < -(2*β):=by
    refine aef (T:=S) (f:=f) hr hab hb hk ?_ eb ?_
    ·have:=hC.ea
     rw [gO 0#c] at this
     exact this
    ·unfold cV
     grind
   refine ⟨?_,Og,.no g1 ?_,.yes g2 ⟨a,b,dP i2.le hC.ha,hab,hb,sdk⟩⟩
   ·refine Oh (S:=S) (f0:=f) (hrk hk) i1 (BZ hF) hC.hb hb ?_ ?_
    ·unfold cV at eb
     grind
    ·grind
   ·exact Yy hk i1 (BZ hF) (by show S*(mo es k:Rat)+f≤wo es k+β;grind)
def Seg (es:List Nn) (i:Nat) (ls:List (List Nn)) (c:List Nn):Prop:=(ls++[c]).filter (λr=>!r.isEmpty)=parts rC es i∧(bU rC es i=true↔c≠[])
theorem XS (h:Seg es i ls c) (he:es[i]?=some e) (hs:rC e=false):Seg es (i+1) (ls++[c]) []:=by
 obtain ⟨h1,h2⟩:=h
 refine ⟨?_,?_⟩
 ·rw [jm he hs,← h1,DR (l₁:=ls++[c])]
  simp
 ·rw [fN he,hs]
  simp
theorem ach (h:Seg es i ls c) (he:es[i]?=some e) (hs:rC e=true):Seg es (i+1) ls (c++[e]):=by
 obtain ⟨h1,h2⟩:=h
 refine ⟨?_,?_⟩
 ·rw [DR] at h1 ⊢
  cases hi:bU rC es i with
  | true=>
    have hc:=h2.mp hi
    have:(!c.isEmpty)=true:=by cases c with | nil=>exact absurd rfl hc | cons a b=>rfl
    rw [DA,this,if_pos rfl,Vr] at h1
    rw [m9 he hs hi h1.symm]
    simp
  | false=>
    have hc:c=[]:=Q8 λz=>by rw [h2.mpr z] at hi;cases hi
    subst hc
    rw [jn he hs hi,← h1]
    simp
 ·rw [fN he,hs]
  simp
structure VL (H H2:Hp) (T:av) (ls:List (av×List V)):Prop where
 new:H T=none
 at_:H2 T=some (.lst (ls.map λx=>V.ref x.1))
 each:∀x∈ls,H x.1=none∧H2 x.1=some (.lst x.2)∧x.1≠T
 nd:(ls.map (·.1)).Nodup
section
theorem VL.up (h:VL H H2 T ls) (s:au H2 H3):VL H H3 T ls:=⟨h.new,s _ _ h.at_,λx hx=>let ⟨a,b,c⟩:=h.each x hx;⟨a,s _ _ b,c⟩,h.nd⟩
theorem VL.push (h:VL H H2 T ls) (hR:H R=none) (eR:H2 R=some (.lst rn)) (hT:R≠T) (hl:∀x∈ls,x.1≠R):VL H (upd H2 T (.lst (ls.map (λx=>V.ref x.1)++[.ref R]))) T (ls++[(R,rn)]):=by
 refine ⟨h.new,by rw [aB];simp,λx hx=>?_,?_⟩
 ·rcases dg.mp hx with z | z
  ·obtain ⟨a,b,c⟩:=h.each x z
   exact ⟨a,by rw [aM c];exact b,c⟩
  ·obtain rfl:x=(R,rn):=by simpa using z
   exact ⟨hR,by rw [aM hT];exact eR,hT⟩
 ·rw [iI]
  refine O3.mpr ⟨h.nd,by simp,λa ha b hb=>?_⟩
  obtain ⟨x,hx,rfl⟩:=gD.mp ha
  obtain rfl:b=R:=by simpa using hb
  exact hl x hx
theorem VL.last (h:VL H H2 T (ls++[(L,c)])):VL H (upd H2 L (.lst (c++[x]))) T (ls++[(L,c++[x])]):=by
 obtain ⟨hL,eL,nL⟩:=h.each (L,c) 0#f
 have hnd:=h.nd
 rw [iI] at hnd
 have hne:∀y∈ls,y.1≠L:=λy hy z=>(O3.mp hnd).2.2 y.1 (gD.mpr ⟨y,hy,rfl⟩) L 0#f z
 refine ⟨h.new,?_,λy hy=>?_,by rw [iI];exact hnd⟩
 ·rw [aM (jA nL)]
  have:=h.at_
  simpa using this
 ·rcases dg.mp hy with z | z
  ·obtain ⟨a,b,c'⟩:=h.each y (Fz _ z)
   exact ⟨a,by rw [aM (hne y z)];exact b,c'⟩
  ·obtain rfl:y=(L,c++[x]):=by simpa using z
   exact ⟨hL,aB,nL⟩
end
abbrev Nls:=List (av×List Nn)
def Qq (ls:Nls):List (av×List V):=ls.map λx=>(x.1,bE x.2)
inductive Ie (vs:List V) (H:Hp) (Q:VK) (E_:XK):Prop where
 | mk (l:av) (es:List Nn) (m n:Nat):vs=[.ref l]→H l=some (.lst (bE es))→iB H es m n→es.length≤40→(∀(D:av) (ls:Nls) (H':Hp),au H H'→H D=none→H' D=some (.lst (ls.map λx=>V.ref x.1))→(∀x∈ls,H x.1=none∧H' x.1=some (.lst (bE x.2)))→ls.map (·.2)=parts rC es es.length→Q (.ref D) H')→Ie vs H Q E_
section
theorem tG:aE ["_law_row_here","_law_parts_here","_law_one"] ["_law_row_here"] (ah vJ):=0#a
theorem J1 (F:cR K "_law_runs" "_law_runs" vJ f fd) (T:Txt mg):bf P w K mg base cY 1 f fd ["_law_row_here"] Ie:=by
 refine F.ok tG 0#e 0#b
 ·obtain ⟨l,es,m,n,rfl,_⟩:=h
  rfl
 obtain ⟨l,es,m,n,rfl,hl,hes,hn,k⟩:=h
 refine bG ⟨_,(aq (aK 1 tG.nd (dI (dD (dI dX)))) (aq (c7 fQ rfl (dB K 0#j) (bX (i:=2) tG.nd rfl 0#k) (aH (bW (bC qz (aJ K 0#s) dN 0#J) (aH (eO (gM K 0#p (dI dX)) (hs:=eF))) (aH (eO (gM K (bB 0#Z 0#p (fR cZ aA) 0#h) 0#s) (hs:=eF)))))) (aH (aV (oz (O:=["_law_part"]) (N':=[]) (cap:=[]) rfl (dB K 0#p) (λ_ _ _ _ _=>(bX (i:=0) (show jd [("_law_part":Str)] by decide +kernel) rfl 0#k)) (λ_ _ _ _ _=>(wH (bC dS (dQ (adA K) rfl T.eU Z1 (cG 0#j dX bw) (he:=bw) (hpl:=cg)) aA 0#J))) (λ_ _ _ _ _=>0#j) rfl trivial rfl 0#g rfl 0#g))))),?_⟩
 rw?
 refine aF (mk:=.lst) 0#f λL0 H1 s1 n1 e1=>?_
 rw?
 refine aF (mk:=.lst) 0#f λTT H2 s2 n2 e2=>?_
 have fW:=s1.trans s2
 rw?
 refine dJ (iD ?_)
 rw?
 refine ⟨l,rfl,⟨_,aX.of (fW _ _ hl)⟩,eK (xs:=bE es) (λi σ H3=>Rv λ(ls:Nls) (L:av) (c:List Nn) (v:Option V)=>σ=[some 0#U,some (.ref TT),v]∧au H H3∧VL H H3 TT (Qq ls++[(L,bE c)])∧ls.length≤i∧c.length≤i∧Seg es i (ls.map (·.2)) c) ?_ ?_ ?_ ?_⟩
 ·refine ⟨[],L0,[],none,rfl,fW,⟨s1.free n2,e2,λx hx=>?_,by simp [Qq]⟩,dG _,dG _,rfl,by simp [bU]⟩
  obtain rfl:x=(L0,[]):=by simpa [Qq,bE] using hx
  exact ⟨n1,s2 _ _ e1,λz=>by rw [← z] at n2;exact absurd (n2.symm.trans e1) 0#f⟩
 ·rintro i σ H3 _ ⟨ls,L,c,v,rfl,s3,_⟩
  exact aX.of (s3 _ _ hl)
 ·rintro i x σ H3 hx ⟨ls,L,c,v,rfl,s3,hV,hls,hc,SA⟩
  refine cE λM B R hM _ _=>?_
  obtain ⟨e,he,rfl⟩:=pL hx
  have hi:i<es.length:=(lS.mp he).1
  have fe:=((hes e (lP he)).up s3).1
  have hat:=hV.at_
  rw?
  refine 0#M
  rw?
  cases hs:e.2.2 with
  | none=>
    have hs':rC e=false:=by unfold rC;rw [hs];rfl
    refine cB ?_
    rw?
    refine ⟨.inl ⟨rfl,_,aX.of hat⟩,?_⟩
    rw?
    refine aF (mk:=.lst) 0#f λR2 H4 s4 n4 e4=>?_
    rw?
    have hV4:=hV.up s4
    refine cJ hV4.at_ (by simp [Qq];exact aO 0#d) ?_
    have hold:∀x∈Qq ls++[(L,bE c)],x.1≠R2:=λx hx z=>by
     rw [← z,(hV.each x hx).2.1] at n4
     cases n4
    refine hM _ _ ⟨ls++[(L,c)],R2,[],_,rfl,aZ 0#S hV.new,?_,by simp;try?,mD _,?_⟩
    ·have:=hV4.push (s3.free n4) e4 (λz=>by rw [z,hat] at n4;cases n4) hold
     rw [show Qq (ls++[(L,c)])=Qq ls++[(L,bE c)] by simp [Qq]]
     exact this
    ·rw [iI]
     exact XS SA he hs'
  | some z=>
    have hs':rC e=true:=by unfold rC;rw [hs];rfl
    refine bI ?_
    rw?
    refine cK hat (v:=.ref L) (by rw [iI];exact Wg) ?_
    have eL:=(hV.each (L,bE c) 0#f).2.1
    refine ⟨.inl ⟨rfl,_,aX.of eL⟩,?_⟩
    rw?
    refine cJ eL (by rw [bh];exact aO 0#d) ?_
    refine hM _ _ ⟨ls,L,c++[e],_,rfl,aZ s3 (hV.each (L,bE c) 0#f).1,?_,by try?,by simp;try?,ach SA he hs'⟩
    rw [← iw]
    exact hV.last
 ·rintro σ H3 ⟨ls,L,c,v,rfl,s3,hV,hls,hc,SA⟩
  rw?
  refine iD ?_
  rw?
  rw [bh] at hls hc SA
  have hall:(Qq ls++[(L,bE c)])=Qq (ls++[(L,c)]):=by simp [Qq]
  rw [hall] at hV
  have hat:=hV.at_
  generalize JC:ls++[(L,c)]=us at *
  have hul:us.length≤41:=by rw [← JC];simp;try?
  have eu:(Qq us).map (λx=>V.ref x.1)=us.map λx=>V.ref x.1:=by unfold Qq;rw [pT];rfl
  rw [eu] at hat
  refine ⟨TT,rfl,⟨_,aX.of hat⟩,?_⟩
  refine cF (xs:=us.map λx=>V.ref x.1) bZ (λH4 s4=>aX.of (s4 _ _ hat)) (by rw [gV];try?) (λi ys G=>ys=((us.take i).filter λx=>!x.2.isEmpty).map λx=>V.ref x.1) rfl ?_ ?_
  ·rintro D i x ys H4 jV NN N0 h0 hD eD s4 hx hy rfl kY kN
   rw [dw] at hx
   obtain ⟨x,gx,rfl⟩:=IC.mp hx
   have ex:=(hV.each (x.1,bE x.2) (gD.mpr ⟨x,lP gx,rfl⟩)).2.1
   have ts:=K9 (λx:av×List Nn=>!x.2.isEmpty) us i x gx
   refine fO h0 ?_
   rw?
   refine cy (.inl (aX.of (s4 _ _ ex))) ?_
   rw [bh]
   rw?
   refine cD 0#C 0#C
   ·have rW:=jw c1
    rw?
    refine kY _ H4 0#x ?_
    have:(!x.2.isEmpty)=true:=by cases V5:x.2 with | nil=>rw [V5] at rW;exact absurd rW 0#f | cons a b=>rfl
    rw [ts,this,if_pos rfl,iI]
    rfl
   ·refine kN H4 0#x ?_
    have:(!x.2.isEmpty)=false:=by cases V5:x.2 with | nil=>rfl | cons a b=>rw [V5] at c1;exact absurd (jb (show (0:Int)<(((a::b).length:Nat):Int) by rw [Ah];simp?)) c1
    rw [ts,this,if_neg dW,vX]
  ·rintro D ys H4 hD eD s4 hy rfl
   rw [gV,jR] at eD
   refine k D _ H4 0#S (s3.free hD) eD (λx hx=>?_) ?_
   ·have hx':=hV.each (x.1,bE x.2) (gD.mpr ⟨x,(DS.mp hx).1,rfl⟩)
    exact ⟨hx'.1,s4 _ _ hx'.2.1⟩
   ·have e:=SA.1
    rw [← e,show ls.map (·.2)++[c]=us.map (·.2) by rw [← JC];simp,Vs]
    rfl
end
def gh (hs:List Nn) (b:Int):List En:=hs.map λx=>(x.1,cz b x.2)
theorem rZ (hs:List Nn) (b:Int):(gh hs b).map (·.2)=hs.map (λx=>cz b x.2):=by unfold gh;rw [pT];rfl
theorem gU (hs:List Nn) (b:Int):(gh hs b).length=hs.length:=gV ..
theorem R8:jE L 1 λ_=>0:=⟨rfl,λi j h1 h2=>by simp?,λj h1 h2=>by simp?⟩
theorem PK (h:jE L N t) (h1:1≤N) (hle:∀k,k<N→L k N→u≤t k+1) (hex:∃k,k<N∧L k N∧u=t k+1):jE L (N+1) λj=>if j=N then u else t j:=by
 refine ⟨?_,λi j hij hj hL=>?_,λj h0 hj=>?_⟩
 ·show (if 0=N then u else t 0)=0
  rw [if_neg 0#c]
  exact h.first
 ·show (if j=N then u else t j)≤(if i=N then u else t i)+1
  rw [if_neg (show i≠N by simp?)]
  by_cases e:j=N
  ·rw [if_pos e]
   subst e
   exact hle i hij hL
  ·rw [if_neg e]
   exact h.le i j hij 0#c hL
 ·by_cases e:j=N
  ·obtain ⟨k,hk,hL,hu⟩:=hex
   refine ⟨k,by simp?,by rw [e];exact hL,?_⟩
   show (if j=N then u else t j)=(if k=N then u else t k)+1
   rw [if_pos e,if_neg 0#c]
   exact hu
  ·obtain ⟨k,hk,hL,hu⟩:=h.ex j h0 0#c
   refine ⟨k,hk,hL,?_⟩
   show (if j=N then u else t j)=(if k=N then u else t k)+1
   rw [if_neg e,if_neg 0#c]
   exact hu
theorem L5 (N:Nat) (t:Nat→Int) (u:Int):ig N t++[.int u]=ig (N+1) λj=>if j=N then u else t j:=by
 unfold ig
 rw [vY,iI]
 congr 1
 ·refine U8 λj hj=>?_
  show V.int (t j)=V.int (if j=N then u else t j)
  rw [if_neg (lO (rH.mp hj))]
 ·simp
theorem uv (f:α→β) (s:β→Bool) (es:List α):∀i,(parts (λx=>s (f x)) es i).map (Ar f)=parts s (es.map f) i
 | 0=>rfl
 | i+1=>by
   have ih:=uv f s es i
   have hr:bU s (es.map f) i=bU (λx=>s (f x)) es i:=by
    unfold bU
    rw [dw]
    cases es[i-1]? <;> rfl
   cases e:es[i]? with
   | none=>
     have e':(es.map f)[i]?=none:=by rw [dw,e];rfl
     unfold parts
     rw [e,e']
     exact ih
   | some x=>
     have e':(es.map f)[i]?=some (f x):=by rw [dw,e];rfl
     cases hs:s (f x) with
     | false=>rw [jm (s:=λx=>s (f x)) e hs,jm e' hs,ih]
     | true=>
       cases hi:bU (λx=>s (f x)) es i with
       | false=>rw [jn (s:=λx=>s (f x)) e hs hi,jn e' hs (hr.trans hi),iI,ih];rfl
       | true=>
         obtain ⟨t,r,hp⟩:=sD hi
         rw [m9 (s:=λx=>s (f x)) e hs hi hp,m9 e' hs (hr.trans hi) (t:=t.map (Ar f)) (r:=r.map f) (by rw [← ih,hp,iI];rfl)]
         simp
theorem Je {γ:Type} {f:α→γ} {g:β→γ}:∀{as:List α} {bs:List β},as.map f=bs.map g→jD (λa b=>f a=g b) as bs
 | [],[],_=>trivial
 | _::_,_::_,h=>⟨(aak h).1,Je (aak h).2⟩
 | [],_::_,h=>nomatch h
 | _::_,[],h=>nomatch h
def Rm (sg x:Int):Int:=if sg<0 then -(if sg=0 then (if x<0 then -x else x) else x) else (if sg=0 then (if x<0 then -x else x) else x)
def NE3 (hs:List Nn) (c sg:Int) (F k:Nat):Prop:=∃i j,F≤i∧i<j∧j<k∧2*c*(dZ hs k-dZ hs i)<Rm sg (yE hs i j k)
inductive Ny (vs:List V) (H:Hp) (Q:VK) (E_:XK):Prop where
 | mk (l:av) (hs:List Nn) (a k:Nat) (c sg:Int) (m n:Nat):vs=[.ref l,.int (a:Int),.int (k:Int),.int c,.int sg]→H l=some (.lst (bE hs))→iB H hs m n→uD hs→k<hs.length→hs.length≤40→a≤k→Sz n c→m≤2000→n≤2000→(∀r:Bool,(r=true↔NE3 hs c sg a k)→Q (.bl r) H)→Ny vs H Q E_
inductive Ip (vs:List V) (H:Hp) (Q:VK) (E_:XK):Prop where
 | mk (l:av) (hs:List Nn) (c sg:Int) (m n:Nat):vs=[.ref l,.int c,.int sg]→H l=some (.lst (bE hs))→iB H hs m n→uD hs→hs.length≤40→Sz n c→m≤2000→n≤2000→(∀F v:Nat,Gr (NE3 hs c sg) hs.length F v→Q (.int (v:Int)) H)→Ip vs H Q E_
section
theorem iy:aE ["_law_run","_law_free","_law_k","_law_bound","_law_sign","_law_j","_law_i","_law_span","_law_stood"] ["_law_run","_law_free","_law_k","_law_bound","_law_sign"] (ah vK):=0#a
theorem J2 (F:cR K "_law_turn" "_law_turn" vK f fd) (T:Txt mg) (jg:Dn P w K mg base 1 "_law_stand" ["_law_one","_law_mid","_law_last"] xH):bf P w K mg base cY 2 f fd ["_law_run","_law_free","_law_k","_law_bound","_law_sign"] Ny:=by
 refine F.ok iy 0#e 0#b
 ·obtain ⟨l,hs,a,k,c,sg,m,n,rfl,_⟩:=h
  rfl
 obtain ⟨l,hs,a,kk,c,sg,em,en,rfl,hl,hes,hS,hk,jS,hak,zc,hm,hn,k⟩:=h
 obtain ⟨xk,gk,ek,zk1,zk2⟩:=wO hes hS hk
 refine bG ⟨_,(aq (c7 fQ rfl (sq rfl T.range (bq (aI aW 0#p aA) 0#s)) (bX (i:=5) iy.nd rfl 0#k) (aH (c7 fQ rfl (sq rfl T.range (bq 0#p (aa 5))) (bX (i:=6) iy.nd rfl 0#k) (aq (aK 7 iy.nd (aI bL (aJ K (bB 0#Z 0#j 0#s 0#h)) (aJ K (bB 0#Z 0#j (aa 6) 0#h)))) (aq (aK 8 iy.nd (Jd.c3 jg hr (bB 0#Z 0#j (aa 6) 0#h) (bB 0#Z 0#j (aa 5) 0#h) (bB 0#Z 0#j 0#s 0#h))) (aq (bW (bC dF 0#X aA 0#J) (aH (aK 8 iy.nd (dQ ym rfl T.yo zR (dD (aa 8)) (he:=bw) (hpl:=cg)))) cj) (aq (bW (bC lQ 0#X aA 0#J) (aH (aK 8 iy.nd (fR cZ (aa 8)))) cj) (aH (bW (bC dS (aa 8) (aI aQ (aI aQ aA 0#E) (aa 7)) 0#J) (aH (aV kK)) cj))))))))) (aH (aV kK))),?_⟩
 rw?
 refine dJ (nB ?_)
 rw?
 refine ⟨_,_,rfl,1#b,cA (λm σ H3=>H3=H∧Rv λv5 v6 v7 v8:Option V=>σ=[some 0#U,some (.int (a:Int)),some (.int (kk:Int)),some (.int c),some (.int sg),v5,v6,v7,v8]∧∀i j,a≤i→i<j→j<a+1+m→¬(2*c*(dZ hs kk-dZ hs i)<Rm sg (yE hs i j kk))) ?_ ?_ ?_⟩
 ·exact ⟨rfl,none,none,none,none,rfl,λi j h1 h2 h3=>by try?⟩
 ·rintro m σ H3 hm' ⟨rfl,v5,v6,v7,v8,rfl,hall⟩
  refine cE λM Bk RR hM _ hR=>?_
  obtain ⟨xj,gj,ej,zj1,zj2⟩:=wO hes hS (show a+1+m<hs.length by try?)
  rw?
  refine dJ (nB ?_)
  rw?
  refine ⟨_,_,rfl,1#b,cA (λn σ H4=>H4=H3∧NP λv6 v7 v8:Option V=>σ=[some 0#U,some (.int (a:Int)),some (.int (kk:Int)),some (.int c),some (.int sg),some (.int ((a:Int)+1+(m:Int))),v6,v7,v8]∧∀i,a≤i→i<a+n→¬(2*c*(dZ hs kk-dZ hs i)<Rm sg (yE hs i (a+1+m) kk))) ?_ ?_ ?_⟩
  ·exact ⟨rfl,v6,v7,v8,rfl,λi h1 h2=>by try?⟩
  ·rintro n σ H4 hn' ⟨rfl,v6,v7,v8,rfl,r9⟩
   refine cE λM2 Bk2 RR2 Ra _ hR2=>?_
   obtain ⟨xi,gi,ei,Yd,zi2⟩:=wO hes hS (show a+n<hs.length by try?)
   rw?
   refine cK hl (di gk rfl) ?_
   rw?
   refine cK hl (di gi 0#d) ?_
   rw?
   refine cK hl (di gi 0#d) ?_
   rw?
   refine cK hl (di gj 0#d) ?_
   rw?
   refine cK hl (di gk rfl) ?_
   rw?
   refine ⟨xi.1,xj.1,xk.1,_,_,_,_,_,_,em,en,rfl,ei,ej,ek,Yd,zj1,zk1,zi2,zj2,zk2,by try?,?_⟩
   have zst:=abI Yd zj1 zk1 zi2 zj2 zk2
   have ok2:=bV ((show Sz 2 (2:Int) by decide).mul zc) (zk1.sub Yd) 0#d
   have ok1:=bV (show Sz 2 (2:Int) by decide) zc 0#d
   have yes:2*c*(dZ hs kk-dZ hs (a+n))<Rm sg (yE hs (a+n) (a+1+m) kk)→RR2 (.bl true) H4:=λc1=>hR2 _ _ (hR _ _ (k true ⟨λ_=>⟨a+n,a+1+m,by try?,by try?,by try?,c1⟩,λ_=>rfl⟩))
   have no:∀v7 v8:Option V,¬2*c*(dZ hs kk-dZ hs (a+n))<Rm sg (yE hs (a+n) (a+1+m) kk)→M2 [some 0#U,some (.int (a:Int)),some (.int (kk:Int)),some (.int c),some (.int sg),some (.int ((a:Int)+1+(m:Int))),some (.int ((a:Int)+(n:Int))),v7,v8] H4:=λv7 v8 c1=>Ra _ _ ⟨rfl,_,v7,v8,rfl,λi h1 h2=>by
    by_cases e:i=a+n
    ·subst e
     exact c1
    ·exact r9 i h1 0#d⟩
   rw?
   rcases Int.lt_trichotomy sg 0 with hg | hg | hg
   ·rw [rG (show ¬sg=0 by simp?)]
    refine bI ?_
    rw?
    rw [jb hg]
    refine cB ?_
    rw?
    have es:Rm sg (yE hs (a+n) (a+1+m) kk)=-yE hs (a+n) (a+1+m) kk:=by unfold Rm;rw [if_pos hg,if_neg 0#c]
    rw [es] at yes no
    exact cD (λc1=>yes (jw c1)) (λc1=>no _ _ (gY (gQ.mpr c1)))
   ·subst hg
    refine cB ?_
    rw?
    refine bI ?_
    rw?
    have es:Rm 0 (yE hs (a+n) (a+1+m) kk)=(if yE hs (a+n) (a+1+m) kk<0 then -yE hs (a+n) (a+1+m) kk else yE hs (a+n) (a+1+m) kk):=by unfold Rm;rw [if_neg 0#i,if_pos rfl]
    rw [es] at yes no
    exact cD (λc1=>yes (jw c1)) (λc1=>no _ _ (gY (gQ.mpr c1)))
   ·rw [rG (show ¬sg=0 by simp?)]
    refine bI ?_
    rw?
    rw [rG (show ¬sg<0 by simp?)]
    refine bI ?_
    rw?
    have es:Rm sg (yE hs (a+n) (a+1+m) kk)=yE hs (a+n) (a+1+m) kk:=by unfold Rm;rw [if_neg 0#c,if_neg 0#c]
    rw [es] at yes no
    exact cD (λc1=>yes (jw c1)) (λc1=>no _ _ (gY (gQ.mpr c1)))
  ·rintro σ H4 ⟨rfl,v6,v7,v8,rfl,r9⟩
   refine hM _ _ ⟨rfl,_,_,_,_,rfl,λi j h1 h2 h3=>?_⟩
   by_cases e:j=a+1+m
   ·subst e
    exact r9 i h1 0#d
   ·exact hall i j h1 h2 0#d
 ·rintro σ H3 ⟨rfl,v5,v6,v7,v8,rfl,hall⟩
  rw?
  refine k false ⟨λz=>absurd z 0#i,?_⟩
  rintro ⟨i,j,h1,h2,h3,hp⟩
  exact absurd hp (hall i j h1 h2 0#d)
theorem iE:aE ["_law_run","_law_bound","_law_sign","_law_free","_law_found","_law_k"] ["_law_run","_law_bound","_law_sign"] (ah tu):=0#a
theorem Hf (F:cR K "_law_turns" "_law_turns" tu f fd) (T:Txt mg) (u9:Dn P w K mg base 2 "_law_turn" ["_law_run","_law_free","_law_k","_law_bound","_law_sign"] Ny):bf P w K mg base cY 3 f fd ["_law_run","_law_bound","_law_sign"] Ip:=by
 refine F.ok iE 0#e 0#b
 ·obtain ⟨l,hs,c,sg,m,n,rfl,_⟩:=h
  rfl
 obtain ⟨l,hs,c,sg,em,en,rfl,hl,hes,hS,jS,zc,hm,hn,k⟩:=h
 refine bG ⟨_,(aq (aK 3 iE.nd aA) (aq (aK 4 iE.nd aA) (aq (c7 fQ rfl (sq rfl T.range (bq aA 0#V)) (bX (i:=5) iE.nd rfl 0#k) (aH (bW (ir (fY u9 0#z rfl (cG 0#j (Jd.a4 0#E (aa 5) 0#p 0#s) bw) (he:=bw) (hpl:=(cu bw (cu bw (cu bw (cu bw cg))))))) (aq (aK 4 iE.nd (aI aW 0#X aA)) (aH (aK 3 iE.nd (aa 5)))) cj))) (aH (aV 0#X))))),?_⟩
 rw?
 refine dJ (nB ?_)
 rw?
 refine cy (.inl (aX.of hl)) ?_
 rw [bh]
 rw?
 have JV:∀F k,k<2→¬NE3 hs c sg F k:=λF k h2=>by
  rintro ⟨i,j,h1,h3,h4,_⟩
  simp?
 refine ⟨_,_,rfl,1#b,cA (λj σ H3=>H3=H∧NP λ(a m:Nat) (v5:Option V)=>σ=[some 0#U,some (.int c),some (.int sg),some (.int (a:Int)),some (.int (m:Int)),v5]∧a≤j+2∧Gr (NE3 hs c sg) (j+2) a m) ?_ ?_ ?_⟩
 ·exact ⟨rfl,0,0,none,rfl,by simp?,.no (.no .nil (JV _ _ 0#c)) (JV _ _ 0#c)⟩
 ·rintro j σ H3 hj ⟨rfl,a,m,v5,rfl,haj,hG⟩
  rw [show (2:Int)+(j:Int)=((j+2:Nat):Int) by try?]
  rw?
  refine ⟨l,hs,a,j+2,c,sg,em,en,rfl,hl,hes,hS,by try?,jS,haj,zc,hm,hn,λr hr'=>?_⟩
  rw?
  cases r with
  | true=>
    refine cB ?_
    rw?
    exact ⟨rfl,j+2,m+1,_,rfl,by try?,.yes hG (hr'.mp rfl)⟩
  | false=>
    refine bI ?_
    rw?
    exact ⟨rfl,a,m,_,rfl,by try?,.no hG λz=>absurd (hr'.mpr z) 0#i⟩
 ·rintro σ H3 ⟨rfl,a,m,v5,rfl,haj,hG⟩
  rw?
  by_cases h2:2≤hs.length
  ·rw [show ((hs.length:Int)-2).toNat+2=hs.length by simp?] at hG
   exact k a m hG
  ·rw [show ((hs.length:Int)-2).toNat+2=2 by simp?] at hG
   obtain ⟨rfl,rfl⟩:=hG.uniq (.no (.no .nil (JV _ _ 0#c)) (JV _ _ 0#c))
   refine k 0 0 ?_
   rcases VD hs.length 1 with z | z
   ·rw [show hs.length=0 by simp?]
    exact .nil
   ·rw [show hs.length=0+1 by simp?]
    exact .no .nil (JV _ _ 0#c)
end
def upto (t:Int) (e:En):Bool:=decide (e.2.1≤t)
def eW (es:List En):Nat→Nat
 | 0=>0
 | i+1=>if (es[i]?).elim false (λe=>!c8 e)=true then i+1 else eW es i
theorem yr (es:List En):∀i,eW es i≤i
 | 0=>dG _
 | i+1=>by
   unfold eW
   split
   ·exact dG _
   ·exact Af (yr es i)
def lA (es:List En) (i:Nat):List Nat:=(fM i).filter λj=>(es[j]?).elim false λe=>!c8 e
theorem EW (es:List En):∀i,(lA es i=[]∧eW es i=0)∨∃g,(lA es i).getLast?=some g∧eW es i=g+1
 | 0=>.inl ⟨rfl,rfl⟩
 | i+1=>by
   have e:lA es (i+1)=lA es i++(if (es[i]?).elim false (λe=>!c8 e)=true then [i] else []):=by
    unfold lA
    rw [vY,DR]
    congr 1
    simp only [DA,Vr]
   unfold eW
   split
   ·rename_i h
    rw [e,if_pos h]
    exact .inr ⟨i,by simp,rfl⟩
   ·rename_i h
    rw [e,if_neg h,vX]
    exact EW es i
theorem IU {g:Nat} (h:js.getLast?=some g):qV (fZ js) (-1)=some (.int (g:Int)):=by
 rw [List.getLast?_eq_getElem?] at h
 have hl:=(lS.mp h).1
 unfold qV
 rw [jl,qu (m:=js.length-1) 0#c]
 show (fZ js)[js.length-1]?=_
 unfold fZ
 rw [dw,h]
 rfl
theorem RO {m:Nat} (h:m≤xs.length):jT xs none (some (m:Int))=xs.take m:=by
 have:=aaR (xs:=xs) (n:=0) (m:=m) (mD _) h
 rw [ZY,Nat.sub_zero] at this
 rw [← this]
 rfl
inductive zL (vs:List V) (H:Hp) (Q:VK) (E_:XK):Prop where
 | mk (l:av) (es:List En) (t:Int) (n:Nat):vs=[.ref l,.int t]→H l=some 0#A→Row H es n→es.length≤40→(∀(D:av) (H':Hp),au H H'→H D=none→H' D=some (.lst (vals (es.filter (upto t))))→Q (.ref D) H')→zL vs H Q E_
inductive Df (vs:List V) (H:Hp) (Q:VK) (E_:XK):Prop where
 | mk (l:av) (es:List En) (n:Nat):vs=[.ref l]→H l=some 0#A→Row H es n→es.length≤40→(∀(y A B:av) (H':Hp),au H H'→H' y=some (.tup [.ref A,.ref B])→H' A=some (.lst (vals (es.take (eW es es.length))))→H' B=some (.lst (vals (es.drop (eW es es.length))))→Q (.ref y) H')→Df vs H Q E_
section
theorem vU:aE ["row","moment"] ["row","moment"] (ah jJ):=0#a
theorem vB (F:cR K "settled_entries" "settled_entries" jJ f fd):bf P w K mg base cY 1 f fd ["row","moment"] zL:=by
 refine F.ok vU 0#e 0#b
 ·obtain ⟨l,es,t,n,rfl,_⟩:=h
  rfl
 obtain ⟨l,es,t,n,rfl,hl,hes,hn,k⟩:=h
 refine bG ⟨_,(aH (aV (oz (O:=["entry"]) (N':=["moment"]) (cap:=[1]) rfl (dB K 0#j) (λ_ _ _ _ _=>(bX (i:=0) (show jd [("entry":Str),("moment":Str)] by decide +kernel) rfl 0#k)) (λ_ _ _ _ _=>(wH (bC Ka (bB (D9 K) 0#j aA 0#h) 0#p 0#J))) (λ_ _ _ _ _=>0#j) rfl 0#u rfl 0#g rfl 0#g))),?_⟩
 rw?
 refine iD ?_
 rw?
 refine ⟨l,rfl,⟨_,aX.of hl⟩,?_⟩
 refine cF (xs:=vals es) bZ (λH3 s3=>aX.of (s3 _ _ hl)) (by rw [aN];try?) (λi ys G=>ys=vals ((es.take i).filter (upto t))) rfl ?_ ?_
 ·rintro D i x ys H3 jV N N0 h0 hD eD s3 hx hy rfl kY kN
  obtain ⟨e,he,rfl⟩:=gI hx
  obtain ⟨u,ee,du,_⟩:=((hes e (lP he)).up s3).obj
  have ts:=K9 (upto t) es i e he
  refine fO h0 ?_
  rw?
  refine cD 0#y 0#y
  ·have hs':upto t e=true:=jb (jw c)
   rw [hs',if_pos rfl] at ts
   rw?
   exact kY _ H3 0#x (by rw [ts,← fu])
  ·have hs':upto t e=false:=rG (gY (gQ.mpr c))
   rw [hs',if_neg dW,vX] at ts
   exact kN H3 0#x (by rw [ts])
 ·rintro D ys H3 hD eD s3 hy rfl
  rw [aN,jR] at eD
  exact k D H3 s3 hD eD
theorem ki:aE ["settled","gaps","behind"] ["settled"] (ah lH):=0#a
theorem yJ (F:cR K "parted_at_gap" "parted_at_gap" lH f fd) (T:Txt mg):bf P w K mg base cY 1 f fd ["settled"] Df:=by
 refine F.ok ki 0#e 0#b
 ·obtain ⟨l,es,n,rfl,_⟩:=h
  rfl
 obtain ⟨l,es,n,rfl,hl,hes,hn,k⟩:=h
 refine bG ⟨_,(aq (rf (O:=["place","entry"]) (N':=[]) (cap:=[]) (i:=1) ki.nd rfl 0#k rfl (Jd.Bs K rfl T.BY (dD 0#j)) (λ_ _ _ _ _=>(Jd.Ox K (n:=2) rfl (fS (bX (i:=0) (show jd [("place":Str),("entry":Str)] by decide +kernel) rfl 0#k) (fS (bX (i:=1) (show jd [("place":Str),("entry":Str)] by decide +kernel) rfl 0#k) pH)))) (λ_ _ _ _ _=>(wH (bC qz (bB (D9 K) 0#p aA 0#h) dN 0#J))) (λ_ _ _ _ _=>0#j) rfl trivial rfl 0#g rfl 0#g (by rfl)) (aq (aK 2 ki.nd (su (bC dS (eY K T.eU 0#p) aA 0#J) (aI aW (bB 0#Z 0#p (fR cZ aA) 0#h) aA) aA)) (aH (aV (bJ (bq (qX (Rl K) 0#j qY (qZ 0#s)) (qX (Rl K) 0#j (qZ 0#s) qY))))))),?_⟩
 rw?
 refine T7 ?_
 rw?
 refine ⟨l,_,rfl,aX.of hl,?_⟩
 refine Lu (xs:=vals es) (λH3 s3=>aX.of (s3 _ _ hl)) (by rw [aN];try?) (λi ys G=>ys=fZ (lA es i)) rfl ?_ ?_
 ·rintro D i x ys H3 H4 pp jV N N0 h0 hD eD s3 s4 ep hx hy rfl kY kN
  obtain ⟨e,he,rfl⟩:=gI hx
  obtain ⟨u,ee,du,_⟩:=((hes e (lP he)).up 0#S).obj
  have ts:lA es (i+1)=lA es i++(if (!c8 e)=true then [i] else []):=by
   unfold lA
   rw [vY,DR]
   congr 1
   simp only [DA,Vr,he,Option.elim]
  refine CO h0 ep ?_
  rw?
  refine 0#M
  rw?
  rw [du]
  cases hs:e.2.2.isSome with
  | true=>
    have hs':c8 e=true:=hs
    rw [hs',if_neg 0#i,vX] at ts
    refine bI ?_
    exact kN H4 0#x (by rw [ts])
  | false=>
    have hs':c8 e=false:=hs
    rw [hs',if_pos (show (!false)=true from rfl)] at ts
    refine cB ?_
    rw?
    exact kY _ H4 0#x (by rw [ts,← qx])
 ·rintro D ys H3 hD eD s3 hy rfl
  rw [aN] at eD
  have hl3:=s3 _ _ hl
  have fin:∀b:Nat,b=eW es es.length→∀(v:V),v=.int (b:Int)→∀(A':av) (H4:Hp),au H3 H4→H4 A'=some (.lst (jT (vals es) none (some (b:Int))))→∀(B':av) (H5:Hp),au H4 H5→H5 B'=some (.lst (jT (vals es) (some (b:Int)) none))→∀(y:av) (H6:Hp),au H5 H6→H6 y=some (.tup [.ref A',.ref B'])→Q (.ref y) H6:=λb hb v hv A' H4 s4 eA B' H5 s5 eB y H6 s6 ey=>by
   have hle:b≤es.length:=hb▸yr es es.length
   rw [RQ,show (vals es).drop b=vals (es.drop b) by unfold vals;rw [FN]] at eB
   rw [show jT (vals es) none (some (b:Int))=vals (es.take b) by rw [RO (by rw [aN];exact hle)];unfold vals;rw [Vv]] at eA
   subst hb
   exact k y A' B' H6 (s3.trans (s4.trans (s5.trans s6))) ey ((s5.trans s6) _ _ eA) (s6 _ _ eB)
  rw?
  refine cy (.inl (aX.of eD)) ?_
  rw [jl]
  rw?
  rcases EW es es.length with ⟨e0,e1⟩ | ⟨g,e0,e1⟩
  ·rw [e0]
   refine bI ?_
   walk_at "vd"
   refine uR hl3 λA' H4 s4 n4 e4=>?_
   walk_at "vd"
   refine uR (s4 _ _ hl3) λB' H5 s5 n5 e5=>?_
   rw?
   refine aF (mk:=.tup) 0#f λy H6 s6 n6 e6=>?_
   exact fin 0 e1.symm _ rfl A' H4 s4 e4 B' H5 s5 e5 y H6 s6 e6
  ·have hne:0<(lA es es.length).length:=by
    rcases Zc (lA es es.length) with z | ⟨_,_,z⟩
    ·rw [z] at e0;cases e0
    ·rw [z];simp
   rw [jb (show (0:Int)<((lA es es.length).length:Int) by simp?)]
   refine cB ?_
   rw?
   refine cK eD (IU e0) ?_
   walk_at "vd"
   refine uR hl3 λA' H4 s4 n4 e4=>?_
   walk_at "vd"
   refine uR (s4 _ _ hl3) λB' H5 s5 n5 e5=>?_
   rw?
   refine aF (mk:=.tup) 0#f λy H6 s6 n6 e6=>?_
   exact fin (g+1) e1.symm _ rfl A' H4 s4 e4 B' H5 s5 e5 y H6 s6 e6
end
theorem gr (hc:decide (a=b)=c) (q:Q (.bl c) H):rEq (.str a) (.str b) H Q:=⟨rfl,by
 rw [show decide (V.str a=V.str b)=c from hc▸KW.mpr ⟨λh=>V.str.inj h,λh=>congrArg V.str h⟩]
 exact q⟩
inductive Wy
 | ap | jo | sp | ch
def Fw:Wy→Str
 | .ap => "apart"
 | .jo => "joined"
 | .sp => "spans"
 | .ch => "chain"
inductive xM (C:av) (vs:List V) (H:Hp) (Q:VK) (E_:XK):Prop where
 | mk (l pb:av) (wy:Wy):vs=[.ref l,.str (Fw wy),.ref pb]→(wy=.ap→Bx [.ref l,.ref pb] H Q E0)→(wy=.jo→xA C [.ref l,.ref pb] H Q E0)→(wy=.sp→tQ false [.ref l,.ref pb] H Q E0)→(wy=.ch→tQ true [.ref l,.ref pb] H Q E0)→xM C vs H Q E_
section
theorem Ng:aE ["row","way","bound"] ["row","way","bound"] (ah zk):=0#a
theorem MF (F:cR K "told_by" "told_by" zk f fd) (FT:Dn P w K mg base 9 "apart" ["row","bound"] Bx) (BE:Dn P w K mg base 9 "joined" ["row","bound"] (xA aD)) (FY:Dn P w K mg base 8 "spans" ["row","bound"] (tQ false)) (FU:Dn P w K mg base 8 "chain" ["row","bound"] (tQ true)):bf P w K mg base cY 10 f fd ["row","way","bound"] (xM aD):=by
 refine F.ok Ng 0#e 0#b
 ·obtain ⟨l,pb,wy,rfl,_⟩:=h
  rfl
 obtain ⟨l,pb,wy,rfl,h1,h2,h3,h4⟩:=h
 refine bG ⟨_,(aq (bW (bC dF 0#p jX 0#J) (aH (aV (bY FT hr 0#j 0#s))) cj) (aq (bW (bC dF 0#p jX 0#J) (aH (aV (bY BE hr 0#j 0#s))) cj) (aq (bW (bC dF 0#p jX 0#J) (aH (aV (bY FY hr 0#j 0#s))) cj) (aH (aV (bY FU hr 0#j 0#s)))))),?_⟩
 rw?
 cases wy with
 | ap=>
   refine gr (c:=true) 0#g ?_
   refine ⟨_,rfl,?_⟩
   refine cB ?_
   rw?
   exact h1 rfl
 | jo=>
   refine gr (c:=false) 0#g ?_
   refine ⟨_,rfl,?_⟩
   refine bI ?_
   rw?
   refine gr (c:=true) 0#g ?_
   refine ⟨_,rfl,?_⟩
   refine cB ?_
   rw?
   exact h2 rfl
 | sp=>
   refine gr (c:=false) 0#g ?_
   refine ⟨_,rfl,?_⟩
   refine bI ?_
   rw?
   refine gr (c:=false) 0#g ?_
   refine ⟨_,rfl,?_⟩
   refine bI ?_
   rw?
   refine gr (c:=true) 0#g ?_
   refine ⟨_,rfl,?_⟩
   refine cB ?_
   rw?
   exact h3 rfl
 | ch=>
   refine gr (c:=false) 0#g ?_
   refine ⟨_,rfl,?_⟩
   refine bI ?_
   rw?
   refine gr (c:=false) 0#g ?_
   refine ⟨_,rfl,?_⟩
   refine bI ?_
   rw?
   refine gr (c:=false) 0#g ?_
   refine ⟨_,rfl,?_⟩
   refine bI ?_
   rw?
   exact h4 rfl
end
theorem dr1:jT (vals es) (some 1) none=vals (es.drop 1):=by
 rw [show (some (1:Int))=some ((1:Nat):Int) from rfl,RQ]
 unfold vals
 rw [FN]
inductive zN (vs:List V) (H:Hp) (Q:VK) (E_:XK):Prop where
 | mk (l pb:av) (es:List En) (n nb:Nat) (β:Rat):vs=[.ref l,.ref pb]→H l=some 0#A→Row H es n→ia es→rising es→2≤es.length→es.length≤40→bS H pb β nb→n≤1000→nb≤1000→((∃i j,0<i∧i<es.length∧0<j∧j<es.length∧cS es β 0 j<dR es β 0 i)→∀H',au H H'→Q .bM H')→((∀i j,0<i→i<es.length→0<j→j<es.length→dR es β 0 i≤cS es β 0 j)→∀(p:av) (G:Rat) (H':Hp),au H H'→bS H' p G (3*n+nb+3)→(∀i,0<i→i<es.length→dR es β 0 i≤G)→(∃i,0<i∧i<es.length∧G=dR es β 0 i)→Q 1#a H')→zN vs H Q E_
section
theorem iF:aE ["samples","bound","start","lows","highs"] ["samples","bound"] (ah lK):=0#a
theorem yM (F:cR K "slope_through" "slope_through" lK f fd) (aS:Dn P w K mg base 1 "loose_minus" ["one","other"] (iH (·-·) 1)) (bP:Dn P w K mg base 1 "loose_plus" ["one","other"] (iH (·+·) 1)) (bN:Dn P w K mg base 3 "loose_slope" ["one","other"] mP) (c9:Dn P w K mg base 2 "greatest" ["quotients"] uz) (gF:Dn P w K mg base 2 "smallest" ["quotients"] xF) (cP:Dn P w K mg base 1 "order" ["one","other"] iW):bf P w K mg base cY 4 f fd ["samples","bound"] zN:=by
 refine F.ok iF 0#e 0#b
 ·obtain ⟨l,pb,es,n,nb,β,rfl,_⟩:=h
  rfl
 obtain ⟨l,pb,es,n,nb,β,rfl,hl,hR,hS,dH,h2,jS,hb,hn,hnb,k0,k1⟩:=h
 obtain ⟨x0,g0,f0⟩:=cT hR hS (show 0<es.length by simp?)
 refine bG ⟨_,(aq (mZ (i:=2) iF.nd rfl (Or.inr rfl) (Jd.iL K 0#j) (hs:=QV)) (aq (rf (O:=["one"]) (N':=["start","bound" ]) (cap:=[2,1]) (i:=3) iF.nd rfl 0#k rfl (dB K (qX (Rl K) 0#j (qZ aA) qY)) (λ_ _ _ _ _=>(bX (i:=0) (show jd [("one":Str),("start":Str),("bound":Str)] by decide +kernel) rfl 0#k)) 1#d (λ_ _ _ _ _=>(fY bN 0#z rfl (cG 0#p (cG (bJ (cG (bB (D9 K) 0#j aA 0#h) (cG (fY aS 0#z rfl (cG (bB (D9 K) 0#j aA 0#h) (cG 0#s dX bw) o9) (he:=o9) (hpl:=(cu bw cg))) dX Bb) o9)) dX X5) bw) (he:=bw) (hpl:=(cu X5 cg)))) rfl ⟨⟨rfl,rfl,rfl,rfl⟩,0#u⟩ rfl 0#g rfl 0#g (by rfl)) (aq (rf (O:=["one"]) (N':=["start","bound" ]) (cap:=[2,1]) (i:=4) iF.nd rfl 0#k rfl (dB K (qX (Rl K) 0#j (qZ aA) qY)) (λ_ _ _ _ _=>(bX (i:=0) (show jd [("one":Str),("start":Str),("bound":Str)] by decide +kernel) rfl 0#k)) 1#d (λ_ _ _ _ _=>(fY bN 0#z rfl (cG 0#p (cG (bJ (cG (bB (D9 K) 0#j aA 0#h) (cG (fY bP 0#z rfl (cG (bB (D9 K) 0#j aA 0#h) (cG 0#s dX bw) o9) (he:=o9) (hpl:=(cu bw cg))) dX Bb) o9)) dX X5) bw) (he:=bw) (hpl:=(cu X5 cg)))) rfl ⟨⟨rfl,rfl,rfl,rfl⟩,0#u⟩ rfl 0#g rfl 0#g (by rfl)) (aH (aV (su (bC Ka (bY cP hr (Jd.c1 c9 hr 0#E) (Jd.c1 gF hr 0#X)) aA 0#J) (Jd.c1 c9 hr 0#E) dN)))))),?_⟩
 walk_at "vd"
 refine cK hl (eG g0 rfl) ?_
 walk_at "vd"
 refine iD ?_
 walk_at "vd"
 refine uR hl λS1 H1 s1 n1 e1=>?_
 rw [dr1] at e1
 refine ⟨S1,rfl,⟨_,aX.of e1⟩,?_⟩
 refine cF (xs:=vals (es.drop 1)) bZ (λH3 s3=>aX.of (s3 _ _ e1)) (by rw [aN,iX];simp?) (λi ys G=>∃rs:Qs,ys=cX rs∧wc G rs (3*n+nb+3)∧rs.map (·.2)=(fM i).map (λj=>dR es β 0 (j+1))) ⟨[],rfl,λz hz=>absurd hz 0#f,rfl⟩ ?_ ?_
 ·rintro D i v ys H3 jV N N0 h0 hD eD s3 hv hy ⟨rs,rfl,hrs,hmap⟩ kY kN
  obtain ⟨e,he,rfl⟩:=gI hv
  rw [nW,An] at he
  have hi:i+1<es.length:=(lS.mp he).1
  obtain ⟨xi,gi,fi⟩:=cT (hR.up (s1.trans s3)) hS hi
  rw [he] at gi
  cases gi
  obtain ⟨vi,ei,qi,zi⟩:=id fi
  refine fO h0 ?_
  rw?
  refine cB ?_
  rw?
  refine ⟨vi,pb,_,β,n,nb,rfl,qi.qt,hb.up (s1.trans s3),by try?,λy1 H4 s4 f4=>?_⟩
  rw?
  refine aF (mk:=.tup) 0#f λlo H5 s5 n5 e5=>?_
  rw?
  refine ⟨x0.1,lo,_,_,_,_,n,n+nb+1,n,rfl,(f0.up (s1.trans (s3.trans 0#R))).YJ,⟨y1,e5,f4.up s5,zi⟩,iu dH 0#c hi,by try?,λz H6 s6 f6=>?_⟩
  have V6:=s4.trans (s5.trans s6)
  refine kY _ H6 V6 ⟨rs++[(z,dR es β 0 (i+1))],by simp [cX],λu hu=>?_,?_⟩
  ·rcases dg.mp hu with w | w
   ·exact (hrs u w).up (rj V6)
   ·obtain rfl:u=(z,dR es β 0 (i+1)):=by simpa using w
    obtain ⟨t,d,e',ff⟩:=f6.mono (show n+(n+nb+1)+n+2≤3*n+nb+3 by try?)
    exact ⟨t,d,dY (V6 _ _ eD) e',ff⟩
  ·rw [iI,hmap,vY,iI]
   rfl
 rintro D ys H3 hD eD s3 hy ⟨rs,rfl,hrs,hmap⟩
 rw [aN,iX] at hmap
 have GB:wc H3 rs (3*n+nb+3):=λu hu=>(hrs u hu).up gH
 have nE:=s1.trans s3
 walk_at "vd"
 refine iD ?_
 walk_at "vd"
 refine uR (nE _ _ hl) λS2 H7 s7 n7 e7=>?_
 rw [dr1] at e7
 refine ⟨S2,rfl,⟨_,aX.of e7⟩,?_⟩
 have Ui:=nE.trans s7
 refine cF (xs:=vals (es.drop 1)) bZ (λH3 s3=>aX.of (s3 _ _ e7)) (by rw [aN,iX];simp?) (λi ys G=>∃rs:Qs,ys=cX rs∧wc G rs (3*n+nb+3)∧rs.map (·.2)=(fM i).map (λj=>cS es β 0 (j+1))) ⟨[],rfl,λz hz=>absurd hz 0#f,rfl⟩ ?_ ?_
 ·rintro D' i v ys H3' jV N N0 h0 Yn IK s3' hv hy' ⟨rs',rfl,abl,wG⟩ kY kN
  obtain ⟨e,he,rfl⟩:=gI hv
  rw [nW,An] at he
  have hi:i+1<es.length:=(lS.mp he).1
  obtain ⟨xi,gi,fi⟩:=cT (hR.up (Ui.trans s3')) hS hi
  rw [he] at gi
  cases gi
  obtain ⟨vi,ei,qi,zi⟩:=id fi
  refine fO h0 ?_
  rw?
  refine cB ?_
  rw?
  refine ⟨vi,pb,_,β,n,nb,rfl,qi.qt,hb.up (Ui.trans s3'),by try?,λy1 H4 s4 f4=>?_⟩
  rw?
  refine aF (mk:=.tup) 0#f λlo H5 s5 n5 e5=>?_
  rw?
  refine ⟨x0.1,lo,_,_,_,_,n,n+nb+1,n,rfl,(f0.up (Ui.trans (s3'.trans 0#R))).YJ,⟨y1,e5,f4.up s5,zi⟩,iu dH 0#c hi,by try?,λz H6 s6 f6=>?_⟩
  have V6:=s4.trans (s5.trans s6)
  refine kY _ H6 V6 ⟨rs'++[(z,cS es β 0 (i+1))],by simp [cX],λu hu=>?_,?_⟩
  ·rcases dg.mp hu with w | w
   ·exact (abl u w).up (rj V6)
   ·obtain rfl:u=(z,cS es β 0 (i+1)):=by simpa using w
    obtain ⟨t,d,e',ff⟩:=f6.mono (show n+(n+nb+1)+n+2≤3*n+nb+3 by try?)
    exact ⟨t,d,dY (V6 _ _ IK) e',ff⟩
  ·rw [iI,wG,vY,iI]
   rfl
 rintro D' ys' H8 Yn IK s8 hy' ⟨rs',rfl,abl,wG⟩
 rw [aN,iX] at wG
 have adq:wc H8 rs' (3*n+nb+3):=λu hu=>(abl u hu).up gH
 have Rk:=Ui.trans s8
 have VY:=(s7.trans s8) _ _ eD
 have WY:wc H8 rs (3*n+nb+3):=λu hu=>(GB u hu).up (s7.trans s8)
 have len:∀{rs:Qs} {g:Nat→Rat},rs.map (·.2)=(fM (es.length-1)).map g→0<rs.length:=λ{rs g} h=>by
  have:=congrArg tY h
  simp at this
  simp?
 have inR:∀{rs:Qs} {g:Nat→Rat},rs.map (·.2)=(fM (es.length-1)).map (λj=>g (j+1))→∀i,0<i→i<es.length→∃u∈rs,u.2=g i:=λ{rs g} h i h0 hi=>by
  have:g i∈rs.map (·.2):=by rw [h];exact gD.mpr ⟨i-1,rH.mpr 0#c,by rw [show i-1+1=i by simp?]⟩
  obtain ⟨u,hu,e⟩:=gD.mp this
  exact ⟨u,hu,e⟩
 have Tc:∀{rs:Qs} {g:Nat→Rat},rs.map (·.2)=(fM (es.length-1)).map (λj=>g (j+1))→∀u∈rs,∃i,0<i∧i<es.length∧u.2=g i:=λ{rs g} h u hu=>by
  have:u.2∈rs.map (·.2):=gD.mpr ⟨u,hu,rfl⟩
  rw [h] at this
  obtain ⟨i,hi,e⟩:=gD.mp this
  have:=rH.mp hi
  exact ⟨i+1,by simp?,by simp?,e.symm⟩
 rw?
 refine ⟨D,rs,3*n+nb+3,rfl,VY,WY,by try?,len hmap,λu hu uG=>?_⟩
 rw?
 refine ⟨D',rs',3*n+nb+3,rfl,IK,adq,by try?,len wG,λu' hu' hmin=>?_⟩
 rw?
 refine ⟨u.1,u'.1,u.2,u'.2,3*n+nb+3,3*n+nb+3,rfl,WY u hu,adq u' hu',by try?,λo o1 o2=>?_⟩
 obtain ⟨i,i0,i1,i2⟩:=Tc hmap u hu
 obtain ⟨j,j0,j1,j2⟩:=Tc wG u' hu'
 rw?
 refine cD 0#y 0#y
 ·have c':=jw c
  have le:u.2≤u'.2:=jz.mp λz=>by have:=o1.mpr z;simp?
  have all:∀i j,0<i→i<es.length→0<j→j<es.length→dR es β 0 i≤cS es β 0 j:=λi j a b c d=>by
   obtain ⟨y,hy1,ey⟩:=inR hmap i a b
   obtain ⟨y',hy2,ey'⟩:=inR wG j c d
   rw [← ey,← ey']
   exact pU (uG y hy1) (pU le (hmin y' hy2))
  rw?
  refine ⟨D,rs,3*n+nb+3,rfl,VY,WY,by try?,len hmap,λz hz agB=>?_⟩
  obtain ⟨q,q0,q1,q2⟩:=Tc hmap z hz
  rw?
  refine k1 all z.1 z.2 H8 Rk (WY z hz) (λi a b=>?_) ⟨q,q0,q1,q2⟩
  obtain ⟨y,hy1,ey⟩:=inR hmap i a b
  rw [← ey]
  exact agB y hy1
 ·have c':=gY (gQ.mpr c)
  rw?
  refine k0 ⟨i,j,i0,i1,j0,j1,?_⟩ H8 Rk
  rw [← i2,← j2]
  exact o1.mp 0#c
end
def Rt (es:List En) (β:Rat) (p:Nat):Prop:=∀i j,p<i→i<es.length→p<j→j<es.length→dR es β p i≤cS es β p j
def aaG (es:List En) (β:Rat) (p:Nat) (G:Rat):Prop:=(∀i,p<i→i<es.length→dR es β p i≤G)∧∃i,p<i∧i<es.length∧G=dR es β p i
theorem pI:dR (es.drop p) β 0 i=dR es β p (p+i)∧cS (es.drop p) β 0 i=cS es β p (p+i):=by
 have m:∀k,mo (es.drop p) k=mo es (p+k):=λk=>by unfold mo;rw [nW]
 have w:∀k,wo (es.drop p) k=wo es (p+k):=λk=>by unfold wo;rw [nW]
 unfold dR cS
 rw [m,m,w,w,Pn]
 exact ⟨rfl,rfl⟩
def uN (es:List En) (β:Rat) (t:Nat→Int) (N m:Nat) (v:Int):Prop:=v≤max 1 (t (N-1))∧(∀p,p<m→Rt es β p→v≤t p+1)∧(v=max 1 (t (N-1))∨∃p,p<m∧Rt es β p∧v=t p+1)
inductive Hn (H:Hp) (es:List En) (β:Rat) (ao:Bool) (t:Nat→Int) (u v:Int) (n:Nat):V→Prop
 | no:v=max 1 (t (es.length+aU ao-1))→Hn H es β ao t u v n .bM
 | yes {x q:av} {p:Nat} {G:Rat}:H x=some (.tup [.int (u+1),.ref q])→p+1<es.length→v=t p+1→v<max 1 (t (es.length+aU ao-1))→Rt es β p→aaG es β p G→dz H q (wo es p+G*((u+1-mo es p:Int):Rat)) n→Hn H es β ao t u v n (.ref x)
theorem Hn.up (h:Hn H es β ao t u v n wv) (s:au H H'):Hn H' es β ao t u v n wv:=by
 cases h with
 | no a=>exact .no a
 | yes a b c d e f g=>exact .yes (s _ _ a) b c d e f (g.up s)
theorem rV (h:0<N):qV (ig N t) (-1)=some (.int (t (N-1))):=by
 unfold qV
 rw [mK,qu (m:=N-1) 0#c]
 show (ig N t)[N-1]?=_
 unfold ig
 rw [dw,IG 0#c]
 rfl
inductive xG (vs:List V) (H:Hp) (Q:VK) (E_:XK):Prop where
 | mk (l pb:av) (es:List En) (n nb:Nat) (β:Rat) (ao:Bool) (u:Int):vs=[.ref l,.str (Fw (if ao=true then .ch else .sp)),.ref pb,.int u]→H l=some 0#A→Row H es n→ia es→rising es→1≤es.length→es.length≤40→bS H pb β nb→n≤1000→nb≤1000→1≤n→Sz n (u+1)→(∀(y:av) (v:Int) (wv:V) (t:Nat→Int) (H':Hp),au H H'→H' y=some (.tup [.int v,wv])→jE (d7 es β ao) 0#H t→uN es β t 0#H (es.length-1) v→Hn H' es β ao t u v (5*n+nb+5) wv→Q (.ref y) H')→xG vs H Q E_
section
theorem ju:aE ["run","way","bound","moment","tied","told","found","place","steep","value"] ["run","way","bound","moment"] (ah CZ):=0#a
theorem Qz (F:cR K "spared" "spared" CZ f fd) (T:Txt mg) (BF:Dn P w K mg base 6 "labels" ["samples","bound","tied"] Dd) (lz:Dn P w K mg base 4 "slope_through" ["samples","bound"] zN) (cC:Dn P w K mg base 3 "loose_along" ["steep","sample","moment"] pO) (bH:Dn P w K mg base 4 "reduced" ["quotient"] gB):bf P w K mg base cY 7 f fd ["run","way","bound","moment"] xG:=by
 refine F.ok ju 0#e 0#b
 ·obtain ⟨l,pb,es,n,nb,β,ao,u,rfl,_⟩:=h
  rfl
 obtain ⟨l,pb,es,n,nb,β,ao,u,rfl,hl,hR,hS,dH,h1,jS,hb,hn,hnb,n1,zu,k⟩:=h
 refine bG ⟨_,(aq (aK 4 ju.nd (mY dF 0#p jX 0#J)) (aq (aK 5 ju.nd (Jd.c3 BF hr 0#j 0#s 0#X)) (aq (aK 6 ju.nd (bJ (bq (dQ (Xb rfl) rfl T.SS KJ (bq aA (bB 0#Z (aa 5) (fR cZ aA) 0#h)) (he:=jy) (hpl:=(cu o9 cg))) dN))) (aq (c7 fQ rfl (uQ rfl T.range (dD (aI bL 0#V aA))) (bX (i:=7) ju.nd rfl 0#k) (aq (aK 8 ju.nd (bY lz hr (qX (Rl K) 0#j (qZ (aa 7)) qY) 0#s)) (aH (bW (jj (rg (bC jI (aa 8) dN 0#J) (sr (bC lQ (aI aW (bB 0#Z (aa 5) (aa 7) 0#h) aA) (aJ K (aa 6)) 0#J)))) (aq (aK 9 ju.nd (Jd.c1 bH hr (Jd.c3 cC hr (aa 8) (bB 0#Z 0#j (aa 7) 0#h) (aI aW 0#E aA)))) (aH (aK 6 ju.nd (bJ (bq (aI aW (bB 0#Z (aa 5) (aa 7) 0#h) aA) (bJ (bq (aI aW 0#E aA) (aa 9)))))))) cj)))) (aH (aV (aa 6))))))),?_⟩
 rw?
 refine gr (c:=ao) (by cases ao <;> decide +kernel) ?_
 rw?
 refine ⟨l,pb,es,n,nb,β,ao,rfl,hl,hR,hS,dH,h1,by try?,hb,hn,hnb,λR t H1 s1 nR eR hF=>?_⟩
 rw [show (if ao=true then es.length else es.length+1)=es.length+aU ao by cases ao <;> rfl] at eR hF
 have hN:0<es.length+aU ao:=by simp?
 rw?
 refine cK eR (rV hN) ?_
 rw?
 refine aF (mk:=.tup) 0#f λy0 H2 s2 n2 e2=>?_
 rw?
 refine dJ (qD ?_)
 rw?
 refine cy (.inl (aX.of ((s1.trans s2) _ _ hl))) ?_
 rw [aN]
 rw?
 have emax:(if t (es.length+aU ao-1)>1 then t (es.length+aU ao-1) else 1)=max 1 (t (es.length+aU ao-1)):=by
  split <;> simp?
 rw [emax] at e2
 refine ⟨_,rfl,by lia,by lia,cA (λm σ H3=>Xs6 λ(y:av) (v:Int) (wv:V) (v7 v8 v9:Option V)=>σ=[some 0#U,some (.str (Fw (if ao=true then .ch else .sp))),some (.ref pb),some (.int u),some (.bl ao),some (.ref R),some (.ref y),v7,v8,v9]∧au H2 H3∧H3 y=some (.tup [.int v,wv])∧uN es β t 0#H m v∧Hn H3 es β ao t u v (5*n+nb+5) wv) ?_ ?_ ?_⟩
 ·exact ⟨y0,_,.bM,_,_,_,rfl,au.refl _,e2,⟨DK _,λp hp=>absurd hp (Be _),.inl rfl⟩,.no rfl⟩
 ·rintro m σ H3 hm ⟨y,v,wv,v7,v8,v9,rfl,s3,ey,hL,hW⟩
  have hm1:m+1<es.length:=by simp?
  rw [show (0:Int)+(m:Int)=(m:Int) by simp?]
  have nE:=s1.trans (s2.trans s3)
  refine cE λM Bk RR hM _ hR'=>?_
  walk_at "vd"
  refine uR (nE _ _ hl) λS H4 s4 nS eS=>?_
  rw [RQ,show (vals es).drop m=vals (es.drop m) by unfold vals;rw [FN]] at eS
  have yg:=nE.trans s4
  rw?
  refine ⟨S,pb,es.drop m,n,nb,β,rfl,eS,λx hx=>(hR.up yg) x (KL hx),λx hx=>hS x (KL hx),dH.sublist (Ag _ _),by rw [iX];simp?,by rw [iX];simp?,hb.up yg,hn,hnb,?_,?_⟩
  ·rintro ⟨i,j,i0,i1,j0,j1,lt⟩ H5 s5
   rw [iX] at i1 j1
   have nT:¬Rt es β m:=λz=>by
    rw [pI.1,pI.2] at lt
    exact absurd (z (m+i) (m+j) 0#c 0#c 0#c 0#c) (rB.mpr lt)
   rw?
   refine 0#M
   rw?
   refine bI ?_
   rw?
   refine bI ?_
   rw?
   have M5:=s4.trans s5
   exact hM _ _ ⟨y,v,wv,_,_,_,rfl,s3.trans M5,M5 _ _ ey,⟨hL.1,λp hp hT=>by
    by_cases e:p=m
    ·subst e
     exact absurd hT nT
    ·exact hL.2.1 p 0#c hT,hL.2.2.imp id λ⟨p,hp,z⟩=>⟨p,by simp?,z⟩⟩,hW.up M5⟩
  ·intro all p G H5 s5 fG hG1 hG2
   rw [iX] at hG1 hG2 all
   have hT:Rt es β m:=λi j a b c d=>by
    have:=all (i-m) (j-m) 0#c 0#c 0#c 0#c
    rw [pI.1,pI.2,show m+(i-m)=i by simp?,show m+(j-m)=j by simp?] at this
    exact this
   have hG:aaG es β m G:=by
    refine ⟨λi a b=>?_,?_⟩
    ·have:=hG1 (i-m) 0#c 0#c
     rw [pI.1,show m+(i-m)=i by simp?] at this
     exact this
    ·obtain ⟨i,a,b,e⟩:=hG2
     rw [pI.1] at e
     exact ⟨m+i,by simp?,by simp?,e⟩
   rw?
   refine 0#M
   have M5:=s4.trans s5
   have ey5:=M5 _ _ ey
   have eR5:=(s2.trans (s3.trans M5)) _ _ eR
   obtain ⟨xm,gm,fm⟩:=cT (hR.up (nE.trans M5)) hS (show m<es.length by simp?)
   rw?
   refine cB ?_
   rw?
   refine cK eR5 (ic 0#c rfl) ?_
   rw?
   refine cD 0#y 0#y
   ·have c':=jw c
    rw?
    refine cK ((nE.trans M5) _ _ hl) (eG gm rfl) ?_
    rw?
    refine ⟨p,xm.1,G,wo es m,mo es m,u+1,3*n+nb+3,n,rfl,fG,fm,zu,by try?,by try?,λx6 H6 s6 f6=>?_⟩
    rw?
    refine ⟨x6,_,_,rfl,f6,by try?,λx7 H7 s7 f7=>?_⟩
    rw?
    refine cK ((s6.trans s7) _ _ eR5) (ic 0#c rfl) ?_
    rw?
    refine aF (mk:=.tup) 0#f λx8 H8 s8 n8 e8=>?_
    rw?
    refine aF (mk:=.tup) 0#f λx9 H9 s9 n9 e9=>?_
    have QL:=s8.trans s9
    rw?
    refine hM _ _ ⟨x9,t m+1,.ref x8,_,_,_,rfl,s3.trans (M5.trans (s6.trans (s7.trans QL))),e9,⟨?_,λp hp hT'=>?_,.inr ⟨m,by simp?,hT,rfl⟩⟩,.yes (s9 _ _ e8) hm1 rfl ?_ hT hG ((f7.up QL).mono 0#d)⟩
    ·have:=hL.1
     simp?
    ·by_cases e:p=m
     ·subst e
      simp?
     ·have:=hL.2.1 p 0#c hT'
      simp?
    ·have:=hL.1
     simp?
   ·have c':=gY (gQ.mpr c)
    rw?
    exact hM _ _ ⟨y,v,wv,_,_,_,rfl,s3.trans M5,ey5,⟨hL.1,λp hp hT'=>by
     by_cases e:p=m
     ·subst e
      simp?
     ·exact hL.2.1 p 0#c hT',hL.2.2.imp id λ⟨p,hp,z⟩=>⟨p,by simp?,z⟩⟩,hW.up M5⟩
 ·rintro σ H3 ⟨y,v,wv,v7,v8,v9,rfl,s3,ey,hL,hW⟩
  rw?
  rw [show ((es.length:Int)-1).toNat=es.length-1 by simp?] at hL
  exact k y v wv t H3 (s1.trans (s2.trans s3)) ey hF hL hW
end
theorem Dy (h:j<m-n):wo (piece es n m) j=wo es (n+j):=by unfold wo;rw [yS h]
theorem Km (hi:i<m-n) (hj:j<m-n) (hk:k<m-n):sd (piece es n m) i j k=sd es (n+i) (n+j) (n+k):=by
 unfold sd
 rw [wN hi,wN hj,wN hk,Dy hi,Dy hj,Dy hk]
theorem Ux (h:es.map (·.2)=es'.map (·.2)) (i j k:Nat):sd es i j k=sd es' i j k:=by
 unfold sd
 rw [(fJ h i).1,(fJ h i).2,(fJ h j).1,(fJ h j).2,(fJ h k).1,(fJ h k).2]
theorem jH (h:i<es.length):mo (es++xs) i=mo es i∧wo (es++xs) i=wo es i:=by
 unfold mo wo
 rw [yb h]
 exact ⟨rfl,rfl⟩
theorem HV (hi:i<es.length) (hj:j<es.length) (hk:k<es.length):sd (es++xs) i j k=sd es i j k:=by
 unfold sd
 rw [(jH hi).1,(jH hi).2,(jH hj).1,(jH hj).2,(jH hk).1,(jH hk).2]
theorem Gr.congr (h:Gr E n F m):(∀F k,k<n→(E F k↔E' F k))→Gr E' n F m:=by
 induction h with
 | nil=>exact λ_=>.nil
 | no h he ih=>exact λu=>.no (ih λF k hk=>u F k 0#c) λz=>he ((u _ _ 0#c).mpr z)
 | yes h he ih=>exact λu=>.yes (ih λF k hk=>u F k 0#c) ((u _ _ 0#c).mp he)
theorem Gr.on (h:Gr E k F n):∀d,(∀k',k≤k'→k'<k+d→¬E F k')→Gr E (k+d) F n
 | 0,_=>h
 | d+1,u=>.no (Gr.on h d λk' a b=>u k' a 0#c) (u (k+d) 0#c 0#c)
def Pin (es:List En) (β:Rat) (F k:Nat):Prop:=∃i j,F≤i∧i<j∧j<k∧2*β<dO (sd es i j k)
theorem Cut.pin (hr:rising es) (mJ:0≤β) (h1:1≤es.length) (h:Cut es (2*β) qs es.length):∃F v:Nat,Gr (Pin es β) es.length F v∧(qs.length:Int)=1+v:=by
 obtain ⟨pos,p0,pn,hq⟩:=h
 have hB:0≤2*β:=by grind
 have rp:∀n m,rising (piece es n m):=λn m=>hr.sublist ((KR _ _).trans (Ag _ _))
 have ft:∀n m,m≤es.length→(IP (piece es n m) (2*β)↔∀i j k,n≤i→i<j→j<k→k<m→dO (sd es i j k)≤2*β):=λn m hm=>by
  rw [vo (rp n m) hB,uw hm]
  constructor
  ·intro z i j k a b c d
   have:=z (i-n) (j-n) (k-n) 0#c 0#c 0#c
   rw [Km 0#c 0#c 0#c,show n+(i-n)=i by simp?,show n+(j-n)=j by simp?,show n+(k-n)=k by simp?] at this
   exact this
  ·intro z i j k a b c
   rw [Km 0#c 0#c 0#c]
   exact z _ _ _ 0#c 0#c 0#c 0#c
 have hqi:∀i,i<qs.length→pos i<pos (i+1)∧pos (i+1)≤es.length∧(∀k,k<pos (i+1)→¬Pin es β (pos i) k)∧(pos (i+1)<es.length→Pin es β (pos i) (pos (i+1))):=λi hi=>by
  obtain ⟨a,b,c,d,e⟩:=hq i _ (mC hi)
  rw [c,ft _ _ b] at d
  refine ⟨a,b,λk hk ⟨x,y,u1,u2,u3,u4⟩=>absurd (d x y k u1 u2 u3 hk) (rB.mpr u4),λhlt=>?_⟩
  have:=e hlt
  rw [ft _ _ 0#c] at this
  refine Q8 λnp=>this λx y k u1 u2 u3 u4=>jz.mp λz=>?_
  by_cases ek:k=pos (i+1)
  ·subst ek
   exact np ⟨x,y,u1,u2,u3,z⟩
  ·exact absurd (d x y k u1 u2 u3 0#c) (rB.mpr z)
 have h0:0<qs.length:=Nat.pos_of_ne_zero λz=>by rw [z,p0] at pn;simp?
 have all:∀i,i<qs.length→Gr (Pin es β) (pos (i+1)) (pos i) i:=by
  intro i
  induction i with
  | zero=>
    intro hi
    obtain ⟨a,b,c,d⟩:=hqi 0 hi
    rw [p0] at c ⊢
    have:=Gr.on (E:=Pin es β) .nil (pos (0+1)) λk' _ z=>c k' 0#c
    rw [aas] at this
    exact this
  | succ i ih=>
    intro hi
    obtain ⟨a,b,c,d⟩:=hqi (i+1) hi
    obtain ⟨a',b',c',d'⟩:=hqi i 0#c
    have g:=Gr.yes (ih 0#c) (d' 0#c)
    have:=g.on (pos (i+1+1)-(pos (i+1)+1)) λk' _ z=>c k' 0#c
    rw [show pos (i+1)+1+(pos (i+1+1)-(pos (i+1)+1))=pos (i+1+1) by simp?] at this
    exact this
 have:=all (qs.length-1) 0#c
 rw [show qs.length-1+1=qs.length by simp?,pn] at this
 exact ⟨_,_,this,by simp?⟩
theorem Q0 (h1:1≤es.length) (h:Told es β ao l) (hf:jE (d7 es β ao) 0#H t):(l.length:Int)=max 1 (t (es.length+aU ao-1)):=by
 obtain ⟨t',ps,hf',hw,rfl⟩:=h
 have e:=wB hf hf' (es.length+aU ao-1) 0#c
 rw [gV,e]
 have lab:∀{L:Nat→Nat→Prop} {p:Nat} {ps:List (Nat×Nat)},Way L t' p ps→(ps.length:Int)=t' p:=λ{L p ps} h=>by
  induction h with
  | nil=>rw [hf'.first];rfl
  | @cons a p ps f w ih=>
    rw [fj,ID]
    have:=f.2.2.1
    simp?
 have hl:=lab hw
 by_cases z:es.length+aU ao=1
 ·rw [if_pos z,z,K3,hf'.first]
  rfl
 ·rw [if_neg z]
  have pos:∀{L:Nat→Nat→Prop} {p:Nat} {ps:List (Nat×Nat)},Way L t' p ps→0<p→1≤ps.length:=λ{L p ps} h hp=>by
   cases h with
   | nil=>simp?
   | cons f w=>rw [fj,ID];simp?
  have:=pos hw 0#c
  simp?
def RT (ao:Bool) (β:Rat) (es:List En) (d:Int):Prop:=∃t,jE (d7 es β ao) 0#H t∧d=max 1 (t (es.length+aU ao-1))
def RC (wy:Wy) (β:Rat) (es:List En) (d:Int):Prop:=match wy with
 | .ap=>∃F v:Nat,Gr (Pin es β) es.length F v∧d=1+v
 | .jo=>∃F F' u v:Nat,Gr (Hig es β) es.length F u∧Gr (Lm es β) es.length F' v∧d=1+u+v
 | .sp=>RT false β es d
 | .ch=>RT true β es d
def BT (ao:Bool) (β:Rat) (es:List En) (d:Int):Prop:=∃t,jE (d7 es β ao) 0#H t∧uN es β t 0#H (es.length-1) d
def BC (wy:Wy) (β:Rat) (es:List En) (d:Int):Prop:=match wy with
 | .ap=>RC .ap β es d
 | .jo=>RC .jo β es d
 | .sp=>BT false β es d
 | .ch=>BT true β es d
section
theorem j6 {es es':List En} (h:es.map (·.2)=es'.map (·.2)):es.length=es'.length:=by simpa using congrArg tY h
theorem RT.congr (h:es.map (·.2)=es'.map (·.2)) (g:RT ao β es d):RT ao β es' d:=by
 obtain ⟨t,a,b⟩:=g
 rw [Cf h,j6 h] at a
 rw [j6 h] at b
 exact ⟨t,a,b⟩
theorem QZ (h:es.map (·.2)=es'.map (·.2)):Rt es β=Rt es' β:=by
 funext p
 unfold Rt dR cS
 simp only [j6 h,(fJ h _).1,(fJ h _).2]
theorem BT.congr (h:es.map (·.2)=es'.map (·.2)) (g:BT ao β es d):BT ao β es' d:=by
 obtain ⟨t,a,b⟩:=g
 rw [Cf h,j6 h] at a
 unfold uN at b
 rw [j6 h,QZ h] at b
 exact ⟨t,a,b⟩
theorem yT (h:es.map (·.2)=es'.map (·.2)):Pin es β=Pin es' β∧Hig es β=Hig es' β∧Lm es β=Lm es' β:=by
 unfold Pin Hig Lm
 simp only [Ux h]
 exact ⟨trivial,trivial,trivial⟩
theorem RC.congr (h:es.map (·.2)=es'.map (·.2)) (g:RC wy β es d):RC wy β es' d:=by
 cases wy with
 | ap=>
   obtain ⟨F,v,a,b⟩:=g
   rw [(yT h).1,j6 h] at a
   exact ⟨F,v,a,b⟩
 | jo=>
   obtain ⟨F,F',u,v,a,a',b⟩:=g
   rw [(yT h).2.1,j6 h] at a
   rw [(yT h).2.2,j6 h] at a'
   exact ⟨F,F',u,v,a,a',b⟩
 | sp=>exact RT.congr h g
 | ch=>exact RT.congr h g
theorem BC.congr (h:es.map (·.2)=es'.map (·.2)) (g:BC wy β es d):BC wy β es' d:=by
 cases wy with
 | ap=>exact RC.congr (wy:=.ap) h g
 | jo=>exact RC.congr (wy:=.jo) h g
 | sp=>exact BT.congr h g
 | ch=>exact BT.congr h g
theorem RC.uniq (g:RC wy β es d) (g':RC wy β es d'):d=d':=by
 have tt:∀{ao:Bool},RT ao β es d→RT ao β es d'→d=d':=λ{ao} ⟨t,a,b⟩ ⟨t',a',b'⟩=>by
  rw [b,b']
  by_cases z:es.length+aU ao=0
  ·rw [z,aav,a.first,a'.first]
  ·rw [wB a a' _ 0#c]
 cases wy with
 | ap=>
   obtain ⟨F,v,a,b⟩:=g
   obtain ⟨F',v',a',b'⟩:=g'
   rw [b,b',(a.uniq a').2]
 | jo=>
   obtain ⟨F,G,u,v,a,c,b⟩:=g
   obtain ⟨F',G',u',v',a',c',b'⟩:=g'
   rw [b,b',(a.uniq a').2,(c.uniq c').2]
 | sp=>exact tt g g'
 | ch=>exact tt g g'
theorem EU (h:jE L' N' t) (hN:N≤N') (e:∀i j,i<j→j<N→(L i j↔L' i j)):jE L N t:=
 ⟨h.first,λi j a b c=>h.le i j a 0#c ((e i j a b).mp c),λj a b=>by
  obtain ⟨i,i1,i2,i3⟩:=h.ex j a 0#c
  exact ⟨i,i1,(e i j i1 b).mpr i2,i3⟩⟩
theorem ac3 (hr:rising (es++xs)) (h1:1≤es.length) (g:BT ao β es d) (g':RT ao β (es++xs) d'):d≤d':=by
 obtain ⟨t,hF,l0,l2,l3⟩:=g
 obtain ⟨t',PU,e0⟩:=g'
 have l1:∀X,1≤X→t (es.length+aU ao-1)≤X→d≤X:=λX u v=>by
  clear l2 l3
  simp?
 have g1:1≤d'∧t' ((es++xs).length+aU ao-1)≤d':=by
  clear l2 l3
  simp?
 clear l0 l3 e0
 have hl:(es++xs).length=es.length+xs.length:=fj
 have s1:aU ao≤1:=by cases ao <;> decide
 generalize hN:(es++xs).length+aU ao=N' at *
 have lg:∀i j,i<j→j<es.length+aU ao→(d7 es β ao i j↔d7 (es++xs) β ao i j):=λi j a b=>by
  rw [jk a b,jk a 0#c]
  unfold Good
  constructor
  ·intro z k k1 k2
   rw [HV 0#c 0#c 0#c]
   exact z k k1 k2
  ·intro z k k1 k2
   have:=z k k1 k2
   rw [HV 0#c 0#c 0#c] at this
   exact this
 have te:=wB hF (EU PU (N:=es.length+aU ao) 0#c lg)
 have key:∀q,q<N'→es.length+aU ao-1≤q→∀X,1≤X→t' q≤X→d≤X:=by
  intro q
  induction q using Pd with
  | ind q ih=>
    intro hq hN2 X x1 x2
    by_cases e:q=es.length+aU ao-1
    ·exact l1 X x1 (by rw [te _ 0#c,← e];exact x2)
    obtain ⟨a,a1,a2,a3⟩:=PU.ex q 0#c hq
    by_cases ha:es.length+aU ao-1≤a
    ·exact ih a a1 0#c ha X x1 0#c
    by_cases hb:a<es.length-1
    ·have hT:Rt es β a:=by
      have hg:=(jk a1 0#c).mp a2
      have one:∀i,a<i→i<es.length→dR es β a i≤UE (es++xs) a (q-aU ao)∧UE (es++xs) a (q-aU ao)≤cS es β a i:=λi i1 i2=>by
       have:=(r8 hr i1 (show i<q-aU ao by simp?) 0#c).mp (hg i i1 0#c)
       unfold dR cS at this ⊢
       have hi:=jH (xs:=xs) i2
       have ha:=jH (xs:=xs) (Ao i1 i2)
       rw [hi.1,hi.2,ha.1,ha.2] at this
       exact this
      exact λi j i1 i2 j1 j2=>pU (one i i1 i2).1 (one j j1 j2).2
     have:=l2 a hb hT
     rw [te a 0#c,← a3] at this
     exact Pk this x2
    ·have e1:a=es.length-1:=by simp?
     have e2:es.length+aU ao-1=es.length:=by simp?
     have:=hF.le a es.length 0#c 0#c (by rw [e1];exact uo 0#c 0#c)
     rw [te a 0#c,← a3] at this
     exact l1 X x1 (by rw [e2];exact Pk this x2)
 exact key (N'-1) 0#c 0#c d' g1.1 g1.2
end
inductive jG (R:List En→Int→Prop):List (List En)→Int→Prop
 | nil:jG R [] 0
 | cons {r:List En} {rs:List (List En)} {c d:Int}:R r c→jG R rs d→jG R (r::rs) (c+d)
section
theorem jG.snoc (h:jG R rs d) (hc:R r c):jG R (rs++[r]) (d+c):=by
 induction h with
 | nil=>have:=jG.cons hc .nil;rw [VF] at this;rw [Int.zero_add];exact this
 | cons a b ih=>rw [aaj];exact .cons a ih
theorem jG.imp (e:∀r r' c,r.map (·.2)=r'.map (·.2)→R r c→R' r' c) (h:jG R rs d):∀{rs'},jD (λr r':List En=>r.map (·.2)=r'.map (·.2)) rs rs'→jG R' rs' d:=by
 induction h with
 | nil=>
   intro rs' g
   cases rs' with
   | nil=>exact .nil
   | cons _ _=>exact g.elim
 | cons a b ih=>
   intro rs' g
   cases rs' with
   | nil=>exact g.elim
   | cons _ _=>exact .cons (e _ _ _ g.1 a) (ih g.2)
theorem jG.uniq (u:∀r c c',R r c→R r c'→c=c') (h:jG R rs d):jG R rs d'→d=d':=by
 induction h generalizing d' with
 | nil=>intro g;cases g;rfl
 | cons a b ih=>intro g;cases g with | cons a' b'=>rw [u _ _ _ a a',ih b']
end
section
variable {α:Type} {s:α→Bool} {as bs:List α}
theorem qB:∀i,i≤as.length→parts s (as++bs) i=parts s as i∧bU s (as++bs) i=bU s as i
 | 0,_=>⟨rfl,rfl⟩
 | i+1,h=>by
   have ih:=qB i 0#c
   have g:(as++bs)[i]?=as[i]?:=yb 0#c
   refine ⟨?_,?_⟩
   ·unfold parts
    rw [g,ih.1,ih.2]
   ·unfold bU
    rw [KO,g]
theorem E8 (h:bU s as as.length=false):∀i,i≤bs.length→parts s (as++bs) (as.length+i)=parts s as as.length++parts s bs i∧bU s (as++bs) (as.length+i)=bU s bs i
 | 0,_=>by
   obtain ⟨a,b⟩:=qB (s:=s) (bs:=bs) as.length (dG _)
   rw [Pn,a,b,h]
   exact ⟨(vX _).symm,rfl⟩
 | i+1,hi=>by
   obtain ⟨a,b⟩:=E8 h i 0#c
   have g:(as++bs)[as.length+i]?=bs[i]?:=by rw [ya 0#c,YV]
   obtain ⟨x,hx⟩:∃x,bs[i]?=some x:=⟨_,mC 0#c⟩
   rw [hx] at g
   rw [← Nat.add_assoc]
   refine ⟨?_,by rw [fN g,fN hx]⟩
   cases hs:s x with
   | false=>rw [jm g hs,jm hx hs,a]
   | true=>
     cases hi:bU s bs i with
     | false=>rw [jn g hs (b.trans hi),jn hx hs hi,a,Dz]
     | true=>
       obtain ⟨t,r,hp⟩:=sD hi
       rw [m9 hx hs hi hp,m9 g hs (b.trans hi) (t:=parts s as as.length++t) (r:=r) (by rw [a,hp,Dz]),Dz]
theorem E9 (h:∀x∈as,s x=true) (h0:as≠[]):parts s as as.length=[as]:=by
 have all:∀i,i+1≤as.length→parts s as (i+1)=[as.take (i+1)]:=by
  intro i
  induction i with
  | zero=>
    intro hi
    obtain ⟨x,hx⟩:∃x,as[0]?=some x:=⟨_,mC 0#c⟩
    rw [jn hx (h x (lP hx)) rfl,DE,hx]
    rfl
  | succ i ih=>
    intro hi
    obtain ⟨x,hx⟩:∃x,as[i+1]?=some x:=⟨_,mC 0#c⟩
    obtain ⟨y,hy⟩:∃y,as[i]?=some y:=⟨_,mC 0#c⟩
    have hin:bU s as (i+1)=true:=by rw [fN hy];exact h y (lP hy)
    rw [m9 hx (h x (lP hx)) hin (t:=[]) (r:=as.take (i+1)) (by rw [ih 0#c];rfl),DE (i:=i+1),hx]
    rfl
 have:0<as.length:=Ld.mpr h0
 have:=all (as.length-1) 0#c
 rw [show as.length-1+1=as.length by simp?,jR] at this
 exact this
end
theorem MH (h:es.map (·.2)=es'.map (·.2)):jD (λr r':List En=>r.map (·.2)=r'.map (·.2)) (parts c8 es es.length) (parts c8 es' es'.length):=by
 refine Je ?_
 have a:=uv (λx:En=>x.2) (λv:Int×Option Rat=>v.2.isSome) es es.length
 have c:=uv (λx:En=>x.2) (λv:Int×Option Rat=>v.2.isSome) es' es'.length
 have a':(parts c8 es es.length).map (Ar λx:En=>x.2)=parts (λv:Int×Option Rat=>v.2.isSome) (es.map λx=>x.2) es.length:=a
 have c':(parts c8 es' es'.length).map (Ar λx:En=>x.2)=parts (λv:Int×Option Rat=>v.2.isSome) (es'.map λx=>x.2) es'.length:=c
 rw [a',c',h,j6 h]
theorem abF {b:Int} (h:es.map (·.2)=hs.map (λx=>cz b x.2)) (hb:1≤b) (ht:dZ hs i<dZ hs k):(2*c*(dZ hs k-dZ hs i)<yE hs i j k↔2*0#t<sd es i j k)∧(2*c*(dZ hs k-dZ hs i) < - yE hs i j k↔sd es i j k < -(2*0#t)):=by
 have hp:=cast_pos (b:=(dZ hs k-dZ hs i)*b) (xV 0#c 0#c)
 have hb':=cI (b:=b) 0#c
 have e1:((2*c*(dZ hs k-dZ hs i):Int):Rat)=2*0#t*(((dZ hs k-dZ hs i)*b:Int):Rat):=by
  simp only [nY,oh]
  have:((2:Int):Rat)=2:=rfl
  rw [this]
  grind
 have e2:=Oo h (i:=i) (k:=j) (j:=k) hb ht
 constructor
 ·rw [← vW,e1,e2]
  constructor
  ·intro z
   exact YN z (K4 hp)
  ·intro z
   exact IB z hp
 ·rw [← vW,Pa,e1,e2]
  constructor
  ·intro z
   have:2*0#t < - sd es i j k:=YN (c:=(((dZ hs k-dZ hs i)*b:Int):Rat)) 0#O (K4 hp)
   grind
  ·intro z
   have:=IB (show 2*0#t < - sd es i j k by grind) hp
   grind
theorem S7 {b c:Int} (hb:1≤b) (hc:0≤c):(0:Rat)≤(c:Rat)/(b:Rat):=by
 have h1:(0:Rat)<(b:Rat):=cast_pos 0#c
 have h2:(0:Rat)≤(c:Rat):=by
  have:=KG.mpr hc
  simpa using this
 exact (l9 h1).mpr 0#O
theorem XI (ha:0≤a):a<dO x↔a<x∨x < -a:=by
 unfold dO
 split <;> grind
theorem Si (hb:1≤b) (hc:0≤c) (hr:fV hs) :(Gr (NE3 hs c 0) hs.length F v→Gr (Pin (gh hs b) 0#t) (gh hs b).length F v)∧(Gr (NE3 hs c 1) hs.length F v→Gr (Hig (gh hs b) 0#t) (gh hs b).length F v)∧(Gr (NE3 hs c (-1)) hs.length F v→Gr (Lm (gh hs b) 0#t) (gh hs b).length F v):=by
 rw [gU]
 have mJ:0≤2*0#t:=by have:=S7 hb hc;grind
 have n1:∀{i j k:Nat},i<k→k<hs.length→_:=λ{i j k} h1 h2=>abF (j:=j) (c:=c) (rZ hs b) hb (Ck hr h1 h2)
 refine ⟨λg=>g.congr λF k hk=>?_,λg=>g.congr λF k hk=>?_,λg=>g.congr λF k hk=>?_⟩
 ·refine FP λi=>FP λj=>xT λh1=>xT λh2=>xT λh3=>?_
  obtain ⟨u1,u2⟩:=n1 (i:=i) (j:=j) (k:=k) 0#c hk
  rw [XI mJ,← u1,← u2,show Rm 0 (yE hs i j k)=(if yE hs i j k<0 then -yE hs i j k else yE hs i j k) from rfl]
  have:0≤2*c*(dZ hs k-dZ hs i):=pB 0#c (by have:=Ck hr (show i<k by simp?) hk;simp?)
  split <;> simp?
 ·refine FP λi=>FP λj=>xT λh1=>xT λh2=>xT λh3=>?_
  rw [← (n1 (i:=i) (j:=j) (k:=k) 0#c hk).1]
  exact Iff.rfl
 ·refine FP λi=>FP λj=>xT λh1=>xT λh2=>xT λh3=>?_
  rw [← (n1 (i:=i) (j:=j) (k:=k) 0#c hk).2]
  exact Iff.rfl
theorem TJ (hs:List Nn) (b:Int) (i:Nat):(parts rC hs i).map (gh · b)=parts c8 (gh hs b) i:=by
 have c:=uv (λx:Nn=>((x.1,cz b x.2):En)) c8 hs i
 have e2:(λx:Nn=>c8 ((x.1,cz b x.2):En))=rC:=funext λx=>by unfold c8 cz rC;simp
 rw [show (λx:Nn=>c8 ((λx:Nn=>((x.1,cz b x.2):En)) x))=rC from e2] at c
 exact c
inductive Nm (vs:List V) (H:Hp) (Q:VK) (E_:XK):Prop where
 | mk (l:av) (hs:List Nn) (i j:Nat) (c:Int) (m n:Nat):vs=[.ref l,.int (i:Int),.int (j:Int),.int c]→H l=some (.lst (bE hs))→iB H hs m n→uD hs→i≤j→j<hs.length→hs.length≤40→Sz n c→m≤2000→n≤2000→(∀r:Bool,(r=false↔∀k,i<k→k<j→((yE hs i k j).natAbs:Int)≤c*(dZ hs j-dZ hs i))→Q (.bl r) H)→Nm vs H Q E_
inductive xK (vs:List V) (H:Hp) (Q:VK) (E_:XK):Prop where
 | mk (l:av) (hs:List Nn) (c b:Int) (ao:Bool) (m n:Nat):vs=[.ref l,.int c,.int (1-(aU ao:Int))]→H l=some (.lst (bE hs))→iB H hs m n→uD hs→fV hs→1≤hs.length→hs.length≤40→Sz n c→m≤2000→n≤2000→1≤b→(∀(R:av) (t:Nat→Int) (H':Hp),au H H'→H' R=some (.lst (ig (hs.length+aU ao) t))→jE (d7 (gh hs b) 0#t ao) (hs.length+aU ao) t→Q (.ref R) H')→xK vs H Q E_
inductive tL (vs:List V) (H:Hp) (Q:VK) (E_:XK):Prop where
 | mk (l:av) (hs:List Nn) (wy:Wy) (c b:Int) (m n:Nat):vs=[.ref l,.str (Fw wy),.int c]→H l=some (.lst (bE hs))→iB H hs m n→uD hs→fV hs→1≤hs.length→hs.length≤40→Sz n c→m≤2000→n≤2000→1≤b→0≤c→(∀(d:Int) (H':Hp),au H H'→RC wy 0#t (gh hs b) d→Q (.int d) H')→tL vs H Q E_
inductive Ds (vs:List V) (H:Hp) (Q:VK) (E_:XK):Prop where
 | mk (l:av) (hs:List Nn) (wy:Wy) (c b:Int) (m n:Nat):vs=[.ref l,.str (Fw wy),.int c]→H l=some (.lst (bE hs))→iB H hs m n→fV hs→hs.length≤40→Sz n c→m≤2000→n≤2000→1≤b→0≤c→(∀(d:Int) (H':Hp),au H H'→jG (RC wy 0#t) (parts c8 (gh hs b) (gh hs b).length) d→Q (.int d) H')→Ds vs H Q E_
section
theorem vR:aE ["_law_run","_law_i","_law_k","_law_bound","_law_span","_law_j"] ["_law_run","_law_i","_law_k","_law_bound"] (ah yX):=0#a
theorem MA (F:cR K "_law_far" "_law_far" yX f fd) (T:Txt mg) (jg:Dn P w K mg base 1 "_law_stand" ["_law_one","_law_mid","_law_last"] xH):bf P w K mg base cY 2 f fd ["_law_run","_law_i","_law_k","_law_bound"] Nm:=by
 refine F.ok vR 0#e 0#b
 ·obtain ⟨l,hs,i,j,c,m,n,rfl,_⟩:=h
  rfl
 obtain ⟨l,hs,i,j,c,em,en,rfl,hl,hes,hS,hij,hj,jS,zc,hm,hn,k⟩:=h
 obtain ⟨xi,gi,ei,Yd,zi2⟩:=wO hes hS (show i<hs.length by simp?)
 obtain ⟨xj,gj,ej,zj1,zj2⟩:=wO hes hS hj
 have zsp:=zj1.sub Yd
 have ok1:=bV zc zsp 0#c
 refine bG ⟨_,(aq (aK 4 vR.nd (aI bL (aJ K (bB 0#Z 0#j 0#s 0#h)) (aJ K (bB 0#Z 0#j 0#p 0#h)))) (aq (c7 fQ rfl (sq rfl T.range (bq (aI aW 0#p aA) 0#s)) (bX (i:=5) vR.nd rfl 0#k) (aH (bW (bC dS (dQ ym rfl T.yo zR (dD (Jd.c3 jg hr (bB 0#Z 0#j 0#p 0#h) (bB 0#Z 0#j (aa 5) 0#h) (bB 0#Z 0#j 0#s 0#h))) (he:=Bb) (hpl:=cg)) (aI aQ 0#E 0#X) 0#J) (aH (aV kK)) cj))) (aH (aV kK)))),?_⟩
 rw?
 refine cK hl (di gj rfl) ?_
 rw?
 refine cK hl (di gi rfl) ?_
 rw?
 refine dJ (nB ?_)
 rw?
 refine ⟨_,_,rfl,1#b,cA (λm σ H3=>H3=H∧∃v5:Option V,σ=[some 0#U,some (.int i),some (.int j),some (.int c),some (.int (dZ hs j-dZ hs i)),v5]∧∀k,i<k→k<i+1+m→((yE hs i k j).natAbs:Int)≤c*(dZ hs j-dZ hs i)) ?_ ?_ ?_⟩
 ·exact ⟨rfl,none,rfl,λk h1 h2=>by try?⟩
 ·rintro m σ H3 hm' ⟨rfl,v5,rfl,hall⟩
  obtain ⟨xp,gp,ep,zp1,zp2⟩:=wO hes hS (show i+1+m<hs.length by try?)
  rw?
  refine cK hl (di gi rfl) ?_
  rw?
  refine cK hl (di gp 0#d) ?_
  rw?
  refine cK hl (di gj rfl) ?_
  rw?
  refine ⟨xi.1,xp.1,xj.1,_,_,_,_,_,_,em,en,rfl,ei,ep,ej,Yd,zp1,zj1,zi2,zp2,zj2,by simp?,?_⟩
  rw?
  rw [iS]
  refine cD 0#C 0#C
  ·have rW:=jw c1
   rw?
   refine k true ⟨λz=>absurd z 0#i,λz=>?_⟩
   have h2:((yE hs i (i+1+m) j).natAbs:Int)≤c*(dZ hs j-dZ hs i):=z (i+1+m) 0#d 0#d
   exact absurd rW (uX.mpr h2)
  ·have rW:=gY (gQ.mpr c1)
   rw?
   refine ⟨rfl,_,rfl,λk' h1 h2=>?_⟩
   by_cases e:k'=i+1+m
   ·subst e
    exact uX.mp rW
   ·exact hall k' h1 0#d
 ·rintro σ H3 ⟨rfl,v5,rfl,hall⟩
  rw?
  refine k false ⟨λ_ k' h1 h2=>hall k' h1 0#d,λ_=>rfl⟩
theorem jM:aE ["_law_run","_law_bound","_law_hangs","_law_steps_here","_law_upto","_law_ways","_law_i"] ["_law_run","_law_bound","_law_hangs"] (ah sX):=0#a
theorem G7 (F:cR K "_law_steps" "_law_steps" sX f fd) (T:Txt mg) (yk:Dn P w K mg base 2 "_law_far" ["_law_run","_law_i","_law_k","_law_bound"] Nm):bf P w K mg base cY 3 f fd ["_law_run","_law_bound","_law_hangs"] xK:=by
 refine F.ok jM 0#e 0#b
 ·obtain ⟨l,hs,c,b,ao,m,n,rfl,_⟩:=h
  rfl
 obtain ⟨l,hs,c,b,ao,em,en,rfl,hl,hes,hS,dH,h1,jS,zc,hm,hn,hb,k⟩:=h
 have s1':aU ao≤1:=by cases ao <;> decide
 refine bG ⟨_,(aq (aK 3 jM.nd (dI (dD aA))) (aq (c7 fQ rfl (sq rfl T.range (bq aA (aI bL (aI aW 0#V aA) 0#s))) (bX (i:=4) jM.nd rfl 0#k) (aq (aK 5 jM.nd (dI dX)) (aq (c7 fQ rfl (uQ rfl T.range (dD 0#X)) (bX (i:=6) jM.nd rfl 0#k) (aH (bW (Jd.nv (ir (fY yk 0#z rfl (Jd.a4 0#j (aa 6) (aI aW (aI bL 0#X aA) 0#s) 0#p) (he:=bw) (hpl:=(cu bw (cu Iq (cu bw cg))))))) (aH (eO (gM K (aa 5) (aI aW (bB 0#Z 0#E (aa 6) 0#h) aA)) (hs:=eF))) cj))) (aH (eO (gM K 0#E (dQ (af3 K rfl) rfl T.Xc OU (dD (aa 5)) (he:=bw) (hpl:=cg))) (hs:=eF)))))) (aH (aV 0#E)))),?_⟩
 rw?
 refine aF (mk:=.lst) 0#f λR H1 s1 n1 e1=>?_
 rw?
 refine dJ (nB ?_)
 rw?
 refine cy (.inl (aX.of (s1 _ _ hl))) ?_
 rw [bh]
 rw?
 refine ⟨_,_,rfl,1#b,cA (λi σ H3=>Rv λ(t:Nat→Int) (v4 v5 v6:Option V)=>σ=[some 0#U,some (.int c),some (.int (1-(aU ao:Int))),some (.ref R),v4,v5,v6]∧au H H3∧H3 R=some (.lst (ig (1+i) t))∧jE (d7 (gh hs b) 0#t ao) (1+i) t) ?_ ?_ ?_⟩
 ·exact ⟨λ_=>0,none,none,none,rfl,s1,e1,R8⟩
 ·rintro i σ H3 hi ⟨t,v4,v5,v6,rfl,s3,e3,hf⟩
  refine cE λM Bk RR hM _ _=>?_
  have hi':1+i<hs.length+aU ao:=by simp?
  rw [show (1:Int)+(i:Int)=((1+i:Nat):Int) by simp?]
  rw?
  refine aF (mk:=.lst) 0#f λW H4 s4 n4 e4=>?_
  rw?
  refine dJ (qD ?_)
  rw?
  refine ⟨_,rfl,by lia,by lia,cA (λm σ H5=>Lq λ(us:List Int) (v6:Option V)=>σ=[some 0#U,some (.int c),some (.int (1-(aU ao:Int))),some (.ref R),some (.int ((1+i:Nat):Int)),some (.ref W),v6]∧au H3 H5∧H5 W=some (.lst (us.map V.int))∧us.length≤m∧∀u,u∈us↔∃kk,kk<m∧d7 (gh hs b) 0#t ao kk (1+i)∧u=t kk+1) ?_ ?_ ?_⟩
  ·exact ⟨[],_,rfl,s4,e4,dG _,λu=>⟨λz=>absurd z 0#f,λ⟨kk,z,_⟩=>absurd z 0#d⟩⟩
  ·rintro m σ H5 hm' ⟨us,v6,rfl,s5,e5,hul,JC⟩
   refine cE λM2 B2 R2 Ra _ _=>?_
   have hm2:m<1+i:=by simp?
   rw [show (0:Int)+(m:Int)=(m:Int) by simp?]
   rw?
   refine ⟨l,hs,m,1+i-aU ao,c,em,en,?_,(s3.trans s5) _ _ hl,hes.up (s3.trans s5),hS,by simp?,by simp?,jS,zc,hm,hn,λr hr'=>?_⟩
   ·rw [show ((1+i:Nat):Int)-1+(1-(aU ao:Int))=((1+i-aU ao:Nat):Int) by simp?]
    rfl
   have Yp:r=false↔d7 (gh hs b) 0#t ao m (1+i):=by
    rw [hr',jk hm2 (by rw [gU];simp?)]
    exact Qk (rZ hs b) hb dH 0#c 0#c
   rw?
   cases r with
   | true=>
     refine bI ?_
     rw?
     refine Ra _ _ ⟨us,_,rfl,s5,e5,by simp?,λu=>?_⟩
     rw [JC u]
     constructor
     ·rintro ⟨kk,z,z2⟩
      exact ⟨kk,by simp?,z2⟩
     ·rintro ⟨kk,z,z2,z3⟩
      refine ⟨kk,?_,z2,z3⟩
      by_cases e:kk=m
      ·subst e
       exact absurd (Yp.mpr z2) 0#i
      ·simp?
   | false=>
     have hl':=Yp.mp rfl
     refine cB ?_
     rw?
     refine ⟨.inl ⟨rfl,_,aX.of e5⟩,?_⟩
     rw?
     refine cK (s5 _ _ e3) (ic (j:=m) hm2 rfl) ?_
     rw?
     refine cJ e5 (by rw [gV];exact aO 0#c) ?_
     refine Ra _ _ ⟨us++[t m+1],_,rfl,aZ s5 n4,by rw [aB];simp,by simp;simp?,λu=>?_⟩
     rw [dg,JC u]
     constructor
     ·rintro (⟨kk,z,z2⟩ | z)
      ·exact ⟨kk,by simp?,z2⟩
      ·exact ⟨m,by simp?,hl',by simpa using z⟩
     ·rintro ⟨kk,z,z2,z3⟩
      by_cases e:kk=m
      ·subst e
       exact .inr (by simpa using z3)
      ·exact .inl ⟨kk,by simp?,z2,z3⟩
  ·rintro σ H5 ⟨us,v6,rfl,s5,e5,hul,JC⟩
   have eN:(((1+i:Nat):Int)).toNat=1+i:=by simp?
   rw [eN] at JC hul
   have hin:t i+1∈us:=(JC _).mpr ⟨i,by simp?,by
    have:=uo (es:=gh hs b) (β:=(c:Rat)/(b:Rat)) (ao:=ao) (j:=1+i) 0#c (by rw [gU];exact hi')
    rw [show 1+i-1=i by simp?] at this
    exact this,rfl⟩
   rw?
   refine ⟨.inl ⟨rfl,_,aX.of (s5 _ _ e3)⟩,?_⟩
   rw?
   refine ab5 (aX.of e5) (List.length_pos_of_mem hin) λu hu hle=>?_
   rw?
   refine cJ (s5 _ _ e3) (by rw [mK];exact aO 0#c) ?_
   obtain ⟨kk,z1,z2,z3⟩:=(JC u).mp hu
   refine hM _ _ ⟨_,_,_,_,rfl,aZ (s3.trans s5) n1,by rw [aB,L5];rfl,PK hf (FH _ _) (λkk hk hL=>hle _ ((JC _).mpr ⟨kk,hk,hL,rfl⟩)) ⟨kk,z1,z2,z3⟩⟩
 ·rintro σ H3 ⟨t,v4,v5,v6,rfl,s3,e3,hf⟩
  have eN:1+((hs.length:Int)+1-(1-(aU ao:Int))-1).toNat=hs.length+aU ao:=by simp?
  rw [eN] at e3 hf
  rw?
  exact k R t H3 s3 e3 hf
theorem xq:aE ["_law_run","_law_way","_law_bound","_law_found"] ["_law_run","_law_way","_law_bound"] (ah sQ):=0#a
theorem G2 (F:cR K "_law_count" "_law_count" sQ f fd) (T:Txt mg) (kI:Dn P w K mg base 3 "_law_turns" ["_law_run","_law_bound","_law_sign"] Ip) (jh:Dn P w K mg base 3 "_law_steps" ["_law_run","_law_bound","_law_hangs"] xK):bf P w K mg base cY 4 f fd ["_law_run","_law_way","_law_bound"] tL:=by
 refine F.ok xq 0#e 0#b
 ·obtain ⟨l,hs,wy,c,b,m,n,rfl,_⟩:=h
  rfl
 obtain ⟨l,hs,wy,c,b,em,en,rfl,hl,hes,hS,dH,h1,jS,zc,hm,hn,hb,hc,k⟩:=h
 have fin:∀(ao:Bool) (R:av) (t:Nat→Int) (H1:Hp),au H H1→jE (d7 (gh hs b) 0#t ao) (hs.length+aU ao) t→RC (if ao=true then .ch else .sp) 0#t (gh hs b) (if t (hs.length+aU ao-1)>1 then t (hs.length+aU ao-1) else 1):=λao R t H1 s1 hF=>by
  have e:(if t (hs.length+aU ao-1)>1 then t (hs.length+aU ao-1) else 1)=max 1 (t (hs.length+aU ao-1)):=by split <;> simp?
  rw [e]
  have:RT ao 0#t (gh hs b) (max 1 (t (hs.length+aU ao-1))):=⟨t,by rw [gU];exact hF,by rw [gU]⟩
  cases ao <;> exact this
 refine bG ⟨_,(aq (bW (bC dF 0#p jX 0#J) (aH (aV (aI aW aA (Jd.c3 kI hr 0#j 0#s aA)))) cj) (aq (bW (bC dF 0#p jX 0#J) (aq (aK 3 xq.nd (Jd.c3 kI hr 0#j 0#s aA)) (aH (aV (aI aW (aI aW aA 0#E) (Jd.c3 kI hr 0#j 0#s (fR cZ aA)))))) cj) (aH (aV (dQ (Xb rfl) rfl T.SS KJ (bq aA (bB 0#Z (Jd.c3 jh hr 0#j 0#s (Jd.mO EM rfl T.SI KI (dD (mY dF 0#p jX 0#J)))) (fR cZ aA) 0#h)) (he:=jy) (hpl:=(cu o9 cg))))))),?_⟩
 rw?
 cases wy with
 | ap=>
   refine gr (c:=true) 0#g ?_
   refine ⟨_,rfl,?_⟩
   refine cB ?_
   rw?
   refine ⟨l,hs,c,0,em,en,rfl,hl,hes,hS,jS,zc,hm,hn,λF v hG=>?_⟩
   rw?
   exact k _ H 0#x ⟨F,v,(Si hb hc dH).1 hG,rfl⟩
 | jo=>
   refine gr (c:=false) 0#g ?_
   refine ⟨_,rfl,?_⟩
   refine bI ?_
   rw?
   refine gr (c:=true) 0#g ?_
   refine ⟨_,rfl,?_⟩
   refine cB ?_
   rw?
   refine ⟨l,hs,c,1,em,en,rfl,hl,hes,hS,jS,zc,hm,hn,λF v hG=>?_⟩
   rw?
   refine ⟨l,hs,c,-1,em,en,rfl,hl,hes,hS,jS,zc,hm,hn,λF' v' hG'=>?_⟩
   rw?
   exact k _ H 0#x ⟨F,F',v,v',(Si hb hc dH).2.1 hG,(Si hb hc dH).2.2 hG',rfl⟩
 | sp=>
   refine gr (c:=false) 0#g ?_
   refine ⟨_,rfl,?_⟩
   refine bI ?_
   rw?
   refine gr (c:=false) 0#g ?_
   refine ⟨_,rfl,?_⟩
   refine bI ?_
   rw?
   refine gr (c:=false) 0#g ?_
   rw?
   refine .inr ⟨_,rfl,?_⟩
   rw?
   refine ⟨l,hs,c,b,false,em,en,rfl,hl,hes,hS,dH,h1,jS,zc,hm,hn,hb,λR t H1 s1 eR hF=>?_⟩
   rw?
   refine cK eR (rV 0#c) ?_
   rw?
   exact k _ H1 s1 (fin false R t H1 s1 hF)
 | ch=>
   refine gr (c:=false) 0#g ?_
   refine ⟨_,rfl,?_⟩
   refine bI ?_
   rw?
   refine gr (c:=false) 0#g ?_
   refine ⟨_,rfl,?_⟩
   refine bI ?_
   rw?
   refine gr (c:=true) 0#g ?_
   rw?
   refine .inr ⟨_,rfl,?_⟩
   rw?
   refine ⟨l,hs,c,b,true,em,en,rfl,hl,hes,hS,dH,h1,jS,zc,hm,hn,hb,λR t H1 s1 eR hF=>?_⟩
   rw?
   refine cK eR (rV 0#c) ?_
   rw?
   exact k _ H1 s1 (fin true R t H1 s1 hF)
theorem mq:aE ["_law_row_here","_law_way","_law_bound","_law_total_here","_law_run"] ["_law_row_here","_law_way","_law_bound"] (ah sZ):=0#a
theorem G9 (F:cR K "_law_total" "_law_total" sZ f fd) (T:Txt mg) (u7:Dn P w K mg base 1 "_law_runs" ["_law_row_here"] Ie) (fz:Dn P w K mg base 4 "_law_count" ["_law_run","_law_way","_law_bound"] tL):bf P w K mg base cY 5 f fd ["_law_row_here","_law_way","_law_bound"] Ds:=by
 refine F.ok mq 0#e 0#b
 ·obtain ⟨l,hs,wy,c,b,m,n,rfl,_⟩:=h
  rfl
 obtain ⟨l,hs,wy,c,b,em,en,rfl,hl,hes,dH,jS,zc,hm,hn,hb,hc,k⟩:=h
 refine bG ⟨_,(aq (aK 3 mq.nd aA) (aq (c7 fQ rfl (dB K (Jd.c1 u7 hr 0#j)) (bX (i:=4) mq.nd rfl 0#k) (aH (aK 3 mq.nd (aI aW 0#E (Jd.c3 fz hr 0#X 0#p 0#s))))) (aH (aV 0#E)))),?_⟩
 rw?
 refine dJ (iD ?_)
 rw?
 refine ⟨l,hs,em,en,rfl,hl,hes,jS,λD ls H1 s1 nD eD hls hmap=>?_⟩
 have own:=λr hr=>mL (s:=rC) (es:=hs) hs.length r hr
 refine ⟨D,rfl,⟨_,aX.of eD⟩,eK (xs:=ls.map λx=>V.ref x.1) (λi σ H3=>Lq λ(d:Int) (v5:Option V)=>σ=[some 0#U,some (.str (Fw wy)),some (.int c),some (.int d),v5]∧au H1 H3∧jG (RC wy 0#t) (((ls.take i).map (·.2)).map (gh · b)) d) ?_ ?_ ?_ ?_⟩
 ·exact ⟨0,none,rfl,au.refl _,.nil⟩
 ·rintro i σ H3 _ ⟨d,v5,rfl,s3,_⟩
  exact aX.of (s3 _ _ eD)
 ·rintro i x σ H3 hx ⟨d,v5,rfl,s3,hd⟩
  refine cE λM Bk RR hM _ _=>?_
  rw [dw] at hx
  obtain ⟨y,hy,rfl⟩:=IC.mp hx
  have hmem:=lP hy
  obtain ⟨o1,o2,o3⟩:=own y.2 (hmap▸gD.mpr ⟨y,hmem,rfl⟩)
  rw [jR] at o3
  rw?
  refine ⟨y.1,y.2,wy,c,b,em,en,rfl,s3 _ _ (hls y hmem).2,λz hz=>(hes.up (s1.trans s3)) z (o3.subset hz),o2,dH.sublist o3,Ld.mpr o1,dP o3.length_le jS,zc,hm,hn,hb,hc,λd' H4 s4 hd'=>?_⟩
  rw?
  refine hM _ _ ⟨d+d',_,rfl,s3.trans s4,?_⟩
  rw [DE,hy]
  simp only [Option.toList_some,iI,DG,VA]
  exact hd.snoc hd'
 ·rintro σ H3 ⟨d,v5,rfl,s3,hd⟩
  rw?
  rw [gV,jR,hmap,TJ,← gU hs b] at hd
  exact k d H3 (s1.trans s3) hd
end
theorem UL (mJ:0≤β):∀{rs:List (List En)} {zs:List (List (List En)×List av×List av)},(∀r∈rs,rising r∧1≤r.length)→yh H β N rs zs→jG (RC .ap β) rs ((pQ zs).length:Int)
 | [],[],_,_=>.nil
 | r::rs,z::zs,hr,h=>by
   obtain ⟨a,b⟩:=hr r (Ae ..)
   have ih:=UL mJ (rs:=rs) (zs:=zs) (λx hx=>hr x (DP _ hx)) h.2
   obtain ⟨F,v,g,e⟩:=h.1.cut.pin a mJ b
   have:=jG.cons (R:=RC .ap β) (r:=r) ⟨F,v,g,e⟩ ih
   rw [show ((pQ (z::zs)).length:Int)=(z.1.length:Int)+((pQ zs).length:Int) by unfold pQ;rw [List.flatMap_cons,fj,h.1.lp];simp?]
   exact this
 | [],_::_,_,h=>h.elim
 | _::_,[],_,h=>h.elim
theorem UM (mJ:0≤β):∀{rs:List (List En)} {zs:List (List Pc×List Wf)},(∀r∈rs,rising r∧1≤r.length)→jD (Pw H β N) rs zs→jG (RC .jo β) rs ((oW zs).length:Int)
 | [],[],_,_=>.nil
 | r::rs,z::zs,hr,h=>by
   obtain ⟨a,b⟩:=hr r (Ae ..)
   have ih:=UM mJ (rs:=rs) (zs:=zs) (λx hx=>hr x (DP _ hx)) h.2
   obtain ⟨_,_,ks,L,fl,ro,g,s,Sl,_,_,hps⟩:=h.1
   have hl:z.1.length=ks.length+1:=by simpa using congrArg tY hps
   obtain ⟨l1,_⟩:=Sl.len
   obtain ⟨_,_,g1,g2⟩:=Sl.most a mJ
   have ca:=Wn (z.2.map (·.2))
   have:=jG.cons (R:=RC .jo β) (r:=r) ⟨_,_,_,_,g1,g2,rfl⟩ ih
   rw [show ((oW (z::zs)).length:Int)=1+(cnt true (z.2.map (·.2)):Int)+(cnt false (z.2.map (·.2)):Int)+((oW zs).length:Int) by
    rw [show (oW (z::zs)).length=z.1.length+(oW zs).length by simp [oW]]
    simp?]
   exact this
 | [],_::_,_,h=>h.elim
 | _::_,[],_,h=>h.elim
theorem UN:∀{rs:List (List En)} {qs:List (List (Rat×Rat×Rat×Rat))},(∀r∈rs,rising r∧1≤r.length)→jD (λr l=>Told r β ao l) rs qs→jG (RT ao β) rs (qs.flatten.length:Int)
 | [],[],_,_=>.nil
 | r::rs,z::zs,hr,h=>by
   obtain ⟨a,b⟩:=hr r (Ae ..)
   have ih:=UN (rs:=rs) (qs:=zs) (λx hx=>hr x (DP _ hx)) h.2
   obtain ⟨t,ps,hf,_⟩:=id h.1
   have:=jG.cons (R:=RT ao β) (r:=r) ⟨t,hf,Q0 b h.1 hf⟩ ih
   rw [xR,fj,show ((z.length+zs.flatten.length:Nat):Int)=(z.length:Int)+(zs.flatten.length:Int) by simp?]
   exact this
 | [],_::_,_,h=>h.elim
 | _::_,[],_,h=>h.elim
theorem Ky (hl:H l=some 0#A) (hR:Row H es 150) (V4:rising es) (jS:es.length≤40) (h33:(parts c8 es es.length).length≤33) (h30:∀r∈parts c8 es es.length,r.length≤30) (fb:dz H pb β 150) (mJ:0≤β) (k:∀(y X Z:av) (xs:List V) (H':Hp),au H H'→H' y=some (.tup [.ref X,.ref Z])→H' X=some (.lst xs)→jG (RC wy β) (parts c8 es es.length) (xs.length:Int)→Q (.ref y) H'):xM C [.ref l,.str (Fw wy),.ref pb] H Q E0:=by
 have hr1:∀r∈parts c8 es es.length,rising r∧1≤r.length:=λr hr=>by
  obtain ⟨o1,o2,o3⟩:=mL es.length r hr
  rw [jR] at o3
  exact ⟨V4.sublist o3,Ld.mpr o1⟩
 have tt:∀(ao:Bool),(∀(y X Z:av) (xs:List V) (H':Hp),au H H'→H' y=some (.tup [.ref X,.ref Z])→H' X=some (.lst xs)→jG (RT ao β) (parts c8 es es.length) (xs.length:Int)→Q (.ref y) H')→tQ ao [.ref l,.ref pb] H Q E0:=λao k=>by
  refine ⟨l,pb,rfl,l,pb,es,150,150,β,ao,rfl,hl,hR,V4,jS,h33,h30,fb.qt,by decide,by decide,by decide,λy X Z ps H' s ey nX eX hP agI hT _ _ _ _ _ _ _=>k y X Z _ H' s ey eX ?_⟩
  obtain ⟨qss,e1,e2⟩:=hT
  rw [jR] at e1
  have:=UN hr1 e1
  rw [← e2,gV] at this
  rw [show (nh ps).length=ps.length by unfold nh;rw [gV]]
  exact this
 refine ⟨l,pb,wy,rfl,λe=>?_,λe=>?_,λe=>?_,λe=>?_⟩
 ·subst e
  refine ⟨l,pb,es,β,150,150,rfl,hl,hR,V4,jS,fb.qt,mJ,by decide,by decide,by decide,λy X Z zs H' s ey nX nZ Qo eX eZ hA=>k y X Z _ H' s ey eX ?_⟩
  rw [gV]
  exact UL mJ hr1 hA
 ·subst e
  exact ⟨l,pb,es,β,150,150,rfl,hl,hR,V4,jS,fb,mJ,by decide,by decide,by decide,by decide,λy X Z zs H' s ey nX nZ Qo eX eZ hA=>k y X Z _ H' s ey eX (UM mJ hr1 hA)⟩
 ·subst e
  exact tt false k
 ·subst e
  exact tt true k
def EG (H:Hp) (wy:Wy) (β:Rat) (bs:List En) (u x:Int) (wv:V):Prop:=(wv=.bM∧RC wy β bs x)∨∃(ao:Bool) (t:Nat→Int),wy=(if ao=true then .ch else .sp)∧jE (d7 bs β ao) (bs.length+aU ao) t∧Hn H bs β ao t u x 905 wv
def acF (H:Hp) (wy:Wy) (β:Rat) (as bs:List En) (u v:Int) (wv:V):Prop:=∃d,jG (RC wy β) (parts c8 as as.length) d∧((bs=[]∧v=d∧wv=.bM)∨(bs≠[]∧∃x,BC wy β bs x∧v=d+x∧EG H wy β bs u x wv))
theorem EG.up (h:EG H wy β bs u x wv) (s:au H H'):EG H' wy β bs u x wv:=by
 rcases h with h | ⟨ao,t,a,b,c⟩
 ·exact .inl h
 ·exact .inr ⟨ao,t,a,b,c.up s⟩
theorem B0:∀i,i≤es.length→∀j,eW es i≤j→j<i→∃e,es[j]?=some e∧c8 e=true
 | 0,_,j,_,h=>absurd h (Be _)
 | i+1,hi,j,h1,h2=>by
   obtain ⟨e,he⟩:∃e,es[i]?=some e:=⟨_,mC 0#c⟩
   unfold eW at h1
   rw [he] at h1
   cases hs:c8 e with
   | false=>
     rw [if_pos (by show (!c8 e)=true;rw [hs];rfl)] at h1
     simp?
   | true=>
     rw [if_neg (by show ¬(!c8 e)=true;rw [hs];decide)] at h1
     by_cases e':j=i
     ·subst e'
      exact ⟨e,he,hs⟩
     ·exact B0 i 0#c j h1 0#c
theorem Gk (es:List En):ia (es.drop (eW es es.length)):=λx hx=>by
 obtain ⟨j,hj⟩:=Zd.mp hx
 rw [nW] at hj
 have:=(lS.mp hj).1
 obtain ⟨e,he,hs⟩:=B0 es.length (dG _) _ (FH _ j) this
 rw [hj] at he
 cases he
 exact hs
theorem N8 (es:List En):∀i,i≤es.length→bU c8 es (eW es i)=false
 | 0,_=>rfl
 | i+1,hi=>by
   obtain ⟨e,he⟩:∃e,es[i]?=some e:=⟨_,mC 0#c⟩
   unfold eW
   rw [he]
   cases hs:c8 e with
   | false=>
     rw [if_pos (by show (!c8 e)=true;rw [hs];rfl),fN he]
     exact hs
   | true=>
     rw [if_neg (by show ¬(!c8 e)=true;rw [hs];decide)]
     exact N8 es i 0#c
theorem N9 (es:List En):bU c8 (es.take (eW es es.length)) (es.take (eW es es.length)).length=false:=by
 have hle:=yr es es.length
 rw [uL,Ak hle]
 have:=(qB (s:=c8) (as:=es.take (eW es es.length)) (bs:=es.drop (eW es es.length)) (eW es es.length) (by rw [uL,Ak hle];exact dG _)).2
 rw [Lc] at this
 rw [← this]
 exact N8 es es.length (dG _)
def rD (es:List En) (u:Int):List En:=es.filter (upto u)
def Rw (es:List En) (u:Int):List En:=(rD es u).take (eW (rD es u) (rD es u).length)
def Bj (es:List En) (u:Int):List En:=(rD es u).drop (eW (rD es u) (rD es u).length)
inductive UI (vs:List V) (H:Hp) (Q:VK) (E_:XK):Prop where
 | mk (l pb:av) (es:List En) (β:Rat) (wy:Wy) (u:Int):vs=[.ref l,.str (Fw wy),.ref pb,.int u]→H l=some 0#A→Row H es 150→rising es→es.length≤40→(parts c8 (Rw es u) (Rw es u).length).length≤33→(∀r∈parts c8 (Rw es u) (Rw es u).length,r.length≤30)→(Bj es u).length≤30→dz H pb β 150→0≤β→Sz 150 (u+1)→(∀(y:av) (v:Int) (wv:V) (H':Hp),au H H'→H' y=some (.tup [.int v,wv])→acF H' wy β (Rw es u) (Bj es u) u v wv→Q (.ref y) H')→UI vs H Q E_
section
theorem HS:aE ["row","way","bound","moment","parts","ahead","found"] ["row","way","bound","moment"] (ah Up):=0#a
theorem abJ (F:cR K "few" "few" Up f fd) (T:Txt mg) (jC:Dn P w K mg base 1 "settled_entries" ["row","moment"] zL) (kZ:Dn P w K mg base 1 "parted_at_gap" ["settled"] Df) (uh:Dn P w K mg base 10 "told_by" ["row","way","bound"] (xM aD)) (BG:Dn P w K mg base 7 "spared" ["run","way","bound","moment"] xG):bf P w K mg base cY 11 f fd ["row","way","bound","moment"] UI:=by
 refine F.ok HS 0#e 0#b
 ·obtain ⟨l,pb,es,β,wy,u,rfl,_⟩:=h
  rfl
 obtain ⟨l,pb,es,β,wy,u,rfl,hl,hR,V4,jS,h33,h30,afz,fb,mJ,zu,k⟩:=h
 have sub:(rD es u).Sublist es:=FE
 have hlen:(rD es u).length≤40:=dP sub.length_le jS
 have ack:(Rw es u).Sublist es:=(KR _ _).trans sub
 have subB:(Bj es u).Sublist es:=(Ag _ _).trans sub
 have hSB:ia (Bj es u):=Gk (rD es u)
 refine bG ⟨_,(aq (aK 4 HS.nd (Jd.c1 kZ hr (bY jC hr 0#j 0#E))) (aq (aK 5 HS.nd (eY K T.eU (aJ K (Jd.c3 uh hr (aJ K 0#X) 0#p 0#s)))) (aq (bW (bC dF (eY K T.eU (aJ K 0#X)) aA 0#J) (aH (aV (bJ (bq (aa 5) dN)))) cj) (aq (bW (jj (Jd.sJ (bC dF 0#p jX 0#J) (Jd.nA (bC dF 0#p jX 0#J)))) (aH (aV (bJ (bq (aI aW (aa 5) (eY K T.eU (aJ K (Jd.c3 uh hr (aJ K 0#X) 0#p 0#s)))) dN)))) cj) (aq (aK 6 HS.nd (fY BG 0#z rfl (Jd.a4 (aJ K 0#X) 0#p 0#s 0#E) (he:=o9) (hpl:=(cu bw (cu bw (cu bw cg)))))) (aH (aV (bJ (bq (aI aW (aa 5) (aJ K (aa 6))) (aJ K (aa 6))))))))))),?_⟩
 rw?
 refine ⟨l,es,u,150,rfl,hl,hR,jS,λD H1 s1 nD eD=>?_⟩
 rw?
 refine ⟨D,rD es u,150,rfl,eD,λx hx=>(hR.up s1) x (sub.subset hx),hlen,λy A' B' H2 s2 ey eA eB=>?_⟩
 have fW:=s1.trans s2
 rw?
 refine Ky (es:=Rw es u) (β:=β) eA (λx hx=>(hR.up fW) x (ack.subset hx)) (V4.sublist ack) (dP ack.length_le jS) h33 h30 (fb.up fW) mJ λy3 X3 Z3 xs3 H3 s3 ey3 eX3 hd=>?_
 have eyP:=s3 _ _ ey
 rw?
 refine cy (.inl (aX.of eX3)) ?_
 rw?
 refine cy (.inl (aX.of (show H3 B'=some (.lst (vals (Bj es u))) from s3 _ _ eB))) ?_
 rw [aN]
 rw?
 have nE:=fW.trans s3
 by_cases h0:(Bj es u).length=0
 ·rw [jb (show ((Bj es u).length:Int)=0 by simp?)]
  refine cB ?_
  rw?
  refine aF (mk:=.tup) 0#f λy4 H4 s4 n4 e4=>?_
  exact k y4 _ .bM H4 (nE.trans s4) e4 ⟨_,hd,.inl ⟨NH.mp h0,rfl,rfl⟩⟩
 ·rw [rG (show ¬((Bj es u).length:Int)=0 by simp?)]
  refine bI ?_
  have hne:Bj es u≠[]:=λz=>h0 (by rw [z];rfl)
  have hp1:parts c8 (Bj es u) (Bj es u).length=[Bj es u]:=E9 hSB hne
  have eB3:H3 B'=some (.lst (vals (Bj es u))):=s3 _ _ eB
  have hRB:Row H3 (Bj es u) 150:=λx hx=>(hR.up nE) x (subB.subset hx)
  have again:(wy=.ap∨wy=.jo)→∀{Q':VK},(∀(y X Z:av) (xs:List V) (H':Hp),au H3 H'→H' y=some (.tup [.ref X,.ref Z])→H' X=some (.lst xs)→RC wy β (Bj es u) (xs.length:Int)→Q' (.ref y) H')→xM aD [.ref B',.str (Fw wy),.ref pb] H3 Q' E0:=λ_ {Q'} kk=>Ky (es:=Bj es u) (β:=β) eB3 hRB (V4.sublist subB) (dP subB.length_le jS) (by rw [hp1];exact (show 1≤33 by decide)) (λr hr=>by rw [hp1] at hr;rw [DQ.mp hr];exact afz) (fb.up nE) mJ λy X Z xs H' s e1 e2 hs=>kk y X Z xs H' s e1 e2 (by
   rw [hp1] at hs
   generalize (xs.length:Int)=d at hs
   cases hs with
   | cons a b=>cases b;rw [VF];exact a)
  have fin:∀(ao:Bool),wy=(if ao=true then .ch else .sp)→∀{Q':VK},(∀(y:av) (x:Int) (wv:V) (H':Hp),au H3 H'→H' y=some (.tup [.int x,wv])→BC wy β (Bj es u) x→EG H' wy β (Bj es u) u x wv→Q' (.ref y) H')→xG [.ref B',.str (Fw wy),.ref pb,.int u] H3 Q' E0:=λao hw {Q'} kk=>by
   subst hw
   refine ⟨B',pb,Bj es u,150,150,β,ao,u,rfl,eB3,hRB,hSB,V4.sublist subB,by simp?,by simp?,(fb.up nE).qt,by decide,by decide,by decide,zu,λy v wv t H' s e1 hF hL hW=>kk y v wv H' s e1 ?_ ?_⟩
   ·cases ao <;> exact ⟨t,hF,hL⟩
   ·exact .inr ⟨ao,t,rfl,hF,hW⟩
  rw?
  cases wy with
  | ap=>
    refine gr (c:=true) 0#g ?_
    rw?
    refine cB ?_
    rw?
    refine cB ?_
    rw?
    refine again (.inl rfl) λy4 X4 Z4 xs4 H4 s4 ey4 eX4 hd4=>?_
    rw?
    refine cy (.inl (aX.of eX4)) ?_
    rw?
    refine aF (mk:=.tup) 0#f λy5 H5 s5 n5 e5=>?_
    exact k y5 _ .bM H5 (nE.trans 0#R) e5 ⟨_,hd,.inr ⟨hne,_,hd4,rfl,.inl ⟨rfl,hd4⟩⟩⟩
  | jo=>
    refine gr (c:=false) 0#g ?_
    rw?
    refine bI ?_
    rw?
    refine gr (c:=true) 0#g ?_
    rw?
    refine cB ?_
    rw?
    refine again (.inr rfl) λy4 X4 Z4 xs4 H4 s4 ey4 eX4 hd4=>?_
    rw?
    refine cy (.inl (aX.of eX4)) ?_
    rw?
    refine aF (mk:=.tup) 0#f λy5 H5 s5 n5 e5=>?_
    exact k y5 _ .bM H5 (nE.trans 0#R) e5 ⟨_,hd,.inr ⟨hne,_,hd4,rfl,.inl ⟨rfl,hd4⟩⟩⟩
  | sp=>
    refine gr (c:=false) 0#g ?_
    rw?
    refine bI ?_
    rw?
    refine gr (c:=false) 0#g ?_
    rw?
    refine bI ?_
    rw?
    refine fin false rfl λy4 x4 wv4 H4 s4 ey4 hB hH=>?_
    rw?
    refine aF (mk:=.tup) 0#f λy5 H5 s5 n5 e5=>?_
    exact k y5 _ _ H5 (nE.trans 0#R) e5 ⟨_,hd,.inr ⟨hne,_,hB,rfl,hH.up s5⟩⟩
  | ch=>
    refine gr (c:=false) 0#g ?_
    rw?
    refine bI ?_
    rw?
    refine gr (c:=false) 0#g ?_
    rw?
    refine bI ?_
    rw?
    refine fin true rfl λy4 x4 wv4 H4 s4 ey4 hB hH=>?_
    rw?
    refine aF (mk:=.tup) 0#f λy5 H5 s5 n5 e5=>?_
    exact k y5 _ _ H5 (nE.trans 0#R) e5 ⟨_,hd,.inr ⟨hne,_,hB,rfl,hH.up s5⟩⟩
end
inductive zK (vs:List V) (H:Hp) (Q:VK) (E_:XK):Prop where
 | mk (l r:av) (hs:List Nn) (xs:List Int) (d0 d1:Int):vs=[.ref l,.ref r]→H l=some (.lst (bE hs))→iB H hs 45 150→hs.length≤40→H r=some (.lst (xs.map V.int))→xs[0]?=some d0→0≤d0→d0<40→xs[1]?=some d1→0≤d1→d1<4→(∀(z:Int) (H':Hp),au H H'→Sz 46 z→Q (.int z) H')→zK vs H Q E_
theorem acT (xs:List Int) (n:Nat):jT (xs.map V.int) (some (n:Int)) none=(xs.drop n).map V.int:=by rw [RQ,FN]
section
theorem uU:aE ["_law_row_here","_law_some","_law_moment_here"] ["_law_row_here","_law_some"] (ah qI):=0#a
theorem Ek (F:cR K "_law_moment" "_law_moment" qI f fd) (T:Txt mg):bf P w K mg base cY 1 f fd ["_law_row_here","_law_some"] zK:=by
 refine F.ok uU 0#e 0#b
 ·obtain ⟨l,r,hs,xs,d0,d1,rfl,_⟩:=h
  rfl
 obtain ⟨l,r,hs,xs,d0,d1,rfl,hl,hes,jS,er,g0,a0,b0,g1,a1,b1,k⟩:=h
 refine bG ⟨_,(aq (bW (bC dF 0#V aA 0#J) (aH (aV (aI bL (Jd.iL K 0#p) aA))) cj) (aq (aK 2 uU.nd (aJ K (bB 0#Z 0#j (aI iN (Jd.iL K 0#p) 0#V) 0#h))) (aH (aV (aI aW 0#s (bB 0#Z (dI (Jd.a4 aA aA (fR cZ aA) (aI qA aA aA))) (Jd.iL K 0#p) 0#h)))))),?_⟩
 rw?
 refine cy (.inl (aX.of hl)) ?_
 rw [bh]
 rw?
 refine cD 0#y 0#y
 ·rw?
  refine cK er (bQ g0 rfl) ?_
  rw?
  exact k _ H 0#x (show (d0-5).natAbs<2 ^ 46 by simp?)
 ·have c':=gY (gQ.mpr c)
  rw?
  refine cK er (bQ g0 rfl) ?_
  rw?
  refine cy (.inl (aX.of hl)) ?_
  rw [bh]
  refine gT (show (0:Int)<_ by simp?) ?_
  obtain ⟨e,he,_,ea⟩:=IV (es:=hs) (i:=d0 % (hs.length:Int)) (Bd _ 0#c) (zU _ 0#c)
  obtain ⟨ee,z1,_⟩:=hes e he
  refine cK hl ea ?_
  rw?
  refine aF (mk:=.lst) 0#f λl6 H6 s6 n6 e6=>?_
  rw?
  refine cK (s6 _ _ er) (bQ g1 rfl) ?_
  obtain ⟨v,ev,zv⟩:=CI (zs:=[0,0,-1,10 ^ (9:Int).toNat]) (λz=>z.natAbs≤10 ^ 9) 0#g a1 b1
  refine cK e6 ev ?_
  rw?
  exact k _ H6 s6 (z1.add (Sz.of_lt (m:=45) (k:=10 ^ 9+1) 0#c 0#i))
end
inductive Dg (vs:List V) (H:Hp) (Q:VK) (E_:XK):Prop where
 | mk (l:av) (hs:List Nn) (u:Int) (m n:Nat):vs=[.ref l,.int u]→H l=some (.lst (bE hs))→iB H hs m n→hs.length≤40→(∀(y A B:av) (as bs:List Nn) (H':Hp),au H H'→H' y=some (.tup [.ref A,.ref B])→H' A=some (.lst (bE as))→H' B=some (.lst (bE bs))→as++bs=hs.filter (λx=>decide (x.2.1≤u))→uD bs→bU rC as as.length=false→Q (.ref y) H')→Dg vs H Q E_
section
theorem jL:aE ["_law_row_here","_law_moment_here","_law_held","_law_cut","_law_at"] ["_law_row_here","_law_moment_here"] (ah sU):=0#a
theorem G4 (F:cR K "_law_parts" "_law_parts" sU f fd) (T:Txt mg):bf P w K mg base cY 1 f fd ["_law_row_here","_law_moment_here"] Dg:=by
 refine F.ok jL 0#e 0#b
 ·obtain ⟨l,hs,u,m,n,rfl,_⟩:=h
  rfl
 obtain ⟨l,hs,u,em,en,rfl,hl,hes,jS,k⟩:=h
 refine bG ⟨_,(aq (rf (O:=["_law_one"]) (N':=["_law_moment_here"]) (cap:=[1]) (i:=2) jL.nd rfl 0#k rfl (dB K 0#j) (λ_ _ _ _ _=>(bX (i:=0) (show jd [("_law_one":Str),("_law_moment_here":Str)] by decide +kernel) rfl 0#k)) (λ_ _ _ _ _=>(wH (bC Ka (bB (D9 K) 0#j aA 0#h) 0#p 0#J))) (λ_ _ _ _ _=>0#j) rfl 0#u rfl 0#g rfl 0#g (by rfl)) (aq (aK 3 jL.nd aA) (aq (c7 fQ rfl (uQ rfl T.range (dD (eY K T.eU 0#s))) (bX (i:=4) jL.nd rfl 0#k) (aH (bW (bC qz (aJ K (bB 0#Z 0#s 0#X 0#h)) dN 0#J) (aH (aK 3 jL.nd (aI aW 0#X aA))) cj))) (aH (aV (bJ (bq (qX (Rl K) 0#s qY (qZ 0#E)) (qX (Rl K) 0#s (qZ 0#E) qY)))))))),?_⟩
 rw?
 refine iD ?_
 rw?
 refine ⟨l,rfl,⟨_,aX.of hl⟩,?_⟩
 refine cF (xs:=bE hs) bZ (λH3 s3=>aX.of (s3 _ _ hl)) (by rw [bh];simp?) (λi ys G=>ys=bE ((hs.take i).filter (λx=>decide (x.2.1≤u)))) rfl ?_ ?_
 ·rintro D i x ys H3 jV N N0 h0 hD eD s3 hx hy rfl kY kN
  obtain ⟨e,he,rfl⟩:=pL hx
  obtain ⟨ee,_⟩:=(hes e (lP he)).up s3
  have ts:=K9 (λx:Nn=>decide (x.2.1≤u)) hs i e he
  refine fO h0 ?_
  rw?
  refine cD 0#y 0#y
  ·rw [c,if_pos rfl] at ts
   rw?
   exact kY _ H3 0#x (by rw [ts,← iw])
  ·rw [if_neg c,vX] at ts
   exact kN H3 0#x (by rw [ts])
 rintro D ys H1 hD eD s1 hy rfl
 rw [bh,jR] at eD
 generalize hg:hs.filter (λx:Nn=>decide (x.2.1≤u))=gs at eD
 have hgs:iB H1 gs em en:=λx hx=>(hes.up s1) x (FE.subset (hg▸hx))
 have hgl:gs.length≤40:=dP (hg▸FE.length_le) jS
 rw?
 refine dJ (qD ?_)
 rw?
 refine cy (.inl (aX.of eD)) ?_
 rw [bh]
 rw?
 refine ⟨_,rfl,by lia,by lia,cA (λj σ H3=>H3=H1∧Lq λ(c:Nat) (v4:Option V)=>σ=[some 0#U,some (.int u),some (.ref D),some (.int (c:Int)),v4]∧c≤j∧bU rC gs c=false∧∀i e,c≤i→i<j→gs[i]?=some e→rC e=true) ?_ ?_ ?_⟩
 ·exact ⟨rfl,0,none,rfl,dG _,rfl,λi e _ h2=>absurd h2 (Be _)⟩
 ·rintro j σ H3 hj ⟨rfl,c,v4,rfl,hc,hin,hall⟩
  rw [show (0:Int)+(j:Int)=(j:Int) by simp?]
  have hj':j<gs.length:=by simp?
  obtain ⟨e,he⟩:∃e,gs[j]?=some e:=⟨_,mC hj'⟩
  obtain ⟨ee,_⟩:=hgs e (lP he)
  obtain ⟨ae,me,ve⟩:=e
  rw?
  refine cK eD (di he rfl) ?_
  cases ve with
  | none=>
    rw?
    refine 0#M
    rw?
    refine cB ?_
    rw?
    exact ⟨rfl,j+1,_,rfl,dG _,by rw [fN he];rfl,λi e h1 h2=>by simp?⟩
  | some z=>
    rw?
    refine 0#M
    rw?
    refine bI ?_
    rw?
    refine ⟨rfl,c,_,rfl,by simp?,hin,λi e h1 h2 h3=>?_⟩
    by_cases q:i=j
    ·subst q
     rw [he] at h3
     cases h3
     rfl
    ·exact hall i e h1 0#c h3
 ·rintro σ H3 ⟨rfl,c,v4,rfl,hc,hin,hall⟩
  have hc':c≤gs.length:=by simp?
  walk_at "vd"
  refine uR eD λA' H4 s4 n4 e4=>?_
  walk_at "vd"
  refine uR (s4 _ _ eD) λB' H5 s5 n5 e5=>?_
  rw?
  refine aF (mk:=.tup) 0#f λy H6 s6 n6 e6=>?_
  rw [RQ,show (bE gs).drop c=bE (gs.drop c) by unfold bE;rw [FN]] at e5
  rw [show jT (bE gs) none (some (c:Int))=bE (gs.take c) by rw [RO (by rw [bh];exact hc')];unfold bE;rw [Vv]] at e4
  refine k y A' B' (gs.take c) (gs.drop c) H6 (s1.trans (s4.trans (s5.trans s6))) e6 ((s5.trans s6) _ _ e4) (s6 _ _ e5) (by rw [Lc,hg]) (λx hx=>?_) ?_
  ·obtain ⟨i,hi⟩:=Zd.mp hx
   rw [nW] at hi
   have:=(lS.mp hi).1
   exact hall (c+i) x 0#c 0#c hi
  ·rw [uL,Ak hc']
   have:=(qB (s:=rC) (as:=gs.take c) (bs:=gs.drop c) c (by rw [uL,Ak hc'];exact dG _)).2
   rw [Lc] at this
   rw [← this]
   exact hin
end
theorem RM {b c:Int} (h:es.map (·.2)=hs.map (λx=>cz b x.2)) (hb:1≤b) (hj:dZ hs i<dZ hs j) (hk:dZ hs i<dZ hs k):dR es 0#t i k≤cS es 0#t i j↔(sy hs k-sy hs i-c)*(dZ hs j-dZ hs i)≤(sy hs j-sy hs i+c)*(dZ hs k-dZ hs i):=by
 have pb:=cast_pos (b:=b) 0#c
 have pj:=cast_pos (b:=dZ hs j-dZ hs i) 0#c
 have pk:=cast_pos (b:=dZ hs k-dZ hs i) 0#c
 have nb:=cI (b:=b) 0#c
 unfold dR cS
 rw [(lW h i).1,(lW h i).2,(lW h j).1,(lW h j).2,(lW h k).1,(lW h k).2]
 rw [← oh,← oh,oE pk,← KG]
 have e1:((sy hs k:Int):Rat)/(b:Rat)-(c:Rat)/(b:Rat)-(sy hs i:Rat)/(b:Rat)=((sy hs k-sy hs i-c:Int):Rat)/(b:Rat):=by
  simp only [oh]
  grind
 have e2:((sy hs j:Int):Rat)/(b:Rat)+(c:Rat)/(b:Rat)-(sy hs i:Rat)/(b:Rat)=((sy hs j-sy hs i+c:Int):Rat)/(b:Rat):=by
  simp only [oh,Vo]
  grind
 rw [e1,e2,oE pb]
 have e3:((sy hs j-sy hs i+c:Int):Rat)/(b:Rat)/((dZ hs j-dZ hs i:Int):Rat)*((dZ hs k-dZ hs i:Int):Rat)*(b:Rat)=(((sy hs j-sy hs i+c)*(dZ hs k-dZ hs i):Int):Rat)/((dZ hs j-dZ hs i:Int):Rat):=by
  have nj:=cI (b:=dZ hs j-dZ hs i) 0#c
  rw [nY]
  generalize ((sy hs j-sy hs i+c:Int):Rat)=X
  generalize ((dZ hs j-dZ hs i:Int):Rat)=Y at nj ⊢
  generalize ((dZ hs k-dZ hs i:Int):Rat)=Z
  grind
 rw [e3,l9 pj,nY (sy hs k-sy hs i-c)]
theorem uN.pred (hF:jE (d7 es β ao) 0#H t) (h1:1≤es.length) (h:uN es β t 0#H es.length v):uN es β t 0#H (es.length-1) v:=by
 obtain ⟨a,b,c⟩:=h
 refine ⟨a,λp hp=>b p 0#c,?_⟩
 rcases c with c | ⟨p,hp,hT,e⟩
 ·exact .inl c
 by_cases q:p<es.length-1
 ·exact .inr ⟨p,q,hT,e⟩
 refine .inl (Vn a ?_)
 have ep:p=es.length-1:=by simp?
 have nn:0≤t p:=by
  have all:∀j,j<es.length+aU ao→0≤t j:=by
   intro j
   induction j using Pd with
   | ind j ih=>
     intro hj
     by_cases h0:j=0
     ·rw [h0,hF.first];exact DK _
     ·obtain ⟨i,i1,_,i3⟩:=hF.ex j 0#c hj
      have:=ih i i1 0#c
      simp?
  exact all p 0#c
 cases ao with
 | true=>
   rw [show es.length+aU true-1=p by rw [ep];rfl]
   simp?
 | false=>
   have:=hF.le p es.length 0#c (by show es.length<es.length+1;simp?) (by rw [ep];exact uo 0#c (by show es.length<es.length+1;simp?))
   rw [show es.length+aU false-1=es.length from rfl]
   simp?
inductive Ia (vs:List V) (H:Hp) (Q:VK) (E_:XK):Prop where
 | mk (l:av) (hs:List Nn) (i:Nat) (c b:Int) (m n:Nat):vs=[.ref l,.int (i:Int),.int c]→H l=some (.lst (bE hs))→iB H hs m n→uD hs→fV hs→i<hs.length→hs.length≤40→Sz n c→m≤2000→n≤2000→1≤b→(∀r:Bool,(r=true↔Rt (gh hs b) 0#t i)→Q (.bl r) H)→Ia vs H Q E_
inductive Ii (vs:List V) (H:Hp) (Q:VK) (E_:XK):Prop where
 | mk (l:av) (hs:List Nn) (wy:Wy) (c b:Int) (m n:Nat):vs=[.ref l,.str (Fw wy),.int c]→H l=some (.lst (bE hs))→iB H hs m n→uD hs→fV hs→hs.length≤40→Sz n c→m≤2000→n≤2000→1≤b→0≤c→(∀(d:Int) (H':Hp),au H H'→((hs=[]∧d=0)∨(hs≠[]∧BC wy 0#t (gh hs b) d))→Q (.int d) H')→Ii vs H Q E_
section
theorem jr:aE ["_law_run","_law_i","_law_bound","_law_k","_law_j","_law_low","_law_high","_law_far_here"] ["_law_run","_law_i","_law_bound"] (ah vH):=0#a
theorem JZ (F:cR K "_law_cone" "_law_cone" vH f fd) (T:Txt mg):bf P w K mg base cY 1 f fd ["_law_run","_law_i","_law_bound"] Ia:=by
 refine F.ok jr 0#e 0#b
 ·obtain ⟨l,hs,i,c,b,m,n,rfl,_⟩:=h
  rfl
 obtain ⟨l,hs,i,c,b,em,en,rfl,hl,hes,hS,dH,hi,jS,zc,hm,hn,hb,k⟩:=h
 obtain ⟨xi,gi,ei,Yd,zi2⟩:=wO hes hS hi
 have one:∀j k,i<j→j<hs.length→i<k→k<hs.length→_:=λj k h1 h2 h3 h4=>RM (c:=c) (rZ hs b) hb (Ck dH h1 h2) (Ck dH h3 h4)
 refine bG ⟨_,(aq (c7 fQ rfl (sq rfl T.range (bq (aI aW 0#p aA) 0#V)) (bX (i:=3) jr.nd rfl 0#k) (aH (c7 fQ rfl (sq rfl T.range (bq (aI aW 0#p aA) 0#V)) (bX (i:=4) jr.nd rfl 0#k) (aq (aK 5 jr.nd (aI bL (aI bL (aJ K (bB 0#Z 0#j 0#E 0#h)) (aJ K (bB 0#Z 0#j 0#p 0#h))) 0#s)) (aq (aK 6 jr.nd (aI aW (aI bL (aJ K (bB 0#Z 0#j 0#X 0#h)) (aJ K (bB 0#Z 0#j 0#p 0#h))) 0#s)) (aq (aK 7 jr.nd (aI bL (aJ K (bB 0#Z 0#j 0#X 0#h)) (aJ K (bB 0#Z 0#j 0#p 0#h)))) (aH (bW (bC dS (aI aQ (aa 5) (aa 7)) (aI aQ (aa 6) (aI bL (aJ K (bB 0#Z 0#j 0#E 0#h)) (aJ K (bB 0#Z 0#j 0#p 0#h)))) 0#J) (aH (aV kK)) cj)))))))) (aH (aV kK))),?_⟩
 rw?
 refine dJ (nB ?_)
 rw?
 refine cy (.inl (aX.of hl)) ?_
 rw [bh]
 rw?
 refine ⟨_,_,rfl,1#b,cA (λm σ H3=>H3=H∧Xs5 λv3 v4 v5 v6 v7:Option V=>σ=[some 0#U,some (.int (i:Int)),some (.int c),v3,v4,v5,v6,v7]∧∀j k,i<j→j<hs.length→i<k→k<i+1+m→dR (gh hs b) 0#t i k≤cS (gh hs b) 0#t i j) ?_ ?_ ?_⟩
 ·exact ⟨rfl,none,none,none,none,none,rfl,λj k h1 h2 h3 h4=>by try?⟩
 ·rintro m σ H3 hm' ⟨rfl,v3,v4,v5,v6,v7,rfl,hall⟩
  refine cE λM Bk RR hM _ hR=>?_
  obtain ⟨xk,gk,ek,zk1,zk2⟩:=wO hes hS (show i+1+m<hs.length by try?)
  rw?
  refine dJ (nB ?_)
  rw?
  refine cy (.inl (aX.of hl)) ?_
  rw [bh]
  rw?
  refine ⟨_,_,rfl,1#b,cA (λn σ H4=>H4=H3∧Rv λv4 v5 v6 v7:Option V=>σ=[some 0#U,some (.int (i:Int)),some (.int c),some (.int ((i:Int)+1+(m:Int))),v4,v5,v6,v7]∧∀j,i<j→j<i+1+n→dR (gh hs b) 0#t i (i+1+m)≤cS (gh hs b) 0#t i j) ?_ ?_ ?_⟩
  ·exact ⟨rfl,v4,v5,v6,v7,rfl,λj h1 h2=>by try?⟩
  ·rintro n σ H4 hn' ⟨rfl,v4,v5,v6,v7,rfl,r9⟩
   refine cE λM2 Bk2 RR2 Ra _ hR2=>?_
   obtain ⟨xj,gj,ej,zj1,zj2⟩:=wO hes hS (show i+1+n<hs.length by try?)
   have o:=one (i+1+n) (i+1+m) 0#c 0#c 0#c 0#c
   have zA:=(zk2.sub zi2).sub (zc.mono (tV _))
   have zB:=(zj2.sub zi2).add (zc.mono (tV _))
   have ok1:=bV zA (zj1.sub Yd) 0#c
   have ok2:=bV zB (zk1.sub Yd) 0#c
   rw?
   refine cK hl (di gk 0#d) ?_
   rw?
   refine cK hl (di gi rfl) ?_
   rw?
   refine cK hl (di gj 0#d) ?_
   rw?
   refine cK hl (di gi rfl) ?_
   rw?
   refine cK hl (di gj 0#d) ?_
   rw?
   refine cK hl (di gi rfl) ?_
   rw?
   refine cK hl (di gk 0#d) ?_
   rw?
   refine cK hl (di gi rfl) ?_
   rw?
   refine cD 0#C 0#C
   ·have rW:=jw c1
    rw?
    refine hR2 _ _ (hR _ _ (k false ⟨λz=>absurd z 0#i,λz=>?_⟩))
    have:=o.mp (z (i+1+m) (i+1+n) 0#c (by rw [gU];simp?) 0#c (by rw [gU];simp?))
    simp?
   ·have rW:=gY (gQ.mpr c1)
    rw?
    refine Ra _ _ ⟨rfl,_,_,_,_,rfl,λj h1 h2=>?_⟩
    by_cases e:j=i+1+n
    ·subst e
     exact o.mpr 0#c
    ·exact r9 j h1 0#d
  ·rintro σ H4 ⟨rfl,v4,v5,v6,v7,rfl,r9⟩
   refine hM _ _ ⟨rfl,_,_,_,_,_,rfl,λj k h1 h2 h3 h4=>?_⟩
   by_cases e:k=i+1+m
   ·subst e
    exact r9 j h1 0#d
   ·exact hall j k h1 h2 h3 0#d
 ·rintro σ H3 ⟨rfl,v3,v4,v5,v6,v7,rfl,hall⟩
  rw?
  refine k true ⟨λ_ p q h1 h2 h3 h4=>?_,λ_=>rfl⟩
  rw [gU] at h2 h4
  exact hall q p h3 h4 h1 0#d
theorem kQ:aE ["_law_still","_law_way","_law_bound","_law_due","_law_steps_here","_law_i"] ["_law_still","_law_way","_law_bound"] (ah vI):=0#a
theorem J0 (F:cR K "_law_rest" "_law_rest" vI f fd) (T:Txt mg) (fz:Dn P w K mg base 4 "_law_count" ["_law_run","_law_way","_law_bound"] tL) (jh:Dn P w K mg base 3 "_law_steps" ["_law_run","_law_bound","_law_hangs"] xK) (u5:Dn P w K mg base 1 "_law_cone" ["_law_run","_law_i","_law_bound"] Ia):bf P w K mg base cY 5 f fd ["_law_still","_law_way","_law_bound"] Ii:=by
 refine F.ok kQ 0#e 0#b
 ·obtain ⟨l,hs,wy,c,b,m,n,rfl,_⟩:=h
  rfl
 obtain ⟨l,hs,wy,c,b,em,en,rfl,hl,hes,hS,dH,jS,zc,hm,hn,hb,hc,k⟩:=h
 refine bG ⟨_,(aq (bW (bC dF 0#V aA 0#J) (aH (aV aA)) cj) (aq (aK 3 kQ.nd (Jd.c3 fz hr 0#j 0#p 0#s)) (aq (bW (bC (Yt K) 0#p (bJ (bq jX jX)) rfl) (aH (aV 0#E)) cj) (aq (aK 4 kQ.nd (Jd.c3 jh hr 0#j 0#s (Jd.mO EM rfl T.SI KI (dD (mY dF 0#p jX 0#J))))) (aq (c7 fQ rfl (uQ rfl T.range (dD 0#V)) (bX (i:=5) kQ.nd rfl 0#k) (aH (bW (jj (rg (bC lQ (aI aW (bB 0#Z 0#X (aa 5) 0#h) aA) 0#E 0#J) (sr (ir (Jd.c3 u5 hr 0#j (aa 5) 0#s))))) (aH (aK 3 kQ.nd (aI aW (bB 0#Z 0#X (aa 5) 0#h) aA))) cj))) (aH (aV 0#E))))))),?_⟩
 rw?
 refine cy (.inl (aX.of hl)) ?_
 rw [bh]
 rw?
 refine cD (λc0=>?_) (λc0=>?_)
 ·rw?
  exact k 0 H 0#x (.inl ⟨NH.mp (by have:=jw c0;simp?),rfl⟩)
 have c0':=gY (gQ.mpr c0)
 have hne:hs≠[]:=λz=>c0' (by rw [z];rfl)
 rw?
 refine ⟨l,hs,wy,c,b,em,en,rfl,hl,hes,hS,dH,by simp?,jS,zc,hm,hn,hb,hc,λd H1 s1 hd=>?_⟩
 rw?
 refine aF (mk:=.tup) 0#f λp2 H2 s2 n2 e2=>?_
 have fW:=s1.trans s2
 rw?
 refine ⟨p2,_,rfl,.inr (qb.of e2),rfl,rfl,?_⟩
 have ael:∀ao:Bool,wy=(if ao=true then .ch else .sp)→∀(R:av) (t:Nat→Int) (H3:Hp),jE (d7 (gh hs b) 0#t ao) (hs.length+aU ao) t→d=max 1 (t (hs.length+aU ao-1))∧∀d',uN (gh hs b) 0#t t (hs.length+aU ao) hs.length d'→BC wy 0#t (gh hs b) d':=λao hw R t H3 hF=>by
  subst hw
  have PU:jE (d7 (gh hs b) 0#t ao) ((gh hs b).length+aU ao) t:=by rw [gU];exact hF
  have e:RC (if ao=true then .ch else .sp) 0#t (gh hs b) (max 1 (t (hs.length+aU ao-1))):=by
   have:RT ao 0#t (gh hs b) (max 1 (t (hs.length+aU ao-1))):=⟨t,PU,by rw [gU]⟩
   cases ao <;> exact this
  refine ⟨RC.uniq hd e,λd' hL=>?_⟩
  have hL':=uN.pred PU (by rw [gU];simp?) (v:=d') (by rw [gU];exact hL)
  cases ao <;> exact ⟨t,PU,hL'⟩
 obtain ⟨ao,hw⟩ | hw:(∃ao:Bool,wy=(if ao=true then .ch else .sp))∨(wy=.ap∨wy=.jo):=by
  cases wy with
  | ap=>exact .inr (.inl rfl)
  | jo=>exact .inr (.inr rfl)
  | sp=>exact .inl ⟨false,rfl⟩
  | ch=>exact .inl ⟨true,rfl⟩
 ·subst hw
  refine ⟨_,rfl,?_⟩
  rw [show inV (.str (Fw (if ao=true then .ch else .sp))) [V.str (uW "apart"),V.str (uW "joined")]=false by cases ao <;> decide +kernel]
  refine bI ?_
  rw?
  refine gr (c:=ao) (by cases ao <;> decide +kernel) ?_
  rw?
  refine .inr ⟨_,rfl,?_⟩
  rw?
  rw [show (if ao=true then (1:Int) else 0)=1-(aU ao:Int) by cases ao <;> rfl]
  refine ⟨l,hs,c,b,ao,em,en,rfl,fW _ _ hl,hes.up fW,hS,dH,by simp?,jS,zc,hm,hn,hb,λR t H3 s3 eR hF=>?_⟩
  obtain ⟨ed,fin⟩:=ael ao rfl R t H3 hF
  have hl3:=(fW.trans s3) _ _ hl
  rw?
  refine dJ (qD ?_)
  rw?
  refine cy (.inl (aX.of hl3)) ?_
  rw [bh]
  rw?
  refine ⟨_,rfl,by lia,by lia,cA (λm σ H4=>H4=H3∧Lq λ(d:Int) (v5:Option V)=>σ=[some 0#U,some (.str (Fw (if ao=true then .ch else .sp))),some (.int c),some (.int d),some (.ref R),v5]∧uN (gh hs b) 0#t t (hs.length+aU ao) m d) ?_ ?_ ?_⟩
  ·exact ⟨rfl,d,none,rfl,by rw [ed];exact DK _,λp hp=>absurd hp (Be _),.inl ed⟩
  ·rintro m σ H4 hm' ⟨rfl,d,v5,rfl,q1,q2,q3⟩
   rw [show (0:Int)+(m:Int)=(m:Int) by simp?]
   refine cE λM Bk RR hM _ _=>?_
   rw?
   refine cK eR (ic (j:=m) 0#c rfl) ?_
   rw?
   refine cD 0#C 0#C
   ·have rW:=jw c1
    rw?
    refine ⟨l,hs,m,c,b,em,en,rfl,hl3,hes.up (fW.trans s3),hS,dH,by simp?,jS,zc,hm,hn,hb,λr hr'=>?_⟩
    rw?
    cases r with
    | true=>
      refine cB ?_
      rw?
      refine cK eR (ic (j:=m) 0#c rfl) ?_
      rw?
      refine hM _ _ ⟨rfl,_,_,rfl,by simp?,λp hp hT=>?_,.inr ⟨m,by simp?,hr'.mp rfl,rfl⟩⟩
      by_cases e:p=m
      ·subst e
       exact DK _
      ·have:=q2 p 0#c hT
       simp?
    | false=>
      refine bI ?_
      rw?
      refine hM _ _ ⟨rfl,d,_,rfl,q1,λp hp hT=>?_,q3.imp id λ⟨p,hp,z⟩=>⟨p,by simp?,z⟩⟩
      by_cases e:p=m
      ·subst e
       exact absurd (hr'.mpr hT) 0#i
      ·exact q2 p 0#c hT
   ·have rW:=gY (gQ.mpr c1)
    refine bI ?_
    rw?
    refine hM _ _ ⟨rfl,d,_,rfl,q1,λp hp hT=>?_,q3.imp id λ⟨p,hp,z⟩=>⟨p,by simp?,z⟩⟩
    by_cases e:p=m
    ·subst e
     simp?
    ·exact q2 p 0#c hT
  ·rintro σ H4 ⟨rfl,d,v5,rfl,hL⟩
   rw?
   rw [show ((hs.length:Int)).toNat=hs.length by simp?] at hL
   exact k d H4 (fW.trans s3) (.inr ⟨hne,fin d hL⟩)
 ·refine ⟨_,rfl,?_⟩
  rw [show inV (.str (Fw wy)) [V.str (uW "apart"),V.str (uW "joined")]=true by rcases hw with rfl | rfl <;> decide +kernel]
  refine cB ?_
  rw?
  exact k d H2 fW (.inr ⟨hne,by rcases hw with rfl | rfl <;> exact hd⟩)
end
theorem aaP (hr:rising es) (hu:∀e∈es,e.2.1≤u) (hF:jE (d7 es β ao) 0#H t) (hp:p+1<es.length) (hx:x=t p+1) (hB:BT ao β es x) (hT:Rt es β p) (hG:aaG es β p G) (hm:es'.map (·.2)=es.map (·.2)++[(u+1,some (wo es p+G*((u+1-mo es p:Int):Rat)))]) (hd:RT ao β es' d):d=x:=by
 have hd':RT ao β (es++[((0:av),u+1,some (wo es p+G*((u+1-mo es p:Int):Rat)))]) d:=RT.congr (by rw [hm,iI];rfl) hd
 generalize hz:((0:av),u+1,some (wo es p+G*((u+1-mo es p:Int):Rat)))=z at hd'
 have hr':rising (es++[z]):=FA.mpr ⟨hr,KC _ _,λa ha b hb=>by
  obtain rfl:b=z:=by simpa using hb
  rw [← hz]
  have:=hu a ha
  show a.2.1<u+1
  simp?⟩
 have lo:=ac3 hr' 0#c hB hd'
 obtain ⟨t',PU,e⟩:=hd'
 have hl:(es++[z]).length=es.length+1:=by simp
 have s1:aU ao≤1:=by cases ao <;> decide
 have lg:∀i j,i<j→j<es.length+aU ao→(d7 es β ao i j↔d7 (es++[z]) β ao i j):=λi j a b=>by
  rw [jk a b,jk a 0#c]
  unfold Good
  constructor
  ·intro q k k1 k2
   rw [HV 0#c 0#c 0#c]
   exact q k k1 k2
  ·intro q k k1 k2
   have:=q k k1 k2
   rw [HV 0#c 0#c 0#c] at this
   exact this
 have te:=wB hF (EU PU (N:=es.length+aU ao) 0#c lg) p 0#c
 have mz:mo (es++[z]) es.length=u+1∧wo (es++[z]) es.length=wo es p+G*((u+1-mo es p:Int):Rat):=by
  unfold mo wo
  rw [ya (dG _),K3,← hz]
  exact ⟨rfl,rfl⟩
 have up:mo es p<u+1:=by
  obtain ⟨e,he⟩:∃e,es[p]?=some e:=⟨_,mC 0#c⟩
  have:=hu e (lP he)
  unfold mo
  rw [he]
  show e.2.1<u+1
  simp?
 have hs:UE (es++[z]) p es.length=G:=by
  unfold UE
  rw [mz.1,mz.2,(jH (by simp?:p<es.length)).1,(jH (by simp?:p<es.length)).2]
  have:=rX up
  rw [oh]
  grind
 have hgood:Good (es++[z]) β p es.length:=λk k1 k2=>by
  rw [r8 hr' k1 k2 0#c,hs]
  unfold dR cS
  rw [(jH (by simp?:p<es.length)).1,(jH (by simp?:p<es.length)).2,(jH k2).1,(jH k2).2]
  refine ⟨hG.1 k k1 k2,?_⟩
  obtain ⟨i,i1,i2,i3⟩:=hG.2
  rw [i3]
  exact hT i k i1 i2 k1 k2
 have hi:=PU.le p ((es++[z]).length+aU ao-1) 0#c 0#c (by
  rw [jk 0#c 0#c,show (es++[z]).length+aU ao-1-aU ao=es.length by simp?]
  exact hgood)
 rw [← te,← hx] at hi
 have:1≤x:=by
  obtain ⟨u',hFu,_⟩:=hB
  have nn:∀j,j<es.length+aU ao→0≤t j:=by
   intro j
   induction j using Pd with
   | ind j ih=>
     intro hj
     by_cases h0:j=0
     ·rw [h0,hF.first];exact DK _
     ·obtain ⟨i,i1,_,i3⟩:=hF.ex j 0#c hj
      have:=ih i i1 0#c
      simp?
  have:=nn p 0#c
  simp?
 simp?
inductive zG (vs:List V) (H:Hp) (Q:VK) (E_:XK):Prop where
 | mk (z q l:av) (hs:List Nn) (wy:Wy) (b c u:Int) (y:Rat):vs=[.ref z,.ref l,.str (Fw wy),.int b,.int c,.int u]→H z=some (.tup [.int (u+1),.ref q])→dz H q y 905→H l=some (.lst (bE hs))→iB H hs 45 150→uD hs→fV hs→(∀x∈hs,x.2.1≤u)→hs.length≤20→Sz 80 b→1≤b→Sz 150 c→0≤c→Sz 46 u→(∀(d:Int) (es:List En) (H':Hp),au H H'→es.map (·.2)=(gh hs b).map (·.2)++[(u+1,some y)]→RC wy 0#t es d→Q (.int d) H')→zG vs H Q E_
section
theorem kD:aE ["_law_hint","_law_still","_law_way","_law_bottom","_law_bound","_law_moment_here","_law_top","_law_under","_law_some"] ["_law_hint","_law_still","_law_way","_law_bottom","_law_bound","_law_moment_here"] (ah qG):=0#a
theorem Ei (F:cR K "_law_brings" "_law_brings" qG f fd) (T:Txt mg) (mR:Dn P w K mg base 3 "_law_is_ratio" ["_law_one"] XY) (fz:Dn P w K mg base 4 "_law_count" ["_law_run","_law_way","_law_bound"] tL):bf P w K mg base cY 5 f fd ["_law_hint","_law_still","_law_way","_law_bottom","_law_bound","_law_moment_here"] zG:=by
 refine F.ok kD 0#e 0#b
 ·obtain ⟨z,q,l,hs,wy,b,c,u,y,rfl,_⟩:=h
  rfl
 obtain ⟨z,q,l,hs,wy,b,c,u,y,rfl,ez,fq,hl,hes,hS,dH,hle,h20,zb,hb,zc,hc,zu,k⟩:=h
 refine bG ⟨_,(aq (bW (jj (Jd.sJ (Jd.nv (ir (dQ (GD K) rfl T.fE IA (bq 0#j (Jd.sF rfl T.Iv OP)) (he:=bw) (hpl:=(cu bw cg))))) (Jd.nA (bC E7 0#V aA 0#J)))) (aH (aV dN)) cj) (aq (bW (jj (Jd.sJ (ir (dQ (GD K) rfl T.fE IA (bq 0#I (Jd.sF rfl T.RE U5)) (he:=o9) (hpl:=(cu bw cg)))) (Jd.nA (bC E7 0#I (aI aW (aa 5) aA) 0#J)))) (aH (aV dN)) cj) (aq (bW (jj (Jd.sJ (Jd.nv (ir (dQ (GD K) rfl T.fE IA (bq 0#I (Jd.sF rfl T.SI KI)) (he:=o9) (hpl:=(cu bw cg))))) (Jd.nA (Jd.nv (ir (Jd.c1 mR hr 0#I)))))) (aH (aV dN)) cj) (aq (Jd.sG 0#I (Jd.Ox K (n:=2) rfl (fS (bX (i:=6) kD.nd rfl 0#k) (fS (bX (i:=7) kD.nd rfl (Or.inr rfl)) pH)))) (aq (rf (O:=["_law_one"]) (N':=["_law_under"]) (cap:=[7]) (i:=8) kD.nd rfl 0#k rfl (dB K 0#p) (λ_ _ _ _ _=>(bX (i:=0) (show jd [("_law_one":Str),("_law_under":Str)] by decide +kernel) rfl 0#k)) 1#d (λ_ _ _ _ _=>(bJ (cG (bB (D9 K) 0#j aA 0#h) (cG (aI aQ (bB (D9 K) 0#j aA 0#h) 0#p) dX Iq) o9))) rfl 0#u rfl 0#g rfl 0#g (by rfl)) (aq (eO (gM K (aa 8) (bJ (bq (aI aW (aa 5) aA) (aI aQ (aa 6) 0#E)))) (hs:=eF)) (aH (aV (Jd.c3 fz hr (aa 8) 0#s (aI aQ 0#X (aa 7))))))))))),?_⟩
 rw?
 refine wY (.tup ez) Mb ?_
 rw?
 refine bI ?_
 rw?
 refine cy (.inr (qb.of ez)) ?_
 rw?
 refine bI ?_
 rw?
 refine wY (.int _) L8 ?_
 rw?
 refine bI ?_
 rw?
 rw [jb rfl]
 refine bI ?_
 rw?
 refine wY (.int _) Ma ?_
 rw?
 refine bI ?_
 rw?
 refine ady fq 0#i λH1 s1=>?_
 have ez1:=s1 _ _ ez
 have fq1:=fq.up s1
 rw?
 refine bI ?_
 obtain ⟨tp,un,eq,fr,zt,zn⟩:=fq1
 rw?
 refine Ff ?_
 rw?
 refine jq eq ?_
 have hl1:=s1 _ _ hl
 have afB:=hes.up s1
 have hun:1≤un:=fr.pos
 rw?
 refine iD ?_
 rw?
 refine ⟨l,rfl,⟨_,aX.of hl1⟩,?_⟩
 refine cF (xs:=bE hs) bZ (λH3 s3=>aX.of (s3 _ _ hl1)) (by rw [bh];simp?) (λi ys G=>∃os:List Nn,ys=bE os∧iB G os 48 1060∧os.map (·.2)=(hs.take i).map (λx=>(x.2.1,x.2.2.map (·*un)))) ⟨[],rfl,λx hx=>absurd hx 0#f,rfl⟩ ?_ ?_
 ·rintro D i x ys H3 jV N N0 h0 hD eD s3 hx hy ⟨os,rfl,hos,hmo⟩ kY kN
  obtain ⟨e,he,rfl⟩:=pL hx
  have hem:=lP he
  obtain ⟨ee,ze1,ze2⟩:=(afB e hem).up s3
  have hse:=hS e hem
  obtain ⟨ae,me,ve⟩:=e
  cases ve with
  | none=>cases hse
  | some v=>
    have zv:=ze2 v rfl
    have ok1:=bV zv zn
    refine fO h0 ?_
    rw?
    refine cB ?_
    rw?
    refine gT ok1 ?_
    rw?
    refine aF (mk:=.tup) 0#f λpe H4 s4 n4 e4=>?_
    refine kY _ H4 s4 ⟨os++[(pe,me,some (v*un))],by rw [← iw],λx hx=>?_,?_⟩
    ·rcases dg.mp hx with w | w
     ·obtain ⟨q1,q2,q3⟩:=hos x w
      exact ⟨(rj s4) _ _ q1,q2,q3⟩
     ·obtain rfl:=DQ.mp w
      exact ⟨dY (s4 _ _ eD) e4,ze1.mono 0#i,λz hz=>by
       cases hz
       exact (zv.mul zn).mono 0#i⟩
    ·rw [iI,hmo,DE,he,iI]
     rfl
 rintro D ys H2 hD eD s2 hy ⟨os,rfl,hos,hmo⟩
 rw [bh,jR] at hmo
 have afO:iB H2 os 48 1060:=λx hx=>let ⟨q1,q2,q3⟩:=hos x hx;⟨gH _ _ q1,q2,q3⟩
 have hlo:os.length=hs.length:=by simpa using congrArg tY hmo
 rw?
 refine ⟨.inl ⟨rfl,_,aX.of eD⟩,?_⟩
 rw?
 refine gT (bV zt zb) ?_
 rw?
 refine aF (mk:=.tup) 0#f λpe H3 s3 n3 e3=>?_
 rw?
 have eD3:=s3 _ _ eD
 refine cJ eD3 (by rw [bh];exact aO 0#c) ?_
 have zu1:Sz 48 (u+1):=by
  have h1:u.natAbs<2 ^ 46:=zu
  show (u+1).natAbs<2 ^ 48
  simp?
 have f3:BN H3 (pe,u+1,some (tp*b)) 48 1060:=⟨e3,zu1,λz hz=>by
  cases hz
  exact (zt.mul zb).mono 0#i⟩
 have afP:iB (upd H3 D (.lst (bE os++[.ref pe]))) (os++[(pe,u+1,some (tp*b))]) 48 1060:=((afO.up s3).snoc f3).app eD3
 have e1:os.map (λx=>x.2.1)=hs.map (λx=>x.2.1):=by
  have:=congrArg (Ar VT) hmo
  rw [pT,pT] at this
  exact this
 have z5:fV (os++[(pe,u+1,some (tp*b))]):=FA.mpr ⟨Cm e1 dH,KC _ _,λx hx y hy=>by
  obtain rfl:=DQ.mp hy
  have:x.2.1∈hs.map (λx=>x.2.1):=e1▸gD.mpr ⟨x,hx,rfl⟩
  obtain ⟨w,hw,e⟩:=gD.mp this
  have:=hle w hw
  show x.2.1<u+1
  simp?⟩
 have hSo:uD (os++[(pe,u+1,some (tp*b))]):=λx hx=>by
  rcases dg.mp hx with w | w
  ·have:x.2∈hs.map (λx=>(x.2.1,x.2.2.map (·*un))):=hmo▸gD.mpr ⟨x,w,rfl⟩
   obtain ⟨v,hv,e⟩:=gD.mp this
   have:=hS v hv
   unfold rC at this ⊢
   rw [← e]
   simpa using this
  ·obtain rfl:=DQ.mp w
   rfl
 have yg:au H (upd H3 D (.lst (bE os++[.ref pe]))):=aZ (s1.trans (s2.trans s3)) (s1.free hD)
 rw?
 refine gT (bV zc zn) ?_
 rw?
 refine ⟨D,os++[(pe,u+1,some (tp*b))],wy,c*un,b*un,48,1060,rfl,by rw [aB,← iw],afP,hSo,z5,by simp,by rw [fj,hlo,ID];simp?,(zc.mul zn).mono 0#i,by decide,by decide,m7 hb hun,pB hc 0#c,λd H5 s5 hd=>?_⟩
 have hcb:((c*un:Int):Rat)/((b*un:Int):Rat)=(c:Rat)/(b:Rat):=by
  have h1:=cI (b:=b) 0#c
  have h2:=cI (b:=un) 0#c
  simp only [nY]
  grind
 rw [hcb] at hd
 refine k d _ H5 (yg.trans s5) ?_ hd
 rw [rZ,rZ,iI]
 have b0:=cI (b:=b) 0#c
 have u0:=cI (b:=un) 0#c
 have ey:y=(tp:Rat)/(un:Rat):=by
  rw [fr.eq]
  grind
 congr 1
 ·have e:=congrArg (Ar (cz (b*un))) hmo
  rw [pT,pT] at e
  refine e.trans (U8 λx _=>?_)
  show cz (b*un) (x.2.1,x.2.2.map (·*un))=cz b x.2
  unfold cz
  rw [Z8]
  congr 2
  funext v
  show ((v*un:Int):Rat)/((b*un:Int):Rat)=(v:Rat)/(b:Rat)
  simp only [nY]
  grind
 ·show [cz (b*un) (u+1,some (tp*b))]=_
  unfold cz
  simp only [ZU]
  rw [ey,show ((tp*b:Int):Rat)/((b*un:Int):Rat)=(tp:Rat)/(un:Rat) by
   simp only [nY]
   grind]
end
theorem UC {hs:List Nn} (h:es.map (·.2)=hs.map (λx=>cz b x.2)) (u:Int):(rD es u).map (·.2)=(hs.filter (λx=>decide (x.2.1≤u))).map (λx=>cz b x.2):=by
 have a:(rD es u).map (·.2)=(es.map (·.2)).filter (λv:Int×Option Rat=>decide (v.1≤u)):=by rw [Vs];rfl
 have c:(hs.filter (λx=>decide (x.2.1≤u))).map (λx=>cz b x.2)=(hs.map (λx=>cz b x.2)).filter (λv:Int×Option Rat=>decide (v.1≤u)):=by rw [Vs];rfl
 rw [a,c,h]
theorem L4 (h:A.map (·.2)=as.map (·.2)):bU c8 A A.length=bU c8 as as.length:=by
 have z:∀(X:List En) (n:Nat),(X[n]?).map c8=((X.map (·.2))[n]?).map λv:Int×Option Rat=>v.2.isSome:=λX n=>by
  rw [dw,Z8]
  rfl
 unfold bU
 rw [z,h,← z,j6 h]
theorem JE:bU c8 (gh as b) (gh as b).length=bU rC as as.length:=by
 unfold bU
 rw [gU]
 unfold gh
 rw [dw]
 cases as[as.length-1]? with
 | none=>rfl
 | some x=>
   show _=(decide (0<as.length)&&rC x)
   congr 1
   show c8 (x.1,cz b x.2)=rC x
   unfold c8 cz rC
   simp
theorem EX (h:∀x∈ms,x.2.2=none):∀i,i≤ms.length→parts c8 ms i=[]∧bU c8 ms i=false
 | 0,_=>⟨rfl,rfl⟩
 | i+1,hi=>by
   obtain ⟨e,he⟩:∃e,ms[i]?=some e:=⟨_,mC 0#c⟩
   have hs:c8 e=false:=by unfold c8;rw [h e (lP he)];rfl
   exact ⟨by rw [jm he hs];exact (EX h i 0#c).1,by rw [fN he];exact hs⟩
theorem RP (h:A++B=A'++B') (hA:bU c8 A A.length=false) (hA':bU c8 A' A'.length=false) (hB:ia B) (hB':ia B'):A=A'∧B=B':=by
 have key:∀{A B C B':List En},B=C++B'→ia B→bU c8 (A++C) (A++C).length=false→C=[]:=λ{A B C B'} e hB hi=>by
  rcases Zc C with z | ⟨t,x,z⟩
  ·exact z
  ·rw [z,List.concat_eq_append,← Dz,fj,ID,fN (e:=x) (by rw [ya (dG _),K3];rfl)] at hi
   have:=hB x (by rw [e,z];simp)
   rw [this] at hi
   cases hi
 rcases List.append_eq_append_iff.mp h with ⟨C,e1,e2⟩ | ⟨C,e1,e2⟩
 ·obtain rfl:=key e2 hB (e1▸hA')
  rw [vX] at e1
  exact ⟨e1.symm,e2⟩
 ·obtain rfl:=key e2 hB' (e1▸hA)
  rw [vX] at e1
  exact ⟨e1,e2.symm⟩
theorem N3 {hs:List Nn} (hm:∀x∈ms,x.2.2=none) (h:es.map (·.2)=hs.map (λx=>cz b x.2)) (hab:as++bs=hs.filter (λx=>decide (x.2.1≤u))) (hS:uD bs) (hin:bU rC as as.length=false):∃X,X.map (·.2)=(gh as b).map (·.2)∧(Bj (ms++es) u).map (·.2)=(gh bs b).map (·.2)∧parts c8 (Rw (ms++es) u) (Rw (ms++es) u).length=parts c8 X X.length:=by
 have e0:rD (ms++es) u=rD ms u++rD es u:=DR ..
 have e1:=UC h u
 rw [← hab,iI] at e1
 obtain ⟨X,Y,e2,hX,hY⟩:=List.map_eq_append_iff.mp e1
 rw [← rZ] at hX hY
 have hg:∀x∈rD ms u,x.2.2=none:=λx hx=>hm x (FE.subset hx)
 obtain ⟨g1,g2⟩:=EX hg _ (dG _)
 have hc:=E8 (s:=c8) (as:=rD ms u) (bs:=X) g2 X.length (dG _)
 rw [← fj] at hc
 have hY':ia Y:=by
  have:=JM (es:=Y) (hs:=bs) (b:=b) (by rw [hY,rZ]) hS
  exact this
 have:=RP (A:=Rw (ms++es) u) (B:=Bj (ms++es) u) (A':=rD ms u++X) (B':=Y) (by unfold Rw Bj;rw [Lc,e0,e2,Dz]) (N9 _) (by rw [hc.2,L4 hX,JE];exact hin) (Gk _) hY'
 refine ⟨X,hX,by rw [this.2];exact hY,?_⟩
 rw [this.1,hc.1,g1]
 rfl
theorem aaS (fs:List Nn):∃as bs:List Nn,as++bs=fs∧uD bs∧bU rC as as.length=false:=by
 have h1:=N9 (gh fs 1)
 have h2:=Gk (gh fs 1)
 generalize eW (gh fs 1) (gh fs 1).length=g at h1 h2
 refine ⟨fs.take g,fs.drop g,Lc ..,λx hx=>?_,?_⟩
 ·have:c8 ((x.1,cz 1 x.2):En)=true:=h2 _ (by
   unfold gh
   rw [← FN]
   exact gD.mpr ⟨x,hx,rfl⟩)
  unfold c8 cz at this
  unfold rC
  simpa using this
 ·rw [← JE (b:=1)]
  have e:gh (fs.take g) 1=(gh fs 1).take g:=by unfold gh;rw [Vv]
  rw [e]
  exact h1
theorem BC.uniq (g:BC wy β es d) (g':BC wy β es d'):d=d':=by
 have tt:∀{ao:Bool},BT ao β es d→BT ao β es d'→d=d':=λ{ao} ⟨t,a,b1,b2,b3⟩ ⟨t',a',c1,c2,c3⟩=>by
  have te:∀j,j<es.length+aU ao→t j=t' j:=wB a a'
  have e0:t (es.length+aU ao-1)=t' (es.length+aU ao-1):=by
   by_cases z:es.length+aU ao=0
   ·rw [z,aav,a.first,a'.first]
   ·exact te _ 0#c
  refine Vn ?_ ?_
  ·clear b3
   rcases c3 with c3 | ⟨p,hp,hT,e⟩
   ·simp?
   ·have:=b2 p hp hT
    rw [te p 0#c] at this
    simp?
  ·clear c3
   rcases b3 with c3 | ⟨p,hp,hT,e⟩
   ·simp?
   ·have:=c2 p hp hT
    rw [← te p 0#c] at this
    simp?
 cases wy with
 | ap=>exact RC.uniq (wy:=.ap) g g'
 | jo=>exact RC.uniq (wy:=.jo) g g'
 | sp=>exact tt g g'
 | ch=>exact tt g g'
theorem WC (hF:acF H wy β A B u v wv) (hX:X.map (·.2)=(gh as b).map (·.2)) (hB:B.map (·.2)=(gh bs b).map (·.2)) (hp:parts c8 A A.length=parts c8 X X.length) (h1:jG (RC wy β) (parts c8 (gh as b) (gh as b).length) d1) (hx:(bs=[]∧x=0)∨(bs≠[]∧BC wy β (gh bs b) x)) (hS:uD bs):v=d1+x∧∀d2,jG (RC wy β) (parts c8 (gh bs b) (gh bs b).length) d2→(x=d2→wv=.bM)∧(x≠d2→BC wy β B x∧EG H wy β B u x wv∧wv≠.bM):=by
 obtain ⟨d,hd,hv⟩:=hF
 rw [hp] at hd
 have hd':jG (RC wy β) (parts c8 (gh as b) (gh as b).length) d:=jG.imp (R:=RC wy β) (R':=RC wy β) (λr r' c m z=>RC.congr (wy:=wy) (d:=c) m z) hd (MH hX)
 have e1:d=d1:=jG.uniq (R:=RC wy β) (λr c c' a b=>RC.uniq (wy:=wy) a b) hd' h1
 have lB:B.length=bs.length:=(j6 hB).trans (gU bs b)
 rcases hv with ⟨b0,ev,ew⟩ | ⟨b0,y,hy,ev,hH⟩
 ·have:bs=[]:=NH.mp (by rw [← lB,b0];rfl)
  rcases hx with ⟨_,x0⟩ | ⟨z,_⟩
  ·refine ⟨by simp?,λd2 h2=>⟨λ_=>ew,λne=>?_⟩⟩
   subst this
   cases h2
   exact absurd x0 ne
  ·exact absurd this z
 ·have hbs:bs≠[]:=λz=>b0 (NH.mp (by rw [lB,z];rfl))
  rcases hx with ⟨z,_⟩ | ⟨_,hx⟩
  ·exact absurd z hbs
  have hyx:y=x:=BC.uniq (BC.congr hB hy) hx
  subst hyx
  refine ⟨by simp?,λd2 h2=>?_⟩
  have hgS:ia (gh bs b):=JM (rZ bs b) hS
  rw [E9 hgS (λz=>hbs (NH.mp (by rw [← gU bs b,z];rfl)))] at h2
  have hRC:RC wy β B d2:=RC.congr hB.symm (by
   generalize hq:d2=q at h2
   cases h2 with
   | cons a b=>cases b;rw [VF];exact a)
  refine ⟨λe=>?_,λne=>⟨hy,hH,?_⟩⟩
  ·rcases hH with ⟨a,_⟩ | ⟨ao,t,hw,hF,hn⟩
   ·exact a
   ·cases hn with
    | no _=>rfl
    | yes _ _ _ lt _ _ _=>
      subst hw
      have:RC (if ao=true then .ch else .sp) β B (max 1 (t (B.length+aU ao-1))):=by
       have:RT ao β B (max 1 (t (B.length+aU ao-1))):=⟨t,hF,rfl⟩
       cases ao <;> exact this
      have:=RC.uniq hRC this
      simp?
  ·rcases hH with ⟨_,a⟩ | ⟨ao,t,hw,hF,hn⟩
   ·exact absurd (RC.uniq a hRC) ne
   ·cases hn with
    | no e=>
      subst hw
      have:RC (if ao=true then .ch else .sp) β B (max 1 (t (B.length+aU ao-1))):=by
       have:RT ao β B (max 1 (t (B.length+aU ao-1))):=⟨t,hF,rfl⟩
       cases ao <;> exact this
      exact absurd (e.trans (RC.uniq this hRC)) ne
    | yes _ _ _ _ _ _ _=>exact λz=>nomatch z
theorem Wh (h:es[es.length-1]?=some x):qV (bE es) (-1)=some (.ref x.1):=by
 have hl:=(lS.mp h).1
 unfold qV
 rw [bh,qu (m:=es.length-1) 0#c]
 show (bE es)[es.length-1]?=_
 unfold bE
 rw [dw,h]
 rfl
inductive Ko (K:b9) (vs:List V) (H:Hp) (Q:VK) (E_:XK):Prop where
 | mk (a:av) (ns:List Int):vs=[.ref a]→aX K H a 0#L→ns.length≤63→(∀H',Q (.bl true) H')→Ko K vs H Q E_
section
theorem gA:aE ["_law_script","_law_more","_law_way","_law_share","_law_row_here","_law_bottom","_law_bound","_law_moment_here","_law_marks","_law_k","_law_handed_here","_law_found","_law_number","_law_hint","_law_shut","_law_still","_law_ahead","_law_due","_law_made"] ["_law_script"] (ah Uq):=0#a
theorem abK (F:cR K "law" "law" Uq f fd) (T:Txt mg) (mF:Dn P w K mg base 3 "_law_row" ["_law_script","_law_place","_law_sizes"] (OF K)) (rN:Dn P w K mg base 4 "_law_drawn" ["_law_script","_law_place","_law_most","_law_share"] (C8 K)) (qf:Dn P w K mg base 1 "_law_moment" ["_law_row_here","_law_some"] zK) (fB:Dn P w K mg base 1 "_law_ratio" ["_law_top","_law_bottom"] uB) (lV:Dn P w K mg base 2 "_law_handed" ["_law_row_here","_law_bottom"] C9) (Rq:Dn P w K mg base 11 "few" ["row","way","bound","moment"] UI) (rO:Dn P w K mg base 1 "_law_parts" ["_law_row_here","_law_moment_here"] Dg) (ow:Dn P w K mg base 5 "_law_total" ["_law_row_here","_law_way","_law_bound"] Ds) (u6:Dn P w K mg base 5 "_law_rest" ["_law_still","_law_way","_law_bound"] Ii) (qd:Dn P w K mg base 5 "_law_brings" ["_law_hint","_law_still","_law_way","_law_bottom","_law_bound","_law_moment_here"] zG):bf P w K mg base cY 12 f fd ["_law_script"] (Ko K):=by
 refine F.ok gA 0#e 0#b
 ·obtain ⟨a,ns,rfl,_⟩:=h
  rfl
 obtain ⟨a,ns,rfl,hS,hn,k⟩:=h
 have SD:=hr.units
 refine bG ⟨_,(aq (aK 1 gA.nd (Jd.c3 mF hr 0#j aA (dI (cG aA (Jd.a4 aA aA aA aA) jy)))) (aq (aK 2 gA.nd (bB 0#Z (dI (cG jX (cG jX (Jd.a4 jX jX jX jX) jy) jy)) (Jd.iL K 0#p) 0#h)) (aq (aK 3 gA.nd (bB 0#Z (dI (cG aA (cG aA (Jd.a4 aA aA aA aA) jy) jy)) (Jd.iL K 0#p) 0#h)) (aq (Jd.sG (fY rN 0#z rfl (Jd.a4 0#j aA aA 0#E) (he:=bw) (hpl:=(cu jy (cu jy (cu bw cg))))) (Jd.Ox K (n:=3) rfl (fS (bX (i:=4) gA.nd rfl 0#k) (fS (bX (i:=5) gA.nd rfl 0#k) (fS (bX (i:=6) gA.nd rfl 0#k) pH))))) (aq (aK 7 gA.nd (bY qf hr 0#X (qX (Rl K) 0#p (qZ aA) qY))) (aq (bW (jj (rg (bC dF (Jd.iL K 0#p) aA 0#J) (sr (bC dS (eY K T.eU 0#X) aA 0#J)))) (aH (aK 7 gA.nd (aJ K (bB 0#Z 0#X (fR cZ aA) 0#h)))) cj) (aq (aK 8 gA.nd (dI dX)) (aq (bW (jj (rg (bC dF (Jd.iL K 0#p) aA 0#J) (sr (bC dS (eY K T.eU 0#X) aA 0#J)))) (aH (c7 fQ rfl (uQ rfl T.range (dD (aI bL aA (eY K T.eU 0#X)))) (bX (i:=9) gA.nd rfl 0#k) (aH (eO (gM K (aa 8) (bJ (bq (aI aW (aI bL (aJ K (Jd.iL K 0#X)) aA) (aa 9)) dN))) (hs:=eF))))) cj) (aq (aK 10 gA.nd (aI yO (aa 8) (bY lV hr 0#X (aa 5)))) (aq (aK 11 gA.nd (fY Rq 0#z rfl (Jd.a4 (aa 10) 0#s (bY fB hr (aa 6) (aa 5)) (aa 7)) (he:=bw) (hpl:=(cu bw (cu Bb (cu bw cg)))))) (aq (bW (bC (abL SD) (aa 10) (aI yO (aa 8) (bY lV hr 0#X (aa 5))) 0#J) (aH (aV kK)) cj) (aq (bW (jj (Jd.sJ (Jd.nv (ir (dQ (GD K) rfl T.fE IA (bq (aa 11) (Jd.sF rfl T.Iv OP)) (he:=bw) (hpl:=(cu bw cg))))) (Jd.nA (bC E7 (eY K T.eU (aa 11)) aA 0#J)))) (aH (aV kK)) cj) (aq (Jd.sG (aa 11) (Jd.Ox K (n:=2) rfl (fS (bX (i:=12) gA.nd rfl 0#k) (fS (bX (i:=13) gA.nd rfl 0#k) pH)))) (aq (bW (jj (Jd.sJ (ir (dQ (GD K) rfl T.fE IA (bq (aa 12) (Jd.sF rfl T.RE U5)) (he:=bw) (hpl:=(cu bw cg)))) (Jd.nA (Jd.nv (ir (dQ (GD K) rfl T.fE IA (bq (aa 12) (Jd.sF rfl T.SI KI)) (he:=bw) (hpl:=(cu bw cg)))))))) (aH (aV kK)) cj) (aq (Jd.sG (bY rO hr 0#X (aa 7)) (Jd.Ox K (n:=2) rfl (fS (bX (i:=14) gA.nd rfl 0#k) (fS (bX (i:=15) gA.nd rfl 0#k) pH)))) (aq (aK 16 gA.nd (Jd.c3 ow hr (aa 14) 0#s (aa 6))) (aq (aK 17 gA.nd (aI aW (aa 16) (Jd.c3 u6 hr (aa 15) 0#s (aa 6)))) (aq (bW (bC E7 (aa 12) (aa 17) 0#J) (aH (aV kK)) cj) (aq (bW (bC dF (aa 17) (aI aW (aa 16) (Jd.c3 ow hr (aa 15) 0#s (aa 6))) 0#J) (aH (aV (mY qz (aa 13) dN 0#J))) cj) (aq (aK 18 gA.nd (fY qd 0#z rfl (cG (aa 13) (cG (aa 15) (Jd.a4 0#s (aa 5) (aa 6) (aa 7)) bw) bw) (he:=bw) (hpl:=(cu bw (cu bw (cu bw (cu bw (cu bw cg)))))))) (aH (aV (Jd.yP (mY jI (aa 18) dN 0#J) (Jd.CD (mY dF (aI aW (aa 16) (aa 18)) (aa 17) 0#J))))))))))))))))))))))))),?_⟩
 rw?
 refine aF (mk:=.lst) 0#f λl1 H1 s1 n1 e1=>?_
 rw?
 refine ⟨a,ns,1,l1,[6,40,4,2,3],rfl,s1.seq hS,by decide,by decide,by rw [e1];rfl,by decide,by decide,λlw xs H2 s2 n2 e2 hlen hxs=>?_⟩
 obtain ⟨d0,g0,a0,b0⟩:=dm hlen hxs 0 (z:=6) rfl
 obtain ⟨d1,g1,a1,b1⟩:=dm hlen hxs 1 (z:=40) rfl
 obtain ⟨d2,g2,a2,b2⟩:=dm hlen hxs 2 (z:=4) rfl
 obtain ⟨d3,g3,a3,b3⟩:=dm hlen hxs 3 (z:=2) rfl
 obtain ⟨d4,g4,a4,b4⟩:=dm hlen hxs 4 (z:=3) rfl
 rw?
 refine aF (mk:=.lst) 0#f λl3 H3 s3 n3 e3=>?_
 rw?
 refine cK (s3 _ _ e2) (bQ g0 rfl) ?_
 obtain ⟨wy,ewy⟩:∃wy:Wy,qV [V.str (uW "spans"),V.str (uW "chain"),V.str (uW "spans"),V.str (uW "chain"),V.str (uW "apart"),V.str (uW "joined")] d0=some (.str (Fw wy)):=by
  rcases (show d0=0∨d0=1∨d0=2∨d0=3∨d0=4∨d0=5 by simp?) with rfl | rfl | rfl | rfl | rfl | rfl
  ·exact ⟨.sp,rfl⟩
  ·exact ⟨.ch,rfl⟩
  ·exact ⟨.sp,rfl⟩
  ·exact ⟨.ch,rfl⟩
  ·exact ⟨.ap,rfl⟩
  ·exact ⟨.jo,rfl⟩
 refine cK e3 ewy ?_
 rw?
 refine aF (mk:=.lst) 0#f λl4 H4 s4 n4 e4=>?_
 rw?
 refine cK (0#S _ _ e2) (bQ g0 rfl) ?_
 obtain ⟨sh,esh,zsh⟩:=CI (zs:=[1,1,1,1,2,2]) (λz=>0≤z∧z≤2) 0#g a0 b0
 refine cK e4 esh ?_
 have Ul:=s3.trans s4
 have yg:=s1.trans (s2.trans Ul)
 rw?
 refine Ff ?_
 rw?
 refine ⟨a,ns,0,14,sh,rfl,yg.seq hS,by decide,by decide,by decide,zsh.1,zsh.2,λp R hs b c H5 s5 e5 nR eR adp hle dH hb zb hc zc=>?_⟩
 have jS:hs.length≤40:=dP hle 0#i
 have kJ:hs.length≤900:=dP hle 0#i
 have b0':0<b:=Vd 0#i hb
 refine QH e5 ?_
 walk_at "vd"
 refine uR ((Ul.trans s5) _ _ e2) λS H6 s6 n6 e6=>?_
 rw [show (some (1:Int))=some ((1:Nat):Int) from rfl,acT] at e6
 rw?
 refine ⟨R,S,hs,xs.drop 1,d1,d2,rfl,s6 _ _ eR,adp.up s6,jS,e6,by rw [nW];exact g1,a1,b1,by rw [nW];exact g2,a2,b2,λu0 H7 s7 zu0=>?_⟩
 have s57:=s6.trans s7
 have eR7:=s57 _ _ eR
 have Oc:=adp.up s57
 have ew7:=(Ul.trans (s5.trans s57)) _ _ e2
 refine E6 ?_
 with_reducible refine gX (λσ' H'=>∃u:Int,σ'=[some (.ref a),some (.ref lw),some (.str (Fw wy)),some (.int sh),some (.ref R),some (.int b),some (.int c),some (.int u),none,none,none,none,none,none,none,none,none,none,none]∧H7=H'∧Sz 46 u) (λσ' H' hP=>?_) (λN hN=>?_)
 rotate_left
 ·rw?
  refine cK ew7 (bQ g3 rfl) ?_
  rw?
  refine cD 0#C 0#C
  ·rw?
   refine cy (.inl (aX.of eR7)) ?_
   rw [bh]
   rw?
   refine cD (λc2=>?_) (λc2=>?_)
   ·have Wk:=jw c2
    obtain ⟨e,he⟩:∃e,hs[hs.length-1]?=some e:=⟨_,mC 0#c⟩
    obtain ⟨ee,z1,_⟩:=Oc e (lP he)
    rw?
    refine cK eR7 (Wh he) ?_
    rw?
    exact hN _ _ ⟨_,rfl,rfl,z1.mono 0#i⟩
   ·rw?
    exact hN _ _ ⟨_,rfl,rfl,zu0⟩
  ·refine bI ?_
   rw?
   exact hN _ _ ⟨_,rfl,rfl,zu0⟩
 obtain ⟨u,rfl,rfl,zu⟩:=hP
 rw?
 refine aF (mk:=.lst) 0#f λM0 H8 s8 n8 e8=>?_
 have eR8:=s8 _ _ eR7
 have agD:=Oc.up s8
 have ew8:=s8 _ _ ew7
 refine r_g ?_
 refine E6 ?_
 with_reducible refine gX (λσ' H'=>Lq λ(ms:List En) (v9:Option V)=>σ'=[some (.ref a),some (.ref lw),some (.str (Fw wy)),some (.int sh),some (.ref R),some (.int b),some (.int c),some (.int u),some (.ref M0),v9,none,none,none,none,none,none,none,none,none]∧au H7 H'∧H' M0=some (.lst (vals ms))∧Row H' ms 150∧(∀x∈ms,x.2.2=none)∧ms.length+hs.length≤40∧rising ms∧∀x∈ms,∀y∈hs,x.2.1<y.2.1) (λσ' H' hP=>?_) (λN hN=>?_)
 rotate_left
 ·have none_:N [some (.ref a),some (.ref lw),some (.str (Fw wy)),some (.int sh),some (.ref R),some (.int b),some (.int c),some (.int u),some (.ref M0),none,none,none,none,none,none,none,none,none,none] H8:=hN _ _ ⟨[],none,rfl,s8,e8,λx hx=>absurd hx 0#f,λx hx=>absurd hx 0#f,by simp;simp?,List.Pairwise.nil,λx hx=>absurd hx 0#f⟩
  rw?
  refine cK ew8 (bQ g4 rfl) ?_
  rw?
  refine cD 0#C 0#C
  ·rw?
   refine cy (.inl (aX.of eR8)) ?_
   rw [bh]
   rw?
   refine cD (λc2=>?_) (λc2=>?_)
   ·have Wk:=jw c2
    obtain ⟨e0,he0⟩:∃e,hs[0]?=some e:=⟨_,mC 0#c⟩
    have lo:∀y∈hs,e0.2.1≤y.2.1:=λy hy=>by
     cases hs with
     | nil=>cases hy
     | cons x xs=>
       cases he0
       rcases qU.mp hy with rfl | q
       ·exact DK _
       ·exact Pj ((Zs.mp dH).1 y q)
    rw?
    refine dJ (qD ?_)
    rw?
    refine cy (.inl (aX.of eR8)) ?_
    rw [bh]
    rw?
    refine ⟨_,rfl,by lia,by lia,cA (λj σ H9=>Lq λ(ms:List En) (v9:Option V)=>σ=[some (.ref a),some (.ref lw),some (.str (Fw wy)),some (.int sh),some (.ref R),some (.int b),some (.int c),some (.int u),some (.ref M0),v9,none,none,none,none,none,none,none,none,none]∧au H7 H9∧H9 M0=some (.lst (vals ms))∧Row H9 ms 150∧(∀x∈ms,x.2.2=none)∧ms.length=j∧rising ms∧∀x∈ms,x.2.1<e0.2.1-40+j) ?_ ?_ ?_⟩
    ·exact ⟨[],none,rfl,s8,e8,λx hx=>absurd hx 0#f,λx hx=>absurd hx 0#f,rfl,List.Pairwise.nil,λx hx=>absurd hx 0#f⟩
    ·rintro j σ H9 hj ⟨ms,v9,rfl,s9,e9,hms,hno,hlm,hrm,hlt⟩
     refine cE λM Bk RR hM _ _=>?_
     have eR9:=s9 _ _ eR7
     obtain ⟨ee,z1,_⟩:=(Oc.up s9) e0 (lP he0)
     rw?
     refine ⟨.inl ⟨rfl,_,aX.of e9⟩,?_⟩
     rw?
     refine cK eR9 (di he0 rfl) ?_
     rw?
     refine aF (mk:=.tup) 0#f λpe vf pC yf DV=>?_
     rw?
     have acU:=pC _ _ e9
     refine cJ acU (by rw [aN];exact aO 0#c) ?_
     have zz:Sz 150 (e0.2.1-40+(0+(j:Int))):=by
      have:e0.2.1.natAbs<2 ^ 45:=z1
      refine Sz.of_lt (m:=150) (k:=2 ^ 47) ?_ 0#i
      simp?
     refine hM _ _ ⟨ms++[(pe,e0.2.1-40+(0+(j:Int)),none)],_,rfl,aZ (s9.trans pC) n8,by rw [aB,← fu],Row.app (λx hx=>?_) acU,λx hx=>?_,by rw [fj,hlm];rfl,FA.mpr ⟨hrm,KC _ _,λx hx y hy=>?_⟩,λx hx=>?_⟩
     ·rcases dg.mp hx with q | q
      ·exact (hms.up pC) x q
      ·obtain rfl:=DQ.mp q
       exact ⟨zz,DV⟩
     ·rcases dg.mp hx with q | q
      ·exact hno x q
      ·obtain rfl:=DQ.mp q
       rfl
     ·obtain rfl:=DQ.mp hy
      have:=hlt x hx
      show x.2.1<e0.2.1-40+(0+(j:Int))
      simp?
     ·rcases dg.mp hx with q | q
      ·have:=hlt x q
       simp?
      ·obtain rfl:=DQ.mp q
       show e0.2.1-40+(0+(j:Int))<_
       simp?
    ·rintro σ H9 ⟨ms,v9,rfl,s9,e9,hms,hno,hlm,hrm,hlt⟩
     refine hN _ _ ⟨ms,v9,rfl,s9,e9,hms,hno,by simp?,hrm,λx hx y hy=>?_⟩
     have:=hlt x hx
     have:=lo y hy
     simp?
   ·rw?
    exact none_
  ·refine bI ?_
   rw?
   exact none_
 obtain ⟨ms,v9,rfl,s9,e9,hms,hno,hml,hrm,afA⟩:=hP
 have eR9:=s9 _ _ eR7
 have Od:=Oc.up s9
 rw?
 refine ⟨R,hs,b,45,150,80,150,rfl,eR9,Od,kJ,hb,zb,by decide,by decide,by decide,by decide,λL es vf pC nL eL hR hmap=>?_⟩
 have hlen:=JN hmap
 have V4:=JO hmap dH
 rw?
 refine Fg (pC _ _ e9) eL ?_
 rw [show vals ms++vals es=vals (ms++es) by unfold vals;rw [iI]]
 refine aF (mk:=.lst) (by rw [aN,fj];simp?) λL2 Lk CU n11 VX=>?_
 have hRa:Row Lk (ms++es) 150:=λx hx=>(dg.mp hx).elim (λq=>(hms.up (pC.trans CU)) x q) (λq=>(hR.up CU) x q)
 have hra:rising (ms++es):=FA.mpr ⟨hrm,V4,λx hx y hy=>by
  have:y.2∈hs.map (λx=>cz b x.2):=hmap▸gD.mpr ⟨y,hy,rfl⟩
  obtain ⟨z,hz,e⟩:=gD.mp this
  have:=afA x hx z hz
  rw [← e]
  exact this⟩
 have mJ:=S7 hb hc
 rw?
 refine Jh (n:=150) b0' zc (zb.mono 0#i) 0#i λpb H12 s12 f12=>?_
 have sub:(hs.filter (λx:Nn=>decide (x.2.1≤u))).Sublist hs:=FE
 have afs:∃as bs:List Nn,as++bs=hs.filter (λx:Nn=>decide (x.2.1≤u))∧uD bs∧bU rC as as.length=false:=aaS _
 obtain ⟨as0,bs0,ac8,hS0,afF⟩:=afs
 obtain ⟨X0,hX0,hB0,hp0⟩:=N3 (b:=b) hno hmap ac8 hS0 afF
 have lab:as0.length+bs0.length≤14:=by
  have:=congrArg tY ac8
  rw [fj] at this
  have:=sub.length_le
  simp?
 have lX:X0.length≤14:=by
  have:=j6 hX0
  rw [gU] at this
  simp?
 rw?
 refine ⟨L2,pb,ms++es,_,wy,u,rfl,s12 _ _ VX,hRa.up s12,hra,by rw [fj];simp?,by rw [hp0];exact dP (uu (s:=c8) (es:=X0) _) 0#c,λr hr=>dP (CA (s:=c8) (es:=X0) _ r (hp0▸hr)) 0#c,by rw [j6 hB0,gU];simp?,f12,mJ,?_,λy13 v wv H13 xo N1 hF=>?_⟩
 ·have h1:u.natAbs<2 ^ 46:=zu
  refine Sz.of_lt (m:=150) (k:=2 ^ 47) ?_ 0#i
  simp?
 have Uo:=pC.trans (CU.trans (s12.trans xo))
 rw?
 refine ⟨R,hs,b,45,150,80,150,rfl,Uo _ _ eR9,Od.up Uo,kJ,hb,zb,by decide,by decide,by decide,by decide,λL' es' H14 QK nL' eL' hR' wG=>?_⟩
 rw?
 refine Fg ((Uo.trans QK) _ _ e9) eL' ?_
 rw [show vals ms++vals es'=vals (ms++es') by unfold vals;rw [iI]]
 refine aF (mk:=.lst) (by rw [aN,fj,JN wG];simp?) λL3 H15 s15 n15 e15=>?_
 have Fq:=QK.trans s15
 rw?
 refine XJ (hRa.up (s12.trans (xo.trans Fq))) (λx hx=>(dg.mp hx).elim (λq=>(hms.up (Uo.trans Fq)) x q) (λq=>(hR'.up s15) x q)) ((s12.trans (xo.trans Fq)) _ _ VX) e15 (by rw [iI,iI,hmap,wG]) ?_
 rw?
 refine bI ?_
 have aaU:=Fq _ _ N1
 rw?
 refine wY (.tup aaU) Mb ?_
 rw?
 refine bI ?_
 rw?
 refine cy (.inr (qb.of aaU)) ?_
 rw?
 refine bI ?_
 rw?
 refine Ff ?_
 rw?
 refine jq aaU ?_
 rw?
 refine wY (.int v) L8 ?_
 rw?
 refine bI ?_
 rw?
 refine wY (.int v) Ma ?_
 rw?
 refine bI ?_
 rw?
 refine Ff ?_
 rw?
 have acf:=Uo.trans Fq
 refine ⟨R,hs,u,45,150,rfl,acf _ _ eR9,Od.up acf,jS,λy16 A' B' as bs H16 s16 e16 eA eB hab hSb hin=>?_⟩
 obtain ⟨X,hX,hB,hp⟩:=N3 (b:=b) hno hmap hab hSb hin
 have sa:as.Sublist hs:=(YT as bs).trans (hab▸sub)
 have sb:bs.Sublist hs:=(YQ as bs).trans (hab▸sub)
 have afJ:∀x∈bs,x.2.1≤u:=λx hx=>by
  have hm:x∈hs.filter (λx:Nn=>decide (x.2.1≤u)):=hab▸Bc as hx
  exact jw (DS.mp hm).2
 have la:as.length≤14:=dP sa.length_le hle
 have lb:bs.length≤14:=dP sb.length_le hle
 have GA:=Od.up (acf.trans s16)
 refine jq e16 ?_
 rw?
 refine ⟨A',as,wy,c,b,45,150,rfl,eA,λx hx=>GA x (sa.subset hx),dH.sublist sa,dP la 0#i,zc,by decide,by decide,hb,hc,λt1 H17 s17 ht1=>?_⟩
 rw?
 refine ⟨B',bs,wy,c,b,45,150,rfl,s17 _ _ eB,λx hx=>(GA.up s17) x (sb.subset hx),hSb,dH.sublist sb,dP lb 0#i,zc,by decide,by decide,hb,hc,λx H18 s18 hx=>?_⟩
 rw?
 have Uj:=s17.trans s18
 obtain ⟨ev,fl⟩:=WC hF hX hB hp ht1 hx hSb
 rw [jb ev]
 refine bI ?_
 rw?
 refine ⟨B',bs,wy,c,b,45,150,rfl,Uj _ _ eB,λx hx=>(GA.up Uj) x (sb.subset hx),dH.sublist sb,dP lb 0#i,zc,by decide,by decide,hb,hc,λd2 H19 s19 h2=>?_⟩
 obtain ⟨f1,f2⟩:=fl d2 h2
 have Uk:=Uj.trans s19
 rw?
 refine cD 0#C 0#C
 ·obtain rfl:=f1 (by have:=jw c1;simp?)
  rw?
  exact ⟨rfl,k H19⟩
 ·obtain ⟨hBC,hH,hnn⟩:=f2 (by have:=gY (gQ.mpr c1);simp?)
  rcases hH with ⟨z,_⟩ | ⟨ao,t,hw,hFt,hn⟩
  ·exact absurd z hnn
  subst hw
  cases hn with
  | no _=>exact absurd rfl hnn
  | @yes z q p G ez hpl ex lt hT hG fq=>
    have YI:au H13 H19:=Fq.trans (s16.trans Uk)
    rw?
    refine ⟨z,q,B',bs,_,b,c,u,_,rfl,YI _ _ ez,fq.up YI,Uk _ _ eB,λx hx=>(GA.up Uk) x (sb.subset hx),hSb,dH.sublist sb,afJ,dP lb 0#i,zb,hb,zc,hc,zu,λd es2 H20 s20 hm2 hd=>?_⟩
    have hd':RT ao 0#t es2 d:=by cases ao <;> exact hd
    have hBT:BT ao 0#t (Bj (ms++es) u) x:=by cases ao <;> exact hBC
    have eq:d=x:=aaP (es:=Bj (ms++es) u) (hra.sublist ((Ag _ _).trans FE)) (λe he=>jw (DS.mp ((Ag _ _).subset he)).2) hFt hpl ex hBT hT hG (by rw [hm2,hB]) hd'
    rw?
    refine 0#M
    rw?
    refine cB ?_
    rw?
    rw [jb (show t1+d=t1+x by rw [eq])]
    exact k H20
end
theorem all_mk {l:Vm} (X:K.In h) (G:h.Ns fT mg) (hfa:mg "law"=some (.ref fa)) 
 (Py:jc K fT "Stretch"=some (some (.ref aR))) (MQ:FG K aR VS=true) (LV:KQ K aR=true) (MS:O1 K aR=true) (Nc:ko K (.ref aR) "__setattr__"=some (some (.builtin "object.__setattr__"))) (Mh:O8 K aR=true) (L7:yd K (.ref aR)=true)
 (yD:ko K (.ref aR) "twice"=some none)
 (vA:ko K (.ref aR) "samples"=some none)
 (uH:ko K (.ref aR) "gentlest"=some none)
 (uI:ko K (.ref aR) "steepest"=some none)
 (aaJ:jc K fT "Bend"=some (some (.ref aD))) (Xy:FG K aD VS=true) (WV:KQ K aD=true) (XA:O1 K aD=true) (XM:ko K (.ref aD) "__setattr__"=some (some (.builtin "object.__setattr__"))) (Xd:O8 K aD=true) (W7:yd K (.ref aD)=true)
 (Ed:ko K (.ref aD) "bound"=some none)
 (Ef:ko K (.ref aD) "twice"=some none)
 (Ec:ko K (.ref aD) "below"=some none)
 (Eb:ko K (.ref aD) "above"=some none)
 (yz:ko K (.ref aD) "gentlest"=some none)
 (yC:ko K (.ref aD) "steepest"=some none)
 (LI:Fx K "_law_cell" vG)
 (P0:Fx K "_law_mix" yY)
 (P4:Fx K "_law_row" yZ)
 (Jr:Fx K "_law_ratio" sV)
 (B8:Fx K "_law_is_ratio" nK)
 (AG:Fx K "plain_divisor" lJ)
 (yu:Fx K "steps_of_heads" j9)
 (PY:Fx K "divisor" yW)
 (WO:Fx K "ratio" HL)
 (P6:Fx K "reduced" zj)
 (Gw:Fx K "loose_plus" qL)
 (uP:Fx K "loose_minus" kB)
 (D5:Fx K "loose_times" o6)
 (WM:Fx K "minus" HJ)
 (abg:Fx K "plus" M9)
 (abf:Fx K "over" M8)
 (oV:Fx K "loose_slope" iV)
 (D3:Fx K "loose_along" o4)
 (B9:Fx K "loose_height" nN)
 (Jx:Fx K "loose_off" tD)
 (WQ:Fx K "slope" HM)
 (P5:Fx K "line_by" zf)
 (Sm:Fx K "height" CV)
 (abe:Fx K "meet" M7)
 (WN:Fx K "order" HK)
 (h_size:Fx K "size" Nb)
 (D4:Fx K "loose_stand" o5)
 (abh:Fx K "runs" Na)
 (Gv:Fx K "_law_shaped" qK)
 (Ju:Fx K "_law_times" sY)
 (Gu:Fx K "_law_picked" qJ)
 (Jp:Fx K "_law_drawn" sR)
 (yt:Fx K "loose_farthest" j8)
 (Gq:Fx K "_law_handed" qH)
 (Js:Fx K "_law_stand" sW)
 (LH:Fx K "greatest" vF)
 (LR:Fx K "smallest" vO)
 (D0:Fx K "good_behind" oZ)
 (WL:Fx K "leaps" HH)
 (Jm:Fx K "labels_by" sP)
 (So:Fx K "labels" CY)
 (PX:Fx K "bars_by" yV)
 (vv:Fx K "places_of_pieces" i9)
 (AF:Fx K "piece_between" lI)
 (LU:Fx K "tied_run" vQ)
 (LS:Fx K "tied_row" vP)
 (WR:Fx K "spans" HN)
 (WK:Fx K "chain" HG)
 (B5:Fm K aR "__init__" "Stretch.__init__" nH)
 (AD:Fx K "gentlest_with" lG)
 (AI:Fx K "steepest_with" lM)
 (AA:Fm K aR "takes" "Stretch.takes" lE)
 (B6:Fm K aR "kept" "Stretch.kept" nI)
 (Jy:Fx K "stretches" tE)
 (Cb:Fx K "whole_points" nQ)
 (DZ:Fx K "above_chord" oY)
 (D7:Fx K "scaled_offs" o8)
 (Jl:Fx K "exchanged" sO)
 (AB:Fx K "forcing_three" lF)
 (WS:Fx K "stand" HP)
 (WT:Fx K "times" HQ)
 (abd:Fx K "best" M6)
 (D6:Fx K "piece_along" o7)
 (Gm:Fx K "best_piece" qE)
 (B7:Fx K "ending_three" nJ)
 (WJ:Fx K "apart" HF)
 (LP:Fx K "opposite" vM)
 (Gn:Fx K "is_steeper" qF)
 (P9:Fx K "touched" zo)
 (Jj:Fm K aD "__init__" "Bend.__init__" sM)
 (B4:Fm K aD "line_of" "Bend.line_of" nG)
 (uE:Fm K aD "ended_in_cap" "Bend.ended_in_cap" iO)
 (uF:Fm K aD "ended_in_cup" "Bend.ended_in_cup" iP)
 (Jk:Fm K aD "take" "Bend.take" sN)
 (Az:Fm K aD "line_now" "Bend.line_now" lD)
 (LO:Fx K "links_of" vL)
 (LQ:Fx K "point_on" vN)
 (Ca:Fx K "pieces_along" nO)
 (Sn:Fx K "joined" CW)
 (LM:Fx K "_law_runs" vJ)
 (LN:Fx K "_law_turn" vK)
 (Jw:Fx K "_law_turns" tu)
 (wD:Fx K "settled_entries" jJ)
 (AE:Fx K "parted_at_gap" lH)
 (P7:Fx K "told_by" zk)
 (AH:Fx K "slope_through" lK)
 (Sq:Fx K "spared" CZ)
 (PZ:Fx K "_law_far" yX)
 (Jt:Fx K "_law_steps" sX)
 (Jo:Fx K "_law_count" sQ)
 (Jv:Fx K "_law_total" sZ)
 (ac6:Fx K "few" Up)
 (Gs:Fx K "_law_moment" qI)
 (Jq:Fx K "_law_parts" sU)
 (LJ:Fx K "_law_cone" vH)
 (LK:Fx K "_law_rest" vI)
 (Gp:Fx K "_law_brings" qG)
 (ac7:Fx K "law" Uq)
 (aba:jc K fT "HEAD"=some (some (.int 256 afm)))
 (aes:jc K fT "len"=some none)
 (aeo:jc K fT "abs"=some none)
 (X9:jc K fT "range"=some none)
 (Iz:jc K fT "isinstance"=some none)
 (aer:jc K fT "int"=some none)
 (acA:jc K fT "bool"=some none)
 (Yb:jc K fT "tuple"=some none)
 (acB:jc K fT "list"=some none)
 (aet:jc K fT "max"=some none)
 (aeu:jc K fT "min"=some none)
 (Kz:jc K fT "enumerate"=some none)
 (aex:jc K fT "zip"=some none)
 (aep:jc K fT "all"=some none)
 (aeq:jc K fT "any"=some none)
 (aew:jc K fT "sum"=some none)
 (U1:jc K fT "sorted"=some none)
 (NG:jc K fT "reversed"=some none)
 (aev:jc K fT "str"=some none) :
 ∃fd:jP,(∀(s:bA) (v:aL),BindsTo s fd ⟨[v],[]⟩ [("_law_script",v)])∧∀base:cN,K.In base→base.Ns fT mg→bf l.prog w K mg base cY 12 fa fd ["_law_script"] (Ko K):=by
 obtain ⟨_,aa3,acP,Ye⟩:=ac7
 have e:=hfa.symm.trans (K2 X G acP)
 cases e
 have T:Txt mg:=⟨rE X G aes,rE X G aeo,rE X G X9,rE X G Iz,rE X G aer,rE X G acA,rE X G Yb,rE X G acB,rE X G aet,rE X G aeu,rE X G Kz,rE X G aex,rE X G aep,rE X G aeq,rE X G aew,rE X G U1,rE X G NG,rE X G aev⟩
 obtain ⟨_,_,BQ,Cd,rT⟩:=B5
 obtain ⟨_,_,IT,JD,zV⟩:=Jj
 have uZ:Cn mg "HEAD" 256:=⟨_,K2 X G aba⟩
 have aY:Cl K mg "Stretch" aR ["twice","samples","gentlest","steepest"]:=⟨⟨MQ,LV,MS,Nc⟩,K2 X G Py,⟨yD,vA,uH,uI,trivial⟩⟩
 have aP:Cl K mg "Bend" aD ["bound","twice","below","above","gentlest","steepest"]:=⟨⟨Xy,WV,XA,XM⟩,K2 X G aaJ,⟨Ed,Ef,Ec,Eb,yz,yC,trivial⟩⟩
 refine ⟨aa3,λs v=>?_,λbase _ _=>?_⟩
 ·obtain ⟨_,_,_,_,_,_,_,_,_,rfl,_,_⟩:=Ye.ex
  exact .of_eq rfl
 have Y:Tp l.prog w K mg base:=⟨h,X,G⟩
 have qe:=Y.d LI λF=>JY F T
 have t6:=Y.d P0 λF=>MB F
 have mF:=Y.d P4 λF=>MC F T qe t6
 have fB:=Y.d Jr λF=>G5 F T
 have mR:=Y.d B8 λF=>AQ F T fB
 have ly:=Y.d AG λF=>yL F T
 have j4:=Y.d yu λF=>wR F uZ
 have mE:=Y.d PY λF=>Mz F T uZ ly j4
 have t9:=Y.d WO λF=>Tn F T mE
 have bH:=Y.d P6 λF=>ME F t9
 have bP:=Y.d Gw λF=>Eo F
 have aS:=Y.d uP λF=>Cs F
 have dh:=Y.d D5 λF=>Cv F
 have Bf:=Y.d WM λF=>Ti F aS bH
 have ql:=Y.d abg λF=>Xn F bP bH
 have Li:=Y.d abf λF=>Xm F t9
 have gR:=Y.d oV λF=>Ct F aS
 have cC:=Y.d D3 λF=>Cr F bP dh
 have fX:=Y.d B9 λF=>AR F bP dh
 have rQ:=Y.d Jx λF=>Hg F aS fX
 have Bg:=Y.d WQ λF=>Tq F gR bH
 have jY:=Y.d P5 λF=>MD F cC bH
 have iQ:=Y.d Sm λF=>Qw F fX bH
 have Lh:=Y.d abe λF=>Xl F Li Bf iQ
 have cP:=Y.d WN λF=>Tj F
 have oQ:=Y.d D4 λF=>Cu F aS cC gR
 have qo:=Y.d abh λF=>Xo F T
 have qh:=Y.d Gv λF=>Em F T
 have rP:=Y.d Ju λF=>G8 F
 have qg:=Y.d Gu λF=>El F T
 have rN:=Y.d Jp λF=>G3 F T mF qh qg rP
 have mS:=Y.d uP λF=>AS F
 have mT:=Y.d oV λF=>AU F mS
 have jZ:=Y.d yt λF=>wQ F T cP mT
 have lV:=Y.d Gq λF=>Ej F fB
 have jg:=Y.d Js λF=>G6 F
 have c9:=Y.d LH λF=>JX F cP
 have gF:=Y.d LR λF=>J7 F cP
 have bN:=Y.d oV λF=>AV F aS
 have oO:=Y.d D0 λF=>Cq F T cP bP aS bN c9 gF
 have t8:=Y.d WL λF=>Tg F T oO
 have jf:=Y.d Jm λF=>GZ F T
 have BF:=Y.d So λF=>Qy F T t8 jf
 have yi:=Y.d PX λF=>Mx F T jZ
 have iZ:=Y.d vv λF=>uJ F T
 have lu:=Y.d AF λF=>yK F T
 have vd:=Y.d LU λF=>J9 F T t8 jf iZ lu yi
 have j5:=Y.d LS λF=>J8 F T qo vd
 have FY:=Y.d WR λF=>Tt F T j5
 have FU:=Y.d WK λF=>Tf F T j5
 have tZ:Dk l.prog w K mg base 6 "Stretch" aR ["self","bound"] (Dc aR):=⟨_,_,AM rT aY ql,⟨Mh,BQ,Cd,L7⟩,(rT.F7 λ_ _ _ _ _ _ _ _=>rfl),aY.at_⟩
 have cO:=Y.d AD λF=>yI F T aS bN c9
 have cQ:=Y.d AI λF=>yN F T bP bN gF
 have iY:=Y.m AA λF=>yG F T aY cO cQ cP
 have jB:=Y.m B6 λF=>AN F T aY
 have rR:=Y.d Jy λF=>Hh F T aY tZ iY jB
 have mV:=Y.d Cb λF=>AX F mE
 have kq:=Y.d DZ λF=>Cp F
 have oS:=Y.d D7 λF=>Cy F kq
 have rM:=Y.d Jl λF=>GY F
 have kX:=Y.d AB λF=>yH F T mV oS rM
 have FZ:=Y.d WS λF=>Tu F bH oQ
 have F0:=Y.d WT λF=>Tv F dh bH
 have FW:=Y.d h_size λF=>To F T
 have yj:=Y.d abd λF=>Xk F T Bg jY kX F0 FZ ql FW
 have oR:=Y.d D6 λF=>Cw F iQ
 have qc:=Y.d Gm λF=>Eg F oR yj
 have mQ:=Y.d B7 λF=>AO F T yj
 have FT:=Y.d WJ λF=>Te F T qo rR qc mQ
 have j3:=Y.d LP λF=>J4 F
 have lU:=Y.d Gn λF=>Eh F cP
 have ji:=Y.d P9 λF=>MG F cP rQ
 have Lg:Dk l.prog w K mg base 6 "Bend" aD ["self","bound"] (By aD):=⟨_,_,GW zV aP ql,⟨Xd,IT,JD,W7⟩,(zV.F7 λ_ _ _ _ _ _ _ _=>rfl),aP.at_⟩
 have cL:=Y.m B4 λF=>AL F aP bH cC aS c9
 have iJ:=Y.m uE λF=>sA F aP cL ji j3 cQ
 have iK:=Y.m uF λF=>sC F aP cL ji j3 cO
 have rL:=Y.m Jk λF=>GX F aP cO cQ lU iJ iK
 have kW:=Y.m Az λF=>yF F T aP jY cL
 have vc:=Y.d LO λF=>J3 F T aP Lg rL kW
 have qm:=Y.d LQ λF=>J5 F iQ
 have mU:=Y.d Ca λF=>AW F T qm Lh
 have BE:=Y.d Sn λF=>Qx F T qo vc mU
 have u7:=Y.d LM λF=>J1 F T
 have u9:=Y.d LN λF=>J2 F T jg
 have kI:=Y.d Jw λF=>Hf F T u9
 have jC:=Y.d wD λF=>vB F
 have kZ:=Y.d AE λF=>yJ F T
 have uh:=Y.d P7 λF=>MF F FT BE FY FU
 have lz:=Y.d AH λF=>yM F aS bP bN c9 gF cP
 have BG:=Y.d Sq λF=>Qz F T BF lz cC bH
 have yk:=Y.d PZ λF=>MA F T jg
 have jh:=Y.d Jt λF=>G7 F T yk
 have fz:=Y.d Jo λF=>G2 F T kI jh
 have ow:=Y.d Jv λF=>G9 F T u7 fz
 have Rq:=Y.d ac6 λF=>abJ F T jC kZ uh BG
 have qf:=Y.d Gs λF=>Ek F T
 have rO:=Y.d Jq λF=>G4 F T
 have u5:=Y.d LJ λF=>JZ F T
 have u6:=Y.d LK λF=>J0 F T fz jh u5
 have qd:=Y.d Gp (λF=>Ei F T mR fz) λF=>F.aaO λ_ _ _ _ _ _ _ _ _ _ _ _=>rfl
 exact abK Ye T mF rN qf fB lV Rq rO ow u6 qd
theorem walk {l:Vm} {K:Params→b9} (hn:l.most=some 63) (hdf:d.params.defaults=[])
 (hY:∀(w:eV) (h:cN),YP w h→(K w.params).In h)
 (F:∀(w:eV) (mg:Str→Option aL) (fa:av) (h:cN),(K w.params).In h→h.Ns fT mg→mg d.name=some (.ref fa) →
   ∃fd:jP,(∀(s:bA) (u:aL),BindsTo s fd ⟨[u],[]⟩ [("_law_script",u)])∧∀base:cN,(K w.params).In base→base.Ns fT mg→bf l.prog w (K w.params) mg base cY 12 fa fd ["_law_script"] (Ko (K w.params))) :
 aae q loose XP YP l.row.toRowW d [] (λf vs=>VQ f vs):=
 L2.X8 (n:=63) (k:=12) (x := "_law_script") (CX:=λ_=>cY) (sp:=λw=>Ko (K w.params)) hn 0#i hdf ⟨rfl,by decide,by decide⟩ hY F (λ_ _ a ns hl _ hS=>⟨a,ns,rfl,hS,hl,λ_=>rfl⟩) λ_ _ _ _ _ z=>z
end Lw
open PySem PySem.W PyProof.Rows
set_option maxRecDepth 100000 in
set_option maxHeartbeats 0 in
theorem PySem.Challenge.cw_lath_k72_few_holds : PySem.Challenge.rw_lath_k72_few.Holds := by
 w_on;o_law;k_head;(case hw=>w_witness2)
 k_fill
 refine Lw.walk (l:=PySem.Challenge.rw_lath_k72_few) rfl rfl (fun w h Y=>PySem.W.kIn_of Y) ?F
 case F=>
  intro w mg fa h KX G hmg
  refine' Lw.all_mk KX G hmg .. <;> first | done | walk_at "fz" | skip
